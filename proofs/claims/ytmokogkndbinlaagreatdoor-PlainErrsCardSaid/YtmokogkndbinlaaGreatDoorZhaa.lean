import Derived.OrdersHeld
import Derived.Deep.RegionHeld
import Derived.WalkKit
import Derived.WalkLawsBesides
import Derived.ProofKit
import Derived.Handy
import Derived.Lib.Hide
import Derived.Below
import Derived.Test.YtmokogkndbinlaaGreatDoorRows
import Derived.IntWalk
import Derived.BigQuiet
import Derived.Deep.QuietTactic
import Derived.Deep.RegionWith
import Derived.Laws.AppendOwn
import Derived.RangeFuncBox
import Derived.Deep.Cut
import Derived.Laws.DeepStrings4
import Derived.Lib.SlBytesRow
import Derived.Laws.AppendOwnNone
import Derived.WalkMore
set_option linter.all false
namespace Go.Proofs.YtmokogkndbinlaaGreatDoor
open Go.Lib (hid)
theorem pa:type_of% @List.getElem_toArray:=@List.getElem_toArray
theorem pb:type_of% @List.getElem_cons_succ:=@List.getElem_cons_succ
theorem pc:type_of% @List.getElem_cons_zero:=@List.getElem_cons_zero
theorem pd:type_of% @List.setIfInBounds_toArray:=@List.setIfInBounds_toArray
theorem pe:type_of% @List.set_cons_zero:=@List.set_cons_zero
theorem pf:type_of% @List.set_cons_succ:=@List.set_cons_succ
theorem wt {P:Program}{ops:Array Oper}{Q:Exit→Act→World→Prop}{md:Region.Mode}{S:World→Prop}(i:Nat) {oi:Oper}{v:Value}{fuel:Nat}{listed:Array Bool}{a:Act}{w:World}
    {l':Array Bool}{a':Act}(h:wpAnyH P md ops Q S fuel l' a' w)
    (hi:ops[i]? = some oi:=by rfl) (hs:Region.noSelect ops=true:=by kernel_rfl) (hf:Region.free md ops listed i=true:=by kernel_rfl) (hr:(Region.ready md ops listed).contains i=true:=by kernel_rfl)
    (hQ:∀ c a w,Q (.panic c) (a.put oi.dst v) w→Q (.panic c) a w:=by exact fun _ _ _ h=>h)
    (hg:Region.wanted oi (yielded ops a.tmps)=true:=by rfl)
    (hy:∀ w,S w→(execOp a.eval oi).run P w = .ok (.value v) w:=by (intro w hSw;(try dsimp only at hSw);go_simp);try with_reducible rfl)
    (hS:S w:=by assumption) (hl:listed.setIfInBounds i true=l':=by (try simp only [pa,pb,pc,pd,pe,pf]) <;> rfl) (ha:a.put oi.dst v=a':=by (try simp only [Act.put,pa,pb,pc,pd,pe,pf]) <;> rfl):wpAnyH P md ops Q S (fuel+1) listed a w :=
  wpAnyH_take hi hs hf hr hQ (Or.inl ⟨hg,hy⟩) hS (by rw [hl,ha];exact h)
theorem wu {P:Program}{ops:Array Oper}{Q:Exit→Act→World→Prop}{md:Region.Mode}{S:World→Prop}(i:Nat) {oi:Oper}{fuel:Nat}{listed:Array Bool}{a:Act}{w:World}
    {l':Array Bool}{a':Act}(h:wpAnyH P md ops Q S fuel l' a' w)
    (hi:ops[i]? = some oi:=by rfl) (hs:Region.noSelect ops=true:=by kernel_rfl) (hf:Region.free md ops listed i=true:=by kernel_rfl) (hr:(Region.ready md ops listed).contains i=true:=by kernel_rfl)
    (hQ:∀ c a w,Q (.panic c) (a.put oi.dst undef) w→Q (.panic c) a w:=by exact fun _ _ _ h=>h)
    (hg:Region.wanted oi (yielded ops a.tmps)=false:=by rfl)
    (hS:S w:=by assumption) (hl:listed.setIfInBounds i true=l':=by (try simp only [pa,pb,pc,pd,pe,pf]) <;> rfl) (ha:a.put oi.dst undef=a':=by (try simp only [Act.put,pa,pb,pc,pd,pe,pf]) <;> rfl):wpAnyH P md ops Q S (fuel+1) listed a w :=
  wpAnyH_take hi hs hf hr hQ (Or.inr ⟨hg,rfl⟩) hS (by rw [hl,ha];exact h)
theorem wr1 {P:Program}{ops:Array Oper}{Q:Exit→Act→World→Prop}{md:Region.Mode}{S:World→Prop}(i:Nat) {o:Oper}{fuel:Nat}{listed:Array Bool}{a:Act}{w:World}
    (h:∀ K':Act→World→Prop,Shut (∀ a w,S w→(S w→wpAnyH P md ops Q S fuel (listed.setIfInBounds i true) a w)→K' a w)→if Region.wanted o (yielded ops a.tmps)=true then Oper.wp P o a w K' Q else K' (a.put o.dst undef) w)
    (ho:ops[i]? = some o:=by rfl) (hr:Region.ready md ops listed=[i]:=by kernel_rfl):wpAnyH P md ops Q S (fuel+1) listed a w :=
  wpAnyH_ready hr (List.cons_ne_nil _ _) (AllReadyH.cons ho h AllReadyH.nil)
def nth (l:List Nat) (i:Nat):Nat:=l.getD i 0
def prodL:List Nat→Nat
 | []=>1
 | n::r=>n * prodL r
def numL:List Nat→List Nat→Nat
 | _::r,v::t=>v * prodL r+numL r t
 | _,_=>0
def tupL:List Nat→Nat→List Nat
 | [],_=>[]
 | n::r,i=>(i / prodL r % n)::tupL r i
def allL:List Nat→List (List Nat)
 | []=>[[]]
 | n::r=>(List.range n).flatMap fun v=>(allL r).map (v::·)
def InL:List Nat→List Nat→Prop
 | [],[]=>True
 | n::r,v::t=>v < n∧InL r t
 | _,_=>False
theorem prodL_pos {l:List Nat}(h:∀ n∈l,1≤n):1≤prodL l:=by
 induction l with
 | nil=>exact Nat.le_refl _
 | cons n r ih =>
  have h1:=h n (by simp);have h2:=ih fun m hm=>h m (by simp [hm]);exact Nat.mul_le_mul h1 h2
theorem prodL_append (l m:List Nat):prodL (l++m)=prodL l * prodL m:=by
 induction l with
 | nil=>simp [prodL]
 | cons n r ih=>simp [prodL,ih,Nat.mul_assoc]
theorem prodL_le {l:List Nat}{c:Nat}(h:∀ n∈l,n≤c):prodL l≤c ^ l.length:=by
 induction l with
 | nil=>simp [prodL]
 | cons n r ih =>
  have h1:=h n (by simp);have h2:=ih fun m hm=>h m (by simp [hm]);show n * prodL r≤c ^ (r.length+1);rw [Nat.pow_succ,Nat.mul_comm];exact Nat.mul_le_mul h2 h1
theorem tupL_length (l:List Nat) (i:Nat):(tupL l i).length=l.length:=by
 induction l with
 | nil=>rfl
 | cons n r ih=>simp [tupL,ih]
theorem tupL_mod (l:List Nat) (i:Nat):tupL l (i % prodL l)=tupL l i:=by
 induction l generalizing i with
 | nil=>rfl
 | cons n r ih =>
  show (i % (n * prodL r) / prodL r % n)::tupL r (i % (n * prodL r))=(i / prodL r % n)::tupL r i;congr 1
  ·rw [Nat.mul_comm n,Nat.mod_mul_right_div_self,Nat.mod_mod]
  rw [← ih (i % (n * prodL r)),Nat.mul_comm n,Nat.mod_mul_right_mod,ih]
theorem tupL_cons {n:Nat}{r:List Nat}{v j:Nat}(hv:v < n) (hj:j < prodL r):tupL (n::r) (v * prodL r+j)=v::tupL r j:=by
 have hp:0 < prodL r:=by omega
 show ((v * prodL r+j) / prodL r % n)::tupL r (v * prodL r+j)=v::tupL r j;congr 1
 ·rw [Nat.mul_comm,Nat.mul_add_div hp,Nat.div_eq_of_lt hj,Nat.add_zero,Nat.mod_eq_of_lt hv]
 rw [← tupL_mod r (v * prodL r+j),Nat.add_comm,Nat.add_mul_mod_self_right,Nat.mod_eq_of_lt hj]
theorem range_mul (n p:Nat) {α:Type}(f:Nat→α):(List.range (n * p)).map f=(List.range n).flatMap fun v=>(List.range p).map fun j=>f (v * p+j):=by
 induction n with
 | zero=>simp
 | succ n ih =>
  rw [Nat.succ_mul,List.range_add,List.map_append,ih,List.range_succ,List.flatMap_append];simp
theorem allL_eq (l:List Nat):allL l=(List.range (prodL l)).map (tupL l):=by
 induction l with
 | nil=>rfl
 | cons n r ih =>
  show (List.range n).flatMap (fun v=>(allL r).map (v::·))=(List.range (n * prodL r)).map (tupL (n::r));rw [range_mul,ih];have e:∀ l:List Nat,(∀ v∈l,v < n)→l.flatMap (fun v=>((List.range (prodL r)).map (tupL r)).map (v::·))=l.flatMap fun v=>(List.range (prodL r)).map fun j=>tupL (n::r) (v * prodL r+j):=by
   intro l hl;induction l with
   | nil=>rfl
   | cons v q ihq =>
    rw [List.flatMap_cons,List.flatMap_cons,ihq fun x hx=>hl x (by simp [hx]),List.map_map];congr 1
    apply List.map_congr_left;intro j hj;exact (tupL_cons (hl v (by simp)) (by simpa using hj)).symm
  exact e _ fun v hv=>by simpa using hv
theorem allL_length (l:List Nat):(allL l).length=prodL l:=by rw [allL_eq];simp
theorem allL_get (l:List Nat) {i:Nat}(h:i < prodL l):(allL l).getD i []=tupL l i:=by
 rw [allL_eq,List.getD_eq_getElem?_getD,List.getElem?_map,List.getElem?_range h];rfl
theorem InL.length {l t:List Nat}(h:InL l t):t.length=l.length:=by
 induction l generalizing t with
 | nil=>cases t with
  | nil=>rfl
  | cons=>exact h.elim
 | cons n r ih=>cases t with
  | nil=>exact h.elim
  | cons v t=>simp [ih h.2]
theorem InL.num_lt {l t:List Nat}(h:InL l t):numL l t < prodL l:=by
 induction l generalizing t with
 | nil=>cases t with
  | nil=>exact Nat.zero_lt_one
  | cons=>exact h.elim
 | cons n r ih=>cases t with
  | nil=>exact h.elim
  | cons v t =>
   have h1:=ih h.2;have h2:(v+1) * prodL r≤n * prodL r:=Nat.mul_le_mul_right _ h.1;show v * prodL r+numL r t < n * prodL r;rw [Nat.succ_mul] at h2;omega
theorem InL.tup {l t:List Nat}(h:InL l t):tupL l (numL l t)=t:=by
 induction l generalizing t with
 | nil=>cases t with
  | nil=>rfl
  | cons=>exact h.elim
 | cons n r ih=>cases t with
  | nil=>exact h.elim
  | cons v t =>
   show tupL (n::r) (v * prodL r+numL r t)=v::t;rw [tupL_cons h.1 h.2.num_lt,ih h.2]
theorem tupL_in {l:List Nat}(h:∀ n∈l,1≤n) (i:Nat):InL l (tupL l i):=by
 induction l with
 | nil=>trivial
 | cons n r ih=>exact⟨Nat.mod_lt _ (h n (by simp)),ih fun m hm=>h m (by simp [hm])⟩
theorem num_tup {l:List Nat}{i:Nat}(h:i < prodL l):numL l (tupL l i)=i:=by
 induction l generalizing i with
 | nil=>exact (Nat.lt_one_iff.1 h).symm
 | cons n r ih =>
  have hp:0 < prodL r:=by
   rcases Nat.eq_zero_or_pos (prodL r) with e | e
   ·simp [prodL,e] at h
   exact e
  show (i / prodL r % n) * prodL r+numL r (tupL r i)=i;rw [← tupL_mod r i,ih (Nat.mod_lt _ hp),Nat.mod_eq_of_lt (by rw [Nat.div_lt_iff_lt_mul hp];exact h)];exact Nat.div_add_mod' _ _
theorem inL_iff {l t:List Nat}:InL l t↔t.length=l.length∧∀ p,p < l.length→nth t p < nth l p:=by
 induction l generalizing t with
 | nil=>cases t with
  | nil=>simp [InL]
  | cons=>simp [InL]
 | cons n r ih=>cases t with
  | nil=>simp [InL]
  | cons v t =>
   show v < n∧InL r t↔_;rw [ih];constructor
   ·rintro⟨h1,h2,h3⟩
    refine⟨by simp [h2],fun p hp=>?_⟩;cases p with
    | zero=>exact h1
    | succ p=>exact h3 p (by simpa using hp)
   rintro⟨h1,h2⟩;exact⟨h2 0 (by simp),by simpa using h1,fun p hp=>h2 (p+1) (by simpa using hp)⟩
def numTo (l t:List Nat) (p:Nat):Nat:=numL (l.take p) (t.take p)
theorem numL_append {l t l2 t2:List Nat}(h:t.length=l.length):numL (l++l2) (t++t2)=numL l t * prodL l2+numL l2 t2:=by
 induction l generalizing t with
 | nil=>cases t with
  | nil=>simp [numL]
  | cons=>simp at h
 | cons n r ih=>cases t with
  | nil=>simp at h
  | cons v t =>
   have:=ih (t:=t) (by simpa using h);show v * prodL (r++l2)+numL (r++l2) (t++t2)=(v * prodL r+numL r t) * prodL l2+numL l2 t2;rw [this,prodL_append,Nat.add_mul,Nat.mul_assoc,Nat.add_assoc]
theorem numTo_succ {l t:List Nat}(h:t.length=l.length) {p:Nat}(hp:p < l.length):numTo l t (p+1)=numTo l t p * nth l p+nth t p:=by
 unfold numTo;rw [List.take_succ_eq_append_getElem hp,List.take_succ_eq_append_getElem (l:=t) (by omega),numL_append (by simp;omega)];simp [nth,numL,prodL,List.getD_eq_getElem?_getD,List.getElem?_eq_getElem hp,List.getElem?_eq_getElem (show p < t.length by omega)]
theorem numTo_all {l t:List Nat}(h:t.length=l.length):numTo l t l.length=numL l t:=by
 unfold numTo;rw [List.take_length,← h,List.take_length]
theorem tupL_getD (l:List Nat) (i p:Nat) (hp:p < l.length):nth (tupL l i) p=i / prodL (l.drop (p+1)) % nth l p:=by
 induction l generalizing p with
 | nil=>simp at hp
 | cons n r ih =>
  cases p with
  | zero=>rfl
  | succ p=>exact ih p (by simpa using hp)
theorem prodL_drop (l:List Nat) (p:Nat) (hp:p < l.length):prodL (l.drop p)=nth l p * prodL (l.drop (p+1)):=by
 rw [List.drop_eq_getElem_cons hp];simp [nth,prodL,List.getD_eq_getElem?_getD,List.getElem?_eq_getElem hp]
theorem prod_take (l:List Nat) {j:Nat}(h:j < l.length):prodL (l.take (j+1))=prodL (l.take j) * nth l j:=by
 rw [List.take_succ_eq_append_getElem h,prodL_append];simp [nth,prodL,List.getD_eq_getElem?_getD,List.getElem?_eq_getElem h]
theorem nth_mem {l:List Nat}{i:Nat}(h:i < l.length):nth l i∈l:=by
 unfold nth;rw [List.getD_eq_getElem?_getD,List.getElem?_eq_getElem h];exact List.getElem_mem h
theorem nth_far {l:List Nat}{i:Nat}(h:l.length≤i):nth l i=0:=by
 unfold nth;rw [List.getD_eq_getElem?_getD,List.getElem?_eq_none h];rfl
theorem nth_le {l:List Nat}{c:Nat}(h:∀ n∈l,n≤c) (i:Nat):nth l i≤c:=by
 rcases Nat.lt_or_ge i l.length with hi | hi
 ·exact h _ (nth_mem hi)
 rw [nth_far hi];exact Nat.zero_le _
theorem nth_eq {l m:List Nat}(hl:l.length=m.length) (h:∀ i,i < l.length→nth l i=nth m i):l=m:=by
 apply List.ext_getElem hl;intro i h1 h2;have:=h i h1;unfold nth at this;simpa [List.getD_eq_getElem?_getD,List.getElem?_eq_getElem h1,List.getElem?_eq_getElem h2] using this
theorem take_le {l:List Nat}(h6:l.length≤6) (h32:∀ n∈l,n≤32) (j:Nat):prodL (l.take j)≤1073741824:=by
 have h1:prodL (l.take j)≤32 ^ (l.take j).length:=prodL_le fun n hn=>h32 n (List.mem_of_mem_take hn);have h2:32 ^ (l.take j).length≤32 ^ 6:=Nat.pow_le_pow_right (by omega) (by rw [List.length_take];omega);have h3:(32:Nat) ^ 6=1073741824:=by decide
 omega
end Go.Proofs.YtmokogkndbinlaaGreatDoor
namespace Go.Proofs.YtmokogkndbinlaaGreatDoor
def isB (x:Nat):Bool:=x == 32 || x == 9 || x == 10 || x == 13
def isW (x:Nat):Bool:=decide (33≤x) && decide (x≤126)
def pastP (P:Nat→Bool) (l:List UInt8) (k:Nat):Nat:=k+((l.drop k).takeWhile fun c=>P c.toNat).length
theorem pastP_step (P:Nat→Bool) (l:List UInt8) {k:Nat}(hk:k < l.length) (h:P l[k].toNat=true):pastP P l k=pastP P l (k+1):=by
 unfold pastP;rw [List.drop_eq_getElem_cons hk,List.takeWhile_cons_of_pos (by simpa using h)];simp
 omega
theorem pastP_stop (P:Nat→Bool) (l:List UInt8) {k:Nat}(hk:k < l.length) (h:P l[k].toNat=false):pastP P l k=k:=by
 unfold pastP;rw [List.drop_eq_getElem_cons hk,List.takeWhile_cons_of_neg (by simp [h])];simp
theorem pastP_end (P:Nat→Bool) (l:List UInt8) {k:Nat}(hk:l.length≤k):pastP P l k=k:=by
 unfold pastP;rw [List.drop_eq_nil_of_le hk];simp
theorem pastP_ge (P:Nat→Bool) (l:List UInt8) (k:Nat):k≤pastP P l k:=Nat.le_add_right _ _
theorem pastP_le (P:Nat→Bool) (l:List UInt8) {k:Nat}(hk:k≤l.length):pastP P l k≤l.length:=by
 unfold pastP;have h:=(List.takeWhile_sublist (fun c:UInt8=>P c.toNat) (l:=l.drop k)).length_le;rw [List.length_drop] at h;omega
theorem pastP_not (P:Nat→Bool) (l:List UInt8) (k:Nat) (hk:k≤l.length) (h:pastP P l k < l.length):P (l[pastP P l k]'h).toNat=false:=by
 obtain⟨d,hd⟩:∃ d,l.length - k=d:=⟨_,rfl⟩
 induction d generalizing k with
 | zero =>
  have:=pastP_ge P l k;omega
 | succ d ih =>
  have hk2:k < l.length:=by omega
  cases hp:P l[k].toNat with
  | false =>
   have e:=pastP_stop P l hk2 hp;simpa [e] using hp
  | true =>
   have e:=pastP_step P l hk2 hp;have h2:=ih (k+1) (by omega) (by rw [← e];exact h) (by omega);simpa [e] using h2
theorem pastP_all (P:Nat→Bool) (l:List UInt8) {k j:Nat}(hkj:k≤j) (hj:j≤l.length) (h:∀ i (hi:i < l.length),k≤i→i < j→P l[i].toNat=true):pastP P l k=pastP P l j:=by
 obtain⟨d,hd⟩:∃ d,j - k=d:=⟨_,rfl⟩
 induction d generalizing k with
 | zero=>rw [show k=j by omega]
 | succ d ih=>rw [pastP_step P l (by omega) (h k (by omega) (Nat.le_refl _) (by omega)),ih (by omega) (fun i hi a b=>h i hi (by omega) b) (by omega)]
inductive WRes where
 | none | bad (b:Nat) | word (f t:Nat)
def stepW (l:List UInt8) (k:Nat):WRes :=
 let f:=pastP isB l k
 let t:=pastP isW l f
 if h:t < l.length then
  if isB l[t].toNat=false then .bad t else if f=t then .none else .word f t
 else if f=t then .none else .word f t
theorem stepW_word {l:List UInt8} {k f t:Nat}(hk:k≤l.length) (h:stepW l k = .word f t):k≤f∧f < t∧t≤l.length∧f=pastP isB l k∧t=pastP isW l f:=by
 have h1:=pastP_ge isB l k;have h2:=pastP_le isB l hk;have h3:=pastP_ge isW l (pastP isB l k);have h4:=pastP_le isW l h2;unfold stepW at h;simp only at h;split at h
 ·split at h
  ·cases h
  split at h
  ·cases h
  injection h with e1 e2;subst e1 e2;exact⟨h1,by omega,h4,rfl,rfl⟩
 split at h
 ·cases h
 injection h with e1 e2;subst e1 e2;exact⟨h1,by omega,h4,rfl,rfl⟩
theorem stepW_none {l:List UInt8} {k:Nat}(hk:k≤l.length) (h:stepW l k = .none):pastP isB l k=l.length∧pastP isW l (pastP isB l k)=l.length:=by
 have h2:=pastP_le isB l hk;have e:pastP isB l k=l.length:=by
  rcases Nat.lt_or_ge (pastP isB l k) l.length with hlt | hge
  rotate_left
  ·omega
  have h1:=pastP_not isB l k hk hlt;unfold stepW at h;simp only at h;split at h
  ·split at h
   ·cases h
   rename_i hb;split at h
   ·rename_i e
    exfalso
    apply hb;simp only [← e];exact h1
   cases h
  split at h
  ·omega
  cases h
 rw [e];exact⟨rfl,pastP_end isW l (Nat.le_refl _)⟩
theorem stepW_bad {l:List UInt8} {k b:Nat}(hk:k≤l.length) (h:stepW l k = .bad b):pastP isW l (pastP isB l k)=b∧∃ hb:b < l.length,isB l[b].toNat=false:=by
 unfold stepW at h;simp only at h;split at h
 rotate_left
 ·split at h <;> cases h
 rename_i ht;split at h
 ·rename_i hb
  injection h with e;subst e;exact⟨rfl,ht,hb⟩
 split at h <;> cases h
theorem stepW_sep {l:List UInt8} {k f t:Nat}(hk:k≤l.length) (h:stepW l k = .word f t) (ht:t < l.length):isB l[t].toNat=true:=by
 have h1:=(stepW_word hk h).2.2.2;obtain⟨e1,e2⟩:=h1;subst e1;subst e2;unfold stepW at h;simp only at h;rw [dif_pos ht] at h;split at h
 ·cases h
 rename_i hb;simpa using hb
def wordsN:Nat→List UInt8→Nat→List (Nat × Nat) × Option Nat
 | 0,_,_=>([],none)
 | n+1,l,k=>match stepW l k with
  | .none=>([],none)
  | .bad b=>([],some b)
  | .word f t=>((f,t)::(wordsN n l t).1,(wordsN n l t).2)
theorem wordsN_more {l:List UInt8}:∀ (n m k:Nat),k≤l.length→l.length - k < n→n≤m→wordsN m l k=wordsN n l k:=by
 intro n;induction n with
 | zero=>intro m k _ h;omega
 | succ n ih =>
  intro m k hk h hm;obtain⟨m,rfl⟩:∃ m',m=m'+1:=⟨m - 1,by omega⟩
  unfold wordsN;cases hs:stepW l k with
  | none=>rfl
  | bad b=>rfl
  | word f t =>
   have h1:=stepW_word hk hs;simp only [ih m t (by omega) (by omega) (by omega)]
def wordsL (l:List UInt8) (k:Nat):List (Nat × Nat) × Option Nat:=wordsN (l.length+1) l k
theorem wordsL_none {l:List UInt8} {k:Nat}(h:stepW l k = .none):wordsL l k=([],none):=by unfold wordsL wordsN;rw [h]
theorem wordsL_bad {l:List UInt8} {k b:Nat}(h:stepW l k = .bad b):wordsL l k=([],some b):=by unfold wordsL wordsN;rw [h]
theorem wordsL_word {l:List UInt8} {k f t:Nat}(hk:k≤l.length) (h:stepW l k = .word f t):wordsL l k=((f,t)::(wordsL l t).1,(wordsL l t).2):=by
 have h1:=stepW_word hk h;have e:wordsN l.length l t=wordsL l t:=(wordsN_more l.length (l.length+1) t h1.2.2.1 (by omega) (by omega)).symm;unfold wordsL;rw [wordsN,h];simp only [e];rfl
theorem stepW_skip {l:List UInt8} {k:Nat}(hk:k < l.length) (h:isB l[k].toNat=true):stepW l k=stepW l (k+1):=by
 unfold stepW;rw [pastP_step isB l hk h]
theorem wordsL_skip {l:List UInt8} {k:Nat}(hk:k < l.length) (h:isB l[k].toNat=true):wordsL l k=wordsL l (k+1):=by
 have e:=stepW_skip hk h;cases hs:stepW l k with
 | none=>rw [wordsL_none hs,wordsL_none (e.symm.trans hs)]
 | bad b=>rw [wordsL_bad hs,wordsL_bad (e.symm.trans hs)]
 | word f t=>rw [wordsL_word (by omega) hs,wordsL_word (by omega) (e.symm.trans hs)]
theorem isW_notB {x:Nat}(h:isW x=true):isB x=false:=by
 simp only [isW,Bool.and_eq_true,decide_eq_true_eq] at h;simp only [isB,Bool.or_eq_false_iff,beq_eq_false_iff_ne];omega
theorem isB_notW {x:Nat}(h:isB x=true):isW x=false:=by
 cases hw:isW x with
 | false=>rfl
 | true=>rw [isW_notB hw] at h;cases h
def OpenW (l:List UInt8) (f i:Nat):Prop:=f < i∧i≤l.length∧∀ j (hj:j < l.length),f≤j→j < i→isW l[j].toNat=true
theorem OpenW.past {l:List UInt8} {f i:Nat}(h:OpenW l f i):pastP isB l f=f∧pastP isW l f=pastP isW l i :=
 ⟨pastP_stop isB l (by have:=h.1;have:=h.2.1;omega) (isW_notB (h.2.2 f (by have:=h.1;have:=h.2.1;omega) (Nat.le_refl _) h.1)),pastP_all isW l (Nat.le_of_lt h.1) h.2.1 h.2.2⟩
theorem OpenW.more {l:List UInt8} {f i:Nat}(h:OpenW l f i) (hi:i < l.length) (hw:isW l[i].toNat=true):OpenW l f (i+1):=by
 refine⟨by have:=h.1;omega,hi,fun j hj a b=>?_⟩;rcases (by omega:j < i∨j=i) with e | rfl
 ·exact h.2.2 j hj a e
 exact hw
theorem OpenW.new {l:List UInt8} {i:Nat}(hi:i < l.length) (hw:isW l[i].toNat=true):OpenW l i (i+1):=by
 refine⟨by omega,hi,fun j hj a b=>?_⟩;obtain rfl:j=i:=by omega
 exact hw
theorem OpenW.close {l:List UInt8} {f i:Nat}(h:OpenW l f i) (hi:i < l.length) (hb:isB l[i].toNat=true):wordsL l f=((f,i)::(wordsL l (i+1)).1,(wordsL l (i+1)).2):=by
 obtain⟨h1,h2⟩:=h.past;have h3:=pastP_stop isW l hi (isB_notW hb);have e:stepW l f = .word f i:=by
  unfold stepW;simp only [h1,h2,h3];rw [dif_pos hi,if_neg (by simp [hb]),if_neg (by have:=h.1;omega)]
 rw [wordsL_word (by have:=h.1;have:=h.2.1;omega) e,wordsL_skip hi hb]
theorem OpenW.wrong {l:List UInt8} {f i:Nat}(h:OpenW l f i) (hi:i < l.length) (hb:isB l[i].toNat=false) (hw:isW l[i].toNat=false):wordsL l f=([],some i):=by
 obtain⟨h1,h2⟩:=h.past;have h3:=pastP_stop isW l hi hw;refine wordsL_bad ?_;unfold stepW;simp only [h1,h2,h3];rw [dif_pos hi,if_pos hb]
theorem OpenW.done {l:List UInt8} {f:Nat}(h:OpenW l f l.length):wordsL l f=([(f,l.length)],none):=by
 obtain⟨h1,h2⟩:=h.past;have h3:=pastP_end isW l (Nat.le_refl l.length);have e:stepW l f = .word f l.length:=by
  unfold stepW;simp only [h1,h2,h3];rw [dif_neg (by omega),if_neg (by have:=h.1;omega)]
 have e2:stepW l l.length = .none:=by
  unfold stepW;simp [pastP_end isB l (Nat.le_refl l.length),h3]
 rw [wordsL_word (by have:=h.1;omega) e,wordsL_none e2]
theorem wordsL_wrong {l:List UInt8} {i:Nat}(hi:i < l.length) (hb:isB l[i].toNat=false) (hw:isW l[i].toNat=false):wordsL l i=([],some i):=by
 refine wordsL_bad ?_;unfold stepW;simp only [pastP_stop isB l hi hb,pastP_stop isW l hi hw];rw [dif_pos hi,if_pos hb]
theorem wordsL_end (l:List UInt8):wordsL l l.length=([],none):=by
 refine wordsL_none ?_;unfold stepW;simp [pastP_end isB l (Nat.le_refl l.length),pastP_end isW l (Nat.le_refl l.length)]
end Go.Proofs.YtmokogkndbinlaaGreatDoor
namespace Go.Proofs.YtmokogkndbinlaaGreatDoor
open Go.RowKit
theorem sret_int {t:IntKind}{a b:Int}(h:a=b):Ending.returned (.int t a) = .returned (.int t b):=by rw [h]
theorem between_any (x:Nat) (w:World) (hx:x≤255):Calls Tryz.prog 205 #[.int .u8 (x:Int)] w fun e w'=>e = .returned (.bool (isB x))∧w=w':=by
 by_cases h1:x=32
 ·subst h1
  go_enter Tryz.func205,Tryz.ntmps205
  go_wp2
  go_ret;exact⟨rfl,rfl⟩
 by_cases h2:x=9
 ·subst h2
  go_enter Tryz.func205,Tryz.ntmps205
  go_wp2
  go_ret;exact⟨rfl,rfl⟩
 by_cases h3:x=10
 ·subst h3
  go_enter Tryz.func205,Tryz.ntmps205
  go_wp2
  go_ret;exact⟨rfl,rfl⟩
 by_cases h4:x=13
 ·subst h4
  go_enter Tryz.func205,Tryz.ntmps205
  go_wp2
  go_ret;exact⟨rfl,rfl⟩
 have e:isB x=false:=by simp [isB,h1,h2,h3,h4]
 rw [e];have e1:((x:Int) == 32)=false:=by rw [beq_eq_false_iff_ne];omega
 have e2:((x:Int) == 9)=false:=by rw [beq_eq_false_iff_ne];omega
 have e3:((x:Int) == 10)=false:=by rw [beq_eq_false_iff_ne];omega
 have e4:((x:Int) == 13)=false:=by rw [beq_eq_false_iff_ne];omega
 clear h1 h2 h3 h4 e;go_enter Tryz.func205,Tryz.ntmps205
 go_wp2
 go_ret;exact⟨rfl,rfl⟩
theorem within_any (x:Nat) (w:World) (hx:x≤255):Calls Tryz.prog 206 #[.int .u8 (x:Int)] w fun e w'=>e = .returned (.bool (isW x))∧w=w':=by
 by_cases h1:33≤x
 rotate_left
 ·have e:isW x=false:=by simp [isW,h1]
  rw [e];have e1:¬ (33:Int)≤(x:Int):=by omega
  clear h1 e;go_enter Tryz.func206,Tryz.ntmps206
  go_wp2
  go_ret;exact⟨rfl,rfl⟩
 by_cases h2:x≤126
 ·have e:isW x=true:=by simp [isW,h1,h2]
  rw [e];have e1:(33:Int)≤(x:Int):=by omega
  have e2:(x:Int)≤126:=by omega
  clear h1 h2 e;go_enter Tryz.func206,Tryz.ntmps206
  go_wp2
  go_ret;exact⟨rfl,rfl⟩
 have e:isW x=false:=by simp [isW,h2]
 rw [e];have e1:(33:Int)≤(x:Int):=by omega
 have e2:¬ (x:Int)≤126:=by omega
 clear h1 h2 e;go_enter Tryz.func206,Tryz.ntmps206
 go_wp2
 go_ret;exact⟨rfl,rfl⟩
theorem size_list (s:ByteArray):s.data.toList.length=s.size:=by rw [Array.length_toList];rfl
set_option maxHeartbeats 400000 in
theorem past_b (s:ByteArray) (k:Nat) (w:World) (hk:k≤s.size) (hs:s.size≤maxLen) :
  Calls Tryz.prog 204 #[.string s,.int .i64 (k:Int),.func (.func 205) #[] #[]] w fun e w'=>e = .returned (.int .i64 (pastP isB s.data.toList k:Nat))∧w=w':=by
 unfold maxLen at hs;obtain⟨r,hr⟩:∃ r,pastP isB s.data.toList k=r:=⟨_,rfl⟩
 rw [hr];have HR:=hid hr;clear hr;go_enter Tryz.func204,Tryz.ntmps204
 go_wp2_with fail
 go_loop [1] (fun i=>∃ j:Nat,j≤s.size∧i = .int .i64 (j:Int)∧pastP isB s.data.toList j=r) (fun i=>s.size - (intOf i).toNat)
 case atStart=>exact⟨k,hk,rfl,HR.out⟩
 case round =>
  obtain⟨j,hj,rfl,hr⟩:=hrel;have HJ:=hid hr;clear hr;by_cases hlt:j < s.size
  rotate_left
  ·have HP:Hid (r=j):=hid (HJ.out.symm.trans (pastP_end isB s.data.toList (by rw [size_list];omega)))
   go_wp2_with fail
   go_ret;exact⟨sret_int (by rw [HP.out]),rfl⟩
  have hx:s[j].toNat≤255:=by have:=s[j].toNat_lt;omega
  have hl:j < s.data.toList.length:=by rw [size_list];exact hlt
  cases hp:isB s[j].toNat with
  | true =>
   have HP:Hid (pastP isB s.data.toList (j+1)=r):=hid ((pastP_step isB s.data.toList hl hp).symm.trans HJ.out);have C:=hid (fun W=>between_any s[j].toNat W hx);rw [hp] at C;clear hp;go_wp2_with (go_at_call 205;refine (C.out _).mono ?_;rintro e w' ⟨rfl,rfl⟩)
   go_round
   case rel=>exact⟨j+1,hlt,by go_num,HP.out⟩
   case measure=>simp [intOf];omega
  | false =>
   have HP:Hid (r=j):=hid (HJ.out.symm.trans (pastP_stop isB s.data.toList hl hp));have C:=hid (fun W=>between_any s[j].toNat W hx);rw [hp] at C;clear hp;go_wp2_with (go_at_call 205;refine (C.out _).mono ?_;rintro e w' ⟨rfl,rfl⟩)
   go_ret;exact⟨sret_int (by rw [HP.out]),rfl⟩
set_option maxHeartbeats 400000 in
theorem past_w (s:ByteArray) (k:Nat) (w:World) (hk:k≤s.size) (hs:s.size≤maxLen) :
  Calls Tryz.prog 204 #[.string s,.int .i64 (k:Int),.func (.func 206) #[] #[]] w fun e w'=>e = .returned (.int .i64 (pastP isW s.data.toList k:Nat))∧w=w':=by
 unfold maxLen at hs;obtain⟨r,hr⟩:∃ r,pastP isW s.data.toList k=r:=⟨_,rfl⟩
 rw [hr];have HR:=hid hr;clear hr;go_enter Tryz.func204,Tryz.ntmps204
 go_wp2_with fail
 go_loop [1] (fun i=>∃ j:Nat,j≤s.size∧i = .int .i64 (j:Int)∧pastP isW s.data.toList j=r) (fun i=>s.size - (intOf i).toNat)
 case atStart=>exact⟨k,hk,rfl,HR.out⟩
 case round =>
  obtain⟨j,hj,rfl,hr⟩:=hrel;have HJ:=hid hr;clear hr;by_cases hlt:j < s.size
  rotate_left
  ·have HP:Hid (r=j):=hid (HJ.out.symm.trans (pastP_end isW s.data.toList (by rw [size_list];omega)))
   go_wp2_with fail
   go_ret;exact⟨sret_int (by rw [HP.out]),rfl⟩
  have hx:s[j].toNat≤255:=by have:=s[j].toNat_lt;omega
  have hl:j < s.data.toList.length:=by rw [size_list];exact hlt
  cases hp:isW s[j].toNat with
  | true =>
   have HP:Hid (pastP isW s.data.toList (j+1)=r):=hid ((pastP_step isW s.data.toList hl hp).symm.trans HJ.out);have C:=hid (fun W=>within_any s[j].toNat W hx);rw [hp] at C;clear hp;go_wp2_with (go_at_call 206;refine (C.out _).mono ?_;rintro e w' ⟨rfl,rfl⟩)
   go_round
   case rel=>exact⟨j+1,hlt,by go_num,HP.out⟩
   case measure=>simp [intOf];omega
  | false =>
   have HP:Hid (r=j):=hid (HJ.out.symm.trans (pastP_stop isW s.data.toList hl hp));have C:=hid (fun W=>within_any s[j].toNat W hx);rw [hp] at C;clear hp;go_wp2_with (go_at_call 206;refine (C.out _).mono ?_;rintro e w' ⟨rfl,rfl⟩)
   go_ret;exact⟨sret_int (by rw [HP.out]),rfl⟩
end Go.Proofs.YtmokogkndbinlaaGreatDoor
namespace Go.Proofs.YtmokogkndbinlaaGreatDoor
open Go.RowKit
def ScanAt (W:World) (b:Nat) (s:ByteArray) (k:Nat):Prop:=W.heap[b]? = some (.cells #[.string s,.int .i64 (k:Int)] 194 (0,0))
theorem ScanAt.lt {W:World}{b k:Nat}{s:ByteArray}(h:ScanAt W b s k):b < W.heap.size:=(Array.getElem?_eq_some_iff.1 h).1
theorem ScanAt.text {W:World}{b k:Nat}{s:ByteArray}(h:ScanAt W b s k):W.cell? ⟨b,0,none⟩=some (.string s):=by rw [cell_of_row _ _ _ _ _ _ h];rfl
theorem ScanAt.at_ {W:World}{b k:Nat}{s:ByteArray}(h:ScanAt W b s k):W.cell? ⟨b,1,none⟩=some (.int .i64 (k:Int)):=by rw [cell_of_row _ _ _ _ _ _ h];rfl
theorem ScanAt.frozen {W:World}{b k:Nat}{s:ByteArray}(h:ScanAt W b s k) (i:Nat):W.frozen? ⟨b,i,none⟩=false:=by
 have h':W.heap[b]? = some _:=h;simp [World.frozen?,h']
theorem scan_set {w:World}{b k:Nat}{s:ByteArray}(h:ScanAt w b s k) (t:Nat):w.grownBy (w.setCell ⟨b,1,none⟩ (.int .i64 (t:Int))) (some b)∧ScanAt (w.setCell ⟨b,1,none⟩ (.int .i64 (t:Int))) b s t:=by
 have h':w.heap[b]? = some (.cells #[.string s,.int .i64 (k:Int)] 194 (0,0)):=h;have hlt:=h.lt;refine⟨⟨rfl,rfl,rfl,(KeepsWalks.setCell w _ _).size,fun j hj hne=>Below.heap_setCell w ⟨b,1,none⟩ _ j (fun e=>hne (by rw [e]))⟩,?_⟩;obtain⟨hlt,hk⟩:=Array.getElem?_eq_some_iff.1 h';show (w.heap.modify b _)[b]? = _;rw [Array.getElem?_eq_getElem (by rw [Array.size_modify];exact hlt),Array.getElem_modify_self,hk];rfl
theorem sgrown_then {X Y Z:World}{row:Option Nat}(h:X.grownBy Y row) (k:Y.grownBy Z row):X.grownBy Z row :=
 ⟨k.os.trans h.os,k.tape.trans h.tape,k.output.trans h.output,Nat.le_trans h.size k.size,fun i hi hne=>(k.block i (Nat.lt_of_lt_of_le hi h.size) hne).trans (h.block i hi hne)⟩
theorem grown_self (w:World) (n b:Nat):w.grownBy (w.drewN n) (some b):=⟨rfl,rfl,rfl,Nat.le_refl _,fun _ _ _=>rfl⟩
set_option maxHeartbeats 1000000 in
theorem word_none (b:Nat) (s:ByteArray) (k:Nat) (w:World) (hs:s.size≤maxLen) (hk:k≤s.size) (h:ScanAt w b s k) (hr:stepW s.data.toList k = .none) :
  Calls Tryz.prog 159 #[.pointer (some ⟨b,0,none⟩)] w fun e w'=>e = .returned (.tuple #[.string ⟨#[]⟩,.int .i64 (s.size:Int),.int .i64 2])∧w.grownBy w' (some b)∧ScanAt w' b s k:=by
 have HS:=hid h;have P1:=hid (fun W=>past_b s k W hk hs);have hb1:=pastP_le isB s.data.toList (k:=k) (by rw [size_list];exact hk);rw [size_list] at hb1;have P2:=hid (fun W=>past_w s (pastP isB s.data.toList k) W hb1 hs);have hb2:=pastP_le isW s.data.toList (k:=pastP isB s.data.toList k) (by rw [size_list];exact hb1);rw [size_list] at hb2;obtain⟨e1,e2⟩:=stepW_none (by rw [size_list];exact hk) hr;rw [e1,size_list] at e2;rw [e1,size_list,e2] at hb2;rw [e1,size_list] at P1 P2 hb1;rw [e2] at P2;clear e1 e2 hb1 hb2;clear hr h;unfold maxLen at hs;have c0:=HS.out.text;have c1:=HS.out.at_;have cf:=HS.out.frozen 1;go_enter Tryz.func159,Tryz.ntmps159
 go_upto_region 3 with fail
 go_quiet ((go_at_call 204;exact Calls.quiet_of_same ((P1.out _).mono fun _ _ h=>⟨h.1,h.2.symm⟩)))
 go_wp2_with (go_at_call 204;refine (P2.out _).mono ?_;rintro e w' ⟨rfl,rfl⟩)
 go_ret3;exact⟨rfl,grown_self _ _ _,HS.out⟩
set_option maxHeartbeats 1000000 in
theorem word_bad (b:Nat) (s:ByteArray) (k t:Nat) (w:World) (hs:s.size≤maxLen) (hk:k≤s.size) (h:ScanAt w b s k) (hr:stepW s.data.toList k = .bad t) :
  Calls Tryz.prog 159 #[.pointer (some ⟨b,0,none⟩)] w fun e w'=>e = .returned (.tuple #[.string ⟨#[]⟩,.int .i64 (t:Int),.int .i64 11])∧w.grownBy w' (some b)∧ScanAt w' b s k:=by
 have HS:=hid h;have P1:=hid (fun W=>past_b s k W hk hs);have hb1:=pastP_le isB s.data.toList (k:=k) (by rw [size_list];exact hk);rw [size_list] at hb1;have P2:=hid (fun W=>past_w s (pastP isB s.data.toList k) W hb1 hs);have hb2:=pastP_le isW s.data.toList (k:=pastP isB s.data.toList k) (by rw [size_list];exact hb1);rw [size_list] at hb2;obtain⟨e1,e2,e3⟩:=stepW_bad (by rw [size_list];exact hk) hr;rw [size_list] at e2;have hx:s[t].toNat≤255:=by have:=s[t].toNat_lt;omega
 have e3:isB s[t].toNat=false:=e3;have C:=hid (fun W=>between_any s[t].toNat W hx);rw [e3] at C;rw [e1] at hb2 P2;generalize pastP isB s.data.toList k=f at P1 P2 hb1;clear e1 e3;clear hr h;unfold maxLen at hs;have c0:=HS.out.text;have c1:=HS.out.at_;have cf:=HS.out.frozen 1;go_enter Tryz.func159,Tryz.ntmps159
 go_upto_region 3 with fail
 go_quiet ((go_at_call 204;exact Calls.quiet_of_same ((P1.out _).mono fun _ _ h=>⟨h.1,h.2.symm⟩)))
 go_wp2_with (first | (go_at_call 204;refine (P2.out _).mono ?_;rintro e w' ⟨rfl,rfl⟩) | (go_at_call 205;refine (C.out _).mono ?_;rintro e w' ⟨rfl,rfl⟩))
 go_ret3;exact⟨rfl,grown_self _ _ _,HS.out⟩
set_option maxRecDepth 100000 in
set_option maxHeartbeats 1000000 in
theorem word_ok (b:Nat) (s:ByteArray) (k f t:Nat) (w:World) (hs:s.size≤maxLen) (hk:k≤s.size) (h:ScanAt w b s k) (hr:stepW s.data.toList k = .word f t) :
  Calls Tryz.prog 159 #[.pointer (some ⟨b,0,none⟩)] w fun e w'=>e = .returned (.tuple #[.string (s.extract f t),.int .i64 (f:Int),.int .i64 0])∧w.grownBy w' (some b)∧ScanAt w' b s t:=by
 have HS:=hid h;have P1:=hid (fun W=>past_b s k W hk hs);have hb1:=pastP_le isB s.data.toList (k:=k) (by rw [size_list];exact hk);rw [size_list] at hb1;have P2:=hid (fun W=>past_w s (pastP isB s.data.toList k) W hb1 hs);have hb2:=pastP_le isW s.data.toList (k:=pastP isB s.data.toList k) (by rw [size_list];exact hb1);rw [size_list] at hb2;have hsep:=fun ht=>stepW_sep (by rw [size_list];exact hk) hr (t:=t) ht;obtain⟨h1,h2,h3,e1,e2⟩:=stepW_word (by rw [size_list];exact hk) hr;rw [← e1] at P1 P2 hb1 hb2;rw [← e2] at P2 hb2;clear e1 e2 h3;clear hr h;clear hs;have c0:=HS.out.text;have c1:=HS.out.at_;have cf:=HS.out.frozen 1;rcases Nat.lt_or_ge t s.size with ht | ht
 ·have hx:s[t].toNat≤255:=by have:=s[t].toNat_lt;omega
  have e3:isB s[t].toNat=true:=hsep (by rw [size_list];exact ht);have C:=hid (fun W=>between_any s[t].toNat W hx);rw [e3] at C;clear e3 hsep;go_enter Tryz.func159,Tryz.ntmps159
  go_upto_region 3 with fail
  go_quiet ((go_at_call 204;exact Calls.quiet_of_same ((P1.out _).mono fun _ _ h=>⟨h.1,h.2.symm⟩)))
  go_wp2_with (first | (go_at_call 204;refine (P2.out _).mono ?_;rintro e w' ⟨rfl,rfl⟩) | (go_at_call 205;refine (C.out _).mono ?_;rintro e w' ⟨rfl,rfl⟩))
  go_ret3;have h2:=scan_set (w:=w.drewN nq) HS.out t;exact⟨rfl,sgrown_then (grown_self w nq b) h2.1,h2.2⟩
 clear hsep;go_enter Tryz.func159,Tryz.ntmps159
 go_upto_region 3 with fail
 go_quiet ((go_at_call 204;exact Calls.quiet_of_same ((P1.out _).mono fun _ _ h=>⟨h.1,h.2.symm⟩)))
 go_wp2_with (first | (go_at_call 204;refine (P2.out _).mono ?_;rintro e w' ⟨rfl,rfl⟩))
 go_ret3;have h2:=scan_set (w:=w.drewN nq) HS.out t;exact⟨rfl,sgrown_then (grown_self w nq b) h2.1,h2.2⟩
theorem more_any (b:Nat) (s:ByteArray) (k:Nat) (w:World) (hs:s.size≤maxLen) (hk:k≤s.size) (h:ScanAt w b s k) :
  Calls Tryz.prog 172 #[.pointer (some ⟨b,0,none⟩)] w fun e w'=>e = .returned (.bool (decide (pastP isB s.data.toList k < s.size)))∧w.grownBy w' none:=by
 have P1:=hid (fun W=>past_b s k W hk hs);generalize pastP isB s.data.toList k=f at P1 ⊢;have c0:=h.text;have c1:=h.at_;clear h hs;go_enter Tryz.func172,Tryz.ntmps172
 go_upto_region 1 with fail
 go_quiet ((go_at_call 204;exact Calls.quiet_of_same ((P1.out _).mono fun _ _ h=>⟨h.1,h.2.symm⟩)))
 go_wp2
 go_ret;exact⟨rfl,⟨rfl,rfl,rfl,Nat.le_refl _,fun _ _ _=>rfl⟩⟩
end Go.Proofs.YtmokogkndbinlaaGreatDoor
namespace Go.Proofs.YtmokogkndbinlaaGreatDoor
open Go.RowKit
def BS (w:World) (A:Option Addr) (s:ByteArray):Prop :=
 (A=none∧s.size=0)∨∃ g o,A=some ⟨g,o,none⟩∧g < w.heap.size∧Lib.Bytes w g o s
theorem BS.below {w w':World}{A:Option Addr}{s:ByteArray}{B:Nat}(h:BS w A s) (hb:Below B w w') (hB:w.heap.size≤B):BS w' A s:=by
 rcases h with h | ⟨g,o,rfl,hg,hc⟩
 ·exact .inl h
 exact .inr ⟨g,o,rfl,by have:=hb.size;omega,fun i hi=>(hb.cell (p:=⟨g,o+i,none⟩) (by show g < B;omega)).trans (hc i hi)⟩
theorem empty_of {s:ByteArray}(h:s.size=0):s=ByteArray.empty:=by
 apply ByteArray.ext;apply Array.toList_inj.1;exact List.eq_nil_of_length_eq_zero (by rw [size_list];exact h)
theorem conv_bytes {w:World}{A:Option Addr}{c:Nat}{s:ByteArray}(h:BS w A s):(convert 22 9 (.slice A s.size c)).run Tryz.prog w = .ok (.string s) w:=by
 rcases h with ⟨rfl,h0⟩ | ⟨g,o,rfl,_,hb⟩
 ·have e:=empty_of h0
  subst e;exact run_convert_bytes_nil w 22 5 Tryz.underlying22 Tryz.underlying5 0 c 9 Tryz.underlying9
 exact Lib.run_convert_whole w 22 5 9 Tryz.underlying22 Tryz.underlying5 Tryz.underlying9 g o s hb c
abbrev byC (s:ByteArray):List Value:=s.data.toList.map fun c:UInt8=>Value.int .u8 (c.toNat:Int)
def OwnB (w:World) (base:Nat) (v:Value) (s:ByteArray):Prop:=w.ownsRow base 5 1 v s.size (byC s)
theorem OwnB.form {w:World}{base:Nat}{v:Value}{s:ByteArray}(h:OwnB w base v s):∃ A c,v = .slice A s.size c∧BS w A s∧∀ a:Addr,A=some a→base≤a.block:=by
 obtain⟨hl,⟨rfl,hn⟩ | ⟨g,cap,cur,rfl,hb,hh,hm,_,hs,ht⟩⟩:=h
 ·exact⟨none,0,by rw [hn],.inl ⟨rfl,hn⟩,fun a e=>by cases e⟩
 refine⟨_,cap,rfl,.inr ⟨g,0,rfl,(Array.getElem?_eq_some_iff.1 hh).1,fun i hi=>?_⟩,fun a e=>by injection e with e;subst e;exact hb⟩;rw [Nat.zero_add,cell_of_row w g i cur 5 (0,0) hh];have hx:(byC s)[i]? = some (.int .u8 (s[i].toNat:Int)):=by
  rw [List.getElem?_map,List.getElem?_eq_getElem (by rw [size_list];exact hi)];rfl
 have e:(cur.toList.take (s.size * 1))[i]? = some (.int .u8 (s[i].toNat:Int)):=by rw [ht];exact hx
 rw [List.getElem?_take] at e;exact (by simpa using e:i < s.size∧cur[i]? = some (.int .u8 (s[i].toNat:Int))).2
theorem info_u8:(Tryz.prog.info? 5).map (fun i=>(i.zero,i.size,i.bytes))=some (some (.int .u8 0),1,1):=by kernel_rfl
def Bytes (w:World) (A:Option Addr) (n:Nat) (z:Nat→Int):Prop:=∀ j,j < n→∃ p:Addr,A=some p∧p.block < w.heap.size∧w.cell? (p.add j)=some (.int .u8 (z j))∧0≤z j∧z j≤255
theorem block_add (a:Addr) (n:Nat):(a.add n).block=a.block:=by unfold Addr.add;split <;> rfl
theorem Bytes.below {w w':World}{A:Option Addr}{n:Nat}{z:Nat→Int}(h:Bytes w A n z) (hb:Below w.heap.size w w'):Bytes w' A n z:=fun j hj=>by
 obtain⟨p,rfl,hp,hc,h1,h2⟩:=h j hj;exact⟨p,rfl,Nat.lt_of_lt_of_le hp hb.size,(hb.cell (p:=p.add j) (by rw [block_add];exact hp)).trans hc,h1,h2⟩
def strZ (z:Nat→Int) (m:Nat):ByteArray:=⟨((List.range m).map fun j=>UInt8.ofNat (z j).toNat).toArray⟩
theorem strZ_size (z:Nat→Int) (m:Nat):(strZ z m).size=m:=by simp [strZ,ByteArray.size]
theorem strZ_cells {w:World}{p:Addr}{n m:Nat}{z:Nat→Int}(h:Bytes w (some p) n z) (hm:m≤n):∀ j u,(byC (strZ z m))[j]? = some u→w.cell? (p.add j)=some u:=by
 intro j u hu;have hj:j < m:=by
  have:=(List.getElem?_eq_some_iff.1 hu).1;simpa [byC,strZ] using this
 obtain⟨p',e,_,hc,h1,h2⟩:=h j (by omega);injection e with e;subst e;rw [hc];simp only [byC,strZ,List.getElem?_map,List.getElem?_range hj,Option.map_some,Option.some.injEq] at hu;rw [← hu];congr 2
 have e1:(UInt8.ofNat (z j).toNat).toNat=(z j).toNat:=by
  rw [UInt8.toNat_ofNat'];exact Nat.mod_eq_of_lt (by omega)
 rw [e1];omega
theorem byC_one (s:ByteArray):∀ v∈byC s,v.oneCell'=true:=by
 intro v hv;simp only [byC,List.mem_map] at hv;obtain⟨c,_,rfl⟩:=hv;rfl
theorem byC_len (s:ByteArray):(byC s).length=s.size:=by rw [List.length_map,size_list]
theorem snew_any (v:Value) (s:ByteArray) (w:World) (hq:(convert 22 9 v).run Tryz.prog w = .ok (.string s) w) :
  Calls Tryz.prog 73 #[v] w fun e w'=>e = .returned (.pointer (some ⟨w.heap.size,0,none⟩))∧w'=w.alloc (.cells #[.string s,.int .i64 0] 194):=by
 go_enter Tryz.func73,Tryz.ntmps73
 go_wp2
 go_ret;exact⟨rfl,rfl⟩
end Go.Proofs.YtmokogkndbinlaaGreatDoor
namespace Go.Proofs.YtmokogkndbinlaaGreatDoor
open Go.RowKit
def badI:Option Nat→Int
 | none=>-1
 | some b=>b
theorem then_ {w W W':World}(h:Below w.heap.size w W) (k:Below W.heap.size W W'):Below w.heap.size w W':=h.trans (k.mono h.size)
theorem new_val (w:World) (o:Obj):Below w.heap.size w (w.alloc o):=(Below.refl _ _).alloc (Nat.le_refl _) _
theorem below_grown {w X Y:World}{B g:Nat}(h:Below B w X) (hg:X.grownBy Y (some g)) (hB:B≤w.heap.size) (hBg:B≤g):Below B w Y :=
 ⟨hg.os.trans h.os,hg.tape.trans h.tape,hg.output.trans h.output,Nat.le_trans h.size hg.size,fun k hk =>
  (hg.block k (by have:=h.size;omega) (fun e=>by injection e;omega)).trans (h.block k hk)⟩
theorem ScanAt.below {w w':World}{b k B:Nat}{s:ByteArray}(h:ScanAt w b s k) (hb:Below B w w') (hB:w.heap.size≤B):ScanAt w' b s k :=
 (hb.block b (by have:=h.lt;omega)).trans h
theorem ScanAt.new (w:World) (s:ByteArray):ScanAt (w.alloc (.cells #[.string s,.int .i64 0] 194)) w.heap.size s 0:=heap_alloc_new w _
end Go.Proofs.YtmokogkndbinlaaGreatDoor
