import Derived.Test.YtmokogkndbinlaaGreatDoorZhar
set_option linter.all false
namespace Go.Proofs.YtmokogkndbinlaaGreatDoor
open Go.Lib (hid)
open Go.RowKit
theorem assigned_yes (fb cs cf c:Nat) (X:ByteArray) (k:Int) (sizes a:List Nat) (fs:List FunM) (As Af A:Option Addr) (w:World) (H:FileR w fb X k sizes fs As Af cs cf) (hI:Ints w A a) (ha:InL sizes a) (hl:sizes.length≤64) :
  Calls Tryz.prog 86 #[.pointer (some ⟨fb,0,none⟩),.slice A a.length c] w fun e w'=>e = .returned (.bool true)∧w=w':=by
 obtain⟨h1,h2⟩:=inL_iff.1 ha;have c2:=H.cells.2.2.1;rw [← h1] at c2;have HS:=hid H.szs;have HI:=hid hI;have H2:=hid h2;have H1:=hid h1;have HL:Hid (a.length≤64):=hid (by omega);clear H hI h2 ha hl h1;go_enter Tryz.func86,Tryz.ntmps86
 go_wp2_with fail
 go_loopw [5,6,17] (fun _ _ i wr=>∃ j:Nat,i = .int .i64 (j:Int)∧j≤a.length∧wr=w) (fun _ _ i _=>a.length - (intOf i).toNat)
 case atStart=>exact⟨0,rfl,Nat.zero_le _,rfl⟩
 case round =>
  obtain⟨j,rfl,hj,rfl⟩:=hrel;by_cases hlt:j < a.length
  rotate_left
  ·have d1:decide ((j:Int) < (a.length:Int))=false:=decide_eq_false (by omega)
   go_wp2_with fail
   go_ret;first | exact⟨rfl,rfl⟩ | exact⟨rfl,trivial⟩
  have d1:decide ((j:Int) < (a.length:Int))=true:=decide_eq_true (by omega);obtain⟨ga,oa,rfl,hca⟩:=HI.out.at_ hlt;obtain⟨gs,os,rfl,hcs⟩:=HS.out.at_ (i:=j) (by rw [← H1.out];exact hlt);have hv:=H2.out j (by rw [← H1.out];exact hlt);generalize nth a j=x at hca hv;generalize nth sizes j=y at hcs hv;have d2:decide ((x:Int) < 0)=false:=decide_eq_false (by omega);have d3:decide ((y:Int)≤(x:Int))=false:=decide_eq_false (by omega);have j2:(0:Int)≤(j:Int):=by omega
  have j3:(j:Int)≤64:=by have:=HL.out;omega
  go_wp2_with fail
  exact⟨⟨j+1,by simp,by omega,trivial⟩,by simp [intOf];omega⟩
theorem putF_in {k o:Int}{ls:List LineM}(ho:0≤o∧o≤k) (hl:∀ x∈ls,0≤x.2∧x.2≤k) (t:List Nat):0≤putF o ls t∧putF o ls t≤k:=by
 have key:∀ (ls:List LineM) (g:List Nat→Int),(∀ t,0≤g t∧g t≤k)→(∀ x∈ls,0≤x.2∧x.2≤k)→∀ t,0≤ls.foldl (fun g y=>updF g y.1 y.2) g t∧ls.foldl (fun g y=>updF g y.1 y.2) g t≤k:=by
  intro ls;induction ls with
  | nil=>intro g hg _ t;exact hg t
  | cons x r ih =>
   intro g hg hx t;refine ih (updF g x.1 x.2) (fun t=>?_) (fun y hy=>hx y (by simp [hy])) t;unfold updF;split
   ·exact hx x (by simp)
   exact hg t
 exact key ls _ (fun _=>ho) hl t
theorem funF_in {k:Int}{sizes:List Nat}{f:FunM}(hk:1≤k) (hf:FunOk sizes f) (t:List Nat):0≤funF k f t∧funF k f t≤k:=by
 refine putF_in ?_ (fun x hx=>?_) t
 ·have:=hf.other
  omega
 obtain⟨y,hy,rfl⟩:=List.mem_map.1 hx;have:=hf.lines.cost y hy;simp only;omega
end Go.Proofs.YtmokogkndbinlaaGreatDoor
namespace Go.Proofs.YtmokogkndbinlaaGreatDoor
open Go.RowKit
theorem tw_all {P:UInt8→Bool}:∀ {l:List UInt8} {c:UInt8},c∈l.takeWhile P→P c=true
 | [],c,h=>by simp at h
 | x::r,c,h=>by
  rw [List.takeWhile_cons] at h;cases hx:P x with
  | false=>rw [hx] at h;simp at h
  | true =>
   rw [hx] at h;rcases List.mem_cons.1 h with h | h
   ·rw [h];exact hx
   exact tw_all h
theorem tw_self {P:UInt8→Bool}:∀ {l:List UInt8},(∀ c∈l,P c=true)→l.takeWhile P=l
 | [],h=>rfl
 | x::r,h=>by
  rw [List.takeWhile_cons,h x (by simp)];simp only [if_true];rw [tw_self (fun c hc=>h c (by simp [hc]))]
theorem word_self {l:List UInt8} {k f t:Nat}(hk:k≤l.length) (h:stepW l k = .word f t):stepW (subL l f t) 0 = .word 0 (t - f)∧(subL l f t).length=t - f:=by
 obtain⟨h1,h2,h3,-,h5⟩:=stepW_word hk h;have he:subL l f t=(l.drop f).takeWhile fun c=>isW c.toNat:=by
  unfold subL;rw [h5];unfold pastP;rw [Nat.add_sub_cancel_left];exact (List.prefix_iff_eq_take.1 (List.takeWhile_prefix _)).symm
 have hl:(subL l f t).length=t - f:=by
  unfold subL;rw [List.length_take,List.length_drop];omega
 have hall:∀ c∈subL l f t,isW c.toNat=true:=fun c hc=>by
  rw [he] at hc;exact tw_all hc
 refine⟨?_,hl⟩;generalize subL l f t=m at hl hall;have hW:m.takeWhile (fun c=>isW c.toNat)=m:=tw_self (fun c hc=>hall c hc);have hB:m.takeWhile (fun c=>isB c.toNat)=[]:=by
  cases m with
  | nil=>rfl
  | cons c r =>
   have h:=hall c (by simp);have hb:isB c.toNat=false:=by
    unfold isW at h;unfold isB;simp only [Bool.and_eq_true,decide_eq_true_eq] at h;simp only [Bool.or_eq_false_iff,beq_eq_false_iff_ne];omega
   rw [List.takeWhile_cons,hb];rfl
 have e1:pastP isB m 0=0:=by unfold pastP;rw [List.drop_zero,hB];rfl
 have e2:pastP isW m 0=m.length:=by unfold pastP;rw [List.drop_zero,hW];omega
 unfold stepW;simp only [e1,e2];rw [dif_neg (by omega),if_neg (by omega),hl]
theorem fileM_word {l:List UInt8} {lo:Int}{F:FileM}{s:RdS}(h:fileM l lo = .ok F s):stepW l 0 = .word F.name.1 F.name.2:=by
 unfold fileM at h;obtain⟨w,s1,h1,h⟩:=bind_ok_iff.1 h;obtain⟨n,s2,h2,h⟩:=bind_ok_iff.1 h;obtain⟨g,s3,h3,h⟩:=bind_ok_iff.1 h;obtain⟨c,s4,h4,h⟩:=bind_ok_iff.1 h;obtain⟨k,s5,h5,h⟩:=bind_ok_iff.1 h;obtain⟨sz,s6,h6,h⟩:=bind_ok_iff.1 h;obtain⟨a,s7,h7,h⟩:=bind_ok_iff.1 h;have hw:=(wordM_ok.1 h1).1;split at h
 ·cases h
 ·cases h
 cases h;exact hw
theorem rightF_of {s:ByteArray}{lo:Int}{F:FileM}{st:RdS}(h:fileM s.data.toList lo = .ok F st) (hb:st.big=none) (hs:(F.funs.map fun f=>f.lines.length).sum≤16384):RightF (s.extract F.name.1 F.name.2) F.top F.sizes F.funs:=by
 have ho:=(fileM_ok h hb).1;obtain⟨w1,w2⟩:=word_self (Nat.zero_le _) (fileM_word h);rw [← extract_sub] at w1 w2;rw [size_list] at w2;exact⟨by rw [w1,w2],by rw [w2];exact ho.long,ho.top,ho.sizes,ho.n,ho.nf,ho.funs,hs⟩
theorem readR_ok {s:ByteArray}{A:Option Addr}{c:Nat}{w:World}(hs:s.size≤65536) (h:BS w A s) (hG:GlobR w) (hT:TabP w) {F:FileM}{st:RdS}(hf:fileM s.data.toList (-4611686018427387904) = .ok F st) (hb:st.big=none) :
  Calls Tryz.prog 22 #[.slice A s.size c] w fun e w'=>∃ fb As Af cs cf,e = .returned (.tuple #[.pointer (some ⟨fb,0,none⟩),.int .i64 (s.size:Int),.int .i64 0])∧FileR w' fb (s.extract F.name.1 F.name.2) F.top F.sizes F.funs As Af cs cf∧Below w.heap.size w w':=by
 refine (readR s A c w hs h hG hT).mono ?_;rintro e w' ⟨hr,hb'⟩;rw [hf] at hr;unfold ReadRes at hr;simp only [hb] at hr;obtain⟨fb,fv,us,As,cs,base,_,h1,h2,h3,_⟩:=hr;obtain⟨Af,cf,h4⟩:=h3.r;exact⟨fb,As,Af,cs,cf,h1,h4,hb'⟩
theorem readR_bad {s:ByteArray}{A:Option Addr}{c:Nat}{w:World}(hs:s.size≤65536) (h:BS w A s) (hG:GlobR w) (hT:TabP w) {e p:Nat}(hf:fileM s.data.toList (-4611686018427387904) = .bad e p) :
  Calls Tryz.prog 22 #[.slice A s.size c] w fun e' w'=>e' = .returned (.tuple #[.pointer none,.int .i64 (p:Int),.int .i64 (e:Int)])∧Below w.heap.size w w':=by
 refine (readR s A c w hs h hG hT).mono ?_;rintro e w' ⟨hr,hb'⟩;rw [hf] at hr;exact⟨hr,hb'⟩
theorem readR_big {s:ByteArray}{A:Option Addr}{c:Nat}{w:World}(hs:s.size≤65536) (h:BS w A s) (hG:GlobR w) (hT:TabP w) {F:FileM}{st:RdS}{p:Nat}(hf:fileM s.data.toList (-4611686018427387904) = .ok F st) (hb:st.big=some p) :
  Calls Tryz.prog 22 #[.slice A s.size c] w fun e' w'=>e' = .returned (.tuple #[.pointer none,.int .i64 (p:Int),.int .i64 5])∧Below w.heap.size w w':=by
 refine (readR s A c w hs h hG hT).mono ?_;rintro e w' ⟨hr,hb'⟩;rw [hf] at hr;unfold ReadRes at hr;simp only [hb] at hr;exact⟨hr,hb'⟩
theorem ints_two (w:World) (x y:Nat):Ints (w.alloc (.cells #[.int .i64 (x:Int),.int .i64 (y:Int)] 3)) (some ⟨w.heap.size,0,none⟩) [x,y] :=
 .inr ⟨_,0,rfl,by simp,fun i hi=>by
  rw [cell_of_row _ _ _ _ _ _ (heap_alloc_new w _)];have hi':i < 2:=hi;rcases (by omega:i=0∨i=1) with rfl | rfl <;> rfl⟩
open Go.RowKit Go.Shelf Go.Sort Go.Lib
def cmp2 (a b:Int):Int:=if a < b then -1 else if b < a then 1 else 0
theorem nan_no (a:Int) (w:World):Calls Tryz.prog 150 #[.int .i64 a] w fun e w'=>e = .returned (.bool false)∧w=w':=by
 have d:(a != a)=false:=by simp
 go_enter Tryz.func150,Tryz.ntmps150
 go_wp2_with fail
 go_ret;exact⟨rfl,rfl⟩
theorem compare_int (a b:Int) (w:World):Calls Tryz.prog 93 #[.int .i64 a,.int .i64 b] w fun e w'=>e = .returned (.int .i64 (cmp2 a b))∧w=w':=by
 unfold cmp2;rcases (by omega:a < b∨(¬ a < b∧b < a)∨(¬ a < b∧¬ b < a)) with h | ⟨h,h'⟩ | ⟨h,h'⟩
 ·rw [if_pos h]
  go_enter Tryz.func93,Tryz.ntmps93
  go_wp2_with (go_at_call 150;refine (nan_no _ _).mono ?_;rintro e w' ⟨rfl,rfl⟩)
  go_ret;exact⟨rfl,rfl⟩
 ·rw [if_neg h,if_pos h']
  go_enter Tryz.func93,Tryz.ntmps93
  go_wp2_with (go_at_call 150;refine (nan_no _ _).mono ?_;rintro e w' ⟨rfl,rfl⟩)
  go_ret;exact⟨rfl,rfl⟩
 rw [if_neg h,if_neg h'];go_enter Tryz.func93,Tryz.ntmps93
 go_wp2_with (go_at_call 150;refine (nan_no _ _).mono ?_;rintro e w' ⟨rfl,rfl⟩)
 go_ret;exact⟨rfl,rfl⟩
def cmpF (s t:List Nat):Nat→Nat→Int
 | _,0=>0
 | i,n+1=>if cmp2 (nth s i) (nth t i)≠0 then cmp2 (nth s i) (nth t i) else cmpF s t (i+1) n
def cmpK (s t:List Nat):Int:=cmpF s t 0 6
theorem cmpF_lt (s t:List Nat) (i n:Nat):cmpF s t i (n+1) < 0↔nth s i < nth t i∨(nth s i=nth t i∧cmpF s t (i+1) n < 0):=by
 show (if cmp2 (nth s i) (nth t i)≠0 then cmp2 (nth s i) (nth t i) else cmpF s t (i+1) n) < 0↔_;unfold cmp2;rcases Nat.lt_trichotomy (nth s i) (nth t i) with h | h | h
 ·rw [if_pos (by rw [if_pos (by omega)];omega),if_pos (by omega)]
  exact⟨fun _=>.inl h,fun _=>by omega⟩
 ·rw [if_neg (by rw [if_neg (by omega),if_neg (by omega)];omega)]
  exact⟨fun h'=>.inr ⟨h,h'⟩,fun h'=>by rcases h' with h' | ⟨_,h'⟩;omega;exact h'⟩
 rw [if_pos (by rw [if_neg (by omega),if_pos (by omega)];omega),if_neg (by omega),if_pos (by omega)];exact⟨fun h'=>by omega,fun h'=>by omega⟩
theorem cmpF_irrefl (s:List Nat):∀ n i,¬ cmpF s s i n < 0
 | 0,i=>by show ¬ ((0:Int) < 0);omega
 | n+1,i=>by
  rw [cmpF_lt];have:=cmpF_irrefl s n (i+1);omega
theorem cmpF_trans (s t u:List Nat):∀ n i,cmpF s t i n < 0→cmpF t u i n < 0→cmpF s u i n < 0
 | 0,i,h,_=>h
 | n+1,i,h1,h2=>by
  rw [cmpF_lt] at *;rcases h1 with h1 | ⟨e1,h1⟩ <;> rcases h2 with h2 | ⟨e2,h2⟩
  ·left;omega
  ·left;omega
  ·left;omega
  right;exact⟨by omega,cmpF_trans s t u n (i+1) h1 h2⟩
theorem cmpF_ntrans (s t u:List Nat):∀ n i,¬ cmpF s t i n < 0→¬ cmpF t u i n < 0→¬ cmpF s u i n < 0
 | 0,i,h,_=>h
 | n+1,i,h1,h2=>by
  rw [cmpF_lt] at *;rintro (h | ⟨e,h⟩)
  ·omega
  have h3:nth s i=nth t i:=by omega
  have h4:nth t i=nth u i:=by omega
  exact cmpF_ntrans s t u n (i+1) (fun h'=>h1 (.inr ⟨h3,h'⟩)) (fun h'=>h2 (.inr ⟨h4,h'⟩)) h
theorem ltOf_cmpK (s t:List Nat):ltOf cmpK s t=decide (cmpF s t 0 6 < 0):=rfl
theorem swoK:SWO (ltOf cmpK) where
 irrefl s:=by rw [ltOf_cmpK];exact decide_eq_false (cmpF_irrefl s 6 0)
 trans s t u h1 h2:=by
  rw [ltOf_cmpK] at *;exact decide_eq_true (cmpF_trans s t u 6 0 (of_decide_eq_true h1) (of_decide_eq_true h2))
 ntrans s t u h1 h2:=by
  rw [ltOf_cmpK] at *;exact decide_eq_false (cmpF_ntrans s t u 6 0 (of_decide_eq_false h1) (of_decide_eq_false h2))
theorem cmpF_cons (a b:Nat) (s t:List Nat):∀ n i,cmpF (a::s) (b::t) (i+1) n=cmpF s t i n
 | 0,i=>rfl
 | n+1,i=>by
  show (if cmp2 (nth (a::s) (i+1)) (nth (b::t) (i+1))≠0 then _ else cmpF (a::s) (b::t) (i+1+1) n)=(if cmp2 (nth s i) (nth t i)≠0 then _ else cmpF s t (i+1) n);rw [cmpF_cons a b s t n (i+1)];rfl
theorem cmp_num:∀ {l s t:List Nat}(n:Nat),l.length≤n→InL l s→InL l t→(cmpF s t 0 n < 0↔numL l s < numL l t)
 | [],[],[],n,_,_,_=>by
  have:¬ cmpF [] [] 0 n < 0:=cmpF_irrefl [] n 0;exact⟨fun h=>absurd h this,fun h=>absurd h (Nat.lt_irrefl _)⟩
 | m::l,a::s,b::t,0,h,_,_=>by simp at h
 | m::l,a::s,b::t,n+1,h,hs,ht=>by
  have hs':a < m∧InL l s:=hs;have ht':b < m∧InL l t:=ht;rw [cmpF_lt,cmpF_cons,cmp_num n (by simpa using h) hs'.2 ht'.2];show a < b∨(a=b∧_)↔a * prodL l+numL l s < b * prodL l+numL l t;have h1:=hs'.2.num_lt;have h2:=ht'.2.num_lt;rcases Nat.lt_trichotomy a b with h3 | h3 | h3
  ·have:=Nat.mul_le_mul_right (prodL l) (show a+1≤b from h3)
   rw [Nat.add_mul,Nat.one_mul] at this;exact⟨fun _=>by omega,fun _=>.inl h3⟩
  ·subst h3
   exact⟨fun h=>by omega,fun h=>.inr ⟨rfl,by omega⟩⟩
  have:=Nat.mul_le_mul_right (prodL l) (show b+1≤a from h3);rw [Nat.add_mul,Nat.one_mul] at this;exact⟨fun h=>by omega,fun h=>by omega⟩
abbrev Six (w:World) (g:Nat) (t:List Nat):Prop:=w.cell? ⟨g,0,none⟩=some (szV t 0)∧w.cell? ⟨g,1,none⟩=some (szV t 1)∧w.cell? ⟨g,2,none⟩=some (szV t 2)∧w.cell? ⟨g,3,none⟩=some (szV t 3)∧w.cell? ⟨g,4,none⟩=some (szV t 4)∧w.cell? ⟨g,5,none⟩=some (szV t 5)
theorem Six.at_ {w:World}{g:Nat}{t:List Nat}(h:Six w g t) {j:Nat}(hj:j < 6):w.cell? ⟨g,j,none⟩=some (szV t j):=by
 obtain⟨h0,h1,h2,h3,h4,h5⟩:=h;rcases (by omega:j=0∨j=1∨j=2∨j=3∨j=4∨j=5) with rfl | rfl | rfl | rfl | rfl | rfl <;> assumption
theorem compare_six (g h c d:Nat) (s t:List Nat) (w:World) (hs:Six w g s) (ht:Six w h t) :
  Calls Tryz.prog 37 #[.slice (some ⟨g,0,none⟩) 6 c,.slice (some ⟨h,0,none⟩) 6 d] w fun e w'=>e = .returned (.int .i64 (cmpK s t))∧w=w':=by
 have HS:=hid hs;have HT:=hid ht;clear hs ht;go_enter Tryz.func37,Tryz.ntmps37
 go_wp2_with fail
 go_loop [5,6,7,8,11] (fun _ _ _ _ i=>∃ j:Nat,j≤6∧i = .int .i64 (j:Int)∧Hid (cmpF s t j (6 - j)=cmpK s t)) (fun _ _ _ _ i=>6 - (intOf i).toNat)
 case atStart=>exact⟨0,by omega,rfl,hid rfl⟩
 case round =>
  obtain⟨j,hj,rfl,HC⟩:=hrel;by_cases hlt:j < 6
  rotate_left
  ·obtain rfl:j=6:=by omega
   have HZ:Hid ((0:Int)=cmpK s t):=hid HC.out;clear hlt hj;go_wp2_with fail
   go_ret;exact⟨congrArg (fun x=>Ending.returned (.int .i64 x)) HZ.out,rfl⟩
  have hc:=HS.out.at_ hlt;have hd:=HT.out.at_ hlt;have ji:(j:Int) < 6:=by omega
  have j0:(0:Int)≤(j:Int):=by omega
  have HN:Hid ((if cmp2 (nth s j) (nth t j)≠0 then cmp2 (nth s j) (nth t j) else cmpF s t (j+1) (6 - (j+1)))=cmpK s t):=hid (by
   have h:=HC.out;rw [show 6 - j=(6 - (j+1))+1 by omega] at h;exact h)
  simp only [szV] at hc hd;generalize nth s j=x at hc HN;generalize nth t j=y at hd HN;have jn:¬ (6≤(j:Int)):=by omega
  have hcj:decide (6≤(j:Int))=false:=decide_eq_false jn;go_wp2_with fail
  refine (compare_int _ _ _).mono ?_;rintro e w' ⟨rfl,rfl⟩;by_cases hz:cmp2 x y=0
  ·have dz:(cmp2 x y != 0)=false:=by simp [hz]
   have HN2:Hid (cmpF s t (j+1) (6 - (j+1))=cmpK s t):=hid (by have h:=HN.out;rwa [if_neg (by simp [hz])] at h);go_wp2_with fail
   go_round
   case rel=>exact⟨j+1,by omega,by go_num,HN2⟩
   case measure=>simp [intOf];omega
  have dz:(cmp2 x y != 0)=true:=by rw [bne_iff_ne];exact hz
  have HN2:Hid (cmp2 x y=cmpK s t):=hid (by have h:=HN.out;rwa [if_pos hz] at h);go_wp2_with fail
  go_ret;exact⟨congrArg (fun x=>Ending.returned (.int .i64 x)) HN2.out,rfl⟩
theorem compare_keys (s t:List Nat) (W:World):Calls Tryz.prog 158 #[keyV s,keyV t] W fun e w'=>e = .returned (.int .i64 (cmpK s t))∧∃ q os',w'=grow (W.drewN q) os':=by
 have n1:=new_val W (.cells (kyC s) 139);have n2:=new_val (W.alloc (.cells (kyC s) 139)) (.cells (kyC t) 139);have H1:Hid (Six ((W.alloc (.cells (kyC s) 139)).alloc (.cells (kyC t) 139)).drew W.heap.size s):=hid (ky_cells ((n2.block _ (by simp)).trans (heap_alloc_new W (.cells (kyC s) 139))));have H2:Hid (Six ((W.alloc (.cells (kyC s) 139)).alloc (.cells (kyC t) 139)).drew (W.heap.size+1) t):=hid (ky_cells (alloc_two W _ _));clear n1 n2;generalize hr:cmpK s t=r;have HR:=hid hr;clear hr;go_enter Tryz.func158,Tryz.ntmps158
 go_upto_region 1 with fail
 generalize h2:((W.alloc (.cells (kyC s) 139)).alloc (.cells (kyC t) 139))=w2 at H1 H2 ⊢;have E2:=hid h2;clear h2;go_region_held3 (fun W'=>W'=w2.drew) (first | rfl | assumption)
  ((first | (go_at_call 37;refine (compare_six _ _ _ _ s t _ (by subst_vars;exact H1.out) (by subst_vars;exact H2.out)).mono ?_;rw [HR.out];rintro e w' ⟨rfl,rfl⟩)))
 go_wp2_with fail
 go_ret;refine⟨rfl,1,#[.cells (kyC s) 139,.cells (kyC t) 139],?_⟩;have e:=E2.out;rw [alloc_eq_grow,alloc_eq_grow,grow_grow] at e;have hw:∀ W':World,W'=w2.drew→W'=grow (W.drewN 1) #[.cells (kyC s) 139,.cells (kyC t) 139]:=by
  rintro W' rfl;rw [← e];rfl
 exact hw _ rfl
def encK (t:List Nat):List Value:=[szV t 0,szV t 1,szV t 2,szV t 3,szV t 4,szV t 5]
theorem cmpLaysK (blk off size:Nat) (w:World):CmpLays Tryz.prog 158 #[] encK 6 cmpK blk off size w:=fun _ _ _ _ s t=>compare_keys s t _
open Go.RowKit Go.Maps
theorem Own.lt {w:World}{base:Nat}{v:Value}{l:List Nat}(h:Own w base v l):∀ k,v.ownBlock=some k→base≤k∧k < w.heap.size:=World.ownsRow.lt h
def linesT (l:List Nat) (o:Int) (f:List Nat→Int):List (List Nat):=((List.range (prodL l)).filter fun i=>decide (f (tupL l i)≠o)).map (tupL l)
theorem linesT_mem {l:List Nat}{o:Int}{f:List Nat→Int}(hl:∀ n∈l,1≤n) (t:List Nat):t∈linesT l o f↔InL l t∧f t≠o:=by
 unfold linesT;simp only [List.mem_map,List.mem_filter,List.mem_range,decide_eq_true_eq];constructor
 ·rintro⟨i,⟨h1,h2⟩,rfl⟩
  exact⟨tupL_in hl i,h2⟩
 rintro⟨h1,h2⟩;exact⟨numL l t,⟨h1.num_lt,by rw [h1.tup];exact h2⟩,h1.tup⟩
theorem linesT_num {l:List Nat}{o:Int}{f:List Nat→Int}:(linesT l o f).map (numL l)=(List.range (prodL l)).filter fun i=>decide (f (tupL l i)≠o):=by
 unfold linesT;rw [List.map_map];conv=>rhs;rw [← List.map_id ((List.range (prodL l)).filter fun i=>decide (f (tupL l i)≠o))]
 refine List.map_congr_left fun i hi=>?_;exact num_tup (List.mem_range.1 (List.mem_filter.1 hi).1)
theorem ownsMap_keys {w:World}{P:Program}{k:TypeId}{R:Value→Option (DataW Unit × List MemPlace)} {b n:Nat}{D:DataW Unit}(h:w.ownsMap P k R b n D) (K:Keyed P k) :
  ∃ es,D = .map es∧es.Pairwise (fun p q=>p.1≠q.1)∧∀ p∈es,WideAt.IsKeyLit p.1:=by
 obtain⟨es,clock,_,F,_,rfl⟩:=h;refine⟨_,rfl,((WideShapes.sorted_perm _).pairwise_iff (fun {_ _} hne=>Ne.symm hne)).2 (Maps.fit_apart K F),fun p hp=>?_⟩;have hp':=(WideShapes.sorted_perm _).mem_iff.1 hp;obtain⟨v,hv⟩:=Maps.fit_keys F p hp';exact K.key hv
theorem nodup_lenG {α:Type} [BEq α] [LawfulBEq α]:∀ {V L:List α},V.Pairwise (·≠·)→(∀ x∈V,x∈L)→V.length≤L.length
 | [],L,_,_=>Nat.zero_le _
 | x::V,L,h,hs=>by
  have hx:=hs x (List.mem_cons_self ..);have h2:=List.pairwise_cons.1 h;have ih:=nodup_lenG (L:=L.erase x) h2.2 fun y hy=>(List.mem_erase_of_ne (fun e=>h2.1 y hy e.symm)).2 (hs y (List.mem_cons_of_mem _ hy));rw [List.length_erase_of_mem hx] at ih;have:0 < L.length:=List.length_pos_of_mem hx;show V.length+1≤L.length;omega
theorem linesT_nodup (l:List Nat) (o:Int) (f:List Nat→Int):(linesT l o f).Pairwise (·≠·):=by
 have h:((linesT l o f).map (numL l)).Pairwise (· < ·):=by
  rw [linesT_num];exact List.pairwise_lt_range.filter _
 rw [List.pairwise_map] at h;exact h.imp fun {a b} hlt e=>by rw [e] at hlt;exact Nat.lt_irrefl _ hlt
theorem size_lines {w:World}{b n:Nat}{l:List Nat}{o:Int}{f:List Nat→Int}{D:DataW Unit}(h:w.ownsMap Tryz.prog 139 (plainElem Tryz.prog 2) b n D) (hrep:RepF D l o f) (h6:l.length≤6) (h32:∀ n∈l,1≤n∧n≤32) :
  Maps.size D=(linesT l o f).length:=by
 classical
 obtain⟨es,rfl,hp,hk⟩:=ownsMap_keys h keyed;have h1:∀ n∈l,1≤n:=fun n hn=>(h32 n hn).1;have hu:∀ n∈l,n≤32:=fun n hn=>(h32 n hn).2;have hh:∀ k,Maps.has (DataW.map es) k=true↔∃ p∈es,p.1.sameKey k=true:=fun k=>by rw [Maps.has_eq,List.any_eq_true]
 let e1:=es.map (·.1)
 let e2:=(linesT l o f).map keyL
 letI:BEq Lit:=instBEqOfDecidableEq
 have m12:∀ x,x∈es.map (·.1)↔x∈(linesT l o f).map keyL:=fun x=>by
  constructor
  ·intro hx
   obtain⟨p,hpe,rfl⟩:=List.mem_map.1 hx;have hhas:=(hh p.1).2 ⟨p,hpe,WideAt.sameKey_self (hk p hpe)⟩;obtain⟨t,ht,e⟩:=hrep.2 _ hhas;rw [e] at hhas ⊢;rw [(hrep.1 t ht).1] at hhas;exact List.mem_map.2 ⟨t,(linesT_mem h1 t).2 ⟨ht,of_decide_eq_true hhas⟩,rfl⟩
  intro hx;obtain⟨t,ht,rfl⟩:=List.mem_map.1 hx;obtain⟨ht1,ht2⟩:=(linesT_mem h1 t).1 ht;have:=(hrep.1 t ht1).1;rw [decide_eq_true ht2] at this;obtain⟨p,hpe,e⟩:=(hh _).1 this;exact List.mem_map.2 ⟨p,hpe,WideAt.sameKey_eq e⟩
 have n1:(es.map (·.1)).Pairwise (·≠·):=by rw [List.pairwise_map];exact hp
 have n2:((linesT l o f).map keyL).Pairwise (·≠·):=by
  rw [List.pairwise_map];have h:=linesT_nodup l o f;rw [List.pairwise_iff_getElem] at h ⊢;intro i j hi hj hij e;exact h i j hi hj hij (keyL_inj h6 hu ((linesT_mem h1 _).1 (List.getElem_mem hi)).1 ((linesT_mem h1 _).1 (List.getElem_mem hj)).1 e)
 have a:=nodup_lenG n1 fun x hx=>(m12 x).1 hx;have b:=nodup_lenG n2 fun x hx=>(m12 x).2 hx;rw [List.length_map,List.length_map] at a b;rw [Maps.size_eq];omega
end Go.Proofs.YtmokogkndbinlaaGreatDoor
namespace Go.Proofs.YtmokogkndbinlaaGreatDoor
open Go.RowKit Go.Maps
set_option maxRecDepth 100000 in
theorem tpcount_any (g b N c P:Nat) (A:Option Addr) (l:List Nat) (k o:Int) (f:List Nat→Int) (w:World) (H:TpAt w g b A c N l k o f) (h6:l.length≤6) (h32:∀ n∈l,n≤32) (hP:prodL l=P) :
  Calls Tryz.prog 91 #[.pointer (some ⟨g,0,none⟩)] w fun e w'=>e = .returned (.int .i64 (P:Int))∧w=w':=by
 obtain⟨a0,a1,a2,a3⟩:=H.cells;have HW:=hid H.ints;have H6:=hid h6;have H32:=hid h32;have HPP:=hid hP;obtain⟨n,hn⟩:∃ n,l.length=n:=⟨_,rfl⟩
 have HN:=hid hn;have hn6:n≤6:=by omega
 rw [hn] at a0;clear H h6 h32 hP hn;go_enter Tryz.func91,Tryz.ntmps91
 go_wp2_with fail
 go_loop [3,5,11] (fun p _ i=>∃ j:Nat,j≤n∧i = .int .i64 j∧p = .int .i64 (prodL (l.take j):Nat)) (fun _ _ i=>n - (intOf i).toNat)
 case atStart=>exact⟨0,Nat.zero_le _,rfl,rfl⟩
 case round =>
  obtain⟨j,hj,rfl,rfl⟩:=hrel;by_cases hlt:j < n
  rotate_left
  ·go_wp2
   go_ret;obtain rfl:j=n:=by omega
   exact⟨ret_int (by rw [← HN.out,List.take_length,HPP.out]),rfl⟩
  have hjl:j < l.length:=by have:=HN.out;omega
  obtain⟨g',o',rfl,hcell⟩:=HW.out.at_ hjl;have hb:=take_le H6.out H32.out j;have hx:=nth_le H32.out j;have HP:=hid (prod_take l hjl);have hm:prodL (l.take j) * nth l j≤1073741824:=by rw [← HP.out];exact take_le H6.out H32.out (j+1)
  have hmi:((prodL (l.take j):Nat):Int) * (nth l j:Int)≤1073741824:=by rw [← Int.natCast_mul];omega
  have hm0:0≤((prodL (l.take j):Nat):Int) * (nth l j:Int):=by rw [← Int.natCast_mul];omega
  clear hjl hm;generalize nth l j=x at hcell hx HP hmi hm0;generalize prodL (l.take j)=p at hb HP hmi hm0;go_wp2
  go_round
  case rel=>exact⟨j+1,by omega,by go_num,by rw [HP.out,Int.natCast_mul]⟩
  case measure=>simp [intOf];omega
structure SeenT (left:Lit→Bool) (l:List Nat) (o o':Int) (f f':List Nat→Int) (ts:List (List Nat)) (n:Nat):Prop where
 nodup:ts.Pairwise (·≠·)
 mem:∀ t,t∈ts↔InL l t∧f' t≠o'∧left (keyL t)=false
 told:n=(linesT l o f).length+(ts.filter fun t=>decide (f t=o)).length
 same:∀ t,t∈ts→f t=f' t
theorem SeenT.start {D:DataW Unit}{l:List Nat}{o o':Int}{f f':List Nat→Int}(hrep:RepF D l o' f'):SeenT (Maps.has D) l o o' f f' [] (linesT l o f).length:=by
 refine⟨List.Pairwise.nil,fun t=>⟨fun h=>(by cases h),fun h=>?_⟩,rfl,fun t h=>(by cases h)⟩;have:=(hrep.1 t h.1).1;rw [h.2.2,decide_eq_true h.2.1] at this;cases this
theorem SeenT.step {left:Lit→Bool}{l t:List Nat}{o o':Int}{f f':List Nat→Int}{ts:List (List Nat)} {n:Nat}(H:SeenT left l o o' f f' ts n) (h6:l.length≤6) (h32:∀ n∈l,1≤n∧n≤32) (ht:InL l t) (hn:f' t≠o') (hl:left (keyL t)=true) (hs:f t=f' t) :
  SeenT (fun y=>left y && !y.sameKey (keyL t)) l o o' f f' (t::ts) (if f t=o then n+1 else n):=by
 have hnot:t ∉ ts:=fun h=>by
  have:=((H.mem t).1 h).2.2;rw [hl] at this;cases this
 refine⟨List.pairwise_cons.2 ⟨fun s hs e=>hnot (e ▸ hs),H.nodup⟩,fun s=>?_,?_,fun s h=>?_⟩
 ·show s∈t::ts↔InL l s∧f' s≠o'∧(left (keyL s) && !(keyL s).sameKey (keyL t))=false
  rw [List.mem_cons];constructor
  ·rintro (rfl | h)
   ·exact⟨ht,hn,by rw [WideAt.sameKey_self (keyL_isKey s)];simp⟩
   obtain⟨a,b,c⟩:=(H.mem s).1 h;exact⟨a,b,by rw [c];rfl⟩
  rintro⟨a,b,c⟩;by_cases e:keyL s=keyL t
  ·exact .inl (keyL_inj h6 (fun n hn=>(h32 n hn).2) a ht e)
  rw [sameKey_ne e] at c;exact .inr ((H.mem s).2 ⟨a,b,by simpa using c⟩)
 ·rw [List.filter_cons]
  by_cases e:f t=o
  ·rw [if_pos e,if_pos (decide_eq_true e),List.length_cons]
   have:=H.told;omega
  rw [if_neg e,if_neg (by simpa using e)];exact H.told
 rcases List.mem_cons.1 h with rfl | h
 ·exact hs
 exact H.same s h
theorem SeenT.le {left:Lit→Bool}{l:List Nat}{o o':Int}{f f':List Nat→Int}{ts:List (List Nat)} {n:Nat}(H:SeenT left l o o' f f' ts n) (h1:∀ n∈l,1≤n):n≤prodL l:=by
 let U:=linesT l o f++ts.filter fun t=>decide (f t=o)
 have hU:n=U.length:=by rw [H.told,List.length_append]
 have hA:∀ t,InL l t→t∈allL l:=fun t ht=>by
  rw [← ht.tup];have:=allL_get l (i:=numL l t) ht.num_lt;have h2:numL l t < (allL l).length:=by rw [allL_length];exact ht.num_lt
  rw [List.getD_eq_getElem?_getD,List.getElem?_eq_getElem h2] at this;rw [← this];exact List.getElem_mem h2
 have hn:U.Pairwise (·≠·):=by
  refine List.pairwise_append.2 ⟨linesT_nodup l o f,H.nodup.filter _,fun a ha b hb e=>?_⟩;subst e;exact ((linesT_mem h1 a).1 ha).2 (of_decide_eq_true (List.mem_filter.1 hb).2)
 have hle:U.length≤(allL l).length:=nodup_lenG hn fun t ht=>hA t (by
  rcases List.mem_append.1 ht with h | h
  ·exact ((linesT_mem h1 t).1 h).1
  ·exact ((H.mem t).1 (List.mem_filter.1 h).1).1)
 rw [allL_length] at hle;omega
theorem SeenT.all {left:Lit→Bool}{l:List Nat}{o o':Int}{f f':List Nat→Int}{ts:List (List Nat)} {n:Nat}(H:SeenT left l o o' f f' ts n) (h1:∀ n∈l,1≤n) (h0:∀ y,left y=false) :
  (n=prodL l↔∀ t,InL l t→f t≠o∨f' t≠o')∧n≤prodL l:=by
 have hm:∀ t,t∈ts↔InL l t∧f' t≠o':=fun t=>by rw [H.mem t,h0];simp
 let U:=linesT l o f++ts.filter fun t=>decide (f t=o)
 have hU:n=U.length:=by rw [H.told,List.length_append]
 have hmem:∀ t,t∈U↔InL l t∧(f t≠o∨f' t≠o'):=fun t=>by
  rw [List.mem_append,linesT_mem h1,List.mem_filter,hm];constructor
  ·rintro (⟨a,b⟩ | ⟨⟨a,b⟩,c⟩)
   ·exact⟨a,.inl b⟩
   exact⟨a,.inr b⟩
  rintro⟨a,b⟩;by_cases e:f t=o
  ·rcases b with b | b
   ·exact absurd e b
   exact .inr ⟨⟨a,b⟩,decide_eq_true e⟩
  exact .inl ⟨a,e⟩
 have hn:U.Pairwise (·≠·):=by
  refine List.pairwise_append.2 ⟨linesT_nodup l o f,H.nodup.filter _,fun a ha b hb e=>?_⟩;subst e;exact ((linesT_mem h1 a).1 ha).2 (of_decide_eq_true (List.mem_filter.1 hb).2)
 have hA:∀ t,InL l t→t∈allL l:=fun t ht=>by
  rw [← ht.tup];have:=allL_get l (i:=numL l t) ht.num_lt;have h2:numL l t < (allL l).length:=by rw [allL_length];exact ht.num_lt
  rw [List.getD_eq_getElem?_getD,List.getElem?_eq_getElem h2] at this;rw [← this];exact List.getElem_mem h2
 have hA2:∀ t,t∈allL l→InL l t:=fun t ht=>by
  obtain⟨i,hi,e⟩:=List.getElem_of_mem ht;have hi':i < prodL l:=by rw [← allL_length];exact hi
  have:=allL_get l hi';rw [List.getD_eq_getElem?_getD,List.getElem?_eq_getElem hi] at this;have e2:t=tupL l i:=by rw [← e];exact this
  rw [e2];exact tupL_in h1 i
 have hle:U.length≤(allL l).length:=nodup_lenG hn fun t ht=>hA t ((hmem t).1 ht).1;rw [allL_length] at hle;refine⟨⟨fun e t ht=>?_,fun h=>?_⟩,by omega⟩
 ·by_cases ht':t∈U
  ·exact ((hmem t).1 ht').2
  have:(t::U).length≤(allL l).length:=nodup_lenG (List.pairwise_cons.2 ⟨fun s hs e=>ht' (e ▸ hs),hn⟩) fun s hs=>by
   rcases List.mem_cons.1 hs with rfl | hs
   ·exact hA _ ht
   exact hA _ ((hmem s).1 hs).1
  rw [List.length_cons,allL_length] at this;omega
 have hnd:(allL l).Pairwise (·≠·):=by
  rw [List.pairwise_iff_getElem];intro i j hi hj hij e;have hi':i < prodL l:=by rw [← allL_length];exact hi
  have hj':j < prodL l:=by rw [← allL_length];exact hj
  have e1:=allL_get l hi';have e2:=allL_get l hj';rw [List.getD_eq_getElem?_getD,List.getElem?_eq_getElem hi] at e1;rw [List.getD_eq_getElem?_getD,List.getElem?_eq_getElem hj] at e2;have e3:tupL l i=tupL l j:=by rw [← e1,← e2];exact e
  have:=congrArg (numL l) e3;rw [num_tup hi',num_tup hj'] at this;omega
 have:=nodup_lenG hnd (L:=U) fun t ht=>(hmem t).2 ⟨hA2 t ht,h t (hA2 t ht)⟩;rw [allL_length] at this;omega
def SameF (l:List Nat) (f f':List Nat→Int):Prop:=∀ t,InL l t→f t=f' t
def Went (left:Lit→Bool) (l:List Nat) (o:Int) (f f':List Nat→Int):Prop:=∀ t,InL l t→f t≠o→left (keyL t)=true∨f' t=f t
theorem Went.start {D:DataW Unit}{l:List Nat}{o:Int}{f f':List Nat→Int}(hrep:RepF D l o f):Went (Maps.has D) l o f f':=fun t ht h=>by
 rw [(hrep.1 t ht).1];exact .inl (decide_eq_true h)
theorem Went.step {left:Lit→Bool}{l t:List Nat}{o:Int}{f f':List Nat→Int}(H:Went left l o f f') (h6:l.length≤6) (h32:∀ n∈l,1≤n∧n≤32) (ht:InL l t) (he:f' t=f t):Went (fun y=>left y && !y.sameKey (keyL t)) l o f f':=fun s hs hn=>by
 show (left (keyL s) && !(keyL s).sameKey (keyL t))=true∨_;by_cases e:keyL s=keyL t
 ·obtain rfl:=keyL_inj h6 (fun n hn=>(h32 n hn).2) hs ht e
  exact .inr he
 rw [sameKey_ne e];rcases H s hs hn with h | h
 ·exact .inl (by rw [h];rfl)
 exact .inr h
theorem same_all {left left2:Lit→Bool}{l:List Nat}{o o':Int}{f f':List Nat→Int}{ts:List (List Nat)} {n:Nat}(H:SeenT left l o o' f f' ts n) (G:Went left2 l o f f') (h1:∀ n∈l,1≤n) (h0:∀ y,left y=false) (h2:∀ y,left2 y=false) :
  SameF l f f'↔(o=o'∨n=prodL l):=by
 have hm:∀ t,InL l t→f' t≠o'→f t=f' t:=fun t ht h=>H.same t ((H.mem t).2 ⟨ht,h,h0 _⟩);have hg:∀ t,InL l t→f t≠o→f t=f' t:=fun t ht h=>by
  rcases G t ht h with h | h
  ·rw [h2] at h
   cases h
  exact h.symm
 have ha:=(H.all h1 h0).1;constructor
 ·intro hs
  by_cases e:o=o'
  ·exact .inl e
  refine .inr (ha.2 fun t ht=>?_);by_cases e1:f t=o
  ·exact .inr fun e2=>e (by rw [← e1,← e2];exact hs t ht)
  exact .inl e1
 rintro (e | e) t ht
 ·by_cases e1:f t=o
  ·by_cases e2:f' t=o'
   ·rw [e1,e2,e]
   exact hm t ht e2
  exact hg t ht e1
 rcases ha.1 e t ht with h | h
 ·exact hg t ht h
 exact hm t ht h
end Go.Proofs.YtmokogkndbinlaaGreatDoor
