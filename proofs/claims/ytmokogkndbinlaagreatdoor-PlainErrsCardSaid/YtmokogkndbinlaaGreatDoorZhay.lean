import Derived.Test.YtmokogkndbinlaaGreatDoorZhax
set_option linter.all false
namespace Go.Proofs.YtmokogkndbinlaaGreatDoor
open Go.Lib (hid)
open Go.RowKit
def pickL (t s:List Nat):List Nat:=s.map (nth t)
theorem pickL_len (t s:List Nat):(pickL t s).length=s.length:=by simp [pickL]
theorem nth_map {s:List Nat}{f:Nat→Nat}{i:Nat}(h:i < s.length):nth (s.map f) i=f (nth s i):=by
 simp [nth,List.getD_eq_getElem?_getD,h]
theorem pickL_nth {t s:List Nat}{i:Nat}(h:i < s.length):nth (pickL t s) i=nth t (nth s i):=nth_map h
theorem nth_range {n i:Nat}{f:Nat→Nat}(h:i < n):nth ((List.range n).map f) i=f i:=by
 simp [nth,List.getD_eq_getElem?_getD,h]
def invF (o:Nat→Int):Nat→Nat→Int
 | 0,_=>-1
 | j+1,v=>if o j=(v:Int) then (j:Int) else invF o j v
theorem invF_neg (o:Nat→Int) (v:Nat):∀ j,(∀ i,i < j→o i≠(v:Int))→invF o j v = -1
 | 0,_=>rfl
 | j+1,h=>by
  show (if o j=(v:Int) then (j:Int) else invF o j v) = -1;rw [if_neg (h j (by omega))];exact invF_neg o v j fun i hi=>h i (by omega)
theorem invF_some {o:Nat→Int}{v:Nat}:∀ {j:Nat},0≤invF o j v→∃ i,i < j∧o i=(v:Int)
 | 0,h=>by have h:(0:Int)≤-1:=h;omega
 | j+1,h=>by
  by_cases e:o j=(v:Int)
  ·exact⟨j,by omega,e⟩
  have h:0≤(if o j=(v:Int) then (j:Int) else invF o j v):=h;rw [if_neg e] at h;obtain⟨i,hi,hv⟩:=invF_some h;exact⟨i,by omega,hv⟩
theorem invF_pos {o:Nat→Int}{v i:Nat}:∀ {j:Nat},i < j→o i=(v:Int)→0≤invF o j v
 | 0,h,_=>by omega
 | j+1,h,hv=>by
  show 0≤(if o j=(v:Int) then (j:Int) else invF o j v);by_cases e:o j=(v:Int)
  ·rw [if_pos e];omega
  rw [if_neg e];have:i≠j:=fun h'=>e (by rw [← h'];exact hv);exact invF_pos (by omega) hv
def OrdB (o:Nat→Int) (N j:Nat):Prop:=∀ i,i < j→0≤o i∧o i < (N:Int)∧∀ i',i' < i→o i'≠o i
theorem ordB_inv {o:Nat→Int}{N j i:Nat}(h:OrdB o N j) (hi:i < j):invF o j (o i).toNat=(i:Int):=by
 induction j with
 | zero=>omega
 | succ j ih =>
  have hi0:=(h i hi).1;show (if o j=((o i).toNat:Int) then (j:Int) else invF o j (o i).toNat)=i;rw [Int.toNat_of_nonneg hi0];by_cases e:i=j
  ·subst e;rw [if_pos rfl]
  rw [if_neg (fun e'=>(h j (by omega)).2.2 i (by omega) e'.symm)];exact ih (fun k hk=>h k (by omega)) (by omega)
structure PermL (N:Nat) (s r:List Nat):Prop where
 ls:s.length=N
 lr:r.length=N
 bs:∀ i,i < N→nth s i < N
 br:∀ i,i < N→nth r i < N
 sr:∀ i,i < N→nth s (nth r i)=i
 rs:∀ i,i < N→nth r (nth s i)=i
theorem PermL.pick2 {N:Nat}{s r t:List Nat}(h:PermL N s r) (ht:t.length=N):pickL (pickL t s) r=t:=by
 apply nth_eq (by rw [pickL_len,h.lr,ht]);intro i hi;rw [pickL_len,h.lr] at hi;rw [pickL_nth (by rw [h.lr];exact hi),pickL_nth (by rw [h.ls];exact h.br i hi),h.sr i hi]
theorem inL_pick_Tt2 {l t s:List Nat}(h:InL l t) (hs:∀ i,i < s.length→nth s i < l.length):InL (pickL l s) (pickL t s):=by
 rw [inL_iff] at h ⊢;refine⟨by rw [pickL_len,pickL_len],fun p hp=>?_⟩;rw [pickL_len] at hp;rw [pickL_nth hp,pickL_nth hp];exact h.2 _ (hs p hp)
theorem pickL_mem {l s:List Nat}{x:Nat}(hs:∀ i,i < s.length→nth s i < l.length) (hx:x∈pickL l s):x∈l:=by
 simp only [pickL,List.mem_map] at hx;obtain⟨a,ha,rfl⟩:=hx;obtain⟨i,hi,rfl⟩:=List.getElem_of_mem ha;have:=hs i hi;rw [show nth s i=s[i] by simp [nth,List.getD_eq_getElem?_getD,hi]] at this;exact nth_mem this
def turnZ (l:List Nat) (z:Nat→Int) (s r:List Nat) (i:Nat):Int:=z (numL l (pickL (tupL (pickL l s) i) r))
theorem turn_in {l s r:List Nat}{N i:Nat}(h:PermL N s r) (hl:l.length=N) (h1:∀ n∈l,1≤n):InL l (pickL (tupL (pickL l s) i) r):=by
 have hs:∀ i,i < s.length→nth s i < l.length:=fun i hi=>by rw [hl];exact h.bs i (by rw [← h.ls];exact hi)
 have h2:InL (pickL l s) (tupL (pickL l s) i):=tupL_in (fun n hn=>h1 n (pickL_mem hs hn)) i;have h3:=inL_pick_Tt2 (s:=r) h2 (fun i hi=>by rw [pickL_len,h.ls];exact h.br i (by rw [← h.lr];exact hi));rw [h.pick2 hl] at h3;exact h3
open Go.RowKit Go.Maps
theorem map_not {w:World}{P:Program}{k:TypeId}{R:Value→Option (DataW Unit × List MemPlace)} {b n g:Nat}{D:DataW Unit}(h:w.ownsMap P k R b n D) {cs:Array Value}{t:TypeId}{fz:Nat × Nat}(hg:w.heap[g]? = some (.cells cs t fz)):g≠b:=by
 rintro rfl;obtain⟨es,clock,hm,_⟩:=h;have:=hg.symm.trans hm;simp at this
structure XAt (W:World) (bx gc n cs cc P:Nat) (As:Option Addr) (l:List Nat) (k:Int) (z:Nat→Int):Prop where
 row:W.heap[bx]? = some (.cells #[.slice As n cs,.int .i64 k,.slice (some ⟨gc,0,none⟩) P cc] 69 (0,0))
 ints:Ints W As l
 costs:∃ cur,W.heap[gc]? = some (.cells cur 2 (0,0))∧P≤cur.size∧∀ i,i < P→cur[i]? = some (.int .i64 (z i))
def fillF (l:List Nat) (o:Int) (z:Nat→Int):Nat→List Nat→Int
 | 0=>fun _=>o
 | j+1=>updF (fillF l o z j) (tupL l j) (z j)
theorem fillF_get {l:List Nat}{o:Int}{z:Nat→Int}:∀ {j:Nat},j≤prodL l→∀ i,i < prodL l→fillF l o z j (tupL l i)=if i < j then z i else o
 | 0,_,i,_=>by simp [fillF]
 | j+1,hj,i,hi=>by
  show updF (fillF l o z j) (tupL l j) (z j) (tupL l i)=_;unfold updF;by_cases e:i=j
  ·subst e
   rw [if_pos rfl,if_pos (by omega)]
  rw [if_neg (fun h=>e (by have:=congrArg (numL l) h;rw [num_tup hi,num_tup (show j < prodL l by omega)] at this;exact this)),fillF_get (by omega) i hi];by_cases h:i < j
  ·rw [if_pos h,if_pos (by omega)]
  rw [if_neg h,if_neg (by omega)]
theorem fillF_all {l:List Nat}{o:Int}{z:Nat→Int}{i:Nat}(hi:i < prodL l):fillF l o z (prodL l) (tupL l i)=z i:=by
 rw [fillF_get (Nat.le_refl _) i hi,if_pos hi]
theorem fillF_in {l:List Nat}{o k:Int}{z:Nat→Int}(ho:InK o k) (hz:∀ i,i < prodL l→InK (z i) k):∀ t,InL l t→InK (fillF l o z (prodL l) t) k:=fun t ht=>by
 rw [← ht.tup,fillF_all ht.num_lt];exact hz _ ht.num_lt
theorem Zs.congr {w:World}{A:Option Addr}{n:Nat}{z z':Nat→Int}(H:Zs w A n z) (h:∀ i,i < n→z i=z' i):Zs w A n z':=by
 rcases H with h0 | ⟨g,o,e,hlt,hc⟩
 ·exact .inl h0
 exact .inr ⟨g,o,e,hlt,fun i hi=>by rw [hc i hi,h i hi]⟩
theorem eq64_no (A A2:Option Addr) (n c c2 p:Nat) (z z2:Nat→Int) (w:World) (hl:n≤1000000) (hw:Zs w A n z) (hw2:Zs w A2 n z2) (hp:p < n) (hq:∀ i,i < p→z i=z2 i) (h:z p≠z2 p) :
  Calls Tryz.prog 27 #[.slice A n c,.slice A2 n c2] w fun e w'=>e = .returned (.bool false)∧Below w.heap.size w w':=by
 have HW:=hid hw;have HW2:=hid hw2;have HQ:=hid hq;have HX:=hid h;clear hw hw2 hq h;go_enter Tryz.func27,Tryz.ntmps27
 go_wp2_with fail
 go_loopw [5,13] (fun _ i wr=>∃ j:Nat,j≤p∧i = .int .i64 j∧Below w.heap.size w wr) (fun _ i _=>n - (intOf i).toNat)
 case atStart=>exact⟨0,Nat.zero_le _,rfl,Below.refl _ _⟩
 case round =>
  obtain⟨j,hj,rfl,hb⟩:=hrel;have HB:=hid hb;clear hb;have hlt:j < n:=by omega
  obtain⟨g,o,rfl,hcell⟩:=(HW.out.below HB.out (Nat.le_refl _)).at_ hlt;obtain⟨g2,o2,rfl,hcell2⟩:=(HW2.out.below HB.out (Nat.le_refl _)).at_ hlt;have i1:(j:Int) < (n:Int):=by omega
  have i2:(0:Int)≤(j:Int):=by omega
  by_cases e:j=p
  ·have hx:(z j != z2 j)=true:=by rw [e,bne_iff_ne];exact HX.out
   generalize z j=y at hcell hx;generalize z2 j=y2 at hcell2 hx;clear e;go_wp2_with fail
   go_quiet (fail)
   go_wp2
   go_ret;exact⟨rfl,next_drewN HB.out _⟩
  have hjp:j+1≤p:=by omega
  have hq:=HQ.out j (by omega);rw [← hq] at hcell2;generalize z j=y at hcell hcell2;clear e hq;go_wp2_with fail
  go_quiet (fail)
  go_wp2
  go_roundw
  case rel=>exact⟨j+1,by omega,by go_num,next_drewN HB.out _⟩
  case measure=>simp [intOf];omega
def SameZ (n:Nat) (z z2:Nat→Int):Prop:=∀ i,i < n→z i=z2 i
theorem eq64_any (A A2:Option Addr) (n c c2:Nat) (z z2:Nat→Int) (w:World) (hl:n≤1000000) (hw:Zs w A n z) (hw2:Zs w A2 n z2) :
  Calls Tryz.prog 27 #[.slice A n c,.slice A2 n c2] w fun e w'=>(∃ r:Bool,e = .returned (.bool r)∧IsB r (SameZ n z z2))∧Below w.heap.size w w':=by
 rcases first_at (fun i=>z i≠z2 i) n with h | ⟨p,hp,h1,h2⟩
 ·have h':∀ i,i < n→z i=z2 i:=fun i hi=>by have:=h i hi;simpa using this
  refine (eq64_yes A A2 n c c2 z w hl hw (hw2.congr fun i hi=>(h' i hi).symm)).mono ?_;rintro e w' ⟨rfl,hb⟩;exact⟨⟨true,rfl,fun _=>h',fun _=>rfl⟩,hb⟩
 refine (eq64_no A A2 n c c2 p z z2 w hl hw hw2 hp (fun i hi=>by have:=h1 i hi;simpa using this) h2).mono ?_;rintro e w' ⟨rfl,hb⟩;exact⟨⟨false,rfl,fun h=>(by cases h),fun h=>absurd (h p hp) h2⟩,hb⟩
end Go.Proofs.YtmokogkndbinlaaGreatDoor
namespace Go.Proofs.YtmokogkndbinlaaGreatDoor
open Go.Lib (hid)
attribute [local go_sem] Oper.semAt_some
open Go.RowKit Go.Maps
abbrev HoldOg (wb:World) (B:Nat) (v:Value) (W:World):Prop:=W.cell? ⟨B,0,none⟩=some v∧Below wb.heap.size wb W
theorem HoldOg.below {wb W:World}{B:Nat}{v:Value}(H:HoldOg wb B v W):Below wb.heap.size wb W:=H.2
theorem HoldOg.next {wb W W':World}{B:Nat}{v:Value}(H:HoldOg wb B v W) (hb:Below W.heap.size W W'):HoldOg wb B v W' :=
 ⟨(hb.cell (p:=⟨B,0,none⟩) (World.block_lt_of_cell? W _ H.1)).trans H.1,H.2.trans (hb.mono H.2.size)⟩
def KBg (wb W:World) (b:Nat):Prop:=Boxed W b 60 (.pointer none)∧wb.heap.size≤b
theorem KBg.new {wb W W':World}{B:Nat}{v:Value}(H:HoldOg wb B v (W.alloc (.cells #[.pointer none] 60))) (hB:wb.heap.size≤W.heap.size) (hb:Below (W.alloc (.cells #[.pointer none] 60)).heap.size (W.alloc (.cells #[.pointer none] 60)) W'):KBg wb W' W.heap.size :=
 ⟨box_below (Boxed.new W _ _) hb,hB⟩
theorem KBg.next {wb W W':World}{b:Nat}(H:KBg wb W b) (hb:Below W.heap.size W W'):KBg wb W' b:=⟨box_below H.1 hb,H.2⟩
theorem HoldOg.set {wb W:World}{B b P cc:Nat}{Ac:Option Addr}(H:HoldOg wb B (.slice Ac P cc) W) (K:KBg wb W b) (u:Value):HoldOg wb B (.slice Ac P cc) (W.setCell ⟨b,0,none⟩ u):=by
 have hne:B≠b:=by
  rintro rfl;have:=K.1.cell.symm.trans H.1;simp at this
 have hg:W.grownBy (W.setCell ⟨b,0,none⟩ u) (some b):=⟨rfl,rfl,rfl,by simp,fun k _ hk=>heap_setCell_other W ⟨b,0,none⟩ k _ (fun e=>hk (by simp [e]))⟩
 refine⟨(World.cell?_of_block (hg.block B (World.block_lt_of_cell? W _ H.1) (fun e=>hne (by injection e)))).trans H.1,H.2.grown hg H.2.size (fun k hk=>by injection hk with hk;rw [← hk];exact K.2)⟩
theorem HoldOg.swap {wb W:World}{B P cc:Nat}{Ac:Option Addr}(H:HoldOg wb B (.slice Ac P cc) (W.alloc (.cells #[.pointer none] 60))) (hs:wb.heap.size≤W.heap.size) (u:Value):HoldOg wb B (.slice Ac P cc) (W.alloc (.cells #[u] 60)):=by
 have hlt:=World.block_lt_of_cell? _ _ H.1;have hne:B≠W.heap.size:=by
  rintro rfl;have h1:(W.alloc (.cells #[.pointer none] 60)).cell? ⟨W.heap.size,0,none⟩=some (.pointer none):=lit_new W _ _;have:=h1.symm.trans H.1;simp at this
 have hB:B < W.heap.size:=by
  have h2:B < (W.alloc (.cells #[.pointer none] 60)).heap.size:=hlt;simp at h2
  omega
 have key:∀ (x:Obj) (i:Nat),i < W.heap.size→(W.alloc x).heap[i]? = W.heap[i]?:=fun x i hi=>(new_val W x).block i hi;refine⟨(World.cell?_of_block (a:=⟨B,0,none⟩) ((key _ B hB).trans (key _ B hB).symm)).trans H.1,?_⟩;have h:=H.2;exact⟨h.os,h.tape,h.output,by simp;omega,fun i hi=>by rw [key _ i (by omega),← key (.cells #[.pointer none] 60) i (by omega)];exact h.block i hi⟩
theorem TpAt.far {w w':World}{g b N c:Nat}{A:Option Addr}{l:List Nat}{k o:Int}{f:List Nat→Int}(H:TpAt w g b A c N l k o f) {row:Option Nat}(hg:w.grownBy w' row) (h1:some g≠row) (h2:some b≠row) (h3:l≠[]→∀ a:Addr,A=some a→some a.block≠row):TpAt w' g b A c N l k o f:=by
 obtain⟨D,hm,hr⟩:=H.map;refine⟨(hg.block g (Array.getElem?_eq_some_iff.1 H.row).1 h1).trans H.row,?_,H.cap,D,hm.kept hg h2,hr⟩;by_cases hl:l=[]
 ·exact .inl hl
 rcases H.ints with h0 | ⟨g',o',e,hlt,hc⟩
 ·exact absurd h0 hl
 exact .inr ⟨g',o',e,Nat.lt_of_lt_of_le hlt hg.size,fun i hi=>World.grownBy.cell hg (hc i hi) (h3 hl ⟨g',o',none⟩ e)⟩
theorem TpAt.boxset {w:World}{g b N c bx:Nat}{A:Option Addr}{l:List Nat}{k o:Int}{f:List Nat→Int}(H:TpAt w g b A c N l k o f) (hb:Boxed w bx 60 (.pointer none)) (u:Value):TpAt (w.setCell ⟨bx,0,none⟩ u) g b A c N l k o f:=by
 have hg:w.grownBy (w.setCell ⟨bx,0,none⟩ u) (some bx):=grown_set w bx 0 u;have hbr:w.heap[bx]? = some (.cells #[.pointer none] 60 (0,0)):=hb;obtain⟨D,hm,hr⟩:=H.map;refine H.far hg (fun e=>?_) (fun e=>?_) (fun hl a ha e=>?_)
 ·injection e with e
  have h:=H.row;rw [e,hbr] at h;simp at h
 ·injection e with e
  exact map_not hm hbr e.symm
 injection e with e;rcases H.ints with h0 | ⟨g',o',e',hlt,hc⟩
 ·exact hl h0
 rw [ha] at e';injection e' with e';subst e';have e:g'=bx:=e;subst e;have:=hc 0 (by rcases l with _ | ⟨x,l⟩;exact absurd rfl hl;simp);rw [cell_of_row _ _ _ _ _ _ hbr] at this;rcases o' with _ | o'
 ·simp at this
 simp at this
theorem zs_not {w:World}{P:Program}{k:TypeId}{R:Value→Option (DataW Unit × List MemPlace)} {b n:Nat}{D:DataW Unit}(h:w.ownsMap P k R b n D) {A:Option Addr}{m:Nat}{z:Nat→Int}(hi:Zs w A m z) (hm:1≤m):∀ a:Addr,A=some a→a.block≠b:=by
 rintro a rfl rfl;obtain⟨g',o',e,hc⟩:=hi.at_ (i:=0) (by omega);injection e with e;subst e;obtain⟨es,clock,hmm,_⟩:=h;simp [World.cell?,hmm] at hc
structure OfI (w2:World) (b3 bx gu bu cu P cc:Nat) (Au Ac:Option Addr) (l:List Nat) (k o:Int) (z:Nat→Int) (j:Nat) (W:World):Prop where
 box3:Boxed W b3 34 (.slice Ac P cc)
 box4:Boxed W bx 60 (.pointer (some ⟨gu,0,none⟩))
 t:TpAt W gu bu Au cu j l k o (fillF l o z j)
 zs:Zs W Ac P z
 bel:Below w2.heap.size w2 W
structure OfB (w2:World) (b3 bx gu bu:Nat) (Au Ac:Option Addr) (l:List Nat) (B:Nat):Prop where
 b3:b3 < B
 bx:bx < B
 gu:gu < B
 bu:bu < B
 au:l≠[]→∀ a:Addr,Au=some a→a.block < B
 ac:∀ a:Addr,Ac=some a→a.block < B
 w2:w2.heap.size≤B
theorem OfI.keep {w2 W W':World}{b3 bx gu bu cu P cc:Nat}{Au Ac:Option Addr}{l:List Nat}{k o:Int}{z:Nat→Int}{j B:Nat}(H:OfI w2 b3 bx gu bu cu P cc Au Ac l k o z j W) (HB:OfB w2 b3 bx gu bu Au Ac l B) {row:Option Nat}(hg:W.grownBy W' row) (hr:∀ r,row=some r→B≤r):OfI w2 b3 bx gu bu cu P cc Au Ac l k o z j W':=by
 have far:∀ q,q < B→some q≠row:=fun q hq e=>by have:=hr q e.symm;omega
 refine⟨H.box3.kept hg (far _ HB.b3),H.box4.kept hg (far _ HB.bx),H.t.far hg (far _ HB.gu) (far _ HB.bu) (fun hl a ha=>far _ (HB.au hl a ha)),?_,H.bel.grown hg H.bel.size (fun q hq=>Nat.le_trans HB.w2 (hr q hq))⟩;rcases H.zs with h0 | ⟨g',o',e,hlt,hc⟩
 ·exact .inl h0
 exact .inr ⟨g',o',e,Nat.lt_of_lt_of_le hlt hg.size,fun i hi=>World.grownBy.cell hg (hc i hi) (far _ (HB.ac ⟨g',o',none⟩ e))⟩
theorem ofI_from {w2:World}{b3 bx gu bu cu P cc:Nat}{Au Ac:Option Addr}{l:List Nat}{k o:Int}{z:Nat→Int}{B:Nat}(HB:OfB w2 b3 bx gu bu Au Ac l B):OwnFrom B (fun (pre:List (Nat × Value)) W=>OfI w2 b3 bx gu bu cu P cc Au Ac l k o z pre.length W):=fun s W W' row hs hg hr=>hs.keep HB hg fun r e=>(hr r e).1
theorem OfI.put {w2 W W':World}{b3 bx gu bu cu P cc:Nat}{Au Ac:Option Addr}{l:List Nat}{k o:Int}{z:Nat→Int}{j:Nat}(H:OfI w2 b3 bx gu bu cu P cc Au Ac l k o z j W) (hP:1≤P) (hbu:w2.heap.size≤bu) (hg:W.grownBy W' (some bu)) (ht:TpAt W' gu bu Au cu (j+1) l k o (fillF l o z (j+1))):OfI w2 b3 bx gu bu cu P cc Au Ac l k o z (j+1) W':=by
 obtain⟨D,hm,_⟩:=H.t.map;refine⟨H.box3.kept hg (fun e=>map_not hm H.box3 (by injection e)),H.box4.kept hg (fun e=>map_not hm H.box4 (by injection e)),ht,?_,H.bel.grown hg H.bel.size (fun q hq=>by injection hq with hq;omega)⟩;have hn:=zs_not hm H.zs hP;rcases H.zs with h0 | ⟨g',o',e,hlt,hc⟩
 ·exact .inl h0
 exact .inr ⟨g',o',e,Nat.lt_of_lt_of_le hlt hg.size,fun i hi=>World.grownBy.cell hg (hc i hi) (fun e2=>hn ⟨g',o',none⟩ e (by injection e2))⟩
abbrev HoldR8 (bx b3 gz oz gu P cc:Nat) (Ac:Option Addr) (y:Int) (W:World):Prop :=
 W.cell? ⟨bx,0,none⟩=some (.pointer (some ⟨gu,0,none⟩))∧W.cell? ⟨b3,0,none⟩=some (.slice Ac P cc)∧W.cell? ⟨gz,oz,none⟩=some (.int .i64 y)
theorem holdR8 {w2 W W':World}{b3 bx gu bu cu P cc gz oz:Nat}{Au:Option Addr}{l:List Nat}{k o y:Int}{z:Nat→Int}{j jj:Nat}(H:HoldR8 bx b3 gz (oz+jj) gu P cc (some ⟨gz,oz,none⟩) y W) (HI:OfI w2 b3 bx gu bu cu P cc Au (some ⟨gz,oz,none⟩) l k o z j W) (hP:1≤P) (hg:W.grownBy W' (some bu)):HoldR8 bx b3 gz (oz+jj) gu P cc (some ⟨gz,oz,none⟩) y W':=by
 obtain⟨D,hm,_⟩:=HI.t.map;have hn:=zs_not hm HI.zs hP ⟨gz,oz,none⟩ rfl;exact⟨hg.cell H.1 (fun e=>map_not hm HI.box4 (by injection e)),hg.cell H.2.1 (fun e=>map_not hm HI.box3 (by injection e)),hg.cell H.2.2 (fun e=>hn (by injection e))⟩
set_option maxRecDepth 100000 in
set_option maxHeartbeats 4000000 in
theorem tpof_new (g h P:Nat) (l:List Nat) (k:Int) (z:Nat→Int) (w:World) (H:TabAt w g h l k z) (h6:l.length≤6) (h32:∀ n∈l,1≤n∧n≤32) (hP:prodL l=P) (hP1:1≤P) (hP4:P≤4096) (hz:∀ i,i < P→InK (z i) k) :
  Calls Tryz.prog 79 #[.pointer (some ⟨g,0,none⟩)] w fun e w'=>(∃ gu bu Au cu o,e = .returned (.pointer (some ⟨gu,0,none⟩))∧TpAt w' gu bu Au cu P l k o (fillF l o z P)∧IsMost z P o∧w.heap.size≤gu∧w.heap.size≤bu∧∀ a:Addr,Au=some a→w.heap.size≤a.block∧a.block < w'.heap.size)∧Below w.heap.size w w':=by
 have HT:=hid H;have H32:=hid h32;have HP:=hid hP;have HZ:=hid hz;have HMK:Hid (∀ o,IsMost z P o→InK o k):=hid fun o ho=>by
  obtain⟨i,hi,e⟩:=cntZ_pos ho.1;rw [← e];exact hz i hi
 clear H h32 hP hz;refine (callsIn_wide (n:=3)).1 (callsIn_of_wp_marks Tryz.func79 rfl trivial ?_ rfl);simp only [Tryz.ntmps79,List.size_toArray,List.length_cons,List.length_nil,Nat.reduceAdd,Nat.reduceSub,Array.replicate_succ,Array.replicate_zero,List.push_toArray,List.append_toArray,List.nil_append,List.cons_append];refine wpIn_wide.2 ?_;go_upto_region 2 with (go_at_call 28;refine (entries_zs g h P l k z _ HT.out HP.out hP4).mono ?_;rintro e w1 ⟨⟨Ac,cc,rfl,hZ⟩,hb⟩)
 have ZC:=hid (hZ.below (new_val w1 (.cells #[.slice Ac P cc] 34)) (Nat.le_refl _));have X3:Hid (Boxed (w1.alloc (.cells #[.slice Ac P cc] 34)) w1.heap.size 34 (.slice Ac P cc)):=hid (Boxed.new _ _ _);have B2:=hid (then_ hb (new_val w1 (.cells #[.slice Ac P cc] 34)));clear hZ hb;generalize w1.alloc (.cells #[.slice Ac P cc] 34)=w2 at ZC X3 B2 ⊢;generalize w1.heap.size=b3 at X3 ⊢;have T2:=hid (HT.out.below B2.out);have c3:=X3.out.cell;go_cut [4,5] from 10 to 20 (fun v4 v5 wx=>∃ bx gu bu Au cu o,v4 = .pointer (some ⟨bx,0,none⟩)∧v5 = .int .i64 0∧Boxed wx bx 60 (.pointer (some ⟨gu,0,none⟩))∧TpAt wx gu bu Au cu 0 l k o (fun _=>o)∧IsMost z P o∧(w2.heap.size≤gu∧∀ a:Addr,Au=some a→w2.heap.size≤a.block∧a.block < wx.heap.size)∧w2.heap.size≤bu∧w2.heap.size≤bx∧Below w2.heap.size w2 wx)
 case first =>
  have HH:Hid (HoldOg w2 b3 (.slice Ac P cc) w2):=hid ⟨c3,Below.refl _ _⟩;have MOST:=hid (fun W (hb:Below w2.heap.size w2 W)=>tpmost_any Ac P cc z W hP1 (by omega) (ZC.out.below hb (Nat.le_refl _)));have k0:KBg w2 w2 0→True:=fun _=>trivial;clear k0;go_region_held3 (fun W=>HoldOg w2 b3 (.slice Ac P cc) W) (first | exact HoldOg.next HH.out ((Below.refl _ _).drew) | assumption | exact HoldOg.next (by assumption) (by assumption) | exact HoldOg.next (by assumption) (new_val _ _) | exact HoldOg.set (by assumption) (by assumption) _ | exact HoldOg.swap (by assumption) (by assumption) _)
   ((first
    | (go_at_call 47;refine (tshape_any g h l k z _ (T2.out.below (HoldOg.below (by assumption)))).mono ?_;rintro e wA ⟨rfl,hbA⟩;have hsA:=Nat.le_trans (HoldOg.below (by assumption)).size hbA.size;(first | (have k4:KBg w2 wA w2.heap.size:=KBg.new (W:=w2.drew) (by assumption) (Nat.le_refl _) hbA) | skip))
    | (go_at_call 48;refine (sizes_any l _ h6).mono ?_;rintro e wB ⟨⟨v2,rfl,hO2⟩,hbB⟩;obtain⟨A2,c2,rfl,hI2⟩:=hO2.form;have hsB:=Nat.le_trans (HoldOg.below (by assumption)).size hbB.size;have IB:=hid hI2;clear hI2 hO2;(first | (have k4:=KBg.new (by assumption) (by assumption) hbB) | (have k4:=KBg.next (by assumption) hbB) | skip))
    | (go_at_call 141;refine (tk_any g h l k z _ (T2.out.below (HoldOg.below (by assumption)))).mono ?_;rintro e w' ⟨rfl,rfl⟩)
    | (go_at_call 142;refine (MOST.out _ (HoldOg.below (by assumption))).mono ?_;rintro e wC ⟨⟨o,rfl,ho⟩,hbC⟩;have IO:=hid ho;clear ho;have hsC:=Nat.le_trans (HoldOg.below (by assumption)).size hbC.size;(first | (have k4:=KBg.new (by assumption) (by assumption) hbC) | (have k4:=KBg.next (by assumption) hbC) | skip))
    | (go_at_call 116;refine (tpnew_fresh A2 l.length c2 l k o _ rfl h6 (by first | exact IB.out.below hbC (Nat.le_refl _) | exact IB.out.below (then_ hbC (new_val _ _)) (Nat.le_refl _) | exact (IB.out.below (new_val _ _) (Nat.le_refl _)).below hbC (Nat.le_refl _)) H32.out (HMK.out o IO.out)).mono ?_;rintro e wD ⟨⟨gu,bu,Au,cu,rfl,hTD,hgu,hbu,hau⟩,hbD⟩;have TD:=hid hTD;clear hTD;have hgu2:w2.heap.size≤gu:=Nat.le_trans (HoldOg.below (by assumption)).size hgu;have hau2:Hid (∀ a:Addr,Au=some a→w2.heap.size≤a.block∧a.block < wD.heap.size):=hid (fun a e=>⟨Nat.le_trans (HoldOg.below (by assumption)).size (hau a e).1,(hau a e).2⟩);clear hau;have hbu2:w2.heap.size≤bu:=Nat.le_trans (HoldOg.below (by assumption)).size hbu;have hsD:=Nat.le_trans (HoldOg.below (by assumption)).size hbD.size;(first | (have k4:=KBg.new (by assumption) (by assumption) hbD) | (have k4:=KBg.next (by assumption) hbD) | skip);(first | (have c4:=k4.1.cell;have f4:=k4.1.frozen) | skip))))
  all_goals
   go_wp2_with fail
   go_meet;first
    | exact⟨_,gu,bu,Au,cu,o,rfl,rfl,by have h:=heap_setCell_same _ _ 0 _ _ (.pointer (some ⟨gu,0,none⟩)) k4.1;simpa [Boxed] using h,TD.out.boxset k4.1 _,IO.out,⟨hgu2,fun a e=>⟨(hau2.out a e).1,by have h9:=(hau2.out a e).2;simpa using h9⟩⟩,hbu2,k4.2,HoldOg.below (by assumption)⟩
    | exact⟨_,gu,bu,Au,cu,o,rfl,rfl,Boxed.new _ _ _,TD.out.below (new_val _ _),IO.out,⟨hgu2,fun a e=>⟨(hau2.out a e).1,Nat.lt_of_lt_of_le (hau2.out a e).2 (new_val _ _).size⟩⟩,hbu2,by omega,HoldOg.below (by assumption)⟩
 case rest =>
  obtain⟨bx,gu,bu,Au,cu,o,rfl,rfl,hbx,hT,ho,⟨hgu,hau⟩,hbu,hbx2,hB⟩:=hcut;have HAU:=hid hau;clear hau;have BX:=hid hbx;have TU:=hid hT;have IM:=hid ho;have BC:=hid hB;have X3c:=hid (box_below X3.out hB);have ZCc:=hid (ZC.out.below hB (Nat.le_refl _));have TSc:=hid (T2.out.below hB);clear hbx hT ho hB X3 ZC c3 T2;go_upto_region 5 with fail
  go_wp2_with (first
   | (go_at_call 47;refine (tshape_any g h l k z _ TSc.out).mono ?_;rintro e w4 ⟨rfl,b4⟩)
   | (go_at_call 143;refine (all_call l _).mono ?_;rintro e wq ⟨rfl,rfl⟩))
  have nb:=new_val w4 (shO l);have SB:=hid (ShAt.new w4 l);have hz0:w4.heap.size < (w4.alloc (shO l)).heap.size:=by simp
  have I0:Hid (OfI w2 b3 bx gu bu cu P cc Au Ac l k o z 0 (w4.alloc (shO l))):=hid ⟨box_below X3c.out (then_ b4 nb),box_below BX.out (then_ b4 nb),TU.out.below (then_ b4 nb),ZCc.out.below (then_ b4 nb) (Nat.le_refl _),then_ BC.out (then_ b4 nb)⟩;have OB:Hid (OfB w2 b3 bx gu bu Au Ac l w4.heap.size):=hid (by
   have hs:=b4.size;refine⟨by have:=X3c.out.lt;omega,by have:=BX.out.lt;omega,by have:=(Array.getElem?_eq_some_iff.1 TU.out.row).1;omega,by have:=TU.out.lt;omega,fun hl a ha=>?_,fun a ha=>?_,by have:=BC.out.size;omega⟩
   ·rcases TU.out.ints with h0 | ⟨g',o',e,hlt,_⟩
    ·exact absurd h0 hl
    rw [ha] at e;injection e with e;subst e;show g' < w4.heap.size;omega
   ·obtain⟨g',o',e,hc⟩:=ZCc.out.at_ (i:=0) hP1
    rw [ha] at e;injection e with e;subst e;have hlt:g' < wc.heap.size:=World.block_lt_of_cell? _ _ hc;show g' < w4.heap.size;omega)
  have OBx:Hid (OfB w2 b3 bx gu bu Au Ac l (w4.alloc (shO l)).heap.size):=hid (by
   have h:=OB.out;exact⟨by have:=h.b3;omega,by have:=h.bx;omega,by have:=h.gu;omega,by have:=h.bu;omega,fun hl a ha=>by have:=h.au hl a ha;omega,fun a ha=>by have:=h.ac a ha;omega,by have:=h.w2;omega⟩)
  have SZ4:=hid b4.size;clear nb b4 X3c BX TU BC ZCc TSc HT;generalize w4.alloc (shO l)=W0 at SB I0 hz0 OBx ⊢;refine (wpIn_wide (n:=3)).1 (range_good (by omega) (gf:=186) (lb:=#[.pointer (some ⟨w4.heap.size,0,none⟩)]) rfl (enters_of Tryz.func186 (by kernel_rfl) rfl)
   (all_good 2 (by omega) l P w4.heap.size h6 H32.out HP.out hP4 W0 SB.out) (by omega) (fun _=>rfl) (fun B pre x=>goodT_own l B _ pre x)
   (fun pre W=>OfI w2 b3 bx gu bu cu P cc Au Ac l k o z pre.length W) (ofI_from OBx.out) I0.out ?a1 ?assign ?body ?done)
  case assign =>
   intro y x W K hK
   gi_wp2
   exact hK
  case body =>
   rintro y pre ⟨i,v⟩ Wp W hy hloop hIp hI heq ⟨hi,hiP,hO⟩;obtain rfl:i=pre.length:=hi;have hiP:pre.length < prodL l:=hiP;have hO:Own W Wp.heap.size v (tupL l pre.length):=hO;obtain⟨At,ct,hv,hTt⟩:=hO.form;subst hv;obtain⟨j,hj⟩:∃ j,pre.length=j:=⟨_,rfl⟩
   have HN:=hid hj;rw [hj] at hiP hI hTt;have hjP:j < P:=by rw [← HP.out];exact hiP
   have hsz:W0.heap.size≤W.heap.size:=by obtain⟨r,hr⟩:=hloop;have:=(Array.getElem?_eq_some_iff.1 hr).1;omega
   have q0:(0:Int)≤(j:Int):=by omega
   have q1:(j:Int) < (P:Int):=by omega
   have HI:=hid hI;have IT:=hid hTt;have HIN:Hid (InL l (tupL l j)):=hid (tupL_in (fun n hn=>(H32.out n hn).1) j);have HLN:=hid (tupL_length l j);clear hI hIp hO hTt heq hloop hiP;rw [hj];clear hj
   gi_wp2
   obtain⟨gz,oz,eAc,hcz⟩:=HI.out.zs.at_ hjP;refine region_round_held (S:=fun W=>HoldR8 bx b3 gz (oz+j) gu P cc Ac (z j) W) y (by kernel_rfl) (by kernel_rfl) ?hq1 ⟨HI.out.box4.cell,HI.out.box3.cell,hcz⟩ (fun hHeld=>?_)
   case hq1=>rintro⟨a',w',h⟩;exact h
   subst eAc;have HI6:=hid (HI.out.keep OBx.out (grown_of_below ((Below.refl W.heap.size W).drew)) (fun r e=>by cases e));have IT6:=hid (IT.out.below ((Below.refl W.heap.size W).drew) (Nat.le_refl _));have KF:Hid (∀ w9,W.drew.grownBy w9 (some bu)→KeepsFrom W0.heap.size W w9):=hid fun w9 hg=>(KeepsFrom.of_grownBy (grown_of_below ((Below.refl W.heap.size W).drew)) (fun j e=>by cases e)).trans (KeepsFrom.of_grownBy hg (fun j e=>by injection e with e;have:=OBx.out.bu;omega));have K1:Hid (∀ w9,W.drew.grownBy w9 (some bu)→Keep1 w4.heap.size W w9):=hid fun w9 hg=>(Keep1.of_below ((Below.refl W.heap.size W).drew) (by omega)).trans ⟨hg.size,hg.block _ (by show w4.heap.size < W.heap.size;omega) (fun e=>by injection e with e;have:=OB.out.bu;omega)⟩;clear HI IT hcz;generalize W.drew=w6 at hHeld HI6 IT6 KF K1 ⊢;refine wt 0 ?r801;refine wt 1 ?r802;refine wt 2 ?r803;refine wt 3 ?r804;refine wt 4 ?r805;refine wt 5 ?r806;refine wr1 6 (fun K hK=>?_);go_simp;refine (tpput_ok gu bu j cu (tupL l j).length ct Au At l (tupL l j) k o (z j) (fillF l o z j) w6 HI6.out.t rfl h6 (fun n hn=>(H32.out n hn).2) IT6.out HIN.out (HZ.out j hjP) (by omega)).mono ?_;rintro e w9 ⟨rfl,hT9,hg9⟩;have IN:=hid (HI6.out.put hP1 (by omega) hg9 hT9);have G9:=hid hg9;refine hK.out _ _ (holdR8 hHeld HI6.out hP1 hg9) (fun hHeld'=>?_);replace hHeld:=hHeld';clear hHeld';clear hT9 hg9;clear hK K;try simp only [Act.put,pa,pb,pc,pd,pe,pf]
   refine wpAnyH_done (by kernel_rfl) ?_ _
   gi_wp2_with fail
   exact⟨KF.out w9 G9.out,K1.out w9 G9.out,by show OfI w2 b3 bx gu bu cu P cc Au (some ⟨gz,oz,none⟩) l k o z (pre++[_]).length w9;rw [List.length_append,HN.out];exact IN.out⟩
  case done =>
   rintro D xs W hD hS hI hK;have hS:xs.length=P:=hS;rw [hS] at hI;have HDI:=hid hI;have HKD:=hid hK;have cb:=hI.box4.cell;have hzD:W0.heap.size≤D:=hD;clear hI hK hS;go_wp2_with fail
   refine⟨by simp,.inl ⟨_,_,rfl,run_takeDeferred HKD.out,?_⟩⟩;refine⟨_,results_tmp rfl _ _ _,⟨gu,bu,Au,cu,o,rfl,?_,IM.out,Nat.le_trans B2.out.size hgu,Nat.le_trans B2.out.size hbu,fun a e=>⟨Nat.le_trans B2.out.size (HAU.out a e).1,?_⟩⟩,?_⟩
   ·have hg:=grownBy_putObj' W D (.deferred none)
    exact (HDI.out.keep OBx.out hg (fun r e=>by injection e with e;omega)).t
   ·have h9:=(HAU.out a e).2
    have h8:=SZ4.out;have h7:=(Array.getElem?_eq_some_iff.1 HKD.out).1;have h6:=(grownBy_putObj' W D (.deferred none)).size;show a.block < _;omega
   exact (B2.out.trans (HDI.out.bel.mono B2.out.size)).trans (belowK_b (w:=w) (Nat.le_refl _) W D _ _ (by have:=OBx.out.w2;have:=B2.out.size;omega) HKD.out rfl rfl)
open Go.RowKit Go.Shelf
def GoodX (l:List Nat) (base:Nat) (pre:List (Nat × Value)) (x:Nat × Value) (W:World):Prop:=x.1=pre.length∧x.1 < prodL l∧Own W base x.2 (tupL l x.1)∧∃ b,x.2 = .slice (some ⟨b,0,none⟩) l.length l.length
theorem goodX_own (l:List Nat) (base B:Nat) (pre:List (Nat × Value)) (x:Nat × Value):OwnFrom B (fun (_:Unit) W=>GoodX l base pre x W):=by
 intro s X Y row hs hg hr;refine⟨hs.1,hs.2.1,World.ownsRow.kept hs.2.2.1 hg ?_,hs.2.2.2⟩;obtain⟨h1,⟨h2,hn⟩ | ⟨g,cap,cur,h2,hb,hh,_⟩⟩:=hs.2.2.1
 ·rw [h2]
  exact .inl rfl
 refine .inr fun e=>?_;rw [h2] at e;obtain⟨_,o,ho,hc⟩:=hr g e.symm;rw [hh] at ho;cases ho;cases hc
set_option maxRecDepth 100000 in
set_option maxHeartbeats 2000000 in
theorem all_goodx (n:Nat) (hn:1≤n) (l:List Nat) (P Bs:Nat) (h6:l.length≤6) (h32:∀ n∈l,1≤n∧n≤32) (hP:prodL l=P) (hP2:P≤4096) (w0:World) (hB:ShAt w0 Bs l) :
  GoodSeq n Tryz.prog 186 #[.pointer (some ⟨Bs,0,none⟩)] encT Bs (fun B=>GoodX l B) (fun xs=>xs.length=P) w0:=by
 intro y J W hW hJ hY h0;have K:=hid (fun W=>count_below l W h6 (fun n hn=>(h32 n hn).2) P hP);have T:=hid (fun W i (hi:i < P)=>tuple_okx l i W h6 h32 (by rw [hP];exact hi));have HP:=hid hP;have HY:=hid hY;have HJ:=hid hJ;have H0:=hid h0;have HS:=hid (hB.below hW hB.lt);clear hY hJ h0 hP hB hW h32;refine callsIn_of_wp Tryz.func186 rfl trivial ?_ rfl;simp only [Tryz.ntmps186,List.size_toArray,List.length_cons,List.length_nil,Nat.reduceAdd,Nat.reduceSub,Array.replicate_succ,Array.replicate_zero,List.push_toArray,List.append_toArray,List.nil_append,List.cons_append];obtain⟨c0,c1,c2,c3,c4,c5,c6,hlt,hfz⟩:=HS.out
 gi_wp2_with (refine⟨trivial,?_⟩;gi_at_call 147;refine (callsIn_wide.2 (K.out _)).mono ?_;rintro e W1 ⟨rfl,hb⟩)
 have J1:=hid (HJ.out _ _ _ _ H0.out (grown_of_below hb) (fun r e=>by cases e));have B1:=hid (Keep1.of_below hb HS.out.lt);have hz1:=hb.size;clear hb c0 c1 c2 c3 c4 c5 c6 hlt hfz
 gi_loopw [3,4,5,8] (fun _ _ _ i wr=>∃ pre:List (Nat × Value),pre.length≤P∧i = .int .i64 (pre.length:Int)∧J pre wr∧Keep1 Bs W wr) (fun _ _ _ i _=>P - (intOf i).toNat)
 case atStart=>exact⟨[],Nat.zero_le _,rfl,J1.out,B1.out⟩
 case round =>
  obtain⟨pre,hp,rfl,hJr,hBr⟩:=hrel;have JR:=hid hJr;have BR:=hid hBr;have hzr:=hBr.1;clear hJr hBr;obtain⟨k,hk⟩:∃ k,pre.length=k:=⟨_,rfl⟩
  have HK:=hid hk;rw [hk] at hp ⊢;clear hk;by_cases hlt:k < P
  rotate_left
  ·gi_wp2
   go_end0
   exact⟨⟨_,rfl⟩,pre,by have:=HK.out;omega,JR.out⟩
  obtain⟨c0,c1,c2,c3,c4,c5,c6,hlt',hfz⟩:=HS.out.keep BR.out
  gi_wp2_with fail
  refine⟨trivial,?_⟩;refine (callsIn_wide.2 (T.out _ k hlt)).mono ?_;rintro e W2 ⟨⟨b,rfl,hO⟩,hb2⟩;have J2:=hid hb2;have G2:Hid (GoodX l wr.heap.size pre (k,.slice (some ⟨b,0,none⟩) l.length l.length) W2):=hid ⟨HK.out.symm,by rw [HP.out];exact hlt,hO,b,rfl⟩;have B2:=hid (BR.out.trans (Keep1.of_below hb2 (HS.out.keep BR.out).lt));have hz2:=hb2.size;obtain⟨fn,tmps,assign,body,hy,hR⟩:=HY.out pre (k,.slice (some ⟨b,0,none⟩) l.length l.length) wr W2 JR.out J2.out G2.out;simp only [encT] at hy;clear hO hb2 c0 c1 c2 c3 c4 c5 c6 hlt' hfz
  gi_wp2
  refine hR.mono ?_;rintro e W3 ⟨rfl,hJ3,hk3⟩;have J3:=hid hJ3;have B3:=hid (B2.out.trans hk3);clear hJ3 hk3 hy hR
  gi_wp2
  go_roundw
  case rel=>exact⟨pre++[(k,.slice (some ⟨b,0,none⟩) l.length l.length)],by rw [List.length_append,HK.out];show k+1≤P;omega,by rw [List.length_append,HK.out];go_num,J3.out,B3.out⟩
  case measure=>simp [intOf];omega
end Go.Proofs.YtmokogkndbinlaaGreatDoor
