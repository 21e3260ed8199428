import Derived.Test.YtmokogkndbinlaaGreatDoorZhbg
set_option linter.all false
namespace Go.Proofs.YtmokogkndbinlaaGreatDoor
open Go.Lib (hid)
open Go.RowKit Go.Shelf
def mxZ (z:Nat→Int):Nat→Int
 | 0=>z 0
 | j+1=>max (mxZ z j) (z (j+1))
theorem mxZ_le (z:Nat→Int):∀ {j i:Nat},i≤j→z i≤mxZ z j
 | 0,i,h=>by
  obtain rfl:i=0:=by omega
  exact Int.le_refl _
 | j+1,i,h=>by
  show z i≤max (mxZ z j) (z (j+1));by_cases e:i=j+1
  ·subst e;omega
  have:=mxZ_le z (j:=j) (i:=i) (by omega);omega
theorem mxZ_is (z:Nat→Int):∀ j:Nat,∃ i,i≤j∧z i=mxZ z j
 | 0=>⟨0,Nat.le_refl _,rfl⟩
 | j+1=>by
  obtain⟨i,hi,e⟩:=mxZ_is z j;by_cases h:mxZ z j≤z (j+1)
  ·exact⟨j+1,Nat.le_refl _,by show _=max (mxZ z j) (z (j+1));omega⟩
  exact⟨i,by omega,by show _=max (mxZ z j) (z (j+1));omega⟩
theorem max64_any (A:Option Addr) (m n c:Nat) (z:Nat→Int) (w:World) (hl:n≤1000000) (hn:n=m+1) (hw:Zs w A n z) :
  Calls Tryz.prog 78 #[.slice A n c] w fun e w'=>e = .returned (.int .i64 (mxZ z m))∧w=w':=by
 obtain⟨g,o,rfl,hc0⟩:=hw.at_ (i:=0) (by omega);rw [Nat.add_zero] at hc0;have HW:=hid hw;have i0:¬ ((n:Int) < 1):=by omega
 have i1:(0:Int) < (n:Int):=by omega
 have HN:=hid hn;clear hw hn;go_enter Tryz.func78,Tryz.ntmps78
 go_wp2_with fail
 go_loop [3,4] (fun v i=>∃ j:Nat,j < n∧i = .int .i64 ((j:Int)+1)∧v = .int .i64 (mxZ z j)) (fun _ i=>n - (intOf i).toNat)
 case atStart=>exact⟨0,by omega,rfl,rfl⟩
 case round =>
  obtain⟨j,hj,rfl,rfl⟩:=hrel;by_cases hlt:j+1 < n
  rotate_left
  ·have i2:¬ ((j:Int)+1 < (n:Int)):=by omega
   go_wp2_with fail
   go_ret;obtain rfl:j=m:=by have:=HN.out;omega
   exact⟨rfl,rfl⟩
  obtain⟨g',o',e',hcell⟩:=HW.out.at_ hlt;obtain⟨rfl,rfl⟩:g=g'∧o=o':=by injection e' with e';injection e' with a b;exact⟨a,b⟩
  have i2:(j:Int)+1 < (n:Int):=by omega
  have i3:(0:Int)≤(j:Int)+1:=by omega
  have e1:((j:Int)+1).toNat=j+1:=by omega
  have HM:Hid (mxZ z (j+1)=max (mxZ z j) (z (j+1))):=hid rfl;generalize mxZ z j=a at HM ⊢;generalize z (j+1)=b at hcell HM;clear e';rcases Int.lt_trichotomy a b with h | h | h
  ·go_wp2_with fail
   go_round
   case rel=>exact⟨j+1,by omega,by go_num,by rw [HM.out] <;> (congr 1 <;> omega)⟩
   case measure=>simp [intOf];omega
  ·subst h
   go_wp2_with fail
   go_round
   case rel=>exact⟨j+1,by omega,by go_num,by rw [HM.out] <;> (congr 1 <;> omega)⟩
   case measure=>simp [intOf];omega
  have h':¬ (a < b):=by omega
  go_wp2_with fail
  go_round
  case rel=>exact⟨j+1,by omega,by go_num,by rw [HM.out] <;> (congr 1 <;> omega)⟩
  case measure=>simp [intOf];omega
def KeepC (W W':World):Prop:=∀ (q:Nat) (c:Array Value) (e:TypeId),W.heap[q]? = some (.cells c e (0,0))→e≠54→e≠62→W'.heap[q]? = W.heap[q]?
theorem KeepC.refl (W:World):KeepC W W:=fun _ _ _ _ _ _=>rfl
theorem KeepC.trans {W W' W2:World}(h:KeepC W W') (k:KeepC W' W2):KeepC W W2:=fun q c e hq h1 h2=>(k q c e ((h q c e hq h1 h2).trans hq) h1 h2).trans (h q c e hq h1 h2)
theorem KeepC.below {W W':World}(h:Below W.heap.size W W'):KeepC W W':=fun q _ _ hq _ _=>h.block q (Array.getElem?_eq_some_iff.1 hq).1
theorem PartA.keepC {W W':World}{base:Nat}{k:Int}{sizes:List Nat}{x:Value × Value}{p:PartM}(h:PartA W base k sizes x p) (hk:KeepC W W'):PartA W' base k sizes x p:=by
 obtain⟨ho,g,hh,e,ht,h1,h2⟩:=h;refine⟨own_keep ho fun q cur _ hq=>hk q cur _ hq (by decide) (by decide),g,hh,e,tab_keep ht (hk g _ _ ht.row (by decide) (by decide)) ?_,h1,h2⟩;obtain⟨cur,hc,_⟩:=ht.costs;exact hk hh _ _ hc (by decide) (by decide)
theorem OwnPt.keepC {W W':World}{base:Nat}{v:Value}{us:List (Value × Value)} (h:W.ownsRow base 129 2 v us.length (fuC us)) (hk:KeepC W W'):W'.ownsRow base 129 2 v us.length (fuC us) :=
 own_keep h fun q cur _ hq=>hk q cur _ hq (by decide) (by decide)
def PG (W:World) (base cb:Nat) (fv:Value) (q:Nat):Prop:=base≤q∧q < W.heap.size∧q≠cb∧fv.ownBlock≠some q
structure CanAt (W:World) (cb base:Nat) (X:ByteArray) (k:Int) (sizes:List Nat) (cfs:List FunM) (A:Option Addr) (c:Nat) (fv:Value) (us:List (Value × Value)):Prop where
 row:W.heap[cb]? = some (.cells #[.string X,.int .i64 k,.slice A sizes.length c,fv] 54 (0,0))
 szs:Own W base (.slice A sizes.length c) sizes
 own:OwnFu W base fv us
 funs:FusIs W k sizes (PG W base cb fv) us cfs
 ge:base≤cb
theorem CanAt.below {W W':World}{cb base:Nat}{X:ByteArray}{k:Int}{sizes:List Nat}{cfs:List FunM}{A:Option Addr}{c:Nat}{fv:Value}{us:List (Value × Value)} (h:CanAt W cb base X k sizes cfs A c fv us) (hb:Below W.heap.size W W'):CanAt W' cb base X k sizes cfs A c fv us :=
 ⟨(hb.block cb (Array.getElem?_eq_some_iff.1 h.row).1).trans h.row,h.szs.below hb (Nat.le_refl _),row_below h.own hb,h.funs.keep hb.size (fun j hj=>hb.block j hj.2.1) (fun j hj=>⟨hj.1,Nat.lt_of_lt_of_le hj.2.1 hb.size,hj.2.2⟩),h.ge⟩
theorem CanAt.next {wr wd w9 w10:World}{cb base c:Nat}{X:ByteArray}{k:Int}{sizes:List Nat}{cfs:List FunM}{f:FunM}{A:Option Addr}{fv v10 sv tv:Value}{us:List (Value × Value)}
  (h:CanAt wr cb base X k sizes cfs A c fv us) (hd:Below wr.heap.size wr wd) (he:FunE wd k sizes f (PG wd base cb fv) sv tv) (h9:Below wd.heap.size wd w9)
  (OX:OwnFu w10 base v10 (us++[(sv,tv)])) (GX:w9.grownBy w10 fv.ownBlock) (AT:v10.ownBlock=fv.ownBlock∨v10.ownBlock=some w9.heap.size) :
  CanAt (w10.setCell ⟨cb,3,none⟩ v10) cb base X k sizes (cfs++[f]) A c v10 (us++[(sv,tv)])∧KeepC wr (w10.setCell ⟨cb,3,none⟩ v10)∧∀ B,B≤base→base≤wr.heap.size→Below B wr (w10.setCell ⟨cb,3,none⟩ v10):=by
 have g:=grown_put w10 cb 3 v10;have z2:=hd.size;have z3:=h9.size;have z4:=GX.size;have z5:=g.size;have hcb:cb < wr.heap.size:=(Array.getElem?_eq_some_iff.1 h.row).1;have hob:∀ q,fv.ownBlock=some q→base≤q∧q < wr.heap.size∧∃ cur,wr.heap[q]? = some (.cells cur 62 (0,0)):=fun q e=>h.own.obj q e;have keep:∀ q,q < wd.heap.size→q≠cb→fv.ownBlock≠some q→(w10.setCell ⟨cb,3,none⟩ v10).heap[q]? = wd.heap[q]?:=fun q h1 h2 h3 =>
  (g.block q (by omega) (fun e=>h2 (Option.some.inj e))).trans ((GX.block q (by omega) (fun e=>h3 e.symm)).trans (h9.block q h1))
 have far:∀ q,q < wd.heap.size→fv.ownBlock≠some q→v10.ownBlock≠some q:=fun q h1 h2 e=>by
  rcases AT with a | a
  ·exact h2 (a.symm.trans e)
  rw [a] at e;injection e with e;omega
 have R10:w10.heap[cb]? = some (.cells #[.string X,.int .i64 k,.slice A sizes.length c,fv] 54 (0,0)):=by
  have h1:w9.heap[cb]? = wr.heap[cb]?:=(h9.block cb (by omega)).trans (hd.block cb hcb);refine ((GX.block cb (by omega) (fun e=>?_)).trans h1).trans h.row;obtain⟨_,_,cur,hc⟩:=hob cb e.symm;rw [h.row] at hc;injection hc with hc;injection hc with _ h4;exact absurd h4 (by decide)
 have KC:KeepC wr (w10.setCell ⟨cb,3,none⟩ v10):=fun q c' e hq h1 h2=>by
  have hlt:=(Array.getElem?_eq_some_iff.1 hq).1;refine (keep q (by omega) (fun e'=>?_) (fun e'=>?_)).trans (hd.block q hlt)
  ·subst e'
   rw [h.row] at hq;injection hq with hq;injection hq with _ h4;exact h1 h4.symm
  obtain⟨_,_,cur,hc⟩:=hob q e';rw [hq] at hc;injection hc with hc;injection hc with _ h4;exact h2 h4
 refine⟨⟨heap_setCell_same w10 cb 3 _ _ v10 R10,own_keep h.szs (fun q cur _ hq=>KC q cur _ hq (by decide) (by decide)),?_,?_,h.ge⟩,KC,fun B hB hbs=>?_⟩
 ·refine OX.keepB fun q e h1 h2=>g.block q h1 (fun e'=>?_)
  injection e' with e';subst e';obtain⟨_,_,cur,hc⟩:=OX.obj _ e;rw [R10] at hc;injection hc with hc;injection hc with _ h4;exact absurd h4 (by decide)
 ·refine FusIs.snoc (h.funs.keep (by omega) (fun q hq=>?_) (fun q hq=>?_)) (he.keep (by omega) (fun q hq=>?_) (fun q hq=>?_))
  ·exact (keep q (by have:=hq.2.1;omega) hq.2.2.1 hq.2.2.2).trans (hd.block q hq.2.1)
  ·exact⟨hq.1,by have:=hq.2.1;omega,hq.2.2.1,far q (by have:=hq.2.1;omega) hq.2.2.2⟩
  ·exact keep q hq.2.1 hq.2.2.1 hq.2.2.2
  exact⟨hq.1,by have:=hq.2.1;omega,hq.2.2.1,far q hq.2.1 hq.2.2.2⟩
 have b1:Below B wr w9:=(hd.mono (by omega)).trans (h9.mono (by omega));have b2:Below B wr w10:=b1.grown GX (by have:=b1.size;omega) (fun q e=>by have:=(hob q e).1;omega);exact b2.setCell (p:=⟨cb,3,none⟩) (by have:=h.ge;show B≤cb;omega) v10
theorem CanAt.cells {W:World}{cb base:Nat}{X:ByteArray}{k:Int}{sizes:List Nat}{cfs:List FunM}{A:Option Addr}{c:Nat}{fv:Value}{us:List (Value × Value)} (h:CanAt W cb base X k sizes cfs A c fv us) :
  W.cell? ⟨cb,0,none⟩=some (.string X)∧W.cell? ⟨cb,1,none⟩=some (.int .i64 k)∧W.cell? ⟨cb,2,none⟩=some (.slice A sizes.length c)∧W.cell? ⟨cb,3,none⟩=some fv∧∀ i,W.frozen? ⟨cb,i,none⟩=false:=by
 refine⟨?_,?_,?_,?_,fun i=>by simp [World.frozen?,h.row]⟩ <;> (rw [cell_of_row _ _ _ _ _ _ h.row];rfl)
theorem CanAt.far {W W':World}{cb base:Nat}{X:ByteArray}{k:Int}{sizes:List Nat}{cfs:List FunM}{A:Option Addr}{c:Nat}{fv:Value}{us:List (Value × Value)} (h:CanAt W cb base X k sizes cfs A c fv us) (hg:W.grownBy W' fv.ownBlock):W'.heap[cb]? = W.heap[cb]?:=by
 refine hg.block cb (Array.getElem?_eq_some_iff.1 h.row).1 fun e=>?_;obtain⟨_,_,cur,hc⟩:=h.own.obj cb e.symm;rw [h.row] at hc;injection hc with hc;injection hc with _ h4;exact absurd h4 (by decide)
theorem TpAt.tight {w:World}{g b:Nat}{A:Option Addr}{c N:Nat}{l:List Nat}{k o:Int}{f:List Nat→Int}(H:TpAt w g b A c N l k o f) (h6:l.length≤6) (h32:∀ n∈l,1≤n∧n≤32):TpAt w g b A c (linesT l o f).length l k o f:=by
 obtain⟨D,hm,hr⟩:=H.map;have hs:=size_lines hm hr h6 h32;obtain⟨es,clock,h1,h2,h3,rfl⟩:=hm;refine⟨H.row,H.ints,H.cap,_,⟨es,clock,h1,h2,?_,rfl⟩,hr⟩;rw [← hs];simp [Maps.size,DataW.length_sorted]
theorem RepF.congr {D:DataW Unit}{l:List Nat}{o:Int}{f f':List Nat→Int}(h:RepF D l o f) (he:∀ t,InL l t→f t=f' t):RepF D l o f' :=
 ⟨fun t ht=>by rw [← he t ht];exact h.1 t ht,h.2⟩
theorem TpAt.congr {w:World}{g b:Nat}{A:Option Addr}{c N:Nat}{l:List Nat}{k o:Int}{f f':List Nat→Int}(H:TpAt w g b A c N l k o f) (he:∀ t,InL l t→f t=f' t):TpAt w g b A c N l k o f':=by
 obtain⟨D,hm,hr⟩:=H.map;exact⟨H.row,H.ints,H.cap,D,hm,hr.congr he⟩
theorem TpAt.canon {w:World}{g b:Nat}{A:Option Addr}{c N:Nat}{sizes S:List Nat}{k o:Int}{z:Nat→Int}(H:TpAt w g b A c N (pickN sizes S) k o (fillF (pickN sizes S) o z (prodL (pickN sizes S)))) (h6:(pickN sizes S).length≤6) (h32:∀ n∈pickN sizes S,1≤n∧n≤32)
  (hz:∀ i,i < prodL (pickN sizes S)→InK (z i) k) (ho:InK o k):TpAt w g b A c (canF sizes S z o).lines.length (pickN sizes S) k (min (canF sizes S z o).other k) (funF k (canF sizes S z o)):=by
 have e:min (canF sizes S z o).other k=o:=Int.min_eq_left ho.2.2.2;have e2:(canF sizes S z o).lines.length=(linesT (pickN sizes S) o (fillF (pickN sizes S) o z (prodL (pickN sizes S)))).length:=by
  rw [← canF_fst,List.length_map]
 rw [e,e2];exact (H.tight h6 h32).congr fun t ht=>(canF_fun (fun n hn=>(h32 n hn).1) hz ho ht).symm
def KpP (sizes:List Nat) (p:PartM):Prop:=∃ i,i < prodL (pickN sizes p.scope)∧0 < p.z i
inductive CanL (sizes:List Nat):List PartM→List FunM→Prop where
 | nil:CanL sizes [] []
 | skip {ls:List PartM}{cfs:List FunM}{p:PartM}(h:CanL sizes ls cfs) (hp:¬ KpP sizes p):CanL sizes (ls++[p]) cfs
 | keep {ls:List PartM}{cfs:List FunM}{p:PartM}{o:Int}(h:CanL sizes ls cfs) (hp:KpP sizes p) (ho:IsMost p.z (prodL (pickN sizes p.scope)) o):CanL sizes (ls++[p]) (cfs++[canF sizes p.scope p.z o])
theorem CanI.right {N:List Nat→Nat}{k:Int}{ps L M:List PartM}(h:CanI N k ps L) (hf:All2 (fun p q=>p.scope=q.scope∧∀ i,i < N p.scope→p.z i=q.z i) L M):CanI N k ps M:=by
 have hs:∀ {L M:List PartM},All2 (fun p q=>p.scope=q.scope∧∀ i,i < N p.scope→p.z i=q.z i) L M→L.map (·.scope)=M.map (·.scope):=by
  intro L M h;induction h with
  | nil=>rfl
  | cons h _ ih=>rw [List.map_cons,List.map_cons,ih,h.1]
 refine⟨by rw [← hs hf];exact h.ris,fun S=>by rw [← hs hf];exact h.mem S,fun e he i hi=>?_⟩;obtain⟨p,hp,hr⟩:=forall2_right hf e he;rw [← hr.2 i (by rw [hr.1];exact hi),h.sum p hp i (by rw [hr.1];exact hi),hr.1]
theorem forall2_snoc {R:PartM→PartM→Prop}{ps qs:List PartM}{p q:PartM}(h:All2 R ps qs) (hr:R p q):All2 R (ps++[p]) (qs++[q]):=by
 induction h with
 | nil=>exact All2.cons hr All2.nil
 | cons h _ ih=>exact All2.cons h ih
open Classical in
theorem CanL.canon {k:Int}{sizes:List Nat}{ps ls:List PartM}{cfs:List FunM}(h:CanL sizes ls cfs) (hg:GrpI (fun S=>prodL (pickN sizes S)) k ps ls) (hz:∀ p∈ls,∀ i,i < prodL (pickN sizes p.scope)→InK (p.z i) k) (hl:∀ p∈ls,∀ n∈pickN sizes p.scope,1≤n):CanF k sizes ps cfs:=by
 have key:∀ {ls:List PartM}{cfs:List FunM},CanL sizes ls cfs→(∀ p∈ls,∀ i,i < prodL (pickN sizes p.scope)→InK (p.z i) k)→(∀ p∈ls,∀ n∈pickN sizes p.scope,1≤n) →
   All2 (fun p q=>p.scope=q.scope∧∀ i,i < prodL (pickN sizes p.scope)→p.z i=q.z i) (ls.filter fun p=>decide (KpP sizes p)) (cfs.map (asP k sizes))∧∀ c∈cfs,∃ z o,c=canF sizes c.scope z o∧(∀ i,i < prodL (pickN sizes c.scope)→InK (z i) k)∧IsMost z (prodL (pickN sizes c.scope)) o∧∀ n∈pickN sizes c.scope,1≤n:=by
  intro ls cfs h;induction h with
  | nil=>exact fun _ _=>⟨All2.nil,fun c hc=>by cases hc⟩
  | @skip ls cfs p h hp ih =>
   intro hz hl;obtain⟨i1,i2⟩:=ih (fun q hq=>hz q (by simp [hq])) (fun q hq=>hl q (by simp [hq]));refine⟨?_,i2⟩;rw [List.filter_append,List.filter_cons_of_neg (by simpa using hp),List.filter_nil,List.append_nil];exact i1
  | @keep ls cfs p o h hp ho ih =>
   intro hz hl;obtain⟨i1,i2⟩:=ih (fun q hq=>hz q (by simp [hq])) (fun q hq=>hl q (by simp [hq]));have hzp:=hz p (by simp);have hlp:=hl p (by simp);refine⟨?_,fun c hc=>?_⟩
   ·rw [List.filter_append,List.filter_cons_of_pos (by simpa using hp),List.filter_nil,List.map_append]
    exact forall2_snoc i1 ⟨rfl,fun i hi=>(canF_z hlp hzp (most_in hzp ho) hi).symm⟩
   rcases List.mem_append.1 hc with hc | hc
   ·exact i2 c hc
   simp only [List.mem_singleton] at hc;subst hc;exact⟨p.z,o,rfl,hzp,ho,hlp⟩
 obtain⟨i1,i2⟩:=key h hz hl;exact⟨(hg.canon (fun p=>decide (KpP sizes p)) fun e _=>by rw [decide_eq_true_iff];exact Iff.rfl).right i1,i2⟩
theorem CanAt.r {W:World}{cb base:Nat}{X:ByteArray}{k:Int}{sizes:List Nat}{cfs:List FunM}{A:Option Addr}{c:Nat}{fv:Value}{us:List (Value × Value)} (h:CanAt W cb base X k sizes cfs A c fv us):∃ Af cf,FileR W cb X k sizes cfs A Af c cf:=by
 have hI:Ints W A sizes:=by
  obtain⟨A',c',e,hI⟩:=h.szs.form;injection e with e1 _ _;subst e1;exact hI
 exact FileAt.r (base:=base) (us:=us) (fv:=fv) ⟨h.row,hI,h.own,⟨h.funs.1,fun i f hf=>by
  obtain⟨sv,tv,h1,h2⟩:=h.funs.2 i f hf;exact⟨sv,tv,h1,h2.keep (Nat.le_refl _) (fun _ _=>rfl) (fun j hj=>hj.2)⟩⟩⟩
end Go.Proofs.YtmokogkndbinlaaGreatDoor
