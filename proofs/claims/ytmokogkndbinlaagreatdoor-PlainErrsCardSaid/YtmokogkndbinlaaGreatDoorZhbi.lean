import Derived.Test.YtmokogkndbinlaaGreatDoorZhbh
set_option linter.all false
namespace Go.Proofs.YtmokogkndbinlaaGreatDoor
open Go.Lib (hid)
attribute [local go_sem] Oper.semAt_some
open Go.RowKit Go.Shelf
def CanPost (w:World) (X:ByteArray) (k:Int) (sizes:List Nat) (fs:List FunM) (e:Ending) (w':World):Prop :=
 (∃ cb A c fv us cfs,e = .returned (.tuple #[.pointer (some ⟨cb,0,none⟩),.int .i64 0])∧CanAt w' cb w.heap.size X k sizes cfs A c fv us∧CanF k sizes (partsM k sizes fs) cfs)∧Below w.heap.size w w'
abbrev HoldC4 (fb:Nat) (X:ByteArray) (k:Int) (As:Option Addr) (n cs:Nat) (W:World):Prop :=
 W.cell? ⟨fb,0,none⟩=some (.string X)∧W.cell? ⟨fb,1,none⟩=some (.int .i64 k)∧W.cell? ⟨fb,2,none⟩=some (.slice As n cs)
theorem holdC4 {fb:Nat}{X:ByteArray}{k:Int}{As:Option Addr}{n cs:Nat}{W W':World}(h:HoldC4 fb X k As n cs W) (hb:Below W.heap.size W W'):HoldC4 fb X k As n cs W' :=
 ⟨(hb.cell (p:=⟨fb,0,none⟩) (World.block_lt_of_cell? W _ h.1)).trans h.1,(hb.cell (p:=⟨fb,1,none⟩) (World.block_lt_of_cell? W _ h.2.1)).trans h.2.1,(hb.cell (p:=⟨fb,2,none⟩) (World.block_lt_of_cell? W _ h.2.2)).trans h.2.2⟩
abbrev HoldC9 (tb:Nat) (sv tv:Value) (W:World):Prop:=W.cell? ⟨tb,0,none⟩=some sv∧W.cell? ⟨tb,1,none⟩=some tv
theorem holdC9 {tb:Nat}{sv tv:Value}{W W':World}(h:HoldC9 tb sv tv W) (hb:Below W.heap.size W W'):HoldC9 tb sv tv W' :=
 ⟨(hb.cell (p:=⟨tb,0,none⟩) (World.block_lt_of_cell? W _ h.1)).trans h.1,(hb.cell (p:=⟨tb,1,none⟩) (World.block_lt_of_cell? W _ h.2)).trans h.2⟩
theorem part_facts {X:ByteArray}{k:Int}{sizes:List Nat}{fs:List FunM}(hr:RightF X k sizes fs) {ls:List PartM}(hg:GrpI (fun S=>prodL (pickN sizes S)) k (partsM k sizes fs) ls) {p:PartM}(hp:p∈ls) :
  p.scope.length≤6∧(∀ n∈pickN sizes p.scope,1≤n∧n≤32)∧1≤prodL (pickN sizes p.scope)∧prodL (pickN sizes p.scope)≤4096∧∀ i,i < prodL (pickN sizes p.scope)→InK (p.z i) k:=by
 obtain⟨q,hq,e⟩:=hg.frm p hp;obtain⟨f,hf,rfl⟩:=List.mem_map.1 hq;have e:risL f.scope=p.scope:=e;have hff:=hr.funs f hf;have hsz:∀ n∈pickN sizes f.scope,1≤n∧n≤32:=pick_ok hr.szs hff.1.below;have hpm:(pickN sizes p.scope).Perm (pickN sizes f.scope):=by rw [← e];exact (risL_perm f.scope).map _
 have h4:=cnt_prod (fun x hx=>(hsz x hx).1) (Nat.le_refl 1) hff.2.2;rw [Nat.one_mul,← prodL_perm hpm] at h4;have hs2:∀ n∈pickN sizes p.scope,1≤n∧n≤32:=fun n hn=>hsz n (hpm.mem_iff.1 hn);refine⟨by rw [← e,risL_len];exact hff.2.1,hs2,prodL_pos fun n hn=>(hs2 n hn).1,h4,fun i hi=>?_⟩;rw [hg.sum p hp i hi];have ht:=hr.top;have h0:0≤grpS (partsM k sizes fs) p.scope i:=grpS_nonneg fun q hq _=>by
  obtain⟨f2,hf2,rfl⟩:=List.mem_map.1 hq;exact (funF_in ht.1 (hr.funs f2 hf2).1 _).1
 exact⟨ht.1,ht.2,by unfold grpM;omega,by unfold grpM;omega⟩
structure PartF (k:Int) (sizes:List Nat) (p:PartM):Prop where
 l6:(pickN sizes p.scope).length≤6
 l32:∀ n∈pickN sizes p.scope,1≤n∧n≤32
 p1:1≤prodL (pickN sizes p.scope)
 p4:prodL (pickN sizes p.scope)≤4096
 zk:∀ i,i < prodL (pickN sizes p.scope)→InK (p.z i) k
theorem partF_of {X:ByteArray}{k:Int}{sizes:List Nat}{fs:List FunM}(hr:RightF X k sizes fs) {ls:List PartM}(hg:GrpI (fun S=>prodL (pickN sizes S)) k (partsM k sizes fs) ls) {p:PartM}(hp:p∈ls):PartF k sizes p:=by
 obtain⟨h1,h2,h3,h4,h5⟩:=part_facts hr hg hp;exact⟨by rw [pickN_len];exact h1,h2,h3,h4,h5⟩
theorem max_kp {sizes:List Nat}{p:PartM}{P:Nat}(hP:prodL (pickN sizes p.scope)=P) (h1:1≤P):0 < mxZ p.z (P - 1)↔KpP sizes p:=by
 constructor
 ·intro h
  obtain⟨i,hi,e⟩:=mxZ_is p.z (P - 1);exact⟨i,by rw [hP];omega,by rw [e];exact h⟩
 rintro⟨i,hi,hz⟩;rw [hP] at hi;have:=mxZ_le p.z (j:=P - 1) (i:=i) (by omega);omega
theorem can_funE {w6 wO:World}{cb base c B1 gu bu cu N cp:Nat}{X:ByteArray}{k o:Int}{sizes:List Nat}{cfs:List FunM}{A Ap Au:Option Addr}{fv:Value}{us:List (Value × Value)} {p:PartM}
  (CA:CanAt w6 cb base X k sizes cfs A c fv us) (hb:Below w6.heap.size w6 wO) (ho:Own w6 B1 (.slice Ap p.scope.length cp) p.scope) (hB:base≤B1) (hF:PartF k sizes p)
  (T:TpAt wO gu bu Au cu N (pickN sizes p.scope) k o (fillF (pickN sizes p.scope) o p.z (prodL (pickN sizes p.scope)))) (hm:IsMost p.z (prodL (pickN sizes p.scope)) o) (hs:base≤w6.heap.size)
  (f:w6.heap.size≤gu∧w6.heap.size≤bu∧∀ a:Addr,Au=some a→w6.heap.size≤a.block∧a.block < wO.heap.size) :
  FunE wO k sizes (canF sizes p.scope p.z o) (PG wO base cb fv) (.slice Ap p.scope.length cp) (.pointer (some ⟨gu,0,none⟩)):=by
 have hcb:cb < w6.heap.size:=(Array.getElem?_eq_some_iff.1 CA.row).1;have hob:∀ q,fv.ownBlock=some q→q < w6.heap.size∧∃ cur,w6.heap[q]? = some (.cells cur 62 (0,0)):=fun q e=>(CA.own.obj q e).2;have hz:=hb.size;have far:∀ q,w6.heap.size≤q→q < wO.heap.size→PG wO base cb fv q:=fun q h1 h2=>⟨by omega,h2,by omega,fun e=>by have:=(hob q e).1;omega⟩
 have hI:=ho.form;obtain⟨A',c',e',hI⟩:=hI;injection e' with e1 e2 e3;subst e1 e3;have hpg:p.scope≠[]→∀ a:Addr,Ap=some a→PG wO base cb fv a.block:=fun hne a ha=>by
  obtain⟨_,⟨h1,h0⟩ | ⟨g,cap,cur,e,hb',hh,_⟩⟩:=ho
  ·exact absurd (List.eq_nil_of_length_eq_zero h0) hne
  rw [ha] at e;injection e with e;injection e with e;subst e;have hlt:=(Array.getElem?_eq_some_iff.1 hh).1;refine⟨Nat.le_trans hB hb',Nat.lt_of_lt_of_le hlt hz,fun e=>?_,fun e=>?_⟩
  ·have e:g=cb:=e
   subst e;have h:=CA.row;rw [hh] at h;injection h with h;injection h with _ h4;exact absurd h4 (by decide)
  obtain⟨_,cur',hc⟩:=hob g e;rw [hh] at hc;injection hc with hc;injection hc with _ h4;exact absurd h4 (by decide)
 refine⟨Ap,cp,gu,bu,Au,cu,_,rfl,own_cap ho,rfl,hI.below hb (Nat.le_refl _),T.canon hF.l6 hF.l32 hF.zk (most_in hF.zk hm),Nat.le_refl _,far gu f.1 (Array.getElem?_eq_some_iff.1 T.row).1,far bu f.2.1 T.lt,fun a ha=>far a.block (f.2.2 a ha).1 (f.2.2 a ha).2,hpg⟩
theorem hold9 {W W':World}{tb cb base c:Nat}{sv tv:Value}{X:ByteArray}{k:Int}{sizes:List Nat}{cfs:List FunM}{A:Option Addr}{fv:Value}{us:List (Value × Value)} {row:Array Value}(h:HoldC9 tb sv tv W) (hg:W.grownBy W' fv.ownBlock) (CA:CanAt W cb base X k sizes cfs A c fv us)
  (ht:W.heap[tb]? = some (.cells row 129 (0,0))):HoldC9 tb sv tv W':=by
 have hk:W'.heap[tb]? = W.heap[tb]?:=hg.block tb (Array.getElem?_eq_some_iff.1 ht).1 fun e=>by
  obtain⟨_,_,cur,hc⟩:=CA.own.obj tb e.symm;rw [ht] at hc;injection hc with hc;injection hc with _ h4;exact absurd h4 (by decide)
 exact⟨(World.cell?_of_block (a:=⟨tb,0,none⟩) hk).trans h.1,(World.cell?_of_block (a:=⟨tb,1,none⟩) hk).trans h.2⟩
theorem hold9s {W:World}{tb cb:Nat}{sv tv u:Value}(h:HoldC9 tb sv tv W) (hne:tb≠cb):HoldC9 tb sv tv (W.setCell ⟨cb,3,none⟩ u) :=
 ⟨(World.cell?_setCell_far _ _ _ _ (fun e=>hne (by first | exact e | exact e.symm))).trans h.1,(World.cell?_setCell_far _ _ _ _ (fun e=>hne (by first | exact e | exact e.symm))).trans h.2⟩
set_option maxRecDepth 100000 in
set_option maxHeartbeats 4000000 in
theorem canon_ok (fb cs cf:Nat) (X:ByteArray) (k:Int) (sizes:List Nat) (fs:List FunM) (As Af:Option Addr) (w:World) (H:FileR w fb X k sizes fs As Af cs cf) (hr:RightF X k sizes fs) :
  Calls Tryz.prog 23 #[.pointer (some ⟨fb,0,none⟩)] w (CanPost w X k sizes fs):=by
 obtain⟨n,hn⟩:∃ n,sizes.length=n:=⟨_,rfl⟩
 have HR:=hid H;have HH:=hid hr;have HN:=hid hn;clear H hr hn;go_enter Tryz.func23,Tryz.ntmps23
 go_upto_region 4 with (first | (go_at_call 64;refine (rightF fb cs cf X k sizes fs As Af w HR.out HH.out).mono ?_;rintro e w1 ⟨rfl,hb⟩;have B1:=hid hb;have H1:=hid (HR.out.below hb);clear hb) | fail)
 obtain⟨c0,c1,c2,c3⟩:=H1.out.cells;rw [HN.out] at c2;refine wp_region_noPanic ?_;refine wp_region_held_drew (S:=HoldC4 fb X k As n cs) (by kernel_rfl) ⟨c0,c1,c2⟩ (fun hHeld=>?_);have B6:Hid (Below w.heap.size w w1.drew):=hid B1.out.drew;have H6:Hid (FileR w1.drew fb X k sizes fs As Af cs cf):=hid (H1.out.below (Below.refl _ _).drew);clear c0 c1 c2 c3 H1;generalize w1.drew=w6 at B6 H6 hHeld ⊢;refine wt 0 ?r401;refine wt 1 ?r402;refine wt 2 ?r403;refine wt 3 ?r404;refine wt 4 ?r405;refine wt 5 ?r406;refine wt 6 ?r407;refine wt 7 ?r408;refine wt 8 ?r409;refine wt 9 ?r410;refine wt 10 ?r411;refine wt 11 ?r412;refine wr1 12 (fun K hK=>?_);go_simp;refine (clone_any' As n cs sizes w6 HN.out.symm (by have:=HH.out.n;omega) H6.out.szs).mono ?_;rintro e w7 ⟨⟨v,rfl,hO⟩,hb⟩;obtain⟨A,c,rfl,hI⟩:=hO.form;have O7:Hid (Own w7 w.heap.size (.slice A sizes.length c) sizes):=hid (hO.less B6.out.size);rw [HN.out];have B7:=hid (B6.out.trans (hb.mono B6.out.size));have H7:=hid (H6.out.below hb);refine hK.out _ _ (holdC4 hHeld hb) (fun hHeld'=>?_);replace hHeld:=hHeld';clear hHeld';clear hO hI hb;clear hK K;try simp only [Act.put,pa,pb,pc,pd,pe,pf]
 refine wt 13 ?r413;refine wr1 14 (fun K hK=>?_);go_simp;have nl:=new_val w7 (.cells #[.string X,.int .i64 k,.slice A n c,.slice none 0 0] 54);have C8:Hid (CanAt (w7.alloc (.cells #[.string X,.int .i64 k,.slice A n c,.slice none 0 0] 54)) w7.heap.size w.heap.size X k sizes [] A c (.slice none 0 0) []):=hid ⟨by rw [HN.out];exact heap_alloc_new w7 _,O7.out.below nl (Nat.le_refl _),ownFu_nil _ _,⟨rfl,fun i f h=>by simp at h⟩,B7.out.size⟩;have B8:=hid (B7.out.trans (nl.mono B7.out.size));have H8:=hid (H7.out.below nl);refine hK.out _ _ (holdC4 hHeld nl) (fun hHeld'=>?_);replace hHeld:=hHeld';clear hHeld';clear nl;generalize w7.alloc (.cells #[.string X,.int .i64 k,.slice A n c,.slice none 0 0] 54)=w8 at C8 B8 H8 hHeld ⊢;generalize w7.heap.size=cb at C8 ⊢;clear hK K;try simp only [Act.put,pa,pb,pc,pd,pe,pf]
 refine wt 15 ?r414;refine wpAnyH_done (by kernel_rfl) ?_ _;refine NoPanic.normal ?_;clear hHeld;have c3:=H8.out.cells.2.2.2;go_upto_region 6 with (first | (go_at_call 77;refine (sums_ok fb cs cf X k sizes fs As Af w8 H8.out HH.out).mono ?_;rintro e w9 ⟨⟨lv,us,ls,rfl,hrow,hul,hpa,hg⟩,hb⟩;obtain⟨A5,c5,rfl,-⟩:=OwnPt.form hrow;have OP9:=hid hrow;have UL:=hid hul;have PA9:=hid hpa;have GI:=hid hg;have C9:=hid (C8.out.below hb);have B9:=hid (B8.out.trans (hb.mono B8.out.size));have z89:=hid B8.out.size;clear hrow hul hpa hg hb) | fail)
 obtain⟨q,hq⟩:∃ q,us.length=q:=⟨_,rfl⟩
 have HQ:=hid hq;have q256:Hid (q≤256):=hid (by
  rw [← hq,UL.out];have h1:(ls.map (·.scope)).length≤(fs.map fun f=>risL f.scope).length:=inj_len (fun S=>S) (GI.out.ris.imp fun h=>ltS_ne h) fun S hS=>by
   obtain⟨c,hc,rfl⟩:=List.mem_map.1 hS;obtain⟨p,hp,e⟩:=GI.out.frm c hc;obtain⟨f,hf,rfl⟩:=List.mem_map.1 hp;exact List.mem_map.2 ⟨f,hf,e⟩
  rw [List.length_map,List.length_map] at h1;exact Nat.le_trans h1 HH.out.nf)
 rw [hq] at OP9 ⊢;have hq256:=q256.out;clear hq B6 H6 B7 H7 O7 B8 H8 C8 c3;go_loopw [7,34] (fun _ i wr=>∃ (j:Nat) (cfs:List FunM) (fv:Value) (us9:List (Value × Value)),j≤q∧i = .int .i64 (j:Int)∧CanAt wr cb w.heap.size X k sizes cfs A c fv us9∧CanL sizes (ls.take j) cfs∧cfs.length≤j∧KeepC w9 wr∧Below w.heap.size w wr) (fun _ i _=>q - (intOf i).toNat)
 case atStart=>exact⟨0,[],_,[],Nat.zero_le _,rfl,C9.out,CanL.nil,Nat.le_refl _,KeepC.refl _,B9.out⟩
 case round =>
  obtain⟨j,cfs,fv,us9,hj,rfl,hCA,hCL,hcl,hKC,hB⟩:=hrel;have CR:=hid hCA;have CL:=hid hCL;have KC:=hid hKC;have BR:=hid hB;have CLEN:Hid (cfs.length≤j):=hid hcl;clear hCA hCL hKC hB hcl;by_cases hlt:j < q
  rotate_left
  ·obtain rfl:j=q:=by omega
   have i1:¬ ((j:Int) < (j:Int)):=by omega
   go_wp2_with fail
   go_ret2;have e1:ls.take j=ls:=List.take_of_length_le (by have:=UL.out;have:=HQ.out;omega);have CLF:=CL.out;rw [e1] at CLF;exact⟨⟨cb,A,c,fv,us9,cfs,by rfl,CR.out,CLF.canon GI.out (fun p hp=>(partF_of HH.out GI.out hp).zk) (fun p hp n hn=>((partF_of HH.out GI.out hp).l32 n hn).1)⟩,BR.out⟩
  have i1:(j:Int) < (q:Int):=by omega
  have i2:(0:Int)≤(j:Int):=by omega
  obtain⟨x,hx⟩:∃ x,us[j]? = some x:=⟨_,List.getElem?_eq_getElem (by rw [HQ.out];exact hlt)⟩
  obtain⟨p,hp⟩:∃ p,ls[j]? = some p:=⟨_,List.getElem?_eq_getElem (by have:=UL.out;have:=HQ.out;omega)⟩
  obtain⟨x1,x2⟩:=x;obtain⟨A',c',e',hcell⟩:=OwnPt.form (OwnPt.keepC (us:=us) (by have h:=OP9.out;rw [HQ.out];exact h) KC.out);injection e' with e1 e2 e3;subst e1 e3;obtain⟨gp,rfl,hgp,-,k0,k1⟩:=hcell j _ hx;obtain⟨hso,g,h,ex2,hT,hg1,hh1⟩:=(PA9.out j _ _ hx hp).keepC KC.out;have ex2:x2 = .pointer (some ⟨g,0,none⟩):=ex2;subst ex2;obtain⟨Ap,cp,ex1,-⟩:=hso.form;have ex1:x1 = .slice Ap p.scope.length cp:=ex1;subst ex1;have PF6:=hid (partF_of HH.out GI.out (List.mem_of_getElem? hp));have HPJ:=hid hp;have LT:Hid (ls.take (j+1)=ls.take j++[p]):=hid (by
   have h1:=List.getElem?_eq_some_iff.1 hp;rw [List.take_succ_eq_append_getElem h1.1];congr 2
   exact h1.2)
  have n1:=new_val wr (.cells #[.slice Ap p.scope.length cp,.pointer (some ⟨g,0,none⟩)] 129);have NB:=hid n1;have X5:=hid (heap_alloc_new wr (.cells #[.slice Ap p.scope.length cp,.pointer (some ⟨g,0,none⟩)] 129));have T5:=hid (hT.below n1);have S5:Hid (Own (wr.alloc (.cells #[.slice Ap p.scope.length cp,.pointer (some ⟨g,0,none⟩)] 129)) w8.heap.size (.slice Ap p.scope.length cp) p.scope):=hid (Own.below hso n1 (Nat.le_refl _));obtain⟨np,hnp⟩:∃ np,p.scope.length=np:=⟨_,rfl⟩
  have HNP:=hid hnp;rw [hnp] at k0 NB X5 T5 S5;have zr:=hid BR.out.size;clear hx hp hcell e2 hgp hso hT hg1 hh1 n1 hnp;go_upto_region 8 with (first
   | ((with_reducible show wpList _ _ _ (Oper.mk none (.store 129 _ _) _ _ _ _::_) _ _);refine wpList_store_row rfl 129 (.tmp 7) (.tmp 37) rfl wr.heap.size #[.slice Ap np cp,.pointer (some ⟨g,0,none⟩)] rfl rfl 129 #[.slice none 0 0,.pointer none] (heap_alloc_new _ _) (by kernel_rfl) rfl (by simp [Value.oneCell']) ?_;rw [World.setRow_alloc_new])
   | fail)
  clear k0 k1;obtain⟨w5,hw5⟩:∃ w5,wr.alloc (.cells #[.slice Ap np cp,.pointer (some ⟨g,0,none⟩)] 129)=w5:=⟨_,rfl⟩
  rw [hw5] at X5 NB T5 S5 ⊢;have z5:Hid (w5.heap.size=wr.heap.size+1):=hid (by rw [← hw5,World.size_alloc]);clear hw5;have y0:w5.cell? ⟨wr.heap.size,0,none⟩=some (.slice Ap np cp):=by rw [cell_of_row _ _ _ _ _ _ X5.out];rfl
  have y1:w5.cell? ⟨wr.heap.size,1,none⟩=some (.pointer (some ⟨g,0,none⟩)):=by rw [cell_of_row _ _ _ _ _ _ X5.out];rfl
  have MK:=hid (max_kp (sizes:=sizes) (p:=p) rfl PF6.out.p1);obtain⟨mx,hmx⟩:∃ mx,mxZ p.z (prodL (pickN sizes p.scope) - 1)=mx:=⟨_,rfl⟩
  have HMX:=hid hmx;rw [hmx] at MK;obtain⟨P,hP⟩:∃ P,prodL (pickN sizes p.scope)=P:=⟨_,rfl⟩
  have HP:=hid hP;clear hmx hP;have EN:=hid (entries_zs g h P (pickN sizes p.scope) k p.z w5 T5.out HP.out (by rw [← HP.out];exact PF6.out.p4));by_cases hkp:0 < mx
  rotate_left
  ·have i3:¬ ((0:Int) < mx):=hkp
   go_wp2_with (first
    | (go_at_call 28;refine EN.out.mono ?_;rintro e wE ⟨⟨Az,cz,rfl,hz⟩,hb⟩;have ZE:=hid hz;have BE:=hid hb;have MX:=hid (max64_any Az (P - 1) P cz p.z wE (by have:=PF6.out.p4;rw [HP.out] at this;omega) (by have:=PF6.out.p1;rw [HP.out] at this;omega) hz);rw [← HP.out,HMX.out,HP.out] at MX;clear hz hb)
    | (go_at_call 78;refine MX.out.mono ?_;rintro e w' ⟨rfl,rfl⟩)
    | fail)
   refine⟨⟨j+1,cfs,fv,us9,by omega,by go_num,(CR.out.below NB.out).below BE.out,by rw [LT.out];exact CanL.skip CL.out (fun h=>by have:=MK.out.2 h;omega),by have:=CLEN.out;omega,KC.out.trans ((KeepC.below NB.out).trans (KeepC.below BE.out)),(BR.out.trans (NB.out.mono BR.out.size)).trans (BE.out.mono (by have:=BR.out.size;have:=NB.out.size;omega))⟩,by simp [intOf];omega⟩
  go_upto_region 9 with (first
   | (go_at_call 28;refine EN.out.mono ?_;rintro e wE ⟨⟨Az,cz,rfl,hz⟩,hb⟩;have ZE:=hid hz;have BE:=hid hb;have MX:=hid (max64_any Az (P - 1) P cz p.z wE (by have:=PF6.out.p4;rw [HP.out] at this;omega) (by have:=PF6.out.p1;rw [HP.out] at this;omega) hz);rw [← HP.out,HMX.out,HP.out] at MX;clear hz hb)
   | (go_at_call 78;refine MX.out.mono ?_;rintro e w' ⟨rfl,rfl⟩)
   | fail)
  have hKP:KpP sizes p:=MK.out.1 hkp;have CA:Hid (CanAt wE.drew cb w.heap.size X k sizes cfs A c fv us9):=hid (((CR.out.below NB.out).below BE.out).below (Below.refl _ _).drew);have TA6:Hid (TabAt wE.drew g h (pickN sizes p.scope) k p.z):=hid ((T5.out.below BE.out).below (Below.refl _ _).drew);have SO6:Hid (Own wE.drew w8.heap.size (.slice Ap np cp) p.scope):=hid ((Own.below S5.out BE.out (Nat.le_refl _)).below (Below.refl wE.heap.size wE).drew (Nat.le_refl _));have BW6:Hid (Below w.heap.size w wE.drew):=hid (((BR.out.trans (NB.out.mono BR.out.size)).trans (BE.out.mono (by have:=BR.out.size;have:=NB.out.size;omega))).drew);have KR6:Hid (KeepC wr wE.drew):=hid (((KeepC.below NB.out).trans (KeepC.below BE.out)).trans (KeepC.below (Below.refl _ _).drew));have TB:Hid (wE.drew.heap[wr.heap.size]? = some (.cells #[.slice Ap np cp,.pointer (some ⟨g,0,none⟩)] 129 (0,0))):=hid ((BE.out.block wr.heap.size (by have:=z5.out;omega)).trans X5.out);have CBT:Hid (wr.heap.size≠cb):=hid (fun e=>by have:=(Array.getElem?_eq_some_iff.1 CR.out.row).1;omega);have x0:wE.drew.cell? ⟨wr.heap.size,0,none⟩=some (.slice Ap np cp):=by rw [cell_of_row _ _ _ _ _ _ TB.out];rfl
  have x1:wE.drew.cell? ⟨wr.heap.size,1,none⟩=some (.pointer (some ⟨g,0,none⟩)):=by rw [cell_of_row _ _ _ _ _ _ TB.out];rfl
  refine wp_region_noPanic ?_;refine wp_region_held_drew (S:=HoldC9 wr.heap.size (.slice Ap np cp) (.pointer (some ⟨g,0,none⟩))) (by kernel_rfl) ⟨x0,x1⟩ (fun hHeld=>?_);clear x0 x1 y0 y1 EN MX ZE;generalize wE.drew=w6 at CA TA6 SO6 BW6 KR6 TB hHeld ⊢;have CA6:=CA;refine wt 0 ?r901;refine wt 1 ?r902;refine wt 2 ?r903;refine wt 3 ?r904;refine wt 5 ?r905;refine wt 6 ?r906;refine wt 7 ?r907;refine wt 8 ?r908;refine wpAnyH_ready (rs:=[4,9]) (by kernel_rfl) (by simp) ?_;refine AllReadyH.cons rfl (fun K hK=>?_) ?_
  ·have q3:w6.cell? ⟨cb,3,none⟩=some fv:=CA.out.cells.2.2.2.1
   go_simp;clear q3;refine hK.out _ _ (hHeld) (fun hHeld'=>?_);replace hHeld:=hHeld';clear hHeld';clear hK K;try simp only [Act.put,pa,pb,pc,pd,pe,pf]
   refine wr1 9 (fun K hK=>?_);go_simp;refine (tpof_new g h (prodL (pickN sizes p.scope)) (pickN sizes p.scope) k p.z w6 TA6.out PF6.out.l6 PF6.out.l32 rfl PF6.out.p1 PF6.out.p4 PF6.out.zk).mono ?_;rintro e wO ⟨⟨gu,bu,Au,cu,o,rfl,hT,hm,f1,f2,f3⟩,hb⟩;have BO:=hid hb;have TO:=hid hT;have MO:=hid hm;have FO:=hid (And.intro f1 (And.intro f2 f3));have CA:=hid (CA.out.below hb);have TB:=hid ((hb.block wr.heap.size (Array.getElem?_eq_some_iff.1 TB.out).1).trans TB.out);refine hK.out _ _ (holdC9 hHeld hb) (fun hHeld'=>?_);replace hHeld:=hHeld';clear hHeld';clear hb hT hm f1 f2 f3;clear hK K;try simp only [Act.put,pa,pb,pc,pd,pe,pf]
   refine wt 10 ?r909;refine wr1 11 (fun K hK=>?_);go_simp;have nl:=new_val wO (.cells #[.slice Ap np cp,.pointer (some ⟨gu,0,none⟩)] 62);have LR:Hid ((wO.alloc (.cells #[.slice Ap np cp,.pointer (some ⟨gu,0,none⟩)] 62)).heap[wO.heap.size]? = some (.cells #[.slice Ap np cp,.pointer (some ⟨gu,0,none⟩)] 62 (0,0))):=hid (heap_alloc_new wO _);have NL:=hid nl;have CA:=hid (CA.out.below nl);have TB:=hid ((nl.block wr.heap.size (Array.getElem?_eq_some_iff.1 TB.out).1).trans TB.out);refine hK.out _ _ (holdC9 hHeld nl) (fun hHeld'=>?_);replace hHeld:=hHeld';clear hHeld';clear nl;generalize wO.alloc (.cells #[.slice Ap np cp,.pointer (some ⟨gu,0,none⟩)] 62)=wL at LR NL CA TB hHeld ⊢;generalize wO.heap.size=gl at LR ⊢;clear hK K;try simp only [Act.put,pa,pb,pc,pd,pe,pf]
   refine wr1 12 (fun K hK=>?_);refine push_fu_step rfl (.tmp 47) (.tmp 54) rfl wL w.heap.size gl fv us9 Ap np cp (some ⟨gu,0,none⟩) rfl (by rfl) CA.out.own LR.out (by have h1:=BW6.out.size;have h2:=BO.out.size;have h3:=NL.out.size;omega) (by have h1:=CA.out.funs.1;have h2:=CLEN.out;omega) ?_;intro v10 w10 hO hg hat;have OX:=hid hO;have GX:=hid hg;have AX:=hid hat;obtain⟨A10,c10,rfl⟩:∃ A c,v10 = .slice A (us9++[(Value.slice Ap np cp,Value.pointer (some ⟨gu,0,none⟩))]).length c:=hO.form;have r10:=(CA.out.far hg).trans CA.out.row;have q3:w10.cell? ⟨cb,3,none⟩=some fv:=by rw [cell_of_row _ _ _ _ _ _ r10];rfl
   have qf:w10.frozen? ⟨cb,3,none⟩=false:=by simp [World.frozen?,r10]
   generalize (us9++[(Value.slice Ap np cp,Value.pointer (some ⟨gu,0,none⟩))]).length=m10 at OX GX AX ⊢;refine hK.out _ _ (hold9 hHeld GX.out CA.out TB.out) (fun hHeld'=>?_);replace hHeld:=hHeld';clear hHeld';clear hO hg hat r10;clear hK K;try simp only [Act.put,pa,pb,pc,pd,pe,pf]
   refine wt 13 ?r910;refine wt 14 ?r911;refine wr1 15 (fun K hK=>?_);go_simp;clear q3 qf;refine hK.out _ _ (hold9s hHeld CBT.out) (fun hHeld'=>?_);replace hHeld:=hHeld';clear hHeld';clear hK K;try simp only [Act.put,pa,pb,pc,pd,pe,pf]
   refine wpAnyH_done (by kernel_rfl) ?_ _;refine NoPanic.normal ?_;clear hHeld;go_wp2_with fail
   have hFE:=can_funE (B1:=w8.heap.size) CA6.out BO.out (by rw [HNP.out];exact SO6.out) z89.out PF6.out TO.out MO.out BW6.out.size FO.out;rw [HNP.out] at hFE;obtain⟨n1,n2,n3⟩:=CA6.out.next BO.out hFE NL.out OX.out GX.out AX.out;exact⟨⟨j+1,cfs++[_],_,_,by omega,by go_num,n1,by rw [LT.out];exact CanL.keep CL.out hKP MO.out,by simp;have:=CLEN.out;omega,KC.out.trans (KR6.out.trans n2),BW6.out.trans (n3 _ (Nat.le_refl _) BW6.out.size)⟩,by simp [intOf];omega⟩
  refine AllReadyH.cons rfl (fun K hK=>?_) AllReadyH.nil;go_simp;refine (tpof_new g h (prodL (pickN sizes p.scope)) (pickN sizes p.scope) k p.z w6 TA6.out PF6.out.l6 PF6.out.l32 rfl PF6.out.p1 PF6.out.p4 PF6.out.zk).mono ?_;rintro e wO ⟨⟨gu,bu,Au,cu,o,rfl,hT,hm,f1,f2,f3⟩,hb⟩;have BO:=hid hb;have TO:=hid hT;have MO:=hid hm;have FO:=hid (And.intro f1 (And.intro f2 f3));have CA:=hid (CA.out.below hb);have TB:=hid ((hb.block wr.heap.size (Array.getElem?_eq_some_iff.1 TB.out).1).trans TB.out);refine hK.out _ _ (holdC9 hHeld hb) (fun hHeld'=>?_);replace hHeld:=hHeld';clear hHeld';clear hb hT hm f1 f2 f3;clear hK K;try simp only [Act.put,pa,pb,pc,pd,pe,pf]
  refine wt 10 ?r912;refine wpAnyH_ready (rs:=[4,11]) (by kernel_rfl) (by simp) ?_;refine AllReadyH.cons rfl (fun K hK=>?_) ?_
  ·have q3:wO.cell? ⟨cb,3,none⟩=some fv:=CA.out.cells.2.2.2.1
   go_simp;clear q3;refine hK.out _ _ (hHeld) (fun hHeld'=>?_);replace hHeld:=hHeld';clear hHeld';clear hK K;try simp only [Act.put,pa,pb,pc,pd,pe,pf]
   refine wr1 11 (fun K hK=>?_);go_simp;have nl:=new_val wO (.cells #[.slice Ap np cp,.pointer (some ⟨gu,0,none⟩)] 62);have LR:Hid ((wO.alloc (.cells #[.slice Ap np cp,.pointer (some ⟨gu,0,none⟩)] 62)).heap[wO.heap.size]? = some (.cells #[.slice Ap np cp,.pointer (some ⟨gu,0,none⟩)] 62 (0,0))):=hid (heap_alloc_new wO _);have NL:=hid nl;have CA:=hid (CA.out.below nl);have TB:=hid ((nl.block wr.heap.size (Array.getElem?_eq_some_iff.1 TB.out).1).trans TB.out);refine hK.out _ _ (holdC9 hHeld nl) (fun hHeld'=>?_);replace hHeld:=hHeld';clear hHeld';clear nl;generalize wO.alloc (.cells #[.slice Ap np cp,.pointer (some ⟨gu,0,none⟩)] 62)=wL at LR NL CA TB hHeld ⊢;generalize wO.heap.size=gl at LR ⊢;clear hK K;try simp only [Act.put,pa,pb,pc,pd,pe,pf]
   refine wr1 12 (fun K hK=>?_);refine push_fu_step rfl (.tmp 47) (.tmp 54) rfl wL w.heap.size gl fv us9 Ap np cp (some ⟨gu,0,none⟩) rfl (by rfl) CA.out.own LR.out (by have h1:=BW6.out.size;have h2:=BO.out.size;have h3:=NL.out.size;omega) (by have h1:=CA.out.funs.1;have h2:=CLEN.out;omega) ?_;intro v10 w10 hO hg hat;have OX:=hid hO;have GX:=hid hg;have AX:=hid hat;obtain⟨A10,c10,rfl⟩:∃ A c,v10 = .slice A (us9++[(Value.slice Ap np cp,Value.pointer (some ⟨gu,0,none⟩))]).length c:=hO.form;have r10:=(CA.out.far hg).trans CA.out.row;have q3:w10.cell? ⟨cb,3,none⟩=some fv:=by rw [cell_of_row _ _ _ _ _ _ r10];rfl
   have qf:w10.frozen? ⟨cb,3,none⟩=false:=by simp [World.frozen?,r10]
   generalize (us9++[(Value.slice Ap np cp,Value.pointer (some ⟨gu,0,none⟩))]).length=m10 at OX GX AX ⊢;refine hK.out _ _ (hold9 hHeld GX.out CA.out TB.out) (fun hHeld'=>?_);replace hHeld:=hHeld';clear hHeld';clear hO hg hat r10;clear hK K;try simp only [Act.put,pa,pb,pc,pd,pe,pf]
   refine wt 13 ?r913;refine wt 14 ?r914;refine wr1 15 (fun K hK=>?_);go_simp;clear q3 qf;refine hK.out _ _ (hold9s hHeld CBT.out) (fun hHeld'=>?_);replace hHeld:=hHeld';clear hHeld';clear hK K;try simp only [Act.put,pa,pb,pc,pd,pe,pf]
   refine wpAnyH_done (by kernel_rfl) ?_ _;refine NoPanic.normal ?_;clear hHeld;go_wp2_with fail
   have hFE:=can_funE (B1:=w8.heap.size) CA6.out BO.out (by rw [HNP.out];exact SO6.out) z89.out PF6.out TO.out MO.out BW6.out.size FO.out;rw [HNP.out] at hFE;obtain⟨n1,n2,n3⟩:=CA6.out.next BO.out hFE NL.out OX.out GX.out AX.out;exact⟨⟨j+1,cfs++[_],_,_,by omega,by go_num,n1,by rw [LT.out];exact CanL.keep CL.out hKP MO.out,by simp;have:=CLEN.out;omega,KC.out.trans (KR6.out.trans n2),BW6.out.trans (n3 _ (Nat.le_refl _) BW6.out.size)⟩,by simp [intOf];omega⟩
  refine AllReadyH.cons rfl (fun K hK=>?_) AllReadyH.nil;go_simp;have nl:=new_val wO (.cells #[.slice Ap np cp,.pointer (some ⟨gu,0,none⟩)] 62);have LR:Hid ((wO.alloc (.cells #[.slice Ap np cp,.pointer (some ⟨gu,0,none⟩)] 62)).heap[wO.heap.size]? = some (.cells #[.slice Ap np cp,.pointer (some ⟨gu,0,none⟩)] 62 (0,0))):=hid (heap_alloc_new wO _);have NL:=hid nl;have CA:=hid (CA.out.below nl);have TB:=hid ((nl.block wr.heap.size (Array.getElem?_eq_some_iff.1 TB.out).1).trans TB.out);refine hK.out _ _ (holdC9 hHeld nl) (fun hHeld'=>?_);replace hHeld:=hHeld';clear hHeld';clear nl;generalize wO.alloc (.cells #[.slice Ap np cp,.pointer (some ⟨gu,0,none⟩)] 62)=wL at LR NL CA TB hHeld ⊢;generalize wO.heap.size=gl at LR ⊢;clear hK K;try simp only [Act.put,pa,pb,pc,pd,pe,pf]
  refine wr1 4 (fun K hK=>?_);have q3:wL.cell? ⟨cb,3,none⟩=some fv:=CA.out.cells.2.2.2.1;go_simp;clear q3;refine hK.out _ _ (hHeld) (fun hHeld'=>?_);replace hHeld:=hHeld';clear hHeld';clear hK K;try simp only [Act.put,pa,pb,pc,pd,pe,pf]
  refine wr1 12 (fun K hK=>?_);refine push_fu_step rfl (.tmp 47) (.tmp 54) rfl wL w.heap.size gl fv us9 Ap np cp (some ⟨gu,0,none⟩) rfl (by rfl) CA.out.own LR.out (by have h1:=BW6.out.size;have h2:=BO.out.size;have h3:=NL.out.size;omega) (by have h1:=CA.out.funs.1;have h2:=CLEN.out;omega) ?_;intro v10 w10 hO hg hat;have OX:=hid hO;have GX:=hid hg;have AX:=hid hat;obtain⟨A10,c10,rfl⟩:∃ A c,v10 = .slice A (us9++[(Value.slice Ap np cp,Value.pointer (some ⟨gu,0,none⟩))]).length c:=hO.form;have r10:=(CA.out.far hg).trans CA.out.row;have q3:w10.cell? ⟨cb,3,none⟩=some fv:=by rw [cell_of_row _ _ _ _ _ _ r10];rfl
  have qf:w10.frozen? ⟨cb,3,none⟩=false:=by simp [World.frozen?,r10]
  generalize (us9++[(Value.slice Ap np cp,Value.pointer (some ⟨gu,0,none⟩))]).length=m10 at OX GX AX ⊢;refine hK.out _ _ (hold9 hHeld GX.out CA.out TB.out) (fun hHeld'=>?_);replace hHeld:=hHeld';clear hHeld';clear hO hg hat r10;clear hK K;try simp only [Act.put,pa,pb,pc,pd,pe,pf]
  refine wt 13 ?r915;refine wt 14 ?r916;refine wr1 15 (fun K hK=>?_);go_simp;clear q3 qf;refine hK.out _ _ (hold9s hHeld CBT.out) (fun hHeld'=>?_);replace hHeld:=hHeld';clear hHeld';clear hK K;try simp only [Act.put,pa,pb,pc,pd,pe,pf]
  refine wpAnyH_done (by kernel_rfl) ?_ _;refine NoPanic.normal ?_;clear hHeld;go_wp2_with fail
  have hFE:=can_funE (B1:=w8.heap.size) CA6.out BO.out (by rw [HNP.out];exact SO6.out) z89.out PF6.out TO.out MO.out BW6.out.size FO.out;rw [HNP.out] at hFE;obtain⟨n1,n2,n3⟩:=CA6.out.next BO.out hFE NL.out OX.out GX.out AX.out;exact⟨⟨j+1,cfs++[_],_,_,by omega,by go_num,n1,by rw [LT.out];exact CanL.keep CL.out hKP MO.out,by simp;have:=CLEN.out;omega,KC.out.trans (KR6.out.trans n2),BW6.out.trans (n3 _ (Nat.le_refl _) BW6.out.size)⟩,by simp [intOf];omega⟩
end Go.Proofs.YtmokogkndbinlaaGreatDoor
