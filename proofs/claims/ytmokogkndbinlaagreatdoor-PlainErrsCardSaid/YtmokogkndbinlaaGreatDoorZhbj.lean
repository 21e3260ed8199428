import Derived.Test.YtmokogkndbinlaaGreatDoorZhbi
set_option linter.all false
namespace Go.Proofs.YtmokogkndbinlaaGreatDoor
open Go.Lib (hid)
attribute [local go_sem] Oper.semAt_some
open Go.RowKit Go.Shelf
structure CopA (W:World) (cb base:Nat) (X:ByteArray) (k:Int) (n:Nat) (A:Option Addr) (c:Nat) (fv:Value) (us:List (Value × Value)):Prop where
 row:W.heap[cb]? = some (.cells #[.string X,.int .i64 k,.slice A n c,fv] 54 (0,0))
 own:OwnFu W base fv us
 ge:base≤cb
theorem CopA.below {W W':World}{cb base n:Nat}{X:ByteArray}{k:Int}{A:Option Addr}{c:Nat}{fv:Value}{us:List (Value × Value)} (h:CopA W cb base X k n A c fv us) (hb:Below W.heap.size W W'):CopA W' cb base X k n A c fv us :=
 ⟨(hb.block cb (Array.getElem?_eq_some_iff.1 h.row).1).trans h.row,row_below h.own hb,h.ge⟩
theorem CopA.far {W W':World}{cb base n:Nat}{X:ByteArray}{k:Int}{A:Option Addr}{c:Nat}{fv:Value}{us:List (Value × Value)} (h:CopA W cb base X k n A c fv us) (hg:W.grownBy W' fv.ownBlock):W'.heap[cb]? = W.heap[cb]?:=by
 refine hg.block cb (Array.getElem?_eq_some_iff.1 h.row).1 fun e=>?_;obtain⟨_,_,cur,hc⟩:=h.own.obj cb e.symm;rw [h.row] at hc;injection hc with hc;injection hc with _ h4;exact absurd h4 (by decide)
theorem CopA.next {w9 w10:World}{cb base n:Nat}{X:ByteArray}{k:Int}{A:Option Addr}{c:Nat}{fv v10:Value}{us us':List (Value × Value)} (h:CopA w9 cb base X k n A c fv us) (OX:OwnFu w10 base v10 us') (GX:w9.grownBy w10 fv.ownBlock) (hb:base≤w9.heap.size) :
  CopA (w10.setCell ⟨cb,3,none⟩ v10) cb base X k n A c v10 us'∧Below base w9 (w10.setCell ⟨cb,3,none⟩ v10):=by
 have g:=grown_put w10 cb 3 v10;have R10:=(h.far GX).trans h.row;refine⟨⟨heap_setCell_same w10 cb 3 _ _ v10 R10,OX.keepB fun q e h1 h2=>g.block q h1 (fun e'=>?_),h.ge⟩,?_⟩;rotate_left
 ·exact ((Below.refl _ _).grown GX hb (fun q e=>(h.own.obj q e).1)).setCell (p:=⟨cb,3,none⟩) h.ge v10
 injection e' with e';subst e';obtain⟨_,_,cur,hc⟩:=OX.obj _ e;rw [R10] at hc;injection hc with hc;injection hc with _ h4;exact absurd h4 (by decide)
theorem TpAt.linesN {w:World}{g b:Nat}{A:Option Addr}{c N:Nat}{l:List Nat}{k o:Int}{f:List Nat→Int}(H:TpAt w g b A c N l k o f) (h6:l.length≤6) (h32:∀ n∈l,1≤n∧n≤32):(linesT l o f).length≤N:=by
 obtain⟨D,hm,hr⟩:=H.map;have hs:=size_lines hm hr h6 h32;obtain⟨es,clock,h1,h2,h3,rfl⟩:=hm;rw [← hs];simpa [Maps.size,DataW.length_sorted] using h3
theorem le_sumM:∀ {l:List Nat}{x:Nat},x∈l→x≤l.sum
 | y::l,x,h=>by
  rw [List.sum_cons];rcases List.mem_cons.1 h with rfl | h
  ·omega
  have:=le_sumM h;omega
abbrev HoldK3 (fb:Nat) (X:ByteArray) (k:Int) (As:Option Addr) (n cs:Nat) (w W:World):Prop:=HoldC4 fb X k As n cs W∧Below w.heap.size w W
theorem holdK3 {fb:Nat}{X:ByteArray}{k:Int}{As:Option Addr}{n cs:Nat}{w W W':World}(h:HoldK3 fb X k As n cs w W) (hb:Below W.heap.size W W'):HoldK3 fb X k As n cs w W' :=
 ⟨holdC4 h.1 hb,h.2.trans (hb.mono h.2.size)⟩
set_option maxRecDepth 100000 in
set_option maxHeartbeats 4000000 in
theorem copy_any (fb cs cf:Nat) (X:ByteArray) (k:Int) (sizes:List Nat) (fs:List FunM) (As Af:Option Addr) (w:World) (H:FileR w fb X k sizes fs As Af cs cf) (hr:RightF X k sizes fs) :
  Calls Tryz.prog 15 #[.pointer (some ⟨fb,0,none⟩)] w fun e w'=>(∃ cb A c fv us,e = .returned (.pointer (some ⟨cb,0,none⟩))∧CopA w' cb w.heap.size X k sizes.length A c fv us)∧Below w.heap.size w w':=by
 obtain⟨n,hn⟩:∃ n,sizes.length=n:=⟨_,rfl⟩
 obtain⟨q,hq⟩:∃ q,fs.length=q:=⟨_,rfl⟩
 have HR:=hid H;have HH:=hid hr;have HN:=hid hn;have HQ:=hid hq;have hq256:q≤256:=by have:=hr.nf;omega
 have h0:=H.cells;rw [hn,hq] at h0;have H0:Hid (HoldK3 fb X k As n cs w w):=hid ⟨⟨h0.1,h0.2.1,h0.2.2.1⟩,Below.refl _ _⟩;have CL:=hid (fun W (hb:Below w.heap.size w W)=>clone_any' As n cs sizes W hn.symm (by have:=hr.n;omega) (H.below hb).szs);clear H hr hn hq h0;rw [HN.out];have c0:=HR.out.cells.1;go_enter Tryz.func15,Tryz.ntmps15
 go_upto_region 3 with fail
 clear c0;go_region_held3 (fun W=>HoldK3 fb X k As n cs w W) (first | exact holdK3 H0.out ((Below.refl _ _).drew) | exact holdK3 (by assumption) (by assumption) | exact holdK3 (by assumption) (new_val _ _) | assumption)
  ((first | (go_at_call 35;with_reducible refine (CL.out _ (by assumption:HoldK3 fb X k As n cs w _).2).mono ?_;rintro e w2 ⟨⟨v,rfl,hO⟩,hb⟩;obtain⟨A,c,rfl,-⟩:=hO.form;have B2:=hid (by assumption:HoldK3 fb X k As n cs w _).2;have B3:=hid hb;clear hO;rw [HN.out])))
 have B4:=hid (by assumption:HoldK3 fb X k As n cs w (w2.alloc (.cells #[.string X,.int .i64 k,.slice A n c,.slice none 0 0] 54))).2;have Z4:Hid (w.heap.size≤w2.heap.size):=hid (Nat.le_trans B2.out.size B3.out.size);have C4:Hid (CopA (w2.alloc (.cells #[.string X,.int .i64 k,.slice A n c,.slice none 0 0] 54)) w2.heap.size w.heap.size X k n A c (.slice none 0 0) []):=hid ⟨heap_alloc_new _ _,ownFu_nil _ _,Z4.out⟩;clear B2 B3 CL H0 hb;generalize w2.alloc (.cells #[.string X,.int .i64 k,.slice A n c,.slice none 0 0] 54)=w4 at B4 C4 ⊢;obtain⟨cb,hcb⟩:∃ cb,w2.heap.size=cb:=⟨_,rfl⟩
 rw [hcb] at C4;simp only [hcb];clear hcb Z4;have H4:=hid (HR.out.below B4.out);have c3:=H4.out.cells.2.2.2;rw [HQ.out] at c3;go_wp2_with fail
 clear c3;go_loopw [5,28] (fun _ i wr=>∃ (j:Nat) (fv:Value) (us:List (Value × Value)),j≤q∧i = .int .i64 (j:Int)∧CopA wr cb w.heap.size X k n A c fv us∧us.length=j∧Below w.heap.size w wr) (fun _ i _=>q - (intOf i).toNat)
 case atStart=>exact⟨0,_,[],Nat.zero_le _,rfl,C4.out,rfl,B4.out⟩
 case round =>
  obtain⟨j,fv,us,hj,rfl,hCA,hul,hB⟩:=hrel;have CR:=hid hCA;have UL:=hid hul;have BR:=hid hB;clear hCA hul hB;by_cases hlt:j < q
  rotate_left
  ·obtain rfl:j=q:=by omega
   have i1:¬ ((j:Int) < (j:Int)):=by omega
   go_wp2_with fail
   go_ret;exact⟨⟨cb,by rfl,A,c,fv,us,CR.out⟩,BR.out⟩
  have i1:(j:Int) < (q:Int):=by omega
  have i2:(0:Int)≤(j:Int):=by omega
  obtain⟨f,hf⟩:∃ f,fs[j]? = some f:=⟨_,List.getElem?_eq_getElem (by rw [HQ.out];exact hlt)⟩
  have hfm:=List.mem_of_getElem? hf;have HRr:=HR.out.below BR.out;obtain⟨gf,sv,tv,e1,hgf,k0,k1,hFE⟩:=HRr.funs j f hf;subst e1;obtain⟨Asc,csc,g,mb,At,ct,N,rfl,-,rfl,hI,hT,hN,-⟩:=hFE;have hff:=HH.out.funs f hfm;have L32:Hid (∀ n∈pickN sizes f.scope,1≤n∧n≤32):=hid (pick_ok HH.out.szs hff.1.below);have L6:Hid ((pickN sizes f.scope).length≤6):=hid (by rw [pickN_len];exact hff.2.1);have N4:Hid (N≤16384):=hid (Nat.le_trans hN (Nat.le_trans (le_sumM (List.mem_map.2 ⟨f,hfm,rfl⟩)) HH.out.all));have KO:Hid (InK (min f.other k) k):=hid (by
   have ht:=HH.out.top;have ho:=hff.1.other;exact⟨ht.1,ht.2,by omega,by omega⟩)
  have KF:Hid (∀ t,InL (pickN sizes f.scope) t→InK (funF k f t) k):=hid (fun t _=>by
   have ht:=HH.out.top;have h:=funF_in ht.1 hff.1 t;exact⟨ht.1,ht.2,h.1,h.2⟩)
  have S6:Hid (f.scope.length≤6):=hid hff.2.1;obtain⟨m,hm⟩:∃ m,f.scope.length=m:=⟨_,rfl⟩
  have HM:=hid hm;have n1:=new_val wr (.cells #[.slice Asc m csc,.pointer (some ⟨g,0,none⟩)] 62);have NB:=hid n1;have X5:=hid (heap_alloc_new wr (.cells #[.slice Asc m csc,.pointer (some ⟨g,0,none⟩)] 62));have T5:=hid (hT.below n1);have I5:=hid (hI.below n1 (Nat.le_refl _));rw [hm] at k0;clear hf hfm HRr hgf hI hT hN hff hm n1;go_upto_region 7 with (first
   | ((with_reducible show wpList _ _ _ (Oper.mk none (.store 62 _ _) _ _ _ _::_) _ _);refine wpList_store_row rfl 62 (.tmp 5) (.tmp 31) rfl wr.heap.size #[.slice Asc m csc,.pointer (some ⟨g,0,none⟩)] rfl rfl 62 #[.slice none 0 0,.pointer none] (heap_alloc_new _ _) (by kernel_rfl) rfl (by simp [Value.oneCell']) ?_;rw [World.setRow_alloc_new])
   | fail)
  clear k0 k1;obtain⟨w5,hw5⟩:∃ w5,wr.alloc (.cells #[.slice Asc m csc,.pointer (some ⟨g,0,none⟩)] 62)=w5:=⟨_,rfl⟩
  rw [hw5] at X5 NB T5 I5 ⊢;have OG:Hid (fv.ownBlock≠some wr.heap.size):=hid (fun e=>by obtain⟨_,h1,_⟩:=CR.out.own.obj _ e;omega);have GC:Hid (wr.heap.size≠cb):=hid (fun e=>by have:=(Array.getElem?_eq_some_iff.1 CR.out.row).1;omega);have x0:w5.drew.cell? ⟨wr.heap.size,0,none⟩=some (.slice Asc m csc):=by rw [cell_of_row _ _ _ _ _ _ (((Below.refl w5.heap.size w5).drew.block _ (Array.getElem?_eq_some_iff.1 X5.out).1).trans X5.out)];rfl
  have x1:w5.drew.cell? ⟨wr.heap.size,1,none⟩=some (.pointer (some ⟨g,0,none⟩)):=by rw [cell_of_row _ _ _ _ _ _ (((Below.refl w5.heap.size w5).drew.block _ (Array.getElem?_eq_some_iff.1 X5.out).1).trans X5.out)];rfl
  have CA:Hid (CopA w5.drew cb w.heap.size X k n A c fv us):=hid ((CR.out.below NB.out).below (Below.refl _ _).drew);have TW:=hid (T5.out.below (Below.refl w5.heap.size w5).drew);have IW:=hid (I5.out.below (Below.refl w5.heap.size w5).drew (Nat.le_refl _));have BW:Hid (Below w.heap.size w w5.drew):=hid ((BR.out.trans (NB.out.mono BR.out.size)).drew);refine wp_region_noPanic ?_;refine wp_region_held_drew (S:=fun W=>HoldG5 wr.heap.size (.slice Asc m csc) (.pointer (some ⟨g,0,none⟩)) W) (by kernel_rfl) ⟨x0,x1⟩ (fun hHeld=>?_);clear x0 x1 T5 I5 X5 NB CR hw5;generalize w5.drew=wd at CA TW IW BW hHeld ⊢;generalize wr.heap.size=G at GC OG hHeld ⊢;refine wt 0 ?r701;refine wt 1 ?r702;refine wt 2 ?r703;refine wt 3 ?r704;refine wt 5 ?r705;refine wt 6 ?r706;refine wt 8 ?r707;refine wt 9 ?r708;refine wpAnyH_ready (rs:=[4,7]) (by kernel_rfl) (by simp) ?_;refine AllReadyH.cons rfl (fun K hK=>?_) ?_
  ·have ac:wd.cell? ⟨cb,3,none⟩=some fv:=by rw [cell_of_row _ _ _ _ _ _ CA.out.row];rfl
   go_simp;clear ac;refine hK.out _ _ (hHeld) (fun hHeld'=>?_);replace hHeld:=hHeld';clear hHeld';clear hK K;try simp only [Act.put,pa,pb,pc,pd,pe,pf]
   refine wr1 7 (fun K hK=>?_);go_simp;refine (clone_any' Asc m csc f.scope wd HM.out.symm (by have:=S6.out;omega) IW.out).mono ?_;rintro e wa ⟨⟨v,rfl,hO⟩,hb⟩;obtain⟨A8,c8,rfl,-⟩:=hO.form;rw [HM.out];have CA:=hid (CA.out.below hb);have TW:=hid (TW.out.below hb);have BW:=hid (BW.out.trans (hb.mono BW.out.size));refine hK.out _ _ (holdG5 hHeld hb) (fun hHeld'=>?_);replace hHeld:=hHeld';clear hHeld';clear hb hO;clear hK K;try simp only [Act.put,pa,pb,pc,pd,pe,pf]
   refine wr1 10 (fun K hK=>?_);go_simp;refine (copied_ok g mb N ct At (pickN sizes f.scope) k (min f.other k) (funF k f) wa TW.out L6.out L32.out (by have:=N4.out;omega) KO.out KF.out (by have:=TW.out.linesN L6.out L32.out;have:=N4.out;omega)).mono ?_;rintro e wb ⟨⟨g2,b2,A2,c2,rfl,-⟩,hb⟩;have CA:=hid (CA.out.below hb);have BW:=hid (BW.out.trans (hb.mono BW.out.size));refine hK.out _ _ (holdG5 hHeld hb) (fun hHeld'=>?_);replace hHeld:=hHeld';clear hHeld';clear hb;clear hK K;try simp only [Act.put,pa,pb,pc,pd,pe,pf]
   refine wt 11 ?r709;refine wr1 12 (fun K hK=>?_);go_simp;have nl:=new_val wb (.cells #[.slice A8 m c8,.pointer (some ⟨g2,0,none⟩)] 62);have GL:=hid (Nat.lt_of_lt_of_le (World.block_lt_of_cell? wb _ hHeld.1) nl.size);have NW:=hid (heap_alloc_new wb (.cells #[.slice A8 m c8,.pointer (some ⟨g2,0,none⟩)] 62));have CA:=hid (CA.out.below nl);have BW:=hid (BW.out.trans (nl.mono BW.out.size));refine hK.out _ _ (holdG5 hHeld nl) (fun hHeld'=>?_);replace hHeld:=hHeld';clear hHeld';clear nl;generalize wb.alloc (.cells #[.slice A8 m c8,.pointer (some ⟨g2,0,none⟩)] 62)=we at hHeld NW CA BW GL ⊢;generalize wb.heap.size=gl at NW ⊢;clear hK K;try simp only [Act.put,pa,pb,pc,pd,pe,pf]
   refine wr1 13 (fun K hK=>?_);refine push_fu_step rfl (.tmp 36) (.tmp 44) rfl we w.heap.size gl fv us A8 m c8 (some ⟨g2,0,none⟩) rfl (by rfl) CA.out.own NW.out BW.out.size (by have:=UL.out;omega) ?_;intro v10 w10 hO hg hat;have OX:=hid hO;have GX:=hid hg;obtain⟨A10,c10,rfl⟩:∃ A c,v10 = .slice A (us++[(Value.slice A8 m c8,Value.pointer (some ⟨g2,0,none⟩))]).length c:=hO.form;have HG10:Hid (HoldG5 G (.slice Asc m csc) (.pointer (some ⟨g,0,none⟩)) w10):=hid (by
    have hk:w10.heap[G]? = we.heap[G]?:=hg.block G GL.out (fun e=>OG.out e.symm);exact⟨(World.cell?_of_block (a:=⟨G,0,none⟩) hk).trans hHeld.1,(World.cell?_of_block (a:=⟨G,1,none⟩) hk).trans hHeld.2⟩)
   generalize (us++[(Value.slice A8 m c8,Value.pointer (some ⟨g2,0,none⟩))]).length=m10 at OX GX ⊢;refine hK.out _ _ (HG10.out) (fun hHeld'=>?_);replace hHeld:=hHeld';clear hHeld';clear hO hg hat;clear hK K;try simp only [Act.put,pa,pb,pc,pd,pe,pf]
   refine wt 14 ?r710;refine wt 15 ?r711;refine wr1 16 (fun K hK=>?_);have R10:=hid ((CA.out.far GX.out).trans CA.out.row);have ac:w10.cell? ⟨cb,3,none⟩=some fv:=by rw [cell_of_row _ _ _ _ _ _ R10.out];rfl
   have af:w10.frozen? ⟨cb,3,none⟩=false:=frozen_of_row _ _ _ _ _ R10.out;go_simp;clear ac af;refine hK.out _ _ (?hst) (fun hHeld'=>?_)
   case hst=>exact holdG5_put hHeld GC.out
   replace hHeld:=hHeld';clear hHeld';clear hK K;try simp only [Act.put,pa,pb,pc,pd,pe,pf]
   refine wpAnyH_done (by kernel_rfl) ?_ _;refine NoPanic.normal ?_;clear hHeld;have NX:=hid (CA.out.next OX.out GX.out BW.out.size);have BN:=hid (BW.out.trans NX.out.2);go_wp2_with fail
   exact⟨⟨j+1,_,_,by omega,by go_num,NX.out.1,by simp [UL.out],BN.out⟩,by simp [intOf];omega⟩
  refine AllReadyH.cons rfl (fun K hK=>?_) AllReadyH.nil;go_simp;refine (clone_any' Asc m csc f.scope wd HM.out.symm (by have:=S6.out;omega) IW.out).mono ?_;rintro e wa ⟨⟨v,rfl,hO⟩,hb⟩;obtain⟨A8,c8,rfl,-⟩:=hO.form;rw [HM.out];have CA:=hid (CA.out.below hb);have TW:=hid (TW.out.below hb);have BW:=hid (BW.out.trans (hb.mono BW.out.size));refine hK.out _ _ (holdG5 hHeld hb) (fun hHeld'=>?_);replace hHeld:=hHeld';clear hHeld';clear hb hO;clear hK K;try simp only [Act.put,pa,pb,pc,pd,pe,pf]
  refine wpAnyH_ready (rs:=[4,10]) (by kernel_rfl) (by simp) ?_;refine AllReadyH.cons rfl (fun K hK=>?_) ?_
  ·have ac:wa.cell? ⟨cb,3,none⟩=some fv:=by rw [cell_of_row _ _ _ _ _ _ CA.out.row];rfl
   go_simp;clear ac;refine hK.out _ _ (hHeld) (fun hHeld'=>?_);replace hHeld:=hHeld';clear hHeld';clear hK K;try simp only [Act.put,pa,pb,pc,pd,pe,pf]
   refine wr1 10 (fun K hK=>?_);go_simp;refine (copied_ok g mb N ct At (pickN sizes f.scope) k (min f.other k) (funF k f) wa TW.out L6.out L32.out (by have:=N4.out;omega) KO.out KF.out (by have:=TW.out.linesN L6.out L32.out;have:=N4.out;omega)).mono ?_;rintro e wb ⟨⟨g2,b2,A2,c2,rfl,-⟩,hb⟩;have CA:=hid (CA.out.below hb);have BW:=hid (BW.out.trans (hb.mono BW.out.size));refine hK.out _ _ (holdG5 hHeld hb) (fun hHeld'=>?_);replace hHeld:=hHeld';clear hHeld';clear hb;clear hK K;try simp only [Act.put,pa,pb,pc,pd,pe,pf]
   refine wt 11 ?r712;refine wr1 12 (fun K hK=>?_);go_simp;have nl:=new_val wb (.cells #[.slice A8 m c8,.pointer (some ⟨g2,0,none⟩)] 62);have GL:=hid (Nat.lt_of_lt_of_le (World.block_lt_of_cell? wb _ hHeld.1) nl.size);have NW:=hid (heap_alloc_new wb (.cells #[.slice A8 m c8,.pointer (some ⟨g2,0,none⟩)] 62));have CA:=hid (CA.out.below nl);have BW:=hid (BW.out.trans (nl.mono BW.out.size));refine hK.out _ _ (holdG5 hHeld nl) (fun hHeld'=>?_);replace hHeld:=hHeld';clear hHeld';clear nl;generalize wb.alloc (.cells #[.slice A8 m c8,.pointer (some ⟨g2,0,none⟩)] 62)=we at hHeld NW CA BW GL ⊢;generalize wb.heap.size=gl at NW ⊢;clear hK K;try simp only [Act.put,pa,pb,pc,pd,pe,pf]
   refine wr1 13 (fun K hK=>?_);refine push_fu_step rfl (.tmp 36) (.tmp 44) rfl we w.heap.size gl fv us A8 m c8 (some ⟨g2,0,none⟩) rfl (by rfl) CA.out.own NW.out BW.out.size (by have:=UL.out;omega) ?_;intro v10 w10 hO hg hat;have OX:=hid hO;have GX:=hid hg;obtain⟨A10,c10,rfl⟩:∃ A c,v10 = .slice A (us++[(Value.slice A8 m c8,Value.pointer (some ⟨g2,0,none⟩))]).length c:=hO.form;have HG10:Hid (HoldG5 G (.slice Asc m csc) (.pointer (some ⟨g,0,none⟩)) w10):=hid (by
    have hk:w10.heap[G]? = we.heap[G]?:=hg.block G GL.out (fun e=>OG.out e.symm);exact⟨(World.cell?_of_block (a:=⟨G,0,none⟩) hk).trans hHeld.1,(World.cell?_of_block (a:=⟨G,1,none⟩) hk).trans hHeld.2⟩)
   generalize (us++[(Value.slice A8 m c8,Value.pointer (some ⟨g2,0,none⟩))]).length=m10 at OX GX ⊢;refine hK.out _ _ (HG10.out) (fun hHeld'=>?_);replace hHeld:=hHeld';clear hHeld';clear hO hg hat;clear hK K;try simp only [Act.put,pa,pb,pc,pd,pe,pf]
   refine wt 14 ?r713;refine wt 15 ?r714;refine wr1 16 (fun K hK=>?_);have R10:=hid ((CA.out.far GX.out).trans CA.out.row);have ac:w10.cell? ⟨cb,3,none⟩=some fv:=by rw [cell_of_row _ _ _ _ _ _ R10.out];rfl
   have af:w10.frozen? ⟨cb,3,none⟩=false:=frozen_of_row _ _ _ _ _ R10.out;go_simp;clear ac af;refine hK.out _ _ (?hst) (fun hHeld'=>?_)
   case hst=>exact holdG5_put hHeld GC.out
   replace hHeld:=hHeld';clear hHeld';clear hK K;try simp only [Act.put,pa,pb,pc,pd,pe,pf]
   refine wpAnyH_done (by kernel_rfl) ?_ _;refine NoPanic.normal ?_;clear hHeld;have NX:=hid (CA.out.next OX.out GX.out BW.out.size);have BN:=hid (BW.out.trans NX.out.2);go_wp2_with fail
   exact⟨⟨j+1,_,_,by omega,by go_num,NX.out.1,by simp [UL.out],BN.out⟩,by simp [intOf];omega⟩
  refine AllReadyH.cons rfl (fun K hK=>?_) AllReadyH.nil;go_simp;refine (copied_ok g mb N ct At (pickN sizes f.scope) k (min f.other k) (funF k f) wa TW.out L6.out L32.out (by have:=N4.out;omega) KO.out KF.out (by have:=TW.out.linesN L6.out L32.out;have:=N4.out;omega)).mono ?_;rintro e wb ⟨⟨g2,b2,A2,c2,rfl,-⟩,hb⟩;have CA:=hid (CA.out.below hb);have BW:=hid (BW.out.trans (hb.mono BW.out.size));refine hK.out _ _ (holdG5 hHeld hb) (fun hHeld'=>?_);replace hHeld:=hHeld';clear hHeld';clear hb;clear hK K;try simp only [Act.put,pa,pb,pc,pd,pe,pf]
  refine wt 11 ?r715;refine wpAnyH_ready (rs:=[4,12]) (by kernel_rfl) (by simp) ?_;refine AllReadyH.cons rfl (fun K hK=>?_) ?_
  ·have ac:wb.cell? ⟨cb,3,none⟩=some fv:=by rw [cell_of_row _ _ _ _ _ _ CA.out.row];rfl
   go_simp;clear ac;refine hK.out _ _ (hHeld) (fun hHeld'=>?_);replace hHeld:=hHeld';clear hHeld';clear hK K;try simp only [Act.put,pa,pb,pc,pd,pe,pf]
   refine wr1 12 (fun K hK=>?_);go_simp;have nl:=new_val wb (.cells #[.slice A8 m c8,.pointer (some ⟨g2,0,none⟩)] 62);have GL:=hid (Nat.lt_of_lt_of_le (World.block_lt_of_cell? wb _ hHeld.1) nl.size);have NW:=hid (heap_alloc_new wb (.cells #[.slice A8 m c8,.pointer (some ⟨g2,0,none⟩)] 62));have CA:=hid (CA.out.below nl);have BW:=hid (BW.out.trans (nl.mono BW.out.size));refine hK.out _ _ (holdG5 hHeld nl) (fun hHeld'=>?_);replace hHeld:=hHeld';clear hHeld';clear nl;generalize wb.alloc (.cells #[.slice A8 m c8,.pointer (some ⟨g2,0,none⟩)] 62)=we at hHeld NW CA BW GL ⊢;generalize wb.heap.size=gl at NW ⊢;clear hK K;try simp only [Act.put,pa,pb,pc,pd,pe,pf]
   refine wr1 13 (fun K hK=>?_);refine push_fu_step rfl (.tmp 36) (.tmp 44) rfl we w.heap.size gl fv us A8 m c8 (some ⟨g2,0,none⟩) rfl (by rfl) CA.out.own NW.out BW.out.size (by have:=UL.out;omega) ?_;intro v10 w10 hO hg hat;have OX:=hid hO;have GX:=hid hg;obtain⟨A10,c10,rfl⟩:∃ A c,v10 = .slice A (us++[(Value.slice A8 m c8,Value.pointer (some ⟨g2,0,none⟩))]).length c:=hO.form;have HG10:Hid (HoldG5 G (.slice Asc m csc) (.pointer (some ⟨g,0,none⟩)) w10):=hid (by
    have hk:w10.heap[G]? = we.heap[G]?:=hg.block G GL.out (fun e=>OG.out e.symm);exact⟨(World.cell?_of_block (a:=⟨G,0,none⟩) hk).trans hHeld.1,(World.cell?_of_block (a:=⟨G,1,none⟩) hk).trans hHeld.2⟩)
   generalize (us++[(Value.slice A8 m c8,Value.pointer (some ⟨g2,0,none⟩))]).length=m10 at OX GX ⊢;refine hK.out _ _ (HG10.out) (fun hHeld'=>?_);replace hHeld:=hHeld';clear hHeld';clear hO hg hat;clear hK K;try simp only [Act.put,pa,pb,pc,pd,pe,pf]
   refine wt 14 ?r716;refine wt 15 ?r717;refine wr1 16 (fun K hK=>?_);have R10:=hid ((CA.out.far GX.out).trans CA.out.row);have ac:w10.cell? ⟨cb,3,none⟩=some fv:=by rw [cell_of_row _ _ _ _ _ _ R10.out];rfl
   have af:w10.frozen? ⟨cb,3,none⟩=false:=frozen_of_row _ _ _ _ _ R10.out;go_simp;clear ac af;refine hK.out _ _ (?hst) (fun hHeld'=>?_)
   case hst=>exact holdG5_put hHeld GC.out
   replace hHeld:=hHeld';clear hHeld';clear hK K;try simp only [Act.put,pa,pb,pc,pd,pe,pf]
   refine wpAnyH_done (by kernel_rfl) ?_ _;refine NoPanic.normal ?_;clear hHeld;have NX:=hid (CA.out.next OX.out GX.out BW.out.size);have BN:=hid (BW.out.trans NX.out.2);go_wp2_with fail
   exact⟨⟨j+1,_,_,by omega,by go_num,NX.out.1,by simp [UL.out],BN.out⟩,by simp [intOf];omega⟩
  refine AllReadyH.cons rfl (fun K hK=>?_) AllReadyH.nil;go_simp;have nl:=new_val wb (.cells #[.slice A8 m c8,.pointer (some ⟨g2,0,none⟩)] 62);have GL:=hid (Nat.lt_of_lt_of_le (World.block_lt_of_cell? wb _ hHeld.1) nl.size);have NW:=hid (heap_alloc_new wb (.cells #[.slice A8 m c8,.pointer (some ⟨g2,0,none⟩)] 62));have CA:=hid (CA.out.below nl);have BW:=hid (BW.out.trans (nl.mono BW.out.size));refine hK.out _ _ (holdG5 hHeld nl) (fun hHeld'=>?_);replace hHeld:=hHeld';clear hHeld';clear nl;generalize wb.alloc (.cells #[.slice A8 m c8,.pointer (some ⟨g2,0,none⟩)] 62)=we at hHeld NW CA BW GL ⊢;generalize wb.heap.size=gl at NW ⊢;clear hK K;try simp only [Act.put,pa,pb,pc,pd,pe,pf]
  refine wr1 4 (fun K hK=>?_);have ac:we.cell? ⟨cb,3,none⟩=some fv:=by rw [cell_of_row _ _ _ _ _ _ CA.out.row];rfl
  go_simp;clear ac;refine hK.out _ _ (hHeld) (fun hHeld'=>?_);replace hHeld:=hHeld';clear hHeld';clear hK K;try simp only [Act.put,pa,pb,pc,pd,pe,pf]
  refine wr1 13 (fun K hK=>?_);refine push_fu_step rfl (.tmp 36) (.tmp 44) rfl we w.heap.size gl fv us A8 m c8 (some ⟨g2,0,none⟩) rfl (by rfl) CA.out.own NW.out BW.out.size (by have:=UL.out;omega) ?_;intro v10 w10 hO hg hat;have OX:=hid hO;have GX:=hid hg;obtain⟨A10,c10,rfl⟩:∃ A c,v10 = .slice A (us++[(Value.slice A8 m c8,Value.pointer (some ⟨g2,0,none⟩))]).length c:=hO.form;have HG10:Hid (HoldG5 G (.slice Asc m csc) (.pointer (some ⟨g,0,none⟩)) w10):=hid (by
   have hk:w10.heap[G]? = we.heap[G]?:=hg.block G GL.out (fun e=>OG.out e.symm);exact⟨(World.cell?_of_block (a:=⟨G,0,none⟩) hk).trans hHeld.1,(World.cell?_of_block (a:=⟨G,1,none⟩) hk).trans hHeld.2⟩)
  generalize (us++[(Value.slice A8 m c8,Value.pointer (some ⟨g2,0,none⟩))]).length=m10 at OX GX ⊢;refine hK.out _ _ (HG10.out) (fun hHeld'=>?_);replace hHeld:=hHeld';clear hHeld';clear hO hg hat;clear hK K;try simp only [Act.put,pa,pb,pc,pd,pe,pf]
  refine wt 14 ?r718;refine wt 15 ?r719;refine wr1 16 (fun K hK=>?_);have R10:=hid ((CA.out.far GX.out).trans CA.out.row);have ac:w10.cell? ⟨cb,3,none⟩=some fv:=by rw [cell_of_row _ _ _ _ _ _ R10.out];rfl
  have af:w10.frozen? ⟨cb,3,none⟩=false:=frozen_of_row _ _ _ _ _ R10.out;go_simp;clear ac af;refine hK.out _ _ (?hst) (fun hHeld'=>?_)
  case hst=>exact holdG5_put hHeld GC.out
  replace hHeld:=hHeld';clear hHeld';clear hK K;try simp only [Act.put,pa,pb,pc,pd,pe,pf]
  refine wpAnyH_done (by kernel_rfl) ?_ _;refine NoPanic.normal ?_;clear hHeld;have NX:=hid (CA.out.next OX.out GX.out BW.out.size);have BN:=hid (BW.out.trans NX.out.2);go_wp2_with fail
  exact⟨⟨j+1,_,_,by omega,by go_num,NX.out.1,by simp [UL.out],BN.out⟩,by simp [intOf];omega⟩
end Go.Proofs.YtmokogkndbinlaaGreatDoor
namespace Go.Proofs.YtmokogkndbinlaaGreatDoor
open Go.Lib (hid)
open Go.RowKit Go.Shelf
theorem right_badname (fb:Nat) (X:ByteArray) (k:Int) (n c:Nat) (A:Option Addr) (fv:Value) (w:World) (H:w.heap[fb]? = some (.cells #[.string X,.int .i64 k,.slice A n c,fv] 54 (0,0))) (hx:X.size≤100000) (hw:¬ WordX X) :
  Calls Tryz.prog 64 #[.pointer (some ⟨fb,0,none⟩)] w fun e w'=>e = .returned (.int .i64 1)∧Below w.heap.size w w':=by
 have c0:w.cell? ⟨fb,0,none⟩=some (.string X):=by rw [cell_of_row _ _ _ _ _ _ H];rfl
 have IW:=hid (isword_no X w hx hw);have c1:Hid (∀ W,Below w.heap.size w W→W.cell? ⟨fb,0,none⟩=some (.string X)):=hid (fun W hb=>(hb.cell (p:=⟨fb,0,none⟩) (World.block_lt_of_cell? w _ c0)).trans c0);clear H hx hw;go_enter Tryz.func64,Tryz.ntmps64
 go_wp2_with (first
  | (go_at_call 121;refine IW.out.mono ?_;rintro e w2 ⟨rfl,hb2⟩;have B2:=hid hb2;clear hb2)
  | fail)
 go_ret;exact⟨rfl,B2.out⟩
theorem print_badname (fb:Nat) (X:ByteArray) (k:Int) (n c:Nat) (A:Option Addr) (fv:Value) (w:World) (H:w.heap[fb]? = some (.cells #[.string X,.int .i64 k,.slice A n c,fv] 54 (0,0))) (hx:X.size≤100000) (hw:¬ WordX X) :
  Calls Tryz.prog 16 #[.pointer (some ⟨fb,0,none⟩)] w fun e w'=>e = .returned (.tuple #[.slice none 0 0,.int .i64 1])∧Below w.heap.size w w':=by
 have RB:=hid (right_badname fb X k n c A fv w H hx hw);clear H hx hw;go_enter Tryz.func16,Tryz.ntmps16
 go_wp2_with (first | (go_at_call 64;refine RB.out.mono ?_;rintro e w1 ⟨rfl,hb⟩;have B1:=hid hb;clear hb) | fail)
 go_ret2;exact⟨rfl,B1.out⟩
theorem canon_badname (fb:Nat) (X:ByteArray) (k:Int) (n c:Nat) (A:Option Addr) (fv:Value) (w:World) (H:w.heap[fb]? = some (.cells #[.string X,.int .i64 k,.slice A n c,fv] 54 (0,0))) (hx:X.size≤100000) (hw:¬ WordX X) :
  Calls Tryz.prog 23 #[.pointer (some ⟨fb,0,none⟩)] w fun e w'=>e = .returned (.tuple #[.pointer none,.int .i64 1])∧Below w.heap.size w w':=by
 have RB:=hid (right_badname fb X k n c A fv w H hx hw);clear H hx hw;go_enter Tryz.func23,Tryz.ntmps23
 go_wp2_with (first | (go_at_call 64;refine RB.out.mono ?_;rintro e w1 ⟨rfl,hb⟩;have B1:=hid hb;clear hb) | fail)
 go_ret2;exact⟨rfl,B1.out⟩
theorem print_none (w:World):Calls Tryz.prog 16 #[.pointer none] w fun e w'=>e = .returned (.tuple #[.slice none 0 0,.int .i64 2])∧w=w':=by
 have R:=hid (rnil w);go_enter Tryz.func16,Tryz.ntmps16
 go_wp2_with (first | (go_at_call 64;refine R.out.mono ?_;rintro e w' ⟨rfl,rfl⟩) | fail)
 go_ret2;exact⟨rfl,rfl⟩
theorem canon_none (w:World):Calls Tryz.prog 23 #[.pointer none] w fun e w'=>e = .returned (.tuple #[.pointer none,.int .i64 2])∧w=w':=by
 have R:=hid (rnil w);go_enter Tryz.func23,Tryz.ntmps23
 go_wp2_with (first | (go_at_call 64;refine R.out.mono ?_;rintro e w' ⟨rfl,rfl⟩) | fail)
 go_ret2;exact⟨rfl,rfl⟩
theorem plsame_none (w:World):Calls Tryz.prog 17 #[.pointer none,.pointer none] w fun e w'=>e = .returned (.bool true)∧w=w':=by
 go_enter Tryz.func17,Tryz.ntmps17
 go_wp2_with fail
 go_ret;exact⟨rfl,rfl⟩
theorem plsame_half (a:Addr) (w:World):Calls Tryz.prog 17 #[.pointer (some a),.pointer none] w fun e w'=>e = .returned (.bool false)∧w=w':=by
 go_enter Tryz.func17,Tryz.ntmps17
 go_wp2_with fail
 go_ret;exact⟨rfl,rfl⟩
end Go.Proofs.YtmokogkndbinlaaGreatDoor
namespace Go.Proofs.YtmokogkndbinlaaGreatDoor
open Go.Lib (hid)
attribute [local go_sem] Oper.semAt_some
open Go.RowKit Go.Shelf
def SmF (k:Int) (sizes:List Nat) (f f':FunM):Prop:=f.scope=f'.scope∧∀ t,InL (pickN sizes f.scope) t→funF k f t=funF k f' t
theorem psame_ok (k:Int) (sizes:List Nat) (f f':FunM) (P P':Nat→Prop) (sv tv sv' tv':Value) (w:World) (H:FunE w k sizes f P sv tv) (H':FunE w k sizes f' P' sv' tv') (h6:f.scope.length≤6) (h32:∀ n∈pickN sizes f.scope,1≤n∧n≤32) (hp:prodL (pickN sizes f.scope)≤4096) (h6':f'.scope.length≤6) :
  Calls Tryz.prog 69 #[.agg #[sv,tv],.agg #[sv',tv']] w fun e w'=>∃ b:Bool,e = .returned (.bool b)∧(b=true↔SmF k sizes f f')∧Below w.heap.size w w':=by
 obtain⟨Asc,csc,g,mb,At,ct,N,rfl,-,rfl,hI,hT,-⟩:=H;obtain⟨Asc',csc',g',mb',At',ct',N',rfl,-,rfl,hI',hT',-⟩:=H';have n1:=new_val w (.cells #[.slice Asc f.scope.length csc,.pointer (some ⟨g,0,none⟩)] 62);have n2:=new_val (w.alloc (.cells #[.slice Asc f.scope.length csc,.pointer (some ⟨g,0,none⟩)] 62)) (.cells #[.slice Asc' f'.scope.length csc',.pointer (some ⟨g',0,none⟩)] 62);have n12:=then_ n1 n2;have EQ:=hid (equal_any Asc Asc' csc csc' f.scope f'.scope _ (by omega) (hI.below n12 (Nat.le_refl _)) (hI'.below n12 (Nat.le_refl _)));have B2:=hid n12;have x0:((w.alloc (.cells #[.slice Asc f.scope.length csc,.pointer (some ⟨g,0,none⟩)] 62)).alloc (.cells #[.slice Asc' f'.scope.length csc',.pointer (some ⟨g',0,none⟩)] 62)).heap[w.heap.size]? = some (.cells #[.slice Asc f.scope.length csc,.pointer (some ⟨g,0,none⟩)] 62 (0,0)):=(n2.block _ (by rw [World.size_alloc];omega)).trans (heap_alloc_new w _);have x1:=heap_alloc_new (w.alloc (.cells #[.slice Asc f.scope.length csc,.pointer (some ⟨g,0,none⟩)] 62)) (.cells #[.slice Asc' f'.scope.length csc',.pointer (some ⟨g',0,none⟩)] 62);rw [World.size_alloc] at x1;have T1:=hid (hT.below n12);have T2:=hid (hT'.below n12);have X0:=hid x0;have X1:=hid x1;have H6:=hid h6;have H32:=hid h32;have HP:=hid hp;have hs:(w.alloc (.cells #[.slice Asc f.scope.length csc,.pointer (some ⟨g,0,none⟩)] 62)).heap.size=w.heap.size+1:=World.size_alloc _ _;clear hI hI' hT hT' n1 n2 n12 x0 x1 h6 h6' h32 hp;go_enter Tryz.func69,Tryz.ntmps69
 go_upto_region 1 with fail
 try simp only [hs]
 clear hs;generalize (w.alloc (.cells #[.slice Asc f.scope.length csc,.pointer (some ⟨g,0,none⟩)] 62)).alloc (.cells #[.slice Asc' f'.scope.length csc',.pointer (some ⟨g',0,none⟩)] 62)=w2 at EQ B2 X0 X1 T1 T2 ⊢;have y0:w2.cell? ⟨w.heap.size,0,none⟩=some (.slice Asc f.scope.length csc):=by rw [cell_of_row _ _ _ _ _ _ X0.out];rfl
 have y1:w2.cell? ⟨w.heap.size+1,0,none⟩=some (.slice Asc' f'.scope.length csc'):=by rw [cell_of_row _ _ _ _ _ _ X1.out];rfl
 by_cases e:f.scope=f'.scope
 ·have d1:decide (f.scope=f'.scope)=true:=decide_eq_true e
  rw [d1] at EQ;rw [← e] at T2;have K:=hid (fun W (hb:Below w2.heap.size w2 W)=>tpsame_ok g mb N ct g' mb' N' ct' _ At At' (pickN sizes f.scope) k (min f.other k) (min f'.other k) (funF k f) (funF k f') W (T1.out.below hb) (T2.out.below hb) (by rw [pickN_len];exact H6.out) H32.out rfl (by have:=HP.out;omega));have HE:=hid e;clear e d1;go_wp2_with (first
   | (go_at_call 25;refine EQ.out.mono ?_;rintro e w3 ⟨rfl,hb⟩;have B3:=hid hb;clear y0 y1;have y2:w3.cell? ⟨w.heap.size,1,none⟩=some (.pointer (some ⟨g,0,none⟩)):=(by rw [cell_of_row _ _ _ _ _ _ ((hb.block _ (Array.getElem?_eq_some_iff.1 X0.out).1).trans X0.out)];rfl);have y3:w3.cell? ⟨w.heap.size+1,1,none⟩=some (.pointer (some ⟨g',0,none⟩)):=(by rw [cell_of_row _ _ _ _ _ _ ((hb.block _ (Array.getElem?_eq_some_iff.1 X1.out).1).trans X1.out)];rfl);clear hb)
   | (go_at_call 32;refine (K.out _ B3.out).mono ?_;rintro e w4 ⟨r,rfl,hr,hb⟩;have HR:=hid hr;have B4:=hid (B3.out.trans (hb.mono B3.out.size));clear hr hb)
   | fail)
  go_ret;exact⟨r,rfl,HR.out.trans ⟨fun h=>⟨HE.out,h.2⟩,fun h=>⟨by first | rfl | trivial,h.2⟩⟩,B2.out.trans (B4.out.mono B2.out.size)⟩
 have d1:decide (f.scope=f'.scope)=false:=decide_eq_false e;rw [d1] at EQ;have HE:=hid e;clear e d1;go_wp2_with (first
  | (go_at_call 25;refine EQ.out.mono ?_;rintro e w3 ⟨rfl,hb⟩;have B3:=hid hb;clear y0 y1 hb)
  | fail)
 go_ret;first | exact⟨false,rfl,⟨fun h=>absurd h (by decide),fun h=>absurd h.1 HE.out⟩,B2.out.trans (B3.out.mono B2.out.size)⟩ | exact⟨fun h=>absurd h.1 HE.out,B2.out.trans (B3.out.mono B2.out.size)⟩ | skip
def SmL (k:Int) (sizes:List Nat) (fs gs:List FunM):Prop:=fs.length=gs.length∧∀ (i:Nat) f g,fs[i]? = some f→gs[i]? = some g→SmF k sizes f g
theorem fun_lims {X:ByteArray}{k:Int}{sizes:List Nat}{fs:List FunM}(hr:RightF X k sizes fs) {f:FunM}(hf:f∈fs):f.scope.length≤6∧(∀ n∈pickN sizes f.scope,1≤n∧n≤32)∧prodL (pickN sizes f.scope)≤4096:=by
 have hff:=hr.funs f hf;have h32:=pick_ok hr.szs hff.1.below;have h4:=cnt_prod (fun x hx=>(h32 x hx).1) (Nat.le_refl 1) hff.2.2;rw [Nat.one_mul] at h4;exact⟨hff.2.1,h32,h4⟩
set_option maxRecDepth 100000 in
set_option maxHeartbeats 1000000 in
theorem pequalfunc_ok (fb cs cf fb' cs' cf':Nat) (X X' Y Y':ByteArray) (k:Int) (sizes:List Nat) (fs gs:List FunM) (As Af As' Af':Option Addr) (w:World) (H:FileR w fb X k sizes fs As Af cs cf) (H':FileR w fb' X' k sizes gs As' Af' cs' cf') (hr:RightF Y k sizes fs) (hr':RightF Y' k sizes gs) :
  Calls Tryz.prog 68 #[.slice Af fs.length cf,.slice Af' gs.length cf',.func (.func 69) #[] #[]] w fun e w'=>∃ b:Bool,e = .returned (.bool b)∧(b=true↔SmL k sizes fs gs)∧Below w.heap.size w w':=by
 have HR:=hid H;have HR':=hid H';have HF:=hid hr;have HF':=hid hr';have hn:=hr.nf;have hn':=hr'.nf;obtain⟨n,en⟩:∃ n,fs.length=n:=⟨_,rfl⟩
 obtain⟨m,em⟩:∃ m,gs.length=m:=⟨_,rfl⟩
 have EN:=hid en;have EM:=hid em;clear H H' hr hr';rw [en,em];rw [en] at hn;rw [em] at hn';clear en em;go_enter Tryz.func68,Tryz.ntmps68
 by_cases hnm:n=m
 rotate_left
 ·have d1:¬ ((n:Int)=(m:Int)):=by omega
  have NE:=hid hnm;go_wp2_with fail
  go_ret;exact⟨false,rfl,⟨fun h=>absurd h (by decide),fun h=>absurd (by rw [← EN.out,← EM.out];exact h.1) NE.out⟩,Below.refl _ _⟩
 subst hnm;go_wp2_with fail
 go_loopw [17] (fun i wr=>∃ j:Nat,j≤n∧i = .int .i64 j∧Below w.heap.size w wr∧∀ (i:Nat) f g,i < j→fs[i]? = some f→gs[i]? = some g→SmF k sizes f g) (fun i _=>n - (intOf i).toNat)
 case atStart=>exact⟨0,Nat.zero_le _,rfl,Below.refl _ _,fun i f g h=>absurd h (Nat.not_lt_zero _)⟩
 case round =>
  obtain⟨j,hj,rfl,hB,hA⟩:=hrel;have HB:=hid hB;have HA:=hid hA;clear hB hA;by_cases hlt:j < n
  rotate_left
  ·have d1:decide ((j:Int) < (n:Int))=false:=decide_eq_false (by omega)
   obtain rfl:j=n:=by omega
   go_wp2_with fail
   go_ret;exact⟨true,rfl,⟨fun _=>⟨by rw [EN.out,EM.out],fun i f g h1 h2=>HA.out i f g (by have:=(List.getElem?_eq_some_iff.1 h1).1;rw [EN.out] at this;exact this) h1 h2⟩,fun _=>rfl⟩,HB.out⟩
  obtain⟨f,hfj⟩:∃ f,fs[j]? = some f:=⟨_,List.getElem?_eq_getElem (by rw [EN.out];exact hlt)⟩
  obtain⟨g,hgj⟩:∃ g,gs[j]? = some g:=⟨_,List.getElem?_eq_getElem (by rw [EM.out];exact hlt)⟩
  have HRR:=HR.out.below HB.out;have HRR':=HR'.out.below HB.out;obtain⟨gf,sv,tv,rfl,hgf,k0,k1,he⟩:=HRR.funs j f hfj;obtain⟨gf',sv',tv',rfl,hgf',k0',k1',he'⟩:=HRR'.funs j g hgj;obtain⟨As1,cs1,g1,mb1,A1,c1,N1,hsv,-,htv,-⟩:=id he;obtain⟨As2,cs2,g2,mb2,A2,c2,N2,hsv',-,htv',-⟩:=id he';subst hsv htv hsv' htv';obtain⟨l1,l2,l3⟩:=fun_lims HF.out (List.mem_of_getElem? hfj);obtain⟨m1',-,-⟩:=fun_lims HF'.out (List.mem_of_getElem? hgj);have MC:=hid (fun W (hb:Below wr.heap.size wr W)=>psame_ok k sizes f g _ _ _ _ _ _ W (he.below hb) (he'.below hb) l1 l2 l3 m1');have FJ:=hid hfj;have GJ:=hid hgj;have j2:(0:Int)≤(j:Int):=by omega
  have n1:=hid (then_ (new_val wr (.cells #[.slice As1 f.scope.length cs1,.pointer (some ⟨g1,0,none⟩)] 62)) (new_val _ (.cells #[.slice As2 g.scope.length cs2,.pointer (some ⟨g2,0,none⟩)] 62)));have m0:=((new_val wr (.cells #[.slice As1 f.scope.length cs1,.pointer (some ⟨g1,0,none⟩)] 62)).cell (p:=⟨gf',j * 2,none⟩) hgf').trans k0';have m1:=((new_val wr (.cells #[.slice As1 f.scope.length cs1,.pointer (some ⟨g1,0,none⟩)] 62)).cell (p:=⟨gf',j * 2+1,none⟩) hgf').trans k1';clear hfj hgj HRR HRR' he he' hgf hgf' l1 l2 l3 m1';by_cases hS:SmF k sizes f g
  ·have MT:=hid (fun W (hb:Below wr.heap.size wr W)=>(MC.out W hb).mono (fun e w' h=>by
    obtain⟨b,e1,h1,h2⟩:=h;obtain rfl:b=true:=h1.2 hS;exact (And.intro e1 h2:e = .returned (.bool true)∧Below W.heap.size W w')))
   have HS:=hid hS;clear hS MC;go_wp2_with (first | (go_at_call 69;refine (MT.out _ n1.out).mono ?_;rintro e w2 ⟨rfl,hb⟩;replace hb:=hid (then_ HB.out (then_ n1.out hb))) | fail)
   refine⟨⟨j+1,by omega,by simp,hb.out,fun i f' g' hi h1 h2=>?_⟩,by simp [intOf];omega⟩;rcases Nat.lt_or_ge i j with h | h
   ·exact HA.out i f' g' h h1 h2
   obtain rfl:i=j:=by omega
   rw [FJ.out] at h1;rw [GJ.out] at h2;injection h1 with h1;injection h2 with h2;subst h1 h2;exact HS.out
  have MT:=hid (fun W (hb:Below wr.heap.size wr W)=>(MC.out W hb).mono (fun e w' h=>by
   obtain⟨b,e1,h1,h2⟩:=h;obtain rfl:b=false:=by
    cases b with
    | false=>rfl
    | true=>exact absurd (h1.1 rfl) hS
   exact (And.intro e1 h2:e = .returned (.bool false)∧Below W.heap.size W w')))
  have HS:=hid hS;clear hS MC;go_wp2_with (first | (go_at_call 69;refine (MT.out _ n1.out).mono ?_;rintro e w2 ⟨rfl,hb⟩;replace hb:=hid (then_ HB.out (then_ n1.out hb))) | fail)
  go_ret;exact⟨false,rfl,⟨fun h=>absurd h (by decide),fun h=>absurd (h.2 _ _ _ FJ.out GJ.out) HS.out⟩,hb.out⟩
end Go.Proofs.YtmokogkndbinlaaGreatDoor
