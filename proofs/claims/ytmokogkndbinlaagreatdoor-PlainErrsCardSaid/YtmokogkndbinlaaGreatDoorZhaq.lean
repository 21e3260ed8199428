import Derived.Test.YtmokogkndbinlaaGreatDoorZhap
set_option linter.all false
namespace Go.Proofs.YtmokogkndbinlaaGreatDoor
open Go.Lib (hid)
open Go.RowKit
abbrev HoldP (wb:World) (b G n1 c1 n2 c2:Nat) (k o:Int) (A1 A2:Option Addr) (W:World):Prop :=
 W.cell? ⟨b,7,none⟩=some (.slice A1 n1 c1)∧W.cell? ⟨G,0,none⟩=some (.slice A2 n2 c2)∧W.cell? ⟨b,6,none⟩=some (.int .i64 k)∧W.cell? ⟨G,1,none⟩=some (.int .i64 o)∧Below wb.heap.size wb W
theorem holdP {wb W W':World}{b G n1 c1 n2 c2:Nat}{k o:Int}{A1 A2:Option Addr}(H:HoldP wb b G n1 c1 n2 c2 k o A1 A2 W) (hb:Below W.heap.size W W'):HoldP wb b G n1 c1 n2 c2 k o A1 A2 W':=by
 obtain⟨a0,a1,a2,a3,h9⟩:=H;have K:∀ b i v,W.cell? ⟨b,i,none⟩=some v→W'.cell? ⟨b,i,none⟩=some v:=fun b i v h=>(hb.cell (p:=⟨b,i,none⟩) (World.block_lt_of_cell? W _ h)).trans h;exact⟨K _ _ _ a0,K _ _ _ a1,K _ _ _ a2,K _ _ _ a3,h9.trans (hb.mono h9.size)⟩
theorem HoldP.below {wb W:World}{b G n1 c1 n2 c2:Nat}{k o:Int}{A1 A2:Option Addr}(H:HoldP wb b G n1 c1 n2 c2 k o A1 A2 W):Below wb.heap.size wb W:=H.2.2.2.2
def FilePost (w:World) (X:ByteArray) (k:Int) (sizes:List Nat) (fs:List FunM) (As:Option Addr) (cs:Nat) (e:Ending) (w':World):Prop :=
 ∃ fb fv us,e = .returned (.pointer (some ⟨fb,0,none⟩))∧FileAt w' fb w.heap.size X k sizes fs As cs fv us (PF w' fb fv)∧w.heap.size≤fb∧Below w.heap.size w w'
set_option maxRecDepth 100000 in
set_option maxHeartbeats 4000000 in
theorem fileR (b sc cs cf:Nat) (As Af:Option Addr) (l:List UInt8) (v:RdV) (F:FileM) (X:ByteArray) (w:World) (hl:l.length≤1000000) (hR:RdAt w b v) (hF:FileOk l F) (hN:v.name = .string X) (hk:v.top=F.top) (hv:v.sizes = .slice As F.sizes.length cs) (hI:IntsT w b sc As F.sizes)
  (hf:v.funs = .slice Af F.funs.length cf) (hFK:FunsK w b sc Af (F.funs.map (topF F.top))) :
  Calls Tryz.prog 76 #[.pointer (some ⟨b,0,none⟩)] w (FilePost w X F.top F.sizes F.funs As cs):=by
 obtain⟨nm,k,sizes,fs⟩:=F;simp only at hk hv hI hf hFK ⊢;have c5:w.cell? ⟨b,5,none⟩=some (.string X):=hN ▸ hR.cell (i:=5) rfl;have c6:w.cell? ⟨b,6,none⟩=some (.int .i64 k):=hk ▸ hR.cell (i:=6) rfl;have c7:w.cell? ⟨b,7,none⟩=some (.slice As sizes.length cs):=hv ▸ hR.cell (i:=7) rfl;have c8:w.cell? ⟨b,8,none⟩=some (.slice Af fs.length cf):=hf ▸ hR.cell (i:=8) rfl;have HC:=hid (And.intro c6 (And.intro c7 c8));have HB:=hid hR.lt;have HI:=hid hI.ints;have HF:=hid hF;have FK:=hid hFK;have NF:Hid (fs.length≤256):=hid hF.nf;have K1:Hid (1≤k∧k≤2147483648):=hid hF.top;have SZ:Hid (∀ x∈sizes,1≤x∧x≤32):=hid hF.sizes;have SL:Hid (sizes.length≤64):=hid hF.n.2;have FN:Hid (∀ g∈fs,FunOk sizes g∧FunLim sizes g):=hid hF.funs;have LFW:Hid (∀ g∈fs,g.lines.length≤l.length):=hid hF.lfew;have LL:=hid hl;clear hR hF hN hk hv hI hf hFK hl;go_enter Tryz.func76,Tryz.ntmps76
 go_upto_region 1 with fail
 go_still_tail 13,(by kernel_rfl)
 change wpList _ _ _ _ _ w.drew
 have bd:=hid ((Below.refl w.heap.size w).drew);clear c5 c6 c7 c8;generalize w.drew=w0 at bd ⊢;go_upto_region 2 with fail
 have RW:=hid (heap_alloc_new w0 (.cells #[.string X,.int .i64 k,.slice As sizes.length cs,.slice none 0 0] 54));have BW:=hid (bd.out.trans ((new_val w0 (.cells #[.string X,.int .i64 k,.slice As sizes.length cs,.slice none 0 0] 54)).mono bd.out.size));have FB:=hid bd.out.size;generalize w0.alloc (.cells #[.string X,.int .i64 k,.slice As sizes.length cs,.slice none 0 0] 54)=w1 at RW BW ⊢;generalize w0.heap.size=fb at RW FB ⊢;clear bd;have c8:w1.cell? ⟨b,8,none⟩=some (.slice Af fs.length cf):=(BW.out.cell (p:=⟨b,8,none⟩) HB.out).trans HC.out.2.2;go_upto_block 0 with fail
 clear c8;go_wp2_with fail
 go_loopw [5,6,7,9,29] (fun _ _ _ _ i wr=>∃ (j:Nat) (fv:Value) (us:List (Value × Value)),i = .int .i64 (j:Int)∧j≤fs.length∧FileAt wr fb w.heap.size X k sizes (fs.take j) As cs fv us (PF wr fb fv)∧Below w.heap.size w wr) (fun _ _ _ _ i _=>fs.length - (intOf i).toNat)
 case atStart=>exact⟨0,_,[],rfl,Nat.zero_le _,⟨RW.out,HI.out.below BW.out (Nat.le_refl _),ownFu_nil _ _,⟨rfl,fun i f h=>by simp at h⟩⟩,BW.out⟩
 case round =>
  obtain⟨j,fv,us,rfl,hj,hA,hB⟩:=hrel;obtain⟨Av,cv,rfl⟩:=hA.own.form;have HA:=hid hA;have BR:=hid hB;clear hA hB;clear RW BW;by_cases hlt:j < fs.length
  rotate_left
  ·have d1:decide ((j:Int) < (fs.length:Int))=false:=decide_eq_false (by omega)
   have HJ:=hid (show j=fs.length by omega);clear hj;go_wp2_with fail
   go_ret;refine⟨fb,.slice Av us.length cv,us,rfl,?_,FB.out,BR.out⟩;have:=HA.out;rwa [HJ.out,List.take_length] at this
  have d1:decide ((j:Int) < (fs.length:Int))=true:=decide_eq_true (by omega);obtain⟨f,hfj⟩:∃ f,fs[j]? = some f:=⟨_,List.getElem?_eq_getElem hlt⟩
  have FJ:=hid hfj;obtain h0 | ⟨gf,of,rfl,hg1,-,-,hcc⟩:=FK.out
  ·exfalso
   have:=congrArg List.length h0;simp at this
   rw [this] at hlt;simp at hlt
  obtain⟨sv,lv,k1,k2,k3,⟨⟨Asc,csc,rfl,hcap,hsc⟩,Al,cl,rfl,hln⟩⟩:=hcc j (topF k f) (by rw [List.getElem?_map,hfj];rfl);have HCAP:Hid (f.scope.length≤csc):=hid hcap;clear hcap;have HSC:Hid (IntsT w b sc Asc f.scope):=hid hsc;have HLN:Hid (LinesK w b sc Al (topL k f.lines)):=hid hln;have e0:(topF k f).scope.length=f.scope.length:=rfl;have e1:(topF k f).lines.length=(topL k f.lines).length:=rfl;rw [e0] at k1;rw [e1] at k3;clear e0 e1 hsc hln hcc hfj;have kk0:wr.cell? ⟨gf,of+j * 3,none⟩=some (.slice Asc f.scope.length csc):=(BR.out.cell (p:=⟨gf,of+j * 3,none⟩) hg1).trans k1;have kk1:wr.cell? ⟨gf,of+j * 3+1,none⟩=some (.int .i64 (min f.other k)):=(BR.out.cell (p:=⟨gf,of+j * 3+1,none⟩) hg1).trans k2;have kk2:wr.cell? ⟨gf,of+j * 3+2,none⟩=some (.slice Al (topL k f.lines).length cl):=(BR.out.cell (p:=⟨gf,of+j * 3+2,none⟩) hg1).trans k3;clear k1 k2 k3 hg1;have FO:=hid (FN.out f (List.mem_of_getElem? FJ.out));have LT:=hid hlt;obtain⟨o,ho⟩:∃ o,min f.other k=o:=⟨_,rfl⟩
  rw [ho] at kk1;have HO:=hid ho;clear ho;obtain⟨ls,hls⟩:∃ ls,topL k f.lines=ls:=⟨_,rfl⟩
  rw [hls] at kk2 HLN;have HLS:=hid hls;clear hls;have j2:(0:Int)≤(j:Int):=by omega
  go_upto_region 5 with (first
   | ((with_reducible show wpList _ _ _ (Oper.mk none (.store 202 _ _) _ _ _ _::_) _ _);refine wpList_store_row rfl 202 (.tmp 5) (.tmp 32) rfl wr.heap.size #[.slice Asc f.scope.length csc,.int .i64 o,.slice Al ls.length cl] rfl rfl 202 #[.slice none 0 0,.int .i64 0,.slice none 0 0] (heap_alloc_new _ _) (by kernel_rfl) rfl (by simp [Value.oneCell']) ?_;rw [World.setRow_alloc_new])
   | fail)
  have n4:=new_val wr (.cells #[.slice Asc f.scope.length csc,.int .i64 o,.slice Al ls.length cl] 202);have G4:=hid (heap_alloc_new wr (.cells #[.slice Asc f.scope.length csc,.int .i64 o,.slice Al ls.length cl] 202));have N4:=hid n4;clear n4 kk0 kk1 kk2;obtain⟨w4,hw4⟩:∃ w4,wr.alloc (.cells #[.slice Asc f.scope.length csc,.int .i64 o,.slice Al ls.length cl] 202)=w4:=⟨_,rfl⟩
  rw [hw4] at G4 N4 ⊢;clear hw4;obtain⟨G,hG⟩:∃ G,wr.heap.size=G:=⟨_,rfl⟩
  have HG:=hid hG;rw [hG] at G4 ⊢;clear hG;have B4:=hid (BR.out.trans (N4.out.mono BR.out.size));have HP:Hid (HoldP w4 b G sizes.length cs f.scope.length csc k o As Asc w4):=hid ⟨(B4.out.cell (p:=⟨b,7,none⟩) HB.out).trans HC.out.2.1,by rw [cell_of_row _ _ _ _ _ _ G4.out];rfl,(B4.out.cell (p:=⟨b,6,none⟩) HB.out).trans HC.out.1,by rw [cell_of_row _ _ _ _ _ _ G4.out];rfl,Below.refl _ _⟩;have PI:=hid (fun W (hb:Below w.heap.size w W)=>pickedI cs csc As Asc sizes f.scope W (by have:=SL.out;omega) (by have:=FO.out.2.1;omega) FO.out.1.below (HI.out.below hb (Nat.le_refl _)) (HSC.out.ints.below hb (Nat.le_refl _)));obtain⟨l1,hl1⟩:∃ l1,pickN sizes f.scope=l1:=⟨_,rfl⟩
  have HL1:=hid hl1;have L6:Hid (l1.length≤6):=hid (by rw [← hl1];simp [pickN];exact FO.out.2.1);have L32:Hid (∀ n∈l1,1≤n∧n≤32):=hid (by
   rw [← hl1];intro n hn;obtain⟨i,hi,rfl⟩:=List.mem_map.1 hn;have hlt:=FO.out.1.below i hi;exact SZ.out _ (nth_mem (l:=sizes) hlt))
  have KO:Hid (InK o k):=hid (by have h1:=K1.out;have h2:=FO.out.1.other;have h3:=HO.out;unfold InK;omega);rw [hl1] at PI;clear hl1;have NN:=hid (fun W A c (h:Ints W A l1)=>tpnew_fresh A l1.length c l1 k o W rfl L6.out h L32.out KO.out);go_region_held3 (fun W=>HoldP w4 b G sizes.length cs f.scope.length csc k o As Asc W) (first | exact holdP HP.out ((Below.refl _ _).drew) | exact holdP (by assumption) (by assumption))
   ((first | (go_at_call 88;with_reducible refine (PI.out _ (B4.out.trans ((HoldP.below (by assumption)).mono B4.out.size))).mono ?_;rintro e w' ⟨⟨A9,c9,rfl,hI9⟩,hb⟩;have HI9:=hid hI9;clear hI9) | (go_at_call 116;have HS5:=hid (HoldP.below (by assumption)).size;refine (NN.out _ _ _ HI9.out).mono ?_;rintro e w5 ⟨⟨g,mb,A5,c5,rfl,hT,hg5,hm5,ha5⟩,hb⟩;have HT5:=hid hT;have HX5:=hid (And.intro hg5 (And.intro hm5 ha5));have HB5:=hid hb;clear hT hg5 hm5 ha5)))
  have BS5:=hid (HoldP.below (by assumption));have cc5:w5.cell? ⟨G,2,none⟩=some (.slice Al ls.length cl):=by
   rw [(BS5.out.cell (p:=⟨G,2,none⟩) (Array.getElem?_eq_some_iff.1 G4.out).1),cell_of_row _ _ _ _ _ _ G4.out];rfl
  have G5:=hid ((BS5.out.block G (Array.getElem?_eq_some_iff.1 G4.out).1).trans G4.out);have B5:Hid (Below wr.heap.size wr w5):=hid (N4.out.trans (BS5.out.mono N4.out.size));have HZ:Hid (wr.heap.size < w4.heap.size):=hid (by rw [HG.out];exact (Array.getElem?_eq_some_iff.1 G4.out).1);have X5:Hid (G < g∧G < mb∧g < w5.heap.size∧mb < w5.heap.size∧∀ a:Addr,A5=some a→G < a.block∧a.block < w5.heap.size):=hid (by
   obtain⟨h1,h2,h3⟩:=HX5.out;have h4:=HZ.out;have h5:=HG.out;have h7:=HS5.out;have h6:=(HoldP.below (by assumption):Below w4.heap.size w4 _).size;refine⟨by omega,by omega,(Array.getElem?_eq_some_iff.1 HT5.out.row).1,HT5.out.lt,fun a e=>⟨by have:=(h3 a e).1;omega,(h3 a e).2⟩⟩)
  have RW5:Hid (w5.heap[fb]? = some (.cells #[.string X,.int .i64 k,.slice As sizes.length cs,.slice Av us.length cv] 54 (0,0))):=hid ((B5.out.block fb (Array.getElem?_eq_some_iff.1 HA.out.row).1).trans HA.out.row);clear HX5 HS5 HB5 BS5 N4 B4 HP PI NN G4 HZ;go_upto_block 2 with fail
  clear cc5;obtain⟨wq,ewq⟩:∃ W,W=wr:=⟨wr,rfl⟩
  subst ewq;go_wp2_with fail
  go_loopw [9,53] (fun _ i wi=>∃ q:Nat,i = .int .i64 (q:Int)∧q≤ls.length∧TpAt wi g mb A5 c5 q l1 k o (putF o (ls.take q))∧Below wq.heap.size wq wi∧wi.heap[G]? = some (.cells #[.slice Asc f.scope.length csc,.int .i64 o,.slice Al ls.length cl] 202 (0,0))∧w5.heap.size≤wi.heap.size) (fun _ i _=>ls.length - (intOf i).toNat)
  case atStart=>exact⟨0,rfl,Nat.zero_le _,HT5.out,B5.out,G5.out,Nat.le_refl _⟩
  case round =>
   clear HT5 RW5 B5 G5;obtain⟨q,rfl,hq,hT,hB,hG,hws⟩:=hrel;have WS:=hid hws;clear hws;have HT:=hid hT;have HBq:=hid hB;have HGq:=hid hG;clear hT hB hG;by_cases hql:q < ls.length
   ·have d2:decide ((q:Int) < (ls.length:Int))=true:=decide_eq_true (by omega)
    obtain⟨x,hx⟩:∃ x,ls[q]? = some x:=⟨_,List.getElem?_eq_getElem hql⟩
    have XQ:=hid hx;have HLW:=hid (BR.out.trans (HBq.out.mono BR.out.size));obtain h0 | ⟨gl,ol,cur,fr,rfl,hgl,-,-,hcc⟩:=HLN.out
    ·exfalso
     rw [h0] at hql;simp at hql
    obtain⟨m1,At,ct,m2,m3⟩:=hcc q x hx;have hgl2:gl < w.heap.size:=(Array.getElem?_eq_some_iff.1 hgl).1;have e0:wr.cell? ⟨gl,ol+q * 2,none⟩=some (.slice At x.1.length ct):=(HLW.out.cell (p:=⟨gl,ol+q * 2,none⟩) hgl2).trans m2;have e1:wr.cell? ⟨gl,ol+q * 2+1,none⟩=some (.int .i64 x.2):=(HLW.out.cell (p:=⟨gl,ol+q * 2+1,none⟩) hgl2).trans m1;have IX:=hid m3.ints;have QX:Hid (InL l1 x.1∧InK x.2 k):=hid (by
     have hm:x∈topL k f.lines:=by rw [HLS.out];exact List.mem_of_getElem? hx
     obtain⟨y,hy,rfl⟩:=List.mem_map.1 hm;have h1:=FO.out.1.lines.len y hy;have h2:=FO.out.1.lines.val y hy;have h3:=FO.out.1.lines.cost y hy;have h4:=K1.out;rw [HL1.out] at h1 h2;refine⟨inL_iff.2 ⟨h1,h2⟩,?_⟩;unfold InK;simp only;omega)
    have QL:=hid hql;have QN:Hid (q≤1000000):=hid (by
     have h1:=LFW.out f (List.mem_of_getElem? FJ.out);have h2:f.lines.length=ls.length:=by rw [← HLS.out];simp [topL]
     have h3:=LL.out;omega)
    clear hcc hgl m1 m2 m3 hx hgl2;have q2:(0:Int)≤(q:Int):=by omega
    have q3:(q:Int)≤1000000:=by have:=QN.out;omega
    obtain⟨cost,hcost⟩:∃ cost,x.2=cost:=⟨_,rfl⟩
    rw [hcost] at e1;have HCO:=hid hcost;clear hcost;go_upto_region 9 with (first
     | ((with_reducible show wpList _ _ _ (Oper.mk none (.store 185 _ _) _ _ _ _::_) _ _);refine wpList_store_row rfl 185 (.tmp 9) (.tmp 56) rfl wr.heap.size #[.slice At x.1.length ct,.int .i64 cost] rfl rfl 185 #[.slice none 0 0,.int .i64 0] (heap_alloc_new _ _) (by kernel_rfl) rfl (by simp [Value.oneCell']) ?_;rw [World.setRow_alloc_new])
     | fail)
    have na:=new_val wr (.cells #[.slice At x.1.length ct,.int .i64 cost] 185);have LX:=hid (heap_alloc_new wr (.cells #[.slice At x.1.length ct,.int .i64 cost] 185));have T9:=hid (HT.out.below na);have N9:=hid na.size;have B9:=hid (HBq.out.trans (na.mono HBq.out.size));have G9:=hid ((na.block G (Array.getElem?_eq_some_iff.1 HGq.out).1).trans HGq.out);clear e0 e1 na HT HBq HGq;generalize wr.alloc (.cells #[.slice At x.1.length ct,.int .i64 cost] 185)=w9 at LX T9 B9 G9 N9 ⊢;generalize wr.heap.size=lb at LX ⊢;have e0:w9.cell? ⟨lb,0,none⟩=some (.slice At x.1.length ct):=by rw [cell_of_row _ _ _ _ _ _ LX.out];rfl
    have e1:w9.cell? ⟨lb,1,none⟩=some (.int .i64 cost):=by rw [cell_of_row _ _ _ _ _ _ LX.out];rfl
    have PU:=hid (tpput_ok g mb q c5 x.1.length ct A5 At l1 x.1 k o cost (putF o (ls.take q)) w9 T9.out rfl L6.out (fun n hn=>(L32.out n hn).2) (IX.out.below (BR.out.trans (B9.out.mono BR.out.size)) (Nat.le_refl _)) QX.out.1 (HCO.out ▸ QX.out.2) QN.out);go_wp2_with (first | (go_at_call 120;refine PU.out.mono ?_;rintro e w10 ⟨rfl,hT10,hg10⟩;replace hT10:=hid hT10;replace hg10:=hid hg10) | fail)
    refine⟨⟨q+1,by simp,by have:=QL.out;omega,?_,?_,?_,?_⟩,by simp [intOf];have:=QL.out;omega⟩
    ·have e:ls.take (q+1)=ls.take q++[x]:=by
      have h:=QL.out;rw [List.take_succ_eq_append_getElem h];congr 2
      exact (List.getElem?_eq_some_iff.1 XQ.out).2
     rw [e,putF_snoc,HCO.out];exact hT10.out
    ·exact B9.out.grown hg10.out B9.out.size (fun z hz=>by injection hz with hz;have:=X5.out.2.1;have:=HG.out;omega)
    ·exact (hg10.out.block G (Array.getElem?_eq_some_iff.1 G9.out).1 (fun e=>by injection e with e;have:=X5.out.2.1;omega)).trans G9.out
    exact Nat.le_trans WS.out (Nat.le_trans N9.out hg10.out.size)
   have d2:decide ((q:Int) < (ls.length:Int))=false:=decide_eq_false (by omega);have HQ:=hid (show q=ls.length by omega);have ET:Hid (putF o (ls.take q)=funF k f):=hid (by rw [HQ.out,List.take_length];unfold funF;rw [HO.out,HLS.out]);have HQ2:Hid (q=f.lines.length):=hid (by rw [HQ.out,← HLS.out];simp [topL]);go_upto_region 11 with fail
   clear hq hql d2;have bd:=(Below.refl wr.heap.size wr).drew;have TD:=hid (HT.out.below bd);have BD:Hid (Below wq.heap.size wq wr.drew):=hid (HBq.out.trans (bd.mono HBq.out.size));have GD:=hid ((bd.block G (Array.getElem?_eq_some_iff.1 HGq.out).1).trans HGq.out);refine wp_region_noPanic ?_;refine wp_region_held_drew (S:=fun W=>W.cell? ⟨G,0,none⟩=some (.slice Asc f.scope.length csc)) (by kernel_rfl) (by rw [cell_of_row _ _ _ _ _ _ GD.out];rfl) (fun hHeld=>?_);have WSD:Hid (w5.heap.size≤wr.drew.heap.size):=hid WS.out;generalize wr.drew=wd at hHeld TD BD GD WSD ⊢;clear bd HT HBq HGq;have BWd:Hid (Below w.heap.size w wd):=hid (BR.out.trans (BD.out.mono BR.out.size));have RWd:Hid (wd.heap[fb]? = some (.cells #[.string X,.int .i64 k,.slice As sizes.length cs,.slice Av us.length cv] 54 (0,0))):=hid ((BD.out.block fb (Array.getElem?_eq_some_iff.1 HA.out.row).1).trans HA.out.row);have OSd:Hid (OwnFu wd w.heap.size (.slice Av us.length cv) us):=hid (HA.out.own.keepB fun g _ h1 _=>BD.out.block g h1);have UL:Hid (us.length≤1000000):=hid (by have h1:=HA.out.funs.1;have h2:=NF.out;rw [List.length_take] at h1;omega);have FBR:Hid (fb < wq.heap.size):=hid (Array.getElem?_eq_some_iff.1 HA.out.row).1;have FBO:Hid ((Value.slice Av us.length cv).ownBlock≠some fb):=hid (fun e=>by
    obtain⟨_,_,cur,hc⟩:=HA.out.own.obj _ e;rw [HA.out.row] at hc;injection hc with hc;injection hc with _ h4;exact absurd h4 (by decide))
   have GBO:Hid ((Value.slice Av us.length cv).ownBlock≠some G):=hid (fun e=>by have:=(HA.out.own.obj _ e).2.1;have:=HG.out;omega);have FBG:Hid (fb≠G):=hid (by have:=FBR.out;have:=HG.out;omega);have EL:Hid (FunE wd k sizes f (PN wd w.heap.size wq.heap.size) (.slice Asc f.scope.length csc) (.pointer (some ⟨g,0,none⟩))):=hid (by
    obtain⟨x1,x2,x3,x4,x5⟩:=X5.out;have hg:=HG.out;refine⟨Asc,csc,g,mb,A5,c5,q,rfl,HCAP.out,rfl,HSC.out.ints.below BWd.out (Nat.le_refl _),?_,by rw [HQ2.out];exact Nat.le_refl _,⟨(Array.getElem?_eq_some_iff.1 TD.out.row).1,.inl (by omega)⟩,⟨TD.out.lt,.inl (by omega)⟩,fun a e=>⟨?_,.inl (by have:=(x5 a e).1;omega)⟩,fun hne a e=>?_⟩
    ·rw [HL1.out,HO.out]
     rw [← ET.out];exact TD.out
    ·have:=(x5 a e).2
     have:=WSD.out;omega
    ·rcases HSC.out with h | ⟨gg,oo,cur,fr,e',hgg,_⟩
     ·exact absurd h hne
     ·rw [e] at e'
      injection e' with e';subst e';have hlt:=(Array.getElem?_eq_some_iff.1 hgg).1;exact⟨Nat.lt_of_lt_of_le hlt BWd.out.size,.inr hlt⟩)
   refine wt 0 ?r901;refine wt 1 ?r902;refine wt 2 ?r903;refine wt 3 ?r904;refine wt 5 ?r905;refine wt 6 ?r906;refine wt 7 ?r907;refine wt 8 ?r908;refine wpAnyH_ready (rs:=[4,9]) (by kernel_rfl) (by simp) ?_;refine AllReadyH.cons rfl (fun K hK=>?_) ?_
   ·have ac:wd.cell? ⟨fb,3,none⟩=some (.slice Av us.length cv):=by rw [cell_of_row _ _ _ _ _ _ RWd.out];rfl
    go_simp;clear ac;refine hK.out _ _ (hHeld) (fun hHeld'=>?_);replace hHeld:=hHeld';clear hHeld';clear hK K;try simp only [Act.put,pa,pb,pc,pd,pe,pf]
    refine wr1 9 (fun K hK=>?_);go_simp;have na:=new_val wd (.cells #[.slice Asc f.scope.length csc,.pointer (some ⟨g,0,none⟩)] 62);have NA:=hid na;have NW:=hid (heap_alloc_new wd (.cells #[.slice Asc f.scope.length csc,.pointer (some ⟨g,0,none⟩)] 62));have R9:Hid ((wd.alloc (.cells #[.slice Asc f.scope.length csc,.pointer (some ⟨g,0,none⟩)] 62)).heap[fb]? = some (.cells #[.string X,.int .i64 k,.slice As sizes.length cs,.slice Av us.length cv] 54 (0,0))):=hid ((na.block fb (Array.getElem?_eq_some_iff.1 RWd.out).1).trans RWd.out);refine hK.out _ _ ((na.cell (p:=⟨G,0,none⟩) (World.block_lt_of_cell? wd _ hHeld)).trans hHeld) (fun hHeld'=>?_);replace hHeld:=hHeld';clear hHeld';clear na;generalize wd.alloc (.cells #[.slice Asc f.scope.length csc,.pointer (some ⟨g,0,none⟩)] 62)=w9 at hHeld NA NW R9 ⊢;have OW:=hid (OSd.out.keepB (fun g _ h1 _=>NA.out.block g h1));generalize wd.heap.size=gl at NW ⊢;clear hK K;try simp only [Act.put,pa,pb,pc,pd,pe,pf]
    refine wr1 10 (fun K hK=>?_);refine push_fu_step rfl (.tmp 68) (.tmp 73) rfl w9 w.heap.size gl (.slice Av us.length cv) us Asc f.scope.length csc (some ⟨g,0,none⟩) rfl (by rfl) OW.out NW.out (by have:=NA.out.size;have:=BWd.out.size;omega) UL.out ?_;intro v10 w10 hO hg hat;obtain⟨A10,n10,c10,rfl⟩:∃ A n c,v10 = .slice A n c:=by obtain⟨A,c,e⟩:=hO.form;exact⟨A,_,c,e⟩
    have OX:=hid hO;have GX:=hid hg;have AT:=hid hat;have R10:Hid (w10.heap[fb]? = some (.cells #[.string X,.int .i64 k,.slice As sizes.length cs,.slice Av us.length cv] 54 (0,0))):=hid ((hg.block fb (Array.getElem?_eq_some_iff.1 R9.out).1 (fun e=>FBO.out e.symm)).trans R9.out);refine hK.out _ _ ((World.cell?_of_block (a:=⟨G,0,none⟩) (hg.block G (World.block_lt_of_cell? w9 _ hHeld) (fun e=>GBO.out e.symm))).trans hHeld) (fun hHeld'=>?_);replace hHeld:=hHeld';clear hHeld';clear hO hg hat;clear hK K;try simp only [Act.put,pa,pb,pc,pd,pe,pf]
    refine wt 11 ?r909;refine wt 12 ?r910;refine wr1 13 (fun K hK=>?_);have ac:w10.cell? ⟨fb,3,none⟩=some (.slice Av us.length cv):=by rw [cell_of_row _ _ _ _ _ _ R10.out];rfl
    have af:w10.frozen? ⟨fb,3,none⟩=false:=frozen_of_row _ _ _ _ _ R10.out;go_simp;clear ac af;refine hK.out _ _ ((World.cell?_of_block (a:=⟨G,0,none⟩) ((grown_put w10 fb 3 (.slice A10 n10 c10)).block G (World.block_lt_of_cell? w10 _ hHeld) (fun e=>FBG.out (Option.some.inj e).symm))).trans hHeld) (fun hHeld'=>?_);replace hHeld:=hHeld';clear hHeld';clear hK K;try simp only [Act.put,pa,pb,pc,pd,pe,pf]
    refine wpAnyH_done (by kernel_rfl) ?_ _;refine NoPanic.normal ?_;clear hHeld;have ND:=hid (file_next HA.out FJ.out HI.out BR.out FB.out BD.out EL.out NA.out OX.out GX.out AT.out R10.out);generalize w10.setCell ⟨fb,3,none⟩ (.slice A10 n10 c10)=wn at ND ⊢;clear GX AT OX R10 NA;have j3:(j:Int)≤256:=by have:=NF.out;have:=LT.out;omega
    go_wp2_with fail
    exact⟨⟨j+1,_,_,by simp,by have:=LT.out;omega,ND.out.1,ND.out.2⟩,by simp [intOf];have:=LT.out;omega⟩
   refine AllReadyH.cons rfl (fun K hK=>?_) AllReadyH.nil;go_simp;have na:=new_val wd (.cells #[.slice Asc f.scope.length csc,.pointer (some ⟨g,0,none⟩)] 62);have NA:=hid na;have NW:=hid (heap_alloc_new wd (.cells #[.slice Asc f.scope.length csc,.pointer (some ⟨g,0,none⟩)] 62));have R9:Hid ((wd.alloc (.cells #[.slice Asc f.scope.length csc,.pointer (some ⟨g,0,none⟩)] 62)).heap[fb]? = some (.cells #[.string X,.int .i64 k,.slice As sizes.length cs,.slice Av us.length cv] 54 (0,0))):=hid ((na.block fb (Array.getElem?_eq_some_iff.1 RWd.out).1).trans RWd.out);refine hK.out _ _ ((na.cell (p:=⟨G,0,none⟩) (World.block_lt_of_cell? wd _ hHeld)).trans hHeld) (fun hHeld'=>?_);replace hHeld:=hHeld';clear hHeld';clear na;generalize wd.alloc (.cells #[.slice Asc f.scope.length csc,.pointer (some ⟨g,0,none⟩)] 62)=w9 at hHeld NA NW R9 ⊢;have OW:=hid (OSd.out.keepB (fun g _ h1 _=>NA.out.block g h1));generalize wd.heap.size=gl at NW ⊢;clear hK K;try simp only [Act.put,pa,pb,pc,pd,pe,pf]
   refine wr1 4 (fun K hK=>?_);have ac:w9.cell? ⟨fb,3,none⟩=some (.slice Av us.length cv):=by rw [cell_of_row _ _ _ _ _ _ R9.out];rfl
   go_simp;clear ac;refine hK.out _ _ (hHeld) (fun hHeld'=>?_);replace hHeld:=hHeld';clear hHeld';clear hK K;try simp only [Act.put,pa,pb,pc,pd,pe,pf]
   refine wr1 10 (fun K hK=>?_);refine push_fu_step rfl (.tmp 68) (.tmp 73) rfl w9 w.heap.size gl (.slice Av us.length cv) us Asc f.scope.length csc (some ⟨g,0,none⟩) rfl (by rfl) OW.out NW.out (by have:=NA.out.size;have:=BWd.out.size;omega) UL.out ?_;intro v10 w10 hO hg hat;obtain⟨A10,n10,c10,rfl⟩:∃ A n c,v10 = .slice A n c:=by obtain⟨A,c,e⟩:=hO.form;exact⟨A,_,c,e⟩
   have OX:=hid hO;have GX:=hid hg;have AT:=hid hat;have R10:Hid (w10.heap[fb]? = some (.cells #[.string X,.int .i64 k,.slice As sizes.length cs,.slice Av us.length cv] 54 (0,0))):=hid ((hg.block fb (Array.getElem?_eq_some_iff.1 R9.out).1 (fun e=>FBO.out e.symm)).trans R9.out);refine hK.out _ _ ((World.cell?_of_block (a:=⟨G,0,none⟩) (hg.block G (World.block_lt_of_cell? w9 _ hHeld) (fun e=>GBO.out e.symm))).trans hHeld) (fun hHeld'=>?_);replace hHeld:=hHeld';clear hHeld';clear hO hg hat;clear hK K;try simp only [Act.put,pa,pb,pc,pd,pe,pf]
   refine wt 11 ?r911;refine wt 12 ?r912;refine wr1 13 (fun K hK=>?_);have ac:w10.cell? ⟨fb,3,none⟩=some (.slice Av us.length cv):=by rw [cell_of_row _ _ _ _ _ _ R10.out];rfl
   have af:w10.frozen? ⟨fb,3,none⟩=false:=frozen_of_row _ _ _ _ _ R10.out;go_simp;clear ac af;refine hK.out _ _ ((World.cell?_of_block (a:=⟨G,0,none⟩) ((grown_put w10 fb 3 (.slice A10 n10 c10)).block G (World.block_lt_of_cell? w10 _ hHeld) (fun e=>FBG.out (Option.some.inj e).symm))).trans hHeld) (fun hHeld'=>?_);replace hHeld:=hHeld';clear hHeld';clear hK K;try simp only [Act.put,pa,pb,pc,pd,pe,pf]
   refine wpAnyH_done (by kernel_rfl) ?_ _;refine NoPanic.normal ?_;clear hHeld;have ND:=hid (file_next HA.out FJ.out HI.out BR.out FB.out BD.out EL.out NA.out OX.out GX.out AT.out R10.out);generalize w10.setCell ⟨fb,3,none⟩ (.slice A10 n10 c10)=wn at ND ⊢;clear GX AT OX R10 NA;have j3:(j:Int)≤256:=by have:=NF.out;have:=LT.out;omega
   go_wp2_with fail
   exact⟨⟨j+1,_,_,by simp,by have:=LT.out;omega,ND.out.1,ND.out.2⟩,by simp [intOf];have:=LT.out;omega⟩
end Go.Proofs.YtmokogkndbinlaaGreatDoor
namespace Go.Proofs.YtmokogkndbinlaaGreatDoor
open Go.RowKit
def ReadRes (s:ByteArray) (w:World) (r:RdR FileM) (e:Ending) (w':World):Prop :=
 match r with
 | .bad n p=>e = .returned (.tuple #[.pointer none,.int .i64 (p:Int),.int .i64 (n:Int)])
 | .ok F st=>match st.big with
  | some p=>e = .returned (.tuple #[.pointer none,.int .i64 (p:Int),.int .i64 5])
  | none=>∃ fb fv us As cs base,w.heap.size≤base∧e = .returned (.tuple #[.pointer (some ⟨fb,0,none⟩),.int .i64 (s.size:Int),.int .i64 0])∧FileOk s.data.toList F ∧
    FileAt w' fb base (s.extract F.name.1 F.name.2) F.top F.sizes F.funs As cs fv us (PF w' fb fv)∧base≤fb
def ReadPost (s:ByteArray) (w:World) (e:Ending) (w':World):Prop:=ReadRes s w (fileM s.data.toList (-4611686018427387904)) e w'∧Below w.heap.size w w'
def rd0 (sc:Nat):RdV:=⟨sc,0,0,0,0,.string ⟨#[]⟩,0,.slice none 0 0,.slice none 0 0,.slice none 0 0,0⟩
theorem rk_below {w W W':World}{p q:Nat}(h:Below w.heap.size w W) (hk:RK W p q W') (hp:w.heap.size≤p) (hq:w.heap.size≤q):Below w.heap.size w W' :=
 ⟨hk.os.trans h.os,hk.tape.trans h.tape,hk.output.trans h.output,Nat.le_trans h.size hk.size,fun k hk'=>(hk.block k (Nat.lt_of_lt_of_le hk' h.size) (by omega) (by omega)).trans (h.block k hk')⟩
theorem tabP_lt {w:World}(h:TabP w):∀ g,Tryz.prog.globalNamed "internal/strconv.uint64pow10" = some g→g < w.heap.size:=by
 intro g hg;unfold TabP Lib.TabIs World.var? at h;simp only [hg,Option.bind_some] at h;rcases Nat.lt_or_ge g w.heap.size with h' | h'
 ·exact h'
 simp [Array.getElem?_eq_none h'] at h
set_option maxRecDepth 100000 in
set_option maxHeartbeats 4000000 in
theorem readR (s:ByteArray) (A:Option Addr) (c:Nat) (w:World) (hs:s.size≤65536) (h:BS w A s) (hG:GlobR w) (hT:TabP w) :
  Calls Tryz.prog 22 #[.slice A s.size c] w (ReadPost s w):=by
 have d0:decide ((65536:Int) < (s.size:Int))=false:=decide_eq_false (by omega);have SN:=hid (snew_any (.slice A s.size c) s w (conv_bytes h));have HG:=hid hG;have HT:=hid hT;have HS:=hid hs;clear h hG hT;go_enter Tryz.func22,Tryz.ntmps22
 go_upto_region 3 with fail
 clear d0 hs;go_upto_region 4 with (first
  | (go_at_call 73;refine SN.out.mono ?_;rintro e w1 ⟨rfl,hw1⟩;have HW1:=hid hw1;clear hw1)
  | ((with_reducible show wpList _ _ _ (Oper.mk none (.store 125 _ _) _ _ _ _::_) _ _);refine wpList_store_row rfl 125 (.tmp 5) (.tmp 11) rfl w1.heap.size (rdC (rd0 w.heap.size)) rfl rfl 125 (rdC { rd0 0 with sc:=0 }) (heap_alloc_new _ _) (by kernel_rfl) rfl (by simp [rdC,rd0,Value.oneCell']) ?_;rw [World.setRow_alloc_new])
  | fail)
 have N1:=new_val w (.cells #[.string s,.int .i64 0] 194);have S1:ScanAt (w.alloc (.cells #[.string s,.int .i64 0] 194)) w.heap.size s 0:=ScanAt.new w s;have Z1:(w.alloc (.cells #[.string s,.int .i64 0] 194)).heap.size=w.heap.size+1:=World.size_alloc _ _;rw [← HW1.out] at N1 S1 Z1;have n2:=new_val w1 (.cells (rdC (rd0 w.heap.size)) 125);have A2:RdAt (w1.alloc (.cells (rdC (rd0 w.heap.size)) 125)) w1.heap.size (rd0 w.heap.size):=heap_alloc_new w1 _;have B2:Below w.heap.size w (w1.alloc (.cells (rdC (rd0 w.heap.size)) 125)):=then_ N1 n2;have ER:=HG.out.blk;have O2:=hid (show RdOk (w1.alloc (.cells (rdC (rd0 w.heap.size)) 125)) w1.heap.size w.heap.size s ⟨0,none⟩ (rd0 w.heap.size) from
  ⟨A2,rfl,S1.below n2 (Nat.le_refl _),by omega,Nat.zero_le _,by have:=HS.out;omega,rfl,rfl,HG.out.below B2,by omega,by omega⟩)
 have TK:=hid (show TabK (w1.alloc (.cells (rdC (rd0 w.heap.size)) 125)) w1.heap.size w.heap.size from
  ⟨tab_below HT.out B2,fun g hg=>by have:=tabP_lt HT.out g hg;omega⟩)
 have BB:=hid B2;have ZZ:Hid (w.heap.size < w1.heap.size∧w1.heap.size < (w1.alloc (.cells (rdC (rd0 w.heap.size)) 125)).heap.size):=hid ⟨by omega,A2.lt⟩;clear N1 S1 Z1 n2 A2 B2 ER SN HW1
 change Code.wp _ _ _ _ (w1.alloc (.cells (rdC (rd0 w.heap.size)) 125))
 generalize w1.alloc (.cells (rdC (rd0 w.heap.size)) 125)=w2 at O2 TK BB ZZ ⊢;generalize w1.heap.size=b at O2 TK ZZ ⊢;obtain⟨sc,hsc⟩:∃ sc,w.heap.size=sc:=⟨_,rfl⟩
 have HSC:=hid hsc;rw [hsc] at O2 TK ZZ ⊢;clear hsc;have RA:=hid (readAllR b sc s (rd0 sc) w2 O2.out rfl rfl rfl rfl TK.out);clear O2 TK;go_upto_region 5 with (first | (go_at_call 74;refine RA.out.mono ?_;rintro e w3 ⟨⟨_,rfl⟩,hk3,v3,hr3⟩;replace hk3:=hid hk3;replace hr3:=hid hr3) | fail)
 have B3:=hid (rk_below BB.out hk3.out (by have:=ZZ.out;have:=HSC.out;omega) (by have:=HSC.out;omega));clear RA;rcases hr3.out with ⟨F,st,vs,As,cs,e1,e2,e3,e4,e5,e6,e7,e8⟩ | ⟨e,p,e1,e2⟩
 ·have E1:=hid e1
  have O3:=hid e2;have D3:=hid (And.intro e3 (And.intro e4 (And.intro e5 (And.intro e6 (And.intro e7 e8)))));have R1:=hid (right_at b 1 0 w3 e2.fault);have R2:=hid (right_at b 3 v3.le w3 (e2.at_.cell (i:=4) rfl));clear e1 e2 e3 e4 e5 e6 e7 e8 hr3;cases hbig:st.big with
  | some q =>
   have hb:=O3.out.big;rw [hbig] at hb;have hle:(v3.le == 0)=false:=by rw [hb.1];rfl
   rw [hle] at R2;have c3:w3.cell? ⟨b,3,none⟩=some (.int .i64 (q:Int)):=hb.2 ▸ O3.out.at_.cell (i:=3) rfl;have c4:w3.cell? ⟨b,4,none⟩=some (.int .i64 5):=hb.1 ▸ O3.out.at_.cell (i:=4) rfl;have HBG:=hid hbig;clear hb hle hbig;go_upto_region 8 with (first | (go_at_call 75;with_reducible refine R1.out.mono ?_;rintro e w' ⟨rfl,rfl⟩) | (go_at_call 75;with_reducible refine R2.out.mono ?_;rintro e w' ⟨rfl,rfl⟩) | fail)
   go_quiet (fail)
   go_wp2_with fail
   go_ret3;refine⟨?_,below_drewN B3.out _⟩;unfold ReadRes;rw [E1.out];simp only [HBG.out];rfl
  | none =>
   have hb:=O3.out.big;rw [hbig] at hb;have hle:(v3.le == 0)=true:=by rw [show v3.le=0 from hb];rfl
   rw [hle] at R2;have FO:=hid (fileM_ok E1.out hbig);have HBG:=hid hbig;have FR:=hid (by
    obtain⟨e3,e4,e5,e6,e7,e8⟩:=D3.out;obtain⟨Af,cf,e9,hFK⟩:=e7.funs (b:=b) (sc:=sc) e8 (by have:=ZZ.out;omega) (by have:=ZZ.out;omega);have e9':v3.funs = .slice Af F.funs.length cf:=by rw [e9];simp
    exact fileR b sc cs cf As Af s.data.toList v3 F (s.extract F.name.1 F.name.2) w3 (by rw [size_list];have:=HS.out;omega) O3.out.at_ FO.out.1 e3 e4 e5 e6 e9' hFK)
   clear hb hle hbig;go_wp2_with (first | (go_at_call 75;with_reducible refine R1.out.mono ?_;rintro e w' ⟨rfl,rfl⟩) | (go_at_call 75;with_reducible refine R2.out.mono ?_;rintro e w' ⟨rfl,rfl⟩) | (go_at_call 76;refine FR.out.mono ?_;rintro e w4 ⟨fb,fv,us,rfl,hfa,hfb,hb4⟩;replace hfa:=hid hfa;replace hfb:=hid hfb;replace hb4:=hid hb4) | fail)
   go_ret3;refine⟨?_,B3.out.trans (hb4.out.mono B3.out.size)⟩;unfold ReadRes;rw [E1.out];simp only [HBG.out];exact⟨fb,fv,us,As,cs,w3.heap.size,B3.out.size,rfl,FO.out.1,hfa.out,hfb.out⟩
 have E1:=hid e1;have R1:=hid (right_at b 1 (e:Int) w3 e2.fault);have d:((e:Int) == 0)=false:=by have:=e2.ne;simpa using this
 rw [d] at R1;have c1:w3.cell? ⟨b,1,none⟩=some (.int .i64 (p:Int)):=e2.fp ▸ e2.at_.cell (i:=1) rfl;have c2:w3.cell? ⟨b,2,none⟩=some (.int .i64 (e:Int)):=e2.fe ▸ e2.at_.cell (i:=2) rfl;clear e1 e2 hr3 d;go_upto_region 6 with (first | (go_at_call 75;refine R1.out.mono ?_;rintro e w' ⟨rfl,rfl⟩) | fail)
 go_quiet (fail)
 go_wp2_with fail
 go_ret3;refine⟨?_,below_drewN B3.out _⟩;unfold ReadRes;rw [E1.out];rfl
end Go.Proofs.YtmokogkndbinlaaGreatDoor
