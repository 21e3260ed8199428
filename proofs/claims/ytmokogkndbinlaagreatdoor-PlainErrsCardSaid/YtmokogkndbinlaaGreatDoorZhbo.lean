import Derived.Test.YtmokogkndbinlaaGreatDoorZhbn
set_option linter.all false
namespace Go.Proofs.YtmokogkndbinlaaGreatDoor
open Go.Lib (hid)
open Go.RowKit
theorem wr_small (q:Nat) (h:q≤4611686018427387903):wrap64 ((q:Int)+1)=(q:Int)+1∧wrap64 (q:Int)=(q:Int)∧IntKind.i64.wrap ((q:Int)+1)=(q:Int)+1∧IntKind.i64.wrap ((q:Int)+1 - 1)=(q:Int)∧IntKind.i64.wrap (q:Int)=(q:Int):=by
 have h2:IntKind.i64.wrap (q:Int)=(q:Int):=IntWalk.i64_in _ (by omega);refine⟨IntWalk.wrap64_in _ (by omega),IntWalk.wrap64_in _ (by omega),IntWalk.i64_in _ (by omega),?_,h2⟩;rw [show (q:Int)+1 - 1=q by omega];exact h2
theorem wr_add (t:Int) (M:Nat) (h:0≤t∧t≤100000) (hM:M≤4611686018427387904):wrap64 (t+(M:Int))=t+(M:Int)∧IntKind.i64.wrap (t+(M:Int))=t+(M:Int) :=
 ⟨IntWalk.wrap64_in _ (by omega),IntWalk.i64_in _ (by omega)⟩
theorem wr_pred (z:Nat) (h:z≤4611686018427387904):wrap64 ((z:Int) - 1)=(z:Int) - 1∧IntKind.i64.wrap ((z:Int) - 1)=(z:Int) - 1 :=
 ⟨IntWalk.wrap64_in _ (by omega),IntWalk.i64_in _ (by omega)⟩
theorem dec_far (S:Int):decide ((16384:Int) < (if 4611686018427387904 < S then 4611686018427387904 else S))=decide ((16384:Int) < S):=by
 split
 ·rw [decide_eq_true (by decide),decide_eq_true (by omega)]
 rfl
def dL (l:List UInt8) (sizes sc:List Nat) (a:AccM) (m:Int × Nat) (s':RdS):RdR (List LineM × Int) :=
 if m.1 < 0 then
  match a.shared[(-m.1).toNat - 1]? with
  | some g=>if pickN sizes g.scope=pickN sizes sc then .ok (g.lines,a.told) s' else .bad 4 m.2
  | none=>.bad 4 m.2
 else (linesM l sizes sc m.1.toNat [] (limS (decide (16384 < a.told+m.1)) m.2 s')).bind fun ls s''=>.ok (ls,a.told+m.1) s''
theorem funLines_eq (l:List UInt8) (sizes sc:List Nat) (a:AccM) (s:RdS):funLines l sizes sc a s=(numM l (-farZ) farZ s).bind (dL l sizes sc a):=rfl
theorem cF3_eq (l:List UInt8) (sizes:List Nat) (a:AccM) (ar:Int × Nat) (sc:List Nat) (o:Int × Nat) (s:RdS):cF3 l sizes a ar sc o s=(numM l (-4611686018427387904) 4611686018427387904 s).bind fun m s'=>(dL l sizes sc a m s').bind (cF4 sizes a ar sc o):=by
 unfold cF3;rw [funLines_eq,RdR.bind_assoc]
theorem cnt_snoc:∀ (l:List Nat) (k n:Nat),cntM (l++[k]) n=min (cntM l n * min k 4097) 4097
 | [],k,n=>rfl
 | x::l,k,n=>cnt_snoc l k _
theorem cnt_le:∀ (l:List Nat) (n:Nat),n≤4097→cntM l n≤4097
 | [],n,h=>h
 | x::l,n,h=>cnt_le l _ (by omega)
set_option maxRecDepth 100000 in
set_option maxHeartbeats 8000000 in
theorem fun7 (b base cs:Nat) (As:Option Addr) (sizes:List Nat) (s:ByteArray) (st:RdS) (v:DrV) (a:AccM) (us:List (Value × Value × Int × Value)) (w:World) (hnv:sizes.length≤100000) (hsm:∀ x∈sizes,x≤4611686018427387904)
  (h:DrOk w b s st v) (ha:AccOk sizes a st) (ht:v.lines=a.told) (hO:OwnFd w base v.shared us) (hU:FdIs w sizes us a.shared) (hS:I6 w As sizes) (hb:b < base) (hbase:base≤w.heap.size) :
  Calls Tryz.prog 114 #[.pointer (some ⟨b,0,none⟩),.slice As sizes.length cs] w (FunPost7 s b base sizes v a (funM s.data.toList sizes a st) w):=by
 have HO:=hid hO;have HU:=hid hU;have HA:=hid ha;have HT:=hid ht;have HS:=hid hS;have HB:=hid (And.intro hb hbase);have HSM:=hid hsm;have HK:=hid h;have HNV:=hid hnv;obtain⟨E,hE⟩:∃ E,funM s.data.toList sizes a st=E:=⟨_,rfl⟩
 rw [hE];have I0:Hid (DrIn w b s v v E (fun st=>(numM s.data.toList (-4611686018427387904) 4611686018427387904 st).bind (cF1 s.data.toList sizes a))):=hid ⟨DrNear.refl v,.inl ⟨st,h,hE ▸ funM_cps _ _ _ _⟩⟩;clear h ha ht hO hU hS hb hbase hsm hE;go_enter Tryz.func114,Tryz.ntmps114
 go_upto_region 2 with fail
 have n1:=new_val w (.cells #[.slice none 0 0,.slice none 0 0,.int .i64 0,.slice none 0 0] 40);have n2:=new_val (w.alloc (.cells #[.slice none 0 0,.slice none 0 0,.int .i64 0,.slice none 0 0] 40)) (.cells #[.slice none 0 0,.slice none 0 0,.int .i64 0,.slice none 0 0] 40);have r1:=heap_alloc_new w (.cells #[.slice none 0 0,.slice none 0 0,.int .i64 0,.slice none 0 0] 40);have r2:=heap_alloc_new (w.alloc (.cells #[.slice none 0 0,.slice none 0 0,.int .i64 0,.slice none 0 0] 40)) (.cells #[.slice none 0 0,.slice none 0 0,.int .i64 0,.slice none 0 0] 40);have z1:(w.alloc (.cells #[.slice none 0 0,.slice none 0 0,.int .i64 0,.slice none 0 0] 40)).heap.size=w.heap.size+1:=World.size_alloc _ _;rw [z1] at r2 n2;have B2:Below w.heap.size w ((w.alloc (.cells #[.slice none 0 0,.slice none 0 0,.int .i64 0,.slice none 0 0] 40)).alloc (.cells #[.slice none 0 0,.slice none 0 0,.int .i64 0,.slice none 0 0] 40)):=n1.trans (n2.mono (by omega));have F2:Hid (FG w ((w.alloc (.cells #[.slice none 0 0,.slice none 0 0,.int .i64 0,.slice none 0 0] 40)).alloc (.cells #[.slice none 0 0,.slice none 0 0,.int .i64 0,.slice none 0 0] 40)) b (w.heap.size+1) w.heap.size (.slice none 0 0) (.slice none 0 0) 0 (.slice none 0 0)) :=
  hid ⟨r2,(n2.block w.heap.size (by omega)).trans r1,Gr.below B2,Nat.le_refl _,Nat.lt_succ_self _,HK.out.at_.lt⟩
 have I2:=hid (I0.out.below B2);clear n1 n2 r1 r2 z1 B2 I0
 change Code.wp _ _ _ _ ((w.alloc (.cells #[.slice none 0 0,.slice none 0 0,.int .i64 0,.slice none 0 0] 40)).alloc (.cells #[.slice none 0 0,.slice none 0 0,.int .i64 0,.slice none 0 0] 40))
 generalize (w.alloc (.cells #[.slice none 0 0,.slice none 0 0,.int .i64 0,.slice none 0 0] 40)).alloc (.cells #[.slice none 0 0,.slice none 0 0,.int .i64 0,.slice none 0 0] 40)=w2 at F2 I2 ⊢;have N2:=hid (num7 I2.out);go_upto_region 3 with (first
  | (go_at_call 113;refine N2.out.mono ?_;rintro e w3 ⟨ar,arP,v3,rfl,hr3,hz3,-,-,hg3,hi3⟩;replace hr3:=hid (And.intro hr3 hz3);clear hz3;replace hg3:=hid hg3;replace hi3:=hid hi3)
  | fail)
 have F3:=hid (F2.out.gr hg3.out);clear N2 I2 F2 hg3;have HAR:Hid (ar.natAbs≤4611686018427387904∧(v3.bad=0∨ar.natAbs=0)):=hid (by
  obtain⟨h1,h2⟩:=hr3.out;refine⟨by rcases h1 with h | h <;> omega,?_⟩;by_cases hb:v3.bad=0
  ·exact .inl hb
  ·exact .inr (by rw [h2 hb];rfl))
 clear hr3;go_upto_if 35 with fail
 go_cut [6,8] from 34 to 37 (fun v6 v8 wc=>Hid (v6 = .int .i64 (ar.natAbs:Int)∧v8 = .bool (decide (ar < 0))∧wc=w3))
 case first =>
  by_cases hn:ar < 0
  ·have d1:decide (ar < 0)=true:=decide_eq_true hn
   have e1:-ar=(ar.natAbs:Int):=by omega
   have e2:IntKind.i64.wrap (-ar)=(ar.natAbs:Int):=by rw [e1];exact IntWalk.i64_in _ (by have:=HAR.out.1;omega)
   go_wp2_with fail
   go_meet
   case rel=>exact hid ⟨by rw [show wrap64 (ar.natAbs:Int)=(ar.natAbs:Int) from IntWalk.wrap64_in _ (by have:=HAR.out.1;omega)],by rw [d1],rfl⟩
  have d1:decide (ar < 0)=false:=decide_eq_false hn;go_wp2_with fail
  go_meet
  case rel=>exact hid ⟨congrArg (Value.int .i64) (by omega),by rw [d1],rfl⟩
 obtain⟨rfl,rfl,hwc⟩:=hcut.out;rw [hwc];clear hcut hwc;obtain⟨N,hN⟩:∃ N,ar.natAbs=N:=⟨_,rfl⟩
 have HN:=hid hN;rw [hN] at HAR ⊢;have S0:Hid (ScD w b (w.heap.size+1) w.heap.size s sizes N v E (cF2 s.data.toList sizes a (ar,arP)) 0 [] (.slice none 0 0) (.slice none 0 0) v3 w3):=hid
  ⟨F3.out,⟨own6_nil _ _,own6_nil _ _,.inl rfl⟩,hN ▸ hi3.out,HAR.out.2,rfl,Nat.zero_le _,List.Pairwise.nil,fun x h=>absurd h (by simp)⟩
 clear hN hi3 F3;obtain⟨R,hR⟩:∃ R,w.heap.size=R:=⟨_,rfl⟩
 obtain⟨G,hG⟩:∃ G,w.heap.size+1=G:=⟨_,rfl⟩
 rw [hG] at S0 ⊢;rw [hR] at S0 ⊢;have HRG:=hid (And.intro hR hG);clear hR hG;have HLE:=hid HAR.out.1;clear HAR;go_wp2_with fail
 go_loopw [9,10,11,13] (fun i _ _ _ wr=>∃ (j:Nat) (acc:List Nat) (sv zv:Value) (v':DrV),i = .int .i64 (j:Int)∧j≤N∧ScD w b G R s sizes N v E (cF2 s.data.toList sizes a (ar,arP)) j acc sv zv v' wr) (fun i _ _ _ _=>N - (intOf i).toNat)
 case atStart=>exact⟨0,[],_,_,v3,rfl,Nat.zero_le _,S0.out⟩
 case round =>
  obtain⟨j,acc,sv,zv,v',rfl,hj,hsc⟩:=hrel;have SC:=hid hsc;clear hsc S0;have c3:wr.cell? ⟨b,3,none⟩=some (.int .i64 v'.bad):=SC.out.rd.at_.cell (i:=3) rfl;by_cases hlt:j < N
  ·
   have hbad:v'.bad=0:=by
    rcases SC.out.ok with h | h
    ·exact h
    omega
   rw [hbad] at c3;have d1:decide ((j:Int) < (N:Int))=true:=decide_eq_true (by omega);have NM:=hid (num7 (SC.out.rd.conv (fun st=>by rw [scopeM_next (by omega),RdR.bind_assoc])));go_upto_region 10 with (first
    | (go_at_call 113;refine NM.out.mono ?_;rintro e w4 ⟨n,p,v4,rfl,hr4,hz4,-,-,hg4,hi4⟩;replace hr4:=hid (And.intro hr4 hz4);clear hz4;replace hg4:=hid hg4;replace hi4:=hid hi4)
    | fail)
   have F4:=hid (SC.out.f.gr hg4.out);have T4:=hid (SC.out.two.keep hg4.out (fun g e=>by injection e with e;subst e;exact⟨_,_,SC.out.rd.at_⟩) (by decide));obtain⟨A1,q1,rfl,hc1,hI1⟩:=T4.out.a.form;obtain⟨A2,q2,rfl,hc2,hI2⟩:=T4.out.b.form;have hpl:(pickN sizes acc).length=acc.length:=by simp [pickN]
   rw [hpl] at T4 F4 SC;have HI1:=hid hI1;have HC1:=hid hc1;clear hI1 hI2 hc1 hc2 hpl;obtain⟨k0,k1,k2,k3⟩:=F4.out.cells;have c4:w4.cell? ⟨b,3,none⟩=some (.int .i64 v4.bad):=hi4.out.at_.cell (i:=3) rfl;have R4:=hid F4.out.r;clear c3;by_cases hb4:v4.bad=0
   ·rw [hb4] at c4
    obtain⟨hn0,hn1⟩:0≤n∧n≤(sizes.length:Int) - 1:=by
     rcases hr4.out.1 with h | h
     ·exact h
     exact absurd hb4 h.2
    obtain⟨y,rfl⟩:=Int.eq_ofNat_of_zero_le hn0;have HY:=hid (show y < sizes.length by omega);have HB4:=hid hb4;clear hn0 hn1 hb4;obtain⟨L,hL⟩:∃ L,acc.length=L:=⟨_,rfl⟩
    rw [hL] at T4 F4 SC k0 k1 HC1;have HLN:=hid hL;have hL9:L≤100000:=by rw [← hL];exact SC.out.few
    have HL9:=hid hL9;clear hL;go_wp2_with fail
    go_loop [13,67] (fun _ i=>∃ q:Nat,i = .int .i64 (q:Int)∧q≤L∧∀ x,x < q→¬ nth acc x=y) (fun _ i=>L - (intOf i).toNat)
    case atStart=>exact⟨0,rfl,Nat.zero_le _,fun x h=>absurd h (Nat.not_lt_zero _)⟩
    case round =>
     obtain⟨q,rfl,hq,hno⟩:=hrel;have HNO:=hid hno;clear hno;by_cases hql:q < L
     ·have d2:decide ((q:Int) < (L:Int))=true:=decide_eq_true (by omega)
      obtain⟨g,o,rfl,cc⟩:=HI1.out.at_ (show q < acc.length by rw [HLN.out];exact hql);by_cases he:nth acc q=y
      ·
       rw [he] at cc;have d3:((y:Int) == (y:Int))=true:=by simp
       have HIN:=hid (show acc.contains y=true by
        have:nth acc q∈acc:=nth_mem (by rw [HLN.out];exact hql);rw [he] at this;simpa using this)
       have BD:=hid (bad7 (e:=4) (p:=p) (by decide) (hi4.out.conv (fun st=>by simp only [Int.toNat_natCast];rw [HIN.out];rfl)));go_upto_region 17 with (first
        | (go_at_call 115;refine BD.out.mono ?_;rintro e w5 ⟨v5,e5,p5,⟨_,rfl⟩,hg5,hn5,hb5,hE5⟩;replace hg5:=hid hg5;replace hn5:=hid hn5;replace hb5:=hid hb5;replace hE5:=hid hE5)
        | fail)
       have F5:=hid (F4.out.gr hg5.out);clear k0 k1 k2 k3 c4 cc;obtain⟨k0,k1,k2,k3⟩:=F5.out.cells;go_wp2_with (first
        | ((with_reducible show wpList _ _ _ (Oper.mk none (.store 40 _ _) _ _ _ _::_) _ _);refine wpList_store_row rfl 40 (.tmp 4) (.tmp 77) rfl R #[.slice (some ⟨g,o,none⟩) L q1,.slice A2 L q2,.int .i64 0,.slice none 0 0] rfl rfl 40 #[.slice none 0 0,.slice none 0 0,.int .i64 0,.slice none 0 0] F5.out.r (by kernel_rfl) rfl (by simp [Value.oneCell']) ?_)
        | fail)
       exact bodyPost_ret (results_fd rfl _ _ R _ _ _ _ rfl (setRow_heap _ R _ _ _ _ F5.out.r)) rfl (fun7_bad F5.out.r (FrD.of F5.out.k) ⟨F5.out.far.1,by have:=F5.out.far;omega⟩ hn5.out hb5.out hE5.out _)
      ·
       have FIN:Hid (∀ x,x < q+1→¬ nth acc x=y):=hid (fun x hx=>by
        rcases Nat.lt_or_ge x q with h | h
        ·exact HNO.out x h
        ·rw [show x=q by omega];exact he)
       generalize nth acc q=z at cc he;have d3:((z:Int) == (y:Int))=false:=by simp;omega
       clear he HNO;have hq5:q≤100000:=by have:=HL9.out;omega
       go_wp2_with fail
       go_round
       case rel=>exact⟨q+1,by go_num,by omega,FIN.out⟩
       case measure=>simp [intOf];omega
     have d2:decide ((q:Int) < (L:Int))=false:=decide_eq_false (by omega);have HNI:=hid (show acc.contains y=false by
      rw [List.contains_eq_mem,decide_eq_false_iff_not];intro hm;obtain⟨i,hi,he⟩:=List.mem_iff_getElem.1 hm;refine HNO.out i (by have:=HLN.out;omega) ?_;simp [nth,List.getD,hi,he])
     have I4:=hid (hi4.out.conv (C':=fun st=>(scopeM s.data.toList sizes.length (N - (j+1)) (acc++[y]) st).bind (cF2 s.data.toList sizes a (ar,arP))) (fun st=>by simp only [Int.toNat_natCast];rw [HNI.out];rfl));clear HNO d2 c4;go_upto_region 19 with fail
     have na:=new_val w4 (.cells #[.int .i64 (y:Int)] 2);have cy:(w4.alloc (.cells #[.int .i64 (y:Int)] 2)).cell? ((⟨w4.heap.size,0,none⟩:Addr).add 0)=some (.int .i64 (y:Int)):=by
      show (w4.alloc _).cell? ⟨w4.heap.size,0,none⟩=_;rw [cell_of_row _ _ _ _ _ _ (heap_alloc_new w4 _)];rfl
     have T5:=hid (T4.out.below na);have F5:=hid (F4.out.below na);have I5:=hid (I4.out.below na);have k05:(w4.alloc (.cells #[.int .i64 (y:Int)] 2)).cell? ⟨G,0,none⟩=some (.slice A1 L q1):=F5.out.cells.1;have BZ:=hid (show w.heap.size≤(w4.alloc (.cells #[.int .i64 (y:Int)] 2)).heap.size from F5.out.k.size);have CY:=hid cy;clear na cy k1 k2 k3;go_upto_region 20 with (first
      | (at_builtin;refine push6 rfl (.tmp 80) (.tmp 82) rfl _ w.heap.size y _ acc ⟨w4.heap.size,0,none⟩ rfl rfl T5.out.a CY.out BZ.out (by rw [HLN.out];have:=HL9.out;omega) ?_;intro v6 w6 h1 h2 h3;obtain⟨A6,q6,rfl⟩:=h1.formN (m:=L+1) (by simp [HLN.out]);have T6:=hid (T5.out.push h1 h2 h3);have F6:=hid (F5.out.own6 T5.out.a h2);have I6:=hid (I5.out.own6 T5.out.a h2);have fz:=F6.out.frozen 0;have k06:=F6.out.cells.1;clear h1 h2 h3)
      | fail)
     have F7:=hid (F6.out.put 0 (.slice A6 (L+1) q6) rfl);have T7:=hid (T6.out.keep (grown_put w6 G 0 (.slice A6 (L+1) q6)) (fun g e=>by injection e with e;subst e;exact⟨_,_,F6.out.g⟩) (by decide));have I7:=hid (I6.out.fun_ (i:=0) (u:=.slice A6 (L+1) q6) F6.out);clear k05 k06 fz
     change Code.wp _ _ _ _ (w6.setCell ⟨G,0,none⟩ (.slice A6 (L+1) q6))
     generalize w6.setCell ⟨G,0,none⟩ (.slice A6 (L+1) q6)=w7 at F7 T7 I7 ⊢;clear T6 F6 I6 T5 F5 I5 BZ CY;obtain⟨gs,os,rfl,cS⟩:=(HS.out.keep (F7.out.keepD HK.out.at_)).at_ HY.out;have k17:=F7.out.cells.2.1;have HZ:=hid (HSM.out (nth sizes y) (nth_mem HY.out));have HPS:=hid (pick_snoc sizes acc y);generalize nth sizes y=z at cS HZ HPS;have hyl:y < sizes.length:=HY.out;have hyl':(y:Int) < (sizes.length:Int):=by omega
     have GSL:=hid (HS.out.lt (by omega));have Fd:=hid (F7.out.below ((Below.refl w7.heap.size w7).drew));have Td:=hid (T7.out.below ((Below.refl w7.heap.size w7).drew));have Id:=hid (I7.out.below ((Below.refl w7.heap.size w7).drew));refine wp_region_noPanic ?_;refine wp_region_held_drew (S:=fun W=>W.cell? ⟨gs,os+y,none⟩=some (.int .i64 (z:Int))) (by kernel_rfl) cS (fun hHeld=>?_);generalize w7.drew=wd at hHeld Fd Td Id ⊢;clear cS k17 F7 T7 I7;refine wt 0 ?r201;refine wt 2 ?r202;refine wt 3 ?r203;refine wt 4 ?r204;refine wt 5 ?r205;refine wpAnyH_ready (rs:=[1,6]) (by kernel_rfl) (by simp) ?_;refine AllReadyH.cons rfl (fun K hK=>?_) ?_
     ·have ac:wd.cell? ⟨G,1,none⟩=some (.slice A2 L q2):=Fd.out.cells.2.1
      go_simp;clear ac;refine hK.out _ _ (hHeld) (fun hHeld'=>?_);replace hHeld:=hHeld';clear hHeld';clear hK K;try simp only [Act.put,pa,pb,pc,pd,pe,pf]
      refine wr1 6 (fun K hK=>?_);go_simp;have na:=new_val wd (.cells #[.int .i64 (z:Int)] 2);have CZ:Hid ((wd.alloc (.cells #[.int .i64 (z:Int)] 2)).cell? ((⟨wd.heap.size,0,none⟩:Addr).add 0)=some (.int .i64 (z:Int))):=hid (by
       show (wd.alloc _).cell? ⟨wd.heap.size,0,none⟩=_;rw [cell_of_row _ _ _ _ _ _ (heap_alloc_new wd _)];rfl)
      have T8:=hid (Td.out.below na);have F8:=hid (Fd.out.below na);have I8:=hid (Id.out.below na);refine hK.out _ _ ((na.cell (p:=⟨gs,os+y,none⟩) (World.block_lt_of_cell? wd _ hHeld)).trans hHeld) (fun hHeld'=>?_);replace hHeld:=hHeld';clear hHeld';clear na;generalize wd.alloc (.cells #[.int .i64 (z:Int)] 2)=w8 at hHeld CZ T8 F8 I8 ⊢;generalize wd.heap.size=gl at CZ ⊢;clear hK K;try simp only [Act.put,pa,pb,pc,pd,pe,pf]
      refine wr1 7 (fun K hK=>?_);refine push6_step rfl (.tmp 86) (.tmp 91) rfl w8 w.heap.size z _ (pickN sizes acc) ⟨gl,0,none⟩ rfl (by rfl) T8.out.b CZ.out F8.out.k.size (by have:=HL9.out;have:=HLN.out;simp [pickN];omega) ?_;intro v9 w9 h1 h2 h3;obtain⟨A9,q9,rfl⟩:=h1.formN (m:=L+1) (by have:=HLN.out;simp [pickN];omega);have T9:=hid (T8.out.swap.push h1 h2 h3);have F9:=hid (F8.out.own6 T8.out.b h2);have I9:=hid (I8.out.own6 T8.out.b h2);refine hK.out _ _ ((World.cell?_of_block (a:=⟨gs,os+y,none⟩) (h2.block gs (World.block_lt_of_cell? w8 _ hHeld) (fun e=>by have:=(T8.out.b.lt gs e.symm).1;have:=GSL.out;omega))).trans hHeld) (fun hHeld'=>?_);replace hHeld:=hHeld';clear hHeld';clear h1 h2 h3;clear hK K;try simp only [Act.put,pa,pb,pc,pd,pe,pf]
      refine wt 8 ?r206;refine wr1 9 (fun K hK=>?_);have af:w9.frozen? ⟨G,1,none⟩=false:=F9.out.frozen 1;have ac:w9.cell? ⟨G,1,none⟩=some (.slice A2 L q2):=F9.out.cells.2.1;go_simp;clear ac af;refine hK.out _ _ ((World.cell?_of_block (a:=⟨gs,os+y,none⟩) ((grown_put w9 G 1 (.slice A9 (L+1) q9)).block gs (World.block_lt_of_cell? w9 _ hHeld) (fun e=>by injection e with e;have:=GSL.out;have:=F9.out.far;omega))).trans hHeld) (fun hHeld'=>?_);replace hHeld:=hHeld';clear hHeld';clear hK K;try simp only [Act.put,pa,pb,pc,pd,pe,pf]
      refine wpAnyH_done (by kernel_rfl) ?_ _;refine NoPanic.normal ?_;clear hHeld;have F10:=hid (F9.out.put 1 (.slice A9 (L+1) q9) rfl);have T10:=hid (T9.out.swap.keep (grown_put w9 G 1 (.slice A9 (L+1) q9)) (fun g e=>by injection e with e;subst e;exact⟨_,_,F9.out.g⟩) (by decide));have I10:=hid (I9.out.fun_ (i:=1) (u:=.slice A9 (L+1) q9) F9.out);have SC10:Hid (ScD w b G R s sizes N v E (cF2 s.data.toList sizes a (ar,arP)) (j+1) (acc++[y]) (.slice A6 (L+1) q6) (.slice A9 (L+1) q9) v4 (w9.setCell ⟨G,1,none⟩ (.slice A9 (L+1) q9))):=hid (by
       have hbl:∀ x∈acc++[y],x < sizes.length:=fun x hx=>by
        rcases List.mem_append.1 hx with hx | hx
        ·exact SC.out.below x hx
        simp at hx
        rw [hx];exact HY.out
       have hpw:(acc++[y]).Pairwise (·≠·):=List.pairwise_append.2 ⟨SC.out.once,by simp,fun p hp q hq=>by
        simp at hq
        subst hq;intro e;subst e;have:=HNI.out;simp [hp] at this⟩
       refine⟨F10.out,?_,I10.out,.inl HB4.out,by rw [List.length_append,SC.out.len];rfl,Nat.le_trans (nodup_len _ _ hpw hbl) HNV.out,hpw,hbl⟩;rw [HPS.out];exact T10.out)
      clear F10 T10 I10 F9 T9 I9;have hj5:j≤100000:=by have:=SC.out.len;have:=SC.out.few;omega
      go_wp2_with fail
      go_roundw
      case rel=>exact⟨j+1,acc++[y],_,_,v4,by go_num,by omega,SC10.out⟩
      case measure=>simp [intOf];omega
     refine AllReadyH.cons rfl (fun K hK=>?_) AllReadyH.nil;go_simp;have na:=new_val wd (.cells #[.int .i64 (z:Int)] 2);have CZ:Hid ((wd.alloc (.cells #[.int .i64 (z:Int)] 2)).cell? ((⟨wd.heap.size,0,none⟩:Addr).add 0)=some (.int .i64 (z:Int))):=hid (by
      show (wd.alloc _).cell? ⟨wd.heap.size,0,none⟩=_;rw [cell_of_row _ _ _ _ _ _ (heap_alloc_new wd _)];rfl)
     have T8:=hid (Td.out.below na);have F8:=hid (Fd.out.below na);have I8:=hid (Id.out.below na);refine hK.out _ _ ((na.cell (p:=⟨gs,os+y,none⟩) (World.block_lt_of_cell? wd _ hHeld)).trans hHeld) (fun hHeld'=>?_);replace hHeld:=hHeld';clear hHeld';clear na;generalize wd.alloc (.cells #[.int .i64 (z:Int)] 2)=w8 at hHeld CZ T8 F8 I8 ⊢;generalize wd.heap.size=gl at CZ ⊢;clear hK K;try simp only [Act.put,pa,pb,pc,pd,pe,pf]
     refine wr1 1 (fun K hK=>?_);have ac:w8.cell? ⟨G,1,none⟩=some (.slice A2 L q2):=F8.out.cells.2.1;go_simp;clear ac;refine hK.out _ _ (hHeld) (fun hHeld'=>?_);replace hHeld:=hHeld';clear hHeld';clear hK K;try simp only [Act.put,pa,pb,pc,pd,pe,pf]
     refine wr1 7 (fun K hK=>?_);refine push6_step rfl (.tmp 86) (.tmp 91) rfl w8 w.heap.size z _ (pickN sizes acc) ⟨gl,0,none⟩ rfl (by rfl) T8.out.b CZ.out F8.out.k.size (by have:=HL9.out;have:=HLN.out;simp [pickN];omega) ?_;intro v9 w9 h1 h2 h3;obtain⟨A9,q9,rfl⟩:=h1.formN (m:=L+1) (by have:=HLN.out;simp [pickN];omega);have T9:=hid (T8.out.swap.push h1 h2 h3);have F9:=hid (F8.out.own6 T8.out.b h2);have I9:=hid (I8.out.own6 T8.out.b h2);refine hK.out _ _ ((World.cell?_of_block (a:=⟨gs,os+y,none⟩) (h2.block gs (World.block_lt_of_cell? w8 _ hHeld) (fun e=>by have:=(T8.out.b.lt gs e.symm).1;have:=GSL.out;omega))).trans hHeld) (fun hHeld'=>?_);replace hHeld:=hHeld';clear hHeld';clear h1 h2 h3;clear hK K;try simp only [Act.put,pa,pb,pc,pd,pe,pf]
     refine wt 8 ?r207;refine wr1 9 (fun K hK=>?_);have af:w9.frozen? ⟨G,1,none⟩=false:=F9.out.frozen 1;have ac:w9.cell? ⟨G,1,none⟩=some (.slice A2 L q2):=F9.out.cells.2.1;go_simp;clear ac af;refine hK.out _ _ ((World.cell?_of_block (a:=⟨gs,os+y,none⟩) ((grown_put w9 G 1 (.slice A9 (L+1) q9)).block gs (World.block_lt_of_cell? w9 _ hHeld) (fun e=>by injection e with e;have:=GSL.out;have:=F9.out.far;omega))).trans hHeld) (fun hHeld'=>?_);replace hHeld:=hHeld';clear hHeld';clear hK K;try simp only [Act.put,pa,pb,pc,pd,pe,pf]
     refine wpAnyH_done (by kernel_rfl) ?_ _;refine NoPanic.normal ?_;clear hHeld;have F10:=hid (F9.out.put 1 (.slice A9 (L+1) q9) rfl);have T10:=hid (T9.out.swap.keep (grown_put w9 G 1 (.slice A9 (L+1) q9)) (fun g e=>by injection e with e;subst e;exact⟨_,_,F9.out.g⟩) (by decide));have I10:=hid (I9.out.fun_ (i:=1) (u:=.slice A9 (L+1) q9) F9.out);have SC10:Hid (ScD w b G R s sizes N v E (cF2 s.data.toList sizes a (ar,arP)) (j+1) (acc++[y]) (.slice A6 (L+1) q6) (.slice A9 (L+1) q9) v4 (w9.setCell ⟨G,1,none⟩ (.slice A9 (L+1) q9))):=hid (by
      have hbl:∀ x∈acc++[y],x < sizes.length:=fun x hx=>by
       rcases List.mem_append.1 hx with hx | hx
       ·exact SC.out.below x hx
       simp at hx
       rw [hx];exact HY.out
      have hpw:(acc++[y]).Pairwise (·≠·):=List.pairwise_append.2 ⟨SC.out.once,by simp,fun p hp q hq=>by
       simp at hq
       subst hq;intro e;subst e;have:=HNI.out;simp [hp] at this⟩
      refine⟨F10.out,?_,I10.out,.inl HB4.out,by rw [List.length_append,SC.out.len];rfl,Nat.le_trans (nodup_len _ _ hpw hbl) HNV.out,hpw,hbl⟩;rw [HPS.out];exact T10.out)
     clear F10 T10 I10 F9 T9 I9;have hj5:j≤100000:=by have:=SC.out.len;have:=SC.out.few;omega
     go_wp2_with fail
     go_roundw
     case rel=>exact⟨j+1,acc++[y],_,_,v4,by go_num,by omega,SC10.out⟩
     case measure=>simp [intOf];omega
   ·
    have d3:(v4.bad != 0)=true:=by simpa using hb4
    obtain⟨e4,p4,hb4',hE4⟩:∃ e p,DrBad w4 b e p v4∧E = .bad e p:=by
     rcases hi4.out.2 with ⟨st,h1,_⟩ | h
     ·exact absurd h1.fine hb4
     exact h
    have HB4:=hid hb4';have HE4:=hid hE4;clear hb4 hb4' hE4;go_wp2_with (first
     | ((with_reducible show wpList _ _ _ (Oper.mk none (.store 40 _ _) _ _ _ _::_) _ _);refine wpList_store_row rfl 40 (.tmp 4) (.tmp 63) rfl R #[.slice A1 acc.length q1,.slice A2 acc.length q2,.int .i64 0,.slice none 0 0] rfl rfl 40 #[.slice none 0 0,.slice none 0 0,.int .i64 0,.slice none 0 0] R4.out (by kernel_rfl) rfl (by simp [Value.oneCell']) ?_)
     | fail)
    exact bodyPost_ret (results_fd rfl _ _ R _ _ _ _ rfl (setRow_heap _ R _ _ _ _ R4.out)) rfl (fun7_bad R4.out (FrD.of F4.out.k) ⟨F4.out.far.1,by have:=F4.out.far;omega⟩ hi4.out.1 HB4.out HE4.out _)
  have d1:decide ((j:Int) < (N:Int))=false:=decide_eq_false (by omega);obtain rfl:j=N:=by omega
  have J0:=hid (SC.out.rd.conv (C':=cF2 s.data.toList sizes a (ar,arP) acc) (fun st=>by rw [Nat.sub_self];rfl));obtain⟨A1,q1,rfl,hc1,hI1⟩:=SC.out.two.a.form;obtain⟨A2,q2,rfl,hc2,hI2⟩:=SC.out.two.b.form;obtain⟨P,hP⟩:∃ P,pickN sizes acc=P:=⟨_,rfl⟩
  have hpl:P.length=acc.length:=by rw [← hP];simp [pickN]
  have HPL:=hid hpl;have HPE:=hid hP;have F0:=hid SC.out.f;have TW:=hid SC.out.two;have BL:=hid SC.out.below;have ON:=hid SC.out.once;have LN:=hid SC.out.len;have FW:=hid SC.out.few;have OK:=hid SC.out.ok;have HC1:=hid hc1;have HC2:=hid hc2;have HI1:=hid hI1;rw [hP] at hI2 TW F0;have HI2:=hid hI2;have hp5:P.length≤100000:=by rw [hpl];exact FW.out
  have HP5:=hid hp5;rw [hP] at HC2;obtain⟨k0,k1,k2,k3⟩:=F0.out.cells;have HPM:Hid (∀ x∈P,x≤4611686018427387904):=hid (by rw [← hP];exact pickN_le HSM.out);clear hlt hj SC hI1 hI2 hc1 hc2 hP hpl;go_wp2_with fail
  go_loop [14,16,97] (fun c _ i=>∃ q:Nat,i = .int .i64 (q:Int)∧q≤P.length∧c = .int .i64 (cntM (P.take q) 1:Int)) (fun _ _ i=>P.length - (intOf i).toNat)
  case atStart=>exact⟨0,rfl,Nat.zero_le _,rfl⟩
  case round =>
   obtain⟨q,rfl,hq,rfl⟩:=hrel;obtain⟨m,hm⟩:∃ m,cntM (P.take q) 1=m:=⟨_,rfl⟩
   have hm9:m≤4097:=by rw [← hm];exact cnt_le _ _ (by decide)
   by_cases hql:q < P.length
   ·
    have d2:decide ((q:Int) < (P.length:Int))=true:=decide_eq_true (by omega);obtain⟨g,o,rfl,cc⟩:=HI2.out.at_ hql;have SN:=hid (show cntM (P.take (q+1)) 1=min (m * min (nth P q) 4097) 4097 by
     rw [List.take_succ_eq_append_getElem hql,cnt_snoc,hm];simp [nth,List.getD,hql])
    have hx9:=HPM.out _ (nth_mem hql);rw [hm];generalize nth P q=x at cc SN hx9;clear hm;by_cases hx:4096 < x
    ·have d3:decide ((4096:Int) < (x:Int))=true:=decide_eq_true (by omega)
     have e1:(m:Int) * 4097≤16785409:=by omega
     have e0:0≤(m:Int) * 4097:=by omega
     have SN3:=hid (show cntM (P.take (q+1)) 1=min (m * 4097) 4097 by rw [SN.out,Nat.min_eq_right (show 4097≤x by omega)]);have w1:IntKind.i64.wrap ((m:Int) * 4097)=(m:Int) * 4097:=IntWalk.i64_in _ (by omega);by_cases hmx:4096 < m * 4097
     ·have d4:decide ((4096:Int) < (m:Int) * 4097)=true:=decide_eq_true (by omega)
      have FIN:Hid ((4097:Int)=(cntM (P.take (q+1)) 1:Int)):=hid (by rw [SN3.out];omega);clear hx hmx SN SN3 hx9;go_wp2_with fail
      go_round
      case rel=>exact⟨q+1,by go_num,by omega,by rw [← FIN.out]⟩
      case measure=>simp [intOf];omega
     have d4:decide ((4096:Int) < (m:Int) * 4097)=false:=decide_eq_false (by omega);have FIN:Hid ((m:Int) * 4097=(cntM (P.take (q+1)) 1:Int)):=hid (by rw [SN3.out];omega);clear hx hmx SN SN3 hx9;go_wp2_with fail
     go_round
     case rel=>exact⟨q+1,by go_num,by omega,by rw [← FIN.out]⟩
     case measure=>simp [intOf];omega
    have d3:decide ((4096:Int) < (x:Int))=false:=decide_eq_false (by omega);have e0:m * x≤4097 * 4096:=Nat.mul_le_mul hm9 (by omega);obtain⟨y,hy⟩:∃ y,m * x=y:=⟨_,rfl⟩
    have hyi:(m:Int) * (x:Int)=(y:Int):=by rw [← hy];simp
    have w1:IntKind.i64.wrap ((m:Int) * (x:Int))=(y:Int):=by rw [hyi];exact IntWalk.i64_in _ (by omega)
    have SN2:=hid (show cntM (P.take (q+1)) 1=min y 4097 by rw [SN.out,Nat.min_eq_left (show x≤4097 by omega),hy]);by_cases hmx:4096 < y
    ·have d4:decide ((4096:Int) < (y:Int))=true:=decide_eq_true (by omega)
     have FIN:Hid ((4097:Int)=(cntM (P.take (q+1)) 1:Int)):=hid (by rw [SN2.out];omega);have hy9:y≤4097 * 4096:=by omega
     clear hx hmx SN SN2 hx9 e0 hy;go_wp2_with fail
     go_round
     case rel=>exact⟨q+1,by go_num,by omega,by rw [← FIN.out]⟩
     case measure=>simp [intOf];omega
    have d4:decide ((4096:Int) < (y:Int))=false:=decide_eq_false (by omega);have FIN:Hid ((y:Int)=(cntM (P.take (q+1)) 1:Int)):=hid (by rw [SN2.out];omega);have hy9:y≤4097 * 4096:=by omega
    clear hx hmx SN SN2 hx9 e0 hy;go_wp2_with fail
    go_round
    case rel=>exact⟨q+1,by go_num,by omega,by rw [← FIN.out]⟩
    case measure=>simp [intOf];omega
   have d2:decide ((q:Int) < (P.length:Int))=false:=decide_eq_false (by omega);obtain rfl:q=P.length:=by omega
   clear hq hql;rw [List.take_of_length_le (Nat.le_refl _)] at hm;rw [List.take_of_length_le (Nat.le_refl _),hm];have HM:=hid hm;have HM9:=hid hm9;have LM:=hid (fun is (hC:∀ st,cF2 s.data.toList sizes a (ar,arP) acc st=(fun st=>(numM s.data.toList 0 farZ st).bind (cF3 s.data.toList sizes a (ar,arP) acc)) (limS is arP st))=>lim7 (is:=is) (p:=arP) (C:=fun st=>(numM s.data.toList 0 farZ st).bind (cF3 s.data.toList sizes a (ar,arP) acc)) (J0.out.conv hC));clear hm hm9 d1 d2;go_upto_region 31 with fail
   go_cut [14] from 109 to 117 (fun v14 wc=>Hid (∃ v5,v14 = .int .i64 (m:Int)∧Gr wr wc b∧v5.bad=v'.bad∧DrIn wc b s v v5 E (fun st=>(numM s.data.toList 0 farZ st).bind (cF3 s.data.toList sizes a (ar,arP) acc))))
   case first =>
    by_cases h6:6 < j
    ·have d1:decide ((6:Int) < (j:Int))=true:=decide_eq_true (by omega)
     have LX:=hid (LM.out true (fun st=>by
      show (numM _ 0 farZ (limS (decide (6 < ar.natAbs) || _) arP st)).bind _=_;rw [HN.out,decide_eq_true h6];rfl))
     clear h6;go_wp2_with (first
      | (go_at_call 112;refine LX.out.mono ?_;rintro e w5 ⟨v5,⟨_,rfl⟩,hg5,⟨hbd,-⟩,hi5⟩;have FIN:=hid (And.intro hg5 (And.intro hbd hi5));clear hg5 hbd hi5)
      | fail)
     go_meet
     case rel=>exact hid ⟨v5,rfl,FIN.out⟩
    have d1:decide ((6:Int) < (j:Int))=false:=decide_eq_false (by omega);have LX:=hid (LM.out (decide ((4096:Int) < (m:Int))) (fun st=>by
     show (numM _ 0 farZ (limS (decide (6 < ar.natAbs) || decide (4096 < cntM (pickN sizes acc) 1)) arP st)).bind _=_;rw [HN.out,decide_eq_false h6,HPE.out,HM.out,Bool.false_or];have:decide ((4096:Int) < (m:Int))=decide (4096 < m):=by
      by_cases h:4096 < m
      ·rw [decide_eq_true h,decide_eq_true (by omega)]
      rw [decide_eq_false h,decide_eq_false (by omega)]
     rw [this]))
    clear h6;go_wp2_with (first
     | (go_at_call 112;refine LX.out.mono ?_;rintro e w5 ⟨v5,⟨_,rfl⟩,hg5,⟨hbd,-⟩,hi5⟩;have FIN:=hid (And.intro hg5 (And.intro hbd hi5));clear hg5 hbd hi5)
     | fail)
    go_meet
    case rel=>exact hid ⟨v5,rfl,FIN.out⟩
   obtain⟨v5,rfl,hg5,hbd5,hi5⟩:=hcut.out;have F5:=hid (F0.out.gr hg5);have TW5:=hid (TW.out.keep hg5 (fun g e=>by injection e with e;subst e;exact⟨_,_,J0.out.at_⟩) (by decide));have N5:=hid (num7 hi5);have N5OK:=hid hi5.at_;have BD5:=hid hbd5;have fz2:=F5.out.frozen 2;clear hcut hg5 hi5 hbd5 J0 F0 TW LM k0 k1 k2 k3;go_upto_region 33 with (first
    | (go_at_call 113;refine N5.out.mono ?_;rintro e w6 ⟨o,oP,v6,rfl,hr6,hz6,hk6,-,hg6,hi6⟩;have F6:=hid (F5.out.gr hg6);have fz:=F6.out.frozen 2;have kk2:=F6.out.cells.2.2.1;have HR6:=hid (And.intro hr6 (And.intro hz6 hk6));have I6:=hid hi6;have HG6:=hid hg6;clear hr6 hz6 hk6 hi6 hg6)
    | fail)
   have F7:=hid (F6.out.put 2 (.int .i64 o) (o':=o) rfl);have TW6:=hid (TW5.out.keep HG6.out (fun g e=>by injection e with e;subst e;exact⟨_,_,(N5OK.out)⟩) (by decide));have TW7:=hid (TW6.out.keep (grown_put w6 G 2 (.int .i64 o)) (fun g e=>by injection e with e;subst e;exact⟨_,_,F6.out.g⟩) (by decide));have I7:=hid (I6.out.fun_ (i:=2) (u:=.int .i64 o) F6.out);clear TW5 TW6 F5 I6 HG6 fz fz2 kk2 N5 N5OK
   change Code.wp _ _ _ _ (w6.setCell ⟨G,2,none⟩ (.int .i64 o))
   generalize w6.setCell ⟨G,2,none⟩ (.int .i64 o)=w7 at F7 TW7 I7 ⊢;clear F6;have N7:=hid (num7 (I7.out.conv (fun st=>cF3_eq _ _ _ _ _ _ st)));have A7:=hid I7.out.at_;go_upto_region 34 with (first
    | (go_at_call 113;refine N7.out.mono ?_;rintro e w8 ⟨n,p,v8,rfl,hr8,hz8,hk8,-,hg8,hi8⟩;have HR8:=hid (And.intro hr8 (And.intro hz8 hk8));have I8:=hid hi8;have HG8:=hid hg8;clear hr8 hz8 hk8 hi8 hg8)
    | fail)
   have F8:=hid (F7.out.gr HG8.out);have T8:=hid (TW7.out.keep HG8.out (fun g e=>by injection e with e;subst e;exact⟨_,_,A7.out⟩) (by decide));clear F7 TW7 I7 HG8 N7 A7;obtain⟨k0,k1,k2,k3⟩:=F8.out.cells;have c8:w8.cell? ⟨b,3,none⟩=some (.int .i64 v8.bad):=I8.out.at_.cell (i:=3) rfl;have R8:=hid F8.out.r;by_cases hb8:v8.bad=0
   ·rw [hb8] at c8
    obtain⟨st8,ho8,hE8⟩:=drIn_few I8.out hb8;have O8:=hid ho8;have E8:=hid hE8;have SH8:=hid I8.out.1.shared;have LI8:=hid I8.out.1.lines;have TL:=hid (show 0≤a.told∧a.told≤100000 by have:=HA.out.told0;have:=HA.out.told1;have:=HK.out.le;have:=HK.out.fits;omega);have OW8:=hid (HO.out.keepB (fun g e h5 h6=>F8.out.k.block g h5 (fun e=>by injection e with e;have:=HB.out;omega)));have U8:=hid (HU.out.keep (F8.out.keepD HK.out.at_));have KD8:=hid (F8.out.keepD HK.out.at_);have HR8':=hid (show (-4611686018427387904≤n∧n≤4611686018427387904) by
     rcases HR8.out.1 with h | h
     ·exact h
     ·exact absurd hb8 h.2)
    obtain⟨Ash,csh,hsv,hcsh⟩:=OW8.out.form;have SV:=hid hsv;have HI2':=hid (T8.out.b.viewN.2.2);have HCS:=hid hcsh;have c18:w8.cell? ⟨b,8,none⟩=some (.slice Ash us.length csh):=by rw [← hsv,← SH8.out];exact O8.out.at_.cell (i:=8) rfl
    rw [HPL.out] at k1;have HB8:=hid hb8;clear ho8 hE8 hsv hcsh hb8 HR8 I8;by_cases hn:n < 0
    ·
     obtain⟨q,hq⟩:∃ q:Nat,-n=(q:Int)+1:=⟨(-n - 1).toNat,by omega⟩
     have hq9:q≤4611686018427387903:=by have:=HR8'.out;omega
     have d1:decide (n < 0)=true:=decide_eq_true hn;have e2:=(wr_small q hq9).1;have HQ9:=hid hq9;clear hq9;have HDL:Hid (dL s.data.toList sizes acc a (n,p) st8=match a.shared[q]? with
      | some g=>if pickN sizes g.scope=pickN sizes acc then .ok (g.lines,a.told) st8 else .bad 4 p
      | none=>.bad 4 p):=hid (by
      unfold dL;rw [if_pos hn];simp only [hq,show ((q:Int)+1).toNat - 1=q by omega])
     have HN0:=hid hn;have HQ:=hid hq;by_cases hqu:us.length≤q
     ·
      have d4:decide ((us.length:Int) < (q:Int)+1)=true:=decide_eq_true (by omega);have HBD:Hid (E = .bad 4 p):=hid (by
       rw [E8.out,HDL.out,List.getElem?_eq_none (by rw [← HU.out.1];exact hqu)];rfl)
      go_upto_region 37 with fail
      go_quiet (fail)
      have Bq:=hid (below_drewN (Below.refl w8.heap.size w8) nq);have F9:=hid (F8.out.below Bq.out);have BD:=hid (bad7 (W:=w8.drewN nq) (b:=b) (s:=s) (v:=v8) (v':=v8) (E:=E) (e:=4) (p:=p) (by decide) ⟨DrNear.refl _,.inl ⟨st8,O8.out.keepAt ((Bq.out.block b O8.out.at_.lt).trans O8.out.at_) (KeepD.below Bq.out),HBD.out⟩⟩);clear k0 k1 k2 k3 c8 c18;generalize w8.drewN nq=w9 at Bq F9 BD ⊢;go_upto_region 39 with (first
       | (go_at_call 115;refine BD.out.mono ?_;rintro e w10 ⟨v10,e10,p10,⟨_,rfl⟩,hg10,hn10,hb10,hE10⟩;have G10:=hid hg10;have N10:=hid hn10;have B10:=hid hb10;have E10:=hid hE10;clear hg10 hn10 hb10 hE10)
       | fail)
      have F10:=hid (F9.out.gr G10.out);obtain⟨k0,k1,k2,k3⟩:=F10.out.cells;rw [HPL.out] at k1;have NN:=hid (show DrNear v v10 from ⟨N10.out.shared.trans SH8.out,N10.out.lines.trans LI8.out⟩);go_wp2_with (first
       | ((with_reducible show wpList _ _ _ (Oper.mk none (.store 40 _ _) _ _ _ _::_) _ _);refine wpList_store_row rfl 40 (.tmp 4) (.tmp 164) rfl R #[.slice A1 acc.length q1,.slice A2 acc.length q2,.int .i64 o,.slice none 0 0] rfl rfl 40 #[.slice none 0 0,.slice none 0 0,.int .i64 0,.slice none 0 0] F10.out.r (by kernel_rfl) rfl (by simp [Value.oneCell']) ?_)
       | fail)
      exact bodyPost_ret (results_fd rfl _ _ R _ _ _ _ rfl (setRow_heap _ R _ _ _ _ F10.out.r)) rfl (fun7_bad F10.out.r (FrD.of F10.out.k) ⟨F10.out.far.1,by have:=F10.out.far;omega⟩ NN.out B10.out E10.out _)
     have d4:decide ((us.length:Int) < (q:Int)+1)=false:=decide_eq_false (by omega);obtain⟨f,hf⟩:∃ f,a.shared[q]? = some f:=⟨_,List.getElem?_eq_getElem (by rw [← HU.out.1];omega)⟩
     obtain⟨svq,zvq,lvq,hx,hv⟩:=U8.out.2 q f hf;obtain⟨gq,hAq,hgb,hgl,-,cq1,-,cq3⟩:=OwnFd.cells4 (SV.out ▸ OW8.out) hx;have c18q:w8.cell? ⟨b,8,none⟩=some (.slice (some ⟨gq,0,none⟩) us.length csh):=by rw [← hAq];exact c18
     obtain⟨-,⟨Az,cz,rfl,hcz,iz⟩,Al,cl,rfl,hcl,il⟩:=hv;have HIL:=hid il;have HF:=hid hf;have CQ3:=hid cq3;have C18:=hid c18q;have HCL:=hid hcl;obtain⟨-,e3,f1,f2,f3⟩:=wr_small q HQ9.out;have hlp:f.scope.length=(pickN sizes f.scope).length:=by simp [pickN]
     rw [hlp] at cq1;have SM:=hid (fun W (hb:Below w8.heap.size w8 W)=>same7 Az A2 cz q2 (pickN sizes f.scope) P W (iz.keep (KeepD.below hb)) (HI2'.out.keep (KeepD.below hb)) (by rw [← hlp];have:=(HA.out.shared f (List.mem_of_getElem? hf));have:=nodup_len _ _ this.once this.below;omega));have hqs:(q:Int) < (us.length:Int):=Int.ofNat_lt.2 (Nat.lt_of_not_le hqu);rw [← HPL.out] at k1;have HS8:Hid (HoldS_Dfe w8 b gq G q us.length csh P.length q2 (some ⟨gq,0,none⟩) A2 (.slice Az (pickN sizes f.scope).length cz) w8):=hid ⟨c18q,cq1,k1,Below.refl _ _⟩;clear k0 k1 k2 k3 hx iz il hcl hcz hlp c18 c18q hAq;go_upto_region 37 with fail
     refine wp_region_noPanic ?_;refine wp_region_held_drew (S:=fun W=>HoldS_Dfe w8 b gq G q us.length csh P.length q2 (some ⟨gq,0,none⟩) A2 (.slice Az (pickN sizes f.scope).length cz) W) (by kernel_rfl) (holdS_Dfe HS8.out ((Below.refl _ _).drew)) (fun hHeld=>?_);generalize w8.drew=wd at hHeld ⊢;refine wt 0 ?r301;refine wt 1 ?r302;refine wt 2 ?r303;refine wt 3 ?r304;refine wt 4 ?r305;refine wt 5 ?r306;refine wt 6 ?r307;refine wt 7 ?r308;refine wt 8 ?r309;refine wt 9 ?r310;refine wt 10 ?r311;refine wt 11 ?r312;refine wt 12 ?r313;refine wt 13 ?r314;refine wt 14 ?r315;refine wt 15 ?r316;refine wt 16 ?r317;refine wt 17 ?r318;refine wt 18 ?r319;refine wt 19 ?r320;refine wt 20 ?r321;refine wr1 21 (fun K hK=>?_);go_simp;refine (SM.out _ (HoldS_Dfe.below hHeld)).mono ?_;rintro e w9 ⟨rfl,hb9⟩;refine hK.out _ _ (holdS_Dfe hHeld hb9) (fun hHeld'=>?_);replace hHeld:=hHeld';clear hHeld';clear hK K;try simp only [Act.put,pa,pb,pc,pd,pe,pf]
     refine wt 22 ?r322;refine wt 23 ?r323;refine wpAnyH_done (by kernel_rfl) ?_ _;refine NoPanic.normal ?_;have HSE:=hid (HoldS_Dfe.below hHeld);clear hHeld;have F9:=hid (F8.out.below HSE.out);have T9:=hid (T8.out.below HSE.out);have A9:Hid (DrAt w9 b v8):=hid ((HSE.out.block b O8.out.at_.lt).trans O8.out.at_);have O9:=hid (O8.out.keepAt A9.out (KeepD.below HSE.out));cases hsm:(pickN sizes f.scope == P) with
     | false =>
      clear e2 e3 f1 f2 f3;have HBD:Hid (E = .bad 4 p):=hid (by
       rw [E8.out,HDL.out,HF.out];have:¬ pickN sizes f.scope=pickN sizes acc:=by rw [HPE.out];simpa using hsm
       simp only [if_neg this];rfl)
      have BD:=hid (bad7 (W:=w9) (b:=b) (s:=s) (v:=v8) (v':=v8) (E:=E) (e:=4) (p:=p) (by decide) ⟨DrNear.refl _,.inl ⟨st8,O9.out,HBD.out⟩⟩);go_upto_region 39 with (first
       | (go_at_call 115;refine BD.out.mono ?_;rintro e w10 ⟨v10,e10,p10,⟨_,rfl⟩,hg10,hn10,hb10,hE10⟩;have G10:=hid hg10;have N10:=hid hn10;have B10:=hid hb10;have E10:=hid hE10;clear hg10 hn10 hb10 hE10)
       | fail)
      have F10:=hid (F9.out.gr G10.out);obtain⟨k0,k1,k2,k3⟩:=F10.out.cells;rw [HPL.out] at k1;have NN:=hid (show DrNear v v10 from ⟨N10.out.shared.trans SH8.out,N10.out.lines.trans LI8.out⟩);go_wp2_with (first
       | ((with_reducible show wpList _ _ _ (Oper.mk none (.store 40 _ _) _ _ _ _::_) _ _);refine wpList_store_row rfl 40 (.tmp 4) (.tmp 164) rfl R #[.slice A1 acc.length q1,.slice A2 acc.length q2,.int .i64 o,.slice none 0 0] rfl rfl 40 #[.slice none 0 0,.slice none 0 0,.int .i64 0,.slice none 0 0] F10.out.r (by kernel_rfl) rfl (by simp [Value.oneCell']) ?_)
       | fail)
      exact bodyPost_ret (results_fd rfl _ _ R _ _ _ _ rfl (setRow_heap _ R _ _ _ _ F10.out.r)) rfl (fun7_bad F10.out.r (FrD.of F10.out.k) ⟨F10.out.far.1,by have:=F10.out.far;omega⟩ NN.out B10.out E10.out _)
     | true =>
      have HEQ:Hid (E=cF4 sizes a (ar,arP) acc (o,oP) (f.lines,a.told) st8):=hid (by
       rw [E8.out,HDL.out,HF.out];have:pickN sizes f.scope=pickN sizes acc:=by rw [HPE.out];simpa using hsm
       simp only [if_pos this];rfl)
      have cb:w9.cell? ⟨b,8,none⟩=some (.slice (some ⟨gq,0,none⟩) us.length csh):=(HSE.out.cell (p:=⟨b,8,none⟩) O8.out.at_.lt).trans C18.out;have cl3:w9.cell? ⟨gq,q * 4+3,none⟩=some (.slice Al f.lines.length cl):=(HSE.out.cell (p:=⟨gq,q * 4+3,none⟩) (World.block_lt_of_cell? w8 _ CQ3.out)).trans CQ3.out;have fz3:=F9.out.frozen 3;have k3:=F9.out.cells.2.2.2;clear hsm;go_upto_region 45 with fail
      clear e2 e3 f1 f2 f3;have F:=hid (F9.out.put 3 (.slice Al f.lines.length cl) (lv':=.slice Al f.lines.length cl) rfl);have hgG:=grown_put w9 G 3 (.slice Al f.lines.length cl);have KG:KeepD w9 (w9.setCell ⟨G,3,none⟩ (.slice Al f.lines.length cl)):=keep_fun F9.out.g hgG;have T:=hid (HPE.out ▸ T9.out.keep hgG (fun g e=>by injection e with e;subst e;exact⟨_,_,F9.out.g⟩) (by decide));have LV:=hid ((HIL.out.keep (KeepD.below HSE.out)).keep KG);have hbG:(w9.setCell ⟨G,3,none⟩ (.slice Al f.lines.length cl)).heap[b]? = w9.heap[b]?:=hgG.block b A9.out.lt (fun e=>by injection e with e;have:=F9.out.far;omega);have K:Hid (LnK7 s b (w9.setCell ⟨G,3,none⟩ (.slice Al f.lines.length cl)) f.lines v8 E (cF4 sizes a (ar,arP) acc (o,oP))):=hid (.inl ⟨a.told,st8,O9.out.keepAt (hbG.trans A9.out) KG,LI8.out.trans HT.out,HEQ.out⟩);have NS:=SH8;have H3:=hid HCL.out;clear cb cl3 fz3 k3 hgG KG hbG F9 T9 A9 O9;rw [HPL.out] at F;rw [show (pickN sizes acc).length=acc.length by simp [pickN]] at T
      change Code.wp _ _ _ _ (w9.setCell ⟨G,3,none⟩ (.slice Al f.lines.length cl))
      generalize w9.setCell ⟨G,3,none⟩ (.slice Al f.lines.length cl)=w10 at F T LV K ⊢;have dn:decide (0 < n)=false:=decide_eq_false (by have:=HN0.out;omega);go_wp2_with fail
      go_loopw [18,19,21,22,23,24,25,27] (fun i _ _ _ _ _ _ _ wr=>i = .int .i64 0∧wr=w10) (fun _ _ _ _ _ _ _ _ _=>0)
      case atStart=>exact⟨rfl,rfl⟩
      case round =>
       obtain⟨rfl,hwr⟩:=hrel;rw [hwr];clear hwr;have OWc:Hid (OwnFd w10 base (.slice Ash us.length csh) us):=hid (by
        rw [← SV.out];exact HO.out.keepB (fun g e h5 h6=>F.out.k.block g h5 (fun e=>by injection e with e;have:=HB.out;omega)))
       have UL:=hid (show us.length≤1000000 by rw [HU.out.1];have:=HA.out.sfew;have:=HK.out.le;have:=HK.out.fits;omega);have OWw:Hid (OwnFd w base (.slice Ash us.length csh) us):=hid (SV.out ▸ HO.out);by_cases hs:ar < 0
       rotate_left
       ·have d1:decide (ar < 0)=false:=decide_eq_false hs
        have HSN:=hid hs;obtain⟨k0,k1,k2,k3⟩:=F.out.cells;go_wp2_with (first
         | ((with_reducible show wpList _ _ _ (Oper.mk none (.store 40 _ _) _ _ _ _::_) _ _);refine wpList_store_row rfl 40 (.tmp 4) (.tmp 280) rfl R #[.slice A1 acc.length q1,.slice A2 acc.length q2,.int .i64 o,.slice Al f.lines.length cl] rfl rfl 40 #[.slice none 0 0,.slice none 0 0,.int .i64 0,.slice none 0 0] F.out.r (by kernel_rfl) rfl (by simp [Value.oneCell']) ?_;change (Exit.then _ _) _ _ _;simp only [Exit.then];apply_assumption;refine wp_ret ?_;exact bodyPost_ret (results_fd rfl _ _ R _ _ _ _ rfl (setRow_heap _ R _ _ _ _ F.out.r)) rfl (fun7_pos F.out T.out rfl H3.out LV.out NS.out K.out HSN.out HK.out.at_ HO.out HU.out HB.out.1 HB.out.2 _))
         | fail)
       have d1:decide (ar < 0)=true:=decide_eq_true hs;have HSG:=hid hs;have CC:=hid F.out.cells;go_upto_region 65 with fail
       clear hs;have Fd:=hid (F.out.below ((Below.refl w10.heap.size w10).drew));have Td:=hid (T.out.below ((Below.refl w10.heap.size w10).drew));have LVd:=hid (LV.out.keep (KeepD.below ((Below.refl w10.heap.size w10).drew)));have Kd:=hid (K.out.keep (W':=w10.drew) rfl (KeepD.below ((Below.refl w10.heap.size w10).drew)));have OWd:=hid (OWc.out.keepB (w':=w10.drew) (fun g _ _ _=>rfl));have CCd:Hid (w10.drew.cell? ⟨G,0,none⟩=some (.slice A1 acc.length q1)∧w10.drew.cell? ⟨G,1,none⟩=some (.slice A2 acc.length q2)∧w10.drew.cell? ⟨G,2,none⟩=some (.int .i64 o)∧w10.drew.cell? ⟨G,3,none⟩=some (.slice Al f.lines.length cl)):=hid CC.out;refine wp_region_noPanic ?_;refine wp_region_held_drew (S:=fun W=>W.cell? ⟨G,0,none⟩=some (.slice A1 acc.length q1)∧W.cell? ⟨G,1,none⟩=some (.slice A2 acc.length q2)∧W.cell? ⟨G,2,none⟩=some (.int .i64 o)∧W.cell? ⟨G,3,none⟩=some (.slice Al f.lines.length cl)) (by kernel_rfl) CCd.out (fun hHeld=>?_);generalize w10.drew=wd at hHeld Fd Td LVd Kd OWd CCd ⊢;have Ad:=hid Kd.out.at_;clear F T LV K OWc CC CCd;refine wt 0 ?r501;refine wt 1 ?r502;refine wt 2 ?r503;refine wt 3 ?r504;refine wt 5 ?r505;refine wpAnyH_ready (rs:=[4,6]) (by kernel_rfl) (by simp) ?_;refine AllReadyH.cons rfl (fun K hK=>?_) ?_
       ·have ac:wd.cell? ⟨b,8,none⟩=some (.slice Ash us.length csh):=by rw [← SV.out,← NS.out];exact Ad.out.cell (i:=8) rfl
        go_simp;clear ac;refine hK.out _ _ (hHeld) (fun hHeld'=>?_);replace hHeld:=hHeld';clear hHeld';clear hK K;try simp only [Act.put,pa,pb,pc,pd,pe,pf]
        refine wr1 6 (fun K hK=>?_);go_simp;have na:=new_val wd (.cells #[.slice A1 acc.length q1,.slice A2 acc.length q2,.int .i64 o,.slice Al f.lines.length cl] 40);have NA:=hid na;have NW:=hid (heap_alloc_new wd (.cells #[.slice A1 acc.length q1,.slice A2 acc.length q2,.int .i64 o,.slice Al f.lines.length cl] 40));have A12:Hid (DrAt (wd.alloc (.cells #[.slice A1 acc.length q1,.slice A2 acc.length q2,.int .i64 o,.slice Al f.lines.length cl] 40)) b v8):=hid ((na.block b Ad.out.lt).trans Ad.out);refine hK.out _ _ (hold4 hHeld na) (fun hHeld'=>?_);replace hHeld:=hHeld';clear hHeld';clear na;generalize wd.alloc (.cells #[.slice A1 acc.length q1,.slice A2 acc.length q2,.int .i64 o,.slice Al f.lines.length cl] 40)=w12 at hHeld NA NW A12 ⊢;have OW:Hid (OwnFd w12 base (.slice Ash us.length csh) us):=hid (OWd.out.keepB (fun g _ h1 _=>NA.out.block g h1));generalize wd.heap.size=gl at NW ⊢;clear hK K;try simp only [Act.put,pa,pb,pc,pd,pe,pf]
        refine wr1 7 (fun K hK=>?_);refine pushFd_step rfl (.tmp 274) (.tmp 276) rfl w12 base gl (.slice Ash us.length csh) us A1 A2 Al acc.length acc.length f.lines.length q1 q2 cl o rfl (by rfl) OW.out NW.out (by have:=NA.out.size;have:=Fd.out.k.size;have:=HB.out;omega) UL.out ?_;intro v14 w13 hOx hgx hat;obtain⟨A14,n14,c14,rfl⟩:∃ A n c,v14 = .slice A n c:=by obtain⟨A,c,e,-⟩:=hOx.form;exact⟨A,_,c,e⟩
        have OX:=hid hOx;have GX:=hid hgx;have AT:=hid hat;have A13:Hid (DrAt w13 b v8):=hid ((hgx.block b A12.out.lt (fun e=>by obtain⟨h1,_⟩:=OW.out.obj b e.symm;have:=HB.out.1;omega)).trans A12.out);refine hK.out _ _ (hold4_o hHeld hgx (fun e=>by obtain⟨_,h1,_⟩:=OWw.out.obj _ e;have:=Fd.out.far;omega)) (fun hHeld'=>?_);replace hHeld:=hHeld';clear hHeld';clear hOx hgx hat;clear hK K;try simp only [Act.put,pa,pb,pc,pd,pe,pf]
        refine wt 8 ?r506;refine wt 9 ?r507;refine wr1 10 (fun K hK=>?_);have ac:w13.cell? ⟨b,8,none⟩=some v8.shared:=A13.out.cell (i:=8) rfl;have af:w13.frozen? ⟨b,8,none⟩=false:=A13.out.frozen 8;go_simp;clear ac af;refine hK.out _ _ (hold4_o hHeld (grown_put w13 b 8 _) (fun e=>by injection e with e;have:=Fd.out.far;omega)) (fun hHeld'=>?_);replace hHeld:=hHeld';clear hHeld';clear hK K;try simp only [Act.put,pa,pb,pc,pd,pe,pf]
        refine wpAnyH_done (by kernel_rfl) ?_ _;refine NoPanic.normal ?_;obtain⟨k0,k1,k2,k3⟩:=hHeld;have R15:=hid (fd_row Fd.out OWw.out NA.out GX.out (.slice A14 n14 c14));have r15:=R15.out;clear r15;go_wp2_with (first
         | ((with_reducible show wpList _ _ _ (Oper.mk none (.store 40 _ _) _ _ _ _::_) _ _);refine wpList_store_row rfl 40 (.tmp 4) (.tmp 280) rfl R #[.slice A1 acc.length q1,.slice A2 acc.length q2,.int .i64 o,.slice Al f.lines.length cl] rfl rfl 40 #[.slice none 0 0,.slice none 0 0,.int .i64 0,.slice none 0 0] R15.out (by kernel_rfl) rfl (by simp [Value.oneCell']) ?_;change (Exit.then _ _) _ _ _;simp only [Exit.then];apply_assumption;refine wp_ret ?_;exact bodyPost_ret (results_fd rfl _ _ R _ _ _ _ rfl (setRow_heap _ R _ _ _ _ R15.out)) rfl (fun7_neg Fd.out Td.out rfl H3.out LVd.out NS.out Kd.out HSG.out HK.out.at_ HO.out HU.out HB.out.1 HB.out.2 NA.out (SV.out ▸ OW.out) OX.out (SV.out ▸ GX.out) (SV.out ▸ AT.out) _))
         | fail)
       refine AllReadyH.cons rfl (fun K hK=>?_) AllReadyH.nil;go_simp;have na:=new_val wd (.cells #[.slice A1 acc.length q1,.slice A2 acc.length q2,.int .i64 o,.slice Al f.lines.length cl] 40);have NA:=hid na;have NW:=hid (heap_alloc_new wd (.cells #[.slice A1 acc.length q1,.slice A2 acc.length q2,.int .i64 o,.slice Al f.lines.length cl] 40));have A12:Hid (DrAt (wd.alloc (.cells #[.slice A1 acc.length q1,.slice A2 acc.length q2,.int .i64 o,.slice Al f.lines.length cl] 40)) b v8):=hid ((na.block b Ad.out.lt).trans Ad.out);refine hK.out _ _ (hold4 hHeld na) (fun hHeld'=>?_);replace hHeld:=hHeld';clear hHeld';clear na;generalize wd.alloc (.cells #[.slice A1 acc.length q1,.slice A2 acc.length q2,.int .i64 o,.slice Al f.lines.length cl] 40)=w12 at hHeld NA NW A12 ⊢;have OW:Hid (OwnFd w12 base (.slice Ash us.length csh) us):=hid (OWd.out.keepB (fun g _ h1 _=>NA.out.block g h1));generalize wd.heap.size=gl at NW ⊢;clear hK K;try simp only [Act.put,pa,pb,pc,pd,pe,pf]
       refine wr1 4 (fun K hK=>?_);have ac:w12.cell? ⟨b,8,none⟩=some (.slice Ash us.length csh):=by rw [← SV.out,← NS.out];exact A12.out.cell (i:=8) rfl
       go_simp;clear ac;refine hK.out _ _ (hHeld) (fun hHeld'=>?_);replace hHeld:=hHeld';clear hHeld';clear hK K;try simp only [Act.put,pa,pb,pc,pd,pe,pf]
       refine wr1 7 (fun K hK=>?_);refine pushFd_step rfl (.tmp 274) (.tmp 276) rfl w12 base gl (.slice Ash us.length csh) us A1 A2 Al acc.length acc.length f.lines.length q1 q2 cl o rfl (by rfl) OW.out NW.out (by have:=NA.out.size;have:=Fd.out.k.size;have:=HB.out;omega) UL.out ?_;intro v14 w13 hOx hgx hat;obtain⟨A14,n14,c14,rfl⟩:∃ A n c,v14 = .slice A n c:=by obtain⟨A,c,e,-⟩:=hOx.form;exact⟨A,_,c,e⟩
       have OX:=hid hOx;have GX:=hid hgx;have AT:=hid hat;have A13:Hid (DrAt w13 b v8):=hid ((hgx.block b A12.out.lt (fun e=>by obtain⟨h1,_⟩:=OW.out.obj b e.symm;have:=HB.out.1;omega)).trans A12.out);refine hK.out _ _ (hold4_o hHeld hgx (fun e=>by obtain⟨_,h1,_⟩:=OWw.out.obj _ e;have:=Fd.out.far;omega)) (fun hHeld'=>?_);replace hHeld:=hHeld';clear hHeld';clear hOx hgx hat;clear hK K;try simp only [Act.put,pa,pb,pc,pd,pe,pf]
       refine wt 8 ?r508;refine wt 9 ?r509;refine wr1 10 (fun K hK=>?_);have ac:w13.cell? ⟨b,8,none⟩=some v8.shared:=A13.out.cell (i:=8) rfl;have af:w13.frozen? ⟨b,8,none⟩=false:=A13.out.frozen 8;go_simp;clear ac af;refine hK.out _ _ (hold4_o hHeld (grown_put w13 b 8 _) (fun e=>by injection e with e;have:=Fd.out.far;omega)) (fun hHeld'=>?_);replace hHeld:=hHeld';clear hHeld';clear hK K;try simp only [Act.put,pa,pb,pc,pd,pe,pf]
       refine wpAnyH_done (by kernel_rfl) ?_ _;refine NoPanic.normal ?_;obtain⟨k0,k1,k2,k3⟩:=hHeld;have R15:=hid (fd_row Fd.out OWw.out NA.out GX.out (.slice A14 n14 c14));have r15:=R15.out;clear r15;go_wp2_with (first
        | ((with_reducible show wpList _ _ _ (Oper.mk none (.store 40 _ _) _ _ _ _::_) _ _);refine wpList_store_row rfl 40 (.tmp 4) (.tmp 280) rfl R #[.slice A1 acc.length q1,.slice A2 acc.length q2,.int .i64 o,.slice Al f.lines.length cl] rfl rfl 40 #[.slice none 0 0,.slice none 0 0,.int .i64 0,.slice none 0 0] R15.out (by kernel_rfl) rfl (by simp [Value.oneCell']) ?_;change (Exit.then _ _) _ _ _;simp only [Exit.then];apply_assumption;refine wp_ret ?_;exact bodyPost_ret (results_fd rfl _ _ R _ _ _ _ rfl (setRow_heap _ R _ _ _ _ R15.out)) rfl (fun7_neg Fd.out Td.out rfl H3.out LVd.out NS.out Kd.out HSG.out HK.out.at_ HO.out HU.out HB.out.1 HB.out.2 NA.out (SV.out ▸ OW.out) OX.out (SV.out ▸ GX.out) (SV.out ▸ AT.out) _))
        | fail)
    ·
     have d1:decide (n < 0)=false:=decide_eq_false hn;obtain⟨M,rfl⟩:=Int.eq_ofNat_of_zero_le (by omega:0≤n);have HDL:Hid (dL s.data.toList sizes acc a ((M:Int),p) st8=(linesM s.data.toList sizes acc M [] (limS (decide (16384 < a.told+(M:Int))) p st8)).bind fun ls s''=>.ok (ls,a.told+(M:Int)) s''):=hid (by
      unfold dL;rw [if_neg hn];simp only [Int.toNat_natCast])
     have c7:w8.cell? ⟨b,7,none⟩=some (.int .i64 a.told):=by rw [← HT.out,← LI8.out];exact O8.out.at_.cell (i:=7) rfl
     have fz7:=O8.out.at_.frozen 7;obtain⟨e1,e2⟩:=wr_add a.told M TL.out (by have:=HR8'.out;omega);obtain⟨S,hS⟩:∃ S,a.told+(M:Int)=S:=⟨_,rfl⟩
     rw [hS] at HDL;replace e1:=e1.trans hS;replace e2:=e2.trans hS;have HSE:=hid hS;clear hS hn;have D7:=hid (dec_far S);go_upto_if 188 with fail
     clear e1 e2;go_cut [17] from 184 to 191 (fun v17 wc=>Hid (v17 = .int .i64 (M:Int)∧DrAt wc b { v8 with lines:=if 4611686018427387904 < S then 4611686018427387904 else S }∧Gr w8 wc b))
     case first =>
      have g1:Gr w8 (w8.setCell ⟨b,7,none⟩ (.int .i64 S)) b:=grown_put w8 b 7 (.int .i64 S);have a1:DrAt (w8.setCell ⟨b,7,none⟩ (.int .i64 S)) b { v8 with lines:=S }:=O8.out.at_.put 7 (.int .i64 S) rfl;by_cases hb:4611686018427387904 < S
      ·have d5:decide ((4611686018427387904:Int) < S)=true:=decide_eq_true hb
       have FIN:Hid (DrAt ((w8.setCell ⟨b,7,none⟩ (.int .i64 S)).setCell ⟨b,7,none⟩ (.int .i64 4611686018427387904)) b { v8 with lines:=if 4611686018427387904 < S then 4611686018427387904 else S }∧Gr w8 ((w8.setCell ⟨b,7,none⟩ (.int .i64 S)).setCell ⟨b,7,none⟩ (.int .i64 4611686018427387904)) b):=hid (by
        rw [if_pos hb];exact⟨a1.put 7 (.int .i64 4611686018427387904) rfl,g1.trans (grown_put _ b 7 _)⟩)
       have c71:(w8.setCell ⟨b,7,none⟩ (.int .i64 S)).cell? ⟨b,7,none⟩=some (.int .i64 S):=a1.cell (i:=7) rfl;have fz71:=a1.frozen 7;have hb':¬ S≤4611686018427387904:=Int.not_le.2 hb;clear g1 a1 c7 fz7;generalize w8.setCell ⟨b,7,none⟩ (.int .i64 S)=w9 at c71 fz71 FIN ⊢;go_wp2_with fail
       go_meet
       case rel=>exact hid ⟨rfl,FIN.out⟩
      have d5:decide ((4611686018427387904:Int) < S)=false:=decide_eq_false hb;have FIN:Hid (DrAt (w8.setCell ⟨b,7,none⟩ (.int .i64 S)) b { v8 with lines:=if 4611686018427387904 < S then 4611686018427387904 else S }∧Gr w8 (w8.setCell ⟨b,7,none⟩ (.int .i64 S)) b):=hid (by
       rw [if_neg hb];exact⟨a1,g1⟩)
      have c71:(w8.setCell ⟨b,7,none⟩ (.int .i64 S)).cell? ⟨b,7,none⟩=some (.int .i64 S):=a1.cell (i:=7) rfl;have hb':S≤4611686018427387904:=Int.not_lt.1 hb;clear g1 a1 c7 fz7;generalize w8.setCell ⟨b,7,none⟩ (.int .i64 S)=w9 at c71 FIN ⊢;go_wp2_with fail
      go_meet
      case rel=>exact hid ⟨rfl,FIN.out⟩
     obtain⟨rfl,ha9,hg9⟩:=hcut.out;obtain⟨L7,hL7⟩:∃ L7,(if 4611686018427387904 < S then 4611686018427387904 else S)=L7:=⟨_,rfl⟩
     rw [hL7] at ha9 D7;have HL7:=hid hL7;have F9:=hid (F8.out.gr hg9);have T9:=hid (T8.out.keep hg9 (fun g e=>by injection e with e;subst e;exact⟨_,_,O8.out.at_⟩) (by decide));have c7n:wc.cell? ⟨b,7,none⟩=some (.int .i64 L7):=ha9.cell (i:=7) rfl;have dd:=D7.out;have I9:Hid (DrIn wc b s { v8 with lines:=L7 } { v8 with lines:=L7 } E (fun st=>(fun st=>(linesM s.data.toList sizes acc M [] st).bind (fun ls=>cF4 sizes a (ar,arP) acc (o,oP) (ls,S))) (limS (decide (16384 < S)) p st))):=hid ⟨DrNear.refl _,.inl ⟨st8,⟨ha9,O8.out.fine,O8.out.le,O8.out.fits,O8.out.big,O8.out.words.keep (KeepD.dr O8.out.at_ hg9),O8.out.fin⟩,by
      rw [E8.out,HDL.out,RdR.bind_assoc];rfl⟩⟩
     have LX:=hid (lim7 (C:=fun st=>(linesM s.data.toList sizes acc M [] st).bind (fun ls=>cF4 sizes a (ar,arP) acc (o,oP) (ls,S))) I9.out);have LS8:=hid O8.out.lenS.2;clear hcut ha9 hg9 hL7 k0 k1 k2 k3 c8 c18 F8 T8;go_upto_region 45 with (first
      | (go_at_call 112;refine LX.out.mono ?_;rintro e w10 ⟨v10,⟨_,rfl⟩,hg10,⟨hbd,hll⟩,hi10⟩;have G10:=hid hg10;have I10:=hid hi10;have B10:=hid (And.intro hbd hll);clear hg10 hbd hll hi10)
      | fail)
     have GI0:Hid (LnG w w10 b G R s sizes acc A1 A2 q1 q2 o { v8 with lines:=L7 } E (fun ls=>cF4 sizes a (ar,arP) acc (o,oP) (ls,S)) M 0 [] [] (.slice none 0 0) v10):=hid
      ⟨by have:=F9.out.gr G10.out;rw [HPL.out] at this;exact this,by have:=T9.out.keep G10.out (fun g e=>by injection e with e;subst e;exact⟨_,_,I9.out.at_⟩) (by decide);rw [HPL.out,← HPE.out] at this;exact this,ownL6_nil _ _,lnD_nil _,I10.out,rfl,fun _=>by rw [B10.out.2];have:=LS8.out;show 0+lenS v8.l≤100000;omega,by decide⟩
     clear F9 T9 I9 LX c7n dd D7 G10 I10;have HMB:=hid (show (M:Int)≤4611686018427387904 from HR8'.out.2);have AP:=hid (show acc.length≤100000 by have:=HPL.out;have:=HP5.out;omega);go_wp2_with fail
     go_loopw [18,19,21,22,23,24,25,27] (fun i _ _ _ _ _ _ _ wr=>∃ (j':Nat) (ls:List LineM) (vs:List (Value × Int)) (lv:Value) (v':DrV),i = .int .i64 (j':Int)∧j'≤M∧LnG w wr b G R s sizes acc A1 A2 q1 q2 o { v8 with lines:=L7 } E (fun ls=>cF4 sizes a (ar,arP) acc (o,oP) (ls,S)) M j' ls vs lv v') (fun i _ _ _ _ _ _ _ _=>M - (intOf i).toNat)
     case atStart=>exact⟨0,[],[],_,v10,rfl,Nat.zero_le _,GI0.out⟩
     case round =>
      obtain⟨t,ls,vs,lv,v',rfl,ht,hg⟩:=hrel;have LG:=hid hg;have HTM:=hid ht;clear hg GI0 ht;have c3:wr.cell? ⟨b,3,none⟩=some (.int .i64 v'.bad):=LG.out.rd.at_.cell (i:=3) rfl;obtain⟨A3,c3',rfl,hcv⟩:=LG.out.own.form;have HCV:=hid hcv;have HVL:=hid LG.out.lis.1;clear hcv;by_cases hlt:t < M
      ·have d5:decide ((t:Int) < (M:Int))=true:=decide_eq_true (Int.ofNat_lt.2 hlt)
       by_cases hb:v'.bad=0
       ·
        rw [hb] at c3;have HB0:=hid hb;have HLT:=hid hlt;have CNT:=hid (LG.out.cnt hb);clear hb hlt;obtain⟨wq,ewq⟩:∃ W,W=wr:=⟨wr,rfl⟩
        rw [← ewq] at LG c3 ⊢;clear ewq;obtain⟨k0,k1,k2,k3⟩:=LG.out.f.cells;have hap:acc.length≤100000:=AP.out;have X0:=hid (heap_alloc_new wq (.cells #[.slice none 0 0,.int .i64 0] 117));have N0:=hid (new_val wq (.cells #[.slice none 0 0,.int .i64 0] 117));have TP0:Hid (TpD wq (wq.alloc (.cells #[.slice none 0 0,.int .i64 0] 117)) b wq.heap.size s sizes acc v' E (fun x s'=>((numM s.data.toList 0 4611686018427387904 s').bind fun c s''=>if ls.any (fun y=>y.1 == x) then .bad 4 c.2 else linesM s.data.toList sizes acc (M - (t+1)) (ls++[(x,c.1)]) s'').bind (fun ls=>cF4 sizes a (ar,arP) acc (o,oP) (ls,S))) 0 [] (.slice none 0 0) v'):=hid
         ⟨X0.out,own6_nil _ _,Gr.below N0.out,((DrIn.conv ⟨DrNear.refl _,LG.out.rd.2⟩ (fun st=>by rw [linesM_next (by have:=HLT.out;omega),RdR.bind_assoc];rfl)).below N0.out),rfl,fun _=>Nat.le_refl _,Nat.le_refl _,LG.out.rd.at_.lt⟩
        go_upto_region 49 with fail
        clear c3;have k1':(wq.alloc (.cells #[.slice none 0 0,.int .i64 0] 117)).cell? ⟨G,1,none⟩=some (.slice A2 acc.length q2):=(LG.out.f.below N0.out).cells.2.1;clear k0 k1 k2 k3 X0 N0
        change Code.wp _ _ _ _ (wq.alloc (.cells #[.slice none 0 0,.int .i64 0] 117))
        generalize wq.alloc (.cells #[.slice none 0 0,.int .i64 0] 117)=w11 at k1' TP0 ⊢;obtain⟨X,hX⟩:∃ X,wq.heap.size=X:=⟨_,rfl⟩
        rw [hX] at TP0 ⊢;have HXE:=hid hX;clear hX;go_wp2_with fail
        go_loopw [21,22,23,215] (fun _ _ _ i wr=>∃ (q:Nat) (tup:List Nat) (tv:Value) (vt:DrV),i = .int .i64 (q:Int)∧q≤acc.length∧TpD wq wr b X s sizes acc v' E (fun x s'=>((numM s.data.toList 0 4611686018427387904 s').bind fun c s''=>if ls.any (fun y=>y.1 == x) then .bad 4 c.2 else linesM s.data.toList sizes acc (M - (t+1)) (ls++[(x,c.1)]) s'').bind (fun ls=>cF4 sizes a (ar,arP) acc (o,oP) (ls,S))) q tup tv vt) (fun _ _ _ i _=>acc.length - (intOf i).toNat)
        case atStart=>exact⟨0,[],_,_,rfl,Nat.zero_le _,TP0.out⟩
        case round =>
         obtain⟨q,tup,tv,vt,rfl,hq,htp⟩:=hrel;have TP:=hid htp;clear htp TP0 k1';obtain⟨At,ct,rfl,hct⟩:=TP.out.own.form;by_cases hqa:q < acc.length
         ·
          have d6:decide ((q:Int) < (acc.length:Int))=true:=decide_eq_true (Int.ofNat_lt.2 hqa);have I6q:=hid ((LG.out.two.b.viewN.2.2).keep (KeepD.dr LG.out.rd.at_ TP.out.gr));obtain⟨gz,oz,rfl,cz⟩:=I6q.out.at_ (show q < (pickN sizes acc).length by rw [HPE.out,HPL.out];exact hqa);have NUM:=hid (num7 (TP.out.rd.conv (fun st=>by rw [tupleM_drop hqa,RdR.bind_assoc])));have hz9:=HPM.out (nth (pickN sizes acc) q) (by rw [HPE.out];exact nth_mem (by rw [HPL.out];exact hqa));generalize nth (pickN sizes acc) q=z at cz NUM hz9;obtain⟨z1,z2⟩:=wr_pred z hz9;clear hz9;have HTL:=hid TP.out.len;go_upto_region 53 with (first
           | (go_at_call 113;refine NUM.out.mono ?_;rintro e w12 ⟨n',p',v12,rfl,hr,-,hk,hcn,hg,hi⟩;have HR:=hid hr;have HKC:=hid (And.intro hk hcn);have G12:=hid hg;have I12:=hid hi;clear hr hk hcn hg hi)
           | fail)
          clear z1 z2;obtain⟨y,rfl⟩:=Int.eq_ofNat_of_zero_le (show 0≤n' by rcases HR.out with h | h;exact h.1;exact Int.le_of_eq h.1.symm);have J12:=hid (I12.out.conv (C':=fun st=>(tupleM s.data.toList sizes (acc.drop (q+1)) (tup++[y]) st).bind (fun x s'=>((numM s.data.toList 0 4611686018427387904 s').bind fun c s''=>if ls.any (fun y=>y.1 == x) then .bad 4 c.2 else linesM s.data.toList sizes acc (M - (t+1)) (ls++[(x,c.1)]) s'').bind (fun ls=>cF4 sizes a (ar,arP) acc (o,oP) (ls,S)))) (fun st=>by simp only [Int.toNat_natCast]));have CN:=hid (show v12.bad=0→lenS v12.l≤lenS v'.l from fun h=>by
           have h1:=HKC.out.2 h;have h2:=TP.out.cnt (Classical.byContradiction fun h3=>HKC.out.1 h3 h);omega)
          obtain⟨kx,ko,-⟩:=TP.out.keepW G12.out;have na:=new_val w12 (.cells #[.int .i64 (y:Int)] 2);have NA:=hid na;have CY:Hid ((w12.alloc (.cells #[.int .i64 (y:Int)] 2)).cell? ((⟨w12.heap.size,0,none⟩:Addr).add 0)=some (.int .i64 (y:Int))):=hid (by
           show (w12.alloc _).cell? ⟨w12.heap.size,0,none⟩=_;rw [cell_of_row _ _ _ _ _ _ (heap_alloc_new w12 _)];rfl)
          have OA:=hid (ko.keepB (fun g _ h _=>na.block g h));have kx0:(w12.alloc (.cells #[.int .i64 (y:Int)] 2)).cell? ⟨X,0,none⟩=some (.slice At tup.length ct):=by
           rw [cell_of_row _ _ _ _ _ _ ((na.block X (Array.getElem?_eq_some_iff.1 kx).1).trans kx)];rfl
          have XA:=hid ((na.block X (Array.getElem?_eq_some_iff.1 kx).1).trans kx);have BZ:=hid (show wq.heap.size≤(w12.alloc (.cells #[.int .i64 (y:Int)] 2)).heap.size from Nat.le_trans (TP.out.gr.trans G12.out).size na.size);have TL9:=hid (show tup.length≤1000000 by rw [HTL.out];have:=AP.out;omega);have kx':w12.cell? ⟨X,0,none⟩=some (.slice At tup.length ct):=by rw [cell_of_row _ _ _ _ _ _ kx];rfl
          clear na kx ko I12 NUM;go_upto_region 54 with (first
           | (at_builtin;refine push6 rfl (.tmp 227) (.tmp 229) rfl _ wq.heap.size y _ tup ⟨w12.heap.size,0,none⟩ rfl rfl OA.out CY.out BZ.out TL9.out ?_;intro v6 w13 h1 h2 h3;obtain⟨A6,q6,rfl⟩:=h1.formN (m:=tup.length+1) (by simp);have fx:=frozen_of_row w13 X 0 _ _ (xrow OA.out XA.out h2);have kx2:w13.cell? ⟨X,0,none⟩=some (.slice At tup.length ct):=(by rw [cell_of_row _ _ _ _ _ _ (xrow OA.out XA.out h2)];rfl);have TN:=hid (TP.out.next G12.out J12.out CN.out NA.out OA.out h1 h2);clear h1 h2 h3)
           | fail)
          clear kx0 kx' kx2 fx;have hq5:q≤100000:=by have:=AP.out;omega
          change Code.wp _ _ _ _ (w13.setCell ⟨X,0,none⟩ (.slice A6 (tup.length+1) q6))
          generalize w13.setCell ⟨X,0,none⟩ (.slice A6 (tup.length+1) q6)=w14 at TN ⊢;go_wp2_with fail
          go_roundw
          case rel=>exact⟨q+1,tup++[y],_,v12,by go_num,by omega,TN.out⟩
          case measure=>simp [intOf];omega
         ·
          have d6:decide ((q:Int) < (acc.length:Int))=false:=decide_eq_false (by omega);have HQ:Hid (q=acc.length):=hid (by omega);have RD5:=hid (TP.out.rd.conv (C':=fun s'=>(numM s.data.toList 0 4611686018427387904 s').bind fun c s''=>if ls.any (fun y=>y.1 == tup) then .bad 4 c.2 else (linesM s.data.toList sizes acc (M - (t+1)) (ls++[(tup,c.1)]) s'').bind (fun ls=>cF4 sizes a (ar,arP) acc (o,oP) (ls,S))) (fun st=>by
           rw [HQ.out,List.drop_length];show ((numM _ 0 _ st).bind _).bind _=_;rw [RdR.bind_assoc];congr 1
           funext c s''
           split <;> rfl))
          have NUM:=hid (num7 RD5.out);go_upto_region 56 with (first
           | (go_at_call 113;refine NUM.out.mono ?_;rintro e w12 ⟨c,cp,v12,rfl,hr,-,hk,hcn,hg,hi⟩;have HR:=hid hr;have HKC:=hid (And.intro hk hcn);have G12:=hid hg;have I12:=hid hi;clear hr hk hcn hg hi)
           | fail)
          have HQ2:=HQ;have GQ:=hid (TP.out.gr.trans G12.out);have M0:Hid (MtD wq w12 b X s tup (.slice At tup.length ct) ls cp v' E (fun s''=>(linesM s.data.toList sizes acc (M - (t+1)) (ls++[(tup,c)]) s'').bind (fun ls=>cF4 sizes a (ar,arP) acc (o,oP) (ls,S))) 0 v12):=hid
           ⟨(TP.out.keepW G12.out).1,(TP.out.keepW G12.out).2.1,GQ.out,I12.out,fun _ i y _ h=>absurd h (Nat.not_lt_zero _),fun h=>by
            have h1:=HKC.out.2 h;have h2:=TP.out.cnt (Classical.byContradiction fun h3=>HKC.out.1 h3 h);omega,TP.out.far⟩
          have k3:w12.cell? ⟨G,3,none⟩=some (.slice A3 vs.length c3'):=(LG.out.f.gr GQ.out).cells.2.2.2;have LV0:Hid (LnV wq A3 ls):=hid (by
           obtain⟨A,c,e,-,h⟩:=LG.out.own.view LG.out.lis;injection e with e1;subst e1;exact h)
          have hv9:vs.length≤200000:=by rw [HVL.out,LG.out.len];have:=LG.out.few;omega
          have HV9:=hid hv9;have TL9:=hid (show tup.length≤1000000 by rw [TP.out.len];have:=AP.out;omega);clear d6 NUM I12 G12 RD5 HQ2 hqa hq;go_wp2_with fail
          go_loopw [27,241] (fun _ i wr=>∃ (q:Nat) (vm:DrV),i = .int .i64 (q:Int)∧q≤vs.length∧MtD wq wr b X s tup (.slice At tup.length ct) ls cp v' E (fun s''=>(linesM s.data.toList sizes acc (M - (t+1)) (ls++[(tup,c)]) s'').bind (fun ls=>cF4 sizes a (ar,arP) acc (o,oP) (ls,S))) q vm) (fun _ i _=>vs.length - (intOf i).toNat)
          case atStart=>exact⟨0,v12,rfl,Nat.zero_le _,M0.out⟩
          case round =>
           obtain⟨u,vm,rfl,hu,hmt⟩:=hrel;have MT:=hid hmt;clear hmt M0 k3;by_cases hul:u < vs.length
           ·
            have d7:decide ((u:Int) < (vs.length:Int))=true:=decide_eq_true (Int.ofNat_lt.2 hul);obtain⟨yl,hyl⟩:∃ y,ls[u]? = some y:=⟨_,List.getElem?_eq_getElem (by rw [← HVL.out];exact hul)⟩
            have HYL:=hid hyl;rcases LV0.out.keep (KeepD.dr LG.out.rd.at_ MT.out.gr) with h0 | ⟨gl,ol,cur,fr,rfl,hgl,hcell⟩
            ·rw [h0] at hyl
             simp at hyl
            obtain⟨cy1,Ay,cty,cy0,iy⟩:=hcell u yl hyl;clear hcell hgl hyl;obtain⟨wm,ewm⟩:∃ W,W=wr:=⟨wr,rfl⟩
            rw [← ewm] at MT cy1 cy0 iy ⊢;clear ewm;have na:=new_val wm (.cells #[.slice Ay yl.1.length cty,.int .i64 yl.2] 117);have GY:Hid (Gr wm (wm.alloc (.cells #[.slice Ay yl.1.length cty,.int .i64 yl.2] 117)) b):=hid (Gr.below na);have RY:=hid (MT.out.rd.below na);have XY:=hid ((na.block X (Array.getElem?_eq_some_iff.1 MT.out.x).1).trans MT.out.x);have IX:=hid ((MT.out.own.keepB (fun g _ h _=>na.block g h)).viewN.2.2);have IY:=hid (iy.keep (KeepD.below na));have cb:(wm.alloc (.cells #[.slice Ay yl.1.length cty,.int .i64 yl.2] 117)).cell? ⟨b,3,none⟩=some (.int .i64 vm.bad):=RY.out.at_.cell (i:=3) rfl;have cx:(wm.alloc (.cells #[.slice Ay yl.1.length cty,.int .i64 yl.2] 117)).cell? ⟨X,0,none⟩=some (.slice At tup.length ct):=by rw [cell_of_row _ _ _ _ _ _ XY.out];rfl
            have cyy:(wm.alloc (.cells #[.slice Ay yl.1.length cty,.int .i64 yl.2] 117)).cell? ⟨wm.heap.size,0,none⟩=some (.slice Ay yl.1.length cty):=by rw [cell_of_row _ _ _ _ _ _ (heap_alloc_new wm _)];rfl
            clear na iy;go_upto_region 59 with fail
            clear cy1 cy0
            change Code.wp _ _ _ _ (wm.alloc (.cells #[.slice Ay yl.1.length cty,.int .i64 yl.2] 117))
            generalize wm.alloc (.cells #[.slice Ay yl.1.length cty,.int .i64 yl.2] 117)=wy at GY RY XY IX IY cb cx cyy ⊢;generalize wm.heap.size=Y at cyy ⊢;have hu5:u≤200000:=by have:=HV9.out;omega
            by_cases hb:vm.bad=0
            rotate_left
            ··
              have d8:(vm.bad == 0)=false:=by simpa using hb
              have MN:=hid (MT.out.gr' GY.out RY.out (fun h=>absurd h hb) MT.out.cnt);clear hb;go_wp2_with fail
              go_roundw
              case rel=>exact⟨u+1,vm,by go_num,by omega,MN.out⟩
              case measure=>simp [intOf];omega
            rw [hb] at cb;have SM:=hid (same7 At Ay ct cty tup yl.1 wy IX.out IY.out TL9.out);by_cases he:yl.1=tup
            ·
             have ht:(tup == yl.1)=true:=by simp [he]
             rw [ht] at SM;have HANY:=hid (show ls.any (fun y=>y.1 == tup)=true from List.any_eq_true.2 ⟨yl,List.mem_of_getElem? HYL.out,by simp [he]⟩);clear ht hb he;go_wp2_with (first
              | (go_at_call 71;refine SM.out.mono ?_;rintro e w20 ⟨rfl,hb20⟩;have BD:=hid (bad7 (e:=4) (p:=cp) (by decide) ((RY.out.below hb20).conv (fun st=>by rw [if_pos HANY.out])));have GB:=hid (Gr.below (b:=b) hb20);clear hb20)
              | (go_at_call 115;refine BD.out.mono ?_;rintro e w21 ⟨v21,e21,p21,⟨_,rfl⟩,hg,hn,hbd,hE⟩;have MN:=hid (MT.out.gr' ((GY.out.trans GB.out).trans hg) ⟨hn,.inr ⟨e21,p21,hbd,hE⟩⟩ (fun h=>absurd h hbd.bad) (fun h=>absurd h hbd.bad));clear hg hn hbd hE)
              | fail)
             go_roundw
             case rel=>exact⟨u+1,v21,by go_num,by omega,MN.out⟩
             case measure=>simp [intOf];omega
            ·
             have ht:(tup == yl.1)=false:=by simpa using fun h=>he h.symm
             rw [ht] at SM;have NO:Hid (vm.bad=0→∀ i y,ls[i]? = some y→i < u+1→¬ y.1=tup):=hid (fun h i y hy hi=>by
              rcases Nat.lt_or_ge i u with h1 | h1
              ·exact MT.out.no h i y hy h1
              ·have:i=u:=by omega
               subst this;rw [HYL.out] at hy;injection hy with hy;subst hy;exact he)
             clear ht he hb;go_wp2_with (first
              | (go_at_call 71;refine SM.out.mono ?_;rintro e w20 ⟨rfl,hb20⟩;have MN:=hid (MT.out.gr' (GY.out.trans (Gr.below hb20)) (RY.out.below hb20) NO.out MT.out.cnt);clear hb20)
              | fail)
             go_roundw
             case rel=>exact⟨u+1,vm,by go_num,by omega,MN.out⟩
             case measure=>simp [intOf];omega
           ·
            have d7:decide ((u:Int) < (vs.length:Int))=false:=decide_eq_false (by omega);have HU9:Hid (u=ls.length):=hid (by have:=HVL.out;omega);have RX:Hid (DrIn wr b s { v8 with lines:=L7 } vm E (fun s''=>(linesM s.data.toList sizes acc (M - (t+1)) (ls++[(tup,c)]) s'').bind (fun ls=>cF4 sizes a (ar,arP) acc (o,oP) (ls,S)))):=hid (by
             refine⟨LG.out.rd.1.trans MT.out.rd.1,?_⟩;rcases MT.out.rd.2 with ⟨st,h1,h2⟩ | h
             ·refine .inl ⟨st,h1,?_⟩
              refine h2.trans (if_neg ?_);intro hany;obtain⟨y,hy,hyt⟩:=List.any_eq_true.1 hany;obtain⟨i,hi,hie⟩:=List.mem_iff_getElem.1 hy;exact MT.out.no h1.fine i y (by rw [← hie];exact List.getElem?_eq_getElem hi) (by have:=HU9.out;omega) (by simpa using hyt)
             ·exact .inr h)
            have CX:=hid (show vm.bad=0→t+1+lenS vm.l≤100000 from fun h=>by
             have h1:=MT.out.cnt h;have h2:=CNT.out;omega)
            have cx1:wr.cell? ⟨X,1,none⟩=some (.int .i64 0):=by rw [cell_of_row _ _ _ _ _ _ MT.out.x];rfl
            have fx1:wr.frozen? ⟨X,1,none⟩=false:=frozen_of_row _ _ _ _ _ MT.out.x;have XX:=hid (heap_setCell_same wr X 1 _ _ (.int .i64 c) MT.out.x);have gX:=grown_put wr X 1 (.int .i64 c);have GX:=hid (MT.out.gr.fresh gX MT.out.far.1);have OX:=hid (MT.out.own.keepB (w':=wr.setCell ⟨X,1,none⟩ (.int .i64 c)) (fun g e h5 h6=>gX.block g h5 (fun e2=>by
             obtain⟨_,_,cur,h3⟩:=MT.out.own.obj g e;injection e2 with e2;subst e2;rw [MT.out.x] at h3;injection h3 with h3;injection h3 with _ h4;exact absurd h4 (by decide))))
            have RX2:=hid (RX.out.typed (t:=117) gX (fun g e=>by injection e with e;subst e;exact⟨_,_,MT.out.x⟩) (by decide) (by decide));clear gX RX;go_upto_region 63 with fail
            clear cx1 fx1 d7 hul hu
            change Code.wp _ _ _ _ (wr.setCell ⟨X,1,none⟩ (.int .i64 c))
            generalize wr.setCell ⟨X,1,none⟩ (.int .i64 c)=wx at XX GX OX RX2 ⊢;have FX:=hid (LG.out.f.gr GX.out);have k3:=FX.out.cells.2.2.2;have cx0:wx.cell? ⟨X,0,none⟩=some (.slice At tup.length ct):=by rw [cell_of_row _ _ _ _ _ _ XX.out];rfl
            have cx1:wx.cell? ⟨X,1,none⟩=some (.int .i64 c):=by rw [cell_of_row _ _ _ _ _ _ XX.out];rfl
            have na:=new_val wx (.cells #[.slice At tup.length ct,.int .i64 c] 117);have NA:=hid na;have NW:=hid (heap_alloc_new wx (.cells #[.slice At tup.length ct,.int .i64 c] 117));have OLx:Hid (OwnL6 (wx.alloc (.cells #[.slice At tup.length ct,.int .i64 c] 117)) w.heap.size (.slice A3 vs.length c3') vs):=hid ((LG.out.own.keepB (w':=wx) (fun g e h5 h6=>GX.out.block g h5 (fun e2=>by injection e2 with e2;have:=LG.out.f.far;omega))).keepB (fun g _ h _=>na.block g h));have BZ:=hid (show w.heap.size≤(wx.alloc (.cells #[.slice At tup.length ct,.int .i64 c] 117)).heap.size from Nat.le_trans FX.out.k.size na.size);have VL9:=hid (show vs.length≤1000000 by have:=HV9.out;omega);have T5:=hid (show t≤100000 by have:=CNT.out;omega);have fxa:=(FX.out.below na).frozen 3;clear na;go_upto_region 47 with (first
             | (at_builtin;refine pushL6 rfl (.tmp 264) (.tmp 266) rfl (wx.alloc (.cells #[.slice At tup.length ct,.int .i64 c] 117)) w.heap.size wx.heap.size (.slice A3 vs.length c3') vs At tup.length ct c rfl rfl OLx.out NW.out BZ.out VL9.out ?_;intro v30 w30 h1 h2 h3;obtain⟨A30,n30,c30,rfl⟩:=h1.form3;have fg:=(fgl FX.out NA.out OLx.out h2).1;have cg:=(fgl FX.out NA.out OLx.out h2).2;have H30:=hid (And.intro h1 h2);clear h1 h2 h3)
             | fail)
            have KG3:=hid (LG.out.next GX.out OX.out RX2.out CX.out T5.out NA.out OLx.out H30.out.1 H30.out.2);have ht5:t≤100000:=T5.out;have hlt9:t < M:=HLT.out;clear fg cg H30 k3 cx0 cx1 fxa FX NW OLx BZ NA RX2 OX GX XX CX
            change Code.wp _ _ _ _ (w30.setCell ⟨G,3,none⟩ (.slice A30 n30 c30))
            generalize w30.setCell ⟨G,3,none⟩ (.slice A30 n30 c30)=w31 at KG3 ⊢;go_wp2_with fail
            go_roundw
            case rel=>exact⟨t+1,ls++[(tup,c)],vs++[(.slice At tup.length ct,c)],_,vm,by go_num,by omega,KG3.out⟩
            case measure=>simp [intOf];omega
       ·
        have d8:(v'.bad == 0)=false:=by simpa using hb
        obtain⟨e8,p8,hb8',hE8⟩:∃ e p,DrBad wr b e p v'∧E = .bad e p:=by
         rcases LG.out.rd.2 with ⟨st,h1,_⟩ | h
         ·exact absurd h1.fine hb
         exact h
        have F:=hid LG.out.f;have T:=hid LG.out.two;have LV:Hid (LnV wr A3 ls):=hid (by
         obtain⟨A,c,e,-,h⟩:=LG.out.own.view LG.out.lis;injection e with e1;subst e1;exact h)
        have K:Hid (LnK7 s b wr ls v' E (cF4 sizes a (ar,arP) acc (o,oP))):=hid (.inr ⟨e8,p8,hb8',hE8⟩);have NS:=hid (LG.out.rd.1.shared.trans SH8.out);have H3:=hid (And.intro HVL.out (show ls.length≤c3' by have:=HVL.out;have:=HCV.out;omega));clear LG hb hb8' hE8 c7 fz7;have OWc:Hid (OwnFd wr base (.slice Ash us.length csh) us):=hid (by
         rw [← SV.out];exact HO.out.keepB (fun g e h5 h6=>F.out.k.block g h5 (fun e=>by injection e with e;have:=HB.out;omega)))
        have UL:=hid (show us.length≤1000000 by rw [HU.out.1];have:=HA.out.sfew;have:=HK.out.le;have:=HK.out.fits;omega);have OWw:Hid (OwnFd w base (.slice Ash us.length csh) us):=hid (SV.out ▸ HO.out);by_cases hs:ar < 0
        rotate_left
        ·have d1:decide (ar < 0)=false:=decide_eq_false hs
         have HSN:=hid hs;obtain⟨k0,k1,k2,k3⟩:=F.out.cells;go_wp2_with (first
          | ((with_reducible show wpList _ _ _ (Oper.mk none (.store 40 _ _) _ _ _ _::_) _ _);refine wpList_store_row rfl 40 (.tmp 4) (.tmp 280) rfl R #[.slice A1 acc.length q1,.slice A2 acc.length q2,.int .i64 o,.slice A3 vs.length c3'] rfl rfl 40 #[.slice none 0 0,.slice none 0 0,.int .i64 0,.slice none 0 0] F.out.r (by kernel_rfl) rfl (by simp [Value.oneCell']) ?_;change (Exit.then _ _) _ _ _;simp only [Exit.then];apply_assumption;refine wp_ret ?_;exact bodyPost_ret (results_fd rfl _ _ R _ _ _ _ rfl (setRow_heap _ R _ _ _ _ F.out.r)) rfl (fun7_pos F.out T.out H3.out.1 H3.out.2 LV.out NS.out K.out HSN.out HK.out.at_ HO.out HU.out HB.out.1 HB.out.2 _))
          | fail)
        have d1:decide (ar < 0)=true:=decide_eq_true hs;have HSG:=hid hs;have CC:=hid F.out.cells;go_upto_region 65 with fail
        clear hs;have Fd:=hid (F.out.below ((Below.refl wr.heap.size wr).drew));have Td:=hid (T.out.below ((Below.refl wr.heap.size wr).drew));have LVd:=hid (LV.out.keep (KeepD.below ((Below.refl wr.heap.size wr).drew)));have Kd:=hid (K.out.keep (W':=wr.drew) rfl (KeepD.below ((Below.refl wr.heap.size wr).drew)));have OWd:=hid (OWc.out.keepB (w':=wr.drew) (fun g _ _ _=>rfl));have CCd:Hid (wr.drew.cell? ⟨G,0,none⟩=some (.slice A1 acc.length q1)∧wr.drew.cell? ⟨G,1,none⟩=some (.slice A2 acc.length q2)∧wr.drew.cell? ⟨G,2,none⟩=some (.int .i64 o)∧wr.drew.cell? ⟨G,3,none⟩=some (.slice A3 vs.length c3')):=hid CC.out;refine wp_region_noPanic ?_;refine wp_region_held_drew (S:=fun W=>W.cell? ⟨G,0,none⟩=some (.slice A1 acc.length q1)∧W.cell? ⟨G,1,none⟩=some (.slice A2 acc.length q2)∧W.cell? ⟨G,2,none⟩=some (.int .i64 o)∧W.cell? ⟨G,3,none⟩=some (.slice A3 vs.length c3')) (by kernel_rfl) CCd.out (fun hHeld=>?_);generalize wr.drew=wd at hHeld Fd Td LVd Kd OWd CCd ⊢;have Ad:=hid Kd.out.at_;clear F T LV K OWc CC CCd;refine wt 0 ?r601;refine wt 1 ?r602;refine wt 2 ?r603;refine wt 3 ?r604;refine wt 5 ?r605;refine wpAnyH_ready (rs:=[4,6]) (by kernel_rfl) (by simp) ?_;refine AllReadyH.cons rfl (fun K hK=>?_) ?_
        ·have ac:wd.cell? ⟨b,8,none⟩=some (.slice Ash us.length csh):=by rw [← SV.out,← NS.out];exact Ad.out.cell (i:=8) rfl
         go_simp;clear ac;refine hK.out _ _ (hHeld) (fun hHeld'=>?_);replace hHeld:=hHeld';clear hHeld';clear hK K;try simp only [Act.put,pa,pb,pc,pd,pe,pf]
         refine wr1 6 (fun K hK=>?_);go_simp;have na:=new_val wd (.cells #[.slice A1 acc.length q1,.slice A2 acc.length q2,.int .i64 o,.slice A3 vs.length c3'] 40);have NA:=hid na;have NW:=hid (heap_alloc_new wd (.cells #[.slice A1 acc.length q1,.slice A2 acc.length q2,.int .i64 o,.slice A3 vs.length c3'] 40));have A12:Hid (DrAt (wd.alloc (.cells #[.slice A1 acc.length q1,.slice A2 acc.length q2,.int .i64 o,.slice A3 vs.length c3'] 40)) b v'):=hid ((na.block b Ad.out.lt).trans Ad.out);refine hK.out _ _ (hold4 hHeld na) (fun hHeld'=>?_);replace hHeld:=hHeld';clear hHeld';clear na;generalize wd.alloc (.cells #[.slice A1 acc.length q1,.slice A2 acc.length q2,.int .i64 o,.slice A3 vs.length c3'] 40)=w12 at hHeld NA NW A12 ⊢;have OW:Hid (OwnFd w12 base (.slice Ash us.length csh) us):=hid (OWd.out.keepB (fun g _ h1 _=>NA.out.block g h1));generalize wd.heap.size=gl at NW ⊢;clear hK K;try simp only [Act.put,pa,pb,pc,pd,pe,pf]
         refine wr1 7 (fun K hK=>?_);refine pushFd_step rfl (.tmp 274) (.tmp 276) rfl w12 base gl (.slice Ash us.length csh) us A1 A2 A3 acc.length acc.length vs.length q1 q2 c3' o rfl (by rfl) OW.out NW.out (by have:=NA.out.size;have:=Fd.out.k.size;have:=HB.out;omega) UL.out ?_;intro v14 w13 hOx hgx hat;obtain⟨A14,n14,c14,rfl⟩:∃ A n c,v14 = .slice A n c:=by obtain⟨A,c,e,-⟩:=hOx.form;exact⟨A,_,c,e⟩
         have OX:=hid hOx;have GX:=hid hgx;have AT:=hid hat;have A13:Hid (DrAt w13 b v'):=hid ((hgx.block b A12.out.lt (fun e=>by obtain⟨h1,_⟩:=OW.out.obj b e.symm;have:=HB.out.1;omega)).trans A12.out);refine hK.out _ _ (hold4_o hHeld hgx (fun e=>by obtain⟨_,h1,_⟩:=OWw.out.obj _ e;have:=Fd.out.far;omega)) (fun hHeld'=>?_);replace hHeld:=hHeld';clear hHeld';clear hOx hgx hat;clear hK K;try simp only [Act.put,pa,pb,pc,pd,pe,pf]
         refine wt 8 ?r606;refine wt 9 ?r607;refine wr1 10 (fun K hK=>?_);have ac:w13.cell? ⟨b,8,none⟩=some v'.shared:=A13.out.cell (i:=8) rfl;have af:w13.frozen? ⟨b,8,none⟩=false:=A13.out.frozen 8;go_simp;clear ac af;refine hK.out _ _ (hold4_o hHeld (grown_put w13 b 8 _) (fun e=>by injection e with e;have:=Fd.out.far;omega)) (fun hHeld'=>?_);replace hHeld:=hHeld';clear hHeld';clear hK K;try simp only [Act.put,pa,pb,pc,pd,pe,pf]
         refine wpAnyH_done (by kernel_rfl) ?_ _;refine NoPanic.normal ?_;obtain⟨k0,k1,k2,k3⟩:=hHeld;have R15:=hid (fd_row Fd.out OWw.out NA.out GX.out (.slice A14 n14 c14));have r15:=R15.out;clear r15;go_wp2_with (first
          | ((with_reducible show wpList _ _ _ (Oper.mk none (.store 40 _ _) _ _ _ _::_) _ _);refine wpList_store_row rfl 40 (.tmp 4) (.tmp 280) rfl R #[.slice A1 acc.length q1,.slice A2 acc.length q2,.int .i64 o,.slice A3 vs.length c3'] rfl rfl 40 #[.slice none 0 0,.slice none 0 0,.int .i64 0,.slice none 0 0] R15.out (by kernel_rfl) rfl (by simp [Value.oneCell']) ?_;change (Exit.then _ _) _ _ _;simp only [Exit.then];apply_assumption;refine wp_ret ?_;exact bodyPost_ret (results_fd rfl _ _ R _ _ _ _ rfl (setRow_heap _ R _ _ _ _ R15.out)) rfl (fun7_neg Fd.out Td.out H3.out.1 H3.out.2 LVd.out NS.out Kd.out HSG.out HK.out.at_ HO.out HU.out HB.out.1 HB.out.2 NA.out (SV.out ▸ OW.out) OX.out (SV.out ▸ GX.out) (SV.out ▸ AT.out) _))
          | fail)
        refine AllReadyH.cons rfl (fun K hK=>?_) AllReadyH.nil;go_simp;have na:=new_val wd (.cells #[.slice A1 acc.length q1,.slice A2 acc.length q2,.int .i64 o,.slice A3 vs.length c3'] 40);have NA:=hid na;have NW:=hid (heap_alloc_new wd (.cells #[.slice A1 acc.length q1,.slice A2 acc.length q2,.int .i64 o,.slice A3 vs.length c3'] 40));have A12:Hid (DrAt (wd.alloc (.cells #[.slice A1 acc.length q1,.slice A2 acc.length q2,.int .i64 o,.slice A3 vs.length c3'] 40)) b v'):=hid ((na.block b Ad.out.lt).trans Ad.out);refine hK.out _ _ (hold4 hHeld na) (fun hHeld'=>?_);replace hHeld:=hHeld';clear hHeld';clear na;generalize wd.alloc (.cells #[.slice A1 acc.length q1,.slice A2 acc.length q2,.int .i64 o,.slice A3 vs.length c3'] 40)=w12 at hHeld NA NW A12 ⊢;have OW:Hid (OwnFd w12 base (.slice Ash us.length csh) us):=hid (OWd.out.keepB (fun g _ h1 _=>NA.out.block g h1));generalize wd.heap.size=gl at NW ⊢;clear hK K;try simp only [Act.put,pa,pb,pc,pd,pe,pf]
        refine wr1 4 (fun K hK=>?_);have ac:w12.cell? ⟨b,8,none⟩=some (.slice Ash us.length csh):=by rw [← SV.out,← NS.out];exact A12.out.cell (i:=8) rfl
        go_simp;clear ac;refine hK.out _ _ (hHeld) (fun hHeld'=>?_);replace hHeld:=hHeld';clear hHeld';clear hK K;try simp only [Act.put,pa,pb,pc,pd,pe,pf]
        refine wr1 7 (fun K hK=>?_);refine pushFd_step rfl (.tmp 274) (.tmp 276) rfl w12 base gl (.slice Ash us.length csh) us A1 A2 A3 acc.length acc.length vs.length q1 q2 c3' o rfl (by rfl) OW.out NW.out (by have:=NA.out.size;have:=Fd.out.k.size;have:=HB.out;omega) UL.out ?_;intro v14 w13 hOx hgx hat;obtain⟨A14,n14,c14,rfl⟩:∃ A n c,v14 = .slice A n c:=by obtain⟨A,c,e,-⟩:=hOx.form;exact⟨A,_,c,e⟩
        have OX:=hid hOx;have GX:=hid hgx;have AT:=hid hat;have A13:Hid (DrAt w13 b v'):=hid ((hgx.block b A12.out.lt (fun e=>by obtain⟨h1,_⟩:=OW.out.obj b e.symm;have:=HB.out.1;omega)).trans A12.out);refine hK.out _ _ (hold4_o hHeld hgx (fun e=>by obtain⟨_,h1,_⟩:=OWw.out.obj _ e;have:=Fd.out.far;omega)) (fun hHeld'=>?_);replace hHeld:=hHeld';clear hHeld';clear hOx hgx hat;clear hK K;try simp only [Act.put,pa,pb,pc,pd,pe,pf]
        refine wt 8 ?r608;refine wt 9 ?r609;refine wr1 10 (fun K hK=>?_);have ac:w13.cell? ⟨b,8,none⟩=some v'.shared:=A13.out.cell (i:=8) rfl;have af:w13.frozen? ⟨b,8,none⟩=false:=A13.out.frozen 8;go_simp;clear ac af;refine hK.out _ _ (hold4_o hHeld (grown_put w13 b 8 _) (fun e=>by injection e with e;have:=Fd.out.far;omega)) (fun hHeld'=>?_);replace hHeld:=hHeld';clear hHeld';clear hK K;try simp only [Act.put,pa,pb,pc,pd,pe,pf]
        refine wpAnyH_done (by kernel_rfl) ?_ _;refine NoPanic.normal ?_;obtain⟨k0,k1,k2,k3⟩:=hHeld;have R15:=hid (fd_row Fd.out OWw.out NA.out GX.out (.slice A14 n14 c14));have r15:=R15.out;clear r15;go_wp2_with (first
         | ((with_reducible show wpList _ _ _ (Oper.mk none (.store 40 _ _) _ _ _ _::_) _ _);refine wpList_store_row rfl 40 (.tmp 4) (.tmp 280) rfl R #[.slice A1 acc.length q1,.slice A2 acc.length q2,.int .i64 o,.slice A3 vs.length c3'] rfl rfl 40 #[.slice none 0 0,.slice none 0 0,.int .i64 0,.slice none 0 0] R15.out (by kernel_rfl) rfl (by simp [Value.oneCell']) ?_;change (Exit.then _ _) _ _ _;simp only [Exit.then];apply_assumption;refine wp_ret ?_;exact bodyPost_ret (results_fd rfl _ _ R _ _ _ _ rfl (setRow_heap _ R _ _ _ _ R15.out)) rfl (fun7_neg Fd.out Td.out H3.out.1 H3.out.2 LVd.out NS.out Kd.out HSG.out HK.out.at_ HO.out HU.out HB.out.1 HB.out.2 NA.out (SV.out ▸ OW.out) OX.out (SV.out ▸ GX.out) (SV.out ▸ AT.out) _))
         | fail)
      ·
       have d5:decide ((t:Int) < (M:Int))=false:=decide_eq_false (by omega);have HTE:Hid (t=M):=hid (by have:=HTM.out;omega);have F:=hid LG.out.f;have T:=hid LG.out.two;have LV:Hid (LnV wr A3 ls):=hid (by
        obtain⟨A,c,e,-,h⟩:=LG.out.own.view LG.out.lis;injection e with e1;subst e1;exact h)
       have K:Hid (LnK7 s b wr ls v' E (cF4 sizes a (ar,arP) acc (o,oP))):=hid (by
        rcases LG.out.rd.2 with ⟨st,h1,h2⟩ | h
        ·refine .inl ⟨S,st,h1,?_,?_⟩
         ·rw [LG.out.rd.1.lines]
          show L7=S;have h3:=LG.out.cnt h1.fine;have h4:=TL.out;have h5:=HSE.out;have h6:=HTE.out;rw [← HL7.out,if_neg];omega
         rw [h2,HTE.out,Nat.sub_self];rfl
        ·exact .inr h)
       have NS:=hid (LG.out.rd.1.shared.trans SH8.out);have H3:=hid (And.intro HVL.out (show ls.length≤c3' by have:=HVL.out;have:=HCV.out;omega));clear LG c7 fz7;have OWc:Hid (OwnFd wr base (.slice Ash us.length csh) us):=hid (by
        rw [← SV.out];exact HO.out.keepB (fun g e h5 h6=>F.out.k.block g h5 (fun e=>by injection e with e;have:=HB.out;omega)))
       have UL:=hid (show us.length≤1000000 by rw [HU.out.1];have:=HA.out.sfew;have:=HK.out.le;have:=HK.out.fits;omega);have OWw:Hid (OwnFd w base (.slice Ash us.length csh) us):=hid (SV.out ▸ HO.out);by_cases hs:ar < 0
       rotate_left
       ·have d1:decide (ar < 0)=false:=decide_eq_false hs
        have HSN:=hid hs;obtain⟨k0,k1,k2,k3⟩:=F.out.cells;go_wp2_with (first
         | ((with_reducible show wpList _ _ _ (Oper.mk none (.store 40 _ _) _ _ _ _::_) _ _);refine wpList_store_row rfl 40 (.tmp 4) (.tmp 280) rfl R #[.slice A1 acc.length q1,.slice A2 acc.length q2,.int .i64 o,.slice A3 vs.length c3'] rfl rfl 40 #[.slice none 0 0,.slice none 0 0,.int .i64 0,.slice none 0 0] F.out.r (by kernel_rfl) rfl (by simp [Value.oneCell']) ?_;change (Exit.then _ _) _ _ _;simp only [Exit.then];apply_assumption;refine wp_ret ?_;exact bodyPost_ret (results_fd rfl _ _ R _ _ _ _ rfl (setRow_heap _ R _ _ _ _ F.out.r)) rfl (fun7_pos F.out T.out H3.out.1 H3.out.2 LV.out NS.out K.out HSN.out HK.out.at_ HO.out HU.out HB.out.1 HB.out.2 _))
         | fail)
       have d1:decide (ar < 0)=true:=decide_eq_true hs;have HSG:=hid hs;have CC:=hid F.out.cells;go_upto_region 65 with fail
       clear hs;have Fd:=hid (F.out.below ((Below.refl wr.heap.size wr).drew));have Td:=hid (T.out.below ((Below.refl wr.heap.size wr).drew));have LVd:=hid (LV.out.keep (KeepD.below ((Below.refl wr.heap.size wr).drew)));have Kd:=hid (K.out.keep (W':=wr.drew) rfl (KeepD.below ((Below.refl wr.heap.size wr).drew)));have OWd:=hid (OWc.out.keepB (w':=wr.drew) (fun g _ _ _=>rfl));have CCd:Hid (wr.drew.cell? ⟨G,0,none⟩=some (.slice A1 acc.length q1)∧wr.drew.cell? ⟨G,1,none⟩=some (.slice A2 acc.length q2)∧wr.drew.cell? ⟨G,2,none⟩=some (.int .i64 o)∧wr.drew.cell? ⟨G,3,none⟩=some (.slice A3 vs.length c3')):=hid CC.out;refine wp_region_noPanic ?_;refine wp_region_held_drew (S:=fun W=>W.cell? ⟨G,0,none⟩=some (.slice A1 acc.length q1)∧W.cell? ⟨G,1,none⟩=some (.slice A2 acc.length q2)∧W.cell? ⟨G,2,none⟩=some (.int .i64 o)∧W.cell? ⟨G,3,none⟩=some (.slice A3 vs.length c3')) (by kernel_rfl) CCd.out (fun hHeld=>?_);generalize wr.drew=wd at hHeld Fd Td LVd Kd OWd CCd ⊢;have Ad:=hid Kd.out.at_;clear F T LV K OWc CC CCd;refine wt 0 ?r701;refine wt 1 ?r702;refine wt 2 ?r703;refine wt 3 ?r704;refine wt 5 ?r705;refine wpAnyH_ready (rs:=[4,6]) (by kernel_rfl) (by simp) ?_;refine AllReadyH.cons rfl (fun K hK=>?_) ?_
       ·have ac:wd.cell? ⟨b,8,none⟩=some (.slice Ash us.length csh):=by rw [← SV.out,← NS.out];exact Ad.out.cell (i:=8) rfl
        go_simp;clear ac;refine hK.out _ _ (hHeld) (fun hHeld'=>?_);replace hHeld:=hHeld';clear hHeld';clear hK K;try simp only [Act.put,pa,pb,pc,pd,pe,pf]
        refine wr1 6 (fun K hK=>?_);go_simp;have na:=new_val wd (.cells #[.slice A1 acc.length q1,.slice A2 acc.length q2,.int .i64 o,.slice A3 vs.length c3'] 40);have NA:=hid na;have NW:=hid (heap_alloc_new wd (.cells #[.slice A1 acc.length q1,.slice A2 acc.length q2,.int .i64 o,.slice A3 vs.length c3'] 40));have A12:Hid (DrAt (wd.alloc (.cells #[.slice A1 acc.length q1,.slice A2 acc.length q2,.int .i64 o,.slice A3 vs.length c3'] 40)) b v'):=hid ((na.block b Ad.out.lt).trans Ad.out);refine hK.out _ _ (hold4 hHeld na) (fun hHeld'=>?_);replace hHeld:=hHeld';clear hHeld';clear na;generalize wd.alloc (.cells #[.slice A1 acc.length q1,.slice A2 acc.length q2,.int .i64 o,.slice A3 vs.length c3'] 40)=w12 at hHeld NA NW A12 ⊢;have OW:Hid (OwnFd w12 base (.slice Ash us.length csh) us):=hid (OWd.out.keepB (fun g _ h1 _=>NA.out.block g h1));generalize wd.heap.size=gl at NW ⊢;clear hK K;try simp only [Act.put,pa,pb,pc,pd,pe,pf]
        refine wr1 7 (fun K hK=>?_);refine pushFd_step rfl (.tmp 274) (.tmp 276) rfl w12 base gl (.slice Ash us.length csh) us A1 A2 A3 acc.length acc.length vs.length q1 q2 c3' o rfl (by rfl) OW.out NW.out (by have:=NA.out.size;have:=Fd.out.k.size;have:=HB.out;omega) UL.out ?_;intro v14 w13 hOx hgx hat;obtain⟨A14,n14,c14,rfl⟩:∃ A n c,v14 = .slice A n c:=by obtain⟨A,c,e,-⟩:=hOx.form;exact⟨A,_,c,e⟩
        have OX:=hid hOx;have GX:=hid hgx;have AT:=hid hat;have A13:Hid (DrAt w13 b v'):=hid ((hgx.block b A12.out.lt (fun e=>by obtain⟨h1,_⟩:=OW.out.obj b e.symm;have:=HB.out.1;omega)).trans A12.out);refine hK.out _ _ (hold4_o hHeld hgx (fun e=>by obtain⟨_,h1,_⟩:=OWw.out.obj _ e;have:=Fd.out.far;omega)) (fun hHeld'=>?_);replace hHeld:=hHeld';clear hHeld';clear hOx hgx hat;clear hK K;try simp only [Act.put,pa,pb,pc,pd,pe,pf]
        refine wt 8 ?r706;refine wt 9 ?r707;refine wr1 10 (fun K hK=>?_);have ac:w13.cell? ⟨b,8,none⟩=some v'.shared:=A13.out.cell (i:=8) rfl;have af:w13.frozen? ⟨b,8,none⟩=false:=A13.out.frozen 8;go_simp;clear ac af;refine hK.out _ _ (hold4_o hHeld (grown_put w13 b 8 _) (fun e=>by injection e with e;have:=Fd.out.far;omega)) (fun hHeld'=>?_);replace hHeld:=hHeld';clear hHeld';clear hK K;try simp only [Act.put,pa,pb,pc,pd,pe,pf]
        refine wpAnyH_done (by kernel_rfl) ?_ _;refine NoPanic.normal ?_;obtain⟨k0,k1,k2,k3⟩:=hHeld;have R15:=hid (fd_row Fd.out OWw.out NA.out GX.out (.slice A14 n14 c14));have r15:=R15.out;clear r15;go_wp2_with (first
         | ((with_reducible show wpList _ _ _ (Oper.mk none (.store 40 _ _) _ _ _ _::_) _ _);refine wpList_store_row rfl 40 (.tmp 4) (.tmp 280) rfl R #[.slice A1 acc.length q1,.slice A2 acc.length q2,.int .i64 o,.slice A3 vs.length c3'] rfl rfl 40 #[.slice none 0 0,.slice none 0 0,.int .i64 0,.slice none 0 0] R15.out (by kernel_rfl) rfl (by simp [Value.oneCell']) ?_;change (Exit.then _ _) _ _ _;simp only [Exit.then];apply_assumption;refine wp_ret ?_;exact bodyPost_ret (results_fd rfl _ _ R _ _ _ _ rfl (setRow_heap _ R _ _ _ _ R15.out)) rfl (fun7_neg Fd.out Td.out H3.out.1 H3.out.2 LVd.out NS.out Kd.out HSG.out HK.out.at_ HO.out HU.out HB.out.1 HB.out.2 NA.out (SV.out ▸ OW.out) OX.out (SV.out ▸ GX.out) (SV.out ▸ AT.out) _))
         | fail)
       refine AllReadyH.cons rfl (fun K hK=>?_) AllReadyH.nil;go_simp;have na:=new_val wd (.cells #[.slice A1 acc.length q1,.slice A2 acc.length q2,.int .i64 o,.slice A3 vs.length c3'] 40);have NA:=hid na;have NW:=hid (heap_alloc_new wd (.cells #[.slice A1 acc.length q1,.slice A2 acc.length q2,.int .i64 o,.slice A3 vs.length c3'] 40));have A12:Hid (DrAt (wd.alloc (.cells #[.slice A1 acc.length q1,.slice A2 acc.length q2,.int .i64 o,.slice A3 vs.length c3'] 40)) b v'):=hid ((na.block b Ad.out.lt).trans Ad.out);refine hK.out _ _ (hold4 hHeld na) (fun hHeld'=>?_);replace hHeld:=hHeld';clear hHeld';clear na;generalize wd.alloc (.cells #[.slice A1 acc.length q1,.slice A2 acc.length q2,.int .i64 o,.slice A3 vs.length c3'] 40)=w12 at hHeld NA NW A12 ⊢;have OW:Hid (OwnFd w12 base (.slice Ash us.length csh) us):=hid (OWd.out.keepB (fun g _ h1 _=>NA.out.block g h1));generalize wd.heap.size=gl at NW ⊢;clear hK K;try simp only [Act.put,pa,pb,pc,pd,pe,pf]
       refine wr1 4 (fun K hK=>?_);have ac:w12.cell? ⟨b,8,none⟩=some (.slice Ash us.length csh):=by rw [← SV.out,← NS.out];exact A12.out.cell (i:=8) rfl
       go_simp;clear ac;refine hK.out _ _ (hHeld) (fun hHeld'=>?_);replace hHeld:=hHeld';clear hHeld';clear hK K;try simp only [Act.put,pa,pb,pc,pd,pe,pf]
       refine wr1 7 (fun K hK=>?_);refine pushFd_step rfl (.tmp 274) (.tmp 276) rfl w12 base gl (.slice Ash us.length csh) us A1 A2 A3 acc.length acc.length vs.length q1 q2 c3' o rfl (by rfl) OW.out NW.out (by have:=NA.out.size;have:=Fd.out.k.size;have:=HB.out;omega) UL.out ?_;intro v14 w13 hOx hgx hat;obtain⟨A14,n14,c14,rfl⟩:∃ A n c,v14 = .slice A n c:=by obtain⟨A,c,e,-⟩:=hOx.form;exact⟨A,_,c,e⟩
       have OX:=hid hOx;have GX:=hid hgx;have AT:=hid hat;have A13:Hid (DrAt w13 b v'):=hid ((hgx.block b A12.out.lt (fun e=>by obtain⟨h1,_⟩:=OW.out.obj b e.symm;have:=HB.out.1;omega)).trans A12.out);refine hK.out _ _ (hold4_o hHeld hgx (fun e=>by obtain⟨_,h1,_⟩:=OWw.out.obj _ e;have:=Fd.out.far;omega)) (fun hHeld'=>?_);replace hHeld:=hHeld';clear hHeld';clear hOx hgx hat;clear hK K;try simp only [Act.put,pa,pb,pc,pd,pe,pf]
       refine wt 8 ?r708;refine wt 9 ?r709;refine wr1 10 (fun K hK=>?_);have ac:w13.cell? ⟨b,8,none⟩=some v'.shared:=A13.out.cell (i:=8) rfl;have af:w13.frozen? ⟨b,8,none⟩=false:=A13.out.frozen 8;go_simp;clear ac af;refine hK.out _ _ (hold4_o hHeld (grown_put w13 b 8 _) (fun e=>by injection e with e;have:=Fd.out.far;omega)) (fun hHeld'=>?_);replace hHeld:=hHeld';clear hHeld';clear hK K;try simp only [Act.put,pa,pb,pc,pd,pe,pf]
       refine wpAnyH_done (by kernel_rfl) ?_ _;refine NoPanic.normal ?_;obtain⟨k0,k1,k2,k3⟩:=hHeld;have R15:=hid (fd_row Fd.out OWw.out NA.out GX.out (.slice A14 n14 c14));have r15:=R15.out;clear r15;go_wp2_with (first
        | ((with_reducible show wpList _ _ _ (Oper.mk none (.store 40 _ _) _ _ _ _::_) _ _);refine wpList_store_row rfl 40 (.tmp 4) (.tmp 280) rfl R #[.slice A1 acc.length q1,.slice A2 acc.length q2,.int .i64 o,.slice A3 vs.length c3'] rfl rfl 40 #[.slice none 0 0,.slice none 0 0,.int .i64 0,.slice none 0 0] R15.out (by kernel_rfl) rfl (by simp [Value.oneCell']) ?_;change (Exit.then _ _) _ _ _;simp only [Exit.then];apply_assumption;refine wp_ret ?_;exact bodyPost_ret (results_fd rfl _ _ R _ _ _ _ rfl (setRow_heap _ R _ _ _ _ R15.out)) rfl (fun7_neg Fd.out Td.out H3.out.1 H3.out.2 LVd.out NS.out Kd.out HSG.out HK.out.at_ HO.out HU.out HB.out.1 HB.out.2 NA.out (SV.out ▸ OW.out) OX.out (SV.out ▸ GX.out) (SV.out ▸ AT.out) _))
        | fail)
   ·
    have d3:(v8.bad != 0)=true:=by simpa using hb8
    obtain⟨e8,p8,hb8',hE8⟩:∃ e p,DrBad w8 b e p v8∧E = .bad e p:=by
     rcases I8.out.2 with ⟨st,h1,_⟩ | h
     ·exact absurd h1.fine hb8
     exact h
    have HB8:=hid hb8';have HE8:=hid hE8;rw [HPL.out] at k1;clear hb8 hb8' hE8;go_wp2_with (first
     | ((with_reducible show wpList _ _ _ (Oper.mk none (.store 40 _ _) _ _ _ _::_) _ _);refine wpList_store_row rfl 40 (.tmp 4) (.tmp 134) rfl R #[.slice A1 acc.length q1,.slice A2 acc.length q2,.int .i64 o,.slice none 0 0] rfl rfl 40 #[.slice none 0 0,.slice none 0 0,.int .i64 0,.slice none 0 0] R8.out (by kernel_rfl) rfl (by simp [Value.oneCell']) ?_)
     | fail)
    exact bodyPost_ret (results_fd rfl _ _ R _ _ _ _ rfl (setRow_heap _ R _ _ _ _ R8.out)) rfl (fun7_bad R8.out (FrD.of F8.out.k) ⟨F8.out.far.1,by have:=F8.out.far;omega⟩ I8.out.1 HB8.out HE8.out _)
end Go.Proofs.YtmokogkndbinlaaGreatDoor
