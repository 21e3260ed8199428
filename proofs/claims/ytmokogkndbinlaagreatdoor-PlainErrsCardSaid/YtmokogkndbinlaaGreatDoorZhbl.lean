import Derived.Test.YtmokogkndbinlaaGreatDoorZhbk
set_option linter.all false
namespace Go.Proofs.YtmokogkndbinlaaGreatDoor
open Go.Lib (hid)
open Go.RowKit
theorem WL.tail {W:World}{b:Nat}{s:ByteArray}{x:Nat × Nat}{ws:List (Nat × Nat)} {A:Option Addr}{n c:Nat}(h:WL W b (.slice A (n+1) c) s (x::ws)) (hn:ws.length=n) :
  ∃ g o,A=some ⟨g,o,none⟩∧g≠b∧g < W.heap.size∧n+1≤c∧W.cell? ⟨g,o,none⟩=some (.string (s.extract x.1 x.2))∧W.cell? ⟨g,o+1,none⟩=some (.int .i64 (x.1:Int)) ∧
   ∀ A',(ws≠[]→A'=some ⟨g,o+2,none⟩)→WL W b (.slice A' n (c - 1)) s ws:=by
 obtain⟨A0,c0,e,hc,h⟩:=h;injection e with e1 e2 e3;subst e1 e3;simp only [List.length_cons] at hc;rcases h with h | ⟨g,o,cur,fr,rfl,hg,hne,hx⟩
 ·cases h
 have h0:=hx 0 x rfl;simp only [Nat.zero_mul,Nat.add_zero] at h0;refine⟨g,o,rfl,hne,(Array.getElem?_eq_some_iff.1 hg).1,by omega,h0.1,h0.2,fun A' hA=>⟨A',c - 1,by rw [hn],by omega,?_⟩⟩;rcases ws with _ | ⟨y,ws⟩
 ·exact .inl rfl
 refine .inr ⟨g,o+2,cur,fr,hA (by simp),hg,hne,fun j z hz=>?_⟩;have:=hx (j+1) z (by simpa using hz);rw [show o+2+j * 2=o+(j+1) * 2 by omega];exact this
theorem DrAt.put {W:World}{b:Nat}{v v':DrV}(h:DrAt W b v) (i:Nat) (u:Value) (e:(drC v).setIfInBounds i u=drC v'):DrAt (W.setCell ⟨b,i,none⟩ u) b v':=by
 have:=heap_setCell_same W b i _ _ u h;rw [e] at this;exact this
theorem wrV_fine {e p:Int}{v:DrV}(h:v.bad=0):wrV e p v = { v with bad:=e,badAt:=p }:=by unfold wrV;rw [if_pos h]
theorem wrV_bad {e p:Int}{v:DrV}(h:¬ v.bad=0):wrV e p v=v:=by unfold wrV;rw [if_neg h]
theorem growRow (W:World) (b:Nat) (cs:Array Value):W.grownBy (W.setRow b cs) (some b):=⟨rfl,rfl,rfl,by simp,fun k _ hk=>setRow_other W b k cs (fun e=>hk (by rw [e]))⟩
theorem Gr.drewN {X Y:World}{b:Nat}(h:Gr X Y b) (n:Nat):Gr X (Y.drewN n) b:=⟨h.os,h.tape,h.output,h.size,h.block⟩
theorem Gr.drew {X Y:World}{b:Nat}(h:Gr X Y b):Gr X Y.drew b:=⟨h.os,h.tape,h.output,h.size,h.block⟩
theorem Gr.fresh {X Y Z:World}{b g:Nat}(h:Gr X Y b) (k:Gr Y Z g) (hg:X.heap.size≤g):Gr X Z b :=
 ⟨k.os.trans h.os,k.tape.trans h.tape,k.output.trans h.output,Nat.le_trans h.size k.size,fun j hj hne=>(k.block j (Nat.lt_of_lt_of_le hj h.size) (fun e=>by injection e with e;omega)).trans (h.block j hj hne)⟩
theorem Gr.below {X Y:World}{b:Nat}(h:Below X.heap.size X Y):Gr X Y b:=⟨h.os,h.tape,h.output,h.size,fun k hk _=>h.block k hk⟩
theorem results_w {fn:Func}{p:Tmp}(h:fn.results=#[.cell p 173]) (tmps:Array Value) (w:World) (g:Nat) (a b:Value) (hp:tmps.getD p undef = .pointer (some ⟨g,0,none⟩))
  (hg:w.heap[g]? = some (.cells #[a,b] 173 (0,0))):(results fn tmps).run Tryz.prog w = .ok (.agg #[a,b]) w:=by
 have c0:w.cell? ⟨g,0,none⟩=some a:=by rw [cell_of_row _ _ _ _ _ _ hg];rfl
 have c1:w.cell? ⟨g,1,none⟩=some b:=by rw [cell_of_row _ _ _ _ _ _ hg];rfl
 have hp':tmps[p]?.getD undef = .pointer (some ⟨g,0,none⟩):=by simpa using hp
 simp [results,h,hp',go_sem,c0,c1]
set_option maxRecDepth 100000 in
set_option maxHeartbeats 1000000 in
theorem word7_still (b e p:Nat) (v:DrV) (w:World) (h:DrBad w b e p v) :
  Calls Tryz.prog 111 #[.pointer (some ⟨b,0,none⟩)] w fun e' w'=>e' = .returned (.agg #[.string ⟨#[]⟩,.int .i64 0])∧Below w.heap.size w w':=by
 have c3:w.cell? ⟨b,3,none⟩=some (.int .i64 v.bad):=h.at_.cell (i:=3) rfl;have d:(v.bad == 0)=false:=by have:=h.bad;simpa using this
 have hl:=h.at_.lt;clear h;go_enter Tryz.func111,Tryz.ntmps111
 go_wp2_with fail
 exact bodyPost_ret (results_w rfl _ _ w.heap.size _ _ rfl (heap_alloc_new _ _)) rfl ⟨rfl,new_val _ _⟩
set_option maxRecDepth 100000 in
set_option maxHeartbeats 1000000 in
theorem word7_none (b:Nat) (s:ByteArray) (v:DrV) (w:World) (hat:DrAt w b v) (hf:v.bad=0) (hw:WL w b v.l s []) :
  Calls Tryz.prog 111 #[.pointer (some ⟨b,0,none⟩)] w fun e' w'=>e' = .returned (.agg #[.string ⟨#[]⟩,.int .i64 0])∧DrAt w' b { v with bad:=v.ee,badAt:=v.en }∧Gr w w' b:=by
 obtain⟨A,c,hl,-,-⟩:=hw;have hn:=new_val w (.cells #[.string ⟨#[]⟩,.int .i64 0] 173);have a1:DrAt (w.alloc (.cells #[.string ⟨#[]⟩,.int .i64 0] 173)) b v:=(hn.block b hat.lt).trans hat;have n1:=heap_alloc_new w (.cells #[.string ⟨#[]⟩,.int .i64 0] 173);have LT:=hid hat.lt;have HN:=hid hn;have A1:=hid a1;have N1:=hid n1;have HF:=hid hf;have G1:Hid (Gr w (w.alloc (.cells #[.string ⟨#[]⟩,.int .i64 0] 173)) b):=hid ⟨rfl,rfl,rfl,hn.size,fun k hk _=>hn.block k hk⟩;have c3:w.cell? ⟨b,3,none⟩=some (.int .i64 v.bad):=hat.cell (i:=3) rfl;have c0:w.cell? ⟨b,0,none⟩=some (.slice A 0 c):=hl ▸ hat.cell (i:=0) rfl;have c1:w.cell? ⟨b,1,none⟩=some (.int .i64 v.en):=hat.cell (i:=1) rfl;have c2:w.cell? ⟨b,2,none⟩=some (.int .i64 v.ee):=hat.cell (i:=2) rfl;have hbs:=hat.lt;rw [hf] at c3;clear hf hat a1 n1 hn hl;go_enter Tryz.func111,Tryz.ntmps111
 go_upto_region 4 with fail
 have q1:(w.alloc (.cells #[.string ⟨#[]⟩,.int .i64 0] 173)).cell? ⟨b,1,none⟩=some (.int .i64 v.en):=A1.out.cell (i:=1) rfl;have q2:(w.alloc (.cells #[.string ⟨#[]⟩,.int .i64 0] 173)).cell? ⟨b,2,none⟩=some (.int .i64 v.ee):=A1.out.cell (i:=2) rfl;clear c0 c1 c2 c3 HN
 change Code.wp _ _ _ _ (w.alloc (.cells #[.string ⟨#[]⟩,.int .i64 0] 173))
 generalize w.alloc (.cells #[.string ⟨#[]⟩,.int .i64 0] 173)=w1 at A1 N1 G1 q1 q2 ⊢;have WR4:=hid (wrong7 b v.ee v.en v w1.drew A1.out);go_still_tail 9,(by kernel_rfl)
 change wpList _ _ _ _ _ w1.drew
 go_wp2_with (first
  | (go_at_call 115;refine WR4.out.mono ?_;rintro e w' ⟨⟨_,rfl⟩,hd,hg⟩;have N2:=hid ((hg.block w.heap.size (Array.getElem?_eq_some_iff.1 N1.out).1 (fun e=>by injection e with e;have:=LT.out;omega)).trans N1.out);have f0:=frozen_of_row w' w.heap.size 0 _ _ N2.out;have f1:=frozen_of_row w' w.heap.size 1 _ _ N2.out;replace hd:=hid hd;replace hg:=hid hg)
  | ((with_reducible show wpList _ _ _ (Oper.mk none (.store 173 _ _) _ _ _ _::_) _ _);refine wpList_store_row rfl 173 (.tmp 2) (.tmp 26) rfl w.heap.size #[.string ⟨#[]⟩,.int .i64 0] rfl rfl 173 #[.string ⟨#[]⟩,.int .i64 0] N2.out (by kernel_rfl) rfl (by simp [Value.oneCell']) ?_)
  | fail)
 have g2:=growRow w' w.heap.size #[.string ⟨#[]⟩,.int .i64 0];refine bodyPost_ret (results_w rfl _ _ w.heap.size _ _ rfl (setRow_heap _ w.heap.size _ _ _ _ N2.out)) rfl ⟨rfl,?_,(G1.out.drew.trans hg.out).fresh g2 (Nat.le_refl _)⟩;have:=hd.out;rw [wrV_fine HF.out] at this;exact (g2.block b this.lt (fun e=>by injection e with e;have:=LT.out;omega)).trans this
theorem word7_res {n0:Nat}(W:World) (o1:Obj) (a c:Value) (hg:W.heap.size=n0):((W.alloc (.cells #[a,c] 173)).alloc o1).heap[n0]? = some (.cells #[a,c] 173 (0,0)):=by
 have h1:=heap_alloc_new W (.cells #[a,c] 173);rw [← hg];exact ((new_val _ o1).block _ (Array.getElem?_eq_some_iff.1 h1).1).trans h1
theorem word7_end {X:World}{b:Nat}{v:DrV}(hat:DrAt X b v) (lv:Value) (o1 o2:Obj) :
  DrAt (((X.setCell ⟨b,0,none⟩ lv).alloc o1).alloc o2) b { v with l:=lv }∧Gr X (((X.setCell ⟨b,0,none⟩ lv).alloc o1).alloc o2) b:=by
 have a1:DrAt (X.setCell ⟨b,0,none⟩ lv) b { v with l:=lv }:=hat.put 0 lv rfl;have g1:Gr X (X.setCell ⟨b,0,none⟩ lv) b:=grown_put X b 0 lv;have n1:=then_ (new_val (X.setCell ⟨b,0,none⟩ lv) o1) (new_val ((X.setCell ⟨b,0,none⟩ lv).alloc o1) o2);exact⟨(n1.block b a1.lt).trans a1,g1.trans (Gr.below n1)⟩
set_option maxRecDepth 100000 in
set_option maxHeartbeats 1000000 in
theorem word7_some (b:Nat) (s:ByteArray) (v:DrV) (w:World) (x:Nat × Nat) (ws:List (Nat × Nat)) (hat:DrAt w b v) (hf:v.bad=0) (hw:WL w b v.l s (x::ws)) :
  ∃ lv,WL w b lv s ws∧Calls Tryz.prog 111 #[.pointer (some ⟨b,0,none⟩)] w fun e' w'=>e' = .returned (.agg #[.string (s.extract x.1 x.2),.int .i64 (x.1:Int)])∧DrAt w' b { v with l:=lv }∧Gr w w' b:=by
 obtain⟨n,hn⟩:∃ n,ws.length=n:=⟨_,rfl⟩
 obtain⟨A,c,hl,hcl,-⟩:=id hw;rw [List.length_cons,hn] at hl;rw [hl] at hw;obtain⟨g,o,rfl,hgb,hgl,hnc,k0,k1,hT⟩:=hw.tail hn;have hN:=new_val w (.cells #[.string ⟨#[]⟩,.int .i64 0] 173);have HT:=hid hT;have HN:=hid hN;have LT:=hid hat.lt;have c3:w.cell? ⟨b,3,none⟩=some (.int .i64 v.bad):=hat.cell (i:=3) rfl;have c0:w.cell? ⟨b,0,none⟩=some (.slice (some ⟨g,o,none⟩) (n+1) c):=hl ▸ hat.cell (i:=0) rfl;have f0:=hat.frozen 0;have hbs:=hat.lt;rw [hf] at c3;have AT:=hid hat;refine⟨if c=1 then .slice (some ⟨g,o,none⟩) n 0 else .slice (some ⟨g,o+2,none⟩) n (c - 1),?_,?_⟩
 ·split
  ·rename_i hc1
   have:=hT (some ⟨g,o,none⟩) (fun h=>absurd (List.eq_nil_of_length_eq_zero (by omega)) h);rw [hc1] at this;exact this
  exact hT _ (fun h=>rfl)
 clear hf hat hN hl hT hw hn hcl;go_enter Tryz.func111,Tryz.ntmps111
 go_wp2_with fail
 ·
  exact bodyPost_ret (results_w rfl _ _ w.heap.size _ _ rfl (word7_res _ _ _ _ (by simp))) rfl ⟨rfl,word7_end (X:=w) AT.out _ _ _⟩
 ·
  exact bodyPost_ret (results_w rfl _ _ w.heap.size _ _ rfl (word7_res _ _ _ _ (by simp))) rfl ⟨rfl,word7_end (X:=w) AT.out _ _ _⟩
def NumD (s:ByteArray) (b:Nat) (lo hi:Int) (st:RdS) (v':DrV) (n:Int) (p:Nat) (W:World):Prop :=
 (∃ st',numM s.data.toList lo hi st = .ok (n,p) st'∧DrOk W b s st' v')∨∃ e q,numM s.data.toList lo hi st = .bad e q∧DrBad W b e q v'∧n=0
structure DrNear (v v':DrV):Prop where
 shared:v'.shared=v.shared
 lines:v'.lines=v.lines
theorem DrNear.refl (v:DrV):DrNear v v:=⟨rfl,rfl⟩
theorem DrNear.trans {v v' v'':DrV}(h:DrNear v v') (k:DrNear v' v''):DrNear v v'':=⟨k.shared.trans h.shared,k.lines.trans h.lines⟩
theorem DrNear.lg (v:DrV) (is:Bool) (p:Int):DrNear v (lgV is p v):=by unfold lgV;split <;> exact⟨rfl,rfl⟩
set_option maxRecDepth 100000 in
set_option maxHeartbeats 2000000 in
theorem num7_good (b:Nat) (S:ByteArray) (p:Nat) (lo hi:Int) (v1:DrV) (w:World) (hlt:b < w.heap.size) (hS:S.size≤1000000) (P:World→Prop) (hP:∀ X Y,P X→Gr X Y b→DrAt Y b v1→P Y)
  (WD:Calls Tryz.prog 111 #[.pointer (some ⟨b,0,none⟩)] w fun e' w'=>e' = .returned (.agg #[.string S,.int .i64 (p:Int)])∧DrAt w' b v1∧Gr w w' b∧P w')
  (h0:v1.bad=0) (he:readE S.data.toList=0) (h1:lo≤readV S.data.toList) (h2:readV S.data.toList≤hi) :
  Calls Tryz.prog 113 #[.pointer (some ⟨b,0,none⟩),.int .i64 lo,.int .i64 hi] w fun e' w'=>e' = .returned (.tuple #[.int .i64 (readV S.data.toList),.int .i64 (p:Int)])∧DrAt w' b v1∧Gr w w' b∧P w':=by
 have RR:=hid (fun W=>rread_any S W hS);rw [he] at RR;obtain⟨z,hz⟩:∃ z,readV S.data.toList=z:=⟨_,rfl⟩
 rw [hz] at h1 h2 RR ⊢;have d1:decide (z < lo)=false:=decide_eq_false (by omega);have d2:decide (hi < z)=false:=decide_eq_false (by omega);have WD:=hid WD;have H0:=hid h0;have HP:=hid hP;have HL:=hid hlt;clear hS hP h0 he h1 h2 hz hlt;go_enter Tryz.func113,Tryz.ntmps113
 go_upto_region 2 with (first
  | (go_at_call 111;refine WD.out.mono ?_;rintro e w1 ⟨rfl,ha,hg,hp⟩;have c3:w1.cell? ⟨b,3,none⟩=some (.int .i64 v1.bad):=ha.cell (i:=3) rfl;rw [H0.out] at c3;have hbl:=ha.lt;have HA:=hid ha;have HG:=hid hg;have HPP:=hid hp;clear ha hg hp)
  | fail)
 go_wp2_with (first
  | (go_at_call 154;refine (RR.out _).mono ?_;rintro e w2 ⟨rfl,rfl⟩)
  | fail)
 have hn:=new_val w1 (.cells #[.string S,.int .i64 (p:Int)] 173);have q1:(w1.alloc (.cells #[.string S,.int .i64 (p:Int)] 173)).cell? ⟨w1.heap.size,1,none⟩=some (.int .i64 (p:Int)):=by rw [cell_of_row _ _ _ _ _ _ (heap_alloc_new w1 _)];rfl
 have FIN:Hid (DrAt (w1.alloc (.cells #[.string S,.int .i64 (p:Int)] 173)) b v1∧Gr w (w1.alloc (.cells #[.string S,.int .i64 (p:Int)] 173)) b∧P (w1.alloc (.cells #[.string S,.int .i64 (p:Int)] 173))) :=
  hid ⟨(hn.block b HA.out.lt).trans HA.out,HG.out.trans (Gr.below hn),HP.out _ _ HPP.out (Gr.below (b:=b) hn) ((hn.block b HA.out.lt).trans HA.out)⟩
 clear hn c3 hbl HA HG HPP WD RR d1 d2
 change Code.wp _ _ _ _ (w1.alloc (.cells #[.string S,.int .i64 (p:Int)] 173))
 generalize w1.alloc (.cells #[.string S,.int .i64 (p:Int)] 173)=w2 at q1 FIN ⊢;go_quiet (fail)
 go_wp2_with fail
 go_ret2;exact⟨rfl,FIN.out.1,FIN.out.2.1.drewN _,HP.out _ _ FIN.out.2.2 ((Gr.refl _ _).drewN _) FIN.out.1⟩
set_option maxRecDepth 100000 in
set_option maxHeartbeats 2000000 in
theorem num7_bad (b:Nat) (S:ByteArray) (p:Int) (lo hi:Int) (v1:DrV) (w:World) (hlt:b < w.heap.size) (hS:S.size≤1000000)
  (WD:Calls Tryz.prog 111 #[.pointer (some ⟨b,0,none⟩)] w fun e' w'=>e' = .returned (.agg #[.string S,.int .i64 p])∧DrAt w' b v1∧Gr w w' b)
  (h0:v1.bad=0) (hno:¬ (readE S.data.toList=0∧lo≤readV S.data.toList∧readV S.data.toList≤hi)) :
  Calls Tryz.prog 113 #[.pointer (some ⟨b,0,none⟩),.int .i64 lo,.int .i64 hi] w fun e' w'=>e' = .returned (.tuple #[.int .i64 0,.int .i64 0])∧DrAt w' b { v1 with bad:=4,badAt:=p }∧Gr w w' b:=by
 have RR:=hid (fun W=>rread_any S W hS);obtain⟨z,hz⟩:∃ z,readV S.data.toList=z:=⟨_,rfl⟩
 obtain⟨y,hy⟩:∃ y,readE S.data.toList=y:=⟨_,rfl⟩
 rw [hz,hy] at hno RR;have WD:=hid WD;have H0:=hid h0;have HL:=hid hlt;clear hS h0 hz hlt hy;have key:∀ (d1:(y != 0)=true∨((y != 0)=false∧decide (z < lo)=true)∨((y != 0)=false∧decide (z < lo)=false∧decide (hi < z)=true)),Calls Tryz.prog 113 #[.pointer (some ⟨b,0,none⟩),.int .i64 lo,.int .i64 hi] w fun e' w'=>e' = .returned (.tuple #[.int .i64 0,.int .i64 0])∧DrAt w' b { v1 with bad:=4,badAt:=p }∧Gr w w' b:=by
  intro hd;clear hno;rcases hd with d1 | ⟨d0,d1⟩ | ⟨d0,d1,d2⟩
  all_goals
   go_enter Tryz.func113,Tryz.ntmps113
   go_upto_region 2 with (first
    | (go_at_call 111;refine WD.out.mono ?_;rintro e w1 ⟨rfl,ha,hg⟩;have hn:=new_val w1 (.cells #[.string S,.int .i64 p] 173);have q1:(w1.alloc (.cells #[.string S,.int .i64 p] 173)).cell? ⟨w1.heap.size,1,none⟩=some (.int .i64 p):=(by (rw [cell_of_row _ _ _ _ _ _ (heap_alloc_new w1 _)];rfl));have q0:(w1.alloc (.cells #[.string S,.int .i64 p] 173)).cell? ⟨w1.heap.size,0,none⟩=some (.string S):=(by (rw [cell_of_row _ _ _ _ _ _ (heap_alloc_new w1 _)];rfl));have A2:Hid (DrAt (w1.alloc (.cells #[.string S,.int .i64 p] 173)) b v1):=hid ((hn.block b ha.lt).trans ha);have c3:(w1.alloc (.cells #[.string S,.int .i64 p] 173)).cell? ⟨b,3,none⟩=some (.int .i64 v1.bad):=A2.out.cell (i:=3) rfl;rw [H0.out] at c3;have G2:Hid (Gr w (w1.alloc (.cells #[.string S,.int .i64 p] 173)) b):=hid (hg.trans (Gr.below hn));have WR:=hid (wrong7 b 4 p v1 _ A2.out);clear ha hg hn)
    | fail)
   change Code.wp _ _ _ _ (w1.alloc (.cells #[.string S,.int .i64 p] 173))
   generalize w1.alloc (.cells #[.string S,.int .i64 p] 173)=w2 at q0 q1 c3 A2 G2 WR ⊢;go_wp2_with (first
    | (go_at_call 154;refine (RR.out _).mono ?_;rintro e w3 ⟨rfl,rfl⟩)
    | (go_at_call 115;refine WR.out.mono ?_;rintro e w3 ⟨⟨_,rfl⟩,ha,hg⟩;rw [wrV_fine H0.out] at ha;have c4:w3.cell? ⟨b,3,none⟩=some (.int .i64 4):=ha.cell (i:=3) rfl;replace ha:=hid ha;replace hg:=hid hg)
    | fail)
   go_ret2;exact⟨rfl,ha.out,G2.out.trans hg.out⟩
 refine key ?_;by_cases hy:y=0
 ·subst hy
  by_cases h1:z < lo
  ·exact .inr (.inl ⟨rfl,decide_eq_true h1⟩)
  exact .inr (.inr ⟨rfl,decide_eq_false h1,decide_eq_true (by omega)⟩)
 exact .inl (by simpa using hy)
set_option maxRecDepth 100000 in
set_option maxHeartbeats 2000000 in
theorem num7_still (b:Nat) (S:ByteArray) (p:Int) (lo hi:Int) (v1:DrV) (w:World) (hlt:b < w.heap.size) (hS:S.size≤1000000)
  (WD:Calls Tryz.prog 111 #[.pointer (some ⟨b,0,none⟩)] w fun e' w'=>e' = .returned (.agg #[.string S,.int .i64 p])∧DrAt w' b v1∧Gr w w' b)
  (h0:¬ v1.bad=0) :
  Calls Tryz.prog 113 #[.pointer (some ⟨b,0,none⟩),.int .i64 lo,.int .i64 hi] w fun e' w'=>e' = .returned (.tuple #[.int .i64 0,.int .i64 0])∧DrAt w' b v1∧Gr w w' b:=by
 have RR:=hid (fun W=>rread_any S W hS);obtain⟨z,hz⟩:∃ z,readV S.data.toList=z:=⟨_,rfl⟩
 obtain⟨y,hy⟩:∃ y,readE S.data.toList=y:=⟨_,rfl⟩
 rw [hz,hy] at RR;have WD:=hid WD;have d0:(v1.bad == 0)=false:=by simpa using h0
 have d1:(v1.bad != 0)=true:=by simpa using h0
 clear hS h0 hz hlt hy;go_enter Tryz.func113,Tryz.ntmps113
 go_wp2_with (first
  | (go_at_call 111;refine WD.out.mono ?_;rintro e w1 ⟨rfl,ha,hg⟩;have c3:w1.cell? ⟨b,3,none⟩=some (.int .i64 v1.bad):=ha.cell (i:=3) rfl;have hbl:=ha.lt;have HA:=hid ha;have HG:=hid hg;clear ha hg)
  | (go_at_call 154;refine (RR.out _).mono ?_;rintro e w3 ⟨rfl,rfl⟩)
  | fail)
 go_ret2;have hn:=new_val w1 (.cells #[.string S,.int .i64 p] 173);exact⟨rfl,(hn.block b HA.out.lt).trans HA.out,HG.out.trans (Gr.below hn)⟩
def Own6 (W:World) (base:Nat) (v:Value) (l:List Nat):Prop:=W.ownsRow base 2 1 v l.length (intC l)
theorem own6_nil (W:World) (base:Nat):Own6 W base (.slice none 0 0) []:=World.ownsRow_nil W base 2 1
theorem Own6.lt {w:World}{base:Nat}{v:Value}{l:List Nat}(h:Own6 w base v l):∀ k,v.ownBlock=some k→base≤k∧k < w.heap.size:=World.ownsRow.lt h
theorem Own6.grown {w w':World}{base:Nat}{v:Value}{l:List Nat}{row:Option Nat}(h:Own6 w base v l) (hg:w.grownBy w' row) (hne:v.ownBlock=none∨v.ownBlock≠row):Own6 w' base v l:=World.ownsRow.kept h hg hne
theorem Own6.keepB {w w':World}{base:Nat}{v:Value}{l:List Nat}(h:Own6 w base v l) (hk:∀ g,v.ownBlock=some g→g < w.heap.size→base≤g→w'.heap[g]? = w.heap[g]?):Own6 w' base v l:=by
 obtain⟨h1,⟨rfl,hn⟩ | ⟨g,cap,cur,rfl,hb',hh,hm,hx,hs,ht⟩⟩:=h
 ·exact⟨h1,.inl ⟨rfl,hn⟩⟩
 exact⟨h1,.inr ⟨g,cap,cur,rfl,hb',(hk g rfl (Array.getElem?_eq_some_iff.1 hh).1 hb').trans hh,hm,hx,hs,ht⟩⟩
theorem Own6.obj {W:World}{base:Nat}{v:Value}{l:List Nat}(h:Own6 W base v l):∀ g,v.ownBlock=some g→base≤g∧g < W.heap.size∧∃ cur,W.heap[g]? = some (.cells cur 2 (0,0)):=by
 intro g hg;obtain⟨_,⟨rfl,hn⟩ | ⟨g',cap,cur,rfl,hb,hh,_⟩⟩:=h
 ·simp [Value.ownBlock] at hg
 simp [Value.ownBlock] at hg
 subst hg;exact⟨hb,(Array.getElem?_eq_some_iff.1 hh).1,cur,hh⟩
def I6 (W:World) (A:Option Addr) (l:List Nat):Prop :=
 l=[]∨∃ g o cur fr,A=some ⟨g,o,none⟩∧W.heap[g]? = some (.cells cur 2 fr)∧∀ i,i < l.length→W.cell? ⟨g,o+i,none⟩=some (.int .i64 (nth l i:Int))
theorem I6.keepG {W W':World}{A:Option Addr}{l:List Nat}(h:I6 W A l) (hk:∀ (g:Nat) (cur:Array Value) (fr:Nat × Nat),W.heap[g]? = some (.cells cur 2 fr)→W'.heap[g]? = W.heap[g]?):I6 W' A l:=by
 rcases h with rfl | ⟨g,o,cur,fr,rfl,hg,hc⟩
 ·exact .inl rfl
 have e:=hk g cur fr hg;exact .inr ⟨g,o,cur,fr,rfl,e.trans hg,fun i hi=>(World.cell?_of_block (a:=⟨g,o+i,none⟩) e).trans (hc i hi)⟩
theorem I6.keep {W W':World}{A:Option Addr}{l:List Nat}(h:I6 W A l) (hk:KeepD W W'):I6 W' A l:=h.keepG hk.ints
theorem I6.at_ {W:World}{A:Option Addr}{l:List Nat}(h:I6 W A l) {i:Nat}(hi:i < l.length):∃ g o,A=some ⟨g,o,none⟩∧W.cell? ⟨g,o+i,none⟩=some (.int .i64 (nth l i:Int)):=by
 rcases h with rfl | ⟨g,o,cur,fr,rfl,hg,hc⟩
 ·exact absurd hi (by simp)
 exact⟨g,o,rfl,hc i hi⟩
theorem I6.lt {W:World}{g o:Nat}{l:List Nat}(h:I6 W (some ⟨g,o,none⟩) l) (hl:0 < l.length):g < W.heap.size:=by
 rcases h with rfl | ⟨g',o',cur,fr,e,hg,hc⟩
 ·exact absurd hl (by simp)
 injection e with e;injection e with e1 e2;subst e1;exact (Array.getElem?_eq_some_iff.1 hg).1
theorem Own6.form {W:World}{base:Nat}{v:Value}{l:List Nat}(h:Own6 W base v l):∃ A c,v = .slice A l.length c∧l.length≤c∧I6 W A l:=by
 have h':=h;obtain⟨k1,⟨rfl,hn⟩ | ⟨g,cap,cur,rfl,hb',hh,hm,hx,hs,ht⟩⟩:=h
 ·have:l=[]:=List.eq_nil_of_length_eq_zero hn
  subst this;exact⟨none,0,rfl,Nat.le_refl _,.inl rfl⟩
 refine⟨_,cap,rfl,hm,.inr ⟨g,0,cur,(0,0),rfl,hh,fun i hi=>?_⟩⟩;have c1:=World.ownsRow.cellAt (h':W.ownsRow base 2 1 _ l.length _) i (by omega);simp only [Nat.zero_add];refine c1.trans ?_;simp [intC,nth,List.getD,hi]
theorem info_i6:(Tryz.prog.info? 2).map (fun i=>(i.zero,i.size,i.bytes))=some (some (.int .i64 0),1,8):=by kernel_rfl
set_option maxRecDepth 100000 in
theorem push6_wp {o:Oper}{a:Act}{K:Act→World→Prop}{Q:Exit→Act→World→Prop}(s x:Operand)
  (ho:o.op = .call { callee:=.builtin .append,args:=#[s,x],argTypes:=#[34,34] })
  (W:World) (base y:Nat) (v:Value) (l:List Nat) (ad:Addr) (hs:a.eval s=v) (hx:a.eval x = .slice (some ad) 1 1)
  (hown:Own6 W base v l) (hy:W.cell? (ad.add 0)=some (.int .i64 (y:Int))) (hbase:base≤W.heap.size) (hl:l.length≤1000000)
  (h:∀ v' w',Own6 w' base v' (l++[y])→W.grownBy w' v.ownBlock→(v'.ownBlock=v.ownBlock∨v'.ownBlock=some W.heap.size)→K (a.put o.dst v') w') :
  o.wp Tryz.prog a W K Q:=by
 obtain⟨i0,hi,hz0,hz1,hz2⟩:=info_parts info_i6;obtain⟨v',w',hr,h2,h3,h4,h5⟩:=run_append_own_at (P:=Tryz.prog) W base 34 o.type 2 i0 (.int .i64 0) 1 8 Tryz.underlying34 hi hz0 hz1 hz2 rfl (by decide) v l.length _ hown ad 1 1 [.int .i64 (y:Int)] rfl (by
  intro j u hj;rcases j with _ | j
  ·simp at hj;subst hj;exact hy
  ·simp at hj) (by intro u hu;simp at hu;subst hu;rfl) (by unfold maxLen;omega) (by omega) hbase
 unfold Oper.wp execOp;simp only [ho,resolve,invoke,builtin,Sem.run_bind,Sem.run_pure,Result.andThen_ok,List.map_toArray,List.map_cons,List.map_nil,hs,hx,hr];refine h v' w' ?_ h3 h5;unfold Own6;rw [List.length_append,intC,List.map_append];exact h2
theorem push6 {ops:Array Oper}{rest:List Oper}{o:Oper}{a:Act}{Q:Exit→Act→World→Prop}(hgd:o.guard=none) (s x:Operand)
  (ho:o.op = .call { callee:=.builtin .append,args:=#[s,x],argTypes:=#[34,34] })
  (W:World) (base y:Nat) (v:Value) (l:List Nat) (ad:Addr) (hs:a.eval s=v) (hx:a.eval x = .slice (some ad) 1 1)
  (hown:Own6 W base v l) (hy:W.cell? (ad.add 0)=some (.int .i64 (y:Int))) (hbase:base≤W.heap.size) (hl:l.length≤1000000)
  (h:∀ v' w',Own6 w' base v' (l++[y])→W.grownBy w' v.ownBlock→(v'.ownBlock=v.ownBlock∨v'.ownBlock=some W.heap.size)→wpList Tryz.prog ops Q rest (a.put o.dst v') w') :
  wpList Tryz.prog ops Q (o::rest) a W :=
 wpList_plain hgd fun _ hK=>push6_wp s x ho W base y v l ad hs hx hown hy hbase hl fun v' w' h1 h2 h3=>hK _ _ (h v' w' h1 h2 h3)
theorem push6_step {ops:Array Oper}{o:Oper}{a:Act}{K:Act→World→Prop}{Q:Exit→Act→World→Prop}{E:Prop}(hgd:o.guard=none) (s x:Operand)
  (ho:o.op = .call { callee:=.builtin .append,args:=#[s,x],argTypes:=#[34,34] })
  (W:World) (base y:Nat) (v:Value) (l:List Nat) (ad:Addr) (hs:a.eval s=v) (hx:a.eval x = .slice (some ad) 1 1)
  (hown:Own6 W base v l) (hy:W.cell? (ad.add 0)=some (.int .i64 (y:Int))) (hbase:base≤W.heap.size) (hl:l.length≤1000000)
  (h:∀ v' w',Own6 w' base v' (l++[y])→W.grownBy w' v.ownBlock→(v'.ownBlock=v.ownBlock∨v'.ownBlock=some W.heap.size)→K (a.put o.dst v') w') :
  if Region.wanted o (yielded ops a.tmps)=true then Oper.wp Tryz.prog o a W K Q else E:=by
 have hw:Region.wanted o (yielded ops a.tmps)=true:=by simp [Region.wanted,hgd]
 rw [if_pos hw];exact push6_wp s x ho W base y v l ad hs hx hown hy hbase hl h
def OwnL6 (W:World) (base:Nat) (v:Value) (vs:List (Value × Int)):Prop:=W.ownsRow base 117 2 v vs.length (lnC vs)
theorem ownL6_nil (W:World) (base:Nat):OwnL6 W base (.slice none 0 0) []:=World.ownsRow_nil W base 117 2
theorem OwnL6.obj {W:World}{base:Nat}{v:Value}{l:List (Value × Int)} (h:OwnL6 W base v l):∀ g,v.ownBlock=some g→base≤g∧g < W.heap.size∧∃ cur,W.heap[g]? = some (.cells cur 117 (0,0)):=by
 intro g hg;obtain⟨_,⟨rfl,hn⟩ | ⟨g',cap,cur,rfl,hb,hh,_⟩⟩:=h
 ·simp [Value.ownBlock] at hg
 simp [Value.ownBlock] at hg
 subst hg;exact⟨hb,(Array.getElem?_eq_some_iff.1 hh).1,cur,hh⟩
theorem OwnL6.form {W:World}{base:Nat}{v:Value}{vs:List (Value × Int)} (h:OwnL6 W base v vs):∃ A c,v = .slice A vs.length c∧vs.length≤c:=by
 obtain⟨_,⟨rfl,hn⟩ | ⟨g',cap,cur,rfl,hb,hh,hm,_⟩⟩:=h
 ·exact⟨none,0,by rw [hn],by omega⟩
 exact⟨_,_,rfl,hm⟩
theorem info_l6:(Tryz.prog.info? 117).map (fun i=>(i.zero,i.size,i.bytes))=some (some (.agg #[.slice none 0 0,.int .i64 0]),2,32):=by kernel_rfl
theorem two_cells {W:World}{t:TypeId}{x y:Value}{g:Nat}(h:W.heap[g]? = some (.cells #[x,y] t (0,0))):∀ j u,([x,y]:List Value)[j]? = some u→W.cell? ((⟨g,0,none⟩:Addr).add j)=some u:=by
 intro j u hj;rcases j with _ | _ | j
 ·simp at hj
  subst hj;show W.cell? ⟨g,0,none⟩=_;rw [cell_of_row _ _ _ _ _ _ h];rfl
 ·simp at hj
  subst hj;show W.cell? ⟨g,1,none⟩=_;rw [cell_of_row _ _ _ _ _ _ h];rfl
 simp at hj
theorem pushL6_wp {o:Oper}{a:Act}{K:Act→World→Prop}{Q:Exit→Act→World→Prop}(sl x:Operand)
  (ho:o.op = .call { callee:=.builtin .append,args:=#[sl,x],argTypes:=#[38,38] })
  (W:World) (base g:Nat) (v:Value) (vs:List (Value × Int)) (A:Option Addr) (n c:Nat) (y:Int) (hs:a.eval sl=v) (hx:a.eval x = .slice (some ⟨g,0,none⟩) 1 1)
  (hown:OwnL6 W base v vs) (hc:W.heap[g]? = some (.cells #[.slice A n c,.int .i64 y] 117 (0,0))) (hbase:base≤W.heap.size) (hl:vs.length≤1000000)
  (h:∀ v' w',OwnL6 w' base v' (vs++[(.slice A n c,y)])→W.grownBy w' v.ownBlock→(v'.ownBlock=v.ownBlock∨v'.ownBlock=some W.heap.size)→K (a.put o.dst v') w') :
  o.wp Tryz.prog a W K Q:=by
 obtain⟨i0,hi,hz0,hz1,hz2⟩:=info_parts info_l6;obtain⟨v',w',hr,h2,h3,h4,h5⟩:=run_append_own_at (P:=Tryz.prog) W base 38 o.type 117 i0 (.agg #[.slice none 0 0,.int .i64 0]) 2 32 Tryz.underlying38 hi hz0 hz1 hz2 rfl (by decide) v vs.length _ hown ⟨g,0,none⟩ 1 1 [.slice A n c,.int .i64 y] rfl (two_cells hc) (by intro u hu;simp at hu;rcases hu with rfl | rfl <;> rfl) (by unfold maxLen;omega) (by omega) hbase;unfold Oper.wp execOp;simp only [ho,resolve,invoke,builtin,Sem.run_bind,Sem.run_pure,Result.andThen_ok,List.map_toArray,List.map_cons,List.map_nil,hs,hx,hr];refine h v' w' ?_ h3 h5;unfold OwnL6;rw [List.length_append,lnC_snoc];exact h2
theorem pushL6 {ops:Array Oper}{rest:List Oper}{o:Oper}{a:Act}{Q:Exit→Act→World→Prop}(hgd:o.guard=none) (sl x:Operand)
  (ho:o.op = .call { callee:=.builtin .append,args:=#[sl,x],argTypes:=#[38,38] })
  (W:World) (base g:Nat) (v:Value) (vs:List (Value × Int)) (A:Option Addr) (n c:Nat) (y:Int) (hs:a.eval sl=v) (hx:a.eval x = .slice (some ⟨g,0,none⟩) 1 1)
  (hown:OwnL6 W base v vs) (hc:W.heap[g]? = some (.cells #[.slice A n c,.int .i64 y] 117 (0,0))) (hbase:base≤W.heap.size) (hl:vs.length≤1000000)
  (h:∀ v' w',OwnL6 w' base v' (vs++[(.slice A n c,y)])→W.grownBy w' v.ownBlock→(v'.ownBlock=v.ownBlock∨v'.ownBlock=some W.heap.size)→wpList Tryz.prog ops Q rest (a.put o.dst v') w') :
  wpList Tryz.prog ops Q (o::rest) a W :=
 wpList_plain hgd fun _ hK=>pushL6_wp sl x ho W base g v vs A n c y hs hx hown hc hbase hl fun v' w' h1 h2 h3=>hK _ _ (h v' w' h1 h2 h3)
def LnD (W:World) (vs:List (Value × Int)) (ls:List LineM):Prop :=
 vs.length=ls.length∧∀ (i:Nat) (x:LineM),ls[i]? = some x→∃ (At:Option Addr) (ct:Nat),vs[i]? = some (Value.slice At x.1.length ct,x.2)∧I6 W At x.1
theorem lnD_nil (W:World):LnD W [] []:=⟨rfl,fun i x h=>by simp at h⟩
theorem LnD.keepG {W W':World}{vs:List (Value × Int)} {ls:List LineM}(h:LnD W vs ls) (hk:∀ (g:Nat) (cur:Array Value) (fr:Nat × Nat),W.heap[g]? = some (.cells cur 2 fr)→W'.heap[g]? = W.heap[g]?):LnD W' vs ls :=
 ⟨h.1,fun i x hx=>by obtain⟨At,ct,h1,h2⟩:=h.2 i x hx;exact⟨At,ct,h1,h2.keepG hk⟩⟩
theorem LnD.snoc {W:World}{vs:List (Value × Int)} {ls:List LineM}(h:LnD W vs ls) {At:Option Addr}{ct:Nat}{x:LineM}(hx:I6 W At x.1):LnD W (vs++[(.slice At x.1.length ct,x.2)]) (ls++[x]):=by
 refine⟨by simp [h.1],fun i y hy=>?_⟩;by_cases hi:i < ls.length
 ·rw [List.getElem?_append_left hi] at hy
  obtain⟨A',c',h1,h2⟩:=h.2 i y hy;exact⟨A',c',by rw [List.getElem?_append_left (by rw [h.1];exact hi)];exact h1,h2⟩
 have hi':i=ls.length:=by have:=(List.getElem?_eq_some_iff.1 hy).1;simp at this;omega
 subst hi';simp at hy
 subst hy;exact⟨At,ct,by rw [← h.1];simp,hx⟩
def LnV (W:World) (A:Option Addr) (ls:List LineM):Prop :=
 ls=[]∨∃ g o cur fr,A=some ⟨g,o,none⟩∧W.heap[g]? = some (.cells cur 117 fr)∧∀ i x,ls[i]? = some x→W.cell? ⟨g,o+i * 2+1,none⟩=some (.int .i64 x.2)∧∃ At ct,W.cell? ⟨g,o+i * 2,none⟩=some (.slice At x.1.length ct)∧I6 W At x.1
theorem LnV.keep {W W':World}{A:Option Addr}{ls:List LineM}(h:LnV W A ls) (hk:KeepD W W'):LnV W' A ls:=by
 rcases h with rfl | ⟨g,o,cur,fr,rfl,hg,hc⟩
 ·exact .inl rfl
 have e:=hk.line g cur fr hg;refine .inr ⟨g,o,cur,fr,rfl,e.trans hg,fun i x hx=>?_⟩;obtain⟨k1,At,ct,k2,k3⟩:=hc i x hx;exact⟨(World.cell?_of_block e).trans k1,At,ct,(World.cell?_of_block e).trans k2,k3.keep hk⟩
theorem OwnL6.view {W:World}{base:Nat}{v:Value}{vs:List (Value × Int)} {ls:List LineM}(h:OwnL6 W base v vs) (hl:LnD W vs ls):∃ A c,v = .slice A ls.length c∧ls.length≤c∧LnV W A ls:=by
 have h':=h;obtain⟨k1,⟨rfl,hn⟩ | ⟨g,cap,cur,rfl,hb',hh,hm,hx,hs,ht⟩⟩:=h
 ·have:ls=[]:=List.eq_nil_of_length_eq_zero (by rw [← hl.1];exact hn)
  subst this;exact⟨none,0,rfl,Nat.le_refl _,.inl rfl⟩
 refine⟨_,cap,by rw [hl.1],by rw [← hl.1];exact hm,.inr ⟨g,0,cur,(0,0),rfl,hh,fun i x hx=>?_⟩⟩;obtain⟨At,ct,e1,e2⟩:=hl.2 i x hx;obtain⟨a1,a2⟩:=lnC_at vs i _ e1;have hi:i < vs.length:=(List.getElem?_eq_some_iff.1 e1).1;have c1:=World.ownsRow.cellAt (h':W.ownsRow base 117 2 _ vs.length _) (i * 2) (by omega);have c2:=World.ownsRow.cellAt (h':W.ownsRow base 117 2 _ vs.length _) (i * 2+1) (by omega);simp only [Nat.zero_add];exact⟨c2.trans a2,At,ct,c1.trans a1,e2⟩
def fdC (vs:List (Value × Value × Int × Value)):List Value:=vs.flatMap fun x=>[x.1,x.2.1,.int .i64 x.2.2.1,x.2.2.2]
theorem fdC_snoc (vs:List (Value × Value × Int × Value)) (x:Value × Value × Int × Value):fdC (vs++[x])=fdC vs++[x.1,x.2.1,.int .i64 x.2.2.1,x.2.2.2]:=by simp [fdC,List.flatMap_append]
theorem fdC_at:∀ (vs:List (Value × Value × Int × Value)) (i:Nat) (x:Value × Value × Int × Value),vs[i]? = some x→(fdC vs)[i * 4]? = some x.1∧(fdC vs)[i * 4+1]? = some x.2.1∧(fdC vs)[i * 4+2]? = some (.int .i64 x.2.2.1)∧(fdC vs)[i * 4+3]? = some x.2.2.2
 | [],i,x,h=>by simp at h
 | y::r,0,x,h=>by
  simp at h
  subst h;exact⟨rfl,rfl,rfl,rfl⟩
 | y::r,i+1,x,h=>by
  have:=fdC_at r i x (by simpa using h);have e:fdC (y::r)=y.1::y.2.1::.int .i64 y.2.2.1::y.2.2.2::fdC r:=rfl;rw [e,show (i+1) * 4=i * 4+1+1+1+1 by omega];exact this
def OwnFd (W:World) (base:Nat) (v:Value) (vs:List (Value × Value × Int × Value)):Prop:=W.ownsRow base 40 4 v vs.length (fdC vs)
theorem ownFd_nil (W:World) (base:Nat):OwnFd W base (.slice none 0 0) []:=World.ownsRow_nil W base 40 4
theorem OwnFd.keepB {w w':World}{base:Nat}{v:Value}{l:List (Value × Value × Int × Value)} (h:OwnFd w base v l) (hk:∀ g,v.ownBlock=some g→g < w.heap.size→base≤g→w'.heap[g]? = w.heap[g]?):OwnFd w' base v l:=by
 obtain⟨h1,⟨rfl,hn⟩ | ⟨g,cap,cur,rfl,hb',hh,hm,hx,hs,ht⟩⟩:=h
 ·exact⟨h1,.inl ⟨rfl,hn⟩⟩
 exact⟨h1,.inr ⟨g,cap,cur,rfl,hb',(hk g rfl (Array.getElem?_eq_some_iff.1 hh).1 hb').trans hh,hm,hx,hs,ht⟩⟩
theorem OwnFd.obj {W:World}{base:Nat}{v:Value}{l:List (Value × Value × Int × Value)} (h:OwnFd W base v l):∀ g,v.ownBlock=some g→base≤g∧g < W.heap.size∧∃ cur,W.heap[g]? = some (.cells cur 40 (0,0)):=by
 intro g hg;obtain⟨_,⟨rfl,hn⟩ | ⟨g',cap,cur,rfl,hb,hh,_⟩⟩:=h
 ·simp [Value.ownBlock] at hg
 simp [Value.ownBlock] at hg
 subst hg;exact⟨hb,(Array.getElem?_eq_some_iff.1 hh).1,cur,hh⟩
theorem OwnFd.form {W:World}{base:Nat}{v:Value}{vs:List (Value × Value × Int × Value)} (h:OwnFd W base v vs):∃ A c,v = .slice A vs.length c∧vs.length≤c:=by
 obtain⟨_,⟨rfl,hn⟩ | ⟨g',cap,cur,rfl,hb,hh,hm,_⟩⟩:=h
 ·exact⟨none,0,by rw [hn],by omega⟩
 exact⟨_,_,rfl,hm⟩
theorem info_fd:(Tryz.prog.info? 40).map (fun i=>(i.zero,i.size,i.bytes))=some (some (.agg #[.slice none 0 0,.slice none 0 0,.int .i64 0,.slice none 0 0]),4,80):=by kernel_rfl
theorem fd_cells {W:World}{y:Int}{sv zv lv:Value}{g:Nat}(h:W.heap[g]? = some (.cells #[sv,zv,.int .i64 y,lv] 40 (0,0))):∀ j u,([sv,zv,Value.int .i64 y,lv]:List Value)[j]? = some u→W.cell? ((⟨g,0,none⟩:Addr).add j)=some u:=by
 intro j u hj;rcases j with _ | _ | _ | _ | j
 ·simp at hj
  subst hj;show W.cell? ⟨g,0,none⟩=_;rw [cell_of_row _ _ _ _ _ _ h];rfl
 ·simp at hj
  subst hj;show W.cell? ⟨g,1,none⟩=_;rw [cell_of_row _ _ _ _ _ _ h];rfl
 ·simp at hj
  subst hj;show W.cell? ⟨g,2,none⟩=_;rw [cell_of_row _ _ _ _ _ _ h];rfl
 ·simp at hj
  subst hj;show W.cell? ⟨g,3,none⟩=_;rw [cell_of_row _ _ _ _ _ _ h];rfl
 simp at hj
theorem pushFd_wp {o:Oper}{a:Act}{K:Act→World→Prop}{Q:Exit→Act→World→Prop}(sl x:Operand)
  (ho:o.op = .call { callee:=.builtin .append,args:=#[sl,x],argTypes:=#[35,35] })
  (W:World) (base g:Nat) (v:Value) (vs:List (Value × Value × Int × Value)) (A1 A2 A3:Option Addr) (n1 n2 n3 c1 c2 c3:Nat) (y:Int) (hs:a.eval sl=v) (hx:a.eval x = .slice (some ⟨g,0,none⟩) 1 1)
  (hown:OwnFd W base v vs) (hc:W.heap[g]? = some (.cells #[.slice A1 n1 c1,.slice A2 n2 c2,.int .i64 y,.slice A3 n3 c3] 40 (0,0))) (hbase:base≤W.heap.size) (hl:vs.length≤1000000)
  (h:∀ v' w',OwnFd w' base v' (vs++[(.slice A1 n1 c1,.slice A2 n2 c2,y,.slice A3 n3 c3)])→W.grownBy w' v.ownBlock→(v'.ownBlock=v.ownBlock∨v'.ownBlock=some W.heap.size)→K (a.put o.dst v') w') :
  o.wp Tryz.prog a W K Q:=by
 obtain⟨i0,hi,hz0,hz1,hz2⟩:=info_parts info_fd;obtain⟨v',w',hr,h2,h3,h4,h5⟩:=run_append_own_at (P:=Tryz.prog) W base 35 o.type 40 i0 (.agg #[.slice none 0 0,.slice none 0 0,.int .i64 0,.slice none 0 0]) 4 80 Tryz.underlying35 hi hz0 hz1 hz2 rfl (by decide) v vs.length _ hown ⟨g,0,none⟩ 1 1 [.slice A1 n1 c1,.slice A2 n2 c2,.int .i64 y,.slice A3 n3 c3] rfl (fd_cells hc) (by intro u hu;simp at hu;rcases hu with rfl | rfl | rfl | rfl <;> rfl) (by unfold maxLen;omega) (by omega) hbase;unfold Oper.wp execOp;simp only [ho,resolve,invoke,builtin,Sem.run_bind,Sem.run_pure,Result.andThen_ok,List.map_toArray,List.map_cons,List.map_nil,hs,hx,hr];refine h v' w' ?_ h3 h5;unfold OwnFd;rw [List.length_append,fdC_snoc];exact h2
theorem pushFd_step {ops:Array Oper}{o:Oper}{a:Act}{K:Act→World→Prop}{Q:Exit→Act→World→Prop}{E:Prop}(hgd:o.guard=none) (sl x:Operand)
  (ho:o.op = .call { callee:=.builtin .append,args:=#[sl,x],argTypes:=#[35,35] })
  (W:World) (base g:Nat) (v:Value) (vs:List (Value × Value × Int × Value)) (A1 A2 A3:Option Addr) (n1 n2 n3 c1 c2 c3:Nat) (y:Int) (hs:a.eval sl=v) (hx:a.eval x = .slice (some ⟨g,0,none⟩) 1 1)
  (hown:OwnFd W base v vs) (hc:W.heap[g]? = some (.cells #[.slice A1 n1 c1,.slice A2 n2 c2,.int .i64 y,.slice A3 n3 c3] 40 (0,0))) (hbase:base≤W.heap.size) (hl:vs.length≤1000000)
  (h:∀ v' w',OwnFd w' base v' (vs++[(.slice A1 n1 c1,.slice A2 n2 c2,y,.slice A3 n3 c3)])→W.grownBy w' v.ownBlock→(v'.ownBlock=v.ownBlock∨v'.ownBlock=some W.heap.size)→K (a.put o.dst v') w') :
  if Region.wanted o (yielded ops a.tmps)=true then Oper.wp Tryz.prog o a W K Q else E:=by
 have hw:Region.wanted o (yielded ops a.tmps)=true:=by simp [Region.wanted,hgd]
 rw [if_pos hw];exact pushFd_wp sl x ho W base g v vs A1 A2 A3 n1 n2 n3 c1 c2 c3 y hs hx hown hc hbase hl h
def FnV (W:World) (sizes:List Nat) (sv zv lv:Value) (f:FunM):Prop :=
 (∃ A c,sv = .slice A f.scope.length c∧f.scope.length≤c∧I6 W A f.scope)∧(∃ A c,zv = .slice A f.scope.length c∧f.scope.length≤c∧I6 W A (pickN sizes f.scope))∧∃ A c,lv = .slice A f.lines.length c∧f.lines.length≤c∧LnV W A f.lines
theorem FnV.keep {W W':World}{sizes:List Nat}{sv zv lv:Value}{f:FunM}(h:FnV W sizes sv zv lv f) (hk:KeepD W W'):FnV W' sizes sv zv lv f:=by
 obtain⟨⟨A,c,h1,h0,h2⟩,⟨A2,c2,h5,h6,h7⟩,A',c',h3,h8,h4⟩:=h;exact⟨⟨A,c,h1,h0,h2.keep hk⟩,⟨A2,c2,h5,h6,h7.keep hk⟩,A',c',h3,h8,h4.keep hk⟩
def FdIs (W:World) (sizes:List Nat) (vs:List (Value × Value × Int × Value)) (fs:List FunM):Prop :=
 vs.length=fs.length∧∀ (i:Nat) (f:FunM),fs[i]? = some f→∃ sv zv lv,vs[i]? = some (sv,zv,f.other,lv)∧FnV W sizes sv zv lv f
theorem fdIs_nil (W:World) (sizes:List Nat):FdIs W sizes [] []:=⟨rfl,fun i x h=>by simp at h⟩
theorem FdIs.keep {W W':World}{sizes:List Nat}{vs:List (Value × Value × Int × Value)} {fs:List FunM}(h:FdIs W sizes vs fs) (hk:KeepD W W'):FdIs W' sizes vs fs :=
 ⟨h.1,fun i x hx=>by obtain⟨sv,zv,lv,h1,h2⟩:=h.2 i x hx;exact⟨sv,zv,lv,h1,h2.keep hk⟩⟩
theorem FdIs.snoc {W:World}{sizes:List Nat}{vs:List (Value × Value × Int × Value)} {fs:List FunM}(h:FdIs W sizes vs fs) {sv zv lv:Value}{f:FunM}(hx:FnV W sizes sv zv lv f):FdIs W sizes (vs++[(sv,zv,f.other,lv)]) (fs++[f]):=by
 refine⟨by simp [h.1],fun i y hy=>?_⟩;by_cases hi:i < fs.length
 ·rw [List.getElem?_append_left hi] at hy
  obtain⟨sv',zv',lv',h1,h2⟩:=h.2 i y hy;exact⟨sv',zv',lv',by rw [List.getElem?_append_left (by rw [h.1];exact hi)];exact h1,h2⟩
 have hi':i=fs.length:=by have:=(List.getElem?_eq_some_iff.1 hy).1;simp at this;omega
 subst hi';simp at hy
 subst hy;exact⟨sv,zv,lv,by rw [← h.1];simp,hx⟩
end Go.Proofs.YtmokogkndbinlaaGreatDoor
