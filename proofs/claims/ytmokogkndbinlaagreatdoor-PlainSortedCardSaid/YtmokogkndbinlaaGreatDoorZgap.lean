import Derived.Test.YtmokogkndbinlaaGreatDoorZgao
set_option linter.all false
namespace Go.Proofs.YtmokogkndbinlaaGreatDoor
open Go.Lib (hid)
attribute [local go_sem ↓] run_mx2
open Go.RowKit
set_option maxRecDepth 100000 in
set_option maxHeartbeats 4000000 in
theorem functionR (b sc base cs : Nat) (As : Option Addr) (sizes : List Nat) (s : ByteArray) (st : RdS) (v : RdV) (a : AccM) (us : List (Value × Int × Value)) (w : World)
  (hnv : sizes.length ≤ 100000) (hn1 : 1 ≤ sizes.length) (hsm : ∀ x ∈ sizes, x ≤ 4611686018427387904) (h : RdOk w b sc s st v) (hv : v.sizes = .slice As sizes.length cs) (hS : IntsT w b sc As sizes) (hT : TabK w b sc) (hA : AccOk sizes a st) (htd : v.told = a.told)
  (hO : OwnFn w base v.shared us) (hU : FnIs w b sc us (a.shared.map (topF v.top))) (hb : b < base) (hs : sc < base) (hgb : 3 < base) (hbase : base ≤ w.heap.size) :
  Calls Tryz.prog 135 #[.pointer (some ⟨b, 0, none⟩)] w (FnPost s b sc base v a (funM s.data.toList sizes a st) w) := by
 obtain ⟨E, hE⟩ : ∃ E, funM s.data.toList sizes a st = E := ⟨_, rfl⟩
 rw [hE]
 rw [funM_cps] at hE
 have I0 : Hid (RdIn w b sc s v v E (fun st => (numM s.data.toList (-4611686018427387904) 4611686018427387904 st).bind (cF1 s.data.toList sizes a))) := hid ⟨RdNear.refl v, .inl ⟨st, h, hE.symm⟩⟩
 have hk := h.le
 have hft := h.fits
 have HV := hid hv
 have HSM := hid hsm
 have HS := hid hS
 have HT := hid hT
 have HTD := hid htd
 have HO := hid hO
 have HU := hid hU
 have HB := hid (And.intro hb (And.intro hs hgb))
 have BS := hid hbase
 have HW := hid (show b < w.heap.size ∧ sc < w.heap.size ∧ 3 < w.heap.size from ⟨by omega, by omega, by omega⟩)
 have TD := hid (show 0 ≤ v.told ∧ v.told ≤ 100000 from ⟨by rw [htd]; exact hA.told0, by have := hA.told1; omega⟩)
 have AF := hid (show (∀ f ∈ a.shared, f.scope.length ≤ 100001 ∧ ∀ x ∈ f.scope, x < sizes.length) ∧ a.shared.length ≤ 100000 from ⟨fun f hf => ⟨by have := hA.far f hf; omega, (hA.shared f hf).below⟩, by have := hA.sfew; omega⟩)
 have UL : Hid (us.length ≤ 1000000) := hid (by have h1 := hU.1; have h2 := hA.sfew; simp at h1; omega)
 clear hE h hv hsm hS hT hA htd hO hU hb hs hgb hbase hk hft
 go_enter Tryz.func135, Tryz.ntmps135
 have N1 := hid (new_val w (.cells #[.slice none 0 0, .int .i64 0, .slice none 0 0] 202))
 have X1 := hid (heap_alloc_new w (.cells #[.slice none 0 0, .int .i64 0, .slice none 0 0] 202))
 have NI := hid (numIn (I0.out.below N1.out))
 go_upto_region 2 with (first | (go_at_call 134; refine NI.out.mono ?_; rintro e w2 ⟨n, p, v1, rfl, hbd, hk1, hI1⟩; replace hbd := hid hbd; replace hk1 := hid hk1; replace hI1 := hid hI1) | fail)
 obtain ⟨ar, har⟩ : ∃ ar : Nat, n.natAbs = ar := ⟨_, rfl⟩
 have b1 : -4611686018427387904 ≤ n := by have := hbd.out; omega
 have b2 : n ≤ 4611686018427387904 := by have := hbd.out; omega
 have hmx : mx2 n (-n) = (ar : Int) := by unfold mx2; omega
 have HAR := hid har
 have SI := hid (scopeIn (W := w2) (ar := ar) (C := cF2 s.data.toList sizes a (n, p)) (by omega) hnv HV.out (hI1.out.conv (fun st => by rw [← HAR.out]; rfl)))
 have K2 := hid ((RK.below (p := b) (q := sc) N1.out).trans hk1.out)
 have R2 := hid ((hk1.out.block w.heap.size (Array.getElem?_eq_some_iff.1 X1.out).1 (by have := HW.out; omega) (by have := HW.out; omega)).trans X1.out)
 clear har NI hk1 hI1 hbd
 go_upto_region 3 with (first
  | (go_at_call 169; refine SI.out.mono ?_; rintro e w3 ⟨val, acc, v2, rfl, hO3, hk3, hA3, hI3, hL3⟩; obtain ⟨A, ca, rfl, _⟩ := hO3.form; have CAP := hid (own_capX hO3); replace hO3 := hid hO3; replace hk3 := hid hk3; replace hA3 := hid hA3; replace hI3 := hid hI3; replace hL3 := hid hL3)
  | ((with_reducible show wpList _ _ _ (Oper.mk none (.store 202 _ _) _ _ _ _ :: _) _ _); refine wpList_store_row rfl 202 (.tmp 5) (.tmp 17) rfl w3.heap.size #[.slice A acc.length ca, .int .i64 0, .slice none 0 0] rfl rfl 202 #[.slice none 0 0, .int .i64 0, .slice none 0 0] (heap_alloc_new _ _) (by kernel_rfl) rfl (by simp [Value.oneCell']) ?_; rw [World.setRow_alloc_new])
  | fail)
 clear hmx SI
 have HA := hA3
 have n4 := new_val w3 (.cells #[.slice A acc.length ca, .int .i64 0, .slice none 0 0] 202)
 have GB : Hid (b < w3.heap.size) := hid (by have := HW.out.1; have := K2.out.size; have := hk3.out.size; omega)
 have G4 : Hid (GSt w (w3.alloc (.cells #[.slice A acc.length ca, .int .i64 0, .slice none 0 0] 202)) b sc w3.heap.size w.heap.size A acc (.slice A acc.length ca) 0 (.slice none 0 0)) := hid (by
  have hz2 : w.heap.size < w2.heap.size := (Array.getElem?_eq_some_iff.1 R2.out).1
  have hz3 := hk3.out.size
  have hw := HW.out
  have r3 := (hk3.out.block w.heap.size hz2 (by omega) (by omega)).trans R2.out
  refine ⟨heap_alloc_new w3 _, (n4.block _ (by omega)).trans r3, (K2.out.trans hk3.out).trans (RK.below n4), (IntsT.own hO3.out (by omega) (by omega)).rk (RK.below n4), by omega⟩)
 have I4 := hid (hI3.out.below n4)
 have L4 := hid (show acc.length = ar ∨ ∃ e p, RdBad (w3.alloc (.cells #[.slice A acc.length ca, .int .i64 0, .slice none 0 0] 202)) b e p v2 ∧ E = .bad e p from by
  rcases hL3.out with h | ⟨e, p, h1, h2⟩
  ·exact .inl h
  ·exact .inr ⟨e, p, h1.below n4, h2⟩)
 have HGE : Hid (w3.heap.size = w3.heap.size) := hid rfl
 obtain ⟨c0, -, -⟩ := G4.out.cells
 generalize w3.alloc (.cells #[.slice A acc.length ca, .int .i64 0, .slice none 0 0] 202) = w4 at n4 G4 I4 L4 c0 ⊢
 clear n4 hO3 hI3 hL3 hk3 K2 R2 N1 X1 hA3 HGE
 generalize w3.heap.size = G at G4 GB c0 ⊢
 have I4' : Hid (RdIn w4 b sc s v v2 E (fun st => (fun s' => (numM s.data.toList 0 farZ (limS (decide ((4096 : Int) < (cntM (pickN sizes acc) 1 : Nat))) p s')).bind (cF3 s.data.toList sizes a (n, p) acc)) (limS (decide ((6 : Int) < (acc.length : Nat))) p st))) := hid (by
  rcases L4.out with h | ⟨e, q, h1, h2⟩
  ·refine I4.out.conv (fun st => ?_)
   show (numM _ _ _ (limS (decide (6 < n.natAbs) || decide (4096 < cntM (pickN sizes acc) 1)) p st)).bind _ = _
   rw [limS_or, HAR.out, ← h]
   have e1 : decide ((6 : Int) < (acc.length : Nat)) = decide (6 < acc.length) := by rw [decide_eq_decide]; omega
   have e2 : decide ((4096 : Int) < (cntM (pickN sizes acc) 1 : Nat)) = decide (4096 < cntM (pickN sizes acc) 1) := by rw [decide_eq_decide]; omega
   rw [e1, e2]
  ·exact ⟨I4.out.1, .inr ⟨e, q, h1, h2⟩⟩)
 have LI := hid (limIn (n := (acc.length : Nat)) (m := 6) (p := p) (C := fun s' => (numM s.data.toList 0 farZ (limS (decide ((4096 : Int) < (cntM (pickN sizes acc) 1 : Nat))) p s')).bind (cF3 s.data.toList sizes a (n, p) acc)) I4'.out)
 clear I4 L4 I4'
 go_upto_region 4 with (first | (go_at_call 133; refine LI.out.mono ?_; rintro e w5 ⟨v2', ⟨_, rfl⟩, hg5, hI5⟩; replace hg5 := hid hg5; replace hI5 := hid hI5) | fail)
 have G5 := hid (G4.out.rk (RK.grown1 hg5.out))
 clear c0 LI G4 hg5
 have G6 := hid (G5.out.rk (RK.below ((Below.refl w5.heap.size w5).drew)))
 have HR6 := hid (hI5.out.below ((Below.refl w5.heap.size w5).drew))
 refine wp_region_noPanic ?_
 refine wp_region_held_drew (S := fun W => W.cell? ⟨b, 7, none⟩ = some (.slice As sizes.length cs) ∧ W.cell? ⟨G, 0, none⟩ = some (.slice A acc.length ca)) (by kernel_rfl) ⟨by rw [HR6.out.c7, HV.out], G6.out.cells.1⟩ (fun hHeld => ?_)
 generalize w5.drew = w6 at hHeld G6 HR6 ⊢
 have SZ6 := hid (HS.out.rk G6.out.k)
 have AC6 := hid G6.out.acc
 have PL : Hid ((pickN sizes acc).length ≤ 100001) := hid (by simp [pickN]; exact HA.out.few)
 have PS := hid (pickN_le (acc := acc) HSM.out)
 clear hI5 G5
 refine wt 0 ?r401
 refine wt 1 ?r402
 refine wt 2 ?r403
 refine wt 3 ?r404
 refine wt 4 ?r405
 refine wt 5 ?r406
 refine wt 6 ?r407
 refine wt 9 ?r408
 refine wr1 7 (fun K hK => ?_)
 go_simp
 refine (pickedI cs ca As A sizes acc w6 hnv HA.out.few (HA.out.lt hn1) SZ6.out.ints AC6.out.ints).mono ?_
 rintro e w7 ⟨⟨A7, c7, rfl, hI7⟩, hb7⟩
 have B7 := hid hb7
 have I7 := hid hI7
 refine hK.out _ _ (holdF hHeld hb7) (fun hHeld' => ?_)
 replace hHeld := hHeld'
 clear hHeld'
 clear hb7 hI7
 clear hK K
 try simp only [Act.put, pa, pb, pc, pd, pe, pf]
 refine wr1 8 (fun K hK => ?_)
 go_simp
 refine (countR c7 A7 (pickN sizes acc) w7 PL.out (PS.out) I7.out).mono ?_
 rintro e w' ⟨rfl, rfl⟩
 refine hK.out _ _ (hHeld) (fun hHeld' => ?_)
 replace hHeld := hHeld'
 clear hHeld'
 clear hK K
 try simp only [Act.put, pa, pb, pc, pd, pe, pf]
 refine wr1 10 (fun K hK => ?_)
 go_simp
 refine (limIn (n := (cntM (pickN sizes acc) 1 : Nat)) (m := 4096) (p := p) (C := fun s' => (numM s.data.toList 0 farZ s').bind (cF3 s.data.toList sizes a (n, p) acc)) (HR6.out.below B7.out)).mono ?_
 rintro e w8 ⟨v3, ⟨_, rfl⟩, hg8, hI8⟩
 have HR8 := hid hI8
 have HG8 := hid hg8
 refine hK.out _ _ (holdF_b hHeld hg8 GB.out (by rw [hI8.c7, HV.out])) (fun hHeld' => ?_)
 replace hHeld := hHeld'
 clear hHeld'
 clear hg8 hI8
 clear hK K
 try simp only [Act.put, pa, pb, pc, pd, pe, pf]
 refine wpAnyH_done (by kernel_rfl) ?_ _
 refine NoPanic.normal ?_
 clear hHeld
 have G8 := hid ((G6.out.rk (RK.below B7.out)).rk (RK.grown1 HG8.out))
 clear B7 I7 HG8 SZ6 AC6 HR6 G6 PL PS
 have CI := hid (costIn (W := w8) (C := cF3 s.data.toList sizes a (n, p) acc) HR8.out)
 have fz8 : w8.frozen? ⟨G, 1, none⟩ = false := frozen_of_row _ _ _ _ _ G8.out.g
 go_upto_region 6 with (first | (go_at_call 170; refine CI.out.mono ?_; rintro e w9 ⟨o0, po, v5, rfl, hk9, hI9⟩; have G9 := hid (G8.out.rk hk9); replace hI9 := hid hI9; clear hk9; obtain ⟨-, c9, -⟩ := G9.out.cells; have f9 : w9.frozen? ⟨G, 1, none⟩ = false := frozen_of_row _ _ _ _ _ G9.out.g) | fail)
 have G10 := hid (G9.out.o (min o0 v.top))
 have HW9 := HW.out
 have HGW : w.heap.size ≤ G := by have := G9.out.far; omega
 have I10 := hid (hI9.out.other (grown_put w9 G 1 (.int .i64 (min o0 v.top))) (by omega) (by omega) (by omega))
 obtain ⟨o, ho⟩ : ∃ o, min o0 v.top = o := ⟨_, rfl⟩
 have HOO := hid ho
 rw [ho] at G10 I10 ⊢
 generalize w9.setCell ⟨G, 1, none⟩ (.int .i64 o) = w10 at G10 I10 ⊢
 have GW := hid HGW
 clear ho c9 f9 fz8 CI HW9 HGW
 clear hI9 G9 G8 HR8
 obtain ⟨Ash, csh, hsh⟩ := HO.out.form
 have hul : us.length = a.shared.length := by have := HU.out.1; simpa using this
 have SH := hid hsh
 have FK : Hid (FunsK w10 b sc Ash (a.shared.map (topF v.top))) := hid (by
  obtain ⟨A', c', e, hF⟩ := (HO.out.rk G10.out.k HB.out.1 HB.out.2.1).funs (HU.out.keep (KeepT.rk G10.out.k)) HB.out.1 HB.out.2.1
  rw [SH.out] at e
  injection e with e1 e2 e3
  rw [e1]
  exact hF)
 have LNI := hid (linesIn (cc := ca) (cs := cs) (csh := csh) (As := As) (Ac := A) (Ash := Ash) (sizes := sizes) (scope := acc) (fs := a.funs) (shared := a.shared) (C := cF4 sizes a (n, p) acc (o0, po)) hnv HSM.out HA.out.few (HA.out.lt hn1) HV.out (by rw [SH.out, hul]) (HS.out.rk G10.out.k).k G10.out.acc.k (HT.out.rk G10.out.k) TD.out.1 TD.out.2 FK.out AF.out.1 (I10.out.conv (fun st => by rw [HTD.out]; rfl)))
 clear hsh hul
 obtain ⟨c9, -, -⟩ := G10.out.cells
 go_upto_region 7 with (first | (go_at_call 171; refine LNI.out.mono ?_; rintro e w11 ⟨A4, c4, ls, v4, rfl, hl11, hk11, hs11, hr11⟩; have G11 := hid (G10.out.rk hk11); replace hl11 := hid hl11; replace hs11 := hid hs11; replace hr11 := hid hr11; clear hk11; obtain ⟨-, -, c11⟩ := G11.out.cells; have f11 : w11.frozen? ⟨G, 2, none⟩ = false := frozen_of_row _ _ _ _ _ G11.out.g) | fail)
 have g11 := grown_put w11 G 2 (.slice A4 ls.length c4)
 have HW9 := HW.out
 have GWO := GW.out
 have G12 := hid (G11.out.l (.slice A4 ls.length c4))
 have L12 := hid (hl11.out.keep (keep_g G11.out.g g11))
 have R12' : Hid (LnKnown s b sc v.top (w11.setCell ⟨G, 2, none⟩ (.slice A4 ls.length c4)) ls v4 E (cF4 sizes a (n, p) acc (o0, po))) := hid (by
  rcases hr11.out with ⟨x, st', h1, h2, h3, h4⟩ | ⟨e, q, h1, h2⟩
  ·exact .inl ⟨x, st', h1, h2, h3.other g11 (by omega) (by omega) (by omega), h4⟩
  ·exact .inr ⟨e, q, h1.other g11 (by omega) (by omega), h2⟩)
 generalize w11.setCell ⟨G, 2, none⟩ (.slice A4 ls.length c4) = w12 at G12 L12 R12' ⊢
 clear c9 c11 f11 g11 HW9 GWO LNI FK
 clear hl11 hr11 G11 G10 I10
 by_cases hn0 : n < 0
 rotate_left
 ·have d0 : decide (n < 0) = false := decide_eq_false hn0
  have HN0 := hid hn0
  clear hn0
  obtain ⟨k0, k1, k2⟩ := G12.out.cells
  go_wp2_with (first
   | ((with_reducible show wpList _ _ _ (Oper.mk none (.store 202 _ _) _ _ _ _ :: _) _ _); refine wpList_store_row rfl 202 (.tmp 2) (.tmp 58) rfl w.heap.size #[.slice A acc.length ca, .int .i64 o, .slice A4 ls.length c4] rfl rfl 202 #[.slice none 0 0, .int .i64 0, .slice none 0 0] G12.out.r (by kernel_rfl) rfl (by simp [Value.oneCell']) ?_)
   | fail)
  exact bodyPost_ret (results_fn rfl _ _ w.heap.size _ _ _ rfl (setRow_heap w12 w.heap.size _ _ _ _ G12.out.r)) rfl (fn_end_pos G12.out hs11.out L12.out R12'.out (by have := HN0.out; omega) HOO.out.symm HO.out HU.out HB.out.1 HB.out.2.1 HB.out.2.2 BS.out _ CAP.out)
 have d0 : decide (n < 0) = true := decide_eq_true hn0
 go_upto_region 8 with fail
 clear d0
 have HN0 := hid hn0
 clear hn0
 have bd := (Below.refl w12.heap.size w12).drew
 have GD := hid (G12.out.rk (RK.below bd))
 have LD := hid (L12.out.rk (RK.below bd))
 have KD := hid (R12'.out.below bd)
 refine wp_region_noPanic ?_
 refine wp_region_held_drew (S := fun W => W.cell? ⟨G, 0, none⟩ = some (.slice A acc.length ca) ∧ W.cell? ⟨G, 1, none⟩ = some (.int .i64 o) ∧ W.cell? ⟨G, 2, none⟩ = some (.slice A4 ls.length c4)) (by kernel_rfl) GD.out.cells (fun hHeld => ?_)
 generalize w12.drew = wd at hHeld GD LD KD ⊢
 clear bd R12' L12 G12
 have RD := hid KD.out.at_
 have SH4 : Hid (v4.shared = .slice Ash us.length csh) := hid (hs11.out.shared.trans SH.out)
 have OSw : Hid (OwnFn w base (.slice Ash us.length csh) us) := hid (SH.out ▸ HO.out)
 have OSD : Hid (OwnFn wd base (.slice Ash us.length csh) us) := hid (OSw.out.rk GD.out.k HB.out.1 HB.out.2.1)
 have BSD : Hid (base ≤ wd.heap.size) := hid (by have := BS.out; have := GD.out.k.size; omega)
 have GLT2 : Hid (G < wd.heap.size) := hid ((Array.getElem?_eq_some_iff.1 GD.out.g).1)
 refine wt 0 ?r601
 refine wt 1 ?r602
 refine wt 2 ?r603
 refine wt 3 ?r604
 refine wt 5 ?r605
 refine wpAnyH_ready (rs := [4, 6]) (by kernel_rfl) (by simp) ?_
 refine AllReadyH.cons rfl (fun K hK => ?_) ?_
 ·have ac : wd.cell? ⟨b, 9, none⟩ = some (.slice Ash us.length csh) := (RD.out.cell (i := 9) (u := v4.shared) rfl).trans (by rw [SH4.out])
  go_simp
  clear ac
  refine hK.out _ _ (hHeld) (fun hHeld' => ?_)
  replace hHeld := hHeld'
  clear hHeld'
  clear hK K
  try simp only [Act.put, pa, pb, pc, pd, pe, pf]
  refine wr1 6 (fun K hK => ?_)
  go_simp
  have na := new_val wd (.cells #[.slice A acc.length ca, .int .i64 o, .slice A4 ls.length c4] 202)
  have NA := hid na
  have NW := hid (heap_alloc_new wd (.cells #[.slice A acc.length ca, .int .i64 o, .slice A4 ls.length c4] 202))
  have R13 : Hid (RdAt (wd.alloc (.cells #[.slice A acc.length ca, .int .i64 o, .slice A4 ls.length c4] 202)) b v4) := hid ((na.block b RD.out.lt).trans RD.out)
  refine hK.out _ _ (holdG hHeld na) (fun hHeld' => ?_)
  replace hHeld := hHeld'
  clear hHeld'
  clear na
  generalize wd.alloc (.cells #[.slice A acc.length ca, .int .i64 o, .slice A4 ls.length c4] 202) = w13 at hHeld NA NW R13 ⊢
  have OW := hid ((OSD.out.keepB (fun g _ h1 _ => NA.out.block g h1)))
  generalize wd.heap.size = gl at NW ⊢
  clear hK K
  try simp only [Act.put, pa, pb, pc, pd, pe, pf]
  refine wr1 7 (fun K hK => ?_)
  refine push_fn_step rfl (.tmp 52) (.tmp 54) rfl w13 base gl (.slice Ash us.length csh) us A A4 acc.length ls.length ca c4 o rfl (by rfl) OW.out NW.out (by have := NA.out.size; have := BSD.out; omega) UL.out ?_
  intro v14 w14 hO hg hat
  obtain ⟨A14, n14, c14, rfl⟩ : ∃ A n c, v14 = .slice A n c := by obtain ⟨A, c, e⟩ := hO.form; exact ⟨A, _, c, e⟩
  have OX := hid hO
  have GX := hid hg
  have AT := hid hat
  have R14 : Hid (RdAt w14 b v4) := hid ((hg.block b (Array.getElem?_eq_some_iff.1 R13.out).1 (fun e => by obtain ⟨h1, _⟩ := OW.out.obj b e.symm; have := HB.out.1; omega)).trans R13.out)
  refine hK.out _ _ (holdG_o hHeld hg (fun e => by obtain ⟨_, h1, _⟩ := OSw.out.obj _ e; have := GW.out; omega) (by have := NA.out.size; have := GLT2.out; omega)) (fun hHeld' => ?_)
  replace hHeld := hHeld'
  clear hHeld'
  clear hO hg hat
  clear hK K
  try simp only [Act.put, pa, pb, pc, pd, pe, pf]
  refine wt 8 ?r606
  refine wt 9 ?r607
  refine wr1 10 (fun K hK => ?_)
  have ac : w14.cell? ⟨b, 9, none⟩ = some v4.shared := R14.out.cell (i := 9) rfl
  have af : w14.frozen? ⟨b, 9, none⟩ = false := frozen_of_row _ _ _ _ _ R14.out
  go_simp
  clear ac af
  refine hK.out _ _ (holdG_s hHeld (by have := GB.out; omega)) (fun hHeld' => ?_)
  replace hHeld := hHeld'
  clear hHeld'
  clear hK K
  try simp only [Act.put, pa, pb, pc, pd, pe, pf]
  refine wpAnyH_done (by kernel_rfl) ?_ _
  refine NoPanic.normal ?_
  obtain ⟨k0, k1, k2⟩ := hHeld
  have R15 := hid (fn_row GD.out OSw.out NA.out GX.out (.slice A14 n14 c14))
  go_wp2_with (first
   | ((with_reducible show wpList _ _ _ (Oper.mk none (.store 202 _ _) _ _ _ _ :: _) _ _); refine wpList_store_row rfl 202 (.tmp 2) (.tmp 58) rfl w.heap.size #[.slice A acc.length ca, .int .i64 o, .slice A4 ls.length c4] rfl rfl 202 #[.slice none 0 0, .int .i64 0, .slice none 0 0] R15.out (by kernel_rfl) rfl (by simp [Value.oneCell']) ?_)
   | fail)
  exact bodyPost_ret (results_fn rfl _ _ w.heap.size _ _ _ rfl (setRow_heap _ w.heap.size _ _ _ _ R15.out)) rfl (fn_end_neg GD.out hs11.out LD.out KD.out HN0.out HOO.out.symm HO.out HU.out HB.out.1 HB.out.2.1 HB.out.2.2 BS.out NA.out (SH.out ▸ OW.out) OX.out (SH.out ▸ GX.out) (SH.out ▸ AT.out) R14.out _ CAP.out)
 refine AllReadyH.cons rfl (fun K hK => ?_) AllReadyH.nil
 go_simp
 have na := new_val wd (.cells #[.slice A acc.length ca, .int .i64 o, .slice A4 ls.length c4] 202)
 have NA := hid na
 have NW := hid (heap_alloc_new wd (.cells #[.slice A acc.length ca, .int .i64 o, .slice A4 ls.length c4] 202))
 have R13 : Hid (RdAt (wd.alloc (.cells #[.slice A acc.length ca, .int .i64 o, .slice A4 ls.length c4] 202)) b v4) := hid ((na.block b RD.out.lt).trans RD.out)
 refine hK.out _ _ (holdG hHeld na) (fun hHeld' => ?_)
 replace hHeld := hHeld'
 clear hHeld'
 clear na
 generalize wd.alloc (.cells #[.slice A acc.length ca, .int .i64 o, .slice A4 ls.length c4] 202) = w13 at hHeld NA NW R13 ⊢
 have OW := hid ((OSD.out.keepB (fun g _ h1 _ => NA.out.block g h1)))
 generalize wd.heap.size = gl at NW ⊢
 clear hK K
 try simp only [Act.put, pa, pb, pc, pd, pe, pf]
 refine wr1 4 (fun K hK => ?_)
 have ac : w13.cell? ⟨b, 9, none⟩ = some (.slice Ash us.length csh) := (R13.out.cell (i := 9) (u := v4.shared) rfl).trans (by rw [SH4.out])
 go_simp
 clear ac
 refine hK.out _ _ (hHeld) (fun hHeld' => ?_)
 replace hHeld := hHeld'
 clear hHeld'
 clear hK K
 try simp only [Act.put, pa, pb, pc, pd, pe, pf]
 refine wr1 7 (fun K hK => ?_)
 refine push_fn_step rfl (.tmp 52) (.tmp 54) rfl w13 base gl (.slice Ash us.length csh) us A A4 acc.length ls.length ca c4 o rfl (by rfl) OW.out NW.out (by have := NA.out.size; have := BSD.out; omega) UL.out ?_
 intro v14 w14 hO hg hat
 obtain ⟨A14, n14, c14, rfl⟩ : ∃ A n c, v14 = .slice A n c := by obtain ⟨A, c, e⟩ := hO.form; exact ⟨A, _, c, e⟩
 have OX := hid hO
 have GX := hid hg
 have AT := hid hat
 have R14 : Hid (RdAt w14 b v4) := hid ((hg.block b (Array.getElem?_eq_some_iff.1 R13.out).1 (fun e => by obtain ⟨h1, _⟩ := OW.out.obj b e.symm; have := HB.out.1; omega)).trans R13.out)
 refine hK.out _ _ (holdG_o hHeld hg (fun e => by obtain ⟨_, h1, _⟩ := OSw.out.obj _ e; have := GW.out; omega) (by have := NA.out.size; have := GLT2.out; omega)) (fun hHeld' => ?_)
 replace hHeld := hHeld'
 clear hHeld'
 clear hO hg hat
 clear hK K
 try simp only [Act.put, pa, pb, pc, pd, pe, pf]
 refine wt 8 ?r608
 refine wt 9 ?r609
 refine wr1 10 (fun K hK => ?_)
 have ac : w14.cell? ⟨b, 9, none⟩ = some v4.shared := R14.out.cell (i := 9) rfl
 have af : w14.frozen? ⟨b, 9, none⟩ = false := frozen_of_row _ _ _ _ _ R14.out
 go_simp
 clear ac af
 refine hK.out _ _ (holdG_s hHeld (by have := GB.out; omega)) (fun hHeld' => ?_)
 replace hHeld := hHeld'
 clear hHeld'
 clear hK K
 try simp only [Act.put, pa, pb, pc, pd, pe, pf]
 refine wpAnyH_done (by kernel_rfl) ?_ _
 refine NoPanic.normal ?_
 obtain ⟨k0, k1, k2⟩ := hHeld
 have R15 := hid (fn_row GD.out OSw.out NA.out GX.out (.slice A14 n14 c14))
 go_wp2_with (first
  | ((with_reducible show wpList _ _ _ (Oper.mk none (.store 202 _ _) _ _ _ _ :: _) _ _); refine wpList_store_row rfl 202 (.tmp 2) (.tmp 58) rfl w.heap.size #[.slice A acc.length ca, .int .i64 o, .slice A4 ls.length c4] rfl rfl 202 #[.slice none 0 0, .int .i64 0, .slice none 0 0] R15.out (by kernel_rfl) rfl (by simp [Value.oneCell']) ?_)
  | fail)
 exact bodyPost_ret (results_fn rfl _ _ w.heap.size _ _ _ rfl (setRow_heap _ w.heap.size _ _ _ _ R15.out)) rfl (fn_end_neg GD.out hs11.out LD.out KD.out HN0.out HOO.out.symm HO.out HU.out HB.out.1 HB.out.2.1 HB.out.2.2 BS.out NA.out (SH.out ▸ OW.out) OX.out (SH.out ▸ GX.out) (SH.out ▸ AT.out) R14.out _ CAP.out)
end Go.Proofs.YtmokogkndbinlaaGreatDoor
