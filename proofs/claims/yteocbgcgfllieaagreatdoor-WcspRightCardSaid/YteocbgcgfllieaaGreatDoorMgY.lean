/- Texts of this seat laid together (no statement of its own). -/
import Derived.Test.YteocbgcgfllieaaGreatDoorMgX
import Derived.Deep.RegionHeld3
namespace Go.Proofs.YteocbgcgfllieaaGreatDoor
open Go.RowKit
set_option linter.unusedVariables false
attribute [local go_sem ↓] run_mx2
set_option maxRecDepth 100000 in
set_option maxHeartbeats 4000000 in
theorem functionR (b sc base cs : Nat) (As : Option Addr) (sizes : List Nat) (s : ByteArray) (st : RdS) (v : RdV) (a : AccM) (us : List (Value × Int × Value)) (w : World)
    (hnv : sizes.length ≤ 100000) (hn1 : 1 ≤ sizes.length) (hsm : ∀ x ∈ sizes, x ≤ 4611686018427387904) (h : RdOk w b sc s st v) (hv : v.sizes = .slice As sizes.length cs) (hS : IntsT w b sc As sizes) (hT : TabK w b sc) (hA : AccOk sizes a st) (htd : v.told = a.told)
    (hO : OwnFn w base v.shared us) (hU : FnIs w b sc us (a.shared.map (topF v.top))) (hb : b < base) (hs : sc < base) (hgb : 1 < base) (hbase : base ≤ w.heap.size) :
    Calls Tryz.prog 64 #[.pointer (some ⟨b, 0, none⟩)] w (FnPost s b sc base v a (funM s.data.toList sizes a st) w) := by
  obtain ⟨E, hE⟩ : ∃ E, funM s.data.toList sizes a st = E := ⟨_, rfl⟩
  rw [hE]
  rw [funM_cps] at hE
  have I0 : Hid (RdIn w b sc s v v E (fun st => (numM s.data.toList (-4611686018427387904) 4611686018427387904 st).bind (cF1 s.data.toList sizes a))) := Lib.hid ⟨RdNear.refl v, .inl ⟨st, h, hE.symm⟩⟩
  have hk := h.le
  have hft := h.fits
  have HV := Lib.hid hv
  have HSM := Lib.hid hsm
  have HS := Lib.hid hS
  have HT := Lib.hid hT
  have HTD := Lib.hid htd
  have HO := Lib.hid hO
  have HU := Lib.hid hU
  have HB := Lib.hid (And.intro hb (And.intro hs hgb))
  have BS := Lib.hid hbase
  have HW := Lib.hid (show b < w.heap.size ∧ sc < w.heap.size ∧ 1 < w.heap.size from ⟨by omega, by omega, by omega⟩)
  have TD := Lib.hid (show 0 ≤ v.told ∧ v.told ≤ 100000 from ⟨by rw [htd]; exact hA.told0, by have := hA.told1; omega⟩)
  have AF := Lib.hid (show (∀ f ∈ a.shared, f.scope.length ≤ 100001 ∧ ∀ x ∈ f.scope, x < sizes.length) ∧ a.shared.length ≤ 100000 from ⟨fun f hf => ⟨by have := hA.far f hf; omega, (hA.shared f hf).below⟩, by have := hA.sfew; omega⟩)
  have UL : Hid (us.length ≤ 1000000) := Lib.hid (by have h1 := hU.1; have h2 := hA.sfew; simp at h1; omega)
  clear hE h hv hsm hS hT hA htd hO hU hb hs hgb hbase hk hft
  go_enter Tryz.func64, Tryz.ntmps64
  have N1 := Lib.hid (new_val w (.cells #[.slice none 0 0, .int .i64 0, .slice none 0 0] 126))
  have X1 := Lib.hid (heap_alloc_new w (.cells #[.slice none 0 0, .int .i64 0, .slice none 0 0] 126))
  have NI := Lib.hid (numIn (I0.out.below N1.out))
  go_upto_region 2 with (first | (go_at_call 63; refine NI.out.mono ?_; rintro e w2 ⟨n, p, v1, rfl, hbd, hk1, hI1⟩; replace hbd := Lib.hid hbd; replace hk1 := Lib.hid hk1; replace hI1 := Lib.hid hI1) | fail)
  obtain ⟨ar, har⟩ : ∃ ar : Nat, n.natAbs = ar := ⟨_, rfl⟩
  have b1 : -4611686018427387904 ≤ n := by have := hbd.out; omega
  have b2 : n ≤ 4611686018427387904 := by have := hbd.out; omega
  have hmx : mx2 n (-n) = (ar : Int) := by unfold mx2; omega
  have HAR := Lib.hid har
  have SI := Lib.hid (scopeIn (W := w2) (ar := ar) (C := cF2 s.data.toList sizes a (n, p)) (by omega) hnv HV.out (hI1.out.conv (fun st => by rw [← HAR.out]; rfl)))
  have K2 := Lib.hid ((RK.below (p := b) (q := sc) N1.out).trans hk1.out)
  have R2 := Lib.hid ((hk1.out.block w.heap.size (Array.getElem?_eq_some_iff.1 X1.out).1 (by have := HW.out; omega) (by have := HW.out; omega)).trans X1.out)
  clear har NI hk1 hI1 hbd
  go_upto_region 3 with (first
    | (go_at_call 84; refine SI.out.mono ?_; rintro e w3 ⟨val, acc, v2, rfl, hO3, hk3, hA3, hI3, hL3⟩; obtain ⟨A, ca, rfl, _⟩ := hO3.form; have CAP := Lib.hid (own_capX hO3); replace hO3 := Lib.hid hO3; replace hk3 := Lib.hid hk3; replace hA3 := Lib.hid hA3; replace hI3 := Lib.hid hI3; replace hL3 := Lib.hid hL3)
    | ((with_reducible show wpList _ _ _ (Oper.mk none (.store 126 _ _) _ _ _ _ :: _) _ _); refine wpList_store_row rfl 126 (.tmp 5) (.tmp 17) rfl w3.heap.size #[.slice A acc.length ca, .int .i64 0, .slice none 0 0] rfl rfl 126 #[.slice none 0 0, .int .i64 0, .slice none 0 0] (heap_alloc_new _ _) (by kernel_rfl) rfl (by simp [Value.oneCell']) ?_; rw [World.setRow_alloc_new])
    | fail)
  clear hmx SI
  have HA := hA3
  have n4 := new_val w3 (.cells #[.slice A acc.length ca, .int .i64 0, .slice none 0 0] 126)
  have GB : Hid (b < w3.heap.size) := Lib.hid (by have := HW.out.1; have := K2.out.size; have := hk3.out.size; omega)
  have G4 : Hid (GSt w (w3.alloc (.cells #[.slice A acc.length ca, .int .i64 0, .slice none 0 0] 126)) b sc w3.heap.size w.heap.size A acc (.slice A acc.length ca) 0 (.slice none 0 0)) := Lib.hid (by
    have hz2 : w.heap.size < w2.heap.size := (Array.getElem?_eq_some_iff.1 R2.out).1
    have hz3 := hk3.out.size
    have hw := HW.out
    have r3 := (hk3.out.block w.heap.size hz2 (by omega) (by omega)).trans R2.out
    refine ⟨heap_alloc_new w3 _, (n4.block _ (by omega)).trans r3, (K2.out.trans hk3.out).trans (RK.below n4), (IntsT.own hO3.out (by omega) (by omega)).rk (RK.below n4), by omega⟩)
  have I4 := Lib.hid (hI3.out.below n4)
  have L4 := Lib.hid (show acc.length = ar ∨ ∃ e p, RdBad (w3.alloc (.cells #[.slice A acc.length ca, .int .i64 0, .slice none 0 0] 126)) b e p v2 ∧ E = .bad e p from by
    rcases hL3.out with h | ⟨e, p, h1, h2⟩
    · exact .inl h
    · exact .inr ⟨e, p, h1.below n4, h2⟩)
  have HGE : Hid (w3.heap.size = w3.heap.size) := Lib.hid rfl
  obtain ⟨c0, -, -⟩ := G4.out.cells
  generalize w3.alloc (.cells #[.slice A acc.length ca, .int .i64 0, .slice none 0 0] 126) = w4 at n4 G4 I4 L4 c0 ⊢
  clear n4 hO3 hI3 hL3 hk3 K2 R2 N1 X1 hA3 HGE
  generalize w3.heap.size = G at G4 GB c0 ⊢
  -- from here on: two limits, as one
  have I4' : Hid (RdIn w4 b sc s v v2 E (fun st => (fun s' => (numM s.data.toList 0 farZ (limS (decide ((4096 : Int) < (cntM (pickN sizes acc) 1 : Nat))) p s')).bind (cF3 s.data.toList sizes a (n, p) acc)) (limS (decide ((6 : Int) < (acc.length : Nat))) p st))) := Lib.hid (by
    rcases L4.out with h | ⟨e, q, h1, h2⟩
    · refine I4.out.conv (fun st => ?_)
      show (numM _ _ _ (limS (decide (6 < n.natAbs) || decide (4096 < cntM (pickN sizes acc) 1)) p st)).bind _ = _
      rw [limS_or, HAR.out, ← h]
      have e1 : decide ((6 : Int) < (acc.length : Nat)) = decide (6 < acc.length) := by rw [decide_eq_decide]; omega
      have e2 : decide ((4096 : Int) < (cntM (pickN sizes acc) 1 : Nat)) = decide (4096 < cntM (pickN sizes acc) 1) := by rw [decide_eq_decide]; omega
      rw [e1, e2]
    · exact ⟨I4.out.1, .inr ⟨e, q, h1, h2⟩⟩)
  have LI := Lib.hid (limIn (n := (acc.length : Nat)) (m := 6) (p := p) (C := fun s' => (numM s.data.toList 0 farZ (limS (decide ((4096 : Int) < (cntM (pickN sizes acc) 1 : Nat))) p s')).bind (cF3 s.data.toList sizes a (n, p) acc)) I4'.out)
  clear I4 L4 I4'
  go_upto_region 4 with (first | (go_at_call 62; refine LI.out.mono ?_; rintro e w5 ⟨v2', ⟨_, rfl⟩, hg5, hI5⟩; replace hg5 := Lib.hid hg5; replace hI5 := Lib.hid hI5) | fail)
  have G5 := Lib.hid (G4.out.rk (RK.grown1 hg5.out))
  clear c0 LI G4 hg5
  have G6 := Lib.hid (G5.out.rk (RK.below ((Below.refl w5.heap.size w5).drew)))
  have HR6 := Lib.hid (hI5.out.below ((Below.refl w5.heap.size w5).drew))
  refine wp_region_noPanic ?_
  refine wp_region_held_drew (S := fun W => W.cell? ⟨b, 7, none⟩ = some (.slice As sizes.length cs) ∧ W.cell? ⟨G, 0, none⟩ = some (.slice A acc.length ca)) (by kernel_rfl) ⟨by rw [HR6.out.c7, HV.out], G6.out.cells.1⟩ (fun hHeld => ?_)
  generalize w5.drew = w6 at hHeld G6 HR6 ⊢
  have SZ6 := Lib.hid (HS.out.rk G6.out.k)
  have AC6 := Lib.hid G6.out.acc
  have PL : Hid ((pickN sizes acc).length ≤ 100001) := Lib.hid (by simp [pickN]; exact HA.out.few)
  have PS := Lib.hid (pickN_le (acc := acc) HSM.out)
  clear hI5 G5
  refine wpAnyH_take (i := 0) (v := ?v401) rfl (by kernel_rfl) (by kernel_rfl) (by kernel_rfl) (fun _ _ _ h => h) (Or.inl ⟨by rfl, ?y401⟩) (by assumption) ?r401
  case y401 => ((intro w hSw; (try dsimp only at hSw); go_simp); try with_reducible rfl)
  try simp only [Act.put, List.getElem_toArray, List.getElem_cons_zero, List.setIfInBounds_toArray, List.set_cons_zero, List.set_cons_succ]
  refine wpAnyH_take (i := 1) (v := ?v402) rfl (by kernel_rfl) (by kernel_rfl) (by kernel_rfl) (fun _ _ _ h => h) (Or.inl ⟨by rfl, ?y402⟩) (by assumption) ?r402
  case y402 => ((intro w hSw; (try dsimp only at hSw); go_simp); try with_reducible rfl)
  try simp only [Act.put, List.getElem_toArray, List.getElem_cons_succ, List.getElem_cons_zero, List.setIfInBounds_toArray, List.set_cons_zero, List.set_cons_succ]
  refine wpAnyH_take (i := 2) (v := ?v403) rfl (by kernel_rfl) (by kernel_rfl) (by kernel_rfl) (fun _ _ _ h => h) (Or.inl ⟨by rfl, ?y403⟩) (by assumption) ?r403
  case y403 => ((intro w hSw; (try dsimp only at hSw); go_simp); try with_reducible rfl)
  try simp only [Act.put, List.getElem_toArray, List.getElem_cons_succ, List.getElem_cons_zero, List.setIfInBounds_toArray, List.set_cons_zero, List.set_cons_succ]
  refine wpAnyH_take (i := 3) (v := ?v404) rfl (by kernel_rfl) (by kernel_rfl) (by kernel_rfl) (fun _ _ _ h => h) (Or.inl ⟨by rfl, ?y404⟩) (by assumption) ?r404
  case y404 => ((intro w hSw; (try dsimp only at hSw); go_simp); try with_reducible rfl)
  try simp only [Act.put, List.getElem_toArray, List.getElem_cons_succ, List.getElem_cons_zero, List.setIfInBounds_toArray, List.set_cons_zero, List.set_cons_succ]
  refine wpAnyH_take (i := 4) (v := ?v405) rfl (by kernel_rfl) (by kernel_rfl) (by kernel_rfl) (fun _ _ _ h => h) (Or.inl ⟨by rfl, ?y405⟩) (by assumption) ?r405
  case y405 => ((intro w hSw; (try dsimp only at hSw); go_simp); try with_reducible rfl)
  try simp only [Act.put, List.getElem_toArray, List.getElem_cons_succ, List.getElem_cons_zero, List.setIfInBounds_toArray, List.set_cons_zero, List.set_cons_succ]
  refine wpAnyH_take (i := 5) (v := ?v406) rfl (by kernel_rfl) (by kernel_rfl) (by kernel_rfl) (fun _ _ _ h => h) (Or.inl ⟨by rfl, ?y406⟩) (by assumption) ?r406
  case y406 => ((intro w hSw; (try dsimp only at hSw); go_simp); try with_reducible rfl)
  try simp only [Act.put, List.getElem_toArray, List.getElem_cons_succ, List.getElem_cons_zero, List.setIfInBounds_toArray, List.set_cons_zero, List.set_cons_succ]
  refine wpAnyH_take (i := 6) (v := ?v407) rfl (by kernel_rfl) (by kernel_rfl) (by kernel_rfl) (fun _ _ _ h => h) (Or.inl ⟨by rfl, ?y407⟩) (by assumption) ?r407
  case y407 => ((intro w hSw; (try dsimp only at hSw); go_simp); try with_reducible rfl)
  try simp only [Act.put, List.getElem_toArray, List.getElem_cons_succ, List.getElem_cons_zero, List.setIfInBounds_toArray, List.set_cons_zero, List.set_cons_succ]
  refine wpAnyH_take (i := 9) (v := ?v408) rfl (by kernel_rfl) (by kernel_rfl) (by kernel_rfl) (fun _ _ _ h => h) (Or.inl ⟨by rfl, ?y408⟩) (by assumption) ?r408
  case y408 => ((intro w hSw; (try dsimp only at hSw); go_simp); try with_reducible rfl)
  try simp only [Act.put, List.getElem_toArray, List.getElem_cons_succ, List.getElem_cons_zero, List.setIfInBounds_toArray, List.set_cons_zero, List.set_cons_succ]
  refine wpAnyH_ready (rs := [7]) (by kernel_rfl) (by simp) ?_
  refine AllReadyH.cons rfl (fun K hK => ?_) ?_
  · go_simp
    refine (pickedI cs ca As A sizes acc w6 hnv HA.out.few (HA.out.lt hn1) SZ6.out.ints AC6.out.ints).mono ?_
    rintro e w7 ⟨⟨A7, c7, rfl, hI7⟩, hb7⟩
    have B7 := Lib.hid hb7
    have I7 := Lib.hid hI7
    refine hK.out _ _ (holdF hHeld hb7) (fun hHeld' => ?_)
    clear hHeld
    have hHeld := hHeld'
    clear hHeld'
    clear hb7 hI7
    clear hK K
    try simp only [Act.put, List.getElem_toArray, List.getElem_cons_succ, List.getElem_cons_zero, List.setIfInBounds_toArray, List.set_cons_zero, List.set_cons_succ]
    refine wpAnyH_ready (rs := [8]) (by kernel_rfl) (by simp) ?_
    refine AllReadyH.cons rfl (fun K hK => ?_) ?_
    · go_simp
      refine (countR c7 A7 (pickN sizes acc) w7 PL.out (PS.out) I7.out).mono ?_
      rintro e w' ⟨rfl, rfl⟩
      refine hK.out _ _ (hHeld) (fun hHeld' => ?_)
      clear hHeld
      have hHeld := hHeld'
      clear hHeld'
      clear hK K
      try simp only [Act.put, List.getElem_toArray, List.getElem_cons_succ, List.getElem_cons_zero, List.setIfInBounds_toArray, List.set_cons_zero, List.set_cons_succ]
      refine wpAnyH_ready (rs := [10]) (by kernel_rfl) (by simp) ?_
      refine AllReadyH.cons rfl (fun K hK => ?_) ?_
      · go_simp
        refine (limIn (n := (cntM (pickN sizes acc) 1 : Nat)) (m := 4096) (p := p) (C := fun s' => (numM s.data.toList 0 farZ s').bind (cF3 s.data.toList sizes a (n, p) acc)) (HR6.out.below B7.out)).mono ?_
        rintro e w8 ⟨v3, ⟨_, rfl⟩, hg8, hI8⟩
        have HR8 := Lib.hid hI8
        have HG8 := Lib.hid hg8
        refine hK.out _ _ (holdF_b hHeld hg8 GB.out (by rw [hI8.c7, HV.out])) (fun hHeld' => ?_)
        clear hHeld
        have hHeld := hHeld'
        clear hHeld'
        clear hg8 hI8
        clear hK K
        try simp only [Act.put, List.getElem_toArray, List.getElem_cons_succ, List.getElem_cons_zero, List.setIfInBounds_toArray, List.set_cons_zero, List.set_cons_succ]
        refine wpAnyH_done (by kernel_rfl) ?_ _
        refine NoPanic.normal ?_
        clear hHeld
        have G8 := Lib.hid ((G6.out.rk (RK.below B7.out)).rk (RK.grown1 HG8.out))
        clear B7 I7 HG8 SZ6 AC6 HR6 G6 PL PS
        have CI := Lib.hid (costIn (W := w8) (C := cF3 s.data.toList sizes a (n, p) acc) HR8.out)
        have fz8 : w8.frozen? ⟨G, 1, none⟩ = false := frozen_of_row _ _ _ _ _ G8.out.g
        go_upto_region 6 with (first | (go_at_call 85; refine CI.out.mono ?_; rintro e w9 ⟨o0, po, v5, rfl, hk9, hI9⟩; have G9 := Lib.hid (G8.out.rk hk9); replace hI9 := Lib.hid hI9; clear hk9; obtain ⟨-, c9, -⟩ := G9.out.cells; have f9 : w9.frozen? ⟨G, 1, none⟩ = false := frozen_of_row _ _ _ _ _ G9.out.g) | fail)
        have G10 := Lib.hid (G9.out.o (min o0 v.top))
        have HW9 := HW.out
        have HGW : w.heap.size ≤ G := by have := G9.out.far; omega
        have I10 := Lib.hid (hI9.out.other (grown_put w9 G 1 (.int .i64 (min o0 v.top))) (by omega) (by omega) (by omega))
        obtain ⟨o, ho⟩ : ∃ o, min o0 v.top = o := ⟨_, rfl⟩
        have HOO := Lib.hid ho
        rw [ho] at G10 I10 ⊢
        generalize w9.setCell ⟨G, 1, none⟩ (.int .i64 o) = w10 at G10 I10 ⊢
        have GW := Lib.hid HGW
        clear ho c9 f9 fz8 CI HW9 HGW
        clear hI9 G9 G8 HR8
        obtain ⟨Ash, csh, hsh⟩ := HO.out.form
        have hul : us.length = a.shared.length := by have := HU.out.1; simpa using this
        have SH := Lib.hid hsh
        have FK : Hid (FunsK w10 b sc Ash (a.shared.map (topF v.top))) := Lib.hid (by
          obtain ⟨A', c', e, hF⟩ := (HO.out.rk G10.out.k HB.out.1 HB.out.2.1).funs (HU.out.keep (KeepT.rk G10.out.k)) HB.out.1 HB.out.2.1
          rw [SH.out] at e
          injection e with e1 e2 e3
          rw [e1]
          exact hF)
        have LNI := Lib.hid (linesIn (cc := ca) (cs := cs) (csh := csh) (As := As) (Ac := A) (Ash := Ash) (sizes := sizes) (scope := acc) (fs := a.funs) (shared := a.shared) (C := cF4 sizes a (n, p) acc (o0, po)) hnv HSM.out HA.out.few (HA.out.lt hn1) HV.out (by rw [SH.out, hul]) (HS.out.rk G10.out.k).k G10.out.acc.k (HT.out.rk G10.out.k) TD.out.1 TD.out.2 FK.out AF.out.1 (I10.out.conv (fun st => by rw [HTD.out]; rfl)))
        clear hsh hul
        obtain ⟨c9, -, -⟩ := G10.out.cells
        go_upto_region 7 with (first | (go_at_call 86; refine LNI.out.mono ?_; rintro e w11 ⟨A4, c4, ls, v4, rfl, hl11, hk11, hs11, hr11⟩; have G11 := Lib.hid (G10.out.rk hk11); replace hl11 := Lib.hid hl11; replace hs11 := Lib.hid hs11; replace hr11 := Lib.hid hr11; clear hk11; obtain ⟨-, -, c11⟩ := G11.out.cells; have f11 : w11.frozen? ⟨G, 2, none⟩ = false := frozen_of_row _ _ _ _ _ G11.out.g) | fail)
        have g11 := grown_put w11 G 2 (.slice A4 ls.length c4)
        have HW9 := HW.out
        have GWO := GW.out
        have G12 := Lib.hid (G11.out.l (.slice A4 ls.length c4))
        have L12 := Lib.hid (hl11.out.keep (keep_g G11.out.g g11))
        have R12' : Hid (LnKnown s b sc v.top (w11.setCell ⟨G, 2, none⟩ (.slice A4 ls.length c4)) ls v4 E (cF4 sizes a (n, p) acc (o0, po))) := Lib.hid (by
          rcases hr11.out with ⟨x, st', h1, h2, h3, h4⟩ | ⟨e, q, h1, h2⟩
          · exact .inl ⟨x, st', h1, h2, h3.other g11 (by omega) (by omega) (by omega), h4⟩
          · exact .inr ⟨e, q, h1.other g11 (by omega) (by omega), h2⟩)
        generalize w11.setCell ⟨G, 2, none⟩ (.slice A4 ls.length c4) = w12 at G12 L12 R12' ⊢
        clear c9 c11 f11 g11 HW9 GWO LNI FK
        clear hl11 hr11 G11 G10 I10
        by_cases hn0 : n < 0
        · have d0 : decide (n < 0) = true := decide_eq_true hn0
          go_upto_region 8 with fail
          clear d0
          have HN0 := Lib.hid hn0
          clear hn0
          have bd := (Below.refl w12.heap.size w12).drew
          have GD := Lib.hid (G12.out.rk (RK.below bd))
          have LD := Lib.hid (L12.out.rk (RK.below bd))
          have KD := Lib.hid (R12'.out.below bd)
          refine wp_region_noPanic ?_
          refine wp_region_held_drew (S := fun W => W.cell? ⟨G, 0, none⟩ = some (.slice A acc.length ca) ∧ W.cell? ⟨G, 1, none⟩ = some (.int .i64 o) ∧ W.cell? ⟨G, 2, none⟩ = some (.slice A4 ls.length c4)) (by kernel_rfl) GD.out.cells (fun hHeld => ?_)
          generalize w12.drew = wd at hHeld GD LD KD ⊢
          clear bd R12' L12 G12
          have RD := Lib.hid KD.out.at_
          have SH4 : Hid (v4.shared = .slice Ash us.length csh) := Lib.hid (hs11.out.shared.trans SH.out)
          have OSw : Hid (OwnFn w base (.slice Ash us.length csh) us) := Lib.hid (SH.out ▸ HO.out)
          have OSD : Hid (OwnFn wd base (.slice Ash us.length csh) us) := Lib.hid (OSw.out.rk GD.out.k HB.out.1 HB.out.2.1)
          have BSD : Hid (base ≤ wd.heap.size) := Lib.hid (by have := BS.out; have := GD.out.k.size; omega)
          have GLT2 : Hid (G < wd.heap.size) := Lib.hid ((Array.getElem?_eq_some_iff.1 GD.out.g).1)
          refine wpAnyH_take (i := 0) (v := ?v601) rfl (by kernel_rfl) (by kernel_rfl) (by kernel_rfl) (fun _ _ _ h => h) (Or.inl ⟨by rfl, ?y601⟩) (by assumption) ?r601
          case y601 => ((intro w hSw; (try dsimp only at hSw); go_simp); try with_reducible rfl)
          try simp only [Act.put, List.getElem_toArray, List.getElem_cons_zero, List.setIfInBounds_toArray, List.set_cons_zero, List.set_cons_succ]
          refine wpAnyH_take (i := 1) (v := ?v602) rfl (by kernel_rfl) (by kernel_rfl) (by kernel_rfl) (fun _ _ _ h => h) (Or.inl ⟨by rfl, ?y602⟩) (by assumption) ?r602
          case y602 => ((intro w hSw; (try dsimp only at hSw); go_simp); try with_reducible rfl)
          try simp only [Act.put, List.getElem_toArray, List.getElem_cons_succ, List.getElem_cons_zero, List.setIfInBounds_toArray, List.set_cons_zero, List.set_cons_succ]
          refine wpAnyH_take (i := 2) (v := ?v603) rfl (by kernel_rfl) (by kernel_rfl) (by kernel_rfl) (fun _ _ _ h => h) (Or.inl ⟨by rfl, ?y603⟩) (by assumption) ?r603
          case y603 => ((intro w hSw; (try dsimp only at hSw); go_simp); try with_reducible rfl)
          try simp only [Act.put, List.getElem_toArray, List.getElem_cons_succ, List.getElem_cons_zero, List.setIfInBounds_toArray, List.set_cons_zero, List.set_cons_succ]
          refine wpAnyH_take (i := 3) (v := ?v604) rfl (by kernel_rfl) (by kernel_rfl) (by kernel_rfl) (fun _ _ _ h => h) (Or.inl ⟨by rfl, ?y604⟩) (by assumption) ?r604
          case y604 => ((intro w hSw; (try dsimp only at hSw); go_simp); try with_reducible rfl)
          try simp only [Act.put, List.getElem_toArray, List.getElem_cons_succ, List.getElem_cons_zero, List.setIfInBounds_toArray, List.set_cons_zero, List.set_cons_succ]
          refine wpAnyH_take (i := 5) (v := ?v605) rfl (by kernel_rfl) (by kernel_rfl) (by kernel_rfl) (fun _ _ _ h => h) (Or.inl ⟨by rfl, ?y605⟩) (by assumption) ?r605
          case y605 => ((intro w hSw; (try dsimp only at hSw); go_simp); try with_reducible rfl)
          try simp only [Act.put, List.getElem_toArray, List.getElem_cons_succ, List.getElem_cons_zero, List.setIfInBounds_toArray, List.set_cons_zero, List.set_cons_succ]
          refine wpAnyH_ready (rs := [4, 6]) (by kernel_rfl) (by simp) ?_
          refine AllReadyH.cons rfl (fun K hK => ?_) ?_
          · have ac : wd.cell? ⟨b, 9, none⟩ = some (.slice Ash us.length csh) := (RD.out.cell (i := 9) (u := v4.shared) rfl).trans (by rw [SH4.out])
            go_simp
            clear ac
            refine hK.out _ _ (hHeld) (fun hHeld' => ?_)
            clear hHeld
            have hHeld := hHeld'
            clear hHeld'
            clear hK K
            try simp only [Act.put, List.getElem_toArray, List.getElem_cons_succ, List.getElem_cons_zero, List.setIfInBounds_toArray, List.set_cons_zero, List.set_cons_succ]
            refine wpAnyH_ready (rs := [6]) (by kernel_rfl) (by simp) ?_
            refine AllReadyH.cons rfl (fun K hK => ?_) ?_
            · go_simp
              have na := new_val wd (.cells #[.slice A acc.length ca, .int .i64 o, .slice A4 ls.length c4] 126)
              have NA := Lib.hid na
              have NW := Lib.hid (heap_alloc_new wd (.cells #[.slice A acc.length ca, .int .i64 o, .slice A4 ls.length c4] 126))
              have R13 : Hid (RdAt (wd.alloc (.cells #[.slice A acc.length ca, .int .i64 o, .slice A4 ls.length c4] 126)) b v4) := Lib.hid ((na.block b RD.out.lt).trans RD.out)
              refine hK.out _ _ (holdG hHeld na) (fun hHeld' => ?_)
              clear hHeld
              have hHeld := hHeld'
              clear hHeld'
              clear na
              generalize wd.alloc (.cells #[.slice A acc.length ca, .int .i64 o, .slice A4 ls.length c4] 126) = w13 at hHeld NA NW R13 ⊢
              have OW := Lib.hid ((OSD.out.keepB (fun g _ h1 _ => NA.out.block g h1)))
              generalize wd.heap.size = gl at NW ⊢
              clear hK K
              try simp only [Act.put, List.getElem_toArray, List.getElem_cons_succ, List.getElem_cons_zero, List.setIfInBounds_toArray, List.set_cons_zero, List.set_cons_succ]
              refine wpAnyH_ready (rs := [7]) (by kernel_rfl) (by simp) ?_
              refine AllReadyH.cons rfl (fun K hK => ?_) ?_
              · refine push_fn_step rfl (.tmp 52) (.tmp 54) rfl w13 base gl (.slice Ash us.length csh) us A A4 acc.length ls.length ca c4 o rfl (by rfl) OW.out NW.out (by have := NA.out.size; have := BSD.out; omega) UL.out ?_
                intro v14 w14 hO hg hat
                obtain ⟨A14, n14, c14, rfl⟩ : ∃ A n c, v14 = .slice A n c := by obtain ⟨A, c, e⟩ := hO.form; exact ⟨A, _, c, e⟩
                have OX := Lib.hid hO
                have GX := Lib.hid hg
                have AT := Lib.hid hat
                have R14 : Hid (RdAt w14 b v4) := Lib.hid ((hg.block b (Array.getElem?_eq_some_iff.1 R13.out).1 (fun e => by obtain ⟨h1, _⟩ := OW.out.obj b e.symm; have := HB.out.1; omega)).trans R13.out)
                refine hK.out _ _ (holdG_o hHeld hg (fun e => by obtain ⟨_, h1, _⟩ := OSw.out.obj _ e; have := GW.out; omega) (by have := NA.out.size; have := GLT2.out; omega)) (fun hHeld' => ?_)
                clear hHeld
                have hHeld := hHeld'
                clear hHeld'
                clear hO hg hat
                clear hK K
                try simp only [Act.put, List.getElem_toArray, List.getElem_cons_succ, List.getElem_cons_zero, List.setIfInBounds_toArray, List.set_cons_zero, List.set_cons_succ]
                refine wpAnyH_take (i := 8) (v := ?v606) rfl (by kernel_rfl) (by kernel_rfl) (by kernel_rfl) (fun _ _ _ h => h) (Or.inl ⟨by rfl, ?y606⟩) (by assumption) ?r606
                case y606 => ((intro w hSw; (try dsimp only at hSw); go_simp); try with_reducible rfl)
                try simp only [Act.put, List.getElem_toArray, List.getElem_cons_succ, List.getElem_cons_zero, List.setIfInBounds_toArray, List.set_cons_zero, List.set_cons_succ]
                refine wpAnyH_take (i := 9) (v := ?v607) rfl (by kernel_rfl) (by kernel_rfl) (by kernel_rfl) (fun _ _ _ h => h) (Or.inl ⟨by rfl, ?y607⟩) (by assumption) ?r607
                case y607 => ((intro w hSw; (try dsimp only at hSw); go_simp); try with_reducible rfl)
                try simp only [Act.put, List.getElem_toArray, List.getElem_cons_succ, List.getElem_cons_zero, List.setIfInBounds_toArray, List.set_cons_zero, List.set_cons_succ]
                refine wpAnyH_ready (rs := [10]) (by kernel_rfl) (by simp) ?_
                refine AllReadyH.cons rfl (fun K hK => ?_) ?_
                · have ac : w14.cell? ⟨b, 9, none⟩ = some v4.shared := R14.out.cell (i := 9) rfl
                  have af : w14.frozen? ⟨b, 9, none⟩ = false := frozen_of_row _ _ _ _ _ R14.out
                  go_simp
                  clear ac af
                  refine hK.out _ _ (holdG_s hHeld (by have := GB.out; omega)) (fun hHeld' => ?_)
                  clear hHeld
                  have hHeld := hHeld'
                  clear hHeld'
                  clear hK K
                  try simp only [Act.put, List.getElem_toArray, List.getElem_cons_succ, List.getElem_cons_zero, List.setIfInBounds_toArray, List.set_cons_zero, List.set_cons_succ]
                  refine wpAnyH_done (by kernel_rfl) ?_ _
                  refine NoPanic.normal ?_
                  obtain ⟨k0, k1, k2⟩ := hHeld
                  have R15 := Lib.hid (fn_row GD.out OSw.out NA.out GX.out (.slice A14 n14 c14))
                  go_wp2_with (first
                    | ((with_reducible show wpList _ _ _ (Oper.mk none (.store 126 _ _) _ _ _ _ :: _) _ _); refine wpList_store_row rfl 126 (.tmp 2) (.tmp 58) rfl w.heap.size #[.slice A acc.length ca, .int .i64 o, .slice A4 ls.length c4] rfl rfl 126 #[.slice none 0 0, .int .i64 0, .slice none 0 0] R15.out (by kernel_rfl) rfl (by simp [Value.oneCell']) ?_)
                    | fail)
                  exact bodyPost_ret (results_fn rfl _ _ w.heap.size _ _ _ rfl (setRow_heap _ w.heap.size _ _ _ _ R15.out)) rfl (fn_end_neg GD.out hs11.out LD.out KD.out HN0.out HOO.out.symm HO.out HU.out HB.out.1 HB.out.2.1 HB.out.2.2 BS.out NA.out (SH.out ▸ OW.out) OX.out (SH.out ▸ GX.out) (SH.out ▸ AT.out) R14.out _ CAP.out)
                exact AllReadyH.nil
              exact AllReadyH.nil
            exact AllReadyH.nil
          refine AllReadyH.cons rfl (fun K hK => ?_) ?_
          · go_simp
            have na := new_val wd (.cells #[.slice A acc.length ca, .int .i64 o, .slice A4 ls.length c4] 126)
            have NA := Lib.hid na
            have NW := Lib.hid (heap_alloc_new wd (.cells #[.slice A acc.length ca, .int .i64 o, .slice A4 ls.length c4] 126))
            have R13 : Hid (RdAt (wd.alloc (.cells #[.slice A acc.length ca, .int .i64 o, .slice A4 ls.length c4] 126)) b v4) := Lib.hid ((na.block b RD.out.lt).trans RD.out)
            refine hK.out _ _ (holdG hHeld na) (fun hHeld' => ?_)
            clear hHeld
            have hHeld := hHeld'
            clear hHeld'
            clear na
            generalize wd.alloc (.cells #[.slice A acc.length ca, .int .i64 o, .slice A4 ls.length c4] 126) = w13 at hHeld NA NW R13 ⊢
            have OW := Lib.hid ((OSD.out.keepB (fun g _ h1 _ => NA.out.block g h1)))
            generalize wd.heap.size = gl at NW ⊢
            clear hK K
            try simp only [Act.put, List.getElem_toArray, List.getElem_cons_succ, List.getElem_cons_zero, List.setIfInBounds_toArray, List.set_cons_zero, List.set_cons_succ]
            refine wpAnyH_ready (rs := [4]) (by kernel_rfl) (by simp) ?_
            refine AllReadyH.cons rfl (fun K hK => ?_) ?_
            · have ac : w13.cell? ⟨b, 9, none⟩ = some (.slice Ash us.length csh) := (R13.out.cell (i := 9) (u := v4.shared) rfl).trans (by rw [SH4.out])
              go_simp
              clear ac
              refine hK.out _ _ (hHeld) (fun hHeld' => ?_)
              clear hHeld
              have hHeld := hHeld'
              clear hHeld'
              clear hK K
              try simp only [Act.put, List.getElem_toArray, List.getElem_cons_succ, List.getElem_cons_zero, List.setIfInBounds_toArray, List.set_cons_zero, List.set_cons_succ]
              refine wpAnyH_ready (rs := [7]) (by kernel_rfl) (by simp) ?_
              refine AllReadyH.cons rfl (fun K hK => ?_) ?_
              · refine push_fn_step rfl (.tmp 52) (.tmp 54) rfl w13 base gl (.slice Ash us.length csh) us A A4 acc.length ls.length ca c4 o rfl (by rfl) OW.out NW.out (by have := NA.out.size; have := BSD.out; omega) UL.out ?_
                intro v14 w14 hO hg hat
                obtain ⟨A14, n14, c14, rfl⟩ : ∃ A n c, v14 = .slice A n c := by obtain ⟨A, c, e⟩ := hO.form; exact ⟨A, _, c, e⟩
                have OX := Lib.hid hO
                have GX := Lib.hid hg
                have AT := Lib.hid hat
                have R14 : Hid (RdAt w14 b v4) := Lib.hid ((hg.block b (Array.getElem?_eq_some_iff.1 R13.out).1 (fun e => by obtain ⟨h1, _⟩ := OW.out.obj b e.symm; have := HB.out.1; omega)).trans R13.out)
                refine hK.out _ _ (holdG_o hHeld hg (fun e => by obtain ⟨_, h1, _⟩ := OSw.out.obj _ e; have := GW.out; omega) (by have := NA.out.size; have := GLT2.out; omega)) (fun hHeld' => ?_)
                clear hHeld
                have hHeld := hHeld'
                clear hHeld'
                clear hO hg hat
                clear hK K
                try simp only [Act.put, List.getElem_toArray, List.getElem_cons_succ, List.getElem_cons_zero, List.setIfInBounds_toArray, List.set_cons_zero, List.set_cons_succ]
                refine wpAnyH_take (i := 8) (v := ?v608) rfl (by kernel_rfl) (by kernel_rfl) (by kernel_rfl) (fun _ _ _ h => h) (Or.inl ⟨by rfl, ?y608⟩) (by assumption) ?r608
                case y608 => ((intro w hSw; (try dsimp only at hSw); go_simp); try with_reducible rfl)
                try simp only [Act.put, List.getElem_toArray, List.getElem_cons_succ, List.getElem_cons_zero, List.setIfInBounds_toArray, List.set_cons_zero, List.set_cons_succ]
                refine wpAnyH_take (i := 9) (v := ?v609) rfl (by kernel_rfl) (by kernel_rfl) (by kernel_rfl) (fun _ _ _ h => h) (Or.inl ⟨by rfl, ?y609⟩) (by assumption) ?r609
                case y609 => ((intro w hSw; (try dsimp only at hSw); go_simp); try with_reducible rfl)
                try simp only [Act.put, List.getElem_toArray, List.getElem_cons_succ, List.getElem_cons_zero, List.setIfInBounds_toArray, List.set_cons_zero, List.set_cons_succ]
                refine wpAnyH_ready (rs := [10]) (by kernel_rfl) (by simp) ?_
                refine AllReadyH.cons rfl (fun K hK => ?_) ?_
                · have ac : w14.cell? ⟨b, 9, none⟩ = some v4.shared := R14.out.cell (i := 9) rfl
                  have af : w14.frozen? ⟨b, 9, none⟩ = false := frozen_of_row _ _ _ _ _ R14.out
                  go_simp
                  clear ac af
                  refine hK.out _ _ (holdG_s hHeld (by have := GB.out; omega)) (fun hHeld' => ?_)
                  clear hHeld
                  have hHeld := hHeld'
                  clear hHeld'
                  clear hK K
                  try simp only [Act.put, List.getElem_toArray, List.getElem_cons_succ, List.getElem_cons_zero, List.setIfInBounds_toArray, List.set_cons_zero, List.set_cons_succ]
                  refine wpAnyH_done (by kernel_rfl) ?_ _
                  refine NoPanic.normal ?_
                  obtain ⟨k0, k1, k2⟩ := hHeld
                  have R15 := Lib.hid (fn_row GD.out OSw.out NA.out GX.out (.slice A14 n14 c14))
                  go_wp2_with (first
                    | ((with_reducible show wpList _ _ _ (Oper.mk none (.store 126 _ _) _ _ _ _ :: _) _ _); refine wpList_store_row rfl 126 (.tmp 2) (.tmp 58) rfl w.heap.size #[.slice A acc.length ca, .int .i64 o, .slice A4 ls.length c4] rfl rfl 126 #[.slice none 0 0, .int .i64 0, .slice none 0 0] R15.out (by kernel_rfl) rfl (by simp [Value.oneCell']) ?_)
                    | fail)
                  exact bodyPost_ret (results_fn rfl _ _ w.heap.size _ _ _ rfl (setRow_heap _ w.heap.size _ _ _ _ R15.out)) rfl (fn_end_neg GD.out hs11.out LD.out KD.out HN0.out HOO.out.symm HO.out HU.out HB.out.1 HB.out.2.1 HB.out.2.2 BS.out NA.out (SH.out ▸ OW.out) OX.out (SH.out ▸ GX.out) (SH.out ▸ AT.out) R14.out _ CAP.out)
                exact AllReadyH.nil
              exact AllReadyH.nil
            exact AllReadyH.nil
          exact AllReadyH.nil
        · have d0 : decide (n < 0) = false := decide_eq_false hn0
          have HN0 := Lib.hid hn0
          clear hn0
          obtain ⟨k0, k1, k2⟩ := G12.out.cells
          go_wp2_with (first
            | ((with_reducible show wpList _ _ _ (Oper.mk none (.store 126 _ _) _ _ _ _ :: _) _ _); refine wpList_store_row rfl 126 (.tmp 2) (.tmp 58) rfl w.heap.size #[.slice A acc.length ca, .int .i64 o, .slice A4 ls.length c4] rfl rfl 126 #[.slice none 0 0, .int .i64 0, .slice none 0 0] G12.out.r (by kernel_rfl) rfl (by simp [Value.oneCell']) ?_)
            | fail)
          exact bodyPost_ret (results_fn rfl _ _ w.heap.size _ _ _ rfl (setRow_heap w12 w.heap.size _ _ _ _ G12.out.r)) rfl (fn_end_pos G12.out hs11.out L12.out R12'.out (by have := HN0.out; omega) HOO.out.symm HO.out HU.out HB.out.1 HB.out.2.1 HB.out.2.2 BS.out _ CAP.out)
      exact AllReadyH.nil
    exact AllReadyH.nil
  exact AllReadyH.nil

end Go.Proofs.YteocbgcgfllieaaGreatDoor
