/- The contract of trail's Forget (no statement of its own). -/
import Derived.Test.YtafcecacldafgaaTrY
import Derived.Test.YtafcecacldafgaaTrW
namespace Go.Proofs.Ytafcecacldafgaa
open Go.RowKit
set_option linter.unusedVariables false
/-- What holds behind r rounds of Forget's loop. -/
structure ForI (P : Nat → Prop) (w : World) (b kp g : Nat) (T0 : Tr) (L : List Tri) (r : Nat) (W : World) : Prop where
  ta : TA P W b ((L.take r).foldl (fun T k => T.keep k) T0)
  keeps : Kp P w W
  kind : ∃ cur, W.heap[g]? = some (.cells cur 70 (0, 0))
  cells : ∀ i, r ≤ i → i < L.length → W.cell? ⟨g, kp * 3 + i * 3, none⟩ = some (.int .i64 (nth3 L i).1) ∧ W.cell? ⟨g, kp * 3 + i * 3 + 1, none⟩ = some (.int .i64 (nth3 L i).2.1) ∧ W.cell? ⟨g, kp * 3 + i * 3 + 2, none⟩ = some (.int .i64 (nth3 L i).2.2)
  len : ((L.take r).foldl (fun T k => T.keep k) T0).kept.length ≤ kp + r
theorem fold_snoc (L : List Tri) (r : Nat) (h : r < L.length) (T0 : Tr) : (L.take (r + 1)).foldl (fun T k => T.keep k) T0 = ((L.take r).foldl (fun T k => T.keep k) T0).keep (nth3 L r) := by
  have e : L.take (r + 1) = L.take r ++ [nth3 L r] := by
    rw [List.take_succ_eq_append_getElem h]
    congr 2
    unfold nth3; rw [List.getD_eq_getElem?_getD, List.getElem?_eq_getElem h]; rfl
  rw [e, List.foldl_append]
  rfl
theorem fold_marks (L : List Tri) (T0 : Tr) : (L.foldl (fun T k => T.keep k) T0).marks = T0.marks := by
  induction L generalizing T0 with
  | nil => rfl
  | cons k L ih => exact (ih (T0.keep k)).trans (keep_parts T0 k).2.2.2.1
theorem ForI.grown {P : Nat → Prop} {w W W' : World} {b kp g r : Nat} {T0 : Tr} {L : List Tri} (h : ForI P w b kp g T0 L r W) (hg : W.grownBy W' none) : ForI P w b kp g T0 L r W' := by
  obtain ⟨cur, hc⟩ := h.kind
  have hb := hg.block g (Array.getElem?_eq_some_iff.1 hc).1 (by simp)
  exact ⟨h.ta.grown hg, h.keeps.trans (Kp.none hg), ⟨cur, hb.trans hc⟩, fun i hi hl => ⟨(World.cell?_of_block (a := ⟨g, _, none⟩) hb).trans (h.cells i hi hl).1, (World.cell?_of_block (a := ⟨g, _, none⟩) hb).trans (h.cells i hi hl).2.1, (World.cell?_of_block (a := ⟨g, _, none⟩) hb).trans (h.cells i hi hl).2.2⟩, h.len⟩
def AndF (P : Nat → Prop) (w : World) (b kp g : Nat) (T0 : Tr) (L : List Tri) (r : Nat) (e : Ending) (w' : World) : Prop := e = .returned (.tuple #[]) ∧ ForI P w b kp g T0 L r w'
theorem ForI.step {P : Nat → Prop} {w W : World} {b kp g r : Nat} {T0 : Tr} {L : List Tri} (h : ForI P w b kp g T0 L r W) (hr : r < L.length) (hP : ∀ k, w.heap.size ≤ k → P k) (hm : T0.marks.length < 1000000) (hk : kp + L.length < 1000000) :
    ∀ W', W.grownBy W' none → Calls Try.prog 30 #[.pointer (some ⟨b, 0, none⟩), .agg #[.int .i64 (nth3 L r).1, .int .i64 (nth3 L r).2.1, .int .i64 (nth3 L r).2.2]] W' (AndF P w b kp g T0 L (r + 1)) := by
  intro W' hg
  have h' := h.grown hg
  refine (keep_anyq (q := g) h'.ta (fun k hk => hP k (Nat.le_trans h'.keeps.size hk)) (by rw [fold_marks]; exact hm) (by have := h'.len; omega)).mono ?_
  rintro e w1 ⟨⟨rfl, h1, h2⟩, h3⟩
  obtain ⟨cur, hc⟩ := h'.kind
  obtain ⟨k1, k2⟩ := h3 cur hc
  refine ⟨rfl, ?_, h'.keeps.trans h2, k1, fun i hi hl => ?_, ?_⟩
  · rw [fold_snoc L r hr]; exact h1
  · have hlen := h'.len
    obtain ⟨d0, d1, d2⟩ := h'.cells i (by omega) hl
    exact ⟨(k2 _ (by omega)).trans d0, (k2 _ (by omega)).trans d1, (k2 _ (by omega)).trans d2⟩
  · rw [fold_snoc L r hr]
    have hlen := h'.len
    rcases (keep_parts ((L.take r).foldl (fun T k => T.keep k) T0) (nth3 L r)).2.2.2.2 with e5 | ⟨_, _, e5⟩ <;> rw [e5] <;> simp <;> omega
set_option maxRecDepth 100000 in
set_option maxHeartbeats 4000000 in
theorem forget_some {P : Nat → Prop} {w : World} {b m i kp g c : Nat} {v1 v2 : Value} {T : Tr} (h1 : Hd w b T.size T.era v1 v2 (.slice (some ⟨g, 0, none⟩) T.kept.length c) m) (h2 : Parts P w b m v1 v2 (.slice (some ⟨g, 0, none⟩) T.kept.length c) T.fs T.marks T.kept)
    (hP : ∀ k, w.heap.size ≤ k → P k) (hm : T.marks.length < 1000000) (hk : T.kept.length < 1000000) (hi : i < T.marks.length) (hkp : (nth3 T.marks i).2.2 = (kp : Int)) (hkl : kp ≤ T.kept.length) :
    Calls Try.prog 23 #[.pointer (some ⟨b, 0, none⟩), .int .i64 (i : Int)] w (AndT P w b (T.forget i) (.int .i64 0)) := by
  have H1 := Lib.hid (open_of (i : Int) w (depth_any (P := P) (T := T) (h2.ta h1)))
  have hin : isIn (i : Int) T.marks.length = true := by simp [isIn]; omega
  rw [hin] at H1
  have c4 := h1.c4
  have c5 := h1.c5
  obtain ⟨A2, c2, rfl, _, _, hA2⟩ := row_form h2.r2
  obtain ⟨g2, rfl, hg2⟩ := hA2 (by omega)
  have d2 := h2.r2.at2 i hi
  obtain ⟨y, hy⟩ : ∃ y, nth3 T.marks i = y := ⟨_, rfl⟩
  rw [hy, ] at d2 hkp
  rw [hkp] at d2
  have HFG : Hid (T.forget i = (T.kept.drop kp).foldl (fun T k => T.keep k) { T with marks := T.marks.take i, kept := T.kept.take kp }) := Lib.hid (by unfold Tr.forget; rw [hy, hkp]; rw [Int.toNat_natCast])
  have hi' : (i : Int) < (T.marks.length : Int) := by omega
  obtain ⟨hcm, hic⟩ := row3_cut (n := i) h2.r2 (by omega)
  have hic' : (i : Int) ≤ (c2 : Int) := by omega
  obtain ⟨hck, hkc'⟩ := row3_cut (n := kp) h2.r3 hkl
  have hkc2 : (kp : Int) ≤ (c : Int) := by omega
  have hkl' : (kp : Int) ≤ (T.kept.length : Int) := by omega
  have hkc : T.kept.length ≤ c := by
    obtain ⟨A', c', e', h', _⟩ := row_form h2.r3
    injection e' with e1 e2 e3
    omega
  have HTR : Hid (Trs w (some ⟨g, kp * 3, none⟩) (T.kept.drop kp)) := Lib.hid (trs_of h2.r3 hkl)
  have HGQ : Hid (∃ cur, w.heap[g]? = some (.cells cur 70 (0, 0))) := Lib.hid (by
    rcases h2.r3.2 with ⟨e, _⟩ | ⟨g', cap, cur, e, _, hc, _⟩
    · simp at e
    · simp only [Value.slice.injEq, Option.some.injEq, Addr.mk.injEq, and_true, true_and] at e
      obtain ⟨rfl, _⟩ := e
      exact ⟨cur, hc⟩)
  have HCUT0 : Hid (Parts P w b m v1 (.slice (some ⟨g2, 0, none⟩) i c2) (.slice (some ⟨g, 0, none⟩) kp c) T.fs (T.marks.take i) (T.kept.take kp)) := Lib.hid ⟨h2.r1, hcm, hck, h2.e, h2.pb, h2.pm, h2.p1, fun k hk => h2.p2 k hk, fun k hk => h2.p3 k hk⟩
  have HH := Lib.hid h1
  have HPP := Lib.hid hP
  have HK := Lib.hid hk
  have HM := Lib.hid hm
  have HI := Lib.hid hi
  clear h1 h2 hin hm hA2 hg2 hy hP hk hkp hcm hck hic hi
  go_enter Try.func23, Try.ntmps23
  go_upto_region 5 with (go_at_call 32; refine H1.out.mono ?_; rintro e w' ⟨rfl, rfl⟩)
  obtain ⟨A, hA⟩ : ∃ A : Option Addr, (if c = kp then some ⟨g, 0, none⟩ else some ⟨g, kp * 3, none⟩ : Option Addr) = A := ⟨_, rfl⟩
  rw [hA]
  have HA := Lib.hid hA
  clear hA
  obtain ⟨L, hL⟩ : ∃ L : List Tri, T.kept.drop kp = L := ⟨_, rfl⟩
  have hLL : T.kept.length - kp = L.length := by rw [← hL, List.length_drop]
  rw [hL] at HFG HTR
  rw [hLL]
  have HLA : Hid (0 < L.length → A = some ⟨g, kp * 3, none⟩) := Lib.hid (fun h => by
    have hA := HA.out
    rw [if_neg (by omega)] at hA
    exact hA.symm)
  have HLT : Hid (kp + L.length = T.kept.length) := Lib.hid (by omega)
  clear c4 c5 d2
  refine wp_region_noPanic ?_
  refine wp_region_held_drew (S := fun _ => True) (by kernel_rfl) trivial (fun hHeld => ?_)
  have HQ1 : Hid (Hd w.drew b T.size T.era v1 (.slice (some ⟨g2, 0, none⟩) T.marks.length c2) (.slice (some ⟨g, 0, none⟩) T.kept.length c) m) := HH
  have HCUT : Hid (Parts P w.drew b m v1 (.slice (some ⟨g2, 0, none⟩) i c2) (.slice (some ⟨g, 0, none⟩) kp c) T.fs (T.marks.take i) (T.kept.take kp)) := Lib.hid (HCUT0.out.grown (grown_drew (World.grownBy_refl _)))
  have HQ3 : Hid (Kp P w w.drew) := Lib.hid (Kp.none (grown_drew (World.grownBy_refl _)))
  have HFQ : Hid (w.drew.heap = w.heap) := Lib.hid rfl
  clear HH HCUT0
  generalize w.drew = w4 at *
  refine wpAnyH_take (i := 0) (v := ?v1501) rfl (by kernel_rfl) (by kernel_rfl) (by kernel_rfl) (fun _ _ _ h => h) (Or.inl ⟨by rfl, ?y1501⟩) (by assumption) ?r1501
  case y1501 => ((intro w hSw; (try dsimp only at hSw); go_simp); try with_reducible rfl)
  try simp only [Act.put, List.getElem_toArray, List.getElem_cons_zero, List.setIfInBounds_toArray, List.set_cons_zero, List.set_cons_succ]
  refine wpAnyH_take (i := 1) (v := ?v1502) rfl (by kernel_rfl) (by kernel_rfl) (by kernel_rfl) (fun _ _ _ h => h) (Or.inl ⟨by rfl, ?y1502⟩) (by assumption) ?r1502
  case y1502 => ((intro w hSw; (try dsimp only at hSw); go_simp); try with_reducible rfl)
  try simp only [Act.put, List.getElem_toArray, List.getElem_cons_succ, List.getElem_cons_zero, List.setIfInBounds_toArray, List.set_cons_zero, List.set_cons_succ]
  refine wpAnyH_take (i := 2) (v := ?v1503) rfl (by kernel_rfl) (by kernel_rfl) (by kernel_rfl) (fun _ _ _ h => h) (Or.inl ⟨by rfl, ?y1503⟩) (by assumption) ?r1503
  case y1503 => ((intro w hSw; (try dsimp only at hSw); go_simp); try with_reducible rfl)
  try simp only [Act.put, List.getElem_toArray, List.getElem_cons_succ, List.getElem_cons_zero, List.setIfInBounds_toArray, List.set_cons_zero, List.set_cons_succ]
  refine wpAnyH_take (i := 3) (v := ?v1504) rfl (by kernel_rfl) (by kernel_rfl) (by kernel_rfl) (fun _ _ _ h => h) (Or.inl ⟨by rfl, ?y1504⟩) (by assumption) ?r1504
  case y1504 => ((intro w hSw; (try dsimp only at hSw); go_simp); try with_reducible rfl)
  try simp only [Act.put, List.getElem_toArray, List.getElem_cons_succ, List.getElem_cons_zero, List.setIfInBounds_toArray, List.set_cons_zero, List.set_cons_succ]
  refine wpAnyH_take (i := 4) (v := ?v1505) rfl (by kernel_rfl) (by kernel_rfl) (by kernel_rfl) (fun _ _ _ h => h) (Or.inl ⟨by rfl, ?y1505⟩) (by assumption) ?r1505
  case y1505 => ((intro w hSw; (try dsimp only at hSw); go_simp); try with_reducible rfl)
  try simp only [Act.put, List.getElem_toArray, List.getElem_cons_succ, List.getElem_cons_zero, List.setIfInBounds_toArray, List.set_cons_zero, List.set_cons_succ]
  refine wpAnyH_take (i := 6) (v := ?v1506) rfl (by kernel_rfl) (by kernel_rfl) (by kernel_rfl) (fun _ _ _ h => h) (Or.inl ⟨by rfl, ?y1506⟩) (by assumption) ?r1506
  case y1506 => ((intro w hSw; (try dsimp only at hSw); go_simp); try with_reducible rfl)
  try simp only [Act.put, List.getElem_toArray, List.getElem_cons_succ, List.getElem_cons_zero, List.setIfInBounds_toArray, List.set_cons_zero, List.set_cons_succ]
  refine wpAnyH_take (i := 8) (v := ?v1507) rfl (by kernel_rfl) (by kernel_rfl) (by kernel_rfl) (fun _ _ _ h => h) (Or.inl ⟨by rfl, ?y1507⟩) (by assumption) ?r1507
  case y1507 => ((intro w hSw; (try dsimp only at hSw); go_simp); try with_reducible rfl)
  try simp only [Act.put, List.getElem_toArray, List.getElem_cons_succ, List.getElem_cons_zero, List.setIfInBounds_toArray, List.set_cons_zero, List.set_cons_succ]
  refine wpAnyH_take (i := 9) (v := ?v1508) rfl (by kernel_rfl) (by kernel_rfl) (by kernel_rfl) (fun _ _ _ h => h) (Or.inl ⟨by rfl, ?y1508⟩) (by assumption) ?r1508
  case y1508 => ((intro w hSw; (try dsimp only at hSw); go_simp); try with_reducible rfl)
  try simp only [Act.put, List.getElem_toArray, List.getElem_cons_succ, List.getElem_cons_zero, List.setIfInBounds_toArray, List.set_cons_zero, List.set_cons_succ]
  refine wpAnyH_take (i := 10) (v := ?v1509) rfl (by kernel_rfl) (by kernel_rfl) (by kernel_rfl) (fun _ _ _ h => h) (Or.inl ⟨by rfl, ?y1509⟩) (by assumption) ?r1509
  case y1509 => ((intro w hSw; (try dsimp only at hSw); go_simp); try with_reducible rfl)
  try simp only [Act.put, List.getElem_toArray, List.getElem_cons_succ, List.getElem_cons_zero, List.setIfInBounds_toArray, List.set_cons_zero, List.set_cons_succ]
  refine wpAnyH_take (i := 12) (v := ?v1510) rfl (by kernel_rfl) (by kernel_rfl) (by kernel_rfl) (fun _ _ _ h => h) (Or.inl ⟨by rfl, ?y1510⟩) (by assumption) ?r1510
  case y1510 => ((intro w hSw; (try dsimp only at hSw); go_simp); try with_reducible rfl)
  try simp only [Act.put, List.getElem_toArray, List.getElem_cons_succ, List.getElem_cons_zero, List.setIfInBounds_toArray, List.set_cons_zero, List.set_cons_succ]
  refine wpAnyH_ready (rs := [5, 11]) (by kernel_rfl) (by simp) ?_
  refine AllReadyH.cons rfl (fun K hK => ?_) ?_
  · have ac : w4.cell? ⟨b, 4, none⟩ = some (.slice (some ⟨g2, 0, none⟩) T.marks.length c2) := HQ1.out.c4
    go_simp
    clear ac
    refine hK.out _ _ (hHeld) (fun hHeld' => ?_)
    clear hHeld
    have hHeld := hHeld'
    clear hHeld'
    clear hK K
    try simp only [Act.put, List.getElem_toArray, List.getElem_cons_succ, List.getElem_cons_zero, List.setIfInBounds_toArray, List.set_cons_zero, List.set_cons_succ]
    refine wpAnyH_take (i := 7) (v := ?v1511) rfl (by kernel_rfl) (by kernel_rfl) (by kernel_rfl) (fun _ _ _ h => h) (Or.inl ⟨by rfl, ?y1511⟩) (by assumption) ?r1511
    case y1511 => ((intro w hSw; (try dsimp only at hSw); go_simp); try with_reducible rfl)
    try simp only [Act.put, List.getElem_toArray, List.getElem_cons_succ, List.getElem_cons_zero, List.setIfInBounds_toArray, List.set_cons_zero, List.set_cons_succ]
    refine wpAnyH_ready (rs := [11]) (by kernel_rfl) (by simp) ?_
    refine AllReadyH.cons rfl (fun K hK => ?_) ?_
    · have ac : w4.cell? ⟨b, 5, none⟩ = some (.slice (some ⟨g, 0, none⟩) T.kept.length c) := HQ1.out.c5
      go_simp
      clear ac
      refine hK.out _ _ (hHeld) (fun hHeld' => ?_)
      clear hHeld
      have hHeld := hHeld'
      clear hHeld'
      clear hK K
      try simp only [Act.put, List.getElem_toArray, List.getElem_cons_succ, List.getElem_cons_zero, List.setIfInBounds_toArray, List.set_cons_zero, List.set_cons_succ]
      refine wpAnyH_take (i := 13) (v := ?v1512) rfl (by kernel_rfl) (by kernel_rfl) (by kernel_rfl) (fun _ _ _ h => h) (Or.inl ⟨by rfl, ?y1512⟩) (by assumption) ?r1512
      case y1512 => ((intro w hSw; (try dsimp only at hSw); go_simp); try with_reducible rfl)
      try simp only [Act.put, List.getElem_toArray, List.getElem_cons_succ, List.getElem_cons_zero, List.setIfInBounds_toArray, List.set_cons_zero, List.set_cons_succ]
      refine wpAnyH_take (i := 14) (v := ?v1513) rfl (by kernel_rfl) (by kernel_rfl) (by kernel_rfl) (fun _ _ _ h => h) (Or.inl ⟨by rfl, ?y1513⟩) (by assumption) ?r1513
      case y1513 => ((intro w hSw; (try dsimp only at hSw); go_simp); try with_reducible rfl)
      try simp only [Act.put, List.getElem_toArray, List.getElem_cons_succ, List.getElem_cons_zero, List.setIfInBounds_toArray, List.set_cons_zero, List.set_cons_succ]
      refine wpAnyH_take (i := 15) (v := ?v1514) rfl (by kernel_rfl) (by kernel_rfl) (by kernel_rfl) (fun _ _ _ h => h) (Or.inl ⟨by rfl, ?y1514⟩) (by assumption) ?r1514
      case y1514 => ((intro w hSw; (try dsimp only at hSw); go_simp); try with_reducible rfl)
      try simp only [Act.put, List.getElem_toArray, List.getElem_cons_succ, List.getElem_cons_zero, List.setIfInBounds_toArray, List.set_cons_zero, List.set_cons_succ]
      refine wpAnyH_ready (rs := [16]) (by kernel_rfl) (by simp) ?_
      refine AllReadyH.cons rfl (fun K hK => ?_) ?_
      · have e5 := HQ1.out.c4
        have e5f := HQ1.out.frozen 4
        go_simp
        clear e5 e5f
        have HH5 := Lib.hid (HQ1.out.set4 (.slice (some ⟨g2, 0, none⟩) i c2))
        refine hK.out _ _ (trivial) (fun hHeld' => ?_)
        clear hHeld
        have hHeld := hHeld'
        clear hHeld'
        generalize w4.setCell ⟨b, 4, none⟩ (.slice (some ⟨g2, 0, none⟩) i c2) = w5 at hHeld HH5 ⊢
        clear hK K
        try simp only [Act.put, List.getElem_toArray, List.getElem_cons_succ, List.getElem_cons_zero, List.setIfInBounds_toArray, List.set_cons_zero, List.set_cons_succ]
        refine wpAnyH_take (i := 17) (v := ?v1515) rfl (by kernel_rfl) (by kernel_rfl) (by kernel_rfl) (fun _ _ _ h => h) (Or.inl ⟨by rfl, ?y1515⟩) (by assumption) ?r1515
        case y1515 => ((intro w hSw; (try dsimp only at hSw); go_simp); try with_reducible rfl)
        try simp only [Act.put, List.getElem_toArray, List.getElem_cons_succ, List.getElem_cons_zero, List.setIfInBounds_toArray, List.set_cons_zero, List.set_cons_succ]
        refine wpAnyH_take (i := 18) (v := ?v1516) rfl (by kernel_rfl) (by kernel_rfl) (by kernel_rfl) (fun _ _ _ h => h) (Or.inl ⟨by rfl, ?y1516⟩) (by assumption) ?r1516
        case y1516 => ((intro w hSw; (try dsimp only at hSw); go_simp); try with_reducible rfl)
        try simp only [Act.put, List.getElem_toArray, List.getElem_cons_succ, List.getElem_cons_zero, List.setIfInBounds_toArray, List.set_cons_zero, List.set_cons_succ]
        refine wpAnyH_ready (rs := [19]) (by kernel_rfl) (by simp) ?_
        refine AllReadyH.cons rfl (fun K hK => ?_) ?_
        · have e5 := HH5.out.1.c5
          have e5f := HH5.out.1.frozen 5
          go_simp
          clear e5 e5f
          have HH6 := Lib.hid (HH5.out.1.set5 (.slice (some ⟨g, 0, none⟩) kp c))
          refine hK.out _ _ (trivial) (fun hHeld' => ?_)
          clear hHeld
          have hHeld := hHeld'
          clear hHeld'
          generalize w5.setCell ⟨b, 5, none⟩ (.slice (some ⟨g, 0, none⟩) kp c) = w6 at hHeld HH6 ⊢
          clear hK K
          try simp only [Act.put, List.getElem_toArray, List.getElem_cons_succ, List.getElem_cons_zero, List.setIfInBounds_toArray, List.set_cons_zero, List.set_cons_succ]
          refine wpAnyH_done (by kernel_rfl) ?_ _
          refine NoPanic.normal ?_
          clear hHeld
          have hP6 := (HCUT.out.keptB HQ1.out HH5.out.2).keptB HH5.out.1 HH6.out.2
          have HK6 : Hid (Kp P w w6) := Lib.hid ((HQ3.out.trans (Kp.one HH5.out.2 HCUT.out.pb)).trans (Kp.one HH6.out.2 HCUT.out.pb))
          have HT6 := Lib.hid (hP6.ta (T := ⟨T.size, T.fs, T.era, T.marks.take i, T.kept.take kp⟩) HH6.out.1)
          have hW6 : ∀ (q : Nat) (cur : Array Value), w4.heap[q]? = some (.cells cur 70 (0, 0)) → w6.heap[q]? = w4.heap[q]? := fun q cur hq => by
            have hne : q ≠ b := fun e => by
              subst e
              have h' : w4.heap[q]? = some _ := HQ1.out
              rw [h'] at hq
              injection hq with hq
              injection hq with _ hq _
              exact absurd hq (by decide)
            have hlt : q < w4.heap.size := (Array.getElem?_eq_some_iff.1 hq).1
            exact (HH6.out.2.block q (Nat.lt_of_lt_of_le hlt HH5.out.2.size) (by simp; exact hne)).trans (HH5.out.2.block q hlt (by simp; exact hne))
          have hG6 : ∃ cur, w6.heap[g]? = some (.cells cur 70 (0, 0)) := by
            obtain ⟨cur, hc⟩ := HGQ.out
            rw [← HFQ.out] at hc
            exact ⟨cur, (hW6 g cur hc).trans hc⟩
          have hTr6 : ∀ o, w6.cell? ⟨g, o, none⟩ = w.cell? ⟨g, o, none⟩ := fun o => by
            obtain ⟨cur, hc⟩ := HGQ.out
            rw [← HFQ.out] at hc
            have hb := hW6 g cur hc
            rw [HFQ.out] at hb
            exact World.cell?_of_block (a := ⟨g, o, none⟩) hb
          have HIN : Hid (ForI P w b kp g ⟨T.size, T.fs, T.era, T.marks.take i, T.kept.take kp⟩ L 0 w6) := Lib.hid ⟨HT6.out, HK6.out, hG6, fun i' _ hi' => by
            obtain ⟨g', o', e', q0, q1, q2⟩ := HTR.out i' hi'
            injection e' with e'
            injection e' with e1 e2 _
            subst e1 e2
            exact ⟨(hTr6 _).trans q0, (hTr6 _).trans q1, (hTr6 _).trans q2⟩, by simp [List.length_take]; omega⟩
          clear hW6 hG6 hTr6 hP6 HH5 HH6 HQ1 HCUT HQ3 HTR HGQ HFQ HT6 HK6 hLL hL
          have hl6 : (L.length : Int) ≤ 1000000 := by have := HLT.out; have := HK.out; omega
          go_wp2_with fail
          go_loopw [47] (fun ix wr => ∃ r : Nat, r ≤ L.length ∧ ix = .int .i64 (r : Int) ∧ Hid (ForI P w b kp g ⟨T.size, T.fs, T.era, T.marks.take i, T.kept.take kp⟩ L r wr)) (fun i _ => L.length - (intOf i).toNat)
          case atStart => exact ⟨0, Nat.zero_le _, rfl, HIN⟩
          case round =>
            clear HIN
            obtain ⟨r, hr, rfl, HIN⟩ := hrel
            by_cases hlt : r < L.length
            · have hAe := HLA.out (by omega)
              obtain ⟨d0, d1, d2⟩ := HIN.out.cells r (Nat.le_refl _) hlt
              have hri : (r : Int) < (L.length : Int) := by omega
              have HRL := Lib.hid hlt
              have HST := Lib.hid (HIN.out.step (show r < L.length from hlt) HPP.out (by have := HM.out; simp only [List.length_take]; omega) (by have := HK.out; have := HLT.out; omega))
              obtain ⟨z, hz⟩ : ∃ z, nth3 L r = z := ⟨_, rfl⟩
              rw [hz] at d0 d1 d2 HST
              subst hAe
              clear hr hlt hz HIN HLA HA
              have hbx := heap_alloc_new wr (.cells #[.int .i64 z.1, .int .i64 z.2.1, .int .i64 z.2.2] 70)
              go_upto_region 9 with fail
              obtain ⟨k0, k1, k2⟩ := cells3 hbx
              have C := Lib.hid (HST.out _ (World.grownBy_alloc wr (.cells #[.int .i64 z.1, .int .i64 z.2.1, .int .i64 z.2.2] 70) none))
              clear d0 d1 d2 hbx HST
              go_wp2_with (go_at_call 30; refine C.out.mono ?_; rintro e w7 ⟨rfl, h7⟩; have H7 := Lib.hid h7; clear h7)
              go_roundw
              case rel => exact ⟨r + 1, by have := HRL.out; omega, by go_num, H7⟩
              case measure => have := HRL.out; simp [intOf]; omega
            · obtain rfl : L.length = r := by omega
              have H8 := Lib.hid HIN.out.ta
              have K8 := Lib.hid HIN.out.keeps
              clear hlt hr HIN
              rw [List.take_length] at H8
              go_wp2_with fail
              go_ret
              exact ⟨rfl, by rw [HFG.out]; exact H8.out, K8.out⟩
        exact AllReadyH.nil
      exact AllReadyH.nil
    exact AllReadyH.nil
  refine AllReadyH.cons rfl (fun K hK => ?_) ?_
  · have ac : w4.cell? ⟨b, 5, none⟩ = some (.slice (some ⟨g, 0, none⟩) T.kept.length c) := HQ1.out.c5
    go_simp
    clear ac
    refine hK.out _ _ (hHeld) (fun hHeld' => ?_)
    clear hHeld
    have hHeld := hHeld'
    clear hHeld'
    clear hK K
    try simp only [Act.put, List.getElem_toArray, List.getElem_cons_succ, List.getElem_cons_zero, List.setIfInBounds_toArray, List.set_cons_zero, List.set_cons_succ]
    refine wpAnyH_take (i := 13) (v := ?v1517) rfl (by kernel_rfl) (by kernel_rfl) (by kernel_rfl) (fun _ _ _ h => h) (Or.inl ⟨by rfl, ?y1517⟩) (by assumption) ?r1517
    case y1517 => ((intro w hSw; (try dsimp only at hSw); go_simp); try with_reducible rfl)
    try simp only [Act.put, List.getElem_toArray, List.getElem_cons_succ, List.getElem_cons_zero, List.setIfInBounds_toArray, List.set_cons_zero, List.set_cons_succ]
    refine wpAnyH_ready (rs := [5]) (by kernel_rfl) (by simp) ?_
    refine AllReadyH.cons rfl (fun K hK => ?_) ?_
    · have ac : w4.cell? ⟨b, 4, none⟩ = some (.slice (some ⟨g2, 0, none⟩) T.marks.length c2) := HQ1.out.c4
      go_simp
      clear ac
      refine hK.out _ _ (hHeld) (fun hHeld' => ?_)
      clear hHeld
      have hHeld := hHeld'
      clear hHeld'
      clear hK K
      try simp only [Act.put, List.getElem_toArray, List.getElem_cons_succ, List.getElem_cons_zero, List.setIfInBounds_toArray, List.set_cons_zero, List.set_cons_succ]
      refine wpAnyH_take (i := 7) (v := ?v1518) rfl (by kernel_rfl) (by kernel_rfl) (by kernel_rfl) (fun _ _ _ h => h) (Or.inl ⟨by rfl, ?y1518⟩) (by assumption) ?r1518
      case y1518 => ((intro w hSw; (try dsimp only at hSw); go_simp); try with_reducible rfl)
      try simp only [Act.put, List.getElem_toArray, List.getElem_cons_succ, List.getElem_cons_zero, List.setIfInBounds_toArray, List.set_cons_zero, List.set_cons_succ]
      refine wpAnyH_take (i := 14) (v := ?v1519) rfl (by kernel_rfl) (by kernel_rfl) (by kernel_rfl) (fun _ _ _ h => h) (Or.inl ⟨by rfl, ?y1519⟩) (by assumption) ?r1519
      case y1519 => ((intro w hSw; (try dsimp only at hSw); go_simp); try with_reducible rfl)
      try simp only [Act.put, List.getElem_toArray, List.getElem_cons_succ, List.getElem_cons_zero, List.setIfInBounds_toArray, List.set_cons_zero, List.set_cons_succ]
      refine wpAnyH_take (i := 15) (v := ?v1520) rfl (by kernel_rfl) (by kernel_rfl) (by kernel_rfl) (fun _ _ _ h => h) (Or.inl ⟨by rfl, ?y1520⟩) (by assumption) ?r1520
      case y1520 => ((intro w hSw; (try dsimp only at hSw); go_simp); try with_reducible rfl)
      try simp only [Act.put, List.getElem_toArray, List.getElem_cons_succ, List.getElem_cons_zero, List.setIfInBounds_toArray, List.set_cons_zero, List.set_cons_succ]
      refine wpAnyH_ready (rs := [16]) (by kernel_rfl) (by simp) ?_
      refine AllReadyH.cons rfl (fun K hK => ?_) ?_
      · have e5 := HQ1.out.c4
        have e5f := HQ1.out.frozen 4
        go_simp
        clear e5 e5f
        have HH5 := Lib.hid (HQ1.out.set4 (.slice (some ⟨g2, 0, none⟩) i c2))
        refine hK.out _ _ (trivial) (fun hHeld' => ?_)
        clear hHeld
        have hHeld := hHeld'
        clear hHeld'
        generalize w4.setCell ⟨b, 4, none⟩ (.slice (some ⟨g2, 0, none⟩) i c2) = w5 at hHeld HH5 ⊢
        clear hK K
        try simp only [Act.put, List.getElem_toArray, List.getElem_cons_succ, List.getElem_cons_zero, List.setIfInBounds_toArray, List.set_cons_zero, List.set_cons_succ]
        refine wpAnyH_take (i := 17) (v := ?v1521) rfl (by kernel_rfl) (by kernel_rfl) (by kernel_rfl) (fun _ _ _ h => h) (Or.inl ⟨by rfl, ?y1521⟩) (by assumption) ?r1521
        case y1521 => ((intro w hSw; (try dsimp only at hSw); go_simp); try with_reducible rfl)
        try simp only [Act.put, List.getElem_toArray, List.getElem_cons_succ, List.getElem_cons_zero, List.setIfInBounds_toArray, List.set_cons_zero, List.set_cons_succ]
        refine wpAnyH_take (i := 18) (v := ?v1522) rfl (by kernel_rfl) (by kernel_rfl) (by kernel_rfl) (fun _ _ _ h => h) (Or.inl ⟨by rfl, ?y1522⟩) (by assumption) ?r1522
        case y1522 => ((intro w hSw; (try dsimp only at hSw); go_simp); try with_reducible rfl)
        try simp only [Act.put, List.getElem_toArray, List.getElem_cons_succ, List.getElem_cons_zero, List.setIfInBounds_toArray, List.set_cons_zero, List.set_cons_succ]
        refine wpAnyH_ready (rs := [19]) (by kernel_rfl) (by simp) ?_
        refine AllReadyH.cons rfl (fun K hK => ?_) ?_
        · have e5 := HH5.out.1.c5
          have e5f := HH5.out.1.frozen 5
          go_simp
          clear e5 e5f
          have HH6 := Lib.hid (HH5.out.1.set5 (.slice (some ⟨g, 0, none⟩) kp c))
          refine hK.out _ _ (trivial) (fun hHeld' => ?_)
          clear hHeld
          have hHeld := hHeld'
          clear hHeld'
          generalize w5.setCell ⟨b, 5, none⟩ (.slice (some ⟨g, 0, none⟩) kp c) = w6 at hHeld HH6 ⊢
          clear hK K
          try simp only [Act.put, List.getElem_toArray, List.getElem_cons_succ, List.getElem_cons_zero, List.setIfInBounds_toArray, List.set_cons_zero, List.set_cons_succ]
          refine wpAnyH_done (by kernel_rfl) ?_ _
          refine NoPanic.normal ?_
          clear hHeld
          have hP6 := (HCUT.out.keptB HQ1.out HH5.out.2).keptB HH5.out.1 HH6.out.2
          have HK6 : Hid (Kp P w w6) := Lib.hid ((HQ3.out.trans (Kp.one HH5.out.2 HCUT.out.pb)).trans (Kp.one HH6.out.2 HCUT.out.pb))
          have HT6 := Lib.hid (hP6.ta (T := ⟨T.size, T.fs, T.era, T.marks.take i, T.kept.take kp⟩) HH6.out.1)
          have hW6 : ∀ (q : Nat) (cur : Array Value), w4.heap[q]? = some (.cells cur 70 (0, 0)) → w6.heap[q]? = w4.heap[q]? := fun q cur hq => by
            have hne : q ≠ b := fun e => by
              subst e
              have h' : w4.heap[q]? = some _ := HQ1.out
              rw [h'] at hq
              injection hq with hq
              injection hq with _ hq _
              exact absurd hq (by decide)
            have hlt : q < w4.heap.size := (Array.getElem?_eq_some_iff.1 hq).1
            exact (HH6.out.2.block q (Nat.lt_of_lt_of_le hlt HH5.out.2.size) (by simp; exact hne)).trans (HH5.out.2.block q hlt (by simp; exact hne))
          have hG6 : ∃ cur, w6.heap[g]? = some (.cells cur 70 (0, 0)) := by
            obtain ⟨cur, hc⟩ := HGQ.out
            rw [← HFQ.out] at hc
            exact ⟨cur, (hW6 g cur hc).trans hc⟩
          have hTr6 : ∀ o, w6.cell? ⟨g, o, none⟩ = w.cell? ⟨g, o, none⟩ := fun o => by
            obtain ⟨cur, hc⟩ := HGQ.out
            rw [← HFQ.out] at hc
            have hb := hW6 g cur hc
            rw [HFQ.out] at hb
            exact World.cell?_of_block (a := ⟨g, o, none⟩) hb
          have HIN : Hid (ForI P w b kp g ⟨T.size, T.fs, T.era, T.marks.take i, T.kept.take kp⟩ L 0 w6) := Lib.hid ⟨HT6.out, HK6.out, hG6, fun i' _ hi' => by
            obtain ⟨g', o', e', q0, q1, q2⟩ := HTR.out i' hi'
            injection e' with e'
            injection e' with e1 e2 _
            subst e1 e2
            exact ⟨(hTr6 _).trans q0, (hTr6 _).trans q1, (hTr6 _).trans q2⟩, by simp [List.length_take]; omega⟩
          clear hW6 hG6 hTr6 hP6 HH5 HH6 HQ1 HCUT HQ3 HTR HGQ HFQ HT6 HK6 hLL hL
          have hl6 : (L.length : Int) ≤ 1000000 := by have := HLT.out; have := HK.out; omega
          go_wp2_with fail
          go_loopw [47] (fun ix wr => ∃ r : Nat, r ≤ L.length ∧ ix = .int .i64 (r : Int) ∧ Hid (ForI P w b kp g ⟨T.size, T.fs, T.era, T.marks.take i, T.kept.take kp⟩ L r wr)) (fun i _ => L.length - (intOf i).toNat)
          case atStart => exact ⟨0, Nat.zero_le _, rfl, HIN⟩
          case round =>
            clear HIN
            obtain ⟨r, hr, rfl, HIN⟩ := hrel
            by_cases hlt : r < L.length
            · have hAe := HLA.out (by omega)
              obtain ⟨d0, d1, d2⟩ := HIN.out.cells r (Nat.le_refl _) hlt
              have hri : (r : Int) < (L.length : Int) := by omega
              have HRL := Lib.hid hlt
              have HST := Lib.hid (HIN.out.step (show r < L.length from hlt) HPP.out (by have := HM.out; simp only [List.length_take]; omega) (by have := HK.out; have := HLT.out; omega))
              obtain ⟨z, hz⟩ : ∃ z, nth3 L r = z := ⟨_, rfl⟩
              rw [hz] at d0 d1 d2 HST
              subst hAe
              clear hr hlt hz HIN HLA HA
              have hbx := heap_alloc_new wr (.cells #[.int .i64 z.1, .int .i64 z.2.1, .int .i64 z.2.2] 70)
              go_upto_region 9 with fail
              obtain ⟨k0, k1, k2⟩ := cells3 hbx
              have C := Lib.hid (HST.out _ (World.grownBy_alloc wr (.cells #[.int .i64 z.1, .int .i64 z.2.1, .int .i64 z.2.2] 70) none))
              clear d0 d1 d2 hbx HST
              go_wp2_with (go_at_call 30; refine C.out.mono ?_; rintro e w7 ⟨rfl, h7⟩; have H7 := Lib.hid h7; clear h7)
              go_roundw
              case rel => exact ⟨r + 1, by have := HRL.out; omega, by go_num, H7⟩
              case measure => have := HRL.out; simp [intOf]; omega
            · obtain rfl : L.length = r := by omega
              have H8 := Lib.hid HIN.out.ta
              have K8 := Lib.hid HIN.out.keeps
              clear hlt hr HIN
              rw [List.take_length] at H8
              go_wp2_with fail
              go_ret
              exact ⟨rfl, by rw [HFG.out]; exact H8.out, K8.out⟩
        exact AllReadyH.nil
      exact AllReadyH.nil
    exact AllReadyH.nil
  exact AllReadyH.nil
set_option maxRecDepth 100000 in
set_option maxHeartbeats 4000000 in
theorem forget_none {P : Nat → Prop} {w : World} {b m i : Nat} {v1 v2 : Value} {T : Tr} (h1 : Hd w b T.size T.era v1 v2 (.slice none 0 0) m) (h2 : Parts P w b m v1 v2 (.slice none 0 0) T.fs T.marks T.kept)
    (hP : ∀ k, w.heap.size ≤ k → P k) (hm : T.marks.length < 1000000) (hk : T.kept.length < 1000000) (hi : i < T.marks.length) (hkp : (nth3 T.marks i).2.2 = 0) (hke : T.kept = []) :
    Calls Try.prog 23 #[.pointer (some ⟨b, 0, none⟩), .int .i64 (i : Int)] w (AndT P w b (T.forget i) (.int .i64 0)) := by
  have H1 := Lib.hid (open_of (i : Int) w (depth_any (P := P) (T := T) (h2.ta h1)))
  have hin : isIn (i : Int) T.marks.length = true := by simp [isIn]; omega
  rw [hin] at H1
  have c4 := h1.c4
  have c5 := h1.c5
  obtain ⟨A2, c2, rfl, _, _, hA2⟩ := row_form h2.r2
  obtain ⟨g2, rfl, hg2⟩ := hA2 (by omega)
  have d2 := h2.r2.at2 i hi
  obtain ⟨y, hy⟩ : ∃ y, nth3 T.marks i = y := ⟨_, rfl⟩
  rw [hy, ] at d2 hkp
  rw [hkp] at d2
  have HFG : Hid (T.forget i = (T.kept.drop 0).foldl (fun T k => T.keep k) { T with marks := T.marks.take i, kept := T.kept.take 0 }) := Lib.hid (by unfold Tr.forget; rw [hy, hkp]; rfl)
  have hi' : (i : Int) < (T.marks.length : Int) := by omega
  obtain ⟨hcm, hic⟩ := row3_cut (n := i) h2.r2 (by omega)
  have hic' : (i : Int) ≤ (c2 : Int) := by omega
  have hck : RowK w (.slice none 0 0) (T.kept.take 0) := World.ownsRow_nil _ _ _ _
  have HCUT0 : Hid (Parts P w b m v1 (.slice (some ⟨g2, 0, none⟩) i c2) (.slice none 0 0) T.fs (T.marks.take i) (T.kept.take 0)) := Lib.hid ⟨h2.r1, hcm, hck, h2.e, h2.pb, h2.pm, h2.p1, fun k hk => h2.p2 k hk, fun k hk => h2.p3 k hk⟩
  have HH := Lib.hid h1
  have HPP := Lib.hid hP
  have HK := Lib.hid hk
  have HM := Lib.hid hm
  have HI := Lib.hid hi
  have HKE := Lib.hid hke
  clear h1 h2 hin hm hA2 hg2 hy hP hk hkp hcm hck hic hi hke
  go_enter Try.func23, Try.ntmps23
  go_upto_region 5 with (go_at_call 32; refine H1.out.mono ?_; rintro e w' ⟨rfl, rfl⟩)
  clear c4 c5 d2
  refine wp_region_noPanic ?_
  refine wp_region_held_drew (S := fun _ => True) (by kernel_rfl) trivial (fun hHeld => ?_)
  have HQ1 : Hid (Hd w.drew b T.size T.era v1 (.slice (some ⟨g2, 0, none⟩) T.marks.length c2) (.slice none 0 0) m) := HH
  have HCUT : Hid (Parts P w.drew b m v1 (.slice (some ⟨g2, 0, none⟩) i c2) (.slice none 0 0) T.fs (T.marks.take i) (T.kept.take 0)) := Lib.hid (HCUT0.out.grown (grown_drew (World.grownBy_refl _)))
  have HQ3 : Hid (Kp P w w.drew) := Lib.hid (Kp.none (grown_drew (World.grownBy_refl _)))
  clear HH HCUT0
  generalize w.drew = w4 at *
  refine wpAnyH_take (i := 0) (v := ?v1501) rfl (by kernel_rfl) (by kernel_rfl) (by kernel_rfl) (fun _ _ _ h => h) (Or.inl ⟨by rfl, ?y1501⟩) (by assumption) ?r1501
  case y1501 => ((intro w hSw; (try dsimp only at hSw); go_simp); try with_reducible rfl)
  try simp only [Act.put, List.getElem_toArray, List.getElem_cons_zero, List.setIfInBounds_toArray, List.set_cons_zero, List.set_cons_succ]
  refine wpAnyH_take (i := 1) (v := ?v1502) rfl (by kernel_rfl) (by kernel_rfl) (by kernel_rfl) (fun _ _ _ h => h) (Or.inl ⟨by rfl, ?y1502⟩) (by assumption) ?r1502
  case y1502 => ((intro w hSw; (try dsimp only at hSw); go_simp); try with_reducible rfl)
  try simp only [Act.put, List.getElem_toArray, List.getElem_cons_succ, List.getElem_cons_zero, List.setIfInBounds_toArray, List.set_cons_zero, List.set_cons_succ]
  refine wpAnyH_take (i := 2) (v := ?v1503) rfl (by kernel_rfl) (by kernel_rfl) (by kernel_rfl) (fun _ _ _ h => h) (Or.inl ⟨by rfl, ?y1503⟩) (by assumption) ?r1503
  case y1503 => ((intro w hSw; (try dsimp only at hSw); go_simp); try with_reducible rfl)
  try simp only [Act.put, List.getElem_toArray, List.getElem_cons_succ, List.getElem_cons_zero, List.setIfInBounds_toArray, List.set_cons_zero, List.set_cons_succ]
  refine wpAnyH_take (i := 3) (v := ?v1504) rfl (by kernel_rfl) (by kernel_rfl) (by kernel_rfl) (fun _ _ _ h => h) (Or.inl ⟨by rfl, ?y1504⟩) (by assumption) ?r1504
  case y1504 => ((intro w hSw; (try dsimp only at hSw); go_simp); try with_reducible rfl)
  try simp only [Act.put, List.getElem_toArray, List.getElem_cons_succ, List.getElem_cons_zero, List.setIfInBounds_toArray, List.set_cons_zero, List.set_cons_succ]
  refine wpAnyH_take (i := 4) (v := ?v1505) rfl (by kernel_rfl) (by kernel_rfl) (by kernel_rfl) (fun _ _ _ h => h) (Or.inl ⟨by rfl, ?y1505⟩) (by assumption) ?r1505
  case y1505 => ((intro w hSw; (try dsimp only at hSw); go_simp); try with_reducible rfl)
  try simp only [Act.put, List.getElem_toArray, List.getElem_cons_succ, List.getElem_cons_zero, List.setIfInBounds_toArray, List.set_cons_zero, List.set_cons_succ]
  refine wpAnyH_take (i := 6) (v := ?v1506) rfl (by kernel_rfl) (by kernel_rfl) (by kernel_rfl) (fun _ _ _ h => h) (Or.inl ⟨by rfl, ?y1506⟩) (by assumption) ?r1506
  case y1506 => ((intro w hSw; (try dsimp only at hSw); go_simp); try with_reducible rfl)
  try simp only [Act.put, List.getElem_toArray, List.getElem_cons_succ, List.getElem_cons_zero, List.setIfInBounds_toArray, List.set_cons_zero, List.set_cons_succ]
  refine wpAnyH_take (i := 8) (v := ?v1507) rfl (by kernel_rfl) (by kernel_rfl) (by kernel_rfl) (fun _ _ _ h => h) (Or.inl ⟨by rfl, ?y1507⟩) (by assumption) ?r1507
  case y1507 => ((intro w hSw; (try dsimp only at hSw); go_simp); try with_reducible rfl)
  try simp only [Act.put, List.getElem_toArray, List.getElem_cons_succ, List.getElem_cons_zero, List.setIfInBounds_toArray, List.set_cons_zero, List.set_cons_succ]
  refine wpAnyH_take (i := 9) (v := ?v1508) rfl (by kernel_rfl) (by kernel_rfl) (by kernel_rfl) (fun _ _ _ h => h) (Or.inl ⟨by rfl, ?y1508⟩) (by assumption) ?r1508
  case y1508 => ((intro w hSw; (try dsimp only at hSw); go_simp); try with_reducible rfl)
  try simp only [Act.put, List.getElem_toArray, List.getElem_cons_succ, List.getElem_cons_zero, List.setIfInBounds_toArray, List.set_cons_zero, List.set_cons_succ]
  refine wpAnyH_take (i := 10) (v := ?v1509) rfl (by kernel_rfl) (by kernel_rfl) (by kernel_rfl) (fun _ _ _ h => h) (Or.inl ⟨by rfl, ?y1509⟩) (by assumption) ?r1509
  case y1509 => ((intro w hSw; (try dsimp only at hSw); go_simp); try with_reducible rfl)
  try simp only [Act.put, List.getElem_toArray, List.getElem_cons_succ, List.getElem_cons_zero, List.setIfInBounds_toArray, List.set_cons_zero, List.set_cons_succ]
  refine wpAnyH_take (i := 12) (v := ?v1510) rfl (by kernel_rfl) (by kernel_rfl) (by kernel_rfl) (fun _ _ _ h => h) (Or.inl ⟨by rfl, ?y1510⟩) (by assumption) ?r1510
  case y1510 => ((intro w hSw; (try dsimp only at hSw); go_simp); try with_reducible rfl)
  try simp only [Act.put, List.getElem_toArray, List.getElem_cons_succ, List.getElem_cons_zero, List.setIfInBounds_toArray, List.set_cons_zero, List.set_cons_succ]
  refine wpAnyH_ready (rs := [5, 11]) (by kernel_rfl) (by simp) ?_
  refine AllReadyH.cons rfl (fun K hK => ?_) ?_
  · have ac : w4.cell? ⟨b, 4, none⟩ = some (.slice (some ⟨g2, 0, none⟩) T.marks.length c2) := HQ1.out.c4
    go_simp
    clear ac
    refine hK.out _ _ (hHeld) (fun hHeld' => ?_)
    clear hHeld
    have hHeld := hHeld'
    clear hHeld'
    clear hK K
    try simp only [Act.put, List.getElem_toArray, List.getElem_cons_succ, List.getElem_cons_zero, List.setIfInBounds_toArray, List.set_cons_zero, List.set_cons_succ]
    refine wpAnyH_take (i := 7) (v := ?v1511) rfl (by kernel_rfl) (by kernel_rfl) (by kernel_rfl) (fun _ _ _ h => h) (Or.inl ⟨by rfl, ?y1511⟩) (by assumption) ?r1511
    case y1511 => ((intro w hSw; (try dsimp only at hSw); go_simp); try with_reducible rfl)
    try simp only [Act.put, List.getElem_toArray, List.getElem_cons_succ, List.getElem_cons_zero, List.setIfInBounds_toArray, List.set_cons_zero, List.set_cons_succ]
    refine wpAnyH_ready (rs := [11]) (by kernel_rfl) (by simp) ?_
    refine AllReadyH.cons rfl (fun K hK => ?_) ?_
    · have ac : w4.cell? ⟨b, 5, none⟩ = some (.slice none 0 0) := HQ1.out.c5
      go_simp
      clear ac
      refine hK.out _ _ (hHeld) (fun hHeld' => ?_)
      clear hHeld
      have hHeld := hHeld'
      clear hHeld'
      clear hK K
      try simp only [Act.put, List.getElem_toArray, List.getElem_cons_succ, List.getElem_cons_zero, List.setIfInBounds_toArray, List.set_cons_zero, List.set_cons_succ]
      refine wpAnyH_take (i := 13) (v := ?v1512) rfl (by kernel_rfl) (by kernel_rfl) (by kernel_rfl) (fun _ _ _ h => h) (Or.inl ⟨by rfl, ?y1512⟩) (by assumption) ?r1512
      case y1512 => ((intro w hSw; (try dsimp only at hSw); go_simp); try with_reducible rfl)
      try simp only [Act.put, List.getElem_toArray, List.getElem_cons_succ, List.getElem_cons_zero, List.setIfInBounds_toArray, List.set_cons_zero, List.set_cons_succ]
      refine wpAnyH_take (i := 14) (v := ?v1513) rfl (by kernel_rfl) (by kernel_rfl) (by kernel_rfl) (fun _ _ _ h => h) (Or.inl ⟨by rfl, ?y1513⟩) (by assumption) ?r1513
      case y1513 => ((intro w hSw; (try dsimp only at hSw); go_simp); try with_reducible rfl)
      try simp only [Act.put, List.getElem_toArray, List.getElem_cons_succ, List.getElem_cons_zero, List.setIfInBounds_toArray, List.set_cons_zero, List.set_cons_succ]
      refine wpAnyH_take (i := 15) (v := ?v1514) rfl (by kernel_rfl) (by kernel_rfl) (by kernel_rfl) (fun _ _ _ h => h) (Or.inl ⟨by rfl, ?y1514⟩) (by assumption) ?r1514
      case y1514 => ((intro w hSw; (try dsimp only at hSw); go_simp); try with_reducible rfl)
      try simp only [Act.put, List.getElem_toArray, List.getElem_cons_succ, List.getElem_cons_zero, List.setIfInBounds_toArray, List.set_cons_zero, List.set_cons_succ]
      refine wpAnyH_ready (rs := [16]) (by kernel_rfl) (by simp) ?_
      refine AllReadyH.cons rfl (fun K hK => ?_) ?_
      · have e5 := HQ1.out.c4
        have e5f := HQ1.out.frozen 4
        go_simp
        clear e5 e5f
        have HH5 := Lib.hid (HQ1.out.set4 (.slice (some ⟨g2, 0, none⟩) i c2))
        refine hK.out _ _ (trivial) (fun hHeld' => ?_)
        clear hHeld
        have hHeld := hHeld'
        clear hHeld'
        generalize w4.setCell ⟨b, 4, none⟩ (.slice (some ⟨g2, 0, none⟩) i c2) = w5 at hHeld HH5 ⊢
        clear hK K
        try simp only [Act.put, List.getElem_toArray, List.getElem_cons_succ, List.getElem_cons_zero, List.setIfInBounds_toArray, List.set_cons_zero, List.set_cons_succ]
        refine wpAnyH_take (i := 17) (v := ?v1515) rfl (by kernel_rfl) (by kernel_rfl) (by kernel_rfl) (fun _ _ _ h => h) (Or.inl ⟨by rfl, ?y1515⟩) (by assumption) ?r1515
        case y1515 => ((intro w hSw; (try dsimp only at hSw); go_simp); try with_reducible rfl)
        try simp only [Act.put, List.getElem_toArray, List.getElem_cons_succ, List.getElem_cons_zero, List.setIfInBounds_toArray, List.set_cons_zero, List.set_cons_succ]
        refine wpAnyH_take (i := 18) (v := ?v1516) rfl (by kernel_rfl) (by kernel_rfl) (by kernel_rfl) (fun _ _ _ h => h) (Or.inl ⟨by rfl, ?y1516⟩) (by assumption) ?r1516
        case y1516 => ((intro w hSw; (try dsimp only at hSw); go_simp); try with_reducible rfl)
        try simp only [Act.put, List.getElem_toArray, List.getElem_cons_succ, List.getElem_cons_zero, List.setIfInBounds_toArray, List.set_cons_zero, List.set_cons_succ]
        refine wpAnyH_ready (rs := [19]) (by kernel_rfl) (by simp) ?_
        refine AllReadyH.cons rfl (fun K hK => ?_) ?_
        · have e5 := HH5.out.1.c5
          have e5f := HH5.out.1.frozen 5
          go_simp
          clear e5 e5f
          have HH6 := Lib.hid (HH5.out.1.set5 (.slice none 0 0))
          refine hK.out _ _ (trivial) (fun hHeld' => ?_)
          clear hHeld
          have hHeld := hHeld'
          clear hHeld'
          generalize w5.setCell ⟨b, 5, none⟩ (.slice none 0 0) = w6 at hHeld HH6 ⊢
          clear hK K
          try simp only [Act.put, List.getElem_toArray, List.getElem_cons_succ, List.getElem_cons_zero, List.setIfInBounds_toArray, List.set_cons_zero, List.set_cons_succ]
          refine wpAnyH_done (by kernel_rfl) ?_ _
          refine NoPanic.normal ?_
          clear hHeld
          have hP6 := (HCUT.out.keptB HQ1.out HH5.out.2).keptB HH5.out.1 HH6.out.2
          have HK6 : Hid (Kp P w w6) := Lib.hid ((HQ3.out.trans (Kp.one HH5.out.2 HCUT.out.pb)).trans (Kp.one HH6.out.2 HCUT.out.pb))
          have HT6 := Lib.hid (hP6.ta (T := ⟨T.size, T.fs, T.era, T.marks.take i, T.kept.take 0⟩) HH6.out.1)
          clear hP6 HH5 HH6 HQ1 HCUT HQ3
          go_wp2_with fail
          go_loopw [47] (fun i wr => i = .int .i64 0 ∧ Hid (wr = w6)) (fun _ _ => 0)
          case atStart => exact ⟨rfl, Lib.hid rfl⟩
          case round =>
            obtain ⟨rfl, HE⟩ := hrel
            go_wp2_with fail
            go_ret
            have he := HE.out
            subst he
            refine ⟨rfl, ?_, HK6.out⟩
            rw [HFG.out, HKE.out]
            have := HT6.out
            rw [HKE.out] at this
            exact this
        exact AllReadyH.nil
      exact AllReadyH.nil
    exact AllReadyH.nil
  refine AllReadyH.cons rfl (fun K hK => ?_) ?_
  · have ac : w4.cell? ⟨b, 5, none⟩ = some (.slice none 0 0) := HQ1.out.c5
    go_simp
    clear ac
    refine hK.out _ _ (hHeld) (fun hHeld' => ?_)
    clear hHeld
    have hHeld := hHeld'
    clear hHeld'
    clear hK K
    try simp only [Act.put, List.getElem_toArray, List.getElem_cons_succ, List.getElem_cons_zero, List.setIfInBounds_toArray, List.set_cons_zero, List.set_cons_succ]
    refine wpAnyH_take (i := 13) (v := ?v1517) rfl (by kernel_rfl) (by kernel_rfl) (by kernel_rfl) (fun _ _ _ h => h) (Or.inl ⟨by rfl, ?y1517⟩) (by assumption) ?r1517
    case y1517 => ((intro w hSw; (try dsimp only at hSw); go_simp); try with_reducible rfl)
    try simp only [Act.put, List.getElem_toArray, List.getElem_cons_succ, List.getElem_cons_zero, List.setIfInBounds_toArray, List.set_cons_zero, List.set_cons_succ]
    refine wpAnyH_ready (rs := [5]) (by kernel_rfl) (by simp) ?_
    refine AllReadyH.cons rfl (fun K hK => ?_) ?_
    · have ac : w4.cell? ⟨b, 4, none⟩ = some (.slice (some ⟨g2, 0, none⟩) T.marks.length c2) := HQ1.out.c4
      go_simp
      clear ac
      refine hK.out _ _ (hHeld) (fun hHeld' => ?_)
      clear hHeld
      have hHeld := hHeld'
      clear hHeld'
      clear hK K
      try simp only [Act.put, List.getElem_toArray, List.getElem_cons_succ, List.getElem_cons_zero, List.setIfInBounds_toArray, List.set_cons_zero, List.set_cons_succ]
      refine wpAnyH_take (i := 7) (v := ?v1518) rfl (by kernel_rfl) (by kernel_rfl) (by kernel_rfl) (fun _ _ _ h => h) (Or.inl ⟨by rfl, ?y1518⟩) (by assumption) ?r1518
      case y1518 => ((intro w hSw; (try dsimp only at hSw); go_simp); try with_reducible rfl)
      try simp only [Act.put, List.getElem_toArray, List.getElem_cons_succ, List.getElem_cons_zero, List.setIfInBounds_toArray, List.set_cons_zero, List.set_cons_succ]
      refine wpAnyH_take (i := 14) (v := ?v1519) rfl (by kernel_rfl) (by kernel_rfl) (by kernel_rfl) (fun _ _ _ h => h) (Or.inl ⟨by rfl, ?y1519⟩) (by assumption) ?r1519
      case y1519 => ((intro w hSw; (try dsimp only at hSw); go_simp); try with_reducible rfl)
      try simp only [Act.put, List.getElem_toArray, List.getElem_cons_succ, List.getElem_cons_zero, List.setIfInBounds_toArray, List.set_cons_zero, List.set_cons_succ]
      refine wpAnyH_take (i := 15) (v := ?v1520) rfl (by kernel_rfl) (by kernel_rfl) (by kernel_rfl) (fun _ _ _ h => h) (Or.inl ⟨by rfl, ?y1520⟩) (by assumption) ?r1520
      case y1520 => ((intro w hSw; (try dsimp only at hSw); go_simp); try with_reducible rfl)
      try simp only [Act.put, List.getElem_toArray, List.getElem_cons_succ, List.getElem_cons_zero, List.setIfInBounds_toArray, List.set_cons_zero, List.set_cons_succ]
      refine wpAnyH_ready (rs := [16]) (by kernel_rfl) (by simp) ?_
      refine AllReadyH.cons rfl (fun K hK => ?_) ?_
      · have e5 := HQ1.out.c4
        have e5f := HQ1.out.frozen 4
        go_simp
        clear e5 e5f
        have HH5 := Lib.hid (HQ1.out.set4 (.slice (some ⟨g2, 0, none⟩) i c2))
        refine hK.out _ _ (trivial) (fun hHeld' => ?_)
        clear hHeld
        have hHeld := hHeld'
        clear hHeld'
        generalize w4.setCell ⟨b, 4, none⟩ (.slice (some ⟨g2, 0, none⟩) i c2) = w5 at hHeld HH5 ⊢
        clear hK K
        try simp only [Act.put, List.getElem_toArray, List.getElem_cons_succ, List.getElem_cons_zero, List.setIfInBounds_toArray, List.set_cons_zero, List.set_cons_succ]
        refine wpAnyH_take (i := 17) (v := ?v1521) rfl (by kernel_rfl) (by kernel_rfl) (by kernel_rfl) (fun _ _ _ h => h) (Or.inl ⟨by rfl, ?y1521⟩) (by assumption) ?r1521
        case y1521 => ((intro w hSw; (try dsimp only at hSw); go_simp); try with_reducible rfl)
        try simp only [Act.put, List.getElem_toArray, List.getElem_cons_succ, List.getElem_cons_zero, List.setIfInBounds_toArray, List.set_cons_zero, List.set_cons_succ]
        refine wpAnyH_take (i := 18) (v := ?v1522) rfl (by kernel_rfl) (by kernel_rfl) (by kernel_rfl) (fun _ _ _ h => h) (Or.inl ⟨by rfl, ?y1522⟩) (by assumption) ?r1522
        case y1522 => ((intro w hSw; (try dsimp only at hSw); go_simp); try with_reducible rfl)
        try simp only [Act.put, List.getElem_toArray, List.getElem_cons_succ, List.getElem_cons_zero, List.setIfInBounds_toArray, List.set_cons_zero, List.set_cons_succ]
        refine wpAnyH_ready (rs := [19]) (by kernel_rfl) (by simp) ?_
        refine AllReadyH.cons rfl (fun K hK => ?_) ?_
        · have e5 := HH5.out.1.c5
          have e5f := HH5.out.1.frozen 5
          go_simp
          clear e5 e5f
          have HH6 := Lib.hid (HH5.out.1.set5 (.slice none 0 0))
          refine hK.out _ _ (trivial) (fun hHeld' => ?_)
          clear hHeld
          have hHeld := hHeld'
          clear hHeld'
          generalize w5.setCell ⟨b, 5, none⟩ (.slice none 0 0) = w6 at hHeld HH6 ⊢
          clear hK K
          try simp only [Act.put, List.getElem_toArray, List.getElem_cons_succ, List.getElem_cons_zero, List.setIfInBounds_toArray, List.set_cons_zero, List.set_cons_succ]
          refine wpAnyH_done (by kernel_rfl) ?_ _
          refine NoPanic.normal ?_
          clear hHeld
          have hP6 := (HCUT.out.keptB HQ1.out HH5.out.2).keptB HH5.out.1 HH6.out.2
          have HK6 : Hid (Kp P w w6) := Lib.hid ((HQ3.out.trans (Kp.one HH5.out.2 HCUT.out.pb)).trans (Kp.one HH6.out.2 HCUT.out.pb))
          have HT6 := Lib.hid (hP6.ta (T := ⟨T.size, T.fs, T.era, T.marks.take i, T.kept.take 0⟩) HH6.out.1)
          clear hP6 HH5 HH6 HQ1 HCUT HQ3
          go_wp2_with fail
          go_loopw [47] (fun i wr => i = .int .i64 0 ∧ Hid (wr = w6)) (fun _ _ => 0)
          case atStart => exact ⟨rfl, Lib.hid rfl⟩
          case round =>
            obtain ⟨rfl, HE⟩ := hrel
            go_wp2_with fail
            go_ret
            have he := HE.out
            subst he
            refine ⟨rfl, ?_, HK6.out⟩
            rw [HFG.out, HKE.out]
            have := HT6.out
            rw [HKE.out] at this
            exact this
        exact AllReadyH.nil
      exact AllReadyH.nil
    exact AllReadyH.nil
  exact AllReadyH.nil
end Go.Proofs.Ytafcecacldafgaa
