/- The walk of ScriptReads (no statement of its own). -/
import Derived.Test.YtjflablcoljdeaaNd
namespace Go.Proofs.Ytjflablcoljdeaa
open Go.RowKit Go.Shelf
set_option linter.unusedVariables false
theorem cellsO_at {ps : List (List Nat)} {j : Nat} {p : List Nat} (h : ps[j]? = some p) (k : Nat) (hk : k < 5) : (cellsO ps)[j * 5 + k]? = (opC p)[k]? := by
  induction ps generalizing j with
  | nil => simp at h
  | cons y ps ih =>
    have e : cellsO (y :: ps) = (opC y).toList ++ cellsO ps := by simp [cellsO]
    rw [e]
    cases j with
    | zero =>
      simp at h
      subst h
      rw [Nat.zero_mul, Nat.zero_add, List.getElem?_append_left (by simpa using hk), Array.getElem?_toList]
    | succ j =>
      have := ih (j := j) (by simpa using h)
      rw [List.getElem?_append_right (by simp; omega)]
      rw [show (j + 1) * 5 + k - (opC y).toList.length = j * 5 + k by simp; omega]
      exact this
theorem ops_form {w : World} {base : Nat} {e : TypeId} {v : Value} {ps : List (List Nat)} (h : w.ownsRow base e 5 v ps.length (cellsO ps)) :
    ∃ A c, v = .slice A ps.length c ∧ ps.length ≤ c ∧ ∀ (j : Nat) p, ps[j]? = some p → ∃ g, A = some ⟨g, 0, none⟩ ∧ g < w.heap.size ∧ ∀ k, k < 5 → w.cell? ⟨g, j * 5 + k, none⟩ = (opC p)[k]? := by
  obtain ⟨h1, ⟨rfl, h0⟩ | ⟨g, cap, cur, rfl, hb, hh, hm, hx, hs, ht⟩⟩ := h
  · refine ⟨none, 0, by rw [h0], by omega, fun j x hx => ?_⟩
    rw [List.eq_nil_of_length_eq_zero h0] at hx
    simp at hx
  · refine ⟨_, cap, rfl, hm, fun j x hx => ⟨g, rfl, (Array.getElem?_eq_some_iff.1 hh).1, fun k hk => ?_⟩⟩
    have hj := (List.getElem?_eq_some_iff.1 hx).1
    rw [cell_of_row w g _ cur _ (0, 0) hh, ← cellsO_at hx k hk, ← ht, List.getElem?_take_of_lt (by omega), Array.getElem?_toList]
set_option maxRecDepth 100000 in
theorem awake24_any (w : World) : Calls Try.prog 4 #[] w fun e w' => e = .returned (.bool true) ∧ Below w.heap.size w w' := by
  have n1 := new_val w (.cells #[.int .u8 6, .int .u8 4] 5)
  have hb : By (w.alloc (.cells #[.int .u8 6, .int .u8 4] 5)) (some ⟨w.heap.size, 0, none⟩) [6, 4] := by
    refine .inr ⟨_, _, rfl, by simp, fun i hi => ?_⟩
    rw [cell_of_row _ _ _ _ _ _ (heap_alloc_new w _)]
    rcases i with _ | _ | i
    · rfl
    · rfl
    · exact absurd (show i + 1 + 1 < 2 from hi) (by omega)
  have HR := Lib.hid (readS_any (some ⟨w.heap.size, 0, none⟩) 2 2 [6, 4] (w.alloc (.cells #[.int .u8 6, .int .u8 4] 5)) rfl (by omega) (Nat.le_refl _) hb (by simp))
  have N1 := Lib.hid n1
  clear hb n1
  go_enter Try.func4, Try.ntmps4
  go_wp2_with (first | (go_at_call 6; refine HR.out.mono ?_; rintro e w1 ⟨v, rfl, hO, hb⟩; obtain ⟨A1, c1, rfl, hc1, hcell⟩ := ops_form hO; obtain ⟨g, rfl, hg, hk⟩ := hcell 0 [6, 4] rfl; have k0 : w1.cell? ⟨g, 0, none⟩ = some (.int .i64 6) := hk 0 (by omega); have k1 : w1.cell? ⟨g, 1, none⟩ = some (.int .i64 4) := hk 1 (by omega); have e1 : (piecesL [6, 4]).length = 1 := rfl; rw [e1]; rw [e1] at hc1; have B1 := Lib.hid (N1.out.trans (hb.mono N1.out.size)); clear hO hb hcell hk e1) | fail)
  go_ret
  exact ⟨rfl, B1.out⟩
set_option maxRecDepth 100000 in
set_option maxHeartbeats 4000000 in
theorem reads_walk (A : Option Addr) (n c : Nat) (L : List Nat) (w : World) (hnc : n ≤ c) (hA0 : A = none → n = 0 ∧ c = 0) (hn : (n : Int) ≤ 9223372036854775807) (hc : (c : Int) ≤ 9223372036854775807) (hL : L.length = min n 200) (hA : ByA w A L) (h8 : ∀ b ∈ L, b < 256) :
    Calls Try.prog 3 #[.slice A n c] w fun e w' => e = .returned (.bool true) ∧ Below w.heap.size w w' := by
  obtain ⟨m, hm⟩ : ∃ m, min n 200 = m := ⟨_, rfl⟩
  rw [hm] at hL
  have hmn : m ≤ n := by omega
  have hm2 : m ≤ 200 := by omega
  have hmi : min (n : Int) 200 = (m : Int) := by omega
  have hmj : (if (n : Int) ≤ 200 then (n : Int) else 200) = (m : Int) := by split <;> omega
  have hmk : (if (200 : Int) < (n : Int) then 200 else (n : Int)) = (m : Int) := by split <;> omega
  have hml : (if (n : Int) < 200 then (n : Int) else 200) = (m : Int) := by split <;> omega
  have HA := Lib.hid hA
  have H8 := Lib.hid h8
  have HL := Lib.hid hL
  have HA0 := Lib.hid hA0
  clear hA h8 hL hA0 hm
  go_enter Try.func3, Try.ntmps3
  go_upto_region 6 with (first
    | (go_at_call 4; refine (awake24_any _).mono ?_; rintro e w1 ⟨rfl, hb⟩; have B1 := Lib.hid hb; clear hb)
    | (go_at_call 5; with_reducible refine (cloneBy A m c L _ HL.out (by omega) (fun e => by have := HA0.out e; omega) (HA.out.below B1.out)).mono ?_; rintro e w2 ⟨⟨v, rfl, hO⟩, hb⟩; obtain ⟨A1, c1, rfl, hY1, hc1, hA1, -⟩ := hO.form; rw [HL.out] at hc1 hA1 ⊢; have Y1 := Lib.hid hY1; have B2 := Lib.hid (B1.out.trans (hb.mono B1.out.size)); have A10 := Lib.hid hA1; clear hO hb hY1 hA1)
    | (go_at_call 5; with_reducible refine (cloneBy A1 m c1 L _ HL.out (by omega) (fun e => (A10.out e).1) Y1.out.any).mono ?_; rintro e w3 ⟨⟨v, rfl, hO⟩, hb⟩; obtain ⟨A2, c2, rfl, hY2, hc2, hA2, -⟩ := hO.form; rw [HL.out] at hc2 hA2 ⊢; have Y1 := Lib.hid (Y1.out.below hb (Nat.le_refl _)); have Y2 := Lib.hid hY2; have B3 := Lib.hid (B2.out.trans (hb.mono B2.out.size)); clear hO hb hY2 hA2)
    | (go_at_call 6; refine (readS_any A2 m c2 L _ HL.out (by omega) hc2 Y2.out H8.out).mono ?_; rintro e w4 ⟨v, rfl, hO, hb⟩; have Y1 := Lib.hid (Y1.out.below hb (Nat.le_refl _)); have Y2 := Lib.hid (Y2.out.below hb (Nat.le_refl _)); have B4 := Lib.hid (B3.out.trans (hb.mono B3.out.size)); have O4 := Lib.hid hO; clear hO hb)
    | (go_at_call 7; refine (rread24_any A1 m c1 L _ HL.out (by omega) A10.out Y1.out H8.out).mono ?_; rintro e w5 ⟨u, rfl, hO, hb⟩; have Y1 := Lib.hid (Y1.out.below hb (Nat.le_refl _)); have Y2 := Lib.hid (Y2.out.below hb (Nat.le_refl _)); have B5 := Lib.hid (B4.out.trans (hb.mono B4.out.size)); have O4 := Lib.hid (row_below O4.out hb); have O5 := Lib.hid hO; clear hO hb)
    | fail)
  obtain ⟨A4, c4, rfl, hc4, hf4⟩ := ops_form O4.out
  obtain ⟨A5, c5, rfl, hc5, hf5⟩ := ops_form O5.out
  have F4 : Hid (∀ (j : Nat) p, (piecesL L)[j]? = some p → ∃ g, A4 = some ⟨g, 0, none⟩ ∧ g < w5.heap.size ∧ ∀ k, k < 5 → w5.cell? ⟨g, j * 5 + k, none⟩ = (opC p)[k]?) := Lib.hid hf4
  have F5 := Lib.hid hf5
  obtain ⟨q, hq⟩ : ∃ q, (piecesL L).length = q := ⟨_, rfl⟩
  have HQ := Lib.hid hq
  have hq2 : q ≤ 200 := by rw [← hq, piecesL, List.length_map, firstL_len, HL.out]; omega
  rw [hq] at hc4 hc5 ⊢
  clear hf4 hf5 hq
  go_wp2_with (first
    | (go_at_call 8; refine (equalBy A2 A1 m c2 c1 L _ HL.out (by omega) Y2.out Y1.out).mono ?_; rintro e w6 ⟨rfl, hb⟩; have B6 := Lib.hid (B5.out.trans (hb.mono B5.out.size)); have K6 := Lib.hid hb; clear hb)
    | fail)
  have z6 := K6.out.size
  go_loopw [6, 34] (fun _ i wr => ∃ j : Nat, j ≤ q ∧ i = .int .i64 (j : Int) ∧ Below w6.heap.size w6 wr) (fun _ i _ => q - (intOf i).toNat)
  case atStart => exact ⟨0, Nat.zero_le _, rfl, Below.refl _ _⟩
  case round =>
    obtain ⟨j, hj, rfl, hb⟩ := hrel
    have HB := Lib.hid hb
    clear hb
    by_cases hlt : j < q
    · have hjp : (piecesL L)[j]? = some ((piecesL L)[j]'(by have := HQ.out; omega)) := List.getElem?_eq_getElem _
      obtain ⟨g4, rfl, hg4, k4⟩ := F4.out j _ hjp
      obtain ⟨g5, rfl, hg5, k5⟩ := F5.out j _ hjp
      generalize (piecesL L)[j]'(by have := HQ.out; omega) = P at k4 k5
      have T4 : ∀ k u, k < 5 → (opC P)[k]? = some u → wr.cell? ⟨g4, j * 5 + k, none⟩ = some u := fun k u hk hu =>
        (HB.out.cell (p := ⟨g4, j * 5 + k, none⟩) (by show g4 < _; omega)).trans ((K6.out.cell (p := ⟨g4, j * 5 + k, none⟩) hg4).trans ((k4 k hk).trans hu))
      have T5 : ∀ k u, k < 5 → (opC P)[k]? = some u → wr.cell? ⟨g5, j * 5 + k, none⟩ = some u := fun k u hk hu =>
        (HB.out.cell (p := ⟨g5, j * 5 + k, none⟩) (by show g5 < _; omega)).trans ((K6.out.cell (p := ⟨g5, j * 5 + k, none⟩) hg5).trans ((k5 k hk).trans hu))
      obtain ⟨a0, a1, a2, a3, a4, eo⟩ : ∃ a0 a1 a2 a3 a4 : Int, opC P = #[.int .i64 a0, .int .i64 a1, .int .i64 a2, .int .i64 a3, .int .i64 a4] := ⟨_, _, _, _, _, rfl⟩
      rw [eo] at T4 T5
      have x0 : wr.cell? ⟨g4, j * 5, none⟩ = some (.int .i64 a0) := T4 0 _ (by omega) rfl
      have x1 : wr.cell? ⟨g4, j * 5 + 1, none⟩ = some (.int .i64 a1) := T4 1 _ (by omega) rfl
      have x2 : wr.cell? ⟨g4, j * 5 + 2, none⟩ = some (.int .i64 a2) := T4 2 _ (by omega) rfl
      have x3 : wr.cell? ⟨g4, j * 5 + 3, none⟩ = some (.int .i64 a3) := T4 3 _ (by omega) rfl
      have x4 : wr.cell? ⟨g4, j * 5 + 4, none⟩ = some (.int .i64 a4) := T4 4 _ (by omega) rfl
      have y0 : wr.cell? ⟨g5, j * 5, none⟩ = some (.int .i64 a0) := T5 0 _ (by omega) rfl
      have y1 : wr.cell? ⟨g5, j * 5 + 1, none⟩ = some (.int .i64 a1) := T5 1 _ (by omega) rfl
      have y2 : wr.cell? ⟨g5, j * 5 + 2, none⟩ = some (.int .i64 a2) := T5 2 _ (by omega) rfl
      have y3 : wr.cell? ⟨g5, j * 5 + 3, none⟩ = some (.int .i64 a3) := T5 3 _ (by omega) rfl
      have y4 : wr.cell? ⟨g5, j * 5 + 4, none⟩ = some (.int .i64 a4) := T5 4 _ (by omega) rfl
      have i1 : (j : Int) < (q : Int) := by omega
      have i2 : (0 : Int) ≤ (j : Int) := by omega
      clear T4 T5 eo k4 k5 hjp hg4 hg5
      go_wp2_with fail
      go_quiet (fail)
      go_wp2_with fail
      exact ⟨⟨j + 1, by omega, by go_num, next_drewN HB.out _⟩, by simp [intOf]; omega⟩
    · go_wp2
      go_ret
      exact ⟨rfl, B6.out.trans (HB.out.mono B6.out.size)⟩
theorem wf_u8 {a : Int} (h : (Lit.int .u8 a).wf = true) : 0 ≤ a ∧ a ≤ 255 := by
  have h1 : (decide (IntKind.u8.min ≤ a) && decide (a ≤ IntKind.u8.max)) = true := h
  have e1 : IntKind.u8.min = 0 := by decide
  have e2 : IntKind.u8.max = 255 := by decide
  rw [e1, e2] at h1
  simpa using h1
/-- Bytes that came in, the first m of them. -/
theorem byA_came {w : World} {a : Option Addr} {len cap : Nat} {zs : List Int}
    (h : (a = none ∧ len = 0 ∧ cap = 0 ∧ zs = []) ∨ ∃ x, a = some x ∧ len ≤ cap ∧ cap ≤ maxLen ∧ zs.length = cap ∧ (∀ i, i < zs.length → w.cell? (x.add i) = some (.int .u8 (zs.getD i 0))) ∧ ∀ n ∈ zs, (Lit.int .u8 n).wf = true) (m : Nat) (hm : m ≤ len) :
    ∃ L : List Nat, L.length = m ∧ ByA w a L ∧ (∀ b ∈ L, b < 256) ∧ len ≤ cap ∧ (a = none → len = 0 ∧ cap = 0) ∧ (len : Int) ≤ 9223372036854775807 ∧ (cap : Int) ≤ 9223372036854775807 := by
  rcases h with ⟨rfl, rfl, rfl, rfl⟩ | ⟨x, rfl, h1, h2, h3, h4, h5⟩
  · obtain rfl : m = 0 := by omega
    exact ⟨[], rfl, fun p e => (by cases e), by simp, Nat.le_refl _, fun _ => ⟨rfl, rfl⟩, by omega, by omega⟩
  · refine ⟨(zs.take m).map Int.toNat, by simp; omega, fun p e j u hu => ?_, fun b hb => ?_, h1, fun e => (by cases e), by unfold maxLen at h2; omega, by unfold maxLen at h2; omega⟩
    · injection e with e
      subst e
      have hj : j < m ∧ j < zs.length := by
        have := (List.getElem?_eq_some_iff.1 hu).1
        simp [byL] at this
        omega
      rw [h4 j hj.2, ← hu]
      have hz := wf_u8 (h5 (zs.getD j 0) (by rw [List.getD_eq_getElem?_getD, List.getElem?_eq_getElem hj.2]; exact List.getElem_mem hj.2))
      have e : (zs.getD j 0) = zs[j]'hj.2 := by rw [List.getD_eq_getElem?_getD, List.getElem?_eq_getElem hj.2]; rfl
      rw [e] at hz ⊢
      simp [byL, hj.1, List.getElem?_eq_getElem hj.2]
      omega
    · simp only [List.mem_map] at hb
      obtain ⟨z, hz, rfl⟩ := hb
      have := wf_u8 (h5 z (List.mem_of_mem_take hz))
      omega
theorem came_walk {w : World} {a : Option Addr} {len cap : Nat} {zs : List Int}
    (h : (a = none ∧ len = 0 ∧ cap = 0 ∧ zs = []) ∨ ∃ x, a = some x ∧ len ≤ cap ∧ cap ≤ maxLen ∧ zs.length = cap ∧ (∀ i, i < zs.length → w.cell? (x.add i) = some (.int .u8 (zs.getD i 0))) ∧ ∀ n ∈ zs, (Lit.int .u8 n).wf = true) :
    Calls Try.prog 3 #[.slice a len cap] w fun e w' => e = .returned (.bool true) ∧ Below w.heap.size w w' := by
  obtain ⟨L, h1, h2, h3, h4, h5, h6, h7⟩ := byA_came h (min len 200) (Nat.min_le_left _ _)
  exact reads_walk a len cap L w h4 h5 h6 h7 h1 h2 h3
end Go.Proofs.Ytjflablcoljdeaa
