/- Contracts of Out of a place that there isn't, or of a set of another size (no statement of its own). No condition. -/
import Derived.Test.YtamodeglpkgiaaaDoorTbT
namespace Go.Proofs.YtamodeglpkgiaaaDoor
open Go.RowKit Go.Shelf
set_option linter.unusedVariables false
attribute [local go_sem] Oper.semAt_some
open Dm (Mem mem setV setO Tab)
/-- What Out's first look holds. -/
abbrev HoldE (wb : World) (N g kk B : Nat) (pos : Int) (l : List Nat) (W : World) : Prop :=
  W.cell? ⟨N, 0, none⟩ = some (.pointer (some ⟨g, 0, none⟩)) ∧ W.cell? ⟨N + 1, 0, none⟩ = some (.int .i64 pos) ∧ W.cell? ⟨N + 1 + 1, 0, none⟩ = some (.int .i64 (kk : Int)) ∧ W.cell? ⟨N + 1 + 1, 1, none⟩ = some (.int .u32 (B : Int)) ∧
  W.cell? ⟨g, 0, none⟩ = some (.int .i64 (l.length : Int)) ∧ W.cell? ⟨g, 1, none⟩ = some (szV l 0) ∧ W.cell? ⟨g, 2, none⟩ = some (szV l 1) ∧ W.cell? ⟨g, 3, none⟩ = some (szV l 2) ∧
  W.cell? ⟨g, 4, none⟩ = some (szV l 3) ∧ W.cell? ⟨g, 5, none⟩ = some (szV l 4) ∧ W.cell? ⟨g, 6, none⟩ = some (szV l 5) ∧ Below wb.heap.size wb W
theorem holdE {wb W W' : World} {N g kk B : Nat} {pos : Int} {l : List Nat} (h : HoldE wb N g kk B pos l W) (hb : Below W.heap.size W W') : HoldE wb N g kk B pos l W' := by
  obtain ⟨a0, a1, a2, a3, c0, c1, c2, c3, c4, c5, c6, h8⟩ := h
  have K : ∀ b i v, W.cell? ⟨b, i, none⟩ = some v → W'.cell? ⟨b, i, none⟩ = some v := fun b i v h => (hb.cell (p := ⟨b, i, none⟩) (World.block_lt_of_cell? W _ h)).trans h
  exact ⟨K _ _ _ a0, K _ _ _ a1, K _ _ _ a2, K _ _ _ a3, K _ _ _ c0, K _ _ _ c1, K _ _ _ c2, K _ _ _ c3, K _ _ _ c4, K _ _ _ c5, K _ _ _ c6, h8.trans (hb.mono h8.size)⟩
theorem HoldE.below {wb W : World} {N g kk B : Nat} {pos : Int} {l : List Nat} (h : HoldE wb N g kk B pos l W) : Below wb.heap.size wb W := h.2.2.2.2.2.2.2.2.2.2.2
theorem HoldE.of {wb : World} {N g h kk B : Nat} {pos : Int} {l : List Nat} {k : Int} {z : Nat → Int} (T : TabAt wb g h l k z) (b0 : wb.heap[N]? = some (.cells #[.pointer (some ⟨g, 0, none⟩)] 27))
    (b1 : wb.heap[N + 1]? = some (.cells #[.int .i64 pos] 3)) (b2 : wb.heap[N + 1 + 1]? = some (setO kk B)) : HoldE wb N g kk B pos l wb := by
  obtain ⟨c0, c1, c2, c3, c4, c5, c6, c7, c8⟩ := T.cells
  exact ⟨by rw [cell_of_row _ _ _ _ _ _ b0]; rfl, by rw [cell_of_row _ _ _ _ _ _ b1]; rfl, by rw [cell_of_row _ _ _ _ _ _ b2]; rfl, by rw [cell_of_row _ _ _ _ _ _ b2]; rfl, c0, c1, c2, c3, c4, c5, c6, Below.refl _ _⟩
set_option maxRecDepth 100000 in
set_option maxHeartbeats 8000000 in
theorem out_err (g h kk B : Nat) (l : List Nat) (k pos : Int) (z : Nat → Int) (s : Nat) (w : World) (H : TabAt w g h l k z) (hs : ∀ W, Calls Tryd.prog 52 #[shV l, .int .i64 pos] W fun e w' => e = .returned (.int .i64 (s : Int)) ∧ Below W.heap.size W w') (hne : s = 0 ∨ s ≠ kk) :
    Calls Tryd.prog 25 #[.pointer (some ⟨g, 0, none⟩), .int .i64 pos, setV kk B] w fun e w' => e = .returned (.tuple #[.pointer none, .slice none 0 0, .int .i64 1]) ∧ Below w.heap.size w w' := by
  have HT := Lib.hid H
  have HS := Lib.hid hs
  have HNE := Lib.hid hne
  clear H hs hne
  refine (callsIn_wide (n := 3)).1 (callsIn_of_wp_marks Tryd.func25 rfl trivial ?_ rfl)
  simp only [Tryd.ntmps25, List.size_toArray, List.length_cons, List.length_nil, Nat.reduceAdd, Nat.reduceSub, Array.replicate_succ, Array.replicate_zero, List.push_toArray, List.append_toArray, List.nil_append, List.cons_append]
  refine wpIn_wide.2 ?_
  go_upto_region 1 with fail
  obtain ⟨k0, k1, k2, bel3, hz3⟩ := boxes3 w (.cells #[.pointer (some ⟨g, 0, none⟩)] 27) (.cells #[.int .i64 pos] 3) (setO kk B)
  have T3 := Lib.hid (HT.out.below bel3)
  have HO := Lib.hid (HoldE.of T3.out k0 k1 k2)
  have B3 := Lib.hid bel3
  clear k0 k1 k2 bel3
  generalize ((w.alloc (.cells #[.pointer (some ⟨g, 0, none⟩)] 27)).alloc (.cells #[.int .i64 pos] 3)).alloc (setO kk B) = w3 at HO T3 B3 hz3 ⊢
  have b0 := HO.out.1
  go_upto_region 3 with fail
  clear b0
  go_region_held3 (fun W => HoldE w3 w.heap.size g kk B pos l W) (first | exact holdE HO.out ((Below.refl _ _).drew) | exact holdE (by assumption) (by assumption))
    ((first | (go_at_call 52; refine (HS.out _).mono ?_; rintro e w4 ⟨rfl, hb⟩) | fail))
  have HV : Hid (HoldE w3 w.heap.size g kk B pos l w4) := Lib.hid (by assumption)
  obtain ⟨-, -, s0, s1, -⟩ := HV.out
  rcases HNE.out with h0 | h1
  · subst h0
    go_wp2_with fail
    refine ⟨_, results_tmp3 rfl _ _ _, ?_⟩
    exact ⟨rfl, B3.out.trans (HV.out.below.mono (by omega))⟩
  · by_cases h0 : s = 0
    · subst h0
      go_wp2_with fail
      refine ⟨_, results_tmp3 rfl _ _ _, ?_⟩
      exact ⟨rfl, B3.out.trans (HV.out.below.mono (by omega))⟩
    · have d1 : ((s : Int) == 0) = false := by rw [beq_eq_false_iff_ne]; omega
      have d2 : ((s : Int) != (kk : Int)) = true := by rw [bne_iff_ne]; omega
      go_wp2_with (go_at_call 23; refine (Dm.size_any kk B _).mono ?_; rintro e w5 ⟨rfl, hb5⟩; have H5 := Lib.hid (holdE HV.out hb5); clear hb5)
      refine ⟨_, results_tmp3 rfl _ _ _, ?_⟩
      exact ⟨rfl, B3.out.trans (H5.out.below.mono (by omega))⟩
end Go.Proofs.YtamodeglpkgiaaaDoor
