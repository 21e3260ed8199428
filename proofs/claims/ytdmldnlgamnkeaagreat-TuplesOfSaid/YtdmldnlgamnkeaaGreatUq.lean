/- The document's example (no statement of its own). No condition. -/
import Derived.Test.YtdmldnlgamnkeaaGreatUD
namespace Go.Proofs.YtdmldnlgamnkeaaGreat
open Go.RowKit Go.Maps
set_option linter.unusedVariables false
theorem lines_awake : linesT [2, 2] 0 (updF (fun _ => 0) [0, 1] 5) = [[0, 1]] := by decide
theorem ints_two (w : World) (a b : Nat) : Ints (w.alloc (.cells #[.int .i64 (a : Int), .int .i64 (b : Int)] 3)) (some ⟨w.heap.size, 0, none⟩) [a, b] :=
  .inr ⟨w.heap.size, 0, rfl, by simp, fun i hi => by
    have h := heap_alloc_new w (.cells #[.int .i64 (a : Int), .int .i64 (b : Int)] 3)
    rw [cell_of_row _ _ _ _ _ _ h]
    simp at hi
    rcases (by omega : i = 0 ∨ i = 1) with rfl | rfl <;> rfl⟩
set_option maxRecDepth 100000 in
set_option maxHeartbeats 1000000 in
theorem awake5_ok (w : World) : Calls Tryz.prog 4 #[] w fun e w' => e = .returned (.bool true) ∧ Below w.heap.size w w' := by
  have n1 := new_val w (.cells #[.int .i64 (2 : Int), .int .i64 (2 : Int)] 3)
  have NEW := Lib.hid (tpnew_ok (some ⟨w.heap.size, 0, none⟩) 2 2 [2, 2] 9 0 _ rfl (by simp) (ints_two w 2 2) (by simp) ⟨by omega, by omega, by omega, by omega⟩)
  have B1 := Lib.hid n1
  clear n1
  go_enter Tryz.func4, Tryz.ntmps4
  go_upto_region 2 with (go_at_call 15; refine NEW.out.mono ?_; rintro e w1 ⟨⟨g, b, A', c', rfl, hT, hg, hb⟩, b1⟩)
  have T1 := Lib.hid hT
  have B2 := Lib.hid (then_ B1.out b1)
  have PUT := Lib.hid (tpput_ok g b 0 c' 2 2 A' (some ⟨w1.heap.size, 0, none⟩) [2, 2] [0, 1] 9 0 5 (fun _ => 0) _ (T1.out.below (new_val w1 (.cells #[.int .i64 (0 : Int), .int .i64 (1 : Int)] 3))) rfl (by simp) (by simp) (ints_two w1 0 1) (by simp [InL]) ⟨by omega, by omega, by omega, by omega⟩ (by omega))
  have B3 := Lib.hid (then_ B2.out (new_val w1 (.cells #[.int .i64 (0 : Int), .int .i64 (1 : Int)] 3)))
  have hb' : w.heap.size ≤ b := by simp at hb; omega
  clear hT hg hb b1
  go_upto_region 4 with (go_at_call 16; refine PUT.out.mono ?_; rintro e w2 ⟨rfl, hT, hg⟩; have T2 := Lib.hid hT; have B4 := Lib.hid (B3.out.grown hg B3.out.size (fun k hk => by injection hk; omega)); clear hT hg)
  have LIN := Lib.hid (tplines_any g b 1 c' A' [2, 2] 9 0 _ w2 T2.out (by simp) (by simp) (by omega))
  clear PUT NEW B1 B2 B3
  go_upto_region 5 with (go_at_call 17; refine LIN.out.mono ?_; rintro e w3 ⟨⟨v, rfl, hL⟩, b3⟩; have B5 := Lib.hid (then_ B4.out b3); have L3 := Lib.hid hL; rw [lines_awake] at hL; obtain ⟨AL, cL, rfl, hl0⟩ := hL.form; clear hL b3)
  obtain ⟨gL, x, rfl, hgL, cx, cy, hO⟩ := hl0 0 (by simp)
  obtain ⟨Ax, cx', rfl, hI⟩ := hO.form
  have EQ := Lib.hid (equal_yes Ax (some ⟨w3.heap.size, 0, none⟩) 2 cx' 2 [0, 1] _ rfl (by omega) (hI.below (new_val w3 (.cells #[.int .i64 (0 : Int), .int .i64 (1 : Int)] 3)) (Nat.le_refl _)) (ints_two w3 0 1))
  have hy : updF (fun _ => 0) [0, 1] 5 (nthT [[0, 1]] 0) = 5 := rfl
  rw [hy] at cy
  have cx2 : w3.cell? ⟨gL, 0, none⟩ = some (.slice Ax 2 cx') := cx
  have cy2 : w3.cell? ⟨gL, 1, none⟩ = some (.int .i64 5) := cy
  have B6 := Lib.hid (then_ B5.out (new_val w3 (.cells #[.int .i64 (0 : Int), .int .i64 (1 : Int)] 3)))
  have cz : ∀ o, ((w3.alloc (.cells #[.int .i64 (0 : Int), .int .i64 (1 : Int)] 3)).cell? ⟨gL, o, none⟩ = w3.cell? ⟨gL, o, none⟩) := fun o => (new_val w3 _).cell (p := ⟨gL, o, none⟩) hgL
  clear hO hI cx cy hy hl0 LIN
  have hgs : gL < w3.heap.size + 1 := by omega
  go_wp2_with (go_at_call 18; refine EQ.out.mono ?_; rintro e w4 ⟨rfl, b4⟩; have B7 := Lib.hid (then_ B6.out b4); have cy4 : w4.cell? ⟨gL, 1, none⟩ = some (.int .i64 5) := ((b4.cell (p := ⟨gL, 1, none⟩) (by simp; omega)).trans (cz 1)).trans cy2; clear b4)
  go_ret
  exact ⟨rfl, B7.out⟩
end Go.Proofs.YtdmldnlgamnkeaaGreat
