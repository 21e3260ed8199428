/- Right of a file of one function, whatever its numbers (no statement of its own). -/
import Derived.Test.YteocbgcgfllieaaGreatDoorGc

namespace Go.Proofs.YteocbgcgfllieaaGreatDoor
open Go.RowKit
set_option linter.unusedVariables false
theorem index_misyes (fb gf cf : Nat) (sv tv : Value) (w : World) (k0 : w.cell? ⟨gf, 0, none⟩ = some sv) (k1 : w.cell? ⟨gf, 1, none⟩ = some tv) (MC : Calls Tryz.prog 56 #[.pointer (some ⟨fb, 0, none⟩), .agg #[sv, tv]] w fun e w' => e = .returned (.bool true) ∧ Below w.heap.size w w') :
    Calls Tryz.prog 73 #[.slice (some ⟨gf, 0, none⟩) 1 cf, .func (.func 56) #[.pointer (some ⟨fb, 0, none⟩)] #[]] w fun e w' => e = .returned (.int .i64 0) ∧ Below w.heap.size w w' := by
  have HM := Lib.hid MC
  have K0 := Lib.hid k0
  have K1 := Lib.hid k1
  clear MC k0 k1
  go_enter Tryz.func73, Tryz.ntmps73
  go_wp2_with fail
  go_loopw [5, 8] (fun _ i wr => i = .int .i64 0 ∧ wr = w) (fun _ i _ => 0)
  case atStart => exact ⟨rfl, rfl⟩
  case round =>
    obtain ⟨rfl, hw⟩ := hrel
    rw [hw]
    clear hw
    have k0 : w.cell? ⟨gf, 0 * 2, none⟩ = some sv := K0.out
    have k1 : w.cell? ⟨gf, 0 * 2 + 1, none⟩ = some tv := K1.out
    have k2 : w.cell? ⟨gf, 0, none⟩ = some sv := K0.out
    have k3 : w.cell? ⟨gf, 1, none⟩ = some tv := K1.out
    go_wp2_with (first | (go_at_call 56; refine HM.out.mono ?_; rintro e w2 ⟨rfl, hb⟩; replace hb := Lib.hid hb) | fail)
    go_ret
    exact ⟨rfl, hb.out⟩
theorem index_misno (fb gf cf : Nat) (sv tv : Value) (w : World) (k0 : w.cell? ⟨gf, 0, none⟩ = some sv) (k1 : w.cell? ⟨gf, 1, none⟩ = some tv) (MC : Calls Tryz.prog 56 #[.pointer (some ⟨fb, 0, none⟩), .agg #[sv, tv]] w fun e w' => e = .returned (.bool false) ∧ Below w.heap.size w w') :
    Calls Tryz.prog 73 #[.slice (some ⟨gf, 0, none⟩) 1 cf, .func (.func 56) #[.pointer (some ⟨fb, 0, none⟩)] #[]] w fun e w' => e = .returned (.int .i64 (-1)) ∧ Below w.heap.size w w' := by
  have HM := Lib.hid MC
  have K0 := Lib.hid k0
  have K1 := Lib.hid k1
  clear MC k0 k1
  go_enter Tryz.func73, Tryz.ntmps73
  go_wp2_with fail
  go_loopw [5, 8] (fun _ i wr => (i = .int .i64 0 ∧ wr = w) ∨ (i = .int .i64 1 ∧ Below w.heap.size w wr)) (fun _ i _ => 1 - (intOf i).toNat)
  case atStart => exact .inl ⟨rfl, rfl⟩
  case round =>
    rcases hrel with ⟨rfl, hw⟩ | ⟨rfl, hB⟩
    · rw [hw]
      clear hw
      have k2 : w.cell? ⟨gf, 0, none⟩ = some sv := K0.out
      have k3 : w.cell? ⟨gf, 1, none⟩ = some tv := K1.out
      go_wp2_with (first | (go_at_call 56; refine HM.out.mono ?_; rintro e w2 ⟨rfl, hb⟩; replace hb := Lib.hid hb) | fail)
      go_roundw
      case rel => exact .inr ⟨rfl, hb.out⟩
      case measure => simp [intOf]
    · have HB := Lib.hid hB
      clear hB
      go_wp2_with fail
      go_ret
      exact ⟨rfl, HB.out⟩
theorem contains_mis (b : Bool) (fb gf cf : Nat) (sv tv : Value) (w : World) (k0 : w.cell? ⟨gf, 0, none⟩ = some sv) (k1 : w.cell? ⟨gf, 1, none⟩ = some tv) (MC : Calls Tryz.prog 56 #[.pointer (some ⟨fb, 0, none⟩), .agg #[sv, tv]] w fun e w' => e = .returned (.bool b) ∧ Below w.heap.size w w') :
    Calls Tryz.prog 55 #[.slice (some ⟨gf, 0, none⟩) 1 cf, .func (.func 56) #[.pointer (some ⟨fb, 0, none⟩)] #[]] w fun e w' => e = .returned (.bool b) ∧ Below w.heap.size w w' := by
  cases b
  · have HI := Lib.hid (index_misno fb gf cf sv tv w k0 k1 MC)
    clear k0 k1 MC
    go_enter Tryz.func55, Tryz.ntmps55
    go_wp2_with (first | (go_at_call 73; refine HI.out.mono ?_; rintro e w2 ⟨rfl, hb⟩; replace hb := Lib.hid hb) | fail)
    go_ret
    exact ⟨rfl, hb.out⟩
  · have HI := Lib.hid (index_misyes fb gf cf sv tv w k0 k1 MC)
    clear k0 k1 MC
    go_enter Tryz.func55, Tryz.ntmps55
    go_wp2_with (first | (go_at_call 73; refine HI.out.mono ?_; rintro e w2 ⟨rfl, hb⟩; replace hb := Lib.hid hb) | fail)
    go_ret
    exact ⟨rfl, hb.out⟩
theorem index_gryes (gf cf : Nat) (sv tv : Value) (w : World) (k0 : w.cell? ⟨gf, 0, none⟩ = some sv) (k1 : w.cell? ⟨gf, 1, none⟩ = some tv) (MC : Calls Tryz.prog 57 #[.agg #[sv, tv]] w fun e w' => e = .returned (.bool true) ∧ Below w.heap.size w w') :
    Calls Tryz.prog 73 #[.slice (some ⟨gf, 0, none⟩) 1 cf, .func (.func 57) #[] #[]] w fun e w' => e = .returned (.int .i64 0) ∧ Below w.heap.size w w' := by
  have HM := Lib.hid MC
  have K0 := Lib.hid k0
  have K1 := Lib.hid k1
  clear MC k0 k1
  go_enter Tryz.func73, Tryz.ntmps73
  go_wp2_with fail
  go_loopw [5, 8] (fun _ i wr => i = .int .i64 0 ∧ wr = w) (fun _ i _ => 0)
  case atStart => exact ⟨rfl, rfl⟩
  case round =>
    obtain ⟨rfl, hw⟩ := hrel
    rw [hw]
    clear hw
    have k2 : w.cell? ⟨gf, 0, none⟩ = some sv := K0.out
    have k3 : w.cell? ⟨gf, 1, none⟩ = some tv := K1.out
    go_wp2_with (first | (go_at_call 57; refine HM.out.mono ?_; rintro e w2 ⟨rfl, hb⟩; replace hb := Lib.hid hb) | fail)
    go_ret
    exact ⟨rfl, hb.out⟩
theorem contains_gryes (gf cf : Nat) (sv tv : Value) (w : World) (k0 : w.cell? ⟨gf, 0, none⟩ = some sv) (k1 : w.cell? ⟨gf, 1, none⟩ = some tv) (MC : Calls Tryz.prog 57 #[.agg #[sv, tv]] w fun e w' => e = .returned (.bool true) ∧ Below w.heap.size w w') :
    Calls Tryz.prog 55 #[.slice (some ⟨gf, 0, none⟩) 1 cf, .func (.func 57) #[] #[]] w fun e w' => e = .returned (.bool true) ∧ Below w.heap.size w w' := by
  have HI := Lib.hid (index_gryes gf cf sv tv w k0 k1 MC)
  clear k0 k1 MC
  go_enter Tryz.func55, Tryz.ntmps55
  go_wp2_with (first | (go_at_call 73; refine HI.out.mono ?_; rintro e w2 ⟨rfl, hb⟩; replace hb := Lib.hid hb) | fail)
  go_ret
  exact ⟨rfl, hb.out⟩
end Go.Proofs.YteocbgcgfllieaaGreatDoor
