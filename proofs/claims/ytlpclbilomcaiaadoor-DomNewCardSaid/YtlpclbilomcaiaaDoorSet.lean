/- Contracts of package dom's functions that read no table: what each returns, as numbers (no statement of its own). Conditions: at most 32 values, the bits below. -/
import Derived.Test.YtlpclbilomcaiaaDoorRows
import Derived.Test.YtlpclbilomcaiaaDoorNum
import Derived.WalkKit
import Derived.WalkLawsBesides
import Derived.Lib.Hide
import Derived.Handy
import Derived.IntWalk
import Derived.BigQuiet
import Derived.Deep.QuietTactic
import Derived.Deep.RegionWith
namespace Go.Proofs.YtlpclbilomcaiaaDoor
open Go.RowKit
set_option linter.unusedVariables false
theorem ret_bool {a b : Bool} (h : a = b) : Ending.returned (.bool a) = .returned (.bool b) := by rw [h]
theorem ret_int {t : IntKind} {a b : Int} (h : a = b) : Ending.returned (.int t a) = .returned (.int t b) := by rw [h]
/-- A set of k values with the bits B; where it lies in memory. -/
abbrev setV (k B : Nat) : Value := .agg #[.int .i64 (k : Int), .int .u32 (B : Int)]
abbrev setO (k B : Nat) : Obj := .cells #[.int .i64 (k : Int), .int .u32 (B : Int)] 26
theorem fits_yes (k B v : Nat) (w : World) (h : v < k) :
    Calls Tryd.prog 29 #[setV k B, .int .i64 (v : Int)] w fun e w' => e = .returned (.bool true) ∧ w' = w.alloc (setO k B) := by
  go_enter Tryd.func29, Tryd.ntmps29
  go_wp2
  go_ret
  exact ⟨ret_bool (by simp <;> omega), rfl⟩
theorem fits_no (k B : Nat) (v : Int) (w : World) (h : v < 0 ∨ (k : Int) ≤ v) :
    Calls Tryd.prog 29 #[setV k B, .int .i64 v] w fun e w' => e = .returned (.bool false) ∧ w' = w.alloc (setO k B) := by
  rcases h with h | h
  · go_enter Tryd.func29, Tryd.ntmps29
    go_wp2
    go_ret
    exact ⟨rfl, rfl⟩
  · have h1 : 0 ≤ v := by omega
    go_enter Tryd.func29, Tryd.ntmps29
    go_wp2
    go_ret
    exact ⟨ret_bool (by simp <;> omega), rfl⟩
theorem bit_any (v : Nat) (w : World) (h : v < 32) :
    Calls Tryd.prog 30 #[.int .i64 (v : Int)] w fun e w' => e = .returned (.int .u32 ((2 ^ v : Nat) : Int)) ∧ w = w' := by
  go_enter Tryd.func30, Tryd.ntmps30
  go_wp2
  go_ret
  have := pow_lt v h
  refine ⟨?_, rfl⟩
  show Ending.returned (.int .u32 ((2 : Int) ^ v % 4294967296)) = _
  refine ret_int ?_
  rw [show ((2 : Int) ^ v) = ((2 ^ v : Nat) : Int) by simp]
  exact Int.emod_eq_of_lt (Int.natCast_nonneg _) (Int.ofNat_lt.2 this)
theorem below_any (n : Nat) (w : World) (h : n ≤ 32) :
    Calls Tryd.prog 32 #[.int .i64 (n : Int)] w fun e w' => e = .returned (.int .u32 ((2 ^ n - 1 : Nat) : Int)) ∧ w = w' := by
  by_cases hn : n < 32
  · obtain ⟨p, hp⟩ : ∃ p, 2 ^ n = p := ⟨_, rfl⟩
    have h1 := pow_lt n hn
    have h2 := Nat.two_pow_pos n
    have C := Lib.hid (bit_any n w hn)
    rw [hp] at C h1 h2 ⊢
    clear hp
    go_enter Tryd.func32, Tryd.ntmps32
    go_wp2_with (go_at_call 30; refine C.out.mono ?_; rintro e w' ⟨rfl, rfl⟩)
    go_ret
    refine ⟨ret_int ?_, rfl⟩
    omega
  · obtain rfl : n = 32 := by omega
    go_enter Tryd.func32, Tryd.ntmps32
    go_wp2
    go_ret
    exact ⟨rfl, rfl⟩
theorem size_any (k B : Nat) (w : World) :
    Calls Tryd.prog 25 #[setV k B] w fun e w' => e = .returned (.int .i64 (k : Int)) ∧ Below w.heap.size w w' := by
  go_enter Tryd.func25, Tryd.ntmps25
  go_wp2
  go_ret
  exact ⟨rfl, by go_grown⟩
end Go.Proofs.YtlpclbilomcaiaaDoor
