/- The contracts of what reads a float's bits (no statement of its own). -/
import Derived.Test.YtfheamemoinfeaaFa
import Derived.Laws.BitsAllLaws
namespace Go.Proofs.Ytfheamemoinfeaa
open Go.RowKit
open RtA
set_option linter.unusedVariables false
theorem bits_call (x : Nat) (w : World) : (callFunc 31 #[.float .f64 x]).run Try.prog w = .ok (.value (.int .u64 (x : Int))) w := by
  rw [run_callFunc_extern Try.func31 (by kernel_rfl) (by kernel_rfl) (by kernel_rfl) (e := Extern.MathFloatBits.float64bits) (by kernel_rfl)]
  rfl
theorem from_call (x : Int) (w : World) : (callFunc 36 #[.int .u64 x]).run Try.prog w = .ok (.value (.float .f64 x.toNat)) w := by
  rw [run_callFunc_extern Try.func36 (by kernel_rfl) (by kernel_rfl) (by kernel_rfl) (e := Extern.MathFloatBits.float64frombits) (by kernel_rfl)]
  rfl
theorem mnan_any (w : World) : Calls Try.prog 26 #[] w fun e w' => e = .returned (.float .f64 9221120237041090561) ∧ w = w' := by
  have h2 := from_call
  go_enter Try.func26, Try.ntmps26
  go_wp2
  all_goals (go_ret; exact ⟨rfl, rfl⟩)
def sgn (x : Nat) : Bool := decide (9223372036854775808 ≤ x)
/-- Without its sign. -/
def absF (x : Nat) : Nat := x % 9223372036854775808
theorem andNot_sign (x : Nat) (h : x < 18446744073709551616) : bits .andNot .u64 (x : Int) 9223372036854775808 = ((absF x : Nat) : Int) := by
  have e := u64_andNot_nat x 9223372036854775808 h (by omega)
  have e2 : x &&& (18446744073709551615 - 9223372036854775808) = x % 2 ^ 63 := Nat.and_two_pow_sub_one_eq_mod x 63
  rw [e2] at e
  exact e
theorem abs_any (x : Nat) (h : x < 18446744073709551616) (w : World) : Calls Try.prog 25 #[.float .f64 x] w fun e w' => e = .returned (.float .f64 (absF x)) ∧ w = w' := by
  have h1 := bits_call
  have h2 := from_call
  have h3 := andNot_sign x h
  generalize absF x = y at *
  go_enter Try.func25, Try.ntmps25
  go_wp2
  go_ret
  exact ⟨rfl, rfl⟩
theorem absF_lt (x : Nat) : absF x < 9223372036854775808 := Nat.mod_lt _ (by decide)
theorem nan_abs (x : Nat) : nan (absF x) = nan x := by
  unfold nan absF
  rw [show (2 : Nat) ^ 63 = 9223372036854775808 from rfl, Nat.mod_mod]
theorem key_abs (x : Nat) : key (absF x) = (absF x : Nat) := key_pos (absF_lt x)
def isInf (x : Nat) : Bool := decide (absF x = 9218868437227405312)
theorem gt_max (x : Nat) : (FloatKind.f64.format.order (absF x) 9218868437227405311 == some .gt) = isInf x := by
  rw [gt_order, key_abs, key_pos (show 9218868437227405311 < 2 ^ 63 by decide), show nan 9218868437227405311 = false by decide]
  unfold isInf nan
  have := absF_lt x
  rw [show absF x % 2 ^ 63 = absF x from Nat.mod_eq_of_lt this]
  rw [Bool.eq_iff_iff]
  simp
  omega
theorem isinf_any (x : Nat) (h : x < 18446744073709551616) (w : World) : Calls Try.prog 15 #[.float .f64 x, .int .i64 0] w fun e w' => e = .returned (.bool (isInf x)) ∧ w = w' := by
  have h1 := gt_max x
  go_enter Try.func15, Try.ntmps15
  go_wp2_with (go_at_call 25; refine (abs_any _ h _).mono ?_; rintro e w' ⟨rfl, rfl⟩)
  go_ret
  exact ⟨rfl, rfl⟩
theorem wrap_sgn (x : Nat) (h : x < 18446744073709551616) : decide (wrap64 (x : Int) < 0) = sgn x := by
  unfold sgn
  rw [Bool.eq_iff_iff, decide_eq_true_iff, decide_eq_true_iff]
  unfold wrap64
  omega
theorem signbit_any (x : Nat) (h : x < 18446744073709551616) (w : World) : Calls Try.prog 16 #[.float .f64 x] w fun e w' => e = .returned (.bool (sgn x)) ∧ w = w' := by
  have h1 := bits_call
  have h2 := wrap_sgn x h
  go_enter Try.func16, Try.ntmps16
  go_wp2
  go_ret
  exact ⟨rfl, rfl⟩
theorem minus_any (w : World) : Calls Try.prog 27 #[.float .f64 0, .float .f64 13830554455654793216] w fun e w' => e = .returned (.float .f64 9223372036854775808) ∧ w = w' := by
  have h1 := bits_call
  have h2 := from_call
  have e1 : bits .andNot .u64 0 9223372036854775808 = 0 := by decide +kernel
  have e2 : bits .and .u64 13830554455654793216 9223372036854775808 = 9223372036854775808 := by decide +kernel
  have e3 : bits .or .u64 0 9223372036854775808 = 9223372036854775808 := by decide +kernel
  go_enter Try.func27, Try.ntmps27
  go_wp2
  go_ret
  exact ⟨rfl, rfl⟩
end Go.Proofs.Ytfheamemoinfeaa
