/- The order of floats, and the contracts of what only compares them (no statement of its own). -/
import Derived.Test.YtfheamemoinfeaaFm
import Derived.WalkKit
import Derived.WalkLawsBesides
import Derived.Lib.Hide
import Derived.Handy
import Derived.IntWalk
import Derived.Below
import Derived.Laws.Externs
namespace Go.Proofs.Ytfheamemoinfeaa
open Go.RowKit
open RtA
set_option linter.unusedVariables false
/-- Where a word stands among all: the noughts together, none of them (NaN) behind all. -/
def kx (x : Nat) : Int := if nan x = true then 18446744073709551616 else key x
theorem key_lt (x : Nat) : -9223372036854775808 < key x ∧ key x < 9223372036854775808 := by
  unfold key
  have := Nat.mod_lt x (show 0 < 2 ^ 63 by decide)
  split <;> omega
theorem kx_nan {x : Nat} (h : nan x = true) : kx x = 18446744073709551616 := by unfold kx; rw [if_pos h]
theorem kx_num {x : Nat} (h : nan x = false) : kx x = key x := by unfold kx; rw [if_neg (by rw [h]; decide)]
theorem order_none {x y : Nat} (h : nan x = true ∨ nan y = true) : FloatKind.f64.format.order x y = none := order_nan x y h
theorem order_some {x y : Nat} (h : nan x = false) (h2 : nan y = false) : FloatKind.f64.format.order x y = some (compare (key x) (key y)) := order_key x y h h2
theorem cmp_lt (a b : Int) : (some (compare a b) == some Ordering.lt) = decide (a < b) := by
  rcases Int.lt_trichotomy a b with h | h | h
  · rw [Int.compare_eq_lt.2 h, decide_eq_true h]; rfl
  · subst h; simp
  · rw [Int.compare_eq_gt.2 h, decide_eq_false (by omega)]; rfl
theorem cmp_gt (a b : Int) : (some (compare a b) == some Ordering.gt) = decide (b < a) := by
  rcases Int.lt_trichotomy a b with h | h | h
  · rw [Int.compare_eq_lt.2 h, decide_eq_false (by omega)]; rfl
  · subst h; simp
  · rw [Int.compare_eq_gt.2 h, decide_eq_true h]; rfl
theorem cmp_eq (a b : Int) : (some (compare a b) == some Ordering.eq) = decide (a = b) := by
  rcases Int.lt_trichotomy a b with h | h | h
  · rw [Int.compare_eq_lt.2 h, decide_eq_false (by omega)]; rfl
  · subst h; simp
  · rw [Int.compare_eq_gt.2 h, decide_eq_false (by omega)]; rfl
/-- Is it other than itself? -/
theorem ne_self (x : Nat) : (FloatKind.f64.format.order x x != some .eq) = nan x := by
  cases h : nan x
  · rw [order_some h h]; simp
  · rw [order_none (.inl h)]; rfl
theorem eq_self (x : Nat) : (FloatKind.f64.format.order x x == some .eq) = !nan x := by
  rw [← ne_self]; unfold bne; simp
theorem lt_order (x y : Nat) : (FloatKind.f64.format.order x y == some .lt) = (!nan x && !nan y && decide (key x < key y)) := by
  cases h : nan x
  · cases h2 : nan y
    · rw [order_some h h2, cmp_lt]; simp
    · rw [order_none (.inr h2)]; simp
  · rw [order_none (.inl h)]; simp
theorem gt_order (x y : Nat) : (FloatKind.f64.format.order x y == some .gt) = (!nan x && !nan y && decide (key y < key x)) := by
  cases h : nan x
  · cases h2 : nan y
    · rw [order_some h h2, cmp_gt]; simp
    · rw [order_none (.inr h2)]; simp
  · rw [order_none (.inl h)]; simp
theorem eq_order (x y : Nat) : (FloatKind.f64.format.order x y == some .eq) = (!nan x && !nan y && decide (key x = key y)) := by
  cases h : nan x
  · cases h2 : nan y
    · rw [order_some h h2, cmp_eq]; simp
    · rw [order_none (.inr h2)]; simp
  · rw [order_none (.inl h)]; simp
/-- Which is ahead: -1, 0, 1. -/
def cm (x y : Nat) : Int := if kx x < kx y then -1 else if kx y < kx x then 1 else 0
def ahead (x y : Nat) : Bool := decide (kx x < kx y)
theorem nan_any (x : Nat) (w : World) : Calls Try.prog 28 #[.float .f64 x] w fun e w' => e = .returned (.bool (nan x)) ∧ w = w' := by
  have h := ne_self x
  go_enter Try.func28, Try.ntmps28
  go_wp2
  all_goals (go_ret; exact ⟨rfl, rfl⟩)
theorem isnan_any (x : Nat) (w : World) : Calls Try.prog 29 #[.float .f64 x] w fun e w' => e = .returned (.bool (nan x)) ∧ w = w' := by
  have h := ne_self x
  go_enter Try.func29, Try.ntmps29
  go_wp2
  all_goals (go_ret; exact ⟨rfl, rfl⟩)
theorem cisnan_any (x : Nat) (w : World) : Calls Try.prog 37 #[.float .f64 x] w fun e w' => e = .returned (.bool (nan x)) ∧ w = w' := by
  have h := ne_self x
  go_enter Try.func37, Try.ntmps37
  go_wp2
  all_goals (go_ret; exact ⟨rfl, rfl⟩)
theorem sret_int {a b : Int} (h : a = b) : (Ending.returned (.int .i64 a)) = .returned (.int .i64 b) := by rw [h]
theorem sret_bool {a b : Bool} (h : a = b) : (Ending.returned (.bool a)) = .returned (.bool b) := by rw [h]
theorem kx_big {x y : Nat} (hx : nan x = true) (hy : nan y = false) : kx y < kx x := by
  rw [kx_nan hx, kx_num hy]; have := key_lt y; omega
theorem compare_any (x y : Nat) (w : World) : Calls Try.prog 30 #[.float .f64 x, .float .f64 y] w fun e w' => e = .returned (.int .i64 (if nan x = true then (if nan y = true then 0 else -1) else if nan y = true then 1 else cm x y)) ∧ w = w' := by
  cases hx : nan x
  · cases hy : nan y
    · have e1 := kx_num hx
      have e2 := kx_num hy
      have h1 := lt_order x y
      have h2 := gt_order x y
      rw [hx, hy] at h1 h2
      simp only [Bool.not_false, Bool.true_and, Bool.false_eq_true, if_false] at h1 h2 ⊢
      unfold cm
      rw [e1, e2]
      clear e1 e2
      rcases Int.lt_trichotomy (key x) (key y) with h | h | h
      · rw [decide_eq_true h] at h1
        rw [if_pos h]
        clear h2 h
        go_enter Try.func30, Try.ntmps30
        go_wp2_with (first | (go_at_call 37; refine (cisnan_any _ _).mono ?_; rintro e w' ⟨rfl, rfl⟩))
        all_goals (go_ret; exact ⟨rfl, rfl⟩)
      · rw [decide_eq_false (by omega)] at h1
        rw [decide_eq_false (by omega)] at h2
        rw [if_neg (by omega), if_neg (by omega)]
        clear h
        go_enter Try.func30, Try.ntmps30
        go_wp2_with (first | (go_at_call 37; refine (cisnan_any _ _).mono ?_; rintro e w' ⟨rfl, rfl⟩))
        all_goals (go_ret; exact ⟨rfl, rfl⟩)
      · rw [decide_eq_false (by omega)] at h1
        rw [decide_eq_true h] at h2
        rw [if_neg (by omega), if_pos h]
        clear h
        go_enter Try.func30, Try.ntmps30
        go_wp2_with (first | (go_at_call 37; refine (cisnan_any _ _).mono ?_; rintro e w' ⟨rfl, rfl⟩))
        all_goals (go_ret; exact ⟨rfl, rfl⟩)
    · simp only [Bool.false_eq_true, if_false, if_true]
      go_enter Try.func30, Try.ntmps30
      go_wp2_with (first | (go_at_call 37; refine (cisnan_any _ _).mono ?_; rintro e w' ⟨rfl, rfl⟩))
      all_goals (go_ret; exact ⟨rfl, rfl⟩)
  · cases hy : nan y
    · simp only [Bool.false_eq_true, if_false, if_true]
      go_enter Try.func30, Try.ntmps30
      go_wp2_with (first | (go_at_call 37; refine (cisnan_any _ _).mono ?_; rintro e w' ⟨rfl, rfl⟩))
      all_goals (go_ret; exact ⟨rfl, rfl⟩)
    · simp only [if_true]
      go_enter Try.func30, Try.ntmps30
      go_wp2_with (first | (go_at_call 37; refine (cisnan_any _ _).mono ?_; rintro e w' ⟨rfl, rfl⟩))
      all_goals (go_ret; exact ⟨rfl, rfl⟩)
theorem cm_nan {x y : Nat} (hx : nan x = true) (hy : nan y = true) : cm x y = 0 := by
  unfold cm; rw [kx_nan hx, kx_nan hy]; simp
theorem cm_left {x y : Nat} (hx : nan x = true) (hy : nan y = false) : cm x y = 1 := by
  have := kx_big hx hy
  unfold cm; rw [if_neg (by omega), if_pos this]
theorem cm_right {x y : Nat} (hx : nan x = false) (hy : nan y = true) : cm x y = -1 := by
  have := kx_big hy hx
  unfold cm; rw [if_pos this]
theorem fcmp_any (x y : Nat) (w : World) : Calls Try.prog 11 #[.float .f64 x, .float .f64 y] w fun e w' => e = .returned (.int .i64 (cm x y)) ∧ w = w' := by
  cases hx : nan x
  · cases hy : nan y
    · go_enter Try.func11, Try.ntmps11
      go_wp2_with (first | (go_at_call 29; refine (isnan_any _ _).mono ?_; rintro e w' ⟨rfl, rfl⟩) | (go_at_call 30; refine (compare_any _ _ _).mono ?_; rintro e w' ⟨rfl, rfl⟩))
      go_ret
      exact ⟨rfl, rfl⟩
    · rw [cm_right hx hy]
      go_enter Try.func11, Try.ntmps11
      go_wp2_with (first | (go_at_call 29; refine (isnan_any _ _).mono ?_; rintro e w' ⟨rfl, rfl⟩) | (go_at_call 30; refine (compare_any _ _ _).mono ?_; rintro e w' ⟨rfl, rfl⟩))
      go_ret
      exact ⟨rfl, rfl⟩
  · cases hy : nan y
    · rw [cm_left hx hy]
      go_enter Try.func11, Try.ntmps11
      go_wp2_with (first | (go_at_call 29; refine (isnan_any _ _).mono ?_; rintro e w' ⟨rfl, rfl⟩) | (go_at_call 30; refine (compare_any _ _ _).mono ?_; rintro e w' ⟨rfl, rfl⟩))
      go_ret
      exact ⟨rfl, rfl⟩
    · rw [cm_nan hx hy]
      go_enter Try.func11, Try.ntmps11
      go_wp2_with (first | (go_at_call 29; refine (isnan_any _ _).mono ?_; rintro e w' ⟨rfl, rfl⟩) | (go_at_call 30; refine (compare_any _ _ _).mono ?_; rintro e w' ⟨rfl, rfl⟩))
      go_ret
      exact ⟨rfl, rfl⟩
theorem rahead_any (x y : Nat) (w : World) : Calls Try.prog 10 #[.float .f64 x, .float .f64 y] w fun e w' => e = .returned (.bool (ahead x y)) ∧ w = w' := by
  have HA : Hid (ahead x y = if nan x = true then false else if nan y = true then true else decide (key x < key y)) := by
    apply Lib.hid
    unfold ahead
    cases hx : nan x <;> cases hy : nan y
    · rw [kx_num hx, kx_num hy]; simp
    · have := kx_big hy hx; simp [this]
    · have := kx_big hx hy; simp; omega
    · rw [kx_nan hx, kx_nan hy]; simp
  have h1 := lt_order x y
  cases hx : nan x
  · cases hy : nan y
    · rw [hx, hy] at h1
      simp only [Bool.not_false, Bool.true_and] at h1
      go_enter Try.func10, Try.ntmps10
      go_wp2_with (first | (go_at_call 28; refine (nan_any _ _).mono ?_; rintro e w' ⟨rfl, rfl⟩))
      go_ret
      exact ⟨sret_bool (by rw [HA.out, hx, hy]; simp), rfl⟩
    · clear h1
      go_enter Try.func10, Try.ntmps10
      go_wp2_with (first | (go_at_call 28; refine (nan_any _ _).mono ?_; rintro e w' ⟨rfl, rfl⟩))
      go_ret
      exact ⟨sret_bool (by rw [HA.out, hx, hy]; simp), rfl⟩
  · clear h1
    go_enter Try.func10, Try.ntmps10
    go_wp2_with (first | (go_at_call 28; refine (nan_any _ _).mono ?_; rintro e w' ⟨rfl, rfl⟩))
    go_ret
    exact ⟨sret_bool (by rw [HA.out, hx]; simp), rfl⟩
end Go.Proofs.Ytfheamemoinfeaa
