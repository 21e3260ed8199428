/- Contracts of the functions of package cost and of the document's answers for layer 1 (no statement of its own): what each returns, the world unchanged. Conditions: the ranges named in each. -/
import Derived.Test.YtlpclbilomcaiaaRows
import Derived.WalkKit
import Derived.WalkLawsBesides
import Derived.Lib.Hide
namespace Go.Proofs.Ytlpclbilomcaiaa
open Go.RowKit

theorem ret_bool {a b : Bool} (h : a = b) : Ending.returned (.bool a) = .returned (.bool b) := by rw [h]

theorem right_yes (k : Int) (w : World) (h1 : 1 ≤ k) (h2 : k ≤ 2147483648) :
    Calls Try.prog 12 #[.int .i64 k] w fun e w' => e = .returned (.bool true) ∧ w = w' := by
  go_enter Try.func12, Try.ntmps12
  go_wp2
  go_ret
  exact ⟨ret_bool (by simp <;> omega), rfl⟩
theorem right_no (k : Int) (w : World) (h : k < 1 ∨ 2147483648 < k) :
    Calls Try.prog 12 #[.int .i64 k] w fun e w' => e = .returned (.bool false) ∧ w = w' := by
  rcases h with h | h
  · go_enter Try.func12, Try.ntmps12
    go_wp2
    go_ret
    exact ⟨rfl, rfl⟩
  · have h1 : 1 ≤ k := by omega
    go_enter Try.func12, Try.ntmps12
    go_wp2
    go_ret
    exact ⟨ret_bool (by simp <;> omega), rfl⟩
theorem rright_yes (k : Int) (w : World) (h1 : 1 ≤ k) (h2 : k ≤ 2147483648) :
    Calls Try.prog 13 #[.int .i64 k] w fun e w' => e = .returned (.bool true) ∧ w = w' := by
  go_enter Try.func13, Try.ntmps13
  go_wp2
  go_ret
  exact ⟨ret_bool (by simp <;> omega), rfl⟩
theorem rright_no (k : Int) (w : World) (h : k < 1 ∨ 2147483648 < k) :
    Calls Try.prog 13 #[.int .i64 k] w fun e w' => e = .returned (.bool false) ∧ w = w' := by
  rcases h with h | h
  · go_enter Try.func13, Try.ntmps13
    go_wp2
    go_ret
    exact ⟨rfl, rfl⟩
  · have h1 : 1 ≤ k := by omega
    go_enter Try.func13, Try.ntmps13
    go_wp2
    go_ret
    exact ⟨ret_bool (by simp <;> omega), rfl⟩
theorem in_yes (a k : Int) (w : World) (h1 : 1 ≤ k) (h2 : k ≤ 2147483648) (h3 : 0 ≤ a) (h4 : a ≤ k) :
    Calls Try.prog 14 #[.int .i64 a, .int .i64 k] w fun e w' => e = .returned (.bool true) ∧ w = w' := by
  go_enter Try.func14, Try.ntmps14
  go_wp2_with (go_at_call 12; refine (right_yes _ _ (by omega) (by omega)).mono ?_; rintro e w' ⟨rfl, rfl⟩)
  go_ret
  exact ⟨ret_bool (by simp <;> omega), rfl⟩
theorem in_no (a k : Int) (w : World) (h : (k < 1 ∨ 2147483648 < k) ∨ a < 0 ∨ k < a) :
    Calls Try.prog 14 #[.int .i64 a, .int .i64 k] w fun e w' => e = .returned (.bool false) ∧ w = w' := by
  by_cases hk : k < 1 ∨ 2147483648 < k
  · clear h
    have H := Lib.hid hk
    clear hk
    go_enter Try.func14, Try.ntmps14
    go_wp2_with (go_at_call 12; refine (right_no _ _ H.out).mono ?_; rintro e w' ⟨rfl, rfl⟩)
    go_ret
    exact ⟨rfl, rfl⟩
  · have h1 : 1 ≤ k := by omega
    have h2 : k ≤ 2147483648 := by omega
    clear hk
    by_cases h3 : a < 0
    · clear h
      go_enter Try.func14, Try.ntmps14
      go_wp2_with (go_at_call 12; refine (right_yes _ _ (by omega) (by omega)).mono ?_; rintro e w' ⟨rfl, rfl⟩)
      go_ret
      exact ⟨rfl, rfl⟩
    · have h4 : k < a := by omega
      have h5 : 0 ≤ a := by omega
      clear h h3
      go_enter Try.func14, Try.ntmps14
      go_wp2_with (go_at_call 12; refine (right_yes _ _ (by omega) (by omega)).mono ?_; rintro e w' ⟨rfl, rfl⟩)
      go_ret
      exact ⟨ret_bool (by simp <;> omega), rfl⟩
theorem rin_yes (a k : Int) (w : World) (h1 : 1 ≤ k) (h2 : k ≤ 2147483648) (h3 : 0 ≤ a) (h4 : a ≤ k) :
    Calls Try.prog 15 #[.int .i64 a, .int .i64 k] w fun e w' => e = .returned (.bool true) ∧ w = w' := by
  go_enter Try.func15, Try.ntmps15
  go_wp2_with (go_at_call 13; refine (rright_yes _ _ (by omega) (by omega)).mono ?_; rintro e w' ⟨rfl, rfl⟩)
  go_ret
  exact ⟨ret_bool (by simp <;> omega), rfl⟩
theorem rin_no (a k : Int) (w : World) (h : (k < 1 ∨ 2147483648 < k) ∨ a < 0 ∨ k < a) :
    Calls Try.prog 15 #[.int .i64 a, .int .i64 k] w fun e w' => e = .returned (.bool false) ∧ w = w' := by
  by_cases hk : k < 1 ∨ 2147483648 < k
  · clear h
    have H := Lib.hid hk
    clear hk
    go_enter Try.func15, Try.ntmps15
    go_wp2_with (go_at_call 13; refine (rright_no _ _ H.out).mono ?_; rintro e w' ⟨rfl, rfl⟩)
    go_ret
    exact ⟨rfl, rfl⟩
  · have h1 : 1 ≤ k := by omega
    have h2 : k ≤ 2147483648 := by omega
    clear hk
    by_cases h3 : a < 0
    · clear h
      go_enter Try.func15, Try.ntmps15
      go_wp2_with (go_at_call 13; refine (rright_yes _ _ (by omega) (by omega)).mono ?_; rintro e w' ⟨rfl, rfl⟩)
      go_ret
      exact ⟨rfl, rfl⟩
    · have h4 : k < a := by omega
      have h5 : 0 ≤ a := by omega
      clear h h3
      go_enter Try.func15, Try.ntmps15
      go_wp2_with (go_at_call 13; refine (rright_yes _ _ (by omega) (by omega)).mono ?_; rintro e w' ⟨rfl, rfl⟩)
      go_ret
      exact ⟨ret_bool (by simp <;> omega), rfl⟩
/-! capped, Add, Sub, Gap -/
def capI (a b k : Int) : Int := if a + b ≤ k then a + b else k
theorem ret_int {t : IntKind} {a b : Int} (h : a = b) : Ending.returned (.int t a) = .returned (.int t b) := by rw [h]
theorem capI_of_le {a b k : Int} (h : a + b ≤ k) : capI a b k = a + b := by unfold capI; rw [if_pos h]
theorem capI_of_lt {a b k : Int} (h : k < a + b) : capI a b k = k := by unfold capI; rw [if_neg (by omega)]
theorem capped_any (a b k : Int) (w : World) (h2 : k ≤ 2147483648) (h3 : 0 ≤ a) (h4 : a ≤ k) (h5 : 0 ≤ b) (h6 : b ≤ k) :
    Calls Try.prog 21 #[.int .i64 a, .int .i64 b, .int .i64 k] w fun e w' => e = .returned (.int .i64 (capI a b k)) ∧ w = w' := by
  by_cases h : a + b ≤ k
  · go_enter Try.func21, Try.ntmps21
    go_wp2
    go_ret
    exact ⟨ret_int (by rw [capI_of_le h]), rfl⟩
  · go_enter Try.func21, Try.ntmps21
    go_wp2
    go_ret
    exact ⟨ret_int (by rw [capI_of_lt (by omega)]), rfl⟩
theorem add_yes (a b k : Int) (w : World) (h1 : 1 ≤ k) (h2 : k ≤ 2147483648) (h3 : 0 ≤ a) (h4 : a ≤ k) (h5 : 0 ≤ b) (h6 : b ≤ k) :
    Calls Try.prog 9 #[.int .i64 a, .int .i64 b, .int .i64 k] w fun e w' => e = .returned (.tuple #[.int .i64 (capI a b k), .int .i64 0]) ∧ w = w' := by
  go_enter Try.func9, Try.ntmps9
  go_wp2_with (first | (go_at_call 14; refine (in_yes _ _ _ (by omega) (by omega) (by omega) (by omega)).mono ?_; rintro e w' ⟨rfl, rfl⟩) | (go_at_call 21; refine (capped_any _ _ _ _ (by omega) (by omega) (by omega) (by omega) (by omega)).mono ?_; rintro e w' ⟨rfl, rfl⟩))
  go_ret2
  exact ⟨rfl, rfl⟩
/-- Not both are costs up to k. -/
def Wrong (a b k : Int) : Prop := ((k < 1 ∨ 2147483648 < k) ∨ a < 0 ∨ k < a) ∨ (1 ≤ k ∧ k ≤ 2147483648 ∧ 0 ≤ a ∧ a ≤ k) ∧ (b < 0 ∨ k < b)
theorem add_no (a b k : Int) (w : World) (h : Wrong a b k) :
    Calls Try.prog 9 #[.int .i64 a, .int .i64 b, .int .i64 k] w fun e w' => e = .returned (.tuple #[.int .i64 0, .int .i64 3]) ∧ w = w' := by
  rcases h with h | ⟨⟨h1, h2, h3, h4⟩, h⟩
  · have H := Lib.hid h
    clear h
    go_enter Try.func9, Try.ntmps9
    go_wp2_with (go_at_call 14; refine (in_no _ _ _ H.out).mono ?_; rintro e w' ⟨rfl, rfl⟩)
    go_ret2
    exact ⟨rfl, rfl⟩
  · have H := Lib.hid h
    clear h
    go_enter Try.func9, Try.ntmps9
    go_wp2_with fail
    refine (in_yes _ _ _ (by omega) (by omega) (by omega) (by omega)).mono ?_
    rintro e w' ⟨rfl, rfl⟩
    go_wp2_with fail
    refine (in_no _ _ _ (.inr H.out)).mono ?_
    rintro e w' ⟨rfl, rfl⟩
    go_wp2
    go_ret2
    exact ⟨rfl, rfl⟩
theorem sub_no (a b k : Int) (w : World) (h : Wrong a b k) :
    Calls Try.prog 10 #[.int .i64 a, .int .i64 b, .int .i64 k] w fun e w' => e = .returned (.tuple #[.int .i64 0, .int .i64 3]) ∧ w = w' := by
  rcases h with h | ⟨⟨h1, h2, h3, h4⟩, h⟩
  · have H := Lib.hid h
    clear h
    go_enter Try.func10, Try.ntmps10
    go_wp2_with (go_at_call 14; refine (in_no _ _ _ H.out).mono ?_; rintro e w' ⟨rfl, rfl⟩)
    go_ret2
    exact ⟨rfl, rfl⟩
  · have H := Lib.hid h
    clear h
    go_enter Try.func10, Try.ntmps10
    go_wp2_with fail
    refine (in_yes _ _ _ (by omega) (by omega) (by omega) (by omega)).mono ?_
    rintro e w' ⟨rfl, rfl⟩
    go_wp2_with fail
    refine (in_no _ _ _ (.inr H.out)).mono ?_
    rintro e w' ⟨rfl, rfl⟩
    go_wp2
    go_ret2
    exact ⟨rfl, rfl⟩
theorem gap_no (a b k : Int) (w : World) (h : Wrong a b k) :
    Calls Try.prog 11 #[.int .i64 a, .int .i64 b, .int .i64 k] w fun e w' => e = .returned (.tuple #[.int .i64 0, .int .i64 3]) ∧ w = w' := by
  rcases h with h | ⟨⟨h1, h2, h3, h4⟩, h⟩
  · have H := Lib.hid h
    clear h
    go_enter Try.func11, Try.ntmps11
    go_wp2_with (go_at_call 14; refine (in_no _ _ _ H.out).mono ?_; rintro e w' ⟨rfl, rfl⟩)
    go_ret2
    exact ⟨rfl, rfl⟩
  · have H := Lib.hid h
    clear h
    go_enter Try.func11, Try.ntmps11
    go_wp2_with fail
    refine (in_yes _ _ _ (by omega) (by omega) (by omega) (by omega)).mono ?_
    rintro e w' ⟨rfl, rfl⟩
    go_wp2_with fail
    refine (in_no _ _ _ (.inr H.out)).mono ?_
    rintro e w' ⟨rfl, rfl⟩
    go_wp2
    go_ret2
    exact ⟨rfl, rfl⟩
theorem sub_top (b k : Int) (w : World) (h1 : 1 ≤ k) (h2 : k ≤ 2147483648) (h5 : 0 ≤ b) (h6 : b ≤ k) :
    Calls Try.prog 10 #[.int .i64 k, .int .i64 b, .int .i64 k] w fun e w' => e = .returned (.tuple #[.int .i64 k, .int .i64 0]) ∧ w = w' := by
  go_enter Try.func10, Try.ntmps10
  go_wp2_with (go_at_call 14; refine (in_yes _ _ _ (by omega) (by omega) (by omega) (by omega)).mono ?_; rintro e w' ⟨rfl, rfl⟩)
  go_ret2
  exact ⟨rfl, rfl⟩
theorem sub_less (a b k : Int) (w : World) (h1 : 1 ≤ k) (h2 : k ≤ 2147483648) (h3 : 0 ≤ b) (h4 : b ≤ a) (h5 : a < k) :
    Calls Try.prog 10 #[.int .i64 a, .int .i64 b, .int .i64 k] w fun e w' => e = .returned (.tuple #[.int .i64 (a - b), .int .i64 0]) ∧ w = w' := by
  go_enter Try.func10, Try.ntmps10
  go_wp2_with (go_at_call 14; refine (in_yes _ _ _ (by omega) (by omega) (by omega) (by omega)).mono ?_; rintro e w' ⟨rfl, rfl⟩)
  go_ret2
  exact ⟨rfl, rfl⟩
theorem sub_over (a b k : Int) (w : World) (h2 : k ≤ 2147483648) (h3 : 0 ≤ a) (h4 : a < b) (h5 : a < k) (h6 : b ≤ k) :
    Calls Try.prog 10 #[.int .i64 a, .int .i64 b, .int .i64 k] w fun e w' => e = .returned (.tuple #[.int .i64 0, .int .i64 6]) ∧ w = w' := by
  go_enter Try.func10, Try.ntmps10
  go_wp2_with (go_at_call 14; refine (in_yes _ _ _ (by omega) (by omega) (by omega) (by omega)).mono ?_; rintro e w' ⟨rfl, rfl⟩)
  go_ret2
  exact ⟨rfl, rfl⟩
def lackI (a b : Int) : Int := if a < b then b - a else 0
theorem gap_yes (a b k : Int) (w : World) (h1 : 1 ≤ k) (h2 : k ≤ 2147483648) (h3 : 0 ≤ a) (h4 : a ≤ k) (h5 : 0 ≤ b) (h6 : b ≤ k) :
    Calls Try.prog 11 #[.int .i64 a, .int .i64 b, .int .i64 k] w fun e w' => e = .returned (.tuple #[.int .i64 (lackI a b), .int .i64 0]) ∧ w = w' := by
  by_cases h : a < b
  · rw [show lackI a b = b - a from by unfold lackI; rw [if_pos h]]
    go_enter Try.func11, Try.ntmps11
    go_wp2_with (go_at_call 14; refine (in_yes _ _ _ (by omega) (by omega) (by omega) (by omega)).mono ?_; rintro e w' ⟨rfl, rfl⟩)
    go_ret2
    exact ⟨rfl, rfl⟩
  · rw [show lackI a b = 0 from by unfold lackI; rw [if_neg h]]
    by_cases h' : b < a
    · have h0 : ¬ 0 ≤ b - a := by omega
      go_enter Try.func11, Try.ntmps11
      go_wp2_with (go_at_call 14; refine (in_yes _ _ _ (by omega) (by omega) (by omega) (by omega)).mono ?_; rintro e w' ⟨rfl, rfl⟩)
      go_ret2
      exact ⟨rfl, rfl⟩
    · obtain rfl : a = b := by omega
      go_enter Try.func11, Try.ntmps11
      go_wp2_with (go_at_call 14; refine (in_yes _ _ _ (by omega) (by omega) (by omega) (by omega)).mono ?_; rintro e w' ⟨rfl, rfl⟩)
      go_ret2
      exact ⟨rfl, rfl⟩
/-! the document's answers -/
theorem radd_any (a b k : Int) (w : World) (h2 : k ≤ 2147483648) (h3 : 0 ≤ a) (h4 : a ≤ k) (h5 : 0 ≤ b) (h6 : b ≤ k) :
    Calls Try.prog 17 #[.int .i64 a, .int .i64 b, .int .i64 k] w fun e w' => e = .returned (.int .i64 (capI a b k)) ∧ w = w' := by
  by_cases h : a + b ≤ k
  · rw [capI_of_le h]
    go_enter Try.func17, Try.ntmps17
    go_wp2
    go_ret
    exact ⟨rfl, rfl⟩
  · rw [capI_of_lt (by omega)]
    go_enter Try.func17, Try.ntmps17
    go_wp2
    go_ret
    exact ⟨rfl, rfl⟩
theorem rsub_top (b k : Int) (w : World) :
    Calls Try.prog 16 #[.int .i64 k, .int .i64 b, .int .i64 k] w fun e w' => e = .returned (.tuple #[.int .i64 k, .bool true]) ∧ w = w' := by
  go_enter Try.func16, Try.ntmps16
  go_wp2
  go_ret2
  exact ⟨rfl, rfl⟩
theorem rsub_less (a b k : Int) (w : World) (h1 : 1 ≤ k) (h2 : k ≤ 2147483648) (h3 : 0 ≤ b) (h4 : b ≤ a) (h5 : a < k) :
    Calls Try.prog 16 #[.int .i64 a, .int .i64 b, .int .i64 k] w fun e w' => e = .returned (.tuple #[.int .i64 (a - b), .bool true]) ∧ w = w' := by
  go_enter Try.func16, Try.ntmps16
  go_wp2
  go_ret2
  exact ⟨by simp <;> omega, rfl⟩
theorem rsub_over (a b k : Int) (w : World) (h2 : k ≤ 2147483648) (h3 : 0 ≤ a) (h4 : a < b) (h5 : a < k) (h6 : b ≤ k) :
    Calls Try.prog 16 #[.int .i64 a, .int .i64 b, .int .i64 k] w fun e w' => e = .returned (.tuple #[.int .i64 (a - b), .bool false]) ∧ w = w' := by
  go_enter Try.func16, Try.ntmps16
  go_wp2
  go_ret2
  exact ⟨by simp <;> omega, rfl⟩
theorem rless_any (a b : Int) (w : World) :
    Calls Try.prog 18 #[.int .i64 a, .int .i64 b] w fun e w' => e = .returned (.int .i64 (min a b)) ∧ w = w' := by
  by_cases h : a < b
  · rw [Int.min_eq_left (by omega)]
    go_enter Try.func18, Try.ntmps18
    go_wp2
    go_ret
    exact ⟨rfl, rfl⟩
  · rw [Int.min_eq_right (by omega)]
    go_enter Try.func18, Try.ntmps18
    go_wp2
    go_ret
    exact ⟨rfl, rfl⟩
theorem awake_true (w : World) : Calls Try.prog 8 #[] w fun e w' => e = .returned (.bool true) ∧ w = w' := by
  go_enter Try.func8, Try.ntmps8
  go_wp2_with fail
  refine (add_yes _ _ _ _ (by omega) (by omega) (by omega) (by omega) (by omega) (by omega)).mono ?_
  rintro e w' ⟨rfl, rfl⟩
  rw [capI_of_lt (by omega)]
  go_wp2_with fail
  refine (sub_top _ _ _ (by omega) (by omega) (by omega) (by omega)).mono ?_
  rintro e w' ⟨rfl, rfl⟩
  go_wp2_with fail
  refine (sub_over _ _ _ _ (by omega) (by omega) (by omega) (by omega) (by omega)).mono ?_
  rintro e w' ⟨rfl, rfl⟩
  go_wp2
  go_ret
  exact ⟨rfl, rfl⟩
end Go.Proofs.Ytlpclbilomcaiaa
