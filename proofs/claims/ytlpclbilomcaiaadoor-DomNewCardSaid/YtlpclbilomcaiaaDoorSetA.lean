/- Contracts of package dom's functions that make a set out of another one (no statement of its own). Conditions: at most 32 values, the bits below. -/
import Derived.Test.YtlpclbilomcaiaaDoorSet
namespace Go.Proofs.YtlpclbilomcaiaaDoor
open Go.RowKit
set_option linter.unusedVariables false
theorem has_no (k B : Nat) (v : Int) (w : World) (h : v < 0 ∨ (k : Int) ≤ v) :
    Calls Tryd.prog 26 #[setV k B, .int .i64 v] w fun e w' => e = .returned (.bool false) ∧ Below w.heap.size w w' := by
  have H := Lib.hid h
  clear h
  go_enter Tryd.func26, Tryd.ntmps26
  go_wp2_with fail
  first | go_region_with (go_at_call 29; refine (fits_no _ _ _ _ H.out).mono ?_; rintro e w' ⟨rfl, rfl⟩) | fail
  all_goals
    go_wp2
    go_ret
    exact ⟨rfl, by go_grown⟩
theorem has_yes (k B v : Nat) (w : World) (h : v < k) (hk : k ≤ 32) (hB : B < 2 ^ k) :
    Calls Tryd.prog 26 #[setV k B, .int .i64 (v : Int)] w fun e w' => e = .returned (.bool (B.testBit v)) ∧ Below w.heap.size w w' := by
  have F := Lib.hid (fun W => fits_yes k B v W h)
  have T := Lib.hid (fun W => bit_any v W (by omega))
  have E := Lib.hid (bits_test B v (lt_of_fits hk hB) (by omega))
  generalize B.testBit v = b at E ⊢
  generalize 2 ^ v = p at T E
  clear hB
  go_enter Tryd.func26, Tryd.ntmps26
  go_wp2_with fail
  first | go_region_with (first | (go_at_call 29; refine (F.out _).mono ?_; rintro e w' ⟨rfl, rfl⟩) | (go_at_call 30; refine (T.out _).mono ?_; rintro e w' ⟨rfl, rfl⟩)) | fail
  all_goals
    go_wp2
    go_ret
    exact ⟨ret_bool E.out, by go_grown⟩
theorem put_yes (k B v : Nat) (w : World) (h : v < k) (hk : k ≤ 32) (hB : B < 2 ^ k) :
    Calls Tryd.prog 10 #[setV k B, .int .i64 (v : Int)] w fun e w' => e = .returned (setV k (putN B v)) ∧ Below w.heap.size w w' := by
  have F := Lib.hid (fun W => fits_yes k B v W h)
  have T := Lib.hid (fun W => bit_any v W (by omega))
  have E := Lib.hid (bits_or B v (lt_of_fits hk hB) (by omega))
  generalize putN B v = b at E ⊢
  generalize 2 ^ v = p at T E
  clear hB
  go_enter Tryd.func10, Tryd.ntmps10
  go_wp2_with (go_at_call 29; refine (F.out _).mono ?_; rintro e w' ⟨rfl, rfl⟩)
  first | go_region_with (go_at_call 30; refine (T.out _).mono ?_; rintro e w' ⟨rfl, rfl⟩) | fail
  all_goals
    go_wp2
    rw [E.out]
    exact bodyPost_ret (v := setV k b) (by simp [results, Tryd.results10, go_sem]) rfl ⟨rfl, by go_grown⟩
theorem put_no (k B : Nat) (v : Int) (w : World) (h : v < 0 ∨ (k : Int) ≤ v) :
    Calls Tryd.prog 10 #[setV k B, .int .i64 v] w fun e w' => e = .returned (setV k B) ∧ Below w.heap.size w w' := by
  have H := Lib.hid h
  clear h
  go_enter Tryd.func10, Tryd.ntmps10
  go_wp2_with (go_at_call 29; refine (fits_no _ _ _ _ H.out).mono ?_; rintro e w' ⟨rfl, rfl⟩)
  exact bodyPost_ret (v := setV k B) (by simp [results, Tryd.results10, go_sem]) rfl ⟨rfl, by go_grown⟩
theorem drop_yes (k B v : Nat) (w : World) (h : v < k) (hk : k ≤ 32) (hB : B < 2 ^ k) :
    Calls Tryd.prog 12 #[setV k B, .int .i64 (v : Int)] w fun e w' => e = .returned (setV k (dropN B v)) ∧ Below w.heap.size w w' := by
  have F := Lib.hid (fun W => fits_yes k B v W h)
  have T := Lib.hid (fun W => bit_any v W (by omega))
  have E := Lib.hid (bits_drop B v (lt_of_fits hk hB) (by omega))
  generalize dropN B v = b at E ⊢
  generalize 2 ^ v = p at T E
  clear hB
  go_enter Tryd.func12, Tryd.ntmps12
  go_wp2_with (go_at_call 29; refine (F.out _).mono ?_; rintro e w' ⟨rfl, rfl⟩)
  first | go_region_with (go_at_call 30; refine (T.out _).mono ?_; rintro e w' ⟨rfl, rfl⟩) | fail
  all_goals
    go_wp2
    rw [E.out]
    exact bodyPost_ret (v := setV k b) (by simp [results, Tryd.results12, go_sem]) rfl ⟨rfl, by go_grown⟩
theorem drop_no (k B : Nat) (v : Int) (w : World) (h : v < 0 ∨ (k : Int) ≤ v) :
    Calls Tryd.prog 12 #[setV k B, .int .i64 v] w fun e w' => e = .returned (setV k B) ∧ Below w.heap.size w w' := by
  have H := Lib.hid h
  clear h
  go_enter Tryd.func12, Tryd.ntmps12
  go_wp2_with (go_at_call 29; refine (fits_no _ _ _ _ H.out).mono ?_; rintro e w' ⟨rfl, rfl⟩)
  exact bodyPost_ret (v := setV k B) (by simp [results, Tryd.results12, go_sem]) rfl ⟨rfl, by go_grown⟩
end Go.Proofs.YtlpclbilomcaiaaDoor
