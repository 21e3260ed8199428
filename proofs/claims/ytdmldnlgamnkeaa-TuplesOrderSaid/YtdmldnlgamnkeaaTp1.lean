/- Contracts of what TablePlays calls besides: the document's In and Add, Index of a tuple that there isn't, Get of one, More (no statement of its own). No condition. -/
import Derived.Test.YtdmldnlgamnkeaaIx
import Derived.Test.YtdmldnlgamnkeaaTbV
namespace Go.Proofs.Ytdmldnlgamnkeaa
open Go.RowKit
set_option linter.unusedVariables false
theorem rright_yes (k : Int) (w : World) (h1 : 1 ≤ k) (h2 : k ≤ 2147483648) :
    Calls Try.prog 34 #[.int .i64 k] w fun e w' => e = .returned (.bool true) ∧ w = w' := by
  have d : decide (0 < k) = true := by simp; omega
  go_enter Try.func34, Try.ntmps34
  go_wp2_with fail
  go_ret
  exact ⟨rfl, rfl⟩
theorem rin_any (c k : Int) (b : Bool) (w : World) (h1 : 1 ≤ k) (h2 : k ≤ 2147483648) (hb : (0 ≤ c ∧ c ≤ k) ↔ b = true) :
    Calls Try.prog 13 #[.int .i64 c, .int .i64 k] w fun e w' => e = .returned (.bool b) ∧ w = w' := by
  have HB := Lib.hid hb
  clear hb
  by_cases h0 : 0 ≤ c
  · by_cases h3 : c ≤ k
    · obtain rfl : b = true := HB.out.1 ⟨h0, h3⟩
      have d0 : decide (0 ≤ c) = true := by simp; omega
      have d1 : decide (c ≤ k) = true := by simp; omega
      go_enter Try.func13, Try.ntmps13
      go_wp2_with (go_at_call 34; refine (rright_yes _ _ h1 h2).mono ?_; rintro e w' ⟨rfl, rfl⟩)
      go_ret
      exact ⟨rfl, rfl⟩
    · obtain rfl : b = false := by cases b; rfl; exact absurd (HB.out.2 rfl).2 h3
      have d0 : decide (0 ≤ c) = true := by simp; omega
      have d1 : decide (c ≤ k) = false := by simp; omega
      go_enter Try.func13, Try.ntmps13
      go_wp2_with (go_at_call 34; refine (rright_yes _ _ h1 h2).mono ?_; rintro e w' ⟨rfl, rfl⟩)
      go_ret
      exact ⟨rfl, rfl⟩
  · obtain rfl : b = false := by cases b; rfl; exact absurd (HB.out.2 rfl).1 h0
    have d0 : decide (0 ≤ c) = false := by simp; omega
    go_enter Try.func13, Try.ntmps13
    go_wp2_with (go_at_call 34; refine (rright_yes _ _ h1 h2).mono ?_; rintro e w' ⟨rfl, rfl⟩)
    go_ret
    exact ⟨rfl, rfl⟩
/-- A sum that stops at the top. -/
def capA (a b k : Int) : Int := if a + b > k then k else a + b
attribute [local go_sem ↓] run_mn2
end Go.Proofs.Ytdmldnlgamnkeaa
