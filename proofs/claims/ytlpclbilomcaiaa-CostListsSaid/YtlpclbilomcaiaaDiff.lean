/- The difference of two costs, k absorbing, as one contract of cost.Sub, and its laws on numbers (no statement of its own). Condition: both are costs up to a right top. -/
import Derived.Test.YtlpclbilomcaiaaTame
namespace Go.Proofs.Ytlpclbilomcaiaa
open Go.RowKit
set_option linter.unusedVariables false
def subI (a b k : Int) : Int := if a = k then k else if b ≤ a then a - b else 0
def subE (a b k : Int) : Int := if a = k ∨ b ≤ a then 0 else 6
theorem subE_yes (a b k : Int) (h : a = k ∨ b ≤ a) : subE a b k = 0 := by unfold subE; rw [if_pos h]
theorem subE_no (a b k : Int) (h : ¬ (a = k ∨ b ≤ a)) : subE a b k = 6 := by unfold subE; rw [if_neg h]
theorem subI_bd (a b k : Int) (h1 : 0 ≤ a) (h2 : a ≤ k) (h3 : 0 ≤ b) (h4 : b ≤ k) (h5 : 0 ≤ k) : 0 ≤ subI a b k ∧ subI a b k ≤ k := by
  unfold subI; split <;> (try split) <;> omega
theorem subI_mono (a c b k : Int) (h : a ≤ c) (h1 : c ≤ k) (h2 : a = k ∨ b ≤ a) (h3 : 0 ≤ b) : subI a b k ≤ subI c b k := by
  unfold subI; split <;> (try split) <;> (try split) <;> (try split) <;> omega
theorem capI_mono (a c b k : Int) (h : a ≤ c) : capI a b k ≤ capI c b k := by
  unfold capI; split <;> split <;> omega
theorem capI_le (a b k : Int) (h : 0 ≤ a) (h1 : b ≤ k) : b ≤ capI a b k := by
  unfold capI; split <;> omega
theorem sub_any (a b k : Int) (w : World) (h1 : 1 ≤ k) (h2 : k ≤ 2147483648) (h3 : 0 ≤ a) (h4 : a ≤ k) (h5 : 0 ≤ b) (h6 : b ≤ k) :
    Calls Try.prog 10 #[.int .i64 a, .int .i64 b, .int .i64 k] w fun e w' => e = .returned (.tuple #[.int .i64 (subI a b k), .int .i64 (subE a b k)]) ∧ w = w' := by
  by_cases h : a = k
  · rw [show subI a b k = k from by unfold subI; rw [if_pos h], subE_yes _ _ _ (.inl h), h]
    exact sub_top b k w h1 h2 h5 h6
  · by_cases hb : b ≤ a
    · rw [show subI a b k = a - b from by unfold subI; rw [if_neg h, if_pos hb], subE_yes _ _ _ (.inr hb)]
      exact sub_less a b k w h1 h2 h5 hb (by omega)
    · rw [show subI a b k = 0 from by unfold subI; rw [if_neg h, if_neg hb], subE_no _ _ _ (by omega)]
      exact sub_over a b k w h2 h3 (by omega) (by omega) h6
end Go.Proofs.Ytlpclbilomcaiaa
