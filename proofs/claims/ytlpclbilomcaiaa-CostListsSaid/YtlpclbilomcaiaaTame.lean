/- Numbers for the laws of layer 1 that tame their inputs (no statement of its own): what the conversions and remainders come to, and laws of the sum with a top. -/
import Derived.Test.YtlpclbilomcaiaaCost
import Derived.BigQuiet
import Derived.IntWalk
import Derived.Deep.QuietTactic
namespace Go.Proofs.Ytlpclbilomcaiaa
open Go.RowKit
set_option linter.unusedVariables false
theorem u64_nonneg (a : Int) : 0 ≤ IntKind.u64.wrap a := by rw [IntKind.wrap_u64]; omega
theorem kay (a : Int) : ∃ K, 1 ≤ K ∧ K ≤ 2147483648 ∧ wrap64 (1 + wrap64 ((IntKind.u64.wrap a).tmod 2147483648)) = K := by
  have h0 := u64_nonneg a
  generalize IntKind.u64.wrap a = x at h0
  rw [Int.tmod_eq_emod_of_nonneg h0, IntWalk.wrap64_in (x % 2147483648) (by omega), IntWalk.wrap64_in _ (by omega)]
  exact ⟨_, by omega, by omega, rfl⟩
theorem mod (a K : Int) (h1 : 1 ≤ K) (h2 : K ≤ 2147483648) : ∃ A, 0 ≤ A ∧ A ≤ K ∧ IntKind.i64.wrap ((IntKind.u64.wrap a).tmod (K + 1)) = A := by
  have h0 := u64_nonneg a
  generalize IntKind.u64.wrap a = x at h0
  have h3 := Int.emod_nonneg x (show K + 1 ≠ 0 by omega)
  have h4 := Int.emod_lt_of_pos x (show 0 < K + 1 by omega)
  rw [Int.tmod_eq_emod_of_nonneg h0, IntWalk.i64_in _ (by omega)]
  exact ⟨_, by omega, by omega, rfl⟩
theorem u64_succ (K : Int) (h1 : 1 ≤ K) (h2 : K ≤ 2147483648) : IntKind.u64.wrap (K + 1) = K + 1 := IntWalk.u64_in _ (by omega)
theorem capI_bd (a b k : Int) (h3 : 0 ≤ a) (h4 : a ≤ k) (h5 : 0 ≤ b) : 0 ≤ capI a b k ∧ capI a b k ≤ k := by
  unfold capI; split <;> omega
theorem capI_assoc (a b c k : Int) (h4 : a ≤ k) (h5 : 0 ≤ b) (h3 : 0 ≤ a) (h6 : 0 ≤ c) (h7 : c ≤ k) : capI (capI a b k) c k = capI a (capI b c k) k := by
  unfold capI; split <;> split <;> split <;> (try split) <;> omega
theorem capI_comm (a b k : Int) : capI a b k = capI b a k := by
  unfold capI; rw [Int.add_comm]
theorem capI_top (b k : Int) (h : 0 ≤ b) : capI k b k = k := by unfold capI; split <;> omega
theorem grown_drewN (w : World) (n : Nat) : Grown w (w.drewN n) := by
  have h := Grown.refl w
  exact ⟨⟨h.1.1, h.1.2.1, h.1.2.2⟩, h.2.1, h.2.2⟩
end Go.Proofs.Ytlpclbilomcaiaa
