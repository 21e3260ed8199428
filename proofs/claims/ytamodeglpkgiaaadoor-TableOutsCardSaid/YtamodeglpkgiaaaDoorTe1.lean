/- Plain mathematics of TableOuts: which values stay (no statement of its own). No condition. -/
import Derived.Test.YtamodeglpkgiaaaDoorDm
import Derived.Test.YtamodeglpkgiaaaDoorTbU
namespace Go.Proofs.YtamodeglpkgiaaaDoor
open Go.RowKit
set_option linter.unusedVariables false
open Dm (Mem mem setV setO Tab)
/-- The values below j whose bit is set. -/
def bitL (b j : Nat) : List Nat := (List.range j).filter fun v => b.testBit v
theorem bitL_succ (b j : Nat) : bitL b (j + 1) = bitL b j ++ if b.testBit j then [j] else [] := by
  unfold bitL
  rw [List.range_succ, List.filter_append]
  by_cases h : b.testBit j <;> simp [h]
theorem bitL_len (b j : Nat) : (bitL b j).length ≤ j := by
  have := List.length_filter_le (fun v => b.testBit v) (List.range j)
  simpa [bitL] using this
theorem bitL_lt {b j v : Nat} (h : v ∈ bitL b j) : v < j := by
  simp [bitL] at h
  exact h.1
/-- The set behind j values. -/
def bitB (b n : Nat) : Nat → Nat
  | 0 => 2 ^ n - 1
  | j + 1 => if b.testBit j then bitB b n j else Dm.dropN (bitB b n j) j
theorem bitB_fit (b n : Nat) (hn : n ≤ 32) : ∀ j, j ≤ n → bitB b n j < 2 ^ n
  | 0, _ => by have := Nat.two_pow_pos n; show 2 ^ n - 1 < 2 ^ n; omega
  | j + 1, h => by
    have ih := bitB_fit b n hn j (by omega)
    show (if b.testBit j then bitB b n j else Dm.dropN (bitB b n j) j) < 2 ^ n
    split
    · exact ih
    · exact Dm.drop_fits hn ih (by omega)
theorem bitB_bit (b n : Nat) (hn : n ≤ 32) : ∀ j, j ≤ n → ∀ i, (bitB b n j).testBit i = (decide (i < n) && (decide (j ≤ i) || b.testBit i))
  | 0, _, i => by
    show (2 ^ n - 1).testBit i = _
    rw [Nat.testBit_two_pow_sub_one]
    simp
  | j + 1, h, i => by
    have ih := bitB_bit b n hn j (by omega) i
    show (if b.testBit j then bitB b n j else Dm.dropN (bitB b n j) j).testBit i = _
    by_cases hb : b.testBit j = true
    · rw [if_pos hb, ih]
      by_cases e : i = j
      · subst e
        simp [hb]
      · have : decide (j ≤ i) = decide (j + 1 ≤ i) := by rw [decide_eq_decide]; omega
        rw [this]
    · rw [if_neg hb, Dm.testBit_drop _ _ _ (Dm.lt_of_fits hn (bitB_fit b n hn j (by omega))) (by omega), ih]
      by_cases e : i = j
      · subst e
        simp [hb]
      · have : decide (j ≤ i) = decide (j + 1 ≤ i) := by rw [decide_eq_decide]; omega
        rw [this]
        simp [e]
theorem bitB_mem (b n : Nat) (hn : n ≤ 32) : mem n (bitB b n n) = bitL b n := by
  unfold mem bitL
  apply List.filter_congr
  intro i hi
  have hi' : i < n := by simpa using hi
  rw [bitB_bit b n hn n (Nat.le_refl _) i]
  simp [hi']
  omega
end Go.Proofs.YtamodeglpkgiaaaDoor
