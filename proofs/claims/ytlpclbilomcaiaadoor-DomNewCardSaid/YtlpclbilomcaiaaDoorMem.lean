/- The members of a set in order: the first, the last, the next one (no statement of its own). -/
import Derived.Test.YtlpclbilomcaiaaDoorEq
namespace Go.Proofs.YtlpclbilomcaiaaDoor
open Go.RowKit
set_option linter.unusedVariables false
def headI : List Nat → Int
  | [] => -1
  | x :: _ => x
theorem firstI_head (k B : Nat) : firstI k B = headI (mem k B) := by
  unfold firstI mem
  rw [← List.head?_filter]
  cases (List.range k).filter fun v => B.testBit v <;> rfl
theorem mem_lt (k B : Nat) : (mem k B).Pairwise (· < ·) := List.Pairwise.filter _ List.pairwise_lt_range
theorem mem_above {k B n : Nat} (hk : k ≤ 32) (hB : B < 2 ^ k) (hn : n ≤ 32) : mem k (aboveN B n) = (mem k B).filter (fun x => decide (n ≤ x)) := by
  unfold mem
  rw [List.filter_filter]
  apply List.filter_congr
  intro i _
  rw [testBit_above _ _ _ (lt_of_fits hk hB) hn, Bool.and_comm]
theorem mem_split {k B x : Nat} {pre rest : List Nat} (hk : k ≤ 32) (hB : B < 2 ^ k) (h : mem k B = pre ++ x :: rest) : mem k (aboveN B (x + 1)) = rest := by
  have hx : x < k := by
    have : x ∈ mem k B := by rw [h]; simp
    exact (mem_mem.1 this).1
  rw [mem_above hk hB (by omega), h]
  have hp := mem_lt k B
  rw [h, List.pairwise_append] at hp
  obtain ⟨_, h2, h3⟩ := hp
  rw [List.pairwise_cons] at h2
  rw [List.filter_append, List.filter_cons, if_neg (by simp)]
  rw [List.filter_eq_nil_iff.2 (fun a ha => by have := h3 a ha x (by simp); simp; omega)]
  rw [List.filter_eq_self.2 (fun a ha => by have := h2.1 a ha; simp; omega)]
  rfl
theorem mem_len {k B : Nat} (hk : k ≤ 32) : (mem k B).length ≤ 32 := by
  have := List.length_filter_le (fun v => B.testBit v) (List.range k)
  unfold mem
  simp only [List.length_range] at this
  omega
theorem nextI_low (k B : Nat) (v : Int) (hv : v < 0) : nextI (mem k B) v = firstI k B := by
  rw [firstI_head]
  unfold nextI
  cases h : mem k B with
  | nil => rfl
  | cons x r =>
    rw [List.find?_cons_of_pos (by simp; omega)]
    rfl
theorem nextI_high (k B : Nat) (v : Int) (hv : (k : Int) ≤ v) : nextI (mem k B) v = -1 := by
  unfold nextI
  rw [List.find?_eq_none.2]
  intro x hx
  have := (mem_mem.1 hx).1
  simp
  omega
theorem nextI_mid {k B v : Nat} (hk : k ≤ 32) (hB : B < 2 ^ k) (hv : v < k) : nextI (mem k B) (v : Int) = firstI k (aboveN B (v + 1)) := by
  rw [firstI_head, mem_above hk hB (by omega)]
  unfold nextI
  have e : (mem k B).find? (fun y : Nat => decide ((v : Int) < (y : Int))) = ((mem k B).filter (fun x => decide (v + 1 ≤ x))).head? := by
    rw [List.head?_filter]
    congr 1
    funext y
    simp only [decide_eq_decide]
    omega
  rw [e]
  cases (mem k B).filter (fun x => decide (v + 1 ≤ x)) <;> rfl
def lastL (l : List Nat) : Int := if l = [] then -1 else ((l.getD (l.length - 1) 0 : Nat) : Int)
theorem range_split (k t : Nat) (h : t < k) : List.range k = List.range t ++ t :: (List.range (k - t - 1)).map (t + 1 + ·) := by
  have h1 : k = (t + 1) + (k - t - 1) := by omega
  have h2 : List.range k = List.range (t + 1) ++ (List.range (k - t - 1)).map (t + 1 + ·) := by
    conv => lhs; rw [h1]
    rw [List.range_add]
  rw [h2, List.range_succ, List.append_assoc]
  rfl
theorem last_mem {k B : Nat} (hB : B < 2 ^ k) : lastI B = lastL (mem k B) := by
  unfold lastI
  by_cases h0 : B = 0
  · subst h0
    have : mem k 0 = [] := by
      unfold mem
      rw [List.filter_eq_nil_iff]
      intro a _
      simp
    rw [this]
    rfl
  · have h1 := bitLen_spec B
    obtain ⟨t, ht⟩ : ∃ t, bitLen B = t + 1 := by
      unfold bitLen
      rw [if_neg h0]
      exact ⟨_, rfl⟩
    rw [ht] at h1
    have hlo := h1.2 h0
    rw [Nat.add_sub_cancel] at hlo
    have hbit : B.testBit t = true := Nat.testBit_of_two_pow_le_and_two_pow_add_one_gt hlo h1.1
    have htk : t < k := by
      rcases Nat.lt_or_ge t k with h | h
      · exact h
      · rw [testBit_far hB h] at hbit
        cases hbit
    have e : mem k B = mem t B ++ [t] := by
      unfold mem
      rw [range_split k t htk, List.filter_append, List.filter_cons, if_pos hbit]
      have hnil : ((List.range (k - t - 1)).map (t + 1 + ·)).filter (fun v => B.testBit v) = [] := by
        rw [List.filter_eq_nil_iff]
        intro a ha
        simp only [List.mem_map] at ha
        obtain ⟨i, _, rfl⟩ := ha
        rw [testBit_far h1.1 (by omega)]
        simp
      rw [hnil]
    rw [e]
    unfold lastL
    rw [if_neg (by simp), ht]
    have : (mem t B ++ [t]).getD ((mem t B ++ [t]).length - 1) 0 = t := by
      rw [getD_get (by simp)]
      simp
    rw [this]
    omega
end Go.Proofs.YtlpclbilomcaiaaDoor
