/- Numbers for the sets of layer 2 (no statement of its own): a set of at most 32 values as the bits of a number, its members in order, and what or, and, and-not do to them. -/
import Derived.Laws.BitsAllLaws
import Derived.Laws.BitsLemmas
namespace Go.Proofs.YtlpclbilomcaiaaDoor
open Go
set_option linter.unusedVariables false
def mem (k B : Nat) : List Nat := (List.range k).filter fun v => B.testBit v
def dropN (B v : Nat) : Nat := B &&& (4294967295 - 2 ^ v)
def putN (B v : Nat) : Nat := B ||| 2 ^ v
def aboveN (B n : Nat) : Nat := B &&& (4294967295 - (2 ^ n - 1))
theorem pow_lt (v : Nat) (h : v < 32) : 2 ^ v < 4294967296 := by
  have := Nat.pow_lt_pow_right (a := 2) (by omega) h
  simpa using this
theorem pow_le (v : Nat) (h : v ≤ 32) : 2 ^ v ≤ 4294967296 := by
  have := Nat.pow_le_pow_right (n := 2) (by omega) h
  simpa using this
theorem lt_of_fits {k B : Nat} (hk : k ≤ 32) (hB : B < 2 ^ k) : B < 4294967296 := Nat.lt_of_lt_of_le hB (pow_le k hk)
theorem testBit_not (m i : Nat) (h : m < 4294967296) : (4294967295 - m).testBit i = (decide (i < 32) && !m.testBit i) := by
  have := Nat.testBit_two_pow_sub_succ (n := 32) (x := m) (by simpa using h) i
  rw [← this]
  have e : (2 : Nat) ^ 32 = 4294967296 := by decide
  rw [e]
  congr 1
  omega
theorem testBit_drop (B v i : Nat) (hB : B < 4294967296) (hv : v < 32) : (dropN B v).testBit i = (B.testBit i && decide (i ≠ v)) := by
  unfold dropN
  rw [Nat.testBit_and, testBit_not _ _ (pow_lt v hv), Nat.testBit_two_pow]
  by_cases hi : i < 32
  · by_cases e : v = i <;> simp [hi, e] <;> omega
  · have : B.testBit i = false := Nat.testBit_lt_two_pow (Nat.lt_of_lt_of_le hB (by
      have := Nat.pow_le_pow_right (n := 2) (by omega) (show 32 ≤ i by omega)
      simpa using this))
    simp [this]
theorem testBit_put (B v i : Nat) : (putN B v).testBit i = (B.testBit i || decide (i = v)) := by
  unfold putN
  rw [Nat.testBit_or, Nat.testBit_two_pow]
  congr 1
  simp only [decide_eq_decide]
  omega
theorem testBit_above (B n i : Nat) (hB : B < 4294967296) (hn : n ≤ 32) : (aboveN B n).testBit i = (B.testBit i && decide (n ≤ i)) := by
  unfold aboveN
  have h1 : 2 ^ n - 1 < 4294967296 := by have := pow_le n hn; have := Nat.pos_of_ne_zero (Nat.ne_of_gt (Nat.two_pow_pos n)); omega
  rw [Nat.testBit_and, testBit_not _ _ h1, Nat.testBit_two_pow_sub_one]
  by_cases hi : i < 32
  · by_cases e : i < n <;> simp [hi, e] <;> omega
  · have : B.testBit i = false := Nat.testBit_lt_two_pow (Nat.lt_of_lt_of_le hB (by
      have := Nat.pow_le_pow_right (n := 2) (by omega) (show 32 ≤ i by omega)
      simpa using this))
    simp [this]
theorem fits_of_testBit {k B : Nat} (h : ∀ i, k ≤ i → B.testBit i = false) : B < 2 ^ k := Nat.lt_pow_two_of_testBit B h
theorem testBit_far {k B : Nat} (hB : B < 2 ^ k) {i : Nat} (hi : k ≤ i) : B.testBit i = false :=
  Nat.testBit_lt_two_pow (Nat.lt_of_lt_of_le hB (Nat.pow_le_pow_right (by omega) hi))
theorem drop_fits {k B v : Nat} (hk : k ≤ 32) (hB : B < 2 ^ k) (hv : v < k) : dropN B v < 2 ^ k :=
  fits_of_testBit fun i hi => by rw [testBit_drop _ _ _ (lt_of_fits hk hB) (by omega), testBit_far hB hi]; rfl
theorem put_fits {k B v : Nat} (hB : B < 2 ^ k) (hv : v < k) : putN B v < 2 ^ k :=
  fits_of_testBit fun i hi => by rw [testBit_put, testBit_far hB hi]; simp; omega
theorem above_fits {k B n : Nat} (hk : k ≤ 32) (hB : B < 2 ^ k) (hn : n ≤ 32) : aboveN B n < 2 ^ k :=
  fits_of_testBit fun i hi => by rw [testBit_above _ _ _ (lt_of_fits hk hB) hn, testBit_far hB hi]; rfl
theorem and_fits {k B C : Nat} (hB : B < 2 ^ k) : B &&& C < 2 ^ k :=
  fits_of_testBit fun i hi => by rw [Nat.testBit_and, testBit_far hB hi]; rfl
theorem bit_fits {k v : Nat} (hv : v < k) : 2 ^ v < 2 ^ k := Nat.pow_lt_pow_right (by omega) hv
/-! the walk's own words for them -/
theorem bits_or (B v : Nat) (hB : B < 4294967296) (hv : v < 32) : bits .or .u32 (B : Int) ((2 ^ v : Nat) : Int) = (putN B v : Int) := u32_or_nat B (2 ^ v) hB (pow_lt v hv)
theorem bits_drop (B v : Nat) (hB : B < 4294967296) (hv : v < 32) : bits .andNot .u32 (B : Int) ((2 ^ v : Nat) : Int) = (dropN B v : Int) := u32_andNot_nat B (2 ^ v) hB (pow_lt v hv)
theorem bits_above (B n : Nat) (hB : B < 4294967296) (hn : n ≤ 32) : bits .andNot .u32 (B : Int) ((2 ^ n - 1 : Nat) : Int) = (aboveN B n : Int) :=
  u32_andNot_nat B (2 ^ n - 1) hB (by have := pow_le n hn; have := Nat.two_pow_pos n; omega)
theorem bits_and (B C : Nat) (hB : B < 4294967296) (hC : C < 4294967296) : bits .and .u32 (B : Int) (C : Int) = ((B &&& C : Nat) : Int) := u32_and_nat B C hB hC
theorem and_bit_no (B v : Nat) (h : B.testBit v = false) : B &&& 2 ^ v = 0 := by
  apply Nat.eq_of_testBit_eq
  intro i
  rw [Nat.testBit_and, Nat.testBit_two_pow, Nat.zero_testBit]
  by_cases e : v = i
  · subst e; simp [h]
  · simp [e]
theorem and_bit_yes (B v : Nat) (h : B.testBit v = true) : B &&& 2 ^ v = 2 ^ v := by
  apply Nat.eq_of_testBit_eq
  intro i
  rw [Nat.testBit_and, Nat.testBit_two_pow]
  by_cases e : v = i
  · subst e; simp [h]
  · simp [e]
theorem bits_test (B v : Nat) (hB : B < 4294967296) (hv : v < 32) : (bits .and .u32 (B : Int) ((2 ^ v : Nat) : Int) != 0) = B.testBit v := by
  rw [bits_and B _ hB (pow_lt v hv)]
  cases h : B.testBit v
  · rw [and_bit_no B v h]; rfl
  · rw [and_bit_yes B v h, bne_iff_ne]
    have := Nat.two_pow_pos v
    omega
/-! members -/
theorem mem_drop {k B v : Nat} (hk : k ≤ 32) (hB : B < 2 ^ k) (hv : v < k) : mem k (dropN B v) = (mem k B).filter (fun x => decide (x ≠ v)) := by
  unfold mem
  rw [List.filter_filter]
  apply List.filter_congr
  intro i _
  rw [testBit_drop _ _ _ (lt_of_fits hk hB) (by omega), Bool.and_comm]
theorem mem_put {k B v : Nat} : mem k (putN B v) = (List.range k).filter (fun x => B.testBit x || decide (x = v)) := by
  unfold mem
  apply List.filter_congr
  intro i _
  rw [testBit_put]
theorem mem_and {k B C : Nat} : mem k (B &&& C) = (mem k B).filter (fun x => C.testBit x) := by
  unfold mem
  rw [List.filter_filter]
  apply List.filter_congr
  intro i _
  rw [Nat.testBit_and, Bool.and_comm]
theorem mem_mem {k B v : Nat} : v ∈ mem k B ↔ v < k ∧ B.testBit v = true := by simp [mem]
theorem mem_inj {k B C : Nat} (hB : B < 2 ^ k) (hC : C < 2 ^ k) (h : mem k B = mem k C) : B = C := by
  apply Nat.eq_of_testBit_eq
  intro i
  by_cases hi : i < k
  · have : i ∈ mem k B ↔ i ∈ mem k C := by rw [h]
    rw [mem_mem, mem_mem] at this
    have h2 : B.testBit i = true ↔ C.testBit i = true := ⟨fun a => (this.1 ⟨hi, a⟩).2, fun a => (this.2 ⟨hi, a⟩).2⟩
    exact Bool.eq_iff_iff.2 h2
  · rw [testBit_far hB (by omega), testBit_far hC (by omega)]
end Go.Proofs.YtlpclbilomcaiaaDoor
