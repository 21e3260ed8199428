/- Contracts of dom's Put, Drop, Only and Next for any value, and facts of lists of values (no statement of its own). -/
import Derived.Test.YtlpclbilomcaiaaDoorLike
namespace Go.Proofs.YtlpclbilomcaiaaDoor
open Go.RowKit
set_option linter.unusedVariables false
def putI (k B : Nat) (v : Int) : Nat := if 0 ≤ v ∧ v < (k : Int) then putN B v.toNat else B
def dropI (k B : Nat) (v : Int) : Nat := if 0 ≤ v ∧ v < (k : Int) then dropN B v.toNat else B
def onlyI (k B : Nat) (v : Int) : Nat := if hasB k B v = true then 2 ^ v.toNat else 0
theorem putI_fits {k B : Nat} (v : Int) (hB : B < 2 ^ k) : putI k B v < 2 ^ k := by
  unfold putI
  split
  · exact put_fits hB (by omega)
  · exact hB
theorem dropI_fits {k B : Nat} (v : Int) (hk : k ≤ 32) (hB : B < 2 ^ k) : dropI k B v < 2 ^ k := by
  unfold dropI
  split
  · exact drop_fits hk hB (by omega)
  · exact hB
theorem onlyI_fits {k B : Nat} (v : Int) : onlyI k B v < 2 ^ k := by
  unfold onlyI
  split
  · rename_i h
    unfold hasB at h
    simp only [Bool.and_eq_true, decide_eq_true_eq] at h
    exact bit_fits (by omega)
  · exact Nat.two_pow_pos k
theorem put_any (k B : Nat) (v : Int) (w : World) (hk : k ≤ 32) (hB : B < 2 ^ k) :
    Calls Tryd.prog 10 #[setV k B, .int .i64 v] w fun e w' => e = .returned (setV k (putI k B v)) ∧ Below w.heap.size w w' := by
  unfold putI
  split
  · rename_i h
    obtain ⟨n, rfl⟩ : ∃ n : Nat, v = n := ⟨v.toNat, by omega⟩
    exact put_yes k B n w (by omega) hk hB
  · exact put_no k B v w (by omega)
theorem drop_any (k B : Nat) (v : Int) (w : World) (hk : k ≤ 32) (hB : B < 2 ^ k) :
    Calls Tryd.prog 12 #[setV k B, .int .i64 v] w fun e w' => e = .returned (setV k (dropI k B v)) ∧ Below w.heap.size w w' := by
  unfold dropI
  split
  · rename_i h
    obtain ⟨n, rfl⟩ : ∃ n : Nat, v = n := ⟨v.toNat, by omega⟩
    exact drop_yes k B n w (by omega) hk hB
  · exact drop_no k B v w (by omega)
theorem only_any (k B : Nat) (v : Int) (w : World) (hk : k ≤ 32) (hB : B < 2 ^ k) :
    Calls Tryd.prog 18 #[setV k B, .int .i64 v] w fun e w' => e = .returned (setV k (onlyI k B v)) ∧ Below w.heap.size w w' := by
  unfold onlyI
  by_cases h : 0 ≤ v ∧ v < (k : Int)
  · obtain ⟨n, rfl⟩ : ∃ n : Nat, v = n := ⟨v.toNat, by omega⟩
    rw [hasB_yes (by omega)]
    exact only_yes k B n w (by omega) hk hB
  · rw [hasB_no (by omega), if_neg (by simp)]
    exact only_no k B v w (by omega)
theorem next_any (k B : Nat) (v : Int) (w : World) (hw : Tab w) (hk : k ≤ 32) (hB : B < 2 ^ k) :
    Calls Tryd.prog 16 #[setV k B, .int .i64 v] w fun e w' => e = .returned (.int .i64 (nextI (mem k B) v)) ∧ Below w.heap.size w w' := by
  by_cases h : v < 0
  · rw [nextI_low k B v h]
    exact next_low k B v w hw hk hB h
  · by_cases h2 : (k : Int) ≤ v
    · rw [nextI_high k B v h2]
      exact next_high k B v w h2
    · obtain ⟨n, rfl⟩ : ∃ n : Nat, v = n := ⟨v.toNat, by omega⟩
      rw [nextI_mid hk hB (by omega)]
      exact next_mid k B n w hw hk hB (by omega)
theorem mem_putI {k B v : Nat} (hv : v < k) : mem k (putI k B (v : Int)) = (List.range k).filter (putB (mem k B) v) := by
  unfold putI
  rw [if_pos (by omega), Int.toNat_natCast, mem_put]
  apply List.filter_congr
  intro y hy
  have : y < k := by simpa using hy
  unfold putB
  rw [memI_mem, hasB_yes this]
theorem mem_dropI {k B : Nat} (v : Int) (hk : k ≤ 32) (hB : B < 2 ^ k) : mem k (dropI k B v) = (mem k B).filter (neB v) := by
  unfold dropI
  split
  · rename_i h
    obtain ⟨n, rfl⟩ : ∃ n : Nat, v = n := ⟨v.toNat, by omega⟩
    rw [Int.toNat_natCast, mem_drop hk hB (by omega)]
    apply List.filter_congr
    intro y hy
    unfold neB
    simp only [decide_eq_decide]
    omega
  · rename_i h
    symm
    rw [List.filter_eq_self]
    intro y hy
    have := (mem_mem.1 hy).1
    unfold neB
    simp only [decide_eq_true_eq]
    omega
theorem mem_pow {k v : Nat} (hv : v < k) : mem k (2 ^ v) = [v] := by
  unfold mem
  rw [range_split k v hv, List.filter_append, List.filter_cons, if_pos (by simp)]
  have h1 : (List.range v).filter (fun i => (2 ^ v).testBit i) = [] := by
    rw [List.filter_eq_nil_iff]
    intro y hy
    have : y < v := by simpa using hy
    rw [Nat.testBit_two_pow]
    simp; omega
  have h2 : ((List.range (k - v - 1)).map (v + 1 + ·)).filter (fun i => (2 ^ v).testBit i) = [] := by
    rw [List.filter_eq_nil_iff]
    intro y hy
    obtain ⟨x, _, rfl⟩ := List.mem_map.1 hy
    rw [Nat.testBit_two_pow]
    simp; omega
  rw [h1, h2]
  rfl
theorem mem_zero (k : Nat) : mem k 0 = [] := by
  unfold mem
  rw [List.filter_eq_nil_iff]
  simp
theorem mem_only_no {k B : Nat} {v : Int} (h : hasB k B v = false) : mem k (onlyI k B v) = [] := by
  unfold onlyI
  rw [h, if_neg (by simp), mem_zero]
theorem mem_only_yes {k B : Nat} {v : Int} (h : hasB k B v = true) : mem k (onlyI k B v) = [v.toNat] ∧ 0 ≤ v := by
  unfold onlyI
  rw [if_pos h]
  unfold hasB at h
  simp only [Bool.and_eq_true, decide_eq_true_eq] at h
  exact ⟨mem_pow (by omega), h.1⟩
/-- The list of a row that does not lie in block S. -/
def RowN (wr : World) (S : Nat) (A : Option Addr) (l : List Nat) : Prop :=
  l = [] ∨ ∃ g, A = some ⟨g, 0, none⟩ ∧ g ≠ S ∧ g < wr.heap.size ∧ ∀ i, i < l.length → wr.cell? ⟨g, i, none⟩ = some (.int .i64 ((l.getD i 0 : Nat) : Int))
theorem RowN.lst {wr : World} {S : Nat} {A : Option Addr} {l : List Nat} (h : RowN wr S A l) : Lst wr A l := by
  rcases h with h | ⟨g, h1, h2, h3, h4⟩
  · exact .inl h
  · exact .inr ⟨g, h1, h3, h4⟩
theorem RowN.below {w w' : World} {S B : Nat} {A : Option Addr} {l : List Nat} (h : RowN w S A l) (hb : Below B w w') (hB : w.heap.size ≤ B) : RowN w' S A l := by
  rcases h with h | ⟨g, h1, h2, h3, h4⟩
  · exact .inl h
  · exact .inr ⟨g, h1, h2, by have := hb.size; omega, fun i hi => (hb.cell (p := ⟨g, i, none⟩) (by show g < B; omega)).trans (h4 i hi)⟩
theorem RowN.set {w : World} {S : Nat} {A : Option Addr} {l : List Nat} (h : RowN w S A l) (o : Nat) (u : Value) : RowN (w.setCell ⟨S, o, none⟩ u) S A l := by
  rcases h with h | ⟨g, h1, h2, h3, h4⟩
  · exact .inl h
  · refine .inr ⟨g, h1, h2, by simp [World.setCell]; omega, fun i hi => ?_⟩
    rw [World.cell?_setCell_other _ _ _ _ (by intro e; injection e; omega)]
    exact h4 i hi
theorem RowN.of_lst {w : World} {S : Nat} {A : Option Addr} {l : List Nat} (h : Lst w A l) (hS : w.heap.size ≤ S) : RowN w S A l := by
  rcases h with h | ⟨g, h1, h2, h3⟩
  · exact .inl h
  · exact .inr ⟨g, h1, by omega, h2, h3⟩
theorem RowN.of_own {w : World} {S base : Nat} {v : Value} {l : List Nat} (h : Own w base v l) (hS : S < base) : ∃ A c, v = .slice A l.length c ∧ RowN w S A l := by
  obtain ⟨A, c, rfl, hL⟩ := h.form
  refine ⟨A, c, rfl, ?_⟩
  rcases hL with hL | ⟨g, rfl, h2, h3⟩
  · exact .inl hL
  · obtain ⟨_, ⟨e, hn⟩ | ⟨g', cap, cur, e, hb', hh, hm, hx, hs, ht⟩⟩ := h
    · cases e
    · injection e with e1
      injection e1 with e1
      injection e1 with e1
      exact .inr ⟨g, rfl, by omega, h2, h3⟩
end Go.Proofs.YtlpclbilomcaiaaDoor
