/- RatioSorts: what its loops hold (no statement of its own). -/
import Derived.Test.YtfheamemoinfeaaFf
namespace Go.Proofs.Ytfheamemoinfeaa
open Go.RowKit
open RtA
set_option linter.unusedVariables false
/-- How many are none. -/
def cntN (l : List Nat) : Nat := (l.filter nan).length
theorem cntN_append (l k : List Nat) : cntN (l ++ k) = cntN l + cntN k := by unfold cntN; rw [List.filter_append, List.length_append]
theorem cntN_le (l : List Nat) : cntN l ≤ l.length := List.length_filter_le _ _
theorem cntN_one (x : Nat) : cntN [x] = if nan x = true then 1 else 0 := by
  unfold cntN; by_cases h : nan x = true <;> simp [h]
theorem kx_le_max (x : Nat) : kx x ≤ 18446744073709551616 := by
  cases h : nan x
  · rw [kx_num h]; have := key_lt x; omega
  · rw [kx_nan h]; omega
theorem nan_of_le {x y : Nat} (h : kx x ≤ kx y) (hx : nan x = true) : nan y = true := by
  cases hy : nan y
  · have := kx_big hx hy; omega
  · rfl
def Ris (l : List Nat) : Prop := l.Pairwise fun a b => kx a ≤ kx b
theorem ris_nan : ∀ {l : List Nat}, Ris l → ∀ i, i < l.length → (nan (nthF l i) = true ↔ l.length ≤ i + cntN l)
  | [], _, i, h => by simp at h
  | a :: l, hr, i, h => by
    obtain ⟨h1, h2⟩ := List.pairwise_cons.1 hr
    have ih := ris_nan (l := l) h2
    have hle := cntN_le l
    have hc : cntN (a :: l) = (if nan a = true then 1 else 0) + cntN l := by
      rw [show a :: l = [a] ++ l from rfl, cntN_append, cntN_one]
    rw [hc, List.length_cons]
    by_cases ha : nan a = true
    · have hall : cntN l = l.length := by
        unfold cntN
        rw [List.filter_eq_self.2 fun x hx => nan_of_le (h1 x hx) ha]
      rw [if_pos ha, hall]
      cases i with
      | zero => exact ⟨fun _ => by omega, fun _ => ha⟩
      | succ i => exact ⟨fun _ => by omega, fun _ => nan_of_le (h1 _ (nthF_mem (l := l) (i := i) (by simpa using h))) ha⟩
    · rw [if_neg ha]
      cases i with
      | zero => exact ⟨fun h => absurd h ha, fun h => by omega⟩
      | succ i =>
        have := ih i (by simpa using h)
        exact ⟨fun q => by have := this.1 q; omega, fun q => this.2 (by omega)⟩
theorem ris_le {l : List Nat} (h : Ris l) {i j : Nat} (hij : i < j) (hj : j < l.length) : kx (nthF l i) ≤ kx (nthF l j) := by
  have := List.pairwise_iff_getElem.1 h i j (by omega) hj hij
  rw [nthF_get l i (by omega), nthF_get l j hj] at this
  exact this
/-- Without its j-th. -/
def without (r : List Nat) (j : Nat) : List Nat := r.take j ++ r.drop (j + 1)
theorem without_split {r : List Nat} {j : Nat} (h : j < r.length) : r = r.take j ++ nthF r j :: r.drop (j + 1) := by
  have e := List.take_append_drop j r
  rw [List.drop_eq_getElem_cons h, nthF_get r j h] at e
  exact e.symm
theorem without_len {r : List Nat} {j : Nat} (h : j < r.length) : (without r j).length + 1 = r.length := by
  unfold without; simp; omega
theorem without_mem {r : List Nat} {j x : Nat} (h : j < r.length) (hx : x ∈ without r j) : x ∈ r := by
  unfold without at hx
  rcases List.mem_append.1 hx with h | h
  · exact List.mem_of_mem_take h
  · exact List.mem_of_mem_drop h
theorem without_cnt {r : List Nat} {j : Nat} (h : j < r.length) : cntN (without r j) + (if nan (nthF r j) = true then 1 else 0) = cntN r := by
  have e := congrArg cntN (without_split h)
  rw [cntN_append, show nthF r j :: r.drop (j + 1) = [nthF r j] ++ r.drop (j + 1) from rfl, cntN_append, cntN_one] at e
  unfold without
  rw [cntN_append]
  omega
/-- What is out stands in order, all that are left behind it. -/
structure SortI (l o r : List Nat) : Prop where
  ris : Ris o
  le : ∀ x ∈ o, ∀ y ∈ r, kx x ≤ kx y
  cnt : cntN o + cntN r = cntN l
  len : o.length + r.length = l.length
theorem SortI.start (l : List Nat) : SortI l [] l := ⟨List.Pairwise.nil, (fun x hx => by cases hx), by simp [cntN], by simp⟩
theorem mem_nthF {l : List Nat} {x : Nat} (h : x ∈ l) : ∃ q, q < l.length ∧ nthF l q = x := by
  obtain ⟨q, hq, e⟩ := List.mem_iff_getElem.1 h
  exact ⟨q, hq, by rw [← nthF_get l q hq]; exact e⟩
theorem SortI.next {l o r : List Nat} (h : SortI l o r) {j : Nat} (hj : j < r.length) (hm : ∀ q, q < r.length → kx (nthF r j) ≤ kx (nthF r q)) : SortI l (o ++ [nthF r j]) (without r j) := by
  have hmem := nthF_mem hj
  refine ⟨List.pairwise_append.2 ⟨h.ris, List.pairwise_singleton _ _, fun a ha b hb => ?_⟩, fun x hx y hy => ?_, ?_, ?_⟩
  · simp at hb; subst hb; exact h.le a ha _ hmem
  · have hy' := without_mem hj hy
    rcases List.mem_append.1 hx with hx | hx
    · exact h.le x hx y hy'
    · simp at hx
      subst hx
      obtain ⟨q, hq, e⟩ := mem_nthF hy'
      rw [← e]
      exact hm q hq
  · have := without_cnt hj
    have := h.cnt
    rw [cntN_append, cntN_one]
    omega
  · have := without_len hj
    have := h.len
    simp; omega
theorem OwnF.keepB {w w' : World} {B : Nat} {v : Value} {l : List Nat} (h : OwnF w B v l) (hb : ∀ g, v.ownBlock = some g → w'.heap[g]? = w.heap[g]?) : OwnF w' B v l := by
  obtain ⟨h1, ⟨rfl, hn⟩ | ⟨g, cap, cur, rfl, hb', hh, hr⟩⟩ := h
  · exact ⟨h1, .inl ⟨rfl, hn⟩⟩
  · exact ⟨h1, .inr ⟨g, cap, cur, rfl, hb', (hb g rfl).trans hh, hr⟩⟩
theorem OwnF.below {w w' : World} {B C : Nat} {v : Value} {l : List Nat} (h : OwnF w B v l) (hb : Below C w w') (hC : w.heap.size ≤ C) : OwnF w' B v l :=
  h.keepB fun g hg => hb.block g (by have := (h.lt g hg).2; omega)
theorem OwnF.less {w : World} {B B' : Nat} {v : Value} {l : List Nat} (h : OwnF w B v l) (hB : B' ≤ B) : OwnF w B' v l := by
  obtain ⟨h1, ⟨rfl, hn⟩ | ⟨g, cap, cur, rfl, hb', hh, hr⟩⟩ := h
  · exact ⟨h1, .inl ⟨rfl, hn⟩⟩
  · exact ⟨h1, .inr ⟨g, cap, cur, rfl, Nat.le_trans hB hb', hh, hr⟩⟩
theorem srcF_drop {w : World} {g c p : Nat} {r : List Nat} (h : SrcF w (some ⟨g, 0, none⟩) r) (hc : r.length ≤ c) : SrcF w (if c = p + 1 then some ⟨g, 0, none⟩ else some ⟨g, p + 1, none⟩) (r.drop (p + 1)) := by
  split
  · exact .inl (by simp; omega)
  · rcases h with rfl | ⟨ad, e, h1, h2⟩
    · exact .inl (by simp)
    · injection e with e
      subst e
      refine .inr ⟨_, rfl, h1, fun j hj => ?_⟩
      rw [List.length_drop] at hj
      have := h2 (p + 1 + j) (by omega)
      rw [add_zero_off] at this
      have e2 : (⟨g, p + 1, none⟩ : Addr).add j = ⟨g, p + 1 + j, none⟩ := by
        unfold Addr.add; split
        · rename_i h0; subst h0; rfl
        · rfl
      rw [e2, this]
      unfold nthF
      rw [List.getD_eq_getElem?_getD, List.getD_eq_getElem?_getD, List.getElem?_drop]
end Go.Proofs.Ytfheamemoinfeaa
