/- What a trail brings back: the maths (no statement of its own). -/
import Derived.Test.YtafcecacldafgaaTrU
namespace Go.Proofs.Ytafcecacldafgaa
open Go.RowKit
set_option linter.unusedVariables false
/-- What a cell was, by what is kept: the first that is kept of it, or what it is. -/
def orig : List Tri → Nat → Cl → Cl
  | [], _, c => c
  | k :: l, i, c => if k.2.2 = (i : Int) then (k.1, k.2.1) else orig l i c
def HasAt (l : List Tri) (i : Nat) : Prop := ∃ k ∈ l, k.2.2 = (i : Int)
theorem orig_append (l r : List Tri) (i : Nat) (c : Cl) : orig (l ++ r) i c = orig l i (orig r i c) := by
  induction l with
  | nil => rfl
  | cons k l ih => simp only [List.cons_append, orig, ih]
theorem orig_has {l : List Tri} {i : Nat} (h : HasAt l i) (c d : Cl) : orig l i c = orig l i d := by
  induction l with
  | nil => obtain ⟨k, hk, _⟩ := h; cases hk
  | cons k l ih =>
    by_cases e : k.2.2 = (i : Int)
    · simp [orig, e]
    · simp only [orig, if_neg e]
      obtain ⟨q, hq, hi⟩ := h
      rcases List.mem_cons.1 hq with rfl | hq
      · exact absurd hi e
      · exact ih ⟨q, hq, hi⟩
theorem orig_not {l : List Tri} {i : Nat} (h : ¬ HasAt l i) (c : Cl) : orig l i c = c := by
  induction l with
  | nil => rfl
  | cons k l ih =>
    have e : k.2.2 ≠ (i : Int) := fun e => h ⟨k, List.mem_cons_self, e⟩
    simp only [orig, if_neg e]
    exact ih fun ⟨q, hq, hi⟩ => h ⟨q, List.mem_cons_of_mem _ hq, hi⟩
theorem nth2_lt {l : List Cl} {i : Nat} (h : i < l.length) : nth2 l i = l[i] := by unfold nth2; rw [List.getD_eq_getElem?_getD, List.getElem?_eq_getElem h]; rfl
theorem nth2_ge {l : List Cl} {i : Nat} (h : l.length ≤ i) : nth2 l i = (0, 0) := by unfold nth2; rw [List.getD_eq_getElem?_getD, List.getElem?_eq_none h]; rfl
theorem pad_nth (l : List Cl) (n i : Nat) : nth2 (padTo l n) i = nth2 l i := by
  by_cases h : i < l.length
  · rw [nth2_lt (by rw [padTo_len]; omega), nth2_lt h]
    simp [padTo, List.getElem_append_left h]
  · rw [nth2_ge (l := l) (by omega)]
    by_cases h2 : i < (padTo l n).length
    · rw [nth2_lt h2]
      have h3 : i - l.length < (List.replicate (n - l.length) ((0, 0) : Cl)).length := by rw [padTo_len] at h2; simp; omega
      simp only [padTo]
      rw [List.getElem_append_right (by omega)]
      simp
    · exact nth2_ge (by omega)
theorem put_cell (T : Tr) (i j : Nat) (c : Cl) : (T.put i c).cell j = if j = i then c else T.cell j := by
  unfold Tr.cell Tr.put
  dsimp only
  by_cases e : j = i
  · subst e
    rw [if_pos rfl, nth2_lt (by rw [List.length_set, padTo_len]; omega)]
    simp
  · rw [if_neg e]
    rw [← pad_nth T.fs (i + 1) j]
    unfold nth2
    simp only [List.getD_eq_getElem?_getD, List.getElem?_set, if_neg (Ne.symm e)]
theorem putK_cell (T : Tr) (k : Tri) (h : 0 ≤ k.2.2) (j : Nat) : (T.putK k).cell j = if k.2.2 = (j : Int) then (k.1, k.2.1) else T.cell j := by
  unfold Tr.putK
  rw [put_cell]
  by_cases e : k.2.2 = (j : Int)
  · rw [if_pos e, if_pos (by omega)]
  · rw [if_neg e, if_neg (by omega)]
theorem back_cell (T : Tr) (l : List Tri) (h : ∀ k ∈ l, 0 ≤ k.2.2) (j : Nat) : (T.back l).cell j = orig l j (T.cell j) := by
  induction l with
  | nil => rfl
  | cons k l ih =>
    show ((T.back l).putK k).cell j = _
    rw [putK_cell _ _ (h k List.mem_cons_self), ih fun q hq => h q (List.mem_cons_of_mem _ hq)]
    rfl
theorem put_len (T : Tr) (i : Nat) (c : Cl) : (T.put i c).fs.length = max T.fs.length (i + 1) := by simp [Tr.put, padTo_len]
theorem put_mem {T : Tr} {i : Nat} {c x : Cl} (h : x ∈ (T.put i c).fs) : x = c ∨ x = (0, 0) ∨ x ∈ T.fs := by
  have h' : x ∈ (padTo T.fs (i + 1)).set i c := h
  rcases List.mem_or_eq_of_mem_set h' with h | h
  · unfold padTo at h
    rcases List.mem_append.1 h with h | h
    · exact .inr (.inr h)
    · exact .inr (.inl (List.eq_of_mem_replicate h))
  · exact .inl h
theorem back_len (T : Tr) (l : List Tri) (n : Nat) (h0 : T.fs.length ≤ n) (h : ∀ k ∈ l, 0 ≤ k.2.2 ∧ k.2.2 < (n : Int)) : (T.back l).fs.length ≤ n := by
  induction l with
  | nil => exact h0
  | cons k l ih =>
    show ((T.back l).put k.2.2.toNat (k.1, k.2.1)).fs.length ≤ n
    rw [put_len]
    have := ih fun q hq => h q (List.mem_cons_of_mem _ hq)
    have := h k List.mem_cons_self
    omega
/-- The cells at each open mark. -/
structure Inv (T : Tr) (f : Nat → Cl) (S : List (List Cl)) : Prop where
  len : T.marks.length = S.length
  size : ∀ (j : Nat) (h : j < S.length), (nth3 T.marks j).2.1 = (S[j].length : Int)
  kp : ∀ j, j < S.length → 0 ≤ (nth3 T.marks j).2.2 ∧ (nth3 T.marks j).2.2 ≤ (T.kept.length : Int)
  era : ∀ (j : Nat) (h : j < S.length), ∀ c ∈ S[j], c.2 < (nth3 T.marks j).1
  was : ∀ (j : Nat) (h : j < S.length) (i : Nat) (hi : i < S[j].length), orig (T.kept.drop (nth3 T.marks j).2.2.toNat) i (f i) = S[j][i]
  mono : ∀ i j, i ≤ j → j < S.length → (nth3 T.marks i).2.1 ≤ (nth3 T.marks j).2.1 ∧ (nth3 T.marks i).2.2 ≤ (nth3 T.marks j).2.2
theorem nth3_take {l : List Tri} {m j : Nat} (h : j < m) : nth3 (l.take m) j = nth3 l j := by
  unfold nth3; rw [List.getD_eq_getElem?_getD, List.getD_eq_getElem?_getD, List.getElem?_take_of_lt h]
theorem nth3_old {l : List Tri} {y : Tri} {j : Nat} (h : j < l.length) : nth3 (l ++ [y]) j = nth3 l j := by
  unfold nth3; rw [List.getD_eq_getElem?_getD, List.getD_eq_getElem?_getD, List.getElem?_append_left h]
theorem nth3_new (l : List Tri) (y : Tri) : nth3 (l ++ [y]) l.length = y := by
  unfold nth3; rw [List.getD_eq_getElem?_getD, List.getElem?_append_right (Nat.le_refl _)]; simp
theorem HasAt.mono {l r : List Tri} {i : Nat} (h : HasAt r i) (hs : ∀ k ∈ r, k ∈ l) : HasAt l i := by obtain ⟨k, hk, e⟩ := h; exact ⟨k, hs k hk, e⟩
theorem drop_sub {l : List Tri} {a b : Nat} (h : a ≤ b) : ∀ k ∈ l.drop b, k ∈ l.drop a := fun k hk => by
  have e : l.drop b = (l.drop a).drop (b - a) := by rw [List.drop_drop]; congr 1; omega
  rw [e] at hk
  exact List.mem_of_mem_drop hk
/-- What was of a cell is kept, or isn't needed: then the cell may be anything. -/
theorem Inv.keep {T : Tr} {f f' : Nat → Cl} {S : List (List Cl)} (h : Inv T f S) (a : Nat) (hf : ∀ i, i ≠ a → f' i = f i) : Inv (T.keep ((f a).1, (f a).2, (a : Int))) f' S := by
  unfold Tr.keep
  by_cases hm : T.marks = []
  · rw [if_pos hm]
    have hS : S.length = 0 := by rw [← h.len, hm]; rfl
    exact ⟨h.len, h.size, h.kp, h.era, fun j hj => by omega, h.mono⟩
  rw [if_neg hm]
  have hS : 0 < S.length := by rw [← h.len]; exact List.length_pos_iff.2 hm
  have hl : T.last = nth3 T.marks (S.length - 1) := by unfold Tr.last; rw [h.len]
  by_cases hk : ((f a).1, (f a).2, (a : Int)).2.2 < T.last.2.1 ∧ ((f a).1, (f a).2, (a : Int)).2.1 < T.last.1
  · rw [if_pos hk]
    refine ⟨h.len, h.size, fun j hj => ?_, h.era, fun j hj i hi => ?_, h.mono⟩
    · have := h.kp j hj
      simp only [List.length_append, List.length_singleton]
      exact ⟨this.1, by omega⟩
    · have hkp := h.kp j hj
      show orig ((T.kept ++ [((f a).1, (f a).2, (a : Int))]).drop _) i (f' i) = _
      have hle : (nth3 T.marks j).2.2.toNat ≤ T.kept.length := by omega
      rw [List.drop_append_of_le_length hle, orig_append]
      by_cases e : i = a
      · subst e
        have : orig [((f i).1, (f i).2, (i : Int))] i (f' i) = f i := by simp [orig]
        rw [this]
        exact h.was j hj i hi
      · have : orig [((f a).1, (f a).2, (a : Int))] i (f' i) = f i := by
          have : ¬ ((a : Int) = (i : Int)) := by omega
          simp only [orig, if_neg this]
          exact hf i e
        rw [this]
        exact h.was j hj i hi
  · rw [if_neg hk]
    refine ⟨h.len, h.size, h.kp, h.era, fun j hj i hi => ?_, h.mono⟩
    by_cases e : i = a
    · subst e
      have hm1 := h.mono j (S.length - 1) (by omega) (by omega)
      have hs1 := h.size j hj
      have hs2 := h.size (S.length - 1) (by omega)
      have hlt : i < S[S.length - 1].length := by omega
      have he : ¬ ((f i).2 < T.last.1) := fun q => hk ⟨by rw [hl]; show (i : Int) < _; omega, q⟩
      have hwas := h.was (S.length - 1) (by omega) i hlt
      have hera := h.era (S.length - 1) (by omega) _ (List.getElem_mem hlt)
      have hhas : HasAt (T.kept.drop (nth3 T.marks (S.length - 1)).2.2.toNat) i := Classical.byContradiction fun hno => by
        rw [orig_not hno] at hwas
        rw [← hwas] at hera
        rw [hl] at he
        exact he hera
      have hhas2 : HasAt (T.kept.drop (nth3 T.marks j).2.2.toNat) i := hhas.mono (drop_sub (by omega))
      rw [orig_has hhas2 (f' i) (f i)]
      exact h.was j hj i hi
    · rw [hf i e]
      exact h.was j hj i hi
end Go.Proofs.Ytafcecacldafgaa
