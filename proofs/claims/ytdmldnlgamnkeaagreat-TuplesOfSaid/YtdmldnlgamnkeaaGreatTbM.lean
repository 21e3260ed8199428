/- The least over some values, and tuples with one place more, as lists of numbers (no statement of its own). -/
import Derived.Test.YtdmldnlgamnkeaaGreatTup
namespace Go.Proofs.YtdmldnlgamnkeaaGreat
set_option linter.unusedVariables false
def lstep (f : Nat → Int) (a : Int × Int) (v : Nat) : Int × Int := if a.2 < 0 ∨ f v < a.1 then (f v, (v : Int)) else a
/-- The least of f over some values, k if there is none; and the first that has it, -1 if there is none. -/
def leastL (f : Nat → Int) (k : Int) (vs : List Nat) : Int × Int := vs.foldl (lstep f) (k, -1)
theorem leastL_snoc (f : Nat → Int) (k : Int) (vs : List Nat) (v : Nat) : leastL f k (vs ++ [v]) = lstep f (leastL f k vs) v := by simp [leastL]
theorem leastL_congr {f g : Nat → Int} {k : Int} {vs : List Nat} (h : ∀ v ∈ vs, f v = g v) : leastL f k vs = leastL g k vs := by
  unfold leastL
  generalize (k, (-1 : Int)) = a
  induction vs generalizing a with
  | nil => rfl
  | cons v r ih =>
    have e : lstep f a v = lstep g a v := by unfold lstep; rw [h v (by simp)]
    rw [List.foldl_cons, List.foldl_cons, e]
    exact ih (fun x hx => h x (by simp [hx])) _
/-- What the fold keeps. -/
theorem leastL_spec (f : Nat → Int) (k : Int) (vs : List Nat) : (vs = [] ∧ leastL f k vs = (k, -1)) ∨
    (∃ v ∈ vs, leastL f k vs = (f v, (v : Int)) ∧ ∀ x ∈ vs, f v ≤ f x) := by
  have h : ∀ m, ∀ vs : List Nat, vs.length = m → (vs = [] ∧ leastL f k vs = (k, -1)) ∨ (∃ v ∈ vs, leastL f k vs = (f v, (v : Int)) ∧ ∀ x ∈ vs, f v ≤ f x) := by
    intro m
    induction m with
    | zero =>
      intro vs h
      obtain rfl := List.eq_nil_of_length_eq_zero h
      exact .inl ⟨rfl, rfl⟩
    | succ m ih =>
      intro vs h
      have hne : vs ≠ [] := by intro e; subst e; simp at h
      have e := (List.dropLast_concat_getLast hne).symm
      have hl : vs.dropLast.length = m := by simp [h]
      generalize vs.dropLast = r at e hl
      generalize vs.getLast hne = y at e
      subst e
      refine .inr ?_
      rw [leastL_snoc]
      rcases ih r hl with ⟨rfl, e⟩ | ⟨v, hv, e, hx⟩
      · rw [e]
        refine ⟨y, by simp, by simp [lstep], fun x hx => ?_⟩
        simp at hx
        subst hx
        exact Int.le_refl _
      · rw [e]
        unfold lstep
        by_cases c : f y < f v
        · rw [if_pos (.inr c)]
          refine ⟨y, by simp, rfl, fun x hx' => ?_⟩
          rcases List.mem_append.1 hx' with h | h
          · have := hx x h; omega
          · simp at h; subst h; exact Int.le_refl _
        · rw [if_neg (by simp; omega)]
          refine ⟨v, by simp [hv], rfl, fun x hx' => ?_⟩
          rcases List.mem_append.1 hx' with h | h
          · exact hx x h
          · simp at h; subst h; omega
  exact h vs.length vs rfl
theorem leastL_in {f : Nat → Int} {k : Int} {vs : List Nat} (h0 : 0 ≤ k) (h : ∀ v ∈ vs, 0 ≤ f v ∧ f v ≤ k) : 0 ≤ (leastL f k vs).1 ∧ (leastL f k vs).1 ≤ k := by
  rcases leastL_spec f k vs with ⟨_, e⟩ | ⟨v, hv, e, _⟩
  · rw [e]; exact ⟨h0, Int.le_refl _⟩
  · rw [e]; exact h v hv
/-- One place more. -/
def insL (t : List Nat) (p v : Nat) : List Nat := t.take p ++ v :: t.drop p
theorem insL_length (t : List Nat) (p v : Nat) (h : p ≤ t.length) : (insL t p v).length = t.length + 1 := by simp [insL]; omega
theorem insL_in : ∀ {l t : List Nat} {p v : Nat}, InL (l.eraseIdx p) t → p < l.length → v < nth l p → InL l (insL t p v)
  | n :: l, t, 0, v, h, _, hv => ⟨hv, by simpa [insL] using h⟩
  | n :: l, [], p + 1, v, h, hp, hv => by simp [InL] at h
  | n :: l, x :: t, p + 1, v, h, hp, hv => by
    have h' : x < n ∧ InL (l.eraseIdx p) t := h
    exact ⟨h'.1, insL_in (l := l) h'.2 (by simpa using hp) hv⟩
theorem insL_num : ∀ {l t : List Nat} {p : Nat}, t.length + 1 = l.length → p < l.length → ∀ v, numL l (insL t p v) = numL l (insL t p 0) + v * prodL (l.drop (p + 1))
  | n :: l, t, 0, h, _, v => by
    show v * prodL l + numL l (t.drop 0) = 0 * prodL l + numL l (t.drop 0) + v * prodL l
    omega
  | n :: l, [], p + 1, h, hp, v => by simp at h; rw [← List.length_eq_zero_iff] at h; simp at hp; omega
  | n :: l, x :: t, p + 1, h, hp, v => by
    have := insL_num (l := l) (t := t) (p := p) (by simpa using h) (by simpa using hp) v
    show x * prodL l + numL l (insL t p v) = x * prodL l + numL l (insL t p 0) + v * prodL (l.drop (p + 1))
    omega
theorem nth_zero (n : Nat) (l : List Nat) : nth (n :: l) 0 = n := rfl
theorem nth_next (n : Nat) (l : List Nat) (i : Nat) : nth (n :: l) (i + 1) = nth l i := rfl
theorem prodL_erase : ∀ {l : List Nat} {p : Nat}, p < l.length → prodL l = nth l p * prodL (l.eraseIdx p)
  | n :: l, 0, _ => rfl
  | n :: l, p + 1, h => by
    have := prodL_erase (l := l) (p := p) (by simpa using h)
    show n * prodL l = nth l p * (n * prodL (l.eraseIdx p))
    rw [this, Nat.mul_left_comm]
theorem erase_le {l : List Nat} {q : Nat → Prop} (h : ∀ n ∈ l, q n) (p : Nat) : ∀ n ∈ l.eraseIdx p, q n := fun n hn => h n (List.mem_of_mem_eraseIdx hn)
theorem erase_len {l : List Nat} {p : Nat} (h : p < l.length) : (l.eraseIdx p).length + 1 = l.length := by rw [List.length_eraseIdx, if_pos h]; omega
/-- A table without a place: its costs, and who has them. -/
def outL (l : List Nat) (z : Nat → Int) (k : Int) (p : Nat) (vs : List Nat) (i : Nat) : Int × Int :=
  leastL (fun v => z (numL l (insL (tupL (l.eraseIdx p) i) p 0) + v * prodL (l.drop (p + 1)))) k vs
end Go.Proofs.YtdmldnlgamnkeaaGreat
