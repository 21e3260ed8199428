/- Tuples of sizes and their numbers, as lists of numbers (no statement of its own). -/
import Derived.Below
namespace Go.Proofs.YtdmldnlgamnkeaaGreat
set_option linter.unusedVariables false
/-- The number at a place (none: 0). -/
def nth (l : List Nat) (i : Nat) : Nat := l.getD i 0
def prodL : List Nat → Nat
  | [] => 1
  | n :: r => n * prodL r
def numL : List Nat → List Nat → Nat
  | _ :: r, v :: t => v * prodL r + numL r t
  | _, _ => 0
def tupL : List Nat → Nat → List Nat
  | [], _ => []
  | n :: r, i => (i / prodL r % n) :: tupL r i
def allL : List Nat → List (List Nat)
  | [] => [[]]
  | n :: r => (List.range n).flatMap fun v => (allL r).map (v :: ·)
/-- A tuple of these sizes. -/
def InL : List Nat → List Nat → Prop
  | [], [] => True
  | n :: r, v :: t => v < n ∧ InL r t
  | _, _ => False
theorem prodL_pos {l : List Nat} (h : ∀ n ∈ l, 1 ≤ n) : 1 ≤ prodL l := by
  induction l with
  | nil => exact Nat.le_refl _
  | cons n r ih =>
    have h1 := h n (by simp)
    have h2 := ih fun m hm => h m (by simp [hm])
    exact Nat.mul_le_mul h1 h2
theorem prodL_append (l m : List Nat) : prodL (l ++ m) = prodL l * prodL m := by
  induction l with
  | nil => simp [prodL]
  | cons n r ih => simp [prodL, ih, Nat.mul_assoc]
theorem prodL_le {l : List Nat} {c : Nat} (h : ∀ n ∈ l, n ≤ c) : prodL l ≤ c ^ l.length := by
  induction l with
  | nil => simp [prodL]
  | cons n r ih =>
    have h1 := h n (by simp)
    have h2 := ih fun m hm => h m (by simp [hm])
    show n * prodL r ≤ c ^ (r.length + 1)
    rw [Nat.pow_succ, Nat.mul_comm]
    exact Nat.mul_le_mul h2 h1
theorem tupL_length (l : List Nat) (i : Nat) : (tupL l i).length = l.length := by
  induction l with
  | nil => rfl
  | cons n r ih => simp [tupL, ih]
theorem tupL_mod (l : List Nat) (i : Nat) : tupL l (i % prodL l) = tupL l i := by
  induction l generalizing i with
  | nil => rfl
  | cons n r ih =>
    show (i % (n * prodL r) / prodL r % n) :: tupL r (i % (n * prodL r)) = (i / prodL r % n) :: tupL r i
    congr 1
    · rw [Nat.mul_comm n, Nat.mod_mul_right_div_self, Nat.mod_mod]
    · rw [← ih (i % (n * prodL r)), Nat.mul_comm n, Nat.mod_mul_right_mod, ih]
theorem tupL_cons {n : Nat} {r : List Nat} {v j : Nat} (hv : v < n) (hj : j < prodL r) : tupL (n :: r) (v * prodL r + j) = v :: tupL r j := by
  have hp : 0 < prodL r := by omega
  show ((v * prodL r + j) / prodL r % n) :: tupL r (v * prodL r + j) = v :: tupL r j
  congr 1
  · rw [Nat.mul_comm, Nat.mul_add_div hp, Nat.div_eq_of_lt hj, Nat.add_zero, Nat.mod_eq_of_lt hv]
  · rw [← tupL_mod r (v * prodL r + j), Nat.add_comm, Nat.add_mul_mod_self_right, Nat.mod_eq_of_lt hj]
theorem range_mul (n p : Nat) {α : Type} (f : Nat → α) : (List.range (n * p)).map f = (List.range n).flatMap fun v => (List.range p).map fun j => f (v * p + j) := by
  induction n with
  | zero => simp
  | succ n ih =>
    rw [Nat.succ_mul, List.range_add, List.map_append, ih, List.range_succ, List.flatMap_append]
    simp
theorem allL_eq (l : List Nat) : allL l = (List.range (prodL l)).map (tupL l) := by
  induction l with
  | nil => rfl
  | cons n r ih =>
    show (List.range n).flatMap (fun v => (allL r).map (v :: ·)) = (List.range (n * prodL r)).map (tupL (n :: r))
    rw [range_mul, ih]
    have e : ∀ l : List Nat, (∀ v ∈ l, v < n) → l.flatMap (fun v => ((List.range (prodL r)).map (tupL r)).map (v :: ·)) = l.flatMap fun v => (List.range (prodL r)).map fun j => tupL (n :: r) (v * prodL r + j) := by
      intro l hl
      induction l with
      | nil => rfl
      | cons v q ihq =>
        rw [List.flatMap_cons, List.flatMap_cons, ihq fun x hx => hl x (by simp [hx]), List.map_map]
        congr 1
        apply List.map_congr_left
        intro j hj
        exact (tupL_cons (hl v (by simp)) (by simpa using hj)).symm
    exact e _ fun v hv => by simpa using hv
theorem allL_length (l : List Nat) : (allL l).length = prodL l := by rw [allL_eq]; simp
theorem allL_get (l : List Nat) {i : Nat} (h : i < prodL l) : (allL l).getD i [] = tupL l i := by
  rw [allL_eq, List.getD_eq_getElem?_getD, List.getElem?_map, List.getElem?_range h]
  rfl
theorem InL.length {l t : List Nat} (h : InL l t) : t.length = l.length := by
  induction l generalizing t with
  | nil => cases t with
    | nil => rfl
    | cons => exact h.elim
  | cons n r ih => cases t with
    | nil => exact h.elim
    | cons v t => simp [ih h.2]
theorem InL.num_lt {l t : List Nat} (h : InL l t) : numL l t < prodL l := by
  induction l generalizing t with
  | nil => cases t with
    | nil => exact Nat.zero_lt_one
    | cons => exact h.elim
  | cons n r ih => cases t with
    | nil => exact h.elim
    | cons v t =>
      have h1 := ih h.2
      have h2 : (v + 1) * prodL r ≤ n * prodL r := Nat.mul_le_mul_right _ h.1
      show v * prodL r + numL r t < n * prodL r
      rw [Nat.succ_mul] at h2
      omega
theorem InL.tup {l t : List Nat} (h : InL l t) : tupL l (numL l t) = t := by
  induction l generalizing t with
  | nil => cases t with
    | nil => rfl
    | cons => exact h.elim
  | cons n r ih => cases t with
    | nil => exact h.elim
    | cons v t =>
      show tupL (n :: r) (v * prodL r + numL r t) = v :: t
      rw [tupL_cons h.1 h.2.num_lt, ih h.2]
theorem tupL_in {l : List Nat} (h : ∀ n ∈ l, 1 ≤ n) (i : Nat) : InL l (tupL l i) := by
  induction l with
  | nil => trivial
  | cons n r ih => exact ⟨Nat.mod_lt _ (h n (by simp)), ih fun m hm => h m (by simp [hm])⟩
theorem num_tup {l : List Nat} {i : Nat} (h : i < prodL l) : numL l (tupL l i) = i := by
  induction l generalizing i with
  | nil => exact (Nat.lt_one_iff.1 h).symm
  | cons n r ih =>
    have hp : 0 < prodL r := by
      rcases Nat.eq_zero_or_pos (prodL r) with e | e
      · simp [prodL, e] at h
      · exact e
    show (i / prodL r % n) * prodL r + numL r (tupL r i) = i
    rw [← tupL_mod r i, ih (Nat.mod_lt _ hp), Nat.mod_eq_of_lt (by rw [Nat.div_lt_iff_lt_mul hp]; exact h)]
    exact Nat.div_add_mod' _ _
theorem inL_iff {l t : List Nat} : InL l t ↔ t.length = l.length ∧ ∀ p, p < l.length → nth t p < nth l p := by
  induction l generalizing t with
  | nil => cases t with
    | nil => simp [InL]
    | cons => simp [InL]
  | cons n r ih => cases t with
    | nil => simp [InL]
    | cons v t =>
      show v < n ∧ InL r t ↔ _
      rw [ih]
      constructor
      · rintro ⟨h1, h2, h3⟩
        refine ⟨by simp [h2], fun p hp => ?_⟩
        cases p with
        | zero => exact h1
        | succ p => exact h3 p (by simpa using hp)
      · rintro ⟨h1, h2⟩
        exact ⟨h2 0 (by simp), by simpa using h1, fun p hp => h2 (p + 1) (by simpa using hp)⟩
/-- The number that p places of a tuple come to. -/
def numTo (l t : List Nat) (p : Nat) : Nat := numL (l.take p) (t.take p)
theorem numL_append {l t l2 t2 : List Nat} (h : t.length = l.length) : numL (l ++ l2) (t ++ t2) = numL l t * prodL l2 + numL l2 t2 := by
  induction l generalizing t with
  | nil => cases t with
    | nil => simp [numL]
    | cons => simp at h
  | cons n r ih => cases t with
    | nil => simp at h
    | cons v t =>
      have := ih (t := t) (by simpa using h)
      show v * prodL (r ++ l2) + numL (r ++ l2) (t ++ t2) = (v * prodL r + numL r t) * prodL l2 + numL l2 t2
      rw [this, prodL_append, Nat.add_mul, Nat.mul_assoc, Nat.add_assoc]
theorem numTo_succ {l t : List Nat} (h : t.length = l.length) {p : Nat} (hp : p < l.length) : numTo l t (p + 1) = numTo l t p * nth l p + nth t p := by
  unfold numTo
  rw [List.take_succ_eq_append_getElem hp, List.take_succ_eq_append_getElem (l := t) (by omega), numL_append (by simp; omega)]
  simp [nth, numL, prodL, List.getD_eq_getElem?_getD, List.getElem?_eq_getElem hp, List.getElem?_eq_getElem (show p < t.length by omega)]
theorem numTo_all {l t : List Nat} (h : t.length = l.length) : numTo l t l.length = numL l t := by
  unfold numTo
  rw [List.take_length, ← h, List.take_length]
/-- The digit at a place. -/
theorem tupL_getD (l : List Nat) (i p : Nat) (hp : p < l.length) : nth (tupL l i) p = i / prodL (l.drop (p + 1)) % nth l p := by
  induction l generalizing p with
  | nil => simp at hp
  | cons n r ih =>
    cases p with
    | zero => rfl
    | succ p => exact ih p (by simpa using hp)
theorem prodL_drop (l : List Nat) (p : Nat) (hp : p < l.length) : prodL (l.drop p) = nth l p * prodL (l.drop (p + 1)) := by
  rw [List.drop_eq_getElem_cons hp]
  simp [nth, prodL, List.getD_eq_getElem?_getD, List.getElem?_eq_getElem hp]
/-- A tuple's number, when one place is one more. -/
theorem numL_set {l t : List Nat} (h : t.length = l.length) {p : Nat} (hp : p < l.length) (v : Nat) : numL l (t.set p v) + nth t p * prodL (l.drop (p + 1)) = numL l t + v * prodL (l.drop (p + 1)) := by
  induction l generalizing t p with
  | nil => simp at hp
  | cons n r ih => cases t with
    | nil => simp at h
    | cons x t =>
      cases p with
      | zero =>
        show v * prodL r + numL r t + x * prodL r = x * prodL r + numL r t + v * prodL r
        omega
      | succ p =>
        have := ih (t := t) (by simpa using h) (p := p) (by simpa using hp)
        show x * prodL r + numL r (t.set p v) + nth t p * prodL (r.drop (p + 1)) = x * prodL r + numL r t + v * prodL (r.drop (p + 1))
        omega
theorem prod_take (l : List Nat) {j : Nat} (h : j < l.length) : prodL (l.take (j + 1)) = prodL (l.take j) * nth l j := by
  rw [List.take_succ_eq_append_getElem h, prodL_append]
  simp [nth, prodL, List.getD_eq_getElem?_getD, List.getElem?_eq_getElem h]
theorem nth_mem {l : List Nat} {i : Nat} (h : i < l.length) : nth l i ∈ l := by
  unfold nth
  rw [List.getD_eq_getElem?_getD, List.getElem?_eq_getElem h]
  exact List.getElem_mem h
theorem nth_far {l : List Nat} {i : Nat} (h : l.length ≤ i) : nth l i = 0 := by
  unfold nth
  rw [List.getD_eq_getElem?_getD, List.getElem?_eq_none h]
  rfl
theorem nth_le {l : List Nat} {c : Nat} (h : ∀ n ∈ l, n ≤ c) (i : Nat) : nth l i ≤ c := by
  rcases Nat.lt_or_ge i l.length with hi | hi
  · exact h _ (nth_mem hi)
  · rw [nth_far hi]
    exact Nat.zero_le _
theorem nth_pos {l : List Nat} (h : ∀ n ∈ l, 1 ≤ n) {i : Nat} (hi : i < l.length) : 1 ≤ nth l i := h _ (nth_mem hi)
theorem nth_eq {l m : List Nat} (hl : l.length = m.length) (h : ∀ i, i < l.length → nth l i = nth m i) : l = m := by
  apply List.ext_getElem hl
  intro i h1 h2
  have := h i h1
  unfold nth at this
  simpa [List.getD_eq_getElem?_getD, List.getElem?_eq_getElem h1, List.getElem?_eq_getElem h2] using this
theorem nth_drop (l : List Nat) (k i : Nat) : nth (l.drop k) i = nth l (k + i) := by
  unfold nth
  simp [List.getD_eq_getElem?_getD]
theorem take_le {l : List Nat} (h6 : l.length ≤ 6) (h32 : ∀ n ∈ l, n ≤ 32) (j : Nat) : prodL (l.take j) ≤ 1073741824 := by
  have h1 : prodL (l.take j) ≤ 32 ^ (l.take j).length := prodL_le fun n hn => h32 n (List.mem_of_mem_take hn)
  have h2 : 32 ^ (l.take j).length ≤ 32 ^ 6 := Nat.pow_le_pow_right (by omega) (by rw [List.length_take]; omega)
  have h3 : (32 : Nat) ^ 6 = 1073741824 := by decide
  omega
end Go.Proofs.YtdmldnlgamnkeaaGreat
