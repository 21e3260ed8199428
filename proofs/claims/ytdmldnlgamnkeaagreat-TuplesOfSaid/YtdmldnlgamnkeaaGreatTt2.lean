/- Plain mathematics of TableTurns: places in another order (no statement of its own). No condition. -/
import Derived.Test.YtdmldnlgamnkeaaGreatTbM
namespace Go.Proofs.YtdmldnlgamnkeaaGreat
open Go.RowKit
set_option linter.unusedVariables false
/-- The values of some places. -/
def pickL (t s : List Nat) : List Nat := s.map (nth t)
theorem pickL_len (t s : List Nat) : (pickL t s).length = s.length := by simp [pickL]
theorem nth_map {s : List Nat} {f : Nat → Nat} {i : Nat} (h : i < s.length) : nth (s.map f) i = f (nth s i) := by
  simp [nth, List.getD_eq_getElem?_getD, h]
theorem pickL_nth {t s : List Nat} {i : Nat} (h : i < s.length) : nth (pickL t s) i = nth t (nth s i) := nth_map h
theorem nth_range {n i : Nat} {f : Nat → Nat} (h : i < n) : nth ((List.range n).map f) i = f i := by
  simp [nth, List.getD_eq_getElem?_getD, h]
/-- Where a number stands among the first j, the last of several; below 0: nowhere. -/
def invF (o : Nat → Int) : Nat → Nat → Int
  | 0, _ => -1
  | j + 1, v => if o j = (v : Int) then (j : Int) else invF o j v
theorem invF_neg (o : Nat → Int) (v : Nat) : ∀ j, (∀ i, i < j → o i ≠ (v : Int)) → invF o j v = -1
  | 0, _ => rfl
  | j + 1, h => by
    show (if o j = (v : Int) then (j : Int) else invF o j v) = -1
    rw [if_neg (h j (by omega))]
    exact invF_neg o v j fun i hi => h i (by omega)
theorem invF_ge (o : Nat → Int) (v : Nat) : ∀ j, -1 ≤ invF o j v
  | 0 => by show (-1 : Int) ≤ -1; omega
  | j + 1 => by
    have ih := invF_ge o v j
    show -1 ≤ (if o j = (v : Int) then (j : Int) else invF o j v)
    split <;> omega
theorem invF_lt (o : Nat → Int) (v : Nat) : ∀ j, invF o j v < j
  | 0 => by show (-1 : Int) < 0; omega
  | j + 1 => by
    have ih := invF_lt o v j
    show (if o j = (v : Int) then (j : Int) else invF o j v) < ((j + 1 : Nat) : Int)
    split <;> omega
theorem invF_some {o : Nat → Int} {v : Nat} : ∀ {j : Nat}, 0 ≤ invF o j v → ∃ i, i < j ∧ o i = (v : Int)
  | 0, h => by have h : (0 : Int) ≤ -1 := h; omega
  | j + 1, h => by
    by_cases e : o j = (v : Int)
    · exact ⟨j, by omega, e⟩
    · have h : 0 ≤ (if o j = (v : Int) then (j : Int) else invF o j v) := h
      rw [if_neg e] at h
      obtain ⟨i, hi, hv⟩ := invF_some h
      exact ⟨i, by omega, hv⟩
theorem invF_pos {o : Nat → Int} {v i : Nat} : ∀ {j : Nat}, i < j → o i = (v : Int) → 0 ≤ invF o j v
  | 0, h, _ => by omega
  | j + 1, h, hv => by
    show 0 ≤ (if o j = (v : Int) then (j : Int) else invF o j v)
    by_cases e : o j = (v : Int)
    · rw [if_pos e]; omega
    · rw [if_neg e]
      have : i ≠ j := fun h' => e (by rw [← h']; exact hv)
      exact invF_pos (by omega) hv
/-- An order of places: each is one, and none comes twice. -/
def OrdB (o : Nat → Int) (N j : Nat) : Prop := ∀ i, i < j → 0 ≤ o i ∧ o i < (N : Int) ∧ ∀ i', i' < i → o i' ≠ o i
theorem ordB_inv {o : Nat → Int} {N j i : Nat} (h : OrdB o N j) (hi : i < j) : invF o j (o i).toNat = (i : Int) := by
  induction j with
  | zero => omega
  | succ j ih =>
    have hi0 := (h i hi).1
    show (if o j = ((o i).toNat : Int) then (j : Int) else invF o j (o i).toNat) = i
    rw [Int.toNat_of_nonneg hi0]
    by_cases e : i = j
    · subst e; rw [if_pos rfl]
    · rw [if_neg (fun e' => (h j (by omega)).2.2 i (by omega) e'.symm)]
      exact ih (fun k hk => h k (by omega)) (by omega)
/-- Each place comes, if there are at most three. -/
theorem ordB_all {o : Nat → Int} {N : Nat} (hN : N ≤ 3) (h : OrdB o N N) {v : Nat} (hv : v < N) : ∃ i, i < N ∧ o i = (v : Int) := by
  rcases (by omega : N = 0 ∨ N = 1 ∨ N = 2 ∨ N = 3) with rfl | rfl | rfl | rfl
  · omega
  · have h0 := h 0 (by omega)
    exact ⟨0, by omega, by omega⟩
  · have h0 := h 0 (by omega)
    have h1 := h 1 (by omega)
    have d := h1.2.2 0 (by omega)
    by_cases e0 : o 0 = (v : Int)
    · exact ⟨0, by omega, e0⟩
    · exact ⟨1, by omega, by omega⟩
  · have h0 := h 0 (by omega)
    have h1 := h 1 (by omega)
    have h2 := h 2 (by omega)
    have d1 := h1.2.2 0 (by omega)
    have d2 := h2.2.2 0 (by omega)
    have d3 := h2.2.2 1 (by omega)
    by_cases e0 : o 0 = (v : Int)
    · exact ⟨0, by omega, e0⟩
    · by_cases e1 : o 1 = (v : Int)
      · exact ⟨1, by omega, e1⟩
      · exact ⟨2, by omega, by omega⟩
/-- Two orders that undo each other. -/
structure PermL (N : Nat) (s r : List Nat) : Prop where
  ls : s.length = N
  lr : r.length = N
  bs : ∀ i, i < N → nth s i < N
  br : ∀ i, i < N → nth r i < N
  sr : ∀ i, i < N → nth s (nth r i) = i
  rs : ∀ i, i < N → nth r (nth s i) = i
theorem PermL.symm {N : Nat} {s r : List Nat} (h : PermL N s r) : PermL N r s := ⟨h.lr, h.ls, h.br, h.bs, h.rs, h.sr⟩
theorem permL_of {o : Nat → Int} {N : Nat} (hN : N ≤ 3) (h : OrdB o N N) : PermL N ((List.range N).map fun i => (o i).toNat) ((List.range N).map fun v => (invF o N v).toNat) := by
  have key : ∀ v, v < N → ∃ i, i < N ∧ o i = (v : Int) ∧ invF o N v = (i : Int) := fun v hv => by
    obtain ⟨i, hi, he⟩ := ordB_all hN h hv
    have := ordB_inv h hi
    rw [he] at this
    exact ⟨i, hi, he, by simpa using this⟩
  refine ⟨by simp, by simp, fun i hi => ?_, fun v hv => ?_, fun v hv => ?_, fun i hi => ?_⟩
  · rw [nth_range hi]; have := h i hi; omega
  · rw [nth_range hv]; obtain ⟨i, hi, _, e⟩ := key v hv; omega
  · obtain ⟨i, hi, ho, e⟩ := key v hv
    rw [nth_range (f := fun v => (invF o N v).toNat) hv]
    have e' : (invF o N v).toNat = i := by omega
    rw [e', nth_range hi]
    omega
  · have hb := h i hi
    rw [nth_range (f := fun i => (o i).toNat) hi, nth_range (by omega), ordB_inv h hi]
    omega
theorem PermL.lens {N : Nat} {s r : List Nat} (h : PermL N s r) : s.length = N := h.ls
theorem PermL.pick2 {N : Nat} {s r t : List Nat} (h : PermL N s r) (ht : t.length = N) : pickL (pickL t s) r = t := by
  apply nth_eq (by rw [pickL_len, h.lr, ht])
  intro i hi
  rw [pickL_len, h.lr] at hi
  rw [pickL_nth (by rw [h.lr]; exact hi), pickL_nth (by rw [h.ls]; exact h.br i hi), h.sr i hi]
theorem inL_pick {l t s : List Nat} (h : InL l t) (hs : ∀ i, i < s.length → nth s i < l.length) : InL (pickL l s) (pickL t s) := by
  rw [inL_iff] at h ⊢
  refine ⟨by rw [pickL_len, pickL_len], fun p hp => ?_⟩
  rw [pickL_len] at hp
  rw [pickL_nth hp, pickL_nth hp]
  exact h.2 _ (hs p hp)
theorem pickL_mem {l s : List Nat} {x : Nat} (hs : ∀ i, i < s.length → nth s i < l.length) (hx : x ∈ pickL l s) : x ∈ l := by
  simp only [pickL, List.mem_map] at hx
  obtain ⟨a, ha, rfl⟩ := hx
  obtain ⟨i, hi, rfl⟩ := List.getElem_of_mem ha
  have := hs i hi
  rw [show nth s i = s[i] by simp [nth, List.getD_eq_getElem?_getD, hi]] at this
  exact nth_mem this
/-- The costs of a turned table. -/
def turnZ (l : List Nat) (z : Nat → Int) (s r : List Nat) (i : Nat) : Int := z (numL l (pickL (tupL (pickL l s) i) r))
theorem turn_in {l s r : List Nat} {N i : Nat} (h : PermL N s r) (hl : l.length = N) (h1 : ∀ n ∈ l, 1 ≤ n) : InL l (pickL (tupL (pickL l s) i) r) := by
  have hs : ∀ i, i < s.length → nth s i < l.length := fun i hi => by rw [hl]; exact h.bs i (by rw [← h.ls]; exact hi)
  have h2 : InL (pickL l s) (tupL (pickL l s) i) := tupL_in (fun n hn => h1 n (pickL_mem hs hn)) i
  have h3 := inL_pick (s := r) h2 (fun i hi => by rw [pickL_len, h.ls]; exact h.br i (by rw [← h.lr]; exact hi))
  rw [h.pick2 hl] at h3
  exact h3
theorem turn_back {l s r : List Nat} {N i : Nat} {z : Nat → Int} (h : PermL N s r) (hl : l.length = N) (h1 : ∀ n ∈ l, 1 ≤ n) (hi : i < prodL l) : turnZ (pickL l s) (turnZ l z s r) r s i = z i := by
  unfold turnZ
  rw [h.pick2 hl]
  have hs : ∀ i, i < s.length → nth s i < l.length := fun i hi => by rw [hl]; exact h.bs i (by rw [← h.ls]; exact hi)
  have hin := inL_pick (s := s) (tupL_in h1 i) hs
  rw [hin.tup, h.pick2 (by rw [tupL_length]; exact hl), num_tup hi]
theorem turn_prod {l s r : List Nat} {N : Nat} (h : PermL N s r) (hl : l.length = N) (hN : N ≤ 3) (h4 : ∀ n ∈ l, n ≤ 4) : prodL (pickL l s) ≤ 64 := by
  have h1 : prodL (pickL l s) ≤ 4 ^ (pickL l s).length := prodL_le fun n hn => h4 n (pickL_mem (fun i hi => by rw [hl]; exact h.bs i (by rw [← h.ls]; exact hi)) hn)
  rw [pickL_len, h.ls] at h1
  have h2 : 4 ^ N ≤ 4 ^ 3 := Nat.pow_le_pow_right (by omega) hN
  omega
end Go.Proofs.YtdmldnlgamnkeaaGreat
