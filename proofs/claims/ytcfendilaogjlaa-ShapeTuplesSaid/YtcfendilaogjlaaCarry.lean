/- From one tuple to the next (no statement of its own). -/
import Derived.Test.YtcfendilaogjlaaShL
namespace Go.Proofs.Ytcfendilaogjlaa
set_option linter.unusedVariables false
/-- A tuple with noughts from a place on. -/
def zb (t : List Nat) (m : Nat) : List Nat := (List.range t.length).map fun q => if q < m then nth t q else 0
theorem zb_len (t : List Nat) (m : Nat) : (zb t m).length = t.length := by simp [zb]
theorem nth_zb (t : List Nat) (m q : Nat) (hq : q < t.length) : nth (zb t m) q = if q < m then nth t q else 0 := by
  unfold zb
  rw [show nth ((List.range t.length).map fun q => if q < m then nth t q else 0) q = ((List.range t.length).map fun q => if q < m then nth t q else 0).getD q 0 from rfl]
  rw [List.getD_eq_getElem?_getD, List.getElem?_map, List.getElem?_range hq]
  rfl
theorem zb_all (t : List Nat) : zb t t.length = t := nth_eq (zb_len _ _) fun i hi => by
  rw [zb_len] at hi
  rw [nth_zb _ _ _ hi, if_pos hi]
theorem zb_set (t : List Nat) (m : Nat) (hm : m < t.length) : (zb t (m + 1)).set m 0 = zb t m := by
  refine nth_eq (by simp [zb_len]) fun i hi => ?_
  rw [List.length_set, zb_len] at hi
  rw [nth_set _ _ _ _ (by rw [zb_len]; exact hm), nth_zb _ _ _ hi, nth_zb _ _ _ hi]
  by_cases e : i = m
  · subst e
    rw [if_pos rfl, if_neg (by omega)]
  · rw [if_neg e]
    by_cases h : i < m
    · rw [if_pos (by omega), if_pos h]
    · rw [if_neg (by omega), if_neg h]
theorem from_max {l t : List Nat} (hl : t.length = l.length) (hp : ∀ n ∈ l, 1 ≤ n) (m : Nat) (hm : m ≤ l.length) (h : ∀ q, m ≤ q → q < l.length → nth t q + 1 = nth l q) : numFrom l t m + 1 = prodL (l.drop m) := by
  have key : ∀ d m, m + d = l.length → (∀ q, m ≤ q → q < l.length → nth t q + 1 = nth l q) → numFrom l t m + 1 = prodL (l.drop m) := by
    intro d
    induction d with
    | zero =>
      intro m e _
      have hm : m = l.length := by omega
      subst hm
      simp [numFrom, numL, prodL]
    | succ d ih =>
      intro m e h
      have hml : m < l.length := by omega
      have h1 := ih (m + 1) (by omega) (fun q a b => h q (by omega) b)
      have h2 := h m (Nat.le_refl _) hml
      rw [numFrom_step hl hml, prodL_drop l m hml, ← h2, Nat.add_mul, Nat.one_mul]
      omega
  exact key (l.length - m) m (by omega) h
theorem numTo_zb {l t : List Nat} (hl : t.length = l.length) (m : Nat) (hm : m ≤ l.length) (k : Nat) (hk : k ≤ m) : numTo l (zb t m) k = numTo l t k := by
  induction k with
  | zero => simp [numTo, numL]
  | succ k ih =>
    rw [numTo_succ (by rw [zb_len, hl]) (by omega), numTo_succ hl (by omega), ih (by omega), nth_zb _ _ _ (by omega), if_pos (by omega)]
theorem num_split {l t : List Nat} (hl : t.length = l.length) (p : Nat) (hp : p ≤ l.length) : numL l t = numTo l t p * prodL (l.drop p) + numFrom l t p := by
  have h := numL_append (l := l.take p) (t := t.take p) (l2 := l.drop p) (t2 := t.drop p) (by simp; omega)
  rw [List.take_append_drop, List.take_append_drop] at h
  exact h
theorem from_nought {l t : List Nat} (hl : t.length = l.length) (m : Nat) (hm : m ≤ l.length) (h : ∀ q, m ≤ q → q < l.length → nth t q = 0) : numFrom l t m = 0 := by
  have key : ∀ d m, m + d = l.length → (∀ q, m ≤ q → q < l.length → nth t q = 0) → numFrom l t m = 0 := by
    intro d
    induction d with
    | zero =>
      intro m e _
      have hm : m = l.length := by omega
      subst hm
      simp [numFrom, numL]
    | succ d ih =>
      intro m e h
      have hml : m < l.length := by omega
      rw [numFrom_step hl hml, ih (m + 1) (by omega) (fun q a b => h q (by omega) b), h m (Nat.le_refl _) hml]
      simp
  exact key (l.length - m) m (by omega) h
/-- The next tuple: the last place that is not at its greatest grows by one, and all behind it are noughts. -/
theorem carry {l : List Nat} {i p : Nat} (hp : ∀ n ∈ l, 1 ≤ n) (hi : i + 1 < prodL l) (hpl : p < l.length) (hlt : nth (tupL l i) p + 1 < nth l p)
    (h : ∀ q, p + 1 ≤ q → q < l.length → nth (tupL l i) q + 1 = nth l q) : (zb (tupL l i) (p + 1)).set p (nth (tupL l i) p + 1) = tupL l (i + 1) := by
  have hl := tupL_length l i
  have hin := tupL_in hp (l := l) i
  have hnum : numL l (tupL l i) = i := num_tup (by omega)
  generalize tupL l i = t at *
  have hz : (zb t (p + 1)).length = l.length := by rw [zb_len, hl]
  have hu : ((zb t (p + 1)).set p (nth t p + 1)).length = l.length := by rw [List.length_set, hz]
  have hn : ∀ q, q < l.length → nth ((zb t (p + 1)).set p (nth t p + 1)) q = if q = p then nth t p + 1 else if q < p then nth t q else 0 := by
    intro q hq
    rw [nth_set _ _ _ _ (by omega), nth_zb _ _ _ (by omega)]
    by_cases e : q = p
    · rw [if_pos e, if_pos e]
    · rw [if_neg e, if_neg e]
      by_cases hqp : q < p
      · rw [if_pos (by omega), if_pos hqp]
      · rw [if_neg (by omega), if_neg hqp]
  generalize hU : (zb t (p + 1)).set p (nth t p + 1) = u at *
  have huin : InL l u := inL_iff.2 ⟨hu, fun q hq => by
    have h1 := (inL_iff.1 hin).2 q hq
    have h2 := hp _ (nth_mem hq)
    rw [hn q hq]
    split
    · rename_i e; subst e; exact hlt
    · split <;> omega⟩
  have hto : ∀ k, k ≤ p → numTo l u k = numTo l t k := by
    intro k hk
    induction k with
    | zero => simp [numTo, numL]
    | succ k ih => rw [numTo_succ hu (by omega), numTo_succ hl (by omega), ih (by omega), hn k (by omega), if_neg (by omega), if_pos (by omega)]
  have hto1 : numTo l u (p + 1) = numTo l t (p + 1) + 1 := by
    rw [numTo_succ hu hpl, numTo_succ hl hpl, hto p (Nat.le_refl _), hn p hpl, if_pos rfl]
    omega
  have hf := from_max hl hp (p + 1) (by omega) h
  have hf0 : numFrom l u (p + 1) = 0 := from_nought hu (p + 1) (by omega) (fun q a b => by rw [hn q b, if_neg (by omega), if_neg (by omega)])
  have e1 := num_split hl (p + 1) (by omega)
  have e2 := num_split hu (p + 1) (by omega)
  rw [hto1, hf0, Nat.add_mul, Nat.one_mul] at e2
  have : numL l u = i + 1 := by omega
  rw [← this, huin.tup]
theorem last_max {l : List Nat} {i : Nat} (hp : ∀ n ∈ l, 1 ≤ n) (hi : i < prodL l) (h : ∀ q, q < l.length → nth (tupL l i) q + 1 = nth l q) : i + 1 = prodL l := by
  have h1 := from_max (tupL_length l i) hp 0 (Nat.zero_le _) (fun q _ hq => h q hq)
  have h2 : numFrom l (tupL l i) 0 = i := by unfold numFrom; rw [List.drop_zero, List.drop_zero]; exact num_tup hi
  rw [List.drop_zero] at h1
  omega
theorem max_last {l : List Nat} (hp : ∀ n ∈ l, 1 ≤ n) {q : Nat} (hq : q < l.length) : nth (tupL l (prodL l - 1)) q + 1 = nth l q := by
  have hpos := prodL_pos hp
  have hin := tupL_in hp (l := l) (prodL l - 1)
  have h1 := (inL_iff.1 hin).2 q hq
  rcases Nat.lt_or_ge (nth (tupL l (prodL l - 1)) q + 1) (nth l q) with hlt | hge
  · have hs := numL_set (tupL_length l (prodL l - 1)) hq (nth (tupL l (prodL l - 1)) q + 1)
    have hu : InL l ((tupL l (prodL l - 1)).set q (nth (tupL l (prodL l - 1)) q + 1)) := inL_iff.2 ⟨by rw [List.length_set, tupL_length], fun p hpl => by
      rw [nth_set _ _ _ _ (by rw [tupL_length]; exact hq)]
      split
      · rename_i e; subst e; exact hlt
      · exact (inL_iff.1 hin).2 p hpl⟩
    have h2 := hu.num_lt
    rw [num_tup (by omega)] at hs
    have h3 := prodL_pos (l := l.drop (q + 1)) (fun n hn => hp n (List.mem_of_mem_drop hn))
    rw [Nat.add_mul] at hs
    omega
  · omega
end Go.Proofs.Ytcfendilaogjlaa
