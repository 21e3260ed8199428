/- Heaps of items (no statement of its own). -/
import Derived.Test.YtpklbaebfeoceaaQu1
namespace Go.Proofs.Ytpklbaebfeoceaa
set_option linter.unusedVariables false
/-- Which item is more urgent. -/
def ltI (a b : It) : Bool := decide (a.2 < b.2 ∨ a.2 = b.2 ∧ a.1 < b.1)
theorem ltI_irr (a : It) : ltI a a = false := by simp [ltI]
theorem ltI_le {a b : It} (h : ltI a b = true) : ltI b a = false := by
  simp only [ltI, decide_eq_true_eq, decide_eq_false_iff_not] at h ⊢; omega
theorem leI_trans {a b c : It} (h : ltI b a = false) (k : ltI c b = false) : ltI c a = false := by
  simp only [ltI, decide_eq_false_iff_not] at h k ⊢; omega
theorem leI_anti {a b : It} (h : ltI b a = false) (k : ltI a b = false) : a = b := by
  obtain ⟨a1, a2⟩ := a
  obtain ⟨b1, b2⟩ := b
  simp only [ltI, decide_eq_false_iff_not] at h k
  have e1 : a1 = b1 := by omega
  have e2 : a2 = b2 := by omega
  rw [e1, e2]
def nth (l : List It) (i : Nat) : It := l.getD i (0, 0)
theorem nth_get (l : List It) (i : Nat) (h : i < l.length) : l[i] = nth l i := by simp [nth, List.getD, h]
theorem nth_set (l : List It) (i j : Nat) (x : It) (h : i < l.length) : nth (l.set i x) j = if j = i then x else nth l j := by
  unfold nth
  rw [List.getD_eq_getElem?_getD, List.getElem?_set, List.getD_eq_getElem?_getD]
  by_cases e : i = j
  · subst e; simp [h]
  · rw [if_neg e, if_neg (fun q => e q.symm)]
def par (i : Nat) : Nat := (i - 1) / 2
def swp (l : List It) (a b : Nat) : List It := (l.set a (nth l b)).set b (nth l a)
theorem swp_len (l : List It) (a b : Nat) : (swp l a b).length = l.length := by simp [swp]
theorem nth_swp (l : List It) (a b i : Nat) (ha : a < l.length) (hb : b < l.length) : nth (swp l a b) i = if i = b then nth l a else if i = a then nth l b else nth l i := by
  unfold swp
  rw [nth_set _ _ _ _ (by simpa using hb), nth_set _ _ _ _ ha]
def Heap (l : List It) : Prop := ∀ i, 0 < i → i < l.length → ltI (nth l i) (nth l (par i)) = false
def HeapX (l : List It) (a : Nat) : Prop :=
  (∀ i, 0 < i → i < l.length → i ≠ a → par i ≠ a → ltI (nth l i) (nth l (par i)) = false) ∧
  (0 < a → ∀ i, 0 < i → i < l.length → par i = a → ltI (nth l i) (nth l (par a)) = false)
/-- The more urgent one of the two below a place. -/
def bel (l : List It) (a : Nat) : Nat := if l.length ≤ 2 * a + 1 then a else if 2 * a + 2 < l.length ∧ ltI (nth l (2 * a + 2)) (nth l (2 * a + 1)) = true then 2 * a + 2 else 2 * a + 1
theorem bel_lt (l : List It) (a : Nat) (h : a < l.length) : bel l a < l.length := by unfold bel; split; exact h; split <;> omega
theorem bel_par (l : List It) (a : Nat) (h : bel l a ≠ a) : 0 < bel l a ∧ par (bel l a) = a ∧ a < bel l a := by
  unfold bel at h ⊢
  unfold par
  split at h
  · exact absurd rfl h
  · rename_i h1
    rw [if_neg h1]
    split <;> omega
theorem kid (i a : Nat) (hi : 0 < i) (h : par i = a) : i = 2 * a + 1 ∨ i = 2 * a + 2 := by unfold par at h; omega
/-- It is no more behind than either. -/
theorem bel_min (l : List It) (a i : Nat) (hi : 0 < i) (hl : i < l.length) (h : par i = a) : bel l a ≠ a ∧ ltI (nth l i) (nth l (bel l a)) = false := by
  have hk := kid i a hi h
  unfold bel
  have h1 : ¬ l.length ≤ 2 * a + 1 := by omega
  rw [if_neg h1]
  split
  · rename_i h2
    refine ⟨by omega, ?_⟩
    rcases hk with e | e
    · subst e; exact ltI_le h2.2
    · subst e; exact ltI_irr _
  · rename_i h2
    refine ⟨by omega, ?_⟩
    rcases hk with e | e
    · subst e; exact ltI_irr _
    · subst e
      cases hc : ltI (nth l (2 * a + 2)) (nth l (2 * a + 1)) with
      | false => rfl
      | true => exact absurd ⟨hl, hc⟩ h2
def mea (l : List It) (a : Nat) : Nat := if ltI (nth l (bel l a)) (nth l a) = true then 2 * l.length - a else a
theorem mea_no {l : List It} {a : Nat} (h : ∀ i, 0 < i → i < l.length → par i = a → ltI (nth l i) (nth l a) = false) (ha : a < l.length) : mea l a = a := by
  unfold mea
  by_cases e : bel l a = a
  · rw [e, ltI_irr]; rfl
  · obtain ⟨h1, h2, _⟩ := bel_par l a e
    rw [h _ h1 (bel_lt l a ha) h2]
    rfl
theorem up_step {l : List It} {a : Nat} (H : HeapX l a) (ha : a < l.length) (h0 : 0 < a) (hlt : ltI (nth l a) (nth l (par a)) = true) :
    HeapX (swp l a (par a)) (par a) ∧ mea (swp l a (par a)) (par a) < mea l a := by
  have hp : par a < a := by unfold par; omega
  have hpl : par a < l.length := by omega
  obtain ⟨H1, H2⟩ := H
  have N := fun i => nth_swp l a (par a) i ha hpl
  have hm : mea l a = a := mea_no (fun i hi hl hq => leI_trans (ltI_le hlt) (H2 h0 i hi hl hq)) ha
  refine ⟨⟨fun i hi hl h1 h2 => ?_, fun h3 i hi hl hq => ?_⟩, ?_⟩
  · rw [swp_len] at hl
    have hia : i ≠ a := fun e => h2 (by rw [e])
    rw [N i, N (par i), if_neg h1, if_neg hia, if_neg h2]
    by_cases e : par i = a
    · rw [if_pos e]; exact H2 h0 i hi hl e
    · rw [if_neg e]; exact H1 i hi hl hia e
  · rw [swp_len] at hl
    have hpp : par (par a) < par a := by unfold par at h3 ⊢; omega
    rw [N i, N (par (par a)), if_neg (show par (par a) ≠ par a by omega), if_neg (show par (par a) ≠ a by omega)]
    have hip : i ≠ par a := fun e => by rw [e] at hq; omega
    rw [if_neg hip]
    have hg := H1 (par a) h3 hpl (by omega) (by omega)
    by_cases e : i = a
    · rw [if_pos e]; exact hg
    · rw [if_neg e]
      refine leI_trans hg ?_
      have := H1 i hi hl e (by rw [hq]; omega)
      rw [hq] at this
      exact this
  · rw [hm]
    rw [mea_no (fun i hi hl hq => ?_) (by rw [swp_len]; exact hpl)]
    · exact hp
    · rw [swp_len] at hl
      have hip : i ≠ par a := fun e => by
        rw [e] at hq
        have : par (par a) < par a := by unfold par at *; omega
        omega
      rw [N i, N (par a), if_pos rfl, if_neg hip]
      by_cases e : i = a
      · rw [if_pos e]; exact ltI_le hlt
      · rw [if_neg e]
        refine leI_trans (ltI_le hlt) ?_
        have := H1 i hi hl e (by rw [hq]; omega)
        rw [hq] at this
        exact this
theorem down_step {l : List It} {a : Nat} (H : HeapX l a) (ha : a < l.length) (hup : 0 < a → ltI (nth l a) (nth l (par a)) = false) (hlt : ltI (nth l (bel l a)) (nth l a) = true) :
    HeapX (swp l a (bel l a)) (bel l a) ∧ mea (swp l a (bel l a)) (bel l a) < mea l a := by
  have hne : bel l a ≠ a := fun e => by rw [e, ltI_irr] at hlt; cases hlt
  obtain ⟨hc0, hcp, hac⟩ := bel_par l a hne
  have hcl := bel_lt l a ha
  have hm : mea l a = 2 * l.length - a := by unfold mea; rw [if_pos hlt]
  have hmin := fun i hi hl hq => (bel_min l a i hi hl hq).2
  generalize bel l a = c at *
  obtain ⟨H1, H2⟩ := H
  have N := fun i => nth_swp l a c i ha hcl
  refine ⟨⟨fun i hi hl h1 h2 => ?_, fun h3 i hi hl hq => ?_⟩, ?_⟩
  · rw [swp_len] at hl
    rw [N i, N (par i), if_neg h1, if_neg h2]
    by_cases e : i = a
    · have hpa : par a ≠ a := by unfold par; omega
      rw [if_pos e, e, if_neg hpa]
      exact H2 (by omega) c hc0 hcl hcp
    · rw [if_neg e]
      by_cases e2 : par i = a
      · rw [if_pos e2]; exact hmin i hi hl e2
      · rw [if_neg e2]; exact H1 i hi hl e e2
  · rw [swp_len] at hl
    have hic : i ≠ c := fun e => by rw [e] at hq; unfold par at hq; omega
    have hia : i ≠ a := fun e => by rw [e] at hq; unfold par at hq; omega
    rw [N i, N (par c), hcp, if_neg hic, if_neg hia, if_neg (show a ≠ c by omega), if_pos rfl]
    have := H1 i hi hl hia (by rw [hq]; omega)
    rw [hq] at this
    exact this
  · rw [hm]
    unfold mea
    rw [swp_len]
    split <;> omega
theorem stop_step {l : List It} {a : Nat} (H : HeapX l a) (hup : 0 < a → ltI (nth l a) (nth l (par a)) = false) (hno : ltI (nth l (bel l a)) (nth l a) = false) : Heap l := by
  intro i hi hl
  by_cases e : i = a
  · rw [e] at hi ⊢; exact hup hi
  · by_cases e2 : par i = a
    · rw [e2]; exact leI_trans hno (bel_min l a i hi hl e2).2
    · exact H.1 i hi hl e e2
/-- The first one of a heap is the most urgent. -/
theorem heap_top {l : List It} (H : Heap l) : ∀ i, i < l.length → ltI (nth l i) (nth l 0) = false := by
  intro i
  induction i using Nat.strongRecOn with
  | _ i ih =>
    intro hl
    by_cases h : i = 0
    · rw [h]; exact ltI_irr _
    · have hp : par i < i := by unfold par; omega
      exact leI_trans (ih (par i) hp (by omega)) (H i (by omega) hl)
/-- A heap in which one item was put in another's place, or behind all. -/
theorem heap_set {l : List It} (H : Heap l) (a : Nat) (x : It) (ha : a < l.length) : HeapX (l.set a x) a := by
  refine ⟨fun i hi hl h1 h2 => ?_, fun h0 i hi hl hq => ?_⟩
  · rw [List.length_set] at hl
    rw [nth_set l a i x ha, nth_set l a (par i) x ha, if_neg h1, if_neg h2]
    exact H i hi hl
  · rw [List.length_set] at hl
    have hia : i ≠ a := fun e => by rw [e] at hq; unfold par at hq; omega
    have hpa : par a ≠ a := by unfold par; omega
    rw [nth_set l a i x ha, nth_set l a (par a) x ha, if_neg hia, if_neg hpa]
    have h1 := H i hi hl
    rw [hq] at h1
    exact leI_trans (H a h0 ha) h1
theorem nth_append (l k : List It) (i : Nat) (h : i < l.length) : nth (l ++ k) i = nth l i := by
  unfold nth
  rw [List.getD_eq_getElem?_getD, List.getD_eq_getElem?_getD, List.getElem?_append_left h]
theorem heap_push {l : List It} (H : Heap l) (x : It) : HeapX (l ++ [x]) l.length := by
  refine ⟨fun i hi hl h1 h2 => ?_, fun h0 i hi hl hq => ?_⟩
  · rw [List.length_append, List.length_singleton] at hl
    have hp : par i < i := by unfold par; omega
    rw [nth_append l _ i (by omega), nth_append l _ _ (by omega)]
    exact H i hi (by omega)
  · rw [List.length_append, List.length_singleton] at hl
    unfold par at hq
    omega
theorem nth_take (l : List It) (n i : Nat) (h : i < n) : nth (l.take n) i = nth l i := by
  unfold nth
  rw [List.getD_eq_getElem?_getD, List.getD_eq_getElem?_getD, List.getElem?_take, if_pos h]
theorem heapX_take {l : List It} {a : Nat} (H : HeapX l a) (n : Nat) : HeapX (l.take n) a := by
  refine ⟨fun i hi hl h1 h2 => ?_, fun h0 i hi hl hq => ?_⟩
  · rw [List.length_take] at hl
    have hp : par i < i := by unfold par; omega
    rw [nth_take l n i (by omega), nth_take l n _ (by omega)]
    exact H.1 i hi (by omega) h1 h2
  · rw [List.length_take] at hl
    have hia : a < i := by unfold par at hq; omega
    have hp : par a < a := by unfold par; omega
    rw [nth_take l n i (by omega), nth_take l n _ (by omega)]
    exact H.2 h0 i hi (by omega) hq
theorem heap_take {l : List It} (H : Heap l) (n : Nat) : Heap (l.take n) := by
  intro i hi hl
  rw [List.length_take] at hl
  have hp : par i < i := by unfold par; omega
  rw [nth_take l n i (by omega), nth_take l n _ (by omega)]
  exact H i hi (by omega)
/-- Of each number where it stands. -/
def Con (l : List It) (f : Int → Option Nat) : Prop := ∀ x i, f x = some i ↔ i < l.length ∧ (nth l i).1 = x
theorem Con.inj {l : List It} {f : Int → Option Nat} (h : Con l f) {i j : Nat} (hi : i < l.length) (hj : j < l.length) (e : (nth l i).1 = (nth l j).1) : i = j := by
  have h1 := (h (nth l j).1 i).2 ⟨hi, e⟩
  have h2 := (h (nth l j).1 j).2 ⟨hj, rfl⟩
  rw [h1] at h2
  injection h2
theorem Con.nowhere {l : List It} {f : Int → Option Nat} (h : Con l f) {x : Int} (hx : ∀ i, i < l.length → (nth l i).1 ≠ x) : f x = .none := by
  cases e : f x with
  | none => rfl
  | some i => obtain ⟨h1, h2⟩ := (h x i).1 e; exact absurd h2 (hx i h1)
theorem perm_of_get {l k : List It} (hn : l.Nodup) (hk : k.Nodup) (h : ∀ x, x ∈ l ↔ x ∈ k) : l.Perm k := (List.perm_ext_iff_of_nodup hn hk).2 h
theorem mem_nth {l : List It} {x : It} : x ∈ l ↔ ∃ i, i < l.length ∧ nth l i = x := by
  rw [List.mem_iff_getElem]
  constructor
  · rintro ⟨i, h, e⟩; exact ⟨i, h, by rw [← nth_get l i h]; exact e⟩
  · rintro ⟨i, h, e⟩; exact ⟨i, h, by rw [nth_get l i h]; exact e⟩
theorem Con.keys {l : List It} {f : Int → Option Nat} (h : Con l f) : (l.map (·.1)).Nodup := by
  refine List.pairwise_iff_getElem.2 fun i j hi hj hij e => ?_
  have hi' : i < l.length := by simpa using hi
  have hj' : j < l.length := by simpa using hj
  rw [List.getElem_map, List.getElem_map, nth_get l i hi', nth_get l j hj'] at e
  have := h.inj hi' hj' e
  omega
theorem nodup_of_keys : ∀ {l : List It}, (l.map (·.1)).Nodup → l.Nodup
  | [], _ => List.Pairwise.nil
  | a :: l, h => by
    rw [List.map_cons, List.nodup_cons] at h
    exact List.nodup_cons.2 ⟨fun q => h.1 (List.mem_map_of_mem q), nodup_of_keys h.2⟩
def upd (f : Int → Option Nat) (x : Int) (i : Nat) : Int → Option Nat := fun y => if y = x then some i else f y
def del (f : Int → Option Nat) (x : Int) : Int → Option Nat := fun y => if y = x then none else f y
theorem mem_swp {l : List It} {a b : Nat} (ha : a < l.length) (hb : b < l.length) (y : It) : y ∈ swp l a b ↔ y ∈ l := by
  rw [mem_nth, mem_nth, swp_len]
  have N := fun i => nth_swp l a b i ha hb
  constructor
  · rintro ⟨i, h, e⟩
    rw [N i] at e
    by_cases e1 : i = b
    · rw [if_pos e1] at e; exact ⟨a, ha, e⟩
    · rw [if_neg e1] at e
      by_cases e2 : i = a
      · rw [if_pos e2] at e; exact ⟨b, hb, e⟩
      · rw [if_neg e2] at e; exact ⟨i, h, e⟩
  · rintro ⟨i, h, e⟩
    by_cases e1 : i = a
    · exact ⟨b, hb, by rw [N b, if_pos rfl, ← e1]; exact e⟩
    · by_cases e2 : i = b
      · by_cases e3 : a = b
        · omega
        · exact ⟨a, ha, by rw [N a, if_neg e3, if_pos rfl, ← e2]; exact e⟩
      · exact ⟨i, h, by rw [N i, if_neg e2, if_neg e1]; exact e⟩
theorem Con.swp {l : List It} {f : Int → Option Nat} (h : Con l f) {a b : Nat} (ha : a < l.length) (hb : b < l.length) : Con (swp l a b) (upd (upd f (nth l b).1 a) (nth l a).1 b) := by
  intro x i
  rw [swp_len, nth_swp l a b i ha hb]
  unfold upd
  by_cases e1 : x = (nth l a).1
  · rw [if_pos e1, Option.some.injEq]
    constructor
    · intro e; subst e; exact ⟨hb, by rw [if_pos rfl, e1]⟩
    · rintro ⟨hi, e⟩
      by_cases e2 : i = b
      · exact e2.symm
      · rw [if_neg e2] at e
        by_cases e3 : i = a
        · rw [if_pos e3, e1] at e
          have := h.inj hb ha e
          omega
        · rw [if_neg e3, e1] at e
          exact absurd (h.inj hi ha e) e3
  · rw [if_neg e1]
    by_cases e2 : x = (nth l b).1
    · rw [if_pos e2, Option.some.injEq]
      have hab : a ≠ b := fun e => e1 (by rw [e2, e])
      constructor
      · intro e; subst e; exact ⟨ha, by rw [if_neg hab, if_pos rfl, e2]⟩
      · rintro ⟨hi, e⟩
        by_cases e3 : i = b
        · rw [if_pos e3] at e; exact absurd e.symm e1
        · rw [if_neg e3] at e
          by_cases e4 : i = a
          · exact e4.symm
          · rw [if_neg e4, e2] at e
            exact absurd (h.inj hi hb e) e3
    · rw [if_neg e2, h x i]
      constructor
      · rintro ⟨hi, e⟩
        have e3 : i ≠ b := fun q => e2 (by rw [← q, e])
        have e4 : i ≠ a := fun q => e1 (by rw [← q, e])
        exact ⟨hi, by rw [if_neg e3, if_neg e4]; exact e⟩
      · rintro ⟨hi, e⟩
        by_cases e3 : i = b
        · rw [if_pos e3] at e; exact absurd e.symm e1
        · rw [if_neg e3] at e
          by_cases e4 : i = a
          · rw [if_pos e4] at e; exact absurd e.symm e2
          · rw [if_neg e4] at e; exact ⟨hi, e⟩
/-- One that waits is told anew. -/
theorem Con.again {l : List It} {f : Int → Option Nat} (h : Con l f) {x p : Int} {a : Nat} (hx : f x = some a) : Con (l.set a (x, p)) (upd f x a) := by
  obtain ⟨ha, hxa⟩ := (h x a).1 hx
  intro y i
  rw [List.length_set, nth_set l a i _ ha]
  have e : upd f x a y = f y := by
    unfold upd
    by_cases e : y = x
    · rw [if_pos e, e, hx]
    · rw [if_neg e]
  rw [e, h y i]
  by_cases e2 : i = a
  · rw [if_pos e2, e2, hxa]
  · rw [if_neg e2]
theorem mem_again {l : List It} {f : Int → Option Nat} (h : Con l f) {x p : Int} {a : Nat} (hx : f x = some a) (y : It) : y ∈ l.set a (x, p) ↔ y = (x, p) ∨ (y ∈ l ∧ y.1 ≠ x) := by
  obtain ⟨ha, hxa⟩ := (h x a).1 hx
  rw [mem_nth, mem_nth, List.length_set]
  constructor
  · rintro ⟨i, hi, e⟩
    rw [nth_set l a i _ ha] at e
    by_cases e2 : i = a
    · rw [if_pos e2] at e; exact .inl e.symm
    · rw [if_neg e2] at e
      exact .inr ⟨⟨i, hi, e⟩, fun q => e2 (h.inj hi ha (by rw [e, q, hxa]))⟩
  · rintro (rfl | ⟨⟨i, hi, e⟩, hne⟩)
    · exact ⟨a, ha, by rw [nth_set l a a _ ha, if_pos rfl]⟩
    · have e2 : i ≠ a := fun q => hne (by rw [← e, q, hxa])
      exact ⟨i, hi, by rw [nth_set l a i _ ha, if_neg e2]; exact e⟩
theorem nth_last (l : List It) (z : It) : nth (l ++ [z]) l.length = z := by simp [nth, List.getD]
/-- One more waits. -/
theorem Con.push {l : List It} {f : Int → Option Nat} (h : Con l f) {x p : Int} (hx : f x = none) : Con (l ++ [(x, p)]) (upd f x l.length) := by
  intro y i
  rw [List.length_append, List.length_singleton]
  unfold upd
  by_cases e : y = x
  · rw [if_pos e, Option.some.injEq]
    constructor
    · intro q; subst q; exact ⟨by omega, by rw [nth_last, e]⟩
    · rintro ⟨hi, q⟩
      by_cases e2 : i < l.length
      · rw [nth_append l _ i e2] at q
        have := (h y i).2 ⟨e2, q⟩
        rw [e, hx] at this
        cases this
      · omega
  · rw [if_neg e, h y i]
    constructor
    · rintro ⟨hi, q⟩; exact ⟨by omega, by rw [nth_append l _ i hi]; exact q⟩
    · rintro ⟨hi, q⟩
      by_cases e2 : i < l.length
      · rw [nth_append l _ i e2] at q; exact ⟨e2, q⟩
      · have e3 : i = l.length := by omega
        rw [e3, nth_last] at q
        exact absurd q.symm e
/-- One goes, the last one comes to its place. -/
theorem Con.drop {l : List It} {f : Int → Option Nat} (h : Con l f) {x : Int} {a n : Nat} (hx : f x = some a) (hn : l.length = n + 1) :
    Con ((l.set a (nth l n)).take n) (del (upd f (nth l n).1 a) x) := by
  obtain ⟨ha, hxa⟩ := (h x a).1 hx
  intro y i
  have hlen : ((l.set a (nth l n)).take n).length = n := by rw [List.length_take, List.length_set]; omega
  rw [hlen]
  unfold del upd
  by_cases e : y = x
  · rw [if_pos e]
    constructor
    · intro q; cases q
    · rintro ⟨hi, q⟩
      rw [nth_take _ n i hi, nth_set l a i _ ha] at q
      by_cases e2 : i = a
      · rw [if_pos e2, e, ← hxa] at q
        have := h.inj (by omega) ha q
        omega
      · rw [if_neg e2, e, ← hxa] at q
        exact absurd (h.inj (by omega) ha q) e2
  · rw [if_neg e]
    by_cases e2 : y = (nth l n).1
    · rw [if_pos e2, Option.some.injEq]
      constructor
      · intro q
        subst q
        have han : a ≠ n := fun q => e (by rw [e2, ← q, hxa])
        have hi : a < n := by omega
        exact ⟨hi, by rw [nth_take _ n a hi, nth_set l a a _ ha, if_pos rfl, e2]⟩
      · rintro ⟨hi, q⟩
        rw [nth_take _ n i hi, nth_set l a i _ ha] at q
        by_cases e3 : i = a
        · exact e3.symm
        · rw [if_neg e3, e2] at q
          have := h.inj (by omega) (by omega) q
          omega
    · rw [if_neg e2, h y i]
      constructor
      · rintro ⟨hi, q⟩
        have e3 : i ≠ n := fun r => e2 (by rw [← r, q])
        have e4 : i ≠ a := fun r => e (by rw [← hxa, ← r, q])
        have hi' : i < n := by omega
        exact ⟨hi', by rw [nth_take _ n i hi', nth_set l a i _ ha, if_neg e4]; exact q⟩
      · rintro ⟨hi, q⟩
        rw [nth_take _ n i hi, nth_set l a i _ ha] at q
        by_cases e3 : i = a
        · rw [if_pos e3] at q; exact absurd q.symm e2
        · rw [if_neg e3] at q; exact ⟨by omega, q⟩
theorem mem_drop {l : List It} {f : Int → Option Nat} (h : Con l f) {x : Int} {a n : Nat} (hx : f x = some a) (hn : l.length = n + 1) (y : It) :
    y ∈ (l.set a (nth l n)).take n ↔ y ∈ l ∧ y.1 ≠ x := by
  obtain ⟨ha, hxa⟩ := (h x a).1 hx
  have hlen : ((l.set a (nth l n)).take n).length = n := by rw [List.length_take, List.length_set]; omega
  rw [mem_nth, mem_nth, hlen]
  constructor
  · rintro ⟨i, hi, q⟩
    rw [nth_take _ n i hi, nth_set l a i _ ha] at q
    by_cases e : i = a
    · rw [if_pos e] at q
      refine ⟨⟨n, by omega, q⟩, fun r => ?_⟩
      have := h.inj (i := n) (j := a) (by omega) ha (by rw [q, r, hxa])
      omega
    · rw [if_neg e] at q
      exact ⟨⟨i, by omega, q⟩, fun r => e (h.inj (by omega) ha (by rw [q, r, hxa]))⟩
  · rintro ⟨⟨i, hi, q⟩, hne⟩
    have e : i ≠ a := fun r => hne (by rw [← q, r, hxa])
    by_cases e2 : i = n
    · have hi' : a < n := by omega
      exact ⟨a, hi', by rw [nth_take _ n a hi', nth_set l a a _ ha, if_pos rfl, ← e2]; exact q⟩
    · have hi' : i < n := by omega
      exact ⟨i, hi', by rw [nth_take _ n i hi', nth_set l a i _ ha, if_neg e]; exact q⟩
end Go.Proofs.Ytpklbaebfeoceaa
