/- Words of bytes, as lists (no statement of its own). -/
import Derived.Below
namespace Go.Proofs.YtcfendilaogjlaaDoor
set_option linter.unusedVariables false
def isB (x : Nat) : Bool := x == 32 || x == 9 || x == 10 || x == 13
def isW (x : Nat) : Bool := decide (33 ≤ x) && decide (x ≤ 126)
def pastP (P : Nat → Bool) (l : List UInt8) (k : Nat) : Nat := k + ((l.drop k).takeWhile fun c => P c.toNat).length
theorem pastP_step (P : Nat → Bool) (l : List UInt8) {k : Nat} (hk : k < l.length) (h : P l[k].toNat = true) : pastP P l k = pastP P l (k + 1) := by
  unfold pastP
  rw [List.drop_eq_getElem_cons hk, List.takeWhile_cons_of_pos (by simpa using h)]
  simp
  omega
theorem pastP_stop (P : Nat → Bool) (l : List UInt8) {k : Nat} (hk : k < l.length) (h : P l[k].toNat = false) : pastP P l k = k := by
  unfold pastP
  rw [List.drop_eq_getElem_cons hk, List.takeWhile_cons_of_neg (by simp [h])]
  simp
theorem pastP_end (P : Nat → Bool) (l : List UInt8) {k : Nat} (hk : l.length ≤ k) : pastP P l k = k := by
  unfold pastP
  rw [List.drop_eq_nil_of_le hk]
  simp
theorem pastP_ge (P : Nat → Bool) (l : List UInt8) (k : Nat) : k ≤ pastP P l k := Nat.le_add_right _ _
theorem pastP_le (P : Nat → Bool) (l : List UInt8) {k : Nat} (hk : k ≤ l.length) : pastP P l k ≤ l.length := by
  unfold pastP
  have h := (List.takeWhile_sublist (fun c : UInt8 => P c.toNat) (l := l.drop k)).length_le
  rw [List.length_drop] at h
  omega
theorem pastP_not (P : Nat → Bool) (l : List UInt8) (k : Nat) (hk : k ≤ l.length) (h : pastP P l k < l.length) : P (l[pastP P l k]'h).toNat = false := by
  obtain ⟨d, hd⟩ : ∃ d, l.length - k = d := ⟨_, rfl⟩
  induction d generalizing k with
  | zero =>
    have := pastP_ge P l k
    omega
  | succ d ih =>
    have hk2 : k < l.length := by omega
    cases hp : P l[k].toNat with
    | false =>
      have e := pastP_stop P l hk2 hp
      simpa [e] using hp
    | true =>
      have e := pastP_step P l hk2 hp
      have h2 := ih (k + 1) (by omega) (by rw [← e]; exact h) (by omega)
      simpa [e] using h2
theorem pastP_all (P : Nat → Bool) (l : List UInt8) {k j : Nat} (hkj : k ≤ j) (hj : j ≤ l.length) (h : ∀ i (hi : i < l.length), k ≤ i → i < j → P l[i].toNat = true) : pastP P l k = pastP P l j := by
  obtain ⟨d, hd⟩ : ∃ d, j - k = d := ⟨_, rfl⟩
  induction d generalizing k with
  | zero => rw [show k = j by omega]
  | succ d ih => rw [pastP_step P l (by omega) (h k (by omega) (Nat.le_refl _) (by omega)), ih (by omega) (fun i hi a b => h i hi (by omega) b) (by omega)]
/-- What Word finds from a place on: nothing more, a wrong byte, or a word. -/
inductive WRes where
  | none | bad (b : Nat) | word (f t : Nat)
def stepW (l : List UInt8) (k : Nat) : WRes :=
  let f := pastP isB l k
  let t := pastP isW l f
  if h : t < l.length then
    if isB l[t].toNat = false then .bad t else if f = t then .none else .word f t
  else if f = t then .none else .word f t
theorem stepW_word {l : List UInt8} {k f t : Nat} (hk : k ≤ l.length) (h : stepW l k = .word f t) : k ≤ f ∧ f < t ∧ t ≤ l.length ∧ f = pastP isB l k ∧ t = pastP isW l f := by
  have h1 := pastP_ge isB l k
  have h2 := pastP_le isB l hk
  have h3 := pastP_ge isW l (pastP isB l k)
  have h4 := pastP_le isW l h2
  unfold stepW at h
  simp only at h
  split at h
  · split at h
    · cases h
    · split at h
      · cases h
      · injection h with e1 e2
        subst e1 e2
        exact ⟨h1, by omega, h4, rfl, rfl⟩
  · split at h
    · cases h
    · injection h with e1 e2
      subst e1 e2
      exact ⟨h1, by omega, h4, rfl, rfl⟩
theorem stepW_none {l : List UInt8} {k : Nat} (hk : k ≤ l.length) (h : stepW l k = .none) : pastP isB l k = l.length ∧ pastP isW l (pastP isB l k) = l.length := by
  have h2 := pastP_le isB l hk
  have e : pastP isB l k = l.length := by
    rcases Nat.lt_or_ge (pastP isB l k) l.length with hlt | hge
    · have h1 := pastP_not isB l k hk hlt
      unfold stepW at h
      simp only at h
      split at h
      · split at h
        · cases h
        · rename_i hb
          split at h
          · rename_i e
            exfalso
            apply hb
            simp only [← e]
            exact h1
          · cases h
      · split at h
        · omega
        · cases h
    · omega
  rw [e]
  exact ⟨rfl, pastP_end isW l (Nat.le_refl _)⟩
theorem stepW_bad {l : List UInt8} {k b : Nat} (hk : k ≤ l.length) (h : stepW l k = .bad b) : pastP isW l (pastP isB l k) = b ∧ ∃ hb : b < l.length, isB l[b].toNat = false := by
  unfold stepW at h
  simp only at h
  split at h
  · rename_i ht
    split at h
    · rename_i hb
      injection h with e
      subst e
      exact ⟨rfl, ht, hb⟩
    · split at h <;> cases h
  · split at h <;> cases h
theorem stepW_sep {l : List UInt8} {k f t : Nat} (hk : k ≤ l.length) (h : stepW l k = .word f t) (ht : t < l.length) : isB l[t].toNat = true := by
  have h1 := (stepW_word hk h).2.2.2
  obtain ⟨e1, e2⟩ := h1
  subst e1
  subst e2
  unfold stepW at h
  simp only at h
  rw [dif_pos ht] at h
  split at h
  · cases h
  · rename_i hb
    simpa using hb
def wordsN : Nat → List UInt8 → Nat → List (Nat × Nat) × Option Nat
  | 0, _, _ => ([], none)
  | n + 1, l, k => match stepW l k with
    | .none => ([], none)
    | .bad b => ([], some b)
    | .word f t => ((f, t) :: (wordsN n l t).1, (wordsN n l t).2)
theorem wordsN_more {l : List UInt8} : ∀ (n m k : Nat), k ≤ l.length → l.length - k < n → n ≤ m → wordsN m l k = wordsN n l k := by
  intro n
  induction n with
  | zero => intro m k _ h; omega
  | succ n ih =>
    intro m k hk h hm
    obtain ⟨m, rfl⟩ : ∃ m', m = m' + 1 := ⟨m - 1, by omega⟩
    unfold wordsN
    cases hs : stepW l k with
    | none => rfl
    | bad b => rfl
    | word f t =>
      have h1 := stepW_word hk hs
      simp only [ih m t (by omega) (by omega) (by omega)]
/-- The words from a place on, and the first wrong byte. -/
def wordsL (l : List UInt8) (k : Nat) : List (Nat × Nat) × Option Nat := wordsN (l.length + 1) l k
theorem wordsL_none {l : List UInt8} {k : Nat} (h : stepW l k = .none) : wordsL l k = ([], none) := by unfold wordsL wordsN; rw [h]
theorem wordsL_bad {l : List UInt8} {k b : Nat} (h : stepW l k = .bad b) : wordsL l k = ([], some b) := by unfold wordsL wordsN; rw [h]
theorem wordsL_word {l : List UInt8} {k f t : Nat} (hk : k ≤ l.length) (h : stepW l k = .word f t) : wordsL l k = ((f, t) :: (wordsL l t).1, (wordsL l t).2) := by
  have h1 := stepW_word hk h
  have e : wordsN l.length l t = wordsL l t := (wordsN_more l.length (l.length + 1) t h1.2.2.1 (by omega) (by omega)).symm
  unfold wordsL
  rw [wordsN, h]
  simp only [e]
  rfl
/-- What stands at a place that begins no word changes nothing. -/
theorem stepW_skip {l : List UInt8} {k : Nat} (hk : k < l.length) (h : isB l[k].toNat = true) : stepW l k = stepW l (k + 1) := by
  unfold stepW
  rw [pastP_step isB l hk h]
theorem wordsL_skip {l : List UInt8} {k : Nat} (hk : k < l.length) (h : isB l[k].toNat = true) : wordsL l k = wordsL l (k + 1) := by
  have e := stepW_skip hk h
  cases hs : stepW l k with
  | none => rw [wordsL_none hs, wordsL_none (e.symm.trans hs)]
  | bad b => rw [wordsL_bad hs, wordsL_bad (e.symm.trans hs)]
  | word f t => rw [wordsL_word (by omega) hs, wordsL_word (by omega) (e.symm.trans hs)]
theorem isW_notB {x : Nat} (h : isW x = true) : isB x = false := by
  simp only [isW, Bool.and_eq_true, decide_eq_true_eq] at h
  simp only [isB, Bool.or_eq_false_iff, beq_eq_false_iff_ne]
  omega
theorem isB_notW {x : Nat} (h : isB x = true) : isW x = false := by
  cases hw : isW x with
  | false => rfl
  | true => rw [isW_notB hw] at h; cases h
/-- A word that is open from f on. -/
def OpenW (l : List UInt8) (f i : Nat) : Prop := f < i ∧ i ≤ l.length ∧ ∀ j (hj : j < l.length), f ≤ j → j < i → isW l[j].toNat = true
theorem OpenW.past {l : List UInt8} {f i : Nat} (h : OpenW l f i) : pastP isB l f = f ∧ pastP isW l f = pastP isW l i :=
  ⟨pastP_stop isB l (by have := h.1; have := h.2.1; omega) (isW_notB (h.2.2 f (by have := h.1; have := h.2.1; omega) (Nat.le_refl _) h.1)), pastP_all isW l (Nat.le_of_lt h.1) h.2.1 h.2.2⟩
theorem OpenW.more {l : List UInt8} {f i : Nat} (h : OpenW l f i) (hi : i < l.length) (hw : isW l[i].toNat = true) : OpenW l f (i + 1) := by
  refine ⟨by have := h.1; omega, hi, fun j hj a b => ?_⟩
  rcases (by omega : j < i ∨ j = i) with e | rfl
  · exact h.2.2 j hj a e
  · exact hw
theorem OpenW.new {l : List UInt8} {i : Nat} (hi : i < l.length) (hw : isW l[i].toNat = true) : OpenW l i (i + 1) := by
  refine ⟨by omega, hi, fun j hj a b => ?_⟩
  obtain rfl : j = i := by omega
  exact hw
theorem OpenW.close {l : List UInt8} {f i : Nat} (h : OpenW l f i) (hi : i < l.length) (hb : isB l[i].toNat = true) : wordsL l f = ((f, i) :: (wordsL l (i + 1)).1, (wordsL l (i + 1)).2) := by
  obtain ⟨h1, h2⟩ := h.past
  have h3 := pastP_stop isW l hi (isB_notW hb)
  have e : stepW l f = .word f i := by
    unfold stepW
    simp only [h1, h2, h3]
    rw [dif_pos hi, if_neg (by simp [hb]), if_neg (by have := h.1; omega)]
  rw [wordsL_word (by have := h.1; have := h.2.1; omega) e, wordsL_skip hi hb]
theorem OpenW.wrong {l : List UInt8} {f i : Nat} (h : OpenW l f i) (hi : i < l.length) (hb : isB l[i].toNat = false) (hw : isW l[i].toNat = false) : wordsL l f = ([], some i) := by
  obtain ⟨h1, h2⟩ := h.past
  have h3 := pastP_stop isW l hi hw
  refine wordsL_bad ?_
  unfold stepW
  simp only [h1, h2, h3]
  rw [dif_pos hi, if_pos hb]
theorem OpenW.done {l : List UInt8} {f : Nat} (h : OpenW l f l.length) : wordsL l f = ([(f, l.length)], none) := by
  obtain ⟨h1, h2⟩ := h.past
  have h3 := pastP_end isW l (Nat.le_refl l.length)
  have e : stepW l f = .word f l.length := by
    unfold stepW
    simp only [h1, h2, h3]
    rw [dif_neg (by omega), if_neg (by have := h.1; omega)]
  have e2 : stepW l l.length = .none := by
    unfold stepW
    simp [pastP_end isB l (Nat.le_refl l.length), h3]
  rw [wordsL_word (by have := h.1; omega) e, wordsL_none e2]
theorem wordsL_wrong {l : List UInt8} {i : Nat} (hi : i < l.length) (hb : isB l[i].toNat = false) (hw : isW l[i].toNat = false) : wordsL l i = ([], some i) := by
  refine wordsL_bad ?_
  unfold stepW
  simp only [pastP_stop isB l hi hb, pastP_stop isW l hi hw]
  rw [dif_pos hi, if_pos hb]
theorem wordsL_end (l : List UInt8) : wordsL l l.length = ([], none) := by
  refine wordsL_none ?_
  unfold stepW
  simp [pastP_end isB l (Nat.le_refl l.length), pastP_end isW l (Nat.le_refl l.length)]
/-- Each word that is told stands where it is told. -/
theorem wordsL_in {l : List UInt8} : ∀ (n k : Nat), k ≤ l.length → l.length - k < n → ∀ f t, (f, t) ∈ (wordsN n l k).1 → k ≤ f ∧ f < t ∧ t ≤ l.length := by
  intro n
  induction n with
  | zero => intro k _ h; omega
  | succ n ih =>
    intro k hk h f t hm
    unfold wordsN at hm
    cases hs : stepW l k with
    | none => simp [hs] at hm
    | bad b => simp [hs] at hm
    | word f' t' =>
      have h1 := stepW_word hk hs
      simp only [hs, List.mem_cons, Prod.mk.injEq] at hm
      rcases hm with ⟨rfl, rfl⟩ | hm
      · exact ⟨h1.1, h1.2.1, h1.2.2.1⟩
      · have := ih t' h1.2.2.1 (by omega) f t hm
        omega
end Go.Proofs.YtcfendilaogjlaaDoor
