/- How much a trail keeps: the maths (no statement of its own). -/
import Derived.Test.YtafcecacldafgaaTrW
namespace Go.Proofs.Ytafcecacldafgaa
open Go.RowKit
set_option linter.unusedVariables false
/-- So many different numbers below n are n at most. -/
theorem pig : ∀ (n : Nat) (g : Nat → Nat) (k : Nat), (∀ i, i < k → g i < n) → (∀ i j, i < j → j < k → g i ≠ g j) → k ≤ n
  | 0, g, k, h1, _ => by
    cases k with
    | zero => exact Nat.le_refl _
    | succ k => exact absurd (h1 0 (by omega)) (Nat.not_lt_zero _)
  | n + 1, g, 0, _, _ => Nat.zero_le _
  | n + 1, g, k + 1, h1, h2 => by
    by_cases h : ∃ i, i < k + 1 ∧ g i = n
    · obtain ⟨i, hi, e⟩ := h
      have hne : ∀ j, j < k + 1 → j ≠ i → g j < n := fun j hj hji => by
        have := h1 j hj
        have hd : g j ≠ n := fun q => by
          rcases Nat.lt_or_gt_of_ne hji with h | h
          · exact h2 j i h hi (by rw [q, e])
          · exact h2 i j h hj (by rw [q, e])
        omega
      have := pig n (fun j => if j = i then g k else g j) k (fun j hj => by
        show (if j = i then g k else g j) < n
        split
        · rename_i q; subst q; exact hne k (by omega) (by omega)
        · rename_i q; exact hne j (by omega) q) (fun a b hab hb => by
        show (if a = i then g k else g a) ≠ (if b = i then g k else g b)
        split
        · split
          · omega
          · rename_i q1 q2; exact (h2 b k hb (by omega)).symm
        · split
          · exact h2 a k (by omega) (by omega)
          · exact h2 a b hab (by omega))
      omega
    · have := pig n g (k + 1) (fun i hi => by
        have h3 := h1 i hi
        have h4 : g i ≠ n := fun q => h ⟨i, hi, q⟩
        omega) h2
      omega
/-- Mark j was the last one when the change number t was kept. -/
def Own (T : Tr) (j t : Nat) : Prop := j < T.marks.length ∧ (nth3 T.marks j).2.2 ≤ (t : Int) ∧ (j + 1 < T.marks.length → (t : Int) < (nth3 T.marks (j + 1)).2.2)
structure Wt (T : Tr) (f : Nat → Cl) : Prop where
  emono : ∀ i j, i ≤ j → j < T.marks.length → (nth3 T.marks i).1 ≤ (nth3 T.marks j).1
  eera : ∀ j, j < T.marks.length → (nth3 T.marks j).1 ≤ (T.era : Int)
  seg : ∀ (t : Nat) (h : t < T.kept.length) (j : Nat), Own T j t → T.kept[t].2.1 < (nth3 T.marks j).1 ∧ (nth3 T.marks j).1 ≤ (orig (T.kept.drop (t + 1)) T.kept[t].2.2.toNat (f T.kept[t].2.2.toNat)).2
  zero : T.marks = [] → T.kept = []
  first : T.marks ≠ [] → (nth3 T.marks 0).2.2 = 0
theorem Wt.congr {T T' : Tr} {f f' : Nat → Cl} (h : Wt T f) (hm : T'.marks = T.marks) (hk : T'.kept = T.kept) (he : T.era ≤ T'.era) (hf : ∀ i, f' i = f i) : Wt T' f' := by
  obtain ⟨a1, a2, a3, a4, a5⟩ := h
  obtain ⟨s', f1', e', m', k'⟩ := T'
  dsimp only at hm hk he
  subst hm hk
  refine ⟨a1, fun j hj => ?_, fun t ht j hj => ?_, a4, a5⟩
  · have := a2 j hj
    show (nth3 T.marks j).1 ≤ (e' : Int)
    omega
  · rw [hf]; exact a3 t ht j hj
theorem orig_at (l r : List Tri) (k : Tri) (a : Nat) (c : Cl) (h : ¬ HasAt l a) (hk : k.2.2 = (a : Int)) : orig (l ++ k :: r) a c = (k.1, k.2.1) := by
  rw [orig_append]
  have : orig (k :: r) a c = (k.1, k.2.1) := by simp [orig, hk]
  rw [this, orig_not h]
/-- What is known when a change is kept, or isn't. -/
theorem Wt.keep {T : Tr} {f f' : Nat → Cl} (h : Wt T f) (a : Nat) (hf : ∀ i, i ≠ a → f' i = f i) (he : ∀ j, j < T.marks.length → (nth3 T.marks j).1 ≤ (f' a).2)
    (hkp : ∀ j, j < T.marks.length → (nth3 T.marks j).2.2 ≤ (T.kept.length : Int)) : Wt (T.keep ((f a).1, (f a).2, (a : Int))) f' := by
  have hold : ∀ (t : Nat) (ht : t < T.kept.length) (j : Nat), Own T j t → T.kept[t].2.1 < (nth3 T.marks j).1 ∧ (nth3 T.marks j).1 ≤ (orig (T.kept.drop (t + 1)) T.kept[t].2.2.toNat (f' T.kept[t].2.2.toNat)).2 := fun t ht j ho => by
    obtain ⟨h1, h2⟩ := h.seg t ht j ho
    refine ⟨h1, ?_⟩
    by_cases e : T.kept[t].2.2.toNat = a
    · by_cases hh : HasAt (T.kept.drop (t + 1)) T.kept[t].2.2.toNat
      · rw [orig_has hh _ (f T.kept[t].2.2.toNat)]; exact h2
      · rw [orig_not hh, e]; exact he j ho.1
    · rw [hf _ e]; exact h2
  unfold Tr.keep
  by_cases hm : T.marks = []
  · rw [if_pos hm]
    exact ⟨h.emono, h.eera, hold, h.zero, h.first⟩
  rw [if_neg hm]
  by_cases hk : ((f a).1, (f a).2, (a : Int)).2.2 < T.last.2.1 ∧ ((f a).1, (f a).2, (a : Int)).2.1 < T.last.1
  · rw [if_pos hk]
    refine ⟨h.emono, h.eera, fun t ht j ho => ?_, fun q => absurd q hm, h.first⟩
    have ho' : Own T j t := ho
    have ht' : t < T.kept.length + 1 := by simpa using ht
    by_cases htl : t < T.kept.length
    · obtain ⟨h1, h2⟩ := h.seg t htl j ho'
      have e1 : (T.kept ++ [((f a).1, (f a).2, (a : Int))])[t]'(by simp; omega) = T.kept[t] := List.getElem_append_left htl
      show (T.kept ++ [_])[t].2.1 < _ ∧ _ ≤ (orig ((T.kept ++ [_]).drop (t + 1)) (T.kept ++ [_])[t].2.2.toNat (f' (T.kept ++ [_])[t].2.2.toNat)).2
      rw [e1, List.drop_append_of_le_length (by omega), orig_append]
      refine ⟨h1, ?_⟩
      by_cases e : T.kept[t].2.2.toNat = a
      · have : orig [((f a).1, (f a).2, (a : Int))] T.kept[t].2.2.toNat (f' T.kept[t].2.2.toNat) = f T.kept[t].2.2.toNat := by rw [e]; simp [orig]
        rw [this]; exact h2
      · have : orig [((f a).1, (f a).2, (a : Int))] T.kept[t].2.2.toNat (f' T.kept[t].2.2.toNat) = f T.kept[t].2.2.toNat := by
          have hne : ¬ ((a : Int) = ((T.kept[t].2.2.toNat : Nat) : Int)) := by omega
          simp only [orig, if_neg hne]
          exact hf _ e
        rw [this]; exact h2
    · obtain rfl : t = T.kept.length := by omega
      have hj : j = T.marks.length - 1 := by
        have h1 := ho'.1
        have h3 := ho'.2.2
        rcases Nat.lt_or_ge (j + 1) T.marks.length with hlt | hge
        · have := h3 hlt
          have := hkp (j + 1) hlt
          omega
        · omega
      have hl : T.last = nth3 T.marks j := by unfold Tr.last; rw [hj]
      show (T.kept ++ [_])[T.kept.length].2.1 < _ ∧ _ ≤ (orig ((T.kept ++ [_]).drop (T.kept.length + 1)) (T.kept ++ [_])[T.kept.length].2.2.toNat (f' (T.kept ++ [_])[T.kept.length].2.2.toNat)).2
      simp only [List.getElem_concat_length]
      refine ⟨by rw [← hl]; exact hk.2, ?_⟩
      have : (T.kept ++ [((f a).1, (f a).2, (a : Int))]).drop (T.kept.length + 1) = [] := List.drop_eq_nil_of_le (by simp)
      rw [this]
      simp only [orig, Int.toNat_natCast]
      exact he j ho'.1
  · rw [if_neg hk]
    exact ⟨h.emono, h.eera, hold, h.zero, h.first⟩
theorem wt_new (k : Nat) : Wt (fresh k) (fresh k).cell := ⟨fun i j _ hj => absurd hj (Nat.not_lt_zero _), fun j hj => absurd hj (Nat.not_lt_zero _), fun t ht => absurd ht (Nat.not_lt_zero _), fun _ => rfl, fun h => absurd rfl h⟩
theorem Wt.setc {n : Nat} {T : Tr} {C : List Int} {S : List (List Cl)} (h : Wt T T.cell) (hr : Rel n T C S) (i : Nat) (v : Int) : Wt (T.setc i v) (T.setc i v).cell := by
  unfold Tr.setc
  by_cases hv : (T.cell i).1 = v
  · rw [if_pos hv]; exact h
  · rw [if_neg hv]
    obtain ⟨e1, e2, e3, e4, e5⟩ := keep_parts T ((T.cell i).1, (T.cell i).2, (i : Int))
    have hcell : ∀ j, ((T.keep ((T.cell i).1, (T.cell i).2, (i : Int))).put i (v, (T.era : Int))).cell j = if j = i then (v, (T.era : Int)) else T.cell j := fun j => by
      rw [put_cell]; show (if j = i then _ else nth2 (T.keep _).fs j) = _; rw [e2]; rfl
    exact (h.keep (f' := fun j => if j = i then (v, (T.era : Int)) else T.cell j) i (fun j hj => if_neg hj) (fun j hj => by show _ ≤ (if i = i then (v, (T.era : Int)) else T.cell i).2; rw [if_pos rfl]; exact h.eera j hj) (fun j hj => (hr.inv.kp j (by rw [← hr.mlen]; exact hj)).2)).congr rfl rfl (Nat.le_refl _) hcell
theorem Wt.mark {n : Nat} {T : Tr} {C : List Int} {S : List (List Cl)} (h : Wt T T.cell) (hr : Rel n T C S) : Wt T.mark T.mark.cell := by
  have hnew : nth3 (T.marks ++ [(((T.era + 1 : Nat) : Int), (T.size : Int), (T.kept.length : Int))]) T.marks.length = (((T.era + 1 : Nat) : Int), (T.size : Int), (T.kept.length : Int)) := nth3_new _ _
  have hold : ∀ j, j < T.marks.length → nth3 (T.marks ++ [(((T.era + 1 : Nat) : Int), (T.size : Int), (T.kept.length : Int))]) j = nth3 T.marks j := fun j hj => nth3_old hj
  have hj' : ∀ j, j < (T.marks ++ [(((T.era + 1 : Nat) : Int), (T.size : Int), (T.kept.length : Int))]).length → j < T.marks.length ∨ j = T.marks.length := fun j hj => by simp at hj; omega
  refine ⟨fun i j hij hj => ?_, fun j hj => ?_, fun t ht j ho => ?_, fun q => ?_, fun _ => ?_⟩
  · show (nth3 (T.marks ++ [_]) i).1 ≤ (nth3 (T.marks ++ [_]) j).1
    rcases hj' j hj with hj | rfl
    · rw [hold j hj, hold i (by omega)]; exact h.emono i j hij hj
    · rw [hnew]
      rcases hj' i (by have : i ≤ T.marks.length := hij; simp; omega) with hi | rfl
      · rw [hold i hi]; have := h.eera i hi; show _ ≤ ((T.era + 1 : Nat) : Int); omega
      · rw [hnew]; exact Int.le_refl _
  · show (nth3 (T.marks ++ [_]) j).1 ≤ ((T.era + 1 : Nat) : Int)
    rcases hj' j hj with hj | rfl
    · rw [hold j hj]; have := h.eera j hj; omega
    · rw [hnew]; exact Int.le_refl _
  · obtain ⟨h1, h2, h3⟩ := ho
    have h2' : (nth3 (T.marks ++ [(((T.era + 1 : Nat) : Int), (T.size : Int), (T.kept.length : Int))]) j).2.2 ≤ (t : Int) := h2
    have ht' : t < T.kept.length := ht
    rcases hj' j h1 with hj | rfl
    · have ho : Own T j t := ⟨hj, by rw [hold j hj] at h2'; exact h2', fun q => by
        have := h3 (by show j + 1 < (T.marks ++ [_]).length; simp; omega)
        have this' : (t : Int) < (nth3 (T.marks ++ [(((T.era + 1 : Nat) : Int), (T.size : Int), (T.kept.length : Int))]) (j + 1)).2.2 := this
        rw [hold (j + 1) q] at this'
        exact this'⟩
      show _ < (nth3 (T.marks ++ [_]) j).1 ∧ (nth3 (T.marks ++ [_]) j).1 ≤ _
      rw [hold j hj]
      exact h.seg t ht' j ho
    · rw [hnew] at h2'
      have : (T.kept.length : Int) ≤ (t : Int) := h2'
      omega
  · have : (T.marks ++ [(((T.era + 1 : Nat) : Int), (T.size : Int), (T.kept.length : Int))]) = [] := q
    simp at this
  · show (nth3 (T.marks ++ [_]) 0).2.2 = 0
    by_cases hm : T.marks = []
    · have hk := h.zero hm
      rw [hm, hk]
      rfl
    · have hl : 0 < T.marks.length := List.length_pos_iff.2 hm
      rw [hold 0 hl]; exact h.first hm
theorem Wt.grow {T : Tr} (h : Wt T T.cell) (k : Nat) : Wt (T.grow k) (T.grow k).cell := h.congr rfl rfl (Nat.le_refl _) fun _ => rfl
theorem own_take {T T' : Tr} {m j t : Nat} (hm : m < T.marks.length) (hM : T'.marks = T.marks.take m) (hlt : (t : Int) < (nth3 T.marks m).2.2) (ho : Own T' j t) : Own T j t ∧ j < m := by
  obtain ⟨h1, h2, h3⟩ := ho
  rw [hM] at h1 h2 h3
  have hl : (T.marks.take m).length = m := by rw [List.length_take]; omega
  rw [hl] at h1 h3
  rw [nth3_take h1] at h2
  refine ⟨⟨by omega, h2, fun q => ?_⟩, h1⟩
  rcases Nat.lt_or_ge (j + 1) m with hj | hj
  · have := h3 hj
    rw [nth3_take hj] at this
    exact this
  · obtain rfl : m = j + 1 := by omega
    exact hlt
theorem Wt.undo {n : Nat} {T : Tr} {C : List Int} {S : List (List Cl)} (h : Wt T T.cell) (hr : Rel n T C S) {m : Nat} (hm : m < S.length) : Wt (T.undo m) (T.undo m).cell := by
  obtain ⟨y, hy⟩ : ∃ y, nth3 T.marks m = y := ⟨_, rfl⟩
  have hsz := hr.inv.size m hm
  have hkp := hr.inv.kp m hm
  have hlow := hr.low m hm
  have hl := hr.mlen
  have hmm : m < T.marks.length := by omega
  rw [hy] at hsz hkp hlow
  obtain ⟨s, hs⟩ : ∃ s, S[m].length = s := ⟨_, rfl⟩
  obtain ⟨kp, hkp'⟩ : ∃ kp : Nat, y.2.2 = (kp : Int) := ⟨y.2.2.toNat, by omega⟩
  rw [hs] at hsz
  rw [hkp'] at hkp hlow
  rw [Int.toNat_natCast] at hlow
  have hu : T.undo m = { T.back (T.kept.drop kp) with marks := T.marks.take m, kept := T.kept.take kp }.shrink s := by
    unfold Tr.undo; rw [hy, hsz, hkp', Int.toNat_natCast, Int.toNat_natCast]
  rw [hu]
  obtain ⟨B, hB⟩ : ∃ B, T.back (T.kept.drop kp) = B := ⟨_, rfl⟩
  obtain ⟨b1, b2, b3, b4⟩ := back_same T (T.kept.drop kp)
  have hat : ∀ k ∈ T.kept.drop kp, 0 ≤ k.2.2 ∧ k.2.2 < (T.size : Int) := fun k hk => hr.ats k (List.mem_of_mem_drop hk)
  have bc := back_cell T (T.kept.drop kp) (fun k hk => (hat k hk).1)
  rw [hB] at b1 b2 b3 b4 bc ⊢
  obtain ⟨e1, e2, e3, e4, e5, e6, e7⟩ := shrink_parts { B with marks := T.marks.take m, kept := T.kept.take kp } s
  generalize ({ B with marks := T.marks.take m, kept := T.kept.take kp } : Tr).shrink s = U at *
  have hcl : ∀ i, i < s → U.cell i = orig (T.kept.drop kp) i (T.cell i) := fun i hi => (e7 i hi).trans (bc i)
  have e3' : U.marks = T.marks.take m := e3
  have e4' : U.kept = T.kept.take kp := e4
  have hml : U.marks.length = m := by rw [e3', List.length_take]; omega
  have hUe : U.era = T.era := by rw [e2]; exact b3
  refine ⟨fun i j hij hj => ?_, fun j hj => ?_, fun t ht j ho => ?_, fun q => ?_, fun q => ?_⟩
  · rw [hml] at hj
    rw [e3', nth3_take hj, nth3_take (by omega)]
    exact h.emono i j hij (by omega)
  · rw [hml] at hj
    rw [e3', nth3_take hj, hUe]
    exact h.eera j (by omega)
  · have htk : t < kp := by rw [e4', List.length_take] at ht; omega
    obtain ⟨ho', hjm⟩ := own_take hmm e3' (by rw [hy, hkp']; omega) ho
    have hto : t < T.kept.length := by omega
    obtain ⟨h1, h2⟩ := h.seg t hto j ho'
    have hg : U.kept[t] = T.kept[t] := by simp only [e4', List.getElem_take]
    rw [hg, e3', nth3_take hjm]
    refine ⟨h1, ?_⟩
    have hlt := hlow T.kept[t] (by
      rw [List.mem_take_iff_getElem]
      exact ⟨t, by omega, rfl⟩)
    have h0 := hr.ats T.kept[t] (List.getElem_mem hto)
    rw [hsz] at hlt
    rw [hcl _ (by omega), e4', ← orig_append, take_drop (by omega)]
    exact h2
  · rw [e3'] at q
    have hm0 : m = 0 := by
      have h9 := congrArg List.length q
      rw [List.length_take, List.length_nil] at h9
      omega
    subst hm0
    have hf := h.first (fun q => by rw [q] at hmm; simp at hmm)
    rw [hy, hkp'] at hf
    rw [e4', show kp = 0 by omega]
    rfl
  · have hm0 : 0 < m := by
      rcases Nat.eq_zero_or_pos m with h0 | h0
      · subst h0; rw [e3'] at q; exact absurd rfl q
      · exact h0
    rw [e3', nth3_take hm0]
    exact h.first (fun q => by rw [q] at hmm; simp at hmm)
theorem Wt.all {T0 : Tr} {S : List (List Cl)} : ∀ (l : List Tri) (T : Tr), Wt T (fun i => orig l i (T0.cell i)) → RelF T0 T (fun i => orig l i (T0.cell i)) S → (∀ k ∈ l, k.2.1 ≤ (T0.era : Int) ∧ 0 ≤ k.2.2) →
    (∀ (p : List Tri) (k : Tri) (r : List Tri), l = p ++ k :: r → ∀ j, j < T.marks.length → (nth3 T.marks j).1 ≤ (orig r k.2.2.toNat (T0.cell k.2.2.toNat)).2) → Wt (l.foldl (fun T k => T.keep k) T) T0.cell
  | [], T, h, _, _, _ => h
  | k :: l, T, h, hr, hk, he => by
    obtain ⟨a, ha⟩ : ∃ a : Nat, k.2.2 = (a : Int) := ⟨k.2.2.toNat, by have := (hk k List.mem_cons_self).2; omega⟩
    have hrs := hr.step (hk k List.mem_cons_self).1 (hk k List.mem_cons_self).2
    have hke : k = ((orig (k :: l) a (T0.cell a)).1, (orig (k :: l) a (T0.cell a)).2, (a : Int)) := by
      simp only [orig, if_pos ha]; rw [← ha]
    have hw : Wt (T.keep k) (fun i => orig l i (T0.cell i)) := by
      rw [hke]
      refine h.keep (f' := fun i => orig l i (T0.cell i)) a (fun i hi => ?_) (fun j hj => ?_) (fun j hj => (hr.inv.kp j (by rw [← hr.inv.len]; exact hj)).2)
      · show orig l i (T0.cell i) = orig (k :: l) i (T0.cell i)
        simp only [orig]
        rw [if_neg (by rw [ha]; omega)]
      · have := he [] k l rfl j hj
        rw [ha, Int.toNat_natCast] at this
        exact this
    refine Wt.all l (T.keep k) hw hrs (fun q hq => hk q (List.mem_cons_of_mem _ hq)) fun p q r e j hj => ?_
    rw [(keep_parts T k).2.2.2.1] at hj ⊢
    exact he (k :: p) q r (by rw [e]; rfl) j hj
theorem own_ex {T : Tr} (h : Wt T T.cell) {t : Nat} (ht : t < T.kept.length) (hmo : ∀ i j, i ≤ j → j < T.marks.length → (nth3 T.marks i).2.2 ≤ (nth3 T.marks j).2.2) : ∃ j, Own T j t := by
  have hne : T.marks ≠ [] := fun q => by rw [h.zero q] at ht; simp at ht
  have h0 := h.first hne
  have hl : 0 < T.marks.length := List.length_pos_iff.2 hne
  -- the last mark that isn't behind t
  have key : ∀ d, d < T.marks.length → (nth3 T.marks d).2.2 ≤ (t : Int) → ∃ j, Own T j t := by
    intro d
    obtain ⟨r, hr⟩ : ∃ r, T.marks.length - d = r := ⟨_, rfl⟩
    induction r generalizing d with
    | zero => intro hd; omega
    | succ r ih =>
      intro hd hle
      by_cases hn : d + 1 < T.marks.length
      · by_cases hlt : (nth3 T.marks (d + 1)).2.2 ≤ (t : Int)
        · exact ih (d + 1) (by omega) hn hlt
        · exact ⟨d, hd, hle, fun _ => by omega⟩
      · exact ⟨d, hd, hle, fun q => absurd q hn⟩
  exact key 0 hl (by rw [h0]; omega)
theorem Rel.forgetF {n : Nat} {T : Tr} {C : List Int} {S : List (List Cl)} (h : Rel n T C S) {m kp : Nat} {y : Tri} (hm : m < S.length) (hy : nth3 T.marks m = y) (hkp' : y.2.2 = (kp : Int)) :
    RelF T { T with marks := T.marks.take m, kept := T.kept.take kp } (fun i => orig (T.kept.drop kp) i (T.cell i)) (S.take m) := by
  have hkp := h.inv.kp m hm
  have hl := h.inv.len
  rw [hy, hkp'] at hkp
  have hmm : ∀ j, j < m → nth3 (T.marks.take m) j = nth3 T.marks j := fun j hj => nth3_take hj
  have hSl : (S.take m).length = m := by simp; omega
  have hSg : ∀ j (hj : j < (S.take m).length), (S.take m)[j] = S[j]'(by rw [hSl] at hj; omega) := fun j hj => by simp
  have hk' : ∀ j, j < m → (nth3 T.marks j).2.2 ≤ (kp : Int) := fun j hj => by
    have := h.inv.mono j m (by omega) hm
    rw [hy, hkp'] at this
    exact this.2
  refine ⟨⟨by simp; omega, fun j hj => ?_, fun j hj => ?_, fun j hj => ?_, fun j hj i hi => ?_, fun i j hij hj => ?_⟩, ⟨rfl, rfl, rfl⟩, fun k hk => h.kera k (List.mem_of_mem_take hk), fun k hk => h.ats k (List.mem_of_mem_take hk), fun j hj => ?_, fun j hj => ?_⟩
  · rw [hSl] at hj; simp only [hmm j hj, hSg]; exact h.inv.size j (by omega)
  · rw [hSl] at hj
    have := h.inv.kp j (by omega)
    have := hk' j hj
    simp only [hmm j hj, List.length_take]
    omega
  · rw [hSl] at hj; simp only [hmm j hj, hSg]; exact h.inv.era j (by omega)
  · have hjm : j < m := by rw [hSl] at hj; exact hj
    have hi' : i < S[j].length := by simpa using hi
    have q2 := hk' j hjm
    simp only [hmm j hjm, hSg]
    rw [← orig_append, take_drop (by omega)]
    exact h.inv.was j (by omega) i hi'
  · rw [hSl] at hj
    simp only [hmm j hj, hmm i (by omega)]
    exact h.inv.mono i j hij (by omega)
  · rw [hSl] at hj
    simp only [hmm j hj, List.take_take]
    have q2 := hk' j hj
    rw [Nat.min_eq_left (by omega)]
    exact h.low j (by omega)
  · rw [hSl] at hj
    simp only [hmm j hj]
    exact h.msz j (by omega)
theorem Wt.forget {n : Nat} {T : Tr} {C : List Int} {S : List (List Cl)} (h : Wt T T.cell) (hr : Rel n T C S) {m : Nat} (hm : m < S.length) : Wt (T.forget m) (T.forget m).cell := by
  obtain ⟨y, hy⟩ : ∃ y, nth3 T.marks m = y := ⟨_, rfl⟩
  have hkp := hr.inv.kp m hm
  have hl := hr.mlen
  have hmm : m < T.marks.length := by omega
  rw [hy] at hkp
  obtain ⟨kp, hkp'⟩ : ∃ kp : Nat, y.2.2 = (kp : Int) := ⟨y.2.2.toNat, by omega⟩
  rw [hkp'] at hkp
  have hu : T.forget m = (T.kept.drop kp).foldl (fun T k => T.keep k) { T with marks := T.marks.take m, kept := T.kept.take kp } := by
    unfold Tr.forget; rw [hy, hkp', Int.toNat_natCast]
  rw [hu]
  have hml : (T.marks.take m).length = m := by rw [List.length_take]; omega
  have h0 := hr.forgetF hm hy hkp'
  have hw0 : Wt { T with marks := T.marks.take m, kept := T.kept.take kp } (fun i => orig (T.kept.drop kp) i (T.cell i)) := by
    refine ⟨fun i j hij hj => ?_, fun j hj => ?_, fun t ht j ho => ?_, fun q => ?_, fun q => ?_⟩
    · have hj' : j < m := by rw [← hml]; exact hj
      show (nth3 (T.marks.take m) i).1 ≤ (nth3 (T.marks.take m) j).1
      rw [nth3_take hj', nth3_take (by omega)]
      exact h.emono i j hij (by omega)
    · have hj' : j < m := by rw [← hml]; exact hj
      show (nth3 (T.marks.take m) j).1 ≤ (T.era : Int)
      rw [nth3_take hj']
      exact h.eera j (by omega)
    · have htk : t < kp := by
        have : t < (T.kept.take kp).length := ht
        rw [List.length_take] at this; omega
      obtain ⟨ho', hjm⟩ := own_take (T' := { T with marks := T.marks.take m, kept := T.kept.take kp }) hmm rfl (by rw [hy, hkp']; omega) ho
      have hto : t < T.kept.length := by omega
      obtain ⟨h1, h2⟩ := h.seg t hto j ho'
      show (T.kept.take kp)[t].2.1 < (nth3 (T.marks.take m) j).1 ∧ (nth3 (T.marks.take m) j).1 ≤ (orig ((T.kept.take kp).drop (t + 1)) (T.kept.take kp)[t].2.2.toNat (orig (T.kept.drop kp) (T.kept.take kp)[t].2.2.toNat (T.cell (T.kept.take kp)[t].2.2.toNat))).2
      simp only [List.getElem_take]
      rw [nth3_take hjm, ← orig_append, take_drop (by omega)]
      exact ⟨h1, h2⟩
    · have q' : T.marks.take m = [] := q
      have hm0 : m = 0 := by rw [q'] at hml; simpa using hml.symm
      subst hm0
      have hf := h.first (fun q => by rw [q] at hmm; simp at hmm)
      rw [hy, hkp'] at hf
      show T.kept.take kp = []
      rw [show kp = 0 by omega]
      rfl
    · have q' : T.marks.take m ≠ [] := q
      have hm0 : 0 < m := by
        rcases Nat.eq_zero_or_pos m with h0 | h0
        · subst h0; exact absurd rfl q'
        · exact h0
      show (nth3 (T.marks.take m) 0).2.2 = 0
      rw [nth3_take hm0]
      exact h.first (fun q => by rw [q] at hmm; simp at hmm)
  have hcell : ∀ (U : Tr), U.fs = T.fs → ∀ i, U.cell i = T.cell i := fun U e i => by unfold Tr.cell; rw [e]
  have hfin := Wt.all (T.kept.drop kp) _ hw0 h0 (fun k hk => ⟨hr.kera k (List.mem_of_mem_drop hk), (hr.ats k (List.mem_of_mem_drop hk)).1⟩) (fun p k r e j hj => ?_)
  · obtain ⟨rr, _⟩ := RelF.all (T.kept.drop kp) _ h0 (fun k hk => ⟨hr.kera k (List.mem_of_mem_drop hk), (hr.ats k (List.mem_of_mem_drop hk)).1⟩)
    exact hfin.congr rfl rfl (Nat.le_refl _) (hcell _ rr.same.1)
  · have hj' : j < m := by rw [← hml]; exact hj
    show (nth3 (T.marks.take m) j).1 ≤ _
    rw [nth3_take hj']
    -- k is the change number kp + p.length
    obtain ⟨t, ht⟩ : ∃ t, kp + p.length = t := ⟨_, rfl⟩
    have hlen : (T.kept.drop kp).length = p.length + (r.length + 1) := by rw [e]; simp
    rw [List.length_drop] at hlen
    have hto : t < T.kept.length := by omega
    have hg : T.kept[t] = k := by
      have h1 : (T.kept.drop kp)[p.length]'(by rw [List.length_drop]; omega) = k := by simp only [e]; simp
      rw [← h1]
      simp only [List.getElem_drop, ht]
    have hd : T.kept.drop (t + 1) = r := by
      have h1 : (T.kept.drop kp).drop (p.length + 1) = r := by rw [e]; simp
      rw [List.drop_drop] at h1
      rw [← h1]
      congr 1
      omega
    obtain ⟨jj, ho⟩ := own_ex h hto (fun i j hij hj => (hr.inv.mono i j hij (by omega)).2)
    obtain ⟨h1, h2⟩ := h.seg t hto jj ho
    rw [hg, hd] at h2
    have hjj : m ≤ jj := by
      rcases Nat.lt_or_ge jj m with hlt | hge
      · have h3 : (t : Int) < (nth3 T.marks (jj + 1)).2.2 := ho.2.2 (by omega)
        have h4 := (hr.inv.mono (jj + 1) m (by omega) hm).2
        rw [hy, hkp'] at h4
        omega
      · exact hge
    exact Int.le_trans (h.emono j jj (by omega) ho.1) h2
end Go.Proofs.Ytafcecacldafgaa
