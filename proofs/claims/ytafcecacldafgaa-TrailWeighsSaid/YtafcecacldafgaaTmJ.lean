/- How much a trail keeps, no more than so much (no statement of its own). -/
import Derived.Test.YtafcecacldafgaaTnG
namespace Go.Proofs.Ytafcecacldafgaa
open Go.RowKit
set_option linter.unusedVariables false
theorem orig_first (l : List Tri) (a d : Nat) (c : Cl) (hd : d < l.length) (h : l[d].2.2 = (a : Int)) : ∃ (i : Nat) (hi : i < l.length), i ≤ d ∧ l[i].2.2 = (a : Int) ∧ orig l a c = (l[i].1, l[i].2.1) := by
  induction l generalizing d with
  | nil => simp at hd
  | cons k l ih =>
    by_cases e : k.2.2 = (a : Int)
    · exact ⟨0, by simp, Nat.zero_le _, e, by simp [orig, e]⟩
    · cases d with
      | zero => exact absurd h e
      | succ d =>
        obtain ⟨i, hi, h1, h2, h3⟩ := ih d (by simpa using hd) h
        exact ⟨i + 1, by simpa using hi, by omega, by simpa using h2, by simp only [orig, if_neg e]; simpa using h3⟩
/-- Where the changes behind mark j begin. -/
def kpo (T : Tr) (j : Nat) : Nat := if j < T.marks.length then (nth3 T.marks j).2.2.toNat else T.kept.length
theorem Wt.differ {n : Nat} {T : Tr} {C : List Int} {S : List (List Cl)} (h : Wt T T.cell) (hr : Rel n T C S) {j t1 t2 : Nat} (h12 : t1 < t2) (h2 : t2 < T.kept.length) (o1 : Own T j t1) (o2 : ∀ t, t1 ≤ t → t ≤ t2 → Own T j t) : T.kept[t1].2.2.toNat ≠ T.kept[t2].2.2.toNat := by
  intro e
  have h1 : t1 < T.kept.length := by omega
  have a1 := hr.ats T.kept[t1] (List.getElem_mem h1)
  have a2 := hr.ats T.kept[t2] (List.getElem_mem h2)
  obtain ⟨q1, q2⟩ := h.seg t1 h1 j o1
  have hd : (T.kept.drop (t1 + 1))[t2 - (t1 + 1)]'(by rw [List.length_drop]; omega) = T.kept[t2] := by
    rw [List.getElem_drop]; congr 1; omega
  obtain ⟨i, hi, hle, hat, ho⟩ := orig_first (T.kept.drop (t1 + 1)) T.kept[t1].2.2.toNat (t2 - (t1 + 1)) (T.cell T.kept[t1].2.2.toNat) (by rw [List.length_drop]; omega) (by rw [hd, e]; omega)
  rw [ho] at q2
  rw [List.length_drop] at hi
  have h3 : t1 + 1 + i < T.kept.length := by omega
  obtain ⟨q3, _⟩ := h.seg (t1 + 1 + i) h3 j (o2 _ (by omega) (by omega))
  rw [List.getElem_drop] at q2
  exact absurd q3 (by have := q2; exact Int.not_lt.2 this)
theorem kpo_step {n : Nat} {T : Tr} {C : List Int} {S : List (List Cl)} (h : Wt T T.cell) (hr : Rel n T C S) {j : Nat} (hj : j < T.marks.length) : kpo T (j + 1) ≤ kpo T j + T.size := by
  have hl := hr.mlen
  have hkj := hr.inv.kp j (by omega)
  have e0 : kpo T j = (nth3 T.marks j).2.2.toNat := by unfold kpo; rw [if_pos hj]
  have hle : kpo T (j + 1) ≤ T.kept.length := by
    unfold kpo
    split
    · rename_i q; have := hr.inv.kp (j + 1) (by omega); omega
    · exact Nat.le_refl _
  have hown : ∀ t, kpo T j ≤ t → t < kpo T (j + 1) → Own T j t := fun t h1 h2 => ⟨hj, by omega, fun q => by
    have : kpo T (j + 1) = (nth3 T.marks (j + 1)).2.2.toNat := by unfold kpo; rw [if_pos q]
    have := hr.inv.kp (j + 1) (by omega)
    omega⟩
  have := pig T.size (fun i => if hi : kpo T j + i < T.kept.length then T.kept[kpo T j + i].2.2.toNat else 0) (kpo T (j + 1) - kpo T j) (fun i hi => by
    have hi' : kpo T j + i < T.kept.length := by omega
    show (if hi : kpo T j + i < T.kept.length then _ else _) < T.size
    rw [dif_pos hi']
    have := hr.ats T.kept[kpo T j + i] (List.getElem_mem hi')
    omega) (fun a b hab hb => by
    have ha' : kpo T j + a < T.kept.length := by omega
    have hb' : kpo T j + b < T.kept.length := by omega
    show (if hi : kpo T j + a < T.kept.length then _ else _) ≠ (if hi : kpo T j + b < T.kept.length then _ else _)
    rw [dif_pos ha', dif_pos hb']
    exact h.differ hr (by omega) hb' (hown _ (by omega) (by omega)) fun t h1 h2 => hown t (by omega) (by omega))
  omega
theorem Wt.weigh {n : Nat} {T : Tr} {C : List Int} {S : List (List Cl)} (h : Wt T T.cell) (hr : Rel n T C S) : T.kept.length ≤ T.marks.length * T.size := by
  by_cases hm : T.marks = []
  · rw [h.zero hm]; exact Nat.zero_le _
  have key : ∀ j, j ≤ T.marks.length → kpo T j ≤ j * T.size := by
    intro j
    induction j with
    | zero =>
      intro _
      have hl : 0 < T.marks.length := List.length_pos_iff.2 hm
      unfold kpo
      rw [if_pos hl, h.first hm]
      exact Nat.zero_le _
    | succ j ih =>
      intro hj
      have := ih (by omega)
      have := kpo_step h hr (j := j) (by omega)
      rw [Nat.succ_mul]
      omega
  have := key T.marks.length (Nat.le_refl _)
  unfold kpo at this
  rw [if_neg (by omega)] at this
  exact this
theorem weight_st {w : World} {b n : Nat} {Q : Nat → Prop} {C : List Int} {M : List (List Int)} (h : St w b n Q C M) : ∃ W : Nat, Calls Try.prog 14 #[.pointer (some ⟨b, 0, none⟩)] w (AndO w (.int .i64 (W : Int))) ∧ (M = [] → W = 0) ∧ W ≤ M.length * C.length ∧ W ≤ n := by
  obtain ⟨T, S, h1, h2, h4, rfl⟩ := h
  refine ⟨T.kept.length, weight_any h1, fun e => ?_, ?_, h2.nkp⟩
  · have hS : S = [] := by simpa using e
    have hm : T.marks = [] := by
      have := h2.mlen
      rw [hS] at this
      exact List.eq_nil_of_length_eq_zero this
    rw [h4.zero hm]
    rfl
  · have := h4.weigh h2
    rw [h2.mlen, h2.size] at this
    simpa using this
/-- The cells that were changed behind the last mark. -/
def Tr.new (T : Tr) : List Nat := (List.range T.size).filter fun j => decide (T.last.1 ≤ (T.cell j).2)
theorem filter_step (p q : Nat → Bool) (i : Nat) (hpi : p i = false) (hqi : q i = true) (hne : ∀ j, j ≠ i → q j = p j) : ∀ n, i < n → ((List.range n).filter q).length = ((List.range n).filter p).length + 1
  | 0, h => absurd h (Nat.not_lt_zero _)
  | n + 1, h => by
    rw [List.range_succ, List.filter_append, List.filter_append, List.length_append, List.length_append]
    by_cases e : i = n
    · subst e
      have hs : (List.range i).filter q = (List.range i).filter p := List.filter_congr fun j hj => hne j (by have := List.mem_range.1 hj; omega)
      rw [hs]
      simp [hpi, hqi]
    · have e1 : [n].filter q = [n].filter p := List.filter_congr fun j hj => hne j (by have := List.mem_singleton.1 hj; omega)
      rw [filter_step p q i hpi hqi hne n (by omega), e1]
      omega
/-- A trail behind a mark: was: how much it kept then; ks: the cells that were set since. -/
def Stw (w : World) (b n : Nat) (Q : Nat → Prop) (C : List Int) (was : Nat) (ks : List Nat) : Prop :=
  ∃ T S, TA Q w b T ∧ Rel n T C S ∧ Wt T T.cell ∧ T.marks ≠ [] ∧ T.kept.length ≤ was + T.new.length ∧ ∀ j, T.last.1 ≤ (T.cell j).2 → j ∈ ks
theorem mark_new {n : Nat} {T : Tr} {C : List Int} {S : List (List Cl)} (hr : Rel n T C S) : T.mark.new = [] ∧ ∀ j, ¬ T.mark.last.1 ≤ (T.mark.cell j).2 := by
  have hl : T.mark.last = (((T.era + 1 : Nat) : Int), (T.size : Int), (T.kept.length : Int)) := by
    unfold Tr.last
    show nth3 (T.marks ++ [_]) ((T.marks ++ [_]).length - 1) = _
    rw [List.length_append, List.length_singleton, Nat.add_sub_cancel]
    exact nth3_new _ _
  have h : ∀ j, ¬ T.mark.last.1 ≤ (T.mark.cell j).2 := fun j => by
    rw [hl]
    have := hr.era_cell j
    show ¬ ((T.era + 1 : Nat) : Int) ≤ (T.cell j).2
    omega
  refine ⟨?_, h⟩
  unfold Tr.new
  rw [List.filter_eq_nil_iff]
  intro j _
  simpa using h j
theorem mark_stw {w : World} {b n : Nat} {Q : Nat → Prop} {C : List Int} {M : List (List Int)} (h : St w b n Q C M) (hn : n < 1000000) :
    ∃ W : Nat, W ≤ n ∧ Calls Try.prog 16 #[.pointer (some ⟨b, 0, none⟩)] w (fun e w' => e = .returned (.int .i64 (M.length : Int)) ∧ Stw w' b (n + 1) (Plus Q w) C W [] ∧ Kp Q w w' ∧ Calls Try.prog 14 #[.pointer (some ⟨b, 0, none⟩)] w' (AndO w' (.int .i64 (W : Int)))) := by
  obtain ⟨T, S, h1, h2, h4, rfl⟩ := h
  refine ⟨T.kept.length, h2.nkp, ?_⟩
  rw [List.length_map, ← h2.mlen]
  refine (mark_any (h1.mono (Q := Plus Q w) fun k _ q => .inl q) (fun k hk => .inr hk) (by have := h2.nmk; rw [h2.mlen]; omega) (by have := h2.nera; omega)).mono fun e w' q => ⟨q.1, ⟨T.mark, S ++ [T.all], q.2.1, h2.mark, h4.mark h2, by unfold Tr.mark; simp, ?_, fun j hj => absurd hj ((mark_new h2).2 j)⟩, q.2.2.mono (plus_of Q w), weight_any (T := T.mark) q.2.1⟩
  rw [(mark_new h2).1]
  show T.kept.length ≤ T.kept.length + 0
  omega
theorem last_same {T U : Tr} (h : U.marks = T.marks) : U.last = T.last := by unfold Tr.last; rw [h]
theorem Stw.kept {w w' : World} {b n was : Nat} {Q : Nat → Prop} {C : List Int} {ks : List Nat} (h : Stw w b n Q C was ks) (hg : Kp (fun k => ¬ Q k) w w') : Stw w' b n Q C was ks := by
  obtain ⟨T, S, h1, h2⟩ := h; exact ⟨T, S, h1.kept hg, h2⟩
theorem Stw.mono {w : World} {b n was : Nat} {Q R : Nat → Prop} {C : List Int} {ks : List Nat} (h : Stw w b n Q C was ks) (hQ : ∀ k, k < w.heap.size → Q k → R k) : Stw w b n R C was ks := by
  obtain ⟨T, S, h1, h2⟩ := h; exact ⟨T, S, h1.mono hQ, h2⟩
theorem Stw.more {w : World} {b n was : Nat} {Q : Nat → Prop} {C : List Int} {ks ls : List Nat} (h : Stw w b n Q C was ks) (hk : ∀ j ∈ ks, j ∈ ls) : Stw w b n Q C was ls := by
  obtain ⟨T, S, h1, h2, h3, h4, h5, h6⟩ := h; exact ⟨T, S, h1, h2, h3, h4, h5, fun j hj => hk j (h6 j hj)⟩
theorem Stw.len {w : World} {b n was : Nat} {Q : Nat → Prop} {C : List Int} {ks : List Nat} (h : Stw w b n Q C was ks) : Calls Try.prog 15 #[.pointer (some ⟨b, 0, none⟩)] w (AndO w (.int .i64 (C.length : Int))) := by
  obtain ⟨T, S, h1, h2, _⟩ := h
  rw [← h2.size]; exact len_any h1
/-- No more is kept than so many cells were set. -/
theorem Stw.weight {w : World} {b n was : Nat} {Q : Nat → Prop} {C : List Int} {ks : List Nat} (h : Stw w b n Q C was ks) : ∃ W : Nat, Calls Try.prog 14 #[.pointer (some ⟨b, 0, none⟩)] w (AndO w (.int .i64 (W : Int))) ∧ W ≤ was + ks.length := by
  obtain ⟨T, S, h1, h2, h3, h4, h5, h6⟩ := h
  refine ⟨T.kept.length, weight_any h1, Nat.le_trans h5 (Nat.add_le_add_left ?_ _)⟩
  have hnd : T.new.Nodup := List.Pairwise.filter _ List.nodup_range
  refine pig ks.length (fun i => ks.idxOf (T.new.getD i 0)) T.new.length (fun i hi => ?_) (fun a c hac hc => ?_)
  · have hmem : T.new.getD i 0 ∈ ks := by
      rw [List.getD_eq_getElem?_getD, List.getElem?_eq_getElem hi]
      have := List.getElem_mem hi
      exact h6 _ (by have := (List.mem_filter.1 this).2; simpa using this)
    exact List.idxOf_lt_length_iff.2 hmem
  · have ha : a < T.new.length := by omega
    intro e
    have hm : ∀ i (hi : i < T.new.length), T.new[i] ∈ ks := fun i hi => h6 _ (by have := (List.mem_filter.1 (List.getElem_mem hi)).2; simpa using this)
    simp only [List.getD_eq_getElem?_getD, List.getElem?_eq_getElem ha, List.getElem?_eq_getElem hc, Option.getD_some] at e
    have e2 : T.new[a] = T.new[c] := by
      have q1 := List.getElem_idxOf (List.idxOf_lt_length_iff.2 (hm a ha))
      have q2 := List.getElem_idxOf (List.idxOf_lt_length_iff.2 (hm c hc))
      rw [← q1, ← q2]
      simp only [e]
    exact (List.pairwise_iff_getElem.1 hnd) a c ha hc hac e2
theorem set_stw {w : World} {b n i was : Nat} {Q : Nat → Prop} {C : List Int} {ks : List Nat} (h : Stw w b n Q C was ks) (v : Int) (hi : i < C.length) (hn : n < 1000000) (hC : C.length ≤ 2097152) :
    Calls Try.prog 17 #[.pointer (some ⟨b, 0, none⟩), .int .i64 (i : Int), .int .i64 v] w (fun e w' => e = .returned (.int .i64 0) ∧ Stw w' b (n + 1) (Plus Q w) (C.set i v) was (i :: ks) ∧ Kp Q w w') := by
  obtain ⟨T, S, h1, h2, h3, h4, h5, h6⟩ := h
  refine (set_any (v := v) (h1.mono (Q := Plus Q w) fun k _ q => .inl q) (fun k hk => .inr hk) (by have := h2.nmk; rw [h2.mlen]; omega) (by have := h2.nkp; omega) (by rw [h2.size]; exact hi) (by omega)).mono fun e w' q => ⟨q.1, ⟨T.setc i v, S, q.2.1, h2.setc hi v, h3.setc h2 i v, ?_⟩, q.2.2.mono (plus_of Q w)⟩
  unfold Tr.setc
  by_cases hv : (T.cell i).1 = v
  · rw [if_pos hv]
    exact ⟨h4, h5, fun j hj => List.mem_cons_of_mem _ (h6 j hj)⟩
  · rw [if_neg hv]
    obtain ⟨e1, e2, e3, e4, e5⟩ := keep_parts T ((T.cell i).1, (T.cell i).2, (i : Int))
    have hcell : ∀ j, ((T.keep ((T.cell i).1, (T.cell i).2, (i : Int))).put i (v, (T.era : Int))).cell j = if j = i then (v, (T.era : Int)) else T.cell j := fun j => by
      rw [put_cell]; show (if j = i then _ else nth2 (T.keep _).fs j) = _; rw [e2]; rfl
    have hM : ((T.keep ((T.cell i).1, (T.cell i).2, (i : Int))).put i (v, (T.era : Int))).marks = T.marks := e4
    have hlast := last_same hM
    have hsz : ((T.keep ((T.cell i).1, (T.cell i).2, (i : Int))).put i (v, (T.era : Int))).size = T.size := e1
    have hK : ((T.keep ((T.cell i).1, (T.cell i).2, (i : Int))).put i (v, (T.era : Int))).kept = (T.keep ((T.cell i).1, (T.cell i).2, (i : Int))).kept := rfl
    generalize (T.keep ((T.cell i).1, (T.cell i).2, (i : Int))).put i (v, (T.era : Int)) = U at *
    have hle : T.last.1 ≤ (T.era : Int) := by
      unfold Tr.last
      exact h3.eera _ (by have := List.length_pos_iff.2 h4; omega)
    refine ⟨by rw [hM]; exact h4, ?_, fun j hj => ?_⟩
    · rw [hK]
      have hiT : i < T.size := by rw [h2.size]; exact hi
      by_cases hold : T.last.1 ≤ (T.cell i).2
      · -- it was changed behind the mark already: nothing is kept
        have hke : (T.keep ((T.cell i).1, (T.cell i).2, (i : Int))).kept = T.kept := by
          unfold Tr.keep
          rw [if_neg h4, if_neg (fun q => absurd q.2 (Int.not_lt.2 hold))]
        have hnw : U.new = T.new := by
          unfold Tr.new
          rw [hsz, hlast]
          refine List.filter_congr fun j _ => ?_
          rw [hcell]
          by_cases e : j = i
          · subst e; simp [hold, hle]
          · rw [if_neg e]
        rw [hke, hnw]
        exact h5
      · have hkl : (T.keep ((T.cell i).1, (T.cell i).2, (i : Int))).kept.length ≤ T.kept.length + 1 := by
          rcases e5 with e5 | ⟨_, _, e5⟩ <;> rw [e5] <;> simp
        have hnw : U.new.length = T.new.length + 1 := by
          unfold Tr.new
          rw [hsz, hlast]
          exact filter_step _ _ i (by simpa using hold) (by rw [hcell, if_pos rfl]; simpa using hle) (fun j hj => by rw [hcell, if_neg hj]) T.size hiT
        omega
    · rw [hlast, hcell] at hj
      by_cases e : j = i
      · subst e; exact List.mem_cons_self
      · rw [if_neg e] at hj
        exact List.mem_cons_of_mem _ (h6 j hj)
end Go.Proofs.Ytafcecacldafgaa
