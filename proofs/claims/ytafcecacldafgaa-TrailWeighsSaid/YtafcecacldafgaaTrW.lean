/- What a trail brings back: how each call keeps what is known (no statement of its own). -/
import Derived.Test.YtafcecacldafgaaTrV
namespace Go.Proofs.Ytafcecacldafgaa
open Go.RowKit
set_option linter.unusedVariables false
theorem Inv.congr {T T' : Tr} {f f' : Nat → Cl} {S : List (List Cl)} (h : Inv T f S) (hm : T'.marks = T.marks) (hk : T'.kept = T.kept) (hf : ∀ i, f' i = f i) : Inv T' f' S := by
  obtain ⟨a1, a2, a3, a4, a5, a6⟩ := h
  refine ⟨by rw [hm]; exact a1, by rw [hm]; exact a2, by rw [hm, hk]; exact a3, by rw [hm]; exact a4, fun j hj i hi => ?_, by rw [hm]; exact a6⟩
  rw [hm, hk, hf]
  exact a5 j hj i hi
/-- All that is known of a trail, of which S were the cells at its marks; n: how many calls, at least. -/
structure Rel (n : Nat) (T : Tr) (C : List Int) (S : List (List Cl)) : Prop where
  inv : Inv T T.cell S
  cells : T.cells = C
  fsz : T.fs.length ≤ T.size
  eras : ∀ c ∈ T.fs, c.2 ≤ (T.era : Int)
  kera : ∀ k ∈ T.kept, k.2.1 ≤ (T.era : Int)
  ats : ∀ k ∈ T.kept, 0 ≤ k.2.2 ∧ k.2.2 < (T.size : Int)
  low : ∀ j, j < S.length → ∀ k ∈ T.kept.take (nth3 T.marks j).2.2.toNat, k.2.2 < (nth3 T.marks j).2.1
  msz : ∀ j, j < S.length → (nth3 T.marks j).2.1 ≤ (T.size : Int)
  nera : T.era ≤ n
  nmk : S.length ≤ n
  nkp : T.kept.length ≤ n
theorem Rel.more {n k : Nat} {T : Tr} {C : List Int} {S : List (List Cl)} (h : Rel n T C S) (hk : n ≤ k) : Rel k T C S :=
  { h with nera := Nat.le_trans h.nera hk, nmk := Nat.le_trans h.nmk hk, nkp := Nat.le_trans h.nkp hk }
theorem Rel.size {n : Nat} {T : Tr} {C : List Int} {S : List (List Cl)} (h : Rel n T C S) : T.size = C.length := by rw [← h.cells, cells_len]
theorem Rel.mlen {n : Nat} {T : Tr} {C : List Int} {S : List (List Cl)} (h : Rel n T C S) : T.marks.length = S.length := h.inv.len
theorem cells_get (T : Tr) (i : Nat) (h : i < T.cells.length) : T.cells[i] = (T.cell i).1 := by simp [Tr.cells]
theorem Rel.get {n : Nat} {T : Tr} {C : List Int} {S : List (List Cl)} (h : Rel n T C S) {i : Nat} (hi : i < C.length) : C[i] = (T.cell i).1 := by
  obtain ⟨_, rfl, _⟩ := h; exact cells_get T i hi
theorem Rel.era_cell {n : Nat} {T : Tr} {C : List Int} {S : List (List Cl)} (h : Rel n T C S) (i : Nat) : (T.cell i).2 ≤ (T.era : Int) := by
  by_cases hi : i < T.fs.length
  · unfold Tr.cell; rw [nth2_lt hi]; exact h.eras _ (List.getElem_mem hi)
  · rw [cell_none (by omega)]; simp
theorem rel_new (k : Nat) : Rel 0 (fresh k) (List.replicate k 0) [] := by
  refine ⟨⟨rfl, fun j hj => absurd hj (Nat.not_lt_zero _), fun j hj => absurd hj (Nat.not_lt_zero _), fun j hj => absurd hj (Nat.not_lt_zero _), fun j hj => absurd hj (Nat.not_lt_zero _), fun i j _ hj => absurd hj (Nat.not_lt_zero _)⟩, ?_, by simp [fresh], by simp [fresh], by simp [fresh], by simp [fresh], fun j hj => absurd hj (Nat.not_lt_zero _), fun j hj => absurd hj (Nat.not_lt_zero _), by simp [fresh], by simp, by simp [fresh]⟩
  refine List.ext_getElem (by simp [Tr.cells, fresh]) fun i h1 h2 => ?_
  rw [cells_get]
  simp [fresh, Tr.cell, nth2]
theorem keep_parts (T : Tr) (k : Tri) : (T.keep k).size = T.size ∧ (T.keep k).fs = T.fs ∧ (T.keep k).era = T.era ∧ (T.keep k).marks = T.marks ∧ ((T.keep k).kept = T.kept ∨ T.marks ≠ [] ∧ k.2.2 < T.last.2.1 ∧ (T.keep k).kept = T.kept ++ [k]) := by
  unfold Tr.keep
  split
  · exact ⟨rfl, rfl, rfl, rfl, .inl rfl⟩
  · split
    · rename_i h1 h2
      exact ⟨rfl, rfl, rfl, rfl, .inr ⟨h1, h2.1, rfl⟩⟩
    · exact ⟨rfl, rfl, rfl, rfl, .inl rfl⟩
theorem keep_more {T : Tr} {k : Tri} {S : List (List Cl)} (hlen : T.marks.length = S.length) (hkp : ∀ j, j < S.length → 0 ≤ (nth3 T.marks j).2.2 ∧ (nth3 T.marks j).2.2 ≤ (T.kept.length : Int))
    (ke : ∀ q ∈ T.kept, q.2.1 ≤ (T.era : Int)) (at_ : ∀ q ∈ T.kept, 0 ≤ q.2.2 ∧ q.2.2 < (T.size : Int))
    (lo : ∀ j, j < S.length → ∀ q ∈ T.kept.take (nth3 T.marks j).2.2.toNat, q.2.2 < (nth3 T.marks j).2.1) (ms : ∀ j, j < S.length → (nth3 T.marks j).2.1 ≤ (T.size : Int))
    (h1 : k.2.1 ≤ (T.era : Int)) (h2 : 0 ≤ k.2.2) :
    (∀ q ∈ (T.keep k).kept, q.2.1 ≤ ((T.keep k).era : Int)) ∧ (∀ q ∈ (T.keep k).kept, 0 ≤ q.2.2 ∧ q.2.2 < ((T.keep k).size : Int)) ∧
    (∀ j, j < S.length → ∀ q ∈ (T.keep k).kept.take (nth3 (T.keep k).marks j).2.2.toNat, q.2.2 < (nth3 (T.keep k).marks j).2.1) ∧ (∀ j, j < S.length → (nth3 (T.keep k).marks j).2.1 ≤ ((T.keep k).size : Int)) ∧ (T.keep k).kept.length ≤ T.kept.length + 1 := by
  obtain ⟨e1, e2, e3, e4, e5⟩ := keep_parts T k
  rw [e1, e3, e4]
  rcases e5 with e5 | ⟨hne, hl, e5⟩
  · rw [e5]
    exact ⟨ke, at_, lo, ms, by omega⟩
  · have hS : 0 < S.length := by rw [← hlen]; exact List.length_pos_iff.2 hne
    have hls : T.last.2.1 ≤ (T.size : Int) := by unfold Tr.last; rw [hlen]; exact ms _ (by omega)
    rw [e5]
    refine ⟨fun q hq => ?_, fun q hq => ?_, fun j hj q hq => ?_, ms, by simp⟩
    · rcases List.mem_append.1 hq with hq | hq
      · exact ke q hq
      · rw [List.mem_singleton.1 hq]; exact h1
    · rcases List.mem_append.1 hq with hq | hq
      · exact at_ q hq
      · rw [List.mem_singleton.1 hq]; exact ⟨h2, by omega⟩
    · have := hkp j hj
      have hle : (nth3 T.marks j).2.2.toNat ≤ T.kept.length := by omega
      rw [List.take_append_of_le_length hle] at hq
      exact lo j hj q hq
theorem set_cells {T : Tr} {C : List Int} (hc : T.cells = C) (T' : Tr) (hs : T'.size = T.size) (i : Nat) (v : Int) (h : ∀ j, (T'.cell j).1 = if j = i then v else (T.cell j).1) : T'.cells = C.set i v := by
  subst hc
  refine List.ext_getElem (by simp [Tr.cells, hs]) fun j h1 h2 => ?_
  rw [cells_get, h j, List.getElem_set]
  by_cases e : j = i
  · rw [if_pos e, if_pos e.symm]
  · rw [if_neg e, if_neg (Ne.symm e), cells_get]
theorem Rel.setc {n : Nat} {T : Tr} {C : List Int} {S : List (List Cl)} (h : Rel n T C S) {i : Nat} (hi : i < C.length) (v : Int) : Rel (n + 1) (T.setc i v) (C.set i v) S := by
  unfold Tr.setc
  by_cases hv : (T.cell i).1 = v
  · rw [if_pos hv]
    have e : C.set i v = C := by
      rw [← hv, ← h.get hi]; exact List.set_getElem_self _
    rw [e]
    exact h.more (by omega)
  · rw [if_neg hv]
    obtain ⟨e1, e2, e3, e4, e5⟩ := keep_parts T ((T.cell i).1, (T.cell i).2, (i : Int))
    have hcell : ∀ j, ((T.keep ((T.cell i).1, (T.cell i).2, (i : Int))).put i (v, (T.era : Int))).cell j = if j = i then (v, (T.era : Int)) else T.cell j := fun j => by
      rw [put_cell]; show (if j = i then _ else nth2 (T.keep _).fs j) = _; rw [e2]; rfl
    obtain ⟨q1, q2, q3, q4, q5⟩ := keep_more (k := ((T.cell i).1, (T.cell i).2, (i : Int))) h.inv.len h.inv.kp h.kera h.ats h.low h.msz (h.era_cell i) (by simp)
    have hsz := h.size
    refine ⟨(h.inv.keep (f' := fun j => if j = i then (v, (T.era : Int)) else T.cell j) i (fun j hj => if_neg hj)).congr rfl rfl hcell, set_cells h.cells ((T.keep ((T.cell i).1, (T.cell i).2, (i : Int))).put i (v, (T.era : Int))) e1 i v (fun j => ?_), ?_, fun c hc => ?_, q1, q2, q3, q4, ?_, ?_, ?_⟩
    · rw [hcell]; split <;> rfl
    · have := h.fsz
      rw [put_len, e2]
      show max T.fs.length (i + 1) ≤ (T.keep _).size
      rw [e1]; omega
    · show c.2 ≤ ((T.keep _).era : Int)
      rw [e3]
      rcases put_mem hc with rfl | rfl | hc
      · exact Int.le_refl _
      · simp
      · rw [e2] at hc; exact h.eras c hc
    · have := h.nera
      show (T.keep _).era ≤ n + 1
      rw [e3]; omega
    · have := h.nmk; omega
    · have := h.nkp
      have q5' : ((T.keep ((T.cell i).1, (T.cell i).2, (i : Int))).put i (v, (T.era : Int))).kept.length ≤ T.kept.length + 1 := q5
      omega
/-- All cells. -/
def Tr.all (T : Tr) : List Cl := (List.range T.size).map T.cell
theorem all_len (T : Tr) : T.all.length = T.size := by simp [Tr.all]
theorem all_get (T : Tr) (i : Nat) (h : i < T.all.length) : T.all[i] = T.cell i := by simp [Tr.all]
theorem all_fst (T : Tr) : T.all.map Prod.fst = T.cells := by simp [Tr.all, Tr.cells]
theorem Rel.mark {n : Nat} {T : Tr} {C : List Int} {S : List (List Cl)} (h : Rel n T C S) : Rel (n + 1) T.mark C (S ++ [T.all]) := by
  have hl := h.inv.len
  have hnew : nth3 (T.marks ++ [(((T.era + 1 : Nat) : Int), (T.size : Int), (T.kept.length : Int))]) S.length = (((T.era + 1 : Nat) : Int), (T.size : Int), (T.kept.length : Int)) := by rw [← hl]; exact nth3_new _ _
  have hold : ∀ j, j < S.length → nth3 (T.marks ++ [(((T.era + 1 : Nat) : Int), (T.size : Int), (T.kept.length : Int))]) j = nth3 T.marks j := fun j hj => nth3_old (by omega)
  have hj' : ∀ j, j < (S ++ [T.all]).length → j < S.length ∨ j = S.length := fun j hj => by simp at hj; omega
  refine ⟨⟨by simp [Tr.mark, hl], fun j hj => ?_, fun j hj => ?_, fun j hj => ?_, fun j hj i hi => ?_, fun i j hij hj => ?_⟩, h.cells, h.fsz, fun c hc => ?_, fun k hk => ?_, h.ats, fun j hj => ?_, fun j hj => ?_, ?_, ?_, ?_⟩
  · show (nth3 (T.marks ++ [_]) j).2.1 = _
    rcases hj' j hj with hj | rfl
    · rw [hold j hj, List.getElem_append_left hj]; exact h.inv.size j hj
    · rw [hnew]; simp [all_len]
  · show 0 ≤ (nth3 (T.marks ++ [_]) j).2.2 ∧ (nth3 (T.marks ++ [_]) j).2.2 ≤ (T.kept.length : Int)
    rcases hj' j hj with hj | rfl
    · rw [hold j hj]; exact h.inv.kp j hj
    · rw [hnew]; simp
  · show ∀ c : Cl, c ∈ _ → c.2 < (nth3 (T.marks ++ [_]) j).1
    rcases hj' j hj with hj | rfl
    · rw [hold j hj, List.getElem_append_left hj]; exact h.inv.era j hj
    · rw [hnew]
      intro c hc
      simp only [List.getElem_concat_length] at hc
      obtain ⟨i, hi, rfl⟩ := List.mem_map.1 hc
      have := h.era_cell i
      show _ < ((T.era + 1 : Nat) : Int)
      omega
  · show orig (T.kept.drop (nth3 (T.marks ++ [_]) j).2.2.toNat) i (T.cell i) = _
    rcases hj' j hj with hj | rfl
    · rw [hold j hj]
      simp only [List.getElem_append_left hj] at hi ⊢
      exact h.inv.was j hj i hi
    · rw [hnew]
      simp only [List.getElem_concat_length] at hi ⊢
      rw [all_get]
      simp [orig]
  · show (nth3 (T.marks ++ [_]) i).2.1 ≤ (nth3 (T.marks ++ [_]) j).2.1 ∧ (nth3 (T.marks ++ [_]) i).2.2 ≤ (nth3 (T.marks ++ [_]) j).2.2
    rcases hj' j hj with hj | rfl
    · rw [hold j hj, hold i (by omega)]; exact h.inv.mono i j hij hj
    · rw [hnew]
      rcases hj' i (by omega) with hi | rfl
      · rw [hold i hi]; exact ⟨h.msz i hi, (h.inv.kp i hi).2⟩
      · rw [hnew]; simp
  · have := h.eras c hc
    show _ ≤ ((T.era + 1 : Nat) : Int)
    omega
  · have := h.kera k hk
    show _ ≤ ((T.era + 1 : Nat) : Int)
    omega
  · show ∀ k ∈ T.kept.take (nth3 (T.marks ++ [_]) j).2.2.toNat, _ < (nth3 (T.marks ++ [_]) j).2.1
    rcases hj' j hj with hj | rfl
    · rw [hold j hj]; exact h.low j hj
    · rw [hnew]
      intro k hk
      exact (h.ats k (List.mem_of_mem_take hk)).2
  · show (nth3 (T.marks ++ [_]) j).2.1 ≤ (T.size : Int)
    rcases hj' j hj with hj | rfl
    · rw [hold j hj]; exact h.msz j hj
    · rw [hnew]; exact Int.le_refl _
  · have := h.nera
    show T.era + 1 ≤ n + 1
    omega
  · have := h.nmk; simp; omega
  · have := h.nkp
    show T.kept.length ≤ n + 1
    omega
theorem Rel.grow {n : Nat} {T : Tr} {C : List Int} {S : List (List Cl)} (h : Rel n T C S) (k : Nat) : Rel n (T.grow k) (C ++ List.replicate k 0) S := by
  refine ⟨h.inv.congr rfl rfl fun _ => rfl, ?_, ?_, h.eras, h.kera, fun q hq => ?_, h.low, fun j hj => ?_, h.nera, h.nmk, h.nkp⟩
  · have hc := h.cells
    subst hc
    refine List.ext_getElem (by simp [Tr.cells, Tr.grow]) fun i h1 h2 => ?_
    rw [cells_get]
    by_cases hi : i < T.cells.length
    · rw [List.getElem_append_left hi, cells_get]; rfl
    · rw [List.getElem_append_right (by omega), List.getElem_replicate]
      have : (T.grow k).cell i = (0, 0) := cell_none (T := T.grow k) (by have := h.fsz; rw [cells_len] at hi; show T.fs.length ≤ i; omega)
      rw [this]
  · have := h.fsz
    show T.fs.length ≤ T.size + k
    omega
  · have := h.ats q hq
    show _ ∧ _ < ((T.size + k : Nat) : Int)
    omega
  · have := h.msz j hj
    show (nth3 T.marks j).2.1 ≤ ((T.size + k : Nat) : Int)
    omega
theorem shrink_parts (T : Tr) (n : Nat) : (T.shrink n).size = n ∧ (T.shrink n).era = T.era ∧ (T.shrink n).marks = T.marks ∧ (T.shrink n).kept = T.kept ∧ (T.fs.length ≤ T.size → (T.shrink n).fs.length ≤ n) ∧ (∀ c ∈ (T.shrink n).fs, c ∈ T.fs) ∧ (∀ i, i < n → (T.shrink n).cell i = T.cell i) := by
  unfold Tr.shrink
  split
  · rename_i h
    subst h
    exact ⟨rfl, rfl, rfl, rfl, fun h => h, fun c hc => hc, fun i _ => rfl⟩
  · refine ⟨rfl, rfl, rfl, rfl, fun _ => by simp; omega, fun c hc => List.mem_of_mem_take hc, fun i hi => ?_⟩
    show nth2 (T.fs.take n) i = nth2 T.fs i
    unfold nth2
    rw [List.getD_eq_getElem?_getD, List.getD_eq_getElem?_getD, List.getElem?_take_of_lt hi]
theorem back_mem {T : Tr} {l : List Tri} {c : Cl} (h : c ∈ (T.back l).fs) : c ∈ T.fs ∨ c = (0, 0) ∨ ∃ k ∈ l, c = (k.1, k.2.1) := by
  induction l with
  | nil => exact .inl h
  | cons k l ih =>
    have h' : c ∈ ((T.back l).put k.2.2.toNat (k.1, k.2.1)).fs := h
    rcases put_mem h' with rfl | rfl | h'
    · exact .inr (.inr ⟨k, List.mem_cons_self, rfl⟩)
    · exact .inr (.inl rfl)
    · rcases ih h' with h' | h' | ⟨q, hq, e⟩
      · exact .inl h'
      · exact .inr (.inl h')
      · exact .inr (.inr ⟨q, List.mem_cons_of_mem _ hq, e⟩)
theorem take_drop {l : List Tri} {a b : Nat} (h : a ≤ b) : (l.take b).drop a ++ l.drop b = l.drop a := by
  by_cases hb : b ≤ l.length
  · rw [← List.drop_append_of_le_length (by simp; omega), List.take_append_drop]
  · rw [List.take_of_length_le (by omega), List.drop_of_length_le (i := b) (by omega), List.append_nil]
theorem Rel.undo {n : Nat} {T : Tr} {C : List Int} {S : List (List Cl)} (h : Rel n T C S) {m : Nat} (hm : m < S.length) : Rel n (T.undo m) (S[m].map Prod.fst) (S.take m) := by
  obtain ⟨y, hy⟩ : ∃ y, nth3 T.marks m = y := ⟨_, rfl⟩
  have hsz := h.inv.size m hm
  have hkp := h.inv.kp m hm
  have hms := h.msz m hm
  have hlow := h.low m hm
  have hwas := h.inv.was m hm
  have hl := h.inv.len
  rw [hy] at hsz hkp hms hlow hwas
  obtain ⟨s, hs⟩ : ∃ s, S[m].length = s := ⟨_, rfl⟩
  obtain ⟨kp, hkp'⟩ : ∃ kp : Nat, y.2.2 = (kp : Int) := ⟨y.2.2.toNat, by omega⟩
  rw [hs] at hsz
  rw [hkp'] at hkp hlow hwas
  rw [Int.toNat_natCast] at hlow hwas
  have hu : T.undo m = { T.back (T.kept.drop kp) with marks := T.marks.take m, kept := T.kept.take kp }.shrink s := by
    unfold Tr.undo; rw [hy, hsz, hkp', Int.toNat_natCast, Int.toNat_natCast]
  rw [hu]
  obtain ⟨B, hB⟩ : ∃ B, T.back (T.kept.drop kp) = B := ⟨_, rfl⟩
  obtain ⟨b1, b2, b3, b4⟩ := back_same T (T.kept.drop kp)
  have hat : ∀ k ∈ T.kept.drop kp, 0 ≤ k.2.2 ∧ k.2.2 < (T.size : Int) := fun k hk => h.ats k (List.mem_of_mem_drop hk)
  have bl := back_len T (T.kept.drop kp) T.size h.fsz hat
  have bc := back_cell T (T.kept.drop kp) (fun k hk => (hat k hk).1)
  rw [hB] at b1 b2 b3 b4 bl bc ⊢
  obtain ⟨e1, e2, e3, e4, e5, e6, e7⟩ := shrink_parts { B with marks := T.marks.take m, kept := T.kept.take kp } s
  generalize ({ B with marks := T.marks.take m, kept := T.kept.take kp } : Tr).shrink s = U at *
  have hcl : ∀ i, i < s → U.cell i = orig (T.kept.drop kp) i (T.cell i) := fun i hi => (e7 i hi).trans (bc i)
  have hmm : ∀ j, j < m → nth3 U.marks j = nth3 T.marks j := fun j hj => by rw [e3]; exact nth3_take hj
  have hSl : (S.take m).length = m := by simp; omega
  have hSg : ∀ j (hj : j < (S.take m).length), (S.take m)[j] = S[j]'(by rw [hSl] at hj; omega) := fun j hj => by simp
  have hk' : ∀ j, j < m → (nth3 T.marks j).2.2 ≤ (kp : Int) ∧ (nth3 T.marks j).2.1 ≤ (s : Int) := fun j hj => by
    have := h.inv.mono j m (by omega) hm
    rw [hy, hkp', hsz] at this
    exact ⟨this.2, this.1⟩
  refine ⟨⟨by rw [e3]; simp; omega, fun j hj => ?_, fun j hj => ?_, fun j hj => ?_, fun j hj i hi => ?_, fun i j hij hj => ?_⟩, ?_, ?_, fun c hc => ?_, fun k hk => ?_, fun k hk => ?_, fun j hj => ?_, fun j hj => ?_, ?_, ?_, ?_⟩
  · rw [hSl] at hj; simp only [hmm j hj, hSg]; exact h.inv.size j (by omega)
  · rw [hSl] at hj
    have := h.inv.kp j (by omega)
    have := hk' j hj
    rw [hmm j hj, e4]
    simp only [List.length_take]
    omega
  · rw [hSl] at hj; simp only [hmm j hj, hSg]; exact h.inv.era j (by omega)
  · have hjm : j < m := by rw [hSl] at hj; exact hj
    have hi' : i < S[j].length := by simpa using hi
    have q1 := h.inv.size j (by omega)
    have q2 := hk' j hjm
    have q3 := h.inv.kp j (by omega)
    simp only [hmm j hjm, hSg]
    rw [hcl i (by omega), e4, ← orig_append, take_drop (by omega)]
    exact h.inv.was j (by omega) i hi'
  · rw [hSl] at hj; rw [hmm j hj, hmm i (by omega)]; exact h.inv.mono i j hij (by omega)
  · refine List.ext_getElem (by rw [cells_len, e1]; simp [hs]) fun i h1 h2 => ?_
    have hi : i < s := by rw [cells_len, e1] at h1; exact h1
    rw [cells_get, hcl i hi, hwas i (by omega)]
    simp
  · rw [e1]; exact e5 (by rw [show ({ B with marks := T.marks.take m, kept := T.kept.take kp } : Tr).size = B.size from rfl, b4]; exact bl)
  · rw [e2]
    show c.2 ≤ (B.era : Int)
    rw [b3]
    have := e6 c hc
    have hc' : c ∈ (T.back (T.kept.drop kp)).fs := by rw [hB]; exact this
    rcases back_mem hc' with q | rfl | ⟨k, hk, rfl⟩
    · exact h.eras c q
    · simp
    · exact h.kera k (List.mem_of_mem_drop hk)
  · rw [e2]
    show _ ≤ (B.era : Int)
    rw [b3]
    rw [e4] at hk
    exact h.kera k (List.mem_of_mem_take hk)
  · rw [e4] at hk
    rw [e1]
    have := hlow k hk
    rw [hsz] at this
    exact ⟨(h.ats k (List.mem_of_mem_take hk)).1, this⟩
  · rw [hSl] at hj
    rw [hmm j hj, e4]
    intro k hk
    simp only [List.take_take] at hk
    have q2 := hk' j hj
    rw [Nat.min_eq_left (by omega)] at hk
    exact h.low j (by omega) k hk
  · rw [hSl] at hj
    rw [hmm j hj, e1]
    exact (hk' j hj).2
  · rw [e2]; have := h.nera; show B.era ≤ n; rw [b3]; exact this
  · have := h.nmk; rw [hSl]; omega
  · have := h.nkp; rw [e4]; simp only [List.length_take]; omega
/-- What is forgotten from mark m on: what the mark ahead needs is kept again. -/
def Tr.forget (T : Tr) (m : Nat) : Tr :=
  (T.kept.drop (nth3 T.marks m).2.2.toNat).foldl (fun T k => T.keep k) { T with marks := T.marks.take m, kept := T.kept.take (nth3 T.marks m).2.2.toNat }
/-- What is known while it is kept again. -/
structure RelF (T0 T : Tr) (f : Nat → Cl) (S : List (List Cl)) : Prop where
  inv : Inv T f S
  same : T.fs = T0.fs ∧ T.size = T0.size ∧ T.era = T0.era
  kera : ∀ k ∈ T.kept, k.2.1 ≤ (T.era : Int)
  ats : ∀ k ∈ T.kept, 0 ≤ k.2.2 ∧ k.2.2 < (T.size : Int)
  low : ∀ j, j < S.length → ∀ k ∈ T.kept.take (nth3 T.marks j).2.2.toNat, k.2.2 < (nth3 T.marks j).2.1
  msz : ∀ j, j < S.length → (nth3 T.marks j).2.1 ≤ (T.size : Int)
theorem RelF.step {T0 T : Tr} {k : Tri} {l : List Tri} {S : List (List Cl)} (h : RelF T0 T (fun i => orig (k :: l) i (T0.cell i)) S) (h1 : k.2.1 ≤ (T0.era : Int)) (h2 : 0 ≤ k.2.2) :
    RelF T0 (T.keep k) (fun i => orig l i (T0.cell i)) S := by
  obtain ⟨a, ha⟩ : ∃ a : Nat, k.2.2 = (a : Int) := ⟨k.2.2.toNat, by omega⟩
  obtain ⟨e1, e2, e3, e4, e5⟩ := keep_parts T k
  obtain ⟨q1, q2, q3, q4, q5⟩ := keep_more (k := k) h.inv.len h.inv.kp h.kera h.ats h.low h.msz (by rw [h.same.2.2]; exact h1) h2
  have hk : k = ((orig (k :: l) a (T0.cell a)).1, (orig (k :: l) a (T0.cell a)).2, (a : Int)) := by
    simp only [orig, if_pos ha]; rw [← ha]
  refine ⟨?_, ⟨e2.trans h.same.1, e1.trans h.same.2.1, e3.trans h.same.2.2⟩, q1, q2, q3, q4⟩
  rw [hk]
  refine h.inv.keep a fun i hi => ?_
  simp only [orig]
  rw [if_neg (by rw [ha]; omega)]
theorem RelF.all {T0 : Tr} {S : List (List Cl)} : ∀ (l : List Tri) (T : Tr), RelF T0 T (fun i => orig l i (T0.cell i)) S → (∀ k ∈ l, k.2.1 ≤ (T0.era : Int) ∧ 0 ≤ k.2.2) → RelF T0 (l.foldl (fun T k => T.keep k) T) T0.cell S ∧ (l.foldl (fun T k => T.keep k) T).kept.length ≤ T.kept.length + l.length
  | [], T, h, _ => ⟨h, Nat.le_refl _⟩
  | k :: l, T, h, hk => by
    have hs := h.step (hk k List.mem_cons_self).1 (hk k List.mem_cons_self).2
    obtain ⟨r1, r2⟩ := RelF.all l (T.keep k) hs (fun q hq => hk q (List.mem_cons_of_mem _ hq))
    refine ⟨r1, Nat.le_trans r2 ?_⟩
    obtain ⟨e1, e2, e3, e4, e5⟩ := keep_parts T k
    rcases e5 with e5 | ⟨_, _, e5⟩ <;> rw [e5] <;> simp <;> omega
theorem Rel.forget {n : Nat} {T : Tr} {C : List Int} {S : List (List Cl)} (h : Rel n T C S) {m : Nat} (hm : m < S.length) : Rel n (T.forget m) C (S.take m) := by
  obtain ⟨y, hy⟩ : ∃ y, nth3 T.marks m = y := ⟨_, rfl⟩
  have hkp := h.inv.kp m hm
  have hl := h.inv.len
  rw [hy] at hkp
  obtain ⟨kp, hkp'⟩ : ∃ kp : Nat, y.2.2 = (kp : Int) := ⟨y.2.2.toNat, by omega⟩
  rw [hkp'] at hkp
  have hu : T.forget m = (T.kept.drop kp).foldl (fun T k => T.keep k) { T with marks := T.marks.take m, kept := T.kept.take kp } := by
    unfold Tr.forget; rw [hy, hkp', Int.toNat_natCast]
  rw [hu]
  have hmm : ∀ j, j < m → nth3 (T.marks.take m) j = nth3 T.marks j := fun j hj => nth3_take hj
  have hSl : (S.take m).length = m := by simp; omega
  have hSg : ∀ j (hj : j < (S.take m).length), (S.take m)[j] = S[j]'(by rw [hSl] at hj; omega) := fun j hj => by simp
  have hk' : ∀ j, j < m → (nth3 T.marks j).2.2 ≤ (kp : Int) := fun j hj => by
    have := h.inv.mono j m (by omega) hm
    rw [hy, hkp'] at this
    exact this.2
  have h0 : RelF T { T with marks := T.marks.take m, kept := T.kept.take kp } (fun i => orig (T.kept.drop kp) i (T.cell i)) (S.take m) := by
    refine ⟨⟨by simp; omega, fun j hj => ?_, fun j hj => ?_, fun j hj => ?_, fun j hj i hi => ?_, fun i j hij hj => ?_⟩, ⟨rfl, rfl, rfl⟩, fun k hk => h.kera k (List.mem_of_mem_take hk), fun k hk => h.ats k (List.mem_of_mem_take hk), fun j hj => ?_, fun j hj => ?_⟩
    · rw [hSl] at hj; simp only [hmm j hj, hSg]; exact h.inv.size j (by omega)
    · rw [hSl] at hj
      have := h.inv.kp j (by omega)
      have := hk' j hj
      simp only [hmm j hj, List.length_take]
      omega
    · rw [hSl] at hj; simp only [hmm j hj, hSg]; exact h.inv.era j (by omega)
    · have hjm : j < m := by rw [hSl] at hj; exact hj
      have hi' : i < S[j].length := by simpa using hi
      have q2 := hk' j hjm
      simp only [hmm j hjm, hSg]
      rw [← orig_append, take_drop (by omega)]
      exact h.inv.was j (by omega) i hi'
    · rw [hSl] at hj
      simp only [hmm j hj, hmm i (by omega)]
      exact h.inv.mono i j hij (by omega)
    · rw [hSl] at hj
      simp only [hmm j hj, List.take_take]
      have q2 := hk' j hj
      rw [Nat.min_eq_left (by omega)]
      exact h.low j (by omega)
    · rw [hSl] at hj
      simp only [hmm j hj]
      exact h.msz j (by omega)
  obtain ⟨r, rl⟩ := RelF.all (T.kept.drop kp) _ h0 (fun k hk => ⟨h.kera k (List.mem_of_mem_drop hk), (h.ats k (List.mem_of_mem_drop hk)).1⟩)
  generalize (T.kept.drop kp).foldl (fun T k => T.keep k) { T with marks := T.marks.take m, kept := T.kept.take kp } = U at *
  obtain ⟨s1, s2, s3⟩ := r.same
  have hc : ∀ i, U.cell i = T.cell i := fun i => by unfold Tr.cell; rw [s1]
  refine ⟨r.inv.congr rfl rfl hc, ?_, by rw [s1, s2]; exact h.fsz, by rw [s1, s3]; exact h.eras, r.kera, r.ats, r.low, r.msz, by rw [s3]; exact h.nera, by rw [hSl]; have := h.nmk; omega, ?_⟩
  · rw [← h.cells]
    unfold Tr.cells
    rw [s2]
    simp only [hc]
  · have := h.nkp
    simp only [List.length_take, List.length_drop] at rl
    omega
end Go.Proofs.Ytafcecacldafgaa
