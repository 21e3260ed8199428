/- A queue above a base, and what waits of a list (no statement of its own). -/
import Derived.Test.YtpklbaebfeoceaaQuA
import Derived.Test.YtpklbaebfeoceaaL64
namespace Go.Proofs.Ytpklbaebfeoceaa
open Go.RowKit
set_option linter.unusedVariables false
/-- A queue all of whose blocks are from B on. -/
def QB (B : Nat) (w : World) (b m : Nat) (N : Int) (L : List It) : Prop := ∃ v, QA w B b m N v L ∧ B ≤ b ∧ B ≤ w.heap.size
theorem QB.then {B : Nat} {w w' : World} {b m : Nat} {N : Int} {v v' : Value} {L L' : List It} (h : QA w B b m N v L) (hb : B ≤ b) (hB : B ≤ w.heap.size) (h' : QA w' B b m N v' L') (hk : KQ w b m v w' v') : QB B w' b m N L' ∧ Below B w w' := by
  refine ⟨⟨v', h', hb, Nat.le_trans hB hk.1.size⟩, hk.1.os, hk.1.tape, hk.1.output, hk.1.size, fun k hk1 => hk.1.block k (Nat.lt_of_lt_of_le hk1 hB) fun q => ?_⟩
  obtain ⟨l, f, h1, _⟩ := h
  rcases q with q | q | q
  · omega
  · have := h1.2.2.1.1; omega
  · have := (World.ownsRow.lt h1.2.1 k q).1; omega
theorem QB.perm {B : Nat} {w : World} {b m : Nat} {N : Int} {L L' : List It} (h : QB B w b m N L) (hp : L.Perm L') : QB B w b m N L' := by
  obtain ⟨v, h1, h2⟩ := h
  exact ⟨v, h1.perm hp, h2⟩
theorem QB.keys {B : Nat} {w : World} {b m : Nat} {N : Int} {L : List It} (h : QB B w b m N L) : (L.map (·.1)).Nodup := by obtain ⟨v, h1, _⟩ := h; exact h1.keys
theorem QA.keptRow {w w' : World} {B b m g : Nat} {N : Int} {v : Value} {L : List It} (h : QA w B b m N v L) (hb : B ≤ b) (hg : w.grownBy w' (some g)) (hgB : g < B) : QA w' B b m N v L := by
  obtain ⟨l, f, ⟨h1, h2, h3, h4⟩, h5⟩ := h
  refine ⟨l, f, ⟨h1.kept hg (by simp; omega), h2.kept hg ?_, h3.kept hg ?_, h4⟩, h5⟩
  · by_cases e : v.ownBlock = none
    · exact .inl e
    · refine .inr fun q => ?_
      have := (World.ownsRow.lt h2 g q).1; omega
  · intro q; injection q with q; have := h3.1; omega
theorem QB.keptRow {B g : Nat} {w w' : World} {b m : Nat} {N : Int} {L : List It} (h : QB B w b m N L) (hg : w.grownBy w' (some g)) (hgB : g < B) : QB B w' b m N L := by
  obtain ⟨v, h1, h2, h3⟩ := h
  exact ⟨v, h1.keptRow h2 hg hgB, h2, Nat.le_trans h3 hg.size⟩
theorem QB.kept {B : Nat} {w w' : World} {b m : Nat} {N : Int} {L : List It} (h : QB B w b m N L) (hg : w.grownBy w' none) : QB B w' b m N L := by
  obtain ⟨v, h1, h2, h3⟩ := h
  exact ⟨v, h1.kept hg, h2, Nat.le_trans h3 hg.size⟩
theorem below_of_grown {B : Nat} {w w' : World} (h : w.grownBy w' none) (hB : B ≤ w.heap.size) : Below B w w' := ⟨h.os, h.tape, h.output, h.size, fun k hk => h.block k (by omega) (by simp)⟩
theorem new_b {w : World} {N : Int} : Calls Try.prog 9 #[.int .i64 N] w fun e w' => e = .returned (.pointer (some ⟨w.heap.size + 1, 0, none⟩)) ∧ QB w.heap.size w' (w.heap.size + 1) w.heap.size N [] ∧ Below w.heap.size w w' := by
  refine (new_any N w).mono fun e w' hh => ?_
  obtain ⟨h1, h2, h3, _⟩ := hh
  exact ⟨h1, ⟨_, h2 _ (Nat.le_refl _), by omega, h3.size⟩, below_of_grown h3 (Nat.le_refl _)⟩
/-- What was answered, and the queue behind it. -/
def AndB (B : Nat) (w : World) (b m : Nat) (N : Int) (L : List It) (v : Value) (e : Ending) (w' : World) : Prop := e = .returned v ∧ QB B w' b m N L ∧ Below B w w'
theorem push_b {B : Nat} {w : World} {b m : Nat} {N x p : Int} {L : List It} (h : QB B w b m N L) (hl : L.length < 100000) (h0 : 0 ≤ x) (h1 : x < N) (hN : N ≤ 9223372036854775807) :
    Calls Try.prog 16 #[.pointer (some ⟨b, 0, none⟩), .int .i64 x, .int .i64 p] w (AndB B w b m N ((x, p) :: less L x) (.int .i64 0)) := by
  obtain ⟨v, h2, h3, h4⟩ := h
  refine (push_any h2 hl h0 h1 hN h4).mono fun e w' hh => ?_
  obtain ⟨h5, v', h6, h7⟩ := hh
  exact ⟨h5, QB.then h2 h3 h4 h6 h7⟩
def PopB (B : Nat) (w : World) (b m : Nat) (N : Int) (L : List It) (e : Ending) (w' : World) : Prop := ∃ a, TopE L a e ∧ QB B w' b m N (less L a.1) ∧ Below B w w'
theorem pop_b {B : Nat} {w : World} {b m : Nat} {N : Int} {L : List It} (h : QB B w b m N L) (hl : L.length < 100000) (hL : L ≠ []) :
    Calls Try.prog 11 #[.pointer (some ⟨b, 0, none⟩)] w (PopB B w b m N L) := by
  obtain ⟨v, h2, h3, h4⟩ := h
  refine (pop_any h2 hl hL).mono fun e w' hh => ?_
  obtain ⟨a, h5, v', h6, h7⟩ := hh
  exact ⟨a, h5, QB.then h2 h3 h4 h6 h7⟩
theorem pop_b0 {B : Nat} {w : World} {b m : Nat} {N : Int} (h : QB B w b m N []) :
    Calls Try.prog 11 #[.pointer (some ⟨b, 0, none⟩)] w (AndB B w b m N [] (.tuple #[.int .i64 0, .int .i64 0, .bool false])) := by
  obtain ⟨v, h2, h3, h4⟩ := h
  refine (pop_none h2).mono fun e w' hh => ?_
  obtain ⟨h5, v', h6, h7⟩ := hh
  exact ⟨h5, QB.then h2 h3 h4 h6 h7⟩
theorem drop_b {B : Nat} {w : World} {b m : Nat} {N x : Int} {L : List It} (h : QB B w b m N L) (hl : L.length < 100000) (hx : -9223372036854775808 ≤ x ∧ x ≤ 9223372036854775807) :
    Calls Try.prog 14 #[.pointer (some ⟨b, 0, none⟩), .int .i64 x] w (AndB B w b m N (less L x) (.bool (hasK L x))) := by
  obtain ⟨v, h2, h3, h4⟩ := h
  refine (drop_any h2 hl hx).mono fun e w' hh => ?_
  obtain ⟨h5, v', h6, h7⟩ := hh
  exact ⟨h5, QB.then h2 h3 h4 h6 h7⟩
theorem has_b {B : Nat} {w : World} {b m : Nat} {N x : Int} {L : List It} (h : QB B w b m N L) (hx : -9223372036854775808 ≤ x ∧ x ≤ 9223372036854775807) :
    Calls Try.prog 18 #[.pointer (some ⟨b, 0, none⟩), .int .i64 x] w fun e w' => e = .returned (.bool (hasK L x)) ∧ w = w' := by
  obtain ⟨v, h2, h3, h4⟩ := h
  exact has_any h2 hx
theorem len_b {B : Nat} {w : World} {b m : Nat} {N : Int} {L : List It} (h : QB B w b m N L) :
    Calls Try.prog 17 #[.pointer (some ⟨b, 0, none⟩)] w fun e w' => e = .returned (.int .i64 (L.length : Int)) ∧ w = w' := by
  obtain ⟨v, h2, h3, h4⟩ := h
  exact qlen_any h2
/-- The first k of a list, each with its place. -/
def psI (l : List Int) (k : Nat) : List It := (List.range k).map fun i : Nat => ((i : Int), nthI l i)
theorem psI_len (l : List Int) (k : Nat) : (psI l k).length = k := by simp [psI]
theorem mem_psI {l : List Int} {k : Nat} {y : It} : y ∈ psI l k ↔ ∃ i : Nat, i < k ∧ y = ((i : Int), nthI l i) := by
  simp only [psI, List.mem_map, List.mem_range]
  exact ⟨fun ⟨i, h, e⟩ => ⟨i, h, e.symm⟩, fun ⟨i, h, e⟩ => ⟨i, h, e.symm⟩⟩
theorem psI_succ (l : List Int) (k : Nat) : ((k : Int), nthI l k) :: less (psI l k) (k : Int) = ((k : Int), nthI l k) :: psI l k := by
  congr 1
  unfold less
  rw [List.filter_eq_self]
  intro y hy
  obtain ⟨i, hi, rfl⟩ := mem_psI.1 hy
  simp; omega
theorem psI_perm (l : List Int) (k : Nat) : (((k : Int), nthI l k) :: psI l k).Perm (psI l (k + 1)) := by
  have e : psI l (k + 1) = psI l k ++ [((k : Int), nthI l k)] := by simp [psI, List.range_succ]
  rw [e]
  exact (List.perm_append_comm (l₁ := [((k : Int), nthI l k)]) (l₂ := psI l k))
theorem psI_keys (l : List Int) (k : Nat) : ((psI l k).map (·.1)).Nodup := by
  have e : (psI l k).map (·.1) = (List.range k).map fun i : Nat => (i : Int) := by simp [psI]
  rw [e]
  exact List.Pairwise.map _ (fun a b h => by intro q; exact h (by omega)) List.nodup_range
theorem psI_nodup (l : List Int) (k : Nat) : (psI l k).Nodup := nodup_of_keys (psI_keys l k)
/-- One of them told anew. -/
theorem psI_set (l : List Int) (n i : Nat) (x : Int) (hn : n = l.length) (hi : i < n) : (((i : Int), x) :: less (psI l n) (i : Int)).Perm (psI (l.set i x) n) := by
  refine perm_of_get (List.nodup_cons.2 ⟨fun q => (mem_less.1 q).2 rfl, less_nodup (psI_nodup l n) _⟩) (psI_nodup _ _) fun y => ?_
  rw [List.mem_cons, mem_less, mem_psI, mem_psI]
  constructor
  · rintro (rfl | ⟨⟨j, hj, rfl⟩, hne⟩)
    · exact ⟨i, hi, by rw [nthI_set l i i x (by omega), if_pos rfl]⟩
    · have e : j ≠ i := fun q => hne (by rw [q])
      exact ⟨j, hj, by rw [nthI_set l i j x (by omega), if_neg e]⟩
  · rintro ⟨j, hj, rfl⟩
    by_cases e : j = i
    · subst e; exact .inl (by rw [nthI_set l j j x (by omega), if_pos rfl])
    · exact .inr ⟨⟨j, hj, by rw [nthI_set l i j x (by omega), if_neg e]⟩, by simp; omega⟩
theorem ltI_total {a b : It} (h : ltI b a = false) (hne : a.1 ≠ b.1) : ltI a b = true := by
  simp only [ltI, decide_eq_false_iff_not, decide_eq_true_eq] at h ⊢; omega
theorem less_len {L : List It} (hk : (L.map (·.1)).Nodup) {a : It} (ha : a ∈ L) : (less L a.1).length + 1 = L.length := by
  have hn := nodup_of_keys hk
  have h1 : less L a.1 = L.erase a := by
    rw [hn.erase_eq_filter]
    unfold less
    refine List.filter_congr fun y hy => ?_
    by_cases e : y.1 = a.1
    · have e2 : y = a := by
        obtain ⟨i, hi, e3⟩ := List.mem_iff_getElem.1 hy
        obtain ⟨j, hj, e4⟩ := List.mem_iff_getElem.1 ha
        have hij : i = j := by
          have := (List.pairwise_iff_getElem.1 hk)
          by_cases hlt : i < j
          · exact absurd (by rw [List.getElem_map, List.getElem_map, e3, e4]; exact e) (this i j (by simpa using hi) (by simpa using hj) hlt)
          · by_cases hgt : j < i
            · exact absurd (by rw [List.getElem_map, List.getElem_map, e3, e4]; exact e.symm) (this j i (by simpa using hj) (by simpa using hi) hgt)
            · omega
        subst hij
        rw [← e3, ← e4]
      simp [e2]
    · have e2 : ¬ y = a := fun q => e (by rw [q])
      have h1 : (y.1 == a.1) = false := beq_eq_false_iff_ne.2 e
      have h2 : (y != a) = true := bne_iff_ne.2 e2
      rw [h1, h2]
      rfl
  rw [h1, List.length_erase_of_mem ha]
  have := List.length_pos_of_mem ha
  omega
theorem hasK_less (L : List It) (x : Int) : hasK (less L x) x = false := by
  cases h : hasK (less L x) x with
  | false => rfl
  | true =>
    obtain ⟨y, hy, e⟩ := hasK_iff.1 h
    exact absurd e (mem_less.1 hy).2
end Go.Proofs.Ytpklbaebfeoceaa
