/- The number of lines, and slices of lines (no statement of its own). No condition. -/
import Derived.Test.YtdmldnlgamnkeaaGreatUk
import Derived.Deep.RegionHeldLaw
import Derived.Deep.AppendLies
import Derived.Laws.MakeOwn
namespace Go.Proofs.YtdmldnlgamnkeaaGreat
open Go.RowKit Go.Maps
set_option linter.unusedVariables false
theorem ownsMap_keys {w : World} {P : Program} {k : TypeId} {R : Value → Option (DataW Unit × List MemPlace)} {b n : Nat} {D : DataW Unit} (h : w.ownsMap P k R b n D) (K : Keyed P k) :
    ∃ es, D = .map es ∧ es.Pairwise (fun p q => p.1 ≠ q.1) ∧ ∀ p ∈ es, WideAt.IsKeyLit p.1 := by
  obtain ⟨es, clock, _, F, _, rfl⟩ := h
  refine ⟨_, rfl, ((WideShapes.sorted_perm _).pairwise_iff (fun {_ _} hne => Ne.symm hne)).2 (Maps.fit_apart K F), fun p hp => ?_⟩
  have hp' := (WideShapes.sorted_perm _).mem_iff.1 hp
  obtain ⟨v, hv⟩ := Maps.fit_keys F p hp'
  exact K.key hv
theorem nodup_lenG {α : Type} [BEq α] [LawfulBEq α] : ∀ {V L : List α}, V.Pairwise (· ≠ ·) → (∀ x ∈ V, x ∈ L) → V.length ≤ L.length
  | [], L, _, _ => Nat.zero_le _
  | x :: V, L, h, hs => by
    have hx := hs x (List.mem_cons_self ..)
    have h2 := List.pairwise_cons.1 h
    have ih := nodup_lenG (L := L.erase x) h2.2 fun y hy => (List.mem_erase_of_ne (fun e => h2.1 y hy e.symm)).2 (hs y (List.mem_cons_of_mem _ hy))
    rw [List.length_erase_of_mem hx] at ih
    have : 0 < L.length := List.length_pos_of_mem hx
    show V.length + 1 ≤ L.length
    omega
theorem linesT_nodup (l : List Nat) (o : Int) (f : List Nat → Int) : (linesT l o f).Pairwise (· ≠ ·) := by
  have h : ((linesT l o f).map (numL l)).Pairwise (· < ·) := by
    rw [linesT_num]
    exact List.pairwise_lt_range.filter _
  rw [List.pairwise_map] at h
  exact h.imp fun {a b} hlt e => by rw [e] at hlt; exact Nat.lt_irrefl _ hlt
theorem size_lines {w : World} {b n : Nat} {l : List Nat} {o : Int} {f : List Nat → Int} {D : DataW Unit} (h : w.ownsMap Tryz.prog 77 (plainElem Tryz.prog 2) b n D) (hrep : RepF D l o f) (h6 : l.length ≤ 6) (h32 : ∀ n ∈ l, 1 ≤ n ∧ n ≤ 32) :
    Maps.size D = (linesT l o f).length := by
  classical
  obtain ⟨es, rfl, hp, hk⟩ := ownsMap_keys h keyed
  have h1 : ∀ n ∈ l, 1 ≤ n := fun n hn => (h32 n hn).1
  have hu : ∀ n ∈ l, n ≤ 32 := fun n hn => (h32 n hn).2
  have hh : ∀ k, Maps.has (DataW.map es) k = true ↔ ∃ p ∈ es, p.1.sameKey k = true := fun k => by rw [Maps.has_eq, List.any_eq_true]
  let e1 := es.map (·.1)
  let e2 := (linesT l o f).map keyL
  letI : BEq Lit := instBEqOfDecidableEq
  have m12 : ∀ x, x ∈ es.map (·.1) ↔ x ∈ (linesT l o f).map keyL := fun x => by
    constructor
    · intro hx
      obtain ⟨p, hpe, rfl⟩ := List.mem_map.1 hx
      have hhas := (hh p.1).2 ⟨p, hpe, WideAt.sameKey_self (hk p hpe)⟩
      obtain ⟨t, ht, e⟩ := hrep.2 _ hhas
      rw [e] at hhas ⊢
      rw [(hrep.1 t ht).1] at hhas
      exact List.mem_map.2 ⟨t, (linesT_mem h1 t).2 ⟨ht, of_decide_eq_true hhas⟩, rfl⟩
    · intro hx
      obtain ⟨t, ht, rfl⟩ := List.mem_map.1 hx
      obtain ⟨ht1, ht2⟩ := (linesT_mem h1 t).1 ht
      have := (hrep.1 t ht1).1
      rw [decide_eq_true ht2] at this
      obtain ⟨p, hpe, e⟩ := (hh _).1 this
      exact List.mem_map.2 ⟨p, hpe, WideAt.sameKey_eq e⟩
  have n1 : (es.map (·.1)).Pairwise (· ≠ ·) := by rw [List.pairwise_map]; exact hp
  have n2 : ((linesT l o f).map keyL).Pairwise (· ≠ ·) := by
    rw [List.pairwise_map]
    have h := linesT_nodup l o f
    rw [List.pairwise_iff_getElem] at h ⊢
    intro i j hi hj hij e
    exact h i j hi hj hij (keyL_inj h6 hu ((linesT_mem h1 _).1 (List.getElem_mem hi)).1 ((linesT_mem h1 _).1 (List.getElem_mem hj)).1 e)
  have a := nodup_lenG n1 fun x hx => (m12 x).1 hx
  have b := nodup_lenG n2 fun x hx => (m12 x).2 hx
  rw [List.length_map, List.length_map] at a b
  rw [Maps.size_eq]
  omega
theorem info_line : (Tryz.prog.info? 52).map (fun i => (i.zero, i.size, i.bytes)) = some (some (.agg #[.slice none 0 0, .int .i64 0]), 2, 32) := by kernel_rfl
/-- The cells of lines. -/
def lineC (f : List Nat → Int) (ps : List (Value × List Nat)) : List Value := ps.flatMap fun p => [p.1, .int .i64 (f p.2)]
theorem lineC_snoc (f : List Nat → Int) (ps : List (Value × List Nat)) (p : Value × List Nat) : lineC f (ps ++ [p]) = lineC f ps ++ [p.1, .int .i64 (f p.2)] := by simp [lineC]
theorem lineC_len (f : List Nat → Int) : ∀ ps : List (Value × List Nat), (lineC f ps).length = ps.length * 2
  | [] => rfl
  | p :: ps => by
    have : lineC f (p :: ps) = [p.1, .int .i64 (f p.2)] ++ lineC f ps := rfl
    rw [this, List.length_append, lineC_len f ps]
    simp
    omega
theorem lineC_get (f : List Nat → Int) : ∀ (ps : List (Value × List Nat)) (j : Nat) (h : j < ps.length), (lineC f ps)[2 * j]? = some (ps[j]'h).1 ∧ (lineC f ps)[2 * j + 1]? = some (.int .i64 (f (ps[j]'h).2))
  | p :: ps, 0, h => ⟨rfl, rfl⟩
  | p :: ps, j + 1, h => by
    have e : lineC f (p :: ps) = [p.1, .int .i64 (f p.2)] ++ lineC f ps := rfl
    have h' : j < ps.length := by simpa using h
    have := lineC_get f ps j h'
    rw [e, List.getElem?_append_right (by simp; omega), List.getElem?_append_right (by simp; omega)]
    rw [show 2 * (j + 1) - [p.1, Value.int .i64 (f p.2)].length = 2 * j by simp; omega, show 2 * (j + 1) + 1 - [p.1, Value.int .i64 (f p.2)].length = 2 * j + 1 by simp; omega]
    exact this
/-- A slice that a call has made holds these tuples, each with its cost. -/
def LinesAt (W : World) (base : Nat) (v : Value) (f : List Nat → Int) (ts : List (List Nat)) : Prop :=
  ∃ ps : List (Value × List Nat), ps.map (·.2) = ts ∧ W.ownsRow base 52 2 v ts.length (lineC f ps) ∧ ∀ p ∈ ps, Own W base p.1 p.2
theorem row_below {w w' : World} {base B sz : Nat} {e : TypeId} {v : Value} {n : Nat} {xs : List Value} (h : w.ownsRow base e sz v n xs) (hb : Below B w w') (hB : w.heap.size ≤ B) : w'.ownsRow base e sz v n xs := by
  obtain ⟨h1, ⟨rfl, hn⟩ | ⟨g, cap, cur, rfl, hb', hh, hm, hx, hs, ht⟩⟩ := h
  · exact ⟨h1, .inl ⟨rfl, hn⟩⟩
  · refine ⟨h1, .inr ⟨g, cap, cur, rfl, hb', ?_, hm, hx, hs, ht⟩⟩
    rw [hb.block g (by have := (Array.getElem?_eq_some_iff.1 hh).1; omega)]
    exact hh
theorem LinesAt.below {w w' : World} {base B : Nat} {v : Value} {f : List Nat → Int} {ts : List (List Nat)} (h : LinesAt w base v f ts) (hb : Below B w w') (hB : w.heap.size ≤ B) : LinesAt w' base v f ts := by
  obtain ⟨ps, h0, h1, h2⟩ := h
  exact ⟨ps, h0, row_below h1 hb hB, fun p hp => (h2 p hp).below hb hB⟩
theorem LinesAt.form {w : World} {base : Nat} {v : Value} {f : List Nat → Int} {ts : List (List Nat)} (h : LinesAt w base v f ts) :
    ∃ A c, v = .slice A ts.length c ∧ ∀ j, j < ts.length → ∃ g x, A = some ⟨g, 0, none⟩ ∧ g < w.heap.size ∧ w.cell? ⟨g, 2 * j, none⟩ = some x ∧ w.cell? ⟨g, 2 * j + 1, none⟩ = some (.int .i64 (f (nthT ts j))) ∧ Own w base x (nthT ts j) := by
  obtain ⟨ps, rfl, h1, h2⟩ := h
  have hl := h1.1
  obtain ⟨_, ⟨rfl, hn⟩ | ⟨g, cap, cur, rfl, hb, hh, hm, _, hs, ht⟩⟩ := h1
  · exact ⟨none, 0, by rw [hn], fun j hj => by omega⟩
  · refine ⟨_, cap, rfl, fun j hj => ?_⟩
    have hj' : j < ps.length := by simpa using hj
    obtain ⟨e1, e2⟩ := lineC_get f ps j hj'
    have en : nthT (ps.map (·.2)) j = ps[j].2 := by simp [nthT, List.getD_eq_getElem?_getD, hj']
    refine ⟨g, ps[j].1, rfl, (Array.getElem?_eq_some_iff.1 hh).1, ?_, ?_, by rw [en]; exact h2 _ (List.getElem_mem hj')⟩
    · rw [cell_of_row w g _ cur _ (0, 0) hh]
      rw [← ht, List.getElem?_take_of_lt (by rw [List.length_map] at *; omega)] at e1
      simpa using e1
    · rw [cell_of_row w g _ cur _ (0, 0) hh, en]
      rw [← ht, List.getElem?_take_of_lt (by rw [List.length_map] at *; omega)] at e2
      simpa using e2
theorem Own.apart2 {w : World} {base b2 : Nat} {v u : Value} {l : List Nat} {n : Nat} {xs : List Value} (h : Own w base v l) (k : w.ownsRow b2 52 2 u n xs) : v.ownBlock = none ∨ v.ownBlock ≠ u.ownBlock := by
  cases hv : v.ownBlock with
  | none => exact .inl rfl
  | some g =>
    refine .inr fun e => ?_
    obtain ⟨c, fz, hc⟩ := h.kind g hv
    obtain ⟨c', fz', hc'⟩ := Lib.ownsRow_kind k g e.symm
    rw [hc] at hc'
    cases hc'
theorem LinesAt.push {w w' : World} {base : Nat} {v v' : Value} {f : List Nat → Int} {ts : List (List Nat)} {t : List Nat} {u : Value} {ps : List (Value × List Nat)} (h0 : ps.map (·.2) = ts) (h1 : w.ownsRow base 52 2 v ts.length (lineC f ps)) (h2 : ∀ p ∈ ps, Own w base p.1 p.2)
    (hu : Own w base u t) (hr : w'.ownsRow base 52 2 v' (ts.length + 1) (lineC f ps ++ [u, .int .i64 (f t)])) (hg : w.grownBy w' v.ownBlock) : LinesAt w' base v' f (ts ++ [t]) := by
  refine ⟨ps ++ [(u, t)], by rw [List.map_append, h0]; rfl, by rw [lineC_snoc, List.length_append]; exact hr, fun p hp => ?_⟩
  rcases List.mem_append.1 hp with hp | hp
  · exact (h2 p hp).grown hg ((h2 p hp).apart2 h1)
  · simp at hp
    subst hp
    exact hu.grown hg (hu.apart2 h1)
end Go.Proofs.YtdmldnlgamnkeaaGreat
