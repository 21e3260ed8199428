/- The number of lines, and slices of lines (no statement of its own). No condition. -/
import Derived.Test.YteocbgcgfllieaaGreatDoorUkw
import Derived.Test.YteocbgcgfllieaaGreatDoorRwW
import Derived.Deep.RegionHeldLaw
import Derived.Deep.AppendLies
import Derived.Laws.MakeOwn
namespace Go.Proofs.YteocbgcgfllieaaGreatDoor
open Go.RowKit Go.Maps
set_option linter.unusedVariables false
/-- The cells of lines. -/
def lineC (f : List Nat → Int) (ps : List (Value × List Nat)) : List Value := ps.flatMap fun p => [p.1, .int .i64 (f p.2)]
theorem lineC_snoc (f : List Nat → Int) (ps : List (Value × List Nat)) (p : Value × List Nat) : lineC f (ps ++ [p]) = lineC f ps ++ [p.1, .int .i64 (f p.2)] := by simp [lineC]
theorem lineC_len (f : List Nat → Int) : ∀ ps : List (Value × List Nat), (lineC f ps).length = ps.length * 2
  | [] => rfl
  | p :: ps => by
    have : lineC f (p :: ps) = [p.1, .int .i64 (f p.2)] ++ lineC f ps := rfl
    rw [this, List.length_append, lineC_len f ps]
    simp
    omega
theorem lineC_get (f : List Nat → Int) : ∀ (ps : List (Value × List Nat)) (j : Nat) (h : j < ps.length), (lineC f ps)[2 * j]? = some (ps[j]'h).1 ∧ (lineC f ps)[2 * j + 1]? = some (.int .i64 (f (ps[j]'h).2))
  | p :: ps, 0, h => ⟨rfl, rfl⟩
  | p :: ps, j + 1, h => by
    have e : lineC f (p :: ps) = [p.1, .int .i64 (f p.2)] ++ lineC f ps := rfl
    have h' : j < ps.length := by simpa using h
    have := lineC_get f ps j h'
    rw [e, List.getElem?_append_right (by simp; omega), List.getElem?_append_right (by simp; omega)]
    rw [show 2 * (j + 1) - [p.1, Value.int .i64 (f p.2)].length = 2 * j by simp; omega, show 2 * (j + 1) + 1 - [p.1, Value.int .i64 (f p.2)].length = 2 * j + 1 by simp; omega]
    exact this
theorem row_belowL {w w' : World} {base B sz : Nat} {e : TypeId} {v : Value} {n : Nat} {xs : List Value} (h : w.ownsRow base e sz v n xs) (hb : Below B w w') (hB : w.heap.size ≤ B) : w'.ownsRow base e sz v n xs := by
  obtain ⟨h1, ⟨rfl, hn⟩ | ⟨g, cap, cur, rfl, hb', hh, hm, hx, hs, ht⟩⟩ := h
  · exact ⟨h1, .inl ⟨rfl, hn⟩⟩
  · refine ⟨h1, .inr ⟨g, cap, cur, rfl, hb', ?_, hm, hx, hs, ht⟩⟩
    rw [hb.block g (by have := (Array.getElem?_eq_some_iff.1 hh).1; omega)]
    exact hh
/-- A slice that a call has made holds these tuples, each with its cost. -/
def LinesAt (W : World) (base : Nat) (v : Value) (f : List Nat → Int) (ts : List (List Nat)) : Prop :=
  ∃ ps : List (Value × List Nat), ps.map (·.2) = ts ∧ W.ownsRow base 130 2 v ts.length (lineC f ps) ∧ ∀ p ∈ ps, Own W base p.1 p.2
theorem LinesAt.below {w w' : World} {base B : Nat} {v : Value} {f : List Nat → Int} {ts : List (List Nat)} (h : LinesAt w base v f ts) (hb : Below B w w') (hB : w.heap.size ≤ B) : LinesAt w' base v f ts := by
  obtain ⟨ps, h0, h1, h2⟩ := h
  exact ⟨ps, h0, row_belowL h1 hb hB, fun p hp => (h2 p hp).below hb hB⟩
theorem LinesAt.form {w : World} {base : Nat} {v : Value} {f : List Nat → Int} {ts : List (List Nat)} (h : LinesAt w base v f ts) :
    ∃ A c, v = .slice A ts.length c ∧ ∀ j, j < ts.length → ∃ g x, A = some ⟨g, 0, none⟩ ∧ g < w.heap.size ∧ w.cell? ⟨g, 2 * j, none⟩ = some x ∧ w.cell? ⟨g, 2 * j + 1, none⟩ = some (.int .i64 (f (nthT ts j))) ∧ Own w base x (nthT ts j) := by
  obtain ⟨ps, rfl, h1, h2⟩ := h
  have hl := h1.1
  obtain ⟨_, ⟨rfl, hn⟩ | ⟨g, cap, cur, rfl, hb, hh, hm, _, hs, ht⟩⟩ := h1
  · exact ⟨none, 0, by rw [hn], fun j hj => by omega⟩
  · refine ⟨_, cap, rfl, fun j hj => ?_⟩
    have hj' : j < ps.length := by simpa using hj
    obtain ⟨e1, e2⟩ := lineC_get f ps j hj'
    have en : nthT (ps.map (·.2)) j = ps[j].2 := by simp [nthT, List.getD_eq_getElem?_getD, hj']
    refine ⟨g, ps[j].1, rfl, (Array.getElem?_eq_some_iff.1 hh).1, ?_, ?_, by rw [en]; exact h2 _ (List.getElem_mem hj')⟩
    · rw [cell_of_row w g _ cur _ (0, 0) hh]
      rw [← ht, List.getElem?_take_of_lt (by rw [List.length_map] at *; omega)] at e1
      simpa using e1
    · rw [cell_of_row w g _ cur _ (0, 0) hh, en]
      rw [← ht, List.getElem?_take_of_lt (by rw [List.length_map] at *; omega)] at e2
      simpa using e2
theorem Own.apart2 {w : World} {base b2 : Nat} {v u : Value} {l : List Nat} {n : Nat} {xs : List Value} (h : Own w base v l) (k : w.ownsRow b2 130 2 u n xs) : v.ownBlock = none ∨ v.ownBlock ≠ u.ownBlock := by
  cases hv : v.ownBlock with
  | none => exact .inl rfl
  | some g =>
    refine .inr fun e => ?_
    obtain ⟨c, fz, hc⟩ := h.kind g hv
    obtain ⟨c', fz', hc'⟩ := Lib.ownsRow_kind k g e.symm
    rw [hc] at hc'
    cases hc'
theorem LinesAt.push {w w' : World} {base : Nat} {v v' : Value} {f : List Nat → Int} {ts : List (List Nat)} {t : List Nat} {u : Value} {ps : List (Value × List Nat)} (h0 : ps.map (·.2) = ts) (h1 : w.ownsRow base 130 2 v ts.length (lineC f ps)) (h2 : ∀ p ∈ ps, Own w base p.1 p.2)
    (hu : Own w base u t) (hr : w'.ownsRow base 130 2 v' (ts.length + 1) (lineC f ps ++ [u, .int .i64 (f t)])) (hg : w.grownBy w' v.ownBlock) : LinesAt w' base v' f (ts ++ [t]) := by
  refine ⟨ps ++ [(u, t)], by rw [List.map_append, h0]; rfl, by rw [lineC_snoc, List.length_append]; exact hr, fun p hp => ?_⟩
  rcases List.mem_append.1 hp with hp | hp
  · exact (h2 p hp).grown hg ((h2 p hp).apart2 h1)
  · simp at hp
    subst hp
    exact hu.grown hg (hu.apart2 h1)
end Go.Proofs.YteocbgcgfllieaaGreatDoor
