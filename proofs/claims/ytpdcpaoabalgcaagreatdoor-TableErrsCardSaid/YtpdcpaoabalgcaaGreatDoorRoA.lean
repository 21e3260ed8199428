/- What the document's Out holds from round to round (no statement of its own). No condition. -/
import Derived.Test.YtpdcpaoabalgcaaGreatDoorIx
import Derived.Test.YtpdcpaoabalgcaaGreatDoorAp
import Derived.Test.YtpdcpaoabalgcaaGreatDoorTbV
namespace Go.Proofs.YtpdcpaoabalgcaaGreatDoor
open Go.RowKit
set_option linter.unusedVariables false
theorem own_kept2 {W0 W : World} {base n bu : Nat} {e : TypeId} {v : Value} {xs : List Value} (h : W0.ownsRow base e 1 v n xs) (hk : Kept2 W0 bu bu W) (hb : bu < base) : W.ownsRow base e 1 v n xs := by
  obtain ⟨h1, ⟨rfl, hn⟩ | ⟨g, cap, cur, rfl, hb', hh, hm, hx, hs, ht⟩⟩ := h
  · exact ⟨h1, .inl ⟨rfl, hn⟩⟩
  · refine ⟨h1, .inr ⟨g, cap, cur, rfl, hb', ?_, hm, hx, hs, ht⟩⟩
    rw [hk.block g (Array.getElem?_eq_some_iff.1 hh).1 (by omega) (by omega)]
    exact hh
theorem RowsT.kept2 {W0 W : World} {base bu : Nat} {v : Value} {ts : List (List Nat)} (h : RowsT W0 base v ts) (hk : Kept2 W0 bu bu W) (hb : bu < base) : RowsT W base v ts := by
  obtain ⟨xs, h1, h2⟩ := h
  exact ⟨xs, own_kept2 h1 hk hb, fun j x hx => own_kept2 (h2 j x hx) hk hb⟩
theorem kept2_grown {W0 W W' : World} {p q : Nat} {v : Value} {e : TypeId} {n : Nat} {xs : List Value} (h : Kept2 W0 p q W) (ho : W.ownsRow W0.heap.size e 1 v n xs) (hg : W.grownBy W' v.ownBlock) : Kept2 W0 p q W' :=
  ⟨hg.os.trans h.os, hg.tape.trans h.tape, hg.output.trans h.output, Nat.le_trans h.size hg.size, fun b h1 h2 h3 => (hg.block b (Nat.lt_of_lt_of_le h1 h.size) (fun e => by have := (World.ownsRow.lt ho b e.symm).1; omega)).trans (h.block b h1 h2 h3)⟩
theorem row_apart {W : World} {b1 b2 n1 n2 : Nat} {e1 e2 : TypeId} {u v : Value} {xs ys : List Value} (h : W.ownsRow b1 e1 1 u n1 xs) (k : W.ownsRow b2 e2 1 v n2 ys) (hne : e1 ≠ e2) : u.ownBlock = none ∨ u.ownBlock ≠ v.ownBlock := by
  cases hu : u.ownBlock with
  | none => exact .inl rfl
  | some g =>
    refine .inr fun e => ?_
    obtain ⟨c1, f1, h1⟩ := Lib.ownsRow_kind h g hu
    obtain ⟨c2, f2, h2⟩ := Lib.ownsRow_kind k g e.symm
    have := h1.symm.trans h2
    simp at this
    exact hne this.2.1
theorem row_far {W : World} {base n b : Nat} {e : TypeId} {v : Value} {xs : List Value} (h : W.ownsRow base e 1 v n xs) (hb : b < base) : v.ownBlock = none ∨ v.ownBlock ≠ some b := by
  cases hv : v.ownBlock with
  | none => exact .inl rfl
  | some g => exact .inr fun e => by injection e with e; have := (World.ownsRow.lt h g hv).1; omega
/-- The document's table without a place, under way: it lies at bu. -/
structure RoAt (w4 : World) (bu j1 j2 : Nat) (sv : Value) (k : Int) (f1 f2 : Nat → Int) (cv bv : Value) (W : World) : Prop where
  kept : Kept2 w4 bu bu W
  row : W.heap[bu]? = some (.cells #[sv, .int .i64 k, cv] 30 (0, 0))
  own : W.ownsRow w4.heap.size 2 1 cv j1 (costL f1 j1)
  best : W.ownsRow w4.heap.size 3 1 bv j2 (costL f2 j2)
theorem RoAt.next {w4 W W' : World} {bu j1 j2 : Nat} {sv : Value} {k : Int} {f1 f2 : Nat → Int} {cv bv : Value} (H : RoAt w4 bu j1 j2 sv k f1 f2 cv bv W) (hb : Below W.heap.size W W') : RoAt w4 bu j1 j2 sv k f1 f2 cv bv W' :=
  ⟨H.kept.next hb, (hb.block _ (Array.getElem?_eq_some_iff.1 H.row).1).trans H.row, ownsRow_below H.own hb (Nat.le_refl _), ownsRow_below H.best hb (Nat.le_refl _)⟩
theorem RoAt.cells {w4 W : World} {bu j1 j2 : Nat} {sv : Value} {k : Int} {f1 f2 : Nat → Int} {cv bv : Value} (H : RoAt w4 bu j1 j2 sv k f1 f2 cv bv W) : W.cell? ⟨bu, 0, none⟩ = some sv ∧ W.cell? ⟨bu, 1, none⟩ = some (.int .i64 k) ∧ W.cell? ⟨bu, 2, none⟩ = some cv ∧ W.frozen? ⟨bu, 2, none⟩ = false := by
  refine ⟨?_, ?_, ?_, frozen_of_row _ _ _ _ _ H.row⟩ <;> (rw [cell_of_row _ _ _ _ _ _ H.row]; rfl)
/-- Behind the append of a cost, ahead of its store. -/
theorem RoAt.push_row {w4 W W' : World} {bu j1 j2 : Nat} {sv : Value} {k : Int} {f1 f2 : Nat → Int} {cv bv : Value} (H : RoAt w4 bu j1 j2 sv k f1 f2 cv bv W) (hbu : bu < w4.heap.size) (hg : W.grownBy W' cv.ownBlock) :
    W'.heap[bu]? = some (.cells #[sv, .int .i64 k, cv] 30 (0, 0)) :=
  (hg.block bu (Array.getElem?_eq_some_iff.1 H.row).1 (fun e => by have := (World.ownsRow.lt H.own bu e.symm).1; omega)).trans H.row
theorem RoAt.push {w4 W W' : World} {bu j1 j2 : Nat} {sv : Value} {k : Int} {f1 f2 : Nat → Int} {cv cv' bv : Value} (H : RoAt w4 bu j1 j2 sv k f1 f2 cv bv W) (hbu : bu < w4.heap.size) (ho : W'.ownsRow w4.heap.size 2 1 cv' (j1 + 1) (costL f1 (j1 + 1))) (hg : W.grownBy W' cv.ownBlock) :
    RoAt w4 bu (j1 + 1) j2 sv k f1 f2 cv' bv (W'.setCell ⟨bu, 2, none⟩ cv') := by
  have hr := H.push_row hbu hg
  have hb' : W'.ownsRow w4.heap.size 3 1 bv j2 (costL f2 j2) := World.ownsRow.kept H.best hg (row_apart H.best H.own (by decide))
  refine ⟨(kept2_grown H.kept H.own hg).set (.inl rfl) 2 cv', ?_, World.ownsRow.kept ho (grown_set W' bu 2 cv') (row_far ho hbu), World.ownsRow.kept hb' (grown_set W' bu 2 cv') (row_far hb' hbu)⟩
  have := heap_setCell_same W' bu 2 _ _ cv' hr
  simpa using this
theorem RoAt.pushB {w4 W W' : World} {bu j1 j2 : Nat} {sv : Value} {k : Int} {f1 f2 : Nat → Int} {cv bv bv' : Value} (H : RoAt w4 bu j1 j2 sv k f1 f2 cv bv W) (hbu : bu < w4.heap.size) (ho : W'.ownsRow w4.heap.size 3 1 bv' (j2 + 1) (costL f2 (j2 + 1))) (hg : W.grownBy W' bv.ownBlock) :
    RoAt w4 bu j1 (j2 + 1) sv k f1 f2 cv bv' W' :=
  ⟨kept2_grown H.kept H.best hg, (hg.block bu (Array.getElem?_eq_some_iff.1 H.row).1 (fun e => by have := (World.ownsRow.lt H.best bu e.symm).1; omega)).trans H.row,
    World.ownsRow.kept H.own hg (row_apart H.own H.best (by decide)), ho⟩
theorem zs_row {w : World} {base n : Nat} {ty : TypeId} {A : Option Addr} {c : Nat} {z : Nat → Int} (h : w.ownsRow base ty 1 (.slice A n c) n (costL z n)) : Zs w A n z := by
  obtain ⟨_, ⟨e, hn⟩ | ⟨g, cap, cur, e, hb, hh, hm, _, hs, ht⟩⟩ := h
  · exact .inl hn
  · injection e with e1 e2 e3
    subst e1
    refine .inr ⟨g, 0, rfl, (Array.getElem?_eq_some_iff.1 hh).1, fun i hi => ?_⟩
    rw [Nat.zero_add, cell_of_row w g i cur ty (0, 0) hh]
    have e : (cur.toList.take (n * 1))[i]? = some (.int .i64 (z i)) := by rw [ht]; simp [costL, hi]
    rw [List.getElem?_take] at e
    simpa [hi] using e
end Go.Proofs.YtpdcpaoabalgcaaGreatDoor
