/- What the rounds of a table's Out keep (no statement of its own). -/
import Derived.Test.YtpdcpaoabalgcaaGreatDoorTbT
namespace Go.Proofs.YtpdcpaoabalgcaaGreatDoor
open Go.RowKit Go.Shelf
set_option linter.unusedVariables false
attribute [local go_sem] Oper.semAt_some
open Dm (Mem mem setV setO Tab)
/-- All blocks that were there are as they were, but p and q. -/
structure Kept2 (W0 : World) (p q : Nat) (W : World) : Prop where
  os : W.os = W0.os
  tape : W.tape = W0.tape
  output : W.output = W0.output
  size : W0.heap.size ≤ W.heap.size
  block : ∀ b, b < W0.heap.size → b ≠ p → b ≠ q → W.heap[b]? = W0.heap[b]?
theorem Kept2.refl (W0 : World) (p q : Nat) : Kept2 W0 p q W0 := ⟨rfl, rfl, rfl, Nat.le_refl _, fun _ _ _ _ => rfl⟩
theorem Kept2.next {W0 W W' : World} {p q : Nat} (h : Kept2 W0 p q W) (hb : Below W.heap.size W W') : Kept2 W0 p q W' :=
  ⟨hb.os.trans h.os, hb.tape.trans h.tape, hb.output.trans h.output, Nat.le_trans h.size hb.size, fun b h1 h2 h3 => (hb.block b (Nat.lt_of_lt_of_le h1 h.size)).trans (h.block b h1 h2 h3)⟩
theorem Kept2.drewN {W0 W : World} {p q : Nat} (h : Kept2 W0 p q W) (n : Nat) : Kept2 W0 p q (W.drewN n) := ⟨h.os, h.tape, h.output, h.size, h.block⟩
theorem Kept2.drew {W0 W : World} {p q : Nat} (h : Kept2 W0 p q W) : Kept2 W0 p q W.drew := ⟨h.os, h.tape, h.output, h.size, h.block⟩
theorem Kept2.set {W0 W : World} {p q b : Nat} (h : Kept2 W0 p q W) (hb : b = p ∨ b = q) (i : Nat) (u : Value) : Kept2 W0 p q (W.setCell ⟨b, i, none⟩ u) :=
  ⟨h.os, h.tape, h.output, by simpa [World.setCell] using h.size, fun c h1 h2 h3 => (Below.heap_setCell W ⟨b, i, none⟩ u c (fun e => by have e' : c = b := e; omega)).trans (h.block c h1 h2 h3)⟩
theorem Kept2.below {W0 W w : World} {p q B : Nat} (h : Kept2 W0 p q W) (hB : Below B w W0) (hle : B ≤ w.heap.size) (hp : B ≤ p) (hq : B ≤ q) : Below B w W :=
  ⟨h.os.trans hB.os, h.tape.trans hB.tape, h.output.trans hB.output, Nat.le_trans hB.size h.size, fun k hk => (h.block k (by have := hB.size; omega) (by omega) (by omega)).trans (hB.block k hk)⟩
theorem kept2_own {β : Type} {W0 : World} {p q B : Nat} (hB : W0.heap.size ≤ B) : OwnFrom B (fun (_ : β) W => Kept2 W0 p q W) := by
  intro s X Y row hs hg hr
  refine ⟨hg.os.trans hs.os, hg.tape.trans hs.tape, hg.output.trans hs.output, Nat.le_trans hs.size hg.size, fun b h1 h2 h3 => (hg.block b (Nat.lt_of_lt_of_le h1 hs.size) (fun e => ?_)).trans (hs.block b h1 h2 h3)⟩
  have := (hr b e.symm).1
  omega
/-- Between two rounds. -/
structure OutI (W0 : World) (h gb P : Nat) (f1 f2 : Nat → Int) (k : Int) (n : Nat) (W : World) : Prop where
  kept : Kept2 W0 h gb W
  costs : W.rowIs h 2 P (fun i => .int .i64 (if i < n then f1 i else k))
  best : W.rowIs gb 3 P (fun i => .int .i64 (if i < n then f2 i else 0))
theorem outI_from {W0 : World} {h gb P : Nat} {f1 f2 : Nat → Int} {k : Int} : OwnFrom W0.heap.size (fun (pre : List (Nat × Value)) W => OutI W0 h gb P f1 f2 k pre.length W) := by
  intro s X Y row hs hg hr
  exact ⟨kept2_own (Nat.le_refl _) () X Y row hs.kept hg hr, Own.from (rowIs_own h 2 P (fun (n : Nat) i => .int .i64 (if i < n then f1 i else k))) _ s.length X Y row hs.costs hg hr, Own.from (rowIs_own gb 3 P (fun (n : Nat) i => .int .i64 (if i < n then f2 i else 0))) _ s.length X Y row hs.best hg hr⟩
theorem rowIs_next {W W' : World} {b : Nat} {t : TypeId} {n : Nat} {f : Nat → Value} (h : W.rowIs b t n f) (hb : Below W.heap.size W W') : W'.rowIs b t n f := by
  obtain ⟨c, hc, h1, h2⟩ := h
  exact ⟨c, (hb.block b (Array.getElem?_eq_some_iff.1 hc).1).trans hc, h1, h2⟩
/-- Within a round. -/
structure OutR (W0 : World) (h gb P : Nat) (f1 f2 : Nat → Int) (k : Int) (n : Nat) (Bs : Nat) (W W' : World) : Prop where
  inv : OutI W0 h gb P f1 f2 k n W'
  kf : KeepsFrom W0.heap.size W W'
  k1 : Keep1 Bs W W'
theorem OutR.next {W0 W W' W2 : World} {h gb P : Nat} {f1 f2 : Nat → Int} {k : Int} {n Bs : Nat} (H : OutR W0 h gb P f1 f2 k n Bs W W') (hBs : Bs < W.heap.size) (hb : Below W'.heap.size W' W2) : OutR W0 h gb P f1 f2 k n Bs W W2 :=
  ⟨⟨H.inv.kept.next hb, rowIs_next H.inv.costs hb, rowIs_next H.inv.best hb⟩, H.kf.trans (KeepsFrom.of_grownBy (grown_of_below hb) (fun j e => by cases e)), H.k1.trans (Keep1.of_below hb (Nat.lt_of_lt_of_le hBs H.k1.1))⟩
theorem OutR.fin {W0 W W' : World} {h gb P : Nat} {f1 f2 : Nat → Int} {k x1 x2 : Int} {n Bs : Nat} (H : OutR W0 h gb P f1 f2 k n Bs W W') (hne : h ≠ gb) (hb1 : Bs ≠ h) (hb2 : Bs ≠ gb) (h1 : f1 n = x1) (h2 : f2 n = x2) :
    OutR W0 h gb P f1 f2 k (n + 1) Bs W ((W'.setCell ⟨h, n, none⟩ (.int .i64 x1)).setCell ⟨gb, n, none⟩ (.int .i64 x2)) := by
  refine ⟨⟨(H.inv.kept.set (.inl rfl) n _).set (.inr rfl) n _, ?_, ?_⟩, H.kf.trans (((KeepsOthers.setCell _ _ _).trans (KeepsOthers.setCell _ _ _)).from _), (H.k1.trans (keep1_set hb1 n _)).trans (keep1_set hb2 n _)⟩
  · refine ((H.inv.costs.set n (.int .i64 x1)).setOther (a := ⟨gb, n, none⟩) hne (.int .i64 x2)).congr fun j hj => ?_
    show (if j = n then _ else _) = Value.int .i64 (if j < n + 1 then f1 j else k)
    by_cases e : j = n
    · subst e; rw [if_pos rfl, if_pos (by omega), h1]
    · rw [if_neg e]
      by_cases e2 : j < n
      · rw [if_pos e2, if_pos (by omega)]
      · rw [if_neg e2, if_neg (by omega)]
  · refine ((H.inv.best.setOther (a := ⟨h, n, none⟩) (fun e => hne e.symm) (.int .i64 x1)).set n (.int .i64 x2)).congr fun j hj => ?_
    show (if j = n then _ else _) = Value.int .i64 (if j < n + 1 then f2 j else 0)
    by_cases e : j = n
    · subst e; rw [if_pos rfl, if_pos (by omega), h2]
    · rw [if_neg e]
      by_cases e2 : j < n
      · rw [if_pos e2, if_pos (by omega)]
      · rw [if_neg e2, if_neg (by omega)]
/-- What a round reads. -/
abbrev HoldR (wb : World) (N g p kk B : Nat) (l : List Nat) (k : Int) (ba g' h' gb P : Nat) (W : World) : Prop :=
  HoldO wb N g p kk B l k W ∧ W.cell? ⟨ba, 0, none⟩ = some (.pointer (some ⟨g', 0, none⟩)) ∧ W.cell? ⟨g', 8, none⟩ = some (.slice (some ⟨h', 0, none⟩) P P) ∧ W.cell? ⟨gb + 1, 0, none⟩ = some (.slice (some ⟨gb, 0, none⟩) P P)
theorem holdR {wb W W' : World} {N g p kk B : Nat} {l : List Nat} {k : Int} {ba g' h' gb P : Nat} (h : HoldR wb N g p kk B l k ba g' h' gb P W) (hb : Below W.heap.size W W') : HoldR wb N g p kk B l k ba g' h' gb P W' := by
  obtain ⟨h0, a0, a1, a2⟩ := h
  have K : ∀ b i v, W.cell? ⟨b, i, none⟩ = some v → W'.cell? ⟨b, i, none⟩ = some v := fun b i v h => (hb.cell (p := ⟨b, i, none⟩) (World.block_lt_of_cell? W _ h)).trans h
  exact ⟨holdO h0 hb, K _ _ _ a0, K _ _ _ a1, K _ _ _ a2⟩
theorem holdR_set {wb W : World} {N g p kk B : Nat} {l : List Nat} {k : Int} {ba g' h' gb P b : Nat} (h : HoldR wb N g p kk B l k ba g' h' gb P W) (hN : N + 3 ≤ wb.heap.size) (hg : g < wb.heap.size) (hb : wb.heap.size ≤ b) (n1 : ba ≠ b) (n2 : g' ≠ b) (n3 : gb + 1 ≠ b) (i : Nat) (u : Value) :
    HoldR wb N g p kk B l k ba g' h' gb P (W.setCell ⟨b, i, none⟩ u) := by
  obtain ⟨h0, a0, a1, a2⟩ := h
  have K : ∀ c j v, c ≠ b → W.cell? ⟨c, j, none⟩ = some v → (W.setCell ⟨b, i, none⟩ u).cell? ⟨c, j, none⟩ = some v := fun c j v hc h => by
    rw [World.cell?_setCell_other _ _ _ _ (by intro e; injection e with e1; exact hc (by first | exact e1 | exact e1.symm))]; exact h
  exact ⟨holdO_base h0 hN hg ((Below.refl _ _).setCell (p := ⟨b, i, none⟩) hb u), K _ _ _ n1 a0, K _ _ _ n2 a1, K _ _ _ n3 a2⟩
theorem HoldR.of {wb W0 W : World} {N g p kk B : Nat} {l : List Nat} {k : Int} {ba g' h' gb P : Nat} (h0 : HoldO wb N g p kk B l k W0) (hN : N + 3 ≤ wb.heap.size) (hg : g < wb.heap.size) (hK : Kept2 W0 h' gb W) (hh : wb.heap.size ≤ h') (hgb : wb.heap.size ≤ gb)
    (a0 : W0.cell? ⟨ba, 0, none⟩ = some (.pointer (some ⟨g', 0, none⟩))) (a1 : W0.cell? ⟨g', 8, none⟩ = some (.slice (some ⟨h', 0, none⟩) P P)) (a2 : W0.cell? ⟨gb + 1, 0, none⟩ = some (.slice (some ⟨gb, 0, none⟩) P P))
    (n1 : ba ≠ h') (n2 : ba ≠ gb) (n3 : g' ≠ h') (n4 : g' ≠ gb) (n5 : gb + 1 ≠ h') : HoldR wb N g p kk B l k ba g' h' gb P W := by
  have K : ∀ c j v, c ≠ h' → c ≠ gb → W0.cell? ⟨c, j, none⟩ = some v → W.cell? ⟨c, j, none⟩ = some v := fun c j v h1 h2 h => (World.cell?_of_block (a := ⟨c, j, none⟩) (hK.block c (World.block_lt_of_cell? W0 _ h) h1 h2)).trans h
  have hz := h0.below.size
  obtain ⟨e0, e1, e2, e3, c0, c1, c2, c3, c4, c5, c6, c7, h8⟩ := h0
  exact ⟨⟨K _ _ _ (by omega) (by omega) e0, K _ _ _ (by omega) (by omega) e1, K _ _ _ (by omega) (by omega) e2, K _ _ _ (by omega) (by omega) e3, K _ _ _ (by omega) (by omega) c0, K _ _ _ (by omega) (by omega) c1, K _ _ _ (by omega) (by omega) c2, K _ _ _ (by omega) (by omega) c3,
    K _ _ _ (by omega) (by omega) c4, K _ _ _ (by omega) (by omega) c5, K _ _ _ (by omega) (by omega) c6, K _ _ _ (by omega) (by omega) c7, hK.below h8 (Nat.le_refl _) hh hgb⟩, K _ _ _ n1 n2 a0, K _ _ _ n3 n4 a1, K _ _ _ n5 (by omega) a2⟩
end Go.Proofs.YtpdcpaoabalgcaaGreatDoor
