/- Lemmas of a round that writes (no statement of its own). -/
import Derived.Test.YtdmldnlgamnkeaaGreatShQ
import Derived.Laws.ResultCell
import Derived.Test.YtdmldnlgamnkeaaGreatQrd
namespace Go.Proofs.YtdmldnlgamnkeaaGreat
open Go.RowKit Go.Shelf
set_option linter.unusedVariables false
attribute [local go_sem] Oper.semAt_some
theorem ints_from {β : Type} (B : Nat) (A : Option Addr) (l : List Nat) : OwnFrom B (fun (_ : β) W => Ints W A l) := by
  intro s X Y row hs hg hr
  rcases hs with h | ⟨g, o, rfl, hlt, hc⟩
  · exact .inl h
  · exact .inr ⟨g, o, rfl, Nat.lt_of_lt_of_le hlt hg.size, fun i hi => cell_kept (hc i hi) hg (fun r e => (hr r e).2)⟩
theorem keep1_set {W : World} {b g : Nat} (h : b ≠ g) (i : Nat) (u : Value) : Keep1 b W (W.setCell ⟨g, i, none⟩ u) := ⟨by simp [World.setCell], Below.heap_setCell W ⟨g, i, none⟩ u b h⟩
theorem box_below {W W' : World} {b : Nat} {t : TypeId} {v : Value} (h : Boxed W b t v) (hb : Below W.heap.size W W') : Boxed W' b t v := (hb.block b h.lt).trans h
theorem clone_any' (A : Option Addr) (n c : Nat) (l : List Nat) (w : World) (hn : n = l.length) (hl : l.length ≤ 1000000) (hw : Ints w A l) :
    Calls Tryz.prog 42 #[.slice A n c] w fun e w' => (∃ v, e = .returned v ∧ Own w' w.heap.size v l) ∧ Below w.heap.size w w' := by
  subst hn
  exact clone_any A c l w hl hw
theorem ints_grown {X Y : World} {g : Nat} {A : Option Addr} {l : List Nat} (h : Ints X A l) (hg : X.grownBy Y (some g)) (hne : ∀ a : Addr, A = some a → a.block ≠ g) : Ints Y A l := by
  rcases h with h | ⟨g', o, rfl, hlt, hc⟩
  · exact .inl h
  · exact .inr ⟨g', o, rfl, Nat.lt_of_lt_of_le hlt hg.size, fun i hi => World.grownBy.cell hg (hc i hi) (fun e => hne _ rfl (by injection e))⟩
theorem below_grown {w X Y : World} {B g : Nat} (h : Below B w X) (hg : X.grownBy Y (some g)) (hB : B ≤ w.heap.size) (hBg : B ≤ g) : Below B w Y :=
  ⟨hg.os.trans h.os, hg.tape.trans h.tape, hg.output.trans h.output, Nat.le_trans h.size hg.size, fun k hk =>
    (hg.block k (by have := h.size; omega) (fun e => by injection e; omega)).trans (h.block k hk)⟩
theorem keep_grown {X Y : World} {B b g k : Nat} {v : Value} (hg : X.grownBy Y (some g)) (hc : X.cell? ⟨g, k, none⟩ = some v) (hBg : B ≤ g) (hb : b < B) (hX : b < X.heap.size) : KeepsFrom B X Y ∧ Keep1 b X Y :=
  ⟨⟨hg.size, fun j o hB hj ho => by
    by_cases e : j = g
    · subst e
      simp only [World.cell?, hj] at hc
      cases o <;> simp_all [Obj.isCells]
    · exact (hg.block j (Array.getElem?_eq_some_iff.1 hj).1 (fun e' => e (by injection e'))).trans hj⟩, hg.size, hg.block b hX (fun e => by injection e; omega)⟩
theorem grown_drew {X Y : World} {row : Option Nat} (h : X.grownBy Y row) (n : Nat) : X.grownBy (Y.drewN n) row := ⟨h.os, h.tape, h.output, h.size, h.block⟩
end Go.Proofs.YtdmldnlgamnkeaaGreat
