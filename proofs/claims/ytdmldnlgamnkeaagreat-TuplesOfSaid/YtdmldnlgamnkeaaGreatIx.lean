/- Contracts of the document's Index and Get (no statement of its own). No condition. -/
import Derived.Test.YtdmldnlgamnkeaaGreatRs
namespace Go.Proofs.YtdmldnlgamnkeaaGreat
open Go.RowKit
set_option linter.unusedVariables false
theorem tupL_inj {l : List Nat} {i j : Nat} (hi : i < prodL l) (hj : j < prodL l) (h : tupL l i = tupL l j) : i = j := by
  rw [← num_tup hi, ← num_tup hj, h]
abbrev HoldG (wb : World) (b n P cs cc : Nat) (As : Option Addr) (gc oc i : Nat) (k v : Int) (W : World) : Prop :=
  W.cell? ⟨b, 0, none⟩ = some (.slice As n cs) ∧ W.cell? ⟨b, 2, none⟩ = some (.slice (some ⟨gc, oc, none⟩) P cc) ∧ W.cell? ⟨gc, oc + i, none⟩ = some (.int .i64 v) ∧ Below wb.heap.size wb W
theorem holdG {wb W W' : World} {b n P cs cc : Nat} {As : Option Addr} {gc oc i : Nat} {k v : Int} (H : HoldG wb b n P cs cc As gc oc i k v W) (hb : Below W.heap.size W W') : HoldG wb b n P cs cc As gc oc i k v W' := by
  obtain ⟨a0, a1, a2, h9⟩ := H
  have K : ∀ b i v, W.cell? ⟨b, i, none⟩ = some v → W'.cell? ⟨b, i, none⟩ = some v := fun b i v h => (hb.cell (p := ⟨b, i, none⟩) (World.block_lt_of_cell? W _ h)).trans h
  exact ⟨K _ _ _ a0, K _ _ _ a1, K _ _ _ a2, h9.trans (hb.mono h9.size)⟩
theorem HoldG.below {wb W : World} {b n P cs cc : Nat} {As : Option Addr} {gc oc i : Nat} {k v : Int} (H : HoldG wb b n P cs cc As gc oc i k v W) : Below wb.heap.size wb W := H.2.2.2
end Go.Proofs.YtdmldnlgamnkeaaGreat
