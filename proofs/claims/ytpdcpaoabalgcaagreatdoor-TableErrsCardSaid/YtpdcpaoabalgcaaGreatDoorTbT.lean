/- What the walk of a table's Out holds (no statement of its own). -/
import Derived.Test.YtpdcpaoabalgcaaGreatDoorTbS
import Derived.Test.YtpdcpaoabalgcaaGreatDoorTbD
import Derived.Test.YtpdcpaoabalgcaaGreatDoorTbG
import Derived.Test.YtpdcpaoabalgcaaGreatDoorHrd
import Derived.Deep.DeepCutAuto
namespace Go.Proofs.YtpdcpaoabalgcaaGreatDoor
open Go.RowKit Go.Shelf
set_option linter.unusedVariables false
attribute [local go_sem] Oper.semAt_some
open Dm (Mem mem setV setO Tab)
theorem boxes3 (w : World) (o0 o1 o2 : Obj) : (((w.alloc o0).alloc o1).alloc o2).heap[w.heap.size]? = some o0 ∧ (((w.alloc o0).alloc o1).alloc o2).heap[w.heap.size + 1]? = some o1 ∧
    (((w.alloc o0).alloc o1).alloc o2).heap[w.heap.size + 1 + 1]? = some o2 ∧ Below w.heap.size w (((w.alloc o0).alloc o1).alloc o2) ∧ (((w.alloc o0).alloc o1).alloc o2).heap.size = w.heap.size + 3 := by
  have n0 := new_val w o0
  have n1 := new_val (w.alloc o0) o1
  have n2 := new_val ((w.alloc o0).alloc o1) o2
  have z0 : (w.alloc o0).heap.size = w.heap.size + 1 := World.size_alloc _ _
  have z1 : ((w.alloc o0).alloc o1).heap.size = w.heap.size + 2 := by rw [World.size_alloc, z0]
  have a0 := heap_alloc_new w o0
  have a1 := heap_alloc_new (w.alloc o0) o1
  have a2 := heap_alloc_new ((w.alloc o0).alloc o1) o2
  rw [z0] at a1
  rw [z1] at a2
  exact ⟨(n2.block _ (by omega)).trans ((n1.block _ (by omega)).trans a0), (n2.block _ (by omega)).trans a1, a2, (n0.trans (n1.mono (by omega))).trans (n2.mono (by omega)), by rw [World.size_alloc, z1]⟩
/-- The boxes of a call of Out, and its table, are as they were. -/
abbrev HoldO (wb : World) (N g p kk B : Nat) (l : List Nat) (k : Int) (W : World) : Prop :=
  W.cell? ⟨N, 0, none⟩ = some (.pointer (some ⟨g, 0, none⟩)) ∧ W.cell? ⟨N + 1, 0, none⟩ = some (.int .i64 (p : Int)) ∧ W.cell? ⟨N + 1 + 1, 0, none⟩ = some (.int .i64 (kk : Int)) ∧ W.cell? ⟨N + 1 + 1, 1, none⟩ = some (.int .u32 (B : Int)) ∧
  W.cell? ⟨g, 0, none⟩ = some (.int .i64 (l.length : Int)) ∧ W.cell? ⟨g, 1, none⟩ = some (szV l 0) ∧ W.cell? ⟨g, 2, none⟩ = some (szV l 1) ∧ W.cell? ⟨g, 3, none⟩ = some (szV l 2) ∧
  W.cell? ⟨g, 4, none⟩ = some (szV l 3) ∧ W.cell? ⟨g, 5, none⟩ = some (szV l 4) ∧ W.cell? ⟨g, 6, none⟩ = some (szV l 5) ∧ W.cell? ⟨g, 7, none⟩ = some (.int .i64 k) ∧ Below wb.heap.size wb W
theorem HoldO.of {wb : World} {N g h p kk B : Nat} {l : List Nat} {k : Int} {z : Nat → Int} (T : TabAt wb g h l k z) (b0 : wb.heap[N]? = some (.cells #[.pointer (some ⟨g, 0, none⟩)] 26))
    (b1 : wb.heap[N + 1]? = some (.cells #[.int .i64 (p : Int)] 3)) (b2 : wb.heap[N + 1 + 1]? = some (setO kk B)) : HoldO wb N g p kk B l k wb := by
  obtain ⟨c0, c1, c2, c3, c4, c5, c6, c7, c8⟩ := T.cells
  exact ⟨by rw [cell_of_row _ _ _ _ _ _ b0]; rfl, by rw [cell_of_row _ _ _ _ _ _ b1]; rfl, by rw [cell_of_row _ _ _ _ _ _ b2]; rfl, by rw [cell_of_row _ _ _ _ _ _ b2]; rfl, c0, c1, c2, c3, c4, c5, c6, c7, Below.refl _ _⟩
theorem holdO {wb W W' : World} {N g p kk B : Nat} {l : List Nat} {k : Int} (h : HoldO wb N g p kk B l k W) (hb : Below W.heap.size W W') : HoldO wb N g p kk B l k W' := by
  obtain ⟨a0, a1, a2, a3, c0, c1, c2, c3, c4, c5, c6, c7, h8⟩ := h
  have K : ∀ b i v, W.cell? ⟨b, i, none⟩ = some v → W'.cell? ⟨b, i, none⟩ = some v := fun b i v h => (hb.cell (p := ⟨b, i, none⟩) (World.block_lt_of_cell? W _ h)).trans h
  exact ⟨K _ _ _ a0, K _ _ _ a1, K _ _ _ a2, K _ _ _ a3, K _ _ _ c0, K _ _ _ c1, K _ _ _ c2, K _ _ _ c3, K _ _ _ c4, K _ _ _ c5, K _ _ _ c6, K _ _ _ c7, h8.trans (hb.mono h8.size)⟩
/-- A call that writes above the base alone. -/
theorem holdO_base {wb W W' : World} {N g p kk B : Nat} {l : List Nat} {k : Int} (h : HoldO wb N g p kk B l k W) (hN : N + 3 ≤ wb.heap.size) (hg : g < wb.heap.size) (hb : Below wb.heap.size W W') : HoldO wb N g p kk B l k W' := by
  obtain ⟨a0, a1, a2, a3, c0, c1, c2, c3, c4, c5, c6, c7, h8⟩ := h
  have K : ∀ b i v, b < wb.heap.size → W.cell? ⟨b, i, none⟩ = some v → W'.cell? ⟨b, i, none⟩ = some v := fun b i v hb' h => (hb.cell (p := ⟨b, i, none⟩) hb').trans h
  exact ⟨K _ _ _ (by omega) a0, K _ _ _ (by omega) a1, K _ _ _ (by omega) a2, K _ _ _ (by omega) a3, K _ _ _ hg c0, K _ _ _ hg c1, K _ _ _ hg c2, K _ _ _ hg c3, K _ _ _ hg c4, K _ _ _ hg c5, K _ _ _ hg c6, K _ _ _ hg c7, h8.trans hb⟩
theorem HoldO.below {wb W : World} {N g p kk B : Nat} {l : List Nat} {k : Int} (h : HoldO wb N g p kk B l k W) : Below wb.heap.size wb W := h.2.2.2.2.2.2.2.2.2.2.2.2
/-- A store into a box leaves a table as it was. -/
theorem tab_other {w : World} {g h b : Nat} {l : List Nat} {k : Int} {z : Nat → Int} {v : Value} (T : TabAt w g h l k z) (hb : Boxed w b 26 v) (u : Value) : TabAt (w.setCell ⟨b, 0, none⟩ u) g h l k z := by
  obtain ⟨cur, hc, h1, h2⟩ := T.costs
  refine ⟨(Below.heap_setCell _ _ _ _ (fun e => ?_)).trans T.row, cur, (Below.heap_setCell _ _ _ _ (fun e => ?_)).trans hc, h1, h2⟩
  · have e' : g = b := e
    subst e'
    have := T.row.symm.trans hb
    simp at this
  · have e' : h = b := e
    subst e'
    have := hc.symm.trans hb
    simp at this
end Go.Proofs.YtpdcpaoabalgcaaGreatDoor
