/- Contracts of a table's Get, K, Shape, and of least (no statement of its own). -/
import Derived.Test.YtpdcpaoabalgcaaGreatDoorTbP
import Derived.Test.YtpdcpaoabalgcaaGreatDoorTbI
import Derived.Test.YtpdcpaoabalgcaaGreatDoorTbM
namespace Go.Proofs.YtpdcpaoabalgcaaGreatDoor
open Go.RowKit Go.Shelf
set_option linter.unusedVariables false
attribute [local go_sem] Oper.semAt_some
set_option maxRecDepth 100000 in
set_option maxHeartbeats 4000000 in
theorem tget_ok (g h : Nat) (A : Option Addr) (n c N : Nat) (l t : List Nat) (k : Int) (z : Nat → Int) (w : World) (H : TabAt w g h l k z) (hn : n = t.length) (h6 : l.length ≤ 6) (h32 : ∀ n ∈ l, n ≤ 32) (hr : Ints w A t) (hin : InL l t) (hN : numL l t = N) (hNP : N < prodL l) :
    Calls Tryz.prog 20 #[.pointer (some ⟨g, 0, none⟩), .slice A n c] w fun e w' => e = .returned (.tuple #[.int .i64 (z N), .int .i64 0]) ∧ Below w.heap.size w w' := by
  have HX := Lib.hid (index_ok' A n c N l t w hn h6 h32 hr hin hN)
  have HT := Lib.hid H
  obtain ⟨c0, c1, c2, c3, c4, c5, c6, c7, c8⟩ := H.cells
  have i0 : (0 : Int) ≤ (N : Int) := by omega
  have i1 : (N : Int) < (prodL l : Int) := by omega
  clear H hr hin hN h32 hn
  go_enter Tryz.func20, Tryz.ntmps20
  go_wp2_with fail
  refine HX.out.mono ?_
  rintro e w1 ⟨rfl, b1⟩
  have T1 := Lib.hid (HT.out.below b1)
  have B1 := Lib.hid b1
  obtain ⟨d0, d1, d2, d3, d4, d5, d6, d7, d8⟩ := T1.out.cells
  obtain ⟨cur, hc, hcs, hcz⟩ := T1.out.costs
  have hst : w1.cell? ⟨h, N, none⟩ = some (.int .i64 (z N)) := by rw [cell_of_row _ _ _ _ _ _ hc]; exact hcz N hNP
  clear b1 c0 c1 c2 c3 c4 c5 c6 c7 c8 hc hcs hcz
  go_wp2_with fail
  go_ret2
  exact ⟨rfl, B1.out⟩
set_option maxRecDepth 100000 in
set_option maxHeartbeats 4000000 in
theorem tshape_any (g h : Nat) (l : List Nat) (k : Int) (z : Nat → Int) (w : World) (H : TabAt w g h l k z) : Calls Tryz.prog 26 #[.pointer (some ⟨g, 0, none⟩)] w fun e w' => e = .returned (shV l) ∧ Below w.heap.size w w' := by
  obtain ⟨c0, c1, c2, c3, c4, c5, c6, c7, c8⟩ := (H.below (new_val w (.cells (shC0 0) 61))).cells
  clear H c7 c8
  go_enter Tryz.func26, Tryz.ntmps26
  go_wp2_with ((with_reducible show wpList _ _ _ (Oper.mk none (.store 61 _ _) _ _ _ _ :: _) _ _)
               refine wpList_store_row rfl 61 (.tmp 2) (.tmp 9) rfl w.heap.size (shC l) rfl rfl 61 (shC0 0) (heap_alloc_new _ _) (by kernel_rfl) rfl (sh_one l) ?_
               rw [World.setRow_alloc_new])
  exact bodyPost_ret (v := shV l) (by simp [results, Tryz.results26, go_sem, (ShAt.new w l).c0, (ShAt.new w l).c1, (ShAt.new w l).c2, (ShAt.new w l).c3, (ShAt.new w l).c4, (ShAt.new w l).c5, (ShAt.new w l).c6]) rfl ⟨rfl, new_val _ _⟩
end Go.Proofs.YtpdcpaoabalgcaaGreatDoor
