/- Contracts of a table's Get, K, Shape, and of least (no statement of its own). -/
import Derived.Test.YtdmldnlgamnkeaaGreatTbP
import Derived.Test.YtdmldnlgamnkeaaGreatTbI
import Derived.Test.YtdmldnlgamnkeaaGreatTbM
namespace Go.Proofs.YtdmldnlgamnkeaaGreat
open Go.RowKit Go.Shelf
set_option linter.unusedVariables false
attribute [local go_sem] Oper.semAt_some
set_option maxRecDepth 100000 in
set_option maxHeartbeats 4000000 in
theorem tshape_any (g h : Nat) (l : List Nat) (k : Int) (z : Nat → Int) (w : World) (H : TabAt w g h l k z) : Calls Tryz.prog 26 #[.pointer (some ⟨g, 0, none⟩)] w fun e w' => e = .returned (shV l) ∧ Below w.heap.size w w' := by
  obtain ⟨c0, c1, c2, c3, c4, c5, c6, c7, c8⟩ := (H.below (new_val w (.cells (shC0 0) 56))).cells
  clear H c7 c8
  go_enter Tryz.func26, Tryz.ntmps26
  go_wp2_with ((with_reducible show wpList _ _ _ (Oper.mk none (.store 56 _ _) _ _ _ _ :: _) _ _)
               refine wpList_store_row rfl 56 (.tmp 2) (.tmp 9) rfl w.heap.size (shC l) rfl rfl 56 (shC0 0) (heap_alloc_new _ _) (by kernel_rfl) rfl (sh_one l) ?_
               rw [World.setRow_alloc_new])
  exact bodyPost_ret (v := shV l) (by simp [results, Tryz.results26, go_sem, (ShAt.new w l).c0, (ShAt.new w l).c1, (ShAt.new w l).c2, (ShAt.new w l).c3, (ShAt.new w l).c4, (ShAt.new w l).c5, (ShAt.new w l).c6]) rfl ⟨rfl, new_val _ _⟩
end Go.Proofs.YtdmldnlgamnkeaaGreat
