/- Contract of Of of nil (no statement of its own). No condition. -/
import Derived.Test.YtliafkcogmpghaaUr
namespace Go.Proofs.Ytliafkcogmpghaa
open Go.RowKit Go.Maps
set_option linter.unusedVariables false
attribute [local go_sem] Oper.semAt_some
theorem tk_nil (w : World) : Calls Try.prog 47 #[.pointer none] w fun e w' => e = .returned (.int .i64 0) ∧ w = w' := by
  go_enter Try.func47, Try.ntmps47
  go_wp2_with fail
  go_ret
  exact ⟨rfl, rfl⟩
theorem tentries_nil (w : World) : Calls Try.prog 38 #[.pointer none] w fun e w' => e = .returned (.slice none 0 0) ∧ w = w' := by
  go_enter Try.func38, Try.ntmps38
  go_wp2_with fail
  go_ret
  exact ⟨rfl, rfl⟩
theorem tshape_nil (w : World) : Calls Try.prog 45 #[.pointer none] w fun e w' => e = .returned (shV []) ∧ Below w.heap.size w w' := by
  go_enter Try.func45, Try.ntmps45
  go_wp2_with ((with_reducible show wpList _ _ _ (Oper.mk none (.store 90 _ _) _ _ _ _ :: _) _ _)
               refine wpList_store_row rfl 90 (.tmp 2) (.tmp 5) rfl w.heap.size (shC []) rfl rfl 90 (shC0 0) (heap_alloc_new _ _) (by kernel_rfl) rfl (sh_one []) ?_
               rw [World.setRow_alloc_new])
  exact bodyPost_ret (v := shV []) (by simp [results, Try.results45, go_sem, (ShAt.new w []).c0, (ShAt.new w []).c1, (ShAt.new w []).c2, (ShAt.new w []).c3, (ShAt.new w []).c4, (ShAt.new w []).c5, (ShAt.new w []).c6]) rfl ⟨rfl, new_val _ _⟩
theorem tpnew_nil (w : World) (A : Option Addr) (c : Nat) : Calls Try.prog 9 #[.slice A 0 c, .int .i64 0, .int .i64 0] w fun e w' => e = .returned (.tuple #[.pointer none, .int .i64 3]) ∧ Below w.heap.size w w' :=
  tpnew_range A 0 c [] 0 0 w rfl (by simp) (.inl rfl) (by simp) (fun h => by have := h.1; omega)
abbrev HoldOf (wb : World) (B : Nat) (W : World) : Prop := W.cell? ⟨B, 0, none⟩ = some (.slice none 0 0) ∧ Below wb.heap.size wb W
theorem HoldOf.next {wb W W' : World} {B : Nat} (H : HoldOf wb B W) (hb : Below W.heap.size W W') : HoldOf wb B W' :=
  ⟨(hb.cell (p := ⟨B, 0, none⟩) (World.block_lt_of_cell? W _ H.1)).trans H.1, H.2.trans (hb.mono H.2.size)⟩
def KB (wb W : World) (b : Nat) : Prop := Boxed W b 28 (.pointer none) ∧ wb.heap.size ≤ b
theorem KB.new {wb W W' : World} (H : HoldOf wb wb.heap.size (W.alloc (.cells #[.pointer none] 28))) (hb : Below (W.alloc (.cells #[.pointer none] 28)).heap.size (W.alloc (.cells #[.pointer none] 28)) W') : KB wb W' W.heap.size :=
  ⟨box_below (Boxed.new W _ _) hb, by have h := World.block_lt_of_cell? _ _ H.1; simp at h; omega⟩
theorem KB.next {wb W W' : World} {b : Nat} (H : KB wb W b) (hb : Below W.heap.size W W') : KB wb W' b := ⟨box_below H.1 hb, H.2⟩
theorem HoldOf.set {wb W : World} {B b : Nat} (H : HoldOf wb B W) (K : KB wb W b) (u : Value) : HoldOf wb B (W.setCell ⟨b, 0, none⟩ u) := by
  have hne : B ≠ b := by
    rintro rfl
    have := K.1.cell.symm.trans H.1
    simp at this
  have hg : W.grownBy (W.setCell ⟨b, 0, none⟩ u) (some b) := ⟨rfl, rfl, rfl, by simp, fun k _ hk => heap_setCell_other W ⟨b, 0, none⟩ k _ (fun e => hk (by simp [e]))⟩
  refine ⟨(World.cell?_of_block (hg.block B (World.block_lt_of_cell? W _ H.1) (fun e => hne (by injection e)))).trans H.1, H.2.grown hg H.2.size (fun k hk => by injection hk with hk; rw [← hk]; exact K.2)⟩
end Go.Proofs.Ytliafkcogmpghaa
