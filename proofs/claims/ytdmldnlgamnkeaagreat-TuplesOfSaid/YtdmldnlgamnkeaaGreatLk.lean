/- Contract of the law's like, where both are the same (no statement of its own). No condition. -/
import Derived.Test.YtdmldnlgamnkeaaGreatTbX
import Derived.Test.YtdmldnlgamnkeaaGreatTbQ
import Derived.Test.YtdmldnlgamnkeaaGreatTbW
namespace Go.Proofs.YtdmldnlgamnkeaaGreat
open Go.RowKit
set_option linter.unusedVariables false
abbrev HoldL (wb : World) (g h b P cs cc : Nat) (As Ac : Option Addr) (l : List Nat) (k : Int) (W : World) : Prop :=
  W.cell? ⟨g, 0, none⟩ = some (.int .i64 (l.length : Int)) ∧ W.cell? ⟨g, 1, none⟩ = some (szV l 0) ∧ W.cell? ⟨g, 2, none⟩ = some (szV l 1) ∧ W.cell? ⟨g, 3, none⟩ = some (szV l 2) ∧ W.cell? ⟨g, 4, none⟩ = some (szV l 3) ∧ W.cell? ⟨g, 5, none⟩ = some (szV l 4) ∧ W.cell? ⟨g, 6, none⟩ = some (szV l 5) ∧ W.cell? ⟨g, 7, none⟩ = some (.int .i64 k) ∧ W.cell? ⟨g, 8, none⟩ = some (.slice (some ⟨h, 0, none⟩) P P) ∧
  W.cell? ⟨b, 0, none⟩ = some (.slice As l.length cs) ∧ W.cell? ⟨b, 1, none⟩ = some (.int .i64 k) ∧ W.cell? ⟨b, 2, none⟩ = some (.slice Ac P cc) ∧ Below wb.heap.size wb W
theorem holdL {wb W W' : World} {g h b P cs cc : Nat} {As Ac : Option Addr} {l : List Nat} {k : Int} (H : HoldL wb g h b P cs cc As Ac l k W) (hb : Below W.heap.size W W') : HoldL wb g h b P cs cc As Ac l k W' := by
  obtain ⟨a0, a1, a2, a3, a4, a5, a6, a7, a8, b0, b1, b2, h9⟩ := H
  have K : ∀ b i v, W.cell? ⟨b, i, none⟩ = some v → W'.cell? ⟨b, i, none⟩ = some v := fun b i v h => (hb.cell (p := ⟨b, i, none⟩) (World.block_lt_of_cell? W _ h)).trans h
  exact ⟨K _ _ _ a0, K _ _ _ a1, K _ _ _ a2, K _ _ _ a3, K _ _ _ a4, K _ _ _ a5, K _ _ _ a6, K _ _ _ a7, K _ _ _ a8, K _ _ _ b0, K _ _ _ b1, K _ _ _ b2, h9.trans (hb.mono h9.size)⟩
theorem HoldL.below {wb W : World} {g h b P cs cc : Nat} {As Ac : Option Addr} {l : List Nat} {k : Int} (H : HoldL wb g h b P cs cc As Ac l k W) : Below wb.heap.size wb W := H.2.2.2.2.2.2.2.2.2.2.2.2
theorem row64_form {w : World} {base n : Nat} {v : Value} {xs : List Value} (h : w.ownsRow base 2 1 v n xs) : ∃ A c, v = .slice A n c := by
  obtain ⟨_, ⟨rfl, hn⟩ | ⟨g, cap, cur, rfl, _, _, _, _, _, _⟩⟩ := h
  · exact ⟨none, 0, by rw [hn]⟩
  · exact ⟨_, cap, rfl⟩
theorem entries_zs (g h P : Nat) (l : List Nat) (k : Int) (z : Nat → Int) (w : World) (H : TabAt w g h l k z) (hP : prodL l = P) (hn : P ≤ 4096) :
    Calls Tryz.prog 25 #[.pointer (some ⟨g, 0, none⟩)] w fun e w' => (∃ A c, e = .returned (.slice A P c) ∧ Zs w' A P z) ∧ Below w.heap.size w w' := by
  subst hP
  refine (entries_any g h l k z w H (by omega)).mono ?_
  rintro e w' ⟨⟨v, rfl, hO⟩, hb⟩
  obtain ⟨A, c, rfl⟩ := row64_form hO
  exact ⟨⟨A, c, rfl, zs_row64 hO⟩, hb⟩
theorem sizes_ints (l : List Nat) (w : World) (h6 : l.length ≤ 6) :
    Calls Tryz.prog 27 #[shV l] w fun e w' => (∃ A c, e = .returned (.slice A l.length c) ∧ Ints w' A l) ∧ Below w.heap.size w w' := by
  refine (sizes_any l w h6).mono ?_
  rintro e w' ⟨⟨v, rfl, hO⟩, hb⟩
  obtain ⟨A, c, rfl, hI⟩ := hO.form
  exact ⟨⟨A, c, rfl, hI⟩, hb⟩
end Go.Proofs.YtdmldnlgamnkeaaGreat
