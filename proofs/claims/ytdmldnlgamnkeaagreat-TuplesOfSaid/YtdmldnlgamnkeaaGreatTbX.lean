/- Contracts of what the laws of tables call besides: equality of costs (no statement of its own). -/
import Derived.Test.YtdmldnlgamnkeaaGreatTbV
import Derived.Test.YtdmldnlgamnkeaaGreatShM
import Derived.Test.YtdmldnlgamnkeaaGreatTbO
namespace Go.Proofs.YtdmldnlgamnkeaaGreat
open Go.RowKit
set_option linter.unusedVariables false
theorem eq64_yes (A A2 : Option Addr) (n c c2 : Nat) (z : Nat → Int) (w : World) (hl : n ≤ 1000000) (hw : Zs w A n z) (hw2 : Zs w A2 n z) :
    Calls Tryz.prog 38 #[.slice A n c, .slice A2 n c2] w fun e w' => e = .returned (.bool true) ∧ Below w.heap.size w w' := by
  have HW := Lib.hid hw
  have HW2 := Lib.hid hw2
  clear hw hw2
  go_enter Tryz.func38, Tryz.ntmps38
  go_wp2_with fail
  go_loopw [5, 13] (fun _ i wr => ∃ j : Nat, j ≤ n ∧ i = .int .i64 j ∧ Below w.heap.size w wr) (fun _ i _ => n - (intOf i).toNat)
  case atStart => exact ⟨0, Nat.zero_le _, rfl, Below.refl _ _⟩
  case round =>
    obtain ⟨j, hj, rfl, hb⟩ := hrel
    have HB := Lib.hid hb
    clear hb
    by_cases hlt : j < n
    · obtain ⟨g, o, rfl, hcell⟩ := (HW.out.below HB.out (Nat.le_refl _)).at_ hlt
      obtain ⟨g2, o2, rfl, hcell2⟩ := (HW2.out.below HB.out (Nat.le_refl _)).at_ hlt
      generalize z j = y at hcell hcell2
      have i1 : (j : Int) < (n : Int) := by omega
      have i2 : (0 : Int) ≤ (j : Int) := by omega
      go_wp2_with fail
      go_quiet (fail)
      go_wp2
      go_roundw
      case rel => exact ⟨j + 1, by omega, by go_num, next_drewN HB.out _⟩
      case measure => simp [intOf]; omega
    · go_wp2
      go_ret
      exact ⟨rfl, HB.out⟩
theorem eqz_yes (A A2 : Option Addr) (n c c2 : Nat) (z : Nat → Int) (w : World) (hl : n ≤ 1000000) (hw : Zs w A n z) (hw2 : Zs w A2 n z) :
    Calls Tryz.prog 18 #[.slice A n c, .slice A2 n c2] w fun e w' => e = .returned (.bool true) ∧ Below w.heap.size w w' := by
  have HW := Lib.hid hw
  have HW2 := Lib.hid hw2
  clear hw hw2
  go_enter Tryz.func18, Tryz.ntmps18
  go_wp2_with fail
  go_loopw [5, 13] (fun _ i wr => ∃ j : Nat, j ≤ n ∧ i = .int .i64 j ∧ Below w.heap.size w wr) (fun _ i _ => n - (intOf i).toNat)
  case atStart => exact ⟨0, Nat.zero_le _, rfl, Below.refl _ _⟩
  case round =>
    obtain ⟨j, hj, rfl, hb⟩ := hrel
    have HB := Lib.hid hb
    clear hb
    by_cases hlt : j < n
    · obtain ⟨g, o, rfl, hcell⟩ := (HW.out.below HB.out (Nat.le_refl _)).at_ hlt
      obtain ⟨g2, o2, rfl, hcell2⟩ := (HW2.out.below HB.out (Nat.le_refl _)).at_ hlt
      generalize z j = y at hcell hcell2
      have i1 : (j : Int) < (n : Int) := by omega
      have i2 : (0 : Int) ≤ (j : Int) := by omega
      go_wp2_with fail
      go_quiet (fail)
      go_wp2
      go_roundw
      case rel => exact ⟨j + 1, by omega, by go_num, next_drewN HB.out _⟩
      case measure => simp [intOf]; omega
    · go_wp2
      go_ret
      exact ⟨rfl, HB.out⟩
theorem TabAt.zs {w : World} {g h : Nat} {l : List Nat} {k : Int} {z : Nat → Int} (H : TabAt w g h l k z) : Zs w (some ⟨h, 0, none⟩) (prodL l) z := by
  obtain ⟨cur, hc, h1, h2⟩ := H.costs
  exact .inr ⟨h, 0, rfl, (Array.getElem?_eq_some_iff.1 hc).1, fun i hi => by rw [Nat.zero_add, cell_of_row _ _ _ _ _ _ hc]; exact h2 i hi⟩
abbrev HoldS (wb : World) (g h g2 h2 P : Nat) (l : List Nat) (k : Int) (W : World) : Prop :=
  W.cell? ⟨g, 0, none⟩ = some (.int .i64 (l.length : Int)) ∧ W.cell? ⟨g, 1, none⟩ = some (szV l 0) ∧ W.cell? ⟨g, 2, none⟩ = some (szV l 1) ∧ W.cell? ⟨g, 3, none⟩ = some (szV l 2) ∧ W.cell? ⟨g, 4, none⟩ = some (szV l 3) ∧ W.cell? ⟨g, 5, none⟩ = some (szV l 4) ∧ W.cell? ⟨g, 6, none⟩ = some (szV l 5) ∧ W.cell? ⟨g, 7, none⟩ = some (.int .i64 k) ∧ W.cell? ⟨g, 8, none⟩ = some (.slice (some ⟨h, 0, none⟩) P P) ∧
  W.cell? ⟨g2, 0, none⟩ = some (.int .i64 (l.length : Int)) ∧ W.cell? ⟨g2, 1, none⟩ = some (szV l 0) ∧ W.cell? ⟨g2, 2, none⟩ = some (szV l 1) ∧ W.cell? ⟨g2, 3, none⟩ = some (szV l 2) ∧ W.cell? ⟨g2, 4, none⟩ = some (szV l 3) ∧ W.cell? ⟨g2, 5, none⟩ = some (szV l 4) ∧ W.cell? ⟨g2, 6, none⟩ = some (szV l 5) ∧ W.cell? ⟨g2, 7, none⟩ = some (.int .i64 k) ∧ W.cell? ⟨g2, 8, none⟩ = some (.slice (some ⟨h2, 0, none⟩) P P) ∧ Below wb.heap.size wb W
theorem holdS {wb W W' : World} {g h g2 h2 P : Nat} {l : List Nat} {k : Int} (H : HoldS wb g h g2 h2 P l k W) (hb : Below W.heap.size W W') : HoldS wb g h g2 h2 P l k W' := by
  obtain ⟨a0, a1, a2, a3, a4, a5, a6, a7, a8, b0, b1, b2, b3, b4, b5, b6, b7, b8, h9⟩ := H
  have K : ∀ b i v, W.cell? ⟨b, i, none⟩ = some v → W'.cell? ⟨b, i, none⟩ = some v := fun b i v h => (hb.cell (p := ⟨b, i, none⟩) (World.block_lt_of_cell? W _ h)).trans h
  exact ⟨K _ _ _ a0, K _ _ _ a1, K _ _ _ a2, K _ _ _ a3, K _ _ _ a4, K _ _ _ a5, K _ _ _ a6, K _ _ _ a7, K _ _ _ a8, K _ _ _ b0, K _ _ _ b1, K _ _ _ b2, K _ _ _ b3, K _ _ _ b4, K _ _ _ b5, K _ _ _ b6, K _ _ _ b7, K _ _ _ b8, h9.trans (hb.mono h9.size)⟩
theorem HoldS.below {wb W : World} {g h g2 h2 P : Nat} {l : List Nat} {k : Int} (H : HoldS wb g h g2 h2 P l k W) : Below wb.heap.size wb W := H.2.2.2.2.2.2.2.2.2.2.2.2.2.2.2.2.2.2
set_option maxRecDepth 100000 in
set_option maxHeartbeats 4000000 in
theorem tsame_yes (g h g2 h2 P : Nat) (l : List Nat) (k : Int) (z : Nat → Int) (w : World) (H : TabAt w g h l k z) (H2 : TabAt w g2 h2 l k z) (hP : prodL l = P) (hP4 : P ≤ 4096) :
    Calls Tryz.prog 14 #[.pointer (some ⟨g, 0, none⟩), .pointer (some ⟨g2, 0, none⟩)] w fun e w' => e = .returned (.bool true) ∧ Below w.heap.size w w' := by
  have ZA := Lib.hid H.zs
  have ZB := Lib.hid H2.zs
  rw [hP] at ZA ZB
  have HH : Hid (HoldS w g h g2 h2 P l k w) := by
    obtain ⟨a0, a1, a2, a3, a4, a5, a6, a7, a8⟩ := H.cells
    obtain ⟨b0, b1, b2, b3, b4, b5, b6, b7, b8⟩ := H2.cells
    rw [hP] at a8 b8
    exact Lib.hid ⟨a0, a1, a2, a3, a4, a5, a6, a7, a8, b0, b1, b2, b3, b4, b5, b6, b7, b8, Below.refl _ _⟩
  clear H H2 hP
  go_enter Tryz.func14, Tryz.ntmps14
  go_upto_region 3 with fail
  go_region_held3 (fun W => HoldS w g h g2 h2 P l k W) (first | exact holdS HH.out ((Below.refl _ _).drew) | exact holdS (by assumption) (by assumption))
    ((first | (go_at_call 39; refine (same_yes l _).mono ?_; rintro e w' ⟨rfl, hb⟩)
            | (go_at_call 38; refine (eq64_yes _ _ _ _ _ z _ (by omega) (ZA.out.below (HoldS.below (by assumption)) (Nat.le_refl _)) (ZB.out.below (HoldS.below (by assumption)) (Nat.le_refl _))).mono ?_; rintro e w' ⟨rfl, hb⟩)))
  go_wp2_with fail
  go_ret
  exact ⟨rfl, HoldS.below (by assumption)⟩
/-- The least of some costs. -/
def minZ (z : Nat → Int) : Nat → Int
  | 0 => z 0
  | n + 1 => mn2 (minZ z n) (z (n + 1))
attribute [local go_sem ↓] run_mn2
end Go.Proofs.YtdmldnlgamnkeaaGreat
