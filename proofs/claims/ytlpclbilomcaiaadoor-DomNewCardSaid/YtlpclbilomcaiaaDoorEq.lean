/- Contract of slices.Equal over two slices of values (no statement of its own). Condition: at most 1000 values. -/
import Derived.Test.YtlpclbilomcaiaaDoorRefB
namespace Go.Proofs.YtlpclbilomcaiaaDoor
open Go.RowKit
set_option linter.unusedVariables false
theorem equal_len (A A2 : Option Addr) (n c n2 c2 : Nat) (w : World) (h : n ≠ n2) :
    Calls Tryd.prog 20 #[.slice A n c, .slice A2 n2 c2] w fun e w' => e = .returned (.bool false) ∧ Below w.heap.size w w' := by
  have e1 : ((n : Int) != (n2 : Int)) = true := by rw [bne_iff_ne]; omega
  go_enter Tryd.func20, Tryd.ntmps20
  go_wp2
  go_ret
  exact ⟨rfl, Below.refl _ _⟩
theorem equal_yes (A A2 : Option Addr) (n c c2 : Nat) (l : List Nat) (w : World) (hn : n = l.length) (hl : n ≤ 1000) (hw : Lst w A l) (hw2 : Lst w A2 l) :
    Calls Tryd.prog 20 #[.slice A n c, .slice A2 n c2] w fun e w' => e = .returned (.bool true) ∧ Below w.heap.size w w' := by
  have HN := Lib.hid hn
  have HW := Lib.hid hw
  have HW2 := Lib.hid hw2
  clear hn hw hw2
  go_enter Tryd.func20, Tryd.ntmps20
  go_wp2_with fail
  go_loopw [5, 13] (fun _ i wr => ∃ j : Nat, j ≤ n ∧ i = .int .i64 j ∧ Below w.heap.size w wr) (fun _ i _ => n - (intOf i).toNat)
  case atStart => exact ⟨0, Nat.zero_le _, rfl, Below.refl _ _⟩
  case round =>
    obtain ⟨j, hj, rfl, hb⟩ := hrel
    have HB := Lib.hid hb
    clear hb
    by_cases hlt : j < n
    · have hjl : j < l.length := by have := HN.out; omega
      obtain ⟨g, rfl, hcell⟩ := (HW.out.below HB.out (Nat.le_refl _)).at_ hjl
      obtain ⟨g2, rfl, hcell2⟩ := (HW2.out.below HB.out (Nat.le_refl _)).at_ hjl
      clear hjl
      generalize ((l.getD j 0 : Nat) : Int) = y at hcell hcell2
      have i1 : (j : Int) < (n : Int) := by omega
      have i2 : (0 : Int) ≤ (j : Int) := by omega
      go_wp2_with fail
      go_quiet (fail)
      go_wp2
      go_roundw
      case rel => exact ⟨j + 1, by omega, by go_num, below_drewN HB.out _⟩
      case measure => simp [intOf]; omega
    · go_wp2
      go_ret
      exact ⟨rfl, HB.out⟩
theorem equal_no (A A2 : Option Addr) (n c c2 p : Nat) (l l2 : List Nat) (w : World) (hn : n = l.length) (hn2 : n = l2.length) (hl : n ≤ 1000) (hw : Lst w A l) (hw2 : Lst w A2 l2) (hp : p < n)
    (hq : ∀ i, i < p → l.getD i 0 = l2.getD i 0) (h : l.getD p 0 ≠ l2.getD p 0) :
    Calls Tryd.prog 20 #[.slice A n c, .slice A2 n c2] w fun e w' => e = .returned (.bool false) ∧ Below w.heap.size w w' := by
  have HN := Lib.hid hn
  have HN2 := Lib.hid hn2
  have HW := Lib.hid hw
  have HW2 := Lib.hid hw2
  have HQ := Lib.hid hq
  have HX := Lib.hid h
  clear hn hw hw2 hn2 hq h
  go_enter Tryd.func20, Tryd.ntmps20
  go_wp2_with fail
  go_loopw [5, 13] (fun _ i wr => ∃ j : Nat, j ≤ p ∧ i = .int .i64 j ∧ Below w.heap.size w wr) (fun _ i _ => n - (intOf i).toNat)
  case atStart => exact ⟨0, Nat.zero_le _, rfl, Below.refl _ _⟩
  case round =>
    obtain ⟨j, hj, rfl, hb⟩ := hrel
    have HB := Lib.hid hb
    clear hb
    have hlt : j < n := by omega
    have hjl : j < l.length := by have := HN.out; omega
    have hjl2 : j < l2.length := by have := HN2.out; omega
    obtain ⟨g, rfl, hcell⟩ := (HW.out.below HB.out (Nat.le_refl _)).at_ hjl
    obtain ⟨g2, rfl, hcell2⟩ := (HW2.out.below HB.out (Nat.le_refl _)).at_ hjl2
    clear hjl hjl2
    have i1 : (j : Int) < (n : Int) := by omega
    have i2 : (0 : Int) ≤ (j : Int) := by omega
    by_cases e : j = p
    · have hx : (((l.getD j 0 : Nat) : Int) != ((l2.getD j 0 : Nat) : Int)) = true := by rw [e, bne_iff_ne]; have := HX.out; omega
      generalize ((l.getD j 0 : Nat) : Int) = y at hcell hx
      generalize ((l2.getD j 0 : Nat) : Int) = y2 at hcell2 hx
      clear e
      go_wp2_with fail
      go_quiet (fail)
      go_wp2
      go_ret
      exact ⟨rfl, below_drewN HB.out _⟩
    · have hjp : j + 1 ≤ p := by omega
      have hq := HQ.out j (by omega)
      rw [← hq] at hcell2
      generalize ((l.getD j 0 : Nat) : Int) = y at hcell hcell2
      clear e hq
      go_wp2_with fail
      go_quiet (fail)
      go_wp2
      go_roundw
      case rel => exact ⟨j + 1, by omega, by go_num, below_drewN HB.out _⟩
      case measure => simp [intOf]; omega
theorem ext_getD {l l2 : List Nat} (hn : l.length = l2.length) (h : ∀ i, i < l.length → l.getD i 0 = l2.getD i 0) : l = l2 := by
  apply List.ext_getElem hn
  intro i h1 h2
  have := h i h1
  rw [getD_get h1, getD_get h2] at this
  exact this
theorem equal_any (A A2 : Option Addr) (n c n2 c2 : Nat) (l l2 : List Nat) (w : World) (hn : n = l.length) (hl : n ≤ 1000) (hw : Lst w A l) (hn2 : n2 = l2.length) (hw2 : Lst w A2 l2) :
    Calls Tryd.prog 20 #[.slice A n c, .slice A2 n2 c2] w fun e w' => e = .returned (.bool (decide (l = l2))) ∧ Below w.heap.size w w' := by
  by_cases e : l = l2
  · subst e
    obtain rfl : n = n2 := by omega
    rw [decide_eq_true rfl]
    exact equal_yes A A2 n c c2 l w hn hl hw hw2
  · rw [decide_eq_false e]
    by_cases hlen : n = n2
    · subst hlen
      rcases first_place (fun i => l.getD i 0 ≠ l2.getD i 0) n with h | ⟨p, hp, h1, h2⟩
      · exact absurd (ext_getD (by omega) (fun i hi => by have := h i (by omega); simpa using this)) e
      · exact equal_no A A2 n c c2 p l l2 w hn hn2 hl hw hw2 hp (fun i hi => by have := h1 i hi; simpa using this) h2
    · exact equal_len A A2 n c n2 c2 w hlen
end Go.Proofs.YtlpclbilomcaiaaDoor
