/- Contract of the document's Same of two lists (no statement of its own). No condition. -/
import Derived.Test.YtdmldnlgamnkeaaTbW
namespace Go.Proofs.Ytdmldnlgamnkeaa
open Go.RowKit
set_option linter.unusedVariables false
theorem rsame_len (A A2 : Option Addr) (n c n2 c2 : Nat) (w : World) (h : n ≠ n2) :
    Calls Try.prog 33 #[.slice A n c, .slice A2 n2 c2] w fun e w' => e = .returned (.bool false) ∧ Below w.heap.size w w' := by
  have e1 : ((n : Int) != (n2 : Int)) = true := by rw [bne_iff_ne]; omega
  go_enter Try.func33, Try.ntmps33
  go_wp2
  go_ret
  exact ⟨rfl, Below.refl _ _⟩
theorem rsame_yes (A A2 : Option Addr) (n c c2 : Nat) (l : List Nat) (w : World) (hn : n = l.length) (hl : n ≤ 1000000) (hw : Ints w A l) (hw2 : Ints w A2 l) :
    Calls Try.prog 33 #[.slice A n c, .slice A2 n c2] w fun e w' => e = .returned (.bool true) ∧ Below w.heap.size w w' := by
  have HN := Lib.hid hn
  have HW := Lib.hid hw
  have HW2 := Lib.hid hw2
  clear hn hw hw2
  go_enter Try.func33, Try.ntmps33
  go_wp2_with fail
  go_loopw [5, 13] (fun _ i wr => ∃ j : Nat, j ≤ n ∧ i = .int .i64 j ∧ Below w.heap.size w wr) (fun _ i _ => n - (intOf i).toNat)
  case atStart => exact ⟨0, Nat.zero_le _, rfl, Below.refl _ _⟩
  case round =>
    obtain ⟨j, hj, rfl, hb⟩ := hrel
    have HB := Lib.hid hb
    clear hb
    by_cases hlt : j < n
    · have hjl : j < l.length := by have := HN.out; omega
      obtain ⟨g, o, rfl, hcell⟩ := (HW.out.below HB.out (Nat.le_refl _)).at_ hjl
      obtain ⟨g2, o2, rfl, hcell2⟩ := (HW2.out.below HB.out (Nat.le_refl _)).at_ hjl
      clear hjl
      generalize (nth l j : Int) = y at hcell hcell2
      have i1 : (j : Int) < (n : Int) := by omega
      have i2 : (0 : Int) ≤ (j : Int) := by omega
      go_wp2_with fail
      go_quiet (fail)
      go_wp2
      go_roundw
      case rel => exact ⟨j + 1, by omega, by go_num, next_drewN HB.out _⟩
      case measure => simp [intOf]; omega
    · go_wp2
      go_ret
      exact ⟨rfl, HB.out⟩
theorem rsame_no (A A2 : Option Addr) (n c c2 p : Nat) (l l2 : List Nat) (w : World) (hn : n = l.length) (hn2 : n = l2.length) (hl : n ≤ 1000000) (hw : Ints w A l) (hw2 : Ints w A2 l2) (hp : p < n)
    (hq : ∀ i, i < p → nth l i = nth l2 i) (h : nth l p ≠ nth l2 p) :
    Calls Try.prog 33 #[.slice A n c, .slice A2 n c2] w fun e w' => e = .returned (.bool false) ∧ Below w.heap.size w w' := by
  have HN := Lib.hid hn
  have HN2 := Lib.hid hn2
  have HW := Lib.hid hw
  have HW2 := Lib.hid hw2
  have HQ := Lib.hid hq
  have HX := Lib.hid h
  clear hn hw hw2 hn2 hq h
  go_enter Try.func33, Try.ntmps33
  go_wp2_with fail
  go_loopw [5, 13] (fun _ i wr => ∃ j : Nat, j ≤ p ∧ i = .int .i64 j ∧ Below w.heap.size w wr) (fun _ i _ => n - (intOf i).toNat)
  case atStart => exact ⟨0, Nat.zero_le _, rfl, Below.refl _ _⟩
  case round =>
    obtain ⟨j, hj, rfl, hb⟩ := hrel
    have HB := Lib.hid hb
    clear hb
    have hlt : j < n := by omega
    have hjl : j < l.length := by have := HN.out; omega
    have hjl2 : j < l2.length := by have := HN2.out; omega
    obtain ⟨g, o, rfl, hcell⟩ := (HW.out.below HB.out (Nat.le_refl _)).at_ hjl
    obtain ⟨g2, o2, rfl, hcell2⟩ := (HW2.out.below HB.out (Nat.le_refl _)).at_ hjl2
    clear hjl hjl2
    have i1 : (j : Int) < (n : Int) := by omega
    have i2 : (0 : Int) ≤ (j : Int) := by omega
    by_cases e : j = p
    · have hx : ((nth l j : Int) != (nth l2 j : Int)) = true := by rw [e, bne_iff_ne]; have := HX.out; omega
      generalize (nth l j : Int) = y at hcell hx
      generalize (nth l2 j : Int) = y2 at hcell2 hx
      clear e
      go_wp2_with fail
      go_quiet (fail)
      go_wp2
      go_ret
      exact ⟨rfl, next_drewN HB.out _⟩
    · have hjp : j + 1 ≤ p := by omega
      have hq := HQ.out j (by omega)
      rw [← hq] at hcell2
      generalize (nth l j : Int) = y at hcell hcell2
      clear e hq
      go_wp2_with fail
      go_quiet (fail)
      go_wp2
      go_roundw
      case rel => exact ⟨j + 1, by omega, by go_num, next_drewN HB.out _⟩
      case measure => simp [intOf]; omega
theorem rsame_any (A A2 : Option Addr) (c c2 : Nat) (l l2 : List Nat) (w : World) (hl : l.length ≤ 1000000) (hw : Ints w A l) (hw2 : Ints w A2 l2) :
    Calls Try.prog 33 #[.slice A l.length c, .slice A2 l2.length c2] w fun e w' => e = .returned (.bool (decide (l = l2))) ∧ Below w.heap.size w w' := by
  by_cases e : l = l2
  · subst e
    rw [decide_eq_true rfl]
    exact rsame_yes A A2 l.length c c2 l w rfl hl hw hw2
  · rw [decide_eq_false e]
    by_cases hlen : l.length = l2.length
    · rcases first_at (fun i => nth l i ≠ nth l2 i) l.length with h | ⟨p, hp, h1, h2⟩
      · exact absurd (nth_eq hlen (fun i hi => by have := h i hi; simpa using this)) e
      · rw [← hlen]
        exact rsame_no A A2 l.length c c2 p l l2 w rfl hlen hl hw hw2 hp (fun i hi => by have := h1 i hi; simpa using this) h2
    · exact rsame_len A A2 _ c _ c2 w hlen
theorem rsame_anyN (A A2 : Option Addr) (n n2 c c2 : Nat) (l l2 : List Nat) (w : World) (hn : l.length = n) (hn2 : l2.length = n2) (hl : n ≤ 1000000) (hw : Ints w A l) (hw2 : Ints w A2 l2) :
    Calls Try.prog 33 #[.slice A n c, .slice A2 n2 c2] w fun e w' => e = .returned (.bool (decide (l = l2))) ∧ Below w.heap.size w w' := by
  subst hn hn2
  exact rsame_any A A2 c c2 l l2 w hl hw hw2
end Go.Proofs.Ytdmldnlgamnkeaa
