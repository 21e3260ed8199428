/- The document's comparison of lists (no statement of its own). -/
import Derived.Test.YteocbgcgfllieaaGreatDoorDd
namespace Go.Proofs.YteocbgcgfllieaaGreatDoor
open Go.RowKit
set_option linter.unusedVariables false
theorem beq_of_nth {l l' : List Nat} (hn : l.length = l'.length) (h : ∀ j, j < l.length → nth l j = nth l' j) : (l == l') = true := by
  rw [beq_iff_eq]
  apply List.ext_getElem hn
  intro i h1 h2
  have := h i h1
  simpa [nth, List.getD, h1, h2] using this
theorem beq_not {l l' : List Nat} {j : Nat} (hj : j < l.length) (h : ¬ nth l j = nth l' j) : (l == l') = false := by
  rw [beq_eq_false_iff_ne]
  intro e
  exact h (by rw [e])
set_option maxRecDepth 100000 in
set_option maxHeartbeats 2000000 in
theorem same7 (A A' : Option Addr) (c c' : Nat) (l l' : List Nat) (w : World) (h : I6 w A l) (h' : I6 w A' l') (hl : l.length ≤ 1000000) :
    Calls Tryz.prog 67 #[.slice A l.length c, .slice A' l'.length c'] w fun e w' => e = .returned (.bool (l == l')) ∧ Below w.heap.size w w' := by
  have H1 := Lib.hid h
  have H2 := Lib.hid h'
  clear h h'
  by_cases hn : l.length = l'.length
  · rw [← hn]
    have HN := Lib.hid hn
    clear hn
    go_enter Tryz.func67, Tryz.ntmps67
    go_wp2_with fail
    go_loopw [5, 13] (fun _ i wr => ∃ j : Nat, i = .int .i64 (j : Int) ∧ j ≤ l.length ∧ (∀ q, q < j → nth l q = nth l' q) ∧ Below w.heap.size w wr) (fun _ i _ => l.length - (intOf i).toNat)
    case atStart => exact ⟨0, rfl, Nat.zero_le _, fun q hq => absurd hq (Nat.not_lt_zero _), Below.refl _ _⟩
    case round =>
      obtain ⟨j, rfl, hj, hq, hb⟩ := hrel
      have HQ := Lib.hid hq
      have HB := Lib.hid hb
      clear hq hb
      by_cases hlt : j < l.length
      · have d1 : decide ((j : Int) < (l.length : Int)) = true := decide_eq_true (by omega)
        have K : KeepD w wr := KeepD.below HB.out
        obtain ⟨g, o, rfl, c1⟩ := (H1.out.keep K).at_ hlt
        obtain ⟨g', o', rfl, c2⟩ := (H2.out.keep K).at_ (show j < l'.length by have := HN.out; omega)
        clear K
        by_cases he : nth l j = nth l' j
        · have FIN : Hid (∀ q, q < j + 1 → nth l q = nth l' q) := Lib.hid (fun q hq => by
            rcases Nat.lt_or_ge q j with h | h
            · exact HQ.out q h
            · rw [show q = j by omega]; exact he)
          rw [← he] at c2
          clear he HQ
          generalize nth l j = x at c1 c2
          have d2 : ((x : Int) != (x : Int)) = false := by simp
          go_upto_region 6 with fail
          go_quiet (fail)
          go_wp2_with fail
          go_roundw
          case rel => exact ⟨j + 1, by go_num, by omega, FIN.out, below_drewN HB.out _⟩
          case measure => simp [intOf]; omega
        · have FIN := Lib.hid (beq_not hlt he)
          generalize nth l j = x at c1 he
          generalize nth l' j = y at c2 he
          have d2 : ((x : Int) != (y : Int)) = true := by simp; omega
          clear he
          go_upto_region 6 with fail
          go_quiet (fail)
          go_wp2_with fail
          go_ret
          exact ⟨by rw [FIN.out]; rfl, below_drewN HB.out _⟩
      · have d1 : decide ((j : Int) < (l.length : Int)) = false := decide_eq_false (by omega)
        obtain rfl : j = l.length := by omega
        have FIN := Lib.hid (beq_of_nth HN.out HQ.out)
        go_wp2_with fail
        go_ret
        exact ⟨by rw [FIN.out]; rfl, HB.out⟩
  · have FIN : Hid ((l == l') = false) := Lib.hid (by rw [beq_eq_false_iff_ne]; exact fun e => hn (by rw [e]))
    have d : (((l.length : Nat) : Int) != ((l'.length : Nat) : Int)) = true := by simp; omega
    clear hn
    go_enter Tryz.func67, Tryz.ntmps67
    go_wp2_with fail
    go_ret
    exact ⟨by rw [FIN.out]; rfl, Below.refl _ _⟩
end Go.Proofs.YteocbgcgfllieaaGreatDoor
