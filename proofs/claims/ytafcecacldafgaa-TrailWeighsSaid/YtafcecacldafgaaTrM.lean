/- The contract of slices.Equal where both lists are the same (no statement of its own). -/
import Derived.Test.YtafcecacldafgaaTrL
namespace Go.Proofs.Ytafcecacldafgaa
open Go.RowKit
open Go.Maps (Keyed)
set_option linter.unusedVariables false
theorem OwnL.src {w : World} {B n c : Nat} {A : Option Addr} {l : List Int} (h : OwnL w B (.slice A n c) l) : SrcL w A l ∧ n = l.length := by
  rcases h.2 with ⟨e, h0⟩ | ⟨g, cap, cur, e, hb, hh, hn, hm, hs, ht⟩
  · injection e with e1 e2 e3
    subst e1
    exact ⟨.inl ⟨rfl, List.eq_nil_of_length_eq_zero h0⟩, by omega⟩
  · injection e with e1 e2 e3
    subst e1 e2 e3
    refine ⟨.inr ⟨_, rfl, fun j hj => ?_⟩, rfl⟩
    have e : (⟨g, 0, none⟩ : Addr).add j = ⟨g, j, none⟩ := by unfold Addr.add; split <;> simp_all
    rw [e]
    exact ⟨(Array.getElem?_eq_some_iff.1 hh).1, OwnL.cell h j hj⟩
theorem src_at {w : World} {A : Option Addr} {l : List Int} (h : SrcL w A l) {j : Nat} (hj : j < l.length) : ∃ ad : Addr, A = some ad ∧ w.cell? (ad.add j) = some (.int .i64 (nthI l j)) := by
  rcases h with ⟨_, rfl⟩ | ⟨ad, rfl, h⟩
  · simp at hj
  · exact ⟨ad, rfl, (h j hj).2⟩
theorem SrcL.grown {w w' : World} {A : Option Addr} {l : List Int} (h : SrcL w A l) (hg : w.grownBy w' none) : SrcL w' A l := h.below ⟨hg.os, hg.tape, hg.output, hg.size, fun k hk => hg.block k hk (by simp)⟩
set_option maxRecDepth 100000 in
theorem eq_yes (A A2 : Option Addr) (n m c c2 : Nat) (l : List Int) (w : World) (hn : n = l.length) (hm : m = l.length) (hl : l.length ≤ 1000000) (hw : SrcL w A l) (hw2 : SrcL w A2 l) :
    Calls Try.prog 20 #[.slice A n c, .slice A2 m c2] w (AndG w (.bool true)) := by
  subst hn hm
  have HW := Lib.hid hw
  have HW2 := Lib.hid hw2
  clear hw hw2
  generalize hN : l.length = N at *
  have HN := Lib.hid hN
  clear hN
  go_enter Try.func20, Try.ntmps20
  go_wp2_with fail
  go_loopw [5, 13] (fun _ i wr => ∃ j : Nat, j ≤ N ∧ i = .int .i64 j ∧ Hid (w.grownBy wr none)) (fun _ i _ => N - (intOf i).toNat)
  case atStart => exact ⟨0, Nat.zero_le _, rfl, Lib.hid (World.grownBy_refl _)⟩
  case round =>
    obtain ⟨j, hj, rfl, HB⟩ := hrel
    by_cases hlt : j < N
    · obtain ⟨ad, rfl, hcell⟩ := src_at (HW.out.grown HB.out) (j := j) (by rw [HN.out]; exact hlt)
      obtain ⟨ad2, rfl, hcell2⟩ := src_at (HW2.out.grown HB.out) (j := j) (by rw [HN.out]; exact hlt)
      generalize nthI l j = y at hcell hcell2
      have i1 : (j : Int) < (N : Int) := by omega
      have i2 : (0 : Int) ≤ (j : Int) := by omega
      go_wp2_with fail
      go_quiet (fail)
      go_wp2
      go_roundw
      case rel => exact ⟨j + 1, by omega, by go_num, Lib.hid (grown_drewN HB.out _)⟩
      case measure => simp [intOf]; omega
    · go_wp2
      go_ret
      exact ⟨rfl, HB.out⟩
end Go.Proofs.Ytafcecacldafgaa
