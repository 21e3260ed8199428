/- RatioNil: the walk (no statement of its own). -/
import Derived.Test.YtfheamemoinfeaaHwf
import Derived.Test.YtfheamemoinfeaaHwg
namespace Go.Proofs.Ytfheamemoinfeaa
open Go.RowKit
open RtA
set_option linter.unusedVariables false
theorem ofX_nil (j : Int) : ofX [] j = 0 := by unfold ofX; rw [if_neg (by simp [isIn])]
theorem sum_nil {j : Int} {s : Nat} (h : SumT [] [j] 1 s) : s = 0 := by
  obtain ⟨s', h1, h2⟩ := h
  rw [ofX_nil, show s' = 0 from h1] at h2
  exact h2.2
set_option maxRecDepth 100000 in
set_option maxHeartbeats 2000000 in
theorem nil_walk (n j : Int) (x : Nat) (hn : -9223372036854775808 ≤ n ∧ n ≤ 9223372036854775807) (w : World) : Calls Try.prog 6 #[.int .i64 n, .int .i64 j, .float .f64 x] w fun e w' => e = .returned (.bool true) ∧ Below w.heap.size w w' := by
  obtain ⟨k, hk1, hk2⟩ : ∃ k : Int, (if (50 : Int) < n then (50 : Int) else n) = k ∧ k ≤ 50 := ⟨_, rfl, by split <;> omega⟩
  have AA := Lib.hid awake_any
  have NN := Lib.hid (wnew_any k)
  have hgl := growX_len [] k
  obtain ⟨L, hL⟩ : ∃ L, (growX [] k).length = L := ⟨_, rfl⟩
  rw [hL] at hgl
  have hmx : (if k < 0 then (0 : Int) else k) = (L : Int) := by simp at hgl; split <;> omega
  have CL : Hid (∀ W b, WA (fun k => True) W b 1 (growX [] k) → Calls Try.prog 22 #[.pointer (some ⟨b, 0, none⟩)] W (RetN W (.int .i64 (L : Int)))) := Lib.hid fun W b h => by rw [← hL]; exact wlen_any h (by omega)
  have CF : Hid (∀ W, Calls Try.prog 12 #[.slice none 0 0] W fun e w' => e = .returned (.int .i64 (-1)) ∧ W = w') := Lib.hid fun W =>
    (ffirst_any none 0 0 [] W rfl (by omega) (.inl rfl)).mono fun e w' ⟨r, h1, h2, h3⟩ => by
      rcases h2 with ⟨_, rfl⟩ | ⟨j, hj, _⟩
      · exact ⟨h1, h3⟩
      · simp at hj
  have CO : Hid (∀ W, Calls Try.prog 24 #[.pointer none, .int .i64 j] W fun e w' => e = .returned (.float .f64 0) ∧ W.grownBy w' none) := Lib.hid fun W => by
    have := wof_nil W W (grown_refl W) j
    rw [ofX_nil] at this
    exact this
  have CS : Hid (∀ W : World, Calls Try.prog 23 #[.pointer none, .slice (some ⟨W.heap.size, 0, none⟩) 1 1] (W.alloc (.cells #[.int .i64 j] 3)) fun e w' => e = .returned (.float .f64 0) ∧ W.grownBy w' none) := Lib.hid fun W => by
    have hs : SrcN (W.alloc (.cells #[.int .i64 j] 3)) (some ⟨W.heap.size, 0, none⟩) [j] := by
      refine .inr ⟨_, rfl, by simp, fun i hi => ?_⟩
      have : i = 0 := by simp at hi; omega
      subst this
      rw [add_zero_off, cell_of_row _ _ _ _ _ _ (heap_alloc_new W _)]
      rfl
    refine (wsum_of (wof_nil _) (some ⟨W.heap.size, 0, none⟩) 1 1 [j] rfl (by omega) hs).mono ?_
    rintro e w' ⟨s, rfl, h1, h2⟩
    rw [sum_nil h1]
    exact ⟨rfl, (World.grownBy_alloc W _ none).trans h2⟩
  have hf0 : (FloatKind.f64.format.order 0 0 == some .eq) = true := by decide +kernel
  clear hgl hL
  go_enter Try.func6, Try.ntmps6
  go_wp2_with (first
    | (go_at_call 9; refine (AA.out _).mono ?_; rintro e w1 ⟨rfl, hg1⟩; have G1 := Lib.hid hg1; clear hg1)
    | (go_at_call 18; refine (NN.out _).mono ?_; rintro e w2 ⟨rfl, hw2, hg2⟩; have W2 := Lib.hid (hw2.mono (Q := fun k => True) (fun _ _ _ => trivial)); have G2 := Lib.hid (G1.out.trans hg2); clear hw2 hg2; generalize w1.heap.size + 1 = b at *)
    | (go_at_call 19; refine (wdecay_nil _ _).mono ?_; rintro e w' ⟨rfl, rfl⟩)
    | (go_at_call 20; refine (wgrow_nil _ _).mono ?_; rintro e w' ⟨rfl, rfl⟩)
    | (go_at_call 22; first | ((with_reducible refine (CL.out _ _ W2.out).mono ?_); rintro e w' ⟨rfl, m, rfl⟩) | ((with_reducible refine (wlen_nil _).mono ?_); rintro e w' ⟨rfl, m2, rfl⟩))
    | (go_at_call 12; refine (CF.out _).mono ?_; rintro e w' ⟨rfl, rfl⟩)
    | (go_at_call 24; refine (CO.out _).mono ?_; rintro e w5 ⟨rfl, hg5⟩; have G5 := Lib.hid ((grown_drewN G2.out _).trans hg5); clear hg5)
    | (go_at_call 21; refine (wbump_nil _ _ _).mono ?_; rintro e w' ⟨rfl, rfl⟩)
    | (go_at_call 23; refine (CS.out _).mono ?_; rintro e w6 ⟨rfl, hg6⟩; have G6 := Lib.hid (G5.out.trans hg6); clear hg6))
  go_ret
  exact ⟨rfl, below_of_grown G6.out⟩
end Go.Proofs.Ytfheamemoinfeaa
