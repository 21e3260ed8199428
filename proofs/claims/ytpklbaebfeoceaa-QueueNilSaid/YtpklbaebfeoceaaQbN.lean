/- The walk of the law on queues of no numbers, and nil ones (no statement of its own). -/
import Derived.Test.YtpklbaebfeoceaaQuA
namespace Go.Proofs.Ytpklbaebfeoceaa
namespace QbN
open Go.RowKit
set_option linter.unusedVariables false
theorem below_grown {w w' : World} (h : w.grownBy w' none) : Below w.heap.size w w' := ⟨h.os, h.tape, h.output, h.size, fun k hk => h.block k hk (by simp)⟩
theorem wfI {x : Int} (w : (Lit.int .i64 x).wf = true) : -9223372036854775808 ≤ x ∧ x ≤ 9223372036854775807 := by
  have h := w
  simp [Lit.wf] at h
  exact h
set_option maxRecDepth 100000 in
set_option maxHeartbeats 4000000 in
theorem main (a0 a1 a2 K : Int) (w : World) (hK : a0 < 100 ∧ K = a0 ∨ a0 = 100 ∧ K = 100 ∨ 100 < a0 ∧ K = 100) (hx : -9223372036854775808 ≤ a1 ∧ a1 ≤ 9223372036854775807) :
    Calls Try.prog 5 #[.int .i64 a0, .int .i64 a1, .int .i64 a2] w fun e w' => e = .returned (.bool true) ∧ w.grownBy w' none := by
  have AW := Lib.hid (awake_q w)
  have hKN : K ≤ 9223372036854775807 := by omega
  have HKN := Lib.hid hKN
  have N1 := Lib.hid (fun W => push_nil a1 a2 W)
  have N2 := Lib.hid (fun W => clear_nil W)
  have N3 := Lib.hid (fun W => pop_nil W)
  have N4 := Lib.hid (fun W => top_nil W)
  have N5 := Lib.hid (fun W => drop_nil a1 W)
  have N6 := Lib.hid (fun W => has_nil a1 W)
  have N7 := Lib.hid (fun W => qlen_nil W)
  clear hKN hx
  by_cases hr : 0 ≤ a1 ∧ a1 < K
  · obtain ⟨r0, r1⟩ := hr
    rcases hK with ⟨hk, rfl⟩ | ⟨rfl, rfl⟩ | ⟨hk, rfl⟩
    all_goals
      go_enter Try.func5, Try.ntmps5
      go_wp2_with (go_at_call 8; refine AW.out.mono ?_; rintro e w1 ⟨rfl, hg1⟩)
      have C1 := Lib.hid (fun N => new_w (N := N) hg1)
      clear hg1
      go_wp2_with (go_at_call 9; refine (C1.out _).mono ?_)
      rintro e w2 ⟨rfl, hq⟩
      have C2 := Lib.hid (push_w' (x := a1) (p := a2) (L' := [(a1, a2)]) hq (by simp) r0 r1 HKN.out rfl)
      clear hq C1
      go_wp2_with (go_at_call 16; refine C2.out.mono ?_)
      rintro e w3 ⟨rfl, hq⟩
      have C3 := Lib.hid (len_w hq)
      have HG := Lib.hid hq.grown
      clear hq C2
      go_wp2_with (first | (go_at_call 17; (with_reducible refine C3.out.mono ?_); rintro e w' ⟨rfl, rfl⟩) | (go_at_call 17; (with_reducible refine (N7.out _).mono ?_); rintro e w' ⟨rfl, rfl⟩) | (go_at_call 16; refine (N1.out _).mono ?_; rintro e w' ⟨rfl, rfl⟩) | (go_at_call 15; refine (N2.out _).mono ?_; rintro e w' ⟨rfl, rfl⟩) | (go_at_call 11; refine (N3.out _).mono ?_; rintro e w' ⟨rfl, rfl⟩) | (go_at_call 10; refine (N4.out _).mono ?_; rintro e w' ⟨rfl, rfl⟩) | (go_at_call 14; refine (N5.out _).mono ?_; rintro e w' ⟨rfl, rfl⟩) | (go_at_call 18; refine (N6.out _).mono ?_; rintro e w' ⟨rfl, rfl⟩))
      go_ret
      exact ⟨rfl, HG.out⟩
  · by_cases h0 : a1 < 0
    · have HOR := Lib.hid (Or.inl h0 : a1 < 0 ∨ K ≤ a1)
      clear hr
      rcases hK with ⟨hk, rfl⟩ | ⟨rfl, rfl⟩ | ⟨hk, rfl⟩
      all_goals
        go_enter Try.func5, Try.ntmps5
        go_wp2_with (go_at_call 8; refine AW.out.mono ?_; rintro e w1 ⟨rfl, hg1⟩)
        have C1 := Lib.hid (fun N => new_w (N := N) hg1)
        clear hg1
        go_wp2_with (go_at_call 9; refine (C1.out _).mono ?_)
        rintro e w2 ⟨rfl, hq⟩
        have C2 := Lib.hid (push_wr (x := a1) (p := a2) hq HOR.out)
        have HQ := Lib.hid hq
        clear hq C1
        go_wp2_with (go_at_call 16; refine C2.out.mono ?_)
        rintro e w3 ⟨rfl, rfl⟩
        have C3 := Lib.hid (len_w HQ.out)
        have HG := Lib.hid HQ.out.grown
        clear C2
        go_wp2_with (first | (go_at_call 17; (with_reducible refine C3.out.mono ?_); rintro e w' ⟨rfl, rfl⟩) | (go_at_call 17; (with_reducible refine (N7.out _).mono ?_); rintro e w' ⟨rfl, rfl⟩) | (go_at_call 16; refine (N1.out _).mono ?_; rintro e w' ⟨rfl, rfl⟩) | (go_at_call 15; refine (N2.out _).mono ?_; rintro e w' ⟨rfl, rfl⟩) | (go_at_call 11; refine (N3.out _).mono ?_; rintro e w' ⟨rfl, rfl⟩) | (go_at_call 10; refine (N4.out _).mono ?_; rintro e w' ⟨rfl, rfl⟩) | (go_at_call 14; refine (N5.out _).mono ?_; rintro e w' ⟨rfl, rfl⟩) | (go_at_call 18; refine (N6.out _).mono ?_; rintro e w' ⟨rfl, rfl⟩))
        go_ret
        exact ⟨rfl, HG.out⟩
    · have h1 : K ≤ a1 := by omega
      have HOR := Lib.hid (Or.inr h1 : a1 < 0 ∨ K ≤ a1)
      have h0' : 0 ≤ a1 := by omega
      have hd : decide (a1 < K) = false := by simpa using h1
      clear hr h0 h1
      rcases hK with ⟨hk, rfl⟩ | ⟨rfl, rfl⟩ | ⟨hk, rfl⟩
      all_goals
        go_enter Try.func5, Try.ntmps5
        go_wp2_with (go_at_call 8; refine AW.out.mono ?_; rintro e w1 ⟨rfl, hg1⟩)
        have C1 := Lib.hid (fun N => new_w (N := N) hg1)
        clear hg1
        go_wp2_with (go_at_call 9; refine (C1.out _).mono ?_)
        rintro e w2 ⟨rfl, hq⟩
        have C2 := Lib.hid (push_wr (x := a1) (p := a2) hq HOR.out)
        have HQ := Lib.hid hq
        clear hq C1
        go_wp2_with (go_at_call 16; refine C2.out.mono ?_)
        rintro e w3 ⟨rfl, rfl⟩
        have C3 := Lib.hid (len_w HQ.out)
        have HG := Lib.hid HQ.out.grown
        clear C2
        go_wp2_with (first | (go_at_call 17; (with_reducible refine C3.out.mono ?_); rintro e w' ⟨rfl, rfl⟩) | (go_at_call 17; (with_reducible refine (N7.out _).mono ?_); rintro e w' ⟨rfl, rfl⟩) | (go_at_call 16; refine (N1.out _).mono ?_; rintro e w' ⟨rfl, rfl⟩) | (go_at_call 15; refine (N2.out _).mono ?_; rintro e w' ⟨rfl, rfl⟩) | (go_at_call 11; refine (N3.out _).mono ?_; rintro e w' ⟨rfl, rfl⟩) | (go_at_call 10; refine (N4.out _).mono ?_; rintro e w' ⟨rfl, rfl⟩) | (go_at_call 14; refine (N5.out _).mono ?_; rintro e w' ⟨rfl, rfl⟩) | (go_at_call 18; refine (N6.out _).mono ?_; rintro e w' ⟨rfl, rfl⟩))
        go_ret
        exact ⟨rfl, HG.out⟩
theorem walk (a0 : Int) (a1 : Int) (a2 : Int) (w0 : (Lit.int .i64 a0).wf = true) (w1 : (Lit.int .i64 a1).wf = true) (w2 : (Lit.int .i64 a2).wf = true) (w : World) :
    Calls Try.prog 5 #[.int .i64 a0, .int .i64 a1, .int .i64 a2] w fun e w' => e = .returned (.bool true) ∧ Below w.heap.size w w' := by
  have hx := wfI w1
  by_cases h : a0 < 100
  · exact (main a0 a1 a2 a0 w (.inl ⟨h, rfl⟩) hx).mono fun e w' hh => ⟨hh.1, below_grown hh.2⟩
  · by_cases h2 : a0 = 100
    · exact (main a0 a1 a2 100 w (.inr (.inl ⟨h2, rfl⟩)) hx).mono fun e w' hh => ⟨hh.1, below_grown hh.2⟩
    · exact (main a0 a1 a2 100 w (.inr (.inr ⟨by omega, rfl⟩)) hx).mono fun e w' hh => ⟨hh.1, below_grown hh.2⟩
end QbN
end Go.Proofs.Ytpklbaebfeoceaa
