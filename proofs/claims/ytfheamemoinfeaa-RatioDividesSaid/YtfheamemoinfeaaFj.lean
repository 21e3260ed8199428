/- RatioDivides: the walk (no statement of its own). -/
import Derived.Test.YtfheamemoinfeaaFi
namespace Go.Proofs.Ytfheamemoinfeaa
open Go.RowKit
open RtA
set_option linter.unusedVariables false
theorem zero_abs {x : Nat} (h : x < 18446744073709551616) (hn : nan x = false) : key x = 0 ↔ absF x = 0 := by
  unfold key absF
  rw [show (2 : Nat) ^ 63 = 9223372036854775808 from rfl]
  split <;> omega
theorem nan_small2 {x : Nat} (h : x < 18446744073709551616) (hn : nan x = false) : absF x ≤ 9218868437227405312 := by
  unfold nan at hn
  unfold absF
  rw [show (2 : Nat) ^ 63 = 9223372036854775808 from rfl] at hn
  simpa using hn
/-- What is told of a quotient. -/
def QuoIs (w : World) (n : Int) (x : Nat) (P : Nat → Prop) (e : Ending) (w' : World) : Prop := ∃ r, e = .returned (.float .f64 r) ∧ P r ∧ ∃ m, w' = w.drewN m
theorem ratio_is (n : Int) (x : Nat) (w : World) {P : Nat → Prop} (h : ∀ r, FR .quo (floatOfInt .f64 n) x r → P r) : Calls Try.prog 14 #[.int .i64 n, .float .f64 x] w (QuoIs w n x P) :=
  (ratio_any n x w).mono fun e w' ⟨r, m, h1, h2, h3⟩ => ⟨r, h1, h r h2, m, h3⟩
set_option maxRecDepth 100000 in
set_option maxHeartbeats 2000000 in
theorem divides_walk (n : Int) (x : Nat) (hn : -9223372036854775808 ≤ n ∧ n ≤ 9223372036854775807) (hx : x < 18446744073709551616) (W : World) :
    Calls Try.prog 4 #[.int .i64 n, .float .f64 x] W fun e W' => e = .returned (.bool true) ∧ Below W.heap.size W W' := by
  have AA := Lib.hid awake_any
  have n1 := ne_self x
  have z1 := eq_order x 0
  rw [show nan 0 = false by decide, show key 0 = 0 by decide] at z1
  have II := Lib.hid (isinf_any x hx)
  cases hnx : nan x
  · rw [hnx] at n1 z1
    simp only [Bool.not_false, Bool.true_and] at z1
    by_cases k0 : key x = 0
    · rw [decide_eq_true k0] at z1
      have hxx := zero_words hx k0
      by_cases h0 : n = 0
      · subst h0
        have RR := Lib.hid (fun w => ratio_is 0 x w (P := fun r => nan r = true) (fun r h => h.none (by rcases hxx with rfl | rfl <;> decide +kernel)))
        clear hnx k0 hxx hx hn II
        go_enter Try.func4, Try.ntmps4
        go_wp2_with (first | (go_at_call 9; refine (AA.out _).mono ?_; rintro e w1 ⟨rfl, hg1⟩; have B1 := Lib.hid (below_of_grown hg1); clear hg1) | (go_at_call 14; refine (RR.out _).mono ?_; rintro e w2 ⟨r, rfl, hr, m, rfl⟩; have n2 := ne_self r; rw [hr] at n2; clear hr))
        go_ret
        exact ⟨sret_bool (by first | rfl | exact n2), below_drewN B1.out m⟩
      · have hq : n < 0 ∨ 0 < n := by omega
        have q := quo_by0 n hn h0
        have SX := Lib.hid (signbit_any x hx)
        have d0 : (n == 0) = false := by simpa using h0
        rcases hq with hs | hs
        · rw [if_pos hs, if_pos hs] at q
          rcases hxx with rfl | rfl
          · have RR := Lib.hid (fun w => ratio_is n 0 w (P := fun r => r = 18442240474082181120) (fun r h => h.some q.1))
            have SR := Lib.hid (signbit_any 18442240474082181120 (by omega))
            have IR := Lib.hid (isinf_any 18442240474082181120 (by omega))
            rw [show sgn 18442240474082181120 = true by decide] at SR
            rw [show isInf 18442240474082181120 = true by decide] at IR
            rw [show sgn 0 = false by decide] at SX
            clear hnx k0 hx hn II q h0
            go_enter Try.func4, Try.ntmps4
            go_wp2_with (first | (go_at_call 9; refine (AA.out _).mono ?_; rintro e w1 ⟨rfl, hg1⟩; have B1 := Lib.hid (below_of_grown hg1); clear hg1) | (go_at_call 14; refine (RR.out _).mono ?_; rintro e w2 ⟨r, rfl, rfl, m, rfl⟩) | (go_at_call 15; refine (IR.out _).mono ?_; rintro e w' ⟨rfl, rfl⟩) | (go_at_call 16; first | ((with_reducible refine (SR.out _).mono ?_); rintro e w' ⟨rfl, rfl⟩) | ((with_reducible refine (SX.out _).mono ?_); rintro e w' ⟨rfl, rfl⟩)))
            go_ret
            exact ⟨sret_bool (by first | rfl | simp | (simp; omega)), below_drewN B1.out m⟩
          · have RR := Lib.hid (fun w => ratio_is n 9223372036854775808 w (P := fun r => r = 9218868437227405312) (fun r h => h.some q.2))
            have SR := Lib.hid (signbit_any 9218868437227405312 (by omega))
            have IR := Lib.hid (isinf_any 9218868437227405312 (by omega))
            rw [show sgn 9218868437227405312 = false by decide] at SR
            rw [show isInf 9218868437227405312 = true by decide] at IR
            rw [show sgn 9223372036854775808 = true by decide] at SX
            clear hnx k0 hx hn II q h0
            go_enter Try.func4, Try.ntmps4
            go_wp2_with (first | (go_at_call 9; refine (AA.out _).mono ?_; rintro e w1 ⟨rfl, hg1⟩; have B1 := Lib.hid (below_of_grown hg1); clear hg1) | (go_at_call 14; refine (RR.out _).mono ?_; rintro e w2 ⟨r, rfl, rfl, m, rfl⟩) | (go_at_call 15; refine (IR.out _).mono ?_; rintro e w' ⟨rfl, rfl⟩) | (go_at_call 16; first | ((with_reducible refine (SR.out _).mono ?_); rintro e w' ⟨rfl, rfl⟩) | ((with_reducible refine (SX.out _).mono ?_); rintro e w' ⟨rfl, rfl⟩)))
            go_ret
            exact ⟨sret_bool (by first | rfl | simp | (simp; omega)), below_drewN B1.out m⟩
        · rw [if_neg (show ¬ n < 0 by omega), if_neg (show ¬ n < 0 by omega)] at q
          have d1 : decide (n < 0) = false := by rw [decide_eq_false_iff_not]; omega
          rcases hxx with rfl | rfl
          · have RR := Lib.hid (fun w => ratio_is n 0 w (P := fun r => r = 9218868437227405312) (fun r h => h.some q.1))
            have SR := Lib.hid (signbit_any 9218868437227405312 (by omega))
            have IR := Lib.hid (isinf_any 9218868437227405312 (by omega))
            rw [show sgn 9218868437227405312 = false by decide] at SR
            rw [show isInf 9218868437227405312 = true by decide] at IR
            rw [show sgn 0 = false by decide] at SX
            clear hnx k0 hx hn II q h0
            go_enter Try.func4, Try.ntmps4
            go_wp2_with (first | (go_at_call 9; refine (AA.out _).mono ?_; rintro e w1 ⟨rfl, hg1⟩; have B1 := Lib.hid (below_of_grown hg1); clear hg1) | (go_at_call 14; refine (RR.out _).mono ?_; rintro e w2 ⟨r, rfl, rfl, m, rfl⟩) | (go_at_call 15; refine (IR.out _).mono ?_; rintro e w' ⟨rfl, rfl⟩) | (go_at_call 16; first | ((with_reducible refine (SR.out _).mono ?_); rintro e w' ⟨rfl, rfl⟩) | ((with_reducible refine (SX.out _).mono ?_); rintro e w' ⟨rfl, rfl⟩)))
            go_ret
            exact ⟨sret_bool (by first | rfl | simp | (simp; omega)), below_drewN B1.out m⟩
          · have RR := Lib.hid (fun w => ratio_is n 9223372036854775808 w (P := fun r => r = 18442240474082181120) (fun r h => h.some q.2))
            have SR := Lib.hid (signbit_any 18442240474082181120 (by omega))
            have IR := Lib.hid (isinf_any 18442240474082181120 (by omega))
            rw [show sgn 18442240474082181120 = true by decide] at SR
            rw [show isInf 18442240474082181120 = true by decide] at IR
            rw [show sgn 9223372036854775808 = true by decide] at SX
            clear hnx k0 hx hn II q h0
            go_enter Try.func4, Try.ntmps4
            go_wp2_with (first | (go_at_call 9; refine (AA.out _).mono ?_; rintro e w1 ⟨rfl, hg1⟩; have B1 := Lib.hid (below_of_grown hg1); clear hg1) | (go_at_call 14; refine (RR.out _).mono ?_; rintro e w2 ⟨r, rfl, rfl, m, rfl⟩) | (go_at_call 15; refine (IR.out _).mono ?_; rintro e w' ⟨rfl, rfl⟩) | (go_at_call 16; first | ((with_reducible refine (SR.out _).mono ?_); rintro e w' ⟨rfl, rfl⟩) | ((with_reducible refine (SX.out _).mono ?_); rintro e w' ⟨rfl, rfl⟩)))
            go_ret
            exact ⟨sret_bool (by first | rfl | simp | (simp; omega)), below_drewN B1.out m⟩
    · rw [decide_eq_false k0] at z1
      have h9 : ¬ absF x = 0 := fun h => k0 ((zero_abs hx hnx).2 h)
      have h8 := nan_small2 hx hnx
      cases hi : isInf x
      · rw [hi] at II
        have h7 : absF x < 9218868437227405312 := by unfold isInf at hi; simp at hi; omega
        by_cases h0 : n = 0
        · subst h0
          have RR := Lib.hid (fun w => ratio_is 0 x w (P := fun r => (FloatKind.f64.format.order r 0 == some .eq) = true) (fun r h => by rcases quo_none h7 h9 with e | e <;> (rw [h.some e]; decide +kernel)))
          clear hnx k0 hx hn h7 h8 h9 hi
          go_enter Try.func4, Try.ntmps4
          go_wp2_with (first | (go_at_call 9; refine (AA.out _).mono ?_; rintro e w1 ⟨rfl, hg1⟩; have B1 := Lib.hid (below_of_grown hg1); clear hg1) | (go_at_call 14; refine (RR.out _).mono ?_; rintro e w2 ⟨r, rfl, hr, m, rfl⟩) | (go_at_call 15; refine (II.out _).mono ?_; rintro e w' ⟨rfl, rfl⟩))
          go_ret
          exact ⟨sret_bool (by first | rfl | exact hr), below_drewN B1.out m⟩
        · have d0 : (n == 0) = false := by simpa using h0
          have RR := Lib.hid (fun w => ratio_is n x w (P := fun r => FR .quo (floatOfInt .f64 n) x r) (fun r h => h))
          obtain ⟨f, d, h⟩ := float_run .quo rfl 24 (floatOfInt .f64 n) x
          have h1 := fun W => (h W).1
          have H2 : Hid (∀ W, FR .quo (floatOfInt .f64 n) x (f W)) := Lib.hid fun W => (h W).2
          clear hnx k0 hx hn h7 h8 h9 hi h h0
          go_enter Try.func4, Try.ntmps4
          go_wp2_with (first | (go_at_call 9; refine (AA.out _).mono ?_; rintro e w1 ⟨rfl, hg1⟩; have B1 := Lib.hid (below_of_grown hg1); clear hg1) | (go_at_call 14; refine (RR.out _).mono ?_; rintro e w2 ⟨r, rfl, hr, m, rfl⟩; have HR := Lib.hid hr; clear hr) | (go_at_call 15; refine (II.out _).mono ?_; rintro e w' ⟨rfl, rfl⟩) | (go_at_call 17; refine (same_yes HR.out.1 (HR.out.eqv (H2.out _)) _).mono ?_; rintro e w' ⟨rfl, rfl⟩))
          go_ret
          exact ⟨rfl, below_drewN B1.out _⟩
      · rw [hi] at II
        have h7 : absF x = 9218868437227405312 := by unfold isInf at hi; simpa using hi
        have RR := Lib.hid (fun w => ratio_is n x w (P := fun r => (FloatKind.f64.format.order r 0 == some .eq) = true) (fun r h => by rcases quo_infi n hn h7 with e | e <;> (rw [h.some e]; decide +kernel)))
        clear hnx k0 hx hn h7 h8 h9 hi
        by_cases h0 : n = 0
        · subst h0
          go_enter Try.func4, Try.ntmps4
          go_wp2_with (first | (go_at_call 9; refine (AA.out _).mono ?_; rintro e w1 ⟨rfl, hg1⟩; have B1 := Lib.hid (below_of_grown hg1); clear hg1) | (go_at_call 14; refine (RR.out _).mono ?_; rintro e w2 ⟨r, rfl, hr, m, rfl⟩) | (go_at_call 15; refine (II.out _).mono ?_; rintro e w' ⟨rfl, rfl⟩))
          go_ret
          exact ⟨sret_bool (by first | rfl | exact hr), below_drewN B1.out m⟩
        · have d0 : (n == 0) = false := by simpa using h0
          go_enter Try.func4, Try.ntmps4
          go_wp2_with (first | (go_at_call 9; refine (AA.out _).mono ?_; rintro e w1 ⟨rfl, hg1⟩; have B1 := Lib.hid (below_of_grown hg1); clear hg1) | (go_at_call 14; refine (RR.out _).mono ?_; rintro e w2 ⟨r, rfl, hr, m, rfl⟩) | (go_at_call 15; refine (II.out _).mono ?_; rintro e w' ⟨rfl, rfl⟩))
          go_ret
          exact ⟨sret_bool (by first | rfl | exact hr), below_drewN B1.out m⟩
  · rw [hnx] at n1
    have RR := Lib.hid (fun w => ratio_is n x w (P := fun r => nan r = true) (fun r h => h.none (quo_nan _ hnx)))
    clear hnx hx hn II z1
    go_enter Try.func4, Try.ntmps4
    go_wp2_with (first | (go_at_call 9; refine (AA.out _).mono ?_; rintro e w1 ⟨rfl, hg1⟩; have B1 := Lib.hid (below_of_grown hg1); clear hg1) | (go_at_call 14; refine (RR.out _).mono ?_; rintro e w2 ⟨r, rfl, hr, m, rfl⟩; have n2 := ne_self r; rw [hr] at n2; clear hr))
    go_ret
    exact ⟨sret_bool (by first | rfl | exact n2), below_drewN B1.out m⟩
end Go.Proofs.Ytfheamemoinfeaa
