/- What an operation on floats gives; Ratio, Same (no statement of its own). -/
import Derived.Test.YtfheamemoinfeaaFb
import Derived.Deep.Draws
import Derived.WalkSmall
namespace Go.Proofs.Ytfheamemoinfeaa
open Go.RowKit
open RtA
set_option linter.unusedVariables false
/-- What an operation on two floats may give: the word that IEEE names, or any NaN. -/
def FR (op : BinOp) (x y r : Nat) : Prop := r < 18446744073709551616 ∧ match floatBits op .f64 x y with
  | some b => r = b
  | none => nan r = true
def isArith : BinOp → Bool
  | .add => true
  | .sub => true
  | .mul => true
  | .quo => true
  | _ => false
theorem nan_cut (t x y : Nat) : nan ((Question.nanBits .f64 x y).cut t) = true ∧ (Question.nanBits .f64 x y).cut t < 18446744073709551616 := by
  have e : (Question.nanBits .f64 x y).cut t = (t % 2) * 2 ^ 63 + 0x7ff0000000000000 + 1 + (t / 2) % (2 ^ 52 - 1) := rfl
  rw [e]
  have h1 := Nat.mod_lt t (show 0 < 2 by decide)
  have h2 := Nat.mod_lt (t / 2) (show 0 < 2 ^ 52 - 1 by decide)
  generalize t % 2 = a at *
  generalize t / 2 % (2 ^ 52 - 1) = b at *
  unfold nan
  constructor
  · rw [decide_eq_true_iff]; omega
  · omega
theorem float_run (op : BinOp) (hop : isArith op = true) (t x y : Nat) : ∃ f d : World → Nat, ∀ W : World, (binOp op t (.float .f64 x) (.float .f64 y)).run Try.prog W = .ok (.float .f64 (f W)) (W.drewN (d W)) ∧ FR op x y (f W) := by
  cases h : floatBits op .f64 x y with
  | some r =>
    refine ⟨fun _ => r, fun _ => 0, fun W => ⟨run_float_arith W op t .f64 x y r h, ?_, ?_⟩⟩
    · have := floatBits_wf h
      simp [Lit.wf] at this
      exact this
    · rw [h]
  | none =>
    refine ⟨fun W => (Question.nanBits .f64 x y).cut (W.tape W.drawn (.nanBits .f64 x y)), fun _ => 1, fun W => ⟨?_, (nan_cut _ x y).2, ?_⟩⟩
    · unfold floatBits at h
      cases op <;> simp only [isArith] at hop <;> first | (cases hop; done) | skip
      all_goals
        simp only at h
        simp only [binOp, Op.floatArith, h]
        rfl
    · rw [h]; exact (nan_cut _ x y).1
/-- What Ratio answers. -/
def RatioP (w : World) (n : Int) (x : Nat) (e : Ending) (w' : World) : Prop := ∃ r m, e = .returned (.float .f64 r) ∧ FR .quo (floatOfInt .f64 n) x r ∧ w' = w.drewN m
theorem ratio_any (n : Int) (x : Nat) (w : World) : Calls Try.prog 14 #[.int .i64 n, .float .f64 x] w (RatioP w n x) := by
  obtain ⟨f, d, h⟩ := float_run .quo rfl 24 (floatOfInt .f64 n) x
  have h1 := fun W => (h W).1
  have H2 : Hid (∀ W, FR .quo (floatOfInt .f64 n) x (f W)) := Lib.hid fun W => (h W).2
  clear h
  go_enter Try.func14, Try.ntmps14
  go_wp2
  go_ret
  exact ⟨_, _, rfl, H2.out _, rfl⟩
/-- The same number, or both none. -/
def Eqv (x y : Nat) : Prop := (nan x = true ∧ nan y = true) ∨ x = y
theorem zero_words {x : Nat} (h : x < 18446744073709551616) (h0 : key x = 0) : x = 0 ∨ x = 9223372036854775808 := by
  unfold key at h0
  split at h0
  · rename_i h1
    simp at h1
    omega
  · rename_i h1
    simp at h1
    omega
theorem same_yes {x y : Nat} (hx : x < 18446744073709551616) (h : Eqv x y) (w : World) : Calls Try.prog 17 #[.float .f64 x, .float .f64 y] w fun e w' => e = .returned (.bool true) ∧ w = w' := by
  rcases h with ⟨h1, h2⟩ | rfl
  · go_enter Try.func17, Try.ntmps17
    go_wp2_with (go_at_call 28; refine (nan_any _ _).mono ?_; rintro e w' ⟨rfl, rfl⟩)
    go_ret
    exact ⟨rfl, rfl⟩
  · cases hn : nan x
    · have h1 := eq_self x
      rw [hn] at h1
      have h2 := eq_order x 0
      rw [hn, show nan 0 = false by decide, show key 0 = 0 by decide] at h2
      simp only [Bool.not_false, Bool.true_and] at h1 h2
      by_cases h0 : key x = 0
      · rw [decide_eq_true h0] at h2
        have h3 : (FloatKind.f64.format.order x 0 != some .eq) = false := by unfold bne; rw [h2]; rfl
        rcases zero_words hx h0 with rfl | rfl
        · clear h0 hn hx h2
          have h4 : ∀ W, (binOp .quo 24 (.float .f64 4607182418800017408) (.float .f64 0)).run Try.prog W = .ok (.float .f64 9218868437227405312) W := fun W => run_float_arith W .quo 24 .f64 4607182418800017408 0 9218868437227405312 (by decide +kernel)
          have h5 : (FloatKind.f64.format.order 9218868437227405312 9218868437227405312 == some .eq) = true := by decide +kernel
          go_enter Try.func17, Try.ntmps17
          go_wp2_with (go_at_call 28; refine (nan_any _ _).mono ?_; rintro e w' ⟨rfl, rfl⟩)
          go_ret
          exact ⟨rfl, rfl⟩
        · clear h0 hn hx h2
          have h4 : ∀ W, (binOp .quo 24 (.float .f64 4607182418800017408) (.float .f64 9223372036854775808)).run Try.prog W = .ok (.float .f64 18442240474082181120) W := fun W => run_float_arith W .quo 24 .f64 4607182418800017408 9223372036854775808 18442240474082181120 (by decide +kernel)
          have h5 : (FloatKind.f64.format.order 18442240474082181120 18442240474082181120 == some .eq) = true := by decide +kernel
          go_enter Try.func17, Try.ntmps17
          go_wp2_with (go_at_call 28; refine (nan_any _ _).mono ?_; rintro e w' ⟨rfl, rfl⟩)
          go_ret
          exact ⟨rfl, rfl⟩
      · rw [decide_eq_false h0] at h2
        have h3 : (FloatKind.f64.format.order x 0 != some .eq) = true := by unfold bne; rw [h2]; rfl
        clear h0 h2
        go_enter Try.func17, Try.ntmps17
        go_wp2_with (go_at_call 28; refine (nan_any _ _).mono ?_; rintro e w' ⟨rfl, rfl⟩)
        go_ret
        exact ⟨rfl, rfl⟩
    · go_enter Try.func17, Try.ntmps17
      go_wp2_with (go_at_call 28; refine (nan_any _ _).mono ?_; rintro e w' ⟨rfl, rfl⟩)
      go_ret
      exact ⟨rfl, rfl⟩
end Go.Proofs.Ytfheamemoinfeaa
