/- Bump, Grow, New (no statement of its own). -/
import Derived.Test.YtfheamemoinfeaaHwd
namespace Go.Proofs.Ytfheamemoinfeaa
open Go.RowKit
open Go.Maps (Keyed)
open RtA
set_option linter.unusedVariables false
theorem whas_any {P : Nat → Prop} {w W : World} {b K : Nat} {X : List Nat} (h : WA P w b K X) (hK : K ≤ 100000) (hg : w.grownBy W none) (j : Int) : Calls Try.prog 32 #[.pointer (some ⟨b, 0, none⟩), .int .i64 j] W (RetN W (.bool (isIn j X.length))) :=
  has_of j W (fun _ => wlen_any (h.grown hg) hK)
def BumpP (P : Nat → Prop) (b K : Nat) (j : Int) (by_ : Nat) (X : List Nat) (w : World) (e : Ending) (w' : World) : Prop :=
  (nan by_ = true ∧ e = .returned (.int .i64 1) ∧ ∃ m, w' = w.drewN m) ∨
  (nan by_ = false ∧ isIn j X.length = false ∧ e = .returned (.int .i64 3) ∧ ∃ m, w' = w.drewN m) ∨
  (nan by_ = false ∧ ∃ q r : Nat, j = (q : Int) ∧ q < X.length ∧ FR .add (nthF X q) by_ r ∧ e = .returned (.int .i64 0) ∧ WA (fun k => P k ∨ w.heap.size ≤ k) w' b (K + 1) (X.set q r) ∧ Kp P w w')
theorem Kp.grown0 {P : Nat → Prop} {w w1 w2 : World} (h : w.grownBy w1 none) (h2 : Kp P w1 w2) : Kp P w w2 :=
  (Kp.of_grown h (fun k e => by cases e)).trans h2
set_option maxRecDepth 100000 in
set_option maxHeartbeats 2000000 in
theorem wbump_any {P : Nat → Prop} {w : World} {b K by_ : Nat} {X : List Nat} (j : Int) (h : WA P w b K X) (hK : K ≤ 90000) (hX : X.length ≤ 100000) : Calls Try.prog 21 #[.pointer (some ⟨b, 0, none⟩), .int .i64 j, .float .f64 by_] w (BumpP P b K j by_ X w) := by
  have HH := Lib.hid (whas_any h (by omega) (grown_refl w) j)
  cases hn : nan by_
  · have HNN := Lib.hid hn
    have CN := Lib.hid (isnan_any by_)
    rw [hn] at CN
    cases hj : isIn j X.length
    · rw [hj] at HH
      have HJ := Lib.hid hj
      clear h hn hj hX
      go_enter Try.func21, Try.ntmps21
      go_wp2_with (first | (go_at_call 29; refine (CN.out _).mono ?_; rintro e w' ⟨rfl, rfl⟩) | (go_at_call 32; refine HH.out.mono ?_; rintro e w' ⟨rfl, m, rfl⟩))
      go_ret
      exact .inr (.inl ⟨HNN.out, HJ.out, rfl, m, rfl⟩)
    · rw [hj] at HH
      obtain ⟨q, rfl, hq⟩ := isIn_nat hj
      have HO : Hid (∀ n, Calls Try.prog 24 #[.pointer (some ⟨b, 0, none⟩), .int .i64 (q : Int)] (w.drewN n) fun e w' => e = .returned (.float .f64 (nthF X q)) ∧ (w.drewN n).grownBy w' none) :=
        Lib.hid fun n => wof_in (h.grown (grown_drewN (grown_refl w) n)) (by omega) hq hX
      have HP : Hid (∀ W x, w.grownBy W none → x < 18446744073709551616 → Calls Try.prog 33 #[.pointer (some ⟨b, 0, none⟩), .int .i64 (q : Int), .float .f64 x] W (PutP P b K q x X W)) :=
        Lib.hid fun W x hg hx => put_any (h.grown hg) hK hq hX hx
      have HQ := Lib.hid hq
      generalize hxx : nthF X q = xx at *
      obtain ⟨f, d, hf⟩ := float_run .add rfl 24 xx by_
      have f1 := fun W => (hf W).1
      have F2 : Hid (∀ W, FR .add xx by_ (f W)) := Lib.hid fun W => (hf W).2
      have HXX := Lib.hid hxx
      clear h hn hj hX hf hxx
      go_enter Try.func21, Try.ntmps21
      go_wp2_with (first | (go_at_call 29; refine (CN.out _).mono ?_; rintro e w' ⟨rfl, rfl⟩) | (go_at_call 32; refine HH.out.mono ?_; rintro e w' ⟨rfl, m, rfl⟩) | (go_at_call 24; refine (HO.out _).mono ?_; rintro e w2 ⟨rfl, hg2⟩; have G2 := Lib.hid ((grown_drewN (grown_refl w) m).trans hg2); clear hg2) | (go_at_call 33; refine (HP.out _ _ (grown_drewN G2.out _) (F2.out _).1).mono ?_; rintro e w3 ⟨rfl, hw3, hk3⟩; have W3 := Lib.hid hw3; have K3 := Lib.hid hk3; clear hw3 hk3))
      go_ret
      refine .inr (.inr ⟨HNN.out, q, _, rfl, HQ.out, by rw [HXX.out]; exact F2.out w2, rfl, ?_, Kp.grown0 (grown_drewN G2.out _) K3.out⟩)
      exact W3.out.mono fun k hk hp => hp.imp id (fun hp => by have := G2.out.size; simp at hp; omega)
  · have HNN := Lib.hid hn
    have CN := Lib.hid (isnan_any by_)
    rw [hn] at CN
    clear h hn HH
    go_enter Try.func21, Try.ntmps21
    go_wp2_with (go_at_call 29; refine (CN.out _).mono ?_; rintro e w' ⟨rfl, rfl⟩)
    go_ret
    exact .inl ⟨HNN.out, rfl, 0, rfl⟩
theorem wbump_nil (j : Int) (by_ : Nat) (w : World) : Calls Try.prog 21 #[.pointer none, .int .i64 j, .float .f64 by_] w fun e w' => e = .returned (.int .i64 2) ∧ w = w' := by
  go_enter Try.func21, Try.ntmps21
  go_wp2_with fail
  go_ret
  exact ⟨rfl, rfl⟩
theorem wgrow_nil (n : Int) (w : World) : Calls Try.prog 20 #[.pointer none, .int .i64 n] w fun e w' => e = .returned (.tuple #[]) ∧ w = w' := by
  go_enter Try.func20, Try.ntmps20
  go_wp2_with fail
  go_end0
  exact ⟨rfl, rfl⟩
theorem wdecay_nil (x : Nat) (w : World) : Calls Try.prog 19 #[.pointer none, .float .f64 x] w fun e w' => e = .returned (.tuple #[]) ∧ w = w' := by
  go_enter Try.func19, Try.ntmps19
  go_wp2_with fail
  refine bodyPost_ret (results_none rfl _ _ _) rfl ?_
  exact ⟨rfl, rfl⟩
end Go.Proofs.Ytfheamemoinfeaa
