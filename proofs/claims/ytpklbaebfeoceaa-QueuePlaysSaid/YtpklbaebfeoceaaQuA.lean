/- The queue law's awake (no statement of its own). -/
import Derived.Test.YtpklbaebfeoceaaQu9
namespace Go.Proofs.Ytpklbaebfeoceaa
open Go.RowKit
set_option linter.unusedVariables false
theorem push_w' {w0 w : World} {b m : Nat} {N x p : Int} {L L' : List It} (h : QW w0 w b m N L) (hl : L.length < 100000) (h0 : 0 ≤ x) (h1 : x < N) (hN : N ≤ 9223372036854775807) (e : L' = (x, p) :: less L x) :
    Calls Try.prog 16 #[.pointer (some ⟨b, 0, none⟩), .int .i64 x, .int .i64 p] w fun e w' => e = .returned (.int .i64 0) ∧ QW w0 w' b m N L' := by
  subst e
  exact push_w h hl h0 h1 hN
/-- Which one comes is known. -/
theorem pop_w' {w0 w : World} {b m : Nat} {N : Int} {L L' : List It} {a : It} (h : QW w0 w b m N L) (hl : L.length < 100000) (ha : IsTop L a) (e : L' = less L a.1) :
    Calls Try.prog 11 #[.pointer (some ⟨b, 0, none⟩)] w fun e w' => e = .returned (.tuple #[.int .i64 a.1, .int .i64 a.2, .bool true]) ∧ QW w0 w' b m N L' := by
  subst e
  refine (pop_w h hl (fun q => by rw [q] at ha; cases ha.1)).mono fun e w' hh => ?_
  obtain ⟨a', ⟨h1, h2⟩, h3⟩ := hh
  have := isTop_one ha h1
  subst this
  exact ⟨h2, h3⟩
theorem isTop_dec {L : List It} {a : It} (h : (L.contains a && L.all fun y => !ltI y a) = true) : IsTop L a := by
  rw [Bool.and_eq_true] at h
  refine ⟨by simpa using h.1, fun y hy => ?_⟩
  have := List.all_eq_true.1 h.2 y hy
  simpa using this
set_option maxRecDepth 100000 in
set_option maxHeartbeats 2000000 in
theorem awake_q (w : World) : Calls Try.prog 8 #[] w fun e w' => e = .returned (.bool true) ∧ w.grownBy w' none := by
  have C1 := Lib.hid (new_w (w0 := w) (N := 3) (World.grownBy_alloc_refl w))
  go_enter Try.func8, Try.ntmps8
  go_wp2_with (go_at_call 9; refine C1.out.mono ?_)
  rintro e w1 ⟨rfl, hq⟩
  generalize w.heap.size + 1 = b at *
  generalize w.heap.size = m at *
  have C2 := Lib.hid (push_w' (x := 2) (p := 5) (L' := [(2, 5)]) hq (by simp) (by omega) (by omega) (by omega) rfl)
  clear hq C1
  go_wp2_with (go_at_call 16; refine C2.out.mono ?_)
  rintro e w2 ⟨rfl, hq⟩
  have C3 := Lib.hid (push_w' (x := 1) (p := 5) (L' := [(1, 5), (2, 5)]) hq (by simp) (by omega) (by omega) (by omega) (by decide))
  clear hq C2
  go_wp2_with (go_at_call 16; refine C3.out.mono ?_)
  rintro e w3 ⟨rfl, hq⟩
  have C4 := Lib.hid (push_w' (x := 0) (p := 9) (L' := [(0, 9), (1, 5), (2, 5)]) hq (by simp) (by omega) (by omega) (by omega) (by decide))
  clear hq C3
  go_wp2_with (go_at_call 16; refine C4.out.mono ?_)
  rintro e w4 ⟨rfl, hq⟩
  have C5 := Lib.hid (pop_w' (a := (1, 5)) (L' := [(0, 9), (2, 5)]) hq (by simp) (isTop_dec (by decide)) (by decide))
  clear hq C4
  go_wp2_with (go_at_call 11; refine C5.out.mono ?_)
  rintro e w5 ⟨rfl, hq⟩
  have C6 := Lib.hid (pop_w' (a := (2, 5)) (L' := [(0, 9)]) hq (by simp) (isTop_dec (by decide)) (by decide))
  clear hq C5
  go_wp2_with (go_at_call 11; refine C6.out.mono ?_)
  rintro e w6 ⟨rfl, hq⟩
  have C7 := Lib.hid (len_w hq)
  have HG := Lib.hid hq.grown
  clear hq C6
  go_wp2_with (go_at_call 17; refine C7.out.mono ?_; rintro e w' ⟨rfl, rfl⟩)
  go_ret
  exact ⟨rfl, HG.out⟩
end Go.Proofs.Ytpklbaebfeoceaa
