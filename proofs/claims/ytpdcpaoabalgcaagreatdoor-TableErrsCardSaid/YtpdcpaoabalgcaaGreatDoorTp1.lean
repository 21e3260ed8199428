/- Contracts of what TablePlays calls besides: the document's In and Add, Index of a tuple that there isn't, Get of one, More (no statement of its own). No condition. -/
import Derived.Test.YtpdcpaoabalgcaaGreatDoorIx
import Derived.Test.YtpdcpaoabalgcaaGreatDoorTbV
namespace Go.Proofs.YtpdcpaoabalgcaaGreatDoor
open Go.RowKit
set_option linter.unusedVariables false
theorem rright_yes (k : Int) (w : World) (h1 : 1 ≤ k) (h2 : k ≤ 2147483648) :
    Calls Tryz.prog 53 #[.int .i64 k] w fun e w' => e = .returned (.bool true) ∧ w = w' := by
  have d : decide (0 < k) = true := by simp; omega
  go_enter Tryz.func53, Tryz.ntmps53
  go_wp2_with fail
  go_ret
  exact ⟨rfl, rfl⟩
theorem rin_any (c k : Int) (b : Bool) (w : World) (h1 : 1 ≤ k) (h2 : k ≤ 2147483648) (hb : (0 ≤ c ∧ c ≤ k) ↔ b = true) :
    Calls Tryz.prog 17 #[.int .i64 c, .int .i64 k] w fun e w' => e = .returned (.bool b) ∧ w = w' := by
  have HB := Lib.hid hb
  clear hb
  by_cases h0 : 0 ≤ c
  · by_cases h3 : c ≤ k
    · obtain rfl : b = true := HB.out.1 ⟨h0, h3⟩
      have d0 : decide (0 ≤ c) = true := by simp; omega
      have d1 : decide (c ≤ k) = true := by simp; omega
      go_enter Tryz.func17, Tryz.ntmps17
      go_wp2_with (go_at_call 53; refine (rright_yes _ _ h1 h2).mono ?_; rintro e w' ⟨rfl, rfl⟩)
      go_ret
      exact ⟨rfl, rfl⟩
    · obtain rfl : b = false := by cases b; rfl; exact absurd (HB.out.2 rfl).2 h3
      have d0 : decide (0 ≤ c) = true := by simp; omega
      have d1 : decide (c ≤ k) = false := by simp; omega
      go_enter Tryz.func17, Tryz.ntmps17
      go_wp2_with (go_at_call 53; refine (rright_yes _ _ h1 h2).mono ?_; rintro e w' ⟨rfl, rfl⟩)
      go_ret
      exact ⟨rfl, rfl⟩
  · obtain rfl : b = false := by cases b; rfl; exact absurd (HB.out.2 rfl).1 h0
    have d0 : decide (0 ≤ c) = false := by simp; omega
    go_enter Tryz.func17, Tryz.ntmps17
    go_wp2_with (go_at_call 53; refine (rright_yes _ _ h1 h2).mono ?_; rintro e w' ⟨rfl, rfl⟩)
    go_ret
    exact ⟨rfl, rfl⟩
/-- A sum that stops at the top. -/
def capA (a b k : Int) : Int := if a + b > k then k else a + b
theorem radd_any (a b k : Int) (w : World) (ha0 : 0 ≤ a) (ha1 : a ≤ 2147483648) (hb0 : 0 ≤ b) (hb1 : b ≤ 2147483648) :
    Calls Tryz.prog 28 #[.int .i64 a, .int .i64 b, .int .i64 k] w fun e w' => e = .returned (.int .i64 (capA a b k)) ∧ w = w' := by
  by_cases h : k < a + b
  · have e : capA a b k = k := if_pos h
    rw [e]
    clear e
    go_enter Tryz.func28, Tryz.ntmps28
    go_wp2_with fail
    go_ret
    exact ⟨rfl, rfl⟩
  · have e : capA a b k = a + b := if_neg h
    rw [e]
    clear e
    go_enter Tryz.func28, Tryz.ntmps28
    go_wp2_with fail
    go_ret
    exact ⟨rfl, rfl⟩
attribute [local go_sem ↓] run_mn2
theorem capped_any (a b k : Int) (w : World) (ha0 : 0 ≤ a) (ha1 : a ≤ 2147483648) (hb0 : 0 ≤ b) (hb1 : b ≤ 2147483648) :
    Calls Tryz.prog 72 #[.int .i64 a, .int .i64 b, .int .i64 k] w fun e w' => e = .returned (.int .i64 (capA a b k)) ∧ w = w' := by
  have e : mn2 (a + b) k = capA a b k := by unfold mn2 capA; split <;> omega
  go_enter Tryz.func72, Tryz.ntmps72
  go_wp2_with fail
  go_ret
  exact ⟨rfl, rfl⟩
set_option maxRecDepth 100000 in
theorem add_yes (a b k : Int) (w : World) (h1 : 1 ≤ k) (h2 : k ≤ 2147483648) (ha0 : 0 ≤ a) (ha1 : a ≤ k) (hb0 : 0 ≤ b) (hb1 : b ≤ k) :
    Calls Tryz.prog 44 #[.int .i64 a, .int .i64 b, .int .i64 k] w fun e w' => e = .returned (.tuple #[.int .i64 (capA a b k), .int .i64 0]) ∧ w = w' := by
  go_enter Tryz.func44, Tryz.ntmps44
  have CP := Lib.hid (capped_any a b k w ha0 (by omega) hb0 (by omega))
  go_wp2_with fail
  refine (in_yes a _ _ h1 h2 ha0 ha1).mono ?_
  rintro e w' ⟨rfl, rfl⟩
  go_wp2_with fail
  refine (in_yes b _ _ h1 h2 hb0 hb1).mono ?_
  rintro e w' ⟨rfl, rfl⟩
  go_wp2_with fail
  refine CP.out.mono ?_
  rintro e w' ⟨rfl, rfl⟩
  go_wp2_with fail
  go_ret2
  exact ⟨rfl, rfl⟩
theorem add_no (a b k : Int) (w : World) (h1 : 1 ≤ k) (h2 : k ≤ 2147483648) (ha0 : 0 ≤ a) (ha1 : a ≤ k) (hb : b < 0 ∨ k < b) :
    Calls Tryz.prog 44 #[.int .i64 a, .int .i64 b, .int .i64 k] w fun e w' => e = .returned (.tuple #[.int .i64 0, .int .i64 3]) ∧ w = w' := by
  have HB := Lib.hid hb
  clear hb
  go_enter Tryz.func44, Tryz.ntmps44
  go_wp2_with fail
  refine (in_yes a _ _ h1 h2 ha0 ha1).mono ?_
  rintro e w' ⟨rfl, rfl⟩
  go_wp2_with fail
  refine (in_no b _ _ h1 h2 HB.out).mono ?_
  rintro e w' ⟨rfl, rfl⟩
  go_wp2_with fail
  go_ret2
  exact ⟨rfl, rfl⟩
theorem tget_out (g h : Nat) (A : Option Addr) (n c : Nat) (l : List Nat) (k : Int) (z : Nat → Int) (i : Int) (w : World) (H : TabAt w g h l k z)
    (hI : Calls Tryz.prog 55 #[shV l, .slice A n c] w fun e w' => e = .returned (.tuple #[.int .i64 i, .int .i64 3]) ∧ Below w.heap.size w w') :
    Calls Tryz.prog 20 #[.pointer (some ⟨g, 0, none⟩), .slice A n c] w fun e w' => e = .returned (.tuple #[.int .i64 0, .int .i64 3]) ∧ Below w.heap.size w w' := by
  have HI := Lib.hid hI
  obtain ⟨c0, c1, c2, c3, c4, c5, c6, c7, c8⟩ := H.cells
  clear H hI
  go_enter Tryz.func20, Tryz.ntmps20
  go_wp2_with fail
  refine HI.out.mono ?_
  rintro e w1 ⟨rfl, b1⟩
  have B1 := Lib.hid b1
  clear b1
  go_wp2_with fail
  go_ret2
  exact ⟨rfl, B1.out⟩
theorem more_out (g h : Nat) (A : Option Addr) (n c : Nat) (l : List Nat) (k x : Int) (z : Nat → Int) (i : Int) (w : World) (H : TabAt w g h l k z)
    (hI : Calls Tryz.prog 55 #[shV l, .slice A n c] w fun e w' => e = .returned (.tuple #[.int .i64 i, .int .i64 3]) ∧ Below w.heap.size w w') :
    Calls Tryz.prog 23 #[.pointer (some ⟨g, 0, none⟩), .slice A n c, .int .i64 x] w fun e w' => e = .returned (.int .i64 3) ∧ Below w.heap.size w w' := by
  have HG := Lib.hid (tget_out g h A n c l k z i w H hI)
  clear H hI
  go_enter Tryz.func23, Tryz.ntmps23
  go_wp2_with fail
  refine HG.out.mono ?_
  rintro e w1 ⟨rfl, b1⟩
  have B1 := Lib.hid b1
  clear b1
  go_wp2_with fail
  go_ret
  exact ⟨rfl, B1.out⟩
theorem more_cost (g h : Nat) (A : Option Addr) (n c N : Nat) (l t : List Nat) (k x : Int) (z : Nat → Int) (w : World) (H : TabAt w g h l k z) (hn : n = t.length) (h6 : l.length ≤ 6) (h32 : ∀ n ∈ l, n ≤ 32) (hr : Ints w A t) (hin : InL l t) (hN : numL l t = N) (hNP : N < prodL l)
    (hk1 : 1 ≤ k) (hk2 : k ≤ 2147483648) (hz0 : 0 ≤ z N) (hz1 : z N ≤ k) (hx : x < 0 ∨ k < x) :
    Calls Tryz.prog 23 #[.pointer (some ⟨g, 0, none⟩), .slice A n c, .int .i64 x] w fun e w' => e = .returned (.int .i64 3) ∧ Below w.heap.size w w' := by
  have HG := Lib.hid (tget_ok g h A n c N l t k z w H hn h6 h32 hr hin hN hNP)
  have HT := Lib.hid H
  have HX := Lib.hid hx
  clear H hr hin hN hNP hn h32 hx
  generalize z N = a at HG hz0 hz1
  go_enter Tryz.func23, Tryz.ntmps23
  go_wp2_with fail
  refine HG.out.mono ?_
  rintro e w1 ⟨rfl, b1⟩
  have B1 := Lib.hid b1
  obtain ⟨c0, c1, c2, c3, c4, c5, c6, c7, c8⟩ := (HT.out.below b1).cells
  clear b1 c0 c1 c2 c3 c4 c5 c6 c8
  go_wp2_with fail
  refine (add_no a x k _ hk1 hk2 hz0 hz1 HX.out).mono ?_
  rintro e w' ⟨rfl, rfl⟩
  go_wp2_with fail
  go_ret
  exact ⟨rfl, B1.out⟩
theorem more_ok (g h : Nat) (A : Option Addr) (n c N : Nat) (l t : List Nat) (k x : Int) (z : Nat → Int) (w : World) (H : TabAt w g h l k z) (hn : n = t.length) (h6 : l.length ≤ 6) (h32 : ∀ n ∈ l, n ≤ 32) (hr : Ints w A t) (hin : InL l t) (hN : numL l t = N) (hNP : N < prodL l)
    (hk1 : 1 ≤ k) (hk2 : k ≤ 2147483648) (hz0 : 0 ≤ z N) (hz1 : z N ≤ k) (hx0 : 0 ≤ x) (hx1 : x ≤ k) :
    Calls Tryz.prog 23 #[.pointer (some ⟨g, 0, none⟩), .slice A n c, .int .i64 x] w fun e w' => e = .returned (.int .i64 0) ∧ TabAt w' g h l k (fun i => if i = N then capA (z N) x k else z i) ∧ w.grownBy w' (some h) := by
  have HG := Lib.hid (tget_ok g h A n c N l t k z w H hn h6 h32 hr hin hN hNP)
  have HT := Lib.hid H
  have HR := Lib.hid hr
  have HC : Hid (∀ W, TabAt W g h l k z → Ints W A t → Calls Tryz.prog 19 #[.pointer (some ⟨g, 0, none⟩), .slice A n c, .int .i64 (capA (z N) x k)] W fun e w' => e = .returned (.int .i64 0) ∧ TabAt w' g h l k (fun i => if i = N then capA (z N) x k else z i) ∧ W.grownBy w' (some h)) :=
    Lib.hid fun W h1 h2 => tput_ok g h A n c N l t k (capA (z N) x k) z W h1 hn h6 h32 h2 hin hN hNP hk1 hk2 (by unfold capA; split <;> omega) (by unfold capA; split <;> omega)
  clear H hr hin hN hNP hn h32
  obtain ⟨f, hf⟩ : ∃ f : Nat → Int, (fun i => if i = N then capA (z N) x k else z i) = f := ⟨_, rfl⟩
  rw [hf] at HC ⊢
  clear hf
  generalize z N = a at HG HC hz0 hz1
  go_enter Tryz.func23, Tryz.ntmps23
  go_wp2_with fail
  refine HG.out.mono ?_
  rintro e w1 ⟨rfl, b1⟩
  have B1 := Lib.hid b1
  have T1 := Lib.hid (HT.out.below b1)
  have R1 := Lib.hid (HR.out.below b1 (Nat.le_refl _))
  obtain ⟨c0, c1, c2, c3, c4, c5, c6, c7, c8⟩ := T1.out.cells
  clear b1 c0 c1 c2 c3 c4 c5 c6 c8
  go_wp2_with fail
  refine (add_yes a x k _ hk1 hk2 hz0 hz1 hx0 hx1).mono ?_
  rintro e w' ⟨rfl, rfl⟩
  go_wp2_with fail
  refine (HC.out _ T1.out R1.out).mono ?_
  rintro e w2 ⟨rfl, hT2, hg⟩
  have T2 := Lib.hid hT2
  have G2 : Hid (w.grownBy w2 (some h)) := Lib.hid ⟨hg.os.trans B1.out.os, hg.tape.trans B1.out.tape, hg.output.trans B1.out.output, Nat.le_trans B1.out.size hg.size, fun j hj hne => (hg.block j (Nat.lt_of_lt_of_le hj B1.out.size) hne).trans (B1.out.block j hj)⟩
  clear hT2 hg
  go_wp2_with fail
  go_ret
  exact ⟨rfl, T2.out, G2.out⟩
end Go.Proofs.YtpdcpaoabalgcaaGreatDoor
