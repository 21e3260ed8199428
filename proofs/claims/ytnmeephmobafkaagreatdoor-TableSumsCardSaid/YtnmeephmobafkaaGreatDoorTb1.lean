/- Contracts of cost.In, and of a table's Put (no statement of its own). -/
import Derived.Test.YtnmeephmobafkaaGreatDoorSh2
namespace Go.Proofs.YtnmeephmobafkaaGreatDoor
open Go.RowKit
set_option linter.unusedVariables false
theorem right_yes (k : Int) (w : World) (h1 : 1 ≤ k) (h2 : k ≤ 2147483648) :
    Calls Tryz.prog 76 #[.int .i64 k] w fun e w' => e = .returned (.bool true) ∧ w = w' := by
  go_enter Tryz.func76, Tryz.ntmps76
  go_wp2
  go_ret
  exact ⟨rfl, rfl⟩
theorem right_no (k : Int) (w : World) (h : k < 1 ∨ 2147483648 < k) :
    Calls Tryz.prog 76 #[.int .i64 k] w fun e w' => e = .returned (.bool false) ∧ w = w' := by
  rcases h with h | h
  · go_enter Tryz.func76, Tryz.ntmps76
    go_wp2
    go_ret
    exact ⟨rfl, rfl⟩
  · have h1 : 1 ≤ k := by omega
    go_enter Tryz.func76, Tryz.ntmps76
    go_wp2
    go_ret
    exact ⟨by simp <;> omega, rfl⟩
theorem in_yes (a k : Int) (w : World) (h1 : 1 ≤ k) (h2 : k ≤ 2147483648) (h3 : 0 ≤ a) (h4 : a ≤ k) :
    Calls Tryz.prog 50 #[.int .i64 a, .int .i64 k] w fun e w' => e = .returned (.bool true) ∧ w = w' := by
  go_enter Tryz.func50, Tryz.ntmps50
  go_wp2_with (go_at_call 76; refine (right_yes _ _ (by omega) (by omega)).mono ?_; rintro e w' ⟨rfl, rfl⟩)
  go_ret
  exact ⟨rfl, rfl⟩
/-- A table lies at g: of sizes l, with the top k; its costs z lie at h. -/
structure TabAt (w : World) (g h : Nat) (l : List Nat) (k : Int) (z : Nat → Int) : Prop where
  row : w.heap[g]? = some (.cells #[.int .i64 (l.length : Int), szV l 0, szV l 1, szV l 2, szV l 3, szV l 4, szV l 5, .int .i64 k, .slice (some ⟨h, 0, none⟩) (prodL l) (prodL l)] 77 (0, 0))
  costs : ∃ cur, w.heap[h]? = some (.cells cur 2 (0, 0)) ∧ cur.size = prodL l ∧ ∀ i, i < prodL l → cur[i]? = some (.int .i64 (z i))
theorem TabAt.apart {w : World} {g h : Nat} {l : List Nat} {k : Int} {z : Nat → Int} (H : TabAt w g h l k z) : g ≠ h := by
  rintro rfl
  obtain ⟨cur, hc, _⟩ := H.costs
  have := H.row.symm.trans hc
  simp at this
theorem TabAt.below {w w' : World} {g h : Nat} {l : List Nat} {k : Int} {z : Nat → Int} (H : TabAt w g h l k z) (hb : Below w.heap.size w w') : TabAt w' g h l k z := by
  obtain ⟨cur, hc, h1, h2⟩ := H.costs
  refine ⟨?_, cur, ?_, h1, h2⟩
  · rw [hb.block g (Array.getElem?_eq_some_iff.1 H.row).1]; exact H.row
  · rw [hb.block h (Array.getElem?_eq_some_iff.1 hc).1]; exact hc
theorem TabAt.cells {w : World} {g h : Nat} {l : List Nat} {k : Int} {z : Nat → Int} (H : TabAt w g h l k z) :
    w.cell? ⟨g, 0, none⟩ = some (.int .i64 (l.length : Int)) ∧ w.cell? ⟨g, 1, none⟩ = some (szV l 0) ∧ w.cell? ⟨g, 2, none⟩ = some (szV l 1) ∧ w.cell? ⟨g, 3, none⟩ = some (szV l 2) ∧ w.cell? ⟨g, 4, none⟩ = some (szV l 3) ∧
    w.cell? ⟨g, 5, none⟩ = some (szV l 4) ∧ w.cell? ⟨g, 6, none⟩ = some (szV l 5) ∧ w.cell? ⟨g, 7, none⟩ = some (.int .i64 k) ∧ w.cell? ⟨g, 8, none⟩ = some (.slice (some ⟨h, 0, none⟩) (prodL l) (prodL l)) := by
  refine ⟨?_, ?_, ?_, ?_, ?_, ?_, ?_, ?_, ?_⟩ <;> (rw [cell_of_row _ _ _ _ _ _ H.row]; rfl)
theorem TabAt.set {w : World} {g h : Nat} {l : List Nat} {k : Int} {z : Nat → Int} (H : TabAt w g h l k z) (N : Nat) (x : Int) :
    TabAt (w.setCell ⟨h, N, none⟩ (.int .i64 x)) g h l k (fun i => if i = N then x else z i) ∧ w.grownBy (w.setCell ⟨h, N, none⟩ (.int .i64 x)) (some h) := by
  obtain ⟨cur, hc, h1, h2⟩ := H.costs
  refine ⟨⟨(heap_setCell_other w ⟨h, N, none⟩ g _ H.apart).trans H.row, _, heap_setCell_same w h N cur 2 _ hc, by simpa using h1, fun i hi => ?_⟩, ⟨rfl, rfl, rfl, by simp, fun k _ hk => heap_setCell_other w ⟨h, N, none⟩ k _ (fun e => hk (by simp [e]))⟩⟩
  rw [Array.getElem?_setIfInBounds]
  by_cases e : N = i
  · subst e
    rw [if_pos rfl, if_pos (by omega), if_pos rfl]
  · rw [if_neg e, if_neg (fun h => e h.symm)]
    exact h2 i hi
set_option maxRecDepth 100000 in
set_option maxHeartbeats 4000000 in
theorem tput_ok (g h : Nat) (A : Option Addr) (n c N : Nat) (l t : List Nat) (k x : Int) (z : Nat → Int) (w : World) (H : TabAt w g h l k z) (hn : n = t.length) (h6 : l.length ≤ 6) (h32 : ∀ n ∈ l, n ≤ 32) (hr : Ints w A t) (hin : InL l t) (hN : numL l t = N) (hNP : N < prodL l)
    (hk1 : 1 ≤ k) (hk2 : k ≤ 2147483648) (hx0 : 0 ≤ x) (hx1 : x ≤ k) :
    Calls Tryz.prog 19 #[.pointer (some ⟨g, 0, none⟩), .slice A n c, .int .i64 x] w fun e w' => e = .returned (.int .i64 0) ∧ TabAt w' g h l k (fun i => if i = N then x else z i) ∧ w.grownBy w' (some h) := by
  have HX := Lib.hid (fun W (hr : Ints W A t) => index_ok' A n c N l t W hn h6 h32 hr hin hN)
  have HT := Lib.hid H
  have HR := Lib.hid hr
  obtain ⟨c0, c1, c2, c3, c4, c5, c6, c7, c8⟩ := H.cells
  have i0 : (0 : Int) ≤ (N : Int) := by omega
  have i1 : (N : Int) < (prodL l : Int) := by omega
  clear H hr hin hN h32 hn
  go_enter Tryz.func19, Tryz.ntmps19
  go_wp2_with fail
  refine (HX.out _ HR.out).mono ?_
  rintro e w1 ⟨rfl, b1⟩
  have T1 := Lib.hid (HT.out.below b1)
  have B1 := Lib.hid b1
  obtain ⟨d0, d1, d2, d3, d4, d5, d6, d7, d8⟩ := T1.out.cells
  obtain ⟨cur, hc, hcs, hcz⟩ := T1.out.costs
  have hst : w1.cell? ⟨h, N, none⟩ = some (.int .i64 (z N)) := by rw [cell_of_row _ _ _ _ _ _ hc]; exact hcz N hNP
  have hfr : w1.frozen? ⟨h, N, none⟩ = false := frozen_of_row w1 h N cur 2 hc
  have HC := Lib.hid hc
  have HCS := Lib.hid hcs
  have HCZ := Lib.hid hcz
  clear b1 c0 c1 c2 c3 c4 c5 c6 c7 c8 hc hcs hcz
  go_wp2_with (go_at_call 50; refine (in_yes _ _ _ hk1 hk2 hx0 hx1).mono ?_; rintro e w' ⟨rfl, rfl⟩)
  go_ret
  obtain ⟨q1, q2⟩ := T1.out.set N x
  exact ⟨rfl, q1, ⟨q2.os.trans B1.out.os, q2.tape.trans B1.out.tape, q2.output.trans B1.out.output, Nat.le_trans B1.out.size q2.size, fun i hi hne => (q2.block i (Nat.lt_of_lt_of_le hi B1.out.size) hne).trans (B1.out.block i hi)⟩⟩
theorem in_no (a k : Int) (w : World) (h1 : 1 ≤ k) (h2 : k ≤ 2147483648) (h : a < 0 ∨ k < a) :
    Calls Tryz.prog 50 #[.int .i64 a, .int .i64 k] w fun e w' => e = .returned (.bool false) ∧ w = w' := by
  rcases (by omega : a < 0 ∨ (0 ≤ a ∧ k < a)) with h | ⟨h, h3⟩
  all_goals
    go_enter Tryz.func50, Tryz.ntmps50
    go_wp2_with (go_at_call 76; refine (right_yes _ _ (by omega) (by omega)).mono ?_; rintro e w' ⟨rfl, rfl⟩)
    go_ret
    exact ⟨by first | rfl | (simp <;> omega), rfl⟩
/-- Put of what is no tuple of these sizes. -/
theorem tput_out (g h : Nat) (A : Option Addr) (n c : Nat) (l : List Nat) (k x : Int) (z : Nat → Int) (i : Int) (w : World) (H : TabAt w g h l k z)
    (hI : Calls Tryz.prog 55 #[shV l, .slice A n c] w fun e w' => e = .returned (.tuple #[.int .i64 i, .int .i64 3]) ∧ Below w.heap.size w w') :
    Calls Tryz.prog 19 #[.pointer (some ⟨g, 0, none⟩), .slice A n c, .int .i64 x] w fun e w' => e = .returned (.int .i64 3) ∧ Below w.heap.size w w' := by
  have HX := Lib.hid hI
  obtain ⟨c0, c1, c2, c3, c4, c5, c6, c7, c8⟩ := H.cells
  clear H hI
  go_enter Tryz.func19, Tryz.ntmps19
  go_wp2_with fail
  refine HX.out.mono ?_
  rintro e w1 ⟨rfl, b1⟩
  have B1 := Lib.hid b1
  clear b1 c0 c1 c2 c3 c4 c5 c6 c7 c8
  go_wp2_with fail
  go_ret
  exact ⟨rfl, B1.out⟩
set_option maxRecDepth 100000 in
set_option maxHeartbeats 4000000 in
/-- Put of a cost that there isn't. -/
theorem tput_cost (g h : Nat) (A : Option Addr) (n c N : Nat) (l : List Nat) (k x : Int) (z : Nat → Int) (w : World) (H : TabAt w g h l k z)
    (hI : Calls Tryz.prog 55 #[shV l, .slice A n c] w fun e w' => e = .returned (.tuple #[.int .i64 (N : Int), .int .i64 0]) ∧ Below w.heap.size w w')
    (hk1 : 1 ≤ k) (hk2 : k ≤ 2147483648) (hx : x < 0 ∨ k < x) :
    Calls Tryz.prog 19 #[.pointer (some ⟨g, 0, none⟩), .slice A n c, .int .i64 x] w fun e w' => e = .returned (.int .i64 3) ∧ Below w.heap.size w w' := by
  have HX := Lib.hid hI
  have HT := Lib.hid H
  have HC := Lib.hid (fun W => in_no x k W hk1 hk2 hx)
  obtain ⟨c0, c1, c2, c3, c4, c5, c6, c7, c8⟩ := H.cells
  clear H hI hx
  go_enter Tryz.func19, Tryz.ntmps19
  go_wp2_with fail
  refine HX.out.mono ?_
  rintro e w1 ⟨rfl, b1⟩
  obtain ⟨d0, d1, d2, d3, d4, d5, d6, d7, d8⟩ := (HT.out.below b1).cells
  have B1 := Lib.hid b1
  clear b1 c0 c1 c2 c3 c4 c5 c6 c7 c8
  go_wp2_with (go_at_call 50; refine (HC.out _).mono ?_; rintro e w' ⟨rfl, rfl⟩)
  go_ret
  exact ⟨rfl, B1.out⟩
/-- A nil table. -/
theorem tput_nil (A : Option Addr) (n c : Nat) (x : Int) (w : World) : Calls Tryz.prog 19 #[.pointer none, .slice A n c, .int .i64 x] w fun e w' => e = .returned (.int .i64 2) ∧ w = w' := by
  go_enter Tryz.func19, Tryz.ntmps19
  go_wp2_with fail
  go_ret
  exact ⟨rfl, rfl⟩
theorem tk_any (g h : Nat) (l : List Nat) (k : Int) (z : Nat → Int) (w : World) (H : TabAt w g h l k z) : Calls Tryz.prog 24 #[.pointer (some ⟨g, 0, none⟩)] w fun e w' => e = .returned (.int .i64 k) ∧ w = w' := by
  obtain ⟨c0, c1, c2, c3, c4, c5, c6, c7, c8⟩ := H.cells
  clear H
  go_enter Tryz.func24, Tryz.ntmps24
  go_wp2_with fail
  go_ret
  exact ⟨rfl, rfl⟩
end Go.Proofs.YtnmeephmobafkaaGreatDoor
