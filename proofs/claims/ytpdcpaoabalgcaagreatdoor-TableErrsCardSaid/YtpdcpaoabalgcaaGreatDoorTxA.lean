/- Texts of this seat laid together (no statement of its own). -/
import Derived.Test.YtpdcpaoabalgcaaGreatDoorTp1
import Derived.Test.YtpdcpaoabalgcaaGreatDoorTbP
import Derived.Test.YtpdcpaoabalgcaaGreatDoorTbW
import Derived.Test.YtpdcpaoabalgcaaGreatDoorTbX
import Derived.Test.YtpdcpaoabalgcaaGreatDoorTbQ
import Derived.Test.YtpdcpaoabalgcaaGreatDoorTwS
import Derived.Test.YtpdcpaoabalgcaaGreatDoorTjd
import Derived.Test.YtpdcpaoabalgcaaGreatDoorTjD
namespace Go.Proofs.YtpdcpaoabalgcaaGreatDoor
open Go.RowKit
set_option linter.unusedVariables false
/-- Sizes that are refused: too many, or one at a place is wrong (and none ahead of it). -/
def Bad (m p : Nat) (z : Nat → Int) : Prop := 6 < m ∨ (m ≤ 6 ∧ p < m ∧ (∀ i, i < p → 1 ≤ z i ∧ z i ≤ 32) ∧ (z p < 1 ∨ 32 < z p))
theorem raw_cases (m : Nat) (z : Nat → Int) : (∃ p, Bad m p z) ∨ (m ≤ 6 ∧ ∃ l : List Nat, l.length = m ∧ (∀ i, i < m → z i = (nth l i : Int)) ∧ ∀ n ∈ l, 1 ≤ n ∧ n ≤ 32) := by
  by_cases h6 : 6 < m
  · exact .inl ⟨0, .inl h6⟩
  · rcases first_at (fun i => z i < 1 ∨ 32 < z i) m with h | ⟨p, h1, h2, h3⟩
    · refine .inr ⟨by omega, (List.range m).map fun i => (z i).toNat, by simp, fun i hi => ?_, fun n hn => ?_⟩
      · have := h i hi
        unfold nth
        rw [List.getD_eq_getElem?_getD, List.getElem?_map, List.getElem?_range hi]
        simp
        omega
      · simp only [List.mem_map, List.mem_range] at hn
        obtain ⟨i, hi, rfl⟩ := hn
        have := h i hi
        omega
    · exact .inl ⟨p, .inr ⟨by omega, h1, fun i hi => by have := h2 i hi; omega, h3⟩⟩
theorem ints_of_zs {w : World} {A : Option Addr} {l : List Nat} {z : Nat → Int} (h : Zs w A l.length z) (hz : ∀ i, i < l.length → z i = (nth l i : Int)) : Ints w A l := by
  rcases h with h | ⟨g, o, rfl, hg, hc⟩
  · exact .inl (List.eq_nil_of_length_eq_zero h)
  · exact .inr ⟨g, o, rfl, hg, fun i hi => by rw [← hz i hi]; exact hc i hi⟩
theorem tup_cases (m : Nat) (z : Nat → Int) (l : List Nat) : m ≠ l.length ∨ (m = l.length ∧ ∃ q, q < m ∧ (∀ i, i < q → 0 ≤ z i ∧ z i < (nth l i : Int)) ∧ (z q < 0 ∨ (nth l q : Int) ≤ z q)) ∨
    ∃ t : List Nat, t.length = m ∧ (∀ i, i < m → z i = (nth t i : Int)) ∧ InL l t := by
  by_cases h : m = l.length
  · rcases first_at (fun i => z i < 0 ∨ (nth l i : Int) ≤ z i) m with h1 | ⟨q, h1, h2, h3⟩
    · have hz : ∀ i, i < m → z i = (nth ((List.range m).map fun i => (z i).toNat) i : Int) := fun i hi => by
        have := h1 i hi
        unfold nth
        rw [List.getD_eq_getElem?_getD, List.getElem?_map, List.getElem?_range hi]
        simp
        omega
      refine .inr (.inr ⟨(List.range m).map fun i => (z i).toNat, by simp, hz, inL_iff.2 ⟨by simp [h], fun p hp => ?_⟩⟩)
      have a := hz p (by omega)
      have b := h1 p (by omega)
      omega
    · exact .inr (.inl ⟨h, q, h1, fun i hi => by have := h2 i hi; omega, h3⟩)
  · exact .inl h
theorem new_bad (A : Option Addr) (m c p : Nat) (z : Nat → Int) (w : World) (hr : Zs w A m z) (h8 : m ≤ 8) (h : Bad m p z) :
    Calls Tryz.prog 49 #[.slice A m c] w fun e w' => e = .returned (.tuple #[shZ, .int .i64 1]) ∧ Below w.heap.size w w' := by
  rcases h with h | ⟨h6, h1, h2, h3⟩
  · exact new_long A m c w h (by omega)
  · exact new_wrong A m c p z w h6 hr h1 h3

theorem in_noK (a k : Int) (w : World) (h : k < 1 ∨ 2147483648 < k) :
    Calls Tryz.prog 50 #[.int .i64 a, .int .i64 k] w fun e w' => e = .returned (.bool false) ∧ w = w' := by
  have H := Lib.hid h
  clear h
  go_enter Tryz.func50, Tryz.ntmps50
  go_wp2_with (go_at_call 76; refine (right_no _ _ H.out).mono ?_; rintro e w' ⟨rfl, rfl⟩)
  go_ret
  exact ⟨rfl, rfl⟩
def InK (a k : Int) : Prop := 1 ≤ k ∧ k ≤ 2147483648 ∧ 0 ≤ a ∧ a ≤ k
theorem in_refused (a k : Int) (w : World) (h : ¬ InK a k) :
    Calls Tryz.prog 50 #[.int .i64 a, .int .i64 k] w fun e w' => e = .returned (.bool false) ∧ w = w' := by
  unfold InK at h
  by_cases hk : 1 ≤ k ∧ k ≤ 2147483648
  · exact in_no a k w hk.1 hk.2 (by omega)
  · exact in_noK a k w (by omega)
theorem rright_no (k : Int) (w : World) (h : k < 1 ∨ 2147483648 < k) :
    Calls Tryz.prog 53 #[.int .i64 k] w fun e w' => e = .returned (.bool false) ∧ w = w' := by
  rcases h with h | h
  · go_enter Tryz.func53, Tryz.ntmps53
    have d : decide (0 < k) = false := by simp; omega
    go_wp2_with fail
    go_ret
    exact ⟨rfl, rfl⟩
  · go_enter Tryz.func53, Tryz.ntmps53
    have d : decide (0 < k) = true := by simp; omega
    have d2 : decide (k ≤ 2147483648) = false := by simp; omega
    go_wp2_with fail
    go_ret
    exact ⟨rfl, rfl⟩
theorem rin_k (a k : Int) (w : World) (h : k < 1 ∨ 2147483648 < k) :
    Calls Tryz.prog 17 #[.int .i64 a, .int .i64 k] w fun e w' => e = .returned (.bool false) ∧ w = w' := by
  have H := Lib.hid h
  clear h
  go_enter Tryz.func17, Tryz.ntmps17
  go_wp2_with (go_at_call 53; refine (rright_no _ _ H.out).mono ?_; rintro e w' ⟨rfl, rfl⟩)
  go_ret
  exact ⟨rfl, rfl⟩
theorem rin_is (a k : Int) (b : Bool) (w : World) (h : InK a k ↔ b = true) :
    Calls Tryz.prog 17 #[.int .i64 a, .int .i64 k] w fun e w' => e = .returned (.bool b) ∧ w = w' := by
  unfold InK at h
  by_cases hk : 1 ≤ k ∧ k ≤ 2147483648
  · exact rin_any a k b w hk.1 hk.2 ⟨fun hh => h.1 ⟨hk.1, hk.2, hh.1, hh.2⟩, fun hh => (h.2 hh).2.2⟩
  · cases b with
    | false => exact rin_k a k w (by omega)
    | true => exact absurd ⟨(h.2 rfl).1, (h.2 rfl).2.1⟩ hk
theorem tnew_fell (A : Option Addr) (n c : Nat) (k x E : Int) (w : World) (hE : decide (E = 0) = false)
    (hN : Calls Tryz.prog 49 #[.slice A n c] w fun e w' => e = .returned (.tuple #[shZ, .int .i64 E]) ∧ Below w.heap.size w w') :
    Calls Tryz.prog 16 #[.slice A n c, .int .i64 k, .int .i64 x] w fun e w' => e = .returned (.tuple #[.pointer none, .int .i64 E]) ∧ Below w.heap.size w w' := by
  have HN := Lib.hid hN
  have d : (E == 0) = false := by simpa using hE
  clear hN
  go_enter Tryz.func16, Tryz.ntmps16
  go_wp2_with fail
  refine HN.out.mono ?_
  rintro e w1 ⟨rfl, b1⟩
  have B1 := Lib.hid b1
  clear b1
  go_wp2_with fail
  go_ret2
  exact ⟨rfl, then_ B1.out (new_val _ _)⟩
set_option maxRecDepth 100000 in
set_option maxHeartbeats 4000000 in
theorem tnew_range (A : Option Addr) (n c : Nat) (l : List Nat) (k x : Int) (w : World) (hn : n = l.length) (h6 : l.length ≤ 6) (hr : Ints w A l) (hl : ∀ n ∈ l, 1 ≤ n ∧ n ≤ 32) (hp : prodL l ≤ 4096)
    (hx : ¬ InK x k) :
    Calls Tryz.prog 16 #[.slice A n c, .int .i64 k, .int .i64 x] w fun e w' => e = .returned (.tuple #[.pointer none, .int .i64 3]) ∧ Below w.heap.size w w' := by
  have HC := Lib.hid (new_mid' A n c l w hn h6 hr hl hp)
  have HX := Lib.hid hx
  clear hn hr hl hp hx
  go_enter Tryz.func16, Tryz.ntmps16
  go_wp2_with fail
  refine HC.out.mono ?_
  rintro e w1 ⟨rfl, b1⟩
  have B1 := Lib.hid b1
  clear b1
  go_upto_region 4 with ((with_reducible show wpList _ _ _ (Oper.mk none (.store 61 _ _) _ _ _ _ :: _) _ _)
                         refine wpList_store_row rfl 61 (.tmp 8) (.tmp 13) rfl w1.heap.size (shC l) rfl rfl 61 (shC0 0) (heap_alloc_new _ _) (by kernel_rfl) rfl (sh_one l) ?_
                         rw [World.setRow_alloc_new])
  have n2 := new_val w1 (shO l)
  have B2 := Lib.hid (then_ B1.out n2)
  clear n2
  generalize w1.alloc (.cells (shC l) 61) = w2 at B2 ⊢
  go_wp2_with (go_at_call 50; refine (in_refused _ _ _ HX.out).mono ?_; rintro e w' ⟨rfl, rfl⟩)
  go_ret2
  exact ⟨rfl, B2.out⟩
end Go.Proofs.YtpdcpaoabalgcaaGreatDoor

namespace Go.Proofs.YtpdcpaoabalgcaaGreatDoor
open Go.RowKit
set_option linter.unusedVariables false
/-- A table lies at g, as TabAt, but its costs' slice has the capacity cc. -/
structure TabC (w : World) (g h cc : Nat) (l : List Nat) (k : Int) (z : Nat → Int) : Prop where
  row : w.heap[g]? = some (.cells #[.int .i64 (l.length : Int), szV l 0, szV l 1, szV l 2, szV l 3, szV l 4, szV l 5, .int .i64 k, .slice (some ⟨h, 0, none⟩) (prodL l) cc] 77 (0, 0))
  costs : ∃ cur, w.heap[h]? = some (.cells cur 2 (0, 0)) ∧ prodL l ≤ cur.size ∧ ∀ i, i < prodL l → cur[i]? = some (.int .i64 (z i))
theorem TabC.apart {w : World} {g h cc : Nat} {l : List Nat} {k : Int} {z : Nat → Int} (H : TabC w g h cc l k z) : g ≠ h := by
  rintro rfl
  obtain ⟨cur, hc, _⟩ := H.costs
  have := H.row.symm.trans hc
  simp at this
theorem TabC.below {w w' : World} {g h cc : Nat} {l : List Nat} {k : Int} {z : Nat → Int} (H : TabC w g h cc l k z) (hb : Below w.heap.size w w') : TabC w' g h cc l k z := by
  obtain ⟨cur, hc, h1, h2⟩ := H.costs
  refine ⟨?_, cur, ?_, h1, h2⟩
  · rw [hb.block g (Array.getElem?_eq_some_iff.1 H.row).1]; exact H.row
  · rw [hb.block h (Array.getElem?_eq_some_iff.1 hc).1]; exact hc
theorem TabC.cells {w : World} {g h cc : Nat} {l : List Nat} {k : Int} {z : Nat → Int} (H : TabC w g h cc l k z) :
    w.cell? ⟨g, 0, none⟩ = some (.int .i64 (l.length : Int)) ∧ w.cell? ⟨g, 1, none⟩ = some (szV l 0) ∧ w.cell? ⟨g, 2, none⟩ = some (szV l 1) ∧ w.cell? ⟨g, 3, none⟩ = some (szV l 2) ∧ w.cell? ⟨g, 4, none⟩ = some (szV l 3) ∧
    w.cell? ⟨g, 5, none⟩ = some (szV l 4) ∧ w.cell? ⟨g, 6, none⟩ = some (szV l 5) ∧ w.cell? ⟨g, 7, none⟩ = some (.int .i64 k) ∧ w.cell? ⟨g, 8, none⟩ = some (.slice (some ⟨h, 0, none⟩) (prodL l) cc) := by
  refine ⟨?_, ?_, ?_, ?_, ?_, ?_, ?_, ?_, ?_⟩ <;> (rw [cell_of_row _ _ _ _ _ _ H.row]; rfl)
theorem TabC.set {w : World} {g h cc : Nat} {l : List Nat} {k : Int} {z : Nat → Int} (H : TabC w g h cc l k z) (N : Nat) (x : Int) :
    TabC (w.setCell ⟨h, N, none⟩ (.int .i64 x)) g h cc l k (fun i => if i = N then x else z i) ∧ w.grownBy (w.setCell ⟨h, N, none⟩ (.int .i64 x)) (some h) := by
  obtain ⟨cur, hc, h1, h2⟩ := H.costs
  refine ⟨⟨(heap_setCell_other w ⟨h, N, none⟩ g _ H.apart).trans H.row, _, heap_setCell_same w h N cur 2 _ hc, by simpa using h1, fun i hi => ?_⟩, ⟨rfl, rfl, rfl, by simp, fun k _ hk => heap_setCell_other w ⟨h, N, none⟩ k _ (fun e => hk (by simp [e]))⟩⟩
  rw [Array.getElem?_setIfInBounds]
  by_cases e : N = i
  · subst e
    rw [if_pos rfl, if_pos (by omega), if_pos rfl]
  · rw [if_neg e, if_neg (fun h => e h.symm)]
    exact h2 i hi
theorem TabC.zs {w : World} {g h cc : Nat} {l : List Nat} {k : Int} {z : Nat → Int} (H : TabC w g h cc l k z) : Zs w (some ⟨h, 0, none⟩) (prodL l) z := by
  obtain ⟨cur, hc, h1, h2⟩ := H.costs
  exact .inr ⟨h, 0, rfl, (Array.getElem?_eq_some_iff.1 hc).1, fun i hi => by rw [Nat.zero_add, cell_of_row _ _ _ _ _ _ hc]; exact h2 i hi⟩
set_option maxRecDepth 100000 in
set_option maxHeartbeats 4000000 in
theorem tputC_ok (g h cc : Nat) (A : Option Addr) (n c N : Nat) (l t : List Nat) (k x : Int) (z : Nat → Int) (w : World) (H : TabC w g h cc l k z) (hn : n = t.length) (h6 : l.length ≤ 6) (h32 : ∀ n ∈ l, n ≤ 32) (hr : Ints w A t) (hin : InL l t) (hN : numL l t = N) (hNP : N < prodL l)
    (hk1 : 1 ≤ k) (hk2 : k ≤ 2147483648) (hx0 : 0 ≤ x) (hx1 : x ≤ k) :
    Calls Tryz.prog 19 #[.pointer (some ⟨g, 0, none⟩), .slice A n c, .int .i64 x] w fun e w' => e = .returned (.int .i64 0) ∧ TabC w' g h cc l k (fun i => if i = N then x else z i) ∧ w.grownBy w' (some h) := by
  have HX := Lib.hid (fun W (hr : Ints W A t) => index_ok' A n c N l t W hn h6 h32 hr hin hN)
  have HT := Lib.hid H
  have HR := Lib.hid hr
  obtain ⟨c0, c1, c2, c3, c4, c5, c6, c7, c8⟩ := H.cells
  have i0 : (0 : Int) ≤ (N : Int) := by omega
  have i1 : (N : Int) < (prodL l : Int) := by omega
  clear H hr hin hN h32 hn
  go_enter Tryz.func19, Tryz.ntmps19
  go_wp2_with fail
  refine (HX.out _ HR.out).mono ?_
  rintro e w1 ⟨rfl, b1⟩
  have T1 := Lib.hid (HT.out.below b1)
  have B1 := Lib.hid b1
  obtain ⟨d0, d1, d2, d3, d4, d5, d6, d7, d8⟩ := T1.out.cells
  obtain ⟨cur, hc, hcs, hcz⟩ := T1.out.costs
  have hst : w1.cell? ⟨h, N, none⟩ = some (.int .i64 (z N)) := by rw [cell_of_row _ _ _ _ _ _ hc]; exact hcz N hNP
  have hfr : w1.frozen? ⟨h, N, none⟩ = false := frozen_of_row w1 h N cur 2 hc
  have HC := Lib.hid hc
  have HCS := Lib.hid hcs
  have HCZ := Lib.hid hcz
  clear b1 c0 c1 c2 c3 c4 c5 c6 c7 c8 hc hcs hcz
  go_wp2_with (go_at_call 50; refine (in_yes _ _ _ hk1 hk2 hx0 hx1).mono ?_; rintro e w' ⟨rfl, rfl⟩)
  go_ret
  obtain ⟨q1, q2⟩ := T1.out.set N x
  exact ⟨rfl, q1, ⟨q2.os.trans B1.out.os, q2.tape.trans B1.out.tape, q2.output.trans B1.out.output, Nat.le_trans B1.out.size q2.size, fun i hi hne => (q2.block i (Nat.lt_of_lt_of_le hi B1.out.size) hne).trans (B1.out.block i hi)⟩⟩
abbrev HoldSC (wb : World) (g h g2 h2 P cc : Nat) (l : List Nat) (k : Int) (W : World) : Prop :=
  W.cell? ⟨g, 0, none⟩ = some (.int .i64 (l.length : Int)) ∧ W.cell? ⟨g, 1, none⟩ = some (szV l 0) ∧ W.cell? ⟨g, 2, none⟩ = some (szV l 1) ∧ W.cell? ⟨g, 3, none⟩ = some (szV l 2) ∧ W.cell? ⟨g, 4, none⟩ = some (szV l 3) ∧ W.cell? ⟨g, 5, none⟩ = some (szV l 4) ∧ W.cell? ⟨g, 6, none⟩ = some (szV l 5) ∧ W.cell? ⟨g, 7, none⟩ = some (.int .i64 k) ∧ W.cell? ⟨g, 8, none⟩ = some (.slice (some ⟨h, 0, none⟩) P P) ∧
  W.cell? ⟨g2, 0, none⟩ = some (.int .i64 (l.length : Int)) ∧ W.cell? ⟨g2, 1, none⟩ = some (szV l 0) ∧ W.cell? ⟨g2, 2, none⟩ = some (szV l 1) ∧ W.cell? ⟨g2, 3, none⟩ = some (szV l 2) ∧ W.cell? ⟨g2, 4, none⟩ = some (szV l 3) ∧ W.cell? ⟨g2, 5, none⟩ = some (szV l 4) ∧ W.cell? ⟨g2, 6, none⟩ = some (szV l 5) ∧ W.cell? ⟨g2, 7, none⟩ = some (.int .i64 k) ∧ W.cell? ⟨g2, 8, none⟩ = some (.slice (some ⟨h2, 0, none⟩) P cc) ∧ Below wb.heap.size wb W
theorem holdSC {wb W W' : World} {g h g2 h2 P cc : Nat} {l : List Nat} {k : Int} (H : HoldSC wb g h g2 h2 P cc l k W) (hb : Below W.heap.size W W') : HoldSC wb g h g2 h2 P cc l k W' := by
  obtain ⟨a0, a1, a2, a3, a4, a5, a6, a7, a8, b0, b1, b2, b3, b4, b5, b6, b7, b8, h9⟩ := H
  have K : ∀ b i v, W.cell? ⟨b, i, none⟩ = some v → W'.cell? ⟨b, i, none⟩ = some v := fun b i v h => (hb.cell (p := ⟨b, i, none⟩) (World.block_lt_of_cell? W _ h)).trans h
  exact ⟨K _ _ _ a0, K _ _ _ a1, K _ _ _ a2, K _ _ _ a3, K _ _ _ a4, K _ _ _ a5, K _ _ _ a6, K _ _ _ a7, K _ _ _ a8, K _ _ _ b0, K _ _ _ b1, K _ _ _ b2, K _ _ _ b3, K _ _ _ b4, K _ _ _ b5, K _ _ _ b6, K _ _ _ b7, K _ _ _ b8, h9.trans (hb.mono h9.size)⟩
theorem HoldSC.below {wb W : World} {g h g2 h2 P cc : Nat} {l : List Nat} {k : Int} (H : HoldSC wb g h g2 h2 P cc l k W) : Below wb.heap.size wb W := H.2.2.2.2.2.2.2.2.2.2.2.2.2.2.2.2.2.2
set_option maxRecDepth 100000 in
set_option maxHeartbeats 4000000 in
theorem tsameC_yes (g h g2 h2 P cc : Nat) (l : List Nat) (k : Int) (z : Nat → Int) (w : World) (H : TabAt w g h l k z) (H2 : TabC w g2 h2 cc l k z) (hP : prodL l = P) (hP4 : P ≤ 4096) :
    Calls Tryz.prog 14 #[.pointer (some ⟨g, 0, none⟩), .pointer (some ⟨g2, 0, none⟩)] w fun e w' => e = .returned (.bool true) ∧ Below w.heap.size w w' := by
  have ZA := Lib.hid H.zs
  have ZB := Lib.hid H2.zs
  rw [hP] at ZA ZB
  have HH : Hid (HoldSC w g h g2 h2 P cc l k w) := by
    obtain ⟨a0, a1, a2, a3, a4, a5, a6, a7, a8⟩ := H.cells
    obtain ⟨b0, b1, b2, b3, b4, b5, b6, b7, b8⟩ := H2.cells
    rw [hP] at a8 b8
    exact Lib.hid ⟨a0, a1, a2, a3, a4, a5, a6, a7, a8, b0, b1, b2, b3, b4, b5, b6, b7, b8, Below.refl _ _⟩
  clear H H2 hP
  go_enter Tryz.func14, Tryz.ntmps14
  go_upto_region 3 with fail
  go_region_held3 (fun W => HoldSC w g h g2 h2 P cc l k W) (first | exact holdSC HH.out ((Below.refl _ _).drew) | exact holdSC (by assumption) (by assumption))
    ((first | (go_at_call 48; refine (same_yes l _).mono ?_; rintro e w' ⟨rfl, hb⟩)
            | (go_at_call 30; refine (eq64_yes _ _ _ _ _ z _ (by omega) (ZA.out.below (HoldSC.below (by assumption)) (Nat.le_refl _)) (ZB.out.below (HoldSC.below (by assumption)) (Nat.le_refl _))).mono ?_; rintro e w' ⟨rfl, hb⟩)))
  go_wp2_with fail
  go_ret
  exact ⟨rfl, HoldSC.below (by assumption)⟩

abbrev HoldC (wb : World) (g h P : Nat) (l : List Nat) (k : Int) (W : World) : Prop :=
  W.cell? ⟨g, 0, none⟩ = some (.int .i64 (l.length : Int)) ∧ W.cell? ⟨g, 1, none⟩ = some (szV l 0) ∧ W.cell? ⟨g, 2, none⟩ = some (szV l 1) ∧ W.cell? ⟨g, 3, none⟩ = some (szV l 2) ∧ W.cell? ⟨g, 4, none⟩ = some (szV l 3) ∧ W.cell? ⟨g, 5, none⟩ = some (szV l 4) ∧ W.cell? ⟨g, 6, none⟩ = some (szV l 5) ∧ W.cell? ⟨g, 7, none⟩ = some (.int .i64 k) ∧ W.cell? ⟨g, 8, none⟩ = some (.slice (some ⟨h, 0, none⟩) P P) ∧ Below wb.heap.size wb W
theorem holdC {wb W W' : World} {g h P : Nat} {l : List Nat} {k : Int} (H : HoldC wb g h P l k W) (hb : Below W.heap.size W W') : HoldC wb g h P l k W' := by
  obtain ⟨a0, a1, a2, a3, a4, a5, a6, a7, a8, h9⟩ := H
  have K : ∀ b i v, W.cell? ⟨b, i, none⟩ = some v → W'.cell? ⟨b, i, none⟩ = some v := fun b i v h => (hb.cell (p := ⟨b, i, none⟩) (World.block_lt_of_cell? W _ h)).trans h
  exact ⟨K _ _ _ a0, K _ _ _ a1, K _ _ _ a2, K _ _ _ a3, K _ _ _ a4, K _ _ _ a5, K _ _ _ a6, K _ _ _ a7, K _ _ _ a8, h9.trans (hb.mono h9.size)⟩
theorem HoldC.below {wb W : World} {g h P : Nat} {l : List Nat} {k : Int} (H : HoldC wb g h P l k W) : Below wb.heap.size wb W := H.2.2.2.2.2.2.2.2.2
theorem tabC_new {w : World} {base P cc : Nat} {A : Option Addr} {l : List Nat} {k : Int} {z : Nat → Int} (H : w.ownsRow base 2 1 (.slice A P cc) P (costL z P)) (hP : prodL l = P) (h1 : 1 ≤ P) :
    ∃ h', A = some ⟨h', 0, none⟩ ∧ base ≤ h' ∧ TabC (w.alloc (.cells #[.int .i64 (l.length : Int), szV l 0, szV l 1, szV l 2, szV l 3, szV l 4, szV l 5, .int .i64 k, .slice A P cc] 77)) w.heap.size h' cc l k z := by
  obtain ⟨_, ⟨-, hn⟩ | ⟨g, cap, cur, e, hb, hh, hm, _, hs, ht⟩⟩ := H
  · omega
  · injection e with e1 e2 e3
    subst e1 e3
    subst hP
    refine ⟨g, rfl, hb, heap_alloc_new w _, cur, ((new_val w _).block g (Array.getElem?_eq_some_iff.1 hh).1).trans hh, ?_, fun i hi => ?_⟩
    · have := congrArg List.length ht
      rw [List.length_take, costL_len] at this
      simp at this
      omega
    · have e : (cur.toList.take (prodL l * 1))[i]? = some (.int .i64 (z i)) := by rw [ht]; simp [costL, hi]
      rw [List.getElem?_take] at e
      simpa [hi] using e
set_option maxRecDepth 100000 in
set_option maxHeartbeats 4000000 in
theorem tcopy_any (g h P : Nat) (l : List Nat) (k : Int) (z : Nat → Int) (w : World) (H : TabAt w g h l k z) (hP : prodL l = P) (h1 : 1 ≤ P) (hn : P ≤ 1000000) :
    Calls Tryz.prog 18 #[.pointer (some ⟨g, 0, none⟩)] w fun e w' => ∃ g' h' cc, e = .returned (.pointer (some ⟨g', 0, none⟩)) ∧ TabC w' g' h' cc l k z ∧ w.heap.size ≤ g' ∧ w.heap.size ≤ h' ∧ Below w.heap.size w w' := by
  obtain ⟨c0, c1, c2, c3, c4, c5, c6, c7, c8⟩ := H.cells
  have hh : h < w.heap.size := by obtain ⟨cur, hc, _⟩ := H.costs; exact (Array.getElem?_eq_some_iff.1 hc).1
  have HCC := Lib.hid H.cost
  rw [hP] at c8 HCC
  have HH : Hid (HoldC w g h P l k w) := Lib.hid ⟨c0, c1, c2, c3, c4, c5, c6, c7, c8, Below.refl _ _⟩
  have HC : Hid (∀ W, HoldC w g h P l k W → Calls Tryz.prog 54 #[.slice (some ⟨h, 0, none⟩) P P] W fun e w' => (∃ v, e = .returned v ∧ w'.ownsRow W.heap.size 2 1 v P (costL z P)) ∧ Below W.heap.size W w') :=
    Lib.hid fun W hW => clone64 h P z W (Nat.lt_of_lt_of_le hh hW.below.size) hn fun j u hu => (hW.below.cell (p := (⟨h, 0, none⟩ : Addr).add j) (by rw [block_add]; exact hh)).trans (HCC.out j u hu)
  have HP := Lib.hid hP
  clear H hh c0 c1 c2 c3 c4 c5 c6 c7 c8 HCC hP
  go_enter Tryz.func18, Tryz.ntmps18
  go_upto_region 3 with fail
  go_region_held3 (fun W => HoldC w g h P l k W) (first | exact holdC HH.out ((Below.refl _ _).drew) | exact holdC (by assumption) (new_val _ _) | exact holdC (by assumption) (by assumption))
    ((first | (go_at_call 54; refine (HC.out _ (by assumption)).mono ?_; rintro e w' ⟨⟨v, rfl, hr⟩, hb⟩; obtain ⟨A', cc, rfl⟩ := row_form hr; have HR := Lib.hid hr; have HB := Lib.hid hb)))
  all_goals
    go_wp2_with fail
    go_ret
    have hfin := HoldC.below (by assumption)
    obtain ⟨h', rfl, hle, hT⟩ := tabC_new (k := k) HR.out HP.out h1
    exact ⟨_, h', _, rfl, hT, by have := HB.out.size; simp at this; omega, by have := hle; simp at this; omega, hfin⟩
end Go.Proofs.YtpdcpaoabalgcaaGreatDoor

namespace Go.Proofs.YtpdcpaoabalgcaaGreatDoor
open Go.RowKit Go.Shelf Go.Sort
set_option linter.unusedVariables false
attribute [local go_sem] Oper.semAt_some
open Dm (Mem mem setV setO Tab)
theorem tget_nil (A : Option Addr) (n c : Nat) (w : World) : Calls Tryz.prog 20 #[.pointer none, .slice A n c] w fun e w' => e = .returned (.tuple #[.int .i64 0, .int .i64 2]) ∧ w = w' := by
  go_enter Tryz.func20, Tryz.ntmps20
  go_wp2_with fail
  go_ret2
  exact ⟨rfl, rfl⟩
theorem tmore_nil (A : Option Addr) (n c : Nat) (x : Int) (w : World) : Calls Tryz.prog 23 #[.pointer none, .slice A n c, .int .i64 x] w fun e w' => e = .returned (.int .i64 2) ∧ w = w' := by
  go_enter Tryz.func23, Tryz.ntmps23
  go_wp2_with fail
  refine (tget_nil A n c w).mono ?_
  rintro e w' ⟨rfl, rfl⟩
  go_wp2_with fail
  go_ret
  exact ⟨rfl, rfl⟩
theorem tk_nil (w : World) : Calls Tryz.prog 24 #[.pointer none] w fun e w' => e = .returned (.int .i64 0) ∧ w = w' := by
  go_enter Tryz.func24, Tryz.ntmps24
  go_wp2_with fail
  go_ret
  exact ⟨rfl, rfl⟩
theorem tentries_nil (w : World) : Calls Tryz.prog 25 #[.pointer none] w fun e w' => e = .returned (.slice none 0 0) ∧ w = w' := by
  go_enter Tryz.func25, Tryz.ntmps25
  go_wp2_with fail
  go_ret
  exact ⟨rfl, rfl⟩
theorem tcopy_nil (w : World) : Calls Tryz.prog 18 #[.pointer none] w fun e w' => e = .returned (.pointer none) ∧ w = w' := by
  go_enter Tryz.func18, Tryz.ntmps18
  go_wp2_with fail
  go_ret
  exact ⟨rfl, rfl⟩
theorem tshape_nil (w : World) : Calls Tryz.prog 26 #[.pointer none] w fun e w' => e = .returned (shV []) ∧ Below w.heap.size w w' := by
  go_enter Tryz.func26, Tryz.ntmps26
  go_wp2_with ((with_reducible show wpList _ _ _ (Oper.mk none (.store 61 _ _) _ _ _ _ :: _) _ _)
               refine wpList_store_row rfl 61 (.tmp 2) (.tmp 5) rfl w.heap.size (shC []) rfl rfl 61 (shC0 0) (heap_alloc_new _ _) (by kernel_rfl) rfl (sh_one []) ?_
               rw [World.setRow_alloc_new])
  exact bodyPost_ret (v := shV []) (by simp [results, Tryz.results26, go_sem, (ShAt.new w []).c0, (ShAt.new w []).c1, (ShAt.new w []).c2, (ShAt.new w []).c3, (ShAt.new w []).c4, (ShAt.new w []).c5, (ShAt.new w []).c6]) rfl ⟨rfl, new_val _ _⟩
theorem tsame_nils (w : World) : Calls Tryz.prog 14 #[.pointer none, .pointer none] w fun e w' => e = .returned (.bool true) ∧ w = w' := by
  go_enter Tryz.func14, Tryz.ntmps14
  go_wp2_with fail
  go_ret
  exact ⟨rfl, rfl⟩
theorem tsame_nil (g : Nat) (w : World) : Calls Tryz.prog 14 #[.pointer (some ⟨g, 0, none⟩), .pointer none] w fun e w' => e = .returned (.bool false) ∧ w = w' := by
  go_enter Tryz.func14, Tryz.ntmps14
  go_wp2_with fail
  go_ret
  exact ⟨rfl, rfl⟩
set_option maxRecDepth 100000 in
theorem tturn_nil (A : Option Addr) (n c : Nat) (w : World) : Calls Tryz.prog 21 #[.pointer none, .slice A n c] w fun e w' => e = .returned (.tuple #[.pointer none, .int .i64 2]) ∧ Below w.heap.size w w' := by
  have n1 := Lib.hid (new_val w (.cells #[.pointer none] 26))
  have hc : (w.alloc (.cells #[.pointer none] 26)).cell? ⟨w.heap.size, 0, none⟩ = some (.pointer none) := lit_new _ _ _
  refine (callsIn_wide (n := 3)).1 (callsIn_of_wp_marks Tryz.func21 rfl trivial ?_ rfl)
  simp only [Tryz.ntmps21, List.size_toArray, List.length_cons, List.length_nil, Nat.reduceAdd, Nat.reduceSub, Array.replicate_succ, Array.replicate_zero, List.push_toArray, List.append_toArray, List.nil_append, List.cons_append]
  refine wpIn_wide.2 ?_
  go_upto_region 1 with fail
  generalize (w.alloc (.cells #[.pointer none] 26)) = w2 at n1 hc ⊢
  go_wp2_with fail
  exact ⟨_, results_tmp2 rfl _ _ _, rfl, n1.out⟩
set_option maxRecDepth 100000 in
theorem tout_nil (x : Int) (w : World) : Calls Tryz.prog 22 #[.pointer none, .int .i64 x, setV 0 0] w fun e w' => e = .returned (.tuple #[.pointer none, .slice none 0 0, .int .i64 2]) ∧ Below w.heap.size w w' := by
  obtain ⟨k0, k1, k2, bel3, hz3⟩ := boxes3 w (.cells #[.pointer none] 26) (.cells #[.int .i64 x] 3) (setO 0 0)
  have B3 := Lib.hid bel3
  clear k1 k2 bel3
  refine (callsIn_wide (n := 3)).1 (callsIn_of_wp_marks Tryz.func22 rfl trivial ?_ rfl)
  simp only [Tryz.ntmps22, List.size_toArray, List.length_cons, List.length_nil, Nat.reduceAdd, Nat.reduceSub, Array.replicate_succ, Array.replicate_zero, List.push_toArray, List.append_toArray, List.nil_append, List.cons_append]
  refine wpIn_wide.2 ?_
  go_upto_region 1 with fail
  generalize ((w.alloc (.cells #[.pointer none] 26)).alloc (.cells #[.int .i64 x] 3)).alloc (setO 0 0) = w3 at k0 B3 hz3 ⊢
  have b0 : w3.cell? ⟨w.heap.size, 0, none⟩ = some (.pointer none) := by rw [cell_of_row _ _ _ _ _ _ k0]; rfl
  clear k0
  go_wp2_with fail
  exact ⟨_, results_tmp3 rfl _ _ _, rfl, B3.out⟩
set_option maxRecDepth 100000 in
theorem join_nil (g : Nat) (A1 A2 : Option Addr) (n1 c1 n2 c2 : Nat) (w : World) : Calls Tryz.prog 10 #[.pointer none, .slice A1 n1 c1, .pointer (some ⟨g, 0, none⟩), .slice A2 n2 c2] w fun e w' => e = .returned (.tuple #[.pointer none, .slice none 0 0, .int .i64 2]) ∧ Below w.heap.size w w' := by
  have n1' := new_val w (.cells #[.pointer none] 26)
  have n2' := new_val (w.alloc (.cells #[.pointer none] 26)) (.cells #[.pointer (some ⟨g, 0, none⟩)] 26)
  have B2 := Lib.hid (then_ n1' n2')
  have X2 : Hid (Boxed _ w.heap.size 26 (.pointer none)) := Lib.hid (box_below (Boxed.new w 26 (.pointer none)) n2')
  clear n1' n2'
  refine (callsIn_wide (n := 3)).1 (callsIn_of_wp_marks Tryz.func10 rfl trivial ?_ rfl)
  simp only [Tryz.ntmps10, List.size_toArray, List.length_cons, List.length_nil, Nat.reduceAdd, Nat.reduceSub, Array.replicate_succ, Array.replicate_zero, List.push_toArray, List.append_toArray, List.nil_append, List.cons_append]
  refine wpIn_wide.2 ?_
  go_upto_region 1 with fail
  generalize (w.alloc (.cells #[.pointer none] 26)).alloc (.cells #[.pointer (some ⟨g, 0, none⟩)] 26) = w2 at B2 X2 ⊢
  have x1 := X2.out.cell
  go_wp2_with fail
  exact ⟨_, results_tmp3 rfl _ _ _, rfl, B2.out⟩
end Go.Proofs.YtpdcpaoabalgcaaGreatDoor

namespace Go.Proofs.YtpdcpaoabalgcaaGreatDoor
open Go.RowKit Go.Shelf Go.Sort
set_option linter.unusedVariables false
attribute [local go_sem] Oper.semAt_some
/-- The variable ahead of a place; below 0 ahead of the first. -/
def pvZ (z : Nat → Int) (i : Nat) : Int := if i = 0 then -1 else z (i - 1)
theorem pvZ_succ (z : Nat → Int) (j : Nat) : pvZ z (j + 1) = z j := by unfold pvZ; rw [if_neg (by omega)]; rfl
theorem stands_no (g h n c : Nat) (A : Option Addr) (l : List Nat) (z : Nat → Int) (k : Int) (zt : Nat → Int) (w : World) (H : TabAt w g h l k zt) (hA : Zs w A n z) (hn : n ≤ 100) (hno : ¬ ((∀ i, i < n → pvZ z i < z i) ∧ n = l.length)) :
    Calls Tryz.prog 34 #[.pointer (some ⟨g, 0, none⟩), .slice A n c] w fun e w' => e = .returned (.bool false) ∧ Below w.heap.size w w' := by
  have HT := Lib.hid H
  have HA := Lib.hid hA
  have HN := Lib.hid hno
  clear H hA hno
  go_enter Tryz.func34, Tryz.ntmps34
  go_upto_region 3 with fail
  go_loop [5, 10] (fun v5 i => ∃ j : Nat, j ≤ n ∧ i = .int .i64 (j : Int) ∧ ∃ x : Int, v5 = .int .i64 x ∧ Hid (x = pvZ z j ∧ ∀ i, i < j → pvZ z i < z i)) (fun _ i => n - (intOf i).toNat)
  case atStart => exact ⟨0, Nat.zero_le _, rfl, -1, rfl, Lib.hid ⟨rfl, fun _ hi => absurd hi (Nat.not_lt_zero _)⟩⟩
  case round =>
    obtain ⟨j, hj, rfl, x, rfl, HX⟩ := hrel
    by_cases hlt : j < n
    · obtain ⟨ga, oa, rfl, hcell⟩ := HA.out.at_ (i := j) hlt
      have i1 : (j : Int) < (n : Int) := by omega
      have i2 : (0 : Int) ≤ (j : Int) := by omega
      have HY : Hid (pvZ z (j + 1) = z j) := Lib.hid (pvZ_succ z j)
      have HZ : Hid (∀ y, z j = y → x < y → ∀ i, i < j + 1 → pvZ z i < z i) := Lib.hid fun y e hxy i hi => by
        rcases (by omega : i < j ∨ i = j) with h | rfl
        · exact HX.out.2 i h
        · rw [← HX.out.1, e]; exact hxy
      obtain ⟨y, hy⟩ : ∃ y, z j = y := ⟨_, rfl⟩
      rw [hy] at hcell
      have HYY := Lib.hid hy
      clear hy
      by_cases d : y ≤ x
      · go_wp2_with fail
        go_ret
        exact ⟨rfl, Below.refl _ _⟩
      · go_wp2_with fail
        go_round
        case rel => exact ⟨j + 1, by omega, by go_num, y, rfl, Lib.hid ⟨(HY.out.trans HYY.out).symm, HZ.out y HYY.out (by omega)⟩⟩
        case measure => simp [intOf]; omega
    · have i1 : ¬ ((j : Int) < (n : Int)) := by omega
      obtain ⟨c0, c1, c2, c3, c4, c5, c6, c7, c8⟩ := HT.out.cells
      obtain rfl : j = n := by omega
      have hne : Hid (j ≠ l.length) := Lib.hid fun e => HN.out ⟨HX.out.2, e⟩
      have d : ((j : Int) == (l.length : Int)) = false := by have := hne.out; rw [beq_eq_false_iff_ne]; omega
      go_wp2_with fail
      refine (arity_any l w).mono ?_
      rintro e w' ⟨rfl, rfl⟩
      have nb := Lib.hid (new_val w (shO l))
      clear c0 c1 c2 c3 c4 c5 c6 c7 c8
      go_wp2_with fail
      go_ret
      exact ⟨rfl, nb.out⟩
abbrev HoldQq (wb : World) (N1 N2 g1 g2 : Nat) (k1 k2 : Int) (W : World) : Prop :=
  W.cell? ⟨N1, 0, none⟩ = some (.pointer (some ⟨g1, 0, none⟩)) ∧ W.cell? ⟨N2, 0, none⟩ = some (.pointer (some ⟨g2, 0, none⟩)) ∧ W.cell? ⟨g1, 7, none⟩ = some (.int .i64 k1) ∧ W.cell? ⟨g2, 7, none⟩ = some (.int .i64 k2) ∧ Below wb.heap.size wb W
theorem holdQq {wb W W' : World} {N1 N2 g1 g2 : Nat} {k1 k2 : Int} (H : HoldQq wb N1 N2 g1 g2 k1 k2 W) (hb : Below W.heap.size W W') : HoldQq wb N1 N2 g1 g2 k1 k2 W' := by
  obtain ⟨a0, a1, a2, a3, h8⟩ := H
  have K : ∀ b i v, W.cell? ⟨b, i, none⟩ = some v → W'.cell? ⟨b, i, none⟩ = some v := fun b i v h => (hb.cell (p := ⟨b, i, none⟩) (World.block_lt_of_cell? W _ h)).trans h
  exact ⟨K _ _ _ a0, K _ _ _ a1, K _ _ _ a2, K _ _ _ a3, h8.trans (hb.mono h8.size)⟩
set_option maxRecDepth 100000 in
set_option maxHeartbeats 8000000 in
theorem join_arg (g1 h1 n1 c1 g2 n2 c2 : Nat) (A1 A2 : Option Addr) (l1 : List Nat) (z : Nat → Int) (k1 : Int) (z1 : Nat → Int) (w : World) (T1 : TabAt w g1 h1 l1 k1 z1)
    (i1 : Zs w A1 n1 z) (hn : n1 ≤ 100) (hno : ¬ ((∀ i, i < n1 → pvZ z i < z i) ∧ n1 = l1.length)) :
    Calls Tryz.prog 10 #[.pointer (some ⟨g1, 0, none⟩), .slice A1 n1 c1, .pointer (some ⟨g2, 0, none⟩), .slice A2 n2 c2] w fun e w' => e = .returned (.tuple #[.pointer none, .slice none 0 0, .int .i64 1]) ∧ Below w.heap.size w w' := by
  have n1' := new_val w (.cells #[.pointer (some ⟨g1, 0, none⟩)] 26)
  have n2' := new_val (w.alloc (.cells #[.pointer (some ⟨g1, 0, none⟩)] 26)) (.cells #[.pointer (some ⟨g2, 0, none⟩)] 26)
  have B2 := Lib.hid (then_ n1' n2')
  have TA2 := Lib.hid (T1.below (then_ n1' n2'))
  have IA2 := Lib.hid (i1.below (then_ n1' n2') (Nat.le_refl _))
  have X2 : Hid (Boxed _ w.heap.size 26 (.pointer (some ⟨g1, 0, none⟩))) := Lib.hid (box_below (Boxed.new w 26 (.pointer (some ⟨g1, 0, none⟩))) n2')
  have Y2' := Boxed.new (w.alloc (.cells #[.pointer (some ⟨g1, 0, none⟩)] 26)) 26 (.pointer (some ⟨g2, 0, none⟩))
  have hN2 : (w.alloc (.cells #[.pointer (some ⟨g1, 0, none⟩)] 26)).heap.size = w.heap.size + 1 := by simp
  rw [hN2] at Y2'
  have Y2 := Lib.hid Y2'
  have HNO := Lib.hid hno
  clear T1 i1 n1' n2' hno Y2' hN2
  refine (callsIn_wide (n := 3)).1 (callsIn_of_wp_marks Tryz.func10 rfl trivial ?_ rfl)
  simp only [Tryz.ntmps10, List.size_toArray, List.length_cons, List.length_nil, Nat.reduceAdd, Nat.reduceSub, Array.replicate_succ, Array.replicate_zero, List.push_toArray, List.append_toArray, List.nil_append, List.cons_append]
  refine wpIn_wide.2 ?_
  go_upto_region 1 with fail
  generalize (w.alloc (.cells #[.pointer (some ⟨g1, 0, none⟩)] 26)).alloc (.cells #[.pointer (some ⟨g2, 0, none⟩)] 26) = w2 at B2 TA2 IA2 X2 Y2 ⊢
  have x1 := X2.out.cell
  have x2 := Y2.out.cell
  go_wp2_with fail
  refine (stands_no g1 h1 n1 c1 A1 l1 z k1 z1 w2 TA2.out IA2.out hn HNO.out).mono ?_
  rintro e w3 ⟨rfl, b3⟩
  have B3 := Lib.hid (then_ B2.out b3)
  clear x1 x2 b3 B2 TA2 IA2 X2 Y2
  go_wp2_with fail
  exact ⟨_, results_tmp3 rfl _ _ _, rfl, B3.out⟩
set_option maxRecDepth 100000 in
set_option maxHeartbeats 8000000 in
theorem join_range (g1 h1 n1 c1 g2 h2 n2 c2 : Nat) (A1 A2 : Option Addr) (l1 l2 a b : List Nat) (k1 k2 : Int) (z1 z2 : Nat → Int) (w : World) (T1 : TabAt w g1 h1 l1 k1 z1) (T2 : TabAt w g2 h2 l2 k2 z2)
    (hl1 : l1.length = n1) (hl2 : l2.length = n2) (ha : a.length = n1) (hb : b.length = n2) (i1 : Ints w A1 a) (i2 : Ints w A2 b) (h61 : n1 ≤ 6) (h62 : n2 ≤ 6)
    (r1 : Rises a) (r2 : Rises b) (hag : AgB a b l1 l2 = true) (hk : k1 ≠ k2) :
    Calls Tryz.prog 10 #[.pointer (some ⟨g1, 0, none⟩), .slice A1 n1 c1, .pointer (some ⟨g2, 0, none⟩), .slice A2 n2 c2] w fun e w' => e = .returned (.tuple #[.pointer none, .slice none 0 0, .int .i64 3]) ∧ Below w.heap.size w w' := by
  have HL1 := Lib.hid hl1
  have HL2 := Lib.hid hl2
  have HA := Lib.hid ha
  have HB := Lib.hid hb
  have HR1 := Lib.hid r1
  have HR2 := Lib.hid r2
  have HAG := Lib.hid hag
  have dk : (k1 != k2) = true := by simpa using hk
  clear hk
  have n1' := new_val w (.cells #[.pointer (some ⟨g1, 0, none⟩)] 26)
  have n2' := new_val (w.alloc (.cells #[.pointer (some ⟨g1, 0, none⟩)] 26)) (.cells #[.pointer (some ⟨g2, 0, none⟩)] 26)
  have B2 := Lib.hid (then_ n1' n2')
  have TA2 := Lib.hid (T1.below (then_ n1' n2'))
  have TB2 := Lib.hid (T2.below (then_ n1' n2'))
  have IA2 := Lib.hid (i1.below (then_ n1' n2') (Nat.le_refl _))
  have IB2 := Lib.hid (i2.below (then_ n1' n2') (Nat.le_refl _))
  have X2 : Hid (Boxed _ w.heap.size 26 (.pointer (some ⟨g1, 0, none⟩))) := Lib.hid (box_below (Boxed.new w 26 (.pointer (some ⟨g1, 0, none⟩))) n2')
  have Y2' := Boxed.new (w.alloc (.cells #[.pointer (some ⟨g1, 0, none⟩)] 26)) 26 (.pointer (some ⟨g2, 0, none⟩))
  have hN2 : (w.alloc (.cells #[.pointer (some ⟨g1, 0, none⟩)] 26)).heap.size = w.heap.size + 1 := by simp
  rw [hN2] at Y2'
  have Y2 := Lib.hid Y2'
  clear hl1 hl2 ha hb r1 r2 hag T1 T2 i1 i2 n1' n2' Y2' hN2
  refine (callsIn_wide (n := 3)).1 (callsIn_of_wp_marks Tryz.func10 rfl trivial ?_ rfl)
  simp only [Tryz.ntmps10, List.size_toArray, List.length_cons, List.length_nil, Nat.reduceAdd, Nat.reduceSub, Array.replicate_succ, Array.replicate_zero, List.push_toArray, List.append_toArray, List.nil_append, List.cons_append]
  refine wpIn_wide.2 ?_
  go_upto_region 1 with fail
  generalize (w.alloc (.cells #[.pointer (some ⟨g1, 0, none⟩)] 26)).alloc (.cells #[.pointer (some ⟨g2, 0, none⟩)] 26) = w2 at B2 TA2 TB2 IA2 IB2 X2 Y2 ⊢
  have x1 := X2.out.cell
  have x2 := Y2.out.cell
  go_wp2_with fail
  refine (stands_yes g1 h1 n1 c1 A1 l1 a k1 z1 w2 TA2.out HA.out HL1.out HR1.out IA2.out h61).mono ?_
  rintro e w3 ⟨rfl, b3⟩
  have B3 := Lib.hid (then_ B2.out b3)
  have TA3 := Lib.hid (TA2.out.below b3)
  have TB3 := Lib.hid (TB2.out.below b3)
  have IA3 := Lib.hid (IA2.out.below b3 (Nat.le_refl _))
  have IB3 := Lib.hid (IB2.out.below b3 (Nat.le_refl _))
  have X3 : Hid (Boxed _ _ _ _) := Lib.hid (box_below X2.out b3)
  have Y3 : Hid (Boxed _ _ _ _) := Lib.hid (box_below Y2.out b3)
  clear x1 x2 b3 B2 TA2 TB2 IA2 IB2 X2 Y2
  have x1 := X3.out.cell
  have x2 := Y3.out.cell
  go_wp2_with fail
  refine (stands_yes g2 h2 n2 c2 A2 l2 b k2 z2 w3 TB3.out HB.out HL2.out HR2.out IB3.out h62).mono ?_
  rintro e w4 ⟨rfl, b4⟩
  have B4 := Lib.hid (then_ B3.out b4)
  have TA4 := Lib.hid (TA3.out.below b4)
  have TB4 := Lib.hid (TB3.out.below b4)
  have IA4 := Lib.hid (IA3.out.below b4 (Nat.le_refl _))
  have IB4 := Lib.hid (IB3.out.below b4 (Nat.le_refl _))
  have X4 : Hid (Boxed _ _ _ _) := Lib.hid (box_below X3.out b4)
  have Y4 : Hid (Boxed _ _ _ _) := Lib.hid (box_below Y3.out b4)
  clear x1 x2 b4 B3 TA3 TB3 IA3 IB3 X3 Y3
  have x1 := X4.out.cell
  have x2 := Y4.out.cell
  go_wp2_with fail
  refine (agree_any g1 h1 n1 c1 g2 h2 n2 c2 A1 A2 l1 l2 a b k1 k2 z1 z2 w4 TA4.out TB4.out HL1.out HL2.out HA.out HB.out IA4.out IB4.out h61 h62 (rises_sorted HR2.out)).mono ?_
  rintro e w5 ⟨rfl, b5⟩
  rw [HAG.out]
  have B5 := Lib.hid (then_ B4.out b5)
  have TA5 := Lib.hid (TA4.out.below b5)
  have TB5 := Lib.hid (TB4.out.below b5)
  have X5 : Hid (Boxed _ _ _ _) := Lib.hid (box_below X4.out b5)
  have Y5 : Hid (Boxed _ _ _ _) := Lib.hid (box_below Y4.out b5)
  clear x1 x2 b5 B4 TA4 TB4 IA4 IB4 X4 Y4
  have x1 := X5.out.cell
  have x2 := Y5.out.cell
  obtain ⟨c0, c1', c2', c3, c4, c5, c6, c7, c8⟩ := TA5.out.cells
  obtain ⟨d0, d1, d2, d3, d4, d5, d6, d7, d8⟩ := TB5.out.cells
  have HH : Hid (HoldQq w5 w.heap.size (w.heap.size + 1) g1 g2 k1 k2 w5) := Lib.hid ⟨x1, x2, c7, d7, Below.refl _ _⟩
  clear x1 x2 c0 c1' c2' c3 c4 c5 c6 c7 c8 d0 d1 d2 d3 d4 d5 d6 d7 d8
  go_upto_region 5 with fail
  go_region_held3 (fun W => HoldQq w5 w.heap.size (w.heap.size + 1) g1 g2 k1 k2 W) (exact holdQq HH.out ((Below.refl _ _).drew)) (fail)
  have nd := Lib.hid ((Below.refl w5.heap.size w5).drew)
  generalize w5.drew = w6 at *
  go_wp2_with fail
  exact ⟨_, results_tmp3 rfl _ _ _, rfl, then_ B5.out nd.out⟩

end Go.Proofs.YtpdcpaoabalgcaaGreatDoor

namespace Go.Proofs.YtpdcpaoabalgcaaGreatDoor
open Go.RowKit Go.Shelf Go.Sort
set_option linter.unusedVariables false
attribute [local go_sem] Oper.semAt_some
/-- Are the first sizes right? Their product. -/
def okZ (z : Nat → Int) : Nat → Bool
  | 0 => true
  | j + 1 => okZ z j && (decide (1 ≤ z j) && decide (z j ≤ 32))
def prZ (z : Nat → Int) : Nat → Nat
  | 0 => 1
  | j + 1 => prZ z j * (z j).toNat
theorem okZ_iff (z : Nat → Int) : ∀ j, okZ z j = true ↔ ∀ i, i < j → 1 ≤ z i ∧ z i ≤ 32
  | 0 => ⟨fun _ i hi => absurd hi (Nat.not_lt_zero _), fun _ => rfl⟩
  | j + 1 => by
    have ih := okZ_iff z j
    simp only [okZ, Bool.and_eq_true, decide_eq_true_eq, ih]
    constructor
    · rintro ⟨h1, h2⟩ i hi
      rcases (by omega : i < j ∨ i = j) with h | rfl
      · exact h1 i h
      · exact h2
    · exact fun h => ⟨fun i hi => h i (by omega), h j (by omega)⟩
theorem prZ_le (z : Nat → Int) : ∀ j, okZ z j = true → prZ z j ≤ 32 ^ j
  | 0, _ => Nat.le_refl _
  | j + 1, h => by
    have h' := (okZ_iff z (j + 1)).1 h
    have ih := prZ_le z j ((okZ_iff z j).2 fun i hi => h' i (by omega))
    rw [Nat.pow_succ]
    exact Nat.mul_le_mul ih (by have := h' j (by omega); omega)
theorem prZ_prod (z : Nat → Int) (l : List Nat) : ∀ j, j ≤ l.length → (∀ i, i < l.length → z i = (nth l i : Int)) → prZ z j = prodL (l.take j)
  | 0, _, _ => rfl
  | j + 1, hj, h => by
    rw [prod_take l (by omega), ← prZ_prod z l j (by omega) h]
    show prZ z j * (z j).toNat = _
    rw [h j (by omega)]
    rfl
instance decInK (x k : Int) : Decidable (InK x k) := by unfold InK; infer_instance
/-- The error of New. -/
def rawE (m : Nat) (k x : Int) (z : Nat → Int) : Int := if okZ z m = true then (if prZ z m ≤ 4096 then (if InK x k then 0 else 3) else 5) else 1
theorem tnew_raw (A : Option Addr) (m c : Nat) (k x : Int) (z : Nat → Int) (w : World) (hr : Zs w A m z) (h4 : m ≤ 6) :
    Calls Tryz.prog 16 #[.slice A m c, .int .i64 k, .int .i64 x] w fun e w' => (∃ tv, e = .returned (.tuple #[tv, .int .i64 (rawE m k x z)]) ∧ ((rawE m k x z = 0 ∧ ∃ g, tv = .pointer (some ⟨g, 0, none⟩)) ∨ (rawE m k x z ≠ 0 ∧ tv = .pointer none))) ∧ Below w.heap.size w w' := by
  rcases raw_cases m z with ⟨p, hb⟩ | ⟨h6, l, hl, hz, hls⟩
  · have e : rawE m k x z = 1 := if_neg fun h => by
      have h := (okZ_iff z m).1 h
      rcases hb with h' | ⟨_, h1, _, h2⟩
      · omega
      · have := h p h1; omega
    rw [e]
    refine (tnew_fell A m c k x 1 w (by decide) (new_bad A m c p z w hr (by omega) hb)).mono ?_
    rintro e w' ⟨rfl, b⟩
    exact ⟨⟨_, rfl, .inr ⟨by decide, rfl⟩⟩, b⟩
  · subst hl
    have hI := ints_of_zs hr hz
    have ho : okZ z l.length = true := (okZ_iff z _).2 fun i hi => by
      have := hls _ (nth_mem hi)
      rw [hz i hi]
      omega
    have hp : prZ z l.length = prodL l := by rw [prZ_prod z l l.length (Nat.le_refl _) hz, List.take_length]
    by_cases h1 : prodL l ≤ 4096
    · by_cases h2 : InK x k
      · have e : rawE l.length k x z = 0 := by unfold rawE; rw [if_pos ho, hp, if_pos h1, if_pos h2]
        rw [e]
        obtain ⟨q1, q2, q3, q4⟩ := h2
        refine (tnew_ok A l.length c l k x w rfl h6 hI hls h1 q1 q2 q3 q4).mono ?_
        rintro e w' ⟨g, h, rfl, _, _, _, b⟩
        exact ⟨⟨_, rfl, .inl ⟨rfl, g, rfl⟩⟩, b⟩
      · have e : rawE l.length k x z = 3 := by unfold rawE; rw [if_pos ho, hp, if_pos h1, if_neg h2]
        rw [e]
        refine (tnew_range A l.length c l k x w rfl h6 hI hls h1 h2).mono ?_
        rintro e w' ⟨rfl, b⟩
        exact ⟨⟨_, rfl, .inr ⟨by decide, rfl⟩⟩, b⟩
    · have e : rawE l.length k x z = 5 := by unfold rawE; rw [if_pos ho, hp, if_neg h1]
      rw [e]
      refine (tnew_fell A l.length c k x 5 w (by decide) (new_large A c l w h6 hI hls (by omega))).mono ?_
      rintro e w' ⟨rfl, b⟩
      exact ⟨⟨_, rfl, .inr ⟨by decide, rfl⟩⟩, b⟩
/-- May these be the variables of a table of two places? -/
def RZ (n : Nat) (z : Nat → Int) : Prop := n = 2 ∧ 0 ≤ z 0 ∧ z 0 < z 1
theorem rz_no {n : Nat} {z : Nat → Int} (h : ¬ RZ n z) : ¬ ((∀ i, i < n → pvZ z i < z i) ∧ n = 2) := by
  rintro ⟨h1, rfl⟩
  have a := h1 0 (by omega)
  have b := h1 1 (by omega)
  rw [pvZ_succ] at b
  exact h ⟨rfl, by unfold pvZ at a; rw [if_pos rfl] at a; omega, b⟩
theorem join_errs (g1 h1 g2 h2 n1 c1 c2 : Nat) (A1 A2 : Option Addr) (z : Nat → Int) (k1 k2 : Int) (z1 z2 : Nat → Int) (w : World) (T1 : TabAt w g1 h1 [2, 3] k1 z1) (T2 : TabAt w g2 h2 [2] k2 z2)
    (i1 : Zs w A1 n1 z) (i2 : Ints w A2 [1099511627776]) (hn : n1 ≤ 4) (e2 : A2 = none → c2 = 0) (hk1 : 1 ≤ k1) (hk2 : k1 ≤ 2147483648)
    (hz1 : ∀ i, i < 6 → 0 ≤ z1 i ∧ z1 i ≤ k1) (hz2 : ∀ i, i < 2 → 0 ≤ z2 i ∧ z2 i ≤ k1) :
    Calls Tryz.prog 10 #[.pointer (some ⟨g1, 0, none⟩), .slice A1 n1 c1, .pointer (some ⟨g2, 0, none⟩), .slice A2 1 c2] w fun e w' => (∃ p q f, e = .returned (.tuple #[p, q, .int .i64 f]) ∧ (¬ RZ n1 z → f = 1) ∧ (RZ n1 z → z 0 ≠ 1099511627776 → z 1 ≠ 1099511627776 → f = if k1 = k2 then 0 else 3)) ∧ Below w.heap.size w w' := by
  by_cases hR : RZ n1 z
  · obtain ⟨rfl, r0, r1⟩ := hR
    have hR : RZ 2 z := ⟨rfl, r0, r1⟩
    obtain ⟨x, hx⟩ : ∃ x : Nat, z 0 = x := ⟨(z 0).toNat, by omega⟩
    obtain ⟨y, hy⟩ : ∃ y : Nat, z 1 = y := ⟨(z 1).toNat, by omega⟩
    have hI : Ints w A1 [x, y] := ints_of_zs (l := [x, y]) i1 fun i hi => by
      rcases (by simp at hi; omega : i = 0 ∨ i = 1) with rfl | rfl
      · exact hx
      · exact hy
    have hr : Rises [x, y] := fun i hi => by
      obtain rfl : i = 0 := by simp at hi; omega
      show x < y
      omega
    have hrb : Rises [1099511627776] := fun i hi => by simp at hi
    have e1 : A1 = none → c1 = 0 := fun e => by
      rcases hI with h | ⟨_, _, h, _⟩
      · cases h
      · rw [e] at h; cases h
    rcases hag : AgB [x, y] [1099511627776] [2, 3] [2] with _ | _
    · refine (join_no g1 h1 2 c1 g2 h2 1 c2 A1 A2 [2, 3] [2] [x, y] [1099511627776] k1 k2 z1 z2 w T1 T2 rfl rfl rfl rfl hI i2 (by omega) (by omega) hr hrb hag).mono ?_
      rintro e w' ⟨rfl, b⟩
      refine ⟨⟨_, _, 1, rfl, fun _ => rfl, fun _ q0 q1 => ?_⟩, b⟩
      exfalso
      have : AgB [x, y] [1099511627776] [2, 3] [2] = true := (agB_iff hrb).2 fun i j hi hj e => by
        obtain rfl : j = 0 := by simp at hj; omega
        rcases (by simp at hi; omega : i = 0 ∨ i = 1) with rfl | rfl
        · have e : x = 1099511627776 := e
          omega
        · have e : y = 1099511627776 := e
          omega
      rw [this] at hag
      cases hag
    · by_cases hk : k1 = k2
      · subst hk
        obtain ⟨V, -, HU⟩ := uni_ex [x, y] [1099511627776]
        have hV : V.length ≤ 3 := uni_len HU
        have hS := HU.sizes (l1 := [2, 3]) (l2 := [2]) (Q := fun n => 1 ≤ n ∧ n ≤ 4) hr hrb rfl rfl hag (by decide) (by decide)
        refine (join_uni g1 h1 2 c1 g2 h2 1 c2 _ A1 A2 [2, 3] [2] [x, y] [1099511627776] V k1 z1 z2 w T1 T2 rfl rfl rfl rfl hI i2 (by omega) (by omega) e1 e2 hr hrb hag HU (by omega) (by decide) (by decide) rfl (prod_4096 (by rw [joinL_len]; omega) fun n hn => (hS n hn).2) hk1 hk2 hz1 hz2).mono ?_
        rintro e w' ⟨g', h', A, c, rfl, -, -, -, -, b⟩
        exact ⟨⟨_, _, 0, rfl, fun h => absurd hR h, fun _ _ _ => (if_pos rfl).symm⟩, b⟩
      · refine (join_range g1 h1 2 c1 g2 h2 1 c2 A1 A2 [2, 3] [2] [x, y] [1099511627776] k1 k2 z1 z2 w T1 T2 rfl rfl rfl rfl hI i2 (by omega) (by omega) hr hrb hag hk).mono ?_
        rintro e w' ⟨rfl, b⟩
        exact ⟨⟨_, _, 3, rfl, fun h => absurd hR h, fun _ _ _ => (if_neg hk).symm⟩, b⟩
  · refine (join_arg g1 h1 n1 c1 g2 1 c2 A1 A2 [2, 3] z k1 z1 w T1 i1 (by omega) (rz_no hR)).mono ?_
    rintro e w' ⟨rfl, b⟩
    exact ⟨⟨_, _, 1, rfl, fun _ => rfl, fun h => absurd h hR⟩, b⟩
end Go.Proofs.YtpdcpaoabalgcaaGreatDoor
