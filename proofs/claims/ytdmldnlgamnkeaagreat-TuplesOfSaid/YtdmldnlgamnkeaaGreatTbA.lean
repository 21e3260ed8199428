/- Texts of this seat laid together (no statement of its own). -/
import Derived.Test.YtdmldnlgamnkeaaGreatSh2
import Derived.Deep.RegionLaw
import Derived.Laws.CopyOwn
import Derived.Deep.OwnRows
namespace Go.Proofs.YtdmldnlgamnkeaaGreat
open Go.RowKit
set_option linter.unusedVariables false
theorem right_yes (k : Int) (w : World) (h1 : 1 ≤ k) (h2 : k ≤ 2147483648) :
    Calls Tryz.prog 48 #[.int .i64 k] w fun e w' => e = .returned (.bool true) ∧ w = w' := by
  go_enter Tryz.func48, Tryz.ntmps48
  go_wp2
  go_ret
  exact ⟨rfl, rfl⟩
theorem right_no (k : Int) (w : World) (h : k < 1 ∨ 2147483648 < k) :
    Calls Tryz.prog 48 #[.int .i64 k] w fun e w' => e = .returned (.bool false) ∧ w = w' := by
  rcases h with h | h
  · go_enter Tryz.func48, Tryz.ntmps48
    go_wp2
    go_ret
    exact ⟨rfl, rfl⟩
  · have h1 : 1 ≤ k := by omega
    go_enter Tryz.func48, Tryz.ntmps48
    go_wp2
    go_ret
    exact ⟨by simp <;> omega, rfl⟩
theorem in_yes (a k : Int) (w : World) (h1 : 1 ≤ k) (h2 : k ≤ 2147483648) (h3 : 0 ≤ a) (h4 : a ≤ k) :
    Calls Tryz.prog 21 #[.int .i64 a, .int .i64 k] w fun e w' => e = .returned (.bool true) ∧ w = w' := by
  go_enter Tryz.func21, Tryz.ntmps21
  go_wp2_with (go_at_call 48; refine (right_yes _ _ (by omega) (by omega)).mono ?_; rintro e w' ⟨rfl, rfl⟩)
  go_ret
  exact ⟨rfl, rfl⟩
/-- A table lies at g: of sizes l, with the top k; its costs z lie at h. -/
structure TabAt (w : World) (g h : Nat) (l : List Nat) (k : Int) (z : Nat → Int) : Prop where
  row : w.heap[g]? = some (.cells #[.int .i64 (l.length : Int), szV l 0, szV l 1, szV l 2, szV l 3, szV l 4, szV l 5, .int .i64 k, .slice (some ⟨h, 0, none⟩) (prodL l) (prodL l)] 63 (0, 0))
  costs : ∃ cur, w.heap[h]? = some (.cells cur 2 (0, 0)) ∧ cur.size = prodL l ∧ ∀ i, i < prodL l → cur[i]? = some (.int .i64 (z i))
theorem TabAt.apart {w : World} {g h : Nat} {l : List Nat} {k : Int} {z : Nat → Int} (H : TabAt w g h l k z) : g ≠ h := by
  rintro rfl
  obtain ⟨cur, hc, _⟩ := H.costs
  have := H.row.symm.trans hc
  simp at this
theorem TabAt.below {w w' : World} {g h : Nat} {l : List Nat} {k : Int} {z : Nat → Int} (H : TabAt w g h l k z) (hb : Below w.heap.size w w') : TabAt w' g h l k z := by
  obtain ⟨cur, hc, h1, h2⟩ := H.costs
  refine ⟨?_, cur, ?_, h1, h2⟩
  · rw [hb.block g (Array.getElem?_eq_some_iff.1 H.row).1]; exact H.row
  · rw [hb.block h (Array.getElem?_eq_some_iff.1 hc).1]; exact hc
theorem TabAt.cells {w : World} {g h : Nat} {l : List Nat} {k : Int} {z : Nat → Int} (H : TabAt w g h l k z) :
    w.cell? ⟨g, 0, none⟩ = some (.int .i64 (l.length : Int)) ∧ w.cell? ⟨g, 1, none⟩ = some (szV l 0) ∧ w.cell? ⟨g, 2, none⟩ = some (szV l 1) ∧ w.cell? ⟨g, 3, none⟩ = some (szV l 2) ∧ w.cell? ⟨g, 4, none⟩ = some (szV l 3) ∧
    w.cell? ⟨g, 5, none⟩ = some (szV l 4) ∧ w.cell? ⟨g, 6, none⟩ = some (szV l 5) ∧ w.cell? ⟨g, 7, none⟩ = some (.int .i64 k) ∧ w.cell? ⟨g, 8, none⟩ = some (.slice (some ⟨h, 0, none⟩) (prodL l) (prodL l)) := by
  refine ⟨?_, ?_, ?_, ?_, ?_, ?_, ?_, ?_, ?_⟩ <;> (rw [cell_of_row _ _ _ _ _ _ H.row]; rfl)
theorem TabAt.set {w : World} {g h : Nat} {l : List Nat} {k : Int} {z : Nat → Int} (H : TabAt w g h l k z) (N : Nat) (x : Int) :
    TabAt (w.setCell ⟨h, N, none⟩ (.int .i64 x)) g h l k (fun i => if i = N then x else z i) ∧ w.grownBy (w.setCell ⟨h, N, none⟩ (.int .i64 x)) (some h) := by
  obtain ⟨cur, hc, h1, h2⟩ := H.costs
  refine ⟨⟨(heap_setCell_other w ⟨h, N, none⟩ g _ H.apart).trans H.row, _, heap_setCell_same w h N cur 2 _ hc, by simpa using h1, fun i hi => ?_⟩, ⟨rfl, rfl, rfl, by simp, fun k _ hk => heap_setCell_other w ⟨h, N, none⟩ k _ (fun e => hk (by simp [e]))⟩⟩
  rw [Array.getElem?_setIfInBounds]
  by_cases e : N = i
  · subst e
    rw [if_pos rfl, if_pos (by omega), if_pos rfl]
  · rw [if_neg e, if_neg (fun h => e h.symm)]
    exact h2 i hi
set_option maxRecDepth 100000 in
set_option maxHeartbeats 4000000 in
theorem tput_ok (g h : Nat) (A : Option Addr) (n c N : Nat) (l t : List Nat) (k x : Int) (z : Nat → Int) (w : World) (H : TabAt w g h l k z) (hn : n = t.length) (h6 : l.length ≤ 6) (h32 : ∀ n ∈ l, n ≤ 32) (hr : Ints w A t) (hin : InL l t) (hN : numL l t = N) (hNP : N < prodL l)
    (hk1 : 1 ≤ k) (hk2 : k ≤ 2147483648) (hx0 : 0 ≤ x) (hx1 : x ≤ k) :
    Calls Tryz.prog 9 #[.pointer (some ⟨g, 0, none⟩), .slice A n c, .int .i64 x] w fun e w' => e = .returned (.int .i64 0) ∧ TabAt w' g h l k (fun i => if i = N then x else z i) ∧ w.grownBy w' (some h) := by
  have HX := Lib.hid (fun W (hr : Ints W A t) => index_ok' A n c N l t W hn h6 h32 hr hin hN)
  have HT := Lib.hid H
  have HR := Lib.hid hr
  obtain ⟨c0, c1, c2, c3, c4, c5, c6, c7, c8⟩ := H.cells
  have i0 : (0 : Int) ≤ (N : Int) := by omega
  have i1 : (N : Int) < (prodL l : Int) := by omega
  clear H hr hin hN h32 hn
  go_enter Tryz.func9, Tryz.ntmps9
  go_wp2_with fail
  refine (HX.out _ HR.out).mono ?_
  rintro e w1 ⟨rfl, b1⟩
  have T1 := Lib.hid (HT.out.below b1)
  have B1 := Lib.hid b1
  obtain ⟨d0, d1, d2, d3, d4, d5, d6, d7, d8⟩ := T1.out.cells
  obtain ⟨cur, hc, hcs, hcz⟩ := T1.out.costs
  have hst : w1.cell? ⟨h, N, none⟩ = some (.int .i64 (z N)) := by rw [cell_of_row _ _ _ _ _ _ hc]; exact hcz N hNP
  have hfr : w1.frozen? ⟨h, N, none⟩ = false := frozen_of_row w1 h N cur 2 hc
  have HC := Lib.hid hc
  have HCS := Lib.hid hcs
  have HCZ := Lib.hid hcz
  clear b1 c0 c1 c2 c3 c4 c5 c6 c7 c8 hc hcs hcz
  go_wp2_with (go_at_call 21; refine (in_yes _ _ _ hk1 hk2 hx0 hx1).mono ?_; rintro e w' ⟨rfl, rfl⟩)
  go_ret
  obtain ⟨q1, q2⟩ := T1.out.set N x
  exact ⟨rfl, q1, ⟨q2.os.trans B1.out.os, q2.tape.trans B1.out.tape, q2.output.trans B1.out.output, Nat.le_trans B1.out.size q2.size, fun i hi hne => (q2.block i (Nat.lt_of_lt_of_le hi B1.out.size) hne).trans (B1.out.block i hi)⟩⟩
theorem in_no (a k : Int) (w : World) (h1 : 1 ≤ k) (h2 : k ≤ 2147483648) (h : a < 0 ∨ k < a) :
    Calls Tryz.prog 21 #[.int .i64 a, .int .i64 k] w fun e w' => e = .returned (.bool false) ∧ w = w' := by
  rcases (by omega : a < 0 ∨ (0 ≤ a ∧ k < a)) with h | ⟨h, h3⟩
  all_goals
    go_enter Tryz.func21, Tryz.ntmps21
    go_wp2_with (go_at_call 48; refine (right_yes _ _ (by omega) (by omega)).mono ?_; rintro e w' ⟨rfl, rfl⟩)
    go_ret
    exact ⟨by first | rfl | (simp <;> omega), rfl⟩
/-- Put of what is no tuple of these sizes. -/
theorem tput_out (g h : Nat) (A : Option Addr) (n c : Nat) (l : List Nat) (k x : Int) (z : Nat → Int) (i : Int) (w : World) (H : TabAt w g h l k z)
    (hI : Calls Tryz.prog 24 #[shV l, .slice A n c] w fun e w' => e = .returned (.tuple #[.int .i64 i, .int .i64 3]) ∧ Below w.heap.size w w') :
    Calls Tryz.prog 9 #[.pointer (some ⟨g, 0, none⟩), .slice A n c, .int .i64 x] w fun e w' => e = .returned (.int .i64 3) ∧ Below w.heap.size w w' := by
  have HX := Lib.hid hI
  obtain ⟨c0, c1, c2, c3, c4, c5, c6, c7, c8⟩ := H.cells
  clear H hI
  go_enter Tryz.func9, Tryz.ntmps9
  go_wp2_with fail
  refine HX.out.mono ?_
  rintro e w1 ⟨rfl, b1⟩
  have B1 := Lib.hid b1
  clear b1 c0 c1 c2 c3 c4 c5 c6 c7 c8
  go_wp2_with fail
  go_ret
  exact ⟨rfl, B1.out⟩
set_option maxRecDepth 100000 in
set_option maxHeartbeats 4000000 in
/-- Put of a cost that there isn't. -/
theorem tput_cost (g h : Nat) (A : Option Addr) (n c N : Nat) (l : List Nat) (k x : Int) (z : Nat → Int) (w : World) (H : TabAt w g h l k z)
    (hI : Calls Tryz.prog 24 #[shV l, .slice A n c] w fun e w' => e = .returned (.tuple #[.int .i64 (N : Int), .int .i64 0]) ∧ Below w.heap.size w w')
    (hk1 : 1 ≤ k) (hk2 : k ≤ 2147483648) (hx : x < 0 ∨ k < x) :
    Calls Tryz.prog 9 #[.pointer (some ⟨g, 0, none⟩), .slice A n c, .int .i64 x] w fun e w' => e = .returned (.int .i64 3) ∧ Below w.heap.size w w' := by
  have HX := Lib.hid hI
  have HT := Lib.hid H
  have HC := Lib.hid (fun W => in_no x k W hk1 hk2 hx)
  obtain ⟨c0, c1, c2, c3, c4, c5, c6, c7, c8⟩ := H.cells
  clear H hI hx
  go_enter Tryz.func9, Tryz.ntmps9
  go_wp2_with fail
  refine HX.out.mono ?_
  rintro e w1 ⟨rfl, b1⟩
  obtain ⟨d0, d1, d2, d3, d4, d5, d6, d7, d8⟩ := (HT.out.below b1).cells
  have B1 := Lib.hid b1
  clear b1 c0 c1 c2 c3 c4 c5 c6 c7 c8
  go_wp2_with (go_at_call 21; refine (HC.out _).mono ?_; rintro e w' ⟨rfl, rfl⟩)
  go_ret
  exact ⟨rfl, B1.out⟩
/-- A nil table. -/
theorem tput_nil (A : Option Addr) (n c : Nat) (x : Int) (w : World) : Calls Tryz.prog 9 #[.pointer none, .slice A n c, .int .i64 x] w fun e w' => e = .returned (.int .i64 2) ∧ w = w' := by
  go_enter Tryz.func9, Tryz.ntmps9
  go_wp2_with fail
  go_ret
  exact ⟨rfl, rfl⟩
theorem tk_any (g h : Nat) (l : List Nat) (k : Int) (z : Nat → Int) (w : World) (H : TabAt w g h l k z) : Calls Tryz.prog 28 #[.pointer (some ⟨g, 0, none⟩)] w fun e w' => e = .returned (.int .i64 k) ∧ w = w' := by
  obtain ⟨c0, c1, c2, c3, c4, c5, c6, c7, c8⟩ := H.cells
  clear H
  go_enter Tryz.func28, Tryz.ntmps28
  go_wp2_with fail
  go_ret
  exact ⟨rfl, rfl⟩
end Go.Proofs.YtdmldnlgamnkeaaGreat

namespace Go.Proofs.YtdmldnlgamnkeaaGreat
open Go.RowKit
set_option linter.unusedVariables false
theorem info_i64 : (Tryz.prog.info? 2).map (fun i => (i.zero, i.size, i.bytes)) = some (some (.int .i64 0), 1, 8) := by kernel_rfl
def RepL (x : Int) (j n : Nat) : List Value := List.replicate j (.int .i64 x) ++ List.replicate (n - j) (.int .i64 0)
def RepAt (W : World) (h : Nat) (x : Int) (j n : Nat) : Prop := W.heap[h]? = some (.cells (RepL x j n).toArray 2 (0, 0))
theorem made_list (n : Nat) : madeCells #[.int .i64 0] n = (RepL 0 0 n).toArray := by
  apply Array.ext
  · simp [RepL, madeCells]
  · intro i h1 h2
    simp [RepL, madeCells, Nat.mod_one]
theorem rep_splice (x : Int) (j m n : Nat) (h : j + m ≤ n) : splice (RepL x j n) j (List.replicate m (.int .i64 x)) = RepL x (j + m) n := by
  unfold splice RepL
  have e1 : (List.replicate j (Value.int .i64 x) ++ List.replicate (n - j) (Value.int .i64 0)).take j = List.replicate j (.int .i64 x) := by simp
  have e2 : (List.replicate j (Value.int .i64 x) ++ List.replicate (n - j) (Value.int .i64 0)).drop (j + m) = List.replicate (n - (j + m)) (.int .i64 0) := by
    simp [List.drop_append, Nat.sub_sub]
  rw [e1, List.length_replicate, e2, ← List.append_assoc, List.replicate_append_replicate]
theorem rep_len (x : Int) (j n : Nat) (h : j ≤ n) : (RepL x j n).length = n := by simp [RepL]; omega
set_option maxRecDepth 100000 in
set_option maxHeartbeats 4000000 in
theorem repeat_one (g c n : Nat) (x : Int) (w : World) (hc : w.cell? ⟨g, 0, none⟩ = some (.int .i64 x)) (hg : g < w.heap.size) (hn1 : 1 ≤ n) (hn : n ≤ 4096)
    (hM : ∀ W, Calls Tryz.prog 49 #[.int .u64 1, .int .u64 (n : Int)] W fun e w' => e = .returned (.tuple #[.int .u64 0, .int .u64 (n : Int)]) ∧ W = w') :
    Calls Tryz.prog 22 #[.slice (some ⟨g, 0, none⟩) 1 c, .int .i64 (n : Int)] w fun e w' => e = .returned (.slice (some ⟨w.heap.size, 0, none⟩) n n) ∧ RepAt w' w.heap.size x n n ∧ Below w.heap.size w w' := by
  have HM := Lib.hid hM
  have hm : ∀ W, (Instr.makeSlice 27 (.int .i64 (n : Int)) (.int .i64 (n : Int))).run Tryz.prog W = .ok (.slice (some ⟨W.heap.size, 0, none⟩) n n) (W.alloc (.cells (madeCells #[.int .i64 0] n) 2)) :=
    fun W => run_make_row' 27 2 (.int .i64 0) 8 Tryz.underlying27 info_i64 rfl .i64 .i64 n (by omega) (by omega) W
  have hc1 : (w.alloc (.cells (RepL 0 0 n).toArray 2)).cell? ⟨g, 0, none⟩ = some (.int .i64 x) := ((new_val w (.cells (RepL 0 0 n).toArray 2)).cell (p := ⟨g, 0, none⟩) hg).trans hc
  have hrow := heap_alloc_new w (.cells (RepL 0 0 n).toArray 2)
  have hnew := new_val w (.cells (RepL 0 0 n).toArray 2)
  rw [made_list] at hm
  have HROW := Lib.hid hrow
  have HNEW := Lib.hid hnew
  have HC1 := Lib.hid hc1
  have e1 : IntKind.u64.wrap (n : Int) = (n : Int) := by show (n : Int) % 18446744073709551616 = _; omega
  have e2 : IntKind.i64.wrap (n : Int) = (n : Int) := IntWalk.i64_in _ (by omega)
  clear hM hrow hnew hc1 hc
  have hsz : (Tryz.prog.info? 2).map (·.size) = some 1 := by kernel_rfl
  go_enter Tryz.func22, Tryz.ntmps22
  go_upto_region 7 with (go_at_call 49; refine (HM.out _).mono ?_; rintro e w' ⟨rfl, rfl⟩)
  go_wp2_with (refine wpList_copy_splice rfl (.tmp 31) (.tmp 32) 27 27 rfl 2 Tryz.underlying27 hsz (some ⟨w.heap.size, 0, none⟩) (some ⟨g, 0, none⟩) n n 1 c rfl rfl w.heap.size 0 (RepL 0 0 n) 2 HROW.out (List.replicate 1 (.int .i64 x)) (by show 1 = min 1 n; omega) (fun _ => ⟨rfl, _, rfl, fun j v hj => by rcases j with _ | j; (simp at hj; subst hj; exact HC1.out); simp at hj⟩) (by rw [rep_len _ _ _ (Nat.zero_le _)]; simp; omega) (fun v hv => by simp at hv; subst hv; rfl) w.heap.size w HNEW.out (Nat.le_refl _) ?_; intro w1 hr1 hb1; have R1 : Hid (RepAt w1 w.heap.size x 1 n) := Lib.hid (by have h := hr1.out; rw [show RepL 0 0 n = RepL x 0 n from rfl, rep_splice x 0 1 n (by omega)] at h; exact h); have B1 := Lib.hid hb1; clear hr1 hb1)
  go_loopw [8] (fun i wr => ∃ j : Nat, 1 ≤ j ∧ j ≤ n ∧ i = .int .i64 (j : Int) ∧ RepAt wr w.heap.size x j n ∧ Below w.heap.size w wr) (fun i _ => n - (intOf i).toNat)
  case atStart => exact ⟨1, Nat.le_refl _, hn1, rfl, R1.out, B1.out⟩
  case round =>
    obtain ⟨j, hj1, hj, rfl, hr, hb⟩ := hrel
    have RJ := Lib.hid hr
    have BJ := Lib.hid hb
    clear hr hb
    by_cases hlt : j < n
    · have i1 : (j : Int) < (n : Int) := by omega
      have HCELL : Hid (∀ i v, (List.replicate (min j (n - j)) (Value.int .i64 x))[i]? = some v → wr.cell? ((⟨w.heap.size, 0, none⟩ : Addr).add i) = some v) := by
        refine Lib.hid fun i v hi => ?_
        have hl := (List.getElem?_eq_some_iff.1 hi).1
        rw [List.length_replicate] at hl
        rw [List.getElem?_replicate, if_pos hl] at hi
        obtain rfl := Option.some.inj hi
        rw [show ((⟨w.heap.size, 0, none⟩ : Addr).add i) = ⟨w.heap.size, i, none⟩ by (simp [Addr.add]; omega), cell_of_row _ _ _ _ _ _ RJ.out]
        simp only [RepL, List.getElem?_toArray]
        rw [List.getElem?_append_left (by rw [List.length_replicate]; omega), List.getElem?_replicate, if_pos (by omega)]
      have hN : Hid ((List.replicate (min j (n - j)) (Value.int .i64 x)).length = Nat.min j (n - j)) := Lib.hid (by rw [List.length_replicate])
      have hF : Hid (j + (List.replicate (min j (n - j)) (Value.int .i64 x)).length ≤ (RepL x j n).length) := Lib.hid (by rw [rep_len _ _ _ hj, List.length_replicate]; omega)
      have hO : Hid (∀ v ∈ List.replicate (min j (n - j)) (Value.int .i64 x), v.oneCell' = true) := Lib.hid (fun v hv => by obtain ⟨_, rfl⟩ := List.mem_replicate.1 hv; rfl)
      have i2 : (0 : Int) ≤ (j : Int) := by omega
      have hnj : ¬ n = j := by omega
      have i3 : (j : Int) ≤ (n : Int) := by omega
      go_wp2_with fail
      go_region_law (refine step_copy_splice rfl (.tmp 41) (.tmp 44) 27 27 rfl 2 Tryz.underlying27 hsz (some ⟨w.heap.size, j, none⟩) (some ⟨w.heap.size, 0, none⟩) (n - j) (n - j) j n (by simp [Act.eval, Act.put]) (by simp [Act.eval, Act.put]) w.heap.size j (RepL x j n) 2 RJ.out (List.replicate (min j (n - j)) (.int .i64 x)) hN.out (fun _ => ⟨rfl, _, rfl, HCELL.out⟩) hF.out hO.out w.heap.size w (by first | exact BJ.out.drew | exact next_drewN BJ.out _ | exact BJ.out) (Nat.le_refl _) ?_; intro w2 hr2 hb2; have R2 : Hid (RepAt w2 w.heap.size x (j + min j (n - j)) n) := Lib.hid (by have h := hr2.out; rw [rep_splice x j _ n (by omega)] at h; exact h); have B2 := Lib.hid hb2; clear hr2 hb2)
      all_goals
        obtain ⟨M, hM⟩ : ∃ M, min j (n - j) = M := ⟨_, rfl⟩
        rw [hM] at R2
        simp [Act.put, hM]
        have i4 : IntKind.i64.wrap ((j : Int) + (M : Int)) = (j : Int) + (M : Int) := IntWalk.i64_in _ (by omega)
        go_wp2_with fail
        go_roundw
        case rel => exact ⟨j + M, by omega, by omega, by go_num, R2.out, B2.out⟩
        case measure => simp [intOf]; omega
    · obtain rfl : j = n := by omega
      have i1 : ¬ ((j : Int) < (j : Int)) := by omega
      go_wp2_with fail
      go_ret
      exact ⟨rfl, RJ.out, BJ.out⟩
end Go.Proofs.YtdmldnlgamnkeaaGreat

namespace Go.Proofs.YtdmldnlgamnkeaaGreat
open Go.RowKit
set_option linter.unusedVariables false
def costL (z : Nat → Int) (n : Nat) : List Value := (List.range n).map fun i => .int .i64 (z i)
theorem costL_len (z : Nat → Int) (n : Nat) : (costL z n).length = n := by simp [costL]
theorem costL_one (z : Nat → Int) (n : Nat) : ∀ v ∈ costL z n, v.oneCell' = true := by
  intro v hv
  simp only [costL, List.mem_map] at hv
  obtain ⟨i, _, rfl⟩ := hv
  rfl
theorem costL_get {z : Nat → Int} {n j : Nat} {u : Value} (h : (costL z n)[j]? = some u) : j < n ∧ u = .int .i64 (z j) := by
  have hj := (List.getElem?_eq_some_iff.1 h).1
  rw [costL_len] at hj
  simp [costL, List.getElem?_range hj] at h
  exact ⟨hj, h.symm⟩
/-- The costs at h, as the cells of a slice. -/
theorem TabAt.cost {w : World} {g h : Nat} {l : List Nat} {k : Int} {z : Nat → Int} (H : TabAt w g h l k z) : ∀ j u, (costL z (prodL l))[j]? = some u → w.cell? ((⟨h, 0, none⟩ : Addr).add j) = some u := by
  intro j u hu
  obtain ⟨hj, rfl⟩ := costL_get hu
  obtain ⟨cur, hc, h1, h2⟩ := H.costs
  rw [show ((⟨h, 0, none⟩ : Addr).add j) = ⟨h, j, none⟩ by (simp [Addr.add]; omega), cell_of_row _ _ _ _ _ _ hc]
  exact h2 j hj
set_option maxRecDepth 100000 in
set_option maxHeartbeats 4000000 in
theorem clone64 (h n : Nat) (z : Nat → Int) (w : World) (hh : h < w.heap.size) (hn : n ≤ 1000000) (hc : ∀ j u, (costL z n)[j]? = some u → w.cell? ((⟨h, 0, none⟩ : Addr).add j) = some u) :
    Calls Tryz.prog 51 #[.slice (some ⟨h, 0, none⟩) n n] w fun e w' => (∃ v, e = .returned v ∧ w'.ownsRow w.heap.size 2 1 v n (costL z n)) ∧ Below w.heap.size w w' := by
  obtain ⟨i0, hi, hz0, hz1, hz2⟩ := info_parts info_i64
  have HI := Lib.hid hi
  have HZ0 := Lib.hid hz0
  have HZ1 := Lib.hid hz1
  have HZ2 := Lib.hid hz2
  have HN : Hid (∀ j u, (costL z n)[j]? = some u → (w.alloc (.cells #[] 2)).cell? ((⟨h, 0, none⟩ : Addr).add j) = some u) :=
    Lib.hid fun j u hu => ((new_val w (.cells #[] 2)).cell (p := (⟨h, 0, none⟩ : Addr).add j) (by rw [block_add]; exact hh)).trans (hc j u hu)
  have hq : ∀ W, (binOp .eql 27 (.slice (some ⟨h, 0, none⟩) n n) (.slice none 0 0)).run Tryz.prog W = .ok (.bool false) W := fun W => Lib.run_eql_slice_nil W 27 2 (some ⟨h, 0, none⟩) n n 0 0 Tryz.underlying27
  clear hc hi hz0 hz1 hz2
  go_enter Tryz.func51, Tryz.ntmps51
  go_wp2_with (at_builtin; refine wpList_append_own _ rfl (.tmp 5) (.tmp 6) 27 rfl w.heap.size 2 i0 (.int .i64 0) 1 8 Tryz.underlying27 HI.out HZ0.out HZ1.out HZ2.out rfl (by decide) (.slice (some ⟨w.heap.size, 0, none⟩) 0 0) 0 [] rfl (World.ownsRow_made w #[] 0 (Nat.le_refl _) (by simp [maxLen]) rfl) ⟨h, 0, none⟩ n n (costL z n) rfl (by rw [costL_len, Nat.mul_one]) HN.out (costL_one z n) (by unfold maxLen; omega) (by omega) (by simp) ?_; intro v' w1 h1 h2 _; have H1 := Lib.hid h1; have H2 := Lib.hid h2; clear h1 h2)
  go_ret
  refine ⟨⟨_, rfl, by have := H1.out; rwa [Nat.zero_add, List.nil_append] at this⟩, ?_⟩
  exact ((Below.refl _ _).alloc (Nat.le_refl _) _).grown H2.out (by simp) (fun k hk => by simp [Value.ownBlock] at hk; omega)
theorem entries_any (g h : Nat) (l : List Nat) (k : Int) (z : Nat → Int) (w : World) (H : TabAt w g h l k z) (hn : prodL l ≤ 1000000) :
    Calls Tryz.prog 25 #[.pointer (some ⟨g, 0, none⟩)] w fun e w' => (∃ v, e = .returned v ∧ w'.ownsRow w.heap.size 2 1 v (prodL l) (costL z (prodL l))) ∧ Below w.heap.size w w' := by
  obtain ⟨c0, c1, c2, c3, c4, c5, c6, c7, c8⟩ := H.cells
  have hh : h < w.heap.size := by obtain ⟨cur, hc, _⟩ := H.costs; exact (Array.getElem?_eq_some_iff.1 hc).1
  have HC := Lib.hid (clone64 h (prodL l) z w hh hn H.cost)
  clear H hh hn
  go_enter Tryz.func25, Tryz.ntmps25
  go_wp2_with (go_at_call 51; refine HC.out.mono ?_; rintro e w' ⟨⟨v, rfl, h1⟩, h2⟩; have H1 := Lib.hid h1; have H2 := Lib.hid h2; clear h1 h2)
  go_ret
  exact ⟨⟨_, rfl, H1.out⟩, H2.out⟩
end Go.Proofs.YtdmldnlgamnkeaaGreat
