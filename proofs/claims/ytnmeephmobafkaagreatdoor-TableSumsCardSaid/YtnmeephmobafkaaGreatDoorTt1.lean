/- Contract of slices.Repeat of one number (no statement of its own). Condition: bits.Mul's contract at 1 and n. -/
import Derived.Test.YtnmeephmobafkaaGreatDoorTb2
import Derived.Test.YtnmeephmobafkaaGreatDoorTbN
namespace Go.Proofs.YtnmeephmobafkaaGreatDoor
open Go.RowKit
set_option linter.unusedVariables false
def RepAtI (W : World) (h : Nat) (x : Int) (j n : Nat) : Prop := W.heap[h]? = some (.cells (RepL x j n).toArray 3 (0, 0))
set_option maxRecDepth 100000 in
set_option maxHeartbeats 4000000 in
theorem repeat_oneI (g c n : Nat) (x : Int) (w : World) (hc : w.cell? ⟨g, 0, none⟩ = some (.int .i64 x)) (hg : g < w.heap.size) (hn1 : 1 ≤ n) (hn : n ≤ 4096)
    (hM : ∀ W, Calls Tryz.prog 77 #[.int .u64 1, .int .u64 (n : Int)] W fun e w' => e = .returned (.tuple #[.int .u64 0, .int .u64 (n : Int)]) ∧ W = w') :
    Calls Tryz.prog 79 #[.slice (some ⟨g, 0, none⟩) 1 c, .int .i64 (n : Int)] w fun e w' => e = .returned (.slice (some ⟨w.heap.size, 0, none⟩) n n) ∧ RepAtI w' w.heap.size x n n ∧ Below w.heap.size w w' := by
  have HM := Lib.hid hM
  have hm : ∀ W, (Instr.makeSlice 27 (.int .i64 (n : Int)) (.int .i64 (n : Int))).run Tryz.prog W = .ok (.slice (some ⟨W.heap.size, 0, none⟩) n n) (W.alloc (.cells (madeCells #[.int .i64 0] n) 3)) :=
    fun W => run_make_row' 27 3 (.int .i64 0) 8 Tryz.underlying27 info_int rfl .i64 .i64 n (by omega) (by omega) W
  have hc1 : (w.alloc (.cells (RepL 0 0 n).toArray 3)).cell? ⟨g, 0, none⟩ = some (.int .i64 x) := ((new_val w (.cells (RepL 0 0 n).toArray 3)).cell (p := ⟨g, 0, none⟩) hg).trans hc
  have hrow := heap_alloc_new w (.cells (RepL 0 0 n).toArray 3)
  have hnew := new_val w (.cells (RepL 0 0 n).toArray 3)
  rw [made_list] at hm
  have HROW := Lib.hid hrow
  have HNEW := Lib.hid hnew
  have HC1 := Lib.hid hc1
  have e1 : IntKind.u64.wrap (n : Int) = (n : Int) := by show (n : Int) % 18446744073709551616 = _; omega
  have e2 : IntKind.i64.wrap (n : Int) = (n : Int) := IntWalk.i64_in _ (by omega)
  clear hM hrow hnew hc1 hc
  have hsz : (Tryz.prog.info? 3).map (·.size) = some 1 := by kernel_rfl
  go_enter Tryz.func79, Tryz.ntmps79
  go_upto_region 7 with (go_at_call 77; refine (HM.out _).mono ?_; rintro e w' ⟨rfl, rfl⟩)
  go_wp2_with (refine wpList_copy_splice rfl (.tmp 31) (.tmp 32) 27 27 rfl 3 Tryz.underlying27 hsz (some ⟨w.heap.size, 0, none⟩) (some ⟨g, 0, none⟩) n n 1 c rfl rfl w.heap.size 0 (RepL 0 0 n) 3 HROW.out (List.replicate 1 (.int .i64 x)) (by show 1 = min 1 n; omega) (fun _ => ⟨rfl, _, rfl, fun j v hj => by rcases j with _ | j; (simp at hj; subst hj; exact HC1.out); simp at hj⟩) (by rw [rep_len _ _ _ (Nat.zero_le _)]; simp; omega) (fun v hv => by simp at hv; subst hv; rfl) w.heap.size w HNEW.out (Nat.le_refl _) ?_; intro w1 hr1 hb1; have R1 : Hid (RepAtI w1 w.heap.size x 1 n) := Lib.hid (by have h := hr1.out; rw [show RepL 0 0 n = RepL x 0 n from rfl, rep_splice x 0 1 n (by omega)] at h; exact h); have B1 := Lib.hid hb1; clear hr1 hb1)
  go_loopw [8] (fun i wr => ∃ j : Nat, 1 ≤ j ∧ j ≤ n ∧ i = .int .i64 (j : Int) ∧ RepAtI wr w.heap.size x j n ∧ Below w.heap.size w wr) (fun i _ => n - (intOf i).toNat)
  case atStart => exact ⟨1, Nat.le_refl _, hn1, rfl, R1.out, B1.out⟩
  case round =>
    obtain ⟨j, hj1, hj, rfl, hr, hb⟩ := hrel
    have RJ := Lib.hid hr
    have BJ := Lib.hid hb
    clear hr hb
    by_cases hlt : j < n
    · have i1 : (j : Int) < (n : Int) := by omega
      have HCELL : Hid (∀ i v, (List.replicate (min j (n - j)) (Value.int .i64 x))[i]? = some v → wr.cell? ((⟨w.heap.size, 0, none⟩ : Addr).add i) = some v) := by
        refine Lib.hid fun i v hi => ?_
        have hl := (List.getElem?_eq_some_iff.1 hi).1
        rw [List.length_replicate] at hl
        rw [List.getElem?_replicate, if_pos hl] at hi
        obtain rfl := Option.some.inj hi
        rw [show ((⟨w.heap.size, 0, none⟩ : Addr).add i) = ⟨w.heap.size, i, none⟩ by (simp [Addr.add]; omega), cell_of_row _ _ _ _ _ _ RJ.out]
        simp only [RepL, List.getElem?_toArray]
        rw [List.getElem?_append_left (by rw [List.length_replicate]; omega), List.getElem?_replicate, if_pos (by omega)]
      have hN : Hid ((List.replicate (min j (n - j)) (Value.int .i64 x)).length = Nat.min j (n - j)) := Lib.hid (by rw [List.length_replicate])
      have hF : Hid (j + (List.replicate (min j (n - j)) (Value.int .i64 x)).length ≤ (RepL x j n).length) := Lib.hid (by rw [rep_len _ _ _ hj, List.length_replicate]; omega)
      have hO : Hid (∀ v ∈ List.replicate (min j (n - j)) (Value.int .i64 x), v.oneCell' = true) := Lib.hid (fun v hv => by obtain ⟨_, rfl⟩ := List.mem_replicate.1 hv; rfl)
      have i2 : (0 : Int) ≤ (j : Int) := by omega
      have hnj : ¬ n = j := by omega
      have i3 : (j : Int) ≤ (n : Int) := by omega
      go_wp2_with fail
      go_region_law (refine step_copy_splice rfl (.tmp 41) (.tmp 44) 27 27 rfl 3 Tryz.underlying27 hsz (some ⟨w.heap.size, j, none⟩) (some ⟨w.heap.size, 0, none⟩) (n - j) (n - j) j n (by simp [Act.eval, Act.put]) (by simp [Act.eval, Act.put]) w.heap.size j (RepL x j n) 3 RJ.out (List.replicate (min j (n - j)) (.int .i64 x)) hN.out (fun _ => ⟨rfl, _, rfl, HCELL.out⟩) hF.out hO.out w.heap.size w (by first | exact BJ.out.drew | exact next_drewN BJ.out _ | exact BJ.out) (Nat.le_refl _) ?_; intro w2 hr2 hb2; have R2 : Hid (RepAtI w2 w.heap.size x (j + min j (n - j)) n) := Lib.hid (by have h := hr2.out; rw [rep_splice x j _ n (by omega)] at h; exact h); have B2 := Lib.hid hb2; clear hr2 hb2)
      all_goals
        obtain ⟨M, hM⟩ : ∃ M, min j (n - j) = M := ⟨_, rfl⟩
        rw [hM] at R2
        simp [Act.put, hM]
        have i4 : IntKind.i64.wrap ((j : Int) + (M : Int)) = (j : Int) + (M : Int) := IntWalk.i64_in _ (by omega)
        go_wp2_with fail
        go_roundw
        case rel => exact ⟨j + M, by omega, by omega, by go_num, R2.out, B2.out⟩
        case measure => simp [intOf]; omega
    · obtain rfl : j = n := by omega
      have i1 : ¬ ((j : Int) < (j : Int)) := by omega
      go_wp2_with fail
      go_ret
      exact ⟨rfl, RJ.out, BJ.out⟩
set_option maxRecDepth 100000 in
set_option maxHeartbeats 4000000 in
theorem repeat_zeroI (g c : Nat) (x : Int) (w : World) (hc : w.cell? ⟨g, 0, none⟩ = some (.int .i64 x)) (hg : g < w.heap.size) :
    Calls Tryz.prog 79 #[.slice (some ⟨g, 0, none⟩) 1 c, .int .i64 0] w fun e w' => e = .returned (.slice (some ⟨w.heap.size, 0, none⟩) 0 0) ∧ RepAtI w' w.heap.size x 0 0 ∧ Below w.heap.size w w' := by
  have HM : ∀ W, Calls Tryz.prog 77 #[.int .u64 1, .int .u64 0] W fun e w' => e = .returned (.tuple #[.int .u64 0, .int .u64 0]) ∧ W = w' := fun W => mul_one' 0 (by omega) W
  have HMM := Lib.hid HM
  have hm : ∀ W, (Instr.makeSlice 27 (.int .i64 0) (.int .i64 0)).run Tryz.prog W = .ok (.slice (some ⟨W.heap.size, 0, none⟩) 0 0) (W.alloc (.cells (madeCells #[.int .i64 0] 0) 3)) :=
    fun W => run_make_row' 27 3 (.int .i64 0) 8 Tryz.underlying27 info_int rfl .i64 .i64 0 (by omega) (by omega) W
  have hc1 : (w.alloc (.cells (RepL 0 0 0).toArray 3)).cell? ⟨g, 0, none⟩ = some (.int .i64 x) := ((new_val w (.cells (RepL 0 0 0).toArray 3)).cell (p := ⟨g, 0, none⟩) hg).trans hc
  have hrow := heap_alloc_new w (.cells (RepL 0 0 0).toArray 3)
  have hnew := new_val w (.cells (RepL 0 0 0).toArray 3)
  rw [made_list] at hm
  have HROW := Lib.hid hrow
  have HNEW := Lib.hid hnew
  have HC1 := Lib.hid hc1
  clear HM hrow hnew hc1 hc
  have hsz : (Tryz.prog.info? 3).map (·.size) = some 1 := by kernel_rfl
  go_enter Tryz.func79, Tryz.ntmps79
  go_upto_region 7 with (go_at_call 77; refine (HMM.out _).mono ?_; rintro e w' ⟨rfl, rfl⟩)
  go_wp2_with (refine wpList_copy_splice rfl (.tmp 31) (.tmp 32) 27 27 rfl 3 Tryz.underlying27 hsz (some ⟨w.heap.size, 0, none⟩) (some ⟨g, 0, none⟩) 0 0 1 c rfl rfl w.heap.size 0 (RepL 0 0 0) 3 HROW.out [] rfl (fun h => absurd h (by simp)) (by simp [RepL]) (fun v hv => by simp at hv) w.heap.size w HNEW.out (Nat.le_refl _) ?_; intro w1 hr1 hb1; have R1 : Hid (RepAtI w1 w.heap.size x 0 0) := Lib.hid (by have h := hr1.out; exact h); have B1 := Lib.hid hb1; clear hr1 hb1)
  go_loopw [8] (fun i wr => i = .int .i64 0 ∧ RepAtI wr w.heap.size x 0 0 ∧ Below w.heap.size w wr) (fun _ _ => 0)
  case atStart => exact ⟨rfl, R1.out, B1.out⟩
  case round =>
    obtain ⟨rfl, hr, hb⟩ := hrel
    have RJ := Lib.hid hr
    have BJ := Lib.hid hb
    clear hr hb
    go_wp2_with fail
    go_ret
    exact ⟨rfl, RJ.out, BJ.out⟩
theorem repeat_anyI (g c n : Nat) (x : Int) (w : World) (hc : w.cell? ⟨g, 0, none⟩ = some (.int .i64 x)) (hg : g < w.heap.size) (hn : n ≤ 4096) :
    Calls Tryz.prog 79 #[.slice (some ⟨g, 0, none⟩) 1 c, .int .i64 (n : Int)] w fun e w' => e = .returned (.slice (some ⟨w.heap.size, 0, none⟩) n n) ∧ RepAtI w' w.heap.size x n n ∧ Below w.heap.size w w' := by
  by_cases h : n = 0
  · subst h
    exact repeat_zeroI g c x w hc hg
  · exact repeat_oneI g c n x w hc hg (by omega) hn (fun W => mul_one' n hn W)
end Go.Proofs.YtnmeephmobafkaaGreatDoor
