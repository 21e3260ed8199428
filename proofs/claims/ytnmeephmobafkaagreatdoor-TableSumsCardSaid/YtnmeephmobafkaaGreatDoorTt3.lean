/- Contracts of slices.Index, picked and inverse (no statement of its own). No condition. -/
import Derived.Test.YtnmeephmobafkaaGreatDoorTt1
import Derived.Test.YtnmeephmobafkaaGreatDoorTt2
import Derived.Test.YtnmeephmobafkaaGreatDoorTbV
import Derived.Test.YtnmeephmobafkaaGreatDoorTbO
namespace Go.Proofs.YtnmeephmobafkaaGreatDoor
open Go.RowKit
set_option linter.unusedVariables false
theorem madeI (n : Nat) (hn : n ≤ 4096) (W : World) : (Instr.makeSlice 27 (.int .i64 (n : Int)) (.int .i64 (n : Int))).run Tryz.prog W = .ok (.slice (some ⟨W.heap.size, 0, none⟩) n n) (W.alloc (.cells (madeCells #[.int .i64 0] n) 3)) :=
  run_make_row' 27 3 (.int .i64 0) 8 Tryz.underlying27 info_int rfl .i64 .i64 n (by omega) (by omega) W
theorem rowIs_ints {w : World} {b n : Nat} {l : List Nat} {f : Nat → Value} (h : w.rowIs b 3 n f) (hn : l.length = n) (hf : ∀ i, i < n → f i = .int .i64 (nth l i : Int)) : Ints w (some ⟨b, 0, none⟩) l :=
  .inr ⟨b, 0, rfl, h.lt, fun i hi => by rw [Nat.zero_add, h.cell (by omega), hf i (by omega)]⟩
theorem rowIs_zs {w : World} {b n : Nat} {z : Nat → Int} {f : Nat → Value} (h : w.rowIs b 3 n f) (hf : ∀ i, i < n → f i = .int .i64 (z i)) : Zs w (some ⟨b, 0, none⟩) n z :=
  .inr ⟨b, 0, rfl, h.lt, fun i hi => by rw [Nat.zero_add, h.cell hi, hf i hi]⟩
set_option maxRecDepth 100000 in
theorem picked_any (A B : Option Addr) (n c m cb : Nat) (l s : List Nat) (w : World) (hn : l.length = n) (hm : s.length = m) (hl : Ints w A l) (hs : Ints w B s) (hr : ∀ i, i < m → nth s i < n) (hm4 : m ≤ 4096) :
    Calls Tryz.prog 43 #[.slice A n c, .slice B m cb] w fun e w' => e = .returned (.slice (some ⟨w.heap.size, 0, none⟩) m m) ∧ Ints w' (some ⟨w.heap.size, 0, none⟩) (pickL l s) ∧ Below w.heap.size w w' := by
  have HLN := Lib.hid hn
  have HSM := Lib.hid hm
  have HL := Lib.hid hl
  have HS := Lib.hid hs
  have HR := Lib.hid hr
  have hmk := madeI m hm4
  have R1 := Lib.hid (World.rowIs_made w (.int .i64 0) m 3)
  have B1 := Lib.hid (new_val w (.cells (madeCells #[.int .i64 0] m) 3))
  clear hn hm hl hs hr
  go_enter Tryz.func43, Tryz.ntmps43
  go_upto_region 3 with fail
  generalize w.alloc (.cells (madeCells #[.int .i64 0] m) 3) = w1 at R1 B1 ⊢
  clear hmk
  go_loopw [13] (fun i wr => ∃ j : Nat, j ≤ m ∧ i = .int .i64 (j : Int) ∧ wr.rowIs w.heap.size 3 m (fun i => .int .i64 (if i < j then (nth (pickL l s) i : Int) else 0)) ∧ Below w.heap.size w wr) (fun i _ => m - (intOf i).toNat)
  case atStart => exact ⟨0, Nat.zero_le _, rfl, R1.out.congr fun i _ => by simp, B1.out⟩
  case round =>
    obtain ⟨j, hj, rfl, hrow, hb⟩ := hrel
    have HRW := Lib.hid hrow
    have HB := Lib.hid hb
    clear hrow hb
    by_cases hlt : j < m
    · obtain ⟨gs, os, rfl, hcs⟩ := (HS.out.below HB.out (Nat.le_refl _)).at_ (i := j) (by rw [HSM.out]; exact hlt)
      have hrj := HR.out j hlt
      have hpk : nth (pickL l s) j = nth l (nth s j) := pickL_nth (by rw [HSM.out]; exact hlt)
      have HPK := Lib.hid hpk
      generalize nth s j = v at hcs hrj HPK
      obtain ⟨gl, ol, rfl, hcl⟩ := (HL.out.below HB.out (Nat.le_refl _)).at_ (i := v) (by rw [HLN.out]; exact hrj)
      generalize nth l v = x at hcl HPK
      have kc := HRW.out.cell hlt
      have kf := HRW.out.frozen j
      have i1 : (j : Int) < (m : Int) := by omega
      have i2 : (0 : Int) ≤ (j : Int) := by omega
      have i3 : (v : Int) < (n : Int) := by omega
      have i4 : (0 : Int) ≤ (v : Int) := by omega
      have HN : Hid ((wr.setCell ⟨w.heap.size, j, none⟩ (.int .i64 (x : Int))).rowIs w.heap.size 3 m (fun i => .int .i64 (if i < j + 1 then (nth (pickL l s) i : Int) else 0))) := Lib.hid ((HRW.out.set j (.int .i64 (x : Int))).congr fun i hi => by
        show (if i = j then _ else _) = _
        by_cases e : i = j
        · subst e; rw [if_pos rfl, if_pos (by omega), HPK.out]
        · rw [if_neg e]
          by_cases e2 : i < j
          · rw [if_pos e2, if_pos (by omega)]
          · rw [if_neg e2, if_neg (by omega)])
      have BN := Lib.hid (HB.out.setCell (p := ⟨w.heap.size, j, none⟩) (Nat.le_refl _) (.int .i64 (x : Int)))
      clear hpk
      go_wp2_with fail
      go_roundw
      case rel => exact ⟨j + 1, by omega, by go_num, HN.out, BN.out⟩
      case measure => simp [intOf]; omega
    · have i1 : ¬ (j : Int) < (m : Int) := by omega
      go_wp2_with fail
      go_ret
      obtain rfl : j = m := by omega
      exact ⟨rfl, rowIs_ints HRW.out (by rw [pickL_len, HSM.out]) (fun i hi => by rw [if_pos hi]), HB.out⟩
end Go.Proofs.YtnmeephmobafkaaGreatDoor
