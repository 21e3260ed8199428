/- Contract of table.inverse (no statement of its own). No condition. -/
import Derived.Test.YtnmeephmobafkaaGreatDoorTt3
namespace Go.Proofs.YtnmeephmobafkaaGreatDoor
open Go.RowKit
set_option linter.unusedVariables false
theorem repI_row {W : World} {h n : Nat} {x : Int} (H : RepAtI W h x n n) : W.rowIs h 3 n (fun _ => .int .i64 x) := by
  refine ⟨_, H, by simp [RepL], fun i hi => ?_⟩
  simp [RepL, hi]
/-- What inverse answers: of the first b numbers all are places, each once; the next one isn't, or there is none. -/
def InvPost (w : World) (o : Nat → Int) (n b : Nat) (e : Ending) (w' : World) : Prop :=
  (b = n → ∃ h, e = .returned (.tuple #[.slice (some ⟨h, 0, none⟩) n n, .bool true]) ∧ Zs w' (some ⟨h, 0, none⟩) n (fun v => invF o n v)) ∧ (b < n → e = .returned (.tuple #[.slice none 0 0, .bool false])) ∧ Below w.heap.size w w'
theorem inverse_len (A : Option Addr) (n c N : Nat) (w : World) (h : n ≠ N) :
    Calls Tryz.prog 56 #[.slice A n c, .int .i64 (N : Int)] w fun e w' => e = .returned (.tuple #[.slice none 0 0, .bool false]) ∧ w = w' := by
  have d : ((n : Int) != (N : Int)) = true := by rw [bne_iff_ne]; omega
  go_enter Tryz.func56, Tryz.ntmps56
  go_wp2_with fail
  go_ret2
  exact ⟨rfl, rfl⟩
set_option maxRecDepth 100000 in
set_option maxHeartbeats 4000000 in
theorem inverse_any (A : Option Addr) (n c b : Nat) (o : Nat → Int) (w : World) (hn : n ≤ 6) (hw : Zs w A n o) (hbn : b ≤ n) (hG : OrdB o n b) (hB : b < n → o b < 0 ∨ (n : Int) ≤ o b ∨ ∃ i, i < b ∧ o i = o b) :
    Calls Tryz.prog 56 #[.slice A n c, .int .i64 (n : Int)] w (InvPost w o n b) := by
  have HW := Lib.hid hw
  have HG := Lib.hid hG
  have HB := Lib.hid hB
  clear hw hG hB
  have d : ((n : Int) != (n : Int)) = false := by simp
  have n1 := new_val w (.cells #[.int .i64 (-1)] 3)
  have HR := Lib.hid (repeat_anyI w.heap.size 1 n (-1) (w.alloc (.cells #[.int .i64 (-1)] 3)) (lit_new w _ _) (by simp) (by omega))
  have B1 := Lib.hid n1
  clear n1
  go_enter Tryz.func56, Tryz.ntmps56
  go_wp2_with fail
  refine HR.out.mono ?_
  rintro e w2 ⟨rfl, hrep, hb2⟩
  have B2 := Lib.hid (then_ B1.out hb2)
  have R2 := Lib.hid (repI_row hrep)
  have hz : w.heap.size ≤ (w.alloc (.cells #[.int .i64 (-1)] 3)).heap.size := B1.out.size
  clear hrep hb2 HR B1
  generalize (w.alloc (.cells #[.int .i64 (-1)] 3)).heap.size = h at R2 hz ⊢
  go_upto_region 5 with fail
  go_loopw [18] (fun i wr => ∃ j : Nat, j ≤ b ∧ i = .int .i64 (j : Int) ∧ wr.rowIs h 3 n (fun v => .int .i64 (invF o j v)) ∧ Below w.heap.size w wr) (fun i _ => n - (intOf i).toNat)
  case atStart => exact ⟨0, Nat.zero_le _, rfl, R2.out, B2.out⟩
  case round =>
    obtain ⟨j, hj, rfl, hrow, hb⟩ := hrel
    have HRW := Lib.hid hrow
    have HBL := Lib.hid hb
    clear hrow hb
    by_cases hlt : j < n
    · obtain ⟨g, os, rfl, hcs⟩ := (HW.out.below HBL.out (Nat.le_refl _)).at_ hlt
      have i1 : (j : Int) < (n : Int) := by omega
      have i2 : (0 : Int) ≤ (j : Int) := by omega
      by_cases hjb : j < b
      · obtain ⟨g0, g1, g2⟩ := HG.out j hjb
        obtain ⟨v, hv⟩ : ∃ v : Nat, o j = (v : Int) := ⟨(o j).toNat, by omega⟩
        have hvn : v < n := by omega
        have HV := Lib.hid hv
        have kc := HRW.out.cell hvn
        rw [invF_neg o v j (fun i hi => by rw [← hv]; exact g2 i hi)] at kc
        have kf := HRW.out.frozen v
        rw [hv] at hcs
        have HN : Hid ((wr.setCell ⟨h, v, none⟩ (.int .i64 (j : Int))).rowIs h 3 n (fun v => .int .i64 (invF o (j + 1) v))) := Lib.hid ((HRW.out.set v (.int .i64 (j : Int))).congr fun i hi => by
          show (if i = v then _ else _) = Value.int .i64 (if o j = (i : Int) then (j : Int) else invF o j i)
          by_cases e : i = v
          · subst e; rw [if_pos rfl, if_pos HV.out]
          · rw [if_neg e, if_neg (by rw [HV.out]; omega)])
        have BN := Lib.hid (HBL.out.setCell (p := ⟨h, v, none⟩) hz (.int .i64 (j : Int)))
        have d1 : decide ((v : Int) < 0) = false := by simp
        have d2 : decide (n ≤ v) = false := by simp; omega
        have d3 : decide ((n : Int) ≤ (v : Int)) = false := by simp; omega
        have d4 : (v : Int) < (n : Int) := by omega
        have d5 : (0 : Int) ≤ (v : Int) := by omega
        clear g0 g1 g2 hv
        go_wp2_with fail
        go_roundw
        case rel => exact ⟨j + 1, by omega, by go_num, HN.out, BN.out⟩
        case measure => simp [intOf]; omega
      · obtain rfl : b = j := by omega
        obtain ⟨y, hy⟩ : ∃ y, o b = y := ⟨_, rfl⟩
        have hbad := HB.out hlt
        rw [hy] at hcs hbad
        have fin : ∀ W, Below w.heap.size w W → InvPost w o n b (.returned (.tuple #[.slice none 0 0, .bool false])) W := fun W hW => ⟨fun e => by omega, fun _ => rfl, hW⟩
        have FIN := Lib.hid fin
        have HY := Lib.hid hy
        clear fin hy hjb
        by_cases h0 : y < 0
        · clear hbad
          go_wp2_with fail
          go_ret2
          exact FIN.out _ HBL.out
        · by_cases h1 : (n : Int) ≤ y
          · have d1 : decide (y < 0) = false := by simpa using h0
            have d2 : decide ((n : Int) ≤ y) = true := by simpa using h1
            clear hbad
            go_wp2_with fail
            go_ret2
            exact FIN.out _ HBL.out
          · have hex : ∃ i, i < b ∧ o i = y := by rcases hbad with h | h | h; exact absurd h h0; exact absurd h h1; exact h
            obtain ⟨v, hv⟩ : ∃ v : Nat, y = (v : Int) := ⟨y.toNat, by omega⟩
            subst hv
            have hvn : v < n := by omega
            have kc := HRW.out.cell hvn
            obtain ⟨i, hi, hiv⟩ := hex
            have hq := invF_pos (j := b) hi hiv
            generalize invF o b v = q at kc hq
            have d1 : decide ((v : Int) < 0) = false := by simp
            have d2 : decide (n ≤ v) = false := by simp; omega
            have d3 : decide ((n : Int) ≤ (v : Int)) = false := by simp; omega
            have d4 : (v : Int) < (n : Int) := by omega
            have d5 : (0 : Int) ≤ (v : Int) := by omega
            have d6 : decide (0 ≤ q) = true := by simpa using hq
            clear hbad hiv h0 h1
            go_wp2_with fail
            go_ret2
            exact FIN.out _ HBL.out
    · have i1 : ¬ (j : Int) < (n : Int) := by omega
      have hbj : b = j := by omega
      have hjn : j = n := by omega
      subst hbj
      subst hjn
      have FIN : Hid (∀ W, Below w.heap.size w W → W.rowIs h 3 b (fun v => .int .i64 (invF o b v)) → InvPost w o b b (.returned (.tuple #[.slice (some ⟨h, 0, none⟩) b b, .bool true])) W) := Lib.hid fun W hW hr => ⟨fun _ => ⟨h, rfl, rowIs_zs hr (fun i _ => rfl)⟩, fun h => by omega, hW⟩
      go_wp2_with fail
      go_ret2
      exact FIN.out _ HBL.out HRW.out
end Go.Proofs.YtnmeephmobafkaaGreatDoor
