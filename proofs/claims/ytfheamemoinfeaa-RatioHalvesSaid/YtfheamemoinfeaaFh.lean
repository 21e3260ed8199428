/- RatioHalves: the walk (no statement of its own). -/
import Derived.Test.YtfheamemoinfeaaFe
namespace Go.Proofs.Ytfheamemoinfeaa
open Go.RowKit
open RtA
set_option linter.unusedVariables false
theorem quo_bits {a w : Nat} (h : a < 65536) (hw : 0 < w) (hi : w < 9218868437227405312) : floatBits .quo .f64 (floatOfInt .f64 (a : Int)) w = some (quoW a w) := by
  have e : floatOfInt .f64 (a : Int) = Ieee.double.write (.number false a 0) := by
    unfold floatOfInt FloatKind.nearest FloatKind.encode
    have h1 : decide ((a : Int) < 0) = false := by simp
    rw [h1]
    rfl
  rw [e]
  exact quoW_eq (by omega) hw hi
theorem ratio_q (a w : Nat) (h : a < 65536) (hw : 0 < w) (hi : w < 9218868437227405312) (W : World) : Calls Try.prog 14 #[.int .i64 (a : Int), .float .f64 w] W fun e W' => e = .returned (.float .f64 (quoW a w)) ∧ W = W' := by
  have h1 := fun W => run_float_arith (P := Try.prog) W .quo 24 .f64 _ _ _ (quo_bits h hw hi)
  generalize quoW a w = r at *
  go_enter Try.func14, Try.ntmps14
  go_wp2
  go_ret
  exact ⟨rfl, rfl⟩
theorem kx_quo (a w : Nat) : kx (quoW a w) = (quoW a w : Nat) := by
  have := quoW_le a w
  rw [kx_num (nan_pos this), key_pos (by omega)]
theorem cm_quo {a b w v : Nat} (h : quoW a w ≤ quoW b v) : cm (quoW a w) (quoW b v) ≤ 0 ∧ 0 ≤ cm (quoW b v) (quoW a w) := by
  have e1 := kx_quo a w
  have e2 := kx_quo b v
  unfold cm
  constructor
  · split
    · omega
    · rw [if_neg (by omega)]; omega
  · rw [if_neg (by omega)]; split <;> omega
theorem quo_size {a b w : Nat} (hb : b < 65536) (hw : 0 < w) (h : a ≤ b) : quoW a w ≤ quoW b w :=
  quoW_mono (by omega) (by omega) hw hw (Nat.mul_le_mul_right _ h)
theorem quo_weight {a w v : Nat} (ha : a < 65536) (hw : 0 < w) (hv : 0 < v) (h : v ≤ w) : quoW a w ≤ quoW a v := by
  refine quoW_mono (by omega) (by omega) hw hv (Nat.mul_le_mul_left _ ?_)
  rcases Nat.lt_or_ge v w with h3 | h3
  · exact Nat.le_of_lt (sc_lt h3)
  · have : v = w := by omega
    rw [this]; exact Nat.le_refl _
theorem cm_refl (x : Nat) : cm x x = 0 := by unfold cm; rw [if_neg (by omega), if_neg (by omega)]
theorem nan_small {w : Nat} (h : w < 9223372036854775808) (hn : nan w = false) : w ≤ 9218868437227405312 := by
  unfold nan at hn
  rw [Nat.mod_eq_of_lt (by omega)] at hn
  simpa using hn
theorem ord_pos {w v : Nat} (hw : w < 9218868437227405312) (hv : v < 9218868437227405312) :
    (FloatKind.f64.format.order w v == some .gt) = decide (v < w) ∧ (FloatKind.f64.format.order w v == some .eq) = decide (w = v) ∧ (FloatKind.f64.format.order w v == some .lt) = decide (w < v) := by
  rw [gt_order, eq_order, lt_order, nan_pos (by omega), nan_pos (by omega), key_pos (by omega), key_pos (by omega)]
  simp
  omega
/-- The law behind its conditions. -/
def GoodW (w : Nat) : Prop := 0 < w ∧ w < 9218868437227405312
theorem good_of {w : Nat} (h : w < 9223372036854775808) (h1 : nan w = false) (h2 : ¬ key w = 0) (h3 : isInf w = false) : GoodW w := by
  have h4 := nan_small h h1
  rw [key_pos h] at h2
  unfold isInf absF at h3
  rw [Nat.mod_eq_of_lt h] at h3
  simp at h3
  exact ⟨by omega, by omega⟩
theorem abs_abs (w : Nat) : absF (absF w) = absF w := Nat.mod_eq_of_lt (absF_lt w)
set_option maxRecDepth 100000 in
set_option maxHeartbeats 2000000 in
theorem halves_good (a b w v wa va : Nat) (ha : a < 65536) (hb : b < 65536) (hwa : wa < 18446744073709551616) (hva : va < 18446744073709551616) (ew : absF wa = w) (ev : absF va = v) (hw : GoodW w) (hv : GoodW v) (W : World) :
    Calls Try.prog 8 #[.int .u16 (a : Int), .int .u16 (b : Int), .float .f64 wa, .float .f64 va] W fun e W' => e = .returned (.bool true) ∧ Below W.heap.size W W' := by
  have AW := Lib.hid (abs_any wa hwa)
  have AV := Lib.hid (abs_any va hva)
  rw [ew] at AW
  rw [ev] at AV
  have IW := Lib.hid (isinf_any w (by have := hw.2; omega))
  have IV := Lib.hid (isinf_any v (by have := hv.2; omega))
  have e1 : isInf w = false := by unfold isInf; rw [← ew, abs_abs, ew]; simp; have := hw.2; omega
  have e2 : isInf v = false := by unfold isInf; rw [← ev, abs_abs, ev]; simp; have := hv.2; omega
  rw [e1] at IW
  rw [e2] at IV
  have n1 := ne_self w
  have n2 := ne_self v
  rw [nan_pos (by have := hw.2; omega)] at n1
  rw [nan_pos (by have := hv.2; omega)] at n2
  have z1 := (ord_pos (w := w) (v := 0) hw.2 (by omega)).2.1
  have z2 := (ord_pos (w := v) (v := 0) hv.2 (by omega)).2.1
  rw [decide_eq_false (by have := hw.1; omega)] at z1
  rw [decide_eq_false (by have := hv.1; omega)] at z2
  have R1 := Lib.hid (ratio_q a w ha hw.1 hw.2)
  have R2 := Lib.hid (ratio_q b w hb hw.1 hw.2)
  have R3 := Lib.hid (ratio_q a v ha hv.1 hv.2)
  have CC := Lib.hid fcmp_any
  obtain ⟨o1, o2, o3⟩ := ord_pos hw.2 hv.2
  have HQ : Hid ((a ≤ b → cm (quoW a w) (quoW b w) ≤ 0) ∧ (b ≤ a → 0 ≤ cm (quoW a w) (quoW b w)) ∧ (v ≤ w → cm (quoW a w) (quoW a v) ≤ 0) ∧ (w ≤ v → 0 ≤ cm (quoW a w) (quoW a v))) :=
    Lib.hid ⟨fun h => (cm_quo (quo_size hb hw.1 h)).1, fun h => (cm_quo (quo_size ha hw.1 h)).2, fun h => (cm_quo (quo_weight ha hw.1 hv.1 h)).1, fun h => (cm_quo (quo_weight ha hv.1 hw.1 h)).2⟩
  have C1 := Lib.hid (fcmp_any (quoW a w) (quoW b w))
  have C2 := Lib.hid (fcmp_any (quoW a w) (quoW a v))
  generalize cm (quoW a w) (quoW b w) = c1 at *
  generalize cm (quoW a w) (quoW a v) = c2 at *
  generalize quoW a w = x at *
  generalize quoW b w = y at *
  generalize quoW a v = z at *
  clear e1 e2 ew ev hwa hva
  have HW := Lib.hid hw
  have HV := Lib.hid hv
  clear hw hv
  have AA := Lib.hid awake_any
  have q1 : (a : Int) < b → c1 ≤ 0 := fun h => HQ.out.1 (by omega)
  have q2 : (b : Int) < a → 0 ≤ c1 := fun h => HQ.out.2.1 (by omega)
  have q3 : (a : Int) = b → c1 = 0 := fun h => by have := HQ.out.1 (by omega); have := HQ.out.2.1 (by omega); omega
  have Q1 := Lib.hid q1
  have Q2 := Lib.hid q2
  have Q3 := Lib.hid q3
  clear q1 q2 q3
  rcases Int.lt_trichotomy (a : Int) b with h | h | h
  · have hc := Q1.out h
    rcases Nat.lt_trichotomy w v with g | g | g
    · have hd := HQ.out.2.2.2 (by omega)
      rw [decide_eq_false (by omega)] at o1 o2
      rw [decide_eq_true g] at o3
      clear g
      go_enter Try.func8, Try.ntmps8
      go_wp2_with (first | (go_at_call 9; refine (AA.out _).mono ?_; rintro e w1 ⟨rfl, hg1⟩; have B1 := Lib.hid (below_of_grown hg1); clear hg1) | (go_at_call 25; first | ((with_reducible refine (AW.out _).mono ?_); rintro e w' ⟨rfl, rfl⟩) | ((with_reducible refine (AV.out _).mono ?_); rintro e w' ⟨rfl, rfl⟩)) | (go_at_call 15; first | ((with_reducible refine (IW.out _).mono ?_); rintro e w' ⟨rfl, rfl⟩) | ((with_reducible refine (IV.out _).mono ?_); rintro e w' ⟨rfl, rfl⟩)) | (go_at_call 14; first | ((with_reducible refine (R1.out _).mono ?_); rintro e w' ⟨rfl, rfl⟩) | ((with_reducible refine (R2.out _).mono ?_); rintro e w' ⟨rfl, rfl⟩) | ((with_reducible refine (R3.out _).mono ?_); rintro e w' ⟨rfl, rfl⟩)) | (go_at_call 11; first | ((with_reducible refine (C1.out _).mono ?_); rintro e w' ⟨rfl, rfl⟩) | ((with_reducible refine (C2.out _).mono ?_); rintro e w' ⟨rfl, rfl⟩)))
      go_ret
      exact ⟨sret_bool (by first | rfl | (simp; omega)), B1.out⟩
    · have hd := HQ.out.2.2.2 (by omega)
      have hd2 := HQ.out.2.2.1 (by omega)
      rw [decide_eq_false (by omega)] at o1 o3
      rw [decide_eq_true g] at o2
      clear g
      go_enter Try.func8, Try.ntmps8
      go_wp2_with (first | (go_at_call 9; refine (AA.out _).mono ?_; rintro e w1 ⟨rfl, hg1⟩; have B1 := Lib.hid (below_of_grown hg1); clear hg1) | (go_at_call 25; first | ((with_reducible refine (AW.out _).mono ?_); rintro e w' ⟨rfl, rfl⟩) | ((with_reducible refine (AV.out _).mono ?_); rintro e w' ⟨rfl, rfl⟩)) | (go_at_call 15; first | ((with_reducible refine (IW.out _).mono ?_); rintro e w' ⟨rfl, rfl⟩) | ((with_reducible refine (IV.out _).mono ?_); rintro e w' ⟨rfl, rfl⟩)) | (go_at_call 14; first | ((with_reducible refine (R1.out _).mono ?_); rintro e w' ⟨rfl, rfl⟩) | ((with_reducible refine (R2.out _).mono ?_); rintro e w' ⟨rfl, rfl⟩) | ((with_reducible refine (R3.out _).mono ?_); rintro e w' ⟨rfl, rfl⟩)) | (go_at_call 11; first | ((with_reducible refine (C1.out _).mono ?_); rintro e w' ⟨rfl, rfl⟩) | ((with_reducible refine (C2.out _).mono ?_); rintro e w' ⟨rfl, rfl⟩)))
      go_ret
      exact ⟨sret_bool (by first | rfl | (simp; omega)), B1.out⟩
    · have hd := HQ.out.2.2.1 (by omega)
      rw [decide_eq_false (by omega)] at o2 o3
      rw [decide_eq_true g] at o1
      clear g
      go_enter Try.func8, Try.ntmps8
      go_wp2_with (first | (go_at_call 9; refine (AA.out _).mono ?_; rintro e w1 ⟨rfl, hg1⟩; have B1 := Lib.hid (below_of_grown hg1); clear hg1) | (go_at_call 25; first | ((with_reducible refine (AW.out _).mono ?_); rintro e w' ⟨rfl, rfl⟩) | ((with_reducible refine (AV.out _).mono ?_); rintro e w' ⟨rfl, rfl⟩)) | (go_at_call 15; first | ((with_reducible refine (IW.out _).mono ?_); rintro e w' ⟨rfl, rfl⟩) | ((with_reducible refine (IV.out _).mono ?_); rintro e w' ⟨rfl, rfl⟩)) | (go_at_call 14; first | ((with_reducible refine (R1.out _).mono ?_); rintro e w' ⟨rfl, rfl⟩) | ((with_reducible refine (R2.out _).mono ?_); rintro e w' ⟨rfl, rfl⟩) | ((with_reducible refine (R3.out _).mono ?_); rintro e w' ⟨rfl, rfl⟩)) | (go_at_call 11; first | ((with_reducible refine (C1.out _).mono ?_); rintro e w' ⟨rfl, rfl⟩) | ((with_reducible refine (C2.out _).mono ?_); rintro e w' ⟨rfl, rfl⟩)))
      go_ret
      exact ⟨sret_bool (by first | rfl | (simp; omega)), B1.out⟩
  · have hc := Q3.out h
    obtain rfl : a = b := by omega
    clear h
    have CX := Lib.hid (fcmp_any x x)
    rw [cm_refl] at CX
    rcases Nat.lt_trichotomy w v with g | g | g
    · have hd := HQ.out.2.2.2 (by omega)
      rw [decide_eq_false (by omega)] at o1 o2
      rw [decide_eq_true g] at o3
      clear g
      go_enter Try.func8, Try.ntmps8
      go_wp2_with (first | (go_at_call 9; refine (AA.out _).mono ?_; rintro e w1 ⟨rfl, hg1⟩; have B1 := Lib.hid (below_of_grown hg1); clear hg1) | (go_at_call 25; first | ((with_reducible refine (AW.out _).mono ?_); rintro e w' ⟨rfl, rfl⟩) | ((with_reducible refine (AV.out _).mono ?_); rintro e w' ⟨rfl, rfl⟩)) | (go_at_call 15; first | ((with_reducible refine (IW.out _).mono ?_); rintro e w' ⟨rfl, rfl⟩) | ((with_reducible refine (IV.out _).mono ?_); rintro e w' ⟨rfl, rfl⟩)) | (go_at_call 14; first | ((with_reducible refine (R1.out _).mono ?_); rintro e w' ⟨rfl, rfl⟩) | ((with_reducible refine (R2.out _).mono ?_); rintro e w' ⟨rfl, rfl⟩) | ((with_reducible refine (R3.out _).mono ?_); rintro e w' ⟨rfl, rfl⟩)) | (go_at_call 11; first | ((with_reducible refine (CX.out _).mono ?_); rintro e w' ⟨rfl, rfl⟩) | ((with_reducible refine (C2.out _).mono ?_); rintro e w' ⟨rfl, rfl⟩)))
      go_ret
      exact ⟨sret_bool (by first | rfl | (simp; omega)), B1.out⟩
    · have hd := HQ.out.2.2.2 (by omega)
      have hd2 := HQ.out.2.2.1 (by omega)
      rw [decide_eq_false (by omega)] at o1 o3
      rw [decide_eq_true g] at o2
      clear g
      go_enter Try.func8, Try.ntmps8
      go_wp2_with (first | (go_at_call 9; refine (AA.out _).mono ?_; rintro e w1 ⟨rfl, hg1⟩; have B1 := Lib.hid (below_of_grown hg1); clear hg1) | (go_at_call 25; first | ((with_reducible refine (AW.out _).mono ?_); rintro e w' ⟨rfl, rfl⟩) | ((with_reducible refine (AV.out _).mono ?_); rintro e w' ⟨rfl, rfl⟩)) | (go_at_call 15; first | ((with_reducible refine (IW.out _).mono ?_); rintro e w' ⟨rfl, rfl⟩) | ((with_reducible refine (IV.out _).mono ?_); rintro e w' ⟨rfl, rfl⟩)) | (go_at_call 14; first | ((with_reducible refine (R1.out _).mono ?_); rintro e w' ⟨rfl, rfl⟩) | ((with_reducible refine (R2.out _).mono ?_); rintro e w' ⟨rfl, rfl⟩) | ((with_reducible refine (R3.out _).mono ?_); rintro e w' ⟨rfl, rfl⟩)) | (go_at_call 11; first | ((with_reducible refine (CX.out _).mono ?_); rintro e w' ⟨rfl, rfl⟩) | ((with_reducible refine (C2.out _).mono ?_); rintro e w' ⟨rfl, rfl⟩)))
      go_ret
      exact ⟨sret_bool (by first | rfl | (simp; omega)), B1.out⟩
    · have hd := HQ.out.2.2.1 (by omega)
      rw [decide_eq_false (by omega)] at o2 o3
      rw [decide_eq_true g] at o1
      clear g
      go_enter Try.func8, Try.ntmps8
      go_wp2_with (first | (go_at_call 9; refine (AA.out _).mono ?_; rintro e w1 ⟨rfl, hg1⟩; have B1 := Lib.hid (below_of_grown hg1); clear hg1) | (go_at_call 25; first | ((with_reducible refine (AW.out _).mono ?_); rintro e w' ⟨rfl, rfl⟩) | ((with_reducible refine (AV.out _).mono ?_); rintro e w' ⟨rfl, rfl⟩)) | (go_at_call 15; first | ((with_reducible refine (IW.out _).mono ?_); rintro e w' ⟨rfl, rfl⟩) | ((with_reducible refine (IV.out _).mono ?_); rintro e w' ⟨rfl, rfl⟩)) | (go_at_call 14; first | ((with_reducible refine (R1.out _).mono ?_); rintro e w' ⟨rfl, rfl⟩) | ((with_reducible refine (R2.out _).mono ?_); rintro e w' ⟨rfl, rfl⟩) | ((with_reducible refine (R3.out _).mono ?_); rintro e w' ⟨rfl, rfl⟩)) | (go_at_call 11; first | ((with_reducible refine (CX.out _).mono ?_); rintro e w' ⟨rfl, rfl⟩) | ((with_reducible refine (C2.out _).mono ?_); rintro e w' ⟨rfl, rfl⟩)))
      go_ret
      exact ⟨sret_bool (by first | rfl | (simp; omega)), B1.out⟩
  · have hc := Q2.out h
    rcases Nat.lt_trichotomy w v with g | g | g
    · have hd := HQ.out.2.2.2 (by omega)
      rw [decide_eq_false (by omega)] at o1 o2
      rw [decide_eq_true g] at o3
      clear g
      go_enter Try.func8, Try.ntmps8
      go_wp2_with (first | (go_at_call 9; refine (AA.out _).mono ?_; rintro e w1 ⟨rfl, hg1⟩; have B1 := Lib.hid (below_of_grown hg1); clear hg1) | (go_at_call 25; first | ((with_reducible refine (AW.out _).mono ?_); rintro e w' ⟨rfl, rfl⟩) | ((with_reducible refine (AV.out _).mono ?_); rintro e w' ⟨rfl, rfl⟩)) | (go_at_call 15; first | ((with_reducible refine (IW.out _).mono ?_); rintro e w' ⟨rfl, rfl⟩) | ((with_reducible refine (IV.out _).mono ?_); rintro e w' ⟨rfl, rfl⟩)) | (go_at_call 14; first | ((with_reducible refine (R1.out _).mono ?_); rintro e w' ⟨rfl, rfl⟩) | ((with_reducible refine (R2.out _).mono ?_); rintro e w' ⟨rfl, rfl⟩) | ((with_reducible refine (R3.out _).mono ?_); rintro e w' ⟨rfl, rfl⟩)) | (go_at_call 11; first | ((with_reducible refine (C1.out _).mono ?_); rintro e w' ⟨rfl, rfl⟩) | ((with_reducible refine (C2.out _).mono ?_); rintro e w' ⟨rfl, rfl⟩)))
      go_ret
      exact ⟨sret_bool (by first | rfl | (simp; omega)), B1.out⟩
    · have hd := HQ.out.2.2.2 (by omega)
      have hd2 := HQ.out.2.2.1 (by omega)
      rw [decide_eq_false (by omega)] at o1 o3
      rw [decide_eq_true g] at o2
      clear g
      go_enter Try.func8, Try.ntmps8
      go_wp2_with (first | (go_at_call 9; refine (AA.out _).mono ?_; rintro e w1 ⟨rfl, hg1⟩; have B1 := Lib.hid (below_of_grown hg1); clear hg1) | (go_at_call 25; first | ((with_reducible refine (AW.out _).mono ?_); rintro e w' ⟨rfl, rfl⟩) | ((with_reducible refine (AV.out _).mono ?_); rintro e w' ⟨rfl, rfl⟩)) | (go_at_call 15; first | ((with_reducible refine (IW.out _).mono ?_); rintro e w' ⟨rfl, rfl⟩) | ((with_reducible refine (IV.out _).mono ?_); rintro e w' ⟨rfl, rfl⟩)) | (go_at_call 14; first | ((with_reducible refine (R1.out _).mono ?_); rintro e w' ⟨rfl, rfl⟩) | ((with_reducible refine (R2.out _).mono ?_); rintro e w' ⟨rfl, rfl⟩) | ((with_reducible refine (R3.out _).mono ?_); rintro e w' ⟨rfl, rfl⟩)) | (go_at_call 11; first | ((with_reducible refine (C1.out _).mono ?_); rintro e w' ⟨rfl, rfl⟩) | ((with_reducible refine (C2.out _).mono ?_); rintro e w' ⟨rfl, rfl⟩)))
      go_ret
      exact ⟨sret_bool (by first | rfl | (simp; omega)), B1.out⟩
    · have hd := HQ.out.2.2.1 (by omega)
      rw [decide_eq_false (by omega)] at o2 o3
      rw [decide_eq_true g] at o1
      clear g
      go_enter Try.func8, Try.ntmps8
      go_wp2_with (first | (go_at_call 9; refine (AA.out _).mono ?_; rintro e w1 ⟨rfl, hg1⟩; have B1 := Lib.hid (below_of_grown hg1); clear hg1) | (go_at_call 25; first | ((with_reducible refine (AW.out _).mono ?_); rintro e w' ⟨rfl, rfl⟩) | ((with_reducible refine (AV.out _).mono ?_); rintro e w' ⟨rfl, rfl⟩)) | (go_at_call 15; first | ((with_reducible refine (IW.out _).mono ?_); rintro e w' ⟨rfl, rfl⟩) | ((with_reducible refine (IV.out _).mono ?_); rintro e w' ⟨rfl, rfl⟩)) | (go_at_call 14; first | ((with_reducible refine (R1.out _).mono ?_); rintro e w' ⟨rfl, rfl⟩) | ((with_reducible refine (R2.out _).mono ?_); rintro e w' ⟨rfl, rfl⟩) | ((with_reducible refine (R3.out _).mono ?_); rintro e w' ⟨rfl, rfl⟩)) | (go_at_call 11; first | ((with_reducible refine (C1.out _).mono ?_); rintro e w' ⟨rfl, rfl⟩) | ((with_reducible refine (C2.out _).mono ?_); rintro e w' ⟨rfl, rfl⟩)))
      go_ret
      exact ⟨sret_bool (by first | rfl | (simp; omega)), B1.out⟩
set_option maxRecDepth 100000 in
set_option maxHeartbeats 2000000 in
theorem halves_walk (a b wa va : Nat) (ha : a < 65536) (hb : b < 65536) (hwa : wa < 18446744073709551616) (hva : va < 18446744073709551616) (W : World) :
    Calls Try.prog 8 #[.int .u16 (a : Int), .int .u16 (b : Int), .float .f64 wa, .float .f64 va] W fun e W' => e = .returned (.bool true) ∧ Below W.heap.size W W' := by
  have hw9 := absF_lt wa
  have hv9 := absF_lt va
  have AW := Lib.hid (abs_any wa hwa)
  have AV := Lib.hid (abs_any va hva)
  have IW := Lib.hid (isinf_any (absF wa) (by omega))
  have IV := Lib.hid (isinf_any (absF va) (by omega))
  have C1 := Lib.hid (fcmp_any (absF wa) (absF wa))
  have C2 := Lib.hid (fcmp_any (absF va) (absF va))
  rw [cm_refl] at C1 C2
  have n1 := ne_self (absF wa)
  have n2 := ne_self (absF va)
  have z1 := eq_order (absF wa) 0
  have z2 := eq_order (absF va) 0
  rw [show nan 0 = false by decide, show key 0 = 0 by decide] at z1 z2
  have HG := Lib.hid (fun h1 h2 => halves_good a b (absF wa) (absF va) wa va ha hb hwa hva rfl rfl h1 h2 W)
  have GW := Lib.hid (good_of hw9)
  have GV := Lib.hid (good_of hv9)
  generalize absF wa = w at *
  generalize absF va = v at *
  have AA := Lib.hid awake_any
  clear hwa hva hw9 hv9
  cases hn1 : nan w
  · rw [hn1] at n1 z1
    cases hn2 : nan v
    · rw [hn2] at n2 z2
      simp only [Bool.not_false, Bool.true_and] at z1 z2
      by_cases k1 : key w = 0
      · rw [decide_eq_true k1] at z1
        clear k1 hn1 hn2 z2 HG GW GV
        go_enter Try.func8, Try.ntmps8
        go_wp2_with (first | (go_at_call 9; refine (AA.out _).mono ?_; rintro e w1 ⟨rfl, hg1⟩; have B1 := Lib.hid (below_of_grown hg1); clear hg1) | (go_at_call 25; first | ((with_reducible refine (AW.out _).mono ?_); rintro e w' ⟨rfl, rfl⟩) | ((with_reducible refine (AV.out _).mono ?_); rintro e w' ⟨rfl, rfl⟩)) | (go_at_call 15; first | ((with_reducible refine (IW.out _).mono ?_); rintro e w' ⟨rfl, rfl⟩) | ((with_reducible refine (IV.out _).mono ?_); rintro e w' ⟨rfl, rfl⟩)) | (go_at_call 11; first | ((with_reducible refine (C1.out _).mono ?_); rintro e w' ⟨rfl, rfl⟩) | ((with_reducible refine (C2.out _).mono ?_); rintro e w' ⟨rfl, rfl⟩)))
        go_ret
        exact ⟨rfl, B1.out⟩
      · rw [decide_eq_false k1] at z1
        by_cases k2 : key v = 0
        · rw [decide_eq_true k2] at z2
          clear k1 k2 hn1 hn2 HG GW GV
          go_enter Try.func8, Try.ntmps8
          go_wp2_with (first | (go_at_call 9; refine (AA.out _).mono ?_; rintro e w1 ⟨rfl, hg1⟩; have B1 := Lib.hid (below_of_grown hg1); clear hg1) | (go_at_call 25; first | ((with_reducible refine (AW.out _).mono ?_); rintro e w' ⟨rfl, rfl⟩) | ((with_reducible refine (AV.out _).mono ?_); rintro e w' ⟨rfl, rfl⟩)) | (go_at_call 15; first | ((with_reducible refine (IW.out _).mono ?_); rintro e w' ⟨rfl, rfl⟩) | ((with_reducible refine (IV.out _).mono ?_); rintro e w' ⟨rfl, rfl⟩)) | (go_at_call 11; first | ((with_reducible refine (C1.out _).mono ?_); rintro e w' ⟨rfl, rfl⟩) | ((with_reducible refine (C2.out _).mono ?_); rintro e w' ⟨rfl, rfl⟩)))
          go_ret
          exact ⟨rfl, B1.out⟩
        · rw [decide_eq_false k2] at z2
          cases i1 : isInf w
          · cases i2 : isInf v
            · exact HG.out (GW.out hn1 k1 i1) (GV.out hn2 k2 i2)
            · rw [i1] at IW
              rw [i2] at IV
              clear k1 k2 hn1 hn2 HG GW GV
              go_enter Try.func8, Try.ntmps8
              go_wp2_with (first | (go_at_call 9; refine (AA.out _).mono ?_; rintro e w1 ⟨rfl, hg1⟩; have B1 := Lib.hid (below_of_grown hg1); clear hg1) | (go_at_call 25; first | ((with_reducible refine (AW.out _).mono ?_); rintro e w' ⟨rfl, rfl⟩) | ((with_reducible refine (AV.out _).mono ?_); rintro e w' ⟨rfl, rfl⟩)) | (go_at_call 15; first | ((with_reducible refine (IW.out _).mono ?_); rintro e w' ⟨rfl, rfl⟩) | ((with_reducible refine (IV.out _).mono ?_); rintro e w' ⟨rfl, rfl⟩)) | (go_at_call 11; first | ((with_reducible refine (C1.out _).mono ?_); rintro e w' ⟨rfl, rfl⟩) | ((with_reducible refine (C2.out _).mono ?_); rintro e w' ⟨rfl, rfl⟩)))
              go_ret
              exact ⟨rfl, B1.out⟩
          · rw [i1] at IW
            clear k1 k2 hn1 hn2 HG GW GV
            go_enter Try.func8, Try.ntmps8
            go_wp2_with (first | (go_at_call 9; refine (AA.out _).mono ?_; rintro e w1 ⟨rfl, hg1⟩; have B1 := Lib.hid (below_of_grown hg1); clear hg1) | (go_at_call 25; first | ((with_reducible refine (AW.out _).mono ?_); rintro e w' ⟨rfl, rfl⟩) | ((with_reducible refine (AV.out _).mono ?_); rintro e w' ⟨rfl, rfl⟩)) | (go_at_call 15; first | ((with_reducible refine (IW.out _).mono ?_); rintro e w' ⟨rfl, rfl⟩) | ((with_reducible refine (IV.out _).mono ?_); rintro e w' ⟨rfl, rfl⟩)) | (go_at_call 11; first | ((with_reducible refine (C1.out _).mono ?_); rintro e w' ⟨rfl, rfl⟩) | ((with_reducible refine (C2.out _).mono ?_); rintro e w' ⟨rfl, rfl⟩)))
            go_ret
            exact ⟨rfl, B1.out⟩
    · rw [hn2] at n2
      clear hn1 hn2 z1 z2 HG GW GV
      go_enter Try.func8, Try.ntmps8
      go_wp2_with (first | (go_at_call 9; refine (AA.out _).mono ?_; rintro e w1 ⟨rfl, hg1⟩; have B1 := Lib.hid (below_of_grown hg1); clear hg1) | (go_at_call 25; first | ((with_reducible refine (AW.out _).mono ?_); rintro e w' ⟨rfl, rfl⟩) | ((with_reducible refine (AV.out _).mono ?_); rintro e w' ⟨rfl, rfl⟩)) | (go_at_call 15; first | ((with_reducible refine (IW.out _).mono ?_); rintro e w' ⟨rfl, rfl⟩) | ((with_reducible refine (IV.out _).mono ?_); rintro e w' ⟨rfl, rfl⟩)) | (go_at_call 11; first | ((with_reducible refine (C1.out _).mono ?_); rintro e w' ⟨rfl, rfl⟩) | ((with_reducible refine (C2.out _).mono ?_); rintro e w' ⟨rfl, rfl⟩)))
      go_ret
      exact ⟨rfl, B1.out⟩
  · rw [hn1] at n1
    clear hn1 z1 z2 n2 HG GW GV
    go_enter Try.func8, Try.ntmps8
    go_wp2_with (first | (go_at_call 9; refine (AA.out _).mono ?_; rintro e w1 ⟨rfl, hg1⟩; have B1 := Lib.hid (below_of_grown hg1); clear hg1) | (go_at_call 25; first | ((with_reducible refine (AW.out _).mono ?_); rintro e w' ⟨rfl, rfl⟩) | ((with_reducible refine (AV.out _).mono ?_); rintro e w' ⟨rfl, rfl⟩)) | (go_at_call 15; first | ((with_reducible refine (IW.out _).mono ?_); rintro e w' ⟨rfl, rfl⟩) | ((with_reducible refine (IV.out _).mono ?_); rintro e w' ⟨rfl, rfl⟩)) | (go_at_call 11; first | ((with_reducible refine (C1.out _).mono ?_); rintro e w' ⟨rfl, rfl⟩) | ((with_reducible refine (C2.out _).mono ?_); rintro e w' ⟨rfl, rfl⟩)))
    go_ret
    exact ⟨rfl, B1.out⟩
end Go.Proofs.Ytfheamemoinfeaa
