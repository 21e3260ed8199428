/- RatioDivides: quotients of any sizes (no statement of its own). -/
import Derived.Test.YtfheamemoinfeaaFe
namespace Go.Proofs.Ytfheamemoinfeaa
open Go.RowKit
open RtA
set_option linter.unusedVariables false
theorem near_nat (s : Bool) (a : Nat) (h0 : 0 < a) (h : a ≤ 2 ^ 63) : ∃ r, 0 < r ∧ r < 9218868437227405312 ∧ Ieee.double.nearest s a 0 = Ieee.double.word s r := by
  have hl := (log2_iff (L := a.log2) h0).1 rfl
  have hL : a.log2 ≤ 63 := by
    rcases Nat.lt_or_ge 63 a.log2 with hc | hc
    · have : 2 ^ 64 ≤ 2 ^ a.log2 := Nat.pow_le_pow_right (by decide) hc
      omega
    · exact hc
  obtain ⟨kept, hk1, hk2, hk⟩ : ∃ kept, 2 ^ 52 ≤ kept ∧ kept ≤ 2 ^ 53 ∧ Ieee.Toward.even.cut s (a <<< (0 - ((a.log2 : Int) - 52)).toNat) (((a.log2 : Int) - 52) - 0).toNat = kept := by
    rw [cut_rne]
    refine ⟨_, ?_, ?_, rfl⟩
    · rcases Nat.lt_or_ge a.log2 53 with hc | hc
      · rw [show (0 - ((a.log2 : Int) - 52)).toNat = 52 - a.log2 by omega, show ((a.log2 : Int) - 52 - 0).toNat = 0 by omega]
        have hlog := log2_shift a (52 - a.log2) h0
        rw [show a.log2 + (52 - a.log2) = 52 by omega] at hlog
        have hs0 : 0 < a <<< (52 - a.log2) := by rw [Nat.shiftLeft_eq]; exact Nat.mul_pos h0 (Nat.two_pow_pos _)
        have hb := (log2_iff hs0).1 hlog
        have := le_rne (a <<< (52 - a.log2)) (2 ^ 0)
        rw [Nat.pow_zero, Nat.div_one] at this
        rw [Nat.pow_zero]
        omega
      · rw [show (0 - ((a.log2 : Int) - 52)).toNat = 0 by omega, show ((a.log2 : Int) - 52 - 0).toNat = a.log2 - 52 by omega, Nat.shiftLeft_zero]
        refine Nat.le_trans ?_ (le_rne _ _)
        rw [Nat.le_div_iff_mul_le (Nat.two_pow_pos _), ← Nat.pow_add, show 52 + (a.log2 - 52) = a.log2 by omega]
        exact hl.1
    · rcases Nat.lt_or_ge a.log2 53 with hc | hc
      · rw [show (0 - ((a.log2 : Int) - 52)).toNat = 52 - a.log2 by omega, show ((a.log2 : Int) - 52 - 0).toNat = 0 by omega]
        have hlog := log2_shift a (52 - a.log2) h0
        rw [show a.log2 + (52 - a.log2) = 52 by omega] at hlog
        have hs0 : 0 < a <<< (52 - a.log2) := by rw [Nat.shiftLeft_eq]; exact Nat.mul_pos h0 (Nat.two_pow_pos _)
        have hb := (log2_iff hs0).1 hlog
        have := rne_le_succ (a <<< (52 - a.log2)) (2 ^ 0)
        rw [Nat.pow_zero, Nat.div_one] at this
        rw [Nat.pow_zero]
        omega
      · rw [show (0 - ((a.log2 : Int) - 52)).toNat = 0 by omega, show ((a.log2 : Int) - 52 - 0).toNat = a.log2 - 52 by omega, Nat.shiftLeft_zero]
        have k1 := rne_le_succ a (2 ^ (a.log2 - 52))
        have k2 : a / 2 ^ (a.log2 - 52) < 2 ^ 53 := by
          rw [Nat.div_lt_iff_lt_mul (Nat.two_pow_pos _), ← Nat.pow_add, show 53 + (a.log2 - 52) = a.log2 + 1 by omega]
          exact hl.2
        omega
  refine ⟨(a.log2 + 1022) * 2 ^ 52 + kept, by omega, by omega, ?_⟩
  unfold Ieee.Format.nearest
  rw [if_neg (by omega)]
  simp only
  rw [ir, bi, lp]
  rw [show (max (0 + (a.log2 : Int) - (Ieee.double.fractionBits : Int)) (-1074)) = (a.log2 : Int) - 52 by
    have : (Ieee.double.fractionBits : Int) = 52 := rfl
    rw [this]; omega]
  rw [hk, show ((a.log2 : Int) - 52 - -1074).toNat = a.log2 + 1022 by omega]
  congr 1
  generalize a.log2 = L at *
  exact Nat.min_eq_left (by omega)
theorem word_s (s : Bool) (r : Nat) : Ieee.double.word s r = if s then 2 ^ 63 + r else r := by unfold Ieee.Format.word; rw [sw]
theorem read_word (s : Bool) {r : Nat} (h : r < 9218868437227405312) : Ieee.double.read (Ieee.double.word s r) = .number s (magOf r) (placeOf r) := by
  rw [word_s, read_eq]
  cases s
  · simp only [Bool.false_eq_true, if_false]
    rw [show r % 2 ^ 63 = r by omega, if_pos h, show r / 2 ^ 63 = 0 by omega]; rfl
  · simp only [if_true]
    rw [show (2 ^ 63 + r) % 2 ^ 63 = r by omega, if_pos h, show (2 ^ 63 + r) / 2 ^ 63 = 1 by omega]; rfl
/-- A size as a float is a number, not 0 if the size isn't. -/
theorem read_size (n : Int) (h : -9223372036854775808 ≤ n ∧ n ≤ 9223372036854775807) : ∃ m i, Ieee.double.read (floatOfInt .f64 n) = .number (decide (n < 0)) m i ∧ (n ≠ 0 → 0 < m) ∧ (n = 0 → m = 0) := by
  by_cases h0 : n = 0
  · subst h0
    refine ⟨_, _, (rfl : Ieee.double.read (floatOfInt .f64 0) = .number false 0 _), fun h => absurd rfl h, fun _ => rfl⟩
  · obtain ⟨r, h1, h2, h3⟩ := near_nat (decide (n < 0)) n.natAbs (by omega) (by omega)
    refine ⟨magOf r, placeOf r, ?_, fun _ => mag_pos h1, fun h => absurd h h0⟩
    show Ieee.double.read (Ieee.double.nearest (decide (n < 0)) n.natAbs 0) = _
    rw [h3, read_word _ h2]
theorem quo_read (x y : Nat) : floatBits .quo .f64 x y = ((Ieee.double.read x).quotient 54 (Ieee.double.read y)).map Ieee.double.write := rfl
theorem read_nan {x : Nat} (h : nan x = true) : ∃ s t, Ieee.double.read x = .nan s t := by
  unfold nan at h
  rw [decide_eq_true_iff] at h
  rw [read_eq, if_neg (by omega), if_neg (by omega)]
  exact ⟨_, _, rfl⟩
theorem quo_nan {y : Nat} (x : Nat) (h : nan y = true) : floatBits .quo .f64 x y = none := by
  obtain ⟨s, t, e⟩ := read_nan h
  rw [quo_read, e]
  cases Ieee.double.read x <;> rfl
theorem read_fin {x : Nat} (h : absF x < 9218868437227405312) : Ieee.double.read x = .number (x / 2 ^ 63 % 2 == 1) (magOf (absF x)) (placeOf (absF x)) := by
  rw [read_eq, if_pos (show x % 2 ^ 63 < _ from h)]; rfl
theorem read_infi {x : Nat} (h : absF x = 9218868437227405312) : Ieee.double.read x = .infinity (x / 2 ^ 63 % 2 == 1) := by
  have h' : x % 2 ^ 63 = 9218868437227405312 := h
  rw [read_eq, if_neg (by omega), if_pos h']
theorem zero_write (s : Bool) (i : Int) : Ieee.double.write (.number s 0 i) = if s then 9223372036854775808 else 0 := by
  show Ieee.double.nearest s 0 i = _
  unfold Ieee.Format.nearest
  rw [if_pos rfl, word_s]
theorem quo_infi (n : Int) (hn : -9223372036854775808 ≤ n ∧ n ≤ 9223372036854775807) {x : Nat} (h : absF x = 9218868437227405312) : floatBits .quo .f64 (floatOfInt .f64 n) x = some 0 ∨ floatBits .quo .f64 (floatOfInt .f64 n) x = some 9223372036854775808 := by
  obtain ⟨m, i, e, _⟩ := read_size n hn
  rw [quo_read, e, read_infi h]
  simp only [Ieee.Datum.quotient, Option.map, zero_write]
  split
  · exact .inr rfl
  · exact .inl rfl
theorem quo_none {x : Nat} (h : absF x < 9218868437227405312) (h0 : absF x ≠ 0) : floatBits .quo .f64 (floatOfInt .f64 0) x = some 0 ∨ floatBits .quo .f64 (floatOfInt .f64 0) x = some 9223372036854775808 := by
  obtain ⟨m, i, e, _, e2⟩ := read_size 0 (by omega)
  have hm := e2 rfl
  subst hm
  have hp := mag_pos (show 0 < absF x by omega)
  rw [quo_read, e, read_fin h]
  simp only [Ieee.Datum.quotient]
  rw [if_neg (by omega)]
  simp only [Nat.zero_shiftLeft, Nat.zero_div, Nat.zero_mod, Option.map]
  have e3 : 2 * 0 + ((0 : Nat) != 0).toNat = 0 := rfl
  rw [e3, zero_write]
  split
  · exact .inr rfl
  · exact .inl rfl
theorem quo_by0 (n : Int) (hn : -9223372036854775808 ≤ n ∧ n ≤ 9223372036854775807) (h0 : n ≠ 0) : floatBits .quo .f64 (floatOfInt .f64 n) 0 = some (if n < 0 then 18442240474082181120 else 9218868437227405312) ∧ floatBits .quo .f64 (floatOfInt .f64 n) 9223372036854775808 = some (if n < 0 then 9218868437227405312 else 18442240474082181120) := by
  obtain ⟨m, i, e, hm, _⟩ := read_size n hn
  have hm' := hm h0
  have z1 : Ieee.double.read 0 = .number false 0 (-1074) := by decide +kernel
  have z2 : Ieee.double.read 9223372036854775808 = .number true 0 (-1074) := by decide +kernel
  rw [quo_read, quo_read, e, z1, z2]
  simp only [Ieee.Datum.quotient, if_true, if_neg (show ¬ m = 0 by omega), Option.map]
  by_cases hs : n < 0
  · rw [decide_eq_true hs, if_pos hs, if_pos hs]
    exact ⟨rfl, rfl⟩
  · rw [decide_eq_false hs, if_neg hs, if_neg hs]
    exact ⟨rfl, rfl⟩
theorem FR.some {op : BinOp} {x y r b : Nat} (h : FR op x y r) (e : floatBits op .f64 x y = some b) : r = b := by
  have := h.2; rw [e] at this; exact this
theorem FR.none {op : BinOp} {x y r : Nat} (h : FR op x y r) (e : floatBits op .f64 x y = none) : nan r = true := by
  have := h.2; rw [e] at this; exact this
theorem FR.eqv {op : BinOp} {x y r s : Nat} (h : FR op x y r) (h2 : FR op x y s) : Eqv r s := by
  cases e : floatBits op .f64 x y with
  | none => exact .inl ⟨h.none e, h2.none e⟩
  | some b => exact .inr ((h.some e).trans (h2.some e).symm)
end Go.Proofs.Ytfheamemoinfeaa
