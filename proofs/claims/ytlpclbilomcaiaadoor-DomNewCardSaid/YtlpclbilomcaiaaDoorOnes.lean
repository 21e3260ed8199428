/- OnesCount32, and numbers for TrailingZeros32 (no statement of its own). Condition: the argument is a uint32. -/
import Derived.Test.YtlpclbilomcaiaaDoorBits
namespace Go.Proofs.YtlpclbilomcaiaaDoor
open Go.RowKit
set_option linter.unusedVariables false
theorem wraps_u32 (n : Int) (h₀ : 0 ≤ n) (h₁ : n < 2 ^ 32) : IntKind.u32.wrap n = n := by rw [IntKind.wrap_u32]; omega
theorem and255 (x : Int) (h0 : 0 ≤ x) (h1 : x < 4294967296) : bits .and .u32 x 255 = x % 256 := bits_mask .u32 32 (by decide) wraps_u32 8 (by decide) x h0 h1
theorem cnt_le (n B : Nat) : cnt n B ≤ n := by
  unfold cnt mem
  have := List.length_filter_le (fun v => B.testBit v) (List.range n)
  simpa using this
set_option maxRecDepth 100000 in
theorem ones_walk (x : Int) (w : World) (h0 : 0 ≤ x) (h1 : x ≤ 4294967295) :
    Calls Tryd.prog 33 #[.int .u32 x] w fun e w' => e = .returned (.int .i64 ((cnt 8 (x / 16777216).toNat + cnt 8 (x / 65536 % 256).toNat + cnt 8 (x / 256 % 256).toNat + cnt 8 (x % 256).toNat : Nat) : Int)) ∧ ∃ n, w' = w.drewN n := by
  have e1 := and255 (x / 65536) (by omega) (by omega)
  have e2 := and255 (x / 256) (by omega) (by omega)
  have e3 := and255 x (by omega) (by omega)
  go_enter Tryd.func33, Tryd.ntmps33
  go_wp2_with fail
  refine wp_region_quiet_lit (by kernel_rfl) (by kernel_rfl) ?_
  go_big_quiet_want; go_big_quiet_op; go_big_quiet_on
  go_big_quiet_want; go_big_quiet_op; go_big_quiet_on
  go_big_quiet_want
  refine quiet_index 9 _ _ rfl _ (fun w => index_tab _ (cnt 8) ?h1 _ _ ((x / 16777216).toNat) ?h2 ?h3 w) ?_
  case h1 => decide +kernel
  case h2 => exact (Int.toNat_of_nonneg (by omega)).symm
  case h3 => omega
  simp only [Act.put, List.setIfInBounds_toArray, List.set_cons_zero, List.set_cons_succ]
  go_big_quiet_on
  go_big_quiet_want; go_big_quiet_op; go_big_quiet_on
  go_big_quiet_want; go_big_quiet_op; go_big_quiet_on
  go_big_quiet_want; go_big_quiet_op; go_big_quiet_on
  go_big_quiet_want
  refine quiet_index 9 _ _ rfl _ (fun w => index_tab _ (cnt 8) ?h1 _ _ ((x / 65536 % 256).toNat) ?h2 ?h3 w) ?_
  case h1 => decide +kernel
  case h2 => exact (Int.toNat_of_nonneg (by omega)).symm
  case h3 => omega
  simp only [Act.put, List.setIfInBounds_toArray, List.set_cons_zero, List.set_cons_succ]
  go_big_quiet_on
  go_big_quiet_want; go_big_quiet_op; go_big_quiet_on
  go_big_quiet_want; go_big_quiet_op; go_big_quiet_on
  go_big_quiet_want; go_big_quiet_op; go_big_quiet_on
  go_big_quiet_want; go_big_quiet_op; go_big_quiet_on
  go_big_quiet_want
  refine quiet_index 9 _ _ rfl _ (fun w => index_tab _ (cnt 8) ?h1 _ _ ((x / 256 % 256).toNat) ?h2 ?h3 w) ?_
  case h1 => decide +kernel
  case h2 => exact (Int.toNat_of_nonneg (by omega)).symm
  case h3 => omega
  simp only [Act.put, List.setIfInBounds_toArray, List.set_cons_zero, List.set_cons_succ]
  go_big_quiet_on
  go_big_quiet_want; go_big_quiet_op; go_big_quiet_on
  go_big_quiet_want; go_big_quiet_op; go_big_quiet_on
  go_big_quiet_want; go_big_quiet_op; go_big_quiet_on
  go_big_quiet_want
  refine quiet_index 9 _ _ rfl _ (fun w => index_tab _ (cnt 8) ?h1 _ _ ((x % 256).toNat) ?h2 ?h3 w) ?_
  case h1 => decide +kernel
  case h2 => exact (Int.toNat_of_nonneg (by omega)).symm
  case h3 => omega
  simp only [Act.put, List.setIfInBounds_toArray, List.set_cons_zero, List.set_cons_succ]
  go_big_quiet_on
  go_big_quiet_want; go_big_quiet_op; go_big_quiet_on
  go_big_quiet_want; go_big_quiet_op; go_big_quiet_on
  go_big_quiet_want; go_big_quiet_op; go_big_quiet_on
  refine wpQuiet_nil ?_
  intro _ hw'
  obtain ⟨nq, hw''⟩ := hw'
  subst hw''
  go_wp2
  go_ret
  have b1 := cnt_le 8 (x / 16777216).toNat
  have b2 := cnt_le 8 (x / 65536 % 256).toNat
  have b3 := cnt_le 8 (x / 256 % 256).toNat
  have b4 := cnt_le 8 (x % 256).toNat
  exact ⟨ret_int (by omega), nq, rfl⟩
theorem cnt_add (m n B : Nat) : cnt (m + n) B = cnt m B + cnt n (B / 2 ^ m) := by
  unfold cnt mem
  rw [List.range_add, List.filter_append, List.length_append, List.filter_map, List.length_map]
  congr 2
  apply List.filter_congr
  intro i _
  show B.testBit (m + i) = (B / 2 ^ m).testBit i
  rw [Nat.testBit_div_two_pow, Nat.add_comm]
theorem cnt_mod (B : Nat) : cnt 8 (B % 256) = cnt 8 B := by
  unfold cnt mem
  congr 1
  apply List.filter_congr
  intro i hi
  rw [show 256 = 2 ^ 8 by decide, Nat.testBit_mod_two_pow]
  simp at hi
  simp [hi]
theorem cnt32 (B : Nat) : cnt 32 B = cnt 8 (B / 16777216) + cnt 8 (B / 65536 % 256) + cnt 8 (B / 256 % 256) + cnt 8 (B % 256) := by
  rw [cnt_mod, cnt_mod, cnt_mod]
  have h1 := cnt_add 24 8 B
  have h2 := cnt_add 16 8 B
  have h3 := cnt_add 8 8 B
  have e1 : 2 ^ 24 = 16777216 := by decide
  have e2 : 2 ^ 16 = 65536 := by decide
  have e3 : 2 ^ 8 = 256 := by decide
  rw [e1] at h1
  rw [e2] at h2
  rw [e3] at h3
  have h1' : cnt 32 B = cnt 24 B + cnt 8 (B / 16777216) := h1
  have h2' : cnt 24 B = cnt 16 B + cnt 8 (B / 65536) := h2
  have h3' : cnt 16 B = cnt 8 B + cnt 8 (B / 256) := h3
  omega
theorem cnt_far {k B : Nat} (hk : k ≤ 32) (hB : B < 2 ^ k) : cnt 32 B = cnt k B := by
  obtain ⟨d, hd⟩ : ∃ d, 32 = k + d := ⟨32 - k, by omega⟩
  rw [hd, cnt_add, Nat.div_eq_of_lt hB]
  have : cnt d 0 = 0 := by
    unfold cnt mem
    rw [List.filter_eq_nil_iff.2 (by simp)]
    rfl
  omega
theorem ones_any (k B : Nat) (w : World) (hk : k ≤ 32) (hB : B < 2 ^ k) :
    Calls Tryd.prog 33 #[.int .u32 (B : Int)] w fun e w' => e = .returned (.int .i64 ((cnt k B : Nat) : Int)) ∧ ∃ n, w' = w.drewN n := by
  have h := lt_of_fits hk hB
  refine (ones_walk (B : Int) w (by omega) (by omega)).mono fun e w' ⟨he, hw⟩ => ⟨?_, hw⟩
  rw [he, ← cnt_far hk hB, cnt32]
  have a1 : ((B : Int) / 16777216).toNat = B / 16777216 := by omega
  have a2 : ((B : Int) / 65536 % 256).toNat = B / 65536 % 256 := by omega
  have a3 : ((B : Int) / 256 % 256).toNat = B / 256 % 256 := by omega
  have a4 : ((B : Int) % 256).toNat = B % 256 := by omega
  rw [a1, a2, a3, a4]
/-! trailing zeros -/
/-- B is 2 ^ t times an odd number. -/
def TZ (B t : Nat) : Prop := ∃ q, B = 2 ^ t * (2 * q + 1)
theorem tz_ex : ∀ B : Nat, B ≠ 0 → ∃ t, TZ B t := by
  intro B
  induction B using Nat.strongRecOn with
  | ind B ih =>
    intro h
    by_cases ho : B % 2 = 1
    · exact ⟨0, B / 2, by omega⟩
    · obtain ⟨t, q, hq⟩ := ih (B / 2) (by omega) (by omega)
      refine ⟨t + 1, q, ?_⟩
      rw [Nat.pow_succ, Nat.mul_comm (2 ^ t) 2, Nat.mul_assoc, ← hq]
      omega
theorem tz_bit {B t : Nat} (h : TZ B t) : B.testBit t = true := by
  obtain ⟨q, rfl⟩ := h
  have := Nat.testBit_two_pow_mul_add (2 * q + 1) (Nat.two_pow_pos t) t
  rw [Nat.add_zero] at this
  rw [this, if_neg (by omega), Nat.sub_self, Nat.testBit_zero]
  simp
theorem tz_low {B t i : Nat} (h : TZ B t) (hi : i < t) : B.testBit i = false := by
  obtain ⟨q, rfl⟩ := h
  have := Nat.testBit_two_pow_mul_add (2 * q + 1) (Nat.two_pow_pos t) i
  rw [Nat.add_zero] at this
  rw [this, if_pos hi, Nat.zero_testBit]
theorem tz_pred {B t i : Nat} (h : TZ B t) : (B - 1).testBit i = if i < t then true else if i = t then false else B.testBit i := by
  obtain ⟨q, rfl⟩ := h
  have hp := Nat.two_pow_pos t
  have e : 2 ^ t * (2 * q + 1) - 1 = 2 ^ t * (2 * q) + (2 ^ t - 1) := by rw [Nat.mul_add]; omega
  have h1 := Nat.testBit_two_pow_mul_add (2 * q) (show 2 ^ t - 1 < 2 ^ t by omega) i
  have h2 := Nat.testBit_two_pow_mul_add (2 * q + 1) hp i
  rw [Nat.add_zero] at h2
  rw [e, h1, h2]
  by_cases hi : i < t
  · rw [if_pos hi, if_pos hi, Nat.testBit_two_pow_sub_one]; simp [hi]
  · rw [if_neg hi, if_neg hi, if_neg hi]
    by_cases ht : i = t
    · subst ht
      rw [if_pos rfl, Nat.sub_self, Nat.testBit_zero]
      simp
    · rw [if_neg ht]
      obtain ⟨d, hd⟩ : ∃ d, i - t = d + 1 := ⟨i - t - 1, by omega⟩
      rw [hd, Nat.testBit_succ, Nat.testBit_succ, show 2 * q / 2 = q by omega, show (2 * q + 1) / 2 = q by omega]
theorem tz_and {B t : Nat} (h : TZ B t) (hB : B < 4294967296) : B &&& (4294967296 - B) = 2 ^ t := by
  have h0 : B ≠ 0 := by
    obtain ⟨q, rfl⟩ := h
    have := Nat.mul_pos (Nat.two_pow_pos t) (show 0 < 2 * q + 1 by omega)
    omega
  apply Nat.eq_of_testBit_eq
  intro i
  have e : 4294967296 - B = 4294967295 - (B - 1) := by omega
  rw [Nat.testBit_and, e, testBit_not _ _ (by omega), tz_pred h, Nat.testBit_two_pow]
  by_cases hi : i < t
  · rw [tz_low h hi, if_pos hi]
    simp
    omega
  · rw [if_neg hi]
    by_cases ht : i = t
    · subst ht
      have h32 : i < 32 := by
        rcases Nat.lt_or_ge i 32 with h1 | h1
        · exact h1
        · have := Nat.testBit_lt_two_pow (x := B) (i := i) (Nat.lt_of_lt_of_le hB (by
            have := Nat.pow_le_pow_right (n := 2) (by omega) h1
            simpa using this))
          rw [tz_bit h] at this
          cases this
      rw [tz_bit h, if_pos rfl]
      simp [h32]
    · rw [if_neg ht]
      have : ¬ t = i := by omega
      cases B.testBit i <;> simp [this]
theorem tz_lt {B t k : Nat} (h : TZ B t) (hB : B < 2 ^ k) : t < k := by
  rcases Nat.lt_or_ge t k with h1 | h1
  · exact h1
  · have := testBit_far hB h1
    rw [tz_bit h] at this
    cases this
end Go.Proofs.YtlpclbilomcaiaaDoor
