/- Orders of floats and rounded quotients, as mathematics (no statement of its own). -/
import Ieee.Arith
import Derived.Test.YtfheamemoinfeaaRows
namespace Go.Proofs.Ytfheamemoinfeaa.RtA
open Ieee


def rne (N D : Nat) : Nat := N / D + (if D < 2 * (N % D) ∨ (D = 2 * (N % D) ∧ N / D % 2 = 1) then 1 else 0)

theorem rne_le_succ (N D : Nat) : rne N D ≤ N / D + 1 := by unfold rne; split <;> omega
theorem le_rne (N D : Nat) : N / D ≤ rne N D := by unfold rne; split <;> omega

theorem rne_mono (N1 D1 N2 D2 : Nat) (h1 : 0 < D1) (h2 : 0 < D2) (h : N1 * D2 ≤ N2 * D1) : rne N1 D1 ≤ rne N2 D2 := by
  have e1 := Nat.div_add_mod N1 D1
  have e2 := Nat.div_add_mod N2 D2
  have l1 := Nat.mod_lt N1 h1
  have l2 := Nat.mod_lt N2 h2
  have hq : N1 / D1 ≤ N2 / D2 := by
    rw [Nat.le_div_iff_mul_le h2]
    apply Nat.le_of_mul_le_mul_right _ h1
    calc N1 / D1 * D2 * D1 = (D1 * (N1 / D1)) * D2 := by rw [Nat.mul_assoc, Nat.mul_comm D2 D1, ← Nat.mul_assoc, Nat.mul_comm D1]
      _ ≤ N1 * D2 := Nat.mul_le_mul_right _ (Nat.mul_div_le N1 D1)
      _ ≤ N2 * D1 := h
  rcases Nat.lt_or_ge (N1 / D1) (N2 / D2) with hlt | hge
  · have := rne_le_succ N1 D1; have := le_rne N2 D2; omega
  · have hqq : N1 / D1 = N2 / D2 := by omega
    generalize hr1 : N1 % D1 = r1 at *
    generalize hr2 : N2 % D2 = r2 at *
    have hr : r1 * D2 ≤ r2 * D1 := by
      have : (D1 * (N1 / D1) + r1) * D2 ≤ (D2 * (N2 / D2) + r2) * D1 := by rw [e1, e2]; exact h
      rw [hqq, Nat.add_mul, Nat.add_mul] at this
      have e3 : D1 * (N2 / D2) * D2 = D2 * (N2 / D2) * D1 := by
        rw [Nat.mul_comm D1, Nat.mul_comm D2, Nat.mul_assoc, Nat.mul_assoc, Nat.mul_comm D1 D2]
      omega
    unfold rne
    rw [hr1, hr2, hqq]
    have k1 : D1 < 2 * r1 → D2 < 2 * r2 := by
      intro hh
      have a1 : D1 * D2 < 2 * r1 * D2 := Nat.mul_lt_mul_of_pos_right hh h2
      have a2 : 2 * r1 * D2 ≤ 2 * r2 * D1 := by rw [Nat.mul_assoc, Nat.mul_assoc]; omega
      have a3 : D2 * D1 < 2 * r2 * D1 := by rw [Nat.mul_comm D2]; omega
      exact Nat.lt_of_mul_lt_mul_right a3
    have k2 : D1 = 2 * r1 → D2 ≤ 2 * r2 := by
      intro hh
      have a2 : D2 * D1 ≤ 2 * r2 * D1 := by
        calc D2 * D1 = D2 * (2 * r1) := by rw [← hh]
          _ = 2 * (r1 * D2) := by rw [Nat.mul_comm, Nat.mul_assoc]
          _ ≤ 2 * (r2 * D1) := by omega
          _ = 2 * r2 * D1 := by rw [Nat.mul_assoc]
      exact Nat.le_of_mul_le_mul_right a2 h1
    split
    · rename_i hc
      rw [if_pos]
      · exact Nat.le_refl _
      rcases hc with hc | ⟨hc, hp⟩
      · exact Or.inl (k1 hc)
      · have := k2 hc
        rcases Nat.lt_or_ge D2 (2 * r2) with hl | hl
        · exact Or.inl hl
        · exact Or.inr ⟨by omega, hp⟩
    · omega

theorem rne_scale (N D c : Nat) (hc : 0 < c) : rne (N * c) (D * c) = rne N D := by
  unfold rne
  rw [Nat.mul_div_mul_right _ _ hc, Nat.mul_mod_mul_right]
  have e : 2 * (N % D * c) = 2 * (N % D) * c := by rw [Nat.mul_assoc]
  rw [e]
  have i1 : (D * c < 2 * (N % D) * c) ↔ (D < 2 * (N % D)) := ⟨fun h => Nat.lt_of_mul_lt_mul_right h, fun h => Nat.mul_lt_mul_of_pos_right h hc⟩
  have i2 : (D * c = 2 * (N % D) * c) ↔ (D = 2 * (N % D)) := ⟨fun h => Nat.eq_of_mul_eq_mul_right hc h, fun h => by rw [← h]⟩
  simp only [i1, i2]

/-- The last digit that tells whether anything is left over. -/
theorem rne_sticky (X n k : Nat) (hn : 0 < n) (hk : 0 < k) :
    rne (2 * (X / n) + (X % n != 0).toNat) (2 * (2 * k)) = rne X (n * (2 * k)) := by
  have l1 := Nat.mod_lt X hn
  have hdiv : X / (n * (2 * k)) = X / n / (2 * k) := by rw [Nat.div_div_eq_div_mul]
  have l2 := Nat.mod_lt (X / n) (show 0 < 2 * k by omega)
  have hmod : X % (n * (2 * k)) = X % n + n * (X / n % (2 * k)) := Nat.mod_mul
  generalize hst : (X % n != 0).toNat = st
  have hst1 : st ≤ 1 := by rw [← hst]; cases (X % n != 0) <;> simp
  have hst0 : st = 0 ↔ X % n = 0 := by
    rw [← hst]; by_cases h : X % n = 0 <;> simp [h]
  generalize X % n = r at *
  generalize X / n = Q at *
  have hq : (2 * Q + st) / (2 * (2 * k)) = Q / (2 * k) := by
    rw [← Nat.div_div_eq_div_mul]
    congr 1; omega
  have hr : (2 * Q + st) % (2 * (2 * k)) = 2 * (Q % (2 * k)) + st := by
    have := Nat.mod_add_div (2 * Q + st) (2 * (2 * k))
    have e2 := Nat.div_add_mod Q (2 * k)
    rw [hq] at this
    have e3 : 2 * (2 * k) * (Q / (2 * k)) = 2 * (2 * k * (Q / (2 * k))) := by rw [Nat.mul_assoc]
    omega
  unfold rne
  rw [hq, hr, hdiv, hmod]
  generalize Q % (2 * k) = s at *
  have en : n * (2 * k) = 2 * (n * k) := by rw [Nat.mul_left_comm]
  rw [en]
  have i1 : (2 * (2 * k) < 2 * (2 * s + st)) ↔ (2 * (n * k) < 2 * (r + n * s)) := by
    constructor
    · intro h
      rcases Nat.lt_or_ge k s with hl | hl
      · have : n * (k + 1) ≤ n * s := Nat.mul_le_mul_left n (by omega)
        rw [Nat.mul_add] at this
        omega
      · have hks : k = s := by omega
        have : r ≠ 0 := by intro h0; have := hst0.2 h0; omega
        rw [hks]; omega
    · intro h
      rcases Nat.lt_or_ge s k with hl | hl
      · have h4 : n * (s + 1) ≤ n * k := Nat.mul_le_mul_left n (by omega)
        rw [Nat.mul_add] at h4
        omega
      · rcases Nat.lt_or_ge k s with h3 | h3
        · omega
        · have hks : k = s := by omega
          rw [hks] at h
          have : r ≠ 0 := by omega
          have : st ≠ 0 := fun h0 => this (hst0.1 h0)
          omega
  have i2 : (2 * (2 * k) = 2 * (2 * s + st)) ↔ (2 * (n * k) = 2 * (r + n * s)) := by
    constructor
    · intro h
      have : st = 0 := by omega
      have hks : k = s := by omega
      have := hst0.1 (by assumption)
      rw [hks]; omega
    · intro h
      rcases Nat.lt_or_ge s k with hl | hl
      · have h4 : n * (s + 1) ≤ n * k := Nat.mul_le_mul_left n (by omega)
        rw [Nat.mul_add] at h4
        omega
      · rcases Nat.lt_or_ge k s with h3 | h3
        · have h4 : n * (k + 1) ≤ n * s := Nat.mul_le_mul_left n (by omega)
          rw [Nat.mul_add] at h4
          omega
        · have hks : k = s := by omega
          rw [hks] at h
          have := hst0.2 (by omega)
          omega
  simp only [i1, i2]

/-- 'n' with its lower 'drop' digits cut, to the nearest, of two the even one. -/
theorem cut_rne (neg : Bool) (n drop : Nat) : Toward.even.cut neg n drop = rne n (2 ^ drop) := by
  unfold Toward.cut rne
  simp only
  rcases Nat.lt_or_ge (n.log2 + 2) drop with h | h
  · rw [Nat.min_eq_right (by omega), Nat.shiftLeft_eq, Nat.one_mul]
    have h1 : n < 2 ^ (n.log2 + 1) := Nat.lt_log2_self
    have h2 : (2 : Nat) ^ (n.log2 + 2) = 2 * 2 ^ (n.log2 + 1) := by rw [Nat.pow_succ, Nat.mul_comm]
    have h3 : (2 : Nat) ^ (n.log2 + 2) ≤ 2 ^ drop := Nat.pow_le_pow_right (by decide) (by omega)
    rw [Nat.div_eq_of_lt (by omega), Nat.mod_eq_of_lt (by omega), Nat.div_eq_of_lt (show n < 2 ^ drop by omega), Nat.mod_eq_of_lt (show n < 2 ^ drop by omega)]
    have a1 : decide (2 ^ (n.log2 + 2) < 2 * n) = false := by simp; omega
    rw [a1]
    have a2 : ¬ (2 ^ drop < 2 * n) := by omega
    simp [a2]
  · rw [Nat.min_eq_left (by omega), Nat.shiftLeft_eq, Nat.one_mul]
    by_cases h1 : 2 ^ drop < 2 * (n % 2 ^ drop)
    · simp [h1]
    · by_cases h2 : 2 ^ drop = 2 * (n % 2 ^ drop)
      · by_cases h3 : n / 2 ^ drop % 2 = 1 <;> simp [← h2, h3]
      · simp [h1, h2]


/-- The rung of 'Y / n * 2 ^ b'. -/
def rungZ (Y n : Nat) (b : Int) : Nat :=
  (max (b + (Y / n).log2 - 52) (-1074) + 1074).toNat * 2 ^ 52 + rne Y (n * 2 ^ (max (b + (Y / n).log2 - 52) (-1074) - b).toNat)

theorem log2_iff {x L : Nat} (hx : 0 < x) : x.log2 = L ↔ 2 ^ L ≤ x ∧ x < 2 ^ (L + 1) := Nat.log2_eq_iff (by omega)

theorem log2_div {Y n L : Nat} (hn : 0 < n) (hY : n ≤ Y) : (Y / n).log2 = L ↔ 2 ^ L * n ≤ Y ∧ Y < 2 ^ (L + 1) * n := by
  rw [log2_iff (Nat.div_pos hY hn), Nat.le_div_iff_mul_le hn, Nat.div_lt_iff_lt_mul hn]

theorem log2_scale {Y n : Nat} (c : Nat) (hn : 0 < n) (hY : n ≤ Y) : (Y * 2 ^ c / n).log2 = (Y / n).log2 + c := by
  have h := (log2_div (L := (Y / n).log2) hn hY).1 rfl
  have hc : 0 < 2 ^ c := Nat.two_pow_pos c
  rw [log2_div hn (Nat.le_trans hY (Nat.le_mul_of_pos_right _ hc))]
  constructor
  · rw [Nat.pow_add, Nat.mul_right_comm]; exact Nat.mul_le_mul_right _ h.1
  · rw [show (Y / n).log2 + c + 1 = ((Y / n).log2 + 1) + c by omega, Nat.pow_add, Nat.mul_right_comm]; exact Nat.mul_lt_mul_of_pos_right h.2 hc

theorem rungZ_scale {Y n : Nat} (b : Int) (c : Nat) (hn : 0 < n) (hY : n ≤ Y) (hL : 52 ≤ (Y / n).log2) :
    rungZ (Y * 2 ^ c) n (b - c) = rungZ Y n b := by
  unfold rungZ
  rw [log2_scale c hn hY]
  rw [show (b - (c : Int) + (((Y / n).log2 + c : Nat) : Int) - 52) = b + ((Y / n).log2 : Int) - 52 by omega]
  generalize hl : max (b + ((Y / n).log2 : Int) - 52) (-1074) = last
  have h1 : (last - (b - (c : Int))).toNat = (last - b).toNat + c := by omega
  rw [h1, Nat.pow_add, ← Nat.mul_assoc, rne_scale _ _ _ (Nat.two_pow_pos c)]

theorem rungZ_mono {Y1 n1 Y2 n2 : Nat} (b : Int) (h1 : 0 < n1) (h2 : 0 < n2) (hY1 : n1 ≤ Y1) (hY2 : n2 ≤ Y2)
    (hL1 : 52 ≤ (Y1 / n1).log2) (hL2 : 52 ≤ (Y2 / n2).log2) (h : Y1 * n2 ≤ Y2 * n1) : rungZ Y1 n1 b ≤ rungZ Y2 n2 b := by
  have d1 := (log2_div (L := (Y1 / n1).log2) h1 hY1).1 rfl
  have d2 := (log2_div (L := (Y2 / n2).log2) h2 hY2).1 rfl
  have hLL : (Y1 / n1).log2 ≤ (Y2 / n2).log2 := by
    rcases Nat.lt_or_ge (Y2 / n2).log2 (Y1 / n1).log2 with hc | hc
    · exfalso
      have a1 : 2 ^ (Y1 / n1).log2 * n1 * n2 ≤ Y2 * n1 := Nat.le_trans (Nat.mul_le_mul_right _ d1.1) h
      have a2 : Y2 * n1 < 2 ^ ((Y2 / n2).log2 + 1) * n2 * n1 := Nat.mul_lt_mul_of_pos_right d2.2 h1
      have a3 : 2 ^ ((Y2 / n2).log2 + 1) ≤ 2 ^ (Y1 / n1).log2 := Nat.pow_le_pow_right (by decide) hc
      have a4 : 2 ^ ((Y2 / n2).log2 + 1) * n2 * n1 ≤ 2 ^ (Y1 / n1).log2 * n1 * n2 := by
        rw [Nat.mul_right_comm]; exact Nat.mul_le_mul_right _ (Nat.mul_le_mul_right _ a3)
      omega
    · exact hc
  unfold rungZ
  generalize hl1 : max (b + ((Y1 / n1).log2 : Int) - 52) (-1074) = l1
  generalize hl2 : max (b + ((Y2 / n2).log2 : Int) - 52) (-1074) = l2
  rcases Int.lt_or_le l1 l2 with hlt | hge
  · -- the second has 53 digits at its own last place; the first at most so many at its own
    have e2 : l2 = b + ((Y2 / n2).log2 : Int) - 52 := by omega
    have k2 : 2 ^ 52 ≤ rne Y2 (n2 * 2 ^ (l2 - b).toNat) := by
      refine Nat.le_trans ?_ (le_rne _ _)
      rw [Nat.le_div_iff_mul_le (Nat.mul_pos h2 (Nat.two_pow_pos _))]
      refine Nat.le_trans ?_ d2.1
      rw [Nat.mul_comm n2, ← Nat.mul_assoc, ← Nat.pow_add]
      exact Nat.mul_le_mul_right _ (Nat.pow_le_pow_right (by decide) (by omega))
    have k1 : rne Y1 (n1 * 2 ^ (l1 - b).toNat) ≤ 2 ^ 53 := by
      refine Nat.le_trans (rne_le_succ _ _) ?_
      have : Y1 / (n1 * 2 ^ (l1 - b).toNat) < 2 ^ 53 := by
        rw [Nat.div_lt_iff_lt_mul (Nat.mul_pos h1 (Nat.two_pow_pos _))]
        refine Nat.lt_of_lt_of_le d1.2 ?_
        rw [Nat.mul_comm n1, ← Nat.mul_assoc, ← Nat.pow_add]
        exact Nat.mul_le_mul_right _ (Nat.pow_le_pow_right (by decide) (by omega))
      omega
    have k3 : (l1 + 1074).toNat + 1 ≤ (l2 + 1074).toNat := by omega
    have k4 : ((l1 + 1074).toNat + 1) * 2 ^ 52 ≤ (l2 + 1074).toNat * 2 ^ 52 := Nat.mul_le_mul_right _ k3
    omega
  · have : l1 = l2 := by omega
    subst this
    refine Nat.add_le_add_left ?_ _
    refine rne_mono _ _ _ _ (Nat.mul_pos h1 (Nat.two_pow_pos _)) (Nat.mul_pos h2 (Nat.two_pow_pos _)) ?_
    rw [← Nat.mul_assoc, ← Nat.mul_assoc]
    exact Nat.mul_le_mul_right _ h

/-- What is written of a quotient. -/
theorem nearest_quot (neg : Bool) (X n : Nat) (b : Int) (hn : 0 < n) (hX : n ≤ X) (hL : 53 ≤ (X / n).log2) :
    double.nearest neg (2 * (X / n) + (X % n != 0).toNat) (b - 1) = double.word neg (min (rungZ X n b) double.infRung) := by
  have hp : 0 < X / n := Nat.div_pos hX hn
  have hl := (log2_iff (L := (X / n).log2) hp).1 rfl
  generalize hst : (X % n != 0).toNat = st
  have hst1 : st ≤ 1 := by rw [← hst]; cases (X % n != 0) <;> simp
  have hlog : (2 * (X / n) + st).log2 = (X / n).log2 + 1 := by
    rw [log2_iff (by omega)]
    constructor
    · rw [Nat.pow_succ]; omega
    · rw [Nat.pow_succ]; omega
  unfold Format.nearest
  rw [if_neg (by omega)]
  simp only
  rw [hlog]
  have hlp : double.leastPlace = -1074 := by decide
  have hbi : double.binade = 2 ^ 52 := by decide
  have hfr : double.fractionBits = 52 := rfl
  rw [hlp, hbi, hfr]
  unfold rungZ
  rw [show (b - 1 + (((X / n).log2 + 1 : Nat) : Int) - ((52 : Nat) : Int)) = b + ((X / n).log2 : Int) - 52 by omega]
  generalize hla : max (b + ((X / n).log2 : Int) - 52) (-1074) = last
  have e1 : (b - 1 - last).toNat = 0 := by omega
  obtain ⟨d, hd⟩ : ∃ d : Nat, (last - b).toNat = d + 1 := ⟨(last - b).toNat - 1, by omega⟩
  have e2 : (last - (b - 1)).toNat = d + 1 + 1 := by omega
  rw [e1, e2, Nat.shiftLeft_zero, cut_rne, hd]
  have p1 : (2 : Nat) ^ (d + 1 + 1) = 2 * (2 * 2 ^ d) := by rw [Nat.pow_succ, Nat.pow_succ]; omega
  have p2 : (2 : Nat) ^ (d + 1) = 2 * 2 ^ d := by rw [Nat.pow_succ]; omega
  rw [p1, p2, ← hst, rne_sticky X n (2 ^ d) hn (Nat.two_pow_pos d)]
  rw [show (last - -1074) = last + 1074 by omega]


/-- A rung's number, in units of the last place of a subnormal number. -/
def sc (r : Nat) : Nat := if r < 2 ^ 52 then r else (2 ^ 52 + r % 2 ^ 52) * 2 ^ (r / 2 ^ 52 - 1)

theorem sc_lt {r s : Nat} (h : r < s) : sc r < sc s := by
  unfold sc
  have er := Nat.div_add_mod r (2 ^ 52)
  have es := Nat.div_add_mod s (2 ^ 52)
  have lr := Nat.mod_lt r (show 0 < 2 ^ 52 by decide)
  have ls := Nat.mod_lt s (show 0 < 2 ^ 52 by decide)
  split
  · split
    · exact h
    · have : 1 ≤ 2 ^ (s / 2 ^ 52 - 1) := Nat.one_le_two_pow
      have : (2 ^ 52 + s % 2 ^ 52) * 1 ≤ (2 ^ 52 + s % 2 ^ 52) * 2 ^ (s / 2 ^ 52 - 1) := Nat.mul_le_mul_left _ this
      omega
  · rw [if_neg (by omega)]
    rcases Nat.lt_or_ge (r / 2 ^ 52) (s / 2 ^ 52) with hq | hq
    · obtain ⟨d, hd⟩ : ∃ d, s / 2 ^ 52 - 1 = (r / 2 ^ 52 - 1) + 1 + d := ⟨s / 2 ^ 52 - 1 - (r / 2 ^ 52 - 1) - 1, by omega⟩
      have hc0 : 0 < 2 ^ (r / 2 ^ 52 - 1) := Nat.two_pow_pos _
      have hd1 : 1 ≤ 2 ^ d := Nat.one_le_two_pow
      rw [hd, Nat.pow_add 2 (r / 2 ^ 52 - 1 + 1) d, Nat.pow_add 2 (r / 2 ^ 52 - 1) 1, Nat.pow_one]
      generalize 2 ^ (r / 2 ^ 52 - 1) = c at *
      have a1 : (2 ^ 52 + r % 2 ^ 52) * c < 2 ^ 53 * c := Nat.mul_lt_mul_of_pos_right (by omega) hc0
      have a2 : 2 ^ 53 * c ≤ (2 ^ 52 + s % 2 ^ 52) * (c * 2) := by
        rw [Nat.mul_comm c 2, ← Nat.mul_assoc]
        exact Nat.mul_le_mul_right _ (by omega)
      have a3 : (2 ^ 52 + s % 2 ^ 52) * (c * 2) ≤ (2 ^ 52 + s % 2 ^ 52) * (c * 2 * 2 ^ d) := Nat.mul_le_mul_left _ (Nat.le_mul_of_pos_right _ hd1)
      exact Nat.lt_of_lt_of_le a1 (Nat.le_trans a2 a3)
    · have : r / 2 ^ 52 = s / 2 ^ 52 := by omega
      rw [this]
      exact Nat.mul_lt_mul_of_pos_right (by omega) (Nat.two_pow_pos _)

theorem sc_cmp (r s : Nat) : compare (sc r : Int) (sc s : Int) = compare (r : Int) (s : Int) := by
  rcases Nat.lt_trichotomy r s with h | h | h
  · have := sc_lt h
    rw [Int.compare_eq_lt.2 (by omega), Int.compare_eq_lt.2 (by omega)]
  · subst h; simp
  · have := sc_lt h
    rw [Int.compare_eq_gt.2 (by omega), Int.compare_eq_gt.2 (by omega)]

/-- A word's place among all that are numbers or infinities. -/
def key (x : Nat) : Int := if x / 2 ^ 63 % 2 == 1 then -((x % 2 ^ 63 : Nat) : Int) else ((x % 2 ^ 63 : Nat) : Int)

/-- Is it none? -/
def nan (x : Nat) : Bool := 9218868437227405312 < x % 2 ^ 63

theorem sw : double.signWeight = 2 ^ 63 := by decide
theorem ir : double.infRung = 9218868437227405312 := by decide
theorem bi : double.binade = 2 ^ 52 := by decide
theorem lp : double.leastPlace = -1074 := by decide

def magOf (r : Nat) : Nat := if r < 2 ^ 52 then r else 2 ^ 52 + r % 2 ^ 52
def placeOf (r : Nat) : Int := if r < 2 ^ 52 then -1074 else -1074 + ((r / 2 ^ 52 - 1 : Nat) : Int)

theorem read_eq (x : Nat) : double.read x = if x % 2 ^ 63 < 9218868437227405312 then .number (x / 2 ^ 63 % 2 == 1) (magOf (x % 2 ^ 63)) (placeOf (x % 2 ^ 63)) else if x % 2 ^ 63 = 9218868437227405312 then .infinity (x / 2 ^ 63 % 2 == 1) else .nan (x / 2 ^ 63 % 2 == 1) (x % 2 ^ 63 - 9218868437227405312) := by
  unfold Format.read magOf placeOf
  simp only
  rw [sw, ir, bi, lp]
  by_cases h1 : x % 2 ^ 63 < 2 ^ 52
  · rw [if_pos h1, if_pos (show x % 2 ^ 63 < 9218868437227405312 by omega), if_pos h1, if_pos h1]
  · rw [if_neg h1]
    by_cases h2 : x % 2 ^ 63 < 9218868437227405312
    · rw [if_pos h2, if_pos h2, if_neg h1, if_neg h1]
    · rw [if_neg h2, if_neg h2]

theorem place_ge (r : Nat) : -1074 ≤ placeOf r := by unfold placeOf; split <;> omega

theorem mag_sc (r : Nat) : sc r = magOf r * 2 ^ (placeOf r + 1074).toNat := by
  unfold sc magOf placeOf
  split
  · simp
  · congr 2; omega

theorem signed_sc (s : Bool) (r : Nat) (base : Int) (h : base ≤ placeOf r) (hb : -1074 ≤ base) :
    signed s (magOf r) (placeOf r - base).toNat * ((2 ^ (base + 1074).toNat : Nat) : Int) = if s then -(sc r : Int) else (sc r : Int) := by
  have e : magOf r <<< (placeOf r - base).toNat * 2 ^ (base + 1074).toNat = sc r := by
    rw [mag_sc, Nat.shiftLeft_eq, Nat.mul_assoc, ← Nat.pow_add]
    congr 2; omega
  unfold signed
  cases s
  · simp only [Bool.false_eq_true, if_false]; rw [← e]; exact (Int.natCast_mul _ _).symm
  · simp only [if_true]; rw [← e, Int.neg_mul, Int.natCast_mul]

theorem cmp_scale (a b : Int) (c : Nat) (hc : 0 < c) : compare a b = compare (a * (c : Int)) (b * (c : Int)) := by
  have hc' : (0 : Int) < c := by omega
  rcases Int.lt_trichotomy a b with h | h | h
  · rw [Int.compare_eq_lt.2 h, Int.compare_eq_lt.2 (Int.mul_lt_mul_of_pos_right h hc')]
  · subst h; simp
  · rw [Int.compare_eq_gt.2 h, Int.compare_eq_gt.2 (Int.mul_lt_mul_of_pos_right h hc')]

theorem sc_zero {r : Nat} : sc r = 0 ↔ r = 0 := by
  constructor
  · intro h
    rcases Nat.eq_zero_or_pos r with h0 | h0
    · exact h0
    · have := sc_lt h0
      omega
  · intro h; subst h; rfl

theorem cmp_keys (s t : Bool) (r q : Nat) :
    compare (if s then -(sc r : Int) else (sc r : Int)) (if t then -(sc q : Int) else (sc q : Int)) = compare (if s then -(r : Int) else (r : Int)) (if t then -(q : Int) else (q : Int)) := by
  have hr := @sc_zero r
  have hq := @sc_zero q
  have key : ∀ a b c d : Int, (a < b ↔ c < d) → (b < a ↔ d < c) → compare a b = compare c d := by
    intro a b c d h1 h2
    rcases Int.lt_trichotomy a b with h | h | h
    · rw [Int.compare_eq_lt.2 h, Int.compare_eq_lt.2 (h1.1 h)]
    · subst h
      have : c = d := by
        rcases Int.lt_trichotomy c d with h | h | h
        · exact absurd (h1.2 h) (by omega)
        · exact h
        · exact absurd (h2.2 h) (by omega)
      subst this; simp
    · rw [Int.compare_eq_gt.2 h, Int.compare_eq_gt.2 (h2.1 h)]
  have hlt : sc r < sc q ↔ r < q := ⟨fun h => by
      rcases Nat.lt_trichotomy r q with h1 | h1 | h1
      · exact h1
      · subst h1; omega
      · have := sc_lt h1; omega, sc_lt⟩
  have hgt : sc q < sc r ↔ q < r := ⟨fun h => by
      rcases Nat.lt_trichotomy q r with h1 | h1 | h1
      · exact h1
      · subst h1; omega
      · have := sc_lt h1; omega, sc_lt⟩
  apply key <;> cases s <;> cases t <;> simp only [Bool.false_eq_true, if_false, if_true] <;> omega

theorem order_key (x y : Nat) (hx : nan x = false) (hy : nan y = false) : double.order x y = some (compare (key x) (key y)) := by
  unfold nan at hx hy
  have hx' : ¬ 9218868437227405312 < x % 2 ^ 63 := by simpa using hx
  have hy' : ¬ 9218868437227405312 < y % 2 ^ 63 := by simpa using hy
  unfold Format.order key
  rw [read_eq, read_eq]
  generalize (x / 2 ^ 63 % 2 == 1) = s
  generalize (y / 2 ^ 63 % 2 == 1) = t
  generalize x % 2 ^ 63 = r at *
  generalize y % 2 ^ 63 = q at *
  by_cases h1 : r < 9218868437227405312
  · rw [if_pos h1]
    by_cases h2 : q < 9218868437227405312
    · rw [if_pos h2]
      simp only [Datum.order]
      generalize hb : min (placeOf r) (placeOf q) = base
      have p1 := place_ge r
      have p2 := place_ge q
      rw [cmp_scale _ _ (2 ^ (base + 1074).toNat) (Nat.two_pow_pos _), signed_sc s r base (by omega) (by omega), signed_sc t q base (by omega) (by omega), cmp_keys]
    · have : q = 9218868437227405312 := by omega
      subst this
      rw [if_neg (by omega), if_pos rfl]
      cases t <;> simp only [Datum.order] <;> cases s <;> simp only [Bool.false_eq_true, if_false, if_true] <;> refine congrArg some ?_ <;> symm <;> first | (rw [Int.compare_eq_lt]; omega) | (rw [Int.compare_eq_gt]; omega)
  · have : r = 9218868437227405312 := by omega
    subst this
    rw [if_neg (by omega), if_pos rfl]
    by_cases h2 : q < 9218868437227405312
    · rw [if_pos h2]
      cases s <;> simp only [Datum.order] <;> cases t <;> simp only [Bool.false_eq_true, if_false, if_true] <;> refine congrArg some ?_ <;> symm <;> first | (rw [Int.compare_eq_lt]; omega) | (rw [Int.compare_eq_gt]; omega)
    · have : q = 9218868437227405312 := by omega
      subst this
      rw [if_neg (by omega), if_pos rfl]
      cases s <;> cases t <;> simp only [Datum.order, Bool.false_eq_true, if_false, if_true] <;> refine congrArg some ?_ <;> symm <;> first | (rw [Int.compare_eq_lt.2 (by omega)]; rfl) | (rw [Int.compare_eq_gt.2 (by omega)]; rfl) | (rw [Int.compare_eq_eq.2 rfl]; rfl)

theorem order_nan (x y : Nat) (h : nan x = true ∨ nan y = true) : double.order x y = none := by
  unfold nan at h
  unfold Format.order
  rw [read_eq, read_eq]
  rcases h with h | h
  · have h : 9218868437227405312 < x % 2 ^ 63 := by simpa using h
    rw [if_neg (by omega), if_neg (by omega)]
    rfl
  · have h : 9218868437227405312 < y % 2 ^ 63 := by simpa using h
    rw [if_neg (show ¬ y % 2 ^ 63 < 9218868437227405312 by omega), if_neg (show ¬ y % 2 ^ 63 = 9218868437227405312 by omega)]
    split
    · rfl
    · split <;> rfl


theorem log2_shift (a k : Nat) (h : 0 < a) : (a <<< k).log2 = a.log2 + k := by
  have h1 := (log2_iff (L := a.log2) h).1 rfl
  have hk : 0 < 2 ^ k := Nat.two_pow_pos k
  rw [Nat.shiftLeft_eq, log2_iff (Nat.mul_pos h hk)]
  constructor
  · rw [Nat.pow_add]; exact Nat.mul_le_mul_right _ h1.1
  · rw [show a.log2 + k + 1 = (a.log2 + 1) + k by omega, Nat.pow_add]; exact Nat.mul_lt_mul_of_pos_right h1.2 hk

theorem word_pos (r : Nat) : double.word false r = r := rfl

theorem small_rung {L m : Nat} (hL : L ≤ 52) (hm : m < 2 ^ 53) : (L + 1022) * 2 ^ 52 + m ≤ 9218868437227405312 := by omega

/-- A whole number of at most 53 digits has its word. -/
theorem read_nat (a : Nat) (h0 : 0 < a) (h : a < 2 ^ 53) :
    double.read (double.write (.number false a 0)) = .number false (a <<< (52 - a.log2)) ((a.log2 : Int) - 52) := by
  have hl := (log2_iff (L := a.log2) h0).1 rfl
  have hL : a.log2 ≤ 52 := by
    rcases Nat.lt_or_ge 52 a.log2 with hc | hc
    · have : 2 ^ 53 ≤ 2 ^ a.log2 := Nat.pow_le_pow_right (by decide) hc
      omega
    · exact hc
  have hlog := log2_shift a (52 - a.log2) h0
  rw [show a.log2 + (52 - a.log2) = 52 by omega] at hlog
  have hs0 : 0 < a <<< (52 - a.log2) := by rw [Nat.shiftLeft_eq]; exact Nat.mul_pos h0 (Nat.two_pow_pos _)
  have hb := (log2_iff hs0).1 hlog
  show double.read (double.nearest false a 0) = _
  have hw : double.nearest false a 0 = (a.log2 + 1022) * 2 ^ 52 + a <<< (52 - a.log2) := by
    unfold Format.nearest
    rw [if_neg (by omega)]
    simp only
    rw [ir, bi, lp]
    rw [show (max (0 + (a.log2 : Int) - (double.fractionBits : Int)) (-1074)) = (a.log2 : Int) - 52 by
      have : (double.fractionBits : Int) = 52 := rfl
      rw [this]; omega]
    rw [show ((0 : Int) - ((a.log2 : Int) - 52)).toNat = 52 - a.log2 by omega, show ((a.log2 : Int) - 52 - 0).toNat = 0 by omega, cut_rne]
    rw [show ((a.log2 : Int) - 52 - -1074).toNat = a.log2 + 1022 by omega]
    have hr : rne (a <<< (52 - a.log2)) (2 ^ 0) = a <<< (52 - a.log2) := by
      unfold rne
      simp only [Nat.pow_zero, Nat.div_one, Nat.mod_one]
      rw [if_neg (by omega)]; rfl
    rw [hr, word_pos]
    generalize a <<< (52 - a.log2) = m at *
    generalize a.log2 = L at *
    exact Nat.min_eq_left (small_rung hL hb.2)
  rw [hw, read_eq]
  generalize a <<< (52 - a.log2) = m at *
  generalize a.log2 = L at *
  have e1 : ((L + 1022) * 2 ^ 52 + m) % 2 ^ 63 = (L + 1022) * 2 ^ 52 + m := by omega
  have e2 : ((L + 1022) * 2 ^ 52 + m) / 2 ^ 63 = 0 := by omega
  rw [e1, e2, if_pos (by omega)]
  unfold magOf placeOf
  rw [if_neg (by omega), if_neg (by omega)]
  have e3 : 2 ^ 52 + ((L + 1022) * 2 ^ 52 + m) % 2 ^ 52 = m := by omega
  have e4 : (-1074 : Int) + (((((L + 1022) * 2 ^ 52 + m) / 2 ^ 52 - 1 : Nat)) : Int) = (L : Int) - 52 := by omega
  rw [e3, e4]
  rfl

theorem mag_pos {r : Nat} (h : 0 < r) : 0 < magOf r := by unfold magOf; split <;> omega

/-- The rung of 'a / w', for a whole number above 0 and a word above 0. -/
def quoR (a w : Nat) : Nat :=
  rungZ ((a <<< (52 - a.log2)) <<< (54 + (magOf w).log2 - 52)) (magOf w) ((a.log2 : Int) - 52 - placeOf w - ((54 + (magOf w).log2 - 52 : Nat) : Int))

theorem quo_pre {a w : Nat} (h0 : 0 < a) (h : a < 2 ^ 53) (hw : 0 < w) :
    magOf w ≤ (a <<< (52 - a.log2)) <<< (54 + (magOf w).log2 - 52) ∧ 53 ≤ ((a <<< (52 - a.log2)) <<< (54 + (magOf w).log2 - 52) / magOf w).log2 := by
  have hn := mag_pos hw
  have hl := (log2_iff (L := a.log2) h0).1 rfl
  have hL : a.log2 ≤ 52 := by
    rcases Nat.lt_or_ge 52 a.log2 with hc | hc
    · have : 2 ^ 53 ≤ 2 ^ a.log2 := Nat.pow_le_pow_right (by decide) hc
      omega
    · exact hc
  have hs0 : 0 < a <<< (52 - a.log2) := by rw [Nat.shiftLeft_eq]; exact Nat.mul_pos h0 (Nat.two_pow_pos _)
  have hlog := log2_shift a (52 - a.log2) h0
  rw [show a.log2 + (52 - a.log2) = 52 by omega] at hlog
  have hlog2 := log2_shift _ (54 + (magOf w).log2 - 52) hs0
  rw [hlog, show 52 + (54 + (magOf w).log2 - 52) = 54 + (magOf w).log2 by omega] at hlog2
  have hX0 : 0 < (a <<< (52 - a.log2)) <<< (54 + (magOf w).log2 - 52) := by rw [Nat.shiftLeft_eq]; exact Nat.mul_pos hs0 (Nat.two_pow_pos _)
  generalize (a <<< (52 - a.log2)) <<< (54 + (magOf w).log2 - 52) = X at *
  generalize magOf w = n at *
  have b1 := (log2_iff hX0).1 hlog2
  have b2 := (log2_iff (L := n.log2) hn).1 rfl
  have k1 : 2 ^ 53 * n ≤ X := by
    refine Nat.le_trans ?_ b1.1
    rw [show 54 + n.log2 = 53 + (n.log2 + 1) by omega, Nat.pow_add]
    exact Nat.mul_le_mul_left _ (by omega)
  have k2 : n ≤ X := by omega
  refine ⟨k2, ?_⟩
  have k3 : 2 ^ 53 ≤ X / n := by rw [Nat.le_div_iff_mul_le hn]; exact k1
  rcases Nat.lt_or_ge (X / n).log2 53 with hc | hc
  · have := ((log2_iff (L := (X / n).log2) (Nat.div_pos k2 hn)).1 rfl).2
    have : 2 ^ ((X / n).log2 + 1) ≤ 2 ^ 53 := Nat.pow_le_pow_right (by decide) hc
    omega
  · exact hc

theorem div_eq {a w : Nat} (h0 : 0 < a) (h : a < 2 ^ 53) (hw : 0 < w) (hi : w < 9218868437227405312) :
    double.div (double.write (.number false a 0)) w = some (min (quoR a w) 9218868437227405312) := by
  have hn := mag_pos hw
  have hp := quo_pre h0 h hw
  have hlog := log2_shift a (52 - a.log2) h0
  have hl := (log2_iff (L := a.log2) h0).1 rfl
  have hL : a.log2 ≤ 52 := by
    rcases Nat.lt_or_ge 52 a.log2 with hc | hc
    · have : 2 ^ 53 ≤ 2 ^ a.log2 := Nat.pow_le_pow_right (by decide) hc
      omega
    · exact hc
  rw [show a.log2 + (52 - a.log2) = 52 by omega] at hlog
  unfold Format.div
  rw [read_nat a h0 h, read_eq]
  have e1 : w % 2 ^ 63 = w := by omega
  have e2 : (w / 2 ^ 63 % 2 == 1) = false := by rw [show w / 2 ^ 63 = 0 by omega]; rfl
  rw [e1, e2, if_pos hi]
  simp only [Datum.quotient]
  rw [if_neg (by omega)]
  rw [hlog]
  have hfr : double.fractionBits + 2 = 54 := rfl
  rw [hfr]
  show some (double.nearest _ _ _) = _
  have := nearest_quot false ((a <<< (52 - a.log2)) <<< (54 + (magOf w).log2 - 52)) (magOf w) ((a.log2 : Int) - 52 - placeOf w - ((54 + (magOf w).log2 - 52 : Nat) : Int)) hn hp.1 hp.2
  rw [show (false ^^ false) = false from rfl, this]
  rw [ir, word_pos]
  unfold quoR
  exact rfl

theorem div_zero {w : Nat} (hw : 0 < w) (hi : w < 9218868437227405312) :
    double.div (double.write (.number false 0 0)) w = some 0 := by
  have hn := mag_pos hw
  have e0 : double.write (.number false 0 0) = 0 := by decide
  unfold Format.div
  rw [e0, read_eq, read_eq]
  have e1 : w % 2 ^ 63 = w := by omega
  have e2 : (w / 2 ^ 63 % 2 == 1) = false := by rw [show w / 2 ^ 63 = 0 by omega]; rfl
  rw [e1, e2, if_pos hi, if_pos (by decide)]
  simp only [Datum.quotient]
  rw [if_neg (by omega)]
  have e3 : magOf (0 % 2 ^ 63) = 0 := by decide
  rw [e3]
  simp only [Nat.zero_shiftLeft, Nat.zero_div, Nat.zero_mod, Option.map]
  show some (double.nearest _ _ _) = _
  unfold Format.nearest
  rw [if_pos (by decide)]
  rfl

theorem quo_mono {a b w v : Nat} (ha0 : 0 < a) (ha : a < 2 ^ 53) (hb0 : 0 < b) (hb : b < 2 ^ 53) (hw : 0 < w) (hv : 0 < v)
    (h : a * sc v ≤ b * sc w) : quoR a w ≤ quoR b v := by
  have pa := quo_pre ha0 ha hw
  have pb := quo_pre hb0 hb hv
  have nw := mag_pos hw
  have nv := mag_pos hv
  have la : a.log2 ≤ 52 := by
    have hl := (log2_iff (L := a.log2) ha0).1 rfl
    rcases Nat.lt_or_ge 52 a.log2 with hc | hc
    · have : 2 ^ 53 ≤ 2 ^ a.log2 := Nat.pow_le_pow_right (by decide) hc
      omega
    · exact hc
  have lb : b.log2 ≤ 52 := by
    have hl := (log2_iff (L := b.log2) hb0).1 rfl
    rcases Nat.lt_or_ge 52 b.log2 with hc | hc
    · have : 2 ^ 53 ≤ 2 ^ b.log2 := Nat.pow_le_pow_right (by decide) hc
      omega
    · exact hc
  rw [mag_sc, mag_sc] at h
  unfold quoR
  have gw := place_ge w
  have gv := place_ge v
  generalize hk1 : 54 + (magOf w).log2 - 52 = k1 at *
  generalize hk2 : 54 + (magOf v).log2 - 52 = k2 at *
  generalize hb1 : (a.log2 : Int) - 52 - placeOf w - (k1 : Int) = b1 at *
  generalize hb2 : (b.log2 : Int) - 52 - placeOf v - (k2 : Int) = b2 at *
  generalize hX1 : (a <<< (52 - a.log2)) <<< k1 = X1 at *
  generalize hX2 : (b <<< (52 - b.log2)) <<< k2 = X2 at *
  obtain ⟨c, c1, c2⟩ : ∃ c : Int, c ≤ b1 ∧ c ≤ b2 := ⟨min b1 b2, by omega, by omega⟩
  rw [← rungZ_scale b1 (b1 - c).toNat nw pa.1 (by omega), ← rungZ_scale b2 (b2 - c).toNat nv pb.1 (by omega)]
  rw [show b1 - (((b1 - c).toNat : Nat) : Int) = c by omega, show b2 - (((b2 - c).toNat : Nat) : Int) = c by omega]
  have q1 : 0 < 2 ^ (b1 - c).toNat := Nat.two_pow_pos _
  have q2 : 0 < 2 ^ (b2 - c).toNat := Nat.two_pow_pos _
  refine rungZ_mono c nw nv (Nat.le_trans pa.1 (Nat.le_mul_of_pos_right _ q1)) (Nat.le_trans pb.1 (Nat.le_mul_of_pos_right _ q2)) ?_ ?_ ?_
  · rw [log2_scale _ nw pa.1]; omega
  · rw [log2_scale _ nv pb.1]; omega
  · rw [← hX1, ← hX2]
    simp only [Nat.shiftLeft_eq]
    have f1 : a * 2 ^ (52 - a.log2) * 2 ^ k1 * 2 ^ (b1 - c).toNat = a * 2 ^ (-(placeOf w) - c).toNat := by
      rw [Nat.mul_assoc, Nat.mul_assoc, ← Nat.pow_add, ← Nat.pow_add]; congr 2; omega
    have f2 : b * 2 ^ (52 - b.log2) * 2 ^ k2 * 2 ^ (b2 - c).toNat = b * 2 ^ (-(placeOf v) - c).toNat := by
      rw [Nat.mul_assoc, Nat.mul_assoc, ← Nat.pow_add, ← Nat.pow_add]; congr 2; omega
    rw [f1, f2]
    generalize hE1 : (-(placeOf w) - c).toNat = E1
    generalize hE2 : (-(placeOf v) - c).toNat = E2
    apply Nat.le_of_mul_le_mul_right _ (Nat.two_pow_pos (1074 - c).toNat)
    have g1 : a * 2 ^ E1 * magOf v * 2 ^ (1074 - c).toNat = a * (magOf v * 2 ^ (placeOf v + 1074).toNat) * 2 ^ (E1 + E2) := by
      rw [show (1074 - c).toNat = (placeOf v + 1074).toNat + E2 by omega, Nat.pow_add, Nat.pow_add]
      simp only [Nat.mul_assoc, Nat.mul_comm, Nat.mul_left_comm]
    have g2 : b * 2 ^ E2 * magOf w * 2 ^ (1074 - c).toNat = b * (magOf w * 2 ^ (placeOf w + 1074).toNat) * 2 ^ (E1 + E2) := by
      rw [show (1074 - c).toNat = (placeOf w + 1074).toNat + E1 by omega, Nat.pow_add, Nat.pow_add]
      simp only [Nat.mul_assoc, Nat.mul_comm, Nat.mul_left_comm]
    rw [g1, g2]
    exact Nat.mul_le_mul_right _ h


/-- The word of 'a / w', for a whole number and a word above 0. -/
def quoW (a w : Nat) : Nat := if a = 0 then 0 else min (quoR a w) 9218868437227405312

theorem quoW_eq {a w : Nat} (h : a < 2 ^ 53) (hw : 0 < w) (hi : w < 9218868437227405312) :
    double.div (double.write (.number false a 0)) w = some (quoW a w) := by
  unfold quoW
  by_cases h0 : a = 0
  · subst h0; rw [if_pos rfl]; exact div_zero hw hi
  · rw [if_neg h0]; exact div_eq (by omega) h hw hi

theorem quoW_le (a w : Nat) : quoW a w ≤ 9218868437227405312 := by unfold quoW; split <;> omega

theorem quoW_mono {a b w v : Nat} (ha : a < 2 ^ 53) (hb : b < 2 ^ 53) (hw : 0 < w) (hv : 0 < v) (h : a * sc v ≤ b * sc w) :
    quoW a w ≤ quoW b v := by
  unfold quoW
  by_cases h0 : a = 0
  · rw [if_pos h0]; omega
  · rw [if_neg h0]
    have h1 : b ≠ 0 := by
      intro h1; subst h1
      have : 0 < sc v := by have := @sc_zero v; omega
      have : 0 < a * sc v := Nat.mul_pos (by omega) this
      omega
    rw [if_neg h1]
    have := quo_mono (by omega) ha (by omega) hb hw hv h
    omega

theorem key_pos {r : Nat} (h : r < 2 ^ 63) : key r = r := by
  unfold key
  rw [show r / 2 ^ 63 = 0 by omega, Nat.mod_eq_of_lt h]
  rfl

theorem nan_pos {r : Nat} (h : r ≤ 9218868437227405312) : nan r = false := by
  unfold nan
  rw [Nat.mod_eq_of_lt (by omega)]
  simpa using h

/-- Of one weight the lesser size, of one size the greater weight comes to no more. -/
theorem halves {a b w v : Nat} (ha : a < 2 ^ 53) (hb : b < 2 ^ 53) (hw : 0 < w) (hwi : w < 9218868437227405312) (hv : 0 < v) (hvi : v < 9218868437227405312)
    (h : a ≤ b) (h2 : key v ≤ key w) : double.order (quoW a w) (quoW b v) ≠ some .gt := by
  have l1 := quoW_le a w
  have l2 := quoW_le b v
  rw [key_pos (by omega), key_pos (by omega)] at h2
  have hs : sc v ≤ sc w := by
    rcases Nat.lt_or_ge v w with h3 | h3
    · exact Nat.le_of_lt (sc_lt h3)
    · have : v = w := by omega
      rw [this]; exact Nat.le_refl _
  have := quoW_mono ha hb hw hv (Nat.mul_le_mul h hs)
  rw [order_key _ _ (nan_pos l1) (nan_pos l2), key_pos (by omega), key_pos (by omega)]
  intro hh
  have := Int.compare_eq_gt.1 (Option.some.inj hh)
  omega
end Go.Proofs.Ytfheamemoinfeaa.RtA
