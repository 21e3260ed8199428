/- RatioOrders: the walk (no statement of its own). -/
import Derived.Test.YtfheamemoinfeaaFe
namespace Go.Proofs.Ytfheamemoinfeaa
open Go.RowKit
open RtA
set_option linter.unusedVariables false
theorem nil_none {w : World} {A : Option Addr} {l : List Nat} (h : SrcF w A l) (hA : A = none) : l = [] := by
  rcases h with h | ⟨ad, e, _⟩
  · exact h
  · rw [hA] at e; cases e
theorem SrcF.take {w : World} {A : Option Addr} {l : List Nat} (h : SrcF w A l) (k : Nat) : SrcF w A (l.take k) := by
  rcases h with rfl | ⟨ad, rfl, h1, h2⟩
  · exact .inl (by simp)
  · refine .inr ⟨ad, rfl, h1, fun j hj => ?_⟩
    rw [List.length_take] at hj
    rw [h2 j (by omega)]
    unfold nthF
    rw [List.getD_eq_getElem?_getD, List.getD_eq_getElem?_getD, List.getElem?_take, if_pos (by omega)]
/-- Numbers in the law's form: what came, its first k. -/
theorem own_empty (w : World) : OwnF (w.alloc (.cells #[] 24)) w.heap.size (.slice (some ⟨w.heap.size, 0, none⟩) 0 0) [] := World.ownsRow_made w #[] 0 (Nat.le_refl _) (by simp [maxLen]) rfl
theorem own_same {w : World} {o : Obj} {w' : World} (hg : (w.alloc o).grownBy w' (some w.heap.size)) : w.grownBy w' none :=
  ⟨hg.os, hg.tape, hg.output, Nat.le_trans (by simp) hg.size, fun k hk _ => (hg.block k (by simp; omega) (by simp; omega)).trans ((World.grownBy_alloc w o none).block k hk (by simp))⟩
theorem own_taken {w1 w2 : World} {v2 : Value} {l : List Nat} {k : Nat} (hO2 : OwnF w2 w1.heap.size v2 ([] ++ l)) (hg2 : (w1.alloc (.cells #[] 24)).grownBy w2 (some w1.heap.size)) (hk : l.length = k) :
    ∃ A2 c2, v2 = .slice A2 k c2 ∧ k ≤ c2 ∧ Hid (OwnF w2 w1.heap.size (.slice A2 k c2) l) ∧ w1.grownBy w2 none := by
  rw [List.nil_append] at hO2
  obtain ⟨A2, c2, rfl, h1, _⟩ := hO2.form
  subst hk
  exact ⟨A2, c2, rfl, h1, Lib.hid hO2, own_same hg2⟩
theorem cm_le_trans {x y z : Nat} (h : cm x y ≤ 0) (h2 : cm y z ≤ 0) : cm x z ≤ 0 := by
  unfold cm at *
  split at h <;> split at h2 <;> split <;> (try split) <;> (try split at h) <;> (try split at h2) <;> omega
theorem cm_self (x y : Nat) : (kx x < kx y ∧ cm x y = -1) ∨ (kx x = kx y ∧ cm x y = 0) ∨ (kx y < kx x ∧ cm x y = 1) := by
  unfold cm
  rcases Int.lt_trichotomy (kx x) (kx y) with h | h | h
  · exact .inl ⟨h, if_pos h⟩
  · exact .inr (.inl ⟨h, by rw [if_neg (by omega), if_neg (by omega)]⟩)
  · exact .inr (.inr ⟨h, by rw [if_neg (by omega), if_pos h]⟩)
set_option maxRecDepth 100000 in
set_option maxHeartbeats 2000000 in
theorem orders_walk (A : Option Addr) (n c : Nat) (l : List Nat) (w : World) (hn : l.length = n) (hw : SrcF w A l) (hA : A = none → c = 0) (hnc : n ≤ c) (hm : c ≤ maxLen) : Calls Try.prog 3 #[.slice A n c] w fun e w' => e = .returned (.bool true) ∧ Below w.heap.size w w' := by
  unfold maxLen at hm
  obtain ⟨k, hk1, hk2, hk3⟩ : ∃ k : Nat, (if (12 : Int) < (n : Int) then (12 : Int) else (n : Int)) = (k : Int) ∧ k ≤ n ∧ k ≤ 12 := ⟨min n 12, by split <;> omega, by omega, by omega⟩
  have hkl : (l.take k).length = k := by rw [List.length_take]; omega
  have HW := Lib.hid (hw.take k)
  have HKL := Lib.hid hkl
  have HA := Lib.hid hA
  clear hw hkl hn hA
  generalize l.take k = l at *
  go_enter Try.func3, Try.ntmps3
  go_wp2_with (go_at_call 9; refine (awake_any _).mono ?_)
  rintro e w1 ⟨rfl, hg1⟩
  have HG1 := Lib.hid hg1
  have OE := Lib.hid (own_empty w1)
  have SE := Lib.hid ((HW.out.grown hg1).grown (World.grownBy_alloc w1 (.cells #[] 24) none))
  clear hg1
  go_wp2_with (at_builtin; refine appF_own rfl (.tmp 12) (.tmp 17) rfl _ w1.heap.size k c _ [] l A HKL.out (by rfl) (by rfl) OE.out SE.out HA.out (by simp) (by simp) (by omega) ?_; rintro v2 w2 hO2 hg2 -; obtain ⟨A2, c2, rfl, -, O2, hg3⟩ := own_taken hO2 hg2 HKL.out; clear hO2 hg2)
  have B2 := Lib.hid (below_of_grown (HG1.out.trans hg3))
  have S2 := Lib.hid (O2.out.src HKL.out.symm)
  clear hg3
  have HC : Hid (∀ j, j < k → ∃ ad, A2 = some ad ∧ w2.cell? (ad.add j) = some (.float .f64 (nthF l j))) := by
    apply Lib.hid
    intro j hj
    rcases S2.out with rfl | ⟨ad, rfl, _, h⟩
    · have := HKL.out; simp at this; omega
    · exact ⟨ad, rfl, h j (by rw [HKL.out]; exact hj)⟩
  have CM := Lib.hid fcmp_any
  have CA := Lib.hid rahead_any
  have CF := Lib.hid (ffirst_any A2 k c2 l w2 HKL.out (by omega) S2.out)
  have CR := Lib.hid (rfirst_any A2 k c2 l w2 HKL.out (by omega) S2.out)
  clear hnc hm
  go_loop [21] (fun i => ∃ p : Nat, p ≤ k ∧ i = .int .i64 (p : Int)) (fun i => k - (intOf i).toNat)
  case atStart => exact ⟨0, Nat.zero_le _, rfl⟩
  case round =>
    obtain ⟨p, hp, rfl⟩ := hrel
    by_cases hpk : p < k
    · obtain ⟨ad, rfl, cp⟩ := HC.out p hpk
      have HC2 : Hid (∀ j, j < k → w2.cell? (ad.add j) = some (.float .f64 (nthF l j))) := by
        apply Lib.hid
        intro j hj
        obtain ⟨ad', e, h⟩ := HC.out j hj
        injection e with e
        subst e
        exact h
      go_wp2_with fail
      generalize nthF l p = x at *
      clear cp
      go_loop [27] (fun i => ∃ q : Nat, q ≤ k ∧ i = .int .i64 (q : Int)) (fun i => k - (intOf i).toNat)
      case atStart => exact ⟨0, Nat.zero_le _, rfl⟩
      case round =>
        obtain ⟨q, hq, rfl⟩ := hrel
        by_cases hqk : q < k
        · have cq := HC2.out q hqk
          generalize nthF l q = y at *
          have c1 := CM.out x y
          have a1 := CA.out x y
          have a2 := CA.out y x
          rcases cm_self x y with ⟨h, h2⟩ | ⟨h, h2⟩ | ⟨h, h2⟩
          · rw [h2] at c1
            rw [ahead_true h] at a1
            rw [ahead_false (show ¬ kx y < kx x by omega)] at a2
            have C1 := Lib.hid c1
            have A1 := Lib.hid a1
            have A2' := Lib.hid a2
            have HT := Lib.hid (show cm x y ≤ 0 by omega)
            clear h h2 c1 a1 a2
            go_wp2_with (first | (go_at_call 11; refine (C1.out _).mono ?_; rintro e w' ⟨rfl, rfl⟩) | (go_at_call 10; first | ((with_reducible refine (A1.out _).mono ?_); rintro e w' ⟨rfl, rfl⟩) | ((with_reducible refine (A2'.out _).mono ?_); rintro e w' ⟨rfl, rfl⟩)))
            go_loop [44] (fun i => ∃ r : Nat, r ≤ k ∧ i = .int .i64 (r : Int)) (fun i => k - (intOf i).toNat)
            case atStart => exact ⟨0, Nat.zero_le _, rfl⟩
            case round =>
              obtain ⟨r, hr, rfl⟩ := hrel
              by_cases hrk : r < k
              · have cr := HC2.out r hrk
                have z2 := CM.out y (nthF l r)
                have z3 := CM.out x (nthF l r)
                by_cases h5 : cm y (nthF l r) ≤ 0
                · have h6 := cm_le_trans HT.out h5
                  generalize cm y (nthF l r) = d2 at *
                  generalize cm x (nthF l r) = d3 at *
                  generalize nthF l r = z at *
                  have Z2 := Lib.hid z2
                  have Z3 := Lib.hid z3
                  clear z2 z3
                  go_wp2_with (go_at_call 11; first | ((with_reducible refine (C1.out _).mono ?_); rintro e w' ⟨rfl, rfl⟩) | ((with_reducible refine (Z2.out _).mono ?_); rintro e w' ⟨rfl, rfl⟩) | ((with_reducible refine (Z3.out _).mono ?_); rintro e w' ⟨rfl, rfl⟩))
                  go_round
                  case rel => exact ⟨r + 1, by omega, by go_num⟩
                  case measure => simp [intOf]; omega
                · generalize cm y (nthF l r) = d2 at *
                  generalize nthF l r = z at *
                  have Z2 := Lib.hid z2
                  clear z2 z3
                  go_wp2_with (go_at_call 11; first | ((with_reducible refine (C1.out _).mono ?_); rintro e w' ⟨rfl, rfl⟩) | ((with_reducible refine (Z2.out _).mono ?_); rintro e w' ⟨rfl, rfl⟩))
                  go_round
                  case rel => exact ⟨r + 1, by omega, by go_num⟩
                  case measure => simp [intOf]; omega
              · have : r = k := by omega
                subst this
                go_wp2_with fail
                go_round
                case rel => exact ⟨q + 1, by omega, by go_num⟩
                case measure => simp [intOf]; omega
          · rw [h2] at c1
            rw [ahead_false (show ¬ kx x < kx y by omega)] at a1
            rw [ahead_false (show ¬ kx y < kx x by omega)] at a2
            have C1 := Lib.hid c1
            have A1 := Lib.hid a1
            have A2' := Lib.hid a2
            have HT := Lib.hid (show cm x y ≤ 0 by omega)
            clear h h2 c1 a1 a2
            go_wp2_with (first | (go_at_call 11; refine (C1.out _).mono ?_; rintro e w' ⟨rfl, rfl⟩) | (go_at_call 10; first | ((with_reducible refine (A1.out _).mono ?_); rintro e w' ⟨rfl, rfl⟩) | ((with_reducible refine (A2'.out _).mono ?_); rintro e w' ⟨rfl, rfl⟩)))
            go_loop [44] (fun i => ∃ r : Nat, r ≤ k ∧ i = .int .i64 (r : Int)) (fun i => k - (intOf i).toNat)
            case atStart => exact ⟨0, Nat.zero_le _, rfl⟩
            case round =>
              obtain ⟨r, hr, rfl⟩ := hrel
              by_cases hrk : r < k
              · have cr := HC2.out r hrk
                have z2 := CM.out y (nthF l r)
                have z3 := CM.out x (nthF l r)
                by_cases h5 : cm y (nthF l r) ≤ 0
                · have h6 := cm_le_trans HT.out h5
                  generalize cm y (nthF l r) = d2 at *
                  generalize cm x (nthF l r) = d3 at *
                  generalize nthF l r = z at *
                  have Z2 := Lib.hid z2
                  have Z3 := Lib.hid z3
                  clear z2 z3
                  go_wp2_with (go_at_call 11; first | ((with_reducible refine (C1.out _).mono ?_); rintro e w' ⟨rfl, rfl⟩) | ((with_reducible refine (Z2.out _).mono ?_); rintro e w' ⟨rfl, rfl⟩) | ((with_reducible refine (Z3.out _).mono ?_); rintro e w' ⟨rfl, rfl⟩))
                  go_round
                  case rel => exact ⟨r + 1, by omega, by go_num⟩
                  case measure => simp [intOf]; omega
                · generalize cm y (nthF l r) = d2 at *
                  generalize nthF l r = z at *
                  have Z2 := Lib.hid z2
                  clear z2 z3
                  go_wp2_with (go_at_call 11; first | ((with_reducible refine (C1.out _).mono ?_); rintro e w' ⟨rfl, rfl⟩) | ((with_reducible refine (Z2.out _).mono ?_); rintro e w' ⟨rfl, rfl⟩))
                  go_round
                  case rel => exact ⟨r + 1, by omega, by go_num⟩
                  case measure => simp [intOf]; omega
              · have : r = k := by omega
                subst this
                go_wp2_with fail
                go_round
                case rel => exact ⟨q + 1, by omega, by go_num⟩
                case measure => simp [intOf]; omega
          · rw [h2] at c1
            rw [ahead_false (show ¬ kx x < kx y by omega)] at a1
            rw [ahead_true h] at a2
            have C1 := Lib.hid c1
            have A1 := Lib.hid a1
            have A2' := Lib.hid a2
            clear h h2 c1 a1 a2
            go_wp2_with (first | (go_at_call 11; refine (C1.out _).mono ?_; rintro e w' ⟨rfl, rfl⟩) | (go_at_call 10; first | ((with_reducible refine (A1.out _).mono ?_); rintro e w' ⟨rfl, rfl⟩) | ((with_reducible refine (A2'.out _).mono ?_); rintro e w' ⟨rfl, rfl⟩)))
            go_loop [44] (fun i => ∃ r : Nat, r ≤ k ∧ i = .int .i64 (r : Int)) (fun i => k - (intOf i).toNat)
            case atStart => exact ⟨0, Nat.zero_le _, rfl⟩
            case round =>
              obtain ⟨r, hr, rfl⟩ := hrel
              by_cases hrk : r < k
              · have cr := HC2.out r hrk
                go_wp2_with (go_at_call 11; first | ((with_reducible refine (C1.out _).mono ?_); rintro e w' ⟨rfl, rfl⟩))
                go_round
                case rel => exact ⟨r + 1, by omega, by go_num⟩
                case measure => simp [intOf]; omega
              · have : r = k := by omega
                subst this
                go_wp2_with fail
                go_round
                case rel => exact ⟨q + 1, by omega, by go_num⟩
                case measure => simp [intOf]; omega
        · have : q = k := by omega
          subst this
          go_wp2_with fail
          go_round
          case rel => exact ⟨p + 1, by omega, by go_num⟩
          case measure => simp [intOf]; omega
    · have : p = k := by omega
      subst this
      go_wp2_with (first | (go_at_call 12; refine CF.out.mono ?_; rintro e w' ⟨r1, rfl, hr1, rfl⟩; have R1 := Lib.hid hr1; clear hr1) | (go_at_call 13; refine CR.out.mono ?_; rintro e w' ⟨r2, rfl, hr2, rfl⟩; obtain rfl := R1.out.uniq hr2; clear hr2))
      go_ret
      exact ⟨rfl, B2.out⟩
end Go.Proofs.Ytfheamemoinfeaa
