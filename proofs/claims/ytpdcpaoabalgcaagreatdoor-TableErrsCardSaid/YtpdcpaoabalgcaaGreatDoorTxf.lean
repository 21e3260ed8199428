/- The walk of TableErrs (no statement of its own). Condition: the library's table reads as its initialiser lays it. -/
import Derived.Test.YtpdcpaoabalgcaaGreatDoorTxA
import Derived.Test.YtpdcpaoabalgcaaGreatDoorLk
import Derived.Test.YtpdcpaoabalgcaaGreatDoorTc1
import Derived.Deep.RegionWith
import Derived.Deep.CutRange
import Derived.Deep.CutBlock
namespace Go.Proofs.YtpdcpaoabalgcaaGreatDoor
open Go.RowKit Go.Shelf Go.Sort
set_option linter.unusedVariables false
attribute [local go_sem] Oper.semAt_some
attribute [local go_sem ↓] run_mn2
open Dm (Mem mem setV setO Tab)
def RIs (r : Bool) (n : Nat) (y : Nat → Int) : Prop := r = true ↔ RZ n y
theorem ris_yes {n : Nat} {y : Nat → Int} (h : RZ n y) : Hid (RIs true n y) := Lib.hid ⟨fun _ => h, fun _ => rfl⟩
theorem ris_no {n : Nat} {y : Nat → Int} (h : ¬ RZ n y) : Hid (RIs false n y) := Lib.hid ⟨fun e => (nomatch e), fun e => absurd e h⟩
def z12 (i : Nat) : Int := if i = 0 then 1 else 2
theorem z12_bytes (W : World) : Bytes (W.alloc (.cells #[.int .u8 1, .int .u8 2] 5)) (some ⟨W.heap.size, 0, none⟩) 2 z12 := by
  intro j hj
  refine ⟨_, rfl, by simp, ?_, ?_⟩
  · have hc := heap_alloc_new W (.cells #[.int .u8 1, .int .u8 2] 5)
    rcases (by omega : j = 0 ∨ j = 1) with rfl | rfl
    · exact (cell_of_row _ _ _ _ _ _ hc).trans rfl
    · exact (cell_of_row _ _ _ _ _ _ hc).trans rfl
  · unfold z12
    split <;> omega
theorem z12_small : smL z12 (min 2 3) = [2, 3] := by decide
theorem words_none (W : World) (z : Nat → Int) : Words W none 0 z := fun j hj => absurd hj (Nat.not_lt_zero _)
theorem made12 (w : World) : Calls Tryz.prog 7 #[.slice (some ⟨w.heap.size, 0, none⟩) 2 2, .int .i64 9, .slice none 0 0] (w.alloc (.cells #[.int .u8 1, .int .u8 2] 5)) (fun e w' => ∃ g h As cs Ac cc, e = .returned (.tuple #[.pointer (some ⟨g, 0, none⟩), .agg #[.slice As 2 cs, .int .i64 9, .slice Ac 6 cc]]) ∧
      TabAt w' g h [2, 3] 9 (mkC 9 (fun _ => 0) 0) ∧ Ints w' As [2, 3] ∧ 2 ≤ cs ∧ Zs w' Ac 6 (mkC 9 (fun _ => 0) 0) ∧ w.heap.size ≤ g ∧ w.heap.size ≤ h ∧ Below w.heap.size w w') := by
  have nb := new_val w (.cells #[.int .u8 1, .int .u8 2] 5)
  refine (made_any (some ⟨w.heap.size, 0, none⟩) none 2 2 0 0 6 [2, 3] z12 (fun _ => 0) 9 _ (by omega) (z12_bytes w) (by omega) (words_none _ _) (by omega) (by omega) z12_small rfl).mono ?_
  rintro e w' ⟨g, h, As, cs, Ac, cc, rfl, h1, h2, h3, h4, h5, h6, h7⟩
  exact ⟨g, h, As, cs, Ac, cc, rfl, h1, h2, h3, h4, Nat.le_trans nb.size h5, Nat.le_trans nb.size h6, then_ nb h7⟩
set_option maxRecDepth 100000 in
set_option maxHeartbeats 16000000 in
theorem errs_walk (A B : Option Addr) (n c m d : Nat) (z y : Nat → Int) (k x o : Int) (w : World) (hT : Tab w) (hz : Ext w A n z) (hy : Ext w B m y)
    (nA nB : Nat) (hA : nA ≤ n) (hA4 : nA ≤ 4) (hAn : mn2 n 4 = nA) (hB : nB ≤ m) (hB4 : nB ≤ 4) (hBn : mn2 m 4 = nB) (hc : n ≤ c) (hd : m ≤ d) (ho0 : 0 ≤ o) (ho1 : o ≤ 65535) :
    Calls Tryz.prog 4 #[.slice A n c, .int .i64 k, .int .i64 x, .slice B m d, .int .u16 o] w fun e w' => e = .returned (.bool true) ∧ Below w.heap.size w w' := by
  have HTab := Lib.hid hT
  have HZ := Lib.hid hz
  have HY := Lib.hid hy
  have hAc : (nA : Int) ≤ (c : Int) := by omega
  have hBd : (nB : Int) ≤ (d : Int) := by omega
  have hA0 : 0 ≤ (nA : Int) := by omega
  have hB0 : 0 ≤ (nB : Int) := by omega
  clear hT hz hy
  go_enter Tryz.func4, Tryz.ntmps4
  go_wp2_with fail
  refine (awake4_true w HTab.out).mono ?_
  rintro e w1 ⟨rfl, b1⟩
  have B1 := Lib.hid b1
  clear b1
  go_upto_region 3 with fail
  go_cut [0, 3] from 41 to 52 (fun v0 v3 wx => ∃ A2 c2 A3 c3, v0 = .slice A2 nA c2 ∧ v3 = .slice A3 nB c3 ∧ Zs wx A2 nA z ∧ Zs wx A3 nB y ∧ Below w.heap.size w wx)
  case first =>
    have B1d := Lib.hid (then_ B1.out ((Below.refl w1.heap.size w1).drew))
    have E1 := Lib.hid (((HZ.out.below B1.out).less hA).below ((Below.refl w1.heap.size w1).drew))
    have E2 := Lib.hid (((HY.out.below B1.out).less hB).below ((Below.refl w1.heap.size w1).drew))
    go_region_with ((first
      | ((with_reducible refine (clone_ext A nA c z _ (by omega) (by first | exact E1.out | exact E1.out.below (by assumption))).mono ?_); rintro e w' ⟨⟨A2, c2, rfl, hA2⟩, hb2⟩)
      | ((with_reducible refine (clone_ext B nB d y _ (by omega) (by first | exact E2.out | exact E2.out.below (by assumption))).mono ?_); rintro e w' ⟨⟨A3, c3, rfl, hA3⟩, hb3⟩)))
    all_goals
      go_wp2_with fail
      go_meet
      exact ⟨A2, c2, A3, c3, rfl, rfl, by first | exact hA2 | exact hA2.below (by assumption) (Nat.le_refl _), by first | exact hA3 | exact hA3.below (by assumption) (Nat.le_refl _), by first | exact then_ (then_ B1d.out hb2) hb3 | exact then_ (then_ B1d.out hb3) hb2⟩
  case rest =>
    obtain ⟨A2, c2, A3, c3, rfl, rfl, hZ2, hZ3, hB'⟩ := hcut
    have Z2 := Lib.hid hZ2
    have Z3 := Lib.hid hZ3
    have B2 := Lib.hid hB'
    clear hZ2 hZ3 hB' HZ HY B1 hAc hBd hAn hBn hA hB
    go_wp2_with fail
    refine (tnew_raw A2 nA c2 k x z wc Z2.out (by omega)).mono ?_
    rintro e w3 ⟨⟨tv, rfl, htv⟩, b3⟩
    have B3 := Lib.hid (then_ B2.out b3)
    have Z23 := Lib.hid (Z2.out.below b3 (Nat.le_refl _))
    have Z33 := Lib.hid (Z3.out.below b3 (Nat.le_refl _))
    obtain ⟨E, hE⟩ : ∃ E, rawE nA k x z = E := ⟨_, rfl⟩
    rw [hE] at htv ⊢
    have HE := Lib.hid hE
    have HTV := Lib.hid htv
    clear b3 hE htv Z2 Z3 B2
    go_wp2_with fail
    go_loop [13, 14, 16, 62] (fun ok count _ i => ∃ (j C : Nat) (b : Bool), j ≤ nA ∧ i = .int .i64 j ∧ ok = .bool b ∧ count = .int .i64 (C : Int) ∧ Hid (b = okZ z j ∧ (b = true → C = prZ z j ∧ C ≤ 32 ^ j))) (fun _ _ _ i => nA - (intOf i).toNat)
    case atStart => exact ⟨0, 1, true, Nat.zero_le _, rfl, rfl, rfl, Lib.hid ⟨rfl, fun _ => ⟨rfl, Nat.le_refl _⟩⟩⟩
    case round =>
      obtain ⟨j, C, b, hj, rfl, rfl, rfl, HB⟩ := hrel
      by_cases hlt : j < nA
      · obtain ⟨g, o', rfl, hcell⟩ := Z23.out.at_ hlt
        have ji : (j : Int) < (nA : Int) := by omega
        have j0 : (0 : Int) ≤ (j : Int) := by omega
        have HS : Hid (okZ z (j + 1) = (okZ z j && (decide (1 ≤ z j) && decide (z j ≤ 32))) ∧ prZ z (j + 1) = prZ z j * (z j).toNat) := Lib.hid ⟨rfl, rfl⟩
        cases b with
        | false =>
          have HN : Hid (false = okZ z (j + 1) ∧ (false = true → C = prZ z (j + 1) ∧ C ≤ 32 ^ (j + 1))) := Lib.hid ⟨by rw [HS.out.1, ← HB.out.1]; rfl, fun h => by cases h⟩
          generalize z j = q at hcell HS
          go_wp2_with fail
          go_round
          case rel => exact ⟨j + 1, C, false, by omega, by go_num, rfl, rfl, HN⟩
          case measure => simp [intOf]; omega
        | true =>
          obtain ⟨q, hq⟩ : ∃ q, z j = q := ⟨_, rfl⟩
          rw [hq] at hcell HS
          have HC := Lib.hid (HB.out.2 rfl)
          have HO := Lib.hid HB.out.1
          clear hq HB
          by_cases h1 : 1 ≤ q
          · by_cases h2 : q ≤ 32
            · obtain ⟨u, rfl⟩ : ∃ u : Nat, q = u := ⟨q.toNat, by omega⟩
              have hC : C ≤ 32768 := by
                have h5 : 32 ^ j ≤ 32 ^ 3 := Nat.pow_le_pow_right (by omega) (by omega)
                have e5 : (32 : Nat) ^ 3 = 32768 := by decide
                have := HC.out.2
                omega
              have hcy : C * u ≤ 1048576 := by have := Nat.mul_le_mul hC (show u ≤ 32 by omega); omega
              have HN : Hid (true = okZ z (j + 1) ∧ (true = true → C * u = prZ z (j + 1) ∧ C * u ≤ 32 ^ (j + 1))) := Lib.hid ⟨by rw [HS.out.1, ← HO.out]; simp; omega, fun _ => ⟨by rw [HS.out.2, HC.out.1]; rfl, by rw [Nat.pow_succ]; exact Nat.mul_le_mul HC.out.2 (by omega)⟩⟩
              have hm1 : (C : Int) * (u : Int) ≤ 1048576 := by rw [← Int.natCast_mul]; omega
              have hm2 : 0 ≤ (C : Int) * (u : Int) := by rw [← Int.natCast_mul]; omega
              clear hcy
              go_wp2_with fail
              go_round
              case rel => exact ⟨j + 1, C * u, true, by omega, by go_num, rfl, by rw [Int.natCast_mul], HN⟩
              case measure => simp [intOf]; omega
            · have hd2 : decide (q ≤ 32) = false := by rw [decide_eq_false_iff_not]; omega
              have hd1 : decide (1 ≤ q) = true := by rw [decide_eq_true_iff]; omega
              have HN : Hid (false = okZ z (j + 1) ∧ (false = true → C = prZ z (j + 1) ∧ C ≤ 32 ^ (j + 1))) := Lib.hid ⟨by rw [HS.out.1, hd2]; simp, fun h => by cases h⟩
              go_wp2_with fail
              go_round
              case rel => exact ⟨j + 1, C, false, by omega, by go_num, rfl, rfl, HN⟩
              case measure => simp [intOf]; omega
          · have hd1 : decide (1 ≤ q) = false := by rw [decide_eq_false_iff_not]; omega
            have HN : Hid (false = okZ z (j + 1) ∧ (false = true → C = prZ z (j + 1) ∧ C ≤ 32 ^ (j + 1))) := Lib.hid ⟨by rw [HS.out.1, hd1]; simp, fun h => by cases h⟩
            go_wp2_with fail
            go_round
            case rel => exact ⟨j + 1, C, false, by omega, by go_num, rfl, rfl, HN⟩
            case measure => simp [intOf]; omega
      · obtain rfl : j = nA := by omega
        have hfin : Hid ((b = false → E = 1) ∧ (b = true → ¬ C ≤ 4096 → E = 5) ∧ (b = true → C ≤ 4096 → ¬ InK x k → E = 3) ∧ (b = true → C ≤ 4096 → InK x k → E = 0)) := Lib.hid (by
          have h1 := HB.out.1
          have h2 := HB.out.2
          have hE := HE.out
          unfold rawE at hE
          refine ⟨fun hb => ?_, fun hb hc => ?_, fun hb hc hi => ?_, fun hb hc hi => ?_⟩
          · rw [← h1, hb] at hE
            exact hE.symm
          all_goals
            subst hb
            rw [← h1, if_pos rfl, ← (h2 rfl).1] at hE
          · rw [if_neg hc] at hE; exact hE.symm
          · rw [if_pos hc, if_neg hi] at hE; exact hE.symm
          · rw [if_pos hc, if_pos hi] at hE; exact hE.symm)
        have hCb : b = true → C ≤ 1048576 := fun hb => by
          have h4 := (HB.out.2 hb).2
          have h5 : 32 ^ j ≤ 32 ^ 4 := Nat.pow_le_pow_right (by omega) (by omega)
          have e5 : (32 : Nat) ^ 4 = 1048576 := by decide
          omega
        have HCB := Lib.hid hCb
        clear hCb HB HE hlt hj
        have ji : ¬ ((j : Int) < (j : Int)) := by omega
        go_upto_region 14 with fail
        go_cut [17] from 80 to 89 (fun v17 wx => wx = w3 ∧ ∃ t : Bool, v17 = .bool t ∧ Hid (t = (E == 0)))
        case first =>
          cases b with
          | false =>
            obtain rfl := hfin.out.1 rfl
            go_wp2_with fail
            go_meet
            exact ⟨rfl, false, rfl, Lib.hid rfl⟩
          | true =>
            by_cases hc4 : C ≤ 4096
            · have hci : (C : Int) ≤ 4096 := by omega
              by_cases hin : InK x k
              · obtain rfl := hfin.out.2.2.2 rfl hc4 hin
                have HI := Lib.hid hin
                clear hin
                go_wp2_with (go_at_call 17; refine (rin_is x k true _ ⟨fun _ => rfl, fun _ => HI.out⟩).mono ?_; rintro e w' ⟨rfl, rfl⟩)
                go_meet
                exact ⟨rfl, true, rfl, Lib.hid rfl⟩
              · obtain rfl := hfin.out.2.2.1 rfl hc4 hin
                have HI := Lib.hid hin
                clear hin
                go_wp2_with (go_at_call 17; refine (rin_is x k false _ ⟨fun h => absurd h HI.out, fun h => by cases h⟩).mono ?_; rintro e w' ⟨rfl, rfl⟩)
                go_meet
                exact ⟨rfl, false, rfl, Lib.hid rfl⟩
            · have hci : decide ((C : Int) ≤ 4096) = false := by rw [decide_eq_false_iff_not]; omega
              obtain rfl := hfin.out.2.1 rfl hc4
              go_wp2_with fail
              go_meet
              exact ⟨rfl, false, rfl, Lib.hid rfl⟩
        case rest =>
          obtain ⟨rfl, t, rfl, ht⟩ := hcut
          go_upto_region 15 with fail
          go_cut [127] from 90 to 127 (fun v127 wx => wx = wc ∧ v127 = .bool false)
          case first =>
            cases b with
            | false =>
              obtain rfl := hfin.out.1 rfl
              obtain rfl : t = false := ht.out
              go_wp2_with fail
              go_meet
              exact ⟨rfl, rfl⟩
            | true =>
              by_cases hc4 : C ≤ 4096
              · have hci : decide ((C : Int) ≤ 4096) = true := by rw [decide_eq_true_iff]; omega
                have hcj : decide (4096 < (C : Int)) = false := by rw [decide_eq_false_iff_not]; omega
                by_cases hin : InK x k
                · obtain rfl := hfin.out.2.2.2 rfl hc4 hin
                  obtain rfl : t = true := ht.out
                  clear hin
                  go_wp2_with fail
                  go_meet
                  exact ⟨rfl, rfl⟩
                · obtain rfl := hfin.out.2.2.1 rfl hc4 hin
                  obtain rfl : t = false := ht.out
                  clear hin
                  go_wp2_with fail
                  go_meet
                  exact ⟨rfl, rfl⟩
              · have hci : decide ((C : Int) ≤ 4096) = false := by rw [decide_eq_false_iff_not]; omega
                have hcj : decide (4096 < (C : Int)) = true := by rw [decide_eq_true_iff]; omega
                obtain rfl := hfin.out.2.1 rfl hc4
                obtain rfl : t = false := ht.out
                go_wp2_with fail
                go_meet
                exact ⟨rfl, rfl⟩
          case rest =>
            obtain ⟨rfl, rfl⟩ := hcut
            clear hfin HCB ht Z23
            go_wp2_with fail
            refine (made12 _).mono ?_
            rintro e w4 ⟨g, h, As, cs, Ac, cc, rfl, hTb, hI, hcs, hZc, hg, hh, b4⟩
            have n5 := new_val w4 (.cells #[.slice As 2 cs, .int .i64 9, .slice Ac 6 cc] 30)
            have S5 : Hid (TwS w w4.heap.size g h As cs Ac cc 6 [2, 3] 9 (mkC 9 (fun _ => 0) 0) (w4.alloc (.cells #[.slice As 2 cs, .int .i64 9, .slice Ac 6 cc] 30))) :=
              Lib.hid ⟨heap_alloc_new w4 _, hTb.below n5, hI.below n5 (Nat.le_refl _), hZc.below n5 (Nat.le_refl _), HTab.out.below (then_ (then_ B3.out b4) n5) HTab.out.pos, then_ (then_ B3.out b4) n5⟩
            have ZB1 : Hid (∀ i, 0 ≤ mkC 9 (fun _ => 0) 0 i ∧ mkC 9 (fun _ => 0) 0 i ≤ 9) := Lib.hid fun i => mkC_in (by omega) (fun h => absurd h (Nat.not_lt_zero _))
            have Z5 := Lib.hid ((Z33.out.below b4 (Nat.le_refl _)).below n5 (Nat.le_refl _))
            generalize mkC 9 (fun _ => 0) 0 = z1 at S5 ZB1
            clear hTb hI hcs hZc hg hh b4 n5 B3 Z33
            go_upto_region 18 with fail
            generalize w4.alloc (.cells #[.slice As 2 cs, .int .i64 9, .slice Ac 6 cc] 30) = w5 at S5 Z5 ⊢
            generalize w4.heap.size = bx at S5 ⊢
            obtain ⟨q, hq⟩ : ∃ q, o % 2 = q := ⟨_, rfl⟩
            have hq01 : q = 0 ∨ q = 1 := by omega
            have HQ := Lib.hid hq01
            have hqr : 0 ≤ q ∧ q ≤ 1 := by omega
            have TN : Hid (Calls Tryz.prog 16 #[.slice (some ⟨w5.heap.size, 0, none⟩) 1 1, .int .i64 (9 + q), .int .i64 0] (w5.alloc (.cells #[.int .i64 2] 3)) _) := Lib.hid (tnew_ok (some ⟨w5.heap.size, 0, none⟩) 1 1 [2] (9 + q) 0 _ rfl (by decide) (lit_oneJ w5 2) (by decide) (by decide) (by omega) (by omega) (by omega) (by omega))
            have n6 := Lib.hid (new_val w5 (.cells #[.int .i64 2] 3))
            have eo : Hid (o % 2 = q) := Lib.hid hq
            clear hq01
            go_wp2_with fail
            rw [eo.out]
            refine TN.out.mono ?_
            rintro e w6 ⟨g2, h2, rfl, hT2, -, -, b6⟩
            have S6 := Lib.hid ((S5.out.next n6.out).next b6)
            have Z6 := Lib.hid ((Z5.out.below n6.out (Nat.le_refl _)).below b6 (Nat.le_refl _))
            have T6 := Lib.hid hT2
            clear hT2 b6 n6 TN S5 Z5
            go_upto_region 19 with fail
            go_cut [22] from 142 to 159 (fun v22 wx => Below w6.heap.size w6 wx ∧ ∃ r : Bool, v22 = .bool r ∧ Hid (RIs r nB y))
            case first =>
              by_cases hm2 : nB = 2
              · subst hm2
                obtain ⟨gz, oz, rfl, hc0⟩ := Z6.out.at_ (i := 0) (by omega)
                obtain ⟨gz', oz', e', hc1⟩ := Z6.out.at_ (i := 1) (by omega)
                obtain ⟨rfl, rfl⟩ : gz = gz' ∧ oz = oz' := by injection e' with e'; injection e' with a b; exact ⟨a, b⟩
                rw [Nat.add_zero] at hc0
                clear e'
                have HR : Hid (RZ 2 y ↔ 0 ≤ y 0 ∧ y 0 < y 1) := Lib.hid ⟨fun h => h.2, fun h => ⟨rfl, h⟩⟩
                generalize y 0 = y0 at hc0 HR
                generalize y 1 = y1 at hc1 HR
                by_cases p0 : 0 ≤ y0
                · by_cases p1 : y0 < y1
                  · have hf := ris_yes (HR.out.2 ⟨p0, p1⟩)
                    go_quiet (fail)
                    go_wp2_with fail
                    go_meet
                    exact ⟨next_drewN (Below.refl _ _) _, true, rfl, hf⟩
                  · have d1 : decide (y0 < y1) = false := decide_eq_false_iff_not.2 p1
                    have hf := ris_no (fun h => p1 (HR.out.1 h).2)
                    go_quiet (fail)
                    go_wp2_with fail
                    go_meet
                    exact ⟨next_drewN (Below.refl _ _) _, false, rfl, hf⟩
                · have d1 : decide (0 ≤ y0) = false := decide_eq_false_iff_not.2 p0
                  have hf := ris_no (fun h => p0 (HR.out.1 h).1)
                  go_quiet (fail)
                  go_wp2_with fail
                  go_meet
                  exact ⟨next_drewN (Below.refl _ _) _, false, rfl, hf⟩
              · have d1 : ((nB : Int) == 2) = false := by rw [beq_eq_false_iff_ne]; omega
                have hf := ris_no (y := y) (fun h => hm2 h.1)
                go_quiet (fail)
                go_wp2_with fail
                go_meet
                exact ⟨next_drewN (Below.refl _ _) _, false, rfl, hf⟩
            case rest =>
              obtain ⟨hb7, r, rfl, hr⟩ := hcut
              have S7 := Lib.hid (S6.out.next hb7)
              have Z7 := Lib.hid (Z6.out.below hb7 (Nat.le_refl _))
              have T7 := Lib.hid (T6.out.below hb7)
              clear S6 Z6 T6 hb7
              have n8 := Lib.hid (new_val wc (.cells #[.int .i64 1099511627776] 3))
              have JE : Hid (Calls Tryz.prog 10 #[.pointer (some ⟨g, 0, none⟩), .slice A3 nB c3, .pointer (some ⟨g2, 0, none⟩), .slice (some ⟨wc.heap.size, 0, none⟩) 1 1] (wc.alloc (.cells #[.int .i64 1099511627776] 3)) _) :=
                Lib.hid (join_errs g h g2 h2 nB c3 1 A3 (some ⟨wc.heap.size, 0, none⟩) y 9 (9 + q) z1 (fun _ => 0) _ (S7.out.t.below n8.out) (T7.out.below n8.out) (Z7.out.below n8.out (Nat.le_refl _)) (lit_oneJ wc 1099511627776) (by omega) (fun e => nomatch e) (by omega) (by omega) (fun i _ => ZB1.out i) (fun i _ => by omega))
              go_wp2_with fail
              refine JE.out.mono ?_
              rintro e w8 ⟨⟨p1, p2, f, rfl, hf1, hf2⟩, b8⟩
              have S8 := Lib.hid ((S7.out.next n8.out).next b8)
              have Z8 := Lib.hid ((Z7.out.below n8.out (Nat.le_refl _)).below b8 (Nat.le_refl _))
              have HF1 := Lib.hid hf1
              have HF2 := Lib.hid hf2
              clear b8 n8 JE S7 Z7 T7 hf1 hf2
              go_upto_block 2 with fail
              go_cut [26] from 169 to 187 (fun v26 wx => wx = w8 ∧ v26 = .int .i64 f)
              case first =>
                cases r with
                | false =>
                  obtain rfl := HF1.out fun h => by have := hr.out.2 h; cases this
                  go_wp2_with fail
                  go_meet
                  exact ⟨rfl, rfl⟩
                | true =>
                  have hR := Lib.hid (hr.out.1 rfl)
                  obtain rfl : nB = 2 := hR.out.1
                  obtain ⟨gz, oz, rfl, hc0⟩ := Z8.out.at_ (i := 0) (by omega)
                  obtain ⟨gz', oz', e', hc1⟩ := Z8.out.at_ (i := 1) (by omega)
                  obtain ⟨rfl, rfl⟩ : gz = gz' ∧ oz = oz' := by injection e' with e'; injection e' with a b; exact ⟨a, b⟩
                  rw [Nat.add_zero] at hc0
                  have HF3 := Lib.hid (HF2.out hR.out)
                  clear e' HF1 HF2 hr hR
                  generalize y 0 = y0 at hc0 HF3
                  generalize y 1 = y1 at hc1 HF3
                  by_cases p0 : y0 = 1099511627776
                  · subst p0
                    go_wp2_with fail
                    go_meet
                    exact ⟨rfl, rfl⟩
                  · have d0 : (y0 == 1099511627776) = false := by rw [beq_eq_false_iff_ne]; exact p0
                    by_cases p1 : y1 = 1099511627776
                    · subst p1
                      go_wp2_with fail
                      go_meet
                      exact ⟨rfl, rfl⟩
                    · have d1 : (y1 == 1099511627776) = false := by rw [beq_eq_false_iff_ne]; exact p1
                      have hf := HF3.out p0 p1
                      clear HF3
                      rcases HQ.out with rfl | rfl
                      · obtain rfl : f = 0 := hf
                        have d2 : (o % 2 == 1) = false := by rw [eo.out]; rfl
                        go_wp2_with fail
                        go_meet
                        exact ⟨rfl, rfl⟩
                      · obtain rfl : f = 3 := hf
                        have d2 : (o % 2 == 1) = true := by rw [eo.out]; rfl
                        go_wp2_with fail
                        go_meet
                        exact ⟨rfl, rfl⟩
              case rest =>
                obtain ⟨rfl, rfl⟩ := hcut
                clear HF1 HF2 hr HQ eo Z8
                go_wp2_with fail
                refine (tcopy_any g h 6 [2, 3] 9 z1 _ S8.out.t rfl (by decide) (by decide)).mono ?_
                rintro e w9 ⟨g', h', cc', rfl, hTC, hg', hh', b9⟩
                have n10 := new_val w9 (.cells #[.int .i64 0, .int .i64 0] 3)
                have B9 := Lib.hid (then_ b9 n10)
                have PT : Hid (Calls Tryz.prog 19 #[.pointer (some ⟨g', 0, none⟩), .slice (some ⟨w9.heap.size, 0, none⟩) 2 2, .int .i64 5] (w9.alloc (.cells #[.int .i64 0, .int .i64 0] 3)) _) :=
                  Lib.hid (tputC_ok g' h' cc' (some ⟨w9.heap.size, 0, none⟩) 2 2 0 [2, 3] [0, 0] 9 5 z1 _ (hTC.below n10) rfl (by decide) (by decide) (ints_zs (l := [0, 0]) (zs_two w9 3 (fun i => (nth [0, 0] i : Int)) 0 0 rfl rfl)) ⟨by decide, by decide, trivial⟩ rfl (by decide) (by omega) (by omega) (by omega) (by omega))
                have hh8 := hh'
                clear hTC hg' hh' b9 n10
                go_wp2_with fail
                refine PT.out.mono ?_
                rintro e w10 ⟨rfl, -, hgr⟩
                have S10 := Lib.hid (S8.out.next (B9.out.grown hgr B9.out.size (fun b e => by injection e with e; omega)))
                clear hgr PT B9 S8 hh8
                go_wp2_with fail
                refine (tget_nil none 0 0 w10).mono ?_
                rintro e w' ⟨rfl, rfl⟩
                go_wp2_with fail
                refine (tturn_nil none 0 0 w10).mono ?_
                rintro e w11 ⟨rfl, b11⟩
                have S11 := Lib.hid (S10.out.next b11)
                clear b11 S10
                go_wp2_with fail
                refine (show Calls Tryz.prog 22 _ w11 _ from tout_nil 0 w11).mono ?_
                rintro e w12 ⟨rfl, b12⟩
                have S12 := Lib.hid (S11.out.next b12)
                clear b12 S11
                go_wp2_with fail
                refine (join_nil g A3 A3 nB c3 nB c3 w12).mono ?_
                rintro e w13 ⟨rfl, b13⟩
                have S13 := Lib.hid (S12.out.next b13)
                clear b13 S12
                go_upto_region 35 with fail
                simp only [List.append_eq, List.cons_append, List.nil_append]
                have x0 := S13.out.c0
                have x1 := S13.out.c1
                have x2 := S13.out.c2
                have LY : Hid (Calls Tryz.prog 13 #[.pointer (some ⟨g, 0, none⟩), .agg #[.slice As 2 cs, .int .i64 9, .slice Ac 6 cc]] w13 _) := Lib.hid (like_yes g h cs cc 6 As Ac [2, 3] 9 z1 w13 S13.out.t S13.out.i S13.out.c rfl (by decide) (by decide))
                rw [show ([2, 3] : List Nat).length = 2 from rfl] at x0
                go_wp2_with fail
                refine LY.out.mono ?_
                rintro e w14 ⟨rfl, b14⟩
                have S14 := Lib.hid (S13.out.next b14)
                clear b14 S13 x0 x1 x2 LY
                go_wp2_with fail
                refine (tput_nil none 0 0 0 w14).mono ?_
                rintro e w' ⟨rfl, rfl⟩
                go_wp2_with fail
                refine (tmore_nil none 0 0 0 w14).mono ?_
                rintro e w' ⟨rfl, rfl⟩
                go_wp2_with fail
                refine (tk_nil w14).mono ?_
                rintro e w' ⟨rfl, rfl⟩
                go_wp2_with fail
                refine (tentries_nil w14).mono ?_
                rintro e w' ⟨rfl, rfl⟩
                go_wp2_with fail
                refine (tcopy_nil w14).mono ?_
                rintro e w' ⟨rfl, rfl⟩
                go_wp2_with fail
                refine (tshape_nil w14).mono ?_
                rintro e w15 ⟨rfl, b15⟩
                have S15 := Lib.hid (S14.out.next b15)
                clear b15 S14
                go_wp2_with fail
                refine (arity_any [] w15).mono ?_
                rintro e w' ⟨rfl, rfl⟩
                have S16 := Lib.hid (S15.out.next (new_val w15 (shO [])))
                clear S15
                generalize w15.alloc (shO []) = w16 at S16 ⊢
                go_wp2_with fail
                refine (tsame_nils w16).mono ?_
                rintro e w' ⟨rfl, rfl⟩
                go_wp2_with fail
                refine (tsame_nil g w16).mono ?_
                rintro e w' ⟨rfl, rfl⟩
                go_wp2_with fail
                refine (tcopy_any g h 6 [2, 3] 9 z1 _ S16.out.t rfl (by decide) (by decide)).mono ?_
                rintro e w17 ⟨g3, h3, cc3, rfl, hTC, -, -, b17⟩
                have S17 := Lib.hid (S16.out.next b17)
                have T17 := Lib.hid hTC
                clear b17 S16 hTC
                go_wp2_with fail
                refine (tsameC_yes g h g3 h3 6 cc3 [2, 3] 9 z1 w17 S17.out.t T17.out rfl (by decide)).mono ?_
                rintro e w18 ⟨rfl, b18⟩
                have BF := Lib.hid (then_ S17.out.bel b18)
                clear b18 S17 T17
                rcases HTV.out with ⟨rfl, gt, rfl⟩ | ⟨hE0, rfl⟩
                · go_wp2_with fail
                  go_ret
                  exact ⟨rfl, BF.out⟩
                · have d0 : (E != 0) = true := by rw [bne_iff_ne]; exact hE0
                  go_wp2_with fail
                  go_ret
                  exact ⟨rfl, BF.out⟩
end Go.Proofs.YtpdcpaoabalgcaaGreatDoor
