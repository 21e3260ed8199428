/- The walk of TrailForgets (no statement of its own). -/
import Derived.Test.YtafcecacldafgaaTnH
import Derived.Test.YtafcecacldafgaaTnF
import Derived.Deep.CutBlock
namespace Go.Proofs.Ytafcecacldafgaa.TnI
open Go.RowKit
open TnF (Grid block_add')
set_option linter.unusedVariables false
set_option maxRecDepth 100000 in
set_option maxHeartbeats 8000000 in
theorem main (a0 : Option Addr) (len0 cap0 n : Nat) (z0 : List Int) (a1 : Option Addr) (len1 cap1 : Nat) (mm : Int) (w : World)
    (hn : len0 < 8 ∧ n = len0 ∨ len0 = 8 ∧ n = 8 ∨ 8 < len0 ∧ n = 8) (hs : SrcL w a0 z0) (hz : z0.length = n) (hc0 : len0 ≤ cap0) (hl0 : (len0 : Int) ≤ 9223372036854775807) (hgr : Grid w a1 len1) (hm0 : 0 ≤ mm) (hm1 : mm ≤ 255) :
    Calls Try.prog 8 #[.slice a0 len0 cap0, .slice a1 len1 cap1, .int .u8 mm] w fun e w' => e = .returned (.bool true) ∧ Below w.heap.size w w' := by
  have HS := Lib.hid hs
  have HZ := Lib.hid hz
  have HGR := Lib.hid hgr
  have hn40 : n ≤ 8 := by omega
  have hnc : (n : Int) ≤ (cap0 : Int) := by omega
  have HL1 := Lib.hid hgr.len
  have HM0 := Lib.hid hm0
  have HM1 := Lib.hid hm1
  clear hs hz hgr hm0 hm1
  have HN := Lib.hid hn
  clear hn
  have HL0 := Lib.hid hl0
  go_enter Try.func8, Try.ntmps8
  go_upto_region 3 with (go_at_call 9; refine (awake_true _).mono ?_; rintro e w1 ⟨rfl, hg1⟩)
  have HG1 := Lib.hid hg1
  have HS1 := Lib.hid (HS.out.below hg1)
  clear hg1
  go_cut [0] from 19 to 24 (fun v wr => ∃ A c, v = .slice A n c ∧ (n ≤ c ∧ OwnL wr w1.heap.size (.slice A n c) z0 ∧ w1.grownBy wr none))
  case first =>
    rcases HN.out with ⟨hk, hkn⟩ | ⟨hk, h40⟩ | ⟨hk, h40⟩
    · subst hkn
      have C1 := Lib.hid (clone64 a0 _ cap0 z0 w1 HZ.out (by omega) HS1.out)
      go_wp2_with (go_at_call 18; refine C1.out.mono ?_)
      rintro e w2 ⟨v, rfl, hO, hg2⟩
      obtain ⟨A, c, hv, hlc, hA⟩ := hO.form
      have HR := Lib.hid (show n ≤ c ∧ OwnL w2 w1.heap.size (.slice A n c) z0 ∧ w1.grownBy w2 none from ⟨by rw [← HZ.out]; exact hlc, by rw [← HZ.out, ← hv]; exact hO, hg2⟩)
      rw [HZ.out] at hv
      subst hv
      clear hO hg2 hlc hA C1
      go_wp2_with fail
      go_meet
      case rel => exact ⟨A, c, rfl, HR.out⟩
    · have h41 : n = len0 := by omega
      subst h41
      have H41 := Lib.hid h40
      have C1 := Lib.hid (clone64 a0 _ cap0 z0 w1 HZ.out (by omega) HS1.out)
      have C1b := Lib.hid (clone64 a0 8 cap0 z0 w1 (HZ.out.trans H41.out) (by omega) HS1.out)
      have hk1 : (n : Int) ≤ 8 := by omega
      clear h40 hk
      go_wp2_with (first | (go_at_call 18; (with_reducible refine C1.out.mono ?_)) | (go_at_call 18; (with_reducible refine C1b.out.mono ?_)))
      all_goals
       rintro e w2 ⟨v, rfl, hO, hg2⟩
       obtain ⟨A, c, hv, hlc, hA⟩ := hO.form
       have HR := Lib.hid (show n ≤ c ∧ OwnL w2 w1.heap.size (.slice A n c) z0 ∧ w1.grownBy w2 none from ⟨by rw [← HZ.out]; exact hlc, by rw [← HZ.out, ← hv]; exact hO, hg2⟩)
       rw [HZ.out] at hv
       subst hv
       clear hO hg2 hlc hA C1
       go_wp2_with fail
       go_meet
       case rel => exact ⟨A, c, rfl, HR.out⟩
    · have H41 := Lib.hid h40
      have HK := Lib.hid hk
      have hk2 : (8 : Int) < (len0 : Int) := by omega
      have hcc : (8 : Int) ≤ (cap0 : Int) := by omega
      clear h40 hk
      have C1 := Lib.hid (clone64 a0 8 cap0 z0 w1 (HZ.out.trans H41.out) (by omega) HS1.out)
      go_wp2_with (go_at_call 18; refine C1.out.mono ?_)
      rintro e w2 ⟨v, rfl, hO, hg2⟩
      obtain ⟨A, c, hv, hlc, hA⟩ := hO.form
      have HR := Lib.hid (show n ≤ c ∧ OwnL w2 w1.heap.size (.slice A n c) z0 ∧ w1.grownBy w2 none from ⟨by rw [← HZ.out]; exact hlc, by rw [← HZ.out, ← hv]; exact hO, hg2⟩)
      rw [HZ.out] at hv
      subst hv
      clear hO hg2 hlc hA C1
      go_wp2_with fail
      go_meet
      case rel => exact ⟨A, c, rfl, HR.out⟩
  case rest =>
    obtain ⟨A, c, rfl, hlc, hO, hg2⟩ := hcut
    have hA : 0 < n → ∃ g, A = some ⟨g, 0, none⟩ ∧ w1.heap.size ≤ g ∧ g < wc.heap.size := by
      obtain ⟨A', c', hv, _, hA⟩ := hO.form
      injection hv with e1 e2 e3
      subst e1
      rw [HZ.out] at hA
      exact hA
    have HO := Lib.hid hO
    have HA := Lib.hid hA
    have HB0 : Hid (Below w.heap.size w wc) := Lib.hid (HG1.out.trans (((Kp.none (P := fun _ => False) hg2).below (fun _ _ q => q.elim) (Nat.le_refl _)).mono HG1.out.size))
    have HW : Hid (w.heap.size ≤ wc.heap.size) := Lib.hid (Nat.le_trans HG1.out.size hg2.size)
    clear hO hg2 hA HG1 HS1 HS HN hc0 hnc
    obtain ⟨W0, eW⟩ : ∃ W, W = wc := ⟨wc, rfl⟩
    subst eW
    by_cases hn0 : n = 0
    · have hd : ((n : Int) == 0) = true := by simp [hn0]
      go_wp2_with (first
        | (go_at_call 10; refine (new_on 0 0 _ (by decide)).mono ?_; rintro e w3 ⟨rfl, ho⟩; have HON := Lib.hid ho; clear ho)
        | (go_at_call 13; refine (depth_st HON.out.st).mono ?_; rintro e w' ⟨rfl, rfl⟩))
      go_ret
      exact ⟨rfl, HB0.out.trans (HON.out.below.mono HW.out)⟩
    have hd : ((n : Int) == 0) = false := by simp; omega
    have HN0 := Lib.hid hn0
    clear hn0
    have NW1 := Lib.hid (new_st (n : Int) n W0 (by omega))
    go_upto_region 7 with (first
      | (go_at_call 10; (with_reducible refine NW1.out.mono ?_); rintro e w3 h3; obtain rfl := h3.e; have H3 := Lib.hid h3; clear h3; have NW2 := Lib.hid (new_st (n : Int) n w3 (by omega)))
      | (go_at_call 10; (with_reducible refine NW2.out.mono ?_); rintro e w4 h4; obtain rfl := h4.e; have H4 := Lib.hid h4; clear h4))
    have ho := ab_new H3.out H4.out
    rw [← laid_zero z0 n HZ.out] at ho
    have HON := Lib.hid ho
    clear ho hd H3 H4 NW1 NW2
    generalize W0.heap.size + 1 = a at *
    generalize w3.heap.size + 1 = b at *
    go_wp2_with fail
    go_loopw [39] (fun i wr => ∃ k : Nat, k ≤ n ∧ i = .int .i64 (k : Int) ∧ Hid (AB W0 wr a b k k (laid z0 k) (laid z0 k) [] [])) (fun i _ => n - (intOf i).toNat)
    case atStart => exact ⟨0, Nat.zero_le _, rfl, HON⟩
    case round =>
      clear HON
      obtain ⟨k, hk, rfl, HON⟩ := hrel
      by_cases hlt : k < n
      · obtain ⟨g, hAe, hg1, hg2⟩ := HA.out (by omega)
        have hcell := (show OwnL wr w1.heap.size (.slice (some ⟨g, 0, none⟩) z0.length c) z0 from by have := HO.out.belowL HON.out.below; rw [hAe, ← HZ.out] at this; exact this).cell k (by rw [HZ.out]; exact hlt)
        have hll : (laid z0 k).length = n := by rw [laid_len _ _ (by rw [HZ.out]; exact hk), HZ.out]
        have C3 := Lib.hid (set_a HON.out (nthI z0 k) (i := k) (by rw [hll]; exact hlt) (by omega) (by rw [hll]; omega))
        have C4 := Lib.hid (fun w' (h : AB W0 w' a b (k + 1) k (laid z0 (k + 1)) (laid z0 k) [] []) => set_b h (nthI z0 k) (i := k) (by rw [hll]; exact hlt) (by omega) (by rw [hll]; omega))
        rw [laid_succ z0 k (by rw [HZ.out]; exact hlt)] at C3 C4
        have hki : (k : Int) < (n : Int) := by omega
        have HLT := Lib.hid hlt
        subst hAe
        clear hlt hg1 hg2 HON hll
        go_wp2_with (first
          | (go_at_call 17; (with_reducible refine C3.out.mono ?_); rintro e w4 ⟨rfl, ho4⟩; have HO4 := Lib.hid ho4; clear ho4)
          | (go_at_call 17; (with_reducible refine (C4.out _ HO4.out).mono ?_); rintro e w5 ⟨rfl, ho5⟩; have HO5 := Lib.hid ho5; clear ho5))
        go_roundw
        case rel => exact ⟨k + 1, by have := HLT.out; omega, by go_num, HO5⟩
        case measure => have := HLT.out; simp [intOf]; omega
      · obtain rfl : n = k := by omega
        have hz0 : laid z0 n = z0 := by rw [← HZ.out]; exact laid_all z0
        rw [hz0] at HON
        clear hlt hk hz0
        have hL1 := HL1.out
        have MA := Lib.hid (mark_a HON.out (by omega))
        have MB := Lib.hid (fun w' (h : AB W0 w' a b (n + 1) n z0 z0 ([] ++ [z0]) []) => mark_b h (by omega))
        go_upto_block 2 with (first
          | (go_at_call 16; (with_reducible refine MA.out.mono ?_); rintro e w6 ⟨rfl, ho6⟩; have HO6 := Lib.hid ho6; clear ho6)
          | (go_at_call 16; (with_reducible refine (MB.out _ HO6.out).mono ?_); rintro e w7 ⟨rfl, ho7⟩; have HO7 : Hid (AB W0 w7 a b 20 20 z0 z0 (z0 :: []) [z0]) := Lib.hid (ho7.more (by omega) (by omega)); clear ho7))
        clear MA MB HON HO6
        go_cut [11, 12, 13, 14, 15] from 59 to 101 (fun v11 v12 v13 v14 v15 wx => ∃ (k : Nat) (C : List Int) (La : List (List Int)), v11 = .int .i64 ((k : Int) + 1) ∧ Hid (k ≤ 8 ∧ La.length = k ∧ C.length = n) ∧ Hid (AB W0 wx a b 1000 1000 C C (z0 :: La) [z0]))
        case first =>
          go_wp2_with fail
          go_loopw [11, 59] (fun v11 i wr => ∃ (k : Nat) (C : List Int) (La : List (List Int)), k ≤ len1 ∧ k ≤ 8 ∧ v11 = .int .i64 ((k : Int) + 1) ∧ i = .int .i64 (k : Int) ∧ Hid (La.length = k ∧ C.length = n) ∧ Hid (AB W0 wr a b (20 + 20 * k) (20 + 20 * k) C C (z0 :: La) [z0])) (fun _ i _ => len1 - (intOf i).toNat)
          case atStart => exact ⟨0, z0, [], Nat.zero_le _, Nat.zero_le _, rfl, rfl, Lib.hid ⟨rfl, HZ.out⟩, HO7⟩
          case round =>
            clear HO7
            obtain ⟨k, C, La, hk, hk12, rfl, rfl, HM, HNI⟩ := hrel
            by_cases hlt : k < len1
            · obtain ⟨p, bb, m, cc, rfl, hp1, hp2w, hm63, hby⟩ := HGR.out.at_ k hlt
              have hp2 : wr.cell? (p.add k) = some (.slice bb m cc) := ((HB0.out.trans (HNI.out.below.mono HW.out)).cell (p := p.add k) (by rw [block_add']; exact hp1)).trans hp2w
              have hki : (k : Int) < (len1 : Int) := by omega
              by_cases h12 : k < 8
              · have h12i : (k : Int) < 8 := by omega
                have H12 := Lib.hid h12
                have HLT := Lib.hid hlt
                have HBY := Lib.hid hby
                clear hby hlt hk hk12 h12 hp1 hp2w
                have MK := Lib.hid (mark_a HNI.out (by have := H12.out; omega))
                clear HNI
                go_wp2_with (go_at_call 16; refine MK.out.mono ?_; rintro e w6 ⟨rfl, hn6⟩; have HN6 : Hid (AB W0 w6 a b (20 + 20 * k + 1) (20 + 20 * k) C C (z0 :: (La ++ [C])) [z0]) := Lib.hid hn6; clear hn6)
                clear hp2
                go_loopw [72] (fun i wi => ∃ (j : Nat) (C' : List Int), j ≤ m ∧ i = .int .i64 (j : Int) ∧ Hid (C'.length = n) ∧ Hid (AB W0 wi a b (21 + 20 * k + min j 10) (21 + 20 * k + min j 10) C' C' (z0 :: (La ++ [C])) [z0])) (fun i _ => m - (intOf i).toNat)
                case atStart => exact ⟨0, C, Nat.zero_le _, rfl, Lib.hid HM.out.2, Lib.hid (HN6.out.more (by omega) (by omega))⟩
                case round =>
                  clear HN6 MK
                  obtain ⟨j, C', hj, rfl, HCL, HNJ⟩ := hrel
                  by_cases hjm : j < m
                  · obtain ⟨q, x, rfl, hq1, hq2w, hx0, hx1⟩ := HBY.out j hjm
                    have hq2 : wr.cell? (q.add j) = some (.int .u8 x) := ((HB0.out.trans (HNJ.out.below.mono HW.out)).cell (p := q.add j) (by rw [block_add']; exact hq1)).trans hq2w
                    have hji : (j : Int) < (m : Int) := by omega
                    have HJM := Lib.hid hjm
                    clear hjm hq1 hq2w hj
                    by_cases h12j : j < 10
                    · have h0i : (0 : Int) < (n : Int) := by have := HN0.out; omega
                      obtain ⟨ii, hii⟩ : ∃ ii : Nat, x % (n : Int) = (ii : Int) := ⟨(x % (n : Int)).toNat, by have := Int.emod_nonneg x (show (n : Int) ≠ 0 by omega); omega⟩
                      have hil : ii < n := by
                        have := Int.emod_lt_of_pos x h0i
                        omega
                      have hit : x.tmod (n : Int) = (ii : Int) := by rw [Int.tmod_eq_emod_of_nonneg (by omega)]; exact hii
                      have hm1 : min (j + 1) 10 = min j 10 + 1 := by omega
                      have HM1' := Lib.hid hm1
                      have C4 := Lib.hid (fun v => set_a HNJ.out v (i := ii) (by rw [HCL.out]; exact hil) (by have := H12.out; omega) (by rw [HCL.out]; omega))
                      have C5 := Lib.hid (fun w' v (h : AB W0 w' a b (21 + 20 * k + min j 10 + 1) (21 + 20 * k + min j 10) (C'.set ii v) C' (z0 :: (La ++ [C])) [z0]) => set_b h v (i := ii) (by rw [HCL.out]; exact hil) (by have := H12.out; omega) (by rw [HCL.out]; omega))
                      have h12ji : (j : Int) < 10 := by omega
                      have hj0 : (0 : Int) ≤ (j : Int) := by omega
                      have hk0 : (0 : Int) ≤ (k : Int) := by omega
                      clear hil hm1 HNJ h12j
                      go_wp2_with (first
                        | (go_at_call 17; (with_reducible refine (C4.out _).mono ?_); rintro e w7 ⟨rfl, hn7⟩; have HN7 := Lib.hid hn7; clear hn7)
                        | (go_at_call 17; (with_reducible refine (C5.out _ _ HN7.out).mono ?_); rintro e w8 ⟨rfl, hn8⟩; have HN8 := Lib.hid hn8; clear hn8))
                      go_roundw
                      case rel => exact ⟨j + 1, _, by have := HJM.out; omega, by go_num, Lib.hid (by rw [List.length_set]; exact HCL.out), Lib.hid (HN8.out.more (by have := HM1'.out; omega) (by have := HM1'.out; omega))⟩
                      case measure => have := HJM.out; simp [intOf]; omega
                    · have hm1 : min (j + 1) 10 = min j 10 := by omega
                      have HM1' := Lib.hid hm1
                      have h12ji : ¬ ((j : Int) < 10) := by omega
                      clear hm1
                      go_wp2_with fail
                      go_roundw
                      case rel => exact ⟨j + 1, _, by have := HJM.out; omega, by go_num, HCL, Lib.hid (HNJ.out.more (by have := HM1'.out; omega) (by have := HM1'.out; omega))⟩
                      case measure => have := HJM.out; simp [intOf]; omega
                  · obtain rfl : m = j := by omega
                    clear hjm hj
                    go_wp2_with fail
                    go_roundw
                    case rel => exact ⟨k + 1, C', La ++ [C], by have := HLT.out; omega, by have := H12.out; omega, by go_num, by go_num, Lib.hid ⟨by simp [HM.out.1], HCL.out⟩, Lib.hid (HNJ.out.more (by have := H12.out; omega) (by have := H12.out; omega))⟩
                    case measure => have := HLT.out; simp [intOf]; omega
              · have HK12 : Hid (k = 8) := Lib.hid (by omega)
                have h12i : ¬ ((k : Int) < 8) := by omega
                have h12j : (8 : Int) ≤ (k : Int) := by omega
                clear hby hlt hk hk12 h12 hp1 hp2w
                go_wp2_with fail
                go_meet
                case rel => exact ⟨k, C, La, rfl, Lib.hid ⟨by rw [HK12.out]; exact Nat.le_refl _, HM.out⟩, Lib.hid (HNI.out.more (by have := HK12.out; omega) (by have := HK12.out; omega))⟩
            · obtain rfl : len1 = k := by omega
              have HK12 := Lib.hid hk12
              clear hlt hk hk12
              go_wp2_with fail
              go_meet
              case rel => exact ⟨len1, C, La, rfl, Lib.hid ⟨HK12.out, HM.out⟩, Lib.hid (HNI.out.more (by have := HK12.out; omega) (by have := HK12.out; omega))⟩
        case rest =>
          clear HO7 HGR hL1
          obtain ⟨k, C, La, rfl, HK, HNI⟩ := hcut
          go_upto_if 104 with fail
          go_cut [16] from 103 to 126 (fun v16 wx => ∃ La' : List (List Int), Hid (AB W0 wx a b 1000 1000 C C (z0 :: La') [z0]))
          case first =>
            by_cases hk0 : 0 < k
            · have h1k : (1 : Int) < (k : Int) + 1 := by omega
              have hk8 : (k : Int) ≤ 8 := by have := HK.out.1; omega
              have hm0 := HM0.out
              have hm1 := HM1.out
              have hkp : (0 : Int) < (k : Int) := by omega
              obtain ⟨q, hq⟩ : ∃ q : Nat, mm % (k : Int) = (q : Int) := ⟨(mm % (k : Int)).toNat, by have := Int.emod_nonneg mm (show (k : Int) ≠ 0 by omega); omega⟩
              have hqk : q < k := by
                have := Int.emod_lt_of_pos mm hkp
                omega
              have hqt : mm.tmod (k : Int) = (q : Int) := by rw [Int.tmod_eq_emod_of_nonneg (by omega)]; exact hq
              have hk1 : (k : Int) + 1 - 1 = (k : Int) := by omega
              have hqi : (q : Int) ≤ 8 := by omega
              have hlen : (z0 :: La).length = k + 1 := by simp [HK.out.2.1]
              have htk : (z0 :: La).take (1 + q) = z0 :: La.take q := by rw [Nat.add_comm]; rfl
              have FG := Lib.hid (forget_a HNI.out (m := 1 + q) (by rw [hlen]; omega) (by omega))
              rw [htk] at FG
              have FG2 : Hid (Calls Try.prog 23 #[.pointer (some ⟨a, 0, none⟩), .int .i64 (1 + (q : Int))] wc (AndAB W0 a b 1000 1000 C C (z0 :: La.take q) [z0] (.int .i64 0))) := Lib.hid (by
                have := FG.out
                rw [show ((1 + q : Nat) : Int) = 1 + (q : Int) by omega] at this
                exact this)
              have HTL : Hid ((z0 :: La.take q).length = 1 + q) := Lib.hid (by rw [← htk, List.length_take, hlen]; omega)
              clear FG hlen htk hqk HNI
              go_wp2_with (first
                | (go_at_call 23; (with_reducible refine FG2.out.mono ?_); rintro e w6 ⟨rfl, hn6⟩; have HN6 := Lib.hid hn6; have DP := Lib.hid (show Calls Try.prog 13 #[.pointer (some ⟨a, 0, none⟩)] w6 (AndO w6 (.int .i64 (1 + (q : Int)))) from (by have := depth_a hn6; rw [HTL.out, show ((1 + q : Nat) : Int) = 1 + (q : Int) by omega] at this; exact this)); have FN := Lib.hid (forget_no_a (i := 1 + (q : Int)) hn6 (.inr (by rw [HTL.out]; omega))); clear hn6)
                | (go_at_call 13; (with_reducible refine DP.out.mono ?_); rintro e w' ⟨rfl, rfl⟩)
                | (go_at_call 23; (with_reducible refine FN.out.mono ?_); rintro e w' ⟨rfl, rfl⟩))
              go_meet
              case rel => exact ⟨La.take q, HN6⟩
            · have h1k : ¬ ((1 : Int) < (k : Int) + 1) := by omega
              clear hk0
              go_wp2_with fail
              go_meet
              case rel => exact ⟨La, HNI⟩
          case rest =>
            clear HNI
            obtain ⟨La', HNI⟩ := hcut
            have hcl : C.length = n := HK.out.2.2
            have CA := Lib.hid (cells_a HNI.out (by omega))
            have HCL := Lib.hid hcl
            have HZL := Lib.hid (show z0.length ≤ 100000 by rw [HZ.out]; omega)
            clear HK hcl
            go_upto_region 36 with (first
              | (go_at_call 21; (with_reducible refine CA.out.mono ?_); rintro e w6 ⟨v, rfl, hv, hg⟩; obtain ⟨A6, c6, rfl, _, _⟩ := hv.form; have HN6 := Lib.hid (HNI.out.grown hg); have HV6 := Lib.hid hv; clear hv hg; have CB := Lib.hid (cells_a HN6.out.swap (by have := HCL.out; omega)))
              | (go_at_call 21; (with_reducible refine CB.out.mono ?_); rintro e w7 ⟨v, rfl, hv, hg⟩; obtain ⟨A7, c7, rfl, _, _⟩ := hv.form; have HN7 := Lib.hid (HN6.out.grown hg); have HE := Lib.hid (eq_yes A6 A7 C.length C.length c6 c7 C w7 rfl rfl (by have := HCL.out; omega) ((HV6.out.kept hg (own_or _)).srcL) hv.srcL); clear hv hg)
              | (go_at_call 20; (with_reducible refine HE.out.mono ?_); rintro e w8 ⟨rfl, hg8⟩; have HN8 := Lib.hid (HN7.out.grown hg8); clear hg8))
            have UA := Lib.hid (show Calls Try.prog 19 #[.pointer (some ⟨a, 0, none⟩), .int .i64 0] w8 (AndAB W0 a b 1000 1000 z0 C [] [z0] (.int .i64 0)) from undo_a (m := 0) HN8.out (by simp) (by omega) (by have := HCL.out; omega))
            have UB := Lib.hid (fun w' (h : AB W0 w' a b 1000 1000 z0 C [] [z0]) => (show Calls Try.prog 19 #[.pointer (some ⟨b, 0, none⟩), .int .i64 0] w' (AndAB W0 a b 1000 1000 z0 z0 [] [] (.int .i64 0)) from undo_b (m := 0) h (by simp) (by omega) (by have := HCL.out; omega)))
            go_wp2_with (first
              | (go_at_call 19; (with_reducible refine UA.out.mono ?_); rintro e w9 ⟨rfl, h9⟩; have H9 := Lib.hid h9; clear h9)
              | (go_at_call 19; (with_reducible refine (UB.out _ H9.out).mono ?_); rintro e wA ⟨rfl, hA⟩; have HA2 := Lib.hid hA; have CA2 := Lib.hid (cells_a hA HZL.out); clear hA)
              | (go_at_call 21; (with_reducible refine CA2.out.mono ?_); rintro e wB ⟨v, rfl, hv, hg⟩; obtain ⟨AB1, cB, rfl, _, _⟩ := hv.form; have HB2 := Lib.hid (HA2.out.grown hg); have EQ1 := Lib.hid (eq_yes AB1 A z0.length n cB c z0 wB rfl HZ.out.symm (by rw [HZ.out]; omega) hv.srcL ((HO.out.belowL HB2.out.below).srcL)); clear hv hg)
              | (go_at_call 20; (with_reducible refine EQ1.out.mono ?_); rintro e wC ⟨rfl, hgC⟩; have HC2 := Lib.hid (HB2.out.grown hgC); have CC2 := Lib.hid (cells_a HC2.out.swap HZL.out); clear hgC)
              | (go_at_call 21; (with_reducible refine CC2.out.mono ?_); rintro e wD ⟨v, rfl, hv, hg⟩; obtain ⟨AD1, cD, rfl, _, _⟩ := hv.form; have HD2 := Lib.hid (HC2.out.grown hg); have EQ2 := Lib.hid (eq_yes AD1 A z0.length n cD c z0 wD rfl HZ.out.symm (by rw [HZ.out]; omega) hv.srcL ((HO.out.belowL HD2.out.below).srcL)); clear hv hg)
              | (go_at_call 20; (with_reducible refine EQ2.out.mono ?_); rintro e wE ⟨rfl, hgE⟩; have HE2 := Lib.hid (HD2.out.grown hgE); clear hgE))
            go_ret
            exact ⟨rfl, HB0.out.trans (HE2.out.below.mono HW.out)⟩
end Go.Proofs.Ytafcecacldafgaa.TnI
