/- The walk of TrailDeep (no statement of its own). -/
import Derived.Test.YtafcecacldafgaaTnB
namespace Go.Proofs.Ytafcecacldafgaa.TnC
open Go.RowKit
set_option linter.unusedVariables false
theorem block_add' (a : Addr) (n : Nat) : (a.add n).block = a.block := by unfold Addr.add; split <;> rfl
set_option maxRecDepth 100000 in
set_option maxHeartbeats 8000000 in
theorem main (a0 : Option Addr) (len0 cap0 n : Nat) (z0 : List Int) (d : Int) (a2 : Option Addr) (len2 cap2 : Nat) (z2 : Nat → Int) (w : World)
    (hn : len0 < 10 ∧ n = len0 ∨ len0 = 10 ∧ n = 10 ∨ 10 < len0 ∧ n = 10) (hs : SrcL w a0 z0) (hz : z0.length = n) (hc0 : len0 ≤ cap0) (hl0 : (len0 : Int) ≤ 9223372036854775807)
    (hd0 : 0 ≤ d) (hd1 : d ≤ 65535)
    (ha2 : a2 = none → len2 = 0) (hb2 : ∀ j, j < len2 → ∃ p : Addr, a2 = some p ∧ p.block < w.heap.size ∧ w.cell? (p.add j) = some (.int .u8 (z2 j)) ∧ 0 ≤ z2 j ∧ z2 j ≤ 255) (hl2 : (len2 : Int) ≤ 9223372036854775807) :
    Calls Try.prog 5 #[.slice a0 len0 cap0, .int .u16 d, .slice a2 len2 cap2] w fun e w' => e = .returned (.bool true) ∧ Below w.heap.size w w' := by
  have HS := Lib.hid hs
  have HZ := Lib.hid hz
  have HB2 := Lib.hid hb2
  have hn40 : n ≤ 10 := by omega
  have hnc : (n : Int) ≤ (cap0 : Int) := by omega
  clear hs hz hb2
  have HN := Lib.hid hn
  clear hn
  have HL0 := Lib.hid hl0
  have HL2 := Lib.hid hl2
  have HD0 := Lib.hid hd0
  have HD1 := Lib.hid hd1
  clear hl2 hd0 hd1
  go_enter Try.func5, Try.ntmps5
  go_upto_region 3 with (go_at_call 9; refine (awake_true _).mono ?_; rintro e w1 ⟨rfl, hg1⟩)
  have HG1 := Lib.hid hg1
  have HS1 := Lib.hid (HS.out.below hg1)
  clear hg1
  go_cut [0] from 14 to 19 (fun v wr => ∃ A c, v = .slice A n c ∧ (n ≤ c ∧ OwnL wr w1.heap.size (.slice A n c) z0 ∧ w1.grownBy wr none))
  case first =>
    rcases HN.out with ⟨hk, hkn⟩ | ⟨hk, h40⟩ | ⟨hk, h40⟩
    · subst hkn
      have C1 := Lib.hid (clone64 a0 _ cap0 z0 w1 HZ.out (by omega) HS1.out)
      go_wp2_with (go_at_call 18; refine C1.out.mono ?_)
      rintro e w2 ⟨v, rfl, hO, hg2⟩
      obtain ⟨A, c, hv, hlc, hA⟩ := hO.form
      have HR := Lib.hid (show n ≤ c ∧ OwnL w2 w1.heap.size (.slice A n c) z0 ∧ w1.grownBy w2 none from ⟨by rw [← HZ.out]; exact hlc, by rw [← HZ.out, ← hv]; exact hO, hg2⟩)
      rw [HZ.out] at hv
      subst hv
      clear hO hg2 hlc hA C1
      go_wp2_with fail
      go_meet
      case rel => exact ⟨A, c, rfl, HR.out⟩
    · have h41 : n = len0 := by omega
      subst h41
      have H41 := Lib.hid h40
      have C1 := Lib.hid (clone64 a0 _ cap0 z0 w1 HZ.out (by omega) HS1.out)
      have C1b := Lib.hid (clone64 a0 10 cap0 z0 w1 (HZ.out.trans H41.out) (by omega) HS1.out)
      have hk1 : (n : Int) ≤ 10 := by omega
      clear h40 hk
      go_wp2_with (first | (go_at_call 18; (with_reducible refine C1.out.mono ?_)) | (go_at_call 18; (with_reducible refine C1b.out.mono ?_)))
      all_goals
       rintro e w2 ⟨v, rfl, hO, hg2⟩
       obtain ⟨A, c, hv, hlc, hA⟩ := hO.form
       have HR := Lib.hid (show n ≤ c ∧ OwnL w2 w1.heap.size (.slice A n c) z0 ∧ w1.grownBy w2 none from ⟨by rw [← HZ.out]; exact hlc, by rw [← HZ.out, ← hv]; exact hO, hg2⟩)
       rw [HZ.out] at hv
       subst hv
       clear hO hg2 hlc hA C1
       go_wp2_with fail
       go_meet
       case rel => exact ⟨A, c, rfl, HR.out⟩
    · have H41 := Lib.hid h40
      have HK := Lib.hid hk
      have hk2 : (10 : Int) < (len0 : Int) := by omega
      have hcc : (10 : Int) ≤ (cap0 : Int) := by omega
      clear h40 hk
      have C1 := Lib.hid (clone64 a0 10 cap0 z0 w1 (HZ.out.trans H41.out) (by omega) HS1.out)
      go_wp2_with (go_at_call 18; refine C1.out.mono ?_)
      rintro e w2 ⟨v, rfl, hO, hg2⟩
      obtain ⟨A, c, hv, hlc, hA⟩ := hO.form
      have HR := Lib.hid (show n ≤ c ∧ OwnL w2 w1.heap.size (.slice A n c) z0 ∧ w1.grownBy w2 none from ⟨by rw [← HZ.out]; exact hlc, by rw [← HZ.out, ← hv]; exact hO, hg2⟩)
      rw [HZ.out] at hv
      subst hv
      clear hO hg2 hlc hA C1
      go_wp2_with fail
      go_meet
      case rel => exact ⟨A, c, rfl, HR.out⟩
  case rest =>
    obtain ⟨A, c, rfl, hlc, hO, hg2⟩ := hcut
    have hA : 0 < n → ∃ g, A = some ⟨g, 0, none⟩ ∧ w1.heap.size ≤ g ∧ g < wc.heap.size := by
      obtain ⟨A', c', hv, _, hA⟩ := hO.form
      injection hv with e1 e2 e3
      subst e1
      rw [HZ.out] at hA
      exact hA
    have HO := Lib.hid hO
    have HA := Lib.hid hA
    have HB0 : Hid (Below w.heap.size w wc) := Lib.hid (HG1.out.trans (((Kp.none (P := fun _ => False) hg2).below (fun _ _ q => q.elim) (Nat.le_refl _)).mono HG1.out.size))
    have HW : Hid (w.heap.size ≤ wc.heap.size) := Lib.hid (Nat.le_trans HG1.out.size hg2.size)
    clear hO hg2 hA HG1 HS1 HS HN hc0 hnc
    go_upto_region 5 with (go_at_call 10; refine (new_on _ n _ (by omega)).mono ?_; rintro e w3 ⟨rfl, ho⟩)
    rw [← laid_zero z0 n HZ.out] at ho
    have HON := Lib.hid ho
    clear ho
    generalize wc.heap.size + 1 = b at *
    go_wp2_with fail
    go_loopw [25] (fun i wr => ∃ k : Nat, k ≤ n ∧ i = .int .i64 (k : Int) ∧ Hid (On wc wr b k (laid z0 k) [])) (fun i _ => n - (intOf i).toNat)
    case atStart => exact ⟨0, Nat.zero_le _, rfl, HON⟩
    case round =>
      clear HON
      obtain ⟨k, hk, rfl, HON⟩ := hrel
      by_cases hlt : k < n
      · obtain ⟨g, hAe, hg1, hg2⟩ := HA.out (by omega)
        have hcell := (show OwnL wr w1.heap.size (.slice (some ⟨g, 0, none⟩) z0.length c) z0 from by have := HO.out.belowL HON.out.below; rw [hAe, ← HZ.out] at this; exact this).cell k (by rw [HZ.out]; exact hlt)
        have C3 := Lib.hid (set_on HON.out (nthI z0 k) (i := k) (by rw [laid_len _ _ (by rw [HZ.out]; exact hk), HZ.out]; exact hlt) (by omega) (by rw [laid_len _ _ (by rw [HZ.out]; exact hk), HZ.out]; omega))
        rw [laid_succ z0 k (by rw [HZ.out]; exact hlt)] at C3
        have hki : (k : Int) < (n : Int) := by omega
        have HLT := Lib.hid hlt
        subst hAe
        clear hlt hg1 hg2 HON
        go_wp2_with (go_at_call 17; refine C3.out.mono ?_; rintro e w4 ⟨rfl, ho4⟩; have HO4 := Lib.hid ho4; clear ho4)
        go_roundw
        case rel => exact ⟨k + 1, by have := HLT.out; omega, by go_num, HO4⟩
        case measure => have := HLT.out; simp [intOf]; omega
      · obtain rfl : n = k := by omega
        have hz0 : laid z0 n = z0 := by rw [← HZ.out]; exact laid_all z0
        rw [hz0] at HON
        clear hlt hk hz0
        go_upto_region 11 with (go_at_call 16; refine (mark_on HON.out (by omega)).mono ?_; rintro e w5 ⟨rfl, ho5⟩)
        have HON5 : Hid (On wc w5 b 20 z0 (z0 :: [])) := Lib.hid (ho5.more (by omega))
        clear ho5 HON
        have hd0 := HD0.out
        have hd1 := HD1.out
        go_wp2_with fail
        obtain ⟨D, hD⟩ : ∃ D : Nat, d % 300 = (D : Int) := ⟨(d % 300).toNat, by omega⟩
        have hD3 : D < 300 := by omega
        rw [hD]
        clear hD hd0 hd1
        have HL2' := HL2.out
        go_loopw [40] (fun i wr => ∃ (k : Nat) (C : List Int) (M : List (List Int)), k ≤ D ∧ i = .int .i64 (k : Int) ∧ Hid (C.length = n ∧ M.length = k) ∧ Hid (On wc wr b (20 + 2 * k) C (z0 :: M))) (fun i _ => D - (intOf i).toNat)
        case atStart => exact ⟨0, z0, [], Nat.zero_le _, rfl, Lib.hid ⟨HZ.out, rfl⟩, HON5⟩
        case round =>
          clear HON5
          obtain ⟨k, C, M, hk, rfl, HCM, HON⟩ := hrel
          by_cases hlt : k < D
          · have HLT := Lib.hid hlt
            have hki : (k : Int) < (D : Int) := by omega
            clear hlt
            by_cases h0 : 0 < n
            · by_cases h2 : 0 < len2
              · have h0i : (0 : Int) < (n : Int) := by omega
                have h2i : (0 : Int) < (len2 : Int) := by omega
                obtain ⟨q, hq⟩ : ∃ q : Nat, (k : Int) % (len2 : Int) = (q : Int) := ⟨k % len2, (Int.natCast_emod k len2).symm⟩
                have hql : q < len2 := by
                  have := Int.emod_lt_of_pos (k : Int) h2i
                  omega
                have hqt : (k : Int).tmod (len2 : Int) = (q : Int) := by rw [Int.tmod_eq_emod_of_nonneg (by omega)]; exact hq
                obtain ⟨p, rfl, hp1, hp2, hp3, hp4⟩ := HB2.out q hql
                have hp2' : wr.cell? (p.add q) = some (.int .u8 (z2 q)) := ((HB0.out.trans (HON.out.below.mono HW.out)).cell (p := p.add q) (by rw [block_add']; exact hp1)).trans hp2
                generalize z2 q = x at hp2' hp3 hp4
                obtain ⟨j, hj⟩ : ∃ j : Nat, x % (n : Int) = (j : Int) := ⟨(x % (n : Int)).toNat, by have := Int.emod_nonneg x (show (n : Int) ≠ 0 by omega); omega⟩
                have hjl : j < n := by
                  have := Int.emod_lt_of_pos x h0i
                  omega
                have hjt : x.tmod (n : Int) = (j : Int) := by rw [Int.tmod_eq_emod_of_nonneg (by omega)]; exact hj
                have hqi : (q : Int) < (len2 : Int) := by omega
                have C4 := Lib.hid (set_on HON.out (k : Int) (i := j) (by rw [HCM.out.1]; exact hjl) (by have := HLT.out; omega) (by rw [HCM.out.1]; omega))
                have HJL := Lib.hid hjl
                clear hp2 hp1 hql hjl HON hk
                go_upto_region 16 with (go_at_call 17; refine C4.out.mono ?_; rintro e w6 ⟨rfl, ho6⟩; have HO6 := Lib.hid ho6; clear ho6)
                have HCM6 : Hid ((C.set j (k : Int)).length = n) := Lib.hid (by rw [List.length_set]; exact HCM.out.1)
                have C5 := Lib.hid (mark_on HO6.out (by have := HLT.out; omega))
                have hml : (((z0 :: M).length : Nat) : Int) = (k : Int) + 1 := by have := HCM.out.2; simp; omega
                rw [hml] at C5
                clear hml hp2' hq hqt hj hjt HO6 h0i h2i hqi hp3 hp4
                go_wp2_with (go_at_call 16; refine C5.out.mono ?_; rintro e w7 ⟨rfl, ho7⟩; have HO7 := Lib.hid ho7; clear ho7)
                go_roundw
                case rel => exact ⟨k + 1, C.set j (k : Int), M ++ [C.set j (k : Int)], by have := HLT.out; omega, by go_num, Lib.hid ⟨HCM6.out, by have := HCM.out.2; simp; omega⟩, Lib.hid (by have := HO7.out.more (k := 20 + 2 * (k + 1)) (by omega); exact this)⟩
                case measure => have := HLT.out; simp [intOf]; omega
              · obtain rfl : len2 = 0 := by omega
                have h0i : (0 : Int) < (n : Int) := by omega
                have C5 := Lib.hid (mark_on HON.out (by have := HLT.out; omega))
                have hml : (((z0 :: M).length : Nat) : Int) = (k : Int) + 1 := by have := HCM.out.2; simp; omega
                rw [hml] at C5
                clear hml HON hk h2
                go_wp2_with (go_at_call 16; refine C5.out.mono ?_; rintro e w7 ⟨rfl, ho7⟩; have HO7 := Lib.hid ho7; clear ho7)
                go_roundw
                case rel => exact ⟨k + 1, C, M ++ [C], by have := HLT.out; omega, by go_num, Lib.hid ⟨HCM.out.1, by have := HCM.out.2; simp; omega⟩, Lib.hid (by have := HO7.out.more (k := 20 + 2 * (k + 1)) (by omega); exact this)⟩
                case measure => have := HLT.out; simp [intOf]; omega
            · have h0i : ¬ ((0 : Int) < (n : Int)) := by omega
              have C5 := Lib.hid (mark_on HON.out (by have := HLT.out; omega))
              have hml : (((z0 :: M).length : Nat) : Int) = (k : Int) + 1 := by have := HCM.out.2; simp; omega
              rw [hml] at C5
              clear hml HON hk
              go_wp2_with (go_at_call 16; refine C5.out.mono ?_; rintro e w7 ⟨rfl, ho7⟩; have HO7 := Lib.hid ho7; clear ho7)
              go_roundw
              case rel => exact ⟨k + 1, C, M ++ [C], by have := HLT.out; omega, by go_num, Lib.hid ⟨HCM.out.1, by have := HCM.out.2; simp; omega⟩, Lib.hid (by have := HO7.out.more (k := 20 + 2 * (k + 1)) (by omega); exact this)⟩
              case measure => have := HLT.out; simp [intOf]; omega
          · obtain rfl : D = k := by omega
            have C8 := Lib.hid (show Calls Try.prog 19 #[.pointer (some ⟨b, 0, none⟩), .int .i64 0] wr (AndOn wc b (20 + 2 * D) z0 [] (.int .i64 0)) from undo_on (m := 0) HON.out (by simp) (by omega) (by rw [HCM.out.1]; omega))
            have HZL := Lib.hid (show z0.length ≤ 100000 by rw [HZ.out]; omega)
            clear hlt hk HON
            go_wp2_with (first
              | (go_at_call 19; (with_reducible refine C8.out.mono ?_); rintro e w8 ⟨rfl, ho8⟩; have HO8 : Hid (On wc w8 b (20 + 2 * D) z0 []) := Lib.hid ho8; clear ho8)
              | (go_at_call 21; refine (cells_st HO8.out.st HZL.out).mono ?_)
              | (go_at_call 13; refine (depth_st HO10.out.st).mono ?_; rintro e w' ⟨rfl, rfl⟩)
              | (go_at_call 19; (with_reducible refine (undo_st_no (i := 0) HO10.out.st (.inr (by simp))).mono ?_); rintro e w11 ⟨rfl, hg11⟩; have HG11 := Lib.hid hg11; clear hg11))
            rintro e w9 ⟨v, rfl, hv9, hg9⟩
            obtain ⟨A9, c9, rfl, _, _⟩ := hv9.form
            have HO9 := Lib.hid (HO8.out.grown hg9)
            have HV9 := Lib.hid hv9.srcL
            have HA9 := Lib.hid (HO.out.belowL HO9.out.below).srcL
            clear hv9 hg9
            have CE := Lib.hid (eq_yes A9 A z0.length n c9 c z0 w9 rfl HZ.out.symm (by rw [HZ.out]; omega) HV9.out HA9.out)
            go_wp2_with (first
              | (go_at_call 20; refine CE.out.mono ?_; rintro e w10 ⟨rfl, hg10⟩; have HO10 := Lib.hid (HO9.out.grown hg10); clear hg10)
              | (go_at_call 13; refine (depth_st HO10.out.st).mono ?_; rintro e w' ⟨rfl, rfl⟩)
              | (go_at_call 19; (with_reducible refine (undo_st_no (i := 0) HO10.out.st (.inr (by simp))).mono ?_); rintro e w11 ⟨rfl, hg11⟩; have HO11 := Lib.hid (HO10.out.grown hg11); clear hg11))
            go_ret
            exact ⟨rfl, HB0.out.trans (HO11.out.below.mono HW.out)⟩
end Go.Proofs.Ytafcecacldafgaa.TnC
