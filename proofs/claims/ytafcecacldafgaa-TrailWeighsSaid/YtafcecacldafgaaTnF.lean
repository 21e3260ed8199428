/- The walk of TrailNests (no statement of its own). -/
import Derived.Test.YtafcecacldafgaaTnE
import Derived.Deep.CutBlock
namespace Go.Proofs.Ytafcecacldafgaa.TnF
open Go.RowKit
set_option linter.unusedVariables false
theorem block_add' (a : Addr) (n : Nat) : (a.add n).block = a.block := by unfold Addr.add; split <;> rfl
/-- Lists of bytes that came in. -/
structure Grid (w : World) (a : Option Addr) (len : Nat) : Prop where
  at_ : ∀ k, k < len → ∃ p b m c, a = some p ∧ p.block < w.heap.size ∧ w.cell? (p.add k) = some (.slice b m c) ∧ (m : Int) ≤ 9223372036854775807 ∧
    ∀ j, j < m → ∃ q x, b = some q ∧ q.block < w.heap.size ∧ w.cell? (q.add j) = some (.int .u8 x) ∧ 0 ≤ x ∧ x ≤ 255
  len : (len : Int) ≤ 9223372036854775807
theorem Grid.below {w w' : World} {a : Option Addr} {len : Nat} (h : Grid w a len) (hb : Below w.heap.size w w') : Grid w' a len := by
  refine ⟨fun k hk => ?_, h.len⟩
  obtain ⟨p, b, m, c, h1, h2, h3, h4, h5⟩ := h.at_ k hk
  refine ⟨p, b, m, c, h1, Nat.lt_of_lt_of_le h2 hb.size, (hb.cell (p := p.add k) (by rw [block_add']; exact h2)).trans h3, h4, fun j hj => ?_⟩
  obtain ⟨q, x, g1, g2, g3, g4⟩ := h5 j hj
  exact ⟨q, x, g1, Nat.lt_of_lt_of_le g2 hb.size, (hb.cell (p := q.add j) (by rw [block_add']; exact g2)).trans g3, g4⟩
set_option maxRecDepth 100000 in
set_option maxHeartbeats 8000000 in
theorem main (a0 : Option Addr) (len0 cap0 n : Nat) (z0 : List Int) (a1 : Option Addr) (len1 cap1 : Nat) (w : World)
    (hn : len0 < 8 ∧ n = len0 ∨ len0 = 8 ∧ n = 8 ∨ 8 < len0 ∧ n = 8) (hs : SrcL w a0 z0) (hz : z0.length = n) (hc0 : len0 ≤ cap0) (hl0 : (len0 : Int) ≤ 9223372036854775807) (hgr : Grid w a1 len1) :
    Calls Try.prog 7 #[.slice a0 len0 cap0, .slice a1 len1 cap1] w fun e w' => e = .returned (.bool true) ∧ Below w.heap.size w w' := by
  have HS := Lib.hid hs
  have HZ := Lib.hid hz
  have HGR := Lib.hid hgr
  have hn40 : n ≤ 8 := by omega
  have hnc : (n : Int) ≤ (cap0 : Int) := by omega
  have HL1 := Lib.hid hgr.len
  clear hs hz hgr
  have HN := Lib.hid hn
  clear hn
  have HL0 := Lib.hid hl0
  go_enter Try.func7, Try.ntmps7
  go_upto_region 3 with (go_at_call 9; refine (awake_true _).mono ?_; rintro e w1 ⟨rfl, hg1⟩)
  have HG1 := Lib.hid hg1
  have HS1 := Lib.hid (HS.out.below hg1)
  clear hg1
  go_cut [0] from 16 to 21 (fun v wr => ∃ A c, v = .slice A n c ∧ (n ≤ c ∧ OwnL wr w1.heap.size (.slice A n c) z0 ∧ w1.grownBy wr none))
  case first =>
    rcases HN.out with ⟨hk, hkn⟩ | ⟨hk, h40⟩ | ⟨hk, h40⟩
    · subst hkn
      have C1 := Lib.hid (clone64 a0 _ cap0 z0 w1 HZ.out (by omega) HS1.out)
      go_wp2_with (go_at_call 18; refine C1.out.mono ?_)
      rintro e w2 ⟨v, rfl, hO, hg2⟩
      obtain ⟨A, c, hv, hlc, hA⟩ := hO.form
      have HR := Lib.hid (show n ≤ c ∧ OwnL w2 w1.heap.size (.slice A n c) z0 ∧ w1.grownBy w2 none from ⟨by rw [← HZ.out]; exact hlc, by rw [← HZ.out, ← hv]; exact hO, hg2⟩)
      rw [HZ.out] at hv
      subst hv
      clear hO hg2 hlc hA C1
      go_wp2_with fail
      go_meet
      case rel => exact ⟨A, c, rfl, HR.out⟩
    · have h41 : n = len0 := by omega
      subst h41
      have H41 := Lib.hid h40
      have C1 := Lib.hid (clone64 a0 _ cap0 z0 w1 HZ.out (by omega) HS1.out)
      have C1b := Lib.hid (clone64 a0 8 cap0 z0 w1 (HZ.out.trans H41.out) (by omega) HS1.out)
      have hk1 : (n : Int) ≤ 8 := by omega
      clear h40 hk
      go_wp2_with (first | (go_at_call 18; (with_reducible refine C1.out.mono ?_)) | (go_at_call 18; (with_reducible refine C1b.out.mono ?_)))
      all_goals
       rintro e w2 ⟨v, rfl, hO, hg2⟩
       obtain ⟨A, c, hv, hlc, hA⟩ := hO.form
       have HR := Lib.hid (show n ≤ c ∧ OwnL w2 w1.heap.size (.slice A n c) z0 ∧ w1.grownBy w2 none from ⟨by rw [← HZ.out]; exact hlc, by rw [← HZ.out, ← hv]; exact hO, hg2⟩)
       rw [HZ.out] at hv
       subst hv
       clear hO hg2 hlc hA C1
       go_wp2_with fail
       go_meet
       case rel => exact ⟨A, c, rfl, HR.out⟩
    · have H41 := Lib.hid h40
      have HK := Lib.hid hk
      have hk2 : (8 : Int) < (len0 : Int) := by omega
      have hcc : (8 : Int) ≤ (cap0 : Int) := by omega
      clear h40 hk
      have C1 := Lib.hid (clone64 a0 8 cap0 z0 w1 (HZ.out.trans H41.out) (by omega) HS1.out)
      go_wp2_with (go_at_call 18; refine C1.out.mono ?_)
      rintro e w2 ⟨v, rfl, hO, hg2⟩
      obtain ⟨A, c, hv, hlc, hA⟩ := hO.form
      have HR := Lib.hid (show n ≤ c ∧ OwnL w2 w1.heap.size (.slice A n c) z0 ∧ w1.grownBy w2 none from ⟨by rw [← HZ.out]; exact hlc, by rw [← HZ.out, ← hv]; exact hO, hg2⟩)
      rw [HZ.out] at hv
      subst hv
      clear hO hg2 hlc hA C1
      go_wp2_with fail
      go_meet
      case rel => exact ⟨A, c, rfl, HR.out⟩
  case rest =>
    obtain ⟨A, c, rfl, hlc, hO, hg2⟩ := hcut
    have hA : 0 < n → ∃ g, A = some ⟨g, 0, none⟩ ∧ w1.heap.size ≤ g ∧ g < wc.heap.size := by
      obtain ⟨A', c', hv, _, hA⟩ := hO.form
      injection hv with e1 e2 e3
      subst e1
      rw [HZ.out] at hA
      exact hA
    have HO := Lib.hid hO
    have HA := Lib.hid hA
    have HB0 : Hid (Below w.heap.size w wc) := Lib.hid (HG1.out.trans (((Kp.none (P := fun _ => False) hg2).below (fun _ _ q => q.elim) (Nat.le_refl _)).mono HG1.out.size))
    have HW : Hid (w.heap.size ≤ wc.heap.size) := Lib.hid (Nat.le_trans HG1.out.size hg2.size)
    clear hO hg2 hA HG1 HS1 HS HN hc0 hnc
    obtain ⟨W0, eW⟩ : ∃ W, W = wc := ⟨wc, rfl⟩
    subst eW
    by_cases hn0 : n = 0
    · have hd : ((n : Int) == 0) = true := by simp [hn0]
      go_wp2_with (first
        | (go_at_call 10; refine (new_on 0 0 _ (by decide)).mono ?_; rintro e w3 ⟨rfl, ho⟩; have HON := Lib.hid ho; clear ho)
        | (go_at_call 15; refine (len_st HON.out.st).mono ?_; rintro e w' ⟨rfl, rfl⟩))
      go_ret
      exact ⟨rfl, HB0.out.trans (HON.out.below.mono HW.out)⟩
    have hd : ((n : Int) == 0) = false := by simp; omega
    have HN0 := Lib.hid hn0
    clear hn0
    go_upto_region 7 with (go_at_call 10; refine (new_on _ n _ (by omega)).mono ?_; rintro e w3 ⟨rfl, ho⟩)
    rw [← laid_zero z0 n HZ.out] at ho
    have HON := Lib.hid ho
    clear ho hd
    generalize W0.heap.size + 1 = b at *
    go_wp2_with fail
    go_loopw [33] (fun i wr => ∃ k : Nat, k ≤ n ∧ i = .int .i64 (k : Int) ∧ Hid (On W0 wr b k (laid z0 k) [])) (fun i _ => n - (intOf i).toNat)
    case atStart => exact ⟨0, Nat.zero_le _, rfl, HON⟩
    case round =>
      clear HON
      obtain ⟨k, hk, rfl, HON⟩ := hrel
      by_cases hlt : k < n
      · obtain ⟨g, hAe, hg1, hg2⟩ := HA.out (by omega)
        have hcell := (show OwnL wr w1.heap.size (.slice (some ⟨g, 0, none⟩) z0.length c) z0 from by have := HO.out.belowL HON.out.below; rw [hAe, ← HZ.out] at this; exact this).cell k (by rw [HZ.out]; exact hlt)
        have C3 := Lib.hid (set_on HON.out (nthI z0 k) (i := k) (by rw [laid_len _ _ (by rw [HZ.out]; exact hk), HZ.out]; exact hlt) (by omega) (by rw [laid_len _ _ (by rw [HZ.out]; exact hk), HZ.out]; omega))
        rw [laid_succ z0 k (by rw [HZ.out]; exact hlt)] at C3
        have hki : (k : Int) < (n : Int) := by omega
        have HLT := Lib.hid hlt
        subst hAe
        clear hlt hg1 hg2 HON
        go_wp2_with (go_at_call 17; refine C3.out.mono ?_; rintro e w4 ⟨rfl, ho4⟩; have HO4 := Lib.hid ho4; clear ho4)
        go_roundw
        case rel => exact ⟨k + 1, by have := HLT.out; omega, by go_num, HO4⟩
        case measure => have := HLT.out; simp [intOf]; omega
      · obtain rfl : n = k := by omega
        have hz0 : laid z0 n = z0 := by rw [← HZ.out]; exact laid_all z0
        rw [hz0] at HON
        clear hlt hk hz0
        have HNI : Hid (NI W0 wr b 20 n 8 (.slice none 0 0) z0 z0 [] []) := Lib.hid ⟨⟨fun k => W0.heap.size ≤ k ∧ k < wr.heap.size, (HON.out.st.more (by omega)).mono fun k hk q => ⟨q, hk⟩, LL.nil _ _, fun k q => q⟩, HON.out.kp, rfl, fun g hg => by simp [Value.ownBlock] at hg, by rw [HZ.out]; exact Nat.le_refl _, by rw [HZ.out]; exact hn40⟩
        clear HON
        have HL1' := HL1.out
        go_upto_block 2 with fail
        go_cut [8, 9, 10, 11, 12] from 45 to 84 (fun v8 v9 v10 v11 v12 wx => ∃ (C : List Int) (Ms : List (List Int)), Hid (Ms.length ≤ 12 ∧ ∀ D ∈ Ms, n ≤ D.length ∧ D.length ≤ 100) ∧ Hid (NI W0 wx b 1000 n 100 v8 z0 C Ms Ms))
        case first =>
          go_wp2_with fail
          go_loopw [8, 45] (fun v8 i wr => ∃ (k : Nat) (C : List Int) (Ms : List (List Int)), k ≤ len1 ∧ k ≤ 12 ∧ i = .int .i64 (k : Int) ∧ Hid (Ms.length = k ∧ ∀ D ∈ Ms, n ≤ D.length ∧ D.length ≤ 100) ∧ Hid (NI W0 wr b (20 + 20 * k) n (8 + 2 * k) v8 z0 C Ms Ms)) (fun _ i _ => len1 - (intOf i).toNat)
          case atStart => exact ⟨0, z0, [], Nat.zero_le _, Nat.zero_le _, rfl, Lib.hid ⟨rfl, fun D hD => by cases hD⟩, HNI⟩
          case round =>
            clear HNI
            obtain ⟨k, C, Ms, hk, hk12, rfl, HM, HNI⟩ := hrel
            by_cases hlt : k < len1
            · obtain ⟨p, bb, m, cc, rfl, hp1, hp2w, hm63, hby⟩ := HGR.out.at_ k hlt
              have hp2 : wr.cell? (p.add k) = some (.slice bb m cc) := ((HB0.out.trans (HNI.out.below.mono HW.out)).cell (p := p.add k) (by rw [block_add']; exact hp1)).trans hp2w
              have hki : (k : Int) < (len1 : Int) := by omega
              by_cases h12 : k < 12
              · have h12i : (k : Int) < 12 := by omega
                have H12 := Lib.hid h12
                have HLT := Lib.hid hlt
                have HBY := Lib.hid hby
                have HNI0 : Hid (n ≤ C.length ∧ C.length ≤ 8 + 2 * k) := Lib.hid ⟨HNI.out.lo, HNI.out.hi⟩
                clear hby hlt hk hk12 h12 hp1 hp2w
                have CC := Lib.hid (cells_ni HNI.out (by have := H12.out; omega))
                have MK := Lib.hid (fun w' v' (h : NI W0 w' b (20 + 20 * k) n (8 + 2 * k) v' z0 C (Ms ++ [C]) Ms) => mark_ni h (by have := H12.out; omega))
                have HML := Lib.hid (show Ms.length < 100000 by have := HM.out.1; have := H12.out; omega)
                go_upto_region 18 with (first
                  | (go_at_call 21; refine CC.out.mono ?_; rintro e w4 ⟨v, rfl, hv, hg4⟩; obtain ⟨A4, c4, rfl, _, _⟩ := hv.form; have HV := Lib.hid (hv.kept (World.grownBy_alloc w4 (.cells #[.slice A4 C.length c4] 27) none) (own_or _)); have HG4 := Lib.hid (World.grownBy.trans hg4 (World.grownBy_alloc w4 (.cells #[.slice A4 C.length c4] 27) none)); clear hv hg4)
                  | (at_builtin; refine push_ni rfl (.tmp 52) (.tmp 55) rfl rfl C A4 c4 w4.heap.size rfl rfl wr HG4.out.size HNI.out HG4.out (heap_alloc_new w4 _) HV.out HML.out ?_; intro v5 w5 hn5; have HN5 := Lib.hid hn5; clear hn5))
                clear hp2
                go_wp2_with (go_at_call 16; refine (MK.out _ _ HN5.out).mono ?_; rintro e w6 ⟨rfl, hn6⟩; have HN6 := Lib.hid hn6; clear hn6)
                go_loopw [61] (fun i wi => ∃ (j : Nat) (C' : List Int), j ≤ m ∧ i = .int .i64 (j : Int) ∧ Hid (NI W0 wi b (21 + 20 * k + min j 12) n (8 + 2 * k) v5 z0 C' (Ms ++ [C]) (Ms ++ [C]))) (fun i _ => m - (intOf i).toNat)
                case atStart => exact ⟨0, C, Nat.zero_le _, rfl, Lib.hid (HN6.out.more (by omega) (Nat.le_refl _))⟩
                case round =>
                  clear HN6 HN5 HNI
                  obtain ⟨j, C', hj, rfl, HNJ⟩ := hrel
                  by_cases hjm : j < m
                  · obtain ⟨q, x, rfl, hq1, hq2w, hx0, hx1⟩ := HBY.out j hjm
                    have hq2 : wr.cell? (q.add j) = some (.int .u8 x) := ((HB0.out.trans (HNJ.out.below.mono HW.out)).cell (p := q.add j) (by rw [block_add']; exact hq1)).trans hq2w
                    have hji : (j : Int) < (m : Int) := by omega
                    have HJM := Lib.hid hjm
                    clear hjm hq1 hq2w hj
                    by_cases h12j : j < 12
                    · have h0i : (0 : Int) < (n : Int) := by have := HN0.out; omega
                      obtain ⟨ii, hii⟩ : ∃ ii : Nat, x % (n : Int) = (ii : Int) := ⟨(x % (n : Int)).toNat, by have := Int.emod_nonneg x (show (n : Int) ≠ 0 by omega); omega⟩
                      have hil : ii < n := by
                        have := Int.emod_lt_of_pos x h0i
                        omega
                      have hit : x.tmod (n : Int) = (ii : Int) := by rw [Int.tmod_eq_emod_of_nonneg (by omega)]; exact hii
                      have hm1 : min (j + 1) 12 = min j 12 + 1 := by omega
                      have HM1 := Lib.hid hm1
                      have C4 := Lib.hid (fun v => set_ni HNJ.out v (i := ii) hil (by have := H12.out; omega) (by have := H12.out; omega) (by simp))
                      have h12ji : (j : Int) < 12 := by omega
                      have hj0 : (0 : Int) ≤ (j : Int) := by omega
                      have hk0 : (0 : Int) ≤ (k : Int) := by omega
                      clear hil hm1 HNJ h12j
                      go_wp2_with (go_at_call 17; refine (C4.out _).mono ?_; rintro e w7 ⟨rfl, hn7⟩; have HN7 := Lib.hid hn7; clear hn7)
                      go_roundw
                      case rel => exact ⟨j + 1, _, by have := HJM.out; omega, by go_num, Lib.hid (HN7.out.more (by have := HM1.out; omega) (Nat.le_refl _))⟩
                      case measure => have := HJM.out; simp [intOf]; omega
                    · have hm1 : min (j + 1) 12 = min j 12 := by omega
                      have HM1 := Lib.hid hm1
                      have h12ji : ¬ ((j : Int) < 12) := by omega
                      clear hm1
                      go_wp2_with fail
                      go_roundw
                      case rel => exact ⟨j + 1, _, by have := HJM.out; omega, by go_num, Lib.hid (HNJ.out.more (by have := HM1.out; omega) (Nat.le_refl _))⟩
                      case measure => have := HJM.out; simp [intOf]; omega
                  · obtain rfl : m = j := by omega
                    obtain ⟨k3, hk3⟩ : ∃ k3 : Nat, (k : Int) % 3 = (k3 : Int) := ⟨k % 3, by omega⟩
                    have hk33 : k3 < 3 := by omega
                    have hkt : (k : Int).tmod 3 = (k3 : Int) := by rw [Int.tmod_eq_emod_of_nonneg (by omega)]; exact hk3
                    have GR := Lib.hid (grow_ni HNJ.out (k := k3) (i := (k3 : Int)) (by omega) (by omega) (by have := H12.out; omega) (by simp))
                    have HK3 := Lib.hid hk33
                    have hlo := HNI0.out.1
                    have hhi := HNI0.out.2
                    have HMM : Hid ((Ms ++ [C]).length = k + 1 ∧ ∀ D ∈ Ms ++ [C], n ≤ D.length ∧ D.length ≤ 100) := Lib.hid ⟨by simp [HM.out.1], fun D hD => by
                      rcases List.mem_append.1 hD with hD | hD
                      · exact HM.out.2 D hD
                      · rw [List.mem_singleton.1 hD]; have := H12.out; exact ⟨hlo, by omega⟩⟩
                    clear hjm hj HNJ hk33 hlo hhi
                    go_wp2_with (go_at_call 24; refine GR.out.mono ?_; rintro e w8 ⟨rfl, hn8⟩; have HN8 := Lib.hid hn8; clear hn8)
                    go_roundw
                    case rel => exact ⟨k + 1, _, Ms ++ [C], by have := HLT.out; omega, by have := H12.out; omega, by go_num, HMM, Lib.hid (HN8.out.more (by have := H12.out; omega) (by have := HK3.out; omega))⟩
                    case measure => have := HLT.out; simp [intOf]; omega
              · have HK12 : Hid (k = 12) := Lib.hid (by omega)
                have h12i : ¬ ((k : Int) < 12) := by omega
                have h12j : (12 : Int) ≤ (k : Int) := by omega
                clear hby hlt hk hk12 h12 hp1 hp2w
                go_wp2_with fail
                go_meet
                case rel => exact ⟨C, Ms, Lib.hid ⟨by rw [HM.out.1, HK12.out]; exact Nat.le_refl _, HM.out.2⟩, Lib.hid (HNI.out.more (by have := HK12.out; omega) (by have := HK12.out; omega))⟩
            · obtain rfl : len1 = k := by omega
              have HK12 := Lib.hid hk12
              clear hlt hk hk12
              go_wp2_with fail
              go_meet
              case rel => exact ⟨C, Ms, Lib.hid ⟨by rw [HM.out.1]; exact HK12.out, HM.out.2⟩, Lib.hid (HNI.out.more (by have := HK12.out; omega) (by have := HK12.out; omega))⟩
        case rest =>
          obtain ⟨C, Ms, HM, HNI⟩ := hcut
          obtain ⟨Aw, cw, rfl, hAw⟩ := HNI.out.list
          have HAW : Hid (0 < Ms.length → ∃ g, Aw = some ⟨g, 0, none⟩) := Lib.hid fun h => by obtain ⟨g, e, _⟩ := hAw h; exact ⟨g, e⟩
          have hml : (Ms.length : Int) ≤ 12 := by have := HM.out.1; omega
          clear hAw HGR
          have HNJ0 : Hid (NI W0 wc b 1000 n 100 (.slice Aw Ms.length cw) z0 C Ms (Ms.take Ms.length)) := Lib.hid (by rw [List.take_length]; exact HNI.out)
          clear HNI
          go_wp2_with fail
          clear hml
          go_loopw [13] (fun i wr => ∃ (j : Nat) (C' : List Int), j ≤ Ms.length ∧ i = .int .i64 ((j : Int) - 1) ∧ Hid (NI W0 wr b 1000 n 100 (.slice Aw Ms.length cw) z0 C' Ms (Ms.take j))) (fun i _ => (intOf i + 1).toNat)
          case atStart => exact ⟨Ms.length, C, Nat.le_refl _, rfl, HNJ0⟩
          case round =>
            clear HNJ0
            obtain ⟨j, C', hj, rfl, HNJ⟩ := hrel
            cases j with
            | zero =>
              have e0 : ((0 : Nat) : Int) - 1 = -1 := rfl
              rw [e0]
              have hC : C' = z0 := by have := HNJ.out.first; simpa using this
              subst hC
              clear e0
              have CC := Lib.hid (cells_ni HNJ.out (by omega))
              go_wp2_with (go_at_call 21; refine CC.out.mono ?_)
              rintro e w9 ⟨v, rfl, hv9, hg9⟩
              obtain ⟨A9, c9, rfl, _, _⟩ := hv9.form
              have HO9 := Lib.hid (HNJ.out.grown hg9)
              have HV9 := Lib.hid hv9.srcL
              have HA9 := Lib.hid (HO.out.belowL HO9.out.below).srcL
              clear hv9 hg9
              have CE := Lib.hid (eq_yes A9 A C'.length n c9 c C' w9 rfl HZ.out.symm (by rw [HZ.out]; omega) HV9.out HA9.out)
              go_wp2_with (go_at_call 20; refine CE.out.mono ?_; rintro e w10 ⟨rfl, hg10⟩; have HO10 := Lib.hid (HO9.out.grown hg10); clear hg10)
              go_ret
              exact ⟨rfl, HB0.out.trans (HO10.out.below.mono HW.out)⟩
            | succ m =>
              have e0 : ((m + 1 : Nat) : Int) - 1 = (m : Int) := by omega
              rw [e0]
              obtain ⟨gw, rfl⟩ := HAW.out (by omega)
              have hmm : m < Ms.length := by omega
              obtain ⟨A', c', hcell, hsrc⟩ := HNJ.out.at m hmm
              have hlt : (Ms.take (m + 1)).length = m + 1 := by rw [List.length_take]; omega
              have hgm : (Ms.take (m + 1))[m]'(by omega) = Ms[m] := by simp
              have htt : (Ms.take (m + 1)).take m = Ms.take m := by rw [List.take_take]; congr 1; omega
              have HN4 : Hid (NI W0 wr.drew b 1000 n 100 (.slice (some ⟨gw, 0, none⟩) Ms.length cw) z0 C' Ms (Ms.take (m + 1))) := Lib.hid (HNJ.out.grown (grown_drew (World.grownBy_refl _)))
              have DP : Hid (Calls Try.prog 13 #[.pointer (some ⟨b, 0, none⟩)] wr.drew (AndO wr.drew (.int .i64 ((m : Int) + 1)))) := Lib.hid (by
                have := depth_ni HN4.out
                rw [hlt] at this
                exact this)
              have hD := HM.out.2 Ms[m] (List.getElem_mem hmm)
              have UN := Lib.hid (undo_nr HN4.out (m := m) (by omega) (by omega) (by omega) (by rw [hgm]; exact hD.1) (by rw [hgm]; exact hD.2))
              rw [hgm, htt] at UN
              have hHC := hcell
              obtain ⟨D, hDe⟩ : ∃ D, Ms[m] = D := ⟨_, rfl⟩
              rw [hDe] at hHC UN hD
              have HDL := Lib.hid hD
              have HDE : Hid (Ms[m]? = some D) := Lib.hid (by rw [List.getElem?_eq_getElem hmm, hDe])
              have HMM := Lib.hid hmm
              have hwm : (0 : Int) ≤ (m : Int) := by omega
              have hwm2 : (m : Int) < (Ms.length : Int) := by omega
              have hwm3 : (m : Int) ≤ 12 := by have := HM.out.1; omega
              clear e0 hj hlt hgm htt hD hDe hcell hsrc hmm
              go_upto_region 30 with fail
              have hwr : IntKind.i64.wrap ((m : Int) + 1) = (m : Int) + 1 := IntWalk.i64_in _ (by omega)
              refine wp_region_noPanic ?_
              refine wp_region_held_drew (S := fun W => W.cell? ⟨gw, m, none⟩ = some (.slice A' D.length c')) (by kernel_rfl) hHC (fun hHeld => ?_)
              generalize wr.drew = w4 at *
              refine wpAnyH_take (i := 0) (v := ?v1301) rfl (by kernel_rfl) (by kernel_rfl) (by kernel_rfl) (fun _ _ _ h => h) (Or.inl ⟨by rfl, ?y1301⟩) (by assumption) ?r1301
              case y1301 => ((intro w hSw; (try dsimp only at hSw); go_simp); try with_reducible rfl)
              try simp only [Act.put, List.getElem_toArray, List.getElem_cons_zero, List.setIfInBounds_toArray, List.set_cons_zero, List.set_cons_succ]
              refine wpAnyH_take (i := 2) (v := ?v1302) rfl (by kernel_rfl) (by kernel_rfl) (by kernel_rfl) (fun _ _ _ h => h) (Or.inl ⟨by rfl, ?y1302⟩) (by assumption) ?r1302
              case y1302 => ((intro w hSw; (try dsimp only at hSw); go_simp); try with_reducible rfl)
              try simp only [Act.put, List.getElem_toArray, List.getElem_cons_succ, List.getElem_cons_zero, List.setIfInBounds_toArray, List.set_cons_zero, List.set_cons_succ]
              refine wpAnyH_take (i := 3) (v := ?v1303) rfl (by kernel_rfl) (by kernel_rfl) (by kernel_rfl) (fun _ _ _ h => h) (Or.inl ⟨by rfl, ?y1303⟩) (by assumption) ?r1303
              case y1303 => ((intro w hSw; (try dsimp only at hSw); go_simp); try with_reducible rfl)
              try simp only [Act.put, List.getElem_toArray, List.getElem_cons_succ, List.getElem_cons_zero, List.setIfInBounds_toArray, List.set_cons_zero, List.set_cons_succ]
              refine wpAnyH_ready (rs := [1]) (by kernel_rfl) (by simp) ?_
              refine AllReadyH.cons rfl (fun K hK => ?_) ?_
              · go_simp
                refine DP.out.mono ?_
                rintro e wS ⟨rfl, rfl⟩
                refine hK.out _ _ (hHeld) (fun hHeld' => ?_)
                clear hHeld
                have hHeld := hHeld'
                clear hHeld'
                clear hK K
                try simp only [Act.put, List.getElem_toArray, List.getElem_cons_succ, List.getElem_cons_zero, List.setIfInBounds_toArray, List.set_cons_zero, List.set_cons_succ]
                refine wpAnyH_take (i := 4) (v := ?v1304) rfl (by kernel_rfl) (by kernel_rfl) (by kernel_rfl) (fun _ _ _ h => h) (Or.inl ⟨by rfl, ?y1304⟩) (by assumption) ?r1304
                case y1304 => ((intro w hSw; (try dsimp only at hSw); go_simp); try with_reducible rfl)
                try simp only [Act.put, List.getElem_toArray, List.getElem_cons_succ, List.getElem_cons_zero, List.setIfInBounds_toArray, List.set_cons_zero, List.set_cons_succ]
                refine wpAnyH_take (i := 5) (v := ?v1305) rfl (by kernel_rfl) (by kernel_rfl) (by kernel_rfl) (fun _ _ _ h => h) (Or.inl ⟨by rfl, ?y1305⟩) (by assumption) ?r1305
                case y1305 => ((intro w hSw; (try dsimp only at hSw); go_simp); try with_reducible rfl)
                try simp only [Act.put, List.getElem_toArray, List.getElem_cons_succ, List.getElem_cons_zero, List.setIfInBounds_toArray, List.set_cons_zero, List.set_cons_succ]
                refine wpAnyH_take (i := 6) (v := ?v1306) rfl (by kernel_rfl) (by kernel_rfl) (by kernel_rfl) (fun _ _ _ h => h) (Or.inl ⟨by rfl, ?y1306⟩) (by assumption) ?r1306
                case y1306 => ((intro w hSw; (try dsimp only at hSw); go_simp); try with_reducible rfl)
                try simp only [Act.put, List.getElem_toArray, List.getElem_cons_succ, List.getElem_cons_zero, List.setIfInBounds_toArray, List.set_cons_zero, List.set_cons_succ]
                refine wpAnyH_take (i := 7) (v := ?v1307) rfl (by kernel_rfl) (by kernel_rfl) (by kernel_rfl) (fun _ _ _ h => h) (Or.inl ⟨by rfl, ?y1307⟩) (by assumption) ?r1307
                case y1307 => ((intro w hSw; (try dsimp only at hSw); go_simp); try with_reducible rfl)
                try simp only [Act.put, List.getElem_toArray, List.getElem_cons_succ, List.getElem_cons_zero, List.setIfInBounds_toArray, List.set_cons_zero, List.set_cons_succ]
                refine wpAnyH_ready (rs := [8]) (by kernel_rfl) (by simp) ?_
                refine AllReadyH.cons rfl (fun K hK => ?_) ?_
                · go_simp
                  refine UN.out.mono ?_
                  rintro e w5 ⟨⟨rfl, hn5⟩, hrow⟩
                  have HN5 := Lib.hid hn5
                  refine hK.out _ _ ((World.cell?_of_block (a := ⟨gw, m, none⟩) (hrow gw rfl)).trans hHeld) (fun hHeld' => ?_)
                  clear hHeld
                  have hHeld := hHeld'
                  clear hHeld'
                  clear hn5 hrow
                  clear hK K
                  try simp only [Act.put, List.getElem_toArray, List.getElem_cons_succ, List.getElem_cons_zero, List.setIfInBounds_toArray, List.set_cons_zero, List.set_cons_succ]
                  refine wpAnyH_take (i := 9) (v := ?v1308) rfl (by kernel_rfl) (by kernel_rfl) (by kernel_rfl) (fun _ _ _ h => h) (Or.inl ⟨by rfl, ?y1308⟩) (by assumption) ?r1308
                  case y1308 => ((intro w hSw; (try dsimp only at hSw); go_simp); try with_reducible rfl)
                  try simp only [Act.put, List.getElem_toArray, List.getElem_cons_succ, List.getElem_cons_zero, List.setIfInBounds_toArray, List.set_cons_zero, List.set_cons_succ]
                  refine wpAnyH_take (i := 10) (v := ?v1309) rfl (by kernel_rfl) (by kernel_rfl) (by kernel_rfl) (fun _ _ _ h => h) (Or.inl ⟨by rfl, ?y1309⟩) (by assumption) ?r1309
                  case y1309 => ((intro w hSw; (try dsimp only at hSw); go_simp); try with_reducible rfl)
                  try simp only [Act.put, List.getElem_toArray, List.getElem_cons_succ, List.getElem_cons_zero, List.setIfInBounds_toArray, List.set_cons_zero, List.set_cons_succ]
                  refine wpAnyH_take (i := 11) (v := ?v1310) rfl (by kernel_rfl) (by kernel_rfl) (by kernel_rfl) (fun _ _ _ h => h) (Or.inl ⟨by rfl, ?y1310⟩) (by assumption) ?r1310
                  case y1310 => ((intro w hSw; (try dsimp only at hSw); go_simp); try with_reducible rfl)
                  try simp only [Act.put, List.getElem_toArray, List.getElem_cons_succ, List.getElem_cons_zero, List.setIfInBounds_toArray, List.set_cons_zero, List.set_cons_succ]
                  refine wpAnyH_take (i := 12) (v := ?v1311) rfl (by kernel_rfl) (by kernel_rfl) (by kernel_rfl) (fun _ _ _ h => h) (Or.inl ⟨by rfl, ?y1311⟩) (by assumption) ?r1311
                  case y1311 => ((intro w hSw; (try dsimp only at hSw); go_simp); try with_reducible rfl)
                  try simp only [Act.put, List.getElem_toArray, List.getElem_cons_succ, List.getElem_cons_zero, List.setIfInBounds_toArray, List.set_cons_zero, List.set_cons_succ]
                  refine wpAnyH_take (i := 14) (v := ?v1312) rfl (by kernel_rfl) (by kernel_rfl) (by kernel_rfl) (fun _ _ _ h => h) (Or.inl ⟨by rfl, ?y1312⟩) (by assumption) ?r1312
                  case y1312 => ((intro w hSw; (try dsimp only at hSw); go_simp); try with_reducible rfl)
                  try simp only [Act.put, List.getElem_toArray, List.getElem_cons_succ, List.getElem_cons_zero, List.setIfInBounds_toArray, List.set_cons_zero, List.set_cons_succ]
                  refine wpAnyH_take (i := 15) (v := ?v1313) rfl (by kernel_rfl) (by kernel_rfl) (by kernel_rfl) (fun _ _ _ h => h) (Or.inl ⟨by rfl, ?y1313⟩) (by assumption) ?r1313
                  case y1313 => ((intro w hSw; (try dsimp only at hSw); go_simp); try with_reducible rfl)
                  try simp only [Act.put, List.getElem_toArray, List.getElem_cons_succ, List.getElem_cons_zero, List.setIfInBounds_toArray, List.set_cons_zero, List.set_cons_succ]
                  refine wpAnyH_take (i := 16) (v := ?v1314) rfl (by kernel_rfl) (by kernel_rfl) (by kernel_rfl) (fun _ _ _ h => h) (Or.inl ⟨by rfl, ?y1314⟩) (by assumption) ?r1314
                  case y1314 => ((intro w hSw; (try dsimp only at hSw); go_simp); try with_reducible rfl)
                  try simp only [Act.put, List.getElem_toArray, List.getElem_cons_succ, List.getElem_cons_zero, List.setIfInBounds_toArray, List.set_cons_zero, List.set_cons_succ]
                  refine wpAnyH_take (i := 17) (v := ?v1315) rfl (by kernel_rfl) (by kernel_rfl) (by kernel_rfl) (fun _ _ _ h => h) (Or.inl ⟨by rfl, ?y1315⟩) (by assumption) ?r1315
                  case y1315 => ((intro w hSw; (try dsimp only at hSw); go_simp); try with_reducible rfl)
                  try simp only [Act.put, List.getElem_toArray, List.getElem_cons_succ, List.getElem_cons_zero, List.setIfInBounds_toArray, List.set_cons_zero, List.set_cons_succ]
                  refine wpAnyH_ready (rs := [13]) (by kernel_rfl) (by simp) ?_
                  refine AllReadyH.cons rfl (fun K hK => ?_) ?_
                  · go_simp
                    refine (cells_ni HN5.out (by omega)).mono ?_
                    rintro e w6 ⟨v, rfl, hv6, hg6⟩
                    obtain ⟨A6, c6, rfl, _, _⟩ := hv6.form
                    have HN6 := Lib.hid (HN5.out.grown hg6)
                    have HV6 := Lib.hid hv6.srcL
                    refine hK.out _ _ (cell_grown hHeld hg6) (fun hHeld' => ?_)
                    clear hHeld
                    have hHeld := hHeld'
                    clear hHeld'
                    clear hv6 hg6
                    clear hK K
                    try simp only [Act.put, List.getElem_toArray, List.getElem_cons_succ, List.getElem_cons_zero, List.setIfInBounds_toArray, List.set_cons_zero, List.set_cons_succ]
                    refine wpAnyH_ready (rs := [18]) (by kernel_rfl) (by simp) ?_
                    refine AllReadyH.cons rfl (fun K hK => ?_) ?_
                    · go_simp
                      have HS6 : Hid (SrcL w6 A' D) := Lib.hid (by
                        obtain ⟨A2, c2', q1, q2⟩ := HN6.out.at m HMM.out
                        have e := q1.symm.trans hHeld
                        simp only [Option.some.injEq, Value.slice.injEq] at e
                        obtain ⟨rfl, _, _⟩ := e
                        have hde := HDE.out
                        rw [List.getElem?_eq_getElem HMM.out] at hde
                        injection hde with hde
                        rw [hde] at q2
                        exact q2)
                      refine (eq_yes A6 A' D.length D.length c6 c' D w6 rfl rfl (by have := HDL.out; omega) HV6.out HS6.out).mono ?_
                      rintro e w7 ⟨rfl, hg7⟩
                      have HN7 := Lib.hid (HN6.out.grown hg7)
                      refine hK.out _ _ (cell_grown hHeld hg7) (fun hHeld' => ?_)
                      clear hHeld
                      have hHeld := hHeld'
                      clear hHeld'
                      clear hg7
                      clear hK K
                      try simp only [Act.put, List.getElem_toArray, List.getElem_cons_succ, List.getElem_cons_zero, List.setIfInBounds_toArray, List.set_cons_zero, List.set_cons_succ]
                      refine wpAnyH_take (i := 19) (v := ?v1316) rfl (by kernel_rfl) (by kernel_rfl) (by kernel_rfl) (fun _ _ _ h => h) (Or.inl ⟨by rfl, ?y1316⟩) (by assumption) ?r1316
                      case y1316 => ((intro w hSw; (try dsimp only at hSw); go_simp); try with_reducible rfl)
                      try simp only [Act.put, List.getElem_toArray, List.getElem_cons_succ, List.getElem_cons_zero, List.setIfInBounds_toArray, List.set_cons_zero, List.set_cons_succ]
                      refine wpAnyH_take (i := 20) (v := ?v1317) rfl (by kernel_rfl) (by kernel_rfl) (by kernel_rfl) (fun _ _ _ h => h) (Or.inl ⟨by rfl, ?y1317⟩) (by assumption) ?r1317
                      case y1317 => ((intro w hSw; (try dsimp only at hSw); go_simp); try with_reducible rfl)
                      try simp only [Act.put, List.getElem_toArray, List.getElem_cons_succ, List.getElem_cons_zero, List.setIfInBounds_toArray, List.set_cons_zero, List.set_cons_succ]
                      refine wpAnyH_done (by kernel_rfl) ?_ _
                      refine NoPanic.normal ?_
                      clear hHeld hwr
                      go_wp2_with fail
                      go_roundw
                      case rel => exact ⟨m, D, by have := HMM.out; omega, by go_num, HN7⟩
                      case measure => simp [intOf] <;> omega
                    exact AllReadyH.nil
                  exact AllReadyH.nil
                exact AllReadyH.nil
              exact AllReadyH.nil

end Go.Proofs.Ytafcecacldafgaa.TnF
