/- The walk of the law that one whose priority is changed comes elsewhere, the others in their order (no statement of its own). -/
import Derived.Test.YtpklbaebfeoceaaQuC
import Derived.Deep.Cut
import Derived.Deep.CutRange
namespace Go.Proofs.Ytpklbaebfeoceaa
namespace QbM
open Go.RowKit
set_option linter.unusedVariables false
/-- What holds all along. -/
def MR (w : World) (B0 B b1 m1 b2 m2 n c : Nat) (A : Option Addr) (l : List Int) (L1 L2 : List It) (wr : World) : Prop :=
  OwnL wr B0 (.slice A n c) l ∧ Q2 B wr b1 m1 b2 m2 (n : Int) L1 L2 ∧ Below w.heap.size w wr
theorem MR.next {w : World} {B0 B b1 m1 b2 m2 n c : Nat} {A : Option Addr} {l : List Int} {L1 L2 L1' L2' : List It} {wr wx : World} (h : MR w B0 B b1 m1 b2 m2 n c A l L1 L2 wr) (hA : ∀ g, (Value.slice A n c).ownBlock = some g → g < B) (hw : w.heap.size ≤ B) (hq : Q2 B wx b1 m1 b2 m2 (n : Int) L1' L2') (hb : Below B wr wx) : MR w B0 B b1 m1 b2 m2 n c A l L1' L2' wx :=
  ⟨h.1.block fun g hg => hb.block g (hA g hg), hq, h.2.2.trans (hb.mono hw)⟩
theorem MR.kept {w : World} {B0 B b1 m1 b2 m2 n c : Nat} {A : Option Addr} {l : List Int} {L1 L2 : List It} {wr wx : World} (h : MR w B0 B b1 m1 b2 m2 n c A l L1 L2 wr) (hg : wr.grownBy wx none) : MR w B0 B b1 m1 b2 m2 n c A l L1 L2 wx :=
  ⟨h.1.kept hg (by by_cases e : (Value.slice A n c).ownBlock = none; exact .inl e; exact .inr e), h.2.1.kept hg, h.2.2.trans (below_of_grown hg h.2.2.size)⟩
set_option maxRecDepth 100000 in
set_option maxHeartbeats 8000000 in
theorem main (a0 : Option Addr) (len0 cap0 n : Nat) (z0 : List Int) (a1 a2 : Int) (w : World)
    (hn : len0 < 30 ∧ n = len0 ∨ len0 = 30 ∧ n = 30 ∨ 30 < len0 ∧ n = 30) (hs : SrcL w a0 z0) (hz : z0.length = n) (hc0 : len0 ≤ cap0) (hl0 : (len0 : Int) ≤ 9223372036854775807)
    (hx0 : 0 ≤ a1) (hx1 : a1 ≤ 255) :
    Calls Try.prog 6 #[.slice a0 len0 cap0, .int .u8 a1, .int .i64 a2] w fun e w' => e = .returned (.bool true) ∧ Below w.heap.size w w' := by
  have AW := Lib.hid (awake_q w)
  have HS := Lib.hid hs
  have HZ := Lib.hid hz
  have hn40 : n ≤ 30 := by omega
  have hnc : (n : Int) ≤ (cap0 : Int) := by omega
  clear hs hz
  have HN := Lib.hid hn
  clear hn
  go_enter Try.func6, Try.ntmps6
  go_upto_region 3 with (go_at_call 8; refine AW.out.mono ?_; rintro e w1 ⟨rfl, hg1⟩)
  have HG1 := Lib.hid hg1
  have HS1 := Lib.hid (HS.out.below (below_of_grown hg1 (Nat.le_refl _)))
  clear hg1
  go_cut [0] from 23 to 28 (fun v wr => ∃ A c, v = .slice A n c ∧ (n ≤ c ∧ OwnL wr w1.heap.size (.slice A n c) z0 ∧ w1.grownBy wr none))
  case first =>
    rcases HN.out with ⟨hk, hkn⟩ | ⟨hk, h30⟩ | ⟨hk, h30⟩
    · subst hkn
      have C1 := Lib.hid (clone64 a0 _ cap0 z0 w1 HZ.out (by omega) HS1.out)
      go_wp2_with (go_at_call 21; refine C1.out.mono ?_)
      rintro e w2 ⟨v, rfl, hO, hg2⟩
      obtain ⟨A, c, hv, hlc, hA⟩ := hO.form
      have HR := Lib.hid (show n ≤ c ∧ OwnL w2 w1.heap.size (.slice A n c) z0 ∧ w1.grownBy w2 none from ⟨by rw [← HZ.out]; exact hlc, by rw [← HZ.out, ← hv]; exact hO, hg2⟩)
      rw [HZ.out] at hv
      subst hv
      clear hO hg2 hlc hA C1
      go_wp2_with fail
      go_meet
      case rel => exact ⟨A, c, rfl, HR.out⟩
    · have h41 : n = len0 := by omega
      subst h41
      have H41 := Lib.hid h30
      have C1 := Lib.hid (clone64 a0 _ cap0 z0 w1 HZ.out (by omega) HS1.out)
      have C1b := Lib.hid (clone64 a0 30 cap0 z0 w1 (HZ.out.trans H41.out) (by omega) HS1.out)
      have hk1 : (n : Int) ≤ 30 := by omega
      clear h30 hk
      go_wp2_with (first | (go_at_call 21; (with_reducible refine C1.out.mono ?_)) | (go_at_call 21; (with_reducible refine C1b.out.mono ?_)))
      all_goals
       rintro e w2 ⟨v, rfl, hO, hg2⟩
       obtain ⟨A, c, hv, hlc, hA⟩ := hO.form
       have HR := Lib.hid (show n ≤ c ∧ OwnL w2 w1.heap.size (.slice A n c) z0 ∧ w1.grownBy w2 none from ⟨by rw [← HZ.out]; exact hlc, by rw [← HZ.out, ← hv]; exact hO, hg2⟩)
       rw [HZ.out] at hv
       subst hv
       clear hO hg2 hlc hA C1
       go_wp2_with fail
       go_meet
       case rel => exact ⟨A, c, rfl, HR.out⟩
    · have H41 := Lib.hid h30
      have HK := Lib.hid hk
      have hk2 : (30 : Int) < (len0 : Int) := by omega
      have hcc : (30 : Int) ≤ (cap0 : Int) := by omega
      clear h30 hk
      have C1 := Lib.hid (clone64 a0 30 cap0 z0 w1 (HZ.out.trans H41.out) (by omega) HS1.out)
      go_wp2_with (go_at_call 21; refine C1.out.mono ?_)
      rintro e w2 ⟨v, rfl, hO, hg2⟩
      obtain ⟨A, c, hv, hlc, hA⟩ := hO.form
      have HR := Lib.hid (show n ≤ c ∧ OwnL w2 w1.heap.size (.slice A n c) z0 ∧ w1.grownBy w2 none from ⟨by rw [← HZ.out]; exact hlc, by rw [← HZ.out, ← hv]; exact hO, hg2⟩)
      rw [HZ.out] at hv
      subst hv
      clear hO hg2 hlc hA C1
      go_wp2_with fail
      go_meet
      case rel => exact ⟨A, c, rfl, HR.out⟩
  case rest =>
    obtain ⟨A, c, rfl, hlc, hO, hg2⟩ := hcut
    have hA : 0 < n → ∃ g, A = some ⟨g, 0, none⟩ ∧ w1.heap.size ≤ g ∧ g < wc.heap.size := by
      obtain ⟨A', c', hv, _, hA⟩ := hO.form
      injection hv with e1 e2 e3
      subst e1
      rw [HZ.out] at hA
      exact hA
    have HO := Lib.hid hO
    have HA := Lib.hid hA
    have hs12 := hg2.size
    have hs01 := HG1.out.size
    have HB2 : Hid (Below w.heap.size w wc) := Lib.hid ((below_of_grown HG1.out (Nat.le_refl _)).trans (below_of_grown hg2 hs01))
    have HS12 := Lib.hid (Nat.le_trans hs01 hs12)
    have HG0 : Hid (w.heap.size ≤ w1.heap.size) := Lib.hid hs01
    clear hO hg2 hA hs12 hs01 HG1
    by_cases hn0 : n = 0
    · have hz0 := Lib.hid hn0
      have C2 := Lib.hid (new_w (w0 := wc) (N := 0) (World.grownBy_alloc_refl wc))
      have hn0' : (((n : Nat) : Int) == 0) = true := by simp [hn0]
      clear hn0
      go_wp2_with (go_at_call 9; refine C2.out.mono ?_)
      rintro e w3 ⟨rfl, hq⟩
      have C3 := Lib.hid (len_w hq)
      have HG3 := Lib.hid (HB2.out.trans (below_of_grown hq.grown HS12.out))
      clear hq C2
      go_wp2_with (go_at_call 17; refine C3.out.mono ?_; rintro e w' ⟨rfl, rfl⟩)
      go_ret
      exact ⟨rfl, HG3.out⟩
    · have hn0' : (((n : Nat) : Int) == 0) = false := by simp [hn0]
      have hnp : (0 : Int) < (n : Int) := by omega
      obtain ⟨X, hX⟩ : ∃ X : Nat, (a1 % (n : Int)) = (X : Int) := ⟨(a1 % (n : Int)).toNat, by have := Int.emod_nonneg a1 (show (n : Int) ≠ 0 by omega); omega⟩
      have hXn : X < n := by have := Int.emod_lt_of_pos a1 hnp; omega
      have C2 := Lib.hid (fun W => new_any (n : Int) W)
      clear hn0
      go_wp2_with (go_at_call 9; refine (C2.out _).mono ?_)
      rintro e w3 ⟨rfl, p1, p2, p3⟩
      have HP1 := Lib.hid p1
      have HP2 := Lib.hid p2
      have HP3 := Lib.hid p3
      clear p1 p2 p3
      go_wp2_with (go_at_call 9; refine (C2.out _).mono ?_)
      rintro e w4 ⟨rfl, p1, p2, p3⟩
      obtain ⟨hq, hb4⟩ := new_2 ⟨rfl, HP1.out, HP2.out, HP3.out⟩ ⟨rfl, p1, p2, p3⟩
      have HAB : Hid (∀ g, (Value.slice A n c).ownBlock = some g → g < wc.heap.size) := Lib.hid fun g hg => (World.ownsRow.lt HO.out g hg).2
      have hMR := (show MR w w1.heap.size wc.heap.size (wc.heap.size + 1) wc.heap.size (w3.heap.size + 1) w3.heap.size n c A z0 [] [] w4 from ⟨HO.out.block fun g hg => hb4.block g (HAB.out g hg), hq, HB2.out.trans (hb4.mono HS12.out)⟩)
      have HMR := Lib.hid hMR
      clear hMR hq hb4 p1 p2 p3 HP1 HP2 HP3 C2 HO HB2
      generalize wc.heap.size + 1 = b1 at *
      generalize w3.heap.size + 1 = b2 at *
      generalize w3.heap.size = m2 at *
      obtain ⟨m1, HM1⟩ : ∃ m1, MR w w1.heap.size wc.heap.size b1 m1 b2 m2 n c A z0 [] [] w4 := ⟨_, HMR.out⟩
      have HMR2 := Lib.hid HM1
      clear HMR HM1
      generalize wc.heap.size = B at *
      have hX' := Lib.hid hX
      go_wp2_with fail
      clear hX
      go_loopw [48] (fun i wr => ∃ k : Nat, k ≤ n ∧ i = .int .i64 (k : Int) ∧ MR w w1.heap.size B b1 m1 b2 m2 n c A z0 (psI z0 k) (less (psI z0 k) (X : Int)) wr) (fun i _ => n - (intOf i).toNat)
      case atStart => exact ⟨0, Nat.zero_le _, rfl, HMR2.out⟩
      case round =>
        clear HMR2
        obtain ⟨k, hkn, rfl, hsr⟩ := hrel
        have HSR := Lib.hid hsr
        clear hsr
        by_cases hlt : k < n
        · obtain ⟨g, hAe, hg1, hg2⟩ := HA.out (by omega)
          have hcell := (show OwnL wr w1.heap.size (.slice (some ⟨g, 0, none⟩) z0.length c) z0 from by have := HSR.out.1; rw [hAe, ← HZ.out] at this; exact this).cell k (by rw [HZ.out]; exact hlt)
          have C3 := Lib.hid (push_1 (x := (k : Int)) (p := nthI z0 k) HSR.out.2.1 (by rw [psI_len]; omega) (by omega) (by omega) (by omega))
          have HAE := Lib.hid hAe
          subst hAe
          clear hg1 hg2
          go_wp2_with (go_at_call 16; refine C3.out.mono ?_)
          rintro e wx ⟨rfl, hq, hb⟩
          rw [psI_succ] at hq
          by_cases hkX : k = X
          · have HN2 := Lib.hid (HSR.out.next HAB.out HS12.out (hq.perm (psI_perm z0 k) (show (less (psI z0 k) (X : Int)).Perm (less (psI z0 (k + 1)) (X : Int)) from by rw [← hkX]; exact less_same)) hb)
            have e1 : ((k : Int) == (X : Int)) = true := by rw [hkX]; exact beq_self_eq_true _
            clear hq hb C3 hkX
            go_wp2_with fail
            go_roundw
            case rel => exact ⟨k + 1, by omega, by go_num, HN2.out⟩
            case measure => simp [intOf]; omega
          · have C4 := Lib.hid (push_2 (x := (k : Int)) (p := nthI z0 k) hq (by have := less_le (psI z0 k) (X : Int); rw [psI_len] at this; omega) (by omega) (by omega) (by omega))
            have HB4 := Lib.hid hb
            have HKX := Lib.hid hkX
            have e1 : ((k : Int) == (X : Int)) = false := beq_eq_false_iff_ne.2 (by omega)
            have e2 : (k == X) = false := beq_eq_false_iff_ne.2 hkX
            clear hq hb C3 hkX
            go_wp2_with (go_at_call 16; refine C4.out.mono ?_)
            rintro e wy ⟨rfl, hq, hb⟩
            have HN2 := Lib.hid (HSR.out.next HAB.out HS12.out (hq.perm (psI_perm z0 k) (less_succ HKX.out)) (HB4.out.trans hb))
            clear hq hb C4
            go_wp2_with fail
            go_roundw
            case rel => exact ⟨k + 1, by omega, by go_num, HN2.out⟩
            case measure => simp [intOf]; omega
        · have e : k = n := by omega
          subst e
          have C3 := Lib.hid (push_1 (x := (X : Int)) (p := a2) HSR.out.2.1 (by rw [psI_len]; omega) (by omega) (by omega) (by omega))
          go_wp2_with (go_at_call 16; refine C3.out.mono ?_)
          rintro e wx ⟨rfl, hq, hb⟩
          have HM3 := Lib.hid (HSR.out.next HAB.out HS12.out hq hb)
          clear hq hb C3 HSR
          go_wp2_with fail
          go_loopg [12] (k + 1) (fun q _ wr => ∃ L1 L2, L1.length ≤ q ∧ L1.length ≤ 31 ∧ L2.length ≤ 31 ∧ Rel ((X : Int), a2) L1 L2 ∧ MR w w1.heap.size B b1 m1 b2 m2 k c A z0 L1 L2 wr)
          case atStart =>
            have h1 := less_le (psI z0 k) (X : Int)
            rw [psI_len] at h1
            exact ⟨_, _, by simp; omega, by simp; omega, by omega, Rel.start, HM3.out⟩
          case round =>
            clear HM3
            obtain ⟨L1, L2, hLq, hL1, hL2, hR, hM⟩ := hrel
            have HM := Lib.hid hM
            have HR := Lib.hid hR
            have HLq := Lib.hid hLq
            have HL2 := Lib.hid hL2
            have C4 := Lib.hid (len_1 hM.2.1)
            cases L1 with
            | nil =>
              have hL20 : L2 = [] := by
                cases L2 with
                | nil => rfl
                | cons y L2 =>
                  rcases hR.2 with h | h
                  · have := (h y).2 (.inr (List.mem_cons_self ..)); cases this
                  · have := (h y).2 (List.mem_cons_self ..); cases this
              subst hL20
              have C5 := Lib.hid (len_1 hM.2.1.swap)
              have HBB := Lib.hid hM.2.2
              clear hM hR hLq hL1 hL2
              go_wp2_with (first | (go_at_call 17; (with_reducible refine C4.out.mono ?_); rintro e w' ⟨rfl, rfl⟩) | (go_at_call 17; (with_reducible refine C5.out.mono ?_); rintro e w' ⟨rfl, rfl⟩))
              go_ret
              exact ⟨rfl, HBB.out⟩
            | cons y0 L1 =>
              obtain ⟨L, hL⟩ : ∃ L, y0 :: L1 = L := ⟨_, rfl⟩
              rw [hL] at HM HR HLq C4 hL1 hR hM
              have hLp : 0 < L.length := by rw [← hL]; simp
              have hLne : L ≠ [] := fun e => by rw [e] at hLp; simp at hLp
              clear hL
              have C5 := Lib.hid (pop_1 hM.2.1 (by omega) hLne)
              have hLpI : (0 : Int) < (L.length : Int) := by omega
              have HL1 := Lib.hid hL1
              clear hM hR hLq hL2 hLne hL1
              go_wp2_with (go_at_call 17; refine C4.out.mono ?_; rintro e w' ⟨rfl, rfl⟩)
              go_wp2_with (go_at_call 11; refine C5.out.mono ?_)
              rintro e wx ⟨⟨t1, t2⟩, ⟨ht, rfl⟩, hq, hb⟩
              have hM2 := HM.out.next HAB.out HS12.out hq hb
              have hll := less_len HM.out.2.1.keys1 ht.1
              simp only at hll
              have HLL := Lib.hid hll
              by_cases ht1 : t1 = (X : Int)
              · obtain ⟨h1, h2, h3⟩ := HR.out.one ht ht1
                injection h1 with h1 h4
                subst h1
                subst h4
                have C6 := Lib.hid (top_2 hM2.2.1 (by have := HL2.out; omega))
                have FIN := Lib.hid (show (less L (X : Int)).length < gk ∧ (less L (X : Int)).length ≤ 31 ∧ L2.length ≤ 31 ∧ Rel ((X : Int), t2) (less L (X : Int)) L2 from ⟨by have := HLq.out; omega, by have := HL1.out; omega, HL2.out, h3⟩)
                have HH2 := Lib.hid h2
                have HM2 := Lib.hid hM2
                clear h2 h3 hM2 hq hb hll ht ht1 C5 C4
                go_wp2_with (go_at_call 10; refine C6.out.mono ?_)
                rintro e wy ⟨hg, hT⟩
                have HM3 := Lib.hid (HM2.out.kept hg)
                rcases hT with ⟨hL20, rfl⟩ | ⟨⟨s1, s2⟩, hs, rfl⟩
                · clear hg hL20
                  go_wp2_with fail
                  go_roundg ((less L (X : Int)).length)
                  case measure => exact FIN.out.1
                  case rel => exact ⟨_, L2, Nat.le_refl _, FIN.out.2.1, FIN.out.2.2.1, FIN.out.2.2.2, HM3.out⟩
                · have hl := HH2.out _ hs.1
                  simp only [ltI, decide_eq_false_iff_not] at hl
                  by_cases hst : s2 = t2
                  · subst hst
                    have e1 : decide (s1 < (X : Int)) = false := by simp; omega
                    clear hg hs hl
                    go_wp2_with fail
                    go_roundg ((less L (X : Int)).length)
                    case measure => exact FIN.out.1
                    case rel => exact ⟨_, L2, Nat.le_refl _, FIN.out.2.1, FIN.out.2.2.1, FIN.out.2.2.2, HM3.out⟩
                  · have e1 : decide (s2 < t2) = false := by simp; omega
                    have e2 : (s2 == t2) = false := by simp [hst]
                    clear hg hs hl hst
                    go_wp2_with fail
                    go_roundg ((less L (X : Int)).length)
                    case measure => exact FIN.out.1
                    case rel => exact ⟨_, L2, Nat.le_refl _, FIN.out.2.1, FIN.out.2.2.1, FIN.out.2.2.2, HM3.out⟩
              · obtain ⟨h1, h2⟩ := HR.out.both ht ht1
                have C6 := Lib.hid (pop_2 hM2.2.1 (by have := HL2.out; omega) h1)
                have e1 : (t1 == (X : Int)) = false := by simp [ht1]
                have FIN := Lib.hid (show (less L t1).length < gk ∧ (less L t1).length ≤ 31 ∧ (less L2 t1).length ≤ 31 ∧ Rel ((X : Int), a2) (less L t1) (less L2 t1) from ⟨by have := HLq.out; omega, by have := HL1.out; omega, Nat.le_trans (less_le L2 t1) HL2.out, h2⟩)
                have HM2 := Lib.hid hM2
                clear h1 h2 hM2 hq hb hll ht ht1 C5 C4
                go_wp2_with (go_at_call 11; refine C6.out.mono ?_)
                rintro e wy ⟨rfl, hq, hb⟩
                have HM3 := Lib.hid (HM2.out.next HAB.out HS12.out hq hb)
                clear hq hb C6
                go_wp2_with fail
                go_roundg ((less L t1).length)
                case measure => exact FIN.out.1
                case rel => exact ⟨_, _, Nat.le_refl _, FIN.out.2.1, FIN.out.2.2.1, FIN.out.2.2.2, HM3.out⟩
end QbM
end Go.Proofs.Ytpklbaebfeoceaa
