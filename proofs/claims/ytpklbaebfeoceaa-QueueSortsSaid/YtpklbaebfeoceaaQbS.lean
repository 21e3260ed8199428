/- The walk of the law that whatever is pushed comes out in order (no statement of its own). -/
import Derived.Test.YtpklbaebfeoceaaQuB
import Derived.Deep.Cut
import Derived.Deep.CutRange
namespace Go.Proofs.Ytpklbaebfeoceaa
namespace QbS
open Go.RowKit
set_option linter.unusedVariables false
/-- What holds all along: the list, the queue, and what came in. -/
def SR (w : World) (B0 B b m n c : Nat) (A : Option Addr) (l : List Int) (L : List It) (wr : World) : Prop :=
  OwnL wr B0 (.slice A n c) l ∧ l.length = n ∧ QB B wr b m (n : Int) L ∧ Below w.heap.size w wr
theorem SR.next {w : World} {B0 B b m n c : Nat} {A : Option Addr} {l : List Int} {L L' : List It} {wr wx : World} (h : SR w B0 B b m n c A l L wr) (hA : ∀ g, (Value.slice A n c).ownBlock = some g → g < B) (hw : w.heap.size ≤ B) (hq : QB B wx b m (n : Int) L') (hb : Below B wr wx) : SR w B0 B b m n c A l L' wx :=
  ⟨h.1.block fun g hg => hb.block g (hA g hg), h.2.1, hq, h.2.2.2.trans (hb.mono hw)⟩
set_option maxRecDepth 100000 in
set_option maxHeartbeats 8000000 in
theorem main (a0 : Option Addr) (len0 cap0 n : Nat) (z0 : List Int) (a1 : Option Addr) (len1 cap1 : Nat) (z1 : Nat → Int) (w : World)
    (hn : len0 < 40 ∧ n = len0 ∨ len0 = 40 ∧ n = 40 ∨ 40 < len0 ∧ n = 40) (hs : SrcL w a0 z0) (hz : z0.length = n) (hc0 : len0 ≤ cap0) (hl0 : (len0 : Int) ≤ 9223372036854775807)
    (ha1 : a1 = none → len1 = 0) (hb1 : ∀ j, j < len1 → ∃ p : Addr, a1 = some p ∧ p.block < w.heap.size ∧ w.cell? (p.add j) = some (.int .u8 (z1 j)) ∧ 0 ≤ z1 j ∧ z1 j ≤ 255) (hl1 : (len1 : Int) ≤ 9223372036854775807) :
    Calls Try.prog 4 #[.slice a0 len0 cap0, .slice a1 len1 cap1] w fun e w' => e = .returned (.bool true) ∧ Below w.heap.size w w' := by
  have AW := Lib.hid (awake_q w)
  have HS := Lib.hid hs
  have HZ := Lib.hid hz
  have HB1 := Lib.hid hb1
  have hn40 : n ≤ 40 := by omega
  have hnc : (n : Int) ≤ (cap0 : Int) := by omega
  clear hs hz hb1
  have HN := Lib.hid hn
  clear hn
  go_enter Try.func4, Try.ntmps4
  go_upto_region 3 with (go_at_call 8; refine AW.out.mono ?_; rintro e w1 ⟨rfl, hg1⟩)
  have HG1 := Lib.hid hg1
  have HS1 := Lib.hid (HS.out.below (below_of_grown hg1 (Nat.le_refl _)))
  clear hg1
  go_cut [0] from 22 to 27 (fun v wr => ∃ A c, v = .slice A n c ∧ (n ≤ c ∧ OwnL wr w1.heap.size (.slice A n c) z0 ∧ w1.grownBy wr none))
  case first =>
    rcases HN.out with ⟨hk, hkn⟩ | ⟨hk, h40⟩ | ⟨hk, h40⟩
    · subst hkn
      have C1 := Lib.hid (clone64 a0 _ cap0 z0 w1 HZ.out (by omega) HS1.out)
      go_wp2_with (go_at_call 21; refine C1.out.mono ?_)
      rintro e w2 ⟨v, rfl, hO, hg2⟩
      obtain ⟨A, c, hv, hlc, hA⟩ := hO.form
      have HR := Lib.hid (show n ≤ c ∧ OwnL w2 w1.heap.size (.slice A n c) z0 ∧ w1.grownBy w2 none from ⟨by rw [← HZ.out]; exact hlc, by rw [← HZ.out, ← hv]; exact hO, hg2⟩)
      rw [HZ.out] at hv
      subst hv
      clear hO hg2 hlc hA C1
      go_wp2_with fail
      go_meet
      case rel => exact ⟨A, c, rfl, HR.out⟩
    · have h41 : n = len0 := by omega
      subst h41
      have H41 := Lib.hid h40
      have C1 := Lib.hid (clone64 a0 _ cap0 z0 w1 HZ.out (by omega) HS1.out)
      have C1b := Lib.hid (clone64 a0 40 cap0 z0 w1 (HZ.out.trans H41.out) (by omega) HS1.out)
      have hk1 : (n : Int) ≤ 40 := by omega
      clear h40 hk
      go_wp2_with (first | (go_at_call 21; (with_reducible refine C1.out.mono ?_)) | (go_at_call 21; (with_reducible refine C1b.out.mono ?_)))
      all_goals
       rintro e w2 ⟨v, rfl, hO, hg2⟩
       obtain ⟨A, c, hv, hlc, hA⟩ := hO.form
       have HR := Lib.hid (show n ≤ c ∧ OwnL w2 w1.heap.size (.slice A n c) z0 ∧ w1.grownBy w2 none from ⟨by rw [← HZ.out]; exact hlc, by rw [← HZ.out, ← hv]; exact hO, hg2⟩)
       rw [HZ.out] at hv
       subst hv
       clear hO hg2 hlc hA C1
       go_wp2_with fail
       go_meet
       case rel => exact ⟨A, c, rfl, HR.out⟩
    · have H41 := Lib.hid h40
      have HK := Lib.hid hk
      have hk2 : (40 : Int) < (len0 : Int) := by omega
      have hcc : (40 : Int) ≤ (cap0 : Int) := by omega
      clear h40 hk
      have C1 := Lib.hid (clone64 a0 40 cap0 z0 w1 (HZ.out.trans H41.out) (by omega) HS1.out)
      go_wp2_with (go_at_call 21; refine C1.out.mono ?_)
      rintro e w2 ⟨v, rfl, hO, hg2⟩
      obtain ⟨A, c, hv, hlc, hA⟩ := hO.form
      have HR := Lib.hid (show n ≤ c ∧ OwnL w2 w1.heap.size (.slice A n c) z0 ∧ w1.grownBy w2 none from ⟨by rw [← HZ.out]; exact hlc, by rw [← HZ.out, ← hv]; exact hO, hg2⟩)
      rw [HZ.out] at hv
      subst hv
      clear hO hg2 hlc hA C1
      go_wp2_with fail
      go_meet
      case rel => exact ⟨A, c, rfl, HR.out⟩
  case rest =>
    obtain ⟨A, c, rfl, hlc, hO, hg2⟩ := hcut
    have hA : 0 < n → ∃ g, A = some ⟨g, 0, none⟩ ∧ w1.heap.size ≤ g ∧ g < wc.heap.size := by
      obtain ⟨A', c', hv, _, hA⟩ := hO.form
      injection hv with e1 e2 e3
      subst e1
      rw [HZ.out] at hA
      exact hA
    have HO := Lib.hid hO
    have HA := Lib.hid hA
    have hs12 := hg2.size
    have hs01 := HG1.out.size
    have HB2 : Hid (Below w.heap.size w wc) := Lib.hid ((below_of_grown HG1.out (Nat.le_refl _)).trans (below_of_grown hg2 hs01))
    have HS12 := Lib.hid (Nat.le_trans hs01 hs12)
    have HG0 : Hid (w.heap.size ≤ w1.heap.size) := Lib.hid hs01
    clear hO hg2 hA hs12 hs01 HG1
    have C2 := Lib.hid (fun N => new_b (w := wc) (N := N))
    go_wp2_with (go_at_call 9; refine (C2.out _).mono ?_)
    rintro e w3 ⟨rfl, hq, hb3⟩
    have HAB : Hid (∀ g, (Value.slice A n c).ownBlock = some g → g < wc.heap.size) := Lib.hid fun g hg => (World.ownsRow.lt HO.out g hg).2
    generalize hB : wc.heap.size = B at *
    generalize hb : B + 1 = b at *
    obtain ⟨m, hm⟩ : ∃ m, m = B := ⟨_, rfl⟩
    have hSR := (show SR w _ B b m n c A z0 [] w3 from ⟨HO.out.block fun g hg => hb3.block g (HAB.out g hg), HZ.out, (by rw [hm]; exact hq), HB2.out.trans (hb3.mono HS12.out)⟩)
    have HSR := Lib.hid hSR
    clear hq hb3 hSR HO hB hb hm HB2 C2
    go_wp2_with fail
    go_loopw [33] (fun i wr => ∃ k : Nat, k ≤ n ∧ i = .int .i64 (k : Int) ∧ SR w w1.heap.size B b m n c A z0 (psI z0 k) wr) (fun i _ => n - (intOf i).toNat)
    case atStart => exact ⟨0, Nat.zero_le _, rfl, HSR.out⟩
    case round =>
      obtain ⟨k, hkn, rfl, hsr⟩ := hrel
      by_cases hlt : k < n
      · obtain ⟨g, hAe, hg1, hg2⟩ := HA.out (by omega)
        have hcell := (show OwnL wr w1.heap.size (.slice (some ⟨g, 0, none⟩) z0.length c) z0 from by have := hsr.1; rw [hAe, ← HZ.out] at this; exact this).cell k (by rw [HZ.out]; exact hlt)
        have C3 := Lib.hid (push_b (x := (k : Int)) (p := nthI z0 k) hsr.2.2.1 (by rw [psI_len]; omega) (by omega) (by omega) (by omega))
        have HSR2 := Lib.hid hsr
        have HAE := Lib.hid hAe
        subst hAe
        clear hsr hg1 hg2
        go_wp2_with (go_at_call 16; refine C3.out.mono ?_)
        rintro e wx ⟨rfl, hq, hb⟩
        rw [psI_succ] at hq
        have HN2 := Lib.hid (HSR2.out.next HAB.out HS12.out (hq.perm (psI_perm z0 k)) hb)
        clear hq hb C3
        go_wp2_with fail
        go_roundw
        case rel => exact ⟨k + 1, by omega, by go_num, HN2.out⟩
        case measure => simp [intOf]; omega
      · have e : k = n := by omega
        subst e
        have HSR2 := Lib.hid hsr
        clear hsr
        go_wp2_with fail
        go_loopw [45] (fun i wr => ∃ q : Nat, q ≤ len1 ∧ i = .int .i64 (q : Int) ∧ ∃ l, SR w w1.heap.size B b m k c A l (psI l k) wr) (fun i _ => len1 - (intOf i).toNat)
        case atStart => exact ⟨0, Nat.zero_le _, rfl, z0, HSR2.out⟩
        case round =>
          clear HSR2
          obtain ⟨q, hqn, rfl, l, hsr⟩ := hrel
          have HSR2 := Lib.hid hsr
          have HLl := Lib.hid hsr.2.1
          clear hsr
          by_cases hlt : q < len1
          · obtain ⟨p, rfl, hpb, hpc, hp0, hp1⟩ := HB1.out q hlt
            have hpc' : wr.cell? (p.add q) = some (.int .u8 (z1 q)) := by
              have e : (p.add q).block = p.block := by unfold Addr.add; split <;> rfl
              exact (HSR2.out.2.2.2.cell (p := p.add q) (by rw [e]; exact hpb)).trans hpc
            generalize z1 q = u at hpc hpc' hp0 hp1
            clear hpc hpb
            by_cases h30 : q < 30
            · by_cases hk0 : 0 < k
              · obtain ⟨g, hAe, hg1, hg2⟩ := HA.out hk0
                have hOl : OwnL wr w1.heap.size (.slice (some ⟨g, 0, none⟩) l.length c) l := by have := HSR2.out.1; rw [hAe, ← HLl.out] at this; exact this
                obtain ⟨X, hX⟩ : ∃ X : Nat, (u % (k : Int)) = (X : Int) := ⟨(u % (k : Int)).toNat, by have := Int.emod_nonneg u (show (k : Int) ≠ 0 by omega); omega⟩
                have hXk : X < k := by have := Int.emod_lt_of_pos u (show (0 : Int) < (k : Int) by omega); omega
                obtain ⟨Y, hY⟩ : ∃ Y : Nat, (((X : Int) + (q : Int)) % (k : Int)) = (Y : Int) := ⟨(((X : Int) + (q : Int)) % (k : Int)).toNat, by have := Int.emod_nonneg ((X : Int) + (q : Int)) (show (k : Int) ≠ 0 by omega); omega⟩
                have hYk : Y < k := by have := Int.emod_lt_of_pos ((X : Int) + (q : Int)) (show (0 : Int) < (k : Int) by omega); omega
                have d0 := hOl.cell Y (by rw [HLl.out]; exact hYk)
                have d1 := hOl.cell X (by rw [HLl.out]; exact hXk)
                have d1f := hOl.frozen X
                obtain ⟨hO2, hgr⟩ := hOl.store X (nthI l Y)
                have hgB : g < B := HAB.out g (by rw [hAe]; rfl)
                have hq2 := HSR2.out.2.2.1.keptRow hgr hgB
                have C3 := Lib.hid (push_b (x := (X : Int)) (p := nthI l Y) hq2 (by rw [psI_len]; omega) (by omega) (by omega) (by omega))
                have HR : Hid (∀ wx, QB B wx b m (k : Int) (((X : Int), nthI l Y) :: less (psI l k) (X : Int)) → Below B (wr.setCell ⟨g, X, none⟩ (.int .i64 (nthI l Y))) wx → SR w w1.heap.size B b m k c A (l.set X (nthI l Y)) (psI (l.set X (nthI l Y)) k) wx) := by
                  refine Lib.hid fun wx hqx hbx => ⟨?_, by rw [List.length_set]; exact HLl.out, hqx.perm (psI_set l k X _ HLl.out.symm hXk), ?_⟩
                  · rw [hAe, ← HLl.out]
                    exact hO2.block fun g' hg' => hbx.block g' (by have e : some g = some g' := hg'; injection e with e; rw [← e]; exact hgB)
                  · have hwg : w.heap.size ≤ g := Nat.le_trans HG0.out hg1
                    have hsw := HSR2.out.2.2.2.size
                    have hbw : Below w.heap.size wr (wr.setCell ⟨g, X, none⟩ (.int .i64 (nthI l Y))) := ⟨hgr.os, hgr.tape, hgr.output, hgr.size, fun j hj => hgr.block j (Nat.lt_of_lt_of_le hj hsw) (by intro e; injection e with e; omega)⟩
                    exact (HSR2.out.2.2.2.trans hbw).trans (hbx.mono HS12.out)
                have HAE := Lib.hid hAe
                subst hAe
                have hk0' : (0 : Int) < (k : Int) := by omega
                have hk1' : (k : Int) ≤ 40 := by omega
                clear hOl hO2 hgr hq2 hg1 hg2 hgB HSR2
                go_wp2_with (go_at_call 16; refine C3.out.mono ?_)
                rintro e wx ⟨rfl, hq, hb⟩
                have HN2 := Lib.hid (HR.out _ hq hb)
                clear hq hb C3 HR d0 d1 d1f hX hY hpc'
                go_wp2_with fail
                go_roundw
                case rel => exact ⟨q + 1, by omega, by go_num, _, HN2.out⟩
                case measure => simp [intOf]; omega
              · have hk0' : decide (0 < k) = false := by simpa using hk0
                have hk1' : decide ((0 : Int) < (k : Int)) = false := by simpa using hk0
                have hk2' : k = 0 ∨ False := .inl (by omega)
                have HK0 := Lib.hid hk2'
                clear hk0 hk2'
                go_wp2_with fail
                go_roundw
                case rel => exact ⟨q + 1, by omega, by go_num, l, HSR2.out⟩
                case measure => simp [intOf]; omega
            · go_wp2_with fail
              go_roundw
              case rel => exact ⟨q + 1, by omega, by go_num, l, HSR2.out⟩
              case measure => simp [intOf]; omega
          · have HQ3 := Lib.hid (show SR w w1.heap.size B b m k c A l (psI l k) wr from HSR2.out)
            clear HSR2
            go_wp2_with fail
            go_loopw [11, 12, 84] (fun v11 v12 i wr => ∃ (q : Nat) (L : List It) (last at_ : Int), q ≤ k ∧ i = .int .i64 (q : Int) ∧ v11 = .int .i64 last ∧ v12 = .int .i64 at_ ∧ L.length + q = k ∧ (∀ y ∈ L, y ∈ psI l k) ∧ (0 < q → ∀ y ∈ L, ltI (at_, last) y = true) ∧ SR w w1.heap.size B b m k c A l L wr) (fun _ _ i _ => k - (intOf i).toNat)
            case atStart => exact ⟨0, psI l k, 0, -1, Nat.zero_le _, rfl, rfl, rfl, by rw [psI_len]; rfl, fun y hy => hy, fun h => absurd h (Nat.lt_irrefl 0), HQ3.out⟩
            case round =>
              clear HQ3
              obtain ⟨q, L, last, at_, hqk, rfl, rfl, rfl, hLq, hLm, hLt, hsr⟩ := hrel
              have HSR2 := Lib.hid hsr
              have HLQ := Lib.hid hLq
              have HLM := Lib.hid hLm
              have HLT := Lib.hid hLt
              clear hsr hLq hLm hLt
              by_cases hlt2 : q < k
              · have hLne : L ≠ [] := fun e => by have := HLQ.out; rw [e] at this; simp at this; omega
                have C4 := Lib.hid (pop_b HSR2.out.2.2.1 (by have := HLQ.out; omega) hLne)
                clear hLne
                go_wp2_with (go_at_call 11; refine C4.out.mono ?_)
                rintro e wx ⟨⟨a1, a2⟩, ⟨ht, rfl⟩, hq, hb⟩
                obtain ⟨i, hik, hi⟩ := mem_psI.1 (HLM.out _ ht.1)
                injection hi with hi1 hi2
                subst hi1
                subst hi2
                have hS := HSR2.out.next HAB.out HS12.out hq hb
                obtain ⟨g, hAe, hg1, hg2⟩ := HA.out (by omega)
                have d0 := (show OwnL wx w1.heap.size (.slice (some ⟨g, 0, none⟩) l.length c) l from by have := hS.1; rw [hAe, ← HLl.out] at this; exact this).cell i (by rw [HLl.out]; exact hik)
                have C5 := Lib.hid (has_b (x := (i : Int)) hq (by omega))
                rw [hasK_less] at C5
                have HLX := Lib.hid (HLT.out)
                have FIN := Lib.hid (show (less L (i : Int)).length + (q + 1) = k ∧ (∀ y ∈ less L (i : Int), y ∈ psI l k) ∧ (0 < q + 1 → ∀ y ∈ less L (i : Int), ltI ((i : Int), nthI l i) y = true) ∧ SR w w1.heap.size B b m k c A l (less L (i : Int)) wx from
                  ⟨by have h1 := less_len HSR2.out.2.2.1.keys ht.1; have h2 := HLQ.out; simp only at h1; omega, fun y hy => HLM.out y (mem_less.1 hy).1, fun _ y hy => ltI_total (ht.2 y (mem_less.1 hy).1) (fun e => (mem_less.1 hy).2 e.symm), hS⟩)
                have HTM := Lib.hid ht.1
                have hAe' := Lib.hid hAe
                subst hAe
                clear hS hq hb hg1 hg2 ht C4
                by_cases hq0 : 0 < q
                · have hl := HLT.out hq0 _ HTM.out
                  simp only [ltI, decide_eq_true_eq] at hl
                  generalize hP : nthI l i = P at *
                  rcases hl with hl | ⟨hl, hl2⟩
                  · have e1 : decide (P < last) = false := by simp; omega
                    have e2 : (P == last) = false := by simp; omega
                    have HPP := Lib.hid hP
                    clear hl hP
                    go_wp2_with (go_at_call 18; refine C5.out.mono ?_; rintro e w' ⟨rfl, rfl⟩)
                    go_roundw
                    case rel => exact ⟨q + 1, less L (i : Int), _, (i : Int), by omega, by go_num, rfl, rfl, FIN.out.1, FIN.out.2.1, FIN.out.2.2.1, FIN.out.2.2.2⟩
                    case measure => simp [intOf]; omega
                  · subst hl
                    have e3 : decide ((i : Int) ≤ at_) = false := by simp; omega
                    have HPP := Lib.hid hP
                    clear hl2 hP
                    go_wp2_with (go_at_call 18; refine C5.out.mono ?_; rintro e w' ⟨rfl, rfl⟩)
                    go_roundw
                    case rel => exact ⟨q + 1, less L (i : Int), _, (i : Int), by omega, by go_num, rfl, rfl, FIN.out.1, FIN.out.2.1, FIN.out.2.2.1, FIN.out.2.2.2⟩
                    case measure => simp [intOf]; omega
                · have e1 : decide (0 < q) = false := by simpa using hq0
                  have e2 : decide ((0 : Int) < (q : Int)) = false := by simpa using hq0
                  clear hq0
                  go_wp2_with (go_at_call 18; refine C5.out.mono ?_; rintro e w' ⟨rfl, rfl⟩)
                  go_roundw
                  case rel => exact ⟨q + 1, less L (i : Int), nthI l i, (i : Int), by omega, by go_num, rfl, rfl, FIN.out.1, FIN.out.2.1, FIN.out.2.2.1, FIN.out.2.2.2⟩
                  case measure => simp [intOf]; omega
              · have hL0 : L = [] := by
                  have := HLQ.out
                  exact List.eq_nil_of_length_eq_zero (by omega)
                subst hL0
                have C6 := Lib.hid (pop_b0 HSR2.out.2.2.1)
                go_wp2_with (go_at_call 11; refine C6.out.mono ?_)
                rintro e wx ⟨rfl, hq, hb⟩
                have C7 := Lib.hid (len_b hq)
                have HE := Lib.hid (HSR2.out.2.2.2.trans (hb.mono HS12.out))
                clear hq hb C6
                go_wp2_with (go_at_call 17; refine C7.out.mono ?_; rintro e w' ⟨rfl, rfl⟩)
                go_ret
                exact ⟨rfl, HE.out⟩
end QbS
end Go.Proofs.Ytpklbaebfeoceaa
