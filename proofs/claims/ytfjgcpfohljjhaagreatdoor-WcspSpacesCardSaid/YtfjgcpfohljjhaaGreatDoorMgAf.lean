/- Texts of this seat laid together (no statement of its own). -/
import Derived.Test.YtfjgcpfohljjhaaGreatDoorMgAe
namespace Go.Proofs.YtfjgcpfohljjhaaGreatDoor
open Go.RowKit
set_option linter.unusedVariables false
set_option maxRecDepth 100000 in
set_option maxHeartbeats 4000000 in
theorem spaces_walk (a0 a1 : Option Addr) (n0 c0 n1 c1 : Nat) (z0 z1 : Nat → Int) (w : World) (hG : GlobR w) (hT : TabP w) (h0 : n0 ≤ c0) (h1 : n1 ≤ c1) (hm0 : (n0 : Int) ≤ 9223372036854775807) (hm1 : (n1 : Int) ≤ 9223372036854775807)
    (hA0 : a0 = none → n0 = 0) (hA1 : a1 = none → n1 = 0) (hz0 : Bytes w a0 n0 z0) (hz1 : Bytes w a1 n1 z1) :
    Calls Tryz.prog 7 #[.slice a0 n0 c0, .slice a1 n1 c1] w fun e w' => e = .returned (.bool true) ∧ Below w.heap.size w w' := by
  obtain ⟨m0, hk0⟩ : ∃ m, min n0 300 = m := ⟨_, rfl⟩
  have hi0 : min (n0 : Int) 300 = (m0 : Int) := by omega
  have SL0 : ∀ W, (Instr.slice 22 (.slice a0 n0 c0) none (some (.int .i64 (m0 : Int))) none).run Tryz.prog W = .ok (.slice a0 m0 c0) W := fun W => slice_head a0 n0 m0 c0 (by omega) W
  have C0 : Cel w a0 (strZ z0 m0) := hz0.cel (by omega) (fun e => by have := hA0 e; omega)
  have e0 := strZ_size z0 m0
  generalize strZ z0 m0 = s0 at C0 e0
  have P0 := Lib.hid (fun W (hb : Below w.heap.size w W) => bclone_any a0 m0 c0 s0 W e0 (by omega) (C0.below hb))
  have HS0 : Hid (s0.size ≤ 300) := Lib.hid (by omega)
  have AW := Lib.hid (awake7_ok w hG hT)
  have GB := Lib.hid (fun W (hb : Below w.heap.size w W) => And.intro (hG.below hb) (tab_below hT hb))
  have HZ := Lib.hid hz1
  have HN1 := Lib.hid hm1
  obtain ⟨L, hL⟩ : ∃ L, wrdL s0.data.toList = L := ⟨_, rfl⟩
  obtain ⟨n, hn⟩ : ∃ n, L.length = n := ⟨_, rfl⟩
  have HN := Lib.hid hn
  have HL : Hid ((n ≤ 300 ∧ sumL L ≤ 300) ∧ ∀ x ∈ L, (∀ c ∈ x, isW c.toNat = true) ∧ x ≠ [] ∧ x.length ≤ 300) := Lib.hid ⟨⟨by have := wrd_len s0; rw [hL] at this; omega, by have := wrd_sum s0; rw [hL] at this; omega⟩, fun x hx => by
    have := wrd_good (l := s0.data.toList) x (hL ▸ hx)
    rw [size_list] at this
    exact ⟨this.1, this.2.1, by omega⟩⟩
  have FL := Lib.hid (fun A c W (hc : s0.size ≤ c) (h : BS W A s0) => fields_any A c s0 W (by omega) hc h)
  rw [extL_wrd, hL] at FL
  clear hk0 C0 e0 hz0 hz1 hA0 hA1 hG hT h0 h1 hm0 hm1 hL hn
  go_enter Tryz.func7, Tryz.ntmps7
  go_upto_region 4 with (first
    | (go_at_call 9; refine AW.out.mono ?_; rintro e w1 ⟨rfl, hb1⟩; have B1 := Lib.hid hb1; clear hb1)
    | (go_at_call 10; refine (P0.out _ B1.out).mono ?_; rintro e w2 ⟨⟨v0, rfl, h0⟩, hb⟩; have B2 := Lib.hid (then_ B1.out hb); obtain ⟨A0, q0, rfl, hq0, hs0⟩ := h0.form1; have HB0 := Lib.hid hs0; have HQ0 := Lib.hid hq0; clear h0 hb hs0 hq0)
    | fail)
  go_upto_region 5 with (first
    | (go_at_call 26; refine (FL.out _ _ _ HQ0.out HB0.out).mono ?_; rintro e w3 ⟨⟨v5, rfl, h5⟩, hb⟩; have B3 := Lib.hid (then_ B2.out hb); obtain ⟨A5, q5, e5, hc5⟩ := h5.form; rw [List.length_map, HN.out] at e5; subst e5; have HC5 := Lib.hid hc5; clear h5 hb hc5)
    | fail)
  clear SL0 hi0 P0 AW FL HB0 HQ0 B1
  go_wp2_with fail
  go_loopw [6, 7, 8, 9, 32] (fun v6 v7 v8 v9 i wr => ∃ k : Nat, i = .int .i64 (k : Int) ∧ k ≤ n ∧ SpI wr w3.heap.size L k v6 v7 v8 v9 ∧ Below w3.heap.size w3 wr) (fun _ _ _ _ i _ => n - (intOf i).toNat)
  case atStart => exact ⟨0, rfl, Nat.zero_le _, SpI.start _ _ _, Below.refl _ _⟩
  case round =>
    obtain ⟨k, rfl, hk, ⟨qs, hq1, hq2, hq3, hq4, o1, o2, o3, o4, o5, o6⟩, hB⟩ := hrel
    have SP := Lib.hid (show SpB wr w3.heap.size (txtL qs) (txtL (plainP (L.take k))) (begs qs) (begs (plainP (L.take k))) u6 u7 u8 u9 from ⟨o1, o2, o3, o4, o5, o6⟩)
    have BB := Lib.hid hB
    have HQ := Lib.hid (And.intro hq1 (And.intro hq2 (And.intro hq3 hq4)))
    clear o1 o2 o3 o4 o5 o6 hB hq1 hq2 hq3 hq4
    by_cases hlt : k < n
    · have hkL : k < L.length := by rw [HN.out]; exact hlt
      obtain ⟨g, rfl, hg, _, hc⟩ := HC5.out k (by rw [List.length_map]; exact hkL)
      rw [List.getElem_map] at hc
      have d1 : decide ((k : Int) < (n : Int)) = true := decide_eq_true (by omega)
      have j2 : (0 : Int) ≤ (k : Int) := by omega
      have j3 : (k : Int) ≤ 300 := by have := HL.out.1.1; omega
      replace hc := (BB.out.cell (p := ⟨g, k, none⟩) hg).trans hc
      have HWk := Lib.hid (HL.out.2 _ (List.getElem_mem hkL))
      have HKL := Lib.hid hkL
      go_upto_if 40 with fail
      clear hc
      go_cut [12] from 41 to 45 (fun v12 wx => wx = wr ∧ ∃ x : Nat, x ≤ 255 ∧ v12 = .int .u8 (x : Int))
      case first =>
        by_cases hx : k < n1
        · obtain ⟨p, rfl, hp, hc1, y1, y2⟩ := HZ.out.below (then_ B3.out BB.out) k hx
          have d2 : decide ((k : Int) < (n1 : Int)) = true := decide_eq_true (by omega)
          obtain ⟨x, hx2⟩ : ∃ x : Nat, z1 k = (x : Int) := ⟨(z1 k).toNat, by omega⟩
          rw [hx2] at hc1 y2
          go_wp2_with fail
          go_meet
          case rel => exact ⟨rfl, x, by omega, rfl⟩
        · have d2 : decide ((k : Int) < (n1 : Int)) = false := decide_eq_false (by omega)
          go_wp2_with fail
          go_meet
          case rel => exact ⟨rfl, 0, by omega, rfl⟩
      obtain ⟨rfl, x, hx, rfl⟩ := hcut
      have x0 : (0 : Int) ≤ (x : Int) := by omega
      have x2 : (x : Int) ≤ 255 := by omega
      go_upto_block 2 with fail
      obtain ⟨N, hN, hN3, hN0⟩ : ∃ N : Nat, (1 : Int) + (x : Int) % 3 = (N : Int) ∧ N ≤ 3 ∧ 0 < N := ⟨1 + x % 3, by omega, by omega, by omega⟩
      have HNN := Lib.hid (And.intro hN3 hN0)
      rw [hN]
      obtain ⟨y, hy, hy3⟩ : ∃ y : Nat, (x : Int) / 3 % 4 = (y : Int) ∧ y ≤ 3 := ⟨x / 3 % 4, by omega, by omega⟩
      have HY := Lib.hid (And.intro hy hy3)
      clear hN hN3 hN0 hy hy3
      obtain ⟨l1, hl1⟩ : ∃ l, txtL (plainP (L.take k)) = l := ⟨_, rfl⟩
      obtain ⟨b0, hb0⟩ : ∃ l, begs qs = l := ⟨_, rfl⟩
      obtain ⟨b1, hb1⟩ : ∃ l, begs (plainP (L.take k)) = l := ⟨_, rfl⟩
      obtain ⟨t0, ht0⟩ : ∃ l, txtL qs = l := ⟨_, rfl⟩
      obtain ⟨wd, hwd⟩ : ∃ l, L[k]'HKL.out = l := ⟨_, rfl⟩
      rw [hl1, hb0, hb1, ht0] at SP
      have EQS := Lib.hid (And.intro hl1 (And.intro hb0 (And.intro hb1 (And.intro ht0 hwd))))
      have LT0 : Hid (t0.length ≤ 304 * 300 ∧ l1.length ≤ 304 * 300 ∧ b0.length ≤ 300 ∧ b1.length ≤ 300 ∧ wd.length ≤ 300) := Lib.hid (by
        have e1 := HQ.out.2.2.1
        have e2 := HQ.out.2.2.2
        have e3 := HQ.out.1
        have e8 := sumL_le L k
        have e9 := HL.out.1
        rw [hl1] at e2
        rw [ht0] at e1
        have e4 : qs.length ≤ k := by
          have := congrArg List.length e3
          rw [List.length_map, List.length_take] at this
          omega
        have e5 := HWk.out.2.2
        rw [hwd] at e5
        refine ⟨by omega, by omega, ?_, ?_, e5⟩
        · rw [← hb0, begs_len]; omega
        · rw [← hb1, begs_len, plainP, List.length_map, List.length_take]; omega)
      rw [hwd]
      clear hl1 hb0 hb1 ht0 hwd
      go_wp2_with fail
      go_loopw [6, 48] (fun v6 j wi => ∃ q : Nat, j = .int .u8 (q : Int) ∧ q ≤ N ∧ Below w3.heap.size w3 wi ∧ ∃ bs : List UInt8, bs.length = q ∧ (∀ c ∈ bs, isB c.toNat = true) ∧ SpB wi w3.heap.size (t0 ++ bs) l1 b0 b1 v6 u7 u8 u9) (fun _ j _ => N - (intOf j).toNat)
      case atStart => exact ⟨0, rfl, Nat.zero_le _, BB.out, [], rfl, fun c h => by simp at h, by rw [List.append_nil]; exact SP.out⟩
      case round =>
        obtain ⟨q, rfl, hq, hbi, bs, hbl, hbb, hsp⟩ := hrel
        have BI := Lib.hid hbi
        have SB := Lib.hid hsp
        have HBS := Lib.hid (And.intro hbl hbb)
        clear hbi hsp hbl hbb
        have LB : Hid ((t0 ++ bs).length ≤ 1000000) := Lib.hid (by rw [List.length_append, HBS.out.1]; have := LT0.out.1; have := HNN.out.1; omega)
        have q0 : (0 : Int) ≤ (q : Int) := by omega
        by_cases hqn : q < N
        · have d3 : decide ((q : Int) < (N : Int)) = true := decide_eq_true (by omega)
          have q3 : (q : Int) ≤ 3 := by have := HNN.out.1; omega
          obtain ⟨hy, hy3⟩ := HY.out
          rcases (by omega : y = 0 ∨ y = 1 ∨ y = 2 ∨ y = 3) with rfl | rfl | rfl | rfl
          · go_wp2_with (first | (at_builtin; refine push_b2 rfl (.tmp 50) (.tmp 55) rfl wr w3.heap.size _ (t0 ++ bs) 32 32 rfl rfl rfl SB.out.1 BI.out.size LB.out ?_; intro v' w' k1 k2 k3; have S2 := Lib.hid (SB.out.q k1 k2 k3 (by omega)); have B4 := Lib.hid (below_grownO BI.out k2 (Nat.le_refl _) (fun g e => (World.ownsRow.lt SB.out.1 g e).1)); clear k1 k2 k3) | fail)
            exact ⟨⟨q + 1, by simp, by omega, B4.out, bs ++ [32], by rw [List.length_append, HBS.out.1]; rfl, fun c hc => by rcases List.mem_append.1 hc with hc | hc; exact HBS.out.2 c hc; rw [List.mem_singleton.1 hc]; rfl, by rw [← List.append_assoc]; exact S2.out⟩, by simp [intOf]; omega⟩
          · go_wp2_with (first | (at_builtin; refine push_b2 rfl (.tmp 50) (.tmp 55) rfl wr w3.heap.size _ (t0 ++ bs) 9 9 rfl rfl rfl SB.out.1 BI.out.size LB.out ?_; intro v' w' k1 k2 k3; have S2 := Lib.hid (SB.out.q k1 k2 k3 (by omega)); have B4 := Lib.hid (below_grownO BI.out k2 (Nat.le_refl _) (fun g e => (World.ownsRow.lt SB.out.1 g e).1)); clear k1 k2 k3) | fail)
            exact ⟨⟨q + 1, by simp, by omega, B4.out, bs ++ [9], by rw [List.length_append, HBS.out.1]; rfl, fun c hc => by rcases List.mem_append.1 hc with hc | hc; exact HBS.out.2 c hc; rw [List.mem_singleton.1 hc]; rfl, by rw [← List.append_assoc]; exact S2.out⟩, by simp [intOf]; omega⟩
          · go_wp2_with (first | (at_builtin; refine push_b2 rfl (.tmp 50) (.tmp 55) rfl wr w3.heap.size _ (t0 ++ bs) 10 10 rfl rfl rfl SB.out.1 BI.out.size LB.out ?_; intro v' w' k1 k2 k3; have S2 := Lib.hid (SB.out.q k1 k2 k3 (by omega)); have B4 := Lib.hid (below_grownO BI.out k2 (Nat.le_refl _) (fun g e => (World.ownsRow.lt SB.out.1 g e).1)); clear k1 k2 k3) | fail)
            exact ⟨⟨q + 1, by simp, by omega, B4.out, bs ++ [10], by rw [List.length_append, HBS.out.1]; rfl, fun c hc => by rcases List.mem_append.1 hc with hc | hc; exact HBS.out.2 c hc; rw [List.mem_singleton.1 hc]; rfl, by rw [← List.append_assoc]; exact S2.out⟩, by simp [intOf]; omega⟩
          · go_wp2_with (first | (at_builtin; refine push_b2 rfl (.tmp 50) (.tmp 55) rfl wr w3.heap.size _ (t0 ++ bs) 13 13 rfl rfl rfl SB.out.1 BI.out.size LB.out ?_; intro v' w' k1 k2 k3; have S2 := Lib.hid (SB.out.q k1 k2 k3 (by omega)); have B4 := Lib.hid (below_grownO BI.out k2 (Nat.le_refl _) (fun g e => (World.ownsRow.lt SB.out.1 g e).1)); clear k1 k2 k3) | fail)
            exact ⟨⟨q + 1, by simp, by omega, B4.out, bs ++ [13], by rw [List.length_append, HBS.out.1]; rfl, fun c hc => by rcases List.mem_append.1 hc with hc | hc; exact HBS.out.2 c hc; rw [List.mem_singleton.1 hc]; rfl, by rw [← List.append_assoc]; exact S2.out⟩, by simp [intOf]; omega⟩
        · have d3 : decide ((q : Int) < (N : Int)) = false := decide_eq_false (by omega)
          obtain rfl : q = N := by omega
          have HB3 : Hid (bs ≠ [] ∧ bs.length ≤ 3) := Lib.hid ⟨fun e => by have h1 := HBS.out.1; have h2 := HNN.out.2; rw [e] at h1; simp at h1; omega, by rw [HBS.out.1]; exact HNN.out.1⟩
          obtain ⟨l0, hl0⟩ : ∃ l, t0 ++ bs = l := ⟨_, rfl⟩
          rw [hl0] at SB LB
          have HL0 := Lib.hid hl0
          have LL0 : Hid (l0.length ≤ 100000 ∧ l0 ≠ []) := Lib.hid ⟨by rw [← hl0, List.length_append]; have := LT0.out.1; have := HB3.out.2; omega, fun e => HB3.out.1 (by rw [e] at hl0; exact (List.append_eq_nil_iff.1 hl0).2)⟩
          clear hl0
          go_upto_region 19 with (first
            | (at_builtin; refine push_b2 rfl (.tmp 58) (.tmp 59) rfl wr w3.heap.size _ l1 32 32 rfl rfl rfl SB.out.2.1 BI.out.size (by have := LT0.out.2.1; omega) ?_; intro v' w4 k1 k2 k3; have S1 := Lib.hid (SB.out.p k1 k2 k3 (by omega)); have B4 := Lib.hid (below_grownO BI.out k2 (Nat.le_refl _) (fun g e => (World.ownsRow.lt SB.out.2.1 g e).1)); clear k1 k2 k3; obtain ⟨A6, q6, rfl, _, _⟩ := S1.out.1.form1; obtain ⟨A7, q7, rfl, _, _⟩ := S1.out.2.1.form1)
            | fail)
          have LN : Hid (b0.length ≤ 100000 ∧ b1.length ≤ 100000 ∧ l0.length + wd.length ≤ 1000000 ∧ (l1 ++ [32]).length + wd.length ≤ 1000000 ∧ l1 ++ [32] ≠ []) := Lib.hid (by
            obtain ⟨e1, e2, e3, e4, e5⟩ := LT0.out
            have e7 := LL0.out.1
            exact ⟨by omega, by omega, by omega, by rw [List.length_append, List.length_singleton]; omega, by simp⟩)
          clear hx x0 x2 q0 d3
          go_wp2_with (first
            | (at_builtin; refine push_n2 rfl (.tmp 61) (.tmp 64) rfl w4 w3.heap.size _ b0 _ l0.length (by rw [L2B_size]) rfl rfl S1.out.2.2.1 B4.out.size LN.out.1 ?_; intro v' w5 k1 k2 k3; have S2 := Lib.hid (S1.out.n k1 k2 k3 (by omega)); have B5 := Lib.hid (below_grownO B4.out k2 (Nat.le_refl _) (fun g e => (World.ownsRow.lt S1.out.2.2.1 g e).1)); clear k1 k2 k3)
            | (at_builtin; refine push_n2 rfl (.tmp 66) (.tmp 69) rfl w5 w3.heap.size _ b1 _ (l1 ++ [32]).length (by rw [L2B_size]) rfl rfl S2.out.2.2.2.1 B5.out.size LN.out.2.1 ?_; intro v' w6 k1 k2 k3; have S3 := Lib.hid (S2.out.o k1 k2 k3 (by omega)); have B6 := Lib.hid (below_grownO B5.out k2 (Nat.le_refl _) (fun g e => (World.ownsRow.lt S2.out.2.2.2.1 g e).1)); clear k1 k2 k3)
            | (at_builtin; refine push_s2 rfl (.tmp 71) (.tmp 72) rfl w6 w3.heap.size _ l0 wd rfl rfl S3.out.1 B6.out.size LN.out.2.2.1 LL0.out.2 ?_; intro v' w7 k1 k2 k3; have S4 := Lib.hid (S3.out.q k1 k2 k3 (by omega)); have B7 := Lib.hid (below_grownO B6.out k2 (Nat.le_refl _) (fun g e => (World.ownsRow.lt S3.out.1 g e).1)); clear k1 k2 k3)
            | (at_builtin; refine push_s2 rfl (.tmp 74) (.tmp 75) rfl w7 w3.heap.size _ (l1 ++ [32]) wd rfl rfl S4.out.2.1 B7.out.size LN.out.2.2.2.1 LN.out.2.2.2.2 ?_; intro v' w8 k1 k2 k3; have S5 := Lib.hid (S4.out.p k1 k2 k3 (by omega)); have B8 := Lib.hid (below_grownO B7.out k2 (Nat.le_refl _) (fun g e => (World.ownsRow.lt S4.out.2.1 g e).1)); clear k1 k2 k3)
            | fail)
          obtain ⟨e1, e2, e3, e4, e5⟩ := EQS.out
          have e6 := HL0.out
          have e7 := S5.out
          rw [← e6, ← e4, ← e1, ← e2, ← e3, ← e5] at e7
          exact ⟨⟨k + 1, by simp, by omega, SpB.next HKL.out HQ.out.1 HQ.out.2.1 HQ.out.2.2.1 HQ.out.2.2.2 HWk.out HBS.out.2 HB3.out.1 HB3.out.2 e7, B8.out⟩, by simp [intOf]; omega⟩
    · have d1 : decide ((k : Int) < (n : Int)) = false := decide_eq_false (by omega)
      obtain rfl : k = n := by omega
      have eT : L.take k = L := by rw [← HN.out]; exact List.take_length
      obtain ⟨hq1, hq2, hq3, hq4⟩ := HQ.out
      have hsp := SP.out
      rw [eT] at hq1 hq3 hq4 hsp
      have hse := HL.out.1
      have hpg := plainP_good HL.out.2
      have hpl : (plainP L).length = k := by rw [plainP, List.length_map]; exact HN.out
      have hql : qs.length = k := by rw [← HN.out, ← hq1, List.length_map]
      have HRS := spaces_reads hpg hq2 ((plainP_words L).trans hq1.symm) (by omega) (by omega)
      have HSZ : Hid ((txtL (plainP L)).length ≤ 65536 ∧ (txtL qs).length ≤ 65536) := Lib.hid ⟨by omega, by omega⟩
      have HPG := Lib.hid (And.intro hpg (And.intro hpl (And.intro hq2 hql)))
      obtain ⟨o1, o2, o3, o4, -, -⟩ := hsp
      obtain ⟨A6, q6, rfl, _, hs6⟩ := o1.form1
      obtain ⟨A7, q7, rfl, _, hs7⟩ := o2.form1
      obtain ⟨A8, q8, rfl, hs8⟩ := o3.form
      obtain ⟨A9, q9, rfl, hs9⟩ := o4.form
      rw [begs_len, hql, begs_len, hpl]
      have BB2 := Lib.hid (then_ B3.out BB.out)
      have H6 := Lib.hid hs6
      have H7 := Lib.hid hs7
      have H8 := Lib.hid hs8
      have H9 := Lib.hid hs9
      clear hq1 hq2 hq3 hq4 hse hpg hpl hql o1 o2 o3 o4 hs6 hs7 hs8 hs9 eT SP HQ
      rcases HRS with ⟨e, p, p', hr1, hr2, hE⟩ | ⟨F, F', st, st', f1, f2, f3, f4, f5, f6, f7, f8⟩
      · have R1 := Lib.hid hr1
        have R2 := Lib.hid hr2
        have HE := Lib.hid hE
        clear hr1 hr2 hE
        go_upto_region 24 with (first
          | (go_at_call 11; refine (R2.out w4 A6 q6 (H6.out.below B4.out (Nat.le_refl _)) (GB.out _ (then_ BB2.out B4.out)).1 (GB.out _ (then_ BB2.out B4.out)).2).mono ?_; rintro e' w5 ⟨rfl, hb⟩; have B5 := Lib.hid (then_ B4.out hb); clear hb)
          | (go_at_call 11; refine (R1.out wr A7 q7 H7.out (GB.out _ BB2.out).1 (GB.out _ BB2.out).2).mono ?_; rintro e' w4 ⟨rfl, hb⟩; have B4 := Lib.hid hb; clear hb)
          | fail)
        have BZ := Lib.hid (then_ BB2.out B5.out)
        rcases HE.out with ⟨i, hi, rfl, rfl⟩ | ⟨rfl, rfl⟩
        · obtain ⟨g1, g2, g3, g4⟩ := HPG.out
          rw [g2] at hi
          have I9 := H9.out.below B5.out (Nat.le_refl _)
          have I8 := H8.out.below B5.out (Nat.le_refl _)
          obtain ⟨g, o, rfl, hc⟩ := I8.at_ (i := i) (by rw [begs_len, g4]; exact hi)
          rw [nth_begs (by rw [g4]; exact hi)] at hc
          have IX := Lib.hid (index_at A9 q9 k i (begs (plainP L)) (begL (plainP L) i : Int) w5 (by rw [begs_len, g2]) (by have := HL.out.1.1; omega) I9 hi (by rw [nth_begs (by rw [g2]; exact hi)]) (fun j hj e => by
            rw [nth_begs (by rw [g2]; omega)] at e
            have := begL_first g1 (by rw [g2]; exact hi : i < (plainP L).length) hj
            omega))
          have i1 : (i : Int) < (k : Int) := by omega
          have i2 : (0 : Int) ≤ (i : Int) := by omega
          generalize begL (plainP L) i = x1 at IX ⊢
          generalize begL qs i = x2 at hc ⊢
          clear I8 I9 g1 g2 g3 g4 R1 R2 HE
          go_wp2_with (first | (go_at_call 21; refine IX.out.mono ?_; rintro e' w6 ⟨rfl, rfl⟩) | fail)
          go_ret
          exact ⟨rfl, BZ.out⟩
        · obtain ⟨g1, g2, g3, g4⟩ := HPG.out
          have I9 := H9.out.below B5.out (Nat.le_refl _)
          have IX := Lib.hid (index_no A9 q9 k (begs (plainP L)) ((L2B (txtL (plainP L))).size : Int) w5 (by rw [begs_len, g2]) (by have := HL.out.1.1; omega) I9 (fun j hj e => by
            rw [nth_begs (by rw [g2]; omega), L2B_size] at e
            have := begL_end g1 (by rw [g2]; exact hj : j < (plainP L).length)
            omega))
          generalize (L2B (txtL (plainP L))).size = x1 at IX ⊢
          generalize (L2B (txtL qs)).size = x2
          clear I9 g1 g2 g3 g4 R1 R2 HE
          go_wp2_with (first | (go_at_call 21; refine IX.out.mono ?_; rintro e' w6 ⟨rfl, rfl⟩) | fail)
          go_ret
          exact ⟨rfl, BZ.out⟩
      · have ho := (fileM_ok f1 f2).1
        have HO := Lib.hid (And.intro ho.sizes (And.intro ho.nf (And.intro ho.funs ho.n.2)))
        have sz1 : (L2B (txtL (plainP L))).size ≤ 65536 := by rw [L2B_size]; have := HSZ.out.1; omega
        have sz2 : (L2B (txtL qs)).size ≤ 65536 := by rw [L2B_size]; have := HSZ.out.2; omega
        have R1 := Lib.hid (readR_ok (c := q7) sz1 H7.out (GB.out _ BB2.out).1 (GB.out _ BB2.out).2 f1 f2)
        have R2 := Lib.hid (fun W (hb : Below wr.heap.size wr W) => readR_ok (c := q6) sz2 (H6.out.below hb (Nat.le_refl _)) (GB.out W (then_ BB2.out hb)).1 (GB.out W (then_ BB2.out hb)).2 f3 f4)
        rw [← f5, ← f6, ← f7, ← f8] at R2
        clear f1 f2 f3 f4 f5 f6 f7 f8 ho sz1 sz2
        generalize (L2B (txtL (plainP L))).extract F.name.1 F.name.2 = X at R1 R2
        generalize F.top = top at R1 R2
        generalize F.sizes = sizes at R1 R2 HO
        generalize F.funs = funs at R1 R2 HO
        go_upto_region 24 with (first
          | (go_at_call 11; refine (R2.out w4 B4.out).mono ?_; rintro e' w5 ⟨fb', As', Af', cs', cf', rfl, hf5, hb⟩; have B5 := Lib.hid (then_ B4.out hb); have F4 := Lib.hid (HF4.out.below hb); have F5 := Lib.hid hf5; clear hb hf5)
          | (go_at_call 11; refine R1.out.mono ?_; rintro e' w4 ⟨fb, As, Af, cs, cf, rfl, hf4, hb⟩; have B4 := Lib.hid hb; have HF4 := Lib.hid hf4; clear hb hf4)
          | fail)
        have BZ := Lib.hid (then_ BB2.out B5.out)
        have H0 := Lib.hid (holdE_of F4.out F5.out)
        have EQ := Lib.hid (fun W (hb : Below w5.heap.size w5 W) => equal_yes As As' sizes.length cs cs' sizes W rfl (by have := HO.out.2.2.2; omega) (F4.out.below hb).szs (F5.out.below hb).szs)
        have EF := Lib.hid (fun W (hb : Below w5.heap.size w5 W) => equalfunc_ok fb cs cf fb' cs' cf' X X top sizes funs As Af As' Af' W (F4.out.below hb) (F5.out.below hb) HO.out.2.1 HO.out.1 HO.out.2.2.1)
        generalize (L2B (txtL (plainP L))).size = x1
        generalize (L2B (txtL qs)).size = x2
        clear R1 R2
        go_upto_region 29 with fail
        go_region_held3 (fun W => HoldE w5 fb fb' X top sizes.length funs.length As As' Af Af' cs cs' cf cf' W) (first | exact holdE H0.out ((Below.refl _ _).drew) | exact holdE (by assumption) (by assumption) | assumption)
          ((first | (go_at_call 18; with_reducible refine (EQ.out _ (HoldE.below (by assumption))).mono ?_; rintro e' w' ⟨rfl, hb⟩)
                  | (go_at_call 27; with_reducible refine (EF.out _ (HoldE.below (by assumption))).mono ?_; rintro e' w' ⟨rfl, hb⟩)))
        all_goals
          have BE := Lib.hid (HoldE.below (w := w5) (by assumption))
          go_wp2_with fail
          go_ret
          exact ⟨rfl, then_ BZ.out BE.out⟩
end Go.Proofs.YtfjgcpfohljjhaaGreatDoor
