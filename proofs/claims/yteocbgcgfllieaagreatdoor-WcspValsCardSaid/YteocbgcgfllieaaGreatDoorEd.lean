/- WcspVals: the walk (no statement of its own). -/
import Derived.Test.YteocbgcgfllieaaGreatDoorEe
import Derived.Test.YteocbgcgfllieaaGreatDoorEf
import Derived.Test.YteocbgcgfllieaaGreatDoorMgAb
import Derived.Deep.CutBlock
namespace Go.Proofs.YteocbgcgfllieaaGreatDoor
open Go.RowKit
set_option linter.unusedVariables false
/-- What is known of the flag that says: an assignment. -/
def InV (sizes : List Nat) (m : Nat) (z : Nat → Int) (j : Nat) (v : Value) : Prop := ∃ b : Bool, v = .bool b ∧ (b = true ↔ (m = sizes.length ∧ ∀ i, i < j → 0 ≤ z i ∧ z i < (nth sizes i : Int)))
theorem inV_false {sizes : List Nat} {m : Nat} {z : Nat → Int} {j : Nat} (h : ¬ (m = sizes.length ∧ ∀ i, i < j → 0 ≤ z i ∧ z i < (nth sizes i : Int))) : InV sizes m z j (.bool false) := ⟨false, rfl, by simp [h]⟩
theorem inV_true {sizes : List Nat} {m : Nat} {z : Nat → Int} {j : Nat} (h : m = sizes.length ∧ ∀ i, i < j → 0 ≤ z i ∧ z i < (nth sizes i : Int)) : InV sizes m z j (.bool true) := ⟨true, rfl, by simp only [true_iff]; exact h⟩
/-- What Val says of the assignment that was given. -/
def ValV (b : Bool) (v14 v15 : Value) : Prop := (b = true ∧ v15 = .int .i64 0 ∧ ∃ c, v14 = .int .i64 c) ∨ (b = false ∧ v15 = .int .i64 3 ∧ v14 = .int .i64 0)
set_option maxRecDepth 100000 in
set_option maxHeartbeats 8000000 in
theorem vals_walk (a0 a1 : Option Addr) (n0 c0 n1 c1 : Nat) (z0 z1 : Nat → Int) (w : World) (hG : GlobR w) (hT : TabP w) (h0 : n0 ≤ c0) (h1 : n1 ≤ c1) (hm0 : (n0 : Int) ≤ 9223372036854775807) (hm1 : (n1 : Int) ≤ 9223372036854775807)
    (hA0 : a0 = none → n0 = 0) (hz0 : Bytes w a0 n0 z0) (hz1 : Ext w a1 n1 z1) :
    Calls Tryz.prog 3 #[.slice a0 n0 c0, .slice a1 n1 c1] w fun e w' => e = .returned (.bool true) ∧ Below w.heap.size w w' := by
  obtain ⟨m0, hk0⟩ : ∃ m, min n0 400 = m := ⟨_, rfl⟩
  have hi0 : min (n0 : Int) 400 = (m0 : Int) := by omega
  have SL0 : ∀ W, (Instr.slice 22 (.slice a0 n0 c0) none (some (.int .i64 (m0 : Int))) none).run Tryz.prog W = .ok (.slice a0 m0 c0) W := fun W => slice_head a0 n0 m0 c0 (by omega) W
  have C0 : Cel w a0 (strZ z0 m0) := hz0.cel (by omega) (fun e => by have := hA0 e; omega)
  have e0 := strZ_size z0 m0
  generalize strZ z0 m0 = s0 at C0 e0
  have P0 := Lib.hid (fun W (hb : Below w.heap.size w W) => bclone_any a0 m0 c0 s0 W e0 (by omega) (C0.below hb))
  have HS0 : Hid (s0.size = m0 ∧ m0 ≤ 400) := Lib.hid ⟨e0, by omega⟩
  have AW := Lib.hid (awake7_ok w hG hT)
  have GB := Lib.hid (fun W (hb : Below w.heap.size w W) => And.intro (hG.below hb) (tab_below hT hb))
  have HZ := Lib.hid hz1
  have HN1 := Lib.hid (And.intro hm1 h1)
  clear hk0 C0 e0 hz0 hz1 hA0 hG hT h0 h1 hm0 hm1
  go_enter Tryz.func3, Tryz.ntmps3
  go_upto_region 4 with (first
    | (go_at_call 9; refine AW.out.mono ?_; rintro e w1 ⟨rfl, hb1⟩; have B1 := Lib.hid hb1; clear hb1)
    | (go_at_call 10; refine (P0.out _ B1.out).mono ?_; rintro e w2 ⟨⟨v0, rfl, h0⟩, hb⟩; have B2 := Lib.hid (then_ B1.out hb); obtain ⟨A0, q0, rfl, hq0, hs0⟩ := h0.form1; have HB0 := Lib.hid hs0; have HQ0 := Lib.hid hq0; clear h0 hb hs0 hq0)
    | fail)
  clear SL0 hi0 P0 AW B1
  have RD := Lib.hid (fun W A c (hc : s0.size ≤ c) (h : BS W A s0) => read7 s0 A c W (by have := HS0.out; omega) hc h)
  cases hE : fileM s0.data.toList 1 with
  | bad e p =>
    --[bad
    obtain ⟨e', p', hE'⟩ : ∃ e' p', fileM s0.data.toList (-4611686018427387904) = .bad e' p' := by
      cases h : fileM s0.data.toList (-4611686018427387904) with
      | bad e' p' => exact ⟨_, _, rfl⟩
      | ok F st => have := fileM_lo.1 h; rw [hE] at this; cases this
    have RC := Lib.hid (readR_bad (c := q0) (by have := HS0.out; omega) HB0.out (GB.out _ B2.out).1 (GB.out _ B2.out).2 hE')
    have HEE := Lib.hid hE
    clear hE hE'
    by_cases hz : e' = 0
    · subst hz
      go_wp2_with (first
        | (go_at_call 11; refine RC.out.mono ?_; rintro e3 w3 ⟨rfl, hb3⟩; have B3 := Lib.hid (then_ B2.out hb3); have BS3 := Lib.hid (HB0.out.below hb3 (Nat.le_refl _)); clear hb3)
        | (go_at_call 12; refine (RD.out _ _ _ HQ0.out BS3.out).mono ?_; rintro e4 w4 ⟨hr4, hb4⟩; rw [HEE.out] at hr4; have hr4' : e4 = .returned (.tuple #[.pointer none, .int .i64 (p : Int), .int .i64 (e : Int)]) := hr4; subst hr4'; have B4 := Lib.hid (then_ B3.out hb4); clear hr4 hb4)
        | fail)
      go_ret
      exact ⟨rfl, B4.out⟩
    · have dz : ((e' : Int) != 0) = true := by simp; omega
      clear hz
      go_wp2_with (first
        | (go_at_call 11; refine RC.out.mono ?_; rintro e3 w3 ⟨rfl, hb3⟩; have B3 := Lib.hid (then_ B2.out hb3); have BS3 := Lib.hid (HB0.out.below hb3 (Nat.le_refl _)); clear hb3)
        | (go_at_call 12; refine (RD.out _ _ _ HQ0.out BS3.out).mono ?_; rintro e4 w4 ⟨hr4, hb4⟩; rw [HEE.out] at hr4; have hr4' : e4 = .returned (.tuple #[.pointer none, .int .i64 (p : Int), .int .i64 (e : Int)]) := hr4; subst hr4'; have B4 := Lib.hid (then_ B3.out hb4); clear hr4 hb4)
        | fail)
      go_ret
      exact ⟨rfl, B4.out⟩
    --]
  | ok F st =>
    have hE' : fileM s0.data.toList (-4611686018427387904) = .ok F st := fileM_lo.2 hE
    cases hb : st.big with
    | some p =>
      --[big
      have RC := Lib.hid (readR_big (c := q0) (by have := HS0.out; omega) HB0.out (GB.out _ B2.out).1 (GB.out _ B2.out).2 hE' hb)
      have HEE := Lib.hid (And.intro hE hb)
      clear hE hE' hb
      go_wp2_with (first
        | (go_at_call 11; refine RC.out.mono ?_; rintro e3 w3 ⟨rfl, hb3⟩; have B3 := Lib.hid (then_ B2.out hb3); have BS3 := Lib.hid (HB0.out.below hb3 (Nat.le_refl _)); clear hb3)
        | (go_at_call 12; refine (RD.out _ _ _ HQ0.out BS3.out).mono ?_; rintro e4 w4 ⟨hr4, hb4⟩; rw [HEE.out.1] at hr4; have hr4' : e4 = .returned (.tuple #[.pointer none, .int .i64 (p : Int), .int .i64 5]) := (by unfold ReadRes7 at hr4; simp only [HEE.out.2] at hr4; exact hr4); subst hr4'; have B4 := Lib.hid (then_ B3.out hb4); clear hr4 hb4)
        | fail)
      go_ret
      exact ⟨rfl, B4.out⟩
      --]
    | none =>
      --[fine
      have RR : Hid (RightF (s0.extract F.name.1 F.name.2) F.top F.sizes F.funs) := Lib.hid (rightF_of (s := s0) hE' hb (sum_small hE (by rw [size_list]; have := HS0.out; omega)))
      have FO := Lib.hid (fileM_ok hE hb).1
      have RC := Lib.hid (readR_ok (c := q0) (by have := HS0.out; omega) HB0.out (GB.out _ B2.out).1 (GB.out _ B2.out).2 hE' hb)
      have HEE := Lib.hid (And.intro hE hb)
      clear hE hE' hb
      go_upto_region 8 with (first
        | (go_at_call 11; refine RC.out.mono ?_; rintro e3 w3 ⟨fb, As, Af, cs, cf, rfl, hf3, hb3⟩; have B3 := Lib.hid (then_ B2.out hb3); have BS3 := Lib.hid (HB0.out.below hb3 (Nat.le_refl _)); have F3 := Lib.hid hf3; clear hb3 hf3)
        | (go_at_call 12; refine (RD.out _ _ _ HQ0.out BS3.out).mono ?_; rintro e4 w4 ⟨hr4, hb4⟩; rw [HEE.out.1] at hr4; obtain ⟨xb, rfl, hx, hxb⟩ : ∃ xb, e4 = .returned (.tuple #[.pointer (some ⟨xb, 0, none⟩), .int .i64 (s0.size : Int), .int .i64 0]) ∧ FileD w4 xb w3.heap.size s0 F ∧ w3.heap.size ≤ xb := (by unfold ReadRes7 at hr4; simp only [HEE.out.2] at hr4; exact hr4); have B4 := Lib.hid (then_ B3.out hb4); have F4 := Lib.hid (F3.out.below hb4); have X4 := Lib.hid hx; clear hr4 hb4 hx hxb)
        | fail)
      obtain ⟨Az, Ax, cz, cx, hV4⟩ := X4.out.v
      have V4 := Lib.hid hV4
      clear hV4 X4 F3 RC RD HEE
      obtain ⟨X, hX⟩ : ∃ X, s0.extract F.name.1 F.name.2 = X := ⟨_, rfl⟩
      obtain ⟨K, hK⟩ : ∃ K, F.top = K := ⟨_, rfl⟩
      obtain ⟨sz, hsz⟩ : ∃ sz, F.sizes = sz := ⟨_, rfl⟩
      obtain ⟨fs, hfs⟩ : ∃ fs, F.funs = fs := ⟨_, rfl⟩
      have HLF : Hid (∀ g ∈ fs, g.lines.length ≤ 100000) := Lib.hid (fun g hg => by have := FO.out.lfew g (by rw [hfs]; exact hg); rw [size_list] at this; have := HS0.out; omega)
      rw [hX, hK, hsz, hfs] at RR F4 V4
      clear FO hX hK hsz hfs
      obtain ⟨m1, hk1⟩ : ∃ m, min n1 70 = m := ⟨_, rfl⟩
      have hi1 : min (n1 : Int) 70 = (m1 : Int) := by omega
      have SL1 : ∀ W, (Instr.slice 23 (.slice a1 n1 c1) none (some (.int .i64 (m1 : Int))) none).run Tryz.prog W = .ok (.slice a1 m1 c1) W := fun W => slice_headI a1 n1 m1 c1 (by have := HN1.out.2; omega) W
      have P1 := Lib.hid (clone_ext a1 m1 c1 z1 w4 (by omega) ((HZ.out.below B4.out).less (by omega)))
      have M70 : Hid (m1 ≤ 70) := Lib.hid (by omega)
      clear hk1
      go_upto_region 9 with (first
        | (go_at_call 13; refine P1.out.mono ?_; rintro e w5 ⟨⟨A2, q2, rfl, hz2⟩, hb5⟩; have B5 := Lib.hid (then_ B4.out hb5); have F5 := Lib.hid (F4.out.below hb5); have V5 := Lib.hid (V4.out.below hb5); have Z5 := Lib.hid hz2; clear hz2 hb5)
        | fail)
      clear SL1 hi1 P1 F4 V4
      have N64 : Hid (sz.length ≤ 64) := Lib.hid RR.out.n.2
      have cx2 := V5.out.cells.2.2.1
      go_upto_block 0 with fail
      --[fine2
      go_cut [11, 12, 13, 67] from 68 to 88 (fun v11 _ _ _ wc => wc = w5 ∧ Hid (InV sz m1 z1 m1 v11))
      case first =>
        --[flag
        go_wp2_with fail
        go_loopw [11, 12, 13, 67] (fun v11 _ _ i wr => ∃ j : Nat, i = .int .i64 (j : Int) ∧ j ≤ m1 ∧ wr = w5 ∧ InV sz m1 z1 j v11) (fun _ _ _ i _ => m1 - (intOf i).toNat)
        case atStart =>
          refine ⟨0, rfl, Nat.zero_le _, rfl, _, rfl, ?_⟩
          constructor
          · intro h
            exact ⟨by have h : (m1 : Int) = (sz.length : Int) := (by simpa using h); omega, fun i h => absurd h (Nat.not_lt_zero _)⟩
          · intro h
            have h9 : (m1 : Int) = (sz.length : Int) := by have := h.1; omega
            simpa using h9
        case round =>
          obtain ⟨j, rfl, hj, hwr, bb, rfl, hbb⟩ := hrel
          rw [hwr]
          clear hwr
          have HBB := Lib.hid hbb
          clear hbb
          by_cases hlt : j < m1
          · have d1 : decide ((j : Int) < (m1 : Int)) = true := decide_eq_true (by omega)
            obtain ⟨ga, oa, rfl, hca⟩ := Z5.out.at_ hlt
            have j3 : (j : Int) ≤ 70 := by have := M70.out; omega
            cases bb with
            | false =>
              have NV : Hid (InV sz m1 z1 (j + 1) (.bool false)) := Lib.hid (inV_false (fun h => by
                have := HBB.out.2 ⟨h.1, fun i hi => h.2 i (by omega)⟩
                cases this))
              go_wp2_with fail
              exact ⟨⟨j + 1, by simp, by omega, trivial, NV.out⟩, by simp [intOf]; omega⟩
            | true =>
              have HBT := Lib.hid (HBB.out.1 rfl)
              obtain ⟨gs, os, rfl, hcs⟩ := V5.out.szs.at_ (i := j) (by rw [← HBT.out.1]; exact hlt)
              have jl : (j : Int) < (sz.length : Int) := by have := HBT.out.1; omega
              by_cases h0 : 0 ≤ z1 j
              · have d2 : decide (0 ≤ z1 j) = true := decide_eq_true h0
                by_cases h1 : z1 j < (nth sz j : Int)
                · have d3 : decide (z1 j < (nth sz j : Int)) = true := decide_eq_true h1
                  have NV : Hid (InV sz m1 z1 (j + 1) (.bool true)) := Lib.hid (inV_true ⟨HBT.out.1, fun i hi => by
                    rcases Nat.lt_or_ge i j with h | h
                    · exact HBT.out.2 i h
                    · rw [show i = j by omega]; exact ⟨h0, h1⟩⟩)
                  clear h0 h1
                  go_wp2_with fail
                  exact ⟨⟨j + 1, by simp, by omega, trivial, NV.out⟩, by simp [intOf]; omega⟩
                · have d3 : decide (z1 j < (nth sz j : Int)) = false := decide_eq_false h1
                  have NV : Hid (InV sz m1 z1 (j + 1) (.bool false)) := Lib.hid (inV_false (fun h => h1 (h.2 j (by omega)).2))
                  clear h0 h1
                  go_wp2_with fail
                  exact ⟨⟨j + 1, by simp, by omega, trivial, NV.out⟩, by simp [intOf]; omega⟩
              · have d2 : decide (0 ≤ z1 j) = false := decide_eq_false h0
                have NV : Hid (InV sz m1 z1 (j + 1) (.bool false)) := Lib.hid (inV_false (fun h => h0 (h.2 j (by omega)).1))
                clear h0
                go_wp2_with fail
                exact ⟨⟨j + 1, by simp, by omega, trivial, NV.out⟩, by simp [intOf]; omega⟩
          · have d1 : decide ((j : Int) < (m1 : Int)) = false := decide_eq_false (by omega)
            have HBB := Lib.hid (show bb = true ↔ (m1 = sz.length ∧ ∀ i, i < m1 → 0 ≤ z1 i ∧ z1 i < (nth sz i : Int)) by have h := HBB.out; rw [show j = m1 by omega] at h; exact h)
            go_wp2_with fail
            go_meet
            case rel => exact ⟨rfl, Lib.hid ⟨bb, rfl, HBB.out⟩⟩
        --]
      obtain ⟨hwc, hiv⟩ := hcut
      rw [hwc]
      clear hwc cx2
      obtain ⟨bb, rfl, hbb⟩ := hiv.out
      have HBB : Hid (bb = true ↔ InZ sz m1 z1) := Lib.hid hbb
      clear hiv hbb
      go_upto_region 15 with fail
      go_cut [14, 15] from 89 to 94 (fun v14 v15 wc => Hid (ValV bb v14 v15 ∧ Below w5.heap.size w5 wc))
      case first =>
        --[given
        cases bb with
        | true =>
          have hin : InZ sz m1 z1 := HBB.out.1 rfl
          obtain ⟨a, ha1, ha2, ha3⟩ := ints_of_zs Z5.out (fun i hi => (hin.2 i hi).1)
          have VF := Lib.hid (valF fb cs cf q2 X K sz a fs As Af A2 w5 F5.out RR.out ha2 (inL_iff.2 ⟨by rw [ha1]; exact hin.1, fun p hp => by
            have h1 := hin.2 p (by rw [hin.1]; exact hp)
            have h2 := ha3 p (by rw [hin.1]; exact hp)
            omega⟩))
          rw [ha1] at VF
          clear hin ha1 ha2 ha3
          go_wp2_with (first | (go_at_call 14; refine VF.out.mono ?_; rintro e w6 ⟨rfl, hb6⟩; have B6 := Lib.hid hb6; clear hb6) | fail)
          go_meet
          case rel => exact Lib.hid ⟨.inl ⟨rfl, rfl, _, rfl⟩, B6.out⟩
        | false =>
          have VN := Lib.hid (valNo fb cs cf q2 X K sz m1 z1 fs As Af A2 w5 F5.out RR.out Z5.out (fun h => by have := HBB.out.2 h; cases this) (by have := M70.out; omega))
          go_wp2_with (first | (go_at_call 14; refine VN.out.mono ?_; rintro e w6 ⟨rfl, hb6⟩; have B6 := Lib.hid hb6; clear hb6) | fail)
          go_meet
          case rel => exact Lib.hid ⟨.inr ⟨rfl, rfl, rfl⟩, B6.out⟩
        --]
      obtain ⟨hvv, hb6⟩ := hcut.out
      have B6 := Lib.hid hb6
      clear hcut hb6
      go_upto_region 16 with fail
      go_cut [110] from 95 to 109 (fun v110 wx => v110 = .bool false ∧ Hid (Below w5.heap.size w5 wx))
      case first =>
        --[asked
        rcases hvv with ⟨rfl, rfl, c9, rfl⟩ | ⟨rfl, rfl, rfl⟩
        · go_wp2_with fail
          go_meet
          case rel => exact ⟨rfl, B6⟩
        · go_wp2_with fail
          go_meet
          case rel => exact ⟨rfl, B6⟩
        --]
      obtain ⟨rfl, B7⟩ := hcut
      clear B6 hvv
      go_wp2_with fail
      go_loopw [16, 17, 18, 19, 20, 21, 22, 111] (fun _ _ _ _ _ _ _ i wr => ∃ k : Nat, i = .int .i64 (k : Int) ∧ k ≤ 12 ∧ Below w5.heap.size w5 wr) (fun _ _ _ _ _ _ _ i _ => 12 - (intOf i).toNat)
      case atStart => exact ⟨0, rfl, Nat.zero_le _, B7.out⟩
      case round =>
        clear B7
        obtain ⟨k, rfl, hk, hB⟩ := hrel
        have HB := Lib.hid hB
        clear hB
        by_cases hlt : k < 12
        · --[once
          have d1 : decide ((k : Int) < 12) = true := decide_eq_true (by omega)
          obtain ⟨wo, hwo⟩ : ∃ wo, wo = wr := ⟨wr, rfl⟩
          subst hwo
          have VW := Lib.hid (V5.out.below HB.out)
          obtain ⟨n, hn⟩ : ∃ n, sz.length = n := ⟨_, rfl⟩
          have HNN := Lib.hid hn
          have hn64 : n ≤ 64 := by rw [← hn]; exact N64.out
          have cx2 := VW.out.cells.2.2.1
          rw [hn] at cx2
          clear hn
          obtain ⟨i0, hi, hz0, hz1, hz2⟩ := info_parts info_int
          obtain ⟨w8, hm, how, hgw⟩ := run_makeSlice_full (P := Tryz.prog) wo wo.heap.size 23 3 i0 (.int .i64 0) 1 Tryz.underlying23 hi hz0 hz1 .i64 .i64 n (by omega) (by rw [hz2]; omega) (by unfold maxLen; omega) (Nat.le_refl _)
          have hbw : Below wo.heap.size wo w8 := ⟨hgw.os, hgw.tape, hgw.output, hgw.size, fun k hk => hgw.block k hk (by simp)⟩
          rw [Nat.mul_one] at how
          have VI0 : Hid (VI wo w8 n (valG sz k s0.size) 0 (.slice none 0 0)) := Lib.hid ⟨by rw [fillG_zero]; exact own_zero how, own6_nil _ _, hbw⟩
          have BW8 := Lib.hid (HB.out.trans (hbw.mono HB.out.size))
          clear how hgw hi hz0 hz1 hz2 hbw
          go_upto_region 22 with fail
          clear hm cx2
          have VW8 := Lib.hid (V5.out.below BW8.out)
          have cx2 := VW8.out.cells.2.2.1
          rw [HNN.out] at cx2
          go_upto_block 4 with fail
          clear cx2
          go_cut [18, 19, 20, 125] from 126 to 149 (fun v18 _ _ _ wc => ∃ A8 c8, v18 = .slice A8 n c8 ∧ Hid (Ints wc (some ⟨wo.heap.size, 0, none⟩) (rngG (valG sz k s0.size) n) ∧ I6 wc A8 (rngG (valG sz k s0.size) n) ∧ Below wo.heap.size wo wc))
          case first =>
            --[fill
            go_wp2_with fail
            go_loopw [18, 19, 20, 125] (fun v18 _ _ i wi => ∃ j : Nat, i = .int .i64 (j : Int) ∧ j ≤ n ∧ VI wo wi n (valG sz k s0.size) j v18) (fun _ _ _ i _ => n - (intOf i).toNat)
            case atStart => exact ⟨0, rfl, Nat.zero_le _, VI0.out⟩
            case round =>
              obtain ⟨j, rfl, hj, hvi⟩ := hrel
              have HVI := Lib.hid hvi
              clear hvi VI0
              by_cases hjn : j < n
              · have d2 : decide ((j : Int) < (n : Int)) = true := decide_eq_true (by omega)
                have BWI := Lib.hid (HB.out.trans (HVI.out.b.mono HB.out.size))
                obtain ⟨gs, os, rfl, cs⟩ := (V5.out.below BWI.out).szs.at_ (i := j) (by rw [HNN.out]; exact hjn)
                have hs1 := RR.out.szs _ (nth_mem (l := sz) (i := j) (by rw [HNN.out]; exact hjn))
                obtain ⟨q, hq⟩ : ∃ q, nth sz j = q := ⟨_, rfl⟩
                rw [hq] at cs hs1
                obtain ⟨x1, x2, x3, x4, x5, x6⟩ := valG_num sz k s0.size j q hq hs1.1 (by omega) (by omega) (by have := HS0.out; omega)
                obtain ⟨y1, y2, y3, y4, y5, y6⟩ := HVI.out.store hjn
                have Y4 := Lib.hid y4
                have Y5 := Lib.hid y5
                have Y6 := Lib.hid y6
                obtain ⟨v9, hv9⟩ : ∃ v, valG sz k s0.size j = v := ⟨_, rfl⟩
                have HV9 := Lib.hid hv9
                rw [hv9] at x4 y3 Y4 Y5 Y6
                have q0' : ((q : Int) == 0) = false := by simp; omega
                have q1' : ¬ (q : Int) = 0 := by omega
                have HJN := Lib.hid hjn
                have jn2 : (j : Int) < (n : Int) := by omega
                clear hq y4 y5 y6 hv9
                obtain ⟨Ay, cy, rfl⟩ := HVI.out.y.formN (rngG_len _ j)
                go_upto_region 27 with fail
                change Code.wp _ _ _ _ (wr.setCell ⟨wo.heap.size, j, none⟩ (.int .i64 (v9 : Int)))
                clear cs y1 y2 x1 x2 x3 x4 x5 x6
                generalize wr.setCell ⟨wo.heap.size, j, none⟩ (.int .i64 (v9 : Int)) = w9 at y3 Y4 Y5 Y6 ⊢
                have na := new_val w9 (.cells #[.int .i64 (v9 : Int)] 2)
                have NA := Lib.hid na
                have OA := Lib.hid (Y5.out.keepB (w' := w9.alloc (.cells #[.int .i64 (v9 : Int)] 2)) (fun g _ h _ => na.block g h))
                have CY : Hid ((w9.alloc (.cells #[.int .i64 (v9 : Int)] 2)).cell? ((⟨w9.heap.size, 0, none⟩ : Addr).add 0) = some (.int .i64 (v9 : Int))) := Lib.hid (by
                  show (w9.alloc _).cell? ⟨w9.heap.size, 0, none⟩ = _
                  rw [cell_of_row _ _ _ _ _ _ (heap_alloc_new w9 _)]; rfl)
                have BZ := Lib.hid (Nat.le_trans Y6.out.size na.size)
                clear na
                go_upto_region 28 with (first
                  | (at_builtin; refine push6 rfl (.tmp 142) (.tmp 147) rfl (w9.alloc (.cells #[.int .i64 (v9 : Int)] 2)) wo.heap.size v9 (.slice Ay j cy) (rngG (valG sz k s0.size) j) ⟨w9.heap.size, 0, none⟩ rfl rfl OA.out CY.out BZ.out (by rw [rngG_len]; omega) ?_; intro v6 w10 h1 h2 h3; have VN := Lib.hid (VI.push Y4.out Y6.out NA.out OA.out (HV9.out ▸ h1) h2); clear h1 h2 h3)
                  | fail)
                clear y3
                go_wp2_with fail
                exact ⟨⟨j + 1, by simp, by have := HJN.out; omega, VN.out⟩, by simp [intOf]; have := HJN.out; omega⟩
              · have d2 : decide ((j : Int) < (n : Int)) = false := decide_eq_false (by omega)
                have HJ := Lib.hid (show j = n by omega)
                rw [HJ.out] at HVI
                obtain ⟨Ay, cy, ey, -, iy⟩ := HVI.out.y.form
                rw [rngG_len] at ey
                subst ey
                obtain ⟨At, ct, et, it⟩ := HVI.out.t.form
                injection et with et1 et2 et3
                subst et1
                rw [fillG_all] at it
                have FIN := Lib.hid (And.intro it (And.intro iy HVI.out.b))
                clear it iy et2 et3
                go_wp2_with fail
                go_meet
                case rel => exact ⟨_, _, rfl, FIN⟩
            --]
          obtain ⟨A8, c8, rfl, hfin⟩ := hcut
          have FIN := Lib.hid hfin.out
          clear hfin VI0
          have BWc := Lib.hid (HB.out.trans (FIN.out.2.2.mono HB.out.size))
          have AL : Hid ((rngG (valG sz k s0.size) n).length = n) := Lib.hid (rngG_len _ _)
          have VF := Lib.hid (valF fb cs cf n X K sz (rngG (valG sz k s0.size) n) fs As Af (some ⟨wo.heap.size, 0, none⟩) wc (F5.out.below BWc.out) RR.out FIN.out.1 (HNN.out ▸ valG_in sz k s0.size RR.out.szs))
          have V7 := Lib.hid (fun W (hb : Below wc.heap.size wc W) => val7 xb cz cx c8 X K sz (rngG (valG sz k s0.size) n) fs Az Ax A8 W ((V5.out.below BWc.out).below hb) RR.out.top RR.out.funs HLF.out RR.out.nf N64.out (FIN.out.2.1.keep (KeepD.below hb)) (by rw [AL.out, HNN.out]))
          rw [AL.out] at VF V7
          generalize valM K (rngG (valG sz k s0.size) n) fs = vv at VF V7
          have hkk : (k : Int) ≤ 12 := by omega
          go_wp2_with (first
            | (go_at_call 14; refine VF.out.mono ?_; rintro e w11 ⟨rfl, hb11⟩; have B11 := Lib.hid hb11; clear hb11)
            | (go_at_call 15; refine (V7.out _ B11.out).mono ?_; rintro e w12 ⟨rfl, hb12⟩; have B12 := Lib.hid (BWc.out.trans ((then_ B11.out hb12).mono BWc.out.size)); clear hb12)
            | fail)
          exact ⟨⟨k + 1, by simp, by omega, B12.out⟩, by simp [intOf]; omega⟩
          --]
        · have d1 : decide ((k : Int) < 12) = false := decide_eq_false (by omega)
          go_wp2_with fail
          go_ret
          exact ⟨rfl, then_ B5.out HB.out⟩
      --]
      --]
end Go.Proofs.YteocbgcgfllieaaGreatDoor
