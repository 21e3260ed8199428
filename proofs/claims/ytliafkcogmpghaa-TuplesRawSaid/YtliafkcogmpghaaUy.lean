/- The walk of TuplesRaw (no statement of its own). No condition. -/
import Derived.Test.YtliafkcogmpghaaUt
import Derived.Test.YtliafkcogmpghaaUx
import Derived.Deep.RegionWith
import Derived.Deep.CutRange
import Derived.Deep.CutBlock
namespace Go.Proofs.Ytliafkcogmpghaa
open Go.RowKit Go.Maps
set_option linter.unusedVariables false
attribute [local go_sem] Oper.semAt_some
attribute [local go_sem ↓] run_mn2
theorem zs_kept {X Y w0 : World} {A : Option Addr} {n b : Nat} {z : Nat → Int} (h0 : Zs w0 A n z) (h : Zs X A n z) (hg : X.grownBy Y (some b)) (hb : w0.heap.size ≤ b) : Zs Y A n z := by
  rcases h with h | ⟨g, o, rfl, hlt, hc⟩
  · exact .inl h
  · rcases h0 with h0 | ⟨g', o', e, hlt', _⟩
    · exact .inl h0
    · injection e with e
      injection e with e1 e2
      subst e1
      exact .inr ⟨g, o, rfl, Nat.lt_of_lt_of_le hlt hg.size, fun i hi => World.grownBy.cell hg (hc i hi) (fun e => by injection e with e; simp at e; omega)⟩
set_option maxRecDepth 100000 in
set_option maxHeartbeats 16000000 in
theorem raw_walk5 (A B : Option Addr) (n c m d : Nat) (z y : Nat → Int) (k o x : Int) (w : World) (hz : Ext w A n z) (hy : Ext w B m y)
    (nA nB : Nat) (hA : nA ≤ n) (hA4 : nA ≤ 8) (hAn : mn2 n 8 = nA) (hB : nB ≤ m) (hB4 : nB ≤ 8) (hBn : mn2 m 8 = nB) (hc : n ≤ c) (hd : m ≤ d) :
    Calls Try.prog 5 #[.slice A n c, .int .i64 k, .int .i64 o, .slice B m d, .int .i64 x] w fun e w' => e = .returned (.bool true) ∧ Below w.heap.size w w' := by
  have HZ := Lib.hid hz
  have HY := Lib.hid hy
  have hAc : (nA : Int) ≤ (c : Int) := by omega
  have hBd : (nB : Int) ≤ (d : Int) := by omega
  have hA0 : 0 ≤ (nA : Int) := by omega
  have hB0 : 0 ≤ (nB : Int) := by omega
  clear hz hy
  go_enter Try.func5, Try.ntmps5
  go_wp2_with fail
  refine (awake5_ok w).mono ?_
  rintro e w1 ⟨rfl, b1⟩
  have B1 := Lib.hid b1
  clear b1
  go_upto_region 3 with fail
  go_cut [0, 3] from 33 to 44 (fun v0 v3 wx => ∃ A2 c2 A3 c3, v0 = .slice A2 nA c2 ∧ v3 = .slice A3 nB c3 ∧ Zs wx A2 nA z ∧ Zs wx A3 nB y ∧ Below w.heap.size w wx)
  case first =>
    have B1d := Lib.hid (then_ B1.out ((Below.refl w1.heap.size w1).drew))
    have E1 := Lib.hid (((HZ.out.below B1.out).less hA).below ((Below.refl w1.heap.size w1).drew))
    have E2 := Lib.hid (((HY.out.below B1.out).less hB).below ((Below.refl w1.heap.size w1).drew))
    go_region_with ((first
      | ((with_reducible refine (clone_ext A nA c z _ (by omega) (by first | exact E1.out | exact E1.out.below (by assumption))).mono ?_); rintro e w' ⟨⟨A2, c2, rfl, hA2⟩, hb2⟩)
      | ((with_reducible refine (clone_ext B nB d y _ (by omega) (by first | exact E2.out | exact E2.out.below (by assumption))).mono ?_); rintro e w' ⟨⟨A3, c3, rfl, hA3⟩, hb3⟩)))
    all_goals
      go_wp2_with fail
      go_meet
      exact ⟨A2, c2, A3, c3, rfl, rfl, by first | exact hA2 | exact hA2.below (by assumption) (Nat.le_refl _), by first | exact hA3 | exact hA3.below (by assumption) (Nat.le_refl _), by first | exact then_ (then_ B1d.out hb2) hb3 | exact then_ (then_ B1d.out hb3) hb2⟩
  case rest =>
    obtain ⟨A2, c2, A3, c3, rfl, rfl, hZ2, hZ3, hB'⟩ := hcut
    have Z2 := Lib.hid hZ2
    have Z3 := Lib.hid hZ3
    have B2 := Lib.hid hB'
    clear hZ2 hZ3 hB' HZ HY B1 hAc hBd hAn hBn hA hB
    rcases raw_cases nA z with ⟨p, hbad⟩ | ⟨hm6, l, hll, hzl, hl32⟩
    · have HN := Lib.hid (tpnew_arg A2 nA c2 p z k o wc Z2.out hA4 hbad)
      have HB := Lib.hid hbad
      clear hbad
      go_wp2_with fail
      refine HN.out.mono ?_
      rintro e w3 ⟨rfl, b3⟩
      have B3 := Lib.hid (then_ B2.out b3)
      have Z4 := Lib.hid (Z2.out.below b3 (Nat.le_refl _))
      clear b3 HN
      obtain ⟨b, hb⟩ : ∃ b, decide ((nA : Int) ≤ 6) = b := ⟨_, rfl⟩
      have Hb := Lib.hid hb
      clear hb
      go_upto_region 6 with fail
      rw [Hb.out]
      go_wp2_with fail
      go_loop [13, 14, 16, 57] (fun ok count _ i => ∃ (j C : Nat) (b : Bool), j ≤ nA ∧ i = .int .i64 j ∧ ok = .bool b ∧ count = .int .i64 (C : Int) ∧ (b = true → nA ≤ 6 ∧ j ≤ p ∧ C ≤ 32 ^ j)) (fun _ _ _ i => nA - (intOf i).toNat)
      case atStart => exact ⟨0, 1, b, Nat.zero_le _, rfl, rfl, rfl, fun h => ⟨by have := Hb.out; rw [h] at this; have := of_decide_eq_true this; omega, Nat.zero_le _, Nat.le_refl _⟩⟩
      case round =>
        obtain ⟨j, C, bb, hj, rfl, rfl, rfl, hbb⟩ := hrel
        have HBB := Lib.hid hbb
        clear hbb
        by_cases hlt : j < nA
        · obtain ⟨g, o', rfl, hcell⟩ := Z4.out.at_ hlt
          have ji : (j : Int) < (nA : Int) := by omega
          have j0 : (0 : Int) ≤ (j : Int) := by omega
          cases bb with
          | false =>
            generalize z j = q at hcell
            go_wp2_with fail
            go_round
            case rel => exact ⟨j + 1, C, false, by omega, by go_num, rfl, rfl, fun h => by cases h⟩
            case measure => simp [intOf]; omega
          | true =>
            obtain ⟨k1, k2, k3⟩ := HBB.out rfl
            obtain ⟨q1, q2, q3⟩ : p < nA ∧ (∀ i, i < p → 1 ≤ z i ∧ z i ≤ 32) ∧ (z p < 1 ∨ 32 < z p) := by
              rcases HB.out with h | ⟨_, h⟩
              · omega
              · exact h
            have QQ := Lib.hid (And.intro q2 q3)
            clear q2 q3
            by_cases hjp : j < p
            · obtain ⟨x1, x2⟩ := QQ.out.1 j hjp
              have hC : C ≤ 33554432 := by
                have h5 : 32 ^ j ≤ 32 ^ 5 := Nat.pow_le_pow_right (by omega) (by omega)
                have e5 : (32 : Nat) ^ 5 = 33554432 := by decide
                omega
              obtain ⟨u, hu⟩ : ∃ u : Nat, z j = u := ⟨(z j).toNat, by omega⟩
              have hcy : C * u ≤ 1073741824 := by have := Nat.mul_le_mul hC (show u ≤ 32 by omega); omega
              have KK : Hid (C * u ≤ 32 ^ (j + 1)) := Lib.hid (by rw [Nat.pow_succ]; exact Nat.mul_le_mul k3 (by omega))
              rw [hu] at hcell x1 x2
              have hm1 : (C : Int) * (u : Int) ≤ 1073741824 := by rw [← Int.natCast_mul]; omega
              have hm2 : 0 ≤ (C : Int) * (u : Int) := by rw [← Int.natCast_mul]; omega
              clear hu k3 hcy
              go_wp2_with fail
              go_round
              case rel => exact ⟨j + 1, C * u, true, by omega, by go_num, rfl, by rw [Int.natCast_mul], fun _ => ⟨k1, by omega, KK.out⟩⟩
              case measure => simp [intOf]; omega
            · obtain rfl : j = p := by omega
              have hx := QQ.out.2
              generalize z j = q at hcell hx
              rcases (by omega : q < 1 ∨ (1 ≤ q ∧ 32 < q)) with hx1 | ⟨hx1, hx2⟩
              · clear hx k3
                go_wp2_with fail
                go_round
                case rel => exact ⟨j + 1, C, false, by omega, by go_num, rfl, rfl, fun h => by cases h⟩
                case measure => simp [intOf]; omega
              · have hd : decide (q ≤ 32) = false := by rw [decide_eq_false_iff_not]; omega
                clear hx k3
                go_wp2_with fail
                go_round
                case rel => exact ⟨j + 1, C, false, by omega, by go_num, rfl, rfl, fun h => by cases h⟩
                case measure => simp [intOf]; omega
        · have hbf : bb = false := by
            cases bb with
            | false => rfl
            | true =>
              obtain ⟨k1, k2, k3⟩ := HBB.out rfl
              rcases HB.out with h | ⟨_, h, _⟩ <;> omega
          subst hbf
          obtain rfl : j = nA := by omega
          have ji : ¬ ((j : Int) < (j : Int)) := by omega
          go_wp2_with fail
          go_ret
          exact ⟨rfl, B3.out⟩
    · subst hll
      have I2 := Lib.hid (ints_of_zs Z2.out hzl)
      have H32 := Lib.hid hl32
      have hl6i : (l.length : Int) ≤ 6 := by omega
      have h6 : l.length ≤ 6 := hm6
      clear hzl hl32 Z2
      by_cases hok : InK o k
      · have HN := Lib.hid (tpnew_ok A2 l.length c2 l k o wc rfl h6 I2.out H32.out hok)
        have HX := Lib.hid hok
        clear hok
        go_wp2_with fail
        refine HN.out.mono ?_
        rintro e w3 ⟨⟨gt, bt, At, ct, rfl, hT, hgt, hbt⟩, b3⟩
        have B3 := Lib.hid (then_ B2.out b3)
        have I4 := Lib.hid (I2.out.below b3 (Nat.le_refl _))
        have Y4 := Lib.hid (Z3.out.below b3 (Nat.le_refl _))
        have T4 := Lib.hid hT
        have hbw : w.heap.size ≤ bt := Nat.le_trans B2.out.size hbt
        clear b3 HN hT hgt
        go_wp2_with fail
        go_loop [13, 14, 16, 57] (fun ok count _ i => ∃ j : Nat, j ≤ l.length ∧ i = .int .i64 j ∧ ok = .bool true ∧ count = .int .i64 (prodL (l.take j) : Nat)) (fun _ _ _ i => l.length - (intOf i).toNat)
        case atStart => exact ⟨0, Nat.zero_le _, rfl, rfl, rfl⟩
        case round =>
          obtain ⟨j, hj, rfl, rfl, rfl⟩ := hrel
          by_cases hlt : j < l.length
          · obtain ⟨g, o', rfl, hcell⟩ := I4.out.at_ hlt
            have hx := H32.out _ (nth_mem hlt)
            have HPt := Lib.hid (prod_take l hlt)
            have hmm : prodL (l.take j) * nth l j ≤ 1073741824 := by rw [← HPt.out]; exact take_le h6 (fun n hn => (H32.out n hn).2) (j + 1)
            have hm1 : ((prodL (l.take j) : Nat) : Int) * (nth l j : Int) ≤ 1073741824 := by rw [← Int.natCast_mul]; omega
            have hm2 : 0 ≤ ((prodL (l.take j) : Nat) : Int) * (nth l j : Int) := by rw [← Int.natCast_mul]; omega
            clear hmm
            generalize nth l j = N at hcell hx HPt hm1 hm2
            generalize prodL (l.take j) = D at HPt hm1 hm2
            obtain ⟨hx1, hx2⟩ := hx
            have hx1' : (1 : Int) ≤ (N : Int) := by omega
            have hx2' : (N : Int) ≤ 32 := by omega
            have ji : (j : Int) < (l.length : Int) := by omega
            have j0 : (0 : Int) ≤ (j : Int) := by omega
            go_wp2_with fail
            go_round
            case rel => exact ⟨j + 1, by omega, by go_num, rfl, by rw [HPt.out, Int.natCast_mul]⟩
            case measure => simp [intOf]; omega
          · obtain rfl : j = l.length := by omega
            have ji : ¬ ((l.length : Int) < (l.length : Int)) := by omega
            rw [List.take_length]
            obtain ⟨inB, rB, F, G, dv, E, ln, f, D1, D2, D3, D4, D5, hE, hC⟩ := raw_data gt bt ct nB c3 At A3 l y k o x h6 H32.out HX.out
            generalize prodL l = P at hE ⊢
            go_upto_region 20 with (go_at_call 13; refine (rin_is o k true _ ⟨fun _ => rfl, fun _ => HX.out⟩).mono ?_; rintro e w' ⟨rfl, rfl⟩)
            have E0 : Hid (((nB : Int) == (l.length : Int)) = inZ l y nB 0) := Lib.hid (by
              show _ = decide (nB = l.length)
              rw [Bool.eq_iff_iff]
              simp
              omega)
            go_wp2_with fail
            go_loop [18, 19, 20, 99] (fun inn _ _ i => ∃ (j : Nat) (b : Bool), j ≤ nB ∧ i = .int .i64 j ∧ inn = .bool b ∧ Hid (b = inZ l y nB j)) (fun _ _ _ i => nB - (intOf i).toNat)
            case atStart => exact ⟨0, _, Nat.zero_le _, rfl, rfl, E0⟩
            case round =>
              obtain ⟨j, bb, hj, rfl, rfl, HB⟩ := hrel
              by_cases hlt : j < nB
              · obtain ⟨g, o', rfl, hcell⟩ := Y4.out.at_ hlt
                have ji : (j : Int) < (nB : Int) := by omega
                have j0 : (0 : Int) ≤ (j : Int) := by omega
                have HS : Hid (inZ l y nB (j + 1) = (inZ l y nB j && (decide (0 ≤ y j) && decide (y j < (nth l j : Int))))) := Lib.hid rfl
                cases bb with
                | false =>
                  have HN : Hid (false = inZ l y nB (j + 1)) := Lib.hid (by rw [HS.out, ← HB.out]; rfl)
                  clear HS
                  generalize y j = q at hcell
                  go_wp2_with fail
                  go_round
                  case rel => exact ⟨j + 1, false, by omega, by go_num, rfl, HN⟩
                  case measure => simp [intOf]; omega
                | true =>
                  have hnl : nB = l.length := ((inZ_iff l y nB j).1 HB.out.symm).1
                  obtain ⟨g2, o2, rfl, hcell2⟩ := I4.out.at_ (show j < l.length by omega)
                  have jl : (j : Int) < (l.length : Int) := by omega
                  have HO := HB
                  clear HB hnl
                  generalize y j = q at hcell HS
                  generalize nth l j = u at hcell2 HS
                  by_cases h1 : 0 ≤ q
                  · by_cases h2 : q < (u : Int)
                    · have HN : Hid (true = inZ l y nB (j + 1)) := Lib.hid (by rw [HS.out, ← HO.out]; simp; omega)
                      go_wp2_with fail
                      go_round
                      case rel => exact ⟨j + 1, true, by omega, by go_num, rfl, HN⟩
                      case measure => simp [intOf]; omega
                    · have hd2 : decide (q < (u : Int)) = false := by rw [decide_eq_false_iff_not]; omega
                      have HN : Hid (false = inZ l y nB (j + 1)) := Lib.hid (by rw [HS.out, hd2]; simp)
                      go_wp2_with fail
                      go_round
                      case rel => exact ⟨j + 1, false, by omega, by go_num, rfl, HN⟩
                      case measure => simp [intOf]; omega
                  · have hd1 : decide (0 ≤ q) = false := by rw [decide_eq_false_iff_not]; omega
                    have HN : Hid (false = inZ l y nB (j + 1)) := Lib.hid (by rw [HS.out, hd1]; simp)
                    go_wp2_with fail
                    go_round
                    case rel => exact ⟨j + 1, false, by omega, by go_num, rfl, HN⟩
                    case measure => simp [intOf]; omega
              · obtain rfl : j = nB := by omega
                have ji : ¬ ((j : Int) < (j : Int)) := by omega
                obtain rfl : bb = inB := by rw [HB.out, D1.out.1]
                have PUT := Lib.hid (D2.out w3 T4.out Y4.out)
                go_wp2_with fail
                refine PUT.out.mono ?_
                rintro e w5 ⟨rfl, hT5, hg5⟩
                have B5 := Lib.hid (B3.out.grown hg5 B3.out.size (fun k hk => by injection hk; omega))
                have Y5 := Lib.hid (zs_kept Z3.out Y4.out hg5 hbt)
                have T5 := Lib.hid hT5
                have GET := Lib.hid (D3.out w5 T5.out Y5.out)
                clear hT5 hg5 PUT Y4 I4 T4 B3 I2 HB E0
                go_wp2_with fail
                refine GET.out.mono ?_
                rintro e w6 ⟨rfl, b6⟩
                have T6 := Lib.hid (T5.out.below b6)
                have B6 := Lib.hid (then_ B5.out b6)
                have TAB := Lib.hid (D4.out w6 T6.out)
                clear b6 GET T5 B5 Y5
                go_wp2_with fail
                refine TAB.out.mono ?_
                rintro e w7 ⟨⟨tv, rfl⟩, b7⟩
                have T7 := Lib.hid (T6.out.below b7)
                have B7 := Lib.hid (then_ B6.out b7)
                have LEN := Lib.hid (D5.out w7 T7.out)
                clear b7 TAB T6 B6
                go_upto_region 28 with fail
                obtain ⟨L, hL⟩ : ∃ L : Int, (ln : Int) = L := ⟨_, rfl⟩
                rw [hL] at LEN
                have RI := D1
                have hC' : (bb = false ∧ F = 3 ∧ G = 3) ∨ (bb = true ∧ rB = false ∧ F = 3 ∧ G = 0) ∨ (bb = true ∧ rB = true ∧ F = 0 ∧ G = 0 ∧ dv = x ∧ ((x = o ∧ L = 0) ∨ (x ≠ o ∧ L = 1))) := by
                  rcases hC with h | h | ⟨h1, h2, h3, h4, h5, h6⟩
                  · exact .inl h
                  · exact .inr (.inl h)
                  · exact .inr (.inr ⟨h1, h2, h3, h4, h5, h6.imp (fun h => ⟨h.1, by omega⟩) (fun h => ⟨h.1, by omega⟩)⟩)
                clear hC D1 D2 D3 D4 D5
                go_cut [185] from 133 to 185 (fun v wx => v = .bool false ∧ wx = w7)
                case first =>
                  rcases hE with ⟨rfl, hP⟩ | ⟨rfl, hP⟩
                  · have hPi : (P : Int) ≤ 4096 := by omega
                    rcases hC' with ⟨rfl, rfl, rfl⟩ | ⟨rfl, rfl, rfl, rfl⟩ | ⟨rfl, rfl, rfl, rfl, rfl, hx⟩
                    · go_wp2_with fail
                      go_meet
                      exact ⟨rfl, rfl⟩
                    · go_wp2_with (go_at_call 13; (with_reducible refine (rin_is _ k false _ RI.out.2).mono ?_); rintro e w' ⟨rfl, rfl⟩)
                      go_meet
                      exact ⟨rfl, rfl⟩
                    · rcases hx with ⟨rfl, rfl⟩ | ⟨hx, rfl⟩
                      · go_wp2_with (first
                          | (go_at_call 13; (with_reducible refine (rin_is _ k true _ RI.out.2).mono ?_); rintro e w' ⟨rfl, rfl⟩)
                          | (go_at_call 23; refine LEN.out.mono ?_; rintro e w' ⟨rfl, rfl⟩))
                        go_meet
                        exact ⟨rfl, rfl⟩
                      · have hx1 : (dv != o) = true := by simpa using hx
                        clear hx
                        go_wp2_with (first
                          | (go_at_call 13; (with_reducible refine (rin_is _ k true _ RI.out.2).mono ?_); rintro e w' ⟨rfl, rfl⟩)
                          | (go_at_call 23; refine LEN.out.mono ?_; rintro e w' ⟨rfl, rfl⟩))
                        go_meet
                        exact ⟨rfl, rfl⟩
                  · have hPi : ¬ ((P : Int) ≤ 4096) := by omega
                    have hPd : decide ((P : Int) ≤ 4096) = false := decide_eq_false hPi
                    rcases hC' with ⟨rfl, rfl, rfl⟩ | ⟨rfl, rfl, rfl, rfl⟩ | ⟨rfl, rfl, rfl, rfl, rfl, hx⟩
                    · go_wp2_with fail
                      go_meet
                      exact ⟨rfl, rfl⟩
                    · go_wp2_with (go_at_call 13; (with_reducible refine (rin_is _ k false _ RI.out.2).mono ?_); rintro e w' ⟨rfl, rfl⟩)
                      go_meet
                      exact ⟨rfl, rfl⟩
                    · rcases hx with ⟨rfl, rfl⟩ | ⟨hx, rfl⟩
                      · go_wp2_with (first
                          | (go_at_call 13; (with_reducible refine (rin_is _ k true _ RI.out.2).mono ?_); rintro e w' ⟨rfl, rfl⟩)
                          | (go_at_call 23; refine LEN.out.mono ?_; rintro e w' ⟨rfl, rfl⟩))
                        go_meet
                        exact ⟨rfl, rfl⟩
                      · have hx1 : (dv != o) = true := by simpa using hx
                        clear hx
                        go_wp2_with (first
                          | (go_at_call 13; (with_reducible refine (rin_is _ k true _ RI.out.2).mono ?_); rintro e w' ⟨rfl, rfl⟩)
                          | (go_at_call 23; refine LEN.out.mono ?_; rintro e w' ⟨rfl, rfl⟩))
                        go_meet
                        exact ⟨rfl, rfl⟩
                case rest =>
                  obtain ⟨rfl, rfl⟩ := hcut
                  go_wp2_with (first
                    | (go_at_call 15; with_reducible refine (tpget_nil _ _ _ _).mono ?_; rintro e w' ⟨rfl, rfl⟩)
                    | (go_at_call 22; with_reducible refine (tptable_nil _).mono ?_; rintro e w' ⟨rfl, rfl⟩)
                    | (go_at_call 14; with_reducible refine (tpput_nil _ _ _ _ _).mono ?_; rintro e w' ⟨rfl, rfl⟩)
                    | (go_at_call 24; with_reducible refine (tparity_nil _).mono ?_; rintro e w' ⟨rfl, rfl⟩)
                    | (go_at_call 23; refine (tplen_nil _).mono ?_; rintro e w' ⟨rfl, rfl⟩)
                    | (go_at_call 25; with_reducible refine (tplines_nil _).mono ?_; rintro e w' ⟨rfl, rfl⟩)
                    | (go_at_call 26; with_reducible refine (tpsizes_nil _).mono ?_; rintro e w' ⟨rfl, rfl⟩)
                    | (go_at_call 27; with_reducible refine (tpk_nil _).mono ?_; rintro e w' ⟨rfl, rfl⟩)
                    | (go_at_call 28; with_reducible refine (tpother_nil _).mono ?_; rintro e w' ⟨rfl, rfl⟩)
                    | (go_at_call 29; with_reducible refine (tpof_nil _).mono ?_; rintro e w8 ⟨rfl, b8⟩; have B8 := Lib.hid (then_ B7.out b8); clear b8)
                    | (go_at_call 21; (with_reducible refine (tpsame_nn _).mono ?_); rintro e w' ⟨rfl, rfl⟩)
                    | (go_at_call 21; (with_reducible refine (tpsame_nu _ _).mono ?_); rintro e w' ⟨rfl, rfl⟩))
                  go_ret
                  exact ⟨rfl, B8.out⟩
      · have HN := Lib.hid (tpnew_range A2 l.length c2 l k o wc rfl h6 I2.out H32.out hok)
        have HX := Lib.hid hok
        clear hok
        go_wp2_with fail
        refine HN.out.mono ?_
        rintro e w3 ⟨rfl, b3⟩
        have B3 := Lib.hid (then_ B2.out b3)
        have I4 := Lib.hid (I2.out.below b3 (Nat.le_refl _))
        clear b3 HN
        go_wp2_with fail
        go_loop [13, 14, 16, 57] (fun ok count _ i => ∃ j : Nat, j ≤ l.length ∧ i = .int .i64 j ∧ ok = .bool true ∧ count = .int .i64 (prodL (l.take j) : Nat)) (fun _ _ _ i => l.length - (intOf i).toNat)
        case atStart => exact ⟨0, Nat.zero_le _, rfl, rfl, rfl⟩
        case round =>
          obtain ⟨j, hj, rfl, rfl, rfl⟩ := hrel
          by_cases hlt : j < l.length
          · obtain ⟨g, o', rfl, hcell⟩ := I4.out.at_ hlt
            have hx := H32.out _ (nth_mem hlt)
            have HPt := Lib.hid (prod_take l hlt)
            have hmm : prodL (l.take j) * nth l j ≤ 1073741824 := by rw [← HPt.out]; exact take_le h6 (fun n hn => (H32.out n hn).2) (j + 1)
            have hm1 : ((prodL (l.take j) : Nat) : Int) * (nth l j : Int) ≤ 1073741824 := by rw [← Int.natCast_mul]; omega
            have hm2 : 0 ≤ ((prodL (l.take j) : Nat) : Int) * (nth l j : Int) := by rw [← Int.natCast_mul]; omega
            clear hmm
            generalize nth l j = N at hcell hx HPt hm1 hm2
            generalize prodL (l.take j) = D at HPt hm1 hm2
            obtain ⟨hx1, hx2⟩ := hx
            have hx1' : (1 : Int) ≤ (N : Int) := by omega
            have hx2' : (N : Int) ≤ 32 := by omega
            have ji : (j : Int) < (l.length : Int) := by omega
            have j0 : (0 : Int) ≤ (j : Int) := by omega
            go_wp2_with fail
            go_round
            case rel => exact ⟨j + 1, by omega, by go_num, rfl, by rw [HPt.out, Int.natCast_mul]⟩
            case measure => simp [intOf]; omega
          · obtain rfl : j = l.length := by omega
            have ji : ¬ ((l.length : Int) < (l.length : Int)) := by omega
            rw [List.take_length]
            go_wp2_with (go_at_call 13; refine (rin_is o k false _ ⟨fun h => absurd h HX.out, fun h => by cases h⟩).mono ?_; rintro e w' ⟨rfl, rfl⟩)
            go_ret
            exact ⟨rfl, B3.out⟩
end Go.Proofs.Ytliafkcogmpghaa
