/- The walk of TableOuts (no statement of its own). Condition: the library's table reads as its initialiser lays it. -/
import Derived.Test.YtamodeglpkgiaaaDoorTe3
namespace Go.Proofs.YtamodeglpkgiaaaDoor
open Go.RowKit
set_option linter.unusedVariables false
open Dm (Mem mem setV setO Tab)
abbrev HoldD (wb : World) (b D n cs N gs os p s : Nat) (B : Nat) (W : World) : Prop :=
  W.cell? ⟨b, 0, none⟩ = some (.slice (some ⟨gs, os, none⟩) n cs) ∧ W.cell? ⟨gs, os + p, none⟩ = some (.int .i64 (s : Int)) ∧ W.cell? ⟨D, 0, none⟩ = some (.int .i64 (N : Int)) ∧ W.cell? ⟨D, 1, none⟩ = some (.int .u32 (B : Int)) ∧ Below wb.heap.size wb W
theorem holdD {wb W W' : World} {b D n cs N gs os p s B : Nat} (H : HoldD wb b D n cs N gs os p s B W) (hb : Below W.heap.size W W') : HoldD wb b D n cs N gs os p s B W' := by
  obtain ⟨a0, a1, a2, a3, h9⟩ := H
  have K : ∀ b i v, W.cell? ⟨b, i, none⟩ = some v → W'.cell? ⟨b, i, none⟩ = some v := fun b i v h => (hb.cell (p := ⟨b, i, none⟩) (World.block_lt_of_cell? W _ h)).trans h
  exact ⟨K _ _ _ a0, K _ _ _ a1, K _ _ _ a2, K _ _ _ a3, h9.trans (hb.mono h9.size)⟩
theorem HoldD.below {wb W : World} {b D n cs N gs os p s B : Nat} (H : HoldD wb b D n cs N gs os p s B W) : Below wb.heap.size wb W := H.2.2.2.2
set_option maxRecDepth 100000 in
set_option maxHeartbeats 16000000 in
theorem outs_walk (A L : Option Addr) (n c m mc : Nat) (z y : Nat → Int) (a pos b size : Int) (w : World) (hT : Tab w) (hn : (n : Int) ≤ 9223372036854775807) (hz : Bytes w A n z) (ha0 : 0 ≤ a) (ha1 : a ≤ 65535) (hm : (m : Int) ≤ 9223372036854775807) (hL : Words w L m y) (hb0 : 0 ≤ b) (hb1 : b ≤ 4294967295) :
    Calls Tryd.prog 5 #[.slice A n c, .int .u16 a, .slice L m mc, .int .i64 pos, .int .u32 b, .int .i64 size] w fun e w' => e = .returned (.bool true) ∧ Below w.heap.size w w' := by
  have HTab := Lib.hid hT
  have HZ := Lib.hid hz
  have HL := Lib.hid hL
  clear hT hz hL
  go_enter Tryd.func5, Tryd.ntmps5
  go_wp2_with fail
  refine (awake4_true w HTab.out).mono ?_
  rintro e w1 ⟨rfl, b1⟩
  have B1 := Lib.hid b1
  clear b1
  go_wp2_with fail
  refine (top_any a w1 ha0 ha1).mono ?_
  rintro e w' ⟨rfl, rfl⟩
  obtain ⟨k, hk⟩ : ∃ k, 1 + a % 200 = k := ⟨_, rfl⟩
  have hk1 : 1 ≤ k := by omega
  have hk2 : k ≤ 200 := by omega
  rw [hk]
  clear hk
  obtain ⟨l, hl⟩ : ∃ l, smL z (min n 3) = l := ⟨_, rfl⟩
  obtain ⟨P, hP⟩ : ∃ P, prodL l = P := ⟨_, rfl⟩
  have hP64 : 1 ≤ P ∧ P ≤ 64 := by rw [← hP, ← hl]; exact smL_prod z _ (by omega)
  have hl3 : l.length ≤ 3 := by rw [← hl, smL_len]; omega
  have hls : ∀ x ∈ l, 1 ≤ x ∧ x ≤ 32 := fun x hx => by rw [← hl] at hx; have := smL_small z _ x hx; omega
  have MD := Lib.hid (made_any A L n c m mc P l z y k w1 hn (HZ.out.below B1.out) hm (HL.out.below B1.out) hk1 (by omega) hl hP)
  have HP := Lib.hid hP
  have HLS := Lib.hid hls
  clear hl hP hls
  obtain ⟨hP1, hP4⟩ := hP64
  go_wp2_with fail
  refine MD.out.mono ?_
  rintro e w2 ⟨g, h, As, cs, Ac, cc, rfl, hTb, hI, hcs, hZc, hg, hh, b2⟩
  clear MD
  have n3 := new_val w2 (.cells #[.slice As l.length cs, .int .i64 k, .slice Ac P cc] 31)
  have S3 : Hid (TwS w w2.heap.size g h As cs Ac cc P l k (mkC k y m) (w2.alloc (.cells #[.slice As l.length cs, .int .i64 k, .slice Ac P cc] 31))) :=
    Lib.hid ⟨heap_alloc_new w2 _, hTb.below n3, hI.below n3 (Nat.le_refl _), hZc.below n3 (Nat.le_refl _), (HTab.out.below B1.out HTab.out.pos).below ((b2.trans (n3.mono b2.size))) (Nat.lt_of_lt_of_le HTab.out.pos B1.out.size), then_ (then_ B1.out b2) n3⟩
  generalize mkC k y m = zt at S3
  clear hTb hI hZc hg hh b2 n3
  go_upto_region 4 with fail
  generalize w2.alloc (.cells #[.slice As l.length cs, .int .i64 k, .slice Ac P cc] 31) = w3 at S3 ⊢
  generalize w2.heap.size = bx at S3 ⊢
  have x0 := S3.out.c0
  obtain ⟨nl, hnl⟩ : ∃ nl, l.length = nl := ⟨_, rfl⟩
  have HNL := Lib.hid hnl
  rw [hnl] at x0 hl3 hcs
  clear hnl
  go_upto_region 5 with fail
  go_cut [49] from 36 to 49 (fun v49 wx => wx = w3 ∧ ∃ t : Bool, v49 = .bool t ∧ (t = true → 0 ≤ pos ∧ pos < (nl : Int)))
  case first =>
    by_cases hp : 0 ≤ pos ∧ pos < (nl : Int)
    · have HPP := Lib.hid hp
      obtain ⟨hp0, hp1⟩ := hp
      go_wp2_with fail
      go_meet
      case rel => exact ⟨rfl, _, rfl, fun _ => HPP.out⟩
    · by_cases hp0 : 0 ≤ pos
      · have hp1 : ¬ pos < (nl : Int) := by omega
        clear hp
        go_wp2_with fail
        go_meet
        case rel => exact ⟨rfl, _, rfl, fun h => by simp at h⟩
      · clear hp
        go_wp2_with fail
        go_meet
        case rel => exact ⟨rfl, _, rfl, fun h => by simp at h⟩
  case rest =>
  obtain ⟨rfl, t, rfl, ht⟩ := hcut
  have HTT := Lib.hid ht
  clear ht
  go_upto_if 49 with fail
  go_cut [15] from 50 to 54 (fun v15 wx => wx = wc ∧ ∃ q : Int, v15 = .int .i64 q)
  case first =>
    cases t with
    | false =>
      go_wp2_with fail
      go_meet
      case rel => exact ⟨rfl, _, rfl⟩
    | true =>
      obtain ⟨hp0, hp1⟩ := HTT.out rfl
      obtain ⟨p, rfl⟩ : ∃ p : Nat, pos = p := ⟨pos.toNat, by omega⟩
      obtain ⟨gs, os, rfl, hip⟩ := S3.out.i.at_ (i := p) (by rw [HNL.out]; omega)
      have x0 := S3.out.c0
      rw [HNL.out] at x0
      go_wp2_with fail
      go_meet
      case rel => exact ⟨rfl, _, rfl⟩
  case rest =>
  obtain ⟨rfl, q, rfl⟩ := hcut
  rename World => w3
  clear HTT
  obtain ⟨N, eN, hN, hNW⟩ := dnew_any q
  have HNW := Lib.hid hNW
  clear hNW
  go_wp2_with fail
  refine (HNW.out _).mono ?_
  rintro e w4 ⟨rfl, b4⟩
  have S4 := Lib.hid (S3.out.next b4)
  clear x0 b4 HNW
  have n5 := new_val w4 (setO N (2 ^ N - 1))
  have S5 := Lib.hid (S4.out.next n5)
  have B5 := Lib.hid n5
  have D5 : Hid ((w4.alloc (setO N (2 ^ N - 1))).heap[w4.heap.size]? = some (setO N (bitB b.toNat N 0))) := Lib.hid (heap_alloc_new w4 (setO N (2 ^ N - 1)))
  have hz5 : w4.heap.size < (w4.alloc (setO N (2 ^ N - 1))).heap.size := by simp
  clear n5
  go_upto_region 9 with fail
  generalize w4.alloc (setO N (2 ^ N - 1)) = w5 at S5 D5 B5 hz5 ⊢
  obtain ⟨da, db⟩ := set_cells D5.out
  go_upto_region 10 with (go_at_call 23; refine (Dm.size_any N _ _).mono ?_; rintro e w6 ⟨rfl, b6⟩; have B6 := Lib.hid (B5.out.trans (b6.mono (by omega))); have D6 := Lib.hid (set_next D5.out b6); have hz6 : w4.heap.size < w6.heap.size := (by have := b6.size; omega); clear b6)
  clear da db
  have V6 : Hid (OutV w6 w4.heap.size N b.toNat 0 (.slice none 0 0) w6) := Lib.hid ⟨Kept2.refl _ _ _, D6.out, World.ownsRow_nil _ _ _ _⟩
  go_loopw [18, 62] (fun v18 i wr => ∃ j : Nat, j ≤ N ∧ i = .int .i64 (j : Int) ∧ OutV w6 w4.heap.size N b.toNat j v18 wr) (fun _ i _ => N - (intOf i).toNat)
  case atStart => exact ⟨0, Nat.zero_le _, rfl, V6.out⟩
  case round =>
    obtain ⟨j, hj, rfl, hV⟩ := hrel
    have HV := Lib.hid hV
    clear hV
    by_cases hlt : j < N
    · have j1 : (j : Int) < (N : Int) := by omega
      have j2 : (0 : Int) ≤ (j : Int) := by omega
      have hbt := bit_test b j hb0 hb1
      cases htb : b.toNat.testBit j with
      | true =>
        rw [htb] at hbt
        go_wp2_with (at_builtin; refine push_own rfl (.tmp 70) (.tmp 72) rfl wr w6.heap.size u18 (bitL b.toNat j) _ j rfl rfl rfl HV.out.own HV.out.kept.size (by have := bitL_len b.toNat j; omega) ?_; intro v' w' ho hb; have HN := Lib.hid (HV.out.push hz6 hb htb ho); clear ho hb)
        go_roundw
        case rel => exact ⟨j + 1, by omega, by go_num, HN.out⟩
        case measure => simp [intOf]; omega
      | false =>
        rw [htb] at hbt
        obtain ⟨da, db⟩ := set_cells HV.out.row
        have hB := bitB_fit b.toNat N hN j (by omega)
        have DR := Lib.hid (Dm.drop_yes N (bitB b.toNat N j) j wr hlt hN hB)
        clear hB
        go_upto_region 15 with (first | (go_at_call 24; refine DR.out.mono ?_; rintro e w' ⟨rfl, b7⟩; have HN := Lib.hid (HV.out.drop hz6 b7 htb); have R7 := Lib.hid (set_next HV.out.row b7); clear b7 da db) | ((with_reducible show wpList _ _ _ (Oper.mk none (.store 55 _ _) _ _ _ _ :: _) _ _); refine wpList_store_row rfl 55 (.tmp 16) (.tmp 76) rfl w4.heap.size #[.int .i64 (N : Int), .int .u32 (Dm.dropN (bitB b.toNat N j) j : Int)] rfl rfl 55 #[.int .i64 (N : Int), .int .u32 (bitB b.toNat N j : Int)] R7.out (by kernel_rfl) rfl (by simp [Value.oneCell']) ?_))
        go_wp2_with fail
        go_roundw
        case rel => exact ⟨j + 1, by omega, by go_num, HN.out⟩
        case measure => simp [intOf]; omega
    · have jj : ¬ (j : Int) < (N : Int) := by omega
      obtain rfl : N = j := by omega
      have hBf := bitB_fit b.toNat N hN N (Nat.le_refl _)
      have hBm := bitB_mem b.toNat N hN
      have BW : Hid (Below w4.heap.size w4 wr) := Lib.hid (HV.out.kept.below B6.out (Nat.le_refl _) (Nat.le_refl _) (Nat.le_refl _))
      have SR := Lib.hid (S4.out.next BW.out)
      have DR := Lib.hid HV.out.row
      obtain ⟨Av, cv, rfl, hIv⟩ := HV.out.own.form
      have IV := Lib.hid hIv
      have hvl : ∀ v ∈ bitL b.toNat N, v < N := fun v hv => bitL_lt hv
      have hvn := bitL_len b.toNat N
      obtain ⟨da, db⟩ := set_cells DR.out
      generalize bitB b.toNat N N = Bf at hBf hBm DR da db
      generalize bitL b.toNat N = vs at hBm IV hvl hvn
      have HVL := Lib.hid hvl
      have HBM := Lib.hid hBm
      clear hIv HV V6 D6 B6 D5 B5 S5 hvl hBm hj hlt jj
      by_cases hp : 0 ≤ pos ∧ pos < (nl : Int)
      · obtain ⟨hp0, hp1⟩ := hp
        obtain ⟨p, rfl⟩ : ∃ p : Nat, pos = p := ⟨pos.toNat, by omega⟩
        have hpl : p < l.length := by rw [HNL.out]; omega
        have q0 : ¬ ((p : Int) < 0) := by omega
        have q1 : ¬ ((nl : Int) ≤ (p : Int)) := by omega
        have q2 : (p : Int) < (nl : Int) := by omega
        have q3 : p < nl := by omega
        by_cases hs : N = nth l p
        · obtain ⟨P1, hP1e⟩ : ∃ P1, prodL (l.eraseIdx p) = P1 := ⟨_, rfl⟩
          have hP64 : P1 ≤ 64 := by
            have h1 := prodL_erase hpl
            have h2 := HP.out
            have h3 := nth_pos (fun n hn => (HLS.out n hn).1) hpl
            have h4 : 1 * prodL (l.eraseIdx p) ≤ nth l p * prodL (l.eraseIdx p) := Nat.mul_le_mul_right _ h3
            omega
          have HEL : Hid ((l.eraseIdx p).length = nl - 1) := Lib.hid (by have := erase_len hpl; have := HNL.out; omega)
          have OK := Lib.hid (out_ok g h p N Bf P1 l k p zt wr SR.out.t SR.out.tab (by rw [HNL.out]; omega) HLS.out (by rw [HP.out]; omega) hpl rfl hs.symm hBf hk1 (by omega) hP1e)
          have HVS : Hid (∀ v ∈ vs, v < nth l p) := Lib.hid (by rw [← hs]; exact HVL.out)
          have HP1 := Lib.hid hP1e
          have HS := Lib.hid hs
          have HPL := Lib.hid hpl
          have HBF := Lib.hid hBf
          have d1 : ((N : Int) != (N : Int)) = false := by simp
          have d2 : decide ((p : Int) < 0) = false := by simp
          have d3 : decide (nl ≤ p) = false := by simp; omega
          have d4 : decide ((nl : Int) ≤ (p : Int)) = false := by simp; omega
          clear hpl hs hP1e hBf
          go_wp2_with fail
          refine OK.out.mono ?_
          rintro e w7 ⟨g', h', gb, rfl, hT7, hZ7, -, -, -, b7⟩
          rw [HBM.out] at hT7 hZ7
          have S7 := Lib.hid (SR.out.next b7)
          have T7 := Lib.hid hT7
          have Z7 := Lib.hid hZ7
          have V7 := Lib.hid (IV.out.below b7 (Nat.le_refl _))
          have x0 := S7.out.c0
          rw [HNL.out] at x0
          obtain ⟨ga, oa, rfl, hip⟩ := S7.out.i.at_ HPL.out
          rw [← HS.out] at hip
          obtain ⟨ea, eb⟩ := set_cells (set_next DR.out b7)
          have HD : Hid (HoldD w7 bx w4.heap.size nl cs N ga oa p N Bf w7) := Lib.hid ⟨x0, hip, ea, eb, Below.refl _ _⟩
          clear b7 da db x0 hip ea eb hT7 hZ7 OK
          go_upto_region 17 with fail
          go_region_held3 (fun W => HoldD w7 bx w4.heap.size nl cs N ga oa p N Bf W) (first | exact holdD HD.out ((Below.refl _ _).drew) | exact holdD (by assumption) (by assumption))
            ((first | (go_at_call 23; refine (Dm.size_any N Bf _).mono ?_; rintro e w8 ⟨rfl, hb⟩) | fail))
          have B8 := Lib.hid (HoldD.below (by assumption))
          have S8 := Lib.hid (S7.out.next B8.out)
          have T8 := Lib.hid (T7.out.below B8.out)
          have Z8 := Lib.hid (Z7.out.below B8.out (Nat.le_refl _))
          have V8 := Lib.hid (V7.out.below B8.out (Nat.le_refl _))
          have x0 := S8.out.c0
          have x1 := S8.out.c1
          have x2 := S8.out.c2
          rw [HNL.out] at x0
          have RO := Lib.hid (rout_any (some ⟨ga, oa, none⟩) Ac Av cs cc cv p vs.length P1 P l vs k zt w8 (by rw [HNL.out]; omega) (by rw [HNL.out]; omega) HLS.out HP.out (by omega) HPL.out rfl (by omega) HVS.out HP1.out S8.out.i S8.out.c V8.out)
          rw [HNL.out] at RO
          clear d1 d2 d3 d4
          go_wp2_with fail
          refine RO.out.mono ?_
          rintro e w9 ⟨⟨A1, c1, A2, c2, A3, c3, rfl, hI1, hc1, hZ2, hZ3⟩, b9⟩
          have n10 := new_val w9 (.cells #[.slice A1 (nl - 1) c1, .int .i64 k, .slice A2 P1 c2] 31)
          have Y10 := Lib.hid (heap_alloc_new w9 (.cells #[.slice A1 (nl - 1) c1, .int .i64 k, .slice A2 P1 c2] 31))
          have S10 := Lib.hid ((S8.out.next b9).next n10)
          have T10 := Lib.hid ((T8.out.below b9).below n10)
          have Z10 := Lib.hid ((Z8.out.below b9 (Nat.le_refl _)).below n10 (Nat.le_refl _))
          have I1 := Lib.hid (hI1.below n10 (Nat.le_refl _))
          have Z2 := Lib.hid (hZ2.below n10 (Nat.le_refl _))
          have Z3 := Lib.hid (hZ3.below n10 (Nat.le_refl _))
          clear n10 b9 hI1 hc1 hZ2 hZ3 x0 x1 x2 RO HD S7 T7 Z7 V7 S8 T8 Z8 V8
          go_upto_region 20 with fail
          generalize w9.alloc (.cells #[.slice A1 (nl - 1) c1, .int .i64 k, .slice A2 P1 c2] 31) = w10 at Y10 S10 T10 Z10 I1 Z2 Z3 ⊢
          generalize w9.heap.size = by9 at Y10 ⊢
          have LY := Lib.hid (like_yes g' h' c1 c2 P1 A1 A2 (l.eraseIdx p) k _ w10 T10.out I1.out Z2.out HP1.out (by omega) (by rw [HEL.out]; omega))
          rw [HEL.out] at LY
          have y0 : w10.cell? ⟨by9, 0, none⟩ = some (.slice A1 (nl - 1) c1) := by rw [cell_of_row _ _ _ _ _ _ Y10.out]; rfl
          have y1 : w10.cell? ⟨by9, 1, none⟩ = some (.int .i64 k) := by rw [cell_of_row _ _ _ _ _ _ Y10.out]; rfl
          have y2 : w10.cell? ⟨by9, 2, none⟩ = some (.slice A2 P1 c2) := by rw [cell_of_row _ _ _ _ _ _ Y10.out]; rfl
          go_wp2_with fail
          refine LY.out.mono ?_
          rintro e w11 ⟨rfl, b11⟩
          have S11 := Lib.hid (S10.out.next b11)
          have Z11 := Lib.hid (Z10.out.below b11 (Nat.le_refl _))
          have Z12 := Lib.hid (Z3.out.below b11 (Nat.le_refl _))
          clear b11 y0 y1 y2 LY
          go_wp2_with fail
          refine (eqz_yes _ _ P1 _ _ _ _ (by omega) Z11.out Z12.out).mono ?_
          rintro e w12 ⟨rfl, b12⟩
          have S12 := Lib.hid (S11.out.next b12)
          clear b12
          have LX := Lib.hid (like_yes g h cs cc P (some ⟨ga, oa, none⟩) Ac l k _ w12 S12.out.t S12.out.i S12.out.c HP.out (by omega) (by rw [HNL.out]; omega))
          rw [HNL.out] at LX
          have x0 := S12.out.c0
          have x1 := S12.out.c1
          have x2 := S12.out.c2
          rw [HNL.out] at x0
          go_wp2_with fail
          refine LX.out.mono ?_
          rintro e w13 ⟨rfl, b13⟩
          have S13 := Lib.hid (S12.out.next b13)
          clear b13 x0 x1 x2 LX
          go_wp2_with fail
          go_ret
          exact ⟨rfl, S13.out.bel⟩
        · obtain ⟨s, hsv⟩ : ∃ s, nth l p = s := ⟨_, rfl⟩
          rw [hsv] at hs
          have OE := Lib.hid (out_err g h N Bf l k p zt s wr SR.out.t (fun W => by rw [← hsv]; exact size_yes l p W (by rw [HNL.out]; omega) hpl) (.inr (fun e => hs e.symm)))
          have HSV := Lib.hid hsv
          have d1 : ((N : Int) != (s : Int)) = true := by rw [bne_iff_ne]; omega
          have d2 : decide ((p : Int) < 0) = false := by simp
          have d3 : decide (nl ≤ p) = false := by simp; omega
          have d4 : decide ((nl : Int) ≤ (p : Int)) = false := by simp; omega
          have HPL := Lib.hid hpl
          clear hpl hsv hs
          go_wp2_with fail
          refine OE.out.mono ?_
          rintro e w7 ⟨rfl, b7⟩
          have S7 := Lib.hid (SR.out.next b7)
          have x0 := S7.out.c0
          rw [HNL.out] at x0
          obtain ⟨ga, oa, rfl, hip⟩ := S7.out.i.at_ HPL.out
          rw [HSV.out] at hip
          obtain ⟨ea, eb⟩ := set_cells (set_next DR.out b7)
          have HD : Hid (HoldD w7 bx w4.heap.size nl cs N ga oa p s Bf w7) := Lib.hid ⟨x0, hip, ea, eb, Below.refl _ _⟩
          clear b7 da db x0 hip ea eb
          go_upto_region 17 with fail
          go_region_held3 (fun W => HoldD w7 bx w4.heap.size nl cs N ga oa p s Bf W) (first | exact holdD HD.out ((Below.refl _ _).drew) | exact holdD (by assumption) (by assumption))
            ((first | (go_at_call 23; refine (Dm.size_any N Bf _).mono ?_; rintro e w8 ⟨rfl, hb⟩) | fail))
          go_wp2_with fail
          go_ret
          exact ⟨rfl, then_ S7.out.bel (HoldD.below (by assumption))⟩
      · have hpo : pos < 0 ∨ (l.length : Int) ≤ pos := by rw [HNL.out]; omega
        have OE := Lib.hid (out_err g h N Bf l k pos zt 0 wr SR.out.t (fun W => size_no l pos W hpo) (.inl rfl))
        by_cases hp0 : pos < 0
        · clear hpo hp
          go_wp2_with fail
          refine OE.out.mono ?_
          rintro e w7 ⟨rfl, b7⟩
          have S7 := Lib.hid (SR.out.next b7)
          have d0 : decide (pos < 0) = true := by simpa using hp0
          clear b7 da db
          go_upto_region 17 with fail
          go_quiet (fail)
          go_wp2_with fail
          go_ret
          exact ⟨rfl, next_drewN S7.out.bel _⟩
        · have hp1 : (nl : Int) ≤ pos := by omega
          clear hpo hp
          go_wp2_with fail
          refine OE.out.mono ?_
          rintro e w7 ⟨rfl, b7⟩
          have S7 := Lib.hid (SR.out.next b7)
          have x0 := S7.out.c0
          rw [HNL.out] at x0
          have d0 : decide (pos < 0) = false := by simpa using hp0
          have d1 : decide ((nl : Int) ≤ pos) = true := by simpa using hp1
          clear b7 da db
          go_upto_region 17 with fail
          go_quiet (fail)
          go_wp2_with fail
          go_ret
          exact ⟨rfl, next_drewN S7.out.bel _⟩
end Go.Proofs.YtamodeglpkgiaaaDoor
