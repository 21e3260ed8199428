/- The walk of TablePlays (no statement of its own). Condition: the library's table reads as its initialiser lays it. -/
import Derived.Test.YtamodeglpkgiaaaDoorTp3
namespace Go.Proofs.YtamodeglpkgiaaaDoor
open Go.RowKit
set_option linter.unusedVariables false
open Dm (Mem mem setV setO Tab)
attribute [local go_sem ↓] run_mn2
set_option maxRecDepth 100000 in
set_option maxHeartbeats 16000000 in
theorem plays_walk (A L : Option Addr) (n c m mc : Nat) (z y : Nat → Int) (a : Int) (AA : Option Addr) (na ca : Nat) (w : World) (hT : Tab w) (hn : (n : Int) ≤ 9223372036854775807) (hz : Bytes w A n z) (ha0 : 0 ≤ a) (ha1 : a ≤ 65535) (hm : (m : Int) ≤ 9223372036854775807) (hL : Words w L m y)
    (hA : Acts w AA na) (hna : (na : Int) ≤ 9223372036854775807) :
    Calls Tryd.prog 3 #[.slice A n c, .int .u16 a, .slice L m mc, .slice AA na ca] w fun e w' => e = .returned (.bool true) ∧ Below w.heap.size w w' := by
  have HTab := Lib.hid hT
  have HZ := Lib.hid hz
  have HL := Lib.hid hL
  have HA := Lib.hid hA
  clear hT hz hL hA
  go_enter Tryd.func3, Tryd.ntmps3
  go_wp2_with fail
  refine (awake4_true w HTab.out).mono ?_
  rintro e w1 ⟨rfl, b1⟩
  have B1 := Lib.hid b1
  clear b1
  go_wp2_with fail
  refine (top_any a w1 ha0 ha1).mono ?_
  rintro e w' ⟨rfl, rfl⟩
  obtain ⟨k, hk⟩ : ∃ k, 1 + a % 200 = k := ⟨_, rfl⟩
  have hk1 : 1 ≤ k := by omega
  have hk2 : k ≤ 200 := by omega
  rw [hk]
  clear hk
  obtain ⟨l, hl⟩ : ∃ l, smL z (min n 3) = l := ⟨_, rfl⟩
  obtain ⟨P, hP⟩ : ∃ P, prodL l = P := ⟨_, rfl⟩
  have hP64 : 1 ≤ P ∧ P ≤ 64 := by rw [← hP, ← hl]; exact smL_prod z _ (by omega)
  have hl3 : l.length ≤ 3 := by rw [← hl, smL_len]; omega
  have hls : ∀ x ∈ l, 1 ≤ x ∧ x ≤ 32 := fun x hx => by rw [← hl] at hx; have := smL_small z _ x hx; omega
  have MD := Lib.hid (made_own A L n c m mc P l z y k w1 hn (HZ.out.below B1.out) hm (HL.out.below B1.out) hk1 (by omega) hl hP)
  have HP := Lib.hid hP
  have HLS := Lib.hid hls
  have HIN : Hid (∀ i, i < P → 0 ≤ mkC k y m i ∧ mkC k y m i ≤ k) := Lib.hid fun i _ => mkC_in hk1 (fun him => by obtain ⟨_, _, _, _, h1, _⟩ := HL.out i him; exact h1)
  clear hl hP hls
  obtain ⟨hP1, hP4⟩ := hP64
  go_wp2_with fail
  refine MD.out.mono ?_
  rintro e w2 ⟨g, h, As, cs, gc, cc, rfl, hTb, hI, hcs, hC, hg, hh, hgc, hne, hAb, b2⟩
  clear MD
  have n3 := new_val w2 (.cells #[.slice As l.length cs, .int .i64 k, .slice (some ⟨gc, 0, none⟩) P cc] 31)
  have hgs : g < w2.heap.size := (Array.getElem?_eq_some_iff.1 hTb.row).1
  have hhs : h < w2.heap.size := by obtain ⟨cur, hc, _⟩ := hTb.costs; exact (Array.getElem?_eq_some_iff.1 hc).1
  have hcs2 : gc < w2.heap.size := by obtain ⟨cur, hc, _⟩ := hC; exact (Array.getElem?_eq_some_iff.1 hc).1
  have hggc : g ≠ gc := fun e => by
    obtain ⟨cur, hc, _⟩ := hC
    rw [← e] at hc
    have := hTb.row.symm.trans hc
    simp at this
  have PB : Hid (PlB w w2.heap.size g h gc As) := Lib.hid ⟨Nat.le_trans B1.out.size hh, Nat.le_trans B1.out.size hgc, hne, by omega, by omega, hTb.apart, hggc, fun a ha => ⟨by have := (hAb a ha).1; omega, (hAb a ha).2⟩⟩
  have S3 : Hid (PlS w w2.heap.size g h gc As l.length cs cc P l k (mkC k y m) (w2.alloc (.cells #[.slice As l.length cs, .int .i64 k, .slice (some ⟨gc, 0, none⟩) P cc] 31))) :=
    Lib.hid ⟨heap_alloc_new w2 _, hTb.below n3, hI.below n3 (Nat.le_refl _), (by obtain ⟨cur, hc, h1, h2⟩ := hC; exact ⟨cur, (n3.block _ (Array.getElem?_eq_some_iff.1 hc).1).trans hc, h1, h2⟩), then_ (then_ B1.out b2) n3, HIN.out⟩
  generalize mkC k y m = zt at S3
  clear hTb hI hC hg hh hgc hne hAb b2 n3 HIN hgs hhs hcs2 hggc
  go_upto_region 4 with fail
  generalize w2.alloc (.cells #[.slice As l.length cs, .int .i64 k, .slice (some ⟨gc, 0, none⟩) P cc] 31) = w3 at S3 ⊢
  generalize w2.heap.size = bx at S3 PB ⊢
  obtain ⟨nl, hnl⟩ : ∃ nl, l.length = nl := ⟨_, rfl⟩
  have HNL := Lib.hid hnl
  rw [hnl] at S3 hl3 hcs
  clear hnl
  go_upto_region 5 with fail
  go_loopw [30] (fun i wr => ∃ (j : Nat) (f : Nat → Int), j ≤ na ∧ i = .int .i64 (j : Int) ∧ PlS w bx g h gc As nl cs cc P l k f wr) (fun i _ => na - (intOf i).toNat)
  case atStart => exact ⟨0, zt, Nat.zero_le _, rfl, S3.out⟩
  case round =>
    obtain ⟨j, f, hj, rfl, hM⟩ := hrel
    have HM := Lib.hid hM
    clear hM
    by_cases hlt : j < na
    · have j1 : (j : Int) < (na : Int) := by omega
      have j2 : (0 : Int) ≤ (j : Int) := by omega
      obtain ⟨p, d, ta, tn, tc, o, cv, rfl, hJ⟩ := HA.out j hlt
      have HJ := Lib.hid (hJ.below HM.out.bel)
      clear hJ
      have a0 := HJ.out.c0
      have a1 := HJ.out.c1
      have a2 := HJ.out.c2
      have n4 := new_val wr (.cells #[.int .u8 d, .slice ta tn tc, .int .i64 cv] 36)
      have S4 := Lib.hid (HM.out.next n4)
      have X4 := Lib.hid (heap_alloc_new wr (.cells #[.int .u8 d, .slice ta tn tc, .int .i64 cv] 36))
      obtain ⟨mo, hmo⟩ : ∃ mo, min tn 5 = mo := ⟨_, rfl⟩
      have hmn : mn2 tn 5 = mo := by unfold mn2; omega
      have XT := Lib.hid ((HJ.out.x.below n4).less (m := mo) (by omega))
      have hd0 := HJ.out.d0
      have hd1 := HJ.out.d1
      have hmi : (mo : Int) ≤ (tc : Int) := by have := HJ.out.cap; omega
      have hm0 : 0 ≤ (mo : Int) := by omega
      have hm5 : mo ≤ 5 := by omega
      have HBH : Hid (wr.heap.size ≠ h) := Lib.hid (by obtain ⟨cur, hc, _⟩ := HM.out.t.costs; have := (Array.getElem?_eq_some_iff.1 hc).1; omega)
      have HBG : Hid (wr.heap.size ≠ gc) := Lib.hid (by obtain ⟨cur, hc, _⟩ := HM.out.c; have := (Array.getElem?_eq_some_iff.1 hc).1; omega)
      clear n4 hmo
      go_upto_region 7 with fail
      generalize wr.alloc (.cells #[.int .u8 d, .slice ta tn tc, .int .i64 cv] 36) = w4 at S4 X4 XT ⊢
      clear a0 a1 a2 HJ HM
      generalize wr.heap.size = b12 at X4 HBH HBG ⊢
      by_cases h30 : 30 ≤ j
      · have d30 : decide (30 ≤ (j : Int)) = true := by simp; omega
        clear hmn hmi hm0
        go_wp2_with fail
        go_ret
        exact ⟨rfl, S4.out.bel⟩
      · have d30 : decide (30 ≤ (j : Int)) = false := by simp; omega
        have e1 : w4.cell? ⟨b12, 1, none⟩ = some (.slice ta tn tc) := by rw [cell_of_row _ _ _ _ _ _ X4.out]; rfl
        go_wp2_with fail
        refine (clone_ext ta mo tc o w4 (by omega) XT.out).mono ?_
        rintro e w5 ⟨⟨At, ct, rfl, hzo⟩, b5⟩
        have S5 := Lib.hid (S4.out.next b5)
        have X5 : Hid (w5.heap[b12]? = _) := Lib.hid ((b5.block b12 (Array.getElem?_eq_some_iff.1 X4.out).1).trans X4.out)
        have ZT5 := Lib.hid hzo
        clear b5 hzo hmn hmi hm0 e1 d30 h30
        obtain ⟨x0, x1, x2⟩ := S5.out.cells
        have hd : d % 3 = 0 ∨ d % 3 = 1 ∨ d % 3 = 2 := by omega
        have HD := Lib.hid hd
        clear hd
        by_cases hol : OutL l mo o
        · have HIX : Hid (∀ W, Zs W At mo o → Calls Tryd.prog 37 #[shV l, .slice At mo ct] W fun e w' => e = .returned (.tuple #[.int .i64 0, .int .i64 3]) ∧ Below W.heap.size W w') := Lib.hid fun W hW => index_outl At mo ct l o W (by omega) (by rw [HNL.out]; omega) (fun n hn => (HLS.out n hn).2) hW hol
          have RX := Lib.hid (rindex_no As cs At mo ct P nl l o w5 (by omega) HNL.out hcs HLS.out HP.out (by omega) S5.out.i ZT5.out hol)
          clear hol
          go_wp2_with fail
          refine RX.out.mono ?_
          rintro e w6 ⟨rfl, b6⟩
          have S6 := Lib.hid (S5.out.next b6)
          have X6 : Hid (w6.heap[b12]? = _) := Lib.hid ((b6.block b12 (Array.getElem?_eq_some_iff.1 X5.out).1).trans X5.out)
          have ZT := Lib.hid (ZT5.out.below b6 (Nat.le_refl _))
          clear b6 x0 x1 x2 RX
          obtain ⟨x0, x1, x2⟩ := S6.out.cells
          have e0 : w6.cell? ⟨b12, 0, none⟩ = some (.int .u8 d) := by rw [cell_of_row _ _ _ _ _ _ X6.out]; rfl
          have e1 := 0
          have e2 : w6.cell? ⟨b12, 2, none⟩ = some (.int .i64 cv) := by rw [cell_of_row _ _ _ _ _ _ X6.out]; rfl
          have hd := HD.out
          rcases hd with hd | hd | hd
          · go_wp2_with fail
            refine (tput_out g h At mo ct l k cv f 0 w6 S6.out.t (HIX.out w6 ZT.out)).mono ?_
            rintro e w7 ⟨rfl, b7⟩
            have SX := Lib.hid (S6.out.next b7)
            clear b7 x0 x1 x2
            clear e0 e1 e2
            obtain ⟨x0, x1, x2⟩ := SX.out.cells
            have LX := Lib.hid (like_yes g h cs cc P As (some ⟨gc, 0, none⟩) l k _ _ SX.out.t SX.out.i SX.out.zs HP.out (by omega) (by rw [HNL.out]; omega))
            rw [HNL.out] at LX
            go_wp2_with fail
            refine LX.out.mono ?_
            rintro e wz ⟨rfl, bz⟩
            have SZ := Lib.hid (SX.out.next bz)
            clear bz x0 x1 x2 LX
            go_wp2_with fail
            go_roundw
            case rel => exact ⟨j + 1, _, by omega, by go_num, SZ.out⟩
            case measure => simp [intOf]; omega
          · go_wp2_with fail
            refine (more_out g h At mo ct l k cv f 0 w6 S6.out.t (HIX.out w6 ZT.out)).mono ?_
            rintro e w7 ⟨rfl, b7⟩
            have SX := Lib.hid (S6.out.next b7)
            clear b7 x0 x1 x2
            clear e0 e1 e2
            obtain ⟨x0, x1, x2⟩ := SX.out.cells
            have LX := Lib.hid (like_yes g h cs cc P As (some ⟨gc, 0, none⟩) l k _ _ SX.out.t SX.out.i SX.out.zs HP.out (by omega) (by rw [HNL.out]; omega))
            rw [HNL.out] at LX
            go_wp2_with fail
            refine LX.out.mono ?_
            rintro e wz ⟨rfl, bz⟩
            have SZ := Lib.hid (SX.out.next bz)
            clear bz x0 x1 x2 LX
            go_wp2_with fail
            go_roundw
            case rel => exact ⟨j + 1, _, by omega, by go_num, SZ.out⟩
            case measure => simp [intOf]; omega
          · go_wp2_with fail
            refine (tget_out g h At mo ct l k f 0 w6 S6.out.t (HIX.out w6 ZT.out)).mono ?_
            rintro e w7 ⟨rfl, b7⟩
            have SX := Lib.hid (S6.out.next b7)
            clear b7 x0 x1 x2
            clear e0 e1 e2
            obtain ⟨x0, x1, x2⟩ := SX.out.cells
            have LX := Lib.hid (like_yes g h cs cc P As (some ⟨gc, 0, none⟩) l k _ _ SX.out.t SX.out.i SX.out.zs HP.out (by omega) (by rw [HNL.out]; omega))
            rw [HNL.out] at LX
            go_wp2_with fail
            refine LX.out.mono ?_
            rintro e wz ⟨rfl, bz⟩
            have SZ := Lib.hid (SX.out.next bz)
            clear bz x0 x1 x2 LX
            go_wp2_with fail
            go_roundw
            case rel => exact ⟨j + 1, _, by omega, by go_num, SZ.out⟩
            case measure => simp [intOf]; omega
        · obtain ⟨hml, fin, hnn⟩ := notOut hol
          have it := zs_nat ZT5.out hnn
          have hlen : ((List.range mo).map fun i => (o i).toNat).length = mo := by simp
          generalize ((List.range mo).map fun i => (o i).toNat) = t at fin it hlen
          have HTL := Lib.hid hlen
          have FIN := Lib.hid fin
          have IT5 := Lib.hid it
          obtain ⟨N, hN⟩ : ∃ N, numL l t = N := ⟨_, rfl⟩
          have hNP : N < P := by rw [← hN, ← HP.out]; exact fin.num_lt
          have HNN := Lib.hid hN
          have hmol : l.length = mo := hml.symm
          have RX := Lib.hid (rindex_yes As cs At mo ct P N l w5 (by rw [HNL.out]; omega) (by rw [HNL.out]; exact hcs) HLS.out HP.out (by omega) hNP hmol S5.out.i (by rw [← hN, fin.tup]; exact it))
          rw [HNL.out] at RX
          clear hol hml fin hnn it hlen hN hmol
          go_wp2_with fail
          refine RX.out.mono ?_
          rintro e w6 ⟨rfl, b6⟩
          have S6 := Lib.hid (S5.out.next b6)
          have X6 : Hid (w6.heap[b12]? = _) := Lib.hid ((b6.block b12 (Array.getElem?_eq_some_iff.1 X5.out).1).trans X5.out)
          have IT := Lib.hid (IT5.out.below b6 (Nat.le_refl _))
          clear b6 x0 x1 x2 RX
          obtain ⟨x0, x1, x2⟩ := S6.out.cells
          have e0 : w6.cell? ⟨b12, 0, none⟩ = some (.int .u8 d) := by rw [cell_of_row _ _ _ _ _ _ X6.out]; rfl
          have e1 := 0
          have e2 : w6.cell? ⟨b12, 2, none⟩ = some (.int .i64 cv) := by rw [cell_of_row _ _ _ _ _ _ X6.out]; rfl
          have hd := HD.out
          have N0 : (0 : Int) ≤ (N : Int) := by omega
          have N1 : (N : Int) < (P : Int) := by omega
          have dN : decide (0 ≤ (N : Int)) = true := by simp
          by_cases hv : 0 ≤ cv ∧ cv ≤ k
          · have RI := Lib.hid (rin_any cv k true w6 hk1 (by omega) ⟨fun _ => rfl, fun _ => hv⟩)
            obtain ⟨hv0, hv1⟩ := hv
            go_upto_region 11 with (go_at_call 12; refine RI.out.mono ?_; rintro e w' ⟨rfl, rfl⟩)
            clear RI
            rcases hd with hd | hd | hd
            · go_wp2_with fail
              refine (tput_ok g h At mo ct N l t k cv f w6 S6.out.t HTL.out.symm (by rw [HNL.out]; omega) (fun n hn => (HLS.out n hn).2) IT.out FIN.out HNN.out (by rw [HP.out]; exact hNP) hk1 (by omega) hv0 hv1).mono ?_
              rintro e w7 ⟨rfl, hT7, hg7⟩
              have T7 := Lib.hid hT7
              have G7 := Lib.hid hg7
              have X7 : Hid (w7.heap[b12]? = _) := Lib.hid ((hg7.block b12 (Array.getElem?_eq_some_iff.1 X6.out).1 (fun e => HBH.out (by injection e))).trans X6.out)
              have Y7 : Hid (w7.heap[bx]? = _) := Lib.hid ((hg7.block bx (Array.getElem?_eq_some_iff.1 S6.out.x).1 (fun e => PB.out.xh (by injection e))).trans S6.out.x)
              have KK : Hid (w7.cell? ⟨gc, N, none⟩ = some (.int .i64 (f N)) ∧ w7.frozen? ⟨gc, N, none⟩ = false) := Lib.hid (plS_far S6.out PB.out hg7 hNP)
              clear hT7 hg7 e0 e1 e2 x0 x1 x2
              have e2 : w7.cell? ⟨b12, 2, none⟩ = some (.int .i64 cv) := by rw [cell_of_row _ _ _ _ _ _ X7.out]; rfl
              have x2 : w7.cell? ⟨bx, 2, none⟩ = some (.slice (some ⟨gc, 0, none⟩) P cc) := by rw [cell_of_row _ _ _ _ _ _ Y7.out]; rfl
              obtain ⟨kc, kf⟩ := KK.out
              have SX := Lib.hid (S6.out.put PB.out HP.out hNP hv0 hv1 T7.out G7.out)
              generalize f N = zv at kc KK
              go_upto_region 25 with fail
              generalize w7.setCell ⟨gc, N, none⟩ (.int .i64 cv) = w8 at SX ⊢
              clear kc kf x2
              have e0 := 0
              have e1 := 0
              clear e0 e1 e2
              obtain ⟨x0, x1, x2⟩ := SX.out.cells
              have LX := Lib.hid (like_yes g h cs cc P As (some ⟨gc, 0, none⟩) l k _ _ SX.out.t SX.out.i SX.out.zs HP.out (by omega) (by rw [HNL.out]; omega))
              rw [HNL.out] at LX
              go_wp2_with fail
              refine LX.out.mono ?_
              rintro e wz ⟨rfl, bz⟩
              have SZ := Lib.hid (SX.out.next bz)
              clear bz x0 x1 x2 LX
              go_wp2_with fail
              go_roundw
              case rel => exact ⟨j + 1, _, by omega, by go_num, SZ.out⟩
              case measure => simp [intOf]; omega
            · go_wp2_with fail
              refine (more_ok g h At mo ct N l t k cv f w6 S6.out.t HTL.out.symm (by rw [HNL.out]; omega) (fun n hn => (HLS.out n hn).2) IT.out FIN.out HNN.out (by rw [HP.out]; exact hNP) hk1 (by omega) (S6.out.inn N hNP).1 (S6.out.inn N hNP).2 hv0 hv1).mono ?_
              rintro e w7 ⟨rfl, hT7, hg7⟩
              have T7 := Lib.hid hT7
              have G7 := Lib.hid hg7
              have X7 : Hid (w7.heap[b12]? = _) := Lib.hid ((hg7.block b12 (Array.getElem?_eq_some_iff.1 X6.out).1 (fun e => HBH.out (by injection e))).trans X6.out)
              have Y7 : Hid (w7.heap[bx]? = _) := Lib.hid ((hg7.block bx (Array.getElem?_eq_some_iff.1 S6.out.x).1 (fun e => PB.out.xh (by injection e))).trans S6.out.x)
              have KK : Hid (w7.cell? ⟨gc, N, none⟩ = some (.int .i64 (f N)) ∧ w7.frozen? ⟨gc, N, none⟩ = false) := Lib.hid (plS_far S6.out PB.out hg7 hNP)
              have hzz := S6.out.inn N hNP
              have hcap : 0 ≤ capA (f N) cv k ∧ capA (f N) cv k ≤ k := by unfold capA; split <;> omega
              have SX : Hid (PlS w bx g h gc As nl cs cc P l k _ (w7.drew.setCell ⟨gc, N, none⟩ (.int .i64 (capA (f N) cv k)))) := Lib.hid (S6.out.put PB.out HP.out hNP hcap.1 hcap.2 (hT7.below (Below.refl _ _).drew) (grown_drew hg7 1))
              clear hT7 hg7 e0 e1 e2 x0 x1 x2 hcap
              obtain ⟨ff, hff⟩ : ∃ ff : Nat → Int, (fun i => if i = N then capA (f N) cv k else f i) = ff := ⟨_, rfl⟩
              rw [hff] at SX
              clear hff T7
              generalize f N = zv at KK SX hzz
              obtain ⟨hz0, hz1⟩ := hzz
              have HX7 : Hid (HoldX bx b12 gc P cc k cv w7) := Lib.hid ⟨by rw [cell_of_row _ _ _ _ _ _ Y7.out]; rfl, by rw [cell_of_row _ _ _ _ _ _ Y7.out]; rfl, by rw [cell_of_row _ _ _ _ _ _ X7.out]; rfl⟩
              go_upto_region 24 with fail
              refine wp_region_noPanic ?_
              refine wp_region_held_drew (S := fun W => HoldX bx b12 gc P cc k cv W) (by kernel_rfl) HX7.out (fun hHeld => ?_)
              have KC : Hid (w7.drew.cell? ⟨gc, N, none⟩ = some (.int .i64 zv)) := Lib.hid KK.out.1
              have KF : Hid (w7.drew.frozen? ⟨gc, N, none⟩ = false) := Lib.hid KK.out.2
              generalize w7.drew = w8 at hHeld KC KF SX ⊢
              have e0 := 0
              have e1 := 0
              have e2 := 0
              refine wpAnyH_take (i := 0) (v := ?v901) rfl (by kernel_rfl) (by kernel_rfl) (by kernel_rfl) (fun _ _ _ h => h) (Or.inl ⟨by rfl, ?y901⟩) (by assumption) ?r901
              case y901 => ((intro w hSw; (try dsimp only at hSw); go_simp); try with_reducible rfl)
              try simp only [Act.put, List.getElem_toArray, List.getElem_cons_zero, List.setIfInBounds_toArray, List.set_cons_zero, List.set_cons_succ]
              refine wpAnyH_take (i := 1) (v := ?v902) rfl (by kernel_rfl) (by kernel_rfl) (by kernel_rfl) (fun _ _ _ h => h) (Or.inl ⟨by rfl, ?y902⟩) (by assumption) ?r902
              case y902 => ((intro w hSw; (try dsimp only at hSw); go_simp); try with_reducible rfl)
              try simp only [Act.put, List.getElem_toArray, List.getElem_cons_succ, List.getElem_cons_zero, List.setIfInBounds_toArray, List.set_cons_zero, List.set_cons_succ]
              refine wpAnyH_take (i := 2) (v := ?v903) rfl (by kernel_rfl) (by kernel_rfl) (by kernel_rfl) (fun _ _ _ h => h) (Or.inl ⟨by rfl, ?y903⟩) (by assumption) ?r903
              case y903 => ((intro w hSw; (try dsimp only at hSw); go_simp); try with_reducible rfl)
              try simp only [Act.put, List.getElem_toArray, List.getElem_cons_succ, List.getElem_cons_zero, List.setIfInBounds_toArray, List.set_cons_zero, List.set_cons_succ]
              refine wpAnyH_take (i := 3) (v := ?v904) rfl (by kernel_rfl) (by kernel_rfl) (by kernel_rfl) (fun _ _ _ h => h) (Or.inl ⟨by rfl, ?y904⟩) (by assumption) ?r904
              case y904 => ((intro w hSw; (try dsimp only at hSw); go_simp); try with_reducible rfl)
              try simp only [Act.put, List.getElem_toArray, List.getElem_cons_succ, List.getElem_cons_zero, List.setIfInBounds_toArray, List.set_cons_zero, List.set_cons_succ]
              refine wpAnyH_take (i := 4) (v := ?v905) rfl (by kernel_rfl) (by kernel_rfl) (by kernel_rfl) (fun _ _ _ h => h) (Or.inl ⟨by rfl, ?y905⟩) (by assumption) ?r905
              case y905 => ((intro w hSw; (try dsimp only at hSw); go_simp); try with_reducible rfl)
              try simp only [Act.put, List.getElem_toArray, List.getElem_cons_succ, List.getElem_cons_zero, List.setIfInBounds_toArray, List.set_cons_zero, List.set_cons_succ]
              refine wpAnyH_take (i := 5) (v := ?v906) rfl (by kernel_rfl) (by kernel_rfl) (by kernel_rfl) (fun _ _ _ h => h) (Or.inl ⟨by rfl, ?y906⟩) (by assumption) ?r906
              case y906 => ((intro w hSw; (try dsimp only at hSw); go_simp); try with_reducible rfl)
              try simp only [Act.put, List.getElem_toArray, List.getElem_cons_succ, List.getElem_cons_zero, List.setIfInBounds_toArray, List.set_cons_zero, List.set_cons_succ]
              refine wpAnyH_take (i := 6) (v := ?v907) rfl (by kernel_rfl) (by kernel_rfl) (by kernel_rfl) (fun _ _ _ h => h) (Or.inl ⟨by rfl, ?y907⟩) (by assumption) ?r907
              case y907 => ((intro w hSw; (try dsimp only at hSw); go_simp); try with_reducible rfl)
              try simp only [Act.put, List.getElem_toArray, List.getElem_cons_succ, List.getElem_cons_zero, List.setIfInBounds_toArray, List.set_cons_zero, List.set_cons_succ]
              refine wpAnyH_take (i := 8) (v := ?v908) rfl (by kernel_rfl) (by kernel_rfl) (by kernel_rfl) (fun _ _ _ h => h) (Or.inl ⟨by rfl, ?y908⟩) (by assumption) ?r908
              case y908 => ((intro w hSw; (try dsimp only at hSw); go_simp); try with_reducible rfl)
              try simp only [Act.put, List.getElem_toArray, List.getElem_cons_succ, List.getElem_cons_zero, List.setIfInBounds_toArray, List.set_cons_zero, List.set_cons_succ]
              refine wpAnyH_take (i := 9) (v := ?v909) rfl (by kernel_rfl) (by kernel_rfl) (by kernel_rfl) (fun _ _ _ h => h) (Or.inl ⟨by rfl, ?y909⟩) (by assumption) ?r909
              case y909 => ((intro w hSw; (try dsimp only at hSw); go_simp); try with_reducible rfl)
              try simp only [Act.put, List.getElem_toArray, List.getElem_cons_succ, List.getElem_cons_zero, List.setIfInBounds_toArray, List.set_cons_zero, List.set_cons_succ]
              refine wpAnyH_take (i := 10) (v := ?v910) rfl (by kernel_rfl) (by kernel_rfl) (by kernel_rfl) (fun _ _ _ h => h) (Or.inl ⟨by rfl, ?y910⟩) (by assumption) ?r910
              case y910 => ((intro w hSw; (try dsimp only at hSw); go_simp); try with_reducible rfl)
              try simp only [Act.put, List.getElem_toArray, List.getElem_cons_succ, List.getElem_cons_zero, List.setIfInBounds_toArray, List.set_cons_zero, List.set_cons_succ]
              refine wpAnyH_take (i := 11) (v := ?v911) rfl (by kernel_rfl) (by kernel_rfl) (by kernel_rfl) (fun _ _ _ h => h) (Or.inl ⟨by rfl, ?y911⟩) (by assumption) ?r911
              case y911 => ((intro w hSw; (try dsimp only at hSw); go_simp); try with_reducible rfl)
              try simp only [Act.put, List.getElem_toArray, List.getElem_cons_succ, List.getElem_cons_zero, List.setIfInBounds_toArray, List.set_cons_zero, List.set_cons_succ]
              refine wpAnyH_ready (rs := [7]) (by kernel_rfl) (by simp) ?_
              refine AllReadyH.cons rfl (fun K hK => ?_) ?_
              · have kc := KC.out
                go_simp
                clear kc
                refine hK.out _ _ (hHeld) (fun hHeld' => ?_)
                clear hHeld
                have hHeld := hHeld'
                clear hHeld'
                clear hK K
                try simp only [Act.put, List.getElem_toArray, List.getElem_cons_succ, List.getElem_cons_zero, List.setIfInBounds_toArray, List.set_cons_zero, List.set_cons_succ]
                refine wpAnyH_ready (rs := [12]) (by kernel_rfl) (by simp) ?_
                refine AllReadyH.cons rfl (fun K hK => ?_) ?_
                · go_simp
                  refine (radd_any zv cv k _ hz0 (by omega) hv0 (by omega)).mono ?_
                  rintro e w' ⟨rfl, rfl⟩
                  refine hK.out _ _ (hHeld) (fun hHeld' => ?_)
                  clear hHeld
                  have hHeld := hHeld'
                  clear hHeld'
                  clear hK K
                  try simp only [Act.put, List.getElem_toArray, List.getElem_cons_succ, List.getElem_cons_zero, List.setIfInBounds_toArray, List.set_cons_zero, List.set_cons_succ]
                  refine wpAnyH_take (i := 13) (v := ?v912) rfl (by kernel_rfl) (by kernel_rfl) (by kernel_rfl) (fun _ _ _ h => h) (Or.inl ⟨by rfl, ?y912⟩) (by assumption) ?r912
                  case y912 => ((intro w hSw; (try dsimp only at hSw); go_simp); try with_reducible rfl)
                  try simp only [Act.put, List.getElem_toArray, List.getElem_cons_succ, List.getElem_cons_zero, List.setIfInBounds_toArray, List.set_cons_zero, List.set_cons_succ]
                  refine wpAnyH_ready (rs := [14]) (by kernel_rfl) (by simp) ?_
                  refine AllReadyH.cons rfl (fun K hK => ?_) ?_
                  · have kc := KC.out
                    have kf := KF.out
                    go_simp
                    clear kc kf
                    refine hK.out _ _ (holdX_set hHeld PB.out.xc HBG.out N _) (fun hHeld' => ?_)
                    clear hHeld
                    have hHeld := hHeld'
                    clear hHeld'
                    clear hK K
                    try simp only [Act.put, List.getElem_toArray, List.getElem_cons_succ, List.getElem_cons_zero, List.setIfInBounds_toArray, List.set_cons_zero, List.set_cons_succ]
                    refine wpAnyH_done (by kernel_rfl) ?_ _
                    refine NoPanic.normal ?_
                    clear hHeld
                    clear e0 e1 e2
                    obtain ⟨x0, x1, x2⟩ := SX.out.cells
                    have LX := Lib.hid (like_yes g h cs cc P As (some ⟨gc, 0, none⟩) l k _ _ SX.out.t SX.out.i SX.out.zs HP.out (by omega) (by rw [HNL.out]; omega))
                    rw [HNL.out] at LX
                    go_wp2_with fail
                    refine LX.out.mono ?_
                    rintro e wz ⟨rfl, bz⟩
                    have SZ := Lib.hid (SX.out.next bz)
                    clear bz x0 x1 x2 LX
                    go_wp2_with fail
                    go_roundw
                    case rel => exact ⟨j + 1, _, by omega, by go_num, SZ.out⟩
                    case measure => simp [intOf]; omega
                  exact AllReadyH.nil
                exact AllReadyH.nil
              exact AllReadyH.nil
            · go_wp2_with fail
              refine (tget_ok g h At mo ct N l t k f w6 S6.out.t HTL.out.symm (by rw [HNL.out]; omega) (fun n hn => (HLS.out n hn).2) IT.out FIN.out HNN.out (by rw [HP.out]; exact hNP)).mono ?_
              rintro e w7 ⟨rfl, b7⟩
              have SX := Lib.hid (S6.out.next b7)
              clear b7 x0 x1 x2
              obtain ⟨x0, x1, x2⟩ := SX.out.cells
              have kc := (SX.out.costs hNP).1
              generalize f N = zv at kc ⊢
              have dz : (zv != zv) = false := by simp
              have dn : decide ((N : Int) < 0) = false := by simp
              go_upto_region 25 with fail
              clear kc dz dn x0 x1 x2
              clear e0 e1 e2
              obtain ⟨x0, x1, x2⟩ := SX.out.cells
              have LX := Lib.hid (like_yes g h cs cc P As (some ⟨gc, 0, none⟩) l k _ _ SX.out.t SX.out.i SX.out.zs HP.out (by omega) (by rw [HNL.out]; omega))
              rw [HNL.out] at LX
              go_wp2_with fail
              refine LX.out.mono ?_
              rintro e wz ⟨rfl, bz⟩
              have SZ := Lib.hid (SX.out.next bz)
              clear bz x0 x1 x2 LX
              go_wp2_with fail
              go_roundw
              case rel => exact ⟨j + 1, _, by omega, by go_num, SZ.out⟩
              case measure => simp [intOf]; omega
          · have RI := Lib.hid (rin_any cv k false w6 hk1 (by omega) ⟨fun h => absurd h hv, (fun h => by cases h)⟩)
            have HBAD : Hid (cv < 0 ∨ k < cv) := Lib.hid (by omega)
            clear hv
            go_upto_region 11 with (go_at_call 12; refine RI.out.mono ?_; rintro e w' ⟨rfl, rfl⟩)
            clear RI
            rcases hd with hd | hd | hd
            · go_wp2_with fail
              refine (tput_cost g h At mo ct N l k cv f w6 S6.out.t (index_ok' At mo ct N l t w6 HTL.out.symm (by rw [HNL.out]; omega) (fun n hn => (HLS.out n hn).2) IT.out FIN.out HNN.out) hk1 (by omega) HBAD.out).mono ?_
              rintro e w7 ⟨rfl, b7⟩
              have SX := Lib.hid (S6.out.next b7)
              clear b7 x0 x1 x2
              clear e0 e1 e2
              obtain ⟨x0, x1, x2⟩ := SX.out.cells
              have LX := Lib.hid (like_yes g h cs cc P As (some ⟨gc, 0, none⟩) l k _ _ SX.out.t SX.out.i SX.out.zs HP.out (by omega) (by rw [HNL.out]; omega))
              rw [HNL.out] at LX
              go_wp2_with fail
              refine LX.out.mono ?_
              rintro e wz ⟨rfl, bz⟩
              have SZ := Lib.hid (SX.out.next bz)
              clear bz x0 x1 x2 LX
              go_wp2_with fail
              go_roundw
              case rel => exact ⟨j + 1, _, by omega, by go_num, SZ.out⟩
              case measure => simp [intOf]; omega
            · go_wp2_with fail
              refine (more_cost g h At mo ct N l t k cv f w6 S6.out.t HTL.out.symm (by rw [HNL.out]; omega) (fun n hn => (HLS.out n hn).2) IT.out FIN.out HNN.out (by rw [HP.out]; exact hNP) hk1 (by omega) (S6.out.inn N hNP).1 (S6.out.inn N hNP).2 HBAD.out).mono ?_
              rintro e w7 ⟨rfl, b7⟩
              have SX := Lib.hid (S6.out.next b7)
              clear b7 x0 x1 x2
              clear e0 e1 e2
              obtain ⟨x0, x1, x2⟩ := SX.out.cells
              have LX := Lib.hid (like_yes g h cs cc P As (some ⟨gc, 0, none⟩) l k _ _ SX.out.t SX.out.i SX.out.zs HP.out (by omega) (by rw [HNL.out]; omega))
              rw [HNL.out] at LX
              go_wp2_with fail
              refine LX.out.mono ?_
              rintro e wz ⟨rfl, bz⟩
              have SZ := Lib.hid (SX.out.next bz)
              clear bz x0 x1 x2 LX
              go_wp2_with fail
              go_roundw
              case rel => exact ⟨j + 1, _, by omega, by go_num, SZ.out⟩
              case measure => simp [intOf]; omega
            · go_wp2_with fail
              refine (tget_ok g h At mo ct N l t k f w6 S6.out.t HTL.out.symm (by rw [HNL.out]; omega) (fun n hn => (HLS.out n hn).2) IT.out FIN.out HNN.out (by rw [HP.out]; exact hNP)).mono ?_
              rintro e w7 ⟨rfl, b7⟩
              have SX := Lib.hid (S6.out.next b7)
              clear b7 x0 x1 x2
              obtain ⟨x0, x1, x2⟩ := SX.out.cells
              have kc := (SX.out.costs hNP).1
              generalize f N = zv at kc ⊢
              have dz : (zv != zv) = false := by simp
              have dn : decide ((N : Int) < 0) = false := by simp
              go_upto_region 25 with fail
              clear kc dz dn x0 x1 x2
              clear e0 e1 e2
              obtain ⟨x0, x1, x2⟩ := SX.out.cells
              have LX := Lib.hid (like_yes g h cs cc P As (some ⟨gc, 0, none⟩) l k _ _ SX.out.t SX.out.i SX.out.zs HP.out (by omega) (by rw [HNL.out]; omega))
              rw [HNL.out] at LX
              go_wp2_with fail
              refine LX.out.mono ?_
              rintro e wz ⟨rfl, bz⟩
              have SZ := Lib.hid (SX.out.next bz)
              clear bz x0 x1 x2 LX
              go_wp2_with fail
              go_roundw
              case rel => exact ⟨j + 1, _, by omega, by go_num, SZ.out⟩
              case measure => simp [intOf]; omega
    · have j1 : ¬ ((j : Int) < (na : Int)) := by omega
      go_wp2_with fail
      go_ret
      exact ⟨rfl, HM.out.bel⟩
end Go.Proofs.YtamodeglpkgiaaaDoor
