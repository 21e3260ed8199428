/- Texts of this seat laid together (no statement of its own). -/
import Derived.Test.YtpdcpaoabalgcaaGreatDoorTj8
import Derived.Test.YtpdcpaoabalgcaaGreatDoorTjB
import Derived.Test.YtpdcpaoabalgcaaGreatDoorTwS
namespace Go.Proofs.YtpdcpaoabalgcaaGreatDoor
open Go.RowKit Go.Shelf Go.Sort
set_option linter.unusedVariables false
theorem nth_rangeL {n i : Nat} (h : i < n) : nth (List.range n) i = i := by rw [nth_get (by simpa using h)]; simp
theorem lit_oneJ (W : World) (v : Nat) : Ints (W.alloc (.cells #[.int .i64 (v : Int)] 3)) (some ⟨W.heap.size, 0, none⟩) [v] := by
  have hc := heap_alloc_new W (.cells #[.int .i64 (v : Int)] 3)
  refine .inr ⟨_, _, rfl, by simp, fun i hi => ?_⟩
  obtain rfl : i = 0 := by simp at hi; exact hi
  rw [cell_of_row _ _ _ _ _ _ hc]
  rfl
theorem range_snoc (j : Nat) : List.range (j + 1) = List.range j ++ [j] := List.range_succ
set_option maxRecDepth 100000 in
theorem scope_none (n : Nat) (w : World) (hn : n ≤ 6) :
    Calls Tryz.prog 9 #[.int .i64 (n : Int), .slice none 0 0] w fun e w' => (∃ v, e = .returned v ∧ Own w' w.heap.size v (List.range n)) ∧ Below w.heap.size w w' := by
  go_enter Tryz.func9, Tryz.ntmps9
  go_upto_region 4 with fail
  go_loopw [5, 6, 9] (fun v5 v6 i wr => ∃ j : Nat, j ≤ n ∧ i = .int .i64 (j : Int) ∧ v6 = .int .i64 (j : Int) ∧ Own wr w.heap.size v5 (List.range j) ∧ Below w.heap.size w wr) (fun _ _ i _ => n - (intOf i).toNat)
  case atStart => exact ⟨0, Nat.zero_le _, rfl, rfl, own_nil _ _, Below.refl _ _⟩
  case round =>
    obtain ⟨j, hj, rfl, rfl, hO, hb⟩ := hrel
    have OR := Lib.hid hO
    have BR := Lib.hid hb
    clear hO hb
    by_cases hlt : j < n
    · have i1 : (j : Int) < (n : Int) := by omega
      have d : decide ((j : Int) < (n : Int)) = true := by simp; omega
      have d2 : decide ((j : Int) < 0) = false := by simp
      have hsz := BR.out.size
      have nv := new_val wr (.cells #[.int .i64 (j : Int)] 3)
      have OX := Lib.hid (OR.out.below nv (Nat.le_refl _))
      have LX := Lib.hid (lit_oneJ wr j)
      have BX := Lib.hid (BR.out.trans (nv.mono hsz))
      have hsz2 := BX.out.size
      have hjl : (List.range j).length ≤ 100000 := by simp; omega
      clear nv hsz
      go_wp2_with (at_builtin; refine app_own rfl (.tmp 24) (.tmp 26) rfl _ w.heap.size 1 1 u5 (List.range j) [j] (some ⟨wr.heap.size, 0, none⟩) rfl rfl rfl OX.out LX.out (by intro h; cases h) hsz2 hjl (by omega) ?_; intro v' w' hO hg'; have BN := Lib.hid (BX.out.grown hg' hsz2 (fun b hb' => (World.ownsRow.lt OX.out b hb').1)); have ON : Hid (Own w' w.heap.size v' (List.range (j + 1))) := Lib.hid (by rw [range_snoc]; exact hO); clear hO hg')
      go_roundw
      case rel => exact ⟨j + 1, by omega, by go_num, by go_num, ON.out, BN.out⟩
      case measure => simp [intOf]; omega
    · have d : decide ((j : Int) < (n : Int)) = false := by simp; omega
      obtain rfl : j = n := by omega
      go_wp2_with fail
      go_ret
      exact ⟨⟨_, rfl, OR.out⟩, BR.out⟩
/-- The variables 0, 1, .. : they rise, and with themselves they make themselves. -/
theorem range_rises (n : Nat) : Rises (List.range n) := lt_rises List.pairwise_lt_range
theorem uni_self {V a : List Nat} (H : Uni V a a) (ha : Rises a) : V = a := rise_uniq H.lt (rises_lt ha) fun x => by rw [H.mem]; exact or_self_iff
theorem plc_self {n : Nat} : plcL (List.range n) (List.range n) = List.range n := by
  refine ext_nth (by simp [plcL]) fun i hi => ?_
  have hi' : i < n := by simpa [plcL] using hi
  rw [plcL_nth (by simpa using hi'), cnt_nth List.pairwise_lt_range (by simpa using hi'), nth_rangeL hi']
theorem pick_range {l : List Nat} {n : Nat} (h : l.length = n) : pickL l (List.range n) = l := by
  refine ext_nth (by rw [pickL_len]; simp [h]) fun i hi => ?_
  have hi' : i < n := by rw [pickL_len] at hi; simpa using hi
  rw [pickL_nth (by simpa using hi'), nth_rangeL hi']
theorem ag_self {a l : List Nat} (ha : Rises a) : AgB a a l l = true := by
  refine List.all_eq_true.2 fun i hi => ?_
  have hi' := List.mem_range.1 hi
  rw [AgAt, cnt_nth (rises_lt ha) hi']
  simp
theorem join_self {l : List Nat} {n : Nat} (h : l.length = n) : joinL n (List.range n) l (List.range n) l = l := by
  have H : Uni (List.range n) (List.range n) (List.range n) := ⟨List.pairwise_lt_range, fun x => by simp⟩
  have h1 := H.pa (l1 := l) (l2 := l) (range_rises n) (range_rises n) (by simp [h]) (by simp [h]) (ag_self (range_rises n))
  rw [plc_self, List.length_range] at h1
  rwa [pick_range (joinL_len _ _ _ _ _)] at h1
/-- Join of two tables of one shape over the variables 0, 1, .. -/
theorem join_same (g1 h1 g2 h2 n c P : Nat) (A : Option Addr) (l : List Nat) (k : Int) (z1 z2 : Nat → Int) (w : World) (T1 : TabAt w g1 h1 l k z1) (T2 : TabAt w g2 h2 l k z2) (hl : l.length = n) (hn : n ≤ 6) (hA : Ints w A (List.range n)) (e1 : A = none → c = 0)
    (hls : ∀ n ∈ l, 1 ≤ n ∧ n ≤ 32) (hP : prodL l = P) (hP4 : P ≤ 4096) (hk1 : 1 ≤ k) (hk2 : k ≤ 2147483648) (hz1 : ∀ i, i < P → 0 ≤ z1 i ∧ z1 i ≤ k) (hz2 : ∀ i, i < P → 0 ≤ z2 i ∧ z2 i ≤ k) :
    Calls Tryz.prog 10 #[.pointer (some ⟨g1, 0, none⟩), .slice A n c, .pointer (some ⟨g2, 0, none⟩), .slice A n c] w fun e w' => (∃ g' h' A' c', e = .returned (.tuple #[.pointer (some ⟨g', 0, none⟩), .slice A' n c', .int .i64 0]) ∧ TabAt w' g' h' l k (fun i => capA (z1 i) (z2 i) k)) ∧ Below w.heap.size w w' := by
  obtain ⟨V, hV, HU⟩ := uni_ex (List.range n) (List.range n)
  obtain rfl := uni_self HU (range_rises n)
  have ag := ag_self (l := l) (range_rises n)
  have hr : (List.range n).length = n := by simp
  have js := join_self hl
  have J := join_ok g1 h1 n c g2 h2 n c P A A l l (List.range n) (List.range n) (List.range n) k z1 z2 w T1 T2 hl hl hr hr hA hA hn hn e1 e1 (range_rises n) (range_rises n) ag hV (by rw [hr]; exact hn) (lt_le List.pairwise_lt_range)
    (by rw [plc_self, hr, js, pick_range hl]) (by rw [plc_self, hr, js, pick_range hl]) (fun i hi => by rw [plc_self, nth_rangeL hi, hr]; exact hi) (fun i hi => by rw [plc_self, nth_rangeL hi, hr]; exact hi)
    (by rw [plc_self, hr, js]; exact hls) (fun x hx => (hls x hx).2) (fun x hx => (hls x hx).2) (by rw [plc_self, hr, js]; exact hP) hP4 hk1 hk2 (by rw [hP]; exact hz1) (by rw [hP]; exact hz2)
  refine J.mono ?_
  rintro e w' ⟨g', h', A', c', rfl, hT, _, _, _, hb⟩
  rw [plc_self, hr, js] at hT
  rw [hr]
  refine ⟨⟨g', h', A', c', rfl, hT.congr fun i hi => ?_⟩, hb⟩
  unfold joinZ
  rw [pick_range (by rw [tupL_length, hl]), num_tup hi]
end Go.Proofs.YtpdcpaoabalgcaaGreatDoor

namespace Go.Proofs.YtpdcpaoabalgcaaGreatDoor
open Go.RowKit
set_option linter.unusedVariables false
open Dm (Mem mem setV setO Tab)
theorem capA_in {a b k : Int} (ha : 0 ≤ a) (hb : 0 ≤ b) (hk : 0 ≤ k) : 0 ≤ capA a b k ∧ capA a b k ≤ k := by unfold capA; split <;> omega
theorem capA_turn {a b c k : Int} (ha : 0 ≤ a) (hb : 0 ≤ b) (hc : 0 ≤ c) : capA (capA c b k) a k = capA (capA a b k) c k := by unfold capA; split <;> split <;> split <;> split <;> omega
theorem own_none {w : World} {base n c : Nat} {A : Option Addr} {l : List Nat} (h : Own w base (.slice A n c) l) (e : A = none) : c = 0 := by
  obtain ⟨_, ⟨h1, _⟩ | ⟨g, cap, cur, h1, _⟩⟩ := h
  · cases h1; rfl
  · cases h1; cases e
/-- What a round of the law reads. -/
abbrev HoldZ (wb : World) (bx gc oc j P cc : Nat) (k x : Int) (W : World) : Prop :=
  W.cell? ⟨bx, 1, none⟩ = some (.int .i64 k) ∧ W.cell? ⟨bx, 2, none⟩ = some (.slice (some ⟨gc, oc, none⟩) P cc) ∧ W.cell? ⟨gc, oc + j, none⟩ = some (.int .i64 x) ∧ Below wb.heap.size wb W
theorem HoldZ.to {wb W : World} {bx gc oc j P cc : Nat} {k x : Int} (H : HoldZ wb bx gc oc j P cc k x wb) (hb : Below wb.heap.size wb W) : HoldZ wb bx gc oc j P cc k x W := by
  obtain ⟨a0, a1, a2, h8⟩ := H
  have K : ∀ b i v, wb.cell? ⟨b, i, none⟩ = some v → W.cell? ⟨b, i, none⟩ = some v := fun b i v h => (hb.cell (p := ⟨b, i, none⟩) (World.block_lt_of_cell? wb _ h)).trans h
  exact ⟨K _ _ _ a0, K _ _ _ a1, K _ _ _ a2, hb⟩
set_option maxRecDepth 100000 in
set_option maxHeartbeats 16000000 in
theorem sums_walk (A L L2 L3 : Option Addr) (n c m mc m2 mc2 m3 mc3 : Nat) (z y y2 y3 : Nat → Int) (a : Int) (w : World) (hT : Tab w) (hn : (n : Int) ≤ 9223372036854775807) (hz : Bytes w A n z) (ha0 : 0 ≤ a) (ha1 : a ≤ 65535)
    (hm : (m : Int) ≤ 9223372036854775807) (hL : Words w L m y) (hm2 : (m2 : Int) ≤ 9223372036854775807) (hL2 : Words w L2 m2 y2) (hm3 : (m3 : Int) ≤ 9223372036854775807) (hL3 : Words w L3 m3 y3) :
    Calls Tryz.prog 5 #[.slice A n c, .int .u16 a, .slice L m mc, .slice L2 m2 mc2, .slice L3 m3 mc3] w fun e w' => e = .returned (.bool true) ∧ Below w.heap.size w w' := by
  have HTab := Lib.hid hT
  have HZ := Lib.hid hz
  have HL := Lib.hid hL
  have HL2 := Lib.hid hL2
  have HL3 := Lib.hid hL3
  clear hT hz hL hL2 hL3
  go_enter Tryz.func5, Tryz.ntmps5
  go_wp2_with fail
  refine (awake4_true w HTab.out).mono ?_
  rintro e w1 ⟨rfl, b1⟩
  have B1 := Lib.hid b1
  clear b1
  go_wp2_with fail
  refine (top_any a w1 ha0 ha1).mono ?_
  rintro e w' ⟨rfl, rfl⟩
  obtain ⟨k, hk⟩ : ∃ k, 1 + a % 200 = k := ⟨_, rfl⟩
  have hk1 : 1 ≤ k := by omega
  have hk2 : k ≤ 200 := by omega
  have HK := Lib.hid hk
  rw [hk]
  clear hk
  obtain ⟨l, hl⟩ : ∃ l, smL z (min n 3) = l := ⟨_, rfl⟩
  obtain ⟨P, hP⟩ : ∃ P, prodL l = P := ⟨_, rfl⟩
  have hP64 : 1 ≤ P ∧ P ≤ 64 := by rw [← hP, ← hl]; exact smL_prod z _ (by omega)
  have hl3 : l.length ≤ 3 := by rw [← hl, smL_len]; omega
  have hls : ∀ x ∈ l, 1 ≤ x ∧ x ≤ 32 := fun x hx => by rw [← hl] at hx; have := smL_small z _ x hx; omega
  have MD := Lib.hid (made_any A L n c m mc P l z y k w1 hn (HZ.out.below B1.out) hm (HL.out.below B1.out) hk1 (by omega) hl hP)
  have HP := Lib.hid hP
  have HLL := Lib.hid hl
  have HLS := Lib.hid hls
  clear hl hP hls
  obtain ⟨hP1, hP4⟩ := hP64
  go_wp2_with fail
  refine MD.out.mono ?_
  rintro e w2 ⟨g, h, As, cs, Ac, cc, rfl, hTb, hI, hcs, hZc, hg, hh, b2⟩
  clear MD
  have n3 := new_val w2 (.cells #[.slice As l.length cs, .int .i64 k, .slice Ac P cc] 30)
  have S3 : Hid (TwS w w2.heap.size g h As cs Ac cc P l k (mkC k y m) (w2.alloc (.cells #[.slice As l.length cs, .int .i64 k, .slice Ac P cc] 30))) :=
    Lib.hid ⟨heap_alloc_new w2 _, hTb.below n3, hI.below n3 (Nat.le_refl _), hZc.below n3 (Nat.le_refl _), (HTab.out.below B1.out HTab.out.pos).below ((b2.trans (n3.mono b2.size))) (Nat.lt_of_lt_of_le HTab.out.pos B1.out.size), then_ (then_ B1.out b2) n3⟩
  have ZB1 : Hid (∀ i, 0 ≤ mkC k y m i ∧ mkC k y m i ≤ k) := Lib.hid fun i => mkC_in hk1 (fun hjm => by obtain ⟨_, _, _, _, h1, _⟩ := HL.out i hjm; exact h1)
  generalize mkC k y m = zt at S3 ZB1
  clear hTb hI hZc hg hh b2 n3
  go_upto_region 4 with fail
  generalize w2.alloc (.cells #[.slice As l.length cs, .int .i64 k, .slice Ac P cc] 30) = w3 at S3 ⊢
  generalize w2.heap.size = bx at S3 ⊢
  go_wp2_with fail
  refine (top_any a w3 ha0 ha1).mono ?_
  rintro e w' ⟨rfl, rfl⟩
  rw [HK.out]
  have MD := Lib.hid (made_any A L2 n c m2 mc2 P l z y2 k w3 hn (HZ.out.below S3.out.bel) hm2 (HL2.out.below S3.out.bel) hk1 (by omega) HLL.out HP.out)
  go_wp2_with fail
  refine MD.out.mono ?_
  rintro e w4 ⟨gu, hu, AX, cX, AY, cY, rfl, hTb, -, -, -, -, -, b2⟩
  clear MD
  have nx := new_val w4 (.cells #[.slice AX l.length cX, .int .i64 k, .slice AY P cY] 30)
  have S4 := Lib.hid ((S3.out.next b2).next nx)
  have T4 := Lib.hid (hTb.below nx)
  have ZB4 : Hid (∀ i, 0 ≤ mkC k y2 m2 i ∧ mkC k y2 m2 i ≤ k) := Lib.hid fun i => mkC_in hk1 (fun hjm => by obtain ⟨_, _, _, _, h1, _⟩ := HL2.out i hjm; exact h1)
  generalize mkC k y2 m2 = zu at T4 ZB4
  clear hTb b2
  go_upto_region 5 with fail
  generalize w4.alloc (.cells #[.slice AX l.length cX, .int .i64 k, .slice AY P cY] 30) = w4b at *
  generalize w4.heap.size = bx4 at *
  clear nx
  go_wp2_with fail
  refine (top_any a w4b ha0 ha1).mono ?_
  rintro e w' ⟨rfl, rfl⟩
  rw [HK.out]
  have MD := Lib.hid (made_any A L3 n c m3 mc3 P l z y3 k w4b hn (HZ.out.below S4.out.bel) hm3 (HL3.out.below S4.out.bel) hk1 (by omega) HLL.out HP.out)
  go_wp2_with fail
  refine MD.out.mono ?_
  rintro e w5 ⟨gv, hv, AX, cX, AY, cY, rfl, hTb, -, -, -, -, -, b2⟩
  clear MD
  have nx := new_val w5 (.cells #[.slice AX l.length cX, .int .i64 k, .slice AY P cY] 30)
  have S5 := Lib.hid ((S4.out.next b2).next nx)
  have T5 := Lib.hid (hTb.below nx)
  have T45 := Lib.hid ((T4.out.below b2).below nx)
  have ZB5 : Hid (∀ i, 0 ≤ mkC k y3 m3 i ∧ mkC k y3 m3 i ≤ k) := Lib.hid fun i => mkC_in hk1 (fun hjm => by obtain ⟨_, _, _, _, h1, _⟩ := HL3.out i hjm; exact h1)
  generalize mkC k y3 m3 = zv at T5 ZB5
  clear hTb b2
  go_upto_region 6 with fail
  generalize w5.alloc (.cells #[.slice AX l.length cX, .int .i64 k, .slice AY P cY] 30) = w5b at *
  generalize w5.heap.size = bx5 at *
  clear nx
  obtain ⟨nl, hnl⟩ : ∃ nl, l.length = nl := ⟨_, rfl⟩
  have HNL := Lib.hid hnl
  have x0 := S5.out.c0
  rw [hnl] at hl3 hcs x0
  clear hnl
  go_wp2_with fail
  refine (scope_none nl w5b (by omega)).mono ?_
  rintro e w6 ⟨⟨v, rfl, hO⟩, b6⟩
  obtain ⟨AV, cV, rfl, hIV⟩ := hO.form
  have hcv : AV = none → cV = 0 := fun e => own_none hO e
  rw [List.length_range]
  have EV := Lib.hid hcv
  have IV6 := Lib.hid hIV
  have S6 := Lib.hid (S5.out.next b6)
  have T6 := Lib.hid (T45.out.below b6) 
  have T7 := Lib.hid (T5.out.below b6)
  clear hO hIV hcv b6 x0 S3 S4 S5
  have JS := Lib.hid (join_same g h g h nl cV P AV l k zt zt w6 (Lib.hid S6.out.t).out (Lib.hid S6.out.t).out HNL.out (by omega) IV6.out EV.out HLS.out HP.out (by omega) hk1 (by omega) (fun i _ => ZB1.out i) (fun i _ => ZB1.out i))
  go_wp2_with fail
  refine JS.out.mono ?_
  rintro e wj6 ⟨⟨gw, hw, A'6, c'6, rfl, hT⟩, bj⟩
  have S7 := Lib.hid (S6.out.next bj)
  have TW := Lib.hid hT
  have IV7 := Lib.hid (IV6.out.below bj (Nat.le_refl _))
  have U6 := Lib.hid (T6.out.below bj)
  have V6 := Lib.hid (T7.out.below bj)
  clear JS hT bj
  have EN := Lib.hid (entries_zs gw hw P l k (fun i => capA (zt i) (zt i) k) wj6 TW.out HP.out (by omega))
  go_wp2_with fail
  refine EN.out.mono ?_
  rintro e w8 ⟨⟨AE, cE, rfl, hZE⟩, b8⟩
  have S8 := Lib.hid (S7.out.next b8)
  have U8 := Lib.hid (U6.out.below b8)
  have V8 := Lib.hid (V6.out.below b8)
  have IV8 := Lib.hid (IV7.out.below b8 (Nat.le_refl _))
  have ZE := Lib.hid hZE
  clear EN hZE b8 TW S7 U6 V6 IV7 S6 T6 T7 IV6
  go_upto_region 11 with fail
  go_loopw [73] (fun i wr => ∃ j : Nat, j ≤ P ∧ i = .int .i64 (j : Int) ∧ Below w8.heap.size w8 wr) (fun i _ => P - (intOf i).toNat)
  case atStart => exact ⟨0, Nat.zero_le _, rfl, Below.refl _ _⟩
  case round =>
    obtain ⟨j, hj, rfl, hb⟩ := hrel
    have BR := Lib.hid hb
    clear hb
    by_cases hlt : j < P
    · obtain ⟨ge, oe, rfl, hce⟩ := (ZE.out.below BR.out (Nat.le_refl _)).at_ hlt
      obtain ⟨gc, oc, rfl, hcc⟩ := (S8.out.c.below BR.out (Nat.le_refl _)).at_ hlt
      have SR := Lib.hid (S8.out.next BR.out)
      have j1 : (j : Int) < (P : Int) := by omega
      have j2 : (0 : Int) ≤ (j : Int) := by omega
      have zb := ZB1.out j
      generalize zt j = x at hce hcc zb
      have HH : Hid (HoldZ wr bx gc oc j P cc k x wr) := Lib.hid ⟨SR.out.c1, SR.out.c2, hcc, Below.refl _ _⟩
      clear hcc
      go_upto_region 13 with fail
      clear hce
      go_region_held3 (fun W => HoldZ wr bx gc oc j P cc k x W) (exact HH.out.to ((Below.refl _ _).drew))
        ((go_at_call 28; refine (radd_any x x k _ (by omega) (by omega) (by omega) (by omega)).mono ?_; rintro e w' ⟨rfl, rfl⟩))
      have d : ((capA x x k : Int) != capA x x k) = false := by simp
      have BN := Lib.hid (BR.out.trans (((Below.refl wr.heap.size wr).drew).mono BR.out.size))
      go_wp2_with fail
      go_roundw
      case rel => exact ⟨j + 1, by omega, by go_num, BN.out⟩
      case measure => simp [intOf]; omega
    · have j1 : ¬ ((j : Int) < (P : Int)) := by omega
      obtain rfl : P = j := by omega
      have S9 := Lib.hid (S8.out.next BR.out)
      have U9 := Lib.hid (U8.out.below BR.out)
      have V9 := Lib.hid (V8.out.below BR.out)
      have IV9 := Lib.hid (IV8.out.below BR.out (Nat.le_refl _))
      clear hlt hj S8 U8 V8 IV8 ZE
      have JS := Lib.hid (join_same g h gu hu nl cV P AV l k zt zu wr (Lib.hid S9.out.t).out U9.out HNL.out (by omega) IV9.out EV.out HLS.out HP.out (by omega) hk1 (by omega) (fun i _ => ZB1.out i) (fun i _ => ZB4.out i))
      go_wp2_with fail
      refine JS.out.mono ?_
      rintro e wj9 ⟨⟨gp, hp, A'9, c'9, rfl, hT⟩, bj⟩
      have S10 := Lib.hid (S9.out.next bj)
      have TP10 := Lib.hid hT
      have IV10 := Lib.hid (IV9.out.below bj (Nat.le_refl _))
      have U10 := Lib.hid (U9.out.below bj)
      have V10 := Lib.hid (V9.out.below bj)
      clear JS hT bj
      have JS := Lib.hid (join_same gp hp gv hv nl cV P AV l k _ zv wj9 TP10.out V10.out HNL.out (by omega) IV10.out EV.out HLS.out HP.out (by omega) hk1 (by omega) (fun i _ => capA_in (ZB1.out i).1 (ZB4.out i).1 (by omega)) (fun i _ => ZB5.out i))
      go_wp2_with fail
      refine JS.out.mono ?_
      rintro e wj10 ⟨⟨gp2, hp2, A'10, c'10, rfl, hT⟩, bj⟩
      have S11 := Lib.hid (S10.out.next bj)
      have TP11 := Lib.hid hT
      have IV11 := Lib.hid (IV10.out.below bj (Nat.le_refl _))
      have U11 := Lib.hid (U10.out.below bj)
      have V11 := Lib.hid (V10.out.below bj)
      clear JS hT bj
      have JS := Lib.hid (join_same gv hv gu hu nl cV P AV l k zv zu wj10 V11.out U11.out HNL.out (by omega) IV11.out EV.out HLS.out HP.out (by omega) hk1 (by omega) (fun i _ => ZB5.out i) (fun i _ => ZB4.out i))
      go_wp2_with fail
      refine JS.out.mono ?_
      rintro e wj11 ⟨⟨gq, hq, A'11, c'11, rfl, hT⟩, bj⟩
      have S12 := Lib.hid (S11.out.next bj)
      have TQ12 := Lib.hid hT
      have IV12 := Lib.hid (IV11.out.below bj (Nat.le_refl _))
      have TP12 := Lib.hid (TP11.out.below bj)
      clear JS hT bj
      have JS := Lib.hid (join_same gq hq g h nl cV P AV l k _ zt wj11 TQ12.out (Lib.hid S12.out.t).out HNL.out (by omega) IV12.out EV.out HLS.out HP.out (by omega) hk1 (by omega) (fun i _ => capA_in (ZB5.out i).1 (ZB4.out i).1 (by omega)) (fun i _ => ZB1.out i))
      go_wp2_with fail
      refine JS.out.mono ?_
      rintro e wj12 ⟨⟨gq2, hq2, A'12, c'12, rfl, hT⟩, bj⟩
      have S13 := Lib.hid (S12.out.next bj)
      have TQ13 := Lib.hid hT
      have IV13 := Lib.hid (IV12.out.below bj (Nat.le_refl _))
      have TP13 := Lib.hid (TP12.out.below bj)
      clear JS hT bj
      have TQ : Hid (TabAt wj12 gq2 hq2 l k (fun i => capA (capA (zt i) (zu i) k) (zv i) k)) := Lib.hid (TQ13.out.congr fun i _ => capA_turn (ZB1.out i).1 (ZB4.out i).1 (ZB5.out i).1)
      go_wp2_with fail
      refine (tsame_yes gp2 hp2 gq2 hq2 P l k _ wj12 TP13.out TQ.out HP.out (by omega)).mono ?_
      rintro e wz ⟨rfl, bz⟩
      have SZ := Lib.hid (S13.out.next bz)
      clear bz
      go_wp2_with fail
      go_ret
      exact ⟨rfl, SZ.out.bel⟩
end Go.Proofs.YtpdcpaoabalgcaaGreatDoor
