/- The walk of TableJoins (no statement of its own). Condition: the library's table reads as its initialiser lays it. -/
import Derived.Test.YtpdcpaoabalgcaaGreatDoorTwS
import Derived.Test.YtpdcpaoabalgcaaGreatDoorTjc
import Derived.Test.YtpdcpaoabalgcaaGreatDoorTjd
import Derived.Test.YtpdcpaoabalgcaaGreatDoorTjC
import Derived.Test.YtpdcpaoabalgcaaGreatDoorTjD
import Derived.Test.YtpdcpaoabalgcaaGreatDoorTji
namespace Go.Proofs.YtpdcpaoabalgcaaGreatDoor
open Go.RowKit Go.Shelf Go.Sort
set_option linter.unusedVariables false
attribute [local go_sem] Oper.semAt_some
open Dm (Mem mem setV setO Tab)
/-- What the two scopes' region reads. -/
abbrev HoldSc (wb : World) (bx bz n1 cs1 n2 cs2 : Nat) (As1 As2 : Option Addr) (W : World) : Prop :=
  W.cell? ⟨bx, 0, none⟩ = some (.slice As1 n1 cs1) ∧ W.cell? ⟨bz, 0, none⟩ = some (.slice As2 n2 cs2) ∧ Below wb.heap.size wb W
theorem holdSc {wb W W' : World} {bx bz n1 cs1 n2 cs2 : Nat} {As1 As2 : Option Addr} (H : HoldSc wb bx bz n1 cs1 n2 cs2 As1 As2 W) (hb : Below W.heap.size W W') : HoldSc wb bx bz n1 cs1 n2 cs2 As1 As2 W' := by
  obtain ⟨a0, a1, h8⟩ := H
  have K : ∀ b i v, W.cell? ⟨b, i, none⟩ = some v → W'.cell? ⟨b, i, none⟩ = some v := fun b i v h => (hb.cell (p := ⟨b, i, none⟩) (World.block_lt_of_cell? W _ h)).trans h
  exact ⟨K _ _ _ a0, K _ _ _ a1, h8.trans (hb.mono h8.size)⟩
set_option maxRecDepth 100000 in
set_option maxHeartbeats 16000000 in
theorem joins_walk (A B L M R S : Option Addr) (nA cA nB cB mL cL mM cM nR cR nS cS : Nat) (zA zB zR zS yL yM : Nat → Int) (a : Int) (w : World) (hT : Tab w) (hnA : (nA : Int) ≤ 9223372036854775807) (hzA : Bytes w A nA zA) (hnB : (nB : Int) ≤ 9223372036854775807) (hzB : Bytes w B nB zB) (ha0 : 0 ≤ a) (ha1 : a ≤ 65535)
    (hmL : (mL : Int) ≤ 9223372036854775807) (hL : Words w L mL yL) (hmM : (mM : Int) ≤ 9223372036854775807) (hM : Words w M mM yM) (hnR : (nR : Int) ≤ 9223372036854775807) (hzR : Bytes w R nR zR) (hnS : (nS : Int) ≤ 9223372036854775807) (hzS : Bytes w S nS zS) :
    Calls Tryz.prog 3 #[.slice A nA cA, .slice B nB cB, .int .u16 a, .slice L mL cL, .slice M mM cM, .slice R nR cR, .slice S nS cS] w fun e w' => e = .returned (.bool true) ∧ Below w.heap.size w w' := by
  have HTab := Lib.hid hT
  have HZA := Lib.hid hzA
  have HZB := Lib.hid hzB
  have HZR := Lib.hid hzR
  have HZS := Lib.hid hzS
  have HL := Lib.hid hL
  have HM := Lib.hid hM
  clear hT hzA hzB hzR hzS hL hM
  go_enter Tryz.func3, Tryz.ntmps3
  go_wp2_with fail
  refine (awake4_true w HTab.out).mono ?_
  rintro e w1 ⟨rfl, b1⟩
  have B1 := Lib.hid b1
  clear b1
  go_wp2_with fail
  refine (top_any a w1 ha0 ha1).mono ?_
  rintro e w' ⟨rfl, rfl⟩
  obtain ⟨k, hk⟩ : ∃ k, 1 + a % 200 = k := ⟨_, rfl⟩
  have hk1 : 1 ≤ k := by omega
  have hk2 : k ≤ 200 := by omega
  have HK := Lib.hid hk
  rw [hk]
  clear hk
  obtain ⟨l1, hl⟩ : ∃ l, smL zA (min nA 3) = l := ⟨_, rfl⟩
  obtain ⟨P1, hP⟩ : ∃ P, prodL l1 = P := ⟨_, rfl⟩
  have hP1 : 1 ≤ P1 ∧ P1 ≤ 64 := by rw [← hP, ← hl]; exact smL_prod zA _ (by omega)
  have hl13 : l1.length ≤ 3 := by rw [← hl, smL_len]; omega
  have hls1 : ∀ x ∈ l1, 1 ≤ x ∧ x ≤ 4 := fun x hx => by rw [← hl] at hx; have := smL_small zA _ x hx; omega
  have MD := Lib.hid (made_any A L nA cA mL cL P1 l1 zA yL k w1 hnA (HZA.out.below B1.out) hmL (HL.out.below B1.out) hk1 (by omega) hl hP)
  have HP1 := Lib.hid hP
  have HL1 := Lib.hid hl
  have HS1 := Lib.hid hls1
  clear hl hP hls1
  go_wp2_with fail
  refine MD.out.mono ?_
  rintro e w2 ⟨g1, h1, As1, cs1, Ac1, cc1, rfl, hTb, hI, hcs, hZc, hg, hh, b2⟩
  clear MD
  have n3 := new_val w2 (.cells #[.slice As1 l1.length cs1, .int .i64 k, .slice Ac1 P1 cc1] 30)
  have S3 : Hid (TwS w w2.heap.size g1 h1 As1 cs1 Ac1 cc1 P1 l1 k (mkC k yL mL) (w2.alloc (.cells #[.slice As1 l1.length cs1, .int .i64 k, .slice Ac1 P1 cc1] 30))) :=
    Lib.hid ⟨heap_alloc_new w2 _, hTb.below n3, hI.below n3 (Nat.le_refl _), hZc.below n3 (Nat.le_refl _), (HTab.out.below B1.out HTab.out.pos).below ((b2.trans (n3.mono b2.size))) (Nat.lt_of_lt_of_le HTab.out.pos B1.out.size), then_ (then_ B1.out b2) n3⟩
  have ZB1 : Hid (∀ i, 0 ≤ mkC k yL mL i ∧ mkC k yL mL i ≤ k) := Lib.hid fun i => mkC_in hk1 (fun hjm => by obtain ⟨_, _, _, _, h1, _⟩ := HL.out i hjm; exact h1)
  have HC1 := Lib.hid hcs
  generalize mkC k yL mL = z1 at S3 ZB1
  clear hTb hI hcs hZc hg hh b2 n3
  go_upto_region 4 with fail
  generalize w2.alloc (.cells #[.slice As1 l1.length cs1, .int .i64 k, .slice Ac1 P1 cc1] 30) = w3 at S3 ⊢
  generalize w2.heap.size = bx at S3 ⊢
  go_wp2_with fail
  refine (top_any a w3 ha0 ha1).mono ?_
  rintro e w' ⟨rfl, rfl⟩
  rw [HK.out]
  obtain ⟨l2, hl⟩ : ∃ l, smL zB (min nB 3) = l := ⟨_, rfl⟩
  obtain ⟨P2, hP⟩ : ∃ P, prodL l2 = P := ⟨_, rfl⟩
  have hP2 : 1 ≤ P2 ∧ P2 ≤ 64 := by rw [← hP, ← hl]; exact smL_prod zB _ (by omega)
  have hl23 : l2.length ≤ 3 := by rw [← hl, smL_len]; omega
  have hls2 : ∀ x ∈ l2, 1 ≤ x ∧ x ≤ 4 := fun x hx => by rw [← hl] at hx; have := smL_small zB _ x hx; omega
  have MD := Lib.hid (made_any B M nB cB mM cM P2 l2 zB yM k w3 hnB (HZB.out.below S3.out.bel) hmM (HM.out.below S3.out.bel) hk1 (by omega) hl hP)
  have HP2 := Lib.hid hP
  have HL2 := Lib.hid hl
  have HS2 := Lib.hid hls2
  clear hl hP hls2
  go_wp2_with fail
  refine MD.out.mono ?_
  rintro e w4 ⟨g2, h2, As2, cs2, Ac2, cc2, rfl, hTb, hI, hcs, hZc, hg, hh, b2⟩
  clear MD
  have nx := new_val w4 (.cells #[.slice As2 l2.length cs2, .int .i64 k, .slice Ac2 P2 cc2] 30)
  have S4 := Lib.hid ((S3.out.next b2).next nx)
  have T4 : Hid (TwS w w4.heap.size g2 h2 As2 cs2 Ac2 cc2 P2 l2 k (mkC k yM mM) (w4.alloc (.cells #[.slice As2 l2.length cs2, .int .i64 k, .slice Ac2 P2 cc2] 30))) :=
    Lib.hid ⟨heap_alloc_new w4 _, hTb.below nx, hI.below nx (Nat.le_refl _), hZc.below nx (Nat.le_refl _), S4.out.tab, S4.out.bel⟩
  have ZB2 : Hid (∀ i, 0 ≤ mkC k yM mM i ∧ mkC k yM mM i ≤ k) := Lib.hid fun i => mkC_in hk1 (fun hjm => by obtain ⟨_, _, _, _, h1, _⟩ := HM.out i hjm; exact h1)
  have HC2 := Lib.hid hcs
  generalize mkC k yM mM = z2 at T4 ZB2
  clear hTb hI hcs hZc hg hh b2 S3
  go_upto_region 5 with fail
  generalize w4.alloc (.cells #[.slice As2 l2.length cs2, .int .i64 k, .slice Ac2 P2 cc2] 30) = w5 at S4 T4 ⊢
  generalize w4.heap.size = bz at S4 T4 ⊢
  clear nx
  obtain ⟨n1, hn1⟩ : ∃ n, l1.length = n := ⟨_, rfl⟩
  obtain ⟨n2, hn2⟩ : ∃ n, l2.length = n := ⟨_, rfl⟩
  have HN1 := Lib.hid hn1
  have HN2 := Lib.hid hn2
  have x1 := S4.out.c0
  have x2 := T4.out.c0
  rw [hn1] at hl13 x1
  rw [hn2] at hl23 x2
  clear hn1 hn2
  refine wp_region_noPanic ?_
  refine wp_region_held_drew (S := fun W => HoldSc w5 bx bz n1 cs1 n2 cs2 As1 As2 W) (by kernel_rfl) (holdSc (⟨x1, x2, Below.refl _ _⟩ : HoldSc w5 bx bz n1 cs1 n2 cs2 As1 As2 w5) ((Below.refl _ _).drew)) (fun hHeld => ?_)
  have BD := Lib.hid ((Below.refl w5.heap.size w5).drew)
  clear x1 x2
  generalize w5.drew = w6 at hHeld BD ⊢
  refine wpAnyH_take (i := 0) (v := ?v501) rfl (by kernel_rfl) (by kernel_rfl) (by kernel_rfl) (fun _ _ _ h => h) (Or.inl ⟨by rfl, ?y501⟩) (by assumption) ?r501
  case y501 => ((intro w hSw; (try dsimp only at hSw); go_simp); try with_reducible rfl)
  try simp only [Act.put, List.getElem_toArray, List.getElem_cons_zero, List.setIfInBounds_toArray, List.set_cons_zero, List.set_cons_succ]
  refine wpAnyH_take (i := 1) (v := ?v502) rfl (by kernel_rfl) (by kernel_rfl) (by kernel_rfl) (fun _ _ _ h => h) (Or.inl ⟨by rfl, ?y502⟩) (by assumption) ?r502
  case y502 => ((intro w hSw; (try dsimp only at hSw); go_simp); try with_reducible rfl)
  try simp only [Act.put, List.getElem_toArray, List.getElem_cons_succ, List.getElem_cons_zero, List.setIfInBounds_toArray, List.set_cons_zero, List.set_cons_succ]
  refine wpAnyH_take (i := 2) (v := ?v503) rfl (by kernel_rfl) (by kernel_rfl) (by kernel_rfl) (fun _ _ _ h => h) (Or.inl ⟨by rfl, ?y503⟩) (by assumption) ?r503
  case y503 => ((intro w hSw; (try dsimp only at hSw); go_simp); try with_reducible rfl)
  try simp only [Act.put, List.getElem_toArray, List.getElem_cons_succ, List.getElem_cons_zero, List.setIfInBounds_toArray, List.set_cons_zero, List.set_cons_succ]
  refine wpAnyH_take (i := 3) (v := ?v504) rfl (by kernel_rfl) (by kernel_rfl) (by kernel_rfl) (fun _ _ _ h => h) (Or.inl ⟨by rfl, ?y504⟩) (by assumption) ?r504
  case y504 => ((intro w hSw; (try dsimp only at hSw); go_simp); try with_reducible rfl)
  try simp only [Act.put, List.getElem_toArray, List.getElem_cons_succ, List.getElem_cons_zero, List.setIfInBounds_toArray, List.set_cons_zero, List.set_cons_succ]
  refine wpAnyH_take (i := 5) (v := ?v505) rfl (by kernel_rfl) (by kernel_rfl) (by kernel_rfl) (fun _ _ _ h => h) (Or.inl ⟨by rfl, ?y505⟩) (by assumption) ?r505
  case y505 => ((intro w hSw; (try dsimp only at hSw); go_simp); try with_reducible rfl)
  try simp only [Act.put, List.getElem_toArray, List.getElem_cons_succ, List.getElem_cons_zero, List.setIfInBounds_toArray, List.set_cons_zero, List.set_cons_succ]
  refine wpAnyH_take (i := 6) (v := ?v506) rfl (by kernel_rfl) (by kernel_rfl) (by kernel_rfl) (fun _ _ _ h => h) (Or.inl ⟨by rfl, ?y506⟩) (by assumption) ?r506
  case y506 => ((intro w hSw; (try dsimp only at hSw); go_simp); try with_reducible rfl)
  try simp only [Act.put, List.getElem_toArray, List.getElem_cons_succ, List.getElem_cons_zero, List.setIfInBounds_toArray, List.set_cons_zero, List.set_cons_succ]
  refine wpAnyH_take (i := 7) (v := ?v507) rfl (by kernel_rfl) (by kernel_rfl) (by kernel_rfl) (fun _ _ _ h => h) (Or.inl ⟨by rfl, ?y507⟩) (by assumption) ?r507
  case y507 => ((intro w hSw; (try dsimp only at hSw); go_simp); try with_reducible rfl)
  try simp only [Act.put, List.getElem_toArray, List.getElem_cons_succ, List.getElem_cons_zero, List.setIfInBounds_toArray, List.set_cons_zero, List.set_cons_succ]
  refine wpAnyH_take (i := 8) (v := ?v508) rfl (by kernel_rfl) (by kernel_rfl) (by kernel_rfl) (fun _ _ _ h => h) (Or.inl ⟨by rfl, ?y508⟩) (by assumption) ?r508
  case y508 => ((intro w hSw; (try dsimp only at hSw); go_simp); try with_reducible rfl)
  try simp only [Act.put, List.getElem_toArray, List.getElem_cons_succ, List.getElem_cons_zero, List.setIfInBounds_toArray, List.set_cons_zero, List.set_cons_succ]
  refine wpAnyH_ready (rs := [4]) (by kernel_rfl) (by simp) ?_
  refine AllReadyH.cons rfl (fun K hK => ?_) ?_
  · go_simp
    refine (scope_any R n1 nR cR zR w6 (HZR.out.below (S4.out.bel.trans (hHeld.2.2.mono S4.out.bel.size))) (by omega) hnR).mono ?_
    rintro e w7 ⟨⟨v1, rfl, hO⟩, hb⟩
    have O1 := Lib.hid hO
    refine hK.out _ _ (holdSc hHeld hb) (fun hHeld' => ?_)
    clear hHeld
    have hHeld := hHeld'
    clear hHeld'
    clear hO hb
    clear hK K
    try simp only [Act.put, List.getElem_toArray, List.getElem_cons_succ, List.getElem_cons_zero, List.setIfInBounds_toArray, List.set_cons_zero, List.set_cons_succ]
    refine wpAnyH_ready (rs := [9]) (by kernel_rfl) (by simp) ?_
    refine AllReadyH.cons rfl (fun K hK => ?_) ?_
    · go_simp
      refine (scope_any S n2 nS cS zS w7 (HZS.out.below (S4.out.bel.trans (hHeld.2.2.mono S4.out.bel.size))) (by omega) hnS).mono ?_
      rintro e w8 ⟨⟨v2, rfl, hO⟩, hb⟩
      have O2 := Lib.hid hO
      have O1 := Lib.hid (O1.out.below hb (Nat.le_refl _))
      refine hK.out _ _ (holdSc hHeld hb) (fun hHeld' => ?_)
      clear hHeld
      have hHeld := hHeld'
      clear hHeld'
      clear hO hb
      clear hK K
      try simp only [Act.put, List.getElem_toArray, List.getElem_cons_succ, List.getElem_cons_zero, List.setIfInBounds_toArray, List.set_cons_zero, List.set_cons_succ]
      refine wpAnyH_take (i := 10) (v := ?v509) rfl (by kernel_rfl) (by kernel_rfl) (by kernel_rfl) (fun _ _ _ h => h) (Or.inl ⟨by rfl, ?y509⟩) (by assumption) ?r509
      case y509 => ((intro w hSw; (try dsimp only at hSw); go_simp); try with_reducible rfl)
      try simp only [Act.put, List.getElem_toArray, List.getElem_cons_succ, List.getElem_cons_zero, List.setIfInBounds_toArray, List.set_cons_zero, List.set_cons_succ]
      refine wpAnyH_take (i := 11) (v := ?v510) rfl (by kernel_rfl) (by kernel_rfl) (by kernel_rfl) (fun _ _ _ h => h) (Or.inl ⟨by rfl, ?y510⟩) (by assumption) ?r510
      case y510 => ((intro w hSw; (try dsimp only at hSw); go_simp); try with_reducible rfl)
      try simp only [Act.put, List.getElem_toArray, List.getElem_cons_succ, List.getElem_cons_zero, List.setIfInBounds_toArray, List.set_cons_zero, List.set_cons_succ]
      refine wpAnyH_done (by kernel_rfl) ?_ _
      refine NoPanic.normal ?_
      have S8 := Lib.hid (S4.out.next hHeld.2.2)
      have T8 := Lib.hid (T4.out.next hHeld.2.2)
      clear hHeld BD S4 T4
      obtain ⟨A1, c1, e1, i1⟩ := O1.out.form
      obtain ⟨A2, c2, e2, i2⟩ := O2.out.form
      rw [scL_len] at e1 e2
      subst e1 e2
      have E1 : Hid (A1 = none → c1 = 0) := Lib.hid (own_none O1.out)
      have E2 : Hid (A2 = none → c2 = 0) := Lib.hid (own_none O2.out)
      have J1 := Lib.hid i1
      have J2 := Lib.hid i2
      have VR1 := Lib.hid (scL_rises zR nR n1)
      have VR2 := Lib.hid (scL_rises zS nS n2)
      have VL1 := Lib.hid (scL_len zR nR n1)
      have VL2 := Lib.hid (scL_len zS nS n2)
      have V121 := Lib.hid (scL_lt zR nR hl13)
      have V122 := Lib.hid (scL_lt zS nS hl23)
      clear i1 i2 O1 O2
      generalize scL zR nR n1 = va at J1 VR1 VL1 V121
      generalize scL zS nS n2 = vb at J2 VR2 VL2 V122
      obtain ⟨V, hV⟩ : ∃ V, unL va vb 12 = V := ⟨_, rfl⟩
      have HU : Hid (Uni V va vb) := Lib.hid (by rw [← hV]; exact uni_unL V121.out V122.out)
      have hVl : V.length ≤ 6 := by have := uni_len HU.out; have := VL1.out; have := VL2.out; omega
      obtain ⟨mm, hmm⟩ : ∃ n, V.length = n := ⟨_, rfl⟩
      obtain ⟨P, hP⟩ : ∃ P, prodL (V.map (szU va vb l1 l2)) = P := ⟨_, rfl⟩
      have hSZ := szU_small (Q := fun n => 1 ≤ n ∧ n ≤ 4) HU.out VR1.out VR2.out (HN1.out.trans VL1.out.symm) (HN2.out.trans VL2.out.symm) HS1.out HS2.out
      have hP4 : P ≤ 4096 := by rw [← hP]; exact prod_4096 (by rw [List.length_map]; exact hVl) fun n hn => (hSZ n hn).2
      rw [hmm] at hVl
      have HV := Lib.hid hV
      have HMM := Lib.hid hmm
      have HPP := Lib.hid hP
      clear hV hmm hP hSZ
      rcases hag : AgB va vb l1 l2 with _ | _
      · have HAG := Lib.hid hag
        clear hag
        have JN := Lib.hid (join_no g1 h1 n1 c1 g2 h2 n2 c2 A1 A2 l1 l2 va vb k k z1 z2 w8 S8.out.t T8.out.t HN1.out HN2.out VL1.out VL2.out J1.out J2.out (by omega) (by omega) VR1.out VR2.out HAG.out)
        go_wp2_with fail
        refine JN.out.mono ?_
        rintro e w9 ⟨rfl, b9⟩
        have S9 := Lib.hid (S8.out.next b9)
        have T9 := Lib.hid (T8.out.next b9)
        have K1 := Lib.hid (J1.out.below b9 (Nat.le_refl _))
        have K2 := Lib.hid (J2.out.below b9 (Nat.le_refl _))
        clear JN b9 S8 T8 J1 J2
        have x0 := S9.out.c0
        have x1 := S9.out.c1
        have x2 := S9.out.c2
        have y0 := T9.out.c0
        have y1 := T9.out.c1
        have y2 := T9.out.c2
        rw [HN1.out] at x0
        rw [HN2.out] at y0
        have RJ := Lib.hid (rjoin_any As1 Ac1 As2 Ac2 A1 A2 cs1 cc1 cs2 cc2 c1 c2 n1 n2 mm P1 P2 P l1 l2 va vb V k k z1 z2 w9 (by omega) (by omega) (by rw [← HN1.out]; exact HC1.out) (by rw [← HN2.out]; exact HC2.out) (by omega) (by omega) HN1.out HN2.out VL1.out VL2.out VR1.out VR2.out V121.out V122.out HV.out HMM.out hVl (fun n hn => by have := HS1.out n hn; omega) (fun n hn => by have := HS2.out n hn; omega) HPP.out hP4 hk1 (by omega) (fun i _ => ZB1.out i) (fun i _ => ZB2.out i) HP1.out HP2.out S9.out.i T9.out.i S9.out.c T9.out.c K1.out K2.out)
        go_wp2_with fail
        refine RJ.out.mono ?_
        rintro e w10 ⟨⟨hY, _⟩ | ⟨-, A9, m9, c9, rfl⟩, b10⟩
        · rw [HAG.out] at hY
          cases hY
        have BF := Lib.hid (then_ S9.out.bel b10)
        clear RJ b10 x0 x1 x2 y0 y1 y2 S9 T9 K1 K2
        go_wp2_with fail
        go_ret
        exact ⟨rfl, then_ BF.out (new_val _ _)⟩
      · have HAG := Lib.hid hag
        clear hag
        have HJM : Hid (joinL V.length (plcL V va) l1 (plcL V vb) l2 = V.map (szU va vb l1 l2)) := Lib.hid (joinL_map HU.out VR1.out VR2.out (HN1.out.trans VL1.out.symm) (HN2.out.trans VL2.out.symm) HAG.out)
        have JY := Lib.hid (join_uni g1 h1 n1 c1 g2 h2 n2 c2 P A1 A2 l1 l2 va vb V k z1 z2 w8 S8.out.t T8.out.t HN1.out HN2.out VL1.out VL2.out J1.out J2.out (by omega) (by omega) E1.out E2.out VR1.out VR2.out HAG.out HU.out (by rw [HMM.out]; exact hVl) (fun n hn => by have := HS1.out n hn; omega) (fun n hn => by have := HS2.out n hn; omega) (by rw [HJM.out]; exact HPP.out) hP4 hk1 (by omega) (fun i _ => ZB1.out i) (fun i _ => ZB2.out i))
        go_wp2_with fail
        refine JY.out.mono ?_
        rintro e w9 ⟨g3, h3, A3, c3, rfl, hT3, hI3, -, -, b9⟩
        rw [HJM.out] at hT3
        rw [HMM.out]
        have S9 := Lib.hid (S8.out.next b9)
        have T9 := Lib.hid (T8.out.next b9)
        have K1 := Lib.hid (J1.out.below b9 (Nat.le_refl _))
        have K2 := Lib.hid (J2.out.below b9 (Nat.le_refl _))
        have U9 := Lib.hid hT3
        have I9 := Lib.hid hI3
        clear JY b9 S8 T8 J1 J2 hT3 hI3
        have x0 := S9.out.c0
        have x1 := S9.out.c1
        have x2 := S9.out.c2
        have y0 := T9.out.c0
        have y1 := T9.out.c1
        have y2 := T9.out.c2
        rw [HN1.out] at x0
        rw [HN2.out] at y0
        have RJ := Lib.hid (rjoin_any As1 Ac1 As2 Ac2 A1 A2 cs1 cc1 cs2 cc2 c1 c2 n1 n2 mm P1 P2 P l1 l2 va vb V k k z1 z2 w9 (by omega) (by omega) (by rw [← HN1.out]; exact HC1.out) (by rw [← HN2.out]; exact HC2.out) (by omega) (by omega) HN1.out HN2.out VL1.out VL2.out VR1.out VR2.out V121.out V122.out HV.out HMM.out hVl (fun n hn => by have := HS1.out n hn; omega) (fun n hn => by have := HS2.out n hn; omega) HPP.out hP4 hk1 (by omega) (fun i _ => ZB1.out i) (fun i _ => ZB2.out i) HP1.out HP2.out S9.out.i T9.out.i S9.out.c T9.out.c K1.out K2.out)
        go_wp2_with fail
        refine RJ.out.mono ?_
        rintro e w10 ⟨hh, b10⟩
        obtain ⟨-, A9, c9, A10, c10, A11, c11, rfl, hI, hZ, hVV⟩ := hh.resolve_right (fun h => by have h1 := h.1; rw [HAG.out] at h1; cases h1)
        have nx := new_val w10 (.cells #[.slice A9 mm c9, .int .i64 k, .slice A10 P c10] 30)
        have S11 := Lib.hid ((S9.out.next b10).next nx)
        have T11 := Lib.hid ((T9.out.next b10).next nx)
        have K11 := Lib.hid ((K1.out.below b10 (Nat.le_refl _)).below nx (Nat.le_refl _))
        have K12 := Lib.hid ((K2.out.below b10 (Nat.le_refl _)).below nx (Nat.le_refl _))
        have U11 := Lib.hid ((U9.out.below b10).below nx)
        have I11 := Lib.hid ((I9.out.below b10 (Nat.le_refl _)).below nx (Nat.le_refl _))
        have R11 := Lib.hid (hI.below nx (Nat.le_refl _))
        have Z11 := Lib.hid (hZ.below nx (Nat.le_refl _))
        have V11 := Lib.hid (hVV.below nx (Nat.le_refl _))
        have X11 : Hid ((w10.alloc (.cells #[.slice A9 mm c9, .int .i64 k, .slice A10 P c10] 30)).heap[w10.heap.size]? = some (.cells #[.slice A9 mm c9, .int .i64 k, .slice A10 P c10] 30 (0, 0))) := Lib.hid (heap_alloc_new w10 _)
        clear RJ hh hI hZ hVV b10 x0 x1 x2 y0 y1 y2 S9 T9 K1 K2 U9 I9 nx
        go_upto_region 8 with fail
        generalize w10.alloc (.cells #[.slice A9 mm c9, .int .i64 k, .slice A10 P c10] 30) = w11 at S11 T11 K11 K12 U11 I11 R11 Z11 V11 X11 ⊢
        generalize w10.heap.size = bq at X11 ⊢
        have JY := Lib.hid (join_uni g2 h2 n2 c2 g1 h1 n1 c1 P A2 A1 l2 l1 vb va V k z2 z1 w11 T11.out.t S11.out.t HN2.out HN1.out VL2.out VL1.out K12.out K11.out (by omega) (by omega) E2.out E1.out VR2.out VR1.out (agB_swap VR1.out VR2.out HAG.out) HU.out.swap (by rw [HMM.out]; exact hVl) (fun n hn => by have := HS2.out n hn; omega) (fun n hn => by have := HS1.out n hn; omega) (by rw [joinL_swap HU.out VR1.out VR2.out (HN1.out.trans VL1.out.symm) (HN2.out.trans VL2.out.symm) HAG.out, HJM.out]; exact HPP.out) hP4 hk1 (by omega) (fun i _ => ZB2.out i) (fun i _ => ZB1.out i))
        go_wp2_with fail
        refine JY.out.mono ?_
        rintro e w12 ⟨g4, h4, A4, c4, rfl, hT4, -, -, -, b12⟩
        rw [joinL_swap HU.out VR1.out VR2.out (HN1.out.trans VL1.out.symm) (HN2.out.trans VL2.out.symm) HAG.out, HJM.out] at hT4
        have W12 : Hid (TabAt w12 g4 h4 (V.map (szU va vb l1 l2)) k (joinZ (V.map (szU va vb l1 l2)) (plcL V va) (plcL V vb) l1 l2 z1 z2 k)) := Lib.hid (hT4.congr fun i _ => joinZ_swap _ _ _ _ _ _ _ _ _)
        have S12 := Lib.hid (S11.out.next b12)
        have T12 := Lib.hid (T11.out.next b12)
        have U12 := Lib.hid (U11.out.below b12)
        have I12 := Lib.hid (I11.out.below b12 (Nat.le_refl _))
        have R12 := Lib.hid (R11.out.below b12 (Nat.le_refl _))
        have Z12 := Lib.hid (Z11.out.below b12 (Nat.le_refl _))
        have V12 := Lib.hid (V11.out.below b12 (Nat.le_refl _))
        have X12 : Hid (w12.heap[bq]? = _) := Lib.hid ((b12.block _ (Array.getElem?_eq_some_iff.1 X11.out).1).trans X11.out)
        clear JY hT4 b12 S11 T11 K11 K12 U11 I11 R11 Z11 V11 X11
        go_wp2_with fail
        refine (equal_yes A3 A11 mm c3 c11 V w12 HMM.out.symm (by omega) I12.out V12.out).mono ?_
        rintro e w13 ⟨rfl, b13⟩
        have S13 := Lib.hid (S12.out.next b13)
        have T13 := Lib.hid (T12.out.next b13)
        have U13 := Lib.hid (U12.out.below b13)
        have W13 := Lib.hid (W12.out.below b13)
        have R13 := Lib.hid (R12.out.below b13 (Nat.le_refl _))
        have Z13 := Lib.hid (Z12.out.below b13 (Nat.le_refl _))
        have X13 : Hid (w13.heap[bq]? = _) := Lib.hid ((b13.block _ (Array.getElem?_eq_some_iff.1 X12.out).1).trans X12.out)
        clear b13 S12 T12 U12 W12 R12 Z12 X12
        have x0 : w13.cell? ⟨bq, 0, none⟩ = some (.slice A9 mm c9) := by rw [cell_of_row _ _ _ _ _ _ X13.out]; rfl
        have x1 : w13.cell? ⟨bq, 1, none⟩ = some (.int .i64 k) := by rw [cell_of_row _ _ _ _ _ _ X13.out]; rfl
        have x2 : w13.cell? ⟨bq, 2, none⟩ = some (.slice A10 P c10) := by rw [cell_of_row _ _ _ _ _ _ X13.out]; rfl
        have LY := like_yes g3 h3 c9 c10 P A9 A10 (V.map (szU va vb l1 l2)) k (joinZ (V.map (szU va vb l1 l2)) (plcL V va) (plcL V vb) l1 l2 z1 z2 k) w13 U13.out R13.out Z13.out HPP.out hP4 (by rw [List.length_map, HMM.out]; exact hVl)
        rw [List.length_map, HMM.out] at LY
        have LY := Lib.hid LY
        go_wp2_with fail
        refine LY.out.mono ?_
        rintro e w14 ⟨rfl, b14⟩
        clear LY x0 x1 x2 X13 R13 Z13
        have S14 := Lib.hid (S13.out.next b14)
        have T14 := Lib.hid (T13.out.next b14)
        have U14 := Lib.hid (U13.out.below b14)
        have W14 := Lib.hid (W13.out.below b14)
        clear b14 S13 T13 U13 W13
        go_wp2_with fail
        refine (tsame_yes g3 h3 g4 h4 P (V.map (szU va vb l1 l2)) k (joinZ (V.map (szU va vb l1 l2)) (plcL V va) (plcL V vb) l1 l2 z1 z2 k) w14 U14.out W14.out HPP.out hP4).mono ?_
        rintro e w15 ⟨rfl, b15⟩
        clear U14 W14
        have S15 := Lib.hid (S14.out.next b15)
        have T15 := Lib.hid (T14.out.next b15)
        clear b15 S14 T14
        have x0 := S15.out.c0
        have x1 := S15.out.c1
        have x2 := S15.out.c2
        rw [HN1.out] at x0
        have LY := like_yes g1 h1 cs1 cc1 P1 As1 Ac1 l1 k z1 w15 S15.out.t S15.out.i S15.out.c HP1.out (by omega) (by rw [HN1.out]; omega)
        rw [HN1.out] at LY
        have LY := Lib.hid LY
        go_wp2_with fail
        refine LY.out.mono ?_
        rintro e w16 ⟨rfl, b16⟩
        clear LY x0 x1 x2
        have S16 := Lib.hid (S15.out.next b16)
        have T16 := Lib.hid (T15.out.next b16)
        clear b16 S15 T15
        have x0 := T16.out.c0
        have x1 := T16.out.c1
        have x2 := T16.out.c2
        rw [HN2.out] at x0
        have LY := like_yes g2 h2 cs2 cc2 P2 As2 Ac2 l2 k z2 w16 T16.out.t T16.out.i T16.out.c HP2.out (by omega) (by rw [HN2.out]; omega)
        rw [HN2.out] at LY
        have LY := Lib.hid LY
        go_wp2_with fail
        refine LY.out.mono ?_
        rintro e w17 ⟨rfl, b17⟩
        have BF := Lib.hid (then_ S16.out.bel b17)
        clear LY x0 x1 x2 b17
        go_wp2_with fail
        go_ret
        exact ⟨rfl, BF.out⟩
    exact AllReadyH.nil
  exact AllReadyH.nil
end Go.Proofs.YtpdcpaoabalgcaaGreatDoor
