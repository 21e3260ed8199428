import Derived.Test.YtmokogkndbinlaaGreatDoorZgbu
set_option linter.all false
namespace Go.Proofs.YtmokogkndbinlaaGreatDoor
open Go.Lib (hid)
open Go.RowKit Go.Shelf
theorem CanF.pos {k : Int} {sizes : List Nat} {ps : List PartM} {cfs : List FunM} (h : CanF k sizes ps cfs) {c : FunM} (hc : c ∈ cfs) (hl : c.lines.length = 0) : 0 < c.other ∧ min c.other k = c.other := by
 obtain ⟨z, o, ec, hzk, hm, h1⟩ := h.frm c hc
 have ho := most_in hzk hm
 have e1 : c.other = o := by rw [ec]; rfl
 have hS := (h.can.mem c.scope).1 (List.mem_map.2 ⟨asP k sizes c, List.mem_map_of_mem hc, rfl⟩)
 obtain ⟨_, i, hi, hz⟩ := hS
 have h2 := h.can.sum (asP k sizes c) (List.mem_map_of_mem hc) i hi
 have h3 : (asP k sizes c).z i = z i := by
  have := canF_z (sizes := sizes) (S := c.scope) h1 hzk ho hi
  rw [← ec] at this
  exact this
 have h2 : z i = grpM k ps c.scope i := h3.symm.trans h2
 have h4 : c.lines = [] := List.eq_nil_of_length_eq_zero hl
 have h5 : z i = o := by
  rw [← h3]
  show funF k c _ = o
  unfold funF
  rw [h4, e1, Int.min_eq_left ho.2.2.2]
  rfl
 have hz : 0 < grpM k ps c.scope i := hz
 rw [e1]
 exact ⟨by omega, Int.min_eq_left ho.2.2.2⟩
theorem CanF.two {k : Int} {sizes : List Nat} {ps : List PartM} {cfs : List FunM} (h : CanF k sizes ps cfs) {j : Nat} {c d : FunM} (hc : cfs[j]? = some c) (hd : cfs[j + 1]? = some d) : ltS c.scope d.scope := by
 have h1 := h.can.ris
 rw [List.map_map, List.pairwise_iff_getElem] at h1
 have hj := (List.getElem?_eq_some_iff.1 hc).1
 have hj2 := (List.getElem?_eq_some_iff.1 hd).1
 have := h1 j (j + 1) (by simpa using hj) (by simpa using hj2) (by omega)
 have ec := (List.getElem?_eq_some_iff.1 hc).2
 have ed := (List.getElem?_eq_some_iff.1 hd).2
 simp only [List.getElem_map] at this
 rw [ec, ed] at this
 exact this
set_option maxRecDepth 100000 in
set_option maxHeartbeats 8000000 in
theorem sorted_walk (a0 : Option Addr) (n0 c0 : Nat) (z0 : Nat → Int) (w : World) (hG : GlobR w) (hT : TabP w) (h0 : n0 ≤ c0) (hm0 : (n0 : Int) ≤ 9223372036854775807) (hA0 : a0 = none → n0 = 0) (hz0 : Bytes w a0 n0 z0) :
  Calls Tryz.prog 7 #[.slice a0 n0 c0] w fun e w' => e = .returned (.bool true) ∧ Below w.heap.size w w' := by
 have AW := hid (awake8_ok w hG hT)
 have RD := hid (fun W (hb : Below w.heap.size w W) => read8_any a0 n0 c0 z0 W (hG.below hb) (tab_below hT hb) h0 hm0 hA0 (hz0.below hb))
 clear hG hT h0 hm0 hA0 hz0
 go_enter Tryz.func7, Tryz.ntmps7
 go_upto_region 3 with (first | (go_at_call 13; refine AW.out.mono ?_; rintro e w1 ⟨rfl, hb⟩; have B1 := hid hb; clear hb) | fail)
 go_wp2_with (first | (go_at_call 14; refine (RD.out _ B1.out).mono ?_; rintro e w2 ⟨hr, hb⟩; have B2 := hid (B1.out.trans (hb.mono B1.out.size)); clear hb; rcases hr with rfl | ⟨s, F, st, fb, As, Af, cs, cf, xb, base, hs4, hF1, hF2, rfl, hFR, hRR, hFD, hbx⟩) | fail)
 ·go_ret
  exact ⟨rfl, B2.out⟩
 obtain ⟨X, hX⟩ : ∃ X, s.extract F.name.1 F.name.2 = X := ⟨_, rfl⟩
 obtain ⟨K, hK⟩ : ∃ K, F.top = K := ⟨_, rfl⟩
 obtain ⟨sz, hsz⟩ : ∃ sz, F.sizes = sz := ⟨_, rfl⟩
 obtain ⟨fs, hfs⟩ : ∃ fs, F.funs = fs := ⟨_, rfl⟩
 rw [hX, hK, hsz, hfs] at hFR hRR
 have RR := hid hRR
 have F2 := hid hFR
 clear hs4 hF1 hF2 hFR hRR hFD hbx hX hK hsz hfs AW RD
 go_upto_region 10 with (first
  | (go_at_call 23; refine (canon_ok fb cs cf X K sz fs As Af w2 F2.out RR.out).mono ?_; rintro e w3 ⟨⟨cb, A, c, fv, us, cfs, rfl, hCA, hCF⟩, hb3⟩; obtain ⟨Ag, cg, hCR⟩ := hCA.r; obtain ⟨-, -, -, c3⟩ := hCR.cells; have B3 := hid (B2.out.trans (hb3.mono B2.out.size)); have CR := hid hCR; have CF := hid hCF; have RC := hid (hCF.right RR.out); clear hb3 hCA hCF hCR)
  | fail)
 have ND : Hid (∀ f ∈ fs, f.scope.Nodup) := hid fun f hf => List.nodup_iff_pairwise_ne.2 (RR.out.funs f hf).1.once
 obtain ⟨q, hq⟩ : ∃ q, cfs.length = q := ⟨_, rfl⟩
 have HQ := hid hq
 have hq256 : q ≤ 256 := by rw [← hq]; exact RC.out.nf
 rw [hq] at c3 ⊢
 clear hq F2
 go_loopw [7, 8, 9, 33] (fun _ _ _ i wr => ∃ j : Nat, j ≤ q ∧ i = .int .i64 (j : Int) ∧ Below w3.heap.size w3 wr) (fun _ _ _ i _ => q - (intOf i).toNat)
 case atStart => exact ⟨0, Nat.zero_le _, rfl, Below.refl _ _⟩
 case round =>
  obtain ⟨j, hj, rfl, hB⟩ := hrel
  have BR := hid hB
  clear hB
  by_cases hlt : j < q
  rotate_left
  ·obtain rfl : j = q := by omega
   have i1 : ¬ ((j : Int) < (j : Int)) := by omega
   go_wp2_with fail
   go_ret
   exact ⟨rfl, B3.out.trans (BR.out.mono B3.out.size)⟩
  have i1 : (j : Int) < (q : Int) := by omega
  have i2 : (0 : Int) ≤ (j : Int) := by omega
  obtain ⟨f, hf⟩ : ∃ f, cfs[j]? = some f := ⟨_, List.getElem?_eq_getElem (by rw [HQ.out]; exact hlt)⟩
  have HRR := CR.out.below BR.out
  obtain ⟨gf, sv, tv, rfl, hgf, k0, k1, he⟩ := HRR.funs j f hf
  obtain ⟨Asc, csc, g, mb, Am, cm, N, rfl, hcap, rfl, h3, h4, h5, -⟩ := he
  have HM := hid (RC.out.funs f (List.mem_of_getElem? hf))
  have RS := hid (CF.out.rises ND.out (List.mem_of_getElem? hf))
  have HF := hid hf
  have PK := hid (pick_ok RC.out.szs HM.out.1.below)
  have P6 := hid (show (pickN sz f.scope).length ≤ 6 by rw [pickN_len]; exact HM.out.2.1)
  have cw3 : wr.cell? ⟨cb, 3, none⟩ = some (.slice (some ⟨gf, 0, none⟩) q cg) := (BR.out.cell (p := ⟨cb, 3, none⟩) (World.block_lt_of_cell? w3 _ c3)).trans c3
  obtain ⟨n, hn⟩ : ∃ n, f.scope.length = n := ⟨_, rfl⟩
  have HN := hid hn
  have n6 : n ≤ 6 := by rw [← hn]; exact HM.out.2.1
  rw [hn] at k0
  have n1 := new_val wr (.cells #[.slice Asc n csc, .pointer (some ⟨g, 0, none⟩)] 62)
  have NB := hid n1
  have IS := hid (h3.below n1 (Nat.le_refl _))
  have TS := hid ((h4.tight P6.out PK.out).below n1)
  have X5 := hid (heap_alloc_new wr (.cells #[.slice Asc n csc, .pointer (some ⟨g, 0, none⟩)] 62))
  clear HRR hf hn h3 h4 h5 hcap hgf n1
  go_upto_region 12 with (first
   | ((with_reducible show wpList _ _ _ (Oper.mk none (.store 62 _ _) _ _ _ _ :: _) _ _); refine wpList_store_row rfl 62 (.tmp 8) (.tmp 37) rfl wr.heap.size #[.slice Asc n csc, .pointer (some ⟨g, 0, none⟩)] rfl rfl 62 #[.slice none 0 0, .pointer none] (heap_alloc_new _ _) (by kernel_rfl) rfl (by simp [Value.oneCell']) ?_; rw [World.setRow_alloc_new])
   | fail)
  clear k0 k1
  obtain ⟨w5, hw5⟩ : ∃ w5, wr.alloc (.cells #[.slice Asc n csc, .pointer (some ⟨g, 0, none⟩)] 62) = w5 := ⟨_, rfl⟩
  rw [hw5] at NB IS TS X5 ⊢
  have c3w5 : w5.cell? ⟨cb, 3, none⟩ = some (.slice (some ⟨gf, 0, none⟩) q cg) := (NB.out.cell (p := ⟨cb, 3, none⟩) (World.block_lt_of_cell? wr _ cw3)).trans cw3
  have y0 : w5.cell? ⟨wr.heap.size, 0, none⟩ = some (.slice Asc n csc) := by rw [cell_of_row _ _ _ _ _ _ X5.out]; rfl
  have y1 : w5.cell? ⟨wr.heap.size, 1, none⟩ = some (.pointer (some ⟨g, 0, none⟩)) := by rw [cell_of_row _ _ _ _ _ _ X5.out]; rfl
  clear hw5 cw3 X5
  generalize wr.heap.size = tb at y0 y1 ⊢
  simp only [Act.put]
  go_cut [64] from 38 to 63 (fun v64 wc => ∃ b, v64 = .bool b ∧ Hid (b = false ∧ Below w5.heap.size w5 wc))
  case first =>
   have SI := hid (fun W (hb : Below w5.heap.size w5 W) => sortedI_yes Asc n csc f.scope W HN.out (by omega) (IS.out.below hb (Nat.le_refl _)) RS.out)
   have CI := hid (fun W (hb : Below w5.heap.size w5 W) => clone_any' Asc n csc f.scope W HN.out.symm (by rw [HN.out]; omega) (IS.out.below hb (Nat.le_refl _)))
   have TL := hid (fun W (hb : Below w5.heap.size w5 W) => tplen_ok g mb _ cm Am (pickN sz f.scope) K (min f.other K) (funF K f) W (TS.out.below hb) P6.out PK.out)
   have TO := hid (fun W (hb : Below w5.heap.size w5 W) => tpother_ok g mb _ cm Am (pickN sz f.scope) K (min f.other K) (funF K f) W (TS.out.below hb))
   obtain ⟨m, hm⟩ : ∃ m, (linesT (pickN sz f.scope) (min f.other K) (funF K f)).length = m := ⟨_, rfl⟩
   rw [hm] at TL
   have HM0 : Hid (m = 0 → 0 < min f.other K) := hid (by
    obtain ⟨z, o, ec, hzk, hmo, h1⟩ := CF.out.frm f (List.mem_of_getElem? HF.out)
    have ho := most_in hzk hmo
    intro h0
    have e1 : min f.other K = o := by rw [ec]; exact Int.min_eq_left ho.2.2.2
    have e2 : f.lines.length = (linesT (pickN sz f.scope) o (fillF (pickN sz f.scope) o z (prodL (pickN sz f.scope)))).length := by
     conv => lhs; rw [ec]
     rw [← canF_fst, List.length_map]
    have e3 : linesT (pickN sz f.scope) (min f.other K) (funF K f) = linesT (pickN sz f.scope) o (fillF (pickN sz f.scope) o z (prodL (pickN sz f.scope))) := by
     rw [e1]
     unfold linesT
     congr 1
     refine List.filter_congr fun i hi => ?_
     have := canF_fun (sizes := sz) (S := f.scope) (k := K) (z := z) (o := o) h1 hzk ho (tupL_in h1 i)
     rw [← ec] at this
     rw [this]
    have h2 := (CF.out.pos (List.mem_of_getElem? HF.out) (by rw [e2, ← e3, hm]; exact h0))
    rw [h2.2]
    exact h2.1)
   generalize min f.other K = ot at TO HM0
   clear hm
   by_cases hL : m = 0
   ·subst hL
    have hot : ((ot : Int) == 0) = false := by have := HM0.out rfl; simp; omega
    refine wp_region_noPanic ?_
    refine wp_region_held_drew (S := fun W => W.cell? ⟨tb, 0, none⟩ = some (.slice Asc n csc) ∧ W.cell? ⟨tb, 1, none⟩ = some (.pointer (some ⟨g, 0, none⟩))) (by kernel_rfl) ⟨y0, y1⟩ (fun hHeld => ?_)
    have BL : Hid (Below w5.heap.size w5 w5.drew) := hid (Below.refl _ _).drew
    generalize w5.drew = w6 at BL hHeld ⊢
    refine wt 0 ?r501
    refine wt 1 ?r502
    refine wr1 2 (fun K hK => ?_)
    go_simp
    refine (SI.out _ BL.out).mono ?_
    rintro e wA ⟨rfl, hb⟩
    have BL := hid (BL.out.trans (hb.mono BL.out.size))
    refine hK.out _ _ (⟨(hb.cell (p := ⟨tb, 0, none⟩) (World.block_lt_of_cell? _ _ hHeld.1)).trans hHeld.1, (hb.cell (p := ⟨tb, 1, none⟩) (World.block_lt_of_cell? _ _ hHeld.2)).trans hHeld.2⟩) (fun hHeld' => ?_)
    replace hHeld := hHeld'
    clear hHeld'
    clear hb
    clear hK K
    try simp only [Act.put, pa, pb, pc, pd, pe, pf]
    refine wt 3 ?r503
    refine wt 4 ?r504
    refine wt 5 ?r505
    refine wt 6 ?r506
    refine wt 10 ?r507
    refine wt 11 ?r508
    refine wt 12 ?r509
    refine wr1 7 (fun K hK => ?_)
    go_simp
    refine (CI.out _ BL.out).mono ?_
    rintro e wB ⟨⟨vB, rfl, hO⟩, hb⟩
    have OB := hid hO
    obtain ⟨AB, cB, rfl, -⟩ := hO.form
    have BA := hid BL.out
    have TBA : Hid (tb < wA.heap.size) := hid (World.block_lt_of_cell? _ _ hHeld.1)
    have BL := hid (BL.out.trans (hb.mono BL.out.size))
    refine hK.out _ _ (⟨(hb.cell (p := ⟨tb, 0, none⟩) (World.block_lt_of_cell? _ _ hHeld.1)).trans hHeld.1, (hb.cell (p := ⟨tb, 1, none⟩) (World.block_lt_of_cell? _ _ hHeld.2)).trans hHeld.2⟩) (fun hHeld' => ?_)
    replace hHeld := hHeld'
    clear hHeld'
    have SB := hid hb.size
    clear hb hO
    clear hK K
    try simp only [Act.put, pa, pb, pc, pd, pe, pf]
    refine wr1 8 (fun K hK => ?_)
    go_simp
    refine (compactR_any _ n _ f.scope wB OB.out SB.out HN.out RS.out (by omega)).mono ?_
    rintro e wC ⟨⟨AC, cC, rfl⟩, hb0⟩
    have KB : ∀ W W2 : World, Below wA.heap.size W W2 → ∀ i v, tb < wA.heap.size → W.cell? ⟨tb, i, none⟩ = some v → W2.cell? ⟨tb, i, none⟩ = some v := fun W W2 h i v h1 h2 => (h.cell (p := ⟨tb, i, none⟩) h1).trans h2
    have BL := hid (BL.out.trans (hb0.mono BA.out.size))
    refine hK.out _ _ (⟨KB _ _ hb0 0 _ TBA.out hHeld.1, KB _ _ hb0 1 _ TBA.out hHeld.2⟩) (fun hHeld' => ?_)
    replace hHeld := hHeld'
    clear hHeld'
    clear hb0 KB
    clear hK K
    try simp only [Act.put, pa, pb, pc, pd, pe, pf]
    refine wt 9 ?r510
    refine wt 13 ?r511
    refine wt 14 ?r512
    refine wt 15 ?r513
    refine wt 16 ?r514
    refine wt 17 ?r515
    refine wr1 18 (fun K hK => ?_)
    go_simp
    refine (TL.out _ BL.out).mono ?_
    rintro e w' ⟨rfl, rfl⟩
    refine hK.out _ _ (hHeld) (fun hHeld' => ?_)
    replace hHeld := hHeld'
    clear hHeld'
    clear hK K
    try simp only [Act.put, pa, pb, pc, pd, pe, pf]
    refine wt 19 ?r516
    refine wt 20 ?r517
    refine wt 21 ?r518
    refine wt 22 ?r519
    refine wr1 23 (fun K hK => ?_)
    go_simp
    refine (TO.out _ BL.out).mono ?_
    rintro e w' ⟨rfl, rfl⟩
    refine hK.out _ _ (hHeld) (fun hHeld' => ?_)
    replace hHeld := hHeld'
    clear hHeld'
    clear hK K
    try simp only [Act.put, pa, pb, pc, pd, pe, pf]
    refine wt 24 ?r520
    refine wt 25 ?r521
    refine wt 26 ?r522
    refine wpAnyH_done (by kernel_rfl) ?_ _
    refine NoPanic.normal ?_
    clear hHeld
    go_wp2_with fail
    go_meet
    case rel => exact ⟨false, rfl, hid ⟨rfl, BL.out⟩⟩
   have hmm : (((m : Nat) : Int) == 0) = false := by simp; omega
   refine wp_region_noPanic ?_
   refine wp_region_held_drew (S := fun W => W.cell? ⟨tb, 0, none⟩ = some (.slice Asc n csc) ∧ W.cell? ⟨tb, 1, none⟩ = some (.pointer (some ⟨g, 0, none⟩))) (by kernel_rfl) ⟨y0, y1⟩ (fun hHeld => ?_)
   have BL : Hid (Below w5.heap.size w5 w5.drew) := hid (Below.refl _ _).drew
   generalize w5.drew = w6 at BL hHeld ⊢
   refine wt 0 ?r601
   refine wt 1 ?r602
   refine wr1 2 (fun K hK => ?_)
   go_simp
   refine (SI.out _ BL.out).mono ?_
   rintro e wA ⟨rfl, hb⟩
   have BL := hid (BL.out.trans (hb.mono BL.out.size))
   refine hK.out _ _ (⟨(hb.cell (p := ⟨tb, 0, none⟩) (World.block_lt_of_cell? _ _ hHeld.1)).trans hHeld.1, (hb.cell (p := ⟨tb, 1, none⟩) (World.block_lt_of_cell? _ _ hHeld.2)).trans hHeld.2⟩) (fun hHeld' => ?_)
   replace hHeld := hHeld'
   clear hHeld'
   clear hb
   clear hK K
   try simp only [Act.put, pa, pb, pc, pd, pe, pf]
   refine wt 3 ?r603
   refine wt 4 ?r604
   refine wt 5 ?r605
   refine wt 6 ?r606
   refine wt 10 ?r607
   refine wt 11 ?r608
   refine wt 12 ?r609
   refine wr1 7 (fun K hK => ?_)
   go_simp
   refine (CI.out _ BL.out).mono ?_
   rintro e wB ⟨⟨vB, rfl, hO⟩, hb⟩
   have OB := hid hO
   obtain ⟨AB, cB, rfl, -⟩ := hO.form
   have BA := hid BL.out
   have TBA : Hid (tb < wA.heap.size) := hid (World.block_lt_of_cell? _ _ hHeld.1)
   have BL := hid (BL.out.trans (hb.mono BL.out.size))
   refine hK.out _ _ (⟨(hb.cell (p := ⟨tb, 0, none⟩) (World.block_lt_of_cell? _ _ hHeld.1)).trans hHeld.1, (hb.cell (p := ⟨tb, 1, none⟩) (World.block_lt_of_cell? _ _ hHeld.2)).trans hHeld.2⟩) (fun hHeld' => ?_)
   replace hHeld := hHeld'
   clear hHeld'
   have SB := hid hb.size
   clear hb hO
   clear hK K
   try simp only [Act.put, pa, pb, pc, pd, pe, pf]
   refine wr1 8 (fun K hK => ?_)
   go_simp
   refine (compactR_any _ n _ f.scope wB OB.out SB.out HN.out RS.out (by omega)).mono ?_
   rintro e wC ⟨⟨AC, cC, rfl⟩, hb0⟩
   have KB : ∀ W W2 : World, Below wA.heap.size W W2 → ∀ i v, tb < wA.heap.size → W.cell? ⟨tb, i, none⟩ = some v → W2.cell? ⟨tb, i, none⟩ = some v := fun W W2 h i v h1 h2 => (h.cell (p := ⟨tb, i, none⟩) h1).trans h2
   have BL := hid (BL.out.trans (hb0.mono BA.out.size))
   refine hK.out _ _ (⟨KB _ _ hb0 0 _ TBA.out hHeld.1, KB _ _ hb0 1 _ TBA.out hHeld.2⟩) (fun hHeld' => ?_)
   replace hHeld := hHeld'
   clear hHeld'
   clear hb0 KB
   clear hK K
   try simp only [Act.put, pa, pb, pc, pd, pe, pf]
   refine wt 9 ?r610
   refine wt 13 ?r611
   refine wt 14 ?r612
   refine wt 15 ?r613
   refine wt 16 ?r614
   refine wt 17 ?r615
   refine wr1 18 (fun K hK => ?_)
   go_simp
   refine (TL.out _ BL.out).mono ?_
   rintro e w' ⟨rfl, rfl⟩
   refine hK.out _ _ (hHeld) (fun hHeld' => ?_)
   replace hHeld := hHeld'
   clear hHeld'
   clear hK K
   try simp only [Act.put, pa, pb, pc, pd, pe, pf]
   refine wt 19 ?r616
   refine wt 20 ?r617
   refine wu 21 ?r618
   refine wu 22 ?r619
   refine wu 23 ?r620
   refine wu 24 ?r621
   refine wt 25 ?r622
   refine wt 26 ?r623
   refine wpAnyH_done (by kernel_rfl) ?_ _
   refine NoPanic.normal ?_
   clear hHeld
   go_wp2_with fail
   go_meet
   case rel => exact ⟨false, rfl, hid ⟨rfl, BL.out⟩⟩
  case rest =>
   obtain ⟨b, rfl, hcut⟩ := hcut
   obtain ⟨rfl, hBC⟩ := hcut.out
   have BC := hid hBC
   clear hcut hBC
   apply_assumption
   have z0 : wc.cell? ⟨tb, 0, none⟩ = some (.slice Asc n csc) := (BC.out.cell (p := ⟨tb, 0, none⟩) (World.block_lt_of_cell? w5 _ y0)).trans y0
   have c3c : wc.cell? ⟨cb, 3, none⟩ = some (.slice (some ⟨gf, 0, none⟩) q cg) := (BC.out.cell (p := ⟨cb, 3, none⟩) (World.block_lt_of_cell? w5 _ c3w5)).trans c3w5
   have BWC : Hid (Below w3.heap.size w3 wc) := hid ((BR.out.trans (NB.out.mono BR.out.size)).trans (BC.out.mono (by have := BR.out.size; have := NB.out.size; omega)))
   have ISC := hid (IS.out.below BC.out (Nat.le_refl _))
   clear y0 y1 c3w5
   by_cases hj0 : j = 0
   ·subst hj0
    have i3 : ¬ ((0 : Int) < ((0 : Nat) : Int)) := by omega
    go_wp2_with fail
    exact ⟨⟨1, by omega, rfl, BWC.out⟩, by simp [intOf]; omega⟩
   obtain ⟨j', rfl⟩ : ∃ j', j = j' + 1 := ⟨j - 1, by omega⟩
   have i3 : (0 : Int) < ((j' + 1 : Nat) : Int) := by omega
   have i4 : ((j' + 1 : Nat) : Int) - 1 = (j' : Int) := by omega
   have i5 : (j' : Int) < (q : Int) := by omega
   have i6 : (0 : Int) ≤ (j' : Int) := by omega
   obtain ⟨f', hf'⟩ : ∃ f', cfs[j']? = some f' := ⟨_, List.getElem?_eq_getElem (by rw [HQ.out]; omega)⟩
   have HRW := CR.out.below BWC.out
   obtain ⟨gf', sv', tv', e', -, k0', -, he'⟩ := HRW.funs j' f' hf'
   obtain rfl : gf = gf' := by injection e' with e'; injection e'
   obtain ⟨Asc', csc', g', mb', Am', cm', N', rfl, -, rfl, h3', -⟩ := he'
   have LT := hid (CF.out.two hf' HF.out)
   have HM' := hid (RC.out.funs f' (List.mem_of_getElem? hf'))
   obtain ⟨n', hn'⟩ : ∃ n', f'.scope.length = n' := ⟨_, rfl⟩
   have HN' := hid hn'
   have n6' : n' ≤ 6 := by rw [← hn']; exact HM'.out.2.1
   rw [hn'] at k0'
   have CP := hid (compare_ints Asc' Asc n' n csc' csc f'.scope f.scope wc hn' HN.out (by omega) h3' ISC.out)
   clear e' HRW hf' hn' h3'
   by_cases hnn : n' < n
   ·have i7 : ¬ ((n : Int) < (n' : Int)) := by omega
    have i8 : ((n' : Int) == (n : Int)) = false := by simp; omega
    go_wp2_with fail
    exact ⟨⟨j' + 2, by omega, by go_num, BWC.out⟩, by simp [intOf]; omega⟩
   have hen : n' = n := by
    rcases LT.out with h | ⟨h, _⟩
    ·rw [HN'.out, HN.out] at h; omega
    rw [HN'.out, HN.out] at h; exact h
   subst hen
   have hlx : cmpL f'.scope f.scope < 0 := by
    rw [cmpL_lt (by rw [HN'.out, HN.out])]
    rcases LT.out with h | ⟨_, h⟩
    ·rw [HN'.out, HN.out] at h; omega
    exact h
   generalize cmpL f'.scope f.scope = cv at CP hlx
   have i7 : ¬ ((n' : Int) < (n' : Int)) := by omega
   have i9 : ¬ ((0 : Int) ≤ cv) := by omega
   go_wp2_with (first | (go_at_call 37; refine CP.out.mono ?_; rintro e w' ⟨rfl, rfl⟩) | fail)
   exact ⟨⟨j' + 2, by omega, by go_num, BWC.out⟩, by simp [intOf]; omega⟩
end Go.Proofs.YtmokogkndbinlaaGreatDoor
