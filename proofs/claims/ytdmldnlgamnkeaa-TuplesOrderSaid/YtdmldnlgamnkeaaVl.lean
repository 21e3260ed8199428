/- The walk of TuplesOrder (no statement of its own). No condition. -/
import Derived.Test.YtdmldnlgamnkeaaVk
import Derived.Test.YtdmldnlgamnkeaaVj
namespace Go.Proofs.Ytdmldnlgamnkeaa
open Go.RowKit Go.Maps
set_option linter.unusedVariables false
theorem madeI (n : Nat) (hn : n ≤ 100000) (W : World) : (Instr.makeSlice 26 (.int .i64 (n : Int)) (.int .i64 (n : Int))).run Try.prog W = .ok (.slice (some ⟨W.heap.size, 0, none⟩) n n) (W.alloc (.cells (madeCells #[.int .i64 0] n) 3)) :=
  run_make_row' 26 3 (.int .i64 0) 8 Try.underlying26 (by kernel_rfl) rfl .i64 .i64 n (by omega) (by omega) W
abbrev HoldQ (gr bx gc q : Nat) (v : Value) (P cc : Nat) (y : Int) (W : World) : Prop :=
  W.cell? ⟨gr, q, none⟩ = some v ∧ W.cell? ⟨bx, 2, none⟩ = some (.slice (some ⟨gc, 0, none⟩) P cc) ∧ W.cell? ⟨gc, q, none⟩ = some (.int .i64 y)
theorem rowsT_ge {w : World} {base n c : Nat} {g : Nat} {ts : List (List Nat)} (h : RowsT w base (.slice (some ⟨g, 0, none⟩) n c) ts) : base ≤ g := by
  obtain ⟨xs, h1, h2⟩ := h
  exact (World.ownsRow.lt h1 g rfl).1
theorem holdQ {w w' : World} {gr bx gc q P cc : Nat} {v : Value} {y : Int} {g b N c : Nat} {A : Option Addr} {l' : List Nat} {k' o : Int} {f : List Nat → Int} {n cs : Nat} {As : Option Addr} {l : List Nat} {k : Int} {z : Nat → Int} (H : HoldQ gr bx gc q v P cc y w) (hX : XAt w bx gc n cs cc P As l k z) (H' : TpAt w g b A c N l' k' o f) (hne : gr ≠ b) (hg : w.grownBy w' (some b)) : HoldQ gr bx gc q v P cc y w' := by
  obtain ⟨D', hm', _⟩ := H'.map
  obtain ⟨cur, hc, _⟩ := hX.costs
  exact ⟨hg.cell H.1 (fun e => hne (by injection e)), hg.cell H.2.1 (fun e => map_not hm' hX.row (by injection e)), hg.cell H.2.2 (fun e => map_not hm' hc (by injection e))⟩
theorem atB_made (W : World) (n : Nat) : AtB (W.alloc (.cells (madeCells #[.int .i64 0] n) 3)) W.heap.size n (fun _ => 0) :=
  ⟨_, heap_alloc_new W _, by simp [madeCells], fun i hi => by simp [madeCells, hi, Nat.mod_one]⟩
set_option maxRecDepth 100000 in
set_option maxHeartbeats 4000000 in
theorem tord_walk (A0 A2 A3 : Option Addr) (n0 c0 n2 c2 n3 c3 : Nat) (z0 y2 z3 : Nat → Int) (a1 : Int) (w : World) (h0 : Bytes w A0 n0 z0) (m0 : (n0 : Int) ≤ 9223372036854775807) (q1 : 0 ≤ a1 ∧ a1 ≤ 65535) (h2 : Words w A2 n2 y2) (m2 : (n2 : Int) ≤ 9223372036854775807)
    (h3 : Bytes w A3 n3 z3) (m3 : (n3 : Int) ≤ 9223372036854775807) :
    Calls Try.prog 6 #[.slice A0 n0 c0, .int .u16 a1, .slice A2 n2 c2, .slice A3 n3 c3] w fun e w' => e = .returned (.bool true) ∧ Below w.heap.size w w' := by
  have H0 := Lib.hid h0
  have H2 := Lib.hid h2
  have H3 := Lib.hid h3
  have p1 := q1.1
  have p1' := q1.2
  clear h0 h2 h3 q1
  go_enter Try.func6, Try.ntmps6
  go_wp2_with fail
  refine (awake5_ok w).mono ?_
  rintro e w1 ⟨rfl, b1⟩
  have B1 := Lib.hid b1
  clear b1
  obtain ⟨l, hl⟩ : ∃ l, smL z0 (min n0 3) = l := ⟨_, rfl⟩
  obtain ⟨P, hP⟩ : ∃ P, prodL l = P := ⟨_, rfl⟩
  have hP64 : 1 ≤ P ∧ P ≤ 64 := by rw [← hP, ← hl]; exact smL_prod z0 _ (by omega)
  have hl3 : l.length ≤ 3 := by rw [← hl, smL_len]; omega
  have hls : ∀ x ∈ l, 1 ≤ x ∧ x ≤ 32 := fun x hx => by rw [← hl] at hx; have := smL_small z0 _ x hx; omega
  have SM := Lib.hid (small_any A0 n0 c0 z0 w1 m0 (H0.out.below B1.out))
  rw [hl] at SM
  have HP := Lib.hid hP
  have HLS := Lib.hid hls
  clear hl hP hls
  obtain ⟨hP1, hP4⟩ := hP64
  obtain ⟨k, hk⟩ : ∃ k, 1 + a1 % 30 = k := ⟨_, rfl⟩
  have hk1 : 1 ≤ k := by omega
  have hk2 : k ≤ 30 := by omega
  go_wp2_with fail
  refine SM.out.mono ?_
  rintro e w2 ⟨⟨v, rfl, hO⟩, b2⟩
  obtain ⟨As, cs, rfl, hI⟩ := hO.form
  have HCap := own_cap hO
  have I2 := Lib.hid hI
  have B2 := Lib.hid (then_ B1.out b2)
  have MK := Lib.hid (rmake_any As A2 l.length cs n2 c2 P l k y2 w2 rfl (by omega) (fun n hn => (HLS.out n hn).2) I2.out HP.out (by omega) hk1 (by omega) m2 (H2.out.below B2.out))
  clear hO hI b2 SM H0
  go_wp2_with fail
  refine MK.out.mono ?_
  rintro e w3 ⟨⟨v3, rfl, hv3⟩, b3⟩
  obtain ⟨Ac, cc, rfl⟩ := row64_form hv3
  have I3 := Lib.hid (I2.out.below b3 (Nat.le_refl _))
  have V3 := Lib.hid hv3
  have B3 := Lib.hid (then_ B2.out b3)
  clear MK hv3 b3 I2
  obtain ⟨nl, hnl⟩ : ∃ nl, l.length = nl := ⟨_, rfl⟩
  have HNL := Lib.hid hnl
  rw [hnl] at hl3 HCap
  simp only [hnl]
  clear hnl
  go_upto_region 4 with ((with_reducible show wpList _ _ _ (Oper.mk none (.store 34 _ _) _ _ _ _ :: _) _ _)
                         refine wpList_store_row rfl 34 (.tmp 9) (.tmp 32) rfl w3.heap.size #[.slice As nl cs, .int .i64 k, .slice Ac P cc] rfl rfl 34 #[.slice none 0 0, .int .i64 0, .slice none 0 0] (heap_alloc_new w3 _) (by kernel_rfl) rfl (by simp [Value.oneCell']) ?_
                         rw [World.setRow_alloc_new])
  have n4 := new_val w3 (.cells #[.slice As nl cs, .int .i64 k, .slice Ac P cc] 34)
  have r4 := heap_alloc_new w3 (.cells #[.slice As nl cs, .int .i64 k, .slice Ac P cc] 34)
  obtain ⟨gc, cx, e, X4⟩ := xat_made (I3.out.below n4 (Nat.le_refl _)) (ownsRow_below V3.out n4 (Nat.le_refl _)) hP1 r4
  injection e with e1 e2 e3
  subst e1 e3
  have HX := Lib.hid X4
  have B4 := Lib.hid (then_ B3.out n4)
  clear e2 n4 r4 X4 V3 I3 B3
  generalize w3.alloc (.cells #[.slice As nl cs, .int .i64 k, .slice (some ⟨gc, 0, none⟩) P cc] 34) = w4 at HX B4 ⊢
  generalize w3.heap.size = bx at HX ⊢
  have HO : Hid (InK 0 k) := Lib.hid ⟨hk1, by omega, by omega, by omega⟩
  have HO' : Hid (InK k k) := Lib.hid ⟨hk1, by omega, by omega, by omega⟩
  obtain ⟨x0, x1, x2⟩ := HX.out.cells
  have NW := Lib.hid (tpnew_ok As nl cs l k 0 w4 HNL.out.symm (by rw [HNL.out]; omega) HX.out.ints HLS.out HO.out)
  clear x2
  go_upto_region 5 with (go_at_call 9; refine NW.out.mono ?_; rintro e w5 ⟨⟨g, b, At, ct, rfl, hT, hg, hbt⟩, b5⟩)
  have T5 := Lib.hid hT
  have X5 := Lib.hid (HX.out.below b5)
  have B5 := Lib.hid (then_ B4.out b5)
  have hwb : Hid (w.heap.size ≤ b) := Lib.hid (Nat.le_trans B4.out.size hbt)
  clear hT hg hbt b5 NW x0 x1 HX B4
  obtain ⟨x0, x1, x2⟩ := X5.out.cells
  have NW := Lib.hid (tpnew_ok As nl cs l k k w5 HNL.out.symm (by rw [HNL.out]; omega) X5.out.ints HLS.out HO'.out)
  clear x2
  go_upto_region 6 with (go_at_call 9; refine NW.out.mono ?_; rintro e w6 ⟨⟨g', b', At', ct', rfl, hT, hg, hbt⟩, b6⟩)
  have hbne : Hid (b ≠ b') := Lib.hid (by have := T5.out.lt; omega)
  have hwb' : Hid (w.heap.size ≤ b') := Lib.hid (Nat.le_trans B5.out.size hbt)
  obtain ⟨zx, hzx⟩ : ∃ z, mkC k y2 n2 = z := ⟨_, rfl⟩
  have ZX : Hid (∀ i, i < P → InK (zx i) k) := Lib.hid fun i hi => by rw [← hzx]; have := mkC_in (y := y2) (m := n2) (i := i) hk1 (fun h => by obtain ⟨p, _, _, _, h1, _⟩ := H2.out i h; exact h1); exact ⟨hk1, by omega, this.1, this.2⟩
  rw [hzx] at X5
  obtain ⟨TW, hTW⟩ : ∃ TW : Nat → (List Nat → Int) → Nat → (List Nat → Int) → World → Prop, ∀ N f N' f' W, TW N f N' f' W ↔ XAt W bx gc nl cs cc P As l k zx ∧ TpAt W g b At ct N l k 0 f ∧ TpAt W g' b' At' ct' N' l k k f' ∧ Below w.heap.size w W := ⟨fun N f N' f' W => _, fun _ _ _ _ _ => Iff.rfl⟩
  have TWD := Lib.hid hTW
  have TWN : Hid (∀ N f N' f' W W', TW N f N' f' W → Below W.heap.size W W' → TW N f N' f' W') := Lib.hid fun N f N' f' W W' h hb => by
    obtain ⟨h1, h3, h4, h5⟩ := (hTW _ _ _ _ _).1 h
    exact (hTW _ _ _ _ _).2 ⟨h1.below hb, h3.below hb, h4.below hb, then_ h5 hb⟩
  have TWA : Hid (∀ N f N' f' f1 W W1, TW N f N' f' W → W.grownBy W1 (some b) → TpAt W1 g b At ct (N + 1) l k 0 f1 → TW (N + 1) f1 N' f' W1) := Lib.hid fun N f N' f' f1 W W1 h hg ht => by
    obtain ⟨h1, h3, h4, h5⟩ := (hTW _ _ _ _ _).1 h
    exact (hTW _ _ _ _ _).2 ⟨h1.other h3 hg, ht, h4.other h3 (fun e => hbne.out e.symm) hg, h5.grown hg h5.size (fun k hk => by injection hk with hk; have := hwb.out; omega)⟩
  have TWB : Hid (∀ N f N' f' f1 W W1, TW N f N' f' W → W.grownBy W1 (some b') → TpAt W1 g' b' At' ct' (N' + 1) l k k f1 → TW N f (N' + 1) f1 W1) := Lib.hid fun N f N' f' f1 W W1 h hg ht => by
    obtain ⟨h1, h3, h4, h5⟩ := (hTW _ _ _ _ _).1 h
    exact (hTW _ _ _ _ _).2 ⟨h1.other h4 hg, h3.other h4 hbne.out hg, ht, h5.grown hg h5.size (fun k hk => by injection hk with hk; have := hwb'.out; omega)⟩
  have W6 : Hid (TW 0 (fillF l 0 zx 0) 0 (fun _ => k) w6) := Lib.hid ((hTW _ _ _ _ _).2 ⟨X5.out.below b6, T5.out.below b6, hT, then_ B5.out b6⟩)
  have HBW : Hid (b < w6.heap.size ∧ b' < w6.heap.size) := Lib.hid ⟨by have := T5.out.lt; have := b6.size; omega, hT.lt⟩
  clear hTW hT hg hbt hzx X5 T5 B5 NW x0 x1 b6
  have D6 := (TWD.out _ _ _ _ _).1 W6.out
  have RA := Lib.hid (rall_any4 As nl cs P l w6 HNL.out.symm (by rw [HNL.out]; omega) HCap HLS.out HP.out (by omega) D6.1.ints)
  obtain ⟨x0, x1, x2⟩ := D6.1.cells
  clear x1 x2 D6
  go_upto_region 7 with (go_at_call 18; refine RA.out.mono ?_; rintro e w7 ⟨⟨Ar, cr, rfl, hR⟩, bR⟩)
  have R7 := Lib.hid hR
  have W7 := Lib.hid (TWN.out _ _ _ _ _ _ W6.out bR)
  have hbs := Lib.hid bR.size
  clear hR bR RA x0 W6
  have hm := madeI P (by omega)
  go_upto_region 8 with fail
  have n8 := new_val w7 (.cells (madeCells #[.int .i64 0] P) 3)
  have K8 := Lib.hid (atB_made w7 P)
  have B8 : Hid (Below w7.heap.size w7 (w7.alloc (.cells (madeCells #[.int .i64 0] P) 3))) := Lib.hid n8
  clear n8 hm
  generalize w7.alloc (.cells (madeCells #[.int .i64 0] P) 3) = w8 at K8 B8 ⊢
  go_wp2_with fail
  have W7N : Hid (∀ W, Below w7.heap.size w7 W → TW 0 (fillF l 0 zx 0) 0 (fun _ => k) W ∧ RowsT W w6.heap.size (.slice Ar P cr) (allL l)) := Lib.hid fun W hb => ⟨TWN.out _ _ _ _ _ _ W7.out hb, R7.out.below hb (Nat.le_refl _)⟩
  have B7 := Lib.hid ((TWD.out _ _ _ _ _).1 W7.out).2.2.2
  obtain ⟨ga, hga⟩ : ∃ ga, w7.heap.size = ga := ⟨_, rfl⟩
  have HGA := Lib.hid hga
  rw [hga] at K8
  simp only [hga]
  clear hga W7 R7
  go_loopw [16, 59] (fun _ i wr => ∃ j : Nat, j ≤ P ∧ i = .int .i64 (j : Int) ∧ AtB wr ga P (fun i => if i < j then i else 0) ∧ Below w7.heap.size w7 wr) (fun _ i _ => P - (intOf i).toNat)
  case atStart => exact ⟨0, Nat.zero_le _, rfl, ⟨by obtain ⟨cur, h1, h2, h3⟩ := K8.out.row; exact ⟨cur, h1, h2, fun i hi => by rw [h3 i hi, if_neg (Nat.not_lt_zero _)]⟩⟩, B8.out⟩
  case round =>
    obtain ⟨j, hj, rfl, hA, hB⟩ := hrel
    have AR := Lib.hid hA
    have BR := Lib.hid hB
    clear hA hB K8 B8
    by_cases hlt : j < P
    · have i1 : (j : Int) < (P : Int) := by omega
      have i2 : (0 : Int) ≤ (j : Int) := by omega
      obtain ⟨c0, f0⟩ := AR.out.cell hlt
      have AN := Lib.hid (AR.out.set (p' := fun i => if i < j + 1 then i else 0) hlt (if_pos (Nat.lt_succ_self j)) (fun i hi hne => by
        by_cases h : i < j
        · rw [if_pos h, if_pos (by omega)]
        · rw [if_neg h, if_neg (by omega)]))
      have BN := Lib.hid (BR.out.setCell (p := ⟨ga, j, none⟩) (by show w7.heap.size ≤ ga; have := HGA.out; omega) (.int .i64 (j : Int)))
      go_wp2_with fail
      go_roundw
      case rel => exact ⟨j + 1, by omega, by go_num, AN.out, BN.out⟩
      case measure => simp [intOf]; omega
    · have i1 : ¬ ((j : Int) < (P : Int)) := by omega
      obtain rfl : P = j := by omega
      have K9 : Hid (AtB wr ga P (fun i => i)) := Lib.hid ⟨by obtain ⟨cur, h1, h2, h3⟩ := AR.out.row; exact ⟨cur, h1, h2, fun i hi => by rw [h3 i hi, if_pos hi]⟩⟩
      clear AR i1 hlt hj
      obtain ⟨w9, hw9⟩ : ∃ W : World, W = wr := ⟨wr, rfl⟩
      subst hw9
      go_wp2_with fail
      go_loopw [17, 18, 69] (fun _ _ i wr => ∃ (j : Nat) (p : Nat → Nat), j ≤ P ∧ i = .int .i64 (j : Int) ∧ PermF p P ∧ AtB wr ga P p ∧ Below w7.heap.size w7 wr) (fun _ _ i _ => P - (intOf i).toNat)
      case atStart => exact ⟨0, _, Nat.zero_le _, rfl, permF_id P, K9.out, BR.out⟩
      case round =>
        obtain ⟨j, p, hj, rfl, hp, hA, hB⟩ := hrel
        have PP := Lib.hid hp
        have AR := Lib.hid hA
        have BQ := Lib.hid hB
        clear hp hA hB K9 BR
        by_cases hlt : j < P
        · have i1 : (j : Int) < (P : Int) := by omega
          have i2 : (0 : Int) ≤ (j : Int) := by omega
          by_cases hin : j < n3
          · have i3 : (j : Int) < (n3 : Int) := by omega
            obtain ⟨ad, e3, hlt3, hc3, y0, y1⟩ := H3.out j hin
            subst e3
            have c3 : wr.cell? (ad.add j) = some (.int .u8 (z3 j)) := ((B7.out.trans (BQ.out.mono B7.out.size)).cell (p := ad.add j) (by rw [block_add]; exact hlt3)).trans hc3
            obtain ⟨x, hx⟩ : ∃ x, z3 j = x := ⟨_, rfl⟩
            rw [hx] at c3 y0 y1
            clear hc3 hlt3 hx
            have hd : 0 < (P : Int) - (j : Int) := by omega
            have hr0 := Int.emod_nonneg x (show (P : Int) - (j : Int) ≠ 0 by omega)
            have hr1 := Int.emod_lt_of_pos x hd
            obtain ⟨r, hr⟩ : ∃ r, x % ((P : Int) - (j : Int)) = r := ⟨_, rfl⟩
            rw [hr] at hr0 hr1
            have htm : x.tmod ((P : Int) - (j : Int)) = r := by rw [Int.tmod_eq_emod_of_nonneg y0]; exact hr
            obtain ⟨q, hq⟩ : ∃ q : Nat, (j : Int) + r = (q : Int) := ⟨((j : Int) + r).toNat, by omega⟩
            have hqP : q < P := by omega
            have g1 : ¬ ((P : Int) - (j : Int) = 0) := by omega
            have g2 : IntKind.i64.wrap ((P : Int) - (j : Int)) = (P : Int) - (j : Int) := IntWalk.i64_in _ (by omega)
            have g3 : IntKind.i64.wrap r = r := IntWalk.i64_in _ (by omega)
            have g4 : IntKind.i64.wrap ((j : Int) + r) = (q : Int) := by rw [hq]; exact IntWalk.i64_in _ (by omega)
            have g5 : IntKind.i64.wrap x = x := IntWalk.i64_in _ (by omega)
            have PN := Lib.hid (permF_swap PP.out hlt hqP)
            have AD := Lib.hid (AR.out.below ((Below.refl wr.heap.size wr).drew))
            have BD := BQ.out.drew
            go_upto_region 18 with fail
            refine wp_region_noPanic ?_
            refine wp_region_held_drew (S := fun W => Below w7.heap.size w7 W) (by kernel_rfl) BD (fun hHeld => ?_)
            clear BD
            generalize wr.drew = wd at hHeld AD ⊢
            obtain ⟨cj, fj⟩ := AD.out.cell hlt
            obtain ⟨cq, fq⟩ := AD.out.cell hqP
            have A1 := Lib.hid (AD.out.set (p' := fun i => if i = j then p q else p i) hlt (if_pos rfl) (fun i hi hne => if_neg hne))
            obtain ⟨⟨vq, cq2⟩, fq2⟩ : (∃ v : Int, (wd.setCell ⟨ga, j, none⟩ (.int .i64 (p q : Int))).cell? ⟨ga, q, none⟩ = some (.int .i64 v)) ∧ (wd.setCell ⟨ga, j, none⟩ (.int .i64 (p q : Int))).frozen? ⟨ga, q, none⟩ = false := ⟨⟨_, (A1.out.cell hqP).1⟩, (A1.out.cell hqP).2⟩
            have AN := Lib.hid (A1.out.set (p' := swapF p j q) hqP (x := p j) (if_pos rfl) (fun i hi hne => by show (if i = q then p j else if i = j then p q else p i) = (if i = j then p q else p i); rw [if_neg hne]))
            have CJ := Lib.hid cj
            have FJ := Lib.hid fj
            have CQ := Lib.hid cq
            have CQ2 := Lib.hid cq2
            have FQ2 := Lib.hid fq2
            have iq1 : (q : Int) < (P : Int) := by omega
            have iq0 : (0 : Int) ≤ (q : Int) := by omega
            clear cj fj cq fq cq2 fq2 g1 g2 g3 g4 g5 htm hr hr0 hr1 hq y0 y1 c3 hd A1 AD
            obtain ⟨pj, hpj⟩ : ∃ x, p j = x := ⟨_, rfl⟩
            obtain ⟨pq, hpq⟩ : ∃ x, p q = x := ⟨_, rfl⟩
            rw [hpj] at CJ AN
            rw [hpq] at CQ CQ2 FQ2 AN
            clear hpj hpq
            refine wpAnyH_take (i := 0) (v := ?v1801) rfl (by kernel_rfl) (by kernel_rfl) (by kernel_rfl) (fun _ _ _ h => h) (Or.inl ⟨by rfl, ?y1801⟩) (by assumption) ?r1801
            case y1801 => ((intro w hSw; (try dsimp only at hSw); go_simp); try with_reducible rfl)
            try simp only [Act.put, List.getElem_toArray, List.getElem_cons_zero, List.setIfInBounds_toArray, List.set_cons_zero, List.set_cons_succ]
            refine wpAnyH_take (i := 1) (v := ?v1802) rfl (by kernel_rfl) (by kernel_rfl) (by kernel_rfl) (fun _ _ _ h => h) (Or.inl ⟨by rfl, ?y1802⟩) (by assumption) ?r1802
            case y1802 => ((intro w hSw; (try dsimp only at hSw); go_simp); try with_reducible rfl)
            try simp only [Act.put, List.getElem_toArray, List.getElem_cons_succ, List.getElem_cons_zero, List.setIfInBounds_toArray, List.set_cons_zero, List.set_cons_succ]
            refine wpAnyH_take (i := 2) (v := ?v1803) rfl (by kernel_rfl) (by kernel_rfl) (by kernel_rfl) (fun _ _ _ h => h) (Or.inl ⟨by rfl, ?y1803⟩) (by assumption) ?r1803
            case y1803 => ((intro w hSw; (try dsimp only at hSw); go_simp); try with_reducible rfl)
            try simp only [Act.put, List.getElem_toArray, List.getElem_cons_succ, List.getElem_cons_zero, List.setIfInBounds_toArray, List.set_cons_zero, List.set_cons_succ]
            refine wpAnyH_take (i := 3) (v := ?v1804) rfl (by kernel_rfl) (by kernel_rfl) (by kernel_rfl) (fun _ _ _ h => h) (Or.inl ⟨by rfl, ?y1804⟩) (by assumption) ?r1804
            case y1804 => ((intro w hSw; (try dsimp only at hSw); go_simp); try with_reducible rfl)
            try simp only [Act.put, List.getElem_toArray, List.getElem_cons_succ, List.getElem_cons_zero, List.setIfInBounds_toArray, List.set_cons_zero, List.set_cons_succ]
            refine wpAnyH_take (i := 4) (v := ?v1805) rfl (by kernel_rfl) (by kernel_rfl) (by kernel_rfl) (fun _ _ _ h => h) (Or.inl ⟨by rfl, ?y1805⟩) (by assumption) ?r1805
            case y1805 => ((intro w hSw; (try dsimp only at hSw); go_simp); try with_reducible rfl)
            try simp only [Act.put, List.getElem_toArray, List.getElem_cons_succ, List.getElem_cons_zero, List.setIfInBounds_toArray, List.set_cons_zero, List.set_cons_succ]
            refine wpAnyH_take (i := 5) (v := ?v1806) rfl (by kernel_rfl) (by kernel_rfl) (by kernel_rfl) (fun _ _ _ h => h) (Or.inl ⟨by rfl, ?y1806⟩) (by assumption) ?r1806
            case y1806 => ((intro w hSw; (try dsimp only at hSw); go_simp); try with_reducible rfl)
            try simp only [Act.put, List.getElem_toArray, List.getElem_cons_succ, List.getElem_cons_zero, List.setIfInBounds_toArray, List.set_cons_zero, List.set_cons_succ]
            refine wpAnyH_take (i := 6) (v := ?v1807) rfl (by kernel_rfl) (by kernel_rfl) (by kernel_rfl) (fun _ _ _ h => h) (Or.inl ⟨by rfl, ?y1807⟩) (by assumption) ?r1807
            case y1807 => ((intro w hSw; (try dsimp only at hSw); go_simp); try with_reducible rfl)
            try simp only [Act.put, List.getElem_toArray, List.getElem_cons_succ, List.getElem_cons_zero, List.setIfInBounds_toArray, List.set_cons_zero, List.set_cons_succ]
            refine wpAnyH_take (i := 8) (v := ?v1808) rfl (by kernel_rfl) (by kernel_rfl) (by kernel_rfl) (fun _ _ _ h => h) (Or.inl ⟨by rfl, ?y1808⟩) (by assumption) ?r1808
            case y1808 => ((intro w hSw; (try dsimp only at hSw); go_simp); try with_reducible rfl)
            try simp only [Act.put, List.getElem_toArray, List.getElem_cons_succ, List.getElem_cons_zero, List.setIfInBounds_toArray, List.set_cons_zero, List.set_cons_succ]
            refine wpAnyH_take (i := 9) (v := ?v1809) rfl (by kernel_rfl) (by kernel_rfl) (by kernel_rfl) (fun _ _ _ h => h) (Or.inl ⟨by rfl, ?y1809⟩) (by assumption) ?r1809
            case y1809 => ((intro w hSw; (try dsimp only at hSw); go_simp); try with_reducible rfl)
            try simp only [Act.put, List.getElem_toArray, List.getElem_cons_succ, List.getElem_cons_zero, List.setIfInBounds_toArray, List.set_cons_zero, List.set_cons_succ]
            refine wpAnyH_take (i := 10) (v := ?v1810) rfl (by kernel_rfl) (by kernel_rfl) (by kernel_rfl) (fun _ _ _ h => h) (Or.inl ⟨by rfl, ?y1810⟩) (by assumption) ?r1810
            case y1810 => ((intro w hSw; (try dsimp only at hSw); go_simp); try with_reducible rfl)
            try simp only [Act.put, List.getElem_toArray, List.getElem_cons_succ, List.getElem_cons_zero, List.setIfInBounds_toArray, List.set_cons_zero, List.set_cons_succ]
            refine wpAnyH_ready (rs := [7, 11]) (by kernel_rfl) (by simp) ?_
            refine AllReadyH.cons rfl (fun K hK => ?_) ?_
            · have ac := CQ.out
              go_simp
              clear ac
              refine hK.out _ _ (hHeld) (fun hHeld' => ?_)
              clear hHeld
              have hHeld := hHeld'
              clear hHeld'
              clear hK K
              try simp only [Act.put, List.getElem_toArray, List.getElem_cons_succ, List.getElem_cons_zero, List.setIfInBounds_toArray, List.set_cons_zero, List.set_cons_succ]
              refine wpAnyH_ready (rs := [11]) (by kernel_rfl) (by simp) ?_
              refine AllReadyH.cons rfl (fun K hK => ?_) ?_
              · have ac := CJ.out
                go_simp
                clear ac
                refine hK.out _ _ (hHeld) (fun hHeld' => ?_)
                clear hHeld
                have hHeld := hHeld'
                clear hHeld'
                clear hK K
                try simp only [Act.put, List.getElem_toArray, List.getElem_cons_succ, List.getElem_cons_zero, List.setIfInBounds_toArray, List.set_cons_zero, List.set_cons_succ]
                refine wpAnyH_take (i := 12) (v := ?v1811) rfl (by kernel_rfl) (by kernel_rfl) (by kernel_rfl) (fun _ _ _ h => h) (Or.inl ⟨by rfl, ?y1811⟩) (by assumption) ?r1811
                case y1811 => ((intro w hSw; (try dsimp only at hSw); go_simp); try with_reducible rfl)
                try simp only [Act.put, List.getElem_toArray, List.getElem_cons_succ, List.getElem_cons_zero, List.setIfInBounds_toArray, List.set_cons_zero, List.set_cons_succ]
                refine wpAnyH_ready (rs := [13]) (by kernel_rfl) (by simp) ?_
                refine AllReadyH.cons rfl (fun K hK => ?_) ?_
                · have ac := CJ.out
                  have af := FJ.out
                  go_simp
                  clear ac af
                  refine hK.out _ _ (hHeld.setCell (p := ⟨ga, j, none⟩) (by show w7.heap.size ≤ ga; have := HGA.out; omega) _) (fun hHeld' => ?_)
                  clear hHeld
                  have hHeld := hHeld'
                  clear hHeld'
                  generalize wd.setCell ⟨ga, j, none⟩ (.int .i64 (pq : Int)) = wd1 at hHeld CQ2 FQ2 AN ⊢
                  clear hK K
                  try simp only [Act.put, List.getElem_toArray, List.getElem_cons_succ, List.getElem_cons_zero, List.setIfInBounds_toArray, List.set_cons_zero, List.set_cons_succ]
                  refine wpAnyH_take (i := 14) (v := ?v1812) rfl (by kernel_rfl) (by kernel_rfl) (by kernel_rfl) (fun _ _ _ h => h) (Or.inl ⟨by rfl, ?y1812⟩) (by assumption) ?r1812
                  case y1812 => ((intro w hSw; (try dsimp only at hSw); go_simp); try with_reducible rfl)
                  try simp only [Act.put, List.getElem_toArray, List.getElem_cons_succ, List.getElem_cons_zero, List.setIfInBounds_toArray, List.set_cons_zero, List.set_cons_succ]
                  refine wpAnyH_ready (rs := [15]) (by kernel_rfl) (by simp) ?_
                  refine AllReadyH.cons rfl (fun K hK => ?_) ?_
                  · have ac := CQ2.out
                    have af := FQ2.out
                    go_simp
                    clear ac af
                    refine hK.out _ _ (hHeld.setCell (p := ⟨ga, q, none⟩) (by show w7.heap.size ≤ ga; have := HGA.out; omega) _) (fun hHeld' => ?_)
                    clear hHeld
                    have hHeld := hHeld'
                    clear hHeld'
                    clear hK K
                    try simp only [Act.put, List.getElem_toArray, List.getElem_cons_succ, List.getElem_cons_zero, List.setIfInBounds_toArray, List.set_cons_zero, List.set_cons_succ]
                    refine wpAnyH_done (by kernel_rfl) ?_ _
                    refine NoPanic.normal ?_
                    have FB := Lib.hid hHeld
                    clear hHeld
                    go_wp2_with fail
                    go_roundw
                    case rel => exact ⟨j + 1, _, by omega, by go_num, PN.out, AN.out, FB.out⟩
                    case measure => simp [intOf]; omega
                  exact AllReadyH.nil
                exact AllReadyH.nil
              exact AllReadyH.nil
            refine AllReadyH.cons rfl (fun K hK => ?_) ?_
            · have ac := CJ.out
              go_simp
              clear ac
              refine hK.out _ _ (hHeld) (fun hHeld' => ?_)
              clear hHeld
              have hHeld := hHeld'
              clear hHeld'
              clear hK K
              try simp only [Act.put, List.getElem_toArray, List.getElem_cons_succ, List.getElem_cons_zero, List.setIfInBounds_toArray, List.set_cons_zero, List.set_cons_succ]
              refine wpAnyH_ready (rs := [7]) (by kernel_rfl) (by simp) ?_
              refine AllReadyH.cons rfl (fun K hK => ?_) ?_
              · have ac := CQ.out
                go_simp
                clear ac
                refine hK.out _ _ (hHeld) (fun hHeld' => ?_)
                clear hHeld
                have hHeld := hHeld'
                clear hHeld'
                clear hK K
                try simp only [Act.put, List.getElem_toArray, List.getElem_cons_succ, List.getElem_cons_zero, List.setIfInBounds_toArray, List.set_cons_zero, List.set_cons_succ]
                refine wpAnyH_take (i := 12) (v := ?v1813) rfl (by kernel_rfl) (by kernel_rfl) (by kernel_rfl) (fun _ _ _ h => h) (Or.inl ⟨by rfl, ?y1813⟩) (by assumption) ?r1813
                case y1813 => ((intro w hSw; (try dsimp only at hSw); go_simp); try with_reducible rfl)
                try simp only [Act.put, List.getElem_toArray, List.getElem_cons_succ, List.getElem_cons_zero, List.setIfInBounds_toArray, List.set_cons_zero, List.set_cons_succ]
                refine wpAnyH_ready (rs := [13]) (by kernel_rfl) (by simp) ?_
                refine AllReadyH.cons rfl (fun K hK => ?_) ?_
                · have ac := CJ.out
                  have af := FJ.out
                  go_simp
                  clear ac af
                  refine hK.out _ _ (hHeld.setCell (p := ⟨ga, j, none⟩) (by show w7.heap.size ≤ ga; have := HGA.out; omega) _) (fun hHeld' => ?_)
                  clear hHeld
                  have hHeld := hHeld'
                  clear hHeld'
                  generalize wd.setCell ⟨ga, j, none⟩ (.int .i64 (pq : Int)) = wd1 at hHeld CQ2 FQ2 AN ⊢
                  clear hK K
                  try simp only [Act.put, List.getElem_toArray, List.getElem_cons_succ, List.getElem_cons_zero, List.setIfInBounds_toArray, List.set_cons_zero, List.set_cons_succ]
                  refine wpAnyH_take (i := 14) (v := ?v1814) rfl (by kernel_rfl) (by kernel_rfl) (by kernel_rfl) (fun _ _ _ h => h) (Or.inl ⟨by rfl, ?y1814⟩) (by assumption) ?r1814
                  case y1814 => ((intro w hSw; (try dsimp only at hSw); go_simp); try with_reducible rfl)
                  try simp only [Act.put, List.getElem_toArray, List.getElem_cons_succ, List.getElem_cons_zero, List.setIfInBounds_toArray, List.set_cons_zero, List.set_cons_succ]
                  refine wpAnyH_ready (rs := [15]) (by kernel_rfl) (by simp) ?_
                  refine AllReadyH.cons rfl (fun K hK => ?_) ?_
                  · have ac := CQ2.out
                    have af := FQ2.out
                    go_simp
                    clear ac af
                    refine hK.out _ _ (hHeld.setCell (p := ⟨ga, q, none⟩) (by show w7.heap.size ≤ ga; have := HGA.out; omega) _) (fun hHeld' => ?_)
                    clear hHeld
                    have hHeld := hHeld'
                    clear hHeld'
                    clear hK K
                    try simp only [Act.put, List.getElem_toArray, List.getElem_cons_succ, List.getElem_cons_zero, List.setIfInBounds_toArray, List.set_cons_zero, List.set_cons_succ]
                    refine wpAnyH_done (by kernel_rfl) ?_ _
                    refine NoPanic.normal ?_
                    have FB := Lib.hid hHeld
                    clear hHeld
                    go_wp2_with fail
                    go_roundw
                    case rel => exact ⟨j + 1, _, by omega, by go_num, PN.out, AN.out, FB.out⟩
                    case measure => simp [intOf]; omega
                  exact AllReadyH.nil
                exact AllReadyH.nil
              exact AllReadyH.nil
            exact AllReadyH.nil
          · have i3 : ¬ ((j : Int) < (n3 : Int)) := by omega
            go_wp2_with fail
            go_roundw
            case rel => exact ⟨j + 1, p, by omega, by go_num, PP.out, AR.out, BQ.out⟩
            case measure => simp [intOf]; omega
        · have i1 : ¬ ((j : Int) < (P : Int)) := by omega
          obtain rfl : P = j := by omega
          obtain ⟨w10, hw10⟩ : ∃ W : World, W = wr := ⟨wr, rfl⟩
          subst hw10
          obtain ⟨T10, R10⟩ := W7N.out w10 BQ.out
          have TX := Lib.hid T10
          have RX := Lib.hid R10
          clear T10 R10 i1 hlt hj W7N BQ H3
          go_wp2_with fail
          go_loopw [19, 20, 105] (fun _ _ i wr => ∃ j : Nat, j ≤ P ∧ i = .int .i64 (j : Int) ∧ TW j (fillF l 0 zx j) 0 (fun _ => k) wr ∧ RowsT wr w6.heap.size (.slice Ar P cr) (allL l) ∧ AtB wr ga P p) (fun _ _ i _ => P - (intOf i).toNat)
          case atStart => exact ⟨0, Nat.zero_le _, rfl, TX.out, RX.out, AR.out⟩
          case round =>
            obtain ⟨j, hj, rfl, hT, hR, hA⟩ := hrel
            have TR := Lib.hid hT
            have RR := Lib.hid hR
            have AQ := Lib.hid hA
            clear hT hR hA TX RX AR
            by_cases hlt : j < P
            · have i1 : (j : Int) < (P : Int) := by omega
              have i2 : (0 : Int) ≤ (j : Int) := by omega
              have D := Lib.hid ((TWD.out _ _ _ _ _).1 TR.out)
              obtain ⟨Ar', cr', e1, hrow⟩ := RR.out.form
              obtain ⟨gr, x, hA, hgr, hc, hx⟩ := hrow j (by rw [allL_length, HP.out]; exact hlt)
              obtain rfl : Ar = Ar' := by injection e1
              subst hA
              have eq : nthT (allL l) j = tupL l j := allL_get l (by rw [HP.out]; exact hlt)
              rw [eq] at hx
              obtain ⟨Ax, cx, rfl, hIx⟩ := hx.form
              have hin : InL l (tupL l j) := tupL_in (fun n hn => (HLS.out n hn).1) j
              have hzc := D.out.1.cost hlt
              obtain ⟨x0, x1, x2⟩ := D.out.1.cells
              have PUT := Lib.hid (tpput_ok g b j ct (tupL l j).length cx At Ax l (tupL l j) k 0 (zx j) (fillF l 0 zx j) wr D.out.2.1 rfl (by rw [HNL.out]; omega) (fun n hn => (HLS.out n hn).2) hIx hin (ZX.out j hlt) (by omega))
              clear hrow e1 eq hx hIx hin x0 x1
              go_wp2_with fail
              refine PUT.out.mono ?_
              rintro e w9' ⟨rfl, hT9, hg9⟩
              have TN := Lib.hid (TWA.out _ _ _ _ (fillF l 0 zx (j + 1)) _ _ TR.out hg9 hT9)
              have RN := Lib.hid (rowsT_far RR.out hg9 (by have := HBW.out; omega))
              have AN := Lib.hid (AQ.out.other D.out.2.1 hg9)
              clear hT9 hg9 PUT hzc x2 hc
              go_wp2_with fail
              go_roundw
              case rel => exact ⟨j + 1, by omega, by go_num, TN.out, RN.out, AN.out⟩
              case measure => simp [intOf]; omega
            · have i1 : ¬ ((j : Int) < (P : Int)) := by omega
              obtain rfl : P = j := by omega
              clear i1 hlt hj
              obtain ⟨w11, hw11⟩ : ∃ W : World, W = wr := ⟨wr, rfl⟩
              subst hw11
              go_wp2_with fail
              go_loopw [22, 121] (fun _ i wr => ∃ (j : Nat) (f : List Nat → Int), j ≤ P ∧ i = .int .i64 (j : Int) ∧ TW P (fillF l 0 zx P) (j + j) f wr ∧ Ford l k zx p j f ∧ RowsT wr w6.heap.size (.slice Ar P cr) (allL l) ∧ AtB wr ga P p) (fun _ i _ => P - (intOf i).toNat)
              case atStart => exact ⟨0, _, Nat.zero_le _, rfl, TR.out, ford_zero l k zx p, RR.out, AQ.out⟩
              case round =>
                obtain ⟨j, f, hj, rfl, hT, hF, hR, hA⟩ := hrel
                have TY := Lib.hid hT
                have FF := Lib.hid hF
                have RY := Lib.hid hR
                have AY := Lib.hid hA
                clear hT hF hR hA TR RR AQ
                by_cases hlt : j < P
                · have i1 : (j : Int) < (P : Int) := by omega
                  have i2 : (0 : Int) ≤ (j : Int) := by omega
                  have D := Lib.hid ((TWD.out _ _ _ _ _).1 TY.out)
                  have hpP := PP.out.1 j hlt
                  have FN := Lib.hid (ford_step (x := 0) FF.out PP.out HP.out hlt)
                  obtain ⟨cj, _⟩ := AY.out.cell hlt
                  obtain ⟨q, hq⟩ : ∃ q, p j = q := ⟨_, rfl⟩
                  rw [hq] at cj hpP FN
                  clear hq
                  have i3 : (q : Int) < (P : Int) := by omega
                  have i4 : (0 : Int) ≤ (q : Int) := by omega
                  obtain ⟨Ar', cr', e1, hrow⟩ := RY.out.form
                  obtain ⟨gr, x, hA, hgr, hc, hx⟩ := hrow q (by rw [allL_length, HP.out]; exact hpP)
                  obtain rfl : Ar = Ar' := by injection e1
                  subst hA
                  have eq : nthT (allL l) q = tupL l q := allL_get l (by rw [HP.out]; exact hpP)
                  rw [eq] at hx
                  have HXO := Lib.hid hx
                  obtain ⟨Ax, cx, rfl, hIx⟩ := hx.form
                  have hin : InL l (tupL l q) := tupL_in (fun n hn => (HLS.out n hn).1) q
                  have HIN := Lib.hid hin
                  obtain ⟨nt, hnt⟩ : ∃ nt, (tupL l q).length = nt := ⟨_, rfl⟩
                  have HNT := Lib.hid hnt
                  rw [hnt] at hc HXO
                  have PUT := Lib.hid (tpput_ok g' b' (j + j) ct' nt cx At' Ax l (tupL l q) k k 0 f wr D.out.2.2.1 hnt.symm (by rw [HNL.out]; omega) (fun n hn => (HLS.out n hn).2) hIx hin ⟨hk1, by omega, by omega, by omega⟩ (by omega))
                  clear hrow e1 eq hx hIx hin hnt
                  go_upto_region 29 with (go_at_call 14; refine PUT.out.mono ?_; rintro e wp ⟨rfl, hT9, hg9⟩)
                  have T1 := Lib.hid (TWB.out _ _ _ _ (updF f (tupL l q) 0) _ _ TY.out hg9 hT9)
                  have R1 := Lib.hid (rowsT_far RY.out hg9 (by have := HBW.out; omega))
                  have A1 := Lib.hid (AY.out.other D.out.2.2.1 hg9)
                  clear hT9 hg9 PUT hc cj D RY AY TY
                  have T2 := Lib.hid (TWN.out _ _ _ _ _ _ T1.out ((Below.refl wp.heap.size wp).drew))
                  have R2 := Lib.hid (R1.out.below ((Below.refl wp.heap.size wp).drew) (Nat.le_refl _))
                  have A2 := Lib.hid (A1.out.below ((Below.refl wp.heap.size wp).drew))
                  go_upto_region 29 with fail
                  refine wp_region_noPanic ?_
                  have D2 := Lib.hid ((TWD.out _ _ _ _ _).1 T2.out)
                  obtain ⟨Ar', cr', e1, hrow⟩ := R2.out.form
                  obtain ⟨gr', x, hA, hgr', hc, hx⟩ := hrow q (by rw [allL_length, HP.out]; exact hpP)
                  obtain rfl : (some ⟨gr, 0, none⟩ : Option Addr) = Ar' := by injection e1
                  obtain rfl : gr = gr' := by injection hA with hA; injection hA
                  have eq : nthT (allL l) q = tupL l q := allL_get l (by rw [HP.out]; exact hpP)
                  rw [eq] at hx
                  obtain ⟨Ay, cy, rfl, hIy⟩ := hx.form
                  rw [HNT.out] at hc
                  have PUT := Lib.hid (tpput_ok g' b' (j + j + 1) ct' nt cy At' Ay l (tupL l q) k k (zx q) (updF f (tupL l q) 0) _ D2.out.2.2.1 HNT.out.symm (by rw [HNL.out]; omega) (fun n hn => (HLS.out n hn).2) hIy HIN.out (ZX.out q hpP) (by omega))
                  have SS : Hid (HoldQ gr bx gc q (.slice Ay nt cy) P cc (zx q) wp.drew) := Lib.hid ⟨hc, D2.out.1.cells.2.2, D2.out.1.cost hpP⟩
                  have GR : Hid (gr ≠ b') := Lib.hid (by have := hgr'; have h2 := HBW.out; have h3 : w6.heap.size ≤ gr := rowsT_ge R2.out; omega)
                  clear hrow e1 eq hx hIy hc hA
                  refine wp_region_held_drew (S := fun W => HoldQ gr bx gc q (.slice Ay nt cy) P cc (zx q) W) (by kernel_rfl) SS.out (fun hHeld => ?_)
                  generalize wp.drew = wq at T2 R2 A2 D2 PUT hHeld
                  refine wpAnyH_take (i := 0) (v := ?v2901) rfl (by kernel_rfl) (by kernel_rfl) (by kernel_rfl) (fun _ _ _ h => h) (Or.inl ⟨by rfl, ?y2901⟩) (by assumption) ?r2901
                  case y2901 => ((intro w hSw; (try dsimp only at hSw); go_simp); try with_reducible rfl)
                  try simp only [Act.put, List.getElem_toArray, List.getElem_cons_zero, List.setIfInBounds_toArray, List.set_cons_zero, List.set_cons_succ]
                  refine wpAnyH_take (i := 1) (v := ?v2902) rfl (by kernel_rfl) (by kernel_rfl) (by kernel_rfl) (fun _ _ _ h => h) (Or.inl ⟨by rfl, ?y2902⟩) (by assumption) ?r2902
                  case y2902 => ((intro w hSw; (try dsimp only at hSw); go_simp); try with_reducible rfl)
                  try simp only [Act.put, List.getElem_toArray, List.getElem_cons_succ, List.getElem_cons_zero, List.setIfInBounds_toArray, List.set_cons_zero, List.set_cons_succ]
                  refine wpAnyH_take (i := 2) (v := ?v2903) rfl (by kernel_rfl) (by kernel_rfl) (by kernel_rfl) (fun _ _ _ h => h) (Or.inl ⟨by rfl, ?y2903⟩) (by assumption) ?r2903
                  case y2903 => ((intro w hSw; (try dsimp only at hSw); go_simp); try with_reducible rfl)
                  try simp only [Act.put, List.getElem_toArray, List.getElem_cons_succ, List.getElem_cons_zero, List.setIfInBounds_toArray, List.set_cons_zero, List.set_cons_succ]
                  refine wpAnyH_take (i := 3) (v := ?v2904) rfl (by kernel_rfl) (by kernel_rfl) (by kernel_rfl) (fun _ _ _ h => h) (Or.inl ⟨by rfl, ?y2904⟩) (by assumption) ?r2904
                  case y2904 => ((intro w hSw; (try dsimp only at hSw); go_simp); try with_reducible rfl)
                  try simp only [Act.put, List.getElem_toArray, List.getElem_cons_succ, List.getElem_cons_zero, List.setIfInBounds_toArray, List.set_cons_zero, List.set_cons_succ]
                  refine wpAnyH_take (i := 4) (v := ?v2905) rfl (by kernel_rfl) (by kernel_rfl) (by kernel_rfl) (fun _ _ _ h => h) (Or.inl ⟨by rfl, ?y2905⟩) (by assumption) ?r2905
                  case y2905 => ((intro w hSw; (try dsimp only at hSw); go_simp); try with_reducible rfl)
                  try simp only [Act.put, List.getElem_toArray, List.getElem_cons_succ, List.getElem_cons_zero, List.setIfInBounds_toArray, List.set_cons_zero, List.set_cons_succ]
                  refine wpAnyH_take (i := 5) (v := ?v2906) rfl (by kernel_rfl) (by kernel_rfl) (by kernel_rfl) (fun _ _ _ h => h) (Or.inl ⟨by rfl, ?y2906⟩) (by assumption) ?r2906
                  case y2906 => ((intro w hSw; (try dsimp only at hSw); go_simp); try with_reducible rfl)
                  try simp only [Act.put, List.getElem_toArray, List.getElem_cons_succ, List.getElem_cons_zero, List.setIfInBounds_toArray, List.set_cons_zero, List.set_cons_succ]
                  refine wpAnyH_take (i := 6) (v := ?v2907) rfl (by kernel_rfl) (by kernel_rfl) (by kernel_rfl) (fun _ _ _ h => h) (Or.inl ⟨by rfl, ?y2907⟩) (by assumption) ?r2907
                  case y2907 => ((intro w hSw; (try dsimp only at hSw); go_simp); try with_reducible rfl)
                  try simp only [Act.put, List.getElem_toArray, List.getElem_cons_succ, List.getElem_cons_zero, List.setIfInBounds_toArray, List.set_cons_zero, List.set_cons_succ]
                  refine wpAnyH_take (i := 7) (v := ?v2908) rfl (by kernel_rfl) (by kernel_rfl) (by kernel_rfl) (fun _ _ _ h => h) (Or.inl ⟨by rfl, ?y2908⟩) (by assumption) ?r2908
                  case y2908 => ((intro w hSw; (try dsimp only at hSw); go_simp); try with_reducible rfl)
                  try simp only [Act.put, List.getElem_toArray, List.getElem_cons_succ, List.getElem_cons_zero, List.setIfInBounds_toArray, List.set_cons_zero, List.set_cons_succ]
                  refine wpAnyH_take (i := 8) (v := ?v2909) rfl (by kernel_rfl) (by kernel_rfl) (by kernel_rfl) (fun _ _ _ h => h) (Or.inl ⟨by rfl, ?y2909⟩) (by assumption) ?r2909
                  case y2909 => ((intro w hSw; (try dsimp only at hSw); go_simp); try with_reducible rfl)
                  try simp only [Act.put, List.getElem_toArray, List.getElem_cons_succ, List.getElem_cons_zero, List.setIfInBounds_toArray, List.set_cons_zero, List.set_cons_succ]
                  refine wpAnyH_take (i := 9) (v := ?v2910) rfl (by kernel_rfl) (by kernel_rfl) (by kernel_rfl) (fun _ _ _ h => h) (Or.inl ⟨by rfl, ?y2910⟩) (by assumption) ?r2910
                  case y2910 => ((intro w hSw; (try dsimp only at hSw); go_simp); try with_reducible rfl)
                  try simp only [Act.put, List.getElem_toArray, List.getElem_cons_succ, List.getElem_cons_zero, List.setIfInBounds_toArray, List.set_cons_zero, List.set_cons_succ]
                  refine wpAnyH_ready (rs := [10]) (by kernel_rfl) (by simp) ?_
                  refine AllReadyH.cons rfl (fun K hK => ?_) ?_
                  · go_simp
                    refine PUT.out.mono ?_
                    rintro e w9 ⟨rfl, hT9, hg9⟩
                    have TN := Lib.hid (TWB.out _ _ _ _ (updF (updF f (tupL l q) 0) (tupL l q) (zx q)) _ _ T2.out hg9 hT9)
                    have RN := Lib.hid (rowsT_far R2.out hg9 (by have := HBW.out; omega))
                    have AN := Lib.hid (A2.out.other D2.out.2.2.1 hg9)
                    refine hK.out _ _ (holdQ hHeld D2.out.1 D2.out.2.2.1 GR.out hg9) (fun hHeld' => ?_)
                    clear hHeld
                    have hHeld := hHeld'
                    clear hHeld'
                    clear hT9 hg9 PUT
                    clear hK K
                    try simp only [Act.put, List.getElem_toArray, List.getElem_cons_succ, List.getElem_cons_zero, List.setIfInBounds_toArray, List.set_cons_zero, List.set_cons_succ]
                    refine wpAnyH_done (by kernel_rfl) ?_ _
                    refine NoPanic.normal ?_
                    clear hHeld
                    go_wp2_with fail
                    go_roundw
                    case rel => exact ⟨j + 1, _, by omega, by go_num, by have := TN.out; rw [show j + 1 + (j + 1) = j + j + 1 + 1 by omega]; exact this, FN.out, RN.out, AN.out⟩
                    case measure => simp [intOf]; omega
                  exact AllReadyH.nil
                · have i1 : ¬ ((j : Int) < (P : Int)) := by omega
                  obtain rfl : P = j := by omega
                  clear RY AY i1 hlt hj
                  obtain ⟨w12, hw12⟩ : ∃ W : World, W = wr := ⟨wr, rfl⟩
                  subst hw12
                  obtain ⟨fa, hfa⟩ : ∃ f, fillF l 0 zx P = f := ⟨_, rfl⟩
                  have QA : Hid (∀ i, i < P → fa (tupL l i) = zx i) := Lib.hid fun i hi => by rw [← hfa, ← HP.out, fillF_all (by rw [HP.out]; exact hi)]
                  have QB : Hid (∀ i, i < P → f (tupL l i) = zx i) := Lib.hid (ford_done FF.out PP.out HP.out)
                  have IA : Hid (∀ t, InL l t → InK (fa t) k) := Lib.hid fun t ht => by rw [← ht.tup, QA.out _ (by rw [← HP.out]; exact ht.num_lt)]; exact ZX.out _ (by rw [← HP.out]; exact ht.num_lt)
                  have IB : Hid (∀ t, InL l t → InK (f t) k) := Lib.hid fun t ht => by rw [← ht.tup, QB.out _ (by rw [← HP.out]; exact ht.num_lt)]; exact ZX.out _ (by rw [← HP.out]; exact ht.num_lt)
                  rw [hfa] at TY
                  clear hfa FF PP
                  have SAME : Hid (∀ W, Below w12.heap.size w12 W → Calls Try.prog 21 #[.pointer (some ⟨g, 0, none⟩), .pointer (some ⟨g', 0, none⟩)] W fun e w' => e = .returned (.bool true) ∧ Below W.heap.size W w') := Lib.hid fun W hb => by
                    have D := (TWD.out _ _ _ _ _).1 (TWN.out _ _ _ _ _ _ TY.out hb)
                    refine (tpsame_ok g b P ct g' b' (P + P) ct' P At At' l k 0 k fa f W D.2.1 D.2.2.1 (by rw [HNL.out]; omega) HLS.out HP.out (by omega)).mono ?_
                    rintro e w' ⟨r', rfl, h1, h2⟩
                    refine ⟨?_, h2⟩
                    have : r' = true := h1.2 ⟨rfl, fun t ht => by
                      have hi : numL l t < P := by rw [← HP.out]; exact ht.num_lt
                      rw [← ht.tup, QA.out _ hi, QB.out _ hi]⟩
                    rw [this]
                  have LA : Hid (∀ W, Below w12.heap.size w12 W → Calls Try.prog 16 #[.pointer (some ⟨g, 0, none⟩), .agg #[.slice As nl cs, .int .i64 k, .slice (some ⟨gc, 0, none⟩) P cc], .int .i64 0] W fun e w' => e = .returned (.bool true) ∧ Below W.heap.size W w') := Lib.hid fun W hb => by
                    have D := (TWD.out _ _ _ _ _).1 (TWN.out _ _ _ _ _ _ TY.out hb)
                    have h := like5_yes g b P ct At As (some ⟨gc, 0, none⟩) cs cc P l k 0 zx fa W D.2.1 (by omega) (by rw [HNL.out]; omega) (by rw [HNL.out]; exact HCap) HLS.out HP.out (by omega) D.1.ints D.1.zs (fun i hi => (QA.out i hi).symm) HO.out IA.out
                    rw [HNL.out] at h
                    exact h
                  have LB : Hid (∀ W, Below w12.heap.size w12 W → Calls Try.prog 16 #[.pointer (some ⟨g', 0, none⟩), .agg #[.slice As nl cs, .int .i64 k, .slice (some ⟨gc, 0, none⟩) P cc], .int .i64 k] W fun e w' => e = .returned (.bool true) ∧ Below W.heap.size W w') := Lib.hid fun W hb => by
                    have D := (TWD.out _ _ _ _ _).1 (TWN.out _ _ _ _ _ _ TY.out hb)
                    have h := like5_yes g' b' (P + P) ct' At' As (some ⟨gc, 0, none⟩) cs cc P l k k zx f W D.2.2.1 (by omega) (by rw [HNL.out]; omega) (by rw [HNL.out]; exact HCap) HLS.out HP.out (by omega) D.1.ints D.1.zs (fun i hi => (QB.out i hi).symm) HO'.out IB.out
                    rw [HNL.out] at h
                    exact h
                  have XC : Hid (∀ W, Below w12.heap.size w12 W → W.cell? ⟨bx, 0, none⟩ = some (.slice As nl cs) ∧ W.cell? ⟨bx, 1, none⟩ = some (.int .i64 k) ∧ W.cell? ⟨bx, 2, none⟩ = some (.slice (some ⟨gc, 0, none⟩) P cc)) := Lib.hid fun W hb => ((TWD.out _ _ _ _ _).1 (TWN.out _ _ _ _ _ _ TY.out hb)).1.cells
                  have BF := Lib.hid ((TWD.out _ _ _ _ _).1 TY.out).2.2.2
                  go_wp2_with fail
                  refine (SAME.out _ (Below.refl _ _)).mono ?_
                  rintro e w13 ⟨rfl, b13⟩
                  have B13 := Lib.hid b13
                  obtain ⟨x0, x1, x2⟩ := XC.out _ b13
                  clear b13
                  go_wp2_with fail
                  refine (LA.out _ B13.out).mono ?_
                  rintro e w14 ⟨rfl, b14⟩
                  have B14 := Lib.hid (then_ B13.out b14)
                  clear b14 x0 x1 x2
                  obtain ⟨x0, x1, x2⟩ := XC.out _ B14.out
                  go_wp2_with fail
                  refine (LB.out _ B14.out).mono ?_
                  rintro e w15 ⟨rfl, b15⟩
                  have B15 := Lib.hid (then_ B14.out b15)
                  clear b15 x0 x1 x2
                  go_wp2_with fail
                  go_ret
                  exact ⟨rfl, BF.out.trans (B15.out.mono BF.out.size)⟩
end Go.Proofs.Ytdmldnlgamnkeaa
