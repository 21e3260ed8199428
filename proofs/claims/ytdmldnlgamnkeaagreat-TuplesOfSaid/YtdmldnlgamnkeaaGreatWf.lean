/- The walk of TuplesOf (no statement of its own). No condition. -/
import Derived.Test.YtdmldnlgamnkeaaGreatWe
import Derived.Test.YtdmldnlgamnkeaaGreatVA
import Derived.Test.YtdmldnlgamnkeaaGreatCame
namespace Go.Proofs.YtdmldnlgamnkeaaGreat
open Go.RowKit Go.Maps
set_option linter.unusedVariables false
theorem xat_made {W : World} {n cs P : Nat} {As : Option Addr} {l : List Nat} {k : Int} {z : Nat → Int} {v : Value} {base bx : Nat} (hI : Ints W As l) (hv : W.ownsRow base 2 1 v P (costL z P)) (hP : 1 ≤ P) (hr : W.heap[bx]? = some (.cells #[.slice As n cs, .int .i64 k, v] 29 (0, 0))) :
    ∃ gc cc, v = .slice (some ⟨gc, 0, none⟩) P cc ∧ XAt W bx gc n cs cc P As l k z := by
  obtain ⟨A, c, e⟩ := row64_form hv
  subst e
  obtain ⟨gc, cur, e, hgc, hcc, hcs, hci⟩ := own_row64 hv hP
  subst e
  exact ⟨gc, c, rfl, hr, hI, cur, hcc, hcs, hci⟩
theorem rowsT_far {w w' : World} {base b : Nat} {v : Value} {ts : List (List Nat)} (h : RowsT w base v ts) (hg : w.grownBy w' (some b)) (hb : b < base) : RowsT w' base v ts := by
  obtain ⟨xs, h1, h2⟩ := h
  have key : ∀ {e : TypeId} {n : Nat} {u : Value} {ys : List Value}, w.ownsRow base e 1 u n ys → u.ownBlock = none ∨ u.ownBlock ≠ some b := fun {e n u ys} hu => by
    cases hv : u.ownBlock with
    | none => exact .inl rfl
    | some q => exact .inr fun e => by injection e with e; have := (World.ownsRow.lt hu q hv).1; omega
  exact ⟨xs, World.ownsRow.kept h1 hg (key h1), fun j x hx => (h2 j x hx).grown hg (key (h2 j x hx))⟩
theorem XAt.far {w w' : World} {bx gc n cs cc P : Nat} {As : Option Addr} {l : List Nat} {k : Int} {z : Nat → Int} (H : XAt w bx gc n cs cc P As l k z) {row : Option Nat} (hg : w.grownBy w' row) (h1 : some bx ≠ row) (h2 : some gc ≠ row) (h3 : l ≠ [] → ∀ a : Addr, As = some a → some a.block ≠ row) : XAt w' bx gc n cs cc P As l k z := by
  obtain ⟨cur, hc, q1, q2⟩ := H.costs
  refine ⟨(hg.block _ (Array.getElem?_eq_some_iff.1 H.row).1 h1).trans H.row, ?_, cur, (hg.block _ (Array.getElem?_eq_some_iff.1 hc).1 h2).trans hc, q1, q2⟩
  by_cases hl : l = []
  · exact .inl hl
  · rcases H.ints with h0 | ⟨g', o', e, hlt, hci⟩
    · exact absurd h0 hl
    · exact .inr ⟨g', o', e, Nat.lt_of_lt_of_le hlt hg.size, fun i hi => World.grownBy.cell hg (hci i hi) (h3 hl ⟨g', o', none⟩ e)⟩
theorem tab_z {w : World} {g h : Nat} {l : List Nat} {k : Int} {z z' : Nat → Int} (H : TabAt w g h l k z) (he : ∀ i, i < prodL l → z i = z' i) : TabAt w g h l k z' := tab_congr H he
set_option maxRecDepth 100000 in
set_option maxHeartbeats 4000000 in
theorem tof_walk (A0 A2 : Option Addr) (n0 c0 n2 c2 : Nat) (z0 y2 : Nat → Int) (a1 : Int) (w : World) (h0 : Bytes w A0 n0 z0) (m0 : (n0 : Int) ≤ 9223372036854775807) (q1 : 0 ≤ a1 ∧ a1 ≤ 65535) (h2 : Words w A2 n2 y2) (m2 : (n2 : Int) ≤ 9223372036854775807) :
    Calls Tryz.prog 3 #[.slice A0 n0 c0, .int .u16 a1, .slice A2 n2 c2] w fun e w' => e = .returned (.bool true) ∧ Below w.heap.size w w' := by
  have H0 := Lib.hid h0
  have H2 := Lib.hid h2
  have p1 := q1.1
  have p1' := q1.2
  clear h0 h2 q1
  go_enter Tryz.func3, Tryz.ntmps3
  go_wp2_with fail
  refine (awake5_ok w).mono ?_
  rintro e w1 ⟨rfl, b1⟩
  have B1 := Lib.hid b1
  clear b1
  obtain ⟨l, hl⟩ : ∃ l, smL z0 (min n0 3) = l := ⟨_, rfl⟩
  obtain ⟨P, hP⟩ : ∃ P, prodL l = P := ⟨_, rfl⟩
  have hP64 : 1 ≤ P ∧ P ≤ 64 := by rw [← hP, ← hl]; exact smL_prod z0 _ (by omega)
  have hl3 : l.length ≤ 3 := by rw [← hl, smL_len]; omega
  have hls : ∀ x ∈ l, 1 ≤ x ∧ x ≤ 32 := fun x hx => by rw [← hl] at hx; have := smL_small z0 _ x hx; omega
  have SM := Lib.hid (small_any A0 n0 c0 z0 w1 m0 (H0.out.below B1.out))
  rw [hl] at SM
  have HP := Lib.hid hP
  have HLS := Lib.hid hls
  clear hl hP hls
  obtain ⟨hP1, hP4⟩ := hP64
  obtain ⟨k, hk⟩ : ∃ k, 1 + a1 % 50 = k := ⟨_, rfl⟩
  have hk1 : 1 ≤ k := by omega
  have hk2 : k ≤ 50 := by omega
  go_wp2_with fail
  refine SM.out.mono ?_
  rintro e w2 ⟨⟨v, rfl, hO⟩, b2⟩
  obtain ⟨As, cs, rfl, hI⟩ := hO.form
  have HCap := own_cap hO
  have I2 := Lib.hid hI
  have B2 := Lib.hid (then_ B1.out b2)
  have MK := Lib.hid (rmake_any As A2 l.length cs n2 c2 P l k y2 w2 rfl (by omega) (fun n hn => (HLS.out n hn).2) I2.out HP.out (by omega) hk1 (by omega) m2 (H2.out.below B2.out))
  clear hO hI b2 SM H0
  go_wp2_with fail
  refine MK.out.mono ?_
  rintro e w3 ⟨⟨v3, rfl, hv3⟩, b3⟩
  obtain ⟨Ac, cc, rfl⟩ := row64_form hv3
  have I3 := Lib.hid (I2.out.below b3 (Nat.le_refl _))
  have V3 := Lib.hid hv3
  have B3 := Lib.hid (then_ B2.out b3)
  clear MK hv3 b3 I2
  obtain ⟨nl, hnl⟩ : ∃ nl, l.length = nl := ⟨_, rfl⟩
  have HNL := Lib.hid hnl
  rw [hnl] at hl3 HCap
  simp only [hnl]
  clear hnl
  go_upto_region 4 with ((with_reducible show wpList _ _ _ (Oper.mk none (.store 29 _ _) _ _ _ _ :: _) _ _)
                         refine wpList_store_row rfl 29 (.tmp 7) (.tmp 24) rfl w3.heap.size #[.slice As nl cs, .int .i64 k, .slice Ac P cc] rfl rfl 29 #[.slice none 0 0, .int .i64 0, .slice none 0 0] (heap_alloc_new w3 _) (by kernel_rfl) rfl (by simp [Value.oneCell']) ?_
                         rw [World.setRow_alloc_new])
  have n4 := new_val w3 (.cells #[.slice As nl cs, .int .i64 k, .slice Ac P cc] 29)
  have r4 := heap_alloc_new w3 (.cells #[.slice As nl cs, .int .i64 k, .slice Ac P cc] 29)
  obtain ⟨gc, cx, e, X4⟩ := xat_made (I3.out.below n4 (Nat.le_refl _)) (ownsRow_below V3.out n4 (Nat.le_refl _)) hP1 r4
  injection e with e1 e2 e3
  subst e1 e3
  have HX := Lib.hid X4
  have B4 := Lib.hid (then_ B3.out n4)
  clear e2 n4 r4 X4 V3 I3 B3
  generalize w3.alloc (.cells #[.slice As nl cs, .int .i64 k, .slice (some ⟨gc, 0, none⟩) P cc] 29) = w4 at HX B4 ⊢
  generalize w3.heap.size = bx at HX ⊢
  obtain ⟨x0, x1, x2⟩ := HX.out.cells
  have NW := Lib.hid (tnew_ok As nl cs l k 0 w4 HNL.out.symm (by rw [HNL.out]; omega) HX.out.ints HLS.out (by rw [HP.out]; omega) hk1 (by omega) (by omega) (by omega))
  clear x2
  go_upto_region 5 with (go_at_call 7; refine NW.out.mono ?_; rintro e w5 ⟨g, h, rfl, hT, hg, hh, b5⟩)
  obtain ⟨z, hz⟩ : ∃ z, mkC k y2 n2 = z := ⟨_, rfl⟩
  have ZX : Hid (∀ i, i < P → InK (z i) k) := Lib.hid fun i hi => by rw [← hz]; have := mkC_in (y := y2) (m := n2) (i := i) hk1 (fun h => by obtain ⟨p, _, _, _, h1, _⟩ := H2.out i h; exact h1); exact ⟨hk1, by omega, this.1, this.2⟩
  rw [hz] at HX
  have FAR : Hid (bx ≠ h ∧ gc ≠ h ∧ (l ≠ [] → ∀ a : Addr, As = some a → a.block ≠ h)) := Lib.hid (by
    have e1 := (Array.getElem?_eq_some_iff.1 HX.out.row).1
    obtain ⟨cur, hc, _⟩ := HX.out.costs
    have e2 := (Array.getElem?_eq_some_iff.1 hc).1
    refine ⟨by omega, by omega, fun hl a ha => ?_⟩
    rcases HX.out.ints with h0 | ⟨g', o', e, hlt, _⟩
    · exact absurd h0 hl
    · rw [ha] at e
      injection e with e
      subst e
      show g' ≠ h
      omega)
  obtain ⟨TW, hTW⟩ : ∃ TW : (Nat → Int) → World → Prop, ∀ zt W, TW zt W ↔ XAt W bx gc nl cs cc P As l k z ∧ TabAt W g h l k zt ∧ Below w.heap.size w W := ⟨fun zt W => _, fun _ _ => Iff.rfl⟩
  have TWD := Lib.hid hTW
  have TWN : Hid (∀ zt W W', TW zt W → Below W.heap.size W W' → TW zt W') := Lib.hid fun zt W W' q hb => by
    obtain ⟨h1, h3, h5⟩ := (hTW _ _).1 q
    exact (hTW _ _).2 ⟨h1.below hb, h3.below hb, then_ h5 hb⟩
  have TWA : Hid (∀ zt zt' W W1, TW zt W → W.grownBy W1 (some h) → TabAt W1 g h l k zt' → TW zt' W1) := Lib.hid fun zt zt' W W1 q hg ht => by
    obtain ⟨h1, h3, h5⟩ := (hTW _ _).1 q
    exact (hTW _ _).2 ⟨h1.far hg (fun e => FAR.out.1 (by injection e)) (fun e => FAR.out.2.1 (by injection e)) (fun hl a ha e => FAR.out.2.2 hl a ha (by injection e)), ht, h5.grown hg h5.size (fun k hk => by injection hk with hk; have := B4.out.size; omega)⟩
  have W5 : Hid (TW (fun i => if i < 0 then z i else 0) w5) := Lib.hid ((hTW _ _).2 ⟨HX.out.below b5, tab_z hT (fun i _ => by simp), then_ B4.out b5⟩)
  have HBW : Hid (h < w5.heap.size) := Lib.hid (by obtain ⟨cur, hc, _⟩ := hT.costs; exact (Array.getElem?_eq_some_iff.1 hc).1)
  clear hTW hT hg hh b5 hz NW x0 x1 HX B4 FAR H2
  have D5 := (TWD.out _ _).1 W5.out
  have RA := Lib.hid (rall_any4 As nl cs P l w5 HNL.out.symm (by rw [HNL.out]; omega) HCap HLS.out HP.out (by omega) D5.1.ints)
  obtain ⟨x0, x1, x2⟩ := D5.1.cells
  clear x1 x2 D5
  go_wp2_with fail
  refine RA.out.mono ?_
  rintro e w6 ⟨⟨Ar, cr, rfl, hR⟩, bR⟩
  have R6 := Lib.hid hR
  have W6 := Lib.hid (TWN.out _ _ _ W5.out bR)
  clear hR bR RA x0 W5
  go_wp2_with fail
  go_loopw [10, 11, 37] (fun _ _ i wr => ∃ j : Nat, j ≤ P ∧ i = .int .i64 (j : Int) ∧ TW (fun i => if i < j then z i else 0) wr ∧ RowsT wr w5.heap.size (.slice Ar P cr) (allL l)) (fun _ _ i _ => P - (intOf i).toNat)
  case atStart => exact ⟨0, Nat.zero_le _, rfl, W6.out, R6.out⟩
  case round =>
    obtain ⟨j, hj, rfl, hT, hR⟩ := hrel
    have TR := Lib.hid hT
    have RR := Lib.hid hR
    clear hT hR W6 R6
    by_cases hlt : j < P
    · have i1 : (j : Int) < (P : Int) := by omega
      have i2 : (0 : Int) ≤ (j : Int) := by omega
      have D := Lib.hid ((TWD.out _ _).1 TR.out)
      obtain ⟨Ar', cr', e1, hrow⟩ := RR.out.form
      obtain ⟨gr, x, hA, hgr, hc, hx⟩ := hrow j (by rw [allL_length, HP.out]; exact hlt)
      obtain rfl : Ar = Ar' := by injection e1
      subst hA
      have eq : nthT (allL l) j = tupL l j := allL_get l (by rw [HP.out]; exact hlt)
      rw [eq] at hx
      obtain ⟨Ax, cx, rfl, hIx⟩ := hx.form
      have hin : InL l (tupL l j) := tupL_in (fun n hn => (HLS.out n hn).1) j
      have hzc := D.out.1.cost hlt
      obtain ⟨x0, x1, x2⟩ := D.out.1.cells
      have hzk := ZX.out j hlt
      have PUT := Lib.hid (tput_ok g h Ax (tupL l j).length cx j l (tupL l j) k (z j) (fun i => if i < j then z i else 0) wr D.out.2.1 rfl (by rw [HNL.out]; omega) (fun n hn => (HLS.out n hn).2) hIx hin (num_tup (by rw [HP.out]; exact hlt)) (by rw [HP.out]; exact hlt) hk1 (by omega) hzk.2.2.1 hzk.2.2.2)
      clear hrow e1 eq hx hIx hin x0 x1 hzk
      go_wp2_with fail
      refine PUT.out.mono ?_
      rintro e w9 ⟨rfl, hT9, hg9⟩
      have TN := Lib.hid (TWA.out _ (fun i => if i < j + 1 then z i else 0) _ _ TR.out hg9 (tab_z hT9 (fun i _ => by
        show (if i = j then z j else if i < j then z i else 0) = if i < j + 1 then z i else 0
        by_cases e : i = j
        · subst e; rw [if_pos rfl, if_pos (by omega)]
        · rw [if_neg e]
          by_cases h : i < j
          · rw [if_pos h, if_pos (by omega)]
          · rw [if_neg h, if_neg (by omega)])))
      have RN := Lib.hid (rowsT_far RR.out hg9 HBW.out)
      clear hT9 hg9 PUT hzc x2 hc
      go_wp2_with fail
      go_roundw
      case rel => exact ⟨j + 1, by omega, by go_num, TN.out, RN.out⟩
      case measure => simp [intOf]; omega
    · have i1 : ¬ ((j : Int) < (P : Int)) := by omega
      obtain rfl : P = j := by omega
      clear RR i1 hlt hj HBW TWA
      obtain ⟨w10, hw10⟩ : ∃ W : World, W = wr := ⟨wr, rfl⟩
      subst hw10
      have TX := (TWD.out _ _).1 TR.out
      have T10 : Hid (TabAt w10 g h l k z) := Lib.hid (tab_z TX.2.1 (fun i hi => by rw [HP.out] at hi; exact if_pos hi))
      have X10 := Lib.hid TX.1
      have B10 := Lib.hid TX.2.2
      clear TX TR
      have OF := Lib.hid (tpof_ok g h P l k z w10 T10.out (by rw [HNL.out]; omega) HLS.out HP.out hP1 (by omega) ZX.out)
      go_upto_region 11 with (go_at_call 10; refine OF.out.mono ?_; rintro e w11 ⟨⟨gu, bu, Au, cu, o, rfl, hTu, ho⟩, b11⟩)
      have TU := Lib.hid hTu
      have IM := Lib.hid ho
      have T11 := Lib.hid (T10.out.below b11)
      have X11 := Lib.hid (X10.out.below b11)
      have B11 := Lib.hid (then_ B10.out b11)
      have OK : Hid (InK o k) := Lib.hid (by obtain ⟨i, hi, e⟩ := cntZ_pos ho.1; rw [← e]; exact ZX.out i hi)
      clear hTu ho b11 OF T10 X10 B10
      obtain ⟨f, hf⟩ : ∃ f, fillF l o z P = f := ⟨_, rfl⟩
      have QF : Hid (∀ i, i < P → f (tupL l i) = z i) := Lib.hid fun i hi => by rw [← hf, ← HP.out, fillF_all (by rw [HP.out]; exact hi)]
      have IF : Hid (∀ t, InL l t → InK (f t) k) := Lib.hid fun t ht => by rw [← ht.tup, QF.out _ (by rw [← HP.out]; exact ht.num_lt)]; exact ZX.out _ (by rw [← HP.out]; exact ht.num_lt)
      rw [hf] at TU
      clear hf
      have TAB := Lib.hid (tptable_ok gu bu P cu Au l k o f w11 TU.out (by rw [HNL.out]; omega) HLS.out (by rw [HP.out]; omega) OK.out IF.out)
      go_upto_region 12 with (go_at_call 11; refine TAB.out.mono ?_; rintro e w12 ⟨⟨gv, hv, rfl, hTv⟩, b12⟩)
      have TV : Hid (TabAt w12 gv hv l k z) := Lib.hid (tab_z hTv (fun i hi => by rw [HP.out] at hi; exact QF.out i hi))
      have TU2 := Lib.hid (TU.out.below b12)
      have T12 := Lib.hid (T11.out.below b12)
      have X12 := Lib.hid (X11.out.below b12)
      have B12 := Lib.hid (then_ B11.out b12)
      clear hTv b12 TAB TU T11 X11 B11
      have HH : Hid (HoldM w12 bx nl P cs cc As (some ⟨gc, 0, none⟩) k w12) := Lib.hid (by obtain ⟨a0, a1, a2⟩ := X12.out.cells; exact ⟨a0, a1, a2, Below.refl _ _⟩)
      have RM : Hid (∀ W, Below w12.heap.size w12 W → Calls Tryz.prog 13 #[.agg #[.slice As nl cs, .int .i64 k, .slice (some ⟨gc, 0, none⟩) P cc]] W fun e w' => e = .returned (.int .i64 o) ∧ Below W.heap.size W w') := Lib.hid fun W hb => by
        refine (rmost_any (.slice As nl cs) k (some ⟨gc, 0, none⟩) P cc z W hP1 (by omega) (X12.out.below hb).zs).mono ?_
        rintro e w' ⟨⟨b, rfl, hm⟩, h2⟩
        exact ⟨by rw [isMost_uniq hm IM.out], h2⟩
      have LK : Hid (∀ W, Below w12.heap.size w12 W → Calls Tryz.prog 12 #[.pointer (some ⟨gu, 0, none⟩), .agg #[.slice As nl cs, .int .i64 k, .slice (some ⟨gc, 0, none⟩) P cc], .int .i64 o] W fun e w' => e = .returned (.bool true) ∧ Below W.heap.size W w') := Lib.hid fun W hb => by
        have X := X12.out.below hb
        have q := like5_yes gu bu P cu Au As (some ⟨gc, 0, none⟩) cs cc P l k o z f W (TU2.out.below hb) (by omega) (by rw [HNL.out]; omega) (by rw [HNL.out]; exact HCap) HLS.out HP.out (by omega) X.ints X.zs (fun i hi => (QF.out i hi).symm) OK.out IF.out
        rw [HNL.out] at q
        exact q
      have SM : Hid (∀ W, Below w12.heap.size w12 W → Calls Tryz.prog 14 #[.pointer (some ⟨gv, 0, none⟩), .pointer (some ⟨g, 0, none⟩)] W fun e w' => e = .returned (.bool true) ∧ Below W.heap.size W w') := Lib.hid fun W hb =>
        tsame_yes gv hv g h P l k z W (TV.out.below hb) (T12.out.below hb) HP.out (by omega)
      clear TV TU2 T12 X12
      go_region_held3 (fun W => HoldM w12 bx nl P cs cc As (some ⟨gc, 0, none⟩) k W) (first | exact holdM HH.out ((Below.refl _ _).drew) | exact holdM (by assumption) (by assumption))
        ((first
          | (go_at_call 13; refine (RM.out _ (HoldM.below (by assumption))).mono ?_; rintro e w' ⟨rfl, hb⟩)
          | (go_at_call 12; refine (LK.out _ (HoldM.below (by assumption))).mono ?_; rintro e w' ⟨rfl, hb⟩)
          | (go_at_call 14; refine (SM.out _ (HoldM.below (by assumption))).mono ?_; rintro e w' ⟨rfl, hb⟩)))
      have FB : Hid (Below w12.heap.size w12 _) := Lib.hid (HoldM.below (by assumption))
      go_wp2_with fail
      go_ret
      exact ⟨rfl, B12.out.trans (FB.out.mono B12.out.size)⟩
end Go.Proofs.YtdmldnlgamnkeaaGreat
