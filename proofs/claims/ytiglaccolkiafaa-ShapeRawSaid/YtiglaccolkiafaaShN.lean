/- The walk of ShapeApart. No condition. -/
import Derived.Test.YtiglaccolkiafaaShM
namespace Go.Proofs.Ytiglaccolkiafaa
open Go.RowKit
set_option linter.unusedVariables false
theorem tuple_zero (w : World) : Calls Try.prog 17 #[shZ, .int .i64 0] w fun e w' => (∃ A c, e = .returned (.tuple #[.slice A 0 c, .int .i64 0])) ∧ Below w.heap.size w w' := by
  have h := tuple_ok [] 0 w (by decide) (by intro n hn; cases hn) (by decide)
  refine h.mono fun e w' ⟨⟨v, he, hO⟩, hb⟩ => ⟨?_, hb⟩
  obtain ⟨A, c, rfl, _⟩ := hO.form
  exact ⟨A, c, he⟩
theorem arity_zero (w : World) : Calls Try.prog 13 #[shZ] w fun e w' => e = .returned (.int .i64 0) ∧ Below w.heap.size w w' :=
  (arity_any [] w).mono fun e w' ⟨he, hw⟩ => ⟨he, by subst hw; exact new_val _ _⟩
theorem count_zero (w : World) : Calls Try.prog 12 #[shZ] w fun e w' => e = .returned (.int .i64 1) ∧ Below w.heap.size w w' :=
  count_below [] w (by decide) (by intro n hn; cases hn) 1 rfl
theorem same_any (l m : List Nat) (w : World) (hl : l.length ≤ 6) : Calls Try.prog 22 #[shV l, shV m] w fun e w' => e = .returned (.bool (decide (l = m))) ∧ Below w.heap.size w w' := by
  by_cases h : l = m
  · subst h
    rw [decide_eq_true rfl]
    exact same_yes l w
  · rw [decide_eq_false h]
    exact same_no l m w hl h
structure Ap (w : World) (g h : Nat) (l m : List Nat) (W : World) : Prop where
  s : ShAt W g l
  t : ShAt W h m
  b : Below w.heap.size w W
theorem Ap.next {w W W' : World} {g h : Nat} {l m : List Nat} (k : Ap w g h l m W) (hb : Below W.heap.size W W') : Ap w g h l m W' := ⟨k.s.next hb, k.t.next hb, then_ k.b hb⟩
theorem Ap.grown {w W W' : World} {g h : Nat} {l m : List Nat} {row : Option Nat} (k : Ap w g h l m W) (hb : W.grownBy W' row) (hg : some g ≠ row) (hh : some h ≠ row) (hr : ∀ i, row = some i → w.heap.size ≤ i) : Ap w g h l m W' :=
  ⟨k.s.grown hb hg, k.t.grown hb hh, k.b.grown hb k.b.size hr⟩
set_option maxHeartbeats 4000000 in
theorem apart_walk (A : Option Addr) (n c : Nat) (z : Nat → Int) (A' : Option Addr) (n' c' : Nat) (z' : Nat → Int) (w : World) (hn : (n : Int) ≤ 9223372036854775807) (hz : Bytes w A n z) (hn' : (n' : Int) ≤ 9223372036854775807) (hz' : Bytes w A' n' z') :
    Calls Try.prog 5 #[.slice A n c, .slice A' n' c'] w fun e w' => e = .returned (.bool true) ∧ Below w.heap.size w w' := by
  have HZ := Lib.hid hz
  have HZ' := Lib.hid hz'
  have HM := Lib.hid (fun W (h : Bytes W A n z) => small_any A n c z W hn h)
  have HM' := Lib.hid (fun W (h : Bytes W A' n' z') => small_any A' n' c' z' W hn' h)
  have hl := smL_small z (min n 3)
  have hl' := smL_small z' (min n' 3)
  have hlen : (smL z (min n 3)).length ≤ 3 := by rw [smL_len]; omega
  have hlen' : (smL z' (min n' 3)).length ≤ 3 := by rw [smL_len]; omega
  generalize smL z (min n 3) = l at HM hl hlen
  generalize smL z' (min n' 3) = m at HM' hl' hlen'
  clear hz hn hz' hn'
  have h6 : l.length ≤ 6 := by omega
  have h6' : m.length ≤ 6 := by omega
  have H32 : Hid (∀ n ∈ l, 1 ≤ n ∧ n ≤ 32) := Lib.hid fun n hn => by have := hl n hn; omega
  have H32' : Hid (∀ n ∈ m, 1 ≤ n ∧ n ≤ 32) := Lib.hid fun n hn => by have := hl' n hn; omega
  have HP : Hid (prodL l ≤ 4096) := Lib.hid (by have := (prodL_small hl hlen).2; omega)
  have HP' : Hid (prodL m ≤ 4096) := Lib.hid (by have := (prodL_small hl' hlen').2; omega)
  clear hl hl'
  go_enter Try.func5, Try.ntmps5
  go_wp2_with fail
  refine (awake_true _).mono ?_
  rintro e w1 ⟨rfl, b1⟩
  have B1 := Lib.hid b1
  clear b1
  go_wp2_with fail
  refine (HM.out _ (HZ.out.below B1.out)).mono ?_
  rintro e w2 ⟨⟨v, rfl, hO⟩, b2⟩
  obtain ⟨A2, c2, rfl, hI2⟩ := hO.form
  have B2 := Lib.hid (then_ B1.out b2)
  have O2 := Lib.hid (hO.less B1.out.size)
  have I2 := Lib.hid hI2
  clear hO hI2 b2
  go_wp2_with fail
  refine (HM'.out _ (HZ'.out.below B2.out)).mono ?_
  rintro e w3 ⟨⟨v, rfl, hO⟩, b3⟩
  obtain ⟨A3, c3, rfl, hI3⟩ := hO.form
  have B3 := Lib.hid (then_ B2.out b3)
  have O3 := Lib.hid (O2.out.below b3 (Nat.le_refl _))
  have I3 := Lib.hid (I2.out.below b3 (Nat.le_refl _))
  have J3 := Lib.hid hI3
  clear hO hI3 b3
  go_wp2_with fail
  refine (new_mid' A2 l.length c2 l w3 rfl h6 I3.out H32.out HP.out).mono ?_
  rintro e w4 ⟨rfl, b4⟩
  have B4 := Lib.hid (then_ B3.out b4)
  have O4 := Lib.hid (O3.out.below b4 (Nat.le_refl _))
  have I4 := Lib.hid (I3.out.below b4 (Nat.le_refl _))
  have J4 := Lib.hid (J3.out.below b4 (Nat.le_refl _))
  clear b4
  go_upto_region 5 with ((with_reducible show wpList _ _ _ (Oper.mk none (.store 28 _ _) _ _ _ _ :: _) _ _)
                         refine wpList_store_row rfl 28 (.tmp 7) (.tmp 29) rfl w4.heap.size (shC l) rfl rfl 28 (shC0 0) (heap_alloc_new _ _) (by kernel_rfl) rfl (sh_one l) ?_
                         rw [World.setRow_alloc_new])
  have n5 := new_val w4 (shO l)
  have S5 := Lib.hid (ShAt.new w4 l)
  have B5 := Lib.hid (then_ B4.out n5)
  have O5 := Lib.hid (O4.out.below n5 (Nat.le_refl _))
  have I5 := Lib.hid (I4.out.below n5 (Nat.le_refl _))
  have J5 := Lib.hid (J4.out.below n5 (Nat.le_refl _))
  clear n5
  generalize w4.alloc (.cells (shC l) 28) = w5 at S5 B5 O5 I5 J5 ⊢
  go_wp2_with fail
  refine (new_mid' A3 m.length c3 m w5 rfl h6' J5.out H32'.out HP'.out).mono ?_
  rintro e w6 ⟨rfl, b6⟩
  have S6 := Lib.hid (S5.out.next b6)
  have B6 := Lib.hid (then_ B5.out b6)
  have O6 := Lib.hid (O5.out.below b6 (Nat.le_refl _))
  have I6 := Lib.hid (I5.out.below b6 (Nat.le_refl _))
  have J6 := Lib.hid (J5.out.below b6 (Nat.le_refl _))
  clear b6
  go_upto_region 6 with ((with_reducible show wpList _ _ _ (Oper.mk none (.store 28 _ _) _ _ _ _ :: _) _ _)
                         refine wpList_store_row rfl 28 (.tmp 9) (.tmp 34) rfl w6.heap.size (shC m) rfl rfl 28 (shC0 0) (heap_alloc_new _ _) (by kernel_rfl) rfl (sh_one m) ?_
                         rw [World.setRow_alloc_new])
  have n7 := new_val w6 (shO m)
  have Q7 : Hid (Ap w w4.heap.size w6.heap.size l m (w6.alloc (shO m))) := Lib.hid ⟨S6.out.next n7, ShAt.new w6 m, then_ B6.out n7⟩
  have O7 := Lib.hid (O6.out.below n7 (Nat.le_refl _))
  have I7 := Lib.hid (I6.out.below n7 (Nat.le_refl _))
  have J7 := Lib.hid (J6.out.below n7 (Nat.le_refl _))
  have L4 := Lib.hid O4.out.lt
  have L6 := Lib.hid O6.out.lt
  clear n7
  generalize w6.alloc (.cells (shC m) 28) = w7 at Q7 O7 I7 J7 ⊢
  go_wp2_with fail
  refine (equal_any A2 A3 c2 c3 l m w7 (by omega) I7.out J7.out).mono ?_
  rintro e w8 ⟨rfl, b8⟩
  have Q8 := Lib.hid (Q7.out.next b8)
  have O8 := Lib.hid (O7.out.below b8 (Nat.le_refl _))
  clear b8
  have hl3 : (l.length : Int) ≤ 3 := by omega
  obtain ⟨sm, hsm⟩ : ∃ sm, decide (l = m) = sm := ⟨_, rfl⟩
  rw [hsm]
  have SM := Lib.hid hsm
  clear hsm
  go_wp2_with fail
  go_loopw [12, 41] (fun _ i wr => ∃ (j : Nat) (l' : List Nat), j ≤ l.length ∧ i = .int .i64 j ∧ l'.length = l.length ∧ Own wr w.heap.size (.slice A2 l.length c2) l' ∧ w8.grownBy wr (Value.ownBlock (.slice A2 l.length c2))) (fun _ i _ => l.length - (intOf i).toNat)
  case atStart => exact ⟨0, l, Nat.zero_le _, rfl, rfl, O8.out, World.grownBy.refl _ _⟩
  case round =>
    obtain ⟨j, l', hj, rfl, hl', hO, hG⟩ := hrel
    have HL' := Lib.hid hl'
    have HO := Lib.hid hO
    have HG := Lib.hid hG
    clear hl' hO hG
    by_cases hlt : j < l.length
    · obtain ⟨g, rfl, hbg, hgs, hcell, hfr, hO', hg'⟩ := HO.out.store' (j := j) (by rw [HL'.out]; exact hlt) HL'.out 9
      have HO' := Lib.hid hO'
      have HG' := Lib.hid (grown_then HG.out (show wr.grownBy _ (Value.ownBlock (.slice (some ⟨g, 0, none⟩) l.length c2)) from hg'))
      clear hO' hg'
      generalize (nth l' j : Int) = y at hcell
      go_wp2
      go_roundw
      case rel => exact ⟨j + 1, l'.set j 9, by omega, by go_num, by rw [List.length_set, HL'.out], HO'.out, HG'.out⟩
      case measure => simp [intOf]; omega
    · obtain ⟨Wr, eW⟩ : ∃ W, W = wr := ⟨wr, rfl⟩
      subst eW
      have Qr := Lib.hid (Q8.out.grown HG.out (fun e => by have := L4.out _ e.symm; omega) (fun e => by have := L6.out _ e.symm; omega) (fun i hi => (L4.out i hi).1))
      clear HG HO
      obtain ⟨c0, c1, c2', c3', c4, c5, c6, hlt', hfz⟩ := Qr.out.s
      go_wp2_with fail
      refine (sizes_any l Wr h6).mono ?_
      rintro e w9 ⟨⟨v, rfl, hO9⟩, b9⟩
      obtain ⟨A9, c9, rfl, hI9⟩ := hO9.form
      have Q9 := Lib.hid (Qr.out.next b9)
      have g7 := Qr.out.s.lt
      have g9 := Qr.out.t.lt
      have hwr := Qr.out.b.size
      have O9 := Lib.hid hO9
      clear hO9 hI9 b9 c0 c1 c2' c3' c4 c5 c6 hlt' hfz
      go_wp2_with fail
      go_loopw [14, 52] (fun _ i wr => ∃ (j : Nat) (l' : List Nat), j ≤ l.length ∧ i = .int .i64 j ∧ l'.length = l.length ∧ Own wr Wr.heap.size (.slice A9 l.length c9) l' ∧ w9.grownBy wr (Value.ownBlock (.slice A9 l.length c9))) (fun _ i _ => l.length - (intOf i).toNat)
      case atStart => exact ⟨0, l, Nat.zero_le _, rfl, rfl, O9.out, World.grownBy.refl _ _⟩
      case round =>
        obtain ⟨j', l', hj', rfl, hl', hO, hG⟩ := hrel
        have HL' := Lib.hid hl'
        have HO := Lib.hid hO
        have HG := Lib.hid hG
        clear hl' hO hG
        by_cases hlt' : j' < l.length
        · obtain ⟨g, rfl, hbg, hgs, hcell, hfr, hO', hg'⟩ := HO.out.store' (j := j') (by rw [HL'.out]; exact hlt') HL'.out 9
          have HO' := Lib.hid hO'
          have HG' := Lib.hid (grown_then HG.out (show wr.grownBy _ (Value.ownBlock (.slice (some ⟨g, 0, none⟩) l.length c9)) from hg'))
          clear hO' hg'
          generalize (nth l' j' : Int) = y at hcell
          go_wp2
          go_roundw
          case rel => exact ⟨j' + 1, l'.set j' 9, by omega, by go_num, by rw [List.length_set, HL'.out], HO'.out, HG'.out⟩
          case measure => simp [intOf]; omega
        · have L9 := Lib.hid O9.out.lt
          have Qs := Lib.hid (Q9.out.grown HG.out (fun e => by have := L9.out _ e.symm; omega) (fun e => by have := L9.out _ e.symm; omega) (fun i hi => by have := L9.out i hi; omega))
          clear HG HO
          go_wp2_with fail
          refine (HM.out _ (HZ.out.below Qs.out.b)).mono ?_
          rintro e wa ⟨⟨v, rfl, hOa⟩, ba⟩
          obtain ⟨Aa, ca, rfl, hIa⟩ := hOa.form
          have Qa := Lib.hid (Qs.out.next ba)
          have Ia := Lib.hid hIa
          clear hOa hIa ba
          go_wp2_with fail
          refine (new_mid' Aa l.length ca l wa rfl h6 Ia.out H32.out HP.out).mono ?_
          rintro e wb ⟨rfl, bb⟩
          have Qb := Lib.hid (Qa.out.next bb)
          clear bb
          go_upto_region 19 with ((with_reducible show wpList _ _ _ (Oper.mk none (.store 28 _ _) _ _ _ _ :: _) _ _)
                                  refine wpList_store_row rfl 28 (.tmp 15) (.tmp 63) rfl wb.heap.size (shC l) rfl rfl 28 (shC0 0) (heap_alloc_new _ _) (by kernel_rfl) rfl (sh_one l) ?_
                                  rw [World.setRow_alloc_new])
          have nc := new_val wb (shO l)
          have Qc := Lib.hid (Qb.out.next nc)
          have Uc := Lib.hid (ShAt.new wb l)
          clear nc
          generalize wb.alloc (.cells (shC l) 28) = wc at Qc Uc ⊢
          go_upto_region 20 with fail
          have nd := new_val wc (.cells (shC0 0) 28)
          have Qd := Lib.hid (Qc.out.next nd)
          have Ud := Lib.hid (Uc.out.next nd)
          have Zd : Hid (ShAt (wc.alloc (.cells (shC0 0) 28)) wc.heap.size []) := Lib.hid (ShAt.new wc [])
          clear nd
          generalize wc.alloc (.cells (shC0 0) 28) = wd at Qd Ud Zd ⊢
          have zd : Hid (∀ W, ShAt W wc.heap.size [] → W.cell? ⟨wc.heap.size, 0, none⟩ = some (.int .i64 0) ∧ W.cell? ⟨wc.heap.size, 1, none⟩ = some (.int .i64 0) ∧ W.cell? ⟨wc.heap.size, 2, none⟩ = some (.int .i64 0) ∧ W.cell? ⟨wc.heap.size, 3, none⟩ = some (.int .i64 0) ∧ W.cell? ⟨wc.heap.size, 4, none⟩ = some (.int .i64 0) ∧ W.cell? ⟨wc.heap.size, 5, none⟩ = some (.int .i64 0) ∧ W.cell? ⟨wc.heap.size, 6, none⟩ = some (.int .i64 0)) :=
            Lib.hid fun W h => ⟨h.c0, h.c1, h.c2, h.c3, h.c4, h.c5, h.c6⟩
          obtain ⟨d0, d1, d2, d3, d4, d5, d6⟩ := zd.out _ Zd.out
          go_wp2_with fail
          refine (tuple_zero _).mono ?_
          rintro e we ⟨⟨Ax, cx, rfl⟩, be⟩
          have Qe := Lib.hid (Qd.out.next be)
          have Ue := Lib.hid (Ud.out.next be)
          have Ze := Lib.hid (Zd.out.next be)
          clear be d0 d1 d2 d3 d4 d5 d6
          obtain ⟨c0, c1, c2', c3', c4, c5, c6, hlt, hfz⟩ := Qe.out.s
          obtain ⟨d0, d1, d2, d3, d4, d5, d6, dlt, dfz⟩ := Qe.out.t
          go_wp2_with fail
          refine (same_any l m we h6).mono ?_
          rintro e wf ⟨rfl, bf⟩
          have Qf := Lib.hid (Qe.out.next bf)
          have Uf := Lib.hid (Ue.out.next bf)
          have Zf := Lib.hid (Ze.out.next bf)
          clear bf d0 d1 d2 d3 d4 d5 d6 dlt dfz c0 c1 c2' c3' c4 c5 c6 hlt hfz
          rw [SM.out]
          have hss : (sm == sm) = true := by cases sm <;> rfl
          obtain ⟨c0, c1, c2', c3', c4, c5, c6, hlt, hfz⟩ := Qf.out.s
          obtain ⟨d0, d1, d2, d3, d4, d5, d6, dlt, dfz⟩ := Uf.out
          go_wp2_with fail
          refine (same_yes l wf).mono ?_
          rintro e wg ⟨rfl, bg⟩
          have Qg := Lib.hid (Qf.out.next bg)
          have Zg := Lib.hid (Zf.out.next bg)
          clear bg d0 d1 d2 d3 d4 d5 d6 dlt dfz c0 c1 c2' c3' c4 c5 c6 hlt hfz
          obtain ⟨d0, d1, d2, d3, d4, d5, d6⟩ := zd.out _ Zg.out
          go_wp2_with fail
          refine (arity_zero wg).mono ?_
          rintro e wh ⟨rfl, bh⟩
          have Qh := Lib.hid (Qg.out.next bh)
          have Zh := Lib.hid (Zg.out.next bh)
          clear bh d0 d1 d2 d3 d4 d5 d6
          obtain ⟨d0, d1, d2, d3, d4, d5, d6⟩ := zd.out _ Zh.out
          go_wp2_with fail
          refine (count_zero wh).mono ?_
          rintro e wi ⟨rfl, bi⟩
          go_wp2
          go_ret
          exact ⟨rfl, (Qh.out.next bi).b⟩
end Go.Proofs.Ytiglaccolkiafaa
