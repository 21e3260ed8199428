/- The walk of TuplesSame (no statement of its own). No condition. -/
import Derived.Test.YtdmldnlgamnkeaaVH
import Derived.Test.YtdmldnlgamnkeaaTbZ
import Derived.Test.YtdmldnlgamnkeaaUq
import Derived.Deep.RegionWith
import Derived.Deep.CutBlock
import Derived.Deep.DeepCutAuto
namespace Go.Proofs.Ytdmldnlgamnkeaa
open Go.RowKit Go.Maps
set_option linter.unusedVariables false
theorem rowsT_far {w w' : World} {base b : Nat} {v : Value} {ts : List (List Nat)} (h : RowsT w base v ts) (hg : w.grownBy w' (some b)) (hb : b < base) : RowsT w' base v ts := by
  obtain ⟨xs, h1, h2⟩ := h
  have key : ∀ {e : TypeId} {n : Nat} {u : Value} {ys : List Value}, w.ownsRow base e 1 u n ys → u.ownBlock = none ∨ u.ownBlock ≠ some b := fun {e n u ys} hu => by
    cases hv : u.ownBlock with
    | none => exact .inl rfl
    | some q => exact .inr fun e => by injection e with e; have := (World.ownsRow.lt hu q hv).1; omega
  exact ⟨xs, World.ownsRow.kept h1 hg (key h1), fun j x hx => (h2 j x hx).grown hg (key (h2 j x hx))⟩
theorem tmod_top (a k o : Int) (h : 0 ≤ a) (hk : 1 ≤ k) (e : a.tmod (k + 1) = o) : 0 ≤ o ∧ o ≤ k ∧ a % (k + 1) = o := by
  rw [Int.tmod_eq_emod_of_nonneg h] at e
  subst e
  have h1 := Int.emod_nonneg a (show k + 1 ≠ 0 by omega)
  have h2 := Int.emod_lt_of_pos a (show 0 < k + 1 by omega)
  exact ⟨h1, by omega, rfl⟩
theorem hold1 {wb W W' : World} {b i : Nat} {v : Value} (H : W.cell? ⟨b, i, none⟩ = some v ∧ Below wb.heap.size wb W) (hb : Below W.heap.size W W') : W'.cell? ⟨b, i, none⟩ = some v ∧ Below wb.heap.size wb W' :=
  ⟨(hb.cell (p := ⟨b, i, none⟩) (World.block_lt_of_cell? W _ H.1)).trans H.1, H.2.trans (hb.mono H.2.size)⟩
theorem alloc_one (w : World) (o o' : Obj) : ((w.alloc o).alloc o').heap[w.heap.size]? = some o := by
  have := (new_val (w.alloc o) o').block w.heap.size (by simp)
  rw [this]
  exact heap_alloc_last w o
theorem setRow_alloc_two (w : World) (o : Obj) (c c' : Array Value) (t : TypeId) : ((w.alloc o).alloc (.cells c t)).setRow (w.heap.size + 1) c' = (w.alloc o).alloc (.cells c' t) := by
  have := World.setRow_alloc_new (w.alloc o) c c' t
  rw [show (w.alloc o).heap.size = w.heap.size + 1 by simp] at this
  exact this
theorem xat_made {W : World} {n cs P : Nat} {As : Option Addr} {l : List Nat} {k : Int} {z : Nat → Int} {v : Value} {base bx : Nat} (hI : Ints W As l) (hv : W.ownsRow base 2 1 v P (costL z P)) (hP : 1 ≤ P) (hr : W.heap[bx]? = some (.cells #[.slice As n cs, .int .i64 k, v] 34 (0, 0))) :
    ∃ gc cc, v = .slice (some ⟨gc, 0, none⟩) P cc ∧ XAt W bx gc n cs cc P As l k z := by
  obtain ⟨A, c, e⟩ := row64_form hv
  subst e
  obtain ⟨gc, cur, e, hgc, hcc, hcs, hci⟩ := own_row64 hv hP
  subst e
  exact ⟨gc, c, rfl, hr, hI, cur, hcc, hcs, hci⟩
set_option maxRecDepth 100000 in
set_option maxHeartbeats 4000000 in
theorem tsm_walk (A0 A1 A3 A4 : Option Addr) (n0 c0 n1 c1 n3 c3 n4 c4 : Nat) (z0 z1 y3 y4 : Nat → Int) (a2 a5 a6 : Int) (sm : Bool) (w : World) (h0 : Bytes w A0 n0 z0) (m0 : (n0 : Int) ≤ 9223372036854775807) (h1 : Bytes w A1 n1 z1) (m1 : (n1 : Int) ≤ 9223372036854775807)
    (h3 : Words w A3 n3 y3) (m3 : (n3 : Int) ≤ 9223372036854775807) (h4 : Words w A4 n4 y4) (m4 : (n4 : Int) ≤ 9223372036854775807) (q2 : 0 ≤ a2 ∧ a2 ≤ 65535) (q5 : 0 ≤ a5 ∧ a5 ≤ 65535) (q6 : 0 ≤ a6 ∧ a6 ≤ 65535) :
    Calls Try.prog 4 #[.slice A0 n0 c0, .slice A1 n1 c1, .int .u16 a2, .slice A3 n3 c3, .slice A4 n4 c4, .int .u16 a5, .int .u16 a6, .bool sm] w fun e w' => e = .returned (.bool true) ∧ Below w.heap.size w w' := by
  have H0 := Lib.hid h0
  have H1 := Lib.hid h1
  have H3 := Lib.hid h3
  have H4 := Lib.hid h4
  have M1 := Lib.hid m1
  have M4 := Lib.hid m4
  clear h0 h1 h3 h4 m1 m4
  go_enter Try.func4, Try.ntmps4
  go_wp2_with fail
  refine (awake5_ok w).mono ?_
  rintro e w1 ⟨rfl, b1⟩
  have B1 := Lib.hid b1
  clear b1
  go_upto_if 31 with fail
  go_cut [1, 4] from 31 to 33 (fun v1 v4 wx => ∃ (A : Option Addr) (n c : Nat) (z : Nat → Int) (A' : Option Addr) (n' c' : Nat) (y : Nat → Int), v1 = .slice A n c ∧ v4 = .slice A' n' c' ∧ Bytes w A n z ∧ (n : Int) ≤ 9223372036854775807 ∧ Words w A' n' y ∧ (n' : Int) ≤ 9223372036854775807 ∧ Below w.heap.size w wx)
  case first =>
    cases sm with
    | true =>
      go_wp2_with fail
      go_meet
      exact ⟨A0, n0, c0, z0, A3, n3, c3, y3, rfl, rfl, H0.out, m0, H3.out, m3, B1.out⟩
    | false =>
      go_wp2_with fail
      go_meet
      exact ⟨A1, n1, c1, z1, A4, n4, c4, y4, rfl, rfl, H1.out, M1.out, H4.out, M4.out, B1.out⟩
  case rest =>
    obtain ⟨A, n, c, z, A', n', c', y, rfl, rfl, hb, hbm, hw, hwm, hB⟩ := hcut
    have HB := Lib.hid hb
    have HW := Lib.hid hw
    have HBM := Lib.hid hbm
    have HWM := Lib.hid hwm
    have BC := Lib.hid hB
    clear hb hw hB hbm hwm H1 H4 M1 M4 B1
    obtain ⟨l, hl⟩ : ∃ l, smL z0 (min n0 3) = l := ⟨_, rfl⟩
    obtain ⟨l', hl'⟩ : ∃ l, smL z (min n 3) = l := ⟨_, rfl⟩
    obtain ⟨P, hP⟩ : ∃ P, prodL l = P := ⟨_, rfl⟩
    obtain ⟨P', hP'⟩ : ∃ P, prodL l' = P := ⟨_, rfl⟩
    have hP64 : 1 ≤ P ∧ P ≤ 64 := by rw [← hP, ← hl]; exact smL_prod z0 _ (by omega)
    have hP64' : 1 ≤ P' ∧ P' ≤ 64 := by rw [← hP', ← hl']; exact smL_prod z _ (by omega)
    have hl3 : l.length ≤ 3 := by rw [← hl, smL_len]; omega
    have hl3' : l'.length ≤ 3 := by rw [← hl', smL_len]; omega
    have hls : ∀ x ∈ l, 1 ≤ x ∧ x ≤ 32 := fun x hx => by rw [← hl] at hx; have := smL_small z0 _ x hx; omega
    have hls' : ∀ x ∈ l', 1 ≤ x ∧ x ≤ 32 := fun x hx => by rw [← hl'] at hx; have := smL_small z _ x hx; omega
    have SM := Lib.hid (small_any A0 n0 c0 z0 wc m0 (H0.out.below BC.out))
    have SM' := Lib.hid (fun W (hb : Below w.heap.size w W) (h : Bytes W A n z) => small_any A n c z W HBM.out h)
    rw [hl] at SM
    rw [hl'] at SM'
    have HP := Lib.hid hP
    have HP' := Lib.hid hP'
    have HLS := Lib.hid hls
    have HLS' := Lib.hid hls'
    clear hl hl' hP hP' hls hls'
    obtain ⟨hP1, hP4⟩ := hP64
    obtain ⟨hP1', hP4'⟩ := hP64'
    obtain ⟨k, hk⟩ : ∃ k, 1 + a2 % 6 = k := ⟨_, rfl⟩
    have hk1 : 1 ≤ k := by omega
    have hk2 : k ≤ 6 := by omega
    go_wp2_with fail
    refine SM.out.mono ?_
    rintro e w2 ⟨⟨v, rfl, hO⟩, b2⟩
    obtain ⟨As, cs, rfl, hI⟩ := hO.form
    have HCap := own_cap hO
    have I2 := Lib.hid hI
    have B2 := Lib.hid (then_ BC.out b2)
    have BY2 := Lib.hid (HB.out.below B2.out)
    have WD2 := Lib.hid (HW.out.below B2.out)
    have MK := Lib.hid (rmake_any As A3 l.length cs n3 c3 P l k y3 w2 rfl (by omega) (fun n hn => (HLS.out n hn).2) I2.out HP.out (by omega) hk1 (by omega) m3 (H3.out.below B2.out))
    clear hO hI b2 SM HB HW BC H0
    go_wp2_with fail
    refine MK.out.mono ?_
    rintro e w3 ⟨⟨v3, rfl, hv3⟩, b3⟩
    obtain ⟨Ac, cc, rfl⟩ := row64_form hv3
    have I3 := Lib.hid (I2.out.below b3 (Nat.le_refl _))
    have V3 := Lib.hid hv3
    have B3 := Lib.hid (then_ B2.out b3)
    have W23 := Lib.hid b3.size
    have SN := Lib.hid (SM'.out w3 B3.out (BY2.out.below b3))
    have WD3 := Lib.hid (WD2.out.below b3)
    clear MK hv3 b3 I2 WD2 BY2 SM'
    go_wp2_with fail
    refine SN.out.mono ?_
    rintro e w4 ⟨⟨v, rfl, hO⟩, b4⟩
    obtain ⟨As', cs', rfl, hI⟩ := hO.form
    have HCap' := own_cap hO
    have I4 := Lib.hid hI
    have J4 := Lib.hid (I3.out.below b4 (Nat.le_refl _))
    have V4 := Lib.hid (ownsRow_below V3.out b4 (Nat.le_refl _))
    have B4 := Lib.hid (then_ B3.out b4)
    have MK := Lib.hid (rmake_any As' A' l'.length cs' n' c' P' l' k y w4 rfl (by omega) (fun n hn => (HLS'.out n hn).2) I4.out HP'.out (by omega) hk1 (by omega) HWM.out (WD3.out.below b4))
    have HWD := Lib.hid (WD3.out.below b4)
    clear SN hO hI b4 I3 V3 WD3
    go_wp2_with fail
    refine MK.out.mono ?_
    rintro e w5 ⟨⟨v5, rfl, hv5⟩, b5⟩
    obtain ⟨Ac', cc', rfl⟩ := row64_form hv5
    have I5 := Lib.hid (I4.out.below b5 (Nat.le_refl _))
    have J5 := Lib.hid (J4.out.below b5 (Nat.le_refl _))
    have V5 := Lib.hid (ownsRow_below V4.out b5 (Nat.le_refl _))
    have U5 := Lib.hid hv5
    have B5 := Lib.hid (then_ B4.out b5)
    clear MK hv5 b5 I4 J4 V4
    obtain ⟨nl, hnl⟩ : ∃ nl, l.length = nl := ⟨_, rfl⟩
    obtain ⟨nl', hnl'⟩ : ∃ nl, l'.length = nl := ⟨_, rfl⟩
    have HNL := Lib.hid hnl
    have HNL' := Lib.hid hnl'
    rw [hnl] at hl3 HCap
    rw [hnl'] at hl3' HCap'
    simp only [hnl, hnl']
    clear hnl hnl'
    have za := new_val w5 (.cells #[.slice none 0 0, .int .i64 0, .slice none 0 0] 34)
    have hx0 := za.block
    go_upto_region 7 with ((with_reducible show wpList _ _ _ (Oper.mk none (.store 34 _ _) _ _ _ _ :: _) _ _)
                           first
                           | (refine wpList_store_row rfl 34 (.tmp 18) (.tmp 42) rfl w5.heap.size #[.slice As nl cs, .int .i64 k, .slice Ac P cc] rfl rfl 34 #[.slice none 0 0, .int .i64 0, .slice none 0 0] (alloc_one w5 _ _) (by kernel_rfl) rfl (by simp [Value.oneCell']) ?_; rw [World.setRow_alloc_old])
                           | (refine wpList_store_row rfl 34 (.tmp 19) (.tmp 47) rfl (w5.heap.size + 1) #[.slice As' nl' cs', .int .i64 k, .slice Ac' P' cc'] rfl rfl 34 #[.slice none 0 0, .int .i64 0, .slice none 0 0] (alloc_two w5 _ _) (by kernel_rfl) rfl (by simp [Value.oneCell']) ?_; rw [setRow_alloc_two]))
    clear za hx0
    have n6 := then_ (new_val w5 (.cells #[.slice As nl cs, .int .i64 k, .slice Ac P cc] 34)) (new_val _ (.cells #[.slice As' nl' cs', .int .i64 k, .slice Ac' P' cc'] 34))
    have r6 := alloc_one w5 (.cells #[.slice As nl cs, .int .i64 k, .slice Ac P cc] 34) (.cells #[.slice As' nl' cs', .int .i64 k, .slice Ac' P' cc'] 34)
    have s6 := alloc_two w5 (.cells #[.slice As nl cs, .int .i64 k, .slice Ac P cc] 34) (.cells #[.slice As' nl' cs', .int .i64 k, .slice Ac' P' cc'] 34)
    obtain ⟨gc, cx, e, X6⟩ := xat_made (J5.out.below n6 (Nat.le_refl _)) (ownsRow_below V5.out n6 (Nat.le_refl _)) hP1 r6
    obtain ⟨gc', cx', e', Y6⟩ := xat_made (I5.out.below n6 (Nat.le_refl _)) (ownsRow_below U5.out n6 (Nat.le_refl _)) hP1' s6
    injection e with e1 e2 e3
    injection e' with e1' e2' e3'
    subst e1 e3 e1' e3'
    have HX := Lib.hid X6
    have HY := Lib.hid Y6
    have B6 := Lib.hid (then_ B5.out n6)
    have HXY : Hid (w5.heap.size ≠ w5.heap.size + 1) := Lib.hid (by omega)
    clear e2 e2' n6 r6 s6 X6 Y6 V5 U5 I5 J5 B5 W23
    generalize w5.alloc (.cells #[.slice As nl cs, .int .i64 k, .slice (some ⟨gc, 0, none⟩) P cc] 34) = w5a at HX HY B6 ⊢
    generalize w5a.alloc (.cells #[.slice As' nl' cs', .int .i64 k, .slice (some ⟨gc', 0, none⟩) P' cc'] 34) = w6 at HX HY B6 ⊢
    generalize w5.heap.size = bx at HX HY HXY ⊢
    generalize bx + 1 = bx' at HX HY HXY ⊢
    obtain ⟨o, ho⟩ : ∃ o, a5.tmod (k + 1) = o := ⟨_, rfl⟩
    obtain ⟨o', ho'⟩ : ∃ o, a6.tmod (k + 1) = o := ⟨_, rfl⟩
    have kk : IntKind.i64.wrap (k + 1) = k + 1 := IntWalk.i64_in _ (by omega)
    have hoo := tmod_top a5 k o q5.1 hk1 ho
    have hoo' := tmod_top a6 k o' q6.1 hk1 ho'
    have HO : Hid (InK o k) := Lib.hid ⟨hk1, by omega, hoo.1, hoo.2.1⟩
    have HO' : Hid (InK o' k) := Lib.hid ⟨hk1, by omega, hoo'.1, hoo'.2.1⟩
    have ho2 := hoo.2.2
    have ho2' := hoo'.2.2
    have p5 := q5.1
    have p5' := q5.2
    have p6 := q6.1
    have p6' := q6.2
    have e3 : ¬ (k + 1 = 0) := by omega
    have e4 : 0 ≤ k + 1 := by omega
    have f1 : IntKind.i64.wrap o = o := IntWalk.i64_in _ (by omega)
    have f2 : IntKind.i64.wrap (a5.tmod (k + 1)) = o := by rw [ho]; exact f1
    have f3 : IntKind.i64.wrap (a5 % (k + 1)) = o := by rw [ho2]; exact f1
    have f4 : IntKind.i64.wrap a5 = a5 := IntWalk.i64_in _ (by omega)
    have HTM := Lib.hid ho
    clear hoo hoo'
    have NW : Hid (∀ W, Below w6.heap.size w6 W → Calls Try.prog 9 #[.slice As nl cs, .int .i64 k, .int .i64 o] W fun e w' => (∃ g b A' c', e = .returned (.tuple #[.pointer (some ⟨g, 0, none⟩), .int .i64 0]) ∧ TpAt w' g b A' c' 0 l k o (fun _ => o) ∧ w6.heap.size ≤ b) ∧ Below W.heap.size W w') := Lib.hid fun W hb =>
      (tpnew_ok As nl cs l k o W HNL.out.symm (by rw [HNL.out]; omega) (HX.out.below hb).ints HLS.out HO.out).mono (by
        rintro e w' ⟨⟨g, b, A', c', he, hT, hg, hbt⟩, hb'⟩
        exact ⟨⟨g, b, A', c', he, hT, Nat.le_trans hb.size hbt⟩, hb'⟩)
    obtain ⟨x0, x1, x2⟩ := HX.out.cells
    clear x1 x2
    go_region_held3 (fun W => W.cell? ⟨bx, 0, none⟩ = some (.slice As nl cs) ∧ Below w6.heap.size w6 W) (first | exact hold1 ⟨x0, Below.refl _ _⟩ ((Below.refl _ _).drew) | exact hold1 (by assumption) (by assumption))
      ((go_at_call 9; refine (NW.out _ (And.right (by assumption))).mono ?_; rintro e w7 ⟨⟨g, b, At, ct, rfl, hT, hbt⟩, b7⟩))
    have S7 : w7.cell? ⟨bx, 0, none⟩ = some (.slice As nl cs) ∧ Below w6.heap.size w6 w7 := by assumption
    have T7 := Lib.hid hT
    have X7 := Lib.hid (HX.out.below S7.2)
    have Y7 := Lib.hid (HY.out.below S7.2)
    have B7 := Lib.hid (then_ B6.out S7.2)
    have hwb : Hid (w.heap.size ≤ b) := Lib.hid (Nat.le_trans B6.out.size hbt)
    clear hT hbt S7 b7 NW x0 f1 f2 f3 f4 HX HY B6 ho ho2
    have f1 : IntKind.i64.wrap o' = o' := IntWalk.i64_in _ (by have h1 := HO'.out.2.2.1; have h2 := HO'.out.2.2.2; omega)
    have f2 : IntKind.i64.wrap (a6.tmod (k + 1)) = o' := by rw [ho']; exact f1
    have f3 : IntKind.i64.wrap (a6 % (k + 1)) = o' := by rw [ho2']; exact f1
    have f4 : IntKind.i64.wrap a6 = a6 := IntWalk.i64_in _ (by omega)
    have NW2 : Hid (∀ W, Below w7.heap.size w7 W → Calls Try.prog 9 #[.slice As' nl' cs', .int .i64 k, .int .i64 o'] W fun e w' => (∃ g b A' c', e = .returned (.tuple #[.pointer (some ⟨g, 0, none⟩), .int .i64 0]) ∧ TpAt w' g b A' c' 0 l' k o' (fun _ => o') ∧ w7.heap.size ≤ b) ∧ Below W.heap.size W w') := Lib.hid fun W hb =>
      (tpnew_ok As' nl' cs' l' k o' W HNL'.out.symm (by rw [HNL'.out]; omega) (Y7.out.below hb).ints HLS'.out HO'.out).mono (by
        rintro e w' ⟨⟨g, b, A', c', he, hT, hg, hbt⟩, hb'⟩
        exact ⟨⟨g, b, A', c', he, hT, Nat.le_trans hb.size hbt⟩, hb'⟩)
    obtain ⟨x0, x1, x2⟩ := Y7.out.cells
    clear x1 x2
    go_upto_region 8 with fail
    go_region_held3 (fun W => W.cell? ⟨bx', 0, none⟩ = some (.slice As' nl' cs') ∧ Below w7.heap.size w7 W) (first | exact hold1 ⟨x0, Below.refl _ _⟩ ((Below.refl _ _).drew) | exact hold1 (by assumption) (by assumption))
      ((go_at_call 9; refine (NW2.out _ (And.right (by assumption))).mono ?_; rintro e w8 ⟨⟨g', b', At', ct', rfl, hT, hbt⟩, b8⟩))
    have S8 : w8.cell? ⟨bx', 0, none⟩ = some (.slice As' nl' cs') ∧ Below w7.heap.size w7 w8 := by assumption
    have hbne : Hid (b ≠ b') := Lib.hid (by have := T7.out.lt; omega)
    have hwb' : Hid (w.heap.size ≤ b') := Lib.hid (Nat.le_trans B7.out.size hbt)
    clear f1 f2 f3 f4 ho' ho2' e3 e4 x0 NW2 b8
    obtain ⟨zx, hzx⟩ : ∃ z, mkC k y3 n3 = z := ⟨_, rfl⟩
    obtain ⟨zy, hzy⟩ : ∃ z, mkC k y n' = z := ⟨_, rfl⟩
    have ZX : Hid (∀ i, i < P → InK (zx i) k) := Lib.hid fun i hi => by rw [← hzx]; have := mkC_in (y := y3) (m := n3) (i := i) hk1 (fun h => by obtain ⟨p, _, _, _, h1, _⟩ := H3.out i h; exact h1); exact ⟨hk1, by omega, this.1, this.2⟩
    have ZY : Hid (∀ i, i < P' → InK (zy i) k) := Lib.hid fun i hi => by rw [← hzy]; have := mkC_in (y := y) (m := n') (i := i) hk1 (fun h => by obtain ⟨p, _, _, _, h1, _⟩ := HWD.out i h; exact h1); exact ⟨hk1, by omega, this.1, this.2⟩
    rw [hzx] at X7
    rw [hzy] at Y7
    obtain ⟨TW, hTW⟩ : ∃ TW : Nat → (List Nat → Int) → Nat → (List Nat → Int) → World → Prop, ∀ N f N' f' W, TW N f N' f' W ↔ XAt W bx gc nl cs cc P As l k zx ∧ XAt W bx' gc' nl' cs' cc' P' As' l' k zy ∧ TpAt W g b At ct N l k o f ∧ TpAt W g' b' At' ct' N' l' k o' f' ∧ Below w.heap.size w W := ⟨fun N f N' f' W => _, fun _ _ _ _ _ => Iff.rfl⟩
    have TWD := Lib.hid hTW
    have TWN : Hid (∀ N f N' f' W W', TW N f N' f' W → Below W.heap.size W W' → TW N f N' f' W') := Lib.hid fun N f N' f' W W' h hb => by
      obtain ⟨h1, h2, h3, h4, h5⟩ := (hTW _ _ _ _ _).1 h
      exact (hTW _ _ _ _ _).2 ⟨h1.below hb, h2.below hb, h3.below hb, h4.below hb, then_ h5 hb⟩
    have TWA : Hid (∀ N f N' f' f1 W W1, TW N f N' f' W → W.grownBy W1 (some b) → TpAt W1 g b At ct (N + 1) l k o f1 → TW (N + 1) f1 N' f' W1) := Lib.hid fun N f N' f' f1 W W1 h hg ht => by
      obtain ⟨h1, h2, h3, h4, h5⟩ := (hTW _ _ _ _ _).1 h
      exact (hTW _ _ _ _ _).2 ⟨h1.other h3 hg, h2.other h3 hg, ht, h4.other h3 (fun e => hbne.out e.symm) hg, h5.grown hg h5.size (fun k hk => by injection hk with hk; have := hwb.out; omega)⟩
    have TWB : Hid (∀ N f N' f' f1 W W1, TW N f N' f' W → W.grownBy W1 (some b') → TpAt W1 g' b' At' ct' (N' + 1) l' k o' f1 → TW N f (N' + 1) f1 W1) := Lib.hid fun N f N' f' f1 W W1 h hg ht => by
      obtain ⟨h1, h2, h3, h4, h5⟩ := (hTW _ _ _ _ _).1 h
      exact (hTW _ _ _ _ _).2 ⟨h1.other h4 hg, h2.other h4 hg, h3.other h4 hbne.out hg, ht, h5.grown hg h5.size (fun k hk => by injection hk with hk; have := hwb'.out; omega)⟩
    have W8 : Hid (TW 0 (fillF l o zx 0) 0 (fillF l' o' zy 0) w8) := Lib.hid ((hTW _ _ _ _ _).2 ⟨X7.out.below S8.2, Y7.out.below S8.2, T7.out.below S8.2, hT, then_ B7.out S8.2⟩)
    have HBW : Hid (b < w8.heap.size ∧ b' < w8.heap.size) := Lib.hid ⟨by have := T7.out.lt; have := S8.2.size; omega, hT.lt⟩
    clear hTW hT hbt S8 hzx hzy X7 Y7 T7 B7 HO' H3 HWD
    have OK := HO
    have D1 := (TWD.out _ _ _ _ _).1 W8.out
    have RA1 := Lib.hid (rall_any4 As nl cs P l _ HNL.out.symm (by rw [HNL.out]; omega) HCap HLS.out HP.out (by omega) D1.1.ints)
    obtain ⟨x0, x1, x2⟩ := D1.1.cells
    clear x1 x2
    go_upto_region 9 with fail
    go_wp2_with fail
    refine RA1.out.mono ?_
    rintro e wA1 ⟨⟨Ar1, cr1, rfl, hR⟩, bR⟩
    have R1 := Lib.hid hR
    have WA1 := Lib.hid (TWN.out _ _ _ _ _ _ W8.out bR)
    have hbs := Lib.hid bR.size
    clear hR bR D1 RA1 x0
    go_wp2_with fail
    go_loopw [24, 25, 76] (fun _ _ i wr => ∃ j : Nat, j ≤ P ∧ i = .int .i64 (j : Int) ∧ TW j (fillF l o zx j) 0 (fillF l' o' zy 0) wr ∧ RowsT wr w8.heap.size (.slice Ar1 P cr1) (allL l)) (fun _ _ i _ => P - (intOf i).toNat)
    case atStart => exact ⟨0, Nat.zero_le _, rfl, WA1.out, R1.out⟩
    case round =>
      obtain ⟨j, hj, rfl, hT, hR⟩ := hrel
      have TR := Lib.hid hT
      have RR := Lib.hid hR
      clear hT hR WA1 R1 W8
      by_cases hlt : j < P
      · have i1 : (j : Int) < (P : Int) := by omega
        have i2 : (0 : Int) ≤ (j : Int) := by omega
        have D := Lib.hid ((TWD.out _ _ _ _ _).1 TR.out)
        obtain ⟨Ar', cr', e1, hrow⟩ := RR.out.form
        obtain ⟨gr, x, hA, hgr, hc, hx⟩ := hrow j (by rw [allL_length, HP.out]; exact hlt)
        obtain rfl : Ar1 = Ar' := by injection e1
        subst hA
        have eq : nthT (allL l) j = tupL l j := allL_get l (by rw [HP.out]; exact hlt)
        rw [eq] at hx
        obtain ⟨Ax, cx, rfl, hIx⟩ := hx.form
        have hin : InL l (tupL l j) := tupL_in (fun n hn => (HLS.out n hn).1) j
        have hzc := D.out.1.cost hlt
        obtain ⟨x0, x1, x2⟩ := D.out.1.cells
        have PUT := Lib.hid (tpput_ok g b j ct (tupL l j).length cx At Ax l (tupL l j) k o (zx j) (fillF l o zx j) wr D.out.2.2.1 rfl (by rw [HNL.out]; omega) (fun n hn => (HLS.out n hn).2) hIx hin (ZX.out j hlt) (by omega))
        clear hrow e1 eq hx hIx hin x0 x1
        go_wp2_with fail
        refine PUT.out.mono ?_
        rintro e w9 ⟨rfl, hT9, hg9⟩
        have TN := Lib.hid (TWA.out _ _ _ _ (fillF l o zx (j + 1)) _ _ TR.out hg9 hT9)
        have RN := Lib.hid (rowsT_far RR.out hg9 (by have := HBW.out; omega))
        clear hT9 hg9 PUT hzc x2 hc
        go_wp2_with fail
        go_roundw
        case rel => exact ⟨j + 1, by omega, by go_num, TN.out, RN.out⟩
        case measure => simp [intOf]; omega
      · have i1 : ¬ ((j : Int) < (P : Int)) := by omega
        obtain rfl : P = j := by omega
        clear RR i1 hlt hj
        obtain ⟨w10, hw10⟩ : ∃ W : World, W = wr := ⟨wr, rfl⟩
        subst hw10
        have hbw : Hid (b < w10.heap.size ∧ b' < w10.heap.size) := Lib.hid (by have D := (TWD.out _ _ _ _ _).1 TR.out; exact ⟨D.2.2.1.lt, D.2.2.2.1.lt⟩)
        have D2 := (TWD.out _ _ _ _ _).1 TR.out
        have RA2 := Lib.hid (rall_any4 As' nl' cs' P' l' _ HNL'.out.symm (by rw [HNL'.out]; omega) HCap' HLS'.out HP'.out (by omega) D2.2.1.ints)
        obtain ⟨x0, x1, x2⟩ := D2.2.1.cells
        clear x1 x2
        go_upto_region 14 with fail
        go_wp2_with fail
        refine RA2.out.mono ?_
        rintro e wA2 ⟨⟨Ar2, cr2, rfl, hR⟩, bR⟩
        have R2 := Lib.hid hR
        have WA2 := Lib.hid (TWN.out _ _ _ _ _ _ TR.out bR)
        clear hR bR D2 RA2 x0 TR
        go_wp2_with fail
        go_loopw [26, 27, 94] (fun _ _ i wr => ∃ j : Nat, j ≤ P' ∧ i = .int .i64 (j : Int) ∧ TW P (fillF l o zx P) j (fillF l' o' zy j) wr ∧ RowsT wr w10.heap.size (.slice Ar2 P' cr2) (allL l')) (fun _ _ i _ => P' - (intOf i).toNat)
        case atStart => exact ⟨0, Nat.zero_le _, rfl, WA2.out, R2.out⟩
        case round =>
          obtain ⟨j, hj, rfl, hT, hR⟩ := hrel
          have TR := Lib.hid hT
          have RR := Lib.hid hR
          clear hT hR WA2 R2
          by_cases hlt : j < P'
          · have i1 : (j : Int) < (P' : Int) := by omega
            have i2 : (0 : Int) ≤ (j : Int) := by omega
            have D := Lib.hid ((TWD.out _ _ _ _ _).1 TR.out)
            obtain ⟨Ar', cr', e1, hrow⟩ := RR.out.form
            obtain ⟨gr, x, hA, hgr, hc, hx⟩ := hrow j (by rw [allL_length, HP'.out]; exact hlt)
            obtain rfl : Ar2 = Ar' := by injection e1
            subst hA
            have eq : nthT (allL l') j = tupL l' j := allL_get l' (by rw [HP'.out]; exact hlt)
            rw [eq] at hx
            obtain ⟨Ax, cx, rfl, hIx⟩ := hx.form
            have hin : InL l' (tupL l' j) := tupL_in (fun n hn => (HLS'.out n hn).1) j
            have hzc := D.out.2.1.cost hlt
            obtain ⟨x0, x1, x2⟩ := D.out.2.1.cells
            have PUT := Lib.hid (tpput_ok g' b' j ct' (tupL l' j).length cx At' Ax l' (tupL l' j) k o' (zy j) (fillF l' o' zy j) wr D.out.2.2.2.1 rfl (by rw [HNL'.out]; omega) (fun n hn => (HLS'.out n hn).2) hIx hin (ZY.out j hlt) (by omega))
            clear hrow e1 eq hx hIx hin x0 x1
            go_wp2_with fail
            refine PUT.out.mono ?_
            rintro e w9 ⟨rfl, hT9, hg9⟩
            have TN := Lib.hid (TWB.out _ _ _ _ (fillF l' o' zy (j + 1)) _ _ TR.out hg9 hT9)
            have RN := Lib.hid (rowsT_far RR.out hg9 hbw.out.2)
            clear hT9 hg9 PUT hzc x2 hc
            go_wp2_with fail
            go_roundw
            case rel => exact ⟨j + 1, by omega, by go_num, TN.out, RN.out⟩
            case measure => simp [intOf]; omega
          · have i1 : ¬ ((j : Int) < (P' : Int)) := by omega
            obtain rfl : P' = j := by omega
            clear RR i1 hlt hj hbw
            obtain ⟨w11, hw11⟩ : ∃ W : World, W = wr := ⟨wr, rfl⟩
            subst hw11
            obtain ⟨fa, hfa⟩ : ∃ f, fillF l o zx P = f := ⟨_, rfl⟩
            obtain ⟨fb, hfb⟩ : ∃ f, fillF l' o' zy P' = f := ⟨_, rfl⟩
            have QA : Hid (∀ i, i < P → fa (tupL l i) = zx i) := Lib.hid fun i hi => by rw [← hfa, ← HP.out, fillF_all (by rw [HP.out]; exact hi)]
            have QB : Hid (∀ i, i < P' → fb (tupL l' i) = zy i) := Lib.hid fun i hi => by rw [← hfb, ← HP'.out, fillF_all (by rw [HP'.out]; exact hi)]
            have IA : Hid (∀ t, InL l t → InK (fa t) k) := Lib.hid fun t ht => by rw [← ht.tup, QA.out _ (by rw [← HP.out]; exact ht.num_lt)]; exact ZX.out _ (by rw [← HP.out]; exact ht.num_lt)
            have TZ : Hid (TW P fa P' fb w11) := Lib.hid (by rw [← hfa, ← hfb]; exact TR.out)
            clear hfa hfb TR
            have D := Lib.hid ((TWD.out _ _ _ _ _).1 TZ.out)
            have LIKE : Hid (∀ W, Below w11.heap.size w11 W → Calls Try.prog 16 #[.pointer (some ⟨g, 0, none⟩), .agg #[.slice As nl cs, .int .i64 k, .slice (some ⟨gc, 0, none⟩) P cc], .int .i64 o] W fun e w' => e = .returned (.bool true) ∧ Below W.heap.size W w') := Lib.hid fun W hb => by
              have D := (TWD.out _ _ _ _ _).1 (TWN.out _ _ _ _ _ _ TZ.out hb)
              have h := like5_yes g b P ct At As (some ⟨gc, 0, none⟩) cs cc P l k o zx fa W D.2.2.1 (by omega) (by rw [HNL.out]; omega) (by rw [HNL.out]; exact HCap) HLS.out HP.out (by omega) D.1.ints D.1.zs (fun i hi => (QA.out i hi).symm) OK.out IA.out
              rw [HNL.out] at h
              exact h
            have EQC : Hid (∀ W, Below w11.heap.size w11 W → Calls Try.prog 19 #[.slice As nl cs, .slice As' nl' cs'] W fun e w' => e = .returned (.bool (decide (l = l'))) ∧ Below W.heap.size W w') := Lib.hid fun W hb => by
              have D := (TWD.out _ _ _ _ _).1 (TWN.out _ _ _ _ _ _ TZ.out hb)
              have h := equal_any As As' cs cs' l l' W (by rw [HNL.out]; omega) D.1.ints D.2.1.ints
              rw [HNL.out, HNL'.out] at h
              exact h
            obtain ⟨x0, x1, x2⟩ := D.out.1.cells
            obtain ⟨v0, v1, v2⟩ := D.out.2.1.cells
            clear x1 v1 hbne hwb hwb' HBW TWA TWB
            by_cases hll : l = l'
            · rw [decide_eq_true hll] at EQC
              subst hll
              have hPP : P' = P := by rw [← HP'.out, HP.out]
              have hNN : nl' = nl := by rw [← HNL'.out, HNL.out]
              subst hPP hNN
              go_upto_region 20 with (first
                | (go_at_call 19; refine (EQC.out _ (Below.refl _ _)).mono ?_; rintro e w12 ⟨rfl, b12⟩; have D12 := (TWD.out _ _ _ _ _).1 (TWN.out _ _ _ _ _ _ TZ.out b12); obtain ⟨x0, x1, x2⟩ := D12.1.cells; obtain ⟨v0, v1, v2⟩ := D12.2.1.cells)
                | (go_at_call 20; refine (eq64_any _ _ P' cc cc' zx zy _ (by omega) D12.1.zs D12.2.1.zs).mono ?_; rintro e w13 ⟨⟨r, rfl, hr⟩, b13⟩))
              have HR := Lib.hid hr
              have b1113 := Lib.hid (then_ b12 b13)
              have T13 := Lib.hid (TWN.out _ _ _ _ _ _ TZ.out b1113.out)
              clear hr b12 b13 D12 x0 x1 x2 v0 v1 v2
              have SQ : Hid (SameF l fa fb ↔ SameZ P' zx zy) := Lib.hid (by
                constructor
                · intro h i hi
                  have := h (tupL l i) (tupL_in (fun n hn => (HLS.out n hn).1) i)
                  rw [QA.out i hi, QB.out i hi] at this
                  exact this
                · intro h t ht
                  have hi : numL l t < P' := by rw [← HP.out]; exact ht.num_lt
                  rw [← ht.tup, QA.out _ hi, QB.out _ hi]
                  exact h _ hi)
              have SAB : Hid (∀ W, Below w11.heap.size w11 W → Calls Try.prog 21 #[.pointer (some ⟨g, 0, none⟩), .pointer (some ⟨g', 0, none⟩)] W fun e w' => e = .returned (.bool r) ∧ Below W.heap.size W w') := Lib.hid fun W hb => by
                have D := (TWD.out _ _ _ _ _).1 (TWN.out _ _ _ _ _ _ TZ.out hb)
                refine (tpsame_ok g b P' ct g' b' P' ct' P' At At' l k o o' fa fb W D.2.2.1 D.2.2.2.1 (by rw [HNL.out]; omega) HLS.out HP.out (by omega)).mono ?_
                rintro e w' ⟨r', rfl, h1, h2⟩
                refine ⟨?_, h2⟩
                have : r' = r := by
                  have e1 : r' = true ↔ r = true := h1.trans ⟨fun h => HR.out.2 (SQ.out.1 h.2), fun h => ⟨rfl, SQ.out.2 (HR.out.1 h)⟩⟩
                  cases r' <;> cases r <;> simp at e1 ⊢
                rw [this]
              have SBA : Hid (∀ W, Below w11.heap.size w11 W → Calls Try.prog 21 #[.pointer (some ⟨g', 0, none⟩), .pointer (some ⟨g, 0, none⟩)] W fun e w' => e = .returned (.bool r) ∧ Below W.heap.size W w') := Lib.hid fun W hb => by
                have D := (TWD.out _ _ _ _ _).1 (TWN.out _ _ _ _ _ _ TZ.out hb)
                refine (tpsame_ok g' b' P' ct' g b P' ct P' At' At l k o' o fb fa W D.2.2.2.1 D.2.2.1 (by rw [HNL.out]; omega) HLS.out HP.out (by omega)).mono ?_
                rintro e w' ⟨r', rfl, h1, h2⟩
                refine ⟨?_, h2⟩
                have : r' = r := by
                  have e1 : r' = true ↔ r = true := h1.trans ⟨fun h => HR.out.2 (SQ.out.1 fun t ht => (h.2 t ht).symm), fun h => ⟨rfl, fun t ht => (SQ.out.2 (HR.out.1 h) t ht).symm⟩⟩
                  cases r' <;> cases r <;> simp at e1 ⊢
                rw [this]
              have HH : Hid (HoldM w13 bx nl' P' cs cc As (some ⟨gc, 0, none⟩) k w13) := Lib.hid (by obtain ⟨a0, a1, a2⟩ := ((TWD.out _ _ _ _ _).1 T13.out).1.cells; exact ⟨a0, a1, a2, Below.refl _ _⟩)
              have rr : (r == r) = true := by simp
              have ho := HTM.out
              have ho2 : a5 % (k + 1) = o := by rw [← Int.tmod_eq_emod_of_nonneg q5.1]; exact ho
              have p5 := q5.1
              have p5' := q5.2
              have e3 : ¬ (k + 1 = 0) := by omega
              have kk : IntKind.i64.wrap (k + 1) = k + 1 := IntWalk.i64_in _ (by omega)
              have f1 : IntKind.i64.wrap o = o := IntWalk.i64_in _ (by have h1 := OK.out.2.2.1; have h2 := OK.out.2.2.2; omega)
              have f2 : IntKind.i64.wrap (a5.tmod (k + 1)) = o := by rw [ho]; exact f1
              have f3 : IntKind.i64.wrap (a5 % (k + 1)) = o := by rw [ho2]; exact f1
              have f4 : IntKind.i64.wrap a5 = a5 := IntWalk.i64_in _ (by omega)
              clear D EQC HR
              go_region_held3 (fun W => HoldM w13 bx nl' P' cs cc As (some ⟨gc, 0, none⟩) k W) (first | exact holdM HH.out ((Below.refl _ _).drew) | exact holdM (by assumption) (by assumption))
                ((first
                  | (go_at_call 21; (first | (with_reducible refine (SAB.out _ (b1113.out.trans ((HoldM.below (by assumption)).mono b1113.out.size))).mono ?_) | (with_reducible refine (SBA.out _ (b1113.out.trans ((HoldM.below (by assumption)).mono b1113.out.size))).mono ?_)); rintro e w' ⟨rfl, hb⟩)
                  | (go_at_call 16; refine (LIKE.out _ (b1113.out.trans ((HoldM.below (by assumption)).mono b1113.out.size))).mono ?_; rintro e w' ⟨rfl, hb⟩)))
              have FB : Hid (Below w13.heap.size w13 _) := Lib.hid (HoldM.below (by assumption))
              go_wp2_with fail
              go_ret
              exact ⟨rfl, ((TWD.out _ _ _ _ _).1 T13.out).2.2.2.2.trans (FB.out.mono ((TWD.out _ _ _ _ _).1 T13.out).2.2.2.2.size)⟩
            · rw [decide_eq_false hll] at EQC
              have HLL := Lib.hid hll
              clear hll
              go_upto_region 20 with (go_at_call 19; refine (EQC.out _ (Below.refl _ _)).mono ?_; rintro e w13 ⟨rfl, b13⟩)
              have b1113 := Lib.hid b13
              have T13 := Lib.hid (TWN.out _ _ _ _ _ _ TZ.out b1113.out)
              clear b13 x0 x2 v0 v2
              have SAB : Hid (∀ W, Below w11.heap.size w11 W → Calls Try.prog 21 #[.pointer (some ⟨g, 0, none⟩), .pointer (some ⟨g', 0, none⟩)] W fun e w' => e = .returned (.bool false) ∧ Below W.heap.size W w') := Lib.hid fun W hb => by
                have D := (TWD.out _ _ _ _ _).1 (TWN.out _ _ _ _ _ _ TZ.out hb)
                refine (tpsame_sizes g b P ct g' b' P' ct' At At' l l' k o o' fa fb W D.2.2.1 D.2.2.2.1 (by rw [HNL.out]; omega) HLL.out).mono ?_
                rintro e w' ⟨r', rfl, h1, h2⟩
                refine ⟨?_, h2⟩
                cases r' with
                | false => rfl
                | true => exact absurd (h1.1 rfl).1 HLL.out
              have SBA : Hid (∀ W, Below w11.heap.size w11 W → Calls Try.prog 21 #[.pointer (some ⟨g', 0, none⟩), .pointer (some ⟨g, 0, none⟩)] W fun e w' => e = .returned (.bool false) ∧ Below W.heap.size W w') := Lib.hid fun W hb => by
                have D := (TWD.out _ _ _ _ _).1 (TWN.out _ _ _ _ _ _ TZ.out hb)
                refine (tpsame_sizes g' b' P' ct' g b P ct At' At l' l k o' o fb fa W D.2.2.2.1 D.2.2.1 (by rw [HNL'.out]; omega) (fun e => HLL.out e.symm)).mono ?_
                rintro e w' ⟨r', rfl, h1, h2⟩
                refine ⟨?_, h2⟩
                cases r' with
                | false => rfl
                | true => exact absurd (h1.1 rfl).1.symm HLL.out
              have HH : Hid (HoldM w13 bx nl P cs cc As (some ⟨gc, 0, none⟩) k w13) := Lib.hid (by obtain ⟨a0, a1, a2⟩ := ((TWD.out _ _ _ _ _).1 T13.out).1.cells; exact ⟨a0, a1, a2, Below.refl _ _⟩)
              have ho := HTM.out
              have ho2 : a5 % (k + 1) = o := by rw [← Int.tmod_eq_emod_of_nonneg q5.1]; exact ho
              have p5 := q5.1
              have p5' := q5.2
              have e3 : ¬ (k + 1 = 0) := by omega
              have kk : IntKind.i64.wrap (k + 1) = k + 1 := IntWalk.i64_in _ (by omega)
              have f1 : IntKind.i64.wrap o = o := IntWalk.i64_in _ (by have h1 := OK.out.2.2.1; have h2 := OK.out.2.2.2; omega)
              have f2 : IntKind.i64.wrap (a5.tmod (k + 1)) = o := by rw [ho]; exact f1
              have f3 : IntKind.i64.wrap (a5 % (k + 1)) = o := by rw [ho2]; exact f1
              have f4 : IntKind.i64.wrap a5 = a5 := IntWalk.i64_in _ (by omega)
              clear D EQC
              go_region_held3 (fun W => HoldM w13 bx nl P cs cc As (some ⟨gc, 0, none⟩) k W) (first | exact holdM HH.out ((Below.refl _ _).drew) | exact holdM (by assumption) (by assumption))
                ((first
                  | (go_at_call 21; (first | (with_reducible refine (SAB.out _ (b1113.out.trans ((HoldM.below (by assumption)).mono b1113.out.size))).mono ?_) | (with_reducible refine (SBA.out _ (b1113.out.trans ((HoldM.below (by assumption)).mono b1113.out.size))).mono ?_)); rintro e w' ⟨rfl, hb⟩)
                  | (go_at_call 16; refine (LIKE.out _ (b1113.out.trans ((HoldM.below (by assumption)).mono b1113.out.size))).mono ?_; rintro e w' ⟨rfl, hb⟩)))
              have FB : Hid (Below w13.heap.size w13 _) := Lib.hid (HoldM.below (by assumption))
              go_wp2_with fail
              go_ret
              exact ⟨rfl, ((TWD.out _ _ _ _ _).1 T13.out).2.2.2.2.trans (FB.out.mono ((TWD.out _ _ _ _ _).1 T13.out).2.2.2.2.size)⟩
end Go.Proofs.Ytdmldnlgamnkeaa
