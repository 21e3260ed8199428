/- The walk of TuplesPlays (no statement of its own). No condition. -/
import Derived.Test.YtdmldnlgamnkeaaVd
import Derived.Test.YtdmldnlgamnkeaaUq
import Derived.Deep.RegionWith
import Derived.Deep.CutBlock
namespace Go.Proofs.Ytdmldnlgamnkeaa
open Go.RowKit Go.Maps
set_option linter.unusedVariables false
attribute [local go_sem ↓] run_mn2
/-- The document's table under way lies at the first block behind w. -/
structure MkB (w : World) (sv : Value) (k : Int) (z : Nat → Int) (n : Nat) (v : Value) (W : World) : Prop where
  row : W.heap[w.heap.size]? = some (.cells #[sv, .int .i64 k, v] 34 (0, 0))
  own : W.ownsRow w.heap.size 2 1 v n (costL z n)
  bel : Below w.heap.size w W
theorem MkB.cells {w W : World} {n : Nat} {sv v : Value} {k : Int} {z : Nat → Int} (H : MkB w sv k z n v W) : W.cell? ⟨w.heap.size, 0, none⟩ = some sv ∧ W.cell? ⟨w.heap.size, 1, none⟩ = some (.int .i64 k) ∧ W.cell? ⟨w.heap.size, 2, none⟩ = some v ∧ W.frozen? ⟨w.heap.size, 2, none⟩ = false := by
  refine ⟨?_, ?_, ?_, frozen_of_row _ _ _ _ _ H.row⟩ <;> (rw [cell_of_row _ _ _ _ _ _ H.row]; rfl)
theorem MkB.ne {w W : World} {n m : Nat} {sv v u : Value} {k : Int} {z : Nat → Int} {xs : List Value} (H : MkB w sv k z n v W) {W' : World} (hr : W'.heap[w.heap.size]? = W.heap[w.heap.size]?) {b : Nat} (ho : W'.ownsRow b 2 1 u m xs) : ∀ g, u.ownBlock = some g → g ≠ w.heap.size := fun g hg e => by
  obtain ⟨c, fz, hc⟩ := Lib.ownsRow_kind ho g hg
  subst e
  have := hc.symm.trans (hr.trans H.row)
  simp at this
theorem MkB.push_row {w W W' : World} {n : Nat} {sv v v' : Value} {k : Int} {z : Nat → Int} (H : MkB w sv k z n v W) (hg : W.grownBy W' v.ownBlock) : W'.heap[w.heap.size]? = W.heap[w.heap.size]? :=
  hg.block _ (Array.getElem?_eq_some_iff.1 H.row).1 (fun e => H.ne rfl H.own _ e.symm rfl)
theorem MkB.push {w W W' : World} {n : Nat} {sv v v' : Value} {k : Int} {z : Nat → Int} (H : MkB w sv k z n v W) (ho : W'.ownsRow w.heap.size 2 1 v' (n + 1) (costL z (n + 1))) (hg : W.grownBy W' v.ownBlock) :
    MkB w sv k z (n + 1) v' (W'.setCell ⟨w.heap.size, 2, none⟩ v') := by
  have hrow' := (H.push_row (v' := v') hg).trans H.row
  have hne' : v'.ownBlock = none ∨ v'.ownBlock ≠ some w.heap.size := by
    cases hv : v'.ownBlock with
    | none => exact .inl rfl
    | some g => exact .inr fun e => by injection e with e; exact H.ne (H.push_row (v' := v') hg) ho g hv e
  refine ⟨?_, World.ownsRow.kept ho (grown_set W' w.heap.size 2 v') hne', ?_⟩
  · have := heap_setCell_same W' w.heap.size 2 _ _ v' hrow'
    simpa using this
  · exact (H.bel.grown hg H.bel.size (fun g hg' => (World.ownsRow.lt H.own g hg').1)).setCell (p := ⟨w.heap.size, 2, none⟩) (Nat.le_refl _) v'
theorem MkB.push_cells {w W W' : World} {n : Nat} {sv v v' : Value} {k : Int} {z : Nat → Int} (H : MkB w sv k z n v W) (hg : W.grownBy W' v.ownBlock) :
    W'.cell? ⟨w.heap.size, 0, none⟩ = some sv ∧ W'.cell? ⟨w.heap.size, 1, none⟩ = some (.int .i64 k) ∧ W'.cell? ⟨w.heap.size, 2, none⟩ = some v ∧ W'.frozen? ⟨w.heap.size, 2, none⟩ = false := by
  have hrow' := (H.push_row (v' := v') hg).trans H.row
  refine ⟨?_, ?_, ?_, frozen_of_row _ _ _ _ _ hrow'⟩ <;> (rw [cell_of_row _ _ _ _ _ _ hrow']; rfl)
set_option maxRecDepth 100000 in
set_option maxHeartbeats 16000000 in
theorem tplays_walk (A0 : Option Addr) (n0 c0 : Nat) (z : Nat → Int) (a a2 : Int) (AA : Option Addr) (na ca : Nat) (w : World) (hn : (n0 : Int) ≤ 9223372036854775807) (hz : Bytes w A0 n0 z) (ha0 : 0 ≤ a) (ha1 : a ≤ 65535) (hb0 : 0 ≤ a2) (hb1 : a2 ≤ 65535)
    (hA : ActsP w AA na) (hna : (na : Int) ≤ 9223372036854775807) :
    Calls Try.prog 3 #[.slice A0 n0 c0, .int .u16 a, .int .u16 a2, .slice AA na ca] w fun e w' => e = .returned (.bool true) ∧ Below w.heap.size w w' := by
  have HZ := Lib.hid (fun W (hb : Below w.heap.size w W) => small_any A0 n0 c0 z W hn (fun j hj => by
    obtain ⟨p, e, hp, hc, h1, h2⟩ := hz j hj
    exact ⟨p, e, Nat.lt_of_lt_of_le hp hb.size, (hb.cell (p := p.add j) (by rw [block_add]; exact hp)).trans hc, h1, h2⟩))
  have HA := Lib.hid hA
  clear hz hA hn
  go_enter Try.func3, Try.ntmps3
  go_wp2_with fail
  refine (awake5_ok w).mono ?_
  rintro e w1 ⟨rfl, b1⟩
  have B1 := Lib.hid b1
  clear b1
  obtain ⟨l, hl⟩ : ∃ l, smL z (min n0 3) = l := ⟨_, rfl⟩
  obtain ⟨P, hP⟩ : ∃ P, prodL l = P := ⟨_, rfl⟩
  have hP64 : 1 ≤ P ∧ P ≤ 64 := by rw [← hP, ← hl]; exact smL_prod z _ (by omega)
  have hl3 : l.length ≤ 3 := by rw [← hl, smL_len]; omega
  have hls : ∀ x ∈ l, 1 ≤ x ∧ x ≤ 32 := fun x hx => by rw [← hl] at hx; have := smL_small z _ x hx; omega
  have SM := HZ.out w1 B1.out
  rw [hl] at SM
  have HSM := Lib.hid SM
  have HP := Lib.hid hP
  have HLS := Lib.hid hls
  clear hl hP hls SM HZ
  obtain ⟨hP1, hP4⟩ := hP64
  go_wp2_with fail
  refine HSM.out.mono ?_
  rintro e w2 ⟨⟨v, rfl, hO⟩, b2⟩
  obtain ⟨As, cs, rfl, hI⟩ := hO.form
  have HCap := own_cap hO
  have HAs : Hid (∀ a : Addr, As = some a → a.block < w2.heap.size) := Lib.hid fun a ha => by subst ha; exact (hO.lt a.block rfl).2
  have I2 := Lib.hid hI
  have B2 := Lib.hid (then_ B1.out b2)
  clear hO hI b2 HSM
  obtain ⟨k, hk⟩ : ∃ k, 1 + a % 200 = k := ⟨_, rfl⟩
  have hk1 : 1 ≤ k := by omega
  have hk2 : k ≤ 200 := by omega
  obtain ⟨o, ho⟩ : ∃ o, a2.tmod (k + 1) = o := ⟨_, rfl⟩
  have ho0 : 0 ≤ o := by rw [← ho, Int.tmod_eq_emod_of_nonneg hb0]; exact Int.emod_nonneg _ (by omega)
  have ho1 : o ≤ k := by rw [← ho, Int.tmod_eq_emod_of_nonneg hb0]; have := Int.emod_lt_of_pos a2 (show 0 < k + 1 by omega); omega
  have ho2 : a2 % (k + 1) = o := by rw [← ho, Int.tmod_eq_emod_of_nonneg hb0]
  have HO : Hid (InK o k) := Lib.hid ⟨hk1, by omega, ho0, ho1⟩
  have kk : IntKind.i64.wrap (k + 1) = k + 1 := IntWalk.i64_in _ (by omega)
  have NW := Lib.hid (tpnew_ok As l.length cs l k o w2 rfl (by omega) I2.out HLS.out HO.out)
  go_upto_region 7 with (go_at_call 9; refine NW.out.mono ?_; rintro e w3 ⟨⟨g, b, A, ct, rfl, hT, hg, hbt⟩, b3⟩)
  have T3 := Lib.hid hT
  have I3 := Lib.hid (I2.out.below b3 (Nat.le_refl _))
  have B3 := Lib.hid (then_ B2.out b3)
  have HTA : Hid (l ≠ [] → ∀ a : Addr, A = some a → a.block < w3.heap.size) := Lib.hid fun hl a ha => by
    rcases hT.ints with h0 | ⟨ga, oa, e, hlt, _⟩
    · exact absurd (by first | exact h0 | exact List.eq_nil_of_length_eq_zero h0) hl
    · rw [ha] at e
      injection e with e
      subst e
      exact hlt
  have HB : Hid (w.heap.size ≤ b ∧ b < w3.heap.size ∧ g < w3.heap.size ∧ w2.heap.size ≤ b) := Lib.hid ⟨Nat.le_trans B2.out.size hbt, hT.lt, (Array.getElem?_eq_some_iff.1 hT.row).1, hbt⟩
  clear hT hg hbt b3 NW ho ho2
  obtain ⟨nl, hnl⟩ : ∃ nl, l.length = nl := ⟨_, rfl⟩
  have HNL := Lib.hid hnl
  rw [hnl] at hl3 HCap
  simp only [hnl]
  go_upto_region 10 with fail
  have m0 : MkB w3 (.slice As nl cs) k (fun _ => o) 0 (.slice none 0 0) (w3.alloc (.cells #[.slice As nl cs, .int .i64 k, .slice none 0 0] 34)) :=
    ⟨heap_alloc_new w3 _, World.ownsRow_nil _ _ _ _, (Below.refl _ _).alloc (Nat.le_refl _) _⟩
  have M0 := Lib.hid m0
  clear m0 hnl
  generalize w3.alloc (.cells #[.slice As nl cs, .int .i64 k, .slice none 0 0] 34) = w4 at M0 ⊢
  have RC := Lib.hid (rcount_any As nl cs P l w4 HNL.out.symm (by rw [HNL.out]; omega) (fun n hn => (HLS.out n hn).2) (I3.out.below M0.out.bel (Nat.le_refl _)) HP.out)
  go_wp2_with (go_at_call 10; refine RC.out.mono ?_; rintro e w' ⟨rfl, rfl⟩)
  go_loopw [50] (fun i wr => ∃ (j : Nat) (v : Value), j ≤ P ∧ i = .int .i64 (j : Int) ∧ MkB w3 (.slice As nl cs) k (fun _ => o) j v wr) (fun i _ => P - (intOf i).toNat)
  case atStart => exact ⟨0, _, Nat.zero_le _, rfl, M0.out⟩
  case round =>
    obtain ⟨j, v, hj, rfl, hM⟩ := hrel
    obtain ⟨Av, cv, rfl⟩ := row_form hM.own
    have HM := Lib.hid hM
    obtain ⟨q0, q1, q2, q3⟩ := hM.cells
    clear hM M0
    by_cases hlt : j < P
    · have i1 : (j : Int) < (P : Int) := by omega
      have i0 : (0 : Int) ≤ (j : Int) := by omega
      go_wp2_with (at_builtin; refine push64 rfl (.tmp 53) (.tmp 55) rfl wr w3.heap.size j (.slice Av j cv) (fun _ => o) _ rfl rfl rfl HM.out.own HM.out.bel.size (by omega) ?_; intro v' w5 ho hg; obtain ⟨A9, c9, rfl⟩ := row_form ho; have MN := Lib.hid (HM.out.push ho hg); have R3 := Lib.hid (HM.out.push_cells (v' := .slice A9 (j + 1) c9) hg); clear ho hg; obtain ⟨p0, p1, p2, p3⟩ := R3.out)
      go_roundw
      case rel => exact ⟨j + 1, _, by omega, by go_num, MN.out⟩
      case measure => simp [intOf]; omega
    · have i1 : ¬ ((j : Int) < (P : Int)) := by omega
      obtain rfl : j = P := by omega
      obtain ⟨gc, cur, e, hgc, hcc, hcs, hci⟩ := own_row64 HM.out.own hP1
      subst e
      have hgx : gc ≠ w3.heap.size := HM.out.ne rfl HM.out.own gc rfl
      have PB : Hid (TpB w w3.heap.size g b gc A As l) := Lib.hid ⟨HB.out.1, Nat.le_trans B3.out.size hgc, by have := HB.out.2.1; omega, by have := HB.out.2.1; omega, fun e => hgx e.symm, by have := HB.out.2.2.1; omega, fun a ha => by have := HAs.out a ha; have := HB.out; omega, fun hl a ha => by have := HTA.out hl a ha; omega⟩
      have S3 : Hid (TpS w w3.heap.size g b gc A As ct 0 nl cs cv j l k o (fun _ => o) wr) :=
        Lib.hid ⟨HM.out.row, T3.out.below HM.out.bel, I3.out.below HM.out.bel (Nat.le_refl _), ⟨cur, hcc, hcs, hci⟩, B3.out.trans (HM.out.bel.mono B3.out.size), fun t ht => HO.out⟩
      have LK : Hid (∀ W N f, TpS w w3.heap.size g b gc A As ct N nl cs cv j l k o f W → N ≤ 1000 → Calls Try.prog 16 #[.pointer (some ⟨g, 0, none⟩), .agg #[.slice As nl cs, .int .i64 k, .slice (some ⟨gc, 0, none⟩) j cv], .int .i64 o] W fun e w' => e = .returned (.bool true) ∧ Below W.heap.size W w') := Lib.hid fun W N f H hN => by
        have h := like5_yes g b N ct A As (some ⟨gc, 0, none⟩) cs cv j l k o (fun i => f (tupL l i)) f W H.t (by omega) (by rw [HNL.out]; omega) (by rw [HNL.out]; exact HCap) HLS.out HP.out (by omega) H.i H.zs (fun _ _ => rfl) HO.out H.inn
        rw [HNL.out] at h
        exact h
      clear q0 q1 q2 q3 i1 hgc hcc hcs hci hgx HM hj hlt HAs HTA HB T3 I3 B3 RC I2 B2 B1
      generalize w3.heap.size = bx at *
      generalize j = P at *
      go_wp2_with fail
      go_loopw [61] (fun i wr => ∃ (j N : Nat) (f : List Nat → Int), j ≤ na ∧ i = .int .i64 (j : Int) ∧ N ≤ j ∧ N ≤ 1000 ∧ TpS w bx g b gc A As ct N nl cs cv P l k o f wr) (fun i _ => na - (intOf i).toNat)
      case atStart => exact ⟨0, 0, _, Nat.zero_le _, rfl, Nat.le_refl _, by omega, S3.out⟩
      case round =>
        clear S3
        obtain ⟨j, N, f, hj, rfl, hNj, hN, hM⟩ := hrel
        have HM := Lib.hid hM
        clear hM
        by_cases hlt : j < na
        · have j1 : (j : Int) < (na : Int) := by omega
          have j2 : (0 : Int) ≤ (j : Int) := by omega
          obtain ⟨p, ta, tn, tc, q, cv2, rfl, hJ⟩ := HA.out j hlt
          have HJ := Lib.hid (hJ.below HM.out.bel)
          clear hJ
          have a0 := HJ.out.c0
          have a1 := HJ.out.c1
          have n4 := new_val wr (.cells #[.slice ta tn tc, .int .i64 cv2] 37)
          have S4 := Lib.hid (HM.out.next n4)
          have X4 := Lib.hid (heap_alloc_new wr (.cells #[.slice ta tn tc, .int .i64 cv2] 37))
          obtain ⟨mo, hmo⟩ : ∃ mo, min tn 5 = mo := ⟨_, rfl⟩
          have hmn : mn2 tn 5 = mo := by unfold mn2; omega
          have XT := Lib.hid ((HJ.out.x.below n4).less (m := mo) (by omega))
          have hmi : (mo : Int) ≤ (tc : Int) := by have := HJ.out.cap; omega
          have hm0 : 0 ≤ (mo : Int) := by omega
          have hm5 : mo ≤ 5 := by omega
          have HB1 : Hid (wr.heap.size ≠ b) := Lib.hid (by have := HM.out.t.lt; omega)
          have HB2 : Hid (wr.heap.size ≠ gc) := Lib.hid (by obtain ⟨cur, hc, _⟩ := HM.out.c; have := (Array.getElem?_eq_some_iff.1 hc).1; omega)
          clear n4 hmo
          go_upto_region 17 with fail
          generalize wr.alloc (.cells #[.slice ta tn tc, .int .i64 cv2] 37) = w4 at S4 X4 XT ⊢
          clear a0 a1 HJ HM
          generalize wr.heap.size = b12 at X4 HB1 HB2 ⊢
          by_cases h30 : 30 ≤ j
          · have d30 : decide (30 ≤ (j : Int)) = true := by simp; omega
            obtain ⟨x0, x1, x2⟩ := S4.out.cells
            have LW := Lib.hid (LK.out _ _ _ S4.out hN)
            clear hmn hmi hm0
            go_wp2_with fail
            refine LW.out.mono ?_
            rintro e w5 ⟨rfl, b5⟩
            have B5 := Lib.hid (then_ S4.out.bel b5)
            clear b5
            go_wp2_with fail
            go_ret
            exact ⟨rfl, B5.out⟩
          · have d30 : decide (30 ≤ (j : Int)) = false := by simp; omega
            have e1 : w4.cell? ⟨b12, 0, none⟩ = some (.slice ta tn tc) := by rw [cell_of_row _ _ _ _ _ _ X4.out]; rfl
            go_wp2_with fail
            refine (clone_extO ta mo tc q w4 (by omega) XT.out).mono ?_
            rintro e w5 ⟨⟨At, c5, rfl, hzo, hat⟩, b5⟩
            have S5 := Lib.hid (S4.out.next b5)
            have X5 : Hid (w5.heap[b12]? = _) := Lib.hid ((b5.block b12 (Array.getElem?_eq_some_iff.1 X4.out).1).trans X4.out)
            have ZT5 := Lib.hid hzo
            have HAT : Hid (∀ a : Addr, At = some a → a.block ≠ b ∧ a.block ≠ gc) := Lib.hid fun a ha => by
              have h1 := hat a ha
              have h2 := S4.out.t.lt
              obtain ⟨cur, hc, _⟩ := S4.out.c
              have h3 := (Array.getElem?_eq_some_iff.1 hc).1
              omega
            clear b5 hzo hat hmn hmi hm0 e1 d30
            obtain ⟨x0, x1, x2⟩ := S5.out.cells
            have NO : (mo ≠ l.length ∨ (mo = l.length ∧ ∃ r, r < mo ∧ (∀ i, i < r → 0 ≤ q i ∧ q i < (nth l i : Int)) ∧ (q r < 0 ∨ (nth l r : Int) ≤ q r))) ∨ ∃ t : List Nat, t.length = mo ∧ (∀ i, i < mo → q i = (nth t i : Int)) ∧ InL l t := by
              rcases tup_cases mo q l with h | h | h
              · exact .inl (.inl h)
              · exact .inl (.inr h)
              · exact .inr h
            rcases NO with hno | ⟨t, ht, hty, hin⟩
            · have hol : OutL l mo q := by
                rcases hno with h | ⟨h, r, h1, _, h2⟩
                · exact .inl h
                · exact .inr ⟨r, h1, by omega, h2⟩
              have RX := Lib.hid (rindex_no As cs At mo c5 P nl l q w5 (by omega) HNL.out HCap HLS.out HP.out (by omega) S5.out.i ZT5.out hol)
              have PUT : Hid (∀ W, TpAt W g b A ct N l k o f → Zs W At mo q → Calls Try.prog 14 #[.pointer (some ⟨g, 0, none⟩), .slice At mo c5, .int .i64 cv2] W fun e w' => e = .returned (.int .i64 3) ∧ Below W.heap.size W w') := Lib.hid fun W H hz => tpput_no g b N ct mo c5 A At l q k o cv2 f W H (by rw [HNL.out]; omega) hz hno
              have GET : Hid (∀ W, TpAt W g b A ct N l k o f → Zs W At mo q → Calls Try.prog 15 #[.pointer (some ⟨g, 0, none⟩), .slice At mo c5] W fun e w' => e = .returned (.tuple #[.int .i64 0, .int .i64 3]) ∧ Below W.heap.size W w') := Lib.hid fun W H hz => tpget_no g b N ct mo c5 A At l q k o f W H (by rw [HNL.out]; omega) hz hno
              clear hno hol
              go_upto_region 20 with (go_at_call 12; refine RX.out.mono ?_; rintro e w6 ⟨rfl, b6⟩)
              have S6 := Lib.hid (S5.out.next b6)
              have X6 : Hid (w6.heap[b12]? = _) := Lib.hid ((b6.block b12 (Array.getElem?_eq_some_iff.1 X5.out).1).trans X5.out)
              have Z6 := Lib.hid (ZT5.out.below b6 (Nat.le_refl _))
              clear b6 x0 x1 x2 RX X5
              have PW := Lib.hid (PUT.out _ S6.out.t Z6.out)
              have e2 : w6.cell? ⟨b12, 1, none⟩ = some (.int .i64 cv2) := by rw [cell_of_row _ _ _ _ _ _ X6.out]; rfl
              go_upto_region 22 with (go_at_call 14; refine PW.out.mono ?_; rintro e w7 ⟨rfl, b7⟩)
              have S7 := Lib.hid (S6.out.next b7)
              have Z7 := Lib.hid (Z6.out.below b7 (Nat.le_refl _))
              have GW := Lib.hid (GET.out _ S7.out.t Z7.out)
              clear b7 e2 PW
              go_upto_region 27 with (go_at_call 15; refine GW.out.mono ?_; rintro e w8 ⟨rfl, b8⟩)
              have S8 := Lib.hid (S7.out.next b8)
              clear b8 GW
              go_wp2_with fail
              go_roundw
              case rel => exact ⟨j + 1, N, f, by omega, by go_num, by omega, hN, S8.out⟩
              case measure => simp [intOf]; omega
            · have IT5 := Lib.hid (ints_of_zs (l := t) (by rw [ht]; exact ZT5.out) (by rw [ht]; exact hty))
              obtain ⟨M, hM⟩ : ∃ M, numL l t = M := ⟨_, rfl⟩
              have hMP : M < P := by rw [← hM, ← HP.out]; exact hin.num_lt
              have HMN := Lib.hid hM
              have HIN := Lib.hid hin
              have HTL := Lib.hid ht
              have hmol : nl = mo := by rw [← HNL.out, ← ht, hin.length]
              have RX := Lib.hid (rindex_yes As cs At mo c5 P M l w5 (by rw [HNL.out]; omega) (by rw [HNL.out]; exact HCap) HLS.out HP.out (by omega) hMP (by rw [HNL.out]; exact hmol) S5.out.i (by rw [← hM, hin.tup]; exact IT5.out))
              rw [HNL.out] at RX
              clear hM hin ht hty hmol ZT5
              have M0 : (0 : Int) ≤ (M : Int) := by omega
              have M1 : (M : Int) < (P : Int) := by omega
              have dM : decide (0 ≤ (M : Int)) = true := by simp
              have dM2 : decide ((M : Int) < 0) = false := by simp
              go_upto_region 20 with (go_at_call 12; refine RX.out.mono ?_; rintro e w6 ⟨rfl, b6⟩)
              have S6 := Lib.hid (S5.out.next b6)
              have X6 : Hid (w6.heap[b12]? = _) := Lib.hid ((b6.block b12 (Array.getElem?_eq_some_iff.1 X5.out).1).trans X5.out)
              have I6 := Lib.hid (IT5.out.below b6 (Nat.le_refl _))
              clear b6 x0 x1 x2 RX X5 IT5
              have e2 : w6.cell? ⟨b12, 1, none⟩ = some (.int .i64 cv2) := by rw [cell_of_row _ _ _ _ _ _ X6.out]; rfl
              by_cases hv : InK cv2 k
              · have HV := Lib.hid hv
                have RI := Lib.hid (rin_is cv2 k true w6 ⟨fun _ => rfl, fun _ => hv⟩)
                have PW := Lib.hid (tpput_ok g b N ct mo c5 A At l t k o cv2 f w6 S6.out.t HTL.out.symm (by rw [HNL.out]; omega) (fun n hn => (HLS.out n hn).2) I6.out HIN.out hv (by omega))
                clear hv
                go_upto_region 21 with (go_at_call 13; refine RI.out.mono ?_; rintro e w' ⟨rfl, rfl⟩)
                go_upto_region 22 with (go_at_call 14; refine PW.out.mono ?_; rintro e w7 ⟨rfl, hT7, hg7⟩)
                have FIN : Hid (TpS w bx g b gc A As ct (N + 1) nl cs cv P l k o (updF f t cv2) (w7.setCell ⟨gc, M, none⟩ (.int .i64 cv2))) := Lib.hid (S6.out.put PB.out (fun n hn => (HLS.out n hn).1) HP.out HIN.out HMN.out HV.out hT7 hg7)
                have I8 : Hid (Ints (w7.setCell ⟨gc, M, none⟩ (.int .i64 cv2)) At t) := Lib.hid (by
                  rcases I6.out with h0 | ⟨ga, oa, e, hlt, hci⟩
                  · exact .inl h0
                  · have hab := HAT.out _ e
                    refine .inr ⟨ga, oa, e, by have := hg7.size; simp [World.setCell]; omega, fun i hi => ?_⟩
                    rw [World.cell?_of_block (a := ⟨ga, oa + i, none⟩) ((Below.heap_setCell w7 ⟨gc, M, none⟩ _ ga (fun e => hab.2 (by first | exact e | exact e.symm))).trans (hg7.block ga hlt (fun e => hab.1 (by injection e))))]
                    exact hci i hi)
                obtain ⟨k0, k1⟩ := S6.out.far PB.out hT7 hg7 hMP
                obtain ⟨m0, _, _, _⟩ := S6.out.mid PB.out hg7 hT7
                have y0 : w7.cell? ⟨bx, 2, none⟩ = some (.slice (some ⟨gc, 0, none⟩) P cv) := by rw [cell_of_row _ _ _ _ _ _ m0]; rfl
                have X7 := (hg7.block b12 (Array.getElem?_eq_some_iff.1 X6.out).1 (fun e => HB1.out (by injection e))).trans X6.out
                have y1 : w7.cell? ⟨b12, 1, none⟩ = some (.int .i64 cv2) := by rw [cell_of_row _ _ _ _ _ _ X7]; rfl
                clear hT7 hg7 m0 X7 e2 RI PW
                go_upto_region 26 with fail
                clear k0 k1 y0 y1 S6 I6 X6
                generalize w7.setCell ⟨gc, M, none⟩ (.int .i64 cv2) = w8 at FIN I8 ⊢
                have GW := Lib.hid (tpget_ok g b (N + 1) ct mo c5 A At l t k o (updF f t cv2) w8 FIN.out.t HTL.out.symm (by rw [HNL.out]; omega) (fun n hn => (HLS.out n hn).2) I8.out HIN.out)
                go_upto_region 27 with (go_at_call 15; refine GW.out.mono ?_; rintro e w9 ⟨rfl, b9⟩)
                have S9 := Lib.hid (FIN.out.next b9)
                clear b9 GW I8 FIN
                go_wp2_with fail
                go_roundw
                case rel => exact ⟨j + 1, N + 1, _, by omega, by go_num, by omega, by omega, S9.out⟩
                case measure => simp [intOf]; omega
              · have RI := Lib.hid (rin_is cv2 k false w6 ⟨fun h => absurd h hv, fun h => by cases h⟩)
                have PW := Lib.hid (tpput_cost g b N ct mo c5 A At l t k o cv2 f w6 S6.out.t HTL.out.symm (by rw [HNL.out]; omega) I6.out HIN.out hv)
                clear hv
                go_upto_region 21 with (go_at_call 13; refine RI.out.mono ?_; rintro e w' ⟨rfl, rfl⟩)
                go_upto_region 22 with (go_at_call 14; refine PW.out.mono ?_; rintro e w7 ⟨rfl, b7⟩)
                have S7 := Lib.hid (S6.out.next b7)
                have I7 := Lib.hid (I6.out.below b7 (Nat.le_refl _))
                clear b7 e2 RI PW
                have GW := Lib.hid (tpget_ok g b N ct mo c5 A At l t k o f w7 S7.out.t HTL.out.symm (by rw [HNL.out]; omega) (fun n hn => (HLS.out n hn).2) I7.out HIN.out)
                go_upto_region 26 with fail
                go_upto_region 27 with (go_at_call 15; refine GW.out.mono ?_; rintro e w9 ⟨rfl, b9⟩)
                have S9 := Lib.hid (S7.out.next b9)
                clear b9 GW I7
                go_wp2_with fail
                go_roundw
                case rel => exact ⟨j + 1, N, f, by omega, by go_num, by omega, hN, S9.out⟩
                case measure => simp [intOf]; omega
        · have j1 : ¬ ((j : Int) < (na : Int)) := by omega
          obtain ⟨x0, x1, x2⟩ := HM.out.cells
          have LW := Lib.hid (LK.out _ _ _ HM.out hN)
          go_wp2_with fail
          refine LW.out.mono ?_
          rintro e w5 ⟨rfl, b5⟩
          have B5 := Lib.hid (then_ HM.out.bel b5)
          clear b5
          go_wp2_with fail
          go_ret
          exact ⟨rfl, B5.out⟩
end Go.Proofs.Ytdmldnlgamnkeaa
