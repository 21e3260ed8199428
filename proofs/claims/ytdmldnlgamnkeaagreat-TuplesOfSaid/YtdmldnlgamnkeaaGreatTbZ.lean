/- Contract of the document's Make (no statement of its own). -/
import Derived.Test.YtdmldnlgamnkeaaGreatTbY
namespace Go.Proofs.YtdmldnlgamnkeaaGreat
open Go.RowKit
set_option linter.unusedVariables false
theorem grown_set (W : World) (b i : Nat) (u : Value) : W.grownBy (W.setCell ⟨b, i, none⟩ u) (some b) := ⟨rfl, rfl, rfl, by simp [World.setCell], fun k _ hk => Below.heap_setCell W ⟨b, i, none⟩ u k (fun e => hk (by rw [show k = b from e]))⟩
theorem grown_setRow (W : World) (b : Nat) (cs : Array Value) : W.grownBy (W.setRow b cs) (some b) := ⟨rfl, rfl, rfl, by simp, fun k _ hk => setRow_other W b k cs (fun e => hk (by rw [e]))⟩
theorem results_rt {fn : Func} {p : Tmp} (h : fn.results = #[.cell p 29]) (tmps : Array Value) (w : World) (g : Nat) (a b c : Value) (hp : tmps.getD p undef = .pointer (some ⟨g, 0, none⟩))
    (hg : w.heap[g]? = some (.cells #[a, b, c] 29 (0, 0))) : (results fn tmps).run Tryz.prog w = .ok (.agg #[a, b, c]) w := by
  have c0 : w.cell? ⟨g, 0, none⟩ = some a := by rw [cell_of_row _ _ _ _ _ _ hg]; rfl
  have c1 : w.cell? ⟨g, 1, none⟩ = some b := by rw [cell_of_row _ _ _ _ _ _ hg]; rfl
  have c2 : w.cell? ⟨g, 2, none⟩ = some c := by rw [cell_of_row _ _ _ _ _ _ hg]; rfl
  have hp' : tmps[p]?.getD undef = .pointer (some ⟨g, 0, none⟩) := by simpa using hp
  simp [results, h, hp', go_sem, c0, c1, c2]
theorem row_form {w : World} {base n : Nat} {e : TypeId} {v : Value} {xs : List Value} (h : w.ownsRow base e 1 v n xs) : ∃ A c, v = .slice A n c := by
  obtain ⟨_, ⟨rfl, hn⟩ | ⟨g, cap, cur, rfl, _⟩⟩ := h
  · exact ⟨none, 0, by rw [hn]⟩
  · exact ⟨_, cap, rfl⟩
/-- The document's table under way lies at b. -/
structure MkAt (w : World) (b base n : Nat) (sv : Value) (k : Int) (z : Nat → Int) (v : Value) (W : World) : Prop where
  row : W.heap[b]? = some (.cells #[sv, .int .i64 k, v] 29 (0, 0))
  own : W.ownsRow base 2 1 v n (costL z n)
  bel : Below w.heap.size w W
  res : W.heap[w.heap.size]? = some (.cells #[.slice none 0 0, .int .i64 0, .slice none 0 0] 29 (0, 0))
theorem MkAt.cells {w W : World} {b base n : Nat} {sv v : Value} {k : Int} {z : Nat → Int} (H : MkAt w b base n sv k z v W) : W.cell? ⟨b, 0, none⟩ = some sv ∧ W.cell? ⟨b, 1, none⟩ = some (.int .i64 k) ∧ W.cell? ⟨b, 2, none⟩ = some v ∧ W.frozen? ⟨b, 2, none⟩ = false := by
  refine ⟨?_, ?_, ?_, frozen_of_row _ _ _ _ _ H.row⟩ <;> (rw [cell_of_row _ _ _ _ _ _ H.row]; rfl)
theorem MkAt.push {w W W' : World} {b base n : Nat} {sv v v' : Value} {k : Int} {z : Nat → Int} (H : MkAt w b base n sv k z v W) (hb : w.heap.size < b) (hbase : w.heap.size ≤ base) (ho : W'.ownsRow base 2 1 v' (n + 1) (costL z (n + 1))) (hg : W.grownBy W' v.ownBlock) :
    MkAt w b base (n + 1) sv k z v' (W'.setCell ⟨b, 2, none⟩ v') := by
  have hne : ∀ g, v.ownBlock = some g → g ≠ b := fun g hg e => by
    obtain ⟨c, fz, hc⟩ := Lib.ownsRow_kind H.own g hg
    subst e
    have := hc.symm.trans H.row
    simp at this
  have hlt : b < W.heap.size := (Array.getElem?_eq_some_iff.1 H.row).1
  have hrow' : W'.heap[b]? = some (.cells #[sv, .int .i64 k, v] 29 (0, 0)) := (hg.block b hlt (fun e => hne b e.symm rfl)).trans H.row
  have hne' : v'.ownBlock = none ∨ v'.ownBlock ≠ some b := by
    cases hv : v'.ownBlock with
    | none => exact .inl rfl
    | some g =>
      refine .inr fun e => ?_
      injection e with e
      subst e
      obtain ⟨c, fz, hc⟩ := Lib.ownsRow_kind ho _ hv
      have := hc.symm.trans hrow'
      simp at this
  refine ⟨?_, World.ownsRow.kept ho (grown_set W' b 2 v') hne', ?_, ?_⟩
  · have := heap_setCell_same W' b 2 _ _ v' hrow'
    simpa using this
  · exact (H.bel.grown hg H.bel.size (fun g hg' => by have := (World.ownsRow.lt H.own g hg').1; omega)).setCell (p := ⟨b, 2, none⟩) (Nat.le_of_lt hb) v'
  · have hne0 : ∀ g, v.ownBlock = some g → g ≠ w.heap.size := fun g hg e => by
      obtain ⟨c, fz, hc⟩ := Lib.ownsRow_kind H.own g hg
      subst e
      have := hc.symm.trans H.res
      simp at this
    exact (Below.heap_setCell W' ⟨b, 2, none⟩ v' _ (by show w.heap.size ≠ b; omega)).trans ((hg.block _ (Array.getElem?_eq_some_iff.1 H.res).1 (fun e => hne0 _ e.symm rfl)).trans H.res)
theorem MkAt.push_row {w W W' : World} {b base n : Nat} {sv v v' : Value} {k : Int} {z : Nat → Int} (H : MkAt w b base n sv k z v W) (ho : W'.ownsRow base 2 1 v' (n + 1) (costL z (n + 1))) (hg : W.grownBy W' v.ownBlock) :
    W'.cell? ⟨b, 0, none⟩ = some sv ∧ W'.cell? ⟨b, 1, none⟩ = some (.int .i64 k) ∧ W'.cell? ⟨b, 2, none⟩ = some v ∧ W'.frozen? ⟨b, 2, none⟩ = false := by
  have hne : ∀ g, v.ownBlock = some g → g ≠ b := fun g hg e => by
    obtain ⟨c, fz, hc⟩ := Lib.ownsRow_kind H.own g hg
    subst e
    have := hc.symm.trans H.row
    simp at this
  have hlt : b < W.heap.size := (Array.getElem?_eq_some_iff.1 H.row).1
  have hrow' : W'.heap[b]? = some (.cells #[sv, .int .i64 k, v] 29 (0, 0)) := (hg.block b hlt (fun e => hne b e.symm rfl)).trans H.row
  refine ⟨?_, ?_, ?_, frozen_of_row _ _ _ _ _ hrow'⟩ <;> (rw [cell_of_row _ _ _ _ _ _ hrow']; rfl)
set_option maxRecDepth 100000 in
set_option maxHeartbeats 4000000 in
theorem rmake_any (A L : Option Addr) (n c m mc P : Nat) (l : List Nat) (k : Int) (y : Nat → Int) (w : World) (hn : n = l.length) (h6 : l.length ≤ 6) (h32 : ∀ n ∈ l, n ≤ 32) (hw : Ints w A l) (hP : prodL l = P) (hP4 : P ≤ 4096)
    (hk1 : 1 ≤ k) (hk2 : k ≤ 2147483647) (hm : (m : Int) ≤ 9223372036854775807) (hL : Words w L m y) :
    Calls Tryz.prog 5 #[.slice A n c, .int .i64 k, .slice L m mc] w fun e w' => (∃ v, e = .returned (.agg #[.slice A n c, .int .i64 k, v]) ∧ w'.ownsRow w.heap.size 2 1 v P (costL (mkC k y m) P)) ∧ Below w.heap.size w w' := by
  have HC := Lib.hid (fun W (hb : Below w.heap.size w W) => rcount_any A n c P l W hn h6 h32 (hw.below hb (Nat.le_refl _)) hP)
  have HL := Lib.hid hL
  have hkk : IntKind.i64.wrap (k + 1) = k + 1 := IntWalk.i64_in _ (by omega)
  clear hn h6 h32 hw hP hL
  go_enter Tryz.func5, Tryz.ntmps5
  go_upto_region 2 with fail
  have m0 : MkAt w (w.heap.size + 1) w.heap.size 0 (.slice A n c) k (mkC k y m) (.slice none 0 0) ((w.alloc (.cells #[.slice none 0 0, .int .i64 0, .slice none 0 0] 29)).alloc (.cells #[.slice A n c, .int .i64 k, .slice none 0 0] 29)) := by
    refine ⟨alloc_two w _ _, World.ownsRow_nil _ _ _ _, ((Below.refl _ _).alloc (Nat.le_refl _) _).alloc (by simp) _, ((new_val (w.alloc _) _).block _ (by simp)).trans (heap_alloc_new w _)⟩
  have M0 := Lib.hid m0
  clear m0
  generalize ((w.alloc (.cells #[.slice none 0 0, .int .i64 0, .slice none 0 0] 29)).alloc (.cells #[.slice A n c, .int .i64 k, .slice none 0 0] 29)) = w2 at M0 ⊢
  go_upto_region 3 with fail
  go_loopw [8] (fun i wr => ∃ (j : Nat) (v : Value), j ≤ P ∧ i = .int .i64 (j : Int) ∧ MkAt w (w.heap.size + 1) w.heap.size j (.slice A n c) k (mkC k y m) v wr) (fun i _ => P - (intOf i).toNat)
  case atStart => exact ⟨0, _, Nat.zero_le _, rfl, M0.out⟩
  case round =>
    obtain ⟨j, v, hj, rfl, hM⟩ := hrel
    obtain ⟨Av, cv, rfl⟩ := row_form hM.own
    have HM := Lib.hid hM
    obtain ⟨q0, q1, q2, q3⟩ := hM.cells
    have CJ := Lib.hid (HC.out wr hM.bel)
    clear hM
    by_cases hlt : j < P
    · have i1 : (j : Int) < (P : Int) := by omega
      have i0 : (0 : Int) ≤ (j : Int) := by omega
      by_cases hjm : j < m
      · obtain ⟨pa, rfl, hpa, hcell, y0, y1⟩ := HL.out.below HM.out.bel j hjm
        have i2 : (j : Int) < (m : Int) := by omega
        obtain ⟨x, hx⟩ : ∃ x, y j = x := ⟨_, rfl⟩
        rw [hx] at hcell y0 y1
        by_cases h5 : x % 5 = 0
        · have HV : Hid (k = mkC k y m j) := Lib.hid (by unfold mkC; rw [if_pos hjm, hx, if_pos h5])
          clear hx hpa
          go_wp2_with (first | (go_at_call 19; refine CJ.out.mono ?_; rintro e w' ⟨rfl, rfl⟩) | (at_builtin; refine push64 rfl (.tmp 40) (.tmp 42) rfl wr w.heap.size j (.slice Av j cv) (mkC k y m) _ HV.out rfl rfl HM.out.own HM.out.bel.size (by omega) ?_; intro v' w3 ho hg; obtain ⟨A9, c9, rfl⟩ := row_form ho; have MN := Lib.hid (HM.out.push (Nat.lt_succ_self _) (Nat.le_refl _) ho hg); have R3 := Lib.hid (HM.out.push_row ho hg); clear ho hg; obtain ⟨p0, p1, p2, p3⟩ := R3.out))
          go_roundw
          case rel => exact ⟨j + 1, _, by omega, by go_num, MN.out⟩
          case measure => simp [intOf]; omega
        · obtain ⟨q, hq⟩ : ∃ q, x.tdiv 5 = q := ⟨_, rfl⟩
          have hqe : q = x / 5 := by rw [← hq, Int.tdiv_eq_ediv_of_nonneg y0]
          have w1 : IntKind.u16.wrap q = q := by show q % 65536 = q; omega
          have w2 : wrap64 q = q := IntWalk.wrap64_in _ (by omega)
          have w3 : q.tmod (k + 1) = mkC k y m j := by unfold mkC; rw [if_pos hjm, hx, if_neg h5, Int.tmod_eq_emod_of_nonneg (by omega), hqe]
          obtain ⟨r, hr⟩ : ∃ r, mkC k y m j = r := ⟨_, rfl⟩
          rw [hr] at w3
          have HV : Hid (r = mkC k y m j) := Lib.hid hr.symm
          clear hqe hr
          clear hx hpa
          go_wp2_with (first | (go_at_call 19; refine CJ.out.mono ?_; rintro e w' ⟨rfl, rfl⟩) | (at_builtin; refine push64 rfl (.tmp 40) (.tmp 42) rfl wr w.heap.size j (.slice Av j cv) (mkC k y m) _ HV.out rfl rfl HM.out.own HM.out.bel.size (by omega) ?_; intro v' w3 ho hg; obtain ⟨A9, c9, rfl⟩ := row_form ho; have MN := Lib.hid (HM.out.push (Nat.lt_succ_self _) (Nat.le_refl _) ho hg); have R3 := Lib.hid (HM.out.push_row ho hg); clear ho hg; obtain ⟨p0, p1, p2, p3⟩ := R3.out))
          go_roundw
          case rel => exact ⟨j + 1, _, by omega, by go_num, MN.out⟩
          case measure => simp [intOf]; omega
      · have i2 : ¬ ((j : Int) < (m : Int)) := by omega
        have HV : Hid (0 = mkC k y m j) := Lib.hid (by unfold mkC; rw [if_neg hjm])
        go_wp2_with (first | (go_at_call 19; refine CJ.out.mono ?_; rintro e w' ⟨rfl, rfl⟩) | (at_builtin; refine push64 rfl (.tmp 40) (.tmp 42) rfl wr w.heap.size j (.slice Av j cv) (mkC k y m) _ HV.out rfl rfl HM.out.own HM.out.bel.size (by omega) ?_; intro v' w3 ho hg; obtain ⟨A9, c9, rfl⟩ := row_form ho; have MN := Lib.hid (HM.out.push (Nat.lt_succ_self _) (Nat.le_refl _) ho hg); have R3 := Lib.hid (HM.out.push_row ho hg); clear ho hg; obtain ⟨p0, p1, p2, p3⟩ := R3.out))
        go_roundw
        case rel => exact ⟨j + 1, _, by omega, by go_num, MN.out⟩
        case measure => simp [intOf]; omega
    · have i1 : ¬ ((j : Int) < (P : Int)) := by omega
      obtain rfl : j = P := by omega
      have r0 : wr.cell? ⟨w.heap.size, 0, none⟩ = some (.slice none 0 0) := by rw [cell_of_row _ _ _ _ _ _ HM.out.res]; rfl
      have r1 : wr.cell? ⟨w.heap.size, 1, none⟩ = some (.int .i64 0) := by rw [cell_of_row _ _ _ _ _ _ HM.out.res]; rfl
      have r2 : wr.cell? ⟨w.heap.size, 2, none⟩ = some (.slice none 0 0) := by rw [cell_of_row _ _ _ _ _ _ HM.out.res]; rfl
      have HR := Lib.hid HM.out.res
      go_wp2_with (first | (go_at_call 19; refine CJ.out.mono ?_; rintro e w' ⟨rfl, rfl⟩) | ((with_reducible show wpList _ _ _ (Oper.mk none (.store 29 _ _) _ _ _ _ :: _) _ _); refine wpList_store_row rfl 29 (.tmp 6) (.tmp 45) rfl w.heap.size #[.slice A n c, .int .i64 k, .slice Av j cv] rfl rfl 29 #[.slice none 0 0, .int .i64 0, .slice none 0 0] HR.out (by kernel_rfl) rfl (by simp [Value.oneCell']) ?_))
      have hrow := setRow_heap wr w.heap.size _ #[.slice A n c, .int .i64 k, .slice Av j cv] _ _ HM.out.res
      refine bodyPost_ret (results_rt rfl _ _ w.heap.size _ _ _ rfl hrow) rfl ⟨⟨_, rfl, World.ownsRow.kept HM.out.own (grown_setRow wr w.heap.size _) ?_⟩, below_setRow HM.out.bel (Nat.le_refl _) _⟩
      cases hv : (Value.slice Av j cv).ownBlock with
      | none => exact .inl rfl
      | some g =>
        refine .inr fun e => ?_
        injection e with e
        subst e
        obtain ⟨c', fz, hc⟩ := Lib.ownsRow_kind HM.out.own _ hv
        have := hc.symm.trans HM.out.res
        simp at this
end Go.Proofs.YtdmldnlgamnkeaaGreat
