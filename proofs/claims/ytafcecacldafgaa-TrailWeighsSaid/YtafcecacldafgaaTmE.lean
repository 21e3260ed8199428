/- The contract of the law's 'do': growing; and all of it (no statement of its own). -/
import Derived.Test.YtafcecacldafgaaTmD
namespace Go.Proofs.Ytafcecacldafgaa
open Go.RowKit
set_option linter.unusedVariables false
/-- append of one number to an own list, as an equation. -/
theorem c_run (w : World) (B : Nat) (vC : Value) (D : List Int) (z : Int) (blk : Nat) (ty : TypeId) (h : OwnL w B vC D) (hb : w.heap[blk]? = some (.cells #[.int .i64 z] 2 (0, 0))) (hB : B ≤ w.heap.size) (hl : D.length < 1000000) :
    ∃ u w', (Builtin.append_ #[27, 27] ty #[vC, .slice (some ⟨blk, 0, none⟩) 1 1]).run Try.prog w = .ok u w' ∧ OwnL w' B u (D ++ [z]) ∧ w.grownBy w' vC.ownBlock ∧ ∀ g, u.ownBlock = some g → vC.ownBlock = some g ∨ w.heap.size ≤ g := by
  obtain ⟨i0, hi, hz0, hz1, hz2⟩ := info_parts info_i64'
  obtain ⟨u, w', hr, h2, h3, _, h5⟩ := run_append_own_at (P := Try.prog) w B 27 ty 2 i0 (.int .i64 0) 1 8 Try.underlying27 hi hz0 hz1 hz2 rfl (by decide) vC D.length (I64 D) h ⟨blk, 0, none⟩ 1 1 [.int .i64 z] rfl (World.news_of_block hb) (by simp [Value.oneCell']) (by unfold maxLen; omega) (by omega) hB
  refine ⟨u, w', hr, ?_, h3, fun g hg => ?_⟩
  · unfold OwnL
    rw [List.length_append, List.length_singleton]
    have e : I64 (D ++ [z]) = I64 D ++ [.int .i64 z] := by simp [I64]
    rw [e]
    exact h2
  · rcases h5 with h5 | h5
    · exact .inl (by rw [← h5]; exact hg)
    · rw [h5] at hg
      injection hg with hg
      exact .inr (by omega)
theorem PX.push {w0 w w' : World} {t cnt x : Nat} {C D E : List Int} {M N : List (List Int)} {Q : Nat → Prop} {vC vM u : Value} (h : PX w0 w t cnt x C M D N Q vC vM) (hg : w.grownBy w' vC.ownBlock) (hu : OwnL w' w0.heap.size u E) (hb : ∀ g, u.ownBlock = some g → vC.ownBlock = some g ∨ w.heap.size ≤ g) :
    w'.heap[x]? = some (.cells #[vC, vM] 30 (0, 0)) ∧ PX w0 (w'.setCell ⟨x, 0, none⟩ u) t cnt x C M E N Q u vM := by
  obtain ⟨r1, r2, r3, r4, r5⟩ := h.rowC hg E u hu hb
  obtain ⟨hs, hg2⟩ := xset r2 0 u
  refine ⟨r2, r1.turn h.nx hg2, hs, hu.kept hg2 ?_, r4, r3.turn r2 (by decide) (by decide) hg2, h.oM, h.nx, h.lx, fun k q => ⟨(h.q k q).1, Nat.lt_of_lt_of_le (h.q k q).2 (Nat.le_trans hg.size hg2.size)⟩, r5.trans (Kp.one hg2 h.lx)⟩
  cases hv : u.ownBlock with
  | none => exact .inl rfl
  | some g => exact .inr fun e => x_ne_row (ownsRow_zero hu) r2 (by decide) g hv (by injection e)
theorem rep_snoc (C : List Int) (j : Nat) : C ++ List.replicate j 0 ++ [0] = C ++ List.replicate (j + 1) 0 := by
  rw [List.append_assoc, List.replicate_succ']
set_option maxRecDepth 100000 in
set_option maxHeartbeats 4000000 in
theorem do_grow {lo : Nat} {w0 w : World} {t cnt x : Nat} {d i v : Int} {C : List Int} {M : List (List Int)} (h : PS w0 w t cnt x C M C M) (hb : Bd lo C M) (hc : cnt < 100000) (hd0 : 0 ≤ d) (hd : d % 8 = 6) :
    Calls Try.prog 11 #[.pointer (some ⟨t, 0, none⟩), .pointer (some ⟨x, 0, none⟩), .agg #[.int .u8 d, .int .i64 i, .int .i64 v]] w (DoP lo w0 t (cnt + 1) x) := by
  have hga := World.grownBy_alloc w (actB d i v) none
  have h1 := h.grown hga
  have hbx := heap_alloc_new w (actB d i v)
  obtain ⟨k0, k1, k2⟩ := cells3 hbx
  have hdt : d.tmod 8 = 6 := by rw [Int.tmod_eq_emod_of_nonneg hd0]; exact hd
  have HB := Lib.hid hb
  obtain ⟨n, hn⟩ : ∃ n : Int, (if i < 5 then i else 5) = n := ⟨_, rfl⟩
  obtain ⟨K, hK⟩ : ∃ K : Nat, max n 0 = (K : Int) := ⟨(max n 0).toNat, by omega⟩
  have hK5 : K ≤ 5 := by split at hn <;> omega
  have HK := Lib.hid hK
  have HK5 := Lib.hid hK5
  have key : i < 5 ∧ n = i ∨ i = 5 ∧ n = 5 ∨ 5 < i ∧ n = 5 := by split at hn <;> omega
  have key2 : n < 0 ∧ K = 0 ∨ n = 0 ∧ K = 0 ∨ 0 < n ∧ n = (K : Int) := by omega
  have KEY2 := Lib.hid key2
  obtain ⟨Q, A, c, B, e, hx⟩ := h1.form
  have c0 := hx.c0
  have H1 := Lib.hid h1
  by_cases hC : C.length < 60
  · have hCi : (C.length : Int) < 60 := by omega
    have HC := Lib.hid hC
    clear h h1 hga hb hx hn hK hK5 hbx key2 hC
    go_enter Try.func11, Try.ntmps11
    go_upto_region 15 with fail
    generalize w.alloc (actB d i v) = w1 at *
    rcases key with ⟨g1, rfl⟩ | ⟨rfl, rfl⟩ | ⟨g1, rfl⟩
    all_goals (
      go_upto_region 18 with fail
      have key2 := KEY2.out
      clear k0 k1 k2 c0
      rcases key2 with ⟨g2, g3⟩ | ⟨g2, g3⟩ | ⟨g2, g3⟩
      · first
        | (exfalso; omega)
        | skip
          subst g3
          go_wp2_with fail
          go_loopw [103] (fun ix wr => ∃ (j : Nat) (D : List Int), j ≤ 0 ∧ ix = .int .i64 (j : Int) ∧ Hid (D = C ++ List.replicate j 0) ∧ Hid (PS w0 wr t cnt x C M D M)) (fun ix _ => 0 - (intOf ix).toNat)
          case atStart => exact ⟨0, C, Nat.zero_le _, rfl, Lib.hid (by simp), H1⟩
          case round =>
            clear H1
            obtain ⟨j, D, hj, rfl, HD, HP⟩ := hrel
            by_cases hlt : j < 0
            · exact absurd hlt (Nat.not_lt_zero _)
            · have hjK : 0 = j := by omega
              have hd := HD.out
              rw [← hjK] at hd
              have hll : C.length < 1000000 := by have := HC.out; omega
              have hbd : Bd lo (C ++ List.replicate 0 0) M := by have := HC.out; have := HK5.out; exact ⟨HB.out.1, by simp; omega, HB.out.2.2.1, by have := HB.out.2.2.2.1; simp; omega, HB.out.2.2.2.2⟩
              subst hd
              have HG := Lib.hid (HP.out.tr fun Q hs => grow_st hs HK.out (by omega) hll)
              have HBD := Lib.hid hbd
              have hji : ¬ ((j : Int) < (0 : Int)) := by omega
              clear hll hbd hjK hlt hj HD HP
              go_wp2_with (go_at_call 24; refine HG.out.mono ?_; rintro e w5 ⟨rfl, h5⟩; have H5 := Lib.hid h5; clear h5)
              go_ret
              exact ⟨rfl, _, M, H5.out.more (Nat.le_succ cnt), HBD.out⟩
      · first
        | (exfalso; omega)
        | skip
          subst g3
          subst g2
          go_wp2_with fail
          go_loopw [103] (fun ix wr => ∃ (j : Nat) (D : List Int), j ≤ 0 ∧ ix = .int .i64 (j : Int) ∧ Hid (D = C ++ List.replicate j 0) ∧ Hid (PS w0 wr t cnt x C M D M)) (fun ix _ => 0 - (intOf ix).toNat)
          case atStart => exact ⟨0, C, Nat.zero_le _, rfl, Lib.hid (by simp), H1⟩
          case round =>
            clear H1
            obtain ⟨j, D, hj, rfl, HD, HP⟩ := hrel
            by_cases hlt : j < 0
            · exact absurd hlt (Nat.not_lt_zero _)
            · have hjK : 0 = j := by omega
              have hd := HD.out
              rw [← hjK] at hd
              have hll : C.length < 1000000 := by have := HC.out; omega
              have hbd : Bd lo (C ++ List.replicate 0 0) M := by have := HC.out; have := HK5.out; exact ⟨HB.out.1, by simp; omega, HB.out.2.2.1, by have := HB.out.2.2.2.1; simp; omega, HB.out.2.2.2.2⟩
              subst hd
              have HG := Lib.hid (HP.out.tr fun Q hs => grow_st hs HK.out (by omega) hll)
              have HBD := Lib.hid hbd
              have hji : ¬ ((j : Int) < (0 : Int)) := by omega
              clear hll hbd hjK hlt hj HD HP
              go_wp2_with (go_at_call 24; refine HG.out.mono ?_; rintro e w5 ⟨rfl, h5⟩; have H5 := Lib.hid h5; clear h5)
              go_ret
              exact ⟨rfl, _, M, H5.out.more (Nat.le_succ cnt), HBD.out⟩
      · first
        | (have e5 : K = 5 := (by omega)
           clear g3 g2
           subst e5
           go_wp2_with fail
           go_loopw [103] (fun ix wr => ∃ (j : Nat) (D : List Int), j ≤ 5 ∧ ix = .int .i64 (j : Int) ∧ Hid (D = C ++ List.replicate j 0) ∧ Hid (PS w0 wr t cnt x C M D M)) (fun ix _ => 5 - (intOf ix).toNat)
           case atStart => exact ⟨0, C, Nat.zero_le _, rfl, Lib.hid (by simp), H1⟩
           case round =>
             clear H1
             obtain ⟨j, D, hj, rfl, HD, HP⟩ := hrel
             by_cases hlt : j < 5
             · obtain ⟨Q, A, c, B, e, hx⟩ := HP.out.form
               have hga := World.grownBy_alloc wr (.cells #[.int .i64 0] 2) none
               have c0 := (hx.grown hga).c0
               have c00 := hx.c0
               have hdl : D.length < 1000000 := by have := HC.out; rw [HD.out]; simp; omega
               obtain ⟨u, w4, hr, ho, hg, hu⟩ := c_run (wr.alloc (.cells #[.int .i64 0] 2)) w0.heap.size (.slice A D.length c) D 0 wr.heap.size 27 (hx.grown hga).oC (heap_alloc_new wr _) (hx.grown hga).kp.size hdl
               have hED : D ++ [0] = C ++ List.replicate (j + 1) 0 := by rw [HD.out]; exact rep_snoc C j
               obtain ⟨E, hE⟩ : ∃ E, D ++ [0] = E := ⟨_, rfl⟩
               rw [hE] at ho hED
               obtain ⟨A6, c6, rfl, _⟩ := ho.form
               obtain ⟨hx4, hp4⟩ := (hx.grown hga).push hg ho hu
               have c04 : w4.cell? ⟨x, 0, none⟩ = some (.slice A D.length c) := by rw [cell_of_row _ _ _ _ _ _ hx4]; rfl
               have f04 : w4.frozen? ⟨x, 0, none⟩ = false := frozen_of_row _ _ _ _ _ hx4
               have HR := Lib.hid hr
               have HED := Lib.hid hED
               have HP4 := Lib.hid (show PS w0 (w4.setCell ⟨x, 0, none⟩ (.slice A6 E.length c6)) t cnt x C M E M from ⟨Q, _, _, hp4⟩)
               have HLT := Lib.hid hlt
               have hji : (j : Int) < (5 : Int) := by omega
               clear hx hga hdl hr ho hg hu hED hE hx4 hp4 hlt hj
               go_wp2_with (at_builtin; refine wpList_append_eq rfl (.tmp 109) (.tmp 110) 27 27 rfl _ _ rfl rfl (.slice A6 E.length c6) w4 HR.out ?_)
               go_roundw
               case rel => exact ⟨j + 1, E, by have := HLT.out; omega, by go_num, HED, HP4⟩
               case measure => have := HLT.out; simp [intOf]; omega
             · have hjK : 5 = j := by omega
               have hd := HD.out
               rw [← hjK] at hd
               have hll : C.length < 1000000 := by have := HC.out; omega
               have hbd : Bd lo (C ++ List.replicate 5 0) M := by have := HC.out; have := HK5.out; exact ⟨HB.out.1, by simp; omega, HB.out.2.2.1, by have := HB.out.2.2.2.1; simp; omega, HB.out.2.2.2.2⟩
               subst hd
               have HG := Lib.hid (HP.out.tr fun Q hs => grow_st hs HK.out (by omega) hll)
               have HBD := Lib.hid hbd
               have hji : ¬ ((j : Int) < (5 : Int)) := by omega
               clear hll hbd hjK hlt hj HD HP
               go_wp2_with (go_at_call 24; refine HG.out.mono ?_; rintro e w5 ⟨rfl, h5⟩; have H5 := Lib.hid h5; clear h5)
               go_ret
               exact ⟨rfl, _, M, H5.out.more (Nat.le_succ cnt), HBD.out⟩)
        | (subst g3
           go_wp2_with fail
           go_loopw [103] (fun ix wr => ∃ (j : Nat) (D : List Int), j ≤ K ∧ ix = .int .i64 (j : Int) ∧ Hid (D = C ++ List.replicate j 0) ∧ Hid (PS w0 wr t cnt x C M D M)) (fun ix _ => K - (intOf ix).toNat)
           case atStart => exact ⟨0, C, Nat.zero_le _, rfl, Lib.hid (by simp), H1⟩
           case round =>
             clear H1
             obtain ⟨j, D, hj, rfl, HD, HP⟩ := hrel
             by_cases hlt : j < K
             · obtain ⟨Q, A, c, B, e, hx⟩ := HP.out.form
               have hga := World.grownBy_alloc wr (.cells #[.int .i64 0] 2) none
               have c0 := (hx.grown hga).c0
               have c00 := hx.c0
               have hdl : D.length < 1000000 := by have := HC.out; rw [HD.out]; simp; omega
               obtain ⟨u, w4, hr, ho, hg, hu⟩ := c_run (wr.alloc (.cells #[.int .i64 0] 2)) w0.heap.size (.slice A D.length c) D 0 wr.heap.size 27 (hx.grown hga).oC (heap_alloc_new wr _) (hx.grown hga).kp.size hdl
               have hED : D ++ [0] = C ++ List.replicate (j + 1) 0 := by rw [HD.out]; exact rep_snoc C j
               obtain ⟨E, hE⟩ : ∃ E, D ++ [0] = E := ⟨_, rfl⟩
               rw [hE] at ho hED
               obtain ⟨A6, c6, rfl, _⟩ := ho.form
               obtain ⟨hx4, hp4⟩ := (hx.grown hga).push hg ho hu
               have c04 : w4.cell? ⟨x, 0, none⟩ = some (.slice A D.length c) := by rw [cell_of_row _ _ _ _ _ _ hx4]; rfl
               have f04 : w4.frozen? ⟨x, 0, none⟩ = false := frozen_of_row _ _ _ _ _ hx4
               have HR := Lib.hid hr
               have HED := Lib.hid hED
               have HP4 := Lib.hid (show PS w0 (w4.setCell ⟨x, 0, none⟩ (.slice A6 E.length c6)) t cnt x C M E M from ⟨Q, _, _, hp4⟩)
               have HLT := Lib.hid hlt
               have hji : (j : Int) < (K : Int) := by omega
               clear hx hga hdl hr ho hg hu hED hE hx4 hp4 hlt hj
               go_wp2_with (at_builtin; refine wpList_append_eq rfl (.tmp 109) (.tmp 110) 27 27 rfl _ _ rfl rfl (.slice A6 E.length c6) w4 HR.out ?_)
               go_roundw
               case rel => exact ⟨j + 1, E, by have := HLT.out; omega, by go_num, HED, HP4⟩
               case measure => have := HLT.out; simp [intOf]; omega
             · have hjK : K = j := by omega
               have hd := HD.out
               rw [← hjK] at hd
               have hll : C.length < 1000000 := by have := HC.out; omega
               have hbd : Bd lo (C ++ List.replicate K 0) M := by have := HC.out; have := HK5.out; exact ⟨HB.out.1, by simp; omega, HB.out.2.2.1, by have := HB.out.2.2.2.1; simp; omega, HB.out.2.2.2.2⟩
               subst hd
               have HG := Lib.hid (HP.out.tr fun Q hs => grow_st hs HK.out (by omega) hll)
               have HBD := Lib.hid hbd
               have hji : ¬ ((j : Int) < (K : Int)) := by omega
               clear hll hbd hjK hlt hj HD HP
               go_wp2_with (go_at_call 24; refine HG.out.mono ?_; rintro e w5 ⟨rfl, h5⟩; have H5 := Lib.hid h5; clear h5)
               go_ret
               exact ⟨rfl, _, M, H5.out.more (Nat.le_succ cnt), HBD.out⟩))
  · have hCi : ¬ ((C.length : Int) < 60) := by omega
    clear h h1 hga hb hx hn hK hK5 hbx key2 hC
    go_enter Try.func11, Try.ntmps11
    rcases key with ⟨g1, rfl⟩ | ⟨rfl, rfl⟩ | ⟨g1, rfl⟩
    all_goals (
      go_wp2_with fail
      go_ret
      exact ⟨rfl, C, M, H1.out.more (Nat.le_succ cnt), HB.out⟩)
/-- Whatever is done. -/
theorem do_any {lo : Nat} {w0 w : World} {t cnt x : Nat} {d i v : Int} {C : List Int} {M : List (List Int)} (h : PS w0 w t cnt x C M C M) (hb : Bd lo C M) (hc : cnt < 100000) (hd0 : 0 ≤ d) :
    Calls Try.prog 11 #[.pointer (some ⟨t, 0, none⟩), .pointer (some ⟨x, 0, none⟩), .agg #[.int .u8 d, .int .i64 i, .int .i64 v]] w (DoP lo w0 t (cnt + 1) x) := by
  rcases (show d % 8 < 4 ∨ d % 8 = 4 ∨ d % 8 = 5 ∨ d % 8 = 6 ∨ d % 8 = 7 by omega) with hd | hd | hd | hd | hd
  · exact do_set h hb hc hd0 hd
  · exact do_mark h hb hc hd0 hd
  · exact do_undo h hb hc hd0 hd
  · exact do_grow h hb hc hd0 hd
  · exact do_forget h hb hc hd0 hd
end Go.Proofs.Ytafcecacldafgaa
