/- put: a weight of its own (no statement of its own). -/
import Derived.Test.YtfheamemoinfeaaHwc
namespace Go.Proofs.Ytfheamemoinfeaa
open Go.RowKit
open Go.Maps (Keyed)
open RtA
set_option linter.unusedVariables false
theorem winv_set {R : List Rn} {f : Int → Option Nat} {Bm X : List Nat} (h : WInv R f Bm X) {q a x : Nat} (hq : q < X.length) (hf : f (q : Int) = some a) (ha : a < Bm.length) (hx : x < 18446744073709551616) : WInv R f (Bm.set a x) (X.set q x) := by
  refine ⟨by rw [List.length_set]; exact h.len, h.ris, h.pos, fun j hj hj2 => ?_, fun j c hc => ?_, h.inj, fun y hy => ?_⟩
  · rw [List.length_set] at hj
    obtain ⟨i, h1, h2, h3, h4⟩ := h.run j hj hj2
    refine ⟨i, h1, h2, h3, ?_⟩
    rw [nthF_set _ _ _ _ hq, if_neg (fun e => by rw [e, hf] at hj2; cases hj2)]
    exact h4
  · obtain ⟨p, e, h1, h2, h3⟩ := h.bmp j c hc
    refine ⟨p, e, by rw [List.length_set]; exact h1, by rw [List.length_set]; exact h2, ?_⟩
    rw [nthF_set _ _ _ _ hq, nthF_set _ _ _ _ ha]
    by_cases e2 : c = a
    · subst e2
      have := h.inj _ _ _ hc hf
      rw [if_pos rfl, if_pos (by omega)]
    · rw [if_neg e2, if_neg (fun e3 => e2 (by rw [e, e3, hf] at hc; injection hc with hc; exact hc.symm))]
      exact h3
  · rcases List.mem_or_eq_of_mem_set hy with h' | rfl
    · exact h.sml y h'
    · exact hx
theorem winv_new {R : List Rn} {f : Int → Option Nat} {Bm X : List Nat} (h : WInv R f Bm X) {q x : Nat} (hq : q < X.length) (hf : f (q : Int) = none) (hx : x < 18446744073709551616) : WInv R (upd f (q : Int) Bm.length) (Bm ++ [x]) (X.set q x) := by
  have hne : ∀ (j : Int) (c : Nat), j ≠ (q : Int) → upd f (q : Int) Bm.length j = some c → f j = some c := fun j c hj hc => by simpa [upd, hj] using hc
  have hat : ∀ i, i < Bm.length → nthF (Bm ++ [x]) i = nthF Bm i := fun i hi => by
    unfold nthF
    rw [List.getD_eq_getElem?_getD, List.getD_eq_getElem?_getD, List.getElem?_append_left hi]
  have hla : nthF (Bm ++ [x]) Bm.length = x := by simp [nthF, List.getD]
  refine ⟨by rw [List.length_set]; exact h.len, h.ris, h.pos, fun j hj hj2 => ?_, fun j c hc => ?_, fun i j c hi hj => ?_, fun y hy => ?_⟩
  · rw [List.length_set] at hj
    by_cases e : j = q
    · subst e; simp [upd] at hj2
    · have hj3 : f (j : Int) = none := by
        have : (j : Int) ≠ (q : Int) := by omega
        simpa [upd, this] using hj2
      obtain ⟨i, h1, h2, h3, h4⟩ := h.run j hj hj3
      refine ⟨i, h1, h2, h3, ?_⟩
      rw [nthF_set _ _ _ _ hq, if_neg e]
      exact h4
  · by_cases e : j = (q : Int)
    · subst e
      have hc' : Bm.length = c := by simpa [upd] using hc
      subst hc'
      refine ⟨q, rfl, by rw [List.length_set]; exact hq, by simp, ?_⟩
      rw [nthF_set _ _ _ _ hq, if_pos rfl, hla]
    · obtain ⟨p, e1, h1, h2, h3⟩ := h.bmp j c (hne j c e hc)
      refine ⟨p, e1, by rw [List.length_set]; exact h1, by simp; omega, ?_⟩
      rw [nthF_set _ _ _ _ hq, if_neg (by omega), hat c h2]
      exact h3
  · by_cases e : i = (q : Int)
    · by_cases e2 : j = (q : Int)
      · rw [e, e2]
      · have h1 : Bm.length = c := by rw [e] at hi; simpa [upd] using hi
        obtain ⟨p, _, _, h2, _⟩ := h.bmp j c (hne j c e2 hj)
        omega
    · by_cases e2 : j = (q : Int)
      · have h1 : Bm.length = c := by rw [e2] at hj; simpa [upd] using hj
        obtain ⟨p, _, _, h2, _⟩ := h.bmp i c (hne i c e hi)
        omega
      · exact h.inj i j c (hne i c e hi) (hne j c e2 hj)
  · rcases List.mem_or_eq_of_mem_set hy with h' | rfl
    · exact h.sml y h'
    · exact hx
theorem grown_set (W : World) (b i : Nat) (u : Value) : W.grownBy (W.setCell ⟨b, i, none⟩ u) (some b) := ⟨rfl, rfl, rfl, by simp [World.setCell], fun k _ hk => Below.heap_setCell W ⟨b, i, none⟩ u k (fun e => hk (by rw [show k = b from e]))⟩
theorem ownBlock_len (A : Option Addr) (n c n' c' : Nat) : (Value.slice A n c).ownBlock = (Value.slice A n' c').ownBlock := by cases A <;> rfl
def PutP (P : Nat → Prop) (b K q x : Nat) (X : List Nat) (w : World) (e : Ending) (w' : World) : Prop := e = .returned (.tuple #[]) ∧ WA (fun k => P k ∨ w.heap.size ≤ k) w' b (K + 1) (X.set q x) ∧ Kp P w w'
theorem Pls.more {w : World} {m s t : Nat} {f : Int → Option Nat} (h : Pls w m f s) (hst : s ≤ t) : Pls w m f t := by
  obtain ⟨D, h1, h2⟩ := h
  exact ⟨D, h1.mono hst, h2⟩
theorem Pls.ne_hd {w : World} {b m s : Nat} {v1 v3 : Value} {f : Int → Option Nat} (h3 : Pls w m f s) {m' : Nat} (h1 : Hd w b v1 m' v3) : m ≠ b := by
  intro e
  subst e
  obtain ⟨D, ⟨es, ck, hb, _⟩, _⟩ := h3
  have h1' : w.heap[m]? = some _ := h1
  rw [hb] at h1'
  simp at h1'
theorem row_map {w : World} {e size B : Nat} {v : Value} {n m s : Nat} {xs : List Value} {g : Nat} {f : Int → Option Nat} (h : w.ownsRow B e size v n xs) (hg : v.ownBlock = some g) (h3 : Pls w m f s) : g ≠ m := by
  obtain ⟨D, ⟨es, ck, hb, _⟩, _⟩ := h3
  exact row_ne h hg hb (fun cur q => by cases q)
theorem row_hd {w : World} {e size B b m : Nat} {v v1 v3 : Value} {n : Nat} {xs : List Value} {g : Nat} (h : w.ownsRow B e size v n xs) (hg : v.ownBlock = some g) (h1 : Hd w b v1 m v3) (he : e ≠ 58) : g ≠ b :=
  row_ne h hg h1 (fun cur q => by injection q with q1 q2; exact he q2.symm)
theorem run_store_float (P : Program) (a : Addr) (k : FloatKind) (n : Nat) (m : Mode) (w : World) : (store a (.float k n) m).run P w = stored P w a (.float k n) m := run_store P w a _ m rfl
set_option maxRecDepth 100000 in
set_option maxHeartbeats 2000000 in
theorem put_any {P : Nat → Prop} {w : World} {b K q x : Nat} {X : List Nat} (h : WA P w b K X) (hK : K ≤ 90000) (hq : q < X.length) (hX : X.length ≤ 100000) (hx : x < 18446744073709551616) :
    Calls Try.prog 33 #[.pointer (some ⟨b, 0, none⟩), .int .i64 (q : Int), .float .f64 x] w (PutP P b K q x X w) := by
  obtain ⟨v1, m, v3, R, f, Bm, h1, h2, h3, h4, h5, h6, h7, h8, h9, h10, h11⟩ := h
  have hlk : (Instr.lookup 55 (.map (some m)) (.int .i64 (q : Int)) true).run Try.prog w = .ok (.tuple #[.int .i64 (((f (q : Int)).getD 0 : Nat) : Int), .bool (f (q : Int)).isSome]) w := look_pls h3 (by omega)
  have hsf := run_store_float Try.prog
  have c1 := h1.c1
  have c2 := h1.c2
  cases hf : f (q : Int) with
  | some a =>
    rw [hf] at hlk
    simp only [Option.getD_some, Option.isSome_some] at hlk
    obtain ⟨q', e1, _, ha, hxx⟩ := h5.bmp _ _ hf
    obtain ⟨g, c, rfl, hc1, hc2, hgl⟩ := ownF_some (n := Bm.length) h4 rfl (by omega)
    have d0 := h4.cell a ha
    have f0 := h4.frozen a
    obtain ⟨s4, sg⟩ := h4.store a x
    have FIN : Hid (PutP P b K q x X w (.returned (.tuple #[])) (w.setCell ⟨g, a, none⟩ (.float .f64 x))) := by
      apply Lib.hid
      have n1 : g ≠ b := row_hd h4 rfl h1 (by decide)
      have n2 : g ≠ m := row_map h4 rfl h3
      refine ⟨rfl, ⟨v1, m, _, R, f, Bm.set a x, h1.block (sg.block b h1.lt (by simp; omega)), row_block h2 (fun k e => sg.block k (World.ownsRow.lt h2 k e).2 (fun e2 => row_ne2 h4 h2 (by decide) rfl (by rw [e]; exact e2))), (h3.block (sg.block m h3.lt (by simp; omega))).more (by omega), by simpa using s4, winv_set h5 hq hf ha hx, by omega, by rw [List.length_set]; omega, .inl h8, .inl h9, fun k e => .inl (h10 k e), fun k e => .inl (h11 k e)⟩, Kp.of_grown sg (fun k e => h11 k e)⟩
    generalize Bm.length = nb at *
    clear h1 h2 h3 h4 h5 h10 h11 hf e1 hxx s4 sg
    go_enter Try.func33, Try.ntmps33
    go_wp2_with fail
    refine bodyPost_ret (results_none rfl _ _ _) rfl ?_
    exact FIN.out
  | none =>
    rw [hf] at hlk
    simp only [Option.getD_none, Option.isSome_none] at hlk
    have hk := Maps.keyOf_int_mk (P := Try.prog) Try.underlying3 (wf_int (x := (q : Int)) (by omega) (by omega))
    have hpe := plainElem_int (H := Unit) (P := Try.prog) Try.underlying3 (wf_int (x := (Bm.length : Int)) (by omega) (by omega))
    have HKK := Lib.hid hk
    have HE := Lib.hid hpe
    obtain ⟨A3, c3, rfl, hc1, hc2, hA0, hA3⟩ := h4.form
    have H1 := Lib.hid h1
    have H2 := Lib.hid h2
    have H3 := Lib.hid h3
    have H4 := Lib.hid h4
    have H5 := Lib.hid h5
    have HF := Lib.hid hf
    have H10 := Lib.hid h10
    have H11 := Lib.hid h11
    obtain ⟨nb, hnb⟩ : ∃ nb, Bm.length = nb := ⟨_, rfl⟩
    have HNB := Lib.hid hnb
    rw [hnb] at c2
    have hnb9 : nb ≤ K := by omega
    clear h1 h2 h3 h4 h5 h10 h11 hf hk hpe hA0 hA3 hnb hc1
    go_enter Try.func33, Try.ntmps33
    go_wp2_with fail
    go_still_tail 10, (by kernel_rfl)
    change wpList _ _ _ _ _ w.drew
    obtain ⟨D, ho, e1, e2⟩ := H3.out
    have HO := Lib.hid ho
    have E1 := Lib.hid e1
    have E2 := Lib.hid e2
    clear ho e1 e2 hlk
    refine wpList_mapUpdate_own _ rfl _ _ _ 55 rfl 3 3 law Try.underlying55 _ m K D rfl HO.out (by unfold maxLen; omega) _ _ _ rfl rfl HKK.out _ [] (by rw [← HNB.out]; exact HE.out) ?_
    intro w4 ho4 hg4
    have P4 : Hid (Pls w4 m (upd f (q : Int) nb) (K + 1)) := Lib.hid (by rw [← HNB.out]; exact Pls.stored (wf_int (by omega) (by omega)) HO.out E1.out E2.out ho4)
    have G4 : Hid (w.grownBy w4 (some m)) := Lib.hid ⟨hg4.os, hg4.tape, hg4.output, hg4.size, hg4.block⟩
    clear ho4 hg4
    have n0 : m ≠ b := H3.out.ne_hd H1.out
    have N0 := Lib.hid n0
    have h1' := H1.out.block (G4.out.block b H1.out.lt (by simp; omega))
    have H1' := Lib.hid h1'
    have H4' : Hid (OwnF w4 0 (.slice A3 Bm.length c3) Bm) := Lib.hid (H4.out.keepB fun k e => G4.out.block k (H4.out.lt k e).2 (fun e2 => by have := row_map H4.out e H3.out; simp at e2; omega))
    have H2' : Hid (RowR w4 v1 R) := Lib.hid (row_block H2.out fun k e => G4.out.block k (World.ownsRow.lt H2.out k e).2 (fun e2 => by have := row_map H2.out e H3.out; simp at e2; omega))
    have c2' := h1'.c2
    have f2' := h1'.frozen 2
    rw [HNB.out] at c2'
    have OA := Lib.hid (H4'.out.kept0 (World.grownBy_alloc w4 (.cells #[.float .f64 x] 24) none))
    have SX : Hid (SrcF (w4.alloc (.cells #[.float .f64 x] 24)) (some ⟨w4.heap.size, 0, none⟩) [x]) := by
      apply Lib.hid
      refine .inr ⟨_, rfl, by simp, fun j hj => ?_⟩
      have : j = 0 := by simp at hj; omega
      subst this
      rw [add_zero_off, cell_of_row _ _ _ _ _ _ (heap_alloc_new w4 _)]
      rfl
    rw [HNB.out] at OA
    have NG : Hid (∀ k, (Value.slice A3 nb c3).ownBlock = some k → k ≠ b) := Lib.hid (fun k e => by have h := H4'.out; rw [HNB.out] at h; exact row_hd h e H1'.out (by decide))
    have HB5 : Hid (∀ w5, (w4.alloc (.cells #[.float .f64 x] 24)).grownBy w5 (Value.slice A3 nb c3).ownBlock → Hd w5 b v1 m (.slice A3 nb c3)) := by
      apply Lib.hid
      intro w5 hg
      have e := (World.grownBy_alloc w4 (.cells #[.float .f64 x] 24) none).block b H1'.out.lt (by simp)
      have h := H1'.out
      rw [HNB.out] at h
      exact (h.block e).block (hg.block b (by simp; have := h.lt; omega) (fun e2 => NG.out b e2.symm rfl))
    clear n0 h1' c1 c2
    go_wp2_with (at_builtin; refine appF_own rfl (.tmp 39) (.tmp 41) rfl _ 0 1 1 _ Bm [x] (some ⟨w4.heap.size, 0, none⟩) rfl (by rfl) (by rfl) OA.out SX.out (by intro h; cases h) (Nat.zero_le _) (by rw [HNB.out]; omega) (by omega) ?_; rintro v5 w5 hO5 hg5 hn5; have O5 := Lib.hid hO5; have G5 := Lib.hid hg5; have N5 := Lib.hid hn5; obtain ⟨A5, c5, rfl, -⟩ := hO5.form; have H5b := HB5.out _ hg5; have k5 := H5b.c2; have kf5 := H5b.frozen 2; have HH5 := Lib.hid H5b; clear hO5 hg5 hn5 H5b)
    go_end0
    have g6 := grown_set w5 b 2 (.slice A5 (Bm.length + 1) c5)
    have z4 : w4.heap.size ≤ w5.heap.size := by have := G5.out.size; simp at this; omega
    have hkeep : ∀ k, k < w4.heap.size → k ≠ b → (Value.slice A3 nb c3).ownBlock ≠ some k → (w5.setCell ⟨b, 2, none⟩ (.slice A5 (Bm.length + 1) c5)).heap[k]? = w4.heap[k]? := fun k hk q1 q2 =>
      (g6.block k (by omega) (by simp; omega)).trans ((G5.out.block k (by simp; omega) (fun e => q2 e.symm)).trans ((World.grownBy_alloc w4 (.cells #[.float .f64 x] 24) none).block k hk (by simp)))
    have h44 := H4'.out
    rw [HNB.out] at h44
    have hsz := G4.out.size
    refine ⟨rfl, ⟨v1, m, _, R, _, Bm ++ [x], HH5.out.store2 _, ?_, ?_, ?_, winv_new H5.out hq HF.out hx, by omega, by simp; have := HNB.out; omega, .inl h8, .inl h9, fun k e => .inl (H10.out k e), fun k e => ?_⟩, ?_⟩
    · exact row_block H2'.out fun k e => hkeep k (World.ownsRow.lt H2'.out k e).2 (row_hd H2'.out e H1'.out (by decide)) (row_ne2 H2'.out h44 (by decide) e)
    · have hp := P4.out.block (hkeep m P4.out.lt N0.out (fun e => row_map h44 e P4.out rfl))
      rw [← HNB.out] at hp
      exact hp
    · have h5 := O5.out.keepB (w' := w5.setCell ⟨b, 2, none⟩ (.slice A5 (Bm.length + 1) c5)) fun k e => g6.block k (O5.out.lt k e).2 (fun e2 => by
        have e3 : k = b := by injection e2
        subst e3
        exact row_hd O5.out e HH5.out (by decide) rfl)
      simpa using h5
    · rcases N5.out with h | h
      · exact .inl (H11.out k ((ownBlock_len _ _ _ _ _).trans (h.symm.trans ((ownBlock_len _ _ _ _ _).trans e))))
      · right
        have : some k = some (w4.alloc (.cells #[.float .f64 x] 24)).heap.size := by rw [← h]; simpa using e.symm
        injection this with this
        rw [this]
        simp; omega
    · exact (((Kp.of_grown G4.out (fun k e => by injection e with e; subst e; exact h9)).trans (Kp.of_grown (World.grownBy_alloc w4 (.cells #[.float .f64 x] 24) none) (fun k e => by cases e))).trans (Kp.of_grown G5.out (fun k e => H11.out k (by rw [HNB.out]; exact e)))).trans (Kp.of_grown g6 (fun k e => by injection e with e; subst e; exact h8))
end Go.Proofs.Ytfheamemoinfeaa
