/- Grow, New (no statement of its own). -/
import Derived.Test.YtfheamemoinfeaaHwe
namespace Go.Proofs.Ytfheamemoinfeaa
open Go.RowKit
open Go.Maps (Keyed)
open RtA
set_option linter.unusedVariables false
def oneF : Nat := 4607182418800017408
def growX (X : List Nat) (n : Int) : List Nat := X ++ List.replicate (n - X.length).toNat oneF
theorem growX_no {X : List Nat} {n : Int} (h : n ≤ X.length) : growX X n = X := by
  unfold growX
  rw [show (n - (X.length : Int)).toNat = 0 by omega]
  simp
theorem growX_len (X : List Nat) (n : Int) : ((growX X n).length : Int) = max n X.length := by
  unfold growX; simp; omega
theorem nthF_app_l {l k : List Nat} {i : Nat} (h : i < l.length) : nthF (l ++ k) i = nthF l i := by
  unfold nthF
  rw [List.getD_eq_getElem?_getD, List.getD_eq_getElem?_getD, List.getElem?_append_left h]
theorem winv_grow {R : List Rn} {f : Int → Option Nat} {Bm X : List Nat} (h : WInv R f Bm X) {n : Int} (hn : (X.length : Int) < n) : WInv (R ++ [(n, oneF)]) f Bm (growX X n) := by
  have hl : ((growX X n).length : Int) = n := by rw [growX_len]; omega
  have hend : ∀ i, i < R.length → (nthR R i).1 ≤ (X.length : Int) := by
    intro i hi
    obtain ⟨q, hq⟩ : ∃ q, R.length = q + 1 := ⟨R.length - 1, by omega⟩
    rw [← h.len, ← endR_last hq]
    by_cases e : i = q
    · rw [e]; exact Int.le_refl _
    · have := ris_lt h.ris (show i < q by omega) (by omega)
      omega
  have hx : ∀ j, j < X.length → nthF (growX X n) j = nthF X j := fun j hj => nthF_app_l hj
  have hx2 : ∀ j, X.length ≤ j → j < (growX X n).length → nthF (growX X n) j = oneF := by
    intro j h1 h2
    unfold growX nthF
    unfold growX at h2
    rw [List.length_append, List.length_replicate] at h2
    rw [List.getD_eq_getElem?_getD, List.getElem?_append_right h1, List.getElem?_replicate, if_pos (by omega)]
    rfl
  refine ⟨by rw [endR_snoc, hl], ?_, fun r hr => ?_, fun j hj hf => ?_, fun j a ha => ?_, h.inj, fun x hxm => ?_⟩
  · refine List.pairwise_append.2 ⟨h.ris, List.pairwise_singleton _ _, fun a ha b hb => ?_⟩
    simp at hb
    subst hb
    obtain ⟨i, hi, e⟩ := List.mem_iff_getElem.1 ha
    have := hend i hi
    rw [← nthR_get R i hi, e] at this
    show a.1 < n
    omega
  · rcases List.mem_append.1 hr with hr | hr
    · exact h.pos r hr
    · simp at hr; subst hr; show 0 < n; omega
  · by_cases e : j < X.length
    · obtain ⟨i, h1, h2, h3, h4⟩ := h.run j e hf
      refine ⟨i, by simp; omega, fun q hq => by rw [nthR_append _ _ _ (by omega)]; exact h2 q hq, by rw [nthR_append _ _ _ h1]; exact h3, ?_⟩
      rw [hx j e, nthR_append _ _ _ h1]
      exact h4
    · refine ⟨R.length, by simp, fun q hq => ?_, ?_, ?_⟩
      · rw [nthR_append _ _ _ hq]
        have := hend q hq
        omega
      · rw [nthR_last]; show (j : Int) < n; omega
      · rw [nthR_last, hx2 j (by omega) hj]
  · obtain ⟨q, e, h1, h2, h3⟩ := h.bmp j a ha
    exact ⟨q, e, by omega, h2, by rw [hx q h1]; exact h3⟩
  · unfold growX at hxm
    rcases List.mem_append.1 hxm with hxm | hxm
    · exact h.sml x hxm
    · rw [(List.mem_replicate.1 hxm).2]; decide
theorem info_run : (Try.prog.info? 60).map (fun i => (i.zero, i.size, i.bytes)) = some (some (.agg #[.int .i64 0, .float .f64 0]), 2, 16) := by kernel_rfl
set_option maxRecDepth 100000 in
theorem pushR {ops : Array Oper} {rest : List Oper} {o : Oper} {a : Act} {Q : Exit → Act → World → Prop} (hgd : o.guard = none) (s x : Operand)
    (ho : o.op = .call { callee := .builtin .append, args := #[s, x], argTypes := #[56, 56] })
    (W : World) (y : Int) (u : Nat) (v : Value) (l : List Rn) (hs : a.eval s = v) (hx : a.eval x = .slice (some ⟨W.heap.size, 0, none⟩) 1 1)
    (hown : RowR W v l) (hl : l.length ≤ 1000000)
    (h : ∀ v' w', RowR w' v' (l ++ [(y, u)]) → (W.alloc (.cells #[.int .i64 y, .float .f64 u] 60)).grownBy w' v.ownBlock → (v'.ownBlock = v.ownBlock ∨ v'.ownBlock = some (W.alloc (.cells #[.int .i64 y, .float .f64 u] 60)).heap.size) → wpList Try.prog ops Q rest (a.put o.dst v') w') :
    wpList Try.prog ops Q (o :: rest) a (W.alloc (.cells #[.int .i64 y, .float .f64 u] 60)) := by
  refine wpList_plain hgd fun K hK => ?_
  obtain ⟨i0, hi, hz0, hz1, hz2⟩ := info_parts info_run
  have hown' : (W.alloc (.cells #[.int .i64 y, .float .f64 u] 60)).ownsRow 0 60 2 v l.length (flatR l) := row_block hown fun k e => (World.grownBy_alloc W _ none).block k (World.ownsRow.lt hown k e).2 (by simp)
  have hc := heap_alloc_new W (.cells #[.int .i64 y, .float .f64 u] 60)
  obtain ⟨v', w', hr, h2, h3, h4, h5⟩ := run_append_own_at (P := Try.prog) (w := W.alloc (.cells #[.int .i64 y, .float .f64 u] 60)) 0 56 o.type 60 i0 (.agg #[.int .i64 0, .float .f64 0]) 2 16 Try.underlying56 hi hz0 hz1 hz2 rfl (by decide) v l.length _ hown' ⟨W.heap.size, 0, none⟩ 1 1 [.int .i64 y, .float .f64 u] rfl (by
    intro j z hj
    rcases j with _ | _ | j
    · simp at hj; subst hj
      show (W.alloc _).cell? ⟨W.heap.size, 0, none⟩ = _
      rw [cell_of_row _ _ _ _ _ _ hc]; rfl
    · simp at hj; subst hj
      rw [add_zero_off, cell_of_row _ _ _ _ _ _ hc]; rfl
    · simp at hj) (by intro z hz; simp at hz; rcases hz with rfl | rfl <;> rfl) (by unfold maxLen; omega) (by omega) (Nat.zero_le _)
  unfold Oper.wp execOp
  simp only [ho, resolve, invoke, builtin, Sem.run_bind, Sem.run_pure, Result.andThen_ok, List.map_toArray, List.map_cons, List.map_nil, hs, hx, hr]
  refine hK _ _ (h v' w' ?_ h3 h5)
  unfold RowR
  rw [List.length_append, flatR_append]
  exact h2
def GrowP (P : Nat → Prop) (b K : Nat) (n : Int) (X : List Nat) (w : World) (e : Ending) (w' : World) : Prop := e = .returned (.tuple #[]) ∧ WA (fun k => P k ∨ w.heap.size ≤ k) w' b (K + 1) (growX X n) ∧ Kp P w w'
theorem WA.more {P : Nat → Prop} {w : World} {b K K' : Nat} {X : List Nat} (h : WA P w b K X) (hK : K ≤ K') : WA P w b K' X := by
  obtain ⟨v1, m, v3, R, f, Bm, h1, h2, h3, h4, h5, h6, h7, h8⟩ := h
  exact ⟨v1, m, v3, R, f, Bm, h1, h2, h3.more hK, h4, h5, by omega, by omega, h8⟩
set_option maxRecDepth 100000 in
set_option maxHeartbeats 2000000 in
theorem wgrow_any {P : Nat → Prop} {w : World} {b K : Nat} {X : List Nat} (n : Int) (h : WA P w b K X) (hK : K ≤ 90000) (hX : X.length ≤ 100000) : Calls Try.prog 20 #[.pointer (some ⟨b, 0, none⟩), .int .i64 n] w (GrowP P b K n X w) := by
  have HL := Lib.hid (wlen_any h (by omega))
  by_cases hn : (X.length : Int) < n
  · obtain ⟨v1, m, v3, R, f, Bm, h1, h2, h3, h4, h5, h6, h7, h8, h9, h10, h11⟩ := h
    have c0 := h1.c0
    obtain ⟨A1, k1, e1, -, -, -⟩ := row_form h2
    subst e1
    obtain ⟨nr, hnr⟩ : ∃ nr, R.length = nr := ⟨_, rfl⟩
    have HNR := Lib.hid hnr
    rw [hnr] at c0
    have H1 := Lib.hid h1
    have H2 : Hid (∀ m0, RowR (w.drewN m0) (.slice A1 nr k1) R) := Lib.hid (fun m0 => by rw [← hnr]; exact h2)
    have H3 := Lib.hid h3
    have H4 := Lib.hid h4
    have H5 := Lib.hid (winv_grow h5 hn)
    have H10 := Lib.hid h10
    have H11 := Lib.hid h11
    have hbn : Hid (∀ k, (Value.slice A1 nr k1).ownBlock = some k → k ≠ b) := Lib.hid fun k e => row_hd (H2.out 0) e h1 (by decide)
    have HB5 : Hid (∀ m0 w5, ((w.drewN m0).alloc (.cells #[.int .i64 n, .float .f64 4607182418800017408] 60)).grownBy w5 (Value.slice A1 nr k1).ownBlock → Hd w5 b (.slice A1 nr k1) m v3) := by
      apply Lib.hid
      intro m0 w5 hg
      have e := (World.grownBy_alloc (w.drewN m0) (.cells #[.int .i64 n, .float .f64 4607182418800017408] 60) none).block b h1.lt (by simp)
      have h1' : Hd (w.drewN m0) b (.slice A1 nr k1) m v3 := by rw [← hnr]; exact h1
      exact (h1'.block e).block (hg.block b (by simp; have := h1.lt; omega) (fun e2 => hbn.out b e2.symm rfl))
    have hr6 : nr ≤ 90000 := by omega
    clear h1 h2 h3 h4 h5 h10 h11 hnr hX
    go_enter Try.func20, Try.ntmps20
    go_wp2_with (first | (go_at_call 22; refine HL.out.mono ?_; rintro e w' ⟨rfl, m0, rfl⟩) | (at_builtin; refine pushR rfl (.tmp 16) (.tmp 19) rfl _ n 4607182418800017408 _ R (by rfl) (by rfl) (H2.out _) (by rw [HNR.out]; omega) ?_; rintro v5 w5 hO5 hg5 hn5; have O5 := Lib.hid hO5; have G5 := Lib.hid hg5; have N5 := Lib.hid hn5; obtain ⟨A5, c5, rfl, -⟩ := row_form hO5; have H5b := HB5.out _ _ hg5; have k5 := H5b.c0; have kf5 := H5b.frozen 0; have HH5 := Lib.hid H5b; clear hO5 hg5 hn5 H5b))
    go_end0
    have g6 := grown_set w5 b 0 (.slice A5 (R.length + 1) c5)
    have ga := World.grownBy_alloc (w.drewN m0) (.cells #[.int .i64 n, .float .f64 4607182418800017408] 60) none
    have z4 : w.heap.size ≤ w5.heap.size := by have := G5.out.size; simp at this; omega
    have hkeep : ∀ k, k < w.heap.size → k ≠ b → (Value.slice A1 nr k1).ownBlock ≠ some k → (w5.setCell ⟨b, 0, none⟩ (.slice A5 (R.length + 1) c5)).heap[k]? = w.heap[k]? := fun k hk q1 q2 =>
      (g6.block k (by omega) (by simp; omega)).trans ((G5.out.block k (by simp; omega) (fun e => q2 e.symm)).trans (ga.block k hk (by simp)))
    refine ⟨rfl, ⟨_, m, v3, R ++ [(n, oneF)], f, Bm, HH5.out.store0 _, ?_, ?_, ?_, H5.out, by simp; omega, by omega, .inl h8, .inl h9, fun k e => ?_, fun k e => .inl (H11.out k e)⟩, ?_⟩
    · have h5 := row_block (w' := w5.setCell ⟨b, 0, none⟩ (.slice A5 (R.length + 1) c5)) O5.out fun k e => g6.block k (World.ownsRow.lt O5.out k e).2 (fun e2 => by
        have e3 : k = b := by injection e2
        subst e3
        exact row_hd O5.out e HH5.out (by decide) rfl)
      have h5' : (w5.setCell ⟨b, 0, none⟩ (.slice A5 (R.length + 1) c5)).ownsRow 0 60 2 (.slice A5 (R.length + 1) c5) (R.length + 1) (flatR (R ++ [(n, 4607182418800017408)])) := by simpa using h5
      unfold RowR
      rw [List.length_append]
      exact h5'
    · exact (H3.out.block (hkeep m H3.out.lt (H3.out.ne_hd H1.out) (fun e => row_map (H2.out 0) e H3.out rfl))).more (by omega)
    · exact H4.out.keepB fun k e => hkeep k (H4.out.lt k e).2 (row_hd H4.out e H1.out (by decide)) (row_ne2 H4.out (H2.out 0) (by decide) e)
    · rcases N5.out with h | h
      · exact .inl (H10.out k ((ownBlock_len _ _ _ _ _).trans (h.symm.trans ((ownBlock_len _ _ _ _ _).trans e))))
      · right
        have := h.symm.trans ((ownBlock_len _ _ _ _ _).trans e)
        injection this with this
        rw [← this]
        simp
    · exact ((Kp.of_grown (grown_drewN (grown_refl w) m0) (fun k e => by cases e)).trans (Kp.of_grown ga (fun k e => by cases e))).trans ((Kp.of_grown G5.out (fun k e => H10.out k ((ownBlock_len _ _ _ _ _).trans e))).trans (Kp.of_grown g6 (fun k e => by injection e with e; subst e; exact h8)))
  · have hn' : ¬ (X.length : Int) < n := hn
    have HW := Lib.hid h
    have HGX := Lib.hid (growX_no (X := X) (n := n) (by omega))
    clear h
    go_enter Try.func20, Try.ntmps20
    go_wp2_with (go_at_call 22; refine HL.out.mono ?_; rintro e w' ⟨rfl, m0, rfl⟩)
    go_end0
    refine ⟨rfl, ?_, (Kp.refl P w).drew m0⟩
    rw [HGX.out]
    exact ((HW.out.grown (grown_drewN (grown_refl w) m0)).more (by omega)).mono (fun k _ h => .inl h)
def NewP (n : Int) (w : World) (e : Ending) (w' : World) : Prop := e = .returned (.pointer (some ⟨w.heap.size + 1, 0, none⟩)) ∧ WA (fun k => w.heap.size ≤ k) w' (w.heap.size + 1) 1 (growX [] n) ∧ w.grownBy w' none
theorem wa_new (w : World) : WA (fun k => w.heap.size ≤ k) ((w.alloc (.map #[] 0)).alloc (.cells #[.slice none 0 0, .map (some w.heap.size), .slice none 0 0] 58)) (w.heap.size + 1) 0 [] := by
  refine ⟨.slice none 0 0, w.heap.size, .slice none 0 0, [], fun _ => none, [], ?_, World.ownsRow_nil _ _ _ _, ⟨.map [], ((World.ownsMap_made w Try.prog 3 _).alloc _), fun x _ => rfl, fun x i _ h => by cases h⟩, ownF_nil _ _, ⟨rfl, List.Pairwise.nil, (fun r hr => by cases hr), (fun j hj => by simp at hj), (fun j a h => by cases h), (fun i j a h => by cases h), (fun x hx => by cases hx)⟩, Nat.le_refl _, Nat.le_refl _, by omega, Nat.le_refl _, (fun g e => by cases e), (fun g e => by cases e)⟩
  have := heap_alloc_new (w.alloc (.map #[] 0)) (.cells #[.slice none 0 0, .map (some w.heap.size), .slice none 0 0] 58)
  rw [World.size_alloc] at this
  exact this
set_option maxRecDepth 100000 in
theorem wnew_any (n : Int) (w : World) : Calls Try.prog 18 #[.int .i64 n] w (NewP n w) := by
  have hmm := @run_makeMap Try.prog
  have HG := Lib.hid (wgrow_any n (wa_new w) (by omega) (by simp))
  have G2 := Lib.hid ((World.grownBy_alloc w (.map #[] 0) none).trans (World.grownBy_alloc (w.alloc (.map #[] 0)) (.cells #[.slice none 0 0, .map (some w.heap.size), .slice none 0 0] 58) none))
  go_enter Try.func18, Try.ntmps18
  go_wp2_with (go_at_call 20; refine HG.out.mono ?_; rintro e w2 ⟨rfl, hw2, hk2⟩; have W2 := Lib.hid hw2; have K2 := Lib.hid hk2; clear hw2 hk2)
  go_ret
  refine ⟨rfl, W2.out.mono (fun k _ h => by rcases h with h | h; exact h; simp at h; omega), ?_⟩
  exact ⟨K2.out.os.trans G2.out.os, K2.out.tape.trans G2.out.tape, K2.out.output.trans G2.out.output, Nat.le_trans G2.out.size K2.out.size, fun k hk _ => (K2.out.block k (by simp; omega) (by omega)).trans (G2.out.block k hk (by simp))⟩
end Go.Proofs.Ytfheamemoinfeaa
