/- The contracts of the document's Mark, Undo and Forget (no statement of its own). -/
import Derived.Test.YtafcecacldafgaaTmA
namespace Go.Proofs.Ytafcecacldafgaa
open Go.RowKit
set_option linter.unusedVariables false
theorem wpList_append_eq {P : Program} {w : World} {ops : Array Oper} {rest : List Oper} {o : Oper} {a : Act} {Q : Exit → Act → World → Prop} (hgd : o.guard = none) (s x : Operand) (t tn : TypeId)
    (ho : o.op = .call { callee := .builtin .append, args := #[s, x], argTypes := #[t, tn] }) (vs vx : Value) (hs : a.eval s = vs) (hx : a.eval x = vx) (v' : Value) (w' : World)
    (hr : (Builtin.append_ #[t, tn] o.type #[vs, vx]).run P w = .ok v' w') (h : wpList P ops Q rest (a.put o.dst v') w') : wpList P ops Q (o :: rest) a w :=
  wpList_plain hgd fun _ hK => Lib.wp_append_run w s x t tn ho vs vx hs hx v' w' hr (hK _ _ h)
theorem OwnL.base {w : World} {B B' : Nat} {v : Value} {l : List Int} (h : OwnL w B v l) (hB : B' ≤ B) : OwnL w B' v l := by
  rcases h with ⟨h1, h2 | ⟨g, cap, cur, h3, h4, h5⟩⟩
  · exact ⟨h1, .inl h2⟩
  · exact ⟨h1, .inr ⟨g, cap, cur, h3, Nat.le_trans hB h4, h5⟩⟩
theorem own_none {w : World} {B n c : Nat} {A : Option Addr} {l : List Int} (h : OwnL w B (.slice A n c) l) : A = none → c = 0 := by
  rintro rfl
  rcases h.2 with ⟨e, _⟩ | ⟨g, cap, cur, e, _⟩
  · injection e
  · simp at e
/-- All blocks but one are as they were. -/
def FrX (w : World) (x : Nat) (w' : World) : Prop := w.heap.size ≤ w'.heap.size ∧ ∀ k, k < w.heap.size → k ≠ x → w'.heap[k]? = w.heap[k]?
theorem FrX.set (w : World) (x i : Nat) (u : Value) : FrX w x (w.setCell ⟨x, i, none⟩ u) := ⟨(KeepsWalks.setCell w _ _).size, fun k _ hne => Below.heap_setCell w ⟨x, i, none⟩ _ k (fun e => hne (by rw [e]))⟩
theorem FrX.trans {a b c : World} {x : Nat} (h : FrX a x b) (k : FrX b x c) : FrX a x c := ⟨Nat.le_trans h.1 k.1, fun j hj hne => (k.2 j (Nat.lt_of_lt_of_le hj h.1) hne).trans (h.2 j hj hne)⟩
theorem FrX.same {w w' : World} {x : Nat} (hg : w.grownBy w' none) : FrX w x w' := ⟨hg.size, fun k hk _ => hg.block k hk (by simp)⟩
def AndX (w0 w : World) (t cnt x : Nat) (C : List Int) (M : List (List Int)) (D : List Int) (N : List (List Int)) (v : Value) (e : Ending) (w' : World) : Prop := AndP w0 t cnt x C M D N v e w' ∧ FrX w x w'
set_option maxRecDepth 100000 in
set_option maxHeartbeats 1000000 in
theorem rforget_yes {w0 w : World} {t cnt x m : Nat} {C D : List Int} {M N : List (List Int)} (h : PS w0 w t cnt x C M D N) (hm : m < N.length) (hN : N.length < 100000) :
    Calls Try.prog 27 #[.pointer (some ⟨x, 0, none⟩), .int .i64 (m : Int)] w (AndX w0 w t cnt x C M D (N.take m) (.bool true)) := by
  obtain ⟨Q, A, c, B, e, h⟩ := h.form
  have hBf := h.ll.form
  obtain ⟨B', e', hv, hB⟩ := hBf
  simp only [Value.slice.injEq, true_and] at hv
  obtain ⟨rfl, rfl⟩ := hv
  obtain ⟨g, rfl, _⟩ := hB (by omega)
  have c1 := h.c1
  have f1 := h.fz 1
  obtain ⟨hl, hme⟩ := h.ll.take m (by omega)
  have hmi : (m : Int) < (N.length : Int) := by omega
  have hme' : (m : Int) ≤ (e : Int) := by omega
  have hm0 : (0 : Int) ≤ (m : Int) := by omega
  have hlt : (N.take m).length = m := by rw [List.length_take]; omega
  have HF := Lib.hid (show PX w0 (w.setCell ⟨x, 1, none⟩ (.slice (some ⟨g, 0, none⟩) m e)) t cnt x C M D (N.take m) Q _ _ from h.setM hl (fun q hq => h.oM q (by simpa [Value.ownBlock] using hq)))
  clear h hl hB hme hm hN hlt
  go_enter Try.func27, Try.ntmps27
  go_wp2_with fail
  go_ret
  exact ⟨⟨rfl, Q, _, _, HF.out⟩, FrX.set _ _ _ _⟩
set_option maxRecDepth 100000 in
theorem rforget_no {w0 w : World} {t cnt x : Nat} {i : Int} {C D : List Int} {M N : List (List Int)} (h : PS w0 w t cnt x C M D N) (hi : i < 0 ∨ (N.length : Int) ≤ i) :
    Calls Try.prog 27 #[.pointer (some ⟨x, 0, none⟩), .int .i64 i] w (AndO w (.bool false)) := by
  obtain ⟨Q, A, c, B, e, h⟩ := h.form
  have c1 := h.c1
  clear h
  rcases hi with hi | hi
  · go_enter Try.func27, Try.ntmps27
    go_wp2_with fail
    go_ret
    exact ⟨rfl, rfl⟩
  · have h0 : 0 ≤ i := by omega
    go_enter Try.func27, Try.ntmps27
    go_wp2_with fail
    go_ret
    exact ⟨rfl, rfl⟩
set_option maxRecDepth 100000 in
theorem rundo_no {w0 w : World} {t cnt x : Nat} {i : Int} {C D : List Int} {M N : List (List Int)} (h : PS w0 w t cnt x C M D N) (hi : i < 0 ∨ (N.length : Int) ≤ i) :
    Calls Try.prog 26 #[.pointer (some ⟨x, 0, none⟩), .int .i64 i] w (AndO w (.bool false)) := by
  obtain ⟨Q, A, c, B, e, h⟩ := h.form
  have c1 := h.c1
  clear h
  rcases hi with hi | hi
  · go_enter Try.func26, Try.ntmps26
    go_wp2_with fail
    go_ret
    exact ⟨rfl, rfl⟩
  · have h0 : 0 ≤ i := by omega
    go_enter Try.func26, Try.ntmps26
    go_wp2_with fail
    go_ret
    exact ⟨rfl, rfl⟩
set_option maxRecDepth 100000 in
set_option maxHeartbeats 2000000 in
theorem rundo_yes {w0 w : World} {t cnt x m : Nat} {C D : List Int} {M N : List (List Int)} (h : PS w0 w t cnt x C M D N) (hm : m < N.length) (hN : N.length < 100000) (hL : N[m].length ≤ 1000000) :
    Calls Try.prog 26 #[.pointer (some ⟨x, 0, none⟩), .int .i64 (m : Int)] w (AndX w0 w t cnt x C M N[m] (N.take m) (.bool true)) := by
  obtain ⟨Q, A, c, B, e, h⟩ := h.form
  obtain ⟨B', e', hv, hB⟩ := h.ll.form
  simp only [Value.slice.injEq, true_and] at hv
  obtain ⟨rfl, rfl⟩ := hv
  obtain ⟨g, rfl, _⟩ := hB (by omega)
  have hga := World.grownBy_alloc w (.cells #[] 2) none
  have c1 := h.c1
  have c1a := (h.grown hga).c1
  obtain ⟨A2, c2, hcell, hown, hfar⟩ := h.ll.at m hm
  obtain ⟨E, hE⟩ : ∃ E, N[m] = E := ⟨_, rfl⟩
  rw [hE] at hcell hown hfar hL ⊢
  have hcella : (w.alloc (.cells #[] 2)).cell? ⟨g, m, none⟩ = some (.slice A2 E.length c2) := cell_grown hcell hga
  obtain ⟨v6, w6, hr6, ho6, hg6⟩ := copy_run w A2 c2 E 27 hown.srcL (own_none hown) hL
  obtain ⟨A6, c6, rfl, _⟩ := ho6.form
  have h6 := h.grown hg6
  have hv6 : ∀ q, (Value.slice A6 E.length c6).ownBlock = some q → w.heap.size ≤ q := fun q hq => (World.ownsRow.lt ho6 q hq).1
  have h7 := h6.setC (u := .slice A6 E.length c6) (E := E) (ho6.base (by have := h.kp.size; exact this)) (fun q hq p => by have := (h.q q p).2; have := hv6 q hq; omega)
    (h.ll.kept (Kp.none hg6) fun k hk p => by
      rcases p with p | p
      · exact .inl p
      · have := hv6 k p; omega)
  have c06 := h6.c0
  have f06 := h6.fz 0
  have c17 := h7.c1
  have f17 := h7.fz 1
  obtain ⟨hl, hme⟩ := h7.ll.take m (by omega)
  have HF := Lib.hid (h7.setM hl (fun q hq => h.oM q (by simpa [Value.ownBlock] using hq)))
  have HR6 := Lib.hid hr6
  have HG6 := Lib.hid hg6
  have hmi : (m : Int) < (N.length : Int) := by omega
  have hme' : (m : Int) ≤ (e : Int) := by omega
  have hm0 : (0 : Int) ≤ (m : Int) := by omega
  clear h h6 h7 hl hB hme hm hN hcell hown hfar hE hr6 ho6 hg6 hv6 hL hga
  go_enter Try.func26, Try.ntmps26
  go_wp2_with (at_builtin; refine wpList_append_eq rfl (.tmp 17) (.tmp 24) 27 27 rfl _ _ rfl rfl (.slice A6 E.length c6) w6 HR6.out ?_)
  go_ret
  exact ⟨⟨rfl, Q, _, _, HF.out⟩, ((FrX.same HG6.out).trans (FrX.set _ _ _ _)).trans (FrX.set _ _ _ _)⟩
set_option maxRecDepth 100000 in
set_option maxHeartbeats 4000000 in
theorem rmark_any {w0 w : World} {t cnt x : Nat} {C D : List Int} {M N : List (List Int)} (h : PS w0 w t cnt x C M D N) (hN : N.length < 100000) (hD : D.length ≤ 1000000) :
    Calls Try.prog 25 #[.pointer (some ⟨x, 0, none⟩)] w (AndP w0 t cnt x C M D (N ++ [D]) (.int .i64 (N.length : Int))) := by
  obtain ⟨Q, A, c, B, e, h⟩ := h.form
  have HX0 := Lib.hid h
  have HAN := Lib.hid (own_none h.oC)
  have HNL := Lib.hid hN
  have HDL := Lib.hid hD
  clear h hN hD
  go_enter Try.func25, Try.ntmps25
  go_upto_region 1 with fail
  have HX4 := Lib.hid (HX0.out.grown (grown_drew (World.grownBy_refl w)))
  refine wp_region_noPanic ?_
  refine wp_region_held_drew (S := fun W => W.cell? ⟨x, 0, none⟩ = some (.slice A D.length c)) (by kernel_rfl) HX4.out.c0 (fun hHeld => ?_)
  clear HX0
  generalize w.drew = w4 at *
  refine wpAnyH_take (i := 0) (v := ?v1701) rfl (by kernel_rfl) (by kernel_rfl) (by kernel_rfl) (fun _ _ _ h => h) (Or.inl ⟨by rfl, ?y1701⟩) (by assumption) ?r1701
  case y1701 => ((intro w hSw; (try dsimp only at hSw); go_simp); try with_reducible rfl)
  try simp only [Act.put, List.getElem_toArray, List.getElem_cons_zero, List.setIfInBounds_toArray, List.set_cons_zero, List.set_cons_succ]
  refine wpAnyH_take (i := 1) (v := ?v1702) rfl (by kernel_rfl) (by kernel_rfl) (by kernel_rfl) (fun _ _ _ h => h) (Or.inl ⟨by rfl, ?y1702⟩) (by assumption) ?r1702
  case y1702 => ((intro w hSw; (try dsimp only at hSw); go_simp); try with_reducible rfl)
  try simp only [Act.put, List.getElem_toArray, List.getElem_cons_succ, List.getElem_cons_zero, List.setIfInBounds_toArray, List.set_cons_zero, List.set_cons_succ]
  refine wpAnyH_take (i := 2) (v := ?v1703) rfl (by kernel_rfl) (by kernel_rfl) (by kernel_rfl) (fun _ _ _ h => h) (Or.inl ⟨by rfl, ?y1703⟩) (by assumption) ?r1703
  case y1703 => ((intro w hSw; (try dsimp only at hSw); go_simp); try with_reducible rfl)
  try simp only [Act.put, List.getElem_toArray, List.getElem_cons_succ, List.getElem_cons_zero, List.setIfInBounds_toArray, List.set_cons_zero, List.set_cons_succ]
  refine wpAnyH_take (i := 3) (v := ?v1704) rfl (by kernel_rfl) (by kernel_rfl) (by kernel_rfl) (fun _ _ _ h => h) (Or.inl ⟨by rfl, ?y1704⟩) (by assumption) ?r1704
  case y1704 => ((intro w hSw; (try dsimp only at hSw); go_simp); try with_reducible rfl)
  try simp only [Act.put, List.getElem_toArray, List.getElem_cons_succ, List.getElem_cons_zero, List.setIfInBounds_toArray, List.set_cons_zero, List.set_cons_succ]
  refine wpAnyH_take (i := 6) (v := ?v1705) rfl (by kernel_rfl) (by kernel_rfl) (by kernel_rfl) (fun _ _ _ h => h) (Or.inl ⟨by rfl, ?y1705⟩) (by assumption) ?r1705
  case y1705 => ((intro w hSw; (try dsimp only at hSw); go_simp); try with_reducible rfl)
  try simp only [Act.put, List.getElem_toArray, List.getElem_cons_succ, List.getElem_cons_zero, List.setIfInBounds_toArray, List.set_cons_zero, List.set_cons_succ]
  refine wpAnyH_take (i := 7) (v := ?v1706) rfl (by kernel_rfl) (by kernel_rfl) (by kernel_rfl) (fun _ _ _ h => h) (Or.inl ⟨by rfl, ?y1706⟩) (by assumption) ?r1706
  case y1706 => ((intro w hSw; (try dsimp only at hSw); go_simp); try with_reducible rfl)
  try simp only [Act.put, List.getElem_toArray, List.getElem_cons_succ, List.getElem_cons_zero, List.setIfInBounds_toArray, List.set_cons_zero, List.set_cons_succ]
  refine wpAnyH_take (i := 8) (v := ?v1707) rfl (by kernel_rfl) (by kernel_rfl) (by kernel_rfl) (fun _ _ _ h => h) (Or.inl ⟨by rfl, ?y1707⟩) (by assumption) ?r1707
  case y1707 => ((intro w hSw; (try dsimp only at hSw); go_simp); try with_reducible rfl)
  try simp only [Act.put, List.getElem_toArray, List.getElem_cons_succ, List.getElem_cons_zero, List.setIfInBounds_toArray, List.set_cons_zero, List.set_cons_succ]
  refine wpAnyH_take (i := 9) (v := ?v1708) rfl (by kernel_rfl) (by kernel_rfl) (by kernel_rfl) (fun _ _ _ h => h) (Or.inl ⟨by rfl, ?y1708⟩) (by assumption) ?r1708
  case y1708 => ((intro w hSw; (try dsimp only at hSw); go_simp); try with_reducible rfl)
  try simp only [Act.put, List.getElem_toArray, List.getElem_cons_succ, List.getElem_cons_zero, List.setIfInBounds_toArray, List.set_cons_zero, List.set_cons_succ]
  refine wpAnyH_ready (rs := [4, 5]) (by kernel_rfl) (by simp) ?_
  refine AllReadyH.cons rfl (fun K hK => ?_) ?_
  · have ac : w4.cell? ⟨x, 1, none⟩ = some (.slice B N.length e) := HX4.out.c1
    go_simp
    clear ac
    refine hK.out _ _ (hHeld) (fun hHeld' => ?_)
    clear hHeld
    have hHeld := hHeld'
    clear hHeld'
    clear hK K
    try simp only [Act.put, List.getElem_toArray, List.getElem_cons_succ, List.getElem_cons_zero, List.setIfInBounds_toArray, List.set_cons_zero, List.set_cons_succ]
    refine wpAnyH_ready (rs := [5]) (by kernel_rfl) (by simp) ?_
    refine AllReadyH.cons rfl (fun K hK => ?_) ?_
    · go_simp
      have hga := World.grownBy_alloc w4 (.cells #[] 2) none
      have HX5 := Lib.hid (HX4.out.grown hga)
      obtain ⟨v6, w6, hr6, ho6, hg6⟩ := copy_run w4 A c D 27 HX4.out.oC.srcL HAN.out HDL.out
      obtain ⟨A6, c6, rfl, _⟩ := ho6.form
      have HX6 := Lib.hid (HX4.out.grown hg6)
      have HR6 := Lib.hid hr6
      have HO6 := Lib.hid ho6
      refine hK.out _ _ (cell_grown hHeld hga) (fun hHeld' => ?_)
      clear hHeld
      have hHeld := hHeld'
      clear hHeld'
      clear hga hr6 ho6 hg6
      obtain ⟨g5, hg5⟩ : ∃ g5, w4.heap.size = g5 := ⟨_, rfl⟩
      have HG5 := Lib.hid hg5
      rw [hg5] at HR6 ⊢
      clear hg5
      generalize w4.alloc (.cells #[] 2) = w5 at *
      clear hK K
      try simp only [Act.put, List.getElem_toArray, List.getElem_cons_succ, List.getElem_cons_zero, List.setIfInBounds_toArray, List.set_cons_zero, List.set_cons_succ]
      refine wpAnyH_ready (rs := [10]) (by kernel_rfl) (by simp) ?_
      refine AllReadyH.cons rfl (fun K hK => ?_) ?_
      · refine step_append_run rfl (.tmp 8) (.tmp 12) 27 27 rfl _ _ rfl rfl (.slice A6 D.length c6) w6 HR6.out ?_
        refine hK.out _ _ (HX6.out.c0) (fun hHeld' => ?_)
        clear hHeld
        have hHeld := hHeld'
        clear hHeld'
        clear hK K
        try simp only [Act.put, List.getElem_toArray, List.getElem_cons_succ, List.getElem_cons_zero, List.setIfInBounds_toArray, List.set_cons_zero, List.set_cons_succ]
        refine wpAnyH_ready (rs := [11]) (by kernel_rfl) (by simp) ?_
        refine AllReadyH.cons rfl (fun K hK => ?_) ?_
        · go_simp
          have hga := World.grownBy_alloc w6 (.cells #[.slice A6 D.length c6] 27) none
          have HX7 := Lib.hid (HX6.out.grown hga)
          have HB7 := Lib.hid (heap_alloc_new w6 (.cells #[.slice A6 D.length c6] 27))
          have HO7 := Lib.hid (HO6.out.kept hga (own_or _))
          obtain ⟨v8, w8, hr8, hl8, hg8, hn8, ho8⟩ := ll_run (w6.alloc (.cells #[.slice A6 D.length c6] 27)) (.slice B N.length e) (fun k => Q k ∨ (Value.slice A D.length c).ownBlock = some k) N D A6 c6 w6.heap.size 28 HB7.out HX7.out.ll (ownsRow_zero HO7.out)
            (fun g hg q => by
              have h1 := (World.ownsRow.lt HO7.out g hg).1
              rcases q with q | q
              · have := (HX4.out.q g q).2; omega
              · have := HX4.out.clt g q; omega)
            (fun k q => by
              rcases q with q | q
              · exact (HX7.out.q k q).2
              · exact HX7.out.clt k q) HNL.out
          obtain ⟨A8, c8, hv8, _⟩ := hl8.form
          rw [List.length_append, List.length_singleton] at hv8
          subst hv8
          have HR8 := Lib.hid hr8
          have hx8 : w8.heap[x]? = some (.cells #[.slice A D.length c, .slice B N.length e] 30 (0, 0)) := (hg8.block x HX7.out.xlt (fun q => by
            have hlw := HX7.out.ll
            obtain ⟨xs, q1, _⟩ := hlw
            exact x_ne_row q1 HX7.out.hx (by decide) x q.symm rfl)).trans HX7.out.hx
          have HX8 : Hid (PX w0 w8 t cnt x C M D N Q (.slice A D.length c) (.slice B N.length e)) ∨ True := .inr trivial
          clear HX8
          have HS8 := Lib.hid hx8
          have HL8 := Lib.hid hl8
          have HK8 := Lib.hid (show Kp (fun k => ¬ (Q k ∨ (Value.slice A D.length c).ownBlock = some k)) (w6.alloc (.cells #[.slice A6 D.length c6] 27)) w8 from Kp.of_grown hg8 fun k hk => (hn8 k hk).1)
          have HK82 := Lib.hid (show Kp (fun k => w0.heap.size ≤ k) (w6.alloc (.cells #[.slice A6 D.length c6] 27)) w8 from Kp.of_grown hg8 fun k hk => HX7.out.oM k hk)
          have HO8 := Lib.hid (show ∀ g, (Value.slice A8 (N.length + 1) c8).ownBlock = some g → w0.heap.size ≤ g from fun g hg => (ho8 g hg).elim (HX7.out.oM g) (fun q => Nat.le_trans HX7.out.kp.size q))
          refine hK.out _ _ (cell_grown hHeld hga) (fun hHeld' => ?_)
          clear hHeld
          have hHeld := hHeld'
          clear hHeld'
          obtain ⟨g7, hg7⟩ : ∃ g7, w6.heap.size = g7 := ⟨_, rfl⟩
          rw [hg7] at HR8 ⊢
          clear hga hr8 hl8 hg8 hn8 ho8 hx8 hg7 HB7 HO7
          generalize w6.alloc (.cells #[.slice A6 D.length c6] 27) = w7 at *
          clear hK K
          try simp only [Act.put, List.getElem_toArray, List.getElem_cons_succ, List.getElem_cons_zero, List.setIfInBounds_toArray, List.set_cons_zero, List.set_cons_succ]
          refine wpAnyH_ready (rs := [12]) (by kernel_rfl) (by simp) ?_
          refine AllReadyH.cons rfl (fun K hK => ?_) ?_
          · refine step_append_run rfl (.tmp 7) (.tmp 14) 28 28 rfl _ _ rfl rfl (.slice A8 (N.length + 1) c8) w8 HR8.out ?_
            have HX8 : Hid (PX w0 w8 t cnt x C M D N Q (.slice A D.length c) (.slice B N.length e)) ∨ True := .inr trivial
            clear HX8
            refine hK.out _ _ (by rw [cell_of_row _ _ _ _ _ _ HS8.out]; rfl) (fun hHeld' => ?_)
            clear hHeld
            have hHeld := hHeld'
            clear hHeld'
            clear hK K
            try simp only [Act.put, List.getElem_toArray, List.getElem_cons_succ, List.getElem_cons_zero, List.setIfInBounds_toArray, List.set_cons_zero, List.set_cons_succ]
            refine wpAnyH_take (i := 13) (v := ?v1709) rfl (by kernel_rfl) (by kernel_rfl) (by kernel_rfl) (fun _ _ _ h => h) (Or.inl ⟨by rfl, ?y1709⟩) (by assumption) ?r1709
            case y1709 => ((intro w hSw; (try dsimp only at hSw); go_simp); try with_reducible rfl)
            try simp only [Act.put, List.getElem_toArray, List.getElem_cons_succ, List.getElem_cons_zero, List.setIfInBounds_toArray, List.set_cons_zero, List.set_cons_succ]
            refine wpAnyH_take (i := 14) (v := ?v1710) rfl (by kernel_rfl) (by kernel_rfl) (by kernel_rfl) (fun _ _ _ h => h) (Or.inl ⟨by rfl, ?y1710⟩) (by assumption) ?r1710
            case y1710 => ((intro w hSw; (try dsimp only at hSw); go_simp); try with_reducible rfl)
            try simp only [Act.put, List.getElem_toArray, List.getElem_cons_succ, List.getElem_cons_zero, List.setIfInBounds_toArray, List.set_cons_zero, List.set_cons_succ]
            refine wpAnyH_ready (rs := [15]) (by kernel_rfl) (by simp) ?_
            refine AllReadyH.cons rfl (fun K hK => ?_) ?_
            · have e5 : w8.cell? ⟨x, 1, none⟩ = some (.slice B N.length e) := by rw [cell_of_row _ _ _ _ _ _ HS8.out]; rfl
              have e5f : w8.frozen? ⟨x, 1, none⟩ = false := frozen_of_row _ _ _ _ _ HS8.out
              go_simp
              clear e5 e5f
              have HX9 : Hid (PX w0 (w8.setCell ⟨x, 1, none⟩ (.slice A8 (N.length + 1) c8)) t cnt x C M D (N ++ [D]) Q (.slice A D.length c) (.slice A8 (N.length + 1) c8)) := Lib.hid (by
                obtain ⟨hs, hg⟩ := xset HS8.out 1 (.slice A8 (N.length + 1) c8)
                have hst : St w8 t cnt Q C M := HX7.out.st.kept (HK8.out.mono fun k _ q p => q (.inl p))
                have hoc : OwnL w8 w0.heap.size (.slice A D.length c) D := HX7.out.oC.block fun g hg => HK8.out.block g (HX7.out.clt g hg) (fun q => q (.inr hg))
                refine ⟨hst.turn HX7.out.nx hg, hs, hoc.kept hg ?_, HX7.out.fC, HL8.out.turn HS8.out (by decide) (by decide) hg, HO8.out, HX7.out.nx, HX7.out.lx, fun k q => ⟨(HX7.out.q k q).1, Nat.lt_of_lt_of_le (HX7.out.q k q).2 (Nat.le_trans HK8.out.size hg.size)⟩, (HX7.out.kp.trans HK82.out).trans (Kp.one hg HX7.out.lx)⟩
                cases hv : (Value.slice A D.length c).ownBlock with
                | none => exact .inl rfl
                | some g => exact .inr fun e => x_ne_row (ownsRow_zero hoc) HS8.out (by decide) g hv (by injection e))
              refine hK.out _ _ (HX9.out.c0) (fun hHeld' => ?_)
              clear hHeld
              have hHeld := hHeld'
              clear hHeld'
              generalize w8.setCell ⟨x, 1, none⟩ (.slice A8 (N.length + 1) c8) = w9 at hHeld HX9 ⊢
              clear hK K
              try simp only [Act.put, List.getElem_toArray, List.getElem_cons_succ, List.getElem_cons_zero, List.setIfInBounds_toArray, List.set_cons_zero, List.set_cons_succ]
              refine wpAnyH_done (by kernel_rfl) ?_ _
              refine NoPanic.normal ?_
              clear hHeld
              have c1 := HX9.out.c1
              have hnl : (N.length : Int) ≤ 100000 := by have := HNL.out; omega
              go_wp2_with fail
              go_ret
              exact ⟨sret_i64 (by omega), Q, _, _, HX9.out⟩
            exact AllReadyH.nil
          exact AllReadyH.nil
        exact AllReadyH.nil
      exact AllReadyH.nil
    exact AllReadyH.nil
  refine AllReadyH.cons rfl (fun K hK => ?_) ?_
  · go_simp
    have hga := World.grownBy_alloc w4 (.cells #[] 2) none
    have HX5 := Lib.hid (HX4.out.grown hga)
    obtain ⟨v6, w6, hr6, ho6, hg6⟩ := copy_run w4 A c D 27 HX4.out.oC.srcL HAN.out HDL.out
    obtain ⟨A6, c6, rfl, _⟩ := ho6.form
    have HX6 := Lib.hid (HX4.out.grown hg6)
    have HR6 := Lib.hid hr6
    have HO6 := Lib.hid ho6
    refine hK.out _ _ (cell_grown hHeld hga) (fun hHeld' => ?_)
    clear hHeld
    have hHeld := hHeld'
    clear hHeld'
    clear hga hr6 ho6 hg6
    obtain ⟨g5, hg5⟩ : ∃ g5, w4.heap.size = g5 := ⟨_, rfl⟩
    have HG5 := Lib.hid hg5
    rw [hg5] at HR6 ⊢
    clear hg5
    generalize w4.alloc (.cells #[] 2) = w5 at *
    clear hK K
    try simp only [Act.put, List.getElem_toArray, List.getElem_cons_succ, List.getElem_cons_zero, List.setIfInBounds_toArray, List.set_cons_zero, List.set_cons_succ]
    refine wpAnyH_ready (rs := [4, 10]) (by kernel_rfl) (by simp) ?_
    refine AllReadyH.cons rfl (fun K hK => ?_) ?_
    · have ac : w5.cell? ⟨x, 1, none⟩ = some (.slice B N.length e) := HX5.out.c1
      go_simp
      clear ac
      refine hK.out _ _ (hHeld) (fun hHeld' => ?_)
      clear hHeld
      have hHeld := hHeld'
      clear hHeld'
      clear hK K
      try simp only [Act.put, List.getElem_toArray, List.getElem_cons_succ, List.getElem_cons_zero, List.setIfInBounds_toArray, List.set_cons_zero, List.set_cons_succ]
      refine wpAnyH_ready (rs := [10]) (by kernel_rfl) (by simp) ?_
      refine AllReadyH.cons rfl (fun K hK => ?_) ?_
      · refine step_append_run rfl (.tmp 8) (.tmp 12) 27 27 rfl _ _ rfl rfl (.slice A6 D.length c6) w6 HR6.out ?_
        refine hK.out _ _ (HX6.out.c0) (fun hHeld' => ?_)
        clear hHeld
        have hHeld := hHeld'
        clear hHeld'
        clear hK K
        try simp only [Act.put, List.getElem_toArray, List.getElem_cons_succ, List.getElem_cons_zero, List.setIfInBounds_toArray, List.set_cons_zero, List.set_cons_succ]
        refine wpAnyH_ready (rs := [11]) (by kernel_rfl) (by simp) ?_
        refine AllReadyH.cons rfl (fun K hK => ?_) ?_
        · go_simp
          have hga := World.grownBy_alloc w6 (.cells #[.slice A6 D.length c6] 27) none
          have HX7 := Lib.hid (HX6.out.grown hga)
          have HB7 := Lib.hid (heap_alloc_new w6 (.cells #[.slice A6 D.length c6] 27))
          have HO7 := Lib.hid (HO6.out.kept hga (own_or _))
          obtain ⟨v8, w8, hr8, hl8, hg8, hn8, ho8⟩ := ll_run (w6.alloc (.cells #[.slice A6 D.length c6] 27)) (.slice B N.length e) (fun k => Q k ∨ (Value.slice A D.length c).ownBlock = some k) N D A6 c6 w6.heap.size 28 HB7.out HX7.out.ll (ownsRow_zero HO7.out)
            (fun g hg q => by
              have h1 := (World.ownsRow.lt HO7.out g hg).1
              rcases q with q | q
              · have := (HX4.out.q g q).2; omega
              · have := HX4.out.clt g q; omega)
            (fun k q => by
              rcases q with q | q
              · exact (HX7.out.q k q).2
              · exact HX7.out.clt k q) HNL.out
          obtain ⟨A8, c8, hv8, _⟩ := hl8.form
          rw [List.length_append, List.length_singleton] at hv8
          subst hv8
          have HR8 := Lib.hid hr8
          have hx8 : w8.heap[x]? = some (.cells #[.slice A D.length c, .slice B N.length e] 30 (0, 0)) := (hg8.block x HX7.out.xlt (fun q => by
            have hlw := HX7.out.ll
            obtain ⟨xs, q1, _⟩ := hlw
            exact x_ne_row q1 HX7.out.hx (by decide) x q.symm rfl)).trans HX7.out.hx
          have HX8 : Hid (PX w0 w8 t cnt x C M D N Q (.slice A D.length c) (.slice B N.length e)) ∨ True := .inr trivial
          clear HX8
          have HS8 := Lib.hid hx8
          have HL8 := Lib.hid hl8
          have HK8 := Lib.hid (show Kp (fun k => ¬ (Q k ∨ (Value.slice A D.length c).ownBlock = some k)) (w6.alloc (.cells #[.slice A6 D.length c6] 27)) w8 from Kp.of_grown hg8 fun k hk => (hn8 k hk).1)
          have HK82 := Lib.hid (show Kp (fun k => w0.heap.size ≤ k) (w6.alloc (.cells #[.slice A6 D.length c6] 27)) w8 from Kp.of_grown hg8 fun k hk => HX7.out.oM k hk)
          have HO8 := Lib.hid (show ∀ g, (Value.slice A8 (N.length + 1) c8).ownBlock = some g → w0.heap.size ≤ g from fun g hg => (ho8 g hg).elim (HX7.out.oM g) (fun q => Nat.le_trans HX7.out.kp.size q))
          refine hK.out _ _ (cell_grown hHeld hga) (fun hHeld' => ?_)
          clear hHeld
          have hHeld := hHeld'
          clear hHeld'
          obtain ⟨g7, hg7⟩ : ∃ g7, w6.heap.size = g7 := ⟨_, rfl⟩
          rw [hg7] at HR8 ⊢
          clear hga hr8 hl8 hg8 hn8 ho8 hx8 hg7 HB7 HO7
          generalize w6.alloc (.cells #[.slice A6 D.length c6] 27) = w7 at *
          clear hK K
          try simp only [Act.put, List.getElem_toArray, List.getElem_cons_succ, List.getElem_cons_zero, List.setIfInBounds_toArray, List.set_cons_zero, List.set_cons_succ]
          refine wpAnyH_ready (rs := [12]) (by kernel_rfl) (by simp) ?_
          refine AllReadyH.cons rfl (fun K hK => ?_) ?_
          · refine step_append_run rfl (.tmp 7) (.tmp 14) 28 28 rfl _ _ rfl rfl (.slice A8 (N.length + 1) c8) w8 HR8.out ?_
            have HX8 : Hid (PX w0 w8 t cnt x C M D N Q (.slice A D.length c) (.slice B N.length e)) ∨ True := .inr trivial
            clear HX8
            refine hK.out _ _ (by rw [cell_of_row _ _ _ _ _ _ HS8.out]; rfl) (fun hHeld' => ?_)
            clear hHeld
            have hHeld := hHeld'
            clear hHeld'
            clear hK K
            try simp only [Act.put, List.getElem_toArray, List.getElem_cons_succ, List.getElem_cons_zero, List.setIfInBounds_toArray, List.set_cons_zero, List.set_cons_succ]
            refine wpAnyH_take (i := 13) (v := ?v1711) rfl (by kernel_rfl) (by kernel_rfl) (by kernel_rfl) (fun _ _ _ h => h) (Or.inl ⟨by rfl, ?y1711⟩) (by assumption) ?r1711
            case y1711 => ((intro w hSw; (try dsimp only at hSw); go_simp); try with_reducible rfl)
            try simp only [Act.put, List.getElem_toArray, List.getElem_cons_succ, List.getElem_cons_zero, List.setIfInBounds_toArray, List.set_cons_zero, List.set_cons_succ]
            refine wpAnyH_take (i := 14) (v := ?v1712) rfl (by kernel_rfl) (by kernel_rfl) (by kernel_rfl) (fun _ _ _ h => h) (Or.inl ⟨by rfl, ?y1712⟩) (by assumption) ?r1712
            case y1712 => ((intro w hSw; (try dsimp only at hSw); go_simp); try with_reducible rfl)
            try simp only [Act.put, List.getElem_toArray, List.getElem_cons_succ, List.getElem_cons_zero, List.setIfInBounds_toArray, List.set_cons_zero, List.set_cons_succ]
            refine wpAnyH_ready (rs := [15]) (by kernel_rfl) (by simp) ?_
            refine AllReadyH.cons rfl (fun K hK => ?_) ?_
            · have e5 : w8.cell? ⟨x, 1, none⟩ = some (.slice B N.length e) := by rw [cell_of_row _ _ _ _ _ _ HS8.out]; rfl
              have e5f : w8.frozen? ⟨x, 1, none⟩ = false := frozen_of_row _ _ _ _ _ HS8.out
              go_simp
              clear e5 e5f
              have HX9 : Hid (PX w0 (w8.setCell ⟨x, 1, none⟩ (.slice A8 (N.length + 1) c8)) t cnt x C M D (N ++ [D]) Q (.slice A D.length c) (.slice A8 (N.length + 1) c8)) := Lib.hid (by
                obtain ⟨hs, hg⟩ := xset HS8.out 1 (.slice A8 (N.length + 1) c8)
                have hst : St w8 t cnt Q C M := HX7.out.st.kept (HK8.out.mono fun k _ q p => q (.inl p))
                have hoc : OwnL w8 w0.heap.size (.slice A D.length c) D := HX7.out.oC.block fun g hg => HK8.out.block g (HX7.out.clt g hg) (fun q => q (.inr hg))
                refine ⟨hst.turn HX7.out.nx hg, hs, hoc.kept hg ?_, HX7.out.fC, HL8.out.turn HS8.out (by decide) (by decide) hg, HO8.out, HX7.out.nx, HX7.out.lx, fun k q => ⟨(HX7.out.q k q).1, Nat.lt_of_lt_of_le (HX7.out.q k q).2 (Nat.le_trans HK8.out.size hg.size)⟩, (HX7.out.kp.trans HK82.out).trans (Kp.one hg HX7.out.lx)⟩
                cases hv : (Value.slice A D.length c).ownBlock with
                | none => exact .inl rfl
                | some g => exact .inr fun e => x_ne_row (ownsRow_zero hoc) HS8.out (by decide) g hv (by injection e))
              refine hK.out _ _ (HX9.out.c0) (fun hHeld' => ?_)
              clear hHeld
              have hHeld := hHeld'
              clear hHeld'
              generalize w8.setCell ⟨x, 1, none⟩ (.slice A8 (N.length + 1) c8) = w9 at hHeld HX9 ⊢
              clear hK K
              try simp only [Act.put, List.getElem_toArray, List.getElem_cons_succ, List.getElem_cons_zero, List.setIfInBounds_toArray, List.set_cons_zero, List.set_cons_succ]
              refine wpAnyH_done (by kernel_rfl) ?_ _
              refine NoPanic.normal ?_
              clear hHeld
              have c1 := HX9.out.c1
              have hnl : (N.length : Int) ≤ 100000 := by have := HNL.out; omega
              go_wp2_with fail
              go_ret
              exact ⟨sret_i64 (by omega), Q, _, _, HX9.out⟩
            exact AllReadyH.nil
          exact AllReadyH.nil
        exact AllReadyH.nil
      exact AllReadyH.nil
    refine AllReadyH.cons rfl (fun K hK => ?_) ?_
    · refine step_append_run rfl (.tmp 8) (.tmp 12) 27 27 rfl _ _ rfl rfl (.slice A6 D.length c6) w6 HR6.out ?_
      refine hK.out _ _ (HX6.out.c0) (fun hHeld' => ?_)
      clear hHeld
      have hHeld := hHeld'
      clear hHeld'
      clear hK K
      try simp only [Act.put, List.getElem_toArray, List.getElem_cons_succ, List.getElem_cons_zero, List.setIfInBounds_toArray, List.set_cons_zero, List.set_cons_succ]
      refine wpAnyH_ready (rs := [4, 11]) (by kernel_rfl) (by simp) ?_
      refine AllReadyH.cons rfl (fun K hK => ?_) ?_
      · have ac : w6.cell? ⟨x, 1, none⟩ = some (.slice B N.length e) := HX6.out.c1
        go_simp
        clear ac
        refine hK.out _ _ (hHeld) (fun hHeld' => ?_)
        clear hHeld
        have hHeld := hHeld'
        clear hHeld'
        clear hK K
        try simp only [Act.put, List.getElem_toArray, List.getElem_cons_succ, List.getElem_cons_zero, List.setIfInBounds_toArray, List.set_cons_zero, List.set_cons_succ]
        refine wpAnyH_ready (rs := [11]) (by kernel_rfl) (by simp) ?_
        refine AllReadyH.cons rfl (fun K hK => ?_) ?_
        · go_simp
          have hga := World.grownBy_alloc w6 (.cells #[.slice A6 D.length c6] 27) none
          have HX7 := Lib.hid (HX6.out.grown hga)
          have HB7 := Lib.hid (heap_alloc_new w6 (.cells #[.slice A6 D.length c6] 27))
          have HO7 := Lib.hid (HO6.out.kept hga (own_or _))
          obtain ⟨v8, w8, hr8, hl8, hg8, hn8, ho8⟩ := ll_run (w6.alloc (.cells #[.slice A6 D.length c6] 27)) (.slice B N.length e) (fun k => Q k ∨ (Value.slice A D.length c).ownBlock = some k) N D A6 c6 w6.heap.size 28 HB7.out HX7.out.ll (ownsRow_zero HO7.out)
            (fun g hg q => by
              have h1 := (World.ownsRow.lt HO7.out g hg).1
              rcases q with q | q
              · have := (HX4.out.q g q).2; omega
              · have := HX4.out.clt g q; omega)
            (fun k q => by
              rcases q with q | q
              · exact (HX7.out.q k q).2
              · exact HX7.out.clt k q) HNL.out
          obtain ⟨A8, c8, hv8, _⟩ := hl8.form
          rw [List.length_append, List.length_singleton] at hv8
          subst hv8
          have HR8 := Lib.hid hr8
          have hx8 : w8.heap[x]? = some (.cells #[.slice A D.length c, .slice B N.length e] 30 (0, 0)) := (hg8.block x HX7.out.xlt (fun q => by
            have hlw := HX7.out.ll
            obtain ⟨xs, q1, _⟩ := hlw
            exact x_ne_row q1 HX7.out.hx (by decide) x q.symm rfl)).trans HX7.out.hx
          have HX8 : Hid (PX w0 w8 t cnt x C M D N Q (.slice A D.length c) (.slice B N.length e)) ∨ True := .inr trivial
          clear HX8
          have HS8 := Lib.hid hx8
          have HL8 := Lib.hid hl8
          have HK8 := Lib.hid (show Kp (fun k => ¬ (Q k ∨ (Value.slice A D.length c).ownBlock = some k)) (w6.alloc (.cells #[.slice A6 D.length c6] 27)) w8 from Kp.of_grown hg8 fun k hk => (hn8 k hk).1)
          have HK82 := Lib.hid (show Kp (fun k => w0.heap.size ≤ k) (w6.alloc (.cells #[.slice A6 D.length c6] 27)) w8 from Kp.of_grown hg8 fun k hk => HX7.out.oM k hk)
          have HO8 := Lib.hid (show ∀ g, (Value.slice A8 (N.length + 1) c8).ownBlock = some g → w0.heap.size ≤ g from fun g hg => (ho8 g hg).elim (HX7.out.oM g) (fun q => Nat.le_trans HX7.out.kp.size q))
          refine hK.out _ _ (cell_grown hHeld hga) (fun hHeld' => ?_)
          clear hHeld
          have hHeld := hHeld'
          clear hHeld'
          obtain ⟨g7, hg7⟩ : ∃ g7, w6.heap.size = g7 := ⟨_, rfl⟩
          rw [hg7] at HR8 ⊢
          clear hga hr8 hl8 hg8 hn8 ho8 hx8 hg7 HB7 HO7
          generalize w6.alloc (.cells #[.slice A6 D.length c6] 27) = w7 at *
          clear hK K
          try simp only [Act.put, List.getElem_toArray, List.getElem_cons_succ, List.getElem_cons_zero, List.setIfInBounds_toArray, List.set_cons_zero, List.set_cons_succ]
          refine wpAnyH_ready (rs := [12]) (by kernel_rfl) (by simp) ?_
          refine AllReadyH.cons rfl (fun K hK => ?_) ?_
          · refine step_append_run rfl (.tmp 7) (.tmp 14) 28 28 rfl _ _ rfl rfl (.slice A8 (N.length + 1) c8) w8 HR8.out ?_
            have HX8 : Hid (PX w0 w8 t cnt x C M D N Q (.slice A D.length c) (.slice B N.length e)) ∨ True := .inr trivial
            clear HX8
            refine hK.out _ _ (by rw [cell_of_row _ _ _ _ _ _ HS8.out]; rfl) (fun hHeld' => ?_)
            clear hHeld
            have hHeld := hHeld'
            clear hHeld'
            clear hK K
            try simp only [Act.put, List.getElem_toArray, List.getElem_cons_succ, List.getElem_cons_zero, List.setIfInBounds_toArray, List.set_cons_zero, List.set_cons_succ]
            refine wpAnyH_take (i := 13) (v := ?v1713) rfl (by kernel_rfl) (by kernel_rfl) (by kernel_rfl) (fun _ _ _ h => h) (Or.inl ⟨by rfl, ?y1713⟩) (by assumption) ?r1713
            case y1713 => ((intro w hSw; (try dsimp only at hSw); go_simp); try with_reducible rfl)
            try simp only [Act.put, List.getElem_toArray, List.getElem_cons_succ, List.getElem_cons_zero, List.setIfInBounds_toArray, List.set_cons_zero, List.set_cons_succ]
            refine wpAnyH_take (i := 14) (v := ?v1714) rfl (by kernel_rfl) (by kernel_rfl) (by kernel_rfl) (fun _ _ _ h => h) (Or.inl ⟨by rfl, ?y1714⟩) (by assumption) ?r1714
            case y1714 => ((intro w hSw; (try dsimp only at hSw); go_simp); try with_reducible rfl)
            try simp only [Act.put, List.getElem_toArray, List.getElem_cons_succ, List.getElem_cons_zero, List.setIfInBounds_toArray, List.set_cons_zero, List.set_cons_succ]
            refine wpAnyH_ready (rs := [15]) (by kernel_rfl) (by simp) ?_
            refine AllReadyH.cons rfl (fun K hK => ?_) ?_
            · have e5 : w8.cell? ⟨x, 1, none⟩ = some (.slice B N.length e) := by rw [cell_of_row _ _ _ _ _ _ HS8.out]; rfl
              have e5f : w8.frozen? ⟨x, 1, none⟩ = false := frozen_of_row _ _ _ _ _ HS8.out
              go_simp
              clear e5 e5f
              have HX9 : Hid (PX w0 (w8.setCell ⟨x, 1, none⟩ (.slice A8 (N.length + 1) c8)) t cnt x C M D (N ++ [D]) Q (.slice A D.length c) (.slice A8 (N.length + 1) c8)) := Lib.hid (by
                obtain ⟨hs, hg⟩ := xset HS8.out 1 (.slice A8 (N.length + 1) c8)
                have hst : St w8 t cnt Q C M := HX7.out.st.kept (HK8.out.mono fun k _ q p => q (.inl p))
                have hoc : OwnL w8 w0.heap.size (.slice A D.length c) D := HX7.out.oC.block fun g hg => HK8.out.block g (HX7.out.clt g hg) (fun q => q (.inr hg))
                refine ⟨hst.turn HX7.out.nx hg, hs, hoc.kept hg ?_, HX7.out.fC, HL8.out.turn HS8.out (by decide) (by decide) hg, HO8.out, HX7.out.nx, HX7.out.lx, fun k q => ⟨(HX7.out.q k q).1, Nat.lt_of_lt_of_le (HX7.out.q k q).2 (Nat.le_trans HK8.out.size hg.size)⟩, (HX7.out.kp.trans HK82.out).trans (Kp.one hg HX7.out.lx)⟩
                cases hv : (Value.slice A D.length c).ownBlock with
                | none => exact .inl rfl
                | some g => exact .inr fun e => x_ne_row (ownsRow_zero hoc) HS8.out (by decide) g hv (by injection e))
              refine hK.out _ _ (HX9.out.c0) (fun hHeld' => ?_)
              clear hHeld
              have hHeld := hHeld'
              clear hHeld'
              generalize w8.setCell ⟨x, 1, none⟩ (.slice A8 (N.length + 1) c8) = w9 at hHeld HX9 ⊢
              clear hK K
              try simp only [Act.put, List.getElem_toArray, List.getElem_cons_succ, List.getElem_cons_zero, List.setIfInBounds_toArray, List.set_cons_zero, List.set_cons_succ]
              refine wpAnyH_done (by kernel_rfl) ?_ _
              refine NoPanic.normal ?_
              clear hHeld
              have c1 := HX9.out.c1
              have hnl : (N.length : Int) ≤ 100000 := by have := HNL.out; omega
              go_wp2_with fail
              go_ret
              exact ⟨sret_i64 (by omega), Q, _, _, HX9.out⟩
            exact AllReadyH.nil
          exact AllReadyH.nil
        exact AllReadyH.nil
      refine AllReadyH.cons rfl (fun K hK => ?_) ?_
      · go_simp
        have hga := World.grownBy_alloc w6 (.cells #[.slice A6 D.length c6] 27) none
        have HX7 := Lib.hid (HX6.out.grown hga)
        have HB7 := Lib.hid (heap_alloc_new w6 (.cells #[.slice A6 D.length c6] 27))
        have HO7 := Lib.hid (HO6.out.kept hga (own_or _))
        obtain ⟨v8, w8, hr8, hl8, hg8, hn8, ho8⟩ := ll_run (w6.alloc (.cells #[.slice A6 D.length c6] 27)) (.slice B N.length e) (fun k => Q k ∨ (Value.slice A D.length c).ownBlock = some k) N D A6 c6 w6.heap.size 28 HB7.out HX7.out.ll (ownsRow_zero HO7.out)
          (fun g hg q => by
            have h1 := (World.ownsRow.lt HO7.out g hg).1
            rcases q with q | q
            · have := (HX4.out.q g q).2; omega
            · have := HX4.out.clt g q; omega)
          (fun k q => by
            rcases q with q | q
            · exact (HX7.out.q k q).2
            · exact HX7.out.clt k q) HNL.out
        obtain ⟨A8, c8, hv8, _⟩ := hl8.form
        rw [List.length_append, List.length_singleton] at hv8
        subst hv8
        have HR8 := Lib.hid hr8
        have hx8 : w8.heap[x]? = some (.cells #[.slice A D.length c, .slice B N.length e] 30 (0, 0)) := (hg8.block x HX7.out.xlt (fun q => by
          have hlw := HX7.out.ll
          obtain ⟨xs, q1, _⟩ := hlw
          exact x_ne_row q1 HX7.out.hx (by decide) x q.symm rfl)).trans HX7.out.hx
        have HX8 : Hid (PX w0 w8 t cnt x C M D N Q (.slice A D.length c) (.slice B N.length e)) ∨ True := .inr trivial
        clear HX8
        have HS8 := Lib.hid hx8
        have HL8 := Lib.hid hl8
        have HK8 := Lib.hid (show Kp (fun k => ¬ (Q k ∨ (Value.slice A D.length c).ownBlock = some k)) (w6.alloc (.cells #[.slice A6 D.length c6] 27)) w8 from Kp.of_grown hg8 fun k hk => (hn8 k hk).1)
        have HK82 := Lib.hid (show Kp (fun k => w0.heap.size ≤ k) (w6.alloc (.cells #[.slice A6 D.length c6] 27)) w8 from Kp.of_grown hg8 fun k hk => HX7.out.oM k hk)
        have HO8 := Lib.hid (show ∀ g, (Value.slice A8 (N.length + 1) c8).ownBlock = some g → w0.heap.size ≤ g from fun g hg => (ho8 g hg).elim (HX7.out.oM g) (fun q => Nat.le_trans HX7.out.kp.size q))
        refine hK.out _ _ (cell_grown hHeld hga) (fun hHeld' => ?_)
        clear hHeld
        have hHeld := hHeld'
        clear hHeld'
        obtain ⟨g7, hg7⟩ : ∃ g7, w6.heap.size = g7 := ⟨_, rfl⟩
        rw [hg7] at HR8 ⊢
        clear hga hr8 hl8 hg8 hn8 ho8 hx8 hg7 HB7 HO7
        generalize w6.alloc (.cells #[.slice A6 D.length c6] 27) = w7 at *
        clear hK K
        try simp only [Act.put, List.getElem_toArray, List.getElem_cons_succ, List.getElem_cons_zero, List.setIfInBounds_toArray, List.set_cons_zero, List.set_cons_succ]
        refine wpAnyH_ready (rs := [4]) (by kernel_rfl) (by simp) ?_
        refine AllReadyH.cons rfl (fun K hK => ?_) ?_
        · have ac : w7.cell? ⟨x, 1, none⟩ = some (.slice B N.length e) := HX7.out.c1
          go_simp
          clear ac
          refine hK.out _ _ (hHeld) (fun hHeld' => ?_)
          clear hHeld
          have hHeld := hHeld'
          clear hHeld'
          clear hK K
          try simp only [Act.put, List.getElem_toArray, List.getElem_cons_succ, List.getElem_cons_zero, List.setIfInBounds_toArray, List.set_cons_zero, List.set_cons_succ]
          refine wpAnyH_ready (rs := [12]) (by kernel_rfl) (by simp) ?_
          refine AllReadyH.cons rfl (fun K hK => ?_) ?_
          · refine step_append_run rfl (.tmp 7) (.tmp 14) 28 28 rfl _ _ rfl rfl (.slice A8 (N.length + 1) c8) w8 HR8.out ?_
            have HX8 : Hid (PX w0 w8 t cnt x C M D N Q (.slice A D.length c) (.slice B N.length e)) ∨ True := .inr trivial
            clear HX8
            refine hK.out _ _ (by rw [cell_of_row _ _ _ _ _ _ HS8.out]; rfl) (fun hHeld' => ?_)
            clear hHeld
            have hHeld := hHeld'
            clear hHeld'
            clear hK K
            try simp only [Act.put, List.getElem_toArray, List.getElem_cons_succ, List.getElem_cons_zero, List.setIfInBounds_toArray, List.set_cons_zero, List.set_cons_succ]
            refine wpAnyH_take (i := 13) (v := ?v1715) rfl (by kernel_rfl) (by kernel_rfl) (by kernel_rfl) (fun _ _ _ h => h) (Or.inl ⟨by rfl, ?y1715⟩) (by assumption) ?r1715
            case y1715 => ((intro w hSw; (try dsimp only at hSw); go_simp); try with_reducible rfl)
            try simp only [Act.put, List.getElem_toArray, List.getElem_cons_succ, List.getElem_cons_zero, List.setIfInBounds_toArray, List.set_cons_zero, List.set_cons_succ]
            refine wpAnyH_take (i := 14) (v := ?v1716) rfl (by kernel_rfl) (by kernel_rfl) (by kernel_rfl) (fun _ _ _ h => h) (Or.inl ⟨by rfl, ?y1716⟩) (by assumption) ?r1716
            case y1716 => ((intro w hSw; (try dsimp only at hSw); go_simp); try with_reducible rfl)
            try simp only [Act.put, List.getElem_toArray, List.getElem_cons_succ, List.getElem_cons_zero, List.setIfInBounds_toArray, List.set_cons_zero, List.set_cons_succ]
            refine wpAnyH_ready (rs := [15]) (by kernel_rfl) (by simp) ?_
            refine AllReadyH.cons rfl (fun K hK => ?_) ?_
            · have e5 : w8.cell? ⟨x, 1, none⟩ = some (.slice B N.length e) := by rw [cell_of_row _ _ _ _ _ _ HS8.out]; rfl
              have e5f : w8.frozen? ⟨x, 1, none⟩ = false := frozen_of_row _ _ _ _ _ HS8.out
              go_simp
              clear e5 e5f
              have HX9 : Hid (PX w0 (w8.setCell ⟨x, 1, none⟩ (.slice A8 (N.length + 1) c8)) t cnt x C M D (N ++ [D]) Q (.slice A D.length c) (.slice A8 (N.length + 1) c8)) := Lib.hid (by
                obtain ⟨hs, hg⟩ := xset HS8.out 1 (.slice A8 (N.length + 1) c8)
                have hst : St w8 t cnt Q C M := HX7.out.st.kept (HK8.out.mono fun k _ q p => q (.inl p))
                have hoc : OwnL w8 w0.heap.size (.slice A D.length c) D := HX7.out.oC.block fun g hg => HK8.out.block g (HX7.out.clt g hg) (fun q => q (.inr hg))
                refine ⟨hst.turn HX7.out.nx hg, hs, hoc.kept hg ?_, HX7.out.fC, HL8.out.turn HS8.out (by decide) (by decide) hg, HO8.out, HX7.out.nx, HX7.out.lx, fun k q => ⟨(HX7.out.q k q).1, Nat.lt_of_lt_of_le (HX7.out.q k q).2 (Nat.le_trans HK8.out.size hg.size)⟩, (HX7.out.kp.trans HK82.out).trans (Kp.one hg HX7.out.lx)⟩
                cases hv : (Value.slice A D.length c).ownBlock with
                | none => exact .inl rfl
                | some g => exact .inr fun e => x_ne_row (ownsRow_zero hoc) HS8.out (by decide) g hv (by injection e))
              refine hK.out _ _ (HX9.out.c0) (fun hHeld' => ?_)
              clear hHeld
              have hHeld := hHeld'
              clear hHeld'
              generalize w8.setCell ⟨x, 1, none⟩ (.slice A8 (N.length + 1) c8) = w9 at hHeld HX9 ⊢
              clear hK K
              try simp only [Act.put, List.getElem_toArray, List.getElem_cons_succ, List.getElem_cons_zero, List.setIfInBounds_toArray, List.set_cons_zero, List.set_cons_succ]
              refine wpAnyH_done (by kernel_rfl) ?_ _
              refine NoPanic.normal ?_
              clear hHeld
              have c1 := HX9.out.c1
              have hnl : (N.length : Int) ≤ 100000 := by have := HNL.out; omega
              go_wp2_with fail
              go_ret
              exact ⟨sret_i64 (by omega), Q, _, _, HX9.out⟩
            exact AllReadyH.nil
          exact AllReadyH.nil
        exact AllReadyH.nil
      exact AllReadyH.nil
    exact AllReadyH.nil
  exact AllReadyH.nil
end Go.Proofs.Ytafcecacldafgaa
