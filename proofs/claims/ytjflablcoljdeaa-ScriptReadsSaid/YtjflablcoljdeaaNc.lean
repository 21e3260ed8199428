/- Contract of script.Read (no statement of its own). -/
import Derived.Test.YtjflablcoljdeaaNb
namespace Go.Proofs.Ytjflablcoljdeaa
open Go.RowKit Go.Shelf
set_option linter.unusedVariables false
attribute [local go_sem] Oper.semAt_some
theorem row_below {w w' : World} {base e size n : Nat} {v : Value} {xs : List Value} (h : w.ownsRow base e size v n xs) (hb : Below w.heap.size w w') : w'.ownsRow base e size v n xs := by
  obtain ⟨h1, ⟨rfl, hn⟩ | ⟨g, cap, cur, rfl, hb', hh, hm, hx, hs, ht⟩⟩ := h
  · exact ⟨h1, .inl ⟨rfl, hn⟩⟩
  · refine ⟨h1, .inr ⟨g, cap, cur, rfl, hb', ?_, hm, hx, hs, ht⟩⟩
    rw [hb.block g (Array.getElem?_eq_some_iff.1 hh).1]
    exact hh
theorem box_below {w w' : World} {B : Nat} {t : TypeId} {v : Value} (h : Boxed w B t v) (hb : Below w.heap.size w w') : Boxed w' B t v := (hb.block B h.lt).trans h
/-- The cells of operations, one behind the other. -/
def cellsO (ps : List (List Nat)) : List Value := ps.flatMap fun p => (opC p).toList
theorem cellsO_snoc (ps : List (List Nat)) (p : List Nat) : cellsO (ps ++ [p]) = cellsO ps ++ (opC p).toList := by simp [cellsO]
theorem opC_take (l : List Nat) : opC (l.take 6) = opC l := by simp [opC, nth_take]
abbrev preL {n : Nat} (L : List Nat) (pre : List (Fin n)) : List (List Nat) := pre.map fun x => L.drop x.val
theorem info_op : (Try.prog.info? 32).map (fun i => (i.zero, i.size, i.bytes)) = some (some (.agg #[.int .i64 0, .int .i64 0, .int .i64 0, .int .i64 0, .int .i64 0]), 5, 40) := by kernel_rfl
theorem opC_one (p : List Nat) : ∀ u ∈ (opC p).toList, u.oneCell' = true := by
  intro u hu
  simp at hu
  rcases hu with rfl | rfl | rfl | rfl | rfl <;> rfl
theorem lit_op (W : World) (p : List Nat) (t : TypeId) : ∀ j u, (opC p).toList[j]? = some u → (W.alloc (.cells (opC p) t)).cell? ((⟨W.heap.size, 0, none⟩ : Addr).add j) = some u := by
  intro j u hu
  have hr := heap_alloc_new W (.cells (opC p) t)
  have e : ((⟨W.heap.size, 0, none⟩ : Addr).add j) = ⟨W.heap.size, j, none⟩ := by (simp [Addr.add]; omega)
  rw [e, cell_of_row _ _ _ _ _ _ hr, ← hu, Array.getElem?_toList]
/-- append of one operation, as a step. -/
theorem pushO_step {t e : TypeId} {ops : Array Oper} {o : Oper} {a : Act} {K : Act → World → Prop} {Q : Exit → Act → World → Prop} {E : Prop} (ht : Try.prog.underlying t = some (.slice e))
    (hi0 : (Try.prog.info? e).map (fun i => (i.zero, i.size, i.bytes)) = some (some (.agg #[.int .i64 0, .int .i64 0, .int .i64 0, .int .i64 0, .int .i64 0]), 5, 40)) (hgd : o.guard = none) (s x : Operand)
    (ho : o.op = .call { callee := .builtin .append, args := #[s, x], argTypes := #[t, t] })
    (W : World) (base : Nat) (v : Value) (k : Nat) (xs : List Value) (ad : Addr) (p : List Nat) (hs : a.eval s = v) (hx : a.eval x = .slice (some ad) 1 1)
    (hown : W.ownsRow base e 5 v k xs) (hy : ∀ j u, (opC p).toList[j]? = some u → W.cell? (ad.add j) = some u) (hbase : base ≤ W.heap.size) (hl : k ≤ 1000000)
    (h : ∀ v' w', w'.ownsRow base e 5 v' (k + 1) (xs ++ (opC p).toList) → W.grownBy w' v.ownBlock → K (a.put o.dst v') w') :
    if Region.wanted o (yielded ops a.tmps) = true then Oper.wp Try.prog o a W K Q else E := by
  have hw : Region.wanted o (yielded ops a.tmps) = true := by simp [Region.wanted, hgd]
  rw [if_pos hw]
  obtain ⟨i0, hi, hz0, hz1, hz2⟩ := info_parts hi0
  obtain ⟨v', w', hr, h1, h2, -⟩ := run_append_own W base t o.type e i0 _ 5 40 ht hi hz0 hz1 hz2 rfl (by decide) v k xs hown ad 1 1 _ rfl hy (opC_one p) (by unfold maxLen; omega) (by omega) hbase
  unfold Oper.wp
  simp only [execOp, ho]
  simp [resolve, invoke, builtin, hs, hx, hr, Result.andThen]
  exact h v' w' h1 h2
set_option maxRecDepth 100000 in
set_option maxHeartbeats 4000000 in
theorem readS_in (m : Nat) (hm : 3 ≤ m) (A : Option Addr) (n c : Nat) (L : List Nat) (w : World) (hl : L.length = n) (hn : n ≤ 1000000) (hc : n ≤ c) (hL : By w A L) (h8 : ∀ b ∈ L, b < 256) :
    CallsIn Fence.wide m Try.prog 6 #[.slice A n c] w fun e W' => ∃ v, e = .returned v ∧ W'.ownsRow w.heap.size 32 5 v ((n + 5) / 6) (cellsO ((firstL ((n + 5) / 6)).map fun i => L.drop i)) ∧ Below w.heap.size w W' := by
  have h1 : 1 ≤ m := by omega
  obtain ⟨g, o, hgo⟩ : ∃ g o, 0 < n → A = some ⟨g, o, none⟩ := by
    by_cases h0 : 0 < n
    · obtain ⟨g, o, e, _⟩ := hL.at_ (i := 0) (by omega)
      exact ⟨g, o, fun _ => e⟩
    · exact ⟨0, 0, fun h => absurd h h0⟩
  have HL := Lib.hid hl
  have H8 := Lib.hid h8
  have HN := Lib.hid hn
  have HGO := Lib.hid hgo
  have PA := Lib.hid hL
  clear hl h8 hgo hL
  refine callsIn_of_wp_marks Try.func6 rfl trivial ?_ rfl
  simp only [Try.ntmps6, List.size_toArray, List.length_cons, List.length_nil, Nat.reduceAdd, Nat.reduceSub, Array.replicate_succ, Array.replicate_zero, List.push_toArray, List.append_toArray, List.nil_append, List.cons_append]
  gi_wp2_with (refine ⟨trivial, ?_⟩; gi_at_call 9; refine (callsIn_wide.2 (chunk_call _ _ rfl)).mono ?_; rintro e W1 ⟨rfl, rfl⟩)
  have n1 := new_val w (.cells #[.slice none 0 0] 25)
  have n2 := new_val (w.alloc (.cells #[.slice none 0 0] 25)) (.cells #[.slice A n c] 22)
  have n3 := new_val ((w.alloc (.cells #[.slice none 0 0] 25)).alloc (.cells #[.slice A n c] 22)) (.cells #[.int .i64 6] 3)
  have z1 : (w.alloc (.cells #[.slice none 0 0] 25)).heap.size = w.heap.size + 1 := World.size_alloc _ _
  have z2 : ((w.alloc (.cells #[.slice none 0 0] 25)).alloc (.cells #[.slice A n c] 22)).heap.size = w.heap.size + 2 := by rw [World.size_alloc, z1]
  have z3 : (((w.alloc (.cells #[.slice none 0 0] 25)).alloc (.cells #[.slice A n c] 22)).alloc (.cells #[.int .i64 6] 3)).heap.size = w.heap.size + 3 := by rw [World.size_alloc, z2]
  have b0 : Boxed (((w.alloc (.cells #[.slice none 0 0] 25)).alloc (.cells #[.slice A n c] 22)).alloc (.cells #[.int .i64 6] 3)) w.heap.size 25 (.slice none 0 0) :=
    box_below (box_below (Boxed.new w 25 (.slice none 0 0)) n2) n3
  have b1 : Boxed (((w.alloc (.cells #[.slice none 0 0] 25)).alloc (.cells #[.slice A n c] 22)).alloc (.cells #[.int .i64 6] 3)) (w.heap.size + 1) 22 (.slice A n c) := by
    have h := box_below (Boxed.new (w.alloc (.cells #[.slice none 0 0] 25)) 22 (.slice A n c)) n3
    rw [z1] at h
    exact h
  have b2 : Boxed (((w.alloc (.cells #[.slice none 0 0] 25)).alloc (.cells #[.slice A n c] 22)).alloc (.cells #[.int .i64 6] 3)) (w.heap.size + 1 + 1) 3 (.int .i64 6) := by
    have h := Boxed.new ((w.alloc (.cells #[.slice none 0 0] 25)).alloc (.cells #[.slice A n c] 22)) 3 (.int .i64 6)
    rw [z2] at h
    exact h
  have hB0 := (n1.trans (n2.mono (by omega))).trans (n3.mono (by omega))
  generalize ((w.alloc (.cells #[.slice none 0 0] 25)).alloc (.cells #[.slice A n c] 22)).alloc (.cells #[.int .i64 6] 3) = w3 at b0 b1 b2 hB0 z3 ⊢
  clear n1 n2 n3 z2
  refine wpIn_rangeFunc_ownH rfl h1 (gf := 11) (lb := #[.pointer (some ⟨w.heap.size + 1, 0, none⟩), .pointer (some ⟨w.heap.size + 1 + 1, 0, none⟩)]) rfl trivial (enters_of Try.func11 (by kernel_rfl) rfl)
    (chunk_stops (m - 1) (by omega) (w.heap.size + 1) (w.heap.size + 1 + 1) g o n c A hc hn HGO.out w3 (by omega) (by omega) b1.cell b2.cell) Same2.trans (fun W l o o' hl h _ _ => ⟨by simp [World.putObj], World.putObj_heap_other (by omega), World.putObj_heap_other (by omega)⟩) (Below.refl _ _) (fun _ => rfl)
    (fun pre W => (∃ v, Boxed W w.heap.size 25 v ∧ W.ownsRow w.heap.size 32 5 v pre.length (cellsO (preL L pre)) ∧ True) ∧ Below w.heap.size w W ∧ Same2 (w.heap.size + 1) (w.heap.size + 1 + 1) w3 W)
    (fun _ _ _ => False)
    ?hI
    (fun _ _ _ _ _ hs _ _ => hs)
    ⟨⟨_, b0, World.ownsRow_nil _ _ _ _, trivial⟩, hB0, Same2.refl _ _ _⟩
    (fun x a' _ => a' = { tmps := #[.slice A n c, undef, .slice none 0 0, .pointer (some ⟨w.heap.size, 0, none⟩), pieceV g o n x.val, .slice A n c, .func (.func 11) #[] #[.pointer (some ⟨w.heap.size + 1, 0, none⟩), .pointer (some ⟨w.heap.size + 1 + 1, 0, none⟩)], pieceV g o n x.val, undef, undef, undef, undef, undef, undef], defers := [] })
    ?ax ?assign ?body ?done ?stop
  case hI => exact OwnFrom.and (_root_.Go.Own.from (holdsRow_own w.heap.size w.heap.size 25 32 5 (fun pre : List (Fin n) => pre.length) (fun pre => cellsO (preL L pre)) (fun _ _ => True)) _) (OwnFrom.and (ownFrom_below (by omega) (by omega)) (fun s X Y row hs hg hr => ⟨Nat.le_trans hs.1 hg.size, (hg.block _ (by have := hs.1; omega) (fun e => by have := (hr _ e.symm).1; omega)).trans hs.2.1, (hg.block _ (by have := hs.1; omega) (fun e => by have := (hr _ e.symm).1; omega)).trans hs.2.2⟩))
  case ax => exact fun x a' _ _ _ _ hs _ _ => hs
  case assign =>
    rintro y pre x W K ⟨⟨v, hv, hrow, _⟩, hBW, hz⟩ hK
    gi_wp2_with fail
    exact hK _ _ (KeepsFrom.refl _ _) (Same2.refl _ _ _) ⟨⟨v, hv, hrow, trivial⟩, hBW, hz⟩ rfl
  case body =>
    rintro y pre x a' W hl hloop ⟨⟨v, hv, hrow, _⟩, hBW, hz⟩ rfl hlt
    have PB := Lib.hid (by have h := HGO.out (Nat.lt_of_le_of_lt (Nat.zero_le _) x.isLt); have h2 := PA.out; rw [h] at h2; exact (By.drop h2 x.val 6).below hBW (by omega) : By W (some ⟨g, o + x.val, none⟩) ((L.drop x.val).take 6))
    have hxn := x.isLt
    have BW := Lib.hid hBW
    obtain ⟨a0, a1, a2, a3, a4, eo⟩ : ∃ a0 a1 a2 a3 a4 : Int, opC ((L.drop x.val).take 6) = #[.int .i64 a0, .int .i64 a1, .int .i64 a2, .int .i64 a3, .int .i64 a4] := ⟨_, _, _, _, _, rfl⟩
    have EO := Lib.hid eo
    clear eo
    gi_wp2
    refine region_round_held (S := fun _ => True) y (by kernel_rfl) (by kernel_rfl) ?hq1 trivial (fun hHeld => ?_)
    case hq1 => rintro ⟨a', w', h⟩; exact h
    have B6 : Hid (Below W.heap.size W W.drew) := Lib.hid (Below.refl _ _).drew
    have BX : Hid (Boxed W.drew w.heap.size 25 v) := Lib.hid hv
    have RO : Hid (W.drew.ownsRow w.heap.size 32 5 v pre.length (cellsO (preL L pre))) := Lib.hid hrow
    have PB := Lib.hid (PB.out.below B6.out (Nat.le_refl _))
    have HV := Lib.hid hv
    have HROW := Lib.hid hrow
    have HZ := Lib.hid hz
    have V1 : Hid (Boxed W (w.heap.size + 1) 22 (.slice A n c)) := Lib.hid (hz.2.1.trans b1)
    have V2 : Hid (Boxed W (w.heap.size + 1 + 1) 3 (.int .i64 6)) := Lib.hid (hz.2.2.trans b2)
    have HL4 := Lib.hid hloop
    clear hv hrow hBW hz hloop
    generalize W.drew = w6 at B6 BX RO PB hHeld ⊢
    refine wpAnyH_take (i := 1) (v := ?v101) rfl (by kernel_rfl) (by kernel_rfl) (by kernel_rfl) (fun _ _ _ h => h) (Or.inl ⟨by rfl, ?y101⟩) (by assumption) ?r101
    case y101 => ((intro w hSw; (try dsimp only at hSw); go_simp); try with_reducible rfl)
    try simp only [Act.put, List.getElem_toArray, List.getElem_cons_succ, List.getElem_cons_zero, List.setIfInBounds_toArray, List.set_cons_zero, List.set_cons_succ]
    refine wpAnyH_ready (rs := [0, 2]) (by kernel_rfl) (by simp) ?_
    refine AllReadyH.cons rfl (fun K hK => ?_) ?_
    · have q : w6.cell? ⟨w.heap.size, 0, none⟩ = some v := BX.out.cell
      go_simp
      clear q
      refine hK.out _ _ (trivial) (fun hHeld' => ?_)
      clear hHeld
      have hHeld := hHeld'
      clear hHeld'
      clear hK K
      try simp only [Act.put, List.getElem_toArray, List.getElem_cons_succ, List.getElem_cons_zero, List.setIfInBounds_toArray, List.set_cons_zero, List.set_cons_succ]
      refine wpAnyH_ready (rs := [2]) (by kernel_rfl) (by simp) ?_
      refine AllReadyH.cons rfl (fun K hK => ?_) ?_
      · go_simp
        refine (opOf_any (some ⟨g, o + x.val, none⟩) (min 6 (n - x.val)) (min 6 (n - x.val)) ((L.drop x.val).take 6) w6 (by have := HL.out; simp; omega) (by omega) (fun b hb => H8.out b (List.mem_of_mem_drop (List.mem_of_mem_take hb))) PB.out).mono ?_
        rw [EO.out]
        rintro e wJ ⟨rfl, hb⟩
        have BX : Hid (Boxed wJ w.heap.size 25 v) := Lib.hid (box_below BX.out hb)
        have RO : Hid (wJ.ownsRow w.heap.size 32 5 v pre.length (cellsO (preL L pre))) := Lib.hid (row_below RO.out hb)
        have BJ := Lib.hid (B6.out.trans (hb.mono B6.out.size))
        clear hb
        refine hK.out _ _ (trivial) (fun hHeld' => ?_)
        clear hHeld
        have hHeld := hHeld'
        clear hHeld'
        clear hK K
        try simp only [Act.put, List.getElem_toArray, List.getElem_cons_succ, List.getElem_cons_zero, List.setIfInBounds_toArray, List.set_cons_zero, List.set_cons_succ]
        refine wpAnyH_ready (rs := [3]) (by kernel_rfl) (by simp) ?_
        refine AllReadyH.cons rfl (fun K hK => ?_) ?_
        · go_simp
          have CL : Hid (∀ j u, (opC ((L.drop x.val).take 6)).toList[j]? = some u → (wJ.alloc (.cells #[.int .i64 a0, .int .i64 a1, .int .i64 a2, .int .i64 a3, .int .i64 a4] 32)).cell? ((⟨wJ.heap.size, 0, none⟩ : Addr).add j) = some u) := Lib.hid (by rw [← EO.out]; exact lit_op wJ _ _)
          have BXJ := BX
          have BX := Lib.hid (BX.out.alloc (.cells #[.int .i64 a0, .int .i64 a1, .int .i64 a2, .int .i64 a3, .int .i64 a4] 32))
          refine hK.out _ _ (trivial) (fun hHeld' => ?_)
          clear hHeld
          have hHeld := hHeld'
          clear hHeld'
          obtain ⟨wL, hwL⟩ : ∃ wL, wJ.alloc (.cells #[.int .i64 a0, .int .i64 a1, .int .i64 a2, .int .i64 a3, .int .i64 a4] 32) = wL := ⟨_, rfl⟩
          rw [hwL] at BX CL ⊢
          have HWL := Lib.hid hwL
          clear hwL
          clear hK K
          try simp only [Act.put, List.getElem_toArray, List.getElem_cons_succ, List.getElem_cons_zero, List.setIfInBounds_toArray, List.set_cons_zero, List.set_cons_succ]
          refine wpAnyH_ready (rs := [4]) (by kernel_rfl) (by simp) ?_
          refine AllReadyH.cons rfl (fun K hK => ?_) ?_
          · refine pushO_step (t := 25) (e := 32) Try.underlying25 info_op rfl (.tmp 8) (.tmp 11) rfl wL w.heap.size v pre.length _ ⟨wJ.heap.size, 0, none⟩ ((L.drop x.val).take 6) rfl (by rfl) (by rw [← HWL.out]; exact RO.out.alloc _) CL.out (by rw [← HWL.out]; have h := BW.out.size; have h2 := BJ.out.size; simp; omega) (by have := HN.out; omega) ?_
            intro v' w1 hown' hgrow
            obtain ⟨g', cap', rfl⟩ := ownsRow_succ hown'
            obtain ⟨hv1, hv2, hr2, hk2, hb2⟩ := (show Boxed wJ w.heap.size 25 v from BXJ.out).appended (by decide) RO.out (by have h := BW.out.size; have h2 := BJ.out.size; omega) (Nat.le_refl _) hown' (by rw [HWL.out]; exact hgrow)
            have hc1 := hv1.cell
            have hf1 := hv1.frozen
            refine hK.out _ _ (trivial) (fun hHeld' => ?_)
            clear hHeld
            have hHeld := hHeld'
            clear hHeld'
            clear hK K
            try simp only [Act.put, List.getElem_toArray, List.getElem_cons_succ, List.getElem_cons_zero, List.setIfInBounds_toArray, List.set_cons_zero, List.set_cons_succ]
            refine wpAnyH_ready (rs := [5]) (by kernel_rfl) (by simp) ?_
            refine AllReadyH.cons rfl (fun K hK => ?_) ?_
            · go_simp
              refine hK.out _ _ (trivial) (fun hHeld' => ?_)
              clear hHeld
              have hHeld := hHeld'
              clear hHeld'
              clear hK K
              try simp only [Act.put, List.getElem_toArray, List.getElem_cons_succ, List.getElem_cons_zero, List.setIfInBounds_toArray, List.set_cons_zero, List.set_cons_succ]
              refine wpAnyH_done (by kernel_rfl) ?_ _
              have u1 : Boxed wL (w.heap.size + 1) 22 (.slice A n c) := by rw [← HWL.out]; exact (box_below V1.out BJ.out).alloc _
              have u2 : Boxed wL (w.heap.size + 1 + 1) 3 (.int .i64 6) := by rw [← HWL.out]; exact (box_below V2.out BJ.out).alloc _
              have rL : wL.ownsRow w.heap.size 32 5 v pre.length (cellsO (preL L pre)) := by rw [← HWL.out]; exact RO.out.alloc _
              have y1 : Boxed w1 (w.heap.size + 1) 22 (.slice A n c) := u1.kept hgrow (u1.not_row (by decide) rL)
              have y2 : Boxed w1 (w.heap.size + 1 + 1) 3 (.int .i64 6) := u2.kept hgrow (u2.not_row (by decide) rL)
              have hz1 := HZ.out.1
              have hzJ := BJ.out.size
              have hz2 := hk2.size
              refine ⟨(KeepsFrom.of_grownBy (grown_any BJ.out none) (fun j e => by cases e)).trans (hk2.from _), ⟨by omega, (y1.other (by omega) _).trans V1.out.symm, (y2.other (by omega) _).trans V2.out.symm⟩, ⟨_, hv2, ?_, trivial⟩, (BW.out.trans (BJ.out.mono BW.out.size)).trans hb2, ⟨by omega, (y1.other (by omega) _).trans b1.symm, (y2.other (by omega) _).trans b2.symm⟩⟩
              rw [List.length_append, preL, List.map_append, List.map_cons, List.map_nil, cellsO_snoc]
              rw [opC_take] at hr2
              exact hr2
            exact AllReadyH.nil
          exact AllReadyH.nil
        exact AllReadyH.nil
      exact AllReadyH.nil
    refine AllReadyH.cons rfl (fun K hK => ?_) ?_
    · go_simp
      refine (opOf_any (some ⟨g, o + x.val, none⟩) (min 6 (n - x.val)) (min 6 (n - x.val)) ((L.drop x.val).take 6) w6 (by have := HL.out; simp; omega) (by omega) (fun b hb => H8.out b (List.mem_of_mem_drop (List.mem_of_mem_take hb))) PB.out).mono ?_
      rw [EO.out]
      rintro e wJ ⟨rfl, hb⟩
      have BX : Hid (Boxed wJ w.heap.size 25 v) := Lib.hid (box_below BX.out hb)
      have RO : Hid (wJ.ownsRow w.heap.size 32 5 v pre.length (cellsO (preL L pre))) := Lib.hid (row_below RO.out hb)
      have BJ := Lib.hid (B6.out.trans (hb.mono B6.out.size))
      clear hb
      refine hK.out _ _ (trivial) (fun hHeld' => ?_)
      clear hHeld
      have hHeld := hHeld'
      clear hHeld'
      clear hK K
      try simp only [Act.put, List.getElem_toArray, List.getElem_cons_succ, List.getElem_cons_zero, List.setIfInBounds_toArray, List.set_cons_zero, List.set_cons_succ]
      refine wpAnyH_ready (rs := [0, 3]) (by kernel_rfl) (by simp) ?_
      refine AllReadyH.cons rfl (fun K hK => ?_) ?_
      · have q : wJ.cell? ⟨w.heap.size, 0, none⟩ = some v := BX.out.cell
        go_simp
        clear q
        refine hK.out _ _ (trivial) (fun hHeld' => ?_)
        clear hHeld
        have hHeld := hHeld'
        clear hHeld'
        clear hK K
        try simp only [Act.put, List.getElem_toArray, List.getElem_cons_succ, List.getElem_cons_zero, List.setIfInBounds_toArray, List.set_cons_zero, List.set_cons_succ]
        refine wpAnyH_ready (rs := [3]) (by kernel_rfl) (by simp) ?_
        refine AllReadyH.cons rfl (fun K hK => ?_) ?_
        · go_simp
          have CL : Hid (∀ j u, (opC ((L.drop x.val).take 6)).toList[j]? = some u → (wJ.alloc (.cells #[.int .i64 a0, .int .i64 a1, .int .i64 a2, .int .i64 a3, .int .i64 a4] 32)).cell? ((⟨wJ.heap.size, 0, none⟩ : Addr).add j) = some u) := Lib.hid (by rw [← EO.out]; exact lit_op wJ _ _)
          have BXJ := BX
          have BX := Lib.hid (BX.out.alloc (.cells #[.int .i64 a0, .int .i64 a1, .int .i64 a2, .int .i64 a3, .int .i64 a4] 32))
          refine hK.out _ _ (trivial) (fun hHeld' => ?_)
          clear hHeld
          have hHeld := hHeld'
          clear hHeld'
          obtain ⟨wL, hwL⟩ : ∃ wL, wJ.alloc (.cells #[.int .i64 a0, .int .i64 a1, .int .i64 a2, .int .i64 a3, .int .i64 a4] 32) = wL := ⟨_, rfl⟩
          rw [hwL] at BX CL ⊢
          have HWL := Lib.hid hwL
          clear hwL
          clear hK K
          try simp only [Act.put, List.getElem_toArray, List.getElem_cons_succ, List.getElem_cons_zero, List.setIfInBounds_toArray, List.set_cons_zero, List.set_cons_succ]
          refine wpAnyH_ready (rs := [4]) (by kernel_rfl) (by simp) ?_
          refine AllReadyH.cons rfl (fun K hK => ?_) ?_
          · refine pushO_step (t := 25) (e := 32) Try.underlying25 info_op rfl (.tmp 8) (.tmp 11) rfl wL w.heap.size v pre.length _ ⟨wJ.heap.size, 0, none⟩ ((L.drop x.val).take 6) rfl (by rfl) (by rw [← HWL.out]; exact RO.out.alloc _) CL.out (by rw [← HWL.out]; have h := BW.out.size; have h2 := BJ.out.size; simp; omega) (by have := HN.out; omega) ?_
            intro v' w1 hown' hgrow
            obtain ⟨g', cap', rfl⟩ := ownsRow_succ hown'
            obtain ⟨hv1, hv2, hr2, hk2, hb2⟩ := (show Boxed wJ w.heap.size 25 v from BXJ.out).appended (by decide) RO.out (by have h := BW.out.size; have h2 := BJ.out.size; omega) (Nat.le_refl _) hown' (by rw [HWL.out]; exact hgrow)
            have hc1 := hv1.cell
            have hf1 := hv1.frozen
            refine hK.out _ _ (trivial) (fun hHeld' => ?_)
            clear hHeld
            have hHeld := hHeld'
            clear hHeld'
            clear hK K
            try simp only [Act.put, List.getElem_toArray, List.getElem_cons_succ, List.getElem_cons_zero, List.setIfInBounds_toArray, List.set_cons_zero, List.set_cons_succ]
            refine wpAnyH_ready (rs := [5]) (by kernel_rfl) (by simp) ?_
            refine AllReadyH.cons rfl (fun K hK => ?_) ?_
            · go_simp
              refine hK.out _ _ (trivial) (fun hHeld' => ?_)
              clear hHeld
              have hHeld := hHeld'
              clear hHeld'
              clear hK K
              try simp only [Act.put, List.getElem_toArray, List.getElem_cons_succ, List.getElem_cons_zero, List.setIfInBounds_toArray, List.set_cons_zero, List.set_cons_succ]
              refine wpAnyH_done (by kernel_rfl) ?_ _
              have u1 : Boxed wL (w.heap.size + 1) 22 (.slice A n c) := by rw [← HWL.out]; exact (box_below V1.out BJ.out).alloc _
              have u2 : Boxed wL (w.heap.size + 1 + 1) 3 (.int .i64 6) := by rw [← HWL.out]; exact (box_below V2.out BJ.out).alloc _
              have rL : wL.ownsRow w.heap.size 32 5 v pre.length (cellsO (preL L pre)) := by rw [← HWL.out]; exact RO.out.alloc _
              have y1 : Boxed w1 (w.heap.size + 1) 22 (.slice A n c) := u1.kept hgrow (u1.not_row (by decide) rL)
              have y2 : Boxed w1 (w.heap.size + 1 + 1) 3 (.int .i64 6) := u2.kept hgrow (u2.not_row (by decide) rL)
              have hz1 := HZ.out.1
              have hzJ := BJ.out.size
              have hz2 := hk2.size
              refine ⟨(KeepsFrom.of_grownBy (grown_any BJ.out none) (fun j e => by cases e)).trans (hk2.from _), ⟨by omega, (y1.other (by omega) _).trans V1.out.symm, (y2.other (by omega) _).trans V2.out.symm⟩, ⟨_, hv2, ?_, trivial⟩, (BW.out.trans (BJ.out.mono BW.out.size)).trans hb2, ⟨by omega, (y1.other (by omega) _).trans b1.symm, (y2.other (by omega) _).trans b2.symm⟩⟩
              rw [List.length_append, preL, List.map_append, List.map_cons, List.map_nil, cellsO_snoc]
              rw [opC_take] at hr2
              exact hr2
            exact AllReadyH.nil
          exact AllReadyH.nil
        exact AllReadyH.nil
      refine AllReadyH.cons rfl (fun K hK => ?_) ?_
      · go_simp
        have CL : Hid (∀ j u, (opC ((L.drop x.val).take 6)).toList[j]? = some u → (wJ.alloc (.cells #[.int .i64 a0, .int .i64 a1, .int .i64 a2, .int .i64 a3, .int .i64 a4] 32)).cell? ((⟨wJ.heap.size, 0, none⟩ : Addr).add j) = some u) := Lib.hid (by rw [← EO.out]; exact lit_op wJ _ _)
        have BXJ := BX
        have BX := Lib.hid (BX.out.alloc (.cells #[.int .i64 a0, .int .i64 a1, .int .i64 a2, .int .i64 a3, .int .i64 a4] 32))
        refine hK.out _ _ (trivial) (fun hHeld' => ?_)
        clear hHeld
        have hHeld := hHeld'
        clear hHeld'
        obtain ⟨wL, hwL⟩ : ∃ wL, wJ.alloc (.cells #[.int .i64 a0, .int .i64 a1, .int .i64 a2, .int .i64 a3, .int .i64 a4] 32) = wL := ⟨_, rfl⟩
        rw [hwL] at BX CL ⊢
        have HWL := Lib.hid hwL
        clear hwL
        clear hK K
        try simp only [Act.put, List.getElem_toArray, List.getElem_cons_succ, List.getElem_cons_zero, List.setIfInBounds_toArray, List.set_cons_zero, List.set_cons_succ]
        refine wpAnyH_ready (rs := [0]) (by kernel_rfl) (by simp) ?_
        refine AllReadyH.cons rfl (fun K hK => ?_) ?_
        · have q : wL.cell? ⟨w.heap.size, 0, none⟩ = some v := BX.out.cell
          go_simp
          clear q
          refine hK.out _ _ (trivial) (fun hHeld' => ?_)
          clear hHeld
          have hHeld := hHeld'
          clear hHeld'
          clear hK K
          try simp only [Act.put, List.getElem_toArray, List.getElem_cons_succ, List.getElem_cons_zero, List.setIfInBounds_toArray, List.set_cons_zero, List.set_cons_succ]
          refine wpAnyH_ready (rs := [4]) (by kernel_rfl) (by simp) ?_
          refine AllReadyH.cons rfl (fun K hK => ?_) ?_
          · refine pushO_step (t := 25) (e := 32) Try.underlying25 info_op rfl (.tmp 8) (.tmp 11) rfl wL w.heap.size v pre.length _ ⟨wJ.heap.size, 0, none⟩ ((L.drop x.val).take 6) rfl (by rfl) (by rw [← HWL.out]; exact RO.out.alloc _) CL.out (by rw [← HWL.out]; have h := BW.out.size; have h2 := BJ.out.size; simp; omega) (by have := HN.out; omega) ?_
            intro v' w1 hown' hgrow
            obtain ⟨g', cap', rfl⟩ := ownsRow_succ hown'
            obtain ⟨hv1, hv2, hr2, hk2, hb2⟩ := (show Boxed wJ w.heap.size 25 v from BXJ.out).appended (by decide) RO.out (by have h := BW.out.size; have h2 := BJ.out.size; omega) (Nat.le_refl _) hown' (by rw [HWL.out]; exact hgrow)
            have hc1 := hv1.cell
            have hf1 := hv1.frozen
            refine hK.out _ _ (trivial) (fun hHeld' => ?_)
            clear hHeld
            have hHeld := hHeld'
            clear hHeld'
            clear hK K
            try simp only [Act.put, List.getElem_toArray, List.getElem_cons_succ, List.getElem_cons_zero, List.setIfInBounds_toArray, List.set_cons_zero, List.set_cons_succ]
            refine wpAnyH_ready (rs := [5]) (by kernel_rfl) (by simp) ?_
            refine AllReadyH.cons rfl (fun K hK => ?_) ?_
            · go_simp
              refine hK.out _ _ (trivial) (fun hHeld' => ?_)
              clear hHeld
              have hHeld := hHeld'
              clear hHeld'
              clear hK K
              try simp only [Act.put, List.getElem_toArray, List.getElem_cons_succ, List.getElem_cons_zero, List.setIfInBounds_toArray, List.set_cons_zero, List.set_cons_succ]
              refine wpAnyH_done (by kernel_rfl) ?_ _
              have u1 : Boxed wL (w.heap.size + 1) 22 (.slice A n c) := by rw [← HWL.out]; exact (box_below V1.out BJ.out).alloc _
              have u2 : Boxed wL (w.heap.size + 1 + 1) 3 (.int .i64 6) := by rw [← HWL.out]; exact (box_below V2.out BJ.out).alloc _
              have rL : wL.ownsRow w.heap.size 32 5 v pre.length (cellsO (preL L pre)) := by rw [← HWL.out]; exact RO.out.alloc _
              have y1 : Boxed w1 (w.heap.size + 1) 22 (.slice A n c) := u1.kept hgrow (u1.not_row (by decide) rL)
              have y2 : Boxed w1 (w.heap.size + 1 + 1) 3 (.int .i64 6) := u2.kept hgrow (u2.not_row (by decide) rL)
              have hz1 := HZ.out.1
              have hzJ := BJ.out.size
              have hz2 := hk2.size
              refine ⟨(KeepsFrom.of_grownBy (grown_any BJ.out none) (fun j e => by cases e)).trans (hk2.from _), ⟨by omega, (y1.other (by omega) _).trans V1.out.symm, (y2.other (by omega) _).trans V2.out.symm⟩, ⟨_, hv2, ?_, trivial⟩, (BW.out.trans (BJ.out.mono BW.out.size)).trans hb2, ⟨by omega, (y1.other (by omega) _).trans b1.symm, (y2.other (by omega) _).trans b2.symm⟩⟩
              rw [List.length_append, preL, List.map_append, List.map_cons, List.map_nil, cellsO_snoc]
              rw [opC_take] at hr2
              exact hr2
            exact AllReadyH.nil
          exact AllReadyH.nil
        exact AllReadyH.nil
      exact AllReadyH.nil
    exact AllReadyH.nil
  case done =>
    rintro D ys W hD hS ⟨⟨v, hv, hrow, _⟩, hBW, -⟩ hK
    have hc := hv.cell
    gi_wp2
    refine ⟨by simp, .inl ⟨_, _, rfl, run_takeDeferred hK, ?_⟩⟩
    refine ⟨_, results_tmp rfl _ _ _, v, rfl, ?_, hBW.trans (belowK_b (w := w) (Nat.le_refl _) W D _ _ (by omega) hK rfl rfl)⟩
    have e1 : ys.length = (n + 5) / 6 := by rw [← firstL_len ((n + 5) / 6), ← hS, List.length_map]
    have e2 : preL L ys = (firstL ((n + 5) / 6)).map fun i => L.drop i := by rw [← hS, List.map_map]; rfl
    rw [← e2, ← e1]
    exact ownsRow_putObj hrow _ hK rfl
  case stop =>
    rintro D c pre W _ _ h _
    exact h.elim
/-- The pieces of bytes. -/
def piecesL (L : List Nat) : List (List Nat) := (firstL ((L.length + 5) / 6)).map fun i => L.drop i
theorem readS_any (A : Option Addr) (n c : Nat) (L : List Nat) (w : World) (hl : L.length = n) (hn : n ≤ 1000000) (hc : n ≤ c) (hL : By w A L) (h8 : ∀ b ∈ L, b < 256) :
    Calls Try.prog 6 #[.slice A n c] w fun e W' => ∃ v, e = .returned v ∧ W'.ownsRow w.heap.size 32 5 v (piecesL L).length (cellsO (piecesL L)) ∧ Below w.heap.size w W' := by
  have h := (callsIn_wide (n := 3)).1 (readS_in 3 (Nat.le_refl _) A n c L w hl hn hc hL h8)
  subst hl
  have e : (piecesL L).length = (L.length + 5) / 6 := by rw [piecesL, List.length_map, firstL_len]
  rw [e]
  exact h
end Go.Proofs.Ytjflablcoljdeaa
