/- Contract of Lines (no statement of its own). No condition. -/
import Derived.Test.YteocbgcgfllieaaGreatDoorUlw
namespace Go.Proofs.YteocbgcgfllieaaGreatDoor
open Go.RowKit Go.Maps
set_option linter.unusedVariables false
theorem made_lines (n : Nat) (hn : n ≤ 1000000) (W : World) : ∃ M : Array Value, M.size = n * 2 ∧ (Instr.makeSlice 124 (.int .i64 0) (.int .i64 (n : Int))).run Tryz.prog W = .ok (.slice (some ⟨W.heap.size, 0, none⟩) 0 n) (W.alloc (.cells M 130)) := by
  obtain ⟨i0, hi, hz0, hz1, hz2⟩ := info_parts info_line
  have h := run_make (P := Tryz.prog) W 124 130 i0 _ Tryz.underlying124 hi hz0 .i64 .i64 0 (n : Int) (by omega) (by omega) (by rw [hz2]; omega) (by omega)
  rw [hz1] at h
  exact ⟨_, size_madeCells _ _, h⟩
theorem TpAt.lookF {w : World} {g b : Nat} {A : Option Addr} {c N : Nat} {l t : List Nat} {k o : Int} {f : List Nat → Int} (H : TpAt w g b A c N l k o f) (h32 : ∀ n ∈ l, n ≤ 32) (hin : InL l t) (hf : f t ≠ o) :
    (Instr.lookup 99 (.map (some b)) (keyV t) false).run Tryz.prog w = .ok (.int .i64 (f t)) w := by
  obtain ⟨D, hown, hrep⟩ := H.map
  obtain ⟨c, hrun, hc, _⟩ := hown.lookup_int keyed Tryz.underlying99 Tryz.underlying2 (zeroI64 w) (keyOf_key (hin.small h32))
  rw [(hrep.1 t hin).2 hf] at hc
  rw [hrun, (Lit.int.inj (DataW.lit.inj hc)).2]
theorem key_apart {w : World} {b2 B n : Nat} {u : Value} {xs : List Value} {cs : Array Value} {fz : Nat × Nat} (h : w.heap[B]? = some (.cells cs 103 fz)) (k : w.ownsRow b2 130 2 u n xs) : some B ≠ u.ownBlock := fun e => by
  obtain ⟨c', fz', hc'⟩ := Lib.ownsRow_kind k B e.symm
  rw [h] at hc'
  cases hc'
abbrev HoldLn (w0 : World) (g b B5 nl c : Nat) (A : Option Addr) (t : List Nat) (x : Int) (W : World) : Prop :=
  W.cell? ⟨g, 0, none⟩ = some (.slice A nl c) ∧ W.cell? ⟨g, 3, none⟩ = some (.map (some b)) ∧ W.cell? ⟨B5, 0, none⟩ = some (szV t 0) ∧ W.cell? ⟨B5, 1, none⟩ = some (szV t 1) ∧ W.cell? ⟨B5, 2, none⟩ = some (szV t 2) ∧ W.cell? ⟨B5, 3, none⟩ = some (szV t 3) ∧ W.cell? ⟨B5, 4, none⟩ = some (szV t 4) ∧ W.cell? ⟨B5, 5, none⟩ = some (szV t 5) ∧
  (Instr.lookup 99 (.map (some b)) (.agg #[.int .i64 (nth t 0 : Int), .int .i64 (nth t 1 : Int), .int .i64 (nth t 2 : Int), .int .i64 (nth t 3 : Int), .int .i64 (nth t 4 : Int), .int .i64 (nth t 5 : Int)]) false).run Tryz.prog W = .ok (.int .i64 x) W ∧
  W.heap[B5]? = some (.cells (kyC t) 103 (0, 0)) ∧ Below w0.heap.size w0 W
theorem HoldLn.row {w0 W : World} {g b B5 nl c : Nat} {A : Option Addr} {t : List Nat} {x : Int} (H : HoldLn w0 g b B5 nl c A t x W) : W.heap[B5]? = some (.cells (kyC t) 103 (0, 0)) := H.2.2.2.2.2.2.2.2.2.1
theorem HoldLn.below {w0 W : World} {g b B5 nl c : Nat} {A : Option Addr} {t : List Nat} {x : Int} (H : HoldLn w0 g b B5 nl c A t x W) : Below w0.heap.size w0 W := H.2.2.2.2.2.2.2.2.2.2
abbrev HoldsLn (w0 : World) (g b B5 nl c : Nat) (A : Option Addr) (t : List Nat) (x : Int) : Prop := ∀ W, W.heap[B5]? = some (.cells (kyC t) 103 (0, 0)) → Below w0.heap.size w0 W → HoldLn w0 g b B5 nl c A t x W
theorem HoldLn.next {w0 W W' : World} {g b B5 nl c : Nat} {A : Option Addr} {t : List Nat} {x : Int} (HF : Hid (HoldsLn w0 g b B5 nl c A t x)) (H : HoldLn w0 g b B5 nl c A t x W) (hb : Below W.heap.size W W') : HoldLn w0 g b B5 nl c A t x W' :=
  HF.out _ ((hb.block B5 (Array.getElem?_eq_some_iff.1 H.row).1).trans H.row) (H.below.trans (hb.mono H.below.size))
theorem HoldLn.app {w0 W W' : World} {g b B5 nl c n : Nat} {A : Option Addr} {t : List Nat} {x : Int} {v : Value} {xs : List Value} (HF : Hid (HoldsLn w0 g b B5 nl c A t x)) (H : HoldLn w0 g b B5 nl c A t x W) (hr : W.ownsRow w0.heap.size 130 2 v n xs) (hg : W.grownBy W' v.ownBlock) : HoldLn w0 g b B5 nl c A t x W' :=
  HF.out _ ((hg.block B5 (Array.getElem?_eq_some_iff.1 H.row).1 (key_apart H.row hr)).trans H.row) (H.below.grown hg H.below.size (fun k hk => (World.ownsRow.lt hr k hk).1))
theorem keysrow_apart {w : World} {b1 b2 n m : Nat} {v u : Value} {xs ys : List Value} (h : w.ownsRow b1 103 6 v m ys) (k : w.ownsRow b2 130 2 u n xs) : v.ownBlock = none ∨ v.ownBlock ≠ u.ownBlock := by
  cases hv : v.ownBlock with
  | none => exact .inl rfl
  | some g =>
    refine .inr fun e => ?_
    obtain ⟨c, fz, hc⟩ := Lib.ownsRow_kind h g hv
    exact key_apart hc k e
theorem keys_form {w : World} {base n : Nat} {v : Value} {ts : List (List Nat)} (hn : ts.length = n) (h : w.ownsRow base 103 6 v n (cellsK ts)) :
    ∃ A c, v = .slice A n c ∧ ∀ j, j < n → ∃ gk, A = some ⟨gk, 0, none⟩ ∧ gk < w.heap.size ∧ ∀ i, i < 6 → w.cell? ⟨gk, j * 6 + i, none⟩ = some (szV (nthT ts j) i) := by
  obtain ⟨_, ⟨rfl, h0⟩ | ⟨g, cap, cur, rfl, hb, hh, hm, _, hs, ht⟩⟩ := h
  · exact ⟨none, 0, by rw [h0], fun j hj => by omega⟩
  · refine ⟨_, cap, rfl, fun j hj => ⟨g, rfl, (Array.getElem?_eq_some_iff.1 hh).1, fun i hi => ?_⟩⟩
    rw [cell_of_row w g _ cur _ (0, 0) hh]
    have e := cellsK_get ts (j * 6 + i) (by omega)
    rw [← ht, List.getElem?_take_of_lt (by omega), Array.getElem?_toList] at e
    rw [e, show (j * 6 + i) / 6 = j by omega, show (j * 6 + i) % 6 = i by omega]
    have : nthT ts j = ts.getD j [] := rfl
    rw [← this]
    rcases (by omega : i = 0 ∨ i = 1 ∨ i = 2 ∨ i = 3 ∨ i = 4 ∨ i = 5) with rfl | rfl | rfl | rfl | rfl | rfl <;> rfl
theorem row_lessK {w : World} {base base' sz : Nat} {e : TypeId} {v : Value} {n : Nat} {xs : List Value} (h : w.ownsRow base e sz v n xs) (hb : base' ≤ base) : w.ownsRow base' e sz v n xs := by
  obtain ⟨h1, ⟨rfl, hn⟩ | ⟨g, cap, cur, rfl, hg, hh, hm, hx, hs, ht⟩⟩ := h
  · exact ⟨h1, .inl ⟨rfl, hn⟩⟩
  · exact ⟨h1, .inr ⟨g, cap, cur, rfl, by omega, hh, hm, hx, hs, ht⟩⟩
set_option maxRecDepth 100000 in
set_option maxHeartbeats 400000 in
theorem tplines_any (g b N c : Nat) (A : Option Addr) (l : List Nat) (k o : Int) (f : List Nat → Int) (w : World) (H : TpAt w g b A c N l k o f) (h6 : l.length ≤ 6) (h32 : ∀ n ∈ l, 1 ≤ n ∧ n ≤ 32) (hN : N ≤ 1000000) :
    Calls Tryz.prog 79 #[.pointer (some ⟨g, 0, none⟩)] w fun e w' => (∃ v, e = .returned v ∧ LinesAt w' w.heap.size v f (linesT l o f)) ∧ Below w.heap.size w w' := by
  obtain ⟨D, hown, hrep⟩ := H.map
  have hsz := size_lines hown hrep h6 h32
  have hle := hown.size_le
  obtain ⟨n, hn⟩ : ∃ n, (linesT l o f).length = n := ⟨_, rfl⟩
  rw [hn] at hsz
  have hn6 : n ≤ 1000000 := by omega
  obtain ⟨M, hM, hm⟩ := made_lines n hn6 w
  have HT := Lib.hid H
  have HO := Lib.hid hown
  have HR := Lib.hid hrep
  have HS := Lib.hid hsz
  have HM := Lib.hid hM
  have H32 := Lib.hid h32
  obtain ⟨a0, a1, a2, a3⟩ := H.cells
  clear H hown hrep hsz hle h32 a0 a1 a2
  go_enter Tryz.func79, Tryz.ntmps79
  go_upto_region 3 with fail
  go_upto_region 4 with (at_len; refine wpList_len_own _ rfl _ 99 rfl 103 2 Tryz.underlying99 _ b N D rfl HO.out ?_; rw [HS.out])
  have n1 := new_val w (.cells M 130)
  have R0 : Hid ((w.alloc (.cells M 130)).ownsRow w.heap.size 130 2 (.slice (some ⟨w.heap.size, 0, none⟩) 0 n) 0 []) := Lib.hid (World.ownsRow_made w _ n (Nat.le_refl _) (by unfold maxLen; omega) HM.out)
  have T1 := Lib.hid (HT.out.below n1)
  have B1 := Lib.hid n1
  have c1 := T1.out.cells.2.2.2
  obtain ⟨w1, hw1⟩ : ∃ w1, w.alloc (.cells M 130) = w1 := ⟨_, rfl⟩
  have hz1 : w1.heap.size = w.heap.size + 1 := by rw [← hw1]; simp
  rw [hw1] at R0 T1 B1 c1 ⊢
  clear n1 hw1 hm a3
  have O1 := Lib.hid ((HO.out.kept (grown_of_below B1.out) (by simp)))
  clear HO
  have SK : Hid (Calls Tryz.prog 91 #[.func (.func 102) #[] #[.pointer (some ⟨w1.heap.size, 0, none⟩)], .func (.func 93) #[] #[]] (w1.alloc (.cells #[.map (some b)] 99)) fun e W' => (∃ v, e = .returned v ∧ W'.ownsRow w.heap.size 103 6 v n (cellsK (linesT l o f))) ∧ Below w1.heap.size w1 W') :=
    Lib.hid ((sortedK_any w1.heap.size b N l o f D HR.out h6 H32.out (w1.alloc (.cells #[.map (some b)] 99)) (by simp) (by rw [cell_of_row _ _ _ _ _ _ (heap_alloc_new w1 _)]; rfl) (O1.out.alloc _) (by rw [HS.out]; exact hn6)).mono fun e w2 h => by
      obtain ⟨⟨v, e1, hrow⟩, hb2⟩ := h
      rw [hn] at hrow
      exact ⟨⟨v, e1, row_lessK hrow (by simp; omega)⟩, then_ (new_val w1 _) hb2⟩)
  have HZ1 := Lib.hid hz1
  clear O1 HR HS hz1
  go_upto_region 5 with (first
    | (go_at_call 92; refine (keys_any b _).mono ?_; rintro e w' ⟨rfl, rfl⟩)
    | (go_at_call 91; refine SK.out.mono ?_; rintro e w2 ⟨⟨v, rfl, hrow⟩, hb2⟩; obtain ⟨AK, cK, rfl, _⟩ := keys_form hn hrow; have R2 := Lib.hid hrow; have B2 := Lib.hid hb2; clear hrow hb2))
  have L2 : Hid (LinesAt w2 w.heap.size (.slice (some ⟨w.heap.size, 0, none⟩) 0 n) f ((linesT l o f).take 0)) := Lib.hid ⟨[], by simp, by simpa [lineC] using (row_belowL R0.out B2.out (Nat.le_refl _)), fun p hp => by simp at hp⟩
  have BW := Lib.hid (B1.out.trans (B2.out.mono (by rw [HZ1.out]; omega)))
  clear R0 B1 B2 SK T1 c1
  generalize w1.heap.size = bk
  go_loopw [3, 21] (fun v i wr => ∃ j : Nat, j ≤ n ∧ i = .int .i64 (j : Int) ∧ (∃ A' c', v = .slice A' j c' ∧ LinesAt wr w.heap.size (.slice A' j c') f ((linesT l o f).take j)) ∧ wr.ownsRow w.heap.size 103 6 (.slice AK n cK) n (cellsK (linesT l o f)) ∧ Below w.heap.size w wr) (fun _ i _ => n - (intOf i).toNat)
  case atStart => exact ⟨0, Nat.zero_le _, rfl, ⟨_, _, rfl, L2.out⟩, R2.out, BW.out⟩
  case round =>
    obtain ⟨j, hj, rfl, ⟨A', c', rfl, hL⟩, hK, hB⟩ := hrel
    have LR := Lib.hid hL
    have KR := Lib.hid hK
    have BR := Lib.hid hB
    have TR := Lib.hid (HT.out.below hB)
    clear hL hK hB L2 BW
    by_cases hlt : j < n
    · obtain ⟨AK', cK', e, hcells⟩ := keys_form hn KR.out
      injection e with e1 e2 e3
      subst e1 e3
      obtain ⟨gk, rfl, hgk, hc⟩ := hcells j hlt
      obtain ⟨t, ht⟩ : ∃ t, nthT (linesT l o f) j = t := ⟨_, rfl⟩
      rw [ht] at hc
      have k0 : wr.cell? ⟨gk, j * 6, none⟩ = some (szV t 0) := hc 0 (by omega)
      have k1 := hc 1 (by omega)
      have k2 := hc 2 (by omega)
      have k3 := hc 3 (by omega)
      have k4 := hc 4 (by omega)
      have k5 := hc 5 (by omega)
      have HTT := Lib.hid ht
      clear hc hcells ht e2
      have j1 : (j : Int) < (n : Int) := by omega
      have j2 : (0 : Int) ≤ (j : Int) := by omega
      go_upto_region 7 with fail
      have hmem : InL l t ∧ f t ≠ o := (linesT_mem (fun n hn => (H32.out n hn).1) t).1 (by
        rw [← HTT.out]
        unfold nthT
        rw [List.getD_eq_getElem?_getD, List.getElem?_eq_getElem (by omega)]
        exact List.getElem_mem _)
      have hu32 : ∀ n ∈ l, n ≤ 32 := fun n hn => (H32.out n hn).2
      obtain ⟨x, hx⟩ : ∃ x, f t = x := ⟨_, rfl⟩
      have n3 := new_val wr (.cells (kyC t) 103)
      have r3 := heap_alloc_new wr (.cells (kyC t) 103)
      have HF : Hid (HoldsLn w g b wr.heap.size l.length c A t x) := Lib.hid fun W hr hb => by
        have TW := HT.out.below hb
        obtain ⟨a0, a1, a2, a3⟩ := TW.cells
        obtain ⟨y0, y1, y2, y3, y4, y5⟩ := ky_cells hr
        have hl := TW.lookF hu32 hmem.1 hmem.2
        rw [hx] at hl
        exact ⟨a0, a3, y0, y1, y2, y3, y4, y5, hl, hr, hb⟩
      obtain ⟨ps, p0, p1, p2⟩ := LR.out
      have hlen : ((linesT l o f).take j).length = j := by rw [List.length_take]; omega
      rw [hlen] at p1
      have W3 := Lib.hid (And.intro r3 (BR.out.trans (n3.mono BR.out.size)))
      have P1 := Lib.hid p1
      have P2 := Lib.hid (And.intro p0 (And.intro p2 hx))
      have N3 := Lib.hid n3
      have hl6 : (l.length : Int) ≤ 6 := by omega
      have hl0 : (0 : Int) ≤ (l.length : Int) := by omega
      have HL3 : Hid (HoldLn w g b wr.heap.size l.length c A t x ((wr.alloc (.cells (kyC t) 103)).drew)) := Lib.hid (HF.out _ W3.out.1 W3.out.2.drew)
      have R3 : Hid ((wr.alloc (.cells (kyC t) 103)).drew.ownsRow w.heap.size 130 2 (.slice A' j c') j (lineC f ps)) := Lib.hid (row_belowL (B := wr.heap.size) P1.out n3.drew (Nat.le_refl _))
      have K3 : Hid ((wr.alloc (.cells (kyC t) 103)).drew.ownsRow w.heap.size 103 6 (.slice (some ⟨gk, 0, none⟩) n cK) n (cellsK (linesT l o f))) := Lib.hid (row_belowL (B := wr.heap.size) KR.out n3.drew (Nat.le_refl _))
      have P3 : Hid (∀ p ∈ ps, Own ((wr.alloc (.cells (kyC t) 103)).drew) w.heap.size p.1 p.2) := Lib.hid fun p hp => (P2.out.2.1 p hp).below (B := wr.heap.size) n3.drew (Nat.le_refl _)
      have HC : Hid (Calls Tryz.prog 13 #[.slice (some ⟨wr.heap.size, 0, none⟩) l.length 6] ((wr.alloc (.cells (kyC t) 103)).drew) fun e w' => ∃ u, e = .returned u ∧ Own w' w.heap.size u t ∧ Below (wr.alloc (.cells (kyC t) 103)).drew.heap.size (wr.alloc (.cells (kyC t) 103)).drew w') := Lib.hid (by
        refine (clone_any' _ l.length 6 t _ hmem.1.length.symm (by rw [hmem.1.length]; omega) (.inr ⟨_, 0, rfl, by show wr.heap.size < (wr.alloc _).heap.size; simp, fun i hi => ?_⟩)).mono ?_
        · rw [hmem.1.length] at hi
          obtain ⟨y0, y1, y2, y3, y4, y5⟩ := ky_cells W3.out.1
          rcases (by omega : i = 0 ∨ i = 1 ∨ i = 2 ∨ i = 3 ∨ i = 4 ∨ i = 5) with rfl | rfl | rfl | rfl | rfl | rfl <;> assumption
        · rintro e w' ⟨⟨u, rfl, hu⟩, hb⟩
          exact ⟨u, rfl, hu.less (by have := BR.out.size; show w.heap.size ≤ (wr.alloc _).heap.size; simp; omega), hb⟩)
      have HMEM := Lib.hid hmem
      have hj6 : j ≤ 1000000 := by omega
      obtain ⟨i0, hi0, hz0, hz1, hz2⟩ := info_parts info_line
      clear n3 r3 p1 p2 hx hmem hu32 k0 k1 k2 k3 k4 k5 P1 LR KR
      go_region_held_law (fun W => HoldLn w g b wr.heap.size l.length c A t x W)
        (first | exact HL3.out | assumption | exact HoldLn.next HF (by assumption) hb4 | exact HoldLn.next HF (by assumption) (new_val _ _) | exact HoldLn.app HF (by assumption) ((row_belowL R3.out hb4 (Nat.le_refl _)).alloc _) hgrow)
        ((first
          | (go_at_call 13; refine HC.out.mono ?_; rintro e w4 ⟨u, rfl, hu4, hb4⟩; obtain ⟨A4, c4, rfl, _⟩ := hu4.form)
          | (refine step_append_lies _ (by rfl) _ _ _ (by rfl) w.heap.size 130 i0 _ 2 32 Tryz.underlying124 hi0 hz0 hz1 hz2 rfl (by omega) (.slice A' j c') j (lineC f ps) (by rfl) ((row_belowL R3.out hb4 (Nat.le_refl _)).alloc _) ⟨w4.heap.size, 0, none⟩ 1 1 [.slice A4 t.length c4, .int .i64 x] (by rfl) (by rfl) (World.news_of_block (cs := #[.slice A4 t.length c4, .int .i64 x]) (t := 130) (fr := (0, 0)) (heap_alloc_new w4 _)) (by intro y hy; simp at hy; rcases hy with rfl | rfl <;> rfl) (by omega) (by unfold maxLen; omega) (by omega) (by have := BR.out.size; have := hb4.size; simp at *; omega) (w4.heap.size + 1) (by simp) ?_; intro gg cap w5 hown5 hgrow hat hlt5)))
      all_goals
        have hnw : Below w4.heap.size w4 (w4.alloc (.cells #[.slice A4 t.length c4, .int .i64 x] 130)) := new_val w4 _
        have FIN : Hid (LinesAt w5 w.heap.size (.slice (some ⟨gg, 0, none⟩) (j + 1) cap) f ((linesT l o f).take (j + 1)) ∧ w5.ownsRow w.heap.size 103 6 (.slice (some ⟨gk, 0, none⟩) n cK) n (cellsK (linesT l o f)) ∧ Below w.heap.size w w5) := by
          have hr4 := (row_belowL R3.out hb4 (Nat.le_refl _)).alloc (.cells #[.slice A4 t.length c4, .int .i64 x] 130)
          have hk4 := row_belowL (row_belowL K3.out hb4 (Nat.le_refl _)) hnw (Nat.le_refl _)
          obtain ⟨p0, p2, hx⟩ := P2.out
          have et : (linesT l o f).take (j + 1) = (linesT l o f).take j ++ [t] := by
            have hjl : j < (linesT l o f).length := by omega
            rw [List.take_succ_eq_append_getElem hjl]
            congr 2
            rw [← HTT.out]
            simp [nthT, List.getD_eq_getElem?_getD, hjl]
          rw [et]
          rw [← hx] at hown5
          refine Lib.hid ⟨LinesAt.push p0 (by rw [hlen]; exact hr4) (fun p hp => ((P3.out p hp).below hb4 (Nat.le_refl _)).below hnw (Nat.le_refl _)) (hu4.below hnw (Nat.le_refl _)) (by rw [hlen]; exact hown5) hgrow, World.ownsRow.kept hk4 hgrow (keysrow_apart hk4 hr4), ?_⟩
          have b4 : Below w.heap.size w (w4.alloc (.cells #[.slice A4 t.length c4, .int .i64 x] 130)) := (W3.out.2.drew.trans (hb4.mono (W3.out.2.drew.size))).trans (hnw.mono (W3.out.2.drew.trans (hb4.mono (W3.out.2.drew.size))).size)
          exact b4.grown hgrow b4.size (fun k hk => (World.ownsRow.lt hr4 k hk).1)
        clear hown5 hgrow hat hlt5 hb4 hu4 hnw P3 K3 R3 HC HL3 HF P2 N3 W3 TR BR
        go_wp2_with fail
        go_roundw
        case rel => exact ⟨j + 1, by omega, by go_num, ⟨_, _, rfl, FIN.out.1⟩, FIN.out.2⟩
        case measure => simp [intOf]; omega
    · obtain rfl : n = j := by omega
      have j1 : ¬ ((n : Int) < (n : Int)) := by omega
      have hfull : (linesT l o f).take n = linesT l o f := List.take_of_length_le (by omega)
      rw [hfull] at LR
      go_wp2_with fail
      go_ret
      exact ⟨⟨_, rfl, LR.out⟩, BR.out⟩
end Go.Proofs.YteocbgcgfllieaaGreatDoor
