/- Texts of this seat laid together (no statement of its own). -/
import Derived.Test.YteocbgcgfllieaaGreatDoorMgO
import Derived.StillTailTactics
namespace Go.Proofs.YteocbgcgfllieaaGreatDoor
open Go.RowKit Go.Maps
set_option linter.unusedVariables false
/-- The list's block is not the map's. -/
theorem TpAt.list_apart {w : World} {g b : Nat} {A : Option Addr} {c N : Nat} {l : List Nat} {k o : Int} {f : List Nat → Int} (H : TpAt w g b A c N l k o f) (hl : l ≠ []) : ∀ a : Addr, A = some a → a.block ≠ b := by
  rintro a rfl rfl
  rcases H.ints with h | ⟨g', o', e, hlt, hc⟩
  · exact hl h
  · injection e with e
    subst e
    obtain ⟨D, ⟨es, clock, hm, _⟩, hr⟩ := H.map
    have := hc 0 (by rcases l with _ | ⟨x, l⟩; exact absurd rfl hl; simp)
    simp [World.cell?, hm] at this
theorem TpAt.map_cells {w : World} {g b : Nat} {A : Option Addr} {c N : Nat} {l : List Nat} {k o : Int} {f : List Nat → Int} (H : TpAt w g b A c N l k o f) {w' : World} {N' : Nat} {f' : List Nat → Int} (hg : w.grownBy w' (some b))
    (hm : ∃ D : DataW Unit, w'.ownsMap Tryz.prog 103 (plainElem Tryz.prog 2) b N' D ∧ RepF D l o f') : TpAt w' g b A c N' l k o f' :=
  ⟨(hg.block g (Array.getElem?_eq_some_iff.1 H.row).1 (fun e => H.apart (by injection e))).trans H.row, by
    by_cases hl : l = []
    · exact .inl hl
    · exact ints_grown H.ints hg (H.list_apart hl), H.cap, hm⟩
theorem ky_cells {w : World} {g : Nat} {t : List Nat} (h : w.heap[g]? = some (.cells (kyC t) 103 (0, 0))) :
    w.cell? ⟨g, 0, none⟩ = some (szV t 0) ∧ w.cell? ⟨g, 1, none⟩ = some (szV t 1) ∧ w.cell? ⟨g, 2, none⟩ = some (szV t 2) ∧ w.cell? ⟨g, 3, none⟩ = some (szV t 3) ∧ w.cell? ⟨g, 4, none⟩ = some (szV t 4) ∧ w.cell? ⟨g, 5, none⟩ = some (szV t 5) := by
  refine ⟨?_, ?_, ?_, ?_, ?_, ?_⟩ <;> (rw [cell_of_row _ _ _ _ _ _ h]; rfl)
/-- A look-up of a tuple. -/
theorem TpAt.look {w : World} {g b : Nat} {A : Option Addr} {c N : Nat} {l t : List Nat} {k o : Int} {f : List Nat → Int} (H : TpAt w g b A c N l k o f) (h32 : ∀ n ∈ l, n ≤ 32) (hin : InL l t) :
    (Instr.lookup 99 (.map (some b)) (keyV t) true).run Tryz.prog w = .ok (.tuple #[.int .i64 (if f t = o then 0 else f t), .bool (decide (f t ≠ o))]) w := by
  obtain ⟨D, hown, hrep⟩ := H.map
  obtain ⟨v, ps, hrun, hv⟩ := hown.look_ok keyed Tryz.underlying99 (zeroI64 w) (plainElem_int Tryz.underlying2 (by decide)) (keyOf_key (hin.small h32))
  obtain ⟨q, rfl, hc, hwc⟩ := plainElem_int_inv Tryz.underlying2 hv
  simp only [Prod.mk.injEq] at hc
  rw [hrun, (hrep.1 t hin).1]
  by_cases e : f t = o
  · have hh : Maps.has D (keyL t) = false := by rw [(hrep.1 t hin).1]; simp [e]
    have := hc.1
    rw [atKey_of_not_has hh] at this
    rw [if_pos e, ← (Lit.int.inj (DataW.lit.inj this)).2]
  · have := hc.1
    rw [(hrep.1 t hin).2 e] at this
    rw [if_neg e, (Lit.int.inj (DataW.lit.inj this)).2]
abbrev HoldCo (wb : World) (g b B1 : Nat) (t : List Nat) (x : Int) (r : Bool) (W : World) : Prop :=
  W.cell? ⟨g, 3, none⟩ = some (.map (some b)) ∧ W.cell? ⟨B1, 0, none⟩ = some (szV t 0) ∧ W.cell? ⟨B1, 1, none⟩ = some (szV t 1) ∧ W.cell? ⟨B1, 2, none⟩ = some (szV t 2) ∧ W.cell? ⟨B1, 3, none⟩ = some (szV t 3) ∧ W.cell? ⟨B1, 4, none⟩ = some (szV t 4) ∧ W.cell? ⟨B1, 5, none⟩ = some (szV t 5) ∧
  (Instr.lookup 99 (.map (some b)) (.agg #[.int .i64 (nth t 0 : Int), .int .i64 (nth t 1 : Int), .int .i64 (nth t 2 : Int), .int .i64 (nth t 3 : Int), .int .i64 (nth t 4 : Int), .int .i64 (nth t 5 : Int)]) true).run Tryz.prog W = .ok (.tuple #[.int .i64 x, .bool r]) W ∧ Below wb.heap.size wb W
set_option maxRecDepth 100000 in
set_option maxHeartbeats 4000000 in
theorem tpcost_ok (g b N c : Nat) (A : Option Addr) (l t : List Nat) (k o : Int) (f : List Nat → Int) (w : World) (H : TpAt w g b A c N l k o f) (h32 : ∀ n ∈ l, n ≤ 32) (hin : InL l t) :
    Calls Tryz.prog 46 #[.pointer (some ⟨g, 0, none⟩), keyV t] w fun e w' => e = .returned (.int .i64 (f t)) ∧ Below w.heap.size w w' := by
  have nb := new_val w (.cells (kyC t) 103)
  have B1 := Lib.hid nb
  have HT := Lib.hid (H.below nb)
  obtain ⟨y0, y1, y2, y3, y4, y5⟩ := ky_cells (heap_alloc_new w (.cells (kyC t) 103))
  have HY := Lib.hid (And.intro y0 (And.intro y1 (And.intro y2 (And.intro y3 (And.intro y4 y5)))))
  have HL : Hid (∀ W, TpAt W g b A c N l k o f → (Instr.lookup 99 (.map (some b)) (keyV t) true).run Tryz.prog W = .ok (.tuple #[.int .i64 (if f t = o then 0 else f t), .bool (decide (f t ≠ o))]) W) := Lib.hid fun W h => h.look h32 hin
  clear H nb hin h32 y0 y1 y2 y3 y4 y5
  obtain ⟨x, hx⟩ : ∃ x, f t = x := ⟨_, rfl⟩
  rw [hx] at HL ⊢
  clear hx
  go_enter Tryz.func46, Tryz.ntmps46
  go_upto_region 1 with fail
  generalize w.alloc (.cells (kyC t) 103) = w1 at *
  by_cases hf : x = o
  · subst hf
    have HH : Hid (HoldCo w1 g b w.heap.size t 0 false w1.drew) := by
      have h2 := HT.out.below ((Below.refl _ _).drew)
      have hl := HL.out _ h2
      rw [if_pos rfl, show decide (x ≠ x) = false from decide_eq_false (by simp)] at hl
      obtain ⟨y0, y1, y2, y3, y4, y5⟩ := HY.out
      exact Lib.hid ⟨h2.cells.2.2.2, y0, y1, y2, y3, y4, y5, hl, (Below.refl _ _).drew⟩
    go_region_held3 (fun W => HoldCo w1 g b w.heap.size t 0 false W) (exact HH.out) (fail)
    have c2 : w1.drew.cell? ⟨g, 2, none⟩ = some (.int .i64 x) := (HT.out.below ((Below.refl _ _).drew)).cells.2.2.1
    go_wp2_with fail
    go_ret
    exact ⟨rfl, B1.out.drew⟩
  · have HH : Hid (HoldCo w1 g b w.heap.size t x true w1.drew) := by
      have h2 := HT.out.below ((Below.refl _ _).drew)
      have hl := HL.out _ h2
      rw [if_neg hf, show decide (x ≠ o) = true from decide_eq_true hf] at hl
      obtain ⟨y0, y1, y2, y3, y4, y5⟩ := HY.out
      exact Lib.hid ⟨h2.cells.2.2.2, y0, y1, y2, y3, y4, y5, hl, (Below.refl _ _).drew⟩
    go_region_held3 (fun W => HoldCo w1 g b w.heap.size t x true W) (exact HH.out) (fail)
    go_wp2_with fail
    go_ret
    exact ⟨rfl, B1.out.drew⟩
end Go.Proofs.YteocbgcgfllieaaGreatDoor

namespace Go.Proofs.YteocbgcgfllieaaGreatDoor
open Go.RowKit Go.Maps
set_option linter.unusedVariables false
theorem tpget_ok (g b N c n cb : Nat) (A B : Option Addr) (l t : List Nat) (k o : Int) (f : List Nat → Int) (w : World) (H : TpAt w g b A c N l k o f) (hn : n = t.length) (h6 : l.length ≤ 6) (h32 : ∀ n ∈ l, n ≤ 32) (hr : Ints w B t) (hin : InL l t) :
    Calls Tryz.prog 40 #[.pointer (some ⟨g, 0, none⟩), .slice B n cb] w fun e w' => e = .returned (.tuple #[.int .i64 (f t), .int .i64 0]) ∧ Below w.heap.size w w' := by
  have HK := Lib.hid (keyof_ok g b N c n cb A B l t k o f w H hn h6 hr hin)
  have HT := Lib.hid H
  have HC : Hid (∀ W, TpAt W g b A c N l k o f → Calls Tryz.prog 46 #[.pointer (some ⟨g, 0, none⟩), keyV t] W fun e w' => e = .returned (.int .i64 (f t)) ∧ Below W.heap.size W w') := Lib.hid fun W h => tpcost_ok g b N c A l t k o f W h h32 hin
  clear H hr hin h32 hn
  generalize f t = x at HC ⊢
  go_enter Tryz.func40, Tryz.ntmps40
  go_wp2_with fail
  refine HK.out.mono ?_
  rintro e w1 ⟨rfl, b1⟩
  have B1 := Lib.hid b1
  clear b1
  go_upto_region 4 with ((with_reducible show wpList _ _ _ (Oper.mk none (.store 103 _ _) _ _ _ _ :: _) _ _); refine wpList_store_row rfl 103 (.tmp 6) (.tmp 14) rfl w1.heap.size (kyC t) rfl rfl 103 kyZ (heap_alloc_new _ _) (by kernel_rfl) rfl (ky_one t) ?_; rw [World.setRow_alloc_new])
  have nb := new_val w1 (.cells (kyC t) 103)
  have T2 := Lib.hid ((HT.out.below B1.out).below nb)
  have B2 := Lib.hid (then_ B1.out nb)
  obtain ⟨y0, y1, y2, y3, y4, y5⟩ := ky_cells (heap_alloc_new w1 (.cells (kyC t) 103))
  clear nb
  generalize w1.alloc (.cells (kyC t) 103) = w2 at *
  go_wp2_with fail
  refine (HC.out w2 T2.out).mono ?_
  rintro e w3 ⟨rfl, b3⟩
  have B3 := Lib.hid (then_ B2.out b3)
  clear b3
  go_wp2_with fail
  go_ret2
  exact ⟨rfl, B3.out⟩
theorem tpget_no (g b N c n cb : Nat) (A B : Option Addr) (l : List Nat) (z : Nat → Int) (k o : Int) (f : List Nat → Int) (w : World) (H : TpAt w g b A c N l k o f) (h6 : l.length ≤ 6) (hr : Zs w B n z) (hno : n ≠ l.length ∨ (n = l.length ∧ ∃ q, q < n ∧ (∀ i, i < q → 0 ≤ z i ∧ z i < (nth l i : Int)) ∧ (z q < 0 ∨ (nth l q : Int) ≤ z q))) :
    Calls Tryz.prog 40 #[.pointer (some ⟨g, 0, none⟩), .slice B n cb] w fun e w' => e = .returned (.tuple #[.int .i64 0, .int .i64 3]) ∧ Below w.heap.size w w' := by
  have HK := Lib.hid (keyof_no g b N c n cb A B l z k o f w H h6 hr hno)
  clear H hr hno
  go_enter Tryz.func40, Tryz.ntmps40
  go_wp2_with fail
  refine HK.out.mono ?_
  rintro e w1 ⟨rfl, b1⟩
  have B1 := Lib.hid b1
  clear b1
  go_wp2_with ((with_reducible show wpList _ _ _ (Oper.mk none (.store 103 _ _) _ _ _ _ :: _) _ _); refine wpList_store_row rfl 103 (.tmp 6) (.tmp 14) rfl w1.heap.size kyZ rfl rfl 103 kyZ (heap_alloc_new _ _) (by kernel_rfl) rfl (ky_one []) ?_; rw [World.setRow_alloc_new])
  go_ret2
  exact ⟨rfl, then_ B1.out (new_val _ _)⟩
theorem tpput_no (g b N c n cb : Nat) (A B : Option Addr) (l : List Nat) (z : Nat → Int) (k o x : Int) (f : List Nat → Int) (w : World) (H : TpAt w g b A c N l k o f) (h6 : l.length ≤ 6) (hr : Zs w B n z) (hno : n ≠ l.length ∨ (n = l.length ∧ ∃ q, q < n ∧ (∀ i, i < q → 0 ≤ z i ∧ z i < (nth l i : Int)) ∧ (z q < 0 ∨ (nth l q : Int) ≤ z q))) :
    Calls Tryz.prog 20 #[.pointer (some ⟨g, 0, none⟩), .slice B n cb, .int .i64 x] w fun e w' => e = .returned (.int .i64 3) ∧ Below w.heap.size w w' := by
  have HK := Lib.hid (keyof_no g b N c n cb A B l z k o f w H h6 hr hno)
  clear H hr hno
  go_enter Tryz.func20, Tryz.ntmps20
  go_wp2_with fail
  refine HK.out.mono ?_
  rintro e w1 ⟨rfl, b1⟩
  have B1 := Lib.hid b1
  clear b1
  go_wp2_with ((with_reducible show wpList _ _ _ (Oper.mk none (.store 103 _ _) _ _ _ _ :: _) _ _); refine wpList_store_row rfl 103 (.tmp 7) (.tmp 15) rfl w1.heap.size kyZ rfl rfl 103 kyZ (heap_alloc_new _ _) (by kernel_rfl) rfl (ky_one []) ?_; rw [World.setRow_alloc_new])
  go_ret
  exact ⟨rfl, then_ B1.out (new_val _ _)⟩
theorem tpput_cost (g b N c n cb : Nat) (A B : Option Addr) (l t : List Nat) (k o x : Int) (f : List Nat → Int) (w : World) (H : TpAt w g b A c N l k o f) (hn : n = t.length) (h6 : l.length ≤ 6) (hr : Ints w B t) (hin : InL l t) (hx : ¬ InK x k) :
    Calls Tryz.prog 20 #[.pointer (some ⟨g, 0, none⟩), .slice B n cb, .int .i64 x] w fun e w' => e = .returned (.int .i64 3) ∧ Below w.heap.size w w' := by
  have HK := Lib.hid (keyof_ok g b N c n cb A B l t k o f w H hn h6 hr hin)
  have HT := Lib.hid H
  have HX := Lib.hid hx
  clear H hr hin hn hx
  go_enter Tryz.func20, Tryz.ntmps20
  go_wp2_with fail
  refine HK.out.mono ?_
  rintro e w1 ⟨rfl, b1⟩
  have B1 := Lib.hid b1
  clear b1
  go_upto_region 4 with ((with_reducible show wpList _ _ _ (Oper.mk none (.store 103 _ _) _ _ _ _ :: _) _ _); refine wpList_store_row rfl 103 (.tmp 7) (.tmp 15) rfl w1.heap.size (kyC t) rfl rfl 103 kyZ (heap_alloc_new _ _) (by kernel_rfl) rfl (ky_one t) ?_; rw [World.setRow_alloc_new])
  have nb := new_val w1 (.cells (kyC t) 103)
  have T2 := Lib.hid ((HT.out.below B1.out).below nb)
  have B2 := Lib.hid (then_ B1.out nb)
  clear nb
  generalize w1.alloc (.cells (kyC t) 103) = w2 at T2 B2 ⊢
  obtain ⟨c0, c1, c2, c3⟩ := T2.out.cells
  clear c0 c2 c3
  go_wp2_with (go_at_call 49; refine (in_refused _ _ _ HX.out).mono ?_; rintro e w' ⟨rfl, rfl⟩)
  go_ret
  exact ⟨rfl, B2.out⟩
theorem grown_after {w w2 w3 : World} {row : Option Nat} (B : Below w.heap.size w w2) (g : w2.grownBy w3 row) : w.grownBy w3 row :=
  ⟨g.os.trans B.os, g.tape.trans B.tape, g.output.trans B.output, Nat.le_trans B.size g.size, fun i hi hne => (g.block i (Nat.lt_of_lt_of_le hi B.size) hne).trans (B.block i hi)⟩
set_option maxRecDepth 100000 in
set_option maxHeartbeats 4000000 in
theorem tpput_ok (g b N c n cb : Nat) (A B : Option Addr) (l t : List Nat) (k o x : Int) (f : List Nat → Int) (w : World) (H : TpAt w g b A c N l k o f) (hn : n = t.length) (h6 : l.length ≤ 6) (h32 : ∀ n ∈ l, n ≤ 32) (hr : Ints w B t) (hin : InL l t) (hx : InK x k) (hN : N ≤ 1000000) :
    Calls Tryz.prog 20 #[.pointer (some ⟨g, 0, none⟩), .slice B n cb, .int .i64 x] w fun e w' => e = .returned (.int .i64 0) ∧ TpAt w' g b A c (N + 1) l k o (updF f t x) ∧ w.grownBy w' (some b) := by
  have HKF := Lib.hid (keyof_ok g b N c n cb A B l t k o f w H hn h6 hr hin)
  have HT := Lib.hid H
  have HX := Lib.hid hx
  have HI := Lib.hid hin
  have H32 := Lib.hid h32
  have HK := Lib.hid (keyOf_key (hin.small h32))
  clear H hr hin hn hx h32
  go_enter Tryz.func20, Tryz.ntmps20
  go_wp2_with fail
  refine HKF.out.mono ?_
  rintro e w1 ⟨rfl, b1⟩
  have B1 := Lib.hid b1
  clear b1
  go_upto_region 4 with ((with_reducible show wpList _ _ _ (Oper.mk none (.store 103 _ _) _ _ _ _ :: _) _ _); refine wpList_store_row rfl 103 (.tmp 7) (.tmp 15) rfl w1.heap.size (kyC t) rfl rfl 103 kyZ (heap_alloc_new _ _) (by kernel_rfl) rfl (ky_one t) ?_; rw [World.setRow_alloc_new])
  have nb := new_val w1 (.cells (kyC t) 103)
  have T2 := Lib.hid ((HT.out.below B1.out).below nb)
  have B2 := Lib.hid (then_ B1.out nb)
  have HY := Lib.hid (ky_cells (heap_alloc_new w1 (.cells (kyC t) 103)))
  clear nb
  generalize w1.alloc (.cells (kyC t) 103) = w2 at *
  generalize w1.heap.size = B7 at *
  obtain ⟨c0, c1, c2, c3⟩ := T2.out.cells
  clear c0
  by_cases e : x = o
  · subst e
    go_upto_region 7 with (go_at_call 49; refine (in_yes _ _ _ HX.out.1 HX.out.2.1 HX.out.2.2.1 HX.out.2.2.2).mono ?_; rintro e w' ⟨rfl, rfl⟩)
    obtain ⟨y0, y1, y2, y3, y4, y5⟩ := HY.out
    obtain ⟨D, hown, hrep⟩ := T2.out.map
    have HO := Lib.hid hown.drew
    have HR := Lib.hid hrep
    clear hown hrep c1 c2
    go_still_tail 5, (by kernel_rfl)
    change wpList _ _ _ _ _ w2.drew
    have B3 := Lib.hid B2.out.drew
    have T3 := Lib.hid (T2.out.below ((Below.refl _ _).drew))
    clear c3 y0 y1 y2 y3 y4 y5
    generalize w2.drew = w3 at HO B3 T3 ⊢
    go_wp2_with (at_delete; refine wpList_delete_own _ rfl _ _ 99 103 rfl 2 keyed Tryz.underlying99 _ b N D rfl HO.out _ _ rfl HK.out ?_; intro w4 hown1 hturn1; have HO1 := Lib.hid hown1; have HG1 := Lib.hid hturn1.grown; clear hown1 hturn1)
    go_ret
    exact ⟨rfl, T3.out.map_cells HG1.out ⟨_, HO1.out.mono (Nat.le_succ _), HR.out.del HO.out.isMap h6 H32.out HI.out⟩, grown_after B3.out HG1.out⟩
  · have d : (x == o) = false := by rw [beq_eq_false_iff_ne]; exact e
    have HE := Lib.hid e
    clear e
    go_upto_region 8 with (go_at_call 49; refine (in_yes _ _ _ HX.out.1 HX.out.2.1 HX.out.2.2.1 HX.out.2.2.2).mono ?_; rintro e w' ⟨rfl, rfl⟩)
    obtain ⟨y0, y1, y2, y3, y4, y5⟩ := HY.out
    obtain ⟨D, hown, hrep⟩ := T2.out.map
    have HO := Lib.hid hown.drew
    have HR := Lib.hid hrep
    clear hown hrep c1 c2
    go_still_tail 6, (by kernel_rfl)
    change wpList _ _ _ _ _ w2.drew
    have B3 := Lib.hid B2.out.drew
    have T3 := Lib.hid (T2.out.below ((Below.refl _ _).drew))
    clear c3 y0 y1 y2 y3 y4 y5
    generalize w2.drew = w3 at HO B3 T3 ⊢
    have WF : (Lit.int .i64 x).wf = true := WalkArith.wf_i64 (by have := HX.out; unfold InK at this; omega)
    go_wp2_with (at_mapUpdate; refine wpList_mapUpdate_own _ rfl _ _ _ 99 rfl 103 2 keyed Tryz.underlying99 _ b N _ rfl HO.out (by unfold maxLen; omega) _ _ _ rfl rfl HK.out _ [] (plainElem_int Tryz.underlying2 WF) ?_; intro w4 hown1 hgrow1; have HO1 := Lib.hid hown1; have HG1 := Lib.hid hgrow1; clear hown1 hgrow1)
    go_ret
    exact ⟨rfl, T3.out.map_cells HG1.out ⟨_, HO1.out, HR.out.put HO.out.isMap h6 H32.out HI.out HE.out⟩, grown_after B3.out HG1.out⟩
end Go.Proofs.YteocbgcgfllieaaGreatDoor
