/- Contracts of Get and Put of tuples (no statement of its own). No condition. -/
import Derived.Test.YtliafkcogmpghaaUe
namespace Go.Proofs.Ytliafkcogmpghaa
open Go.RowKit Go.Maps
set_option linter.unusedVariables false
theorem tpget_ok (g b N c n cb : Nat) (A B : Option Addr) (l t : List Nat) (k o : Int) (f : List Nat → Int) (w : World) (H : TpAt w g b A c N l k o f) (hn : n = t.length) (h6 : l.length ≤ 6) (h32 : ∀ n ∈ l, n ≤ 32) (hr : Ints w B t) (hin : InL l t) :
    Calls Try.prog 15 #[.pointer (some ⟨g, 0, none⟩), .slice B n cb] w fun e w' => e = .returned (.tuple #[.int .i64 (f t), .int .i64 0]) ∧ Below w.heap.size w w' := by
  have HK := Lib.hid (keyof_ok g b N c n cb A B l t k o f w H hn h6 hr hin)
  have HT := Lib.hid H
  have HC : Hid (∀ W, TpAt W g b A c N l k o f → Calls Try.prog 36 #[.pointer (some ⟨g, 0, none⟩), keyV t] W fun e w' => e = .returned (.int .i64 (f t)) ∧ Below W.heap.size W w') := Lib.hid fun W h => tpcost_ok g b N c A l t k o f W h h32 hin
  clear H hr hin h32 hn
  generalize f t = x at HC ⊢
  go_enter Try.func15, Try.ntmps15
  go_wp2_with fail
  refine HK.out.mono ?_
  rintro e w1 ⟨rfl, b1⟩
  have B1 := Lib.hid b1
  clear b1
  go_upto_region 4 with ((with_reducible show wpList _ _ _ (Oper.mk none (.store 74 _ _) _ _ _ _ :: _) _ _); refine wpList_store_row rfl 74 (.tmp 6) (.tmp 14) rfl w1.heap.size (kyC t) rfl rfl 74 kyZ (heap_alloc_new _ _) (by kernel_rfl) rfl (ky_one t) ?_; rw [World.setRow_alloc_new])
  have nb := new_val w1 (.cells (kyC t) 74)
  have T2 := Lib.hid ((HT.out.below B1.out).below nb)
  have B2 := Lib.hid (then_ B1.out nb)
  obtain ⟨y0, y1, y2, y3, y4, y5⟩ := ky_cells (heap_alloc_new w1 (.cells (kyC t) 74))
  clear nb
  generalize w1.alloc (.cells (kyC t) 74) = w2 at *
  go_wp2_with fail
  refine (HC.out w2 T2.out).mono ?_
  rintro e w3 ⟨rfl, b3⟩
  have B3 := Lib.hid (then_ B2.out b3)
  clear b3
  go_wp2_with fail
  go_ret2
  exact ⟨rfl, B3.out⟩
theorem tpget_no (g b N c n cb : Nat) (A B : Option Addr) (l : List Nat) (z : Nat → Int) (k o : Int) (f : List Nat → Int) (w : World) (H : TpAt w g b A c N l k o f) (h6 : l.length ≤ 6) (hr : Zs w B n z) (hno : n ≠ l.length ∨ (n = l.length ∧ ∃ q, q < n ∧ (∀ i, i < q → 0 ≤ z i ∧ z i < (nth l i : Int)) ∧ (z q < 0 ∨ (nth l q : Int) ≤ z q))) :
    Calls Try.prog 15 #[.pointer (some ⟨g, 0, none⟩), .slice B n cb] w fun e w' => e = .returned (.tuple #[.int .i64 0, .int .i64 3]) ∧ Below w.heap.size w w' := by
  have HK := Lib.hid (keyof_no g b N c n cb A B l z k o f w H h6 hr hno)
  clear H hr hno
  go_enter Try.func15, Try.ntmps15
  go_wp2_with fail
  refine HK.out.mono ?_
  rintro e w1 ⟨rfl, b1⟩
  have B1 := Lib.hid b1
  clear b1
  go_wp2_with ((with_reducible show wpList _ _ _ (Oper.mk none (.store 74 _ _) _ _ _ _ :: _) _ _); refine wpList_store_row rfl 74 (.tmp 6) (.tmp 14) rfl w1.heap.size kyZ rfl rfl 74 kyZ (heap_alloc_new _ _) (by kernel_rfl) rfl (ky_one []) ?_; rw [World.setRow_alloc_new])
  go_ret2
  exact ⟨rfl, then_ B1.out (new_val _ _)⟩
theorem tpput_no (g b N c n cb : Nat) (A B : Option Addr) (l : List Nat) (z : Nat → Int) (k o x : Int) (f : List Nat → Int) (w : World) (H : TpAt w g b A c N l k o f) (h6 : l.length ≤ 6) (hr : Zs w B n z) (hno : n ≠ l.length ∨ (n = l.length ∧ ∃ q, q < n ∧ (∀ i, i < q → 0 ≤ z i ∧ z i < (nth l i : Int)) ∧ (z q < 0 ∨ (nth l q : Int) ≤ z q))) :
    Calls Try.prog 14 #[.pointer (some ⟨g, 0, none⟩), .slice B n cb, .int .i64 x] w fun e w' => e = .returned (.int .i64 3) ∧ Below w.heap.size w w' := by
  have HK := Lib.hid (keyof_no g b N c n cb A B l z k o f w H h6 hr hno)
  clear H hr hno
  go_enter Try.func14, Try.ntmps14
  go_wp2_with fail
  refine HK.out.mono ?_
  rintro e w1 ⟨rfl, b1⟩
  have B1 := Lib.hid b1
  clear b1
  go_wp2_with ((with_reducible show wpList _ _ _ (Oper.mk none (.store 74 _ _) _ _ _ _ :: _) _ _); refine wpList_store_row rfl 74 (.tmp 7) (.tmp 15) rfl w1.heap.size kyZ rfl rfl 74 kyZ (heap_alloc_new _ _) (by kernel_rfl) rfl (ky_one []) ?_; rw [World.setRow_alloc_new])
  go_ret
  exact ⟨rfl, then_ B1.out (new_val _ _)⟩
theorem tpput_cost (g b N c n cb : Nat) (A B : Option Addr) (l t : List Nat) (k o x : Int) (f : List Nat → Int) (w : World) (H : TpAt w g b A c N l k o f) (hn : n = t.length) (h6 : l.length ≤ 6) (hr : Ints w B t) (hin : InL l t) (hx : ¬ InK x k) :
    Calls Try.prog 14 #[.pointer (some ⟨g, 0, none⟩), .slice B n cb, .int .i64 x] w fun e w' => e = .returned (.int .i64 3) ∧ Below w.heap.size w w' := by
  have HK := Lib.hid (keyof_ok g b N c n cb A B l t k o f w H hn h6 hr hin)
  have HT := Lib.hid H
  have HX := Lib.hid hx
  clear H hr hin hn hx
  go_enter Try.func14, Try.ntmps14
  go_wp2_with fail
  refine HK.out.mono ?_
  rintro e w1 ⟨rfl, b1⟩
  have B1 := Lib.hid b1
  clear b1
  go_upto_region 4 with ((with_reducible show wpList _ _ _ (Oper.mk none (.store 74 _ _) _ _ _ _ :: _) _ _); refine wpList_store_row rfl 74 (.tmp 7) (.tmp 15) rfl w1.heap.size (kyC t) rfl rfl 74 kyZ (heap_alloc_new _ _) (by kernel_rfl) rfl (ky_one t) ?_; rw [World.setRow_alloc_new])
  have nb := new_val w1 (.cells (kyC t) 74)
  have T2 := Lib.hid ((HT.out.below B1.out).below nb)
  have B2 := Lib.hid (then_ B1.out nb)
  clear nb
  generalize w1.alloc (.cells (kyC t) 74) = w2 at T2 B2 ⊢
  obtain ⟨c0, c1, c2, c3⟩ := T2.out.cells
  clear c0 c2 c3
  go_wp2_with (go_at_call 32; refine (in_refused _ _ _ HX.out).mono ?_; rintro e w' ⟨rfl, rfl⟩)
  go_ret
  exact ⟨rfl, B2.out⟩
theorem grown_after {w w2 w3 : World} {row : Option Nat} (B : Below w.heap.size w w2) (g : w2.grownBy w3 row) : w.grownBy w3 row :=
  ⟨g.os.trans B.os, g.tape.trans B.tape, g.output.trans B.output, Nat.le_trans B.size g.size, fun i hi hne => (g.block i (Nat.lt_of_lt_of_le hi B.size) hne).trans (B.block i hi)⟩
set_option maxRecDepth 100000 in
set_option maxHeartbeats 4000000 in
theorem tpput_ok (g b N c n cb : Nat) (A B : Option Addr) (l t : List Nat) (k o x : Int) (f : List Nat → Int) (w : World) (H : TpAt w g b A c N l k o f) (hn : n = t.length) (h6 : l.length ≤ 6) (h32 : ∀ n ∈ l, n ≤ 32) (hr : Ints w B t) (hin : InL l t) (hx : InK x k) (hN : N ≤ 1000000) :
    Calls Try.prog 14 #[.pointer (some ⟨g, 0, none⟩), .slice B n cb, .int .i64 x] w fun e w' => e = .returned (.int .i64 0) ∧ TpAt w' g b A c (N + 1) l k o (updF f t x) ∧ w.grownBy w' (some b) := by
  have HKF := Lib.hid (keyof_ok g b N c n cb A B l t k o f w H hn h6 hr hin)
  have HT := Lib.hid H
  have HX := Lib.hid hx
  have HI := Lib.hid hin
  have H32 := Lib.hid h32
  have HK := Lib.hid (keyOf_key (hin.small h32))
  clear H hr hin hn hx h32
  go_enter Try.func14, Try.ntmps14
  go_wp2_with fail
  refine HKF.out.mono ?_
  rintro e w1 ⟨rfl, b1⟩
  have B1 := Lib.hid b1
  clear b1
  go_upto_region 4 with ((with_reducible show wpList _ _ _ (Oper.mk none (.store 74 _ _) _ _ _ _ :: _) _ _); refine wpList_store_row rfl 74 (.tmp 7) (.tmp 15) rfl w1.heap.size (kyC t) rfl rfl 74 kyZ (heap_alloc_new _ _) (by kernel_rfl) rfl (ky_one t) ?_; rw [World.setRow_alloc_new])
  have nb := new_val w1 (.cells (kyC t) 74)
  have T2 := Lib.hid ((HT.out.below B1.out).below nb)
  have B2 := Lib.hid (then_ B1.out nb)
  have HY := Lib.hid (ky_cells (heap_alloc_new w1 (.cells (kyC t) 74)))
  clear nb
  generalize w1.alloc (.cells (kyC t) 74) = w2 at *
  generalize w1.heap.size = B7 at *
  obtain ⟨c0, c1, c2, c3⟩ := T2.out.cells
  clear c0
  by_cases e : x = o
  · subst e
    go_upto_region 7 with (go_at_call 32; refine (in_yes _ _ _ HX.out.1 HX.out.2.1 HX.out.2.2.1 HX.out.2.2.2).mono ?_; rintro e w' ⟨rfl, rfl⟩)
    obtain ⟨y0, y1, y2, y3, y4, y5⟩ := HY.out
    obtain ⟨D, hown, hrep⟩ := T2.out.map
    have HO := Lib.hid hown.drew
    have HR := Lib.hid hrep
    clear hown hrep c1 c2
    go_still_tail 5, (by kernel_rfl)
    change wpList _ _ _ _ _ w2.drew
    have B3 := Lib.hid B2.out.drew
    have T3 := Lib.hid (T2.out.below ((Below.refl _ _).drew))
    clear c3 y0 y1 y2 y3 y4 y5
    generalize w2.drew = w3 at HO B3 T3 ⊢
    go_wp2_with (at_delete; refine wpList_delete_own _ rfl _ _ 69 74 rfl 2 keyed Try.underlying69 _ b N D rfl HO.out _ _ rfl HK.out ?_; intro w4 hown1 hturn1; have HO1 := Lib.hid hown1; have HG1 := Lib.hid hturn1.grown; clear hown1 hturn1)
    go_ret
    exact ⟨rfl, T3.out.map_cells HG1.out ⟨_, HO1.out.mono (Nat.le_succ _), HR.out.del HO.out.isMap h6 H32.out HI.out⟩, grown_after B3.out HG1.out⟩
  · have d : (x == o) = false := by rw [beq_eq_false_iff_ne]; exact e
    have HE := Lib.hid e
    clear e
    go_upto_region 8 with (go_at_call 32; refine (in_yes _ _ _ HX.out.1 HX.out.2.1 HX.out.2.2.1 HX.out.2.2.2).mono ?_; rintro e w' ⟨rfl, rfl⟩)
    obtain ⟨y0, y1, y2, y3, y4, y5⟩ := HY.out
    obtain ⟨D, hown, hrep⟩ := T2.out.map
    have HO := Lib.hid hown.drew
    have HR := Lib.hid hrep
    clear hown hrep c1 c2
    go_still_tail 6, (by kernel_rfl)
    change wpList _ _ _ _ _ w2.drew
    have B3 := Lib.hid B2.out.drew
    have T3 := Lib.hid (T2.out.below ((Below.refl _ _).drew))
    clear c3 y0 y1 y2 y3 y4 y5
    generalize w2.drew = w3 at HO B3 T3 ⊢
    have WF : (Lit.int .i64 x).wf = true := WalkArith.wf_i64 (by have := HX.out; unfold InK at this; omega)
    go_wp2_with (at_mapUpdate; refine wpList_mapUpdate_own _ rfl _ _ _ 69 rfl 74 2 keyed Try.underlying69 _ b N _ rfl HO.out (by unfold maxLen; omega) _ _ _ rfl rfl HK.out _ [] (plainElem_int Try.underlying2 WF) ?_; intro w4 hown1 hgrow1; have HO1 := Lib.hid hown1; have HG1 := Lib.hid hgrow1; clear hown1 hgrow1)
    go_ret
    exact ⟨rfl, T3.out.map_cells HG1.out ⟨_, HO1.out, HR.out.put HO.out.isMap h6 H32.out HI.out HE.out⟩, grown_after B3.out HG1.out⟩
end Go.Proofs.Ytliafkcogmpghaa
