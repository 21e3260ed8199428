/- The contract of trail's keep (no statement of its own). -/
import Derived.Test.YtafcecacldafgaaTrE
namespace Go.Proofs.Ytafcecacldafgaa
open Go.RowKit
open Go.Maps (Keyed)
set_option linter.unusedVariables false
/-- The last open mark. -/
def Tr.last (T : Tr) : Tri := nth3 T.marks (T.marks.length - 1)
def Tr.keep (T : Tr) (k : Tri) : Tr := if T.marks = [] then T else if k.2.2 < T.last.2.1 ∧ k.2.1 < T.last.1 then { T with kept := T.kept ++ [k] } else T
/-- What a region reads of the trail's marks. -/
abbrev HoldM (b g n c : Nat) (i : Nat) (y : Tri) (W : World) : Prop :=
  W.cell? ⟨b, 4, none⟩ = some (.slice (some ⟨g, 0, none⟩) n c) ∧ W.cell? ⟨g, i * 3, none⟩ = some (.int .i64 y.1) ∧ W.cell? ⟨g, i * 3 + 1, none⟩ = some (.int .i64 y.2.1) ∧ W.cell? ⟨g, i * 3 + 2, none⟩ = some (.int .i64 y.2.2)
theorem cell_grown {w w' : World} {a : Addr} {v : Value} (h : w.cell? a = some v) (hg : w.grownBy w' none) : w'.cell? a = some v := hg.cell h (by simp)
theorem HoldM.grown {b g n c i : Nat} {y : Tri} {W W' : World} (h : HoldM b g n c i y W) (hg : W.grownBy W' none) : HoldM b g n c i y W' :=
  ⟨cell_grown h.1 hg, cell_grown h.2.1 hg, cell_grown h.2.2.1 hg, cell_grown h.2.2.2 hg⟩
theorem holdM_alloc {b g n c i : Nat} {y : Tri} {W : World} {o : Obj} (h : HoldM b g n c i y W) : HoldM b g n c i y (W.alloc o) := h.grown (World.grownBy_alloc _ _ _)
theorem cells3 {w : World} {g : Nat} {x y z : Value} {t : TypeId} (h : w.heap[g]? = some (.cells #[x, y, z] t (0, 0))) : w.cell? ⟨g, 0, none⟩ = some x ∧ w.cell? ⟨g, 1, none⟩ = some y ∧ w.cell? ⟨g, 2, none⟩ = some z :=
  ⟨by rw [cell_of_row _ _ _ _ _ _ h]; rfl, by rw [cell_of_row _ _ _ _ _ _ h]; rfl, by rw [cell_of_row _ _ _ _ _ _ h]; rfl⟩
set_option maxRecDepth 100000 in
set_option maxHeartbeats 1000000 in
theorem keep_none {P : Nat → Prop} {w : World} {b : Nat} {x e a : Int} {T : Tr} (h : TA P w b T) (hm : T.marks = []) :
    Calls Try.prog 30 #[.pointer (some ⟨b, 0, none⟩), .agg #[.int .i64 x, .int .i64 e, .int .i64 a]] w (AndT P w b T (.tuple #[])) := by
  have HT := Lib.hid h
  obtain ⟨v1, v2, v3, m, h1, h2⟩ := h.parts
  have hga := World.grownBy_alloc w (.cells #[.int .i64 x, .int .i64 e, .int .i64 a] 70) none
  obtain ⟨A, c, rfl, _⟩ := row_form h2.r2
  have c4 := (h1.kept hga (by simp)).c4
  rw [hm] at c4
  simp only [List.length_nil] at c4
  clear h h1 h2 hga hm
  go_enter Try.func30, Try.ntmps30
  go_wp2_with fail
  refine bodyPost_ret (results_none rfl _ _ _) rfl ?_
  exact ⟨rfl, HT.out.grown (World.grownBy_alloc _ _ _), Kp.none (World.grownBy_alloc _ _ _)⟩
theorem info_kept : (Try.prog.info? 70).map (fun i => (i.zero, i.size, i.bytes)) = some (some (.agg #[.int .i64 0, .int .i64 0, .int .i64 0]), 3, 24) := by kernel_rfl
theorem info_mark : (Try.prog.info? 63).map (fun i => (i.zero, i.size, i.bytes)) = some (some (.agg #[.int .i64 0, .int .i64 0, .int .i64 0]), 3, 24) := by kernel_rfl
set_option maxRecDepth 100000 in
set_option maxHeartbeats 1000000 in
theorem keep_some {P : Nat → Prop} {w : World} {b n : Nat} {x e a : Int} {T : Tr} (h : TA P w b T) (hm : T.marks.length = n + 1) (hn : n < 1000000) (hk : T.kept.length < 1000000) (hP : ∀ k, w.heap.size ≤ k → P k) :
    Calls Try.prog 30 #[.pointer (some ⟨b, 0, none⟩), .agg #[.int .i64 x, .int .i64 e, .int .i64 a]] w (AndT P w b (T.keep (x, e, a)) (.tuple #[])) := by
  have HT := Lib.hid h
  obtain ⟨v1, v2, v3, m, h1, h2⟩ := h.parts
  have hga := World.grownBy_alloc w (.cells #[.int .i64 x, .int .i64 e, .int .i64 a] 70) none
  obtain ⟨A, c, rfl, _, _, hA⟩ := row_form h2.r2
  obtain ⟨g, rfl, hg⟩ := hA (by omega)
  have h2a := h2.grown hga
  have h1a := h1.kept hga (by simp)
  have d0 := h2a.r2.at0 n (by omega)
  have d1 := h2a.r2.at1 n (by omega)
  have d2 := h2a.r2.at2 n (by omega)
  have hlast : T.last = nth3 T.marks n := by unfold Tr.last; rw [hm]; rfl
  rw [← hlast] at d0 d1 d2
  have hnm : T.marks ≠ [] := fun q => by rw [q] at hm; simp at hm
  have hke : T.keep (x, e, a) = if a < T.last.2.1 ∧ e < T.last.1 then { T with kept := T.kept ++ [(x, e, a)] } else T := by unfold Tr.keep; rw [if_neg hnm]
  rw [hke]
  have c4 := h1a.c4
  have HH := Lib.hid h1a
  have HPa := Lib.hid h2a
  have HKL := Lib.hid hk
  have HPP := Lib.hid hP
  have HS1 : Hid ((w.alloc (.cells #[.int .i64 x, .int .i64 e, .int .i64 a] 70)).heap.size = w.heap.size + 1) := Lib.hid (by simp)
  have hsub : IntKind.i64.wrap ((T.marks.length : Int) - 1) = (n : Int) := by rw [IntWalk.i64_in _ (by omega)]; omega
  have hnz : ¬ ((T.marks.length : Int) = 0) := by omega
  have hnl : (n : Int) < (T.marks.length : Int) := by omega
  have HM : Hid (HoldM b g T.marks.length c n T.last (w.alloc (.cells #[.int .i64 x, .int .i64 e, .int .i64 a] 70))) := Lib.hid ⟨c4, d0, d1, d2⟩
  have HA := Lib.hid hga
  have HB := Lib.hid (heap_alloc_new w (.cells #[.int .i64 x, .int .i64 e, .int .i64 a] 70))
  obtain ⟨y, hy⟩ : ∃ y, T.last = y := ⟨_, rfl⟩
  rw [hy] at HM
  rw [hy]
  generalize hN : T.marks.length = N at *
  clear h h1 h2 hga h1a h2a hA hk hP hlast hnm hke d0 d1 d2 hy hm hN
  go_enter Try.func30, Try.ntmps30
  go_upto_region 2 with fail
  generalize w.alloc (.cells #[.int .i64 x, .int .i64 e, .int .i64 a] 70) = w1 at *
  go_region_held3 (fun W => HoldM b g N c n y W) (first | exact HM.out.grown (grown_drew (World.grownBy_refl _)) | exact holdM_alloc (by assumption) | assumption) (fail)
  have HA2 : Hid (w.grownBy (w1.alloc (.cells #[.int .i64 y.1, .int .i64 y.2.1, .int .i64 y.2.2] 63)).drew none) := Lib.hid (grown_drew (World.grownBy.trans HA.out (World.grownBy_alloc _ _ _)))
  have HG1 : Hid (w1.grownBy (w1.alloc (.cells #[.int .i64 y.1, .int .i64 y.2.1, .int .i64 y.2.2] 63)).drew none) := Lib.hid (grown_drew (World.grownBy_alloc _ _ _))
  have hb1 : (w1.alloc (.cells #[.int .i64 y.1, .int .i64 y.2.1, .int .i64 y.2.2] 63)).drew.heap[w1.heap.size]? = some (.cells #[.int .i64 y.1, .int .i64 y.2.1, .int .i64 y.2.2] 63 (0, 0)) := heap_alloc_new w1 _
  have HH2 := Lib.hid (HH.out.kept HG1.out (by simp))
  have HP2 := Lib.hid (HPa.out.grown HG1.out)
  have hb0 := (HG1.out.block w.heap.size (Array.getElem?_eq_some_iff.1 HB.out).1 (by simp)).trans HB.out
  have hsz2 : w.heap.size + 2 = (w1.alloc (.cells #[.int .i64 y.1, .int .i64 y.2.1, .int .i64 y.2.2] 63)).drew.heap.size := by have := HS1.out; simp; omega
  have HSZ := Lib.hid hsz2
  have hw1 := HS1.out
  clear HA HG1 HH HPa HB HM c4 hsz2
  rename_i hHeld
  clear hHeld
  generalize (w1.alloc (.cells #[.int .i64 y.1, .int .i64 y.2.1, .int .i64 y.2.2] 63)).drew = w2 at *
  obtain ⟨q0, q1, q2⟩ := cells3 hb1
  obtain ⟨k0, k1, k2⟩ := cells3 hb0
  have HB0 := Lib.hid hb0
  clear hb1 hb0
  rw [hw1] at q0 q1 q2 ⊢
  clear hw1 HS1
  by_cases ha : a < y.2.1
  · by_cases he : e < y.1
    · rw [if_pos ⟨ha, he⟩]
      obtain ⟨i0, hi, hz0, hz1, hz2⟩ := info_parts info_kept
      have I0 := Lib.hid hi
      have Z0 := Lib.hid hz0
      have Z1 := Lib.hid hz1
      have Z2 := Lib.hid hz2
      obtain ⟨A3, c3, hv3, _⟩ := row_form HP2.out.r3
      have HV3 := Lib.hid hv3
      have HHd : Hid (Hd w2.drew b T.size T.era (.slice (some ⟨g, 0, none⟩) N c) v1 v3 m) ∨ True := .inr trivial
      clear HHd
      have hbn := HB0.out
      have c5 : w2.drew.cell? ⟨b, 5, none⟩ = some v3 := HH2.out.c5
      have c5a : (w2.alloc (.cells #[.int .i64 x, .int .i64 e, .int .i64 a] 70)).cell? ⟨b, 5, none⟩ = some v3 := cell_grown HH2.out.c5 (World.grownBy_alloc _ _ _)
      have k0' : w2.drew.cell? ⟨w.heap.size, 0, none⟩ = some (.int .i64 x) := k0
      have k1' : w2.drew.cell? ⟨w.heap.size, 1, none⟩ = some (.int .i64 e) := k1
      have k2' : w2.drew.cell? ⟨w.heap.size, 2, none⟩ = some (.int .i64 a) := k2
      have hdn : w2.grownBy (w2.alloc (.cells #[.int .i64 x, .int .i64 e, .int .i64 a] 70)).drew none := grown_drew (World.grownBy_alloc _ _ _)
      have HH3 := Lib.hid (HH2.out.kept hdn (by simp))
      have HP3 := Lib.hid (HP2.out.grown hdn)
      have hbk : (w2.alloc (.cells #[.int .i64 x, .int .i64 e, .int .i64 a] 70)).drew.heap[w2.heap.size]? = some (.cells #[.int .i64 x, .int .i64 e, .int .i64 a] 70 (0, 0)) := heap_alloc_new w2 _
      have HN3 := Lib.hid (World.news_of_block hbk)
      have HA3 := Lib.hid (World.grownBy.trans HA2.out hdn)
      clear hdn hbn hbk hi hz0 hz1 hz2
      rw [hv3] at c5 c5a
      clear hv3
      go_upto_region 4 with fail
      clear q0 q1 q2 k0 k1 k2
      go_region_law (refine step_append_lies _ rfl (.tmp 40) (.tmp 42) 57 rfl 0 70 i0 (.agg #[.int .i64 0, .int .i64 0, .int .i64 0]) 3 24 Try.underlying57 I0.out Z0.out Z1.out Z2.out rfl (by decide) v3 T.kept.length (flat3 T.kept) HV3.out.symm HP3.out.r3 ⟨w2.heap.size, 0, none⟩ 1 1 [.int .i64 x, .int .i64 e, .int .i64 a] rfl rfl HN3.out (by simp [Value.oneCell']) (by decide) (by have := HKL.out; unfold maxLen; omega) (by have := HKL.out; omega) (Nat.zero_le _) (w2.heap.size + 1) (by simp) ?_; intro g' cap' w' hO hG hL hlt; have e5 := (hd_row HH3.out HP3.out.r3 (by decide) hG).c5; have e5f := (hd_row HH3.out HP3.out.r3 (by decide) hG).frozen 5)
      all_goals (
        have hp3 : ∀ k, (Value.slice (some ⟨g', 0, none⟩) (T.kept.length + 1) cap').ownBlock = some k → P k := fun k hk => by
          simp only [Value.ownBlock, Option.some.injEq] at hk
          subst hk
          rcases hL with hL | hL
          · exact HP3.out.p3 _ hL
          · exact HPP.out _ (by have := HSZ.out; omega)
        have hrow : RowK w' (.slice (some ⟨g', 0, none⟩) (T.kept.length + 1) cap') (T.kept ++ [(x, e, a)]) := by
          unfold RowK
          rw [List.length_append, List.length_singleton, flat3_append]
          exact hO
        have hP4 := HP3.out.kept3 hG hrow hp3
        have hH4 := hd_row HH3.out HP3.out.r3 (by decide) hG
        obtain ⟨hH5, hg5⟩ := hH4.set5 (.slice (some ⟨g', 0, none⟩) (T.kept.length + 1) cap')
        have hP5 := hP4.keptB hH4 hg5
        have hK5 : Kp P w (w'.setCell ⟨b, 5, none⟩ (.slice (some ⟨g', 0, none⟩) (T.kept.length + 1) cap')) := ((Kp.none HA3.out).trans (Kp.row hG HP3.out.p3)).trans (Kp.one hg5 HP3.out.pb)
        rw [if_pos ⟨ha, he⟩]
        go_end0
        exact ⟨rfl, Parts.ta (T := { T with kept := T.kept ++ [(x, e, a)] }) hP5 hH5, hK5⟩)
    · rw [if_neg (fun q => he q.2)]
      go_wp2_with fail
      go_end0
      exact ⟨rfl, HT.out.grown HA2.out, Kp.none HA2.out⟩
  · rw [if_neg (fun q => ha q.1)]
    go_wp2_with fail
    go_end0
    exact ⟨rfl, HT.out.grown HA2.out, Kp.none HA2.out⟩
/-- keep, whatever marks there are. -/
theorem keep_any {P : Nat → Prop} {w : World} {b : Nat} {x e a : Int} {T : Tr} (h : TA P w b T) (hP : ∀ k, w.heap.size ≤ k → P k) (hm : T.marks.length < 1000000) (hk : T.kept.length < 1000000) :
    Calls Try.prog 30 #[.pointer (some ⟨b, 0, none⟩), .agg #[.int .i64 x, .int .i64 e, .int .i64 a]] w (AndT P w b (T.keep (x, e, a)) (.tuple #[])) := by
  cases hl : T.marks.length with
  | zero =>
    have h0 := List.eq_nil_of_length_eq_zero hl
    have e1 : T.keep (x, e, a) = T := by unfold Tr.keep; rw [if_pos h0]
    rw [e1]
    exact keep_none h h0
  | succ n => exact keep_some h hl (by omega) hk hP
end Go.Proofs.Ytafcecacldafgaa
