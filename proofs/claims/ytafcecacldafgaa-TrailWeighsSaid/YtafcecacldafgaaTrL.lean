/- The contract of trail's Cells and of slices.Equal of equal lists (no statement of its own). -/
import Derived.Test.YtafcecacldafgaaTrK
import Derived.Test.YtafcecacldafgaaL64
import Derived.Deep.OwnRows
namespace Go.Proofs.Ytafcecacldafgaa
open Go.RowKit
open Go.Maps (Keyed)
set_option linter.unusedVariables false
/-- All numbers. -/
def Tr.cells (T : Tr) : List Int := (List.range T.size).map fun i => (T.cell i).1
theorem cells_len (T : Tr) : T.cells.length = T.size := by simp [Tr.cells]
/-- The first j of them, then noughts. -/
def Tr.some (T : Tr) (j : Nat) : List Int := (List.range T.size).map fun i => if i < j then (T.cell i).1 else 0
theorem some_len (T : Tr) (j : Nat) : (T.some j).length = T.size := by simp [Tr.some]
theorem some_zero (T : Tr) : T.some 0 = List.replicate T.size 0 := by
  refine List.ext_getElem (by simp [Tr.some]) fun i h1 h2 => ?_
  simp [Tr.some]
theorem some_succ (T : Tr) (j : Nat) : (T.some j).set j (T.cell j).1 = T.some (j + 1) := by
  refine List.ext_getElem (by simp [Tr.some]) fun i h1 h2 => ?_
  rw [List.getElem_set]
  simp only [Tr.some, List.getElem_map, List.getElem_range]
  by_cases e : j = i
  · subst e; simp
  · rw [if_neg e]
    by_cases h : i < j
    · rw [if_pos h, if_pos (by omega)]
    · rw [if_neg h, if_neg (by omega)]
theorem cell_none {T : Tr} {i : Nat} (h : T.fs.length ≤ i) : T.cell i = (0, 0) := by unfold Tr.cell nth2; rw [List.getD_eq_getElem?_getD, List.getElem?_eq_none (by omega)]; rfl
theorem some_all (T : Tr) : T.some T.fs.length = T.cells := by
  refine List.ext_getElem (by simp [Tr.some, Tr.cells]) fun i h1 h2 => ?_
  simp only [Tr.some, Tr.cells, List.getElem_map, List.getElem_range]
  by_cases h : i < T.fs.length
  · rw [if_pos h]
  · rw [if_neg h, cell_none (by omega)]
def CellsP (w : World) (T : Tr) (e : Ending) (w' : World) : Prop := ∃ v, e = .returned v ∧ OwnL w' w.heap.size v T.cells ∧ w.grownBy w' none
theorem madeL (n : Nat) (hn : n ≤ 100000) (W : World) : (Instr.makeSlice 27 (.int .i64 (n : Int)) (.int .i64 (n : Int))).run Try.prog W = .ok (.slice (some ⟨W.heap.size, 0, none⟩) n n) (W.alloc (.cells (madeCells #[.int .i64 0] n) 2)) :=
  run_make_row' 27 2 (.int .i64 0) 8 Try.underlying27 info_i64 rfl .i64 .i64 n (by omega) (by omega) W
theorem made_zeros (n : Nat) : (madeCells #[.int .i64 0] n).toList = I64 (List.replicate n 0) := by
  refine List.ext_getElem (by simp [madeCells, I64]) fun i h1 h2 => ?_
  simp [madeCells, I64, Nat.mod_one]
theorem made_own (w : World) (n B : Nat) (hn : n ≤ 100000) (hB : B ≤ w.heap.size) : OwnL (w.alloc (.cells (madeCells #[.int .i64 0] n) 2)) B (.slice (some ⟨w.heap.size, 0, none⟩) n n) (List.replicate n 0) := by
  have hs : (madeCells #[.int .i64 0] n).toList.length = n := by rw [made_zeros, I64_len, List.length_replicate]
  unfold OwnL
  rw [List.length_replicate]
  refine ⟨by rw [I64_len, List.length_replicate, Nat.mul_one], .inr ⟨w.heap.size, n, _, rfl, hB, heap_alloc_new w _, Nat.le_refl _, by unfold maxLen; omega, by rw [← Array.length_toList, hs, Nat.mul_one], ?_⟩⟩
  rw [made_zeros, List.take_of_length_le (by rw [I64_len, List.length_replicate]; omega)]
theorem grown_cell {w w' : World} {v : Value} {B i : Nat} {l : List Int} (h : OwnL w B v l) (hg : w.grownBy w' none) : OwnL w' B v l := h.kept hg (own_or _)
theorem grown_new {w w' : World} (h : w.grownBy w' (Option.some w.heap.size)) : w.grownBy w' none := ⟨h.os, h.tape, h.output, h.size, fun k hk _ => h.block k hk (by simp; omega)⟩
set_option maxRecDepth 100000 in
set_option maxHeartbeats 1000000 in
theorem cells_any {P : Nat → Prop} {w : World} {b : Nat} {T : Tr} (h : TA P w b T) (hs : T.size ≤ 100000) (hf : T.fs.length ≤ T.size) : Calls Try.prog 21 #[.pointer (some ⟨b, 0, none⟩)] w (CellsP w T) := by
  obtain ⟨v1, v2, v3, m, h1, h2⟩ := h.parts
  have c0 := h1.c0
  have hm := madeL T.size hs w
  have hsz : ¬ ((268435455 : Int) < (T.size : Int)) := by omega
  have HO : Hid (OwnL (w.alloc (.cells (madeCells #[.int .i64 0] T.size) 2)) w.heap.size (.slice (some ⟨w.heap.size, 0, none⟩) T.size T.size) (T.some 0)) := by
    rw [some_zero]; exact Lib.hid (made_own w T.size _ hs (Nat.le_refl _))
  have hga := World.grownBy_alloc w (.cells (madeCells #[.int .i64 0] T.size) 2) none
  have c1 := (h1.kept hga (by simp)).c1
  obtain ⟨A, c, hv, _, _, hA⟩ := row_form h2.r1
  rw [hv] at c1
  have HH := Lib.hid h1
  have HP := Lib.hid h2
  have HV := Lib.hid hv
  have HA := Lib.hid hA
  have HF := Lib.hid hf
  have HS := Lib.hid hs
  have HG := Lib.hid hga
  have hbe : decide ((268435455 : Int) < (T.size : Int)) = false := by rw [decide_eq_false_iff_not]; omega
  clear h h1 h2 hv hA hf hs hga hsz
  go_enter Try.func21, Try.ntmps21
  go_wp2_with fail
  generalize w.alloc (.cells (madeCells #[.int .i64 0] T.size) 2) = w1 at *
  go_loopw [27] (fun i wr => ∃ j : Nat, j ≤ T.fs.length ∧ i = .int .i64 (j : Int) ∧ Hid (OwnL wr w.heap.size (.slice (some ⟨w.heap.size, 0, none⟩) T.size T.size) (T.some j)) ∧ Hid (w.grownBy wr none)) (fun i _ => T.fs.length - (intOf i).toNat)
  case atStart => exact ⟨0, Nat.zero_le _, rfl, HO, HG⟩
  case round =>
    obtain ⟨j, hj, rfl, HO2, HG2⟩ := hrel
    clear c1 c0 hm
    by_cases hlt : j < T.fs.length
    · obtain ⟨g, hg, hgl⟩ := HA.out (by omega)
      have hr := (HP.out.grown HG2.out).r1
      rw [HV.out] at hr
      subst hg
      have d0 := hr.at0 j hlt
      have d1 := hr.at1 j hlt
      have e1 : T.cell j = nth2 T.fs j := rfl
      have HE := Lib.hid (some_succ T j)
      rw [e1] at HE
      generalize nth2 T.fs j = y at *
      have hga := World.grownBy_alloc wr (.cells #[.int .i64 y.1, .int .i64 y.2] 66) none
      have HO3 := HO2.out.kept hga (own_or _)
      have HL : (T.some j).length = T.size := some_len T j
      have HO4 : OwnL (wr.alloc (.cells #[.int .i64 y.1, .int .i64 y.2] 66)) w.heap.size (.slice (some ⟨w.heap.size, 0, none⟩) (T.some j).length T.size) (T.some j) := by rw [HL]; exact HO3
      have q0 := HO4.cell j (by rw [HL]; have := HF.out; omega)
      have qf := HO4.frozen j
      obtain ⟨hst, hgst⟩ := HO4.store j y.1
      rw [HE.out, HL] at hst
      have HST := Lib.hid hst
      have HGST := Lib.hid (World.grownBy.trans (World.Kgrow (World.grownBy.trans HG2.out hga) w.heap.size) hgst)
      have hji : (j : Int) < (T.fs.length : Int) := by omega
      have hjs : (j : Int) < (T.size : Int) := by have := HF.out; omega
      have hsz : w.heap.size < wr.heap.size := by have := (World.ownsRow.lt HO2.out w.heap.size rfl).2; omega
      have HSZ := Lib.hid hsz
      have HLT := Lib.hid hlt
      have hjb : j < 100000 := by have h2 := HF.out; have h3 := HS.out; omega
      clear hr hst hgst hga HO3 HL HO4 e1 hlt hsz
      go_wp2_with fail
      go_roundw
      case rel => exact ⟨j + 1, by have := HLT.out; omega, by go_num, HST, Lib.hid (grown_new HGST.out)⟩
      case measure => have := HLT.out; simp [intOf]; omega
    · have e1 : j = T.fs.length := by omega
      subst e1
      rw [some_all] at HO2
      have hP := HP.out.grown HG2.out
      have hH := HH.out.kept HG2.out (by simp)
      have c2 := hH.c2
      have HOW := Lib.hid (hP.e.owns noElem)
      clear hP hH hlt
      go_wp2_with (first | (at_range; refine wpList_range_own _ rfl _ 54 rfl 3 66 law Try.underlying54 _ m 0 (.map []) rfl HOW.out ?_; intro w0 hrg0 hg0 hs0) | go_in)
      go_frame
      have HR := Lib.hid hrg0
      have HO5 := Lib.hid (HO2.out.kept hg0 (own_or _))
      have HG5 := Lib.hid (World.grownBy.trans HG2.out hg0)
      clear hrg0 hg0 hs0 HOW c2
      generalize wr.heap.size = R at *
      go_loopw [43] (fun _ wq => Hid (wq.ranges Try.prog 3 noElem m R 0 (.map []) (Maps.has (.map [] : DataW Unit)) 0) ∧ Hid (OwnL wq w.heap.size (.slice (Option.some ⟨w.heap.size, 0, none⟩) T.size T.size) T.cells) ∧ Hid (w.grownBy wq none)) (fun _ _ => 0)
      case atStart => exact ⟨HR, HO5, HG5⟩
      case round =>
        obtain ⟨HR2, HO6, HG6⟩ := hrel
        go_wp2_with (first | (at_next; refine next_emp _ rfl _ rfl m R _ rfl HR2.out ?_) | go_in)
        go_ret
        exact ⟨_, rfl, HO6.out, HG6.out⟩
end Go.Proofs.Ytafcecacldafgaa
