/- The contracts of trail's cell and put (no statement of its own). -/
import Derived.Test.YtafcecacldafgaaTrB
namespace Go.Proofs.Ytafcecacldafgaa
open Go.RowKit
open Go.Maps (Keyed)
set_option linter.unusedVariables false
theorem law : Keyed Try.prog 3 := Maps.int_keyed Try.underlying3
theorem wf_int {x : Int} (h1 : -9223372036854775808 ≤ x) (h2 : x ≤ 9223372036854775807) : (Lit.int .i64 x).wf = true := WalkArith.wf_i64 ⟨h1, h2⟩
theorem zeroC (w : World) : (zeroValue 66).run Try.prog w = .ok (.agg #[.int .i64 0, .int .i64 0]) w := by kernel_rfl
/-- How an element is read: not at all (there is none). -/
noncomputable def noElem (v : Value) : Option (DataW Unit × List MemPlace) := by classical exact if v = .agg #[.int .i64 0, .int .i64 0] then some (.lit (.bool false), []) else none
theorem Emp.owns {w : World} {m : Nat} (h : Emp w m) (R : Value → Option (DataW Unit × List MemPlace)) : w.ownsMap Try.prog 3 R m 0 (.map []) :=
  ⟨#[], 0, h, ⟨by simp, MapKept.stamped_empty 0, by simp⟩, Nat.le_refl _, rfl⟩
theorem Emp.look {w : World} {m : Nat} (h : Emp w m) {x : Int} (hx : (Lit.int .i64 x).wf = true) :
    (Instr.lookup 54 (.map (some m)) (.int .i64 x) false).run Try.prog w = .ok (.agg #[.int .i64 0, .int .i64 0]) w := by
  obtain ⟨v, ps, hrun, hv⟩ := (h.owns noElem).lookup law Try.underlying54 (zeroC w) (zd := .lit (.bool false)) (zp := []) (by simp [noElem]) (Maps.keyOf_int_mk (P := Try.prog) Try.underlying3 hx)
  rw [hrun]
  unfold noElem at hv
  split at hv
  · rename_i e; rw [e]
  · cases hv
/-- What stands in a cell. -/
def Tr.cell (T : Tr) (i : Nat) : Cl := nth2 T.fs i
def AndG (w : World) (v : Value) (e : Ending) (w' : World) : Prop := e = .returned v ∧ w.grownBy w' none
theorem AndG.mono {w : World} {v : Value} {e : Ending} {w' : World} (h : AndG w v e w') : e = .returned v ∧ w.grownBy w' none := h
theorem res_cell (x y : Int) (w : World) (tmps : Array Value) (h : tmps.getD 4 undef = .pointer (some ⟨w.heap.size, 0, none⟩)) :
    (results Try.f29 tmps).run Try.prog (w.alloc (.cells #[.int .i64 x, .int .i64 y] 66)) = .ok (.agg #[.int .i64 x, .int .i64 y]) (w.alloc (.cells #[.int .i64 x, .int .i64 y] 66)) := by
  have e : Try.f29.results = #[.cell 4 66] := rfl
  have e1 := heap_alloc_new w (.cells #[.int .i64 x, .int .i64 y] 66)
  have k0 : (w.alloc (.cells #[.int .i64 x, .int .i64 y] 66)).cell? ⟨w.heap.size, 0, none⟩ = some (.int .i64 x) := by rw [cell_of_row _ _ _ _ _ _ e1]; rfl
  have k1 : (w.alloc (.cells #[.int .i64 x, .int .i64 y] 66)).cell? ⟨w.heap.size, 1, none⟩ = some (.int .i64 y) := by rw [cell_of_row _ _ _ _ _ _ e1]; rfl
  generalize w.alloc (.cells #[.int .i64 x, .int .i64 y] 66) = w1 at *
  have h' : tmps[4]?.getD undef = .pointer (some ⟨w.heap.size, 0, none⟩) := by rw [← Array.getD_eq_getD_getElem?]; exact h
  simp only [results, e]
  go_simp
set_option maxRecDepth 100000 in
theorem cell_any {P : Nat → Prop} {w : World} {b i : Nat} {T : Tr} (h : TA P w b T) (hi : (i : Int) ≤ 9223372036854775807) :
    Calls Try.prog 29 #[.pointer (some ⟨b, 0, none⟩), .int .i64 (i : Int)] w (AndG w (.agg #[.int .i64 (T.cell i).1, .int .i64 (T.cell i).2])) := by
  obtain ⟨v1, v2, v3, m, h1, h2, h3, h4, h5, _⟩ := h
  have hga := World.grownBy_alloc w (.cells #[.int .i64 0, .int .i64 0] 66) none
  have hlk := Emp.look (h5.kept hga (by simp)) (wf_int (x := (i : Int)) (by omega) hi)
  have c1 := (h1.kept hga (by simp)).c1
  have c2 := (h1.kept hga (by simp)).c2
  by_cases hl : i < T.fs.length
  · obtain ⟨A, c, rfl, _, _, hA⟩ := row_form h2
    obtain ⟨g, rfl, hg⟩ := hA (by omega)
    have h2a : Row2 _ _ _ := World.ownsRow.alloc h2 (.cells #[.int .i64 0, .int .i64 0] 66)
    have d0 := h2a.at0 i hl
    have d1 := h2a.at1 i hl
    have e1 : T.cell i = nth2 T.fs i := rfl
    rw [e1]
    have hl' : (i : Int) < (T.fs.length : Int) := by omega
    clear h1 h2 h3 h4 h5 hA hlk c2 hl e1 h2a hga
    generalize nth2 T.fs i = y at *
    go_enter Try.func29, Try.ntmps29
    go_wp2_with fail
    refine bodyPost_ret (v := .agg #[.int .i64 y.1, .int .i64 y.2]) ?_ rfl ⟨rfl, World.grownBy_alloc _ _ _⟩
    exact res_cell _ _ _ _ rfl
  · obtain ⟨A, c, rfl, _⟩ := row_form h2
    have hl' : ¬ (i : Int) < (T.fs.length : Int) := by omega
    have e1 : T.cell i = (0, 0) := by unfold Tr.cell nth2; rw [List.getD_eq_getElem?_getD, List.getElem?_eq_none (by omega)]; rfl
    rw [e1]
    clear h1 h2 h3 h4 h5 e1 hl hga
    go_enter Try.func29, Try.ntmps29
    go_wp2_with fail
    refine bodyPost_ret (v := .agg #[.int .i64 0, .int .i64 0]) ?_ rfl ⟨rfl, World.grownBy_alloc _ _ _⟩
    exact res_cell _ _ _ _ rfl
end Go.Proofs.Ytafcecacldafgaa
