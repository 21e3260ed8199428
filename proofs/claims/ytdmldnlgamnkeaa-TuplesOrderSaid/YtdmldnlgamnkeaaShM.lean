/- Contract of shape.Same, and stores into a slice of the call's own (no statement of its own). Condition: at most six sizes. -/
import Derived.Test.YtdmldnlgamnkeaaCame
import Derived.ChangeKeysEq
namespace Go.Proofs.Ytdmldnlgamnkeaa
open Go.RowKit
set_option linter.unusedVariables false
theorem cells_int : Try.prog.cellsOf 3 = 1 := by kernel_rfl
theorem part_int (W : World) (xs : Array Value) (j : Nat) (v : Value) (hj : xs[j]? = some v) : (part 3 xs (j * 1)).run Try.prog W = .ok v W := by
  rw [Nat.mul_one]
  simp [part, isAgg, run_underlying Try.underlying3, hj]
theorem eq_step (W : World) (xs ys : Array Value) (i : Nat) (is : List Nat) (a b : Int) (ha : xs[i]? = some (.int .i64 a)) (hb : ys[i]? = some (.int .i64 b)) :
    (Op.eqItems 9998 3 1 xs ys (i :: is)).run Try.prog W = if a == b then (Op.eqItems 9998 3 1 xs ys is).run Try.prog W else .ok false W := by
  have he : (Op.equalIn 9998 3 (.int .i64 a) (.int .i64 b)).run Try.prog W = .ok (a == b) W := run_equalIn_int W 9997 3 .i64 .i64 a b Try.underlying3
  simp only [Op.eqItems, Sem.run_bind, part_int W xs i _ ha, part_int W ys i _ hb, Result.andThen_ok, he]
  cases a == b <;> simp
theorem run_eq6 (W : World) (a0 a1 a2 a3 a4 a5 b0 b1 b2 b3 b4 b5 : Int) :
    (Op.equalIn 9999 73 (.agg #[.int .i64 a0, .int .i64 a1, .int .i64 a2, .int .i64 a3, .int .i64 a4, .int .i64 a5]) (.agg #[.int .i64 b0, .int .i64 b1, .int .i64 b2, .int .i64 b3, .int .i64 b4, .int .i64 b5])).run Try.prog W =
      .ok ((a0 == b0) && ((a1 == b1) && ((a2 == b2) && ((a3 == b3) && ((a4 == b4) && (a5 == b5)))))) W := by
  obtain ⟨i0, hi, hz0, hz1, hz2⟩ := info_parts info_int
  rw [run_equalIn_array W 9998 _ _ Try.underlying73 hi, cells_int, show List.range 6 = [0, 1, 2, 3, 4, 5] from rfl]
  rw [eq_step W _ _ 0 _ a0 b0 rfl rfl, eq_step W _ _ 1 _ a1 b1 rfl rfl, eq_step W _ _ 2 _ a2 b2 rfl rfl, eq_step W _ _ 3 _ a3 b3 rfl rfl, eq_step W _ _ 4 _ a4 b4 rfl rfl, eq_step W _ _ 5 _ a5 b5 rfl rfl]
  cases a0 == b0 <;> cases a1 == b1 <;> cases a2 == b2 <;> cases a3 == b3 <;> cases a4 == b4 <;> cases a5 == b5 <;> simp [Op.eqItems]
theorem sh_ext {l m : List Nat} (hl : l.length ≤ 6) (h : l.length = m.length) (h0 : nth l 0 = nth m 0) (h1 : nth l 1 = nth m 1) (h2 : nth l 2 = nth m 2) (h3 : nth l 3 = nth m 3) (h4 : nth l 4 = nth m 4) (h5 : nth l 5 = nth m 5) : l = m := by
  refine nth_eq h fun i hi => ?_
  rcases (by omega : i = 0 ∨ i = 1 ∨ i = 2 ∨ i = 3 ∨ i = 4 ∨ i = 5) with rfl | rfl | rfl | rfl | rfl | rfl <;> assumption
theorem grown_then {X Y Z : World} {row : Option Nat} (h : X.grownBy Y row) (k : Y.grownBy Z row) : X.grownBy Z row :=
  ⟨k.os.trans h.os, k.tape.trans h.tape, k.output.trans h.output, Nat.le_trans h.size k.size, fun i hi hne => (k.block i (Nat.lt_of_lt_of_le hi h.size) hne).trans (h.block i hi hne)⟩
theorem ShAt.grown {X Y : World} {row : Option Nat} {g : Nat} {l : List Nat} (h : ShAt X g l) (hg : X.grownBy Y row) (hne : some g ≠ row) : ShAt Y g l := by
  have e := hg.block g h.lt hne
  have c : ∀ i, Y.cell? ⟨g, i, none⟩ = X.cell? ⟨g, i, none⟩ := fun i => World.cell?_of_block (a := ⟨g, i, none⟩) e
  exact ⟨(c 0).trans h.c0, (c 1).trans h.c1, (c 2).trans h.c2, (c 3).trans h.c3, (c 4).trans h.c4, (c 5).trans h.c5, (c 6).trans h.c6, Nat.lt_of_lt_of_le h.lt hg.size, fun i => (World.frozen?_of_block (a := ⟨g, i, none⟩) e).trans (h.fz i)⟩
/-- A store of a number at a place of a slice of the call's own. -/
theorem Own.store {W : World} {base c : Nat} {A : Option Addr} {l : List Nat} (h : Own W base (.slice A l.length c) l) {j : Nat} (hj : j < l.length) (y : Nat) :
    ∃ g, A = some ⟨g, 0, none⟩ ∧ base ≤ g ∧ g < W.heap.size ∧ W.cell? ⟨g, j, none⟩ = some (.int .i64 (nth l j : Int)) ∧ W.frozen? ⟨g, j, none⟩ = false ∧
      Own (W.setCell ⟨g, j, none⟩ (.int .i64 (y : Int))) base (.slice A l.length c) (l.set j y) ∧ W.grownBy (W.setCell ⟨g, j, none⟩ (.int .i64 (y : Int))) (some g) := by
  obtain ⟨A', c', e, hI⟩ := h.form
  obtain ⟨rfl, rfl⟩ : A = A' ∧ c = c' := by injection e with e1 e2 e3; exact ⟨e1, e3⟩
  have h' := h
  obtain ⟨h1, ⟨h2, hn⟩ | ⟨g, cap, cur, h2, hb, hh, hm, hx, hs, ht⟩⟩ := h
  · omega
  · injection h2 with e1 e2 e3
    subst e1 e3
    obtain ⟨g', o', e4, hc⟩ := hI.at_ hj
    injection e4 with e4
    injection e4 with e5 e6
    subst e5 e6
    rw [Nat.zero_add] at hc
    have hst := World.ownsRow.stored (h' : W.ownsRow base 3 1 _ l.length _) j (.int .i64 (y : Int))
    have hset : (intC l).set j (.int .i64 (y : Int)) = intC (l.set j y) := by simp [intC, List.map_set]
    rw [hset] at hst
    exact ⟨g, rfl, hb, (Array.getElem?_eq_some_iff.1 hh).1, hc, World.ownsRow.frozenAt (h' : W.ownsRow base 3 1 _ l.length _) j, by unfold Own; rw [List.length_set]; exact hst.1, hst.2⟩
theorem Own.store' {W : World} {base c n : Nat} {A : Option Addr} {l : List Nat} (h : Own W base (.slice A n c) l) {j : Nat} (hj : j < l.length) (hn : l.length = n) (y : Nat) :
    ∃ g, A = some ⟨g, 0, none⟩ ∧ base ≤ g ∧ g < W.heap.size ∧ W.cell? ⟨g, j, none⟩ = some (.int .i64 (nth l j : Int)) ∧ W.frozen? ⟨g, j, none⟩ = false ∧
      Own (W.setCell ⟨g, j, none⟩ (.int .i64 (y : Int))) base (.slice A n c) (l.set j y) ∧ W.grownBy (W.setCell ⟨g, j, none⟩ (.int .i64 (y : Int))) (some g) := by
  subst hn
  exact h.store hj y
end Go.Proofs.Ytdmldnlgamnkeaa
