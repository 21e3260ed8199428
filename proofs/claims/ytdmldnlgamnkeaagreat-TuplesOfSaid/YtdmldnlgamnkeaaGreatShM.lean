/- Contract of shape.Same, and stores into a slice of the call's own (no statement of its own). Condition: at most six sizes. -/
import Derived.Test.YtdmldnlgamnkeaaGreatCame
import Derived.ChangeKeysEq
namespace Go.Proofs.YtdmldnlgamnkeaaGreat
open Go.RowKit
set_option linter.unusedVariables false
theorem cells_int : Tryz.prog.cellsOf 3 = 1 := by kernel_rfl
theorem part_int (W : World) (xs : Array Value) (j : Nat) (v : Value) (hj : xs[j]? = some v) : (part 3 xs (j * 1)).run Tryz.prog W = .ok v W := by
  rw [Nat.mul_one]
  simp [part, isAgg, run_underlying Tryz.underlying3, hj]
theorem eq_step (W : World) (xs ys : Array Value) (i : Nat) (is : List Nat) (a b : Int) (ha : xs[i]? = some (.int .i64 a)) (hb : ys[i]? = some (.int .i64 b)) :
    (Op.eqItems 9998 3 1 xs ys (i :: is)).run Tryz.prog W = if a == b then (Op.eqItems 9998 3 1 xs ys is).run Tryz.prog W else .ok false W := by
  have he : (Op.equalIn 9998 3 (.int .i64 a) (.int .i64 b)).run Tryz.prog W = .ok (a == b) W := run_equalIn_int W 9997 3 .i64 .i64 a b Tryz.underlying3
  simp only [Op.eqItems, Sem.run_bind, part_int W xs i _ ha, part_int W ys i _ hb, Result.andThen_ok, he]
  cases a == b <;> simp
theorem run_eq6 (W : World) (a0 a1 a2 a3 a4 a5 b0 b1 b2 b3 b4 b5 : Int) :
    (Op.equalIn 9999 54 (.agg #[.int .i64 a0, .int .i64 a1, .int .i64 a2, .int .i64 a3, .int .i64 a4, .int .i64 a5]) (.agg #[.int .i64 b0, .int .i64 b1, .int .i64 b2, .int .i64 b3, .int .i64 b4, .int .i64 b5])).run Tryz.prog W =
      .ok ((a0 == b0) && ((a1 == b1) && ((a2 == b2) && ((a3 == b3) && ((a4 == b4) && (a5 == b5)))))) W := by
  obtain ⟨i0, hi, hz0, hz1, hz2⟩ := info_parts info_int
  rw [run_equalIn_array W 9998 _ _ Tryz.underlying54 hi, cells_int, show List.range 6 = [0, 1, 2, 3, 4, 5] from rfl]
  rw [eq_step W _ _ 0 _ a0 b0 rfl rfl, eq_step W _ _ 1 _ a1 b1 rfl rfl, eq_step W _ _ 2 _ a2 b2 rfl rfl, eq_step W _ _ 3 _ a3 b3 rfl rfl, eq_step W _ _ 4 _ a4 b4 rfl rfl, eq_step W _ _ 5 _ a5 b5 rfl rfl]
  cases a0 == b0 <;> cases a1 == b1 <;> cases a2 == b2 <;> cases a3 == b3 <;> cases a4 == b4 <;> cases a5 == b5 <;> simp [Op.eqItems]
theorem same_yes (l : List Nat) (w : World) : Calls Tryz.prog 39 #[shV l, shV l] w fun e w' => e = .returned (.bool true) ∧ Below w.heap.size w w' := by
  have he := run_eq6
  go_enter Tryz.func39, Tryz.ntmps39
  go_wp2
  go_ret
  exact ⟨ret_bool (by simp), by go_grown⟩
theorem sh_ext {l m : List Nat} (hl : l.length ≤ 6) (h : l.length = m.length) (h0 : nth l 0 = nth m 0) (h1 : nth l 1 = nth m 1) (h2 : nth l 2 = nth m 2) (h3 : nth l 3 = nth m 3) (h4 : nth l 4 = nth m 4) (h5 : nth l 5 = nth m 5) : l = m := by
  refine nth_eq h fun i hi => ?_
  rcases (by omega : i = 0 ∨ i = 1 ∨ i = 2 ∨ i = 3 ∨ i = 4 ∨ i = 5) with rfl | rfl | rfl | rfl | rfl | rfl <;> assumption
theorem same_no (l m : List Nat) (w : World) (hl : l.length ≤ 6) (hne : l ≠ m) : Calls Tryz.prog 39 #[shV l, shV m] w fun e w' => e = .returned (.bool false) ∧ Below w.heap.size w w' := by
  by_cases hlen : l.length = m.length
  · have he : ∀ W, (Op.equalIn 9999 54 (.agg #[szV l 0, szV l 1, szV l 2, szV l 3, szV l 4, szV l 5]) (.agg #[szV m 0, szV m 1, szV m 2, szV m 3, szV m 4, szV m 5])).run Tryz.prog W = .ok false W := by
      intro W
      rw [run_eq6]
      refine congrArg (fun b => Result.ok b W) ?_
      rw [Bool.eq_false_iff]
      intro h
      simp only [Bool.and_eq_true, beq_iff_eq, Int.natCast_inj] at h
      exact hne (sh_ext hl hlen h.1 h.2.1 h.2.2.1 h.2.2.2.1 h.2.2.2.2.1 h.2.2.2.2.2)
    clear hne
    go_enter Tryz.func39, Tryz.ntmps39
    go_wp2
    go_ret
    exact ⟨rfl, by go_grown⟩
  · have hd : ((l.length : Int) == (m.length : Int)) = false := by rw [beq_eq_false_iff_ne]; omega
    clear hne
    go_enter Tryz.func39, Tryz.ntmps39
    go_wp2
    go_ret
    exact ⟨rfl, by go_grown⟩
theorem grown_then {X Y Z : World} {row : Option Nat} (h : X.grownBy Y row) (k : Y.grownBy Z row) : X.grownBy Z row :=
  ⟨k.os.trans h.os, k.tape.trans h.tape, k.output.trans h.output, Nat.le_trans h.size k.size, fun i hi hne => (k.block i (Nat.lt_of_lt_of_le hi h.size) hne).trans (h.block i hi hne)⟩
theorem ShAt.grown {X Y : World} {row : Option Nat} {g : Nat} {l : List Nat} (h : ShAt X g l) (hg : X.grownBy Y row) (hne : some g ≠ row) : ShAt Y g l := by
  have e := hg.block g h.lt hne
  have c : ∀ i, Y.cell? ⟨g, i, none⟩ = X.cell? ⟨g, i, none⟩ := fun i => World.cell?_of_block (a := ⟨g, i, none⟩) e
  exact ⟨(c 0).trans h.c0, (c 1).trans h.c1, (c 2).trans h.c2, (c 3).trans h.c3, (c 4).trans h.c4, (c 5).trans h.c5, (c 6).trans h.c6, Nat.lt_of_lt_of_le h.lt hg.size, fun i => (World.frozen?_of_block (a := ⟨g, i, none⟩) e).trans (h.fz i)⟩
/-- A store of a number at a place of a slice of the call's own. -/
theorem Own.store {W : World} {base c : Nat} {A : Option Addr} {l : List Nat} (h : Own W base (.slice A l.length c) l) {j : Nat} (hj : j < l.length) (y : Nat) :
    ∃ g, A = some ⟨g, 0, none⟩ ∧ base ≤ g ∧ g < W.heap.size ∧ W.cell? ⟨g, j, none⟩ = some (.int .i64 (nth l j : Int)) ∧ W.frozen? ⟨g, j, none⟩ = false ∧
      Own (W.setCell ⟨g, j, none⟩ (.int .i64 (y : Int))) base (.slice A l.length c) (l.set j y) ∧ W.grownBy (W.setCell ⟨g, j, none⟩ (.int .i64 (y : Int))) (some g) := by
  obtain ⟨A', c', e, hI⟩ := h.form
  obtain ⟨rfl, rfl⟩ : A = A' ∧ c = c' := by injection e with e1 e2 e3; exact ⟨e1, e3⟩
  have h' := h
  obtain ⟨h1, ⟨h2, hn⟩ | ⟨g, cap, cur, h2, hb, hh, hm, hx, hs, ht⟩⟩ := h
  · omega
  · injection h2 with e1 e2 e3
    subst e1 e3
    obtain ⟨g', o', e4, hc⟩ := hI.at_ hj
    injection e4 with e4
    injection e4 with e5 e6
    subst e5 e6
    rw [Nat.zero_add] at hc
    have hst := World.ownsRow.stored (h' : W.ownsRow base 3 1 _ l.length _) j (.int .i64 (y : Int))
    have hset : (intC l).set j (.int .i64 (y : Int)) = intC (l.set j y) := by simp [intC, List.map_set]
    rw [hset] at hst
    exact ⟨g, rfl, hb, (Array.getElem?_eq_some_iff.1 hh).1, hc, World.ownsRow.frozenAt (h' : W.ownsRow base 3 1 _ l.length _) j, by unfold Own; rw [List.length_set]; exact hst.1, hst.2⟩
theorem Own.store' {W : World} {base c n : Nat} {A : Option Addr} {l : List Nat} (h : Own W base (.slice A n c) l) {j : Nat} (hj : j < l.length) (hn : l.length = n) (y : Nat) :
    ∃ g, A = some ⟨g, 0, none⟩ ∧ base ≤ g ∧ g < W.heap.size ∧ W.cell? ⟨g, j, none⟩ = some (.int .i64 (nth l j : Int)) ∧ W.frozen? ⟨g, j, none⟩ = false ∧
      Own (W.setCell ⟨g, j, none⟩ (.int .i64 (y : Int))) base (.slice A n c) (l.set j y) ∧ W.grownBy (W.setCell ⟨g, j, none⟩ (.int .i64 (y : Int))) (some g) := by
  subst hn
  exact h.store hj y
end Go.Proofs.YtdmldnlgamnkeaaGreat
