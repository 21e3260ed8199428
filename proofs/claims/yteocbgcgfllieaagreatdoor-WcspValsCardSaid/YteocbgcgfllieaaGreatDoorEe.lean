/- The assignments that WcspVals lays (no statement of its own). -/
import Derived.Test.YteocbgcgfllieaaGreatDoorEb
import Derived.Test.YteocbgcgfllieaaGreatDoorEc
import Derived.Test.YteocbgcgfllieaaGreatDoorDi
import Derived.Test.YteocbgcgfllieaaGreatDoorMgU
namespace Go.Proofs.YteocbgcgfllieaaGreatDoor
open Go.RowKit
set_option linter.unusedVariables false
set_option maxRecDepth 100000 in
theorem slice_headI (A : Option Addr) (n m c : Nat) (hm : m ≤ c) (W : World) : (Instr.slice 23 (.slice A n c) none (some (.int .i64 (m : Int))) none).run Tryz.prog W = .ok (.slice A m c) W := by
  rw [run_slice_h (P := Tryz.prog) (w := W) 23 A n c Tryz.underlying23 .i64 (m : Int) (by omega) (by omega)]
  have hs : (sizeOf (Tryz.prog.elem 23)).run Tryz.prog W = .ok 1 W := by
    show (Go.sizeOf 3).run Tryz.prog W = .ok 1 W
    simp [Go.sizeOf]
    rfl
  rw [hs]
  show Result.ok (sliced A 0 (m : Int).toNat c 1) W = _
  have e : A.map (fun a : Addr => a.add (0 * 1)) = A := by
    cases A with
    | none => rfl
    | some a => simp [Addr.add]
  unfold sliced
  simp [Addr.add]
def fillG (n : Nat) (g : Nat → Nat) (j : Nat) : List Nat := (List.range n).map fun i => if i < j then g i else 0
def rngG (g : Nat → Nat) (j : Nat) : List Nat := (List.range j).map g
theorem fillG_len (n : Nat) (g : Nat → Nat) (j : Nat) : (fillG n g j).length = n := by simp [fillG]
theorem fillG_nth (n : Nat) (g : Nat → Nat) (j i : Nat) (h : i < n) : nth (fillG n g j) i = if i < j then g i else 0 := by simp [nth, fillG, List.getD, h]
theorem fillG_zero (n : Nat) (g : Nat → Nat) : fillG n g 0 = List.replicate n 0 := by simp [fillG, List.map_const']
theorem fillG_set (n : Nat) (g : Nat → Nat) (j : Nat) (h : j < n) : (fillG n g j).set j (g j) = fillG n g (j + 1) := by
  refine nth_eq (by simp [fillG_len]) fun i hi => ?_
  rw [List.length_set, fillG_len] at hi
  rw [fillG_nth _ _ _ _ hi]
  unfold nth
  rw [List.getD_eq_getElem?_getD, List.getElem?_set]
  by_cases e : j = i
  · subst e; simp [fillG_len, h]
  · rw [if_neg e, ← List.getD_eq_getElem?_getD]
    show nth (fillG n g j) i = _
    rw [fillG_nth _ _ _ _ hi]
    by_cases h1 : i < j
    · rw [if_pos h1, if_pos (by omega)]
    · rw [if_neg h1, if_neg (by omega)]
theorem fillG_all (n : Nat) (g : Nat → Nat) : fillG n g n = rngG g n := by
  unfold fillG rngG
  refine List.map_congr_left fun i hi => ?_
  rw [if_pos (List.mem_range.1 hi)]
theorem rngG_len (g : Nat → Nat) (j : Nat) : (rngG g j).length = j := by simp [rngG]
theorem rngG_snoc (g : Nat → Nat) (j : Nat) : rngG g (j + 1) = rngG g j ++ [g j] := by simp [rngG, List.range_succ]
theorem Own.objI {W : World} {base : Nat} {v : Value} {l : List Nat} (h : Own W base v l) : ∀ g, v.ownBlock = some g → ∃ cur, W.heap[g]? = some (.cells cur 3 (0, 0)) := by
  intro g hg
  obtain ⟨_, ⟨rfl, hn⟩ | ⟨g', cap, cur, rfl, hb, hh, _⟩⟩ := h
  · simp [Value.ownBlock] at hg
  · simp [Value.ownBlock] at hg
    subst hg
    exact ⟨cur, hh⟩
theorem Own.keepBl {w w' : World} {base : Nat} {v : Value} {l : List Nat} (h : Own w base v l) (hk : ∀ g, v.ownBlock = some g → g < w.heap.size → base ≤ g → w'.heap[g]? = w.heap[g]?) : Own w' base v l := by
  obtain ⟨h1, ⟨rfl, hn⟩ | ⟨g, cap, cur, rfl, hb', hh, hm, hx, hs, ht⟩⟩ := h
  · exact ⟨h1, .inl ⟨rfl, hn⟩⟩
  · exact ⟨h1, .inr ⟨g, cap, cur, rfl, hb', (hk g rfl (Array.getElem?_eq_some_iff.1 hh).1 hb').trans hh, hm, hx, hs, ht⟩⟩
/-- Both lists under way. -/
structure VI (wo W : World) (n : Nat) (g : Nat → Nat) (j : Nat) (v : Value) : Prop where
  t : Own W wo.heap.size (.slice (some ⟨wo.heap.size, 0, none⟩) n n) (fillG n g j)
  y : Own6 W wo.heap.size v (rngG g j)
  b : Below wo.heap.size wo W
theorem VI.ne {W : World} {base n : Nat} {p : Nat} {v : Value} {l m : List Nat} (h : Own W base (.slice (some ⟨p, 0, none⟩) n n) l) (k : Own6 W base v m) : v.ownBlock ≠ some p := fun e => by
  obtain ⟨cur, h1⟩ := h.objI p rfl
  obtain ⟨_, _, cur', h2⟩ := k.obj p e
  rw [h1] at h2
  injection h2 with h2
  injection h2 with _ h3
  exact absurd h3 (by decide)
theorem VI.store {wo W : World} {n : Nat} {g : Nat → Nat} {j : Nat} {v : Value} (h : VI wo W n g j v) (hj : j < n) :
    W.cell? ⟨wo.heap.size, j, none⟩ = some (.int .i64 0) ∧ W.frozen? ⟨wo.heap.size, j, none⟩ = false ∧ (W.setCell ⟨wo.heap.size, j, none⟩ (.int .i64 (g j : Int))).cell? ⟨wo.heap.size, j, none⟩ = some (.int .i64 (g j : Int)) ∧
      Own (W.setCell ⟨wo.heap.size, j, none⟩ (.int .i64 (g j : Int))) wo.heap.size (.slice (some ⟨wo.heap.size, 0, none⟩) n n) (fillG n g (j + 1)) ∧ Own6 (W.setCell ⟨wo.heap.size, j, none⟩ (.int .i64 (g j : Int))) wo.heap.size v (rngG g j) ∧ Below wo.heap.size wo (W.setCell ⟨wo.heap.size, j, none⟩ (.int .i64 (g j : Int))) := by
  obtain ⟨q, e, h1, h2, h3, h4, h5, h6⟩ := h.t.put (j := j) (by rw [fillG_len]; exact hj) (fillG_len _ _ _) (g j)
  injection e with e
  injection e with e _ _
  subst e
  rw [fillG_nth _ _ _ _ hj, if_neg (Nat.lt_irrefl _)] at h3
  rw [fillG_set n g j hj] at h5
  refine ⟨h3, h4, ?_, h5, h.y.keepB (fun q e h7 _ => h6.block q h7 (fun e2 => VI.ne h.t h.y (e.trans e2))), h.b.setCell (p := ⟨wo.heap.size, j, none⟩) (Nat.le_refl _) _⟩
  obtain ⟨A, c, e, hI⟩ := h5.form
  injection e with e1 e2 e3
  subst e1
  obtain ⟨g', o', e4, hc⟩ := hI.at_ (i := j) (by rw [fillG_len]; exact hj)
  injection e4 with e4
  injection e4 with e5 e6
  subst e5 e6
  rw [Nat.zero_add, fillG_nth _ _ _ _ hj, if_pos (Nat.lt_succ_self _)] at hc
  exact hc
theorem VI.push {wo W1 W2 W3 : World} {n : Nat} {g : Nat → Nat} {j : Nat} {v v' : Value} (h1 : Own W1 wo.heap.size (.slice (some ⟨wo.heap.size, 0, none⟩) n n) (fillG n g (j + 1))) (hb : Below wo.heap.size wo W1) (na : Below W1.heap.size W1 W2) (h2 : Own6 W2 wo.heap.size v (rngG g j))
    (h3 : Own6 W3 wo.heap.size v' (rngG g j ++ [g j])) (hg : W2.grownBy W3 v.ownBlock) : VI wo W3 n g (j + 1) v' := by
  have t2 := h1.keepBl (w' := W2) (fun q _ h _ => na.block q h)
  have b2 := hb.trans (na.mono hb.size)
  refine ⟨t2.keepBl (fun q e h _ => hg.block q h (fun e2 => VI.ne (t2) h2 ?_)), by rw [rngG_snoc]; exact h3, b2.grown hg b2.size (fun q e => (h2.lt q e).1)⟩
  simp [Value.ownBlock] at e
  rw [e, e2]
/-- The values of the k-th assignment. -/
def valG (sizes : List Nat) (k p i : Nat) : Nat := (k * (i + 1) + p) % nth sizes i
theorem valG_in (sizes : List Nat) (k p : Nat) (hs : ∀ x ∈ sizes, 1 ≤ x ∧ x ≤ 32) : InL sizes (rngG (valG sizes k p) sizes.length) := by
  refine inL_iff.2 ⟨rngG_len _ _, fun i hi => ?_⟩
  have e : nth (rngG (valG sizes k p) sizes.length) i = valG sizes k p i := by simp [nth, rngG, List.getD, hi]
  rw [e]
  unfold valG
  exact Nat.mod_lt _ (by have := hs _ (nth_mem (l := sizes) hi); omega)
theorem valG_num (sizes : List Nat) (k p i s : Nat) (hs : nth sizes i = s) (h1 : 1 ≤ s) (hk : k ≤ 11) (hi : i ≤ 63) (hp : p ≤ 400) :
    wrap64 ((i : Int) + 1) = (i : Int) + 1 ∧ wrap64 ((k : Int) * ((i : Int) + 1)) = (k : Int) * ((i : Int) + 1) ∧ wrap64 ((k : Int) * ((i : Int) + 1) + (p : Int)) = (k : Int) * ((i : Int) + 1) + (p : Int) ∧ ((k : Int) * ((i : Int) + 1) + (p : Int)).tmod (s : Int) = ((valG sizes k p i : Nat) : Int) ∧ 0 ≤ (k : Int) * ((i : Int) + 1) ∧ (k : Int) * ((i : Int) + 1) ≤ 704 := by
  have e : (k : Int) * ((i : Int) + 1) = ((k * (i + 1) : Nat) : Int) := by rw [Int.natCast_mul]; rfl
  have hb : k * (i + 1) ≤ 704 := Nat.le_trans (Nat.mul_le_mul hk (by omega : i + 1 ≤ 64)) (by decide)
  refine ⟨IntWalk.wrap64_in _ (by omega), ?_, ?_, ?_, by omega, by omega⟩
  · rw [e]; exact IntWalk.wrap64_in _ (by omega)
  · rw [e]; exact IntWalk.wrap64_in _ (by omega)
  · rw [e, ← Int.natCast_add, Int.tmod_eq_emod_of_nonneg (by omega)]
    unfold valG
    rw [hs]
    exact (Int.natCast_emod _ _).symm
end Go.Proofs.YteocbgcgfllieaaGreatDoor
