/- A row of int64 that the call itself made by append, and the law of that append (no statement of its own). Condition: at most twelve elements. -/
import Derived.Test.YtlpclbilomcaiaaLists
import Derived.OwnWalk
import Derived.Laws.AppendOwnNone
namespace Go.Proofs.Ytlpclbilomcaiaa
open Go.RowKit
set_option linter.unusedVariables false
/-- Block g, one of the call's own from base on, holds the numbers z of the first m places. -/
def Mine (w : World) (base g m : Nat) (z : Nat → Int) : Prop :=
  base ≤ g ∧ g < w.heap.size ∧ ∃ cur : Array Value, w.heap[g]? = some (.cells cur 2 (0, 0)) ∧ m ≤ cur.size ∧ ∀ i, i < m → cur[i]? = some (.int .i64 (z i))
theorem Mine.row {w : World} {base g m : Nat} {z : Nat → Int} (h : Mine w base g m z) : Row w g 0 m z := by
  obtain ⟨_, _, cur, hg, _, hc⟩ := h
  intro i hi
  rw [Nat.zero_add, cell_of_row w g i cur 2 (0, 0) hg, hc i hi]
theorem Mine.free {w : World} {base g m : Nat} {z : Nat → Int} (h : Mine w base g m z) (i : Nat) : w.frozen? ⟨g, i, none⟩ = false := by
  obtain ⟨_, _, cur, hg, _, hc⟩ := h
  simp [World.frozen?, hg]
theorem mine_of_own {w : World} {base m : Nat} {v : Value} {z : Nat → Int} (h : w.ownsRow base 2 1 v m ((List.range m).map fun i => Value.int .i64 (z i))) (hv : v ≠ .slice none 0 0) :
    ∃ g cap, v = .slice (some ⟨g, 0, none⟩) m cap ∧ Mine w base g m z := by
  obtain ⟨_, ⟨rfl, _⟩ | ⟨g, cap, cur, rfl, hb, hh, hm, _, hs, ht⟩⟩ := h
  · exact absurd rfl hv
  · refine ⟨g, cap, rfl, hb, (Array.getElem?_eq_some_iff.1 hh).1, cur, hh, by omega, fun i hi => ?_⟩
    have e : (cur.toList.take (m * 1))[i]? = some (.int .i64 (z i)) := by rw [ht]; simp [hi]
    rw [List.getElem?_take] at e
    simpa [hi] using e
theorem info2 : (Try.prog.info? 2).map (fun i => (i.zero, i.size, i.bytes)) = some (some (.int .i64 0), 1, 8) := by kernel_rfl
/-- WHAT A SLICE OF int64 THAT CAME IN IS: nil, or a row whose first n numbers are z. -/
def Came (w : World) (A : Option Addr) (n c : Nat) (z : Nat → Int) : Prop :=
  (A = none ∧ n = 0 ∧ c = 0) ∨ ∃ x, A = some x ∧ n ≤ c ∧ ∀ i, i < n → w.cell? (x.add i) = some (.int .i64 (z i))
theorem append_any {ops : Array Oper} {rest : List Oper} {o : Oper} {a : Act} {Q : Exit → Act → World → Prop} (hgd : o.guard = none) (s x : Operand)
    (ho : o.op = .call { callee := .builtin .append, args := #[s, x], argTypes := #[32, 32] })
    (w0 : World) (A : Option Addr) (n c m : Nat) (z : Nat → Int) (hA : Came w0 A n c z) (hm1 : m ≤ n) (hm2 : m ≤ 12)
    (hs : a.eval s = .slice (some ⟨w0.heap.size, 0, none⟩) 0 0) (hx : a.eval x = .slice A m c)
    (h : ∀ g cap w', Mine w' w0.heap.size g m z → Below w0.heap.size w0 w' → wpList Try.prog ops Q rest (a.put o.dst (.slice (some ⟨g, 0, none⟩) m cap)) w') :
    wpList Try.prog ops Q (o :: rest) a (w0.alloc (.cells #[] 2)) := by
  obtain ⟨i0, hi, hz0, hz1, hz2⟩ := info_parts info2
  have hown : (w0.alloc (.cells #[] 2)).ownsRow w0.heap.size 2 1 (.slice (some ⟨w0.heap.size, 0, none⟩) 0 0) 0 [] :=
    World.ownsRow_made w0 #[] 0 (Nat.le_refl _) (Nat.zero_le _) rfl
  have hb : Below w0.heap.size w0 (w0.alloc (.cells #[] 2)) := (Below.refl _ _).alloc (Nat.le_refl _) _
  rcases hA with ⟨rfl, rfl, rfl⟩ | ⟨x0, rfl, hn, hcell⟩
  · obtain rfl : m = 0 := by omega
    refine wpList_append_own_none hgd s x 32 ho w0.heap.size 2 i0 1 Try.underlying32 hi _ 0 [] hs hown hx ?_
    exact h _ 0 _ ⟨Nat.le_refl _, by simp, #[], heap_alloc_new w0 _, Nat.le_refl _, fun i hi => absurd hi (by omega)⟩ hb
  · refine wpList_append_own _ hgd s x 32 ho w0.heap.size 2 i0 (.int .i64 0) 1 8 Try.underlying32 hi hz0 hz1 hz2 rfl (by decide) _ 0 [] hs hown x0 m c ((List.range m).map fun i => Value.int .i64 (z i)) hx (by simp) ?_ ?_ (by unfold maxLen; omega) (by omega) (by simp) ?_
    · intro j u hj
      have hjm : j < m := by
        rcases Nat.lt_or_ge j m with h1 | h1
        · exact h1
        · rw [List.getElem?_eq_none (by simpa using h1)] at hj; cases hj
      rw [List.getElem?_map, List.getElem?_range hjm] at hj
      simp at hj
      subst hj
      have := hcell j (by omega)
      rw [← this]
      exact hb.cell (p := x0.add j) (World.block_lt_of_cell? _ _ (hcell j (by omega)))
    · intro u hu
      simp at hu
      obtain ⟨i, _, rfl⟩ := hu
      rfl
    · intro v' w' hown' hgrow hnil
      simp only [List.nil_append, Nat.zero_add] at hown'
      obtain ⟨g, cap, rfl, hM⟩ := mine_of_own hown' (fun e => by simpa using hnil.1 e)
      exact h g cap w' hM (hb.grown hgrow (by simp) (fun k e => by simp [Value.ownBlock] at e; omega))
theorem Mine.lt {w : World} {base g m : Nat} {z : Nat → Int} (h : Mine w base g m z) : base ≤ g ∧ g < w.heap.size := ⟨h.1, h.2.1⟩
theorem Mine.set {w : World} {base g m j : Nat} {z : Nat → Int} (h : Mine w base g m z) (hj : j < m) (v : Int) : Mine (w.setCell ⟨g, j, none⟩ (.int .i64 v)) base g m (fun i => if i = j then v else z i) := by
  obtain ⟨h1, h2, cur, hg, hm, hc⟩ := h
  refine ⟨h1, by simpa [World.setCell] using h2, cur.setIfInBounds j (.int .i64 v), ?_, by simpa using hm, fun i hi => ?_⟩
  · simp [World.setCell, Array.getElem?_modify, hg]
  · rw [Array.getElem?_setIfInBounds]
    by_cases e : j = i
    · subst e
      rw [if_pos rfl, if_pos (by omega)]
      show some (Value.int .i64 v) = some (Value.int .i64 (if j = j then v else z j))
      rw [if_pos rfl]
    · rw [if_neg e]
      show cur[i]? = some (Value.int .i64 (if i = j then v else z i))
      rw [if_neg (by omega)]
      exact hc i hi
theorem Mine.same {w : World} {base g m : Nat} {z y : Nat → Int} (h : Mine w base g m z) (hz : ∀ i, i < m → z i = y i) : Mine w base g m y := by
  obtain ⟨h1, h2, cur, hg, hm, hc⟩ := h
  exact ⟨h1, h2, cur, hg, hm, fun i hi => by rw [hc i hi, hz i hi]⟩
end Go.Proofs.Ytlpclbilomcaiaa
