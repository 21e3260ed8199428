/- Contracts of the document's Same and Index of a tuple that there isn't; the law's made, with costs of its own (no statement of its own). -/
import Derived.Test.YtdmldnlgamnkeaaGreatTp1
import Derived.Test.YtdmldnlgamnkeaaGreatTbW
import Derived.Test.YtdmldnlgamnkeaaGreatTt2
namespace Go.Proofs.YtdmldnlgamnkeaaGreat
open Go.RowKit
set_option linter.unusedVariables false
/-- No tuple of these sizes. -/
def OutL (l : List Nat) (m : Nat) (o : Nat → Int) : Prop := m ≠ l.length ∨ ∃ p, p < m ∧ p < l.length ∧ (o p < 0 ∨ (nth l p : Int) ≤ o p)
theorem own_row64 {w : World} {base n c : Nat} {A : Option Addr} {z : Nat → Int} (h : w.ownsRow base 2 1 (.slice A n c) n (costL z n)) (hn : 1 ≤ n) :
    ∃ g cur, A = some ⟨g, 0, none⟩ ∧ base ≤ g ∧ w.heap[g]? = some (.cells cur 2 (0, 0)) ∧ n ≤ cur.size ∧ ∀ i, i < n → cur[i]? = some (.int .i64 (z i)) := by
  obtain ⟨_, ⟨e, hn0⟩ | ⟨g, cap, cur, e, hb, hh, hm, _, hs, ht⟩⟩ := h
  · omega
  · injection e with e1 e2 e3
    refine ⟨g, cur, e1, hb, hh, by omega, fun i hi => ?_⟩
    have e : (cur.toList.take (n * 1))[i]? = some (.int .i64 (z i)) := by rw [ht]; simp [costL, hi]
    rw [List.getElem?_take] at e
    simpa [hi] using e
/-- What made answers: the costs lie in a block of their own. -/
def MadeOwn (w : World) (l : List Nat) (k : Int) (P : Nat) (f : Nat → Int) (e : Ending) (w' : World) : Prop :=
  ∃ g h As cs gc cc, e = .returned (.tuple #[.pointer (some ⟨g, 0, none⟩), .agg #[.slice As l.length cs, .int .i64 k, .slice (some ⟨gc, 0, none⟩) P cc]]) ∧
      TabAt w' g h l k f ∧ Ints w' As l ∧ l.length ≤ cs ∧ (∃ cur, w'.heap[gc]? = some (.cells cur 2 (0, 0)) ∧ P ≤ cur.size ∧ ∀ i, i < P → cur[i]? = some (.int .i64 (f i))) ∧ w.heap.size ≤ g ∧ w.heap.size ≤ h ∧ w.heap.size ≤ gc ∧ gc ≠ h ∧
      (∀ a : Addr, As = some a → a.block < h ∧ a.block ≠ gc) ∧ Below w.heap.size w w'
end Go.Proofs.YtdmldnlgamnkeaaGreat
