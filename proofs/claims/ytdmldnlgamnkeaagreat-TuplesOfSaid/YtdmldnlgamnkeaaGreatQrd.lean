/- A drawn region of quiet operations inside a round of a range over a function (no statement of its own). -/
import Derived.Test.YtdmldnlgamnkeaaGreatRnd
import Derived.Sort.QuietIn
namespace Go.Proofs.YtdmldnlgamnkeaaGreat
open Go.RowKit
set_option linter.unusedVariables false
theorem quiet_round {n : Nat} {P : Program} {id : Nat} {l : List Oper} {Q : Exit → Act → World → Prop} {a : Act} {w : World} (y : Nat) (hm : P.follows .mixedOrders = true)
    (hnd : l.toArray.all (fun o => match o.op with | .defer _ => false | _ => true) = true) (hB : Region.lexB .any l.toArray = true)
    (h : wpQuietIn Fence.wide n P l.toArray (fun w' => ∃ n, w' = w.drewN n) (fun a' => ∀ w', (∃ n, w' = w.drewN n) → Q .normal a' w') l a) : (Code.region id l.toArray true).wpIn (Fence.wide.inRound y) n P Q a w := by
  simp only [Region.lexB, Bool.and_eq_true] at hB
  refine region_round y hm hnd ?_
  refine wpAnyIn_of_quiet (C := fun w' => ∃ n, w' = w.drewN n) (Q := fun a' => ∀ w', (∃ n, w' = w.drewN n) → Q .normal a' w') rfl (fun _ w' hw' h => h w' hw') _ _ _ _ ⟨1, rfl⟩ ?_
  have := wpAnyQIn_lex (F := Fence.wide) (n := n) (C := fun w' => ∃ n, w' = w.drewN n) (md := .any) hB.1 l 0 (Array.replicate l.toArray.size false) a (by simp) (by simpa using hB.2) h
  simpa using this
end Go.Proofs.YtdmldnlgamnkeaaGreat
