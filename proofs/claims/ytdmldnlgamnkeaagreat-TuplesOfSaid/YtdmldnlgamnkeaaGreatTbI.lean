/- A range over the values of a set whose rounds may write, but not over the set nor the table (no statement of its own). -/
import Derived.Test.YtdmldnlgamnkeaaGreatDm
import Derived.Test.YtdmldnlgamnkeaaGreatSh1
namespace Go.Proofs.YtdmldnlgamnkeaaGreat.Dm
open Go.RowKit Go.Shelf
set_option linter.unusedVariables false
attribute [local go_sem] Oper.semAt_some
theorem same2_below {B b g : Nat} {X Y : World} (h : Below B X Y) (hb : b < B) (hg : g < B) : Same2 b g X Y := ⟨h.size, h.block b hb, h.block g hg⟩
theorem tab_same {b : Nat} {X Y : World} (h : Tab X) (k : Same2 b 0 X Y) : Tab Y := fun i hi => (k.cell i).2.trans (h i hi)
/-- A value of a set. -/
abbrev Mem (k B : Nat) := { v : Nat // v ∈ mem k B }
end Go.Proofs.YtdmldnlgamnkeaaGreat.Dm
