/- Contracts of what TablePlays calls besides: the document's In and Add, Index of a tuple that there isn't, Get of one, More (no statement of its own). No condition. -/
import Derived.Test.YtdmldnlgamnkeaaGreatIx
import Derived.Test.YtdmldnlgamnkeaaGreatTbV
namespace Go.Proofs.YtdmldnlgamnkeaaGreat
open Go.RowKit
set_option linter.unusedVariables false
/-- A sum that stops at the top. -/
def capA (a b k : Int) : Int := if a + b > k then k else a + b
attribute [local go_sem ↓] run_mn2
end Go.Proofs.YtdmldnlgamnkeaaGreat
