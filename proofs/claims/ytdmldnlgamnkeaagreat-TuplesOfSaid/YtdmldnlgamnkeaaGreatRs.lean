/- Contract of the document's Same of two lists (no statement of its own). No condition. -/
import Derived.Test.YtdmldnlgamnkeaaGreatTbW
namespace Go.Proofs.YtdmldnlgamnkeaaGreat
open Go.RowKit
set_option linter.unusedVariables false
end Go.Proofs.YtdmldnlgamnkeaaGreat
