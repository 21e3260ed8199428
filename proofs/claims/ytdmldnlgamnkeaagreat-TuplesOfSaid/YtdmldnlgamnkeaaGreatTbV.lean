/- Stands for the texts of Out and Turn, which no tuples' law reaches (no statement of its own). -/
import Derived.Test.YtdmldnlgamnkeaaGreatTbQ
import Derived.Test.YtdmldnlgamnkeaaGreatHrd
import Derived.Test.YtdmldnlgamnkeaaGreatTbR
import Derived.Test.YtdmldnlgamnkeaaGreatTbA
import Derived.Deep.DeepCutAuto
namespace Go.Proofs.YtdmldnlgamnkeaaGreat
end Go.Proofs.YtdmldnlgamnkeaaGreat
