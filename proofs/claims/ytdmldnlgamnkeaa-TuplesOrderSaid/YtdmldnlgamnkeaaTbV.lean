/- Stands for the texts of Out and Turn, which no tuples' law reaches (no statement of its own). -/
import Derived.Test.YtdmldnlgamnkeaaTbQ
import Derived.Test.YtdmldnlgamnkeaaHrd
import Derived.Test.YtdmldnlgamnkeaaTbR
import Derived.Test.YtdmldnlgamnkeaaTbA
import Derived.Deep.DeepCutAuto
namespace Go.Proofs.Ytdmldnlgamnkeaa
end Go.Proofs.Ytdmldnlgamnkeaa
