/- Stands for the texts of Out and Turn, which no tuples' law reaches (no statement of its own). -/
import Derived.Test.YtliafkcogmpghaaTbQ
import Derived.Test.YtliafkcogmpghaaHrd
import Derived.Test.YtliafkcogmpghaaTbR
import Derived.Test.YtliafkcogmpghaaTbA
import Derived.Deep.DeepCutAuto
namespace Go.Proofs.Ytliafkcogmpghaa
end Go.Proofs.Ytliafkcogmpghaa
