/- The texts that this seat's proofs begin with (no statement of its own). -/
import Derived.Test.YteocbgcgfllieaaGreatDoorMgT
import Derived.Test.YteocbgcgfllieaaGreatDoorMgU
import Derived.Test.YteocbgcgfllieaaGreatDoorMgV
import Derived.Test.YteocbgcgfllieaaGreatDoorMgAd
namespace Go.Proofs.YteocbgcgfllieaaGreatDoor
end Go.Proofs.YteocbgcgfllieaaGreatDoor
