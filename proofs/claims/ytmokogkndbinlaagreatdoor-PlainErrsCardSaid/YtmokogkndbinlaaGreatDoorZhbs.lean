import Derived.Test.YtmokogkndbinlaaGreatDoorCards
import Derived.Test.YtmokogkndbinlaaGreatDoorTie
import Derived.WalkKit
import Derived.ProofKit
import Derived.JoinedCond
set_option linter.all false
namespace Go.Proofs.YtmokogkndbinlaaGreatDoor
open Go
set_option maxRecDepth 100000
theorem jw_out:laidOutB Tryz.pinned.checked.prog=true:=by kernel_rfl
theorem jw_rowed:mapsRowed Tryz.pinned.checked.prog=true:=by kernel_rfl
theorem jw_heard:Tryz.pinned.checked.prog.stopsHeard=true:=by kernel_rfl
theorem jw_enter:Tryz.pinned.checked.prog.mayEnter=true:=by kernel_rfl
theorem jw_lifts:Tryz.pinned.checked.prog.liftsFinal=Rows.plainPrintsRow.lifted:=by kernel_rfl
theorem jw_make:Tryz.pinned.checked.prog.make=some Rows.plainPrintsRow.make:=by kernel_rfl
theorem jw_main:Tryz.pinned.checked.prog.mainIs=some (true, "347b369e7844dc5021f9af7171d6ba37bdc345542f4eda255b3cf0247336042c".toList):=by kernel_rfl
end Go.Proofs.YtmokogkndbinlaaGreatDoor
