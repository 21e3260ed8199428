/-
  DERIVED. GIVEN WITH THE SEED: THE CARDS: each row of YtcfendilaogjlaaDoorRows.lean that lists a variable, with what it lists TIED to the program's text (the seventh form; the later family's looks); each row that meets fmt, with fmt's text TOLD by the authors' own Lean function (tested against real Go, not proved from fmt's source: count such statements apart). THE CARD IS WHAT COUNTS. Prove the row's statement (the work); the ties are given (YtcfendilaogjlaaDoorTie.lean); close each card by the builder's one call (the guide's Derived/Test/ToyasCard.lean, 'card_holds'). Laid BY PROGRAM, IN A SANDBOX (cutbox-door.mjs). By AI agents, Wed Nov 11 2026. No macro, syntax, notation, axiom, sorry.
-/
import Derived.Test.YtcfendilaogjlaaDoorRows
import GoSem.ClaimSeven
namespace Go.Proofs.YtcfendilaogjlaaDoor
namespace Rows

/-- THE TIED CARD OF 'pennyweightlaw06.ScanWords'. -/
def scanWordsCard : Claim7 := { stood := { row := scanWordsRow, standIns := [], harness := (true, "bba0487824cb7a5dfab65124f4c5a5c81ca6256b570046faa551330dad1a8f45"), looks := true }, kinds := [], alts := [], laidByText := true, laidKinds := [.data, .data, .data, .data, .sentinel, .sentinel, .pinned], laidTests := true, laidLooks := .later }
def ScanWordsCardSaid : Prop := Claim7.holds Tryd.pinned (.plain (OpenSpec.ofChange scanWordsSpec)) scanWordsCard

/-- THE TIED CARD OF 'pennyweightlaw06.ScanInts'. -/
def scanIntsCard : Claim7 := { stood := { row := scanIntsRow, standIns := [], harness := (true, "bba0487824cb7a5dfab65124f4c5a5c81ca6256b570046faa551330dad1a8f45"), looks := true }, kinds := [], alts := [], laidByText := true, laidKinds := [.data, .data, .data, .data, .sentinel, .sentinel, .pinned], laidTests := true, laidLooks := .later }
def ScanIntsCardSaid : Prop := Claim7.holds Tryd.pinned (.plain (OpenSpec.ofChange scanIntsSpec)) scanIntsCard

/-- THE TIED CARD OF 'pennyweightlaw06.ScanNumbers'. -/
def scanNumbersCard : Claim7 := { stood := { row := scanNumbersRow, standIns := [], harness := (true, "bba0487824cb7a5dfab65124f4c5a5c81ca6256b570046faa551330dad1a8f45"), looks := true }, kinds := [], alts := [], laidByText := true, laidKinds := [.data, .data, .data, .data, .sentinel, .sentinel, .pinned], laidTests := true, laidLooks := .later }
def ScanNumbersCardSaid : Prop := Claim7.holds Tryd.pinned (.plain (OpenSpec.ofChange scanNumbersSpec)) scanNumbersCard

/-- THE TIED CARD OF 'pennyweightlaw06.ScanNil'. -/
def scanNilCard : Claim7 := { stood := { row := scanNilRow, standIns := [], harness := (true, "bba0487824cb7a5dfab65124f4c5a5c81ca6256b570046faa551330dad1a8f45"), looks := true }, kinds := [], alts := [], laidByText := true, laidKinds := [.data, .data, .data, .data, .sentinel, .sentinel, .pinned], laidTests := true, laidLooks := .later }
def ScanNilCardSaid : Prop := Claim7.holds Tryd.pinned (.plain (OpenSpec.ofChange scanNilSpec)) scanNilCard

/-- THE TIED CARD OF 'pennyweightlaw06.ScanJoins'. -/
def scanJoinsCard : Claim7 := { stood := { row := scanJoinsRow, standIns := [], harness := (true, "bba0487824cb7a5dfab65124f4c5a5c81ca6256b570046faa551330dad1a8f45"), looks := true }, kinds := [], alts := [], laidByText := true, laidKinds := [.data, .data, .data, .data, .sentinel, .sentinel, .pinned], laidTests := true, laidLooks := .later }
def ScanJoinsCardSaid : Prop := Claim7.holds Tryd.pinned (.plain (OpenSpec.ofChange scanJoinsSpec)) scanJoinsCard

/-- THE TIED CARD OF 'pennyweightlaw06.ScanAts'. -/
def scanAtsCard : Claim7 := { stood := { row := scanAtsRow, standIns := [], harness := (true, "bba0487824cb7a5dfab65124f4c5a5c81ca6256b570046faa551330dad1a8f45"), looks := true }, kinds := [], alts := [], laidByText := true, laidKinds := [.data, .data, .data, .data, .sentinel, .sentinel, .pinned], laidTests := true, laidLooks := .later }
def ScanAtsCardSaid : Prop := Claim7.holds Tryd.pinned (.plain (OpenSpec.ofChange scanAtsSpec)) scanAtsCard

/-- THE SECOND FORM's CARD OF 'pennyweightlaw06.ScanWords'. -/
def scanWordsUptoCard : Claim7 := { stood := { row := scanWordsUptoRow, standIns := [], harness := (true, "bba0487824cb7a5dfab65124f4c5a5c81ca6256b570046faa551330dad1a8f45"), looks := true }, kinds := [], alts := [], laidByText := true, laidKinds := [.data, .data, .data, .data, .sentinel, .sentinel, .pinned], laidTests := true, laidLooks := .later }
def ScanWordsUptoCardSaid : Prop := Claim7.holds Tryd.pinned (.plain (OpenSpec.upto scanWordsSpec)) scanWordsUptoCard

/-- THE SECOND FORM's CARD OF 'pennyweightlaw06.ScanInts'. -/
def scanIntsUptoCard : Claim7 := { stood := { row := scanIntsUptoRow, standIns := [], harness := (true, "bba0487824cb7a5dfab65124f4c5a5c81ca6256b570046faa551330dad1a8f45"), looks := true }, kinds := [], alts := [], laidByText := true, laidKinds := [.data, .data, .data, .data, .sentinel, .sentinel, .pinned], laidTests := true, laidLooks := .later }
def ScanIntsUptoCardSaid : Prop := Claim7.holds Tryd.pinned (.plain (OpenSpec.upto scanIntsSpec)) scanIntsUptoCard

/-- THE SECOND FORM's CARD OF 'pennyweightlaw06.ScanNumbers'. -/
def scanNumbersUptoCard : Claim7 := { stood := { row := scanNumbersUptoRow, standIns := [], harness := (true, "bba0487824cb7a5dfab65124f4c5a5c81ca6256b570046faa551330dad1a8f45"), looks := true }, kinds := [], alts := [], laidByText := true, laidKinds := [.data, .data, .data, .data, .sentinel, .sentinel, .pinned], laidTests := true, laidLooks := .later }
def ScanNumbersUptoCardSaid : Prop := Claim7.holds Tryd.pinned (.plain (OpenSpec.upto scanNumbersSpec)) scanNumbersUptoCard

/-- THE SECOND FORM's CARD OF 'pennyweightlaw06.ScanNil'. -/
def scanNilUptoCard : Claim7 := { stood := { row := scanNilUptoRow, standIns := [], harness := (true, "bba0487824cb7a5dfab65124f4c5a5c81ca6256b570046faa551330dad1a8f45"), looks := true }, kinds := [], alts := [], laidByText := true, laidKinds := [.data, .data, .data, .data, .sentinel, .sentinel, .pinned], laidTests := true, laidLooks := .later }
def ScanNilUptoCardSaid : Prop := Claim7.holds Tryd.pinned (.plain (OpenSpec.upto scanNilSpec)) scanNilUptoCard

/-- THE SECOND FORM's CARD OF 'pennyweightlaw06.ScanJoins'. -/
def scanJoinsUptoCard : Claim7 := { stood := { row := scanJoinsUptoRow, standIns := [], harness := (true, "bba0487824cb7a5dfab65124f4c5a5c81ca6256b570046faa551330dad1a8f45"), looks := true }, kinds := [], alts := [], laidByText := true, laidKinds := [.data, .data, .data, .data, .sentinel, .sentinel, .pinned], laidTests := true, laidLooks := .later }
def ScanJoinsUptoCardSaid : Prop := Claim7.holds Tryd.pinned (.plain (OpenSpec.upto scanJoinsSpec)) scanJoinsUptoCard

/-- THE SECOND FORM's CARD OF 'pennyweightlaw06.ScanAts'. -/
def scanAtsUptoCard : Claim7 := { stood := { row := scanAtsUptoRow, standIns := [], harness := (true, "bba0487824cb7a5dfab65124f4c5a5c81ca6256b570046faa551330dad1a8f45"), looks := true }, kinds := [], alts := [], laidByText := true, laidKinds := [.data, .data, .data, .data, .sentinel, .sentinel, .pinned], laidTests := true, laidLooks := .later }
def ScanAtsUptoCardSaid : Prop := Claim7.holds Tryd.pinned (.plain (OpenSpec.upto scanAtsSpec)) scanAtsUptoCard
end Rows
end Go.Proofs.YtcfendilaogjlaaDoor
