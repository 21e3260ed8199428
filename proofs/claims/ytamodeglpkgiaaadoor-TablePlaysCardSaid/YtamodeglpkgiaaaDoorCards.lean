/-
  DERIVED. GIVEN WITH THE SEED: THE CARDS: each row of YtamodeglpkgiaaaDoorRows.lean that lists a variable, with what it lists TIED to the program's text (the seventh form; the later family's looks); each row that meets fmt, with fmt's text TOLD by the authors' own Lean function (tested against real Go, not proved from fmt's source: count such statements apart). THE CARD IS WHAT COUNTS. Prove the row's statement (the work); the ties are given (YtamodeglpkgiaaaDoorTie.lean); close each card by the builder's one call (the guide's Derived/Test/ToyasCard.lean, 'card_holds'). Laid BY PROGRAM, IN A SANDBOX (cutbox-door.mjs). By AI agents, Wed Nov 11 2026. No macro, syntax, notation, axiom, sorry.
-/
import Derived.Test.YtamodeglpkgiaaaDoorRows
import GoSem.ClaimSeven
namespace Go.Proofs.YtamodeglpkgiaaaDoor
namespace Rows

/-- THE TIED CARD OF 'pennyweightlaw04.TablePlays'. -/
def tablePlaysCard : Claim7 := { stood := { row := tablePlaysRow, standIns := [], harness := (true, "1abfead8fe13fb81593ddd83feced16f2bc48594c3a27b0d662290efc9fabe0b"), looks := false }, kinds := [], alts := [], laidByText := true, laidKinds := [.data], laidTests := true, laidLooks := .later }
def TablePlaysCardSaid : Prop := Claim7.holds Tryd.pinned (.plain (OpenSpec.ofChange tablePlaysSpec)) tablePlaysCard

/-- THE TIED CARD OF 'pennyweightlaw04.TableTurns'. -/
def tableTurnsCard : Claim7 := { stood := { row := tableTurnsRow, standIns := [], harness := (true, "1abfead8fe13fb81593ddd83feced16f2bc48594c3a27b0d662290efc9fabe0b"), looks := false }, kinds := [], alts := [], laidByText := true, laidKinds := [.data], laidTests := true, laidLooks := .later }
def TableTurnsCardSaid : Prop := Claim7.holds Tryd.pinned (.plain (OpenSpec.ofChange tableTurnsSpec)) tableTurnsCard

/-- THE TIED CARD OF 'pennyweightlaw04.TableOuts'. -/
def tableOutsCard : Claim7 := { stood := { row := tableOutsRow, standIns := [], harness := (true, "1abfead8fe13fb81593ddd83feced16f2bc48594c3a27b0d662290efc9fabe0b"), looks := false }, kinds := [], alts := [], laidByText := true, laidKinds := [.data], laidTests := true, laidLooks := .later }
def TableOutsCardSaid : Prop := Claim7.holds Tryd.pinned (.plain (OpenSpec.ofChange tableOutsSpec)) tableOutsCard

/-- THE TIED CARD OF 'pennyweightlaw04.TableTwice'. -/
def tableTwiceCard : Claim7 := { stood := { row := tableTwiceRow, standIns := [], harness := (true, "1abfead8fe13fb81593ddd83feced16f2bc48594c3a27b0d662290efc9fabe0b"), looks := false }, kinds := [], alts := [], laidByText := true, laidKinds := [.data], laidTests := true, laidLooks := .later }
def TableTwiceCardSaid : Prop := Claim7.holds Tryd.pinned (.plain (OpenSpec.ofChange tableTwiceSpec)) tableTwiceCard

/-- THE SECOND FORM's CARD OF 'pennyweightlaw04.TablePlays'. -/
def tablePlaysUptoCard : Claim7 := { stood := { row := tablePlaysUptoRow, standIns := [], harness := (true, "1abfead8fe13fb81593ddd83feced16f2bc48594c3a27b0d662290efc9fabe0b"), looks := false }, kinds := [], alts := [], laidByText := true, laidKinds := [.data], laidTests := true, laidLooks := .later }
def TablePlaysUptoCardSaid : Prop := Claim7.holds Tryd.pinned (.plain (OpenSpec.upto tablePlaysSpec)) tablePlaysUptoCard

/-- THE SECOND FORM's CARD OF 'pennyweightlaw04.TableTurns'. -/
def tableTurnsUptoCard : Claim7 := { stood := { row := tableTurnsUptoRow, standIns := [], harness := (true, "1abfead8fe13fb81593ddd83feced16f2bc48594c3a27b0d662290efc9fabe0b"), looks := false }, kinds := [], alts := [], laidByText := true, laidKinds := [.data], laidTests := true, laidLooks := .later }
def TableTurnsUptoCardSaid : Prop := Claim7.holds Tryd.pinned (.plain (OpenSpec.upto tableTurnsSpec)) tableTurnsUptoCard

/-- THE SECOND FORM's CARD OF 'pennyweightlaw04.TableOuts'. -/
def tableOutsUptoCard : Claim7 := { stood := { row := tableOutsUptoRow, standIns := [], harness := (true, "1abfead8fe13fb81593ddd83feced16f2bc48594c3a27b0d662290efc9fabe0b"), looks := false }, kinds := [], alts := [], laidByText := true, laidKinds := [.data], laidTests := true, laidLooks := .later }
def TableOutsUptoCardSaid : Prop := Claim7.holds Tryd.pinned (.plain (OpenSpec.upto tableOutsSpec)) tableOutsUptoCard

/-- THE SECOND FORM's CARD OF 'pennyweightlaw04.TableTwice'. -/
def tableTwiceUptoCard : Claim7 := { stood := { row := tableTwiceUptoRow, standIns := [], harness := (true, "1abfead8fe13fb81593ddd83feced16f2bc48594c3a27b0d662290efc9fabe0b"), looks := false }, kinds := [], alts := [], laidByText := true, laidKinds := [.data], laidTests := true, laidLooks := .later }
def TableTwiceUptoCardSaid : Prop := Claim7.holds Tryd.pinned (.plain (OpenSpec.upto tableTwiceSpec)) tableTwiceUptoCard
end Rows
end Go.Proofs.YtamodeglpkgiaaaDoor
