/-
  DERIVED. GIVEN WITH THE SEED: THE CARDS: each row of YtpdcpaoabalgcaaGreatDoorRows.lean that lists a variable, with what it lists TIED to the program's text (the seventh form; the later family's looks); each row that meets fmt, with fmt's text TOLD by the authors' own Lean function (tested against real Go, not proved from fmt's source: count such statements apart). THE CARD IS WHAT COUNTS. Prove the row's statement (the work); the ties are given (YtpdcpaoabalgcaaGreatDoorTie.lean); close each card by the builder's one call (the guide's Derived/Test/ToyasCard.lean, 'card_holds'). Laid BY PROGRAM, IN A SANDBOX (cutbox-door.mjs). By AI agents, Wed Nov 11 2026. No macro, syntax, notation, axiom, sorry.
-/
import Derived.Test.YtpdcpaoabalgcaaGreatDoorRows
import GoSem.ClaimSeven
namespace Go.Proofs.YtpdcpaoabalgcaaGreatDoor
namespace Rows

/-- THE TIED CARD OF 'pennyweightlaw04.TableJoins'. -/
def tableJoinsCard : Claim7 := { stood := { row := tableJoinsRow, standIns := [], harness := (true, "f2152adf0cb746cb490260fee2cc49702aa72f0f8e6b8698aa914ca0c9df016b"), looks := false }, kinds := [], alts := [], laidByText := true, laidKinds := [.data], laidTests := true, laidLooks := .later }
def TableJoinsCardSaid : Prop := Claim7.holds Tryz.pinned (.plain (OpenSpec.ofChange tableJoinsSpec)) tableJoinsCard

/-- THE TIED CARD OF 'pennyweightlaw04.TableErrs'. -/
def tableErrsCard : Claim7 := { stood := { row := tableErrsRow, standIns := [], harness := (true, "f2152adf0cb746cb490260fee2cc49702aa72f0f8e6b8698aa914ca0c9df016b"), looks := false }, kinds := [], alts := [], laidByText := true, laidKinds := [.data], laidTests := true, laidLooks := .later }
def TableErrsCardSaid : Prop := Claim7.holds Tryz.pinned (.plain (OpenSpec.ofChange tableErrsSpec)) tableErrsCard

/-- THE TIED CARD OF 'pennyweightlaw04.TableSums'. -/
def tableSumsCard : Claim7 := { stood := { row := tableSumsRow, standIns := [], harness := (true, "f2152adf0cb746cb490260fee2cc49702aa72f0f8e6b8698aa914ca0c9df016b"), looks := false }, kinds := [], alts := [], laidByText := true, laidKinds := [.data], laidTests := true, laidLooks := .later }
def TableSumsCardSaid : Prop := Claim7.holds Tryz.pinned (.plain (OpenSpec.ofChange tableSumsSpec)) tableSumsCard

/-- THE SECOND FORM's CARD OF 'pennyweightlaw04.TableJoins'. -/
def tableJoinsUptoCard : Claim7 := { stood := { row := tableJoinsUptoRow, standIns := [], harness := (true, "f2152adf0cb746cb490260fee2cc49702aa72f0f8e6b8698aa914ca0c9df016b"), looks := false }, kinds := [], alts := [], laidByText := true, laidKinds := [.data], laidTests := true, laidLooks := .later }
def TableJoinsUptoCardSaid : Prop := Claim7.holds Tryz.pinned (.plain (OpenSpec.upto tableJoinsSpec)) tableJoinsUptoCard

/-- THE SECOND FORM's CARD OF 'pennyweightlaw04.TableErrs'. -/
def tableErrsUptoCard : Claim7 := { stood := { row := tableErrsUptoRow, standIns := [], harness := (true, "f2152adf0cb746cb490260fee2cc49702aa72f0f8e6b8698aa914ca0c9df016b"), looks := false }, kinds := [], alts := [], laidByText := true, laidKinds := [.data], laidTests := true, laidLooks := .later }
def TableErrsUptoCardSaid : Prop := Claim7.holds Tryz.pinned (.plain (OpenSpec.upto tableErrsSpec)) tableErrsUptoCard

/-- THE SECOND FORM's CARD OF 'pennyweightlaw04.TableSums'. -/
def tableSumsUptoCard : Claim7 := { stood := { row := tableSumsUptoRow, standIns := [], harness := (true, "f2152adf0cb746cb490260fee2cc49702aa72f0f8e6b8698aa914ca0c9df016b"), looks := false }, kinds := [], alts := [], laidByText := true, laidKinds := [.data], laidTests := true, laidLooks := .later }
def TableSumsUptoCardSaid : Prop := Claim7.holds Tryz.pinned (.plain (OpenSpec.upto tableSumsSpec)) tableSumsUptoCard
end Rows
end Go.Proofs.YtpdcpaoabalgcaaGreatDoor
