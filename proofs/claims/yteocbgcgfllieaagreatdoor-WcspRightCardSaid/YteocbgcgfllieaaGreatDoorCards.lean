/-
  DERIVED. GIVEN WITH THE SEED: THE CARDS: each row of YteocbgcgfllieaaGreatDoorRows.lean that lists a variable, with what it lists TIED to the program's text (the seventh form; the later family's looks); each row that meets fmt, with fmt's text TOLD by the authors' own Lean function (tested against real Go, not proved from fmt's source: count such statements apart). THE CARD IS WHAT COUNTS. Prove the row's statement (the work); the ties are given (YteocbgcgfllieaaGreatDoorTie.lean); close each card by the builder's one call (the guide's Derived/Test/ToyasCard.lean, 'card_holds'). Laid BY PROGRAM, IN A SANDBOX (cutbox-door.mjs). By AI agents, Wed Nov 11 2026. No macro, syntax, notation, axiom, sorry.
-/
import Derived.Test.YteocbgcgfllieaaGreatDoorRows
import GoSem.ClaimSeven
namespace Go.Proofs.YteocbgcgfllieaaGreatDoor
namespace Rows

/-- THE TIED CARD OF 'pennyweightlaw07.WcspVals'. -/
def wcspValsCard : Claim7 := { stood := { row := wcspValsRow, standIns := [], harness := (true, "3ae9ca25b1ff7a0f74ec59edd56dd7d12dd0b804ac183c7ae742825b3102856a"), looks := true }, kinds := [], alts := [], laidByText := true, laidKinds := [.data, .data, .data, .data, .sentinel, .sentinel, .pinned], laidTests := true, laidLooks := .later }
def WcspValsCardSaid : Prop := Claim7.holds Tryz.pinned (.plain (OpenSpec.ofChange wcspValsSpec)) wcspValsCard

/-- THE TIED CARD OF 'pennyweightlaw07.WcspLarge'. -/
def wcspLargeCard : Claim7 := { stood := { row := wcspLargeRow, standIns := [], harness := (true, "3ae9ca25b1ff7a0f74ec59edd56dd7d12dd0b804ac183c7ae742825b3102856a"), looks := true }, kinds := [], alts := [], laidByText := true, laidKinds := [.data, .data, .data, .data, .sentinel, .sentinel, .pinned], laidTests := true, laidLooks := .later }
def WcspLargeCardSaid : Prop := Claim7.holds Tryz.pinned (.plain (OpenSpec.ofChange wcspLargeSpec)) wcspLargeCard

/-- THE TIED CARD OF 'pennyweightlaw07.WcspShared'. -/
def wcspSharedCard : Claim7 := { stood := { row := wcspSharedRow, standIns := [], harness := (true, "3ae9ca25b1ff7a0f74ec59edd56dd7d12dd0b804ac183c7ae742825b3102856a"), looks := true }, kinds := [], alts := [], laidByText := true, laidKinds := [.data, .data, .data, .data, .sentinel, .sentinel, .pinned], laidTests := true, laidLooks := .later }
def WcspSharedCardSaid : Prop := Claim7.holds Tryz.pinned (.plain (OpenSpec.ofChange wcspSharedSpec)) wcspSharedCard

/-- THE TIED CARD OF 'pennyweightlaw07.WcspRight'. -/
def wcspRightCard : Claim7 := { stood := { row := wcspRightRow, standIns := [], harness := (true, "3ae9ca25b1ff7a0f74ec59edd56dd7d12dd0b804ac183c7ae742825b3102856a"), looks := true }, kinds := [], alts := [], laidByText := true, laidKinds := [.data, .data, .data, .data, .sentinel, .sentinel, .pinned], laidTests := true, laidLooks := .later }
def WcspRightCardSaid : Prop := Claim7.holds Tryz.pinned (.plain (OpenSpec.ofChange wcspRightSpec)) wcspRightCard

/-- THE TIED CARD OF 'pennyweightlaw07.WcspSpaces'. -/
def wcspSpacesCard : Claim7 := { stood := { row := wcspSpacesRow, standIns := [], harness := (true, "3ae9ca25b1ff7a0f74ec59edd56dd7d12dd0b804ac183c7ae742825b3102856a"), looks := true }, kinds := [], alts := [], laidByText := true, laidKinds := [.data, .data, .data, .data, .sentinel, .sentinel, .pinned], laidTests := true, laidLooks := .later }
def WcspSpacesCardSaid : Prop := Claim7.holds Tryz.pinned (.plain (OpenSpec.ofChange wcspSpacesSpec)) wcspSpacesCard

/-- THE TIED CARD OF 'pennyweightlaw07.WcspPlaces'. -/
def wcspPlacesCard : Claim7 := { stood := { row := wcspPlacesRow, standIns := [], harness := (true, "3ae9ca25b1ff7a0f74ec59edd56dd7d12dd0b804ac183c7ae742825b3102856a"), looks := true }, kinds := [], alts := [], laidByText := true, laidKinds := [.data, .data, .data, .data, .sentinel, .sentinel, .pinned], laidTests := true, laidLooks := .later }
def WcspPlacesCardSaid : Prop := Claim7.holds Tryz.pinned (.plain (OpenSpec.ofChange wcspPlacesSpec)) wcspPlacesCard

/-- THE SECOND FORM's CARD OF 'pennyweightlaw07.WcspVals'. -/
def wcspValsUptoCard : Claim7 := { stood := { row := wcspValsUptoRow, standIns := [], harness := (true, "3ae9ca25b1ff7a0f74ec59edd56dd7d12dd0b804ac183c7ae742825b3102856a"), looks := true }, kinds := [], alts := [], laidByText := true, laidKinds := [.data, .data, .data, .data, .sentinel, .sentinel, .pinned], laidTests := true, laidLooks := .later }
def WcspValsUptoCardSaid : Prop := Claim7.holds Tryz.pinned (.plain (OpenSpec.upto wcspValsSpec)) wcspValsUptoCard

/-- THE SECOND FORM's CARD OF 'pennyweightlaw07.WcspLarge'. -/
def wcspLargeUptoCard : Claim7 := { stood := { row := wcspLargeUptoRow, standIns := [], harness := (true, "3ae9ca25b1ff7a0f74ec59edd56dd7d12dd0b804ac183c7ae742825b3102856a"), looks := true }, kinds := [], alts := [], laidByText := true, laidKinds := [.data, .data, .data, .data, .sentinel, .sentinel, .pinned], laidTests := true, laidLooks := .later }
def WcspLargeUptoCardSaid : Prop := Claim7.holds Tryz.pinned (.plain (OpenSpec.upto wcspLargeSpec)) wcspLargeUptoCard

/-- THE SECOND FORM's CARD OF 'pennyweightlaw07.WcspShared'. -/
def wcspSharedUptoCard : Claim7 := { stood := { row := wcspSharedUptoRow, standIns := [], harness := (true, "3ae9ca25b1ff7a0f74ec59edd56dd7d12dd0b804ac183c7ae742825b3102856a"), looks := true }, kinds := [], alts := [], laidByText := true, laidKinds := [.data, .data, .data, .data, .sentinel, .sentinel, .pinned], laidTests := true, laidLooks := .later }
def WcspSharedUptoCardSaid : Prop := Claim7.holds Tryz.pinned (.plain (OpenSpec.upto wcspSharedSpec)) wcspSharedUptoCard

/-- THE SECOND FORM's CARD OF 'pennyweightlaw07.WcspRight'. -/
def wcspRightUptoCard : Claim7 := { stood := { row := wcspRightUptoRow, standIns := [], harness := (true, "3ae9ca25b1ff7a0f74ec59edd56dd7d12dd0b804ac183c7ae742825b3102856a"), looks := true }, kinds := [], alts := [], laidByText := true, laidKinds := [.data, .data, .data, .data, .sentinel, .sentinel, .pinned], laidTests := true, laidLooks := .later }
def WcspRightUptoCardSaid : Prop := Claim7.holds Tryz.pinned (.plain (OpenSpec.upto wcspRightSpec)) wcspRightUptoCard

/-- THE SECOND FORM's CARD OF 'pennyweightlaw07.WcspSpaces'. -/
def wcspSpacesUptoCard : Claim7 := { stood := { row := wcspSpacesUptoRow, standIns := [], harness := (true, "3ae9ca25b1ff7a0f74ec59edd56dd7d12dd0b804ac183c7ae742825b3102856a"), looks := true }, kinds := [], alts := [], laidByText := true, laidKinds := [.data, .data, .data, .data, .sentinel, .sentinel, .pinned], laidTests := true, laidLooks := .later }
def WcspSpacesUptoCardSaid : Prop := Claim7.holds Tryz.pinned (.plain (OpenSpec.upto wcspSpacesSpec)) wcspSpacesUptoCard

/-- THE SECOND FORM's CARD OF 'pennyweightlaw07.WcspPlaces'. -/
def wcspPlacesUptoCard : Claim7 := { stood := { row := wcspPlacesUptoRow, standIns := [], harness := (true, "3ae9ca25b1ff7a0f74ec59edd56dd7d12dd0b804ac183c7ae742825b3102856a"), looks := true }, kinds := [], alts := [], laidByText := true, laidKinds := [.data, .data, .data, .data, .sentinel, .sentinel, .pinned], laidTests := true, laidLooks := .later }
def WcspPlacesUptoCardSaid : Prop := Claim7.holds Tryz.pinned (.plain (OpenSpec.upto wcspPlacesSpec)) wcspPlacesUptoCard
end Rows
end Go.Proofs.YteocbgcgfllieaaGreatDoor
