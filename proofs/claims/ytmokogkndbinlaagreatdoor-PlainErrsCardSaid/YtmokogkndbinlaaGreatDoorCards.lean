/-
  DERIVED. GIVEN WITH THE SEED: THE CARDS: each row of YtmokogkndbinlaaGreatDoorRows.lean that lists a variable, with what it lists TIED to the program's text (the seventh form; the later family's looks); each row that meets fmt, with fmt's text TOLD by the authors' own Lean function (tested against real Go, not proved from fmt's source: count such statements apart). THE CARD IS WHAT COUNTS. Prove the row's statement (the work); the ties are given (YtmokogkndbinlaaGreatDoorTie.lean); close each card by the builder's one call (the guide's Derived/Test/ToyasCard.lean, 'card_holds'). Laid BY PROGRAM, IN A SANDBOX (cutbox-door.mjs). By AI agents, Wed Nov 11 2026. No macro, syntax, notation, axiom, sorry.
-/
import Derived.Test.YtmokogkndbinlaaGreatDoorRows
import GoSem.ClaimSeven
namespace Go.Proofs.YtmokogkndbinlaaGreatDoor
namespace Rows

/-- THE TIED CARD OF 'pennyweightlaw08.PlainPrints'. -/
def plainPrintsCard : Claim7 := { stood := { row := plainPrintsRow, standIns := [], harness := (true, "347b369e7844dc5021f9af7171d6ba37bdc345542f4eda255b3cf0247336042c"), looks := true }, kinds := [], alts := [], laidByText := true, laidKinds := [.data, .data, .data, .data, .sentinel, .sentinel, .pinned], laidTests := true, laidLooks := .later }
def PlainPrintsCardSaid : Prop := Claim7.holds Tryz.pinned (.plain (OpenSpec.ofChange plainPrintsSpec)) plainPrintsCard

/-- THE TIED CARD OF 'pennyweightlaw08.PlainCanons'. -/
def plainCanonsCard : Claim7 := { stood := { row := plainCanonsRow, standIns := [], harness := (true, "347b369e7844dc5021f9af7171d6ba37bdc345542f4eda255b3cf0247336042c"), looks := true }, kinds := [], alts := [], laidByText := true, laidKinds := [.data, .data, .data, .data, .sentinel, .sentinel, .pinned], laidTests := true, laidLooks := .later }
def PlainCanonsCardSaid : Prop := Claim7.holds Tryz.pinned (.plain (OpenSpec.ofChange plainCanonsSpec)) plainCanonsCard

/-- THE TIED CARD OF 'pennyweightlaw08.PlainOnce'. -/
def plainOnceCard : Claim7 := { stood := { row := plainOnceRow, standIns := [], harness := (true, "347b369e7844dc5021f9af7171d6ba37bdc345542f4eda255b3cf0247336042c"), looks := true }, kinds := [], alts := [], laidByText := true, laidKinds := [.data, .data, .data, .data, .sentinel, .sentinel, .pinned], laidTests := true, laidLooks := .later }
def PlainOnceCardSaid : Prop := Claim7.holds Tryz.pinned (.plain (OpenSpec.ofChange plainOnceSpec)) plainOnceCard

/-- THE TIED CARD OF 'pennyweightlaw08.PlainErrs'. -/
def plainErrsCard : Claim7 := { stood := { row := plainErrsRow, standIns := [], harness := (true, "347b369e7844dc5021f9af7171d6ba37bdc345542f4eda255b3cf0247336042c"), looks := true }, kinds := [], alts := [], laidByText := true, laidKinds := [.data, .data, .data, .data, .sentinel, .sentinel, .pinned], laidTests := true, laidLooks := .later }
def PlainErrsCardSaid : Prop := Claim7.holds Tryz.pinned (.plain (OpenSpec.ofChange plainErrsSpec)) plainErrsCard

/-- THE TIED CARD OF 'pennyweightlaw08.PlainSorted'. -/
def plainSortedCard : Claim7 := { stood := { row := plainSortedRow, standIns := [], harness := (true, "347b369e7844dc5021f9af7171d6ba37bdc345542f4eda255b3cf0247336042c"), looks := true }, kinds := [], alts := [], laidByText := true, laidKinds := [.data, .data, .data, .data, .sentinel, .sentinel, .pinned], laidTests := true, laidLooks := .later }
def PlainSortedCardSaid : Prop := Claim7.holds Tryz.pinned (.plain (OpenSpec.ofChange plainSortedSpec)) plainSortedCard

/-- THE TIED CARD OF 'pennyweightlaw09.NetParts'. -/
def netPartsCard : Claim7 := { stood := { row := netPartsRow, standIns := [], harness := (true, "347b369e7844dc5021f9af7171d6ba37bdc345542f4eda255b3cf0247336042c"), looks := true }, kinds := [], alts := [], laidByText := true, laidKinds := [.data, .data, .data, .data, .sentinel, .sentinel, .pinned], laidTests := true, laidLooks := .later }
def NetPartsCardSaid : Prop := Claim7.holds Tryz.pinned (.plain (OpenSpec.ofChange netPartsSpec)) netPartsCard

/-- THE TIED CARD OF 'pennyweightlaw09.NetVals'. -/
def netValsCard : Claim7 := { stood := { row := netValsRow, standIns := [], harness := (true, "347b369e7844dc5021f9af7171d6ba37bdc345542f4eda255b3cf0247336042c"), looks := true }, kinds := [], alts := [], laidByText := true, laidKinds := [.data, .data, .data, .data, .sentinel, .sentinel, .pinned], laidTests := true, laidLooks := .later }
def NetValsCardSaid : Prop := Claim7.holds Tryz.pinned (.plain (OpenSpec.ofChange netValsSpec)) netValsCard

/-- THE TIED CARD OF 'pennyweightlaw09.NetApart'. -/
def netApartCard : Claim7 := { stood := { row := netApartRow, standIns := [], harness := (true, "347b369e7844dc5021f9af7171d6ba37bdc345542f4eda255b3cf0247336042c"), looks := true }, kinds := [], alts := [], laidByText := true, laidKinds := [.data, .data, .data, .data, .sentinel, .sentinel, .pinned], laidTests := true, laidLooks := .later }
def NetApartCardSaid : Prop := Claim7.holds Tryz.pinned (.plain (OpenSpec.ofChange netApartSpec)) netApartCard

/-- THE TIED CARD OF 'pennyweightlaw09.NetSums'. -/
def netSumsCard : Claim7 := { stood := { row := netSumsRow, standIns := [], harness := (true, "347b369e7844dc5021f9af7171d6ba37bdc345542f4eda255b3cf0247336042c"), looks := true }, kinds := [], alts := [], laidByText := true, laidKinds := [.data, .data, .data, .data, .sentinel, .sentinel, .pinned], laidTests := true, laidLooks := .later }
def NetSumsCardSaid : Prop := Claim7.holds Tryz.pinned (.plain (OpenSpec.ofChange netSumsSpec)) netSumsCard

/-- THE TIED CARD OF 'pennyweightlaw09.NetFiles'. -/
def netFilesCard : Claim7 := { stood := { row := netFilesRow, standIns := [], harness := (true, "347b369e7844dc5021f9af7171d6ba37bdc345542f4eda255b3cf0247336042c"), looks := true }, kinds := [], alts := [], laidByText := true, laidKinds := [.data, .data, .data, .data, .sentinel, .sentinel, .pinned], laidTests := true, laidLooks := .later }
def NetFilesCardSaid : Prop := Claim7.holds Tryz.pinned (.plain (OpenSpec.ofChange netFilesSpec)) netFilesCard

/-- THE SECOND FORM's CARD OF 'pennyweightlaw08.PlainPrints'. -/
def plainPrintsUptoCard : Claim7 := { stood := { row := plainPrintsUptoRow, standIns := [], harness := (true, "347b369e7844dc5021f9af7171d6ba37bdc345542f4eda255b3cf0247336042c"), looks := true }, kinds := [], alts := [], laidByText := true, laidKinds := [.data, .data, .data, .data, .sentinel, .sentinel, .pinned], laidTests := true, laidLooks := .later }
def PlainPrintsUptoCardSaid : Prop := Claim7.holds Tryz.pinned (.plain (OpenSpec.upto plainPrintsSpec)) plainPrintsUptoCard

/-- THE SECOND FORM's CARD OF 'pennyweightlaw08.PlainCanons'. -/
def plainCanonsUptoCard : Claim7 := { stood := { row := plainCanonsUptoRow, standIns := [], harness := (true, "347b369e7844dc5021f9af7171d6ba37bdc345542f4eda255b3cf0247336042c"), looks := true }, kinds := [], alts := [], laidByText := true, laidKinds := [.data, .data, .data, .data, .sentinel, .sentinel, .pinned], laidTests := true, laidLooks := .later }
def PlainCanonsUptoCardSaid : Prop := Claim7.holds Tryz.pinned (.plain (OpenSpec.upto plainCanonsSpec)) plainCanonsUptoCard

/-- THE SECOND FORM's CARD OF 'pennyweightlaw08.PlainOnce'. -/
def plainOnceUptoCard : Claim7 := { stood := { row := plainOnceUptoRow, standIns := [], harness := (true, "347b369e7844dc5021f9af7171d6ba37bdc345542f4eda255b3cf0247336042c"), looks := true }, kinds := [], alts := [], laidByText := true, laidKinds := [.data, .data, .data, .data, .sentinel, .sentinel, .pinned], laidTests := true, laidLooks := .later }
def PlainOnceUptoCardSaid : Prop := Claim7.holds Tryz.pinned (.plain (OpenSpec.upto plainOnceSpec)) plainOnceUptoCard

/-- THE SECOND FORM's CARD OF 'pennyweightlaw08.PlainErrs'. -/
def plainErrsUptoCard : Claim7 := { stood := { row := plainErrsUptoRow, standIns := [], harness := (true, "347b369e7844dc5021f9af7171d6ba37bdc345542f4eda255b3cf0247336042c"), looks := true }, kinds := [], alts := [], laidByText := true, laidKinds := [.data, .data, .data, .data, .sentinel, .sentinel, .pinned], laidTests := true, laidLooks := .later }
def PlainErrsUptoCardSaid : Prop := Claim7.holds Tryz.pinned (.plain (OpenSpec.upto plainErrsSpec)) plainErrsUptoCard

/-- THE SECOND FORM's CARD OF 'pennyweightlaw08.PlainSorted'. -/
def plainSortedUptoCard : Claim7 := { stood := { row := plainSortedUptoRow, standIns := [], harness := (true, "347b369e7844dc5021f9af7171d6ba37bdc345542f4eda255b3cf0247336042c"), looks := true }, kinds := [], alts := [], laidByText := true, laidKinds := [.data, .data, .data, .data, .sentinel, .sentinel, .pinned], laidTests := true, laidLooks := .later }
def PlainSortedUptoCardSaid : Prop := Claim7.holds Tryz.pinned (.plain (OpenSpec.upto plainSortedSpec)) plainSortedUptoCard

/-- THE SECOND FORM's CARD OF 'pennyweightlaw09.NetParts'. -/
def netPartsUptoCard : Claim7 := { stood := { row := netPartsUptoRow, standIns := [], harness := (true, "347b369e7844dc5021f9af7171d6ba37bdc345542f4eda255b3cf0247336042c"), looks := true }, kinds := [], alts := [], laidByText := true, laidKinds := [.data, .data, .data, .data, .sentinel, .sentinel, .pinned], laidTests := true, laidLooks := .later }
def NetPartsUptoCardSaid : Prop := Claim7.holds Tryz.pinned (.plain (OpenSpec.upto netPartsSpec)) netPartsUptoCard

/-- THE SECOND FORM's CARD OF 'pennyweightlaw09.NetVals'. -/
def netValsUptoCard : Claim7 := { stood := { row := netValsUptoRow, standIns := [], harness := (true, "347b369e7844dc5021f9af7171d6ba37bdc345542f4eda255b3cf0247336042c"), looks := true }, kinds := [], alts := [], laidByText := true, laidKinds := [.data, .data, .data, .data, .sentinel, .sentinel, .pinned], laidTests := true, laidLooks := .later }
def NetValsUptoCardSaid : Prop := Claim7.holds Tryz.pinned (.plain (OpenSpec.upto netValsSpec)) netValsUptoCard

/-- THE SECOND FORM's CARD OF 'pennyweightlaw09.NetApart'. -/
def netApartUptoCard : Claim7 := { stood := { row := netApartUptoRow, standIns := [], harness := (true, "347b369e7844dc5021f9af7171d6ba37bdc345542f4eda255b3cf0247336042c"), looks := true }, kinds := [], alts := [], laidByText := true, laidKinds := [.data, .data, .data, .data, .sentinel, .sentinel, .pinned], laidTests := true, laidLooks := .later }
def NetApartUptoCardSaid : Prop := Claim7.holds Tryz.pinned (.plain (OpenSpec.upto netApartSpec)) netApartUptoCard

/-- THE SECOND FORM's CARD OF 'pennyweightlaw09.NetSums'. -/
def netSumsUptoCard : Claim7 := { stood := { row := netSumsUptoRow, standIns := [], harness := (true, "347b369e7844dc5021f9af7171d6ba37bdc345542f4eda255b3cf0247336042c"), looks := true }, kinds := [], alts := [], laidByText := true, laidKinds := [.data, .data, .data, .data, .sentinel, .sentinel, .pinned], laidTests := true, laidLooks := .later }
def NetSumsUptoCardSaid : Prop := Claim7.holds Tryz.pinned (.plain (OpenSpec.upto netSumsSpec)) netSumsUptoCard

/-- THE SECOND FORM's CARD OF 'pennyweightlaw09.NetFiles'. -/
def netFilesUptoCard : Claim7 := { stood := { row := netFilesUptoRow, standIns := [], harness := (true, "347b369e7844dc5021f9af7171d6ba37bdc345542f4eda255b3cf0247336042c"), looks := true }, kinds := [], alts := [], laidByText := true, laidKinds := [.data, .data, .data, .data, .sentinel, .sentinel, .pinned], laidTests := true, laidLooks := .later }
def NetFilesUptoCardSaid : Prop := Claim7.holds Tryz.pinned (.plain (OpenSpec.upto netFilesSpec)) netFilesUptoCard
end Rows
end Go.Proofs.YtmokogkndbinlaaGreatDoor
