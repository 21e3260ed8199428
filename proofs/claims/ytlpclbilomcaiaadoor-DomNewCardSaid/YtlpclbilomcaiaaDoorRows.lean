/-
  NARROWER THAN 'FOR EVERY INPUT', by the rows' own cells (each row's printed sentence says how): DomPlays: laid · DomInters: laid · DomNew: laid · DomNexts: laid · DomSubsets: laid.
  DERIVED. THE GIVEN ROWS OF THIS SEAT. 5 by the template 'for every input the law returns true; each argument reads behind the call as it read before'; 0 by the template 'total and deterministic' (their statements: YtlpclbilomcaiaaDoorTotals.lean).
  GIVEN WITH THE SEED: the statements are not yours to turn. If you find one false, say at which input.
  Laid BY PROGRAM, IN A SANDBOX (cutbox-rows.mjs): the forced cells as the released guide's own fill.sh prints them over the translation 43a406193f3e804f… (all of the seat's roots in one cut). By AI agents, Wed Nov 11 2026. No macro, syntax, notation, axiom, sorry.
-/
import Derived.Test.YtlpclbilomcaiaaDoorChecked
import GoSem.Claim
import GoSem.ClaimJoined
import GoSem.ClaimMapViews
import Derived.JoinedTies
import Derived.KernelRfl
namespace Go.Proofs.YtlpclbilomcaiaaDoor
/- THE CELL 'sum', in the pinned program and in every row, IS THE sha256 OF THE DUMP (.gsa) THAT YtlpclbilomcaiaaDoorProg.lean LOADS. Nothing in Lean hashes anything: it is a label: what it is worth is what the hold of that sum in a sandbox is worth. -/
noncomputable def Tryd.pinned : Pinned := { name := "ytlpclbilomcaiaadoor", sum := "43a406193f3e804fee461630983ddaf742189b76309ec15f4e339953394e4b59", checked := Tryd.checked }
namespace Rows
def none {H : Type} : Left H := { results := [], args := [] }

/- WHAT THE LISTED PACKAGE-LEVEL VARIABLES READ AS WHEN THE CALL BEGINS. Each datum BY PROGRAM (the guide's laid-datum.mjs) off the statement by which the dump's own 'gosem.cut.vars' lays the variable. In a bare row this is a premise. The card (YtlpclbilomcaiaaDoorCards.lean) ties it to the program's text. -/
def laid_math_bits_deBruijn32tab {H : Type} : DataW H := .agg [.lit (.int .u8 0), .lit (.int .u8 1), .lit (.int .u8 28), .lit (.int .u8 2), .lit (.int .u8 29), .lit (.int .u8 14), .lit (.int .u8 24), .lit (.int .u8 3), .lit (.int .u8 30), .lit (.int .u8 22), .lit (.int .u8 20), .lit (.int .u8 15), .lit (.int .u8 25), .lit (.int .u8 17), .lit (.int .u8 4), .lit (.int .u8 8), .lit (.int .u8 31), .lit (.int .u8 27), .lit (.int .u8 13), .lit (.int .u8 23), .lit (.int .u8 21), .lit (.int .u8 19), .lit (.int .u8 16), .lit (.int .u8 7), .lit (.int .u8 26), .lit (.int .u8 12), .lit (.int .u8 18), .lit (.int .u8 6), .lit (.int .u8 11), .lit (.int .u8 5), .lit (.int .u8 10), .lit (.int .u8 9)]

/-- 'pennyweightlaw02.DomPlays': WHATEVER THE INPUT: true; the input reads as it did. -/
def domPlaysSpec : ChangeSpec := { name := "domPlays", fn := fun _ => fun
  | [d1, d2, d3] => { results := [.lit (.bool true)], args := [d1, d2, d3] }
  | _ => none }
def domPlaysRow : OpenClaim := { program := "ytlpclbilomcaiaadoor", sum := "43a406193f3e804fee461630983ddaf742189b76309ec15f4e339953394e4b59", func := "pennyweight/pennyweightlaw02.DomPlays", spec := "domPlays", unfollowed := true, recurses := true, named := ["math/bits.deBruijn32tab"], apart := false, laid := [("math/bits.deBruijn32tab", laid_math_bits_deBruijn32tab)] }
def DomPlaysSaid : Prop := domPlaysRow.holds Tryd.pinned (OpenSpec.ofChange domPlaysSpec)

/-- ITS FALSE NEIGHBOUR: 'it returns false'. Refute it at one input. -/
def domPlaysWrong : ChangeSpec := { name := "domPlays", fn := fun _ => fun
  | [d1, d2, d3] => { results := [.lit (.bool false)], args := [d1, d2, d3] }
  | _ => none }
def DomPlaysWrongFalsely : Prop := domPlaysRow.holds Tryd.pinned (OpenSpec.ofChange domPlaysWrong)

/-- 'pennyweightlaw02.DomInters': WHATEVER THE INPUT: true; the input reads as it did. -/
def domIntersSpec : ChangeSpec := { name := "domInters", fn := fun _ => fun
  | [d1, d2, d3, d4] => { results := [.lit (.bool true)], args := [d1, d2, d3, d4] }
  | _ => none }
def domIntersRow : OpenClaim := { program := "ytlpclbilomcaiaadoor", sum := "43a406193f3e804fee461630983ddaf742189b76309ec15f4e339953394e4b59", func := "pennyweight/pennyweightlaw02.DomInters", spec := "domInters", unfollowed := true, recurses := true, named := ["math/bits.deBruijn32tab"], apart := false, laid := [("math/bits.deBruijn32tab", laid_math_bits_deBruijn32tab)] }
def DomIntersSaid : Prop := domIntersRow.holds Tryd.pinned (OpenSpec.ofChange domIntersSpec)

/-- ITS FALSE NEIGHBOUR: 'it returns false'. Refute it at one input. -/
def domIntersWrong : ChangeSpec := { name := "domInters", fn := fun _ => fun
  | [d1, d2, d3, d4] => { results := [.lit (.bool false)], args := [d1, d2, d3, d4] }
  | _ => none }
def DomIntersWrongFalsely : Prop := domIntersRow.holds Tryd.pinned (OpenSpec.ofChange domIntersWrong)

/-- 'pennyweightlaw02.DomNew': WHATEVER THE INPUT: true; the input reads as it did. -/
def domNewSpec : ChangeSpec := { name := "domNew", fn := fun _ => fun
  | [d1, d2] => { results := [.lit (.bool true)], args := [d1, d2] }
  | _ => none }
def domNewRow : OpenClaim := { program := "ytlpclbilomcaiaadoor", sum := "43a406193f3e804fee461630983ddaf742189b76309ec15f4e339953394e4b59", func := "pennyweight/pennyweightlaw02.DomNew", spec := "domNew", unfollowed := true, recurses := true, named := ["math/bits.deBruijn32tab"], apart := false, laid := [("math/bits.deBruijn32tab", laid_math_bits_deBruijn32tab)] }
def DomNewSaid : Prop := domNewRow.holds Tryd.pinned (OpenSpec.ofChange domNewSpec)

/-- ITS FALSE NEIGHBOUR: 'it returns false'. Refute it at one input. -/
def domNewWrong : ChangeSpec := { name := "domNew", fn := fun _ => fun
  | [d1, d2] => { results := [.lit (.bool false)], args := [d1, d2] }
  | _ => none }
def DomNewWrongFalsely : Prop := domNewRow.holds Tryd.pinned (OpenSpec.ofChange domNewWrong)

/-- 'pennyweightlaw02.DomNexts': WHATEVER THE INPUT: true; the input reads as it did. -/
def domNextsSpec : ChangeSpec := { name := "domNexts", fn := fun _ => fun
  | [d1, d2, d3] => { results := [.lit (.bool true)], args := [d1, d2, d3] }
  | _ => none }
def domNextsRow : OpenClaim := { program := "ytlpclbilomcaiaadoor", sum := "43a406193f3e804fee461630983ddaf742189b76309ec15f4e339953394e4b59", func := "pennyweight/pennyweightlaw02.DomNexts", spec := "domNexts", named := ["math/bits.deBruijn32tab"], apart := false, laid := [("math/bits.deBruijn32tab", laid_math_bits_deBruijn32tab)] }
def DomNextsSaid : Prop := domNextsRow.holds Tryd.pinned (OpenSpec.ofChange domNextsSpec)

/-- ITS FALSE NEIGHBOUR: 'it returns false'. Refute it at one input. -/
def domNextsWrong : ChangeSpec := { name := "domNexts", fn := fun _ => fun
  | [d1, d2, d3] => { results := [.lit (.bool false)], args := [d1, d2, d3] }
  | _ => none }
def DomNextsWrongFalsely : Prop := domNextsRow.holds Tryd.pinned (OpenSpec.ofChange domNextsWrong)

/-- 'pennyweightlaw02.DomSubsets': WHATEVER THE INPUT: true; the input reads as it did. -/
def domSubsetsSpec : ChangeSpec := { name := "domSubsets", fn := fun _ => fun
  | [d1, d2, d3] => { results := [.lit (.bool true)], args := [d1, d2, d3] }
  | _ => none }
def domSubsetsRow : OpenClaim := { program := "ytlpclbilomcaiaadoor", sum := "43a406193f3e804fee461630983ddaf742189b76309ec15f4e339953394e4b59", func := "pennyweight/pennyweightlaw02.DomSubsets", spec := "domSubsets", named := ["math/bits.deBruijn32tab"], apart := false, laid := [("math/bits.deBruijn32tab", laid_math_bits_deBruijn32tab)] }
def DomSubsetsSaid : Prop := domSubsetsRow.holds Tryd.pinned (OpenSpec.ofChange domSubsetsSpec)

/-- ITS FALSE NEIGHBOUR: 'it returns false'. Refute it at one input. -/
def domSubsetsWrong : ChangeSpec := { name := "domSubsets", fn := fun _ => fun
  | [d1, d2, d3] => { results := [.lit (.bool false)], args := [d1, d2, d3] }
  | _ => none }
def DomSubsetsWrongFalsely : Prop := domSubsetsRow.holds Tryd.pinned (OpenSpec.ofChange domSubsetsWrong)

/- THE SECOND FORM. 'bulk': how many values and letters a reading holds, each counted each time it is reached (what is shared counts as often as it is met; a slice's spare places count too). A statement '..UptoSaid' is the law's where the arguments, and the package variables that the reading takes, are together of bulk at most 1048576: NARROWER than '..Said'. Prove '..Said' where nothing that the law and all that it calls make is longer than what came in: it says more and counts as full. Else prove '..UptoSaid'. A law counts once. -/
mutual
def uptoBulk {H : Type} : DataW H → Nat
  | .lit (.string bytes) => bytes.length + 1
  | .lit _ => 1
  | .nil => 1
  | .ptr d => uptoBulk d + 1
  | .slice elems spare => uptoBulkAll elems + uptoBulkAll spare + 1
  | .agg parts => uptoBulkAll parts + 1
  | .iface _ d => uptoBulk d + 1
  | .map entries => uptoBulkEntries entries + 1
  | .held _ => 1
def uptoBulkAll {H : Type} : List (DataW H) → Nat
  | [] => 0
  | d :: r => uptoBulk d + uptoBulkAll r
def uptoBulkEntries {H : Type} : List (Lit × DataW H) → Nat
  | [] => 0
  | x :: r => uptoBulkEntry x + uptoBulkEntries r
def uptoBulkEntry {H : Type} : Lit × DataW H → Nat
  | (.string bytes, d) => bytes.length + uptoBulk d + 1
  | (_, d) => uptoBulk d + 1
 end
def uptoSmall : (H : Type) → List (DataW H) → Bool := fun _ ds => decide (uptoBulkAll ds ≤ 1048576)
def OpenSpec.upto (s : _root_.Go.ChangeSpec) : _root_.Go.OpenSpec := { _root_.Go.OpenSpec.ofChange s with cond := some uptoSmall }

/-- 'pennyweightlaw02.DomPlays', WHERE WHAT IT READS IS OF BULK AT MOST 1048576: true; the input reads as it did. -/
def domPlaysUptoRow : OpenClaim := { program := "ytlpclbilomcaiaadoor", sum := "43a406193f3e804fee461630983ddaf742189b76309ec15f4e339953394e4b59", func := "pennyweight/pennyweightlaw02.DomPlays", spec := "domPlays", unfollowed := true, recurses := true, named := ["math/bits.deBruijn32tab"], apart := false, laid := [("math/bits.deBruijn32tab", laid_math_bits_deBruijn32tab)], narrowed := true }
def DomPlaysUptoSaid : Prop := domPlaysUptoRow.holds Tryd.pinned (OpenSpec.upto domPlaysSpec)

/-- 'pennyweightlaw02.DomInters', WHERE WHAT IT READS IS OF BULK AT MOST 1048576: true; the input reads as it did. -/
def domIntersUptoRow : OpenClaim := { program := "ytlpclbilomcaiaadoor", sum := "43a406193f3e804fee461630983ddaf742189b76309ec15f4e339953394e4b59", func := "pennyweight/pennyweightlaw02.DomInters", spec := "domInters", unfollowed := true, recurses := true, named := ["math/bits.deBruijn32tab"], apart := false, laid := [("math/bits.deBruijn32tab", laid_math_bits_deBruijn32tab)], narrowed := true }
def DomIntersUptoSaid : Prop := domIntersUptoRow.holds Tryd.pinned (OpenSpec.upto domIntersSpec)

/-- 'pennyweightlaw02.DomNew', WHERE WHAT IT READS IS OF BULK AT MOST 1048576: true; the input reads as it did. -/
def domNewUptoRow : OpenClaim := { program := "ytlpclbilomcaiaadoor", sum := "43a406193f3e804fee461630983ddaf742189b76309ec15f4e339953394e4b59", func := "pennyweight/pennyweightlaw02.DomNew", spec := "domNew", unfollowed := true, recurses := true, named := ["math/bits.deBruijn32tab"], apart := false, laid := [("math/bits.deBruijn32tab", laid_math_bits_deBruijn32tab)], narrowed := true }
def DomNewUptoSaid : Prop := domNewUptoRow.holds Tryd.pinned (OpenSpec.upto domNewSpec)

/-- 'pennyweightlaw02.DomNexts', WHERE WHAT IT READS IS OF BULK AT MOST 1048576: true; the input reads as it did. -/
def domNextsUptoRow : OpenClaim := { program := "ytlpclbilomcaiaadoor", sum := "43a406193f3e804fee461630983ddaf742189b76309ec15f4e339953394e4b59", func := "pennyweight/pennyweightlaw02.DomNexts", spec := "domNexts", named := ["math/bits.deBruijn32tab"], apart := false, laid := [("math/bits.deBruijn32tab", laid_math_bits_deBruijn32tab)], narrowed := true }
def DomNextsUptoSaid : Prop := domNextsUptoRow.holds Tryd.pinned (OpenSpec.upto domNextsSpec)

/-- 'pennyweightlaw02.DomSubsets', WHERE WHAT IT READS IS OF BULK AT MOST 1048576: true; the input reads as it did. -/
def domSubsetsUptoRow : OpenClaim := { program := "ytlpclbilomcaiaadoor", sum := "43a406193f3e804fee461630983ddaf742189b76309ec15f4e339953394e4b59", func := "pennyweight/pennyweightlaw02.DomSubsets", spec := "domSubsets", named := ["math/bits.deBruijn32tab"], apart := false, laid := [("math/bits.deBruijn32tab", laid_math_bits_deBruijn32tab)], narrowed := true }
def DomSubsetsUptoSaid : Prop := domSubsetsUptoRow.holds Tryd.pinned (OpenSpec.upto domSubsetsSpec)

end Rows
end Go.Proofs.YtlpclbilomcaiaaDoor
