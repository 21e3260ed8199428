/- Keys of tuples, and what a map of them holds (no statement of its own). No condition. -/
import Derived.Test.YtliafkcogmpghaaTup
import Derived.Test.YtliafkcogmpghaaSh1
import Derived.Maps.OwnSet
import Derived.Maps.OwnOps
import Derived.Maps.RangeWalk
import Derived.Maps.Ext
import Derived.DeepKeys4
import Derived.WideKeyArr2
namespace Go.Proofs.Ytliafkcogmpghaa
open Go.RowKit Go.Maps Go.WideMaps Go.ChangeShapes
set_option linter.unusedVariables false
theorem laidOutU : laidOutB Try.prog = true := by kernel_rfl
theorem rowKey : (74 : TypeId) < Try.prog.types.size := of_decide_eq_true (by kernel_rfl)
theorem wideKey : (match Try.prog.underlying 74 with | some (.array _ _) | some (.struct _) => true | _ => false) = true := by kernel_rfl
set_option maxRecDepth 100000 in
theorem keyLaw : KeyLaw Try.prog 74 := deep_law_laid laidOutU (m := 2) (by omega) rowKey (by kernel_rfl) wideKey
theorem keyed : Keyed Try.prog 74 := Keyed.of_law keyLaw
theorem zeroI64 (w : World) : (zeroValue 2).run Try.prog w = .ok (.int .i64 0) w := by kernel_rfl
/-- A tuple as a key: noughts behind its length. -/
abbrev keyV (t : List Nat) : Value := .agg #[szV t 0, szV t 1, szV t 2, szV t 3, szV t 4, szV t 5]
def keyLits (t : List Nat) : List Lit := [.int .i64 (nth t 0 : Int), .int .i64 (nth t 1 : Int), .int .i64 (nth t 2 : Int), .int .i64 (nth t 3 : Int), .int .i64 (nth t 4 : Int), .int .i64 (nth t 5 : Int)]
def keyL (t : List Nat) : Lit := .string (keyBytes (keyLits t))
theorem wf_small {n : Nat} (h : n ≤ 1000) : (Lit.int .i64 (n : Int)).wf = true := WalkArith.wf_i64 (by omega)
theorem cellsKey : Try.prog.cellsOf 74 = 6 := by kernel_rfl
theorem cellsInt : Try.prog.cellsOf 3 = 1 := by kernel_rfl
theorem keyTypeKey : Try.prog.keyType 74 = true := by kernel_rfl
theorem typesKey : Try.prog.types.size = (Try.prog.types.size - 2) + 2 := by kernel_rfl
theorem keyOf_key {t : List Nat} (h : ∀ i, nth t i ≤ 1000) : keyOf Try.prog 74 (keyV t) = some (keyL t) := by
  have hw : ∀ i, (Lit.int .i64 (nth t i : Int)).wf = true := fun i => wf_small (h i)
  have hl : Try.prog.keyLits (Try.prog.types.size + 1) 74 [szV t 0, szV t 1, szV t 2, szV t 3, szV t 4, szV t 5] = some (keyLits t) := by
    rw [typesKey]
    generalize Try.prog.types.size - 2 = m
    unfold Program.keyLits
    rw [Try.underlying74]
    simp only [cellsKey, cellsInt]
    unfold Program.keyLits
    rw [Try.underlying3]
    simp [List.range_succ, hw, keyLits]
  unfold keyOf
  rw [Try.underlying74]
  simp only [keyTypeKey, Value.formed, Try.underlying74, cellsKey, Value.cells]
  rw [hl]
  rfl
end Go.Proofs.Ytliafkcogmpghaa
