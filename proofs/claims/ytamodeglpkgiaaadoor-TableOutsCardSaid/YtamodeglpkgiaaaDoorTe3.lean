/- The walk of TableOuts (no statement of its own). Condition: the library's table reads as its initialiser lays it. -/
import Derived.Test.YtamodeglpkgiaaaDoorTwS
import Derived.Test.YtamodeglpkgiaaaDoorTe1
import Derived.Test.YtamodeglpkgiaaaDoorTe2
import Derived.Test.YtamodeglpkgiaaaDoorRoB
namespace Go.Proofs.YtamodeglpkgiaaaDoor
open Go.RowKit
set_option linter.unusedVariables false
open Dm (Mem mem setV setO Tab)
theorem dnew_any (n : Int) : ∃ (N : Nat) (e : Int), N ≤ 32 ∧ ∀ W, Calls Tryd.prog 22 #[.int .i64 n] W fun e' w' => e' = .returned (.tuple #[setV N (2 ^ N - 1), .int .i64 e]) ∧ Below W.heap.size W w' := by
  by_cases h : 1 ≤ n ∧ n ≤ 32
  · obtain ⟨k, rfl⟩ : ∃ k : Nat, n = k := ⟨n.toNat, by omega⟩
    exact ⟨k, 0, by omega, fun W => Dm.new_yes k W (by omega) (by omega)⟩
  · exact ⟨0, 1, by omega, fun W => Dm.new_no n W (by omega)⟩
theorem Kept2.base {W0 W W' : World} {p : Nat} (h : Kept2 W0 p p W) (hb : Below W0.heap.size W W') : Kept2 W0 p p W' :=
  ⟨hb.os.trans h.os, hb.tape.trans h.tape, hb.output.trans h.output, Nat.le_trans h.size hb.size, fun b h1 h2 h3 => (hb.block b h1).trans (h.block b h1 h2 h3)⟩
theorem Kept2.row {W0 W : World} {p : Nat} (h : Kept2 W0 p p W) (cs : Array Value) : Kept2 W0 p p (W.setRow p cs) :=
  ⟨h.os, h.tape, h.output, by simpa using h.size, fun b h1 h2 h3 => (setRow_other W p b cs (by omega)).trans (h.block b h1 h2 h3)⟩
/-- Between two values: which are left, and the set. -/
structure OutV (w6 : World) (D N b j : Nat) (v : Value) (W : World) : Prop where
  kept : Kept2 w6 D D W
  row : W.heap[D]? = some (setO N (bitB b N j))
  own : Own W w6.heap.size v (bitL b j)
theorem OutV.push {w6 W W' : World} {D N b j : Nat} {v v' : Value} (H : OutV w6 D N b j v W) (hD : D < w6.heap.size) (hb : Below w6.heap.size W W') (ht : b.testBit j = true) (ho : Own W' w6.heap.size v' (bitL b j ++ [j])) : OutV w6 D N b (j + 1) v' W' := by
  refine ⟨H.kept.base hb, ?_, ?_⟩
  · rw [hb.block D hD, H.row]
    show _ = some (setO N (if b.testBit j then bitB b N j else _))
    rw [if_pos ht]
  · rw [bitL_succ, if_pos ht]
    exact ho
theorem OutV.drop {w6 W W' : World} {D N b j : Nat} {v : Value} (H : OutV w6 D N b j v W) (hD : D < w6.heap.size) (hb : Below W.heap.size W W') (ht : b.testBit j = false) :
    OutV w6 D N b (j + 1) v (W'.setRow D #[.int .i64 (N : Int), .int .u32 (Dm.dropN (bitB b N j) j : Int)]) := by
  have hr : W'.heap[D]? = some (setO N (bitB b N j)) := (hb.block D (Array.getElem?_eq_some_iff.1 H.row).1).trans H.row
  have ho := H.own.below hb (Nat.le_refl _)
  refine ⟨(H.kept.next hb).row _, ?_, ?_⟩
  · rw [setRow_heap W' D _ _ _ _ hr]
    show _ = some (setO N (if b.testBit j then bitB b N j else _))
    rw [if_neg (by rw [ht]; decide)]
  · rw [bitL_succ, if_neg (by rw [ht]; decide), List.append_nil]
    exact World.ownsRow.kept ho (grown_setRow W' D _) (row_far ho hD)
theorem bit_test (b : Int) (j : Nat) (h0 : 0 ≤ b) (h1 : b ≤ 4294967295) : (bits .and .u32 (b / 2 ^ j) 1 == 1) = b.toNat.testBit j := by
  obtain ⟨B, rfl⟩ : ∃ B : Nat, b = B := ⟨b.toNat, by omega⟩
  have e : ((B : Int) / 2 ^ j) = ((B / 2 ^ j : Nat) : Int) := by simp
  have hle : B / 2 ^ j ≤ B := Nat.div_le_self _ _
  rw [e, Int.toNat_natCast, Nat.testBit_eq_decide_div_mod_eq]
  generalize B / 2 ^ j = q at hle
  have hm : bits .and .u32 (q : Int) 1 = (q : Int) % 2 := bits_mask .u32 32 (by decide) Dm.wraps_u32 1 (by decide) _ (by omega) (by omega)
  rw [hm, Bool.eq_iff_iff]
  simp
  omega
end Go.Proofs.YtamodeglpkgiaaaDoor
