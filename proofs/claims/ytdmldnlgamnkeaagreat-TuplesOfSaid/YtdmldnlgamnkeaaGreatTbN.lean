/- Contracts of table.New, and of a table's Get (no statement of its own). -/
import Derived.Test.YtdmldnlgamnkeaaGreatTbA
import Derived.Test.YtdmldnlgamnkeaaGreatShelf
import Derived.Deep.RegionHeld3
namespace Go.Proofs.YtdmldnlgamnkeaaGreat
open Go.RowKit
set_option linter.unusedVariables false
theorem mul_one' (n : Nat) (h : n ≤ 4096) (W : World) : Calls Tryz.prog 49 #[.int .u64 1, .int .u64 (n : Int)] W fun e w' => e = .returned (.tuple #[.int .u64 0, .int .u64 (n : Int)]) ∧ W = w' := by
  refine (Tryz.bits_Mul 1 n (by omega) (by omega) W).mono ?_
  rintro e w' ⟨rfl, rfl⟩
  rw [Nat.one_mul, Nat.div_eq_of_lt (by omega), Nat.mod_eq_of_lt (by omega)]
  exact ⟨rfl, rfl⟩
theorem lit_new (w : World) (v : Value) (t : TypeId) : (w.alloc (.cells #[v] t)).cell? ⟨w.heap.size, 0, none⟩ = some v := by
  rw [cell_of_row _ _ _ _ _ _ (heap_alloc_new w _)]; rfl
theorem lit_old (w : World) (v : Value) (t : TypeId) (o : Obj) : ((w.alloc (.cells #[v] t)).alloc o).cell? ⟨w.heap.size, 0, none⟩ = some v :=
  ((new_val (w.alloc (.cells #[v] t)) o).cell (p := ⟨w.heap.size, 0, none⟩) (by simp)).trans (lit_new w v t)
theorem lit_newD (w : World) (v : Value) (t : TypeId) (g : Nat) (hg : g = w.heap.size) : (w.alloc (.cells #[v] t)).drew.cell? ⟨g, 0, none⟩ = some v := by
  subst hg
  exact lit_new w v t
theorem lit_oldD (w : World) (v : Value) (t : TypeId) (o : Obj) (g : Nat) (hg : g = w.heap.size) : ((w.alloc (.cells #[v] t)).alloc o).drew.cell? ⟨g, 0, none⟩ = some v := by
  subst hg
  exact lit_old w v t o
theorem RepAt.costs {W : World} {h : Nat} {x : Int} {n : Nat} (H : RepAt W h x n n) : ∃ cur, W.heap[h]? = some (.cells cur 2 (0, 0)) ∧ cur.size = n ∧ ∀ i, i < n → cur[i]? = some (.int .i64 x) :=
  ⟨_, H, by simp [RepL], fun i hi => by simp [RepL, hi]⟩
theorem count_exact (l : List Nat) (w : World) (P : Nat) (h6 : l.length ≤ 6) (h32 : ∀ n ∈ l, n ≤ 32) (hP : prodL l = P) :
    Calls Tryz.prog 23 #[shV l] w fun e w' => e = .returned (.int .i64 (P : Int)) ∧ w' = w.alloc (shO l) := by
  subst hP
  exact count_any l w h6 h32
end Go.Proofs.YtdmldnlgamnkeaaGreat
