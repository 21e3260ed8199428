/- The contracts of trail's New, Get, Set, Grow (no statement of its own). -/
import Derived.Test.YtafcecacldafgaaTrF
namespace Go.Proofs.Ytafcecacldafgaa
open Go.RowKit
open Go.Maps (Keyed)
set_option linter.unusedVariables false
def fresh (n : Nat) : Tr := ⟨n, [], 0, [], []⟩
def NewP (w : World) (n : Nat) (e : Ending) (w' : World) : Prop :=
  e = .returned (.pointer (some ⟨w.heap.size + 1, 0, none⟩)) ∧ (∀ P : Nat → Prop, (∀ k, w.heap.size ≤ k → P k) → TA P w' (w.heap.size + 1) (fresh n)) ∧ w.grownBy w' none
theorem new_fin (N : Nat) (w : World) : NewP w N (.returned (.pointer (some ⟨w.heap.size + 1, 0, none⟩))) ((w.alloc (.map #[] 0)).alloc (.cells #[.int .i64 (N : Int), .slice none 0 0, .map (some w.heap.size), .int .i64 0, .slice none 0 0, .slice none 0 0] 59)) := by
  have hg := World.grownBy.trans (World.grownBy_alloc w (.map #[] 0) none) (World.grownBy_alloc (w.alloc (.map #[] 0)) (.cells #[.int .i64 (N : Int), .slice none 0 0, .map (some w.heap.size), .int .i64 0, .slice none 0 0, .slice none 0 0] 59) none)
  refine ⟨rfl, fun P hP => ⟨.slice none 0 0, .slice none 0 0, .slice none 0 0, w.heap.size, ?_, World.ownsRow_nil _ _ _ _, World.ownsRow_nil _ _ _ _, World.ownsRow_nil _ _ _ _, ?_, hP _ (by omega), hP _ (Nat.le_refl _), ?_, ?_, ?_⟩, hg⟩
  · show _ = _
    have := heap_alloc_new (w.alloc (.map #[] 0)) (.cells #[.int .i64 (N : Int), .slice none 0 0, .map (some w.heap.size), .int .i64 0, .slice none 0 0, .slice none 0 0] 59)
    rw [World.size_alloc] at this
    exact this
  · show _ = _
    exact (heap_alloc_old (w.alloc (.map #[] 0)) _ (by simp)).trans (heap_alloc_new w _)
  all_goals (intro g hg; simp [Value.ownBlock] at hg)
set_option maxRecDepth 100000 in
theorem new_any (n : Int) (N : Nat) (w : World) (hN : max n 0 = (N : Int)) : Calls Try.prog 10 #[.int .i64 n] w (NewP w N) := by
  have hmm := @run_makeMap Try.prog
  by_cases h : n < 0
  · obtain rfl : N = 0 := by omega
    clear hN
    go_enter Try.func10, Try.ntmps10
    go_wp2_with fail
    go_ret
    exact new_fin 0 w
  · obtain rfl : n = (N : Int) := by omega
    clear hN h
    go_enter Try.func10, Try.ntmps10
    go_wp2_with fail
    go_ret
    exact new_fin N w
/-- The number of a cell, 0 if there is none. -/
def Tr.get (T : Tr) (i : Int) : Int := if isIn i T.size then (T.cell i.toNat).1 else 0
theorem get_any {P : Nat → Prop} {w : World} {b : Nat} {T : Tr} (i : Int) (h : TA P w b T) (hi : i ≤ 9223372036854775807) :
    Calls Try.prog 22 #[.pointer (some ⟨b, 0, none⟩), .int .i64 i] w (AndG w (.int .i64 (T.get i))) := by
  have H1 := Lib.hid (has_of i w (len_any h))
  unfold Tr.get
  cases hh : isIn i T.size with
  | false =>
    rw [hh] at H1
    clear h hi
    go_enter Try.func22, Try.ntmps22
    go_wp2_with (go_at_call 28; refine H1.out.mono ?_; rintro e w' ⟨rfl, rfl⟩)
    go_ret
    exact ⟨rfl, World.grownBy_refl _⟩
  | true =>
    rw [hh] at H1
    have h0 : 0 ≤ i := by simp [isIn] at hh; exact hh.1
    obtain ⟨k, rfl⟩ : ∃ k : Nat, i = (k : Int) := ⟨i.toNat, by omega⟩
    have H2 := Lib.hid (cell_any (i := k) h hi)
    simp only [Int.toNat_natCast, if_true]
    generalize T.cell k = y at *
    clear h hi hh h0
    have hfd : ∀ W, (Instr.field 66 (.agg #[.int .i64 y.1, .int .i64 y.2]) 0).run Try.prog W = .ok (.int .i64 y.1) W := fun W => by kernel_rfl
    go_enter Try.func22, Try.ntmps22
    go_wp2_with (first | (go_at_call 28; refine H1.out.mono ?_; rintro e w' ⟨rfl, rfl⟩) | (go_at_call 29; refine H2.out.mono ?_; rintro e w' ⟨rfl, hg⟩))
    go_ret
    exact ⟨rfl, by assumption⟩
theorem get_nil (i : Int) (w : World) : Calls Try.prog 22 #[.pointer none, .int .i64 i] w (AndO w (.int .i64 0)) := by
  have H1 := Lib.hid (has_of (L := 0) i w (len_nil w))
  have e : isIn i 0 = false := by simp [isIn]
  rw [e] at H1
  clear e
  go_enter Try.func22, Try.ntmps22
  go_wp2_with (go_at_call 28; refine H1.out.mono ?_; rintro e w' ⟨rfl, rfl⟩)
  go_ret
  exact ⟨rfl, rfl⟩
end Go.Proofs.Ytafcecacldafgaa
