/- Contract of a shape's Tuple where there is none (no statement of its own). Conditions: at most six sizes, each of 0 to 32. -/
import Derived.Test.YtcfendilaogjlaaShG
import Derived.Deep.RegionHeld3
namespace Go.Proofs.Ytcfendilaogjlaa
open Go.RowKit Go.Shelf
set_option linter.unusedVariables false
theorem tuple_neg (l : List Nat) (i : Int) (w : World) (h : i < 0) :
    Calls Try.prog 13 #[shV l, .int .i64 i] w fun e w' => e = .returned (.tuple #[.slice none 0 0, .int .i64 3]) ∧ Below w.heap.size w w' := by
  have hd : decide (i < 0) = true := by simpa using h
  go_enter Try.func13, Try.ntmps13
  go_wp2_with fail
  go_quiet (fail)
  go_wp2
  go_ret2
  exact ⟨rfl, next_drewN (((Below.refl _ _).alloc (Nat.le_refl _) _).alloc (by simp) _) _⟩
/-- The shape's box and the number's are as they were laid. -/
abbrev HoldT (w : World) (l : List Nat) (i : Int) (W : World) : Prop :=
  W.cell? ⟨w.heap.size, 0, none⟩ = some (.int .i64 (l.length : Int)) ∧ W.cell? ⟨w.heap.size, 1, none⟩ = some (szV l 0) ∧ W.cell? ⟨w.heap.size, 2, none⟩ = some (szV l 1) ∧ W.cell? ⟨w.heap.size, 3, none⟩ = some (szV l 2) ∧
  W.cell? ⟨w.heap.size, 4, none⟩ = some (szV l 3) ∧ W.cell? ⟨w.heap.size, 5, none⟩ = some (szV l 4) ∧ W.cell? ⟨w.heap.size, 6, none⟩ = some (szV l 5) ∧ W.cell? ⟨w.heap.size + 1, 0, none⟩ = some (.int .i64 i) ∧ W.heap[w.heap.size]? = some (shO l) ∧ W.heap[w.heap.size + 1]? = some (.cells #[.int .i64 i] 3) ∧ Below w.heap.size w W
theorem holdT {w W W' : World} {l : List Nat} {i : Int} (h : HoldT w l i W) (hb : Below W.heap.size W W') : HoldT w l i W' := by
  obtain ⟨h0, h1, h2, h3, h4, h5, h6, h7, g0, g1, h8⟩ := h
  have l0 : w.heap.size < W.heap.size := World.block_lt_of_cell? W _ h0
  have l1 : w.heap.size + 1 < W.heap.size := World.block_lt_of_cell? W _ h7
  exact ⟨(hb.cell (p := ⟨_, 0, none⟩) l0).trans h0, (hb.cell (p := ⟨_, 1, none⟩) l0).trans h1, (hb.cell (p := ⟨_, 2, none⟩) l0).trans h2, (hb.cell (p := ⟨_, 3, none⟩) l0).trans h3, (hb.cell (p := ⟨_, 4, none⟩) l0).trans h4,
    (hb.cell (p := ⟨_, 5, none⟩) l0).trans h5, (hb.cell (p := ⟨_, 6, none⟩) l0).trans h6, (hb.cell (p := ⟨_, 0, none⟩) l1).trans h7, (hb.block _ l0).trans g0, (hb.block _ l1).trans g1, h8.trans (hb.mono h8.size)⟩
theorem holdT_below {w W : World} {l : List Nat} {i : Int} (h : HoldT w l i W) : Below w.heap.size w W := h.2.2.2.2.2.2.2.2.2.2
theorem holdT_lt {w W : World} {l : List Nat} {i : Int} (h : HoldT w l i W) : w.heap.size + 1 < W.heap.size := World.block_lt_of_cell? W _ h.2.2.2.2.2.2.2.1
theorem holdT_new (w : World) (l : List Nat) (i : Int) : HoldT w l i ((w.alloc (shO l)).alloc (.cells #[.int .i64 i] 3)) := by
  have a := ShAt.new w l
  have b : Below (w.heap.size + 1) (w.alloc (shO l)) ((w.alloc (shO l)).alloc (.cells #[.int .i64 i] 3)) := (Below.refl _ _).alloc (by simp) _
  have c := a.below b (by omega)
  have g1 := alloc_two w (shO l) (.cells #[.int .i64 i] 3)
  have g0 : ((w.alloc (shO l)).alloc (.cells #[.int .i64 i] 3)).heap[w.heap.size]? = some (shO l) := (b.block w.heap.size (by omega)).trans (heap_alloc_new w _)
  exact ⟨c.c0, c.c1, c.c2, c.c3, c.c4, c.c5, c.c6, by rw [cell_of_row _ _ _ _ _ _ g1]; rfl, g0, g1, ((Below.refl _ _).alloc (Nat.le_refl _) _).alloc (by simp) _⟩
theorem count_below (l : List Nat) (w : World) (h6 : l.length ≤ 6) (h32 : ∀ n ∈ l, n ≤ 32) (P : Nat) (hP : prodL l = P) :
    Calls Try.prog 8 #[shV l] w fun e w' => e = .returned (.int .i64 (P : Int)) ∧ Below w.heap.size w w' := by
  subst hP
  exact (count_any l w h6 h32).mono fun e w' ⟨he, hw⟩ => ⟨he, by subst hw; exact (Below.refl _ _).alloc (Nat.le_refl _) _⟩
theorem tuple_big (l : List Nat) (i : Int) (w : World) (h6 : l.length ≤ 6) (h32 : ∀ n ∈ l, n ≤ 32) (h : (prodL l : Int) ≤ i) :
    Calls Try.prog 13 #[shV l, .int .i64 i] w fun e w' => e = .returned (.tuple #[.slice none 0 0, .int .i64 3]) ∧ Below w.heap.size w w' := by
  obtain ⟨P, hP⟩ : ∃ P, prodL l = P := ⟨_, rfl⟩
  have K := Lib.hid (fun W => count_below l W h6 h32 P hP)
  have hd : decide (i < 0) = false := by simp; omega
  have hd2 : decide ((P : Int) ≤ i) = true := by simp; omega
  have h0 : 0 ≤ i := by omega
  have HT := Lib.hid (holdT_new w l i)
  clear hP h h32
  go_enter Try.func13, Try.ntmps13
  go_upto_region 1 with fail
  go_region_held3 (fun W => HoldT w l i W) (first | exact holdT HT.out ((Below.refl _ _).drew) | exact holdT (by assumption) (by assumption))
    ((go_at_call 8; refine (K.out _).mono ?_; rintro e w' ⟨rfl, hb⟩))
  go_wp2
  go_ret2
  exact ⟨rfl, holdT_below (by assumption)⟩
end Go.Proofs.Ytcfendilaogjlaa
