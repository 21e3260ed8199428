/- The walk of ShapeSteps. No condition. -/
import Derived.Test.YtcfendilaogjlaaShK
import Derived.Deep.RegionHeld3
namespace Go.Proofs.Ytcfendilaogjlaa
open Go.RowKit
set_option linter.unusedVariables false
theorem prodL_small {l : List Nat} (h : ∀ n ∈ l, 1 ≤ n ∧ n ≤ 4) (h3 : l.length ≤ 3) : 1 ≤ prodL l ∧ prodL l ≤ 64 := by
  refine ⟨prodL_pos fun n hn => (h n hn).1, ?_⟩
  have h1 : prodL l ≤ 4 ^ l.length := prodL_le fun n hn => (h n hn).2
  have h2 : 4 ^ l.length ≤ 4 ^ 3 := Nat.pow_le_pow_right (by omega) h3
  have h4 : (4 : Nat) ^ 3 = 64 := by decide
  omega
/-- What a round's region reads, and that nothing older has turned. -/
abbrev HoldS (wr : World) (g : Nat) (l : List Nat) (q : Addr) (x : Int) (W : World) : Prop :=
  W.cell? ⟨g, 0, none⟩ = some (.int .i64 (l.length : Int)) ∧ W.cell? ⟨g, 1, none⟩ = some (szV l 0) ∧ W.cell? ⟨g, 2, none⟩ = some (szV l 1) ∧ W.cell? ⟨g, 3, none⟩ = some (szV l 2) ∧
  W.cell? ⟨g, 4, none⟩ = some (szV l 3) ∧ W.cell? ⟨g, 5, none⟩ = some (szV l 4) ∧ W.cell? ⟨g, 6, none⟩ = some (szV l 5) ∧ W.cell? q = some (.int .i64 x) ∧ Below wr.heap.size wr W
theorem holdS {wr W W' : World} {g : Nat} {l : List Nat} {q : Addr} {x : Int} (h : HoldS wr g l q x W) (hb : Below W.heap.size W W') : HoldS wr g l q x W' := by
  obtain ⟨h0, h1, h2, h3, h4, h5, h6, h7, h8⟩ := h
  have l0 : g < W.heap.size := World.block_lt_of_cell? W _ h0
  have l1 : q.block < W.heap.size := World.block_lt_of_cell? W _ h7
  exact ⟨(hb.cell (p := ⟨_, 0, none⟩) l0).trans h0, (hb.cell (p := ⟨_, 1, none⟩) l0).trans h1, (hb.cell (p := ⟨_, 2, none⟩) l0).trans h2, (hb.cell (p := ⟨_, 3, none⟩) l0).trans h3, (hb.cell (p := ⟨_, 4, none⟩) l0).trans h4,
    (hb.cell (p := ⟨_, 5, none⟩) l0).trans h5, (hb.cell (p := ⟨_, 6, none⟩) l0).trans h6, (hb.cell l1).trans h7, h8.trans (hb.mono h8.size)⟩
theorem holdS_below {wr W : World} {g : Nat} {l : List Nat} {q : Addr} {x : Int} (h : HoldS wr g l q x W) : Below wr.heap.size wr W := h.2.2.2.2.2.2.2.2
theorem holdS_cell {wr W : World} {g : Nat} {l : List Nat} {q : Addr} {x : Int} (h : HoldS wr g l q x W) : W.cell? q = some (.int .i64 x) := h.2.2.2.2.2.2.2.1
theorem holdS_new {wr : World} {g : Nat} {l : List Nat} {q : Addr} {x : Int} (h : ShAt wr g l) (hq : wr.cell? q = some (.int .i64 x)) : HoldS wr g l q x wr :=
  ⟨h.c0, h.c1, h.c2, h.c3, h.c4, h.c5, h.c6, hq, Below.refl _ _⟩
theorem nth_tup {l : List Nat} {i p : Nat} (h : ∀ n ∈ l, 1 ≤ n) (hp : p < l.length) : nth (tupL l i) p < nth l p := (inL_iff.1 (tupL_in h i)).2 p hp
/-- The number of the places from one on. -/
def numFrom (l t : List Nat) (p : Nat) : Nat := numL (l.drop p) (t.drop p)
theorem numFrom_step {l t : List Nat} (h : t.length = l.length) {p : Nat} (hp : p < l.length) : numFrom l t p = numFrom l t (p + 1) + nth t p * prodL (l.drop (p + 1)) := by
  unfold numFrom
  rw [List.drop_eq_getElem_cons hp, List.drop_eq_getElem_cons (l := t) (by omega)]
  show t[p] * prodL (l.drop (p + 1)) + numL (l.drop (p + 1)) (t.drop (p + 1)) = _
  unfold nth
  rw [List.getD_eq_getElem?_getD, List.getElem?_eq_getElem (show p < t.length by omega)]
  show t[p] * _ + _ = _ + t[p] * _
  omega
theorem drop_small {l : List Nat} {c : Nat} (h : ∀ n ∈ l, 1 ≤ n ∧ n ≤ c) (p : Nat) : ∀ n ∈ l.drop p, 1 ≤ n ∧ n ≤ c := fun n hn => h n (List.mem_of_mem_drop hn)
theorem inL_drop {l t : List Nat} (h : InL l t) (p : Nat) : InL (l.drop p) (t.drop p) := by
  rw [inL_iff] at h ⊢
  refine ⟨by simp [h.1], fun i hi => ?_⟩
  rw [nth_drop, nth_drop]
  exact h.2 (p + i) (by simp at hi; omega)
theorem tuple_ok' (l : List Nat) (x : Int) (i : Nat) (w : World) (hx : x = i) (h6 : l.length ≤ 6) (h32 : ∀ n ∈ l, 1 ≤ n ∧ n ≤ 32) (h : i < prodL l) :
    Calls Try.prog 13 #[shV l, .int .i64 x] w fun e w' => (∃ v, e = .returned (.tuple #[v, .int .i64 0]) ∧ Own w' w.heap.size v (tupL l i)) ∧ Below w.heap.size w w' := by
  subst hx
  exact tuple_ok l i w h6 h32 h
end Go.Proofs.Ytcfendilaogjlaa
