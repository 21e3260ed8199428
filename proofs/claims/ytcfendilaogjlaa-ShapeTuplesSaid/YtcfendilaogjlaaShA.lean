/- Contracts of package shape's calls that count (no statement of its own). Conditions: at most six sizes, each of 0 to 32. -/
import Derived.Test.YtcfendilaogjlaaRows
import Derived.Test.YtcfendilaogjlaaTup
import Derived.WalkKit
import Derived.WalkLawsBesides
import Derived.Lib.Hide
import Derived.Handy
import Derived.IntWalk
import Derived.BigQuiet
import Derived.Deep.QuietTactic
import Derived.Deep.RegionWith
namespace Go.Proofs.Ytcfendilaogjlaa
open Go.RowKit
set_option linter.unusedVariables false
theorem ret_bool {a b : Bool} (h : a = b) : Ending.returned (.bool a) = .returned (.bool b) := by rw [h]
theorem ret_int {t : IntKind} {a b : Int} (h : a = b) : Ending.returned (.int t a) = .returned (.int t b) := by rw [h]
theorem old_cells {W w1 : World} (hb : Below W.heap.size W w1) : (∀ b o, b < W.heap.size → w1.cell? ⟨b, o, none⟩ = W.cell? ⟨b, o, none⟩) ∧ (∀ b o, b < W.heap.size → w1.frozen? ⟨b, o, none⟩ = W.frozen? ⟨b, o, none⟩) :=
  ⟨fun b o h => hb.cell (p := ⟨b, o, none⟩) h, fun b o h => hb.frozen (p := ⟨b, o, none⟩) h⟩
/-- A size of a shape, as a cell. -/
abbrev szV (l : List Nat) (i : Nat) : Value := .int .i64 (nth l i : Int)
abbrev shC (l : List Nat) : Array Value := #[.int .i64 (l.length : Int), szV l 0, szV l 1, szV l 2, szV l 3, szV l 4, szV l 5]
/-- A shape of these sizes. -/
abbrev shV (l : List Nat) : Value := .agg (shC l)
abbrev shO (l : List Nat) : Obj := .cells (shC l) 28
/-- A slice that begins at A holds the numbers l. -/
def Ints (w : World) (A : Option Addr) (l : List Nat) : Prop :=
  l = [] ∨ ∃ g o, A = some ⟨g, o, none⟩ ∧ g < w.heap.size ∧ ∀ i, i < l.length → w.cell? ⟨g, o + i, none⟩ = some (.int .i64 (nth l i : Int))
theorem Ints.below {w w' : World} {A : Option Addr} {l : List Nat} {B : Nat} (h : Ints w A l) (hb : Below B w w') (hB : w.heap.size ≤ B) : Ints w' A l := by
  rcases h with rfl | ⟨g, o, rfl, hg, hc⟩
  · exact .inl rfl
  · exact .inr ⟨g, o, rfl, by have := hb.size; omega, fun i hi => (hb.cell (p := ⟨g, o + i, none⟩) (by show g < B; omega)).trans (hc i hi)⟩
theorem Ints.at_ {w : World} {A : Option Addr} {l : List Nat} (h : Ints w A l) {i : Nat} (hi : i < l.length) : ∃ g o, A = some ⟨g, o, none⟩ ∧ w.cell? ⟨g, o + i, none⟩ = some (.int .i64 (nth l i : Int)) := by
  rcases h with rfl | ⟨g, o, rfl, hg, hc⟩
  · exact absurd hi (by simp)
  · exact ⟨g, o, rfl, hc i hi⟩
theorem product_any (A : Option Addr) (n c : Nat) (l : List Nat) (w : World) (hn : n = l.length) (h6 : l.length ≤ 6) (h32 : ∀ n ∈ l, n ≤ 32) (hw : Ints w A l) :
    Calls Try.prog 18 #[.slice A n c] w fun e w' => e = .returned (.int .i64 (prodL l : Nat)) ∧ w = w' := by
  have HN := Lib.hid hn
  have HW := Lib.hid hw
  have H6 := Lib.hid h6
  have H32 := Lib.hid h32
  have hn6 : n ≤ 6 := by omega
  clear hn hw h6 h32
  go_enter Try.func18, Try.ntmps18
  go_wp2_with fail
  go_loop [3, 5, 8] (fun p _ i => ∃ j : Nat, j ≤ n ∧ i = .int .i64 j ∧ p = .int .i64 (prodL (l.take j) : Nat)) (fun _ _ i => n - (intOf i).toNat)
  case atStart => exact ⟨0, Nat.zero_le _, rfl, rfl⟩
  case round =>
    obtain ⟨j, hj, rfl, rfl⟩ := hrel
    by_cases hlt : j < n
    · have hjl : j < l.length := by have := HN.out; omega
      obtain ⟨g, o, rfl, hcell⟩ := HW.out.at_ hjl
      have hb := take_le H6.out H32.out j
      have hx := nth_le H32.out j
      have HP := Lib.hid (prod_take l hjl)
      have hm : prodL (l.take j) * nth l j ≤ 1073741824 := by rw [← HP.out]; exact take_le H6.out H32.out (j + 1)
      have hmi : ((prodL (l.take j) : Nat) : Int) * (nth l j : Int) ≤ 1073741824 := by rw [← Int.natCast_mul]; omega
      have hm0 : 0 ≤ ((prodL (l.take j) : Nat) : Int) * (nth l j : Int) := by rw [← Int.natCast_mul]; omega
      clear hjl hm
      generalize nth l j = x at hcell hx HP hmi hm0
      generalize prodL (l.take j) = p at hb HP hmi hm0
      go_wp2
      go_round
      case rel => exact ⟨j + 1, by omega, by go_num, by rw [HP.out, Int.natCast_mul]⟩
      case measure => simp [intOf]; omega
    · go_wp2
      go_ret
      obtain rfl : j = n := by omega
      exact ⟨ret_int (by rw [HN.out, List.take_length]), rfl⟩
theorem new_sh (w : World) (l : List Nat) (h6 : l.length ≤ 6) : Ints (w.alloc (shO l)) (some ⟨w.heap.size, 1, none⟩) l := by
  refine .inr ⟨_, _, rfl, by simp, fun i hi => ?_⟩
  rw [World.cell?_alloc_at _ _ _ _ rfl]
  rcases (by omega : i = 0 ∨ i = 1 ∨ i = 2 ∨ i = 3 ∨ i = 4 ∨ i = 5) with rfl | rfl | rfl | rfl | rfl | rfl <;> rfl
theorem arity_any (l : List Nat) (w : World) : Calls Try.prog 9 #[shV l] w fun e w' => e = .returned (.int .i64 (l.length : Int)) ∧ w' = w.alloc (shO l) := by
  go_enter Try.func9, Try.ntmps9
  go_wp2
  go_ret
  exact ⟨rfl, rfl⟩
theorem count_any (l : List Nat) (w : World) (h6 : l.length ≤ 6) (h32 : ∀ n ∈ l, n ≤ 32) :
    Calls Try.prog 8 #[shV l] w fun e w' => e = .returned (.int .i64 (prodL l : Nat)) ∧ w' = w.alloc (shO l) := by
  have H := Lib.hid (product_any (some ⟨w.heap.size, 1, none⟩) l.length 6 l (w.alloc (shO l)) rfl h6 h32 (new_sh w l h6))
  have hl : (l.length : Int) ≤ 6 := by omega
  clear h32 h6
  go_enter Try.func8, Try.ntmps8
  go_wp2_with (go_at_call 18; refine H.out.mono ?_; rintro e w' ⟨rfl, rfl⟩)
  go_ret
  exact ⟨rfl, rfl⟩
end Go.Proofs.Ytcfendilaogjlaa
