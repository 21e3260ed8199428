/- What the laws of tables hold of what was made (no statement of its own). -/
import Derived.Test.YtpdcpaoabalgcaaGreatDoorTc1
import Derived.Test.YtpdcpaoabalgcaaGreatDoorLk
namespace Go.Proofs.YtpdcpaoabalgcaaGreatDoor
open Go.RowKit
set_option linter.unusedVariables false
open Dm (Mem mem setV setO Tab)
/-- What the law holds of what was made. -/
structure TwS (w : World) (bx g h : Nat) (As : Option Addr) (cs : Nat) (Ac : Option Addr) (cc P : Nat) (l : List Nat) (k : Int) (z : Nat → Int) (W : World) : Prop where
  x : W.heap[bx]? = some (.cells #[.slice As l.length cs, .int .i64 k, .slice Ac P cc] 30 (0, 0))
  t : TabAt W g h l k z
  i : Ints W As l
  c : Zs W Ac P z
  tab : Tab W
  bel : Below w.heap.size w W
theorem TwS.next {w W W' : World} {bx g h : Nat} {As : Option Addr} {cs : Nat} {Ac : Option Addr} {cc P : Nat} {l : List Nat} {k : Int} {z : Nat → Int} (H : TwS w bx g h As cs Ac cc P l k z W) (hb : Below W.heap.size W W') : TwS w bx g h As cs Ac cc P l k z W' :=
  ⟨(hb.block _ (Array.getElem?_eq_some_iff.1 H.x).1).trans H.x, H.t.below hb, H.i.below hb (Nat.le_refl _), H.c.below hb (Nat.le_refl _), H.tab.next hb, then_ H.bel hb⟩
theorem TwS.c0 {w W : World} {bx g h : Nat} {As : Option Addr} {cs : Nat} {Ac : Option Addr} {cc P : Nat} {l : List Nat} {k : Int} {z : Nat → Int} (H : TwS w bx g h As cs Ac cc P l k z W) : W.cell? ⟨bx, 0, none⟩ = some (.slice As l.length cs) := by rw [cell_of_row _ _ _ _ _ _ H.x]; rfl
theorem TwS.c1 {w W : World} {bx g h : Nat} {As : Option Addr} {cs : Nat} {Ac : Option Addr} {cc P : Nat} {l : List Nat} {k : Int} {z : Nat → Int} (H : TwS w bx g h As cs Ac cc P l k z W) : W.cell? ⟨bx, 1, none⟩ = some (.int .i64 k) := by rw [cell_of_row _ _ _ _ _ _ H.x]; rfl
theorem TwS.c2 {w W : World} {bx g h : Nat} {As : Option Addr} {cs : Nat} {Ac : Option Addr} {cc P : Nat} {l : List Nat} {k : Int} {z : Nat → Int} (H : TwS w bx g h As cs Ac cc P l k z W) : W.cell? ⟨bx, 2, none⟩ = some (.slice Ac P cc) := by rw [cell_of_row _ _ _ _ _ _ H.x]; rfl
theorem new_full (n B : Nat) (w : World) (h1 : 1 ≤ n) (h : n ≤ 32) (hB : 2 ^ n - 1 = B) : Calls Tryz.prog 29 #[.int .i64 (n : Int)] w fun e w' => e = .returned (.tuple #[setV n B, .int .i64 0]) ∧ Below w.heap.size w w' := by
  subst hB
  exact Dm.new_yes n w h1 h
theorem full_lt {n B : Nat} (hB : 2 ^ n - 1 = B) : B < 2 ^ n := by have := Nat.two_pow_pos n; omega
theorem set_next {W W' : World} {b : Nat} {o : Obj} (h : W.heap[b]? = some o) (hb : Below W.heap.size W W') : W'.heap[b]? = some o := (hb.block _ (Array.getElem?_eq_some_iff.1 h).1).trans h
theorem set_cells {W : World} {b n B : Nat} (h : W.heap[b]? = some (setO n B)) : W.cell? ⟨b, 0, none⟩ = some (.int .i64 (n : Int)) ∧ W.cell? ⟨b, 1, none⟩ = some (.int .u32 (B : Int)) := by
  constructor <;> (rw [cell_of_row _ _ _ _ _ _ h]; rfl)
end Go.Proofs.YtpdcpaoabalgcaaGreatDoor
