/- Contract of Table of tuples (no statement of its own). No condition. -/
import Derived.Test.YtliafkcogmpghaaUm
import Derived.Test.YtliafkcogmpghaaTxa
namespace Go.Proofs.Ytliafkcogmpghaa
open Go.RowKit Go.Maps
set_option linter.unusedVariables false
abbrev HoldTb (w0 : World) (g nl c : Nat) (A : Option Addr) (k o : Int) (W : World) : Prop :=
  W.cell? ⟨g, 0, none⟩ = some (.slice A nl c) ∧ W.cell? ⟨g, 1, none⟩ = some (.int .i64 k) ∧ W.cell? ⟨g, 2, none⟩ = some (.int .i64 o) ∧ Below w0.heap.size w0 W
theorem HoldTb.below {w0 W : World} {g nl c : Nat} {A : Option Addr} {k o : Int} (H : HoldTb w0 g nl c A k o W) : Below w0.heap.size w0 W := H.2.2.2
abbrev HoldsTb (w0 : World) (g nl c : Nat) (A : Option Addr) (k o : Int) : Prop := ∀ W, Below w0.heap.size w0 W → HoldTb w0 g nl c A k o W
theorem HoldTb.next {w0 W W' : World} {g nl c : Nat} {A : Option Addr} {k o : Int} (HF : Hid (HoldsTb w0 g nl c A k o)) (H : HoldTb w0 g nl c A k o W) (hb : Below W.heap.size W W') : HoldTb w0 g nl c A k o W' :=
  HF.out _ (H.below.trans (hb.mono H.below.size))
theorem TpAt.holds {w : World} {g b : Nat} {A : Option Addr} {c N : Nat} {l : List Nat} {k o : Int} {f : List Nat → Int} (H : TpAt w g b A c N l k o f) : Hid (HoldsTb w g l.length c A k o) := Lib.hid fun W hb => by
  obtain ⟨a0, a1, a2, a3⟩ := (H.below hb).cells
  exact ⟨a0, a1, a2, hb⟩
theorem walks_grown {W W' : World} {h : Nat} {cur : Array Value} {e : TypeId} {fz : Nat × Nat} (hc : W.heap[h]? = some (.cells cur e fz)) (hg : W.grownBy W' (some h)) : KeepsWalks W W' :=
  ⟨hg.size, fun k o hk ho => (hg.block k (Array.getElem?_eq_some_iff.1 hk).1 (fun e => by
    injection e with e
    subst e
    rw [hc] at hk
    cases hk
    cases ho)).trans hk⟩
theorem tptable_nil (w : World) : Calls Try.prog 22 #[.pointer none] w fun e w' => e = .returned (.tuple #[.pointer none, .int .i64 2]) ∧ w = w' := by
  go_enter Try.func22, Try.ntmps22
  go_wp2_with fail
  go_ret2
  exact ⟨rfl, rfl⟩
set_option maxRecDepth 100000 in
set_option maxHeartbeats 1000000 in
theorem tptable_fell (g b N c : Nat) (A : Option Addr) (l : List Nat) (k o E : Int) (f : List Nat → Int) (w : World) (H : TpAt w g b A c N l k o f) (hE : decide (E = 0) = false)
    (hN : ∀ W, Below w.heap.size w W → Calls Try.prog 40 #[.slice A l.length c, .int .i64 k, .int .i64 o] W fun e w' => e = .returned (.tuple #[.pointer none, .int .i64 E]) ∧ Below W.heap.size W w') :
    Calls Try.prog 22 #[.pointer (some ⟨g, 0, none⟩)] w fun e w' => e = .returned (.tuple #[.pointer none, .int .i64 E]) ∧ Below w.heap.size w w' := by
  have HF := H.holds
  have HN := Lib.hid hN
  have d : (E != 0) = true := by simpa using hE
  clear H hN
  go_enter Try.func22, Try.ntmps22
  go_upto_region 3 with fail
  go_region_held3 (fun W => HoldTb w g l.length c A k o W) (first | exact HF.out _ ((Below.refl _ _).drew) | assumption | exact HoldTb.next HF (by assumption) (by assumption))
    ((go_at_call 40; refine (HN.out _ (HoldTb.below (by assumption))).mono ?_; rintro e w1 ⟨rfl, b1⟩))
  all_goals
    go_wp2_with fail
    go_ret2
    exact ⟨rfl, HoldTb.below (by assumption)⟩
end Go.Proofs.Ytliafkcogmpghaa
