/- Contract of the law's awake (no statement of its own). -/
import Derived.Test.YtcfendilaogjlaaShJ
import Derived.Deep.WholeRow
namespace Go.Proofs.Ytcfendilaogjlaa
open Go.RowKit
set_option linter.unusedVariables false
theorem then_ {w W W' : World} (h : Below w.heap.size w W) (k : Below W.heap.size W W') : Below w.heap.size w W' := h.trans (k.mono h.size)
theorem new_val (w : World) (o : Obj) : Below w.heap.size w (w.alloc o) := (Below.refl _ _).alloc (Nat.le_refl _) _
theorem new_mid' (A : Option Addr) (n c : Nat) (l : List Nat) (w : World) (hn : n = l.length) (h : l.length ≤ 6) (hr : Ints w A l) (hl : ∀ n ∈ l, 1 ≤ n ∧ n ≤ 32) (hp : prodL l ≤ 4096) :
    Calls Try.prog 6 #[.slice A n c] w fun e w' => e = .returned (.tuple #[shV l, .int .i64 0]) ∧ Below w.heap.size w w' := by
  subst hn
  exact new_mid A c l w h hr hl hp
theorem index_ok' (A : Option Addr) (n c N : Nat) (l t : List Nat) (w : World) (hn : n = t.length) (h6 : l.length ≤ 6) (h32 : ∀ n ∈ l, n ≤ 32) (hr : Ints w A t) (hin : InL l t) (hN : numL l t = N) :
    Calls Try.prog 14 #[shV l, .slice A n c] w fun e w' => e = .returned (.tuple #[.int .i64 (N : Int), .int .i64 0]) ∧ Below w.heap.size w w' := by
  subst hn hN
  exact index_ok A c l t w h6 h32 hr hin
theorem step_ok' (l : List Nat) (i : Int) (p N : Nat) (w : World) (hi : i = p) (h6 : l.length ≤ 6) (h32 : ∀ n ∈ l, n ≤ 32) (hp : p < l.length) (hN : prodL (l.drop (p + 1)) = N) :
    Calls Try.prog 15 #[shV l, .int .i64 i] w fun e w' => e = .returned (.int .i64 (N : Int)) ∧ Below w.heap.size w w' := by
  subst hi hN
  exact step_yes l p w h6 h32 hp
set_option maxHeartbeats 1000000 in
theorem awake_true (w : World) : Calls Try.prog 4 #[] w fun e w' => e = .returned (.bool true) ∧ Below w.heap.size w w' := by
  have hl : ∀ n ∈ [2, 3], 1 ≤ n ∧ n ≤ 32 := by intro n hn; simp at hn; omega
  have HL := Lib.hid hl
  have N := Lib.hid (fun W A c hr => new_mid' A 2 c [2, 3] W rfl (by decide) hr hl (by decide))
  have X := Lib.hid (fun W A c hr => index_ok' A 2 c 5 [2, 3] [1, 2] W rfl (by decide) (fun n hn => (hl n hn).2) hr ⟨by decide, by decide, trivial⟩ rfl)
  have K := Lib.hid (fun W => count_below [2, 3] W (by decide) (fun n hn => (hl n hn).2) 6 rfl)
  have S := Lib.hid (fun W => step_ok' [2, 3] 0 0 3 W rfl (by decide) (fun n hn => (hl n hn).2) (by decide) rfl)
  clear hl
  have B0 := Lib.hid (new_val w (.cells #[.int .i64 2, .int .i64 3] 3))
  go_enter Try.func4, Try.ntmps4
  go_wp2_with fail
  refine (N.out _ _ _ (lit_two w 2 3)).mono ?_
  rintro e w1 ⟨rfl, b1⟩
  have B1 := Lib.hid (then_ B0.out b1)
  clear b1
  generalize [2, 3] = l at *
  go_upto_region 2 with ((with_reducible show wpList _ _ _ (Oper.mk none (.store 28 _ _) _ _ _ _ :: _) _ _)
                         refine wpList_store_row rfl 28 (.tmp 1) (.tmp 8) rfl w1.heap.size (shC l) rfl rfl 28 (shC0 0) (heap_alloc_new _ _) (by kernel_rfl) rfl (sh_one l) ?_
                         rw [World.setRow_alloc_new])
  have HS := Lib.hid (ShAt.new w1 l)
  have B2 := Lib.hid (then_ B1.out (new_val w1 (shO l)))
  generalize w1.alloc (.cells (shC l) 28) = w2 at HS B2 ⊢
  obtain ⟨c0, c1, c2, c3, c4, c5, c6, hlt, hfz⟩ := HS.out
  have b3 := new_val w2 (.cells #[.int .i64 1, .int .i64 2] 3)
  go_wp2_with fail
  refine (X.out _ _ _ (lit_two w2 1 2)).mono ?_
  rintro e w3 ⟨rfl, b4⟩
  have b5 := then_ b3 b4
  have HS3 := Lib.hid (HS.out.next b5)
  have B3 := Lib.hid (then_ B2.out b5)
  clear b3 b4 b5 c0 c1 c2 c3 c4 c5 c6 hlt hfz
  obtain ⟨c0, c1, c2, c3, c4, c5, c6, hlt, hfz⟩ := HS3.out
  go_wp2_with fail
  refine (K.out _).mono ?_
  rintro e w4 ⟨rfl, b4⟩
  have HS4 := Lib.hid (HS3.out.next b4)
  have B4 := Lib.hid (then_ B3.out b4)
  clear b4 c0 c1 c2 c3 c4 c5 c6 hlt hfz
  obtain ⟨c0, c1, c2, c3, c4, c5, c6, hlt, hfz⟩ := HS4.out
  go_wp2_with fail
  refine (S.out _).mono ?_
  rintro e w5 ⟨rfl, b5⟩
  go_wp2
  go_ret
  exact ⟨rfl, then_ B4.out b5⟩
end Go.Proofs.Ytcfendilaogjlaa
