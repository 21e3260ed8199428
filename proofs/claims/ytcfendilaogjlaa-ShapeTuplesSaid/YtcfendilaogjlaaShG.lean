/- Contract of slices.Backward over a shape's sizes (no statement of its own). Conditions: at most six sizes. -/
import Derived.Test.YtcfendilaogjlaaShF
import Derived.RangeFuncBox
import Derived.RangeFuncLeaves
import Derived.RangeFuncCalls
import Derived.Shelf.Abstract
import Derived.OwnWalkIn
import Derived.TacticsInMore
import Derived.LoopNIn
import Derived.LoopIn
import Derived.RangeFuncWrites
namespace Go.Proofs.Ytcfendilaogjlaa
open Go.RowKit Go.Shelf
set_option linter.unusedVariables false
attribute [local go_sem] Oper.semAt_some
/-- A place of a list. -/
abbrev Place (l : List Nat) := { p : Nat // p < l.length }
/-- The last m places of a list, from the last one back. -/
def lastPlaces (l : List Nat) : (m : Nat) → m ≤ l.length → List (Place l)
  | 0, _ => []
  | m + 1, h => lastPlaces l m (by omega) ++ [⟨l.length - 1 - m, by omega⟩]
theorem lastPlaces_len (l : List Nat) (m : Nat) (h : m ≤ l.length) : (lastPlaces l m h).length = m := by
  induction m with
  | zero => rfl
  | succ m ih => simp [lastPlaces, ih]
theorem grown_of_below {W W' : World} (h : Below W.heap.size W W') : W.grownBy W' none := ⟨h.os, h.tape, h.output, h.size, fun k hk _ => h.block k hk⟩
/-- Both blocks, of the slice and of what it reads, are as they were. -/
def Same2 (b g : Nat) (W W' : World) : Prop := W.heap.size ≤ W'.heap.size ∧ W'.heap[b]? = W.heap[b]? ∧ W'.heap[g]? = W.heap[g]?
theorem Same2.refl (b g : Nat) (W : World) : Same2 b g W W := ⟨Nat.le_refl _, rfl, rfl⟩
theorem Same2.trans {b g : Nat} {X Y Z : World} (h : Same2 b g X Y) (k : Same2 b g Y Z) : Same2 b g X Z := ⟨Nat.le_trans h.1 k.1, k.2.1.trans h.2.1, k.2.2.trans h.2.2⟩
theorem Same2.cell {b g : Nat} {X Y : World} (h : Same2 b g X Y) (i : Nat) : Y.cell? ⟨b, i, none⟩ = X.cell? ⟨b, i, none⟩ ∧ Y.cell? ⟨g, i, none⟩ = X.cell? ⟨g, i, none⟩ :=
  ⟨World.cell?_of_block (a := ⟨b, i, none⟩) h.2.1, World.cell?_of_block (a := ⟨g, i, none⟩) h.2.2⟩
set_option maxRecDepth 100000 in
set_option maxHeartbeats 2000000 in
theorem back_in (n : Nat) (hn : 1 ≤ n) (y Bs g o c : Nat) (l : List Nat) (h6 : l.length ≤ 6) (J Jx : List (Place l) → World → Prop) (W : World) (Kp : World → World → Prop)
    (hKp : ∀ A B, Kp A B → Same2 Bs g A B)
    (hY : ∀ pre x W1, J pre W1 → pre.length < l.length → YieldAt Fence.wide (n - 1) Try.prog y #[.int .i64 ((x.val : Nat) : Int), .int .i64 (nth l x.val : Int)] W1 fun e W' =>
      (e = .returned (.bool true) ∧ J (pre ++ [x]) W' ∧ Kp W1 W') ∨ (e = .returned (.bool false) ∧ Jx (pre ++ [x]) W'))
    (hs : W.cell? ⟨Bs, 0, none⟩ = some (.slice (some ⟨g, o, none⟩) l.length c)) (hc : ∀ i, i < l.length → W.cell? ⟨g, o + i, none⟩ = some (.int .i64 (nth l i : Int))) (h0 : J [] W) :
    CallsIn Fence.wide n Try.prog 24 #[.func (.yield y) #[] #[], .pointer (some ⟨Bs, 0, none⟩)] W fun e W' => (∃ v, e = .returned v) ∧
      ((∃ ys, ys = lastPlaces l l.length (Nat.le_refl _) ∧ J ys W') ∨ (∃ pre, True ∧ Jx pre W')) := by
  have HY := Lib.hid hY
  have HC := Lib.hid hc
  have HK := Lib.hid hKp
  have HS := Lib.hid hs
  clear hY hc hKp
  have hl6 : (l.length : Int) ≤ 6 := by omega
  have hw : IntKind.i64.wrap ((l.length : Int) - 1) = (l.length : Int) - 1 := IntWalk.i64_in _ (by omega)
  refine callsIn_of_wp Try.func24 rfl trivial ?_ rfl
  simp only [Try.ntmps24, List.size_toArray, List.length_cons, List.length_nil, Nat.reduceAdd, Nat.reduceSub, Array.replicate_succ, Array.replicate_zero, List.push_toArray, List.append_toArray, List.nil_append, List.cons_append]
  gi_wp2
  clear hs hw
  gi_loopw [3] (fun i wr => ∃ (m : Nat) (hm : m ≤ l.length), i = .int .i64 ((l.length : Int) - 1 - (m : Int)) ∧ J (lastPlaces l m hm) wr ∧ Same2 Bs g W wr)
    (fun i _ => ((intOf i) + 1).toNat)
  case atStart => exact ⟨0, Nat.zero_le _, by simp, h0, Same2.refl _ _ _⟩
  case round =>
    obtain ⟨m, hm, rfl, hJ, hsame⟩ := hrel
    have HJ := Lib.hid hJ
    have HSm := Lib.hid hsame
    clear hJ hsame h0
    by_cases hlt : m < l.length
    · have hp : l.length - 1 - m < l.length := by omega
      obtain ⟨p, hpe⟩ : ∃ p, l.length - 1 - m = p := ⟨_, rfl⟩
      have e1 : (l.length : Int) - 1 - (m : Int) = (p : Int) := by omega
      have hcs : wr.cell? ⟨Bs, 0, none⟩ = some (.slice (some ⟨g, o, none⟩) l.length c) := (HSm.out.cell 0).1.trans HS.out
      have hcell : wr.cell? ⟨g, o + p, none⟩ = some (.int .i64 (nth l p : Int)) := (HSm.out.cell (o + p)).2.trans (HC.out p (by omega))
      have hpl : p < l.length := by omega
      obtain ⟨fn, tmps, assign, body, hy, hR⟩ := HY.out _ ⟨p, hpl⟩ wr HJ.out (by rw [lastPlaces_len]; exact hlt)
      have HE : Hid (lastPlaces l (m + 1) hlt = lastPlaces l m hm ++ [⟨p, hpl⟩]) := Lib.hid (by subst hpe; rfl)
      have HP := Lib.hid hpe
      rw [e1]
      clear hp e1 hpe
      dsimp only at hy
      gi_wp2
      refine hR.mono ?_
      rintro e W3 (⟨rfl, hJ3, hk3⟩ | ⟨rfl, hJx3⟩)
      · have HJ3 := Lib.hid hJ3
        have HS3 := Lib.hid (HSm.out.trans (HK.out _ _ hk3))
        clear hJ3 hk3 hy hR
        gi_wp2
        go_roundw
        case rel => exact ⟨m + 1, hlt, by have := HP.out; exact congrArg _ (by omega), by rw [HE.out]; exact HJ3.out, HS3.out⟩
        case measure => simp [intOf] <;> omega
      · gi_wp2
        refine bodyPost_ret (results_none rfl _ _ _) rfl ?_
        exact ⟨⟨_, rfl⟩, .inr ⟨_, trivial, hJx3⟩⟩
    · obtain rfl : m = l.length := by omega
      have e1 : (l.length : Int) - 1 - (l.length : Int) = -1 := by omega
      rw [e1]
      clear e1
      gi_wp2
      go_end0
      exact ⟨⟨_, rfl⟩, .inl ⟨_, rfl, HJ.out⟩⟩
theorem back_stops (n : Nat) (hn : 1 ≤ n) (Bs g o c : Nat) (l : List Nat) (h6 : l.length ≤ 6) (w : World) (hBs : Bs < w.heap.size) (hg : g < w.heap.size)
    (hs : w.cell? ⟨Bs, 0, none⟩ = some (.slice (some ⟨g, o, none⟩) l.length c)) (hc : ∀ i, i < l.length → w.cell? ⟨g, o + i, none⟩ = some (.int .i64 (nth l i : Int))) :
    SeqStopsK Fence.wide n Try.prog 24 #[.pointer (some ⟨Bs, 0, none⟩)] (fun x : Place l => #[Value.int .i64 ((x.val : Nat) : Int), .int .i64 (nth l x.val : Int)]) (Same2 Bs g)
      (fun ys => ys = lastPlaces l l.length (Nat.le_refl _)) (fun _ => True) l.length w := fun y J Jx W hW _ _ hY h0 =>
  back_in n hn y Bs g o c l h6 J Jx W (Same2 Bs g) (fun _ _ h => h) hY ((hW.cell (p := ⟨Bs, 0, none⟩) hBs).trans hs) (fun i hi => (hW.cell (p := ⟨g, o + i, none⟩) hg).trans (hc i hi)) h0
end Go.Proofs.Ytcfendilaogjlaa
