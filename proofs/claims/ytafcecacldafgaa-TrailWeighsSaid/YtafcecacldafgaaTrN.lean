/- The contract of slices.Backward over what is kept (no statement of its own). -/
import Derived.Test.YtafcecacldafgaaTrM
import Derived.RangeFuncBox
import Derived.RangeFuncLeaves
import Derived.RangeFuncCalls
import Derived.Shelf.Abstract
import Derived.OwnWalkIn
import Derived.TacticsInMore
import Derived.LoopNIn
import Derived.LoopIn
import Derived.RangeFuncWrites
namespace Go.Proofs.Ytafcecacldafgaa
open Go.RowKit Go.Shelf
set_option linter.unusedVariables false
attribute [local go_sem] Oper.semAt_some
/-- A place of a list. -/
abbrev Place (l : List Tri) := { p : Nat // p < l.length }
/-- The last m places of a list, from the last one back. -/
def lastPlaces (l : List Tri) : (m : Nat) → m ≤ l.length → List (Place l)
  | 0, _ => []
  | m + 1, h => lastPlaces l m (by omega) ++ [⟨l.length - 1 - m, by omega⟩]
theorem lastPlaces_len (l : List Tri) (m : Nat) (h : m ≤ l.length) : (lastPlaces l m h).length = m := by
  induction m with
  | zero => rfl
  | succ m ih => simp [lastPlaces, ih]
/-- Both blocks, of the slice and of what it reads, are as they were. -/
def Same2 (b : Nat) (g : Option Nat) (W W' : World) : Prop := W.heap.size ≤ W'.heap.size ∧ W'.heap[b]? = W.heap[b]? ∧ ∀ k, g = some k → W'.heap[k]? = W.heap[k]?
theorem Same2.refl (b : Nat) (g : Option Nat) (W : World) : Same2 b g W W := ⟨Nat.le_refl _, rfl, fun _ _ => rfl⟩
theorem Same2.trans {b : Nat} {g : Option Nat} {X Y Z : World} (h : Same2 b g X Y) (k : Same2 b g Y Z) : Same2 b g X Z := ⟨Nat.le_trans h.1 k.1, k.2.1.trans h.2.1, fun j hj => (k.2.2 j hj).trans (h.2.2 j hj)⟩
def kV (y : Tri) : Value := .agg #[.int .i64 y.1, .int .i64 y.2.1, .int .i64 y.2.2]
/-- What such a slice reads. -/
def Trs (W : World) (A : Option Addr) (l : List Tri) : Prop := ∀ i, i < l.length → ∃ g o, A = some ⟨g, o, none⟩ ∧ W.cell? ⟨g, o + i * 3, none⟩ = some (.int .i64 (nth3 l i).1) ∧ W.cell? ⟨g, o + i * 3 + 1, none⟩ = some (.int .i64 (nth3 l i).2.1) ∧ W.cell? ⟨g, o + i * 3 + 2, none⟩ = some (.int .i64 (nth3 l i).2.2)
theorem Trs.same {W W' : World} {A : Option Addr} {l : List Tri} {b : Nat} (h : Trs W A l) (hs : Same2 b (A.map (·.block)) W W') : Trs W' A l := by
  intro i hi
  obtain ⟨g, o, rfl, h0, h1, h2⟩ := h i hi
  have e : ∀ k, W'.cell? ⟨g, k, none⟩ = W.cell? ⟨g, k, none⟩ := fun k => World.cell?_of_block (a := ⟨g, k, none⟩) (hs.2.2 g rfl)
  exact ⟨g, o, rfl, by rw [e]; exact h0, by rw [e]; exact h1, by rw [e]; exact h2⟩
set_option maxRecDepth 100000 in
set_option maxHeartbeats 2000000 in
theorem back_in (n : Nat) (hn : 1 ≤ n) (y Bs c : Nat) (A : Option Addr) (l : List Tri) (h6 : l.length ≤ 1000000) (J Jx : List (Place l) → World → Prop) (W : World) (Kq : World → World → Prop)
    (hKp : ∀ X Y, Kq X Y → Same2 Bs (A.map (·.block)) X Y)
    (hY : ∀ pre x W1, J pre W1 → pre.length < l.length → YieldAt Fence.wide (n - 1) Try.prog y #[.int .i64 ((x.val : Nat) : Int), kV (nth3 l x.val)] W1 fun e W' =>
      (e = .returned (.bool true) ∧ J (pre ++ [x]) W' ∧ Kq W1 W') ∨ (e = .returned (.bool false) ∧ Jx (pre ++ [x]) W'))
    (hs : W.cell? ⟨Bs, 0, none⟩ = some (.slice A l.length c)) (hc : Trs W A l) (h0 : J [] W) :
    CallsIn Fence.wide n Try.prog 35 #[.func (.yield y) #[] #[], .pointer (some ⟨Bs, 0, none⟩)] W fun e W' => (∃ v, e = .returned v) ∧
      ((∃ ys, ys = lastPlaces l l.length (Nat.le_refl _) ∧ J ys W') ∨ (∃ pre, True ∧ Jx pre W')) := by
  have HY := Lib.hid hY
  have HC := Lib.hid hc
  have HK := Lib.hid hKp
  have HS := Lib.hid hs
  clear hY hc hKp
  have hl6 : (l.length : Int) ≤ 1000000 := by omega
  have hw : IntKind.i64.wrap ((l.length : Int) - 1) = (l.length : Int) - 1 := IntWalk.i64_in _ (by omega)
  refine callsIn_of_wp Try.func35 rfl trivial ?_ rfl
  simp only [Try.ntmps35, List.size_toArray, List.length_cons, List.length_nil, Nat.reduceAdd, Nat.reduceSub, Array.replicate_succ, Array.replicate_zero, List.push_toArray, List.append_toArray, List.nil_append, List.cons_append]
  gi_wp2
  clear hs hw
  gi_loopw [3] (fun i wr => ∃ (m : Nat) (hm : m ≤ l.length), i = .int .i64 ((l.length : Int) - 1 - (m : Int)) ∧ J (lastPlaces l m hm) wr ∧ Same2 Bs (A.map (·.block)) W wr)
    (fun i _ => ((intOf i) + 1).toNat)
  case atStart => exact ⟨0, Nat.zero_le _, by simp, h0, Same2.refl _ _ _⟩
  case round =>
    obtain ⟨m, hm, rfl, hJ, hsame⟩ := hrel
    have HJ := Lib.hid hJ
    have HSm := Lib.hid hsame
    clear hJ hsame h0
    by_cases hlt : m < l.length
    · have hp : l.length - 1 - m < l.length := by omega
      obtain ⟨p, hpe⟩ : ∃ p, l.length - 1 - m = p := ⟨_, rfl⟩
      have e1 : (l.length : Int) - 1 - (m : Int) = (p : Int) := by omega
      have hcs : wr.cell? ⟨Bs, 0, none⟩ = some (.slice A l.length c) := (World.cell?_of_block (a := ⟨Bs, 0, none⟩) HSm.out.2.1).trans HS.out
      have hpl : p < l.length := by omega
      obtain ⟨g, o, rfl, d0, d1, d2⟩ := (HC.out.same HSm.out) p hpl
      obtain ⟨fn, tmps, assign, body, hy, hR⟩ := HY.out _ ⟨p, hpl⟩ wr HJ.out (by rw [lastPlaces_len]; exact hlt)
      have HE : Hid (lastPlaces l (m + 1) hlt = lastPlaces l m hm ++ [⟨p, hpl⟩]) := Lib.hid (by subst hpe; rfl)
      have HP := Lib.hid hpe
      rw [e1]
      clear hp e1 hpe
      dsimp only at hy
      unfold kV at hy
      gi_wp2
      refine hR.mono ?_
      rintro e W3 (⟨rfl, hJ3, hk3⟩ | ⟨rfl, hJx3⟩)
      · have HJ3 := Lib.hid hJ3
        have HS3 := Lib.hid (HSm.out.trans (HK.out _ _ hk3))
        clear hJ3 hk3 hy hR
        gi_wp2
        go_roundw
        case rel => exact ⟨m + 1, hlt, by have := HP.out; exact congrArg _ (by omega), by rw [HE.out]; exact HJ3.out, HS3.out⟩
        case measure => simp [intOf] <;> omega
      · gi_wp2
        refine bodyPost_ret (results_none rfl _ _ _) rfl ?_
        exact ⟨⟨_, rfl⟩, .inr ⟨_, trivial, hJx3⟩⟩
    · obtain rfl : m = l.length := by omega
      have e1 : (l.length : Int) - 1 - (l.length : Int) = -1 := by omega
      rw [e1]
      clear e1
      gi_wp2
      go_end0
      exact ⟨⟨_, rfl⟩, .inl ⟨_, rfl, HJ.out⟩⟩
theorem back_stops (n : Nat) (hn : 1 ≤ n) (Bs c : Nat) (A : Option Addr) (l : List Tri) (h6 : l.length ≤ 1000000) (w : World) (hBs : Bs < w.heap.size) (hg : ∀ ad, A = some ad → ad.block < w.heap.size)
    (hs : w.cell? ⟨Bs, 0, none⟩ = some (.slice A l.length c)) (hc : Trs w A l) :
    SeqStopsK Fence.wide n Try.prog 35 #[.pointer (some ⟨Bs, 0, none⟩)] (fun x : Place l => #[Value.int .i64 ((x.val : Nat) : Int), kV (nth3 l x.val)]) (Same2 Bs (A.map (·.block)))
      (fun ys => ys = lastPlaces l l.length (Nat.le_refl _)) (fun _ => True) l.length w := fun y J Jx W hW _ _ hY h0 =>
  back_in n hn y Bs c A l h6 J Jx W (Same2 Bs (A.map (·.block))) (fun _ _ h => h) hY ((hW.cell (p := ⟨Bs, 0, none⟩) hBs).trans hs) (hc.same (b := Bs) ⟨hW.size, hW.block _ hBs, fun k hk => by
    cases A with
    | none => cases hk
    | some ad => injection hk with hk; subst hk; exact hW.block _ (hg ad rfl)⟩) h0
theorem back_call (A : Option Addr) (n c : Nat) (w : World) :
    Calls Try.prog 33 #[.slice A n c] w fun e w' => e = .returned (.func (.func 35) #[] #[.pointer (some ⟨w.heap.size, 0, none⟩)]) ∧ w' = w.alloc (.cells #[.slice A n c] 57) := by
  go_enter Try.func33, Try.ntmps33
  go_wp2
  go_ret
  exact ⟨rfl, rfl⟩
end Go.Proofs.Ytafcecacldafgaa
