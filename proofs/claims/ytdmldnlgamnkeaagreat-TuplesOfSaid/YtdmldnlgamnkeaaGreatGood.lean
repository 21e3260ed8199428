/- A range over a function whose values lie in memory that the function makes anew for each round: what a round may know of them, 'Good', holds where the round begins (no statement of its own). A loop body that never leaves the loop; no fence. -/
import Derived.Test.YtdmldnlgamnkeaaGreatRnd
import Derived.RangeFuncNested
namespace Go.Proofs.YtdmldnlgamnkeaaGreat
open Go.RowKit
set_option linter.unusedVariables false
/-- The block that the iterator reads is as it was. -/
def Keep1 (b : Nat) (W W' : World) : Prop := W.heap.size ≤ W'.heap.size ∧ W'.heap[b]? = W.heap[b]?
theorem Keep1.refl (b : Nat) (W : World) : Keep1 b W W := ⟨Nat.le_refl _, rfl⟩
theorem Keep1.trans {b : Nat} {X Y Z : World} (h : Keep1 b X Y) (k : Keep1 b Y Z) : Keep1 b X Z := ⟨Nat.le_trans h.1 k.1, k.2.trans h.2⟩
theorem Keep1.put {b l : Nat} {W : World} {o : Obj} (hb : b ≠ l) : Keep1 b W (W.putObj l o) := ⟨by simp [World.putObj], World.putObj_heap_other hb⟩
theorem Keep1.of_below {b B : Nat} {X Y : World} (h : Below B X Y) (hb : b < B) : Keep1 b X Y := ⟨h.size, h.block b hb⟩
/-- What the iterator keeps to: every value that it yields is good where it yields it. -/
def GoodSeq {α : Type} (n : Nat) (P : Program) (gf : Nat) (lb : Array Value) (encs : α → Array Value) (b : Nat) (Good : Nat → List α → α → World → Prop) (S : List α → Prop) (w0 : World) : Prop :=
  ∀ (y : Nat) (J : List α → World → Prop) (W : World), Below w0.heap.size w0 W → AbidesFrom W.heap.size J →
    (∀ pre x Wp W1, J pre Wp → Below Wp.heap.size Wp W1 → Good Wp.heap.size pre x W1 → YieldAt Fence.wide (n - 1) P y (encs x) W1 fun e W' => e = .returned (.bool true) ∧ J (pre ++ [x]) W' ∧ Keep1 b W1 W') →
    J [] W → CallsIn Fence.wide n P gf (#[.func (.yield y) #[] #[]] ++ lb) W fun e W' => (∃ v, e = .returned v) ∧ ∃ xs, S xs ∧ J xs W'
/-- A round of such a loop goes on. -/
def goodPost {α : Type} (B b : Nat) (I : List α → World → Prop) (xs : List α) (W : World) : Exit → Act → World → Prop
  | .normal, _, W' => KeepsFrom B W W' ∧ Keep1 b W W' ∧ I xs W'
  | _, _, _ => False
theorem range_good {α : Type} {P : Program} {n : Nat} {g : Operand} {ps : Array Tmp} {assign body : Code} {Q : Exit → Act → World → Prop} {a : Act} {w : World}
    (h1 : 1 ≤ n) {gf : Nat} {lb : Array Value} (hg : a.eval g = .func (.func gf) #[] lb) (eg : ∀ args w, (callFunc gf args).run P w = .ok (.enter gf args) w)
    {encs : α → Array Value} {b : Nat} {Good : Nat → List α → α → World → Prop} {S : List α → Prop} (hseq : GoodSeq (n - 1) P gf lb encs b Good S w) (hb₀ : b < w.heap.size) (hps : ∀ x, (encs x).size = ps.size)
    (hGood : ∀ B pre x, OwnFrom w.heap.size (fun (_ : Unit) W => Good B pre x W)) (I : List α → World → Prop) (hI : OwnFrom w.heap.size I) (h0 : I [] w) (a₁ : α → Act)
    (hassign : ∀ (y : Nat) (x : α) (W : World) (K : Act → World → Prop), K (a₁ x) W →
      assign.wpIn (Fence.wide.inRound y) (n - 1 - 1) P (Exit.then K (fun _ _ _ => False)) { tmps := (ps.zip (encs x)).foldl (fun t (p, v) => t.setIfInBounds p v) a.tmps, defers := [] } W)
    (hbody : ∀ (y : Nat) (pre : List α) (x : α) (Wp W : World), w.heap.size ≤ y → (∃ r, W.heap[y]? = some (.loop r)) → I pre Wp → I pre W → (∀ k, k < w.heap.size → W.heap[k]? = Wp.heap[k]?) → Good Wp.heap.size pre x W → body.wpIn (Fence.wide.inRound y) (n - 1 - 1) P (goodPost w.heap.size b I (pre ++ [x]) W) (a₁ x) W)
    (hdone : ∀ (D : Nat) (xs : List α) (W : World), w.heap.size ≤ D → S xs → I xs W → W.heap[D]? = some (.deferred (some [])) → Q .normal { a with defers := { target := .collected D, args := #[] } :: a.defers } W) :
    (Code.rangeFunc g ps assign body).wpIn Fence.wide n P Q a w := by
  refine wpIn_rangeFunc fun fn hfn => ?_
  let rec0 : LoopState → Loop := fun st => { state := st, pending := none, fn := fn, tmps := a.tmps, params := ps, assign := assign, body := body, defers := w.heap.size }
  let W1 := (w.alloc (.deferred (some []))).alloc (.loop (rec0 .ready))
  have e1 : w.heap.size + 1 = (w.alloc (.deferred (some []))).heap.size := by simp
  have hL : W1.heap[w.heap.size + 1]? = some (.loop (rec0 .ready)) := by rw [e1]; exact World.alloc_heap_new _ _
  have hD : W1.heap[w.heap.size]? = some (.deferred (some [])) := (Below.heap_alloc _ _ _ (by simp)).trans (World.alloc_heap_new w _)
  have hB : Below w.heap.size w W1 := ((Below.refl _ w).alloc (Nat.le_refl _) _).alloc (by simp) _
  have hsz : W1.heap.size = w.heap.size + 2 := by simp [W1]
  refine ⟨w.heap.size + 1, [{ target := .collected w.heap.size, args := #[] }], W1, { target := .fn (.func gf) lb, args := #[.func (.yield (w.heap.size + 1)) #[] #[]] }, W1, gf,
    #[.func (.yield (w.heap.size + 1)) #[] #[]] ++ lb, W1, run_enterLoop_outer _ _ _ _ _, ?_, fun _ _ => trivial, ?_, fun _ => h1, ?_⟩
  · simp only [resolve, hg]
    simp [go_sem]
  · simp [invoke, go_sem, eg]
  · have hab : AbidesFrom W1.heap.size (fun pre W => I pre W ∧ W.heap[w.heap.size + 1]? = some (.loop (rec0 .ready)) ∧ W.heap[w.heap.size]? = some (.deferred (some []))) := by
      intro s A B row hs hgr hr
      have keep : ∀ (k : Nat) (o : Obj), k < W1.heap.size → A.heap[k]? = some o → B.heap[k]? = some o := fun k o hk ho =>
        (hgr.block k (Array.getElem?_eq_some_iff.1 ho).1 (fun e => by have := (hr k e.symm).1; omega)).trans ho
      exact ⟨hI s A B row hs.1 hgr (fun r e => ⟨by have := (hr r e).1; omega, by obtain ⟨_, o, ho, hw⟩ := hr r e; exact ⟨o, ho, Obj.not_cells_of_walk hw⟩⟩), keep _ _ (by omega) hs.2.1, keep _ _ (by omega) hs.2.2⟩
    refine (hseq (w.heap.size + 1) _ W1 hB hab ?_ ⟨hI.alloc _ (hI.alloc _ h0), hL, hD⟩).mono ?_
    · rintro pre x Wp W ⟨hip, hlp, hdp⟩ hbp hgood
      have hltp : w.heap.size + 1 < Wp.heap.size := (Array.getElem?_eq_some_iff.1 hlp).1
      have hi : I pre W := hI _ _ _ none hip ⟨hbp.os, hbp.tape, hbp.output, hbp.size, fun k hk _ => hbp.block k hk⟩ (fun r e => by cases e)
      have hl := (hbp.block _ hltp).trans hlp
      have hd := (hbp.block w.heap.size (by omega)).trans hdp
      have hy := run_yield (P := P) (args := encs x) hl (hps x)
      refine ⟨fn, _, assign, body, hy, roundIn_of_wpIn hfn (hassign _ x W _ ⟨_, run_beginRound hl rfl, ?_⟩)⟩
      have hlt : w.heap.size + 1 < W.heap.size := (Array.getElem?_eq_some_iff.1 hl).1
      have hl2 : (W.putObj (w.heap.size + 1) (.loop (rec0 .busy))).heap[w.heap.size + 1]? = some (.loop (rec0 .busy)) := World.putObj_heap_same hlt
      have hd2 : (W.putObj (w.heap.size + 1) (.loop (rec0 .busy))).heap[w.heap.size]? = some (.deferred (some [])) := (World.putObj_heap_other (by omega)).trans hd
      have hb2 : Keep1 b W (W.putObj (w.heap.size + 1) (.loop (rec0 .busy))) := Keep1.put (by omega)
      refine wpIn_mono (hbody _ pre x Wp _ (by omega) ⟨_, hl2⟩ hip (hI.putObj _ hi (by omega) hl rfl) (fun k hk => (World.putObj_heap_other (by omega)).trans (hbp.block k (by omega))) ((hGood _ pre x).putObj (s := ()) _ hgood (by omega) hl rfl)) ?_
      rintro e a3 W3 hp
      cases e with
      | normal =>
        obtain ⟨hk, hb, hi3⟩ := hp
        have hl3 := hk.same _ _ (by omega) hl2 rfl
        have hd3 := hk.same _ _ (Nat.le_refl _) hd2 rfl
        have hlt3 : w.heap.size + 1 < W3.heap.size := (Array.getElem?_eq_some_iff.1 hl3).1
        exact ⟨_, _, run_endRound (P := P) none hl3, rfl, ⟨hI.putObj _ hi3 (by omega) hl3 rfl, World.putObj_heap_same hlt3, (World.putObj_heap_other (by omega)).trans hd3⟩, hb2.trans (hb.trans (Keep1.put (by omega)))⟩
      | ret => exact hp.elim
      | exit id => exact hp.elim
      | goto t => exact hp.elim
      | panic c => exact hp.elim
      | outgrown => exact hp.elim
    · rintro e W2 ⟨⟨v, rfl⟩, xs, hS, hi, hl, hd⟩
      refine ⟨none, _, run_endLoop (P := P) hl (by simp [rec0]), hdone _ xs _ (Nat.le_refl _) hS (hI.putObj _ hi (by omega) hl rfl) ((World.putObj_heap_other (by omega)).trans hd)⟩
end Go.Proofs.YtdmldnlgamnkeaaGreat
