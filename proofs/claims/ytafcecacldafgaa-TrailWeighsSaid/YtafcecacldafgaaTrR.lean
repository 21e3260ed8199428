/- A range over a function whose loop variable lies in memory made anew in each round: what is known between the variable's making and the body is 'Mid' (no statement of its own). A loop body that never leaves the loop; no fence. -/
import Derived.Test.YtafcecacldafgaaTrN
import Derived.RangeFuncNested
namespace Go.Proofs.Ytafcecacldafgaa
open Go.RowKit
set_option linter.unusedVariables false
def SeqB {α : Type} (n : Nat) (P : Program) (gf : Nat) (lb : Array Value) (encs : α → Array Value) (Kq : World → World → Prop) (S : List α → Prop) (w0 : World) : Prop :=
  ∀ (y : Nat) (J : List α → World → Prop) (W : World), Below w0.heap.size w0 W →
    (∀ pre x W1, J pre W1 → YieldAt Fence.wide (n - 1) P y (encs x) W1 fun e W' => e = .returned (.bool true) ∧ J (pre ++ [x]) W' ∧ Kq W1 W') →
    J [] W → CallsIn Fence.wide n P gf (#[.func (.yield y) #[] #[]] ++ lb) W fun e W' => (∃ v, e = .returned v) ∧ ∃ xs, S xs ∧ J xs W'
def midPost {α : Type} (B : Nat) (Kq : World → World → Prop) (I : List α → World → Prop) (xs : List α) (W : World) : Exit → Act → World → Prop
  | .normal, _, W' => KeepsFrom B W W' ∧ Kq W W' ∧ I xs W'
  | _, _, _ => False
def midA {α : Type} (B : Nat) (Kq : World → World → Prop) (Mid : Act → World → Prop) (W : World) : Exit → Act → World → Prop
  | .normal, a1, W1 => Mid a1 W1 ∧ KeepsFrom B W W1 ∧ Kq W W1
  | _, _, _ => False
theorem range_mid {α : Type} {P : Program} {n : Nat} {g : Operand} {ps : Array Tmp} {assign body : Code} {Q : Exit → Act → World → Prop} {a : Act} {w : World}
    (h1 : 1 ≤ n) {gf : Nat} {lb : Array Value} (hg : a.eval g = .func (.func gf) #[] lb) (eg : ∀ args w, (callFunc gf args).run P w = .ok (.enter gf args) w)
    {encs : α → Array Value} {Kq : World → World → Prop} {S : List α → Prop} (hseq : SeqB (n - 1) P gf lb encs Kq S w)
    (hKt : ∀ {A B C : World}, Kq A B → Kq B C → Kq A C) (hKb : ∀ (W : World) (l : Nat) (o' : Obj), w.heap.size ≤ l → Kq W (W.putObj l o')) (hps : ∀ x, (encs x).size = ps.size)
    (I : List α → World → Prop) (hI : OwnFrom w.heap.size I) (h0 : I [] w) (Mid : List α → α → Act → World → Prop) (hM : ∀ pre x a1, OwnFrom w.heap.size (fun (_ : Unit) W => Mid pre x a1 W))
    (hassign : ∀ (y : Nat) (pre : List α) (x : α) (W : World), I pre W → assign.wpIn (Fence.wide.inRound y) (n - 1 - 1) P (midA (α := α) w.heap.size Kq (Mid pre x) W) { tmps := (ps.zip (encs x)).foldl (fun t (p, v) => t.setIfInBounds p v) a.tmps, defers := [] } W)
    (hbody : ∀ (y : Nat) (pre : List α) (x : α) (a1 : Act) (W : World), Mid pre x a1 W → body.wpIn (Fence.wide.inRound y) (n - 1 - 1) P (midPost w.heap.size Kq I (pre ++ [x]) W) a1 W)
    (hdone : ∀ (D : Nat) (xs : List α) (W : World), w.heap.size ≤ D → S xs → I xs W → W.heap[D]? = some (.deferred (some [])) → Q .normal { a with defers := { target := .collected D, args := #[] } :: a.defers } W) :
    (Code.rangeFunc g ps assign body).wpIn Fence.wide n P Q a w := by
  refine wpIn_rangeFunc fun fn hfn => ?_
  let rec0 : LoopState → Loop := fun st => { state := st, pending := none, fn := fn, tmps := a.tmps, params := ps, assign := assign, body := body, defers := w.heap.size }
  let W1 := (w.alloc (.deferred (some []))).alloc (.loop (rec0 .ready))
  have e1 : w.heap.size + 1 = (w.alloc (.deferred (some []))).heap.size := by simp
  have hL : W1.heap[w.heap.size + 1]? = some (.loop (rec0 .ready)) := by rw [e1]; exact World.alloc_heap_new _ _
  have hD : W1.heap[w.heap.size]? = some (.deferred (some [])) := (Below.heap_alloc _ _ _ (by simp)).trans (World.alloc_heap_new w _)
  have hB : Below w.heap.size w W1 := ((Below.refl _ w).alloc (Nat.le_refl _) _).alloc (by simp) _
  have hsz : W1.heap.size = w.heap.size + 2 := by simp [W1]
  refine ⟨w.heap.size + 1, [{ target := .collected w.heap.size, args := #[] }], W1, { target := .fn (.func gf) lb, args := #[.func (.yield (w.heap.size + 1)) #[] #[]] }, W1, gf,
    #[.func (.yield (w.heap.size + 1)) #[] #[]] ++ lb, W1, run_enterLoop_outer _ _ _ _ _, ?_, fun _ _ => trivial, ?_, fun _ => h1, ?_⟩
  · simp only [resolve, hg]
    simp [go_sem]
  · simp [invoke, go_sem, eg]
  · refine (hseq (w.heap.size + 1) (fun pre W => I pre W ∧ W.heap[w.heap.size + 1]? = some (.loop (rec0 .ready)) ∧ W.heap[w.heap.size]? = some (.deferred (some []))) W1 hB ?_ ⟨hI.alloc _ (hI.alloc _ h0), hL, hD⟩).mono ?_
    · rintro pre x W ⟨hi, hl, hd⟩
      have hy := run_yield (P := P) (args := encs x) hl (hps x)
      refine ⟨fn, _, assign, body, hy, roundIn_of_wpIn hfn (wpIn_mono (hassign (w.heap.size + 1) pre x W hi) ?_)⟩
      rintro e a1 Wm hp
      cases e with
      | normal =>
        obtain ⟨hm, hk0, hq0⟩ := hp
        have hl1 := hk0.same _ _ (by omega) hl rfl
        have hd1 := hk0.same _ _ (Nat.le_refl _) hd rfl
        have hlt : w.heap.size + 1 < Wm.heap.size := (Array.getElem?_eq_some_iff.1 hl1).1
        have hl2 : (Wm.putObj (w.heap.size + 1) (.loop (rec0 .busy))).heap[w.heap.size + 1]? = some (.loop (rec0 .busy)) := World.putObj_heap_same hlt
        have hd2 : (Wm.putObj (w.heap.size + 1) (.loop (rec0 .busy))).heap[w.heap.size]? = some (.deferred (some [])) := (World.putObj_heap_other (by omega)).trans hd1
        refine ⟨_, run_beginRound hl1 rfl, wpIn_mono (hbody (w.heap.size + 1) pre x a1 _ ((hM pre x a1).putObj (s := ()) _ hm (by omega) hl1 rfl)) ?_⟩
        rintro e a3 W3 hp
        cases e with
        | normal =>
          obtain ⟨hk, hq, hi3⟩ := hp
          have hl3 := hk.same _ _ (by omega) hl2 rfl
          have hd3 := hk.same _ _ (Nat.le_refl _) hd2 rfl
          have hlt3 : w.heap.size + 1 < W3.heap.size := (Array.getElem?_eq_some_iff.1 hl3).1
          exact ⟨_, _, run_endRound (P := P) none hl3, rfl, ⟨hI.putObj _ hi3 (by omega) hl3 rfl, World.putObj_heap_same hlt3, (World.putObj_heap_other (by omega)).trans hd3⟩,
            hKt hq0 (hKt (hKb _ _ _ (by omega)) (hKt hq (hKb _ _ _ (by omega))))⟩
        | ret => exact hp.elim
        | exit id => exact hp.elim
        | goto t => exact hp.elim
        | panic c => exact hp.elim
        | outgrown => exact hp.elim
      | ret => exact hp.elim
      | exit id => exact hp.elim
      | goto t => exact hp.elim
      | panic c => exact hp.elim
      | outgrown => exact hp.elim
    · rintro e W2 ⟨⟨v, rfl⟩, xs, hS, hi, hl, hd⟩
      refine ⟨none, _, run_endLoop (P := P) hl (by simp [rec0]), hdone _ xs _ (Nat.le_refl _) hS (hI.putObj _ hi (by omega) hl rfl) ((World.putObj_heap_other (by omega)).trans hd)⟩
theorem back_seq (n : Nat) (hn : 1 ≤ n) (Bs c : Nat) (A : Option Addr) (l : List Tri) (h6 : l.length ≤ 1000000) (w : World) (hBs : Bs < w.heap.size) (hg : ∀ ad, A = some ad → ad.block < w.heap.size)
    (hs : w.cell? ⟨Bs, 0, none⟩ = some (.slice A l.length c)) (hc : Trs w A l) :
    SeqB n Try.prog 35 #[.pointer (some ⟨Bs, 0, none⟩)] (fun x : Place l => #[Value.int .i64 ((x.val : Nat) : Int), kV (nth3 l x.val)]) (Same2 Bs (A.map (·.block)))
      (fun ys => ys = lastPlaces l l.length (Nat.le_refl _)) w := fun y J W hW hY h0 =>
  (back_in n hn y Bs c A l h6 J (fun _ _ => False) W (Same2 Bs (A.map (·.block))) (fun _ _ h => h) (fun pre x W1 hj _ => by
    obtain ⟨fn, tm, asg, bo, hy, hR⟩ := hY pre x W1 hj
    exact ⟨fn, tm, asg, bo, hy, hR.mono fun e W' h => .inl h⟩) ((hW.cell (p := ⟨Bs, 0, none⟩) hBs).trans hs) (hc.same (b := Bs) ⟨hW.size, hW.block _ hBs, fun k hk => by
    cases A with
    | none => cases hk
    | some ad => injection hk with hk; subst hk; exact hW.block _ (hg ad rfl)⟩) h0).mono fun e W' ⟨h1, h2⟩ => ⟨h1, by
    rcases h2 with h2 | ⟨_, _, h2⟩
    · exact h2
    · exact h2.elim⟩
end Go.Proofs.Ytafcecacldafgaa
