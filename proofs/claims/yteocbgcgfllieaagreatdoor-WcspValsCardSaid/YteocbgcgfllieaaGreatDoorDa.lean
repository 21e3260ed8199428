/- The document's reader in memory: what was wrong, what was too large, the next word and number (no statement of its own). -/
import Derived.Test.YteocbgcgfllieaaGreatDoorBs
namespace Go.Proofs.YteocbgcgfllieaaGreatDoor
open Go.RowKit
set_option linter.unusedVariables false
/-- What the cells of the document's reader hold. -/
structure DrV where
  l : Value
  en : Int
  ee : Int
  bad : Int
  badAt : Int
  big : Int
  bigAt : Int
  lines : Int
  shared : Value
def drC (v : DrV) : Array Value := #[v.l, .int .i64 v.en, .int .i64 v.ee, .int .i64 v.bad, .int .i64 v.badAt, .int .i64 v.big, .int .i64 v.bigAt, .int .i64 v.lines, v.shared]
def DrAt (W : World) (b : Nat) (v : DrV) : Prop := W.heap[b]? = some (.cells (drC v) 82 (0, 0))
theorem DrAt.lt {W : World} {b : Nat} {v : DrV} (h : DrAt W b v) : b < W.heap.size := (Array.getElem?_eq_some_iff.1 h).1
theorem DrAt.cell {W : World} {b : Nat} {v : DrV} (h : DrAt W b v) {i : Nat} {u : Value} (hi : (drC v)[i]? = some u) : W.cell? ⟨b, i, none⟩ = some u := by rw [cell_of_row _ _ _ _ _ _ h]; exact hi
theorem DrAt.frozen {W : World} {b : Nat} {v : DrV} (h : DrAt W b v) (i : Nat) : W.frozen? ⟨b, i, none⟩ = false := frozen_of_row _ _ _ _ _ h
/-- Only one block changed, and what is new. -/
abbrev Gr (W W' : World) (b : Nat) : Prop := W.grownBy W' (some b)
theorem Gr.refl (W : World) (b : Nat) : Gr W W b := ⟨rfl, rfl, rfl, Nat.le_refl _, fun _ _ _ => rfl⟩
theorem Gr.trans {X Y Z : World} {b : Nat} (h : Gr X Y b) (k : Gr Y Z b) : Gr X Z b := sgrown_then h k
def wrV (e p : Int) (v : DrV) : DrV := if v.bad = 0 then { v with bad := e, badAt := p } else v
def lgV (is : Bool) (p : Int) (v : DrV) : DrV := if is = true ∧ v.big = 0 ∧ v.bad = 0 then { v with big := 5, bigAt := p } else v
theorem wrong7 (b : Nat) (e p : Int) (v : DrV) (w : World) (h : DrAt w b v) :
    Calls Tryz.prog 38 #[.pointer (some ⟨b, 0, none⟩), .int .i64 e, .int .i64 p] w fun e' w' => (∃ u, e' = .returned u) ∧ DrAt w' b (wrV e p v) ∧ Gr w w' b := by
  have HH := Lib.hid h
  have c3 : w.cell? ⟨b, 3, none⟩ = some (.int .i64 v.bad) := h.cell (i := 3) rfl
  have c4 : w.cell? ⟨b, 4, none⟩ = some (.int .i64 v.badAt) := h.cell (i := 4) rfl
  have f3 := h.frozen 3
  have f4 := h.frozen 4
  clear h
  by_cases hb : v.bad = 0
  · have d : (v.bad == 0) = true := by simpa using hb
    have HB := Lib.hid hb
    clear hb
    go_enter Tryz.func38, Tryz.ntmps38
    go_wp2_with fail
    go_end0
    refine ⟨⟨_, rfl⟩, ?_, (grown_put w b 3 (.int .i64 e)).trans (grown_put (w.setCell ⟨b, 3, none⟩ (.int .i64 e)) b 4 (.int .i64 p))⟩
    have r1 := heap_setCell_same w b 3 _ _ (.int .i64 e) HH.out
    have r2 := heap_setCell_same (w.setCell ⟨b, 3, none⟩ (.int .i64 e)) b 4 _ _ (.int .i64 p) r1
    unfold wrV
    rw [if_pos HB.out]
    exact r2
  · have d : (v.bad == 0) = false := by simpa using hb
    have HB := Lib.hid hb
    clear hb
    go_enter Tryz.func38, Tryz.ntmps38
    go_wp2_with fail
    go_end0
    refine ⟨⟨_, rfl⟩, ?_, Gr.refl _ _⟩
    unfold wrV
    rw [if_neg HB.out]
    exact HH.out
theorem large7 (b : Nat) (is : Bool) (p : Int) (v : DrV) (w : World) (h : DrAt w b v) :
    Calls Tryz.prog 35 #[.pointer (some ⟨b, 0, none⟩), .bool is, .int .i64 p] w fun e' w' => (∃ u, e' = .returned u) ∧ DrAt w' b (lgV is p v) ∧ Gr w w' b := by
  have HH := Lib.hid h
  have c3 : w.cell? ⟨b, 3, none⟩ = some (.int .i64 v.bad) := h.cell (i := 3) rfl
  have c5 : w.cell? ⟨b, 5, none⟩ = some (.int .i64 v.big) := h.cell (i := 5) rfl
  have f5 := h.frozen 5
  have f6 := h.frozen 6
  have c6 : w.cell? ⟨b, 6, none⟩ = some (.int .i64 v.bigAt) := h.cell (i := 6) rfl
  clear h
  cases is with
  | false =>
    go_enter Tryz.func35, Tryz.ntmps35
    go_wp2_with fail
    go_end0
    refine ⟨⟨_, rfl⟩, ?_, Gr.refl _ _⟩
    unfold lgV
    rw [if_neg (by simp)]
    exact HH.out
  | true =>
    by_cases hg : v.big = 0
    · have d : (v.big == 0) = true := by simpa using hg
      have HG := Lib.hid hg
      clear hg
      by_cases hb : v.bad = 0
      · have d : (v.bad == 0) = true := by simpa using hb
        have HB := Lib.hid hb
        clear hb
        go_enter Tryz.func35, Tryz.ntmps35
        go_wp2_with fail
        go_end0
        refine ⟨⟨_, rfl⟩, ?_, (grown_put w b 5 (.int .i64 5)).trans (grown_put (w.setCell ⟨b, 5, none⟩ (.int .i64 5)) b 6 (.int .i64 p))⟩
        have r1 := heap_setCell_same w b 5 _ _ (.int .i64 5) HH.out
        have r2 := heap_setCell_same (w.setCell ⟨b, 5, none⟩ (.int .i64 5)) b 6 _ _ (.int .i64 p) r1
        unfold lgV
        rw [if_pos ⟨rfl, HG.out, HB.out⟩]
        exact r2
      · have d : (v.bad == 0) = false := by simpa using hb
        have HB := Lib.hid hb
        clear hb
        go_enter Tryz.func35, Tryz.ntmps35
        go_wp2_with fail
        go_end0
        refine ⟨⟨_, rfl⟩, ?_, Gr.refl _ _⟩
        unfold lgV
        rw [if_neg (by have := HB.out; simp [this])]
        exact HH.out
    · have d : (v.big == 0) = false := by simpa using hg
      have HG := Lib.hid hg
      clear hg
      go_enter Tryz.func35, Tryz.ntmps35
      go_wp2_with fail
      go_end0
      refine ⟨⟨_, rfl⟩, ?_, Gr.refl _ _⟩
      unfold lgV
      rw [if_neg (by have := HG.out; simp [this])]
      exact HH.out
/-- The words that are left, in memory. -/
def WL (W : World) (b : Nat) (v : Value) (s : ByteArray) (ws : List (Nat × Nat)) : Prop :=
  ∃ A c, v = .slice A ws.length c ∧ ws.length ≤ c ∧ (ws = [] ∨ ∃ g o cur fr, A = some ⟨g, o, none⟩ ∧ W.heap[g]? = some (.cells cur 84 fr) ∧ g ≠ b ∧
    ∀ j x, ws[j]? = some x → W.cell? ⟨g, o + j * 2, none⟩ = some (.string (s.extract x.1 x.2)) ∧ W.cell? ⟨g, o + j * 2 + 1, none⟩ = some (.int .i64 (x.1 : Int)))
/-- Blocks of the kinds that a text's words and functions lie in stay. -/
structure KeepD (W W' : World) : Prop where
  word : ∀ (g : Nat) (cur : Array Value) (fr : Nat × Nat), W.heap[g]? = some (.cells cur 84 fr) → W'.heap[g]? = W.heap[g]?
  ints : ∀ (g : Nat) (cur : Array Value) (fr : Nat × Nat), W.heap[g]? = some (.cells cur 2 fr) → W'.heap[g]? = W.heap[g]?
  line : ∀ (g : Nat) (cur : Array Value) (fr : Nat × Nat), W.heap[g]? = some (.cells cur 134 fr) → W'.heap[g]? = W.heap[g]?
theorem KeepD.refl (W : World) : KeepD W W := ⟨fun _ _ _ _ => rfl, fun _ _ _ _ => rfl, fun _ _ _ _ => rfl⟩
theorem KeepD.trans {X Y Z : World} (h : KeepD X Y) (k : KeepD Y Z) : KeepD X Z :=
  ⟨fun g cur fr e => (k.word g cur fr ((h.word g cur fr e).trans e)).trans (h.word g cur fr e), fun g cur fr e => (k.ints g cur fr ((h.ints g cur fr e).trans e)).trans (h.ints g cur fr e), fun g cur fr e => (k.line g cur fr ((h.line g cur fr e).trans e)).trans (h.line g cur fr e)⟩
theorem KeepD.below {W W' : World} (h : Below W.heap.size W W') : KeepD W W' :=
  ⟨fun g _ _ e => h.block g (Array.getElem?_eq_some_iff.1 e).1, fun g _ _ e => h.block g (Array.getElem?_eq_some_iff.1 e).1, fun g _ _ e => h.block g (Array.getElem?_eq_some_iff.1 e).1⟩
theorem KeepD.typed {W W' : World} {p : Option Nat} {t : TypeId} (hg : W.grownBy W' p) (hp : ∀ g, p = some g → ∃ cur fr, W.heap[g]? = some (.cells cur t fr)) (h1 : t ≠ 84) (h2 : t ≠ 2) (h3 : t ≠ 134) : KeepD W W' := by
  have key : ∀ (g : Nat) (cur : Array Value) (t' : TypeId) (fr : Nat × Nat), t ≠ t' → W.heap[g]? = some (.cells cur t' fr) → W'.heap[g]? = W.heap[g]? := fun g cur t' fr hne h => by
    refine hg.block g (Array.getElem?_eq_some_iff.1 h).1 (fun e => ?_)
    obtain ⟨cur', fr', h3⟩ := hp g e.symm
    rw [h] at h3
    injection h3 with h3
    injection h3 with _ h4
    exact hne h4.symm
  exact ⟨fun g cur fr => key g cur _ fr h1, fun g cur fr => key g cur _ fr h2, fun g cur fr => key g cur _ fr h3⟩
theorem KeepD.dr {W W' : World} {b : Nat} {v : DrV} (h : DrAt W b v) (hg : Gr W W' b) : KeepD W W' :=
  KeepD.typed hg (fun g e => by injection e with e; subst e; exact ⟨_, _, h⟩) (by decide) (by decide) (by decide)
theorem WL.keep {W W' : World} {b : Nat} {v : Value} {s : ByteArray} {ws : List (Nat × Nat)} (h : WL W b v s ws) (hk : KeepD W W') : WL W' b v s ws := by
  obtain ⟨A, c, e, hc, h⟩ := h
  refine ⟨A, c, e, hc, ?_⟩
  rcases h with h | ⟨g, o, cur, fr, e2, h1, h2, h3⟩
  · exact .inl h
  · have := hk.word g cur fr h1
    exact .inr ⟨g, o, cur, fr, e2, this.trans h1, h2, fun j x hx => ⟨(World.cell?_of_block (a := ⟨g, o + j * 2, none⟩) this).trans (h3 j x hx).1, (World.cell?_of_block (a := ⟨g, o + j * 2 + 1, none⟩) this).trans (h3 j x hx).2⟩⟩
/-- What a reader's limit says. -/
def BigD (v : DrV) : Option Nat → Prop
  | none => v.big = 0
  | some p => v.big = 5 ∧ v.bigAt = (p : Int)
def EndD (v : DrV) (n : Nat) : Option Nat → Prop
  | none => v.en = (n : Int) ∧ v.ee = 4
  | some p => v.en = (p : Int) ∧ v.ee = 11
/-- The document's reader, with nothing malformed so far. -/
structure DrOk (W : World) (b : Nat) (s : ByteArray) (st : RdS) (v : DrV) : Prop where
  at_ : DrAt W b v
  fine : v.bad = 0
  le : st.k ≤ s.size
  fits : s.size ≤ 100000
  big : BigD v st.big
  words : WL W b v.l s (wordsL s.data.toList st.k).1
  fin : EndD v s.size (wordsL s.data.toList st.k).2
/-- The reader, once something was malformed. -/
structure DrBad (W : World) (b : Nat) (e p : Nat) (v : DrV) : Prop where
  at_ : DrAt W b v
  fe : v.bad = (e : Int)
  fp : v.badAt = (p : Int)
  ne : e ≠ 0
theorem DrBad.bad {W : World} {b e p : Nat} {v : DrV} (h : DrBad W b e p v) : ¬ v.bad = 0 := by have := h.fe; have := h.ne; omega
end Go.Proofs.YteocbgcgfllieaaGreatDoor
