/- What a queue is in memory, and the contracts of queue's put and ahead (no statement of its own). -/
import Derived.Test.YtpklbaebfeoceaaRows
import Derived.WalkKit
import Derived.WalkLawsBesides
import Derived.Lib.Hide
import Derived.Handy
import Derived.IntWalk
import Derived.BigQuiet
import Derived.BigRegion
import Derived.Below
import Derived.Deep.QuietTactic
import Derived.Deep.RegionWith
import Derived.Deep.Cut
import Derived.Deep.LoopGhost
import Derived.Maps.OwnSet
import Derived.Maps.OwnOps
import Derived.Maps.AppendAt
import Derived.Maps.Ext
import Derived.StillTailTactics
import Derived.RangeFuncBox
namespace Go.Proofs.Ytpklbaebfeoceaa
open Go.RowKit
open Go.Maps (Keyed)
set_option linter.unusedVariables false
theorem law : Keyed Try.prog 3 := Maps.int_keyed Try.underlying3
theorem zeroI (w : World) : (zeroValue 3).run Try.prog w = .ok (.int .i64 0) w := by kernel_rfl
/-- A number and its priority. -/
abbrev It := Int × Int
def flat (l : List It) : List Value := l.flatMap fun a => [.int .i64 a.1, .int .i64 a.2]
theorem flat_len (l : List It) : (flat l).length = l.length * 2 := by
  induction l with
  | nil => rfl
  | cons a l ih => simp only [flat, List.flatMap_cons, List.length_append, List.length_cons, List.length_nil] at ih ⊢; omega
theorem flat_cons (a : It) (l : List It) : flat (a :: l) = .int .i64 a.1 :: .int .i64 a.2 :: flat l := rfl
theorem flat_append (l k : List It) : flat (l ++ k) = flat l ++ flat k := by simp [flat]
theorem flat_get0 : ∀ (l : List It) (i : Nat) (h : i < l.length), (flat l)[i * 2]? = some (.int .i64 (l[i]).1)
  | a :: l, 0, _ => rfl
  | a :: l, i + 1, h => by
    rw [flat_cons, show (i + 1) * 2 = i * 2 + 1 + 1 by omega, List.getElem?_cons_succ, List.getElem?_cons_succ]
    exact flat_get0 l i (by simpa using h)
theorem flat_get1 : ∀ (l : List It) (i : Nat) (h : i < l.length), (flat l)[i * 2 + 1]? = some (.int .i64 (l[i]).2)
  | a :: l, 0, _ => rfl
  | a :: l, i + 1, h => by
    rw [flat_cons, show (i + 1) * 2 + 1 = i * 2 + 1 + 1 + 1 by omega, List.getElem?_cons_succ, List.getElem?_cons_succ]
    exact flat_get1 l i (by simpa using h)
theorem flat_set : ∀ (l : List It) (i : Nat) (x p : Int), ((flat l).set (i * 2) (.int .i64 x)).set (i * 2 + 1) (.int .i64 p) = flat (l.set i (x, p))
  | [], i, x, p => by simp [flat]
  | a :: l, 0, x, p => by simp [flat]
  | a :: l, i + 1, x, p => by
    have e : (i + 1) * 2 = i * 2 + 1 + 1 := by omega
    rw [List.set_cons_succ, flat_cons, flat_cons, ← flat_set l i x p, e]
    rfl
theorem flat_take : ∀ (l : List It) (i : Nat), (flat l).take (i * 2) = flat (l.take i)
  | [], i => by simp [flat]
  | a :: l, 0 => by simp [flat]
  | a :: l, i + 1 => by
    rw [flat_cons, show (i + 1) * 2 = i * 2 + 1 + 1 by omega, List.take_succ_cons, List.take_succ_cons, flat_take l i]; rfl
/-- Items: a slice of the call's own. -/
def Its (w : World) (B : Nat) (v : Value) (l : List It) : Prop := w.ownsRow B 59 2 v l.length (flat l)
/-- The places: a map of the call's own that tells of each number where it stands. -/
def Pls (w : World) (B m : Nat) (f : Int → Option Nat) (s : Nat) : Prop :=
  B ≤ m ∧ ∃ D : DataW Unit, w.ownsMap Try.prog 3 (plainElem Try.prog 3) m s D ∧ Maps.size D ≤ s ∧
    (∀ x : Int, (Lit.int .i64 x).wf = true → Maps.has D (.int .i64 x) = (f x).isSome) ∧
    ∀ (x : Int) (i : Nat), (Lit.int .i64 x).wf = true → f x = some i → ∀ z, D.atKey (.int .i64 x) z = .lit (.int .i64 (i : Int))
/-- The queue's own cells. -/
def Hd (w : World) (b : Nat) (N : Int) (v : Value) (m : Nat) : Prop := w.heap[b]? = some (.cells #[.int .i64 N, v, .map (some m)] 57 (0, 0))
/-- What a call may have turned: the blocks of S alone. -/
structure Kp (S : Nat → Prop) (w w' : World) : Prop where
  os : w'.os = w.os
  tape : w'.tape = w.tape
  output : w'.output = w.output
  size : w.heap.size ≤ w'.heap.size
  block : ∀ k, k < w.heap.size → ¬ S k → w'.heap[k]? = w.heap[k]?
theorem Kp.refl (S : Nat → Prop) (w : World) : Kp S w w := ⟨rfl, rfl, rfl, Nat.le_refl _, fun _ _ _ => rfl⟩
theorem Kp.trans {S : Nat → Prop} {a b c : World} (h : Kp S a b) (k : Kp S b c) : Kp S a c :=
  ⟨k.os.trans h.os, k.tape.trans h.tape, k.output.trans h.output, Nat.le_trans h.size k.size, fun i hi hs => (k.block i (Nat.lt_of_lt_of_le hi h.size) hs).trans (h.block i hi hs)⟩
theorem Kp.mono {S T : Nat → Prop} {w w' : World} (h : Kp S w w') (hT : ∀ k, k < w.heap.size → S k → T k) : Kp T w w' :=
  ⟨h.os, h.tape, h.output, h.size, fun k hk hs => h.block k hk (fun q => hs (hT k hk q))⟩
theorem Kp.of_grown {S : Nat → Prop} {w w' : World} {row : Option Nat} (h : w.grownBy w' row) (hr : ∀ k, row = some k → S k) : Kp S w w' :=
  ⟨h.os, h.tape, h.output, h.size, fun k hk hs => h.block k hk (fun e => hs (hr k e.symm))⟩
theorem Kp.below {S : Nat → Prop} {w w' : World} {B : Nat} (h : Kp S w w') (hS : ∀ k, S k → B ≤ k) (hB : B ≤ w.heap.size) : Below B w w' :=
  ⟨h.os, h.tape, h.output, h.size, fun k hk => h.block k (by omega) (fun q => by have := hS k q; omega)⟩
/-- Two steps, the second one's blocks old ones of the first's or new. -/
theorem Kp.andThen {S T : Nat → Prop} {a b c : World} (h : Kp S a b) (k : Kp T b c) (hT : ∀ j, j < a.heap.size → T j → S j) : Kp S a c :=
  ⟨k.os.trans h.os, k.tape.trans h.tape, k.output.trans h.output, Nat.le_trans h.size k.size, fun i hi hs => (k.block i (Nat.lt_of_lt_of_le hi h.size) (fun q => hs (hT i hi q))).trans (h.block i hi hs)⟩
theorem Hd.lt {w : World} {b m : Nat} {N : Int} {v : Value} (h : Hd w b N v m) : b < w.heap.size := (Array.getElem?_eq_some_iff.1 h).1
theorem Hd.c0 {w : World} {b m : Nat} {N : Int} {v : Value} (h : Hd w b N v m) : w.cell? ⟨b, 0, none⟩ = some (.int .i64 N) := by rw [cell_of_row _ _ _ _ _ _ h]; rfl
theorem Hd.c1 {w : World} {b m : Nat} {N : Int} {v : Value} (h : Hd w b N v m) : w.cell? ⟨b, 1, none⟩ = some v := by rw [cell_of_row _ _ _ _ _ _ h]; rfl
theorem Hd.c2 {w : World} {b m : Nat} {N : Int} {v : Value} (h : Hd w b N v m) : w.cell? ⟨b, 2, none⟩ = some (.map (some m)) := by rw [cell_of_row _ _ _ _ _ _ h]; rfl
theorem Hd.frozen {w : World} {b m : Nat} {N : Int} {v : Value} (h : Hd w b N v m) (i : Nat) : w.frozen? ⟨b, i, none⟩ = false := by
  have h' : w.heap[b]? = some _ := h
  simp [World.frozen?, h']
theorem Hd.kept {w w' : World} {b m : Nat} {N : Int} {v : Value} {row : Option Nat} (h : Hd w b N v m) (hg : w.grownBy w' row) (hne : some b ≠ row) : Hd w' b N v m := (hg.block b h.lt hne).trans h
theorem Its.form {w : World} {B : Nat} {v : Value} {l : List It} (h : Its w B v l) (hl : 0 < l.length) : ∃ g c, v = .slice (some ⟨g, 0, none⟩) l.length c ∧ B ≤ g ∧ g < w.heap.size := by
  rcases h.2 with ⟨_, h0⟩ | ⟨g, cap, cur, rfl, hb, hh, _⟩
  · omega
  · exact ⟨g, cap, rfl, hb, (Array.getElem?_eq_some_iff.1 hh).1⟩
/-- Where a slice of items lies, and the map, and the queue: three blocks. -/
theorem Its.ne_hd {w : World} {B b m g : Nat} {N : Int} {v v' : Value} {l : List It} (h : Its w B v l) (hg : v.ownBlock = some g) (hh : Hd w b N v' m) : g ≠ b := by
  intro e
  subst e
  rcases h.2 with ⟨rfl, _⟩ | ⟨g', cap, cur, rfl, _, hc, _⟩
  · simp [Value.ownBlock] at hg
  · simp only [Value.ownBlock, Option.some.injEq] at hg
    subst hg
    have hh' : w.heap[g']? = some _ := hh
    rw [hc] at hh'
    simp at hh'
theorem Its.ne_map {w : World} {B m g s : Nat} {v : Value} {l : List It} {f : Int → Option Nat} (h : Its w B v l) (hg : v.ownBlock = some g) (hm : Pls w B m f s) : g ≠ m := by
  intro e
  subst e
  obtain ⟨_, D, ⟨es, ck, hb, _⟩, _⟩ := hm
  rcases h.2 with ⟨rfl, _⟩ | ⟨g', cap, cur, rfl, _, hc, _⟩
  · simp [Value.ownBlock] at hg
  · simp only [Value.ownBlock, Option.some.injEq] at hg
    subst hg
    rw [hc] at hb
    simp at hb
theorem Pls.ne_hd {w : World} {B b m s : Nat} {N : Int} {v : Value} {f : Int → Option Nat} (hm : Pls w B m f s) (h : Hd w b N v m) : m ≠ b := by
  intro e
  subst e
  obtain ⟨_, D, ⟨es, ck, hb, _⟩, _⟩ := hm
  have h' : w.heap[m]? = some _ := h
  rw [hb] at h'
  simp at h'
theorem Pls.kept {w w' : World} {B m s : Nat} {f : Int → Option Nat} {row : Option Nat} (h : Pls w B m f s) (hg : w.grownBy w' row) (hne : some m ≠ row) : Pls w' B m f s := by
  obtain ⟨hB, D, ho, h1, h2, h3⟩ := h
  exact ⟨hB, D, ho.kept hg hne, h1, h2, h3⟩
theorem Its.kept {w w' : World} {B : Nat} {v : Value} {l : List It} {row : Option Nat} (h : Its w B v l) (hg : w.grownBy w' row) (hne : v.ownBlock = none ∨ v.ownBlock ≠ row) : Its w' B v l := World.ownsRow.kept h hg hne
/-- An item is written. -/
theorem Its.store {w : World} {B g c : Nat} {l : List It} (h : Its w B (.slice (some ⟨g, 0, none⟩) l.length c) l) (i : Nat) (x p : Int) :
    Its ((w.setCell ⟨g, i * 2, none⟩ (.int .i64 x)).setCell ⟨g, i * 2 + 1, none⟩ (.int .i64 p)) B (.slice (some ⟨g, 0, none⟩) l.length c) (l.set i (x, p)) ∧
      w.grownBy ((w.setCell ⟨g, i * 2, none⟩ (.int .i64 x)).setCell ⟨g, i * 2 + 1, none⟩ (.int .i64 p)) (some g) := by
  obtain ⟨h1, g1⟩ := World.ownsRow.stored h (i * 2) (.int .i64 x)
  obtain ⟨h2, g2⟩ := World.ownsRow.stored h1 (i * 2 + 1) (.int .i64 p)
  rw [flat_set] at h2
  refine ⟨?_, World.grownBy.trans g1 g2⟩
  unfold Its
  rw [List.length_set]
  exact h2
theorem Its.at0 {w : World} {B g c : Nat} {l : List It} (h : Its w B (.slice (some ⟨g, 0, none⟩) l.length c) l) (i : Nat) (hi : i < l.length) : w.cell? ⟨g, i * 2, none⟩ = some (.int .i64 (l[i]).1) := by
  rw [World.ownsRow.cellAt h (i * 2) (by omega)]; exact flat_get0 l i hi
theorem Its.at1 {w : World} {B g c : Nat} {l : List It} (h : Its w B (.slice (some ⟨g, 0, none⟩) l.length c) l) (i : Nat) (hi : i < l.length) : w.cell? ⟨g, i * 2 + 1, none⟩ = some (.int .i64 (l[i]).2) := by
  rw [World.ownsRow.cellAt h (i * 2 + 1) (by omega)]; exact flat_get1 l i hi
theorem wf_int {x : Int} (h1 : -9223372036854775808 ≤ x) (h2 : x ≤ 9223372036854775807) : (Lit.int .i64 x).wf = true := WalkArith.wf_i64 ⟨h1, h2⟩
end Go.Proofs.Ytpklbaebfeoceaa
