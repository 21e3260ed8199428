/- What a trail is in memory, and the contracts of what only reads of it (no statement of its own). -/
import Derived.Test.YtafcecacldafgaaRows
import Derived.WalkKit
import Derived.WalkLawsBesides
import Derived.Lib.Hide
import Derived.Handy
import Derived.IntWalk
import Derived.BigQuiet
import Derived.BigRegion
import Derived.Below
import Derived.Deep.QuietTactic
import Derived.Deep.RegionWith
import Derived.Deep.RegionHeld3
import Derived.Deep.Cut
import Derived.Deep.LoopGhost
import Derived.Maps.OwnSet
import Derived.Maps.OwnOps
import Derived.Maps.AppendAt
import Derived.Maps.Ext
import Derived.Lib.AppendZeros
import Derived.Lib.AppendZerosOnto
import Derived.StillTailTactics
import Derived.RangeFuncBox
namespace Go.Proofs.Ytafcecacldafgaa
open Go.RowKit
open Go.Maps (Keyed)
set_option linter.unusedVariables false
/-- A number and when it became that. -/
abbrev Cl := Int × Int
/-- A mark (when, how many cells, how many kept), or what is kept (a number, since when, of which cell). -/
abbrev Tri := Int × Int × Int
def flat2 (l : List Cl) : List Value := l.flatMap fun a => [.int .i64 a.1, .int .i64 a.2]
def flat3 (l : List Tri) : List Value := l.flatMap fun a => [.int .i64 a.1, .int .i64 a.2.1, .int .i64 a.2.2]
theorem flat2_cons (a : Cl) (l : List Cl) : flat2 (a :: l) = .int .i64 a.1 :: .int .i64 a.2 :: flat2 l := rfl
theorem flat3_cons (a : Tri) (l : List Tri) : flat3 (a :: l) = .int .i64 a.1 :: .int .i64 a.2.1 :: .int .i64 a.2.2 :: flat3 l := rfl
theorem flat2_len : ∀ l : List Cl, (flat2 l).length = l.length * 2
  | [] => rfl
  | a :: l => by rw [flat2_cons]; simp only [List.length_cons, flat2_len l]; omega
theorem flat3_len : ∀ l : List Tri, (flat3 l).length = l.length * 3
  | [] => rfl
  | a :: l => by rw [flat3_cons]; simp only [List.length_cons, flat3_len l]; omega
theorem flat2_append (l k : List Cl) : flat2 (l ++ k) = flat2 l ++ flat2 k := by simp [flat2]
theorem flat3_append (l k : List Tri) : flat3 (l ++ k) = flat3 l ++ flat3 k := by simp [flat3]
def nth2 (l : List Cl) (i : Nat) : Cl := l.getD i (0, 0)
def nth3 (l : List Tri) (i : Nat) : Tri := l.getD i (0, 0, 0)
theorem flat2_get0 : ∀ (l : List Cl) (i : Nat) (h : i < l.length), (flat2 l)[i * 2]? = some (.int .i64 (nth2 l i).1)
  | a :: l, 0, _ => rfl
  | a :: l, i + 1, h => by
    rw [flat2_cons, show (i + 1) * 2 = i * 2 + 1 + 1 by omega, List.getElem?_cons_succ, List.getElem?_cons_succ]
    exact flat2_get0 l i (by simpa using h)
theorem flat2_get1 : ∀ (l : List Cl) (i : Nat) (h : i < l.length), (flat2 l)[i * 2 + 1]? = some (.int .i64 (nth2 l i).2)
  | a :: l, 0, _ => rfl
  | a :: l, i + 1, h => by
    rw [flat2_cons, show (i + 1) * 2 + 1 = i * 2 + 1 + 1 + 1 by omega, List.getElem?_cons_succ, List.getElem?_cons_succ]
    exact flat2_get1 l i (by simpa using h)
theorem flat3_get0 : ∀ (l : List Tri) (i : Nat) (h : i < l.length), (flat3 l)[i * 3]? = some (.int .i64 (nth3 l i).1)
  | a :: l, 0, _ => rfl
  | a :: l, i + 1, h => by
    rw [flat3_cons, show (i + 1) * 3 = i * 3 + 1 + 1 + 1 by omega, List.getElem?_cons_succ, List.getElem?_cons_succ, List.getElem?_cons_succ]
    exact flat3_get0 l i (by simpa using h)
theorem flat3_get1 : ∀ (l : List Tri) (i : Nat) (h : i < l.length), (flat3 l)[i * 3 + 1]? = some (.int .i64 (nth3 l i).2.1)
  | a :: l, 0, _ => rfl
  | a :: l, i + 1, h => by
    rw [flat3_cons, show (i + 1) * 3 + 1 = i * 3 + 1 + 1 + 1 + 1 by omega, List.getElem?_cons_succ, List.getElem?_cons_succ, List.getElem?_cons_succ]
    exact flat3_get1 l i (by simpa using h)
theorem flat3_get2 : ∀ (l : List Tri) (i : Nat) (h : i < l.length), (flat3 l)[i * 3 + 2]? = some (.int .i64 (nth3 l i).2.2)
  | a :: l, 0, _ => rfl
  | a :: l, i + 1, h => by
    rw [flat3_cons, show (i + 1) * 3 + 2 = i * 3 + 2 + 1 + 1 + 1 by omega, List.getElem?_cons_succ, List.getElem?_cons_succ, List.getElem?_cons_succ]
    exact flat3_get2 l i (by simpa using h)
theorem flat2_set : ∀ (l : List Cl) (i : Nat) (x p : Int), ((flat2 l).set (i * 2) (.int .i64 x)).set (i * 2 + 1) (.int .i64 p) = flat2 (l.set i (x, p))
  | [], i, x, p => by simp [flat2]
  | a :: l, 0, x, p => by simp [flat2]
  | a :: l, i + 1, x, p => by
    have e : (i + 1) * 2 = i * 2 + 1 + 1 := by omega
    rw [List.set_cons_succ, flat2_cons, flat2_cons, ← flat2_set l i x p, e]
    rfl
theorem flat2_take : ∀ (l : List Cl) (i : Nat), (flat2 l).take (i * 2) = flat2 (l.take i)
  | [], i => by simp [flat2]
  | a :: l, 0 => by simp [flat2]
  | a :: l, i + 1 => by
    rw [flat2_cons, show (i + 1) * 2 = i * 2 + 1 + 1 by omega, List.take_succ_cons, List.take_succ_cons, flat2_take l i]; rfl
theorem flat3_take : ∀ (l : List Tri) (i : Nat), (flat3 l).take (i * 3) = flat3 (l.take i)
  | [], i => by simp [flat3]
  | a :: l, 0 => by simp [flat3]
  | a :: l, i + 1 => by
    rw [flat3_cons, show (i + 1) * 3 = i * 3 + 1 + 1 + 1 by omega, List.take_succ_cons, List.take_succ_cons, List.take_succ_cons, flat3_take l i]; rfl
def Row2 (w : World) (v : Value) (l : List Cl) : Prop := w.ownsRow 0 66 2 v l.length (flat2 l)
def RowM (w : World) (v : Value) (l : List Tri) : Prop := w.ownsRow 0 63 3 v l.length (flat3 l)
def RowK (w : World) (v : Value) (l : List Tri) : Prop := w.ownsRow 0 70 3 v l.length (flat3 l)
/-- A trail: how many cells, those that were set, how many marks ever, the open marks, what is kept. -/
structure Tr where
  size : Nat
  fs : List Cl
  era : Nat
  marks : List Tri
  kept : List Tri
/-- The trail's own cells. -/
def Hd (w : World) (b : Nat) (sz era : Nat) (v1 v2 v3 : Value) (m : Nat) : Prop := w.heap[b]? = some (.cells #[.int .i64 (sz : Int), v1, .map (some m), .int .i64 (era : Int), v2, v3] 59 (0, 0))
def Emp (w : World) (m : Nat) : Prop := w.heap[m]? = some (.map #[] 0)
/-- What a call may have turned: the blocks of S alone. -/
structure Kp (S : Nat → Prop) (w w' : World) : Prop where
  os : w'.os = w.os
  tape : w'.tape = w.tape
  output : w'.output = w.output
  size : w.heap.size ≤ w'.heap.size
  block : ∀ k, k < w.heap.size → ¬ S k → w'.heap[k]? = w.heap[k]?
theorem Kp.refl (S : Nat → Prop) (w : World) : Kp S w w := ⟨rfl, rfl, rfl, Nat.le_refl _, fun _ _ _ => rfl⟩
theorem Kp.trans {S : Nat → Prop} {a b c : World} (h : Kp S a b) (k : Kp S b c) : Kp S a c :=
  ⟨k.os.trans h.os, k.tape.trans h.tape, k.output.trans h.output, Nat.le_trans h.size k.size, fun i hi hs => (k.block i (Nat.lt_of_lt_of_le hi h.size) hs).trans (h.block i hi hs)⟩
theorem Kp.mono {S T : Nat → Prop} {w w' : World} (h : Kp S w w') (hT : ∀ k, k < w.heap.size → S k → T k) : Kp T w w' :=
  ⟨h.os, h.tape, h.output, h.size, fun k hk hs => h.block k hk (fun q => hs (hT k hk q))⟩
theorem Kp.of_grown {S : Nat → Prop} {w w' : World} {row : Option Nat} (h : w.grownBy w' row) (hr : ∀ k, row = some k → S k) : Kp S w w' :=
  ⟨h.os, h.tape, h.output, h.size, fun k hk hs => h.block k hk (fun e => hs (hr k e.symm))⟩
theorem Kp.below {S : Nat → Prop} {w w' : World} {B : Nat} (h : Kp S w w') (hS : ∀ k, k < w.heap.size → S k → B ≤ k) (hB : B ≤ w.heap.size) : Below B w w' :=
  ⟨h.os, h.tape, h.output, h.size, fun k hk => h.block k (by omega) (fun q => by have := hS k (by omega) q; omega)⟩
/-- A trail in memory, all of its blocks in P. -/
def TA (P : Nat → Prop) (w : World) (b : Nat) (T : Tr) : Prop :=
  ∃ v1 v2 v3 m, Hd w b T.size T.era v1 v2 v3 m ∧ Row2 w v1 T.fs ∧ RowM w v2 T.marks ∧ RowK w v3 T.kept ∧ Emp w m ∧ P b ∧ P m ∧ (∀ g, v1.ownBlock = some g → P g) ∧ (∀ g, v2.ownBlock = some g → P g) ∧ ∀ g, v3.ownBlock = some g → P g
theorem Hd.lt {w : World} {b m sz era : Nat} {v1 v2 v3 : Value} (h : Hd w b sz era v1 v2 v3 m) : b < w.heap.size := (Array.getElem?_eq_some_iff.1 h).1
theorem Hd.c0 {w : World} {b m sz era : Nat} {v1 v2 v3 : Value} (h : Hd w b sz era v1 v2 v3 m) : w.cell? ⟨b, 0, none⟩ = some (.int .i64 (sz : Int)) := by rw [cell_of_row _ _ _ _ _ _ h]; rfl
theorem Hd.c1 {w : World} {b m sz era : Nat} {v1 v2 v3 : Value} (h : Hd w b sz era v1 v2 v3 m) : w.cell? ⟨b, 1, none⟩ = some v1 := by rw [cell_of_row _ _ _ _ _ _ h]; rfl
theorem Hd.c2 {w : World} {b m sz era : Nat} {v1 v2 v3 : Value} (h : Hd w b sz era v1 v2 v3 m) : w.cell? ⟨b, 2, none⟩ = some (.map (some m)) := by rw [cell_of_row _ _ _ _ _ _ h]; rfl
theorem Hd.c3 {w : World} {b m sz era : Nat} {v1 v2 v3 : Value} (h : Hd w b sz era v1 v2 v3 m) : w.cell? ⟨b, 3, none⟩ = some (.int .i64 (era : Int)) := by rw [cell_of_row _ _ _ _ _ _ h]; rfl
theorem Hd.c4 {w : World} {b m sz era : Nat} {v1 v2 v3 : Value} (h : Hd w b sz era v1 v2 v3 m) : w.cell? ⟨b, 4, none⟩ = some v2 := by rw [cell_of_row _ _ _ _ _ _ h]; rfl
theorem Hd.c5 {w : World} {b m sz era : Nat} {v1 v2 v3 : Value} (h : Hd w b sz era v1 v2 v3 m) : w.cell? ⟨b, 5, none⟩ = some v3 := by rw [cell_of_row _ _ _ _ _ _ h]; rfl
theorem Hd.frozen {w : World} {b m sz era : Nat} {v1 v2 v3 : Value} (h : Hd w b sz era v1 v2 v3 m) (i : Nat) : w.frozen? ⟨b, i, none⟩ = false := by
  have h' : w.heap[b]? = some _ := h
  simp [World.frozen?, h']
theorem Hd.kept {w w' : World} {b m sz era : Nat} {v1 v2 v3 : Value} {row : Option Nat} (h : Hd w b sz era v1 v2 v3 m) (hg : w.grownBy w' row) (hne : some b ≠ row) : Hd w' b sz era v1 v2 v3 m := (hg.block b h.lt hne).trans h
theorem Emp.lt {w : World} {m : Nat} (h : Emp w m) : m < w.heap.size := (Array.getElem?_eq_some_iff.1 h).1
theorem Emp.kept {w w' : World} {m : Nat} {row : Option Nat} (h : Emp w m) (hg : w.grownBy w' row) (hne : some m ≠ row) : Emp w' m := (hg.block m h.lt hne).trans h
/-- Where an own row lies, no block of another kind lies. -/
theorem row_ne {w : World} {e size : Nat} {v : Value} {n : Nat} {xs : List Value} {g k : Nat} {o : Obj} (h : w.ownsRow 0 e size v n xs) (hg : v.ownBlock = some g) (hk : w.heap[k]? = some o) (ho : ∀ cur, o ≠ .cells cur e (0, 0)) : g ≠ k := by
  intro q
  subst q
  rcases h.2 with ⟨rfl, _⟩ | ⟨g', cap, cur, rfl, _, hc, _⟩
  · simp [Value.ownBlock] at hg
  · simp only [Value.ownBlock, Option.some.injEq] at hg
    subst hg
    rw [hc] at hk
    injection hk with hk
    exact ho cur hk.symm
theorem row_ne2 {w : World} {e e' size size' : Nat} {v v' : Value} {n n' : Nat} {xs xs' : List Value} {g : Nat} (h : w.ownsRow 0 e size v n xs) (h' : w.ownsRow 0 e' size' v' n' xs') (hne : e ≠ e') (hg : v.ownBlock = some g) : v'.ownBlock ≠ some g := by
  intro q
  rcases h'.2 with ⟨rfl, _⟩ | ⟨g', cap, cur, rfl, _, hc, _⟩
  · simp [Value.ownBlock] at q
  · simp only [Value.ownBlock, Option.some.injEq] at q
    subst q
    exact row_ne h hg hc (fun cur' q => by injection q with q1 q2 q3; exact hne q2.symm) rfl
theorem row_form {w : World} {e size : Nat} {v : Value} {n : Nat} {xs : List Value} (h : w.ownsRow 0 e size v n xs) : ∃ A c, v = .slice A n c ∧ n ≤ c ∧ c ≤ maxLen ∧ (0 < n → ∃ g, A = some ⟨g, 0, none⟩ ∧ g < w.heap.size) := by
  rcases h.2 with ⟨rfl, h0⟩ | ⟨g, cap, cur, rfl, hb, hh, hn, hm, _⟩
  · exact ⟨none, 0, by rw [h0], by omega, by simp [maxLen], fun q => by omega⟩
  · exact ⟨_, cap, rfl, hn, hm, fun _ => ⟨g, rfl, (Array.getElem?_eq_some_iff.1 hh).1⟩⟩
theorem Row2.at0 {w : World} {g c : Nat} {l : List Cl} (h : Row2 w (.slice (some ⟨g, 0, none⟩) l.length c) l) (i : Nat) (hi : i < l.length) : w.cell? ⟨g, i * 2, none⟩ = some (.int .i64 (nth2 l i).1) := by
  rw [World.ownsRow.cellAt h (i * 2) (by omega)]; exact flat2_get0 l i hi
theorem Row2.at1 {w : World} {g c : Nat} {l : List Cl} (h : Row2 w (.slice (some ⟨g, 0, none⟩) l.length c) l) (i : Nat) (hi : i < l.length) : w.cell? ⟨g, i * 2 + 1, none⟩ = some (.int .i64 (nth2 l i).2) := by
  rw [World.ownsRow.cellAt h (i * 2 + 1) (by omega)]; exact flat2_get1 l i hi
theorem RowM.at0 {w : World} {g c : Nat} {l : List Tri} (h : RowM w (.slice (some ⟨g, 0, none⟩) l.length c) l) (i : Nat) (hi : i < l.length) : w.cell? ⟨g, i * 3, none⟩ = some (.int .i64 (nth3 l i).1) := by
  rw [World.ownsRow.cellAt h (i * 3) (by omega)]; exact flat3_get0 l i hi
theorem RowM.at1 {w : World} {g c : Nat} {l : List Tri} (h : RowM w (.slice (some ⟨g, 0, none⟩) l.length c) l) (i : Nat) (hi : i < l.length) : w.cell? ⟨g, i * 3 + 1, none⟩ = some (.int .i64 (nth3 l i).2.1) := by
  rw [World.ownsRow.cellAt h (i * 3 + 1) (by omega)]; exact flat3_get1 l i hi
theorem RowM.at2 {w : World} {g c : Nat} {l : List Tri} (h : RowM w (.slice (some ⟨g, 0, none⟩) l.length c) l) (i : Nat) (hi : i < l.length) : w.cell? ⟨g, i * 3 + 2, none⟩ = some (.int .i64 (nth3 l i).2.2) := by
  rw [World.ownsRow.cellAt h (i * 3 + 2) (by omega)]; exact flat3_get2 l i hi
theorem RowK.at0 {w : World} {g c : Nat} {l : List Tri} (h : RowK w (.slice (some ⟨g, 0, none⟩) l.length c) l) (i : Nat) (hi : i < l.length) : w.cell? ⟨g, i * 3, none⟩ = some (.int .i64 (nth3 l i).1) := by
  rw [World.ownsRow.cellAt h (i * 3) (by omega)]; exact flat3_get0 l i hi
theorem RowK.at1 {w : World} {g c : Nat} {l : List Tri} (h : RowK w (.slice (some ⟨g, 0, none⟩) l.length c) l) (i : Nat) (hi : i < l.length) : w.cell? ⟨g, i * 3 + 1, none⟩ = some (.int .i64 (nth3 l i).2.1) := by
  rw [World.ownsRow.cellAt h (i * 3 + 1) (by omega)]; exact flat3_get1 l i hi
theorem RowK.at2 {w : World} {g c : Nat} {l : List Tri} (h : RowK w (.slice (some ⟨g, 0, none⟩) l.length c) l) (i : Nat) (hi : i < l.length) : w.cell? ⟨g, i * 3 + 2, none⟩ = some (.int .i64 (nth3 l i).2.2) := by
  rw [World.ownsRow.cellAt h (i * 3 + 2) (by omega)]; exact flat3_get2 l i hi
theorem TA.kept {P : Nat → Prop} {w w' : World} {b : Nat} {T : Tr} (h : TA P w b T) (hg : Kp (fun k => ¬ P k) w w') : TA P w' b T := by
  obtain ⟨v1, v2, v3, m, h1, h2, h3, h4, h5, h6, h7, h8, h9, h10⟩ := h
  have hb : ∀ k, k < w.heap.size → P k → w'.heap[k]? = w.heap[k]? := fun k hk hp => hg.block k hk (fun q => q hp)
  have hrow : ∀ {e size : Nat} {v : Value} {n : Nat} {xs : List Value}, w.ownsRow 0 e size v n xs → (∀ g, v.ownBlock = some g → P g) → w'.ownsRow 0 e size v n xs := by
    intro e size v n xs h hp
    obtain ⟨q1, ⟨rfl, hn⟩ | ⟨g, cap, cur, rfl, hb', hh, hr⟩⟩ := h
    · exact ⟨q1, .inl ⟨rfl, hn⟩⟩
    · exact ⟨q1, .inr ⟨g, cap, cur, rfl, hb', (hb g (Array.getElem?_eq_some_iff.1 hh).1 (hp g rfl)).trans hh, hr⟩⟩
  exact ⟨v1, v2, v3, m, (hb b h1.lt h6).trans h1, hrow h2 h8, hrow h3 h9, hrow h4 h10, (hb m h5.lt h7).trans h5, h6, h7, h8, h9, h10⟩
theorem TA.grown {P : Nat → Prop} {w w' : World} {b : Nat} {T : Tr} (h : TA P w b T) (hg : w.grownBy w' none) : TA P w' b T := h.kept (Kp.of_grown hg (fun k q => by cases q))
theorem TA.mono {P Q : Nat → Prop} {w : World} {b : Nat} {T : Tr} (h : TA P w b T) (hPQ : ∀ k, k < w.heap.size → P k → Q k) : TA Q w b T := by
  obtain ⟨v1, v2, v3, m, h1, h2, h3, h4, h5, h6, h7, h8, h9, h10⟩ := h
  have hr : ∀ {e size : Nat} {v : Value} {n : Nat} {xs : List Value}, w.ownsRow 0 e size v n xs → (∀ g, v.ownBlock = some g → P g) → ∀ g, v.ownBlock = some g → Q g := fun h hp g hg => hPQ g (World.ownsRow.lt h g hg).2 (hp g hg)
  exact ⟨v1, v2, v3, m, h1, h2, h3, h4, h5, hPQ b h1.lt h6, hPQ m h5.lt h7, hr h2 h8, hr h3 h9, hr h4 h10⟩
theorem TA.lt {P : Nat → Prop} {w : World} {b : Nat} {T : Tr} (h : TA P w b T) : b < w.heap.size := by obtain ⟨v1, v2, v3, m, h1, _⟩ := h; exact h1.lt
/-- What was answered, and nothing turned. -/
def AndO (w : World) (v : Value) (e : Ending) (w' : World) : Prop := e = .returned v ∧ w = w'
theorem len_any {P : Nat → Prop} {w : World} {b : Nat} {T : Tr} (h : TA P w b T) : Calls Try.prog 15 #[.pointer (some ⟨b, 0, none⟩)] w (AndO w (.int .i64 (T.size : Int))) := by
  obtain ⟨v1, v2, v3, m, h1, _⟩ := h
  have c0 := h1.c0
  clear h1
  go_enter Try.func15, Try.ntmps15
  go_wp2_with fail
  go_ret
  exact ⟨rfl, rfl⟩
theorem depth_any {P : Nat → Prop} {w : World} {b : Nat} {T : Tr} (h : TA P w b T) : Calls Try.prog 13 #[.pointer (some ⟨b, 0, none⟩)] w (AndO w (.int .i64 (T.marks.length : Int))) := by
  obtain ⟨v1, v2, v3, m, h1, _, h3, _⟩ := h
  have c4 := h1.c4
  obtain ⟨A, c, rfl, _⟩ := row_form h3
  clear h1 h3
  go_enter Try.func13, Try.ntmps13
  go_wp2_with fail
  go_ret
  exact ⟨rfl, rfl⟩
theorem weight_any {P : Nat → Prop} {w : World} {b : Nat} {T : Tr} (h : TA P w b T) : Calls Try.prog 14 #[.pointer (some ⟨b, 0, none⟩)] w (AndO w (.int .i64 (T.kept.length : Int))) := by
  obtain ⟨v1, v2, v3, m, h1, _, _, h4, _⟩ := h
  have c5 := h1.c5
  obtain ⟨A, c, rfl, _⟩ := row_form h4
  clear h1 h4
  go_enter Try.func14, Try.ntmps14
  go_wp2_with fail
  go_ret
  exact ⟨rfl, rfl⟩
theorem len_nil (w : World) : Calls Try.prog 15 #[.pointer none] w (AndO w (.int .i64 0)) := by
  go_enter Try.func15, Try.ntmps15
  go_wp2_with fail
  go_ret
  exact ⟨rfl, rfl⟩
theorem depth_nil (w : World) : Calls Try.prog 13 #[.pointer none] w (AndO w (.int .i64 0)) := by
  go_enter Try.func13, Try.ntmps13
  go_wp2_with fail
  go_ret
  exact ⟨rfl, rfl⟩
theorem weight_nil (w : World) : Calls Try.prog 14 #[.pointer none] w (AndO w (.int .i64 0)) := by
  go_enter Try.func14, Try.ntmps14
  go_wp2_with fail
  go_ret
  exact ⟨rfl, rfl⟩
/-- Is there such a cell, such a mark? -/
def isIn (i : Int) (n : Nat) : Bool := decide (0 ≤ i) && decide (i < (n : Int))
theorem sret_bool {a b : Bool} (h : a = b) : (Ending.returned (.bool a)) = .returned (.bool b) := by rw [h]
theorem has_of {L : Nat} {V : Value} (i : Int) (w : World) (hl : Calls Try.prog 15 #[V] w (AndO w (.int .i64 (L : Int)))) : Calls Try.prog 28 #[V, .int .i64 i] w (AndO w (.bool (isIn i L))) := by
  have HL := Lib.hid hl
  clear hl
  by_cases h0 : i < 0
  · have e : isIn i L = false := by simp [isIn]; omega
    rw [e]
    clear e
    go_enter Try.func28, Try.ntmps28
    go_wp2_with (go_at_call 15; refine HL.out.mono ?_; rintro e w' ⟨rfl, rfl⟩)
    go_ret
    exact ⟨rfl, rfl⟩
  · have h1 : 0 ≤ i := by omega
    have e : isIn i L = decide (i < (L : Int)) := by simp [isIn, h1]
    rw [e]
    clear e h0
    go_enter Try.func28, Try.ntmps28
    go_wp2_with (go_at_call 15; refine HL.out.mono ?_; rintro e w' ⟨rfl, rfl⟩)
    go_ret
    exact ⟨rfl, rfl⟩
theorem open_of {L : Nat} {V : Value} (i : Int) (w : World) (hl : Calls Try.prog 13 #[V] w (AndO w (.int .i64 (L : Int)))) : Calls Try.prog 32 #[V, .int .i64 i] w (AndO w (.bool (isIn i L))) := by
  have HL := Lib.hid hl
  clear hl
  by_cases h0 : i < 0
  · have e : isIn i L = false := by simp [isIn]; omega
    rw [e]
    clear e
    go_enter Try.func32, Try.ntmps32
    go_wp2_with (go_at_call 13; refine HL.out.mono ?_; rintro e w' ⟨rfl, rfl⟩)
    go_ret
    exact ⟨rfl, rfl⟩
  · have h1 : 0 ≤ i := by omega
    have e : isIn i L = decide (i < (L : Int)) := by simp [isIn, h1]
    rw [e]
    clear e h0
    go_enter Try.func32, Try.ntmps32
    go_wp2_with (go_at_call 13; refine HL.out.mono ?_; rintro e w' ⟨rfl, rfl⟩)
    go_ret
    exact ⟨rfl, rfl⟩
end Go.Proofs.Ytafcecacldafgaa
