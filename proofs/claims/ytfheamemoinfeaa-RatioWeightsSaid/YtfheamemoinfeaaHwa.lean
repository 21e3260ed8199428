/- What weights are in memory (no statement of its own). -/
import Derived.Test.YtfheamemoinfeaaFk
import Derived.BigQuiet
import Derived.BigRegion
import Derived.Deep.QuietTactic
import Derived.Deep.RegionWith
import Derived.Deep.RegionHeld3
import Derived.Deep.Cut
import Derived.Deep.LoopGhost
import Derived.Maps.OwnSet
import Derived.Maps.OwnOps
import Derived.Maps.Ext
import Derived.StillTailTactics
import Derived.RangeFuncBox
namespace Go.Proofs.Ytfheamemoinfeaa
open Go.RowKit
open Go.Maps (Keyed)
open RtA
set_option linter.unusedVariables false
theorem law : Keyed Try.prog 3 := Maps.int_keyed Try.underlying3
theorem zeroI (w : World) : (zeroValue 3).run Try.prog w = .ok (.int .i64 0) w := by kernel_rfl
/-- A map of the call's own: of each number where it stands. -/
def Pls (w : World) (m : Nat) (f : Int → Option Nat) (s : Nat) : Prop :=
  ∃ D : DataW Unit, w.ownsMap Try.prog 3 (plainElem Try.prog 3) m s D ∧
    (∀ x : Int, (Lit.int .i64 x).wf = true → Maps.has D (.int .i64 x) = (f x).isSome) ∧
    ∀ (x : Int) (i : Nat), (Lit.int .i64 x).wf = true → f x = some i → ∀ z, D.atKey (.int .i64 x) z = .lit (.int .i64 (i : Int))
theorem wf_int {x : Int} (h1 : -9223372036854775808 ≤ x) (h2 : x ≤ 9223372036854775807) : (Lit.int .i64 x).wf = true := WalkArith.wf_i64 ⟨h1, h2⟩
theorem isKey_int (x : Int) : WideAt.IsKeyLit (.int .i64 x) := by simp [WideAt.IsKeyLit]
theorem key_ne {x y : Int} (h : y ≠ x) : (Lit.int .i64 y) ≠ (Lit.int .i64 x) := fun e => h (by injection e)
def upd (f : Int → Option Nat) (x : Int) (i : Nat) : Int → Option Nat := fun y => if y = x then some i else f y
theorem Pls.stored {w w' : World} {m s i : Nat} {x : Int} {f : Int → Option Nat} {D : DataW Unit} (hw : (Lit.int .i64 x).wf = true)
    (h0 : w.ownsMap Try.prog 3 (plainElem Try.prog 3) m s D)
    (h1 : ∀ x : Int, (Lit.int .i64 x).wf = true → Maps.has D (.int .i64 x) = (f x).isSome)
    (h2 : ∀ (x : Int) (i : Nat), (Lit.int .i64 x).wf = true → f x = some i → ∀ z, D.atKey (.int .i64 x) z = .lit (.int .i64 (i : Int)))
    (h : w'.ownsMap Try.prog 3 (plainElem Try.prog 3) m (s + 1) (D.put (.int .i64 x) (.lit (.int .i64 (i : Int))))) : Pls w' m (upd f x i) (s + 1) := by
  refine ⟨_, h, fun y hy => ?_, fun y j hy hj z => ?_⟩
  · by_cases e : y = x
    · subst e
      rw [Maps.has_put_same h0.isMap (isKey_int y)]
      simp [upd]
    · rw [Maps.has_put_other (key_ne e), h1 y hy]
      simp [upd, e]
  · by_cases e : y = x
    · subst e
      rw [Maps.atKey_put_same h0.isMap (isKey_int y)]
      have hj : some i = some j := by simpa [upd] using hj
      injection hj with hj
      rw [hj]
    · rw [Maps.atKey_put_other (key_ne e)]
      simp only [upd, if_neg e] at hj
      exact h2 y j hy hj z
theorem Pls.block {w w' : World} {m s : Nat} {f : Int → Option Nat} (h : Pls w m f s) (hb : w'.heap[m]? = w.heap[m]?) : Pls w' m f s := by
  obtain ⟨D, ⟨es, ck, h1, h2⟩, h3⟩ := h
  exact ⟨D, ⟨es, ck, hb.trans h1, h2⟩, h3⟩
theorem Pls.lt {w : World} {m s : Nat} {f : Int → Option Nat} (h : Pls w m f s) : m < w.heap.size := by
  obtain ⟨D, ⟨es, ck, h1, h2⟩, h3⟩ := h
  exact (Array.getElem?_eq_some_iff.1 h1).1
theorem look_pls {w : World} {m s : Nat} {f : Int → Option Nat} (h : Pls w m f s) {x : Int} (hx : -9223372036854775808 ≤ x ∧ x ≤ 9223372036854775807) :
    (Instr.lookup 55 (.map (some m)) (.int .i64 x) true).run Try.prog w = .ok (.tuple #[.int .i64 (((f x).getD 0 : Nat) : Int), .bool (f x).isSome]) w := by
  obtain ⟨D, ho, h2, h3⟩ := h
  have hw := wf_int hx.1 hx.2
  obtain ⟨v, ps, hrun, hv⟩ := ho.look_ok law Try.underlying55 (zeroI w) (plainElem_int (P := Try.prog) Try.underlying3 (by decide)) (Maps.keyOf_int_mk (P := Try.prog) Try.underlying3 hw)
  obtain ⟨c, rfl, hc, _⟩ := plainElem_int_inv Try.underlying3 hv
  rw [hrun, h2 x hw]
  have hc1 := congrArg Prod.fst hc
  simp only at hc1
  cases hf : f x with
  | none =>
    have hh : Maps.has D (.int .i64 x) = false := by rw [h2 x hw, hf]; rfl
    rw [Maps.atKey_of_not_has hh] at hc1
    simp only [DataW.lit.injEq, Lit.int.injEq, true_and] at hc1
    rw [← hc1]; rfl
  | some i =>
    rw [h3 x i hw hf] at hc1
    simp only [DataW.lit.injEq, Lit.int.injEq, true_and] at hc1
    rw [← hc1]; rfl
/-- What a call may have turned: the blocks of S alone. -/
structure Kp (S : Nat → Prop) (w w' : World) : Prop where
  os : w'.os = w.os
  tape : w'.tape = w.tape
  output : w'.output = w.output
  size : w.heap.size ≤ w'.heap.size
  block : ∀ k, k < w.heap.size → ¬ S k → w'.heap[k]? = w.heap[k]?
theorem Kp.refl (S : Nat → Prop) (w : World) : Kp S w w := ⟨rfl, rfl, rfl, Nat.le_refl _, fun _ _ _ => rfl⟩
theorem Kp.drew {S : Nat → Prop} {w w' : World} (h : Kp S w w') (n : Nat) : Kp S w (w'.drewN n) := ⟨h.os, h.tape, h.output, h.size, h.block⟩
theorem Kp.trans {S : Nat → Prop} {a b c : World} (h : Kp S a b) (k : Kp S b c) : Kp S a c :=
  ⟨k.os.trans h.os, k.tape.trans h.tape, k.output.trans h.output, Nat.le_trans h.size k.size, fun i hi hs => (k.block i (Nat.lt_of_lt_of_le hi h.size) hs).trans (h.block i hi hs)⟩
theorem Kp.andThen {S T : Nat → Prop} {a b c : World} (h : Kp S a b) (k : Kp T b c) (hT : ∀ j, j < a.heap.size → T j → S j) : Kp S a c :=
  ⟨k.os.trans h.os, k.tape.trans h.tape, k.output.trans h.output, Nat.le_trans h.size k.size, fun i hi hs => (k.block i (Nat.lt_of_lt_of_le hi h.size) (fun q => hs (hT i hi q))).trans (h.block i hi hs)⟩
theorem Kp.of_grown {S : Nat → Prop} {w w' : World} {row : Option Nat} (h : w.grownBy w' row) (hr : ∀ k, row = some k → S k) : Kp S w w' :=
  ⟨h.os, h.tape, h.output, h.size, fun k hk hs => h.block k hk (fun e => hs (hr k e.symm))⟩
theorem Kp.below {S : Nat → Prop} {w w' : World} {B : Nat} (h : Kp S w w') (hS : ∀ k, S k → B ≤ k) (hB : B ≤ w.heap.size) : Below B w w' :=
  ⟨h.os, h.tape, h.output, h.size, fun k hk => h.block k (by omega) (fun q => by have := hS k q; omega)⟩
/-- A run of functions: as far as to this number, of this weight. -/
abbrev Rn := Int × Nat
def flatR (l : List Rn) : List Value := l.flatMap fun a => [.int .i64 a.1, .float .f64 a.2]
theorem flatR_cons (a : Rn) (l : List Rn) : flatR (a :: l) = .int .i64 a.1 :: .float .f64 a.2 :: flatR l := rfl
theorem flatR_len : ∀ l : List Rn, (flatR l).length = l.length * 2
  | [] => rfl
  | a :: l => by rw [flatR_cons]; simp only [List.length_cons, flatR_len l]; omega
theorem flatR_append (l k : List Rn) : flatR (l ++ k) = flatR l ++ flatR k := by simp [flatR]
def nthR (l : List Rn) (i : Nat) : Rn := l.getD i (0, 0)
theorem nthR_get (l : List Rn) (i : Nat) (h : i < l.length) : l[i] = nthR l i := by simp [nthR, List.getD, h]
theorem flatR_get0 : ∀ (l : List Rn) (i : Nat) (h : i < l.length), (flatR l)[i * 2]? = some (.int .i64 (nthR l i).1)
  | a :: l, 0, _ => rfl
  | a :: l, i + 1, h => by
    rw [flatR_cons, show (i + 1) * 2 = i * 2 + 1 + 1 by omega, List.getElem?_cons_succ, List.getElem?_cons_succ]
    exact flatR_get0 l i (by simpa using h)
theorem flatR_get1 : ∀ (l : List Rn) (i : Nat) (h : i < l.length), (flatR l)[i * 2 + 1]? = some (.float .f64 (nthR l i).2)
  | a :: l, 0, _ => rfl
  | a :: l, i + 1, h => by
    rw [flatR_cons, show (i + 1) * 2 + 1 = i * 2 + 1 + 1 + 1 by omega, List.getElem?_cons_succ, List.getElem?_cons_succ]
    exact flatR_get1 l i (by simpa using h)
theorem flatR_set : ∀ (l : List Rn) (i x : Nat), (flatR l).set (i * 2 + 1) (.float .f64 x) = flatR (l.set i ((nthR l i).1, x))
  | [], i, x => by simp [flatR]
  | a :: l, 0, x => by simp [flatR, nthR]
  | a :: l, i + 1, x => by
    have e : (i + 1) * 2 + 1 = i * 2 + 1 + 1 + 1 := by omega
    have e2 : nthR (a :: l) (i + 1) = nthR l i := rfl
    rw [List.set_cons_succ, flatR_cons, flatR_cons, e2, ← flatR_set l i x, e]
    rfl
theorem nthR_set (l : List Rn) (i j : Nat) (x : Rn) (h : i < l.length) : nthR (l.set i x) j = if j = i then x else nthR l j := by
  unfold nthR
  rw [List.getD_eq_getElem?_getD, List.getElem?_set, List.getD_eq_getElem?_getD]
  by_cases e : i = j
  · subst e; simp [h]
  · rw [if_neg e, if_neg (fun q => e q.symm)]
theorem nthR_append (l k : List Rn) (i : Nat) (h : i < l.length) : nthR (l ++ k) i = nthR l i := by
  unfold nthR
  rw [List.getD_eq_getElem?_getD, List.getD_eq_getElem?_getD, List.getElem?_append_left h]
theorem nthR_last (l : List Rn) (x : Rn) : nthR (l ++ [x]) l.length = x := by simp [nthR, List.getD]
def RowR (w : World) (v : Value) (l : List Rn) : Prop := w.ownsRow 0 60 2 v l.length (flatR l)
theorem row_form {w : World} {e size : Nat} {v : Value} {n : Nat} {xs : List Value} (h : w.ownsRow 0 e size v n xs) : ∃ A c, v = .slice A n c ∧ n ≤ c ∧ c ≤ maxLen ∧ (0 < n → ∃ g, A = some ⟨g, 0, none⟩ ∧ g < w.heap.size) := by
  rcases h.2 with ⟨rfl, h0⟩ | ⟨g, cap, cur, rfl, hb, hh, hn, hm, _⟩
  · exact ⟨none, 0, by rw [h0], by omega, by simp [maxLen], fun q => by omega⟩
  · exact ⟨_, cap, rfl, hn, hm, fun _ => ⟨g, rfl, (Array.getElem?_eq_some_iff.1 hh).1⟩⟩
theorem row_block {w w' : World} {e size : Nat} {v : Value} {n : Nat} {xs : List Value} (h : w.ownsRow 0 e size v n xs) (hb : ∀ g, v.ownBlock = some g → w'.heap[g]? = w.heap[g]?) : w'.ownsRow 0 e size v n xs := by
  obtain ⟨h1, ⟨rfl, hn⟩ | ⟨g, cap, cur, rfl, hb', hh, hr⟩⟩ := h
  · exact ⟨h1, .inl ⟨rfl, hn⟩⟩
  · exact ⟨h1, .inr ⟨g, cap, cur, rfl, hb', (hb g rfl).trans hh, hr⟩⟩
theorem RowR.at0 {w : World} {g c : Nat} {l : List Rn} (h : RowR w (.slice (some ⟨g, 0, none⟩) l.length c) l) (i : Nat) (hi : i < l.length) : w.cell? ⟨g, i * 2, none⟩ = some (.int .i64 (nthR l i).1) := by
  rw [World.ownsRow.cellAt h (i * 2) (by omega)]; exact flatR_get0 l i hi
theorem RowR.at1 {w : World} {g c : Nat} {l : List Rn} (h : RowR w (.slice (some ⟨g, 0, none⟩) l.length c) l) (i : Nat) (hi : i < l.length) : w.cell? ⟨g, i * 2 + 1, none⟩ = some (.float .f64 (nthR l i).2) := by
  rw [World.ownsRow.cellAt h (i * 2 + 1) (by omega)]; exact flatR_get1 l i hi
theorem RowR.frozen {w : World} {g c : Nat} {l : List Rn} (h : RowR w (.slice (some ⟨g, 0, none⟩) l.length c) l) (j : Nat) : w.frozen? ⟨g, j, none⟩ = false := World.ownsRow.frozenAt h j
theorem RowR.store {w : World} {g c : Nat} {l : List Rn} (h : RowR w (.slice (some ⟨g, 0, none⟩) l.length c) l) (i x : Nat) :
    RowR (w.setCell ⟨g, i * 2 + 1, none⟩ (.float .f64 x)) (.slice (some ⟨g, 0, none⟩) l.length c) (l.set i ((nthR l i).1, x)) ∧ w.grownBy (w.setCell ⟨g, i * 2 + 1, none⟩ (.float .f64 x)) (some g) := by
  obtain ⟨h1, h2⟩ := World.ownsRow.stored h (i * 2 + 1) (.float .f64 x)
  refine ⟨?_, h2⟩
  unfold RowR
  rw [List.length_set, ← flatR_set]
  exact h1
/-- The weights' own cells. -/
def Hd (w : World) (b : Nat) (v1 : Value) (m : Nat) (v3 : Value) : Prop := w.heap[b]? = some (.cells #[v1, .map (some m), v3] 58 (0, 0))
theorem Hd.lt {w : World} {b m : Nat} {v1 v3 : Value} (h : Hd w b v1 m v3) : b < w.heap.size := (Array.getElem?_eq_some_iff.1 h).1
theorem Hd.c0 {w : World} {b m : Nat} {v1 v3 : Value} (h : Hd w b v1 m v3) : w.cell? ⟨b, 0, none⟩ = some v1 := by rw [cell_of_row _ _ _ _ _ _ h]; rfl
theorem Hd.c1 {w : World} {b m : Nat} {v1 v3 : Value} (h : Hd w b v1 m v3) : w.cell? ⟨b, 1, none⟩ = some (.map (some m)) := by rw [cell_of_row _ _ _ _ _ _ h]; rfl
theorem Hd.c2 {w : World} {b m : Nat} {v1 v3 : Value} (h : Hd w b v1 m v3) : w.cell? ⟨b, 2, none⟩ = some v3 := by rw [cell_of_row _ _ _ _ _ _ h]; rfl
theorem Hd.frozen {w : World} {b m : Nat} {v1 v3 : Value} (h : Hd w b v1 m v3) (i : Nat) : w.frozen? ⟨b, i, none⟩ = false := by
  have h' : w.heap[b]? = some _ := h
  simp [World.frozen?, h']
theorem Hd.block {w w' : World} {b m : Nat} {v1 v3 : Value} (h : Hd w b v1 m v3) (hb : w'.heap[b]? = w.heap[b]?) : Hd w' b v1 m v3 := hb.trans h
theorem Hd.store0 {w : World} {b m : Nat} {v1 v3 : Value} (h : Hd w b v1 m v3) (v : Value) : Hd (w.setCell ⟨b, 0, none⟩ v) b v m v3 := by
  have := heap_setCell_same w b 0 _ _ v h
  unfold Hd
  simpa using this
theorem Hd.store2 {w : World} {b m : Nat} {v1 v3 : Value} (h : Hd w b v1 m v3) (v : Value) : Hd (w.setCell ⟨b, 2, none⟩ v) b v1 m v := by
  have := heap_setCell_same w b 2 _ _ v h
  unfold Hd
  simpa using this
/-- How many functions the runs are of. -/
def endR (R : List Rn) : Int := match R.getLast? with
  | some r => r.1
  | none => 0
theorem endR_nil : endR [] = 0 := rfl
theorem endR_snoc (R : List Rn) (r : Rn) : endR (R ++ [r]) = r.1 := by simp [endR]
/-- What runs, places and weights of their own tell together: of each its weight. -/
structure WInv (R : List Rn) (f : Int → Option Nat) (Bm X : List Nat) : Prop where
  len : endR R = (X.length : Int)
  ris : R.Pairwise fun a b => a.1 < b.1
  pos : ∀ r ∈ R, 0 < r.1
  run : ∀ j, j < X.length → f (j : Int) = none → ∃ i, i < R.length ∧ (∀ q, q < i → (nthR R q).1 ≤ (j : Int)) ∧ (j : Int) < (nthR R i).1 ∧ nthF X j = (nthR R i).2
  bmp : ∀ (j : Int) (a : Nat), f j = some a → ∃ q : Nat, j = (q : Int) ∧ q < X.length ∧ a < Bm.length ∧ nthF X q = nthF Bm a
  inj : ∀ (i j : Int) (a : Nat), f i = some a → f j = some a → i = j
  sml : ∀ x ∈ X, x < 18446744073709551616
/-- Weights in memory, all of their blocks in P; at most K of each kind. -/
def WA (P : Nat → Prop) (w : World) (b K : Nat) (X : List Nat) : Prop :=
  ∃ v1 m v3 R f Bm, Hd w b v1 m v3 ∧ RowR w v1 R ∧ Pls w m f K ∧ OwnF w 0 v3 Bm ∧ WInv R f Bm X ∧ R.length ≤ K ∧ Bm.length ≤ K ∧ P b ∧ P m ∧ (∀ g, v1.ownBlock = some g → P g) ∧ ∀ g, v3.ownBlock = some g → P g
theorem WA.kept {P : Nat → Prop} {w w' : World} {b K : Nat} {X : List Nat} (h : WA P w b K X) (hg : ∀ k, k < w.heap.size → P k → w'.heap[k]? = w.heap[k]?) : WA P w' b K X := by
  obtain ⟨v1, m, v3, R, f, Bm, h1, h2, h3, h4, h5, h6, h7, h8, h9, h10, h11⟩ := h
  exact ⟨v1, m, v3, R, f, Bm, h1.block (hg b h1.lt h8), row_block h2 (fun g e => hg g (World.ownsRow.lt h2 g e).2 (h10 g e)), h3.block (hg m h3.lt h9), h4.keepB (fun g e => hg g (h4.lt g e).2 (h11 g e)), h5, h6, h7, h8, h9, h10, h11⟩
theorem WA.grown {P : Nat → Prop} {w w' : World} {b K : Nat} {X : List Nat} (h : WA P w b K X) (hg : w.grownBy w' none) : WA P w' b K X := h.kept fun k hk _ => hg.block k hk (by simp)
theorem WA.mono {P Q : Nat → Prop} {w : World} {b K : Nat} {X : List Nat} (h : WA P w b K X) (hPQ : ∀ k, k < w.heap.size → P k → Q k) : WA Q w b K X := by
  obtain ⟨v1, m, v3, R, f, Bm, h1, h2, h3, h4, h5, h6, h7, h8, h9, h10, h11⟩ := h
  exact ⟨v1, m, v3, R, f, Bm, h1, h2, h3, h4, h5, h6, h7, hPQ b h1.lt h8, hPQ m h3.lt h9, fun g e => hPQ g (World.ownsRow.lt h2 g e).2 (h10 g e), fun g e => hPQ g (h4.lt g e).2 (h11 g e)⟩
theorem WA.lt {P : Nat → Prop} {w : World} {b K : Nat} {X : List Nat} (h : WA P w b K X) : b < w.heap.size := by obtain ⟨v1, m, v3, R, f, Bm, h1, _⟩ := h; exact h1.lt
/-- Where an own row lies, no block of another kind lies. -/
theorem row_ne {w : World} {e size : Nat} {v : Value} {n B : Nat} {xs : List Value} {g k : Nat} {o : Obj} (h : w.ownsRow B e size v n xs) (hg : v.ownBlock = some g) (hk : w.heap[k]? = some o) (ho : ∀ cur, o ≠ .cells cur e (0, 0)) : g ≠ k := by
  intro q
  subst q
  rcases h.2 with ⟨rfl, _⟩ | ⟨g', cap, cur, rfl, _, hc, _⟩
  · simp [Value.ownBlock] at hg
  · simp only [Value.ownBlock, Option.some.injEq] at hg
    subst hg
    rw [hc] at hk
    injection hk with hk
    exact ho cur hk.symm
theorem row_ne2 {w : World} {e e' size size' B B' : Nat} {v v' : Value} {n n' : Nat} {xs xs' : List Value} {g : Nat} (h : w.ownsRow B e size v n xs) (h' : w.ownsRow B' e' size' v' n' xs') (hne : e ≠ e') (hg : v.ownBlock = some g) : v'.ownBlock ≠ some g := by
  intro q
  rcases h'.2 with ⟨rfl, _⟩ | ⟨g', cap, cur, rfl, _, hc, _⟩
  · simp [Value.ownBlock] at q
  · simp only [Value.ownBlock, Option.some.injEq] at q
    subst q
    exact row_ne h hg hc (fun cur' q => by injection q with q1 q2 q3; exact hne q2.symm) rfl
end Go.Proofs.Ytfheamemoinfeaa
