/- What the loop of Undo holds (no statement of its own). -/
import Derived.Test.YtafcecacldafgaaTrR
namespace Go.Proofs.Ytafcecacldafgaa
open Go.RowKit Go.Shelf
open Go.Maps (Keyed)
set_option linter.unusedVariables false
attribute [local go_sem] Oper.semAt_some
def Tr.putK (T : Tr) (k : Tri) : Tr := T.put k.2.2.toNat (k.1, k.2.1)
def backT (l : List Tri) (T : Tr) (pre : List (Place l)) : Tr := pre.foldl (fun T x => T.putK (nth3 l x.val)) T
theorem backT_snoc (l : List Tri) (T : Tr) (pre : List (Place l)) (x : Place l) : backT l T (pre ++ [x]) = (backT l T pre).putK (nth3 l x.val) := by simp [backT]
/-- What was kept, put back, the last one first. -/
def Tr.back (T : Tr) (l : List Tri) : Tr := l.foldr (fun k T => T.putK k) T
theorem drop_snoc (l : List Tri) (m : Nat) (h : m + 1 ≤ l.length) : l.drop (l.length - 1 - m) = nth3 l (l.length - 1 - m) :: l.drop (l.length - m) := by
  rw [List.drop_eq_getElem_cons (by omega)]
  congr 1
  · unfold nth3; rw [List.getD_eq_getElem?_getD, List.getElem?_eq_getElem (by omega)]; rfl
  · congr 1; omega
theorem back_last (l : List Tri) (T : Tr) : ∀ (m : Nat) (h : m ≤ l.length), backT l T (lastPlaces l m h) = T.back (l.drop (l.length - m))
  | 0, _ => by simp [lastPlaces, backT, Tr.back]
  | m + 1, h => by
    rw [lastPlaces, backT_snoc, back_last l T m (by omega), show l.length - (m + 1) = l.length - 1 - m by omega, drop_snoc l m h]
    rfl
theorem back_all (l : List Tri) (T : Tr) : backT l T (lastPlaces l l.length (Nat.le_refl _)) = T.back l := by rw [back_last]; simp
theorem putK_same (T : Tr) (k : Tri) : (T.putK k).marks = T.marks ∧ (T.putK k).kept = T.kept ∧ (T.putK k).era = T.era ∧ (T.putK k).size = T.size := ⟨rfl, rfl, rfl, rfl⟩
theorem backT_same (l : List Tri) (T : Tr) (pre : List (Place l)) : (backT l T pre).marks = T.marks ∧ (backT l T pre).kept = T.kept ∧ (backT l T pre).era = T.era ∧ (backT l T pre).size = T.size := by
  unfold backT
  induction pre generalizing T with
  | nil => exact ⟨rfl, rfl, rfl, rfl⟩
  | cons x pre ih => exact ih (T.putK (nth3 l x.val))
/-- Back to mark m. -/
def Tr.undo (T : Tr) (m : Nat) : Tr :=
  { T.back (T.kept.drop (nth3 T.marks m).2.2.toNat) with marks := T.marks.take m, kept := T.kept.take (nth3 T.marks m).2.2.toNat }.shrink (nth3 T.marks m).2.1.toNat
theorem trs_of {w : World} {g c k : Nat} {l : List Tri} (h : RowK w (.slice (some ⟨g, 0, none⟩) l.length c) l) (hk : k ≤ l.length) : Trs w (some ⟨g, k * 3, none⟩) (l.drop k) := by
  intro i hi
  rw [List.length_drop] at hi
  have e : nth3 (l.drop k) i = nth3 l (k + i) := by unfold nth3; simp [List.getD_eq_getElem?_getD]
  rw [e]
  refine ⟨g, k * 3, rfl, ?_, ?_, ?_⟩
  · rw [show k * 3 + i * 3 = (k + i) * 3 by omega]; exact h.at0 (k + i) (by omega)
  · rw [show k * 3 + i * 3 + 1 = (k + i) * 3 + 1 by omega]; exact h.at1 (k + i) (by omega)
  · rw [show k * 3 + i * 3 + 2 = (k + i) * 3 + 2 by omega]; exact h.at2 (k + i) (by omega)
/-- The trail's blocks, and what is new. -/
def Few (w : World) (b m : Nat) (v1 v2 v3 : Value) (k : Nat) : Prop := k = b ∨ k = m ∨ v1.ownBlock = some k ∨ v2.ownBlock = some k ∨ v3.ownBlock = some k ∨ w.heap.size ≤ k
theorem Parts.few {P : Nat → Prop} {w : World} {b m : Nat} {v1 v2 v3 : Value} {l1 : List Cl} {l2 l3 : List Tri} (h : Parts P w b m v1 v2 v3 l1 l2 l3) : Parts (Few w b m v1 v2 v3) w b m v1 v2 v3 l1 l2 l3 :=
  ⟨h.r1, h.r2, h.r3, h.e, .inl rfl, .inr (.inl rfl), fun g hg => .inr (.inr (.inl hg)), fun g hg => .inr (.inr (.inr (.inl hg))), fun g hg => .inr (.inr (.inr (.inr (.inl hg))))⟩
theorem Parts.all {P : Nat → Prop} {w : World} {b m : Nat} {v1 v2 v3 : Value} {l1 : List Cl} {l2 l3 : List Tri} (h : Parts P w b m v1 v2 v3 l1 l2 l3) (hP : ∀ k, w.heap.size ≤ k → P k) : ∀ k, Few w b m v1 v2 v3 k → P k := by
  rintro k (rfl | rfl | q | q | q | q)
  · exact h.pb
  · exact h.pm
  · exact h.p1 k q
  · exact h.p2 k q
  · exact h.p3 k q
  · exact hP k q
theorem Parts.weak {P R : Nat → Prop} {w : World} {b m : Nat} {v1 v2 v3 : Value} {l1 : List Cl} {l2 l3 : List Tri} (h : Parts P w b m v1 v2 v3 l1 l2 l3) (hPR : ∀ k, P k → R k) : Parts R w b m v1 v2 v3 l1 l2 l3 :=
  ⟨h.r1, h.r2, h.r3, h.e, hPR _ h.pb, hPR _ h.pm, fun g hg => hPR _ (h.p1 g hg), fun g hg => hPR _ (h.p2 g hg), fun g hg => hPR _ (h.p3 g hg)⟩
theorem Kp.weak {P R : Nat → Prop} {w w' : World} (h : Kp P w w') (hPR : ∀ k, P k → R k) : Kp R w w' := h.mono fun k _ q => hPR k q
theorem Parts.low {P R : Nat → Prop} {w : World} {b m sz era : Nat} {v1 v2 v3 : Value} {l1 : List Cl} {l2 l3 : List Tri} (h : Parts P w b m v1 v2 v3 l1 l2 l3) (h1 : Hd w b sz era v1 v2 v3 m) (hPR : ∀ k, k < w.heap.size → P k → R k) : Parts R w b m v1 v2 v3 l1 l2 l3 :=
  ⟨h.r1, h.r2, h.r3, h.e, hPR _ h1.lt h.pb, hPR _ h.e.lt h.pm, fun g hg => hPR _ (World.ownsRow.lt h.r1 g hg).2 (h.p1 g hg), fun g hg => hPR _ (World.ownsRow.lt h.r2 g hg).2 (h.p2 g hg), fun g hg => hPR _ (World.ownsRow.lt h.r3 g hg).2 (h.p3 g hg)⟩
theorem same2_put {B b : Nat} {g : Option Nat} {W : World} {l : Nat} {o' : Obj} (hb : b < B) (hg : ∀ k, g = some k → k < B) (hl : B ≤ l) : Same2 b g W (W.putObj l o') :=
  ⟨by simp [World.putObj], World.putObj_heap_other (by omega), fun k hk => World.putObj_heap_other (by have := hg k hk; omega)⟩
/-- Of the trail's blocks none but the map is no cells. -/
theorem few_cells {P : Nat → Prop} {w : World} {b m sz era : Nat} {v1 v2 v3 : Value} {l1 : List Cl} {l2 l3 : List Tri} (h1 : Hd w b sz era v1 v2 v3 m) (h : Parts P w b m v1 v2 v3 l1 l2 l3) {k : Nat} {o : Obj} (hf : Few w b m v1 v2 v3 k) (hk : w.heap[k]? = some o) (ho : o.isCells = false) : k = m := by
  have hlt : k < w.heap.size := (Array.getElem?_eq_some_iff.1 hk).1
  have hrow : ∀ {e size : Nat} {v : Value} {n : Nat} {xs : List Value}, w.ownsRow 0 e size v n xs → v.ownBlock = some k → False := by
    intro e size v n xs hr hv
    rcases hr.2 with ⟨rfl, _⟩ | ⟨g', cap, cur, rfl, _, hc, _⟩
    · simp [Value.ownBlock] at hv
    · simp only [Value.ownBlock, Option.some.injEq] at hv
      subst hv
      rw [hc] at hk
      injection hk with hk
      subst hk
      cases ho
  rcases hf with rfl | rfl | q | q | q | q
  · have h1' : w.heap[k]? = some _ := h1
    rw [h1'] at hk
    injection hk with hk
    subst hk
    cases ho
  · rfl
  · exact (hrow h.r1 q).elim
  · exact (hrow h.r2 q).elim
  · exact (hrow h.r3 q).elim
  · omega
/-- What the loop of Undo holds: the trail, and two variables' cells. -/
structure UndoI (P : Nat → Prop) (w : World) (b m x1 x2 : Nat) (y : Tri) (v2 v3 : Value) (T : Tr) (W : World) : Prop where
  ta : ∃ v1, Hd W b T.size T.era v1 v2 v3 m ∧ Parts P W b m v1 v2 v3 T.fs T.marks T.kept
  kp : Kp P w W
  box1 : W.heap[x1]? = some (.cells #[.pointer (some ⟨b, 0, none⟩)] 24 (0, 0))
  box2 : W.heap[x2]? = some (.cells #[.int .i64 y.1, .int .i64 y.2.1, .int .i64 y.2.2] 63 (0, 0))
  lt : w.heap.size + 3 ≤ W.heap.size
theorem row_far {W : World} {e size : Nat} {v : Value} {n : Nat} {xs : List Value} {r : Nat} {o : Obj} (h : W.ownsRow 0 e size v n xs) (hr : W.heap[r]? = some o) (ho : o.isCells = false) : v.ownBlock = none ∨ v.ownBlock ≠ some r :=
  row_not h hr (fun cur q => by rw [q] at ho; cases ho)
theorem undoI_turn {P : Nat → Prop} {w : World} {b m x1 x2 : Nat} {y : Tri} {v2 v3 : Value} {T : Tr} {B : Nat} {W W' : World} {row : Option Nat} (h : UndoI P w b m x1 x2 y v2 v3 T W) (hg : W.grownBy W' row)
    (hr : ∀ r, row = some r → B ≤ r ∧ ∃ o : Obj, W.heap[r]? = some o ∧ o.isCells = false) (hm : m < B) (hw : w.heap.size ≤ B) : UndoI P w b m x1 x2 y v2 v3 T W' := by
  obtain ⟨⟨v1, h1, h2⟩, h3, h4, h5, h6⟩ := h
  have h7 := Nat.le_trans h6 hg.size
  cases row with
  | none =>
    exact ⟨⟨v1, h1.kept hg (by simp), h2.grown hg⟩, h3.trans (Kp.none hg), (hg.block _ (Array.getElem?_eq_some_iff.1 h4).1 (by simp)).trans h4, (hg.block _ (Array.getElem?_eq_some_iff.1 h5).1 (by simp)).trans h5, h7⟩
  | some r =>
    obtain ⟨hB, o, ho, hc⟩ := hr r rfl
    have hne : ∀ (k : Nat) (cs : Array Value) (t : TypeId), W.heap[k]? = some (.cells cs t (0, 0)) → (some k : Option Nat) ≠ some r := fun k cs t hk q => by
      injection q with q
      subst q
      rw [ho] at hk
      injection hk with hk
      subst hk
      cases hc
    refine ⟨⟨v1, h1.kept hg (hne _ _ _ h1), h2.kept hg (row_far h2.r1 ho hc) (row_far h2.r2 ho hc) (row_far h2.r3 ho hc) (by simp; omega)⟩, ⟨hg.os.trans h3.os, hg.tape.trans h3.tape, hg.output.trans h3.output, Nat.le_trans h3.size hg.size, fun k hk hp => (hg.block k (Nat.lt_of_lt_of_le hk h3.size) (by simp; omega)).trans (h3.block k hk hp)⟩, (hg.block _ (Array.getElem?_eq_some_iff.1 h4).1 (hne _ _ _ h4)).trans h4, (hg.block _ (Array.getElem?_eq_some_iff.1 h5).1 (hne _ _ _ h5)).trans h5, h7⟩
/-- What the drawn region of Undo reads of the variables. -/
abbrev HoldV (b s sz : Nat) (kp : Int) (W : World) : Prop :=
  W.cell? ⟨s, 0, none⟩ = some (.pointer (some ⟨b, 0, none⟩)) ∧ W.cell? ⟨s + 1, 1, none⟩ = some (.int .i64 (sz : Int)) ∧ W.cell? ⟨s + 1, 2, none⟩ = some (.int .i64 kp)
theorem HoldV.kept {b s sz : Nat} {kp : Int} {W W' : World} (h : HoldV b s sz kp W) (hg : W.grownBy W' (some b)) (hb : b < s) : HoldV b s sz kp W' :=
  ⟨hg.cell h.1 (by simp; omega), hg.cell h.2.1 (by simp; omega), hg.cell h.2.2 (by simp; omega)⟩
theorem back_same (T : Tr) (l : List Tri) : (T.back l).marks = T.marks ∧ (T.back l).kept = T.kept ∧ (T.back l).era = T.era ∧ (T.back l).size = T.size := by
  unfold Tr.back
  induction l with
  | nil => exact ⟨rfl, rfl, rfl, rfl⟩
  | cons x l ih => exact ih
theorem TA.puts {P : Nat → Prop} {W : World} {b D : Nat} {T : Tr} (h : TA P W b T) (hD : ¬ P D) (o : Obj) : TA P (W.putObj D o) b T :=
  h.kept ⟨rfl, rfl, rfl, by simp, fun k hk hn => World.putObj_heap_other (fun e => hn (fun q => hD (e ▸ q)))⟩
theorem Kp.puts {P : Nat → Prop} {w W : World} {D : Nat} (h : Kp P w W) (hP : ∀ k, w.heap.size ≤ k → P k) (hD : w.heap.size ≤ D) (o : Obj) : Kp P w (W.putObj D o) :=
  ⟨h.os, h.tape, h.output, by simpa using h.size, fun k hk hn => (World.putObj_heap_other (by omega)).trans (h.block k hk hn)⟩
theorem Kp.at {P : Nat → Prop} {W W' : World} (h : Kp P W W') {D : Nat} {o : Obj} (hk : W.heap[D]? = some o) (hD : ¬ P D) : W'.heap[D]? = some o :=
  (h.block D (Array.getElem?_eq_some_iff.1 hk).1 hD).trans hk
end Go.Proofs.Ytafcecacldafgaa
