/- Lemmas of a law's loop over all tuples (no statement of its own). -/
import Derived.Test.YtcfendilaogjlaaShQ
import Derived.Test.YtcfendilaogjlaaShM
import Derived.Test.YtcfendilaogjlaaCarry
import Derived.Laws.ResultCell
import Derived.Test.YtcfendilaogjlaaQrd
namespace Go.Proofs.Ytcfendilaogjlaa
open Go.RowKit Go.Shelf
set_option linter.unusedVariables false
attribute [local go_sem] Oper.semAt_some
def lastT (l : List Nat) (k : Nat) : List Nat := if k = 0 then [] else tupL l (k - 1)
/-- Between two rounds of the law's loop. -/
structure CI (w : World) (R gs gl B0 : Nat) (A : Option Addr) (c : Nat) (l : List Nat) (pre : List (Nat × Value)) (W : World) : Prop where
  res : Boxed W R 4 (.bool false)
  siz : Boxed W gs 24 (.slice A l.length c)
  ints : Ints W A l
  last : ∃ v, Boxed W gl 24 v ∧ Own W B0 v (lastT l pre.length)
  below : Below w.heap.size w W
theorem ints_from {β : Type} (B : Nat) (A : Option Addr) (l : List Nat) : OwnFrom B (fun (_ : β) W => Ints W A l) := by
  intro s X Y row hs hg hr
  rcases hs with h | ⟨g, o, rfl, hlt, hc⟩
  · exact .inl h
  · exact .inr ⟨g, o, rfl, Nat.lt_of_lt_of_le hlt hg.size, fun i hi => cell_kept (hc i hi) hg (fun r e => (hr r e).2)⟩
theorem ci_from {w : World} {R gs gl B0 : Nat} {A : Option Addr} {c : Nat} {l : List Nat} {B : Nat} (hB : w.heap.size ≤ B) : OwnFrom B (fun pre W => CI w R gs gl B0 A c l pre W) := by
  intro s X Y row hs hg hr
  refine ⟨Own.from (boxed_own R _ (fun _ : Unit => _)) B () X Y row hs.res hg hr, Own.from (boxed_own gs _ (fun _ : Unit => _)) B () X Y row hs.siz hg hr, ints_from B A l () X Y row hs.ints hg hr, ?_, ownFrom_below (Nat.le_refl _) hB () X Y row hs.below hg hr⟩
  obtain ⟨v, h1, h2⟩ := hs.last
  obtain ⟨v', h3, h4, _⟩ := Own.from (holdsRow_own B0 gl 24 3 1 (fun _ : Unit => (lastT l s.length).length) (fun _ => intC (lastT l s.length)) (fun _ _ => True)) B () X Y row ⟨v, h1, h2, trivial⟩ hg hr
  exact ⟨v', h3, h4⟩
theorem ints_set {W : World} {A : Option Addr} {l : List Nat} {g n c : Nat} {a : Option Addr} {t : TypeId} (h : Ints W A l) (hb : Boxed W g t (.slice a n c)) (u : Value) : Ints (W.setCell ⟨g, 0, none⟩ u) A l := by
  rcases h with h | ⟨g', o, rfl, hlt, hc⟩
  · exact .inl h
  · by_cases e : g' = g
    · subst e
      rcases Nat.eq_zero_or_pos l.length with h0 | h0
      · exact .inl (List.eq_nil_of_length_eq_zero h0)
      · have h1 := hc 0 h0
        rw [Nat.add_zero, cell_of_row _ _ _ _ _ _ hb] at h1
        rcases o with _ | o
        · simp at h1
        · simp at h1
    · exact .inr ⟨g', o, rfl, by simpa [World.setCell] using hlt, fun i hi => by rw [World.cell?_setCell_other _ _ _ _ (by intro e'; injection e'; omega)]; exact hc i hi⟩
theorem keep1_set {W : World} {b g : Nat} (h : b ≠ g) (i : Nat) (u : Value) : Keep1 b W (W.setCell ⟨g, i, none⟩ u) := ⟨by simp [World.setCell], Below.heap_setCell W ⟨g, i, none⟩ u b h⟩
theorem lastT_snoc (l : List Nat) (pre : List (Nat × Value)) (x : Nat × Value) : lastT l (pre ++ [x]).length = tupL l pre.length := by
  unfold lastT
  rw [List.length_append, if_neg (by simp)]
  rfl
theorem ci_fin {w W W' W2 : World} {R gs gl B0 b n' c' c : Nat} {A a : Option Addr} {l : List Nat} {pre : List (Nat × Value)} {cv : Value} (x : Nat × Value) (hK : KeepsFrom B0 W W') (hk : Keep1 b W W')
    (hres : Boxed W' R 4 (.bool false)) (hsiz : Boxed W' gs 24 (.slice A l.length c)) (hints : Ints W' A l) (hbox : Boxed W' gl 24 (.slice a n' c')) (hbelow : Below w.heap.size w W')
    (hb : Below W'.heap.size W' W2) (hO : Own W2 W'.heap.size cv (tupL l pre.length)) (d1 : R ≠ gl) (d2 : gs ≠ gl) (d3 : b ≠ gl) (hgl : w.heap.size ≤ gl) (hB : B0 ≤ W'.heap.size) (hbl : b < W'.heap.size) :
    KeepsFrom B0 W (W2.setCell ⟨gl, 0, none⟩ cv) ∧ Keep1 b W (W2.setCell ⟨gl, 0, none⟩ cv) ∧ CI w R gs gl B0 A c l (pre ++ [x]) (W2.setCell ⟨gl, 0, none⟩ cv) := by
  have hgg : W'.grownBy W2 none := ⟨hb.os, hb.tape, hb.output, hb.size, fun k hk _ => hb.block k hk⟩
  have k1 : KeepsFrom B0 W' W2 := KeepsFrom.of_grownBy hgg (fun j e => by cases e)
  have bx2 := (hb.block gl hbox.lt).trans hbox
  refine ⟨(hK.trans k1).trans ((KeepsOthers.setCell _ _ _).from _), (hk.trans (Keep1.of_below hb hbl)).trans (keep1_set d3 0 cv), ?_⟩
  refine ⟨Boxed.other ((hb.block R hres.lt).trans hres) d1 cv, Boxed.other ((hb.block gs hsiz.lt).trans hsiz) d2 cv, ints_set (hints.below hb (Nat.le_refl _)) bx2 cv, ⟨cv, Boxed.set cv bx2, ?_⟩, (then_ hbelow hb).setCell (p := ⟨gl, 0, none⟩) hgl _⟩
  rw [lastT_snoc]
  exact (Own.less (ownsRow_setCell_below hO (show (⟨gl, 0, none⟩ : Addr).block < W'.heap.size from hbox.lt) cv) hB)
theorem box_below {W W' : World} {b : Nat} {t : TypeId} {v : Value} (h : Boxed W b t v) (hb : Below W.heap.size W W') : Boxed W' b t v := (hb.block b h.lt).trans h
theorem clone_any' (A : Option Addr) (n c : Nat) (l : List Nat) (w : World) (hn : n = l.length) (hl : l.length ≤ 1000000) (hw : Ints w A l) :
    Calls Try.prog 19 #[.slice A n c] w fun e w' => (∃ v, e = .returned v ∧ Own w' w.heap.size v l) ∧ Below w.heap.size w w' := by
  subst hn
  exact clone_any A c l w hl hw
theorem ints_grown {X Y : World} {g : Nat} {A : Option Addr} {l : List Nat} (h : Ints X A l) (hg : X.grownBy Y (some g)) (hne : ∀ a : Addr, A = some a → a.block ≠ g) : Ints Y A l := by
  rcases h with h | ⟨g', o, rfl, hlt, hc⟩
  · exact .inl h
  · exact .inr ⟨g', o, rfl, Nat.lt_of_lt_of_le hlt hg.size, fun i hi => World.grownBy.cell hg (hc i hi) (fun e => hne _ rfl (by injection e))⟩
theorem below_grown {w X Y : World} {B g : Nat} (h : Below B w X) (hg : X.grownBy Y (some g)) (hB : B ≤ w.heap.size) (hBg : B ≤ g) : Below B w Y :=
  ⟨hg.os.trans h.os, hg.tape.trans h.tape, hg.output.trans h.output, Nat.le_trans h.size hg.size, fun k hk =>
    (hg.block k (by have := h.size; omega) (fun e => by injection e; omega)).trans (h.block k hk)⟩
theorem keep_grown {X Y : World} {B b g k : Nat} {v : Value} (hg : X.grownBy Y (some g)) (hc : X.cell? ⟨g, k, none⟩ = some v) (hBg : B ≤ g) (hb : b < B) (hX : b < X.heap.size) : KeepsFrom B X Y ∧ Keep1 b X Y :=
  ⟨⟨hg.size, fun j o hB hj ho => by
    by_cases e : j = g
    · subst e
      simp only [World.cell?, hj] at hc
      cases o <;> simp_all [Obj.isCells]
    · exact (hg.block j (Array.getElem?_eq_some_iff.1 hj).1 (fun e' => e (by injection e'))).trans hj⟩, hg.size, hg.block b hX (fun e => by injection e; omega)⟩
theorem grown_drew {X Y : World} {row : Option Nat} (h : X.grownBy Y row) (n : Nat) : X.grownBy (Y.drewN n) row := ⟨h.os, h.tape, h.output, h.size, h.block⟩
end Go.Proofs.Ytcfendilaogjlaa
