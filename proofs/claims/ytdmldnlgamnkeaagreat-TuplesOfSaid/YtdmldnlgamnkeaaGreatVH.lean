/- Texts of this seat laid together (no statement of its own). -/
import Derived.Test.YtdmldnlgamnkeaaGreatVF
import Derived.Test.YtdmldnlgamnkeaaGreatVd
import Derived.Test.YtdmldnlgamnkeaaGreatTbX
namespace Go.Proofs.YtdmldnlgamnkeaaGreat
open Go.RowKit Go.Maps
set_option linter.unusedVariables false
theorem World.setRow_alloc_old (w : World) (c c' : Array Value) (t : TypeId) (o : Obj) : ((w.alloc (.cells c t)).alloc o).setRow w.heap.size c' = (w.alloc (.cells c' t)).alloc o := by
  simp only [World.setRow, World.alloc]
  congr 1
  apply Array.ext_getElem?
  intro i
  rw [Array.getElem?_modify]
  by_cases h : w.heap.size = i
  · subst h
    simp [Array.getElem?_push]
  · have h' : ¬ i = w.heap.size := fun e => h e.symm
    simp [h, h', Array.getElem?_push]
/-- The blocks of a map and of anything else are two. -/
theorem map_not {w : World} {P : Program} {k : TypeId} {R : Value → Option (DataW Unit × List MemPlace)} {b n g : Nat} {D : DataW Unit} (h : w.ownsMap P k R b n D) {cs : Array Value} {t : TypeId} {fz : Nat × Nat} (hg : w.heap[g]? = some (.cells cs t fz)) : g ≠ b := by
  rintro rfl
  obtain ⟨es, clock, hm, _⟩ := h
  have := hg.symm.trans hm
  simp at this
theorem ints_not {w : World} {P : Program} {k : TypeId} {R : Value → Option (DataW Unit × List MemPlace)} {b n : Nat} {D : DataW Unit} (h : w.ownsMap P k R b n D) {A : Option Addr} {l : List Nat} (hi : Ints w A l) (hl : l ≠ []) : ∀ a : Addr, A = some a → a.block ≠ b := by
  rintro a rfl rfl
  rcases hi with h0 | ⟨g', o', e, hlt, hc⟩
  · exact hl h0
  · injection e with e
    subst e
    obtain ⟨es, clock, hm, _⟩ := h
    have := hc 0 (by rcases l with _ | ⟨x, l⟩; exact absurd rfl hl; simp)
    simp [World.cell?, hm] at this
theorem ints_far {w w' : World} {P : Program} {k : TypeId} {R : Value → Option (DataW Unit × List MemPlace)} {b n : Nat} {D : DataW Unit} (h : w.ownsMap P k R b n D) {A : Option Addr} {l : List Nat} (hi : Ints w A l) (hg : w.grownBy w' (some b)) : Ints w' A l := by
  by_cases hl : l = []
  · exact .inl hl
  · exact ints_grown hi hg (ints_not h hi hl)
/-- Tuples stay as they are where another map is written to. -/
theorem TpAt.other {w w' : World} {g b N c g' b' N' c' : Nat} {A A' : Option Addr} {l l' : List Nat} {k o k' o' : Int} {f f' : List Nat → Int} (H : TpAt w g b A c N l k o f) (H' : TpAt w g' b' A' c' N' l' k' o' f') (hb : b ≠ b') (hg : w.grownBy w' (some b')) : TpAt w' g b A c N l k o f := by
  obtain ⟨D', hm', _⟩ := H'.map
  obtain ⟨D, hm, hr⟩ := H.map
  exact ⟨(hg.block g (Array.getElem?_eq_some_iff.1 H.row).1 (fun e => map_not hm' H.row (by injection e))).trans H.row, ints_far hm' H.ints hg, H.cap, D, hm.kept hg (fun e => hb (by injection e)), hr⟩
/-- The document's table lies in memory: its sizes and top at bx, its costs at gc. -/
structure XAt (W : World) (bx gc n cs cc P : Nat) (As : Option Addr) (l : List Nat) (k : Int) (z : Nat → Int) : Prop where
  row : W.heap[bx]? = some (.cells #[.slice As n cs, .int .i64 k, .slice (some ⟨gc, 0, none⟩) P cc] 29 (0, 0))
  ints : Ints W As l
  costs : ∃ cur, W.heap[gc]? = some (.cells cur 2 (0, 0)) ∧ P ≤ cur.size ∧ ∀ i, i < P → cur[i]? = some (.int .i64 (z i))
theorem XAt.below {w w' : World} {bx gc n cs cc P : Nat} {As : Option Addr} {l : List Nat} {k : Int} {z : Nat → Int} (H : XAt w bx gc n cs cc P As l k z) (hb : Below w.heap.size w w') : XAt w' bx gc n cs cc P As l k z := by
  obtain ⟨cur, hc, h1, h2⟩ := H.costs
  exact ⟨(hb.block _ (Array.getElem?_eq_some_iff.1 H.row).1).trans H.row, H.ints.below hb (Nat.le_refl _), cur, (hb.block _ (Array.getElem?_eq_some_iff.1 hc).1).trans hc, h1, h2⟩
theorem XAt.other {w w' : World} {bx gc n cs cc P : Nat} {As : Option Addr} {l : List Nat} {k : Int} {z : Nat → Int} {g b N c : Nat} {A : Option Addr} {l' : List Nat} {k' o : Int} {f : List Nat → Int} (H : XAt w bx gc n cs cc P As l k z) (H' : TpAt w g b A c N l' k' o f) (hg : w.grownBy w' (some b)) : XAt w' bx gc n cs cc P As l k z := by
  obtain ⟨cur, hc, h1, h2⟩ := H.costs
  obtain ⟨D', hm', _⟩ := H'.map
  exact ⟨(hg.block _ (Array.getElem?_eq_some_iff.1 H.row).1 (fun e => map_not hm' H.row (by injection e))).trans H.row, ints_far hm' H.ints hg, cur, (hg.block _ (Array.getElem?_eq_some_iff.1 hc).1 (fun e => map_not hm' hc (by injection e))).trans hc, h1, h2⟩
theorem XAt.cells {w : World} {bx gc n cs cc P : Nat} {As : Option Addr} {l : List Nat} {k : Int} {z : Nat → Int} (H : XAt w bx gc n cs cc P As l k z) :
    w.cell? ⟨bx, 0, none⟩ = some (.slice As n cs) ∧ w.cell? ⟨bx, 1, none⟩ = some (.int .i64 k) ∧ w.cell? ⟨bx, 2, none⟩ = some (.slice (some ⟨gc, 0, none⟩) P cc) := by
  refine ⟨?_, ?_, ?_⟩ <;> (rw [cell_of_row _ _ _ _ _ _ H.row]; rfl)
theorem XAt.zs {w : World} {bx gc n cs cc P : Nat} {As : Option Addr} {l : List Nat} {k : Int} {z : Nat → Int} (H : XAt w bx gc n cs cc P As l k z) : Zs w (some ⟨gc, 0, none⟩) P z := by
  obtain ⟨cur, hc, h1, h2⟩ := H.costs
  exact .inr ⟨gc, 0, rfl, (Array.getElem?_eq_some_iff.1 hc).1, fun i hi => by rw [Nat.zero_add, cell_of_row _ _ _ _ _ _ hc]; exact h2 i hi⟩
theorem XAt.cost {w : World} {bx gc n cs cc P : Nat} {As : Option Addr} {l : List Nat} {k : Int} {z : Nat → Int} (H : XAt w bx gc n cs cc P As l k z) {i : Nat} (hi : i < P) : w.cell? ⟨gc, i, none⟩ = some (.int .i64 (z i)) := by
  obtain ⟨cur, hc, h1, h2⟩ := H.costs
  rw [cell_of_row _ _ _ _ _ _ hc]
  exact h2 i hi
/-- Tuple by tuple: the first j have the costs z, the others o. -/
def fillF (l : List Nat) (o : Int) (z : Nat → Int) : Nat → List Nat → Int
  | 0 => fun _ => o
  | j + 1 => updF (fillF l o z j) (tupL l j) (z j)
theorem fillF_get {l : List Nat} {o : Int} {z : Nat → Int} : ∀ {j : Nat}, j ≤ prodL l → ∀ i, i < prodL l → fillF l o z j (tupL l i) = if i < j then z i else o
  | 0, _, i, _ => by simp [fillF]
  | j + 1, hj, i, hi => by
    show updF (fillF l o z j) (tupL l j) (z j) (tupL l i) = _
    unfold updF
    by_cases e : i = j
    · subst e
      rw [if_pos rfl, if_pos (by omega)]
    · rw [if_neg (fun h => e (by have := congrArg (numL l) h; rw [num_tup hi, num_tup (show j < prodL l by omega)] at this; exact this)), fillF_get (by omega) i hi]
      by_cases h : i < j
      · rw [if_pos h, if_pos (by omega)]
      · rw [if_neg h, if_neg (by omega)]
theorem fillF_all {l : List Nat} {o : Int} {z : Nat → Int} {i : Nat} (hi : i < prodL l) : fillF l o z (prodL l) (tupL l i) = z i := by
  rw [fillF_get (Nat.le_refl _) i hi, if_pos hi]
theorem fillF_in {l : List Nat} {o k : Int} {z : Nat → Int} (ho : InK o k) (hz : ∀ i, i < prodL l → InK (z i) k) : ∀ t, InL l t → InK (fillF l o z (prodL l) t) k := fun t ht => by
  rw [← ht.tup, fillF_all ht.num_lt]
  exact hz _ ht.num_lt
/-- Filled functions are alike just if all their costs are. -/
theorem fillF_same {l : List Nat} {o o' : Int} {z z' : Nat → Int} (h1 : ∀ n ∈ l, 1 ≤ n) : SameF l (fillF l o z (prodL l)) (fillF l o' z' (prodL l)) ↔ ∀ i, i < prodL l → z i = z' i := by
  constructor
  · intro h i hi
    have := h (tupL l i) (tupL_in h1 i)
    rw [fillF_all hi, fillF_all hi] at this
    exact this
  · intro h t ht
    rw [← ht.tup, fillF_all ht.num_lt, fillF_all ht.num_lt]
    exact h _ ht.num_lt
theorem Zs.congr {w : World} {A : Option Addr} {n : Nat} {z z' : Nat → Int} (H : Zs w A n z) (h : ∀ i, i < n → z i = z' i) : Zs w A n z' := by
  rcases H with h0 | ⟨g, o, e, hlt, hc⟩
  · exact .inl h0
  · exact .inr ⟨g, o, e, hlt, fun i hi => by rw [hc i hi, h i hi]⟩
end Go.Proofs.YtdmldnlgamnkeaaGreat

namespace Go.Proofs.YtdmldnlgamnkeaaGreat
open Go.RowKit Go.Maps
set_option linter.unusedVariables false
theorem eq64_no (A A2 : Option Addr) (n c c2 p : Nat) (z z2 : Nat → Int) (w : World) (hl : n ≤ 1000000) (hw : Zs w A n z) (hw2 : Zs w A2 n z2) (hp : p < n) (hq : ∀ i, i < p → z i = z2 i) (h : z p ≠ z2 p) :
    Calls Tryz.prog 38 #[.slice A n c, .slice A2 n c2] w fun e w' => e = .returned (.bool false) ∧ Below w.heap.size w w' := by
  have HW := Lib.hid hw
  have HW2 := Lib.hid hw2
  have HQ := Lib.hid hq
  have HX := Lib.hid h
  clear hw hw2 hq h
  go_enter Tryz.func38, Tryz.ntmps38
  go_wp2_with fail
  go_loopw [5, 13] (fun _ i wr => ∃ j : Nat, j ≤ p ∧ i = .int .i64 j ∧ Below w.heap.size w wr) (fun _ i _ => n - (intOf i).toNat)
  case atStart => exact ⟨0, Nat.zero_le _, rfl, Below.refl _ _⟩
  case round =>
    obtain ⟨j, hj, rfl, hb⟩ := hrel
    have HB := Lib.hid hb
    clear hb
    have hlt : j < n := by omega
    obtain ⟨g, o, rfl, hcell⟩ := (HW.out.below HB.out (Nat.le_refl _)).at_ hlt
    obtain ⟨g2, o2, rfl, hcell2⟩ := (HW2.out.below HB.out (Nat.le_refl _)).at_ hlt
    have i1 : (j : Int) < (n : Int) := by omega
    have i2 : (0 : Int) ≤ (j : Int) := by omega
    by_cases e : j = p
    · have hx : (z j != z2 j) = true := by rw [e, bne_iff_ne]; exact HX.out
      generalize z j = y at hcell hx
      generalize z2 j = y2 at hcell2 hx
      clear e
      go_wp2_with fail
      go_quiet (fail)
      go_wp2
      go_ret
      exact ⟨rfl, next_drewN HB.out _⟩
    · have hjp : j + 1 ≤ p := by omega
      have hq := HQ.out j (by omega)
      rw [← hq] at hcell2
      generalize z j = y at hcell hcell2
      clear e hq
      go_wp2_with fail
      go_quiet (fail)
      go_wp2
      go_roundw
      case rel => exact ⟨j + 1, by omega, by go_num, next_drewN HB.out _⟩
      case measure => simp [intOf]; omega
/-- Are two lists of costs alike? -/
def SameZ (n : Nat) (z z2 : Nat → Int) : Prop := ∀ i, i < n → z i = z2 i
theorem eq64_any (A A2 : Option Addr) (n c c2 : Nat) (z z2 : Nat → Int) (w : World) (hl : n ≤ 1000000) (hw : Zs w A n z) (hw2 : Zs w A2 n z2) :
    Calls Tryz.prog 38 #[.slice A n c, .slice A2 n c2] w fun e w' => (∃ r : Bool, e = .returned (.bool r) ∧ IsB r (SameZ n z z2)) ∧ Below w.heap.size w w' := by
  rcases first_at (fun i => z i ≠ z2 i) n with h | ⟨p, hp, h1, h2⟩
  · have h' : ∀ i, i < n → z i = z2 i := fun i hi => by have := h i hi; simpa using this
    refine (eq64_yes A A2 n c c2 z w hl hw (hw2.congr fun i hi => (h' i hi).symm)).mono ?_
    rintro e w' ⟨rfl, hb⟩
    exact ⟨⟨true, rfl, fun _ => h', fun _ => rfl⟩, hb⟩
  · refine (eq64_no A A2 n c c2 p z z2 w hl hw hw2 hp (fun i hi => by have := h1 i hi; simpa using this) h2).mono ?_
    rintro e w' ⟨rfl, hb⟩
    exact ⟨⟨false, rfl, fun h => (by cases h), fun h => absurd (h p hp) h2⟩, hb⟩
end Go.Proofs.YtdmldnlgamnkeaaGreat
