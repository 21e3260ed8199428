/- A function's lines: what their loops hold (no statement of its own). -/
import Derived.Test.YteocbgcgfllieaaGreatDoorDfe
namespace Go.Proofs.YteocbgcgfllieaaGreatDoor
open Go.RowKit
set_option linter.unusedVariables false
theorem Own6.gr {W W' : World} {base b : Nat} {v : Value} {l : List Nat} (h : Own6 W base v l) (hg : Gr W W' b) (hb : b < base) : Own6 W' base v l :=
  h.keepB fun g e h1 h2 => hg.block g h1 (fun e => by injection e with e; omega)
theorem OwnL6.keepB {w w' : World} {base : Nat} {v : Value} {l : List (Value × Int)} (h : OwnL6 w base v l) (hk : ∀ g, v.ownBlock = some g → g < w.heap.size → base ≤ g → w'.heap[g]? = w.heap[g]?) : OwnL6 w' base v l := by
  obtain ⟨h1, ⟨rfl, hn⟩ | ⟨g, cap, cur, rfl, hb', hh, hm, hx, hs, ht⟩⟩ := h
  · exact ⟨h1, .inl ⟨rfl, hn⟩⟩
  · exact ⟨h1, .inr ⟨g, cap, cur, rfl, hb', (hk g rfl (Array.getElem?_eq_some_iff.1 hh).1 hb').trans hh, hm, hx, hs, ht⟩⟩
/-- The loop over a tuple's values: x under way at X. -/
structure TpD (wr W : World) (b X : Nat) (s : ByteArray) (sizes acc : List Nat) (v0 : DrV) (E : RdR AccM) (C : List Nat → RdS → RdR AccM) (q : Nat) (tup : List Nat) (tv : Value) (v' : DrV) : Prop where
  x : W.heap[X]? = some (.cells #[tv, .int .i64 0] 134 (0, 0))
  own : Own6 W wr.heap.size tv tup
  gr : Gr wr W b
  rd : DrIn W b s v0 v' E (fun st => (tupleM s.data.toList sizes (acc.drop q) tup st).bind C)
  len : tup.length = q
  cnt : v'.bad = 0 → lenS v'.l ≤ lenS v0.l
  far : wr.heap.size ≤ X ∧ b < wr.heap.size
theorem TpD.keepW {wr W W1 : World} {b X q : Nat} {s : ByteArray} {sizes acc tup : List Nat} {v0 v' : DrV} {E : RdR AccM} {C : List Nat → RdS → RdR AccM} {tv : Value} (h : TpD wr W b X s sizes acc v0 E C q tup tv v') (hg : Gr W W1 b) :
    W1.heap[X]? = some (.cells #[tv, .int .i64 0] 134 (0, 0)) ∧ Own6 W1 wr.heap.size tv tup ∧ Gr wr W1 b := by
  have hf := h.far
  exact ⟨(hg.block X (Array.getElem?_eq_some_iff.1 h.x).1 (fun e => by injection e with e; omega)).trans h.x, h.own.gr hg hf.2, h.gr.trans hg⟩
/-- One value more: W1 behind the number, Wa with it apart, W2 behind the append. -/
theorem TpD.next {wr W W1 Wa W2 : World} {b X q y : Nat} {s : ByteArray} {sizes acc tup : List Nat} {v0 v' v1 : DrV} {E : RdR AccM} {C : List Nat → RdS → RdR AccM} {tv tv' : Value} (h : TpD wr W b X s sizes acc v0 E C q tup tv v') (hg : Gr W W1 b)
    (hi : DrIn W1 b s v0 v1 E (fun st => (tupleM s.data.toList sizes (acc.drop (q + 1)) (tup ++ [y]) st).bind C)) (hc : v1.bad = 0 → lenS v1.l ≤ lenS v0.l) (na : Below W1.heap.size W1 Wa) (hO : Own6 Wa wr.heap.size tv tup) (h1 : Own6 W2 wr.heap.size tv' (tup ++ [y])) (h2 : Wa.grownBy W2 tv.ownBlock) :
    TpD wr (W2.setCell ⟨X, 0, none⟩ tv') b X s sizes acc v0 E C (q + 1) (tup ++ [y]) tv' v1 := by
  obtain ⟨k1, k2, k3⟩ := h.keepW hg
  have hf := h.far
  have hXa := (na.block X (Array.getElem?_eq_some_iff.1 k1).1).trans k1
  have hX2 : W2.heap[X]? = some (.cells #[tv, .int .i64 0] 134 (0, 0)) := (h2.block X (Array.getElem?_eq_some_iff.1 hXa).1 (fun e => by
    obtain ⟨_, _, cur, h3⟩ := hO.obj X e.symm
    rw [hXa] at h3
    injection h3 with h3
    injection h3 with _ h4
    exact absurd h4 (by decide))).trans hXa
  have hX3 := heap_setCell_same W2 X 0 _ _ tv' hX2
  have hgX := grown_put W2 X 0 tv'
  have g2 : Gr wr W2 b := ⟨h2.os.trans (k3.trans (Gr.below na)).os, h2.tape.trans (k3.trans (Gr.below na)).tape, h2.output.trans (k3.trans (Gr.below na)).output, Nat.le_trans (k3.trans (Gr.below na)).size h2.size, fun j hj hne => (h2.block j (Nat.lt_of_lt_of_le hj (k3.trans (Gr.below na)).size) (fun e => by have := (hO.lt j e.symm).1; omega)).trans ((k3.trans (Gr.below na)).block j hj hne)⟩
  refine ⟨hX3, ?_, g2.fresh hgX hf.1, ?_, by rw [List.length_append, h.len]; rfl, hc, hf⟩
  · exact h1.keepB fun g e h5 h6 => hgX.block g h5 (fun e2 => by
      obtain ⟨_, _, cur, h3⟩ := h1.obj g e
      injection e2 with e2
      subst e2
      rw [hX2] at h3
      injection h3 with h3
      injection h3 with _ h4
      exact absurd h4 (by decide))
  · exact ((hi.below na).own6 hO h2).typed (t := 134) hgX (fun g e => by injection e with e; subst e; exact ⟨_, _, hX2⟩) (by decide) (by decide)
theorem xrow {W W' : World} {base X : Nat} {v : Value} {l : List Nat} {cs : Array Value} (ho : Own6 W base v l) (hX : W.heap[X]? = some (.cells cs 134 (0, 0))) (hg : W.grownBy W' v.ownBlock) : W'.heap[X]? = some (.cells cs 134 (0, 0)) :=
  (hg.block X (Array.getElem?_eq_some_iff.1 hX).1 (fun e => by
    obtain ⟨_, _, cur, h3⟩ := ho.obj X e.symm
    rw [hX] at h3
    injection h3 with h3
    injection h3 with _ h4
    exact absurd h4 (by decide))).trans hX
theorem tupleM_drop {l : List UInt8} {sizes acc tup : List Nat} {q : Nat} {s : RdS} (hq : q < acc.length) : tupleM l sizes (acc.drop q) tup s = (numM l 0 ((nth (pickN sizes acc) q : Nat) - 1 : Int) s).bind fun c s' => tupleM l sizes (acc.drop (q + 1)) (tup ++ [c.1.toNat]) s' := by
  rw [List.drop_eq_getElem_cons hq]
  have e : nth (pickN sizes acc) q = sizes.getD acc[q] 0 := by simp [nth, pickN, List.getD, hq]
  rw [e]
  rfl
/-- The loop that looks for a tuple among the lines. -/
structure MtD (wr W : World) (b X : Nat) (s : ByteArray) (tup : List Nat) (tv : Value) (ls : List LineM) (p : Nat) (v0 : DrV) (E : RdR AccM) (C : RdS → RdR AccM) (q : Nat) (v' : DrV) : Prop where
  x : W.heap[X]? = some (.cells #[tv, .int .i64 0] 134 (0, 0))
  own : Own6 W wr.heap.size tv tup
  gr : Gr wr W b
  rd : DrIn W b s v0 v' E (fun st => if ls.any (fun y => y.1 == tup) then .bad 4 p else C st)
  no : v'.bad = 0 → ∀ i y, ls[i]? = some y → i < q → ¬ y.1 = tup
  cnt : v'.bad = 0 → lenS v'.l + 1 ≤ lenS v0.l
  far : wr.heap.size ≤ X ∧ b < wr.heap.size
theorem MtD.gr' {wr W W1 : World} {b X q p : Nat} {s : ByteArray} {tup : List Nat} {v0 v' v1 : DrV} {E : RdR AccM} {C : RdS → RdR AccM} {tv : Value} {ls : List LineM} (h : MtD wr W b X s tup tv ls p v0 E C q v') (hg : Gr W W1 b)
    (hi : DrIn W1 b s v0 v1 E (fun st => if ls.any (fun y => y.1 == tup) then .bad 4 p else C st)) (hn : v1.bad = 0 → ∀ i y, ls[i]? = some y → i < q + 1 → ¬ y.1 = tup) (hc : v1.bad = 0 → lenS v1.l + 1 ≤ lenS v0.l) : MtD wr W1 b X s tup tv ls p v0 E C (q + 1) v1 := by
  have hf := h.far
  exact ⟨(hg.block X (Array.getElem?_eq_some_iff.1 h.x).1 (fun e => by injection e with e; omega)).trans h.x, h.own.gr hg hf.2, h.gr.trans hg, hi, hn, hc, hf⟩
/-- The loop over lines. -/
structure LnG (w W : World) (b G R : Nat) (s : ByteArray) (sizes acc : List Nat) (A1 A2 : Option Addr) (q1 q2 : Nat) (o : Int) (v0 : DrV) (E : RdR AccM) (C : List LineM → RdS → RdR AccM) (N j : Nat) (ls : List LineM) (vs : List (Value × Int)) (lv : Value) (v' : DrV) : Prop where
  f : FG w W b G R (.slice A1 acc.length q1) (.slice A2 acc.length q2) o lv
  two : Two6 W w.heap.size (.slice A1 acc.length q1) (.slice A2 acc.length q2) acc (pickN sizes acc)
  own : OwnL6 W w.heap.size lv vs
  lis : LnD W vs ls
  rd : DrIn W b s v0 v' E (fun st => (linesM s.data.toList sizes acc (N - j) ls st).bind C)
  len : ls.length = j
  cnt : v'.bad = 0 → j + lenS v'.l ≤ 100000
  few : j ≤ 100001
theorem linesM_next {l : List UInt8} {sizes acc : List Nat} {n : Nat} {ls : List LineM} {s : RdS} (hn : 0 < n) : linesM l sizes acc n ls s = (tupleM l sizes acc [] s).bind fun x s' => (numM l 0 4611686018427387904 s').bind fun c s'' =>
      if ls.any (fun y => y.1 == x) then .bad 4 c.2 else linesM l sizes acc (n - 1) (ls ++ [(x, c.1)]) s'' := by
  obtain ⟨m, rfl⟩ : ∃ m, n = m + 1 := ⟨n - 1, by omega⟩
  rfl
theorem OwnL6.form3 {W : World} {base : Nat} {v : Value} {vs : List (Value × Int)} (h : OwnL6 W base v vs) : ∃ A n c, v = .slice A n c := by
  obtain ⟨A, c, e, _⟩ := h.form
  exact ⟨A, _, c, e⟩
theorem fgl {w Wx Wa W2 : World} {b G R : Nat} {sv zv lv : Value} {o : Int} {vs : List (Value × Int)} (h : FG w Wx b G R sv zv o lv) (na : Below Wx.heap.size Wx Wa) (ho : OwnL6 Wa w.heap.size lv vs) (h2 : Wa.grownBy W2 lv.ownBlock) : W2.frozen? ⟨G, 3, none⟩ = false ∧ W2.cell? ⟨G, 3, none⟩ = some lv := by
  have f2 : FG w W2 b G R sv zv o lv := (h.below na).own (t := 134) h2 (fun g e => by obtain ⟨k1, _, cur, k2⟩ := ho.obj g e; exact ⟨k1, cur, _, k2⟩) (by decide)
  exact ⟨f2.frozen 3, f2.cells.2.2.2⟩
/-- A round's end: Wx with the line at X, Wa with its copy, W2 behind the append. -/
theorem LnG.next {w wr Wx Wa W2 : World} {b G R q1 q2 N j n' c' : Nat} {s : ByteArray} {sizes acc tup : List Nat} {A1 A2 A' : Option Addr} {o c : Int} {v0 v' v1 : DrV} {E : RdR AccM} {C : List LineM → RdS → RdR AccM} {ls : List LineM} {vs : List (Value × Int)} {lv lv' : Value}
    (h : LnG w wr b G R s sizes acc A1 A2 q1 q2 o v0 E C N j ls vs lv v') (hg : Gr wr Wx b) (hO : Own6 Wx wr.heap.size (.slice A' n' c') tup) (hi : DrIn Wx b s v0 v1 E (fun st => (linesM s.data.toList sizes acc (N - (j + 1)) (ls ++ [(tup, c)]) st).bind C)) (hc : v1.bad = 0 → j + 1 + lenS v1.l ≤ 100000) (hj : j ≤ 100000)
    (na : Below Wx.heap.size Wx Wa) (ho : OwnL6 Wa w.heap.size lv vs) (h1 : OwnL6 W2 w.heap.size lv' (vs ++ [(.slice A' n' c', c)])) (h2 : Wa.grownBy W2 lv.ownBlock) :
    LnG w (W2.setCell ⟨G, 3, none⟩ lv') b G R s sizes acc A1 A2 q1 q2 o v0 E C N (j + 1) (ls ++ [(tup, c)]) (vs ++ [(.slice A' n' c', c)]) lv' v1 := by
  have hA := h.rd.at_
  have hf := h.f.far
  have fa : FG w Wa b G R (.slice A1 acc.length q1) (.slice A2 acc.length q2) o lv := (h.f.gr hg).below na
  have f2 : FG w W2 b G R (.slice A1 acc.length q1) (.slice A2 acc.length q2) o lv := fa.own (t := 134) h2 (fun g e => by obtain ⟨k1, _, cur, k2⟩ := ho.obj g e; exact ⟨k1, cur, _, k2⟩) (by decide)
  have hgG := grown_put W2 G 3 lv'
  have tyL : ∀ g, lv.ownBlock = some g → ∃ cur fr, Wa.heap[g]? = some (.cells cur 134 fr) := fun g e => by obtain ⟨_, _, cur, k2⟩ := ho.obj g e; exact ⟨cur, _, k2⟩
  have tyG : ∀ g, some G = some g → ∃ cur fr, W2.heap[g]? = some (.cells cur 91 fr) := fun g e => by injection e with e; subst e; exact ⟨_, _, f2.g⟩
  have tyB : ∀ g, some b = some g → ∃ cur fr, wr.heap[g]? = some (.cells cur 82 fr) := fun g e => by injection e with e; subst e; exact ⟨_, _, hA⟩
  have keyI : ∀ (g : Nat) (cur : Array Value) (fr : Nat × Nat), wr.heap[g]? = some (.cells cur 2 fr) → (W2.setCell ⟨G, 3, none⟩ lv').heap[g]? = wr.heap[g]? := fun g cur fr e => by
    have e1 := (KeepD.dr hA hg).ints g cur fr e
    have e2 := (KeepD.below na).ints g cur fr (e1.trans e)
    have e3 : W2.heap[g]? = Wa.heap[g]? := h2.block g (Array.getElem?_eq_some_iff.1 (e2.trans (e1.trans e))).1 (fun e4 => by
      obtain ⟨cur', fr', k⟩ := tyL g e4.symm
      rw [e2.trans (e1.trans e)] at k
      injection k with k
      injection k with _ k
      exact absurd k (by decide))
    have e5 := (keep_fun f2.g hgG).ints g cur fr (e3.trans (e2.trans (e1.trans e)))
    exact e5.trans (e3.trans (e2.trans e1))
  have keyX : ∀ (g : Nat) (cur : Array Value) (fr : Nat × Nat), Wx.heap[g]? = some (.cells cur 2 fr) → (W2.setCell ⟨G, 3, none⟩ lv').heap[g]? = Wx.heap[g]? := fun g cur fr e => by
    have e2 := (KeepD.below na).ints g cur fr e
    have e3 : W2.heap[g]? = Wa.heap[g]? := h2.block g (Array.getElem?_eq_some_iff.1 (e2.trans e)).1 (fun e4 => by
      obtain ⟨cur', fr', k⟩ := tyL g e4.symm
      rw [e2.trans e] at k
      injection k with k
      injection k with _ k
      exact absurd k (by decide))
    have e5 := (keep_fun f2.g hgG).ints g cur fr (e3.trans (e2.trans e))
    exact e5.trans (e3.trans e2)
  obtain ⟨hl, hcap, hI⟩ := hO.viewN
  refine ⟨f2.put 3 lv' rfl, ?_, ?_, ?_, ?_, by rw [List.length_append, h.len]; rfl, hc, by omega⟩
  · exact (((h.two.keep hg tyB (by decide)).below na).keep h2 tyL (by decide)).keep hgG tyG (by decide)
  · exact h1.keepB fun g e h5 h6 => hgG.block g h5 (fun e2 => by
      obtain ⟨_, _, cur, k⟩ := h1.obj g e
      obtain ⟨cur', fr', k'⟩ := tyG g e2.symm
      rw [k] at k'
      injection k' with k'
      injection k' with _ k'
      exact absurd k' (by decide))
  · have := (h.lis.keepG keyI).snoc (ct := c') (x := (tup, c)) (hI.keepG keyX)
    rw [show ((tup, c) : LineM).1.length = n' from hl] at this
    exact this
  · exact ((hi.below na).typed (t := 134) h2 tyL (by decide) (by decide)).typed hgG tyG (by decide) (by decide)
end Go.Proofs.YteocbgcgfllieaaGreatDoor
