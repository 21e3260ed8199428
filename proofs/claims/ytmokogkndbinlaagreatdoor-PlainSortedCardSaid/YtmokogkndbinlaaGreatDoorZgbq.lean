import Derived.Test.YtmokogkndbinlaaGreatDoorZgbp
set_option linter.all false
namespace Go.Proofs.YtmokogkndbinlaaGreatDoor
open Go.Lib (hid)
open Go.RowKit
theorem Own6.gr {W W' : World} {base b : Nat} {v : Value} {l : List Nat} (h : Own6 W base v l) (hg : Gr W W' b) (hb : b < base) : Own6 W' base v l :=
 h.keepB fun g e h1 h2 => hg.block g h1 (fun e => by injection e with e; omega)
theorem OwnL6.keepB {w w' : World} {base : Nat} {v : Value} {l : List (Value × Int)} (h : OwnL6 w base v l) (hk : ∀ g, v.ownBlock = some g → g < w.heap.size → base ≤ g → w'.heap[g]? = w.heap[g]?) : OwnL6 w' base v l := by
 obtain ⟨h1, ⟨rfl, hn⟩ | ⟨g, cap, cur, rfl, hb', hh, hm, hx, hs, ht⟩⟩ := h
 ·exact ⟨h1, .inl ⟨rfl, hn⟩⟩
 exact ⟨h1, .inr ⟨g, cap, cur, rfl, hb', (hk g rfl (Array.getElem?_eq_some_iff.1 hh).1 hb').trans hh, hm, hx, hs, ht⟩⟩
structure TpD (wr W : World) (b X : Nat) (s : ByteArray) (sizes acc : List Nat) (v0 : DrV) (E : RdR AccM) (C : List Nat → RdS → RdR AccM) (q : Nat) (tup : List Nat) (tv : Value) (v' : DrV) : Prop where
 x : W.heap[X]? = some (.cells #[tv, .int .i64 0] 117 (0, 0))
 own : Own6 W wr.heap.size tv tup
 gr : Gr wr W b
 rd : DrIn W b s v0 v' E (fun st => (tupleM s.data.toList sizes (acc.drop q) tup st).bind C)
 len : tup.length = q
 cnt : v'.bad = 0 → lenS v'.l ≤ lenS v0.l
 far : wr.heap.size ≤ X ∧ b < wr.heap.size
theorem TpD.keepW {wr W W1 : World} {b X q : Nat} {s : ByteArray} {sizes acc tup : List Nat} {v0 v' : DrV} {E : RdR AccM} {C : List Nat → RdS → RdR AccM} {tv : Value} (h : TpD wr W b X s sizes acc v0 E C q tup tv v') (hg : Gr W W1 b) :
  W1.heap[X]? = some (.cells #[tv, .int .i64 0] 117 (0, 0)) ∧ Own6 W1 wr.heap.size tv tup ∧ Gr wr W1 b := by
 have hf := h.far
 exact ⟨(hg.block X (Array.getElem?_eq_some_iff.1 h.x).1 (fun e => by injection e with e; omega)).trans h.x, h.own.gr hg hf.2, h.gr.trans hg⟩
theorem TpD.next {wr W W1 Wa W2 : World} {b X q y : Nat} {s : ByteArray} {sizes acc tup : List Nat} {v0 v' v1 : DrV} {E : RdR AccM} {C : List Nat → RdS → RdR AccM} {tv tv' : Value} (h : TpD wr W b X s sizes acc v0 E C q tup tv v') (hg : Gr W W1 b)
  (hi : DrIn W1 b s v0 v1 E (fun st => (tupleM s.data.toList sizes (acc.drop (q + 1)) (tup ++ [y]) st).bind C)) (hc : v1.bad = 0 → lenS v1.l ≤ lenS v0.l) (na : Below W1.heap.size W1 Wa) (hO : Own6 Wa wr.heap.size tv tup) (h1 : Own6 W2 wr.heap.size tv' (tup ++ [y])) (h2 : Wa.grownBy W2 tv.ownBlock) :
  TpD wr (W2.setCell ⟨X, 0, none⟩ tv') b X s sizes acc v0 E C (q + 1) (tup ++ [y]) tv' v1 := by
 obtain ⟨k1, k2, k3⟩ := h.keepW hg
 have hf := h.far
 have hXa := (na.block X (Array.getElem?_eq_some_iff.1 k1).1).trans k1
 have hX2 : W2.heap[X]? = some (.cells #[tv, .int .i64 0] 117 (0, 0)) := (h2.block X (Array.getElem?_eq_some_iff.1 hXa).1 (fun e => by
  obtain ⟨_, _, cur, h3⟩ := hO.obj X e.symm
  rw [hXa] at h3
  injection h3 with h3
  injection h3 with _ h4
  exact absurd h4 (by decide))).trans hXa
 have hX3 := heap_setCell_same W2 X 0 _ _ tv' hX2
 have hgX := grown_put W2 X 0 tv'
 have g2 : Gr wr W2 b := ⟨h2.os.trans (k3.trans (Gr.below na)).os, h2.tape.trans (k3.trans (Gr.below na)).tape, h2.output.trans (k3.trans (Gr.below na)).output, Nat.le_trans (k3.trans (Gr.below na)).size h2.size, fun j hj hne => (h2.block j (Nat.lt_of_lt_of_le hj (k3.trans (Gr.below na)).size) (fun e => by have := (hO.lt j e.symm).1; omega)).trans ((k3.trans (Gr.below na)).block j hj hne)⟩
 refine ⟨hX3, ?_, g2.fresh hgX hf.1, ?_, by rw [List.length_append, h.len]; rfl, hc, hf⟩
 rotate_left
 ·exact ((hi.below na).own6 hO h2).typed (t := 117) hgX (fun g e => by injection e with e; subst e; exact ⟨_, _, hX2⟩) (by decide) (by decide)
 exact h1.keepB fun g e h5 h6 => hgX.block g h5 (fun e2 => by
  obtain ⟨_, _, cur, h3⟩ := h1.obj g e
  injection e2 with e2
  subst e2
  rw [hX2] at h3
  injection h3 with h3
  injection h3 with _ h4
  exact absurd h4 (by decide))
theorem xrow {W W' : World} {base X : Nat} {v : Value} {l : List Nat} {cs : Array Value} (ho : Own6 W base v l) (hX : W.heap[X]? = some (.cells cs 117 (0, 0))) (hg : W.grownBy W' v.ownBlock) : W'.heap[X]? = some (.cells cs 117 (0, 0)) :=
 (hg.block X (Array.getElem?_eq_some_iff.1 hX).1 (fun e => by
  obtain ⟨_, _, cur, h3⟩ := ho.obj X e.symm
  rw [hX] at h3
  injection h3 with h3
  injection h3 with _ h4
  exact absurd h4 (by decide))).trans hX
theorem tupleM_drop {l : List UInt8} {sizes acc tup : List Nat} {q : Nat} {s : RdS} (hq : q < acc.length) : tupleM l sizes (acc.drop q) tup s = (numM l 0 ((nth (pickN sizes acc) q : Nat) - 1 : Int) s).bind fun c s' => tupleM l sizes (acc.drop (q + 1)) (tup ++ [c.1.toNat]) s' := by
 rw [List.drop_eq_getElem_cons hq]
 have e : nth (pickN sizes acc) q = sizes.getD acc[q] 0 := by simp [nth, pickN, List.getD, hq]
 rw [e]
 rfl
structure MtD (wr W : World) (b X : Nat) (s : ByteArray) (tup : List Nat) (tv : Value) (ls : List LineM) (p : Nat) (v0 : DrV) (E : RdR AccM) (C : RdS → RdR AccM) (q : Nat) (v' : DrV) : Prop where
 x : W.heap[X]? = some (.cells #[tv, .int .i64 0] 117 (0, 0))
 own : Own6 W wr.heap.size tv tup
 gr : Gr wr W b
 rd : DrIn W b s v0 v' E (fun st => if ls.any (fun y => y.1 == tup) then .bad 4 p else C st)
 no : v'.bad = 0 → ∀ i y, ls[i]? = some y → i < q → ¬ y.1 = tup
 cnt : v'.bad = 0 → lenS v'.l + 1 ≤ lenS v0.l
 far : wr.heap.size ≤ X ∧ b < wr.heap.size
theorem MtD.gr' {wr W W1 : World} {b X q p : Nat} {s : ByteArray} {tup : List Nat} {v0 v' v1 : DrV} {E : RdR AccM} {C : RdS → RdR AccM} {tv : Value} {ls : List LineM} (h : MtD wr W b X s tup tv ls p v0 E C q v') (hg : Gr W W1 b)
  (hi : DrIn W1 b s v0 v1 E (fun st => if ls.any (fun y => y.1 == tup) then .bad 4 p else C st)) (hn : v1.bad = 0 → ∀ i y, ls[i]? = some y → i < q + 1 → ¬ y.1 = tup) (hc : v1.bad = 0 → lenS v1.l + 1 ≤ lenS v0.l) : MtD wr W1 b X s tup tv ls p v0 E C (q + 1) v1 := by
 have hf := h.far
 exact ⟨(hg.block X (Array.getElem?_eq_some_iff.1 h.x).1 (fun e => by injection e with e; omega)).trans h.x, h.own.gr hg hf.2, h.gr.trans hg, hi, hn, hc, hf⟩
structure LnG (w W : World) (b G R : Nat) (s : ByteArray) (sizes acc : List Nat) (A1 A2 : Option Addr) (q1 q2 : Nat) (o : Int) (v0 : DrV) (E : RdR AccM) (C : List LineM → RdS → RdR AccM) (N j : Nat) (ls : List LineM) (vs : List (Value × Int)) (lv : Value) (v' : DrV) : Prop where
 f : FG w W b G R (.slice A1 acc.length q1) (.slice A2 acc.length q2) o lv
 two : Two6 W w.heap.size (.slice A1 acc.length q1) (.slice A2 acc.length q2) acc (pickN sizes acc)
 own : OwnL6 W w.heap.size lv vs
 lis : LnD W vs ls
 rd : DrIn W b s v0 v' E (fun st => (linesM s.data.toList sizes acc (N - j) ls st).bind C)
 len : ls.length = j
 cnt : v'.bad = 0 → j + lenS v'.l ≤ 100000
 few : j ≤ 100001
theorem linesM_next {l : List UInt8} {sizes acc : List Nat} {n : Nat} {ls : List LineM} {s : RdS} (hn : 0 < n) : linesM l sizes acc n ls s = (tupleM l sizes acc [] s).bind fun x s' => (numM l 0 4611686018427387904 s').bind fun c s'' =>
   if ls.any (fun y => y.1 == x) then .bad 4 c.2 else linesM l sizes acc (n - 1) (ls ++ [(x, c.1)]) s'' := by
 obtain ⟨m, rfl⟩ : ∃ m, n = m + 1 := ⟨n - 1, by omega⟩
 rfl
theorem OwnL6.form3 {W : World} {base : Nat} {v : Value} {vs : List (Value × Int)} (h : OwnL6 W base v vs) : ∃ A n c, v = .slice A n c := by
 obtain ⟨A, c, e, _⟩ := h.form
 exact ⟨A, _, c, e⟩
theorem fgl {w Wx Wa W2 : World} {b G R : Nat} {sv zv lv : Value} {o : Int} {vs : List (Value × Int)} (h : FG w Wx b G R sv zv o lv) (na : Below Wx.heap.size Wx Wa) (ho : OwnL6 Wa w.heap.size lv vs) (h2 : Wa.grownBy W2 lv.ownBlock) : W2.frozen? ⟨G, 3, none⟩ = false ∧ W2.cell? ⟨G, 3, none⟩ = some lv := by
 have f2 : FG w W2 b G R sv zv o lv := (h.below na).own (t := 117) h2 (fun g e => by obtain ⟨k1, _, cur, k2⟩ := ho.obj g e; exact ⟨k1, cur, _, k2⟩) (by decide)
 exact ⟨f2.frozen 3, f2.cells.2.2.2⟩
theorem LnG.next {w wr Wx Wa W2 : World} {b G R q1 q2 N j n' c' : Nat} {s : ByteArray} {sizes acc tup : List Nat} {A1 A2 A' : Option Addr} {o c : Int} {v0 v' v1 : DrV} {E : RdR AccM} {C : List LineM → RdS → RdR AccM} {ls : List LineM} {vs : List (Value × Int)} {lv lv' : Value}
  (h : LnG w wr b G R s sizes acc A1 A2 q1 q2 o v0 E C N j ls vs lv v') (hg : Gr wr Wx b) (hO : Own6 Wx wr.heap.size (.slice A' n' c') tup) (hi : DrIn Wx b s v0 v1 E (fun st => (linesM s.data.toList sizes acc (N - (j + 1)) (ls ++ [(tup, c)]) st).bind C)) (hc : v1.bad = 0 → j + 1 + lenS v1.l ≤ 100000) (hj : j ≤ 100000)
  (na : Below Wx.heap.size Wx Wa) (ho : OwnL6 Wa w.heap.size lv vs) (h1 : OwnL6 W2 w.heap.size lv' (vs ++ [(.slice A' n' c', c)])) (h2 : Wa.grownBy W2 lv.ownBlock) :
  LnG w (W2.setCell ⟨G, 3, none⟩ lv') b G R s sizes acc A1 A2 q1 q2 o v0 E C N (j + 1) (ls ++ [(tup, c)]) (vs ++ [(.slice A' n' c', c)]) lv' v1 := by
 have hA := h.rd.at_
 have hf := h.f.far
 have fa : FG w Wa b G R (.slice A1 acc.length q1) (.slice A2 acc.length q2) o lv := (h.f.gr hg).below na
 have f2 : FG w W2 b G R (.slice A1 acc.length q1) (.slice A2 acc.length q2) o lv := fa.own (t := 117) h2 (fun g e => by obtain ⟨k1, _, cur, k2⟩ := ho.obj g e; exact ⟨k1, cur, _, k2⟩) (by decide)
 have hgG := grown_put W2 G 3 lv'
 have tyL : ∀ g, lv.ownBlock = some g → ∃ cur fr, Wa.heap[g]? = some (.cells cur 117 fr) := fun g e => by obtain ⟨_, _, cur, k2⟩ := ho.obj g e; exact ⟨cur, _, k2⟩
 have tyG : ∀ g, some G = some g → ∃ cur fr, W2.heap[g]? = some (.cells cur 40 fr) := fun g e => by injection e with e; subst e; exact ⟨_, _, f2.g⟩
 have tyB : ∀ g, some b = some g → ∃ cur fr, wr.heap[g]? = some (.cells cur 171 fr) := fun g e => by injection e with e; subst e; exact ⟨_, _, hA⟩
 have keyI : ∀ (g : Nat) (cur : Array Value) (fr : Nat × Nat), wr.heap[g]? = some (.cells cur 2 fr) → (W2.setCell ⟨G, 3, none⟩ lv').heap[g]? = wr.heap[g]? := fun g cur fr e => by
  have e1 := (KeepD.dr hA hg).ints g cur fr e
  have e2 := (KeepD.below na).ints g cur fr (e1.trans e)
  have e3 : W2.heap[g]? = Wa.heap[g]? := h2.block g (Array.getElem?_eq_some_iff.1 (e2.trans (e1.trans e))).1 (fun e4 => by
   obtain ⟨cur', fr', k⟩ := tyL g e4.symm
   rw [e2.trans (e1.trans e)] at k
   injection k with k
   injection k with _ k
   exact absurd k (by decide))
  have e5 := (keep_fun f2.g hgG).ints g cur fr (e3.trans (e2.trans (e1.trans e)))
  exact e5.trans (e3.trans (e2.trans e1))
 have keyX : ∀ (g : Nat) (cur : Array Value) (fr : Nat × Nat), Wx.heap[g]? = some (.cells cur 2 fr) → (W2.setCell ⟨G, 3, none⟩ lv').heap[g]? = Wx.heap[g]? := fun g cur fr e => by
  have e2 := (KeepD.below na).ints g cur fr e
  have e3 : W2.heap[g]? = Wa.heap[g]? := h2.block g (Array.getElem?_eq_some_iff.1 (e2.trans e)).1 (fun e4 => by
   obtain ⟨cur', fr', k⟩ := tyL g e4.symm
   rw [e2.trans e] at k
   injection k with k
   injection k with _ k
   exact absurd k (by decide))
  have e5 := (keep_fun f2.g hgG).ints g cur fr (e3.trans (e2.trans e))
  exact e5.trans (e3.trans e2)
 obtain ⟨hl, hcap, hI⟩ := hO.viewN
 refine ⟨f2.put 3 lv' rfl, ?_, ?_, ?_, ?_, by rw [List.length_append, h.len]; rfl, hc, by omega⟩
 ·exact (((h.two.keep hg tyB (by decide)).below na).keep h2 tyL (by decide)).keep hgG tyG (by decide)
 ·exact h1.keepB fun g e h5 h6 => hgG.block g h5 (fun e2 => by
   obtain ⟨_, _, cur, k⟩ := h1.obj g e
   obtain ⟨cur', fr', k'⟩ := tyG g e2.symm
   rw [k] at k'
   injection k' with k'
   injection k' with _ k'
   exact absurd k' (by decide))
 ·have := (h.lis.keepG keyI).snoc (ct := c') (x := (tup, c)) (hI.keepG keyX)
  rw [show ((tup, c) : LineM).1.length = n' from hl] at this
  exact this
 exact ((hi.below na).typed (t := 117) h2 tyL (by decide) (by decide)).typed hgG tyG (by decide) (by decide)
theorem word7 {β : Type} {W : World} {b : Nat} {s : ByteArray} {v v' : DrV} {E : RdR β} {C : Nat × Nat → RdS → RdR β} (h : DrIn W b s v v' E (fun st => (wordM s.data.toList st).bind C)) :
  Calls Tryz.prog 111 #[.pointer (some ⟨b, 0, none⟩)] W fun e w' => ∃ f t p v'', e = .returned (.agg #[.string (s.extract f t), .int .i64 ((p : Nat) : Int)]) ∧ (s.extract f t).size ≤ 100000 ∧ ((v''.bad = 0 ∧ p = f ∧ (s.extract f t).size = t - f) ∨ ¬ v''.bad = 0) ∧ Gr W w' b ∧ DrIn w' b s v v'' E (C (f, t)) := by
 have hsz : ∀ f t, s.size ≤ 100000 → (s.extract f t).size ≤ 100000 := fun f t h => by rw [ByteArray.size_extract]; omega
 obtain ⟨hn, ⟨st, ho, hE⟩ | ⟨e, p, hb, hE⟩⟩ := h
 rotate_left
 ·refine (word7_still b e p v' W hb).mono ?_
  rintro e' w' ⟨rfl, hB⟩
  have ha : DrAt w' b v' := (hB.block b hb.at_.lt).trans hb.at_
  exact ⟨0, 0, 0, v', by rw [extract_none]; rfl, (by rw [extract_none]; decide), .inr hb.bad, Gr.below hB, hn, .inr ⟨e, p, hb.keepAt ha rfl rfl, hE⟩⟩
 dsimp only at hE
 have hle : st.k ≤ s.data.toList.length := by rw [size_list]; exact ho.le
 rcases wordsL_cases hle with ⟨h1, h2⟩ | ⟨f, t, h1, h2, h3⟩
 ·have hw := ho.words
  rw [h1] at hw
  have hf := ho.fin
  rcases h2 with ⟨h2, h3⟩ | ⟨t, h2, h3⟩
  ·rw [h3] at hf
   obtain ⟨e1, e2⟩ := hf
   refine (word7_none b s v' W ho.at_ ho.fine hw).mono ?_
   rintro e' w' ⟨rfl, ha, hg⟩
   refine ⟨0, 0, 0, { v' with bad := v'.ee, badAt := v'.en }, by rw [extract_none]; rfl, hsz _ _ ho.fits, .inr (by show ¬ v'.ee = 0; omega), hg, hn.trans ⟨rfl, rfl⟩, .inr ⟨4, s.size, ⟨ha, by show v'.ee = _; omega, by show v'.en = _; omega, by decide⟩, ?_⟩⟩
   rw [hE]
   unfold wordM
   rw [h2]
   simp only [RdR.bind_bad]
   rw [size_list]
  rw [h3] at hf
  obtain ⟨e1, e2⟩ := hf
  refine (word7_none b s v' W ho.at_ ho.fine hw).mono ?_
  rintro e' w' ⟨rfl, ha, hg⟩
  refine ⟨0, 0, 0, { v' with bad := v'.ee, badAt := v'.en }, by rw [extract_none]; rfl, hsz _ _ ho.fits, .inr (by show ¬ v'.ee = 0; omega), hg, hn.trans ⟨rfl, rfl⟩, .inr ⟨11, t, ⟨ha, by show v'.ee = _; omega, by show v'.en = _; omega, by decide⟩, ?_⟩⟩
  rw [hE]
  unfold wordM
  rw [h2]
  rfl
 have hw := ho.words
 rw [h2] at hw
 have hsw := stepW_word hle h1
 rw [size_list] at hsw
 obtain ⟨lv, hwl, WD⟩ := word7_some b s v' W (f, t) _ ho.at_ ho.fine hw
 refine WD.mono ?_
 rintro e' w' ⟨rfl, ha, hg⟩
 refine ⟨f, t, f, { v' with l := lv }, rfl, hsz _ _ ho.fits, .inl ⟨ho.fine, rfl, by rw [ByteArray.size_extract]; omega⟩, hg, hn.trans ⟨rfl, rfl⟩, .inl ⟨⟨t, st.big⟩, ⟨ha, ho.fine, hsw.2.2.1, ho.fits, ho.big, hwl.keep (KeepD.dr ho.at_ hg), ?_⟩, ?_⟩⟩
 ·have := ho.fin
  rw [h3] at this
  exact this
 rw [hE]
 unfold wordM
 rw [h1]
 rfl
theorem OwnW.wl {W : World} {base b : Nat} {v : Value} {s : ByteArray} {ws : List (Nat × Nat)} (h : OwnW W base v s ws) (hb : ∀ g, v.ownBlock = some g → g ≠ b) : WL W b v s ws := by
 have h0 := h
 obtain ⟨hl, ⟨rfl, hn⟩ | ⟨g, cap, cur, rfl, hb', hh, hm, hcm, hs, ht⟩⟩ := h
 ·have : ws = [] := List.eq_nil_of_length_eq_zero hn
  subst this
  exact ⟨none, 0, rfl, Nat.le_refl _, .inl rfl⟩
 refine ⟨_, cap, rfl, hm, .inr ⟨g, 0, cur, (0, 0), rfl, hh, hb g rfl, fun j x hx => ?_⟩⟩
 have hj : j < ws.length := (List.getElem?_eq_some_iff.1 hx).1
 have hxe : ws[j] = x := (List.getElem?_eq_some_iff.1 hx).2
 obtain ⟨A, c, e, hf⟩ := h0.form
 injection e with e1 e2 e3
 obtain ⟨g', e4, _, _, k1, k2, _⟩ := hf j hj
 rw [← e1] at e4
 injection e4 with e4
 injection e4 with e5
 subst e5
 rw [hxe] at k1 k2
 simp only [Nat.zero_add]
 exact ⟨k1, k2⟩
def FileD (W : World) (fb base : Nat) (s : ByteArray) (F : FileM) : Prop :=
 ∃ Az cz fv us, W.heap[fb]? = some (.cells #[.string (s.extract F.name.1 F.name.2), .int .i64 F.top, .slice Az F.sizes.length cz, fv] 37 (0, 0)) ∧ F.sizes.length ≤ cz ∧ I6 W Az F.sizes ∧ OwnFd W base fv us ∧ FdIs W F.sizes us F.funs
theorem DrIn.convB {β : Type} {W : World} {b : Nat} {s : ByteArray} {v v' : DrV} {E : RdR β} {C C' : RdS → RdR β} (h : DrIn W b s v v' E C) (hC : v'.bad = 0 → ∀ st, C st = C' st) : DrIn W b s v v' E C' := by
 refine ⟨h.1, ?_⟩
 rcases h.2 with ⟨st, h1, h2⟩ | h
 ·exact .inl ⟨st, h1, h2.trans (hC h1.fine st)⟩
 exact .inr h
theorem dec_nat (a n : Nat) : decide ((a : Int) < (n : Int)) = decide (a < n) := by
 by_cases h : a < n
 ·rw [decide_eq_true h, decide_eq_true (by omega)]
 rw [decide_eq_false h, decide_eq_false (by omega)]
theorem drIn_few7 {β : Type} {W : World} {b : Nat} {s : ByteArray} {v v' : DrV} {E : RdR β} {C : RdS → RdR β} (h : DrIn W b s v v' E C) (hf : v'.bad = 0) : lenS v'.l ≤ 100000 := by
 rcases h.2 with ⟨st, h1, h2⟩ | ⟨e, p, h1, _⟩
 ·exact h1.lenS.2
 exact absurd hf h1.bad
theorem Own6.dr {W W' : World} {b base : Nat} {u : Value} {l : List Nat} {v : DrV} (h : Own6 W base u l) (ha : DrAt W b v) (hg : Gr W W' b) : Own6 W' base u l :=
 h.keepB fun g e h1 _ => hg.block g h1 (fun e2 => by
  obtain ⟨_, _, cur, h3⟩ := h.obj g e
  injection e2 with e2
  subst e2
  have ha' : W.heap[g]? = some (.cells (drC v) 171 (0, 0)) := ha
  rw [ha'] at h3
  injection h3 with h3
  injection h3 with _ h4
  exact absurd h4 (by decide))
structure RS (w W : World) (b fb : Nat) (nm kv sz fv : Value) : Prop where
 row : W.heap[fb]? = some (.cells #[nm, kv, sz, fv] 37 (0, 0))
 bel : Below w.heap.size w W
 far : w.heap.size ≤ b ∧ b < fb
theorem RS.gr {w W W' : World} {b fb : Nat} {nm kv sz fv : Value} (h : RS w W b fb nm kv sz fv) (hg : Gr W W' b) : RS w W' b fb nm kv sz fv :=
 ⟨(hg.block fb (Array.getElem?_eq_some_iff.1 h.row).1 (fun e => by injection e with e; have := h.far; omega)).trans h.row, below_grown h.bel hg (Nat.le_refl _) h.far.1, h.far⟩
theorem RS.below {w W W' : World} {b fb : Nat} {nm kv sz fv : Value} (h : RS w W b fb nm kv sz fv) (hb : Below W.heap.size W W') : RS w W' b fb nm kv sz fv :=
 ⟨(hb.block fb (Array.getElem?_eq_some_iff.1 h.row).1).trans h.row, then_ h.bel hb, h.far⟩
theorem RS.cells {w W : World} {b fb : Nat} {nm kv sz fv : Value} (h : RS w W b fb nm kv sz fv) : W.cell? ⟨fb, 0, none⟩ = some nm ∧ W.cell? ⟨fb, 1, none⟩ = some kv ∧ W.cell? ⟨fb, 2, none⟩ = some sz ∧ W.cell? ⟨fb, 3, none⟩ = some fv := by
 refine ⟨?_, ?_, ?_, ?_⟩ <;> (rw [cell_of_row _ _ _ _ _ _ h.row]; rfl)
theorem RS.frozen {w W : World} {b fb : Nat} {nm kv sz fv : Value} (h : RS w W b fb nm kv sz fv) (i : Nat) : W.frozen? ⟨fb, i, none⟩ = false := frozen_of_row _ _ _ _ _ h.row
theorem RS.put {w W : World} {b fb : Nat} {nm kv sz fv nm' kv' sz' fv' : Value} (h : RS w W b fb nm kv sz fv) (i : Nat) (u : Value) (e : (#[nm, kv, sz, fv] : Array Value).setIfInBounds i u = #[nm', kv', sz', fv']) : RS w (W.setCell ⟨fb, i, none⟩ u) b fb nm' kv' sz' fv' := by
 have h1 := heap_setCell_same W fb i _ _ u h.row
 rw [e] at h1
 exact ⟨h1, below_grown h.bel (grown_put W fb i u) (Nat.le_refl _) (by have := h.far; omega), h.far⟩
theorem DrIn.file {β : Type} {w W : World} {b fb i : Nat} {nm kv sz fv u : Value} {s : ByteArray} {v v' : DrV} {E : RdR β} {C : RdS → RdR β} (h : DrIn W b s v v' E C) (hf : RS w W b fb nm kv sz fv) : DrIn (W.setCell ⟨fb, i, none⟩ u) b s v v' E C :=
 h.typed (t := 37) (grown_put W fb i u) (fun g e => by injection e with e; subst e; exact ⟨_, _, hf.row⟩) (by decide) (by decide)
theorem sizesM_next {l : List UInt8} {g : Int} {n : Nat} {acc : List Nat} {s : RdS} (hn : 0 < n) : sizesM l g n acc s = (numM l 1 g s).bind fun v s' => sizesM l g (n - 1) (acc ++ [v.1.toNat]) (limS (decide (32 < v.1)) v.2 s') := by
 obtain ⟨m, rfl⟩ : ∃ m, n = m + 1 := ⟨n - 1, by omega⟩
 rfl
structure SzD (w W : World) (b fb : Nat) (nm kv : Value) (s : ByteArray) (g : Int) (N : Nat) (v0 : DrV) (E : RdR FileM) (C : List Nat → RdS → RdR FileM) (j : Nat) (acc : List Nat) (szv : Value) (v' : DrV) : Prop where
 f : RS w W b fb nm kv szv (.slice none 0 0)
 own : Own6 W w.heap.size szv acc
 rd : DrIn W b s v0 v' E (fun st => (sizesM s.data.toList g (N - j) acc st).bind C)
 len : acc.length = j
 cnt : v'.bad = 0 → j + lenS v'.l ≤ 100000
 few : j ≤ 100001
 small : ∀ x ∈ acc, x ≤ 4611686018427387904
theorem SzD.next {w W W1 Wa W2 : World} {b fb N j y : Nat} {nm kv szv szv' : Value} {s : ByteArray} {g : Int} {v0 v' v1 : DrV} {E : RdR FileM} {C : List Nat → RdS → RdR FileM} {acc : List Nat} (h : SzD w W b fb nm kv s g N v0 E C j acc szv v') (hg : Gr W W1 b)
  (hi : DrIn W1 b s v0 v1 E (fun st => (sizesM s.data.toList g (N - (j + 1)) (acc ++ [y]) st).bind C)) (hc : v1.bad = 0 → j + 1 + lenS v1.l ≤ 100000) (hj : j ≤ 100000) (hy : y ≤ 4611686018427387904) (na : Below W1.heap.size W1 Wa) (hO : Own6 Wa w.heap.size szv acc) (h1 : Own6 W2 w.heap.size szv' (acc ++ [y])) (h2 : Wa.grownBy W2 szv.ownBlock) :
  SzD w (W2.setCell ⟨fb, 2, none⟩ szv') b fb nm kv s g N v0 E C (j + 1) (acc ++ [y]) szv' v1 := by
 have fa := (h.f.gr hg).below na
 have hfl := fa.far
 have f2 : RS w W2 b fb nm kv szv (.slice none 0 0) := by
  refine ⟨(h2.block fb (Array.getElem?_eq_some_iff.1 fa.row).1 (fun e => by
   obtain ⟨_, _, cur, h3⟩ := hO.obj fb e.symm
   rw [fa.row] at h3
   injection h3 with h3
   injection h3 with _ h4
   exact absurd h4 (by decide))).trans fa.row, ?_, fa.far⟩
  exact ⟨h2.os.trans fa.bel.os, h2.tape.trans fa.bel.tape, h2.output.trans fa.bel.output, Nat.le_trans fa.bel.size h2.size, fun k hk => (h2.block k (Nat.lt_of_lt_of_le hk fa.bel.size) (fun e => by have := (hO.lt k e.symm).1; omega)).trans (fa.bel.block k hk)⟩
 have hgF := grown_put W2 fb 2 szv'
 refine ⟨f2.put 2 szv' rfl, ?_, ?_, by rw [List.length_append, h.len]; rfl, hc, by omega, fun x hx => ?_⟩
 ·exact h1.keepB fun g e h5 h6 => hgF.block g h5 (fun e2 => by
   obtain ⟨_, _, cur, h3⟩ := h1.obj g e
   injection e2 with e2
   subst e2
   rw [f2.row] at h3
   injection h3 with h3
   injection h3 with _ h4
   exact absurd h4 (by decide))
 ·exact ((hi.below na).own6 hO h2).file f2
 rcases List.mem_append.1 hx with hx | hx
 ·exact h.small x hx
 simp at hx
 rw [hx]
 exact hy
theorem frow {W W' : World} {base X : Nat} {v : Value} {l : List Nat} {cs : Array Value} (ho : Own6 W base v l) (hX : W.heap[X]? = some (.cells cs 37 (0, 0))) (hg : W.grownBy W' v.ownBlock) : W'.heap[X]? = some (.cells cs 37 (0, 0)) :=
 (hg.block X (Array.getElem?_eq_some_iff.1 hX).1 (fun e => by
  obtain ⟨_, _, cur, h3⟩ := ho.obj X e.symm
  rw [hX] at h3
  injection h3 with h3
  injection h3 with _ h4
  exact absurd h4 (by decide))).trans hX
def ReadRes7 (s : ByteArray) (w : World) (r : RdR FileM) (e : Ending) (w' : World) : Prop :=
 match r with
 | .bad n p => e = .returned (.tuple #[.pointer none, .int .i64 (p : Int), .int .i64 (n : Int)])
 | .ok F st => match st.big with
  | some p => e = .returned (.tuple #[.pointer none, .int .i64 (p : Int), .int .i64 5])
  | none => ∃ fb, e = .returned (.tuple #[.pointer (some ⟨fb, 0, none⟩), .int .i64 (s.size : Int), .int .i64 0]) ∧ FileD w' fb w.heap.size s F ∧ w.heap.size ≤ fb
def ReadPost7 (s : ByteArray) (w : World) (e : Ending) (w' : World) : Prop := ReadRes7 s w (fileM s.data.toList 1) e w' ∧ Below w.heap.size w w'
end Go.Proofs.YtmokogkndbinlaaGreatDoor
