import Derived.Test.YtmokogkndbinlaaGreatDoorZgan
set_option linter.all false
namespace Go.Proofs.YtmokogkndbinlaaGreatDoor
open Go.Lib (hid)
open Go.RowKit
theorem own_capX {w : World} {base n c : Nat} {A : Option Addr} {l : List Nat} (h : Own w base (.slice A n c) l) : n ≤ c := by
 obtain ⟨_, ⟨e, hn⟩ | ⟨g, cap, cur, e, _, _, hm, _⟩⟩ := h
 ·injection e with e1 e2 e3
  omega
 injection e with e1 e2 e3
 omega
theorem holdF {W W' : World} {b G ns cs na ca : Nat} {As A : Option Addr} (h : W.cell? ⟨b, 7, none⟩ = some (.slice As ns cs) ∧ W.cell? ⟨G, 0, none⟩ = some (.slice A na ca)) (hb : Below W.heap.size W W') : W'.cell? ⟨b, 7, none⟩ = some (.slice As ns cs) ∧ W'.cell? ⟨G, 0, none⟩ = some (.slice A na ca) :=
 ⟨(hb.cell (p := ⟨b, 7, none⟩) (World.block_lt_of_cell? W _ h.1)).trans h.1, (hb.cell (p := ⟨G, 0, none⟩) (World.block_lt_of_cell? W _ h.2)).trans h.2⟩
theorem holdF_b {W W' : World} {b G ns cs na ca : Nat} {As A : Option Addr} (h : W.cell? ⟨b, 7, none⟩ = some (.slice As ns cs) ∧ W.cell? ⟨G, 0, none⟩ = some (.slice A na ca)) (hg : W.grownBy W' (some b)) (hne : b < G) (h7 : W'.cell? ⟨b, 7, none⟩ = some (.slice As ns cs)) : W'.cell? ⟨b, 7, none⟩ = some (.slice As ns cs) ∧ W'.cell? ⟨G, 0, none⟩ = some (.slice A na ca) :=
 ⟨h7, (World.cell?_of_block (a := ⟨G, 0, none⟩) (hg.block G (World.block_lt_of_cell? W _ h.2) (fun e => by injection e with e; omega))).trans h.2⟩
theorem holdG {W W' : World} {G : Nat} {sv ov lv : Value} (h : W.cell? ⟨G, 0, none⟩ = some sv ∧ W.cell? ⟨G, 1, none⟩ = some ov ∧ W.cell? ⟨G, 2, none⟩ = some lv) (hb : Below W.heap.size W W') : W'.cell? ⟨G, 0, none⟩ = some sv ∧ W'.cell? ⟨G, 1, none⟩ = some ov ∧ W'.cell? ⟨G, 2, none⟩ = some lv := by
 have hl : G < W.heap.size := World.block_lt_of_cell? W ⟨G, 0, none⟩ h.1
 have e := fun i => hb.cell (p := ⟨G, i, none⟩) hl
 exact ⟨(e 0).trans h.1, (e 1).trans h.2.1, (e 2).trans h.2.2⟩
theorem holdG_o {W W' : World} {G : Nat} {sv ov lv : Value} {ob : Option Nat} (h : W.cell? ⟨G, 0, none⟩ = some sv ∧ W.cell? ⟨G, 1, none⟩ = some ov ∧ W.cell? ⟨G, 2, none⟩ = some lv) (hg : W.grownBy W' ob) (hne : ob ≠ some G) (hl : G < W.heap.size) : W'.cell? ⟨G, 0, none⟩ = some sv ∧ W'.cell? ⟨G, 1, none⟩ = some ov ∧ W'.cell? ⟨G, 2, none⟩ = some lv := by
 have e := fun i => World.cell?_of_block (a := ⟨G, i, none⟩) (hg.block G hl (fun e => hne e.symm))
 exact ⟨(e 0).trans h.1, (e 1).trans h.2.1, (e 2).trans h.2.2⟩
theorem holdG_s {W : World} {G b i : Nat} {u : Value} {sv ov lv : Value} (h : W.cell? ⟨G, 0, none⟩ = some sv ∧ W.cell? ⟨G, 1, none⟩ = some ov ∧ W.cell? ⟨G, 2, none⟩ = some lv) (hne : G ≠ b) : (W.setCell ⟨b, i, none⟩ u).cell? ⟨G, 0, none⟩ = some sv ∧ (W.setCell ⟨b, i, none⟩ u).cell? ⟨G, 1, none⟩ = some ov ∧ (W.setCell ⟨b, i, none⟩ u).cell? ⟨G, 2, none⟩ = some lv :=
 holdG_o h (grown_put W b i u) (fun e => hne (Option.some.inj e).symm) (World.block_lt_of_cell? W _ h.1)
structure GSt (w0 W : World) (b sc G R : Nat) (A : Option Addr) (acc : List Nat) (sv : Value) (o : Int) (lv : Value) : Prop where
 g : W.heap[G]? = some (.cells #[sv, .int .i64 o, lv] 202 (0, 0))
 r : W.heap[R]? = some (.cells #[.slice none 0 0, .int .i64 0, .slice none 0 0] 202 (0, 0))
 k : RK w0 b sc W
 acc : IntsT W b sc A acc
 far : w0.heap.size ≤ R ∧ R < G ∧ b < w0.heap.size ∧ sc < w0.heap.size
theorem GSt.rk {w0 W W' : World} {b sc G R : Nat} {A : Option Addr} {acc : List Nat} {sv lv : Value} {o : Int} (h : GSt w0 W b sc G R A acc sv o lv) (hk : RK W b sc W') : GSt w0 W' b sc G R A acc sv o lv := by
 have := h.far
 exact ⟨(hk.block G (Array.getElem?_eq_some_iff.1 h.g).1 (by omega) (by omega)).trans h.g, (hk.block R (Array.getElem?_eq_some_iff.1 h.r).1 (by omega) (by omega)).trans h.r, h.k.trans hk, h.acc.rk hk, h.far⟩
theorem RK.fresh {w0 W W' : World} {b sc G : Nat} (h : RK w0 b sc W) (hg : W.grownBy W' (some G)) (hG : w0.heap.size ≤ G) : RK w0 b sc W' :=
 ⟨hg.os.trans h.os, hg.tape.trans h.tape, hg.output.trans h.output, Nat.le_trans h.size hg.size, fun k h1 h2 h3 => (hg.block k (Nat.lt_of_lt_of_le h1 h.size) (fun e => by injection e with e; omega)).trans (h.block k h1 h2 h3)⟩
theorem keep_g {W W' : World} {b sc G : Nat} {cur : Array Value} {fr : Nat × Nat} (hc : W.heap[G]? = some (.cells cur 202 fr)) (hg : W.grownBy W' (some G)) : KeepT W W' b sc := by
 have key : ∀ (g : Nat) (cur : Array Value) (t : TypeId) (fr : Nat × Nat), W.heap[g]? = some (.cells cur t fr) → t ≠ 202 → W'.heap[g]? = W.heap[g]? := fun g cur' t fr' h ht => by
  refine hg.block g (Array.getElem?_eq_some_iff.1 h).1 (fun e => ?_)
  injection e with e
  subst e
  rw [h] at hc
  injection hc with hc
  injection hc with _ h4
  exact ht h4
 exact ⟨fun g cur fr h _ _ => key g cur _ fr h (by decide), fun g cur fr h _ _ => key g cur _ fr h (by decide)⟩
theorem GSt.o {w0 W : World} {b sc G R : Nat} {A : Option Addr} {acc : List Nat} {sv lv : Value} {o : Int} (h : GSt w0 W b sc G R A acc sv o lv) (x : Int) : GSt w0 (W.setCell ⟨G, 1, none⟩ (.int .i64 x)) b sc G R A acc sv x lv := by
 have hg := grown_put W G 1 (.int .i64 x)
 have := h.far
 exact ⟨heap_setCell_same W G 1 _ _ (.int .i64 x) h.g, (hg.block R (Array.getElem?_eq_some_iff.1 h.r).1 (fun e => by injection e with e; omega)).trans h.r, h.k.fresh hg (by omega), h.acc.keep (keep_g h.g hg).ints, h.far⟩
theorem GSt.l {w0 W : World} {b sc G R : Nat} {A : Option Addr} {acc : List Nat} {sv lv : Value} {o : Int} (h : GSt w0 W b sc G R A acc sv o lv) (x : Value) : GSt w0 (W.setCell ⟨G, 2, none⟩ x) b sc G R A acc sv o x := by
 have hg := grown_put W G 2 x
 have := h.far
 exact ⟨heap_setCell_same W G 2 _ _ x h.g, (hg.block R (Array.getElem?_eq_some_iff.1 h.r).1 (fun e => by injection e with e; omega)).trans h.r, h.k.fresh hg (by omega), h.acc.keep (keep_g h.g hg).ints, h.far⟩
theorem GSt.cells {w0 W : World} {b sc G R : Nat} {A : Option Addr} {acc : List Nat} {sv lv : Value} {o : Int} (h : GSt w0 W b sc G R A acc sv o lv) : W.cell? ⟨G, 0, none⟩ = some sv ∧ W.cell? ⟨G, 1, none⟩ = some (.int .i64 o) ∧ W.cell? ⟨G, 2, none⟩ = some lv := by
 refine ⟨?_, ?_, ?_⟩ <;> (rw [cell_of_row _ _ _ _ _ _ h.g]; rfl)
theorem RdIn.other {β : Type} {W W' : World} {b sc mb : Nat} {s : ByteArray} {v v' : RdV} {E : RdR β} {C : RdS → RdR β} (h : RdIn W b sc s v v' E C) (hg : W.grownBy W' (some mb)) (h1 : b ≠ mb) (h2 : sc ≠ mb) (h3 : 3 ≠ mb) : RdIn W' b sc s v v' E C := by
 refine ⟨h.1, ?_⟩
 rcases h.2 with ⟨st, h, hE⟩ | ⟨e, p, h, hE⟩
 ·exact .inl ⟨st, h.other hg h1 h2 h3, hE⟩
 exact .inr ⟨e, p, h.other hg h1 h3, hE⟩
theorem RdIn.c7 {β : Type} {W : World} {b sc : Nat} {s : ByteArray} {v v' : RdV} {E : RdR β} {C : RdS → RdR β} (h : RdIn W b sc s v v' E C) : W.cell? ⟨b, 7, none⟩ = some v.sizes :=
 (h.at_.cell (i := 7) (u := v'.sizes) rfl).trans (by rw [h.1.same.sizes])
theorem pickN_le {sizes acc : List Nat} {N : Nat} (h : ∀ x ∈ sizes, x ≤ N) : ∀ x ∈ pickN sizes acc, x ≤ N := by
 intro x hx
 obtain ⟨i, _, rfl⟩ := List.mem_map.1 hx
 by_cases hi : i < sizes.length
 ·exact h _ (nth_mem hi)
 rw [List.getD_eq_getElem?_getD, List.getElem?_eq_none (by omega)]
 exact Nat.zero_le _
def LnKnown (s : ByteArray) (b sc : Nat) (k : Int) (W : World) (ls : List LineM) (v4 : RdV) (E : RdR AccM) (C : List LineM × Int → RdS → RdR AccM) : Prop :=
 (∃ a st', ls = topL k a.1 ∧ v4.told = a.2 ∧ RdOk W b sc s st' v4 ∧ E = C a st') ∨ ∃ e p, RdBad W b e p v4 ∧ E = .bad e p
theorem RF.fresh {w0 W W' : World} {b sc G : Nat} {ob : Option Nat} (h : RF w0 b sc ob W) (hg : W.grownBy W' (some G)) (hG : w0.heap.size ≤ G) : RF w0 b sc ob W' :=
 ⟨hg.os.trans h.os, hg.tape.trans h.tape, hg.output.trans h.output, Nat.le_trans h.size hg.size, fun k h1 h2 h3 h4 => (hg.block k (Nat.lt_of_lt_of_le h1 h.size) (fun e => by injection e with e; omega)).trans (h.block k h1 h2 h3 h4)⟩
theorem RdSameF.shared {v v' : RdV} (h : RdSameF v v') (u : Value) : RdSameF v { v' with shared := u } := ⟨h.sc, h.name, h.top, h.sizes, h.funs⟩
theorem grown_row (W : World) (b : Nat) (cs : Array Value) : W.grownBy (W.setRow b cs) (some b) := ⟨rfl, rfl, rfl, by simp, fun k _ hk => setRow_other W b k cs (fun e => hk (by rw [e]))⟩
theorem fn_end_pos {w w12 : World} {b sc base G R ca c4 po p : Nat} {A A4 : Option Addr} {acc : List Nat} {o o0 n : Int} {ls : List LineM} {v v4 : RdV} {s : ByteArray} {sizes : List Nat} {a : AccM} {E : RdR AccM} {us : List (Value × Int × Value)}
  (hG : GSt w w12 b sc G R A acc (.slice A acc.length ca) o (.slice A4 ls.length c4)) (hs : RdSame v v4) (hl : LinesK w12 b sc A4 ls) (hr : LnKnown s b sc v.top w12 ls v4 E (cF4 sizes a (n, p) acc (o0, po))) (hn : ¬ n < 0) (ho : o = min o0 v.top)
  (hO : OwnFn w base v.shared us) (hU : FnIs w b sc us (a.shared.map (topF v.top))) (hb : b < base) (hsc : sc < base) (hgb : 3 < base) (hbase : base ≤ w.heap.size) (cs : Array Value) (hcap : acc.length ≤ ca) :
  FnPost s b sc base v a E w (.returned (.agg #[.slice A acc.length ca, .int .i64 o, .slice A4 ls.length c4])) (w12.setRow R cs) := by
 have hg := grown_row w12 R cs
 have hf := hG.far
 have K : KeepT w12 (w12.setRow R cs) b sc := keep_g hG.r hg
 have hk := hG.k.fresh hg hf.1
 refine ⟨A, acc.length, ca, o, A4, ls.length, c4, v4, rfl, RF.of hk, hs.f, .inl (by rw [hs.shared]), ?_⟩
 rcases hr with ⟨x, st', h1, h2, h3, h4⟩ | ⟨e, q, h1, h2⟩
 rotate_left
 ·exact .inr ⟨e, q, h2, h1.other hg (by omega) (by omega)⟩
 refine .inl ⟨⟨acc, o0, x.1⟩, _, st', us, h4, rfl, ho, ⟨⟨A, ca, rfl, hcap, hG.acc.keep K.ints⟩, A4, c4, by rw [h1]; rfl, by show LinesK _ b sc A4 (topL v.top x.1); rw [← h1]; exact hl.keep K⟩, h3.other hg (by omega) (by omega) (by omega), h2, ?_, ?_⟩
 ·rw [hs.shared]
  exact hO.rk hk hb hsc
 show FnIs _ b sc us (List.map _ (if n < 0 then _ else a.shared))
 rw [if_neg hn]
 exact hU.keep (KeepT.rk hk)
theorem fn_end_neg {w w12 w13 w14 : World} {b sc base G R ca c4 po p : Nat} {A A4 : Option Addr} {acc : List Nat} {o o0 n : Int} {ls : List LineM} {v v4 : RdV} {v14 : Value} {s : ByteArray} {sizes : List Nat} {a : AccM} {E : RdR AccM} {us : List (Value × Int × Value)}
  (hG : GSt w w12 b sc G R A acc (.slice A acc.length ca) o (.slice A4 ls.length c4)) (hs : RdSame v v4) (hl : LinesK w12 b sc A4 ls) (hr : LnKnown s b sc v.top w12 ls v4 E (cF4 sizes a (n, p) acc (o0, po))) (hn : n < 0) (ho : o = min o0 v.top)
  (hO : OwnFn w base v.shared us) (hU : FnIs w b sc us (a.shared.map (topF v.top))) (hb : b < base) (hsc : sc < base) (hgb : 3 < base) (hbase : base ≤ w.heap.size)
  (na : Below w12.heap.size w12 w13) (OW : OwnFn w13 base v.shared us) (OX : OwnFn w14 base v14 (us ++ [(.slice A acc.length ca, o, .slice A4 ls.length c4)])) (GX : w13.grownBy w14 v.shared.ownBlock) (AT : v14.ownBlock = v.shared.ownBlock ∨ v14.ownBlock = some w13.heap.size) (R14 : RdAt w14 b v4) (cs : Array Value) (hcap : acc.length ≤ ca) :
  FnPost s b sc base v a E w (.returned (.agg #[.slice A acc.length ca, .int .i64 o, .slice A4 ls.length c4])) ((w14.setCell ⟨b, 9, none⟩ v14).setRow R cs) := by
 have hf := hG.far
 have g15 := grown_put w14 b 9 v14
 have g16 := grown_row (w14.setCell ⟨b, 9, none⟩ v14) R cs
 have hR12 : R < w12.heap.size := (Array.getElem?_eq_some_iff.1 hG.r).1
 have hz12 := hG.k.size
 have hz13 := na.size
 have hz14 := GX.size
 have hob : ∀ g, v.shared.ownBlock = some g → base ≤ g ∧ g < w.heap.size := fun g e => ⟨(hO.obj g e).1, (hO.obj g e).2.1⟩
 have keepO : ∀ k, k < w13.heap.size → (k < base ∨ w.heap.size ≤ k) → w14.heap[k]? = w13.heap[k]? := fun k h1 h2 => GX.block k h1 (fun e => by have := hob k e.symm; omega)
 have r14 : w14.heap[R]? = _ := (keepO R (by omega) (.inr hf.1)).trans ((na.block R hR12).trans hG.r)
 have r15 : (w14.setCell ⟨b, 9, none⟩ v14).heap[R]? = _ := (g15.block R (Array.getElem?_eq_some_iff.1 r14).1 (fun e => by injection e with e; omega)).trans r14
 have K : KeepT w12 ((w14.setCell ⟨b, 9, none⟩ v14).setRow R cs) b sc := (((KeepT.rk (RK.below na)).trans (keep_fn OW GX)).trans (KeepT.rk (RK.grown1 g15))).trans (keep_g r15 g16)
 have K0 : KeepT w ((w14.setCell ⟨b, 9, none⟩ v14).setRow R cs) b sc := (KeepT.rk hG.k).trans K
 refine ⟨A, acc.length, ca, o, A4, ls.length, c4, { v4 with shared := v14 }, rfl, ((((RF.of hG.k).rk (RK.below na)).put GX).rk (RK.grown1 g15)).fresh g16 hf.1, hs.f.shared v14, ?_, ?_⟩
 ·rcases AT with e | e
  ·exact .inl e
  exact .inr ⟨_, e, by omega⟩
 have a15 : RdAt (w14.setCell ⟨b, 9, none⟩ v14) b { v4 with shared := v14 } := heap_setCell_same w14 b 9 _ _ v14 R14
 rcases hr with ⟨x, st', h1, h2, h3, h4⟩ | ⟨e, q, h1, h2⟩
 rotate_left
 ·have o13 := h1.below na
  have o14 : RdBad w14 b e q v4 := o13.blocks (keepO b o13.at_.lt (.inl hb)) (keepO _ (by omega) (.inl hgb))
  have o15 : RdBad (w14.setCell ⟨b, 9, none⟩ v14) b e q { v4 with shared := v14 } := ⟨a15, o14.fe, o14.fp, o14.ne, o14.glob.rk (RK.grown1 (q := b) g15) o14.gb o14.gb, o14.gb⟩
  exact .inr ⟨e, q, h2, o15.other g16 (by omega) (by omega)⟩
 have o13 := h3.below na
 have o14 : RdOk w14 b sc s st' v4 := o13.blocks (keepO b o13.lt (.inl hb)) (keepO sc o13.scan.lt (.inl hsc)) (keepO _ (by omega) (.inl hgb))
 have o15 := o14.upd a15 g15 rfl rfl rfl rfl
 have hfun : FunC ((w14.setCell ⟨b, 9, none⟩ v14).setRow R cs) b sc (.slice A acc.length ca) (.slice A4 ls.length c4) (topF v.top ⟨acc, o0, x.1⟩) :=
  ⟨⟨A, ca, rfl, hcap, hG.acc.keep K.ints⟩, A4, c4, by rw [h1]; rfl, by show LinesK _ b sc A4 (topL v.top x.1); rw [← h1]; exact hl.keep K⟩
 refine .inl ⟨⟨acc, o0, x.1⟩, _, st', us ++ [(.slice A acc.length ca, o, .slice A4 ls.length c4)], h4, rfl, ho, hfun, o15.other g16 (by omega) (by omega) (by omega), h2, ?_, ?_⟩
 rotate_left
 ·show FnIs _ b sc _ (List.map _ (if n < 0 then a.shared ++ [_] else a.shared))
  rw [if_pos hn, List.map_append]
  have := (hU.keep K0).snoc hfun
  rw [show (topF v.top ⟨acc, o0, x.1⟩).other = o from ho.symm] at this
  exact this
 refine OX.keepB fun g e h1 h2 => ?_
 have hgR : g ≠ R := by
  rcases AT with e' | e'
  ·rw [e'] at e
   have := hob g e
   omega
  rw [e'] at e
  injection e with e
  omega
 have hg15 := g15.block g h1 (fun e => by injection e with e; omega)
 exact (g16.block g (by have := g15.size; omega) (fun e => hgR (Option.some.inj e))).trans hg15
theorem fn_row {w w12 w13 w14 : World} {b sc base G R : Nat} {A : Option Addr} {acc : List Nat} {sv lv : Value} {o : Int} {us : List (Value × Int × Value)} {u : Value} (hG : GSt w w12 b sc G R A acc sv o lv) (hO : OwnFn w base u us) (na : Below w12.heap.size w12 w13) (GX : w13.grownBy w14 u.ownBlock) (v14 : Value) :
  (w14.setCell ⟨b, 9, none⟩ v14).heap[R]? = some (.cells #[.slice none 0 0, .int .i64 0, .slice none 0 0] 202 (0, 0)) := by
 have hf := hG.far
 have hR12 : R < w12.heap.size := (Array.getElem?_eq_some_iff.1 hG.r).1
 have hz13 := na.size
 have r14 := (GX.block R (by omega) (fun e => by have := (hO.obj R e.symm).2.1; omega)).trans ((na.block R hR12).trans hG.r)
 exact ((grown_put w14 b 9 v14).block R (Array.getElem?_eq_some_iff.1 r14).1 (fun e => by injection e with e; omega)).trans r14
theorem LnKnown.at_ {s : ByteArray} {b sc : Nat} {k : Int} {W : World} {ls : List LineM} {v4 : RdV} {E : RdR AccM} {C : List LineM × Int → RdS → RdR AccM} (h : LnKnown s b sc k W ls v4 E C) : RdAt W b v4 := by
 rcases h with ⟨x, st', h1, h2, h3, h4⟩ | ⟨e, q, h1, h2⟩
 ·exact h3.at_
 exact h1.at_
theorem LnKnown.below {s : ByteArray} {b sc : Nat} {k : Int} {W W' : World} {ls : List LineM} {v4 : RdV} {E : RdR AccM} {C : List LineM × Int → RdS → RdR AccM} (h : LnKnown s b sc k W ls v4 E C) (hb : Below W.heap.size W W') : LnKnown s b sc k W' ls v4 E C := by
 rcases h with ⟨x, st', h1, h2, h3, h4⟩ | ⟨e, q, h1, h2⟩
 ·exact .inl ⟨x, st', h1, h2, h3.below hb, h4⟩
 exact .inr ⟨e, q, h1.below hb, h2⟩
end Go.Proofs.YtmokogkndbinlaaGreatDoor
