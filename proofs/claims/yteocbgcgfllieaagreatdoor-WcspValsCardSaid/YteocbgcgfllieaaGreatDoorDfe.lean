/- The end of a function's reading (no statement of its own). -/
import Derived.Test.YteocbgcgfllieaaGreatDoorDf
namespace Go.Proofs.YteocbgcgfllieaaGreatDoor
open Go.RowKit
set_option linter.unusedVariables false
/-- What is known behind a function's lines. -/
def LnK7 (s : ByteArray) (b : Nat) (W : World) (ls : List LineM) (v' : DrV) (E : RdR AccM) (C : List LineM × Int → RdS → RdR AccM) : Prop :=
  (∃ told st', DrOk W b s st' v' ∧ v'.lines = told ∧ E = C (ls, told) st') ∨ ∃ e p, DrBad W b e p v' ∧ E = .bad e p
theorem LnK7.at_ {s : ByteArray} {b : Nat} {W : World} {ls : List LineM} {v' : DrV} {E : RdR AccM} {C : List LineM × Int → RdS → RdR AccM} (h : LnK7 s b W ls v' E C) : DrAt W b v' := by
  rcases h with ⟨t, st', h, _⟩ | ⟨e, p, h, _⟩
  · exact h.at_
  · exact h.at_
theorem LnK7.keep {s : ByteArray} {b : Nat} {W W' : World} {ls : List LineM} {v' : DrV} {E : RdR AccM} {C : List LineM × Int → RdS → RdR AccM} (h : LnK7 s b W ls v' E C) (hb : W'.heap[b]? = W.heap[b]?) (hk : KeepD W W') : LnK7 s b W' ls v' E C := by
  rcases h with ⟨t, st', h, h2, h3⟩ | ⟨e, p, h, h2⟩
  · exact .inl ⟨t, st', h.keepAt (hb.trans h.at_) hk, h2, h3⟩
  · exact .inr ⟨e, p, h.keepAt (hb.trans h.at_) rfl rfl, h2⟩
theorem fdC_lenX (vs : List (Value × Value × Int × Value)) : (fdC vs).length = vs.length * 4 := by
  induction vs with
  | nil => rfl
  | cons x r ih => simp [fdC] at ih ⊢; omega
theorem Own6.viewN {W : World} {base n c : Nat} {A : Option Addr} {l : List Nat} (h : Own6 W base (.slice A n c) l) : l.length = n ∧ n ≤ c ∧ I6 W A l := by
  obtain ⟨A', c', e, h1, h2⟩ := h.form
  injection e with e1 e2 e3
  subst e1 e2 e3
  exact ⟨rfl, h1, h2⟩
theorem keep_fun {W W' : World} {g : Nat} {cs : Array Value} {fr : Nat × Nat} (hc : W.heap[g]? = some (.cells cs 91 fr)) (hg : W.grownBy W' (some g)) : KeepD W W' :=
  KeepD.typed hg (fun g' e => by injection e with e; subst e; exact ⟨_, _, hc⟩) (by decide) (by decide) (by decide)
theorem keep_fd {W W' : World} {base : Nat} {v : Value} {us : List (Value × Value × Int × Value)} (ho : OwnFd W base v us) (hg : W.grownBy W' v.ownBlock) : KeepD W W' :=
  KeepD.typed hg (fun g' e => by obtain ⟨_, _, cur, h⟩ := ho.obj g' e; exact ⟨cur, _, h⟩) (by decide) (by decide) (by decide)
theorem OwnFd.cells4 {W : World} {base n c : Nat} {A : Option Addr} {us : List (Value × Value × Int × Value)} (h : OwnFd W base (.slice A n c) us) {i : Nat} {x : Value × Value × Int × Value} (hx : us[i]? = some x) :
    ∃ g, A = some ⟨g, 0, none⟩ ∧ base ≤ g ∧ g < W.heap.size ∧ W.cell? ⟨g, i * 4, none⟩ = some x.1 ∧ W.cell? ⟨g, i * 4 + 1, none⟩ = some x.2.1 ∧ W.cell? ⟨g, i * 4 + 2, none⟩ = some (.int .i64 x.2.2.1) ∧ W.cell? ⟨g, i * 4 + 3, none⟩ = some x.2.2.2 := by
  have h' := h
  have hi : i < us.length := (List.getElem?_eq_some_iff.1 hx).1
  obtain ⟨k1, ⟨e, hn⟩ | ⟨g, cap, cur, e, hb', hh, hm, hx', hs, ht⟩⟩ := h
  · omega
  · injection e with e1 e2 e3
    subst e1 e2 e3
    obtain ⟨a1, a2, a3, a4⟩ := fdC_at us i x hx
    have key := fun j (hj : j < us.length * 4) => World.ownsRow.cellAt (h' : W.ownsRow base 91 4 _ us.length _) j hj
    exact ⟨g, rfl, hb', (Array.getElem?_eq_some_iff.1 hh).1, (key (i * 4) (by omega)).trans a1, (key (i * 4 + 1) (by omega)).trans a2, (key (i * 4 + 2) (by omega)).trans a3, (key (i * 4 + 3) (by omega)).trans a4⟩
/-- What a region with the comparison holds. -/
abbrev HoldS (wb : World) (b g G i n c n2 c2 : Nat) (A A2 : Option Addr) (zq : Value) (W : World) : Prop :=
  W.cell? ⟨b, 8, none⟩ = some (.slice A n c) ∧ W.cell? ⟨g, i * 4 + 1, none⟩ = some zq ∧ W.cell? ⟨G, 1, none⟩ = some (.slice A2 n2 c2) ∧ Below wb.heap.size wb W
theorem holdS {wb W W' : World} {b g G i n c n2 c2 : Nat} {A A2 : Option Addr} {zq : Value} (H : HoldS wb b g G i n c n2 c2 A A2 zq W) (hb : Below W.heap.size W W') : HoldS wb b g G i n c n2 c2 A A2 zq W' := by
  obtain ⟨a0, a1, a2, h9⟩ := H
  have K : ∀ b i v, W.cell? ⟨b, i, none⟩ = some v → W'.cell? ⟨b, i, none⟩ = some v := fun b i v h => (hb.cell (p := ⟨b, i, none⟩) (World.block_lt_of_cell? W _ h)).trans h
  exact ⟨K _ _ _ a0, K _ _ _ a1, K _ _ _ a2, h9.trans (hb.mono h9.size)⟩
theorem HoldS.below {wb W : World} {b g G i n c n2 c2 : Nat} {A A2 : Option Addr} {zq : Value} (H : HoldS wb b g G i n c n2 c2 A A2 zq W) : Below wb.heap.size wb W := H.2.2.2
theorem hold4 {W W' : World} {G : Nat} {a b c d : Value} (h : W.cell? ⟨G, 0, none⟩ = some a ∧ W.cell? ⟨G, 1, none⟩ = some b ∧ W.cell? ⟨G, 2, none⟩ = some c ∧ W.cell? ⟨G, 3, none⟩ = some d) (hb : Below W.heap.size W W') : W'.cell? ⟨G, 0, none⟩ = some a ∧ W'.cell? ⟨G, 1, none⟩ = some b ∧ W'.cell? ⟨G, 2, none⟩ = some c ∧ W'.cell? ⟨G, 3, none⟩ = some d := by
  have hl : G < W.heap.size := World.block_lt_of_cell? W ⟨G, 0, none⟩ h.1
  have e := fun i => hb.cell (p := ⟨G, i, none⟩) hl
  exact ⟨(e 0).trans h.1, (e 1).trans h.2.1, (e 2).trans h.2.2.1, (e 3).trans h.2.2.2⟩
theorem hold4_o {W W' : World} {G : Nat} {a b c d : Value} {p : Option Nat} (h : W.cell? ⟨G, 0, none⟩ = some a ∧ W.cell? ⟨G, 1, none⟩ = some b ∧ W.cell? ⟨G, 2, none⟩ = some c ∧ W.cell? ⟨G, 3, none⟩ = some d) (hg : W.grownBy W' p) (hne : p ≠ some G) : W'.cell? ⟨G, 0, none⟩ = some a ∧ W'.cell? ⟨G, 1, none⟩ = some b ∧ W'.cell? ⟨G, 2, none⟩ = some c ∧ W'.cell? ⟨G, 3, none⟩ = some d := by
  have hl : G < W.heap.size := World.block_lt_of_cell? W ⟨G, 0, none⟩ h.1
  have e := fun i => World.cell?_of_block (a := ⟨G, i, none⟩) (hg.block G hl (fun e => hne e.symm))
  exact ⟨(e 0).trans h.1, (e 1).trans h.2.1, (e 2).trans h.2.2.1, (e 3).trans h.2.2.2⟩
theorem fd_row {w W X Y : World} {b base G R : Nat} {sv zv lv u : Value} {o : Int} {us : List (Value × Value × Int × Value)} (hF : FG w W b G R sv zv o lv) (hO : OwnFd w base u us) (na : Below W.heap.size W X) (GX : X.grownBy Y u.ownBlock) (v14 : Value) :
    (Y.setCell ⟨b, 8, none⟩ v14).heap[R]? = some (.cells #[.slice none 0 0, .slice none 0 0, .int .i64 0, .slice none 0 0] 91 (0, 0)) := by
  have hf := hF.far
  have hRW : R < W.heap.size := (Array.getElem?_eq_some_iff.1 hF.r).1
  have zX := na.size
  have zY := GX.size
  have rX : X.heap[R]? = W.heap[R]? := na.block R hRW
  have rY : Y.heap[R]? = X.heap[R]? := GX.block R (by omega) (fun e => by obtain ⟨_, h1, _⟩ := hO.obj R e.symm; omega)
  exact ((grown_put Y b 8 v14).block R (by omega) (fun e => by injection e with e; omega)).trans (rY.trans (rX.trans hF.r))
/-- The three lists of a function, as views. -/
theorem fun7_view {W : World} {base n3 c3 : Nat} {sv zv : Value} {A3 : Option Addr} {acc sizes : List Nat} {o : Int} {ls : List LineM} (hT : Two6 W base sv zv acc (pickN sizes acc)) (h3 : n3 = ls.length) (hc3 : ls.length ≤ c3) (hl : LnV W A3 ls) : FnV W sizes sv zv (.slice A3 n3 c3) ⟨acc, o, ls⟩ := by
  obtain ⟨A1, c1, e1, h1, i1⟩ := hT.a.form
  obtain ⟨A2, c2, e2, h2, i2⟩ := hT.b.form
  have hp : (pickN sizes acc).length = acc.length := by simp [pickN]
  rw [hp] at e2 h2
  exact ⟨⟨A1, c1, e1, h1, i1⟩, ⟨A2, c2, e2, h2, i2⟩, A3, c3, by rw [h3], hc3, hl⟩
/-- Its end where it isn't shared. -/
theorem fun7_pos {w W : World} {b base G R : Nat} {s : ByteArray} {sizes acc : List Nat} {v v' : DrV} {a : AccM} {E : RdR AccM} {A1 A2 A3 : Option Addr} {n1 n2 n3 c1 c2 c3 arP oP : Nat} {ar o : Int} {ls : List LineM} {us : List (Value × Value × Int × Value)}
    (hF : FG w W b G R (.slice A1 n1 c1) (.slice A2 n2 c2) o (.slice A3 n3 c3)) (hT : Two6 W w.heap.size (.slice A1 n1 c1) (.slice A2 n2 c2) acc (pickN sizes acc)) (h3 : n3 = ls.length) (hc3 : ls.length ≤ c3) (hl : LnV W A3 ls) (hn : v'.shared = v.shared)
    (hk : LnK7 s b W ls v' E (cF4 sizes a (ar, arP) acc (o, oP))) (hs : ¬ ar < 0) (hat : DrAt w b v) (hO : OwnFd w base v.shared us) (hU : FdIs w sizes us a.shared) (hb : b < base) (hbase : base ≤ w.heap.size) (cs : Array Value) :
    FunPost7 s b base sizes v a E w (.returned (.agg #[.slice A1 n1 c1, .slice A2 n2 c2, .int .i64 o, .slice A3 n3 c3])) (W.setRow R cs) := by
  have hg := growRow W R cs
  have hf := hF.far
  have K : KeepD W (W.setRow R cs) := keep_fun hF.r hg
  have hbl : (W.setRow R cs).heap[b]? = W.heap[b]? := hg.block b hk.at_.lt (fun e => by injection e with e; omega)
  refine ⟨A1, n1, c1, A2, n2, c2, o, A3, n3, c3, v', rfl, (FrD.of hF.k).fresh hg hf.1, .inl (by rw [hn]), ?_⟩
  rcases hk.keep hbl K with ⟨t, st', h1, h2, h4⟩ | ⟨e, p, h1, h2⟩
  · refine .inl ⟨⟨acc, o, ls⟩, _, st', us, h4, rfl, rfl, (fun7_view hT h3 hc3 hl).keep K, h1, h2, ?_, ?_⟩
    · rw [hn]
      exact hO.keepB fun g e h5 h6 => (hg.block g (Nat.lt_of_lt_of_le h5 hF.k.size) (fun e => by injection e with e; omega)).trans (hF.k.block g h5 (fun e => by injection e with e; omega))
    · show FdIs _ sizes us (if ar < 0 then _ else a.shared)
      rw [if_neg hs]
      exact hU.keep ((hF.keepD hat).trans K)
  · exact .inr ⟨e, p, h1, h2⟩
/-- Its end where it is shared: X with the function's copy, Y behind the append. -/
theorem fun7_neg {w W X Y : World} {b base G R : Nat} {s : ByteArray} {sizes acc : List Nat} {v v' : DrV} {a : AccM} {E : RdR AccM} {A1 A2 A3 : Option Addr} {n1 n2 n3 c1 c2 c3 arP oP : Nat} {ar o : Int} {ls : List LineM} {us : List (Value × Value × Int × Value)} {u : Value}
    (hF : FG w W b G R (.slice A1 n1 c1) (.slice A2 n2 c2) o (.slice A3 n3 c3)) (hT : Two6 W w.heap.size (.slice A1 n1 c1) (.slice A2 n2 c2) acc (pickN sizes acc)) (h3 : n3 = ls.length) (hc3 : ls.length ≤ c3) (hl : LnV W A3 ls) (hn : v'.shared = v.shared)
    (hk : LnK7 s b W ls v' E (cF4 sizes a (ar, arP) acc (o, oP))) (hs : ar < 0) (hat : DrAt w b v) (hO : OwnFd w base v.shared us) (hU : FdIs w sizes us a.shared) (hb : b < base) (hbase : base ≤ w.heap.size)
    (na : Below W.heap.size W X) (OW : OwnFd X base v.shared us) (OX : OwnFd Y base u (us ++ [(.slice A1 n1 c1, .slice A2 n2 c2, o, .slice A3 n3 c3)])) (GX : X.grownBy Y v.shared.ownBlock) (AT : u.ownBlock = v.shared.ownBlock ∨ u.ownBlock = some X.heap.size) (cs : Array Value) :
    FunPost7 s b base sizes v a E w (.returned (.agg #[.slice A1 n1 c1, .slice A2 n2 c2, .int .i64 o, .slice A3 n3 c3])) ((Y.setCell ⟨b, 8, none⟩ u).setRow R cs) := by
  have hf := hF.far
  have hob : ∀ g, v.shared.ownBlock = some g → base ≤ g ∧ g < w.heap.size := fun g e => ⟨(hO.obj g e).1, (hO.obj g e).2.1⟩
  have g15 := grown_put Y b 8 u
  have g16 := growRow (Y.setCell ⟨b, 8, none⟩ u) R cs
  have hRW : R < W.heap.size := (Array.getElem?_eq_some_iff.1 hF.r).1
  have zX := na.size
  have zY := GX.size
  have zS := g15.size
  have rX : X.heap[R]? = W.heap[R]? := na.block R hRW
  have rY : Y.heap[R]? = X.heap[R]? := GX.block R (by omega) (fun e => by have := hob R e.symm; omega)
  have rS : (Y.setCell ⟨b, 8, none⟩ u).heap[R]? = Y.heap[R]? := g15.block R (by omega) (fun e => by injection e with e; omega)
  have hRS := rS.trans (rY.trans (rX.trans hF.r))
  have aY : DrAt Y b v' := (GX.block b (Nat.lt_of_lt_of_le hk.at_.lt zX) (fun e => by have := hob b e.symm; omega)).trans ((na.block b hk.at_.lt).trans hk.at_)
  have KWX : KeepD W X := KeepD.below na
  have KXY : KeepD X Y := keep_fd OW GX
  have KYS : KeepD Y (Y.setCell ⟨b, 8, none⟩ u) := KeepD.dr aY g15
  have KSZ : KeepD (Y.setCell ⟨b, 8, none⟩ u) ((Y.setCell ⟨b, 8, none⟩ u).setRow R cs) := keep_fun hRS g16
  have K := KWX.trans (KXY.trans (KYS.trans KSZ))
  have aS : DrAt (Y.setCell ⟨b, 8, none⟩ u) b { v' with shared := u } := aY.put 8 u rfl
  have aZ : DrAt ((Y.setCell ⟨b, 8, none⟩ u).setRow R cs) b { v' with shared := u } := (g16.block b aS.lt (fun e => by injection e with e; omega)).trans aS
  have fr : FrD w b v.shared.ownBlock ((Y.setCell ⟨b, 8, none⟩ u).setRow R cs) := ((((FrD.of hF.k).gr (Gr.below na)).put GX).gr g15).fresh g16 hf.1
  refine ⟨A1, n1, c1, A2, n2, c2, o, A3, n3, c3, { v' with shared := u }, rfl, fr, ?_, ?_⟩
  · rcases AT with e | e
    · exact .inl e
    · exact .inr ⟨_, e, by have := hF.k.size; omega⟩
  · rcases hk with ⟨t, st', h1, h2, h4⟩ | ⟨e, p, h1, h2⟩
    · have hv := (fun7_view (o := o) hT h3 hc3 hl).keep K
      refine .inl ⟨⟨acc, o, ls⟩, _, st', us ++ [(.slice A1 n1 c1, .slice A2 n2 c2, o, .slice A3 n3 c3)], h4, rfl, rfl, hv, ⟨aZ, h1.fine, h1.le, h1.fits, h1.big, h1.words.keep K, h1.fin⟩, h2, ?_, ?_⟩
      · refine OX.keepB fun g e h5 h6 => ?_
        have hgR : g ≠ R := by
          rcases AT with e' | e'
          · rw [e'] at e
            have := hob g e
            omega
          · rw [e'] at e
            injection e with e
            omega
        exact (g16.block g (by omega) (fun e => hgR (Option.some.inj e))).trans (g15.block g h5 (fun e => by injection e with e; omega))
      · show FdIs _ sizes _ (if ar < 0 then a.shared ++ [_] else a.shared)
        rw [if_pos hs]
        exact (hU.keep ((hF.keepD hat).trans K)).snoc hv
    · exact .inr ⟨e, p, ⟨aZ, h1.fe, h1.fp, h1.ne⟩, h2⟩
end Go.Proofs.YteocbgcgfllieaaGreatDoor
