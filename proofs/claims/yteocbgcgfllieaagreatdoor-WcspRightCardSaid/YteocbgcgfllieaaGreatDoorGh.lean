/- Copy of a file of one function (no statement of its own). -/
import Derived.Test.YteocbgcgfllieaaGreatDoorGg
import Derived.Deep.RegionHeld3
namespace Go.Proofs.YteocbgcgfllieaaGreatDoor
open Go.RowKit
set_option linter.unusedVariables false
theorem copy_nil (w : World) : Calls Tryz.prog 24 #[.pointer none] w fun e w' => e = .returned (.pointer none) ∧ w = w' := by
  go_enter Tryz.func24, Tryz.ntmps24
  go_wp2_with fail
  go_ret
  exact ⟨rfl, rfl⟩
theorem val_nil (A : Option Addr) (n c : Nat) (w : World) : Calls Tryz.prog 14 #[.pointer none, .slice A n c] w fun e w' => e = .returned (.tuple #[.int .i64 0, .int .i64 2]) ∧ w = w' := by
  have R := Lib.hid (fun W => rnil W)
  go_enter Tryz.func14, Tryz.ntmps14
  go_wp2_with (first | (go_at_call 23; refine (R.out _).mono ?_; rintro e w' ⟨rfl, rfl⟩) | fail)
  go_ret2
  exact ⟨rfl, rfl⟩
abbrev HoldF6 (wb : World) (fb gf : Nat) (X : ByteArray) (k : Int) (As : Option Addr) (m cs : Nat) (W : World) : Prop :=
  W.cell? ⟨fb, 0, none⟩ = some (.string X) ∧ W.cell? ⟨fb, 1, none⟩ = some (.int .i64 k) ∧ W.cell? ⟨fb, 2, none⟩ = some (.slice As m cs) ∧ W.cell? ⟨fb, 3, none⟩ = some (.slice (some ⟨gf, 0, none⟩) 1 1) ∧ Below wb.heap.size wb W
theorem holdF6 {wb W W' : World} {fb gf : Nat} {X : ByteArray} {k : Int} {As : Option Addr} {m cs : Nat} (H : HoldF6 wb fb gf X k As m cs W) (hb : Below W.heap.size W W') : HoldF6 wb fb gf X k As m cs W' := by
  obtain ⟨a0, a1, a2, a3, h9⟩ := H
  have K : ∀ b i v, W.cell? ⟨b, i, none⟩ = some v → W'.cell? ⟨b, i, none⟩ = some v := fun b i v h => (hb.cell (p := ⟨b, i, none⟩) (World.block_lt_of_cell? W _ h)).trans h
  exact ⟨K _ _ _ a0, K _ _ _ a1, K _ _ _ a2, K _ _ _ a3, h9.trans (hb.mono h9.size)⟩
theorem ext_zs {w : World} {A : Option Addr} {n : Nat} {z : Nat → Int} (h : Zs w A n z) : Ext w A n z := by
  rcases h with rfl | ⟨g, o, rfl, hg, hc⟩
  · cases A with
    | none => exact .inl ⟨rfl, rfl⟩
    | some a => exact .inr ⟨a, rfl, fun j hj => absurd hj (Nat.not_lt_zero _)⟩
  · exact .inr ⟨_, rfl, fun j hj => ⟨hg, by rw [show (⟨g, o, none⟩ : Addr).add j = ⟨g, o + j, none⟩ by unfold Addr.add; split <;> simp_all]; exact hc j hj⟩⟩
theorem own_less {W : World} {B B' : Nat} {t s : Nat} {v : Value} {n : Nat} {l : List Value} (h : W.ownsRow B t s v n l) (hB : B' ≤ B) : W.ownsRow B' t s v n l := by
  obtain ⟨h1, ⟨h2, h3⟩ | ⟨g, cap, cur, e, hb, r⟩⟩ := h
  · exact ⟨h1, .inl ⟨h2, h3⟩⟩
  · exact ⟨h1, .inr ⟨g, cap, cur, e, Nat.le_trans hB hb, r⟩⟩
theorem own_lt {W : World} {B : Nat} {t s : Nat} {v : Value} {n : Nat} {l : List Value} (h : W.ownsRow B t s v n l) : ∀ g, v.ownBlock = some g → g < W.heap.size := by
  obtain ⟨h1, ⟨rfl, hn⟩ | ⟨g, cap, cur, rfl, hb', hh, hm, hx, hs, ht⟩⟩ := h
  · intro g hg; simp [Value.ownBlock] at hg
  · intro g' hg
    simp [Value.ownBlock] at hg
    subst hg
    exact (Array.getElem?_eq_some_iff.1 hh).1
theorem own_keep {W W' : World} {B : Nat} {t s : Nat} {v : Value} {n : Nat} {l : List Value} (h : W.ownsRow B t s v n l) (hk : ∀ g cur, v.ownBlock = some g → W.heap[g]? = some (.cells cur t (0, 0)) → W'.heap[g]? = W.heap[g]?) : W'.ownsRow B t s v n l := by
  obtain ⟨h1, ⟨rfl, hn⟩ | ⟨g, cap, cur, rfl, hb', hh, hm, hx, hs, ht⟩⟩ := h
  · exact ⟨h1, .inl ⟨rfl, hn⟩⟩
  · exact ⟨h1, .inr ⟨g, cap, cur, rfl, hb', (hk g cur rfl hh).trans hh, hm, hx, hs, ht⟩⟩
theorem below_none {W W' : World} (h : W.grownBy W' (Value.slice none 0 0).ownBlock) : Below W.heap.size W W' :=
  ⟨h.os, h.tape, h.output, h.size, fun j hj => h.block j hj (fun e => by simp [Value.ownBlock] at e)⟩
theorem CopyT.form {B : Nat} {W : World} {l : List Nat} {k o : Int} {tv tv' : Value} (h : CopyT B W l k o tv tv') : ∃ p, tv' = .pointer p := by
  rcases h with ⟨-, rfl⟩ | ⟨-, g, b, A, c, rfl, -⟩
  · exact ⟨_, rfl⟩
  · exact ⟨_, rfl⟩
theorem CopyT.less {B B' : Nat} {W : World} {l : List Nat} {k o : Int} {tv tv' : Value} (h : CopyT B W l k o tv tv') (hB : B' ≤ B) : CopyT B' W l k o tv tv' := by
  rcases h with h | ⟨h0, g, b, A, c, h1, h2, h3, h4⟩
  · exact .inl h
  · exact .inr ⟨h0, g, b, A, c, h1, h2, Nat.le_trans hB h3, Nat.le_trans hB h4.1, fun a e => Nat.le_trans hB (h4.2 a e)⟩
theorem TupV.form {W : World} {l : List Nat} {k o : Int} {tv : Value} (h : TupV W l k o tv) : ∃ p, tv = .pointer p := by
  rcases h with rfl | ⟨-, -, -, g, b, A, c, rfl, -⟩
  · exact ⟨_, rfl⟩
  · exact ⟨_, rfl⟩
abbrev HoldG5 (G : Nat) (sv tv : Value) (W : World) : Prop := W.cell? ⟨G, 0, none⟩ = some sv ∧ W.cell? ⟨G, 1, none⟩ = some tv
theorem holdG5 {W W' : World} {G : Nat} {sv tv : Value} (H : HoldG5 G sv tv W) (hb : Below W.heap.size W W') : HoldG5 G sv tv W' := by
  obtain ⟨a0, a1⟩ := H
  have K : ∀ b i v, W.cell? ⟨b, i, none⟩ = some v → W'.cell? ⟨b, i, none⟩ = some v := fun b i v h => (hb.cell (p := ⟨b, i, none⟩) (World.block_lt_of_cell? W _ h)).trans h
  exact ⟨K _ _ _ a0, K _ _ _ a1⟩
theorem holdG5_put {W : World} {G C i : Nat} {sv tv v : Value} (H : HoldG5 G sv tv W) (hn : G ≠ C) : HoldG5 G sv tv (W.setCell ⟨C, i, none⟩ v) :=
  ⟨(World.cell?_setCell_far W ⟨C, i, none⟩ ⟨G, 0, none⟩ v (fun e => hn e.symm)).trans H.1, (World.cell?_setCell_far W ⟨C, i, none⟩ ⟨G, 1, none⟩ v (fun e => hn e.symm)).trans H.2⟩
/-- The copy is made: its file at C. -/
def CopyD (w wr : World) (C m : Nat) (A2 : Option Addr) (c2 : Nat) (zs : Nat → Int) (l : List Nat) (k o : Int) (tv : Value) : Prop :=
  ∃ g2 cf tv', wr.cell? ⟨C, 2, none⟩ = some (.slice A2 m c2) ∧ wr.ownsRow w.heap.size 3 1 (.slice A2 m c2) m (zC m zs) ∧ wr.cell? ⟨C, 3, none⟩ = some (.slice (some ⟨g2, 0, none⟩) 1 cf) ∧ wr.cell? ⟨g2, 1, none⟩ = some tv' ∧ w.heap.size ≤ g2 ∧ (∃ B, w.heap.size ≤ B ∧ CopyT B wr l k o tv tv' ∧ ∀ g, (Value.slice A2 m c2).ownBlock = some g → g < B) ∧ C ≠ g2 ∧ Below w.heap.size w wr
theorem CopyT.put {B : Nat} {W : World} {l : List Nat} {k o : Int} {tv tv' : Value} {C i : Nat} (v : Value) (h : CopyT B W l k o tv tv') (hC : C < B) : CopyT B (W.setCell ⟨C, i, none⟩ v) l k o tv tv' := by
  rcases h with h | ⟨h0, g, b, A, c, h1, h2, h3, h4, h5⟩
  · exact .inl h
  · have hg := grown_put W C i v
    have K : ∀ j, C < j → j < W.heap.size → (W.setCell ⟨C, i, none⟩ v).heap[j]? = W.heap[j]? := fun j h1 h2 => hg.block j h2 (fun e => by injection e; omega)
    refine .inr ⟨h0, g, b, A, c, h1, h2.blocks hg.size (K g (by omega) (Array.getElem?_eq_some_iff.1 h2.row).1) (K b (by omega) h2.lt) (fun a e => ?_), h3, h4, h5⟩
    by_cases ha : a.block < W.heap.size
    · exact K _ (by have := h5 a e; omega) ha
    · have hs : (W.setCell ⟨C, i, none⟩ v).heap.size = W.heap.size := by simp
      rw [Array.getElem?_eq_none (xs := W.heap) (by omega), Array.getElem?_eq_none (by rw [hs]; omega)]
theorem copy_done {w wb w10 : World} {C m c2 q c8 c10 : Nat} {A2 A8 A10 p2 : Option Addr} {X : ByteArray} {zs : Nat → Int} {l : List Nat} {k o : Int} {tv : Value} (OX : OwnFu w10 wb.heap.size (.slice A10 1 c10) [(.slice A8 q c8, .pointer p2)]) (CT1 : CopyT wb.heap.size w10 l k o tv (.pointer p2)) (BW : Below wb.heap.size wb w10) (R10 : w10.heap[C]? = some (.cells #[.string X, .int .i64 k, .slice A2 m c2, .slice none 0 0] 50 (0, 0))) (KO : wb.ownsRow w.heap.size 3 1 (.slice A2 m c2) m (zC m zs)) (KB : Below w.heap.size w wb) (KC : w.heap.size ≤ C) (KL : C < wb.heap.size) :
    CopyD w (w10.setCell ⟨C, 3, none⟩ (.slice A10 1 c10)) C m A2 c2 zs l k o tv := by
  have hg := grown_put w10 C 3 (.slice A10 1 c10)
  have e3 : w10.cell? ⟨C, 3, none⟩ = some (.slice none 0 0) := by rw [cell_of_row _ _ _ _ _ _ R10]; rfl
  have e2 : w10.cell? ⟨C, 2, none⟩ = some (.slice A2 m c2) := by rw [cell_of_row _ _ _ _ _ _ R10]; rfl
  have hb := (KB.trans (BW.mono KB.size)).setCell (p := ⟨C, 3, none⟩) KC (.slice A10 1 c10)
  obtain ⟨g, gcap, cur, eg, hge, hhe⟩ : ∃ g gcap cur, (Value.slice A10 1 c10) = .slice (some ⟨g, 0, none⟩) 1 gcap ∧ wb.heap.size ≤ g ∧ w10.heap[g]? = some (.cells cur 54 (0, 0)) := by
    obtain ⟨_, ⟨e, hn⟩ | ⟨g, cap, cur, e, hb, hh, _⟩⟩ := OX
    · simp at hn
    · exact ⟨g, cap, cur, e, hb, hh⟩
  injection eg with x1 x2 x3
  subst x1 x3
  have c1 := World.ownsRow.cellAt (OX : w10.ownsRow wb.heap.size 54 2 _ 1 _) 1 (by omega)
  refine ⟨g, _, .pointer p2, ?_, ?_, World.cell?_setCell_same _ _ _ e3, ?_, Nat.le_trans KB.size hge, ⟨wb.heap.size, KB.size, CT1.put _ KL, fun g hg => own_lt KO g hg⟩, by omega, hb⟩
  · rw [World.cell?_setCell_other _ _ _ _ (by simp)]; exact e2
  · refine own_keep KO (fun b cur hb hr => ?_)
    have hlt := (Array.getElem?_eq_some_iff.1 hr).1
    have hne : b ≠ C := fun e => by
      subst e
      have := (BW.block b hlt).trans hr
      rw [R10] at this
      injection this with this
      injection this with _ h4
      exact absurd h4 (by decide)
    exact (hg.block b (Nat.lt_of_lt_of_le hlt BW.size) (fun e => hne (Option.some.inj e))).trans (BW.block b hlt)
  · rw [World.cell?_setCell_other _ _ _ _ (by simp)]
    exact c1
set_option maxRecDepth 100000 in
set_option maxHeartbeats 4000000 in
theorem copy6 (fb gf : Nat) (X : ByteArray) (k : Int) (As : Option Addr) (m cs : Nat) (zs : Nat → Int) (Asc : Option Addr) (q csc : Nat) (ys : Nat → Int) (l : List Nat) (o : Int) (tv : Value) (w : World) (H : RF6 w fb gf X k As m cs zs Asc q csc ys tv) (hT : TupV w l k o tv) (hm : m ≤ 100) (hq : q ≤ 100) :
    Calls Tryz.prog 24 #[.pointer (some ⟨fb, 0, none⟩)] w fun e w' => ∃ C A2 c2, e = .returned (.pointer (some ⟨C, 0, none⟩)) ∧ w.heap.size ≤ C ∧ CopyD w w' C m A2 c2 zs l k o tv := by
  have HR := Lib.hid H
  have HT := Lib.hid hT
  have HQ := Lib.hid hq
  have CL := Lib.hid (fun W (hb : Below w.heap.size w W) => clone_own As m cs zs W (by omega) (ext_zs (H.szs.below hb (Nat.le_refl _))))
  have CQ0 := Lib.hid (fun W (hb : Below w.heap.size w W) => clone_own Asc q csc ys W (by omega) (ext_zs (H.scs.below hb (Nat.le_refl _))))
  have CP0 := Lib.hid (fun W (hb : Below w.heap.size w W) => (copied6 l k o tv W (hT.below hb)).mono (fun e w' h => And.intro (by obtain ⟨⟨tv', e1, h1⟩, h2⟩ := h; exact ⟨tv', e1, h1.less hb.size⟩ : ∃ tv', e = .returned tv' ∧ CopyT w.heap.size w' l k o tv tv') h.2))
  have h0 : HoldF6 w fb gf X k As m cs w := ⟨H.cells.1, H.cells.2.1, H.cells.2.2.1, H.cells.2.2.2, Below.refl _ _⟩
  have H0 := Lib.hid h0
  clear H hT hm hq
  go_enter Tryz.func24, Tryz.ntmps24
  go_upto_region 3 with fail
  clear h0
  go_region_held3 (fun W => HoldF6 w fb gf X k As m cs W) (first | exact holdF6 H0.out ((Below.refl _ _).drew) | exact holdF6 (by assumption) (by assumption) | exact holdF6 (by assumption) (new_val _ _) | assumption)
    ((first | (go_at_call 13; with_reducible refine (CL.out _ (by assumption : HoldF6 w fb gf X k As m cs _).2.2.2.2).mono ?_; rintro e w2 ⟨⟨A2, c2, rfl, hO⟩, hb⟩; have OW := Lib.hid hO; have B2 := Lib.hid hb; clear hO)))
  go_upto_block 0 with fail
  have XN := Lib.hid (heap_alloc_new w2 (.cells #[.string X, .int .i64 k, .slice A2 m c2, .slice none 0 0] 50))
  have nN := new_val w2 (.cells #[.string X, .int .i64 k, .slice A2 m c2, .slice none 0 0] 50)
  have OW3 := Lib.hid (own_keep (own_less OW.out (show w.heap.size ≤ _ from Nat.le_refl _)) (fun g _ _ hg => nN.block g (Array.getElem?_eq_some_iff.1 hg).1))
  have SC := Lib.hid (show w.heap.size ≤ w2.heap.size from B2.out.size)
  have B3 := Lib.hid (by assumption : HoldF6 w fb gf X k As m cs (w2.alloc (.cells #[.string X, .int .i64 k, .slice A2 m c2, .slice none 0 0] 50))).2.2.2.2
  have K3 := Lib.hid (by assumption : HoldF6 w fb gf X k As m cs (w2.alloc (.cells #[.string X, .int .i64 k, .slice A2 m c2, .slice none 0 0] 50)))
  change Code.wp _ _ _ _ (w2.alloc (.cells #[.string X, .int .i64 k, .slice A2 m c2, .slice none 0 0] 50))
  clear nN OW B2 H0
  generalize w2.alloc (.cells #[.string X, .int .i64 k, .slice A2 m c2, .slice none 0 0] 50) = w3 at XN OW3 B3 K3 ⊢
  obtain ⟨C, hC⟩ : ∃ C, w2.heap.size = C := ⟨_, rfl⟩
  rw [hC] at XN SC
  simp only [hC]
  clear hC hb
  have c3 := K3.out.2.2.2.1
  go_wp2_with fail
  clear c3 K3
  have H0 : Hid ((3 : Nat) = 3) := Lib.hid rfl
  go_loopw [5, 28] (fun _ i wr => (i = .int .i64 0 ∧ wr = w3) ∨ (i = .int .i64 1 ∧ CopyD w wr C m A2 c2 zs l k o tv)) (fun _ i _ => 1 - (intOf i).toNat)
  case atStart => exact .inl ⟨rfl, rfl⟩
  case round =>
    rcases hrel with ⟨rfl, hw⟩ | ⟨rfl, hD⟩
    · rw [hw]
      clear hw
      go_upto_block 1 with fail
      go_cut [5] from 30 to 47 (fun _ wc => Hid (CopyD w wc C m A2 c2 zs l k o tv))
      case first =>
        clear CL CQ0 CP0
        have RW := HR.out.below B3.out
        have g0 := RW.fcells.1
        have g1 := RW.fcells.2
        clear RW
        have hp := HT.out.form
        go_upto_region 7 with (first
          | ((with_reducible show wpList _ _ _ (Oper.mk none (.store 54 _ _) _ _ _ _ :: _) _ _); refine wpList_store_row rfl 54 (.tmp 5) (.tmp 31) rfl w3.heap.size #[.slice Asc q csc, tv] rfl rfl 54 #[.slice none 0 0, .pointer none] (heap_alloc_new _ _) (by kernel_rfl) rfl (by obtain ⟨p, rfl⟩ := hp; simp [Value.oneCell']) ?_; rw [World.setRow_alloc_new])
          | fail)
        clear hp
        have n4 := new_val w3 (.cells #[.slice Asc q csc, tv] 54)
        have X4 := Lib.hid (heap_alloc_new w3 (.cells #[.slice Asc q csc, tv] 54))
        have KB := Lib.hid (then_ B3.out n4)
        have XLT := Lib.hid (Nat.lt_of_lt_of_le (Array.getElem?_eq_some_iff.1 XN.out).1 n4.size)
        have XC := Lib.hid ((n4.block C (Array.getElem?_eq_some_iff.1 XN.out).1).trans XN.out)
        have KO := Lib.hid (own_keep OW3.out (fun g _ _ hg => n4.block g (Array.getElem?_eq_some_iff.1 hg).1))
        have GC := Lib.hid (Nat.ne_of_gt (Array.getElem?_eq_some_iff.1 XN.out).1)
        clear g0 g1 n4
        generalize w3.alloc (.cells #[.slice Asc q csc, tv] 54) = wb at X4 KB XLT XC KO ⊢
        obtain ⟨G, hG⟩ : ∃ G, w3.heap.size = G := ⟨_, rfl⟩
        rw [hG] at X4 GC
        simp only [hG]
        clear hG
        have CQ := Lib.hid (fun W (hb : Below wb.heap.size wb W) => clone_own Asc q csc ys W (by have := HQ.out; omega) (ext_zs (HR.out.scs.below (KB.out.trans (hb.mono KB.out.size)) (Nat.le_refl _))))
        have CP := Lib.hid (fun W (hb : Below wb.heap.size wb W) => (copied6 l k o tv W (HT.out.below (KB.out.trans (hb.mono KB.out.size)))).mono (fun e w' h => And.intro (by obtain ⟨⟨tv', e1, h1⟩, h2⟩ := h; exact ⟨tv', e1, h1.less hb.size⟩ : ∃ tv', e = .returned tv' ∧ CopyT wb.heap.size w' l k o tv tv') h.2))
        clear OW3 XN
        refine wp_region_noPanic ?_
        refine wp_region_held_drew (S := fun W => HoldG5 G (.slice Asc q csc) tv W) (by kernel_rfl) (holdG5 (show HoldG5 G (.slice Asc q csc) tv wb from ⟨by rw [cell_of_row _ _ _ _ _ _ X4.out]; rfl, by rw [cell_of_row _ _ _ _ _ _ X4.out]; rfl⟩) ((Below.refl _ _).drew)) (fun hHeld => ?_)
        have HB := Lib.hid ((Below.refl wb.heap.size wb).drew)
        generalize wb.drew = wd at hHeld HB ⊢
        refine wpAnyH_take (i := 0) (v := ?v7001) rfl (by kernel_rfl) (by kernel_rfl) (by kernel_rfl) (fun _ _ _ h => h) (Or.inl ⟨by rfl, ?y7001⟩) (by assumption) ?r7001
        case y7001 => ((intro w hSw; (try dsimp only at hSw); go_simp); try with_reducible rfl)
        try simp only [Act.put, List.getElem_toArray, List.getElem_cons_zero, List.setIfInBounds_toArray, List.set_cons_zero, List.set_cons_succ]
        refine wpAnyH_take (i := 1) (v := ?v7002) rfl (by kernel_rfl) (by kernel_rfl) (by kernel_rfl) (fun _ _ _ h => h) (Or.inl ⟨by rfl, ?y7002⟩) (by assumption) ?r7002
        case y7002 => ((intro w hSw; (try dsimp only at hSw); go_simp); try with_reducible rfl)
        try simp only [Act.put, List.getElem_toArray, List.getElem_cons_succ, List.getElem_cons_zero, List.setIfInBounds_toArray, List.set_cons_zero, List.set_cons_succ]
        refine wpAnyH_take (i := 2) (v := ?v7003) rfl (by kernel_rfl) (by kernel_rfl) (by kernel_rfl) (fun _ _ _ h => h) (Or.inl ⟨by rfl, ?y7003⟩) (by assumption) ?r7003
        case y7003 => ((intro w hSw; (try dsimp only at hSw); go_simp); try with_reducible rfl)
        try simp only [Act.put, List.getElem_toArray, List.getElem_cons_succ, List.getElem_cons_zero, List.setIfInBounds_toArray, List.set_cons_zero, List.set_cons_succ]
        refine wpAnyH_take (i := 3) (v := ?v7004) rfl (by kernel_rfl) (by kernel_rfl) (by kernel_rfl) (fun _ _ _ h => h) (Or.inl ⟨by rfl, ?y7004⟩) (by assumption) ?r7004
        case y7004 => ((intro w hSw; (try dsimp only at hSw); go_simp); try with_reducible rfl)
        try simp only [Act.put, List.getElem_toArray, List.getElem_cons_succ, List.getElem_cons_zero, List.setIfInBounds_toArray, List.set_cons_zero, List.set_cons_succ]
        refine wpAnyH_take (i := 5) (v := ?v7005) rfl (by kernel_rfl) (by kernel_rfl) (by kernel_rfl) (fun _ _ _ h => h) (Or.inl ⟨by rfl, ?y7005⟩) (by assumption) ?r7005
        case y7005 => ((intro w hSw; (try dsimp only at hSw); go_simp); try with_reducible rfl)
        try simp only [Act.put, List.getElem_toArray, List.getElem_cons_succ, List.getElem_cons_zero, List.setIfInBounds_toArray, List.set_cons_zero, List.set_cons_succ]
        refine wpAnyH_take (i := 6) (v := ?v7006) rfl (by kernel_rfl) (by kernel_rfl) (by kernel_rfl) (fun _ _ _ h => h) (Or.inl ⟨by rfl, ?y7006⟩) (by assumption) ?r7006
        case y7006 => ((intro w hSw; (try dsimp only at hSw); go_simp); try with_reducible rfl)
        try simp only [Act.put, List.getElem_toArray, List.getElem_cons_succ, List.getElem_cons_zero, List.setIfInBounds_toArray, List.set_cons_zero, List.set_cons_succ]
        refine wpAnyH_take (i := 8) (v := ?v7007) rfl (by kernel_rfl) (by kernel_rfl) (by kernel_rfl) (fun _ _ _ h => h) (Or.inl ⟨by rfl, ?y7007⟩) (by assumption) ?r7007
        case y7007 => ((intro w hSw; (try dsimp only at hSw); go_simp); try with_reducible rfl)
        try simp only [Act.put, List.getElem_toArray, List.getElem_cons_succ, List.getElem_cons_zero, List.setIfInBounds_toArray, List.set_cons_zero, List.set_cons_succ]
        refine wpAnyH_take (i := 9) (v := ?v7008) rfl (by kernel_rfl) (by kernel_rfl) (by kernel_rfl) (fun _ _ _ h => h) (Or.inl ⟨by rfl, ?y7008⟩) (by assumption) ?r7008
        case y7008 => ((intro w hSw; (try dsimp only at hSw); go_simp); try with_reducible rfl)
        try simp only [Act.put, List.getElem_toArray, List.getElem_cons_succ, List.getElem_cons_zero, List.setIfInBounds_toArray, List.set_cons_zero, List.set_cons_succ]
        refine wpAnyH_ready (rs := [4, 7]) (by kernel_rfl) (by simp) ?_
        refine AllReadyH.cons rfl (fun K hK => ?_) ?_
        · have ac : wd.cell? ⟨C, 3, none⟩ = some (.slice none 0 0) := by rw [cell_of_row _ _ _ _ _ _ ((HB.out.block C XLT.out).trans XC.out)]; rfl
          go_simp
          clear ac
          refine hK.out _ _ (by assumption) (fun hHeld' => ?_)
          clear hHeld
          have hHeld := hHeld'
          clear hHeld'
          clear hK K
          try simp only [Act.put, List.getElem_toArray, List.getElem_cons_succ, List.getElem_cons_zero, List.setIfInBounds_toArray, List.set_cons_zero, List.set_cons_succ]
          refine wpAnyH_ready (rs := [7]) (by kernel_rfl) (by simp) ?_
          refine AllReadyH.cons rfl (fun K hK => ?_) ?_
          · go_simp
            refine (CQ.out wd HB.out).mono ?_
            rintro e wd1 ⟨⟨A8, c8, rfl, hown8⟩, hb⟩
            clear hown8
            have HB1 := Lib.hid (HB.out.trans (hb.mono HB.out.size))
            refine hK.out _ _ (holdG5 hHeld hb) (fun hHeld' => ?_)
            clear hHeld
            have hHeld := hHeld'
            clear hHeld'
            clear hb
            clear hK K
            try simp only [Act.put, List.getElem_toArray, List.getElem_cons_succ, List.getElem_cons_zero, List.setIfInBounds_toArray, List.set_cons_zero, List.set_cons_succ]
            refine wpAnyH_ready (rs := [10]) (by kernel_rfl) (by simp) ?_
            refine AllReadyH.cons rfl (fun K hK => ?_) ?_
            · go_simp
              refine (CP.out wd1 HB1.out).mono ?_
              rintro e wd2 ⟨⟨tv2, rfl, hct⟩, hb⟩
              have CT0 := Lib.hid hct
              have HB2 := Lib.hid (HB1.out.trans (hb.mono HB1.out.size))
              clear hct
              obtain ⟨p2, rfl⟩ : ∃ p, tv2 = .pointer p := CT0.out.form
              refine hK.out _ _ (holdG5 hHeld hb) (fun hHeld' => ?_)
              clear hHeld
              have hHeld := hHeld'
              clear hHeld'
              clear hb
              clear hK K
              try simp only [Act.put, List.getElem_toArray, List.getElem_cons_succ, List.getElem_cons_zero, List.setIfInBounds_toArray, List.set_cons_zero, List.set_cons_succ]
              refine wpAnyH_take (i := 11) (v := ?v7009) rfl (by kernel_rfl) (by kernel_rfl) (by kernel_rfl) (fun _ _ _ h => h) (Or.inl ⟨by rfl, ?y7009⟩) (by assumption) ?r7009
              case y7009 => ((intro w hSw; (try dsimp only at hSw); go_simp); try with_reducible rfl)
              try simp only [Act.put, List.getElem_toArray, List.getElem_cons_succ, List.getElem_cons_zero, List.setIfInBounds_toArray, List.set_cons_zero, List.set_cons_succ]
              refine wpAnyH_ready (rs := [12]) (by kernel_rfl) (by simp) ?_
              refine AllReadyH.cons rfl (fun K hK => ?_) ?_
              · go_simp
                have na := new_val wd2 (.cells #[.slice A8 q c8, .pointer p2] 54)
                have NW := Lib.hid (heap_alloc_new wd2 (.cells #[.slice A8 q c8, .pointer p2] 54))
                have CT := Lib.hid (CT0.out.below na)
                have HBe := Lib.hid (HB2.out.trans (na.mono HB2.out.size))
                refine hK.out _ _ (holdG5 hHeld na) (fun hHeld' => ?_)
                clear hHeld
                have hHeld := hHeld'
                clear hHeld'
                clear na
                generalize wd2.alloc (.cells #[.slice A8 q c8, .pointer p2] 54) = we at hHeld NW CT HBe ⊢
                generalize wd2.heap.size = gl at NW ⊢
                clear hK K
                try simp only [Act.put, List.getElem_toArray, List.getElem_cons_succ, List.getElem_cons_zero, List.setIfInBounds_toArray, List.set_cons_zero, List.set_cons_succ]
                refine wpAnyH_ready (rs := [13]) (by kernel_rfl) (by simp) ?_
                refine AllReadyH.cons rfl (fun K hK => ?_) ?_
                · refine push_fu_step rfl (.tmp 36) (.tmp 44) rfl we wb.heap.size gl (.slice none 0 0) [] A8 q c8 p2 rfl (by rfl) (ownFu_nil _ _) NW.out HBe.out.size (by simp) ?_
                  intro v10 w10 hO hg hat
                  obtain ⟨A10, c10, rfl⟩ : ∃ A c, v10 = .slice A 1 c := hO.form
                  have OX := Lib.hid hO
                  have bx := below_none hg
                  have BW := Lib.hid (HBe.out.trans (bx.mono HBe.out.size))
                  have CT1 := Lib.hid (CT.out.below bx)
                  refine hK.out _ _ (holdG5 hHeld bx) (fun hHeld' => ?_)
                  clear hHeld
                  have hHeld := hHeld'
                  clear hHeld'
                  clear hO hg hat bx
                  clear hK K
                  try simp only [Act.put, List.getElem_toArray, List.getElem_cons_succ, List.getElem_cons_zero, List.setIfInBounds_toArray, List.set_cons_zero, List.set_cons_succ]
                  refine wpAnyH_take (i := 14) (v := ?v7010) rfl (by kernel_rfl) (by kernel_rfl) (by kernel_rfl) (fun _ _ _ h => h) (Or.inl ⟨by rfl, ?y7010⟩) (by assumption) ?r7010
                  case y7010 => ((intro w hSw; (try dsimp only at hSw); go_simp); try with_reducible rfl)
                  try simp only [Act.put, List.getElem_toArray, List.getElem_cons_succ, List.getElem_cons_zero, List.setIfInBounds_toArray, List.set_cons_zero, List.set_cons_succ]
                  refine wpAnyH_take (i := 15) (v := ?v7011) rfl (by kernel_rfl) (by kernel_rfl) (by kernel_rfl) (fun _ _ _ h => h) (Or.inl ⟨by rfl, ?y7011⟩) (by assumption) ?r7011
                  case y7011 => ((intro w hSw; (try dsimp only at hSw); go_simp); try with_reducible rfl)
                  try simp only [Act.put, List.getElem_toArray, List.getElem_cons_succ, List.getElem_cons_zero, List.setIfInBounds_toArray, List.set_cons_zero, List.set_cons_succ]
                  refine wpAnyH_ready (rs := [16]) (by kernel_rfl) (by simp) ?_
                  refine AllReadyH.cons rfl (fun K hK => ?_) ?_
                  · have R10 := Lib.hid ((BW.out.block C XLT.out).trans XC.out)
                    have ac : w10.cell? ⟨C, 3, none⟩ = some (.slice none 0 0) := by rw [cell_of_row _ _ _ _ _ _ R10.out]; rfl
                    have af : w10.frozen? ⟨C, 3, none⟩ = false := frozen_of_row _ _ _ _ _ R10.out
                    go_simp
                    clear ac af
                    refine hK.out _ _ (?hst) (fun hHeld' => ?_)
                    case hst => exact holdG5_put hHeld GC.out
                    clear hHeld
                    have hHeld := hHeld'
                    clear hHeld'
                    clear hK K
                    try simp only [Act.put, List.getElem_toArray, List.getElem_cons_succ, List.getElem_cons_zero, List.setIfInBounds_toArray, List.set_cons_zero, List.set_cons_succ]
                    refine wpAnyH_done (by kernel_rfl) ?_ _
                    refine NoPanic.normal ?_
                    clear hHeld
                    have DN := Lib.hid (copy_done OX.out CT1.out BW.out R10.out KO.out KB.out SC.out XLT.out)
                    go_wp2_with fail
                    go_meet
                    case rel => exact DN
                  exact AllReadyH.nil
                exact AllReadyH.nil
              exact AllReadyH.nil
            exact AllReadyH.nil
          exact AllReadyH.nil
        refine AllReadyH.cons rfl (fun K hK => ?_) ?_
        · go_simp
          refine (CQ.out wd HB.out).mono ?_
          rintro e wd1 ⟨⟨A8, c8, rfl, hown8⟩, hb⟩
          clear hown8
          have HB1 := Lib.hid (HB.out.trans (hb.mono HB.out.size))
          refine hK.out _ _ (holdG5 hHeld hb) (fun hHeld' => ?_)
          clear hHeld
          have hHeld := hHeld'
          clear hHeld'
          clear hb
          clear hK K
          try simp only [Act.put, List.getElem_toArray, List.getElem_cons_succ, List.getElem_cons_zero, List.setIfInBounds_toArray, List.set_cons_zero, List.set_cons_succ]
          refine wpAnyH_ready (rs := [4, 10]) (by kernel_rfl) (by simp) ?_
          refine AllReadyH.cons rfl (fun K hK => ?_) ?_
          · have ac : wd1.cell? ⟨C, 3, none⟩ = some (.slice none 0 0) := by rw [cell_of_row _ _ _ _ _ _ ((HB1.out.block C XLT.out).trans XC.out)]; rfl
            go_simp
            clear ac
            refine hK.out _ _ (by assumption) (fun hHeld' => ?_)
            clear hHeld
            have hHeld := hHeld'
            clear hHeld'
            clear hK K
            try simp only [Act.put, List.getElem_toArray, List.getElem_cons_succ, List.getElem_cons_zero, List.setIfInBounds_toArray, List.set_cons_zero, List.set_cons_succ]
            refine wpAnyH_ready (rs := [10]) (by kernel_rfl) (by simp) ?_
            refine AllReadyH.cons rfl (fun K hK => ?_) ?_
            · go_simp
              refine (CP.out wd1 HB1.out).mono ?_
              rintro e wd2 ⟨⟨tv2, rfl, hct⟩, hb⟩
              have CT0 := Lib.hid hct
              have HB2 := Lib.hid (HB1.out.trans (hb.mono HB1.out.size))
              clear hct
              obtain ⟨p2, rfl⟩ : ∃ p, tv2 = .pointer p := CT0.out.form
              refine hK.out _ _ (holdG5 hHeld hb) (fun hHeld' => ?_)
              clear hHeld
              have hHeld := hHeld'
              clear hHeld'
              clear hb
              clear hK K
              try simp only [Act.put, List.getElem_toArray, List.getElem_cons_succ, List.getElem_cons_zero, List.setIfInBounds_toArray, List.set_cons_zero, List.set_cons_succ]
              refine wpAnyH_take (i := 11) (v := ?v7012) rfl (by kernel_rfl) (by kernel_rfl) (by kernel_rfl) (fun _ _ _ h => h) (Or.inl ⟨by rfl, ?y7012⟩) (by assumption) ?r7012
              case y7012 => ((intro w hSw; (try dsimp only at hSw); go_simp); try with_reducible rfl)
              try simp only [Act.put, List.getElem_toArray, List.getElem_cons_succ, List.getElem_cons_zero, List.setIfInBounds_toArray, List.set_cons_zero, List.set_cons_succ]
              refine wpAnyH_ready (rs := [12]) (by kernel_rfl) (by simp) ?_
              refine AllReadyH.cons rfl (fun K hK => ?_) ?_
              · go_simp
                have na := new_val wd2 (.cells #[.slice A8 q c8, .pointer p2] 54)
                have NW := Lib.hid (heap_alloc_new wd2 (.cells #[.slice A8 q c8, .pointer p2] 54))
                have CT := Lib.hid (CT0.out.below na)
                have HBe := Lib.hid (HB2.out.trans (na.mono HB2.out.size))
                refine hK.out _ _ (holdG5 hHeld na) (fun hHeld' => ?_)
                clear hHeld
                have hHeld := hHeld'
                clear hHeld'
                clear na
                generalize wd2.alloc (.cells #[.slice A8 q c8, .pointer p2] 54) = we at hHeld NW CT HBe ⊢
                generalize wd2.heap.size = gl at NW ⊢
                clear hK K
                try simp only [Act.put, List.getElem_toArray, List.getElem_cons_succ, List.getElem_cons_zero, List.setIfInBounds_toArray, List.set_cons_zero, List.set_cons_succ]
                refine wpAnyH_ready (rs := [13]) (by kernel_rfl) (by simp) ?_
                refine AllReadyH.cons rfl (fun K hK => ?_) ?_
                · refine push_fu_step rfl (.tmp 36) (.tmp 44) rfl we wb.heap.size gl (.slice none 0 0) [] A8 q c8 p2 rfl (by rfl) (ownFu_nil _ _) NW.out HBe.out.size (by simp) ?_
                  intro v10 w10 hO hg hat
                  obtain ⟨A10, c10, rfl⟩ : ∃ A c, v10 = .slice A 1 c := hO.form
                  have OX := Lib.hid hO
                  have bx := below_none hg
                  have BW := Lib.hid (HBe.out.trans (bx.mono HBe.out.size))
                  have CT1 := Lib.hid (CT.out.below bx)
                  refine hK.out _ _ (holdG5 hHeld bx) (fun hHeld' => ?_)
                  clear hHeld
                  have hHeld := hHeld'
                  clear hHeld'
                  clear hO hg hat bx
                  clear hK K
                  try simp only [Act.put, List.getElem_toArray, List.getElem_cons_succ, List.getElem_cons_zero, List.setIfInBounds_toArray, List.set_cons_zero, List.set_cons_succ]
                  refine wpAnyH_take (i := 14) (v := ?v7013) rfl (by kernel_rfl) (by kernel_rfl) (by kernel_rfl) (fun _ _ _ h => h) (Or.inl ⟨by rfl, ?y7013⟩) (by assumption) ?r7013
                  case y7013 => ((intro w hSw; (try dsimp only at hSw); go_simp); try with_reducible rfl)
                  try simp only [Act.put, List.getElem_toArray, List.getElem_cons_succ, List.getElem_cons_zero, List.setIfInBounds_toArray, List.set_cons_zero, List.set_cons_succ]
                  refine wpAnyH_take (i := 15) (v := ?v7014) rfl (by kernel_rfl) (by kernel_rfl) (by kernel_rfl) (fun _ _ _ h => h) (Or.inl ⟨by rfl, ?y7014⟩) (by assumption) ?r7014
                  case y7014 => ((intro w hSw; (try dsimp only at hSw); go_simp); try with_reducible rfl)
                  try simp only [Act.put, List.getElem_toArray, List.getElem_cons_succ, List.getElem_cons_zero, List.setIfInBounds_toArray, List.set_cons_zero, List.set_cons_succ]
                  refine wpAnyH_ready (rs := [16]) (by kernel_rfl) (by simp) ?_
                  refine AllReadyH.cons rfl (fun K hK => ?_) ?_
                  · have R10 := Lib.hid ((BW.out.block C XLT.out).trans XC.out)
                    have ac : w10.cell? ⟨C, 3, none⟩ = some (.slice none 0 0) := by rw [cell_of_row _ _ _ _ _ _ R10.out]; rfl
                    have af : w10.frozen? ⟨C, 3, none⟩ = false := frozen_of_row _ _ _ _ _ R10.out
                    go_simp
                    clear ac af
                    refine hK.out _ _ (?hst) (fun hHeld' => ?_)
                    case hst => exact holdG5_put hHeld GC.out
                    clear hHeld
                    have hHeld := hHeld'
                    clear hHeld'
                    clear hK K
                    try simp only [Act.put, List.getElem_toArray, List.getElem_cons_succ, List.getElem_cons_zero, List.setIfInBounds_toArray, List.set_cons_zero, List.set_cons_succ]
                    refine wpAnyH_done (by kernel_rfl) ?_ _
                    refine NoPanic.normal ?_
                    clear hHeld
                    have DN := Lib.hid (copy_done OX.out CT1.out BW.out R10.out KO.out KB.out SC.out XLT.out)
                    go_wp2_with fail
                    go_meet
                    case rel => exact DN
                  exact AllReadyH.nil
                exact AllReadyH.nil
              exact AllReadyH.nil
            exact AllReadyH.nil
          refine AllReadyH.cons rfl (fun K hK => ?_) ?_
          · go_simp
            refine (CP.out wd1 HB1.out).mono ?_
            rintro e wd2 ⟨⟨tv2, rfl, hct⟩, hb⟩
            have CT0 := Lib.hid hct
            have HB2 := Lib.hid (HB1.out.trans (hb.mono HB1.out.size))
            clear hct
            obtain ⟨p2, rfl⟩ : ∃ p, tv2 = .pointer p := CT0.out.form
            refine hK.out _ _ (holdG5 hHeld hb) (fun hHeld' => ?_)
            clear hHeld
            have hHeld := hHeld'
            clear hHeld'
            clear hb
            clear hK K
            try simp only [Act.put, List.getElem_toArray, List.getElem_cons_succ, List.getElem_cons_zero, List.setIfInBounds_toArray, List.set_cons_zero, List.set_cons_succ]
            refine wpAnyH_take (i := 11) (v := ?v7015) rfl (by kernel_rfl) (by kernel_rfl) (by kernel_rfl) (fun _ _ _ h => h) (Or.inl ⟨by rfl, ?y7015⟩) (by assumption) ?r7015
            case y7015 => ((intro w hSw; (try dsimp only at hSw); go_simp); try with_reducible rfl)
            try simp only [Act.put, List.getElem_toArray, List.getElem_cons_succ, List.getElem_cons_zero, List.setIfInBounds_toArray, List.set_cons_zero, List.set_cons_succ]
            refine wpAnyH_ready (rs := [4, 12]) (by kernel_rfl) (by simp) ?_
            refine AllReadyH.cons rfl (fun K hK => ?_) ?_
            · have ac : wd2.cell? ⟨C, 3, none⟩ = some (.slice none 0 0) := by rw [cell_of_row _ _ _ _ _ _ ((HB2.out.block C XLT.out).trans XC.out)]; rfl
              go_simp
              clear ac
              refine hK.out _ _ (by assumption) (fun hHeld' => ?_)
              clear hHeld
              have hHeld := hHeld'
              clear hHeld'
              clear hK K
              try simp only [Act.put, List.getElem_toArray, List.getElem_cons_succ, List.getElem_cons_zero, List.setIfInBounds_toArray, List.set_cons_zero, List.set_cons_succ]
              refine wpAnyH_ready (rs := [12]) (by kernel_rfl) (by simp) ?_
              refine AllReadyH.cons rfl (fun K hK => ?_) ?_
              · go_simp
                have na := new_val wd2 (.cells #[.slice A8 q c8, .pointer p2] 54)
                have NW := Lib.hid (heap_alloc_new wd2 (.cells #[.slice A8 q c8, .pointer p2] 54))
                have CT := Lib.hid (CT0.out.below na)
                have HBe := Lib.hid (HB2.out.trans (na.mono HB2.out.size))
                refine hK.out _ _ (holdG5 hHeld na) (fun hHeld' => ?_)
                clear hHeld
                have hHeld := hHeld'
                clear hHeld'
                clear na
                generalize wd2.alloc (.cells #[.slice A8 q c8, .pointer p2] 54) = we at hHeld NW CT HBe ⊢
                generalize wd2.heap.size = gl at NW ⊢
                clear hK K
                try simp only [Act.put, List.getElem_toArray, List.getElem_cons_succ, List.getElem_cons_zero, List.setIfInBounds_toArray, List.set_cons_zero, List.set_cons_succ]
                refine wpAnyH_ready (rs := [13]) (by kernel_rfl) (by simp) ?_
                refine AllReadyH.cons rfl (fun K hK => ?_) ?_
                · refine push_fu_step rfl (.tmp 36) (.tmp 44) rfl we wb.heap.size gl (.slice none 0 0) [] A8 q c8 p2 rfl (by rfl) (ownFu_nil _ _) NW.out HBe.out.size (by simp) ?_
                  intro v10 w10 hO hg hat
                  obtain ⟨A10, c10, rfl⟩ : ∃ A c, v10 = .slice A 1 c := hO.form
                  have OX := Lib.hid hO
                  have bx := below_none hg
                  have BW := Lib.hid (HBe.out.trans (bx.mono HBe.out.size))
                  have CT1 := Lib.hid (CT.out.below bx)
                  refine hK.out _ _ (holdG5 hHeld bx) (fun hHeld' => ?_)
                  clear hHeld
                  have hHeld := hHeld'
                  clear hHeld'
                  clear hO hg hat bx
                  clear hK K
                  try simp only [Act.put, List.getElem_toArray, List.getElem_cons_succ, List.getElem_cons_zero, List.setIfInBounds_toArray, List.set_cons_zero, List.set_cons_succ]
                  refine wpAnyH_take (i := 14) (v := ?v7016) rfl (by kernel_rfl) (by kernel_rfl) (by kernel_rfl) (fun _ _ _ h => h) (Or.inl ⟨by rfl, ?y7016⟩) (by assumption) ?r7016
                  case y7016 => ((intro w hSw; (try dsimp only at hSw); go_simp); try with_reducible rfl)
                  try simp only [Act.put, List.getElem_toArray, List.getElem_cons_succ, List.getElem_cons_zero, List.setIfInBounds_toArray, List.set_cons_zero, List.set_cons_succ]
                  refine wpAnyH_take (i := 15) (v := ?v7017) rfl (by kernel_rfl) (by kernel_rfl) (by kernel_rfl) (fun _ _ _ h => h) (Or.inl ⟨by rfl, ?y7017⟩) (by assumption) ?r7017
                  case y7017 => ((intro w hSw; (try dsimp only at hSw); go_simp); try with_reducible rfl)
                  try simp only [Act.put, List.getElem_toArray, List.getElem_cons_succ, List.getElem_cons_zero, List.setIfInBounds_toArray, List.set_cons_zero, List.set_cons_succ]
                  refine wpAnyH_ready (rs := [16]) (by kernel_rfl) (by simp) ?_
                  refine AllReadyH.cons rfl (fun K hK => ?_) ?_
                  · have R10 := Lib.hid ((BW.out.block C XLT.out).trans XC.out)
                    have ac : w10.cell? ⟨C, 3, none⟩ = some (.slice none 0 0) := by rw [cell_of_row _ _ _ _ _ _ R10.out]; rfl
                    have af : w10.frozen? ⟨C, 3, none⟩ = false := frozen_of_row _ _ _ _ _ R10.out
                    go_simp
                    clear ac af
                    refine hK.out _ _ (?hst) (fun hHeld' => ?_)
                    case hst => exact holdG5_put hHeld GC.out
                    clear hHeld
                    have hHeld := hHeld'
                    clear hHeld'
                    clear hK K
                    try simp only [Act.put, List.getElem_toArray, List.getElem_cons_succ, List.getElem_cons_zero, List.setIfInBounds_toArray, List.set_cons_zero, List.set_cons_succ]
                    refine wpAnyH_done (by kernel_rfl) ?_ _
                    refine NoPanic.normal ?_
                    clear hHeld
                    have DN := Lib.hid (copy_done OX.out CT1.out BW.out R10.out KO.out KB.out SC.out XLT.out)
                    go_wp2_with fail
                    go_meet
                    case rel => exact DN
                  exact AllReadyH.nil
                exact AllReadyH.nil
              exact AllReadyH.nil
            refine AllReadyH.cons rfl (fun K hK => ?_) ?_
            · go_simp
              have na := new_val wd2 (.cells #[.slice A8 q c8, .pointer p2] 54)
              have NW := Lib.hid (heap_alloc_new wd2 (.cells #[.slice A8 q c8, .pointer p2] 54))
              have CT := Lib.hid (CT0.out.below na)
              have HBe := Lib.hid (HB2.out.trans (na.mono HB2.out.size))
              refine hK.out _ _ (holdG5 hHeld na) (fun hHeld' => ?_)
              clear hHeld
              have hHeld := hHeld'
              clear hHeld'
              clear na
              generalize wd2.alloc (.cells #[.slice A8 q c8, .pointer p2] 54) = we at hHeld NW CT HBe ⊢
              generalize wd2.heap.size = gl at NW ⊢
              clear hK K
              try simp only [Act.put, List.getElem_toArray, List.getElem_cons_succ, List.getElem_cons_zero, List.setIfInBounds_toArray, List.set_cons_zero, List.set_cons_succ]
              refine wpAnyH_ready (rs := [4]) (by kernel_rfl) (by simp) ?_
              refine AllReadyH.cons rfl (fun K hK => ?_) ?_
              · have ac : we.cell? ⟨C, 3, none⟩ = some (.slice none 0 0) := by rw [cell_of_row _ _ _ _ _ _ ((HBe.out.block C XLT.out).trans XC.out)]; rfl
                go_simp
                clear ac
                refine hK.out _ _ (by assumption) (fun hHeld' => ?_)
                clear hHeld
                have hHeld := hHeld'
                clear hHeld'
                clear hK K
                try simp only [Act.put, List.getElem_toArray, List.getElem_cons_succ, List.getElem_cons_zero, List.setIfInBounds_toArray, List.set_cons_zero, List.set_cons_succ]
                refine wpAnyH_ready (rs := [13]) (by kernel_rfl) (by simp) ?_
                refine AllReadyH.cons rfl (fun K hK => ?_) ?_
                · refine push_fu_step rfl (.tmp 36) (.tmp 44) rfl we wb.heap.size gl (.slice none 0 0) [] A8 q c8 p2 rfl (by rfl) (ownFu_nil _ _) NW.out HBe.out.size (by simp) ?_
                  intro v10 w10 hO hg hat
                  obtain ⟨A10, c10, rfl⟩ : ∃ A c, v10 = .slice A 1 c := hO.form
                  have OX := Lib.hid hO
                  have bx := below_none hg
                  have BW := Lib.hid (HBe.out.trans (bx.mono HBe.out.size))
                  have CT1 := Lib.hid (CT.out.below bx)
                  refine hK.out _ _ (holdG5 hHeld bx) (fun hHeld' => ?_)
                  clear hHeld
                  have hHeld := hHeld'
                  clear hHeld'
                  clear hO hg hat bx
                  clear hK K
                  try simp only [Act.put, List.getElem_toArray, List.getElem_cons_succ, List.getElem_cons_zero, List.setIfInBounds_toArray, List.set_cons_zero, List.set_cons_succ]
                  refine wpAnyH_take (i := 14) (v := ?v7018) rfl (by kernel_rfl) (by kernel_rfl) (by kernel_rfl) (fun _ _ _ h => h) (Or.inl ⟨by rfl, ?y7018⟩) (by assumption) ?r7018
                  case y7018 => ((intro w hSw; (try dsimp only at hSw); go_simp); try with_reducible rfl)
                  try simp only [Act.put, List.getElem_toArray, List.getElem_cons_succ, List.getElem_cons_zero, List.setIfInBounds_toArray, List.set_cons_zero, List.set_cons_succ]
                  refine wpAnyH_take (i := 15) (v := ?v7019) rfl (by kernel_rfl) (by kernel_rfl) (by kernel_rfl) (fun _ _ _ h => h) (Or.inl ⟨by rfl, ?y7019⟩) (by assumption) ?r7019
                  case y7019 => ((intro w hSw; (try dsimp only at hSw); go_simp); try with_reducible rfl)
                  try simp only [Act.put, List.getElem_toArray, List.getElem_cons_succ, List.getElem_cons_zero, List.setIfInBounds_toArray, List.set_cons_zero, List.set_cons_succ]
                  refine wpAnyH_ready (rs := [16]) (by kernel_rfl) (by simp) ?_
                  refine AllReadyH.cons rfl (fun K hK => ?_) ?_
                  · have R10 := Lib.hid ((BW.out.block C XLT.out).trans XC.out)
                    have ac : w10.cell? ⟨C, 3, none⟩ = some (.slice none 0 0) := by rw [cell_of_row _ _ _ _ _ _ R10.out]; rfl
                    have af : w10.frozen? ⟨C, 3, none⟩ = false := frozen_of_row _ _ _ _ _ R10.out
                    go_simp
                    clear ac af
                    refine hK.out _ _ (?hst) (fun hHeld' => ?_)
                    case hst => exact holdG5_put hHeld GC.out
                    clear hHeld
                    have hHeld := hHeld'
                    clear hHeld'
                    clear hK K
                    try simp only [Act.put, List.getElem_toArray, List.getElem_cons_succ, List.getElem_cons_zero, List.setIfInBounds_toArray, List.set_cons_zero, List.set_cons_succ]
                    refine wpAnyH_done (by kernel_rfl) ?_ _
                    refine NoPanic.normal ?_
                    clear hHeld
                    have DN := Lib.hid (copy_done OX.out CT1.out BW.out R10.out KO.out KB.out SC.out XLT.out)
                    go_wp2_with fail
                    go_meet
                    case rel => exact DN
                  exact AllReadyH.nil
                exact AllReadyH.nil
              exact AllReadyH.nil
            exact AllReadyH.nil
          exact AllReadyH.nil
        exact AllReadyH.nil
      have DN := hcut
      clear hcut
      go_wp2_with fail
      exact ⟨.inr ⟨rfl, DN.out⟩, by simp [intOf]⟩
    · have DN := Lib.hid hD
      clear hD
      go_wp2_with fail
      go_ret
      first | exact ⟨C, A2, c2, rfl, SC.out, DN.out⟩ | exact ⟨C, rfl, SC.out, A2, c2, DN.out⟩
end Go.Proofs.YteocbgcgfllieaaGreatDoor
