/- Texts of this seat laid together (no statement of its own). -/
import Derived.Test.YteocbgcgfllieaaGreatDoorMgH
import Derived.Deep.RegionHeld3
import Derived.Maps.OwnOps
import Derived.Maps.OwnSet
import Derived.Maps.Views
namespace Go.Proofs.YteocbgcgfllieaaGreatDoor
open Go.RowKit
set_option linter.unusedVariables false
/-- A list of numbers in a block of numbers, which a reader's work doesn't touch. -/
def IntsT (W : World) (b sc : Nat) (A : Option Addr) (l : List Nat) : Prop :=
  l = [] ∨ ∃ g o cur fr, A = some ⟨g, o, none⟩ ∧ W.heap[g]? = some (.cells cur 3 fr) ∧ g ≠ b ∧ g ≠ sc ∧ ∀ i, i < l.length → W.cell? ⟨g, o + i, none⟩ = some (.int .i64 (nth l i : Int))
theorem IntsT.k {W : World} {b sc : Nat} {A : Option Addr} {l : List Nat} (h : IntsT W b sc A l) : IntsK W b sc A l := by
  rcases h with rfl | ⟨g, o, cur, fr, rfl, hg, h1, h2, hc⟩
  · exact .inl rfl
  · exact .inr ⟨g, o, rfl, (Array.getElem?_eq_some_iff.1 hg).1, h1, h2, hc⟩
theorem IntsT.keep {W W' : World} {b sc : Nat} {A : Option Addr} {l : List Nat} (h : IntsT W b sc A l) (hk : ∀ g cur fr, W.heap[g]? = some (.cells cur 3 fr) → g ≠ b → g ≠ sc → W'.heap[g]? = W.heap[g]?) : IntsT W' b sc A l := by
  rcases h with rfl | ⟨g, o, cur, fr, rfl, hg, h1, h2, hc⟩
  · exact .inl rfl
  · have e := hk g cur fr hg h1 h2
    exact .inr ⟨g, o, cur, fr, rfl, e.trans hg, h1, h2, fun i hi => (World.cell?_of_block (a := ⟨g, o + i, none⟩) e).trans (hc i hi)⟩
theorem IntsT.own {W : World} {b sc base c : Nat} {A : Option Addr} {l : List Nat} (h : Own W base (.slice A l.length c) l) (h1 : b < base) (h2 : sc < base) : IntsT W b sc A l := by
  have h' := h
  obtain ⟨_, ⟨e, hn⟩ | ⟨g, cap, cur, e, hb, hh, _⟩⟩ := h'
  · exact .inl (List.eq_nil_of_length_eq_zero hn)
  · injection e with e1 e2 e3
    subst e1
    rcases IntsK.own h h1 h2 with rfl | ⟨g', o', e4, _, h3, h4, hc⟩
    · exact .inl rfl
    · injection e4 with e4
      injection e4 with e5 e6
      subst e5 e6
      exact .inr ⟨g, 0, cur, (0, 0), rfl, hh, h3, h4, hc⟩
theorem keep_rk {W W' : World} {b sc : Nat} (hk : RK W b sc W') : ∀ g cur fr, W.heap[g]? = some (.cells cur 3 fr) → g ≠ b → g ≠ sc → W'.heap[g]? = W.heap[g]? := fun g cur fr h h1 h2 => hk.block g (Array.getElem?_eq_some_iff.1 h).1 h1 h2
/-- Blocks of numbers and of lines stay. -/
structure KeepT (W W' : World) (b sc : Nat) : Prop where
  ints : ∀ g cur fr, W.heap[g]? = some (.cells cur 3 fr) → g ≠ b → g ≠ sc → W'.heap[g]? = W.heap[g]?
  lines : ∀ g cur fr, W.heap[g]? = some (.cells cur 130 fr) → g ≠ b → g ≠ sc → W'.heap[g]? = W.heap[g]?
theorem KeepT.rk {W W' : World} {b sc : Nat} (hk : RK W b sc W') : KeepT W W' b sc :=
  ⟨keep_rk hk, fun g cur fr h h1 h2 => hk.block g (Array.getElem?_eq_some_iff.1 h).1 h1 h2⟩
theorem KeepT.trans {W W' W'' : World} {b sc : Nat} (h : KeepT W W' b sc) (k : KeepT W' W'' b sc) : KeepT W W'' b sc :=
  ⟨fun g cur fr h0 h1 h2 => (k.ints g cur fr ((h.ints g cur fr h0 h1 h2).trans h0) h1 h2).trans (h.ints g cur fr h0 h1 h2), fun g cur fr h0 h1 h2 => (k.lines g cur fr ((h.lines g cur fr h0 h1 h2).trans h0) h1 h2).trans (h.lines g cur fr h0 h1 h2)⟩
theorem IntsT.rk {W W' : World} {b sc : Nat} {A : Option Addr} {l : List Nat} (h : IntsT W b sc A l) (hk : RK W b sc W') : IntsT W' b sc A l := h.keep (keep_rk hk)
/-- Lines in memory: a tuple and a cost each. -/
def LinesK (W : World) (b sc : Nat) (A : Option Addr) (ls : List LineM) : Prop :=
  ls = [] ∨ ∃ g o cur fr, A = some ⟨g, o, none⟩ ∧ W.heap[g]? = some (.cells cur 130 fr) ∧ g ≠ b ∧ g ≠ sc ∧ ∀ i x, ls[i]? = some x → W.cell? ⟨g, o + i * 2 + 1, none⟩ = some (.int .i64 x.2) ∧ ∃ At ct, W.cell? ⟨g, o + i * 2, none⟩ = some (.slice At x.1.length ct) ∧ IntsT W b sc At x.1
theorem LinesK.keep {W W' : World} {b sc : Nat} {A : Option Addr} {ls : List LineM} (h : LinesK W b sc A ls) (hk : KeepT W W' b sc) : LinesK W' b sc A ls := by
  rcases h with rfl | ⟨g, o, cur, fr, rfl, hg, h1, h2, hc⟩
  · exact .inl rfl
  · have e := hk.lines g cur fr hg h1 h2
    refine .inr ⟨g, o, cur, fr, rfl, e.trans hg, h1, h2, fun i x hx => ?_⟩
    obtain ⟨k1, At, ct, k2, k3⟩ := hc i x hx
    exact ⟨(World.cell?_of_block e).trans k1, At, ct, (World.cell?_of_block e).trans k2, k3.keep hk.ints⟩
theorem LinesK.rk {W W' : World} {b sc : Nat} {A : Option Addr} {ls : List LineM} (h : LinesK W b sc A ls) (hk : RK W b sc W') : LinesK W' b sc A ls := h.keep (KeepT.rk hk)
/-- A function in memory: what its three cells hold. -/
def FunC (W : World) (b sc : Nat) (sv lv : Value) (f : FunM) : Prop :=
  (∃ A c, sv = .slice A f.scope.length c ∧ f.scope.length ≤ c ∧ IntsT W b sc A f.scope) ∧ ∃ A c, lv = .slice A f.lines.length c ∧ LinesK W b sc A f.lines
theorem FunC.keep {W W' : World} {b sc : Nat} {sv lv : Value} {f : FunM} (h : FunC W b sc sv lv f) (hk : KeepT W W' b sc) : FunC W' b sc sv lv f := by
  obtain ⟨⟨A, c, h1, h0, h2⟩, A', c', h3, h4⟩ := h
  exact ⟨⟨A, c, h1, h0, h2.keep hk.ints⟩, A', c', h3, h4.keep hk⟩
theorem FunC.rk {W W' : World} {b sc : Nat} {sv lv : Value} {f : FunM} (h : FunC W b sc sv lv f) (hk : RK W b sc W') : FunC W' b sc sv lv f := h.keep (KeepT.rk hk)
def FunsK (W : World) (b sc : Nat) (A : Option Addr) (fs : List FunM) : Prop :=
  fs = [] ∨ ∃ g o, A = some ⟨g, o, none⟩ ∧ g < W.heap.size ∧ g ≠ b ∧ g ≠ sc ∧ ∀ i f, fs[i]? = some f → ∃ sv lv, W.cell? ⟨g, o + i * 3, none⟩ = some sv ∧ W.cell? ⟨g, o + i * 3 + 1, none⟩ = some (.int .i64 f.other) ∧ W.cell? ⟨g, o + i * 3 + 2, none⟩ = some lv ∧ FunC W b sc sv lv f
theorem FunsK.rk {W W' : World} {b sc : Nat} {A : Option Addr} {fs : List FunM} (h : FunsK W b sc A fs) (hk : RK W b sc W') : FunsK W' b sc A fs := by
  rcases h with rfl | ⟨g, o, rfl, hg, h1, h2, hc⟩
  · exact .inl rfl
  · refine .inr ⟨g, o, rfl, Nat.lt_of_lt_of_le hg hk.size, h1, h2, fun i f hf => ?_⟩
    obtain ⟨sv, lv, k1, k2, k3, k4⟩ := hc i f hf
    exact ⟨sv, lv, (World.cell?_of_block (hk.block g hg h1 h2)).trans k1, (World.cell?_of_block (hk.block g hg h1 h2)).trans k2, (World.cell?_of_block (hk.block g hg h1 h2)).trans k3, k4.rk hk⟩
theorem IntsK.ints {W : World} {b sc : Nat} {A : Option Addr} {l : List Nat} (h : IntsK W b sc A l) : Ints W A l := by
  rcases h with rfl | ⟨g, o, rfl, hg, h1, h2, hc⟩
  · exact .inl rfl
  · exact .inr ⟨g, o, rfl, hg, hc⟩
theorem IntsT.ints {W : World} {b sc : Nat} {A : Option Addr} {l : List Nat} (h : IntsT W b sc A l) : Ints W A l := h.k.ints
/-- No function so far: malformed. -/
theorem linesOf_far (b sc : Nat) (s : ByteArray) (st : RdS) (v : RdV) (Ash : Option Addr) (n c i p : Nat) (sv : Value) (w : World) (hi : n ≤ i) (hsm : i ≤ 4611686018427387904) (h : RdOk w b sc s st v) (hv : v.shared = .slice Ash n c) :
    Calls Tryz.prog 97 #[.pointer (some ⟨b, 0, none⟩), .int .i64 ((i : Int) + 1), sv, .int .i64 (p : Int)] w fun e w' => e = .returned (.slice none 0 0) ∧ RK w b sc w' ∧ RdBad w' b 4 p { v with fp := (p : Int), fe := 4 } := by
  have c9 : w.cell? ⟨b, 9, none⟩ = some (.slice Ash n c) := hv ▸ h.at_.cell (i := 9) rfl
  have NT := Lib.hid (note_new b 1 (p : Int) 4 w _ _ h.at_ (Or.inr ⟨v.fp, rfl⟩) (h.fine ▸ rfl))
  have HH := Lib.hid h
  have d1 : decide ((n : Int) < (i : Int) + 1) = true := decide_eq_true (by omega)
  clear h hv hi
  go_enter Tryz.func97, Tryz.ntmps97
  go_wp2_with (first | (go_at_call 81; refine NT.out.mono ?_; rintro e w' ⟨⟨_, rfl⟩, h1, h2⟩) | fail)
  go_ret
  exact ⟨rfl, RK.grown1 h2, HH.out.told (by decide) h1 h2⟩
end Go.Proofs.YteocbgcgfllieaaGreatDoor

namespace Go.Proofs.YteocbgcgfllieaaGreatDoor
open Go.RowKit
set_option linter.unusedVariables false
theorem pickedI (c1 c2 : Nat) (A1 A2 : Option Addr) (l at_ : List Nat) (w : World) (hl : l.length ≤ 100000) (hat : at_.length ≤ 100001) (hin : ∀ x ∈ at_, x < l.length) (h1 : Ints w A1 l) (h2 : Ints w A2 at_) :
    Calls Tryz.prog 41 #[.slice A1 l.length c1, .slice A2 at_.length c2] w fun e w' => (∃ A c, e = .returned (.slice A (pickN l at_).length c) ∧ Ints w' A (pickN l at_)) ∧ Below w.heap.size w w' := by
  refine (pickedR c1 c2 A1 A2 l at_ w hl hat hin h1 h2).mono ?_
  rintro e w' ⟨⟨A, rfl, hO⟩, hb⟩
  obtain ⟨A', c', e', hI⟩ := hO.form
  injection e' with e1 e2 e3
  subst e1 e3
  exact ⟨⟨A, _, by rw [← e2], hI⟩, hb⟩
abbrev HoldM (wb : World) (b bx nz cs n1 q1 n2 q2 : Nat) (oth : Int) (As A1 A2 : Option Addr) (W : World) : Prop :=
  W.cell? ⟨b, 7, none⟩ = some (.slice As nz cs) ∧ W.cell? ⟨bx, 0, none⟩ = some (.slice A1 n1 q1) ∧ W.cell? ⟨bx, 2, none⟩ = some (.slice A2 n2 q2) ∧ Below wb.heap.size wb W
theorem holdM {wb W W' : World} {b bx nz cs n1 q1 n2 q2 : Nat} {oth : Int} {As A1 A2 : Option Addr} (H : HoldM wb b bx nz cs n1 q1 n2 q2 oth As A1 A2 W) (hb : Below W.heap.size W W') : HoldM wb b bx nz cs n1 q1 n2 q2 oth As A1 A2 W' := by
  obtain ⟨a0, a1, a2, h9⟩ := H
  have K : ∀ b i v, W.cell? ⟨b, i, none⟩ = some v → W'.cell? ⟨b, i, none⟩ = some v := fun b i v h => (hb.cell (p := ⟨b, i, none⟩) (World.block_lt_of_cell? W _ h)).trans h
  exact ⟨K _ _ _ a0, K _ _ _ a1, K _ _ _ a2, h9.trans (hb.mono h9.size)⟩
theorem HoldM.below {wb W : World} {b bx nz cs n1 q1 n2 q2 : Nat} {oth : Int} {As A1 A2 : Option Addr} (H : HoldM wb b bx nz cs n1 q1 n2 q2 oth As A1 A2 W) : Below wb.heap.size wb W := H.2.2.2
theorem HoldM.c2 {wb W W' : World} {b bx nz cs n1 q1 n2 q2 : Nat} {oth : Int} {As A1 A2 : Option Addr} (H : HoldM wb b bx nz cs n1 q1 n2 q2 oth As A1 A2 W) (hg : W.grownBy W' (some b)) (hne : bx ≠ b) : W'.cell? ⟨bx, 2, none⟩ = some (.slice A2 n2 q2) :=
  (World.cell?_of_block (a := ⟨bx, 2, none⟩) (hg.block bx (World.block_lt_of_cell? W _ H.2.2.1) (fun e => hne (Option.some.inj e)))).trans H.2.2.1
set_option maxRecDepth 100000 in
set_option maxHeartbeats 4000000 in
theorem linesOf_ok (b sc : Nat) (s : ByteArray) (st : RdS) (v : RdV) (Ash As Ac : Option Addr) (n c cs cc i p : Nat) (sizes scope : List Nat) (shared : List FunM) (f : FunM) (w : World) (hi : shared[i]? = some f) (hsm : i ≤ 4611686018427387904) (h : RdOk w b sc s st v) (hv : v.shared = .slice Ash shared.length c) (hvs : v.sizes = .slice As sizes.length cs)
    (hnv : sizes.length ≤ 100000) (hlen : scope.length ≤ 100001) (hin : ∀ x ∈ scope, x < sizes.length) (hlf : f.scope.length ≤ 100001) (hif : ∀ x ∈ f.scope, x < sizes.length) (hF : FunsK w b sc Ash shared) (hS : IntsK w b sc As sizes) (hC : IntsK w b sc Ac scope) :
    Calls Tryz.prog 97 #[.pointer (some ⟨b, 0, none⟩), .int .i64 ((i : Int) + 1), .slice Ac scope.length cc, .int .i64 (p : Int)] w fun e w' => (∃ A c, e = .returned (.slice A f.lines.length c) ∧ LinesK w' b sc A f.lines) ∧ RK w b sc w' ∧
      if pickN sizes f.scope = pickN sizes scope then RdOk w' b sc s st v else RdBad w' b 4 p { v with fp := (p : Int), fe := 4 } := by
  have hlt : i < shared.length := (List.getElem?_eq_some_iff.1 hi).1
  have c9 : w.cell? ⟨b, 9, none⟩ = some (.slice Ash shared.length c) := hv ▸ h.at_.cell (i := 9) rfl
  have c7 : w.cell? ⟨b, 7, none⟩ = some (.slice As sizes.length cs) := hvs ▸ h.at_.cell (i := 7) rfl
  have d1 : decide ((shared.length : Int) < (i : Int) + 1) = false := decide_eq_false (by omega)
  obtain rfl | ⟨g, o, rfl, hg, hg1, hg2, hc⟩ := hF
  · simp at hlt
  obtain ⟨sv, lv, k1, k2, k3, k4⟩ := hc i f hi
  obtain ⟨⟨A1, q1, rfl, -, k5⟩, A2, q2, rfl, k6⟩ := k4
  have hx := heap_alloc_new w (.cells #[.slice A1 f.scope.length q1, .int .i64 f.other, .slice A2 f.lines.length q2] 126)
  have n1 := Lib.hid (new_val w (.cells #[.slice A1 f.scope.length q1, .int .i64 f.other, .slice A2 f.lines.length q2] 126))
  have HM : Hid (HoldM (w.alloc (.cells #[.slice A1 f.scope.length q1, .int .i64 f.other, .slice A2 f.lines.length q2] 126)) b w.heap.size sizes.length cs f.scope.length q1 f.lines.length q2 f.other As A1 A2 (w.alloc (.cells #[.slice A1 f.scope.length q1, .int .i64 f.other, .slice A2 f.lines.length q2] 126))) :=
    Lib.hid ⟨(n1.out.cell (p := ⟨b, 7, none⟩) h.lt).trans c7, by rw [cell_of_row _ _ _ _ _ _ hx]; rfl, by rw [cell_of_row _ _ _ _ _ _ hx]; rfl, Below.refl _ _⟩
  have P1 := Lib.hid (fun W (hb : Below w.heap.size w W) => pickedI cs q1 As A1 sizes f.scope W hnv hlf hif (hS.ints.below hb (Nat.le_refl _)) (k5.ints.below hb (Nat.le_refl _)))
  have P2 := Lib.hid (fun W (hb : Below w.heap.size w W) => pickedI cs cc As Ac sizes scope W hnv hlen hin (hS.ints.below hb (Nat.le_refl _)) (hC.ints.below hb (Nat.le_refl _)))
  have L1 := Lib.hid (show (pickN sizes f.scope).length ≤ 1000000 by simp [pickN]; omega)
  generalize pickN sizes f.scope = l1 at P1 L1 ⊢
  generalize pickN sizes scope = l2 at P2 ⊢
  have EQ := Lib.hid (fun W Aa Ab ca cb (ha : Ints W Aa l1) (hb : Ints W Ab l2) => equal_any Aa Ab ca cb l1 l2 W L1.out ha hb)
  have HH := Lib.hid h
  have K6 := Lib.hid k6
  clear h hv hvs hi hc k5 k6 hS hC hin hif hlen hlf hnv hg hg1 hg2 L1 hx
  by_cases he : l1 = l2
  · simp only [if_pos he]
    rw [decide_eq_true he] at EQ
    clear he
    go_enter Tryz.func97, Tryz.ntmps97
    go_upto_region 5 with fail
    generalize hw1 : w.alloc (.cells #[.slice A1 f.scope.length q1, .int .i64 f.other, .slice A2 f.lines.length q2] 126) = w1 at HM n1 ⊢
    clear c7 c9 k1 k2 k3
    generalize hbx : w.heap.size = bx at HM ⊢
    clear hbx
    go_region_held3 (fun W => HoldM w1 b bx sizes.length cs f.scope.length q1 f.lines.length q2 f.other As A1 A2 W) (first | exact holdM HM.out ((Below.refl _ _).drew) | exact holdM (by assumption) (by assumption))
      ((first | (go_at_call 41; with_reducible refine (P1.out _ (then_ n1.out (HoldM.below (by assumption)))).mono ?_; rintro e w' ⟨⟨A9, c9, rfl, hI9⟩, hb⟩; have HI9 := Lib.hid hI9; clear hI9)
              | (go_at_call 41; with_reducible refine (P2.out _ (then_ n1.out (HoldM.below (by assumption)))).mono ?_; rintro e w' ⟨⟨A8, c8, rfl, hI8⟩, hb⟩; have HI8 := Lib.hid (And.intro (HI9.out.below hb (Nat.le_refl _)) hI8); clear hI8)
              | (go_at_call 18; refine (EQ.out _ _ _ _ _ HI8.out.1 HI8.out.2).mono ?_; rintro e w' ⟨rfl, hb⟩)))
    go_wp2_with fail
    go_ret
    have hB := then_ n1.out (HoldM.below (by assumption))
    exact ⟨⟨A2, q2, rfl, K6.out.rk (RK.below hB)⟩, RK.below hB, HH.out.below hB⟩
  · simp only [if_neg he]
    rw [decide_eq_false he] at EQ
    clear he
    have NT := Lib.hid (fun W (hb : Below w.heap.size w W) => note_new b 1 (p : Int) 4 W _ _ (HH.out.below hb).at_ (Or.inr ⟨v.fp, rfl⟩) (HH.out.fine ▸ rfl))
    have BX := Lib.hid (show w.heap.size ≠ b by have := HH.out.lt; omega)
    go_enter Tryz.func97, Tryz.ntmps97
    go_upto_region 5 with fail
    generalize hw1 : w.alloc (.cells #[.slice A1 f.scope.length q1, .int .i64 f.other, .slice A2 f.lines.length q2] 126) = w1 at HM n1 ⊢
    clear c7 c9 k1 k2 k3
    generalize hbx : w.heap.size = bx at HM BX ⊢
    clear hbx
    go_region_held3 (fun W => HoldM w1 b bx sizes.length cs f.scope.length q1 f.lines.length q2 f.other As A1 A2 W) (first | exact holdM HM.out ((Below.refl _ _).drew) | exact holdM (by assumption) (by assumption))
      ((first | (go_at_call 41; with_reducible refine (P1.out _ (then_ n1.out (HoldM.below (by assumption)))).mono ?_; rintro e w' ⟨⟨A9, c9, rfl, hI9⟩, hb⟩; have HI9 := Lib.hid hI9; clear hI9)
              | (go_at_call 41; with_reducible refine (P2.out _ (then_ n1.out (HoldM.below (by assumption)))).mono ?_; rintro e w' ⟨⟨A8, c8, rfl, hI8⟩, hb⟩; have HI8 := Lib.hid (And.intro (HI9.out.below hb (Nat.le_refl _)) hI8); clear hI8)
              | (go_at_call 18; refine (EQ.out _ _ _ _ _ HI8.out.1 HI8.out.2).mono ?_; rintro e w' ⟨rfl, hb⟩)))
    go_wp2_with (first | (go_at_call 81; refine (NT.out _ (then_ n1.out (HoldM.below (by assumption)))).mono ?_; rintro e w3 ⟨⟨_, rfl⟩, z1, z2⟩; have z3 := HoldM.c2 (by assumption) z2 BX.out; have hB := Lib.hid (then_ n1.out (HoldM.below (by assumption))); replace z1 := Lib.hid z1; replace z2 := Lib.hid z2) | fail)
    go_ret
    have hk := (RK.below (p := b) (q := sc) hB.out).trans (RK.grown1 (q := sc) z2.out)
    exact ⟨⟨A2, q2, rfl, K6.out.rk hk⟩, hk, (HH.out.below hB.out).told (by decide) z1.out z2.out⟩
end Go.Proofs.YteocbgcgfllieaaGreatDoor

namespace Go.Proofs.YteocbgcgfllieaaGreatDoor
open Go.RowKit
set_option linter.unusedVariables false
theorem zeroI (w : World) : (zeroValue 3).run Tryz.prog w = .ok (.int .i64 0) w := by kernel_rfl
theorem lawS : Maps.Keyed Tryz.prog 9 := Maps.string_keyed Tryz.underlying9
/-- A map tells how often each text was seen. -/
structure Seen (w : World) (mb q : Nat) (D : DataW Unit) (f : List UInt8 → Int) : Prop where
  own : w.ownsMap Tryz.prog 9 (plainElem Tryz.prog 3) mb q D
  at_ : ∀ x, D.atKey (.string x) (.lit (.int .i64 0)) = .lit (.int .i64 (f x))
theorem seen_made (w : World) : Seen (w.alloc (.map #[] 0)) w.heap.size 0 (.map []) (fun _ => 0) := ⟨World.ownsMap_made _ _ _ _, fun x => rfl⟩
theorem Seen.block {w w' : World} {mb q : Nat} {D : DataW Unit} {f : List UInt8 → Int} (h : Seen w mb q D f) (hb : w'.heap[mb]? = w.heap[mb]?) : Seen w' mb q D f := by
  obtain ⟨⟨es, clock, h1, h2⟩, h3⟩ := h
  exact ⟨⟨es, clock, hb.trans h1, h2⟩, h3⟩
theorem Seen.put {w w' : World} {mb q : Nat} {D : DataW Unit} {f : List UInt8 → Int} (h : Seen w mb q D f) (x : List UInt8) (c : Int)
    (ho : w'.ownsMap Tryz.prog 9 (plainElem Tryz.prog 3) mb (q + 1) (D.put (.string x) (.lit (.int .i64 c)))) :
    Seen w' mb (q + 1) (D.put (.string x) (.lit (.int .i64 c))) (fun y => if y = x then c else f y) := by
  have ht := h.own.tidy lawS
  refine ⟨ho, fun y => ?_⟩
  by_cases e : y = x
  · subst e
    rw [if_pos rfl]
    exact Maps.atKey_put_same ht.isMap (by trivial) _ _
  · rw [if_neg e, Maps.atKey_put_other (by intro hq; injection hq with hq; exact e hq)]
    exact h.at_ y
end Go.Proofs.YteocbgcgfllieaaGreatDoor
