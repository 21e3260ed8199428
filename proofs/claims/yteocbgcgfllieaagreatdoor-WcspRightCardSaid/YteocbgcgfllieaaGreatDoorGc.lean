/- The law's own file: does its function fit, is it too great (no statement of its own). -/
import Derived.Test.YteocbgcgfllieaaGreatDoorGb
import Derived.Test.YteocbgcgfllieaaGreatDoorMgD
import Derived.Deep.RegionHeld3
namespace Go.Proofs.YteocbgcgfllieaaGreatDoor
open Go.RowKit
set_option linter.unusedVariables false
set_option maxRecDepth 100000 in
set_option maxHeartbeats 4000000 in
theorem misfitS (fb cs cf : Nat) (X : ByteArray) (k : Int) (sizes : List Nat) (fs : List FunM) (As Af : Option Addr) (f : FunM) (sv tv : Value) (w : World) (H : FileR w fb X k sizes fs As Af cs cf) (h : FunE w k sizes f (fun j => j < w.heap.size) sv tv) (hs : ∀ x ∈ sizes, 1 ≤ x ∧ x ≤ 32) (hsl : sizes.length ≤ 100) (hf : FunOk sizes f) (hl : f.scope.length ≤ 6 ∧ True) :
    Calls Tryz.prog 56 #[.pointer (some ⟨fb, 0, none⟩), .agg #[sv, tv]] w fun e w' => e = .returned (.bool false) ∧ Below w.heap.size w w' := by
  obtain ⟨Asc, csc, g, mb, A, c, N, rfl, hcap, rfl, h3, h4, h5, -⟩ := h
  have L6 : (pickN sizes f.scope).length ≤ 6 := by simp [pickN]; exact hl.1
  have LE : (pickN sizes f.scope).length = f.scope.length := by simp [pickN]
  have HF := Lib.hid hf
  have HL := Lib.hid hl
  have HSL := Lib.hid hsl
  have HR := Lib.hid H
  have HI := Lib.hid h3
  have HT := Lib.hid h4
  have HP6 := Lib.hid L6
  have HLE := Lib.hid LE
  have hsc6 : f.scope.length ≤ 6 := hl.1
  clear H h3 h4 h5 hs hsl hf hl L6 LE
  go_enter Tryz.func56, Tryz.ntmps56
  go_upto_region 1 with fail
  have n1 := new_val w (.cells #[.slice Asc f.scope.length csc, .pointer (some ⟨g, 0, none⟩)] 54)
  have X1 := Lib.hid (heap_alloc_new w (.cells #[.slice Asc f.scope.length csc, .pointer (some ⟨g, 0, none⟩)] 54))
  have N1 := Lib.hid n1
  have HR1 := Lib.hid (HR.out.below n1)
  have HT1 := Lib.hid (HT.out.below n1)
  have HI1 := Lib.hid (HI.out.below n1 (Nat.le_refl _))
  clear n1
  generalize w.alloc (.cells #[.slice Asc f.scope.length csc, .pointer (some ⟨g, 0, none⟩)] 54) = w1 at X1 N1 HR1 HT1 HI1 ⊢
  obtain ⟨B, hB0⟩ : ∃ B, w.heap.size = B := ⟨_, rfl⟩
  rw [hB0] at X1
  simp only [hB0]
  have HB0 := Lib.hid hB0
  clear hB0
  have b0 : w1.cell? ⟨B, 0, none⟩ = some (.slice Asc f.scope.length csc) := by rw [cell_of_row _ _ _ _ _ _ X1.out]; rfl
  have b1 : w1.cell? ⟨B, 1, none⟩ = some (.pointer (some ⟨g, 0, none⟩)) := by rw [cell_of_row _ _ _ _ _ _ X1.out]; rfl
  have f1 := HR1.out.cells.2.1
  have TK := Lib.hid (fun W (hb : Below w1.heap.size w1 W) => tpk_ok g mb N c A (pickN sizes f.scope) k _ _ W (HT1.out.below hb))
  have TA := Lib.hid (fun W (hb : Below w1.heap.size w1 W) => tparity_ok g mb N c A (pickN sizes f.scope) k _ _ W (HT1.out.below hb))
  rw [HLE.out] at TA
  have H0 : Hid (HoldQ2 w1 B fb g k f.scope.length csc Asc w1) := Lib.hid ⟨b1, f1, b0, Below.refl _ _⟩
  clear b0 b1 f1
  go_region_held3 (fun W => HoldQ2 w1 B fb g k f.scope.length csc Asc W) (first | exact holdQ2 H0.out ((Below.refl _ _).drew) | exact holdQ2 (by assumption) (by assumption) | assumption)
    ((first | (go_at_call 74; with_reducible refine (TK.out _ (HoldQ2.below (by assumption))).mono ?_; rintro e w' ⟨rfl, rfl⟩) | (go_at_call 75; with_reducible refine (TA.out _ (HoldQ2.below (by assumption))).mono ?_; rintro e w' ⟨rfl, rfl⟩)))
  have b0 : w1.cell? ⟨B, 0, none⟩ = some (.slice Asc f.scope.length csc) := H0.out.2.2.1
  clear TK TA H0
  go_upto_block 0 with fail
  go_cut [5, 6] from 29 to 56 (fun _ _ wc => Hid (Below w1.heap.size w1 wc))
  case first =>
    go_wp2_with fail
    go_loopw [5, 6, 32] (fun _ _ i wr => ∃ j : Nat, i = .int .i64 (j : Int) ∧ j ≤ f.scope.length ∧ Below w1.heap.size w1 wr) (fun _ _ i _ => f.scope.length - (intOf i).toNat)
    case atStart => exact ⟨0, rfl, Nat.zero_le _, by first | exact (Below.refl _ _).drew | exact Below.refl _ _ | exact HoldQ2.below (by assumption)⟩
    case round =>
      clear b0
      obtain ⟨j, rfl, hj, hB⟩ := hrel
      have HBB := Lib.hid hB
      clear hB
      have b0 : wr.cell? ⟨B, 0, none⟩ = some (.slice Asc f.scope.length csc) := by rw [(HBB.out.cell (p := ⟨B, 0, none⟩) (Array.getElem?_eq_some_iff.1 X1.out).1), cell_of_row _ _ _ _ _ _ X1.out]; rfl
      by_cases hlt : j < f.scope.length
      · have d1 : decide ((j : Int) < (f.scope.length : Int)) = true := decide_eq_true (by omega)
        have IW := HI1.out.below HBB.out (Nat.le_refl _)
        obtain ⟨gs, os, rfl, hc⟩ := IW.at_ hlt
        have CI := Lib.hid (containsI_take wr csc (some ⟨gs, os, none⟩) f.scope j (nth f.scope j) IW hj (by omega))
        rw [take_once HF.out.once hlt] at CI
        have hv : nth f.scope j < sizes.length := HF.out.below _ (nth_mem hlt)
        have f2 := (HR1.out.below HBB.out).cells.2.2.1
        generalize nth f.scope j = x at hc CI hv
        have d2 : decide ((x : Int) < 0) = false := decide_eq_false (by omega)
        have d3 : decide ((sizes.length : Int) ≤ (x : Int)) = false := decide_eq_false (by omega)
        have j2 : (0 : Int) ≤ (j : Int) := by omega
        have j3 : (j : Int) ≤ 6 := by omega
        have j4 : (j : Int) ≤ (csc : Int) := by omega
        clear IW
        go_wp2_with (first | (go_at_call 76; refine CI.out.mono ?_; rintro e w' ⟨rfl, rfl⟩) | fail)
        exact ⟨⟨j + 1, by simp, by omega, HBB.out⟩, by simp [intOf]; omega⟩
      · have d1 : decide ((j : Int) < (f.scope.length : Int)) = false := decide_eq_false (by omega)
        go_wp2_with fail
        go_meet
        case rel => exact HBB
  have B3 := hcut
  clear hcut b0
  have S3 : Hid (HoldQ w1 B fb g sizes.length cs f.scope.length csc As Asc wc) := Lib.hid (by
    have hc := (HR1.out.below B3.out).cells
    have hX := (B3.out.block B (Array.getElem?_eq_some_iff.1 X1.out).1).trans X1.out
    exact ⟨by rw [cell_of_row _ _ _ _ _ _ hX]; rfl, hc.2.2.1, by rw [cell_of_row _ _ _ _ _ _ hX]; rfl, B3.out⟩)
  have PI := Lib.hid (fun W (hb : Below w1.heap.size w1 W) => pickedI cs csc As Asc sizes f.scope W (by have := HSL.out; omega) (by omega) HF.out.below ((HR1.out.below hb).szs) (HI1.out.below hb (Nat.le_refl _)))
  have SZ := Lib.hid (fun W (hb : Below w1.heap.size w1 W) => tpsizes_ok g mb N c A (pickN sizes f.scope) k _ _ W (HT1.out.below hb) HP6.out)
  generalize hl1 : pickN sizes f.scope = l1 at PI SZ
  have L1 := Lib.hid (show l1.length ≤ 6 by rw [← hl1]; exact HP6.out)
  clear hl1
  have EQ := Lib.hid (fun W Aa Ab ca cb (ha : Ints W Aa l1) (hb : Ints W Ab l1) => equal_any Aa Ab ca cb l1 l1 W (by have := L1.out; omega) ha hb)
  rw [decide_eq_true (rfl : l1 = l1)] at EQ
  go_upto_region 9 with fail
  go_region_held3 (fun W => HoldQ w1 B fb g sizes.length cs f.scope.length csc As Asc W) (first | exact holdQ S3.out ((Below.refl _ _).drew) | exact holdQ (by assumption) (by assumption))
    ((first | (go_at_call 77; with_reducible refine (SZ.out _ (HoldQ.below (by assumption))).mono ?_; rintro e w' ⟨⟨v9, rfl, hO9⟩, hb⟩; obtain ⟨A9, c9, rfl, hI9⟩ := hO9.form; have HI9 := Lib.hid hI9; clear hI9 hO9)
            | (go_at_call 41; with_reducible refine (PI.out _ (HoldQ.below (by assumption))).mono ?_; rintro e w' ⟨⟨A8, c8, rfl, hI8⟩, hb⟩; have HI8 := Lib.hid (And.intro (HI9.out.below hb (Nat.le_refl _)) hI8); clear hI8)
            | (go_at_call 18; refine (EQ.out _ _ _ _ _ HI8.out.1 HI8.out.2).mono ?_; rintro e w' ⟨rfl, hb⟩)))
  have BE := Lib.hid (HoldQ.below (by assumption))
  go_wp2_with fail
  go_ret
  have hfin := then_ N1.out BE.out
  exact ⟨rfl, by first | exact hfin | exact hfin.drew | (rw [← HB0.out]; first | exact hfin | exact hfin.drew)⟩
set_option maxHeartbeats 1000000 in
/-- A function that is too great. -/
theorem great_yes (k : Int) (sizes : List Nat) (f : FunM) (sv tv : Value) (w : World) (h : FunE w k sizes f (fun j => j < w.heap.size) sv tv) (hs : ∀ x ∈ sizes, 1 ≤ x ∧ x ≤ 32) (hf : FunOk sizes f) (hl : f.scope.length ≤ 6 ∧ 4096 < cntM (pickN sizes f.scope) 1) :
    Calls Tryz.prog 57 #[.agg #[sv, tv]] w fun e w' => e = .returned (.bool true) ∧ Below w.heap.size w w' := by
  obtain ⟨Asc, csc, g, mb, A, c, N, rfl, -, rfl, h3, h4, h5, -⟩ := h
  have L6 : (pickN sizes f.scope).length ≤ 6 := by simp [pickN]; exact hl.1
  have n1 := new_val w (.cells #[.slice Asc f.scope.length csc, .pointer (some ⟨g, 0, none⟩)] 54)
  have SZ := Lib.hid (tpsizes_ok g mb N c A (pickN sizes f.scope) k _ _ _ (h4.below n1) L6)
  have CT := Lib.hid (fun A2 c2 W (h : Ints W A2 (pickN sizes f.scope)) => countR c2 A2 (pickN sizes f.scope) W (by omega) (fun x hx => by have := (pick_ok hs hf.below x hx).2; omega) h)
  have HL := Lib.hid hl.2
  have N1 := Lib.hid n1
  have d : decide ((4096 : Int) < (cntM (pickN sizes f.scope) 1 : Nat)) = true := decide_eq_true (by have := hl.2; omega)
  clear h3 h4 h5 hs hf hl L6 n1
  generalize pickN sizes f.scope = l1 at SZ CT HL d
  generalize cntM l1 1 = q at CT HL d
  go_enter Tryz.func57, Tryz.ntmps57
  go_wp2_with (first | (go_at_call 77; refine SZ.out.mono ?_; rintro e w2 ⟨⟨v, rfl, hO⟩, hb⟩; obtain ⟨A2, c2, rfl, hI⟩ := hO.form; have HI := Lib.hid hI; replace hb := Lib.hid hb; clear hO hI) | (go_at_call 78; refine (CT.out _ _ _ HI.out).mono ?_; rintro e w' ⟨rfl, rfl⟩) | fail)
  go_ret
  exact ⟨rfl, then_ N1.out hb.out⟩
/-- A file of one function, whatever its numbers. -/
structure RF6 (W : World) (fb gf : Nat) (X : ByteArray) (k : Int) (As : Option Addr) (m cs : Nat) (zs : Nat → Int) (Asc : Option Addr) (q csc : Nat) (ys : Nat → Int) (tv : Value) : Prop where
  row : W.heap[fb]? = some (.cells #[.string X, .int .i64 k, .slice As m cs, .slice (some ⟨gf, 0, none⟩) 1 1] 50 (0, 0))
  fn : W.heap[gf]? = some (.cells #[.slice Asc q csc, tv] 54 (0, 0))
  szs : Zs W As m zs
  scs : Zs W Asc q ys
theorem RF6.below {W W' : World} {fb gf : Nat} {X : ByteArray} {k : Int} {As : Option Addr} {m cs : Nat} {zs : Nat → Int} {Asc : Option Addr} {q csc : Nat} {ys : Nat → Int} {tv : Value} (h : RF6 W fb gf X k As m cs zs Asc q csc ys tv) (hb : Below W.heap.size W W') : RF6 W' fb gf X k As m cs zs Asc q csc ys tv :=
  ⟨(hb.block fb (Array.getElem?_eq_some_iff.1 h.row).1).trans h.row, (hb.block gf (Array.getElem?_eq_some_iff.1 h.fn).1).trans h.fn, h.szs.below hb (Nat.le_refl _), h.scs.below hb (Nat.le_refl _)⟩
theorem RF6.cells {W : World} {fb gf : Nat} {X : ByteArray} {k : Int} {As : Option Addr} {m cs : Nat} {zs : Nat → Int} {Asc : Option Addr} {q csc : Nat} {ys : Nat → Int} {tv : Value} (h : RF6 W fb gf X k As m cs zs Asc q csc ys tv) :
    W.cell? ⟨fb, 0, none⟩ = some (.string X) ∧ W.cell? ⟨fb, 1, none⟩ = some (.int .i64 k) ∧ W.cell? ⟨fb, 2, none⟩ = some (.slice As m cs) ∧ W.cell? ⟨fb, 3, none⟩ = some (.slice (some ⟨gf, 0, none⟩) 1 1) := by
  refine ⟨?_, ?_, ?_, ?_⟩ <;> (rw [cell_of_row _ _ _ _ _ _ h.row]; rfl)
set_option maxRecDepth 100000 in
set_option maxHeartbeats 2000000 in
theorem misfit_nil (fb q csc : Nat) (Asc : Option Addr) (w : World) :
    Calls Tryz.prog 56 #[.pointer (some ⟨fb, 0, none⟩), .agg #[.slice Asc q csc, .pointer none]] w fun e w' => e = .returned (.bool true) ∧ Below w.heap.size w w' := by
  have n1 := Lib.hid (new_val w (.cells #[.slice Asc q csc, .pointer none] 54))
  have X1 := Lib.hid (heap_alloc_new w (.cells #[.slice Asc q csc, .pointer none] 54))
  go_enter Tryz.func56, Tryz.ntmps56
  go_upto_region 1 with fail
  generalize w.alloc (.cells #[.slice Asc q csc, .pointer none] 54) = w1 at n1 X1 ⊢
  obtain ⟨B, hB⟩ : ∃ B, w.heap.size = B := ⟨_, rfl⟩
  rw [hB] at X1 ⊢
  clear hB
  have b1 : w1.cell? ⟨B, 1, none⟩ = some (.pointer none) := by rw [cell_of_row _ _ _ _ _ _ X1.out]; rfl
  go_quiet (fail)
  go_wp2_with fail
  go_ret
  exact ⟨rfl, by first | exact n1.out | exact ⟨n1.out.os, n1.out.tape, n1.out.output, n1.out.size, n1.out.block⟩⟩
abbrev HoldA (wb : World) (B fb g n2 c2 : Nat) (k : Int) (A2 : Option Addr) (W : World) : Prop :=
  W.cell? ⟨B, 1, none⟩ = some (.pointer (some ⟨g, 0, none⟩)) ∧ W.cell? ⟨fb, 1, none⟩ = some (.int .i64 k) ∧ W.cell? ⟨B, 0, none⟩ = some (.slice A2 n2 c2) ∧ Below wb.heap.size wb W
theorem holdA {wb W W' : World} {B fb g n2 c2 : Nat} {k : Int} {A2 : Option Addr} (H : HoldA wb B fb g n2 c2 k A2 W) (hb : Below W.heap.size W W') : HoldA wb B fb g n2 c2 k A2 W' := by
  obtain ⟨a0, a1, a2, h9⟩ := H
  have K : ∀ b i v, W.cell? ⟨b, i, none⟩ = some v → W'.cell? ⟨b, i, none⟩ = some v := fun b i v h => (hb.cell (p := ⟨b, i, none⟩) (World.block_lt_of_cell? W _ h)).trans h
  exact ⟨K _ _ _ a0, K _ _ _ a1, K _ _ _ a2, h9.trans (hb.mono h9.size)⟩
set_option maxRecDepth 100000 in
set_option maxHeartbeats 4000000 in
theorem misfit_arity (fb gf : Nat) (X : ByteArray) (k : Int) (As : Option Addr) (m cs : Nat) (zs : Nat → Int) (Asc : Option Addr) (q csc : Nat) (ys : Nat → Int) (g mb : Nat) (A : Option Addr) (c N : Nat) (l : List Nat) (o : Int) (ff : List Nat → Int) (tv : Value) (w : World) (H : RF6 w fb gf X k As m cs zs Asc q csc ys tv) (h4 : TpAt w g mb A c N l k o ff) (hne : l.length ≠ q) :
    Calls Tryz.prog 56 #[.pointer (some ⟨fb, 0, none⟩), .agg #[.slice Asc q csc, .pointer (some ⟨g, 0, none⟩)]] w fun e w' => e = .returned (.bool true) ∧ Below w.heap.size w w' := by
  have n1 := new_val w (.cells #[.slice Asc q csc, .pointer (some ⟨g, 0, none⟩)] 54)
  have X1 := Lib.hid (heap_alloc_new w (.cells #[.slice Asc q csc, .pointer (some ⟨g, 0, none⟩)] 54))
  have N1 := Lib.hid n1
  have HT1 := Lib.hid (h4.below n1)
  have f1 : (w.alloc (.cells #[.slice Asc q csc, .pointer (some ⟨g, 0, none⟩)] 54)).cell? ⟨fb, 1, none⟩ = some (.int .i64 k) := (H.below n1).cells.2.1
  have d1 : ((l.length : Int) != (q : Int)) = true := by simp; omega
  clear H h4 n1 hne
  go_enter Tryz.func56, Tryz.ntmps56
  go_upto_region 1 with fail
  generalize w.alloc (.cells #[.slice Asc q csc, .pointer (some ⟨g, 0, none⟩)] 54) = w1 at X1 N1 HT1 f1 ⊢
  obtain ⟨B, hB⟩ : ∃ B, w.heap.size = B := ⟨_, rfl⟩
  rw [hB] at X1 ⊢
  clear hB
  have b0 : w1.cell? ⟨B, 0, none⟩ = some (.slice Asc q csc) := by rw [cell_of_row _ _ _ _ _ _ X1.out]; rfl
  have b1 : w1.cell? ⟨B, 1, none⟩ = some (.pointer (some ⟨g, 0, none⟩)) := by rw [cell_of_row _ _ _ _ _ _ X1.out]; rfl
  have TK := Lib.hid (fun W (hb : Below w1.heap.size w1 W) => tpk_ok g mb N c A l k o ff W (HT1.out.below hb))
  have TA := Lib.hid (fun W (hb : Below w1.heap.size w1 W) => tparity_ok g mb N c A l k o ff W (HT1.out.below hb))
  have H0 : Hid (HoldA w1 B fb g q csc k Asc w1) := Lib.hid ⟨b1, f1, b0, Below.refl _ _⟩
  clear b0 b1 f1
  go_region_held3 (fun W => HoldA w1 B fb g q csc k Asc W) (first | exact holdA H0.out ((Below.refl _ _).drew) | exact holdA (by assumption) (by assumption) | assumption)
    ((first | (go_at_call 74; with_reducible refine (TK.out _ ((by assumption : HoldA w1 B fb g q csc k Asc _).2.2.2)).mono ?_; rintro e w' ⟨rfl, rfl⟩) | (go_at_call 75; with_reducible refine (TA.out _ ((by assumption : HoldA w1 B fb g q csc k Asc _).2.2.2)).mono ?_; rintro e w' ⟨rfl, rfl⟩)))
  have BE := Lib.hid ((by assumption : HoldA w1 B fb g q csc k Asc _).2.2.2)
  go_wp2_with fail
  go_ret
  exact ⟨rfl, then_ N1.out BE.out⟩
end Go.Proofs.YteocbgcgfllieaaGreatDoor
