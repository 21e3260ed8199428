/- What an assignment costs by the document (no statement of its own). -/
import Derived.Test.YteocbgcgfllieaaGreatDoorEa
import Derived.Test.YteocbgcgfllieaaGreatDoorDh
import Derived.Deep.RegionHeld3
namespace Go.Proofs.YteocbgcgfllieaaGreatDoor
open Go.RowKit
set_option linter.unusedVariables false
theorem add7 (a b k : Int) (w : World) (ha0 : 0 ≤ a) (ha1 : a ≤ 2147483648) (hb0 : 0 ≤ b) (hb1 : b ≤ 2147483648) :
    Calls Tryz.prog 43 #[.int .i64 a, .int .i64 b, .int .i64 k] w fun e w' => e = .returned (.int .i64 (capA a b k)) ∧ w = w' := by
  by_cases h : k < a + b
  · have e : capA a b k = k := if_pos h
    rw [e]
    clear e
    go_enter Tryz.func43, Tryz.ntmps43
    go_wp2_with fail
    go_ret
    exact ⟨rfl, rfl⟩
  · have e : capA a b k = a + b := if_neg h
    rw [e]
    clear e
    go_enter Tryz.func43, Tryz.ntmps43
    go_wp2_with fail
    go_ret
    exact ⟨rfl, rfl⟩
/-- A network by the document, to be read. -/
structure FileV (W : World) (fb : Nat) (X : ByteArray) (k : Int) (sizes : List Nat) (fs : List FunM) (Az Af : Option Addr) (cz cf : Nat) : Prop where
  row : W.heap[fb]? = some (.cells #[.string X, .int .i64 k, .slice Az sizes.length cz, .slice Af fs.length cf] 37 (0, 0))
  szs : I6 W Az sizes
  capz : sizes.length ≤ cz
  funs : ∀ i f, fs[i]? = some f → ∃ g A1 c1 A2 c2 A3 c3, Af = some ⟨g, 0, none⟩ ∧ W.cell? ⟨g, i * 4, none⟩ = some (.slice A1 f.scope.length c1) ∧ W.cell? ⟨g, i * 4 + 1, none⟩ = some (.slice A2 f.scope.length c2) ∧ W.cell? ⟨g, i * 4 + 2, none⟩ = some (.int .i64 f.other) ∧ W.cell? ⟨g, i * 4 + 3, none⟩ = some (.slice A3 f.lines.length c3) ∧
    I6 W A1 f.scope ∧ I6 W A2 (pickN sizes f.scope) ∧ LnV W A3 f.lines
theorem FileV.below {W W' : World} {fb : Nat} {X : ByteArray} {k : Int} {sizes : List Nat} {fs : List FunM} {Az Af : Option Addr} {cz cf : Nat} (h : FileV W fb X k sizes fs Az Af cz cf) (hb : Below W.heap.size W W') : FileV W' fb X k sizes fs Az Af cz cf := by
  have K := KeepD.below hb
  refine ⟨(hb.block fb (Array.getElem?_eq_some_iff.1 h.row).1).trans h.row, h.szs.keep K, h.capz, fun i f hf => ?_⟩
  obtain ⟨g, A1, c1, A2, c2, A3, c3, e, k0, k1, k2, k3, i1, i2, i3⟩ := h.funs i f hf
  have hg : g < W.heap.size := World.block_lt_of_cell? W _ k0
  exact ⟨g, A1, c1, A2, c2, A3, c3, e, (hb.cell (p := ⟨g, i * 4, none⟩) hg).trans k0, (hb.cell (p := ⟨g, i * 4 + 1, none⟩) hg).trans k1, (hb.cell (p := ⟨g, i * 4 + 2, none⟩) hg).trans k2, (hb.cell (p := ⟨g, i * 4 + 3, none⟩) hg).trans k3, i1.keep K, i2.keep K, i3.keep K⟩
theorem FileD.v {W : World} {fb base : Nat} {s : ByteArray} {F : FileM} (h : FileD W fb base s F) : ∃ Az Af cz cf, FileV W fb (s.extract F.name.1 F.name.2) F.top F.sizes F.funs Az Af cz cf := by
  obtain ⟨Az, cz, fv, us, hrow, hcz, hz, ho, hu⟩ := h
  obtain ⟨Af, cf, rfl, -⟩ := ho.form
  refine ⟨Az, Af, cz, cf, by rw [hrow, hu.1], hz, hcz, fun i f hf => ?_⟩
  obtain ⟨sv, zv, lv, h1, ⟨A1, c1, e1, -, i1⟩, ⟨A2, c2, e2, -, i2⟩, A3, c3, e3, -, i3⟩ := hu.2 i f hf
  obtain ⟨g, e, -, -, k0, k1, k2, k3⟩ := ho.cells4 h1
  exact ⟨g, A1, c1, A2, c2, A3, c3, e, by rw [k0, ← e1], by rw [k1, ← e2], k2, by rw [k3, ← e3], i1, i2, i3⟩
theorem FileV.cells {W : World} {fb : Nat} {X : ByteArray} {k : Int} {sizes : List Nat} {fs : List FunM} {Az Af : Option Addr} {cz cf : Nat} (h : FileV W fb X k sizes fs Az Af cz cf) :
    W.cell? ⟨fb, 0, none⟩ = some (.string X) ∧ W.cell? ⟨fb, 1, none⟩ = some (.int .i64 k) ∧ W.cell? ⟨fb, 2, none⟩ = some (.slice Az sizes.length cz) ∧ W.cell? ⟨fb, 3, none⟩ = some (.slice Af fs.length cf) := by
  refine ⟨?_, ?_, ?_, ?_⟩ <;> (rw [cell_of_row _ _ _ _ _ _ h.row]; rfl)
abbrev HoldU (wb : World) (B fb : Nat) (k : Int) (a0 a1 a2 a3 : Value) (W : World) : Prop :=
  W.cell? ⟨B, 0, none⟩ = some a0 ∧ W.cell? ⟨B, 1, none⟩ = some a1 ∧ W.cell? ⟨B, 2, none⟩ = some a2 ∧ W.cell? ⟨B, 3, none⟩ = some a3 ∧ W.cell? ⟨fb, 1, none⟩ = some (.int .i64 k) ∧ Below wb.heap.size wb W
theorem holdU {wb W W' : World} {B fb : Nat} {k : Int} {a0 a1 a2 a3 : Value} (H : HoldU wb B fb k a0 a1 a2 a3 W) (hb : Below W.heap.size W W') : HoldU wb B fb k a0 a1 a2 a3 W' := by
  obtain ⟨c0, c1, c2, c3, c4, h9⟩ := H
  have K : ∀ b i v, W.cell? ⟨b, i, none⟩ = some v → W'.cell? ⟨b, i, none⟩ = some v := fun b i v h => (hb.cell (p := ⟨b, i, none⟩) (World.block_lt_of_cell? W _ h)).trans h
  exact ⟨K _ _ _ c0, K _ _ _ c1, K _ _ _ c2, K _ _ _ c3, K _ _ _ c4, h9.trans (hb.mono h9.size)⟩
theorem HoldU.below {wb W : World} {B fb : Nat} {k : Int} {a0 a1 a2 a3 : Value} (H : HoldU wb B fb k a0 a1 a2 a3 W) : Below wb.heap.size wb W := H.2.2.2.2.2
theorem pick_take_snoc {a sc : List Nat} {q : Nat} (h : q < sc.length) : pickN a (sc.take (q + 1)) = pickN a (sc.take q) ++ [nth a (nth sc q)] := by
  rw [List.take_succ_eq_append_getElem h, pickN, List.map_append]
  simp [pickN, nth, List.getD, h]
theorem pick_take_len {a sc : List Nat} {q : Nat} (h : q ≤ sc.length) : (pickN a (sc.take q)).length = q := by simp [pickN]; omega
set_option maxRecDepth 100000 in
set_option maxHeartbeats 4000000 in
theorem val7 (fb cz cf c : Nat) (X : ByteArray) (k : Int) (sizes a : List Nat) (fs : List FunM) (Az Af A : Option Addr) (w : World) (H : FileV w fb X k sizes fs Az Af cz cf) (hk : 1 ≤ k ∧ k ≤ 2147483648) (hf : ∀ g ∈ fs, FunOk sizes g ∧ FunLim sizes g) (hlf : ∀ g ∈ fs, g.lines.length ≤ 100000) (hnf : fs.length ≤ 256) (hsl : sizes.length ≤ 64) (hI : I6 w A a) (ha : a.length = sizes.length) :
    Calls Tryz.prog 15 #[.pointer (some ⟨fb, 0, none⟩), .slice A a.length c] w fun e w' => e = .returned (.int .i64 (valM k a fs)) ∧ Below w.heap.size w w' := by
  have HR := Lib.hid H
  have HF := Lib.hid hf
  have HLF := Lib.hid hlf
  have HI := Lib.hid hI
  have HA := Lib.hid (And.intro ha hsl)
  have K1 : Hid (1 ≤ k ∧ k ≤ 2147483648) := Lib.hid hk
  have HNF := Lib.hid hnf
  have c3 := H.cells.2.2.2
  clear H hf hlf hI ha hk hnf hsl
  go_enter Tryz.func15, Tryz.ntmps15
  go_upto_block 0 with fail
  clear c3
  go_wp2_with fail
  go_loopw [5, 7, 8, 10, 16] (fun s _ _ _ i wr => ∃ j : Nat, i = .int .i64 (j : Int) ∧ j ≤ fs.length ∧ s = .int .i64 (valM k a (fs.take j)) ∧ (0 ≤ valM k a (fs.take j) ∧ valM k a (fs.take j) ≤ k) ∧ Below w.heap.size w wr) (fun _ _ _ _ i _ => fs.length - (intOf i).toNat)
  case atStart => exact ⟨0, rfl, Nat.zero_le _, rfl, ⟨Int.le_refl _, by have := K1.out; show (0 : Int) ≤ k; omega⟩, Below.refl _ _⟩
  case round =>
    obtain ⟨j, rfl, hj, rfl, hv, hB⟩ := hrel
    have HB := Lib.hid hB
    have HV := Lib.hid hv
    clear hB hv
    by_cases hlt : j < fs.length
    · have d1 : decide ((j : Int) < (fs.length : Int)) = true := decide_eq_true (by omega)
      obtain ⟨f, hfj⟩ : ∃ f, fs[j]? = some f := ⟨_, List.getElem?_eq_getElem hlt⟩
      have HRR := HR.out.below HB.out
      obtain ⟨g, A1, c1, A2, c2, A3, c3, rfl, k0, k1, k2, k3, i1, i2, i3⟩ := HRR.funs j f hfj
      have FJ := Lib.hid hfj
      have LT := Lib.hid hlt
      have HM := Lib.hid (HF.out f (List.mem_of_getElem? hfj))
      have HLM := Lib.hid (HLF.out f (List.mem_of_getElem? hfj))
      have VT := Lib.hid (valM_take (k := k) (a := a) hfj)
      have n1 := new_val wr (.cells #[.slice A1 f.scope.length c1, .slice A2 f.scope.length c2, .int .i64 f.other, .slice A3 f.lines.length c3] 91)
      have B1 := Lib.hid (HB.out.trans (n1.mono HB.out.size))
      have I1 := Lib.hid (i1.keep (KeepD.below n1))
      have I3 := Lib.hid (i3.keep (KeepD.below n1))
      have j2 : (0 : Int) ≤ (j : Int) := by omega
      have j3 : (j : Int) ≤ 256 := by have := HNF.out; omega
      clear HRR hfj i1 i2 i3 n1
      go_upto_region 5 with (first
        | ((with_reducible show wpList _ _ _ (Oper.mk none (.store 91 _ _) _ _ _ _ :: _) _ _); refine wpList_store_row rfl 91 (.tmp 7) (.tmp 19) rfl wr.heap.size #[.slice A1 f.scope.length c1, .slice A2 f.scope.length c2, .int .i64 f.other, .slice A3 f.lines.length c3] rfl rfl 91 #[.slice none 0 0, .slice none 0 0, .int .i64 0, .slice none 0 0] (heap_alloc_new _ _) (by kernel_rfl) rfl (by simp [Value.oneCell']) ?_; rw [World.setRow_alloc_new])
        | fail)
      have X1 := Lib.hid (heap_alloc_new wr (.cells #[.slice A1 f.scope.length c1, .slice A2 f.scope.length c2, .int .i64 f.other, .slice A3 f.lines.length c3] 91))
      clear k0 k1 k2 k3
      generalize wr.alloc (.cells #[.slice A1 f.scope.length c1, .slice A2 f.scope.length c2, .int .i64 f.other, .slice A3 f.lines.length c3] 91) = w1 at X1 I1 I3 B1 ⊢
      generalize wr.heap.size = B at X1 ⊢
      have b0 : w1.cell? ⟨B, 0, none⟩ = some (.slice A1 f.scope.length c1) := by rw [cell_of_row _ _ _ _ _ _ X1.out]; rfl
      go_upto_block 2 with fail
      clear b0
      go_cut [8, 10, 23] from 24 to 34 (fun v8 _ _ wc => ∃ A8 c8, v8 = .slice A8 f.scope.length c8 ∧ Hid (I6 wc A8 (pickN a f.scope) ∧ Below w1.heap.size w1 wc))
      case first =>
        --[inner
        go_wp2_with fail
        go_loopw [8, 10, 23] (fun v _ i wi => ∃ q : Nat, i = .int .i64 (q : Int) ∧ q ≤ f.scope.length ∧ Own6 wi w1.heap.size v (pickN a (f.scope.take q)) ∧ Below w1.heap.size w1 wi) (fun _ _ i _ => f.scope.length - (intOf i).toNat)
        case atStart => exact ⟨0, rfl, Nat.zero_le _, own6_nil _ _, Below.refl _ _⟩
        case round =>
          obtain ⟨q, rfl, hq, hO, hBi⟩ := hrel
          have BI := Lib.hid hBi
          have OI := Lib.hid hO
          clear hBi hO
          by_cases hql : q < f.scope.length
          · have d2 : decide ((q : Int) < (f.scope.length : Int)) = true := decide_eq_true (by omega)
            obtain ⟨g1, o1, rfl, cs⟩ := (I1.out.keep (KeepD.below BI.out)).at_ hql
            have hx : nth f.scope q < a.length := by rw [HA.out.1]; exact HM.out.1.below _ (nth_mem hql)
            have BWI := Lib.hid (B1.out.trans (BI.out.mono B1.out.size))
            obtain ⟨ga, oa, rfl, ca⟩ := (HI.out.keep (KeepD.below BWI.out)).at_ hx
            have PS := Lib.hid (pick_take_snoc (a := a) hql)
            obtain ⟨A7, c7, rfl⟩ := OI.out.formN (pick_take_len (a := a) (Nat.le_of_lt hql))
            generalize nth f.scope q = x at cs ca hx PS
            generalize nth a x = y at ca PS
            have q5 : q ≤ 100 := by have := HM.out.2.1; omega
            have x2 : (x : Int) < (a.length : Int) := by omega
            have na := new_val wr (.cells #[.int .i64 (y : Int)] 2)
            have NA := Lib.hid na
            have OA := Lib.hid (OI.out.keepB (w' := wr.alloc (.cells #[.int .i64 (y : Int)] 2)) (fun g _ h _ => na.block g h))
            have CY : Hid ((wr.alloc (.cells #[.int .i64 (y : Int)] 2)).cell? ((⟨wr.heap.size, 0, none⟩ : Addr).add 0) = some (.int .i64 (y : Int))) := Lib.hid (by
              show (wr.alloc _).cell? ⟨wr.heap.size, 0, none⟩ = _
              rw [cell_of_row _ _ _ _ _ _ (heap_alloc_new wr _)]; rfl)
            have BZ := Lib.hid (Nat.le_trans BI.out.size na.size)
            have QL := Lib.hid hql
            have PL := Lib.hid (pick_take_len (a := a) (Nat.le_of_lt hql))
            clear na
            go_upto_region 10 with (first
              | (at_builtin; refine push6 rfl (.tmp 27) (.tmp 32) rfl (wr.alloc (.cells #[.int .i64 (y : Int)] 2)) w1.heap.size y (.slice A7 q c7) (pickN a (f.scope.take q)) ⟨wr.heap.size, 0, none⟩ rfl rfl OA.out CY.out BZ.out (by rw [PL.out]; omega) ?_; intro v6 w9 h1 h2 h3; have O9 := Lib.hid (PS.out ▸ h1); have G9 := Lib.hid h2; clear h1 h2 h3)
              | fail)
            have B9 : Hid (Below w1.heap.size w1 w9) := Lib.hid ((BI.out.trans (NA.out.mono BI.out.size)).grown G9.out (BZ.out) (fun g e => (OA.out.lt g e).1))
            clear cs ca
            go_wp2_with fail
            exact ⟨⟨q + 1, by simp, by have := QL.out; omega, O9.out, B9.out⟩, by simp [intOf]; have := QL.out; omega⟩
          · have d2 : decide ((q : Int) < (f.scope.length : Int)) = false := decide_eq_false (by omega)
            have HQ : Hid (f.scope.take q = f.scope) := Lib.hid (by rw [show q = f.scope.length by omega, List.take_length])
            rw [HQ.out] at OI
            obtain ⟨A8, c8, e8, -, i8⟩ := OI.out.form
            rw [show (pickN a f.scope).length = f.scope.length by simp [pickN]] at e8
            subst e8
            have I8 := Lib.hid i8
            clear i8
            go_wp2_with fail
            go_meet
            case rel => exact ⟨_, _, rfl, Lib.hid ⟨I8.out, BI.out⟩⟩
        --]
      obtain ⟨A8, c8, rfl, hc8⟩ := hcut
      have I8 := Lib.hid hc8.out.1
      have B8 := Lib.hid hc8.out.2
      clear hc8
      have BW8 := Lib.hid (B1.out.trans (B8.out.mono B1.out.size))
      have X8 := (B8.out.block B (Array.getElem?_eq_some_iff.1 X1.out).1).trans X1.out
      have H0 : Hid (HoldU wc B fb k (.slice A1 f.scope.length c1) (.slice A2 f.scope.length c2) (.int .i64 f.other) (.slice A3 f.lines.length c3) wc) := Lib.hid ⟨by rw [cell_of_row _ _ _ _ _ _ X8]; rfl, by rw [cell_of_row _ _ _ _ _ _ X8]; rfl, by rw [cell_of_row _ _ _ _ _ _ X8]; rfl, by rw [cell_of_row _ _ _ _ _ _ X8]; rfl, (HR.out.below BW8.out).cells.2.1, Below.refl _ _⟩
      have CT := Lib.hid (fun W (hb : Below wc.heap.size wc W) => cost7 A1 A2 A3 A8 f.scope.length c1 f.scope.length c2 c3 c8 f.other k f.lines (pickN a f.scope) W ((I3.out.keep (KeepD.below B8.out)).keep (KeepD.below hb)) (I8.out.keep (KeepD.below hb)) HLM.out (fun y hy => by rw [HM.out.1.lines.len y hy]; simp [pickN]; have := HM.out.2.1; omega))
      rw [show (pickN a f.scope).length = f.scope.length by simp [pickN]] at CT
      rw [lastC_funF] at CT
      have FI := Lib.hid (funF_in K1.out.1 HM.out.1 (pickN a f.scope))
      obtain ⟨s0, hs0⟩ : ∃ s0, valM k a (fs.take j) = s0 := ⟨_, rfl⟩
      obtain ⟨y, hy⟩ : ∃ y, funF k f (pickN a f.scope) = y := ⟨_, rfl⟩
      rw [hs0] at HV
      rw [hy] at FI CT
      have VT2 : Hid (valM k a (fs.take (j + 1)) = capA s0 y k) := Lib.hid (by rw [VT.out, hs0, hy])
      simp only [hs0]
      clear hs0 hy VT X8
      have AD := Lib.hid (fun W => add7 s0 y k W HV.out.1 (by have := HV.out.2; have := K1.out.2; omega) FI.out.1 (by have := FI.out.2; have := K1.out.2; omega))
      go_upto_region 11 with fail
      go_region_held3 (fun W => HoldU wc B fb k (.slice A1 f.scope.length c1) (.slice A2 f.scope.length c2) (.int .i64 f.other) (.slice A3 f.lines.length c3) W) (first | exact holdU H0.out ((Below.refl _ _).drew) | exact holdU (by assumption) (by assumption) | assumption)
        ((first | (go_at_call 44; with_reducible refine (CT.out _ (HoldU.below (by assumption))).mono ?_; rintro e w' ⟨rfl, hb⟩)
                | (go_at_call 43; refine (AD.out _).mono ?_; rintro e w5 ⟨rfl, rfl⟩)))
      have BE := Lib.hid (HoldU.below (by assumption))
      have BW := Lib.hid (BW8.out.trans (BE.out.mono BW8.out.size))
      go_wp2_with fail
      refine ⟨⟨j + 1, by simp, by have := LT.out; omega, by rw [VT2.out], by rw [VT2.out]; exact capA_in K1.out.1 HV.out FI.out, by first | exact BW.out | exact BW.out.drew⟩, by simp [intOf]; have := LT.out; omega⟩
    · have d1 : decide ((j : Int) < (fs.length : Int)) = false := decide_eq_false (by omega)
      have HJ := Lib.hid (show j = fs.length by omega)
      go_wp2_with fail
      go_ret
      exact ⟨by rw [HJ.out, List.take_length]; rfl, HB.out⟩
end Go.Proofs.YteocbgcgfllieaaGreatDoor
