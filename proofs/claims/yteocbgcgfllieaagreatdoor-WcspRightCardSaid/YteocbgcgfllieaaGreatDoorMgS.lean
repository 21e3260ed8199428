/- Texts of this seat laid together (no statement of its own). -/
import Derived.Test.YteocbgcgfllieaaGreatDoorMgR
import Derived.Lib.ConvBytes
import Derived.Deep.CutBlock
namespace Go.Proofs.YteocbgcgfllieaaGreatDoor
open Go.RowKit
set_option linter.unusedVariables false
theorem isword_yes (X : ByteArray) (w : World) (hs : X.size ≤ 100000) (hr : stepW X.data.toList 0 = .word 0 X.size) :
    Calls Tryz.prog 52 #[.string X] w fun e w' => e = .returned (.bool true) ∧ Below w.heap.size w w' := by
  have CV := Lib.run_convert_string_bytes (P := Tryz.prog) w 9 22 5 X Tryz.underlying9 Tryz.underlying22 Tryz.underlying5
  have B1 : Below w.heap.size w (Lib.bytesWorld w 5 X) := ⟨rfl, rfl, rfl, by rw [Lib.bytesWorld_size]; omega, fun j hj => Lib.bytesWorld_at_old w 5 X j hj⟩
  have BY : BS (Lib.bytesWorld w 5 X) (some ⟨w.heap.size, 0, none⟩) X := .inr ⟨_, 0, rfl, by rw [Lib.bytesWorld_size]; omega, fun i hi => by
    rw [Nat.zero_add, Lib.bytesWorld_cell w 5 X i hi]
    simp [ByteArray.getElem_eq_getElem_data, List.getD_eq_getElem?_getD, hi]
    ⟩
  have SN := Lib.hid (fun W (hW : W = Lib.bytesWorld w 5 X) => snew_any (.slice (some ⟨w.heap.size, 0, none⟩) X.size (grownCap w X.size 0 5)) X W (conv_bytes (by rw [hW]; exact BY)))
  have B1 := Lib.hid B1
  have HR := Lib.hid hr
  have HS := Lib.hid hs
  clear hr hs BY
  generalize grownCap w X.size 0 5 = cap at CV SN
  obtain ⟨wb, hwb⟩ : ∃ wb, Lib.bytesWorld w 5 X = wb := ⟨_, rfl⟩
  rw [hwb] at CV B1
  have HWB := Lib.hid hwb.symm
  clear hwb
  go_enter Tryz.func52, Tryz.ntmps52
  go_wp2_with (first
    | (go_at_call 29; refine (SN.out _ HWB.out).mono ?_; rintro e w2 ⟨rfl, hw2⟩; have WD := Lib.hid (word_ok wb.heap.size X 0 0 X.size w2 (by have := HS.out; unfold maxLen; omega) (Nat.zero_le _) (by rw [hw2]; exact ScanAt.new wb X) HR.out); have B2 := Lib.hid (by have := B1.out.trans ((new_val wb (.cells #[.string X, .int .i64 0] 117)).mono B1.out.size); rw [← hw2] at this; exact this); have Z2 := Lib.hid (by have := World.size_alloc wb (.cells #[.string X, .int .i64 0] 117); rw [← hw2] at this; exact this); clear hw2)
    | (go_at_call 72; refine WD.out.mono ?_; rintro e w3 ⟨rfl, hg3, hs3⟩; replace hg3 := Lib.hid hg3; clear hs3; have EX : X.extract 0 X.size = X := (by exact ByteArray.extract_zero_size); rw [EX]; clear EX)
    | fail)
  go_ret
  refine ⟨rfl, B2.out.grown hg3.out B2.out.size (fun q hq => ?_)⟩
  injection hq with hq
  have := B1.out.size
  omega
theorem le_sum {fs : List FunM} {j : Nat} {f : FunM} (h : fs[j]? = some f) : f.lines.length ≤ (fs.map fun f => f.lines.length).sum := by
  have hj : j < fs.length := (List.getElem?_eq_some_iff.1 h).1
  have e : fs = fs.take j ++ f :: fs.drop (j + 1) := by
    rw [← (List.getElem?_eq_some_iff.1 h).2, List.getElem_cons_drop, List.take_append_drop]
  conv => rhs; rw [e]
  simp
  omega
theorem take_sum (fs : List FunM) (j : Nat) : ((fs.take j).map fun f => f.lines.length).sum ≤ (fs.map fun f => f.lines.length).sum := by
  conv => rhs; rw [← List.take_append_drop j fs]
  rw [List.map_append, List.sum_append]
  exact Nat.le_add_right _ _
set_option maxRecDepth 100000 in
set_option maxHeartbeats 4000000 in
/-- Fewer lines than may be. -/
theorem lines_le (fb cs cf : Nat) (X : ByteArray) (k : Int) (sizes : List Nat) (fs : List FunM) (As Af : Option Addr) (w : World) (H : FileR w fb X k sizes fs As Af cs cf) (hn : fs.length ≤ 256) (hall : (fs.map fun f => f.lines.length).sum ≤ 16384) :
    Calls Tryz.prog 58 #[.pointer (some ⟨fb, 0, none⟩)] w fun e w' => (∃ n : Nat, e = .returned (.int .i64 (n : Int)) ∧ n ≤ 16384) ∧ Below w.heap.size w w' := by
  have c3 := H.cells.2.2.2
  have HR := Lib.hid H
  have HN := Lib.hid hn
  have HALL := Lib.hid hall
  clear H hn hall
  go_enter Tryz.func58, Tryz.ntmps58
  go_upto_block 0 with fail
  clear c3
  go_cut [3] from 12 to 26 (fun v3 wc => ∃ n : Nat, v3 = .int .i64 (n : Int) ∧ n ≤ 16384 ∧ Hid (Below w.heap.size w wc))
  case first =>
    go_wp2_with fail
    go_loopw [3, 5, 17] (fun v3 _ i wr => ∃ (j n : Nat), i = .int .i64 (j : Int) ∧ v3 = .int .i64 (n : Int) ∧ j ≤ fs.length ∧ n ≤ ((fs.take j).map fun f => f.lines.length).sum ∧ Below w.heap.size w wr) (fun _ _ i _ => fs.length - (intOf i).toNat)
    case atStart => exact ⟨0, 0, rfl, rfl, Nat.zero_le _, Nat.zero_le _, Below.refl _ _⟩
    case round =>
      obtain ⟨j, n, rfl, rfl, hj, hs, hB⟩ := hrel
      have HB := Lib.hid hB
      have HS := Lib.hid hs
      clear hB hs
      have NB : Hid (n ≤ 16384) := Lib.hid (Nat.le_trans HS.out (Nat.le_trans (take_sum _ _) HALL.out))
      by_cases hlt : j < fs.length
      · have d1 : decide ((j : Int) < (fs.length : Int)) = true := decide_eq_true (by omega)
        obtain ⟨f, hfj⟩ : ∃ f, fs[j]? = some f := ⟨_, List.getElem?_eq_getElem hlt⟩
        have HRR := HR.out.below HB.out
        obtain ⟨gf, sv, tv, rfl, hgf, k0, k1, he⟩ := HRR.funs j f hfj
        obtain ⟨Asc, csc, g, mb, A, c, N, rfl, hcap, rfl, h3, h4, h5, -⟩ := he
        have FJ := Lib.hid hfj
        have LT := Lib.hid hlt
        have N5 := Lib.hid h5
        have n1 := new_val wr (.cells #[.slice Asc f.scope.length csc, .pointer (some ⟨g, 0, none⟩)] 54)
        have LN := Lib.hid (tplen_le g mb N c A (pickN sizes f.scope) k _ _ _ (h4.below n1))
        have B1 := Lib.hid (HB.out.trans (n1.mono HB.out.size))
        have j2 : (0 : Int) ≤ (j : Int) := by omega
        have j3 : (j : Int) ≤ 256 := by have := HN.out; omega
        have n3 : (n : Int) ≤ 16384 := by have := NB.out; omega
        clear HRR hfj h3 h4 h5 n1 hcap hgf
        go_upto_region 5 with (first
          | ((with_reducible show wpList _ _ _ (Oper.mk none (.store 54 _ _) _ _ _ _ :: _) _ _); refine wpList_store_row rfl 54 (.tmp 5) (.tmp 20) rfl wr.heap.size #[.slice Asc f.scope.length csc, .pointer (some ⟨g, 0, none⟩)] rfl rfl 54 #[.slice none 0 0, .pointer none] (heap_alloc_new _ _) (by kernel_rfl) rfl (by simp [Value.oneCell']) ?_; rw [World.setRow_alloc_new])
          | fail)
        have X1 := Lib.hid (heap_alloc_new wr (.cells #[.slice Asc f.scope.length csc, .pointer (some ⟨g, 0, none⟩)] 54))
        clear k0 k1
        generalize wr.alloc (.cells #[.slice Asc f.scope.length csc, .pointer (some ⟨g, 0, none⟩)] 54) = w1 at X1 LN B1 ⊢
        generalize wr.heap.size = B at X1 ⊢
        have b1 : w1.cell? ⟨B, 1, none⟩ = some (.pointer (some ⟨g, 0, none⟩)) := by rw [cell_of_row _ _ _ _ _ _ X1.out]; rfl
        go_wp2_with (first | (go_at_call 25; refine LN.out.mono ?_; rintro e w' ⟨⟨m, rfl, hm⟩, rfl⟩; have HM := Lib.hid (Nat.le_trans hm N5.out); have m3 : (m : Int) ≤ 100000 := (by have := Nat.le_trans hm N5.out; have := le_sum FJ.out; have := HALL.out; omega); clear hm) | fail)
        refine ⟨⟨j + 1, n + m, by simp, by simp, by have := LT.out; omega, ?_, B1.out⟩, by simp [intOf]; have := LT.out; omega⟩
        have e : fs.take (j + 1) = fs.take j ++ [f] := by
          have h := LT.out
          rw [List.take_succ_eq_append_getElem h]
          congr 2
          exact (List.getElem?_eq_some_iff.1 FJ.out).2
        rw [e, List.map_append, List.sum_append]
        have h1 := HS.out
        have h2 := HM.out
        simp only [List.map_cons, List.map_nil, List.sum_cons, List.sum_nil]
        omega
      · have d1 : decide ((j : Int) < (fs.length : Int)) = false := decide_eq_false (by omega)
        go_wp2_with fail
        go_meet
        case rel => exact ⟨n, rfl, NB.out, HB⟩
  obtain ⟨n, rfl, hn, HB⟩ := hcut
  have d3 : decide ((n : Int) ≤ 16384) = true := decide_eq_true (by omega)
  go_wp2_with fail
  go_ret
  exact ⟨⟨n, rfl, hn⟩, HB.out⟩
end Go.Proofs.YteocbgcgfllieaaGreatDoor

namespace Go.Proofs.YteocbgcgfllieaaGreatDoor
open Go.RowKit
set_option linter.unusedVariables false
set_option maxHeartbeats 1000000 in
theorem index_great (fb cs cf : Nat) (X : ByteArray) (k : Int) (sizes : List Nat) (fs : List FunM) (As Af : Option Addr) (w : World) (H : FileR w fb X k sizes fs As Af cs cf) (hn : fs.length ≤ 256) (hs : ∀ x ∈ sizes, 1 ≤ x ∧ x ≤ 32) (hsl : sizes.length ≤ 64) (hf : ∀ f ∈ fs, FunOk sizes f ∧ FunLim sizes f) :
    Calls Tryz.prog 73 #[.slice Af fs.length cf, .func (.func 57) #[] #[]] w fun e w' => e = .returned (.int .i64 (-1)) ∧ Below w.heap.size w w' := by
  have HR := Lib.hid H
  have HS := Lib.hid (And.intro hs hsl)
  have HF := Lib.hid hf
  clear H hs hsl hf
  go_enter Tryz.func73, Tryz.ntmps73
  go_wp2_with fail
  go_loopw [5, 8] (fun _ i wr => ∃ j : Nat, j ≤ fs.length ∧ i = .int .i64 j ∧ Below w.heap.size w wr) (fun _ i _ => fs.length - (intOf i).toNat)
  case atStart => exact ⟨0, Nat.zero_le _, rfl, Below.refl _ _⟩
  case round =>
    obtain ⟨j, hj, rfl, hB⟩ := hrel
    have HB := Lib.hid hB
    clear hB
    by_cases hlt : j < fs.length
    · obtain ⟨f, hfj⟩ : ∃ f, fs[j]? = some f := ⟨_, List.getElem?_eq_getElem hlt⟩
      have HRR := HR.out.below HB.out
      obtain ⟨gf, sv, tv, rfl, hgf, k0, k1, he⟩ := HRR.funs j f hfj
      have hm := HF.out f (List.mem_of_getElem? hfj)
      have MC := Lib.hid (great_no k sizes f sv tv wr he HS.out.1 hm.1 hm.2)
      have j2 : (0 : Int) ≤ (j : Int) := by omega
      clear hfj HRR he hm hgf
      go_wp2_with (first | (go_at_call 57; refine MC.out.mono ?_; rintro e w2 ⟨rfl, hb⟩; replace hb := Lib.hid (HB.out.trans (hb.mono HB.out.size))) | fail)
      go_roundw
      case rel => exact ⟨j + 1, by omega, by go_num, hb.out⟩
      case measure => simp [intOf]; omega
    · go_wp2
      go_ret
      exact ⟨rfl, HB.out⟩
theorem contains_great (fb cs cf : Nat) (X : ByteArray) (k : Int) (sizes : List Nat) (fs : List FunM) (As Af : Option Addr) (w : World) (H : FileR w fb X k sizes fs As Af cs cf) (hn : fs.length ≤ 256) (hs : ∀ x ∈ sizes, 1 ≤ x ∧ x ≤ 32) (hsl : sizes.length ≤ 64) (hf : ∀ f ∈ fs, FunOk sizes f ∧ FunLim sizes f) :
    Calls Tryz.prog 55 #[.slice Af fs.length cf, .func (.func 57) #[] #[]] w fun e w' => e = .returned (.bool false) ∧ Below w.heap.size w w' := by
  have HI := Lib.hid (index_great fb cs cf X k sizes fs As Af w H hn hs hsl hf)
  clear H hn hs hsl hf
  go_enter Tryz.func55, Tryz.ntmps55
  go_wp2_with (first | (go_at_call 73; refine HI.out.mono ?_; rintro e w2 ⟨rfl, hb⟩; replace hb := Lib.hid hb) | fail)
  go_ret
  exact ⟨rfl, hb.out⟩
set_option maxHeartbeats 1000000 in
theorem index_misfit (fb cs cf : Nat) (X : ByteArray) (k : Int) (sizes : List Nat) (fs : List FunM) (As Af : Option Addr) (w : World) (H : FileR w fb X k sizes fs As Af cs cf) (hn : fs.length ≤ 256) (hs : ∀ x ∈ sizes, 1 ≤ x ∧ x ≤ 32) (hsl : sizes.length ≤ 64) (hf : ∀ f ∈ fs, FunOk sizes f ∧ FunLim sizes f) :
    Calls Tryz.prog 73 #[.slice Af fs.length cf, .func (.func 56) #[.pointer (some ⟨fb, 0, none⟩)] #[]] w fun e w' => e = .returned (.int .i64 (-1)) ∧ Below w.heap.size w w' := by
  have HR := Lib.hid H
  have HS := Lib.hid (And.intro hs hsl)
  have HF := Lib.hid hf
  clear H hs hsl hf
  go_enter Tryz.func73, Tryz.ntmps73
  go_wp2_with fail
  go_loopw [5, 8] (fun _ i wr => ∃ j : Nat, j ≤ fs.length ∧ i = .int .i64 j ∧ Below w.heap.size w wr) (fun _ i _ => fs.length - (intOf i).toNat)
  case atStart => exact ⟨0, Nat.zero_le _, rfl, Below.refl _ _⟩
  case round =>
    obtain ⟨j, hj, rfl, hB⟩ := hrel
    have HB := Lib.hid hB
    clear hB
    by_cases hlt : j < fs.length
    · obtain ⟨f, hfj⟩ : ∃ f, fs[j]? = some f := ⟨_, List.getElem?_eq_getElem hlt⟩
      have HRR := HR.out.below HB.out
      obtain ⟨gf, sv, tv, rfl, hgf, k0, k1, he⟩ := HRR.funs j f hfj
      have hm := HF.out f (List.mem_of_getElem? hfj)
      have MC := Lib.hid (misfit_no fb cs cf X k sizes fs As _ f sv tv wr HRR he HS.out.1 HS.out.2 hm.1 hm.2)
      have j2 : (0 : Int) ≤ (j : Int) := by omega
      clear hfj HRR he hm hgf
      go_wp2_with (first | (go_at_call 56; refine MC.out.mono ?_; rintro e w2 ⟨rfl, hb⟩; replace hb := Lib.hid (HB.out.trans (hb.mono HB.out.size))) | fail)
      go_roundw
      case rel => exact ⟨j + 1, by omega, by go_num, hb.out⟩
      case measure => simp [intOf]; omega
    · go_wp2
      go_ret
      exact ⟨rfl, HB.out⟩
theorem contains_misfit (fb cs cf : Nat) (X : ByteArray) (k : Int) (sizes : List Nat) (fs : List FunM) (As Af : Option Addr) (w : World) (H : FileR w fb X k sizes fs As Af cs cf) (hn : fs.length ≤ 256) (hs : ∀ x ∈ sizes, 1 ≤ x ∧ x ≤ 32) (hsl : sizes.length ≤ 64) (hf : ∀ f ∈ fs, FunOk sizes f ∧ FunLim sizes f) :
    Calls Tryz.prog 55 #[.slice Af fs.length cf, .func (.func 56) #[.pointer (some ⟨fb, 0, none⟩)] #[]] w fun e w' => e = .returned (.bool false) ∧ Below w.heap.size w w' := by
  have HI := Lib.hid (index_misfit fb cs cf X k sizes fs As Af w H hn hs hsl hf)
  clear H hn hs hsl hf
  go_enter Tryz.func55, Tryz.ntmps55
  go_wp2_with (first | (go_at_call 73; refine HI.out.mono ?_; rintro e w2 ⟨rfl, hb⟩; replace hb := Lib.hid hb) | fail)
  go_ret
  exact ⟨rfl, hb.out⟩
/-- A file that is right. -/
structure RightF (X : ByteArray) (k : Int) (sizes : List Nat) (fs : List FunM) : Prop where
  word : stepW X.data.toList 0 = .word 0 X.size
  long : X.size ≤ 64
  top : 1 ≤ k ∧ k ≤ 2147483648
  szs : ∀ x ∈ sizes, 1 ≤ x ∧ x ≤ 32
  n : 1 ≤ sizes.length ∧ sizes.length ≤ 64
  nf : fs.length ≤ 256
  funs : ∀ g ∈ fs, FunOk sizes g ∧ FunLim sizes g
  all : (fs.map fun f => f.lines.length).sum ≤ 16384
set_option maxRecDepth 100000 in
set_option maxHeartbeats 4000000 in
theorem rightF (fb cs cf : Nat) (X : ByteArray) (k : Int) (sizes : List Nat) (fs : List FunM) (As Af : Option Addr) (w : World) (H : FileR w fb X k sizes fs As Af cs cf) (hr : RightF X k sizes fs) :
    Calls Tryz.prog 23 #[.pointer (some ⟨fb, 0, none⟩)] w fun e w' => e = .returned (.int .i64 0) ∧ Below w.heap.size w w' := by
  obtain ⟨c0, c1, c2, c3⟩ := H.cells
  have HR := Lib.hid H
  have HH := Lib.hid hr
  have IW := Lib.hid (isword_yes X w (by have := hr.long; omega) hr.word)
  have CR := Lib.hid (fun W => right_yes k W hr.top.1 hr.top.2)
  have CW := Lib.hid (fun W (hb : Below w.heap.size w W) => contains_noW As sizes.length cs (fun i => (nth sizes i : Int)) W (by have := hr.n.2; omega) ((H.below hb).szs.zs) (fun i hi => by have := hr.szs _ (nth_mem hi); omega))
  have CM := Lib.hid (fun W (hb : Below w.heap.size w W) => contains_misfit fb cs cf X k sizes fs As Af W (H.below hb) hr.nf hr.szs hr.n.2 hr.funs)
  have CG := Lib.hid (fun W (hb : Below w.heap.size w W) => contains_great fb cs cf X k sizes fs As Af W (H.below hb) hr.nf hr.szs hr.n.2 hr.funs)
  have LL := Lib.hid (fun W (hb : Below w.heap.size w W) => lines_le fb cs cf X k sizes fs As Af W (H.below hb) hr.nf hr.all)
  have d1 : ((sizes.length : Int) == 0) = false := by have := hr.n.1; rw [beq_eq_false_iff_ne]; omega
  have d2 : decide ((64 : Int) < (X.size : Int)) = false := decide_eq_false (by have := hr.long; omega)
  have d3 : decide ((64 : Int) < (sizes.length : Int)) = false := decide_eq_false (by have := hr.n.2; omega)
  have d4 : decide ((256 : Int) < (fs.length : Int)) = false := decide_eq_false (by have := hr.nf; omega)
  clear H hr
  have cells : Hid (∀ W, Below w.heap.size w W → W.cell? ⟨fb, 0, none⟩ = some (.string X) ∧ W.cell? ⟨fb, 1, none⟩ = some (.int .i64 k) ∧ W.cell? ⟨fb, 2, none⟩ = some (.slice As sizes.length cs) ∧ W.cell? ⟨fb, 3, none⟩ = some (.slice Af fs.length cf)) := Lib.hid (fun W hb => (HR.out.below hb).cells)
  go_enter Tryz.func23, Tryz.ntmps23
  go_wp2_with (first
    | (go_at_call 52; refine IW.out.mono ?_; rintro e w2 ⟨rfl, hb2⟩; clear c0 c1 c2 c3; obtain ⟨c0, c1, c2, c3⟩ := cells.out _ hb2; have B2 := Lib.hid hb2; clear hb2)
    | (go_at_call 53; refine (CR.out _).mono ?_; rintro e w' ⟨rfl, rfl⟩)
    | (go_at_call 50; refine (CW.out _ B2.out).mono ?_; rintro e w' ⟨rfl, rfl⟩)
    | (go_at_call 55; with_reducible refine (CM.out _ B2.out).mono ?_; rintro e w3 ⟨rfl, hb3⟩; have B3 := Lib.hid (B2.out.trans (hb3.mono B2.out.size)); clear hb3 c0 c1 c2 c3; obtain ⟨c0, c1, c2, c3⟩ := cells.out _ B3.out)
    | (go_at_call 55; with_reducible refine (CG.out _ B3.out).mono ?_; rintro e w4 ⟨rfl, hb4⟩; have B4 := Lib.hid (B3.out.trans (hb4.mono B3.out.size)); clear hb4 c0 c1 c2 c3)
    | (go_at_call 58; refine (LL.out _ B4.out).mono ?_; rintro e w5 ⟨⟨n, rfl, hn⟩, hb5⟩; have B5 := Lib.hid (B4.out.trans (hb5.mono B4.out.size)); have d5 : decide ((16384 : Int) < (n : Int)) = false := (by exact decide_eq_false (by omega)); clear hb5 hn)
    | fail)
  go_ret
  exact ⟨rfl, B5.out⟩
end Go.Proofs.YteocbgcgfllieaaGreatDoor
