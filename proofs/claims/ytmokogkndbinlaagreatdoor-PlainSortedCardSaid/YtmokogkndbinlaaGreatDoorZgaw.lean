import Derived.Lib.ConvBytes
import Derived.RangeFuncStops
import Derived.RangeFuncKeeps
import Derived.RangeFuncNested
import Derived.Sort.MapsRangeIn
import Derived.RegionIn
import Derived.OrdersIn
import Derived.Test.YtmokogkndbinlaaGreatDoorZgav
set_option linter.all false
namespace Go.Proofs.YtmokogkndbinlaaGreatDoor
open Go.Lib (hid)
open Go.RowKit
theorem isword_yes (X : ByteArray) (w : World) (hs : X.size ≤ 100000) (hr : stepW X.data.toList 0 = .word 0 X.size) :
  Calls Tryz.prog 121 #[.string X] w fun e w' => e = .returned (.bool true) ∧ Below w.heap.size w w' := by
 have CV := Lib.run_convert_string_bytes (P := Tryz.prog) w 9 22 5 X Tryz.underlying9 Tryz.underlying22 Tryz.underlying5
 have B1 : Below w.heap.size w (Lib.bytesWorld w 5 X) := ⟨rfl, rfl, rfl, by rw [Lib.bytesWorld_size]; omega, fun j hj => Lib.bytesWorld_at_old w 5 X j hj⟩
 have BY : BS (Lib.bytesWorld w 5 X) (some ⟨w.heap.size, 0, none⟩) X := .inr ⟨_, 0, rfl, by rw [Lib.bytesWorld_size]; omega, fun i hi => by
  rw [Nat.zero_add, Lib.bytesWorld_cell w 5 X i hi]
  simp [ByteArray.getElem_eq_getElem_data, List.getD_eq_getElem?_getD, hi]
  ⟩
 have SN := hid (fun W (hW : W = Lib.bytesWorld w 5 X) => snew_any (.slice (some ⟨w.heap.size, 0, none⟩) X.size (grownCap w X.size 0 5)) X W (conv_bytes (by rw [hW]; exact BY)))
 have B1 := hid B1
 have HR := hid hr
 have HS := hid hs
 clear hr hs BY
 generalize grownCap w X.size 0 5 = cap at CV SN
 obtain ⟨wb, hwb⟩ : ∃ wb, Lib.bytesWorld w 5 X = wb := ⟨_, rfl⟩
 rw [hwb] at CV B1
 have HWB := hid hwb.symm
 clear hwb
 go_enter Tryz.func121, Tryz.ntmps121
 go_wp2_with (first
  | (go_at_call 73; refine (SN.out _ HWB.out).mono ?_; rintro e w2 ⟨rfl, hw2⟩; have WD := hid (word_ok wb.heap.size X 0 0 X.size w2 (by have := HS.out; unfold maxLen; omega) (Nat.zero_le _) (by rw [hw2]; exact ScanAt.new wb X) HR.out); have B2 := hid (by have := B1.out.trans ((new_val wb (.cells #[.string X, .int .i64 0] 194)).mono B1.out.size); rw [← hw2] at this; exact this); have Z2 := hid (by have := World.size_alloc wb (.cells #[.string X, .int .i64 0] 194); rw [← hw2] at this; exact this); clear hw2)
  | (go_at_call 159; refine WD.out.mono ?_; rintro e w3 ⟨rfl, hg3, hs3⟩; replace hg3 := hid hg3; clear hs3; have EX : X.extract 0 X.size = X := (by exact ByteArray.extract_zero_size); rw [EX]; clear EX)
  | fail)
 go_ret
 refine ⟨rfl, B2.out.grown hg3.out B2.out.size (fun q hq => ?_)⟩
 injection hq with hq
 have := B1.out.size
 omega
theorem le_sum {fs : List FunM} {j : Nat} {f : FunM} (h : fs[j]? = some f) : f.lines.length ≤ (fs.map fun f => f.lines.length).sum := by
 have hj : j < fs.length := (List.getElem?_eq_some_iff.1 h).1
 have e : fs = fs.take j ++ f :: fs.drop (j + 1) := by
  rw [← (List.getElem?_eq_some_iff.1 h).2, List.getElem_cons_drop, List.take_append_drop]
 conv => rhs; rw [e]
 simp
 omega
theorem take_sum (fs : List FunM) (j : Nat) : ((fs.take j).map fun f => f.lines.length).sum ≤ (fs.map fun f => f.lines.length).sum := by
 conv => rhs; rw [← List.take_append_drop j fs]
 rw [List.map_append, List.sum_append]
 exact Nat.le_add_right _ _
set_option maxRecDepth 100000 in
set_option maxHeartbeats 4000000 in
theorem lines_le (fb cs cf : Nat) (X : ByteArray) (k : Int) (sizes : List Nat) (fs : List FunM) (As Af : Option Addr) (w : World) (H : FileR w fb X k sizes fs As Af cs cf) (hn : fs.length ≤ 256) (hall : (fs.map fun f => f.lines.length).sum ≤ 16384) :
  Calls Tryz.prog 128 #[.pointer (some ⟨fb, 0, none⟩)] w fun e w' => (∃ n : Nat, e = .returned (.int .i64 (n : Int)) ∧ n ≤ 16384) ∧ Below w.heap.size w w' := by
 have c3 := H.cells.2.2.2
 have HR := hid H
 have HN := hid hn
 have HALL := hid hall
 clear H hn hall
 go_enter Tryz.func128, Tryz.ntmps128
 go_upto_block 0 with fail
 clear c3
 go_cut [3] from 12 to 26 (fun v3 wc => ∃ n : Nat, v3 = .int .i64 (n : Int) ∧ n ≤ 16384 ∧ Hid (Below w.heap.size w wc))
 case first =>
  go_wp2_with fail
  go_loopw [3, 5, 17] (fun v3 _ i wr => ∃ (j n : Nat), i = .int .i64 (j : Int) ∧ v3 = .int .i64 (n : Int) ∧ j ≤ fs.length ∧ n ≤ ((fs.take j).map fun f => f.lines.length).sum ∧ Below w.heap.size w wr) (fun _ _ i _ => fs.length - (intOf i).toNat)
  case atStart => exact ⟨0, 0, rfl, rfl, Nat.zero_le _, Nat.zero_le _, Below.refl _ _⟩
  case round =>
   obtain ⟨j, n, rfl, rfl, hj, hs, hB⟩ := hrel
   have HB := hid hB
   have HS := hid hs
   clear hB hs
   have NB : Hid (n ≤ 16384) := hid (Nat.le_trans HS.out (Nat.le_trans (take_sum _ _) HALL.out))
   by_cases hlt : j < fs.length
   ·have d1 : decide ((j : Int) < (fs.length : Int)) = true := decide_eq_true (by omega)
    obtain ⟨f, hfj⟩ : ∃ f, fs[j]? = some f := ⟨_, List.getElem?_eq_getElem hlt⟩
    have HRR := HR.out.below HB.out
    obtain ⟨gf, sv, tv, rfl, hgf, k0, k1, he⟩ := HRR.funs j f hfj
    obtain ⟨Asc, csc, g, mb, A, c, N, rfl, hcap, rfl, h3, h4, h5, -⟩ := he
    have FJ := hid hfj
    have LT := hid hlt
    have N5 := hid h5
    have n1 := new_val wr (.cells #[.slice Asc f.scope.length csc, .pointer (some ⟨g, 0, none⟩)] 62)
    have LN := hid (tplen_le g mb N c A (pickN sizes f.scope) k _ _ _ (h4.below n1))
    have B1 := hid (HB.out.trans (n1.mono HB.out.size))
    have j2 : (0 : Int) ≤ (j : Int) := by omega
    have j3 : (j : Int) ≤ 256 := by have := HN.out; omega
    have n3 : (n : Int) ≤ 16384 := by have := NB.out; omega
    clear HRR hfj h3 h4 h5 n1 hcap hgf
    go_upto_region 5 with (first
     | ((with_reducible show wpList _ _ _ (Oper.mk none (.store 62 _ _) _ _ _ _ :: _) _ _); refine wpList_store_row rfl 62 (.tmp 5) (.tmp 20) rfl wr.heap.size #[.slice Asc f.scope.length csc, .pointer (some ⟨g, 0, none⟩)] rfl rfl 62 #[.slice none 0 0, .pointer none] (heap_alloc_new _ _) (by kernel_rfl) rfl (by simp [Value.oneCell']) ?_; rw [World.setRow_alloc_new])
     | fail)
    have X1 := hid (heap_alloc_new wr (.cells #[.slice Asc f.scope.length csc, .pointer (some ⟨g, 0, none⟩)] 62))
    clear k0 k1
    generalize wr.alloc (.cells #[.slice Asc f.scope.length csc, .pointer (some ⟨g, 0, none⟩)] 62) = w1 at X1 LN B1 ⊢
    generalize wr.heap.size = B at X1 ⊢
    have b1 : w1.cell? ⟨B, 1, none⟩ = some (.pointer (some ⟨g, 0, none⟩)) := by rw [cell_of_row _ _ _ _ _ _ X1.out]; rfl
    go_wp2_with (first | (go_at_call 36; refine LN.out.mono ?_; rintro e w' ⟨⟨m, rfl, hm⟩, rfl⟩; have HM := hid (Nat.le_trans hm N5.out); have m3 : (m : Int) ≤ 100000 := (by have := Nat.le_trans hm N5.out; have := le_sum FJ.out; have := HALL.out; omega); clear hm) | fail)
    refine ⟨⟨j + 1, n + m, by simp, by simp, by have := LT.out; omega, ?_, B1.out⟩, by simp [intOf]; have := LT.out; omega⟩
    have e : fs.take (j + 1) = fs.take j ++ [f] := by
     have h := LT.out
     rw [List.take_succ_eq_append_getElem h]
     congr 2
     exact (List.getElem?_eq_some_iff.1 FJ.out).2
    rw [e, List.map_append, List.sum_append]
    have h1 := HS.out
    have h2 := HM.out
    simp only [List.map_cons, List.map_nil, List.sum_cons, List.sum_nil]
    omega
   have d1 : decide ((j : Int) < (fs.length : Int)) = false := decide_eq_false (by omega)
   go_wp2_with fail
   go_meet
   case rel => exact ⟨n, rfl, NB.out, HB⟩
 obtain ⟨n, rfl, hn, HB⟩ := hcut
 have d3 : decide ((n : Int) ≤ 16384) = true := decide_eq_true (by omega)
 go_wp2_with fail
 go_ret
 exact ⟨⟨n, rfl, hn⟩, HB.out⟩
end Go.Proofs.YtmokogkndbinlaaGreatDoor
namespace Go.Proofs.YtmokogkndbinlaaGreatDoor
open Go.RowKit
set_option maxHeartbeats 1000000 in
theorem index_great (fb cs cf : Nat) (X : ByteArray) (k : Int) (sizes : List Nat) (fs : List FunM) (As Af : Option Addr) (w : World) (H : FileR w fb X k sizes fs As Af cs cf) (hn : fs.length ≤ 256) (hs : ∀ x ∈ sizes, 1 ≤ x ∧ x ≤ 32) (hsl : sizes.length ≤ 64) (hf : ∀ f ∈ fs, FunOk sizes f ∧ FunLim sizes f) :
  Calls Tryz.prog 109 #[.slice Af fs.length cf, .func (.func 127) #[] #[]] w fun e w' => e = .returned (.int .i64 (-1)) ∧ Below w.heap.size w w' := by
 have HR := hid H
 have HS := hid (And.intro hs hsl)
 have HF := hid hf
 clear H hs hsl hf
 go_enter Tryz.func109, Tryz.ntmps109
 go_wp2_with fail
 go_loopw [5, 8] (fun _ i wr => ∃ j : Nat, j ≤ fs.length ∧ i = .int .i64 j ∧ Below w.heap.size w wr) (fun _ i _ => fs.length - (intOf i).toNat)
 case atStart => exact ⟨0, Nat.zero_le _, rfl, Below.refl _ _⟩
 case round =>
  obtain ⟨j, hj, rfl, hB⟩ := hrel
  have HB := hid hB
  clear hB
  by_cases hlt : j < fs.length
  rotate_left
  ·go_wp2
   go_ret
   exact ⟨rfl, HB.out⟩
  obtain ⟨f, hfj⟩ : ∃ f, fs[j]? = some f := ⟨_, List.getElem?_eq_getElem hlt⟩
  have HRR := HR.out.below HB.out
  obtain ⟨gf, sv, tv, rfl, hgf, k0, k1, he⟩ := HRR.funs j f hfj
  have hm := HF.out f (List.mem_of_getElem? hfj)
  have MC := hid (great_no k sizes f sv tv wr he HS.out.1 hm.1 hm.2)
  have j2 : (0 : Int) ≤ (j : Int) := by omega
  clear hfj HRR he hm hgf
  go_wp2_with (first | (go_at_call 127; refine MC.out.mono ?_; rintro e w2 ⟨rfl, hb⟩; replace hb := hid (HB.out.trans (hb.mono HB.out.size))) | fail)
  go_roundw
  case rel => exact ⟨j + 1, by omega, by go_num, hb.out⟩
  case measure => simp [intOf]; omega
theorem contains_great (fb cs cf : Nat) (X : ByteArray) (k : Int) (sizes : List Nat) (fs : List FunM) (As Af : Option Addr) (w : World) (H : FileR w fb X k sizes fs As Af cs cf) (hn : fs.length ≤ 256) (hs : ∀ x ∈ sizes, 1 ≤ x ∧ x ≤ 32) (hsl : sizes.length ≤ 64) (hf : ∀ f ∈ fs, FunOk sizes f ∧ FunLim sizes f) :
  Calls Tryz.prog 125 #[.slice Af fs.length cf, .func (.func 127) #[] #[]] w fun e w' => e = .returned (.bool false) ∧ Below w.heap.size w w' := by
 have HI := hid (index_great fb cs cf X k sizes fs As Af w H hn hs hsl hf)
 clear H hn hs hsl hf
 go_enter Tryz.func125, Tryz.ntmps125
 go_wp2_with (first | (go_at_call 109; refine HI.out.mono ?_; rintro e w2 ⟨rfl, hb⟩; replace hb := hid hb) | fail)
 go_ret
 exact ⟨rfl, hb.out⟩
set_option maxHeartbeats 1000000 in
theorem index_misfit (fb cs cf : Nat) (X : ByteArray) (k : Int) (sizes : List Nat) (fs : List FunM) (As Af : Option Addr) (w : World) (H : FileR w fb X k sizes fs As Af cs cf) (hn : fs.length ≤ 256) (hs : ∀ x ∈ sizes, 1 ≤ x ∧ x ≤ 32) (hsl : sizes.length ≤ 64) (hf : ∀ f ∈ fs, FunOk sizes f ∧ FunLim sizes f) :
  Calls Tryz.prog 109 #[.slice Af fs.length cf, .func (.func 126) #[.pointer (some ⟨fb, 0, none⟩)] #[]] w fun e w' => e = .returned (.int .i64 (-1)) ∧ Below w.heap.size w w' := by
 have HR := hid H
 have HS := hid (And.intro hs hsl)
 have HF := hid hf
 clear H hs hsl hf
 go_enter Tryz.func109, Tryz.ntmps109
 go_wp2_with fail
 go_loopw [5, 8] (fun _ i wr => ∃ j : Nat, j ≤ fs.length ∧ i = .int .i64 j ∧ Below w.heap.size w wr) (fun _ i _ => fs.length - (intOf i).toNat)
 case atStart => exact ⟨0, Nat.zero_le _, rfl, Below.refl _ _⟩
 case round =>
  obtain ⟨j, hj, rfl, hB⟩ := hrel
  have HB := hid hB
  clear hB
  by_cases hlt : j < fs.length
  rotate_left
  ·go_wp2
   go_ret
   exact ⟨rfl, HB.out⟩
  obtain ⟨f, hfj⟩ : ∃ f, fs[j]? = some f := ⟨_, List.getElem?_eq_getElem hlt⟩
  have HRR := HR.out.below HB.out
  obtain ⟨gf, sv, tv, rfl, hgf, k0, k1, he⟩ := HRR.funs j f hfj
  have hm := HF.out f (List.mem_of_getElem? hfj)
  have MC := hid (misfit_no fb cs cf X k sizes fs As _ f sv tv wr HRR he HS.out.1 HS.out.2 hm.1 hm.2)
  have j2 : (0 : Int) ≤ (j : Int) := by omega
  clear hfj HRR he hm hgf
  go_wp2_with (first | (go_at_call 126; refine MC.out.mono ?_; rintro e w2 ⟨rfl, hb⟩; replace hb := hid (HB.out.trans (hb.mono HB.out.size))) | fail)
  go_roundw
  case rel => exact ⟨j + 1, by omega, by go_num, hb.out⟩
  case measure => simp [intOf]; omega
theorem contains_misfit (fb cs cf : Nat) (X : ByteArray) (k : Int) (sizes : List Nat) (fs : List FunM) (As Af : Option Addr) (w : World) (H : FileR w fb X k sizes fs As Af cs cf) (hn : fs.length ≤ 256) (hs : ∀ x ∈ sizes, 1 ≤ x ∧ x ≤ 32) (hsl : sizes.length ≤ 64) (hf : ∀ f ∈ fs, FunOk sizes f ∧ FunLim sizes f) :
  Calls Tryz.prog 125 #[.slice Af fs.length cf, .func (.func 126) #[.pointer (some ⟨fb, 0, none⟩)] #[]] w fun e w' => e = .returned (.bool false) ∧ Below w.heap.size w w' := by
 have HI := hid (index_misfit fb cs cf X k sizes fs As Af w H hn hs hsl hf)
 clear H hn hs hsl hf
 go_enter Tryz.func125, Tryz.ntmps125
 go_wp2_with (first | (go_at_call 109; refine HI.out.mono ?_; rintro e w2 ⟨rfl, hb⟩; replace hb := hid hb) | fail)
 go_ret
 exact ⟨rfl, hb.out⟩
structure RightF (X : ByteArray) (k : Int) (sizes : List Nat) (fs : List FunM) : Prop where
 word : stepW X.data.toList 0 = .word 0 X.size
 long : X.size ≤ 64
 top : 1 ≤ k ∧ k ≤ 2147483648
 szs : ∀ x ∈ sizes, 1 ≤ x ∧ x ≤ 32
 n : 1 ≤ sizes.length ∧ sizes.length ≤ 64
 nf : fs.length ≤ 256
 funs : ∀ g ∈ fs, FunOk sizes g ∧ FunLim sizes g
 all : (fs.map fun f => f.lines.length).sum ≤ 16384
set_option maxRecDepth 100000 in
set_option maxHeartbeats 4000000 in
theorem rightF (fb cs cf : Nat) (X : ByteArray) (k : Int) (sizes : List Nat) (fs : List FunM) (As Af : Option Addr) (w : World) (H : FileR w fb X k sizes fs As Af cs cf) (hr : RightF X k sizes fs) :
  Calls Tryz.prog 64 #[.pointer (some ⟨fb, 0, none⟩)] w fun e w' => e = .returned (.int .i64 0) ∧ Below w.heap.size w w' := by
 obtain ⟨c0, c1, c2, c3⟩ := H.cells
 have HR := hid H
 have HH := hid hr
 have IW := hid (isword_yes X w (by have := hr.long; omega) hr.word)
 have CR := hid (fun W => right_yes k W hr.top.1 hr.top.2)
 have CW := hid (fun W (hb : Below w.heap.size w W) => contains_noW As sizes.length cs (fun i => (nth sizes i : Int)) W (by have := hr.n.2; omega) ((H.below hb).szs.zs) (fun i hi => by have := hr.szs _ (nth_mem hi); omega))
 have CM := hid (fun W (hb : Below w.heap.size w W) => contains_misfit fb cs cf X k sizes fs As Af W (H.below hb) hr.nf hr.szs hr.n.2 hr.funs)
 have CG := hid (fun W (hb : Below w.heap.size w W) => contains_great fb cs cf X k sizes fs As Af W (H.below hb) hr.nf hr.szs hr.n.2 hr.funs)
 have LL := hid (fun W (hb : Below w.heap.size w W) => lines_le fb cs cf X k sizes fs As Af W (H.below hb) hr.nf hr.all)
 have d1 : ((sizes.length : Int) == 0) = false := by have := hr.n.1; rw [beq_eq_false_iff_ne]; omega
 have d2 : decide ((64 : Int) < (X.size : Int)) = false := decide_eq_false (by have := hr.long; omega)
 have d3 : decide ((64 : Int) < (sizes.length : Int)) = false := decide_eq_false (by have := hr.n.2; omega)
 have d4 : decide ((256 : Int) < (fs.length : Int)) = false := decide_eq_false (by have := hr.nf; omega)
 clear H hr
 have cells : Hid (∀ W, Below w.heap.size w W → W.cell? ⟨fb, 0, none⟩ = some (.string X) ∧ W.cell? ⟨fb, 1, none⟩ = some (.int .i64 k) ∧ W.cell? ⟨fb, 2, none⟩ = some (.slice As sizes.length cs) ∧ W.cell? ⟨fb, 3, none⟩ = some (.slice Af fs.length cf)) := hid (fun W hb => (HR.out.below hb).cells)
 go_enter Tryz.func64, Tryz.ntmps64
 go_wp2_with (first
  | (go_at_call 121; refine IW.out.mono ?_; rintro e w2 ⟨rfl, hb2⟩; clear c0 c1 c2 c3; obtain ⟨c0, c1, c2, c3⟩ := cells.out _ hb2; have B2 := hid hb2; clear hb2)
  | (go_at_call 122; refine (CR.out _).mono ?_; rintro e w' ⟨rfl, rfl⟩)
  | (go_at_call 123; refine (CW.out _ B2.out).mono ?_; rintro e w' ⟨rfl, rfl⟩)
  | (go_at_call 125; with_reducible refine (CM.out _ B2.out).mono ?_; rintro e w3 ⟨rfl, hb3⟩; have B3 := hid (B2.out.trans (hb3.mono B2.out.size)); clear hb3 c0 c1 c2 c3; obtain ⟨c0, c1, c2, c3⟩ := cells.out _ B3.out)
  | (go_at_call 125; with_reducible refine (CG.out _ B3.out).mono ?_; rintro e w4 ⟨rfl, hb4⟩; have B4 := hid (B3.out.trans (hb4.mono B3.out.size)); clear hb4 c0 c1 c2 c3)
  | (go_at_call 128; refine (LL.out _ B4.out).mono ?_; rintro e w5 ⟨⟨n, rfl, hn⟩, hb5⟩; have B5 := hid (B4.out.trans (hb5.mono B4.out.size)); have d5 : decide ((16384 : Int) < (n : Int)) = false := (by exact decide_eq_false (by omega)); clear hb5 hn)
  | fail)
 go_ret
 exact ⟨rfl, B5.out⟩
theorem assigned_yes (fb cs cf c : Nat) (X : ByteArray) (k : Int) (sizes a : List Nat) (fs : List FunM) (As Af A : Option Addr) (w : World) (H : FileR w fb X k sizes fs As Af cs cf) (hI : Ints w A a) (ha : InL sizes a) (hl : sizes.length ≤ 64) :
  Calls Tryz.prog 86 #[.pointer (some ⟨fb, 0, none⟩), .slice A a.length c] w fun e w' => e = .returned (.bool true) ∧ w = w' := by
 obtain ⟨h1, h2⟩ := inL_iff.1 ha
 have c2 := H.cells.2.2.1
 rw [← h1] at c2
 have HS := hid H.szs
 have HI := hid hI
 have H2 := hid h2
 have H1 := hid h1
 have HL : Hid (a.length ≤ 64) := hid (by omega)
 clear H hI h2 ha hl h1
 go_enter Tryz.func86, Tryz.ntmps86
 go_wp2_with fail
 go_loopw [5, 6, 17] (fun _ _ i wr => ∃ j : Nat, i = .int .i64 (j : Int) ∧ j ≤ a.length ∧ wr = w) (fun _ _ i _ => a.length - (intOf i).toNat)
 case atStart => exact ⟨0, rfl, Nat.zero_le _, rfl⟩
 case round =>
  obtain ⟨j, rfl, hj, rfl⟩ := hrel
  by_cases hlt : j < a.length
  rotate_left
  ·have d1 : decide ((j : Int) < (a.length : Int)) = false := decide_eq_false (by omega)
   go_wp2_with fail
   go_ret
   first | exact ⟨rfl, rfl⟩ | exact ⟨rfl, trivial⟩
  have d1 : decide ((j : Int) < (a.length : Int)) = true := decide_eq_true (by omega)
  obtain ⟨ga, oa, rfl, hca⟩ := HI.out.at_ hlt
  obtain ⟨gs, os, rfl, hcs⟩ := HS.out.at_ (i := j) (by rw [← H1.out]; exact hlt)
  have hv := H2.out j (by rw [← H1.out]; exact hlt)
  generalize nth a j = x at hca hv
  generalize nth sizes j = y at hcs hv
  have d2 : decide ((x : Int) < 0) = false := decide_eq_false (by omega)
  have d3 : decide ((y : Int) ≤ (x : Int)) = false := decide_eq_false (by omega)
  have j2 : (0 : Int) ≤ (j : Int) := by omega
  have j3 : (j : Int) ≤ 64 := by have := HL.out; omega
  go_wp2_with fail
  exact ⟨⟨j + 1, by simp, by omega, trivial⟩, by simp [intOf]; omega⟩
theorem putF_in {k o : Int} {ls : List LineM} (ho : 0 ≤ o ∧ o ≤ k) (hl : ∀ x ∈ ls, 0 ≤ x.2 ∧ x.2 ≤ k) (t : List Nat) : 0 ≤ putF o ls t ∧ putF o ls t ≤ k := by
 have key : ∀ (ls : List LineM) (g : List Nat → Int), (∀ t, 0 ≤ g t ∧ g t ≤ k) → (∀ x ∈ ls, 0 ≤ x.2 ∧ x.2 ≤ k) → ∀ t, 0 ≤ ls.foldl (fun g y => updF g y.1 y.2) g t ∧ ls.foldl (fun g y => updF g y.1 y.2) g t ≤ k := by
  intro ls
  induction ls with
  | nil => intro g hg _ t; exact hg t
  | cons x r ih =>
   intro g hg hx t
   refine ih (updF g x.1 x.2) (fun t => ?_) (fun y hy => hx y (by simp [hy])) t
   unfold updF
   split
   ·exact hx x (by simp)
   exact hg t
 exact key ls _ (fun _ => ho) hl t
theorem funF_in {k : Int} {sizes : List Nat} {f : FunM} (hk : 1 ≤ k) (hf : FunOk sizes f) (t : List Nat) : 0 ≤ funF k f t ∧ funF k f t ≤ k := by
 refine putF_in ?_ (fun x hx => ?_) t
 ·have := hf.other
  omega
 obtain ⟨y, hy, rfl⟩ := List.mem_map.1 hx
 have := hf.lines.cost y hy
 simp only
 omega
end Go.Proofs.YtmokogkndbinlaaGreatDoor
namespace Go.Proofs.YtmokogkndbinlaaGreatDoor
open Go.RowKit
theorem tw_all {P : UInt8 → Bool} : ∀ {l : List UInt8} {c : UInt8}, c ∈ l.takeWhile P → P c = true
 | [], c, h => by simp at h
 | x :: r, c, h => by
  rw [List.takeWhile_cons] at h
  cases hx : P x with
  | false => rw [hx] at h; simp at h
  | true =>
   rw [hx] at h
   rcases List.mem_cons.1 h with h | h
   ·rw [h]; exact hx
   exact tw_all h
theorem tw_self {P : UInt8 → Bool} : ∀ {l : List UInt8}, (∀ c ∈ l, P c = true) → l.takeWhile P = l
 | [], h => rfl
 | x :: r, h => by
  rw [List.takeWhile_cons, h x (by simp)]
  simp only [if_true]
  rw [tw_self (fun c hc => h c (by simp [hc]))]
theorem word_self {l : List UInt8} {k f t : Nat} (hk : k ≤ l.length) (h : stepW l k = .word f t) : stepW (subL l f t) 0 = .word 0 (t - f) ∧ (subL l f t).length = t - f := by
 obtain ⟨h1, h2, h3, -, h5⟩ := stepW_word hk h
 have he : subL l f t = (l.drop f).takeWhile fun c => isW c.toNat := by
  unfold subL
  rw [h5]
  unfold pastP
  rw [Nat.add_sub_cancel_left]
  exact (List.prefix_iff_eq_take.1 (List.takeWhile_prefix _)).symm
 have hl : (subL l f t).length = t - f := by
  unfold subL
  rw [List.length_take, List.length_drop]
  omega
 have hall : ∀ c ∈ subL l f t, isW c.toNat = true := fun c hc => by
  rw [he] at hc
  exact tw_all hc
 refine ⟨?_, hl⟩
 generalize subL l f t = m at hl hall
 have hW : m.takeWhile (fun c => isW c.toNat) = m := tw_self (fun c hc => hall c hc)
 have hB : m.takeWhile (fun c => isB c.toNat) = [] := by
  cases m with
  | nil => rfl
  | cons c r =>
   have h := hall c (by simp)
   have hb : isB c.toNat = false := by
    unfold isW at h
    unfold isB
    simp only [Bool.and_eq_true, decide_eq_true_eq] at h
    simp only [Bool.or_eq_false_iff, beq_eq_false_iff_ne]
    omega
   rw [List.takeWhile_cons, hb]
   rfl
 have e1 : pastP isB m 0 = 0 := by unfold pastP; rw [List.drop_zero, hB]; rfl
 have e2 : pastP isW m 0 = m.length := by unfold pastP; rw [List.drop_zero, hW]; omega
 unfold stepW
 simp only [e1, e2]
 rw [dif_neg (by omega), if_neg (by omega), hl]
theorem fileM_word {l : List UInt8} {lo : Int} {F : FileM} {s : RdS} (h : fileM l lo = .ok F s) : stepW l 0 = .word F.name.1 F.name.2 := by
 unfold fileM at h
 obtain ⟨w, s1, h1, h⟩ := bind_ok_iff.1 h
 obtain ⟨n, s2, h2, h⟩ := bind_ok_iff.1 h
 obtain ⟨g, s3, h3, h⟩ := bind_ok_iff.1 h
 obtain ⟨c, s4, h4, h⟩ := bind_ok_iff.1 h
 obtain ⟨k, s5, h5, h⟩ := bind_ok_iff.1 h
 obtain ⟨sz, s6, h6, h⟩ := bind_ok_iff.1 h
 obtain ⟨a, s7, h7, h⟩ := bind_ok_iff.1 h
 have hw := (wordM_ok.1 h1).1
 split at h
 ·cases h
 ·cases h
 cases h
 exact hw
theorem rightF_of {s : ByteArray} {lo : Int} {F : FileM} {st : RdS} (h : fileM s.data.toList lo = .ok F st) (hb : st.big = none) (hs : (F.funs.map fun f => f.lines.length).sum ≤ 16384) : RightF (s.extract F.name.1 F.name.2) F.top F.sizes F.funs := by
 have ho := (fileM_ok h hb).1
 obtain ⟨w1, w2⟩ := word_self (Nat.zero_le _) (fileM_word h)
 rw [← extract_sub] at w1 w2
 rw [size_list] at w2
 exact ⟨by rw [w1, w2], by rw [w2]; exact ho.long, ho.top, ho.sizes, ho.n, ho.nf, ho.funs, hs⟩
theorem readR_ok {s : ByteArray} {A : Option Addr} {c : Nat} {w : World} (hs : s.size ≤ 65536) (h : BS w A s) (hG : GlobR w) (hT : TabP w) {F : FileM} {st : RdS} (hf : fileM s.data.toList (-4611686018427387904) = .ok F st) (hb : st.big = none) :
  Calls Tryz.prog 22 #[.slice A s.size c] w fun e w' => ∃ fb As Af cs cf, e = .returned (.tuple #[.pointer (some ⟨fb, 0, none⟩), .int .i64 (s.size : Int), .int .i64 0]) ∧ FileR w' fb (s.extract F.name.1 F.name.2) F.top F.sizes F.funs As Af cs cf ∧ Below w.heap.size w w' := by
 refine (readR s A c w hs h hG hT).mono ?_
 rintro e w' ⟨hr, hb'⟩
 rw [hf] at hr
 unfold ReadRes at hr
 simp only [hb] at hr
 obtain ⟨fb, fv, us, As, cs, base, _, h1, h2, h3, _⟩ := hr
 obtain ⟨Af, cf, h4⟩ := h3.r
 exact ⟨fb, As, Af, cs, cf, h1, h4, hb'⟩
theorem readR_bad {s : ByteArray} {A : Option Addr} {c : Nat} {w : World} (hs : s.size ≤ 65536) (h : BS w A s) (hG : GlobR w) (hT : TabP w) {e p : Nat} (hf : fileM s.data.toList (-4611686018427387904) = .bad e p) :
  Calls Tryz.prog 22 #[.slice A s.size c] w fun e' w' => e' = .returned (.tuple #[.pointer none, .int .i64 (p : Int), .int .i64 (e : Int)]) ∧ Below w.heap.size w w' := by
 refine (readR s A c w hs h hG hT).mono ?_
 rintro e w' ⟨hr, hb'⟩
 rw [hf] at hr
 exact ⟨hr, hb'⟩
theorem readR_big {s : ByteArray} {A : Option Addr} {c : Nat} {w : World} (hs : s.size ≤ 65536) (h : BS w A s) (hG : GlobR w) (hT : TabP w) {F : FileM} {st : RdS} {p : Nat} (hf : fileM s.data.toList (-4611686018427387904) = .ok F st) (hb : st.big = some p) :
  Calls Tryz.prog 22 #[.slice A s.size c] w fun e' w' => e' = .returned (.tuple #[.pointer none, .int .i64 (p : Int), .int .i64 5]) ∧ Below w.heap.size w w' := by
 refine (readR s A c w hs h hG hT).mono ?_
 rintro e w' ⟨hr, hb'⟩
 rw [hf] at hr
 unfold ReadRes at hr
 simp only [hb] at hr
 exact ⟨hr, hb'⟩
theorem ints_two (w : World) (x y : Nat) : Ints (w.alloc (.cells #[.int .i64 (x : Int), .int .i64 (y : Int)] 3)) (some ⟨w.heap.size, 0, none⟩) [x, y] :=
 .inr ⟨_, 0, rfl, by simp, fun i hi => by
  rw [cell_of_row _ _ _ _ _ _ (heap_alloc_new w _)]
  have hi' : i < 2 := hi
  rcases (by omega : i = 0 ∨ i = 1) with rfl | rfl <;> rfl⟩
open Go.RowKit Go.Shelf Go.Sort Go.Lib
def cmp2 (a b : Int) : Int := if a < b then -1 else if b < a then 1 else 0
theorem nan_no (a : Int) (w : World) : Calls Tryz.prog 150 #[.int .i64 a] w fun e w' => e = .returned (.bool false) ∧ w = w' := by
 have d : (a != a) = false := by simp
 go_enter Tryz.func150, Tryz.ntmps150
 go_wp2_with fail
 go_ret
 exact ⟨rfl, rfl⟩
theorem compare_int (a b : Int) (w : World) : Calls Tryz.prog 93 #[.int .i64 a, .int .i64 b] w fun e w' => e = .returned (.int .i64 (cmp2 a b)) ∧ w = w' := by
 unfold cmp2
 rcases (by omega : a < b ∨ (¬ a < b ∧ b < a) ∨ (¬ a < b ∧ ¬ b < a)) with h | ⟨h, h'⟩ | ⟨h, h'⟩
 ·rw [if_pos h]
  go_enter Tryz.func93, Tryz.ntmps93
  go_wp2_with (go_at_call 150; refine (nan_no _ _).mono ?_; rintro e w' ⟨rfl, rfl⟩)
  go_ret
  exact ⟨rfl, rfl⟩
 ·rw [if_neg h, if_pos h']
  go_enter Tryz.func93, Tryz.ntmps93
  go_wp2_with (go_at_call 150; refine (nan_no _ _).mono ?_; rintro e w' ⟨rfl, rfl⟩)
  go_ret
  exact ⟨rfl, rfl⟩
 rw [if_neg h, if_neg h']
 go_enter Tryz.func93, Tryz.ntmps93
 go_wp2_with (go_at_call 150; refine (nan_no _ _).mono ?_; rintro e w' ⟨rfl, rfl⟩)
 go_ret
 exact ⟨rfl, rfl⟩
open Go.RowKit Go.Maps
theorem Own.lt {w : World} {base : Nat} {v : Value} {l : List Nat} (h : Own w base v l) : ∀ k, v.ownBlock = some k → base ≤ k ∧ k < w.heap.size := World.ownsRow.lt h
def linesT (l : List Nat) (o : Int) (f : List Nat → Int) : List (List Nat) := ((List.range (prodL l)).filter fun i => decide (f (tupL l i) ≠ o)).map (tupL l)
theorem linesT_mem {l : List Nat} {o : Int} {f : List Nat → Int} (hl : ∀ n ∈ l, 1 ≤ n) (t : List Nat) : t ∈ linesT l o f ↔ InL l t ∧ f t ≠ o := by
 unfold linesT
 simp only [List.mem_map, List.mem_filter, List.mem_range, decide_eq_true_eq]
 constructor
 ·rintro ⟨i, ⟨h1, h2⟩, rfl⟩
  exact ⟨tupL_in hl i, h2⟩
 rintro ⟨h1, h2⟩
 exact ⟨numL l t, ⟨h1.num_lt, by rw [h1.tup]; exact h2⟩, h1.tup⟩
theorem linesT_num {l : List Nat} {o : Int} {f : List Nat → Int} : (linesT l o f).map (numL l) = (List.range (prodL l)).filter fun i => decide (f (tupL l i) ≠ o) := by
 unfold linesT
 rw [List.map_map]
 conv => rhs; rw [← List.map_id ((List.range (prodL l)).filter fun i => decide (f (tupL l i) ≠ o))]
 refine List.map_congr_left fun i hi => ?_
 exact num_tup (List.mem_range.1 (List.mem_filter.1 hi).1)
theorem ownsMap_keys {w : World} {P : Program} {k : TypeId} {R : Value → Option (DataW Unit × List MemPlace)} {b n : Nat} {D : DataW Unit} (h : w.ownsMap P k R b n D) (K : Keyed P k) :
  ∃ es, D = .map es ∧ es.Pairwise (fun p q => p.1 ≠ q.1) ∧ ∀ p ∈ es, WideAt.IsKeyLit p.1 := by
 obtain ⟨es, clock, _, F, _, rfl⟩ := h
 refine ⟨_, rfl, ((WideShapes.sorted_perm _).pairwise_iff (fun {_ _} hne => Ne.symm hne)).2 (Maps.fit_apart K F), fun p hp => ?_⟩
 have hp' := (WideShapes.sorted_perm _).mem_iff.1 hp
 obtain ⟨v, hv⟩ := Maps.fit_keys F p hp'
 exact K.key hv
theorem nodup_lenG {α : Type} [BEq α] [LawfulBEq α] : ∀ {V L : List α}, V.Pairwise (· ≠ ·) → (∀ x ∈ V, x ∈ L) → V.length ≤ L.length
 | [], L, _, _ => Nat.zero_le _
 | x :: V, L, h, hs => by
  have hx := hs x (List.mem_cons_self ..)
  have h2 := List.pairwise_cons.1 h
  have ih := nodup_lenG (L := L.erase x) h2.2 fun y hy => (List.mem_erase_of_ne (fun e => h2.1 y hy e.symm)).2 (hs y (List.mem_cons_of_mem _ hy))
  rw [List.length_erase_of_mem hx] at ih
  have : 0 < L.length := List.length_pos_of_mem hx
  show V.length + 1 ≤ L.length
  omega
theorem linesT_nodup (l : List Nat) (o : Int) (f : List Nat → Int) : (linesT l o f).Pairwise (· ≠ ·) := by
 have h : ((linesT l o f).map (numL l)).Pairwise (· < ·) := by
  rw [linesT_num]
  exact List.pairwise_lt_range.filter _
 rw [List.pairwise_map] at h
 exact h.imp fun {a b} hlt e => by rw [e] at hlt; exact Nat.lt_irrefl _ hlt
theorem size_lines {w : World} {b n : Nat} {l : List Nat} {o : Int} {f : List Nat → Int} {D : DataW Unit} (h : w.ownsMap Tryz.prog 139 (plainElem Tryz.prog 2) b n D) (hrep : RepF D l o f) (h6 : l.length ≤ 6) (h32 : ∀ n ∈ l, 1 ≤ n ∧ n ≤ 32) :
  Maps.size D = (linesT l o f).length := by
 classical
 obtain ⟨es, rfl, hp, hk⟩ := ownsMap_keys h keyed
 have h1 : ∀ n ∈ l, 1 ≤ n := fun n hn => (h32 n hn).1
 have hu : ∀ n ∈ l, n ≤ 32 := fun n hn => (h32 n hn).2
 have hh : ∀ k, Maps.has (DataW.map es) k = true ↔ ∃ p ∈ es, p.1.sameKey k = true := fun k => by rw [Maps.has_eq, List.any_eq_true]
 let e1 := es.map (·.1)
 let e2 := (linesT l o f).map keyL
 letI : BEq Lit := instBEqOfDecidableEq
 have m12 : ∀ x, x ∈ es.map (·.1) ↔ x ∈ (linesT l o f).map keyL := fun x => by
  constructor
  ·intro hx
   obtain ⟨p, hpe, rfl⟩ := List.mem_map.1 hx
   have hhas := (hh p.1).2 ⟨p, hpe, WideAt.sameKey_self (hk p hpe)⟩
   obtain ⟨t, ht, e⟩ := hrep.2 _ hhas
   rw [e] at hhas ⊢
   rw [(hrep.1 t ht).1] at hhas
   exact List.mem_map.2 ⟨t, (linesT_mem h1 t).2 ⟨ht, of_decide_eq_true hhas⟩, rfl⟩
  intro hx
  obtain ⟨t, ht, rfl⟩ := List.mem_map.1 hx
  obtain ⟨ht1, ht2⟩ := (linesT_mem h1 t).1 ht
  have := (hrep.1 t ht1).1
  rw [decide_eq_true ht2] at this
  obtain ⟨p, hpe, e⟩ := (hh _).1 this
  exact List.mem_map.2 ⟨p, hpe, WideAt.sameKey_eq e⟩
 have n1 : (es.map (·.1)).Pairwise (· ≠ ·) := by rw [List.pairwise_map]; exact hp
 have n2 : ((linesT l o f).map keyL).Pairwise (· ≠ ·) := by
  rw [List.pairwise_map]
  have h := linesT_nodup l o f
  rw [List.pairwise_iff_getElem] at h ⊢
  intro i j hi hj hij e
  exact h i j hi hj hij (keyL_inj h6 hu ((linesT_mem h1 _).1 (List.getElem_mem hi)).1 ((linesT_mem h1 _).1 (List.getElem_mem hj)).1 e)
 have a := nodup_lenG n1 fun x hx => (m12 x).1 hx
 have b := nodup_lenG n2 fun x hx => (m12 x).2 hx
 rw [List.length_map, List.length_map] at a b
 rw [Maps.size_eq]
 omega
end Go.Proofs.YtmokogkndbinlaaGreatDoor
namespace Go.Proofs.YtmokogkndbinlaaGreatDoor
open Go.RowKit Go.Maps
structure SeenT (left : Lit → Bool) (l : List Nat) (o o' : Int) (f f' : List Nat → Int) (ts : List (List Nat)) (n : Nat) : Prop where
 nodup : ts.Pairwise (· ≠ ·)
 mem : ∀ t, t ∈ ts ↔ InL l t ∧ f' t ≠ o' ∧ left (keyL t) = false
 told : n = (linesT l o f).length + (ts.filter fun t => decide (f t = o)).length
 same : ∀ t, t ∈ ts → f t = f' t
open Go.RowKit Go.Shelf Go.Maps Go.Sort
structure Coll (D : DataW Unit) (l : List Nat) (left : Lit → Bool) (ts : List { t : List Nat // InL l t }) : Prop where
 nd : (ts.map Subtype.val).Nodup
 mem : ∀ t, t ∈ ts.map Subtype.val ↔ InL l t ∧ Maps.has D (keyL t) = true ∧ left (keyL t) = false
abbrev TT (l : List Nat) := { t : List Nat // InL l t }
theorem oper_round {n : Nat} {P : Program} {o : Oper} {a : Act} {w : World} {K : Act → World → Prop} {Q : Exit → Act → World → Prop} (l : Nat) (hnd : ∀ c, o.op ≠ .defer c)
  (h : o.wpIn Fence.wide n P a w K Q) : o.wpIn (Fence.wide.inRound l) n P a w K Q := by
 have e : o.semAt (Fence.wide.inRound l).round a.eval = o.semAt Fence.wide.round a.eval := by
  show o.semAt (some l) a.eval = o.semAt none a.eval
  rw [Oper.semAt_some l _ _ hnd]
  rfl
 unfold Oper.wpIn at *
 rw [e]
 exact h
theorem any_round {n : Nat} {P : Program} {md : Region.Mode} {ops : Array Oper} {Q : Exit → Act → World → Prop} (l : Nat) (hnd : ∀ (i : Nat) o, ops[i]? = some o → ∀ c, o.op ≠ .defer c) :
  ∀ (fuel : Nat) (listed : Array Bool) (a : Act) (w : World), wpAnyIn Fence.wide n P md ops Q fuel listed a w → wpAnyIn (Fence.wide.inRound l) n P md ops Q fuel listed a w := by
 intro fuel
 induction fuel with
 | zero => intro listed a w h; exact h
 | succ fuel ih =>
  intro listed a w h
  refine ⟨h.1, fun i hi => ?_⟩
  have h2 := wpOpIn_mono (fun a' w' => ih (listed.setIfInBounds i true) a' w') (h.2 i hi)
  unfold wpOpIn at h2 ⊢
  split
  ·rename_i ho
   simpa only [ho] using h2
  rename_i o ho
  simp only [ho] at h2
  split
  ·rename_i hw
   simp only [hw, if_true] at h2
   exact oper_round l (hnd i o ho) h2
  rename_i hw
  simp only [hw] at h2
  exact h2
theorem region_round {n : Nat} {P : Program} {id : Nat} {ops : Array Oper} {Q : Exit → Act → World → Prop} {a : Act} {w : World} (l : Nat) (hm : P.follows .mixedOrders = true)
  (hnd : ops.all (fun o => match o.op with | .defer _ => false | _ => true) = true)
  (h : wpAnyIn Fence.wide n P .any ops Q ops.size (Array.replicate ops.size false) a w.drew) : (Code.region id ops true).wpIn (Fence.wide.inRound l) n P Q a w :=
 wpIn_region_any hm (any_round l (fun i o ho c hc => by
  obtain ⟨hi, rfl⟩ := Array.getElem?_eq_some_iff.1 ho
  have := Array.all_eq_true.1 hnd i hi
  rw [hc] at this
  cases this) _ _ _ _ h)
end Go.Proofs.YtmokogkndbinlaaGreatDoor
