/- Texts of this seat laid together (no statement of its own). -/
import Derived.Test.YteocbgcgfllieaaGreatDoorMgS
import Derived.Lib.SlBytesConst
namespace Go.Proofs.YteocbgcgfllieaaGreatDoor
open Go.RowKit
set_option linter.unusedVariables false
theorem assigned_yes (fb cs cf c : Nat) (X : ByteArray) (k : Int) (sizes a : List Nat) (fs : List FunM) (As Af A : Option Addr) (w : World) (H : FileR w fb X k sizes fs As Af cs cf) (hI : Ints w A a) (ha : InL sizes a) (hl : sizes.length ≤ 64) :
    Calls Tryz.prog 39 #[.pointer (some ⟨fb, 0, none⟩), .slice A a.length c] w fun e w' => e = .returned (.bool true) ∧ w = w' := by
  obtain ⟨h1, h2⟩ := inL_iff.1 ha
  have c2 := H.cells.2.2.1
  rw [← h1] at c2
  have HS := Lib.hid H.szs
  have HI := Lib.hid hI
  have H2 := Lib.hid h2
  have H1 := Lib.hid h1
  have HL : Hid (a.length ≤ 64) := Lib.hid (by omega)
  clear H hI h2 ha hl h1
  go_enter Tryz.func39, Tryz.ntmps39
  go_wp2_with fail
  go_loopw [5, 6, 17] (fun _ _ i wr => ∃ j : Nat, i = .int .i64 (j : Int) ∧ j ≤ a.length ∧ wr = w) (fun _ _ i _ => a.length - (intOf i).toNat)
  case atStart => exact ⟨0, rfl, Nat.zero_le _, rfl⟩
  case round =>
    obtain ⟨j, rfl, hj, rfl⟩ := hrel
    by_cases hlt : j < a.length
    · have d1 : decide ((j : Int) < (a.length : Int)) = true := decide_eq_true (by omega)
      obtain ⟨ga, oa, rfl, hca⟩ := HI.out.at_ hlt
      obtain ⟨gs, os, rfl, hcs⟩ := HS.out.at_ (i := j) (by rw [← H1.out]; exact hlt)
      have hv := H2.out j (by rw [← H1.out]; exact hlt)
      generalize nth a j = x at hca hv
      generalize nth sizes j = y at hcs hv
      have d2 : decide ((x : Int) < 0) = false := decide_eq_false (by omega)
      have d3 : decide ((y : Int) ≤ (x : Int)) = false := decide_eq_false (by omega)
      have j2 : (0 : Int) ≤ (j : Int) := by omega
      have j3 : (j : Int) ≤ 64 := by have := HL.out; omega
      go_wp2_with fail
      exact ⟨⟨j + 1, by simp, by omega, trivial⟩, by simp [intOf]; omega⟩
    · have d1 : decide ((j : Int) < (a.length : Int)) = false := decide_eq_false (by omega)
      go_wp2_with fail
      go_ret
      first | exact ⟨rfl, rfl⟩ | exact ⟨rfl, trivial⟩
theorem putF_in {k o : Int} {ls : List LineM} (ho : 0 ≤ o ∧ o ≤ k) (hl : ∀ x ∈ ls, 0 ≤ x.2 ∧ x.2 ≤ k) (t : List Nat) : 0 ≤ putF o ls t ∧ putF o ls t ≤ k := by
  have key : ∀ (ls : List LineM) (g : List Nat → Int), (∀ t, 0 ≤ g t ∧ g t ≤ k) → (∀ x ∈ ls, 0 ≤ x.2 ∧ x.2 ≤ k) → ∀ t, 0 ≤ ls.foldl (fun g y => updF g y.1 y.2) g t ∧ ls.foldl (fun g y => updF g y.1 y.2) g t ≤ k := by
    intro ls
    induction ls with
    | nil => intro g hg _ t; exact hg t
    | cons x r ih =>
      intro g hg hx t
      refine ih (updF g x.1 x.2) (fun t => ?_) (fun y hy => hx y (by simp [hy])) t
      unfold updF
      split
      · exact hx x (by simp)
      · exact hg t
  exact key ls _ (fun _ => ho) hl t
theorem funF_in {k : Int} {sizes : List Nat} {f : FunM} (hk : 1 ≤ k) (hf : FunOk sizes f) (t : List Nat) : 0 ≤ funF k f t ∧ funF k f t ≤ k := by
  refine putF_in ?_ (fun x hx => ?_) t
  · have := hf.other
    omega
  · obtain ⟨y, hy, rfl⟩ := List.mem_map.1 hx
    have := hf.lines.cost y hy
    simp only
    omega
/-- What an assignment costs. -/
def valM (k : Int) (a : List Nat) (fs : List FunM) : Int := fs.foldl (fun s f => capA s (funF k f (pickN a f.scope)) k) 0
theorem valM_take {k : Int} {a : List Nat} {fs : List FunM} {j : Nat} {f : FunM} (h : fs[j]? = some f) : valM k a (fs.take (j + 1)) = capA (valM k a (fs.take j)) (funF k f (pickN a f.scope)) k := by
  have hj : j < fs.length := (List.getElem?_eq_some_iff.1 h).1
  have e : fs.take (j + 1) = fs.take j ++ [f] := by
    rw [List.take_succ_eq_append_getElem hj]
    congr 2
    exact (List.getElem?_eq_some_iff.1 h).2
  rw [e]
  simp [valM, List.foldl_append]
theorem capA_in {a b k : Int} (hk : 1 ≤ k) (ha : 0 ≤ a ∧ a ≤ k) (hb : 0 ≤ b ∧ b ≤ k) : 0 ≤ capA a b k ∧ capA a b k ≤ k := by
  unfold capA
  split <;> omega
theorem pick_in {sizes a scope : List Nat} (ha : InL sizes a) (hb : ∀ v ∈ scope, v < sizes.length) : InL (pickN sizes scope) (pickN a scope) := by
  refine inL_iff.2 ⟨by simp [pickN], fun p hp => ?_⟩
  have hp' : p < scope.length := by simpa [pickN] using hp
  have h := (inL_iff.1 ha).2 (nth scope p) (hb _ (nth_mem hp'))
  have e : ∀ l : List Nat, nth (pickN l scope) p = nth l (nth scope p) := fun l => by simp [nth, pickN, List.getD, hp']
  rw [e, e]
  exact h
abbrev HoldV (wb : World) (B g n2 c2 : Nat) (A2 : Option Addr) (W : World) : Prop :=
  W.cell? ⟨B, 1, none⟩ = some (.pointer (some ⟨g, 0, none⟩)) ∧ W.cell? ⟨B, 0, none⟩ = some (.slice A2 n2 c2) ∧ Below wb.heap.size wb W
theorem holdV {wb W W' : World} {B g n2 c2 : Nat} {A2 : Option Addr} (H : HoldV wb B g n2 c2 A2 W) (hb : Below W.heap.size W W') : HoldV wb B g n2 c2 A2 W' := by
  obtain ⟨a0, a1, h9⟩ := H
  have K : ∀ b i v, W.cell? ⟨b, i, none⟩ = some v → W'.cell? ⟨b, i, none⟩ = some v := fun b i v h => (hb.cell (p := ⟨b, i, none⟩) (World.block_lt_of_cell? W _ h)).trans h
  exact ⟨K _ _ _ a0, K _ _ _ a1, h9.trans (hb.mono h9.size)⟩
theorem HoldV.below {wb W : World} {B g n2 c2 : Nat} {A2 : Option Addr} (H : HoldV wb B g n2 c2 A2 W) : Below wb.heap.size wb W := H.2.2
set_option maxRecDepth 100000 in
set_option maxHeartbeats 4000000 in
theorem valF (fb cs cf c : Nat) (X : ByteArray) (k : Int) (sizes a : List Nat) (fs : List FunM) (As Af A : Option Addr) (w : World) (H : FileR w fb X k sizes fs As Af cs cf) (hr : RightF X k sizes fs) (hI : Ints w A a) (ha : InL sizes a) :
    Calls Tryz.prog 14 #[.pointer (some ⟨fb, 0, none⟩), .slice A a.length c] w fun e w' => e = .returned (.tuple #[.int .i64 (valM k a fs), .int .i64 0]) ∧ Below w.heap.size w w' := by
  have RF := Lib.hid (rightF fb cs cf X k sizes fs As Af w H hr)
  have AS := Lib.hid (fun W (hb : Below w.heap.size w W) => assigned_yes fb cs cf c X k sizes a fs As Af A W (H.below hb) (hI.below hb (Nat.le_refl _)) ha hr.n.2)
  have HR := Lib.hid H
  have HH := Lib.hid hr
  have HI := Lib.hid hI
  have HA := Lib.hid ha
  have HL : Hid (a.length ≤ 64) := Lib.hid (by have := (inL_iff.1 ha).1; have := hr.n.2; omega)
  have K1 : Hid (1 ≤ k ∧ k ≤ 2147483648) := Lib.hid hr.top
  clear H hr hI ha
  go_enter Tryz.func14, Tryz.ntmps14
  go_upto_region 7 with (first
    | (go_at_call 23; refine RF.out.mono ?_; rintro e w2 ⟨rfl, hb2⟩; have B2 := Lib.hid hb2; clear hb2)
    | (go_at_call 39; refine (AS.out _ B2.out).mono ?_; rintro e w' ⟨rfl, rfl⟩)
    | fail)
  have c3 := (HR.out.below B2.out).cells.2.2.2
  go_upto_block 0 with fail
  clear c3
  go_wp2_with fail
  go_loopw [7, 9, 10, 11, 26] (fun s _ _ _ i wr => ∃ j : Nat, i = .int .i64 (j : Int) ∧ j ≤ fs.length ∧ s = .int .i64 (valM k a (fs.take j)) ∧ (0 ≤ valM k a (fs.take j) ∧ valM k a (fs.take j) ≤ k) ∧ Below w.heap.size w wr) (fun _ _ _ _ i _ => fs.length - (intOf i).toNat)
  case atStart => exact ⟨0, rfl, Nat.zero_le _, rfl, ⟨Int.le_refl _, by have := K1.out; show (0 : Int) ≤ k; omega⟩, B2.out⟩
  case round =>
    obtain ⟨j, rfl, hj, rfl, hv, hB⟩ := hrel
    have HB := Lib.hid hB
    have HV := Lib.hid hv
    clear hB hv
    by_cases hlt : j < fs.length
    · have d1 : decide ((j : Int) < (fs.length : Int)) = true := decide_eq_true (by omega)
      obtain ⟨f, hfj⟩ : ∃ f, fs[j]? = some f := ⟨_, List.getElem?_eq_getElem hlt⟩
      have HRR := HR.out.below HB.out
      obtain ⟨gf, sv, tv, rfl, hgf, k0, k1, he⟩ := HRR.funs j f hfj
      obtain ⟨Asc, csc, g, mb, Am, cm, N, rfl, hcap, rfl, h3, h4, h5, -⟩ := he
      have FJ := Lib.hid hfj
      have LT := Lib.hid hlt
      have HM := Lib.hid (HH.out.funs f (List.mem_of_getElem? hfj))
      have VT := Lib.hid (valM_take (k := k) (a := a) hfj)
      have n1 := new_val wr (.cells #[.slice Asc f.scope.length csc, .pointer (some ⟨g, 0, none⟩)] 54)
      have B1 := Lib.hid (HB.out.trans (n1.mono HB.out.size))
      have HT := Lib.hid (h4.below n1)
      have HSC := Lib.hid (h3.below n1 (Nat.le_refl _))
      have j2 : (0 : Int) ≤ (j : Int) := by omega
      have j3 : (j : Int) ≤ 256 := by have := HH.out.nf; omega
      clear HRR hfj h3 h4 h5 n1 hcap hgf
      go_upto_region 10 with (first
        | ((with_reducible show wpList _ _ _ (Oper.mk none (.store 54 _ _) _ _ _ _ :: _) _ _); refine wpList_store_row rfl 54 (.tmp 9) (.tmp 29) rfl wr.heap.size #[.slice Asc f.scope.length csc, .pointer (some ⟨g, 0, none⟩)] rfl rfl 54 #[.slice none 0 0, .pointer none] (heap_alloc_new _ _) (by kernel_rfl) rfl (by simp [Value.oneCell']) ?_; rw [World.setRow_alloc_new])
        | fail)
      have X1 := Lib.hid (heap_alloc_new wr (.cells #[.slice Asc f.scope.length csc, .pointer (some ⟨g, 0, none⟩)] 54))
      clear k0 k1
      generalize wr.alloc (.cells #[.slice Asc f.scope.length csc, .pointer (some ⟨g, 0, none⟩)] 54) = w1 at X1 HT HSC B1 ⊢
      generalize wr.heap.size = B at X1 ⊢
      have H0 : Hid (HoldV w1 B g f.scope.length csc Asc w1) := Lib.hid ⟨by rw [cell_of_row _ _ _ _ _ _ X1.out]; rfl, by rw [cell_of_row _ _ _ _ _ _ X1.out]; rfl, Below.refl _ _⟩
      have PI := Lib.hid (fun W (hb : Below w1.heap.size w1 W) => pickedI c csc A Asc a f.scope W (by have := HL.out; omega) (by have := HM.out.2.1; omega) (fun x hx => by rw [(inL_iff.1 HA.out).1]; exact HM.out.1.below x hx) (HI.out.below (B1.out.trans (hb.mono B1.out.size)) (Nat.le_refl _)) (HSC.out.below hb (Nat.le_refl _)))
      have GT := Lib.hid (fun W A2 c2 (hb : Below w1.heap.size w1 W) (hi : Ints W A2 (pickN a f.scope)) => tpget_ok g mb N cm (pickN a f.scope).length c2 Am A2 (pickN sizes f.scope) (pickN a f.scope) k _ _ W (HT.out.below hb) rfl (by simp [pickN]; exact HM.out.2.1) (fun n hn => (pick_ok HH.out.szs HM.out.1.below n hn).2) hi (pick_in HA.out HM.out.1.below))
      go_region_held3 (fun W => HoldV w1 B g f.scope.length csc Asc W) (first | exact holdV H0.out ((Below.refl _ _).drew) | exact holdV (by assumption) (by assumption))
        ((first | (go_at_call 41; with_reducible refine (PI.out _ (HoldV.below (by assumption))).mono ?_; rintro e w' ⟨⟨A9, c9, rfl, hI9⟩, hb⟩; have HI9 := Lib.hid hI9; clear hI9)
                | (go_at_call 40; refine (GT.out _ _ _ (HoldV.below (by assumption)) HI9.out).mono ?_; rintro e w5 ⟨rfl, hb⟩)))
      have BE := Lib.hid (HoldV.below (by assumption))
      have BW := Lib.hid (B1.out.trans (BE.out.mono B1.out.size))
      have c1 := (HR.out.below BW.out).cells.2.1
      have FI := Lib.hid (funF_in K1.out.1 HM.out.1 (pickN a f.scope))
      obtain ⟨s0, hs0⟩ : ∃ s0, valM k a (fs.take j) = s0 := ⟨_, rfl⟩
      obtain ⟨y, hy⟩ : ∃ y, funF k f (pickN a f.scope) = y := ⟨_, rfl⟩
      rw [hs0] at HV
      rw [hy] at FI
      have VT2 : Hid (valM k a (fs.take (j + 1)) = capA s0 y k) := Lib.hid (by rw [VT.out, hs0, hy])
      simp only [hs0, hy]
      clear hs0 hy VT
      have AD := Lib.hid (fun W => add_yes s0 y k W K1.out.1 K1.out.2 HV.out.1 HV.out.2 FI.out.1 FI.out.2)
      go_wp2_with (first | (go_at_call 42; refine (AD.out _).mono ?_; rintro e w' ⟨rfl, rfl⟩) | fail)
      refine ⟨⟨j + 1, by simp, by have := LT.out; omega, by rw [VT2.out], by rw [VT2.out]; exact capA_in K1.out.1 HV.out FI.out, by first | exact BW.out | exact BW.out.drew⟩, by simp [intOf]; have := LT.out; omega⟩
    · have d1 : decide ((j : Int) < (fs.length : Int)) = false := decide_eq_false (by omega)
      have HJ := Lib.hid (show j = fs.length by omega)
      go_wp2_with fail
      go_ret2
      exact ⟨by rw [HJ.out, List.take_length]; rfl, HB.out⟩
end Go.Proofs.YteocbgcgfllieaaGreatDoor

namespace Go.Proofs.YteocbgcgfllieaaGreatDoor
open Go.RowKit
set_option linter.unusedVariables false
def awakeL : List UInt8 := [116, 32, 50, 32, 50, 32, 49, 32, 57, 32, 50, 32, 50, 10, 50, 32, 48, 32, 49, 32, 48, 32, 49, 10, 49, 32, 49, 32, 53, 10]
def awakeF : FileM := ⟨(0, 1), 9, [2, 2], [⟨[0, 1], 0, [([1, 1], 5)]⟩]⟩
theorem awake_file : fileM awakeL (-4611686018427387904) = .ok awakeF ⟨29, none⟩ := by
  kernel_rfl
theorem awake_vals : valM 9 [1, 1] awakeF.funs = 5 ∧ valM 9 [0, 1] awakeF.funs = 0 := by
  constructor <;> rfl
theorem tw_all {P : UInt8 → Bool} : ∀ {l : List UInt8} {c : UInt8}, c ∈ l.takeWhile P → P c = true
  | [], c, h => by simp at h
  | x :: r, c, h => by
    rw [List.takeWhile_cons] at h
    cases hx : P x with
    | false => rw [hx] at h; simp at h
    | true =>
      rw [hx] at h
      rcases List.mem_cons.1 h with h | h
      · rw [h]; exact hx
      · exact tw_all h
theorem tw_self {P : UInt8 → Bool} : ∀ {l : List UInt8}, (∀ c ∈ l, P c = true) → l.takeWhile P = l
  | [], h => rfl
  | x :: r, h => by
    rw [List.takeWhile_cons, h x (by simp)]
    simp only [if_true]
    rw [tw_self (fun c hc => h c (by simp [hc]))]
/-- A word by itself is that word. -/
theorem word_self {l : List UInt8} {k f t : Nat} (hk : k ≤ l.length) (h : stepW l k = .word f t) : stepW (subL l f t) 0 = .word 0 (t - f) ∧ (subL l f t).length = t - f := by
  obtain ⟨h1, h2, h3, -, h5⟩ := stepW_word hk h
  have he : subL l f t = (l.drop f).takeWhile fun c => isW c.toNat := by
    unfold subL
    rw [h5]
    unfold pastP
    rw [Nat.add_sub_cancel_left]
    exact (List.prefix_iff_eq_take.1 (List.takeWhile_prefix _)).symm
  have hl : (subL l f t).length = t - f := by
    unfold subL
    rw [List.length_take, List.length_drop]
    omega
  have hall : ∀ c ∈ subL l f t, isW c.toNat = true := fun c hc => by
    rw [he] at hc
    exact tw_all hc
  refine ⟨?_, hl⟩
  generalize subL l f t = m at hl hall
  have hW : m.takeWhile (fun c => isW c.toNat) = m := tw_self (fun c hc => hall c hc)
  have hB : m.takeWhile (fun c => isB c.toNat) = [] := by
    cases m with
    | nil => rfl
    | cons c r =>
      have h := hall c (by simp)
      have hb : isB c.toNat = false := by
        unfold isW at h
        unfold isB
        simp only [Bool.and_eq_true, decide_eq_true_eq] at h
        simp only [Bool.or_eq_false_iff, beq_eq_false_iff_ne]
        omega
      rw [List.takeWhile_cons, hb]
      rfl
  have e1 : pastP isB m 0 = 0 := by unfold pastP; rw [List.drop_zero, hB]; rfl
  have e2 : pastP isW m 0 = m.length := by unfold pastP; rw [List.drop_zero, hW]; omega
  unfold stepW
  simp only [e1, e2]
  rw [dif_neg (by omega), if_neg (by omega), hl]
theorem fileM_word {l : List UInt8} {lo : Int} {F : FileM} {s : RdS} (h : fileM l lo = .ok F s) : stepW l 0 = .word F.name.1 F.name.2 := by
  unfold fileM at h
  obtain ⟨w, s1, h1, h⟩ := bind_ok_iff.1 h
  obtain ⟨n, s2, h2, h⟩ := bind_ok_iff.1 h
  obtain ⟨g, s3, h3, h⟩ := bind_ok_iff.1 h
  obtain ⟨c, s4, h4, h⟩ := bind_ok_iff.1 h
  obtain ⟨k, s5, h5, h⟩ := bind_ok_iff.1 h
  obtain ⟨sz, s6, h6, h⟩ := bind_ok_iff.1 h
  obtain ⟨a, s7, h7, h⟩ := bind_ok_iff.1 h
  have hw := (wordM_ok.1 h1).1
  split at h
  · cases h
  · cases h
  · cases h
    exact hw
/-- What was read is right. -/
theorem rightF_of {s : ByteArray} {lo : Int} {F : FileM} {st : RdS} (h : fileM s.data.toList lo = .ok F st) (hb : st.big = none) (hs : (F.funs.map fun f => f.lines.length).sum ≤ 16384) : RightF (s.extract F.name.1 F.name.2) F.top F.sizes F.funs := by
  have ho := (fileM_ok h hb).1
  obtain ⟨w1, w2⟩ := word_self (Nat.zero_le _) (fileM_word h)
  rw [← extract_sub] at w1 w2
  rw [size_list] at w2
  exact ⟨by rw [w1, w2], by rw [w2]; exact ho.long, ho.top, ho.sizes, ho.n, ho.nf, ho.funs, hs⟩
theorem readR_ok {s : ByteArray} {A : Option Addr} {c : Nat} {w : World} (hs : s.size ≤ 65536) (h : BS w A s) (hG : GlobR w) (hT : TabP w) {F : FileM} {st : RdS} (hf : fileM s.data.toList (-4611686018427387904) = .ok F st) (hb : st.big = none) :
    Calls Tryz.prog 11 #[.slice A s.size c] w fun e w' => ∃ fb As Af cs cf, e = .returned (.tuple #[.pointer (some ⟨fb, 0, none⟩), .int .i64 (s.size : Int), .int .i64 0]) ∧ FileR w' fb (s.extract F.name.1 F.name.2) F.top F.sizes F.funs As Af cs cf ∧ Below w.heap.size w w' := by
  refine (readR s A c w hs h hG hT).mono ?_
  rintro e w' ⟨hr, hb'⟩
  rw [hf] at hr
  unfold ReadRes at hr
  simp only [hb] at hr
  obtain ⟨fb, fv, us, As, cs, base, _, h1, h2, h3, _⟩ := hr
  obtain ⟨Af, cf, h4⟩ := h3.r
  exact ⟨fb, As, Af, cs, cf, h1, h4, hb'⟩
theorem readR_bad {s : ByteArray} {A : Option Addr} {c : Nat} {w : World} (hs : s.size ≤ 65536) (h : BS w A s) (hG : GlobR w) (hT : TabP w) {e p : Nat} (hf : fileM s.data.toList (-4611686018427387904) = .bad e p) :
    Calls Tryz.prog 11 #[.slice A s.size c] w fun e' w' => e' = .returned (.tuple #[.pointer none, .int .i64 (p : Int), .int .i64 (e : Int)]) ∧ Below w.heap.size w w' := by
  refine (readR s A c w hs h hG hT).mono ?_
  rintro e w' ⟨hr, hb'⟩
  rw [hf] at hr
  exact ⟨hr, hb'⟩
theorem readR_big {s : ByteArray} {A : Option Addr} {c : Nat} {w : World} (hs : s.size ≤ 65536) (h : BS w A s) (hG : GlobR w) (hT : TabP w) {F : FileM} {st : RdS} {p : Nat} (hf : fileM s.data.toList (-4611686018427387904) = .ok F st) (hb : st.big = some p) :
    Calls Tryz.prog 11 #[.slice A s.size c] w fun e' w' => e' = .returned (.tuple #[.pointer none, .int .i64 (p : Int), .int .i64 5]) ∧ Below w.heap.size w w' := by
  refine (readR s A c w hs h hG hT).mono ?_
  rintro e w' ⟨hr, hb'⟩
  rw [hf] at hr
  unfold ReadRes at hr
  simp only [hb] at hr
  exact ⟨hr, hb'⟩
theorem ints_two (w : World) (x y : Nat) : Ints (w.alloc (.cells #[.int .i64 (x : Int), .int .i64 (y : Int)] 3)) (some ⟨w.heap.size, 0, none⟩) [x, y] :=
  .inr ⟨_, 0, rfl, by simp, fun i hi => by
    rw [cell_of_row _ _ _ _ _ _ (heap_alloc_new w _)]
    have hi' : i < 2 := hi
    rcases (by omega : i = 0 ∨ i = 1) with rfl | rfl <;> rfl⟩
def awakeS : ByteArray := ⟨awakeL.toArray⟩
theorem in11 : InL [2, 2] [1, 1] := by simp [InL]
theorem in01 : InL [2, 2] [0, 1] := by simp [InL]
set_option maxRecDepth 100000 in
set_option maxHeartbeats 4000000 in
theorem awake7_ok (w : World) (hG : GlobR w) (hT : TabP w) : Calls Tryz.prog 9 #[] w fun e w' => e = .returned (.bool true) ∧ Below w.heap.size w w' := by
  have hcs := Lib.run_convert_bytes_const (P := Tryz.prog) w 22 5 #[.int .u8 116, .int .u8 32, .int .u8 50, .int .u8 32, .int .u8 50, .int .u8 32, .int .u8 49, .int .u8 32, .int .u8 57, .int .u8 32, .int .u8 50, .int .u8 32, .int .u8 50, .int .u8 10, .int .u8 50, .int .u8 32, .int .u8 48, .int .u8 32, .int .u8 49, .int .u8 32, .int .u8 48, .int .u8 32, .int .u8 49, .int .u8 10, .int .u8 49, .int .u8 32, .int .u8 49, .int .u8 32, .int .u8 53, .int .u8 10] 30 30 Tryz.underlying22 Tryz.underlying5
  have n0 := Lib.hid (new_val w (.cells (awakeL.map fun c => Value.int .u8 (c.toNat : Int)).toArray 5 (30, 31)))
  have BY : Hid (BS (w.alloc (.cells (awakeL.map fun c => Value.int .u8 (c.toNat : Int)).toArray 5 (30, 31))) (some ⟨w.heap.size, 0, none⟩) awakeS) := Lib.hid (.inr ⟨_, 0, rfl, by simp, fun i hi => by
    rw [cell_of_row _ _ _ _ _ _ (heap_alloc_new w _)]
    have hi' : i < awakeL.length := hi
    rw [Nat.zero_add]
    show ((awakeL.map fun c => Value.int .u8 (c.toNat : Int)).toArray)[i]? = some (.int .u8 ((awakeL.toArray[i]'(by simpa using hi')).toNat : Int))
    simp [hi']⟩)
  have RD := Lib.hid (readR_ok (c := 30) (by decide) BY.out (hG.below n0.out) (tab_below hT n0.out) (F := awakeF) awake_file rfl)
  have RR : Hid (RightF (awakeS.extract awakeF.name.1 awakeF.name.2) awakeF.top awakeF.sizes awakeF.funs) := Lib.hid (rightF_of (s := awakeS) awake_file rfl (by decide))
  have e30 : (awakeS.size : Int) = 30 := rfl
  rw [show awakeS.size = 30 from rfl] at RD
  have RD : Hid (Calls Tryz.prog 11 #[.slice (some ⟨w.heap.size, 0, none⟩) 30 30] (w.alloc (.cells (awakeL.map fun c => Value.int .u8 (c.toNat : Int)).toArray 5 (30, 31))) fun e w' => ∃ fb As Af cs cf, e = .returned (.tuple #[.pointer (some ⟨fb, 0, none⟩), .int .i64 30, .int .i64 0]) ∧ FileR w' fb (awakeS.extract awakeF.name.1 awakeF.name.2) awakeF.top awakeF.sizes awakeF.funs As Af cs cf ∧ Below (w.alloc (.cells (awakeL.map fun c => Value.int .u8 (c.toNat : Int)).toArray 5 (30, 31))).heap.size (w.alloc (.cells (awakeL.map fun c => Value.int .u8 (c.toNat : Int)).toArray 5 (30, 31))) w') := RD
  have eL : (awakeL.map fun c => Value.int .u8 (c.toNat : Int)).toArray = #[.int .u8 116, .int .u8 32, .int .u8 50, .int .u8 32, .int .u8 50, .int .u8 32, .int .u8 49, .int .u8 32, .int .u8 57, .int .u8 32, .int .u8 50, .int .u8 32, .int .u8 50, .int .u8 10, .int .u8 50, .int .u8 32, .int .u8 48, .int .u8 32, .int .u8 49, .int .u8 32, .int .u8 48, .int .u8 32, .int .u8 49, .int .u8 10, .int .u8 49, .int .u8 32, .int .u8 49, .int .u8 32, .int .u8 53, .int .u8 10] := by rfl
  rw [eL] at n0 RD
  clear hG hT BY e30 eL
  go_enter Tryz.func9, Tryz.ntmps9
  go_upto_region 2 with (first | (go_at_call 11; refine RD.out.mono ?_; rintro e w2 ⟨fb, As, Af, cs, cf, rfl, hf2, hb2⟩; have B2 := Lib.hid (then_ n0.out hb2); have F2 := Lib.hid hf2; clear hf2 hb2) | fail)
  clear hcs
  go_upto_region 5 with (first | (go_at_call 14; go_loud (refine (valF fb cs cf 2 (awakeS.extract awakeF.name.1 awakeF.name.2) 9 [2, 2] [1, 1] awakeF.funs As Af _ _ (F2.out.below (new_val w2 (.cells #[.int .i64 1, .int .i64 1] 3))) RR.out (ints_two w2 1 1) in11).mono ?_); rw [awake_vals.1]; rintro e w3 ⟨rfl, hb3⟩; have B3 := Lib.hid (then_ (new_val w2 (.cells #[.int .i64 1, .int .i64 1] 3)) hb3); clear hb3) | fail)
  go_upto_region 6 with (first | (go_at_call 14; refine (valF fb cs cf 2 (awakeS.extract awakeF.name.1 awakeF.name.2) 9 [2, 2] [0, 1] awakeF.funs As Af _ _ ((F2.out.below B3.out).below (new_val w3 (.cells #[.int .i64 0, .int .i64 1] 3))) RR.out (ints_two w3 0 1) in01).mono ?_; rw [awake_vals.2]; rintro e w4 ⟨rfl, hb4⟩; have B4 := Lib.hid (then_ (new_val w3 (.cells #[.int .i64 0, .int .i64 1] 3)) hb4); clear hb4) | fail)
  go_wp2_with fail
  go_ret
  exact ⟨rfl, then_ (then_ B2.out B3.out) B4.out⟩
end Go.Proofs.YteocbgcgfllieaaGreatDoor
