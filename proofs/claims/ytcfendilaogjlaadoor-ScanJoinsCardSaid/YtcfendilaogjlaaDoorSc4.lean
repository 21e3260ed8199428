/- Contract of scan's Count (no statement of its own). Condition: at most 100000 bytes. -/
import Derived.Test.YtcfendilaogjlaaDoorSc3
import Derived.WalkMore
namespace Go.Proofs.YtcfendilaogjlaaDoor
open Go.RowKit
set_option linter.unusedVariables false
def badI : Option Nat → Int
  | none => -1
  | some b => b
def endI (m : Nat) : Option Nat → Int
  | none => m
  | some b => b
def errI : Option Nat → Int
  | none => 0
  | some _ => 11
def atOf (W : World) (b : Nat) : Nat := match W.cell? ⟨b, 1, none⟩ with
  | some (.int _ k) => k.toNat
  | _ => 0
theorem ScanAt.atOf {W : World} {b k : Nat} {s : ByteArray} (h : ScanAt W b s k) : atOf W b = k := by simp [Go.Proofs.YtcfendilaogjlaaDoor.atOf, h.at_]
theorem then_ {w W W' : World} (h : Below w.heap.size w W) (k : Below W.heap.size W W') : Below w.heap.size w W' := h.trans (k.mono h.size)
theorem new_val (w : World) (o : Obj) : Below w.heap.size w (w.alloc o) := (Below.refl _ _).alloc (Nat.le_refl _) _
theorem below_grown {w X Y : World} {B g : Nat} (h : Below B w X) (hg : X.grownBy Y (some g)) (hB : B ≤ w.heap.size) (hBg : B ≤ g) : Below B w Y :=
  ⟨hg.os.trans h.os, hg.tape.trans h.tape, hg.output.trans h.output, Nat.le_trans h.size hg.size, fun k hk =>
    (hg.block k (by have := h.size; omega) (fun e => by injection e; omega)).trans (h.block k hk)⟩
theorem ScanAt.below {w w' : World} {b k B : Nat} {s : ByteArray} (h : ScanAt w b s k) (hb : Below B w w') (hB : w.heap.size ≤ B) : ScanAt w' b s k :=
  (hb.block b (by have := h.lt; omega)).trans h
theorem ScanAt.new (w : World) (s : ByteArray) : ScanAt (w.alloc (.cells #[.string s, .int .i64 0] 53)) w.heap.size s 0 := heap_alloc_new w _
/-- Between two rounds of Count's loop. -/
def CountR (w : World) (s : ByteArray) (b : Nat) (nn : Value) (wr : World) (k j : Nat) : Prop :=
  nn = .int .i64 (j : Int) ∧ k ≤ s.size ∧ j ≤ k ∧ ScanAt wr b s k ∧ Below w.heap.size w wr ∧ (wordsL s.data.toList 0).1.length = j + (wordsL s.data.toList k).1.length ∧ (wordsL s.data.toList 0).2 = (wordsL s.data.toList k).2
set_option maxRecDepth 100000 in
set_option maxHeartbeats 1000000 in
theorem count_any (A : Option Addr) (c : Nat) (s : ByteArray) (w : World) (hs : s.size ≤ 100000) (h : BS w A s) :
    Calls Tryd.prog 15 #[.slice A s.size c] w fun e w' => e = .returned (.tuple #[.int .i64 ((wordsL s.data.toList 0).1.length : Nat), .int .i64 (endI s.size (wordsL s.data.toList 0).2), .int .i64 (errI (wordsL s.data.toList 0).2)]) ∧ Below w.heap.size w w' := by
  have HN := Lib.hid (snew_any (.slice A s.size c) s w (conv_bytes h))
  have B0 := Lib.hid (new_val w (.cells #[.string s, .int .i64 0] 53))
  have S0 := Lib.hid (ScanAt.new w s)
  have HM : s.size ≤ maxLen := by unfold maxLen; omega
  have WO := Lib.hid (fun b k f t W (hk : k ≤ s.size) h hr => word_ok b s k f t W HM hk h hr)
  have WB := Lib.hid (fun b k t W (hk : k ≤ s.size) h hr => word_bad b s k t W HM hk h hr)
  have WN := Lib.hid (fun b k W (hk : k ≤ s.size) h hr => word_none b s k W HM hk h hr)
  clear h HM
  go_enter Tryd.func15, Tryd.ntmps15
  go_wp2_with fail
  go_step3
  go_wp2_with (go_at_call 11; refine HN.out.mono ?_; rintro e w' ⟨rfl, rfl⟩)
  generalize hb : w.heap.size = b at S0 ⊢
  have HB := Lib.hid hb
  clear hb
  refine wp_label ?_
  go_wp2_with fail
  go_loopw [6] (fun nn wr => ∃ k j, CountR w s b nn wr k j) (fun _ wr => s.size - atOf wr b)
  case atStart => exact ⟨0, 0, rfl, Nat.zero_le _, Nat.le_refl _, S0.out, B0.out, by simp, rfl⟩
  case round =>
    obtain ⟨k, j, rfl, hk, hj, hS, hB, hl, h2⟩ := hrel
    have HS := Lib.hid hS
    have HBr := Lib.hid hB
    have HL := Lib.hid hl
    have H2 := Lib.hid h2
    clear hS hB hl h2
    cases hr : stepW s.data.toList k with
    | none =>
      have HR := Lib.hid hr
      clear hr
      go_wp2_with (go_at_call 13; refine (WN.out _ _ _ hk HS.out HR.out).mono ?_; rintro e w' ⟨rfl, hg, hS'⟩)
      rw [Exit.noGoto_ret]
      go_ret3
      have e := wordsL_none HR.out
      have e1 := HL.out
      have e2 := H2.out
      rw [e] at e1 e2
      refine ⟨?_, ?_⟩
      · rw [e1, e2]
        rfl
      · exact below_grown HBr.out hg (Nat.le_refl _) (by have := HB.out; omega)
    | bad t =>
      have HR := Lib.hid hr
      clear hr
      go_wp2_with (go_at_call 13; refine (WB.out _ _ _ _ hk HS.out HR.out).mono ?_; rintro e w' ⟨rfl, hg, hS'⟩)
      rw [Exit.noGoto_ret]
      go_ret3
      have e := wordsL_bad HR.out
      have e1 := HL.out
      have e2 := H2.out
      rw [e] at e1 e2
      refine ⟨?_, ?_⟩
      · rw [e1, e2]
        rfl
      · exact below_grown HBr.out hg (Nat.le_refl _) (by have := HB.out; omega)
    | word f t =>
      have hw := stepW_word (by rw [size_list]; exact hk) hr
      rw [size_list] at hw
      have e := wordsL_word (by rw [size_list]; exact hk) hr
      have HR := Lib.hid hr
      have HW := Lib.hid hw
      have HE := Lib.hid e
      clear hr hw e
      go_wp2_with (go_at_call 13; refine (WO.out _ _ _ _ _ hk HS.out HR.out).mono ?_; rintro e w' ⟨rfl, hg, hS'⟩)
      go_roundw
      case rel =>
        have hh := HW.out
        have e1 := HL.out
        have e2 := H2.out
        rw [HE.out] at e1 e2
        refine ⟨t, j + 1, by go_num, hh.2.2.1, by omega, hS', below_grown HBr.out hg (Nat.le_refl _) (by have := HB.out; omega), ?_, e2⟩
        simp at e1
        omega
      case measure =>
        have hh := HW.out
        rw [hS'.atOf, HS.out.atOf]
        omega
end Go.Proofs.YtcfendilaogjlaaDoor
