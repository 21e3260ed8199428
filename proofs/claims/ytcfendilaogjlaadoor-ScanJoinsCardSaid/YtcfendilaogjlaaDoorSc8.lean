/- Contracts of scan's Int and of the law's awake (no statement of its own). -/
import Derived.Test.YtcfendilaogjlaaDoorSc7
import Derived.Lib.SlBytesConst
namespace Go.Proofs.YtcfendilaogjlaaDoor
open Go.RowKit
set_option linter.unusedVariables false
theorem grown_any {W W' : World} (h : Below W.heap.size W W') (row : Option Nat) : W.grownBy W' row := ⟨h.os, h.tape, h.output, h.size, fun k hk _ => h.block k hk⟩
/-- What Read answers of a string. -/
def Reads (s : ByteArray) (v er : Int) : Prop := ∀ W, Calls Tryd.prog 19 #[.string s] W fun e w' => e = .returned (.tuple #[.int .i64 v, .int .i64 er]) ∧ Below W.heap.size W w'
set_option maxRecDepth 100000 in
theorem int_word (b : Nat) (s : ByteArray) (k f t : Nat) (v er : Int) (w : World) (hs : s.size ≤ 100000) (hk : k ≤ s.size) (h : ScanAt w b s k) (hr : stepW s.data.toList k = .word f t)
    (hR : ∀ W, Calls Tryd.prog 19 #[.string (s.extract f t)] W fun e w' => e = .returned (.tuple #[.int .i64 v, .int .i64 er]) ∧ Below W.heap.size W w') :
    Calls Tryd.prog 17 #[.pointer (some ⟨b, 0, none⟩)] w fun e w' => e = .returned (.tuple #[.int .i64 v, .int .i64 (f : Int), .int .i64 er]) ∧ w.grownBy w' (some b) ∧ ScanAt w' b s t := by
  have HW := Lib.hid (word_ok b s k f t w (by unfold maxLen; omega) hk h hr)
  have HR := Lib.hid hR
  clear h hr hR
  go_enter Tryd.func17, Tryd.ntmps17
  go_wp2_with (first | (go_at_call 13; refine HW.out.mono ?_; rintro e w1 ⟨rfl, hg, hS⟩; have HG := Lib.hid hg; have HS := Lib.hid hS; clear hg hS) | (go_at_call 19; refine (HR.out _).mono ?_; rintro e w2 ⟨rfl, hb⟩; have HB := Lib.hid hb; clear hb))
  go_ret3
  exact ⟨rfl, sgrown_then HG.out (grown_any HB.out _), HS.out.below HB.out (Nat.le_refl _)⟩
theorem int_none (b : Nat) (s : ByteArray) (k : Nat) (w : World) (hs : s.size ≤ 100000) (hk : k ≤ s.size) (h : ScanAt w b s k) (hr : stepW s.data.toList k = .none) :
    Calls Tryd.prog 17 #[.pointer (some ⟨b, 0, none⟩)] w fun e w' => e = .returned (.tuple #[.int .i64 0, .int .i64 (s.size : Int), .int .i64 2]) ∧ w.grownBy w' (some b) ∧ ScanAt w' b s k := by
  have HW := Lib.hid (word_none b s k w (by unfold maxLen; omega) hk h hr)
  clear h hr
  go_enter Tryd.func17, Tryd.ntmps17
  go_wp2_with (go_at_call 13; refine HW.out.mono ?_; rintro e w1 ⟨rfl, hg, hS⟩)
  go_ret3
  exact ⟨rfl, hg, hS⟩
theorem int_bad (b : Nat) (s : ByteArray) (k t : Nat) (w : World) (hs : s.size ≤ 100000) (hk : k ≤ s.size) (h : ScanAt w b s k) (hr : stepW s.data.toList k = .bad t) :
    Calls Tryd.prog 17 #[.pointer (some ⟨b, 0, none⟩)] w fun e w' => e = .returned (.tuple #[.int .i64 0, .int .i64 (t : Int), .int .i64 11]) ∧ w.grownBy w' (some b) ∧ ScanAt w' b s k := by
  have HW := Lib.hid (word_bad b s k t w (by unfold maxLen; omega) hk h hr)
  clear h hr
  go_enter Tryd.func17, Tryd.ntmps17
  go_wp2_with (go_at_call 13; refine HW.out.mono ?_; rintro e w1 ⟨rfl, hg, hS⟩)
  go_ret3
  exact ⟨rfl, hg, hS⟩
abbrev exS : ByteArray := ⟨#[49, 50, 32, 45, 120]⟩
abbrev exO : Obj := .cells #[.int .u8 49, .int .u8 50, .int .u8 32, .int .u8 45, .int .u8 120] 5 (5, 6)
theorem ex_bytes (W : World) : BS (W.alloc exO) (some ⟨W.heap.size, 0, none⟩) exS := by
  have hc : (W.alloc exO).heap[W.heap.size]? = some exO := heap_alloc_new W exO
  refine .inr ⟨_, 0, rfl, by simp, fun i hi => ?_⟩
  rw [cell_of_row _ _ _ _ _ _ hc]
  have hi' : i < 5 := hi
  rcases (by omega : i = 0 ∨ i = 1 ∨ i = 2 ∨ i = 3 ∨ i = 4) with rfl | rfl | rfl | rfl | rfl <;> rfl
theorem ex_one : stepW exS.data.toList 0 = .word 0 2 := by rfl
theorem ex_two : stepW exS.data.toList 2 = .word 3 5 := by rfl
theorem ex_12 (W : World) : Calls Tryd.prog 19 #[.string (exS.extract 0 2)] W fun e w' => e = .returned (.tuple #[.int .i64 12, .int .i64 0]) ∧ Below W.heap.size W w' :=
  read_ok (exS.extract 0 2) W (by decide) [49, 50] 12 (by rfl) (by simp) (by decide) (by rfl)
theorem ex_x (W : World) : Calls Tryd.prog 19 #[.string (exS.extract 3 5)] W fun e w' => e = .returned (.tuple #[.int .i64 0, .int .i64 4]) ∧ Below W.heap.size W w' :=
  read_form (exS.extract 3 5) W (by decide) [120] (by rfl) (.inr ⟨120, by simp, by decide⟩)
set_option maxRecDepth 100000 in
set_option maxHeartbeats 1000000 in
theorem awake6_true (w : World) : Calls Tryd.prog 9 #[] w fun e w' => e = .returned (.bool true) ∧ Below w.heap.size w w' := by
  have n0 := Lib.hid (new_val w exO)
  have hcs := Lib.run_convert_bytes_const (P := Tryd.prog) w 22 5 #[.int .u8 49, .int .u8 50, .int .u8 32, .int .u8 45, .int .u8 120] 5 5 Tryd.underlying22 Tryd.underlying5
  have HN := Lib.hid (snew_any (.slice (some ⟨w.heap.size, 0, none⟩) 5 5) exS (w.alloc exO) (conv_bytes (c := 5) (ex_bytes w)))
  go_enter Tryd.func9, Tryd.ntmps9
  go_wp2_with (go_at_call 11; refine HN.out.mono ?_; rintro e w' ⟨rfl, rfl⟩)
  have B1 := Lib.hid (then_ n0.out (new_val (w.alloc exO) (.cells #[.string exS, .int .i64 0] 53)))
  have e1 : (w.alloc exO).heap.size = w.heap.size + 1 := by simp
  have S1 := ScanAt.new (w.alloc exO) exS
  rw [e1] at S1
  have S1 := Lib.hid S1
  clear e1 hcs
  generalize (w.alloc exO).alloc (.cells #[.string exS, .int .i64 0] 53) = w1 at B1 S1 ⊢
  refine (int_word _ exS 0 0 2 12 0 _ (by decide) (by decide) S1.out ex_one ex_12).mono ?_
  rintro e w2 ⟨rfl, hg, hS⟩
  have B2 := Lib.hid (below_grown B1.out hg (Nat.le_refl _) (by omega))
  have S2 := Lib.hid hS
  clear hg hS
  go_wp2_with fail
  refine (int_word _ exS 2 3 5 0 4 _ (by decide) (by decide) S2.out ex_two ex_x).mono ?_
  rintro e w3 ⟨rfl, hg, hS⟩
  have B3 := Lib.hid (below_grown B2.out hg (Nat.le_refl _) (by omega))
  clear hg hS
  go_wp2_with fail
  go_ret
  exact ⟨rfl, B3.out⟩
end Go.Proofs.YtcfendilaogjlaaDoor
