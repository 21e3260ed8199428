/- Contracts of a scan's calls (no statement of its own). -/
import Derived.Test.YtcfendilaogjlaaDoorSc1
import Derived.Below
import Derived.Laws.AppendOwn
import Derived.RangeFuncBox
import Derived.Deep.Cut
import Derived.Laws.DeepStrings4
namespace Go.Proofs.YtcfendilaogjlaaDoor
open Go.RowKit
set_option linter.unusedVariables false
/-- A scan of these bytes, read up to k. -/
def ScanAt (W : World) (b : Nat) (s : ByteArray) (k : Nat) : Prop := W.heap[b]? = some (.cells #[.string s, .int .i64 (k : Int)] 53 (0, 0))
theorem ScanAt.lt {W : World} {b k : Nat} {s : ByteArray} (h : ScanAt W b s k) : b < W.heap.size := (Array.getElem?_eq_some_iff.1 h).1
theorem ScanAt.text {W : World} {b k : Nat} {s : ByteArray} (h : ScanAt W b s k) : W.cell? ⟨b, 0, none⟩ = some (.string s) := by rw [cell_of_row _ _ _ _ _ _ h]; rfl
theorem ScanAt.at_ {W : World} {b k : Nat} {s : ByteArray} (h : ScanAt W b s k) : W.cell? ⟨b, 1, none⟩ = some (.int .i64 (k : Int)) := by rw [cell_of_row _ _ _ _ _ _ h]; rfl
theorem ScanAt.frozen {W : World} {b k : Nat} {s : ByteArray} (h : ScanAt W b s k) (i : Nat) : W.frozen? ⟨b, i, none⟩ = false := by
  have h' : W.heap[b]? = some _ := h
  simp [World.frozen?, h']
theorem scan_set {w : World} {b k : Nat} {s : ByteArray} (h : ScanAt w b s k) (t : Nat) : w.grownBy (w.setCell ⟨b, 1, none⟩ (.int .i64 (t : Int))) (some b) ∧ ScanAt (w.setCell ⟨b, 1, none⟩ (.int .i64 (t : Int))) b s t := by
  have h' : w.heap[b]? = some (.cells #[.string s, .int .i64 (k : Int)] 53 (0, 0)) := h
  have hlt := h.lt
  refine ⟨⟨rfl, rfl, rfl, (KeepsWalks.setCell w _ _).size, fun j hj hne => Below.heap_setCell w ⟨b, 1, none⟩ _ j (fun e => hne (by rw [e]))⟩, ?_⟩
  obtain ⟨hlt, hk⟩ := Array.getElem?_eq_some_iff.1 h'
  show (w.heap.modify b _)[b]? = _
  rw [Array.getElem?_eq_getElem (by rw [Array.size_modify]; exact hlt), Array.getElem_modify_self, hk]
  rfl
theorem sgrown_then {X Y Z : World} {row : Option Nat} (h : X.grownBy Y row) (k : Y.grownBy Z row) : X.grownBy Z row :=
  ⟨k.os.trans h.os, k.tape.trans h.tape, k.output.trans h.output, Nat.le_trans h.size k.size, fun i hi hne => (k.block i (Nat.lt_of_lt_of_le hi h.size) hne).trans (h.block i hi hne)⟩
theorem grown_self (w : World) (n b : Nat) : w.grownBy (w.drewN n) (some b) := ⟨rfl, rfl, rfl, Nat.le_refl _, fun _ _ _ => rfl⟩
set_option maxHeartbeats 1000000 in
theorem word_none (b : Nat) (s : ByteArray) (k : Nat) (w : World) (hs : s.size ≤ maxLen) (hk : k ≤ s.size) (h : ScanAt w b s k) (hr : stepW s.data.toList k = .none) :
    Calls Tryd.prog 13 #[.pointer (some ⟨b, 0, none⟩)] w fun e w' => e = .returned (.tuple #[.string ⟨#[]⟩, .int .i64 (s.size : Int), .int .i64 2]) ∧ w.grownBy w' (some b) ∧ ScanAt w' b s k := by
  have HS := Lib.hid h
  have P1 := Lib.hid (fun W => past_b s k W hk hs)
  have hb1 := pastP_le isB s.data.toList (k := k) (by rw [size_list]; exact hk)
  rw [size_list] at hb1
  have P2 := Lib.hid (fun W => past_w s (pastP isB s.data.toList k) W hb1 hs)
  have hb2 := pastP_le isW s.data.toList (k := pastP isB s.data.toList k) (by rw [size_list]; exact hb1)
  rw [size_list] at hb2
  obtain ⟨e1, e2⟩ := stepW_none (by rw [size_list]; exact hk) hr
  rw [e1, size_list] at e2
  rw [e1, size_list, e2] at hb2
  rw [e1, size_list] at P1 P2 hb1
  rw [e2] at P2
  clear e1 e2 hb1 hb2
  clear hr h
  unfold maxLen at hs
  have c0 := HS.out.text
  have c1 := HS.out.at_
  have cf := HS.out.frozen 1
  go_enter Tryd.func13, Tryd.ntmps13
  go_upto_region 3 with fail
  go_quiet ((go_at_call 22; exact Calls.quiet_of_same ((P1.out _).mono fun _ _ h => ⟨h.1, h.2.symm⟩)))
  go_wp2_with (go_at_call 22; refine (P2.out _).mono ?_; rintro e w' ⟨rfl, rfl⟩)
  go_ret3
  exact ⟨rfl, grown_self _ _ _, HS.out⟩
set_option maxHeartbeats 1000000 in
theorem word_bad (b : Nat) (s : ByteArray) (k t : Nat) (w : World) (hs : s.size ≤ maxLen) (hk : k ≤ s.size) (h : ScanAt w b s k) (hr : stepW s.data.toList k = .bad t) :
    Calls Tryd.prog 13 #[.pointer (some ⟨b, 0, none⟩)] w fun e w' => e = .returned (.tuple #[.string ⟨#[]⟩, .int .i64 (t : Int), .int .i64 11]) ∧ w.grownBy w' (some b) ∧ ScanAt w' b s k := by
  have HS := Lib.hid h
  have P1 := Lib.hid (fun W => past_b s k W hk hs)
  have hb1 := pastP_le isB s.data.toList (k := k) (by rw [size_list]; exact hk)
  rw [size_list] at hb1
  have P2 := Lib.hid (fun W => past_w s (pastP isB s.data.toList k) W hb1 hs)
  have hb2 := pastP_le isW s.data.toList (k := pastP isB s.data.toList k) (by rw [size_list]; exact hb1)
  rw [size_list] at hb2
  obtain ⟨e1, e2, e3⟩ := stepW_bad (by rw [size_list]; exact hk) hr
  rw [size_list] at e2
  have hx : s[t].toNat ≤ 255 := by have := s[t].toNat_lt; omega
  have e3 : isB s[t].toNat = false := e3
  have C := Lib.hid (fun W => between_any s[t].toNat W hx)
  rw [e3] at C
  rw [e1] at hb2 P2
  generalize pastP isB s.data.toList k = f at P1 P2 hb1
  clear e1 e3
  clear hr h
  unfold maxLen at hs
  have c0 := HS.out.text
  have c1 := HS.out.at_
  have cf := HS.out.frozen 1
  go_enter Tryd.func13, Tryd.ntmps13
  go_upto_region 3 with fail
  go_quiet ((go_at_call 22; exact Calls.quiet_of_same ((P1.out _).mono fun _ _ h => ⟨h.1, h.2.symm⟩)))
  go_wp2_with (first | (go_at_call 22; refine (P2.out _).mono ?_; rintro e w' ⟨rfl, rfl⟩) | (go_at_call 23; refine (C.out _).mono ?_; rintro e w' ⟨rfl, rfl⟩))
  go_ret3
  exact ⟨rfl, grown_self _ _ _, HS.out⟩
set_option maxRecDepth 100000 in
set_option maxHeartbeats 1000000 in
theorem word_ok (b : Nat) (s : ByteArray) (k f t : Nat) (w : World) (hs : s.size ≤ maxLen) (hk : k ≤ s.size) (h : ScanAt w b s k) (hr : stepW s.data.toList k = .word f t) :
    Calls Tryd.prog 13 #[.pointer (some ⟨b, 0, none⟩)] w fun e w' => e = .returned (.tuple #[.string (s.extract f t), .int .i64 (f : Int), .int .i64 0]) ∧ w.grownBy w' (some b) ∧ ScanAt w' b s t := by
  have HS := Lib.hid h
  have P1 := Lib.hid (fun W => past_b s k W hk hs)
  have hb1 := pastP_le isB s.data.toList (k := k) (by rw [size_list]; exact hk)
  rw [size_list] at hb1
  have P2 := Lib.hid (fun W => past_w s (pastP isB s.data.toList k) W hb1 hs)
  have hb2 := pastP_le isW s.data.toList (k := pastP isB s.data.toList k) (by rw [size_list]; exact hb1)
  rw [size_list] at hb2
  have hsep := fun ht => stepW_sep (by rw [size_list]; exact hk) hr (t := t) ht
  obtain ⟨h1, h2, h3, e1, e2⟩ := stepW_word (by rw [size_list]; exact hk) hr
  rw [← e1] at P1 P2 hb1 hb2
  rw [← e2] at P2 hb2
  clear e1 e2 h3
  clear hr h
  clear hs
  have c0 := HS.out.text
  have c1 := HS.out.at_
  have cf := HS.out.frozen 1
  rcases Nat.lt_or_ge t s.size with ht | ht
  · have hx : s[t].toNat ≤ 255 := by have := s[t].toNat_lt; omega
    have e3 : isB s[t].toNat = true := hsep (by rw [size_list]; exact ht)
    have C := Lib.hid (fun W => between_any s[t].toNat W hx)
    rw [e3] at C
    clear e3 hsep
    go_enter Tryd.func13, Tryd.ntmps13
    go_upto_region 3 with fail
    go_quiet ((go_at_call 22; exact Calls.quiet_of_same ((P1.out _).mono fun _ _ h => ⟨h.1, h.2.symm⟩)))
    go_wp2_with (first | (go_at_call 22; refine (P2.out _).mono ?_; rintro e w' ⟨rfl, rfl⟩) | (go_at_call 23; refine (C.out _).mono ?_; rintro e w' ⟨rfl, rfl⟩))
    go_ret3
    have h2 := scan_set (w := w.drewN nq) HS.out t
    exact ⟨rfl, sgrown_then (grown_self w nq b) h2.1, h2.2⟩
  · clear hsep
    go_enter Tryd.func13, Tryd.ntmps13
    go_upto_region 3 with fail
    go_quiet ((go_at_call 22; exact Calls.quiet_of_same ((P1.out _).mono fun _ _ h => ⟨h.1, h.2.symm⟩)))
    go_wp2_with (first | (go_at_call 22; refine (P2.out _).mono ?_; rintro e w' ⟨rfl, rfl⟩))
    go_ret3
    have h2 := scan_set (w := w.drewN nq) HS.out t
    exact ⟨rfl, sgrown_then (grown_self w nq b) h2.1, h2.2⟩
theorem at_any (b : Nat) (s : ByteArray) (k : Nat) (w : World) (h : ScanAt w b s k) : Calls Tryd.prog 14 #[.pointer (some ⟨b, 0, none⟩)] w fun e w' => e = .returned (.int .i64 (k : Int)) ∧ w = w' := by
  have c1 := h.at_
  clear h
  go_enter Tryd.func14, Tryd.ntmps14
  go_wp2
  go_ret
  exact ⟨rfl, rfl⟩
theorem more_any (b : Nat) (s : ByteArray) (k : Nat) (w : World) (hs : s.size ≤ maxLen) (hk : k ≤ s.size) (h : ScanAt w b s k) :
    Calls Tryd.prog 16 #[.pointer (some ⟨b, 0, none⟩)] w fun e w' => e = .returned (.bool (decide (pastP isB s.data.toList k < s.size))) ∧ w.grownBy w' none := by
  have P1 := Lib.hid (fun W => past_b s k W hk hs)
  generalize pastP isB s.data.toList k = f at P1 ⊢
  have c0 := h.text
  have c1 := h.at_
  clear h hs
  go_enter Tryd.func16, Tryd.ntmps16
  go_upto_region 1 with fail
  go_quiet ((go_at_call 22; exact Calls.quiet_of_same ((P1.out _).mono fun _ _ h => ⟨h.1, h.2.symm⟩)))
  go_wp2
  go_ret
  exact ⟨rfl, ⟨rfl, rfl, rfl, Nat.le_refl _, fun _ _ _ => rfl⟩⟩
end Go.Proofs.YtcfendilaogjlaaDoor
