/- What is no word; sizes that are wrong; functions that misfit (no statement of its own). -/
import Derived.Test.YteocbgcgfllieaaGreatDoorMgT
import Derived.Test.YteocbgcgfllieaaGreatDoorMgAd
import Derived.Test.YteocbgcgfllieaaGreatDoorMgAa
import Derived.Lib.ConvBytes
import Derived.Deep.CutBlock
namespace Go.Proofs.YteocbgcgfllieaaGreatDoor
open Go.RowKit
set_option linter.unusedVariables false
theorem loop_len (bs : ByteArray) : ∀ (n i : Nat) (r : List UInt8), i ≤ bs.size → bs.size - i = n → ByteArray.toList.loop bs i r = r.reverse ++ bs.data.toList.drop i := by
  intro n
  induction n with
  | zero =>
    intro i r hi h
    rw [ByteArray.toList.loop, if_neg (by omega)]
    have : bs.data.toList.length ≤ i := by have : bs.data.toList.length = bs.size := rfl; omega
    rw [List.drop_eq_nil_of_le this, List.append_nil]
  | succ n ih =>
    intro i r hi h
    have hlt : i < bs.size := by omega
    rw [ByteArray.toList.loop, if_pos hlt, ih (i + 1) _ (by omega) (by omega)]
    have hl : i < bs.data.toList.length := hlt
    rw [List.drop_eq_getElem_cons hl]
    have h2 : i < bs.data.size := hlt
    have : bs.get! i = bs.data.toList[i] := by
      show bs.data[i]! = _
      rw [getElem!_pos bs.data i h2]
      rfl
    rw [this]
    simp
theorem toList_data (bs : ByteArray) : bs.toList = bs.data.toList := by
  unfold ByteArray.toList
  rw [loop_len bs _ 0 [] (Nat.zero_le _) rfl]
  simp
theorem str_ne {X Y : ByteArray} (h : Y ≠ X) : (Y.toList == X.toList) = false := by
  rw [beq_eq_false_iff_ne]
  intro e
  rw [toList_data, toList_data] at e
  exact h (ByteArray.ext (Array.toList_inj.1 e))
/-- A name that is a word. -/
def WordX (X : ByteArray) : Prop := stepW X.data.toList 0 = .word 0 X.size
theorem word_iff {X : ByteArray} : WordX X ↔ X.data.toList ≠ [] ∧ ∀ c ∈ X.data.toList, isW c.toNat = true := by
  have hl : X.size = X.data.toList.length := by rw [size_list]
  unfold WordX
  constructor
  · intro h
    obtain ⟨-, h2, -, -, h5⟩ := stepW_word (Nat.zero_le _) h
    rw [hl] at h2 h5
    refine ⟨fun e => by rw [e] at h2; exact absurd h2 (by simp), fun c hc => ?_⟩
    unfold pastP at h5
    rw [List.drop_zero, Nat.zero_add] at h5
    have he : X.data.toList.takeWhile (fun c => isW c.toNat) = X.data.toList := by
      refine (List.takeWhile_prefix _).eq_of_length ?_
      exact h5.symm
    rw [← he] at hc
    exact tw_all hc
  · rintro ⟨h1, h2⟩
    have hx := stepW_at (pre := []) (b := []) (w := X.data.toList) (rest := []) (by simp) h2 h1 (.inl rfl)
    simp only [List.nil_append, List.append_nil, List.length_nil, Nat.zero_add] at hx
    rw [hx.1, hl]
set_option maxRecDepth 100000 in
theorem isword_no (X : ByteArray) (w : World) (hs : X.size ≤ 100000) (hr : ¬ WordX X) :
    Calls Tryz.prog 52 #[.string X] w fun e w' => e = .returned (.bool false) ∧ Below w.heap.size w w' := by
  have CV := Lib.run_convert_string_bytes (P := Tryz.prog) w 9 22 5 X Tryz.underlying9 Tryz.underlying22 Tryz.underlying5
  have B1 : Below w.heap.size w (Lib.bytesWorld w 5 X) := ⟨rfl, rfl, rfl, by rw [Lib.bytesWorld_size]; omega, fun j hj => Lib.bytesWorld_at_old w 5 X j hj⟩
  have BY : BS (Lib.bytesWorld w 5 X) (some ⟨w.heap.size, 0, none⟩) X := .inr ⟨_, 0, rfl, by rw [Lib.bytesWorld_size]; omega, fun i hi => by
    rw [Nat.zero_add, Lib.bytesWorld_cell w 5 X i hi]
    simp [ByteArray.getElem_eq_getElem_data, List.getD_eq_getElem?_getD, hi]
    ⟩
  have SN := Lib.hid (fun W (hW : W = Lib.bytesWorld w 5 X) => snew_any (.slice (some ⟨w.heap.size, 0, none⟩) X.size (grownCap w X.size 0 5)) X W (conv_bytes (by rw [hW]; exact BY)))
  have B1 := Lib.hid B1
  have HS := Lib.hid hs
  clear hs BY
  generalize grownCap w X.size 0 5 = cap at CV SN
  obtain ⟨wb, hwb⟩ : ∃ wb, Lib.bytesWorld w 5 X = wb := ⟨_, rfl⟩
  rw [hwb] at CV B1
  have HWB := Lib.hid hwb.symm
  clear hwb
  have FIN : Hid (∀ (w2 w3 : World), Below w.heap.size w w2 → w2.heap.size = wb.heap.size + 1 → w2.grownBy w3 (some wb.heap.size) → Below w.heap.size w w3) := Lib.hid (fun w2 w3 h2 z2 hg => h2.grown hg h2.size (fun q hq => by
    injection hq with hq
    have := B1.out.size
    omega))
  have main : ∀ (e0 : Value) (n : Int), (n ≠ 0 ∨ ∃ Y, e0 = .string Y ∧ Y ≠ X) → (∃ Y, e0 = .string Y) → ∀ p : Int, (∀ w2, ScanAt w2 wb.heap.size X 0 → Calls Tryz.prog 72 #[.pointer (some ⟨wb.heap.size, 0, none⟩)] w2 fun e w' => e = .returned (.tuple #[e0, .int .i64 p, .int .i64 n]) ∧ w2.grownBy w' (some wb.heap.size)) →
      Calls Tryz.prog 52 #[.string X] w fun e w' => e = .returned (.bool false) ∧ Below w.heap.size w w' := by
    rintro e0 n hn ⟨Y, rfl⟩ p WD
    have WD := Lib.hid WD
    rcases hn with hn | ⟨Y', e, hne⟩
    · have d1 : (n == 0) = false := by simpa using hn
      have d2 : ¬ n = 0 := hn
      go_enter Tryz.func52, Tryz.ntmps52
      go_wp2_with (first
        | (go_at_call 29; refine (SN.out _ HWB.out).mono ?_; rintro e w2 ⟨rfl, hw2⟩; have W2 := Lib.hid (WD.out w2 (by rw [hw2]; exact ScanAt.new wb X)); have B2 := Lib.hid (by have := B1.out.trans ((new_val wb (.cells #[.string X, .int .i64 0] 117)).mono B1.out.size); rw [← hw2] at this; exact this); have Z2 := Lib.hid (by have := World.size_alloc wb (.cells #[.string X, .int .i64 0] 117); rw [← hw2] at this; exact this); clear hw2)
        | (go_at_call 72; refine W2.out.mono ?_; rintro e w3 ⟨rfl, hg3⟩; replace hg3 := Lib.hid hg3)
        | fail)
      go_ret
      exact ⟨rfl, FIN.out _ _ B2.out Z2.out hg3.out⟩
    · injection e with e
      subst e
      by_cases hn0 : n = 0
      · subst hn0
        have d1 := str_ne hne
        go_enter Tryz.func52, Tryz.ntmps52
        go_wp2_with (first
          | (go_at_call 29; refine (SN.out _ HWB.out).mono ?_; rintro e w2 ⟨rfl, hw2⟩; have W2 := Lib.hid (WD.out w2 (by rw [hw2]; exact ScanAt.new wb X)); have B2 := Lib.hid (by have := B1.out.trans ((new_val wb (.cells #[.string X, .int .i64 0] 117)).mono B1.out.size); rw [← hw2] at this; exact this); have Z2 := Lib.hid (by have := World.size_alloc wb (.cells #[.string X, .int .i64 0] 117); rw [← hw2] at this; exact this); clear hw2)
          | (go_at_call 72; refine W2.out.mono ?_; rintro e w3 ⟨rfl, hg3⟩; replace hg3 := Lib.hid hg3)
          | fail)
        go_ret
        exact ⟨rfl, FIN.out _ _ B2.out Z2.out hg3.out⟩
      · have d1 : (n == 0) = false := by simpa using hn0
        go_enter Tryz.func52, Tryz.ntmps52
        go_wp2_with (first
          | (go_at_call 29; refine (SN.out _ HWB.out).mono ?_; rintro e w2 ⟨rfl, hw2⟩; have W2 := Lib.hid (WD.out w2 (by rw [hw2]; exact ScanAt.new wb X)); have B2 := Lib.hid (by have := B1.out.trans ((new_val wb (.cells #[.string X, .int .i64 0] 117)).mono B1.out.size); rw [← hw2] at this; exact this); have Z2 := Lib.hid (by have := World.size_alloc wb (.cells #[.string X, .int .i64 0] 117); rw [← hw2] at this; exact this); clear hw2)
          | (go_at_call 72; refine W2.out.mono ?_; rintro e w3 ⟨rfl, hg3⟩; replace hg3 := Lib.hid hg3)
          | fail)
        go_ret
        exact ⟨rfl, FIN.out _ _ B2.out Z2.out hg3.out⟩
  have hmx : X.size ≤ maxLen := by have := HS.out; unfold maxLen; omega
  cases hst : stepW X.data.toList 0 with
  | none => exact main _ 2 (.inl (by decide)) ⟨_, rfl⟩ _ (fun w2 h2 => (word_none wb.heap.size X 0 w2 hmx (Nat.zero_le _) h2 hst).mono fun e w' hh => ⟨hh.1, hh.2.1⟩)
  | bad t => exact main _ 11 (.inl (by decide)) ⟨_, rfl⟩ _ (fun w2 h2 => (word_bad wb.heap.size X 0 t w2 hmx (Nat.zero_le _) h2 hst).mono fun e w' hh => ⟨hh.1, hh.2.1⟩)
  | word f t =>
    refine main (.string (X.extract f t)) 0 (.inr ⟨_, rfl, fun e => ?_⟩) ⟨_, rfl⟩ _ (fun w2 h2 => (word_ok wb.heap.size X 0 f t w2 hmx (Nat.zero_le _) h2 hst).mono fun e w' hh => ⟨hh.1, hh.2.1⟩)
    obtain ⟨k1, k2, k3, -, -⟩ := stepW_word (Nat.zero_le _) hst
    rw [size_list] at k3
    have hsz := congrArg ByteArray.size e
    rw [ByteArray.size_extract] at hsz
    have hf : f = 0 := by omega
    have ht : t = X.size := by omega
    subst hf ht
    exact hr hst
theorem wcwrong_yes (x : Int) (w : World) (h : x < 1 ∨ 32 < x) : Calls Tryz.prog 54 #[.int .i64 x] w fun e w' => e = .returned (.bool true) ∧ w = w' := by
  by_cases h1 : x < 1
  · have d : decide (x < 1) = true := decide_eq_true h1
    go_enter Tryz.func54, Tryz.ntmps54
    go_wp2_with fail
    go_ret
    exact ⟨rfl, rfl⟩
  · have d : decide (x < 1) = false := decide_eq_false h1
    have d2 : decide (32 < x) = true := decide_eq_true (by omega)
    have h2 : 32 < x := by omega
    clear h
    go_enter Tryz.func54, Tryz.ntmps54
    go_wp2_with fail
    go_ret
    exact ⟨rfl, rfl⟩
theorem index_yesW (A : Option Addr) (n c : Nat) (z : Nat → Int) (w : World) (hn : n ≤ 1000000) (hr : Zs w A n z) (hz : ¬ ∀ i, i < n → 1 ≤ z i ∧ z i ≤ 32) :
    Calls Tryz.prog 71 #[.slice A n c, .func (.func 54) #[] #[]] w fun e w' => (∃ j : Nat, e = .returned (.int .i64 (j : Int))) ∧ w = w' := by
  have HZ := Lib.hid hz
  have HR := Lib.hid hr
  clear hz hr
  go_enter Tryz.func71, Tryz.ntmps71
  go_wp2_with fail
  go_loop [5, 8] (fun _ i => ∃ j : Nat, j ≤ n ∧ i = .int .i64 j ∧ ∀ i, i < j → 1 ≤ z i ∧ z i ≤ 32) (fun _ i => n - (intOf i).toNat)
  case atStart => exact ⟨0, Nat.zero_le _, rfl, fun i h => absurd h (Nat.not_lt_zero _)⟩
  case round =>
    obtain ⟨j, hj, rfl, hv⟩ := hrel
    have HV := Lib.hid hv
    clear hv
    by_cases hlt : j < n
    · obtain ⟨g, o, rfl, hcell⟩ := HR.out.at_ hlt
      by_cases hx : 1 ≤ z j ∧ z j ≤ 32
      · have NV : Hid (∀ i, i < j + 1 → 1 ≤ z i ∧ z i ≤ 32) := Lib.hid (fun i hi => by
          rcases Nat.lt_or_ge i j with h | h
          · exact HV.out i h
          · rw [show i = j by omega]; exact hx)
        generalize z j = x at hcell hx
        obtain ⟨hz1, hz2⟩ := hx
        go_wp2_with (go_at_call 54; refine (wcwrong_no _ _ hz1 hz2).mono ?_; rintro e w' ⟨rfl, rfl⟩)
        go_round
        case rel => exact ⟨j + 1, by omega, by go_num, NV.out⟩
        case measure => simp [intOf]; omega
      · have hx' : z j < 1 ∨ 32 < z j := by omega
        generalize z j = x at hcell hx'
        have WY := Lib.hid (fun W => wcwrong_yes x W hx')
        clear hx hx'
        go_wp2_with (go_at_call 54; refine (WY.out _).mono ?_; rintro e w' ⟨rfl, rfl⟩)
        go_ret
        exact ⟨⟨j, rfl⟩, rfl⟩
    · exact absurd (fun i hi => HV.out i (by omega)) HZ.out
theorem contains_yesW (A : Option Addr) (n c : Nat) (z : Nat → Int) (w : World) (hn : n ≤ 1000000) (hr : Zs w A n z) (hz : ¬ ∀ i, i < n → 1 ≤ z i ∧ z i ≤ 32) :
    Calls Tryz.prog 50 #[.slice A n c, .func (.func 54) #[] #[]] w fun e w' => e = .returned (.bool true) ∧ w = w' := by
  have H := Lib.hid (index_yesW A n c z w hn hr hz)
  clear hr hz
  go_enter Tryz.func50, Tryz.ntmps50
  go_wp2_with (go_at_call 71; refine H.out.mono ?_; rintro e w' ⟨⟨j, rfl⟩, rfl⟩; have j0 : (0 : Int) ≤ (j : Int) := (by omega))
  go_ret
  exact ⟨rfl, rfl⟩
end Go.Proofs.YteocbgcgfllieaaGreatDoor
