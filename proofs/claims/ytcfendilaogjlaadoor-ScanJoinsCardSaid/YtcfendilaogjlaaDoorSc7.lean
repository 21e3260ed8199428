/- Contracts of scan's Read (no statement of its own). Condition: at most 1000000 bytes. -/
import Derived.Test.YtcfendilaogjlaaDoorSc6
import Derived.Test.YtcfendilaogjlaaDoorShelf
import Derived.Lib.UnsafeStr
namespace Go.Proofs.YtcfendilaogjlaaDoor
open Go.RowKit
set_option linter.unusedVariables false
abbrev tenL : List UInt8 := [48, 49, 50, 51, 52, 53, 54, 55, 56, 57]
theorem drop_all (P : UInt8 → Bool) : ∀ (d : List UInt8), (∀ b ∈ d, P b = true) → d.dropWhile P = []
  | [], _ => rfl
  | b :: d, h => by rw [List.dropWhile_cons_of_pos (h b (by simp))]; exact drop_all P d fun x hx => h x (by simp [hx])
theorem drop_some (P : UInt8 → Bool) : ∀ (d : List UInt8), (∃ b ∈ d, P b = false) → ∃ b ∈ d.dropWhile P, P b = false
  | [], h => by obtain ⟨b, hb, _⟩ := h; simp at hb
  | b :: d, h => by
    cases hp : P b with
    | true =>
      rw [List.dropWhile_cons_of_pos hp]
      obtain ⟨x, hx, hx2⟩ := h
      rcases List.mem_cons.1 hx with rfl | hx
      · rw [hp] at hx2; cases hx2
      · exact drop_some P d ⟨x, hx, hx2⟩
    | false =>
      rw [List.dropWhile_cons_of_neg (by simp [hp])]
      exact ⟨b, by simp, hp⟩
theorem trimS_nil (d cs : List UInt8) (h : ∀ b ∈ d, cs.contains b = true) : Lib.trimS d cs = [] := by
  have e : Lib.trimRightS d cs = [] := by
    unfold Lib.trimRightS
    rw [drop_all _ _ (fun b hb => h b (List.mem_reverse.1 hb))]
    rfl
  unfold Lib.trimS
  rw [e]
  rfl
theorem trimS_ne (d cs : List UInt8) (h : ∃ b ∈ d, cs.contains b = false) : ∃ x r, Lib.trimS d cs = x :: r := by
  obtain ⟨b, hb, hc⟩ := h
  obtain ⟨b2, hb2, hc2⟩ := drop_some (cs.contains ·) d.reverse ⟨b, List.mem_reverse.2 hb, hc⟩
  obtain ⟨b3, hb3, hc3⟩ := drop_some (cs.contains ·) (Lib.trimRightS d cs) ⟨b2, List.mem_reverse.2 hb2, hc2⟩
  cases hl : Lib.trimS d cs with
  | nil =>
    have : b3 ∈ Lib.trimS d cs := hb3
    rw [hl] at this
    simp at this
  | cons x r => exact ⟨x, r, rfl⟩
theorem ten_ascii : ∀ (j : Nat) b, (⟨#[48, 49, 50, 51, 52, 53, 54, 55, 56, 57]⟩ : ByteArray).data.toList[j]? = some b → b.toNat < 128 := by
  intro j b h
  have hm := List.mem_of_getElem? h
  simp at hm
  rcases hm with rfl | rfl | rfl | rfl | rfl | rfl | rfl | rfl | rfl | rfl <;> decide
theorem bytesWorld_below (w : World) (e : TypeId) (s : ByteArray) : Below w.heap.size w (Lib.bytesWorld w e s) :=
  Lib.below_freeze (((Below.refl _ _).drew).alloc (Nat.le_refl _) _) (Nat.le_refl _) _
theorem trim_len (l d : List UInt8) (h : Lib.trimPrefix l [45] = d) : d.length ≤ l.length := by
  subst h
  unfold Lib.trimPrefix
  split
  · rw [List.length_drop]
    omega
  · exact Nat.le_refl _
/-- A word that is no number. -/
theorem read_form (s : ByteArray) (w : World) (hs : s.size ≤ 1000000) (d : List UInt8) (hd : Lib.trimPrefix s.data.toList [45] = d) (h : d = [] ∨ ∃ b ∈ d, tenL.contains b = false) :
    Calls Tryd.prog 19 #[.string s] w fun e w' => e = .returned (.tuple #[.int .i64 0, .int .i64 4]) ∧ Below w.heap.size w w' := by
  have hdl := trim_len _ _ hd
  rw [size_list] at hdl
  have HP := Lib.hid (fun W => Tryd.strings_TrimPrefix s ⟨#[45]⟩ W)
  have hd' : Lib.trimPrefix s.data.toList (⟨#[45]⟩ : ByteArray).data.toList = d := hd
  rw [hd'] at HP
  clear hd hd'
  rcases h with rfl | h
  · go_enter Tryd.func19, Tryd.ntmps19
    go_wp2_with (go_at_call 25; refine (HP.out _).mono ?_; rintro e w' ⟨rfl, rfl⟩)
    go_ret2
    exact ⟨rfl, Below.refl _ _⟩
  · have hne : d ≠ [] := by
      rintro rfl
      obtain ⟨b, hb, _⟩ := h
      simp at hb
    have he : (!d.isEmpty) = true := by cases d with
      | nil => exact absurd rfl hne
      | cons => rfl
    obtain ⟨x, r, ht⟩ := trimS_ne d tenL h
    have HT := Lib.hid (fun W => Tryd.strings_Trim_laid ⟨d.toArray⟩ ⟨#[48, 49, 50, 51, 52, 53, 54, 55, 56, 57]⟩ W (by show d.toArray.size ≤ _; rw [List.size_toArray]; omega) (by decide) ten_ascii)
    have ht' : Lib.trimS (⟨d.toArray⟩ : ByteArray).data.toList (⟨#[48, 49, 50, 51, 52, 53, 54, 55, 56, 57]⟩ : ByteArray).data.toList = x :: r := ht
    rw [ht'] at HT
    clear h ht ht'
    go_enter Tryd.func19, Tryd.ntmps19
    go_wp2_with (first | (go_at_call 25; refine (HP.out _).mono ?_; rintro e w' ⟨rfl, rfl⟩) | (go_at_call 26; refine (HT.out _).mono ?_; rintro e w' ⟨rfl, hb⟩; have HB := Lib.hid hb; clear hb))
    go_ret2
    exact ⟨rfl, HB.out⟩
/-- A word of digits that an int64 holds. -/
theorem read_ok (s : ByteArray) (w : World) (hs : s.size ≤ 1000000) (d : List UInt8) (v : Int) (hd : Lib.trimPrefix s.data.toList [45] = d) (hne : d ≠ []) (h : ∀ b ∈ d, tenL.contains b = true) (hv : Lib.parseIntB 64 s.data.toList = .ok v) :
    Calls Tryd.prog 19 #[.string s] w fun e w' => e = .returned (.tuple #[.int .i64 (min (max v (-4611686018427387904)) 4611686018427387904), .int .i64 0]) ∧ Below w.heap.size w w' := by
  have hdl := trim_len _ _ hd
  rw [size_list] at hdl
  have HP := Lib.hid (fun W => Tryd.strings_TrimPrefix s ⟨#[45]⟩ W)
  have hd' : Lib.trimPrefix s.data.toList (⟨#[45]⟩ : ByteArray).data.toList = d := hd
  rw [hd'] at HP
  have he : (!d.isEmpty) = true := by cases d with
    | nil => exact absurd rfl hne
    | cons => rfl
  have he2 : d.isEmpty = false := by cases d with
    | nil => exact absurd rfl hne
    | cons => rfl
  have ht := trimS_nil d tenL h
  have HT := Lib.hid (fun W => Tryd.strings_Trim_laid ⟨d.toArray⟩ ⟨#[48, 49, 50, 51, 52, 53, 54, 55, 56, 57]⟩ W (by show d.toArray.size ≤ _; rw [List.size_toArray]; omega) (by decide) ten_ascii)
  have ht' : Lib.trimS (⟨d.toArray⟩ : ByteArray).data.toList (⟨#[48, 49, 50, 51, 52, 53, 54, 55, 56, 57]⟩ : ByteArray).data.toList = [] := ht
  rw [ht'] at HT
  have HV := Lib.hid (fun W => Tryd.strconv_ParseInt_10_at64_ok s (by omega) v hv W)
  clear hd hd' h ht ht' hv
  go_enter Tryd.func19, Tryd.ntmps19
  go_wp2_with (first | (go_at_call 25; refine (HP.out _).mono ?_; rintro e w' ⟨rfl, rfl⟩) | (go_at_call 26; refine (HT.out _).mono ?_; rintro e w2 ⟨rfl, hb⟩; have HB := Lib.hid hb; clear hb) | (go_at_call 27; refine (HV.out _).mono ?_; rintro e w3 ⟨rfl, hb⟩; have HB2 : Hid (Below w2.heap.size w2 w3) := Lib.hid (by rcases hb with rfl | ⟨t, rfl⟩; exact Below.refl _ _; exact bytesWorld_below _ _ _); clear hb))
  go_ret2
  exact ⟨rfl, then_ HB.out HB2.out⟩
end Go.Proofs.YtcfendilaogjlaaDoor
