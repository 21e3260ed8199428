/- Contracts of a scan's calls that look at bytes (no statement of its own). -/
import Derived.Test.YtcfendilaogjlaaDoorRows
import Derived.Test.YtcfendilaogjlaaDoorSc0
import Derived.WalkKit
import Derived.WalkLawsBesides
import Derived.Lib.Hide
import Derived.Handy
import Derived.IntWalk
import Derived.BigQuiet
import Derived.Deep.QuietTactic
import Derived.Deep.RegionWith
namespace Go.Proofs.YtcfendilaogjlaaDoor
open Go.RowKit
set_option linter.unusedVariables false
theorem sret_bool {a b : Bool} (h : a = b) : Ending.returned (.bool a) = .returned (.bool b) := by rw [h]
theorem sret_int {t : IntKind} {a b : Int} (h : a = b) : Ending.returned (.int t a) = .returned (.int t b) := by rw [h]
theorem between_any (x : Nat) (w : World) (hx : x ≤ 255) : Calls Tryd.prog 23 #[.int .u8 (x : Int)] w fun e w' => e = .returned (.bool (isB x)) ∧ w = w' := by
  by_cases h1 : x = 32
  · subst h1
    go_enter Tryd.func23, Tryd.ntmps23
    go_wp2
    go_ret
    exact ⟨rfl, rfl⟩
  · by_cases h2 : x = 9
    · subst h2
      go_enter Tryd.func23, Tryd.ntmps23
      go_wp2
      go_ret
      exact ⟨rfl, rfl⟩
    · by_cases h3 : x = 10
      · subst h3
        go_enter Tryd.func23, Tryd.ntmps23
        go_wp2
        go_ret
        exact ⟨rfl, rfl⟩
      · by_cases h4 : x = 13
        · subst h4
          go_enter Tryd.func23, Tryd.ntmps23
          go_wp2
          go_ret
          exact ⟨rfl, rfl⟩
        · have e : isB x = false := by simp [isB, h1, h2, h3, h4]
          rw [e]
          have e1 : ((x : Int) == 32) = false := by rw [beq_eq_false_iff_ne]; omega
          have e2 : ((x : Int) == 9) = false := by rw [beq_eq_false_iff_ne]; omega
          have e3 : ((x : Int) == 10) = false := by rw [beq_eq_false_iff_ne]; omega
          have e4 : ((x : Int) == 13) = false := by rw [beq_eq_false_iff_ne]; omega
          clear h1 h2 h3 h4 e
          go_enter Tryd.func23, Tryd.ntmps23
          go_wp2
          go_ret
          exact ⟨rfl, rfl⟩
theorem within_any (x : Nat) (w : World) (hx : x ≤ 255) : Calls Tryd.prog 24 #[.int .u8 (x : Int)] w fun e w' => e = .returned (.bool (isW x)) ∧ w = w' := by
  by_cases h1 : 33 ≤ x
  · by_cases h2 : x ≤ 126
    · have e : isW x = true := by simp [isW, h1, h2]
      rw [e]
      have e1 : (33 : Int) ≤ (x : Int) := by omega
      have e2 : (x : Int) ≤ 126 := by omega
      clear h1 h2 e
      go_enter Tryd.func24, Tryd.ntmps24
      go_wp2
      go_ret
      exact ⟨rfl, rfl⟩
    · have e : isW x = false := by simp [isW, h2]
      rw [e]
      have e1 : (33 : Int) ≤ (x : Int) := by omega
      have e2 : ¬ (x : Int) ≤ 126 := by omega
      clear h1 h2 e
      go_enter Tryd.func24, Tryd.ntmps24
      go_wp2
      go_ret
      exact ⟨rfl, rfl⟩
  · have e : isW x = false := by simp [isW, h1]
    rw [e]
    have e1 : ¬ (33 : Int) ≤ (x : Int) := by omega
    clear h1 e
    go_enter Tryd.func24, Tryd.ntmps24
    go_wp2
    go_ret
    exact ⟨rfl, rfl⟩
theorem size_list (s : ByteArray) : s.data.toList.length = s.size := by rw [Array.length_toList]; rfl
theorem get_list (s : ByteArray) (k : Nat) (h : k < s.size) (h' : k < s.data.toList.length) : s.data.toList[k] = s[k] := by
  rfl
set_option maxHeartbeats 400000 in
theorem past_b (s : ByteArray) (k : Nat) (w : World) (hk : k ≤ s.size) (hs : s.size ≤ maxLen) :
    Calls Tryd.prog 22 #[.string s, .int .i64 (k : Int), .func (.func 23) #[] #[]] w fun e w' => e = .returned (.int .i64 (pastP isB s.data.toList k : Nat)) ∧ w = w' := by
  unfold maxLen at hs
  obtain ⟨r, hr⟩ : ∃ r, pastP isB s.data.toList k = r := ⟨_, rfl⟩
  rw [hr]
  have HR := Lib.hid hr
  clear hr
  go_enter Tryd.func22, Tryd.ntmps22
  go_wp2_with fail
  go_loop [1] (fun i => ∃ j : Nat, j ≤ s.size ∧ i = .int .i64 (j : Int) ∧ pastP isB s.data.toList j = r) (fun i => s.size - (intOf i).toNat)
  case atStart => exact ⟨k, hk, rfl, HR.out⟩
  case round =>
    obtain ⟨j, hj, rfl, hr⟩ := hrel
    have HJ := Lib.hid hr
    clear hr
    by_cases hlt : j < s.size
    · have hx : s[j].toNat ≤ 255 := by have := s[j].toNat_lt; omega
      have hl : j < s.data.toList.length := by rw [size_list]; exact hlt
      cases hp : isB s[j].toNat with
      | true =>
        have HP : Hid (pastP isB s.data.toList (j + 1) = r) := Lib.hid ((pastP_step isB s.data.toList hl hp).symm.trans HJ.out)
        have C := Lib.hid (fun W => between_any s[j].toNat W hx)
        rw [hp] at C
        clear hp
        go_wp2_with (go_at_call 23; refine (C.out _).mono ?_; rintro e w' ⟨rfl, rfl⟩)
        go_round
        case rel => exact ⟨j + 1, hlt, by go_num, HP.out⟩
        case measure => simp [intOf]; omega
      | false =>
        have HP : Hid (r = j) := Lib.hid (HJ.out.symm.trans (pastP_stop isB s.data.toList hl hp))
        have C := Lib.hid (fun W => between_any s[j].toNat W hx)
        rw [hp] at C
        clear hp
        go_wp2_with (go_at_call 23; refine (C.out _).mono ?_; rintro e w' ⟨rfl, rfl⟩)
        go_ret
        exact ⟨sret_int (by rw [HP.out]), rfl⟩
    · have HP : Hid (r = j) := Lib.hid (HJ.out.symm.trans (pastP_end isB s.data.toList (by rw [size_list]; omega)))
      go_wp2_with fail
      go_ret
      exact ⟨sret_int (by rw [HP.out]), rfl⟩
set_option maxHeartbeats 400000 in
theorem past_w (s : ByteArray) (k : Nat) (w : World) (hk : k ≤ s.size) (hs : s.size ≤ maxLen) :
    Calls Tryd.prog 22 #[.string s, .int .i64 (k : Int), .func (.func 24) #[] #[]] w fun e w' => e = .returned (.int .i64 (pastP isW s.data.toList k : Nat)) ∧ w = w' := by
  unfold maxLen at hs
  obtain ⟨r, hr⟩ : ∃ r, pastP isW s.data.toList k = r := ⟨_, rfl⟩
  rw [hr]
  have HR := Lib.hid hr
  clear hr
  go_enter Tryd.func22, Tryd.ntmps22
  go_wp2_with fail
  go_loop [1] (fun i => ∃ j : Nat, j ≤ s.size ∧ i = .int .i64 (j : Int) ∧ pastP isW s.data.toList j = r) (fun i => s.size - (intOf i).toNat)
  case atStart => exact ⟨k, hk, rfl, HR.out⟩
  case round =>
    obtain ⟨j, hj, rfl, hr⟩ := hrel
    have HJ := Lib.hid hr
    clear hr
    by_cases hlt : j < s.size
    · have hx : s[j].toNat ≤ 255 := by have := s[j].toNat_lt; omega
      have hl : j < s.data.toList.length := by rw [size_list]; exact hlt
      cases hp : isW s[j].toNat with
      | true =>
        have HP : Hid (pastP isW s.data.toList (j + 1) = r) := Lib.hid ((pastP_step isW s.data.toList hl hp).symm.trans HJ.out)
        have C := Lib.hid (fun W => within_any s[j].toNat W hx)
        rw [hp] at C
        clear hp
        go_wp2_with (go_at_call 24; refine (C.out _).mono ?_; rintro e w' ⟨rfl, rfl⟩)
        go_round
        case rel => exact ⟨j + 1, hlt, by go_num, HP.out⟩
        case measure => simp [intOf]; omega
      | false =>
        have HP : Hid (r = j) := Lib.hid (HJ.out.symm.trans (pastP_stop isW s.data.toList hl hp))
        have C := Lib.hid (fun W => within_any s[j].toNat W hx)
        rw [hp] at C
        clear hp
        go_wp2_with (go_at_call 24; refine (C.out _).mono ?_; rintro e w' ⟨rfl, rfl⟩)
        go_ret
        exact ⟨sret_int (by rw [HP.out]), rfl⟩
    · have HP : Hid (r = j) := Lib.hid (HJ.out.symm.trans (pastP_end isW s.data.toList (by rw [size_list]; omega)))
      go_wp2_with fail
      go_ret
      exact ⟨sret_int (by rw [HP.out]), rfl⟩
end Go.Proofs.YtcfendilaogjlaaDoor
