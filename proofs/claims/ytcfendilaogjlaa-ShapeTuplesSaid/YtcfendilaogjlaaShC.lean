/- Contracts of shape.New (no statement of its own). Condition: of a list that comes in, at most 1000000 sizes. -/
import Derived.Test.YtcfendilaogjlaaShB
namespace Go.Proofs.Ytcfendilaogjlaa
open Go.RowKit
set_option linter.unusedVariables false
/-- A slice that begins at A holds the integers z of the first n places. -/
def Zs (w : World) (A : Option Addr) (n : Nat) (z : Nat → Int) : Prop :=
  n = 0 ∨ ∃ g o, A = some ⟨g, o, none⟩ ∧ g < w.heap.size ∧ ∀ i, i < n → w.cell? ⟨g, o + i, none⟩ = some (.int .i64 (z i))
theorem Zs.below {w w' : World} {A : Option Addr} {n : Nat} {z : Nat → Int} {B : Nat} (h : Zs w A n z) (hb : Below B w w') (hB : w.heap.size ≤ B) : Zs w' A n z := by
  rcases h with rfl | ⟨g, o, rfl, hg, hc⟩
  · exact .inl rfl
  · exact .inr ⟨g, o, rfl, by have := hb.size; omega, fun i hi => (hb.cell (p := ⟨g, o + i, none⟩) (by show g < B; omega)).trans (hc i hi)⟩
theorem Zs.at_ {w : World} {A : Option Addr} {n : Nat} {z : Nat → Int} (h : Zs w A n z) {i : Nat} (hi : i < n) : ∃ g o, A = some ⟨g, o, none⟩ ∧ w.cell? ⟨g, o + i, none⟩ = some (.int .i64 (z i)) := by
  rcases h with rfl | ⟨g, o, rfl, hg, hc⟩
  · exact absurd hi (by simp)
  · exact ⟨g, o, rfl, hc i hi⟩
theorem Ints.zs {w : World} {A : Option Addr} {l : List Nat} (h : Ints w A l) : Zs w A l.length (fun i => (nth l i : Int)) := by
  rcases h with rfl | ⟨g, o, rfl, hg, hc⟩
  · exact .inl rfl
  · exact .inr ⟨g, o, rfl, hg, hc⟩
theorem wrong_yes (x : Int) (w : World) (h : x < 1 ∨ 32 < x) : Calls Try.prog 17 #[.int .i64 x] w fun e w' => e = .returned (.bool true) ∧ w = w' := by
  rcases (by omega : x < 1 ∨ (1 ≤ x ∧ 32 < x)) with h | ⟨h, h'⟩
  · go_enter Try.func17, Try.ntmps17
    go_wp2
    go_ret
    exact ⟨rfl, rfl⟩
  · go_enter Try.func17, Try.ntmps17
    go_wp2
    go_ret
    exact ⟨ret_bool (by simp <;> omega), rfl⟩
theorem wrong_no (x : Int) (w : World) (h1 : 1 ≤ x) (h2 : x ≤ 32) : Calls Try.prog 17 #[.int .i64 x] w fun e w' => e = .returned (.bool false) ∧ w = w' := by
  go_enter Try.func17, Try.ntmps17
  go_wp2
  go_ret
  exact ⟨ret_bool (by simp <;> omega), rfl⟩
theorem first_at (q : Nat → Prop) (m : Nat) : (∀ i, i < m → ¬ q i) ∨ ∃ p, p < m ∧ (∀ i, i < p → ¬ q i) ∧ q p := by
  induction m with
  | zero => exact .inl fun i hi => absurd hi (by omega)
  | succ m ih =>
    rcases ih with h | ⟨p, hp, h1, h2⟩
    · by_cases hb : q m
      · exact .inr ⟨m, by omega, h, hb⟩
      · refine .inl fun i hi => ?_
        by_cases e : i = m
        · subst e; exact hb
        · exact h i (by omega)
    · exact .inr ⟨p, by omega, h1, h2⟩
theorem index_none (A : Option Addr) (n c : Nat) (z : Nat → Int) (w : World) (hn : n ≤ 1000000) (hr : Zs w A n z) (hz : ∀ i, i < n → 1 ≤ z i ∧ z i ≤ 32) :
    Calls Try.prog 23 #[.slice A n c, .func (.func 17) #[] #[]] w fun e w' => e = .returned (.int .i64 (-1)) ∧ w = w' := by
  have HZ := Lib.hid hz
  have HR := Lib.hid hr
  clear hz hr
  go_enter Try.func23, Try.ntmps23
  go_wp2_with fail
  go_loop [5, 8] (fun _ i => ∃ j : Nat, j ≤ n ∧ i = .int .i64 j) (fun _ i => n - (intOf i).toNat)
  case atStart => exact ⟨0, Nat.zero_le _, rfl⟩
  case round =>
    obtain ⟨j, hj, rfl⟩ := hrel
    by_cases hlt : j < n
    · obtain ⟨g, o, rfl, hcell⟩ := HR.out.at_ hlt
      have hz := HZ.out j hlt
      generalize z j = x at hcell hz
      obtain ⟨hz1, hz2⟩ := hz
      go_wp2_with (go_at_call 17; refine (wrong_no _ _ hz1 hz2).mono ?_; rintro e w' ⟨rfl, rfl⟩)
      go_round
      case rel => exact ⟨j + 1, by omega, by go_num⟩
      case measure => simp [intOf]; omega
    · go_wp2
      go_ret
      exact ⟨rfl, rfl⟩
theorem index_some (A : Option Addr) (n c p : Nat) (z : Nat → Int) (w : World) (hn : n ≤ 1000000) (hr : Zs w A n z) (hp : p < n) (hq : ∀ i, i < p → 1 ≤ z i ∧ z i ≤ 32) (hz : z p < 1 ∨ 32 < z p) :
    Calls Try.prog 23 #[.slice A n c, .func (.func 17) #[] #[]] w fun e w' => e = .returned (.int .i64 p) ∧ w = w' := by
  have HZ := Lib.hid hz
  have HQ := Lib.hid hq
  have HR := Lib.hid hr
  clear hz hq hr
  go_enter Try.func23, Try.ntmps23
  go_wp2_with fail
  go_loop [5, 8] (fun _ i => ∃ j : Nat, j ≤ p ∧ i = .int .i64 j) (fun _ i => n - (intOf i).toNat)
  case atStart => exact ⟨0, Nat.zero_le _, rfl⟩
  case round =>
    obtain ⟨j, hj, rfl⟩ := hrel
    have hlt : j < n := by omega
    obtain ⟨g, o, rfl, hcell⟩ := HR.out.at_ hlt
    by_cases e : j = p
    · have HX : Hid (z j < 1 ∨ 32 < z j) := Lib.hid (by rw [e]; exact HZ.out)
      have HE := Lib.hid e
      clear e
      generalize z j = x at hcell HX
      go_wp2_with (go_at_call 17; refine (wrong_yes _ _ HX.out).mono ?_; rintro e w' ⟨rfl, rfl⟩)
      go_ret
      exact ⟨ret_int (by rw [HE.out]), rfl⟩
    · have hz := HQ.out j (by omega)
      have hjp : j + 1 ≤ p := by omega
      clear e
      generalize z j = x at hcell hz
      obtain ⟨hz1, hz2⟩ := hz
      go_wp2_with (go_at_call 17; refine (wrong_no _ _ hz1 hz2).mono ?_; rintro e w' ⟨rfl, rfl⟩)
      go_round
      case rel => exact ⟨j + 1, by omega, by go_num⟩
      case measure => simp [intOf]; omega
theorem contains_no (A : Option Addr) (n c : Nat) (z : Nat → Int) (w : World) (hn : n ≤ 1000000) (hr : Zs w A n z) (hz : ∀ i, i < n → 1 ≤ z i ∧ z i ≤ 32) :
    Calls Try.prog 16 #[.slice A n c, .func (.func 17) #[] #[]] w fun e w' => e = .returned (.bool false) ∧ w = w' := by
  have H := Lib.hid (index_none A n c z w hn hr hz)
  clear hr hz
  go_enter Try.func16, Try.ntmps16
  go_wp2_with (go_at_call 23; refine H.out.mono ?_; rintro e w' ⟨rfl, rfl⟩)
  go_ret
  exact ⟨rfl, rfl⟩
theorem contains_yes (A : Option Addr) (n c p : Nat) (z : Nat → Int) (w : World) (hn : n ≤ 1000000) (hr : Zs w A n z) (hp : p < n) (hz : z p < 1 ∨ 32 < z p) :
    Calls Try.prog 16 #[.slice A n c, .func (.func 17) #[] #[]] w fun e w' => e = .returned (.bool true) ∧ w = w' := by
  have H : Hid (∃ q : Nat, Calls Try.prog 23 #[.slice A n c, .func (.func 17) #[] #[]] w fun e w' => e = .returned (.int .i64 q) ∧ w = w') := by
    rcases first_at (fun i => z i < 1 ∨ 32 < z i) n with h | ⟨q, h1, h2, h3⟩
    · exact absurd hz (h p hp)
    · exact Lib.hid ⟨q, index_some A n c q z w hn hr h1 (fun i hi => by have := h2 i hi; omega) h3⟩
  clear hr hz
  obtain ⟨q, hq⟩ := H.out
  have HQ := Lib.hid hq
  clear hq H
  have h0 : 0 ≤ (q : Int) := by omega
  go_enter Try.func16, Try.ntmps16
  go_wp2_with (go_at_call 23; refine HQ.out.mono ?_; rintro e w' ⟨rfl, rfl⟩)
  go_ret
  exact ⟨ret_bool (by simp <;> omega), rfl⟩
end Go.Proofs.Ytcfendilaogjlaa
