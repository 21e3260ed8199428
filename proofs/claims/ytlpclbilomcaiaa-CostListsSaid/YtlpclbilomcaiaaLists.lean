/- Contracts of cost.allIn, cost.Sum and cost.Least over a slice of int64 that lies in memory (no statement of its own). Condition: at most 1000000 elements. -/
import Derived.Test.YtlpclbilomcaiaaDiff
namespace Go.Proofs.Ytlpclbilomcaiaa
open Go.RowKit
set_option linter.unusedVariables false
theorem clo_yes (a k : Int) (B : Nat) (w : World) (hc : w.cell? ⟨B, 0, none⟩ = some (.int .i64 k)) (h1 : 1 ≤ k) (h2 : k ≤ 2147483648) (h3 : 0 ≤ a) (h4 : a ≤ k) :
    Calls Try.prog 24 #[.int .i64 a, .pointer (some ⟨B, 0, none⟩)] w fun e w' => e = .returned (.bool false) ∧ w = w' := by
  go_enter Try.func24, Try.ntmps24
  go_wp2_with (go_at_call 14; refine (in_yes _ _ _ (by omega) (by omega) (by omega) (by omega)).mono ?_; rintro e w' ⟨rfl, rfl⟩)
  go_ret
  exact ⟨rfl, rfl⟩
theorem clo_no (a k : Int) (B : Nat) (w : World) (hc : w.cell? ⟨B, 0, none⟩ = some (.int .i64 k)) (h : a < 0 ∨ k < a) :
    Calls Try.prog 24 #[.int .i64 a, .pointer (some ⟨B, 0, none⟩)] w fun e w' => e = .returned (.bool true) ∧ w = w' := by
  have H := Lib.hid h
  clear h
  go_enter Try.func24, Try.ntmps24
  go_wp2_with (go_at_call 14; refine (in_no _ _ _ (.inr H.out)).mono ?_; rintro e w' ⟨rfl, rfl⟩)
  go_ret
  exact ⟨rfl, rfl⟩
def Row (w : World) (b off n : Nat) (z : Nat → Int) : Prop := ∀ i, i < n → w.cell? ⟨b, off + i, none⟩ = some (.int .i64 (z i))
theorem idx_none (b off n c B : Nat) (k : Int) (z : Nat → Int) (w : World) (hn : n ≤ 1000000) (hr : Row w b off n z) (hc : w.cell? ⟨B, 0, none⟩ = some (.int .i64 k))
    (h1 : 1 ≤ k) (h2 : k ≤ 2147483648) (hz : ∀ i, i < n → 0 ≤ z i ∧ z i ≤ k) :
    Calls Try.prog 25 #[.slice (some ⟨b, off, none⟩) n c, .func (.func 24) #[] #[.pointer (some ⟨B, 0, none⟩)]] w fun e w' => e = .returned (.int .i64 (-1)) ∧ w = w' := by
  have HZ := Lib.hid hz
  have HC := Lib.hid hc
  clear hz hc
  go_enter Try.func25, Try.ntmps25
  go_wp2_with fail
  go_loop [5, 8] (fun _ i => ∃ j : Nat, j ≤ n ∧ i = .int .i64 j) (fun _ i => n - (intOf i).toNat)
  case atStart => exact ⟨0, Nat.zero_le _, rfl⟩
  case round =>
    obtain ⟨j, hj, rfl⟩ := hrel
    by_cases hlt : j < n
    · have hcell := hr j hlt
      have hz := HZ.out j hlt
      generalize z j = x at hcell hz
      obtain ⟨hz1, hz2⟩ := hz
      go_wp2_with (go_at_call 24; refine (clo_yes _ k _ _ HC.out h1 h2 hz1 hz2).mono ?_; rintro e w' ⟨rfl, rfl⟩)
      go_round
      case rel => exact ⟨j + 1, by omega, by go_num⟩
      case measure => simp [intOf]; omega
    · go_wp2
      go_ret
      exact ⟨rfl, rfl⟩
theorem idx_some (b off n c B m : Nat) (k : Int) (z : Nat → Int) (w : World) (hn : n ≤ 1000000) (hr : Row w b off n z) (hc : w.cell? ⟨B, 0, none⟩ = some (.int .i64 k))
    (h1 : 1 ≤ k) (h2 : k ≤ 2147483648) (hm : m < n) (hz : z m < 0 ∨ k < z m) :
    Calls Try.prog 25 #[.slice (some ⟨b, off, none⟩) n c, .func (.func 24) #[] #[.pointer (some ⟨B, 0, none⟩)]] w fun e w' => (∃ r : Int, 0 ≤ r ∧ e = .returned (.int .i64 r)) ∧ w = w' := by
  have HZ := Lib.hid hz
  have HC := Lib.hid hc
  clear hz hc
  go_enter Try.func25, Try.ntmps25
  go_wp2_with fail
  go_loop [5, 8] (fun _ i => ∃ j : Nat, j ≤ m ∧ i = .int .i64 j) (fun _ i => n - (intOf i).toNat)
  case atStart => exact ⟨0, Nat.zero_le _, rfl⟩
  case round =>
    obtain ⟨j, hj, rfl⟩ := hrel
    have hlt : j < n := by omega
    have hcell := hr j hlt
    by_cases hb : z j < 0 ∨ k < z j
    · have HB := Lib.hid hb
      clear hb
      generalize z j = x at hcell HB
      go_wp2_with (go_at_call 24; refine (clo_no _ k _ _ HC.out HB.out).mono ?_; rintro e w' ⟨rfl, rfl⟩)
      go_ret
      exact ⟨⟨j, by omega, rfl⟩, rfl⟩
    · have hz1 : 0 ≤ z j := by omega
      have hz2 : z j ≤ k := by omega
      have hjm : j < m := by
        by_cases e : j = m
        · subst e; exact absurd HZ.out hb
        · omega
      clear hb
      generalize z j = x at hcell hz1 hz2
      go_wp2_with (go_at_call 24; refine (clo_yes _ k _ _ HC.out h1 h2 hz1 hz2).mono ?_; rintro e w' ⟨rfl, rfl⟩)
      go_round
      case rel => exact ⟨j + 1, by omega, by go_num⟩
      case measure => simp [intOf]; omega
theorem has_none (b off n c B : Nat) (k : Int) (z : Nat → Int) (w : World) (hn : n ≤ 1000000) (hr : Row w b off n z) (hc : w.cell? ⟨B, 0, none⟩ = some (.int .i64 k))
    (h1 : 1 ≤ k) (h2 : k ≤ 2147483648) (hz : ∀ i, i < n → 0 ≤ z i ∧ z i ≤ k) :
    Calls Try.prog 23 #[.slice (some ⟨b, off, none⟩) n c, .func (.func 24) #[] #[.pointer (some ⟨B, 0, none⟩)]] w fun e w' => e = .returned (.bool false) ∧ w = w' := by
  have C := Lib.hid (idx_none b off n c B k z w hn hr hc h1 h2 hz)
  clear hz hc hr
  go_enter Try.func23, Try.ntmps23
  go_wp2_with (go_at_call 25; refine C.out.mono ?_; rintro e w' ⟨rfl, rfl⟩)
  go_ret
  exact ⟨rfl, rfl⟩
theorem has_some (b off n c B m : Nat) (k : Int) (z : Nat → Int) (w : World) (hn : n ≤ 1000000) (hr : Row w b off n z) (hc : w.cell? ⟨B, 0, none⟩ = some (.int .i64 k))
    (h1 : 1 ≤ k) (h2 : k ≤ 2147483648) (hm : m < n) (hz : z m < 0 ∨ k < z m) :
    Calls Try.prog 23 #[.slice (some ⟨b, off, none⟩) n c, .func (.func 24) #[] #[.pointer (some ⟨B, 0, none⟩)]] w fun e w' => e = .returned (.bool true) ∧ w = w' := by
  have C := Lib.hid (idx_some b off n c B m k z w hn hr hc h1 h2 hm hz)
  clear hz hc hr
  go_enter Try.func23, Try.ntmps23
  go_wp2_with (go_at_call 25; refine C.out.mono ?_; rintro e w' ⟨⟨r, hr, rfl⟩, rfl⟩)
  go_ret
  exact ⟨ret_bool (by simp <;> omega), rfl⟩
theorem Row.below {w w' : World} {b off n : Nat} {z : Nat → Int} (h : Row w b off n z) (hb : b < w.heap.size) (hB : Below w.heap.size w w') : Row w' b off n z :=
  fun i hi => (hB.cell (p := ⟨b, off + i, none⟩) hb).trans (h i hi)
theorem all_wrong (s : Value) (k : Int) (w : World) (h : k < 1 ∨ 2147483648 < k) :
    Calls Try.prog 22 #[s, .int .i64 k] w fun e w' => e = .returned (.bool false) ∧ Below w.heap.size w w' := by
  have H := Lib.hid h
  clear h
  go_enter Try.func22, Try.ntmps22
  go_wp2_with (go_at_call 12; refine (right_no _ _ H.out).mono ?_; rintro e w' ⟨rfl, rfl⟩)
  go_ret
  exact ⟨rfl, (Below.refl _ _).alloc (Nat.le_refl _) _⟩
theorem all_yes (b off n c : Nat) (k : Int) (z : Nat → Int) (w : World) (hn : n ≤ 1000000) (hr : Row w b off n z) (hb : b < w.heap.size)
    (h1 : 1 ≤ k) (h2 : k ≤ 2147483648) (hz : ∀ i, i < n → 0 ≤ z i ∧ z i ≤ k) :
    Calls Try.prog 22 #[.slice (some ⟨b, off, none⟩) n c, .int .i64 k] w fun e w' => e = .returned (.bool true) ∧ Below w.heap.size w w' := by
  have hB : ∀ o, Below w.heap.size w (w.alloc o) := fun o => (Below.refl _ _).alloc (Nat.le_refl _) o
  have C := Lib.hid (fun o hc => has_none b off n c w.heap.size k z (w.alloc o) hn (hr.below hb (hB o)) hc h1 h2 hz)
  clear hz hr hB
  go_enter Try.func22, Try.ntmps22
  go_wp2_with fail
  refine (right_yes _ _ (by omega) (by omega)).mono ?_
  rintro e w' ⟨rfl, rfl⟩
  go_wp2_with fail
  refine (C.out _ (by go_simp)).mono ?_
  rintro e w' ⟨rfl, rfl⟩
  go_wp2
  go_ret
  exact ⟨rfl, (Below.refl _ _).alloc (Nat.le_refl _) _⟩
theorem all_no (b off n c m : Nat) (k : Int) (z : Nat → Int) (w : World) (hn : n ≤ 1000000) (hr : Row w b off n z) (hb : b < w.heap.size)
    (h1 : 1 ≤ k) (h2 : k ≤ 2147483648) (hm : m < n) (hz : z m < 0 ∨ k < z m) :
    Calls Try.prog 22 #[.slice (some ⟨b, off, none⟩) n c, .int .i64 k] w fun e w' => e = .returned (.bool false) ∧ Below w.heap.size w w' := by
  have hB : ∀ o, Below w.heap.size w (w.alloc o) := fun o => (Below.refl _ _).alloc (Nat.le_refl _) o
  have C := Lib.hid (fun o hc => has_some b off n c w.heap.size m k z (w.alloc o) hn (hr.below hb (hB o)) hc h1 h2 hm hz)
  clear hz hr hB
  go_enter Try.func22, Try.ntmps22
  go_wp2_with fail
  refine (right_yes _ _ (by omega) (by omega)).mono ?_
  rintro e w' ⟨rfl, rfl⟩
  go_wp2_with fail
  refine (C.out _ (by go_simp)).mono ?_
  rintro e w' ⟨rfl, rfl⟩
  go_wp2
  go_ret
  exact ⟨rfl, (Below.refl _ _).alloc (Nat.le_refl _) _⟩
/-- Not all are costs up to k. -/
def Wrongs (n : Nat) (z : Nat → Int) (k : Int) : Prop := (k < 1 ∨ 2147483648 < k) ∨ (1 ≤ k ∧ k ≤ 2147483648) ∧ ∃ m, m < n ∧ (z m < 0 ∨ k < z m)
theorem all_wrongs (b off n c : Nat) (k : Int) (z : Nat → Int) (w : World) (hn : n ≤ 1000000) (hr : Row w b off n z) (hb : b < w.heap.size) (h : Wrongs n z k) :
    Calls Try.prog 22 #[.slice (some ⟨b, off, none⟩) n c, .int .i64 k] w fun e w' => e = .returned (.bool false) ∧ Below w.heap.size w w' := by
  rcases h with h | ⟨⟨h1, h2⟩, m, hm, hz⟩
  · exact all_wrong _ _ _ h
  · exact all_no b off n c m k z w hn hr hb h1 h2 hm hz
theorem sum_no (b off n c : Nat) (k : Int) (z : Nat → Int) (w : World) (hn : n ≤ 1000000) (hr : Row w b off n z) (hb : b < w.heap.size) (h : Wrongs n z k) :
    Calls Try.prog 19 #[.slice (some ⟨b, off, none⟩) n c, .int .i64 k] w fun e w' => e = .returned (.tuple #[.int .i64 0, .int .i64 3]) ∧ Below w.heap.size w w' := by
  have C := Lib.hid (all_wrongs b off n c k z w hn hr hb h)
  clear h hr
  go_enter Try.func19, Try.ntmps19
  go_wp2_with (go_at_call 22; refine C.out.mono ?_; rintro e w' ⟨rfl, hB⟩)
  go_ret2
  exact ⟨rfl, hB⟩
theorem least_no (b off n c : Nat) (k : Int) (z : Nat → Int) (w : World) (hn : n ≤ 1000000) (hr : Row w b off n z) (hb : b < w.heap.size) (h : Wrongs n z k) :
    Calls Try.prog 20 #[.slice (some ⟨b, off, none⟩) n c, .int .i64 k] w fun e w' => e = .returned (.tuple #[.int .i64 0, .int .i64 3]) ∧ Below w.heap.size w w' := by
  have C := Lib.hid (all_wrongs b off n c k z w hn hr hb h)
  clear h hr
  go_enter Try.func20, Try.ntmps20
  go_wp2_with (go_at_call 22; refine C.out.mono ?_; rintro e w' ⟨rfl, hB⟩)
  go_ret2
  exact ⟨rfl, hB⟩
def sumTo (z : Nat → Int) (k : Int) : Nat → Int
  | 0 => 0
  | n + 1 => capI (sumTo z k n) (z n) k
def leastTo (z : Nat → Int) (k : Int) : Nat → Int
  | 0 => k
  | n + 1 => min (leastTo z k n) (z n)
theorem sumTo_bd (z : Nat → Int) (k : Int) (n : Nat) (h1 : 1 ≤ k) (hz : ∀ i, i < n → 0 ≤ z i ∧ z i ≤ k) : 0 ≤ sumTo z k n ∧ sumTo z k n ≤ k := by
  induction n with
  | zero => simp [sumTo]; omega
  | succ n ih =>
    obtain ⟨a, b⟩ := ih fun i hi => hz i (by omega)
    exact capI_bd _ _ _ a b (hz n (by omega)).1
theorem leastTo_bd (z : Nat → Int) (k : Int) (n : Nat) (h1 : 1 ≤ k) (hz : ∀ i, i < n → 0 ≤ z i ∧ z i ≤ k) : 0 ≤ leastTo z k n ∧ leastTo z k n ≤ k := by
  induction n with
  | zero => simp [leastTo]; omega
  | succ n ih =>
    obtain ⟨a, b⟩ := ih fun i hi => hz i (by omega)
    have := hz n (by omega)
    simp only [leastTo]; omega
theorem sum_yes (b off n c : Nat) (k : Int) (z : Nat → Int) (w : World) (hn : n ≤ 1000000) (hr : Row w b off n z) (hb : b < w.heap.size)
    (h1 : 1 ≤ k) (h2 : k ≤ 2147483648) (hz : ∀ i, i < n → 0 ≤ z i ∧ z i ≤ k) :
    Calls Try.prog 19 #[.slice (some ⟨b, off, none⟩) n c, .int .i64 k] w fun e w' => e = .returned (.tuple #[.int .i64 (sumTo z k n), .int .i64 0]) ∧ Below w.heap.size w w' := by
  have C := Lib.hid (all_yes b off n c k z w hn hr hb h1 h2 hz)
  have HZ := Lib.hid hz
  have HR := Lib.hid hr
  clear hr hz
  go_enter Try.func19, Try.ntmps19
  go_wp2_with (go_at_call 22; refine C.out.mono ?_; rintro e w1 ⟨rfl, hB⟩)
  have HR1 := Lib.hid (HR.out.below hb hB)
  go_loop [6, 8, 15] (fun s _ i => ∃ j : Nat, j ≤ n ∧ i = .int .i64 j ∧ s = .int .i64 (sumTo z k j)) (fun _ _ i => n - (intOf i).toNat)
  case atStart => exact ⟨0, Nat.zero_le _, rfl, rfl⟩
  case round =>
    obtain ⟨j, hj, rfl, rfl⟩ := hrel
    by_cases hlt : j < n
    · have hcell := HR1.out j hlt
      obtain ⟨hz1, hz2⟩ := HZ.out j hlt
      obtain ⟨hs1, hs2⟩ := sumTo_bd z k j h1 (fun i hi => HZ.out i (by omega))
      have hs := Lib.hid (show capI (sumTo z k j) (z j) k = sumTo z k (j + 1) from rfl)
      generalize z j = x at hcell hz1 hz2 hs
      generalize sumTo z k j = s at hs1 hs2 hs
      go_wp2_with (go_at_call 21; refine (capped_any _ _ _ _ h2 (by omega) (by omega) (by omega) (by omega)).mono ?_; rintro e w' ⟨rfl, rfl⟩)
      go_round
      case rel => exact ⟨j + 1, by omega, by go_num, by rw [hs.out]⟩
      case measure => simp [intOf]; omega
    · go_wp2
      go_ret2
      obtain rfl : j = n := by omega
      exact ⟨rfl, hB⟩
theorem least_yes (b off n c : Nat) (k : Int) (z : Nat → Int) (w : World) (hn : n ≤ 1000000) (hr : Row w b off n z) (hb : b < w.heap.size)
    (h1 : 1 ≤ k) (h2 : k ≤ 2147483648) (hz : ∀ i, i < n → 0 ≤ z i ∧ z i ≤ k) :
    Calls Try.prog 20 #[.slice (some ⟨b, off, none⟩) n c, .int .i64 k] w fun e w' => e = .returned (.tuple #[.int .i64 (leastTo z k n), .int .i64 0]) ∧ Below w.heap.size w w' := by
  have C := Lib.hid (all_yes b off n c k z w hn hr hb h1 h2 hz)
  have HZ := Lib.hid hz
  have HR := Lib.hid hr
  clear hr hz
  go_enter Try.func20, Try.ntmps20
  go_wp2_with (go_at_call 22; refine C.out.mono ?_; rintro e w1 ⟨rfl, hB⟩)
  have HR1 := Lib.hid (HR.out.below hb hB)
  go_loop [6, 8, 16] (fun s _ i => ∃ j : Nat, j ≤ n ∧ i = .int .i64 j ∧ s = .int .i64 (leastTo z k j)) (fun _ _ i => n - (intOf i).toNat)
  case atStart => exact ⟨0, Nat.zero_le _, rfl, rfl⟩
  case round =>
    obtain ⟨j, hj, rfl, rfl⟩ := hrel
    by_cases hlt : j < n
    · have hcell := HR1.out j hlt
      obtain ⟨hz1, hz2⟩ := HZ.out j hlt
      obtain ⟨hs1, hs2⟩ := leastTo_bd z k j h1 (fun i hi => HZ.out i (by omega))
      have hs := Lib.hid (show min (leastTo z k j) (z j) = leastTo z k (j + 1) from rfl)
      generalize z j = x at hcell hz1 hz2 hs
      generalize leastTo z k j = s at hs1 hs2 hs
      rcases Int.lt_trichotomy s x with hc | hc | hc
      · go_wp2
        go_round
        case rel => exact ⟨j + 1, by omega, by go_num, by rw [← hs.out]; exact congrArg _ (by omega)⟩
        case measure => simp [intOf]; omega
      · subst hc
        go_wp2
        go_round
        case rel => exact ⟨j + 1, by omega, by go_num, by rw [← hs.out]; exact congrArg _ (by omega)⟩
        case measure => simp [intOf]; omega
      · go_wp2
        go_round
        case rel => exact ⟨j + 1, by omega, by go_num, by rw [← hs.out]; exact congrArg _ (by omega)⟩
        case measure => simp [intOf]; omega
    · go_wp2
      go_ret2
      obtain rfl : j = n := by omega
      exact ⟨rfl, hB⟩
end Go.Proofs.Ytlpclbilomcaiaa
