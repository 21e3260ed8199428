/- Contracts of the sizes that tuples ask (no statement of its own). No condition. -/
import Derived.Test.YtliafkcogmpghaaTxa
import Derived.Test.YtliafkcogmpghaaUb
namespace Go.Proofs.Ytliafkcogmpghaa
open Go.RowKit
set_option linter.unusedVariables false
theorem wrong_yesU (x : Int) (w : World) (h : x < 1 ∨ 32 < x) : Calls Try.prog 31 #[.int .i64 x] w fun e w' => e = .returned (.bool true) ∧ w = w' := by
  rcases (by omega : x < 1 ∨ (1 ≤ x ∧ 32 < x)) with h | ⟨h, h'⟩
  · go_enter Try.func31, Try.ntmps31
    go_wp2
    go_ret
    exact ⟨rfl, rfl⟩
  · go_enter Try.func31, Try.ntmps31
    go_wp2
    go_ret
    exact ⟨ret_bool (by simp <;> omega), rfl⟩
theorem wrong_noU (x : Int) (w : World) (h1 : 1 ≤ x) (h2 : x ≤ 32) : Calls Try.prog 31 #[.int .i64 x] w fun e w' => e = .returned (.bool false) ∧ w = w' := by
  go_enter Try.func31, Try.ntmps31
  go_wp2
  go_ret
  exact ⟨ret_bool (by simp <;> omega), rfl⟩
theorem index_noneU (A : Option Addr) (n c : Nat) (z : Nat → Int) (w : World) (hn : n ≤ 1000000) (hr : Zs w A n z) (hz : ∀ i, i < n → 1 ≤ z i ∧ z i ≤ 32) :
    Calls Try.prog 50 #[.slice A n c, .func (.func 31) #[] #[]] w fun e w' => e = .returned (.int .i64 (-1)) ∧ w = w' := by
  have HZ := Lib.hid hz
  have HR := Lib.hid hr
  clear hz hr
  go_enter Try.func50, Try.ntmps50
  go_wp2_with fail
  go_loop [5, 8] (fun _ i => ∃ j : Nat, j ≤ n ∧ i = .int .i64 j) (fun _ i => n - (intOf i).toNat)
  case atStart => exact ⟨0, Nat.zero_le _, rfl⟩
  case round =>
    obtain ⟨j, hj, rfl⟩ := hrel
    by_cases hlt : j < n
    · obtain ⟨g, o, rfl, hcell⟩ := HR.out.at_ hlt
      have hz := HZ.out j hlt
      generalize z j = x at hcell hz
      obtain ⟨hz1, hz2⟩ := hz
      go_wp2_with (go_at_call 31; refine (wrong_noU _ _ hz1 hz2).mono ?_; rintro e w' ⟨rfl, rfl⟩)
      go_round
      case rel => exact ⟨j + 1, by omega, by go_num⟩
      case measure => simp [intOf]; omega
    · go_wp2
      go_ret
      exact ⟨rfl, rfl⟩
theorem index_someU (A : Option Addr) (n c p : Nat) (z : Nat → Int) (w : World) (hn : n ≤ 1000000) (hr : Zs w A n z) (hp : p < n) (hq : ∀ i, i < p → 1 ≤ z i ∧ z i ≤ 32) (hz : z p < 1 ∨ 32 < z p) :
    Calls Try.prog 50 #[.slice A n c, .func (.func 31) #[] #[]] w fun e w' => e = .returned (.int .i64 p) ∧ w = w' := by
  have HZ := Lib.hid hz
  have HQ := Lib.hid hq
  have HR := Lib.hid hr
  clear hz hq hr
  go_enter Try.func50, Try.ntmps50
  go_wp2_with fail
  go_loop [5, 8] (fun _ i => ∃ j : Nat, j ≤ p ∧ i = .int .i64 j) (fun _ i => n - (intOf i).toNat)
  case atStart => exact ⟨0, Nat.zero_le _, rfl⟩
  case round =>
    obtain ⟨j, hj, rfl⟩ := hrel
    have hlt : j < n := by omega
    obtain ⟨g, o, rfl, hcell⟩ := HR.out.at_ hlt
    by_cases e : j = p
    · have HX : Hid (z j < 1 ∨ 32 < z j) := Lib.hid (by rw [e]; exact HZ.out)
      have HE := Lib.hid e
      clear e
      generalize z j = x at hcell HX
      go_wp2_with (go_at_call 31; refine (wrong_yesU _ _ HX.out).mono ?_; rintro e w' ⟨rfl, rfl⟩)
      go_ret
      exact ⟨ret_int (by rw [HE.out]), rfl⟩
    · have hz := HQ.out j (by omega)
      have hjp : j + 1 ≤ p := by omega
      clear e
      generalize z j = x at hcell hz
      obtain ⟨hz1, hz2⟩ := hz
      go_wp2_with (go_at_call 31; refine (wrong_noU _ _ hz1 hz2).mono ?_; rintro e w' ⟨rfl, rfl⟩)
      go_round
      case rel => exact ⟨j + 1, by omega, by go_num⟩
      case measure => simp [intOf]; omega
theorem contains_noU (A : Option Addr) (n c : Nat) (z : Nat → Int) (w : World) (hn : n ≤ 1000000) (hr : Zs w A n z) (hz : ∀ i, i < n → 1 ≤ z i ∧ z i ≤ 32) :
    Calls Try.prog 30 #[.slice A n c, .func (.func 31) #[] #[]] w fun e w' => e = .returned (.bool false) ∧ w = w' := by
  have H := Lib.hid (index_noneU A n c z w hn hr hz)
  clear hr hz
  go_enter Try.func30, Try.ntmps30
  go_wp2_with (go_at_call 50; refine H.out.mono ?_; rintro e w' ⟨rfl, rfl⟩)
  go_ret
  exact ⟨rfl, rfl⟩
theorem contains_yesU (A : Option Addr) (n c p : Nat) (z : Nat → Int) (w : World) (hn : n ≤ 1000000) (hr : Zs w A n z) (hp : p < n) (hz : z p < 1 ∨ 32 < z p) :
    Calls Try.prog 30 #[.slice A n c, .func (.func 31) #[] #[]] w fun e w' => e = .returned (.bool true) ∧ w = w' := by
  have H : Hid (∃ q : Nat, Calls Try.prog 50 #[.slice A n c, .func (.func 31) #[] #[]] w fun e w' => e = .returned (.int .i64 q) ∧ w = w') := by
    rcases first_at (fun i => z i < 1 ∨ 32 < z i) n with h | ⟨q, h1, h2, h3⟩
    · exact absurd hz (h p hp)
    · exact Lib.hid ⟨q, index_someU A n c q z w hn hr h1 (fun i hi => by have := h2 i hi; omega) h3⟩
  clear hr hz
  obtain ⟨q, hq⟩ := H.out
  have HQ := Lib.hid hq
  clear hq H
  have h0 : 0 ≤ (q : Int) := by omega
  go_enter Try.func30, Try.ntmps30
  go_wp2_with (go_at_call 50; refine HQ.out.mono ?_; rintro e w' ⟨rfl, rfl⟩)
  go_ret
  exact ⟨ret_bool (by simp <;> omega), rfl⟩
theorem tpnew_arg (A : Option Addr) (n c p : Nat) (z : Nat → Int) (k o : Int) (w : World) (hr : Zs w A n z) (h8 : n ≤ 8) (h : Bad n p z) :
    Calls Try.prog 9 #[.slice A n c, .int .i64 k, .int .i64 o] w fun e w' => e = .returned (.tuple #[.pointer none, .int .i64 1]) ∧ Below w.heap.size w w' := by
  rcases h with h6 | ⟨h6, h1, h2, h3⟩
  · have i1 : (6 : Int) < (n : Int) := by omega
    go_enter Try.func9, Try.ntmps9
    go_wp2_with fail
    go_ret2
    exact ⟨rfl, Below.refl _ _⟩
  · have i1 : ¬ ((6 : Int) < (n : Int)) := by omega
    have HC := Lib.hid (contains_yesU A n c p z w (by omega) hr h1 h3)
    clear hr h2 h3
    go_enter Try.func9, Try.ntmps9
    go_wp2_with fail
    refine HC.out.mono ?_
    rintro e w' ⟨rfl, rfl⟩
    go_wp2_with fail
    go_ret2
    exact ⟨rfl, Below.refl _ _⟩
theorem tpnew_range (A : Option Addr) (n c : Nat) (l : List Nat) (k o : Int) (w : World) (hn : n = l.length) (h6 : l.length ≤ 6) (hr : Ints w A l) (hl : ∀ n ∈ l, 1 ≤ n ∧ n ≤ 32) (hx : ¬ InK o k) :
    Calls Try.prog 9 #[.slice A n c, .int .i64 k, .int .i64 o] w fun e w' => e = .returned (.tuple #[.pointer none, .int .i64 3]) ∧ Below w.heap.size w w' := by
  have i1 : ¬ ((6 : Int) < (n : Int)) := by omega
  have HC := Lib.hid (contains_noU A n c _ w (by omega) (by rw [hn]; exact hr.zs) (fun i hi => by have := hl _ (nth_mem (l := l) (i := i) (by omega)); omega))
  have HX := Lib.hid hx
  clear hn hr hl hx
  go_enter Try.func9, Try.ntmps9
  go_wp2_with fail
  refine HC.out.mono ?_
  rintro e w' ⟨rfl, rfl⟩
  go_wp2_with fail
  refine (in_refused _ _ _ HX.out).mono ?_
  rintro e w' ⟨rfl, rfl⟩
  go_wp2_with fail
  go_ret2
  exact ⟨rfl, Below.refl _ _⟩
theorem tpnew_ok (A : Option Addr) (n c : Nat) (l : List Nat) (k o : Int) (w : World) (hn : n = l.length) (h6 : l.length ≤ 6) (hr : Ints w A l) (hl : ∀ n ∈ l, 1 ≤ n ∧ n ≤ 32) (hx : InK o k) :
    Calls Try.prog 9 #[.slice A n c, .int .i64 k, .int .i64 o] w fun e w' => (∃ g b A' c', e = .returned (.tuple #[.pointer (some ⟨g, 0, none⟩), .int .i64 0]) ∧ TpAt w' g b A' c' 0 l k o (fun _ => o) ∧ w.heap.size ≤ g ∧ w.heap.size ≤ b) ∧ Below w.heap.size w w' := by
  have i1 : ¬ ((6 : Int) < (n : Int)) := by omega
  have HC := Lib.hid (contains_noU A n c _ w (by omega) (by rw [hn]; exact hr.zs) (fun i hi => by have := hl _ (nth_mem (l := l) (i := i) (by omega)); omega))
  have HK := Lib.hid (clone_any' A n c l w hn (by omega) hr)
  have HX := Lib.hid hx
  have HN := Lib.hid hn
  have hmm := @run_makeMap Try.prog
  clear hn hr hl hx
  go_enter Try.func9, Try.ntmps9
  go_wp2_with fail
  refine HC.out.mono ?_
  rintro e w' ⟨rfl, rfl⟩
  go_wp2_with fail
  refine (in_yes _ _ _ HX.out.1 HX.out.2.1 HX.out.2.2.1 HX.out.2.2.2).mono ?_
  rintro e w' ⟨rfl, rfl⟩
  go_wp2_with fail
  refine HK.out.mono ?_
  rintro e w1 ⟨⟨v, rfl, hO⟩, b1⟩
  obtain ⟨A', c', rfl, hI⟩ := hO.form
  have hcap := own_cap hO
  rw [← HN.out]
  have H1 := Lib.hid hI
  have B1 := Lib.hid b1
  clear hO hI b1
  go_wp2_with fail
  go_ret2
  have e := HN.out
  subst e
  have r := heap_alloc_new (w1.alloc (.map #[] 0)) (.cells #[.slice A' l.length c', .int .i64 k, .int .i64 o, .map (some w1.heap.size)] 71)
  rw [World.size_alloc] at r
  have n1 := new_val w1 (.map #[] 0)
  have n2 := new_val (w1.alloc (.map #[] 0)) (.cells #[.slice A' l.length c', .int .i64 k, .int .i64 o, .map (some w1.heap.size)] 71)
  have hs := B1.out.size
  exact ⟨⟨w1.heap.size + 1, w1.heap.size, A', c', rfl, ⟨r, (H1.out.below n1 (Nat.le_refl _)).below n2 (Nat.le_refl _), hcap, .map [], (World.ownsMap_made w1 _ _ _).kept (grown_of_below n2) (by simp), repF_empty l o⟩, by omega, hs⟩, then_ (then_ B1.out n1) n2⟩
end Go.Proofs.Ytliafkcogmpghaa
