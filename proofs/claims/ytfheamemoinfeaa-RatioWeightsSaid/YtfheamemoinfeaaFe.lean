/- The document's First; the law's examples (no statement of its own). -/
import Derived.Test.YtfheamemoinfeaaFd
namespace Go.Proofs.Ytfheamemoinfeaa
open Go.RowKit
open RtA
set_option linter.unusedVariables false
theorem least_is (f : Nat → Int) : ∀ n, 0 < n → ∃ j, j < n ∧ ∀ q, q < n → f j ≤ f q
  | 0, h => absurd h (Nat.lt_irrefl _)
  | 1, _ => ⟨0, by omega, fun q hq => by have : q = 0 := by omega
                                         subst this; exact Int.le_refl _⟩
  | n + 2, _ => by
    obtain ⟨j, hj, h⟩ := least_is f (n + 1) (by omega)
    by_cases c : f (n + 1) < f j
    · refine ⟨n + 1, by omega, fun q hq => ?_⟩
      by_cases e : q = n + 1
      · rw [e]; exact Int.le_refl _
      · have := h q (by omega); omega
    · refine ⟨j, by omega, fun q hq => ?_⟩
      by_cases e : q = n + 1
      · rw [e]; omega
      · exact h q (by omega)
theorem none_first {l : List Nat} (h : ∀ q, q < l.length → ∃ p, p < l.length ∧ kx (nthF l p) < kx (nthF l q)) : IsFirst l (-1) := by
  by_cases h0 : l.length = 0
  · exact .inl ⟨List.eq_nil_of_length_eq_zero h0, rfl⟩
  · obtain ⟨j, hj, h1⟩ := least_is (fun q => kx (nthF l q)) l.length (by omega)
    obtain ⟨p, hp, h2⟩ := h j hj
    have := h1 p hp
    omega
/-- None of the first q is ahead of that at k. -/
def BestT (l : List Nat) (k q : Nat) : Prop := ∀ p, p < q → ¬ kx (nthF l p) < kx (nthF l k)
theorem ahead_true {x y : Nat} (h : kx x < kx y) : ahead x y = true := decide_eq_true h
theorem ahead_false {x y : Nat} (h : ¬ kx x < kx y) : ahead x y = false := decide_eq_false h
def BB (l : List Nat) (k q : Nat) (v : Value) : Prop := (v = .bool true ∧ BestT l k q) ∨ (v = .bool false ∧ ∃ p, p < l.length ∧ kx (nthF l p) < kx (nthF l k))
set_option maxHeartbeats 1000000 in
theorem rfirst_any (A : Option Addr) (n c : Nat) (l : List Nat) (w : World) (hn : l.length = n) (hl : n ≤ 1000000) (hw : SrcF w A l) : Calls Try.prog 13 #[.slice A n c] w (FirstP l w) := by
  subst hn
  rcases hw with rfl | ⟨ad, rfl, hb, hc⟩
  · go_enter Try.func13, Try.ntmps13
    go_wp2
    go_loop [10] (fun i => i = .int .i64 0) (fun _ => 0)
    case atStart => exact rfl
    case round =>
      obtain rfl := hrel
      go_wp2
      go_ret
      exact ⟨_, rfl, .inl ⟨rfl, rfl⟩, rfl⟩
  · have HC := Lib.hid hc
    clear hc
    go_enter Try.func13, Try.ntmps13
    go_wp2
    go_loop [10] (fun i => ∃ k : Nat, k ≤ l.length ∧ i = .int .i64 (k : Int) ∧ ∀ q, q < k → ∃ p, p < l.length ∧ kx (nthF l p) < kx (nthF l q)) (fun i => l.length - (intOf i).toNat)
    case atStart => exact ⟨0, Nat.zero_le _, rfl, fun q hq => by omega⟩
    case round =>
      obtain ⟨k, hk, rfl, hf⟩ := hrel
      have HF := Lib.hid hf
      clear hf
      by_cases hlt : k < l.length
      · have ck := HC.out k hlt
        go_wp2
        go_loop [5, 17] (fun b i => ∃ q : Nat, q ≤ l.length ∧ i = .int .i64 (q : Int) ∧ BB l k q b) (fun _ i => l.length - (intOf i).toNat)
        case atStart => exact ⟨0, Nat.zero_le _, rfl, .inl ⟨rfl, fun p hp => by omega⟩⟩
        case round =>
          obtain ⟨q, hq, rfl, hbb⟩ := hrel
          by_cases hql : q < l.length
          · have cq := HC.out q hql
            rcases hbb with ⟨rfl, h1⟩ | ⟨rfl, h1⟩
            · have H1 := Lib.hid h1
              clear h1
              by_cases hx : kx (nthF l q) < kx (nthF l k)
              · have C := Lib.hid (rahead_any (nthF l q) (nthF l k))
                rw [ahead_true hx] at C
                have HX := Lib.hid hx
                clear hx
                go_wp2_with (go_at_call 10; refine (C.out _).mono ?_; rintro e w' ⟨rfl, rfl⟩)
                go_round
                case rel => exact ⟨q + 1, by omega, by go_num, .inr ⟨rfl, q, hql, HX.out⟩⟩
                case measure => simp [intOf]; omega
              · have C := Lib.hid (rahead_any (nthF l q) (nthF l k))
                rw [ahead_false hx] at C
                have HX := Lib.hid hx
                clear hx
                go_wp2_with (go_at_call 10; refine (C.out _).mono ?_; rintro e w' ⟨rfl, rfl⟩)
                go_round
                case rel =>
                  refine ⟨q + 1, by omega, by go_num, .inl ⟨rfl, fun p hp => ?_⟩⟩
                  by_cases e : p = q
                  · rw [e]; have := HX.out; omega
                  · exact H1.out p (by omega)
                case measure => simp [intOf]; omega
            · have H1 := Lib.hid h1
              clear h1
              go_wp2_with fail
              go_round
              case rel => exact ⟨q + 1, by omega, by go_num, .inr ⟨rfl, H1.out⟩⟩
              case measure => simp [intOf]; omega
          · have : q = l.length := by omega
            subst this
            rcases hbb with ⟨rfl, h1⟩ | ⟨rfl, h1⟩
            · have H1 := Lib.hid h1
              clear h1
              go_wp2_with fail
              go_ret
              refine ⟨_, rfl, .inr ⟨k, hlt, rfl, fun q hq => by have := H1.out q hq; omega, fun q hq => ?_⟩, rfl⟩
              obtain ⟨p, hp, h2⟩ := HF.out q hq
              have := H1.out p hp
              omega
            · have H1 := Lib.hid h1
              clear h1
              go_wp2_with fail
              go_round
              case rel =>
                refine ⟨k + 1, by omega, by go_num, fun q hq => ?_⟩
                by_cases e : q = k
                · rw [e]; exact H1.out
                · exact HF.out q (by omega)
              case measure => simp [intOf]; omega
      · have : k = l.length := by omega
        subst this
        go_wp2_with fail
        go_ret
        exact ⟨_, rfl, none_first HF.out, rfl⟩
theorem below_alloc (w : World) (o : Obj) : Below w.heap.size w (w.alloc o) := (Below.refl _ _).alloc (Nat.le_refl _) _
theorem below_of_grown {a b : World} (h : a.grownBy b none) : Below a.heap.size a b := ⟨h.os, h.tape, h.output, h.size, fun k hk => h.block k hk (by simp)⟩
theorem grown_refl (w : World) : w.grownBy w none := ⟨rfl, rfl, rfl, Nat.le_refl _, fun _ _ _ => rfl⟩
def exL : List Nat := [9221120237041090561, 4607182418800017408, 9223372036854775808, 0]
theorem ex_first {r : Int} (h : IsFirst exL r) : r = 2 := by
  refine h.uniq (.inr ⟨2, by decide, rfl, ?_, ?_⟩)
  · intro q hq
    have : q = 0 ∨ q = 1 ∨ q = 2 ∨ q = 3 := by simp [exL] at hq; omega
    rcases this with rfl | rfl | rfl | rfl <;> decide
  · intro q hq
    have : q = 0 ∨ q = 1 := by omega
    rcases this with rfl | rfl <;> decide
theorem fr_nan : ∀ r, FR .quo (floatOfInt .f64 0) 0 r → nan r = true := by
  intro r h
  have e : floatBits .quo .f64 (floatOfInt .f64 0) 0 = none := by decide +kernel
  have h2 := h.2
  rw [e] at h2
  exact h2
theorem grown_drewN {w w' : World} {row : Option Nat} (h : w.grownBy w' row) (n : Nat) : w.grownBy (w'.drewN n) row := ⟨h.os, h.tape, h.output, h.size, h.block⟩
set_option maxRecDepth 100000 in
theorem awake_any (w : World) : Calls Try.prog 9 #[] w fun e w' => e = .returned (.bool true) ∧ w.grownBy w' none := by
  have CF : Hid (∀ W : World, Calls Try.prog 12 #[.slice (some ⟨W.heap.size, 0, none⟩) 4 4] (W.alloc (.cells #[.float .f64 9221120237041090561, .float .f64 4607182418800017408, .float .f64 9223372036854775808, .float .f64 0] 24)) fun e w' => e = .returned (.int .i64 2) ∧ (W.alloc (.cells #[.float .f64 9221120237041090561, .float .f64 4607182418800017408, .float .f64 9223372036854775808, .float .f64 0] 24)) = w') := by
    apply Lib.hid
    intro W
    refine (ffirst_any (some ⟨W.heap.size, 0, none⟩) 4 4 exL _ rfl (by omega) (.inr ⟨_, rfl, ?_, ?_⟩)).mono ?_
    · show W.heap.size < (W.alloc _).heap.size
      simp
    · intro j hj
      rw [add_zero_off]
      have hc := heap_alloc_new W (.cells #[.float .f64 9221120237041090561, .float .f64 4607182418800017408, .float .f64 9223372036854775808, .float .f64 0] 24)
      rw [cell_of_row _ _ _ _ _ _ hc]
      have : j = 0 ∨ j = 1 ∨ j = 2 ∨ j = 3 := by simp [exL] at hj; omega
      rcases this with rfl | rfl | rfl | rfl <;> rfl
    · rintro e w' ⟨r, rfl, h1, rfl⟩
      rw [ex_first h1]
      exact ⟨rfl, rfl⟩
  go_enter Try.func9, Try.ntmps9
  go_wp2_with (go_at_call 14; refine (ratio_any _ _ _).mono ?_)
  rintro e w' ⟨r, m, rfl, h1, rfl⟩
  have h2 := ne_self r
  rw [fr_nan r h1] at h2
  clear h1
  go_wp2_with (first | (go_at_call 26; refine (mnan_any _).mono ?_; rintro e w' ⟨rfl, rfl⟩) | (go_at_call 27; refine (minus_any _).mono ?_; rintro e w' ⟨rfl, rfl⟩) | (go_at_call 12; refine (CF.out _).mono ?_; rintro e w' ⟨rfl, rfl⟩))
  go_ret
  exact ⟨rfl, (grown_drewN (grown_refl w) m).trans (World.grownBy_alloc _ _ none)⟩
end Go.Proofs.Ytfheamemoinfeaa
