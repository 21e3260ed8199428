/- What is only read of weights: Len, has, the search of a run (no statement of its own). -/
import Derived.Test.YtfheamemoinfeaaHwa
namespace Go.Proofs.Ytfheamemoinfeaa
open Go.RowKit
open Go.Maps (Keyed)
open RtA
set_option linter.unusedVariables false
/-- What was answered; nothing turned but what was drawn. -/
def RetN (w : World) (v : Value) (e : Ending) (w' : World) : Prop := e = .returned v ∧ ∃ m, w' = w.drewN m
theorem endR_last {R : List Rn} {q : Nat} (h : R.length = q + 1) : (nthR R q).1 = endR R := by
  have hne : R ≠ [] := by intro e; subst e; simp at h
  have e := (List.dropLast_concat_getLast hne).symm
  have hl : R.dropLast.length = q := by simp [h]
  generalize R.dropLast = r at e hl
  generalize R.getLast hne = y at e
  subst e
  rw [endR_snoc, ← hl, nthR_last]
set_option maxRecDepth 100000 in
theorem wlen_any {P : Nat → Prop} {w : World} {b K : Nat} {X : List Nat} (h : WA P w b K X) (hK : K ≤ 100000) : Calls Try.prog 22 #[.pointer (some ⟨b, 0, none⟩)] w (RetN w (.int .i64 (X.length : Int))) := by
  obtain ⟨v1, m, v3, R, f, Bm, h1, h2, h3, h4, h5, h6, h7, h8, h9, h10, h11⟩ := h
  have c0 := h1.c0
  obtain ⟨n, hn⟩ : ∃ n, R.length = n := ⟨_, rfl⟩
  have hX := h5.len
  rcases n with _ | q
  · have hR := List.eq_nil_of_length_eq_zero hn
    subst hR
    rw [← hX, endR_nil]
    have hv : ∃ A c, v1 = .slice A 0 c := by obtain ⟨A, c, e, _⟩ := row_form h2; exact ⟨A, c, e⟩
    obtain ⟨A, c, rfl⟩ := hv
    clear h1 h2 h3 h4 h5 h10 h11 hX
    go_enter Try.func22, Try.ntmps22
    go_wp2_with fail
    go_ret
    exact ⟨rfl, 0, rfl⟩
  · rw [← hX, ← endR_last hn]
    obtain ⟨A, c, rfl, -, -, hA⟩ := row_form h2
    obtain ⟨g, rfl, hg⟩ := hA (by omega)
    have d0 := h2.at0 q (by omega)
    generalize (nthR R q).1 = x at *
    obtain ⟨n, hn1⟩ : ∃ n, n = q + 1 := ⟨_, rfl⟩
    rw [hn, ← hn1] at c0
    have hq : n ≤ 100000 := by omega
    have e1 : (n : Int) - 1 = (q : Int) := by omega
    have e2 : IntKind.i64.wrap (q : Int) = (q : Int) := IntWalk.i64_in _ (by omega)
    have e3 : ((n : Int) == 0) = false := by simp; omega
    have hqn : q < n := by omega
    clear h1 h2 h3 h4 h5 h10 h11 hX hn hA hn1
    go_enter Try.func22, Try.ntmps22
    go_wp2_with fail
    go_quiet (fail)
    go_wp2_with fail
    go_ret
    exact ⟨rfl, _, rfl⟩
theorem wlen_nil (w : World) : Calls Try.prog 22 #[.pointer none] w (RetN w (.int .i64 0)) := by
  go_enter Try.func22, Try.ntmps22
  go_wp2_with fail
  go_ret
  exact ⟨rfl, 0, rfl⟩
/-- Is there such a one? -/
def isIn (i : Int) (n : Nat) : Bool := decide (0 ≤ i) && decide (i < (n : Int))
theorem has_of {L : Nat} {V : Value} (i : Int) (w : World) (hl : ∀ W : World, Calls Try.prog 22 #[V] w (RetN w (.int .i64 (L : Int)))) : Calls Try.prog 32 #[V, .int .i64 i] w (RetN w (.bool (isIn i L))) := by
  have HL := Lib.hid (hl w)
  clear hl
  by_cases h0 : i < 0
  · have e : isIn i L = false := by simp [isIn]; omega
    rw [e]
    clear e
    go_enter Try.func32, Try.ntmps32
    go_wp2_with fail
    go_ret
    exact ⟨rfl, 0, rfl⟩
  · have h1 : 0 ≤ i := by omega
    have e : isIn i L = decide (i < (L : Int)) := by simp [isIn, h1]
    rw [e]
    clear e h0
    go_enter Try.func32, Try.ntmps32
    go_wp2_with (go_at_call 22; refine HL.out.mono ?_; rintro e w' ⟨rfl, m, rfl⟩)
    go_ret
    exact ⟨rfl, m, rfl⟩
theorem clos_any {w : World} {b g c m i : Nat} {v3 : Value} {R : List Rn} {j : Int} (qj qw : Addr) (hj : w.cell? qj = some (.int .i64 j)) (hw : w.cell? qw = some (.pointer (some ⟨b, 0, none⟩)))
    (h1 : Hd w b (.slice (some ⟨g, 0, none⟩) R.length c) m v3) (h2 : RowR w (.slice (some ⟨g, 0, none⟩) R.length c) R) (hi : i < R.length) :
    Calls Try.prog 35 #[.int .i64 (i : Int), .pointer (some qj), .pointer (some qw)] w (RetN w (.bool (decide (j < (nthR R i).1)))) := by
  have c0 := h1.c0
  have d0 := h2.at0 i hi
  generalize (nthR R i).1 = x at *
  generalize R.length = n at *
  clear h1 h2
  go_enter Try.func35, Try.ntmps35
  go_wp2_with fail
  go_quiet (fail)
  go_wp2_with fail
  go_ret
  exact ⟨rfl, _, rfl⟩
theorem hdn {w : World} {b m : Nat} {v1 v3 : Value} (h : Hd w b v1 m v3) (n : Nat) : Hd (w.drewN n) b v1 m v3 := h
theorem rown {w : World} {v : Value} {l : List Rn} (h : RowR w v l) (n : Nat) : RowR (w.drewN n) v l := h
/-- Where the search stops. -/
def FoundR (R : List Rn) (j : Int) (r : Nat) : Prop := r ≤ R.length ∧ (∀ q, q < r → (nthR R q).1 ≤ j) ∧ ∀ q, r ≤ q → q < R.length → j < (nthR R q).1
def SearchP (R : List Rn) (j : Int) (w : World) (e : Ending) (w' : World) : Prop := ∃ r : Nat, e = .returned (.int .i64 (r : Int)) ∧ FoundR R j r ∧ ∃ m, w' = w.drewN m
theorem ris_lt {R : List Rn} (h : R.Pairwise fun a b => a.1 < b.1) {i j : Nat} (hij : i < j) (hj : j < R.length) : (nthR R i).1 < (nthR R j).1 := by
  have := List.pairwise_iff_getElem.1 h i j (by omega) hj hij
  rw [nthR_get R i (by omega), nthR_get R j hj] at this
  exact this
set_option maxRecDepth 100000 in
theorem search_any {w : World} {b g c m n : Nat} {v3 : Value} {R : List Rn} {j : Int} (qj qw : Addr) (hj : w.cell? qj = some (.int .i64 j)) (hw : w.cell? qw = some (.pointer (some ⟨b, 0, none⟩)))
    (h1 : Hd w b (.slice (some ⟨g, 0, none⟩) R.length c) m v3) (h2 : RowR w (.slice (some ⟨g, 0, none⟩) R.length c) R) (hn : R.length = n) (hl : n ≤ 100000) (hr : R.Pairwise fun a b => a.1 < b.1) :
    Calls Try.prog 34 #[.int .i64 (n : Int), .func (.func 35) #[] #[.pointer (some qj), .pointer (some qw)]] w (SearchP R j w) := by
  have HC : Hid (∀ (k i : Nat), i < n → Calls Try.prog 35 #[.int .i64 (i : Int), .pointer (some qj), .pointer (some qw)] (w.drewN k) (RetN (w.drewN k) (.bool (decide (j < (nthR R i).1))))) :=
    Lib.hid fun k i hi => clos_any qj qw hj hw (hdn h1 k) (rown h2 k) (by omega)
  have HR := Lib.hid hr
  have HN := Lib.hid hn
  clear hj hw h1 h2 hr hn
  go_enter Try.func34, Try.ntmps34
  go_wp2_with fail
  go_loopw [5, 6] (fun lo hi wr => ∃ a z : Nat, lo = .int .i64 (a : Int) ∧ hi = .int .i64 (z : Int) ∧ a ≤ z ∧ z ≤ n ∧ (∀ q, q < a → (nthR R q).1 ≤ j) ∧ (∀ q, z ≤ q → q < n → j < (nthR R q).1) ∧ ∃ k, wr = w.drewN k) (fun lo hi _ => (intOf hi - intOf lo).toNat)
  case atStart => exact ⟨0, n, rfl, rfl, Nat.zero_le _, Nat.le_refl _, fun q hq => by omega, fun q h1 h2 => by omega, 0, rfl⟩
  case round =>
    obtain ⟨a, z, rfl, rfl, haz, hzn, hlo, hhi, k, rfl⟩ := hrel
    have HLO := Lib.hid hlo
    have HHI := Lib.hid hhi
    clear hlo hhi
    by_cases hlt : a < z
    · obtain ⟨h, hh⟩ : ∃ h, (a + z) / 2 = h := ⟨_, rfl⟩
      have hb : a ≤ h ∧ h < z := by omega
      have C := Lib.hid (HC.out k h (by omega))
      have e1 : ((a : Int) + (z : Int)) / 2 = (h : Int) := by omega
      have HH := Lib.hid hh
      clear hh
      by_cases hx : j < (nthR R h).1
      · rw [decide_eq_true hx] at C
        have HX := Lib.hid hx
        clear hx
        go_wp2_with fail
        refine C.out.mono ?_
        rintro e w' ⟨rfl, m2, rfl⟩
        go_wp2_with fail
        go_roundw
        case rel =>
          refine ⟨a, h, rfl, rfl, by omega, by omega, HLO.out, fun q h1 h2 => ?_, _, rfl⟩
          rcases Nat.lt_or_ge h q with h3 | h3
          · have := ris_lt HR.out h3 (by rw [HN.out]; exact h2); have := HX.out; omega
          · have : q = h := by omega
            rw [this]; exact HX.out
        case measure => simp [intOf]; omega
      · rw [decide_eq_false hx] at C
        have HX := Lib.hid hx
        clear hx
        go_wp2_with fail
        refine C.out.mono ?_
        rintro e w' ⟨rfl, m2, rfl⟩
        go_wp2_with fail
        go_roundw
        case rel =>
          refine ⟨h + 1, z, by go_num, rfl, by omega, by omega, fun q h1 => ?_, HHI.out, _, rfl⟩
          have hx := HX.out
          rcases Nat.lt_or_ge q h with h3 | h3
          · have := ris_lt HR.out h3 (by rw [HN.out]; omega); omega
          · have : q = h := by omega
            rw [this]; omega
        case measure => simp [intOf]; omega
    · have : a = z := by omega
      subst this
      go_wp2_with fail
      go_ret
      exact ⟨a, rfl, ⟨by rw [HN.out]; exact hzn, HLO.out, fun q h1 h2 => HHI.out q h1 (by rw [← HN.out]; exact h2)⟩, k, rfl⟩
end Go.Proofs.Ytfheamemoinfeaa
