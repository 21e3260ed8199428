/- Contracts of package shape's calls that ask for one place (no statement of its own). Conditions: at most six sizes, each of 0 to 32. -/
import Derived.Test.YtcfendilaogjlaaShA
namespace Go.Proofs.Ytcfendilaogjlaa
open Go.RowKit
set_option linter.unusedVariables false
theorem has_no (l : List Nat) (i : Int) (w : World) (h : i < 0 ∨ (l.length : Int) ≤ i) :
    Calls Try.prog 22 #[shV l, .int .i64 i] w fun e w' => e = .returned (.bool false) ∧ w' = w.alloc (shO l) := by
  rcases (by omega : i < 0 ∨ (0 ≤ i ∧ (l.length : Int) ≤ i)) with h | ⟨h, h'⟩
  · go_enter Try.func22, Try.ntmps22
    go_wp2
    go_ret
    exact ⟨rfl, rfl⟩
  · go_enter Try.func22, Try.ntmps22
    go_wp2
    go_ret
    exact ⟨ret_bool (by simp <;> omega), rfl⟩
theorem has_yes (l : List Nat) (i : Int) (w : World) (h0 : 0 ≤ i) (h : i < (l.length : Int)) :
    Calls Try.prog 22 #[shV l, .int .i64 i] w fun e w' => e = .returned (.bool true) ∧ w' = w.alloc (shO l) := by
  go_enter Try.func22, Try.ntmps22
  go_wp2
  go_ret
  exact ⟨ret_bool (by simp <;> omega), rfl⟩
theorem step_no (l : List Nat) (i : Int) (w : World) (h : i < 0 ∨ (l.length : Int) ≤ i) :
    Calls Try.prog 15 #[shV l, .int .i64 i] w fun e w' => e = .returned (.int .i64 0) ∧ Below w.heap.size w w' := by
  have H := Lib.hid (fun W => has_no l i W h)
  clear h
  go_enter Try.func15, Try.ntmps15
  go_wp2_with (go_at_call 22; refine (H.out _).mono ?_; rintro e w' ⟨rfl, rfl⟩)
  go_ret
  exact ⟨rfl, ((Below.refl _ _).alloc (Nat.le_refl _) _).alloc (by simp) _⟩
theorem Ints.drop {w : World} {g o : Nat} {l : List Nat} (h : Ints w (some ⟨g, o, none⟩) l) (k : Nat) : Ints w (some ⟨g, o + k, none⟩) (l.drop k) := by
  rcases h with rfl | ⟨g', o', e, hg, hc⟩
  · exact .inl (by simp)
  · injection e with e
    injection e with e1 e2
    subst e1 e2
    exact .inr ⟨_, _, rfl, hg, fun i hi => by rw [nth_drop, Nat.add_assoc]; exact hc (k + i) (by simp at hi; omega)⟩
theorem step_yes (l : List Nat) (i : Nat) (w : World) (h6 : l.length ≤ 6) (h32 : ∀ n ∈ l, n ≤ 32) (hi : i < l.length) :
    Calls Try.prog 15 #[shV l, .int .i64 (i : Int)] w fun e w' => e = .returned (.int .i64 (prodL (l.drop (i + 1)) : Nat)) ∧ Below w.heap.size w w' := by
  have H := Lib.hid (fun W => has_yes l i W (by omega) (by omega))
  have hb : Below (w.heap.size + 1) (w.alloc (shO l)) ((w.alloc (shO l)).alloc (shO l)) := (Below.refl _ _).alloc (by simp) _
  have hI := (new_sh w l h6).below hb (by simp)
  have P := Lib.hid (fun A n c hn hw => product_any A n c (l.drop (i + 1)) ((w.alloc (shO l)).alloc (shO l)) hn (by simp; omega) (fun n hn => h32 n (List.mem_of_mem_drop hn)) hw)
  have HI := Lib.hid hI
  clear hI hb h32
  have hi6 : i < 6 := by omega
  have hl6 : (l.length : Int) ≤ 6 := by omega
  have hil : (i : Int) + 1 ≤ (l.length : Int) := by omega
  have hi0 : 0 ≤ (i : Int) + 1 := by omega
  by_cases h5 : i = 5
  · subst h5
    have E : Hid (l.drop (5 + 1) = []) := Lib.hid (List.drop_eq_nil_of_le (by omega))
    have e6 : (6 : Int) ≤ (l.length : Int) := by omega
    clear hil hi0
    go_enter Try.func15, Try.ntmps15
    go_wp2_with (first | (go_at_call 22; refine (H.out _).mono ?_; rintro e w' ⟨rfl, rfl⟩) | (go_at_call 18; refine (P.out _ _ _ (by first | (simp; done) | (simp; omega)) (.inl E.out)).mono ?_; rintro e w' ⟨rfl, rfl⟩))
    go_ret
    exact ⟨rfl, ((Below.refl _ _).alloc (Nat.le_refl _) _).alloc (by simp) _⟩
  · have h5' : i < 5 := by omega
    go_enter Try.func15, Try.ntmps15
    go_wp2_with (first | (go_at_call 22; refine (H.out _).mono ?_; rintro e w' ⟨rfl, rfl⟩) | (go_at_call 18; refine (P.out _ _ _ (by simp) (HI.out.drop (i + 1))).mono ?_; rintro e w' ⟨rfl, rfl⟩))
    go_ret
    exact ⟨rfl, ((Below.refl _ _).alloc (Nat.le_refl _) _).alloc (by simp) _⟩
end Go.Proofs.Ytcfendilaogjlaa
