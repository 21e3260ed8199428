/- Contract of the order of keys (no statement of its own). No condition. -/
import Derived.Test.YteocbgcgfllieaaGreatDoorMgT
import Derived.Shelf.SlSortCmp.WholeK
namespace Go.Proofs.YteocbgcgfllieaaGreatDoor
open Go.RowKit Go.Shelf Go.Sort Go.Lib
set_option linter.unusedVariables false
def cmp2 (a b : Int) : Int := if a < b then -1 else if b < a then 1 else 0
theorem nan_no (a : Int) (w : World) : Calls Tryz.prog 144 #[.int .i64 a] w fun e w' => e = .returned (.bool false) ∧ w = w' := by
  have d : (a != a) = false := by simp
  go_enter Tryz.func144, Tryz.ntmps144
  go_wp2_with fail
  go_ret
  exact ⟨rfl, rfl⟩
theorem compare_int (a b : Int) (w : World) : Calls Tryz.prog 119 #[.int .i64 a, .int .i64 b] w fun e w' => e = .returned (.int .i64 (cmp2 a b)) ∧ w = w' := by
  unfold cmp2
  rcases (by omega : a < b ∨ (¬ a < b ∧ b < a) ∨ (¬ a < b ∧ ¬ b < a)) with h | ⟨h, h'⟩ | ⟨h, h'⟩
  · rw [if_pos h]
    go_enter Tryz.func119, Tryz.ntmps119
    go_wp2_with (go_at_call 144; refine (nan_no _ _).mono ?_; rintro e w' ⟨rfl, rfl⟩)
    go_ret
    exact ⟨rfl, rfl⟩
  · rw [if_neg h, if_pos h']
    go_enter Tryz.func119, Tryz.ntmps119
    go_wp2_with (go_at_call 144; refine (nan_no _ _).mono ?_; rintro e w' ⟨rfl, rfl⟩)
    go_ret
    exact ⟨rfl, rfl⟩
  · rw [if_neg h, if_neg h']
    go_enter Tryz.func119, Tryz.ntmps119
    go_wp2_with (go_at_call 144; refine (nan_no _ _).mono ?_; rintro e w' ⟨rfl, rfl⟩)
    go_ret
    exact ⟨rfl, rfl⟩
/-- Two lists of numbers, place by place: n places from i on. -/
def cmpF (s t : List Nat) : Nat → Nat → Int
  | _, 0 => 0
  | i, n + 1 => if cmp2 (nth s i) (nth t i) ≠ 0 then cmp2 (nth s i) (nth t i) else cmpF s t (i + 1) n
def cmpK (s t : List Nat) : Int := cmpF s t 0 6
theorem cmpF_lt (s t : List Nat) (i n : Nat) : cmpF s t i (n + 1) < 0 ↔ nth s i < nth t i ∨ (nth s i = nth t i ∧ cmpF s t (i + 1) n < 0) := by
  show (if cmp2 (nth s i) (nth t i) ≠ 0 then cmp2 (nth s i) (nth t i) else cmpF s t (i + 1) n) < 0 ↔ _
  unfold cmp2
  rcases Nat.lt_trichotomy (nth s i) (nth t i) with h | h | h
  · rw [if_pos (by rw [if_pos (by omega)]; omega), if_pos (by omega)]
    exact ⟨fun _ => .inl h, fun _ => by omega⟩
  · rw [if_neg (by rw [if_neg (by omega), if_neg (by omega)]; omega)]
    exact ⟨fun h' => .inr ⟨h, h'⟩, fun h' => by rcases h' with h' | ⟨_, h'⟩; omega; exact h'⟩
  · rw [if_pos (by rw [if_neg (by omega), if_pos (by omega)]; omega), if_neg (by omega), if_pos (by omega)]
    exact ⟨fun h' => by omega, fun h' => by omega⟩
theorem cmpF_irrefl (s : List Nat) : ∀ n i, ¬ cmpF s s i n < 0
  | 0, i => by show ¬ ((0 : Int) < 0); omega
  | n + 1, i => by
    rw [cmpF_lt]
    have := cmpF_irrefl s n (i + 1)
    omega
theorem cmpF_trans (s t u : List Nat) : ∀ n i, cmpF s t i n < 0 → cmpF t u i n < 0 → cmpF s u i n < 0
  | 0, i, h, _ => h
  | n + 1, i, h1, h2 => by
    rw [cmpF_lt] at *
    rcases h1 with h1 | ⟨e1, h1⟩ <;> rcases h2 with h2 | ⟨e2, h2⟩
    · left; omega
    · left; omega
    · left; omega
    · right; exact ⟨by omega, cmpF_trans s t u n (i + 1) h1 h2⟩
theorem cmpF_ntrans (s t u : List Nat) : ∀ n i, ¬ cmpF s t i n < 0 → ¬ cmpF t u i n < 0 → ¬ cmpF s u i n < 0
  | 0, i, h, _ => h
  | n + 1, i, h1, h2 => by
    rw [cmpF_lt] at *
    rintro (h | ⟨e, h⟩)
    · omega
    · have h3 : nth s i = nth t i := by omega
      have h4 : nth t i = nth u i := by omega
      exact cmpF_ntrans s t u n (i + 1) (fun h' => h1 (.inr ⟨h3, h'⟩)) (fun h' => h2 (.inr ⟨h4, h'⟩)) h
theorem ltOf_cmpK (s t : List Nat) : ltOf cmpK s t = decide (cmpF s t 0 6 < 0) := rfl
theorem swoK : SWO (ltOf cmpK) where
  irrefl s := by rw [ltOf_cmpK]; exact decide_eq_false (cmpF_irrefl s 6 0)
  trans s t u h1 h2 := by
    rw [ltOf_cmpK] at *
    exact decide_eq_true (cmpF_trans s t u 6 0 (of_decide_eq_true h1) (of_decide_eq_true h2))
  ntrans s t u h1 h2 := by
    rw [ltOf_cmpK] at *
    exact decide_eq_false (cmpF_ntrans s t u 6 0 (of_decide_eq_false h1) (of_decide_eq_false h2))
theorem cmpF_cons (a b : Nat) (s t : List Nat) : ∀ n i, cmpF (a :: s) (b :: t) (i + 1) n = cmpF s t i n
  | 0, i => rfl
  | n + 1, i => by
    show (if cmp2 (nth (a :: s) (i + 1)) (nth (b :: t) (i + 1)) ≠ 0 then _ else cmpF (a :: s) (b :: t) (i + 1 + 1) n) = (if cmp2 (nth s i) (nth t i) ≠ 0 then _ else cmpF s t (i + 1) n)
    rw [cmpF_cons a b s t n (i + 1)]
    rfl
/-- The order of tuples is that of their numbers. -/
theorem cmp_num : ∀ {l s t : List Nat} (n : Nat), l.length ≤ n → InL l s → InL l t → (cmpF s t 0 n < 0 ↔ numL l s < numL l t)
  | [], [], [], n, _, _, _ => by
    have : ¬ cmpF [] [] 0 n < 0 := cmpF_irrefl [] n 0
    exact ⟨fun h => absurd h this, fun h => absurd h (Nat.lt_irrefl _)⟩
  | m :: l, a :: s, b :: t, 0, h, _, _ => by simp at h
  | m :: l, a :: s, b :: t, n + 1, h, hs, ht => by
    have hs' : a < m ∧ InL l s := hs
    have ht' : b < m ∧ InL l t := ht
    rw [cmpF_lt, cmpF_cons, cmp_num n (by simpa using h) hs'.2 ht'.2]
    show a < b ∨ (a = b ∧ _) ↔ a * prodL l + numL l s < b * prodL l + numL l t
    have h1 := hs'.2.num_lt
    have h2 := ht'.2.num_lt
    rcases Nat.lt_trichotomy a b with h3 | h3 | h3
    · have := Nat.mul_le_mul_right (prodL l) (show a + 1 ≤ b from h3)
      rw [Nat.add_mul, Nat.one_mul] at this
      exact ⟨fun _ => by omega, fun _ => .inl h3⟩
    · subst h3
      exact ⟨fun h => by omega, fun h => .inr ⟨rfl, by omega⟩⟩
    · have := Nat.mul_le_mul_right (prodL l) (show b + 1 ≤ a from h3)
      rw [Nat.add_mul, Nat.one_mul] at this
      exact ⟨fun h => by omega, fun h => by omega⟩
end Go.Proofs.YteocbgcgfllieaaGreatDoor
