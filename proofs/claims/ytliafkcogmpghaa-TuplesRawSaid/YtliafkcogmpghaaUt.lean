/- What Put, Get, Table and Len of the law on raw tuples answer (no statement of its own). No condition. -/
import Derived.Test.YtliafkcogmpghaaUs
namespace Go.Proofs.Ytliafkcogmpghaa
open Go.RowKit Go.Maps
set_option linter.unusedVariables false
theorem TpAt.more {w : World} {g b : Nat} {A : Option Addr} {c N : Nat} {l : List Nat} {k o : Int} {f : List Nat → Int} (H : TpAt w g b A c N l k o f) : TpAt w g b A c (N + 1) l k o f := by
  obtain ⟨D, hm, hr⟩ := H.map
  exact ⟨H.row, H.ints, H.cap, D, hm.mono (Nat.le_succ _), hr⟩
theorem lines_none (l : List Nat) (o : Int) : (linesT l o (fun _ => o)).length = 0 := by
  unfold linesT
  simp
theorem lines_updO (t : List Nat) (o : Int) : updF (fun _ => o) t o = fun _ => o := by
  funext s
  unfold updF
  split <;> rfl
theorem lines_one {l t : List Nat} {o x : Int} (hl : ∀ n ∈ l, 1 ≤ n) (ht : InL l t) (hx : x ≠ o) : (linesT l o (updF (fun _ => o) t x)).length = 1 := by
  unfold linesT
  rw [List.length_map]
  have h : (List.range (prodL l)).filter (fun i => decide (updF (fun _ => o) t x (tupL l i) ≠ o)) = [numL l t] := rise_uniqU (List.pairwise_lt_range.filter _) (by simp) fun i => by
    rw [List.mem_filter, List.mem_range, List.mem_singleton, decide_eq_true_eq]
    constructor
    · rintro ⟨hi, h1⟩
      by_cases e : tupL l i = t
      · rw [← e, num_tup hi]
      · exact absurd (if_neg e) h1
    · rintro rfl
      refine ⟨ht.num_lt, ?_⟩
      rw [ht.tup]
      unfold updF
      rw [if_pos rfl]
      exact hx
  rw [h]
  rfl
/-- Is it a tuple, as far as place j? -/
def inZ (l : List Nat) (y : Nat → Int) (n : Nat) : Nat → Bool
  | 0 => decide (n = l.length)
  | j + 1 => inZ l y n j && (decide (0 ≤ y j) && decide (y j < (nth l j : Int)))
theorem inZ_iff (l : List Nat) (y : Nat → Int) (n : Nat) : ∀ j, inZ l y n j = true ↔ n = l.length ∧ ∀ i, i < j → 0 ≤ y i ∧ y i < (nth l i : Int)
  | 0 => by simp [inZ]
  | j + 1 => by
    have ih := inZ_iff l y n j
    simp only [inZ, Bool.and_eq_true, decide_eq_true_eq, ih]
    constructor
    · rintro ⟨⟨h0, h1⟩, h2⟩
      refine ⟨h0, fun i hi => ?_⟩
      rcases (by omega : i < j ∨ i = j) with h | rfl
      · exact h1 i h
      · exact h2
    · rintro ⟨h0, h1⟩
      exact ⟨⟨h0, fun i hi => h1 i (by omega)⟩, h1 j (by omega)⟩
theorem raw_data (g b c nB cB : Nat) (A B : Option Addr) (l : List Nat) (y : Nat → Int) (k o x : Int) (h6 : l.length ≤ 6) (h32 : ∀ n ∈ l, 1 ≤ n ∧ n ≤ 32) (ho : InK o k) :
    ∃ (inB rB : Bool) (F G dv E : Int) (ln : Nat) (f : List Nat → Int), Hid (inB = inZ l y nB nB ∧ (InK x k ↔ rB = true)) ∧
      Hid (∀ W, TpAt W g b A c 0 l k o (fun _ => o) → Zs W B nB y → Calls Try.prog 14 #[.pointer (some ⟨g, 0, none⟩), .slice B nB cB, .int .i64 x] W fun e w' => e = .returned (.int .i64 F) ∧ TpAt w' g b A c 1 l k o f ∧ W.grownBy w' (some b)) ∧
      Hid (∀ W, TpAt W g b A c 1 l k o f → Zs W B nB y → Calls Try.prog 15 #[.pointer (some ⟨g, 0, none⟩), .slice B nB cB] W fun e w' => e = .returned (.tuple #[.int .i64 dv, .int .i64 G]) ∧ Below W.heap.size W w') ∧
      Hid (∀ W, TpAt W g b A c 1 l k o f → Calls Try.prog 22 #[.pointer (some ⟨g, 0, none⟩)] W fun e w' => (∃ tv, e = .returned (.tuple #[tv, .int .i64 E])) ∧ Below W.heap.size W w') ∧
      Hid (∀ W, TpAt W g b A c 1 l k o f → Calls Try.prog 23 #[.pointer (some ⟨g, 0, none⟩)] W fun e w' => e = .returned (.int .i64 (ln : Int)) ∧ W = w') ∧
      ((E = 0 ∧ prodL l ≤ 4096) ∨ (E = 5 ∧ 4096 < prodL l)) ∧
      ((inB = false ∧ F = 3 ∧ G = 3) ∨ (inB = true ∧ rB = false ∧ F = 3 ∧ G = 0) ∨ (inB = true ∧ rB = true ∧ F = 0 ∧ G = 0 ∧ dv = x ∧ ((x = o ∧ ln = 0) ∨ (x ≠ o ∧ ln = 1)))) := by
  have hu : ∀ n ∈ l, n ≤ 32 := fun n hn => (h32 n hn).2
  have TAB : ∀ f : List Nat → Int, (∀ t, InL l t → InK (f t) k) → ∃ E, ((E = 0 ∧ prodL l ≤ 4096) ∨ (E = 5 ∧ 4096 < prodL l)) ∧ ∀ W, TpAt W g b A c 1 l k o f → Calls Try.prog 22 #[.pointer (some ⟨g, 0, none⟩)] W fun e w' => (∃ tv, e = .returned (.tuple #[tv, .int .i64 E])) ∧ Below W.heap.size W w' := fun f hf => by
    by_cases hp : prodL l ≤ 4096
    · refine ⟨0, .inl ⟨rfl, hp⟩, fun W H => (tptable_ok g b 1 c A l k o f W H h6 h32 hp ho hf).mono ?_⟩
      rintro e w' ⟨⟨g', h', rfl, _⟩, hb⟩
      exact ⟨⟨_, rfl⟩, hb⟩
    · refine ⟨5, .inr ⟨rfl, by omega⟩, fun W H => (tptable_fell g b 1 c A l k o 5 f W H (by decide) fun W2 hb2 => tnew_fell A l.length c k o 5 W2 (by decide) (new_large A c l W2 h6 (H.below hb2).ints h32 (by omega))).mono ?_⟩
      rintro e w' ⟨rfl, hb⟩
      exact ⟨⟨_, rfl⟩, hb⟩
  have LEN : ∀ (f : List Nat → Int) W, TpAt W g b A c 1 l k o f → Calls Try.prog 23 #[.pointer (some ⟨g, 0, none⟩)] W fun e w' => e = .returned (.int .i64 ((linesT l o f).length : Int)) ∧ W = w' := fun f W H => tplen_ok g b 1 c A l k o f W H h6 h32
  obtain ⟨rB, hrB⟩ : ∃ rB : Bool, (InK x k ↔ rB = true) := by
    by_cases h : InK x k
    · exact ⟨true, ⟨fun _ => rfl, fun _ => h⟩⟩
    · exact ⟨false, ⟨fun e => absurd e h, fun e => by cases e⟩⟩
  obtain ⟨E0, hE0, TAB0⟩ := TAB (fun _ => o) fun _ _ => ho
  have NO : (nB ≠ l.length ∨ (nB = l.length ∧ ∃ q, q < nB ∧ (∀ i, i < q → 0 ≤ y i ∧ y i < (nth l i : Int)) ∧ (y q < 0 ∨ (nth l q : Int) ≤ y q))) ∨ ∃ t : List Nat, t.length = nB ∧ (∀ i, i < nB → y i = (nth t i : Int)) ∧ InL l t := by
    rcases tup_cases nB y l with h | h | h
    · exact .inl (.inl h)
    · exact .inl (.inr h)
    · exact .inr h
  rcases NO with hno | ⟨t, ht, hty, hin⟩
  · have hf : inZ l y nB nB = false := by
      rw [Bool.eq_false_iff]
      intro h
      obtain ⟨h0, h1⟩ := (inZ_iff l y nB nB).1 h
      rcases hno with h2 | ⟨_, q, h3, _, h4⟩
      · exact h2 h0
      · have := h1 q h3
        omega
    refine ⟨false, rB, 3, 3, 0, E0, 0, fun _ => o, Lib.hid ⟨hf.symm, hrB⟩, Lib.hid fun W H hz => ?_, Lib.hid fun W H hz => tpget_no g b 1 c nB cB A B l y k o _ W H h6 hz hno, Lib.hid TAB0, Lib.hid fun W H => ?_, hE0, .inl ⟨rfl, rfl, rfl⟩⟩
    · refine (tpput_no g b 0 c nB cB A B l y k o x _ W H h6 hz hno).mono ?_
      rintro e w' ⟨rfl, hb⟩
      exact ⟨rfl, (H.below hb).more, (grown_of_below hb).but _⟩
    · have := LEN (fun _ => o) W H
      rw [lines_none] at this
      exact this
  · have hf : inZ l y nB nB = true := (inZ_iff l y nB nB).2 ⟨by rw [← ht, hin.length], fun i hi => by
      have h1 := hty i hi
      have h2 := (inL_iff.1 hin).2 i (by rw [← hin.length, ht]; exact hi)
      omega⟩
    have hI : ∀ W, Zs W B nB y → Ints W B t := fun W hz => ints_of_zs (by rw [ht]; exact hz) (by rw [ht]; exact hty)
    cases rB with
    | false =>
      have hx : ¬ InK x k := fun h => by have := hrB.1 h; cases this
      refine ⟨true, false, 3, 0, o, E0, 0, fun _ => o, Lib.hid ⟨hf.symm, hrB⟩, Lib.hid fun W H hz => ?_, Lib.hid fun W H hz => tpget_ok g b 1 c nB cB A B l t k o _ W H ht.symm h6 hu (hI W hz) hin, Lib.hid TAB0, Lib.hid fun W H => ?_, hE0, .inr (.inl ⟨rfl, rfl, rfl, rfl⟩)⟩
      · refine (tpput_cost g b 0 c nB cB A B l t k o x _ W H ht.symm h6 (hI W hz) hin hx).mono ?_
        rintro e w' ⟨rfl, hb⟩
        exact ⟨rfl, (H.below hb).more, (grown_of_below hb).but _⟩
      · have := LEN (fun _ => o) W H
        rw [lines_none] at this
        exact this
    | true =>
      have hx : InK x k := hrB.2 rfl
      obtain ⟨E, hE, TAB1⟩ := TAB (updF (fun _ => o) t x) fun s hs => by
        unfold updF
        split
        · exact hx
        · exact ho
      refine ⟨true, true, 0, 0, x, E, if x = o then 0 else 1, updF (fun _ => o) t x, Lib.hid ⟨hf.symm, hrB⟩, Lib.hid fun W H hz => tpput_ok g b 0 c nB cB A B l t k o x _ W H ht.symm h6 hu (hI W hz) hin hx (by omega), Lib.hid fun W H hz => ?_, Lib.hid TAB1, Lib.hid fun W H => ?_, hE, .inr (.inr ⟨rfl, rfl, rfl, rfl, rfl, ?_⟩)⟩
      · have := tpget_ok g b 1 c nB cB A B l t k o _ W H ht.symm h6 hu (hI W hz) hin
        have e : updF (fun _ => o) t x t = x := if_pos rfl
        rw [e] at this
        exact this
      · have := LEN (updF (fun _ => o) t x) W H
        by_cases e : x = o
        · subst e
          rw [if_pos rfl]
          rw [lines_updO, lines_none] at this
          rw [lines_updO] at H
          exact this
        · rw [if_neg e]
          rw [lines_one (fun n hn => (h32 n hn).1) hin e] at this
          exact this
      · by_cases e : x = o
        · exact .inl ⟨e, if_pos e⟩
        · exact .inr ⟨e, if_neg e⟩
end Go.Proofs.Ytliafkcogmpghaa
