/- Contract of the document's Most (no statement of its own). No condition. -/
import Derived.Test.YtdmldnlgamnkeaaGreatWc
namespace Go.Proofs.YtdmldnlgamnkeaaGreat
open Go.RowKit Go.Shelf
set_option linter.unusedVariables false
structure BestI (z : Nat → Int) (m j : Nat) (b : Int) (T : Nat) : Prop where
  zero : j = 0 → T = 0 ∧ b = 0
  le : ∀ i, i < j → cntZ z m (z i) ≤ T
  has : 0 < j → 0 < T ∧ cntZ z m b = T
  least : ∀ i, i < j → cntZ z m (z i) = T → b ≤ z i
theorem bestI_zero (z : Nat → Int) (m : Nat) : BestI z m 0 0 0 := ⟨fun _ => ⟨rfl, rfl⟩, fun i h => absurd h (Nat.not_lt_zero _), fun h => absurd h (Nat.lt_irrefl _), fun i h => absurd h (Nat.not_lt_zero _)⟩
theorem BestI.step {z : Nat → Int} {m j : Nat} {b : Int} {T n : Nat} (H : BestI z m j b T) (hj : j < m) (hn : cntZ z m (z j) = n) :
    (T < n ∨ (T = n ∧ z j < b) → BestI z m (j + 1) (z j) n) ∧ (¬ (T < n ∨ (T = n ∧ z j < b)) → BestI z m (j + 1) b T) := by
  have hp := cntZ_has (z := z) (c := z j) (i := j) (m := m) hj rfl
  constructor
  · intro h
    refine ⟨fun e => (by omega), fun i hi => ?_, fun _ => ⟨by omega, hn⟩, fun i hi he => ?_⟩
    · by_cases e : i = j
      · subst e; omega
      · have := H.le i (by omega); omega
    · by_cases e : i = j
      · subst e; omega
      · have h1 := H.le i (by omega)
        rcases h with h | ⟨h, h'⟩
        · omega
        · have := H.least i (by omega) (by omega)
          omega
  · intro h
    have h0 : 0 < j := by
      rcases Nat.eq_zero_or_pos j with e | e
      · have := (H.zero e).1
        omega
      · exact e
    refine ⟨fun e => (by omega), fun i hi => ?_, fun _ => H.has h0, fun i hi he => ?_⟩
    · by_cases e : i = j
      · subst e; omega
      · exact H.le i (by omega)
    · by_cases e : i = j
      · subst e; omega
      · exact H.least i (by omega) he
theorem BestI.done {z : Nat → Int} {m : Nat} {b : Int} {T : Nat} (H : BestI z m m b T) (hm : 0 < m) : IsMost z m b := by
  have hb := H.has hm
  refine ⟨by omega, fun c => ?_, fun c he => ?_⟩
  · rcases Nat.eq_zero_or_pos (cntZ z m c) with h | h
    · omega
    · obtain ⟨i, hi, e⟩ := cntZ_pos h
      have := H.le i hi
      rw [e] at this
      omega
  · obtain ⟨i, hi, e⟩ := cntZ_pos (z := z) (m := m) (c := c) (by omega)
    have := H.least i hi (by rw [e]; omega)
    omega
set_option maxRecDepth 100000 in
set_option maxHeartbeats 2000000 in
theorem rmost_any (sv : Value) (k : Int) (A : Option Addr) (m c : Nat) (z : Nat → Int) (w : World) (hm1 : 1 ≤ m) (hm4 : m ≤ 100000) (hA : Zs w A m z) :
    Calls Tryz.prog 13 #[.agg #[sv, .int .i64 k, .slice A m c]] w fun e w' => (∃ b, e = .returned (.int .i64 b) ∧ IsMost z m b) ∧ Below w.heap.size w w' := by
  have n1 := new_val w (.cells #[sv, .int .i64 k, .slice A m c] 29)
  have hx := heap_alloc_new w (.cells #[sv, .int .i64 k, .slice A m c] 29)
  have ZA := Lib.hid (hA.below n1 (Nat.le_refl _))
  have N1 := Lib.hid n1
  have x2 : (w.alloc (.cells #[sv, .int .i64 k, .slice A m c] 29)).cell? ⟨w.heap.size, 2, none⟩ = some (.slice A m c) := by rw [cell_of_row _ _ _ _ _ _ hx]; rfl
  have DN := Lib.hid (fun b T (H : BestI z m m b T) => H.done (by omega))
  clear hA n1 hx
  go_enter Tryz.func13, Tryz.ntmps13
  go_upto_region 1 with fail
  generalize w.alloc (.cells #[sv, .int .i64 k, .slice A m c] 29) = w1 at ZA N1 x2 ⊢
  go_wp2_with fail
  go_loopw [3, 4, 6, 7, 9, 13] (fun best times _ _ _ i wr => ∃ (j T : Nat) (b : Int), j ≤ m ∧ i = .int .i64 (j : Int) ∧ best = .int .i64 b ∧ times = .int .i64 (T : Int) ∧ BestI z m j b T ∧ T ≤ m ∧ wr = w1) (fun _ _ _ _ _ i _ => m - (intOf i).toNat)
  case atStart => exact ⟨0, 0, 0, Nat.zero_le _, rfl, rfl, rfl, bestI_zero z m, Nat.zero_le _, rfl⟩
  case round =>
    obtain ⟨j, T, b, hj, rfl, rfl, rfl, hM, hT, rfl⟩ := hrel
    have HM := Lib.hid hM
    clear hM
    by_cases hlt : j < m
    · have i1 : (j : Int) < (m : Int) := by omega
      have i2 : (0 : Int) ≤ (j : Int) := by omega
      obtain ⟨g, o, rfl, hc⟩ := ZA.out.at_ hlt
      obtain ⟨n, hn⟩ : ∃ n, cntZ z m (z j) = n := ⟨_, rfl⟩
      obtain ⟨s1, s2⟩ := HM.out.step hlt hn
      have HN := Lib.hid hn
      have hnm : n ≤ m := by rw [← hn]; exact cntZ_le z m _
      have S1 := Lib.hid s1
      have S2 := Lib.hid s2
      clear hn s1 s2 HM
      obtain ⟨y, hy⟩ : ∃ y, z j = y := ⟨_, rfl⟩
      rw [hy] at hc HN S1 S2
      clear hy
      obtain ⟨w9, hw9⟩ : ∃ W : World, W = wr := ⟨wr, rfl⟩
      subst hw9
      go_wp2_with fail
      go_loopw [7, 9, 20] (fun cn _ i wr => ∃ (q C : Nat), q ≤ m ∧ i = .int .i64 (q : Int) ∧ cn = .int .i64 (C : Int) ∧ C = cntZ z q y ∧ wr = w9) (fun _ _ i _ => m - (intOf i).toNat)
      case atStart => exact ⟨0, 0, Nat.zero_le _, rfl, rfl, rfl, rfl⟩
      case round =>
        obtain ⟨q, C, hq, rfl, rfl, hC, rfl⟩ := hrel
        have HC := Lib.hid hC
        clear hC
        have hCq : C ≤ q := by rw [HC.out]; exact cntZ_le z q y
        by_cases hlq : q < m
        · have i3 : (q : Int) < (m : Int) := by omega
          have i4 : (0 : Int) ≤ (q : Int) := by omega
          obtain ⟨g', o', e', hcq⟩ := ZA.out.at_ hlq
          injection e' with e'
          injection e' with e1 e2 _
          subst e1 e2
          have HS := Lib.hid (cntZ_succ z q y)
          by_cases e : z q = y
          · rw [if_pos e] at HS
            rw [e] at hcq
            clear e
            go_wp2_with fail
            go_roundw
            case rel => exact ⟨q + 1, C + 1, by omega, by go_num, by go_num, by have := HS.out; have := HC.out; omega, by first | rfl | trivial⟩
            case measure => simp [intOf]; omega
          · have d : (z q == y) = false := by simpa using e
            rw [if_neg e] at HS
            clear e
            generalize z q = x at hcq d
            go_wp2_with fail
            go_roundw
            case rel => exact ⟨q + 1, C, by omega, by go_num, rfl, by have := HS.out; have := HC.out; omega, by first | rfl | trivial⟩
            case measure => simp [intOf]; omega
        · have i3 : ¬ ((q : Int) < (m : Int)) := by omega
          obtain rfl : m = q := by omega
          obtain rfl : C = n := by rw [HC.out, HN.out]
          clear i3 hlq hq HC HN
          by_cases c1 : T < C
          · have d1 : (T : Int) < (C : Int) := by omega
            have S := Lib.hid (S1.out (.inl c1))
            clear S1 S2 c1
            go_wp2_with fail
            go_roundw
            case rel => exact ⟨j + 1, C, y, by omega, by go_num, rfl, rfl, S.out, by omega, by first | rfl | trivial⟩
            case measure => simp [intOf]; omega
          · have d1 : ¬ (T : Int) < (C : Int) := by omega
            by_cases c2 : T = C
            · subst c2
              by_cases c3 : y < b
              · have S := Lib.hid (S1.out (.inr ⟨rfl, c3⟩))
                clear S1 S2 c1
                go_wp2_with fail
                go_roundw
                case rel => exact ⟨j + 1, T, y, by omega, by go_num, rfl, rfl, S.out, by omega, by first | rfl | trivial⟩
                case measure => simp [intOf]; omega
              · have S := Lib.hid (S2.out (by omega))
                clear S1 S2 c1
                go_wp2_with fail
                go_roundw
                case rel => exact ⟨j + 1, T, b, by omega, by go_num, rfl, rfl, S.out, by omega, by first | rfl | trivial⟩
                case measure => simp [intOf]; omega
            · have d2 : ((C : Int) == (T : Int)) = false := by rw [beq_eq_false_iff_ne]; omega
              have S := Lib.hid (S2.out (by omega))
              clear S1 S2 c1 c2
              go_wp2_with fail
              go_roundw
              case rel => exact ⟨j + 1, T, b, by omega, by go_num, rfl, rfl, S.out, by omega, by first | rfl | trivial⟩
              case measure => simp [intOf]; omega
    · have i1 : ¬ ((j : Int) < (m : Int)) := by omega
      obtain rfl : m = j := by omega
      have F := Lib.hid (DN.out _ _ HM.out)
      go_wp2_with fail
      go_ret
      exact ⟨⟨b, rfl, F.out⟩, N1.out⟩
end Go.Proofs.YtdmldnlgamnkeaaGreat
