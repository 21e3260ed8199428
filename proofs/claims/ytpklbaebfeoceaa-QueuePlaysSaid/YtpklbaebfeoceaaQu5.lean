/- The contract of queue's settle (no statement of its own). -/
import Derived.Test.YtpklbaebfeoceaaQu4
import Derived.LoopN
import Derived.WalkMore
namespace Go.Proofs.Ytpklbaebfeoceaa
open Go.RowKit
open Go.Maps (Keyed)
set_option linter.unusedVariables false
/-- The queue's blocks. -/
def QS (m : Nat) (v : Value) : Nat → Prop := fun j => j = m ∨ v.ownBlock = some j
/-- A queue in memory: its items, and where each number stands. -/
def QC (w : World) (B b m s : Nat) (N : Int) (v : Value) (l : List It) (f : Int → Option Nat) : Prop :=
  Hd w b N v m ∧ Its w B v l ∧ Pls w B m f s ∧ Con l f ∧ ∀ y ∈ l, -9223372036854775808 ≤ y.1 ∧ y.1 ≤ 9223372036854775807
theorem QC.kept {w w' : World} {B b m s : Nat} {N : Int} {v : Value} {l : List It} {f : Int → Option Nat} (h : QC w B b m s N v l f) (hg : w.grownBy w' none) : QC w' B b m s N v l f :=
  ⟨h.1.kept hg (by simp), h.2.1.kept hg (by by_cases e : v.ownBlock = none; exact .inl e; exact .inr e), h.2.2.1.kept hg (by simp), h.2.2.2⟩
theorem ahead_q {B b m s i j : Nat} {N : Int} {v : Value} {l : List It} {f : Int → Option Nat} {w0 : World} (h : QC w0 B b m s N v l f) (hi : i < l.length) (hj : j < l.length) (hl : l.length < 1000000) (W : World) (hW : w0.grownBy W none) :
    Calls Try.prog 27 #[.pointer (some ⟨b, 0, none⟩), .int .i64 (i : Int), .int .i64 (j : Int)] W (AheadP (ltI (nth l i) (nth l j)) w0) := by
  obtain ⟨h1, h2, _⟩ := h.kept hW
  exact (ahead_n B b m i j N v l W h1 h2 hi hj hl).mono fun e w' hh => ⟨hh.1, hW.trans hh.2⟩
theorem below_q {B b m s i : Nat} {N : Int} {v : Value} {l : List It} {f : Int → Option Nat} {w0 : World} (h : QC w0 B b m s N v l f) (hi : i < l.length) (hl : l.length < 1000000) (W : World) (hW : w0.grownBy W none) :
    Calls Try.prog 26 #[.pointer (some ⟨b, 0, none⟩), .int .i64 (i : Int)] W (BelowP (bel l i) w0) := by
  obtain ⟨h1, h2, _⟩ := h.kept hW
  exact (below_any B b m i N v l W h1 h2 hi hl).mono fun e w' hh => ⟨hh.1, hW.trans hh.2⟩
def SwapQ (w0 : World) (B b m s : Nat) (N : Int) (v : Value) (k : List It) (e : Ending) (w' : World) : Prop :=
  e = .returned (.tuple #[]) ∧ ∃ f, QC w' B b m s N v k f ∧ Kp (QS m v) w0 w'
theorem swap_q {B b m s i j : Nat} {N : Int} {v : Value} {l : List It} {f : Int → Option Nat} {w0 : World} (h : QC w0 B b m s N v l f) (hi : i < l.length) (hj : j < l.length) (hl : l.length < 1000000) (hs : s < 1000000) (W : World) (hW : w0.grownBy W none) :
    Calls Try.prog 28 #[.pointer (some ⟨b, 0, none⟩), .int .i64 (i : Int), .int .i64 (j : Int)] W (SwapQ w0 B b m s N v (swp l i j)) := by
  obtain ⟨h1, h2, h3, h4, h5⟩ := h.kept hW
  refine (swap_any B b m i j s N v l f W h1 h2 h3 hi hj hl hs h4 (fun t ht => h5 _ (mem_nth.2 ⟨t, ht, rfl⟩))).mono fun e w' hh => ?_
  obtain ⟨r0, r1, r2, r3, r4⟩ := hh
  exact ⟨r0, _, ⟨r1, r2, r3, h4.swp hi hj, fun y hy => h5 y ((mem_swp hi hj y).1 hy)⟩, (Kp.of_grown hW (fun k hk => by cases hk)).trans r4⟩
/-- What holds when the loop stands at a place. -/
def SetR (B b m s : Nat) (N : Int) (v : Value) (l0 : List It) (w : World) (k : Nat) (i : Value) (wr : World) : Prop :=
  ∃ (a : Nat) (l : List It) (f : Int → Option Nat), i = .int .i64 (a : Int) ∧ mea l a ≤ k ∧ a < l.length ∧ l.length = l0.length ∧ (∀ y, y ∈ l ↔ y ∈ l0) ∧ HeapX l a ∧ QC wr B b m s N v l f ∧ Kp (QS m v) w wr
def SetP (B b m s : Nat) (N : Int) (v : Value) (l0 : List It) (w : World) (e : Ending) (w' : World) : Prop :=
  e = .returned (.tuple #[]) ∧ ∃ (l : List It) (f : Int → Option Nat), l.length = l0.length ∧ (∀ y, y ∈ l ↔ y ∈ l0) ∧ Heap l ∧ QC w' B b m s N v l f ∧ Kp (QS m v) w w'
set_option maxRecDepth 100000 in
set_option maxHeartbeats 4000000 in
theorem settle_any (B b m s a : Nat) (N : Int) (v : Value) (l : List It) (f : Int → Option Nat) (w : World) (h : QC w B b m s N v l f) (ha : a < l.length) (hl : l.length < 1000000) (hs : s < 1000000) (hH : HeapX l a) :
    Calls Try.prog 23 #[.pointer (some ⟨b, 0, none⟩), .int .i64 (a : Int)] w (SetP B b m s N v l w) := by
  have HQ := Lib.hid h
  have HX := Lib.hid hH
  have HL := Lib.hid hl
  have HA := Lib.hid ha
  clear h hH hl ha
  go_enter Try.func23, Try.ntmps23
  go_wp2_with fail
  go_step3
  go_wp2_with fail
  go_step3
  go_wp2_with fail
  go_loopg [1] (mea l a) (fun k i wr => SetR B b m s N v l w k i wr)
  case atStart => exact ⟨a, l, f, rfl, Nat.le_refl _, HA.out, rfl, fun y => Iff.rfl, HX.out, HQ.out, Kp.refl _ _⟩
  case round =>
    obtain ⟨a, k, f, rfl, hmea, ha, hkl, hmem, hX, hQ, hK⟩ := hrel
    have hk : k.length < 1000000 := by rw [hkl]; exact HL.out
    have hg0 : wr.grownBy wr none := World.grownBy_alloc_refl wr
    obtain ⟨P, hP⟩ : ∃ P, par a = P := ⟨_, rfl⟩
    have AB := Lib.hid (fun W => above_any a W (by omega))
    rw [show (a - 1) / 2 = P from hP] at AB
    have hPa : P ≤ a := by rw [← hP]; unfold par; omega
    obtain ⟨C, hC⟩ : ∃ C, bel k a = C := ⟨_, rfl⟩
    have BE := Lib.hid (below_q hQ ha hk)
    rw [hC] at BE
    have hCl := bel_lt k a ha
    rw [hC] at hCl
    by_cases h0 : 0 < a
    · have hPa' : P < a := by rw [← hP]; unfold par; omega
      have A1 := Lib.hid (ahead_q hQ ha (show P < k.length by omega) hk)
      cases h1 : ltI (nth k a) (nth k P) with
      | true =>
        rw [h1] at A1
        have SW := Lib.hid (swap_q hQ ha (show P < k.length by omega) hk hs)
        have UP := up_step hX ha h0 (by rw [hP]; exact h1)
        rw [hP] at UP
        have ST := Lib.hid (show HeapX (swp k a P) P ∧ mea (swp k a P) P < gk ∧ (swp k a P).length = l.length ∧ (∀ y, y ∈ swp k a P ↔ y ∈ l) ∧ P < (swp k a P).length ∧ Kp (QS m v) w wr from ⟨UP.1, Nat.lt_of_lt_of_le UP.2 hmea, by rw [swp_len]; exact hkl, fun y => (mem_swp ha (show P < k.length by omega) y).trans (hmem y), by rw [swp_len]; omega, hK⟩)
        have hPI : (P : Int) < (a : Int) := by omega
        have x0 : ∀ W : World, (Instr.index 65 (.agg #[.int .i64 (P : Int), .int .i64 (C : Int)]) (.int .i64 0)).run Try.prog W = .ok (.int .i64 (P : Int)) W := fun _ => by kernel_rfl
        have x1 : ∀ W : World, (Instr.index 65 (.agg #[.int .i64 (P : Int), .int .i64 (C : Int)]) (.int .i64 1)).run Try.prog W = .ok (.int .i64 (C : Int)) W := fun _ => by kernel_rfl
        clear UP h1 hX hQ hK hmem hkl hmea hk hP hC
        go_wp2_with (first | (go_at_call 25; refine (AB.out _).mono ?_; rintro e w' ⟨rfl, rfl⟩) | (go_at_call 26; refine (BE.out _ (by assumption)).mono ?_; rintro e w' ⟨rfl, hg1⟩))
        refine wp_loop_rounds 3 ?_
        rw [rounds_succ]
        go_wp2_with (first | (go_at_call 27; (with_reducible refine (A1.out _ (by assumption)).mono ?_); rintro e w' ⟨rfl, hg2⟩) | (go_at_call 28; (with_reducible refine (SW.out _ (by assumption)).mono ?_); rintro e w' ⟨rfl, hsw⟩))
        obtain ⟨f', hq', hk'⟩ := hsw
        obtain ⟨s1, s2, s3, s4, s5, s6⟩ := ST.out
        go_roundg (mea (swp k a P) P)
        case measure => exact s2
        case rel => exact ⟨P, swp k a P, f', rfl, Nat.le_refl _, s5, s3, s4, s1, hq', s6.trans hk'⟩
      | false =>
        rw [h1] at A1
        have hup : 0 < a → ltI (nth k a) (nth k (par a)) = false := fun _ => by rw [hP]; exact h1
        clear h1
        have A2 := Lib.hid (ahead_q hQ hCl ha hk)
        cases h2 : ltI (nth k C) (nth k a) with
        | true =>
          rw [h2] at A2
          have hne : C ≠ a := fun q => by rw [q, ltI_irr] at h2; cases h2
          have haC := (bel_par k a (by rw [hC]; exact hne)).2.2
          rw [hC] at haC
          have SW := Lib.hid (swap_q hQ ha hCl hk hs)
          have DN := down_step hX ha hup (by rw [hC]; exact h2)
          rw [hC] at DN
          have ST := Lib.hid (show HeapX (swp k a C) C ∧ mea (swp k a C) C < gk ∧ (swp k a C).length = l.length ∧ (∀ y, y ∈ swp k a C ↔ y ∈ l) ∧ C < (swp k a C).length ∧ Kp (QS m v) w wr from ⟨DN.1, Nat.lt_of_lt_of_le DN.2 hmea, by rw [swp_len]; exact hkl, fun y => (mem_swp ha hCl y).trans (hmem y), by rw [swp_len]; exact hCl, hK⟩)
          have hPI : (P : Int) < (a : Int) := by omega
          have hCI : (a : Int) < (C : Int) := by omega
          have x0 : ∀ W : World, (Instr.index 65 (.agg #[.int .i64 (P : Int), .int .i64 (C : Int)]) (.int .i64 0)).run Try.prog W = .ok (.int .i64 (P : Int)) W := fun _ => by kernel_rfl
          have x1 : ∀ W : World, (Instr.index 65 (.agg #[.int .i64 (P : Int), .int .i64 (C : Int)]) (.int .i64 1)).run Try.prog W = .ok (.int .i64 (C : Int)) W := fun _ => by kernel_rfl
          clear DN h2 hX hQ hK hmem hkl hmea hk hP hC hup hne
          go_wp2_with (first | (go_at_call 25; refine (AB.out _).mono ?_; rintro e w' ⟨rfl, rfl⟩) | (go_at_call 26; refine (BE.out _ (by assumption)).mono ?_; rintro e w' ⟨rfl, hg1⟩))
          refine wp_loop_rounds 3 ?_
          rw [rounds_succ]
          go_wp2_with (first | (go_at_call 27; (with_reducible refine (A1.out _ (by assumption)).mono ?_); rintro e w' ⟨rfl, hg2⟩) | (go_at_call 27; (with_reducible refine (A2.out _ (by assumption)).mono ?_); rintro e w' ⟨rfl, hg3⟩) | (go_at_call 28; (with_reducible refine (SW.out _ (by assumption)).mono ?_); rintro e w' ⟨rfl, hsw⟩))
          rw [rounds_succ]
          go_wp2_with (first | (go_at_call 27; (with_reducible refine (A1.out _ (by assumption)).mono ?_); rintro e w' ⟨rfl, hg2⟩) | (go_at_call 27; (with_reducible refine (A2.out _ (by assumption)).mono ?_); rintro e w' ⟨rfl, hg3⟩) | (go_at_call 28; (with_reducible refine (SW.out _ (by assumption)).mono ?_); rintro e w' ⟨rfl, hsw⟩))
          obtain ⟨f', hq', hk'⟩ := hsw
          obtain ⟨s1, s2, s3, s4, s5, s6⟩ := ST.out
          go_roundg (mea (swp k a C) C)
          case measure => exact s2
          case rel => exact ⟨C, swp k a C, f', rfl, Nat.le_refl _, s5, s3, s4, s1, hq', s6.trans hk'⟩
        | false =>
          rw [h2] at A2
          have ST := Lib.hid (show Heap k ∧ k.length = l.length ∧ (∀ y, y ∈ k ↔ y ∈ l) ∧ Kp (QS m v) w wr from ⟨stop_step hX hup (by rw [hC]; exact h2), hkl, hmem, hK⟩)
          have HQ2 := Lib.hid hQ
          have hPI : (P : Int) < (a : Int) := by omega
          have hnC : C = a ∨ a < C := by
            by_cases q : C = a
            · exact .inl q
            · have h3 := (bel_par k a (by rw [hC]; exact q)).2.2
              rw [hC] at h3
              exact .inr h3
          clear h2 hX hQ hK hmem hkl hmea hk hP hC hup
          rcases hnC with rfl | hCa
          · skip
            have x0 : ∀ W : World, (Instr.index 65 (.agg #[.int .i64 (P : Int), .int .i64 (C : Int)]) (.int .i64 0)).run Try.prog W = .ok (.int .i64 (P : Int)) W := fun _ => by kernel_rfl
            have x1 : ∀ W : World, (Instr.index 65 (.agg #[.int .i64 (P : Int), .int .i64 (C : Int)]) (.int .i64 1)).run Try.prog W = .ok (.int .i64 (C : Int)) W := fun _ => by kernel_rfl
            go_wp2_with (first | (go_at_call 25; refine (AB.out _).mono ?_; rintro e w' ⟨rfl, rfl⟩) | (go_at_call 26; refine (BE.out _ (by assumption)).mono ?_; rintro e w' ⟨rfl, hg1⟩))
            refine wp_loop_rounds 3 ?_
            rw [rounds_succ]
            go_wp2_with (first | (go_at_call 27; (with_reducible refine (A1.out _ (by assumption)).mono ?_); rintro e w' ⟨rfl, hg2⟩) | (go_at_call 27; (with_reducible refine (A2.out _ (by assumption)).mono ?_); rintro e w' ⟨rfl, hg3⟩))
            rw [rounds_succ]
            go_wp2_with ((go_at_call 27; (with_reducible refine (A2.out _ (by assumption)).mono ?_); rintro e w' ⟨rfl, hg3⟩))
            rw [rounds_succ]
            go_wp2_with fail
            obtain ⟨s1, s2, s3, s4⟩ := ST.out
            go_end0
            exact ⟨rfl, k, f, s2, s3, s1, HQ2.out.kept hg3, s4.trans (Kp.of_grown hg3 (fun k hk => by cases hk))⟩
          · have hCI : (a : Int) < (C : Int) := by omega
            have x0 : ∀ W : World, (Instr.index 65 (.agg #[.int .i64 (P : Int), .int .i64 (C : Int)]) (.int .i64 0)).run Try.prog W = .ok (.int .i64 (P : Int)) W := fun _ => by kernel_rfl
            have x1 : ∀ W : World, (Instr.index 65 (.agg #[.int .i64 (P : Int), .int .i64 (C : Int)]) (.int .i64 1)).run Try.prog W = .ok (.int .i64 (C : Int)) W := fun _ => by kernel_rfl
            go_wp2_with (first | (go_at_call 25; refine (AB.out _).mono ?_; rintro e w' ⟨rfl, rfl⟩) | (go_at_call 26; refine (BE.out _ (by assumption)).mono ?_; rintro e w' ⟨rfl, hg1⟩))
            refine wp_loop_rounds 3 ?_
            rw [rounds_succ]
            go_wp2_with (first | (go_at_call 27; (with_reducible refine (A1.out _ (by assumption)).mono ?_); rintro e w' ⟨rfl, hg2⟩) | (go_at_call 27; (with_reducible refine (A2.out _ (by assumption)).mono ?_); rintro e w' ⟨rfl, hg3⟩))
            rw [rounds_succ]
            go_wp2_with ((go_at_call 27; (with_reducible refine (A2.out _ (by assumption)).mono ?_); rintro e w' ⟨rfl, hg3⟩))
            rw [rounds_succ]
            go_wp2_with fail
            obtain ⟨s1, s2, s3, s4⟩ := ST.out
            go_end0
            exact ⟨rfl, k, f, s2, s3, s1, HQ2.out.kept hg3, s4.trans (Kp.of_grown hg3 (fun k hk => by cases hk))⟩
    · have hPa' : P = a := by rw [← hP]; unfold par; omega
      subst hPa'
      have A1 := Lib.hid (ahead_q hQ ha ha hk)
      rw [ltI_irr] at A1
      have hup : 0 < P → ltI (nth k P) (nth k (par P)) = false := fun q => absurd q h0
      have A2 := Lib.hid (ahead_q hQ hCl ha hk)
      cases h2 : ltI (nth k C) (nth k P) with
      | true =>
        rw [h2] at A2
        have hne : C ≠ P := fun q => by rw [q, ltI_irr] at h2; cases h2
        have haC := (bel_par k P (by rw [hC]; exact hne)).2.2
        rw [hC] at haC
        have SW := Lib.hid (swap_q hQ ha hCl hk hs)
        have DN := down_step hX ha hup (by rw [hC]; exact h2)
        rw [hC] at DN
        have ST := Lib.hid (show HeapX (swp k P C) C ∧ mea (swp k P C) C < gk ∧ (swp k P C).length = l.length ∧ (∀ y, y ∈ swp k P C ↔ y ∈ l) ∧ C < (swp k P C).length ∧ Kp (QS m v) w wr from ⟨DN.1, Nat.lt_of_lt_of_le DN.2 hmea, by rw [swp_len]; exact hkl, fun y => (mem_swp ha hCl y).trans (hmem y), by rw [swp_len]; exact hCl, hK⟩)
        have hCI : (P : Int) < (C : Int) := by omega
        have x0 : ∀ W : World, (Instr.index 65 (.agg #[.int .i64 (P : Int), .int .i64 (C : Int)]) (.int .i64 0)).run Try.prog W = .ok (.int .i64 (P : Int)) W := fun _ => by kernel_rfl
        have x1 : ∀ W : World, (Instr.index 65 (.agg #[.int .i64 (P : Int), .int .i64 (C : Int)]) (.int .i64 1)).run Try.prog W = .ok (.int .i64 (C : Int)) W := fun _ => by kernel_rfl
        clear DN h2 hX hQ hK hmem hkl hmea hk hP hC hup hne
        go_wp2_with (first | (go_at_call 25; refine (AB.out _).mono ?_; rintro e w' ⟨rfl, rfl⟩) | (go_at_call 26; refine (BE.out _ (by assumption)).mono ?_; rintro e w' ⟨rfl, hg1⟩))
        refine wp_loop_rounds 3 ?_
        rw [rounds_succ]
        go_wp2_with (first | (go_at_call 27; (with_reducible refine (A1.out _ (by assumption)).mono ?_); rintro e w' ⟨rfl, hg2⟩) | (go_at_call 27; (with_reducible refine (A2.out _ (by assumption)).mono ?_); rintro e w' ⟨rfl, hg3⟩) | (go_at_call 28; (with_reducible refine (SW.out _ (by assumption)).mono ?_); rintro e w' ⟨rfl, hsw⟩))
        rw [rounds_succ]
        go_wp2_with (first | (go_at_call 27; (with_reducible refine (A1.out _ (by assumption)).mono ?_); rintro e w' ⟨rfl, hg2⟩) | (go_at_call 27; (with_reducible refine (A2.out _ (by assumption)).mono ?_); rintro e w' ⟨rfl, hg3⟩) | (go_at_call 28; (with_reducible refine (SW.out _ (by assumption)).mono ?_); rintro e w' ⟨rfl, hsw⟩))
        obtain ⟨f', hq', hk'⟩ := hsw
        obtain ⟨s1, s2, s3, s4, s5, s6⟩ := ST.out
        go_roundg (mea (swp k P C) C)
        case measure => exact s2
        case rel => exact ⟨C, swp k P C, f', rfl, Nat.le_refl _, s5, s3, s4, s1, hq', s6.trans hk'⟩
      | false =>
        rw [h2] at A2
        have ST := Lib.hid (show Heap k ∧ k.length = l.length ∧ (∀ y, y ∈ k ↔ y ∈ l) ∧ Kp (QS m v) w wr from ⟨stop_step hX hup (by rw [hC]; exact h2), hkl, hmem, hK⟩)
        have HQ2 := Lib.hid hQ
        have hnC : C = P ∨ P < C := by
          by_cases q : C = P
          · exact .inl q
          · have h3 := (bel_par k P (by rw [hC]; exact q)).2.2
            rw [hC] at h3
            exact .inr h3
        clear h2 hX hQ hK hmem hkl hmea hk hP hC hup
        rcases hnC with rfl | hCa
        · skip
          have x0 : ∀ W : World, (Instr.index 65 (.agg #[.int .i64 (C : Int), .int .i64 (C : Int)]) (.int .i64 0)).run Try.prog W = .ok (.int .i64 (C : Int)) W := fun _ => by kernel_rfl
          have x1 : ∀ W : World, (Instr.index 65 (.agg #[.int .i64 (C : Int), .int .i64 (C : Int)]) (.int .i64 1)).run Try.prog W = .ok (.int .i64 (C : Int)) W := fun _ => by kernel_rfl
          go_wp2_with (first | (go_at_call 25; refine (AB.out _).mono ?_; rintro e w' ⟨rfl, rfl⟩) | (go_at_call 26; refine (BE.out _ (by assumption)).mono ?_; rintro e w' ⟨rfl, hg1⟩))
          refine wp_loop_rounds 3 ?_
          rw [rounds_succ]
          go_wp2_with (first | (go_at_call 27; (with_reducible refine (A1.out _ (by assumption)).mono ?_); rintro e w' ⟨rfl, hg2⟩) | (go_at_call 27; (with_reducible refine (A2.out _ (by assumption)).mono ?_); rintro e w' ⟨rfl, hg3⟩))
          rw [rounds_succ]
          go_wp2_with ((go_at_call 27; (with_reducible refine (A2.out _ (by assumption)).mono ?_); rintro e w' ⟨rfl, hg3⟩))
          rw [rounds_succ]
          go_wp2_with fail
          obtain ⟨s1, s2, s3, s4⟩ := ST.out
          go_end0
          exact ⟨rfl, k, f, s2, s3, s1, HQ2.out.kept hg3, s4.trans (Kp.of_grown hg3 (fun k hk => by cases hk))⟩
        · have hCI : (P : Int) < (C : Int) := by omega
          have x0 : ∀ W : World, (Instr.index 65 (.agg #[.int .i64 (P : Int), .int .i64 (C : Int)]) (.int .i64 0)).run Try.prog W = .ok (.int .i64 (P : Int)) W := fun _ => by kernel_rfl
          have x1 : ∀ W : World, (Instr.index 65 (.agg #[.int .i64 (P : Int), .int .i64 (C : Int)]) (.int .i64 1)).run Try.prog W = .ok (.int .i64 (C : Int)) W := fun _ => by kernel_rfl
          go_wp2_with (first | (go_at_call 25; refine (AB.out _).mono ?_; rintro e w' ⟨rfl, rfl⟩) | (go_at_call 26; refine (BE.out _ (by assumption)).mono ?_; rintro e w' ⟨rfl, hg1⟩))
          refine wp_loop_rounds 3 ?_
          rw [rounds_succ]
          go_wp2_with (first | (go_at_call 27; (with_reducible refine (A1.out _ (by assumption)).mono ?_); rintro e w' ⟨rfl, hg2⟩) | (go_at_call 27; (with_reducible refine (A2.out _ (by assumption)).mono ?_); rintro e w' ⟨rfl, hg3⟩))
          rw [rounds_succ]
          go_wp2_with ((go_at_call 27; (with_reducible refine (A2.out _ (by assumption)).mono ?_); rintro e w' ⟨rfl, hg3⟩))
          rw [rounds_succ]
          go_wp2_with fail
          obtain ⟨s1, s2, s3, s4⟩ := ST.out
          go_end0
          exact ⟨rfl, k, f, s2, s3, s1, HQ2.out.kept hg3, s4.trans (Kp.of_grown hg3 (fun k hk => by cases hk))⟩
end Go.Proofs.Ytpklbaebfeoceaa
