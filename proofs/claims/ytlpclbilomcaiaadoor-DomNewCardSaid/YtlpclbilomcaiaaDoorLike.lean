/- Contracts of the laws' own helpers awake and like (no statement of its own). Condition: the table reads as its initialiser lays it. -/
import Derived.Test.YtlpclbilomcaiaaDoorMade
namespace Go.Proofs.YtlpclbilomcaiaaDoor
open Go.RowKit
set_option linter.unusedVariables false
theorem set2_0 (w : World) (S : Nat) (v0 v1 u0 u1 : Value) (h0 : w.cell? ⟨S, 0, none⟩ = some v0) (h1 : w.cell? ⟨S, 1, none⟩ = some v1) : ((w.setCell ⟨S, 0, none⟩ u0).setCell ⟨S, 1, none⟩ u1).cell? ⟨S, 0, none⟩ = some u0 := by
  rw [World.cell?_setCell_other _ _ _ _ (by intro e; injection e; omega)]
  exact World.cell?_setCell_same' _ _ _ (by rw [h0]; rfl)
theorem set2_1 (w : World) (S : Nat) (v0 v1 u0 u1 : Value) (h0 : w.cell? ⟨S, 0, none⟩ = some v0) (h1 : w.cell? ⟨S, 1, none⟩ = some v1) : ((w.setCell ⟨S, 0, none⟩ u0).setCell ⟨S, 1, none⟩ u1).cell? ⟨S, 1, none⟩ = some u1 := by
  rw [World.cell?_setCell_same' _ _ _ (by rw [World.cell?_setCell_other _ _ _ _ (by intro e; injection e; omega), h1]; rfl)]
theorem awake_true (w : World) (hT : Tab w) : Calls Tryd.prog 8 #[] w fun e w' => e = .returned (.bool true) ∧ Below w.heap.size w w' := by
  have HT := Lib.hid hT
  have hp := hT.pos
  clear hT
  go_enter Tryd.func8, Tryd.ntmps8
  go_wp2_with fail
  refine (new_yes 4 w (by omega) (by omega)).mono ?_
  rintro e w1 ⟨rfl, b1⟩
  have z1 := b1.size
  have HB1 := Lib.hid b1
  clear b1
  have HD := Lib.hid (fun W => drop_yes 4 (2 ^ 4 - 1) 1 W (by omega) (by omega) (by decide))
  have d1 : dropN (2 ^ 4 - 1) 1 = 13 := by decide
  rw [d1] at HD
  go_wp2_with fail
  refine (HD.out _).mono ?_
  rintro e w2 ⟨rfl, b2⟩
  have z2 := b2.size
  simp at z2
  obtain ⟨hc2, hf2⟩ := bcell b2
  have c2 : Below w.heap.size w w2 := (HB1.out.alloc z1 _).trans (b2.mono (by simp; omega))
  have HC2 := Lib.hid c2
  have q0 : w2.cell? ⟨w1.heap.size, 0, none⟩ = some (.int .i64 4) := (b2.cell (by simp)).trans (by rw [World.cell?_alloc_at _ _ _ _ rfl]; rfl)
  have q1 : w2.cell? ⟨w1.heap.size, 1, none⟩ = some (.int .u32 15) := (b2.cell (by simp)).trans (by rw [World.cell?_alloc_at _ _ _ _ rfl]; rfl)
  have t0 := set2_0 w2 w1.heap.size _ _ (.int .i64 4) (.int .u32 13) q0 q1
  have t1 := set2_1 w2 w1.heap.size _ _ (.int .i64 4) (.int .u32 13) q0 q1
  clear b2 c2 d1
  go_wp2_with fail
  refine (len_any 4 13 _ (by omega) (by decide)).mono ?_
  rintro e w3 ⟨rfl, b3⟩
  rw [show (mem 4 13).length = 3 by decide]
  have z3 := b3.size
  simp [World.setCell] at z3
  have hS : w1.heap.size < ((w2.setCell ⟨w1.heap.size, 0, none⟩ (.int .i64 4)).setCell ⟨w1.heap.size, 1, none⟩ (.int .u32 13)).heap.size := by simp [World.setCell]; omega
  have c3 : Below w.heap.size w w3 := ((HC2.out.setCell (by show w.heap.size ≤ w1.heap.size; omega) _).setCell (by show w.heap.size ≤ w1.heap.size; omega) _).trans (b3.mono (by omega))
  have HC3 := Lib.hid c3
  have p0 := (b3.cell (p := ⟨w1.heap.size, 0, none⟩) hS).trans t0
  have p1 := (b3.cell (p := ⟨w1.heap.size, 1, none⟩) hS).trans t1
  clear b3 c3 t0 t1 hc2 hf2 q0 q1 hS
  go_wp2_with fail
  refine (next_mid 4 13 0 _ (HT.out.next HC3.out) (by omega) (by decide) (by omega)).mono ?_
  rintro e w4 ⟨rfl, b4⟩
  rw [show firstI 4 (aboveN 13 (0 + 1)) = 2 by decide]
  go_wp2
  go_ret
  exact ⟨rfl, HC3.out.trans (b4.mono (by omega))⟩
/-- Is v a value of the set? -/
def hasB (k B : Nat) (v : Int) : Bool := decide (0 ≤ v) && (decide (v < (k : Int)) && B.testBit v.toNat)
theorem hasB_no {k B : Nat} {v : Int} (h : v < 0 ∨ (k : Int) ≤ v) : hasB k B v = false := by
  unfold hasB
  rcases h with h | h
  · simp; omega
  · simp; omega
theorem hasB_yes {k B v : Nat} (h : v < k) : hasB k B (v : Int) = B.testBit v := by
  unfold hasB
  simp [h]
theorem has_any (k B : Nat) (v : Int) (w : World) (hk : k ≤ 32) (hB : B < 2 ^ k) :
    Calls Tryd.prog 26 #[setV k B, .int .i64 v] w fun e w' => e = .returned (.bool (hasB k B v)) ∧ Below w.heap.size w w' := by
  by_cases h : v < 0 ∨ (k : Int) ≤ v
  · rw [hasB_no h]
    exact has_no k B v w h
  · obtain ⟨n, rfl⟩ : ∃ n : Nat, v = n := ⟨v.toNat, by omega⟩
    rw [hasB_yes (by omega)]
    exact has_yes k B n w (by omega) hk hB
theorem memI_mem (k B : Nat) (v : Int) : memI (mem k B) v = hasB k B v := by
  rw [Bool.eq_iff_iff]
  unfold memI hasB
  simp only [List.any_eq_true, decide_eq_true_eq, Bool.and_eq_true]
  constructor
  · rintro ⟨y, hy, rfl⟩
    have := mem_mem.1 hy
    exact ⟨by omega, by omega, by simpa using this.2⟩
  · rintro ⟨h1, h2, h3⟩
    exact ⟨v.toNat, mem_mem.2 ⟨by omega, h3⟩, by omega⟩
/-- like's own copy of the set lies in block w.heap.size. -/
structure Box (w : World) (k B : Nat) (wr : World) : Prop where
  s0 : wr.cell? ⟨w.heap.size, 0, none⟩ = some (.int .i64 (k : Int))
  s1 : wr.cell? ⟨w.heap.size, 1, none⟩ = some (.int .u32 (B : Int))
  below : Below w.heap.size w wr
  size : w.heap.size < wr.heap.size
theorem Box.next {w : World} {k B : Nat} {wr w' : World} (h : Box w k B wr) (hb : Below wr.heap.size wr w') : Box w k B w' :=
  ⟨(hb.cell (p := ⟨w.heap.size, 0, none⟩) h.size).trans h.s0, (hb.cell (p := ⟨w.heap.size, 1, none⟩) h.size).trans h.s1, h.below.trans (hb.mono (Nat.le_of_lt h.size)), Nat.lt_of_lt_of_le h.size hb.size⟩
theorem Box.new (w : World) (k B : Nat) : Box w k B (w.alloc (setO k B)) :=
  ⟨by rw [World.cell?_alloc_at _ _ _ _ rfl]; rfl, by rw [World.cell?_alloc_at _ _ _ _ rfl]; rfl, (Below.refl _ _).alloc (Nat.le_refl _) _, by simp⟩
set_option maxRecDepth 100000 in
theorem like_empty (A : Option Addr) (c k B : Nat) (w : World) (hT : Tab w) (hk : k ≤ 32) (hB : B < 2 ^ k) (hn : 0 = (mem k B).length) (hl : Lst w A (mem k B)) :
    Calls Tryd.prog 15 #[setV k B, .slice A 0 c, .int .i64 (k : Int)] w fun e w' => e = .returned (.bool true) ∧ Below w.heap.size w w' := by
  have h0 : mem k B = [] := List.eq_nil_of_length_eq_zero hn.symm
  have HT := Lib.hid hT
  have HL := Lib.hid hl
  have HN := Lib.hid hn
  have HB := Lib.hid hB
  have E1 : Hid (firstI k B = -1) := Lib.hid (by rw [firstI_head, h0]; rfl)
  have E2 : Hid (lastI B = -1) := Lib.hid (by rw [last_mem hB, h0]; rfl)
  have hp := hT.pos
  clear hT hl hn hB h0
  go_enter Tryd.func15, Tryd.ntmps15
  have X1 := Lib.hid (Box.new w k B)
  go_wp2_with fail
  refine (size_any k B _).mono ?_
  rintro e w2 ⟨rfl, b2⟩
  have X2 := Lib.hid (X1.out.next b2)
  have s0 := X2.out.s0
  have s1 := X2.out.s1
  clear b2
  go_wp2_with fail
  refine (len_any k B _ hk HB.out).mono ?_
  rintro e w3 ⟨rfl, b3⟩
  rw [← HN.out]
  have X3 := Lib.hid (X2.out.next b3)
  have s0 := X3.out.s0
  have s1 := X3.out.s1
  clear b3
  go_wp2_with fail
  refine (values_any k B _).mono ?_
  rintro e w4 ⟨rfl, rfl⟩
  have X4 := Lib.hid (X3.out.next ((Below.refl _ _).alloc (Nat.le_refl _) (setO k B)))
  go_wp2_with fail
  refine (collect_any w3.heap.size k B _ hk HB.out (by simp) (HT.out.next X4.out.below) (by rw [World.cell?_alloc_at _ _ _ _ rfl]; rfl) (by rw [World.cell?_alloc_at _ _ _ _ rfl]; rfl)).mono ?_
  rintro e w5 ⟨⟨v5, rfl, hO⟩, b5⟩
  obtain ⟨A5, c5, rfl, hL5⟩ := hO.form
  have L5 := Lib.hid hL5
  have X5 := Lib.hid (X4.out.next b5)
  clear hO hL5 b5
  go_wp2_with fail
  refine (equal_any A5 A _ c5 _ c (mem k B) (mem k B) _ rfl (by have := mem_len (k := k) (B := B) hk; omega) L5.out HN.out (HL.out.below X5.out.below (Nat.le_refl _))).mono ?_
  rintro e w6 ⟨rfl, b6⟩
  rw [decide_eq_true rfl]
  have X6 := Lib.hid (X5.out.next b6)
  clear b6
  go_wp2_with fail
  have XL := X6
  clear s0 s1 X1 X2 X3 X4 X5 X6 L5
  go_loopw [9] (fun i wr => ∃ v : Int, -1 ≤ v ∧ v ≤ (k : Int) + 1 ∧ i = .int .i64 v ∧ Box w k B wr) (fun i _ => ((k : Int) + 2 - intOf i).toNat)
  case atStart => exact ⟨-1, by omega, by omega, rfl, XL.out⟩
  case round =>
    obtain ⟨v, hv1, hv2, rfl, hX⟩ := hrel
    have X7 := Lib.hid hX
    clear hX XL
    have s0 := X7.out.s0
    have s1 := X7.out.s1
    by_cases hlt : v ≤ (k : Int)
    · go_wp2_with fail
      refine (has_any k B v _ hk HB.out).mono ?_
      rintro e w8 ⟨rfl, b8⟩
      have X8 := Lib.hid (X7.out.next b8)
      clear b8 s0 s1
      have F := Lib.hid (rhas_any A _ c (mem k B) v w8 HN.out (by omega) (HL.out.below X8.out.below (Nat.le_refl _)))
      rw [memI_mem] at F
      generalize hasB k B v = q at F ⊢
      go_wp2_with fail
      refine F.out.mono ?_
      rintro e w9 ⟨rfl, rfl⟩
      go_wp2
      go_roundw
      case rel => exact ⟨v + 1, by omega, by omega, by go_num, X8.out⟩
      case measure => simp [intOf]; omega
    · go_wp2_with fail
      refine (first_any k B _ (HT.out.next X7.out.below) hk HB.out).mono ?_
      rintro e w8 ⟨rfl, b8⟩
      have X8 := Lib.hid (X7.out.next b8)
      clear b8 s0 s1
      have s0 := X8.out.s0
      have s1 := X8.out.s1
      rw [E1.out]
      go_wp2_with fail
      refine (last_any k B _ hk HB.out).mono ?_
      rintro e w9 ⟨rfl, b9⟩
      have X9 := Lib.hid (X8.out.next b9)
      clear b9 s0 s1
      rw [E2.out]
      go_wp2
      go_ret
      exact ⟨rfl, X9.out.below⟩
set_option maxRecDepth 100000 in
theorem like_full (A : Option Addr) (n c k B : Nat) (w : World) (hT : Tab w) (hk : k ≤ 32) (hB : B < 2 ^ k) (hn : n = (mem k B).length) (hl : Lst w A (mem k B)) (h0 : 0 < n) :
    Calls Tryd.prog 15 #[setV k B, .slice A n c, .int .i64 (k : Int)] w fun e w' => e = .returned (.bool true) ∧ Below w.heap.size w w' := by
  have hne : mem k B ≠ [] := by intro e; rw [e] at hn; simp at hn; omega
  have HT := Lib.hid hT
  have HL := Lib.hid hl
  have HN := Lib.hid hn
  have HB := Lib.hid hB
  have n1 : n ≤ 1000 := by have := mem_len (k := k) (B := B) hk; omega
  have E1 : Hid (firstI k B = (((mem k B).getD 0 0 : Nat) : Int)) := Lib.hid (by rw [firstI_head]; cases h : mem k B with | nil => exact absurd h hne | cons x r => rfl)
  have E2 : Hid (lastI B = (((mem k B).getD (n - 1) 0 : Nat) : Int)) := Lib.hid (by rw [last_mem hB, hn]; unfold lastL; rw [if_neg hne])
  have hp := hT.pos
  have hc : (((n : Int)) == 0) = false := by rw [beq_eq_false_iff_ne]; omega
  clear hT hl hn hB hne
  go_enter Tryd.func15, Tryd.ntmps15
  have X1 := Lib.hid (Box.new w k B)
  go_wp2_with fail
  refine (size_any k B _).mono ?_
  rintro e w2 ⟨rfl, b2⟩
  have X2 := Lib.hid (X1.out.next b2)
  have s0 := X2.out.s0
  have s1 := X2.out.s1
  clear b2
  go_wp2_with fail
  refine (len_any k B _ hk HB.out).mono ?_
  rintro e w3 ⟨rfl, b3⟩
  rw [← HN.out]
  have X3 := Lib.hid (X2.out.next b3)
  have s0 := X3.out.s0
  have s1 := X3.out.s1
  clear b3
  go_wp2_with fail
  refine (values_any k B _).mono ?_
  rintro e w4 ⟨rfl, rfl⟩
  have X4 := Lib.hid (X3.out.next ((Below.refl _ _).alloc (Nat.le_refl _) (setO k B)))
  go_wp2_with fail
  refine (collect_any w3.heap.size k B _ hk HB.out (by simp) (HT.out.next X4.out.below) (by rw [World.cell?_alloc_at _ _ _ _ rfl]; rfl) (by rw [World.cell?_alloc_at _ _ _ _ rfl]; rfl)).mono ?_
  rintro e w5 ⟨⟨v5, rfl, hO⟩, b5⟩
  obtain ⟨A5, c5, rfl, hL5⟩ := hO.form
  have L5 := Lib.hid hL5
  have X5 := Lib.hid (X4.out.next b5)
  clear hO hL5 b5
  go_wp2_with fail
  refine (equal_any A5 A _ c5 _ c (mem k B) (mem k B) _ rfl (by have := mem_len (k := k) (B := B) hk; omega) L5.out HN.out (HL.out.below X5.out.below (Nat.le_refl _))).mono ?_
  rintro e w6 ⟨rfl, b6⟩
  rw [decide_eq_true rfl]
  have X6 := Lib.hid (X5.out.next b6)
  clear b6
  clear s0 s1
  obtain ⟨g, hA, h0c⟩ := (HL.out.below X6.out.below (Nat.le_refl _)).at_ (i := 0) (by have := HN.out; omega)
  obtain ⟨g', hA', h1c⟩ := (HL.out.below X6.out.below (Nat.le_refl _)).at_ (i := n - 1) (by have := HN.out; omega)
  have hg : g = g' := by rw [hA] at hA'; injection hA' with e; injection e
  subst hg
  subst hA
  clear hA'
  generalize (((mem k B).getD 0 0 : Nat) : Int) = y at E1 h0c
  generalize (((mem k B).getD (n - 1) 0 : Nat) : Int) = z at E2 h1c
  have i0 : (0 : Int) < (n : Int) := by omega
  have i1 : IntKind.i64.wrap ((n : Int) - 1) = (n : Int) - 1 := IntWalk.i64_in _ (by omega)
  have i2 : (0 : Int) ≤ (n : Int) - 1 := by omega
  have i3 : (n : Int) - 1 < (n : Int) := by omega
  have i4 : ((n : Int) - 1).toNat = n - 1 := by omega
  go_wp2_with fail
  go_quiet (fail)
  clear i1 i2 i3 i4 h0c h1c
  go_wp2_with fail
  have XL : Hid (Box w k B (w6.drewN nq)) := Lib.hid (X6.out.next (below_drewN (Below.refl _ _) _))
  clear X1 X2 X3 X4 X5 X6 L5
  go_loopw [9] (fun i wr => ∃ v : Int, -1 ≤ v ∧ v ≤ (k : Int) + 1 ∧ i = .int .i64 v ∧ Box w k B wr) (fun i _ => ((k : Int) + 2 - intOf i).toNat)
  case atStart => exact ⟨-1, by omega, by omega, rfl, XL.out⟩
  case round =>
    obtain ⟨v, hv1, hv2, rfl, hX⟩ := hrel
    have X7 := Lib.hid hX
    clear hX XL
    have s0 := X7.out.s0
    have s1 := X7.out.s1
    by_cases hlt : v ≤ (k : Int)
    · go_wp2_with fail
      refine (has_any k B v _ hk HB.out).mono ?_
      rintro e w8 ⟨rfl, b8⟩
      have X8 := Lib.hid (X7.out.next b8)
      clear b8 s0 s1
      have F := Lib.hid (rhas_any (some ⟨g, 0, none⟩) _ c (mem k B) v w8 HN.out n1 (HL.out.below X8.out.below (Nat.le_refl _)))
      rw [memI_mem] at F
      generalize hasB k B v = q at F ⊢
      go_wp2_with fail
      refine F.out.mono ?_
      rintro e w9 ⟨rfl, rfl⟩
      go_wp2
      go_roundw
      case rel => exact ⟨v + 1, by omega, by omega, by go_num, X8.out⟩
      case measure => simp [intOf]; omega
    · go_wp2_with fail
      refine (first_any k B _ (HT.out.next X7.out.below) hk HB.out).mono ?_
      rintro e w8 ⟨rfl, b8⟩
      have X8 := Lib.hid (X7.out.next b8)
      clear b8 s0 s1
      have s0 := X8.out.s0
      have s1 := X8.out.s1
      rw [E1.out]
      go_wp2_with fail
      refine (last_any k B _ hk HB.out).mono ?_
      rintro e w9 ⟨rfl, b9⟩
      have X9 := Lib.hid (X8.out.next b9)
      clear b9 s0 s1
      rw [E2.out]
      go_wp2
      go_ret
      exact ⟨rfl, X9.out.below⟩
theorem like_yes (A : Option Addr) (n c k B : Nat) (w : World) (hT : Tab w) (hk : k ≤ 32) (hB : B < 2 ^ k) (hn : n = (mem k B).length) (hl : Lst w A (mem k B)) :
    Calls Tryd.prog 15 #[setV k B, .slice A n c, .int .i64 (k : Int)] w fun e w' => e = .returned (.bool true) ∧ Below w.heap.size w w' := by
  by_cases h : n = 0
  · subst h
    exact like_empty A c k B w hT hk hB hn hl
  · exact like_full A n c k B w hT hk hB hn hl (by omega)
end Go.Proofs.YtlpclbilomcaiaaDoor
