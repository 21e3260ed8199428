/- Texts that are too large somewhere (no statement of its own). -/
import Derived.Test.YteocbgcgfllieaaGreatDoorLa
namespace Go.Proofs.YteocbgcgfllieaaGreatDoor
set_option linter.unusedVariables false
def lim1 (b : Bool) (p : Nat) (g : Option Nat) : Option Nat := if b && g.isNone then some p else g
theorem limS_eq (b : Bool) (p k : Nat) (g : Option Nat) : limS b p ⟨k, g⟩ = ⟨k, lim1 b p g⟩ := by
  cases b <;> cases g <;> rfl
@[simp] theorem lim1_off (p : Nat) (g : Option Nat) : lim1 false p g = g := rfl
@[simp] theorem lim1_on (p : Nat) : lim1 true p none = some p := rfl
/-- What comes behind the sizes. -/
def endM (l : List UInt8) (w : Nat × Nat) (k : Int) (c : Nat) (sz : List Nat) (s6 : RdS) : RdR FileM :=
  (funsM l sz c ⟨[], [], 0⟩ s6).bind fun a s7 =>
    match stepW l s7.k with
    | .word f _ => .bad 4 f
    | .bad b => .bad 11 b
    | .none => .ok ⟨w, k, sz, a.funs⟩ s7
theorem fileM_head {l : List UInt8} {lo : Int} {m : Nat} {n g c k : Int} {rest : List (List UInt8)} (h0 : stepW l 0 = .word 0 m) (h : CurL l m (dgs n :: dgs g :: dgs c :: dgs k :: rest)) (hm : m ≤ 64)
    (n1 : 1 ≤ n) (n2 : n ≤ 4611686018427387904) (g1 : lo ≤ g) (g2 : g ≤ 4611686018427387904) (g3 : -4611686018427387904 ≤ g) (c1 : 0 ≤ c) (c2 : c ≤ 4611686018427387904) (k1 : 1 ≤ k) (k2 : k ≤ 4611686018427387904) :
    ∃ k5, CurL l k5 rest ∧ k5 = m + (1 + (dgs n).length) + (1 + (dgs g).length) + (1 + (dgs c).length) + (1 + (dgs k).length) ∧
      fileM l lo = (sizesM l g n.toNat [] ⟨k5, lim1 (decide (2147483648 < k)) (m + (1 + (dgs n).length) + (1 + (dgs g).length) + (1 + (dgs c).length) + 1) (lim1 (decide (256 < c)) (m + (1 + (dgs n).length) + (1 + (dgs g).length) + 1) (lim1 (decide (64 < n)) (m + 1) none))⟩).bind fun sz s6 => endM l (0, m) k c.toNat sz s6 := by
  have s1 := h.step.2.2
  have s2 := s1.step.2.2
  have s3 := s2.step.2.2
  have s4 := s3.step.2.2
  refine ⟨_, s4, by omega, ?_⟩
  unfold fileM
  have e0 : wordM l ⟨0, none⟩ = .ok (0, m) ⟨m, none⟩ := by unfold wordM; rw [h0]
  rw [e0, RdR.bind_ok]
  rw [show decide (64 < m - 0) = false from decide_eq_false (by omega), limS_off]
  rw [h.num n1 n2 (by omega) n2, RdR.bind_ok]
  simp only [limS_eq]
  rw [s1.num g1 g2 g3 g2, RdR.bind_ok, s2.num c1 c2 (by omega) c2, RdR.bind_ok]
  simp only [limS_eq]
  rw [s3.num k1 k2 (by omega) k2, RdR.bind_ok]
  simp only [limS_eq]
  have e3 : m + 1 + (dgs n).length + 1 + (dgs g).length + 1 + (dgs c).length + 1 = m + (1 + (dgs n).length) + (1 + (dgs g).length) + (1 + (dgs c).length) + 1 := by omega
  have e2 : m + 1 + (dgs n).length + 1 + (dgs g).length + 1 = m + (1 + (dgs n).length) + (1 + (dgs g).length) + 1 := by omega
  rw [e3, e2]
  rfl
/-- What is said of a text that is too large at p; or wrong in its last word. -/
def LgR (l : List UInt8) (p : Nat) (wrong : Bool) : Prop :=
  if wrong then fileM l (-4611686018427387904) = .bad 4 (l.length - 1) else ∃ F st, fileM l (-4611686018427387904) = .ok F st ∧ st.big = some p
def tlX (wrong : Bool) : List (List UInt8) := if wrong then [[120]] else []
theorem gd_x : GdW [120] := ⟨by simp, by simp [isW]⟩
/-- Behind the functions nothing more stands, or a word too many. -/
theorem end_cur {l : List UInt8} {w : Nat × Nat} {k : Int} {c k6 k7 p : Nat} {sz : List Nat} {b : Option Nat} {a : AccM} {wrong : Bool} (hf : funsM l sz c ⟨[], [], 0⟩ ⟨k6, b⟩ = .ok a ⟨k7, b⟩) (hc : CurL l k7 (tlX wrong)) (hb : b = some p) :
    if wrong then endM l w k c sz ⟨k6, b⟩ = .bad 4 (l.length - 1) else ∃ F st, endM l w k c sz ⟨k6, b⟩ = .ok F st ∧ st.big = some p := by
  unfold endM
  rw [hf, RdR.bind_ok]
  cases wrong with
  | true =>
    have s := CurL.step (hc : CurL l k7 ([120] :: []))
    simp only [if_true]
    rw [s.1]
    have := s.2.2.done.2
    simp only [List.length_cons, List.length_nil] at this
    rw [show l.length - 1 = k7 + 1 by omega]
  | false =>
    have s := CurL.done (hc : CurL l k7 [])
    simp only [Bool.false_eq_true, if_false]
    rw [s.1]
    exact ⟨_, _, rfl, hb⟩
def txtT (ws : List (List UInt8)) : List UInt8 := [116] ++ txS ws
theorem good_dg {ws : List (List UInt8)} (h : ∀ w ∈ ws, (∃ n : Int, w = dgs n) ∨ w = [120]) : ∀ w ∈ ws, GdW w := by
  intro w hw
  rcases h w hw with ⟨n, rfl⟩ | rfl
  · exact gd_itoa n
  · exact gd_x
theorem tlX_mem {wrong : Bool} {w : List UInt8} (h : w ∈ tlX wrong) : w = [120] := by
  unfold tlX at h
  split at h
  · simpa using h
  · simp at h
theorem itoa_1 : Lib.itoa 1 = [49] := by simp [Lib.itoa, Lib.decDigits]
theorem itoa_0 : Lib.itoa 0 = [48] := by simp [Lib.itoa, Lib.decDigits]
theorem itoa_5 : Lib.itoa 5 = [53] := by simp [Lib.itoa, Lib.decDigits]
theorem itoa_2 : Lib.itoa 2 = [50] := by simp [Lib.itoa, Lib.decDigits]
theorem itoa_3 : Lib.itoa 3 = [51] := by simp [Lib.itoa, Lib.decDigits]
theorem itoa_32 : Lib.itoa 32 = [51, 50] := by simp [Lib.itoa, Lib.decDigits]
theorem itoa_9999 : Lib.itoa 9999 = [57, 57, 57, 57] := by simp [Lib.itoa, Lib.decDigits]
/-- More variables than may be. -/
theorem large0 (N : Nat) (h1 : 65 ≤ N) (h2 : N ≤ 100000) (wrong : Bool) : LgR (txtT ([dgs N, dgs 1, dgs 0, dgs 5] ++ (List.replicate N (dgs 1) ++ tlX wrong))) 2 wrong := by
  obtain ⟨f1, f2⟩ := CurL.first [116] ([dgs N, dgs 1, dgs 0, dgs 5] ++ (List.replicate N (dgs 1) ++ tlX wrong)) ⟨by simp, by simp [isW]⟩ (good_dg fun w hw => by
    simp only [List.mem_append, List.mem_cons, List.not_mem_nil, or_false, List.mem_replicate] at hw
    rcases hw with (rfl | rfl | rfl | rfl) | ⟨_, rfl⟩ | hw
    · exact .inl ⟨_, rfl⟩
    · exact .inl ⟨_, rfl⟩
    · exact .inl ⟨_, rfl⟩
    · exact .inl ⟨_, rfl⟩
    · exact .inl ⟨_, rfl⟩
    · exact .inr (tlX_mem hw))
  change stepW (txtT _) 0 = .word 0 1 at f1
  change CurL (txtT _) 1 (dgs (N : Int) :: dgs 1 :: dgs 0 :: dgs 5 :: (List.replicate N (dgs 1) ++ tlX wrong)) at f2
  generalize txtT ([dgs N, dgs 1, dgs 0, dgs 5] ++ (List.replicate N (dgs 1) ++ tlX wrong)) = l at f1 f2 ⊢
  obtain ⟨k5, r1, r2, r3⟩ := fileM_head (lo := -4611686018427387904) f1 f2 (by decide) (by omega) (by omega) (by decide) (by decide) (by decide) (by decide) (by decide) (by decide) (by decide)
  rw [show decide (2147483648 < (5 : Int)) = false by decide, show decide (256 < (0 : Int)) = false by decide, show decide (64 < (N : Int)) = true from decide_eq_true (by omega), lim1_off, lim1_off, lim1_on] at r3
  obtain ⟨k6, z1, z2⟩ := CurL.sizes (x := 1) (most := 1) (by decide) (by decide) (by decide) N (b := some 2) (acc := []) r1
  unfold LgR
  rw [r3]
  rw [show ((N : Int).toNat) = N by omega]
  rw [show ((1 + 1 : Nat)) = 2 by rfl, z1, RdR.bind_ok]
  exact end_cur (a := ⟨[], [], 0⟩) (by rfl) z2 rfl
/-- A size above 32. -/
theorem large1 (S : Int) (h1 : 33 ≤ S) (h2 : S ≤ 9999) (wrong : Bool) : LgR (txtT ([dgs 1, dgs 9999, dgs 0, dgs 5, dgs S] ++ tlX wrong)) 13 wrong := by
  obtain ⟨f1, f2⟩ := CurL.first [116] ([dgs 1, dgs 9999, dgs 0, dgs 5, dgs S] ++ tlX wrong) ⟨by simp, by simp [isW]⟩ (good_dg fun w hw => by
    simp only [List.mem_append, List.mem_cons, List.not_mem_nil, or_false] at hw
    rcases hw with (rfl | rfl | rfl | rfl | rfl) | hw
    · exact .inl ⟨_, rfl⟩
    · exact .inl ⟨_, rfl⟩
    · exact .inl ⟨_, rfl⟩
    · exact .inl ⟨_, rfl⟩
    · exact .inl ⟨_, rfl⟩
    · exact .inr (tlX_mem hw))
  change stepW (txtT _) 0 = .word 0 1 at f1
  change CurL (txtT _) 1 (dgs 1 :: dgs 9999 :: dgs 0 :: dgs 5 :: (dgs S :: tlX wrong)) at f2
  generalize txtT ([dgs 1, dgs 9999, dgs 0, dgs 5, dgs S] ++ tlX wrong) = l at f1 f2 ⊢
  obtain ⟨k5, r1, r2, r3⟩ := fileM_head (lo := -4611686018427387904) f1 f2 (by decide) (by decide) (by decide) (by decide) (by decide) (by decide) (by decide) (by decide) (by decide) (by decide)
  rw [show decide (2147483648 < (5 : Int)) = false by decide, show decide (256 < (0 : Int)) = false by decide, show decide (64 < (1 : Int)) = false by decide, lim1_off, lim1_off, lim1_off] at r3
  simp only [dgs, itoa_1, itoa_0, itoa_5, itoa_9999, List.length_cons, List.length_nil] at r2
  unfold LgR
  rw [r3]
  have e : sizesM l 9999 (Int.toNat 1) [] ⟨k5, none⟩ = .ok [S.toNat] ⟨k5 + 1 + (dgs S).length, some 13⟩ := by
    show sizesM l 9999 1 [] ⟨k5, none⟩ = _
    unfold sizesM
    rw [r1.num (by omega) h2 (by omega) (by omega), RdR.bind_ok, decide_eq_true (show (32 : Int) < S by omega), limS_on]
    unfold sizesM
    rw [r2]
    rfl
  rw [e, RdR.bind_ok]
  exact end_cur (a := ⟨[], [], 0⟩) (by rfl) r1.step.2.2 rfl
/-- A top above 2^31. -/
theorem large2 (K : Int) (h1 : 2147483649 ≤ K) (h2 : K ≤ 4611686018427387904) (wrong : Bool) : LgR (txtT ([dgs 1, dgs 1, dgs 0, dgs K, dgs 1] ++ tlX wrong)) 8 wrong := by
  obtain ⟨f1, f2⟩ := CurL.first [116] ([dgs 1, dgs 1, dgs 0, dgs K, dgs 1] ++ tlX wrong) ⟨by simp, by simp [isW]⟩ (good_dg fun w hw => by
    simp only [List.mem_append, List.mem_cons, List.not_mem_nil, or_false] at hw
    rcases hw with (rfl | rfl | rfl | rfl | rfl) | hw
    · exact .inl ⟨_, rfl⟩
    · exact .inl ⟨_, rfl⟩
    · exact .inl ⟨_, rfl⟩
    · exact .inl ⟨_, rfl⟩
    · exact .inl ⟨_, rfl⟩
    · exact .inr (tlX_mem hw))
  change stepW (txtT _) 0 = .word 0 1 at f1
  change CurL (txtT _) 1 (dgs 1 :: dgs 1 :: dgs 0 :: dgs K :: (List.replicate 1 (dgs 1) ++ tlX wrong)) at f2
  generalize txtT ([dgs 1, dgs 1, dgs 0, dgs K, dgs 1] ++ tlX wrong) = l at f1 f2 ⊢
  obtain ⟨k5, r1, r2, r3⟩ := fileM_head (lo := -4611686018427387904) f1 f2 (by decide) (by decide) (by decide) (by decide) (by decide) (by decide) (by decide) (by decide) (by omega) h2
  rw [show decide (2147483648 < K) = true from decide_eq_true (by omega), show decide (256 < (0 : Int)) = false by decide, show decide (64 < (1 : Int)) = false by decide, lim1_off, lim1_off, lim1_on] at r3
  rw [show 1 + (1 + (dgs 1).length) + (1 + (dgs 1).length) + (1 + (dgs 0).length) + 1 = 8 by simp only [dgs, itoa_1, itoa_0]; rfl] at r3
  obtain ⟨k6, z1, z2⟩ := CurL.sizes (x := 1) (most := 1) (by decide) (by decide) (by decide) 1 (b := some 8) (acc := []) r1
  unfold LgR
  rw [r3]
  have e : sizesM l 1 (Int.toNat 1) [] ⟨k5, some 8⟩ = .ok ([] ++ List.replicate 1 (Int.toNat 1)) ⟨k6, some 8⟩ := z1
  rw [e, RdR.bind_ok]
  exact end_cur (a := ⟨[], [], 0⟩) (by rfl) z2 rfl
/-- More functions than may be. -/
theorem large3 (N : Nat) (h1 : 257 ≤ N) (h2 : N ≤ 100000) (wrong : Bool) : LgR (txtT ([dgs 1, dgs 1, dgs N, dgs 5, dgs 1] ++ ((List.replicate N [dgs 0, dgs 0, dgs 0]).flatten ++ tlX wrong))) 6 wrong := by
  obtain ⟨f1, f2⟩ := CurL.first [116] ([dgs 1, dgs 1, dgs N, dgs 5, dgs 1] ++ ((List.replicate N [dgs 0, dgs 0, dgs 0]).flatten ++ tlX wrong)) ⟨by simp, by simp [isW]⟩ (good_dg fun w hw => by
    simp only [List.mem_append, List.mem_cons, List.not_mem_nil, or_false, List.mem_flatten, List.mem_replicate] at hw
    rcases hw with (rfl | rfl | rfl | rfl | rfl) | ⟨x, ⟨_, rfl⟩, hw⟩ | hw
    · exact .inl ⟨_, rfl⟩
    · exact .inl ⟨_, rfl⟩
    · exact .inl ⟨_, rfl⟩
    · exact .inl ⟨_, rfl⟩
    · exact .inl ⟨_, rfl⟩
    · exact .inl ⟨0, by simpa using hw⟩
    · exact .inr (tlX_mem hw))
  change stepW (txtT _) 0 = .word 0 1 at f1
  change CurL (txtT _) 1 (dgs 1 :: dgs 1 :: dgs (N : Int) :: dgs 5 :: (List.replicate 1 (dgs 1) ++ ((List.replicate N [dgs 0, dgs 0, dgs 0]).flatten ++ tlX wrong))) at f2
  generalize txtT ([dgs 1, dgs 1, dgs N, dgs 5, dgs 1] ++ ((List.replicate N [dgs 0, dgs 0, dgs 0]).flatten ++ tlX wrong)) = l at f1 f2 ⊢
  obtain ⟨k5, r1, r2, r3⟩ := fileM_head (lo := -4611686018427387904) f1 f2 (by decide) (by decide) (by decide) (by decide) (by decide) (by decide) (by omega) (by omega) (by decide) (by decide)
  rw [show decide (2147483648 < (5 : Int)) = false by decide, show decide (256 < (N : Int)) = true from decide_eq_true (by omega), show decide (64 < (1 : Int)) = false by decide, lim1_off, lim1_off, lim1_on] at r3
  rw [show 1 + (1 + (dgs 1).length) + (1 + (dgs 1).length) + 1 = 6 by simp only [dgs, itoa_1]; rfl] at r3
  obtain ⟨k6, z1, z2⟩ := CurL.sizes (x := 1) (most := 1) (by decide) (by decide) (by decide) 1 (b := some 6) (acc := []) r1
  obtain ⟨k7, y1, y2⟩ := CurL.zeros (sizes := [] ++ List.replicate 1 (Int.toNat 1)) N (b := some 6) (a := ⟨[], [], 0⟩) rfl z2
  unfold LgR
  rw [r3]
  have e : sizesM l 1 (Int.toNat 1) [] ⟨k5, some 6⟩ = .ok ([] ++ List.replicate 1 (Int.toNat 1)) ⟨k6, some 6⟩ := z1
  rw [e, RdR.bind_ok]
  rw [show ((N : Int).toNat) = N by omega]
  exact end_cur y1 y2 rfl
/-- A table of more tuples than may be. -/
theorem large4 (wrong : Bool) : LgR (txtT ([dgs 3, dgs 32, dgs 1, dgs 5, dgs 32, dgs 32, dgs 32, dgs 3, dgs 0, dgs 1, dgs 2, dgs 0, dgs 0] ++ tlX wrong)) 20 wrong := by
  have e : txtT ([dgs 3, dgs 32, dgs 1, dgs 5, dgs 32, dgs 32, dgs 32, dgs 3, dgs 0, dgs 1, dgs 2, dgs 0, dgs 0] ++ tlX wrong) = [116, 32, 51, 32, 51, 50, 32, 49, 32, 53, 32, 51, 50, 32, 51, 50, 32, 51, 50, 32, 51, 32, 48, 32, 49, 32, 50, 32, 48, 32, 48] ++ txS (tlX wrong) := by
    unfold txtT
    rw [txS_app]
    simp only [txS_cons, txS_nil, dgs, itoa_1, itoa_0, itoa_5, itoa_2, itoa_3, itoa_32]
    simp
  rw [e]
  cases wrong with
  | true => show fileM _ _ = _; kernel_rfl
  | false => exact ⟨⟨(0, 1), 5, [32, 32, 32], [⟨[0, 1, 2], 0, []⟩]⟩, ⟨31, some 20⟩, by kernel_rfl, rfl⟩
end Go.Proofs.YteocbgcgfllieaaGreatDoor
