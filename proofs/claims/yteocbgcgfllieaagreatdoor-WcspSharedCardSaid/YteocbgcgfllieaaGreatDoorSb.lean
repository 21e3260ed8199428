/- Both texts are the same network (no statement of its own). -/
import Derived.Test.YteocbgcgfllieaaGreatDoorSa
namespace Go.Proofs.YteocbgcgfllieaaGreatDoor
set_option linter.unusedVariables false
theorem itoa_4 : Lib.itoa 4 = [52] := by simp [Lib.itoa, Lib.decDigits]
theorem itoa_1000 : Lib.itoa 1000 = [49, 48, 48, 48] := by simp [Lib.itoa, Lib.decDigits]
theorem itoa_m1 : Lib.itoa (-1) = [45, 49] := by simp [Lib.itoa, Lib.decDigits]
theorem itoa_m2 : Lib.itoa (-2) = [45, 50] := by simp [Lib.itoa, Lib.decDigits]
theorem sz4 {l : List UInt8} {k : Nat} {ws : List (List UInt8)} (h : CurL l k (dgs 2 :: dgs 3 :: dgs 2 :: dgs 3 :: ws)) : ∃ k', sizesM l 3 4 [] ⟨k, none⟩ = .ok [2, 3, 2, 3] ⟨k', none⟩ ∧ CurL l k' ws := by
  have e1 := h.num (b := none) (lo := 1) (hi := 3) (by decide) (by decide) (by decide) (by decide)
  have c1 := h.step.2.2
  have e2 := c1.num (b := none) (lo := 1) (hi := 3) (by decide) (by decide) (by decide) (by decide)
  have c2 := c1.step.2.2
  have e3 := c2.num (b := none) (lo := 1) (hi := 3) (by decide) (by decide) (by decide) (by decide)
  have c3 := c2.step.2.2
  have e4 := c3.num (b := none) (lo := 1) (hi := 3) (by decide) (by decide) (by decide) (by decide)
  refine ⟨_, ?_, c3.step.2.2⟩
  unfold sizesM
  rw [e1, RdR.bind_ok]
  show sizesM l 3 3 [2] _ = _
  unfold sizesM
  rw [show (limS (decide (32 < (2 : Int))) (k + 1) ⟨k + 1 + (dgs 2).length, none⟩) = ⟨k + 1 + (dgs 2).length, none⟩ from rfl, e2, RdR.bind_ok]
  show sizesM l 3 2 [2, 3] _ = _
  unfold sizesM
  rw [show ∀ p q : Nat, (limS (decide (32 < (3 : Int))) p ⟨q, none⟩) = ⟨q, none⟩ from fun _ _ => rfl, e3, RdR.bind_ok]
  show sizesM l 3 1 [2, 3, 2] _ = _
  unfold sizesM
  rw [show ∀ p q : Nat, (limS (decide (32 < (2 : Int))) p ⟨q, none⟩) = ⟨q, none⟩ from fun _ _ => rfl, e4, RdR.bind_ok]
  rfl
/-- The network that both tell. -/
def shF (L : List Ln3) (s0 o : Nat) : FileM := ⟨(0, 1), 1000, [2, 3, 2, 3], [⟨[0, 1], 0, L.map lnM⟩, ⟨[s0, 3], (o : Int), L.map lnM⟩]⟩
structure ShOk (L : List Ln3) (s0 o : Nat) : Prop where
  hs : s0 = 2 ∨ s0 = 0
  ho : o ≤ 1000
  hl : ∀ x ∈ L, x.1 < 2 ∧ x.2.1 < 3 ∧ x.2.2 ≤ 100000
  hn : L.length ≤ 6
  once : ((L.map lnM).map (·.1)).Pairwise (· ≠ ·)
def headW : List (List UInt8) := [dgs 4, dgs 3, dgs 2, dgs 1000, dgs 2, dgs 3, dgs 2, dgs 3]
def textS (ws : List (List UInt8)) : List UInt8 := [115] ++ txS ws
theorem gd_dgs {ws : List (List UInt8)} (h : ∀ w ∈ ws, ∃ n : Int, w = dgs n) : ∀ w ∈ ws, GdW w := fun w hw => by obtain ⟨n, rfl⟩ := h w hw; exact gd_itoa n
theorem head4 {ws : List (List UInt8)} (h : ∀ w ∈ ws, ∃ n : Int, w = dgs n) : ∃ k, CurL (textS (headW ++ ws)) k ws ∧ fileM (textS (headW ++ ws)) (-4611686018427387904) = endM (textS (headW ++ ws)) (0, 1) 1000 2 [2, 3, 2, 3] ⟨k, none⟩ := by
  obtain ⟨f1, f2⟩ := CurL.first [115] (headW ++ ws) ⟨by simp, by simp [isW]⟩ (gd_dgs fun w hw => by
    rcases List.mem_append.1 hw with hw | hw
    · simp only [headW, List.mem_cons, List.not_mem_nil, or_false] at hw
      rcases hw with rfl | rfl | rfl | rfl | rfl | rfl | rfl | rfl <;> exact ⟨_, rfl⟩
    · exact h w hw)
  change stepW (textS _) 0 = .word 0 1 at f1
  change CurL (textS _) 1 (dgs 4 :: dgs 3 :: dgs 2 :: dgs 1000 :: (dgs 2 :: dgs 3 :: dgs 2 :: dgs 3 :: ws)) at f2
  generalize textS (headW ++ ws) = l at f1 f2 ⊢
  obtain ⟨k5, r1, r2, r3⟩ := fileM_head (lo := -4611686018427387904) f1 f2 (by decide) (by decide) (by decide) (by decide) (by decide) (by decide) (by decide) (by decide) (by decide) (by decide)
  rw [show decide (2147483648 < (1000 : Int)) = false by decide, show decide (256 < (2 : Int)) = false by decide, show decide (64 < (4 : Int)) = false by decide, lim1_off, lim1_off, lim1_off] at r3
  obtain ⟨k6, z1, z2⟩ := sz4 r1
  refine ⟨k6, z2, ?_⟩
  rw [r3]
  show (sizesM l 3 4 [] _).bind _ = _
  rw [z1, RdR.bind_ok]
  rfl
def shWa (L : List Ln3) (s0 o : Nat) : List (List UInt8) := dgs (-2) :: dgs ((0 : Nat) : Int) :: dgs ((1 : Nat) : Int) :: dgs ((0 : Nat) : Int) :: dgs (L.length : Int) :: ((L.flatMap lnW) ++ [dgs 2, dgs (s0 : Int), dgs ((3 : Nat) : Int), dgs (o : Int), dgs (-1)])
def shWb (L : List Ln3) (s0 o : Nat) : List (List UInt8) := dgs 2 :: dgs ((0 : Nat) : Int) :: dgs ((1 : Nat) : Int) :: dgs ((0 : Nat) : Int) :: dgs (L.length : Int) :: ((L.flatMap lnW) ++ (dgs 2 :: dgs (s0 : Int) :: dgs ((3 : Nat) : Int) :: dgs (o : Int) :: dgs (L.length : Int) :: ((L.flatMap lnW) ++ [])))
theorem ln_dgs {L : List Ln3} : ∀ w ∈ L.flatMap lnW, ∃ n : Int, w = dgs n := by
  intro w hw
  obtain ⟨x, _, hx⟩ := List.mem_flatMap.1 hw
  simp only [lnW, List.mem_cons, List.not_mem_nil, or_false] at hx
  rcases hx with rfl | rfl | rfl <;> exact ⟨_, rfl⟩
theorem sharedA {L : List Ln3} {s0 o : Nat} (h : ShOk L s0 o) : ∃ st, fileM (textS (headW ++ shWa L s0 o)) (-4611686018427387904) = .ok (shF L s0 o) st ∧ st.big = none := by
  obtain ⟨k, c, e⟩ := head4 (ws := shWa L s0 o) (fun w hw => by
    simp only [shWa, List.mem_cons, List.mem_append, List.not_mem_nil, or_false] at hw
    rcases hw with rfl | rfl | rfl | rfl | rfl | hw | rfl | rfl | rfl | rfl | rfl
    all_goals first | exact ⟨_, rfl⟩ | exact ln_dgs w hw)
  generalize textS (headW ++ shWa L s0 o) = l at c e ⊢
  have hs : s0 < 4 ∧ s0 ≠ 3 ∧ ([2, 3, 2, 3] : List Nat).getD s0 0 = 2 := by rcases h.hs with r | r <;> subst r <;> decide
  obtain ⟨k1, e1, c1⟩ := fun_told (sizes := [2, 3, 2, 3]) (a := ⟨[], [], 0⟩) (L := L) (o := 0) (.inr rfl) rfl rfl (by decide) (by decide) (by decide) (by decide) (by decide) (by decide) h.hl (by have := h.hn; omega) h.once c
  obtain ⟨k2, e2, c2⟩ := fun_like (sizes := [2, 3, 2, 3]) (g := ⟨[0, 1], ((0 : Nat) : Int), L.map lnM⟩) (r := []) (a := ⟨[] ++ [⟨[0, 1], ((0 : Nat) : Int), L.map lnM⟩], [⟨[0, 1], ((0 : Nat) : Int), L.map lnM⟩], 0 + (L.length : Int)⟩) hs.2.2 rfl hs.1 (by decide) hs.2.1 (by decide) (by have := h.ho; omega) rfl rfl c1
  refine ⟨⟨k2, none⟩, ?_, rfl⟩
  rw [e]
  unfold endM
  unfold funsM
  rw [e1, RdR.bind_ok]
  unfold funsM
  rw [show (if (-2 : Int) < 0 then ([] : List FunM) ++ [⟨[0, 1], ((0 : Nat) : Int), L.map lnM⟩] else []) = [⟨[0, 1], ((0 : Nat) : Int), L.map lnM⟩] from rfl, e2, RdR.bind_ok]
  unfold funsM
  rw [RdR.bind_ok, c2.done.1]
  rfl
theorem sharedB {L : List Ln3} {s0 o : Nat} (h : ShOk L s0 o) : ∃ st, fileM (textS (headW ++ shWb L s0 o)) (-4611686018427387904) = .ok (shF L s0 o) st ∧ st.big = none := by
  obtain ⟨k, c, e⟩ := head4 (ws := shWb L s0 o) (fun w hw => by
    simp only [shWb, List.mem_cons, List.mem_append, List.not_mem_nil, or_false] at hw
    rcases hw with rfl | rfl | rfl | rfl | rfl | hw | rfl | rfl | rfl | rfl | rfl | hw
    all_goals first | exact ⟨_, rfl⟩ | exact ln_dgs w hw)
  generalize textS (headW ++ shWb L s0 o) = l at c e ⊢
  have hs : s0 < 4 ∧ s0 ≠ 3 ∧ ([2, 3, 2, 3] : List Nat).getD s0 0 = 2 := by rcases h.hs with r | r <;> subst r <;> decide
  obtain ⟨k1, e1, c1⟩ := fun_told (sizes := [2, 3, 2, 3]) (a := ⟨[], [], 0⟩) (L := L) (o := 0) (.inl rfl) rfl rfl (by decide) (by decide) (by decide) (by decide) (by decide) (by decide) h.hl (by have := h.hn; omega) h.once c
  obtain ⟨k2, e2, c2⟩ := fun_told (sizes := [2, 3, 2, 3]) (a := ⟨[] ++ [⟨[0, 1], ((0 : Nat) : Int), L.map lnM⟩], [], 0 + (L.length : Int)⟩) (L := L) (o := o) (.inl rfl) hs.2.2 rfl hs.1 (by decide) hs.2.1 (by decide) (by have := h.ho; omega) ⟨by show 0 ≤ (0 : Int) + (L.length : Int); omega, by have := h.hn; show (0 : Int) + (L.length : Int) ≤ 1000; omega⟩ h.hl (by have := h.hn; omega) h.once c1
  refine ⟨⟨k2, none⟩, ?_, rfl⟩
  rw [e]
  unfold endM
  unfold funsM
  rw [e1, RdR.bind_ok]
  unfold funsM
  rw [show (if (2 : Int) < 0 then ([] : List FunM) ++ [⟨[0, 1], ((0 : Nat) : Int), L.map lnM⟩] else []) = [] from rfl, e2, RdR.bind_ok]
  unfold funsM
  rw [RdR.bind_ok, c2.done.1]
  rfl
/-- As the program lays them. -/
def hdB : List UInt8 := [115, 32, 52, 32, 51, 32, 50, 32, 49, 48, 48, 48, 32, 50, 32, 51, 32, 50, 32, 51, 32]
def scB (s0 : Nat) : List UInt8 := if s0 = 2 then [50, 32, 51] else [48, 32, 51]
def lnB (L : List Ln3) : List UInt8 := txS (L.flatMap lnW)
theorem scB_eq {s0 : Nat} (h : s0 = 2 ∨ s0 = 0) : scB s0 = Lib.itoa (s0 : Int) ++ [32, 51] := by
  rcases h with rfl | rfl
  · show [50, 32, 51] = Lib.itoa 2 ++ [32, 51]; rw [itoa_2]; rfl
  · show [48, 32, 51] = Lib.itoa 0 ++ [32, 51]; rw [itoa_0]; rfl
theorem textA_eq {L : List Ln3} {s0 o : Nat} (h : s0 = 2 ∨ s0 = 0) : textS (headW ++ shWa L s0 o) = (((((((hdB ++ [45, 50, 32, 48, 32, 49, 32, 48, 32]) ++ Lib.itoa (L.length : Int)) ++ lnB L) ++ [32, 50, 32]) ++ scB s0) ++ [32]) ++ Lib.itoa (o : Int)) ++ [32, 45, 49] := by
  rw [scB_eq h]
  unfold textS headW shWa hdB lnB
  simp only [txS_app, txS_cons, txS_nil, dgs, List.cons_append, List.nil_append]
  rw [show Lib.itoa ((0 : Nat) : Int) = [48] from itoa_0, show Lib.itoa ((1 : Nat) : Int) = [49] from itoa_1, show Lib.itoa ((3 : Nat) : Int) = [51] from itoa_3, itoa_4, itoa_3, itoa_2, itoa_1000, itoa_m1, itoa_m2]
  simp
theorem textB_eq {L : List Ln3} {s0 o : Nat} (h : s0 = 2 ∨ s0 = 0) : textS (headW ++ shWb L s0 o) = (((((((((hdB ++ [50, 32, 48, 32, 49, 32, 48, 32]) ++ Lib.itoa (L.length : Int)) ++ lnB L) ++ [32, 50, 32]) ++ scB s0) ++ [32]) ++ Lib.itoa (o : Int)) ++ [32]) ++ Lib.itoa (L.length : Int)) ++ lnB L := by
  rw [scB_eq h]
  unfold textS headW shWb hdB lnB
  simp only [txS_app, txS_cons, txS_nil, dgs, List.cons_append, List.nil_append]
  rw [show Lib.itoa ((0 : Nat) : Int) = [48] from itoa_0, show Lib.itoa ((1 : Nat) : Int) = [49] from itoa_1, show Lib.itoa ((3 : Nat) : Int) = [51] from itoa_3, itoa_4, itoa_3, itoa_2, itoa_1000]
  simp
theorem bad3 : fileM (hdB ++ [45, 50, 32, 48, 32, 49, 32, 48, 32, 48, 32, 50, 32, 49, 32, 48, 32, 48, 32, 45, 49]) (-4611686018427387904) = .bad 4 40 := by kernel_rfl
theorem bad4 : fileM (hdB ++ [45, 50, 32, 48, 32, 49, 32, 48, 32, 48, 32, 50, 32, 48, 32, 49, 32, 48, 32, 45, 50]) (-4611686018427387904) = .bad 4 40 := by kernel_rfl
end Go.Proofs.YteocbgcgfllieaaGreatDoor
