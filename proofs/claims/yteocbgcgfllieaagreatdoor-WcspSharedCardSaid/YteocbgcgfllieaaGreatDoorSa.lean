/- Texts that share lines, or tell them twice (no statement of its own). -/
import Derived.Test.YteocbgcgfllieaaGreatDoorLb
namespace Go.Proofs.YteocbgcgfllieaaGreatDoor
set_option linter.unusedVariables false
/-- A line: two values, a cost. -/
abbrev Ln3 := Nat × Nat × Nat
def lnM (x : Ln3) : LineM := ([x.1, x.2.1], (x.2.2 : Int))
def lnW (x : Ln3) : List (List UInt8) := [dgs x.1, dgs x.2.1, dgs x.2.2]
theorem num1 {l : List UInt8} {k : Nat} {b : Option Nat} {lo hi : Int} {n : Nat} {ws : List (List UInt8)} (h : CurL l k (dgs (n : Int) :: ws)) (h1 : lo ≤ n) (h2 : (n : Int) ≤ hi) (h4 : (n : Int) ≤ 4611686018427387904) :
    ∃ k', numM l lo hi ⟨k, b⟩ = .ok ((n : Int), k + 1) ⟨k', b⟩ ∧ CurL l k' ws := ⟨_, h.num h1 h2 (by omega) h4, h.step.2.2⟩
theorem scope2 {l : List UInt8} {nv k x y : Nat} {b : Option Nat} {ws : List (List UInt8)} (h : CurL l k (dgs (x : Int) :: dgs (y : Int) :: ws)) (hx : x < nv) (hy : y < nv) (hxy : x ≠ y) (hn : nv ≤ 1000) :
    ∃ k', scopeM l nv 2 [] ⟨k, b⟩ = .ok [x, y] ⟨k', b⟩ ∧ CurL l k' ws := by
  obtain ⟨k1, e1, c1⟩ := num1 (b := b) (lo := 0) (hi := (nv : Int) - 1) h (by omega) (by omega) (by omega)
  obtain ⟨k2, e2, c2⟩ := num1 (b := b) (lo := 0) (hi := (nv : Int) - 1) c1 (by omega) (by omega) (by omega)
  refine ⟨k2, ?_, c2⟩
  unfold scopeM
  rw [e1, RdR.bind_ok]
  simp only [Int.toNat_natCast, List.contains_nil, Bool.false_eq_true, if_false, List.nil_append]
  unfold scopeM
  rw [e2, RdR.bind_ok]
  have hc : [x].contains y = false := by simp; exact fun e => hxy e.symm
  simp only [Int.toNat_natCast, hc, Bool.false_eq_true, if_false]
  rfl
theorem tuple2 {l : List UInt8} {sizes : List Nat} {v0 v1 k x y : Nat} {b : Option Nat} {ws : List (List UInt8)} (h : CurL l k (dgs (x : Int) :: dgs (y : Int) :: ws)) (h0 : sizes.getD v0 0 = 2) (h1 : sizes.getD v1 0 = 3) (hx : x < 2) (hy : y < 3) :
    ∃ k', tupleM l sizes [v0, v1] [] ⟨k, b⟩ = .ok [x, y] ⟨k', b⟩ ∧ CurL l k' ws := by
  obtain ⟨k1, e1, c1⟩ := num1 (b := b) (lo := 0) (hi := ((sizes.getD v0 0 : Nat) - 1 : Int)) h (by omega) (by rw [h0]; omega) (by omega)
  obtain ⟨k2, e2, c2⟩ := num1 (b := b) (lo := 0) (hi := ((sizes.getD v1 0 : Nat) - 1 : Int)) c1 (by omega) (by rw [h1]; omega) (by omega)
  refine ⟨k2, ?_, c2⟩
  unfold tupleM
  rw [e1, RdR.bind_ok]
  unfold tupleM
  rw [e2, RdR.bind_ok]
  simp only [Int.toNat_natCast]
  rfl
theorem lines2 {l : List UInt8} {sizes : List Nat} {v0 v1 : Nat} (h0 : sizes.getD v0 0 = 2) (h1 : sizes.getD v1 0 = 3) : ∀ (L : List Ln3) {k : Nat} {b : Option Nat} {acc : List LineM} {ws : List (List UInt8)},
    CurL l k ((L.flatMap lnW) ++ ws) → (∀ x ∈ L, x.1 < 2 ∧ x.2.1 < 3 ∧ x.2.2 ≤ 100000) → ((acc ++ L.map lnM).map (·.1)).Pairwise (· ≠ ·) →
    ∃ k', linesM l sizes [v0, v1] L.length acc ⟨k, b⟩ = .ok (acc ++ L.map lnM) ⟨k', b⟩ ∧ CurL l k' ws
  | [], k, b, acc, ws, h, _, _ => ⟨k, by simp [linesM], by simpa using h⟩
  | x :: L, k, b, acc, ws, h, hL, hp => by
    have hx := hL x (List.mem_cons_self ..)
    have h' : CurL l k (dgs (x.1 : Int) :: dgs (x.2.1 : Int) :: (dgs (x.2.2 : Int) :: ((L.flatMap lnW) ++ ws))) := by
      rw [List.flatMap_cons] at h
      exact h
    obtain ⟨k1, e1, c1⟩ := tuple2 (b := b) h' h0 h1 hx.1 hx.2.1
    obtain ⟨k2, e2, c2⟩ := num1 (b := b) (lo := 0) (hi := farZ) c1 (by omega) (by have := hx.2.2; show (x.2.2 : Int) ≤ 4611686018427387904; omega) (by have := hx.2.2; omega)
    have hp2 : ((acc ++ [lnM x] ++ L.map lnM).map (·.1)).Pairwise (· ≠ ·) := by simpa using hp
    obtain ⟨k3, e3, c3⟩ := lines2 h0 h1 L (b := b) (acc := acc ++ [lnM x]) c2 (fun y hy => hL y (List.mem_cons_of_mem _ hy)) hp2
    refine ⟨k3, ?_, c3⟩
    show linesM l sizes [v0, v1] (L.length + 1) acc ⟨k, b⟩ = _
    unfold linesM
    rw [e1, RdR.bind_ok, e2, RdR.bind_ok]
    have hany : acc.any (fun y => y.1 == [x.1, x.2.1]) = false := by
      rw [List.any_eq_false]
      intro y hy he
      have he' : y.1 = [x.1, x.2.1] := by simpa using he
      rw [List.map_append, List.pairwise_append] at hp
      exact hp.2.2 y.1 (List.mem_map_of_mem hy) [x.1, x.2.1] (by simp [lnM]) he'
    simp only [hany, Bool.false_eq_true, if_false]
    have e3' : linesM l sizes [v0, v1] L.length (acc ++ [([x.1, x.2.1], (x.2.2 : Int))]) ⟨k2, b⟩ = .ok (acc ++ [lnM x] ++ L.map lnM) ⟨k3, b⟩ := e3
    rw [e3']
    simp
/-- A function of two variables that tells its lines. -/
theorem fun_told {l : List UInt8} {sizes : List Nat} {v0 v1 k o : Nat} {ar : Int} {a : AccM} {L : List Ln3} {ws : List (List UInt8)} (har : ar = 2 ∨ ar = -2) (h0 : sizes.getD v0 0 = 2) (h1 : sizes.getD v1 0 = 3) (hv0 : v0 < sizes.length) (hv1 : v1 < sizes.length) (hne : v0 ≠ v1) (hsl : sizes.length ≤ 1000)
    (ho : o ≤ 100000) (ht : 0 ≤ a.told ∧ a.told ≤ 1000) (hL : ∀ x ∈ L, x.1 < 2 ∧ x.2.1 < 3 ∧ x.2.2 ≤ 100000) (hn : L.length ≤ 1000) (hp : ((L.map lnM).map (·.1)).Pairwise (· ≠ ·))
    (h : CurL l k (dgs ar :: dgs (v0 : Int) :: dgs (v1 : Int) :: dgs (o : Int) :: dgs (L.length : Int) :: ((L.flatMap lnW) ++ ws))) :
    ∃ k', funM l sizes a ⟨k, none⟩ = .ok ⟨a.funs ++ [⟨[v0, v1], (o : Int), L.map lnM⟩], if ar < 0 then a.shared ++ [⟨[v0, v1], (o : Int), L.map lnM⟩] else a.shared, a.told + (L.length : Int)⟩ ⟨k', none⟩ ∧ CurL l k' ws := by
  have e0 := h.num (b := none) (lo := -farZ) (hi := farZ) (by rcases har with e | e <;> subst e <;> decide) (by rcases har with e | e <;> subst e <;> decide) (by rcases har with e | e <;> subst e <;> decide) (by rcases har with e | e <;> subst e <;> decide)
  have c0 := h.step.2.2
  have hab : ar.natAbs = 2 := by rcases har with e | e <;> subst e <;> rfl
  obtain ⟨k1, e1, c1⟩ := scope2 (nv := sizes.length) (b := none) c0 hv0 hv1 hne hsl
  obtain ⟨k2, e2, c2⟩ := num1 (b := none) (lo := 0) (hi := farZ) c1 (by omega) (by show (o : Int) ≤ 4611686018427387904; omega) (by omega)
  obtain ⟨k3, e3, c3⟩ := num1 (b := none) (lo := -farZ) (hi := farZ) c2 (by show (-4611686018427387904 : Int) ≤ _; omega) (by show (L.length : Int) ≤ 4611686018427387904; omega) (by omega)
  obtain ⟨k4, e4, c4⟩ := lines2 h0 h1 L (b := none) (acc := []) c3 hL (by simpa using hp)
  refine ⟨k4, ?_, c4⟩
  have hpk : pickN sizes [v0, v1] = [2, 3] := by simp only [pickN, List.map_cons, List.map_nil, h0, h1]
  unfold funM
  rw [e0, RdR.bind_ok]
  simp only [hab]
  rw [e1, RdR.bind_ok, hpk, show (decide (6 < 2) || decide (4096 < cntM [2, 3] 1)) = false from rfl, limS_off, e2, RdR.bind_ok]
  unfold funLines
  rw [e3, RdR.bind_ok, if_neg (show ¬ ((L.length : Int)) < 0 by omega)]
  rw [show decide (16384 < a.told + (L.length : Int)) = false from decide_eq_false (by omega), limS_off]
  simp only [Int.toNat_natCast]
  rw [e4, RdR.bind_ok, RdR.bind_ok]
  rfl
/-- A function of two variables that shares the first one's lines. -/
theorem fun_like {l : List UInt8} {sizes : List Nat} {v0 v1 k o : Nat} {a : AccM} {g : FunM} {r : List FunM} {ws : List (List UInt8)} (h0 : sizes.getD v0 0 = 2) (h1 : sizes.getD v1 0 = 3) (hv0 : v0 < sizes.length) (hv1 : v1 < sizes.length) (hne : v0 ≠ v1) (hsl : sizes.length ≤ 1000)
    (ho : o ≤ 100000) (hg : a.shared = g :: r) (hgs : pickN sizes g.scope = [2, 3])
    (h : CurL l k (dgs 2 :: dgs (v0 : Int) :: dgs (v1 : Int) :: dgs (o : Int) :: dgs (-1) :: ws)) :
    ∃ k', funM l sizes a ⟨k, none⟩ = .ok ⟨a.funs ++ [⟨[v0, v1], (o : Int), g.lines⟩], a.shared, a.told⟩ ⟨k', none⟩ ∧ CurL l k' ws := by
  have e0 := h.num (b := none) (lo := -farZ) (hi := farZ) (by decide) (by decide) (by decide) (by decide)
  have c0 := h.step.2.2
  obtain ⟨k1, e1, c1⟩ := scope2 (nv := sizes.length) (b := none) c0 hv0 hv1 hne hsl
  obtain ⟨k2, e2, c2⟩ := num1 (b := none) (lo := 0) (hi := farZ) c1 (by omega) (by show (o : Int) ≤ 4611686018427387904; omega) (by omega)
  have e3 := c2.num (b := none) (lo := -farZ) (hi := farZ) (by decide) (by decide) (by decide) (by decide)
  refine ⟨_, ?_, c2.step.2.2⟩
  have hpk : pickN sizes [v0, v1] = [2, 3] := by simp only [pickN, List.map_cons, List.map_nil, h0, h1]
  unfold funM
  rw [e0, RdR.bind_ok]
  show (scopeM l sizes.length 2 [] _).bind _ = _
  rw [e1, RdR.bind_ok, hpk, show (decide (6 < (2 : Int).natAbs) || decide (4096 < cntM [2, 3] 1)) = false from rfl, limS_off, e2, RdR.bind_ok]
  unfold funLines
  rw [e3, RdR.bind_ok, if_pos (show (-1 : Int) < 0 by decide)]
  have hi : a.shared[(-(-1 : Int)).toNat - 1]? = some g := by rw [hg]; rfl
  simp only [hi]
  rw [if_pos (by rw [hgs, hpk]), RdR.bind_ok, if_neg (show ¬ (2 : Int) < 0 by decide)]
end Go.Proofs.YteocbgcgfllieaaGreatDoor
