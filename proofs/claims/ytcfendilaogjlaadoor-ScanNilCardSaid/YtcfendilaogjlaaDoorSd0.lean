/- Numbers out of words, as lists of bytes (no statement of its own). -/
import Derived.Test.YtcfendilaogjlaaDoorSc9
namespace Go.Proofs.YtcfendilaogjlaaDoor
open Go.RowKit
set_option linter.unusedVariables false
def digs (l : List UInt8) : List UInt8 := if l.head? = some 45 then l.tail else l
def okD (d : List UInt8) : Bool := !d.isEmpty && d.all fun c => decide (48 ≤ c.toNat) && decide (c.toNat ≤ 57)
def stepD (n : Nat) (c : UInt8) : Nat := n * 10 + (c.toNat - 48)
def numD (d : List UInt8) : Nat := d.foldl stepD 0
def readV (l : List UInt8) : Int := if okD (digs l) then (if l.head? = some 45 then -((min (numD (digs l)) 4611686018427387904 : Nat) : Int) else ((min (numD (digs l)) 4611686018427387904 : Nat) : Int)) else 0
def readE (l : List UInt8) : Int := if okD (digs l) then 0 else 4
theorem okD_iff (d : List UInt8) : okD d = true ↔ d ≠ [] ∧ ∀ c ∈ d, 48 ≤ c.toNat ∧ c.toNat ≤ 57 := by
  unfold okD
  cases d with
  | nil => simp
  | cons c d => simp
theorem fold_ge (d : List UInt8) (a : Nat) : a ≤ d.foldl stepD a := by
  induction d generalizing a with
  | nil => exact Nat.le_refl _
  | cons c d ih =>
    have := ih (stepD a c)
    unfold stepD at this
    show a ≤ d.foldl stepD (stepD a c)
    unfold stepD
    omega
theorem parseM (r : List UInt8) : ∀ acc, (∀ c ∈ r, 48 ≤ c.toNat ∧ c.toNat ≤ 57) → acc < 18446744073709551616 →
    Lib.parseUintM 18446744073709551615 acc r = if 18446744073709551616 ≤ r.foldl stepD acc then .range else .ok (r.foldl stepD acc) := by
  induction r with
  | nil =>
    intro acc _ h
    show Lib.NumEnd.ok acc = if 18446744073709551616 ≤ acc then .range else .ok acc
    rw [if_neg (by omega)]
  | cons c r ih =>
    intro acc hd h
    have hc := hd c (by simp)
    have hg := fold_ge r (stepD acc c)
    have e : stepD acc c = acc * 10 + (c.toNat - 48) := rfl
    show _ = if 18446744073709551616 ≤ r.foldl stepD (stepD acc c) then _ else Lib.NumEnd.ok (r.foldl stepD (stepD acc c))
    unfold Lib.parseUintM
    rw [if_pos hc]
    by_cases h1 : 1844674407370955162 ≤ acc
    · rw [if_pos h1, if_pos (by omega)]
    · rw [if_neg h1]
      by_cases h2 : 18446744073709551615 < acc * 10 + (c.toNat - 48)
      · rw [if_pos h2, if_pos (by omega)]
      · rw [if_neg h2]
        exact ih _ (fun x hx => hd x (by simp [hx])) (by omega)
theorem trim_digs (l : List UInt8) : Lib.trimPrefix l [45] = digs l := by
  cases l with
  | nil => rfl
  | cons c l =>
    unfold digs Lib.trimPrefix Lib.hasPrefix
    by_cases h : c = 45
    · subst h
      simp
    · have h' : ¬ (45 : UInt8) = c := fun e => h e.symm
      simp [h, h']
/-- What ParseInt finds of a number, cut off at Far. -/
theorem parse_digs (l : List UInt8) (h : okD (digs l) = true) :
    (∃ v, Lib.parseIntB 64 l = .ok v ∧ min (max v (-4611686018427387904)) 4611686018427387904 = readV l) ∨
    (Lib.parseIntB 64 l = .range ∧ min (max (Lib.intSat 64 l) (-4611686018427387904)) 4611686018427387904 = readV l) := by
  have ho := (okD_iff _).1 h
  have hv : readV l = if l.head? = some 45 then -((min (numD (digs l)) 4611686018427387904 : Nat) : Int) else ((min (numD (digs l)) 4611686018427387904 : Nat) : Int) := by unfold readV; rw [if_pos h]
  cases l with
  | nil => exact absurd rfl ho.1
  | cons c r =>
    have hp : ∀ d, d ≠ [] → (∀ c ∈ d, 48 ≤ c.toNat ∧ c.toNat ≤ 57) → Lib.parseUintB 64 d = if 18446744073709551616 ≤ numD d then .range else .ok (numD d) := by
      intro d hne hd
      unfold Lib.parseUintB
      rw [if_neg hne]
      exact parseM d 0 hd (by decide)
    by_cases hc : c = 45
    · subst hc
      have e1 : digs (45 :: r) = r := rfl
      rw [e1] at ho hv
      have hq := hp r ho.1 ho.2
      have e3 : Lib.intSat 64 (45 :: r) = -9223372036854775808 := by simp [Lib.intSat]
      rw [e3, hv]
      simp only [List.head?_cons, if_true]
      by_cases h1 : 18446744073709551616 ≤ numD r
      · rw [if_pos h1] at hq
        exact .inr ⟨by simp [Lib.parseIntB, hq], by omega⟩
      · rw [if_neg h1] at hq
        by_cases h2 : 9223372036854775808 < numD r
        · exact .inr ⟨by simp [Lib.parseIntB, hq, h2], by omega⟩
        · exact .inl ⟨-(numD r : Int), by simp [Lib.parseIntB, hq, h2], by omega⟩
    · have e1 : digs (c :: r) = c :: r := by unfold digs; simp [hc]
      rw [e1] at ho hv
      have hq := hp (c :: r) ho.1 ho.2
      have hd := ho.2 c (by simp)
      have hne : ¬ ((c :: r).head? = some 45) := by simp [hc]
      rw [if_neg hne] at hv
      have h43 : ¬ c.toNat = 43 := by omega
      have h45 : ¬ c.toNat = 45 := by omega
      have e3 : Lib.intSat 64 (c :: r) = 9223372036854775807 := by
        unfold Lib.intSat
        simp [h45]
      rw [e3, hv]
      by_cases h1 : 18446744073709551616 ≤ numD (c :: r)
      · rw [if_pos h1] at hq
        exact .inr ⟨by simp [Lib.parseIntB, h43, h45, hq], by omega⟩
      · rw [if_neg h1] at hq
        by_cases h2 : 9223372036854775808 ≤ numD (c :: r)
        · exact .inr ⟨by simp [Lib.parseIntB, h43, h45, hq, h2], by omega⟩
        · exact .inl ⟨(numD (c :: r) : Int), by simp [Lib.parseIntB, h43, h45, hq, h2], by omega⟩
end Go.Proofs.YtcfendilaogjlaaDoor
