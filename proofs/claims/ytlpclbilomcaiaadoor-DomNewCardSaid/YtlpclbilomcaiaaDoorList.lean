/- Lists of values as slices in memory, and contracts of the document's answers that read them (no statement of its own). Condition: at most 1000 values. -/
import Derived.Test.YtlpclbilomcaiaaDoorFirst
import Derived.OwnWalk
namespace Go.Proofs.YtlpclbilomcaiaaDoor
open Go.RowKit
set_option linter.unusedVariables false
/-- A slice that begins at A holds the values l. -/
def Lst (w : World) (A : Option Addr) (l : List Nat) : Prop :=
  l = [] ∨ ∃ g, A = some ⟨g, 0, none⟩ ∧ g < w.heap.size ∧ ∀ i, i < l.length → w.cell? ⟨g, i, none⟩ = some (.int .i64 ((l.getD i 0 : Nat) : Int))
theorem Lst.below {w w' : World} {A : Option Addr} {l : List Nat} {B : Nat} (h : Lst w A l) (hb : Below B w w') (hB : w.heap.size ≤ B) : Lst w' A l := by
  rcases h with rfl | ⟨g, rfl, hg, hc⟩
  · exact .inl rfl
  · exact .inr ⟨g, rfl, by have := hb.size; omega, fun i hi => (hb.cell (p := ⟨g, i, none⟩) (by show g < B; omega)).trans (hc i hi)⟩
theorem Lst.at_ {w : World} {A : Option Addr} {l : List Nat} (h : Lst w A l) {i : Nat} (hi : i < l.length) : ∃ g, A = some ⟨g, 0, none⟩ ∧ w.cell? ⟨g, i, none⟩ = some (.int .i64 ((l.getD i 0 : Nat) : Int)) := by
  rcases h with rfl | ⟨g, rfl, hg, hc⟩
  · exact absurd hi (by simp)
  · exact ⟨g, rfl, hc i hi⟩
def memI (l : List Nat) (x : Int) : Bool := l.any fun y => decide ((y : Int) = x)
theorem memI_no {l : List Nat} {x : Int} (h : ∀ i, i < l.length → ((l.getD i 0 : Nat) : Int) ≠ x) : memI l x = false := by
  unfold memI
  rw [List.any_eq_false]
  intro y hy
  obtain ⟨i, hi, rfl⟩ := List.getElem_of_mem hy
  have := h i hi
  rw [List.getD_eq_getElem?_getD, List.getElem?_eq_getElem hi] at this
  simpa using this
theorem memI_yes {l : List Nat} {x : Int} {p : Nat} (hp : p < l.length) (h : ((l.getD p 0 : Nat) : Int) = x) : memI l x = true := by
  unfold memI
  rw [List.any_eq_true]
  refine ⟨l[p], List.getElem_mem hp, ?_⟩
  rw [List.getD_eq_getElem?_getD, List.getElem?_eq_getElem hp] at h
  simpa using h
/-- The first place at which something holds, or none. -/
theorem first_place (q : Nat → Prop) (m : Nat) : (∀ i, i < m → ¬ q i) ∨ ∃ p, p < m ∧ (∀ i, i < p → ¬ q i) ∧ q p := by
  induction m with
  | zero => exact .inl fun i hi => absurd hi (by omega)
  | succ m ih =>
    rcases ih with h | ⟨p, hp, h1, h2⟩
    · by_cases hb : q m
      · exact .inr ⟨m, by omega, h, hb⟩
      · refine .inl fun i hi => ?_
        by_cases e : i = m
        · subst e; exact hb
        · exact h i (by omega)
    · exact .inr ⟨p, by omega, h1, h2⟩
theorem rhas_no (A : Option Addr) (n c : Nat) (l : List Nat) (x : Int) (w : World) (hn : n = l.length) (hl : n ≤ 1000) (hw : Lst w A l) (h : ∀ i, i < l.length → ((l.getD i 0 : Nat) : Int) ≠ x) :
    Calls Tryd.prog 14 #[.slice A n c, .int .i64 x] w fun e w' => e = .returned (.bool false) ∧ w = w' := by
  have HN := Lib.hid hn
  have HW := Lib.hid hw
  have HX := Lib.hid h
  clear hn hw h
  go_enter Tryd.func14, Tryd.ntmps14
  go_wp2_with fail
  go_loop [6, 9] (fun _ i => ∃ j : Nat, j ≤ n ∧ i = .int .i64 j) (fun _ i => n - (intOf i).toNat)
  case atStart => exact ⟨0, Nat.zero_le _, rfl⟩
  case round =>
    obtain ⟨j, hj, rfl⟩ := hrel
    by_cases hlt : j < n
    · have hjl : j < l.length := by have := HN.out; omega
      obtain ⟨g, rfl, hcell⟩ := HW.out.at_ hjl
      have hx := HX.out j hjl
      clear hjl
      generalize ((l.getD j 0 : Nat) : Int) = y at hcell hx
      have hx' : (y == x) = false := by rw [beq_eq_false_iff_ne]; exact hx
      clear hx
      go_wp2
      go_round
      case rel => exact ⟨j + 1, by omega, by go_num⟩
      case measure => simp [intOf]; omega
    · go_wp2
      go_ret
      exact ⟨rfl, rfl⟩
theorem rhas_yes (A : Option Addr) (n c p : Nat) (l : List Nat) (x : Int) (w : World) (hn : n = l.length) (hl : n ≤ 1000) (hw : Lst w A l) (hp : p < n) (hq : ∀ i, i < p → ((l.getD i 0 : Nat) : Int) ≠ x) (h : ((l.getD p 0 : Nat) : Int) = x) :
    Calls Tryd.prog 14 #[.slice A n c, .int .i64 x] w fun e w' => e = .returned (.bool true) ∧ w = w' := by
  have HN := Lib.hid hn
  have HW := Lib.hid hw
  have HX := Lib.hid h
  have HQ := Lib.hid hq
  clear hn hw h hq
  go_enter Tryd.func14, Tryd.ntmps14
  go_wp2_with fail
  go_loop [6, 9] (fun _ i => ∃ j : Nat, j ≤ p ∧ i = .int .i64 j) (fun _ i => n - (intOf i).toNat)
  case atStart => exact ⟨0, Nat.zero_le _, rfl⟩
  case round =>
    obtain ⟨j, hj, rfl⟩ := hrel
    have hlt : j < n := by omega
    have hjl : j < l.length := by have := HN.out; omega
    obtain ⟨g, rfl, hcell⟩ := HW.out.at_ hjl
    clear hjl
    by_cases e : j = p
    · have hx : ((l.getD j 0 : Nat) : Int) = x := by rw [e]; exact HX.out
      generalize ((l.getD j 0 : Nat) : Int) = y at hcell hx
      have hx' : (y == x) = true := by rw [beq_iff_eq]; exact hx
      clear hx e
      go_wp2
      go_ret
      exact ⟨rfl, rfl⟩
    · have hx := HQ.out j (by omega)
      have hjp : j + 1 ≤ p := by omega
      generalize ((l.getD j 0 : Nat) : Int) = y at hcell hx
      have hx' : (y == x) = false := by rw [beq_eq_false_iff_ne]; exact hx
      clear hx e
      go_wp2
      go_round
      case rel => exact ⟨j + 1, by omega, by go_num⟩
      case measure => simp [intOf]; omega
theorem rhas_any (A : Option Addr) (n c : Nat) (l : List Nat) (x : Int) (w : World) (hn : n = l.length) (hl : n ≤ 1000) (hw : Lst w A l) :
    Calls Tryd.prog 14 #[.slice A n c, .int .i64 x] w fun e w' => e = .returned (.bool (memI l x)) ∧ w = w' := by
  rcases first_place (fun i => ((l.getD i 0 : Nat) : Int) = x) l.length with h | ⟨p, hp, h1, h2⟩
  · rw [memI_no h]
    exact rhas_no A n c l x w hn hl hw h
  · rw [memI_yes hp h2]
    exact rhas_yes A n c p l x w hn hl hw (by omega) h1 h2
end Go.Proofs.YtlpclbilomcaiaaDoor
