/- The contracts of queue's ahead, above and below (no statement of its own). -/
import Derived.Test.YtpklbaebfeoceaaQu2
namespace Go.Proofs.Ytpklbaebfeoceaa
open Go.RowKit
open Go.Maps (Keyed)
set_option linter.unusedVariables false
theorem sret_bool {a b : Bool} (h : a = b) : Ending.returned (.bool a) = .returned (.bool b) := by rw [h]
theorem sret_int {t : IntKind} {a b : Int} (h : a = b) : Ending.returned (.int t a) = .returned (.int t b) := by rw [h]
theorem World.grownBy_alloc_refl (w : World) : w.grownBy w none := ⟨rfl, rfl, rfl, Nat.le_refl _, fun _ _ _ => rfl⟩
theorem grown_drew {w w' : World} {row : Option Nat} (h : w.grownBy w' row) : w.grownBy w'.drew row := ⟨h.os, h.tape, h.output, h.size, h.block⟩
theorem grown_drewN {w w' : World} {row : Option Nat} (h : w.grownBy w' row) (n : Nat) : w.grownBy (w'.drewN n) row := ⟨h.os, h.tape, h.output, h.size, h.block⟩
def AheadP (r : Bool) (w : World) (e : Ending) (w' : World) : Prop := e = .returned (.bool r) ∧ w.grownBy w' none
set_option maxRecDepth 100000 in
set_option maxHeartbeats 2000000 in
theorem ahead_any (B b m i j : Nat) (N : Int) (v : Value) (l : List It) (w : World) (hH : Hd w b N v m) (hI : Its w B v l)
    (hi : i < l.length) (hj : j < l.length) (hl : l.length < 1000000) :
    Calls Try.prog 27 #[.pointer (some ⟨b, 0, none⟩), .int .i64 (i : Int), .int .i64 (j : Int)] w (AheadP (ltI l[i] l[j]) w) := by
  obtain ⟨g, c, rfl, hBg, hgl⟩ := hI.form (by omega)
  have c1 := hH.c1
  have d0 := hI.at0 i hi
  have d1 := hI.at1 i hi
  have d2 := hI.at0 j hj
  have d3 := hI.at1 j hj
  have hbl := hH.lt
  generalize hr : ltI l[i] l[j] = r
  obtain ⟨x1, hx1⟩ : ∃ x, l[i].1 = x := ⟨_, rfl⟩
  obtain ⟨p1, hp1⟩ : ∃ x, l[i].2 = x := ⟨_, rfl⟩
  obtain ⟨x2, hx2⟩ : ∃ x, l[j].1 = x := ⟨_, rfl⟩
  obtain ⟨p2, hp2⟩ : ∃ x, l[j].2 = x := ⟨_, rfl⟩
  unfold ltI at hr
  rw [hx1] at d0
  rw [hp1] at d1
  rw [hx2] at d2
  rw [hp2] at d3
  rw [hx1, hp1, hx2, hp2] at hr
  have HR := Lib.hid hr
  clear hx1 hp1 hx2 hp2 hr hH hI
  go_enter Try.func27, Try.ntmps27
  go_wp2_with fail
  go_region
  all_goals
    by_cases h1 : p1 < p2
    · have HE : Hid (r = true) := Lib.hid (by rw [← HR.out]; simp [h1])
      go_wp2_with fail
      go_ret
      exact ⟨sret_bool HE.out.symm, grown_drew ((World.grownBy_alloc w _ none).trans (World.grownBy_alloc _ _ none))⟩
    · by_cases h2 : p1 = p2
      · subst h2
        by_cases h3 : x1 < x2
        · have HE : Hid (r = true) := Lib.hid (by rw [← HR.out]; simp [h3])
          go_wp2_with fail
          go_ret
          exact ⟨sret_bool HE.out.symm, grown_drew ((World.grownBy_alloc w _ none).trans (World.grownBy_alloc _ _ none))⟩
        · have HE : Hid (r = false) := Lib.hid (by rw [← HR.out]; simp [h3])
          have h3' : decide (x1 < x2) = false := by simpa using h3
          clear h3
          go_wp2_with fail
          go_ret
          exact ⟨sret_bool HE.out.symm, grown_drew ((World.grownBy_alloc w _ none).trans (World.grownBy_alloc _ _ none))⟩
      · have HE : Hid (r = false) := Lib.hid (by rw [← HR.out]; simp [h1, h2])
        have h1' : decide (p1 < p2) = false := by simpa using h1
        have h2' : (p1 == p2) = false := by simpa using h2
        clear h1 h2
        go_wp2_with fail
        go_ret
        exact ⟨sret_bool HE.out.symm, grown_drew ((World.grownBy_alloc w _ none).trans (World.grownBy_alloc _ _ none))⟩
theorem above_any (i : Nat) (w : World) (hi : i < 1000000) : Calls Try.prog 25 #[.int .i64 (i : Int)] w fun e w' => e = .returned (.int .i64 (((i - 1) / 2 : Nat) : Int)) ∧ w = w' := by
  rcases i with _ | k
  · go_enter Try.func25, Try.ntmps25
    go_wp2
    go_ret
    exact ⟨rfl, rfl⟩
  · have e : (((k + 1 - 1) / 2 : Nat) : Int) = (k : Int) / 2 := by omega
    rw [e]
    clear e
    have e2 : ((k + 1 : Nat) : Int) - 1 = (k : Int) := by omega
    have h0 : (0 : Int) ≤ (k : Int) := by omega
    go_enter Try.func25, Try.ntmps25
    go_wp2
    go_ret
    exact ⟨rfl, rfl⟩
end Go.Proofs.Ytpklbaebfeoceaa
