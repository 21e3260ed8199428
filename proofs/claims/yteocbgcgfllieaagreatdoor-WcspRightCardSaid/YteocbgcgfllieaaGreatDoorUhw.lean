/- Contract of tuples' compare (no statement of its own). No condition. -/
import Derived.Test.YteocbgcgfllieaaGreatDoorUgw
import Derived.Deep.RegionHeld3
namespace Go.Proofs.YteocbgcgfllieaaGreatDoor
open Go.RowKit Go.Shelf Go.Sort Go.Lib
set_option linter.unusedVariables false
abbrev Six (w : World) (g : Nat) (t : List Nat) : Prop := w.cell? ⟨g, 0, none⟩ = some (szV t 0) ∧ w.cell? ⟨g, 1, none⟩ = some (szV t 1) ∧ w.cell? ⟨g, 2, none⟩ = some (szV t 2) ∧ w.cell? ⟨g, 3, none⟩ = some (szV t 3) ∧ w.cell? ⟨g, 4, none⟩ = some (szV t 4) ∧ w.cell? ⟨g, 5, none⟩ = some (szV t 5)
theorem Six.at_ {w : World} {g : Nat} {t : List Nat} (h : Six w g t) {j : Nat} (hj : j < 6) : w.cell? ⟨g, j, none⟩ = some (szV t j) := by
  obtain ⟨h0, h1, h2, h3, h4, h5⟩ := h
  rcases (by omega : j = 0 ∨ j = 1 ∨ j = 2 ∨ j = 3 ∨ j = 4 ∨ j = 5) with rfl | rfl | rfl | rfl | rfl | rfl <;> assumption
theorem compare_six (g h c d : Nat) (s t : List Nat) (w : World) (hs : Six w g s) (ht : Six w h t) :
    Calls Tryz.prog 103 #[.slice (some ⟨g, 0, none⟩) 6 c, .slice (some ⟨h, 0, none⟩) 6 d] w fun e w' => e = .returned (.int .i64 (cmpK s t)) ∧ w = w' := by
  have HS := Lib.hid hs
  have HT := Lib.hid ht
  clear hs ht
  go_enter Tryz.func103, Tryz.ntmps103
  go_wp2_with fail
  go_loop [5, 6, 7, 8, 11] (fun _ _ _ _ i => ∃ j : Nat, j ≤ 6 ∧ i = .int .i64 (j : Int) ∧ Hid (cmpF s t j (6 - j) = cmpK s t)) (fun _ _ _ _ i => 6 - (intOf i).toNat)
  case atStart => exact ⟨0, by omega, rfl, Lib.hid rfl⟩
  case round =>
    obtain ⟨j, hj, rfl, HC⟩ := hrel
    by_cases hlt : j < 6
    · have hc := HS.out.at_ hlt
      have hd := HT.out.at_ hlt
      have ji : (j : Int) < 6 := by omega
      have j0 : (0 : Int) ≤ (j : Int) := by omega
      have HN : Hid ((if cmp2 (nth s j) (nth t j) ≠ 0 then cmp2 (nth s j) (nth t j) else cmpF s t (j + 1) (6 - (j + 1))) = cmpK s t) := Lib.hid (by
        have h := HC.out
        rw [show 6 - j = (6 - (j + 1)) + 1 by omega] at h
        exact h)
      simp only [szV] at hc hd
      generalize nth s j = x at hc HN
      generalize nth t j = y at hd HN
      have jn : ¬ (6 ≤ (j : Int)) := by omega
      have hcj : decide (6 ≤ (j : Int)) = false := decide_eq_false jn
      go_wp2_with fail
      refine (compare_int _ _ _).mono ?_
      rintro e w' ⟨rfl, rfl⟩
      by_cases hz : cmp2 x y = 0
      · have dz : (cmp2 x y != 0) = false := by simp [hz]
        have HN2 : Hid (cmpF s t (j + 1) (6 - (j + 1)) = cmpK s t) := Lib.hid (by have h := HN.out; rwa [if_neg (by simp [hz])] at h)
        go_wp2_with fail
        go_round
        case rel => exact ⟨j + 1, by omega, by go_num, HN2⟩
        case measure => simp [intOf]; omega
      · have dz : (cmp2 x y != 0) = true := by rw [bne_iff_ne]; exact hz
        have HN2 : Hid (cmp2 x y = cmpK s t) := Lib.hid (by have h := HN.out; rwa [if_pos hz] at h)
        go_wp2_with fail
        go_ret
        exact ⟨congrArg (fun x => Ending.returned (.int .i64 x)) HN2.out, rfl⟩
    · obtain rfl : j = 6 := by omega
      have HZ : Hid ((0 : Int) = cmpK s t) := Lib.hid HC.out
      clear hlt hj
      go_wp2_with fail
      go_ret
      exact ⟨congrArg (fun x => Ending.returned (.int .i64 x)) HZ.out, rfl⟩
theorem compare_keys (s t : List Nat) (W : World) : Calls Tryz.prog 93 #[keyV s, keyV t] W fun e w' => e = .returned (.int .i64 (cmpK s t)) ∧ ∃ q os', w' = grow (W.drewN q) os' := by
  have n1 := new_val W (.cells (kyC s) 103)
  have n2 := new_val (W.alloc (.cells (kyC s) 103)) (.cells (kyC t) 103)
  have H1 : Hid (Six ((W.alloc (.cells (kyC s) 103)).alloc (.cells (kyC t) 103)).drew W.heap.size s) := Lib.hid (ky_cells ((n2.block _ (by simp)).trans (heap_alloc_new W (.cells (kyC s) 103))))
  have H2 : Hid (Six ((W.alloc (.cells (kyC s) 103)).alloc (.cells (kyC t) 103)).drew (W.heap.size + 1) t) := Lib.hid (ky_cells (alloc_two W _ _))
  clear n1 n2
  generalize hr : cmpK s t = r
  have HR := Lib.hid hr
  clear hr
  go_enter Tryz.func93, Tryz.ntmps93
  go_upto_region 1 with fail
  generalize h2 : ((W.alloc (.cells (kyC s) 103)).alloc (.cells (kyC t) 103)) = w2 at H1 H2 ⊢
  have E2 := Lib.hid h2
  clear h2
  go_region_held3 (fun W' => W' = w2.drew) (first | rfl | assumption)
    ((first | (go_at_call 103; refine (compare_six _ _ _ _ s t _ (by subst_vars; exact H1.out) (by subst_vars; exact H2.out)).mono ?_; rw [HR.out]; rintro e w' ⟨rfl, rfl⟩)))
  go_wp2_with fail
  go_ret
  refine ⟨rfl, 1, #[.cells (kyC s) 103, .cells (kyC t) 103], ?_⟩
  have e := E2.out
  rw [alloc_eq_grow, alloc_eq_grow, grow_grow] at e
  have hw : ∀ W' : World, W' = w2.drew → W' = grow (W.drewN 1) #[.cells (kyC s) 103, .cells (kyC t) 103] := by
    rintro W' rfl
    rw [← e]
    rfl
  exact hw _ rfl
def encK (t : List Nat) : List Value := [szV t 0, szV t 1, szV t 2, szV t 3, szV t 4, szV t 5]
theorem cmpLaysK (blk off size : Nat) (w : World) : CmpLays Tryz.prog 93 #[] encK 6 cmpK blk off size w := fun _ _ _ _ s t => compare_keys s t _
end Go.Proofs.YteocbgcgfllieaaGreatDoor
