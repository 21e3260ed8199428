/- What a function costs by the document (no statement of its own). -/
import Derived.Test.YteocbgcgfllieaaGreatDoorDe
import Derived.Test.YteocbgcgfllieaaGreatDoorMgT
namespace Go.Proofs.YteocbgcgfllieaaGreatDoor
open Go.RowKit
set_option linter.unusedVariables false
theorem less7 (a b : Int) (w : World) : Calls Tryz.prog 69 #[.int .i64 a, .int .i64 b] w fun e w' => e = .returned (.int .i64 (min a b)) ∧ w = w' := by
  by_cases h : a < b
  · have d : decide (a < b) = true := decide_eq_true h
    go_enter Tryz.func69, Tryz.ntmps69
    go_wp2
    go_ret
    exact ⟨by rw [Int.min_eq_left (by omega)]; rfl, rfl⟩
  · have d : decide (a < b) = false := decide_eq_false h
    go_enter Tryz.func69, Tryz.ntmps69
    go_wp2
    go_ret
    exact ⟨by rw [Int.min_eq_right (by omega)]; rfl, rfl⟩
/-- The cost of the last line of a tuple. -/
def lastC (o : Int) (ls : List LineM) (t : List Nat) : Int := ls.foldl (fun c y => if y.1 = t then y.2 else c) o
theorem lastC_take {o : Int} {ls : List LineM} {t : List Nat} {j : Nat} {y : LineM} (h : ls[j]? = some y) : lastC o (ls.take (j + 1)) t = if y.1 = t then y.2 else lastC o (ls.take j) t := by
  have hj : j < ls.length := (List.getElem?_eq_some_iff.1 h).1
  have e : ls.take (j + 1) = ls.take j ++ [y] := by
    rw [List.take_succ_eq_append_getElem hj]
    congr 2
    exact (List.getElem?_eq_some_iff.1 h).2
  rw [e]
  simp [lastC, List.foldl_append]
theorem lastC_funF (k : Int) (f : FunM) (t : List Nat) : min (lastC f.other f.lines t) k = funF k f t := by
  have key : ∀ (ls : List LineM) (c : Int) (g : List Nat → Int), g t = min c k → (topL k ls).foldl (fun g y => updF g y.1 y.2) g t = min (ls.foldl (fun c y => if y.1 = t then y.2 else c) c) k := by
    intro ls
    induction ls with
    | nil => intro c g hg; exact hg
    | cons y r ih =>
      intro c g hg
      have e : topL k (y :: r) = (y.1, min y.2 k) :: topL k r := rfl
      rw [e, List.foldl_cons, List.foldl_cons]
      refine ih _ _ ?_
      unfold updF
      by_cases h : y.1 = t
      · simp [h]
      · have h' : ¬ t = y.1 := fun e => h e.symm
        simp [h, h', hg]
  unfold funF putF lastC
  exact (key f.lines f.other (fun _ => min f.other k) rfl).symm
set_option maxRecDepth 100000 in
set_option maxHeartbeats 4000000 in
theorem cost7 (A1 A2 A3 At : Option Addr) (n1 c1 n2 c2 c3 ct : Nat) (o k : Int) (ls : List LineM) (t : List Nat) (w : World) (hL : LnV w A3 ls) (hT : I6 w At t) (hn : ls.length ≤ 100000) (hl : ∀ y ∈ ls, y.1.length ≤ 1000000) :
    Calls Tryz.prog 44 #[.agg #[.slice A1 n1 c1, .slice A2 n2 c2, .int .i64 o, .slice A3 ls.length c3], .slice At t.length ct, .int .i64 k] w fun e w' => e = .returned (.int .i64 (min (lastC o ls t) k)) ∧ Below w.heap.size w w' := by
  have LN := Lib.hid hL
  have IT := Lib.hid hT
  have HN := Lib.hid hn
  have HLL := Lib.hid hl
  clear hL hT hn hl
  have na := new_val w (.cells #[.slice A1 n1 c1, .slice A2 n2 c2, .int .i64 o, .slice A3 ls.length c3] 91)
  have NA := Lib.hid na
  have NW := Lib.hid (heap_alloc_new w (.cells #[.slice A1 n1 c1, .slice A2 n2 c2, .int .i64 o, .slice A3 ls.length c3] 91))
  clear na
  go_enter Tryz.func44, Tryz.ntmps44
  go_upto_region 1 with fail
  generalize w.alloc (.cells #[.slice A1 n1 c1, .slice A2 n2 c2, .int .i64 o, .slice A3 ls.length c3] 91) = w1 at NA NW ⊢
  generalize w.heap.size = F at NW ⊢
  have cc2 : w1.cell? ⟨F, 2, none⟩ = some (.int .i64 o) := by rw [cell_of_row _ _ _ _ _ _ NW.out]; rfl
  have cc3 : w1.cell? ⟨F, 3, none⟩ = some (.slice A3 ls.length c3) := by rw [cell_of_row _ _ _ _ _ _ NW.out]; rfl
  go_upto_block 0 with fail
  clear cc2 cc3
  go_wp2_with fail
  go_loopw [7, 9, 15] (fun c _ i wr => ∃ j : Nat, i = .int .i64 (j : Int) ∧ j ≤ ls.length ∧ c = .int .i64 (lastC o (ls.take j) t) ∧ Below w1.heap.size w1 wr) (fun _ _ i _ => ls.length - (intOf i).toNat)
  case atStart => exact ⟨0, rfl, Nat.zero_le _, rfl, Below.refl _ _⟩
  case round =>
    obtain ⟨j, rfl, hj, rfl, hB⟩ := hrel
    have HB := Lib.hid hB
    clear hB
    by_cases hlt : j < ls.length
    · have d1 : decide ((j : Int) < (ls.length : Int)) = true := decide_eq_true (by omega)
      obtain ⟨y, hy⟩ : ∃ y, ls[j]? = some y := ⟨_, List.getElem?_eq_getElem hlt⟩
      have KB := Lib.hid ((KeepD.below NA.out).trans (KeepD.below HB.out))
      have LV := LN.out.keep KB.out
      obtain ⟨g, of, cur, fr, rfl, -, hc⟩ : ∃ g of cur fr, A3 = some ⟨g, of, none⟩ ∧ wr.heap[g]? = some (.cells cur 134 fr) ∧ ∀ i x, ls[i]? = some x → wr.cell? ⟨g, of + i * 2 + 1, none⟩ = some (.int .i64 x.2) ∧ ∃ At ct, wr.cell? ⟨g, of + i * 2, none⟩ = some (.slice At x.1.length ct) ∧ I6 wr At x.1 := by
        rcases LV with h | h
        · rw [h] at hlt; exact absurd hlt (Nat.not_lt_zero _)
        · exact h
      obtain ⟨k1, Ay, cy, k0, iy⟩ := hc j y hy
      have VT := Lib.hid (lastC_take (o := o) (t := t) hy)
      have LY := Lib.hid (HLL.out y (List.mem_of_getElem? hy))
      have LTJ := Lib.hid hlt
      have n1' := new_val wr (.cells #[.slice Ay y.1.length cy, .int .i64 y.2] 134)
      have B1 := Lib.hid (HB.out.trans (n1'.mono HB.out.size))
      have IY := Lib.hid (iy.keep (KeepD.below n1'))
      have ITY := Lib.hid ((IT.out.keep KB.out).keep (KeepD.below n1'))
      have j2 : (0 : Int) ≤ (j : Int) := by omega
      have j3 : (j : Int) ≤ 100000 := by have := HN.out; omega
      clear LV hc hy iy n1'
      go_upto_region 5 with (first
        | ((with_reducible show wpList _ _ _ (Oper.mk none (.store 134 _ _) _ _ _ _ :: _) _ _); refine wpList_store_row rfl 134 (.tmp 9) (.tmp 18) rfl wr.heap.size #[.slice Ay y.1.length cy, .int .i64 y.2] rfl rfl 134 #[.slice none 0 0, .int .i64 0] (heap_alloc_new _ _) (by kernel_rfl) rfl (by simp [Value.oneCell']) ?_; rw [World.setRow_alloc_new])
        | fail)
      have X1 := Lib.hid (heap_alloc_new wr (.cells #[.slice Ay y.1.length cy, .int .i64 y.2] 134))
      clear k0 k1
      generalize wr.alloc (.cells #[.slice Ay y.1.length cy, .int .i64 y.2] 134) = w2 at X1 B1 IY ITY ⊢
      generalize wr.heap.size = B at X1 ⊢
      have b0 : w2.cell? ⟨B, 0, none⟩ = some (.slice Ay y.1.length cy) := by rw [cell_of_row _ _ _ _ _ _ X1.out]; rfl
      have SM := Lib.hid (same7 Ay At cy ct y.1 t w2 IY.out ITY.out LY.out)
      by_cases he : y.1 = t
      · have ht : (y.1 == t) = true := by simp [he]
        rw [ht] at SM
        have VE : Hid (lastC o (ls.take (j + 1)) t = y.2) := Lib.hid (by rw [VT.out, if_pos he])
        clear he ht
        go_wp2_with (first
          | (go_at_call 67; refine SM.out.mono ?_; rintro e w3 ⟨rfl, hb3⟩; have B3 := Lib.hid (B1.out.trans (hb3.mono B1.out.size)); have b1 : w3.cell? ⟨B, 1, none⟩ = some (.int .i64 y.2) := (by rw [hb3.cell (p := ⟨B, 1, none⟩) (Array.getElem?_eq_some_iff.1 X1.out).1, cell_of_row _ _ _ _ _ _ X1.out]; rfl); clear hb3)
          | fail)
        exact ⟨⟨j + 1, by simp, by have := LTJ.out; omega, by rw [VE.out], B3.out⟩, by simp [intOf]; have := LTJ.out; omega⟩
      · have ht : (y.1 == t) = false := by simpa using he
        rw [ht] at SM
        have VE : Hid (lastC o (ls.take (j + 1)) t = lastC o (ls.take j) t) := Lib.hid (by rw [VT.out, if_neg he])
        clear he ht
        go_wp2_with (first
          | (go_at_call 67; refine SM.out.mono ?_; rintro e w3 ⟨rfl, hb3⟩; have B3 := Lib.hid (B1.out.trans (hb3.mono B1.out.size)); clear hb3)
          | fail)
        exact ⟨⟨j + 1, by simp, by have := LTJ.out; omega, by rw [VE.out], B3.out⟩, by simp [intOf]; have := LTJ.out; omega⟩
    · have d1 : decide ((j : Int) < (ls.length : Int)) = false := decide_eq_false (by omega)
      have HJ := Lib.hid (show j = ls.length by omega)
      have LE := Lib.hid (fun W => less7 (lastC o (ls.take j) t) k W)
      go_wp2_with (first | (go_at_call 69; refine (LE.out _).mono ?_; rintro e w' ⟨rfl, rfl⟩) | fail)
      go_ret
      exact ⟨by rw [HJ.out, List.take_length]; rfl, then_ NA.out HB.out⟩
end Go.Proofs.YteocbgcgfllieaaGreatDoor
