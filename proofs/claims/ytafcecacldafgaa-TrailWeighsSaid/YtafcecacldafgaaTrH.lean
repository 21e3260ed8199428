/- The contract of trail's Set (no statement of its own). -/
import Derived.Test.YtafcecacldafgaaTrG
namespace Go.Proofs.Ytafcecacldafgaa
open Go.RowKit
open Go.Maps (Keyed)
set_option linter.unusedVariables false
def Tr.setc (T : Tr) (i : Nat) (v : Int) : Tr := if (T.cell i).1 = v then T else (T.keep ((T.cell i).1, (T.cell i).2, (i : Int))).put i (v, (T.era : Int))
theorem keep_era (T : Tr) (k : Tri) : (T.keep k).era = T.era := by unfold Tr.keep; split <;> try split
                                                                   all_goals rfl
set_option maxRecDepth 100000 in
set_option maxHeartbeats 1000000 in
theorem set_any {P : Nat → Prop} {w : World} {b i : Nat} {v : Int} {T : Tr} (h : TA P w b T) (hP : ∀ k, w.heap.size ≤ k → P k) (hm : T.marks.length < 1000000) (hk : T.kept.length < 1000000) (hi : i < T.size) (hl : i < 2097152) :
    Calls Try.prog 17 #[.pointer (some ⟨b, 0, none⟩), .int .i64 (i : Int), .int .i64 v] w (AndT P w b (T.setc i v) (.int .i64 0)) := by
  have HT := Lib.hid h
  have H1 := Lib.hid (has_of (i : Int) w (len_any h))
  have hin : isIn (i : Int) T.size = true := by simp [isIn]; omega
  rw [hin] at H1
  have H2 := Lib.hid (cell_any (i := i) h (by omega))
  have HP := Lib.hid hP
  have HM := Lib.hid hm
  have HK := Lib.hid hk
  have HL := Lib.hid hl
  unfold Tr.setc
  generalize hy : T.cell i = y at *
  clear hy
  by_cases hv : y.1 = v
  · rw [if_pos hv]
    have hv' : (y.1 == v) = true := by simp [hv]
    clear h hP hm hk hl hi hin
    go_enter Try.func17, Try.ntmps17
    go_wp2_with (first | (go_at_call 28; refine H1.out.mono ?_; rintro e w' ⟨rfl, rfl⟩) | (go_at_call 29; refine H2.out.mono ?_; rintro e w' ⟨rfl, hg⟩; have HG := Lib.hid hg; clear hg))
    go_ret
    exact ⟨rfl, HT.out.grown (World.grownBy.trans HG.out (World.grownBy_alloc _ _ _)), Kp.none (World.grownBy.trans HG.out (World.grownBy_alloc _ _ _))⟩
  · rw [if_neg hv]
    have hv' : (y.1 == v) = false := by simp [hv]
    clear h hP hm hk hl hi hin
    go_enter Try.func17, Try.ntmps17
    go_upto_region 7 with (first
      | (go_at_call 28; refine H1.out.mono ?_; rintro e w' ⟨rfl, rfl⟩)
      | (go_at_call 29; refine H2.out.mono ?_; rintro e w1 ⟨rfl, hg⟩; have HG := Lib.hid hg; clear hg))
    have HG2 : Hid (w.grownBy (w1.alloc (.cells #[.int .i64 y.1, .int .i64 y.2] 66)) none) := Lib.hid (World.grownBy.trans HG.out (World.grownBy_alloc _ _ _))
    have hb := heap_alloc_new w1 (.cells #[.int .i64 y.1, .int .i64 y.2] 66)
    have k0 : (w1.alloc (.cells #[.int .i64 y.1, .int .i64 y.2] 66)).cell? ⟨w1.heap.size, 0, none⟩ = some (.int .i64 y.1) := by rw [cell_of_row _ _ _ _ _ _ hb]; rfl
    have k1 : (w1.alloc (.cells #[.int .i64 y.1, .int .i64 y.2] 66)).cell? ⟨w1.heap.size, 1, none⟩ = some (.int .i64 y.2) := by rw [cell_of_row _ _ _ _ _ _ hb]; rfl
    have HT2 := Lib.hid (HT.out.grown HG2.out)
    have hpw : ∀ k, (w1.alloc (.cells #[.int .i64 y.1, .int .i64 y.2] 66)).heap.size ≤ k → P k := fun k hk => HP.out k (Nat.le_trans HG2.out.size hk)
    have C3 := Lib.hid (keep_any (x := y.1) (e := y.2) (a := (i : Int)) HT2.out hpw HM.out HK.out)
    have HKG := Lib.hid (Kp.none (P := P) HG2.out)
    clear hb hpw HT2 HG2 HG
    generalize w1.alloc (.cells #[.int .i64 y.1, .int .i64 y.2] 66) = w2 at *
    go_upto_region 8 with (go_at_call 30; refine C3.out.mono ?_; rintro e w3 ⟨rfl, ht3, hk3⟩)
    have HT3 := Lib.hid ht3
    have HK3 := Lib.hid (HKG.out.trans hk3)
    obtain ⟨u1, u2, u3, um, hd3, hp3⟩ := ht3.parts
    have c3 := hd3.c3
    rw [keep_era] at c3
    have C4 := Lib.hid (put_any (i := i) (x := v) (p := (T.era : Int)) ht3 (fun k hk => HP.out k (Nat.le_trans HK3.out.size hk)) HL.out)
    clear ht3 hk3 hd3 hp3
    go_wp2_with (go_at_call 31; refine C4.out.mono ?_; rintro e w4 ⟨rfl, ht4, hk4⟩)
    go_ret
    exact ⟨rfl, ht4, HK3.out.trans hk4⟩
end Go.Proofs.Ytafcecacldafgaa
