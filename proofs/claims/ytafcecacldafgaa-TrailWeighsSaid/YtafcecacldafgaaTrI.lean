/- The contracts of trail's Grow and Mark, and what there isn't (no statement of its own). -/
import Derived.Test.YtafcecacldafgaaTrH
namespace Go.Proofs.Ytafcecacldafgaa
open Go.RowKit
open Go.Maps (Keyed)
set_option linter.unusedVariables false
theorem set_no {P : Nat → Prop} {w : World} {b : Nat} {i v : Int} {T : Tr} (h : TA P w b T) (hi : isIn i T.size = false) :
    Calls Try.prog 17 #[.pointer (some ⟨b, 0, none⟩), .int .i64 i, .int .i64 v] w (AndO w (.int .i64 3)) := by
  have H1 := Lib.hid (has_of i w (len_any h))
  rw [hi] at H1
  clear h hi
  go_enter Try.func17, Try.ntmps17
  go_wp2_with (go_at_call 28; refine H1.out.mono ?_; rintro e w' ⟨rfl, rfl⟩)
  go_ret
  exact ⟨rfl, rfl⟩
theorem set_nil (i v : Int) (w : World) : Calls Try.prog 17 #[.pointer none, .int .i64 i, .int .i64 v] w (AndO w (.int .i64 2)) := by
  go_enter Try.func17, Try.ntmps17
  go_wp2_with fail
  go_ret
  exact ⟨rfl, rfl⟩
theorem mark_nil (w : World) : Calls Try.prog 16 #[.pointer none] w (AndO w (.int .i64 0)) := by
  go_enter Try.func16, Try.ntmps16
  go_wp2_with fail
  go_ret
  exact ⟨rfl, rfl⟩
theorem grow_nil (n : Int) (w : World) : Calls Try.prog 24 #[.pointer none, .int .i64 n] w (AndO w (.int .i64 0)) := by
  go_enter Try.func24, Try.ntmps24
  go_wp2_with fail
  go_ret
  exact ⟨rfl, rfl⟩
theorem cells_nil (w : World) : Calls Try.prog 21 #[.pointer none] w (AndO w (.slice none 0 0)) := by
  go_enter Try.func21, Try.ntmps21
  go_wp2_with fail
  go_ret
  exact ⟨rfl, rfl⟩
theorem undo_of {L : Nat} {V : Option Addr} (i : Int) (w : World) (hl : Calls Try.prog 13 #[.pointer V] (w.alloc (.cells #[.pointer V] 24)) (AndO (w.alloc (.cells #[.pointer V] 24)) (.int .i64 (L : Int)))) (hi : isIn i L = false) :
    Calls Try.prog 19 #[.pointer V, .int .i64 i] w (AndG w (.int .i64 2)) := by
  have H1 := Lib.hid (open_of i _ hl)
  rw [hi] at H1
  clear hl hi
  go_enter Try.func19, Try.ntmps19
  go_wp2_with (go_at_call 32; refine H1.out.mono ?_; rintro e w' ⟨rfl, rfl⟩)
  go_ret
  exact ⟨rfl, World.grownBy_alloc _ _ _⟩
theorem forget_of {L : Nat} {V : Value} (i : Int) (w : World) (hl : Calls Try.prog 13 #[V] w (AndO w (.int .i64 (L : Int)))) (hi : isIn i L = false) :
    Calls Try.prog 23 #[V, .int .i64 i] w (AndO w (.int .i64 2)) := by
  have H1 := Lib.hid (open_of i w hl)
  rw [hi] at H1
  clear hl hi
  go_enter Try.func23, Try.ntmps23
  go_wp2_with (go_at_call 32; refine H1.out.mono ?_; rintro e w' ⟨rfl, rfl⟩)
  go_ret
  exact ⟨rfl, rfl⟩
def Tr.grow (T : Tr) (k : Nat) : Tr := { T with size := T.size + k }
set_option maxRecDepth 100000 in
set_option maxHeartbeats 1000000 in
theorem grow_any {P : Nat → Prop} {w : World} {b k : Nat} {n : Int} {T : Tr} (h : TA P w b T) (hn : max n 0 = (k : Int)) (hk : k < 1000000) (hs : T.size < 1000000) :
    Calls Try.prog 24 #[.pointer (some ⟨b, 0, none⟩), .int .i64 n] w (AndT P w b (T.grow k) (.int .i64 (T.size : Int))) := by
  obtain ⟨v1, v2, v3, m, h1, h2⟩ := h.parts
  have c0 := h1.c0
  have c0d : w.drew.cell? ⟨b, 0, none⟩ = some (.int .i64 (T.size : Int)) := c0
  have f0 : w.drew.frozen? ⟨b, 0, none⟩ = false := h1.frozen 0
  have e1 : IntKind.i64.wrap (9223372036854775807 - (T.size : Int)) = 9223372036854775807 - (T.size : Int) := IntWalk.i64_in _ (by omega)
  have e2 : IntKind.i64.wrap ((T.size : Int) + (k : Int)) = (T.size : Int) + (k : Int) := IntWalk.i64_in _ (by omega)
  have e3 : ¬ (9223372036854775807 - (T.size : Int) < (k : Int)) := by omega
  have HH := Lib.hid h1
  have HP := Lib.hid h2
  clear h h1 h2 hk hs
  have fin : TA P (w.setCell ⟨b, 0, none⟩ (.int .i64 ((T.size : Int) + (k : Int)))).drew b (T.grow k) ∧ Kp P w (w.setCell ⟨b, 0, none⟩ (.int .i64 ((T.size : Int) + (k : Int)))).drew := by
    have e4 : ((T.size : Int) + (k : Int)) = ((T.size + k : Nat) : Int) := by omega
    rw [e4]
    obtain ⟨hs, hg⟩ := HH.out.set0 (T.size + k)
    exact ⟨(Parts.ta (T := T.grow k) (HP.out.keptB HH.out hg) hs).grown (grown_drew (World.grownBy_refl _)), (Kp.one hg HP.out.pb).trans (Kp.none (grown_drew (World.grownBy_refl _)))⟩
  have FIN := Lib.hid fin
  clear fin
  by_cases hneg : n < 0
  · obtain rfl : k = 0 := by omega
    clear hn
    go_enter Try.func24, Try.ntmps24
    go_upto_region 4 with fail
    go_region
    all_goals (
      go_wp2_with fail
      go_ret
      exact ⟨rfl, FIN.out.1, FIN.out.2⟩)
  · obtain rfl : n = (k : Int) := by omega
    clear hn
    go_enter Try.func24, Try.ntmps24
    go_upto_region 4 with fail
    go_region
    all_goals (
      go_wp2_with fail
      go_ret
      exact ⟨rfl, FIN.out.1, FIN.out.2⟩)
def Tr.mark (T : Tr) : Tr := { T with era := T.era + 1, marks := T.marks ++ [(((T.era + 1 : Nat) : Int), (T.size : Int), (T.kept.length : Int))] }
theorem sret_i64 {a b : Int} (h : a = b) : (Ending.returned (.int .i64 a)) = .returned (.int .i64 b) := by rw [h]
theorem w64 {n : Nat} (h : n < 1000000) : wrap64 (n : Int) = (n : Int) := IntWalk.wrap64_in _ (by omega)
abbrev HoldN (b : Nat) (sz era : Nat) (v3 : Value) (W : World) : Prop :=
  W.cell? ⟨b, 0, none⟩ = some (.int .i64 (sz : Int)) ∧ W.cell? ⟨b, 3, none⟩ = some (.int .i64 (era : Int)) ∧ W.cell? ⟨b, 5, none⟩ = some v3
theorem HoldN.of {w : World} {b m sz era : Nat} {v1 v2 v3 : Value} (h : Hd w b sz era v1 v2 v3 m) : HoldN b sz era v3 w := ⟨h.c0, h.c3, h.c5⟩
set_option maxRecDepth 100000 in
set_option maxHeartbeats 1000000 in
theorem mark_any {P : Nat → Prop} {w : World} {b : Nat} {T : Tr} (h : TA P w b T) (hP : ∀ k, w.heap.size ≤ k → P k) (hm : T.marks.length < 1000000) (he : T.era < 1000000) :
    Calls Try.prog 16 #[.pointer (some ⟨b, 0, none⟩)] w (AndT P w b T.mark (.int .i64 (T.marks.length : Int))) := by
  obtain ⟨v1, v2, v3, m, h1, h2⟩ := h.parts
  have c3 := h1.c3
  have f3 := h1.frozen 3
  obtain ⟨E, hE⟩ : ∃ E, T.era + 1 = E := ⟨_, rfl⟩
  have e1 : IntKind.i64.wrap ((T.era : Int) + 1) = (E : Int) := by rw [IntWalk.i64_in _ (by omega)]; omega
  have hmk : T.mark = { T with era := E, marks := T.marks ++ [((E : Int), (T.size : Int), (T.kept.length : Int))] } := by unfold Tr.mark; rw [hE]
  rw [hmk]
  obtain ⟨hs, hg⟩ := h1.set3 E
  have h2s := h2.keptB h1 hg
  have HK := Lib.hid (Kp.one (P := P) hg h2.pb)
  have HH := Lib.hid hs
  have HP := Lib.hid h2s
  have HPP := Lib.hid (fun k (hk : (w.setCell ⟨b, 3, none⟩ (.int .i64 (E : Int))).heap.size ≤ k) => hP k (Nat.le_trans hg.size hk))
  have HM := Lib.hid hm
  clear h h1 h2 hs hg h2s he hP hm hE hmk
  go_enter Try.func16, Try.ntmps16
  go_upto_region 4 with fail
  generalize w.setCell ⟨b, 3, none⟩ (.int .i64 (E : Int)) = w1 at *
  clear c3 f3 e1
  obtain ⟨i0, hi, hz0, hz1, hz2⟩ := info_parts info_mark
  have I0 := Lib.hid hi
  have Z0 := Lib.hid hz0
  have Z1 := Lib.hid hz1
  have Z2 := Lib.hid hz2
  obtain ⟨A2, c2, hv2, _⟩ := row_form HP.out.r2
  have HV2 := Lib.hid hv2
  obtain ⟨A3, c3, rfl, _⟩ := row_form HP.out.r3
  clear hv2 hi hz0 hz1 hz2
  refine wp_region_noPanic ?_
  refine wp_region_held_drew (S := fun W => HoldN b T.size E (.slice A3 T.kept.length c3) W) (by kernel_rfl) (HoldN.of (HH.out.kept (grown_drew (World.grownBy_refl _)) (by simp))) (fun hHeld => ?_)
  have HK' : Hid (Kp P w w1.drew) := Lib.hid (HK.out.trans (Kp.none (grown_drew (World.grownBy_refl _))))
  have HH' : Hid (Hd w1.drew b T.size E v1 v2 (.slice A3 T.kept.length c3) m) := HH
  have HP' := Lib.hid (HP.out.grown (grown_drew (World.grownBy_refl w1)))
  have HPP' : Hid (∀ k, w1.drew.heap.size ≤ k → P k) := HPP
  clear HK HH HP HPP
  generalize w1.drew = w4 at *
  have HK := HK'
  have HH := HH'
  have HP := HP'
  have HPP := HPP'
  clear HK' HH' HP' HPP'
  refine wpAnyH_take (i := 0) (v := ?v501) rfl (by kernel_rfl) (by kernel_rfl) (by kernel_rfl) (fun _ _ _ h => h) (Or.inl ⟨by rfl, ?y501⟩) (by assumption) ?r501
  case y501 => ((intro w hSw; (try dsimp only at hSw); go_simp); try with_reducible rfl)
  try simp only [Act.put, List.getElem_toArray, List.getElem_cons_zero, List.setIfInBounds_toArray, List.set_cons_zero, List.set_cons_succ]
  refine wpAnyH_take (i := 1) (v := ?v502) rfl (by kernel_rfl) (by kernel_rfl) (by kernel_rfl) (fun _ _ _ h => h) (Or.inl ⟨by rfl, ?y502⟩) (by assumption) ?r502
  case y502 => ((intro w hSw; (try dsimp only at hSw); go_simp); try with_reducible rfl)
  try simp only [Act.put, List.getElem_toArray, List.getElem_cons_succ, List.getElem_cons_zero, List.setIfInBounds_toArray, List.set_cons_zero, List.set_cons_succ]
  refine wpAnyH_take (i := 2) (v := ?v503) rfl (by kernel_rfl) (by kernel_rfl) (by kernel_rfl) (fun _ _ _ h => h) (Or.inl ⟨by rfl, ?y503⟩) (by assumption) ?r503
  case y503 => ((intro w hSw; (try dsimp only at hSw); go_simp); try with_reducible rfl)
  try simp only [Act.put, List.getElem_toArray, List.getElem_cons_succ, List.getElem_cons_zero, List.setIfInBounds_toArray, List.set_cons_zero, List.set_cons_succ]
  refine wpAnyH_take (i := 3) (v := ?v504) rfl (by kernel_rfl) (by kernel_rfl) (by kernel_rfl) (fun _ _ _ h => h) (Or.inl ⟨by rfl, ?y504⟩) (by assumption) ?r504
  case y504 => ((intro w hSw; (try dsimp only at hSw); go_simp); try with_reducible rfl)
  try simp only [Act.put, List.getElem_toArray, List.getElem_cons_succ, List.getElem_cons_zero, List.setIfInBounds_toArray, List.set_cons_zero, List.set_cons_succ]
  refine wpAnyH_take (i := 5) (v := ?v505) rfl (by kernel_rfl) (by kernel_rfl) (by kernel_rfl) (fun _ _ _ h => h) (Or.inl ⟨by rfl, ?y505⟩) (by assumption) ?r505
  case y505 => ((intro w hSw; (try dsimp only at hSw); go_simp); try with_reducible rfl)
  try simp only [Act.put, List.getElem_toArray, List.getElem_cons_succ, List.getElem_cons_zero, List.setIfInBounds_toArray, List.set_cons_zero, List.set_cons_succ]
  refine wpAnyH_take (i := 6) (v := ?v506) rfl (by kernel_rfl) (by kernel_rfl) (by kernel_rfl) (fun _ _ _ h => h) (Or.inl ⟨by rfl, ?y506⟩) (by assumption) ?r506
  case y506 => ((intro w hSw; (try dsimp only at hSw); go_simp); try with_reducible rfl)
  try simp only [Act.put, List.getElem_toArray, List.getElem_cons_succ, List.getElem_cons_zero, List.setIfInBounds_toArray, List.set_cons_zero, List.set_cons_succ]
  refine wpAnyH_take (i := 7) (v := ?v507) rfl (by kernel_rfl) (by kernel_rfl) (by kernel_rfl) (fun _ _ _ h => h) (Or.inl ⟨by rfl, ?y507⟩) (by assumption) ?r507
  case y507 => ((intro w hSw; (try dsimp only at hSw); go_simp); try with_reducible rfl)
  try simp only [Act.put, List.getElem_toArray, List.getElem_cons_succ, List.getElem_cons_zero, List.setIfInBounds_toArray, List.set_cons_zero, List.set_cons_succ]
  refine wpAnyH_take (i := 8) (v := ?v508) rfl (by kernel_rfl) (by kernel_rfl) (by kernel_rfl) (fun _ _ _ h => h) (Or.inl ⟨by rfl, ?y508⟩) (by assumption) ?r508
  case y508 => ((intro w hSw; (try dsimp only at hSw); go_simp); try with_reducible rfl)
  try simp only [Act.put, List.getElem_toArray, List.getElem_cons_succ, List.getElem_cons_zero, List.setIfInBounds_toArray, List.set_cons_zero, List.set_cons_succ]
  refine wpAnyH_take (i := 9) (v := ?v509) rfl (by kernel_rfl) (by kernel_rfl) (by kernel_rfl) (fun _ _ _ h => h) (Or.inl ⟨by rfl, ?y509⟩) (by assumption) ?r509
  case y509 => ((intro w hSw; (try dsimp only at hSw); go_simp); try with_reducible rfl)
  try simp only [Act.put, List.getElem_toArray, List.getElem_cons_succ, List.getElem_cons_zero, List.setIfInBounds_toArray, List.set_cons_zero, List.set_cons_succ]
  refine wpAnyH_take (i := 10) (v := ?v510) rfl (by kernel_rfl) (by kernel_rfl) (by kernel_rfl) (fun _ _ _ h => h) (Or.inl ⟨by rfl, ?y510⟩) (by assumption) ?r510
  case y510 => ((intro w hSw; (try dsimp only at hSw); go_simp); try with_reducible rfl)
  try simp only [Act.put, List.getElem_toArray, List.getElem_cons_succ, List.getElem_cons_zero, List.setIfInBounds_toArray, List.set_cons_zero, List.set_cons_succ]
  refine wpAnyH_take (i := 11) (v := ?v511) rfl (by kernel_rfl) (by kernel_rfl) (by kernel_rfl) (fun _ _ _ h => h) (Or.inl ⟨by rfl, ?y511⟩) (by assumption) ?r511
  case y511 => ((intro w hSw; (try dsimp only at hSw); go_simp); try with_reducible rfl)
  try simp only [Act.put, List.getElem_toArray, List.getElem_cons_succ, List.getElem_cons_zero, List.setIfInBounds_toArray, List.set_cons_zero, List.set_cons_succ]
  refine wpAnyH_take (i := 12) (v := ?v512) rfl (by kernel_rfl) (by kernel_rfl) (by kernel_rfl) (fun _ _ _ h => h) (Or.inl ⟨by rfl, ?y512⟩) (by assumption) ?r512
  case y512 => ((intro w hSw; (try dsimp only at hSw); go_simp); try with_reducible rfl)
  try simp only [Act.put, List.getElem_toArray, List.getElem_cons_succ, List.getElem_cons_zero, List.setIfInBounds_toArray, List.set_cons_zero, List.set_cons_succ]
  refine wpAnyH_take (i := 13) (v := ?v513) rfl (by kernel_rfl) (by kernel_rfl) (by kernel_rfl) (fun _ _ _ h => h) (Or.inl ⟨by rfl, ?y513⟩) (by assumption) ?r513
  case y513 => ((intro w hSw; (try dsimp only at hSw); go_simp); try with_reducible rfl)
  try simp only [Act.put, List.getElem_toArray, List.getElem_cons_succ, List.getElem_cons_zero, List.setIfInBounds_toArray, List.set_cons_zero, List.set_cons_succ]
  refine wpAnyH_take (i := 14) (v := ?v514) rfl (by kernel_rfl) (by kernel_rfl) (by kernel_rfl) (fun _ _ _ h => h) (Or.inl ⟨by rfl, ?y514⟩) (by assumption) ?r514
  case y514 => ((intro w hSw; (try dsimp only at hSw); go_simp); try with_reducible rfl)
  try simp only [Act.put, List.getElem_toArray, List.getElem_cons_succ, List.getElem_cons_zero, List.setIfInBounds_toArray, List.set_cons_zero, List.set_cons_succ]
  refine wpAnyH_take (i := 15) (v := ?v515) rfl (by kernel_rfl) (by kernel_rfl) (by kernel_rfl) (fun _ _ _ h => h) (Or.inl ⟨by rfl, ?y515⟩) (by assumption) ?r515
  case y515 => ((intro w hSw; (try dsimp only at hSw); go_simp); try with_reducible rfl)
  try simp only [Act.put, List.getElem_toArray, List.getElem_cons_succ, List.getElem_cons_zero, List.setIfInBounds_toArray, List.set_cons_zero, List.set_cons_succ]
  refine wpAnyH_take (i := 16) (v := ?v516) rfl (by kernel_rfl) (by kernel_rfl) (by kernel_rfl) (fun _ _ _ h => h) (Or.inl ⟨by rfl, ?y516⟩) (by assumption) ?r516
  case y516 => ((intro w hSw; (try dsimp only at hSw); go_simp); try with_reducible rfl)
  try simp only [Act.put, List.getElem_toArray, List.getElem_cons_succ, List.getElem_cons_zero, List.setIfInBounds_toArray, List.set_cons_zero, List.set_cons_succ]
  refine wpAnyH_take (i := 17) (v := ?v517) rfl (by kernel_rfl) (by kernel_rfl) (by kernel_rfl) (fun _ _ _ h => h) (Or.inl ⟨by rfl, ?y517⟩) (by assumption) ?r517
  case y517 => ((intro w hSw; (try dsimp only at hSw); go_simp); try with_reducible rfl)
  try simp only [Act.put, List.getElem_toArray, List.getElem_cons_succ, List.getElem_cons_zero, List.setIfInBounds_toArray, List.set_cons_zero, List.set_cons_succ]
  refine wpAnyH_take (i := 18) (v := ?v518) rfl (by kernel_rfl) (by kernel_rfl) (by kernel_rfl) (fun _ _ _ h => h) (Or.inl ⟨by rfl, ?y518⟩) (by assumption) ?r518
  case y518 => ((intro w hSw; (try dsimp only at hSw); go_simp); try with_reducible rfl)
  try simp only [Act.put, List.getElem_toArray, List.getElem_cons_succ, List.getElem_cons_zero, List.setIfInBounds_toArray, List.set_cons_zero, List.set_cons_succ]
  refine wpAnyH_ready (rs := [4, 19]) (by kernel_rfl) (by simp) ?_
  refine AllReadyH.cons rfl (fun K hK => ?_) ?_
  · have ac : w4.cell? ⟨b, 4, none⟩ = some v2 := HH.out.c4
    rw [HV2.out] at ac
    go_simp
    clear ac
    refine hK.out _ _ (hHeld) (fun hHeld' => ?_)
    clear hHeld
    have hHeld := hHeld'
    clear hHeld'
    clear hK K
    try simp only [Act.put, List.getElem_toArray, List.getElem_cons_succ, List.getElem_cons_zero, List.setIfInBounds_toArray, List.set_cons_zero, List.set_cons_succ]
    refine wpAnyH_ready (rs := [19]) (by kernel_rfl) (by simp) ?_
    refine AllReadyH.cons rfl (fun K hK => ?_) ?_
    · go_simp
      have hdn : w4.grownBy (w4.alloc (.cells #[.int .i64 (E : Int), .int .i64 (T.size : Int), .int .i64 (T.kept.length : Int)] 63)) none := World.grownBy_alloc _ _ _
      have HH3 := Lib.hid (HH.out.kept hdn (by simp))
      have HP3 := Lib.hid (HP.out.grown hdn)
      have HN3 := Lib.hid (World.news_of_block (heap_alloc_new w4 (.cells #[.int .i64 (E : Int), .int .i64 (T.size : Int), .int .i64 (T.kept.length : Int)] 63)))
      have HA3 := Lib.hid hdn
      have HSZ : Hid ((w4.alloc (.cells #[.int .i64 (E : Int), .int .i64 (T.size : Int), .int .i64 (T.kept.length : Int)] 63)).heap.size = w4.heap.size + 1) := Lib.hid (by simp)
      refine hK.out _ _ (HoldN.of HH3.out) (fun hHeld' => ?_)
      clear hHeld
      have hHeld := hHeld'
      clear hHeld'
      clear hdn
      generalize w4.alloc (.cells #[.int .i64 (E : Int), .int .i64 (T.size : Int), .int .i64 (T.kept.length : Int)] 63) = w5 at hHeld HH3 HP3 HN3 HA3 HSZ ⊢
      clear hK K
      try simp only [Act.put, List.getElem_toArray, List.getElem_cons_succ, List.getElem_cons_zero, List.setIfInBounds_toArray, List.set_cons_zero, List.set_cons_succ]
      refine wpAnyH_ready (rs := [20]) (by kernel_rfl) (by simp) ?_
      refine AllReadyH.cons rfl (fun K hK => ?_) ?_
      · refine step_append_lies _ rfl (.tmp 16) (.tmp 31) 56 rfl 0 63 i0 (.agg #[.int .i64 0, .int .i64 0, .int .i64 0]) 3 24 Try.underlying56 I0.out Z0.out Z1.out Z2.out rfl (by decide) v2 T.marks.length (flat3 T.marks) HV2.out.symm HP3.out.r2 ⟨w4.heap.size, 0, none⟩ 1 1 [.int .i64 (E : Int), .int .i64 (T.size : Int), .int .i64 (T.kept.length : Int)] rfl rfl HN3.out (by simp [Value.oneCell']) (by decide) (by have := HM.out; unfold maxLen; omega) (by have := HM.out; omega) (Nat.zero_le _) (w4.heap.size + 1) HSZ.out ?_
        intro g' cap' w' hO hG hL hlt
        have HH5 := Lib.hid (hd_row HH3.out HP3.out.r2 (by decide) hG)
        refine hK.out _ _ (HoldN.of HH5.out) (fun hHeld' => ?_)
        clear hHeld
        have hHeld := hHeld'
        clear hHeld'
        clear hK K
        try simp only [Act.put, List.getElem_toArray, List.getElem_cons_succ, List.getElem_cons_zero, List.setIfInBounds_toArray, List.set_cons_zero, List.set_cons_succ]
        refine wpAnyH_take (i := 21) (v := ?v519) rfl (by kernel_rfl) (by kernel_rfl) (by kernel_rfl) (fun _ _ _ h => h) (Or.inl ⟨by rfl, ?y519⟩) (by assumption) ?r519
        case y519 => ((intro w hSw; (try dsimp only at hSw); go_simp); try with_reducible rfl)
        try simp only [Act.put, List.getElem_toArray, List.getElem_cons_succ, List.getElem_cons_zero, List.setIfInBounds_toArray, List.set_cons_zero, List.set_cons_succ]
        refine wpAnyH_take (i := 22) (v := ?v520) rfl (by kernel_rfl) (by kernel_rfl) (by kernel_rfl) (fun _ _ _ h => h) (Or.inl ⟨by rfl, ?y520⟩) (by assumption) ?r520
        case y520 => ((intro w hSw; (try dsimp only at hSw); go_simp); try with_reducible rfl)
        try simp only [Act.put, List.getElem_toArray, List.getElem_cons_succ, List.getElem_cons_zero, List.setIfInBounds_toArray, List.set_cons_zero, List.set_cons_succ]
        refine wpAnyH_ready (rs := [23]) (by kernel_rfl) (by simp) ?_
        refine AllReadyH.cons rfl (fun K hK => ?_) ?_
        · have e5 := HH5.out.c4
          have e5f := HH5.out.frozen 4
          rw [HV2.out] at e5
          go_simp
          clear e5 e5f
          refine hK.out _ _ (HoldN.of (HH5.out.set4 _).1) (fun hHeld' => ?_)
          clear hHeld
          have hHeld := hHeld'
          clear hHeld'
          clear hK K
          try simp only [Act.put, List.getElem_toArray, List.getElem_cons_succ, List.getElem_cons_zero, List.setIfInBounds_toArray, List.set_cons_zero, List.set_cons_succ]
          refine wpAnyH_done (by kernel_rfl) ?_ _
          refine NoPanic.normal ?_
          clear hHeld
          have hp3 : ∀ k, (Value.slice (some ⟨g', 0, none⟩) (T.marks.length + 1) cap').ownBlock = some k → P k := fun k hk => by
            simp only [Value.ownBlock, Option.some.injEq] at hk
            subst hk
            rcases hL with hL | hL
            · exact HP3.out.p2 _ hL
            · exact HPP.out _ (by omega)
          have hrow : RowM w' (.slice (some ⟨g', 0, none⟩) (T.marks.length + 1) cap') (T.marks ++ [((E : Int), (T.size : Int), (T.kept.length : Int))]) := by
            unfold RowM
            rw [List.length_append, List.length_singleton, flat3_append]
            exact hO
          have hP4 := HP3.out.kept2 hG hrow hp3
          obtain ⟨hH5, hg5⟩ := HH5.out.set4 (.slice (some ⟨g', 0, none⟩) (T.marks.length + 1) cap')
          have hP5 := hP4.keptB HH5.out hg5
          have hK5 : Kp P w (w'.setCell ⟨b, 4, none⟩ (.slice (some ⟨g', 0, none⟩) (T.marks.length + 1) cap')) := ((HK.out.trans (Kp.none HA3.out)).trans (Kp.row hG HP3.out.p2)).trans (Kp.one hg5 HP3.out.pb)
          have HTA := Lib.hid (Parts.ta (T := { T with era := E, marks := T.marks ++ [((E : Int), (T.size : Int), (T.kept.length : Int))] }) hP5 hH5)
          have HK5 := Lib.hid hK5
          have c4 := hH5.c4
          clear hp3 hrow hP4 hH5 hg5 hP5 hK5 HH5 hO hG hL hlt HH3 HP3 HN3 HA3 HSZ
          generalize w'.setCell ⟨b, 4, none⟩ (.slice (some ⟨g', 0, none⟩) (T.marks.length + 1) cap') = w6 at *
          go_wp2_with fail
          go_ret
          exact ⟨sret_i64 (w64 HM.out), HTA.out, HK5.out⟩
        exact AllReadyH.nil
      exact AllReadyH.nil
    exact AllReadyH.nil
  refine AllReadyH.cons rfl (fun K hK => ?_) ?_
  · go_simp
    have hdn : w4.grownBy (w4.alloc (.cells #[.int .i64 (E : Int), .int .i64 (T.size : Int), .int .i64 (T.kept.length : Int)] 63)) none := World.grownBy_alloc _ _ _
    have HH3 := Lib.hid (HH.out.kept hdn (by simp))
    have HP3 := Lib.hid (HP.out.grown hdn)
    have HN3 := Lib.hid (World.news_of_block (heap_alloc_new w4 (.cells #[.int .i64 (E : Int), .int .i64 (T.size : Int), .int .i64 (T.kept.length : Int)] 63)))
    have HA3 := Lib.hid hdn
    have HSZ : Hid ((w4.alloc (.cells #[.int .i64 (E : Int), .int .i64 (T.size : Int), .int .i64 (T.kept.length : Int)] 63)).heap.size = w4.heap.size + 1) := Lib.hid (by simp)
    refine hK.out _ _ (HoldN.of HH3.out) (fun hHeld' => ?_)
    clear hHeld
    have hHeld := hHeld'
    clear hHeld'
    clear hdn
    generalize w4.alloc (.cells #[.int .i64 (E : Int), .int .i64 (T.size : Int), .int .i64 (T.kept.length : Int)] 63) = w5 at hHeld HH3 HP3 HN3 HA3 HSZ ⊢
    clear hK K
    try simp only [Act.put, List.getElem_toArray, List.getElem_cons_succ, List.getElem_cons_zero, List.setIfInBounds_toArray, List.set_cons_zero, List.set_cons_succ]
    refine wpAnyH_ready (rs := [4]) (by kernel_rfl) (by simp) ?_
    refine AllReadyH.cons rfl (fun K hK => ?_) ?_
    · have ac : w5.cell? ⟨b, 4, none⟩ = some v2 := HH3.out.c4
      rw [HV2.out] at ac
      go_simp
      clear ac
      refine hK.out _ _ (hHeld) (fun hHeld' => ?_)
      clear hHeld
      have hHeld := hHeld'
      clear hHeld'
      clear hK K
      try simp only [Act.put, List.getElem_toArray, List.getElem_cons_succ, List.getElem_cons_zero, List.setIfInBounds_toArray, List.set_cons_zero, List.set_cons_succ]
      refine wpAnyH_ready (rs := [20]) (by kernel_rfl) (by simp) ?_
      refine AllReadyH.cons rfl (fun K hK => ?_) ?_
      · refine step_append_lies _ rfl (.tmp 16) (.tmp 31) 56 rfl 0 63 i0 (.agg #[.int .i64 0, .int .i64 0, .int .i64 0]) 3 24 Try.underlying56 I0.out Z0.out Z1.out Z2.out rfl (by decide) v2 T.marks.length (flat3 T.marks) HV2.out.symm HP3.out.r2 ⟨w4.heap.size, 0, none⟩ 1 1 [.int .i64 (E : Int), .int .i64 (T.size : Int), .int .i64 (T.kept.length : Int)] rfl rfl HN3.out (by simp [Value.oneCell']) (by decide) (by have := HM.out; unfold maxLen; omega) (by have := HM.out; omega) (Nat.zero_le _) (w4.heap.size + 1) HSZ.out ?_
        intro g' cap' w' hO hG hL hlt
        have HH5 := Lib.hid (hd_row HH3.out HP3.out.r2 (by decide) hG)
        refine hK.out _ _ (HoldN.of HH5.out) (fun hHeld' => ?_)
        clear hHeld
        have hHeld := hHeld'
        clear hHeld'
        clear hK K
        try simp only [Act.put, List.getElem_toArray, List.getElem_cons_succ, List.getElem_cons_zero, List.setIfInBounds_toArray, List.set_cons_zero, List.set_cons_succ]
        refine wpAnyH_take (i := 21) (v := ?v521) rfl (by kernel_rfl) (by kernel_rfl) (by kernel_rfl) (fun _ _ _ h => h) (Or.inl ⟨by rfl, ?y521⟩) (by assumption) ?r521
        case y521 => ((intro w hSw; (try dsimp only at hSw); go_simp); try with_reducible rfl)
        try simp only [Act.put, List.getElem_toArray, List.getElem_cons_succ, List.getElem_cons_zero, List.setIfInBounds_toArray, List.set_cons_zero, List.set_cons_succ]
        refine wpAnyH_take (i := 22) (v := ?v522) rfl (by kernel_rfl) (by kernel_rfl) (by kernel_rfl) (fun _ _ _ h => h) (Or.inl ⟨by rfl, ?y522⟩) (by assumption) ?r522
        case y522 => ((intro w hSw; (try dsimp only at hSw); go_simp); try with_reducible rfl)
        try simp only [Act.put, List.getElem_toArray, List.getElem_cons_succ, List.getElem_cons_zero, List.setIfInBounds_toArray, List.set_cons_zero, List.set_cons_succ]
        refine wpAnyH_ready (rs := [23]) (by kernel_rfl) (by simp) ?_
        refine AllReadyH.cons rfl (fun K hK => ?_) ?_
        · have e5 := HH5.out.c4
          have e5f := HH5.out.frozen 4
          rw [HV2.out] at e5
          go_simp
          clear e5 e5f
          refine hK.out _ _ (HoldN.of (HH5.out.set4 _).1) (fun hHeld' => ?_)
          clear hHeld
          have hHeld := hHeld'
          clear hHeld'
          clear hK K
          try simp only [Act.put, List.getElem_toArray, List.getElem_cons_succ, List.getElem_cons_zero, List.setIfInBounds_toArray, List.set_cons_zero, List.set_cons_succ]
          refine wpAnyH_done (by kernel_rfl) ?_ _
          refine NoPanic.normal ?_
          clear hHeld
          have hp3 : ∀ k, (Value.slice (some ⟨g', 0, none⟩) (T.marks.length + 1) cap').ownBlock = some k → P k := fun k hk => by
            simp only [Value.ownBlock, Option.some.injEq] at hk
            subst hk
            rcases hL with hL | hL
            · exact HP3.out.p2 _ hL
            · exact HPP.out _ (by omega)
          have hrow : RowM w' (.slice (some ⟨g', 0, none⟩) (T.marks.length + 1) cap') (T.marks ++ [((E : Int), (T.size : Int), (T.kept.length : Int))]) := by
            unfold RowM
            rw [List.length_append, List.length_singleton, flat3_append]
            exact hO
          have hP4 := HP3.out.kept2 hG hrow hp3
          obtain ⟨hH5, hg5⟩ := HH5.out.set4 (.slice (some ⟨g', 0, none⟩) (T.marks.length + 1) cap')
          have hP5 := hP4.keptB HH5.out hg5
          have hK5 : Kp P w (w'.setCell ⟨b, 4, none⟩ (.slice (some ⟨g', 0, none⟩) (T.marks.length + 1) cap')) := ((HK.out.trans (Kp.none HA3.out)).trans (Kp.row hG HP3.out.p2)).trans (Kp.one hg5 HP3.out.pb)
          have HTA := Lib.hid (Parts.ta (T := { T with era := E, marks := T.marks ++ [((E : Int), (T.size : Int), (T.kept.length : Int))] }) hP5 hH5)
          have HK5 := Lib.hid hK5
          have c4 := hH5.c4
          clear hp3 hrow hP4 hH5 hg5 hP5 hK5 HH5 hO hG hL hlt HH3 HP3 HN3 HA3 HSZ
          generalize w'.setCell ⟨b, 4, none⟩ (.slice (some ⟨g', 0, none⟩) (T.marks.length + 1) cap') = w6 at *
          go_wp2_with fail
          go_ret
          exact ⟨sret_i64 (w64 HM.out), HTA.out, HK5.out⟩
        exact AllReadyH.nil
      exact AllReadyH.nil
    exact AllReadyH.nil
  exact AllReadyH.nil

end Go.Proofs.Ytafcecacldafgaa
