/- The contract of trail's Undo where nothing was ever kept (no statement of its own). -/
import Derived.Test.YtafcecacldafgaaTrQ
namespace Go.Proofs.Ytafcecacldafgaa
open Go.RowKit Go.Shelf
open Go.Maps (Keyed)
set_option linter.unusedVariables false
attribute [local go_sem] Oper.semAt_some
set_option maxRecDepth 100000 in
set_option maxHeartbeats 4000000 in
theorem undo_none {P : Nat → Prop} {w : World} {b m i sp : Nat} {v1 v2 : Value} {T : Tr} (h1 : Hd w b T.size T.era v1 v2 (.slice none 0 0) m) (h2 : Parts P w b m v1 v2 (.slice none 0 0) T.fs T.marks T.kept)
    (hP : ∀ k, w.heap.size ≤ k → P k) (hm : T.marks.length < 1000000) (hk : T.kept.length < 1000000) (hi : i < T.marks.length) (hkp : (nth3 T.marks i).2.2 = 0) (hsp : (nth3 T.marks i).2.1 = (sp : Int)) (hke : T.kept = []) :
    Calls Try.prog 19 #[.pointer (some ⟨b, 0, none⟩), .int .i64 (i : Int)] w (AndT P w b (T.undo i) (.int .i64 0)) := by
  -- the blocks of the trail, without the variables'
  obtain ⟨R, hRe⟩ : ∃ R : Nat → Prop, (fun k => P k ∧ ¬ (w.heap.size ≤ k ∧ k < w.heap.size + 3)) = R := ⟨_, rfl⟩
  have HR1 : Hid (∀ k, w.heap.size + 3 ≤ k → R k) := Lib.hid (by rw [← hRe]; exact fun k hk => ⟨hP k (by omega), by omega⟩)
  have HR2 : Hid (∀ k, R k → P k ∧ ¬ (w.heap.size ≤ k ∧ k < w.heap.size + 3)) := Lib.hid (by rw [← hRe]; exact fun k h => h)
  have HPR := Lib.hid (h2.low h1 (R := R) (fun k hk hp => by rw [← hRe]; exact ⟨hp, by omega⟩))
  have HH := Lib.hid h1
  have hml : m < w.heap.size := h2.e.lt
  clear hRe
  have hga := World.grownBy_alloc w (.cells #[.pointer (some ⟨b, 0, none⟩)] 24) none
  have h1a := h1.kept hga (by simp)
  have h2a := h2.grown hga
  have H1 := Lib.hid (open_of (i : Int) _ (depth_any (P := P) (T := T) (h2a.ta h1a)))
  have hin : isIn (i : Int) T.marks.length = true := by simp [isIn]; omega
  rw [hin] at H1
  have c4 := h1a.c4
  obtain ⟨A2, c2, rfl, _, _, hA2⟩ := row_form h2a.r2
  obtain ⟨g2, rfl, hg2⟩ := hA2 (by omega)
  have d0 := h2a.r2.at0 i hi
  have d1 := h2a.r2.at1 i hi
  have d2 := h2a.r2.at2 i hi
  obtain ⟨y, hy⟩ : ∃ y, nth3 T.marks i = y := ⟨_, rfl⟩
  rw [hy] at d0 d1 d2 hkp hsp
  have HSP := Lib.hid hsp
  clear hsp
  have HY := Lib.hid hy
  have hi' : (i : Int) < (T.marks.length : Int) := by omega
  have HB0 := Lib.hid (heap_alloc_new w (.cells #[.pointer (some ⟨b, 0, none⟩)] 24))
  have HG0 := Lib.hid hga
  have HH0 := Lib.hid h1a
  have HP0 := Lib.hid h2a
  have HPP := Lib.hid hP
  have HK := Lib.hid hk
  have HKE := Lib.hid hke
  have HS0 : Hid ((w.alloc (.cells #[.pointer (some ⟨b, 0, none⟩)] 24)).heap.size = w.heap.size + 1) := Lib.hid (by simp)
  have k0 : (w.alloc (.cells #[.pointer (some ⟨b, 0, none⟩)] 24)).cell? ⟨w.heap.size, 0, none⟩ = some (.pointer (some ⟨b, 0, none⟩)) := by rw [cell_of_row _ _ _ _ _ _ (heap_alloc_new w _)]; rfl
  clear h1 h2 hga h1a h2a hin hm hA2 hg2 hy hP hk hke
  refine (callsIn_wide (n := 3)).1 (callsIn_of_wp_marks Try.func19 rfl trivial ?_ rfl)
  simp only [Try.ntmps19, List.size_toArray, List.length_cons, List.length_nil, Nat.reduceAdd, Nat.reduceSub, Array.replicate_succ, Array.replicate_zero, List.push_toArray, List.append_toArray, List.nil_append, List.cons_append]
  refine wpIn_wide.2 ?_
  go_upto_region 1 with fail
  generalize w.alloc (.cells #[.pointer (some ⟨b, 0, none⟩)] 24) = w1 at *
  go_upto_region 4 with (go_at_call 32; refine H1.out.mono ?_; rintro e w' ⟨rfl, rfl⟩)
  have hgb := World.grownBy_alloc w1 (.cells #[.int .i64 y.1, .int .i64 y.2.1, .int .i64 0] 63) none
  have HH2 := Lib.hid (HH0.out.kept hgb (by simp))
  have HP2 := Lib.hid (HP0.out.grown hgb)
  have HG2 : Hid (w.grownBy (w1.alloc (.cells #[.int .i64 y.1, .int .i64 y.2.1, .int .i64 0] 63)) none) := Lib.hid (World.grownBy.trans HG0.out hgb)
  have HB2 : Hid ((w1.alloc (.cells #[.int .i64 y.1, .int .i64 y.2.1, .int .i64 0] 63)).heap[w.heap.size]? = some (.cells #[.pointer (some ⟨b, 0, none⟩)] 24 (0, 0))) := Lib.hid ((hgb.block _ (by have := HS0.out; omega) (by simp)).trans HB0.out)
  have HM2 := Lib.hid (heap_alloc_new w1 (.cells #[.int .i64 y.1, .int .i64 y.2.1, .int .i64 0] 63))
  have HS2 : Hid ((w1.alloc (.cells #[.int .i64 y.1, .int .i64 y.2.1, .int .i64 0] 63)).heap.size = w.heap.size + 2) := Lib.hid (by have := HS0.out; simp; omega)
  rw [HS0.out] at HM2 ⊢
  clear HH0 HP0 HG0 HB0 HS0 c4 d0 d1 d2 k0 H1 hgb
  generalize w1.alloc (.cells #[.int .i64 y.1, .int .i64 y.2.1, .int .i64 0] 63) = w2 at *
  have c5 := HH2.out.c5
  have k0 : w2.cell? ⟨w.heap.size, 0, none⟩ = some (.pointer (some ⟨b, 0, none⟩)) := by rw [cell_of_row _ _ _ _ _ _ HB2.out]; rfl
  obtain ⟨m0, m1, m2⟩ := cells3 HM2.out
  go_still_tail 7, (by kernel_rfl)
  change wpList _ _ _ _ _ w2.drew
  go_wp2_with (go_at_call 33; refine (back_call _ _ _ _).mono ?_; rintro e w3 ⟨rfl, rfl⟩)
  have hB2 : w2.grownBy (w2.alloc (.cells #[.slice none 0 0] 57)).drew none := grown_drew (World.grownBy_alloc _ _ _)
  have HBS : Hid ((w2.alloc (.cells #[.slice none 0 0] 57)).drew.heap[w2.heap.size]? = some (.cells #[.slice none 0 0] 57 (0, 0))) := Lib.hid (heap_alloc_new w2 _)
  have HUI : Hid (UndoI R w b m w.heap.size (w.heap.size + 1) y (.slice (some ⟨g2, 0, none⟩) T.marks.length c2) (.slice none 0 0) T (w2.alloc (.cells #[.slice none 0 0] 57)).drew) := by
    have hg3 := World.grownBy.trans HG2.out hB2
    refine Lib.hid ⟨⟨v1, HH.out.kept hg3 (by simp), HPR.out.grown hg3⟩, Kp.none hg3, (hB2.block _ (by have := HS2.out; omega) (by simp)).trans HB2.out, by rw [hkp]; exact (hB2.block _ (by have := HS2.out; omega) (by simp)).trans HM2.out, by have := HS2.out; simp; omega⟩
  have HS3 : Hid ((w2.alloc (.cells #[.slice none 0 0] 57)).drew.heap.size = w.heap.size + 3) := Lib.hid (by have := HS2.out; simp; omega)
  rw [HS2.out] at HBS ⊢
  clear hB2 HH2 HP2 HG2 HB2 HM2 HS2 c5 k0 m0 m1 m2
  generalize (w2.alloc (.cells #[.slice none 0 0] 57)).drew = w3 at *
  refine (wpIn_wide (n := 3)).1 (range_mid (n := 3) (by omega) (gf := 35) (lb := #[.pointer (some ⟨w.heap.size + 2, 0, none⟩)]) rfl (enters_of Try.func35 (by kernel_rfl) rfl)
    (back_seq 2 (by omega) (w.heap.size + 2) 0 none [] (Nat.zero_le _) w3 (by have := HS3.out; omega) (fun ad e => by cases e) (by rw [cell_of_row _ _ _ _ _ _ HBS.out]; rfl) (fun q hq => absurd hq (Nat.not_lt_zero _)))
    (fun h k => h.trans k) (fun W l o' hl => same2_put (by have := HS3.out; omega) (fun k hk => ?alt) hl) (fun _ => rfl)
    (fun pre W => UndoI R w b m w.heap.size (w.heap.size + 1) y (.slice (some ⟨g2, 0, none⟩) T.marks.length c2) (.slice none 0 0) (backT [] T pre) W)
    (fun pre W W' row h hg hr => undoI_turn h hg hr (by have := HS3.out; omega) (by have := HS3.out; omega)) HUI.out
    (fun pre x a1 W => ∃ r, a1 = { tmps := #[.pointer (some ⟨b, 0, none⟩), .int .i64 (i : Int), .pointer (some ⟨w.heap.size, 0, none⟩), undef, .int .i64 0, .pointer (some ⟨w.heap.size + 1, 0, none⟩), undef, .pointer (some ⟨r, 0, none⟩), .pointer (some ⟨b, 0, none⟩), .int .i64 (i : Int), .bool true, .bool false, .pointer (some ⟨b, 0, none⟩), .pointer (some ⟨b, 0, none⟩), .pointer (some ⟨b, 4, none⟩), .slice (some ⟨g2, 0, none⟩) T.marks.length c2, .int .i64 (i : Int), .pointer (some ⟨g2, i * 3, none⟩), .agg #[.int .i64 y.1, .int .i64 y.2.1, .int .i64 0], .pointer (some ⟨b, 0, none⟩), .pointer (some ⟨b, 0, none⟩), .pointer (some ⟨b, 5, none⟩), (.slice none 0 0), .pointer (some ⟨w.heap.size + 1, 2, none⟩), .int .i64 0, .slice none 0 0, .func (.func 35) #[] #[.pointer (some ⟨w.heap.size + 2, 0, none⟩)], .int .i64 ((x.val : Nat) : Int), .agg #[.int .i64 (nth3 [] x.val).1, .int .i64 (nth3 [] x.val).2.1, .int .i64 (nth3 [] x.val).2.2], undef, undef, undef, undef, undef, undef, undef, undef, undef, undef, undef, undef, undef, undef, undef, undef, undef, undef, undef, undef, undef, undef, undef, undef, undef, undef, undef, undef, undef], defers := [] } ∧ UndoI R w b m w.heap.size (w.heap.size + 1) y (.slice (some ⟨g2, 0, none⟩) T.marks.length c2) (.slice none 0 0) (backT [] T pre) W ∧ W.heap[r]? = some (.cells #[.int .i64 (nth3 [] x.val).1, .int .i64 (nth3 [] x.val).2.1, .int .i64 (nth3 [] x.val).2.2] 70 (0, 0)))
    (fun pre x a1 u W W' row h hg hr => ?mid) ?assign ?body ?done)
  case alt => cases hk
  case mid => exact absurd x.2 (Nat.not_lt_zero _)
  case assign =>
    intro yy pre x W hI
    exact absurd x.2 (Nat.not_lt_zero _)
  case body =>
    rintro yy pre x a1 W hM
    exact absurd x.2 (Nat.not_lt_zero _)
  case done =>
    rintro D ys W hD rfl hI hDD
    have hsp := HSP.out
    rw [back_all] at hI
    obtain ⟨⟨u1, q1, q2⟩, q3, q4, q5, q6⟩ := hI
    obtain ⟨b1, b2, b3, b4⟩ := back_same T []
    have hun : T.undo i = { T.back [] with marks := T.marks.take i, kept := T.kept.take 0 }.shrink sp := by
      unfold Tr.undo
      rw [HY.out, hkp, hsp, Int.toNat_natCast, show (0 : Int).toNat = 0 from rfl, List.drop_zero, HKE.out]
    have HUN := Lib.hid hun
    generalize T.back [] = TB at *
    obtain ⟨TBs, TBf, TBe, TBm, TBk⟩ := TB
    dsimp only at b1 b2 b3 b4 q1 q2
    subst b1 b2 b3 b4
    have hbl : b < w.heap.size := HH.out.lt
    have hD2 : w.heap.size + 3 ≤ D := by have := HS3.out; omega
    have hnb : D ≠ m := by omega
    have q5' := q5
    rw [hkp, hsp] at q5'
    obtain ⟨k0, k1, k2⟩ := cells3 q5'
    have kb : W.cell? ⟨w.heap.size, 0, none⟩ = some (.pointer (some ⟨b, 0, none⟩)) := by rw [cell_of_row _ _ _ _ _ _ q4]; rfl
    have hV : HoldV b w.heap.size sp 0 W := ⟨kb, k1, k2⟩
    have HV := Lib.hid hV
    have HQ1 := Lib.hid q1
    have HQ2 := Lib.hid q2
    have HQ3 := Lib.hid q3
    have HD := Lib.hid hDD
    have HBL := Lib.hid hbl
    have HD2 := Lib.hid hD2
    have HNB := Lib.hid hnb
    obtain ⟨hcm, hic⟩ := row3_cut (n := i) q2.r2 (by omega)
    have hck : RowK W (.slice none 0 0) (T.kept.take 0) := World.ownsRow_nil _ _ _ _
    have HCM := Lib.hid hcm
    have HCK := Lib.hid hck
    have hic' : (i : Int) ≤ (c2 : Int) := by omega
    clear hun q1 q2 q3 q4 q5 q5' q6 k0 k1 k2 kb hV hDD hbl hD2 hnb hcm hck hkp hsp HUI HBS HH HPR hD
    go_upto_region 7 with fail
    refine wp_region_noPanic ?_
    refine wp_region_held_drew (S := fun W => HoldV b w.heap.size sp 0 W) (by kernel_rfl) HV.out (fun hHeld => ?_)
    have HQ1' : Hid (Hd W.drew b T.size T.era u1 (.slice (some ⟨g2, 0, none⟩) T.marks.length c2) (.slice none 0 0) m) := HQ1
    clear HQ1
    have HQ1 := HQ1'
    clear HQ1'
    have HCUT : Hid (Parts R W.drew b m u1 (.slice (some ⟨g2, 0, none⟩) i c2) (.slice none 0 0) TBf (T.marks.take i) (T.kept.take 0)) :=
      Lib.hid (Parts.grown ⟨HQ2.out.r1, HCM.out, HCK.out, HQ2.out.e, HQ2.out.pb, HQ2.out.pm, HQ2.out.p1, fun k hk => HQ2.out.p2 k hk, fun k hk => HQ2.out.p3 k hk⟩ (grown_drew (World.grownBy_refl _)))
    have HQ3' : Hid (Kp R w W.drew) := Lib.hid (HQ3.out.trans (Kp.none (grown_drew (World.grownBy_refl _))))
    have HD' : Hid (W.drew.heap[D]? = some (.deferred (some []))) := HD
    clear HQ3 HD HQ2 HCM HCK
    have HQ3 := HQ3'
    have HD := HD'
    clear HQ3' HD' HV
    generalize W.drew = w4 at *
    refine wpAnyH_take (i := 0) (v := ?v901) rfl (by kernel_rfl) (by kernel_rfl) (by kernel_rfl) (fun _ _ _ h => h) (Or.inl ⟨by rfl, ?y901⟩) (by assumption) ?r901
    case y901 => ((intro w hSw; (try dsimp only at hSw); go_simp); try with_reducible rfl)
    try simp only [Act.put, List.getElem_toArray, List.getElem_cons_zero, List.setIfInBounds_toArray, List.set_cons_zero, List.set_cons_succ]
    refine wpAnyH_take (i := 1) (v := ?v902) rfl (by kernel_rfl) (by kernel_rfl) (by kernel_rfl) (fun _ _ _ h => h) (Or.inl ⟨by rfl, ?y902⟩) (by assumption) ?r902
    case y902 => ((intro w hSw; (try dsimp only at hSw); go_simp); try with_reducible rfl)
    try simp only [Act.put, List.getElem_toArray, List.getElem_cons_succ, List.getElem_cons_zero, List.setIfInBounds_toArray, List.set_cons_zero, List.set_cons_succ]
    refine wpAnyH_take (i := 2) (v := ?v903) rfl (by kernel_rfl) (by kernel_rfl) (by kernel_rfl) (fun _ _ _ h => h) (Or.inl ⟨by rfl, ?y903⟩) (by assumption) ?r903
    case y903 => ((intro w hSw; (try dsimp only at hSw); go_simp); try with_reducible rfl)
    try simp only [Act.put, List.getElem_toArray, List.getElem_cons_succ, List.getElem_cons_zero, List.setIfInBounds_toArray, List.set_cons_zero, List.set_cons_succ]
    refine wpAnyH_take (i := 3) (v := ?v904) rfl (by kernel_rfl) (by kernel_rfl) (by kernel_rfl) (fun _ _ _ h => h) (Or.inl ⟨by rfl, ?y904⟩) (by assumption) ?r904
    case y904 => ((intro w hSw; (try dsimp only at hSw); go_simp); try with_reducible rfl)
    try simp only [Act.put, List.getElem_toArray, List.getElem_cons_succ, List.getElem_cons_zero, List.setIfInBounds_toArray, List.set_cons_zero, List.set_cons_succ]
    refine wpAnyH_take (i := 4) (v := ?v905) rfl (by kernel_rfl) (by kernel_rfl) (by kernel_rfl) (fun _ _ _ h => h) (Or.inl ⟨by rfl, ?y905⟩) (by assumption) ?r905
    case y905 => ((intro w hSw; (try dsimp only at hSw); go_simp); try with_reducible rfl)
    try simp only [Act.put, List.getElem_toArray, List.getElem_cons_succ, List.getElem_cons_zero, List.setIfInBounds_toArray, List.set_cons_zero, List.set_cons_succ]
    refine wpAnyH_take (i := 6) (v := ?v906) rfl (by kernel_rfl) (by kernel_rfl) (by kernel_rfl) (fun _ _ _ h => h) (Or.inl ⟨by rfl, ?y906⟩) (by assumption) ?r906
    case y906 => ((intro w hSw; (try dsimp only at hSw); go_simp); try with_reducible rfl)
    try simp only [Act.put, List.getElem_toArray, List.getElem_cons_succ, List.getElem_cons_zero, List.setIfInBounds_toArray, List.set_cons_zero, List.set_cons_succ]
    refine wpAnyH_take (i := 8) (v := ?v907) rfl (by kernel_rfl) (by kernel_rfl) (by kernel_rfl) (fun _ _ _ h => h) (Or.inl ⟨by rfl, ?y907⟩) (by assumption) ?r907
    case y907 => ((intro w hSw; (try dsimp only at hSw); go_simp); try with_reducible rfl)
    try simp only [Act.put, List.getElem_toArray, List.getElem_cons_succ, List.getElem_cons_zero, List.setIfInBounds_toArray, List.set_cons_zero, List.set_cons_succ]
    refine wpAnyH_take (i := 9) (v := ?v908) rfl (by kernel_rfl) (by kernel_rfl) (by kernel_rfl) (fun _ _ _ h => h) (Or.inl ⟨by rfl, ?y908⟩) (by assumption) ?r908
    case y908 => ((intro w hSw; (try dsimp only at hSw); go_simp); try with_reducible rfl)
    try simp only [Act.put, List.getElem_toArray, List.getElem_cons_succ, List.getElem_cons_zero, List.setIfInBounds_toArray, List.set_cons_zero, List.set_cons_succ]
    refine wpAnyH_take (i := 10) (v := ?v909) rfl (by kernel_rfl) (by kernel_rfl) (by kernel_rfl) (fun _ _ _ h => h) (Or.inl ⟨by rfl, ?y909⟩) (by assumption) ?r909
    case y909 => ((intro w hSw; (try dsimp only at hSw); go_simp); try with_reducible rfl)
    try simp only [Act.put, List.getElem_toArray, List.getElem_cons_succ, List.getElem_cons_zero, List.setIfInBounds_toArray, List.set_cons_zero, List.set_cons_succ]
    refine wpAnyH_take (i := 12) (v := ?v910) rfl (by kernel_rfl) (by kernel_rfl) (by kernel_rfl) (fun _ _ _ h => h) (Or.inl ⟨by rfl, ?y910⟩) (by assumption) ?r910
    case y910 => ((intro w hSw; (try dsimp only at hSw); go_simp); try with_reducible rfl)
    try simp only [Act.put, List.getElem_toArray, List.getElem_cons_succ, List.getElem_cons_zero, List.setIfInBounds_toArray, List.set_cons_zero, List.set_cons_succ]
    refine wpAnyH_take (i := 13) (v := ?v911) rfl (by kernel_rfl) (by kernel_rfl) (by kernel_rfl) (fun _ _ _ h => h) (Or.inl ⟨by rfl, ?y911⟩) (by assumption) ?r911
    case y911 => ((intro w hSw; (try dsimp only at hSw); go_simp); try with_reducible rfl)
    try simp only [Act.put, List.getElem_toArray, List.getElem_cons_succ, List.getElem_cons_zero, List.setIfInBounds_toArray, List.set_cons_zero, List.set_cons_succ]
    refine wpAnyH_ready (rs := [5, 11]) (by kernel_rfl) (by simp) ?_
    refine AllReadyH.cons rfl (fun K hK => ?_) ?_
    · have ac : w4.cell? ⟨b, 4, none⟩ = some (.slice (some ⟨g2, 0, none⟩) T.marks.length c2) := HQ1.out.c4
      go_simp
      clear ac
      refine hK.out _ _ (hHeld) (fun hHeld' => ?_)
      clear hHeld
      have hHeld := hHeld'
      clear hHeld'
      clear hK K
      try simp only [Act.put, List.getElem_toArray, List.getElem_cons_succ, List.getElem_cons_zero, List.setIfInBounds_toArray, List.set_cons_zero, List.set_cons_succ]
      refine wpAnyH_take (i := 7) (v := ?v912) rfl (by kernel_rfl) (by kernel_rfl) (by kernel_rfl) (fun _ _ _ h => h) (Or.inl ⟨by rfl, ?y912⟩) (by assumption) ?r912
      case y912 => ((intro w hSw; (try dsimp only at hSw); go_simp); try with_reducible rfl)
      try simp only [Act.put, List.getElem_toArray, List.getElem_cons_succ, List.getElem_cons_zero, List.setIfInBounds_toArray, List.set_cons_zero, List.set_cons_succ]
      refine wpAnyH_ready (rs := [11]) (by kernel_rfl) (by simp) ?_
      refine AllReadyH.cons rfl (fun K hK => ?_) ?_
      · have ac : w4.cell? ⟨b, 5, none⟩ = some (.slice none 0 0) := HQ1.out.c5
        go_simp
        clear ac
        refine hK.out _ _ (hHeld) (fun hHeld' => ?_)
        clear hHeld
        have hHeld := hHeld'
        clear hHeld'
        clear hK K
        try simp only [Act.put, List.getElem_toArray, List.getElem_cons_succ, List.getElem_cons_zero, List.setIfInBounds_toArray, List.set_cons_zero, List.set_cons_succ]
        refine wpAnyH_take (i := 14) (v := ?v913) rfl (by kernel_rfl) (by kernel_rfl) (by kernel_rfl) (fun _ _ _ h => h) (Or.inl ⟨by rfl, ?y913⟩) (by assumption) ?r913
        case y913 => ((intro w hSw; (try dsimp only at hSw); go_simp); try with_reducible rfl)
        try simp only [Act.put, List.getElem_toArray, List.getElem_cons_succ, List.getElem_cons_zero, List.setIfInBounds_toArray, List.set_cons_zero, List.set_cons_succ]
        refine wpAnyH_take (i := 15) (v := ?v914) rfl (by kernel_rfl) (by kernel_rfl) (by kernel_rfl) (fun _ _ _ h => h) (Or.inl ⟨by rfl, ?y914⟩) (by assumption) ?r914
        case y914 => ((intro w hSw; (try dsimp only at hSw); go_simp); try with_reducible rfl)
        try simp only [Act.put, List.getElem_toArray, List.getElem_cons_succ, List.getElem_cons_zero, List.setIfInBounds_toArray, List.set_cons_zero, List.set_cons_succ]
        refine wpAnyH_take (i := 16) (v := ?v915) rfl (by kernel_rfl) (by kernel_rfl) (by kernel_rfl) (fun _ _ _ h => h) (Or.inl ⟨by rfl, ?y915⟩) (by assumption) ?r915
        case y915 => ((intro w hSw; (try dsimp only at hSw); go_simp); try with_reducible rfl)
        try simp only [Act.put, List.getElem_toArray, List.getElem_cons_succ, List.getElem_cons_zero, List.setIfInBounds_toArray, List.set_cons_zero, List.set_cons_succ]
        refine wpAnyH_ready (rs := [17]) (by kernel_rfl) (by simp) ?_
        refine AllReadyH.cons rfl (fun K hK => ?_) ?_
        · have e5 := HQ1.out.c4
          have e5f := HQ1.out.frozen 4
          go_simp
          clear e5 e5f
          have HH5 := Lib.hid (HQ1.out.set4 (.slice (some ⟨g2, 0, none⟩) i c2))
          refine hK.out _ _ (hHeld.kept HH5.out.2 HBL.out) (fun hHeld' => ?_)
          clear hHeld
          have hHeld := hHeld'
          clear hHeld'
          generalize w4.setCell ⟨b, 4, none⟩ (.slice (some ⟨g2, 0, none⟩) i c2) = w5 at hHeld HH5 ⊢
          clear hK K
          try simp only [Act.put, List.getElem_toArray, List.getElem_cons_succ, List.getElem_cons_zero, List.setIfInBounds_toArray, List.set_cons_zero, List.set_cons_succ]
          refine wpAnyH_take (i := 18) (v := ?v916) rfl (by kernel_rfl) (by kernel_rfl) (by kernel_rfl) (fun _ _ _ h => h) (Or.inl ⟨by rfl, ?y916⟩) (by assumption) ?r916
          case y916 => ((intro w hSw; (try dsimp only at hSw); go_simp); try with_reducible rfl)
          try simp only [Act.put, List.getElem_toArray, List.getElem_cons_succ, List.getElem_cons_zero, List.setIfInBounds_toArray, List.set_cons_zero, List.set_cons_succ]
          refine wpAnyH_take (i := 19) (v := ?v917) rfl (by kernel_rfl) (by kernel_rfl) (by kernel_rfl) (fun _ _ _ h => h) (Or.inl ⟨by rfl, ?y917⟩) (by assumption) ?r917
          case y917 => ((intro w hSw; (try dsimp only at hSw); go_simp); try with_reducible rfl)
          try simp only [Act.put, List.getElem_toArray, List.getElem_cons_succ, List.getElem_cons_zero, List.setIfInBounds_toArray, List.set_cons_zero, List.set_cons_succ]
          refine wpAnyH_ready (rs := [20]) (by kernel_rfl) (by simp) ?_
          refine AllReadyH.cons rfl (fun K hK => ?_) ?_
          · have e5 := HH5.out.1.c5
            have e5f := HH5.out.1.frozen 5
            go_simp
            clear e5 e5f
            have HH6 := Lib.hid (HH5.out.1.set5 (.slice none 0 0))
            refine hK.out _ _ (hHeld.kept HH6.out.2 HBL.out) (fun hHeld' => ?_)
            clear hHeld
            have hHeld := hHeld'
            clear hHeld'
            generalize w5.setCell ⟨b, 5, none⟩ (.slice none 0 0) = w6 at hHeld HH6 ⊢
            clear hK K
            try simp only [Act.put, List.getElem_toArray, List.getElem_cons_succ, List.getElem_cons_zero, List.setIfInBounds_toArray, List.set_cons_zero, List.set_cons_succ]
            refine wpAnyH_done (by kernel_rfl) ?_ _
            refine NoPanic.normal ?_
            obtain ⟨k0, k1, k2⟩ := hHeld
            have hP6 := (HCUT.out.keptB HQ1.out HH5.out.2).keptB HH5.out.1 HH6.out.2
            have hK6 : Kp R w w6 := (HQ3.out.trans (Kp.one HH5.out.2 HCUT.out.pb)).trans (Kp.one HH6.out.2 HCUT.out.pb)
            have hD6 : w6.heap[D]? = some (.deferred (some [])) := (HH6.out.2.block D (Nat.lt_of_lt_of_le (Array.getElem?_eq_some_iff.1 HD.out).1 HH5.out.2.size) (by have := HBL.out; have := HD2.out; simp; omega)).trans ((HH5.out.2.block D (Array.getElem?_eq_some_iff.1 HD.out).1 (by have := HBL.out; have := HD2.out; simp; omega)).trans HD.out)
            have hlt6 : D < w6.heap.size := (Array.getElem?_eq_some_iff.1 hD6).1
            have HALL := Lib.hid (hP6.all (fun k hk => HR1.out k (by have := HD2.out; omega)))
            have HND : Hid (¬ Few w6 b m u1 (.slice (some ⟨g2, 0, none⟩) i c2) (.slice none 0 0) D) := Lib.hid (fun hf => HNB.out (few_cells HH6.out.1 hP6 hf hD6 rfl))
            have C := Lib.hid (shrink_any (n := sp) (T := ⟨T.size, TBf, T.era, T.marks.take i, T.kept.take 0⟩) (hP6.few.ta HH6.out.1))
            have HK6 := Lib.hid hK6
            have HD6 := Lib.hid hD6
            clear hP6 hK6 hD6 hlt6 HH5 HH6 HQ1 HCUT HQ3 HD
            go_wp2_with (go_at_call 34; refine C.out.mono ?_; rintro e w7 ⟨rfl, ht7, hk7⟩; have HT7 := Lib.hid ht7; have HK7 := Lib.hid hk7; clear ht7 hk7)
            refine ⟨by simp, .inl ⟨_, _, rfl, run_takeDeferred (HK7.out.at HD6.out HND.out), ?_⟩⟩
            refine ⟨_, results_tmp rfl _ _ _, rfl, ?_, ?_⟩
            · rw [HUN.out]
              exact (HT7.out.puts HND.out _).mono (fun k hk q => (HR2.out k (HALL.out k q)).1)
            · exact ((HK6.out.trans (HK7.out.weak HALL.out)).weak (fun k q => (HR2.out k q).1)).puts HPP.out (by have := HD2.out; omega) _
          exact AllReadyH.nil
        exact AllReadyH.nil
      exact AllReadyH.nil
    refine AllReadyH.cons rfl (fun K hK => ?_) ?_
    · have ac : w4.cell? ⟨b, 5, none⟩ = some (.slice none 0 0) := HQ1.out.c5
      go_simp
      clear ac
      refine hK.out _ _ (hHeld) (fun hHeld' => ?_)
      clear hHeld
      have hHeld := hHeld'
      clear hHeld'
      clear hK K
      try simp only [Act.put, List.getElem_toArray, List.getElem_cons_succ, List.getElem_cons_zero, List.setIfInBounds_toArray, List.set_cons_zero, List.set_cons_succ]
      refine wpAnyH_take (i := 14) (v := ?v918) rfl (by kernel_rfl) (by kernel_rfl) (by kernel_rfl) (fun _ _ _ h => h) (Or.inl ⟨by rfl, ?y918⟩) (by assumption) ?r918
      case y918 => ((intro w hSw; (try dsimp only at hSw); go_simp); try with_reducible rfl)
      try simp only [Act.put, List.getElem_toArray, List.getElem_cons_succ, List.getElem_cons_zero, List.setIfInBounds_toArray, List.set_cons_zero, List.set_cons_succ]
      refine wpAnyH_ready (rs := [5]) (by kernel_rfl) (by simp) ?_
      refine AllReadyH.cons rfl (fun K hK => ?_) ?_
      · have ac : w4.cell? ⟨b, 4, none⟩ = some (.slice (some ⟨g2, 0, none⟩) T.marks.length c2) := HQ1.out.c4
        go_simp
        clear ac
        refine hK.out _ _ (hHeld) (fun hHeld' => ?_)
        clear hHeld
        have hHeld := hHeld'
        clear hHeld'
        clear hK K
        try simp only [Act.put, List.getElem_toArray, List.getElem_cons_succ, List.getElem_cons_zero, List.setIfInBounds_toArray, List.set_cons_zero, List.set_cons_succ]
        refine wpAnyH_take (i := 7) (v := ?v919) rfl (by kernel_rfl) (by kernel_rfl) (by kernel_rfl) (fun _ _ _ h => h) (Or.inl ⟨by rfl, ?y919⟩) (by assumption) ?r919
        case y919 => ((intro w hSw; (try dsimp only at hSw); go_simp); try with_reducible rfl)
        try simp only [Act.put, List.getElem_toArray, List.getElem_cons_succ, List.getElem_cons_zero, List.setIfInBounds_toArray, List.set_cons_zero, List.set_cons_succ]
        refine wpAnyH_take (i := 15) (v := ?v920) rfl (by kernel_rfl) (by kernel_rfl) (by kernel_rfl) (fun _ _ _ h => h) (Or.inl ⟨by rfl, ?y920⟩) (by assumption) ?r920
        case y920 => ((intro w hSw; (try dsimp only at hSw); go_simp); try with_reducible rfl)
        try simp only [Act.put, List.getElem_toArray, List.getElem_cons_succ, List.getElem_cons_zero, List.setIfInBounds_toArray, List.set_cons_zero, List.set_cons_succ]
        refine wpAnyH_take (i := 16) (v := ?v921) rfl (by kernel_rfl) (by kernel_rfl) (by kernel_rfl) (fun _ _ _ h => h) (Or.inl ⟨by rfl, ?y921⟩) (by assumption) ?r921
        case y921 => ((intro w hSw; (try dsimp only at hSw); go_simp); try with_reducible rfl)
        try simp only [Act.put, List.getElem_toArray, List.getElem_cons_succ, List.getElem_cons_zero, List.setIfInBounds_toArray, List.set_cons_zero, List.set_cons_succ]
        refine wpAnyH_ready (rs := [17]) (by kernel_rfl) (by simp) ?_
        refine AllReadyH.cons rfl (fun K hK => ?_) ?_
        · have e5 := HQ1.out.c4
          have e5f := HQ1.out.frozen 4
          go_simp
          clear e5 e5f
          have HH5 := Lib.hid (HQ1.out.set4 (.slice (some ⟨g2, 0, none⟩) i c2))
          refine hK.out _ _ (hHeld.kept HH5.out.2 HBL.out) (fun hHeld' => ?_)
          clear hHeld
          have hHeld := hHeld'
          clear hHeld'
          generalize w4.setCell ⟨b, 4, none⟩ (.slice (some ⟨g2, 0, none⟩) i c2) = w5 at hHeld HH5 ⊢
          clear hK K
          try simp only [Act.put, List.getElem_toArray, List.getElem_cons_succ, List.getElem_cons_zero, List.setIfInBounds_toArray, List.set_cons_zero, List.set_cons_succ]
          refine wpAnyH_take (i := 18) (v := ?v922) rfl (by kernel_rfl) (by kernel_rfl) (by kernel_rfl) (fun _ _ _ h => h) (Or.inl ⟨by rfl, ?y922⟩) (by assumption) ?r922
          case y922 => ((intro w hSw; (try dsimp only at hSw); go_simp); try with_reducible rfl)
          try simp only [Act.put, List.getElem_toArray, List.getElem_cons_succ, List.getElem_cons_zero, List.setIfInBounds_toArray, List.set_cons_zero, List.set_cons_succ]
          refine wpAnyH_take (i := 19) (v := ?v923) rfl (by kernel_rfl) (by kernel_rfl) (by kernel_rfl) (fun _ _ _ h => h) (Or.inl ⟨by rfl, ?y923⟩) (by assumption) ?r923
          case y923 => ((intro w hSw; (try dsimp only at hSw); go_simp); try with_reducible rfl)
          try simp only [Act.put, List.getElem_toArray, List.getElem_cons_succ, List.getElem_cons_zero, List.setIfInBounds_toArray, List.set_cons_zero, List.set_cons_succ]
          refine wpAnyH_ready (rs := [20]) (by kernel_rfl) (by simp) ?_
          refine AllReadyH.cons rfl (fun K hK => ?_) ?_
          · have e5 := HH5.out.1.c5
            have e5f := HH5.out.1.frozen 5
            go_simp
            clear e5 e5f
            have HH6 := Lib.hid (HH5.out.1.set5 (.slice none 0 0))
            refine hK.out _ _ (hHeld.kept HH6.out.2 HBL.out) (fun hHeld' => ?_)
            clear hHeld
            have hHeld := hHeld'
            clear hHeld'
            generalize w5.setCell ⟨b, 5, none⟩ (.slice none 0 0) = w6 at hHeld HH6 ⊢
            clear hK K
            try simp only [Act.put, List.getElem_toArray, List.getElem_cons_succ, List.getElem_cons_zero, List.setIfInBounds_toArray, List.set_cons_zero, List.set_cons_succ]
            refine wpAnyH_done (by kernel_rfl) ?_ _
            refine NoPanic.normal ?_
            obtain ⟨k0, k1, k2⟩ := hHeld
            have hP6 := (HCUT.out.keptB HQ1.out HH5.out.2).keptB HH5.out.1 HH6.out.2
            have hK6 : Kp R w w6 := (HQ3.out.trans (Kp.one HH5.out.2 HCUT.out.pb)).trans (Kp.one HH6.out.2 HCUT.out.pb)
            have hD6 : w6.heap[D]? = some (.deferred (some [])) := (HH6.out.2.block D (Nat.lt_of_lt_of_le (Array.getElem?_eq_some_iff.1 HD.out).1 HH5.out.2.size) (by have := HBL.out; have := HD2.out; simp; omega)).trans ((HH5.out.2.block D (Array.getElem?_eq_some_iff.1 HD.out).1 (by have := HBL.out; have := HD2.out; simp; omega)).trans HD.out)
            have hlt6 : D < w6.heap.size := (Array.getElem?_eq_some_iff.1 hD6).1
            have HALL := Lib.hid (hP6.all (fun k hk => HR1.out k (by have := HD2.out; omega)))
            have HND : Hid (¬ Few w6 b m u1 (.slice (some ⟨g2, 0, none⟩) i c2) (.slice none 0 0) D) := Lib.hid (fun hf => HNB.out (few_cells HH6.out.1 hP6 hf hD6 rfl))
            have C := Lib.hid (shrink_any (n := sp) (T := ⟨T.size, TBf, T.era, T.marks.take i, T.kept.take 0⟩) (hP6.few.ta HH6.out.1))
            have HK6 := Lib.hid hK6
            have HD6 := Lib.hid hD6
            clear hP6 hK6 hD6 hlt6 HH5 HH6 HQ1 HCUT HQ3 HD
            go_wp2_with (go_at_call 34; refine C.out.mono ?_; rintro e w7 ⟨rfl, ht7, hk7⟩; have HT7 := Lib.hid ht7; have HK7 := Lib.hid hk7; clear ht7 hk7)
            refine ⟨by simp, .inl ⟨_, _, rfl, run_takeDeferred (HK7.out.at HD6.out HND.out), ?_⟩⟩
            refine ⟨_, results_tmp rfl _ _ _, rfl, ?_, ?_⟩
            · rw [HUN.out]
              exact (HT7.out.puts HND.out _).mono (fun k hk q => (HR2.out k (HALL.out k q)).1)
            · exact ((HK6.out.trans (HK7.out.weak HALL.out)).weak (fun k q => (HR2.out k q).1)).puts HPP.out (by have := HD2.out; omega) _
          exact AllReadyH.nil
        exact AllReadyH.nil
      exact AllReadyH.nil
    exact AllReadyH.nil

end Go.Proofs.Ytafcecacldafgaa
