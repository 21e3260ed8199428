/- The walk of DomNew. Condition: the table reads as its initialiser lays it. -/
import Derived.Test.YtlpclbilomcaiaaDoorNewA
import Derived.Laws.ResultCell
namespace Go.Proofs.YtlpclbilomcaiaaDoor
open Go.RowKit Go.Shelf
set_option linter.unusedVariables false
attribute [local go_sem] Oper.semAt_some
theorem below6 {w W : World} {p q r s t : Prop} (h : p ∧ q ∧ r ∧ s ∧ t ∧ Below w.heap.size w W) : Below w.heap.size w W := h.2.2.2.2.2
set_option maxRecDepth 100000 in
set_option maxHeartbeats 4000000 in
theorem new_walk (n v : Int) (w : World) (hT : Tab w) : Calls Tryd.prog 5 #[.int .i64 n, .int .i64 v] w fun e w' => e = .returned (.bool true) ∧ Below w.heap.size w w' := by
  have HT := Lib.hid hT
  have hp := hT.pos
  obtain ⟨k, B, e0, hN, hk, hB, hc⟩ := new_any n
  have HN := Lib.hid hN
  have HB := Lib.hid hB
  clear hT hN hB
  have Z0 := Lib.hid (Below.refl w.heap.size w)
  refine (callsIn_wide (n := 3)).1 (callsIn_of_wp_marks Tryd.func5 rfl trivial ?_ rfl)
  simp only [Tryd.ntmps5, List.size_toArray, List.length_cons, List.length_nil, Nat.reduceAdd, Nat.reduceSub, Array.replicate_succ, Array.replicate_zero, List.push_toArray, List.append_toArray, List.nil_append, List.cons_append]
  refine wpIn_wide.2 ?_
  have B0 := Lib.hid ((Below.refl w.heap.size w).alloc (Nat.le_refl _) (Obj.cells #[Value.bool false] 4))
  go_wp2_with fail
  refine (awake_true _ (HT.out.next B0.out)).mono ?_
  rintro e w1 ⟨rfl, b1⟩
  have r1 : w1.cell? ⟨w.heap.size, 0, none⟩ = some (.bool false) := (b1.cell (p := ⟨w.heap.size, 0, none⟩) (by simp)).trans (by rw [World.cell?_alloc_at _ _ _ _ rfl]; rfl)
  have q1 : w1.frozen? ⟨w.heap.size, 0, none⟩ = false := (b1.frozen (p := ⟨w.heap.size, 0, none⟩) (by simp)).trans (by go_simp)
  have hr1 : w.heap.size < w1.heap.size := by have := b1.size; simp at this; omega
  have B1 := Lib.hid (then_ B0.out b1)
  clear b1
  go_wp2_with fail
  refine (HN.out _).mono ?_
  rintro e w2 ⟨rfl, b2⟩
  have r2 := (b2.cell (p := ⟨w.heap.size, 0, none⟩) hr1).trans r1
  have q2 := (b2.frozen (p := ⟨w.heap.size, 0, none⟩) hr1).trans q1
  have hr2 : w.heap.size < w2.heap.size := by have := b2.size; omega
  have B2 := Lib.hid (then_ B1.out b2)
  clear b2 r1 q1 hr1
  have c := Lib.hid hc
  clear hc
  rcases c.out with ⟨h1, h2, rfl, h3⟩ | ⟨h1, rfl, rfl, rfl⟩ | ⟨h1, rfl, rfl, rfl⟩
  · have zz := zed w2 k B
    obtain ⟨z0', z1', hz', bz'⟩ := zz
    clear c
    go_wp2_with (go_at_call 23; refine (len_any k B _ hk HB.out).mono ?_; rintro e wz ⟨rfl, b3⟩; rw [h3]; have z0 := (b3.cell (p := ⟨w2.heap.size + 1, 0, none⟩) hz').trans z0'; have z1 := (b3.cell (p := ⟨w2.heap.size + 1, 1, none⟩) hz').trans z1'; have hz := Nat.lt_of_lt_of_le hz' b3.size; have bz := then_ bz' b3; clear b3)
    clear z0' z1' hz' bz'
    have r3 := (bz.cell (p := ⟨w.heap.size, 0, none⟩) hr2).trans r2
    have q3 := (bz.frozen (p := ⟨w.heap.size, 0, none⟩) hr2).trans q2
    have B3 := Lib.hid (then_ B2.out bz)
    have hr3 := Nat.lt_of_lt_of_le hr2 bz.size
    clear bz r2 q2
    refine (values_any 0 0 wz).mono ?_
    rintro e w5 ⟨rfl, rfl⟩
    go_wp2_with fail
    have hz5 : (mem 0 0).length = 0 := by rw [mem_zero]; rfl
    have b5 := boxA wz 0 0
    have IT := Lib.hid (iter_stops 2 (by omega) wz.heap.size (wz.alloc (setO 0 0)).heap.size 0 0 (by omega) (by decide) (wz.alloc (setO 0 0)) (by simp) (Nat.le_refl _) (HT.out.next (then_ B3.out b5)) (new0 wz 0 0) (new1 wz 0 0))
    rw [hz5] at IT
    have B5 := Lib.hid (then_ B3.out b5)
    have r5 := (b5.cell (p := ⟨w.heap.size, 0, none⟩) hr3).trans r3
    have q5 := (b5.frozen (p := ⟨w.heap.size, 0, none⟩) hr3).trans q3
    have y0 := (b5.cell (p := ⟨w2.heap.size + 1, 0, none⟩) hz).trans z0
    have y1 := (b5.cell (p := ⟨w2.heap.size + 1, 1, none⟩) hz).trans z1
    clear b5 hz5
    refine range_none (n := 3) (by omega) (gf := 34) (lb := #[.pointer (some ⟨wz.heap.size, 0, none⟩)]) rfl (enters_of Tryd.func34 (by kernel_rfl) rfl) IT.out (fun _ => rfl) ?_
    intro D W hD bW hK
    have l5 : wz.heap.size < (wz.alloc (setO 0 0)).heap.size := by simp
    have HI := Lib.hid (And.intro (heldAt_of ((bW.cell (p := ⟨w.heap.size, 0, none⟩) (Nat.lt_trans hr3 l5)).trans r5)) (And.intro ((bW.frozen (p := ⟨w.heap.size, 0, none⟩) (Nat.lt_trans hr3 l5)).trans q5) (And.intro ((bW.cell (p := ⟨w2.heap.size + 1, 0, none⟩) (Nat.lt_trans hz l5)).trans y0) (And.intro ((bW.cell (p := ⟨w2.heap.size + 1, 1, none⟩) (Nat.lt_trans hz l5)).trans y1) (And.intro hK (then_ B5.out bW))))))
    have hDw : w.heap.size ≤ D := Nat.le_trans (Nat.le_of_lt (Nat.lt_trans hr3 l5)) hD
    clear r5 q5 y0 y1 bW hK z0 z1 r3 q3 hr3 hz l5
    have hZR : w2.heap.size + 1 ≠ w.heap.size := by omega
    have hRR : w.heap.size ≤ w.heap.size := Nat.le_refl _
    go_wp2_with fail
    go_region_held3 (fun w' => w'.cell? ⟨w.heap.size, 0, none⟩ = some (heldAt w.heap.size w') ∧ w'.frozen? ⟨w.heap.size, 0, none⟩ = false ∧ w'.cell? ⟨w2.heap.size + 1, 0, none⟩ = some (.int .i64 0) ∧ w'.cell? ⟨w2.heap.size + 1, 1, none⟩ = some (.int .u32 0) ∧ w'.heap[D]? = some (.deferred (some [])) ∧ Below w.heap.size w w')
      (first | exact holdN HI.out ((Below.refl _ _).drew) | exact holdNset (Value.bool true) hRR hZR (by assumption) | exact holdN (by assumption) (by assumption))
      (first
        | (go_at_call 25; refine (z_size _).mono ?_; rintro e w' ⟨rfl, hb⟩)
        | (go_at_call 23; refine (z_len _).mono ?_; rintro e w' ⟨rfl, hb⟩)
        | (go_at_call 26; refine (z_has v _).mono ?_; rintro e w' ⟨rfl, hb⟩)
        | (go_at_call 10; refine (z_put v _).mono ?_; rintro e w' ⟨rfl, hb⟩)
        | (go_at_call 12; refine (z_drop v _).mono ?_; rintro e w' ⟨rfl, hb⟩)
        | (go_at_call 18; refine (z_only v _).mono ?_; rintro e w' ⟨rfl, hb⟩)
        | (go_at_call 27; refine (z_first _ (HT.out.next (below6 (by assumption)))).mono ?_; rintro e w' ⟨rfl, hb⟩)
        | (go_at_call 28; refine (z_last _).mono ?_; rintro e w' ⟨rfl, hb⟩)
        | (go_at_call 16; refine (z_next v _ (HT.out.next (below6 (by assumption)))).mono ?_; rintro e w' ⟨rfl, hb⟩))
    go_wp2_with fail
    exact fin_walk rfl (by assumption) hDw (setd (by assumption))
  · clear c
    have zz := zedL w2
    go_wp2_with fail
    generalize (w2.alloc (Obj.cells #[Value.int IntKind.i64 0, Value.int IntKind.u32 0] 26)).alloc (Obj.cells #[Value.int IntKind.i64 0, Value.int IntKind.u32 0] 26) = wz at zz ⊢
    obtain ⟨z0, z1, hz, bz⟩ := zz
    have r3 := (bz.cell (p := ⟨w.heap.size, 0, none⟩) hr2).trans r2
    have q3 := (bz.frozen (p := ⟨w.heap.size, 0, none⟩) hr2).trans q2
    have B3 := Lib.hid (then_ B2.out bz)
    have hr3 := Nat.lt_of_lt_of_le hr2 bz.size
    clear bz r2 q2
    refine (values_any 0 0 wz).mono ?_
    rintro e w5 ⟨rfl, rfl⟩
    go_wp2_with fail
    have hz5 : (mem 0 0).length = 0 := by rw [mem_zero]; rfl
    have b5 := boxA wz 0 0
    have IT := Lib.hid (iter_stops 2 (by omega) wz.heap.size (wz.alloc (setO 0 0)).heap.size 0 0 (by omega) (by decide) (wz.alloc (setO 0 0)) (by simp) (Nat.le_refl _) (HT.out.next (then_ B3.out b5)) (new0 wz 0 0) (new1 wz 0 0))
    rw [hz5] at IT
    have B5 := Lib.hid (then_ B3.out b5)
    have r5 := (b5.cell (p := ⟨w.heap.size, 0, none⟩) hr3).trans r3
    have q5 := (b5.frozen (p := ⟨w.heap.size, 0, none⟩) hr3).trans q3
    have y0 := (b5.cell (p := ⟨w2.heap.size + 1, 0, none⟩) hz).trans z0
    have y1 := (b5.cell (p := ⟨w2.heap.size + 1, 1, none⟩) hz).trans z1
    clear b5 hz5
    refine range_none (n := 3) (by omega) (gf := 34) (lb := #[.pointer (some ⟨wz.heap.size, 0, none⟩)]) rfl (enters_of Tryd.func34 (by kernel_rfl) rfl) IT.out (fun _ => rfl) ?_
    intro D W hD bW hK
    have l5 : wz.heap.size < (wz.alloc (setO 0 0)).heap.size := by simp
    have HI := Lib.hid (And.intro (heldAt_of ((bW.cell (p := ⟨w.heap.size, 0, none⟩) (Nat.lt_trans hr3 l5)).trans r5)) (And.intro ((bW.frozen (p := ⟨w.heap.size, 0, none⟩) (Nat.lt_trans hr3 l5)).trans q5) (And.intro ((bW.cell (p := ⟨w2.heap.size + 1, 0, none⟩) (Nat.lt_trans hz l5)).trans y0) (And.intro ((bW.cell (p := ⟨w2.heap.size + 1, 1, none⟩) (Nat.lt_trans hz l5)).trans y1) (And.intro hK (then_ B5.out bW))))))
    have hDw : w.heap.size ≤ D := Nat.le_trans (Nat.le_of_lt (Nat.lt_trans hr3 l5)) hD
    clear r5 q5 y0 y1 bW hK z0 z1 r3 q3 hr3 hz l5
    have hZR : w2.heap.size + 1 ≠ w.heap.size := by omega
    have hRR : w.heap.size ≤ w.heap.size := Nat.le_refl _
    go_wp2_with fail
    go_region_held3 (fun w' => w'.cell? ⟨w.heap.size, 0, none⟩ = some (heldAt w.heap.size w') ∧ w'.frozen? ⟨w.heap.size, 0, none⟩ = false ∧ w'.cell? ⟨w2.heap.size + 1, 0, none⟩ = some (.int .i64 0) ∧ w'.cell? ⟨w2.heap.size + 1, 1, none⟩ = some (.int .u32 0) ∧ w'.heap[D]? = some (.deferred (some [])) ∧ Below w.heap.size w w')
      (first | exact holdN HI.out ((Below.refl _ _).drew) | exact holdNset (Value.bool true) hRR hZR (by assumption) | exact holdN (by assumption) (by assumption))
      (first
        | (go_at_call 25; refine (z_size _).mono ?_; rintro e w' ⟨rfl, hb⟩)
        | (go_at_call 23; refine (z_len _).mono ?_; rintro e w' ⟨rfl, hb⟩)
        | (go_at_call 26; refine (z_has v _).mono ?_; rintro e w' ⟨rfl, hb⟩)
        | (go_at_call 10; refine (z_put v _).mono ?_; rintro e w' ⟨rfl, hb⟩)
        | (go_at_call 12; refine (z_drop v _).mono ?_; rintro e w' ⟨rfl, hb⟩)
        | (go_at_call 18; refine (z_only v _).mono ?_; rintro e w' ⟨rfl, hb⟩)
        | (go_at_call 27; refine (z_first _ (HT.out.next (below6 (by assumption)))).mono ?_; rintro e w' ⟨rfl, hb⟩)
        | (go_at_call 28; refine (z_last _).mono ?_; rintro e w' ⟨rfl, hb⟩)
        | (go_at_call 16; refine (z_next v _ (HT.out.next (below6 (by assumption)))).mono ?_; rintro e w' ⟨rfl, hb⟩))
    go_wp2_with fail
    exact fin_walk rfl (by assumption) hDw (setd (by assumption))
  · clear c
    have zz := zedL w2
    go_wp2_with fail
    generalize (w2.alloc (Obj.cells #[Value.int IntKind.i64 0, Value.int IntKind.u32 0] 26)).alloc (Obj.cells #[Value.int IntKind.i64 0, Value.int IntKind.u32 0] 26) = wz at zz ⊢
    obtain ⟨z0, z1, hz, bz⟩ := zz
    have r3 := (bz.cell (p := ⟨w.heap.size, 0, none⟩) hr2).trans r2
    have q3 := (bz.frozen (p := ⟨w.heap.size, 0, none⟩) hr2).trans q2
    have B3 := Lib.hid (then_ B2.out bz)
    have hr3 := Nat.lt_of_lt_of_le hr2 bz.size
    clear bz r2 q2
    refine (values_any 0 0 wz).mono ?_
    rintro e w5 ⟨rfl, rfl⟩
    go_wp2_with fail
    have hz5 : (mem 0 0).length = 0 := by rw [mem_zero]; rfl
    have b5 := boxA wz 0 0
    have IT := Lib.hid (iter_stops 2 (by omega) wz.heap.size (wz.alloc (setO 0 0)).heap.size 0 0 (by omega) (by decide) (wz.alloc (setO 0 0)) (by simp) (Nat.le_refl _) (HT.out.next (then_ B3.out b5)) (new0 wz 0 0) (new1 wz 0 0))
    rw [hz5] at IT
    have B5 := Lib.hid (then_ B3.out b5)
    have r5 := (b5.cell (p := ⟨w.heap.size, 0, none⟩) hr3).trans r3
    have q5 := (b5.frozen (p := ⟨w.heap.size, 0, none⟩) hr3).trans q3
    have y0 := (b5.cell (p := ⟨w2.heap.size + 1, 0, none⟩) hz).trans z0
    have y1 := (b5.cell (p := ⟨w2.heap.size + 1, 1, none⟩) hz).trans z1
    clear b5 hz5
    refine range_none (n := 3) (by omega) (gf := 34) (lb := #[.pointer (some ⟨wz.heap.size, 0, none⟩)]) rfl (enters_of Tryd.func34 (by kernel_rfl) rfl) IT.out (fun _ => rfl) ?_
    intro D W hD bW hK
    have l5 : wz.heap.size < (wz.alloc (setO 0 0)).heap.size := by simp
    have HI := Lib.hid (And.intro (heldAt_of ((bW.cell (p := ⟨w.heap.size, 0, none⟩) (Nat.lt_trans hr3 l5)).trans r5)) (And.intro ((bW.frozen (p := ⟨w.heap.size, 0, none⟩) (Nat.lt_trans hr3 l5)).trans q5) (And.intro ((bW.cell (p := ⟨w2.heap.size + 1, 0, none⟩) (Nat.lt_trans hz l5)).trans y0) (And.intro ((bW.cell (p := ⟨w2.heap.size + 1, 1, none⟩) (Nat.lt_trans hz l5)).trans y1) (And.intro hK (then_ B5.out bW))))))
    have hDw : w.heap.size ≤ D := Nat.le_trans (Nat.le_of_lt (Nat.lt_trans hr3 l5)) hD
    clear r5 q5 y0 y1 bW hK z0 z1 r3 q3 hr3 hz l5
    have hZR : w2.heap.size + 1 ≠ w.heap.size := by omega
    have hRR : w.heap.size ≤ w.heap.size := Nat.le_refl _
    go_wp2_with fail
    go_region_held3 (fun w' => w'.cell? ⟨w.heap.size, 0, none⟩ = some (heldAt w.heap.size w') ∧ w'.frozen? ⟨w.heap.size, 0, none⟩ = false ∧ w'.cell? ⟨w2.heap.size + 1, 0, none⟩ = some (.int .i64 0) ∧ w'.cell? ⟨w2.heap.size + 1, 1, none⟩ = some (.int .u32 0) ∧ w'.heap[D]? = some (.deferred (some [])) ∧ Below w.heap.size w w')
      (first | exact holdN HI.out ((Below.refl _ _).drew) | exact holdNset (Value.bool true) hRR hZR (by assumption) | exact holdN (by assumption) (by assumption))
      (first
        | (go_at_call 25; refine (z_size _).mono ?_; rintro e w' ⟨rfl, hb⟩)
        | (go_at_call 23; refine (z_len _).mono ?_; rintro e w' ⟨rfl, hb⟩)
        | (go_at_call 26; refine (z_has v _).mono ?_; rintro e w' ⟨rfl, hb⟩)
        | (go_at_call 10; refine (z_put v _).mono ?_; rintro e w' ⟨rfl, hb⟩)
        | (go_at_call 12; refine (z_drop v _).mono ?_; rintro e w' ⟨rfl, hb⟩)
        | (go_at_call 18; refine (z_only v _).mono ?_; rintro e w' ⟨rfl, hb⟩)
        | (go_at_call 27; refine (z_first _ (HT.out.next (below6 (by assumption)))).mono ?_; rintro e w' ⟨rfl, hb⟩)
        | (go_at_call 28; refine (z_last _).mono ?_; rintro e w' ⟨rfl, hb⟩)
        | (go_at_call 16; refine (z_next v _ (HT.out.next (below6 (by assumption)))).mono ?_; rintro e w' ⟨rfl, hb⟩))
    go_wp2_with fail
    exact fin_walk rfl (by assumption) hDw (setd (by assumption))
end Go.Proofs.YtlpclbilomcaiaaDoor
