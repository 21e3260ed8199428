/- Contract of a table's least (no statement of its own). -/
import Derived.Test.YtpdcpaoabalgcaaGreatDoorTbQ
import Derived.Test.YtpdcpaoabalgcaaGreatDoorTbR
import Derived.Deep.Strs
namespace Go.Proofs.YtpdcpaoabalgcaaGreatDoor
open Go.RowKit Go.Shelf
set_option linter.unusedVariables false
attribute [local go_sem] Oper.semAt_some
open Dm (Mem mem setV setO Tab)
theorem boxes4 (w : World) (o0 o1 o2 o3 : Obj) : ((((w.alloc o0).alloc o1).alloc o2).alloc o3).heap[w.heap.size]? = some o0 ∧ ((((w.alloc o0).alloc o1).alloc o2).alloc o3).heap[w.heap.size + 1]? = some o1 ∧
    ((((w.alloc o0).alloc o1).alloc o2).alloc o3).heap[w.heap.size + 2]? = some o2 ∧ ((((w.alloc o0).alloc o1).alloc o2).alloc o3).heap[w.heap.size + 3]? = some o3 ∧ Below w.heap.size w ((((w.alloc o0).alloc o1).alloc o2).alloc o3) ∧ ((((w.alloc o0).alloc o1).alloc o2).alloc o3).heap.size = w.heap.size + 4 := by
  have n0 := new_val w o0
  have n1 := new_val (w.alloc o0) o1
  have n2 := new_val ((w.alloc o0).alloc o1) o2
  have n3 := new_val (((w.alloc o0).alloc o1).alloc o2) o3
  have z0 : (w.alloc o0).heap.size = w.heap.size + 1 := World.size_alloc _ _
  have z1 : ((w.alloc o0).alloc o1).heap.size = w.heap.size + 2 := by rw [World.size_alloc, z0]
  have z2 : (((w.alloc o0).alloc o1).alloc o2).heap.size = w.heap.size + 3 := by rw [World.size_alloc, z1]
  have a0 := heap_alloc_new w o0
  have a1 := heap_alloc_new (w.alloc o0) o1
  have a2 := heap_alloc_new ((w.alloc o0).alloc o1) o2
  have a3 := heap_alloc_new (((w.alloc o0).alloc o1).alloc o2) o3
  rw [z0] at a1
  rw [z1] at a2
  rw [z2] at a3
  refine ⟨(n3.block _ (by omega)).trans ((n2.block _ (by omega)).trans ((n1.block _ (by omega)).trans a0)), (n3.block _ (by omega)).trans ((n2.block _ (by omega)).trans a1), (n3.block _ (by omega)).trans a2, a3, ?_, by rw [World.size_alloc, z2]⟩
  exact ((n0.trans (n1.mono (by omega))).trans (n2.mono (by omega))).trans (n3.mono (by omega))
/-- The values of a part of a set. -/
def valsM {kk B : Nat} (pre : List (Mem kk B)) : List Nat := pre.map (·.val)
theorem valsM_snoc {kk B : Nat} (pre : List (Mem kk B)) (v : Mem kk B) : valsM (pre ++ [v]) = valsM pre ++ [v.val] := by simp [valsM]
theorem keepsFrom_drew (B : Nat) (W : World) (n : Nat) : KeepsFrom B W (W.drewN n) := KeepsFrom.of_grownBy (row := none) ⟨rfl, rfl, rfl, Nat.le_refl _, fun _ _ _ => rfl⟩ (fun j e => by cases e)
theorem same2_drew (b g : Nat) (W : World) (n : Nat) : Same2 b g W (W.drewN n) := ⟨Nat.le_refl _, rfl, rfl⟩
theorem least_fin {w W0 W : World} {kk B : Nat} {f : Nat → Int} {k a1 a2 x1 x2 : Int} {pre : List (Mem kk B)} {v : Mem kk B} {nq : Nat} (hz : w.heap.size + 7 ≤ W0.heap.size)
    (hl : Boxed W (w.heap.size + 4) 2 (.int .i64 a1)) (hb : Boxed W (w.heap.size + 5) 3 (.int .i64 a2)) (hB0 : Below (w.heap.size + 4) W0 W)
    (hs : leastL f k (valsM pre ++ [v.val]) = (x1, x2)) :
    KeepsFrom (w.heap.size + 7) W (((W.drewN nq).setCell ⟨w.heap.size + 4, 0, none⟩ (.int .i64 x1)).setCell ⟨w.heap.size + 5, 0, none⟩ (.int .i64 x2)) ∧
    Same2 (w.heap.size + 6) 0 W (((W.drewN nq).setCell ⟨w.heap.size + 4, 0, none⟩ (.int .i64 x1)).setCell ⟨w.heap.size + 5, 0, none⟩ (.int .i64 x2)) ∧
    Boxed (((W.drewN nq).setCell ⟨w.heap.size + 4, 0, none⟩ (.int .i64 x1)).setCell ⟨w.heap.size + 5, 0, none⟩ (.int .i64 x2)) (w.heap.size + 4) 2 (.int .i64 (leastL f k (valsM (pre ++ [v]))).1) ∧
    Boxed (((W.drewN nq).setCell ⟨w.heap.size + 4, 0, none⟩ (.int .i64 x1)).setCell ⟨w.heap.size + 5, 0, none⟩ (.int .i64 x2)) (w.heap.size + 5) 3 (.int .i64 (leastL f k (valsM (pre ++ [v]))).2) ∧
    Below (w.heap.size + 4) W0 (((W.drewN nq).setCell ⟨w.heap.size + 4, 0, none⟩ (.int .i64 x1)).setCell ⟨w.heap.size + 5, 0, none⟩ (.int .i64 x2)) := by
  rw [valsM_snoc, hs]
  have hl' : Boxed (W.drewN nq) (w.heap.size + 4) 2 (.int .i64 a1) := hl
  have hb' : Boxed (W.drewN nq) (w.heap.size + 5) 3 (.int .i64 a2) := hb
  refine ⟨(keepsFrom_drew _ W nq).trans (((KeepsOthers.setCell _ _ _).trans (KeepsOthers.setCell _ _ _)).from _), (same2_drew _ _ W nq).trans ⟨by simp [World.setCell], ?_, ?_⟩, ?_, ?_, ?_⟩
  · rw [Below.heap_setCell _ _ _ _ (by show _ ≠ w.heap.size + 5; omega), Below.heap_setCell _ _ _ _ (by show _ ≠ w.heap.size + 4; omega)]
  · rw [Below.heap_setCell _ _ _ _ (by show _ ≠ w.heap.size + 5; omega), Below.heap_setCell _ _ _ _ (by show _ ≠ w.heap.size + 4; omega)]
  · exact Boxed.other (Boxed.set _ hl') (by omega) _
  · exact Boxed.set _ (Boxed.other hb' (by omega) _)
  · exact ((next_drewN hB0 nq).setCell (p := ⟨w.heap.size + 4, 0, none⟩) (Nat.le_refl _) _).setCell (p := ⟨w.heap.size + 5, 0, none⟩) (by show w.heap.size + 4 ≤ w.heap.size + 5; omega) _
theorem least_fin0 {w W0 W : World} {kk B : Nat} {f : Nat → Int} {k a1 a2 : Int} {pre : List (Mem kk B)} {v : Mem kk B} {nq : Nat}
    (hl : Boxed W (w.heap.size + 4) 2 (.int .i64 a1)) (hb : Boxed W (w.heap.size + 5) 3 (.int .i64 a2)) (hB0 : Below (w.heap.size + 4) W0 W)
    (hs : leastL f k (valsM pre ++ [v.val]) = (a1, a2)) :
    KeepsFrom (w.heap.size + 7) W (W.drewN nq) ∧ Same2 (w.heap.size + 6) 0 W (W.drewN nq) ∧
    Boxed (W.drewN nq) (w.heap.size + 4) 2 (.int .i64 (leastL f k (valsM (pre ++ [v]))).1) ∧
    Boxed (W.drewN nq) (w.heap.size + 5) 3 (.int .i64 (leastL f k (valsM (pre ++ [v]))).2) ∧ Below (w.heap.size + 4) W0 (W.drewN nq) := by
  rw [valsM_snoc, hs]
  exact ⟨keepsFrom_drew _ W nq, same2_drew _ _ W nq, hl, hb, next_drewN hB0 nq⟩
set_option maxRecDepth 100000 in
set_option maxHeartbeats 4000000 in
theorem least_any (g h first step kk B : Nat) (l : List Nat) (k : Int) (z : Nat → Int) (w : World) (H : TabAt w g h l k z) (hT : Tab w) (hk : kk ≤ 32) (hB : B < 2 ^ kk) (hP : prodL l ≤ 4096) (hst : step ≤ 4096) (hin : ∀ v ∈ mem kk B, first + v * step < prodL l) :
    Calls Tryz.prog 61 #[.pointer (some ⟨g, 0, none⟩), .int .i64 (first : Int), .int .i64 (step : Int), setV kk B] w fun e w' =>
      e = .returned (.tuple #[.int .i64 (leastL (fun v => z (first + v * step)) k (mem kk B)).1, .int .i64 (leastL (fun v => z (first + v * step)) k (mem kk B)).2]) ∧ Below w.heap.size w w' := by
  have HT := Lib.hid H
  have HTab := Lib.hid hT
  have HIN := Lib.hid hin
  clear H hT hin
  refine (callsIn_wide (n := 3)).1 (callsIn_of_wp_marks Tryz.func61 rfl trivial ?_ rfl)
  simp only [Tryz.ntmps61, List.size_toArray, List.length_cons, List.length_nil, Nat.reduceAdd, Nat.reduceSub, Array.replicate_succ, Array.replicate_zero, List.push_toArray, List.append_toArray, List.nil_append, List.cons_append]
  refine wpIn_wide.2 ?_
  go_upto_region 1 with fail
  obtain ⟨k0, k1, k2, k3, bel4, hz4⟩ := boxes4 w (.cells #[.pointer (some ⟨g, 0, none⟩)] 26) (.cells #[.int .i64 (first : Int)] 3) (.cells #[.int .i64 (step : Int)] 3) (setO kk B)
  have K0 : Hid (Boxed _ _ _ _) := Lib.hid k0
  have K1 : Hid (Boxed _ _ _ _) := Lib.hid k1
  have K2 : Hid (Boxed _ _ _ _) := Lib.hid k2
  have K3 := Lib.hid k3
  have T4 := Lib.hid (HT.out.below bel4)
  have B4 := Lib.hid bel4
  clear k0 k1 k2 k3 bel4
  generalize (((w.alloc (.cells #[.pointer (some ⟨g, 0, none⟩)] 26)).alloc (.cells #[.int .i64 (first : Int)] 3)).alloc (.cells #[.int .i64 (step : Int)] 3)).alloc (setO kk B) = w4 at K0 K1 K2 K3 T4 B4 hz4 ⊢
  have b0 := K0.out.cell
  obtain ⟨-, -, -, -, -, -, -, c7, -⟩ := T4.out.cells
  have hg4 : g < w4.heap.size := World.block_lt_of_cell? w4 _ c7
  go_upto_region 2 with fail
  have n5 := new_val w4 (.cells #[.int .i64 k] 2)
  have n6 := new_val (w4.alloc (.cells #[.int .i64 k] 2)) (.cells #[.int .i64 (-1)] 3)
  have z5 : (w4.alloc (.cells #[.int .i64 k] 2)).heap.size = w.heap.size + 5 := by rw [World.size_alloc, hz4]
  have z6 : ((w4.alloc (.cells #[.int .i64 k] 2)).alloc (.cells #[.int .i64 (-1)] 3)).heap.size = w.heap.size + 6 := by rw [World.size_alloc, z5]
  have x5 : Boxed ((w4.alloc (.cells #[.int .i64 k] 2)).alloc (.cells #[.int .i64 (-1)] 3)) (w.heap.size + 4) 2 (.int .i64 k) := by
    have h := Boxed.alloc (Boxed.new w4 2 (.int .i64 k)) (.cells #[.int .i64 (-1)] 3)
    rwa [hz4] at h
  have x6 : Boxed ((w4.alloc (.cells #[.int .i64 k] 2)).alloc (.cells #[.int .i64 (-1)] 3)) (w.heap.size + 5) 3 (.int .i64 (-1)) := by
    have h := Boxed.new (w4.alloc (.cells #[.int .i64 k] 2)) 3 (.int .i64 (-1))
    rwa [z5] at h
  have b6 : Below w4.heap.size w4 ((w4.alloc (.cells #[.int .i64 k] 2)).alloc (.cells #[.int .i64 (-1)] 3)) := n5.trans (n6.mono (by omega))
  have L6 := Lib.hid x5
  have M6 := Lib.hid x6
  have B6 := Lib.hid b6
  clear n5 n6 z5 x5 x6 b6 b0 c7
  rw [show w.heap.size + 4 + 1 = w.heap.size + 5 from rfl]
  generalize ((w4.alloc (.cells #[.int .i64 k] 2)).alloc (.cells #[.int .i64 (-1)] 3)) = w6 at L6 M6 B6 z6 ⊢
  have s0 : w6.cell? ⟨w.heap.size + 1 + 1 + 1, 0, none⟩ = some (.int .i64 (kk : Int)) := by rw [cell_of_row _ _ _ _ _ _ ((B6.out.block (w.heap.size + 3) (by omega)).trans K3.out)]; rfl
  have s1 : w6.cell? ⟨w.heap.size + 1 + 1 + 1, 1, none⟩ = some (.int .u32 (B : Int)) := by rw [cell_of_row _ _ _ _ _ _ ((B6.out.block (w.heap.size + 3) (by omega)).trans K3.out)]; rfl
  go_wp2_with (go_at_call 83; refine (Dm.values_any kk B w6).mono ?_; rintro e w7 ⟨rfl, rfl⟩)
  have n7 := new_val w6 (setO kk B)
  have z7 : (w6.alloc (setO kk B)).heap.size = w.heap.size + 7 := by rw [World.size_alloc, z6]
  have S7 := heap_alloc_new w6 (setO kk B)
  rw [z6] at S7
  have L7 := Lib.hid ((n7.block _ L6.out.lt).trans L6.out)
  have M7 := Lib.hid ((n7.block _ M6.out.lt).trans M6.out)
  have B7 := Lib.hid (B6.out.trans (n7.mono (by omega)))
  have S7' := Lib.hid S7
  clear s0 s1 n7 S7
  generalize w6.alloc (setO kk B) = W0 at L7 M7 B7 S7' z7 ⊢
  have h0w : 0 < w.heap.size := HTab.out.pos
  have TB0 : Tab W0 := HTab.out.below (B4.out.trans (B7.out.mono (by omega))) h0w
  refine (wpIn_wide (n := 3)).1 (wpIn_rangeFunc_ownG rfl (by omega) (gf := 96) (lb := #[.pointer (some ⟨w.heap.size + 6, 0, none⟩)]) rfl trivial (enters_of Tryz.func96 (by kernel_rfl) rfl)
    (Dm.iterS_stops 2 (by omega) (w.heap.size + 6) kk B hk hB W0 (by omega) TB0 (by rw [cell_of_row _ _ _ _ _ _ S7'.out]; rfl) (by rw [cell_of_row _ _ _ _ _ _ S7'.out]; rfl)) (fun h k => h.trans k) (fun W l o o' h1 _ _ _ => same2_put (W0 := W0) (o := o) (by omega) (by omega) h1) (Below.refl _ _) (fun _ => rfl)
    (fun pre W => Boxed W (w.heap.size + 4) 2 (.int .i64 (leastL (fun v => z (first + v * step)) k (valsM pre)).1) ∧ Boxed W (w.heap.size + 5) 3 (.int .i64 (leastL (fun v => z (first + v * step)) k (valsM pre)).2) ∧ Below (w.heap.size + 4) W0 W)
    (fun _ _ _ => False)
    (OwnFrom.and (Own.from (boxed_own _ _ _) _) (OwnFrom.and (Own.from (boxed_own _ _ _) _) (ownFrom_below (by omega) (by omega))))
    (fun _ _ _ _ _ hs _ _ => hs)
    ⟨L7.out, M7.out, Below.refl _ _⟩
    ?a1 ?assign ?body ?done ?stop)
  case assign =>
    intro y x W K hK
    gi_wp2
    exact hK
  case body =>
    rintro y pre ⟨v, hv⟩ W ⟨hl, hb, hB0⟩ hlt
    have hM := HIN.out v hv
    obtain ⟨M, hMe⟩ : ∃ M, first + v * step = M := ⟨_, rfl⟩
    have hv32 : v ≤ 32 := by have := (Dm.mem_mem.1 hv).1; omega
    have hvs : v * step ≤ M := by omega
    rw [hMe] at hM
    have e1 : IntKind.i64.wrap ((v : Int) * (step : Int)) = (v : Int) * (step : Int) := by rw [← Int.natCast_mul]; exact IntWalk.i64_in _ (by omega)
    have e2 : IntKind.i64.wrap ((first : Int) + (v : Int) * (step : Int)) = (M : Int) := by rw [← Int.natCast_mul, ← Int.natCast_add, hMe]; exact IntWalk.i64_in _ (by omega)
    have q0 : (0 : Int) ≤ (M : Int) := by omega
    have q1 : (M : Int) < ((prodL l : Nat) : Int) := by omega
    have bW : Below w.heap.size w W := B4.out.trans ((B7.out.trans (hB0.mono (by omega))).mono (by omega))
    have b04 : Below (w.heap.size + 4) w4 W := (B7.out.mono (by omega)).trans hB0
    have TW := HT.out.below bW
    have k0 : W.cell? ⟨w.heap.size, 0, none⟩ = some (.pointer (some ⟨g, 0, none⟩)) := Boxed.cell (t := 26) ((b04.block _ (by omega)).trans K0.out)
    have k1 : W.cell? ⟨w.heap.size + 1, 0, none⟩ = some (.int .i64 (first : Int)) := Boxed.cell (t := 3) ((b04.block _ (by omega)).trans K1.out)
    have k2 : W.cell? ⟨w.heap.size + 1 + 1, 0, none⟩ = some (.int .i64 (step : Int)) := Boxed.cell (t := 3) ((b04.block _ (by omega)).trans K2.out)
    obtain ⟨-, -, -, -, -, -, -, -, c8⟩ := TW.cells
    obtain ⟨cur, hc, hcs, hcz⟩ := TW.costs
    have hcell : W.cell? ⟨h, M, none⟩ = some (.int .i64 (z M)) := by rw [cell_of_row _ _ _ _ _ _ hc]; exact hcz M hM
    have HSN := Lib.hid (leastL_snoc (fun v => z (first + v * step)) k (valsM pre) v)
    generalize leastL (fun v => z (first + v * step)) k (valsM pre) = a at hl hb HSN
    obtain ⟨a1, a2⟩ := a
    have HL := Lib.hid hl
    have HBX := Lib.hid hb
    have HB0 := Lib.hid hB0
    have HMe := Lib.hid hMe
    have b1c := hl.cell
    have b1f := hl.frozen
    have b2c := hb.cell
    have b2f := hb.frozen
    obtain ⟨zm, hzm⟩ : ∃ x, z M = x := ⟨_, rfl⟩
    rw [hzm] at hcell
    have HZM := Lib.hid hzm
    dsimp only at b1c b2c
    clear hl hb hB0 hMe hc hcs hcz TW hzm bW hvs hM
    gi_wp2
    refine quiet_round _ (by kernel_rfl) (by kernel_rfl) (by kernel_rfl) ?_
    repeat (gi_big_quiet_step (fail))
    refine wpQuietIn_nil ?_
    intro _ hw'
    obtain ⟨nq, hw''⟩ := hw'
    subst hw''
    clear e1 e2
    by_cases h1 : a2 < 0
    · gi_wp2
      have e3 : lstep (fun v => z (first + v * step)) (a1, a2) v = (zm, (v : Int)) := by unfold lstep; rw [if_pos (.inl h1)]; show (z (first + v * step), (v : Int)) = _; rw [HMe.out, HZM.out]
      rw [e3] at HSN
      first | exact least_fin (W0 := W0) (v := ⟨v, hv⟩) (by omega) HL.out HBX.out HB0.out HSN.out | (rw [z7]; exact least_fin (W0 := W0) (v := ⟨v, hv⟩) (by omega) HL.out HBX.out HB0.out HSN.out)
    · by_cases h2 : zm < a1
      · gi_wp2
        have e3 : lstep (fun v => z (first + v * step)) (a1, a2) v = (zm, (v : Int)) := by unfold lstep; rw [if_pos (.inr (by show z (first + v * step) < a1; rw [HMe.out, HZM.out]; exact h2))]; show (z (first + v * step), (v : Int)) = _; rw [HMe.out, HZM.out]
        rw [e3] at HSN
        exact least_fin (W0 := W0) (v := ⟨v, hv⟩) (by omega) HL.out HBX.out HB0.out HSN.out
      · gi_wp2
        have e3 : lstep (fun v => z (first + v * step)) (a1, a2) v = (a1, a2) := by unfold lstep; rw [if_neg (by show ¬ (a2 < 0 ∨ z (first + v * step) < a1); rw [HMe.out, HZM.out]; omega)]
        rw [e3] at HSN
        exact least_fin0 (W0 := W0) (v := ⟨v, hv⟩) HL.out HBX.out HB0.out HSN.out
  case done =>
    rintro D xs W hD hS ⟨hl, hb, hB0⟩ hK
    have hS' : valsM xs = mem kk B := hS
    rw [hS'] at hl hb
    have b1c := hl.cell
    have b2c := hb.cell
    have HB0 := Lib.hid hB0
    have HKD := Lib.hid hK
    obtain ⟨a, ha⟩ : ∃ a, leastL (fun v => z (first + v * step)) k (mem kk B) = a := ⟨_, rfl⟩
    rw [ha] at hl hb b1c b2c
    have HA := Lib.hid ha
    clear ha
    obtain ⟨a1, a2⟩ := a
    dsimp only at b1c b2c
    clear hl hb hB0 hK
    go_wp2_with fail
    go_quiet (fail)
    go_wp2_with fail
    refine ⟨by simp, .inl ⟨_, _, rfl, run_takeDeferred HKD.out, ?_⟩⟩
    refine ⟨_, results_tmp2 rfl _ _ _, ⟨?_, ?_⟩⟩
    · show Ending.returned (Value.tuple #[.int .i64 a1, .int .i64 a2]) = _
      rw [HA.out]
    exact (next_drewN (B4.out.trans ((B7.out.trans (HB0.out.mono (by omega))).mono (by omega))) _).trans (belowK_b (w := w) (Nat.le_refl _) _ D _ _ (by omega) HKD.out rfl rfl)
  case stop =>
    rintro D c pre W _ _ h _
    exact h.elim
end Go.Proofs.YtpdcpaoabalgcaaGreatDoor
