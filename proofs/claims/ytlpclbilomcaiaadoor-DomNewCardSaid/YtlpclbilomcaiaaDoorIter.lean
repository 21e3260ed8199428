/- Contracts of dom's Values as a range over a function, and of slices.Collect over it (no statement of its own). Conditions: at most 32 values, the bits below; the table reads as its initialiser lays it. -/
import Derived.Test.YtlpclbilomcaiaaDoorMem
import Derived.RangeFuncBox
import Derived.RangeFuncLeaves
import Derived.Shelf.Abstract
import Derived.OwnWalkIn
import Derived.TacticsInMore
import Derived.LoopNIn
import Derived.LoopIn
import Derived.Maps.AppendAt
namespace Go.Proofs.YtlpclbilomcaiaaDoor
open Go.RowKit Go.Shelf
set_option linter.unusedVariables false
attribute [local go_sem] Oper.semAt_some
def left (v : Value) : Nat := if intOf v < 0 then 0 else 33 - (intOf v).toNat
theorem left_nat (x : Nat) : left (.int .i64 (x : Int)) = 33 - x := by
  show (if (x : Int) < 0 then 0 else 33 - ((x : Int)).toNat) = 33 - x
  rw [if_neg (by omega), Int.toNat_natCast]
theorem left_lt (k B x : Nat) (pre rest : List Nat) (hk : k ≤ 32) (h : mem k B = pre ++ x :: rest) : left (.int .i64 (headI rest)) < left (.int .i64 (x : Int)) := by
  have hx : x < k := by
    have : x ∈ mem k B := by rw [h]; simp
    exact (mem_mem.1 this).1
  cases rest with
  | nil =>
    show 0 < left (.int .i64 (x : Int))
    rw [left_nat]
    omega
  | cons y r =>
    have hy : y < k := by
      have : y ∈ mem k B := by rw [h]; simp
      exact (mem_mem.1 this).1
    have hxy : x < y := by
      have hp := mem_lt k B
      rw [h, List.pairwise_append] at hp
      exact (List.pairwise_cons.1 hp.2.1).1 y (by simp)
    show left (.int .i64 (y : Int)) < _
    rw [left_nat, left_nat]
    omega
theorem grown_below {W W' : World} (h : Below W.heap.size W W') : W.grownBy W' none := ⟨h.os, h.tape, h.output, h.size, fun k hk _ => h.block k hk⟩
theorem values_any (k B : Nat) (w : World) :
    Calls Tryd.prog 24 #[setV k B] w fun e w' => e = .returned (.func (.func 34) #[] #[.pointer (some ⟨w.heap.size, 0, none⟩)]) ∧ w' = w.alloc (setO k B) := by
  go_enter Tryd.func24, Tryd.ntmps24
  go_wp2
  go_ret
  exact ⟨rfl, rfl⟩
set_option maxRecDepth 100000 in
set_option maxHeartbeats 1000000 in
theorem iter_in (n : Nat) (hn : 1 ≤ n) (l Bn n₀ k B : Nat) (hk : k ≤ 32) (hB : B < 2 ^ k) (J Jx : List Nat → World → Prop) (W : World)
    (hJ : AbidesFrom W.heap.size J)
    (hY : ∀ pre x W1, J pre W1 → pre.length < (mem k B).length → YieldAt Fence.wide (n - 1) Tryd.prog l #[.int .i64 ((x : Nat) : Int)] W1 fun e W' =>
      (e = .returned (.bool true) ∧ J (pre ++ [x]) W' ∧ Below n₀ W1 W') ∨ (e = .returned (.bool false) ∧ Jx (pre ++ [x]) W'))
    (hBn : Bn < n₀) (hn₀ : n₀ ≤ W.heap.size) (hT : Tab W) (hc0 : W.cell? ⟨Bn, 0, none⟩ = some (.int .i64 (k : Int))) (hc1 : W.cell? ⟨Bn, 1, none⟩ = some (.int .u32 (B : Int))) (h0 : J [] W) :
    CallsIn Fence.wide n Tryd.prog 34 #[.func (.yield l) #[] #[], .pointer (some ⟨Bn, 0, none⟩)] W fun e W' => (∃ v, e = .returned v) ∧
      ((∃ ys, ys = mem k B ∧ J ys W') ∨ (∃ pre, pre <+: mem k B ∧ Jx pre W')) := by
  have HF := Lib.hid (fun W hW => first_any k B W hW hk hB)
  have HT := Lib.hid hT
  rw [firstI_head] at HF
  refine callsIn_of_wp Tryd.func34 rfl trivial ?_ rfl
  simp only [Tryd.ntmps34, List.size_toArray, List.length_cons, List.length_nil, Nat.reduceAdd, Nat.reduceSub, Array.replicate_succ, Array.replicate_zero, List.push_toArray, List.append_toArray, List.nil_append, List.cons_append]
  gi_wp2_with (refine ⟨trivial, ?_⟩; gi_at_call 27; refine (callsIn_wide.2 (HF.out _ HT.out)).mono ?_; rintro e W1 ⟨rfl, hb⟩)
  have hJ1 := Lib.hid (hJ _ _ _ _ h0 (grown_below hb) (fun r e => by cases e))
  have hB1 := Lib.hid (hb.mono hn₀)
  have HC0 := Lib.hid hc0
  have HC1 := Lib.hid hc1
  have HY := Lib.hid hY
  have HJ := Lib.hid hJ
  clear h0 hb hT hc0 hc1 hY hJ
  gi_loopw [3] (fun p wr => ∃ (pre rest : List Nat), p = .int .i64 (headI rest) ∧ mem k B = pre ++ rest ∧ J pre wr ∧ Below n₀ W wr) (fun p _ => left p)
  case atStart => exact ⟨[], mem k B, rfl, rfl, hJ1.out, hB1.out⟩
  case round =>
    obtain ⟨pre, rest, rfl, hx, hJs, hBs⟩ := hrel
    have HX := Lib.hid hx
    have HJs := Lib.hid hJs
    have HBs := Lib.hid hBs
    clear hx hJs hBs
    cases rest with
    | nil =>
      have e1 : headI [] = -1 := rfl
      rw [e1]
      clear e1
      gi_wp2
      go_end0
      exact ⟨⟨_, rfl⟩, .inl ⟨pre, by rw [HX.out, List.append_nil], HJs.out⟩⟩
    | cons x rest =>
      have e1 : headI (x :: rest) = (x : Int) := rfl
      rw [e1]
      clear e1
      obtain ⟨fn, tmps, assign, body, hy, hR⟩ := HY.out pre x wr HJs.out (by rw [HX.out]; simp)
      gi_wp2
      refine hR.mono ?_
      rintro e W3 (⟨rfl, hJ3, hk3⟩ | ⟨rfl, hJx3⟩)
      · have hBW := HBs.out.trans hk3
        have f0 : W3.cell? ⟨Bn, 0, none⟩ = some (.int .i64 (k : Int)) := (hBW.cell (p := ⟨Bn, 0, none⟩) hBn).trans HC0.out
        have f1 : W3.cell? ⟨Bn, 1, none⟩ = some (.int .u32 (B : Int)) := (hBW.cell (p := ⟨Bn, 1, none⟩) hBn).trans HC1.out
        have hxk : x < k := by
          have : x ∈ mem k B := by rw [HX.out]; simp
          exact (mem_mem.1 this).1
        have HN := Lib.hid (next_mid k B x W3 (HT.out.below hBW (by omega)) hk hB hxk)
        rw [firstI_head, mem_split hk hB HX.out] at HN
        have HJ3 := Lib.hid hJ3
        have HBW := Lib.hid hBW
        have hz3 := hBW.size
        have hz4 := hk3.size
        have hlt := left_lt k B x pre rest hk HX.out
        clear hJ3 hBW hk3 hy hR
        gi_wp2_with (refine ⟨trivial, ?_⟩; gi_at_call 16; refine (callsIn_wide.2 HN.out).mono ?_; rintro e W4 ⟨rfl, hb4⟩)
        go_roundw
        case rel => exact ⟨pre ++ [x], rest, rfl, by rw [HX.out, List.append_assoc]; rfl, HJ.out _ _ _ _ HJ3.out (grown_below hb4) (fun r e => by cases e), HBW.out.trans (hb4.mono (by omega))⟩
        case measure => exact hlt
      · gi_wp2
        refine bodyPost_ret (results_none rfl _ _ _) rfl ?_
        exact ⟨⟨_, rfl⟩, .inr ⟨pre ++ [x], ⟨rest, by rw [HX.out, List.append_assoc]; rfl⟩, hJx3⟩⟩
theorem iter_stops (n : Nat) (hn : 1 ≤ n) (Bn n₀ k B : Nat) (hk : k ≤ 32) (hB : B < 2 ^ k) (w : World) (hBn : Bn < n₀) (hn₀ : n₀ ≤ w.heap.size) (hT : Tab w)
    (hc0 : w.cell? ⟨Bn, 0, none⟩ = some (.int .i64 (k : Int))) (hc1 : w.cell? ⟨Bn, 1, none⟩ = some (.int .u32 (B : Int))) :
    SeqStopsK Fence.wide n Tryd.prog 34 #[.pointer (some ⟨Bn, 0, none⟩)] (fun x : Nat => #[Value.int .i64 (x : Int)]) (Below n₀) (fun ys => ys = mem k B) (fun pre => pre <+: mem k B) (mem k B).length w := fun l J Jx W hW hJ _ hY h0 =>
  iter_in n hn l Bn n₀ k B hk hB J Jx W hJ hY hBn (by have := hW.size; omega) (hT.next hW) ((hW.cell (p := ⟨Bn, 0, none⟩) (by show Bn < w.heap.size; omega)).trans hc0) ((hW.cell (p := ⟨Bn, 1, none⟩) (by show Bn < w.heap.size; omega)).trans hc1) h0
set_option maxRecDepth 100000 in
set_option maxHeartbeats 2000000 in
theorem append_in (n : Nat) (hn : 3 ≤ n) (Bn k B : Nat) (hk : k ≤ 32) (hB : B < 2 ^ k) (w : World) (hBn : Bn < w.heap.size) (hT : Tab w)
    (hc0 : w.cell? ⟨Bn, 0, none⟩ = some (.int .i64 (k : Int))) (hc1 : w.cell? ⟨Bn, 1, none⟩ = some (.int .u32 (B : Int))) :
    CallsIn Fence.wide n Tryd.prog 37 #[.slice none 0 0, .func (.func 34) #[] #[.pointer (some ⟨Bn, 0, none⟩)]] w fun e W' => ∃ v, e = .returned v ∧ Go.Proofs.YtlpclbilomcaiaaDoor.Own W' w.heap.size v (mem k B) ∧ Below w.heap.size w W' := by
  have h1 : 1 ≤ n := by omega
  obtain ⟨i0, hi, hz0, hz1, hz2⟩ := info_parts info3
  refine callsIn_of_wp_marks Tryd.func37 rfl trivial ?_ rfl
  simp only [Tryd.ntmps37, List.size_toArray, List.length_cons, List.length_nil, Nat.reduceAdd, Nat.reduceSub, Array.replicate_succ, Array.replicate_zero, List.push_toArray, List.append_toArray, List.nil_append, List.cons_append]
  gi_wp2_with fail
  have bO := Boxed.new w 23 (.slice none 0 0)
  have hB0 : Below w.heap.size w (w.alloc (.cells #[.slice none 0 0] 23)) := (Below.refl _ w).alloc (Nat.le_refl _) _
  have hlen := mem_len (k := k) (B := B) hk
  refine wpIn_rangeFunc_ownG rfl h1 (gf := 34) (lb := #[.pointer (some ⟨Bn, 0, none⟩)]) rfl trivial (enters_of Tryd.func34 (by kernel_rfl) rfl)
    (iter_stops (n - 1) (by omega) Bn w.heap.size k B hk hB _ hBn (by simp) (hT.next hB0) ((hB0.cell (p := ⟨Bn, 0, none⟩) hBn).trans hc0) ((hB0.cell (p := ⟨Bn, 1, none⟩) hBn).trans hc1)) belowK_t (belowK_b (by simp)) (Below.refl _ _) (fun _ => rfl)
    (fun pre W => (∃ v, Boxed W w.heap.size 23 v ∧ W.ownsRow w.heap.size 3 1 v pre.length (pre.map fun y : Nat => Value.int .i64 (y : Int)) ∧ True) ∧ Below w.heap.size w W)
    (fun _ _ _ => False)
    (OwnFrom.and (_root_.Go.Own.from (holdsRow_own w.heap.size w.heap.size 23 3 1 (fun pre : List Nat => pre.length) (fun pre => pre.map fun y : Nat => Value.int .i64 (y : Int)) (fun _ _ => True)) _) (ownFrom_below (Nat.le_refl _) (by simp)))
    (fun _ _ _ _ _ hs _ _ => hs)
    ⟨⟨_, bO, World.ownsRow_nil _ _ _ _, trivial⟩, hB0⟩
    (fun x : Nat => { tmps := #[.slice none 0 0, .func (.func 34) #[] #[.pointer (some ⟨Bn, 0, none⟩)], .pointer (some ⟨w.heap.size, 0, none⟩), undef, .slice none 0 0, .int .i64 (x : Int), .func (.func 34) #[] #[.pointer (some ⟨Bn, 0, none⟩)], .int .i64 (x : Int), undef, undef, undef, undef, undef], defers := [] }) ?assign ?body ?done ?stop
  case assign =>
    intro l x W K hK
    gi_wp2
    exact hK
  case body =>
    rintro l pre x W ⟨⟨v, hv, hrow, _⟩, hBW⟩ hlt
    have hc := hv.cell
    gi_wp2_with (gi_at_builtin; refine wpListIn_append_own _ rfl _ _ 23 rfl w.heap.size 3 i0 (.int .i64 0) 1 8 Tryd.underlying23 hi hz0 hz1 hz2 rfl (by decide) _ _ _ rfl (hrow.alloc _) ⟨W.heap.size, 0, none⟩ 1 1 [.int .i64 (x : Int)] rfl rfl (cell_one_new _ _ _) (by simp [Value.oneCell']) (by unfold maxLen; omega) (by omega) (by have := hBW.size; simp; omega) ?_; intro v' w1 hown' hgrow _; obtain ⟨g', cap', rfl⟩ := ownsRow_succ hown'; obtain ⟨hv1, hv2, hr2, hk2, hb2⟩ := hv.appended (by decide) hrow hBW.size (Nat.le_refl _) hown' hgrow; have hc1 := hv1.cell; have hf1 := hv1.frozen)
    exact ⟨hk2.from _, hb2, ⟨_, hv2, by simpa using hr2, trivial⟩, hBW.trans hb2⟩
  case done =>
    rintro D ys W hD rfl ⟨⟨v, hv, hrow, _⟩, hBW⟩ hK
    have hc := hv.cell
    gi_wp2
    refine ⟨by simp, .inl ⟨_, _, rfl, run_takeDeferred hK, ?_⟩⟩
    exact ⟨_, results_tmp rfl _ _ _, v, rfl, ownsRow_putObj hrow _ hK rfl, hBW.trans (belowK_b (w := w) (Nat.le_refl _) W D _ _ (by simp at hD; omega) hK rfl rfl)⟩
  case stop =>
    rintro D c pre W _ _ h _
    exact h.elim
end Go.Proofs.YtlpclbilomcaiaaDoor
