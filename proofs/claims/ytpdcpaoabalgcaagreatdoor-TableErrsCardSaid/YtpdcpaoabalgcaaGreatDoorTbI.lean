/- A range over the values of a set whose rounds may write, but not over the set nor the table (no statement of its own). -/
import Derived.Test.YtpdcpaoabalgcaaGreatDoorDm
import Derived.Test.YtpdcpaoabalgcaaGreatDoorSh1
namespace Go.Proofs.YtpdcpaoabalgcaaGreatDoor.Dm
open Go.RowKit Go.Shelf
set_option linter.unusedVariables false
attribute [local go_sem] Oper.semAt_some
theorem same2_below {B b g : Nat} {X Y : World} (h : Below B X Y) (hb : b < B) (hg : g < B) : Same2 b g X Y := ⟨h.size, h.block b hb, h.block g hg⟩
theorem tab_same {b : Nat} {X Y : World} (h : Tab X) (k : Same2 b 0 X Y) : Tab Y := fun i hi => (k.cell i).2.trans (h i hi)
/-- A value of a set. -/
abbrev Mem (k B : Nat) := { v : Nat // v ∈ mem k B }
set_option maxRecDepth 100000 in
set_option maxHeartbeats 1000000 in
theorem iterS_in (n : Nat) (hn : 1 ≤ n) (l Bn k B : Nat) (hk : k ≤ 32) (hB : B < 2 ^ k) (J Jx : List (Mem k B) → World → Prop) (W : World)
    (hJ : AbidesFrom W.heap.size J)
    (hY : ∀ pre x W1, J pre W1 → pre.length < (mem k B).length → YieldAt Fence.wide (n - 1) Tryz.prog l #[.int .i64 ((x.val : Nat) : Int)] W1 fun e W' =>
      (e = .returned (.bool true) ∧ J (pre ++ [x]) W' ∧ Same2 Bn 0 W1 W') ∨ (e = .returned (.bool false) ∧ Jx (pre ++ [x]) W'))
    (hBn : Bn < W.heap.size) (hT : Tab W) (hc0 : W.cell? ⟨Bn, 0, none⟩ = some (.int .i64 (k : Int))) (hc1 : W.cell? ⟨Bn, 1, none⟩ = some (.int .u32 (B : Int))) (h0 : J [] W) :
    CallsIn Fence.wide n Tryz.prog 96 #[.func (.yield l) #[] #[], .pointer (some ⟨Bn, 0, none⟩)] W fun e W' => (∃ v, e = .returned v) ∧
      ((∃ ys, ys.map (·.val) = mem k B ∧ J ys W') ∨ (∃ pre, True ∧ Jx pre W')) := by
  have HF := Lib.hid (fun W hW => first_any k B W hW hk hB)
  have HT := Lib.hid hT
  rw [firstI_head] at HF
  refine callsIn_of_wp Tryz.func96 rfl trivial ?_ rfl
  simp only [Tryz.ntmps96, List.size_toArray, List.length_cons, List.length_nil, Nat.reduceAdd, Nat.reduceSub, Array.replicate_succ, Array.replicate_zero, List.push_toArray, List.append_toArray, List.nil_append, List.cons_append]
  gi_wp2_with (refine ⟨trivial, ?_⟩; gi_at_call 97; refine (callsIn_wide.2 (HF.out _ HT.out)).mono ?_; rintro e W1 ⟨rfl, hb⟩)
  have hJ1 := Lib.hid (hJ _ _ _ _ h0 (grown_below hb) (fun r e => by cases e))
  have hB1 := Lib.hid (same2_below hb hBn hT.pos)
  have HC0 := Lib.hid hc0
  have HC1 := Lib.hid hc1
  have HY := Lib.hid hY
  have HJ := Lib.hid hJ
  clear h0 hb hT hc0 hc1 hY hJ
  gi_loopw [3] (fun p wr => ∃ (pre : List (Mem k B)) (rest : List Nat), p = .int .i64 (headI rest) ∧ mem k B = pre.map (·.val) ++ rest ∧ J pre wr ∧ Same2 Bn 0 W wr) (fun p _ => left p)
  case atStart => exact ⟨[], mem k B, rfl, rfl, hJ1.out, hB1.out⟩
  case round =>
    obtain ⟨pre, rest, rfl, hx, hJs, hBs⟩ := hrel
    have HX := Lib.hid hx
    have HJs := Lib.hid hJs
    have HBs := Lib.hid hBs
    clear hx hJs hBs
    cases rest with
    | nil =>
      have e1 : headI [] = -1 := rfl
      rw [e1]
      clear e1
      gi_wp2
      go_end0
      exact ⟨⟨_, rfl⟩, .inl ⟨pre, by have h := HX.out; rw [List.append_nil] at h; exact h.symm, HJs.out⟩⟩
    | cons x rest =>
      have e1 : headI (x :: rest) = (x : Int) := rfl
      rw [e1]
      clear e1
      have hxm : x ∈ mem k B := by rw [HX.out]; simp
      obtain ⟨fn, tmps, assign, body, hy, hR⟩ := HY.out pre ⟨x, hxm⟩ wr HJs.out (by have h := congrArg List.length HX.out; simp at h; omega)
      dsimp only at hy
      gi_wp2
      refine hR.mono ?_
      rintro e W3 (⟨rfl, hJ3, hk3⟩ | ⟨rfl, hJx3⟩)
      · have hBW := HBs.out.trans hk3
        have hB3 : Bn < W3.heap.size := Nat.lt_of_lt_of_le hBn hBW.1
        have h03 : 0 < W3.heap.size := Nat.lt_of_lt_of_le HT.out.pos hBW.1
        have f0 : W3.cell? ⟨Bn, 0, none⟩ = some (.int .i64 (k : Int)) := (hBW.cell 0).1.trans HC0.out
        have f1 : W3.cell? ⟨Bn, 1, none⟩ = some (.int .u32 (B : Int)) := (hBW.cell 1).1.trans HC1.out
        have hxk : x < k := by
          have : x ∈ mem k B := by rw [HX.out]; simp
          exact (mem_mem.1 this).1
        have HN := Lib.hid (next_mid k B x W3 (tab_same HT.out hBW) hk hB hxk)
        rw [firstI_head, mem_split hk hB HX.out] at HN
        have HJ3 := Lib.hid hJ3
        have HBW := Lib.hid hBW
        have hlt := left_lt k B x _ rest hk HX.out
        clear hJ3 hBW hk3 hy hR
        gi_wp2_with (refine ⟨trivial, ?_⟩; gi_at_call 98; refine (callsIn_wide.2 HN.out).mono ?_; rintro e W4 ⟨rfl, hb4⟩)
        go_roundw
        case rel => exact ⟨pre ++ [⟨x, hxm⟩], rest, rfl, by rw [List.map_append, List.append_assoc]; exact HX.out, HJ.out _ _ _ _ HJ3.out (grown_below hb4) (fun r e => by cases e), HBW.out.trans (same2_below hb4 hB3 h03)⟩
        case measure => exact hlt
      · gi_wp2
        refine bodyPost_ret (results_none rfl _ _ _) rfl ?_
        exact ⟨⟨_, rfl⟩, .inr ⟨pre ++ [⟨x, hxm⟩], trivial, hJx3⟩⟩
theorem iterS_stops (n : Nat) (hn : 1 ≤ n) (Bn k B : Nat) (hk : k ≤ 32) (hB : B < 2 ^ k) (w : World) (hBn : Bn < w.heap.size) (hT : Tab w)
    (hc0 : w.cell? ⟨Bn, 0, none⟩ = some (.int .i64 (k : Int))) (hc1 : w.cell? ⟨Bn, 1, none⟩ = some (.int .u32 (B : Int))) :
    SeqStopsK Fence.wide n Tryz.prog 96 #[.pointer (some ⟨Bn, 0, none⟩)] (fun x : Mem k B => #[Value.int .i64 ((x.val : Nat) : Int)]) (Same2 Bn 0) (fun ys => ys.map (·.val) = mem k B) (fun _ => True) (mem k B).length w := fun l J Jx W hW hJ _ hY h0 =>
  iterS_in n hn l Bn k B hk hB J Jx W hJ hY (Nat.lt_of_lt_of_le hBn hW.size) (hT.next hW) ((hW.cell (p := ⟨Bn, 0, none⟩) hBn).trans hc0) ((hW.cell (p := ⟨Bn, 1, none⟩) hBn).trans hc1) h0
end Go.Proofs.YtpdcpaoabalgcaaGreatDoor.Dm
