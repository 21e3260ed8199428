/- A range over slices.Values of costs, its Collect, and what is sorted (no statement of its own). No condition. -/
import Derived.Test.YtdmldnlgamnkeaaGreatUB
import Derived.Test.YtdmldnlgamnkeaaGreatTbZ
namespace Go.Proofs.YtdmldnlgamnkeaaGreat
open Go.RowKit Go.Shelf
set_option linter.unusedVariables false
attribute [local go_sem] Oper.semAt_some
theorem info_i64z : (Tryz.prog.info? 2).map (fun i => (i.zero, i.size, i.bytes)) = some (some (.int .i64 0), 1, 8) := by kernel_rfl
/-- The first m of some costs. -/
def zL (z : Nat → Int) (m : Nat) : List Int := (List.range m).map z
theorem zL_len (z : Nat → Int) (m : Nat) : (zL z m).length = m := by simp [zL]
theorem zL_take (z : Nat → Int) {m j : Nat} (h : j < m) : (zL z m).take (j + 1) = (zL z m).take j ++ [z j] := by
  rw [List.take_add_one, List.getElem?_eq_getElem (by rw [zL_len]; exact h)]
  simp [zL]
theorem zL_costs (z : Nat → Int) (m : Nat) : (zL z m).map (Value.int .i64) = costL z m := by simp [zL, costL]
theorem row_zL {W : World} {B m : Nat} {v : Value} {z : Nat → Int} (h : W.ownsRow B 2 1 v (zL z m).length ((zL z m).map fun y : Int => Value.int .i64 y)) : W.ownsRow B 2 1 v m (costL z m) := by
  rw [zL_len] at h
  rw [← zL_costs]
  exact h
/-- What an iterator over a list answers. -/
def Vals64Post (l : List Int) (J Jx : List Int → World → Prop) (e : Ending) (W' : World) : Prop := (∃ v, e = .returned v) ∧ ((∃ ys, ys = l ∧ J ys W') ∨ (∃ pre, pre <+: l ∧ Jx pre W'))
set_option maxRecDepth 100000 in
set_option maxHeartbeats 1000000 in
theorem vals64_in (n : Nat) (hn : 1 ≤ n) (y Bn n₀ m c : Nat) (A : Option Addr) (z : Nat → Int) (J Jx : List Int → World → Prop) (W : World) (hm4 : m ≤ 100000)
    (hJ : AbidesFrom W.heap.size J)
    (hY : ∀ pre x W1, J pre W1 → pre.length < (zL z m).length → YieldAt Fence.wide (n - 1) Tryz.prog y #[.int .i64 x] W1 fun e W' =>
      (e = .returned (.bool true) ∧ J (pre ++ [x]) W' ∧ Below n₀ W1 W') ∨ (e = .returned (.bool false) ∧ Jx (pre ++ [x]) W'))
    (hBn : Bn < n₀) (hn₀ : n₀ ≤ W.heap.size) (hc0 : W.cell? ⟨Bn, 0, none⟩ = some (.slice A m c)) (hA : ∀ W', Below n₀ W W' → Zs W' A m z) (h0 : J [] W) :
    CallsIn Fence.wide n Tryz.prog 66 #[.func (.yield y) #[] #[], .pointer (some ⟨Bn, 0, none⟩)] W (Vals64Post (zL z m) J Jx) := by
  have HM := Lib.hid (zL_len z m)
  obtain ⟨l, hl⟩ : ∃ l, zL z m = l := ⟨_, rfl⟩
  have HL := Lib.hid hl
  rw [hl] at HM hY ⊢
  clear hl
  have HA := Lib.hid hA
  have HY := Lib.hid hY
  have HJ := Lib.hid hJ
  have HJ0 := Lib.hid h0
  clear hA hY hJ h0
  refine callsIn_of_wp Tryz.func66 rfl trivial ?_ rfl
  simp only [Tryz.ntmps66, List.size_toArray, List.length_cons, List.length_nil, Nat.reduceAdd, Nat.reduceSub, Array.replicate_succ, Array.replicate_zero, List.push_toArray, List.append_toArray, List.nil_append, List.cons_append]
  gi_wp2_with fail
  gi_loopw [7] (fun i wr => ∃ j : Nat, j ≤ m ∧ i = .int .i64 (j : Int) ∧ J (l.take j) wr ∧ Below n₀ W wr) (fun i _ => m - (intOf i).toNat)
  case atStart => exact ⟨0, Nat.zero_le _, rfl, HJ0.out, Below.refl _ _⟩
  case round =>
    obtain ⟨j, hj, rfl, hJs, hBs⟩ := hrel
    have HJs := Lib.hid hJs
    have HBs := Lib.hid hBs
    clear hJs hBs
    by_cases hlt : j < m
    · obtain ⟨g, o, rfl, hcell⟩ := (HA.out _ HBs.out).at_ hlt
      have ht : l.take (j + 1) = l.take j ++ [z j] := by
        rw [← HL.out]
        exact zL_take z hlt
      obtain ⟨x, hx⟩ : ∃ x, z j = x := ⟨_, rfl⟩
      rw [hx] at hcell ht
      clear hx
      obtain ⟨fn, tmps, assign, body, hy, hR⟩ := HY.out (l.take j) x wr HJs.out (by rw [List.length_take, HM.out]; omega)
      have i1 : (j : Int) < (m : Int) := by omega
      have i2 : (0 : Int) ≤ (j : Int) := by omega
      have HTT := Lib.hid ht
      clear ht
      gi_wp2
      refine hR.mono ?_
      rintro e W3 (⟨rfl, hJ3, hk3⟩ | ⟨rfl, hJx3⟩)
      · rw [← HTT.out] at hJ3
        have HJ3 := Lib.hid hJ3
        have HB3 := Lib.hid (HBs.out.trans hk3)
        clear hJ3 hk3 hy hR hcell
        gi_wp2
        go_roundw
        case rel => exact ⟨j + 1, by omega, by go_num, HJ3.out, HB3.out⟩
        case measure => simp [intOf]; omega
      · rw [← HTT.out] at hJx3
        gi_wp2
        refine bodyPost_ret (results_none rfl _ _ _) rfl ?_
        exact (show Vals64Post l J Jx _ _ from ⟨⟨_, rfl⟩, .inr ⟨l.take (j + 1), List.take_prefix _ _, hJx3⟩⟩)
    · have i1 : ¬ ((j : Int) < (m : Int)) := by omega
      have ht : l.take j = l := List.take_of_length_le (by rw [HM.out]; omega)
      have hJ := HJs.out
      rw [ht] at hJ
      gi_wp2
      go_end0
      exact (show Vals64Post l J Jx _ _ from ⟨⟨_, rfl⟩, .inl ⟨l, rfl, hJ⟩⟩)
theorem vals64_stops (n : Nat) (hn : 1 ≤ n) (Bn n₀ m c : Nat) (A : Option Addr) (z : Nat → Int) (w : World) (hm4 : m ≤ 100000) (hBn : Bn < n₀) (hn₀ : n₀ ≤ w.heap.size)
    (hc0 : w.cell? ⟨Bn, 0, none⟩ = some (.slice A m c)) (hA : ∀ W', Below n₀ w W' → Zs W' A m z) :
    SeqStopsK Fence.wide n Tryz.prog 66 #[.pointer (some ⟨Bn, 0, none⟩)] (fun x : Int => #[Value.int .i64 x]) (Below n₀) (fun ys => ys = zL z m) (fun pre => pre <+: zL z m) (zL z m).length w := fun y J Jx W hW hJ _ hY h0 =>
  vals64_in n hn y Bn n₀ m c A z J Jx W hm4 hJ hY hBn (by have := hW.size; omega) ((hW.cell (p := ⟨Bn, 0, none⟩) (by show Bn < w.heap.size; omega)).trans hc0) (fun W' h => hA W' ((hW.mono hn₀).trans h)) h0
set_option maxRecDepth 100000 in
set_option maxHeartbeats 2000000 in
theorem append64_in (n : Nat) (hn : 3 ≤ n) (Bn m c : Nat) (A : Option Addr) (z : Nat → Int) (w : World) (hm4 : m ≤ 100000) (hBn : Bn < w.heap.size) (hc0 : w.cell? ⟨Bn, 0, none⟩ = some (.slice A m c)) (hA : Zs w A m z) :
    CallsIn Fence.wide n Tryz.prog 72 #[.slice none 0 0, .func (.func 66) #[] #[.pointer (some ⟨Bn, 0, none⟩)]] w fun e W' => ∃ v, e = .returned v ∧ W'.ownsRow w.heap.size 2 1 v m (costL z m) ∧ Below w.heap.size w W' := by
  have h1 : 1 ≤ n := by omega
  obtain ⟨i0, hi, hz0, hz1, hz2⟩ := info_parts info_i64z
  refine callsIn_of_wp_marks Tryz.func72 rfl trivial ?_ rfl
  simp only [Tryz.ntmps72, List.size_toArray, List.length_cons, List.length_nil, Nat.reduceAdd, Nat.reduceSub, Array.replicate_succ, Array.replicate_zero, List.push_toArray, List.append_toArray, List.nil_append, List.cons_append]
  gi_wp2_with fail
  have bO := Boxed.new w 27 (.slice none 0 0)
  have hB0 : Below w.heap.size w (w.alloc (.cells #[.slice none 0 0] 27)) := (Below.refl _ w).alloc (Nat.le_refl _) _
  have hlen : (zL z m).length ≤ 100000 := by rw [zL_len]; exact hm4
  refine wpIn_rangeFunc_ownG rfl h1 (gf := 66) (lb := #[.pointer (some ⟨Bn, 0, none⟩)]) rfl trivial (enters_of Tryz.func66 (by kernel_rfl) rfl)
    (vals64_stops (n - 1) (by omega) Bn w.heap.size m c A z _ hm4 hBn (by simp) ((hB0.cell (p := ⟨Bn, 0, none⟩) hBn).trans hc0) (fun W' h => hA.below (hB0.trans h) (Nat.le_refl _))) belowK_t (belowK_b (by simp)) (Below.refl _ _) (fun _ => rfl)
    (fun pre W => (∃ v, Boxed W w.heap.size 27 v ∧ W.ownsRow w.heap.size 2 1 v pre.length (pre.map fun y : Int => Value.int .i64 y) ∧ True) ∧ Below w.heap.size w W)
    (fun _ _ _ => False)
    (OwnFrom.and (_root_.Go.Own.from (holdsRow_own w.heap.size w.heap.size 27 2 1 (fun pre : List Int => pre.length) (fun pre => pre.map fun y : Int => Value.int .i64 y) (fun _ _ => True)) _) (ownFrom_below (Nat.le_refl _) (by simp)))
    (fun _ _ _ _ _ hs _ _ => hs)
    ⟨⟨_, bO, World.ownsRow_nil _ _ _ _, trivial⟩, hB0⟩
    (fun x : Int => { tmps := #[.slice none 0 0, .func (.func 66) #[] #[.pointer (some ⟨Bn, 0, none⟩)], .pointer (some ⟨w.heap.size, 0, none⟩), undef, .slice none 0 0, .int .i64 x, .func (.func 66) #[] #[.pointer (some ⟨Bn, 0, none⟩)], .int .i64 x, undef, undef, undef, undef, undef], defers := [] }) ?assign ?body ?done ?stop
  case assign =>
    intro y x W K hK
    gi_wp2
    exact hK
  case body =>
    rintro y pre x W ⟨⟨v, hv, hrow, _⟩, hBW⟩ hlt
    have hc := hv.cell
    gi_wp2_with (gi_at_builtin; refine wpListIn_append_own _ rfl _ _ 27 rfl w.heap.size 2 i0 (.int .i64 0) 1 8 Tryz.underlying27 hi hz0 hz1 hz2 rfl (by decide) _ _ _ rfl (hrow.alloc _) ⟨W.heap.size, 0, none⟩ 1 1 [.int .i64 x] rfl rfl (cell_one_new _ _ _) (by simp [Value.oneCell']) (by unfold maxLen; omega) (by omega) (by have := hBW.size; simp; omega) ?_; intro v' w1 hown' hgrow _; obtain ⟨g', cap', rfl⟩ := ownsRow_succ hown'; obtain ⟨hv1, hv2, hr2, hk2, hb2⟩ := hv.appended (by decide) hrow hBW.size (Nat.le_refl _) hown' hgrow; have hc1 := hv1.cell; have hf1 := hv1.frozen)
    exact ⟨hk2.from _, hb2, ⟨_, hv2, by simpa using hr2, trivial⟩, hBW.trans hb2⟩
  case done =>
    rintro D ys W hD rfl ⟨⟨v, hv, hrow, _⟩, hBW⟩ hK
    have hc := hv.cell
    gi_wp2
    refine ⟨by simp, .inl ⟨_, _, rfl, run_takeDeferred hK, ?_⟩⟩
    exact ⟨_, results_tmp rfl _ _ _, v, rfl, row_zL (ownsRow_putObj hrow _ hK rfl), hBW.trans (belowK_b (w := w) (Nat.le_refl _) W D _ _ (by simp at hD; omega) hK rfl rfl)⟩
  case stop =>
    rintro D c pre W _ _ h _
    exact h.elim
theorem values64_any (A : Option Addr) (m c : Nat) (w : World) : Calls Tryz.prog 53 #[.slice A m c] w fun e w' => e = .returned (.func (.func 66) #[] #[.pointer (some ⟨w.heap.size, 0, none⟩)]) ∧ w' = w.alloc (.cells #[.slice A m c] 27) := by
  go_enter Tryz.func53, Tryz.ntmps53
  go_wp2_with fail
  go_ret
  exact ⟨rfl, rfl⟩
theorem collect64_any (Bn m c : Nat) (A : Option Addr) (z : Nat → Int) (w : World) (hm4 : m ≤ 100000) (hBn : Bn < w.heap.size) (hc0 : w.cell? ⟨Bn, 0, none⟩ = some (.slice A m c)) (hA : Zs w A m z) :
    Calls Tryz.prog 64 #[.func (.func 66) #[] #[.pointer (some ⟨Bn, 0, none⟩)]] w fun e w' => (∃ v, e = .returned v ∧ w'.ownsRow w.heap.size 2 1 v m (costL z m)) ∧ Below w.heap.size w w' := by
  have C := Lib.hid (callsIn_wide.1 (append64_in 3 (Nat.le_refl _) Bn m c A z w hm4 hBn hc0 hA))
  clear hc0 hA
  go_enter Tryz.func64, Tryz.ntmps64
  go_wp2_with (go_at_call 72; refine C.out.mono ?_; rintro e w' ⟨v, rfl, h1, h2⟩)
  go_ret
  exact ⟨⟨_, rfl, h1⟩, h2⟩
end Go.Proofs.YtdmldnlgamnkeaaGreat
