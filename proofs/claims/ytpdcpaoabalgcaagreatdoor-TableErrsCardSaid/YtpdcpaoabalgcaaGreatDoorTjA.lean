/- Texts of this seat laid together (no statement of its own). -/
import Derived.Test.YtpdcpaoabalgcaaGreatDoorTtA
import Derived.Test.YtpdcpaoabalgcaaGreatDoorTbQ
import Derived.Test.YtpdcpaoabalgcaaGreatDoorShelg
import Derived.Test.YtpdcpaoabalgcaaGreatDoorShQ
import Derived.Test.YtpdcpaoabalgcaaGreatDoorDm
import Derived.Test.YtpdcpaoabalgcaaGreatDoorAp
import Derived.Sort.OwnSortedInts
import Derived.Test.YtpdcpaoabalgcaaGreatDoorTbV
import Derived.Lib.RowBridge
namespace Go.Proofs.YtpdcpaoabalgcaaGreatDoor
open Go.RowKit
set_option linter.unusedVariables false
/-- Variables that rise. -/
def Rises (l : List Nat) : Prop := ∀ i, i + 1 < l.length → nth l i < nth l (i + 1)
theorem stands_yes (g h n c : Nat) (A : Option Addr) (l v : List Nat) (k : Int) (z : Nat → Int) (w : World) (H : TabAt w g h l k z) (hn : v.length = n) (hl : l.length = n) (hv : Rises v) (hA : Ints w A v) (hn6 : n ≤ 6) :
    Calls Tryz.prog 34 #[.pointer (some ⟨g, 0, none⟩), .slice A n c] w fun e w' => e = .returned (.bool true) ∧ Below w.heap.size w w' := by
  have HT := Lib.hid H
  have HN := Lib.hid hn
  have HL := Lib.hid hl
  have HV := Lib.hid hv
  have HA := Lib.hid hA
  clear H hn hl hv hA
  go_enter Tryz.func34, Tryz.ntmps34
  go_upto_region 3 with fail
  go_loop [5, 10] (fun v5 i => ∃ j : Nat, j ≤ n ∧ i = .int .i64 (j : Int) ∧ ∃ x : Int, v5 = .int .i64 x ∧ -1 ≤ x ∧ (j < n → x < (nth v j : Int))) (fun _ i => n - (intOf i).toNat)
  case atStart => exact ⟨0, Nat.zero_le _, rfl, -1, rfl, by omega, fun _ => by omega⟩
  case round =>
    obtain ⟨j, hj, rfl, x, rfl, hx0, hx⟩ := hrel
    by_cases hlt : j < n
    · obtain ⟨ga, oa, rfl, hcell⟩ := HA.out.at_ (i := j) (by rw [HN.out]; exact hlt)
      have i1 : (j : Int) < (n : Int) := by omega
      have i2 : (0 : Int) ≤ (j : Int) := by omega
      have hxj := hx hlt
      have HR : Hid (j + 1 < n → nth v j < nth v (j + 1)) := Lib.hid fun h => HV.out j (by rw [HN.out]; exact h)
      generalize nth v j = y at hcell hxj HR
      have d : ¬ ((y : Int) ≤ x) := by omega
      clear hx
      go_wp2_with fail
      go_round
      case rel => exact ⟨j + 1, by omega, by go_num, (y : Int), rfl, by omega, fun h => by have := HR.out h; omega⟩
      case measure => simp [intOf]; omega
    · have i1 : ¬ ((j : Int) < (n : Int)) := by omega
      obtain ⟨c0, c1, c2, c3, c4, c5, c6, c7, c8⟩ := HT.out.cells
      have d : ((n : Int) == (n : Int)) = true := by simp
      go_wp2_with fail
      refine (arity_any l w).mono ?_
      rintro e w' ⟨rfl, rfl⟩
      have nb := Lib.hid (new_val w (shO l))
      rw [HL.out]
      clear c0 c1 c2 c3 c4 c5 c6 c7 c8
      go_wp2_with fail
      go_ret
      exact ⟨rfl, nb.out⟩
end Go.Proofs.YtpdcpaoabalgcaaGreatDoor

namespace Go.Proofs.YtpdcpaoabalgcaaGreatDoor
open Go.RowKit Go.Shelf
set_option linter.unusedVariables false
attribute [local go_sem] Oper.semAt_some
theorem values_any (A : Option Addr) (n c : Nat) (w : World) :
    Calls Tryz.prog 38 #[.slice A n c] w fun e w' => e = .returned (.func (.func 68) #[] #[.pointer (some ⟨w.heap.size, 0, none⟩)]) ∧ w' = w.alloc (.cells #[.slice A n c] 27) := by
  go_enter Tryz.func38, Tryz.ntmps38
  go_wp2
  go_ret
  exact ⟨rfl, rfl⟩
theorem cnt_cast (l : List Nat) (x : Nat) : (l.map fun i : Nat => (i : Int)).countP (· < (x : Int)) = l.countP (· < x) := by
  induction l with
  | nil => rfl
  | cons a l ih => simp [List.countP_cons, ih]
theorem has_cast (l : List Nat) (x : Nat) : (l.map fun i : Nat => (i : Int)).contains (x : Int) = l.contains x := by
  rw [Bool.eq_iff_iff, List.contains_iff_mem, List.contains_iff_mem, List.mem_map]
  constructor
  · rintro ⟨a, ha, h⟩
    obtain rfl : a = x := by omega
    exact ha
  · exact fun h => ⟨x, h, rfl⟩
theorem rises_sorted {l : List Nat} (h : Rises l) : l.Pairwise (· ≤ ·) := by
  induction l with
  | nil => exact .nil
  | cons a l ih =>
    have h2 : Rises l := fun i hi => h (i + 1) (by simpa using hi)
    have hs := ih h2
    refine .cons (fun b hb => ?_) hs
    cases l with
    | nil => cases hb
    | cons c r =>
      have h1 := h 0 (by simp)
      have h1 : a < c := h1
      rcases List.mem_cons.1 hb with rfl | hb
      · omega
      · have := (List.pairwise_cons.1 hs).1 b hb
        omega
theorem bsearch_any (A : Option Addr) (n c x : Nat) (l : List Nat) (w : World) (hn : l.length = n) (hs : l.Pairwise (· ≤ ·)) (hA : Ints w A l) (hbig : n ≤ 1000000) :
    Calls Tryz.prog 65 #[.slice A n c, .int .i64 (x : Int)] w fun e w' => e = .returned (.tuple #[.int .i64 ((l.countP (· < x) : Nat) : Int), .bool (l.contains x)]) ∧ Below w.heap.size w w' := by
  subst hn
  rcases hA with h0 | ⟨g, o, rfl, hlt, hc⟩
  · subst h0
    refine (Tryz.slices_BinarySearch_int_empty A c (x : Int) w).mono ?_
    rintro e w' ⟨he, hw⟩
    refine ⟨by rw [he]; rfl, ?_⟩
    first | (obtain ⟨q, rfl⟩ := hw; exact next_drewN (Below.refl _ _) q) | (subst hw; exact Below.refl _ _) | (rw [hw]; exact Below.refl _ _)
  · have hl : (l.map fun i : Nat => (i : Int)).length = l.length := by simp
    refine (Tryz.slices_BinarySearch_int g o l.length c (l.map fun i : Nat => (i : Int)) (x : Int) w (by simp) (by omega) (fun j hj => ?_) ?_).mono ?_
    · have hj' : j < l.length := by simpa using hj
      rw [hc j hj']
      simp [nth, List.getD_eq_getElem?_getD, hj']
    · rw [List.take_of_length_le (by simp), List.pairwise_map]
      exact hs.imp fun h => by omega
    · rintro e w' ⟨he, q, rfl⟩
      rw [List.take_of_length_le (by simp), cnt_cast, has_cast] at he
      exact ⟨he, next_drewN (Below.refl _ _) q⟩
end Go.Proofs.YtpdcpaoabalgcaaGreatDoor

namespace Go.Proofs.YtpdcpaoabalgcaaGreatDoor
open Go.RowKit Go.Shelf
set_option linter.unusedVariables false
attribute [local go_sem] Oper.semAt_some
/-- What an iterator over a list answers. -/
def ValsPost (l : List Nat) (J Jx : List Nat → World → Prop) (e : Ending) (W' : World) : Prop := (∃ v, e = .returned v) ∧ ((∃ ys, ys = l ∧ J ys W') ∨ (∃ pre, pre <+: l ∧ Jx pre W'))
set_option maxRecDepth 100000 in
set_option maxHeartbeats 1000000 in
theorem vals_in (n : Nat) (hn : 1 ≤ n) (y Bn n₀ m c : Nat) (A : Option Addr) (l : List Nat) (J Jx : List Nat → World → Prop) (W : World) (hm : l.length = m) (hm4 : m ≤ 100000)
    (hJ : AbidesFrom W.heap.size J)
    (hY : ∀ pre x W1, J pre W1 → pre.length < l.length → YieldAt Fence.wide (n - 1) Tryz.prog y #[.int .i64 ((x : Nat) : Int)] W1 fun e W' =>
      (e = .returned (.bool true) ∧ J (pre ++ [x]) W' ∧ Below n₀ W1 W') ∨ (e = .returned (.bool false) ∧ Jx (pre ++ [x]) W'))
    (hBn : Bn < n₀) (hn₀ : n₀ ≤ W.heap.size) (hc0 : W.cell? ⟨Bn, 0, none⟩ = some (.slice A m c)) (hA : ∀ W', Below n₀ W W' → Ints W' A l) (h0 : J [] W) :
    CallsIn Fence.wide n Tryz.prog 68 #[.func (.yield y) #[] #[], .pointer (some ⟨Bn, 0, none⟩)] W (ValsPost l J Jx) := by
  have HM := Lib.hid hm
  have HA := Lib.hid hA
  have HY := Lib.hid hY
  have HJ := Lib.hid hJ
  have HJ0 := Lib.hid h0
  clear hm hA hY hJ h0
  refine callsIn_of_wp Tryz.func68 rfl trivial ?_ rfl
  simp only [Tryz.ntmps68, List.size_toArray, List.length_cons, List.length_nil, Nat.reduceAdd, Nat.reduceSub, Array.replicate_succ, Array.replicate_zero, List.push_toArray, List.append_toArray, List.nil_append, List.cons_append]
  gi_wp2_with fail
  gi_loopw [7] (fun i wr => ∃ j : Nat, j ≤ m ∧ i = .int .i64 (j : Int) ∧ J (l.take j) wr ∧ Below n₀ W wr) (fun i _ => m - (intOf i).toNat)
  case atStart => exact ⟨0, Nat.zero_le _, rfl, HJ0.out, Below.refl _ _⟩
  case round =>
    obtain ⟨j, hj, rfl, hJs, hBs⟩ := hrel
    have HJs := Lib.hid hJs
    have HBs := Lib.hid hBs
    clear hJs hBs
    by_cases hlt : j < m
    · obtain ⟨g, o, rfl, hcell⟩ := (HA.out _ HBs.out).at_ (i := j) (by rw [HM.out]; exact hlt)
      have ht : l.take (j + 1) = l.take j ++ [nth l j] := by
        have hj' : j < l.length := by rw [HM.out]; exact hlt
        rw [List.take_add_one, List.getElem?_eq_getElem hj']
        simp [nth, List.getD_eq_getElem?_getD, hj']
      obtain ⟨x, hx⟩ : ∃ x, nth l j = x := ⟨_, rfl⟩
      rw [hx] at hcell ht
      clear hx
      obtain ⟨fn, tmps, assign, body, hy, hR⟩ := HY.out (l.take j) x wr HJs.out (by rw [List.length_take, HM.out]; omega)
      have i1 : (j : Int) < (m : Int) := by omega
      have i2 : (0 : Int) ≤ (j : Int) := by omega
      have HTT := Lib.hid ht
      clear ht
      gi_wp2
      refine hR.mono ?_
      rintro e W3 (⟨rfl, hJ3, hk3⟩ | ⟨rfl, hJx3⟩)
      · rw [← HTT.out] at hJ3
        have HJ3 := Lib.hid hJ3
        have HB3 := Lib.hid (HBs.out.trans hk3)
        clear hJ3 hk3 hy hR hcell
        gi_wp2
        go_roundw
        case rel => exact ⟨j + 1, by omega, by go_num, HJ3.out, HB3.out⟩
        case measure => simp [intOf]; omega
      · rw [← HTT.out] at hJx3
        gi_wp2
        refine bodyPost_ret (results_none rfl _ _ _) rfl ?_
        exact (show ValsPost l J Jx _ _ from ⟨⟨_, rfl⟩, .inr ⟨l.take (j + 1), List.take_prefix _ _, hJx3⟩⟩)
    · have i1 : ¬ ((j : Int) < (m : Int)) := by omega
      have ht : l.take j = l := List.take_of_length_le (by rw [HM.out]; omega)
      have hJ := HJs.out
      rw [ht] at hJ
      gi_wp2
      go_end0
      exact (show ValsPost l J Jx _ _ from ⟨⟨_, rfl⟩, .inl ⟨l, rfl, hJ⟩⟩)
theorem vals_stops (n : Nat) (hn : 1 ≤ n) (Bn n₀ m c : Nat) (A : Option Addr) (l : List Nat) (w : World) (hm : l.length = m) (hm4 : m ≤ 100000) (hBn : Bn < n₀) (hn₀ : n₀ ≤ w.heap.size)
    (hc0 : w.cell? ⟨Bn, 0, none⟩ = some (.slice A m c)) (hA : ∀ W', Below n₀ w W' → Ints W' A l) :
    SeqStopsK Fence.wide n Tryz.prog 68 #[.pointer (some ⟨Bn, 0, none⟩)] (fun x : Nat => #[Value.int .i64 (x : Int)]) (Below n₀) (fun ys => ys = l) (fun pre => pre <+: l) l.length w := fun y J Jx W hW hJ _ hY h0 =>
  vals_in n hn y Bn n₀ m c A l J Jx W hm hm4 hJ hY hBn (by have := hW.size; omega) ((hW.cell (p := ⟨Bn, 0, none⟩) (by show Bn < w.heap.size; omega)).trans hc0) (fun W' h => hA W' ((hW.mono hn₀).trans h)) h0
set_option maxRecDepth 100000 in
set_option maxHeartbeats 2000000 in
theorem append_in (n : Nat) (hn : 3 ≤ n) (Bn m c : Nat) (A : Option Addr) (l : List Nat) (w : World) (hm : l.length = m) (hm4 : m ≤ 100000) (hBn : Bn < w.heap.size) (hc0 : w.cell? ⟨Bn, 0, none⟩ = some (.slice A m c)) (hA : Ints w A l) :
    CallsIn Fence.wide n Tryz.prog 87 #[.slice none 0 0, .func (.func 68) #[] #[.pointer (some ⟨Bn, 0, none⟩)]] w fun e W' => ∃ v, e = .returned v ∧ Go.Proofs.YtpdcpaoabalgcaaGreatDoor.Own W' w.heap.size v l ∧ Below w.heap.size w W' := by
  have h1 : 1 ≤ n := by omega
  obtain ⟨i0, hi, hz0, hz1, hz2⟩ := info_parts info_int
  refine callsIn_of_wp_marks Tryz.func87 rfl trivial ?_ rfl
  simp only [Tryz.ntmps87, List.size_toArray, List.length_cons, List.length_nil, Nat.reduceAdd, Nat.reduceSub, Array.replicate_succ, Array.replicate_zero, List.push_toArray, List.append_toArray, List.nil_append, List.cons_append]
  gi_wp2_with fail
  have bO := Boxed.new w 27 (.slice none 0 0)
  have hB0 : Below w.heap.size w (w.alloc (.cells #[.slice none 0 0] 27)) := (Below.refl _ w).alloc (Nat.le_refl _) _
  have hlen : l.length ≤ 100000 := by omega
  refine wpIn_rangeFunc_ownG rfl h1 (gf := 68) (lb := #[.pointer (some ⟨Bn, 0, none⟩)]) rfl trivial (enters_of Tryz.func68 (by kernel_rfl) rfl)
    (vals_stops (n - 1) (by omega) Bn w.heap.size m c A l _ hm hm4 hBn (by simp) ((hB0.cell (p := ⟨Bn, 0, none⟩) hBn).trans hc0) (fun W' h => hA.below (hB0.trans h) (Nat.le_refl _))) belowK_t (belowK_b (by simp)) (Below.refl _ _) (fun _ => rfl)
    (fun pre W => (∃ v, Boxed W w.heap.size 27 v ∧ W.ownsRow w.heap.size 3 1 v pre.length (pre.map fun y : Nat => Value.int .i64 (y : Int)) ∧ True) ∧ Below w.heap.size w W)
    (fun _ _ _ => False)
    (OwnFrom.and (_root_.Go.Own.from (holdsRow_own w.heap.size w.heap.size 27 3 1 (fun pre : List Nat => pre.length) (fun pre => pre.map fun y : Nat => Value.int .i64 (y : Int)) (fun _ _ => True)) _) (ownFrom_below (Nat.le_refl _) (by simp)))
    (fun _ _ _ _ _ hs _ _ => hs)
    ⟨⟨_, bO, World.ownsRow_nil _ _ _ _, trivial⟩, hB0⟩
    (fun x : Nat => { tmps := #[.slice none 0 0, .func (.func 68) #[] #[.pointer (some ⟨Bn, 0, none⟩)], .pointer (some ⟨w.heap.size, 0, none⟩), undef, .slice none 0 0, .int .i64 (x : Int), .func (.func 68) #[] #[.pointer (some ⟨Bn, 0, none⟩)], .int .i64 (x : Int), undef, undef, undef, undef, undef], defers := [] }) ?assign ?body ?done ?stop
  case assign =>
    intro y x W K hK
    gi_wp2
    exact hK
  case body =>
    rintro y pre x W ⟨⟨v, hv, hrow, _⟩, hBW⟩ hlt
    have hc := hv.cell
    gi_wp2_with (gi_at_builtin; refine wpListIn_append_own _ rfl _ _ 27 rfl w.heap.size 3 i0 (.int .i64 0) 1 8 Tryz.underlying27 hi hz0 hz1 hz2 rfl (by decide) _ _ _ rfl (hrow.alloc _) ⟨W.heap.size, 0, none⟩ 1 1 [.int .i64 (x : Int)] rfl rfl (cell_one_new _ _ _) (by simp [Value.oneCell']) (by unfold maxLen; omega) (by omega) (by have := hBW.size; simp; omega) ?_; intro v' w1 hown' hgrow _; obtain ⟨g', cap', rfl⟩ := ownsRow_succ hown'; obtain ⟨hv1, hv2, hr2, hk2, hb2⟩ := hv.appended (by decide) hrow hBW.size (Nat.le_refl _) hown' hgrow; have hc1 := hv1.cell; have hf1 := hv1.frozen)
    exact ⟨hk2.from _, hb2, ⟨_, hv2, by simpa using hr2, trivial⟩, hBW.trans hb2⟩
  case done =>
    rintro D ys W hD rfl ⟨⟨v, hv, hrow, _⟩, hBW⟩ hK
    have hc := hv.cell
    gi_wp2
    refine ⟨by simp, .inl ⟨_, _, rfl, run_takeDeferred hK, ?_⟩⟩
    exact ⟨_, results_tmp rfl _ _ _, v, rfl, ownsRow_putObj hrow _ hK rfl, hBW.trans (belowK_b (w := w) (Nat.le_refl _) W D _ _ (by simp at hD; omega) hK rfl rfl)⟩
  case stop =>
    rintro D c pre W _ _ h _
    exact h.elim
end Go.Proofs.YtpdcpaoabalgcaaGreatDoor

namespace Go.Proofs.YtpdcpaoabalgcaaGreatDoor
open Go.RowKit Go.Shelf Go.Sort
set_option linter.unusedVariables false
theorem grow_any (n : Nat) (w : World) (hn : n ≤ 1000) :
    Calls Tryz.prog 69 #[.slice none 0 0, .int .i64 (n : Int)] w fun e w' => (∃ v, e = .returned v ∧ Own w' w.heap.size v []) ∧ Below w.heap.size w w' := by
  obtain ⟨i0, hi, hz0, hz1, hz2⟩ := info_parts info_int
  by_cases h : n = 0
  · subst h
    refine (Any8.slices_Grow_room Tryz.growI none 0 0 0 w (Nat.le_refl _) (by omega) (by omega) (Nat.le_refl _)).mono ?_
    rintro e w' ⟨rfl, hw⟩
    refine ⟨⟨_, rfl, own_nil _ _⟩, ?_⟩
    first | (subst hw; exact Below.refl _ _) | (rw [hw]; exact Below.refl _ _)
  · refine (Any8.slices_Grow_grow Tryz.growI i0 (.int .i64 0) hi hz0 (by rw [hz1]; omega) none 0 0 n [] w (Nat.le_refl _) (by omega) (by rw [hz2]; omega) (by omega) (by simp) (fun _ => rfl) (fun a e => by cases e)).mono ?_
    rintro e w' ⟨rfl, rfl⟩
    have hge := grownCap_ge w (0 + n) 0 3
    have hle := grownCap_le_maxLen w (0 + n) 0 3 (by unfold maxLen; omega)
    refine ⟨⟨_, rfl, ?_⟩, ?_⟩
    · have h := World.ownsRow_made (base := w.heap.size) (e := 3) (size := 1) w.drew (([] : List Value).toArray ++ Builtin.zeroCells (Value.int .i64 0).cells (0 + n - 0) ++ Builtin.zeroCells (Value.int .i64 0).cells (grownCap w (0 + n) 0 3 - (0 + n))) (grownCap w (0 + n) 0 3) (Nat.le_refl _) hle (by simp [Builtin.zeroCells, Value.cells, -Nat.zero_add]; omega)
      exact h
    · exact ((Below.refl w.heap.size w).drew).alloc (Nat.le_refl _) _
set_option maxRecDepth 100000 in
set_option maxHeartbeats 4000000 in
theorem concat_any (g n1 c1 n2 c2 cL : Nat) (A1 A2 : Option Addr) (l1 l2 : List Nat) (w : World) (hn1 : l1.length = n1) (hn2 : l2.length = n2) (h1 : n1 ≤ 100) (h2 : n2 ≤ 100) (hg : g < w.heap.size)
    (x0 : w.cell? ⟨g, 0, none⟩ = some (.slice A1 n1 c1)) (x1 : w.cell? ⟨g, 1, none⟩ = some (.slice A2 n2 c2)) (i1 : Ints w A1 l1) (i2 : Ints w A2 l2) (e1 : A1 = none → c1 = 0) (e2 : A2 = none → c2 = 0) :
    Calls Tryz.prog 39 #[.slice (some ⟨g, 0, none⟩) 2 cL] w fun e w' => (∃ v, e = .returned v ∧ Own w' w.heap.size v (l1 ++ l2)) ∧ Below w.heap.size w w' := by
  have HN1 := Lib.hid hn1
  have HN2 := Lib.hid hn2
  have I1 := Lib.hid i1
  have I2 := Lib.hid i2
  have E1 := Lib.hid e1
  have E2 := Lib.hid e2
  have X0 := Lib.hid x0
  have X1 := Lib.hid x1
  clear hn1 hn2 i1 i2 e1 e2
  go_enter Tryz.func39, Tryz.ntmps39
  go_upto_region 3 with fail
  go_loop [3, 11] (fun v3 i => (i = .int .i64 0 ∧ v3 = .int .i64 0) ∨ (i = .int .i64 1 ∧ v3 = .int .i64 (n1 : Int)) ∨ (i = .int .i64 2 ∧ v3 = .int .i64 ((n1 + n2 : Nat) : Int))) (fun _ i => 2 - (intOf i).toNat)
  case atStart => exact .inl ⟨rfl, rfl⟩
  case round =>
    rcases hrel with ⟨rfl, rfl⟩ | ⟨rfl, rfl⟩ | ⟨rfl, rfl⟩
    · go_wp2_with fail
      go_round
      case rel => exact .inr (.inl ⟨rfl, by go_num⟩)
      case measure => simp [intOf]
    · have d : ¬ ((n1 : Int) + (n2 : Int) < 0) := by omega
      go_wp2_with fail
      go_round
      case rel => exact .inr (.inr ⟨rfl, by go_num⟩)
      case measure => simp [intOf]
    · clear x0 x1
      have GR := Lib.hid (grow_any (n1 + n2) w (by omega))
      go_wp2_with fail
      refine GR.out.mono ?_
      rintro e w1 ⟨⟨v, rfl, hO⟩, hb⟩
      have O1 := Lib.hid hO
      have B1 := Lib.hid hb
      clear hO hb GR
      go_upto_region 11 with fail
      go_loopw [6, 27] (fun v6 i wr => Below w.heap.size w wr ∧ ((i = .int .i64 0 ∧ Own wr w.heap.size v6 []) ∨ (i = .int .i64 1 ∧ Own wr w.heap.size v6 l1) ∨ (i = .int .i64 2 ∧ Own wr w.heap.size v6 (l1 ++ l2)))) (fun _ i _ => 2 - (intOf i).toNat)
      case atStart => exact ⟨B1.out, .inl ⟨rfl, O1.out⟩⟩
      case round =>
        obtain ⟨hb, ⟨rfl, hO⟩ | ⟨rfl, hO⟩ | ⟨rfl, hO⟩⟩ := hrel
        · have BR := Lib.hid hb
          have OR := Lib.hid hO
          have y0 : wr.cell? ⟨g, 0, none⟩ = some (.slice A1 n1 c1) := (hb.cell (p := ⟨g, 0, none⟩) hg).trans X0.out
          have J1 := Lib.hid (I1.out.below hb (Nat.le_refl _))
          clear hb hO
          go_wp2_with (at_builtin; refine app_own rfl (.tmp 31) (.tmp 32) rfl wr w.heap.size n1 c1 u6 [] l1 A1 HN1.out rfl rfl OR.out J1.out E1.out BR.out.size (by simp) (by omega) ?_; intro v' w' hO hg'; have BN := Lib.hid (BR.out.grown hg' BR.out.size (fun b hb' => (World.ownsRow.lt OR.out b hb').1)); have ON := Lib.hid hO; clear hO hg')
          go_roundw
          case rel => exact ⟨BN.out, .inr (.inl ⟨rfl, ON.out⟩)⟩
          case measure => simp [intOf]
        · have BR := Lib.hid hb
          have OR := Lib.hid hO
          have y1 : wr.cell? ⟨g, 1, none⟩ = some (.slice A2 n2 c2) := (hb.cell (p := ⟨g, 1, none⟩) hg).trans X1.out
          have J2 := Lib.hid (I2.out.below hb (Nat.le_refl _))
          clear hb hO
          go_wp2_with (at_builtin; refine app_own rfl (.tmp 31) (.tmp 32) rfl wr w.heap.size n2 c2 u6 l1 l2 A2 HN2.out rfl rfl OR.out J2.out E2.out BR.out.size (by rw [HN1.out]; omega) (by omega) ?_; intro v' w' hO hg'; have BN := Lib.hid (BR.out.grown hg' BR.out.size (fun b hb' => (World.ownsRow.lt OR.out b hb').1)); have ON := Lib.hid hO; clear hO hg')
          go_roundw
          case rel => exact ⟨BN.out, .inr (.inr ⟨rfl, ON.out⟩)⟩
          case measure => simp [intOf]
        · have BR := Lib.hid hb
          have OR := Lib.hid hO
          clear hb hO
          go_wp2_with fail
          go_ret
          exact ⟨⟨_, rfl, OR.out⟩, BR.out⟩
/-- The numbers of a list, sorted. -/
def sortI (l : List Nat) : List Int := (l.map fun i : Nat => (i : Int)).mergeSort fun x y => decide (x ≤ y)
theorem sortI_len (l : List Nat) : (sortI l).length = l.length := by simp [sortI]
theorem sortI_nil : sortI [] = [] := by simp [sortI]
theorem collect_any (Bn m c : Nat) (A : Option Addr) (l : List Nat) (w : World) (hm : l.length = m) (hm4 : m ≤ 100000) (hBn : Bn < w.heap.size) (hc0 : w.cell? ⟨Bn, 0, none⟩ = some (.slice A m c)) (hA : Ints w A l) :
    Calls Tryz.prog 66 #[.func (.func 68) #[] #[.pointer (some ⟨Bn, 0, none⟩)]] w fun e w' => (∃ v, e = .returned v ∧ Own w' w.heap.size v l) ∧ Below w.heap.size w w' := by
  have C := Lib.hid (callsIn_wide.1 (append_in 3 (Nat.le_refl _) Bn m c A l w hm hm4 hBn hc0 hA))
  clear hc0 hA
  go_enter Tryz.func66, Tryz.ntmps66
  go_wp2_with (go_at_call 87; refine C.out.mono ?_; rintro e w' ⟨v, rfl, h1, h2⟩)
  go_ret
  exact ⟨⟨_, rfl, h1⟩, h2⟩
set_option maxHeartbeats 1000000 in
theorem sorted_any (Bn m c : Nat) (A : Option Addr) (l : List Nat) (w : World) (hm : l.length = m) (hm4 : m ≤ 100000) (hBn : Bn < w.heap.size) (hc0 : w.cell? ⟨Bn, 0, none⟩ = some (.slice A m c)) (hA : Ints w A l) :
    Calls Tryz.prog 37 #[.func (.func 68) #[] #[.pointer (some ⟨Bn, 0, none⟩)]] w fun e w' => (∃ v, e = .returned v ∧ w'.ownsRow w.heap.size 3 1 v m ((sortI l).map (Value.int .i64))) ∧ Below w.heap.size w w' := by
  have C := Lib.hid (collect_any Bn m c A l w hm hm4 hBn hc0 hA)
  have HM := Lib.hid hm
  clear hc0 hA hm
  go_enter Tryz.func37, Tryz.ntmps37
  go_wp2_with fail
  refine C.out.mono ?_
  rintro e w1 ⟨⟨v, rfl, hO⟩, hb⟩
  have hO' := hO
  obtain ⟨hl, ⟨rfl, h0⟩ | ⟨gb, cap, cur, rfl, hbase, hgb, r1, r2, r3, r4⟩⟩ := hO'
  · have hss : l = [] := List.eq_nil_of_length_eq_zero h0
    have hm0 : m = 0 := by rw [← HM.out, hss]; rfl
    have HSS := Lib.hid hss
    have HB := Lib.hid hb
    clear hO hb h0 hl hss
    subst hm0
    go_wp2_with (go_at_call 67; refine (Tryz.slices_Sort_int_none none 0 w1).mono ?_; rintro e w' ⟨rfl, rfl⟩)
    go_ret
    exact ⟨⟨_, rfl, by rw [HSS.out, sortI_nil]; exact World.ownsRow_nil _ _ _ _⟩, HB.out⟩
  · have HH : Hid (Holds (Value.int .i64) w1 gb 0 (l.map fun i : Nat => (i : Int)).toArray) := Lib.hid (holds_of_blockI hgb (by rw [List.length_map, List.map_map]; rw [Nat.mul_one] at r4; exact r4))
    have hgl : gb < w1.heap.size := (Array.getElem?_eq_some_iff.1 hgb).1
    have SS := Lib.hid (Tryz.slices_Sort_int gb 0 cap (l.map fun i : Nat => (i : Int)) w1 HH.out hgl (by rw [List.length_map, HM.out]; omega))
    have FIN : Hid (∀ (nn : Nat) (os : Array Obj), (grow (putRow (Value.int .i64) (Sort.ahead w1 nn) gb 0 (sortI l).toArray) os).ownsRow w.heap.size 3 1 (.slice (some ⟨gb, 0, none⟩) m cap) m ((sortI l).map (Value.int .i64)) ∧ Below w.heap.size w (grow (putRow (Value.int .i64) (Sort.ahead w1 nn) gb 0 (sortI l).toArray) os)) := Lib.hid fun nn os => by
      have h := ownsRow_sortedI (base := w.heap.size) (n := nn) (os := os) (ss := l.map fun i : Nat => (i : Int)) (ts := sortI l) (by rw [sortI_len, List.length_map]) hbase hgb (by rw [List.length_map]; omega) r2 r3
      rw [List.length_map, HM.out] at h
      exact ⟨h, hb.grown (grownBy_sortedI _) hb.size (fun j hj => by cases hj; exact hbase)⟩
    rw [List.length_map] at SS
    have hml := HM.out
    rw [hml] at SS ⊢
    clear hO hb hl hgb r1 r2 r3 r4 hml
    go_wp2_with (go_at_call 67; refine SS.out.mono ?_; rintro e w' ⟨rfl, nn, os, rfl⟩)
    have F2 := Lib.hid (FIN.out nn os)
    clear FIN SS
    go_ret
    exact ⟨⟨_, rfl, F2.out.1⟩, F2.out.2⟩
end Go.Proofs.YtpdcpaoabalgcaaGreatDoor

namespace Go.Proofs.YtpdcpaoabalgcaaGreatDoor
open Go.RowKit Go.Shelf Go.Sort
set_option linter.unusedVariables false
theorem grow_nil (w : World) : grow w #[] = w := by simp [grow]
theorem compact_any (base n : Nat) (v : Value) (l V : List Nat) (w : World) (h : w.ownsRow base 3 1 v n ((sortI l).map (Value.int .i64))) (hb : base ≤ w.heap.size) (hn : l.length = n) (hV : Lib.compact (sortI l) = V.map fun i : Nat => (i : Int)) (hn4 : n ≤ 100000) :
    Calls Tryz.prog 36 #[v] w fun e w' => (∃ A c, e = .returned (.slice A V.length c) ∧ Ints w' A V) ∧ Below base w w' := by
  have hVl : (Lib.compact (sortI l)).length = V.length := by rw [hV]; simp
  have hsl : (sortI l).length = n := by rw [sortI_len, hn]
  have hle := Lib.compact_length_le (sortI l)
  obtain ⟨hl, ⟨rfl, h0⟩ | ⟨gb, cap, cur, rfl, hbase, hgb, r1, r2, r3, r4⟩⟩ := h
  · subst h0
    have hV0 : V = [] := List.eq_nil_of_length_eq_zero (by omega)
    subst hV0
    refine (Tryz.slices_Compact_int_empty none 0 w).mono ?_
    rintro e w' ⟨rfl, rfl⟩
    exact ⟨⟨none, 0, rfl, .inl rfl⟩, Below.refl _ _⟩
  · have HH : Holds (Value.int .i64) w gb 0 (sortI l).toArray := holds_of_blockI hgb (by rw [hsl, Nat.mul_one] at *; exact r4)
    have hC := Tryz.slices_Compact_int gb 0 cap (sortI l) w HH (by omega) (by omega)
    rw [hsl] at hC
    refine hC.mono ?_
    rintro e w' ⟨rfl, q, rfl⟩
    have hrow := ownsRow_sortedI (base := base) (n := q) (os := #[]) (ss := sortI l) (ts := Lib.compact (sortI l) ++ List.replicate (n - (Lib.compact (sortI l)).length) 0) (by simp; omega) hbase hgb (by omega) r2 r3
    rw [grow_nil] at hrow
    have hgr := grownBy_sortedI (w := w) (g := gb) (n := q) (os := #[]) (Lib.compact (sortI l) ++ List.replicate (n - (Lib.compact (sortI l)).length) 0).toArray
    rw [grow_nil] at hgr
    refine ⟨⟨some ⟨gb, 0, none⟩, cap, by rw [hVl], ?_⟩, (Below.refl _ _).grown hgr hb (fun j hj => by cases hj; exact hbase)⟩
    obtain ⟨_, ⟨h1, _⟩ | ⟨g2, cap2, cur2, h1, _, hh, _, _, _, ht⟩⟩ := hrow
    · cases h1
    · cases h1
      refine .inr ⟨gb, 0, rfl, (Array.getElem?_eq_some_iff.1 hh).1, fun i hi => ?_⟩
      rw [Nat.zero_add, cell_of_row _ gb i cur2 3 (0, 0) hh]
      have e : (cur2.toList.take ((sortI l).length * 1))[i]? = some (.int .i64 (nth V i : Int)) := by
        rw [ht, List.getElem?_map, List.getElem?_append_left (by omega), hV, List.getElem?_map, List.getElem?_eq_getElem hi]
        simp [nth, List.getD_eq_getElem?_getD, hi]
      rw [List.getElem?_take] at e
      have e2 : i < (sortI l).length ∧ cur2[i]? = some (Value.int .i64 (nth V i : Int)) := by simpa using e
      exact e2.2
/-- Where the variables of a list stand in a whole. -/
def plcL (V l : List Nat) : List Nat := l.map fun v => V.countP (· < v)
theorem plcL_len (V l : List Nat) : (plcL V l).length = l.length := by simp [plcL]
set_option maxRecDepth 100000 in
theorem places_any (A B : Option Addr) (n c m cb : Nat) (l V : List Nat) (w : World) (hn : l.length = n) (hm : V.length = m) (hl : Ints w A l) (hV : Ints w B V) (hr : V.Pairwise (· ≤ ·)) (hn4 : n ≤ 4096) (hm4 : m ≤ 4096) :
    Calls Tryz.prog 40 #[.slice A n c, .slice B m cb] w fun e w' => e = .returned (.slice (some ⟨w.heap.size, 0, none⟩) n n) ∧ Ints w' (some ⟨w.heap.size, 0, none⟩) (plcL V l) ∧ Below w.heap.size w w' := by
  have HLN := Lib.hid hn
  have HSM := Lib.hid hm
  have HL := Lib.hid hl
  have HV := Lib.hid hV
  have HR := Lib.hid hr
  have hmk := madeI n hn4
  have R1 := Lib.hid (World.rowIs_made w (.int .i64 0) n 3)
  have B1 := Lib.hid (new_val w (.cells (madeCells #[.int .i64 0] n) 3))
  clear hn hm hl hV hr
  go_enter Tryz.func40, Tryz.ntmps40
  go_upto_region 3 with fail
  generalize w.alloc (.cells (madeCells #[.int .i64 0] n) 3) = w1 at R1 B1 ⊢
  clear hmk
  go_loopw [13] (fun i wr => ∃ j : Nat, j ≤ n ∧ i = .int .i64 (j : Int) ∧ wr.rowIs w.heap.size 3 n (fun i => .int .i64 (if i < j then (nth (plcL V l) i : Int) else 0)) ∧ Below w.heap.size w wr) (fun i _ => n - (intOf i).toNat)
  case atStart => exact ⟨0, Nat.zero_le _, rfl, R1.out.congr fun i _ => by simp, B1.out⟩
  case round =>
    obtain ⟨j, hj, rfl, hrow, hb⟩ := hrel
    have HRW := Lib.hid hrow
    have HB := Lib.hid hb
    clear hrow hb
    by_cases hlt : j < n
    · obtain ⟨gs, os, rfl, hcs⟩ := (HL.out.below HB.out (Nat.le_refl _)).at_ (i := j) (by rw [HLN.out]; exact hlt)
      have hpk : nth (plcL V l) j = V.countP (· < nth l j) := nth_map (by rw [HLN.out]; exact hlt)
      have HPK := Lib.hid hpk
      clear hpk
      generalize nth l j = v at hcs HPK
      have BS := Lib.hid (bsearch_any B m cb v V wr HSM.out HR.out (HV.out.below HB.out (Nat.le_refl _)) (by omega))
      have i1 : (j : Int) < (n : Int) := by omega
      have i2 : (0 : Int) ≤ (j : Int) := by omega
      have hwr := HB.out.size
      have HLT := Lib.hid HRW.out.lt
      go_wp2_with fail
      refine BS.out.mono ?_
      rintro e w2 ⟨rfl, hb2⟩
      have B2 := Lib.hid (HB.out.trans (hb2.mono hwr))
      have RW2 := Lib.hid (rowIs_next HRW.out hb2)
      clear hb2 hcs hwr
      have kc := RW2.out.cell hlt
      have kf := RW2.out.frozen j
      obtain ⟨x, hx⟩ : ∃ x, V.countP (· < v) = x := ⟨_, rfl⟩
      have HX := Lib.hid hx
      rw [hx]
      clear hx
      generalize V.contains v = bb
      have HN : Hid ((w2.setCell ⟨w.heap.size, j, none⟩ (.int .i64 (x : Int))).rowIs w.heap.size 3 n (fun i => .int .i64 (if i < j + 1 then (nth (plcL V l) i : Int) else 0))) := Lib.hid ((RW2.out.set j (.int .i64 (x : Int))).congr fun i hi => by
        show (if i = j then _ else _) = _
        by_cases e : i = j
        · subst e; rw [if_pos rfl, if_pos (by omega), HPK.out, HX.out]
        · rw [if_neg e]
          by_cases e2 : i < j
          · rw [if_pos e2, if_pos (by omega)]
          · rw [if_neg e2, if_neg (by omega)])
      have BN := Lib.hid (B2.out.setCell (p := ⟨w.heap.size, j, none⟩) (Nat.le_refl _) (.int .i64 (x : Int)))
      go_wp2_with fail
      go_roundw
      case rel => exact ⟨j + 1, by omega, by go_num, HN.out, BN.out⟩
      case measure => simp [intOf]; omega
    · have i1 : ¬ (j : Int) < (n : Int) := by omega
      go_wp2_with fail
      go_ret
      obtain rfl : j = n := by omega
      exact ⟨rfl, rowIs_ints HRW.out (by rw [plcL_len, HLN.out]) (fun i hi => by rw [if_pos hi]), HB.out⟩
end Go.Proofs.YtpdcpaoabalgcaaGreatDoor
