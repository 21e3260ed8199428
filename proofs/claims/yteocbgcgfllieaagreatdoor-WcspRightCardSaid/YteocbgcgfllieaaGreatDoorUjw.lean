/- Contract of the collected keys (no statement of its own). No condition. -/
import Derived.Test.YteocbgcgfllieaaGreatDoorUiw
namespace Go.Proofs.YteocbgcgfllieaaGreatDoor
open Go.RowKit Go.Shelf Go.Maps Go.Sort
set_option linter.unusedVariables false
attribute [local go_sem] Oper.semAt_some
theorem box_below {W W' : World} {b : Nat} {t : TypeId} {v : Value} (h : Boxed W b t v) (hb : Below W.heap.size W W') : Boxed W' b t v := (hb.block b h.lt).trans h
theorem info_key : (Tryz.prog.info? 103).map (fun i => (i.zero, i.size, i.bytes)) = some (some (.agg kyZ), 6, 48) := by kernel_rfl
/-- The cells of keys, one behind the other. -/
def cellsK (ts : List (List Nat)) : List Value := ts.flatMap encK
theorem cellsK_cons (t : List Nat) (ts : List (List Nat)) : cellsK (t :: ts) = encK t ++ cellsK ts := rfl
theorem cellsK_snoc (ts : List (List Nat)) (t : List Nat) : cellsK (ts ++ [t]) = cellsK ts ++ encK t := by simp [cellsK]
theorem cellsK_len : ∀ ts : List (List Nat), (cellsK ts).length = ts.length * 6
  | [] => rfl
  | t :: ts => by rw [cellsK_cons, List.length_append, cellsK_len ts]; simp [encK]; omega
abbrev valsT {l : List Nat} (ts : List (TT l)) : List (List Nat) := ts.map Subtype.val
/-- Where a key lies in a block of its own, in a round. -/
def AxK {l : List Nat} (B0 Bs b : Nat) (sv : Value) (x : TT l) (a' : Act) (W : World) : Prop :=
  ∃ B5, B0 ≤ B5 ∧ a' = { tmps := #[.slice none 0 0, sv, .pointer (some ⟨Bs, 0, none⟩), undef, .slice none 0 0, .pointer (some ⟨B5, 0, none⟩), sv, keyV x.val, undef, undef, undef, undef, undef], defers := [] } ∧ W.heap[B5]? = some (.cells (kyC x.val) 103 (0, 0))
theorem cell_six_new (W : World) (t : List Nat) (ty : TypeId) : ∀ j u, (encK t)[j]? = some u → (W.alloc (.cells (kyC t) ty)).cell? ((⟨W.heap.size, 0, none⟩ : Addr).add j) = some u := by
  intro j u hu
  have hj : j < 6 := (List.getElem?_eq_some_iff.1 hu).1
  have hr := heap_alloc_new W (.cells (kyC t) ty)
  rw [show ((⟨W.heap.size, 0, none⟩ : Addr).add j) = ⟨W.heap.size, j, none⟩ by (simp [Addr.add]; omega)]
  rw [cell_of_row _ _ _ _ _ _ hr]
  rcases (by omega : j = 0 ∨ j = 1 ∨ j = 2 ∨ j = 3 ∨ j = 4 ∨ j = 5) with rfl | rfl | rfl | rfl | rfl | rfl <;> exact hu
theorem encK_one (t : List Nat) : ∀ v ∈ encK t, v.oneCell' = true := by
  intro v hv
  simp [encK] at hv
  rcases hv with rfl | rfl | rfl | rfl | rfl | rfl <;> rfl
theorem walks_of_others {W W' : World} (h : KeepsOthers W W') : KeepsWalks W W' :=
  ⟨h.size, fun k o hk ho => h.same k o hk (by cases o <;> first | rfl | (simp [Obj.isWalk] at ho))⟩
theorem axK_own {l : List Nat} (B B0 Bs b : Nat) (sv : Value) (x : TT l) (a' : Act) : OwnFrom B (fun (_ : Unit) W => AxK B0 Bs b sv x a' W) := by
  rintro s W W' row ⟨B5, h1, h2, h3⟩ hg hr
  refine ⟨B5, h1, h2, (hg.block B5 (Array.getElem?_eq_some_iff.1 h3).1 fun e => ?_).trans h3⟩
  obtain ⟨o, ho, hc⟩ := (hr B5 e.symm).2
  rw [h3] at ho
  cases ho
  cases hc
set_option maxRecDepth 100000 in
set_option maxHeartbeats 4000000 in
theorem appendK_in (n : Nat) (hn : 3 ≤ n) (Bm b nn : Nat) (l : List Nat) (o : Int) (f : List Nat → Int) (D0 : DataW Unit) (hrep : RepF D0 l o f) (h6 : l.length ≤ 6) (h32 : ∀ n ∈ l, n ≤ 32) (w : World) (hBm : Bm < w.heap.size)
    (hm : w.cell? ⟨Bm, 0, none⟩ = some (.map (some b))) (hown : w.ownsMap Tryz.prog 103 (plainElem Tryz.prog 2) b nn D0) (hsz : Maps.size D0 ≤ 1000000) :
    CallsIn Fence.wide n Tryz.prog 116 #[.slice none 0 0, .func (.func 102) #[] #[.pointer (some ⟨Bm, 0, none⟩)]] w fun e W' => ∃ v, e = .returned v ∧ (∃ ts : List (TT l), Coll D0 l (fun _ => false) ts ∧ W'.ownsRow w.heap.size 103 6 v ts.length (cellsK (valsT ts))) ∧ Below w.heap.size w W' := by
  have h1 : 1 ≤ n := by omega
  obtain ⟨i0, hi, hz0, hz1, hz2⟩ := info_parts info_key
  refine callsIn_of_wp_marks Tryz.func116 rfl trivial ?_ rfl
  simp only [Tryz.ntmps116, List.size_toArray, List.length_cons, List.length_nil, Nat.reduceAdd, Nat.reduceSub, Array.replicate_succ, Array.replicate_zero, List.push_toArray, List.append_toArray, List.nil_append, List.cons_append]
  gi_wp2_with fail
  have bO := Boxed.new w 157 (.slice none 0 0)
  have hB0 : Below w.heap.size w (w.alloc (.cells #[.slice none 0 0] 157)) := (Below.refl _ w).alloc (Nat.le_refl _) _
  refine wpIn_rangeFunc_ownH rfl h1 (gf := 102) (lb := #[.pointer (some ⟨Bm, 0, none⟩)]) rfl trivial (enters_of Tryz.func102 (by kernel_rfl) rfl)
    (keys_stops (n - 1) (by omega) Bm b nn l o f D0 hrep h6 h32 _ (by simp; omega) ((hB0.cell (p := ⟨Bm, 0, none⟩) hBm).trans hm) (hown.alloc _)) walksK_t walksK_b (Below.refl _ _) (fun _ => rfl)
    (fun pre W => (∃ v, Boxed W w.heap.size 157 v ∧ W.ownsRow w.heap.size 103 6 v pre.length (cellsK (valsT pre)) ∧ True) ∧ Below w.heap.size w W)
    (fun _ _ _ => False)
    (OwnFrom.and (_root_.Go.Own.from (holdsRow_own w.heap.size w.heap.size 157 103 6 (fun pre : List (TT l) => pre.length) (fun pre => cellsK (valsT pre)) (fun _ _ => True)) _) (ownFrom_below (Nat.le_refl _) (by simp)))
    (fun _ _ _ _ _ hs _ _ => hs)
    ⟨⟨_, bO, World.ownsRow_nil _ _ _ _, trivial⟩, hB0⟩
    (AxK (w.heap.size + 1) w.heap.size b (.func (.func 102) #[] #[.pointer (some ⟨Bm, 0, none⟩)]))
    ?ax ?assign ?body ?done ?stop
  case ax => exact fun x a' => axK_own _ _ _ _ _ x a'
  case assign =>
    rintro y pre x W K ⟨⟨v, hv, hrow, _⟩, hBW⟩ hK
    have hlt := World.block_lt_of_cell? W _ hv.cell
    gi_wp2_with (first
      | ((with_reducible show wpListIn _ _ _ _ _ (Oper.mk none (.store 103 _ _) _ _ _ _ :: _) _ _); refine wpListIn_store_rowK rfl 103 (.tmp 5) (.tmp 7) rfl W.heap.size (kyC x.val) rfl rfl 103 kyZ (heap_alloc_new _ _) (by kernel_rfl) rfl (ky_one x.val) ?_; rw [World.setRow_alloc_new])
      | gi_in)
    exact hK _ _ (KeepsFrom.of_grownBy (World.grownBy_alloc W _ none) (fun j e => by cases e)) (KeepsWalks.alloc W _) ⟨⟨v, box_below hv (new_val W _), hrow.alloc _, trivial⟩, then_ hBW (new_val W _)⟩ ⟨W.heap.size, hlt, rfl, heap_alloc_new _ _⟩
  case body =>
    rintro y pre x a' W hl hloop ⟨⟨v, hv, hrow, _⟩, hBW⟩ ⟨B5, h5, rfl, hr5⟩ hlt
    obtain ⟨y0, y1, y2, y3, y4, y5⟩ := ky_cells hr5
    have hc := hv.cell
    gi_wp2_with (gi_at_builtin; refine wpListIn_append_own _ rfl _ _ 157 rfl w.heap.size 103 i0 (.agg kyZ) 6 48 Tryz.underlying157 hi hz0 hz1 hz2 rfl (by decide) _ _ _ rfl (hrow.alloc _) ⟨W.heap.size, 0, none⟩ 1 1 (encK x.val) rfl rfl (cell_six_new _ _ _) (encK_one _) (by unfold maxLen; omega) (by omega) (by have := hBW.size; simp; omega) ?_; intro v' w1 hown' hgrow _; obtain ⟨g', cap', rfl⟩ := ownsRow_succ hown'; obtain ⟨hv1, hv2, hr2, hk2, hb2⟩ := hv.appended (by decide) hrow hBW.size (Nat.le_refl _) hown' hgrow; have hc1 := hv1.cell; have hf1 := hv1.frozen)
    exact ⟨hk2.from _, walks_of_others hk2, ⟨_, hv2, by simpa [valsT, cellsK_snoc] using hr2, trivial⟩, hBW.trans hb2⟩
  case done =>
    rintro D ts W hD hS ⟨⟨v, hv, hrow, _⟩, hBW⟩ hK
    have hc := hv.cell
    gi_wp2
    refine ⟨by simp, .inl ⟨_, _, rfl, run_takeDeferred hK, ?_⟩⟩
    exact ⟨_, results_tmp rfl _ _ _, v, rfl, ⟨ts, hS, ownsRow_putObj hrow _ hK rfl⟩, hBW.trans (belowK_b (w := w) (Nat.le_refl _) W D _ _ (by simp at hD; omega) hK rfl rfl)⟩
  case stop =>
    rintro D c pre W _ _ h _
    exact h.elim
end Go.Proofs.YteocbgcgfllieaaGreatDoor
