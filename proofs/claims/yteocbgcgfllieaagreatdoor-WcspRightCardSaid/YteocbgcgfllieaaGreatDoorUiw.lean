/- Contract of the iterator over a map's keys (no statement of its own). No condition. -/
import Derived.Test.YteocbgcgfllieaaGreatDoorUhw
import Derived.Test.YteocbgcgfllieaaGreatDoorShelhM
import Derived.Test.YteocbgcgfllieaaGreatDoorMgAd
import Derived.RangeFuncStops
import Derived.RangeFuncKeeps
import Derived.RangeFuncNested
import Derived.Sort.MapsRangeIn
import Derived.OwnWalkIn
import Derived.TacticsInMore
import Derived.RegionIn
import Derived.LoopNIn
import Derived.LoopIn
namespace Go.Proofs.YteocbgcgfllieaaGreatDoor
open Go.RowKit Go.Shelf Go.Maps Go.Sort
set_option linter.unusedVariables false
theorem wpListIn_store_rowK {F : Fence} {n : Nat} {P : Program} {ops : Array Oper} {rest : List Oper} {o : Oper} {a : Act} {w : World} {Q : Exit → Act → World → Prop} (hgd : o.guard = none) (ty : TypeId) (x y : Operand) (ho : o.op = .store ty x y)
    (g : Nat) (cells : Array Value) (hx : a.eval x = .pointer (some ⟨g, 0, none⟩)) (hy : a.eval y = .agg cells)
    (t : TypeId) (old : Array Value) (hg : w.heap[g]? = some (.cells old t (0, 0))) (hi : (P.info? ty).map (·.size) = some cells.size)
    (hold : old.size = cells.size) (h1 : cells.all (·.oneCell') = true)
    (h : wpListIn F n P ops Q rest (a.put o.dst undef) (w.setRow g cells)) : wpListIn F n P ops Q (o :: rest) a w := by
  refine wpListIn_plain hgd fun K' hK' => ?_
  unfold Oper.wpIn
  refine ⟨by simp [Oper.about, ho], ?_⟩
  rw [Oper.semAt_plain F _ _ (by rw [ho]; intro c hc'; cases hc')]
  unfold execOp
  simp only [ho, hx, hy, Instr.storeAt, Instr.sureAddr, Sem.run_bind, Sem.run_pure, Result.andThen_ok, run_storeVar_row w g t ty old cells hg hi hold h1]
  exact hK' _ _ h
/-- The tuples that have come: just those of the map that are not left. -/
structure Coll (D : DataW Unit) (l : List Nat) (left : Lit → Bool) (ts : List { t : List Nat // InL l t }) : Prop where
  nd : (ts.map Subtype.val).Nodup
  mem : ∀ t, t ∈ ts.map Subtype.val ↔ InL l t ∧ Maps.has D (keyL t) = true ∧ left (keyL t) = false
theorem Coll.start (D : DataW Unit) (l : List Nat) : Coll D l (Maps.has D) [] :=
  ⟨List.nodup_nil, fun t => ⟨fun h => by simp at h, fun ⟨_, h1, h2⟩ => by rw [h1] at h2; cases h2⟩⟩
theorem Coll.step {D : DataW Unit} {l : List Nat} {left : Lit → Bool} {ts : List { t : List Nat // InL l t }} (H : Coll D l left ts) (h6 : l.length ≤ 6) (h32 : ∀ n ∈ l, n ≤ 32) (x : { t : List Nat // InL l t }) (hl : left (keyL x.val) = true) (hh : Maps.has D (keyL x.val) = true) :
    Coll D l (fun z => left z && !z.sameKey (keyL x.val)) (ts ++ [x]) := by
  refine ⟨?_, fun t => ?_⟩
  · rw [List.map_append]
    refine List.nodup_append.2 ⟨H.nd, by simp, fun a ha b hb => ?_⟩
    simp at hb
    subst hb
    rintro rfl
    have := ((H.mem _).1 ha).2.2
    rw [hl] at this
    cases this
  · rw [List.map_append, List.mem_append, H.mem]
    simp only [List.map_cons, List.map_nil, List.mem_singleton]
    constructor
    · rintro (⟨h1, h2, h3⟩ | rfl)
      · exact ⟨h1, h2, by rw [h3]; rfl⟩
      · exact ⟨x.property, hh, by rw [hl, WideAt.sameKey_self (keyL_isKey _)]; rfl⟩
    · rintro ⟨h1, h2, h3⟩
      by_cases e : left (keyL t) = false
      · exact .inl ⟨h1, h2, e⟩
      · right
        have e' : left (keyL t) = true := by cases h : left (keyL t); exact absurd h e; rfl
        rw [e'] at h3
        have h4 : (keyL t).sameKey (keyL x.val) = true := by simpa using h3
        exact keyL_inj h6 h32 h1 x.property (WideAt.sameKey_eq h4)
abbrev TT (l : List Nat) := { t : List Nat // InL l t }
set_option maxRecDepth 100000 in
set_option maxHeartbeats 2000000 in
theorem keys1_in (n : Nat) (hn : 1 ≤ n) (y Bm b nn : Nat) (l : List Nat) (o : Int) (f : List Nat → Int) (D0 : DataW Unit) (hrep : RepF D0 l o f) (h6 : l.length ≤ 6) (h32 : ∀ n ∈ l, n ≤ 32) (J Jx : List (TT l) → World → Prop)
    (hY : ∀ pre (x : TT l) W, J pre W → pre.length < Maps.size D0 → YieldAt Fence.wide (n - 1) Tryz.prog y #[keyV x.val] W fun e W' =>
      (e = .returned (.bool true) ∧ J (pre ++ [x]) W' ∧ KeepsWalks W W') ∨ (e = .returned (.bool false) ∧ Jx (pre ++ [x]) W'))
    (W : World) (hJ : AbidesFrom W.heap.size J) (hm : W.cell? ⟨Bm, 0, none⟩ = some (.map (some b))) (hown : W.ownsMap Tryz.prog 103 (plainElem Tryz.prog 2) b nn D0) (h0 : J [] W) :
    CallsIn Fence.wide n Tryz.prog 102 #[.func (.yield y) #[] #[], .pointer (some ⟨Bm, 0, none⟩)] W fun e W' => (∃ v, e = .returned v) ∧
      ((∃ ts : List (TT l), Coll D0 l (fun _ => false) ts ∧ J ts W') ∨ (∃ pre, True ∧ Jx pre W')) := by
  refine callsIn_of_wp Tryz.func102 rfl trivial ?_ rfl
  simp only [Tryz.ntmps102, List.size_toArray, List.length_cons, List.length_nil, Nat.reduceAdd, Nat.reduceSub, Array.replicate_succ, Array.replicate_zero, List.push_toArray, List.append_toArray, List.nil_append, List.cons_append]
  gi_wp2_with (first
    | (gi_at_range; refine wpListIn_range_own _ rfl _ 99 rfl 103 2 keyed Tryz.underlying99 _ b nn _ rfl hown ?_; intro w0 hrg0 hg0 hs0)
    | gi_in)
  go_frame
  gi_loopw [3] (fun _ wr => ∃ (left : Lit → Bool) (cnt : Nat) (ts : List (TT l)), wr.ranges Tryz.prog 103 (plainElem Tryz.prog 2) b W.heap.size nn D0 left cnt ∧ ts.length + cnt ≤ Maps.size D0 ∧ Coll D0 l left ts ∧ J ts wr)
    (fun _ wr => wr.rangeLeft b W.heap.size)
  case atStart =>
    exact ⟨_, _, [], hrg0, by simp, Coll.start D0 l, hJ [] W w0 none h0 hg0 (fun r e => by cases e)⟩
  case round =>
    obtain ⟨left, cnt, ts, hrg, hcs, hC, hJs⟩ := hrel
    gi_wp2_with (first
      | (gi_at_next; refine wpListIn_next_ranges _ rfl _ rfl 103 keyed (plainElem Tryz.prog 2) id id (fun key kl hk => ⟨key, rfl⟩) (fun v _ _ => ⟨v, rfl⟩) b W.heap.size nn _ _ _ rfl hrg ?_ ?_)
      | gi_in)
    · intro hc0 hl0
      gi_wp2
      go_end0
      refine ⟨⟨_, rfl⟩, .inl ⟨ts, ⟨hC.nd, fun t => ?_⟩, hJs⟩⟩
      rw [hC.mem t, hl0]
    · intro x c kl yd yp w2 cnt2 hkey hlk hv hat hrg2 hlt hg2 hs2 hen
      have hhas : Maps.has D0 kl = true := has_true_of_atKey hat
      obtain ⟨t, ht, rfl⟩ := hrep.2 kl hhas
      obtain rfl : x = keyV t := keyed.inj hkey (keyOf_key (ht.small h32))
      have hJ2 : J ts w2 := hJ ts wr w2 (some W.heap.size) hJs hg2 (fun r e => by cases e; exact ⟨Nat.le_refl _, hrg.iter_walk⟩)
      have hC2 := hC.step h6 h32 ⟨t, ht⟩ hlk hhas
      have hJ3 : J ts (w2.alloc (.cells (kyC t) 103)) := hJ ts w2 _ none hJ2 (World.grownBy_alloc _ _ _) (fun r e => by cases e)
      have hrg3 := hrg2.alloc (.cells (kyC t) 103)
      obtain ⟨fn, tmps, assign, body, hy, hR⟩ := hY ts ⟨t, ht⟩ _ hJ3 (by omega)
      clear hs2
      have hrow := heap_alloc_new w2 (.cells (kyC t) 103)
      obtain ⟨y0, y1, y2, y3, y4, y5⟩ := ky_cells hrow
      gi_wp2_with (first
        | ((with_reducible show wpListIn _ _ _ _ _ (Oper.mk none (.store 103 _ _) _ _ _ _ :: _) _ _); refine wpListIn_store_rowK rfl 103 (.tmp 3) (.tmp 9) rfl w2.heap.size (kyC t) rfl rfl 103 kyZ (heap_alloc_new _ _) (by kernel_rfl) rfl (ky_one t) ?_; rw [World.setRow_alloc_new])
        | gi_in)
      refine hR.mono ?_
      rintro e W3 (⟨rfl, hJ4, hk3⟩ | ⟨rfl, hJx3⟩)
      · gi_wp2
        have hrg4 := hrg3.of_walks hk3
        go_roundw
        case rel => exact ⟨_, cnt2, ts ++ [⟨t, ht⟩], hrg4, by simp; omega, hC2, hJ4⟩
        case measure => rw [hrg4.left_eq, hrg.left_eq]; exact hlt
      · gi_wp2
        refine bodyPost_ret (results_none rfl _ _ _) rfl ?_
        exact ⟨⟨_, rfl⟩, .inr ⟨ts ++ [⟨t, ht⟩], trivial, hJx3⟩⟩
theorem keys_stops (n : Nat) (hn : 1 ≤ n) (Bm b nn : Nat) (l : List Nat) (o : Int) (f : List Nat → Int) (D0 : DataW Unit) (hrep : RepF D0 l o f) (h6 : l.length ≤ 6) (h32 : ∀ n ∈ l, n ≤ 32) (w : World) (hBm : Bm < w.heap.size)
    (hm : w.cell? ⟨Bm, 0, none⟩ = some (.map (some b))) (hown : w.ownsMap Tryz.prog 103 (plainElem Tryz.prog 2) b nn D0) :
    SeqStopsK Fence.wide n Tryz.prog 102 #[.pointer (some ⟨Bm, 0, none⟩)] (fun x : TT l => #[keyV x.val]) KeepsWalks (fun ts => Coll D0 l (fun _ => false) ts) (fun _ => True) (Maps.size D0) w := fun y J Jx W hW hJ _ hY h0 => by
  have hown' : W.ownsMap Tryz.prog 103 (plainElem Tryz.prog 2) b nn D0 := hown.kept (grown_of_below hW) (by simp)
  exact keys1_in n hn y Bm b nn l o f D0 hrep h6 h32 J Jx hY W hJ ((hW.cell (p := ⟨Bm, 0, none⟩) hBm).trans hm) hown' h0
theorem keys_any (b : Nat) (w : World) : Calls Tryz.prog 92 #[.map (some b)] w fun e w' => e = .returned (.func (.func 102) #[] #[.pointer (some ⟨w.heap.size, 0, none⟩)]) ∧ w' = w.alloc (.cells #[.map (some b)] 99) := by
  go_enter Tryz.func92, Tryz.ntmps92
  go_wp2_with fail
  go_ret
  exact ⟨rfl, rfl⟩
end Go.Proofs.YteocbgcgfllieaaGreatDoor
