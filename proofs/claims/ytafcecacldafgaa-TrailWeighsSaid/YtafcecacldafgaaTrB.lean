/- Append of zeros to an own slice of cells, and the contracts of trail's cell and put (no statement of its own). -/
import Derived.Test.YtafcecacldafgaaTrA
import Derived.Deep.RegionLaw
import Derived.Deep.AppendLies
namespace Go.Proofs.Ytafcecacldafgaa
open Go.RowKit
open Go.Maps (Keyed)
set_option linter.unusedVariables false
theorem info_cell : (Try.prog.info? 66).map (fun i => (i.zero, i.size, i.bytes)) = some (some (.agg #[.int .i64 0, .int .i64 0]), 2, 16) := by kernel_rfl
theorem zeros_list (n : Nat) : (Builtin.zeroCells (Value.agg #[.int .i64 0, .int .i64 0]).cells n).toList = List.replicate (n * 2) (.int .i64 0) := by
  refine List.ext_getElem? fun i => ?_
  simp only [Builtin.zeroCells, Value.cells, Array.toList_map, Array.toList_range, List.getElem?_map, List.size_toArray, List.length_cons, List.length_nil, Nat.reduceAdd, List.getElem?_replicate]
  by_cases h : i < n * 2
  · rw [List.getElem?_range h, if_pos h]
    have : i % 2 = 0 ∨ i % 2 = 1 := by omega
    rcases this with e | e <;> simp [e]
  · rw [if_neg h, List.getElem?_eq_none (by simp; omega)]
    rfl
theorem flat2_zeros : ∀ n : Nat, flat2 (List.replicate n (0, 0)) = List.replicate (n * 2) (.int .i64 0)
  | 0 => rfl
  | n + 1 => by
    rw [List.replicate_succ, flat2_cons, flat2_zeros n, show (n + 1) * 2 = n * 2 + 1 + 1 by omega, List.replicate_succ, List.replicate_succ]
theorem append_zeros (w : World) (ty : TypeId) (k : Nat) (v : Value) (l : List Cl) (h0 : 0 < k) (hl : l.length + k ≤ 10000000) (hw : Row2 w v l) :
    ∃ v' w', (Builtin.append_ #[55, 3] ty #[v, .int .i64 (k : Int)]).run Try.prog w = .ok v' w' ∧ Row2 w' v' (l ++ List.replicate k (0, 0)) ∧ w.grownBy w' v.ownBlock ∧ (v'.ownBlock = v.ownBlock ∨ v'.ownBlock = some w.heap.size) := by
  obtain ⟨i, hi, hz0, hz1, hz2⟩ := info_parts info_cell
  have hlen : (l ++ List.replicate k ((0 : Int), (0 : Int))).length = l.length + k := by simp
  have hsz : ∀ m, (Builtin.zeroCells (Value.agg #[.int .i64 0, .int .i64 0]).cells m).size = m * 2 := fun m => by rw [size_zeroCells]; rfl
  -- what a new row holds
  have grown : ∀ (old : Nat), ∀ row, Row2 (w.drew.alloc (.cells ((flat2 l).toArray ++ Builtin.zeroCells (Value.agg #[.int .i64 0, .int .i64 0]).cells k ++ Builtin.zeroCells (Value.agg #[.int .i64 0, .int .i64 0]).cells (grownCap w (l.length + k) old 66 - (l.length + k))) 66))
        (.slice (some ⟨w.heap.size, 0, none⟩) (l.length + k) (grownCap w (l.length + k) old 66)) (l ++ List.replicate k (0, 0)) ∧
      w.grownBy (w.drew.alloc (.cells ((flat2 l).toArray ++ Builtin.zeroCells (Value.agg #[.int .i64 0, .int .i64 0]).cells k ++ Builtin.zeroCells (Value.agg #[.int .i64 0, .int .i64 0]).cells (grownCap w (l.length + k) old 66 - (l.length + k))) 66)) row := by
    intro old row
    have hge := grownCap_ge w (l.length + k) old 66
    have hcm : grownCap w (l.length + k) old 66 ≤ maxLen := grownCap_le_maxLen w (l.length + k) old 66 (by unfold maxLen; omega)
    refine ⟨?_, ⟨rfl, rfl, rfl, by simp, fun j hj _ => heap_alloc_old w.drew _ hj⟩⟩
    unfold Row2
    rw [hlen]
    refine ⟨by rw [flat2_len, hlen], .inr ⟨w.heap.size, _, _, rfl, Nat.zero_le _, heap_alloc_new w.drew _, hge, hcm, ?_, ?_⟩⟩
    · rw [Array.size_append, Array.size_append, hsz, hsz, List.size_toArray, flat2_len]
      omega
    · rw [Array.toList_append, Array.toList_append, List.toList_toArray, zeros_list, zeros_list, flat2_append, flat2_zeros]
      exact List.take_left' (by rw [List.length_append, flat2_len, List.length_replicate]; omega)
  rcases hw.2 with ⟨rfl, hn⟩ | ⟨g, cap, cur, rfl, hbg, hg, hnc, hcm, hcs, htake⟩
  · have hx : l = [] := List.eq_nil_of_length_eq_zero hn
    subst hx
    have hr := Lib.run_append_nil_zeros (P := Try.prog) w 55 3 ty 66 i _ .i64 .i64 Try.underlying55 Try.underlying3 hi hz0 k h0 (by rw [hz1]; decide) (by simp at hl; omega) (by rw [hz2]; simp at hl; omega)
    have hgr := grown 0 (Value.ownBlock (.slice none 0 0))
    simp only [List.length_nil, Nat.zero_add, flat2, List.flatMap_nil, Array.empty_append, List.nil_append] at hgr ⊢
    exact ⟨_, _, hr, hgr.1, hgr.2, Or.inr rfl⟩
  · by_cases hroom : l.length + k ≤ cap
    · have hfit : l.length * 2 + 0 + (List.replicate (k * 2) (Value.int .i64 0)).length ≤ cur.size := by rw [List.length_replicate, hcs]; omega
      have hst := run_storeCells_at Try.prog g (l.length * 2) 66 (List.replicate (k * 2) (.int .i64 0)) 0 cur w hg hfit (fun u hu => by rw [List.eq_of_mem_replicate hu]; rfl)
      have hwr : IntKind.i64.wrap (k : Int) = k := by rw [IntKind.wrap_i64]; omega
      have hneg : ¬ ((k : Int) < 0) := by omega
      have h48i : ¬ (281474976710656 < (k : Int) * (16 : Int)) := by omega
      have hns : ¬ (k * 2 = 0) := by omega
      refine ⟨.slice (some ⟨g, 0, none⟩) (l.length + k) cap, w.setRow g (cur.toList.take (l.length * 2 + 0) ++ List.replicate (k * 2) (Value.int .i64 0) ++ cur.toList.drop (l.length * 2 + 0 + (List.replicate (k * 2) (Value.int .i64 0)).length)).toArray, (by
        simp only [Nat.add_zero] at hst
        simp [Builtin.append_, run_underlying Try.underlying55, run_underlying Try.underlying3, sizeOf, typeInfo, zeroValue, hi, hz0, hz1, hz2, asInt, asIntOf, hwr, hneg, h48i, hns, hroom, Addr.add_lit, zeros_list, hst]), ?_⟩
      refine ⟨?_, ⟨rfl, rfl, rfl, by simp, fun j _ hj => setRow_other w g j _ (fun e => hj (by simp [Value.ownBlock, e]))⟩, Or.inl rfl⟩
      unfold Row2
      rw [hlen]
      refine ⟨by rw [flat2_len, hlen], .inr ⟨g, cap, _, rfl, hbg, setRow_heap w g cur _ 66 _ hg, hroom, hcm, ?_, ?_⟩⟩
      · have hcs' : cur.toList.length = cap * 2 := by simpa using hcs
        simp only [List.size_toArray, List.length_append, List.length_take, List.length_drop, List.length_replicate, hcs']
        omega
      · simp only [Nat.add_zero]
        rw [htake, flat2_append, flat2_zeros]
        exact List.take_left' (by rw [List.length_append, flat2_len, List.length_replicate]; omega)
    · have hold : (Builtin.firstCells i.size l.length (.slice (some ⟨g, 0, none⟩) l.length cap)).run Try.prog w.drew = .ok (flat2 l).toArray w.drew :=
        run_firstCells_some (P := Try.prog) w.drew i.size l.length ⟨g, 0, none⟩ l.length cap (flat2 l) (by rw [hz1, flat2_len]) (fun j u hu => World.ownsRow.cells hw rfl j u hu)
      have hr := Lib.run_append_grow_zeros (P := Try.prog) w 55 3 ty 66 i _ .i64 .i64 Try.underlying55 Try.underlying3 hi hz0 (some ⟨g, 0, none⟩) l.length cap (flat2 l) hold k h0 (by rw [hz1]; decide) (by omega) (by omega) (by rw [hz2]; omega)
        (growslice_fits (by omega) (by rw [hz2]; omega))
      have hgr := grown cap (Value.ownBlock (.slice (some ⟨g, 0, none⟩) l.length cap))
      exact ⟨_, _, hr, hgr.1, hgr.2, Or.inr rfl⟩
/-- append of so many zeros, as a step of a region that draws. -/
theorem step_append_run {P : Program} {w : World} {ops : Array Oper} {o : Oper} {a : Act} {K : Act → World → Prop} {Q : Exit → Act → World → Prop} {E : Prop} (hgd : o.guard = none) (s x : Operand) (t tn : TypeId)
    (ho : o.op = .call { callee := .builtin .append, args := #[s, x], argTypes := #[t, tn] }) (vs vx : Value) (hs : a.eval s = vs) (hx : a.eval x = vx)
    (v' : Value) (w' : World) (hr : (Builtin.append_ #[t, tn] o.type #[vs, vx]).run P w = .ok v' w') (h : K (a.put o.dst v') w') :
    if Region.wanted o (yielded ops a.tmps) = true then Oper.wp P o a w K Q else E := by
  have hw : Region.wanted o (yielded ops a.tmps) = true := by simp [Region.wanted, hgd]
  rw [if_pos hw]
  exact Lib.wp_append_run w s x t tn ho vs vx hs hx v' w' hr h
end Go.Proofs.Ytafcecacldafgaa
