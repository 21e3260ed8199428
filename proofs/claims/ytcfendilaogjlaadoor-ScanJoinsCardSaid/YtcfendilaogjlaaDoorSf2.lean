/- The appends of ScanJoins (no statement of its own). -/
import Derived.Test.YtcfendilaogjlaaDoorSf1
namespace Go.Proofs.YtcfendilaogjlaaDoor
open Go.RowKit
set_option linter.unusedVariables false
/-- append of a word. -/
theorem push_w {ops : Array Oper} {rest : List Oper} {o : Oper} {a : Act} {Q : Exit → Act → World → Prop} (hgd : o.guard = none) (sl x : Operand)
    (ho : o.op = .call { callee := .builtin .append, args := #[sl, x], argTypes := #[27, 27] })
    (W : World) (base : Nat) (v : Value) (s E : ByteArray) (ws : List (Nat × Nat)) (hs : a.eval sl = v) (hx : a.eval x = .slice (some ⟨W.heap.size, 0, none⟩) 1 1)
    (hown : OwnW W base v s ws) (hin : ∀ y ∈ ws, y.2 ≤ s.size) (hbase : base ≤ W.heap.size) (hl : ws.length ≤ 1000000)
    (h : ∀ v' w', OwnW w' base v' (s ++ E) (ws ++ [(s.size, s.size + E.size)]) → W.grownBy w' v.ownBlock → wpList Tryd.prog ops Q rest (a.put o.dst v') w') :
    wpList Tryd.prog ops Q (o :: rest) a (W.alloc (.cells #[.string E, .int .i64 (s.size : Int)] 31)) := by
  obtain ⟨i0, hi, hz0, hz1, hz2⟩ := info_parts info_word
  have hown' := hown.below (new_val W (.cells #[.string E, .int .i64 (s.size : Int)] 31)) (Nat.le_refl _)
  have hc := heap_alloc_new W (.cells #[.string E, .int .i64 (s.size : Int)] 31)
  refine wpList_append_own _ hgd sl x 27 ho base 31 i0 (.agg #[.string ⟨#[]⟩, .int .i64 0]) 2 24 Tryd.underlying27 hi hz0 hz1 hz2 rfl (by decide) v ws.length _ hs hown' ⟨W.heap.size, 0, none⟩ 1 1 [.string E, .int .i64 (s.size : Int)] hx rfl ?_ ?_ (by unfold maxLen; omega) (by omega) (by simp; omega) ?_
  · intro j u hj
    rcases j with _ | _ | j
    · simp at hj
      subst hj
      show (W.alloc _).cell? ⟨W.heap.size, 0, none⟩ = _
      rw [cell_of_row _ _ _ _ _ _ hc]
      rfl
    · simp at hj
      subst hj
      show (W.alloc _).cell? ⟨W.heap.size, 1, none⟩ = _
      rw [cell_of_row _ _ _ _ _ _ hc]
      rfl
    · simp at hj
  · intro u hu
    simp at hu
    rcases hu with rfl | rfl <;> rfl
  · intro v' w' k1 k2 _
    refine h v' w' ?_ (sgrown_then (grown_any (new_val W _) _) k2)
    unfold OwnW
    rw [List.length_append, wC_snoc, wC_app _ _ _ hin]
    have e : encW (s ++ E) (s.size, s.size + E.size) = [.string E, .int .i64 (s.size : Int)] := by
      show [Value.string ((s ++ E).extract s.size (s.size + E.size)), Value.int .i64 (s.size : Int)] = _
      rw [extract_new]
    rw [e]
    exact k1
/-- append of a string's bytes. -/
theorem push_s {ops : Array Oper} {rest : List Oper} {o : Oper} {a : Act} {Q : Exit → Act → World → Prop} (hgd : o.guard = none) (sl x : Operand)
    (ho : o.op = .call { callee := .builtin .append, args := #[sl, x], argTypes := #[22, 9] })
    (W : World) (base : Nat) (v : Value) (s E : ByteArray) (hs : a.eval sl = v) (hx : a.eval x = .string E)
    (hown : OwnB W base v s) (hbase : base ≤ W.heap.size) (hl : s.size + E.size ≤ 1000000)
    (h : ∀ v' w', OwnB w' base v' (s ++ E) → W.grownBy w' v.ownBlock → wpList Tryd.prog ops Q rest (a.put o.dst v') w') :
    wpList Tryd.prog ops Q (o :: rest) a W := by
  obtain ⟨i0, hi, hz0, hz1, hz2⟩ := info_parts info_u8
  refine Lib.wpList_append_own_string _ hgd sl x 22 9 ho base 5 i0 Tryd.underlying22 Tryd.underlying9 hi hz0 hz1 hz2 v s.size _ hs hown E hx (by unfold maxLen; omega) (by omega) hbase ?_
  intro v' w' k1 k2 _
  refine h v' w' ?_ k2
  unfold OwnB
  have e : byC (s ++ E) = byC s ++ Lib.strCells E := by
    show (s ++ E).data.toList.map _ = _
    rw [app_list, List.map_append]
    rfl
  rw [app_size, e]
  exact k1
/-- append of one byte. -/
theorem push_b {ops : Array Oper} {rest : List Oper} {o : Oper} {a : Act} {Q : Exit → Act → World → Prop} (hgd : o.guard = none) (sl x : Operand)
    (ho : o.op = .call { callee := .builtin .append, args := #[sl, x], argTypes := #[22, 22] })
    (W : World) (base : Nat) (v : Value) (s : ByteArray) (b : UInt8) (y : Int) (hy : y = (b.toNat : Int)) (hs : a.eval sl = v) (hx : a.eval x = .slice (some ⟨W.heap.size, 0, none⟩) 1 1)
    (hown : OwnB W base v s) (hbase : base ≤ W.heap.size) (hl : s.size ≤ 1000000)
    (h : ∀ v' w', OwnB w' base v' (s ++ ⟨#[b]⟩) → W.grownBy w' v.ownBlock → wpList Tryd.prog ops Q rest (a.put o.dst v') w') :
    wpList Tryd.prog ops Q (o :: rest) a (W.alloc (.cells #[.int .u8 y] 5)) := by
  subst hy
  obtain ⟨i0, hi, hz0, hz1, hz2⟩ := info_parts info_u8
  have hown' := hown.below (new_val W (.cells #[.int .u8 (b.toNat : Int)] 5)) (Nat.le_refl _)
  have hc := heap_alloc_new W (.cells #[.int .u8 (b.toNat : Int)] 5)
  refine wpList_append_own _ hgd sl x 22 ho base 5 i0 (.int .u8 0) 1 1 Tryd.underlying22 hi hz0 hz1 hz2 rfl (by decide) v s.size _ hs hown' ⟨W.heap.size, 0, none⟩ 1 1 [.int .u8 (b.toNat : Int)] hx rfl ?_ ?_ (by unfold maxLen; omega) (by omega) (by simp; omega) ?_
  · intro j u hj
    rcases j with _ | j
    · simp at hj
      subst hj
      show (W.alloc _).cell? ⟨W.heap.size, 0, none⟩ = _
      rw [cell_of_row _ _ _ _ _ _ hc]
      rfl
    · simp at hj
  · intro u hu
    simp at hu
    subst hu
    rfl
  · intro v' w' k1 k2 _
    refine h v' w' ?_ (sgrown_then (grown_any (new_val W _) _) k2)
    unfold OwnB
    have e : byC (s ++ ⟨#[b]⟩) = byC s ++ [.int .u8 (b.toNat : Int)] := by
      show (s ++ ⟨#[b]⟩).data.toList.map _ = _
      rw [app_list, List.map_append]
      rfl
    rw [app_size, e]
    exact k1
end Go.Proofs.YtcfendilaogjlaaDoor
