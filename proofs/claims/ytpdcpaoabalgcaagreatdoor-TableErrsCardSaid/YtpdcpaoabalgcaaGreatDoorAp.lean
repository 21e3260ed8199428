/- append of a list to a list of the call's own (no statement of its own). No condition. -/
import Derived.Test.YtpdcpaoabalgcaaGreatDoorTbW
import Derived.Laws.AppendOwnNone
namespace Go.Proofs.YtpdcpaoabalgcaaGreatDoor
open Go.RowKit
set_option linter.unusedVariables false
set_option maxRecDepth 100000 in
theorem app_wp {o : Oper} {a : Act} {K : Act → World → Prop} {Q : Exit → Act → World → Prop} (s x : Operand)
    (ho : o.op = .call { callee := .builtin .append, args := #[s, x], argTypes := #[27, 27] })
    (W : World) (base m cx : Nat) (v : Value) (l l2 : List Nat) (Ax : Option Addr) (hm : l2.length = m) (hs : a.eval s = v) (hx : a.eval x = .slice Ax m cx)
    (hown : Own W base v l) (hI : Ints W Ax l2) (hc : Ax = none → cx = 0) (hbase : base ≤ W.heap.size) (hl : l.length ≤ 100000) (hl2 : m ≤ 100000)
    (h : ∀ v' w', Own w' base v' (l ++ l2) → W.grownBy w' v.ownBlock → K (a.put o.dst v') w') :
    o.wp Tryz.prog a W K Q := by
  subst hm
  obtain ⟨i0, hi, hz0, hz1, hz2⟩ := info_parts info_int
  cases Ax with
  | none =>
    have hn : l2 = [] := by
      rcases hI with h | ⟨g, o, e, _⟩
      · exact h
      · cases e
    subst hn
    have hc0 := hc rfl
    subst hc0
    have hrun := run_append_owned_none (P := Tryz.prog) (w := W) base 27 o.type 3 i0 1 Tryz.underlying27 hi v l.length _ hown
    unfold Oper.wp
    simp [execOp, ho, resolve, invoke, builtin, hs, hx, hrun, Result.andThen]
    exact h v W (by rw [List.append_nil]; exact hown) ⟨rfl, rfl, rfl, Nat.le_refl _, fun k _ _ => rfl⟩
  | some ad =>
    refine wp_append_own W s x 27 ho base 3 i0 (.int .i64 0) 1 8 Tryz.underlying27 hi hz0 hz1 hz2 rfl (by decide) v l.length _ hs hown ad l2.length cx (intC l2) hx (by rw [intC_len, Nat.mul_one]) ?_ (intC_one l2) (by unfold maxLen; omega) (by omega) hbase ?_
    · intro j u hu
      obtain ⟨ad', e, hcc⟩ := hI.src (by have := (List.getElem?_eq_some_iff.1 hu).1; omega)
      injection e with e
      subst e
      exact hcc j u hu
    · intro v' w' h1 h2 _
      refine h v' w' ?_ h2
      unfold Own
      rw [List.length_append, intC, List.map_append]
      exact h1
theorem app_own {ops : Array Oper} {rest : List Oper} {o : Oper} {a : Act} {Q : Exit → Act → World → Prop} (hgd : o.guard = none) (s x : Operand)
    (ho : o.op = .call { callee := .builtin .append, args := #[s, x], argTypes := #[27, 27] })
    (W : World) (base m cx : Nat) (v : Value) (l l2 : List Nat) (Ax : Option Addr) (hm : l2.length = m) (hs : a.eval s = v) (hx : a.eval x = .slice Ax m cx)
    (hown : Own W base v l) (hI : Ints W Ax l2) (hc : Ax = none → cx = 0) (hbase : base ≤ W.heap.size) (hl : l.length ≤ 100000) (hl2 : m ≤ 100000)
    (h : ∀ v' w', Own w' base v' (l ++ l2) → W.grownBy w' v.ownBlock → wpList Tryz.prog ops Q rest (a.put o.dst v') w') :
    wpList Tryz.prog ops Q (o :: rest) a W :=
  wpList_plain hgd fun _ hK => app_wp s x ho W base m cx v l l2 Ax hm hs hx hown hI hc hbase hl hl2 fun v' w' h1 h2 => hK _ _ (h v' w' h1 h2)
theorem app_step {ops : Array Oper} {o : Oper} {a : Act} {K : Act → World → Prop} {Q : Exit → Act → World → Prop} {E : Prop} (hgd : o.guard = none) (s x : Operand)
    (ho : o.op = .call { callee := .builtin .append, args := #[s, x], argTypes := #[27, 27] })
    (W : World) (base m cx : Nat) (v : Value) (l l2 : List Nat) (Ax : Option Addr) (hm : l2.length = m) (hs : a.eval s = v) (hx : a.eval x = .slice Ax m cx)
    (hown : Own W base v l) (hI : Ints W Ax l2) (hc : Ax = none → cx = 0) (hbase : base ≤ W.heap.size) (hl : l.length ≤ 100000) (hl2 : m ≤ 100000)
    (h : ∀ v' w', Own w' base v' (l ++ l2) → W.grownBy w' v.ownBlock → K (a.put o.dst v') w') :
    if Region.wanted o (yielded ops a.tmps) = true then Oper.wp Tryz.prog o a W K Q else E := by
  have hw : Region.wanted o (yielded ops a.tmps) = true := by simp [Region.wanted, hgd]
  rw [if_pos hw]
  exact app_wp s x ho W base m cx v l l2 Ax hm hs hx hown hI hc hbase hl hl2 h
/-- append of one number (any) to an own list of numbers. -/
theorem pushI {ops : Array Oper} {rest : List Oper} {o : Oper} {a : Act} {Q : Exit → Act → World → Prop} (hgd : o.guard = none) (s x : Operand)
    (ho : o.op = .call { callee := .builtin .append, args := #[s, x], argTypes := #[27, 27] })
    (W : World) (base n : Nat) (v : Value) (z : Nat → Int) (u : Int) (hu : u = z n) (hs : a.eval s = v) (hx : a.eval x = .slice (some ⟨W.heap.size, 0, none⟩) 1 1)
    (hown : W.ownsRow base 3 1 v n (costL z n)) (hbase : base ≤ W.heap.size) (hl : n ≤ 100000)
    (h : ∀ v' w', w'.ownsRow base 3 1 v' (n + 1) (costL z (n + 1)) → W.grownBy w' v.ownBlock → wpList Tryz.prog ops Q rest (a.put o.dst v') w') :
    wpList Tryz.prog ops Q (o :: rest) a (W.alloc (.cells #[.int .i64 u] 3)) := by
  subst hu
  obtain ⟨i0, hi, hz0, hz1, hz2⟩ := info_parts info_int
  have n0 := new_val W (.cells #[.int .i64 (z n)] 3)
  have hown' := ownsRow_below hown n0 (Nat.le_refl _)
  have hc := heap_alloc_new W (.cells #[.int .i64 (z n)] 3)
  refine wpList_append_own _ hgd s x 27 ho base 3 i0 (.int .i64 0) 1 8 Tryz.underlying27 hi hz0 hz1 hz2 rfl (by decide) v n _ hs hown' ⟨W.heap.size, 0, none⟩ 1 1 [.int .i64 (z n)] hx rfl ?_ ?_ (by unfold maxLen; omega) (by omega) (by simp; omega) ?_
  · intro j u hj
    rcases j with _ | j
    · simp at hj
      subst hj
      show (W.alloc _).cell? ⟨W.heap.size, 0, none⟩ = _
      rw [cell_of_row _ _ _ _ _ _ hc]
      rfl
    · simp at hj
  · intro u hu
    simp at hu
    subst hu
    rfl
  · intro v' w' h1 h2 _
    refine h v' w' (by rw [costL_succ]; exact h1) (grown_then (World.grownBy_alloc W _ _) h2)
end Go.Proofs.YtpdcpaoabalgcaaGreatDoor
