/- Slices of tuples that a call has made (no statement of its own). -/
import Derived.Test.YteocbgcgfllieaaGreatDoorMgT
import Derived.Laws.AppendOwnNone
import Derived.Lib.OwnKind
namespace Go.Proofs.YteocbgcgfllieaaGreatDoor
open Go.RowKit
set_option linter.unusedVariables false
theorem info_ints : (Tryz.prog.info? 23).map (fun i => (i.zero, i.size, i.bytes)) = some (some (.slice none 0 0), 1, 24) := by kernel_rfl
def nthT (ts : List (List Nat)) (j : Nat) : List Nat := ts.getD j []
/-- A slice of slices, all made from base on, holds these tuples. -/
def RowsT (W : World) (base : Nat) (v : Value) (ts : List (List Nat)) : Prop :=
  ∃ xs, W.ownsRow base 23 1 v ts.length xs ∧ ∀ j x, xs[j]? = some x → Own W base x (nthT ts j)
theorem rowsT_nil (W : World) (base : Nat) : RowsT W base (.slice none 0 0) [] := ⟨[], World.ownsRow_nil W base 23 1, fun j x h => by simp at h⟩
theorem ownsRow_below {w w' : World} {base B : Nat} {e : TypeId} {v : Value} {n : Nat} {xs : List Value} (h : w.ownsRow base e 1 v n xs) (hb : Below B w w') (hB : w.heap.size ≤ B) : w'.ownsRow base e 1 v n xs := by
  obtain ⟨h1, ⟨rfl, hn⟩ | ⟨g, cap, cur, rfl, hb', hh, hm, hx, hs, ht⟩⟩ := h
  · exact ⟨h1, .inl ⟨rfl, hn⟩⟩
  · refine ⟨h1, .inr ⟨g, cap, cur, rfl, hb', ?_, hm, hx, hs, ht⟩⟩
    rw [hb.block g (by have := (Array.getElem?_eq_some_iff.1 hh).1; omega)]
    exact hh
theorem ownsRow_less {w : World} {base base' : Nat} {e : TypeId} {v : Value} {n : Nat} {xs : List Value} (h : w.ownsRow base e 1 v n xs) (hb : base' ≤ base) : w.ownsRow base' e 1 v n xs := by
  obtain ⟨h1, ⟨rfl, hn⟩ | ⟨g, cap, cur, rfl, hg, hh, hm, hx, hs, ht⟩⟩ := h
  · exact ⟨h1, .inl ⟨rfl, hn⟩⟩
  · exact ⟨h1, .inr ⟨g, cap, cur, rfl, by omega, hh, hm, hx, hs, ht⟩⟩
theorem RowsT.below {w w' : World} {base B : Nat} {v : Value} {ts : List (List Nat)} (h : RowsT w base v ts) (hb : Below B w w') (hB : w.heap.size ≤ B) : RowsT w' base v ts := by
  obtain ⟨xs, h1, h2⟩ := h
  exact ⟨xs, ownsRow_below h1 hb hB, fun j x hx => (h2 j x hx).below hb hB⟩
theorem RowsT.less {w : World} {base base' : Nat} {v : Value} {ts : List (List Nat)} (h : RowsT w base v ts) (hb : base' ≤ base) : RowsT w base' v ts := by
  obtain ⟨xs, h1, h2⟩ := h
  exact ⟨xs, ownsRow_less h1 hb, fun j x hx => (h2 j x hx).less hb⟩
theorem RowsT.form {w : World} {base : Nat} {v : Value} {ts : List (List Nat)} (h : RowsT w base v ts) : ∃ A c, v = .slice A ts.length c ∧ ∀ j, j < ts.length → ∃ g x, A = some ⟨g, 0, none⟩ ∧ g < w.heap.size ∧ w.cell? ⟨g, j, none⟩ = some x ∧ Own w base x (nthT ts j) := by
  obtain ⟨xs, h1, h2⟩ := h
  have h0 := h1
  obtain ⟨hl, ⟨rfl, hn⟩ | ⟨g, cap, cur, rfl, hb, hh, hm, _, hs, ht⟩⟩ := h1
  · exact ⟨none, 0, by rw [hn], fun j hj => by omega⟩
  · refine ⟨_, cap, rfl, fun j hj => ?_⟩
    have hj' : j < xs.length := by omega
    have hx := List.getElem?_eq_getElem hj'
    refine ⟨g, xs[j], rfl, (Array.getElem?_eq_some_iff.1 hh).1, ?_, h2 j _ hx⟩
    rw [cell_of_row w g j cur 23 (0, 0) hh]
    have e : (cur.toList.take (ts.length * 1))[j]? = some xs[j] := by rw [ht]; exact hx
    rw [List.getElem?_take] at e
    exact (by simpa using e : j < ts.length ∧ cur[j]? = some xs[j]).2
theorem Own.kind {w : World} {base : Nat} {v : Value} {l : List Nat} (h : Own w base v l) : ∀ g, v.ownBlock = some g → ∃ c fz, w.heap[g]? = some (.cells c 3 fz) := Lib.ownsRow_kind h
theorem Own.apart {w : World} {base b2 : Nat} {v u : Value} {l : List Nat} {n : Nat} {xs : List Value} (h : Own w base v l) (k : w.ownsRow b2 23 1 u n xs) : v.ownBlock = none ∨ v.ownBlock ≠ u.ownBlock := by
  cases hv : v.ownBlock with
  | none => exact .inl rfl
  | some g =>
    refine .inr fun e => ?_
    obtain ⟨c, fz, hc⟩ := h.kind g hv
    obtain ⟨c', fz', hc'⟩ := Lib.ownsRow_kind k g e.symm
    rw [hc] at hc'
    cases hc'
-- (Own.grown lies in the base)
theorem Own.one {w : World} {base : Nat} {v : Value} {l : List Nat} (h : Own w base v l) : v.oneCell' = true := by
  obtain ⟨_, ⟨rfl, hn⟩ | ⟨g, cap, cur, rfl, _⟩⟩ := h <;> rfl
theorem nthT_push (ts : List (List Nat)) (t : List Nat) (j : Nat) (h : j < ts.length) : nthT (ts ++ [t]) j = nthT ts j := by
  simp [nthT, List.getD_eq_getElem?_getD, List.getElem?_append_left h]
theorem nthT_last (ts : List (List Nat)) (t : List Nat) : nthT (ts ++ [t]) ts.length = t := by simp [nthT, List.getD_eq_getElem?_getD]
/-- append of one slice that lies in a literal. -/
theorem push_rows {ops : Array Oper} {rest : List Oper} {o : Oper} {a : Act} {Q : Exit → Act → World → Prop} (hgd : o.guard = none) (s x : Operand)
    (ho : o.op = .call { callee := .builtin .append, args := #[s, x], argTypes := #[46, 46] })
    (W : World) (base : Nat) (v xv : Value) (ts : List (List Nat)) (t : List Nat) (hs : a.eval s = v) (hx : a.eval x = .slice (some ⟨W.heap.size, 0, none⟩) 1 1)
    (hown : RowsT W base v ts) (hxv : Own W base xv t) (hbase : base ≤ W.heap.size) (hl : ts.length ≤ 1000000)
    (h : ∀ v' w', RowsT w' base v' (ts ++ [t]) → Below base W w' → wpList Tryz.prog ops Q rest (a.put o.dst v') w') :
    wpList Tryz.prog ops Q (o :: rest) a (W.alloc (.cells #[xv] 23)) := by
  obtain ⟨i0, hi, hz0, hz1, hz2⟩ := info_parts info_ints
  have n0 := new_val W (.cells #[xv] 23)
  have hb : Below base W (W.alloc (.cells #[xv] 23)) := (Below.refl _ _).alloc hbase _
  obtain ⟨xs, h1, h2⟩ := hown
  have h1' := ownsRow_below h1 n0 (Nat.le_refl _)
  have hx1 := hxv.below n0 (Nat.le_refl _)
  have hc := heap_alloc_new W (.cells #[xv] 23)
  have hlen : xs.length = ts.length := by have := h1.1; omega
  refine wpList_append_own _ hgd s x 46 ho base 23 i0 (.slice none 0 0) 1 24 Tryz.underlying46 hi hz0 hz1 hz2 rfl (by decide) v ts.length xs hs h1' ⟨W.heap.size, 0, none⟩ 1 1 [xv] hx rfl ?_ ?_ (by unfold maxLen; omega) (by omega) (by simp; omega) ?_
  · intro j u hj
    rcases j with _ | j
    · simp at hj
      subst hj
      show (W.alloc _).cell? ⟨W.heap.size, 0, none⟩ = _
      rw [cell_of_row _ _ _ _ _ _ hc]
      rfl
    · simp at hj
  · intro u hu
    simp at hu
    subst hu
    exact hx1.one
  · intro v' w' k1 k2 _
    refine h v' w' ⟨xs ++ [xv], by rw [List.length_append]; exact k1, fun j y hy => ?_⟩ (hb.grown k2 (by simp; omega) (fun k hk => (World.ownsRow.lt h1 k hk).1))
    rcases Nat.lt_or_ge j ts.length with hj | hj
    · rw [nthT_push _ _ _ hj]
      rw [List.getElem?_append_left (by omega)] at hy
      have hy0 := h2 j y hy
      exact (hy0.below n0 (Nat.le_refl _)).grown k2 ((hy0.below n0 (Nat.le_refl _)).apart h1')
    · have hj2 : j = ts.length := by
        have := (List.getElem?_eq_some_iff.1 hy).1
        simp at this
        omega
      subst hj2
      rw [nthT_last]
      rw [List.getElem?_append_right (by omega), hlen, Nat.sub_self] at hy
      simp at hy
      subst hy
      exact hx1.grown k2 (hx1.apart h1')
/-- append of a slice to a literal of one number. -/
theorem cons_own {ops : Array Oper} {rest : List Oper} {o : Oper} {a : Act} {Q : Exit → Act → World → Prop} (hgd : o.guard = none) (s x : Operand)
    (ho : o.op = .call { callee := .builtin .append, args := #[s, x], argTypes := #[23, 23] })
    (W : World) (B : Nat) (xv : Value) (t : List Nat) (u : Int) (y : Nat) (hu : u = (y : Int)) (hs : a.eval s = .slice (some ⟨W.heap.size, 0, none⟩) 1 1) (hx : a.eval x = xv)
    (hxv : Own W B xv t) (hl : t.length ≤ 100000)
    (h : ∀ v' w', Own w' W.heap.size v' (y :: t) → Below W.heap.size W w' → wpList Tryz.prog ops Q rest (a.put o.dst v') w') :
    wpList Tryz.prog ops Q (o :: rest) a (W.alloc (.cells #[.int .i64 u] 3)) := by
  subst hu
  obtain ⟨i0, hi, hz0, hz1, hz2⟩ := info_parts info_int
  have n0 := new_val W (.cells #[.int .i64 (y : Int)] 3)
  have hc := heap_alloc_new W (.cells #[.int .i64 (y : Int)] 3)
  have hy : (W.alloc (.cells #[.int .i64 (y : Int)] 3)).ownsRow W.heap.size 3 1 (.slice (some ⟨W.heap.size, 0, none⟩) 1 1) 1 [.int .i64 (y : Int)] :=
    ⟨rfl, .inr ⟨W.heap.size, 1, _, rfl, Nat.le_refl _, hc, Nat.le_refl _, by unfold maxLen; omega, rfl, rfl⟩⟩
  have hx1 := hxv.below n0 (Nat.le_refl _)
  obtain ⟨A, c, rfl, hI⟩ := hx1.form
  rcases hI.form with rfl | ⟨g, o', rfl⟩
  · have hn : A = none ∨ ∃ g, A = some ⟨g, 0, none⟩ := by
      obtain ⟨_, ⟨e, _⟩ | ⟨g, cap, cur, e, _⟩⟩ := hx1
      · injection e with e
        exact .inl e
      · injection e with e
        exact .inr ⟨g, e⟩
    have fin : wpList Tryz.prog ops Q rest (a.put o.dst (.slice (some ⟨W.heap.size, 0, none⟩) 1 1)) (W.alloc (.cells #[.int .i64 (y : Int)] 3)) := h _ _ hy n0
    rcases hn with rfl | ⟨g, rfl⟩
    · have hc0 : c = 0 := by
        obtain ⟨_, ⟨e, _⟩ | ⟨g, cap, cur, e, _⟩⟩ := hx1
        · injection e
        · cases e
      subst hc0
      exact wpList_append_own_none hgd s x 23 ho W.heap.size 3 i0 1 Tryz.underlying23 hi _ _ _ hs hy hx fin
    · refine wpList_append_own _ hgd s x 23 ho W.heap.size 3 i0 (.int .i64 0) 1 8 Tryz.underlying23 hi hz0 hz1 hz2 rfl (by decide) _ 1 _ hs hy ⟨g, 0, none⟩ 0 c [] hx rfl (fun j u hj => by simp at hj) (fun u hu => by simp at hu) (by unfold maxLen; omega) (by omega) (by simp) ?_
      intro v' w' k1 k2 _
      exact h v' w' k1 (n0.grown k2 (by simp) (fun k hk => by simp [Value.ownBlock] at hk; omega))
  · refine wpList_append_own _ hgd s x 23 ho W.heap.size 3 i0 (.int .i64 0) 1 8 Tryz.underlying23 hi hz0 hz1 hz2 rfl (by decide) _ 1 _ hs hy ⟨g, o', none⟩ t.length c (intC t) hx (by rw [intC_len, Nat.mul_one]) hI.news (intC_one t) (by unfold maxLen; omega) (by omega) (by simp) ?_
    intro v' w' k1 k2 _
    refine h v' w' ?_ (n0.grown k2 (by simp) (fun k hk => by simp [Value.ownBlock] at hk; omega))
    unfold Own
    rw [List.length_cons, Nat.add_comm]
    exact k1
end Go.Proofs.YteocbgcgfllieaaGreatDoor
