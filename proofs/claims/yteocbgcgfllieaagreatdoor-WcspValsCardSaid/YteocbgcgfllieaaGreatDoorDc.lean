/- Lists that the document's reader makes (no statement of its own). -/
import Derived.Test.YteocbgcgfllieaaGreatDoorDb
import Derived.Maps.AppendAt
namespace Go.Proofs.YteocbgcgfllieaaGreatDoor
open Go.RowKit
set_option linter.unusedVariables false
/-- A list of numbers that a call of the document's has made. -/
def Own6 (W : World) (base : Nat) (v : Value) (l : List Nat) : Prop := W.ownsRow base 2 1 v l.length (intC l)
theorem own6_nil (W : World) (base : Nat) : Own6 W base (.slice none 0 0) [] := World.ownsRow_nil W base 2 1
theorem Own6.lt {w : World} {base : Nat} {v : Value} {l : List Nat} (h : Own6 w base v l) : ∀ k, v.ownBlock = some k → base ≤ k ∧ k < w.heap.size := World.ownsRow.lt h
theorem Own6.grown {w w' : World} {base : Nat} {v : Value} {l : List Nat} {row : Option Nat} (h : Own6 w base v l) (hg : w.grownBy w' row) (hne : v.ownBlock = none ∨ v.ownBlock ≠ row) : Own6 w' base v l := World.ownsRow.kept h hg hne
theorem Own6.less {w : World} {base base' : Nat} {v : Value} {l : List Nat} (h : Own6 w base v l) (hb : base' ≤ base) : Own6 w base' v l := by
  obtain ⟨h1, h2 | ⟨g, cap, cur, e, h3, h4⟩⟩ := h
  · exact ⟨h1, .inl h2⟩
  · exact ⟨h1, .inr ⟨g, cap, cur, e, Nat.le_trans hb h3, h4⟩⟩
theorem Own6.keepB {w w' : World} {base : Nat} {v : Value} {l : List Nat} (h : Own6 w base v l) (hk : ∀ g, v.ownBlock = some g → g < w.heap.size → base ≤ g → w'.heap[g]? = w.heap[g]?) : Own6 w' base v l := by
  obtain ⟨h1, ⟨rfl, hn⟩ | ⟨g, cap, cur, rfl, hb', hh, hm, hx, hs, ht⟩⟩ := h
  · exact ⟨h1, .inl ⟨rfl, hn⟩⟩
  · exact ⟨h1, .inr ⟨g, cap, cur, rfl, hb', (hk g rfl (Array.getElem?_eq_some_iff.1 hh).1 hb').trans hh, hm, hx, hs, ht⟩⟩
theorem Own6.obj {W : World} {base : Nat} {v : Value} {l : List Nat} (h : Own6 W base v l) : ∀ g, v.ownBlock = some g → base ≤ g ∧ g < W.heap.size ∧ ∃ cur, W.heap[g]? = some (.cells cur 2 (0, 0)) := by
  intro g hg
  obtain ⟨_, ⟨rfl, hn⟩ | ⟨g', cap, cur, rfl, hb, hh, _⟩⟩ := h
  · simp [Value.ownBlock] at hg
  · simp [Value.ownBlock] at hg
    subst hg
    exact ⟨hb, (Array.getElem?_eq_some_iff.1 hh).1, cur, hh⟩
/-- A list of numbers in memory. -/
def I6 (W : World) (A : Option Addr) (l : List Nat) : Prop :=
  l = [] ∨ ∃ g o cur fr, A = some ⟨g, o, none⟩ ∧ W.heap[g]? = some (.cells cur 2 fr) ∧ ∀ i, i < l.length → W.cell? ⟨g, o + i, none⟩ = some (.int .i64 (nth l i : Int))
theorem I6.keepG {W W' : World} {A : Option Addr} {l : List Nat} (h : I6 W A l) (hk : ∀ (g : Nat) (cur : Array Value) (fr : Nat × Nat), W.heap[g]? = some (.cells cur 2 fr) → W'.heap[g]? = W.heap[g]?) : I6 W' A l := by
  rcases h with rfl | ⟨g, o, cur, fr, rfl, hg, hc⟩
  · exact .inl rfl
  · have e := hk g cur fr hg
    exact .inr ⟨g, o, cur, fr, rfl, e.trans hg, fun i hi => (World.cell?_of_block (a := ⟨g, o + i, none⟩) e).trans (hc i hi)⟩
theorem I6.keep {W W' : World} {A : Option Addr} {l : List Nat} (h : I6 W A l) (hk : KeepD W W') : I6 W' A l := h.keepG hk.ints
theorem I6.at_ {W : World} {A : Option Addr} {l : List Nat} (h : I6 W A l) {i : Nat} (hi : i < l.length) : ∃ g o, A = some ⟨g, o, none⟩ ∧ W.cell? ⟨g, o + i, none⟩ = some (.int .i64 (nth l i : Int)) := by
  rcases h with rfl | ⟨g, o, cur, fr, rfl, hg, hc⟩
  · exact absurd hi (by simp)
  · exact ⟨g, o, rfl, hc i hi⟩
theorem I6.lt {W : World} {g o : Nat} {l : List Nat} (h : I6 W (some ⟨g, o, none⟩) l) (hl : 0 < l.length) : g < W.heap.size := by
  rcases h with rfl | ⟨g', o', cur, fr, e, hg, hc⟩
  · exact absurd hl (by simp)
  · injection e with e
    injection e with e1 e2
    subst e1
    exact (Array.getElem?_eq_some_iff.1 hg).1
theorem Own6.form {W : World} {base : Nat} {v : Value} {l : List Nat} (h : Own6 W base v l) : ∃ A c, v = .slice A l.length c ∧ l.length ≤ c ∧ I6 W A l := by
  have h' := h
  obtain ⟨k1, ⟨rfl, hn⟩ | ⟨g, cap, cur, rfl, hb', hh, hm, hx, hs, ht⟩⟩ := h
  · have : l = [] := List.eq_nil_of_length_eq_zero hn
    subst this
    exact ⟨none, 0, rfl, Nat.le_refl _, .inl rfl⟩
  · refine ⟨_, cap, rfl, hm, .inr ⟨g, 0, cur, (0, 0), rfl, hh, fun i hi => ?_⟩⟩
    have c1 := World.ownsRow.cellAt (h' : W.ownsRow base 2 1 _ l.length _) i (by omega)
    simp only [Nat.zero_add]
    refine c1.trans ?_
    simp [intC, nth, List.getD, hi]
theorem info_i6 : (Tryz.prog.info? 2).map (fun i => (i.zero, i.size, i.bytes)) = some (some (.int .i64 0), 1, 8) := by kernel_rfl
set_option maxRecDepth 100000 in
theorem push6_wp {o : Oper} {a : Act} {K : Act → World → Prop} {Q : Exit → Act → World → Prop} (s x : Operand)
    (ho : o.op = .call { callee := .builtin .append, args := #[s, x], argTypes := #[34, 34] })
    (W : World) (base y : Nat) (v : Value) (l : List Nat) (ad : Addr) (hs : a.eval s = v) (hx : a.eval x = .slice (some ad) 1 1)
    (hown : Own6 W base v l) (hy : W.cell? (ad.add 0) = some (.int .i64 (y : Int))) (hbase : base ≤ W.heap.size) (hl : l.length ≤ 1000000)
    (h : ∀ v' w', Own6 w' base v' (l ++ [y]) → W.grownBy w' v.ownBlock → (v'.ownBlock = v.ownBlock ∨ v'.ownBlock = some W.heap.size) → K (a.put o.dst v') w') :
    o.wp Tryz.prog a W K Q := by
  obtain ⟨i0, hi, hz0, hz1, hz2⟩ := info_parts info_i6
  obtain ⟨v', w', hr, h2, h3, h4, h5⟩ := run_append_own_at (P := Tryz.prog) W base 34 o.type 2 i0 (.int .i64 0) 1 8 Tryz.underlying34 hi hz0 hz1 hz2 rfl (by decide) v l.length _ hown ad 1 1 [.int .i64 (y : Int)] rfl (by
    intro j u hj
    rcases j with _ | j
    · simp at hj; subst hj; exact hy
    · simp at hj) (by intro u hu; simp at hu; subst hu; rfl) (by unfold maxLen; omega) (by omega) hbase
  unfold Oper.wp execOp
  simp only [ho, resolve, invoke, builtin, Sem.run_bind, Sem.run_pure, Result.andThen_ok, List.map_toArray, List.map_cons, List.map_nil, hs, hx, hr]
  refine h v' w' ?_ h3 h5
  unfold Own6
  rw [List.length_append, intC, List.map_append]
  exact h2
theorem push6 {ops : Array Oper} {rest : List Oper} {o : Oper} {a : Act} {Q : Exit → Act → World → Prop} (hgd : o.guard = none) (s x : Operand)
    (ho : o.op = .call { callee := .builtin .append, args := #[s, x], argTypes := #[34, 34] })
    (W : World) (base y : Nat) (v : Value) (l : List Nat) (ad : Addr) (hs : a.eval s = v) (hx : a.eval x = .slice (some ad) 1 1)
    (hown : Own6 W base v l) (hy : W.cell? (ad.add 0) = some (.int .i64 (y : Int))) (hbase : base ≤ W.heap.size) (hl : l.length ≤ 1000000)
    (h : ∀ v' w', Own6 w' base v' (l ++ [y]) → W.grownBy w' v.ownBlock → (v'.ownBlock = v.ownBlock ∨ v'.ownBlock = some W.heap.size) → wpList Tryz.prog ops Q rest (a.put o.dst v') w') :
    wpList Tryz.prog ops Q (o :: rest) a W :=
  wpList_plain hgd fun _ hK => push6_wp s x ho W base y v l ad hs hx hown hy hbase hl fun v' w' h1 h2 h3 => hK _ _ (h v' w' h1 h2 h3)
theorem push6_step {ops : Array Oper} {o : Oper} {a : Act} {K : Act → World → Prop} {Q : Exit → Act → World → Prop} {E : Prop} (hgd : o.guard = none) (s x : Operand)
    (ho : o.op = .call { callee := .builtin .append, args := #[s, x], argTypes := #[34, 34] })
    (W : World) (base y : Nat) (v : Value) (l : List Nat) (ad : Addr) (hs : a.eval s = v) (hx : a.eval x = .slice (some ad) 1 1)
    (hown : Own6 W base v l) (hy : W.cell? (ad.add 0) = some (.int .i64 (y : Int))) (hbase : base ≤ W.heap.size) (hl : l.length ≤ 1000000)
    (h : ∀ v' w', Own6 w' base v' (l ++ [y]) → W.grownBy w' v.ownBlock → (v'.ownBlock = v.ownBlock ∨ v'.ownBlock = some W.heap.size) → K (a.put o.dst v') w') :
    if Region.wanted o (yielded ops a.tmps) = true then Oper.wp Tryz.prog o a W K Q else E := by
  have hw : Region.wanted o (yielded ops a.tmps) = true := by simp [Region.wanted, hgd]
  rw [if_pos hw]
  exact push6_wp s x ho W base y v l ad hs hx hown hy hbase hl h
/-- A list of lines. -/
def OwnL6 (W : World) (base : Nat) (v : Value) (vs : List (Value × Int)) : Prop := W.ownsRow base 134 2 v vs.length (lnC vs)
theorem ownL6_nil (W : World) (base : Nat) : OwnL6 W base (.slice none 0 0) [] := World.ownsRow_nil W base 134 2
theorem OwnL6.lt {w : World} {base : Nat} {v : Value} {l : List (Value × Int)} (h : OwnL6 w base v l) : ∀ k, v.ownBlock = some k → base ≤ k ∧ k < w.heap.size := World.ownsRow.lt h
theorem OwnL6.grown {w w' : World} {base : Nat} {v : Value} {l : List (Value × Int)} {row : Option Nat} (h : OwnL6 w base v l) (hg : w.grownBy w' row) (hne : v.ownBlock = none ∨ v.ownBlock ≠ row) : OwnL6 w' base v l := World.ownsRow.kept h hg hne
theorem OwnL6.obj {W : World} {base : Nat} {v : Value} {l : List (Value × Int)} (h : OwnL6 W base v l) : ∀ g, v.ownBlock = some g → base ≤ g ∧ g < W.heap.size ∧ ∃ cur, W.heap[g]? = some (.cells cur 134 (0, 0)) := by
  intro g hg
  obtain ⟨_, ⟨rfl, hn⟩ | ⟨g', cap, cur, rfl, hb, hh, _⟩⟩ := h
  · simp [Value.ownBlock] at hg
  · simp [Value.ownBlock] at hg
    subst hg
    exact ⟨hb, (Array.getElem?_eq_some_iff.1 hh).1, cur, hh⟩
theorem OwnL6.form {W : World} {base : Nat} {v : Value} {vs : List (Value × Int)} (h : OwnL6 W base v vs) : ∃ A c, v = .slice A vs.length c ∧ vs.length ≤ c := by
  obtain ⟨_, ⟨rfl, hn⟩ | ⟨g', cap, cur, rfl, hb, hh, hm, _⟩⟩ := h
  · exact ⟨none, 0, by rw [hn], by omega⟩
  · exact ⟨_, _, rfl, hm⟩
theorem info_l6 : (Tryz.prog.info? 134).map (fun i => (i.zero, i.size, i.bytes)) = some (some (.agg #[.slice none 0 0, .int .i64 0]), 2, 32) := by kernel_rfl
theorem two_cells {W : World} {t : TypeId} {x y : Value} {g : Nat} (h : W.heap[g]? = some (.cells #[x, y] t (0, 0))) : ∀ j u, ([x, y] : List Value)[j]? = some u → W.cell? ((⟨g, 0, none⟩ : Addr).add j) = some u := by
  intro j u hj
  rcases j with _ | _ | j
  · simp at hj
    subst hj
    show W.cell? ⟨g, 0, none⟩ = _
    rw [cell_of_row _ _ _ _ _ _ h]
    rfl
  · simp at hj
    subst hj
    show W.cell? ⟨g, 1, none⟩ = _
    rw [cell_of_row _ _ _ _ _ _ h]
    rfl
  · simp at hj
theorem pushL6_wp {o : Oper} {a : Act} {K : Act → World → Prop} {Q : Exit → Act → World → Prop} (sl x : Operand)
    (ho : o.op = .call { callee := .builtin .append, args := #[sl, x], argTypes := #[89, 89] })
    (W : World) (base g : Nat) (v : Value) (vs : List (Value × Int)) (A : Option Addr) (n c : Nat) (y : Int) (hs : a.eval sl = v) (hx : a.eval x = .slice (some ⟨g, 0, none⟩) 1 1)
    (hown : OwnL6 W base v vs) (hc : W.heap[g]? = some (.cells #[.slice A n c, .int .i64 y] 134 (0, 0))) (hbase : base ≤ W.heap.size) (hl : vs.length ≤ 1000000)
    (h : ∀ v' w', OwnL6 w' base v' (vs ++ [(.slice A n c, y)]) → W.grownBy w' v.ownBlock → (v'.ownBlock = v.ownBlock ∨ v'.ownBlock = some W.heap.size) → K (a.put o.dst v') w') :
    o.wp Tryz.prog a W K Q := by
  obtain ⟨i0, hi, hz0, hz1, hz2⟩ := info_parts info_l6
  obtain ⟨v', w', hr, h2, h3, h4, h5⟩ := run_append_own_at (P := Tryz.prog) W base 89 o.type 134 i0 (.agg #[.slice none 0 0, .int .i64 0]) 2 32 Tryz.underlying89 hi hz0 hz1 hz2 rfl (by decide) v vs.length _ hown ⟨g, 0, none⟩ 1 1 [.slice A n c, .int .i64 y] rfl (two_cells hc) (by intro u hu; simp at hu; rcases hu with rfl | rfl <;> rfl) (by unfold maxLen; omega) (by omega) hbase
  unfold Oper.wp execOp
  simp only [ho, resolve, invoke, builtin, Sem.run_bind, Sem.run_pure, Result.andThen_ok, List.map_toArray, List.map_cons, List.map_nil, hs, hx, hr]
  refine h v' w' ?_ h3 h5
  unfold OwnL6
  rw [List.length_append, lnC_snoc]
  exact h2
theorem pushL6 {ops : Array Oper} {rest : List Oper} {o : Oper} {a : Act} {Q : Exit → Act → World → Prop} (hgd : o.guard = none) (sl x : Operand)
    (ho : o.op = .call { callee := .builtin .append, args := #[sl, x], argTypes := #[89, 89] })
    (W : World) (base g : Nat) (v : Value) (vs : List (Value × Int)) (A : Option Addr) (n c : Nat) (y : Int) (hs : a.eval sl = v) (hx : a.eval x = .slice (some ⟨g, 0, none⟩) 1 1)
    (hown : OwnL6 W base v vs) (hc : W.heap[g]? = some (.cells #[.slice A n c, .int .i64 y] 134 (0, 0))) (hbase : base ≤ W.heap.size) (hl : vs.length ≤ 1000000)
    (h : ∀ v' w', OwnL6 w' base v' (vs ++ [(.slice A n c, y)]) → W.grownBy w' v.ownBlock → (v'.ownBlock = v.ownBlock ∨ v'.ownBlock = some W.heap.size) → wpList Tryz.prog ops Q rest (a.put o.dst v') w') :
    wpList Tryz.prog ops Q (o :: rest) a W :=
  wpList_plain hgd fun _ hK => pushL6_wp sl x ho W base g v vs A n c y hs hx hown hc hbase hl fun v' w' h1 h2 h3 => hK _ _ (h v' w' h1 h2 h3)
/-- The tuples that the lines point at. -/
def LnD (W : World) (vs : List (Value × Int)) (ls : List LineM) : Prop :=
  vs.length = ls.length ∧ ∀ (i : Nat) (x : LineM), ls[i]? = some x → ∃ (At : Option Addr) (ct : Nat), vs[i]? = some (Value.slice At x.1.length ct, x.2) ∧ I6 W At x.1
theorem lnD_nil (W : World) : LnD W [] [] := ⟨rfl, fun i x h => by simp at h⟩
theorem LnD.keepG {W W' : World} {vs : List (Value × Int)} {ls : List LineM} (h : LnD W vs ls) (hk : ∀ (g : Nat) (cur : Array Value) (fr : Nat × Nat), W.heap[g]? = some (.cells cur 2 fr) → W'.heap[g]? = W.heap[g]?) : LnD W' vs ls :=
  ⟨h.1, fun i x hx => by obtain ⟨At, ct, h1, h2⟩ := h.2 i x hx; exact ⟨At, ct, h1, h2.keepG hk⟩⟩
theorem LnD.snoc {W : World} {vs : List (Value × Int)} {ls : List LineM} (h : LnD W vs ls) {At : Option Addr} {ct : Nat} {x : LineM} (hx : I6 W At x.1) : LnD W (vs ++ [(.slice At x.1.length ct, x.2)]) (ls ++ [x]) := by
  refine ⟨by simp [h.1], fun i y hy => ?_⟩
  by_cases hi : i < ls.length
  · rw [List.getElem?_append_left hi] at hy
    obtain ⟨A', c', h1, h2⟩ := h.2 i y hy
    exact ⟨A', c', by rw [List.getElem?_append_left (by rw [h.1]; exact hi)]; exact h1, h2⟩
  · have hi' : i = ls.length := by have := (List.getElem?_eq_some_iff.1 hy).1; simp at this; omega
    subst hi'
    simp at hy
    subst hy
    exact ⟨At, ct, by rw [← h.1]; simp, hx⟩
/-- Lines in memory. -/
def LnV (W : World) (A : Option Addr) (ls : List LineM) : Prop :=
  ls = [] ∨ ∃ g o cur fr, A = some ⟨g, o, none⟩ ∧ W.heap[g]? = some (.cells cur 134 fr) ∧ ∀ i x, ls[i]? = some x → W.cell? ⟨g, o + i * 2 + 1, none⟩ = some (.int .i64 x.2) ∧ ∃ At ct, W.cell? ⟨g, o + i * 2, none⟩ = some (.slice At x.1.length ct) ∧ I6 W At x.1
theorem LnV.keep {W W' : World} {A : Option Addr} {ls : List LineM} (h : LnV W A ls) (hk : KeepD W W') : LnV W' A ls := by
  rcases h with rfl | ⟨g, o, cur, fr, rfl, hg, hc⟩
  · exact .inl rfl
  · have e := hk.line g cur fr hg
    refine .inr ⟨g, o, cur, fr, rfl, e.trans hg, fun i x hx => ?_⟩
    obtain ⟨k1, At, ct, k2, k3⟩ := hc i x hx
    exact ⟨(World.cell?_of_block e).trans k1, At, ct, (World.cell?_of_block e).trans k2, k3.keep hk⟩
theorem OwnL6.view {W : World} {base : Nat} {v : Value} {vs : List (Value × Int)} {ls : List LineM} (h : OwnL6 W base v vs) (hl : LnD W vs ls) : ∃ A c, v = .slice A ls.length c ∧ ls.length ≤ c ∧ LnV W A ls := by
  have h' := h
  obtain ⟨k1, ⟨rfl, hn⟩ | ⟨g, cap, cur, rfl, hb', hh, hm, hx, hs, ht⟩⟩ := h
  · have : ls = [] := List.eq_nil_of_length_eq_zero (by rw [← hl.1]; exact hn)
    subst this
    exact ⟨none, 0, rfl, Nat.le_refl _, .inl rfl⟩
  · refine ⟨_, cap, by rw [hl.1], by rw [← hl.1]; exact hm, .inr ⟨g, 0, cur, (0, 0), rfl, hh, fun i x hx => ?_⟩⟩
    obtain ⟨At, ct, e1, e2⟩ := hl.2 i x hx
    obtain ⟨a1, a2⟩ := lnC_at vs i _ e1
    have hi : i < vs.length := (List.getElem?_eq_some_iff.1 e1).1
    have c1 := World.ownsRow.cellAt (h' : W.ownsRow base 134 2 _ vs.length _) (i * 2) (by omega)
    have c2 := World.ownsRow.cellAt (h' : W.ownsRow base 134 2 _ vs.length _) (i * 2 + 1) (by omega)
    simp only [Nat.zero_add]
    exact ⟨c2.trans a2, At, ct, c1.trans a1, e2⟩
/-- A list of functions. -/
def fdC (vs : List (Value × Value × Int × Value)) : List Value := vs.flatMap fun x => [x.1, x.2.1, .int .i64 x.2.2.1, x.2.2.2]
theorem fdC_snoc (vs : List (Value × Value × Int × Value)) (x : Value × Value × Int × Value) : fdC (vs ++ [x]) = fdC vs ++ [x.1, x.2.1, .int .i64 x.2.2.1, x.2.2.2] := by simp [fdC, List.flatMap_append]
theorem fdC_at : ∀ (vs : List (Value × Value × Int × Value)) (i : Nat) (x : Value × Value × Int × Value), vs[i]? = some x → (fdC vs)[i * 4]? = some x.1 ∧ (fdC vs)[i * 4 + 1]? = some x.2.1 ∧ (fdC vs)[i * 4 + 2]? = some (.int .i64 x.2.2.1) ∧ (fdC vs)[i * 4 + 3]? = some x.2.2.2
  | [], i, x, h => by simp at h
  | y :: r, 0, x, h => by
    simp at h
    subst h
    exact ⟨rfl, rfl, rfl, rfl⟩
  | y :: r, i + 1, x, h => by
    have := fdC_at r i x (by simpa using h)
    have e : fdC (y :: r) = y.1 :: y.2.1 :: .int .i64 y.2.2.1 :: y.2.2.2 :: fdC r := rfl
    rw [e, show (i + 1) * 4 = i * 4 + 1 + 1 + 1 + 1 by omega]
    exact this
def OwnFd (W : World) (base : Nat) (v : Value) (vs : List (Value × Value × Int × Value)) : Prop := W.ownsRow base 91 4 v vs.length (fdC vs)
theorem ownFd_nil (W : World) (base : Nat) : OwnFd W base (.slice none 0 0) [] := World.ownsRow_nil W base 91 4
theorem OwnFd.grown {w w' : World} {base : Nat} {v : Value} {l : List (Value × Value × Int × Value)} {row : Option Nat} (h : OwnFd w base v l) (hg : w.grownBy w' row) (hne : v.ownBlock = none ∨ v.ownBlock ≠ row) : OwnFd w' base v l := World.ownsRow.kept h hg hne
theorem OwnFd.keepB {w w' : World} {base : Nat} {v : Value} {l : List (Value × Value × Int × Value)} (h : OwnFd w base v l) (hk : ∀ g, v.ownBlock = some g → g < w.heap.size → base ≤ g → w'.heap[g]? = w.heap[g]?) : OwnFd w' base v l := by
  obtain ⟨h1, ⟨rfl, hn⟩ | ⟨g, cap, cur, rfl, hb', hh, hm, hx, hs, ht⟩⟩ := h
  · exact ⟨h1, .inl ⟨rfl, hn⟩⟩
  · exact ⟨h1, .inr ⟨g, cap, cur, rfl, hb', (hk g rfl (Array.getElem?_eq_some_iff.1 hh).1 hb').trans hh, hm, hx, hs, ht⟩⟩
theorem OwnFd.obj {W : World} {base : Nat} {v : Value} {l : List (Value × Value × Int × Value)} (h : OwnFd W base v l) : ∀ g, v.ownBlock = some g → base ≤ g ∧ g < W.heap.size ∧ ∃ cur, W.heap[g]? = some (.cells cur 91 (0, 0)) := by
  intro g hg
  obtain ⟨_, ⟨rfl, hn⟩ | ⟨g', cap, cur, rfl, hb, hh, _⟩⟩ := h
  · simp [Value.ownBlock] at hg
  · simp [Value.ownBlock] at hg
    subst hg
    exact ⟨hb, (Array.getElem?_eq_some_iff.1 hh).1, cur, hh⟩
theorem OwnFd.form {W : World} {base : Nat} {v : Value} {vs : List (Value × Value × Int × Value)} (h : OwnFd W base v vs) : ∃ A c, v = .slice A vs.length c ∧ vs.length ≤ c := by
  obtain ⟨_, ⟨rfl, hn⟩ | ⟨g', cap, cur, rfl, hb, hh, hm, _⟩⟩ := h
  · exact ⟨none, 0, by rw [hn], by omega⟩
  · exact ⟨_, _, rfl, hm⟩
theorem info_fd : (Tryz.prog.info? 91).map (fun i => (i.zero, i.size, i.bytes)) = some (some (.agg #[.slice none 0 0, .slice none 0 0, .int .i64 0, .slice none 0 0]), 4, 80) := by kernel_rfl
theorem fd_cells {W : World} {y : Int} {sv zv lv : Value} {g : Nat} (h : W.heap[g]? = some (.cells #[sv, zv, .int .i64 y, lv] 91 (0, 0))) : ∀ j u, ([sv, zv, Value.int .i64 y, lv] : List Value)[j]? = some u → W.cell? ((⟨g, 0, none⟩ : Addr).add j) = some u := by
  intro j u hj
  rcases j with _ | _ | _ | _ | j
  · simp at hj
    subst hj
    show W.cell? ⟨g, 0, none⟩ = _
    rw [cell_of_row _ _ _ _ _ _ h]
    rfl
  · simp at hj
    subst hj
    show W.cell? ⟨g, 1, none⟩ = _
    rw [cell_of_row _ _ _ _ _ _ h]
    rfl
  · simp at hj
    subst hj
    show W.cell? ⟨g, 2, none⟩ = _
    rw [cell_of_row _ _ _ _ _ _ h]
    rfl
  · simp at hj
    subst hj
    show W.cell? ⟨g, 3, none⟩ = _
    rw [cell_of_row _ _ _ _ _ _ h]
    rfl
  · simp at hj
theorem pushFd_wp {o : Oper} {a : Act} {K : Act → World → Prop} {Q : Exit → Act → World → Prop} (sl x : Operand)
    (ho : o.op = .call { callee := .builtin .append, args := #[sl, x], argTypes := #[35, 35] })
    (W : World) (base g : Nat) (v : Value) (vs : List (Value × Value × Int × Value)) (A1 A2 A3 : Option Addr) (n1 n2 n3 c1 c2 c3 : Nat) (y : Int) (hs : a.eval sl = v) (hx : a.eval x = .slice (some ⟨g, 0, none⟩) 1 1)
    (hown : OwnFd W base v vs) (hc : W.heap[g]? = some (.cells #[.slice A1 n1 c1, .slice A2 n2 c2, .int .i64 y, .slice A3 n3 c3] 91 (0, 0))) (hbase : base ≤ W.heap.size) (hl : vs.length ≤ 1000000)
    (h : ∀ v' w', OwnFd w' base v' (vs ++ [(.slice A1 n1 c1, .slice A2 n2 c2, y, .slice A3 n3 c3)]) → W.grownBy w' v.ownBlock → (v'.ownBlock = v.ownBlock ∨ v'.ownBlock = some W.heap.size) → K (a.put o.dst v') w') :
    o.wp Tryz.prog a W K Q := by
  obtain ⟨i0, hi, hz0, hz1, hz2⟩ := info_parts info_fd
  obtain ⟨v', w', hr, h2, h3, h4, h5⟩ := run_append_own_at (P := Tryz.prog) W base 35 o.type 91 i0 (.agg #[.slice none 0 0, .slice none 0 0, .int .i64 0, .slice none 0 0]) 4 80 Tryz.underlying35 hi hz0 hz1 hz2 rfl (by decide) v vs.length _ hown ⟨g, 0, none⟩ 1 1 [.slice A1 n1 c1, .slice A2 n2 c2, .int .i64 y, .slice A3 n3 c3] rfl (fd_cells hc) (by intro u hu; simp at hu; rcases hu with rfl | rfl | rfl | rfl <;> rfl) (by unfold maxLen; omega) (by omega) hbase
  unfold Oper.wp execOp
  simp only [ho, resolve, invoke, builtin, Sem.run_bind, Sem.run_pure, Result.andThen_ok, List.map_toArray, List.map_cons, List.map_nil, hs, hx, hr]
  refine h v' w' ?_ h3 h5
  unfold OwnFd
  rw [List.length_append, fdC_snoc]
  exact h2
theorem pushFd_step {ops : Array Oper} {o : Oper} {a : Act} {K : Act → World → Prop} {Q : Exit → Act → World → Prop} {E : Prop} (hgd : o.guard = none) (sl x : Operand)
    (ho : o.op = .call { callee := .builtin .append, args := #[sl, x], argTypes := #[35, 35] })
    (W : World) (base g : Nat) (v : Value) (vs : List (Value × Value × Int × Value)) (A1 A2 A3 : Option Addr) (n1 n2 n3 c1 c2 c3 : Nat) (y : Int) (hs : a.eval sl = v) (hx : a.eval x = .slice (some ⟨g, 0, none⟩) 1 1)
    (hown : OwnFd W base v vs) (hc : W.heap[g]? = some (.cells #[.slice A1 n1 c1, .slice A2 n2 c2, .int .i64 y, .slice A3 n3 c3] 91 (0, 0))) (hbase : base ≤ W.heap.size) (hl : vs.length ≤ 1000000)
    (h : ∀ v' w', OwnFd w' base v' (vs ++ [(.slice A1 n1 c1, .slice A2 n2 c2, y, .slice A3 n3 c3)]) → W.grownBy w' v.ownBlock → (v'.ownBlock = v.ownBlock ∨ v'.ownBlock = some W.heap.size) → K (a.put o.dst v') w') :
    if Region.wanted o (yielded ops a.tmps) = true then Oper.wp Tryz.prog o a W K Q else E := by
  have hw : Region.wanted o (yielded ops a.tmps) = true := by simp [Region.wanted, hgd]
  rw [if_pos hw]
  exact pushFd_wp sl x ho W base g v vs A1 A2 A3 n1 n2 n3 c1 c2 c3 y hs hx hown hc hbase hl h
/-- A function in memory: what its four cells hold. -/
def FnV (W : World) (sizes : List Nat) (sv zv lv : Value) (f : FunM) : Prop :=
  (∃ A c, sv = .slice A f.scope.length c ∧ f.scope.length ≤ c ∧ I6 W A f.scope) ∧ (∃ A c, zv = .slice A f.scope.length c ∧ f.scope.length ≤ c ∧ I6 W A (pickN sizes f.scope)) ∧ ∃ A c, lv = .slice A f.lines.length c ∧ f.lines.length ≤ c ∧ LnV W A f.lines
theorem FnV.keep {W W' : World} {sizes : List Nat} {sv zv lv : Value} {f : FunM} (h : FnV W sizes sv zv lv f) (hk : KeepD W W') : FnV W' sizes sv zv lv f := by
  obtain ⟨⟨A, c, h1, h0, h2⟩, ⟨A2, c2, h5, h6, h7⟩, A', c', h3, h8, h4⟩ := h
  exact ⟨⟨A, c, h1, h0, h2.keep hk⟩, ⟨A2, c2, h5, h6, h7.keep hk⟩, A', c', h3, h8, h4.keep hk⟩
def FdIs (W : World) (sizes : List Nat) (vs : List (Value × Value × Int × Value)) (fs : List FunM) : Prop :=
  vs.length = fs.length ∧ ∀ (i : Nat) (f : FunM), fs[i]? = some f → ∃ sv zv lv, vs[i]? = some (sv, zv, f.other, lv) ∧ FnV W sizes sv zv lv f
theorem fdIs_nil (W : World) (sizes : List Nat) : FdIs W sizes [] [] := ⟨rfl, fun i x h => by simp at h⟩
theorem FdIs.keep {W W' : World} {sizes : List Nat} {vs : List (Value × Value × Int × Value)} {fs : List FunM} (h : FdIs W sizes vs fs) (hk : KeepD W W') : FdIs W' sizes vs fs :=
  ⟨h.1, fun i x hx => by obtain ⟨sv, zv, lv, h1, h2⟩ := h.2 i x hx; exact ⟨sv, zv, lv, h1, h2.keep hk⟩⟩
theorem FdIs.snoc {W : World} {sizes : List Nat} {vs : List (Value × Value × Int × Value)} {fs : List FunM} (h : FdIs W sizes vs fs) {sv zv lv : Value} {f : FunM} (hx : FnV W sizes sv zv lv f) : FdIs W sizes (vs ++ [(sv, zv, f.other, lv)]) (fs ++ [f]) := by
  refine ⟨by simp [h.1], fun i y hy => ?_⟩
  by_cases hi : i < fs.length
  · rw [List.getElem?_append_left hi] at hy
    obtain ⟨sv', zv', lv', h1, h2⟩ := h.2 i y hy
    exact ⟨sv', zv', lv', by rw [List.getElem?_append_left (by rw [h.1]; exact hi)]; exact h1, h2⟩
  · have hi' : i = fs.length := by have := (List.getElem?_eq_some_iff.1 hy).1; simp at this; omega
    subst hi'
    simp at hy
    subst hy
    exact ⟨sv, zv, lv, by rw [← h.1]; simp, hx⟩
end Go.Proofs.YteocbgcgfllieaaGreatDoor
