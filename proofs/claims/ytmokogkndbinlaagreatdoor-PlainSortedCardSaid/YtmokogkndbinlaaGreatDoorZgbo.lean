import Derived.Test.YtmokogkndbinlaaGreatDoorZgbn
set_option linter.all false
namespace Go.Proofs.YtmokogkndbinlaaGreatDoor
open Go.Lib (hid)
open Go.RowKit
def Own6 (W : World) (base : Nat) (v : Value) (l : List Nat) : Prop := W.ownsRow base 2 1 v l.length (intC l)
theorem own6_nil (W : World) (base : Nat) : Own6 W base (.slice none 0 0) [] := World.ownsRow_nil W base 2 1
theorem Own6.lt {w : World} {base : Nat} {v : Value} {l : List Nat} (h : Own6 w base v l) : ∀ k, v.ownBlock = some k → base ≤ k ∧ k < w.heap.size := World.ownsRow.lt h
theorem Own6.grown {w w' : World} {base : Nat} {v : Value} {l : List Nat} {row : Option Nat} (h : Own6 w base v l) (hg : w.grownBy w' row) (hne : v.ownBlock = none ∨ v.ownBlock ≠ row) : Own6 w' base v l := World.ownsRow.kept h hg hne
theorem Own6.keepB {w w' : World} {base : Nat} {v : Value} {l : List Nat} (h : Own6 w base v l) (hk : ∀ g, v.ownBlock = some g → g < w.heap.size → base ≤ g → w'.heap[g]? = w.heap[g]?) : Own6 w' base v l := by
 obtain ⟨h1, ⟨rfl, hn⟩ | ⟨g, cap, cur, rfl, hb', hh, hm, hx, hs, ht⟩⟩ := h
 ·exact ⟨h1, .inl ⟨rfl, hn⟩⟩
 exact ⟨h1, .inr ⟨g, cap, cur, rfl, hb', (hk g rfl (Array.getElem?_eq_some_iff.1 hh).1 hb').trans hh, hm, hx, hs, ht⟩⟩
theorem Own6.obj {W : World} {base : Nat} {v : Value} {l : List Nat} (h : Own6 W base v l) : ∀ g, v.ownBlock = some g → base ≤ g ∧ g < W.heap.size ∧ ∃ cur, W.heap[g]? = some (.cells cur 2 (0, 0)) := by
 intro g hg
 obtain ⟨_, ⟨rfl, hn⟩ | ⟨g', cap, cur, rfl, hb, hh, _⟩⟩ := h
 ·simp [Value.ownBlock] at hg
 simp [Value.ownBlock] at hg
 subst hg
 exact ⟨hb, (Array.getElem?_eq_some_iff.1 hh).1, cur, hh⟩
def I6 (W : World) (A : Option Addr) (l : List Nat) : Prop :=
 l = [] ∨ ∃ g o cur fr, A = some ⟨g, o, none⟩ ∧ W.heap[g]? = some (.cells cur 2 fr) ∧ ∀ i, i < l.length → W.cell? ⟨g, o + i, none⟩ = some (.int .i64 (nth l i : Int))
theorem I6.keepG {W W' : World} {A : Option Addr} {l : List Nat} (h : I6 W A l) (hk : ∀ (g : Nat) (cur : Array Value) (fr : Nat × Nat), W.heap[g]? = some (.cells cur 2 fr) → W'.heap[g]? = W.heap[g]?) : I6 W' A l := by
 rcases h with rfl | ⟨g, o, cur, fr, rfl, hg, hc⟩
 ·exact .inl rfl
 have e := hk g cur fr hg
 exact .inr ⟨g, o, cur, fr, rfl, e.trans hg, fun i hi => (World.cell?_of_block (a := ⟨g, o + i, none⟩) e).trans (hc i hi)⟩
theorem I6.keep {W W' : World} {A : Option Addr} {l : List Nat} (h : I6 W A l) (hk : KeepD W W') : I6 W' A l := h.keepG hk.ints
theorem I6.at_ {W : World} {A : Option Addr} {l : List Nat} (h : I6 W A l) {i : Nat} (hi : i < l.length) : ∃ g o, A = some ⟨g, o, none⟩ ∧ W.cell? ⟨g, o + i, none⟩ = some (.int .i64 (nth l i : Int)) := by
 rcases h with rfl | ⟨g, o, cur, fr, rfl, hg, hc⟩
 ·exact absurd hi (by simp)
 exact ⟨g, o, rfl, hc i hi⟩
theorem I6.lt {W : World} {g o : Nat} {l : List Nat} (h : I6 W (some ⟨g, o, none⟩) l) (hl : 0 < l.length) : g < W.heap.size := by
 rcases h with rfl | ⟨g', o', cur, fr, e, hg, hc⟩
 ·exact absurd hl (by simp)
 injection e with e
 injection e with e1 e2
 subst e1
 exact (Array.getElem?_eq_some_iff.1 hg).1
theorem Own6.form {W : World} {base : Nat} {v : Value} {l : List Nat} (h : Own6 W base v l) : ∃ A c, v = .slice A l.length c ∧ l.length ≤ c ∧ I6 W A l := by
 have h' := h
 obtain ⟨k1, ⟨rfl, hn⟩ | ⟨g, cap, cur, rfl, hb', hh, hm, hx, hs, ht⟩⟩ := h
 ·have : l = [] := List.eq_nil_of_length_eq_zero hn
  subst this
  exact ⟨none, 0, rfl, Nat.le_refl _, .inl rfl⟩
 refine ⟨_, cap, rfl, hm, .inr ⟨g, 0, cur, (0, 0), rfl, hh, fun i hi => ?_⟩⟩
 have c1 := World.ownsRow.cellAt (h' : W.ownsRow base 2 1 _ l.length _) i (by omega)
 simp only [Nat.zero_add]
 refine c1.trans ?_
 simp [intC, nth, List.getD, hi]
theorem info_i6 : (Tryz.prog.info? 2).map (fun i => (i.zero, i.size, i.bytes)) = some (some (.int .i64 0), 1, 8) := by kernel_rfl
set_option maxRecDepth 100000 in
theorem push6_wp {o : Oper} {a : Act} {K : Act → World → Prop} {Q : Exit → Act → World → Prop} (s x : Operand)
  (ho : o.op = .call { callee := .builtin .append, args := #[s, x], argTypes := #[34, 34] })
  (W : World) (base y : Nat) (v : Value) (l : List Nat) (ad : Addr) (hs : a.eval s = v) (hx : a.eval x = .slice (some ad) 1 1)
  (hown : Own6 W base v l) (hy : W.cell? (ad.add 0) = some (.int .i64 (y : Int))) (hbase : base ≤ W.heap.size) (hl : l.length ≤ 1000000)
  (h : ∀ v' w', Own6 w' base v' (l ++ [y]) → W.grownBy w' v.ownBlock → (v'.ownBlock = v.ownBlock ∨ v'.ownBlock = some W.heap.size) → K (a.put o.dst v') w') :
  o.wp Tryz.prog a W K Q := by
 obtain ⟨i0, hi, hz0, hz1, hz2⟩ := info_parts info_i6
 obtain ⟨v', w', hr, h2, h3, h4, h5⟩ := run_append_own_at (P := Tryz.prog) W base 34 o.type 2 i0 (.int .i64 0) 1 8 Tryz.underlying34 hi hz0 hz1 hz2 rfl (by decide) v l.length _ hown ad 1 1 [.int .i64 (y : Int)] rfl (by
  intro j u hj
  rcases j with _ | j
  ·simp at hj; subst hj; exact hy
  ·simp at hj) (by intro u hu; simp at hu; subst hu; rfl) (by unfold maxLen; omega) (by omega) hbase
 unfold Oper.wp execOp
 simp only [ho, resolve, invoke, builtin, Sem.run_bind, Sem.run_pure, Result.andThen_ok, List.map_toArray, List.map_cons, List.map_nil, hs, hx, hr]
 refine h v' w' ?_ h3 h5
 unfold Own6
 rw [List.length_append, intC, List.map_append]
 exact h2
theorem push6 {ops : Array Oper} {rest : List Oper} {o : Oper} {a : Act} {Q : Exit → Act → World → Prop} (hgd : o.guard = none) (s x : Operand)
  (ho : o.op = .call { callee := .builtin .append, args := #[s, x], argTypes := #[34, 34] })
  (W : World) (base y : Nat) (v : Value) (l : List Nat) (ad : Addr) (hs : a.eval s = v) (hx : a.eval x = .slice (some ad) 1 1)
  (hown : Own6 W base v l) (hy : W.cell? (ad.add 0) = some (.int .i64 (y : Int))) (hbase : base ≤ W.heap.size) (hl : l.length ≤ 1000000)
  (h : ∀ v' w', Own6 w' base v' (l ++ [y]) → W.grownBy w' v.ownBlock → (v'.ownBlock = v.ownBlock ∨ v'.ownBlock = some W.heap.size) → wpList Tryz.prog ops Q rest (a.put o.dst v') w') :
  wpList Tryz.prog ops Q (o :: rest) a W :=
 wpList_plain hgd fun _ hK => push6_wp s x ho W base y v l ad hs hx hown hy hbase hl fun v' w' h1 h2 h3 => hK _ _ (h v' w' h1 h2 h3)
theorem push6_step {ops : Array Oper} {o : Oper} {a : Act} {K : Act → World → Prop} {Q : Exit → Act → World → Prop} {E : Prop} (hgd : o.guard = none) (s x : Operand)
  (ho : o.op = .call { callee := .builtin .append, args := #[s, x], argTypes := #[34, 34] })
  (W : World) (base y : Nat) (v : Value) (l : List Nat) (ad : Addr) (hs : a.eval s = v) (hx : a.eval x = .slice (some ad) 1 1)
  (hown : Own6 W base v l) (hy : W.cell? (ad.add 0) = some (.int .i64 (y : Int))) (hbase : base ≤ W.heap.size) (hl : l.length ≤ 1000000)
  (h : ∀ v' w', Own6 w' base v' (l ++ [y]) → W.grownBy w' v.ownBlock → (v'.ownBlock = v.ownBlock ∨ v'.ownBlock = some W.heap.size) → K (a.put o.dst v') w') :
  if Region.wanted o (yielded ops a.tmps) = true then Oper.wp Tryz.prog o a W K Q else E := by
 have hw : Region.wanted o (yielded ops a.tmps) = true := by simp [Region.wanted, hgd]
 rw [if_pos hw]
 exact push6_wp s x ho W base y v l ad hs hx hown hy hbase hl h
def OwnL6 (W : World) (base : Nat) (v : Value) (vs : List (Value × Int)) : Prop := W.ownsRow base 117 2 v vs.length (lnC vs)
theorem ownL6_nil (W : World) (base : Nat) : OwnL6 W base (.slice none 0 0) [] := World.ownsRow_nil W base 117 2
theorem OwnL6.obj {W : World} {base : Nat} {v : Value} {l : List (Value × Int)} (h : OwnL6 W base v l) : ∀ g, v.ownBlock = some g → base ≤ g ∧ g < W.heap.size ∧ ∃ cur, W.heap[g]? = some (.cells cur 117 (0, 0)) := by
 intro g hg
 obtain ⟨_, ⟨rfl, hn⟩ | ⟨g', cap, cur, rfl, hb, hh, _⟩⟩ := h
 ·simp [Value.ownBlock] at hg
 simp [Value.ownBlock] at hg
 subst hg
 exact ⟨hb, (Array.getElem?_eq_some_iff.1 hh).1, cur, hh⟩
theorem OwnL6.form {W : World} {base : Nat} {v : Value} {vs : List (Value × Int)} (h : OwnL6 W base v vs) : ∃ A c, v = .slice A vs.length c ∧ vs.length ≤ c := by
 obtain ⟨_, ⟨rfl, hn⟩ | ⟨g', cap, cur, rfl, hb, hh, hm, _⟩⟩ := h
 ·exact ⟨none, 0, by rw [hn], by omega⟩
 exact ⟨_, _, rfl, hm⟩
theorem info_l6 : (Tryz.prog.info? 117).map (fun i => (i.zero, i.size, i.bytes)) = some (some (.agg #[.slice none 0 0, .int .i64 0]), 2, 32) := by kernel_rfl
theorem two_cells {W : World} {t : TypeId} {x y : Value} {g : Nat} (h : W.heap[g]? = some (.cells #[x, y] t (0, 0))) : ∀ j u, ([x, y] : List Value)[j]? = some u → W.cell? ((⟨g, 0, none⟩ : Addr).add j) = some u := by
 intro j u hj
 rcases j with _ | _ | j
 ·simp at hj
  subst hj
  show W.cell? ⟨g, 0, none⟩ = _
  rw [cell_of_row _ _ _ _ _ _ h]
  rfl
 ·simp at hj
  subst hj
  show W.cell? ⟨g, 1, none⟩ = _
  rw [cell_of_row _ _ _ _ _ _ h]
  rfl
 simp at hj
theorem pushL6_wp {o : Oper} {a : Act} {K : Act → World → Prop} {Q : Exit → Act → World → Prop} (sl x : Operand)
  (ho : o.op = .call { callee := .builtin .append, args := #[sl, x], argTypes := #[38, 38] })
  (W : World) (base g : Nat) (v : Value) (vs : List (Value × Int)) (A : Option Addr) (n c : Nat) (y : Int) (hs : a.eval sl = v) (hx : a.eval x = .slice (some ⟨g, 0, none⟩) 1 1)
  (hown : OwnL6 W base v vs) (hc : W.heap[g]? = some (.cells #[.slice A n c, .int .i64 y] 117 (0, 0))) (hbase : base ≤ W.heap.size) (hl : vs.length ≤ 1000000)
  (h : ∀ v' w', OwnL6 w' base v' (vs ++ [(.slice A n c, y)]) → W.grownBy w' v.ownBlock → (v'.ownBlock = v.ownBlock ∨ v'.ownBlock = some W.heap.size) → K (a.put o.dst v') w') :
  o.wp Tryz.prog a W K Q := by
 obtain ⟨i0, hi, hz0, hz1, hz2⟩ := info_parts info_l6
 obtain ⟨v', w', hr, h2, h3, h4, h5⟩ := run_append_own_at (P := Tryz.prog) W base 38 o.type 117 i0 (.agg #[.slice none 0 0, .int .i64 0]) 2 32 Tryz.underlying38 hi hz0 hz1 hz2 rfl (by decide) v vs.length _ hown ⟨g, 0, none⟩ 1 1 [.slice A n c, .int .i64 y] rfl (two_cells hc) (by intro u hu; simp at hu; rcases hu with rfl | rfl <;> rfl) (by unfold maxLen; omega) (by omega) hbase
 unfold Oper.wp execOp
 simp only [ho, resolve, invoke, builtin, Sem.run_bind, Sem.run_pure, Result.andThen_ok, List.map_toArray, List.map_cons, List.map_nil, hs, hx, hr]
 refine h v' w' ?_ h3 h5
 unfold OwnL6
 rw [List.length_append, lnC_snoc]
 exact h2
theorem pushL6 {ops : Array Oper} {rest : List Oper} {o : Oper} {a : Act} {Q : Exit → Act → World → Prop} (hgd : o.guard = none) (sl x : Operand)
  (ho : o.op = .call { callee := .builtin .append, args := #[sl, x], argTypes := #[38, 38] })
  (W : World) (base g : Nat) (v : Value) (vs : List (Value × Int)) (A : Option Addr) (n c : Nat) (y : Int) (hs : a.eval sl = v) (hx : a.eval x = .slice (some ⟨g, 0, none⟩) 1 1)
  (hown : OwnL6 W base v vs) (hc : W.heap[g]? = some (.cells #[.slice A n c, .int .i64 y] 117 (0, 0))) (hbase : base ≤ W.heap.size) (hl : vs.length ≤ 1000000)
  (h : ∀ v' w', OwnL6 w' base v' (vs ++ [(.slice A n c, y)]) → W.grownBy w' v.ownBlock → (v'.ownBlock = v.ownBlock ∨ v'.ownBlock = some W.heap.size) → wpList Tryz.prog ops Q rest (a.put o.dst v') w') :
  wpList Tryz.prog ops Q (o :: rest) a W :=
 wpList_plain hgd fun _ hK => pushL6_wp sl x ho W base g v vs A n c y hs hx hown hc hbase hl fun v' w' h1 h2 h3 => hK _ _ (h v' w' h1 h2 h3)
def LnD (W : World) (vs : List (Value × Int)) (ls : List LineM) : Prop :=
 vs.length = ls.length ∧ ∀ (i : Nat) (x : LineM), ls[i]? = some x → ∃ (At : Option Addr) (ct : Nat), vs[i]? = some (Value.slice At x.1.length ct, x.2) ∧ I6 W At x.1
theorem lnD_nil (W : World) : LnD W [] [] := ⟨rfl, fun i x h => by simp at h⟩
theorem LnD.keepG {W W' : World} {vs : List (Value × Int)} {ls : List LineM} (h : LnD W vs ls) (hk : ∀ (g : Nat) (cur : Array Value) (fr : Nat × Nat), W.heap[g]? = some (.cells cur 2 fr) → W'.heap[g]? = W.heap[g]?) : LnD W' vs ls :=
 ⟨h.1, fun i x hx => by obtain ⟨At, ct, h1, h2⟩ := h.2 i x hx; exact ⟨At, ct, h1, h2.keepG hk⟩⟩
theorem LnD.snoc {W : World} {vs : List (Value × Int)} {ls : List LineM} (h : LnD W vs ls) {At : Option Addr} {ct : Nat} {x : LineM} (hx : I6 W At x.1) : LnD W (vs ++ [(.slice At x.1.length ct, x.2)]) (ls ++ [x]) := by
 refine ⟨by simp [h.1], fun i y hy => ?_⟩
 by_cases hi : i < ls.length
 ·rw [List.getElem?_append_left hi] at hy
  obtain ⟨A', c', h1, h2⟩ := h.2 i y hy
  exact ⟨A', c', by rw [List.getElem?_append_left (by rw [h.1]; exact hi)]; exact h1, h2⟩
 have hi' : i = ls.length := by have := (List.getElem?_eq_some_iff.1 hy).1; simp at this; omega
 subst hi'
 simp at hy
 subst hy
 exact ⟨At, ct, by rw [← h.1]; simp, hx⟩
def LnV (W : World) (A : Option Addr) (ls : List LineM) : Prop :=
 ls = [] ∨ ∃ g o cur fr, A = some ⟨g, o, none⟩ ∧ W.heap[g]? = some (.cells cur 117 fr) ∧ ∀ i x, ls[i]? = some x → W.cell? ⟨g, o + i * 2 + 1, none⟩ = some (.int .i64 x.2) ∧ ∃ At ct, W.cell? ⟨g, o + i * 2, none⟩ = some (.slice At x.1.length ct) ∧ I6 W At x.1
theorem LnV.keep {W W' : World} {A : Option Addr} {ls : List LineM} (h : LnV W A ls) (hk : KeepD W W') : LnV W' A ls := by
 rcases h with rfl | ⟨g, o, cur, fr, rfl, hg, hc⟩
 ·exact .inl rfl
 have e := hk.line g cur fr hg
 refine .inr ⟨g, o, cur, fr, rfl, e.trans hg, fun i x hx => ?_⟩
 obtain ⟨k1, At, ct, k2, k3⟩ := hc i x hx
 exact ⟨(World.cell?_of_block e).trans k1, At, ct, (World.cell?_of_block e).trans k2, k3.keep hk⟩
theorem OwnL6.view {W : World} {base : Nat} {v : Value} {vs : List (Value × Int)} {ls : List LineM} (h : OwnL6 W base v vs) (hl : LnD W vs ls) : ∃ A c, v = .slice A ls.length c ∧ ls.length ≤ c ∧ LnV W A ls := by
 have h' := h
 obtain ⟨k1, ⟨rfl, hn⟩ | ⟨g, cap, cur, rfl, hb', hh, hm, hx, hs, ht⟩⟩ := h
 ·have : ls = [] := List.eq_nil_of_length_eq_zero (by rw [← hl.1]; exact hn)
  subst this
  exact ⟨none, 0, rfl, Nat.le_refl _, .inl rfl⟩
 refine ⟨_, cap, by rw [hl.1], by rw [← hl.1]; exact hm, .inr ⟨g, 0, cur, (0, 0), rfl, hh, fun i x hx => ?_⟩⟩
 obtain ⟨At, ct, e1, e2⟩ := hl.2 i x hx
 obtain ⟨a1, a2⟩ := lnC_at vs i _ e1
 have hi : i < vs.length := (List.getElem?_eq_some_iff.1 e1).1
 have c1 := World.ownsRow.cellAt (h' : W.ownsRow base 117 2 _ vs.length _) (i * 2) (by omega)
 have c2 := World.ownsRow.cellAt (h' : W.ownsRow base 117 2 _ vs.length _) (i * 2 + 1) (by omega)
 simp only [Nat.zero_add]
 exact ⟨c2.trans a2, At, ct, c1.trans a1, e2⟩
def fdC (vs : List (Value × Value × Int × Value)) : List Value := vs.flatMap fun x => [x.1, x.2.1, .int .i64 x.2.2.1, x.2.2.2]
theorem fdC_snoc (vs : List (Value × Value × Int × Value)) (x : Value × Value × Int × Value) : fdC (vs ++ [x]) = fdC vs ++ [x.1, x.2.1, .int .i64 x.2.2.1, x.2.2.2] := by simp [fdC, List.flatMap_append]
theorem fdC_at : ∀ (vs : List (Value × Value × Int × Value)) (i : Nat) (x : Value × Value × Int × Value), vs[i]? = some x → (fdC vs)[i * 4]? = some x.1 ∧ (fdC vs)[i * 4 + 1]? = some x.2.1 ∧ (fdC vs)[i * 4 + 2]? = some (.int .i64 x.2.2.1) ∧ (fdC vs)[i * 4 + 3]? = some x.2.2.2
 | [], i, x, h => by simp at h
 | y :: r, 0, x, h => by
  simp at h
  subst h
  exact ⟨rfl, rfl, rfl, rfl⟩
 | y :: r, i + 1, x, h => by
  have := fdC_at r i x (by simpa using h)
  have e : fdC (y :: r) = y.1 :: y.2.1 :: .int .i64 y.2.2.1 :: y.2.2.2 :: fdC r := rfl
  rw [e, show (i + 1) * 4 = i * 4 + 1 + 1 + 1 + 1 by omega]
  exact this
def OwnFd (W : World) (base : Nat) (v : Value) (vs : List (Value × Value × Int × Value)) : Prop := W.ownsRow base 40 4 v vs.length (fdC vs)
theorem ownFd_nil (W : World) (base : Nat) : OwnFd W base (.slice none 0 0) [] := World.ownsRow_nil W base 40 4
theorem OwnFd.keepB {w w' : World} {base : Nat} {v : Value} {l : List (Value × Value × Int × Value)} (h : OwnFd w base v l) (hk : ∀ g, v.ownBlock = some g → g < w.heap.size → base ≤ g → w'.heap[g]? = w.heap[g]?) : OwnFd w' base v l := by
 obtain ⟨h1, ⟨rfl, hn⟩ | ⟨g, cap, cur, rfl, hb', hh, hm, hx, hs, ht⟩⟩ := h
 ·exact ⟨h1, .inl ⟨rfl, hn⟩⟩
 exact ⟨h1, .inr ⟨g, cap, cur, rfl, hb', (hk g rfl (Array.getElem?_eq_some_iff.1 hh).1 hb').trans hh, hm, hx, hs, ht⟩⟩
theorem OwnFd.obj {W : World} {base : Nat} {v : Value} {l : List (Value × Value × Int × Value)} (h : OwnFd W base v l) : ∀ g, v.ownBlock = some g → base ≤ g ∧ g < W.heap.size ∧ ∃ cur, W.heap[g]? = some (.cells cur 40 (0, 0)) := by
 intro g hg
 obtain ⟨_, ⟨rfl, hn⟩ | ⟨g', cap, cur, rfl, hb, hh, _⟩⟩ := h
 ·simp [Value.ownBlock] at hg
 simp [Value.ownBlock] at hg
 subst hg
 exact ⟨hb, (Array.getElem?_eq_some_iff.1 hh).1, cur, hh⟩
theorem OwnFd.form {W : World} {base : Nat} {v : Value} {vs : List (Value × Value × Int × Value)} (h : OwnFd W base v vs) : ∃ A c, v = .slice A vs.length c ∧ vs.length ≤ c := by
 obtain ⟨_, ⟨rfl, hn⟩ | ⟨g', cap, cur, rfl, hb, hh, hm, _⟩⟩ := h
 ·exact ⟨none, 0, by rw [hn], by omega⟩
 exact ⟨_, _, rfl, hm⟩
theorem info_fd : (Tryz.prog.info? 40).map (fun i => (i.zero, i.size, i.bytes)) = some (some (.agg #[.slice none 0 0, .slice none 0 0, .int .i64 0, .slice none 0 0]), 4, 80) := by kernel_rfl
theorem fd_cells {W : World} {y : Int} {sv zv lv : Value} {g : Nat} (h : W.heap[g]? = some (.cells #[sv, zv, .int .i64 y, lv] 40 (0, 0))) : ∀ j u, ([sv, zv, Value.int .i64 y, lv] : List Value)[j]? = some u → W.cell? ((⟨g, 0, none⟩ : Addr).add j) = some u := by
 intro j u hj
 rcases j with _ | _ | _ | _ | j
 ·simp at hj
  subst hj
  show W.cell? ⟨g, 0, none⟩ = _
  rw [cell_of_row _ _ _ _ _ _ h]
  rfl
 ·simp at hj
  subst hj
  show W.cell? ⟨g, 1, none⟩ = _
  rw [cell_of_row _ _ _ _ _ _ h]
  rfl
 ·simp at hj
  subst hj
  show W.cell? ⟨g, 2, none⟩ = _
  rw [cell_of_row _ _ _ _ _ _ h]
  rfl
 ·simp at hj
  subst hj
  show W.cell? ⟨g, 3, none⟩ = _
  rw [cell_of_row _ _ _ _ _ _ h]
  rfl
 simp at hj
theorem pushFd_wp {o : Oper} {a : Act} {K : Act → World → Prop} {Q : Exit → Act → World → Prop} (sl x : Operand)
  (ho : o.op = .call { callee := .builtin .append, args := #[sl, x], argTypes := #[35, 35] })
  (W : World) (base g : Nat) (v : Value) (vs : List (Value × Value × Int × Value)) (A1 A2 A3 : Option Addr) (n1 n2 n3 c1 c2 c3 : Nat) (y : Int) (hs : a.eval sl = v) (hx : a.eval x = .slice (some ⟨g, 0, none⟩) 1 1)
  (hown : OwnFd W base v vs) (hc : W.heap[g]? = some (.cells #[.slice A1 n1 c1, .slice A2 n2 c2, .int .i64 y, .slice A3 n3 c3] 40 (0, 0))) (hbase : base ≤ W.heap.size) (hl : vs.length ≤ 1000000)
  (h : ∀ v' w', OwnFd w' base v' (vs ++ [(.slice A1 n1 c1, .slice A2 n2 c2, y, .slice A3 n3 c3)]) → W.grownBy w' v.ownBlock → (v'.ownBlock = v.ownBlock ∨ v'.ownBlock = some W.heap.size) → K (a.put o.dst v') w') :
  o.wp Tryz.prog a W K Q := by
 obtain ⟨i0, hi, hz0, hz1, hz2⟩ := info_parts info_fd
 obtain ⟨v', w', hr, h2, h3, h4, h5⟩ := run_append_own_at (P := Tryz.prog) W base 35 o.type 40 i0 (.agg #[.slice none 0 0, .slice none 0 0, .int .i64 0, .slice none 0 0]) 4 80 Tryz.underlying35 hi hz0 hz1 hz2 rfl (by decide) v vs.length _ hown ⟨g, 0, none⟩ 1 1 [.slice A1 n1 c1, .slice A2 n2 c2, .int .i64 y, .slice A3 n3 c3] rfl (fd_cells hc) (by intro u hu; simp at hu; rcases hu with rfl | rfl | rfl | rfl <;> rfl) (by unfold maxLen; omega) (by omega) hbase
 unfold Oper.wp execOp
 simp only [ho, resolve, invoke, builtin, Sem.run_bind, Sem.run_pure, Result.andThen_ok, List.map_toArray, List.map_cons, List.map_nil, hs, hx, hr]
 refine h v' w' ?_ h3 h5
 unfold OwnFd
 rw [List.length_append, fdC_snoc]
 exact h2
theorem pushFd_step {ops : Array Oper} {o : Oper} {a : Act} {K : Act → World → Prop} {Q : Exit → Act → World → Prop} {E : Prop} (hgd : o.guard = none) (sl x : Operand)
  (ho : o.op = .call { callee := .builtin .append, args := #[sl, x], argTypes := #[35, 35] })
  (W : World) (base g : Nat) (v : Value) (vs : List (Value × Value × Int × Value)) (A1 A2 A3 : Option Addr) (n1 n2 n3 c1 c2 c3 : Nat) (y : Int) (hs : a.eval sl = v) (hx : a.eval x = .slice (some ⟨g, 0, none⟩) 1 1)
  (hown : OwnFd W base v vs) (hc : W.heap[g]? = some (.cells #[.slice A1 n1 c1, .slice A2 n2 c2, .int .i64 y, .slice A3 n3 c3] 40 (0, 0))) (hbase : base ≤ W.heap.size) (hl : vs.length ≤ 1000000)
  (h : ∀ v' w', OwnFd w' base v' (vs ++ [(.slice A1 n1 c1, .slice A2 n2 c2, y, .slice A3 n3 c3)]) → W.grownBy w' v.ownBlock → (v'.ownBlock = v.ownBlock ∨ v'.ownBlock = some W.heap.size) → K (a.put o.dst v') w') :
  if Region.wanted o (yielded ops a.tmps) = true then Oper.wp Tryz.prog o a W K Q else E := by
 have hw : Region.wanted o (yielded ops a.tmps) = true := by simp [Region.wanted, hgd]
 rw [if_pos hw]
 exact pushFd_wp sl x ho W base g v vs A1 A2 A3 n1 n2 n3 c1 c2 c3 y hs hx hown hc hbase hl h
def FnV (W : World) (sizes : List Nat) (sv zv lv : Value) (f : FunM) : Prop :=
 (∃ A c, sv = .slice A f.scope.length c ∧ f.scope.length ≤ c ∧ I6 W A f.scope) ∧ (∃ A c, zv = .slice A f.scope.length c ∧ f.scope.length ≤ c ∧ I6 W A (pickN sizes f.scope)) ∧ ∃ A c, lv = .slice A f.lines.length c ∧ f.lines.length ≤ c ∧ LnV W A f.lines
theorem FnV.keep {W W' : World} {sizes : List Nat} {sv zv lv : Value} {f : FunM} (h : FnV W sizes sv zv lv f) (hk : KeepD W W') : FnV W' sizes sv zv lv f := by
 obtain ⟨⟨A, c, h1, h0, h2⟩, ⟨A2, c2, h5, h6, h7⟩, A', c', h3, h8, h4⟩ := h
 exact ⟨⟨A, c, h1, h0, h2.keep hk⟩, ⟨A2, c2, h5, h6, h7.keep hk⟩, A', c', h3, h8, h4.keep hk⟩
def FdIs (W : World) (sizes : List Nat) (vs : List (Value × Value × Int × Value)) (fs : List FunM) : Prop :=
 vs.length = fs.length ∧ ∀ (i : Nat) (f : FunM), fs[i]? = some f → ∃ sv zv lv, vs[i]? = some (sv, zv, f.other, lv) ∧ FnV W sizes sv zv lv f
theorem fdIs_nil (W : World) (sizes : List Nat) : FdIs W sizes [] [] := ⟨rfl, fun i x h => by simp at h⟩
theorem FdIs.keep {W W' : World} {sizes : List Nat} {vs : List (Value × Value × Int × Value)} {fs : List FunM} (h : FdIs W sizes vs fs) (hk : KeepD W W') : FdIs W' sizes vs fs :=
 ⟨h.1, fun i x hx => by obtain ⟨sv, zv, lv, h1, h2⟩ := h.2 i x hx; exact ⟨sv, zv, lv, h1, h2.keep hk⟩⟩
theorem FdIs.snoc {W : World} {sizes : List Nat} {vs : List (Value × Value × Int × Value)} {fs : List FunM} (h : FdIs W sizes vs fs) {sv zv lv : Value} {f : FunM} (hx : FnV W sizes sv zv lv f) : FdIs W sizes (vs ++ [(sv, zv, f.other, lv)]) (fs ++ [f]) := by
 refine ⟨by simp [h.1], fun i y hy => ?_⟩
 by_cases hi : i < fs.length
 ·rw [List.getElem?_append_left hi] at hy
  obtain ⟨sv', zv', lv', h1, h2⟩ := h.2 i y hy
  exact ⟨sv', zv', lv', by rw [List.getElem?_append_left (by rw [h.1]; exact hi)]; exact h1, h2⟩
 have hi' : i = fs.length := by have := (List.getElem?_eq_some_iff.1 hy).1; simp at this; omega
 subst hi'
 simp at hy
 subst hy
 exact ⟨sv, zv, lv, by rw [← h.1]; simp, hx⟩
theorem wordsL_cases {l : List UInt8} {k : Nat} (hk : k ≤ l.length) : ((wordsL l k).1 = [] ∧ (stepW l k = .none ∧ (wordsL l k).2 = none ∨ ∃ t, stepW l k = .bad t ∧ (wordsL l k).2 = some t)) ∨ ∃ f t, stepW l k = .word f t ∧ (wordsL l k).1 = (f, t) :: (wordsL l t).1 ∧ (wordsL l k).2 = (wordsL l t).2 := by
 cases h : stepW l k with
 | none => exact .inl (by rw [wordsL_none h]; exact ⟨rfl, .inl ⟨rfl, rfl⟩⟩)
 | bad t => exact .inl (by rw [wordsL_bad h]; exact ⟨rfl, .inr ⟨t, rfl, rfl⟩⟩)
 | word f t => exact .inr ⟨f, t, rfl, by rw [wordsL_word hk h], by rw [wordsL_word hk h]⟩
def lenS : Value → Nat
 | .slice _ n _ => n
 | _ => 0
theorem wordsN_few {l : List UInt8} : ∀ (n k : Nat), k ≤ l.length → (wordsN n l k).1.length ≤ l.length - k
 | 0, k, _ => Nat.zero_le _
 | n + 1, k, hk => by
  unfold wordsN
  cases h : stepW l k with
  | none => exact Nat.zero_le _
  | bad t => exact Nat.zero_le _
  | word f t =>
   have h1 := stepW_word hk h
   have := wordsN_few n t h1.2.2.1
   simp only [List.length_cons]
   omega
theorem DrOk.lenS {W : World} {b : Nat} {s : ByteArray} {st : RdS} {v : DrV} (h : DrOk W b s st v) : lenS v.l = (wordsL s.data.toList st.k).1.length ∧ lenS v.l ≤ 100000 := by
 obtain ⟨A, c, e, _⟩ := h.words
 have h1 := wordsN_few (s.data.toList.length + 1) st.k (by rw [size_list]; exact h.le)
 have h2 := h.fits
 rw [size_list] at h1
 rw [e]
 refine ⟨rfl, ?_⟩
 show (wordsL s.data.toList st.k).1.length ≤ _
 unfold wordsL
 rw [size_list]
 omega
theorem numM_len {l : List UInt8} {lo hi : Int} {st st' : RdS} {n : Int × Nat} (hk : st.k ≤ l.length) (h : numM l lo hi st = .ok n st') : (wordsL l st.k).1.length = (wordsL l st'.k).1.length + 1 := by
 obtain ⟨t, h1, h2, _⟩ := numM_ok.1 h
 rw [wordsL_word hk h1, h2]
 rfl
theorem DrBad.keepAt {W W' : World} {b e p : Nat} {v v' : DrV} (h : DrBad W b e p v) (ha : DrAt W' b v') (h1 : v'.bad = v.bad) (h2 : v'.badAt = v.badAt) : DrBad W' b e p v' := ⟨ha, h1.trans h.fe, h2.trans h.fp, h.ne⟩
theorem DrOk.keepAt {W W' : World} {b : Nat} {s : ByteArray} {st : RdS} {v : DrV} (h : DrOk W b s st v) (ha : DrAt W' b v) (hk : KeepD W W') : DrOk W' b s st v := ⟨ha, h.fine, h.le, h.fits, h.big, h.words.keep hk, h.fin⟩
theorem num7_ok (b : Nat) (s : ByteArray) (st : RdS) (v : DrV) (lo hi : Int) (w : World) (h : DrOk w b s st v) :
  Calls Tryz.prog 113 #[.pointer (some ⟨b, 0, none⟩), .int .i64 lo, .int .i64 hi] w fun e' w' => ∃ n p v', e' = .returned (.tuple #[.int .i64 n, .int .i64 ((p : Nat) : Int)]) ∧ ((lo ≤ n ∧ n ≤ hi) ∨ (n = 0 ∧ ¬ v'.bad = 0)) ∧ Gr w w' b ∧ DrNear v v' ∧ NumD s b lo hi st v' n p w' := by
 have hle : st.k ≤ s.data.toList.length := by rw [size_list]; exact h.le
 rcases wordsL_cases hle with ⟨h1, h2⟩ | ⟨f, t, h1, h2, h3⟩
 ·have hw := h.words
  rw [h1] at hw
  have key := num7_still b ⟨#[]⟩ 0 lo hi { v with bad := v.ee, badAt := v.en } w h.at_.lt (by decide) (word7_none b s v w h.at_ h.fine hw)
  have hf := h.fin
  rcases h2 with ⟨h2, h3⟩ | ⟨t, h2, h3⟩
  ·rw [h3] at hf
   obtain ⟨e1, e2⟩ := hf
   refine (key (by show ¬ v.ee = 0; omega)).mono ?_
   rintro e' w' ⟨rfl, ha, hg⟩
   refine ⟨0, 0, { v with bad := v.ee, badAt := v.en }, rfl, .inr ⟨rfl, by show ¬ v.ee = 0; omega⟩, hg, ⟨rfl, rfl⟩, .inr ⟨4, s.size, ?_, ⟨ha, by show v.ee = _; omega, by show v.en = _; omega, by decide⟩, rfl⟩⟩
   unfold numM wordM
   rw [h2]
   simp only [RdR.bind_bad]
   rw [size_list]
  rw [h3] at hf
  obtain ⟨e1, e2⟩ := hf
  refine (key (by show ¬ v.ee = 0; omega)).mono ?_
  rintro e' w' ⟨rfl, ha, hg⟩
  refine ⟨0, 0, { v with bad := v.ee, badAt := v.en }, rfl, .inr ⟨rfl, by show ¬ v.ee = 0; omega⟩, hg, ⟨rfl, rfl⟩, .inr ⟨11, t, ?_, ⟨ha, by show v.ee = _; omega, by show v.en = _; omega, by decide⟩, rfl⟩⟩
  unfold numM wordM
  rw [h2]
  rfl
 have hw := h.words
 rw [h2] at hw
 have hsw := stepW_word hle h1
 have hsz : (s.extract f t).size ≤ 1000000 := by rw [ByteArray.size_extract]; have := h.fits; omega
 obtain ⟨lv, hwl, WD⟩ := word7_some b s v w (f, t) _ h.at_ h.fine hw
 have hnum : numM s.data.toList lo hi st = if readE (subL s.data.toList f t) = 0 ∧ lo ≤ readV (subL s.data.toList f t) ∧ readV (subL s.data.toList f t) ≤ hi then .ok (readV (subL s.data.toList f t), f) ⟨t, st.big⟩ else .bad 4 f := by
  unfold numM wordM
  rw [h1]
  rfl
 rw [← extract_sub] at hnum
 by_cases hc : readE (s.extract f t).data.toList = 0 ∧ lo ≤ readV (s.extract f t).data.toList ∧ readV (s.extract f t).data.toList ≤ hi
 ·rw [if_pos hc] at hnum
  refine (num7_good b (s.extract f t) f lo hi { v with l := lv } w h.at_.lt hsz (fun _ => True) (fun _ _ _ _ _ => trivial) (WD.mono fun e' w' hh => ⟨hh.1, hh.2.1, hh.2.2, trivial⟩) h.fine hc.1 hc.2.1 hc.2.2).mono ?_
  rintro e' w' ⟨rfl, ha, hg, -⟩
  refine ⟨_, f, { v with l := lv }, rfl, .inl hc.2, hg, ⟨rfl, rfl⟩, .inl ⟨_, hnum, ⟨ha, h.fine, by show t ≤ s.size; rw [← size_list]; exact hsw.2.2.1, h.fits, h.big, hwl.keep (KeepD.dr h.at_ hg), ?_⟩⟩⟩
  have := h.fin
  rw [h3] at this
  exact this
 rw [if_neg hc] at hnum
 refine (num7_bad b (s.extract f t) f lo hi { v with l := lv } w h.at_.lt hsz WD h.fine hc).mono ?_
 rintro e' w' ⟨rfl, ha, hg⟩
 exact ⟨0, 0, { v with l := lv, bad := 4, badAt := (f : Int) }, rfl, .inr ⟨rfl, by show ¬ (4 : Int) = 0; decide⟩, hg, ⟨rfl, rfl⟩, .inr ⟨4, f, hnum, ⟨ha, rfl, rfl, by decide⟩, rfl⟩⟩
theorem num7_done (b e p : Nat) (v : DrV) (lo hi : Int) (w : World) (h : DrBad w b e p v) :
  Calls Tryz.prog 113 #[.pointer (some ⟨b, 0, none⟩), .int .i64 lo, .int .i64 hi] w fun e' w' => e' = .returned (.tuple #[.int .i64 0, .int .i64 0]) ∧ DrAt w' b v ∧ Gr w w' b := by
 refine num7_still b ⟨#[]⟩ 0 lo hi v w h.at_.lt (by decide) ((word7_still b e p v w h).mono ?_) h.bad
 rintro e' w' ⟨rfl, hb⟩
 exact ⟨rfl, (hb.block b h.at_.lt).trans h.at_, Gr.below hb⟩
def DrIn {β : Type} (W : World) (b : Nat) (s : ByteArray) (v v' : DrV) (E : RdR β) (C : RdS → RdR β) : Prop :=
 DrNear v v' ∧ ((∃ st, DrOk W b s st v' ∧ E = C st) ∨ ∃ e p, DrBad W b e p v' ∧ E = .bad e p)
theorem DrIn.conv {β : Type} {W : World} {b : Nat} {s : ByteArray} {v v' : DrV} {E : RdR β} {C C' : RdS → RdR β} (h : DrIn W b s v v' E C) (hC : ∀ st, C st = C' st) : DrIn W b s v v' E C' := by
 rwa [show C = C' from funext hC] at h
theorem DrIn.at_ {β : Type} {W : World} {b : Nat} {s : ByteArray} {v v' : DrV} {E : RdR β} {C : RdS → RdR β} (h : DrIn W b s v v' E C) : DrAt W b v' := by
 rcases h.2 with ⟨st, h, _⟩ | ⟨e, p, h, _⟩
 ·exact h.at_
 exact h.at_
theorem DrIn.keep {β : Type} {W W' : World} {b : Nat} {s : ByteArray} {v v' : DrV} {E : RdR β} {C : RdS → RdR β} (h : DrIn W b s v v' E C) (hb : W'.heap[b]? = W.heap[b]?) (hk : ∀ (g : Nat) (cur : Array Value) (fr : Nat × Nat), W.heap[g]? = some (.cells cur 173 fr) → W'.heap[g]? = W.heap[g]?) : DrIn W' b s v v' E C := by
 refine ⟨h.1, ?_⟩
 rcases h.2 with ⟨st, h, hE⟩ | ⟨e, p, h, hE⟩
 rotate_left
 ·exact .inr ⟨e, p, ⟨hb.trans h.at_, h.fe, h.fp, h.ne⟩, hE⟩
 refine .inl ⟨st, ⟨hb.trans h.at_, h.fine, h.le, h.fits, h.big, ?_, h.fin⟩, hE⟩
 obtain ⟨A, c, e, hc, hh⟩ := h.words
 refine ⟨A, c, e, hc, ?_⟩
 rcases hh with hh | ⟨g, o, cur, fr, e2, h1, h2, h3⟩
 ·exact .inl hh
 have := hk g cur fr h1
 exact .inr ⟨g, o, cur, fr, e2, this.trans h1, h2, fun j x hx => ⟨(World.cell?_of_block (a := ⟨g, o + j * 2, none⟩) this).trans (h3 j x hx).1, (World.cell?_of_block (a := ⟨g, o + j * 2 + 1, none⟩) this).trans (h3 j x hx).2⟩⟩
theorem DrIn.below {β : Type} {W W' : World} {b : Nat} {s : ByteArray} {v v' : DrV} {E : RdR β} {C : RdS → RdR β} (h : DrIn W b s v v' E C) (hb : Below W.heap.size W W') : DrIn W' b s v v' E C :=
 h.keep (hb.block b h.at_.lt) fun g cur fr hg => hb.block g (Array.getElem?_eq_some_iff.1 hg).1
theorem DrIn.typed {β : Type} {W W' : World} {b : Nat} {s : ByteArray} {v v' : DrV} {E : RdR β} {C : RdS → RdR β} {p : Option Nat} {t : TypeId} (h : DrIn W b s v v' E C) (hg : W.grownBy W' p) (hp : ∀ g, p = some g → ∃ cur fr, W.heap[g]? = some (.cells cur t fr)) (h1 : t ≠ 173) (h2 : t ≠ 171) : DrIn W' b s v v' E C := by
 have key : ∀ (g : Nat) (cur : Array Value) (t' : TypeId) (fr : Nat × Nat), t ≠ t' → W.heap[g]? = some (.cells cur t' fr) → W'.heap[g]? = W.heap[g]? := fun g cur t' fr hne h => by
  refine hg.block g (Array.getElem?_eq_some_iff.1 h).1 (fun e => ?_)
  obtain ⟨cur', fr', h3⟩ := hp g e.symm
  rw [h] at h3
  injection h3 with h3
  injection h3 with _ h4
  exact hne h4.symm
 exact h.keep (key b _ _ _ h2 h.at_) fun g cur fr hg => key g cur _ fr h1 hg
theorem num7 {β : Type} {W : World} {b : Nat} {s : ByteArray} {v v' : DrV} {E : RdR β} {lo hi : Int} {C : Int × Nat → RdS → RdR β} (h : DrIn W b s v v' E (fun st => (numM s.data.toList lo hi st).bind C)) :
  Calls Tryz.prog 113 #[.pointer (some ⟨b, 0, none⟩), .int .i64 lo, .int .i64 hi] W fun e w' => ∃ n p v'', e = .returned (.tuple #[.int .i64 n, .int .i64 ((p : Nat) : Int)]) ∧ ((lo ≤ n ∧ n ≤ hi) ∨ (n = 0 ∧ ¬ v''.bad = 0)) ∧ (¬ v''.bad = 0 → n = 0) ∧ (¬ v'.bad = 0 → ¬ v''.bad = 0) ∧ (v''.bad = 0 → lenS v''.l + 1 = lenS v'.l) ∧ Gr W w' b ∧ DrIn w' b s v v'' E (C (n, p)) := by
 obtain ⟨hn, ⟨st, ho, hE⟩ | ⟨e, p, hb, hE⟩⟩ := h
 ·dsimp only at hE
  refine (num7_ok b s st v' lo hi W ho).mono ?_
  rintro e w' ⟨n, p, v'', rfl, h1, hg, hr, ⟨st', h2, h3⟩ | ⟨e', q, h2, h3, h4⟩⟩
  ·exact ⟨n, p, v'', rfl, h1, fun h => absurd h3.fine h, fun h => absurd ho.fine h, fun _ => by rw [h3.lenS.1, ho.lenS.1, numM_len (by rw [size_list]; exact ho.le) h2], hg, hn.trans hr, .inl ⟨st', h3, by rw [hE, h2]; rfl⟩⟩
  exact ⟨n, p, v'', rfl, h1, fun _ => h4, fun h => absurd ho.fine h, fun h => absurd h h3.bad, hg, hn.trans hr, .inr ⟨e', q, h3, by rw [hE, h2]; rfl⟩⟩
 refine (num7_done b e p v' lo hi W hb).mono ?_
 rintro e' w' ⟨rfl, ha, hg⟩
 exact ⟨0, 0, v', rfl, .inr ⟨rfl, hb.bad⟩, fun _ => rfl, fun h => h, fun h => absurd h hb.bad, hg, hn, .inr ⟨e, p, ⟨ha, hb.fe, hb.fp, hb.ne⟩, hE⟩⟩
theorem BigD.lg {v : DrV} {st : RdS} (h : BigD v st.big) (hf : v.bad = 0) (is : Bool) (p : Nat) : BigD (lgV is (p : Int) v) (limS is p st).big := by
 unfold lgV limS
 cases hb : st.big with
 | none =>
  rw [hb] at h
  cases is with
  | false => simpa [hb] using h
  | true =>
   rw [if_pos ⟨rfl, h, hf⟩]
   simp [BigD]
 | some q =>
  rw [hb] at h
  have h1 : ¬ v.big = 0 := by have := h.1; omega
  rw [if_neg (by simp [h1])]
  simp [hb]
  exact h
theorem lgV_same (is : Bool) (p : Int) (v : DrV) : (lgV is p v).l = v.l ∧ (lgV is p v).bad = v.bad ∧ (lgV is p v).badAt = v.badAt ∧ (lgV is p v).en = v.en ∧ (lgV is p v).ee = v.ee := by
 unfold lgV; split <;> exact ⟨rfl, rfl, rfl, rfl, rfl⟩
theorem lim7 {β : Type} {W : World} {b : Nat} {s : ByteArray} {v v' : DrV} {E : RdR β} {is : Bool} {p : Nat} {C : RdS → RdR β} (h : DrIn W b s v v' E (fun st => C (limS is p st))) :
  Calls Tryz.prog 112 #[.pointer (some ⟨b, 0, none⟩), .bool is, .int .i64 (p : Int)] W fun e w' => ∃ v'', (∃ u, e = .returned u) ∧ Gr W w' b ∧ (v''.bad = v'.bad ∧ v''.l = v'.l) ∧ DrIn w' b s v v'' E C := by
 refine (large7 b is p v' W h.at_).mono ?_
 rintro e w' ⟨hu, ha, hg⟩
 obtain ⟨k1, k2, k3, k4, k5⟩ := lgV_same is p v'
 refine ⟨_, hu, hg, ⟨k2, k1⟩, h.1.trans (DrNear.lg _ _ _), ?_⟩
 rcases h.2 with ⟨st, ho, hE⟩ | ⟨e, q, hb, hE⟩
 rotate_left
 ·exact .inr ⟨e, q, hb.keepAt ha k2 k3, hE⟩
 refine .inl ⟨_, ⟨ha, k2.trans ho.fine, by rw [limS_k]; exact ho.le, ho.fits, ho.big.lg ho.fine is p, ?_, ?_⟩, hE⟩
 ·rw [k1, limS_k]
  exact ho.words.keep (KeepD.dr ho.at_ hg)
 rw [limS_k]
 have := ho.fin
 unfold EndD at this ⊢
 rw [k4, k5]
 exact this
theorem bad7 {β : Type} {W : World} {b : Nat} {s : ByteArray} {v v' : DrV} {E : RdR β} {e p : Nat} (hne : e ≠ 0) (h : DrIn W b s v v' E (fun st => .bad e p)) :
  Calls Tryz.prog 115 #[.pointer (some ⟨b, 0, none⟩), .int .i64 (e : Int), .int .i64 (p : Int)] W fun e' w' => ∃ v'' e'' p'', (∃ u, e' = .returned u) ∧ Gr W w' b ∧ DrNear v v'' ∧ DrBad w' b e'' p'' v'' ∧ E = .bad e'' p'' := by
 refine (wrong7 b e p v' W h.at_).mono ?_
 rintro e' w' ⟨hu, ha, hg⟩
 rcases h.2 with ⟨st, ho, hE⟩ | ⟨e1, q, hb, hE⟩
 ·rw [wrV_fine ho.fine] at ha
  exact ⟨{ v' with bad := (e : Int), badAt := (p : Int) }, e, p, hu, hg, h.1.trans ⟨rfl, rfl⟩, ⟨ha, rfl, rfl, hne⟩, hE⟩
 rw [wrV_bad hb.bad] at ha
 exact ⟨_, e1, q, hu, hg, h.1, hb.keepAt ha rfl rfl, hE⟩
end Go.Proofs.YtmokogkndbinlaaGreatDoor
