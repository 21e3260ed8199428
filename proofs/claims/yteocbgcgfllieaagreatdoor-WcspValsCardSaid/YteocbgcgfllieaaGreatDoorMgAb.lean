/- Texts of this seat laid together (no statement of its own). -/
import Derived.Test.YteocbgcgfllieaaGreatDoorMgAa
import Derived.Maps.AppendAt
namespace Go.Proofs.YteocbgcgfllieaaGreatDoor
open Go.RowKit
set_option linter.unusedVariables false
def L2B (l : List UInt8) : ByteArray := ⟨l.toArray⟩
theorem L2B_list (l : List UInt8) : (L2B l).data.toList = l := rfl
theorem L2B_size (l : List UInt8) : (L2B l).size = l.length := by rw [← size_list, L2B_list]
theorem L2B_app (l m : List UInt8) : L2B l ++ L2B m = L2B (l ++ m) := by
  apply ByteArray.ext
  apply Array.toList_inj.1
  rw [app_list, L2B_list, L2B_list, L2B_list]
theorem L2B_of (s : ByteArray) : L2B s.data.toList = s := by
  apply ByteArray.ext
  apply Array.toList_inj.1
  rfl
/-- Two values have no block in common. -/
def Sep (v u : Value) : Prop := ∀ g, v.ownBlock = some g → u.ownBlock ≠ some g
theorem Sep.symm {v u : Value} (h : Sep v u) : Sep u v := fun g h1 h2 => h g h2 h1
theorem row_obj {W : World} {base e size n : Nat} {v : Value} {xs : List Value} (h : W.ownsRow base e size v n xs) : ∀ g, v.ownBlock = some g → base ≤ g ∧ g < W.heap.size ∧ ∃ cur, W.heap[g]? = some (.cells cur e (0, 0)) := by
  intro g hg
  obtain ⟨_, ⟨rfl, hn⟩ | ⟨g', cap, cur, rfl, hb, hh, _⟩⟩ := h
  · simp [Value.ownBlock] at hg
  · simp [Value.ownBlock] at hg
    subst hg
    exact ⟨hb, (Array.getElem?_eq_some_iff.1 hh).1, cur, hh⟩
theorem row_keep {w w' : World} {base e size n : Nat} {v : Value} {xs : List Value} (h : w.ownsRow base e size v n xs) (hk : ∀ g, v.ownBlock = some g → w'.heap[g]? = w.heap[g]?) : w'.ownsRow base e size v n xs := by
  obtain ⟨h1, ⟨rfl, hn⟩ | ⟨g, cap, cur, rfl, hb', hh, rest⟩⟩ := h
  · exact ⟨h1, .inl ⟨rfl, hn⟩⟩
  · exact ⟨h1, .inr ⟨g, cap, cur, rfl, hb', (hk g rfl).trans hh, rest⟩⟩
theorem row_grown {w w' : World} {base e size n : Nat} {v u : Value} {xs : List Value} (h : w.ownsRow base e size v n xs) (hg : w.grownBy w' u.ownBlock) (hs : Sep v u) : w'.ownsRow base e size v n xs :=
  row_keep h fun g hv => hg.block g (row_obj h g hv).2.1 (fun e => hs g hv e.symm)
theorem row_below {w w' : World} {base e size n : Nat} {v : Value} {xs : List Value} (h : w.ownsRow base e size v n xs) (hb : Below w.heap.size w w') : w'.ownsRow base e size v n xs :=
  row_keep h fun g hv => hb.block g (row_obj h g hv).2.1
theorem row_sep {W : World} {b e s n b' e' s' n' : Nat} {v v' : Value} {xs xs' : List Value} (h : W.ownsRow b e s v n xs) (h' : W.ownsRow b' e' s' v' n' xs') (hne : e ≠ e') : Sep v v' := by
  intro g h1 h2
  obtain ⟨_, _, c1, k1⟩ := row_obj h g h1
  obtain ⟨_, _, c2, k2⟩ := row_obj h' g h2
  rw [k1] at k2
  injection k2 with k2
  injection k2 with _ k2
  exact hne k2
/-- Behind an append the value is where it was, or new. -/
theorem Sep.at {v v' u : Value} {W : World} (h : Sep v u) (ha : v'.ownBlock = v.ownBlock ∨ v'.ownBlock = some W.heap.size) (hu : ∀ g, u.ownBlock = some g → g < W.heap.size) : Sep v' u := by
  intro g h1 h2
  rcases ha with ha | ha
  · exact h g (ha ▸ h1) h2
  · have := hu g h2
    rw [ha] at h1
    injection h1 with h1
    omega
/-- append of one byte, with where it lies. -/
theorem push_b2 {ops : Array Oper} {rest : List Oper} {o : Oper} {a : Act} {Q : Exit → Act → World → Prop} (hgd : o.guard = none) (sl x : Operand)
    (ho : o.op = .call { callee := .builtin .append, args := #[sl, x], argTypes := #[22, 22] })
    (W : World) (base : Nat) (v : Value) (l : List UInt8) (b : UInt8) (y : Int) (hy : y = (b.toNat : Int)) (hs : a.eval sl = v) (hx : a.eval x = .slice (some ⟨W.heap.size, 0, none⟩) 1 1)
    (hown : OwnB W base v (L2B l)) (hbase : base ≤ W.heap.size) (hl : l.length ≤ 1000000)
    (h : ∀ v' w', OwnB w' base v' (L2B (l ++ [b])) → W.grownBy w' v.ownBlock → (v'.ownBlock = v.ownBlock ∨ v'.ownBlock = some (W.heap.size + 1)) → wpList Tryz.prog ops Q rest (a.put o.dst v') w') :
    wpList Tryz.prog ops Q (o :: rest) a (W.alloc (.cells #[.int .u8 y] 5)) := by
  subst hy
  obtain ⟨i0, hi, hz0, hz1, hz2⟩ := info_parts info_u8
  have hown' := hown.below (new_val W (.cells #[.int .u8 (b.toNat : Int)] 5)) (Nat.le_refl _)
  refine wpList_append_own_at _ hgd sl x 22 ho base 5 i0 (.int .u8 0) 1 1 Tryz.underlying22 hi hz0 hz1 hz2 rfl (by decide) v (L2B l).size _ hs hown' ⟨W.heap.size, 0, none⟩ 1 1 [.int .u8 (b.toNat : Int)] hx rfl (cell_one_new W _ _) (fun u hu => by simp at hu; subst hu; rfl) (by rw [L2B_size]; unfold maxLen; omega) (by rw [L2B_size]; omega) (by simp; omega) ?_
  intro v' w' k1 k2 _ k4
  refine h v' w' ?_ (sgrown_then (grown_any (new_val W _) _) k2) (by simpa using k4)
  unfold OwnB
  have e : L2B (l ++ [b]) = L2B l ++ L2B [b] := (L2B_app l [b]).symm
  rw [e, app_size, byC_app]
  exact k1
/-- append of a word, with where it lies. -/
theorem push_s2 {ops : Array Oper} {rest : List Oper} {o : Oper} {a : Act} {Q : Exit → Act → World → Prop} (hgd : o.guard = none) (sl x : Operand)
    (ho : o.op = .call { callee := .builtin .append, args := #[sl, x], argTypes := #[22, 9] })
    (W : World) (base : Nat) (v : Value) (l m : List UInt8) (hs : a.eval sl = v) (hx : a.eval x = .string (L2B m))
    (hown : OwnB W base v (L2B l)) (hbase : base ≤ W.heap.size) (hl : l.length + m.length ≤ 1000000) (hl0 : l ≠ [])
    (h : ∀ v' w', OwnB w' base v' (L2B (l ++ m)) → W.grownBy w' v.ownBlock → (v'.ownBlock = v.ownBlock ∨ v'.ownBlock = some W.heap.size) → wpList Tryz.prog ops Q rest (a.put o.dst v') w') :
    wpList Tryz.prog ops Q (o :: rest) a W := by
  obtain ⟨i0, hi, hz0, hz1, hz2⟩ := info_parts info_u8
  have hat : ∀ v' w' ty, (Builtin.append_ #[22, 9] ty #[v, .string (L2B m)]).run Tryz.prog W = .ok v' w' → (v'.ownBlock = v.ownBlock ∨ v'.ownBlock = some W.heap.size) := by
    intro v' w' ty hr
    have hcells := hown.2
    rcases hcells with ⟨rfl, hn⟩ | ⟨g, cap, cur, rfl, hb, hh, hnc, hcm, hcs, ht⟩
    · exfalso
      rw [L2B_size] at hn
      exact hl0 (List.eq_nil_of_length_eq_zero hn)
    · by_cases hroom : (L2B l).size + (L2B m).size ≤ cap
      · have k := Lib.run_append_room_string (P := Tryz.prog) W 22 9 ty 5 i0 Tryz.underlying22 Tryz.underlying9 hi hz1 g (L2B l).size cap cur hh (L2B m) hroom (by rw [hcs, Nat.mul_one]; exact hroom)
        rw [k] at hr
        injection hr with hr _
        rw [← hr]
        exact .inl rfl
      · have k := Lib.run_append_grow_string (P := Tryz.prog) W 22 9 ty 5 i0 (.int .u8 0) Tryz.underlying22 Tryz.underlying9 hi hz0 ⟨g, 0, none⟩ (L2B l).size cap (byC (L2B l)) (by rw [byC_len, hz1, Nat.mul_one]) (World.ownsRow.cells hown rfl) (L2B m) (by omega) (by rw [L2B_size, L2B_size]; omega) (growslice_fits (by omega) (by rw [L2B_size, L2B_size, hz2]; omega))
        rw [k] at hr
        injection hr with hr _
        rw [← hr]
        exact .inr rfl
  refine wpList_plain hgd fun K hK => ?_
  obtain ⟨v', w', hr, h2, h3, h4⟩ := Lib.run_append_own_string (P := Tryz.prog) W base 22 9 o.type 5 i0 Tryz.underlying22 Tryz.underlying9 hi hz0 hz1 hz2 v (L2B l).size _ hown (L2B m) (by rw [L2B_size, L2B_size]; unfold maxLen; omega) (by rw [L2B_size, L2B_size]; omega) hbase
  have k := hat v' w' _ hr
  unfold Oper.wp execOp
  simp only [ho, resolve, invoke, builtin, Sem.run_bind, Sem.run_pure, Result.andThen_ok, List.map_toArray, List.map_cons, List.map_nil, hs, hx, hr]
  refine hK _ _ (h v' w' ?_ h3 k)
  unfold OwnB
  have e : byC (L2B (l ++ m)) = byC (L2B l) ++ Lib.strCells (L2B m) := by
    rw [← L2B_app, byC_app]
    rfl
  rw [e, ← L2B_app, app_size]
  exact h2
/-- append of one int, with where it lies. -/
theorem push_n2 {ops : Array Oper} {rest : List Oper} {o : Oper} {a : Act} {Q : Exit → Act → World → Prop} (hgd : o.guard = none) (s x : Operand)
    (ho : o.op = .call { callee := .builtin .append, args := #[s, x], argTypes := #[23, 23] })
    (W : World) (base : Nat) (v : Value) (l : List Nat) (u : Int) (y : Nat) (hu : u = (y : Int)) (hs : a.eval s = v) (hx : a.eval x = .slice (some ⟨W.heap.size, 0, none⟩) 1 1)
    (hown : Own W base v l) (hbase : base ≤ W.heap.size) (hl : l.length ≤ 100000)
    (h : ∀ v' w', Own w' base v' (l ++ [y]) → W.grownBy w' v.ownBlock → (v'.ownBlock = v.ownBlock ∨ v'.ownBlock = some (W.heap.size + 1)) → wpList Tryz.prog ops Q rest (a.put o.dst v') w') :
    wpList Tryz.prog ops Q (o :: rest) a (W.alloc (.cells #[.int .i64 u] 3)) := by
  subst hu
  obtain ⟨i0, hi, hz0, hz1, hz2⟩ := info_parts info_int
  have hown' := row_below hown (new_val W (.cells #[.int .i64 (y : Int)] 3))
  refine wpList_append_own_at _ hgd s x 23 ho base 3 i0 (.int .i64 0) 1 8 Tryz.underlying23 hi hz0 hz1 hz2 rfl (by decide) v l.length _ hs hown' ⟨W.heap.size, 0, none⟩ 1 1 [.int .i64 (y : Int)] hx rfl (cell_one_new W _ _) (fun u hu => by simp at hu; subst hu; rfl) (by unfold maxLen; omega) (by omega) (by simp; omega) ?_
  intro v' w' k1 k2 _ k4
  refine h v' w' ?_ (sgrown_then (grown_any (new_val W _) _) k2) (by simpa using k4)
  unfold Own
  have e : intC (l ++ [y]) = intC l ++ [.int .i64 (y : Int)] := by simp [intC]
  rw [List.length_append, e]
  exact k1
end Go.Proofs.YteocbgcgfllieaaGreatDoor

namespace Go.Proofs.YteocbgcgfllieaaGreatDoor
open Go.RowKit
set_option linter.unusedVariables false
abbrev Prs := List (List UInt8 × List UInt8)
theorem txtL_snoc (ps : Prs) (p : List UInt8 × List UInt8) : txtL (ps ++ [p]) = txtL ps ++ (p.1 ++ p.2) := by
  unfold txtL
  rw [List.flatMap_append]
  simp
def begs (ps : Prs) : List Nat := (List.range ps.length).map (begL ps)
theorem begs_len (ps : Prs) : (begs ps).length = ps.length := by simp [begs]
theorem begL_old {ps : Prs} {p : List UInt8 × List UInt8} {i : Nat} (h : i < ps.length) : begL (ps ++ [p]) i = begL ps i := by
  unfold begL endL
  rw [List.take_append_of_le_length (Nat.le_of_lt h), List.getD_eq_getElem?_getD, List.getElem?_append_left h, ← List.getD_eq_getElem?_getD]
theorem begL_new (ps : Prs) (p : List UInt8 × List UInt8) : begL (ps ++ [p]) ps.length = (txtL ps).length + p.1.length := by
  unfold begL endL
  rw [List.take_left, List.getD_eq_getElem?_getD, List.getElem?_append_right (Nat.le_refl _)]
  simp
theorem begs_snoc (ps : Prs) (p : List UInt8 × List UInt8) : begs (ps ++ [p]) = begs ps ++ [(txtL ps).length + p.1.length] := by
  unfold begs
  rw [List.length_append, List.length_singleton, List.range_succ, List.map_append, List.map_singleton, begL_new]
  congr 1
  exact List.map_congr_left fun i hi => begL_old (List.mem_range.1 hi)
def plainP (L : List (List UInt8)) : Prs := L.map fun w => ([32], w)
theorem plainP_snoc (L : List (List UInt8)) (w : List UInt8) : plainP (L ++ [w]) = plainP L ++ [([32], w)] := by simp [plainP]
def sumL (L : List (List UInt8)) : Nat := (L.map List.length).sum
theorem sumL_take {L : List (List UInt8)} {k : Nat} (h : k < L.length) : sumL (L.take (k + 1)) = sumL (L.take k) + L[k].length := by
  unfold sumL
  rw [List.take_succ_eq_append_getElem h, List.map_append, List.sum_append]
  simp
theorem sumL_le (L : List (List UInt8)) (k : Nat) : sumL (L.take k) ≤ sumL L := by
  have e : L = L.take k ++ L.drop k := (List.take_append_drop k L).symm
  conv => rhs; rw [e]
  unfold sumL
  rw [List.map_append, List.sum_append]
  omega
/-- What lies there when k words are told. -/
def SpI (wr : World) (B : Nat) (L : List (List UInt8)) (k : Nat) (v6 v7 v8 v9 : Value) : Prop :=
  ∃ qs : Prs, qs.map (·.2) = L.take k ∧ (∀ p ∈ qs, GoodP p) ∧ (txtL qs).length ≤ 3 * k + sumL (L.take k) ∧ (txtL (plainP (L.take k))).length ≤ 3 * k + sumL (L.take k) ∧
    OwnB wr B v6 (L2B (txtL qs)) ∧ OwnB wr B v7 (L2B (txtL (plainP (L.take k)))) ∧ Own wr B v8 (begs qs) ∧ Own wr B v9 (begs (plainP (L.take k))) ∧ Sep v6 v7 ∧ Sep v8 v9
theorem Sep.nil (u : Value) : Sep (.slice none 0 0) u := fun g h => by simp [Value.ownBlock] at h
theorem SpI.start (wr : World) (B : Nat) (L : List (List UInt8)) : SpI wr B L 0 (.slice none 0 0) (.slice none 0 0) (.slice none 0 0) (.slice none 0 0) :=
  ⟨[], rfl, fun p h => by simp at h, Nat.zero_le _, Nat.zero_le _, World.ownsRow_nil _ _ _ _, World.ownsRow_nil _ _ _ _, World.ownsRow_nil _ _ _ _, World.ownsRow_nil _ _ _ _, Sep.nil _, Sep.nil _⟩
/-- What lies there while the blanks ahead of a word are told. -/
def SpB (wr : World) (B : Nat) (l0 l1 : List UInt8) (n0 n1 : List Nat) (v6 v7 v8 v9 : Value) : Prop :=
  OwnB wr B v6 (L2B l0) ∧ OwnB wr B v7 (L2B l1) ∧ Own wr B v8 n0 ∧ Own wr B v9 n1 ∧ Sep v6 v7 ∧ Sep v8 v9
theorem sep58 {W : World} {B B' : Nat} {v v' : Value} {s : ByteArray} {l : List Nat} (h : OwnB W B v s) (h' : Own W B' v' l) : Sep v v' := row_sep h h' (by decide)
theorem SpB.lt {wr : World} {B : Nat} {l0 l1 : List UInt8} {n0 n1 : List Nat} {v6 v7 v8 v9 : Value} (h : SpB wr B l0 l1 n0 n1 v6 v7 v8 v9) :
    (∀ g, v6.ownBlock = some g → g < wr.heap.size) ∧ (∀ g, v7.ownBlock = some g → g < wr.heap.size) ∧ (∀ g, v8.ownBlock = some g → g < wr.heap.size) ∧ (∀ g, v9.ownBlock = some g → g < wr.heap.size) :=
  ⟨fun g e => (row_obj h.1 g e).2.1, fun g e => (row_obj h.2.1 g e).2.1, fun g e => (row_obj h.2.2.1 g e).2.1, fun g e => (row_obj h.2.2.2.1 g e).2.1⟩
/-- The one text grows. -/
theorem SpB.q {wr w' : World} {B G : Nat} {l0 l1 m0 : List UInt8} {n0 n1 : List Nat} {v6 v7 v8 v9 v' : Value} (h : SpB wr B l0 l1 n0 n1 v6 v7 v8 v9) (ho : OwnB w' B v' (L2B m0)) (hg : wr.grownBy w' v6.ownBlock) (ha : v'.ownBlock = v6.ownBlock ∨ v'.ownBlock = some G) (hG : wr.heap.size ≤ G) : SpB w' B m0 l1 n0 n1 v' v7 v8 v9 := by
  obtain ⟨h1, h2, h3, h4, h5, h6⟩ := h
  refine ⟨ho, row_grown h2 hg h5.symm, row_grown h3 hg (sep58 h1 h3).symm, row_grown h4 hg (sep58 h1 h4).symm, ?_, h6⟩
  intro g e1 e2
  rcases ha with ha | ha
  · exact h5 g (ha ▸ e1) e2
  · have := (row_obj h2 g e2).2.1
    rw [ha] at e1
    injection e1 with e1
    omega
/-- The other text grows. -/
theorem SpB.p {wr w' : World} {B G : Nat} {l0 l1 m1 : List UInt8} {n0 n1 : List Nat} {v6 v7 v8 v9 v' : Value} (h : SpB wr B l0 l1 n0 n1 v6 v7 v8 v9) (ho : OwnB w' B v' (L2B m1)) (hg : wr.grownBy w' v7.ownBlock) (ha : v'.ownBlock = v7.ownBlock ∨ v'.ownBlock = some G) (hG : wr.heap.size ≤ G) : SpB w' B l0 m1 n0 n1 v6 v' v8 v9 := by
  obtain ⟨h1, h2, h3, h4, h5, h6⟩ := h
  refine ⟨row_grown h1 hg h5, ho, row_grown h3 hg (sep58 h2 h3).symm, row_grown h4 hg (sep58 h2 h4).symm, ?_, h6⟩
  intro g e1 e2
  rcases ha with ha | ha
  · exact h5 g e1 (ha ▸ e2)
  · have := (row_obj h1 g e1).2.1
    rw [ha] at e2
    injection e2 with e2
    omega
/-- The places grow. -/
theorem SpB.n {wr w' : World} {B G : Nat} {l0 l1 : List UInt8} {n0 n1 m : List Nat} {v6 v7 v8 v9 v' : Value} (h : SpB wr B l0 l1 n0 n1 v6 v7 v8 v9) (ho : Own w' B v' m) (hg : wr.grownBy w' v8.ownBlock) (ha : v'.ownBlock = v8.ownBlock ∨ v'.ownBlock = some G) (hG : wr.heap.size ≤ G) : SpB w' B l0 l1 m n1 v6 v7 v' v9 := by
  obtain ⟨h1, h2, h3, h4, h5, h6⟩ := h
  refine ⟨row_grown h1 hg (sep58 h1 h3), row_grown h2 hg (sep58 h2 h3), ho, row_grown h4 hg h6.symm, h5, ?_⟩
  intro g e1 e2
  rcases ha with ha | ha
  · exact h6 g (ha ▸ e1) e2
  · have := (row_obj h4 g e2).2.1
    rw [ha] at e1
    injection e1 with e1
    omega
/-- The elder places grow. -/
theorem SpB.o {wr w' : World} {B G : Nat} {l0 l1 : List UInt8} {n0 n1 m : List Nat} {v6 v7 v8 v9 v' : Value} (h : SpB wr B l0 l1 n0 n1 v6 v7 v8 v9) (ho : Own w' B v' m) (hg : wr.grownBy w' v9.ownBlock) (ha : v'.ownBlock = v9.ownBlock ∨ v'.ownBlock = some G) (hG : wr.heap.size ≤ G) : SpB w' B l0 l1 n0 m v6 v7 v8 v' := by
  obtain ⟨h1, h2, h3, h4, h5, h6⟩ := h
  refine ⟨row_grown h1 hg (sep58 h1 h4), row_grown h2 hg (sep58 h2 h4), row_grown h3 hg h6, ho, h5, ?_⟩
  intro g e1 e2
  rcases ha with ha | ha
  · exact h6 g e1 (ha ▸ e2)
  · have := (row_obj h3 g e1).2.1
    rw [ha] at e2
    injection e2 with e2
    omega
theorem SpB.below {wr w' : World} {B : Nat} {l0 l1 : List UInt8} {n0 n1 : List Nat} {v6 v7 v8 v9 : Value} (h : SpB wr B l0 l1 n0 n1 v6 v7 v8 v9) (hb : Below wr.heap.size wr w') : SpB w' B l0 l1 n0 n1 v6 v7 v8 v9 :=
  ⟨row_below h.1 hb, row_below h.2.1 hb, row_below h.2.2.1 hb, row_below h.2.2.2.1 hb, h.2.2.2.2.1, h.2.2.2.2.2⟩
end Go.Proofs.YteocbgcgfllieaaGreatDoor

namespace Go.Proofs.YteocbgcgfllieaaGreatDoor
open Go.RowKit
set_option linter.unusedVariables false
theorem wordsN_good {l : List UInt8} : ∀ (n k : Nat), k ≤ l.length → ∀ x ∈ (wordsN n l k).1, ∃ q, q ≤ l.length ∧ stepW l q = .word x.1 x.2
  | 0, k, hk, x, h => by simp [wordsN] at h
  | n + 1, k, hk, x, h => by
    unfold wordsN at h
    cases hs : stepW l k with
    | none => rw [hs] at h; simp at h
    | bad b => rw [hs] at h; simp at h
    | word f t =>
      rw [hs] at h
      rcases List.mem_cons.1 h with rfl | h
      · exact ⟨k, hk, hs⟩
      · exact wordsN_good n t (stepW_word hk hs).2.2.1 x h
theorem sub_good {l : List UInt8} {k f t : Nat} (hk : k ≤ l.length) (h : stepW l k = .word f t) : (∀ c ∈ subL l f t, isW c.toNat = true) ∧ subL l f t ≠ [] ∧ (subL l f t).length ≤ l.length := by
  obtain ⟨h1, h2, h3, -, h5⟩ := stepW_word hk h
  have he : subL l f t = (l.drop f).takeWhile fun c => isW c.toNat := by
    unfold subL
    rw [h5]
    unfold pastP
    rw [Nat.add_sub_cancel_left]
    exact (List.prefix_iff_eq_take.1 (List.takeWhile_prefix _)).symm
  have hl : (subL l f t).length = t - f := by
    unfold subL
    rw [List.length_take, List.length_drop]
    omega
  refine ⟨fun c hc => ?_, fun e => ?_, by omega⟩
  · rw [he] at hc
    exact tw_all hc
  · rw [e] at hl
    simp at hl
    omega
/-- The words of a text. -/
def wrdL (l : List UInt8) : List (List UInt8) := (wordsL l 0).1.map fun x => subL l x.1 x.2
theorem wrd_good {l : List UInt8} : ∀ w ∈ wrdL l, (∀ c ∈ w, isW c.toNat = true) ∧ w ≠ [] ∧ w.length ≤ l.length := by
  intro w hw
  obtain ⟨x, hx, rfl⟩ := List.mem_map.1 hw
  obtain ⟨q, hq, hs⟩ := wordsN_good _ 0 (Nat.zero_le _) x hx
  exact sub_good hq hs
theorem extL_wrd (s : ByteArray) : extL s (wordsL s.data.toList 0).1 = (wrdL s.data.toList).map L2B := by
  unfold extL wrdL
  rw [List.map_map]
  refine List.map_congr_left fun x _ => ?_
  show _ = L2B (subL _ _ _)
  rw [← extract_sub, L2B_of]
theorem wrd_len (s : ByteArray) : (wrdL s.data.toList).length ≤ s.size := by
  unfold wrdL
  rw [List.length_map]
  exact wordsL_len s
theorem OwnB.form1 {w : World} {base : Nat} {v : Value} {s : ByteArray} (h : OwnB w base v s) : ∃ A c, v = .slice A s.size c ∧ s.size ≤ c ∧ BS w A s := by
  have h' := h
  obtain ⟨hl, ⟨rfl, hn⟩ | ⟨g, cap, cur, rfl, hb, hh, hm, _, hs, ht⟩⟩ := h
  · exact ⟨none, 0, by rw [hn], by omega, .inl ⟨rfl, hn⟩⟩
  · obtain ⟨A, c, e, hbs, _⟩ := h'.form
    injection e with e1 e2 e3
    subst e1
    exact ⟨_, cap, rfl, hm, hbs⟩
theorem OwnT.form {w : World} {base : Nat} {v : Value} {l : List ByteArray} (h : OwnT w base v l) : ∃ A c, v = .slice A l.length c ∧ ∀ j (hj : j < l.length), ∃ g, A = some ⟨g, 0, none⟩ ∧ g < w.heap.size ∧ base ≤ g ∧ w.cell? ⟨g, j, none⟩ = some (.string l[j]) := by
  have h' := h
  obtain ⟨hl, ⟨rfl, hn⟩ | ⟨g, cap, cur, rfl, hb, hh, hm, _, hs, ht⟩⟩ := h
  · exact ⟨none, 0, by rw [hn], fun j hj => by omega⟩
  · refine ⟨_, cap, rfl, fun j hj => ⟨g, rfl, (Array.getElem?_eq_some_iff.1 hh).1, hb, ?_⟩⟩
    rw [World.ownsRow.cellAt (h' : w.ownsRow base 9 1 _ l.length _) j (by omega)]
    simp [strC, hj]
theorem wordsN_sum {l : List UInt8} : ∀ (n k : Nat), k ≤ l.length → sumL ((wordsN n l k).1.map fun x => subL l x.1 x.2) ≤ l.length - k
  | 0, k, hk => by simp [wordsN, sumL]
  | n + 1, k, hk => by
    unfold wordsN
    cases hs : stepW l k with
    | none => simp [sumL]
    | bad b => simp [sumL]
    | word f t =>
      obtain ⟨h1, h2, h3, -, -⟩ := stepW_word hk hs
      have ih := wordsN_sum n t h3
      have hl : (subL l f t).length = t - f := by
        unfold subL
        rw [List.length_take, List.length_drop]
        omega
      show sumL (subL l f t :: (wordsN n l t).1.map fun x => subL l x.1 x.2) ≤ _
      unfold sumL at ih ⊢
      rw [List.map_cons, List.sum_cons, hl]
      omega
theorem wrd_sum (s : ByteArray) : sumL (wrdL s.data.toList) ≤ s.size := by
  have := wordsN_sum (l := s.data.toList) (s.data.toList.length + 1) 0 (Nat.zero_le _)
  rw [size_list] at this
  unfold wrdL wordsL
  rw [size_list]
  omega
/-- One more word, behind blanks. -/
theorem SpB.next {wr : World} {B : Nat} {L : List (List UInt8)} {k : Nat} {v6 v7 v8 v9 : Value} {qs : Prs} {b : List UInt8} (hk : k < L.length) (hq : qs.map (·.2) = L.take k) (hg : ∀ p ∈ qs, GoodP p) (h1 : (txtL qs).length ≤ 3 * k + sumL (L.take k)) (h2 : (txtL (plainP (L.take k))).length ≤ 3 * k + sumL (L.take k))
    (hw : (∀ c ∈ L[k], isW c.toNat = true) ∧ L[k] ≠ [] ∧ L[k].length ≤ 300) (hb : ∀ c ∈ b, isB c.toNat = true) (hb0 : b ≠ []) (hbl : b.length ≤ 3)
    (h : SpB wr B (txtL qs ++ b ++ L[k]) (txtL (plainP (L.take k)) ++ [32] ++ L[k]) (begs qs ++ [(txtL qs ++ b).length]) (begs (plainP (L.take k)) ++ [(txtL (plainP (L.take k)) ++ [32]).length]) v6 v7 v8 v9) : SpI wr B L (k + 1) v6 v7 v8 v9 := by
  obtain ⟨o1, o2, o3, o4, o5, o6⟩ := h
  have et : L.take (k + 1) = L.take k ++ [L[k]] := List.take_succ_eq_append_getElem hk
  refine ⟨qs ++ [(b, L[k])], ?_, ?_, ?_, ?_, ?_, ?_, ?_, ?_, o5, o6⟩
  · rw [List.map_append, hq, et]
    rfl
  · intro p hp
    rcases List.mem_append.1 hp with hp | hp
    · exact hg p hp
    · rw [List.mem_singleton.1 hp]
      exact ⟨hb0, hb, hw.2.1, hw.1⟩
  · rw [sumL_take hk, txtL_snoc, List.length_append, List.length_append]
    show _ + (b.length + L[k].length) ≤ _
    omega
  · rw [sumL_take hk, et, plainP_snoc, txtL_snoc, List.length_append, List.length_append]
    show _ + (1 + L[k].length) ≤ _
    omega
  · rw [txtL_snoc, ← List.append_assoc]
    exact o1
  · rw [et, plainP_snoc, txtL_snoc, ← List.append_assoc]
    exact o2
  · rw [begs_snoc]
    rw [List.length_append] at o3
    exact o3
  · rw [et, plainP_snoc, begs_snoc]
    rw [List.length_append] at o4
    exact o4
end Go.Proofs.YteocbgcgfllieaaGreatDoor

namespace Go.Proofs.YteocbgcgfllieaaGreatDoor
open Go.RowKit
set_option linter.unusedVariables false
set_option maxRecDepth 100000 in
theorem index_at (A : Option Addr) (c n p : Nat) (l : List Nat) (v : Int) (w : World) (hn : l.length = n) (hl : n ≤ 1000000) (hw : Ints w A l) (hp : p < n) (hv : v = (nth l p : Int)) (hb : ∀ i, i < p → v ≠ (nth l i : Int)) :
    Calls Tryz.prog 21 #[.slice A n c, .int .i64 v] w fun e w' => e = .returned (.int .i64 (p : Int)) ∧ w = w' := by
  have HW := Lib.hid hw
  have HV := Lib.hid hv
  have HB := Lib.hid hb
  have HN := Lib.hid hn
  clear hw hv hb hn
  go_enter Tryz.func21, Tryz.ntmps21
  go_wp2_with fail
  go_loop [8] (fun i => ∃ j : Nat, j ≤ p ∧ i = .int .i64 (j : Int)) (fun i => n - (intOf i).toNat)
  case atStart => exact ⟨0, Nat.zero_le _, rfl⟩
  case round =>
    obtain ⟨j, hj, rfl⟩ := hrel
    obtain ⟨g, o, rfl, hcell⟩ := HW.out.at_ (i := j) (by rw [HN.out]; omega)
    have i1 : (j : Int) < (n : Int) := by omega
    have i2 : (0 : Int) ≤ (j : Int) := by omega
    by_cases e : j = p
    · subst e
      have hx : (v == (nth l j : Int)) = true := by rw [beq_iff_eq]; exact HV.out
      generalize (nth l j : Int) = y at hcell hx
      go_wp2_with fail
      go_ret
      exact ⟨rfl, rfl⟩
    · have hx : (v == (nth l j : Int)) = false := by rw [beq_eq_false_iff_ne]; exact HB.out j (by omega)
      have hjp : j + 1 ≤ p := by omega
      clear e
      generalize (nth l j : Int) = y at hcell hx
      go_wp2_with fail
      go_round
      case rel => exact ⟨j + 1, by omega, by go_num⟩
      case measure => simp [intOf]; omega
set_option maxRecDepth 100000 in
theorem index_no (A : Option Addr) (c n : Nat) (l : List Nat) (v : Int) (w : World) (hn : l.length = n) (hl : n ≤ 1000000) (hw : Ints w A l) (hb : ∀ i, i < n → v ≠ (nth l i : Int)) :
    Calls Tryz.prog 21 #[.slice A n c, .int .i64 v] w fun e w' => e = .returned (.int .i64 (-1)) ∧ w = w' := by
  have HW := Lib.hid hw
  have HB := Lib.hid hb
  have HN := Lib.hid hn
  clear hw hb hn
  go_enter Tryz.func21, Tryz.ntmps21
  go_wp2_with fail
  go_loop [8] (fun i => ∃ j : Nat, j ≤ n ∧ i = .int .i64 (j : Int)) (fun i => n - (intOf i).toNat)
  case atStart => exact ⟨0, Nat.zero_le _, rfl⟩
  case round =>
    obtain ⟨j, hj, rfl⟩ := hrel
    by_cases hlt : j < n
    · obtain ⟨g, o, rfl, hcell⟩ := HW.out.at_ (i := j) (by rw [HN.out]; omega)
      have i1 : (j : Int) < (n : Int) := by omega
      have i2 : (0 : Int) ≤ (j : Int) := by omega
      have hx : (v == (nth l j : Int)) = false := by rw [beq_eq_false_iff_ne]; exact HB.out j hlt
      generalize (nth l j : Int) = y at hcell hx
      go_wp2_with fail
      go_round
      case rel => exact ⟨j + 1, by omega, by go_num⟩
      case measure => simp [intOf]; omega
    · obtain rfl : j = n := by omega
      have i1 : ¬ ((j : Int) < (j : Int)) := by omega
      clear hlt
      go_wp2_with fail
      go_ret
      exact ⟨rfl, rfl⟩
theorem nth_begs {ps : Prs} {i : Nat} (h : i < ps.length) : nth (begs ps) i = begL ps i := by
  unfold begs nth
  rw [List.getD_eq_getElem?_getD, List.getElem?_map, List.getElem?_range h]
  rfl
/-- The words begin one behind the other, all ahead of the end. -/
theorem begL_lt {ps : Prs} (h : ∀ p ∈ ps, GoodP p) {i : Nat} (hi : i < ps.length) : begL ps i < endL ps (i + 1) := by
  obtain ⟨-, -, h3⟩ := stepL h hi
  have := (h _ (List.getElem_mem hi)).w0
  have h4 : 0 < ps[i].2.length := List.length_pos_iff.2 this
  omega
theorem endL_mono {ps : Prs} {i j : Nat} (h : i ≤ j) : endL ps i ≤ endL ps j := by
  unfold endL
  have e : ps.take i = (ps.take j).take i := by rw [List.take_take, Nat.min_eq_left h]
  have e2 : txtL (ps.take j) = txtL ((ps.take j).take i) ++ txtL ((ps.take j).drop i) := by
    unfold txtL
    rw [← List.flatMap_append, List.take_append_drop]
  rw [e2, List.length_append, ← e]
  omega
theorem begL_first {ps : Prs} (h : ∀ p ∈ ps, GoodP p) {i p : Nat} (hp : p < ps.length) (hi : i < p) : begL ps i < begL ps p := by
  have h1 := begL_lt h (by omega : i < ps.length)
  have h2 : endL ps (i + 1) ≤ endL ps p := endL_mono hi
  have h3 : endL ps p ≤ begL ps p := by unfold begL; omega
  omega
theorem begL_end {ps : Prs} (h : ∀ p ∈ ps, GoodP p) {i : Nat} (hi : i < ps.length) : begL ps i < (txtL ps).length := by
  have h1 := begL_lt h hi
  have h2 : endL ps (i + 1) ≤ endL ps ps.length := endL_mono hi
  rw [endL_all] at h2
  omega
def ReadNil (s : ByteArray) (p e : Nat) : Prop := ∀ W A c, BS W A s → GlobR W → TabP W → Calls Tryz.prog 11 #[.slice A s.size c] W fun e' w' => e' = .returned (.tuple #[.pointer none, .int .i64 (p : Int), .int .i64 (e : Int)]) ∧ Below W.heap.size W w'
abbrev loR : Int := -4611686018427387904
/-- Both texts are told off alike, or are the same file. -/
theorem spaces_reads {ps qs : Prs} (hp : ∀ p ∈ ps, GoodP p) (hq : ∀ p ∈ qs, GoodP p) (he : ps.map (·.2) = qs.map (·.2)) (h1 : (txtL ps).length ≤ 65536) (h2 : (txtL qs).length ≤ 65536) :
    (∃ e p p' : Nat, ReadNil (L2B (txtL ps)) p e ∧ ReadNil (L2B (txtL qs)) p' e ∧ ((∃ i, i < ps.length ∧ p = begL ps i ∧ p' = begL qs i) ∨ (p = (L2B (txtL ps)).size ∧ p' = (L2B (txtL qs)).size))) ∨
    ∃ F F' st st', fileM (L2B (txtL ps)).data.toList loR = .ok F st ∧ st.big = none ∧ fileM (L2B (txtL qs)).data.toList loR = .ok F' st' ∧ st'.big = none ∧
      (L2B (txtL ps)).extract F.name.1 F.name.2 = (L2B (txtL qs)).extract F'.name.1 F'.name.2 ∧ F.top = F'.top ∧ F.sizes = F'.sizes ∧ F.funs = F'.funs := by
  have H := fileM_sim (alW hp hq he) (lo := loR)
  have s1 : (L2B (txtL ps)).size ≤ 65536 := by rw [L2B_size]; exact h1
  have s2 : (L2B (txtL qs)).size ≤ 65536 := by rw [L2B_size]; exact h2
  have bad : ∀ {s : ByteArray} {e p : Nat}, s.size ≤ 65536 → fileM s.data.toList loR = .bad e p → ReadNil s p e := fun hs hf W A c h3 h4 h5 => readR_bad hs h3 h4 h5 hf
  have big : ∀ {s : ByteArray} {p : Nat} {F : FileM} {st : RdS}, s.size ≤ 65536 → fileM s.data.toList loR = .ok F st → st.big = some p → ReadNil s p 5 := fun hs hf hb W A c h3 h4 h5 => readR_big hs h3 h4 h5 hf hb
  cases hx : fileM (txtL ps) loR with
  | bad e p =>
    cases hy : fileM (txtL qs) loR with
    | ok F' st' => rw [hx, hy] at H; exact H.elim
    | bad e' p' =>
      rw [hx, hy] at H
      obtain ⟨rfl, hE⟩ := H
      refine .inl ⟨e, p, p', bad s1 hx, bad s2 hy, ?_⟩
      rw [L2B_size, L2B_size]
      exact hE
  | ok F st =>
    cases hy : fileM (txtL qs) loR with
    | bad e' p' => rw [hx, hy] at H; exact H.elim
    | ok F' st' =>
      rw [hx, hy] at H
      obtain ⟨⟨⟨q1, _⟩, q3, q4, q5⟩, _, hb⟩ := H
      cases hs : st.big with
      | none =>
        cases hs' : st'.big with
        | some p' => rw [hs, hs'] at hb; exact hb.elim
        | none =>
          refine .inr ⟨F, F', st, st', hx, hs, hy, hs', ?_, q3, q4, q5⟩
          rw [← L2B_of ((L2B (txtL ps)).extract _ _), ← L2B_of ((L2B (txtL qs)).extract _ _), extract_sub, extract_sub, L2B_list, L2B_list, q1]
      | some p =>
        cases hs' : st'.big with
        | none => rw [hs, hs'] at hb; exact hb.elim
        | some p' =>
          rw [hs, hs'] at hb
          exact .inl ⟨5, p, p', big s1 hx hs, big s2 hy hs', .inl hb⟩
theorem plainP_good {L : List (List UInt8)} (h : ∀ x ∈ L, (∀ c ∈ x, isW c.toNat = true) ∧ x ≠ [] ∧ x.length ≤ 300) : ∀ p ∈ plainP L, GoodP p := by
  intro p hp
  obtain ⟨x, hx, rfl⟩ := List.mem_map.1 hp
  exact ⟨by simp, fun c hc => by rw [List.mem_singleton.1 hc]; rfl, (h x hx).2.1, (h x hx).1⟩
theorem plainP_words (L : List (List UInt8)) : (plainP L).map (·.2) = L := by
  unfold plainP
  rw [List.map_map]
  exact List.map_id L
end Go.Proofs.YteocbgcgfllieaaGreatDoor
