/- What the document's Turn holds (no statement of its own). No condition. -/
import Derived.Test.YtpdcpaoabalgcaaGreatDoorRoA
import Derived.Test.YtpdcpaoabalgcaaGreatDoorTtA
import Derived.Test.YtpdcpaoabalgcaaGreatDoorHrd
namespace Go.Proofs.YtpdcpaoabalgcaaGreatDoor
open Go.RowKit
set_option linter.unusedVariables false
/-- x with its values put to the places of an order. -/
def updL (x s : List Nat) : Nat → List Nat
  | 0 => x
  | i + 1 => (updL x s i).set (nth s i) (nth x i)
theorem updL_len (x s : List Nat) : ∀ i, (updL x s i).length = x.length
  | 0 => rfl
  | i + 1 => by show ((updL x s i).set _ _).length = _; rw [List.length_set, updL_len x s i]
theorem nth_setv {l : List Nat} {p v i : Nat} (hp : p < l.length) : nth (l.set p v) i = if i = p then v else nth l i := by
  unfold nth
  rw [List.getD_eq_getElem?_getD, List.getElem?_set]
  by_cases e : p = i
  · subst e
    simp [hp]
  · rw [if_neg e, if_neg (fun e' => e e'.symm), List.getD_eq_getElem?_getD]
theorem updL_nth {x s r : List Nat} {n : Nat} (h : PermL n s r) (hx : x.length = n) : ∀ i, i ≤ n → ∀ v, v < n → nth (updL x s i) v = if nth r v < i then nth x (nth r v) else nth x v
  | 0, _, v, _ => by rw [if_neg (by omega)]; rfl
  | i + 1, hi, v, hv => by
    have ih := updL_nth h hx i (by omega) v hv
    show nth ((updL x s i).set (nth s i) (nth x i)) v = _
    rw [nth_setv (by rw [updL_len, hx]; exact h.bs i (by omega))]
    by_cases e : v = nth s i
    · rw [if_pos e]
      have e2 : nth r v = i := by rw [e]; exact h.rs i (by omega)
      rw [e2, if_pos (by omega)]
    · rw [if_neg e, ih]
      have e2 : nth r v ≠ i := fun h' => e (by rw [← h', h.sr v hv])
      by_cases e3 : nth r v < i
      · rw [if_pos e3, if_pos (by omega)]
      · rw [if_neg e3, if_neg (by omega)]
theorem updL_all {x s r : List Nat} {n : Nat} (h : PermL n s r) (hx : x.length = n) : updL x s n = pickL x r := by
  apply nth_eq (by rw [updL_len, pickL_len, hx, h.lr])
  intro v hv
  rw [updL_len, hx] at hv
  rw [updL_nth h hx n (Nat.le_refl _) v hv, if_pos (h.br v hv), pickL_nth (by rw [h.lr]; exact hv)]
theorem pick_take {l s : List Nat} {j : Nat} (h : j < s.length) : (pickL l s).take (j + 1) = (pickL l s).take j ++ [nth l (nth s j)] := by
  unfold pickL
  rw [List.take_add_one, List.getElem?_map, List.getElem?_eq_getElem h]
  simp [nth, List.getD_eq_getElem?_getD, h]
/-- append of one cost, as one step of a region that draws its order. -/
theorem push64_step {ops : Array Oper} {o : Oper} {a : Act} {K : Act → World → Prop} {Q : Exit → Act → World → Prop} {E : Prop} (hgd : o.guard = none) (s x : Operand)
    (ho : o.op = .call { callee := .builtin .append, args := #[s, x], argTypes := #[28, 28] })
    (W : World) (base n gl : Nat) (v : Value) (z : Nat → Int) (u : Int) (hu : u = z n) (hs : a.eval s = v) (hx : a.eval x = .slice (some ⟨gl, 0, none⟩) 1 1) (hc : W.cell? ⟨gl, 0, none⟩ = some (.int .i64 u))
    (hown : W.ownsRow base 2 1 v n (costL z n)) (hbase : base ≤ W.heap.size) (hl : n ≤ 100000)
    (h : ∀ v' w', w'.ownsRow base 2 1 v' (n + 1) (costL z (n + 1)) → W.grownBy w' v.ownBlock → K (a.put o.dst v') w') :
    if Region.wanted o (yielded ops a.tmps) = true then Oper.wp Tryz.prog o a W K Q else E := by
  subst hu
  have hw : Region.wanted o (yielded ops a.tmps) = true := by simp [Region.wanted, hgd]
  rw [if_pos hw]
  obtain ⟨i0, hi, hz0, hz1, hz2⟩ := info_parts info_i64
  refine wp_append_own W s x 28 ho base 2 i0 (.int .i64 0) 1 8 Tryz.underlying28 hi hz0 hz1 hz2 rfl (by decide) v n _ hs hown ⟨gl, 0, none⟩ 1 1 [.int .i64 (z n)] hx rfl ?_ ?_ (by unfold maxLen; omega) (by omega) hbase ?_
  · intro j u hj
    rcases j with _ | j
    · simp at hj
      subst hj
      exact hc
    · simp at hj
  · intro u hu
    simp at hu
    subst hu
    rfl
  · intro v' w' h1 h2 _
    exact h v' w' (by rw [costL_succ]; exact h1) h2
/-- What the first loop's round reads. -/
abbrev HoldV (w3 : World) (b0 bu n cs gs os p x : Nat) (W : World) : Prop :=
  W.cell? ⟨b0, 0, none⟩ = some (.slice (some ⟨gs, os, none⟩) n cs) ∧ W.cell? ⟨gs, os + p, none⟩ = some (.int .i64 (x : Int)) ∧ Kept2 w3 bu bu W
theorem holdV {w3 W W' : World} {b0 bu n cs gs os p x : Nat} (H : HoldV w3 b0 bu n cs gs os p x W) (hb : Below W.heap.size W W') : HoldV w3 b0 bu n cs gs os p x W' := by
  obtain ⟨a0, a2, h9⟩ := H
  have K : ∀ b i v, W.cell? ⟨b, i, none⟩ = some v → W'.cell? ⟨b, i, none⟩ = some v := fun b i v h => (hb.cell (p := ⟨b, i, none⟩) (World.block_lt_of_cell? W _ h)).trans h
  exact ⟨K _ _ _ a0, K _ _ _ a2, h9.next hb⟩
theorem holdV_grown {w3 W W' : World} {b0 bu n cs gs os p x m : Nat} {v : Value} {e : TypeId} {xs : List Value} (H : HoldV w3 b0 bu n cs gs os p x W) (h0 : b0 < w3.heap.size) (h2 : gs < w3.heap.size) (ho : W.ownsRow w3.heap.size e 1 v m xs) (hg : W.grownBy W' v.ownBlock) : HoldV w3 b0 bu n cs gs os p x W' := by
  obtain ⟨a0, a2, h9⟩ := H
  have K : ∀ b i v, b < w3.heap.size → W.cell? ⟨b, i, none⟩ = some v → W'.cell? ⟨b, i, none⟩ = some v := fun b i v hb h => (World.cell?_of_block (hg.block b (World.block_lt_of_cell? W _ h) (fun e => by have := (World.ownsRow.lt ho b e.symm).1; omega))).trans h
  exact ⟨K _ _ _ h0 a0, K _ _ _ h2 a2, kept2_grown h9 ho hg⟩
theorem holdV_set {w3 W : World} {b0 bu n cs gs os p x : Nat} (H : HoldV w3 b0 bu n cs gs os p x W) (h0 : b0 ≠ bu) (h2 : gs ≠ bu) (i : Nat) (u : Value) : HoldV w3 b0 bu n cs gs os p x (W.setCell ⟨bu, i, none⟩ u) := by
  obtain ⟨a0, a2, h9⟩ := H
  have K : ∀ c j v, c ≠ bu → W.cell? ⟨c, j, none⟩ = some v → (W.setCell ⟨bu, i, none⟩ u).cell? ⟨c, j, none⟩ = some v := fun c j v hc h => by
    rw [World.cell?_setCell_other _ _ _ _ (by intro e; injection e with e1; exact hc (by first | exact e1 | exact e1.symm))]; exact h
  exact ⟨K _ _ _ h0 a0, K _ _ _ h2 a2, h9.set (.inl rfl) i u⟩
/-- The sizes of the document's turned table, under way. -/
structure RtS (w3 : World) (bu : Nat) (k : Int) (sv : Value) (m : List Nat) (W : World) : Prop where
  kept : Kept2 w3 bu bu W
  row : W.heap[bu]? = some (.cells #[sv, .int .i64 k, .slice none 0 0] 30 (0, 0))
  own : Own W w3.heap.size sv m
/-- What the second loop's last region reads. -/
abbrev HoldW (wb : World) (b0 bu n cs P0 cc : Nat) (As Ac : Option Addr) (k : Int) (W : World) : Prop :=
  W.cell? ⟨b0, 0, none⟩ = some (.slice As n cs) ∧ W.cell? ⟨b0, 1, none⟩ = some (.int .i64 k) ∧ W.cell? ⟨b0, 2, none⟩ = some (.slice Ac P0 cc) ∧ Kept2 wb bu bu W
theorem holdW {wb W W' : World} {b0 bu n cs P0 cc : Nat} {As Ac : Option Addr} {k : Int} (H : HoldW wb b0 bu n cs P0 cc As Ac k W) (hb : Below W.heap.size W W') : HoldW wb b0 bu n cs P0 cc As Ac k W' := by
  obtain ⟨a0, a1, a2, h9⟩ := H
  have K : ∀ b i v, W.cell? ⟨b, i, none⟩ = some v → W'.cell? ⟨b, i, none⟩ = some v := fun b i v h => (hb.cell (p := ⟨b, i, none⟩) (World.block_lt_of_cell? W _ h)).trans h
  exact ⟨K _ _ _ a0, K _ _ _ a1, K _ _ _ a2, h9.next hb⟩
theorem holdW_grown {wb W W' : World} {b0 bu n cs P0 cc m : Nat} {As Ac : Option Addr} {k : Int} {v : Value} {e : TypeId} {xs : List Value} (H : HoldW wb b0 bu n cs P0 cc As Ac k W) (h0 : b0 < wb.heap.size) (ho : W.ownsRow wb.heap.size e 1 v m xs) (hg : W.grownBy W' v.ownBlock) : HoldW wb b0 bu n cs P0 cc As Ac k W' := by
  obtain ⟨a0, a1, a2, h9⟩ := H
  have K : ∀ b i v, b < wb.heap.size → W.cell? ⟨b, i, none⟩ = some v → W'.cell? ⟨b, i, none⟩ = some v := fun b i v hb h => (World.cell?_of_block (hg.block b (World.block_lt_of_cell? W _ h) (fun e => by have := (World.ownsRow.lt ho b e.symm).1; omega))).trans h
  exact ⟨K _ _ _ h0 a0, K _ _ _ h0 a1, K _ _ _ h0 a2, kept2_grown h9 ho hg⟩
theorem holdW_set {wb W : World} {b0 bu n cs P0 cc : Nat} {As Ac : Option Addr} {k : Int} (H : HoldW wb b0 bu n cs P0 cc As Ac k W) (h0 : b0 ≠ bu) (i : Nat) (u : Value) : HoldW wb b0 bu n cs P0 cc As Ac k (W.setCell ⟨bu, i, none⟩ u) := by
  obtain ⟨a0, a1, a2, h9⟩ := H
  have K : ∀ c j v, c ≠ bu → W.cell? ⟨c, j, none⟩ = some v → (W.setCell ⟨bu, i, none⟩ u).cell? ⟨c, j, none⟩ = some v := fun c j v hc h => by
    rw [World.cell?_setCell_other _ _ _ _ (by intro e; injection e with e1; exact hc (by first | exact e1 | exact e1.symm))]; exact h
  exact ⟨K _ _ _ h0 a0, K _ _ _ h0 a1, K _ _ _ h0 a2, h9.set (.inl rfl) i u⟩
def RtPost (w : World) (l s r : List Nat) (k : Int) (z : Nat → Int) (n P : Nat) (e : Ending) (w' : World) : Prop :=
  (∃ A1 c1 A2 c2, e = .returned (.agg #[.slice A1 n c1, .int .i64 k, .slice A2 P c2]) ∧ Ints w' A1 (pickL l s) ∧ Zs w' A2 P (turnZ l z s r)) ∧ Below w.heap.size w w'
end Go.Proofs.YtpdcpaoabalgcaaGreatDoor
