/- A trail, and a list of what its cells were, told together (no statement of its own). -/
import Derived.Test.YtafcecacldafgaaTnD
namespace Go.Proofs.Ytafcecacldafgaa
open Go.RowKit
set_option linter.unusedVariables false
/-- All that holds while a trail is marked and undone: the open marks are L, the list in v tells Ms; z0 is what stood there first. -/
structure NI (w0 wr : World) (b cnt n mx : Nat) (v : Value) (z0 C : List Int) (Ms L : List (List Int)) : Prop where
  ex : ∃ Q, St wr b cnt Q C L ∧ LL wr Q v Ms ∧ (∀ k, Q k → w0.heap.size ≤ k ∧ k < wr.heap.size)
  kp : Kp (fun k => w0.heap.size ≤ k) w0 wr
  first : (L ++ [C]).head? = some z0
  own : ∀ g, v.ownBlock = some g → w0.heap.size ≤ g
  lo : n ≤ C.length
  hi : C.length ≤ mx
theorem NI.below {w0 w : World} {b cnt n mx : Nat} {v : Value} {z0 C : List Int} {Ms L : List (List Int)} (h : NI w0 w b cnt n mx v z0 C Ms L) : Below w0.heap.size w0 w := h.kp.below (fun _ _ q => q) (Nat.le_refl _)
theorem NI.more {w0 w : World} {b cnt n mx k mx2 : Nat} {v : Value} {z0 C : List Int} {Ms L : List (List Int)} (h : NI w0 w b cnt n mx v z0 C Ms L) (hk : cnt ≤ k) (hm : mx ≤ mx2) : NI w0 w b k n mx2 v z0 C Ms L := by
  obtain ⟨⟨Q, q1, q2, q3⟩, h2, h3, h6, h4, h5⟩ := h
  exact ⟨⟨Q, q1.more hk, q2, q3⟩, h2, h3, h6, h4, Nat.le_trans h5 hm⟩
theorem NI.grown {w0 w w' : World} {b cnt n mx : Nat} {v : Value} {z0 C : List Int} {Ms L : List (List Int)} (h : NI w0 w b cnt n mx v z0 C Ms L) (hg : w.grownBy w' none) : NI w0 w' b cnt n mx v z0 C Ms L := by
  obtain ⟨⟨Q, q1, q2, q3⟩, h2, h3, h6, h4, h5⟩ := h
  exact ⟨⟨Q, q1.grown hg, q2.grown hg, fun k hk => ⟨(q3 k hk).1, Nat.lt_of_lt_of_le (q3 k hk).2 hg.size⟩⟩, h2.trans (Kp.none hg), h3, h6, h4, h5⟩
def AndN (w0 : World) (b cnt n mx : Nat) (v : Value) (z0 C : List Int) (Ms L : List (List Int)) (u : Value) (e : Ending) (w' : World) : Prop := e = .returned u ∧ NI w0 w' b cnt n mx v z0 C Ms L
theorem NI.next {w0 w w' : World} {b cnt cnt' n mx mx' : Nat} {v u : Value} {z0 C D : List Int} {Ms L K : List (List Int)} {Q : Nat → Prop} {e : Ending} (h : NI w0 w b cnt n mx v z0 C Ms L) (hl : LL w Q v Ms) (hQ : ∀ k, Q k → w0.heap.size ≤ k ∧ k < w.heap.size)
    (ha : AndS Q w b cnt' D K u e w') (hf : (K ++ [D]).head? = some z0) (hlo : n ≤ D.length) (hhi : D.length ≤ mx') : AndN w0 b cnt' n mx' v z0 D Ms K u e w' :=
  have h0 := h.kp.size
  ⟨ha.e, ⟨fun k => Plus Q w k ∧ k < w'.heap.size, ha.st.mono fun k hk q => ⟨q, hk⟩, hl.kept ha.kp fun k hk q => plus_of Q w k hk q.1, fun k hk => ⟨hk.1.elim (fun q => (hQ k q).1) (fun q => Nat.le_trans h0 q), hk.2⟩⟩,
    h.kp.trans (ha.kp.mono fun k _ q => (hQ k q).1), hf, h.own, hlo, hhi⟩
theorem head_app {L : List (List Int)} {C D : List Int} {z : List Int} (h : (L ++ [C]).head? = some z) (hL : L ≠ []) : (L ++ [D]).head? = some z := by
  cases L with
  | nil => exact absurd rfl hL
  | cons a L => exact h
theorem set_ni {w0 w : World} {b cnt n mx i : Nat} {v : Value} {z0 C : List Int} {Ms L : List (List Int)} (h : NI w0 w b cnt n mx v z0 C Ms L) (x : Int) (hi : i < n) (hn : cnt < 1000000) (hmx : mx ≤ 2097152) (hL : L ≠ []) :
    Calls Try.prog 17 #[.pointer (some ⟨b, 0, none⟩), .int .i64 (i : Int), .int .i64 x] w (AndN w0 b (cnt + 1) n mx v z0 (C.set i x) Ms L (.int .i64 0)) := by
  obtain ⟨Q, q1, q2, q3⟩ := h.ex
  have h1 := h.lo
  have h2 := h.hi
  exact (set_st q1 x (by omega) hn (by omega)).mono fun e w' q => h.next q2 q3 q (head_app h.first hL) (by rw [List.length_set]; exact h1) (by rw [List.length_set]; exact h2)
theorem mark_ni {w0 w : World} {b cnt n mx : Nat} {v : Value} {z0 C : List Int} {Ms L : List (List Int)} (h : NI w0 w b cnt n mx v z0 C Ms L) (hn : cnt < 1000000) :
    Calls Try.prog 16 #[.pointer (some ⟨b, 0, none⟩)] w (AndN w0 b (cnt + 1) n mx v z0 C Ms (L ++ [C]) (.int .i64 (L.length : Int))) := by
  obtain ⟨Q, q1, q2, q3⟩ := h.ex
  refine (mark_st q1 hn).mono fun e w' q => h.next q2 q3 q ?_ h.lo h.hi
  have := h.first
  cases L <;> simpa using this
theorem grow_ni {w0 w : World} {b cnt n mx k : Nat} {i : Int} {v : Value} {z0 C : List Int} {Ms L : List (List Int)} (h : NI w0 w b cnt n mx v z0 C Ms L) (hk : max i 0 = (k : Int)) (hk2 : k < 1000000) (hmx : mx < 1000000) (hL : L ≠ []) :
    Calls Try.prog 24 #[.pointer (some ⟨b, 0, none⟩), .int .i64 i] w (AndN w0 b cnt n (mx + k) v z0 (C ++ List.replicate k 0) Ms L (.int .i64 (C.length : Int))) := by
  obtain ⟨Q, q1, q2, q3⟩ := h.ex
  have h1 := h.lo
  have h2 := h.hi
  exact (grow_st q1 hk hk2 (by omega)).mono fun e w' q => h.next q2 q3 q (head_app h.first hL) (by simp; omega) (by simp; omega)
theorem undo_ni {w0 w : World} {b cnt n mx m : Nat} {v : Value} {z0 C : List Int} {Ms L : List (List Int)} (h : NI w0 w b cnt n mx v z0 C Ms L) (hm : m < L.length) (hn : cnt < 1000000) (hmx : mx ≤ 2097152) (hlo : n ≤ L[m].length) (hhi : L[m].length ≤ mx) :
    Calls Try.prog 19 #[.pointer (some ⟨b, 0, none⟩), .int .i64 (m : Int)] w (AndN w0 b cnt n mx v z0 L[m] Ms (L.take m) (.int .i64 0)) := by
  obtain ⟨Q, q1, q2, q3⟩ := h.ex
  have h2 := h.hi
  refine (undo_st q1 hm hn (by omega)).mono fun e w' q => h.next q2 q3 q ?_ hlo hhi
  have := h.first
  have e : L.take m ++ [L[m]] = L.take (m + 1) := by simp
  rw [e]
  cases L with
  | nil => simp at hm
  | cons a L => simpa using this
/-- The same, and the list of lists lies as it did. -/
theorem undo_nr {w0 w : World} {b cnt n mx m : Nat} {v : Value} {z0 C : List Int} {Ms L : List (List Int)} (h : NI w0 w b cnt n mx v z0 C Ms L) (hm : m < L.length) (hn : cnt < 1000000) (hmx : mx ≤ 2097152) (hlo : n ≤ L[m].length) (hhi : L[m].length ≤ mx) :
    Calls Try.prog 19 #[.pointer (some ⟨b, 0, none⟩), .int .i64 (m : Int)] w (fun e w' => AndN w0 b cnt n mx v z0 L[m] Ms (L.take m) (.int .i64 0) e w' ∧ ∀ g, v.ownBlock = some g → w'.heap[g]? = w.heap[g]?) := by
  obtain ⟨Q, q1, q2, q3⟩ := h.ex
  have h2 := h.hi
  refine (undo_st q1 hm hn (by omega)).mono fun e w' q => ⟨h.next q2 q3 q ?_ hlo hhi, fun g hg => ?_⟩
  · have := h.first
    have e : L.take m ++ [L[m]] = L.take (m + 1) := by simp
    rw [e]
    cases L with
    | nil => simp at hm
    | cons a L => simpa using this
  · obtain ⟨xs, k1, k2, k3⟩ := q2
    exact q.kp.block g (World.ownsRow.lt k1 g hg).2 (k2 g hg)
theorem cells_ni {w0 w : World} {b cnt n mx : Nat} {v : Value} {z0 C : List Int} {Ms L : List (List Int)} (h : NI w0 w b cnt n mx v z0 C Ms L) (hmx : mx ≤ 100000) : Calls Try.prog 21 #[.pointer (some ⟨b, 0, none⟩)] w (CellsS w C) := by
  obtain ⟨Q, q1, q2, q3⟩ := h.ex
  exact cells_st q1 (Nat.le_trans h.hi hmx)
theorem depth_ni {w0 w : World} {b cnt n mx : Nat} {v : Value} {z0 C : List Int} {Ms L : List (List Int)} (h : NI w0 w b cnt n mx v z0 C Ms L) : Calls Try.prog 13 #[.pointer (some ⟨b, 0, none⟩)] w (AndO w (.int .i64 (L.length : Int))) := by
  obtain ⟨Q, q1, q2, q3⟩ := h.ex
  exact depth_st q1
theorem NI.list {w0 w : World} {b cnt n mx : Nat} {v : Value} {z0 C : List Int} {Ms L : List (List Int)} (h : NI w0 w b cnt n mx v z0 C Ms L) : ∃ A c, v = .slice A Ms.length c ∧ (0 < Ms.length → ∃ g, A = some ⟨g, 0, none⟩ ∧ g < w.heap.size) := by
  obtain ⟨Q, q1, q2, q3⟩ := h.ex
  obtain ⟨A, c, e, hA⟩ := q2.form
  exact ⟨A, c, e, fun h => by obtain ⟨g, e, h1, _⟩ := hA h; exact ⟨g, e, h1⟩⟩
/-- One of the lists that are told. -/
theorem NI.at {w0 w : World} {b cnt n mx g c : Nat} {z0 C : List Int} {Ms L : List (List Int)} (h : NI w0 w b cnt n mx (.slice (some ⟨g, 0, none⟩) Ms.length c) z0 C Ms L) (k : Nat) (hk : k < Ms.length) :
    ∃ A' c', w.cell? ⟨g, k, none⟩ = some (.slice A' Ms[k].length c') ∧ SrcL w A' Ms[k] := by
  obtain ⟨Q, q1, q2, q3⟩ := h.ex
  obtain ⟨A', c', e, ho, _⟩ := q2.at k hk
  exact ⟨A', c', e, ho.srcL⟩
/-- Append of what the cells are. -/
theorem push_ni {w0 w : World} {b cnt n mx : Nat} {v : Value} {z0 C : List Int} {Ms L : List (List Int)}
    {ops : Array Oper} {rest : List Oper} {o : Oper} {a : Act} {K : Exit → Act → World → Prop} (hgd : o.guard = none) (s x : Operand)
    (ho : o.op = .call { callee := .builtin .append, args := #[s, x], argTypes := #[28, 28] }) (hot : o.type = 28) (l : List Int) (A : Option Addr) (c B : Nat)
    (hs : a.eval s = v) (hx : a.eval x = .slice (some ⟨B, 0, none⟩) 1 1) (wb : World) (hwb : wb.heap.size ≤ w.heap.size) (hst : NI w0 wb b cnt n mx v z0 C Ms L) (hgb : wb.grownBy w none) (hB : w.heap[B]? = some (.cells #[.slice A l.length c] 27 (0, 0))) (hl : OwnL w wb.heap.size (.slice A l.length c) l) (hlen : Ms.length < 100000)
    (hK : ∀ v' w', NI w0 w' b cnt n mx v' z0 C (Ms ++ [l]) L → wpList Try.prog ops K rest (a.put o.dst v') w') : wpList Try.prog ops K (o :: rest) a w := by
  obtain ⟨Q, q1, q2, q3⟩ := hst.ex
  have q2' := q2.grown hgb
  have hfl : ∀ g, (Value.slice A l.length c).ownBlock = some g → ¬ Q g := fun g hg q => by
    have h1 := (World.ownsRow.lt hl g hg).1
    have h2 := (q3 g q).2
    omega
  have h0 := hst.kp.size
  refine push_ll hgd s x ho hot w v Q Ms l A c B hs hx hB q2' (ownsRow_zero hl) hfl (fun k hk => Nat.lt_of_lt_of_le (q3 k hk).2 hwb) hlen ?_
  intro v' w' hll hg hv hv'
  have hsz := hg.size
  exact hK v' w' ⟨⟨Q, (q1.grown hgb).kept (Kp.of_grown hg fun k hk => (hv k hk).1), hll, fun k hk => ⟨(q3 k hk).1, by have := (q3 k hk).2; omega⟩⟩, (hst.kp.trans (Kp.none hgb)).trans (Kp.of_grown hg fun k hk => hst.own k hk), hst.first, fun k hk => (hv' k hk).elim (hst.own k) (fun q => by omega), hst.lo, hst.hi⟩
end Go.Proofs.Ytafcecacldafgaa
