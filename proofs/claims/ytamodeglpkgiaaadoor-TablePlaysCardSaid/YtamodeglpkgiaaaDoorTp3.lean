/- What the law TablePlays holds from call to call (no statement of its own). -/
import Derived.Test.YtamodeglpkgiaaaDoorTp2
import Derived.Test.YtamodeglpkgiaaaDoorLk
import Derived.Test.YtamodeglpkgiaaaDoorTbO
import Derived.Test.YtamodeglpkgiaaaDoorTc1
import Derived.Test.YtamodeglpkgiaaaDoorTt5
namespace Go.Proofs.YtamodeglpkgiaaaDoor
open Go.RowKit
set_option linter.unusedVariables false
/-- A call that came in, at q. -/
structure ActJ (w : World) (q : Addr) (d : Int) (ta : Option Addr) (tn tc : Nat) (o : Nat → Int) (c : Int) : Prop where
  lt : q.block < w.heap.size
  c0 : w.cell? q = some (.int .u8 d)
  c1 : w.cell? ⟨q.block, q.off + 1, none⟩ = some (.slice ta tn tc)
  c2 : w.cell? ⟨q.block, q.off + 2, none⟩ = some (.int .i64 c)
  d0 : 0 ≤ d
  d1 : d ≤ 255
  x : Ext w ta tn o
  cap : tn ≤ tc
theorem ActJ.below {w w' : World} {q : Addr} {d : Int} {ta : Option Addr} {tn tc : Nat} {o : Nat → Int} {c : Int} (h : ActJ w q d ta tn tc o c) (hb : Below w.heap.size w w') : ActJ w' q d ta tn tc o c :=
  ⟨Nat.lt_of_lt_of_le h.lt hb.size, (hb.cell (p := q) h.lt).trans h.c0, (hb.cell (p := ⟨q.block, q.off + 1, none⟩) h.lt).trans h.c1, (hb.cell (p := ⟨q.block, q.off + 2, none⟩) h.lt).trans h.c2, h.d0, h.d1, h.x.below hb, h.cap⟩
/-- A list of calls that came in. -/
def Acts (w : World) (A : Option Addr) (n : Nat) : Prop := ∀ j, j < n → ∃ p d ta tn tc o c, A = some p ∧ ActJ w (p.add (j * 3)) d ta tn tc o c
/-- What was made, and the document's, from call to call. -/
structure PlS (w : World) (bx g h gc : Nat) (As : Option Addr) (n cs cc P : Nat) (l : List Nat) (k : Int) (z : Nat → Int) (W : World) : Prop where
  x : W.heap[bx]? = some (.cells #[.slice As n cs, .int .i64 k, .slice (some ⟨gc, 0, none⟩) P cc] 31 (0, 0))
  t : TabAt W g h l k z
  i : Ints W As l
  c : ∃ cur, W.heap[gc]? = some (.cells cur 2 (0, 0)) ∧ P ≤ cur.size ∧ ∀ i, i < P → cur[i]? = some (.int .i64 (z i))
  bel : Below w.heap.size w W
  inn : ∀ i, i < P → 0 ≤ z i ∧ z i ≤ k
/-- Which blocks are which. -/
structure PlB (w : World) (bx g h gc : Nat) (As : Option Addr) : Prop where
  hh : w.heap.size ≤ h
  hc : w.heap.size ≤ gc
  ne : gc ≠ h
  xh : bx ≠ h
  xc : bx ≠ gc
  gh : g ≠ h
  gg : g ≠ gc
  ah : ∀ a : Addr, As = some a → a.block ≠ h ∧ a.block ≠ gc
theorem PlS.next {w W W' : World} {bx g h gc : Nat} {As : Option Addr} {n cs cc P : Nat} {l : List Nat} {k : Int} {z : Nat → Int} (H : PlS w bx g h gc As n cs cc P l k z W) (hb : Below W.heap.size W W') : PlS w bx g h gc As n cs cc P l k z W' := by
  obtain ⟨cur, hc, h1, h2⟩ := H.c
  exact ⟨(hb.block _ (Array.getElem?_eq_some_iff.1 H.x).1).trans H.x, H.t.below hb, H.i.below hb (Nat.le_refl _), ⟨cur, (hb.block _ (Array.getElem?_eq_some_iff.1 hc).1).trans hc, h1, h2⟩, then_ H.bel hb, H.inn⟩
theorem PlS.cells {w W : World} {bx g h gc : Nat} {As : Option Addr} {n cs cc P : Nat} {l : List Nat} {k : Int} {z : Nat → Int} (H : PlS w bx g h gc As n cs cc P l k z W) :
    W.cell? ⟨bx, 0, none⟩ = some (.slice As n cs) ∧ W.cell? ⟨bx, 1, none⟩ = some (.int .i64 k) ∧ W.cell? ⟨bx, 2, none⟩ = some (.slice (some ⟨gc, 0, none⟩) P cc) := by
  refine ⟨?_, ?_, ?_⟩ <;> (rw [cell_of_row _ _ _ _ _ _ H.x]; rfl)
theorem PlS.zs {w W : World} {bx g h gc : Nat} {As : Option Addr} {n cs cc P : Nat} {l : List Nat} {k : Int} {z : Nat → Int} (H : PlS w bx g h gc As n cs cc P l k z W) : Zs W (some ⟨gc, 0, none⟩) P z := by
  obtain ⟨cur, hc, h1, h2⟩ := H.c
  exact .inr ⟨gc, 0, rfl, (Array.getElem?_eq_some_iff.1 hc).1, fun i hi => by rw [Nat.zero_add, cell_of_row _ _ _ _ _ _ hc]; exact h2 i hi⟩
theorem PlS.costs {w W : World} {bx g h gc : Nat} {As : Option Addr} {n cs cc P : Nat} {l : List Nat} {k : Int} {z : Nat → Int} (H : PlS w bx g h gc As n cs cc P l k z W) {i : Nat} (hi : i < P) : W.cell? ⟨gc, i, none⟩ = some (.int .i64 (z i)) ∧ W.frozen? ⟨gc, i, none⟩ = false := by
  obtain ⟨cur, hc, h1, h2⟩ := H.c
  exact ⟨by rw [cell_of_row _ _ _ _ _ _ hc]; exact h2 i hi, frozen_of_row _ _ _ _ _ hc⟩
/-- Put, and the document's store. -/
theorem PlS.put {w W W1 : World} {bx g h gc : Nat} {As : Option Addr} {n cs cc P N : Nat} {l : List Nat} {k x : Int} {z : Nat → Int} (H : PlS w bx g h gc As n cs cc P l k z W) (B : PlB w bx g h gc As) (hP : prodL l = P) (hN : N < P) (hx0 : 0 ≤ x) (hx1 : x ≤ k)
    (ht : TabAt W1 g h l k (fun i => if i = N then x else z i)) (hg : W.grownBy W1 (some h)) :
    PlS w bx g h gc As n cs cc P l k (fun i => if i = N then x else z i) (W1.setCell ⟨gc, N, none⟩ (.int .i64 x)) := by
  have hz := H.bel.size
  obtain ⟨cur, hc, h1, h2⟩ := H.c
  have ne : ∀ b, b ≠ gc → (W1.setCell ⟨gc, N, none⟩ (.int .i64 x)).heap[b]? = W1.heap[b]? := fun b hb => Below.heap_setCell W1 ⟨gc, N, none⟩ _ b (fun e => hb e)
  have K : ∀ b, b < W.heap.size → b ≠ h → b ≠ gc → (W1.setCell ⟨gc, N, none⟩ (.int .i64 x)).heap[b]? = W.heap[b]? := fun b hb e1 e2 => (ne b e2).trans (hg.block b hb (fun e => e1 (by injection e)))
  have hgc1 : W1.heap[gc]? = some (.cells cur 2 (0, 0)) := (hg.block gc (Array.getElem?_eq_some_iff.1 hc).1 (fun e => B.ne (by injection e))).trans hc
  refine ⟨(K bx (Array.getElem?_eq_some_iff.1 H.x).1 B.xh B.xc).trans H.x, ?_, ?_, ?_, ?_, ?_⟩
  · obtain ⟨cur', hc', h1', h2'⟩ := ht.costs
    exact ⟨(ne g B.gg).trans ht.row, cur', (ne h (fun e => B.ne e.symm)).trans hc', h1', h2'⟩
  · rcases H.i with h0 | ⟨ga, oa, e, hlt, hci⟩
    · exact .inl h0
    · have hab := B.ah _ e
      have hsz : ga < (W1.setCell ⟨gc, N, none⟩ (.int .i64 x)).heap.size := by have := hg.size; simp [World.setCell]; omega
      exact .inr ⟨ga, oa, e, hsz, fun i hi => (World.cell?_of_block (a := ⟨ga, oa + i, none⟩) (K ga hlt hab.1 hab.2)).trans (hci i hi)⟩
  · refine ⟨cur.setIfInBounds N (.int .i64 x), ?_, by simpa using h1, fun i hi => ?_⟩
    · have := heap_setCell_same W1 gc N cur _ (.int .i64 x) hgc1
      exact this
    · rw [Array.getElem?_setIfInBounds]
      by_cases e : N = i
      · subst e
        rw [if_pos rfl, if_pos (by omega)]
        simp
      · rw [if_neg e, h2 i hi]
        exact congrArg some (congrArg (Value.int .i64) (if_neg (fun h' => e h'.symm)).symm)
  · refine Below.setCell ?_ (p := ⟨gc, N, none⟩) B.hc _
    exact below_grown H.bel hg (Nat.le_refl _) B.hh
  · intro i hi
    show 0 ≤ (if i = N then x else z i) ∧ (if i = N then x else z i) ≤ k
    split
    · exact ⟨hx0, hx1⟩
    · exact H.inn i hi
theorem plS_far {w W W1 : World} {bx g h gc : Nat} {As : Option Addr} {n cs cc P N : Nat} {l : List Nat} {k : Int} {z : Nat → Int} (H : PlS w bx g h gc As n cs cc P l k z W) (B : PlB w bx g h gc As) (hg : W.grownBy W1 (some h)) (hN : N < P) :
    W1.cell? ⟨gc, N, none⟩ = some (.int .i64 (z N)) ∧ W1.frozen? ⟨gc, N, none⟩ = false := by
  obtain ⟨cur, hc, h1, h2⟩ := H.c
  have hb := (hg.block gc (Array.getElem?_eq_some_iff.1 hc).1 (fun e => B.ne (by injection e))).trans hc
  exact ⟨by rw [cell_of_row _ _ _ _ _ _ hb]; exact h2 N hN, frozen_of_row _ _ _ _ _ hb⟩
/-- What the store behind More reads. -/
abbrev HoldX (bx b12 gc P cc : Nat) (k cv : Int) (W : World) : Prop :=
  W.cell? ⟨bx, 1, none⟩ = some (.int .i64 k) ∧ W.cell? ⟨bx, 2, none⟩ = some (.slice (some ⟨gc, 0, none⟩) P cc) ∧ W.cell? ⟨b12, 2, none⟩ = some (.int .i64 cv)
theorem holdX_set {W : World} {bx b12 gc P cc : Nat} {k cv : Int} (H : HoldX bx b12 gc P cc k cv W) (h1 : bx ≠ gc) (h2 : b12 ≠ gc) (i : Nat) (u : Value) : HoldX bx b12 gc P cc k cv (W.setCell ⟨gc, i, none⟩ u) := by
  obtain ⟨a0, a1, a2⟩ := H
  have K : ∀ c j v, c ≠ gc → W.cell? ⟨c, j, none⟩ = some v → (W.setCell ⟨gc, i, none⟩ u).cell? ⟨c, j, none⟩ = some v := fun c j v hc h => by
    rw [World.cell?_setCell_other _ _ _ _ (by intro e; injection e with e1; exact hc (by first | exact e1 | exact e1.symm))]; exact h
  exact ⟨K _ _ _ h1 a0, K _ _ _ h1 a1, K _ _ _ h2 a2⟩
theorem notOut {l : List Nat} {m : Nat} {o : Nat → Int} (h : ¬ OutL l m o) : m = l.length ∧ InL l ((List.range m).map fun i => (o i).toNat) ∧ ∀ i, i < m → 0 ≤ o i := by
  have hm : m = l.length := by
    by_cases e : m = l.length
    · exact e
    · exact absurd (.inl e) h
  have hb : ∀ i, i < m → 0 ≤ o i ∧ o i < (nth l i : Int) := fun i hi => by
    by_cases c : o i < 0 ∨ (nth l i : Int) ≤ o i
    · exact absurd (.inr ⟨i, hi, by omega, c⟩) h
    · omega
  refine ⟨hm, inL_iff.2 ⟨by simp [hm], fun p hp => ?_⟩, fun i hi => (hb i hi).1⟩
  rw [nth_range (by omega)]
  have := hb p (by omega)
  omega
theorem zs_nat {w : World} {A : Option Addr} {n : Nat} {o : Nat → Int} (h : Zs w A n o) (h0 : ∀ i, i < n → 0 ≤ o i) : Ints w A ((List.range n).map fun i => (o i).toNat) := by
  rcases h with h1 | ⟨g, a, e, hlt, hc⟩
  · exact .inl (by rw [h1]; rfl)
  · refine .inr ⟨g, a, e, hlt, fun i hi => ?_⟩
    have hi' : i < n := by simpa using hi
    rw [hc i hi', nth_range hi', Int.toNat_of_nonneg (h0 i hi')]
theorem index_outl (A : Option Addr) (m c : Nat) (l : List Nat) (o : Nat → Int) (w : World) (hm : m ≤ 1000) (h6 : l.length ≤ 6) (h32 : ∀ n ∈ l, n ≤ 32) (hr : Zs w A m o) (h : OutL l m o) :
    Calls Tryd.prog 37 #[shV l, .slice A m c] w fun e w' => e = .returned (.tuple #[.int .i64 0, .int .i64 3]) ∧ Below w.heap.size w w' := by
  by_cases e : m = l.length
  · rcases h with h | ⟨p, hp, _, hbad⟩
    · exact absurd e h
    · rcases first_at (fun i => o i < 0 ∨ (nth l i : Int) ≤ o i) m with h0 | ⟨q, hq, h2, h3⟩
      · exact absurd hbad (h0 p hp)
      · exact index_out A m c q o l w e h6 h32 hr hq (fun i hi => by have := h2 i hi; omega) h3
  · exact index_len A m c l w e (by omega)
end Go.Proofs.YtamodeglpkgiaaaDoor
