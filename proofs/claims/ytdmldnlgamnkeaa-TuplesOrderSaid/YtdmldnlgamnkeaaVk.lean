/- Orders of numbers that lie in memory, for TuplesOrder (no statement of its own). No condition. -/
import Derived.Test.YtdmldnlgamnkeaaVH
namespace Go.Proofs.Ytdmldnlgamnkeaa
open Go.RowKit Go.Maps
set_option linter.unusedVariables false
/-- Numbers below n, none twice. -/
def PermF (p : Nat → Nat) (n : Nat) : Prop := (∀ i, i < n → p i < n) ∧ ∀ i j, i < n → j < n → p i = p j → i = j
theorem permF_id (n : Nat) : PermF (fun i => i) n := ⟨fun i h => h, fun i j _ _ h => h⟩
def swapF (p : Nat → Nat) (a b : Nat) : Nat → Nat := fun i => if i = b then p a else if i = a then p b else p i
theorem permF_swap {p : Nat → Nat} {n a b : Nat} (H : PermF p n) (ha : a < n) (hb : b < n) : PermF (swapF p a b) n := by
  have key : ∀ i, i < n → ∃ i', i' < n ∧ swapF p a b i = p i' ∧ (i = b → i' = a) ∧ (i ≠ b → i = a → i' = b) ∧ (i ≠ b → i ≠ a → i' = i) := fun i hi => by
    unfold swapF
    by_cases h1 : i = b
    · exact ⟨a, ha, by rw [if_pos h1], fun _ => rfl, fun h => absurd h1 h, fun h => absurd h1 h⟩
    · by_cases h2 : i = a
      · exact ⟨b, hb, by rw [if_neg h1, if_pos h2], fun h => absurd h h1, fun _ _ => rfl, fun _ h => absurd h2 h⟩
      · exact ⟨i, hi, by rw [if_neg h1, if_neg h2], fun h => absurd h h1, fun _ h => absurd h h2, fun _ _ => rfl⟩
  refine ⟨fun i hi => ?_, fun i j hi hj h => ?_⟩
  · obtain ⟨i', hi', e, _⟩ := key i hi
    rw [e]
    exact H.1 i' hi'
  · obtain ⟨i', hi', e, a1, a2, a3⟩ := key i hi
    obtain ⟨j', hj', e', b1, b2, b3⟩ := key j hj
    rw [e, e'] at h
    have := H.2 i' j' hi' hj' h
    by_cases i1 : i = b <;> by_cases j1 : j = b <;> by_cases i2 : i = a <;> by_cases j2 : j = a <;> simp_all
theorem permF_surj {p : Nat → Nat} {n : Nat} (H : PermF p n) : ∀ i, i < n → ∃ r, r < n ∧ p r = i := fun i hi => by
  let L := (List.range n).map p
  have hn : L.Pairwise (· ≠ ·) := by
    show ((List.range n).map p).Pairwise (· ≠ ·)
    rw [List.pairwise_map]
    have h0 : (List.range n).Pairwise (fun a b => a < b) := List.pairwise_lt_range
    have h1 : (List.range n).Pairwise (fun a b => a ∈ List.range n ∧ b ∈ List.range n ∧ a < b) := List.pairwise_iff_getElem.2 fun i j hi hj hij => ⟨List.getElem_mem hi, List.getElem_mem hj, List.pairwise_iff_getElem.1 h0 i j hi hj hij⟩
    exact h1.imp fun {a b} h e => by
      have := H.2 a b (List.mem_range.1 h.1) (List.mem_range.1 h.2.1) e
      omega
  by_cases h : i ∈ L
  · obtain ⟨r, hr, e⟩ := List.mem_map.1 h
    exact ⟨r, List.mem_range.1 hr, e⟩
  · have : (i :: L).length ≤ (List.range n).length := nodup_lenG (List.pairwise_cons.2 ⟨fun s hs e => h (e ▸ hs), hn⟩) fun s hs => by
      rcases List.mem_cons.1 hs with rfl | hs
      · exact List.mem_range.2 hi
      · obtain ⟨r, hr, e⟩ := List.mem_map.1 hs
        rw [← e]
        exact List.mem_range.2 (H.1 r (List.mem_range.1 hr))
    have e1 : (i :: L).length = n + 1 := by show ((List.range n).map p).length + 1 = n + 1; rw [List.length_map, List.length_range]
    rw [e1, List.length_range] at this
    omega
/-- A list of numbers lies in the block ga. -/
structure AtB (W : World) (ga n : Nat) (p : Nat → Nat) : Prop where
  row : ∃ cur, W.heap[ga]? = some (.cells cur 3 (0, 0)) ∧ cur.size = n ∧ ∀ i, i < n → cur[i]? = some (.int .i64 (p i : Int))
theorem AtB.cell {W : World} {ga n : Nat} {p : Nat → Nat} (H : AtB W ga n p) {i : Nat} (hi : i < n) : W.cell? ⟨ga, i, none⟩ = some (.int .i64 (p i : Int)) ∧ W.frozen? ⟨ga, i, none⟩ = false := by
  obtain ⟨cur, hc, h1, h2⟩ := H.row
  exact ⟨by rw [cell_of_row _ _ _ _ _ _ hc]; exact h2 i hi, frozen_of_row _ _ _ _ _ hc⟩
theorem AtB.lt {W : World} {ga n : Nat} {p : Nat → Nat} (H : AtB W ga n p) : ga < W.heap.size := by
  obtain ⟨cur, hc, h1, h2⟩ := H.row
  exact (Array.getElem?_eq_some_iff.1 hc).1
theorem AtB.set {W : World} {ga n : Nat} {p p' : Nat → Nat} (H : AtB W ga n p) {i x : Nat} (hi : i < n) (hx : p' i = x) (ho : ∀ j, j < n → j ≠ i → p' j = p j) : AtB (W.setCell ⟨ga, i, none⟩ (.int .i64 (x : Int))) ga n p' := by
  obtain ⟨cur, hc, h1, h2⟩ := H.row
  refine ⟨cur.setIfInBounds i (.int .i64 (x : Int)), heap_setCell_same W ga i cur _ (.int .i64 (x : Int)) hc, by simpa using h1, fun j hj => ?_⟩
  rw [Array.getElem?_setIfInBounds]
  by_cases e : i = j
  · subst e
    rw [if_pos rfl, if_pos (by omega), hx]
  · rw [if_neg e, h2 j hj, ho j hj (fun h => e h.symm)]
theorem AtB.below {W W' : World} {ga n : Nat} {p : Nat → Nat} (H : AtB W ga n p) (hb : Below W.heap.size W W') : AtB W' ga n p := by
  obtain ⟨cur, hc, h1, h2⟩ := H.row
  exact ⟨cur, (hb.block _ (Array.getElem?_eq_some_iff.1 hc).1).trans hc, h1, h2⟩
theorem AtB.other {w w' : World} {ga n : Nat} {p : Nat → Nat} {g b N c : Nat} {A : Option Addr} {l' : List Nat} {k' o : Int} {f : List Nat → Int} (H : AtB w ga n p) (H' : TpAt w g b A c N l' k' o f) (hg : w.grownBy w' (some b)) : AtB w' ga n p := by
  obtain ⟨cur, hc, h1, h2⟩ := H.row
  obtain ⟨D', hm', _⟩ := H'.map
  exact ⟨cur, (hg.block _ (Array.getElem?_eq_some_iff.1 hc).1 (fun e => map_not hm' hc (by injection e))).trans hc, h1, h2⟩
/-- The costs z of those tuples whose numbers have come as p 0, .., p (q - 1), else o. -/
def Ford (l : List Nat) (o : Int) (z : Nat → Int) (p : Nat → Nat) (q : Nat) (f : List Nat → Int) : Prop := ∀ i, i < prodL l → (((∃ r, r < q ∧ p r = i) ∧ f (tupL l i) = z i) ∨ ((¬ ∃ r, r < q ∧ p r = i) ∧ f (tupL l i) = o))
theorem ford_zero (l : List Nat) (o : Int) (z : Nat → Int) (p : Nat → Nat) : Ford l o z p 0 (fun _ => o) := fun i hi => .inr ⟨fun ⟨r, h, _⟩ => Nat.not_lt_zero _ h, rfl⟩
theorem ford_step {l : List Nat} {o x : Int} {z : Nat → Int} {p : Nat → Nat} {q n : Nat} {f : List Nat → Int} (H : Ford l o z p q f) (hp : PermF p n) (hn : prodL l = n) (hq : q < n) : Ford l o z p (q + 1) (updF (updF f (tupL l (p q)) x) (tupL l (p q)) (z (p q))) := fun i hi => by
  have hpq := hp.1 q hq
  by_cases e : i = p q
  · subst e
    exact .inl ⟨⟨q, by omega, rfl⟩, if_pos rfl⟩
  · have ne : tupL l i ≠ tupL l (p q) := fun h => e (by have := congrArg (numL l) h; rw [num_tup hi, num_tup (by omega)] at this; exact this)
    have e1 : updF (updF f (tupL l (p q)) x) (tupL l (p q)) (z (p q)) (tupL l i) = f (tupL l i) := by unfold updF; rw [if_neg ne, if_neg ne]
    rw [e1]
    rcases H i hi with ⟨⟨r, hr, h1⟩, h2⟩ | ⟨h1, h2⟩
    · exact .inl ⟨⟨r, by omega, h1⟩, h2⟩
    · refine .inr ⟨fun ⟨r, hr, h⟩ => ?_, h2⟩
      by_cases er : r = q
      · subst er
        exact e h.symm
      · exact h1 ⟨r, by omega, h⟩
theorem ford_done {l : List Nat} {o : Int} {z : Nat → Int} {p : Nat → Nat} {n : Nat} {f : List Nat → Int} (H : Ford l o z p n f) (hp : PermF p n) (hn : prodL l = n) : ∀ i, i < n → f (tupL l i) = z i := fun i hi => by
  rcases H i (by omega) with ⟨_, h⟩ | ⟨h, _⟩
  · exact h
  · exact absurd (permF_surj hp i hi) h
end Go.Proofs.Ytdmldnlgamnkeaa
