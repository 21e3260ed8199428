/- Two places go in whichever order: the least is the same; the least of all is the least entry (no statement of its own). -/
import Derived.Test.YtnjceffbhjiioaaDoorTbX
namespace Go.Proofs.YtnjceffbhjiioaaDoor
set_option linter.unusedVariables false
open Dm (Mem mem)
theorem mem_full (n : Nat) : mem n (2 ^ n - 1) = List.range n := by
  unfold Dm.mem
  rw [List.filter_eq_self]
  intro i hi
  rw [Nat.testBit_two_pow_sub_one]
  simpa using hi
/-- x is the least of those that S holds of. -/
def LeastOf (S : Int → Prop) (x : Int) : Prop := S x ∧ ∀ y, S y → x ≤ y
theorem LeastOf.eq {S : Int → Prop} {x y : Int} (h : LeastOf S x) (k : LeastOf S y) : x = y := Int.le_antisymm (h.2 _ k.1) (k.2 _ h.1)
theorem LeastOf.iff {S S' : Int → Prop} {x : Int} (h : LeastOf S x) (hs : ∀ y, S y ↔ S' y) : LeastOf S' x := ⟨(hs x).1 h.1, fun y hy => h.2 y ((hs y).2 hy)⟩
theorem out_least (l : List Nat) (z : Nat → Int) (k : Int) (p : Nat) (hp : p < l.length) (hn : 1 ≤ nth l p) (i : Nat) :
    LeastOf (fun y => ∃ v, v < nth l p ∧ y = z (numL l (insL (tupL (l.eraseIdx p) i) p v))) (outL l z k p (List.range (nth l p)) i).1 := by
  have hin : ∀ v, numL l (insL (tupL (l.eraseIdx p) i) p v) = numL l (insL (tupL (l.eraseIdx p) i) p 0) + v * prodL (l.drop (p + 1)) := fun v => insL_num (by rw [tupL_length]; exact erase_len hp) hp v
  unfold outL
  rcases leastL_spec (fun v => z (numL l (insL (tupL (l.eraseIdx p) i) p 0) + v * prodL (l.drop (p + 1)))) k (List.range (nth l p)) with ⟨h, _⟩ | ⟨v, hv, e, hx⟩
  · have := congrArg List.length h
    simp at this
    omega
  · rw [e]
    refine ⟨⟨v, by simpa using hv, by rw [hin v]⟩, ?_⟩
    rintro y ⟨x, hxl, rfl⟩
    rw [hin x]
    exact hx x (by simpa using hxl)
/-- The least over two places. -/
theorem out_two (a b : Nat) (r : List Nat) (z : Nat → Int) (k : Int) (hr : ∀ n ∈ a :: b :: r, 1 ≤ n) (i : Nat) (hi : i < prodL r) :
    LeastOf (fun y => ∃ v0 v1, v0 < a ∧ v1 < b ∧ y = z (numL (a :: b :: r) (v0 :: v1 :: tupL r i))) (outL (b :: r) (fun j => (outL (a :: b :: r) z k 0 (List.range a) j).1) k 0 (List.range b) i).1 := by
  have hb := out_least (b :: r) (fun j => (outL (a :: b :: r) z k 0 (List.range a) j).1) k 0 (by simp) (hr b (by simp)) i
  have ha := fun j => out_least (a :: b :: r) z k 0 (by simp) (hr a (by simp)) j
  have ti : InL r (tupL r i) := tupL_in (fun n hn => hr n (by simp [hn])) i
  have tj : ∀ v, v < b → tupL (b :: r) (numL (b :: r) (v :: tupL r i)) = v :: tupL r i := fun v hv => InL.tup (l := b :: r) (t := v :: tupL r i) ⟨hv, ti⟩
  refine ⟨?_, ?_⟩
  · obtain ⟨v1, hv1, e1⟩ := hb.1
    obtain ⟨v0, hv0, e0⟩ := (ha (numL (b :: r) (v1 :: tupL r i))).1
    refine ⟨v0, v1, hv0, hv1, e1.trans (e0.trans ?_)⟩
    show z (numL (a :: b :: r) (insL (tupL (b :: r) (numL (b :: r) (v1 :: tupL r i))) 0 v0)) = _
    rw [tj v1 hv1]
    rfl
  · rintro y ⟨v0, v1, h0, h1, rfl⟩
    refine Int.le_trans (hb.2 _ ⟨v1, h1, rfl⟩) ((ha (numL (b :: r) (v1 :: tupL r i))).2 _ ⟨v0, h0, ?_⟩)
    show _ = z (numL (a :: b :: r) (insL (tupL (b :: r) (numL (b :: r) (v1 :: tupL r i))) 0 v0))
    rw [tj v1 h1]
    rfl
theorem out_two' (a b : Nat) (r : List Nat) (z : Nat → Int) (k : Int) (hr : ∀ n ∈ a :: b :: r, 1 ≤ n) (i : Nat) (hi : i < prodL r) :
    LeastOf (fun y => ∃ v0 v1, v0 < a ∧ v1 < b ∧ y = z (numL (a :: b :: r) (v0 :: v1 :: tupL r i))) (outL (a :: r) (fun j => (outL (a :: b :: r) z k 1 (List.range b) j).1) k 0 (List.range a) i).1 := by
  have ha := out_least (a :: r) (fun j => (outL (a :: b :: r) z k 1 (List.range b) j).1) k 0 (by simp) (hr a (by simp)) i
  have hb := fun j => out_least (a :: b :: r) z k 1 (by simp) (hr b (by simp)) j
  have ti : InL r (tupL r i) := tupL_in (fun n hn => hr n (by simp [hn])) i
  have tj : ∀ v, v < a → tupL (a :: r) (numL (a :: r) (v :: tupL r i)) = v :: tupL r i := fun v hv => InL.tup (l := a :: r) (t := v :: tupL r i) ⟨hv, ti⟩
  refine ⟨?_, ?_⟩
  · obtain ⟨v0, hv0, e0⟩ := ha.1
    obtain ⟨v1, hv1, e1⟩ := (hb (numL (a :: r) (v0 :: tupL r i))).1
    refine ⟨v0, v1, hv0, hv1, e0.trans (e1.trans ?_)⟩
    show z (numL (a :: b :: r) (insL (tupL (a :: r) (numL (a :: r) (v0 :: tupL r i))) 1 v1)) = _
    rw [tj v0 hv0]
    rfl
  · rintro y ⟨v0, v1, h0, h1, rfl⟩
    refine Int.le_trans (ha.2 _ ⟨v0, h0, rfl⟩) ((hb (numL (a :: r) (v0 :: tupL r i))).2 _ ⟨v1, h1, ?_⟩)
    show _ = z (numL (a :: b :: r) (insL (tupL (a :: r) (numL (a :: r) (v0 :: tupL r i))) 1 v1))
    rw [tj v0 h0]
    rfl
theorem twice_same (a b : Nat) (r : List Nat) (z : Nat → Int) (k : Int) (hr : ∀ n ∈ a :: b :: r, 1 ≤ n) (i : Nat) (hi : i < prodL r) :
    (outL (b :: r) (fun j => (outL (a :: b :: r) z k 0 (List.range a) j).1) k 0 (List.range b) i).1 = (outL (a :: r) (fun j => (outL (a :: b :: r) z k 1 (List.range b) j).1) k 0 (List.range a) i).1 :=
  (out_two a b r z k hr i hi).eq (out_two' a b r z k hr i hi)
theorem minZ_least (z : Nat → Int) (m : Nat) : LeastOf (fun y => ∃ i, i < m + 1 ∧ y = z i) (minZ z m) := by
  induction m with
  | zero => exact ⟨⟨0, by omega, rfl⟩, by rintro y ⟨i, hi, rfl⟩; obtain rfl : i = 0 := by omega
                                          exact Int.le_refl _⟩
  | succ m ih =>
    show LeastOf _ (min (minZ z m) (z (m + 1)))
    refine ⟨?_, ?_⟩
    · rcases Int.le_total (minZ z m) (z (m + 1)) with h | h
      · rw [Int.min_eq_left h]
        obtain ⟨i, hi, e⟩ := ih.1
        exact ⟨i, by omega, e⟩
      · rw [Int.min_eq_right h]
        exact ⟨m + 1, by omega, rfl⟩
    · rintro y ⟨i, hi, rfl⟩
      by_cases e : i = m + 1
      · subst e
        exact Int.min_le_right _ _
      · exact Int.le_trans (Int.min_le_left _ _) (ih.2 _ ⟨i, by omega, rfl⟩)
theorem least_all2 (a b : Nat) (z : Nat → Int) (k : Int) (hr : ∀ n ∈ [a, b], 1 ≤ n) (m : Nat) (hm : prodL [a, b] = m + 1) :
    (outL [b] (fun j => (outL [a, b] z k 0 (List.range a) j).1) k 0 (List.range b) 0).1 = minZ z m := by
  refine (out_two a b [] z k hr 0 (by decide)).eq ((minZ_least z m).iff fun y => ?_)
  constructor
  · rintro ⟨i, hi, rfl⟩
    have ht : InL [a, b] (tupL [a, b] i) := tupL_in hr i
    have hn : numL [a, b] (tupL [a, b] i) = i := num_tup (by omega)
    generalize tupL [a, b] i = t at ht hn
    rcases t with _ | ⟨v0, _ | ⟨v1, _ | ⟨x, t⟩⟩⟩
    · exact ht.elim
    · exact ht.2.elim
    · exact ⟨v0, v1, ht.1, ht.2.1, by rw [show tupL [] 0 = [] from rfl, hn]⟩
    · exact ht.2.2.elim
  · rintro ⟨v0, v1, h0, h1, rfl⟩
    exact ⟨numL [a, b] [v0, v1], by rw [← hm]; exact InL.num_lt (l := [a, b]) (t := [v0, v1]) ⟨h0, h1, trivial⟩, rfl⟩
theorem least_all3 (a b c : Nat) (z : Nat → Int) (k : Int) (hr : ∀ n ∈ [a, b, c], 1 ≤ n) (m : Nat) (hm : prodL [a, b, c] = m + 1) :
    (outL [c] (fun i => (outL [b, c] (fun j => (outL [a, b, c] z k 0 (List.range a) j).1) k 0 (List.range b) i).1) k 0 (List.range c) 0).1 = minZ z m := by
  have hc := out_least [c] (fun i => (outL [b, c] (fun j => (outL [a, b, c] z k 0 (List.range a) j).1) k 0 (List.range b) i).1) k 0 (by simp) (hr c (by simp)) 0
  have h2 := fun i hi => out_two a b [c] z k hr i hi
  have tj : ∀ v, v < c → tupL [c] (numL [c] [v]) = [v] := fun v hv => InL.tup (l := [c]) (t := [v]) ⟨hv, trivial⟩
  have hl : ∀ v, v < c → numL [c] [v] < prodL [c] := fun v hv => InL.num_lt (l := [c]) (t := [v]) ⟨hv, trivial⟩
  have hall : LeastOf (fun y => ∃ v0 v1 v2, v0 < a ∧ v1 < b ∧ v2 < c ∧ y = z (numL [a, b, c] [v0, v1, v2])) (outL [c] (fun i => (outL [b, c] (fun j => (outL [a, b, c] z k 0 (List.range a) j).1) k 0 (List.range b) i).1) k 0 (List.range c) 0).1 := by
    refine ⟨?_, ?_⟩
    · obtain ⟨v2, hv2, e2⟩ := hc.1
      have hv2' : v2 < c := hv2
      obtain ⟨v0, v1, h0, h1, e⟩ := (h2 (numL [c] [v2]) (hl v2 hv2')).1
      refine ⟨v0, v1, v2, h0, h1, hv2', e2.trans (e.trans ?_)⟩
      rw [tj v2 hv2']
    · rintro y ⟨v0, v1, v2, h0, h1, hv2, rfl⟩
      refine Int.le_trans (hc.2 _ ⟨v2, hv2, rfl⟩) ((h2 (numL [c] [v2]) (hl v2 hv2)).2 _ ⟨v0, v1, h0, h1, ?_⟩)
      rw [tj v2 hv2]
  refine hall.eq ((minZ_least z m).iff fun y => ?_)
  constructor
  · rintro ⟨i, hi, rfl⟩
    have ht : InL [a, b, c] (tupL [a, b, c] i) := tupL_in hr i
    have hn : numL [a, b, c] (tupL [a, b, c] i) = i := num_tup (by omega)
    generalize tupL [a, b, c] i = t at ht hn
    rcases t with _ | ⟨v0, _ | ⟨v1, _ | ⟨v2, _ | ⟨x, t⟩⟩⟩⟩
    · exact ht.elim
    · exact ht.2.elim
    · exact ht.2.2.elim
    · exact ⟨v0, v1, v2, ht.1, ht.2.1, ht.2.2.1, by rw [hn]⟩
    · exact ht.2.2.2.elim
  · rintro ⟨v0, v1, v2, h0, h1, h2, rfl⟩
    exact ⟨numL [a, b, c] [v0, v1, v2], by rw [← hm]; exact InL.num_lt (l := [a, b, c]) (t := [v0, v1, v2]) ⟨h0, h1, h2, trivial⟩, rfl⟩
end Go.Proofs.YtnjceffbhjiioaaDoor
