/- Contracts of slices.Delete of one place, and of slices.Insert of a nought where there is no room (no statement of its own). -/
import Derived.Test.YtpdcpaoabalgcaaGreatDoorTbN
import Derived.Test.YtpdcpaoabalgcaaGreatDoorTbM
namespace Go.Proofs.YtpdcpaoabalgcaaGreatDoor
open Go.RowKit
set_option linter.unusedVariables false
theorem below_setCellsN {B : Nat} {a : World} (b : Nat) (hb : B ≤ b) : ∀ (vs : List Value) (o : Nat) {w : World}, Below B a w → Below B a (w.setCells b o vs)
  | [], _, _, h => h
  | v :: r, o, _, h => below_setCellsN b hb r (o + 1) (h.setCell (p := ⟨b, o, none⟩) hb v)
theorem below_putRow {α : Type} [Inhabited α] {B g : Nat} {a w : World} (enc : α → Value) (q o : Nat) (d : Array α) (h : Below B a w) (hg : B ≤ g) : Below B a (Sort.putRow enc (Sort.ahead w q) g o d) :=
  ⟨h.os, h.tape, h.output, by simpa [Sort.putRow, Sort.mapBlock, Sort.ahead] using h.size, fun k hk => by
    have e : (Sort.putRow enc (Sort.ahead w q) g o d).heap[k]? = w.heap[k]? := by
      simp only [Sort.putRow, Sort.mapBlock, Sort.ahead]
      rw [Array.getElem?_modify, if_neg (by omega)]
    rw [e]
    exact h.block k hk⟩
set_option maxHeartbeats 1000000 in
theorem delete_any (A : Option Addr) (n c p base : Nat) (l : List Nat) (i j : Int) (w : World) (hn : n = l.length) (hO : Own w base (.slice A n c) l) (hb : base ≤ w.heap.size) (hp : p < l.length) (hi : i = p) (hj : j = p + 1) :
    Calls Tryz.prog 59 #[.slice A n c, .int .i64 i, .int .i64 j] w fun e w' => e = .returned (.slice A (n - 1) c) ∧ Ints w' A (l.eraseIdx p) ∧ Below base w w' ∧ (∀ b, (∀ a : Addr, A = some a → a.block ≠ b) → w'.heap[b]? = w.heap[b]?) := by
  subst hn hi hj
  obtain ⟨h1, ⟨h2, hn⟩ | ⟨g, cap, cur, h2, hg, hh, hm, hx, hs, ht⟩⟩ := hO
  · omega
  · injection h2 with e1 e2 e3
    subst e1 e3
    have hlt : g < w.heap.size := (Array.getElem?_eq_some_iff.1 hh).1
    have hcell : ∀ k, k < l.length → w.cell? ⟨g, 0 + k, none⟩ = some (.int .i64 (nth l k : Int)) := fun k hk => by
      rw [Nat.zero_add, cell_of_row _ _ _ _ _ _ hh]
      have e : (cur.toList.take (l.length * 1))[k]? = some (.int .i64 (nth l k : Int)) := by rw [ht, intC_at hk]
      rw [List.getElem?_take] at e
      simpa [hk] using e
    have hH : Sort.Holds (Value.int .i64) w g 0 (l.map fun x : Nat => (x : Int)).toArray := fun k hk => by
      have hk' : k < l.length := by simpa using hk
      refine ⟨?_, ?_⟩
      · rw [hcell k hk', getElem!_pos _ k (by simpa using hk')]
        simp [nth, List.getD_eq_getElem?_getD, List.getElem?_eq_getElem hk']
      · rw [Nat.zero_add]
        simp [World.frozen?, hh]
    have C := Tryz.slices_Delete_int g 0 c p (p + 1) (l.map fun x : Nat => (x : Int)) w hH (by simpa using hm) (by unfold maxLen at hx; omega) (by omega) (by simp; omega)
    rw [List.length_map] at C
    refine (show Calls Tryz.prog 59 #[.slice (some ⟨g, 0, none⟩) l.length c, .int .i64 (p : Int), .int .i64 ((p : Int) + 1)] w _ from by simpa using C).mono ?_
    rintro e w' ⟨rfl, q, rfl⟩
    have ea : (l.map (fun x : Nat => (x : Int))).take p ++ ((l.map (fun x : Nat => (x : Int))).drop (p + 1) ++ [0]) = (l.eraseIdx p).map (fun x : Nat => (x : Int)) ++ [0] := by
      rw [List.eraseIdx_eq_take_drop_succ, List.map_append, List.map_take, List.map_drop, List.append_assoc]
    have hle : (l.eraseIdx p).length + 1 = l.length := erase_len hp
    rw [ea]
    refine ⟨by simp, .inr ⟨g, 0, rfl, by simpa [Sort.putRow, Sort.mapBlock, Sort.ahead] using hlt, fun k hk => ?_⟩, below_putRow _ _ _ _ ((Below.refl _ _).mono hb) hg, fun b hne => ?_⟩
    rotate_left
    · have h := hne _ rfl
      simp only [Sort.putRow, Sort.mapBlock, Sort.ahead]
      rw [Array.getElem?_modify, if_neg h]
    rw [Sort.cell?_putRow (Value.int .i64) (Sort.ahead w q) g 0 (l.map fun x : Nat => (x : Int)).toArray _ hH (by simp; omega) k (by simp; omega)]
    rw [getElem!_pos _ k (by simp; omega)]
    have e2 : ((l.eraseIdx p).map (fun x : Nat => (x : Int)) ++ [0])[k]'(by simp; omega) = ((l.eraseIdx p)[k] : Int) := by
      rw [List.getElem_append_left (by simpa using hk)]
      simp
    simp [nth, List.getD_eq_getElem?_getD, List.getElem?_eq_getElem hk, e2]
theorem insL_nth (t : List Nat) (p v k : Nat) (hp : p ≤ t.length) (hk : k < t.length + 1) : nth (insL t p v) k = if k < p then nth t k else if k = p then v else nth t (k - 1) := by
  unfold nth insL
  simp only [List.getD_eq_getElem?_getD]
  by_cases h1 : k < p
  · rw [if_pos h1, List.getElem?_append_left (by rw [List.length_take]; omega), List.getElem?_take, if_pos h1]
  · rw [if_neg h1, List.getElem?_append_right (by rw [List.length_take]; omega), List.length_take, show min p t.length = p by omega]
    by_cases h2 : k = p
    · subst h2
      simp
    · rw [if_neg h2, show k - p = (k - p - 1) + 1 by omega, List.getElem?_cons_succ, List.getElem?_drop, show p + (k - p - 1) = k - 1 by omega]
theorem zeros_size (n : Nat) : (Builtin.zeroCells (Value.int .i64 0).cells n).size = n := by simp [Builtin.zeroCells, Value.cells]
set_option maxHeartbeats 1000000 in
/-- slices.Insert of a nought into a slice without spare room. -/
theorem insert_any (g p vg vc : Nat) (n : Nat) (t : List Nat) (i : Int) (w : World) (hn : n = t.length) (hT : Ints w (some ⟨g, 0, none⟩) t) (hv : w.cell? ⟨vg, 0, none⟩ = some (.int .i64 0)) (hl : n ≤ 100000) (hp : p ≤ n) (hi : i = p) :
    Calls Tryz.prog 60 #[.slice (some ⟨g, 0, none⟩) n n, .int .i64 i, .slice (some ⟨vg, 0, none⟩) 1 vc] w fun e w' => (∃ c', e = .returned (.slice (some ⟨w.heap.size, 0, none⟩) (n + 1) c')) ∧ Ints w' (some ⟨w.heap.size, 0, none⟩) (insL t p 0) ∧ Below w.heap.size w w' := by
  subst hi hn
  have hcs : ∀ j v, (intC t)[j]? = some v → w.cell? ⟨g, 0 + j, none⟩ = some v := fun j v hj => by
    have := hT.news j v hj
    rwa [show ((⟨g, 0, none⟩ : Addr).add j) = ⟨g, 0 + j, none⟩ by (simp [Addr.add]; try omega)] at this
  have hvs : ∀ j v, [Value.int .i64 0][j]? = some v → w.cell? ⟨vg, 0 + j, none⟩ = some v := fun j v hj => by
    rcases j with _ | j
    · simp at hj; subst hj; exact hv
    · simp at hj
  have h1v : ∀ v ∈ [Value.int .i64 0], v.oneCell' = true := fun v h => by simp at h; subst h; rfl
  rcases Nat.lt_or_ge p t.length with hlt | hge
  · have C := Any2.slices_Insert_int_grow Tryz.laysNm221 g 0 t.length t.length p vg 0 1 vc (intC t) [.int .i64 0] w hlt (by omega) (Nat.le_refl _) (by omega) (by omega) (intC_len t) rfl hcs hvs (intC_one t) h1v
    rw [show Tryz.laysNm221_ren.t 3 = 3 from rfl] at C
    refine Calls.mono (show Calls Tryz.prog 60 _ w _ from C) ?_
    rintro e w' ⟨rfl, rfl⟩
    generalize hG : grownCap w _ _ _ - _ = G
    obtain ⟨R, hR⟩ : ∃ R, ((intC t).take p).toArray ++ Builtin.zeroCells (Value.int .i64 0).cells (t.length + 1 - p) ++ Builtin.zeroCells (Value.int .i64 0).cells G = R := ⟨_, rfl⟩
    have hRs : t.length + 1 ≤ R.size := by
      rw [← hR, Array.size_append, Array.size_append, zeros_size, zeros_size, List.size_toArray, List.length_take, intC_len]
      omega
    have hRk : ∀ k, k < p → R[k]? = some (.int .i64 (nth t k : Int)) := fun k hk => by
      rw [← hR, Array.getElem?_append_left (by rw [Array.size_append, List.size_toArray, List.length_take, intC_len]; omega), Array.getElem?_append_left (by rw [List.size_toArray, List.length_take, intC_len]; omega)]
      rw [List.getElem?_toArray, List.getElem?_take, if_pos hk, intC_at (by omega)]
    rw [hR]
    have hrow := heap_alloc_new w (.cells R 3)
    have hX : ∀ k, (w.alloc (.cells R 3)).drew.cell? ⟨w.heap.size, k, none⟩ = R[k]? := fun k => cell_of_row _ _ k _ _ _ hrow
    have hb : Below w.heap.size w (w.alloc (.cells R 3)).drew := (new_val w _).drew
    have hb2 := below_setCellsN w.heap.size (Nat.le_refl _) [.int .i64 0] p hb
    have hb3 := below_setCellsN w.heap.size (Nat.le_refl _) ((intC t).drop p) (p + 1) hb2.drew
    have hs0 : ∀ k, k < t.length + 1 → ((w.alloc (.cells R 3)).drew.cell? ⟨w.heap.size, k, none⟩).isSome = true := fun k hk => by rw [hX, Array.getElem?_eq_getElem (by omega)]; rfl
    have hs1 : ∀ k, k < t.length + 1 → (((w.alloc (.cells R 3)).drew.setCells w.heap.size p [.int .i64 0]).drew.cell? ⟨w.heap.size, k, none⟩).isSome = true := fun k hk => World.isSome_setCells _ _ _ _ _ (hs0 k hk)
    have hdl : ((intC t).drop p).length = t.length - p := by rw [List.length_drop, intC_len]
    refine ⟨⟨_, rfl⟩, .inr ⟨w.heap.size, 0, rfl, ?_, fun k hk => ?_⟩, hb3⟩
    · obtain ⟨u, hu⟩ := Option.isSome_iff_exists.1 (World.isSome_setCells w.heap.size ((intC t).drop p) (p + 1) _ _ (hs1 0 (by omega)))
      exact World.block_lt_of_cell? _ _ hu
    · rw [insL_length _ _ _ hp] at hk
      rw [Nat.zero_add, insL_nth t p 0 k hp hk]
      by_cases h1 : k < p
      · rw [if_pos h1, World.cell?_setCells_out _ _ _ _ _ (fun _ _ => .inl (by show k < p + 1; omega))]
        show ((w.alloc (.cells R 3)).drew.setCells w.heap.size p [.int .i64 0]).cell? _ = _
        rw [World.cell?_setCells_out _ _ _ _ _ (fun _ _ => .inl h1), hX, hRk k h1]
      · rw [if_neg h1]
        by_cases h2 : k = p
        · subst h2
          rw [if_pos rfl, World.cell?_setCells_out _ _ _ _ _ (fun _ _ => .inl (by show k < k + 1; omega))]
          show ((w.alloc (.cells R 3)).drew.setCells w.heap.size k [.int .i64 0]).cell? _ = _
          have h := World.cell?_setCells_in w.heap.size [.int .i64 0] k (w.alloc (.cells R 3)).drew (fun j hj => hs0 (k + j) (by simp at hj; omega)) 0 (by simp)
          exact h
        · rw [if_neg h2]
          have h := World.cell?_setCells_in w.heap.size ((intC t).drop p) (p + 1) ((w.alloc (.cells R 3)).drew.setCells w.heap.size p [.int .i64 0]).drew (fun j hj => hs1 (p + 1 + j) (by omega)) (k - (p + 1)) (by omega)
          rw [show p + 1 + (k - (p + 1)) = k by omega] at h
          rw [h]
          have e := intC_at (l := t) (j := k - 1) (by omega)
          rw [← e, ← List.getElem?_eq_getElem, List.getElem?_drop, show p + (k - (p + 1)) = k - 1 by omega]
  · obtain rfl : p = t.length := by omega
    have C := Any2.slices_Insert_int_end_grow Tryz.laysNm221 (some ⟨g, 0, none⟩) t.length t.length vg 0 1 vc (intC t) [.int .i64 0] w (by omega) (Nat.le_refl _) (by omega) (by omega) (intC_len t) rfl (fun h => by cases h) (fun a ha j v hj => by cases ha; exact hT.news j v hj) hvs h1v
    rw [show Tryz.laysNm221_ren.t 3 = 3 from rfl] at C
    refine Calls.mono (show Calls Tryz.prog 60 _ w _ from C) ?_
    rintro e w' ⟨rfl, rfl⟩
    have hrow := heap_alloc_new w.drew (.cells ((intC t ++ [Value.int .i64 0]).toArray ++ Builtin.zeroCells (Value.int .i64 0).cells (grownCap w (t.length + 1) t.length 3 - (t.length + 1))) 3)
    have hlen : (intC t ++ [Value.int .i64 0]).length = t.length + 1 := by rw [List.length_append, intC_len]; rfl
    refine ⟨⟨_, rfl⟩, .inr ⟨w.heap.size, 0, rfl, by rw [World.size_alloc]; exact Nat.lt_succ_self _, fun k hk => ?_⟩, (Below.refl w.heap.size w).drew.alloc (Nat.le_refl _) _⟩
    rw [insL_length _ _ _ (Nat.le_refl _)] at hk
    rw [Nat.zero_add, insL_nth t _ 0 k (Nat.le_refl _) hk]
    refine (cell_of_row _ w.heap.size k _ _ _ hrow).trans ?_
    rw [Array.getElem?_append_left (by rw [List.size_toArray, hlen]; exact hk), List.getElem?_toArray]
    by_cases h1 : k < t.length
    · rw [if_pos h1, List.getElem?_append_left (by rw [intC_len]; exact h1), intC_at h1]
    · obtain rfl : k = t.length := by omega
      rw [if_neg h1, if_pos rfl, List.getElem?_append_right (by rw [intC_len]; exact Nat.le_refl _), intC_len, Nat.sub_self]
      rfl
end Go.Proofs.YtpdcpaoabalgcaaGreatDoor
