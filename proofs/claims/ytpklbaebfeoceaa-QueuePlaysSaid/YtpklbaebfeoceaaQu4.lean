/- The contracts of queue's below and swap (no statement of its own). -/
import Derived.Test.YtpklbaebfeoceaaQu3
namespace Go.Proofs.Ytpklbaebfeoceaa
open Go.RowKit
open Go.Maps (Keyed)
set_option linter.unusedVariables false
theorem ahead_n (B b m i j : Nat) (N : Int) (v : Value) (l : List It) (w : World) (hH : Hd w b N v m) (hI : Its w B v l)
    (hi : i < l.length) (hj : j < l.length) (hl : l.length < 1000000) :
    Calls Try.prog 27 #[.pointer (some ⟨b, 0, none⟩), .int .i64 (i : Int), .int .i64 (j : Int)] w (AheadP (ltI (nth l i) (nth l j)) w) := by
  rw [← nth_get l i hi, ← nth_get l j hj]
  exact ahead_any B b m i j N v l w hH hI hi hj hl
def BelowP (r : Nat) (w : World) (e : Ending) (w' : World) : Prop := e = .returned (.int .i64 (r : Int)) ∧ w.grownBy w' none
set_option maxRecDepth 100000 in
set_option maxHeartbeats 2000000 in
theorem below_any (B b m i : Nat) (N : Int) (v : Value) (l : List It) (w : World) (hH : Hd w b N v m) (hI : Its w B v l)
    (hi : i < l.length) (hl : l.length < 1000000) :
    Calls Try.prog 26 #[.pointer (some ⟨b, 0, none⟩), .int .i64 (i : Int)] w (BelowP (bel l i) w) := by
  obtain ⟨g, c, rfl, hBg, hgl⟩ := hI.form (by omega)
  have c1 := hH.c1
  obtain ⟨L, hL⟩ : ∃ L : Nat, L = 2 * i + 1 := ⟨_, rfl⟩
  obtain ⟨R, hR⟩ : ∃ R : Nat, R = 2 * i + 2 := ⟨_, rfl⟩
  have eL : (2 : Int) * (i : Int) + 1 = (L : Int) := by omega
  have eR : (2 : Int) * (i : Int) + 2 = (R : Int) := by omega
  have eB : bel l i = if l.length ≤ L then i else if R < l.length ∧ ltI (nth l R) (nth l L) = true then R else L := by rw [hL, hR]; rfl
  have HB := Lib.hid eB
  have hRL : R = L + 1 := by omega
  have HRL := Lib.hid hRL
  clear eB hL hR hRL
  by_cases h1 : l.length ≤ L
  · have HE : Hid (bel l i = i) := Lib.hid (by rw [HB.out, if_pos h1])
    clear HRL
    go_enter Try.func26, Try.ntmps26
    go_wp2_with fail
    go_ret
    exact ⟨sret_int (by rw [HE.out]), World.grownBy_alloc_refl w⟩
  · by_cases h2 : R < l.length
    · have C := Lib.hid (ahead_n B b m R L N _ l w hH hI h2 (by omega) hl)
      cases h3 : ltI (nth l R) (nth l L) with
      | true =>
        have HE : Hid (bel l i = R) := Lib.hid (by rw [HB.out, if_neg h1, if_pos ⟨h2, h3⟩])
        rw [h3] at C
        have h1' : decide (L < l.length) = true := by simpa using h1
        clear h3 h1 HRL
        go_enter Try.func26, Try.ntmps26
        go_wp2_with (go_at_call 27; refine C.out.mono ?_; rintro e w' ⟨rfl, hg⟩)
        go_ret
        exact ⟨sret_int (by rw [HE.out]), hg⟩
      | false =>
        have HE : Hid (bel l i = L) := Lib.hid (by rw [HB.out, if_neg h1, if_neg (fun q => by rw [h3] at q; cases q.2)])
        rw [h3] at C
        have h1' : decide (L < l.length) = true := by simpa using h1
        clear h3 h1 HRL
        go_enter Try.func26, Try.ntmps26
        go_wp2_with (go_at_call 27; refine C.out.mono ?_; rintro e w' ⟨rfl, hg⟩)
        go_ret
        exact ⟨sret_int (by rw [HE.out]), hg⟩
    · have HE : Hid (bel l i = L) := Lib.hid (by rw [HB.out, if_neg h1, if_neg (fun q => h2 q.1)])
      have h1' : decide (L < l.length) = true := by simpa using h1
      have h2' : decide (R < l.length) = false := by simpa using h2
      have h1'' : decide (l.length ≤ L) = false := by simpa using h1
      have h1t : L < l.length := by omega
      clear h1 h2 HRL h1'
      go_enter Try.func26, Try.ntmps26
      go_wp2_with fail
      go_ret
      exact ⟨sret_int (by rw [HE.out]), World.grownBy_alloc_refl w⟩
def SwapP (B b m i j s : Nat) (N : Int) (v : Value) (l : List It) (f : Int → Option Nat) (w : World) (e : Ending) (w' : World) : Prop :=
  e = .returned (.tuple #[]) ∧ Hd w' b N v m ∧ Its w' B v (swp l i j) ∧ Pls w' B m (upd (upd f (nth l j).1 i) (nth l i).1 j) s ∧ Kp (fun j => j = m ∨ v.ownBlock = some j) w w'
theorem cnt_some {f : Int → Option Nat} {x : Int} {i : Nat} (h : f x = some i) (s : Nat) : cnt f x s = s := by simp [cnt, h]
theorem two_boxes (w : World) (A C : Array Value) (t : TypeId) : ((w.alloc (.cells A t)).alloc (.cells C t)).drew.heap[w.heap.size]? = some (.cells A t (0, 0)) ∧ ((w.alloc (.cells A t)).alloc (.cells C t)).drew.heap[w.heap.size + 1]? = some (.cells C t (0, 0)) := by
  constructor
  · show ((w.alloc (.cells A t)).alloc (.cells C t)).heap[w.heap.size]? = _
    rw [Below.heap_alloc _ _ _ (by simp)]
    exact heap_alloc_new w _
  · have := heap_alloc_new (w.alloc (.cells A t)) (.cells C t)
    rw [World.size_alloc] at this
    exact this
set_option maxRecDepth 100000 in
set_option maxHeartbeats 2000000 in
theorem swap_any (B b m i j s : Nat) (N : Int) (v : Value) (l : List It) (f : Int → Option Nat) (w : World) (hH : Hd w b N v m) (hI : Its w B v l) (hP : Pls w B m f s)
    (hi : i < l.length) (hj : j < l.length) (hl : l.length < 1000000) (hs : s < 1000000) (hC : Con l f) (hN : ∀ i, i < l.length → -9223372036854775808 ≤ (nth l i).1 ∧ (nth l i).1 ≤ 9223372036854775807) :
    Calls Try.prog 28 #[.pointer (some ⟨b, 0, none⟩), .int .i64 (i : Int), .int .i64 (j : Int)] w (SwapP B b m i j s N v l f w) := by
  obtain ⟨g, c, rfl, hBg, hgl⟩ := hI.form (by omega)
  have c1 := hH.c1
  have d0 := hI.at0 i hi
  have d1 := hI.at1 i hi
  have d2 := hI.at0 j hj
  have d3 := hI.at1 j hj
  have hbl := hH.lt
  have hcs1 : cnt f (nth l j).1 s = s := cnt_some ((hC _ j).2 ⟨hj, rfl⟩) s
  have hcs2 : cnt (upd f (nth l j).1 i) (nth l i).1 s = s := by
    unfold cnt upd
    rw [if_pos]
    by_cases e : (nth l i).1 = (nth l j).1
    · rw [if_pos e]; rfl
    · rw [if_neg e, (hC _ i).2 ⟨hi, rfl⟩]; rfl
  rw [nth_get l i hi] at d0 d1
  rw [nth_get l j hj] at d2 d3
  have HSW : Hid ((l.set i ((nth l j).1, (nth l j).2)).set j ((nth l i).1, (nth l i).2) = swp l i j) := Lib.hid rfl
  have R1 := Lib.hid (hN i hi)
  have R2 := Lib.hid (hN j hj)
  have HS1 := Lib.hid hcs1
  have HS2 := Lib.hid hcs2
  have HH := Lib.hid hH
  have HI := Lib.hid hI
  have HP := Lib.hid hP
  have hml : m < w.heap.size := by obtain ⟨_, D, ho, _⟩ := hP; exact ho.lt
  have HM := Lib.hid hml
  clear hC hN hcs1 hcs2 hH hI hP hml
  generalize hx1 : (nth l i).1 = x1 at *
  generalize hp1 : (nth l i).2 = p1 at *
  generalize hx2 : (nth l j).1 = x2 at *
  generalize hp2 : (nth l j).2 = p2 at *
  have HX1 := Lib.hid hx1
  have HX2 := Lib.hid hx2
  clear hx1 hp1 hx2 hp2
  go_enter Try.func28, Try.ntmps28
  go_wp2_with fail
  go_region
  · obtain ⟨r0, r1⟩ := two_boxes w #[.int .i64 x1, .int .i64 p1] #[.int .i64 x2, .int .i64 p2] 59
    have hga : w.grownBy ((w.alloc (.cells #[.int .i64 x1, .int .i64 p1] 59)).alloc (.cells #[.int .i64 x2, .int .i64 p2] 59)).drew none := grown_drew ((World.grownBy_alloc w _ none).trans (World.grownBy_alloc _ _ none))
    generalize ((w.alloc (.cells #[.int .i64 x1, .int .i64 p1] 59)).alloc (.cells #[.int .i64 x2, .int .i64 p2] 59)).drew = w1 at *
    have k0 : w1.cell? ⟨w.heap.size + 1, 0, none⟩ = some (.int .i64 x2) := by rw [cell_of_row _ _ _ _ _ _ r1]; rfl
    have k1 : w1.cell? ⟨w.heap.size + 1, 1, none⟩ = some (.int .i64 p2) := by rw [cell_of_row _ _ _ _ _ _ r1]; rfl
    have k2 : w1.cell? ⟨w.heap.size, 0, none⟩ = some (.int .i64 x1) := by rw [cell_of_row _ _ _ _ _ _ r0]; rfl
    have k3 : w1.cell? ⟨w.heap.size, 1, none⟩ = some (.int .i64 p1) := by rw [cell_of_row _ _ _ _ _ _ r0]; rfl
    have hsz : w.heap.size < w1.heap.size := (Array.getElem?_eq_some_iff.1 r0).1
    have C1 := Lib.hid (put_any B b m i s N x2 p2 _ l f w1 (HH.out.kept hga (by simp)) (HI.out.kept hga (Or.inr (by simp [Value.ownBlock]))) (HP.out.kept hga (by simp)) hi hs hl R2.out)
    have HG := Lib.hid hga
    have hmt := HM.out
    clear r0 r1 hga c1 d0 d1 d2 d3
    go_wp2_with (go_at_call 22; refine C1.out.mono ?_)
    rintro e w2 ⟨rfl, hH2, hI2, hP2, hK2⟩
    have hnot : ¬ ((w.heap.size) = m ∨ (Value.slice (some ⟨g, 0, none⟩) l.length c).ownBlock = some (w.heap.size)) := by
      simp only [Value.ownBlock, Option.some.injEq]
      omega
    have k2' : w2.cell? ⟨w.heap.size, 0, none⟩ = some (.int .i64 x1) := (World.cell?_of_block (hK2.block _ hsz hnot)).trans k2
    have k3' : w2.cell? ⟨w.heap.size, 1, none⟩ = some (.int .i64 p1) := (World.cell?_of_block (hK2.block _ hsz hnot)).trans k3
    rw [HS1.out] at hP2
    have C2 := Lib.hid (put_any B b m j s N x1 p1 _ (l.set i (x2, p2)) _ w2 hH2 hI2 hP2 (by rw [List.length_set]; exact hj) hs (by rw [List.length_set]; exact hl) R1.out)
    have HK2 := Lib.hid hK2
    clear hH2 hI2 hP2 hK2 k0 k1 k2 k3 hnot hsz hmt
    go_wp2_with (go_at_call 22; refine C2.out.mono ?_)
    rintro e w3 ⟨rfl, hH3, hI3, hP3, hK3⟩
    go_wp2_with fail
    go_end0
    rw [HS2.out] at hP3
    rw [HSW.out] at hI3
    refine ⟨rfl, hH3, hI3, ?_, ?_⟩
    · rw [HX1.out, HX2.out]; exact hP3
    · exact ((Kp.of_grown HG.out (fun k hk => by cases hk)).trans HK2.out).trans hK3
  · obtain ⟨r0, r1⟩ := two_boxes w #[.int .i64 x2, .int .i64 p2] #[.int .i64 x1, .int .i64 p1] 59
    have hga : w.grownBy ((w.alloc (.cells #[.int .i64 x2, .int .i64 p2] 59)).alloc (.cells #[.int .i64 x1, .int .i64 p1] 59)).drew none := grown_drew ((World.grownBy_alloc w _ none).trans (World.grownBy_alloc _ _ none))
    generalize ((w.alloc (.cells #[.int .i64 x2, .int .i64 p2] 59)).alloc (.cells #[.int .i64 x1, .int .i64 p1] 59)).drew = w1 at *
    have k0 : w1.cell? ⟨w.heap.size, 0, none⟩ = some (.int .i64 x2) := by rw [cell_of_row _ _ _ _ _ _ r0]; rfl
    have k1 : w1.cell? ⟨w.heap.size, 1, none⟩ = some (.int .i64 p2) := by rw [cell_of_row _ _ _ _ _ _ r0]; rfl
    have k2 : w1.cell? ⟨w.heap.size + 1, 0, none⟩ = some (.int .i64 x1) := by rw [cell_of_row _ _ _ _ _ _ r1]; rfl
    have k3 : w1.cell? ⟨w.heap.size + 1, 1, none⟩ = some (.int .i64 p1) := by rw [cell_of_row _ _ _ _ _ _ r1]; rfl
    have hsz : w.heap.size + 1 < w1.heap.size := (Array.getElem?_eq_some_iff.1 r1).1
    have C1 := Lib.hid (put_any B b m i s N x2 p2 _ l f w1 (HH.out.kept hga (by simp)) (HI.out.kept hga (Or.inr (by simp [Value.ownBlock]))) (HP.out.kept hga (by simp)) hi hs hl R2.out)
    have HG := Lib.hid hga
    have hmt := HM.out
    clear r0 r1 hga c1 d0 d1 d2 d3
    go_wp2_with (go_at_call 22; refine C1.out.mono ?_)
    rintro e w2 ⟨rfl, hH2, hI2, hP2, hK2⟩
    have hnot : ¬ ((w.heap.size + 1) = m ∨ (Value.slice (some ⟨g, 0, none⟩) l.length c).ownBlock = some (w.heap.size + 1)) := by
      simp only [Value.ownBlock, Option.some.injEq]
      omega
    have k2' : w2.cell? ⟨w.heap.size + 1, 0, none⟩ = some (.int .i64 x1) := (World.cell?_of_block (hK2.block _ hsz hnot)).trans k2
    have k3' : w2.cell? ⟨w.heap.size + 1, 1, none⟩ = some (.int .i64 p1) := (World.cell?_of_block (hK2.block _ hsz hnot)).trans k3
    rw [HS1.out] at hP2
    have C2 := Lib.hid (put_any B b m j s N x1 p1 _ (l.set i (x2, p2)) _ w2 hH2 hI2 hP2 (by rw [List.length_set]; exact hj) hs (by rw [List.length_set]; exact hl) R1.out)
    have HK2 := Lib.hid hK2
    clear hH2 hI2 hP2 hK2 k0 k1 k2 k3 hnot hsz hmt
    go_wp2_with (go_at_call 22; refine C2.out.mono ?_)
    rintro e w3 ⟨rfl, hH3, hI3, hP3, hK3⟩
    go_wp2_with fail
    go_end0
    rw [HS2.out] at hP3
    rw [HSW.out] at hI3
    refine ⟨rfl, hH3, hI3, ?_, ?_⟩
    · rw [HX1.out, HX2.out]; exact hP3
    · exact ((Kp.of_grown HG.out (fun k hk => by cases hk)).trans HK2.out).trans hK3
end Go.Proofs.Ytpklbaebfeoceaa
