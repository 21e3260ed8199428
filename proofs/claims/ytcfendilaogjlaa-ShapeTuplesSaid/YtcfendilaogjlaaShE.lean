/- Contracts of a shape's Index (no statement of its own). Conditions: at most six sizes, each of 0 to 32. -/
import Derived.Test.YtcfendilaogjlaaShD
namespace Go.Proofs.Ytcfendilaogjlaa
open Go.RowKit
set_option linter.unusedVariables false
theorem step_bound {N v : Int} {P n : Nat} (h0 : 0 ≤ N) (h1 : N < P) (h2 : 0 ≤ v) (h3 : v < n) : 0 ≤ N * n ∧ 0 ≤ N * n + v ∧ N * n + v < ((P * n : Nat) : Int) := by
  have a : 0 ≤ N * (n : Int) := Int.mul_nonneg h0 (by omega)
  have b : (N + 1) * (n : Int) ≤ (P : Int) * (n : Int) := Int.mul_le_mul_of_nonneg_right (by omega) (by omega)
  rw [Int.add_mul, Int.one_mul] at b
  rw [Int.natCast_mul]
  omega
theorem index_len (A : Option Addr) (m c : Nat) (l : List Nat) (w : World) (h : m ≠ l.length) (hm : (m : Int) ≤ 9223372036854775807) :
    Calls Try.prog 14 #[shV l, .slice A m c] w fun e w' => e = .returned (.tuple #[.int .i64 0, .int .i64 3]) ∧ Below w.heap.size w w' := by
  have hd : ((m : Int) != (l.length : Int)) = true := by rw [bne_iff_ne]; omega
  clear h
  go_enter Try.func14, Try.ntmps14
  go_wp2
  go_ret2
  exact ⟨rfl, by go_grown⟩
theorem index_out (A : Option Addr) (m c p : Nat) (z : Nat → Int) (l : List Nat) (w : World) (h : m = l.length) (h6 : l.length ≤ 6) (h32 : ∀ n ∈ l, n ≤ 32) (hr : Zs w A m z) (hp : p < m)
    (hq : ∀ i, i < p → 0 ≤ z i ∧ z i < nth l i) (hz : z p < 0 ∨ (nth l p : Int) ≤ z p) :
    Calls Try.prog 14 #[shV l, .slice A m c] w fun e w' => e = .returned (.tuple #[.int .i64 0, .int .i64 3]) ∧ Below w.heap.size w w' := by
  have hb0 : Below w.heap.size w (w.alloc (shO l)) := (Below.refl _ _).alloc (Nat.le_refl _) _
  have HR := Lib.hid (hr.below hb0 (Nat.le_refl _))
  have HS := Lib.hid (new_sh w l h6)
  have HQ := Lib.hid hq
  have HX := Lib.hid hz
  have H6 := Lib.hid h6
  have H32 := Lib.hid h32
  have HM := Lib.hid h
  have hm6 : m ≤ 6 := by omega
  have hd : ((m : Int) != (l.length : Int)) = false := by rw [bne_eq_false_iff_eq]; omega
  clear hr hq hz h6 h32 h hb0
  go_enter Try.func14, Try.ntmps14
  go_wp2_with fail
  clear hd
  go_loop [6, 7, 8, 16] (fun N _ _ i => ∃ (j : Nat) (N' : Int), j ≤ p ∧ i = .int .i64 j ∧ N = .int .i64 N' ∧ 0 ≤ N' ∧ N' < prodL (l.take j)) (fun _ _ _ i => m - (intOf i).toNat)
  case atStart => exact ⟨0, 0, Nat.zero_le _, rfl, rfl, by omega, by simp [prodL]⟩
  case round =>
    obtain ⟨j, N, hj, rfl, rfl, hN0, hN1⟩ := hrel
    have hlt : j < m := by omega
    have hjl : j < l.length := by have := HM.out; omega
    obtain ⟨g, o, rfl, hcell⟩ := HR.out.at_ hlt
    obtain ⟨g2, o2, e2, hs⟩ := HS.out.at_ hjl
    obtain ⟨rfl, rfl⟩ : w.heap.size = g2 ∧ 1 = o2 := by injection e2 with e; injection e with e1 e2; exact ⟨e1, e2⟩
    have hx := nth_le H32.out j
    clear e2
    by_cases e : j = p
    · have HX' : Hid (z j < 0 ∨ (nth l j : Int) ≤ z j) := Lib.hid (by rw [e]; exact HX.out)
      clear e hjl hN1
      generalize z j = v at hcell HX'
      generalize nth l j = n at hs hx HX'
      rcases (by have := HX'.out; omega : v < 0 ∨ (0 ≤ v ∧ (n : Int) ≤ v)) with hv | ⟨hv, hv'⟩
      · clear HX'
        go_wp2
        go_ret2
        exact ⟨rfl, by go_grown⟩
      · clear HX'
        go_wp2
        go_ret2
        exact ⟨rfl, by go_grown⟩
    · have hq := HQ.out j (by omega)
      have hjp : j + 1 ≤ p := by omega
      have HB := Lib.hid (step_bound hN0 hN1 hq.1 hq.2)
      have hP := take_le H6.out H32.out (j + 1)
      rw [prod_take l hjl] at hP
      have hb := HB.out
      have HP := Lib.hid (prod_take l hjl)
      clear e hjl
      generalize z j = v at hcell hq HB hb
      generalize nth l j = n at hs hx hq HB hb hP HP
      generalize prodL (l.take j) = P at hN1 HB hb hP HP
      obtain ⟨hq1, hq2⟩ := hq
      have hT : N * (n : Int) + v ≤ 1073741824 := by omega
      have hT0 : 0 ≤ N * (n : Int) := hb.1
      have hT1 : 0 ≤ N * (n : Int) + v := hb.2.1
      have hT2 : N * (n : Int) ≤ 1073741824 := by omega
      clear hb hP hN1
      go_wp2
      go_round
      case rel => exact ⟨j + 1, _, by omega, by go_num, rfl, hT1, by rw [HP.out]; exact HB.out.2.2⟩
      case measure => simp [intOf]; omega
theorem index_ok (A : Option Addr) (c : Nat) (l t : List Nat) (w : World) (h6 : l.length ≤ 6) (h32 : ∀ n ∈ l, n ≤ 32) (hr : Ints w A t) (hin : InL l t) :
    Calls Try.prog 14 #[shV l, .slice A t.length c] w fun e w' => e = .returned (.tuple #[.int .i64 (numL l t : Nat), .int .i64 0]) ∧ Below w.heap.size w w' := by
  have hlen := hin.length
  have hb0 : Below w.heap.size w (w.alloc (shO l)) := (Below.refl _ _).alloc (Nat.le_refl _) _
  have HR := Lib.hid (hr.below hb0 (Nat.le_refl _))
  have HS := Lib.hid (new_sh w l h6)
  have HI := Lib.hid hin
  have H6 := Lib.hid h6
  have H32 := Lib.hid h32
  have HM := Lib.hid hlen
  have hm6 : t.length ≤ 6 := by omega
  have hd : ((t.length : Int) != (l.length : Int)) = false := by rw [bne_eq_false_iff_eq]; omega
  clear hr hin h6 h32 hlen hb0
  go_enter Try.func14, Try.ntmps14
  go_wp2_with fail
  clear hd
  go_loop [6, 7, 8, 16] (fun N _ _ i => ∃ (j : Nat), j ≤ t.length ∧ i = .int .i64 j ∧ N = .int .i64 (numTo l t j : Nat) ∧ numTo l t j < prodL (l.take j)) (fun _ _ _ i => t.length - (intOf i).toNat)
  case atStart => exact ⟨0, Nat.zero_le _, rfl, rfl, by simp [numTo, numL, prodL]⟩
  case round =>
    obtain ⟨j, hj, rfl, rfl, hN1⟩ := hrel
    by_cases hlt : j < t.length
    · have hjl : j < l.length := by have := HM.out; omega
      obtain ⟨g, o, rfl, hcell⟩ := HR.out.at_ hlt
      obtain ⟨g2, o2, e2, hs⟩ := HS.out.at_ hjl
      obtain ⟨rfl, rfl⟩ : w.heap.size = g2 ∧ 1 = o2 := by injection e2 with e; injection e with e1 e2; exact ⟨e1, e2⟩
      have hx := nth_le H32.out j
      have hq := (inL_iff.1 HI.out).2 j hjl
      have HB := Lib.hid (step_bound (N := (numTo l t j : Nat)) (v := (nth t j : Int)) (n := nth l j) (Int.natCast_nonneg _) (Int.ofNat_lt.2 hN1) (Int.natCast_nonneg _) (Int.ofNat_lt.2 hq))
      have hP := take_le H6.out H32.out (j + 1)
      rw [prod_take l hjl] at hP
      have hb := HB.out
      have HP := Lib.hid (prod_take l hjl)
      have HN := Lib.hid (numTo_succ HM.out hjl)
      clear e2 hjl
      generalize nth t j = v at hcell hq HB hb HN
      generalize nth l j = n at hs hx hq HB hb hP HP HN
      generalize prodL (l.take j) = P at hN1 HB hb hP HP
      generalize numTo l t j = N at hN1 HB hb HN
      have hT : (N : Int) * (n : Int) + v ≤ 1073741824 := by omega
      have hT0 : 0 ≤ (N : Int) * (n : Int) := hb.1
      have hT1 : 0 ≤ (N : Int) * (n : Int) + v := hb.2.1
      have hT2 : (N : Int) * (n : Int) ≤ 1073741824 := by omega
      have hq' : (v : Int) < (n : Int) := by omega
      clear hb hP hN1
      go_wp2
      go_round
      case rel => exact ⟨j + 1, by omega, by go_num, by rw [HN.out, Int.natCast_add, Int.natCast_mul], by rw [HP.out, HN.out]; have := HB.out.2.2; rw [← Int.natCast_mul, ← Int.natCast_add] at this; exact Int.ofNat_lt.1 this⟩
      case measure => simp [intOf]; omega
    · go_wp2
      go_ret2
      obtain rfl : j = t.length := by omega
      exact ⟨by rw [HM.out, numTo_all HM.out]; rfl, by go_grown⟩
end Go.Proofs.Ytcfendilaogjlaa
