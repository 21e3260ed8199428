/- Contracts of what TableErrs calls: table.New of any sizes, the document's In of anything (no statement of its own). No condition. -/
import Derived.Test.YtdmldnlgamnkeaaGreatTp1
import Derived.Test.YtdmldnlgamnkeaaGreatTbP
import Derived.Test.YtdmldnlgamnkeaaGreatTbW
namespace Go.Proofs.YtdmldnlgamnkeaaGreat
open Go.RowKit
set_option linter.unusedVariables false
/-- Sizes that are refused: too many, or one at a place is wrong (and none ahead of it). -/
def Bad (m p : Nat) (z : Nat → Int) : Prop := 6 < m ∨ (m ≤ 6 ∧ p < m ∧ (∀ i, i < p → 1 ≤ z i ∧ z i ≤ 32) ∧ (z p < 1 ∨ 32 < z p))
theorem raw_cases (m : Nat) (z : Nat → Int) : (∃ p, Bad m p z) ∨ (m ≤ 6 ∧ ∃ l : List Nat, l.length = m ∧ (∀ i, i < m → z i = (nth l i : Int)) ∧ ∀ n ∈ l, 1 ≤ n ∧ n ≤ 32) := by
  by_cases h6 : 6 < m
  · exact .inl ⟨0, .inl h6⟩
  · rcases first_at (fun i => z i < 1 ∨ 32 < z i) m with h | ⟨p, h1, h2, h3⟩
    · refine .inr ⟨by omega, (List.range m).map fun i => (z i).toNat, by simp, fun i hi => ?_, fun n hn => ?_⟩
      · have := h i hi
        unfold nth
        rw [List.getD_eq_getElem?_getD, List.getElem?_map, List.getElem?_range hi]
        simp
        omega
      · simp only [List.mem_map, List.mem_range] at hn
        obtain ⟨i, hi, rfl⟩ := hn
        have := h i hi
        omega
    · exact .inl ⟨p, .inr ⟨by omega, h1, fun i hi => by have := h2 i hi; omega, h3⟩⟩
theorem ints_of_zs {w : World} {A : Option Addr} {l : List Nat} {z : Nat → Int} (h : Zs w A l.length z) (hz : ∀ i, i < l.length → z i = (nth l i : Int)) : Ints w A l := by
  rcases h with h | ⟨g, o, rfl, hg, hc⟩
  · exact .inl (List.eq_nil_of_length_eq_zero h)
  · exact .inr ⟨g, o, rfl, hg, fun i hi => by rw [← hz i hi]; exact hc i hi⟩
theorem tup_cases (m : Nat) (z : Nat → Int) (l : List Nat) : m ≠ l.length ∨ (m = l.length ∧ ∃ q, q < m ∧ (∀ i, i < q → 0 ≤ z i ∧ z i < (nth l i : Int)) ∧ (z q < 0 ∨ (nth l q : Int) ≤ z q)) ∨
    ∃ t : List Nat, t.length = m ∧ (∀ i, i < m → z i = (nth t i : Int)) ∧ InL l t := by
  by_cases h : m = l.length
  · rcases first_at (fun i => z i < 0 ∨ (nth l i : Int) ≤ z i) m with h1 | ⟨q, h1, h2, h3⟩
    · have hz : ∀ i, i < m → z i = (nth ((List.range m).map fun i => (z i).toNat) i : Int) := fun i hi => by
        have := h1 i hi
        unfold nth
        rw [List.getD_eq_getElem?_getD, List.getElem?_map, List.getElem?_range hi]
        simp
        omega
      refine .inr (.inr ⟨(List.range m).map fun i => (z i).toNat, by simp, hz, inL_iff.2 ⟨by simp [h], fun p hp => ?_⟩⟩)
      have a := hz p (by omega)
      have b := h1 p (by omega)
      omega
    · exact .inr (.inl ⟨h, q, h1, fun i hi => by have := h2 i hi; omega, h3⟩)
  · exact .inl h
theorem new_bad (A : Option Addr) (m c p : Nat) (z : Nat → Int) (w : World) (hr : Zs w A m z) (h8 : m ≤ 8) (h : Bad m p z) :
    Calls Tryz.prog 20 #[.slice A m c] w fun e w' => e = .returned (.tuple #[shZ, .int .i64 1]) ∧ Below w.heap.size w w' := by
  rcases h with h | ⟨h6, h1, h2, h3⟩
  · exact new_long A m c w h (by omega)
  · exact new_wrong A m c p z w h6 hr h1 h3

theorem in_noK (a k : Int) (w : World) (h : k < 1 ∨ 2147483648 < k) :
    Calls Tryz.prog 21 #[.int .i64 a, .int .i64 k] w fun e w' => e = .returned (.bool false) ∧ w = w' := by
  have H := Lib.hid h
  clear h
  go_enter Tryz.func21, Tryz.ntmps21
  go_wp2_with (go_at_call 48; refine (right_no _ _ H.out).mono ?_; rintro e w' ⟨rfl, rfl⟩)
  go_ret
  exact ⟨rfl, rfl⟩
def InK (a k : Int) : Prop := 1 ≤ k ∧ k ≤ 2147483648 ∧ 0 ≤ a ∧ a ≤ k
theorem in_refused (a k : Int) (w : World) (h : ¬ InK a k) :
    Calls Tryz.prog 21 #[.int .i64 a, .int .i64 k] w fun e w' => e = .returned (.bool false) ∧ w = w' := by
  unfold InK at h
  by_cases hk : 1 ≤ k ∧ k ≤ 2147483648
  · exact in_no a k w hk.1 hk.2 (by omega)
  · exact in_noK a k w (by omega)
theorem tnew_fell (A : Option Addr) (n c : Nat) (k x E : Int) (w : World) (hE : decide (E = 0) = false)
    (hN : Calls Tryz.prog 20 #[.slice A n c] w fun e w' => e = .returned (.tuple #[shZ, .int .i64 E]) ∧ Below w.heap.size w w') :
    Calls Tryz.prog 7 #[.slice A n c, .int .i64 k, .int .i64 x] w fun e w' => e = .returned (.tuple #[.pointer none, .int .i64 E]) ∧ Below w.heap.size w w' := by
  have HN := Lib.hid hN
  have d : (E == 0) = false := by simpa using hE
  clear hN
  go_enter Tryz.func7, Tryz.ntmps7
  go_wp2_with fail
  refine HN.out.mono ?_
  rintro e w1 ⟨rfl, b1⟩
  have B1 := Lib.hid b1
  clear b1
  go_wp2_with fail
  go_ret2
  exact ⟨rfl, then_ B1.out (new_val _ _)⟩
set_option maxRecDepth 100000 in
set_option maxHeartbeats 4000000 in
theorem tnew_range (A : Option Addr) (n c : Nat) (l : List Nat) (k x : Int) (w : World) (hn : n = l.length) (h6 : l.length ≤ 6) (hr : Ints w A l) (hl : ∀ n ∈ l, 1 ≤ n ∧ n ≤ 32) (hp : prodL l ≤ 4096)
    (hx : ¬ InK x k) :
    Calls Tryz.prog 7 #[.slice A n c, .int .i64 k, .int .i64 x] w fun e w' => e = .returned (.tuple #[.pointer none, .int .i64 3]) ∧ Below w.heap.size w w' := by
  have HC := Lib.hid (new_mid' A n c l w hn h6 hr hl hp)
  have HX := Lib.hid hx
  clear hn hr hl hp hx
  go_enter Tryz.func7, Tryz.ntmps7
  go_wp2_with fail
  refine HC.out.mono ?_
  rintro e w1 ⟨rfl, b1⟩
  have B1 := Lib.hid b1
  clear b1
  go_upto_region 4 with ((with_reducible show wpList _ _ _ (Oper.mk none (.store 56 _ _) _ _ _ _ :: _) _ _)
                         refine wpList_store_row rfl 56 (.tmp 8) (.tmp 13) rfl w1.heap.size (shC l) rfl rfl 56 (shC0 0) (heap_alloc_new _ _) (by kernel_rfl) rfl (sh_one l) ?_
                         rw [World.setRow_alloc_new])
  have n2 := new_val w1 (shO l)
  have B2 := Lib.hid (then_ B1.out n2)
  clear n2
  generalize w1.alloc (.cells (shC l) 56) = w2 at B2 ⊢
  go_wp2_with (go_at_call 21; refine (in_refused _ _ _ HX.out).mono ?_; rintro e w' ⟨rfl, rfl⟩)
  go_ret2
  exact ⟨rfl, B2.out⟩
end Go.Proofs.YtdmldnlgamnkeaaGreat
