/- Contracts of package dom's functions that make a set out of another one (no statement of its own). Conditions: at most 32 values, the bits below. -/
import Derived.Test.YtlpclbilomcaiaaDoorSetA
namespace Go.Proofs.YtlpclbilomcaiaaDoor
open Go.RowKit
set_option linter.unusedVariables false
theorem bcell {W w1 : World} (hb : Below W.heap.size W w1) : (∀ b o, b < W.heap.size → w1.cell? ⟨b, o, none⟩ = W.cell? ⟨b, o, none⟩) ∧ (∀ b o, b < W.heap.size → w1.frozen? ⟨b, o, none⟩ = W.frozen? ⟨b, o, none⟩) :=
  ⟨fun b o h => hb.cell (p := ⟨b, o, none⟩) h, fun b o h => hb.frozen (p := ⟨b, o, none⟩) h⟩
/-- The bits of v alone, if it is in B; else none. -/
def onlyN (B v : Nat) : Nat := if B.testBit v then 2 ^ v else 0
theorem only_yes (k B v : Nat) (w : World) (h : v < k) (hk : k ≤ 32) (hB : B < 2 ^ k) :
    Calls Tryd.prog 18 #[setV k B, .int .i64 (v : Int)] w fun e w' => e = .returned (setV k (onlyN B v)) ∧ Below w.heap.size w w' := by
  have F := Lib.hid (fun W => has_yes k B v W h hk hB)
  have T := Lib.hid (fun W => bit_any v W (by omega))
  unfold onlyN
  generalize B.testBit v = b at F ⊢
  cases b
  · rw [if_neg (by simp)]
    clear hB
    go_enter Tryd.func18, Tryd.ntmps18
    go_wp2_with fail
    refine (F.out _).mono ?_
    rintro e w1 ⟨rfl, hb⟩
    obtain ⟨hc, hf⟩ := bcell hb
    have hz := hb.size
    simp at hz
    go_wp2
    refine bodyPost_ret (v := setV k 0) (by simp [results, Tryd.results18, go_sem, hc]) rfl ⟨rfl, ?_⟩
    have c1 : Below w.heap.size w w1 := ((((Below.refl _ _).alloc (Nat.le_refl _) _).alloc (by simp) _).alloc (by simp; omega) _).trans (hb.mono (by simp; omega))
    exact (c1.setCell (by simp) _).setCell (by simp) _
  · rw [if_pos rfl]
    generalize 2 ^ v = p at T ⊢
    clear hB
    go_enter Tryd.func18, Tryd.ntmps18
    go_wp2_with fail
    refine (F.out _).mono ?_
    rintro e w1 ⟨rfl, hb⟩
    obtain ⟨hc, hf⟩ := bcell hb
    have hz := hb.size
    simp at hz
    go_wp2_with (go_at_call 30; refine (T.out _).mono ?_; rintro e w' ⟨rfl, rfl⟩)
    refine bodyPost_ret (v := setV k p) (by simp [results, Tryd.results18, go_sem, hc]) rfl ⟨rfl, ?_⟩
    have c1 : Below w.heap.size w w1 := ((((Below.refl _ _).alloc (Nat.le_refl _) _).alloc (by simp) _).alloc (by simp; omega) _).trans (hb.mono (by simp; omega))
    exact ((c1.setCell (by show w.heap.size ≤ w.heap.size + 1 + 1; omega) _).setCell (by simp) _).setCell (by simp) _
theorem only_no (k B : Nat) (v : Int) (w : World) (h : v < 0 ∨ (k : Int) ≤ v) :
    Calls Tryd.prog 18 #[setV k B, .int .i64 v] w fun e w' => e = .returned (setV k 0) ∧ Below w.heap.size w w' := by
  have F := Lib.hid (fun W => has_no k B v W h)
  clear h
  go_enter Tryd.func18, Tryd.ntmps18
  go_wp2_with fail
  refine (F.out _).mono ?_
  rintro e w1 ⟨rfl, hb⟩
  obtain ⟨hc, hf⟩ := bcell hb
  have hz := hb.size
  simp at hz
  go_wp2
  refine bodyPost_ret (v := setV k 0) (by simp [results, Tryd.results18, go_sem, hc]) rfl ⟨rfl, ?_⟩
  have c1 : Below w.heap.size w w1 := ((((Below.refl _ _).alloc (Nat.le_refl _) _).alloc (by simp) _).alloc (by simp; omega) _).trans (hb.mono (by simp; omega))
  exact (c1.setCell (by simp) _).setCell (by simp) _
theorem new_yes (n : Nat) (w : World) (h1 : 1 ≤ n) (h : n ≤ 32) :
    Calls Tryd.prog 22 #[.int .i64 (n : Int)] w fun e w' => e = .returned (.tuple #[setV n (2 ^ n - 1), .int .i64 0]) ∧ Below w.heap.size w w' := by
  have T := Lib.hid (fun W => below_any n W h)
  generalize 2 ^ n - 1 = p at T ⊢
  go_enter Tryd.func22, Tryd.ntmps22
  go_wp2_with (go_at_call 32; refine (T.out _).mono ?_; rintro e w' ⟨rfl, rfl⟩)
  exact bodyPost_ret (v := .tuple #[setV n p, .int .i64 0]) (by simp [results, Tryd.results22, go_sem]) rfl ⟨rfl, by go_grown⟩
theorem new_no (n : Int) (w : World) (h : n < 1 ∨ 32 < n) :
    Calls Tryd.prog 22 #[.int .i64 n] w fun e w' => e = .returned (.tuple #[setV 0 0, .int .i64 1]) ∧ Below w.heap.size w w' := by
  rcases h with h | h
  · go_enter Tryd.func22, Tryd.ntmps22
    go_wp2
    exact bodyPost_ret (v := .tuple #[setV 0 0, .int .i64 1]) (by simp [results, Tryd.results22, go_sem]) rfl ⟨rfl, by go_grown⟩
  · have h1 : 1 ≤ n := by omega
    go_enter Tryd.func22, Tryd.ntmps22
    go_wp2
    exact bodyPost_ret (v := .tuple #[setV 0 0, .int .i64 1]) (by simp [results, Tryd.results22, go_sem]) rfl ⟨rfl, by go_grown⟩
theorem inter_yes (k B C : Nat) (w : World) (hk : k ≤ 32) (hB : B < 2 ^ k) (hC : C < 2 ^ k) :
    Calls Tryd.prog 19 #[setV k B, setV k C] w fun e w' => e = .returned (.tuple #[setV k (B &&& C), .int .i64 0]) ∧ Below w.heap.size w w' := by
  have E := Lib.hid (bits_and B C (lt_of_fits hk hB) (lt_of_fits hk hC))
  generalize B &&& C = p at E ⊢
  clear hB hC
  go_enter Tryd.func19, Tryd.ntmps19
  go_wp2
  rw [E.out]
  exact bodyPost_ret (v := .tuple #[setV k p, .int .i64 0]) (by simp [results, Tryd.results19, go_sem]) rfl ⟨rfl, by go_grown⟩
theorem inter_no (k j B C : Nat) (w : World) (h : k ≠ j) :
    Calls Tryd.prog 19 #[setV k B, setV j C] w fun e w' => e = .returned (.tuple #[setV 0 0, .int .i64 1]) ∧ Below w.heap.size w w' := by
  have h' : ((k : Int) != (j : Int)) = true := by rw [bne_iff_ne]; omega
  have h'' : ((k : Int) == (j : Int)) = false := by rw [beq_eq_false_iff_ne]; omega
  go_enter Tryd.func19, Tryd.ntmps19
  go_wp2
  exact bodyPost_ret (v := .tuple #[setV 0 0, .int .i64 1]) (by simp [results, Tryd.results19, go_sem]) rfl ⟨rfl, by go_grown⟩
end Go.Proofs.YtlpclbilomcaiaaDoor
