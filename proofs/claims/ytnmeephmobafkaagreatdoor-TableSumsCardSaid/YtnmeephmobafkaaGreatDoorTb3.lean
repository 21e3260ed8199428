/- Contracts of slices.Clone of costs, and of a table's Entries (no statement of its own). -/
import Derived.Test.YtnmeephmobafkaaGreatDoorTb2
namespace Go.Proofs.YtnmeephmobafkaaGreatDoor
open Go.RowKit
set_option linter.unusedVariables false
def costL (z : Nat → Int) (n : Nat) : List Value := (List.range n).map fun i => .int .i64 (z i)
theorem costL_len (z : Nat → Int) (n : Nat) : (costL z n).length = n := by simp [costL]
theorem costL_one (z : Nat → Int) (n : Nat) : ∀ v ∈ costL z n, v.oneCell' = true := by
  intro v hv
  simp only [costL, List.mem_map] at hv
  obtain ⟨i, _, rfl⟩ := hv
  rfl
theorem costL_get {z : Nat → Int} {n j : Nat} {u : Value} (h : (costL z n)[j]? = some u) : j < n ∧ u = .int .i64 (z j) := by
  have hj := (List.getElem?_eq_some_iff.1 h).1
  rw [costL_len] at hj
  simp [costL, List.getElem?_range hj] at h
  exact ⟨hj, h.symm⟩
/-- The costs at h, as the cells of a slice. -/
theorem TabAt.cost {w : World} {g h : Nat} {l : List Nat} {k : Int} {z : Nat → Int} (H : TabAt w g h l k z) : ∀ j u, (costL z (prodL l))[j]? = some u → w.cell? ((⟨h, 0, none⟩ : Addr).add j) = some u := by
  intro j u hu
  obtain ⟨hj, rfl⟩ := costL_get hu
  obtain ⟨cur, hc, h1, h2⟩ := H.costs
  rw [show ((⟨h, 0, none⟩ : Addr).add j) = ⟨h, j, none⟩ by (simp [Addr.add]; omega), cell_of_row _ _ _ _ _ _ hc]
  exact h2 j hj
set_option maxRecDepth 100000 in
set_option maxHeartbeats 4000000 in
theorem clone64 (h n : Nat) (z : Nat → Int) (w : World) (hh : h < w.heap.size) (hn : n ≤ 1000000) (hc : ∀ j u, (costL z n)[j]? = some u → w.cell? ((⟨h, 0, none⟩ : Addr).add j) = some u) :
    Calls Tryz.prog 54 #[.slice (some ⟨h, 0, none⟩) n n] w fun e w' => (∃ v, e = .returned v ∧ w'.ownsRow w.heap.size 2 1 v n (costL z n)) ∧ Below w.heap.size w w' := by
  obtain ⟨i0, hi, hz0, hz1, hz2⟩ := info_parts info_i64
  have HI := Lib.hid hi
  have HZ0 := Lib.hid hz0
  have HZ1 := Lib.hid hz1
  have HZ2 := Lib.hid hz2
  have HN : Hid (∀ j u, (costL z n)[j]? = some u → (w.alloc (.cells #[] 2)).cell? ((⟨h, 0, none⟩ : Addr).add j) = some u) :=
    Lib.hid fun j u hu => ((new_val w (.cells #[] 2)).cell (p := (⟨h, 0, none⟩ : Addr).add j) (by rw [block_add]; exact hh)).trans (hc j u hu)
  have hq : ∀ W, (binOp .eql 28 (.slice (some ⟨h, 0, none⟩) n n) (.slice none 0 0)).run Tryz.prog W = .ok (.bool false) W := fun W => Lib.run_eql_slice_nil W 28 2 (some ⟨h, 0, none⟩) n n 0 0 Tryz.underlying28
  clear hc hi hz0 hz1 hz2
  go_enter Tryz.func54, Tryz.ntmps54
  go_wp2_with (at_builtin; refine wpList_append_own _ rfl (.tmp 5) (.tmp 6) 28 rfl w.heap.size 2 i0 (.int .i64 0) 1 8 Tryz.underlying28 HI.out HZ0.out HZ1.out HZ2.out rfl (by decide) (.slice (some ⟨w.heap.size, 0, none⟩) 0 0) 0 [] rfl (World.ownsRow_made w #[] 0 (Nat.le_refl _) (by simp [maxLen]) rfl) ⟨h, 0, none⟩ n n (costL z n) rfl (by rw [costL_len, Nat.mul_one]) HN.out (costL_one z n) (by unfold maxLen; omega) (by omega) (by simp) ?_; intro v' w1 h1 h2 _; have H1 := Lib.hid h1; have H2 := Lib.hid h2; clear h1 h2)
  go_ret
  refine ⟨⟨_, rfl, by have := H1.out; rwa [Nat.zero_add, List.nil_append] at this⟩, ?_⟩
  exact ((Below.refl _ _).alloc (Nat.le_refl _) _).grown H2.out (by simp) (fun k hk => by simp [Value.ownBlock] at hk; omega)
theorem entries_any (g h : Nat) (l : List Nat) (k : Int) (z : Nat → Int) (w : World) (H : TabAt w g h l k z) (hn : prodL l ≤ 1000000) :
    Calls Tryz.prog 25 #[.pointer (some ⟨g, 0, none⟩)] w fun e w' => (∃ v, e = .returned v ∧ w'.ownsRow w.heap.size 2 1 v (prodL l) (costL z (prodL l))) ∧ Below w.heap.size w w' := by
  obtain ⟨c0, c1, c2, c3, c4, c5, c6, c7, c8⟩ := H.cells
  have hh : h < w.heap.size := by obtain ⟨cur, hc, _⟩ := H.costs; exact (Array.getElem?_eq_some_iff.1 hc).1
  have HC := Lib.hid (clone64 h (prodL l) z w hh hn H.cost)
  clear H hh hn
  go_enter Tryz.func25, Tryz.ntmps25
  go_wp2_with (go_at_call 54; refine HC.out.mono ?_; rintro e w' ⟨⟨v, rfl, h1⟩, h2⟩; have H1 := Lib.hid h1; have H2 := Lib.hid h2; clear h1 h2)
  go_ret
  exact ⟨⟨_, rfl, H1.out⟩, H2.out⟩
end Go.Proofs.YtnmeephmobafkaaGreatDoor
