/- Contracts of the document's Top and Drop of a list, of ContainsFunc, and of queue's Clear (no statement of its own). -/
import Derived.Test.YtpklbaebfeoceaaQuC
namespace Go.Proofs.Ytpklbaebfeoceaa
open Go.RowKit
open Go.Maps (Keyed)
set_option linter.unusedVariables false
/-- A list of items of the document's. -/
def LI (w : World) (B : Nat) (v : Value) (L : List It) : Prop := w.ownsRow B 33 2 v L.length (flat L)
theorem LI.form {w : World} {B : Nat} {v : Value} {L : List It} (h : LI w B v L) : ∃ A c, v = .slice A L.length c ∧ (0 < L.length → ∃ g, A = some ⟨g, 0, none⟩ ∧ B ≤ g ∧ g < w.heap.size) := by
  rcases h.2 with ⟨rfl, h0⟩ | ⟨g, cap, cur, rfl, hb, hh, hn, _⟩
  · exact ⟨none, 0, by rw [h0], fun q => by omega⟩
  · exact ⟨_, cap, rfl, fun _ => ⟨g, rfl, hb, (Array.getElem?_eq_some_iff.1 hh).1⟩⟩
theorem LI.at0 {w : World} {B g c : Nat} {l : List It} (h : LI w B (.slice (some ⟨g, 0, none⟩) l.length c) l) (i : Nat) (hi : i < l.length) : w.cell? ⟨g, i * 2, none⟩ = some (.int .i64 (nth l i).1) := by
  rw [World.ownsRow.cellAt h (i * 2) (by omega), ← nth_get l i hi]; exact flat_get0 l i hi
theorem LI.at1 {w : World} {B g c : Nat} {l : List It} (h : LI w B (.slice (some ⟨g, 0, none⟩) l.length c) l) (i : Nat) (hi : i < l.length) : w.cell? ⟨g, i * 2 + 1, none⟩ = some (.int .i64 (nth l i).2) := by
  rw [World.ownsRow.cellAt h (i * 2 + 1) (by omega), ← nth_get l i hi]; exact flat_get1 l i hi
theorem LI.kept {w w' : World} {B : Nat} {v : Value} {l : List It} {row : Option Nat} (h : LI w B v l) (hg : w.grownBy w' row) (hne : v.ownBlock = none ∨ v.ownBlock ≠ row) : LI w' B v l := World.ownsRow.kept h hg hne
theorem LI.kept0 {w w' : World} {B : Nat} {v : Value} {l : List It} (h : LI w B v l) (hg : w.grownBy w' none) : LI w' B v l := h.kept hg (by by_cases e : v.ownBlock = none; exact .inl e; exact .inr e)
def RTopP (L : List It) (w : World) (e : Ending) (w' : World) : Prop := w.grownBy w' none ∧ ((L = [] ∧ e = .returned (.int .i64 (-1))) ∨ ∃ j : Nat, j < L.length ∧ IsTop L (nth L j) ∧ e = .returned (.int .i64 (j : Int)))
set_option maxRecDepth 100000 in
set_option maxHeartbeats 4000000 in
theorem rtop_any {B : Nat} {v : Value} {L : List It} {w : World} (h : LI w B v L) (hl : L.length < 100000) : Calls Try.prog 12 #[v] w (RTopP L w) := by
  obtain ⟨A, c, rfl, hA⟩ := h.form
  have HI := Lib.hid h
  have HA := Lib.hid hA
  clear h hA
  go_enter Try.func12, Try.ntmps12
  go_wp2_with fail
  go_loopw [3, 8] (fun b i wr => ∃ k : Nat, k ≤ L.length ∧ i = .int .i64 (k : Int) ∧ w.grownBy wr none ∧ ((k = 0 ∧ b = .int .i64 (-1)) ∨ ∃ j : Nat, j < L.length ∧ b = .int .i64 (j : Int) ∧ 0 < k ∧ ∀ t, t < k → ltI (nth L t) (nth L j) = false)) (fun _ i _ => L.length - (intOf i).toNat)
  case atStart => exact ⟨0, Nat.zero_le _, rfl, World.grownBy_alloc_refl w, .inl ⟨rfl, rfl⟩⟩
  case round =>
    obtain ⟨k, hk, rfl, hg, hst⟩ := hrel
    have HG := Lib.hid hg
    by_cases hlt : k < L.length
    · obtain ⟨g, hAe, hg1, hg2⟩ := HA.out (by omega)
      have hLI := (show LI wr B (.slice (some ⟨g, 0, none⟩) L.length c) L from by rw [← hAe]; exact HI.out.kept0 hg)
      have hLI2 := (hLI.kept0 (World.grownBy_alloc wr (.cells #[.int .i64 (nth L k).1, .int .i64 (nth L k).2] 33) none))
      have hg3 := hg.trans (World.grownBy_alloc wr (.cells #[.int .i64 (nth L k).1, .int .i64 (nth L k).2] 33) none)
      have b0 : (wr.alloc (.cells #[.int .i64 (nth L k).1, .int .i64 (nth L k).2] 33)).cell? ⟨wr.heap.size, 0, none⟩ = some (.int .i64 (nth L k).1) := by rw [cell_of_row _ _ _ _ _ _ (heap_alloc_new wr _)]; rfl
      have b1 : (wr.alloc (.cells #[.int .i64 (nth L k).1, .int .i64 (nth L k).2] 33)).cell? ⟨wr.heap.size, 1, none⟩ = some (.int .i64 (nth L k).2) := by rw [cell_of_row _ _ _ _ _ _ (heap_alloc_new wr _)]; rfl
      have d0 := hLI.at0 k hlt
      have d1 := hLI.at1 k hlt
      have HG3 := Lib.hid hg3
      subst hAe
      rcases hst with ⟨rfl, rfl⟩ | ⟨j, hj, rfl, hk0, hjt⟩
      · clear hg hLI hLI2 hg3 hg1 hg2
        go_upto_region 5 with fail
        generalize wr.alloc (.cells #[.int .i64 (nth L 0).1, .int .i64 (nth L 0).2] 33) = w2 at *
        have hd : decide ((-1 : Int) < 0) = true := by decide
        go_quiet (fail)
        go_wp2_with fail
        go_roundw
        case rel => exact ⟨1, by omega, by go_num, grown_drewN HG3.out _, .inr ⟨0, by omega, rfl, by omega, fun t ht => by have : t = 0 := by omega
                                                                                                                           subst this; exact ltI_irr _⟩⟩
        case measure => simp [intOf]; omega
      · have f0 := hLI2.at0 j hj
        have f1 := hLI2.at1 j hj
        have HJT := Lib.hid hjt
        have hjp : decide ((j : Int) < 0) = false := by simp
        have hcmp : ltI (nth L k) (nth L j) = decide ((nth L k).2 < (nth L j).2 ∨ (nth L k).2 = (nth L j).2 ∧ (nth L k).1 < (nth L j).1) := rfl
        have HC := Lib.hid hcmp
        clear hg hLI hLI2 hg3 hg1 hg2 hjt hcmp
        go_upto_region 5 with fail
        generalize wr.alloc (.cells #[.int .i64 (nth L k).1, .int .i64 (nth L k).2] 33) = w2 at *
        generalize hx1 : (nth L k).1 = x1 at *
        generalize hp1 : (nth L k).2 = p1 at *
        generalize hx2 : (nth L j).1 = x2 at *
        generalize hp2 : (nth L j).2 = p2 at *
        clear hx1 hp1 hx2 hp2
        have hyes : ltI (nth L k) (nth L j) = true → ∀ t, t < k + 1 → ltI (nth L t) (nth L k) = false := fun hy t ht => by
          by_cases e : t = k
          · rw [e]; exact ltI_irr _
          · exact leI_trans (ltI_le hy) (HJT.out t (by omega))
        have hno : ltI (nth L k) (nth L j) = false → ∀ t, t < k + 1 → ltI (nth L t) (nth L j) = false := fun hy t ht => by
          by_cases e : t = k
          · rw [e]; exact hy
          · exact HJT.out t (by omega)
        have HY := Lib.hid hyes
        have HNO := Lib.hid hno
        clear hyes hno
        by_cases h1 : p1 < p2
        · have HE := Lib.hid (HY.out (by rw [HC.out]; simp [h1]))
          have h1' : decide (p1 < p2) = true := by simp [h1]
          clear h1
          go_quiet (fail)
          go_wp2_with fail
          go_roundw
          case rel => exact ⟨k + 1, by omega, by go_num, grown_drewN HG3.out _, .inr ⟨k, by omega, rfl, by omega, HE.out⟩⟩
          case measure => simp [intOf]; omega
        · have h1' : decide (p1 < p2) = false := by simpa using h1
          by_cases h2 : p1 = p2
          · have h2' : (p1 == p2) = true := by simp [h2]
            by_cases h3 : x1 < x2
            · have HE := Lib.hid (HY.out (by rw [HC.out]; simp [h2, h3]))
              have h3' : decide (x1 < x2) = true := by simp [h3]
              clear h1 h2 h3
              go_quiet (fail)
              go_wp2_with fail
              go_roundw
              case rel => exact ⟨k + 1, by omega, by go_num, grown_drewN HG3.out _, .inr ⟨k, by omega, rfl, by omega, HE.out⟩⟩
              case measure => simp [intOf]; omega
            · have HE := Lib.hid (HNO.out (by rw [HC.out]; simp [h2, h3]))
              have h3' : decide (x1 < x2) = false := by simpa using h3
              clear h1 h2 h3
              go_quiet (fail)
              go_wp2_with fail
              go_roundw
              case rel => exact ⟨k + 1, by omega, by go_num, grown_drewN HG3.out _, .inr ⟨j, by omega, rfl, by omega, HE.out⟩⟩
              case measure => simp [intOf]; omega
          · have HE := Lib.hid (HNO.out (by rw [HC.out]; simp [h1, h2]))
            have h2' : (p1 == p2) = false := by simpa using h2
            clear h1 h2
            go_quiet (fail)
            go_wp2_with fail
            go_roundw
            case rel => exact ⟨k + 1, by omega, by go_num, grown_drewN HG3.out _, .inr ⟨j, by omega, rfl, by omega, HE.out⟩⟩
            case measure => simp [intOf]; omega
    · have e : k = L.length := by omega
      rcases hst with ⟨rfl, rfl⟩ | ⟨j, hj, rfl, hk0, hjt⟩
      · have HL0 := Lib.hid (List.eq_nil_of_length_eq_zero e.symm)
        clear e hg
        go_wp2_with fail
        go_ret
        exact ⟨HG.out, .inl ⟨HL0.out, rfl⟩⟩
      · have HT := Lib.hid (show IsTop L (nth L j) from ⟨mem_nth.2 ⟨j, hj, rfl⟩, fun y hy => by
          obtain ⟨t, ht, q⟩ := mem_nth.1 hy
          rw [← q]; exact hjt t (by omega)⟩)
        clear e hjt hg
        go_wp2_with fail
        go_ret
        exact ⟨HG.out, .inr ⟨j, hj, HT.out, rfl⟩⟩
end Go.Proofs.Ytpklbaebfeoceaa
