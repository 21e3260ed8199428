/- Contract of the document's All (no statement of its own). Conditions: at most six sizes, at most 4096 tuples. -/
import Derived.Test.YteocbgcgfllieaaGreatDoorRwW
namespace Go.Proofs.YteocbgcgfllieaaGreatDoor
open Go.RowKit
set_option linter.unusedVariables false
theorem allL_ne (l : List Nat) (h : prodL l ≤ 4096) : (allL l).length ≤ 4096 := by rw [allL_length]; exact h
/-- What stands there after v whole rounds and k of the next one. -/
def partL (r : List (List Nat)) (v k : Nat) : List (List Nat) := ((List.range v).flatMap fun x => r.map (x :: ·)) ++ (r.take k).map (v :: ·)
theorem partL_succ (r : List (List Nat)) (v k : Nat) (h : k < r.length) : partL r v k ++ [v :: nthT r k] = partL r v (k + 1) := by
  unfold partL nthT
  rw [List.take_succ_eq_append_getElem h, List.map_append, List.append_assoc]
  simp [List.getD_eq_getElem?_getD, List.getElem?_eq_getElem h]
theorem partL_next (r : List (List Nat)) (v : Nat) : partL r v r.length = partL r (v + 1) 0 := by
  unfold partL
  rw [List.take_length, List.range_succ, List.flatMap_append]
  simp
theorem partL_all (n : Nat) (l : List Nat) : partL (allL l) n 0 = allL (n :: l) := by
  unfold partL
  simp [allL]
theorem partL_len (r : List (List Nat)) (v k : Nat) : (partL r v k).length ≤ v * r.length + r.length := by
  have e : ((List.range v).flatMap fun x => r.map (x :: ·)).length = v * r.length := by
    induction v with
    | zero => simp
    | succ v ih => rw [List.range_succ, List.flatMap_append, List.length_append, ih, Nat.succ_mul]; simp
  unfold partL
  rw [List.length_append, e, List.length_map, List.length_take]
  omega
theorem rest_ints {w : World} {A : Option Addr} {n : Nat} {l : List Nat} (h : Ints w A (n :: l)) : ∃ g o, A = some ⟨g, o, none⟩ ∧ w.cell? ⟨g, o, none⟩ = some (.int .i64 (n : Int)) ∧ Ints w (some ⟨g, o + 1, none⟩) l ∧ g < w.heap.size := by
  rcases h with h | ⟨g, o, rfl, hg, hc⟩
  · cases h
  · refine ⟨g, o, rfl, hc 0 (by simp), .inr ⟨g, o + 1, rfl, hg, fun i hi => ?_⟩, hg⟩
    have := hc (i + 1) (by simp; omega)
    rw [nth_cons] at this
    rw [show o + 1 + i = o + (i + 1) by omega]
    exact this
set_option maxRecDepth 100000 in
set_option maxHeartbeats 2000000 in
theorem rall_any (l : List Nat) : ∀ (A : Option Addr) (c : Nat) (w : World), l.length ≤ 6 → l.length ≤ c → (∀ n ∈ l, 1 ≤ n ∧ n ≤ 32) → prodL l ≤ 4096 → Ints w A l →
    Calls Tryz.prog 17 #[.slice A l.length c] w fun e w' => (∃ v, e = .returned v ∧ RowsT w' w.heap.size v (allL l)) ∧ Below w.heap.size w w' := by
  induction l with
  | nil =>
    intro A c w _ _ _ _ _
    go_enter Tryz.func17, Tryz.ntmps17
    go_wp2
    go_ret
    refine ⟨⟨_, rfl, ?_⟩, new_val _ _⟩
    refine ⟨[.slice none 0 0], ⟨rfl, .inr ⟨w.heap.size, 1, _, rfl, Nat.le_refl _, heap_alloc_new w _, Nat.le_refl _, by unfold maxLen; omega, rfl, rfl⟩⟩, fun j x hx => ?_⟩
    rcases j with _ | j
    · simp at hx
      subst hx
      exact own_nil _ _
    · simp at hx
  | cons n l ih =>
    intro A c w h6 hc h32 hP hI
    obtain ⟨g, o, rfl, hcell, hI1, hg⟩ := rest_ints hI
    have H32 := Lib.hid h32
    have HP := Lib.hid hP
    have HI1 := Lib.hid hI1
    have IH := Lib.hid ih
    have h6' : l.length + 1 ≤ 6 := h6
    have hc' : l.length + 1 ≤ c := hc
    obtain ⟨m, hm⟩ : ∃ m, l.length + 1 = m := ⟨_, rfl⟩
    have hml : (n :: l).length = m := hm
    rw [hml]
    have HM := Lib.hid hm
    have hm1 : 1 ≤ m := by omega
    have hmc : m ≤ c := by omega
    have hm6 : m ≤ 6 := by omega
    clear h32 hP hI hI1 ih hml h6 hc h6' hc' hm
    have hR1 := allL_length l
    have hn32 := H32.out n (by simp)
    have hpp : prodL (n :: l) = n * prodL l := rfl
    have hR2 : prodL l ≤ n * prodL l := Nat.le_mul_of_pos_left _ hn32.1
    have hPP := HP.out
    rw [hpp] at hPP
    obtain ⟨R, hR⟩ : ∃ R, (allL l).length = R := ⟨_, rfl⟩
    have hR3 : prodL l ≤ 4096 := Nat.le_trans hR2 hPP
    have hR4 : R ≤ 4096 := by omega
    have IHc : Hid (∀ (A : Option Addr) (k c : Nat) (W : World), k = l.length → k ≤ c → Ints W A l → Calls Tryz.prog 17 #[.slice A k c] W fun e w' => (∃ v, e = .returned v ∧ RowsT w' W.heap.size v (allL l)) ∧ Below W.heap.size W w') :=
      Lib.hid fun A k c W hk hc h => by
        subst hk
        exact IH.out A c W (by have := HM.out; omega) hc (fun n hn => H32.out n (by simp [hn])) hR3 h
    have HR := Lib.hid hR
    clear hR hR1 hpp hR2 hR3 hPP IH
    have hn1 := hn32.2
    clear hn32
    go_enter Tryz.func17, Tryz.ntmps17
    rcases (by omega : c = 1 ∨ 1 < c) with rfl | hc1
    · obtain rfl : m = 1 := by omega
      go_wp2_with fail
      refine (IHc.out _ _ _ _ (by have := HM.out; omega) (by omega) (.inl (List.eq_nil_of_length_eq_zero (by have := HM.out; omega)))).mono ?_
      rintro e w1 ⟨⟨v, rfl, hT⟩, b1⟩
      obtain ⟨A2, c2, rfl, hrow⟩ := hT.form
      rw [HR.out] at hrow ⊢
      have hcell1 := (b1.cell (p := ⟨g, o, none⟩) hg).trans hcell
      have hg1 : g < w1.heap.size := Nat.lt_of_lt_of_le hg b1.size
      have B1 := Lib.hid b1
      have T1 := Lib.hid hT
      have RW := Lib.hid hrow
      clear b1 hT hrow
      go_wp2_with fail
      go_loopw [3, 5] (fun out v wr => ∃ a : Nat, a ≤ n ∧ v = .int .i64 (a : Int) ∧ RowsT wr w1.heap.size out (partL (allL l) a 0) ∧ Below w1.heap.size w1 wr) (fun _ v _ => n - (intOf v).toNat)
      case atStart => exact ⟨0, Nat.zero_le _, rfl, rowsT_nil _ _, Below.refl _ _⟩
      case round =>
        obtain ⟨a, ha, rfl, hO, hB⟩ := hrel
        have hcell2 := (hB.cell (p := ⟨g, o, none⟩) hg1).trans hcell1
        have O2 := Lib.hid hO
        have B2 := Lib.hid hB
        clear hO hB
        by_cases hlt : a < n
        · have hlt' : (a : Int) < (n : Int) := by omega
          go_wp2_with fail
          go_loopw [3, 24] (fun out i wr => ∃ k : Nat, k ≤ R ∧ i = .int .i64 (k : Int) ∧ RowsT wr w1.heap.size out (partL (allL l) a k) ∧ Below w1.heap.size w1 wr) (fun _ i _ => R - (intOf i).toNat)
          case atStart => exact ⟨0, Nat.zero_le _, rfl, O2.out, B2.out⟩
          case round =>
            obtain ⟨k, hk, rfl, hO3, hB3⟩ := hrel
            rename_i wi
            have T3 := T1.out.below hB3 (Nat.le_refl _)
            have O3 := Lib.hid hO3
            have B3 := Lib.hid hB3
            clear hO3 hB3
            by_cases hlk : k < R
            · have hlk' : (k : Int) < (R : Int) := by omega
              obtain ⟨A3, c3, e3, hrow3⟩ := T3.form
              obtain ⟨g3, x, hA3, hg3, hc3, hx3⟩ := hrow3 k (by rw [HR.out]; exact hlk)
              obtain rfl : A2 = A3 := by injection e3
              subst hA3
              have PL := Lib.hid (partL_len (allL l) a k)
              have PB : Hid (a * (allL l).length ≤ 131072) := Lib.hid (by rw [HR.out]; exact Nat.le_trans (Nat.mul_le_mul (show a ≤ 32 by omega) hR4) (by decide))
              have X3 := Lib.hid hx3
              have XL : Hid ((nthT (allL l) k).length ≤ 6) := Lib.hid (by have h1 := HM.out; unfold nthT; rw [allL_get l (by have h2 := HR.out; rw [allL_length] at h2; omega), tupL_length]; omega)
              clear T3 hrow3 e3 hx3
              have PL2 : Hid ((partL (allL l) a k).length ≤ 1000000) := Lib.hid (by have h1 := PL.out; have h2 := PB.out; have h3 := HR.out; omega)
              obtain ⟨Ao, co, rfl, _⟩ := O3.out.form
              obtain ⟨Ax, cx, rfl, _⟩ := X3.out.form
              go_wp2_with (first | (at_builtin; refine cons_own rfl (.tmp 30) (.tmp 31) rfl _ w.heap.size _ (nthT (allL l) k) _ a rfl rfl rfl X3.out (by have := XL.out; omega) ?_; intro v' w4 h1 h2; obtain ⟨A4, c4, rfl, _⟩ := h1.form; have K1 := Lib.hid h1; have L1 := Lib.hid h2; clear h1 h2) | (at_builtin; refine push_rows rfl (.tmp 28) (.tmp 33) rfl _ w1.heap.size _ _ (partL (allL l) a k) (a :: nthT (allL l) k) rfl rfl (O3.out.below L1.out (Nat.le_refl _)) (K1.out.less B3.out.size) (Nat.le_trans B3.out.size L1.out.size) PL2.out ?_; intro v' w5 h1 h2; have K2 := Lib.hid h1; have L2 := Lib.hid h2; clear h1 h2))
              go_roundw
              case rel => exact ⟨k + 1, by omega, by go_num, by rw [← partL_succ _ _ _ (by rw [HR.out]; exact hlk)]; exact K2.out, (B3.out.trans (L1.out.mono B3.out.size)).trans L2.out⟩
              case measure => simp [intOf]; omega
            · have hk' : ¬ ((k : Int) < (R : Int)) := by omega
              clear T3
              go_wp2_with fail
              go_roundw
              obtain rfl : k = R := by omega
              case rel => exact ⟨a + 1, by omega, by go_num, by rw [← partL_next, HR.out]; exact O3.out, B3.out⟩
              case measure => simp [intOf]; omega
        · have hlt' : ¬ ((a : Int) < (n : Int)) := by omega
          go_wp2_with fail
          go_ret
          obtain rfl : a = n := by omega
          exact ⟨⟨_, rfl, by rw [← partL_all]; exact O2.out.less B1.out.size⟩, B1.out.trans (B2.out.mono B1.out.size)⟩
    · go_wp2_with fail
      refine (IHc.out _ _ _ _ (by have := HM.out; omega) (by omega) HI1.out).mono ?_
      rintro e w1 ⟨⟨v, rfl, hT⟩, b1⟩
      obtain ⟨A2, c2, rfl, hrow⟩ := hT.form
      rw [HR.out] at hrow ⊢
      have hcell1 := (b1.cell (p := ⟨g, o, none⟩) hg).trans hcell
      have hg1 : g < w1.heap.size := Nat.lt_of_lt_of_le hg b1.size
      have B1 := Lib.hid b1
      have T1 := Lib.hid hT
      have RW := Lib.hid hrow
      clear b1 hT hrow
      go_wp2_with fail
      go_loopw [3, 5] (fun out v wr => ∃ a : Nat, a ≤ n ∧ v = .int .i64 (a : Int) ∧ RowsT wr w1.heap.size out (partL (allL l) a 0) ∧ Below w1.heap.size w1 wr) (fun _ v _ => n - (intOf v).toNat)
      case atStart => exact ⟨0, Nat.zero_le _, rfl, rowsT_nil _ _, Below.refl _ _⟩
      case round =>
        obtain ⟨a, ha, rfl, hO, hB⟩ := hrel
        have hcell2 := (hB.cell (p := ⟨g, o, none⟩) hg1).trans hcell1
        have O2 := Lib.hid hO
        have B2 := Lib.hid hB
        clear hO hB
        by_cases hlt : a < n
        · have hlt' : (a : Int) < (n : Int) := by omega
          go_wp2_with fail
          go_loopw [3, 24] (fun out i wr => ∃ k : Nat, k ≤ R ∧ i = .int .i64 (k : Int) ∧ RowsT wr w1.heap.size out (partL (allL l) a k) ∧ Below w1.heap.size w1 wr) (fun _ i _ => R - (intOf i).toNat)
          case atStart => exact ⟨0, Nat.zero_le _, rfl, O2.out, B2.out⟩
          case round =>
            obtain ⟨k, hk, rfl, hO3, hB3⟩ := hrel
            rename_i wi
            have T3 := T1.out.below hB3 (Nat.le_refl _)
            have O3 := Lib.hid hO3
            have B3 := Lib.hid hB3
            clear hO3 hB3
            by_cases hlk : k < R
            · have hlk' : (k : Int) < (R : Int) := by omega
              obtain ⟨A3, c3, e3, hrow3⟩ := T3.form
              obtain ⟨g3, x, hA3, hg3, hc3, hx3⟩ := hrow3 k (by rw [HR.out]; exact hlk)
              obtain rfl : A2 = A3 := by injection e3
              subst hA3
              have PL := Lib.hid (partL_len (allL l) a k)
              have PB : Hid (a * (allL l).length ≤ 131072) := Lib.hid (by rw [HR.out]; exact Nat.le_trans (Nat.mul_le_mul (show a ≤ 32 by omega) hR4) (by decide))
              have X3 := Lib.hid hx3
              have XL : Hid ((nthT (allL l) k).length ≤ 6) := Lib.hid (by have h1 := HM.out; unfold nthT; rw [allL_get l (by have h2 := HR.out; rw [allL_length] at h2; omega), tupL_length]; omega)
              clear T3 hrow3 e3 hx3
              have PL2 : Hid ((partL (allL l) a k).length ≤ 1000000) := Lib.hid (by have h1 := PL.out; have h2 := PB.out; have h3 := HR.out; omega)
              obtain ⟨Ao, co, rfl, _⟩ := O3.out.form
              obtain ⟨Ax, cx, rfl, _⟩ := X3.out.form
              go_wp2_with (first | (at_builtin; refine cons_own rfl (.tmp 30) (.tmp 31) rfl _ w.heap.size _ (nthT (allL l) k) _ a rfl rfl rfl X3.out (by have := XL.out; omega) ?_; intro v' w4 h1 h2; obtain ⟨A4, c4, rfl, _⟩ := h1.form; have K1 := Lib.hid h1; have L1 := Lib.hid h2; clear h1 h2) | (at_builtin; refine push_rows rfl (.tmp 28) (.tmp 33) rfl _ w1.heap.size _ _ (partL (allL l) a k) (a :: nthT (allL l) k) rfl rfl (O3.out.below L1.out (Nat.le_refl _)) (K1.out.less B3.out.size) (Nat.le_trans B3.out.size L1.out.size) PL2.out ?_; intro v' w5 h1 h2; have K2 := Lib.hid h1; have L2 := Lib.hid h2; clear h1 h2))
              go_roundw
              case rel => exact ⟨k + 1, by omega, by go_num, by rw [← partL_succ _ _ _ (by rw [HR.out]; exact hlk)]; exact K2.out, (B3.out.trans (L1.out.mono B3.out.size)).trans L2.out⟩
              case measure => simp [intOf]; omega
            · have hk' : ¬ ((k : Int) < (R : Int)) := by omega
              clear T3
              go_wp2_with fail
              go_roundw
              obtain rfl : k = R := by omega
              case rel => exact ⟨a + 1, by omega, by go_num, by rw [← partL_next, HR.out]; exact O3.out, B3.out⟩
              case measure => simp [intOf]; omega
        · have hlt' : ¬ ((a : Int) < (n : Int)) := by omega
          go_wp2_with fail
          go_ret
          obtain rfl : a = n := by omega
          exact ⟨⟨_, rfl, by rw [← partL_all]; exact O2.out.less B1.out.size⟩, B1.out.trans (B2.out.mono B1.out.size)⟩
end Go.Proofs.YteocbgcgfllieaaGreatDoor
