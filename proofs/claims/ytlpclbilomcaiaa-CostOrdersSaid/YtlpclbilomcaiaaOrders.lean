/- Proved: CostOrders returns true for every four int64 values, and changes no memory that was there. No condition. -/
import Derived.Test.YtlpclbilomcaiaaRows
import Derived.Test.YtlpclbilomcaiaaDiff
import Derived.WalkKit
import Derived.ProofKit
import Derived.OpenShut
namespace Go.Proofs.Ytlpclbilomcaiaa.costOrders
open Go.ChangeShapes Go.WideShapes Go.ChangeAt Go.RowKit
set_option linter.unusedVariables false      -- a walk need not use every 'w<i>' (that an integer argument fits its kind)

theorem own : ownKnob Try.prog.godebug = none := by kernel_rfl

theorem lt_yes (a0 a1 a2 a3 K A B C : Int) (w : World) (k1 : 1 ≤ K) (k2 : K ≤ 2147483648) (hK : wrap64 (1 + wrap64 ((IntKind.u64.wrap a3).tmod 2147483648)) = K)
    (hA1 : 0 ≤ A) (hA2 : A ≤ K) (hB1 : 0 ≤ B) (hB2 : B ≤ K) (hC1 : 0 ≤ C) (hC2 : C ≤ K) (hAB : A < B)
    (hA : IntKind.i64.wrap ((IntKind.u64.wrap a0).tmod (K + 1)) = A) (hB : IntKind.i64.wrap ((IntKind.u64.wrap a1).tmod (K + 1)) = B) (hC : IntKind.i64.wrap ((IntKind.u64.wrap a2).tmod (K + 1)) = C)
    (hs : A = K ∨ C ≤ A) :
    Calls Try.prog 6 #[.int .i64 a0, .int .i64 a1, .int .i64 a2, .int .i64 a3] w fun e w' => e = .returned (.bool true) ∧ Grown w w' := by
  have H := Lib.hid hK
  have HA := Lib.hid hA
  have HB := Lib.hid hB
  have HC := Lib.hid hC
  obtain ⟨hx1, hx2⟩ := capI_bd A C K (by omega) (by omega) hC1
  have hx3 := capI_mono A B C K (by omega)
  have hx4 := capI_le A C K (by omega) hC2
  have E1 := Lib.hid (subE_yes A C K hs)
  have E2 := Lib.hid (subE_yes B C K (by omega))
  obtain ⟨hd1, hd2⟩ := subI_bd A C K (by omega) (by omega) hC1 (by omega) (by omega)
  have hd3 := subI_mono A B C K (by omega) (by omega) (by omega) (by omega)
  clear hK hA hB hC hs
  go_enter Try.func6, Try.ntmps6
  go_wp2_with (go_at_call 8; refine (awake_true _).mono ?_; rintro e w' ⟨rfl, rfl⟩)
  rw [H.out]
  have e1 : IntKind.i64.wrap (K + 1) = K + 1 := IntWalk.i64_in _ (by omega)
  have e2 : IntKind.u64.wrap (K + 1) = K + 1 := u64_succ K k1 k2
  have e3 : ((K + 1 : Int) == 0) = false := by rw [beq_eq_false_iff_ne]; omega
  have e4 : 0 ≤ K + 1 := by omega
  have hA := HA.out
  have hB := HB.out
  have hC := HC.out
  go_quiet (fail)
  clear e1 e2 e3 e4 hA hB hC
  go_wp2_with fail
  refine (add_yes _ _ _ _ (by omega) (by omega) (by omega) (by omega) (by omega) (by omega)).mono ?_
  rintro e w' ⟨rfl, rfl⟩
  go_wp2_with fail
  refine (add_yes _ _ _ _ (by omega) (by omega) (by omega) (by omega) (by omega) (by omega)).mono ?_
  rintro e w' ⟨rfl, rfl⟩
  go_wp2_with fail
  refine (add_yes _ _ _ _ (by omega) (by omega) (by omega) (by omega) (by omega) (by omega)).mono ?_
  rintro e w' ⟨rfl, rfl⟩
  rw [capI_comm C]
  go_wp2_with fail
  refine (in_yes _ _ _ (by omega) (by omega) (by omega) (by omega)).mono ?_
  rintro e w' ⟨rfl, rfl⟩
  go_wp2_with fail
  refine (sub_any _ _ _ _ (by omega) (by omega) (by omega) (by omega) (by omega) (by omega)).mono ?_
  rintro e w' ⟨rfl, rfl⟩
  rw [E1.out]
  go_wp2_with fail
  refine (sub_any _ _ _ _ (by omega) (by omega) (by omega) (by omega) (by omega) (by omega)).mono ?_
  rintro e w' ⟨rfl, rfl⟩
  rw [E2.out]
  go_wp2_with fail
  refine (in_yes _ _ _ (by omega) (by omega) (by omega) (by omega)).mono ?_
  rintro e w' ⟨rfl, rfl⟩
  go_wp2
  go_ret
  exact ⟨rfl, grown_drewN _ _⟩
theorem lt_no (a0 a1 a2 a3 K A B C : Int) (w : World) (k1 : 1 ≤ K) (k2 : K ≤ 2147483648) (hK : wrap64 (1 + wrap64 ((IntKind.u64.wrap a3).tmod 2147483648)) = K)
    (hA1 : 0 ≤ A) (hA2 : A ≤ K) (hB1 : 0 ≤ B) (hB2 : B ≤ K) (hC1 : 0 ≤ C) (hC2 : C ≤ K) (hAB : A < B)
    (hA : IntKind.i64.wrap ((IntKind.u64.wrap a0).tmod (K + 1)) = A) (hB : IntKind.i64.wrap ((IntKind.u64.wrap a1).tmod (K + 1)) = B) (hC : IntKind.i64.wrap ((IntKind.u64.wrap a2).tmod (K + 1)) = C)
    (hs : ¬ (A = K ∨ C ≤ A)) :
    Calls Try.prog 6 #[.int .i64 a0, .int .i64 a1, .int .i64 a2, .int .i64 a3] w fun e w' => e = .returned (.bool true) ∧ Grown w w' := by
  have H := Lib.hid hK
  have HA := Lib.hid hA
  have HB := Lib.hid hB
  have HC := Lib.hid hC
  obtain ⟨hx1, hx2⟩ := capI_bd A C K (by omega) (by omega) hC1
  have hx3 := capI_mono A B C K (by omega)
  have hx4 := capI_le A C K (by omega) hC2
  have E1 := Lib.hid (subE_no A C K hs)
  clear hK hA hB hC hs
  go_enter Try.func6, Try.ntmps6
  go_wp2_with (go_at_call 8; refine (awake_true _).mono ?_; rintro e w' ⟨rfl, rfl⟩)
  rw [H.out]
  have e1 : IntKind.i64.wrap (K + 1) = K + 1 := IntWalk.i64_in _ (by omega)
  have e2 : IntKind.u64.wrap (K + 1) = K + 1 := u64_succ K k1 k2
  have e3 : ((K + 1 : Int) == 0) = false := by rw [beq_eq_false_iff_ne]; omega
  have e4 : 0 ≤ K + 1 := by omega
  have hA := HA.out
  have hB := HB.out
  have hC := HC.out
  go_quiet (fail)
  clear e1 e2 e3 e4 hA hB hC
  go_wp2_with fail
  refine (add_yes _ _ _ _ (by omega) (by omega) (by omega) (by omega) (by omega) (by omega)).mono ?_
  rintro e w' ⟨rfl, rfl⟩
  go_wp2_with fail
  refine (add_yes _ _ _ _ (by omega) (by omega) (by omega) (by omega) (by omega) (by omega)).mono ?_
  rintro e w' ⟨rfl, rfl⟩
  go_wp2_with fail
  refine (add_yes _ _ _ _ (by omega) (by omega) (by omega) (by omega) (by omega) (by omega)).mono ?_
  rintro e w' ⟨rfl, rfl⟩
  rw [capI_comm C]
  go_wp2_with fail
  refine (in_yes _ _ _ (by omega) (by omega) (by omega) (by omega)).mono ?_
  rintro e w' ⟨rfl, rfl⟩
  go_wp2_with fail
  refine (sub_any _ _ _ _ (by omega) (by omega) (by omega) (by omega) (by omega) (by omega)).mono ?_
  rintro e w' ⟨rfl, rfl⟩
  rw [E1.out]
  go_wp2_with fail
  refine (sub_any _ _ _ _ (by omega) (by omega) (by omega) (by omega) (by omega) (by omega)).mono ?_
  rintro e w' ⟨rfl, rfl⟩
  go_wp2
  go_ret
  exact ⟨rfl, grown_drewN _ _⟩
theorem gt_yes (a0 a1 a2 a3 K A B C : Int) (w : World) (k1 : 1 ≤ K) (k2 : K ≤ 2147483648) (hK : wrap64 (1 + wrap64 ((IntKind.u64.wrap a3).tmod 2147483648)) = K)
    (hA1 : 0 ≤ A) (hA2 : A ≤ K) (hB1 : 0 ≤ B) (hB2 : B ≤ K) (hC1 : 0 ≤ C) (hC2 : C ≤ K) (hAB : B < A)
    (hA : IntKind.i64.wrap ((IntKind.u64.wrap a0).tmod (K + 1)) = A) (hB : IntKind.i64.wrap ((IntKind.u64.wrap a1).tmod (K + 1)) = B) (hC : IntKind.i64.wrap ((IntKind.u64.wrap a2).tmod (K + 1)) = C)
    (hs : B = K ∨ C ≤ B) :
    Calls Try.prog 6 #[.int .i64 a0, .int .i64 a1, .int .i64 a2, .int .i64 a3] w fun e w' => e = .returned (.bool true) ∧ Grown w w' := by
  have H := Lib.hid hK
  have HA := Lib.hid hA
  have HB := Lib.hid hB
  have HC := Lib.hid hC
  obtain ⟨hx1, hx2⟩ := capI_bd B C K (by omega) (by omega) hC1
  have hx3 := capI_mono B A C K (by omega)
  have hx4 := capI_le B C K (by omega) hC2
  have E1 := Lib.hid (subE_yes B C K hs)
  have E2 := Lib.hid (subE_yes A C K (by omega))
  obtain ⟨hd1, hd2⟩ := subI_bd B C K (by omega) (by omega) hC1 (by omega) (by omega)
  have hd3 := subI_mono B A C K (by omega) (by omega) (by omega) (by omega)
  clear hK hA hB hC hs
  go_enter Try.func6, Try.ntmps6
  go_wp2_with (go_at_call 8; refine (awake_true _).mono ?_; rintro e w' ⟨rfl, rfl⟩)
  rw [H.out]
  have e1 : IntKind.i64.wrap (K + 1) = K + 1 := IntWalk.i64_in _ (by omega)
  have e2 : IntKind.u64.wrap (K + 1) = K + 1 := u64_succ K k1 k2
  have e3 : ((K + 1 : Int) == 0) = false := by rw [beq_eq_false_iff_ne]; omega
  have e4 : 0 ≤ K + 1 := by omega
  have hA := HA.out
  have hB := HB.out
  have hC := HC.out
  go_quiet (fail)
  clear e1 e2 e3 e4 hA hB hC
  go_wp2_with fail
  refine (add_yes _ _ _ _ (by omega) (by omega) (by omega) (by omega) (by omega) (by omega)).mono ?_
  rintro e w' ⟨rfl, rfl⟩
  go_wp2_with fail
  refine (add_yes _ _ _ _ (by omega) (by omega) (by omega) (by omega) (by omega) (by omega)).mono ?_
  rintro e w' ⟨rfl, rfl⟩
  go_wp2_with fail
  refine (add_yes _ _ _ _ (by omega) (by omega) (by omega) (by omega) (by omega) (by omega)).mono ?_
  rintro e w' ⟨rfl, rfl⟩
  rw [capI_comm C]
  go_wp2_with fail
  refine (in_yes _ _ _ (by omega) (by omega) (by omega) (by omega)).mono ?_
  rintro e w' ⟨rfl, rfl⟩
  go_wp2_with fail
  refine (sub_any _ _ _ _ (by omega) (by omega) (by omega) (by omega) (by omega) (by omega)).mono ?_
  rintro e w' ⟨rfl, rfl⟩
  rw [E1.out]
  go_wp2_with fail
  refine (sub_any _ _ _ _ (by omega) (by omega) (by omega) (by omega) (by omega) (by omega)).mono ?_
  rintro e w' ⟨rfl, rfl⟩
  rw [E2.out]
  go_wp2_with fail
  refine (in_yes _ _ _ (by omega) (by omega) (by omega) (by omega)).mono ?_
  rintro e w' ⟨rfl, rfl⟩
  go_wp2
  go_ret
  exact ⟨rfl, grown_drewN _ _⟩
theorem gt_no (a0 a1 a2 a3 K A B C : Int) (w : World) (k1 : 1 ≤ K) (k2 : K ≤ 2147483648) (hK : wrap64 (1 + wrap64 ((IntKind.u64.wrap a3).tmod 2147483648)) = K)
    (hA1 : 0 ≤ A) (hA2 : A ≤ K) (hB1 : 0 ≤ B) (hB2 : B ≤ K) (hC1 : 0 ≤ C) (hC2 : C ≤ K) (hAB : B < A)
    (hA : IntKind.i64.wrap ((IntKind.u64.wrap a0).tmod (K + 1)) = A) (hB : IntKind.i64.wrap ((IntKind.u64.wrap a1).tmod (K + 1)) = B) (hC : IntKind.i64.wrap ((IntKind.u64.wrap a2).tmod (K + 1)) = C)
    (hs : ¬ (B = K ∨ C ≤ B)) :
    Calls Try.prog 6 #[.int .i64 a0, .int .i64 a1, .int .i64 a2, .int .i64 a3] w fun e w' => e = .returned (.bool true) ∧ Grown w w' := by
  have H := Lib.hid hK
  have HA := Lib.hid hA
  have HB := Lib.hid hB
  have HC := Lib.hid hC
  obtain ⟨hx1, hx2⟩ := capI_bd B C K (by omega) (by omega) hC1
  have hx3 := capI_mono B A C K (by omega)
  have hx4 := capI_le B C K (by omega) hC2
  have E1 := Lib.hid (subE_no B C K hs)
  clear hK hA hB hC hs
  go_enter Try.func6, Try.ntmps6
  go_wp2_with (go_at_call 8; refine (awake_true _).mono ?_; rintro e w' ⟨rfl, rfl⟩)
  rw [H.out]
  have e1 : IntKind.i64.wrap (K + 1) = K + 1 := IntWalk.i64_in _ (by omega)
  have e2 : IntKind.u64.wrap (K + 1) = K + 1 := u64_succ K k1 k2
  have e3 : ((K + 1 : Int) == 0) = false := by rw [beq_eq_false_iff_ne]; omega
  have e4 : 0 ≤ K + 1 := by omega
  have hA := HA.out
  have hB := HB.out
  have hC := HC.out
  go_quiet (fail)
  clear e1 e2 e3 e4 hA hB hC
  go_wp2_with fail
  refine (add_yes _ _ _ _ (by omega) (by omega) (by omega) (by omega) (by omega) (by omega)).mono ?_
  rintro e w' ⟨rfl, rfl⟩
  go_wp2_with fail
  refine (add_yes _ _ _ _ (by omega) (by omega) (by omega) (by omega) (by omega) (by omega)).mono ?_
  rintro e w' ⟨rfl, rfl⟩
  go_wp2_with fail
  refine (add_yes _ _ _ _ (by omega) (by omega) (by omega) (by omega) (by omega) (by omega)).mono ?_
  rintro e w' ⟨rfl, rfl⟩
  rw [capI_comm C]
  go_wp2_with fail
  refine (in_yes _ _ _ (by omega) (by omega) (by omega) (by omega)).mono ?_
  rintro e w' ⟨rfl, rfl⟩
  go_wp2_with fail
  refine (sub_any _ _ _ _ (by omega) (by omega) (by omega) (by omega) (by omega) (by omega)).mono ?_
  rintro e w' ⟨rfl, rfl⟩
  rw [E1.out]
  go_wp2_with fail
  refine (sub_any _ _ _ _ (by omega) (by omega) (by omega) (by omega) (by omega) (by omega)).mono ?_
  rintro e w' ⟨rfl, rfl⟩
  go_wp2
  go_ret
  exact ⟨rfl, grown_drewN _ _⟩
theorem eq_yes (a0 a1 a2 a3 K A C : Int) (w : World) (k1 : 1 ≤ K) (k2 : K ≤ 2147483648) (hK : wrap64 (1 + wrap64 ((IntKind.u64.wrap a3).tmod 2147483648)) = K)
    (hA1 : 0 ≤ A) (hA2 : A ≤ K) (hC1 : 0 ≤ C) (hC2 : C ≤ K) 
    (hA : IntKind.i64.wrap ((IntKind.u64.wrap a0).tmod (K + 1)) = A) (hB : IntKind.i64.wrap ((IntKind.u64.wrap a1).tmod (K + 1)) = A) (hC : IntKind.i64.wrap ((IntKind.u64.wrap a2).tmod (K + 1)) = C)
    (hs : A = K ∨ C ≤ A) :
    Calls Try.prog 6 #[.int .i64 a0, .int .i64 a1, .int .i64 a2, .int .i64 a3] w fun e w' => e = .returned (.bool true) ∧ Grown w w' := by
  have H := Lib.hid hK
  have HA := Lib.hid hA
  have HB := Lib.hid hB
  have HC := Lib.hid hC
  obtain ⟨hx1, hx2⟩ := capI_bd A C K (by omega) (by omega) hC1
  have hx3 := capI_mono A A C K (by omega)
  have hx4 := capI_le A C K (by omega) hC2
  have E1 := Lib.hid (subE_yes A C K hs)
  have E2 := Lib.hid (subE_yes A C K (by omega))
  obtain ⟨hd1, hd2⟩ := subI_bd A C K (by omega) (by omega) hC1 (by omega) (by omega)
  have hd3 := subI_mono A A C K (by omega) (by omega) (by omega) (by omega)
  clear hK hA hB hC hs
  go_enter Try.func6, Try.ntmps6
  go_wp2_with (go_at_call 8; refine (awake_true _).mono ?_; rintro e w' ⟨rfl, rfl⟩)
  rw [H.out]
  have e1 : IntKind.i64.wrap (K + 1) = K + 1 := IntWalk.i64_in _ (by omega)
  have e2 : IntKind.u64.wrap (K + 1) = K + 1 := u64_succ K k1 k2
  have e3 : ((K + 1 : Int) == 0) = false := by rw [beq_eq_false_iff_ne]; omega
  have e4 : 0 ≤ K + 1 := by omega
  have hA := HA.out
  have hB := HB.out
  have hC := HC.out
  go_quiet (fail)
  clear e1 e2 e3 e4 hA hB hC
  go_wp2_with fail
  refine (add_yes _ _ _ _ (by omega) (by omega) (by omega) (by omega) (by omega) (by omega)).mono ?_
  rintro e w' ⟨rfl, rfl⟩
  go_wp2_with fail
  refine (add_yes _ _ _ _ (by omega) (by omega) (by omega) (by omega) (by omega) (by omega)).mono ?_
  rintro e w' ⟨rfl, rfl⟩
  go_wp2_with fail
  refine (add_yes _ _ _ _ (by omega) (by omega) (by omega) (by omega) (by omega) (by omega)).mono ?_
  rintro e w' ⟨rfl, rfl⟩
  rw [capI_comm C]
  go_wp2_with fail
  refine (in_yes _ _ _ (by omega) (by omega) (by omega) (by omega)).mono ?_
  rintro e w' ⟨rfl, rfl⟩
  go_wp2_with fail
  refine (sub_any _ _ _ _ (by omega) (by omega) (by omega) (by omega) (by omega) (by omega)).mono ?_
  rintro e w' ⟨rfl, rfl⟩
  rw [E1.out]
  go_wp2_with fail
  refine (sub_any _ _ _ _ (by omega) (by omega) (by omega) (by omega) (by omega) (by omega)).mono ?_
  rintro e w' ⟨rfl, rfl⟩
  rw [E2.out]
  go_wp2_with fail
  refine (in_yes _ _ _ (by omega) (by omega) (by omega) (by omega)).mono ?_
  rintro e w' ⟨rfl, rfl⟩
  go_wp2
  go_ret
  exact ⟨rfl, grown_drewN _ _⟩
theorem eq_no (a0 a1 a2 a3 K A C : Int) (w : World) (k1 : 1 ≤ K) (k2 : K ≤ 2147483648) (hK : wrap64 (1 + wrap64 ((IntKind.u64.wrap a3).tmod 2147483648)) = K)
    (hA1 : 0 ≤ A) (hA2 : A ≤ K) (hC1 : 0 ≤ C) (hC2 : C ≤ K) 
    (hA : IntKind.i64.wrap ((IntKind.u64.wrap a0).tmod (K + 1)) = A) (hB : IntKind.i64.wrap ((IntKind.u64.wrap a1).tmod (K + 1)) = A) (hC : IntKind.i64.wrap ((IntKind.u64.wrap a2).tmod (K + 1)) = C)
    (hs : ¬ (A = K ∨ C ≤ A)) :
    Calls Try.prog 6 #[.int .i64 a0, .int .i64 a1, .int .i64 a2, .int .i64 a3] w fun e w' => e = .returned (.bool true) ∧ Grown w w' := by
  have H := Lib.hid hK
  have HA := Lib.hid hA
  have HB := Lib.hid hB
  have HC := Lib.hid hC
  obtain ⟨hx1, hx2⟩ := capI_bd A C K (by omega) (by omega) hC1
  have hx3 := capI_mono A A C K (by omega)
  have hx4 := capI_le A C K (by omega) hC2
  have E1 := Lib.hid (subE_no A C K hs)
  clear hK hA hB hC hs
  go_enter Try.func6, Try.ntmps6
  go_wp2_with (go_at_call 8; refine (awake_true _).mono ?_; rintro e w' ⟨rfl, rfl⟩)
  rw [H.out]
  have e1 : IntKind.i64.wrap (K + 1) = K + 1 := IntWalk.i64_in _ (by omega)
  have e2 : IntKind.u64.wrap (K + 1) = K + 1 := u64_succ K k1 k2
  have e3 : ((K + 1 : Int) == 0) = false := by rw [beq_eq_false_iff_ne]; omega
  have e4 : 0 ≤ K + 1 := by omega
  have hA := HA.out
  have hB := HB.out
  have hC := HC.out
  go_quiet (fail)
  clear e1 e2 e3 e4 hA hB hC
  go_wp2_with fail
  refine (add_yes _ _ _ _ (by omega) (by omega) (by omega) (by omega) (by omega) (by omega)).mono ?_
  rintro e w' ⟨rfl, rfl⟩
  go_wp2_with fail
  refine (add_yes _ _ _ _ (by omega) (by omega) (by omega) (by omega) (by omega) (by omega)).mono ?_
  rintro e w' ⟨rfl, rfl⟩
  go_wp2_with fail
  refine (add_yes _ _ _ _ (by omega) (by omega) (by omega) (by omega) (by omega) (by omega)).mono ?_
  rintro e w' ⟨rfl, rfl⟩
  rw [capI_comm C]
  go_wp2_with fail
  refine (in_yes _ _ _ (by omega) (by omega) (by omega) (by omega)).mono ?_
  rintro e w' ⟨rfl, rfl⟩
  go_wp2_with fail
  refine (sub_any _ _ _ _ (by omega) (by omega) (by omega) (by omega) (by omega) (by omega)).mono ?_
  rintro e w' ⟨rfl, rfl⟩
  rw [E1.out]
  go_wp2_with fail
  refine (sub_any _ _ _ _ (by omega) (by omega) (by omega) (by omega) (by omega) (by omega)).mono ?_
  rintro e w' ⟨rfl, rfl⟩
  go_wp2
  go_ret
  exact ⟨rfl, grown_drewN _ _⟩
theorem walk (a0 : Int) (a1 : Int) (a2 : Int) (a3 : Int) (w0 : (Lit.int .i64 a0).wf = true) (w1 : (Lit.int .i64 a1).wf = true) (w2 : (Lit.int .i64 a2).wf = true) (w3 : (Lit.int .i64 a3).wf = true) (w : World) :
    Calls Try.prog 6 #[.int .i64 a0, .int .i64 a1, .int .i64 a2, .int .i64 a3] w fun e w' => e = .returned (.bool true) ∧ Grown w w' := by
  obtain ⟨K, k1, k2, hK⟩ := kay a3
  obtain ⟨A, hA1, hA2, hA⟩ := mod a0 K k1 k2
  obtain ⟨B, hB1, hB2, hB⟩ := mod a1 K k1 k2
  obtain ⟨C, hC1, hC2, hC⟩ := mod a2 K k1 k2
  by_cases hk : A < B
  · by_cases hs : A = K ∨ C ≤ A
    · exact lt_yes a0 a1 a2 a3 K A B C w k1 k2 hK hA1 hA2 hB1 hB2 hC1 hC2 hk hA hB hC hs
    · exact lt_no a0 a1 a2 a3 K A B C w k1 k2 hK hA1 hA2 hB1 hB2 hC1 hC2 hk hA hB hC hs
  · by_cases hq : B < A
    · by_cases hs : B = K ∨ C ≤ B
      · exact gt_yes a0 a1 a2 a3 K A B C w k1 k2 hK hA1 hA2 hB1 hB2 hC1 hC2 hq hA hB hC hs
      · exact gt_no a0 a1 a2 a3 K A B C w k1 k2 hK hA1 hA2 hB1 hB2 hC1 hC2 hq hA hB hC hs
    · have hB' : IntKind.i64.wrap ((IntKind.u64.wrap a1).tmod (K + 1)) = A := by rw [hB]; omega
      by_cases hs : A = K ∨ C ≤ A
      · exact eq_yes a0 a1 a2 a3 K A C w k1 k2 hK hA1 hA2 hC1 hC2 hA hB' hC hs
      · exact eq_no a0 a1 a2 a3 K A C w k1 k2 hK hA1 hA2 hC1 hC2 hA hB' hC hs


set_option maxRecDepth 100000 in
theorem lifted (os : Os) (started : os.Started) (H : Type) (enc : TypeId × Value → H) :
    ReturnsInHanded {} Try.checked os 6 .any (Rows.costOrdersSpec.pre6 enc Try.prog Try.f6 Rows.costOrdersRow.domain false) (Rows.costOrdersSpec.post enc Try.prog Try.f6 false true false false) := by
  refine returnsInHanded_of_change (C := Try.checked) own started (by kernel_rfl) Try.func6
    (ChangeSpec.witness6 (enc := enc) (C := Try.checked) false ⟨#[], #[.int .i64 0, .int .i64 0, .int .i64 0, .int .i64 0], []⟩ 8 (by kernel_rfl) (by kernel_rfl) (by kernel_rfl) (by kernel_rfl)) ?_
  intro W base args ds gs before hval0 hW hcnd _
  have hval : ∀ (j : Nat) t v, Try.f6.params[j]? = some t → args[j]? = some v → Value.okWide Try.prog W .any base t v := hval0
  have hW' := hW
  obtain ⟨p, q, hA0, hV, rfl, hfz, hnd⟩ := hW
  have hA : DataW.TrodAll enc Try.prog W 0 (fun _ => true) true Try.f6.params.toList args.toList ds p := hA0
  rw [Try.params6] at hA hval
  obtain ⟨v0, vs0, d0, ds0, p0, q0, hargs, rfl, rfl, h0, r0⟩ := trodAll_cons hA
  obtain ⟨v1, vs1, d1, ds1, p1, q1, rfl, rfl, rfl, h1, r1⟩ := trodAll_cons r0
  obtain ⟨v2, vs2, d2, ds2, p2, q2, rfl, rfl, rfl, h2, r2⟩ := trodAll_cons r1
  obtain ⟨v3, vs3, d3, ds3, p3, q3, rfl, rfl, rfl, h3, r3⟩ := trodAll_cons r2
  obtain ⟨rfl, rfl, rfl⟩ := trodAll_nil r3
  obtain rfl : args = #[v0, v1, v2, v3] := by cases args; simp_all
  obtain ⟨rfl, rfl⟩ := trodVars_none hV
  obtain ⟨a0, rfl, rfl, rfl, w0⟩ := open_int Try.underlying2 (hval 0 2 v0 rfl rfl) h0
  obtain ⟨a1, rfl, rfl, rfl, w1⟩ := open_int Try.underlying2 (hval 1 2 v1 rfl rfl) h1
  obtain ⟨a2, rfl, rfl, rfl, w2⟩ := open_int Try.underlying2 (hval 2 2 v2 rfl rfl) h2
  obtain ⟨a3, rfl, rfl, rfl, w3⟩ := open_int Try.underlying2 (hval 3 2 v3 rfl rfl) h3
  clear hA0 hval0
  simp only [List.append_nil] at hW'
  refine (walk a0 a1 a2 a3 w0 w1 w2 w3 W).mono fun e W' ⟨he, hg⟩ => ?_
  subst he
  exact ⟨_, rfl, post_of_same (pa := []) (pv := []) hW' (fun _ _ _ => (trodAll_cons_mk (shut_bool Try.underlying4 _) trodAll_mk0)) (fun sp _ => (trodAll_cons_mk (shut_int Try.underlying2 w0) (trodAll_cons_mk (shut_int Try.underlying2 w1) (trodAll_cons_mk (shut_int Try.underlying2 w2) (trodAll_cons_mk (shut_int Try.underlying2 w3) trodAll_mk0))))) (fun _ _ => rfl) rfl
    (hg.frame _) hg.2.1 (ok_one (by kernel_rfl) rfl (okWide_bool_mk Try.underlying4 _))⟩

theorem over : Rows.costOrdersRow.holds Try.pinned (OpenSpec.ofChange Rows.costOrdersSpec) :=
  OpenClaim.holds_of_wide 6 Try.f6 rfl rfl rfl rfl rfl rfl rfl ⟨rfl, rfl, rfl, rfl, rfl⟩ rfl rfl rfl rfl rfl (by kernel_rfl) Try.func6 (by kernel_rfl)
    (of_decide_eq_true (by kernel_rfl)) (by unfold Func.isWrapper; first | (rw [if_pos (by decide +kernel)]; kernel_rfl) | (rw [if_neg (by decide +kernel)]; exact ⟨rfl, rfl⟩))
    (fun os started H enc _ => lifted os started H enc)

theorem proved : Rows.CostOrdersSaid :=
  over
#print axioms proved
end Go.Proofs.Ytlpclbilomcaiaa.costOrders
