/- Proved: CostGaps returns true for every four int64 values, and changes no memory that was there. No condition. -/
import Derived.Test.YtlpclbilomcaiaaRows
import Derived.Test.YtlpclbilomcaiaaLists
import Derived.WalkKit
import Derived.ProofKit
import Derived.OpenShut
namespace Go.Proofs.Ytlpclbilomcaiaa.costGaps
open Go.ChangeShapes Go.WideShapes Go.ChangeAt Go.RowKit
set_option linter.unusedVariables false      -- a walk need not use every 'w<i>' (that an integer argument fits its kind)

theorem own : ownKnob Try.prog.godebug = none := by kernel_rfl

def mn3 (x y z : Int) : Int := min (min x y) z
def mx3 (x y z : Int) : Int := max (max x y) z
def mx2 (x y : Int) : Int := max x y
theorem run_mn3 {P : Program} (w : World) (ts : Array TypeId) (t : TypeId) (k k' k'' : IntKind) (x y z : Int) :
    (Builtin.min_ ts t #[.int k x, .int k' y, .int k'' z]).run P w = .ok (.int k (mn3 x y z)) w := by
  have e : (if z < (if y < x then y else x) then z else (if y < x then y else x)) = mn3 x y z := by
    unfold mn3; split <;> split <;> omega
  simp [Builtin.min_, Builtin.min2, e]
theorem run_mx3 {P : Program} (w : World) (ts : Array TypeId) (t : TypeId) (k k' k'' : IntKind) (x y z : Int) :
    (Builtin.max_ ts t #[.int k x, .int k' y, .int k'' z]).run P w = .ok (.int k (mx3 x y z)) w := by
  have e : (if z > (if y > x then y else x) then z else (if y > x then y else x)) = mx3 x y z := by
    unfold mx3; split <;> split <;> omega
  simp [Builtin.max_, Builtin.max2, e]
theorem run_mx2 {P : Program} (w : World) (ts : Array TypeId) (t : TypeId) (k k' : IntKind) (x y : Int) :
    (Builtin.max_ ts t #[.int k x, .int k' y]).run P w = .ok (.int k (mx2 x y)) w := by
  have e : (if y > x then y else x) = mx2 x y := by
    unfold mx2; split <;> omega
  simp [Builtin.max_, Builtin.max2, e]
attribute [local go_sem ↓] run_mn3 run_mx3 run_mx2
def three (A B C : Int) : Nat → Int
  | 0 => A
  | 1 => B
  | _ => C
theorem row3 (w : World) (b : Nat) (A B C : Int) (h0 : w.cell? ⟨b, 0, none⟩ = some (.int .i64 A)) (h1 : w.cell? ⟨b, 1, none⟩ = some (.int .i64 B)) (h2 : w.cell? ⟨b, 2, none⟩ = some (.int .i64 C)) :
    Row w b 0 3 (three A B C) := by
  intro i hi
  match i, hi with
  | 0, _ => exact h0
  | 1, _ => exact h1
  | 2, _ => exact h2
theorem three_in (A B C K : Int) (hA : 0 ≤ A ∧ A ≤ K) (hB : 0 ≤ B ∧ B ≤ K) (hC : 0 ≤ C ∧ C ≤ K) : ∀ i, i < 3 → 0 ≤ three A B C i ∧ three A B C i ≤ K := by
  intro i hi
  match i, hi with
  | 0, _ => exact hA
  | 1, _ => exact hB
  | 2, _ => exact hC
set_option maxRecDepth 100000 in
theorem walk0 (a0 a1 a2 a3 K A B C : Int) (w : World) (k1 : 1 ≤ K) (k2 : K ≤ 2147483648) (hK : wrap64 (1 + wrap64 ((IntKind.u64.wrap a3).tmod 2147483648)) = K)
    (hA1 : 0 ≤ A) (hA2 : A ≤ K) (hB1 : 0 ≤ B) (hB2 : B ≤ K) (hC1 : 0 ≤ C) (hC2 : C ≤ K)
    (hA : IntKind.i64.wrap ((IntKind.u64.wrap a0).tmod (K + 1)) = A) (hB : IntKind.i64.wrap ((IntKind.u64.wrap a1).tmod (K + 1)) = B) (hC : IntKind.i64.wrap ((IntKind.u64.wrap a2).tmod (K + 1)) = C) :
    Calls Try.prog 7 #[.int .i64 a0, .int .i64 a1, .int .i64 a2, .int .i64 a3] w fun e w' => e = .returned (.bool true) ∧ Below w.heap.size w w' := by
  have H := Lib.hid hK
  have HA := Lib.hid hA
  have HB := Lib.hid hB
  have HC := Lib.hid hC
  have HS := Lib.hid (show capI A (lackI A B) K = mx2 A B by unfold capI lackI mx2; split <;> split <;> omega)
  have HM := Lib.hid (show 0 ≤ mn3 A B C ∧ mn3 A B C ≤ A + B + C - mn3 A B C - mx3 A B C ∧ A + B + C - mn3 A B C - mx3 A B C ≤ mx3 A B C ∧ mx3 A B C ≤ K by unfold mn3 mx3; omega)
  have HL := Lib.hid (show leastTo (three A B C) K 3 = mn3 A B C by simp only [leastTo, three]; unfold mn3; omega)
  have HT := Lib.hid (show mx3 A B C ≤ sumTo (three A B C) K 3 by simp only [sumTo, three]; unfold mx3 capI; (repeat' split) <;> omega)
  clear hK hA hB hC
  go_enter Try.func7, Try.ntmps7
  go_wp2_with (go_at_call 8; refine (awake_true _).mono ?_; rintro e w' ⟨rfl, rfl⟩)
  rw [H.out]
  have e1 : IntKind.i64.wrap (K + 1) = K + 1 := IntWalk.i64_in _ (by omega)
  have e2 : IntKind.u64.wrap (K + 1) = K + 1 := u64_succ K k1 k2
  have e3 : ((K + 1 : Int) == 0) = false := by rw [beq_eq_false_iff_ne]; omega
  have e4 : 0 ≤ K + 1 := by omega
  have hA := HA.out
  have hB := HB.out
  have hC := HC.out
  go_quiet (fail)
  clear e1 e2 e3 e4 hA hB hC
  go_wp2_with fail
  refine (gap_yes _ _ _ _ (by omega) (by omega) (by omega) (by omega) (by omega) (by omega)).mono ?_
  rintro e w' ⟨rfl, rfl⟩
  go_wp2_with fail
  refine (add_yes _ _ _ _ (by omega) (by omega) (by omega) (by omega) (by unfold lackI; split <;> omega) (by unfold lackI; split <;> omega)).mono ?_
  rintro e w' ⟨rfl, rfl⟩
  rw [HS.out]
  go_wp2_with fail
  have hm1 : 0 ≤ mn3 A B C := HM.out.1
  have hm2 : mn3 A B C ≤ K := by have := HM.out; omega
  have hm3 : 0 ≤ mx3 A B C := by have := HM.out; omega
  have hm4 : mx3 A B C ≤ K := by have := HM.out; omega
  refine (gap_yes _ _ _ _ (by omega) (by omega) (by omega) (by omega) (by omega) (by omega)).mono ?_
  rintro e w' ⟨rfl, rfl⟩
  go_wp2_with fail
  obtain ⟨M, HE⟩ : ∃ M, Hid (A + B + C - mn3 A B C - mx3 A B C = M) := ⟨_, Lib.hid rfl⟩
  have hm5 : mn3 A B C ≤ M := by have := HM.out; have := HE.out; omega
  have hm6 : M ≤ mx3 A B C := by have := HM.out; have := HE.out; omega
  rw [HE.out]
  rw [show lackI (mn3 A B C) (mx3 A B C) = lackI (mn3 A B C) M + lackI M (mx3 A B C) by unfold lackI; split <;> split <;> split <;> omega]
  have hx1 : 0 ≤ lackI (mn3 A B C) M := by unfold lackI; split <;> omega
  have hx2 : lackI (mn3 A B C) M ≤ K := by unfold lackI; split <;> omega
  have hx3 : 0 ≤ lackI M (mx3 A B C) := by unfold lackI; split <;> omega
  have hx4 : lackI M (mx3 A B C) ≤ K := by unfold lackI; split <;> omega
  refine (gap_yes _ _ _ _ (by omega) (by omega) (by omega) (by omega) (by omega) (by omega)).mono ?_
  rintro e w' ⟨rfl, rfl⟩
  go_wp2_with fail
  refine (gap_yes _ _ _ _ (by omega) (by omega) (by omega) (by omega) (by omega) (by omega)).mono ?_
  rintro e w' ⟨rfl, rfl⟩
  go_wp2_with fail
  refine (least_yes _ _ _ _ _ (three A B C) _ (by omega) (row3 _ _ _ _ _ (by rw [World.cell?_alloc_at _ _ _ _ (by simp)]; rfl) (by rw [World.cell?_alloc_at _ _ _ _ (by simp)]; rfl) (by rw [World.cell?_alloc_at _ _ _ _ (by simp)]; rfl)) (by simp) k1 k2 (three_in A B C K ⟨hA1, hA2⟩ ⟨hB1, hB2⟩ ⟨hC1, hC2⟩)).mono ?_
  rintro e w1 ⟨rfl, b1⟩
  rw [HL.out]
  have z1 := b1.size
  simp at z1
  go_wp2_with fail
  refine (sum_yes _ _ _ _ _ (three A B C) _ (by omega) (row3 _ _ _ _ _ (by rw [World.cell?_alloc_at _ _ _ _ (by simp)]; rfl) (by rw [World.cell?_alloc_at _ _ _ _ (by simp)]; rfl) (by rw [World.cell?_alloc_at _ _ _ _ (by simp)]; rfl)) (by simp) k1 k2 (three_in A B C K ⟨hA1, hA2⟩ ⟨hB1, hB2⟩ ⟨hC1, hC2⟩)).mono ?_
  rintro e w2 ⟨rfl, b2⟩
  have z2 := b2.size
  simp at z2
  have hT := HT.out
  go_wp2
  go_ret
  refine ⟨rfl, ?_⟩
  have c0 : Below w.heap.size w (w.drewN nq) := below_drewN (Below.refl _ _) _
  have c1 : Below w.heap.size w w1 := (c0.alloc (by simp) _).trans (b1.mono (by simp))
  exact c1.trans (((Below.refl w.heap.size w1).alloc (by omega) _).trans (b2.mono (by simp; omega)))
theorem walk (a0 : Int) (a1 : Int) (a2 : Int) (a3 : Int) (w0 : (Lit.int .i64 a0).wf = true) (w1 : (Lit.int .i64 a1).wf = true) (w2 : (Lit.int .i64 a2).wf = true) (w3 : (Lit.int .i64 a3).wf = true) (w : World) :
    Calls Try.prog 7 #[.int .i64 a0, .int .i64 a1, .int .i64 a2, .int .i64 a3] w fun e w' => e = .returned (.bool true) ∧ Below w.heap.size w w' := by
  obtain ⟨K, k1, k2, hK⟩ := kay a3
  obtain ⟨A, hA1, hA2, hA⟩ := mod a0 K k1 k2
  obtain ⟨B, hB1, hB2, hB⟩ := mod a1 K k1 k2
  obtain ⟨C, hC1, hC2, hC⟩ := mod a2 K k1 k2
  exact walk0 a0 a1 a2 a3 K A B C w k1 k2 hK hA1 hA2 hB1 hB2 hC1 hC2 hA hB hC


set_option maxRecDepth 100000 in
theorem lifted (os : Os) (started : os.Started) (H : Type) (enc : TypeId × Value → H) :
    ReturnsInHanded {} Try.checked os 7 .any (Rows.costGapsSpec.pre6 enc Try.prog Try.f7 Rows.costGapsRow.domain false) (Rows.costGapsSpec.post enc Try.prog Try.f7 false true false false) := by
  refine returnsInHanded_of_change (C := Try.checked) own started (by kernel_rfl) Try.func7
    (ChangeSpec.witness6 (enc := enc) (C := Try.checked) false ⟨#[], #[.int .i64 0, .int .i64 0, .int .i64 0, .int .i64 0], []⟩ 8 (by kernel_rfl) (by kernel_rfl) (by kernel_rfl) (by kernel_rfl)) ?_
  intro W base args ds gs before hval0 hW hcnd _
  have hval : ∀ (j : Nat) t v, Try.f7.params[j]? = some t → args[j]? = some v → Value.okWide Try.prog W .any base t v := hval0
  have hW' := hW
  obtain ⟨p, q, hA0, hV, rfl, hfz, hnd⟩ := hW
  have hA : DataW.TrodAll enc Try.prog W 0 (fun _ => true) true Try.f7.params.toList args.toList ds p := hA0
  rw [Try.params7] at hA hval
  obtain ⟨v0, vs0, d0, ds0, p0, q0, hargs, rfl, rfl, h0, r0⟩ := trodAll_cons hA
  obtain ⟨v1, vs1, d1, ds1, p1, q1, rfl, rfl, rfl, h1, r1⟩ := trodAll_cons r0
  obtain ⟨v2, vs2, d2, ds2, p2, q2, rfl, rfl, rfl, h2, r2⟩ := trodAll_cons r1
  obtain ⟨v3, vs3, d3, ds3, p3, q3, rfl, rfl, rfl, h3, r3⟩ := trodAll_cons r2
  obtain ⟨rfl, rfl, rfl⟩ := trodAll_nil r3
  obtain rfl : args = #[v0, v1, v2, v3] := by cases args; simp_all
  obtain ⟨rfl, rfl⟩ := trodVars_none hV
  obtain ⟨a0, rfl, rfl, rfl, w0⟩ := open_int Try.underlying2 (hval 0 2 v0 rfl rfl) h0
  obtain ⟨a1, rfl, rfl, rfl, w1⟩ := open_int Try.underlying2 (hval 1 2 v1 rfl rfl) h1
  obtain ⟨a2, rfl, rfl, rfl, w2⟩ := open_int Try.underlying2 (hval 2 2 v2 rfl rfl) h2
  obtain ⟨a3, rfl, rfl, rfl, w3⟩ := open_int Try.underlying2 (hval 3 2 v3 rfl rfl) h3
  clear hA0 hval0
  simp only [List.append_nil] at hW'
  refine (walk a0 a1 a2 a3 w0 w1 w2 w3 W).mono fun e W' ⟨he, hg⟩ => ?_
  subst he
  exact ⟨_, rfl, _, _, _, [], [], [], hW', (trodAll_cons_mk (shut_bool Try.underlying4 _) trodAll_mk0), (trodAll_cons_mk (shut_int Try.underlying2 w0) (trodAll_cons_mk (shut_int Try.underlying2 w1) (trodAll_cons_mk (shut_int Try.underlying2 w2) (trodAll_cons_mk (shut_int Try.underlying2 w3) trodAll_mk0)))), rfl, hg.frame _, fun h => by cases h⟩

theorem over : Rows.costGapsRow.holds Try.pinned (OpenSpec.ofChange Rows.costGapsSpec) :=
  OpenClaim.holds_of_wide 7 Try.f7 rfl rfl rfl rfl rfl rfl rfl ⟨rfl, rfl, rfl, rfl, rfl⟩ rfl rfl rfl rfl rfl (by kernel_rfl) Try.func7 (by kernel_rfl)
    (of_decide_eq_true (by kernel_rfl)) (by unfold Func.isWrapper; first | (rw [if_pos (by decide +kernel)]; kernel_rfl) | (rw [if_neg (by decide +kernel)]; exact ⟨rfl, rfl⟩))
    (fun os started H enc _ => lifted os started H enc)

theorem proved : Rows.CostGapsSaid :=
  over
#print axioms proved
end Go.Proofs.Ytlpclbilomcaiaa.costGaps
