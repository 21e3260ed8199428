/- Proved: CostLists returns true for every slice of int64, every int64 and every bool, and changes nothing that was there. No condition. -/
import Derived.Test.YtlpclbilomcaiaaRows
import Derived.Test.YtlpclbilomcaiaaOwn
import Derived.WalkKit
import Derived.ProofKit
import Derived.OpenShut
import Derived.ShutString
import Derived.ChangeOld
import Derived.Below
namespace Go.Proofs.Ytlpclbilomcaiaa.costLists
open Go.ChangeShapes Go.WideShapes Go.ChangeAt Go.RowKit
open Go.ChangeMaps (open_string shut_string)
set_option linter.unusedVariables false

theorem own : ownKnob Try.prog.godebug = none := by kernel_rfl
theorem laidOut : laidOutB Try.prog = true := by kernel_rfl

def IsRow (k : IntKind) (w : World) (a : Option Addr) (len cap : Nat) (zs : List Int) : Prop :=
  (a = none ∧ len = 0 ∧ cap = 0 ∧ zs = []) ∨
  ∃ x, a = some x ∧ len ≤ cap ∧ cap ≤ maxLen ∧ zs.length = cap ∧ (∀ i, i < zs.length → w.cell? (x.add i) = some (.int k (zs.getD i 0))) ∧ ∀ n ∈ zs, (Lit.int k n).wf = true

def mn2 (x y : Int) : Int := min x y
theorem run_mn2 {P : Program} (w : World) (ts : Array TypeId) (t : TypeId) (k k' : IntKind) (x y : Int) :
    (Builtin.min_ ts t #[.int k x, .int k' y]).run P w = .ok (.int k (mn2 x y)) w := by
  have e : (if y < x then y else x) = mn2 x y := by
    unfold mn2; split <;> omega
  simp [Builtin.min_, Builtin.min2, e]
attribute [local go_sem ↓] run_mn2
set_option maxRecDepth 100000 in
theorem wide (A : Option Addr) (n c m : Nat) (k : Int) (z : Nat → Int) (w : World) (hA : Came w A n c z) (hc : n ≤ c) (hm1 : m ≤ n) (hm2 : m ≤ 12) (hm : mn2 n 12 = m) (hk : k < 1 ∨ 2147483648 < k) :
    Calls Try.prog 4 #[.slice A n c, .int .i64 k, .bool false] w fun e w' => e = .returned (.bool true) ∧ Below w.heap.size w w' := by
  have HA := Lib.hid hA
  have HK := Lib.hid hk
  clear hA hk
  go_enter Try.func4, Try.ntmps4
  go_wp2_with (first | (go_at_call 8; refine (awake_true _).mono ?_; rintro e w' ⟨rfl, rfl⟩) | (at_builtin; refine append_any rfl _ _ rfl w A n c m z HA.out hm1 hm2 rfl rfl ?_; intro g cap w1 hM hB) | (go_at_call 13; refine (rright_no _ _ HK.out).mono ?_; rintro e w' ⟨rfl, rfl⟩))
  have HM := Lib.hid hM
  have HB := Lib.hid hB
  clear hM hB
  go_loop [8, 9, 10, 12, 56] (fun o s l _ i => ∃ j : Nat, j ≤ m ∧ i = .int .i64 j ∧ o = .bool false ∧ s = .int .i64 0 ∧ l = .int .i64 k) (fun _ _ _ _ i => m - (intOf i).toNat)
  case atStart => exact ⟨0, Nat.zero_le _, rfl, rfl, rfl, rfl⟩
  case round =>
    obtain ⟨j, hj, rfl, rfl, rfl, rfl⟩ := hrel
    by_cases hlt : j < m
    · have hcell := HM.out.row j hlt
      rw [Nat.zero_add] at hcell
      go_wp2
      go_round
      case rel => exact ⟨j + 1, by omega, by go_num, rfl, rfl, rfl⟩
      case measure => simp [intOf]; omega
    · go_wp2_with fail
      refine (sum_no _ _ _ _ _ z _ (by omega) HM.out.row HM.out.lt.2 (.inl HK.out)).mono ?_
      rintro e w2 ⟨rfl, b2⟩
      have z2 := b2.size
      have l2 := HM.out.lt.2
      go_wp2_with fail
      refine (least_no _ _ _ _ _ z _ (by omega) (HM.out.row.below HM.out.lt.2 b2) (by omega) (.inl HK.out)).mono ?_
      rintro e w3 ⟨rfl, b3⟩
      go_wp2
      go_ret
      exact ⟨rfl, HB.out.trans ((b2.mono HB.out.size).trans (b3.mono (by have := HB.out.size; omega)))⟩
set_option maxRecDepth 100000 in
theorem fits (A : Option Addr) (n c m : Nat) (k : Int) (z : Nat → Int) (w : World) (hA : Came w A n c z) (hc : n ≤ c) (hm1 : m ≤ n) (hm2 : m ≤ 12) (hm : mn2 n 12 = m) (k1 : 1 ≤ k) (k2 : k ≤ 2147483648) (hz : ∀ i, i < m → 0 ≤ z i ∧ z i ≤ k) :
    Calls Try.prog 4 #[.slice A n c, .int .i64 k, .bool false] w fun e w' => e = .returned (.bool true) ∧ Below w.heap.size w w' := by
  have HA := Lib.hid hA
  have HZ := Lib.hid hz
  clear hA hz
  go_enter Try.func4, Try.ntmps4
  go_wp2_with (first | (go_at_call 8; refine (awake_true _).mono ?_; rintro e w' ⟨rfl, rfl⟩) | (at_builtin; refine append_any rfl _ _ rfl w A n c m z HA.out hm1 hm2 rfl rfl ?_; intro g cap w1 hM hB) | (go_at_call 13; refine (rright_yes _ _ k1 k2).mono ?_; rintro e w' ⟨rfl, rfl⟩))
  have HM := Lib.hid hM
  have HB := Lib.hid hB
  clear hM hB
  go_loop [8, 9, 10, 12, 56] (fun o s l _ i => ∃ j : Nat, j ≤ m ∧ i = .int .i64 j ∧ o = .bool true ∧ s = .int .i64 (sumTo z k j) ∧ l = .int .i64 (leastTo z k j)) (fun _ _ _ _ i => m - (intOf i).toNat)
  case atStart => exact ⟨0, Nat.zero_le _, rfl, rfl, rfl, rfl⟩
  case round =>
    obtain ⟨j, hj, rfl, rfl, rfl, rfl⟩ := hrel
    by_cases hlt : j < m
    · have hcell := HM.out.row j hlt
      rw [Nat.zero_add] at hcell
      obtain ⟨hz1, hz2⟩ := HZ.out j hlt
      obtain ⟨hs1, hs2⟩ := sumTo_bd z k j k1 (fun i hi => HZ.out i (by omega))
      have hs := Lib.hid (show capI (sumTo z k j) (z j) k = sumTo z k (j + 1) from rfl)
      have hl := Lib.hid (show min (leastTo z k j) (z j) = leastTo z k (j + 1) from rfl)
      generalize z j = x at hcell hz1 hz2 hs hl
      generalize sumTo z k j = s at hs1 hs2 hs
      generalize leastTo z k j = l at hl
      go_wp2_with (first | (go_at_call 15; refine (rin_yes _ _ _ k1 k2 (by omega) (by omega)).mono ?_; rintro e w' ⟨rfl, rfl⟩) | (go_at_call 17; refine (radd_any _ _ _ _ k2 (by omega) (by omega) (by omega) (by omega)).mono ?_; rintro e w' ⟨rfl, rfl⟩) | (go_at_call 18; refine (rless_any _ _ _).mono ?_; rintro e w' ⟨rfl, rfl⟩; rw [hl.out]))
      go_round
      case rel => exact ⟨j + 1, by omega, by go_num, rfl, by rw [hs.out], rfl⟩
      case measure => simp [intOf]; omega
    · obtain rfl : j = m := by omega
      go_wp2_with fail
      refine (sum_yes _ _ _ _ _ z _ (by omega) HM.out.row HM.out.lt.2 k1 k2 HZ.out).mono ?_
      rintro e w2 ⟨rfl, b2⟩
      have z2 := b2.size
      have l2 := HM.out.lt.2
      go_wp2_with fail
      refine (least_yes _ _ _ _ _ z _ (by omega) (HM.out.row.below HM.out.lt.2 b2) (by omega) k1 k2 HZ.out).mono ?_
      rintro e w3 ⟨rfl, b3⟩
      go_wp2
      go_ret
      exact ⟨rfl, HB.out.trans ((b2.mono HB.out.size).trans (b3.mono (by have := HB.out.size; omega)))⟩
set_option maxRecDepth 100000 in
theorem bad (A : Option Addr) (n c m p : Nat) (k : Int) (z : Nat → Int) (w : World) (hA : Came w A n c z) (hc : n ≤ c) (hm1 : m ≤ n) (hm2 : m ≤ 12) (hm : mn2 n 12 = m) (k1 : 1 ≤ k) (k2 : k ≤ 2147483648)
    (hp : p < m) (hz : ∀ i, i < p → 0 ≤ z i ∧ z i ≤ k) (hb : z p < 0 ∨ k < z p) :
    Calls Try.prog 4 #[.slice A n c, .int .i64 k, .bool false] w fun e w' => e = .returned (.bool true) ∧ Below w.heap.size w w' := by
  have HA := Lib.hid hA
  have HZ := Lib.hid hz
  have HP := Lib.hid hb
  have HW : Hid (Wrongs m z k) := Lib.hid (.inr ⟨⟨k1, k2⟩, p, hp, hb⟩)
  clear hA hz hb
  go_enter Try.func4, Try.ntmps4
  go_wp2_with (first | (go_at_call 8; refine (awake_true _).mono ?_; rintro e w' ⟨rfl, rfl⟩) | (at_builtin; refine append_any rfl _ _ rfl w A n c m z HA.out hm1 hm2 rfl rfl ?_; intro g cap w1 hM hB) | (go_at_call 13; refine (rright_yes _ _ k1 k2).mono ?_; rintro e w' ⟨rfl, rfl⟩))
  have HM := Lib.hid hM
  have HB := Lib.hid hB
  clear hM hB
  go_loop [8, 9, 10, 12, 56] (fun o s l _ i => ∃ (j : Nat) (b : Bool) (x y : Int), j ≤ m ∧ i = .int .i64 j ∧ o = .bool b ∧ s = .int .i64 x ∧ l = .int .i64 y ∧ (b = true → j ≤ p ∧ 0 ≤ x ∧ x ≤ k) ∧ (b = false → p < j)) (fun _ _ _ _ i => m - (intOf i).toNat)
  case atStart => exact ⟨0, true, 0, k, Nat.zero_le _, rfl, rfl, rfl, rfl, fun _ => ⟨by omega, by omega, by omega⟩, fun h => by cases h⟩
  case round =>
    obtain ⟨j, b, x, y, hj, rfl, rfl, rfl, rfl, ht, hf⟩ := hrel
    by_cases hlt : j < m
    · have hcell := HM.out.row j hlt
      rw [Nat.zero_add] at hcell
      cases b with
      | false =>
        have hf := hf rfl
        clear ht
        go_wp2
        go_round
        case rel => exact ⟨j + 1, false, x, y, by omega, by go_num, rfl, rfl, rfl, (fun h => by cases h), fun _ => by omega⟩
        case measure => simp [intOf]; omega
      | true =>
        obtain ⟨hjp, hx1, hx2⟩ := ht rfl
        clear hf ht
        by_cases e : j = p
        · have hb : Hid (z j < 0 ∨ k < z j) := by rw [e]; exact HP
          generalize z j = q at hcell hb
          have hjp' : p < j + 1 := by omega
          clear e
          go_wp2_with (go_at_call 15; refine (rin_no _ _ _ (.inr hb.out)).mono ?_; rintro e w' ⟨rfl, rfl⟩)
          go_round
          case rel => exact ⟨j + 1, false, x, y, by omega, by go_num, rfl, rfl, rfl, (fun h => by cases h), fun _ => hjp'⟩
          case measure => simp [intOf]; omega
        · obtain ⟨hz1, hz2⟩ := HZ.out j (by omega)
          have hjp' : j + 1 ≤ p := by omega
          generalize z j = q at hcell hz1 hz2
          obtain ⟨hc1, hc2⟩ := capI_bd x q k hx1 hx2 hz1
          clear e
          go_wp2_with (first | (go_at_call 15; refine (rin_yes _ _ _ k1 k2 (by omega) (by omega)).mono ?_; rintro e w' ⟨rfl, rfl⟩) | (go_at_call 17; refine (radd_any _ _ _ _ k2 (by omega) (by omega) (by omega) (by omega)).mono ?_; rintro e w' ⟨rfl, rfl⟩) | (go_at_call 18; refine (rless_any _ _ _).mono ?_; rintro e w' ⟨rfl, rfl⟩))
          go_round
          case rel => exact ⟨j + 1, true, capI x q k, min y q, by omega, by go_num, rfl, rfl, rfl, fun _ => ⟨hjp', hc1, hc2⟩, (fun h => by cases h)⟩
          case measure => simp [intOf]; omega
    · have hb : b = false := by
        cases b with
        | false => rfl
        | true => have := (ht rfl).1; omega
      subst hb
      clear ht hf
      go_wp2_with fail
      refine (sum_no _ _ _ _ _ z _ (by omega) HM.out.row HM.out.lt.2 HW.out).mono ?_
      rintro e w2 ⟨rfl, b2⟩
      have z2 := b2.size
      have l2 := HM.out.lt.2
      go_wp2_with fail
      refine (least_no _ _ _ _ _ z _ (by omega) (HM.out.row.below HM.out.lt.2 b2) (by omega) HW.out).mono ?_
      rintro e w3 ⟨rfl, b3⟩
      go_wp2
      go_ret
      exact ⟨rfl, HB.out.trans ((b2.mono HB.out.size).trans (b3.mono (by have := HB.out.size; omega)))⟩
def modI (x k : Int) : Int := IntKind.i64.wrap ((IntKind.u64.wrap x).tmod (k + 1))
theorem modI_bd (x k : Int) (k1 : 1 ≤ k) (k2 : k ≤ 2147483648) : 0 ≤ modI x k ∧ modI x k ≤ k := by
  obtain ⟨a, h1, h2, h⟩ := mod x k k1 k2
  unfold modI; rw [h]; exact ⟨h1, h2⟩
theorem step (y z : Nat → Int) (i j : Nat) : (if i = j then y j else if i < j then y i else z i) = (if i < j + 1 then y i else z i) := by
  by_cases e : i = j
  · subst e; rw [if_pos rfl, if_pos (by omega)]
  · rw [if_neg e]
    by_cases h : i < j
    · rw [if_pos h, if_pos (by omega)]
    · rw [if_neg h, if_neg (by omega)]
set_option maxRecDepth 100000 in
theorem tame (A : Option Addr) (n c m : Nat) (a1 k : Int) (z : Nat → Int) (w : World) (hA : Came w A n c z) (hc : n ≤ c) (hm1 : m ≤ n) (hm2 : m ≤ 12) (hm : mn2 n 12 = m) (k1 : 1 ≤ k) (k2 : k ≤ 2147483648)
    (hK : wrap64 (1 + wrap64 ((IntKind.u64.wrap a1).tmod 2147483648)) = k) :
    Calls Try.prog 4 #[.slice A n c, .int .i64 a1, .bool true] w fun e w' => e = .returned (.bool true) ∧ Below w.heap.size w w' := by
  have HA := Lib.hid hA
  have HK := Lib.hid hK
  obtain ⟨y, HY⟩ : ∃ y : Nat → Int, Hid (∀ i, y i = modI (z i) k) := ⟨fun i => modI (z i) k, Lib.hid fun _ => rfl⟩
  have HZ : Hid (∀ i, i < m → 0 ≤ y i ∧ y i ≤ k) := Lib.hid fun i _ => by rw [HY.out i]; exact modI_bd _ _ k1 k2
  clear hA hK
  go_enter Try.func4, Try.ntmps4
  go_wp2_with (first | (go_at_call 8; refine (awake_true _).mono ?_; rintro e w' ⟨rfl, rfl⟩) | (at_builtin; refine append_any rfl _ _ rfl w A n c m z HA.out hm1 hm2 rfl rfl ?_; intro g cap w1 hM hB))
  have HM := Lib.hid hM
  have HB := Lib.hid hB
  clear hM hB
  rw [HK.out]
  go_loopw [7, 34] (fun _ i wr => ∃ j : Nat, j ≤ m ∧ i = .int .i64 j ∧ Mine wr w.heap.size g m (fun i => if i < j then y i else z i) ∧ Below w.heap.size w wr) (fun _ i _ => m - (intOf i).toNat)
  case atStart => exact ⟨0, Nat.zero_le _, rfl, HM.out.same (fun i _ => by simp), HB.out⟩
  case round =>
    obtain ⟨j, hj, rfl, hMr, hBr⟩ := hrel
    have HMr := Lib.hid hMr
    have HBr := Lib.hid hBr
    clear hMr hBr
    by_cases hlt : j < m
    · have hcell := HMr.out.row j hlt
      have hfree := HMr.out.free j
      rw [Nat.zero_add, if_neg (by omega)] at hcell
      have hy := Lib.hid (HY.out j)
      generalize z j = x at hcell hy
      have e2 : IntKind.u64.wrap (k + 1) = k + 1 := u64_succ k k1 k2
      have e3 : ((k + 1 : Int) == 0) = false := by rw [beq_eq_false_iff_ne]; omega
      go_wp2
      have hv : wrap64 ((IntKind.u64.wrap x).tmod (k + 1)) = y j := by rw [hy.out]; exact (IntWalk.i64_left _).symm
      rw [hv]
      go_roundw
      case rel => exact ⟨j + 1, by omega, by go_num, (HMr.out.set hlt (y j)).same (fun i _ => step y z i j), HBr.out.setCell HMr.out.lt.1 _⟩
      case measure => simp [intOf]; omega
    · obtain rfl : j = m := by omega
      have HM' := Lib.hid (HMr.out.same (y := y) (fun i hi => by rw [if_pos hi]))
      clear HM HB HMr
      have HM := HM'
      have HB := HBr
      go_wp2_with (go_at_call 13; refine (rright_yes _ _ k1 k2).mono ?_; rintro e w' ⟨rfl, rfl⟩)
      go_loop [8, 9, 10, 12, 56] (fun o s l _ i => ∃ q : Nat, q ≤ j ∧ i = .int .i64 q ∧ o = .bool true ∧ s = .int .i64 (sumTo y k q) ∧ l = .int .i64 (leastTo y k q)) (fun _ _ _ _ i => j - (intOf i).toNat)
      case atStart => exact ⟨0, Nat.zero_le _, rfl, rfl, rfl, rfl⟩
      case round =>
        obtain ⟨q, hj, rfl, rfl, rfl, rfl⟩ := hrel
        by_cases hlt : q < j
        · have hcell := HM.out.row q hlt
          rw [Nat.zero_add] at hcell
          obtain ⟨hz1, hz2⟩ := HZ.out q hlt
          obtain ⟨hs1, hs2⟩ := sumTo_bd y k q k1 (fun i hi => HZ.out i (by omega))
          have hs := Lib.hid (show capI (sumTo y k q) (y q) k = sumTo y k (q + 1) from rfl)
          have hl := Lib.hid (show min (leastTo y k q) (y q) = leastTo y k (q + 1) from rfl)
          generalize y q = x at hcell hz1 hz2 hs hl
          generalize sumTo y k q = s at hs1 hs2 hs
          generalize leastTo y k q = l at hl
          go_wp2_with (first | (go_at_call 15; refine (rin_yes _ _ _ k1 k2 (by omega) (by omega)).mono ?_; rintro e w' ⟨rfl, rfl⟩) | (go_at_call 17; refine (radd_any _ _ _ _ k2 (by omega) (by omega) (by omega) (by omega)).mono ?_; rintro e w' ⟨rfl, rfl⟩) | (go_at_call 18; refine (rless_any _ _ _).mono ?_; rintro e w' ⟨rfl, rfl⟩; rw [hl.out]))
          go_round
          case rel => exact ⟨q + 1, by omega, by go_num, rfl, by rw [hs.out], rfl⟩
          case measure => simp [intOf]; omega
        · obtain rfl : q = j := by omega
          go_wp2_with fail
          refine (sum_yes _ _ _ _ _ y _ (by omega) HM.out.row HM.out.lt.2 k1 k2 HZ.out).mono ?_
          rintro e w2 ⟨rfl, b2⟩
          have z2 := b2.size
          have l2 := HM.out.lt.2
          go_wp2_with fail
          refine (least_yes _ _ _ _ _ y _ (by omega) (HM.out.row.below HM.out.lt.2 b2) (by omega) k1 k2 HZ.out).mono ?_
          rintro e w3 ⟨rfl, b3⟩
          go_wp2
          go_ret
          exact ⟨rfl, HB.out.trans ((b2.mono HB.out.size).trans (b3.mono (by have := HB.out.size; omega)))⟩
theorem pick (z : Nat → Int) (k : Int) (m : Nat) : (∀ i, i < m → 0 ≤ z i ∧ z i ≤ k) ∨ ∃ p, p < m ∧ (∀ i, i < p → 0 ≤ z i ∧ z i ≤ k) ∧ (z p < 0 ∨ k < z p) := by
  induction m with
  | zero => exact .inl fun i hi => absurd hi (by omega)
  | succ m ih =>
    rcases ih with h | ⟨p, hp, h1, h2⟩
    · by_cases hb : z m < 0 ∨ k < z m
      · exact .inr ⟨m, by omega, h, hb⟩
      · refine .inl fun i hi => ?_
        by_cases e : i = m
        · subst e; omega
        · exact h i (by omega)
    · exact .inr ⟨p, by omega, h1, h2⟩
theorem walk (a0 : Option Addr) (len0 cap0 : Nat) (z0 : List Int) (a1 : Int) (a2 : Bool) (w : World) (w0 : IsRow .i64 w a0 len0 cap0 z0) (w1 : (Lit.int .i64 a1).wf = true) :
    Calls Try.prog 4 #[.slice a0 len0 cap0, .int .i64 a1, .bool a2] w fun e w' => e = .returned (.bool true) ∧ Below w.heap.size w w' := by
  have hA : Came w a0 len0 cap0 (fun i => z0.getD i 0) := by
    rcases w0 with ⟨h1, h2, h3, _⟩ | ⟨x, h1, h2, _, h4, h5, _⟩
    · exact .inl ⟨h1, h2, h3⟩
    · exact .inr ⟨x, h1, h2, fun i hi => h5 i (by omega)⟩
  have hc : len0 ≤ cap0 := by
    rcases w0 with ⟨_, h2, h3, _⟩ | ⟨_, _, h2, _⟩ <;> omega
  have hm : mn2 len0 12 = ((min len0 12 : Nat) : Int) := by unfold mn2; omega
  cases a2 with
  | true =>
    obtain ⟨k, k1, k2, hK⟩ := kay a1
    exact tame a0 len0 cap0 (min len0 12) a1 k _ w hA hc (by omega) (by omega) hm k1 k2 hK
  | false =>
    by_cases hk : a1 < 1 ∨ 2147483648 < a1
    · exact wide a0 len0 cap0 (min len0 12) a1 _ w hA hc (by omega) (by omega) hm hk
    · rcases pick (fun i => z0.getD i 0) a1 (min len0 12) with h | ⟨p, hp, h1, h2⟩
      · exact fits a0 len0 cap0 (min len0 12) a1 _ w hA hc (by omega) (by omega) hm (by omega) (by omega) h
      · exact bad a0 len0 cap0 (min len0 12) p a1 _ w hA hc (by omega) (by omega) hm (by omega) (by omega) hp h1 h2


set_option maxRecDepth 100000 in
theorem lifted (os : Os) (started : os.Started) (H : Type) (enc : TypeId × Value → H) :
    ReturnsInHanded {} Try.checked os 4 .any (Rows.costListsSpec.pre6 enc Try.prog Try.f4 Rows.costListsRow.domain false) (Rows.costListsSpec.post enc Try.prog Try.f4 false true false false) := by
  refine returnsInHanded_of_change (C := Try.checked) own started (by kernel_rfl) Try.func4
    (ChangeSpec.witness6 (enc := enc) (C := Try.checked) false ⟨#[], #[.slice none 0 0, .int .i64 0, .bool false], []⟩ 8 (by kernel_rfl) (by kernel_rfl) (by kernel_rfl) (by kernel_rfl)) ?_
  intro W base args ds gs before hval0 hW hcnd _
  have hval : ∀ (j : Nat) t v, Try.f4.params[j]? = some t → args[j]? = some v → Value.okWide Try.prog W .any base t v := hval0
  have hW' := hW
  obtain ⟨p, q, hA0, hV, rfl, hfz, hnd⟩ := hW
  have hA : DataW.TrodAll enc Try.prog W 0 (fun _ => true) true Try.f4.params.toList args.toList ds p := hA0
  rw [Try.params4] at hA hval
  obtain ⟨v0, vs0, d0, ds0, p0, q0, hargs, rfl, rfl, h0, r0⟩ := trodAll_cons hA
  obtain ⟨v1, vs1, d1, ds1, p1, q1, rfl, rfl, rfl, h1, r1⟩ := trodAll_cons r0
  obtain ⟨v2, vs2, d2, ds2, p2, q2, rfl, rfl, rfl, h2, r2⟩ := trodAll_cons r1
  obtain ⟨rfl, rfl, rfl⟩ := trodAll_nil r2
  obtain rfl : args = #[v0, v1, v2] := by cases args; simp_all
  obtain ⟨rfl, rfl⟩ := trodVars_none hV
  obtain ⟨a0, len0, cap0, rfl⟩ := okWide_slice Try.underlying32 (hval 0 32 v0 rfl rfl)
  have k0 := h0
  have lt0 : ∀ x ∈ p0, x.block < W.heap.size := by obtain ⟨m, hm⟩ := k0; exact DataW.trod_lt m _ _ _ hm
  obtain ⟨z0, w0⟩ : ∃ zs, IsRow .i64 W a0 len0 cap0 zs := by
    obtain ⟨fuel, hf⟩ := h0
    rcases open_ints Try.underlying32 Try.underlying2 (by kernel_rfl) hf with ⟨hcs, _⟩ | ⟨x, l, c, zs, hcs, _, hl, hm, hz, _, hcell, hwz⟩
    · simp [Value.cells] at hcs
      obtain ⟨rfl, rfl, rfl⟩ := hcs
      exact ⟨[], .inl ⟨rfl, rfl, rfl, rfl⟩⟩
    · simp [Value.cells] at hcs
      obtain ⟨rfl, rfl, rfl⟩ := hcs
      exact ⟨zs, .inr ⟨_, rfl, hl, hm, by simpa using hz, hcell, hwz⟩⟩
  obtain ⟨a1, rfl, rfl, rfl, w1⟩ := open_int Try.underlying2 (hval 1 2 v1 rfl rfl) h1
  obtain ⟨a2, rfl, rfl, rfl⟩ := open_bool Try.underlying4 (hval 2 4 v2 rfl rfl) h2
  clear hA0 hval0
  refine (walk a0 len0 cap0 z0 a1 a2 W w0 w1).mono fun e W' ⟨he, bel⟩ => ?_
  subst he
  exact ⟨_, rfl, _, _, _, [], _, [], hW', trodAll_mk1 (shut_bool Try.underlying4 _), (trodAll_cons_mk (Below.trod laidOut (by kernel_rfl) (of_decide_eq_true (by kernel_rfl)) k0 bel lt0) (trodAll_cons_mk (shut_int Try.underlying2 w1) (trodAll_cons_mk (shut_bool Try.underlying4 _) trodAll_mk0))), rfl, bel.frame _, fun h => by cases h⟩

theorem over : Rows.costListsRow.holds Try.pinned (OpenSpec.ofChange Rows.costListsSpec) :=
  OpenClaim.holds_of_wide 4 Try.f4 rfl rfl rfl rfl rfl rfl rfl ⟨rfl, rfl, rfl, rfl, rfl⟩ rfl rfl rfl rfl rfl (by kernel_rfl) Try.func4 (by kernel_rfl)
    (of_decide_eq_true (by kernel_rfl)) (by unfold Func.isWrapper; first | (rw [if_pos (by decide +kernel)]; kernel_rfl) | (rw [if_neg (by decide +kernel)]; exact ⟨rfl, rfl⟩))
    (fun os started H enc _ => lifted os started H enc)

theorem proved : Rows.CostListsSaid := over
#print axioms proved
end Go.Proofs.Ytlpclbilomcaiaa.costLists
