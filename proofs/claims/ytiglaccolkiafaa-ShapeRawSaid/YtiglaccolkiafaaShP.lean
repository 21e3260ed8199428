/- The walk of ShapeRaw. No condition. -/
import Derived.Test.YtiglaccolkiafaaShO
namespace Go.Proofs.Ytiglaccolkiafaa
open Go.RowKit
set_option linter.unusedVariables false
attribute [local go_sem ↓] run_mn2
/-- Sizes that are refused: too many, or one at a place is wrong (and none ahead of it). -/
def Bad (m p : Nat) (z : Nat → Int) : Prop := 6 < m ∨ (m ≤ 6 ∧ p < m ∧ (∀ i, i < p → 1 ≤ z i ∧ z i ≤ 32) ∧ (z p < 1 ∨ 32 < z p))
theorem raw_cases (m : Nat) (z : Nat → Int) : (∃ p, Bad m p z) ∨ (m ≤ 6 ∧ ∃ l : List Nat, l.length = m ∧ (∀ i, i < m → z i = (nth l i : Int)) ∧ ∀ n ∈ l, 1 ≤ n ∧ n ≤ 32) := by
  by_cases h6 : 6 < m
  · exact .inl ⟨0, .inl h6⟩
  · rcases first_at (fun i => z i < 1 ∨ 32 < z i) m with h | ⟨p, h1, h2, h3⟩
    · refine .inr ⟨by omega, (List.range m).map fun i => (z i).toNat, by simp, fun i hi => ?_, fun n hn => ?_⟩
      · have := h i hi
        unfold nth
        rw [List.getD_eq_getElem?_getD, List.getElem?_map, List.getElem?_range hi]
        simp
        omega
      · simp only [List.mem_map, List.mem_range] at hn
        obtain ⟨i, hi, rfl⟩ := hn
        have := h i hi
        omega
    · exact .inl ⟨p, .inr ⟨by omega, h1, fun i hi => by have := h2 i hi; omega, h3⟩⟩
theorem ints_of_zs {w : World} {A : Option Addr} {l : List Nat} {z : Nat → Int} (h : Zs w A l.length z) (hz : ∀ i, i < l.length → z i = (nth l i : Int)) : Ints w A l := by
  rcases h with h | ⟨g, o, rfl, hg, hc⟩
  · exact .inl (List.eq_nil_of_length_eq_zero h)
  · exact .inr ⟨g, o, rfl, hg, fun i hi => by rw [← hz i hi]; exact hc i hi⟩
theorem tup_cases (m : Nat) (z : Nat → Int) (l : List Nat) : m ≠ l.length ∨ (m = l.length ∧ ∃ q, q < m ∧ (∀ i, i < q → 0 ≤ z i ∧ z i < (nth l i : Int)) ∧ (z q < 0 ∨ (nth l q : Int) ≤ z q)) ∨
    ∃ t : List Nat, t.length = m ∧ (∀ i, i < m → z i = (nth t i : Int)) ∧ InL l t := by
  by_cases h : m = l.length
  · rcases first_at (fun i => z i < 0 ∨ (nth l i : Int) ≤ z i) m with h1 | ⟨q, h1, h2, h3⟩
    · have hz : ∀ i, i < m → z i = (nth ((List.range m).map fun i => (z i).toNat) i : Int) := fun i hi => by
        have := h1 i hi
        unfold nth
        rw [List.getD_eq_getElem?_getD, List.getElem?_map, List.getElem?_range hi]
        simp
        omega
      refine .inr (.inr ⟨(List.range m).map fun i => (z i).toNat, by simp, hz, inL_iff.2 ⟨by simp [h], fun p hp => ?_⟩⟩)
      have a := hz p (by omega)
      have b := h1 p (by omega)
      omega
    · exact .inr (.inl ⟨h, q, h1, fun i hi => by have := h2 i hi; omega, h3⟩)
  · exact .inl h
theorem new_bad (A : Option Addr) (m c p : Nat) (z : Nat → Int) (w : World) (hr : Zs w A m z) (h8 : m ≤ 8) (h : Bad m p z) :
    Calls Try.prog 10 #[.slice A m c] w fun e w' => e = .returned (.tuple #[shZ, .int .i64 1]) ∧ Below w.heap.size w w' := by
  rcases h with h | ⟨h6, h1, h2, h3⟩
  · exact new_long A m c w h (by omega)
  · exact new_wrong A m c p z w h6 hr h1 h3
set_option maxRecDepth 100000 in
set_option maxHeartbeats 4000000 in
theorem raw_walk (A : Option Addr) (n c : Nat) (z : Nat → Int) (A' : Option Addr) (n' c' : Nat) (z' : Nat → Int) (i : Int) (w : World) (hz : Ext w A n z) (hz' : Ext w A' n' z')
    (m m' : Nat) (hm : m ≤ n) (hm8 : m ≤ 8) (hmn : mn2 n 8 = m) (hm' : m' ≤ n') (hm8' : m' ≤ 8) (hmn' : mn2 n' 8 = m') (hc : n ≤ c) (hc' : n' ≤ c') :
    Calls Try.prog 4 #[.slice A n c, .slice A' n' c', .int .i64 i] w fun e w' => e = .returned (.bool true) ∧ Below w.heap.size w w' := by
  have HZ := Lib.hid hz
  have HZ' := Lib.hid hz'
  have hmi : (m : Int) ≤ (c : Int) := by omega
  have hmi' : (m' : Int) ≤ (c' : Int) := by omega
  have hm0 : 0 ≤ (m : Int) := by omega
  have hm0' : 0 ≤ (m' : Int) := by omega
  clear hz hz'
  go_enter Try.func4, Try.ntmps4
  go_wp2_with fail
  refine (awake_true _).mono ?_
  rintro e w1 ⟨rfl, b1⟩
  have B1 := Lib.hid b1
  clear b1
  go_upto_region 3 with fail
  go_cut [0, 1] from 24 to 35 (fun v0 v1 wx => ∃ A2 c2 A3 c3, v0 = .slice A2 m c2 ∧ v1 = .slice A3 m' c3 ∧ Zs wx A2 m z ∧ Zs wx A3 m' z' ∧ Below w.heap.size w wx)
  case first =>
    have B1d := Lib.hid (then_ B1.out ((Below.refl w1.heap.size w1).drew))
    have E1 := Lib.hid (((HZ.out.below B1.out).less hm).below ((Below.refl w1.heap.size w1).drew))
    have E2 := Lib.hid (((HZ'.out.below B1.out).less hm').below ((Below.refl w1.heap.size w1).drew))
    go_region_with ((first
      | ((with_reducible refine (clone_ext A m c z _ (by omega) (by first | exact E1.out | exact E1.out.below (by assumption))).mono ?_); rintro e w' ⟨⟨A2, c2, rfl, hA2⟩, hb2⟩)
      | ((with_reducible refine (clone_ext A' m' c' z' _ (by omega) (by first | exact E2.out | exact E2.out.below (by assumption))).mono ?_); rintro e w' ⟨⟨A3, c3, rfl, hA3⟩, hb3⟩)))
    all_goals
      go_wp2_with fail
      go_meet
      exact ⟨A2, c2, A3, c3, rfl, rfl, by first | exact hA2 | exact hA2.below (by assumption) (Nat.le_refl _), by first | exact hA3 | exact hA3.below (by assumption) (Nat.le_refl _), by first | exact then_ (then_ B1d.out hb2) hb3 | exact then_ (then_ B1d.out hb3) hb2⟩
  case rest =>
    obtain ⟨A2, c2, A3, c3, rfl, rfl, hZ2, hZ3, hB⟩ := hcut
    have Z2 := Lib.hid hZ2
    have Z3 := Lib.hid hZ3
    have B2 := Lib.hid hB
    clear hZ2 hZ3 hB HZ HZ' B1 hmi hmi' hmn hmn'
    have hm8i : (m : Int) ≤ 8 := by omega
    rcases raw_cases m z with ⟨p, hbad⟩ | ⟨hm6, l, hll, hzl, hl32⟩
    · have HN := Lib.hid (fun W A c (h : Zs W A m z) => new_bad A m c p z W h hm8 hbad)
      have HB := Lib.hid hbad
      clear hbad
      go_wp2_with fail
      refine (HN.out _ _ _ Z2.out).mono ?_
      rintro e w3 ⟨rfl, b3⟩
      have B3 := Lib.hid (then_ B2.out b3)
      have Z23 := Lib.hid (Z2.out.below b3 (Nat.le_refl _))
      clear b3
      go_upto_region 5 with ((with_reducible show wpList _ _ _ (Oper.mk none (.store 28 _ _) _ _ _ _ :: _) _ _)
                             refine wpList_store_row rfl 28 (.tmp 7) (.tmp 39) rfl w3.heap.size (shC0 0) rfl rfl 28 (shC0 0) (heap_alloc_new _ _) (by kernel_rfl) rfl zero_one ?_
                             rw [World.setRow_alloc_new])
      have n4 := new_val w3 (.cells (shC0 0) 28)
      have S4 : Hid (ShAt (w3.alloc (.cells (shC0 0) 28)) w3.heap.size []) := Lib.hid (ShAt.new w3 [])
      have B4 := Lib.hid (then_ B3.out n4)
      have Z4 := Lib.hid (Z23.out.below n4 (Nat.le_refl _))
      clear n4
      generalize w3.alloc (.cells (shC0 0) 28) = w4 at S4 B4 Z4 ⊢
      obtain ⟨b, hb⟩ : ∃ b, decide ((m : Int) ≤ 6) = b := ⟨_, rfl⟩
      have Hb := Lib.hid hb
      clear hb
      go_upto_region 6 with fail
      rw [Hb.out]
      go_wp2_with fail
      go_loop [9, 10, 12, 46] (fun ok count _ k => ∃ (j C : Nat) (b : Bool), j ≤ m ∧ k = .int .i64 j ∧ ok = .bool b ∧ count = .int .i64 (C : Int) ∧ (b = true → m ≤ 6 ∧ j ≤ p ∧ C ≤ 32 ^ j)) (fun _ _ _ k => m - (intOf k).toNat)
      case atStart => exact ⟨0, 1, b, Nat.zero_le _, rfl, rfl, rfl, fun h => ⟨by have := Hb.out; rw [h] at this; have := of_decide_eq_true this; omega, Nat.zero_le _, Nat.le_refl _⟩⟩
      case round =>
        obtain ⟨j, C, bb, hj, rfl, rfl, rfl, hbb⟩ := hrel
        have HBB := Lib.hid hbb
        clear hbb
        by_cases hlt : j < m
        · obtain ⟨g, o, rfl, hcell⟩ := Z4.out.at_ hlt
          cases bb with
          | false =>
            generalize z j = x at hcell
            go_wp2
            go_round
            case rel => exact ⟨j + 1, C, false, by omega, by go_num, rfl, rfl, fun h => by cases h⟩
            case measure => simp [intOf]; omega
          | true =>
            obtain ⟨k1, k2, k3⟩ := HBB.out rfl
            obtain ⟨q1, q2, q3⟩ : p < m ∧ (∀ i, i < p → 1 ≤ z i ∧ z i ≤ 32) ∧ (z p < 1 ∨ 32 < z p) := by
              rcases HB.out with h | ⟨_, h⟩
              · omega
              · exact h
            have QQ := Lib.hid (And.intro q2 q3)
            clear q2 q3
            by_cases hjp : j < p
            · obtain ⟨x1, x2⟩ := QQ.out.1 j hjp
              have hC : C ≤ 33554432 := by
                have h5 : 32 ^ j ≤ 32 ^ 5 := Nat.pow_le_pow_right (by omega) (by omega)
                have e5 : (32 : Nat) ^ 5 = 33554432 := by decide
                omega
              obtain ⟨y, hy⟩ : ∃ y : Nat, z j = y := ⟨(z j).toNat, by omega⟩
              have hcy : C * y ≤ 1073741824 := by have := Nat.mul_le_mul hC (show y ≤ 32 by omega); omega
              have KK : Hid (C * y ≤ 32 ^ (j + 1)) := Lib.hid (by rw [Nat.pow_succ]; exact Nat.mul_le_mul k3 (by omega))
              rw [hy] at hcell x1 x2
              have hm1 : (C : Int) * (y : Int) ≤ 1073741824 := by rw [← Int.natCast_mul]; omega
              have hm2 : 0 ≤ (C : Int) * (y : Int) := by rw [← Int.natCast_mul]; omega
              clear hy k3 hcy
              go_wp2
              go_round
              case rel => exact ⟨j + 1, C * y, true, by omega, by go_num, rfl, by rw [Int.natCast_mul], fun _ => ⟨k1, by omega, KK.out⟩⟩
              case measure => simp [intOf]; omega
            · obtain rfl : j = p := by omega
              have hx := QQ.out.2
              generalize z j = x at hcell hx
              rcases (by omega : x < 1 ∨ (1 ≤ x ∧ 32 < x)) with hx1 | ⟨hx1, hx2⟩
              · clear hx k3
                go_wp2
                go_round
                case rel => exact ⟨j + 1, C, false, by omega, by go_num, rfl, rfl, fun h => by cases h⟩
                case measure => simp [intOf]; omega
              · have hd : decide (x ≤ 32) = false := by rw [decide_eq_false_iff_not]; omega
                clear hx k3
                go_wp2
                go_round
                case rel => exact ⟨j + 1, C, false, by omega, by go_num, rfl, rfl, fun h => by cases h⟩
                case measure => simp [intOf]; omega
        · have hbf : bb = false := by
            cases bb with
            | false => rfl
            | true =>
              obtain ⟨k1, k2, k3⟩ := HBB.out rfl
              rcases HB.out with h | ⟨_, h, _⟩ <;> omega
          subst hbf
          have zd : Hid (∀ W, ShAt W w3.heap.size [] → W.cell? ⟨w3.heap.size, 0, none⟩ = some (.int .i64 0) ∧ W.cell? ⟨w3.heap.size, 1, none⟩ = some (.int .i64 0) ∧ W.cell? ⟨w3.heap.size, 2, none⟩ = some (.int .i64 0) ∧ W.cell? ⟨w3.heap.size, 3, none⟩ = some (.int .i64 0) ∧ W.cell? ⟨w3.heap.size, 4, none⟩ = some (.int .i64 0) ∧ W.cell? ⟨w3.heap.size, 5, none⟩ = some (.int .i64 0) ∧ W.cell? ⟨w3.heap.size, 6, none⟩ = some (.int .i64 0)) :=
            Lib.hid fun W h => ⟨h.c0, h.c1, h.c2, h.c3, h.c4, h.c5, h.c6⟩
          obtain ⟨d0, d1, d2, d3, d4, d5, d6⟩ := zd.out _ S4.out
          go_wp2_with fail
          refine (arity_zero w4).mono ?_
          rintro e w5 ⟨rfl, b5⟩
          have S5 := Lib.hid (S4.out.next b5)
          have B5 := Lib.hid (then_ B4.out b5)
          clear b5 d0 d1 d2 d3 d4 d5 d6
          obtain ⟨d0, d1, d2, d3, d4, d5, d6⟩ := zd.out _ S5.out
          go_wp2_with fail
          refine (count_zero w5).mono ?_
          rintro e w6 ⟨rfl, b6⟩
          go_wp2
          go_ret
          exact ⟨rfl, then_ B5.out b6⟩
    · have hll' := Lib.hid hll
      subst hll
      have I2 := Lib.hid (ints_of_zs Z2.out hzl)
      have H32 := Lib.hid hl32
      have hl6i : (l.length : Int) ≤ 6 := by omega
      obtain ⟨P, hP⟩ : ∃ P, prodL l = P := ⟨_, rfl⟩
      have HP := Lib.hid hP
      clear hzl hl32 hP hll' Z2 hm8i
      have h6 : l.length ≤ 6 := hm6
      by_cases hbig : 4096 < P
      · go_wp2_with fail
        refine (new_large A2 c2 l wc h6 I2.out H32.out (by rw [HP.out]; exact hbig)).mono ?_
        rintro e w3 ⟨rfl, b3⟩
        have B3 := Lib.hid (then_ B2.out b3)
        have I3 := Lib.hid (I2.out.below b3 (Nat.le_refl _))
        clear b3
        go_upto_region 5 with ((with_reducible show wpList _ _ _ (Oper.mk none (.store 28 _ _) _ _ _ _ :: _) _ _)
                               refine wpList_store_row rfl 28 (.tmp 7) (.tmp 39) rfl w3.heap.size (shC0 0) rfl rfl 28 (shC0 0) (heap_alloc_new _ _) (by kernel_rfl) rfl zero_one ?_
                               rw [World.setRow_alloc_new])
        have n4 := new_val w3 (.cells (shC0 0) 28)
        have S4 : Hid (ShAt (w3.alloc (.cells (shC0 0) 28)) w3.heap.size []) := Lib.hid (ShAt.new w3 [])
        have B4 := Lib.hid (then_ B3.out n4)
        have I5 := Lib.hid (I3.out.below n4 (Nat.le_refl _))
        clear n4
        generalize w3.alloc (.cells (shC0 0) 28) = w4 at S4 B4 I5 ⊢
        have hbi : decide ((4096 : Int) < (P : Int)) = true := by rw [decide_eq_true_iff]; omega
        go_wp2_with fail
        go_loop [9, 10, 12, 46] (fun ok count _ k => ∃ j : Nat, j ≤ l.length ∧ k = .int .i64 j ∧ ok = .bool true ∧ count = .int .i64 (prodL (l.take j) : Nat)) (fun _ _ _ k => l.length - (intOf k).toNat)
        case atStart => exact ⟨0, Nat.zero_le _, rfl, rfl, rfl⟩
        case round =>
          obtain ⟨j, hj, rfl, rfl, rfl⟩ := hrel
          by_cases hlt : j < l.length
          · obtain ⟨g, o, rfl, hcell⟩ := I5.out.at_ hlt
            have hx := H32.out _ (nth_mem hlt)
            have HPt := Lib.hid (prod_take l hlt)
            have hmm : prodL (l.take j) * nth l j ≤ 1073741824 := by rw [← HPt.out]; exact take_le h6 (fun n hn => (H32.out n hn).2) (j + 1)
            have hm1 : ((prodL (l.take j) : Nat) : Int) * (nth l j : Int) ≤ 1073741824 := by rw [← Int.natCast_mul]; omega
            have hm2 : 0 ≤ ((prodL (l.take j) : Nat) : Int) * (nth l j : Int) := by rw [← Int.natCast_mul]; omega
            clear hmm
            generalize nth l j = N at hcell hx HPt hm1 hm2
            generalize prodL (l.take j) = D at HPt hm1 hm2
            obtain ⟨hx1, hx2⟩ := hx
            have hx1' : (1 : Int) ≤ (N : Int) := by omega
            have hx2' : (N : Int) ≤ 32 := by omega
            go_wp2
            go_round
            case rel => exact ⟨j + 1, by omega, by go_num, rfl, by rw [HPt.out, Int.natCast_mul]⟩
            case measure => simp [intOf]; omega
          · obtain rfl : j = l.length := by omega
            rw [List.take_length, HP.out]
            have zd : Hid (∀ W, ShAt W w3.heap.size [] → W.cell? ⟨w3.heap.size, 0, none⟩ = some (.int .i64 0) ∧ W.cell? ⟨w3.heap.size, 1, none⟩ = some (.int .i64 0) ∧ W.cell? ⟨w3.heap.size, 2, none⟩ = some (.int .i64 0) ∧ W.cell? ⟨w3.heap.size, 3, none⟩ = some (.int .i64 0) ∧ W.cell? ⟨w3.heap.size, 4, none⟩ = some (.int .i64 0) ∧ W.cell? ⟨w3.heap.size, 5, none⟩ = some (.int .i64 0) ∧ W.cell? ⟨w3.heap.size, 6, none⟩ = some (.int .i64 0)) :=
              Lib.hid fun W h => ⟨h.c0, h.c1, h.c2, h.c3, h.c4, h.c5, h.c6⟩
            obtain ⟨d0, d1, d2, d3, d4, d5, d6⟩ := zd.out _ S4.out
            go_wp2_with fail
            refine (arity_zero w4).mono ?_
            rintro e w5 ⟨rfl, b5⟩
            have S5 := Lib.hid (S4.out.next b5)
            have B5 := Lib.hid (then_ B4.out b5)
            clear b5 d0 d1 d2 d3 d4 d5 d6
            obtain ⟨d0, d1, d2, d3, d4, d5, d6⟩ := zd.out _ S5.out
            go_wp2_with fail
            refine (count_zero w5).mono ?_
            rintro e w6 ⟨rfl, b6⟩
            go_wp2
            go_ret
            exact ⟨rfl, then_ B5.out b6⟩
      · go_wp2_with fail
        refine (new_mid A2 c2 l wc h6 I2.out H32.out (by rw [HP.out]; omega)).mono ?_
        rintro e w3 ⟨rfl, b3⟩
        have B3 := Lib.hid (then_ B2.out b3)
        have I3 := Lib.hid (I2.out.below b3 (Nat.le_refl _))
        have Z33 := Lib.hid (Z3.out.below b3 (Nat.le_refl _))
        clear b3
        go_upto_region 5 with ((with_reducible show wpList _ _ _ (Oper.mk none (.store 28 _ _) _ _ _ _ :: _) _ _)
                               refine wpList_store_row rfl 28 (.tmp 7) (.tmp 39) rfl w3.heap.size (shC l) rfl rfl 28 (shC0 0) (heap_alloc_new _ _) (by kernel_rfl) rfl (sh_one l) ?_
                               rw [World.setRow_alloc_new])
        have n4 := new_val w3 (shO l)
        have SX := Lib.hid (ShAt.new w3 l)
        have BX := Lib.hid (then_ B3.out n4)
        have I5 := Lib.hid (I3.out.below n4 (Nat.le_refl _))
        have IX2 := I5
        have Z5 := Lib.hid (Z33.out.below n4 (Nat.le_refl _))
        clear n4
        generalize w3.alloc (.cells (shC l) 28) = w5 at SX BX I5 IX2 Z5 ⊢
        have hbi : decide ((4096 : Int) < (P : Int)) = false := by rw [decide_eq_false_iff_not]; omega
        have CP := Lib.hid (fun W => count_below l W h6 (fun n hn => (H32.out n hn).2) P HP.out)
        go_wp2_with fail
        go_loop [9, 10, 12, 46] (fun ok count _ k => ∃ j : Nat, j ≤ l.length ∧ k = .int .i64 j ∧ ok = .bool true ∧ count = .int .i64 (prodL (l.take j) : Nat)) (fun _ _ _ k => l.length - (intOf k).toNat)
        case atStart => exact ⟨0, Nat.zero_le _, rfl, rfl, rfl⟩
        case round =>
          obtain ⟨j, hj, rfl, rfl, rfl⟩ := hrel
          by_cases hlt : j < l.length
          · obtain ⟨g, o, rfl, hcell⟩ := I5.out.at_ hlt
            have hx := H32.out _ (nth_mem hlt)
            have HPt := Lib.hid (prod_take l hlt)
            have hmm : prodL (l.take j) * nth l j ≤ 1073741824 := by rw [← HPt.out]; exact take_le h6 (fun n hn => (H32.out n hn).2) (j + 1)
            have hm1 : ((prodL (l.take j) : Nat) : Int) * (nth l j : Int) ≤ 1073741824 := by rw [← Int.natCast_mul]; omega
            have hm2 : 0 ≤ ((prodL (l.take j) : Nat) : Int) * (nth l j : Int) := by rw [← Int.natCast_mul]; omega
            clear hmm
            generalize nth l j = N at hcell hx HPt hm1 hm2
            generalize prodL (l.take j) = D at HPt hm1 hm2
            obtain ⟨hx1, hx2⟩ := hx
            have hx1' : (1 : Int) ≤ (N : Int) := by omega
            have hx2' : (N : Int) ≤ 32 := by omega
            go_wp2
            go_round
            case rel => exact ⟨j + 1, by omega, by go_num, rfl, by rw [HPt.out, Int.natCast_mul]⟩
            case measure => simp [intOf]; omega
          · obtain rfl : j = l.length := by omega
            rw [List.take_length, HP.out]
            rcases tup_cases m' z' l with hne | ⟨hme, q0, hq1, hq2, hq3⟩ | ⟨t, htl, htz, hin⟩
            · have hde : ((m' : Int) == (l.length : Int)) = false := by rw [beq_eq_false_iff_ne]; omega
              go_wp2_with fail
              go_loop [14, 15, 16, 91] (fun v _ _ k => ∃ j : Nat, j ≤ m' ∧ k = .int .i64 j ∧ v = .bool false) (fun _ _ _ k => m' - (intOf k).toNat)
              case atStart => exact ⟨0, Nat.zero_le _, rfl, rfl⟩
              case round =>
                obtain ⟨j, hj, rfl, rfl⟩ := hrel
                by_cases hlt : j < m'
                · obtain ⟨g, o, rfl, hcell⟩ := Z5.out.at_ hlt
                  generalize z' j = x at hcell
                  go_wp2
                  go_round
                  case rel => exact ⟨j + 1, by omega, by go_num, rfl⟩
                  case measure => simp [intOf]; omega
                · obtain ⟨c0, c1, c2', c3', c4, c5, c6, hlt', hfz⟩ := SX.out
                  go_wp2_with fail
                  refine (index_len A3 m' c3 l w5 hne (by omega)).mono ?_
                  rintro e wy ⟨rfl, by_⟩
                  have SY := Lib.hid (SX.out.next by_)
                  have BY := Lib.hid (then_ BX.out by_)
                  have IY := Lib.hid (IX2.out.below by_ (Nat.le_refl _))
                  clear by_
                  clear c0 c1 c2' c3' c4 c5 c6 hlt' hfz
                  obtain ⟨c0, c1, c2', c3', c4, c5, c6, hlt', hfz⟩ := SY.out
                  go_wp2_with fail
                  by_cases hneg : i < 0
                  · refine (tuple_neg l i wy hneg).mono ?_
                    rintro e wt ⟨rfl, bt⟩
                    have hI : decide (0 ≤ i) = false := by rw [decide_eq_false_iff_not]; omega
                    have SN := Lib.hid (fun W => size_no l i W (.inl hneg))
                    have TN := Lib.hid (fun W => step_no l i W (.inl hneg))
                    have ST := Lib.hid (SY.out.next bt)
                    have BT := Lib.hid (then_ BY.out bt)
                    clear bt
                    clear c0 c1 c2' c3' c4 c5 c6 hlt' hfz
                    obtain ⟨c0, c1, c2', c3', c4, c5, c6, hlt', hfz⟩ := ST.out
                    go_upto_region 30 with fail
                    simp only [List.append_eq, List.cons_append, List.nil_append]
                    go_wp2_with fail
                    refine (CP.out wt).mono ?_
                    rintro e wu ⟨rfl, bu⟩
                    have SU := Lib.hid (ST.out.next bu)
                    have BU := Lib.hid (then_ BT.out bu)
                    clear bu
                    clear c0 c1 c2' c3' c4 c5 c6 hlt' hfz
                    obtain ⟨c0, c1, c2', c3', c4, c5, c6, hlt', hfz⟩ := SU.out
                    go_wp2_with fail
                    refine (SN.out wu).mono ?_
                    rintro e wv ⟨rfl, bv⟩
                    have SV := Lib.hid (SU.out.next bv)
                    have BV := Lib.hid (then_ BU.out bv)
                    clear bv
                    clear c0 c1 c2' c3' c4 c5 c6 hlt' hfz
                    obtain ⟨c0, c1, c2', c3', c4, c5, c6, hlt', hfz⟩ := SV.out
                    go_wp2_with fail
                    refine (TN.out wv).mono ?_
                    rintro e wx ⟨rfl, bx⟩
                    go_wp2
                    go_ret
                    exact ⟨rfl, then_ BV.out bx⟩
                  · obtain ⟨q, rfl⟩ : ∃ q : Nat, i = q := ⟨i.toNat, by omega⟩
                    clear hneg
                    by_cases hqP : q < P
                    · by_cases hql : q < l.length
                      · refine (tuple_ok l q wy h6 H32.out (by rw [HP.out]; omega)).mono ?_
                        rintro e wt ⟨⟨v, rfl, hO⟩, bt⟩
                        obtain ⟨A5, c5', rfl, _⟩ := hO.form
                        clear hO
                        have hI : decide (q < P) = true := by rw [decide_eq_true_iff]; omega
                        have hL : decide (q < l.length) = true := by rw [decide_eq_true_iff]; omega
                        obtain ⟨gq, oq, eq, hcq⟩ := (IY.out.below bt (Nat.le_refl _)).at_ (i := q) (by omega)
                        subst eq
                        have hpos : 0 < nth l q := by have := H32.out _ (nth_mem (i := q) (l := l) (by omega)); omega
                        have SN := Lib.hid (fun W => size_yes l q W h6 (by omega))
                        generalize nth l q = x at hcq hpos SN
                        have ST := Lib.hid (SY.out.next bt)
                        have BT := Lib.hid (then_ BY.out bt)
                        clear bt
                        clear c0 c1 c2' c3' c4 c5 c6 hlt' hfz
                        obtain ⟨c0, c1, c2', c3', c4, c5, c6, hlt', hfz⟩ := ST.out
                        go_upto_region 30 with fail
                        simp only [List.append_eq, List.cons_append, List.nil_append]
                        go_wp2_with fail
                        refine (CP.out wt).mono ?_
                        rintro e wu ⟨rfl, bu⟩
                        have SU := Lib.hid (ST.out.next bu)
                        have BU := Lib.hid (then_ BT.out bu)
                        clear bu
                        clear c0 c1 c2' c3' c4 c5 c6 hlt' hfz
                        obtain ⟨c0, c1, c2', c3', c4, c5, c6, hlt', hfz⟩ := SU.out
                        go_wp2_with fail
                        refine (SN.out wu).mono ?_
                        rintro e wv ⟨rfl, bv⟩
                        have SV := Lib.hid (SU.out.next bv)
                        have BV := Lib.hid (then_ BU.out bv)
                        clear bv
                        clear c0 c1 c2' c3' c4 c5 c6 hlt' hfz
                        obtain ⟨c0, c1, c2', c3', c4, c5, c6, hlt', hfz⟩ := SV.out
                        go_wp2_with fail
                        go_ret
                        exact ⟨rfl, BV.out⟩
                      · refine (tuple_ok l q wy h6 H32.out (by rw [HP.out]; omega)).mono ?_
                        rintro e wt ⟨⟨v, rfl, hO⟩, bt⟩
                        obtain ⟨A5, c5', rfl, _⟩ := hO.form
                        clear hO
                        have hI : decide (q < P) = true := by rw [decide_eq_true_iff]; omega
                        have hL : decide (q < l.length) = false := by rw [decide_eq_false_iff_not]; omega
                        have SN := Lib.hid (fun W => size_no l (q : Int) W (.inr (by omega)))
                        have TN := Lib.hid (fun W => step_no l (q : Int) W (.inr (by omega)))
                        have ST := Lib.hid (SY.out.next bt)
                        have BT := Lib.hid (then_ BY.out bt)
                        clear bt
                        clear c0 c1 c2' c3' c4 c5 c6 hlt' hfz
                        obtain ⟨c0, c1, c2', c3', c4, c5, c6, hlt', hfz⟩ := ST.out
                        go_upto_region 30 with fail
                        simp only [List.append_eq, List.cons_append, List.nil_append]
                        go_wp2_with fail
                        refine (CP.out wt).mono ?_
                        rintro e wu ⟨rfl, bu⟩
                        have SU := Lib.hid (ST.out.next bu)
                        have BU := Lib.hid (then_ BT.out bu)
                        clear bu
                        clear c0 c1 c2' c3' c4 c5 c6 hlt' hfz
                        obtain ⟨c0, c1, c2', c3', c4, c5, c6, hlt', hfz⟩ := SU.out
                        go_wp2_with fail
                        refine (SN.out wu).mono ?_
                        rintro e wv ⟨rfl, bv⟩
                        have SV := Lib.hid (SU.out.next bv)
                        have BV := Lib.hid (then_ BU.out bv)
                        clear bv
                        clear c0 c1 c2' c3' c4 c5 c6 hlt' hfz
                        obtain ⟨c0, c1, c2', c3', c4, c5, c6, hlt', hfz⟩ := SV.out
                        go_wp2_with fail
                        refine (TN.out wv).mono ?_
                        rintro e wx ⟨rfl, bx⟩
                        go_wp2
                        go_ret
                        exact ⟨rfl, then_ BV.out bx⟩
                    · by_cases hql : q < l.length
                      · refine (tuple_big l (q : Int) wy h6 (fun n hn => (H32.out n hn).2) (by rw [HP.out]; omega)).mono ?_
                        rintro e wt ⟨rfl, bt⟩
                        have hI : decide (q < P) = false := by rw [decide_eq_false_iff_not]; omega
                        have hL : decide (q < l.length) = true := by rw [decide_eq_true_iff]; omega
                        obtain ⟨gq, oq, eq, hcq⟩ := (IY.out.below bt (Nat.le_refl _)).at_ (i := q) (by omega)
                        subst eq
                        have hpos : 0 < nth l q := by have := H32.out _ (nth_mem (i := q) (l := l) (by omega)); omega
                        have SN := Lib.hid (fun W => size_yes l q W h6 (by omega))
                        generalize nth l q = x at hcq hpos SN
                        have ST := Lib.hid (SY.out.next bt)
                        have BT := Lib.hid (then_ BY.out bt)
                        clear bt
                        clear c0 c1 c2' c3' c4 c5 c6 hlt' hfz
                        obtain ⟨c0, c1, c2', c3', c4, c5, c6, hlt', hfz⟩ := ST.out
                        go_upto_region 30 with fail
                        simp only [List.append_eq, List.cons_append, List.nil_append]
                        go_wp2_with fail
                        refine (CP.out wt).mono ?_
                        rintro e wu ⟨rfl, bu⟩
                        have SU := Lib.hid (ST.out.next bu)
                        have BU := Lib.hid (then_ BT.out bu)
                        clear bu
                        clear c0 c1 c2' c3' c4 c5 c6 hlt' hfz
                        obtain ⟨c0, c1, c2', c3', c4, c5, c6, hlt', hfz⟩ := SU.out
                        go_wp2_with fail
                        refine (SN.out wu).mono ?_
                        rintro e wv ⟨rfl, bv⟩
                        have SV := Lib.hid (SU.out.next bv)
                        have BV := Lib.hid (then_ BU.out bv)
                        clear bv
                        clear c0 c1 c2' c3' c4 c5 c6 hlt' hfz
                        obtain ⟨c0, c1, c2', c3', c4, c5, c6, hlt', hfz⟩ := SV.out
                        go_wp2_with fail
                        go_ret
                        exact ⟨rfl, BV.out⟩
                      · refine (tuple_big l (q : Int) wy h6 (fun n hn => (H32.out n hn).2) (by rw [HP.out]; omega)).mono ?_
                        rintro e wt ⟨rfl, bt⟩
                        have hI : decide (q < P) = false := by rw [decide_eq_false_iff_not]; omega
                        have hL : decide (q < l.length) = false := by rw [decide_eq_false_iff_not]; omega
                        have SN := Lib.hid (fun W => size_no l (q : Int) W (.inr (by omega)))
                        have TN := Lib.hid (fun W => step_no l (q : Int) W (.inr (by omega)))
                        have ST := Lib.hid (SY.out.next bt)
                        have BT := Lib.hid (then_ BY.out bt)
                        clear bt
                        clear c0 c1 c2' c3' c4 c5 c6 hlt' hfz
                        obtain ⟨c0, c1, c2', c3', c4, c5, c6, hlt', hfz⟩ := ST.out
                        go_upto_region 30 with fail
                        simp only [List.append_eq, List.cons_append, List.nil_append]
                        go_wp2_with fail
                        refine (CP.out wt).mono ?_
                        rintro e wu ⟨rfl, bu⟩
                        have SU := Lib.hid (ST.out.next bu)
                        have BU := Lib.hid (then_ BT.out bu)
                        clear bu
                        clear c0 c1 c2' c3' c4 c5 c6 hlt' hfz
                        obtain ⟨c0, c1, c2', c3', c4, c5, c6, hlt', hfz⟩ := SU.out
                        go_wp2_with fail
                        refine (SN.out wu).mono ?_
                        rintro e wv ⟨rfl, bv⟩
                        have SV := Lib.hid (SU.out.next bv)
                        have BV := Lib.hid (then_ BU.out bv)
                        clear bv
                        clear c0 c1 c2' c3' c4 c5 c6 hlt' hfz
                        obtain ⟨c0, c1, c2', c3', c4, c5, c6, hlt', hfz⟩ := SV.out
                        go_wp2_with fail
                        refine (TN.out wv).mono ?_
                        rintro e wx ⟨rfl, bx⟩
                        go_wp2
                        go_ret
                        exact ⟨rfl, then_ BV.out bx⟩
            · have hde : ((m' : Int) == (l.length : Int)) = true := by rw [beq_iff_eq]; omega
              have HQ := Lib.hid (And.intro hq2 hq3)
              have HME := Lib.hid hme
              have hme1 : m' ≤ l.length := by omega
              have hme2 : l.length ≤ m' := by omega
              clear hme
              clear hq2 hq3
              go_wp2_with fail
              go_loop [14, 15, 16, 91] (fun v _ _ k => ∃ j : Nat, j ≤ m' ∧ k = .int .i64 j ∧ ∃ b : Bool, v = .bool b ∧ (b = true → j ≤ q0)) (fun _ _ _ k => m' - (intOf k).toNat)
              case atStart => exact ⟨0, Nat.zero_le _, rfl, true, rfl, fun _ => Nat.zero_le _⟩
              case round =>
                obtain ⟨j, hj, rfl, bb, rfl, hbb⟩ := hrel
                have HBB := Lib.hid hbb
                clear hbb
                by_cases hlt : j < m'
                · obtain ⟨g, o, rfl, hcell⟩ := Z5.out.at_ hlt
                  cases bb with
                  | false =>
                    generalize z' j = x at hcell
                    go_wp2
                    go_round
                    case rel => exact ⟨j + 1, by omega, by go_num, false, rfl, fun h => by cases h⟩
                    case measure => simp [intOf]; omega
                  | true =>
                    obtain ⟨gl, ol, el, hcl⟩ := I5.out.at_ (i := j) (by omega)
                    subst el
                    have hjq := HBB.out rfl
                    by_cases e : j = q0
                    · subst e
                      have hx := HQ.out.2
                      generalize z' j = x at hcell hx
                      generalize nth l j = N at hcl hx
                      rcases (by omega : x < 0 ∨ (0 ≤ x ∧ (N : Int) ≤ x)) with hx1 | ⟨hx1, hx2⟩
                      · clear hx
                        go_wp2
                        go_round
                        case rel => exact ⟨j + 1, by omega, by go_num, false, rfl, fun h => by cases h⟩
                        case measure => simp [intOf]; omega
                      · have hd : decide (x < (N : Int)) = false := by rw [decide_eq_false_iff_not]; omega
                        clear hx
                        go_wp2
                        go_round
                        case rel => exact ⟨j + 1, by omega, by go_num, false, rfl, fun h => by cases h⟩
                        case measure => simp [intOf]; omega
                    · obtain ⟨hx1, hx2⟩ := HQ.out.1 j (by omega)
                      have hjq' : j + 1 ≤ q0 := by omega
                      clear e
                      generalize z' j = x at hcell hx1 hx2
                      generalize nth l j = N at hcl hx2
                      have hd : decide (x < (N : Int)) = true := by rw [decide_eq_true_iff]; omega
                      go_wp2
                      go_round
                      case rel => exact ⟨j + 1, by omega, by go_num, true, rfl, fun _ => hjq'⟩
                      case measure => simp [intOf]; omega
                · have hbf : bb = false := by
                    cases bb with
                    | false => rfl
                    | true => have := HBB.out rfl; omega
                  subst hbf
                  obtain ⟨c0, c1, c2', c3', c4, c5, c6, hlt', hfz⟩ := SX.out
                  go_wp2_with fail
                  refine (index_out A3 m' c3 q0 z' l w5 HME.out h6 (fun n hn => (H32.out n hn).2) Z5.out hq1 HQ.out.1 HQ.out.2).mono ?_
                  rintro e wy ⟨rfl, by_⟩
                  have SY := Lib.hid (SX.out.next by_)
                  have BY := Lib.hid (then_ BX.out by_)
                  have IY := Lib.hid (IX2.out.below by_ (Nat.le_refl _))
                  clear by_
                  clear c0 c1 c2' c3' c4 c5 c6 hlt' hfz
                  obtain ⟨c0, c1, c2', c3', c4, c5, c6, hlt', hfz⟩ := SY.out
                  go_wp2_with fail
                  by_cases hneg : i < 0
                  · refine (tuple_neg l i wy hneg).mono ?_
                    rintro e wt ⟨rfl, bt⟩
                    have hI : decide (0 ≤ i) = false := by rw [decide_eq_false_iff_not]; omega
                    have SN := Lib.hid (fun W => size_no l i W (.inl hneg))
                    have TN := Lib.hid (fun W => step_no l i W (.inl hneg))
                    have ST := Lib.hid (SY.out.next bt)
                    have BT := Lib.hid (then_ BY.out bt)
                    clear bt
                    clear c0 c1 c2' c3' c4 c5 c6 hlt' hfz
                    obtain ⟨c0, c1, c2', c3', c4, c5, c6, hlt', hfz⟩ := ST.out
                    go_upto_region 30 with fail
                    simp only [List.append_eq, List.cons_append, List.nil_append]
                    go_wp2_with fail
                    refine (CP.out wt).mono ?_
                    rintro e wu ⟨rfl, bu⟩
                    have SU := Lib.hid (ST.out.next bu)
                    have BU := Lib.hid (then_ BT.out bu)
                    clear bu
                    clear c0 c1 c2' c3' c4 c5 c6 hlt' hfz
                    obtain ⟨c0, c1, c2', c3', c4, c5, c6, hlt', hfz⟩ := SU.out
                    go_wp2_with fail
                    refine (SN.out wu).mono ?_
                    rintro e wv ⟨rfl, bv⟩
                    have SV := Lib.hid (SU.out.next bv)
                    have BV := Lib.hid (then_ BU.out bv)
                    clear bv
                    clear c0 c1 c2' c3' c4 c5 c6 hlt' hfz
                    obtain ⟨c0, c1, c2', c3', c4, c5, c6, hlt', hfz⟩ := SV.out
                    go_wp2_with fail
                    refine (TN.out wv).mono ?_
                    rintro e wx ⟨rfl, bx⟩
                    go_wp2
                    go_ret
                    exact ⟨rfl, then_ BV.out bx⟩
                  · obtain ⟨q, rfl⟩ : ∃ q : Nat, i = q := ⟨i.toNat, by omega⟩
                    clear hneg
                    by_cases hqP : q < P
                    · by_cases hql : q < l.length
                      · refine (tuple_ok l q wy h6 H32.out (by rw [HP.out]; omega)).mono ?_
                        rintro e wt ⟨⟨v, rfl, hO⟩, bt⟩
                        obtain ⟨A5, c5', rfl, _⟩ := hO.form
                        clear hO
                        have hI : decide (q < P) = true := by rw [decide_eq_true_iff]; omega
                        have hL : decide (q < l.length) = true := by rw [decide_eq_true_iff]; omega
                        obtain ⟨gq, oq, eq, hcq⟩ := (IY.out.below bt (Nat.le_refl _)).at_ (i := q) (by omega)
                        subst eq
                        have hpos : 0 < nth l q := by have := H32.out _ (nth_mem (i := q) (l := l) (by omega)); omega
                        have SN := Lib.hid (fun W => size_yes l q W h6 (by omega))
                        generalize nth l q = x at hcq hpos SN
                        have ST := Lib.hid (SY.out.next bt)
                        have BT := Lib.hid (then_ BY.out bt)
                        clear bt
                        clear c0 c1 c2' c3' c4 c5 c6 hlt' hfz
                        obtain ⟨c0, c1, c2', c3', c4, c5, c6, hlt', hfz⟩ := ST.out
                        go_upto_region 30 with fail
                        simp only [List.append_eq, List.cons_append, List.nil_append]
                        go_wp2_with fail
                        refine (CP.out wt).mono ?_
                        rintro e wu ⟨rfl, bu⟩
                        have SU := Lib.hid (ST.out.next bu)
                        have BU := Lib.hid (then_ BT.out bu)
                        clear bu
                        clear c0 c1 c2' c3' c4 c5 c6 hlt' hfz
                        obtain ⟨c0, c1, c2', c3', c4, c5, c6, hlt', hfz⟩ := SU.out
                        go_wp2_with fail
                        refine (SN.out wu).mono ?_
                        rintro e wv ⟨rfl, bv⟩
                        have SV := Lib.hid (SU.out.next bv)
                        have BV := Lib.hid (then_ BU.out bv)
                        clear bv
                        clear c0 c1 c2' c3' c4 c5 c6 hlt' hfz
                        obtain ⟨c0, c1, c2', c3', c4, c5, c6, hlt', hfz⟩ := SV.out
                        go_wp2_with fail
                        go_ret
                        exact ⟨rfl, BV.out⟩
                      · refine (tuple_ok l q wy h6 H32.out (by rw [HP.out]; omega)).mono ?_
                        rintro e wt ⟨⟨v, rfl, hO⟩, bt⟩
                        obtain ⟨A5, c5', rfl, _⟩ := hO.form
                        clear hO
                        have hI : decide (q < P) = true := by rw [decide_eq_true_iff]; omega
                        have hL : decide (q < l.length) = false := by rw [decide_eq_false_iff_not]; omega
                        have SN := Lib.hid (fun W => size_no l (q : Int) W (.inr (by omega)))
                        have TN := Lib.hid (fun W => step_no l (q : Int) W (.inr (by omega)))
                        have ST := Lib.hid (SY.out.next bt)
                        have BT := Lib.hid (then_ BY.out bt)
                        clear bt
                        clear c0 c1 c2' c3' c4 c5 c6 hlt' hfz
                        obtain ⟨c0, c1, c2', c3', c4, c5, c6, hlt', hfz⟩ := ST.out
                        go_upto_region 30 with fail
                        simp only [List.append_eq, List.cons_append, List.nil_append]
                        go_wp2_with fail
                        refine (CP.out wt).mono ?_
                        rintro e wu ⟨rfl, bu⟩
                        have SU := Lib.hid (ST.out.next bu)
                        have BU := Lib.hid (then_ BT.out bu)
                        clear bu
                        clear c0 c1 c2' c3' c4 c5 c6 hlt' hfz
                        obtain ⟨c0, c1, c2', c3', c4, c5, c6, hlt', hfz⟩ := SU.out
                        go_wp2_with fail
                        refine (SN.out wu).mono ?_
                        rintro e wv ⟨rfl, bv⟩
                        have SV := Lib.hid (SU.out.next bv)
                        have BV := Lib.hid (then_ BU.out bv)
                        clear bv
                        clear c0 c1 c2' c3' c4 c5 c6 hlt' hfz
                        obtain ⟨c0, c1, c2', c3', c4, c5, c6, hlt', hfz⟩ := SV.out
                        go_wp2_with fail
                        refine (TN.out wv).mono ?_
                        rintro e wx ⟨rfl, bx⟩
                        go_wp2
                        go_ret
                        exact ⟨rfl, then_ BV.out bx⟩
                    · by_cases hql : q < l.length
                      · refine (tuple_big l (q : Int) wy h6 (fun n hn => (H32.out n hn).2) (by rw [HP.out]; omega)).mono ?_
                        rintro e wt ⟨rfl, bt⟩
                        have hI : decide (q < P) = false := by rw [decide_eq_false_iff_not]; omega
                        have hL : decide (q < l.length) = true := by rw [decide_eq_true_iff]; omega
                        obtain ⟨gq, oq, eq, hcq⟩ := (IY.out.below bt (Nat.le_refl _)).at_ (i := q) (by omega)
                        subst eq
                        have hpos : 0 < nth l q := by have := H32.out _ (nth_mem (i := q) (l := l) (by omega)); omega
                        have SN := Lib.hid (fun W => size_yes l q W h6 (by omega))
                        generalize nth l q = x at hcq hpos SN
                        have ST := Lib.hid (SY.out.next bt)
                        have BT := Lib.hid (then_ BY.out bt)
                        clear bt
                        clear c0 c1 c2' c3' c4 c5 c6 hlt' hfz
                        obtain ⟨c0, c1, c2', c3', c4, c5, c6, hlt', hfz⟩ := ST.out
                        go_upto_region 30 with fail
                        simp only [List.append_eq, List.cons_append, List.nil_append]
                        go_wp2_with fail
                        refine (CP.out wt).mono ?_
                        rintro e wu ⟨rfl, bu⟩
                        have SU := Lib.hid (ST.out.next bu)
                        have BU := Lib.hid (then_ BT.out bu)
                        clear bu
                        clear c0 c1 c2' c3' c4 c5 c6 hlt' hfz
                        obtain ⟨c0, c1, c2', c3', c4, c5, c6, hlt', hfz⟩ := SU.out
                        go_wp2_with fail
                        refine (SN.out wu).mono ?_
                        rintro e wv ⟨rfl, bv⟩
                        have SV := Lib.hid (SU.out.next bv)
                        have BV := Lib.hid (then_ BU.out bv)
                        clear bv
                        clear c0 c1 c2' c3' c4 c5 c6 hlt' hfz
                        obtain ⟨c0, c1, c2', c3', c4, c5, c6, hlt', hfz⟩ := SV.out
                        go_wp2_with fail
                        go_ret
                        exact ⟨rfl, BV.out⟩
                      · refine (tuple_big l (q : Int) wy h6 (fun n hn => (H32.out n hn).2) (by rw [HP.out]; omega)).mono ?_
                        rintro e wt ⟨rfl, bt⟩
                        have hI : decide (q < P) = false := by rw [decide_eq_false_iff_not]; omega
                        have hL : decide (q < l.length) = false := by rw [decide_eq_false_iff_not]; omega
                        have SN := Lib.hid (fun W => size_no l (q : Int) W (.inr (by omega)))
                        have TN := Lib.hid (fun W => step_no l (q : Int) W (.inr (by omega)))
                        have ST := Lib.hid (SY.out.next bt)
                        have BT := Lib.hid (then_ BY.out bt)
                        clear bt
                        clear c0 c1 c2' c3' c4 c5 c6 hlt' hfz
                        obtain ⟨c0, c1, c2', c3', c4, c5, c6, hlt', hfz⟩ := ST.out
                        go_upto_region 30 with fail
                        simp only [List.append_eq, List.cons_append, List.nil_append]
                        go_wp2_with fail
                        refine (CP.out wt).mono ?_
                        rintro e wu ⟨rfl, bu⟩
                        have SU := Lib.hid (ST.out.next bu)
                        have BU := Lib.hid (then_ BT.out bu)
                        clear bu
                        clear c0 c1 c2' c3' c4 c5 c6 hlt' hfz
                        obtain ⟨c0, c1, c2', c3', c4, c5, c6, hlt', hfz⟩ := SU.out
                        go_wp2_with fail
                        refine (SN.out wu).mono ?_
                        rintro e wv ⟨rfl, bv⟩
                        have SV := Lib.hid (SU.out.next bv)
                        have BV := Lib.hid (then_ BU.out bv)
                        clear bv
                        clear c0 c1 c2' c3' c4 c5 c6 hlt' hfz
                        obtain ⟨c0, c1, c2', c3', c4, c5, c6, hlt', hfz⟩ := SV.out
                        go_wp2_with fail
                        refine (TN.out wv).mono ?_
                        rintro e wx ⟨rfl, bx⟩
                        go_wp2
                        go_ret
                        exact ⟨rfl, then_ BV.out bx⟩
            · have hme : m' = l.length := by rw [← htl]; exact hin.length
              have hde : ((m' : Int) == (l.length : Int)) = true := by rw [beq_iff_eq]; omega
              have HT := Lib.hid htz
              have HIn := Lib.hid hin
              have T5 := Lib.hid (ints_of_zs (l := t) (by rw [htl]; exact Z5.out) (by rw [htl]; exact htz))
              have HTL := Lib.hid htl
              have hme1 : m' ≤ l.length := by omega
              have hme2 : l.length ≤ m' := by omega
              clear htz hin htl hme
              go_wp2_with fail
              go_loop [14, 15, 16, 91] (fun v _ _ k => ∃ j : Nat, j ≤ m' ∧ k = .int .i64 j ∧ v = .bool true) (fun _ _ _ k => m' - (intOf k).toNat)
              case atStart => exact ⟨0, Nat.zero_le _, rfl, rfl⟩
              case round =>
                obtain ⟨j, hj, rfl, rfl⟩ := hrel
                by_cases hlt : j < m'
                · obtain ⟨g, o, rfl, hcell⟩ := Z5.out.at_ hlt
                  obtain ⟨gl, ol, el, hcl⟩ := I5.out.at_ (i := j) (by omega)
                  subst el
                  have hx := HT.out j hlt
                  have hv := (inL_iff.1 HIn.out).2 j (by omega)
                  rw [hx] at hcell
                  clear hx
                  generalize nth l j = N at hcl hv
                  generalize nth t j = V at hcell hv
                  go_wp2
                  go_round
                  case rel => exact ⟨j + 1, by omega, by go_num, rfl⟩
                  case measure => simp [intOf]; omega
                · obtain ⟨c0, c1, c2', c3', c4, c5, c6, hlt', hfz⟩ := SX.out
                  go_wp2_with fail
                  refine (index_ok' A3 m' c3 _ l t w5 HTL.out.symm h6 (fun n hn => (H32.out n hn).2) T5.out HIn.out rfl).mono ?_
                  rintro e wy ⟨rfl, by_⟩
                  generalize ((numL l t : Nat) : Int) = kk
                  have SY := Lib.hid (SX.out.next by_)
                  have BY := Lib.hid (then_ BX.out by_)
                  have IY := Lib.hid (IX2.out.below by_ (Nat.le_refl _))
                  clear by_
                  clear c0 c1 c2' c3' c4 c5 c6 hlt' hfz
                  obtain ⟨c0, c1, c2', c3', c4, c5, c6, hlt', hfz⟩ := SY.out
                  go_wp2_with fail
                  by_cases hneg : i < 0
                  · refine (tuple_neg l i wy hneg).mono ?_
                    rintro e wt ⟨rfl, bt⟩
                    have hI : decide (0 ≤ i) = false := by rw [decide_eq_false_iff_not]; omega
                    have SN := Lib.hid (fun W => size_no l i W (.inl hneg))
                    have TN := Lib.hid (fun W => step_no l i W (.inl hneg))
                    have ST := Lib.hid (SY.out.next bt)
                    have BT := Lib.hid (then_ BY.out bt)
                    clear bt
                    clear c0 c1 c2' c3' c4 c5 c6 hlt' hfz
                    obtain ⟨c0, c1, c2', c3', c4, c5, c6, hlt', hfz⟩ := ST.out
                    go_upto_region 30 with fail
                    simp only [List.append_eq, List.cons_append, List.nil_append]
                    go_wp2_with fail
                    refine (CP.out wt).mono ?_
                    rintro e wu ⟨rfl, bu⟩
                    have SU := Lib.hid (ST.out.next bu)
                    have BU := Lib.hid (then_ BT.out bu)
                    clear bu
                    clear c0 c1 c2' c3' c4 c5 c6 hlt' hfz
                    obtain ⟨c0, c1, c2', c3', c4, c5, c6, hlt', hfz⟩ := SU.out
                    go_wp2_with fail
                    refine (SN.out wu).mono ?_
                    rintro e wv ⟨rfl, bv⟩
                    have SV := Lib.hid (SU.out.next bv)
                    have BV := Lib.hid (then_ BU.out bv)
                    clear bv
                    clear c0 c1 c2' c3' c4 c5 c6 hlt' hfz
                    obtain ⟨c0, c1, c2', c3', c4, c5, c6, hlt', hfz⟩ := SV.out
                    go_wp2_with fail
                    refine (TN.out wv).mono ?_
                    rintro e wx ⟨rfl, bx⟩
                    go_wp2
                    go_ret
                    exact ⟨rfl, then_ BV.out bx⟩
                  · obtain ⟨q, rfl⟩ : ∃ q : Nat, i = q := ⟨i.toNat, by omega⟩
                    clear hneg
                    by_cases hqP : q < P
                    · by_cases hql : q < l.length
                      · refine (tuple_ok l q wy h6 H32.out (by rw [HP.out]; omega)).mono ?_
                        rintro e wt ⟨⟨v, rfl, hO⟩, bt⟩
                        obtain ⟨A5, c5', rfl, _⟩ := hO.form
                        clear hO
                        have hI : decide (q < P) = true := by rw [decide_eq_true_iff]; omega
                        have hL : decide (q < l.length) = true := by rw [decide_eq_true_iff]; omega
                        obtain ⟨gq, oq, eq, hcq⟩ := (IY.out.below bt (Nat.le_refl _)).at_ (i := q) (by omega)
                        subst eq
                        have hpos : 0 < nth l q := by have := H32.out _ (nth_mem (i := q) (l := l) (by omega)); omega
                        have SN := Lib.hid (fun W => size_yes l q W h6 (by omega))
                        generalize nth l q = x at hcq hpos SN
                        have ST := Lib.hid (SY.out.next bt)
                        have BT := Lib.hid (then_ BY.out bt)
                        clear bt
                        clear c0 c1 c2' c3' c4 c5 c6 hlt' hfz
                        obtain ⟨c0, c1, c2', c3', c4, c5, c6, hlt', hfz⟩ := ST.out
                        go_upto_region 30 with fail
                        simp only [List.append_eq, List.cons_append, List.nil_append]
                        go_wp2_with fail
                        refine (CP.out wt).mono ?_
                        rintro e wu ⟨rfl, bu⟩
                        have SU := Lib.hid (ST.out.next bu)
                        have BU := Lib.hid (then_ BT.out bu)
                        clear bu
                        clear c0 c1 c2' c3' c4 c5 c6 hlt' hfz
                        obtain ⟨c0, c1, c2', c3', c4, c5, c6, hlt', hfz⟩ := SU.out
                        go_wp2_with fail
                        refine (SN.out wu).mono ?_
                        rintro e wv ⟨rfl, bv⟩
                        have SV := Lib.hid (SU.out.next bv)
                        have BV := Lib.hid (then_ BU.out bv)
                        clear bv
                        clear c0 c1 c2' c3' c4 c5 c6 hlt' hfz
                        obtain ⟨c0, c1, c2', c3', c4, c5, c6, hlt', hfz⟩ := SV.out
                        go_wp2_with fail
                        go_ret
                        exact ⟨rfl, BV.out⟩
                      · refine (tuple_ok l q wy h6 H32.out (by rw [HP.out]; omega)).mono ?_
                        rintro e wt ⟨⟨v, rfl, hO⟩, bt⟩
                        obtain ⟨A5, c5', rfl, _⟩ := hO.form
                        clear hO
                        have hI : decide (q < P) = true := by rw [decide_eq_true_iff]; omega
                        have hL : decide (q < l.length) = false := by rw [decide_eq_false_iff_not]; omega
                        have SN := Lib.hid (fun W => size_no l (q : Int) W (.inr (by omega)))
                        have TN := Lib.hid (fun W => step_no l (q : Int) W (.inr (by omega)))
                        have ST := Lib.hid (SY.out.next bt)
                        have BT := Lib.hid (then_ BY.out bt)
                        clear bt
                        clear c0 c1 c2' c3' c4 c5 c6 hlt' hfz
                        obtain ⟨c0, c1, c2', c3', c4, c5, c6, hlt', hfz⟩ := ST.out
                        go_upto_region 30 with fail
                        simp only [List.append_eq, List.cons_append, List.nil_append]
                        go_wp2_with fail
                        refine (CP.out wt).mono ?_
                        rintro e wu ⟨rfl, bu⟩
                        have SU := Lib.hid (ST.out.next bu)
                        have BU := Lib.hid (then_ BT.out bu)
                        clear bu
                        clear c0 c1 c2' c3' c4 c5 c6 hlt' hfz
                        obtain ⟨c0, c1, c2', c3', c4, c5, c6, hlt', hfz⟩ := SU.out
                        go_wp2_with fail
                        refine (SN.out wu).mono ?_
                        rintro e wv ⟨rfl, bv⟩
                        have SV := Lib.hid (SU.out.next bv)
                        have BV := Lib.hid (then_ BU.out bv)
                        clear bv
                        clear c0 c1 c2' c3' c4 c5 c6 hlt' hfz
                        obtain ⟨c0, c1, c2', c3', c4, c5, c6, hlt', hfz⟩ := SV.out
                        go_wp2_with fail
                        refine (TN.out wv).mono ?_
                        rintro e wx ⟨rfl, bx⟩
                        go_wp2
                        go_ret
                        exact ⟨rfl, then_ BV.out bx⟩
                    · by_cases hql : q < l.length
                      · refine (tuple_big l (q : Int) wy h6 (fun n hn => (H32.out n hn).2) (by rw [HP.out]; omega)).mono ?_
                        rintro e wt ⟨rfl, bt⟩
                        have hI : decide (q < P) = false := by rw [decide_eq_false_iff_not]; omega
                        have hL : decide (q < l.length) = true := by rw [decide_eq_true_iff]; omega
                        obtain ⟨gq, oq, eq, hcq⟩ := (IY.out.below bt (Nat.le_refl _)).at_ (i := q) (by omega)
                        subst eq
                        have hpos : 0 < nth l q := by have := H32.out _ (nth_mem (i := q) (l := l) (by omega)); omega
                        have SN := Lib.hid (fun W => size_yes l q W h6 (by omega))
                        generalize nth l q = x at hcq hpos SN
                        have ST := Lib.hid (SY.out.next bt)
                        have BT := Lib.hid (then_ BY.out bt)
                        clear bt
                        clear c0 c1 c2' c3' c4 c5 c6 hlt' hfz
                        obtain ⟨c0, c1, c2', c3', c4, c5, c6, hlt', hfz⟩ := ST.out
                        go_upto_region 30 with fail
                        simp only [List.append_eq, List.cons_append, List.nil_append]
                        go_wp2_with fail
                        refine (CP.out wt).mono ?_
                        rintro e wu ⟨rfl, bu⟩
                        have SU := Lib.hid (ST.out.next bu)
                        have BU := Lib.hid (then_ BT.out bu)
                        clear bu
                        clear c0 c1 c2' c3' c4 c5 c6 hlt' hfz
                        obtain ⟨c0, c1, c2', c3', c4, c5, c6, hlt', hfz⟩ := SU.out
                        go_wp2_with fail
                        refine (SN.out wu).mono ?_
                        rintro e wv ⟨rfl, bv⟩
                        have SV := Lib.hid (SU.out.next bv)
                        have BV := Lib.hid (then_ BU.out bv)
                        clear bv
                        clear c0 c1 c2' c3' c4 c5 c6 hlt' hfz
                        obtain ⟨c0, c1, c2', c3', c4, c5, c6, hlt', hfz⟩ := SV.out
                        go_wp2_with fail
                        go_ret
                        exact ⟨rfl, BV.out⟩
                      · refine (tuple_big l (q : Int) wy h6 (fun n hn => (H32.out n hn).2) (by rw [HP.out]; omega)).mono ?_
                        rintro e wt ⟨rfl, bt⟩
                        have hI : decide (q < P) = false := by rw [decide_eq_false_iff_not]; omega
                        have hL : decide (q < l.length) = false := by rw [decide_eq_false_iff_not]; omega
                        have SN := Lib.hid (fun W => size_no l (q : Int) W (.inr (by omega)))
                        have TN := Lib.hid (fun W => step_no l (q : Int) W (.inr (by omega)))
                        have ST := Lib.hid (SY.out.next bt)
                        have BT := Lib.hid (then_ BY.out bt)
                        clear bt
                        clear c0 c1 c2' c3' c4 c5 c6 hlt' hfz
                        obtain ⟨c0, c1, c2', c3', c4, c5, c6, hlt', hfz⟩ := ST.out
                        go_upto_region 30 with fail
                        simp only [List.append_eq, List.cons_append, List.nil_append]
                        go_wp2_with fail
                        refine (CP.out wt).mono ?_
                        rintro e wu ⟨rfl, bu⟩
                        have SU := Lib.hid (ST.out.next bu)
                        have BU := Lib.hid (then_ BT.out bu)
                        clear bu
                        clear c0 c1 c2' c3' c4 c5 c6 hlt' hfz
                        obtain ⟨c0, c1, c2', c3', c4, c5, c6, hlt', hfz⟩ := SU.out
                        go_wp2_with fail
                        refine (SN.out wu).mono ?_
                        rintro e wv ⟨rfl, bv⟩
                        have SV := Lib.hid (SU.out.next bv)
                        have BV := Lib.hid (then_ BU.out bv)
                        clear bv
                        clear c0 c1 c2' c3' c4 c5 c6 hlt' hfz
                        obtain ⟨c0, c1, c2', c3', c4, c5, c6, hlt', hfz⟩ := SV.out
                        go_wp2_with fail
                        refine (TN.out wv).mono ?_
                        rintro e wx ⟨rfl, bx⟩
                        go_wp2
                        go_ret
                        exact ⟨rfl, then_ BV.out bx⟩
end Go.Proofs.Ytiglaccolkiafaa
