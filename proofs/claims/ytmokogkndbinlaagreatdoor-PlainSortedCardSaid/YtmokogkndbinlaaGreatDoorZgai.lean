import Derived.Laws.Strings3
import Derived.Lib.LaidTab
import Derived.Lib.AppendIntMem
import Derived.Laws.Concat
import Derived.Test.YtmokogkndbinlaaGreatDoorZgaf
set_option linter.all false
namespace Go.Proofs.YtmokogkndbinlaaGreatDoor
open Go.Lib (hid)
open Go.RowKit
theorem numD_snoc (d : List UInt8) (c : UInt8) : numD (d ++ [c]) = numD d * 10 + (c.toNat - 48) := by
 unfold numD
 rw [List.foldl_append]
 rfl
def RR (D : ByteArray) (n far : Value) (k : Nat) : Prop :=
 (∀ j (h : j < D.data.toList.length), j < k → 48 ≤ D.data.toList[j].toNat ∧ D.data.toList[j].toNat ≤ 57) ∧
 ((far = .bool false ∧ n = .int .u64 ((numD (D.data.toList.take k) : Nat) : Int) ∧ numD (D.data.toList.take k) ≤ 4611686018427387909) ∨
  (far = .bool true ∧ (∃ m : Nat, n = .int .u64 (m : Int) ∧ 461168601842738790 < m ∧ m ≤ 4611686018427387909) ∧ 4611686018427387904 < numD (D.data.toList.take k)))
theorem take_next (D : ByteArray) {k : Nat} (h : k < D.data.toList.length) : numD (D.data.toList.take (k + 1)) = numD (D.data.toList.take k) * 10 + (D.data.toList[k].toNat - 48) := by
 rw [List.take_succ_eq_append_getElem h, numD_snoc]
theorem all_below (D : ByteArray) (h : ∀ j (h : j < D.data.toList.length), j < D.size → 48 ≤ D.data.toList[j].toNat ∧ D.data.toList[j].toNat ≤ 57) : ∀ c ∈ D.data.toList, 48 ≤ c.toNat ∧ c.toNat ≤ 57 := by
 intro c hc
 obtain ⟨j, hj, rfl⟩ := List.mem_iff_getElem.1 hc
 exact h j hj (by rw [← size_list]; exact hj)
def ansV (sg : Int) (D : ByteArray) : Int := if okD D.data.toList then sg * ((min (numD D.data.toList) 4611686018427387904 : Nat) : Int) else 0
def ansE (D : ByteArray) : Int := if okD D.data.toList then 0 else 4
theorem ans_bad (sg : Int) (D : ByteArray) {k : Nat} (h : k < D.data.toList.length) (hx : D.data.toList[k].toNat < 48 ∨ 57 < D.data.toList[k].toNat) : ansV sg D = 0 ∧ ansE D = 4 := by
 have : ¬ okD D.data.toList = true := by
  rw [okD_iff]
  rintro ⟨_, h2⟩
  have := h2 _ (List.getElem_mem h)
  omega
 unfold ansV ansE
 rw [if_neg this, if_neg this]
 exact ⟨rfl, rfl⟩
theorem ans_none (sg : Int) (D : ByteArray) (h : D.size = 0) : ansV sg D = 0 ∧ ansE D = 4 := by
 have e : D.data.toList = [] := List.eq_nil_of_length_eq_zero (by rw [size_list]; exact h)
 unfold ansV ansE
 rw [e]
 exact ⟨rfl, rfl⟩
theorem ans_ok (sg : Int) (D : ByteArray) (h0 : 0 < D.size) (h : ∀ j (h : j < D.data.toList.length), j < D.size → 48 ≤ D.data.toList[j].toNat ∧ D.data.toList[j].toNat ≤ 57) : ansV sg D = sg * ((min (numD D.data.toList) 4611686018427387904 : Nat) : Int) ∧ ansE D = 0 := by
 have : okD D.data.toList = true := (okD_iff _).2 ⟨fun e => by have := size_list D; rw [e] at this; simp at this; omega, all_below D h⟩
 unfold ansV ansE
 rw [if_pos this, if_pos this]
 exact ⟨rfl, rfl⟩
set_option maxRecDepth 100000 in
set_option maxHeartbeats 2000000 in
theorem rread_plus (s : ByteArray) (w : World) (hs : s.size ≤ 1000000) (h0 : 0 < s.size) (hne : ¬ s[0].toNat = 45) :
  Calls Tryz.prog 154 #[.string s] w fun e w' => e = .returned (.tuple #[.int .i64 (ansV 1 s), .int .i64 (ansE s)]) ∧ w = w' := by
 obtain ⟨y, hy⟩ : ∃ y, s[0].toNat = y := ⟨_, rfl⟩
 rw [hy] at hne
 have e1 : ((y : Int) == 45) = false := by rw [beq_eq_false_iff_ne]; omega
 have hs0 : (0 : Int) < (s.size : Int) := by omega
 have e2 : ((s.size : Int) == 0) = false := by rw [beq_eq_false_iff_ne]; omega
 go_enter Tryz.func154, Tryz.ntmps154
 go_wp2_with fail
 go_loop [5, 6, 7] (fun n far i => ∃ k : Nat, k ≤ s.size ∧ i = .int .i64 (k : Int) ∧ RR s n far k) (fun _ _ i => s.size - (intOf i).toNat)
 case atStart => exact ⟨0, Nat.zero_le _, rfl, fun j _ h => by omega, .inl ⟨rfl, rfl, Nat.zero_le _⟩⟩
 case round =>
  obtain ⟨k, hk, rfl, hd, hst⟩ := hrel
  have HD := hid hd
  clear hd
  by_cases hlt : k < s.size
  ·have hl : k < s.data.toList.length := by rw [size_list]; exact hlt
   have hkl : (k : Int) < (s.size : Int) := by omega
   obtain ⟨x, hx⟩ : ∃ x, s[k].toNat = x := ⟨_, rfl⟩
   have hxl : s.data.toList[k].toNat = x := hx
   have hx2 : x ≤ 255 := by rw [← hx]; have := s[k].toNat_lt; omega
   have HX := hid hx
   have HXL := hid hxl
   have TN := hid (take_next s hl)
   rw [hxl] at TN
   have hxi := hx
   clear hx hxl
   by_cases hdig : 48 ≤ x ∧ x ≤ 57
   ·have q1 : (48 : Int) ≤ (x : Int) := by omega
    have q2 : (x : Int) ≤ 57 := by omega
    have u1 : IntKind.u8.wrap ((x : Int) - 48) = (x : Int) - 48 := by show ((x : Int) - 48) % 256 = _; omega
    have HD2 : Hid (∀ j (h : j < s.data.toList.length), j < k + 1 → 48 ≤ s.data.toList[j].toNat ∧ s.data.toList[j].toNat ≤ 57) := hid (by
     intro j hj hjk
     rcases (by omega : j < k ∨ j = k) with h | rfl
     ·exact HD.out j hj h
     ·rw [HXL.out]
      exact hdig)
    rcases hst with ⟨rfl, rfl, hb⟩ | ⟨rfl, ⟨m, rfl, hm1, hm2⟩, hb⟩
    ·obtain ⟨a, ha⟩ : ∃ a, numD (s.data.toList.take k) = a := ⟨_, rfl⟩
     rw [ha] at hb TN ⊢
     clear ha
     by_cases hbig : 461168601842738790 < a
     ·have p1 : (461168601842738790 : Int) < (a : Int) := by omega
      go_wp2_with fail
      go_round
      case rel => exact ⟨k + 1, by omega, by go_num, HD2.out, .inr ⟨rfl, ⟨a, rfl, hbig, hb⟩, by rw [TN.out]; omega⟩⟩
      case measure => simp [intOf]; omega
     have p1 : ¬ (461168601842738790 : Int) < (a : Int) := by omega
     have p2 : (a : Int) ≤ 461168601842738790 := by omega
     have p3 : 0 ≤ (a : Int) := by omega
     go_wp2_with fail
     go_round
     case rel => exact ⟨k + 1, by omega, by go_num, HD2.out, .inl ⟨rfl, by rw [TN.out]; exact congrArg (Value.int .u64) (by omega), by rw [TN.out]; omega⟩⟩
     case measure => simp [intOf]; omega
    have p1 : (461168601842738790 : Int) < (m : Int) := by omega
    go_wp2_with fail
    go_round
    case rel => exact ⟨k + 1, by omega, by go_num, HD2.out, .inr ⟨rfl, ⟨m, rfl, hm1, hm2⟩, by rw [TN.out]; omega⟩⟩
    case measure => simp [intOf]; omega
   have hb := ans_bad 1 s hl (by rw [HXL.out]; omega)
   have hb1 := hid hb.1
   have hb2 := hid hb.2
   clear hb
   rcases (by omega : (x : Int) < 48 ∨ (48 ≤ (x : Int) ∧ 57 < (x : Int))) with q | ⟨q1, q2⟩
   all_goals
    go_wp2_with fail
    go_ret2
    exact ⟨by rw [hb1.out, hb2.out]; rfl, rfl⟩
  obtain rfl : k = s.size := by omega
  have hall : s.data.toList.take s.size = s.data.toList := List.take_of_length_le (by rw [size_list]; exact Nat.le_refl _)
  rw [hall] at hst
  obtain ⟨a1, a2⟩ := ans_ok 1 s h0 HD.out
  have A1 := hid a1
  have A2 := hid a2
  have hkl : ¬ ((s.size : Int) < (s.size : Int)) := by omega
  clear hall a1 a2
  rcases hst with ⟨rfl, rfl, hb⟩ | ⟨rfl, ⟨m, rfl, hm1, hm2⟩, hb⟩
  rotate_left
  ·have hmin : min (numD s.data.toList) 4611686018427387904 = 4611686018427387904 := by omega
   rw [hmin] at A1
   clear hmin hb
   go_wp2_with fail
   go_ret2
   exact ⟨by rw [A1.out, A2.out]; rfl, rfl⟩
  obtain ⟨a, ha⟩ : ∃ a, numD s.data.toList = a := ⟨_, rfl⟩
  rw [ha] at hb A1 ⊢
  clear ha
  by_cases hbig : 4611686018427387904 < a
  ·have p1 : (4611686018427387904 : Int) < (a : Int) := by omega
   have hmin : min a 4611686018427387904 = 4611686018427387904 := by omega
   rw [hmin] at A1
   clear hmin
   go_wp2_with fail
   go_ret2
   exact ⟨by rw [A1.out, A2.out]; rfl, rfl⟩
  have p1 : ¬ (4611686018427387904 : Int) < (a : Int) := by omega
  have p2 : (a : Int) ≤ 4611686018427387904 := by omega
  have p3 : 0 ≤ (a : Int) := by omega
  have hmin : min a 4611686018427387904 = a := by omega
  rw [hmin] at A1
  have A3 := hid (A1.out.trans (Int.one_mul _))
  clear hmin A1
  go_wp2_with fail
  all_goals
   go_ret2
   exact ⟨by rw [A3.out, A2.out]; rfl, rfl⟩
set_option maxRecDepth 100000 in
set_option maxHeartbeats 2000000 in
theorem rread_minus (s D : ByteArray) (w : World) (hs : s.size ≤ 1000000) (h0 : 0 < s.size) (he : s[0].toNat = 45) (hD : s.extract 1 s.size = D) (hDs : D.size + 1 = s.size) :
  Calls Tryz.prog 154 #[.string s] w fun e w' => e = .returned (.tuple #[.int .i64 (ansV (-1) D), .int .i64 (ansE D)]) ∧ w = w' := by
 have hs0 : (0 : Int) < (s.size : Int) := by omega
 have hs1 : (1 : Int) ≤ (s.size : Int) := by omega
 have HD0 := hid hD
 have HDs := hid hDs
 have hDs9 : D.size ≤ 1000000 := by omega
 have hsl : ∀ W, (Instr.slice 9 (.string s) (some (.int .i64 1)) none none).run Tryz.prog W = .ok (.string D) W := by
  intro W
  rw [run_slice_string_from_if (w := W) (P := Tryz.prog) 9 s .i64 1 Tryz.underlying9, if_pos (by omega), ← hD]
  rfl
 clear hD hDs
 rcases Nat.eq_zero_or_pos D.size with hz | hz
 ·have e2 : ((D.size : Int) == 0) = true := by rw [beq_iff_eq]; omega
  have hb := ans_none (-1) D hz
  have hb1 := hid hb.1
  have hb2 := hid hb.2
  clear hb hz
  go_enter Tryz.func154, Tryz.ntmps154
  go_wp2_with fail
  go_ret2
  exact ⟨by rw [hb1.out, hb2.out]; rfl, rfl⟩
 have e2 : ((D.size : Int) == 0) = false := by rw [beq_eq_false_iff_ne]; omega
 go_enter Tryz.func154, Tryz.ntmps154
 go_wp2_with fail
 go_loop [5, 6, 7] (fun n far i => ∃ k : Nat, k ≤ D.size ∧ i = .int .i64 (k : Int) ∧ RR D n far k) (fun _ _ i => D.size - (intOf i).toNat)
 case atStart => exact ⟨0, Nat.zero_le _, rfl, fun j _ h => by omega, .inl ⟨rfl, rfl, Nat.zero_le _⟩⟩
 case round =>
  obtain ⟨k, hk, rfl, hd, hst⟩ := hrel
  have HD := hid hd
  clear hd
  by_cases hlt : k < D.size
  ·have hl : k < D.data.toList.length := by rw [size_list]; exact hlt
   have hkl : (k : Int) < (D.size : Int) := by omega
   obtain ⟨x, hx⟩ : ∃ x, D[k].toNat = x := ⟨_, rfl⟩
   have hxl : D.data.toList[k].toNat = x := hx
   have hx2 : x ≤ 255 := by rw [← hx]; have := D[k].toNat_lt; omega
   have HX := hid hx
   have HXL := hid hxl
   have TN := hid (take_next D hl)
   rw [hxl] at TN
   have hxi := hx
   clear hx hxl
   by_cases hdig : 48 ≤ x ∧ x ≤ 57
   ·have q1 : (48 : Int) ≤ (x : Int) := by omega
    have q2 : (x : Int) ≤ 57 := by omega
    have u1 : IntKind.u8.wrap ((x : Int) - 48) = (x : Int) - 48 := by show ((x : Int) - 48) % 256 = _; omega
    have HD2 : Hid (∀ j (h : j < D.data.toList.length), j < k + 1 → 48 ≤ D.data.toList[j].toNat ∧ D.data.toList[j].toNat ≤ 57) := hid (by
     intro j hj hjk
     rcases (by omega : j < k ∨ j = k) with h | rfl
     ·exact HD.out j hj h
     ·rw [HXL.out]
      exact hdig)
    rcases hst with ⟨rfl, rfl, hb⟩ | ⟨rfl, ⟨m, rfl, hm1, hm2⟩, hb⟩
    ·obtain ⟨a, ha⟩ : ∃ a, numD (D.data.toList.take k) = a := ⟨_, rfl⟩
     rw [ha] at hb TN ⊢
     clear ha
     by_cases hbig : 461168601842738790 < a
     ·have p1 : (461168601842738790 : Int) < (a : Int) := by omega
      go_wp2_with fail
      go_round
      case rel => exact ⟨k + 1, by omega, by go_num, HD2.out, .inr ⟨rfl, ⟨a, rfl, hbig, hb⟩, by rw [TN.out]; omega⟩⟩
      case measure => simp [intOf]; omega
     have p1 : ¬ (461168601842738790 : Int) < (a : Int) := by omega
     have p2 : (a : Int) ≤ 461168601842738790 := by omega
     have p3 : 0 ≤ (a : Int) := by omega
     go_wp2_with fail
     go_round
     case rel => exact ⟨k + 1, by omega, by go_num, HD2.out, .inl ⟨rfl, by rw [TN.out]; exact congrArg (Value.int .u64) (by omega), by rw [TN.out]; omega⟩⟩
     case measure => simp [intOf]; omega
    have p1 : (461168601842738790 : Int) < (m : Int) := by omega
    go_wp2_with fail
    go_round
    case rel => exact ⟨k + 1, by omega, by go_num, HD2.out, .inr ⟨rfl, ⟨m, rfl, hm1, hm2⟩, by rw [TN.out]; omega⟩⟩
    case measure => simp [intOf]; omega
   have hb := ans_bad (-1) D hl (by rw [HXL.out]; omega)
   have hb1 := hid hb.1
   have hb2 := hid hb.2
   clear hb
   rcases (by omega : (x : Int) < 48 ∨ (48 ≤ (x : Int) ∧ 57 < (x : Int))) with q | ⟨q1, q2⟩
   all_goals
    go_wp2_with fail
    go_ret2
    exact ⟨by rw [hb1.out, hb2.out]; rfl, rfl⟩
  obtain rfl : k = D.size := by omega
  have hall : D.data.toList.take D.size = D.data.toList := List.take_of_length_le (by rw [size_list]; exact Nat.le_refl _)
  rw [hall] at hst
  obtain ⟨a1, a2⟩ := ans_ok (-1) D hz HD.out
  have A1 := hid a1
  have A2 := hid a2
  have hkl : ¬ ((D.size : Int) < (D.size : Int)) := by omega
  clear hall a1 a2
  rcases hst with ⟨rfl, rfl, hb⟩ | ⟨rfl, ⟨m, rfl, hm1, hm2⟩, hb⟩
  rotate_left
  ·have hmin : min (numD D.data.toList) 4611686018427387904 = 4611686018427387904 := by omega
   rw [hmin] at A1
   clear hmin hb
   go_wp2_with fail
   go_ret2
   exact ⟨by rw [A1.out, A2.out]; rfl, rfl⟩
  obtain ⟨a, ha⟩ : ∃ a, numD D.data.toList = a := ⟨_, rfl⟩
  rw [ha] at hb A1 ⊢
  clear ha
  by_cases hbig : 4611686018427387904 < a
  ·have p1 : (4611686018427387904 : Int) < (a : Int) := by omega
   have hmin : min a 4611686018427387904 = 4611686018427387904 := by omega
   rw [hmin] at A1
   clear hmin
   go_wp2_with fail
   go_ret2
   exact ⟨by rw [A1.out, A2.out]; rfl, rfl⟩
  have p1 : ¬ (4611686018427387904 : Int) < (a : Int) := by omega
  have p2 : (a : Int) ≤ 4611686018427387904 := by omega
  have p3 : 0 ≤ (a : Int) := by omega
  have hmin : min a 4611686018427387904 = a := by omega
  rw [hmin] at A1
  have A3 := hid (A1.out.trans (Int.neg_one_mul _))
  clear hmin A1
  go_wp2_with fail
  all_goals
   go_ret2
   exact ⟨by rw [A3.out, A2.out]; rfl, rfl⟩
theorem rread_any (s : ByteArray) (w : World) (hs : s.size ≤ 1000000) :
  Calls Tryz.prog 154 #[.string s] w fun e w' => e = .returned (.tuple #[.int .i64 (readV s.data.toList), .int .i64 (readE s.data.toList)]) ∧ w = w' := by
 rcases Nat.eq_zero_or_pos s.size with h0 | h0
 ·have e := empty_of h0
  subst e
  go_enter Tryz.func154, Tryz.ntmps154
  go_wp2_with fail
  go_ret2
  exact ⟨rfl, rfl⟩
 have hcons : s.data.toList = s[0] :: s.data.toList.tail := by
  have h : 0 < s.data.toList.length := by rw [size_list]; exact h0
  have := List.drop_eq_getElem_cons (l := s.data.toList) (i := 0) h
  have e0 : s.data.toList = s.data.toList[0] :: s.data.toList.tail := by simpa using this
  exact e0
 by_cases hc : s[0].toNat = 45
 ·have hc' : s[0] = 45 := UInt8.toNat_inj.1 hc
  obtain ⟨D, hD⟩ : ∃ D, s.extract 1 s.size = D := ⟨_, rfl⟩
  have hDl : D.data.toList = s.data.toList.tail := by
   rw [← hD]
   have e := Lib.extract_toList s 1 s.size
   have e2 : (s.extract 1 s.size).data.toList = (s.data.toList.drop 1).take (s.size - 1) := by simp
   rw [e2, List.take_of_length_le (by rw [List.length_drop, size_list]; omega)]
   simp
  have hDs : D.size + 1 = s.size := by
   have h1 := size_list D
   have h2 := size_list s
   rw [hDl, List.length_tail] at h1
   omega
  have k := rread_minus s D w hs h0 hc hD hDs
  have hh : s.data.toList.head? = some 45 := by rw [hcons, hc']; rfl
  have hg : digs s.data.toList = D.data.toList := by unfold digs; rw [if_pos hh, hDl]
  have e1 : readV s.data.toList = ansV (-1) D := by
   unfold readV ansV
   rw [hg, if_pos hh]
   split
   ·exact (Int.neg_one_mul _).symm
   rfl
  have e2 : readE s.data.toList = ansE D := by unfold readE ansE; rw [hg]
  rw [e1, e2]
  exact k
 have k := rread_plus s w hs h0 hc
 have hh : ¬ s.data.toList.head? = some 45 := by
  rw [hcons]
  intro e
  injection e with e
  apply hc
  rw [e]
  rfl
 have hg : digs s.data.toList = s.data.toList := by unfold digs; rw [if_neg hh]
 have e1 : readV s.data.toList = ansV 1 s := by
  unfold readV ansV
  rw [hg, if_neg hh]
  split
  ·exact (Int.one_mul _).symm
  rfl
 have e2 : readE s.data.toList = ansE s := by unfold readE ansE; rw [hg]
 rw [e1, e2]
 exact k
end Go.Proofs.YtmokogkndbinlaaGreatDoor
namespace Go.Proofs.YtmokogkndbinlaaGreatDoor
open Go.RowKit
end Go.Proofs.YtmokogkndbinlaaGreatDoor
namespace Go.Proofs.YtmokogkndbinlaaGreatDoor
open Go.RowKit
abbrev TabP (W : World) : Prop := Lib.TabIs Tryz.prog W "internal/strconv.uint64pow10" .u64 Lib.pow10Tab
theorem tab_below {W W' : World} (h : TabP W) (hb : Below W.heap.size W W') : TabP W' := by
 unfold TabP Lib.TabIs World.var? at h ⊢
 cases hg : Tryz.prog.globalNamed "internal/strconv.uint64pow10" with
 | none => simp [hg] at h
 | some g =>
  simp only [hg, Option.bind_some] at h ⊢
  have hlt : g < W.heap.size := by
   rcases Nat.lt_or_ge g W.heap.size with h' | h'
   ·exact h'
   simp [Array.getElem?_eq_none h'] at h
  rw [hb.block g hlt]
  exact h
theorem dec_digs (u : Nat) : Lib.decDigits u ≠ [] ∧ (∀ c ∈ Lib.decDigits u, 48 ≤ c.toNat ∧ c.toNat ≤ 57) ∧ numD (Lib.decDigits u) = u := by
 induction u using Nat.strongRecOn with
 | _ u ih =>
  rw [Lib.decDigits]
  have hc : ∀ k, k < 10 → (UInt8.ofNat (48 + k)).toNat = 48 + k := fun k hk => by
   rw [UInt8.toNat_ofNat']
   exact Nat.mod_eq_of_lt (by omega)
  split
  ·rename_i h
   refine ⟨by simp, ?_, ?_⟩
   ·intro c hm
    rw [List.mem_singleton.1 hm, hc u h]
    omega
   show stepD 0 _ = u
   unfold stepD
   rw [hc u h]
   omega
  rename_i h
  obtain ⟨h1, h2, h3⟩ := ih (u / 10) (by omega)
  refine ⟨by simp, ?_, ?_⟩
  ·intro c hm
   rw [List.mem_append] at hm
   rcases hm with hm | hm
   ·exact h2 c hm
   rw [List.mem_singleton.1 hm, hc _ (by omega)]
   omega
  unfold numD at h3 ⊢
  rw [List.foldl_append, h3]
  show stepD (u / 10) _ = u
  unfold stepD
  rw [hc _ (by omega)]
  omega
theorem dec_len (u : Nat) (h : u < 18446744073709551616) : (Lib.decDigits u).length ≤ 20 := by
 have key : ∀ k u, u < 10 ^ (k + 1) → (Lib.decDigits u).length ≤ k + 1 := by
  intro k
  induction k with
  | zero =>
   intro u hu
   rw [Lib.decDigits, dif_pos (by omega)]
   exact Nat.le_refl _
  | succ k ih =>
   intro u hu
   rw [Lib.decDigits]
   split
   ·simp
   rw [List.length_append]
   have := ih (u / 10) (by rw [Nat.pow_succ] at hu; omega)
   simp
   omega
 exact key 19 u (by omega)
theorem read_itoa (n : Int) : readV (Lib.itoa n) = min (max n (-4611686018427387904)) 4611686018427387904 ∧ readE (Lib.itoa n) = 0 := by
 unfold Lib.itoa
 split
 ·rename_i h
  obtain ⟨h1, h2, h3⟩ := dec_digs n.natAbs
  have hg : digs (45 :: Lib.decDigits n.natAbs) = Lib.decDigits n.natAbs := rfl
  have ho : okD (digs (45 :: Lib.decDigits n.natAbs)) = true := by rw [hg]; exact (okD_iff _).2 ⟨h1, h2⟩
  unfold readV readE
  rw [if_pos ho, if_pos ho, hg, h3]
  refine ⟨?_, rfl⟩
  simp only [List.head?_cons, if_true]
  omega
 rename_i h
 obtain ⟨h1, h2, h3⟩ := dec_digs n.toNat
 have hh : ¬ (Lib.decDigits n.toNat).head? = some 45 := by
  intro e
  have hm := List.mem_of_mem_head? (Option.mem_def.2 e)
  have := h2 45 hm
  exact absurd this (by decide)
 have hg : digs (Lib.decDigits n.toNat) = Lib.decDigits n.toNat := by unfold digs; rw [if_neg hh]
 have ho : okD (digs (Lib.decDigits n.toNat)) = true := by rw [hg]; exact (okD_iff _).2 ⟨h1, h2⟩
 unfold readV readE
 rw [if_pos ho, if_pos ho, hg, h3, if_neg hh]
 refine ⟨?_, rfl⟩
 omega
theorem itoa_len (n : Int) (h1 : -9223372036854775808 ≤ n) (h2 : n ≤ 9223372036854775807) : (Lib.itoa n).length ≤ 21 := by
 unfold Lib.itoa
 split
 ·have := dec_len n.natAbs (by omega)
  simp
  omega
 have := dec_len n.toNat (by omega)
 omega
theorem write_any (n : Int) (w : World) (h0 : -9223372036854775808 ≤ n) (h1 : n ≤ 9223372036854775807) (hT : TabP w) :
  Calls Tryz.prog 129 #[.int .i64 n] w fun e w' => e = .returned (.string ⟨(Lib.itoa n).toArray⟩) ∧ Below w.heap.size w w' := by
 have HF := hid (Tryz.strconv_FormatInt_10 n h0 h1 w hT)
 clear h0 h1 hT
 go_enter Tryz.func129, Tryz.ntmps129
 go_wp2_with (go_at_call 162; refine HF.out.mono ?_; rintro e w' ⟨rfl, k, os, rfl⟩)
 go_ret
 exact ⟨rfl, Lib.below_grow _ _ (Nat.le_refl _) _ _⟩
end Go.Proofs.YtmokogkndbinlaaGreatDoor
