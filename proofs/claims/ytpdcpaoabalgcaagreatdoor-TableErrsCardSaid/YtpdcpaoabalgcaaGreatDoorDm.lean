/- Texts of this seat laid together (no statement of its own). -/
import Derived.Laws.BitsAllLaws
import Derived.Laws.BitsLemmas
import Derived.Test.YtpdcpaoabalgcaaGreatDoorRows
import Derived.WalkKit
import Derived.WalkLawsBesides
import Derived.Lib.Hide
import Derived.Handy
import Derived.IntWalk
import Derived.BigQuiet
import Derived.Deep.QuietTactic
import Derived.Deep.RegionWith
import Derived.Laws.MathBits
import Derived.RangeFuncBox
import Derived.RangeFuncLeaves
import Derived.Shelf.Abstract
import Derived.OwnWalkIn
import Derived.TacticsInMore
import Derived.LoopNIn
import Derived.LoopIn
import Derived.Maps.AppendAt
namespace Go.Proofs.YtpdcpaoabalgcaaGreatDoor.Dm
open Go
set_option linter.unusedVariables false
def mem (k B : Nat) : List Nat := (List.range k).filter fun v => B.testBit v
def dropN (B v : Nat) : Nat := B &&& (4294967295 - 2 ^ v)
def putN (B v : Nat) : Nat := B ||| 2 ^ v
def aboveN (B n : Nat) : Nat := B &&& (4294967295 - (2 ^ n - 1))
theorem pow_lt (v : Nat) (h : v < 32) : 2 ^ v < 4294967296 := by
  have := Nat.pow_lt_pow_right (a := 2) (by omega) h
  simpa using this
theorem pow_le (v : Nat) (h : v ≤ 32) : 2 ^ v ≤ 4294967296 := by
  have := Nat.pow_le_pow_right (n := 2) (by omega) h
  simpa using this
theorem lt_of_fits {k B : Nat} (hk : k ≤ 32) (hB : B < 2 ^ k) : B < 4294967296 := Nat.lt_of_lt_of_le hB (pow_le k hk)
theorem testBit_not (m i : Nat) (h : m < 4294967296) : (4294967295 - m).testBit i = (decide (i < 32) && !m.testBit i) := by
  have := Nat.testBit_two_pow_sub_succ (n := 32) (x := m) (by simpa using h) i
  rw [← this]
  have e : (2 : Nat) ^ 32 = 4294967296 := by decide
  rw [e]
  congr 1
  omega
theorem testBit_drop (B v i : Nat) (hB : B < 4294967296) (hv : v < 32) : (dropN B v).testBit i = (B.testBit i && decide (i ≠ v)) := by
  unfold dropN
  rw [Nat.testBit_and, testBit_not _ _ (pow_lt v hv), Nat.testBit_two_pow]
  by_cases hi : i < 32
  · by_cases e : v = i <;> simp [hi, e] <;> omega
  · have : B.testBit i = false := Nat.testBit_lt_two_pow (Nat.lt_of_lt_of_le hB (by
      have := Nat.pow_le_pow_right (n := 2) (by omega) (show 32 ≤ i by omega)
      simpa using this))
    simp [this]
theorem testBit_put (B v i : Nat) : (putN B v).testBit i = (B.testBit i || decide (i = v)) := by
  unfold putN
  rw [Nat.testBit_or, Nat.testBit_two_pow]
  congr 1
  simp only [decide_eq_decide]
  omega
theorem testBit_above (B n i : Nat) (hB : B < 4294967296) (hn : n ≤ 32) : (aboveN B n).testBit i = (B.testBit i && decide (n ≤ i)) := by
  unfold aboveN
  have h1 : 2 ^ n - 1 < 4294967296 := by have := pow_le n hn; have := Nat.pos_of_ne_zero (Nat.ne_of_gt (Nat.two_pow_pos n)); omega
  rw [Nat.testBit_and, testBit_not _ _ h1, Nat.testBit_two_pow_sub_one]
  by_cases hi : i < 32
  · by_cases e : i < n <;> simp [hi, e] <;> omega
  · have : B.testBit i = false := Nat.testBit_lt_two_pow (Nat.lt_of_lt_of_le hB (by
      have := Nat.pow_le_pow_right (n := 2) (by omega) (show 32 ≤ i by omega)
      simpa using this))
    simp [this]
theorem fits_of_testBit {k B : Nat} (h : ∀ i, k ≤ i → B.testBit i = false) : B < 2 ^ k := Nat.lt_pow_two_of_testBit B h
theorem testBit_far {k B : Nat} (hB : B < 2 ^ k) {i : Nat} (hi : k ≤ i) : B.testBit i = false :=
  Nat.testBit_lt_two_pow (Nat.lt_of_lt_of_le hB (Nat.pow_le_pow_right (by omega) hi))
theorem drop_fits {k B v : Nat} (hk : k ≤ 32) (hB : B < 2 ^ k) (hv : v < k) : dropN B v < 2 ^ k :=
  fits_of_testBit fun i hi => by rw [testBit_drop _ _ _ (lt_of_fits hk hB) (by omega), testBit_far hB hi]; rfl
theorem put_fits {k B v : Nat} (hB : B < 2 ^ k) (hv : v < k) : putN B v < 2 ^ k :=
  fits_of_testBit fun i hi => by rw [testBit_put, testBit_far hB hi]; simp; omega
theorem above_fits {k B n : Nat} (hk : k ≤ 32) (hB : B < 2 ^ k) (hn : n ≤ 32) : aboveN B n < 2 ^ k :=
  fits_of_testBit fun i hi => by rw [testBit_above _ _ _ (lt_of_fits hk hB) hn, testBit_far hB hi]; rfl
theorem and_fits {k B C : Nat} (hB : B < 2 ^ k) : B &&& C < 2 ^ k :=
  fits_of_testBit fun i hi => by rw [Nat.testBit_and, testBit_far hB hi]; rfl
theorem bit_fits {k v : Nat} (hv : v < k) : 2 ^ v < 2 ^ k := Nat.pow_lt_pow_right (by omega) hv
/-! the walk's own words for them -/
theorem bits_or (B v : Nat) (hB : B < 4294967296) (hv : v < 32) : bits .or .u32 (B : Int) ((2 ^ v : Nat) : Int) = (putN B v : Int) := u32_or_nat B (2 ^ v) hB (pow_lt v hv)
theorem bits_drop (B v : Nat) (hB : B < 4294967296) (hv : v < 32) : bits .andNot .u32 (B : Int) ((2 ^ v : Nat) : Int) = (dropN B v : Int) := u32_andNot_nat B (2 ^ v) hB (pow_lt v hv)
theorem bits_above (B n : Nat) (hB : B < 4294967296) (hn : n ≤ 32) : bits .andNot .u32 (B : Int) ((2 ^ n - 1 : Nat) : Int) = (aboveN B n : Int) :=
  u32_andNot_nat B (2 ^ n - 1) hB (by have := pow_le n hn; have := Nat.two_pow_pos n; omega)
theorem bits_and (B C : Nat) (hB : B < 4294967296) (hC : C < 4294967296) : bits .and .u32 (B : Int) (C : Int) = ((B &&& C : Nat) : Int) := u32_and_nat B C hB hC
theorem and_bit_no (B v : Nat) (h : B.testBit v = false) : B &&& 2 ^ v = 0 := by
  apply Nat.eq_of_testBit_eq
  intro i
  rw [Nat.testBit_and, Nat.testBit_two_pow, Nat.zero_testBit]
  by_cases e : v = i
  · subst e; simp [h]
  · simp [e]
theorem and_bit_yes (B v : Nat) (h : B.testBit v = true) : B &&& 2 ^ v = 2 ^ v := by
  apply Nat.eq_of_testBit_eq
  intro i
  rw [Nat.testBit_and, Nat.testBit_two_pow]
  by_cases e : v = i
  · subst e; simp [h]
  · simp [e]
theorem bits_test (B v : Nat) (hB : B < 4294967296) (hv : v < 32) : (bits .and .u32 (B : Int) ((2 ^ v : Nat) : Int) != 0) = B.testBit v := by
  rw [bits_and B _ hB (pow_lt v hv)]
  cases h : B.testBit v
  · rw [and_bit_no B v h]; rfl
  · rw [and_bit_yes B v h, bne_iff_ne]
    have := Nat.two_pow_pos v
    omega
/-! members -/
theorem mem_drop {k B v : Nat} (hk : k ≤ 32) (hB : B < 2 ^ k) (hv : v < k) : mem k (dropN B v) = (mem k B).filter (fun x => decide (x ≠ v)) := by
  unfold mem
  rw [List.filter_filter]
  apply List.filter_congr
  intro i _
  rw [testBit_drop _ _ _ (lt_of_fits hk hB) (by omega), Bool.and_comm]
theorem mem_put {k B v : Nat} : mem k (putN B v) = (List.range k).filter (fun x => B.testBit x || decide (x = v)) := by
  unfold mem
  apply List.filter_congr
  intro i _
  rw [testBit_put]
theorem mem_and {k B C : Nat} : mem k (B &&& C) = (mem k B).filter (fun x => C.testBit x) := by
  unfold mem
  rw [List.filter_filter]
  apply List.filter_congr
  intro i _
  rw [Nat.testBit_and, Bool.and_comm]
theorem mem_mem {k B v : Nat} : v ∈ mem k B ↔ v < k ∧ B.testBit v = true := by simp [mem]
theorem mem_inj {k B C : Nat} (hB : B < 2 ^ k) (hC : C < 2 ^ k) (h : mem k B = mem k C) : B = C := by
  apply Nat.eq_of_testBit_eq
  intro i
  by_cases hi : i < k
  · have : i ∈ mem k B ↔ i ∈ mem k C := by rw [h]
    rw [mem_mem, mem_mem] at this
    have h2 : B.testBit i = true ↔ C.testBit i = true := ⟨fun a => (this.1 ⟨hi, a⟩).2, fun a => (this.2 ⟨hi, a⟩).2⟩
    exact Bool.eq_iff_iff.2 h2
  · rw [testBit_far hB (by omega), testBit_far hC (by omega)]
end Go.Proofs.YtpdcpaoabalgcaaGreatDoor.Dm

namespace Go.Proofs.YtpdcpaoabalgcaaGreatDoor.Dm
open Go.RowKit
set_option linter.unusedVariables false
theorem ret_bool {a b : Bool} (h : a = b) : Ending.returned (.bool a) = .returned (.bool b) := by rw [h]
theorem ret_int {t : IntKind} {a b : Int} (h : a = b) : Ending.returned (.int t a) = .returned (.int t b) := by rw [h]
/-- A set of k values with the bits B; where it lies in memory. -/
abbrev setV (k B : Nat) : Value := .agg #[.int .i64 (k : Int), .int .u32 (B : Int)]
abbrev setO (k B : Nat) : Obj := .cells #[.int .i64 (k : Int), .int .u32 (B : Int)] 56
theorem fits_yes (k B v : Nat) (w : World) (h : v < k) :
    Calls Tryz.prog 113 #[setV k B, .int .i64 (v : Int)] w fun e w' => e = .returned (.bool true) ∧ w' = w.alloc (setO k B) := by
  go_enter Tryz.func113, Tryz.ntmps113
  go_wp2
  go_ret
  exact ⟨ret_bool (by simp <;> omega), rfl⟩
theorem fits_no (k B : Nat) (v : Int) (w : World) (h : v < 0 ∨ (k : Int) ≤ v) :
    Calls Tryz.prog 113 #[setV k B, .int .i64 v] w fun e w' => e = .returned (.bool false) ∧ w' = w.alloc (setO k B) := by
  rcases h with h | h
  · go_enter Tryz.func113, Tryz.ntmps113
    go_wp2
    go_ret
    exact ⟨rfl, rfl⟩
  · have h1 : 0 ≤ v := by omega
    go_enter Tryz.func113, Tryz.ntmps113
    go_wp2
    go_ret
    exact ⟨ret_bool (by simp <;> omega), rfl⟩
theorem bit_any (v : Nat) (w : World) (h : v < 32) :
    Calls Tryz.prog 84 #[.int .i64 (v : Int)] w fun e w' => e = .returned (.int .u32 ((2 ^ v : Nat) : Int)) ∧ w = w' := by
  go_enter Tryz.func84, Tryz.ntmps84
  go_wp2
  go_ret
  have := pow_lt v h
  refine ⟨?_, rfl⟩
  show Ending.returned (.int .u32 ((2 : Int) ^ v % 4294967296)) = _
  refine ret_int ?_
  rw [show ((2 : Int) ^ v) = ((2 ^ v : Nat) : Int) by simp]
  exact Int.emod_eq_of_lt (Int.natCast_nonneg _) (Int.ofNat_lt.2 this)
theorem below_any (n : Nat) (w : World) (h : n ≤ 32) :
    Calls Tryz.prog 63 #[.int .i64 (n : Int)] w fun e w' => e = .returned (.int .u32 ((2 ^ n - 1 : Nat) : Int)) ∧ w = w' := by
  by_cases hn : n < 32
  · obtain ⟨p, hp⟩ : ∃ p, 2 ^ n = p := ⟨_, rfl⟩
    have h1 := pow_lt n hn
    have h2 := Nat.two_pow_pos n
    have C := Lib.hid (bit_any n w hn)
    rw [hp] at C h1 h2 ⊢
    clear hp
    go_enter Tryz.func63, Tryz.ntmps63
    go_wp2_with (go_at_call 84; refine C.out.mono ?_; rintro e w' ⟨rfl, rfl⟩)
    go_ret
    refine ⟨ret_int ?_, rfl⟩
    omega
  · obtain rfl : n = 32 := by omega
    go_enter Tryz.func63, Tryz.ntmps63
    go_wp2
    go_ret
    exact ⟨rfl, rfl⟩
theorem size_any (k B : Nat) (w : World) :
    Calls Tryz.prog 58 #[setV k B] w fun e w' => e = .returned (.int .i64 (k : Int)) ∧ Below w.heap.size w w' := by
  go_enter Tryz.func58, Tryz.ntmps58
  go_wp2
  go_ret
  exact ⟨rfl, by go_grown⟩
end Go.Proofs.YtpdcpaoabalgcaaGreatDoor.Dm

namespace Go.Proofs.YtpdcpaoabalgcaaGreatDoor.Dm
open Go.RowKit
set_option linter.unusedVariables false
end Go.Proofs.YtpdcpaoabalgcaaGreatDoor.Dm

namespace Go.Proofs.YtpdcpaoabalgcaaGreatDoor.Dm
open Go.RowKit
set_option linter.unusedVariables false
theorem bcell {W w1 : World} (hb : Below W.heap.size W w1) : (∀ b o, b < W.heap.size → w1.cell? ⟨b, o, none⟩ = W.cell? ⟨b, o, none⟩) ∧ (∀ b o, b < W.heap.size → w1.frozen? ⟨b, o, none⟩ = W.frozen? ⟨b, o, none⟩) :=
  ⟨fun b o h => hb.cell (p := ⟨b, o, none⟩) h, fun b o h => hb.frozen (p := ⟨b, o, none⟩) h⟩
/-- The bits of v alone, if it is in B; else none. -/
def onlyN (B v : Nat) : Nat := if B.testBit v then 2 ^ v else 0
theorem new_yes (n : Nat) (w : World) (h1 : 1 ≤ n) (h : n ≤ 32) :
    Calls Tryz.prog 29 #[.int .i64 (n : Int)] w fun e w' => e = .returned (.tuple #[setV n (2 ^ n - 1), .int .i64 0]) ∧ Below w.heap.size w w' := by
  have T := Lib.hid (fun W => below_any n W h)
  generalize 2 ^ n - 1 = p at T ⊢
  go_enter Tryz.func29, Tryz.ntmps29
  go_wp2_with (go_at_call 63; refine (T.out _).mono ?_; rintro e w' ⟨rfl, rfl⟩)
  exact bodyPost_ret (v := .tuple #[setV n p, .int .i64 0]) (by simp [results, Tryz.results29, go_sem]) rfl ⟨rfl, by go_grown⟩
theorem new_no (n : Int) (w : World) (h : n < 1 ∨ 32 < n) :
    Calls Tryz.prog 29 #[.int .i64 n] w fun e w' => e = .returned (.tuple #[setV 0 0, .int .i64 1]) ∧ Below w.heap.size w w' := by
  rcases h with h | h
  · go_enter Tryz.func29, Tryz.ntmps29
    go_wp2
    exact bodyPost_ret (v := .tuple #[setV 0 0, .int .i64 1]) (by simp [results, Tryz.results29, go_sem]) rfl ⟨rfl, by go_grown⟩
  · have h1 : 1 ≤ n := by omega
    go_enter Tryz.func29, Tryz.ntmps29
    go_wp2
    exact bodyPost_ret (v := .tuple #[setV 0 0, .int .i64 1]) (by simp [results, Tryz.results29, go_sem]) rfl ⟨rfl, by go_grown⟩
end Go.Proofs.YtpdcpaoabalgcaaGreatDoor.Dm

namespace Go.Proofs.YtpdcpaoabalgcaaGreatDoor.Dm
open Go.RowKit
set_option linter.unusedVariables false
/-- Does a table of 256 bytes hold f? -/
def tabB (s : ByteArray) (f : Nat → Nat) : Bool := s.size == 256 && (List.range 256).all fun i => (s.data.getD i 0).toNat == f i
theorem tab_get {s : ByteArray} {f : Nat → Nat} (h : tabB s f = true) {i : Nat} (hi : i < 256) : ∃ h' : i < s.size, (s[i]'h').toNat = f i := by
  unfold tabB at h
  rw [Bool.and_eq_true] at h
  obtain ⟨h1, h2⟩ := h
  have hs : s.size = 256 := by simpa using h1
  have := (List.all_eq_true.1 h2) i (by simpa using hi)
  have h3 : i < s.data.size := by show i < s.size; omega
  have e : (s.data.getD i 0).toNat = f i := by simpa using this
  refine ⟨by omega, ?_⟩
  rw [← e, Array.getD_eq_getD_getElem?, Array.getElem?_eq_getElem h3]
  rfl
theorem index_tab (s : ByteArray) (f : Nat → Nat) (h : tabB s f = true) (k : IntKind) (i : Int) (n : Nat) (he : i = n) (hn : n < 256) (w : World) :
    (Instr.index 9 (.string s) (.int k i)).run Tryz.prog w = .ok (.int .u8 (f n : Int)) w := by
  subst he
  obtain ⟨h1, h2⟩ := tab_get h hn
  rw [run_index_string w 9 s k n Tryz.underlying9]
  rw [dif_pos ⟨by omega, by omega⟩]
  rw [← h2]
  rfl
theorem quiet_index {P : Program} {o : Oper} {a : Act} {C : World → Prop} {K : Act → Prop} (T : TypeId) (s : Value) (x : Operand) (ho : o.op = .index T (.const s) x) (v : Value)
    (hv : ∀ w, (Instr.index T s (a.eval x)).run P w = .ok v w) (h : K (a.put o.dst v)) : o.quiet P a C K := by
  refine ⟨v, fun w _ => ?_, h⟩
  have e : a.eval (.const s) = s := rfl
  unfold Oper.quietAt execOp
  simp only [ho, e, Sem.run_bind, hv, Result.andThen_ok, Sem.run_pure]
  exact ⟨rfl, rfl⟩
theorem wpList_index {P : Program} {ops : Array Oper} {rest : List Oper} {o : Oper} {a : Act} {w : World} {Q : Exit → Act → World → Prop} (hgd : o.guard = none) (T : TypeId) (s : Value) (x : Operand) (ho : o.op = .index T (.const s) x) (v : Value)
    (hv : ∀ w, (Instr.index T s (a.eval x)).run P w = .ok v w) (h : wpList P ops Q rest (a.put o.dst v) w) : wpList P ops Q (o :: rest) a w := by
  refine wpList_plain hgd fun K hK => ?_
  have e : a.eval (.const s) = s := rfl
  unfold Oper.wp execOp
  simp only [ho, e, Sem.run_bind, hv, Result.andThen_ok, Sem.run_pure]
  exact hK _ _ h
def cnt (n B : Nat) : Nat := (mem n B).length
theorem len_arith (x : Int) (b : Nat) (h0 : 0 ≤ x) (y : Int) (hy : y.toNat = x.toNat / 2 ^ b) (hne : y ≠ 0) (h1 : 0 ≤ y) (h2 : y < 256) (hb : b ≤ 24) : wrap64 ((b : Int) + wrap64 (bitLen y.toNat : Int)) = (bitLen x.toNat : Int) := by
  have h3 := bitLen_le8 y.toNat (by omega)
  have h4 := bitLen_shift x.toNat b (by rw [← hy]; omega)
  rw [IntWalk.wrap64_in (bitLen y.toNat : Int) (by omega), IntWalk.wrap64_in _ (by omega)]
  rw [← hy] at h4
  omega
set_option maxRecDepth 100000 in
theorem len32_any (x : Int) (w : World) (h0 : 0 ≤ x) (h1 : x ≤ 4294967295) :
    Calls Tryz.prog 108 #[.int .u32 x] w fun e w' => e = .returned (.int .i64 (bitLen x.toNat : Int)) ∧ w = w' := by
  go_enter Tryz.func108, Tryz.ntmps108
  go_wp2_with fail
  · go_ret
    refine ⟨ret_int ?_, rfl⟩
    rw [len8tab_get]
    exact len_arith x 24 h0 (x / 65536 / 256) (by omega) (by omega) (by omega) (by omega) (by omega)
  · go_ret
    refine ⟨ret_int ?_, rfl⟩
    rw [len8tab_get]
    exact len_arith x 16 h0 (x / 65536) (by omega) (by omega) (by omega) (by omega) (by omega)
  · go_ret
    refine ⟨ret_int ?_, rfl⟩
    rw [len8tab_get]
    exact len_arith x 8 h0 (x / 256) (by omega) (by omega) (by omega) (by omega) (by omega)
  · go_ret
    refine ⟨ret_int ?_, rfl⟩
    rw [len8tab_get]
    have := bitLen_le8 x.toNat (by omega)
    rw [IntWalk.wrap64_in (bitLen x.toNat : Int) (by omega), IntWalk.wrap64_in _ (by omega)]
end Go.Proofs.YtpdcpaoabalgcaaGreatDoor.Dm

namespace Go.Proofs.YtpdcpaoabalgcaaGreatDoor.Dm
open Go.RowKit
set_option linter.unusedVariables false
theorem wraps_u32 (n : Int) (h₀ : 0 ≤ n) (h₁ : n < 2 ^ 32) : IntKind.u32.wrap n = n := by rw [IntKind.wrap_u32]; omega
theorem and255 (x : Int) (h0 : 0 ≤ x) (h1 : x < 4294967296) : bits .and .u32 x 255 = x % 256 := bits_mask .u32 32 (by decide) wraps_u32 8 (by decide) x h0 h1
theorem cnt_le (n B : Nat) : cnt n B ≤ n := by
  unfold cnt mem
  have := List.length_filter_le (fun v => B.testBit v) (List.range n)
  simpa using this
theorem cnt_add (m n B : Nat) : cnt (m + n) B = cnt m B + cnt n (B / 2 ^ m) := by
  unfold cnt mem
  rw [List.range_add, List.filter_append, List.length_append, List.filter_map, List.length_map]
  congr 2
  apply List.filter_congr
  intro i _
  show B.testBit (m + i) = (B / 2 ^ m).testBit i
  rw [Nat.testBit_div_two_pow, Nat.add_comm]
theorem cnt_mod (B : Nat) : cnt 8 (B % 256) = cnt 8 B := by
  unfold cnt mem
  congr 1
  apply List.filter_congr
  intro i hi
  rw [show 256 = 2 ^ 8 by decide, Nat.testBit_mod_two_pow]
  simp at hi
  simp [hi]
theorem cnt32 (B : Nat) : cnt 32 B = cnt 8 (B / 16777216) + cnt 8 (B / 65536 % 256) + cnt 8 (B / 256 % 256) + cnt 8 (B % 256) := by
  rw [cnt_mod, cnt_mod, cnt_mod]
  have h1 := cnt_add 24 8 B
  have h2 := cnt_add 16 8 B
  have h3 := cnt_add 8 8 B
  have e1 : 2 ^ 24 = 16777216 := by decide
  have e2 : 2 ^ 16 = 65536 := by decide
  have e3 : 2 ^ 8 = 256 := by decide
  rw [e1] at h1
  rw [e2] at h2
  rw [e3] at h3
  have h1' : cnt 32 B = cnt 24 B + cnt 8 (B / 16777216) := h1
  have h2' : cnt 24 B = cnt 16 B + cnt 8 (B / 65536) := h2
  have h3' : cnt 16 B = cnt 8 B + cnt 8 (B / 256) := h3
  omega
theorem cnt_far {k B : Nat} (hk : k ≤ 32) (hB : B < 2 ^ k) : cnt 32 B = cnt k B := by
  obtain ⟨d, hd⟩ : ∃ d, 32 = k + d := ⟨32 - k, by omega⟩
  rw [hd, cnt_add, Nat.div_eq_of_lt hB]
  have : cnt d 0 = 0 := by
    unfold cnt mem
    rw [List.filter_eq_nil_iff.2 (by simp)]
    rfl
  omega
/-! trailing zeros -/
/-- B is 2 ^ t times an odd number. -/
def TZ (B t : Nat) : Prop := ∃ q, B = 2 ^ t * (2 * q + 1)
theorem tz_ex : ∀ B : Nat, B ≠ 0 → ∃ t, TZ B t := by
  intro B
  induction B using Nat.strongRecOn with
  | ind B ih =>
    intro h
    by_cases ho : B % 2 = 1
    · exact ⟨0, B / 2, by omega⟩
    · obtain ⟨t, q, hq⟩ := ih (B / 2) (by omega) (by omega)
      refine ⟨t + 1, q, ?_⟩
      rw [Nat.pow_succ, Nat.mul_comm (2 ^ t) 2, Nat.mul_assoc, ← hq]
      omega
theorem tz_bit {B t : Nat} (h : TZ B t) : B.testBit t = true := by
  obtain ⟨q, rfl⟩ := h
  have := Nat.testBit_two_pow_mul_add (2 * q + 1) (Nat.two_pow_pos t) t
  rw [Nat.add_zero] at this
  rw [this, if_neg (by omega), Nat.sub_self, Nat.testBit_zero]
  simp
theorem tz_low {B t i : Nat} (h : TZ B t) (hi : i < t) : B.testBit i = false := by
  obtain ⟨q, rfl⟩ := h
  have := Nat.testBit_two_pow_mul_add (2 * q + 1) (Nat.two_pow_pos t) i
  rw [Nat.add_zero] at this
  rw [this, if_pos hi, Nat.zero_testBit]
theorem tz_pred {B t i : Nat} (h : TZ B t) : (B - 1).testBit i = if i < t then true else if i = t then false else B.testBit i := by
  obtain ⟨q, rfl⟩ := h
  have hp := Nat.two_pow_pos t
  have e : 2 ^ t * (2 * q + 1) - 1 = 2 ^ t * (2 * q) + (2 ^ t - 1) := by rw [Nat.mul_add]; omega
  have h1 := Nat.testBit_two_pow_mul_add (2 * q) (show 2 ^ t - 1 < 2 ^ t by omega) i
  have h2 := Nat.testBit_two_pow_mul_add (2 * q + 1) hp i
  rw [Nat.add_zero] at h2
  rw [e, h1, h2]
  by_cases hi : i < t
  · rw [if_pos hi, if_pos hi, Nat.testBit_two_pow_sub_one]; simp [hi]
  · rw [if_neg hi, if_neg hi, if_neg hi]
    by_cases ht : i = t
    · subst ht
      rw [if_pos rfl, Nat.sub_self, Nat.testBit_zero]
      simp
    · rw [if_neg ht]
      obtain ⟨d, hd⟩ : ∃ d, i - t = d + 1 := ⟨i - t - 1, by omega⟩
      rw [hd, Nat.testBit_succ, Nat.testBit_succ, show 2 * q / 2 = q by omega, show (2 * q + 1) / 2 = q by omega]
theorem tz_and {B t : Nat} (h : TZ B t) (hB : B < 4294967296) : B &&& (4294967296 - B) = 2 ^ t := by
  have h0 : B ≠ 0 := by
    obtain ⟨q, rfl⟩ := h
    have := Nat.mul_pos (Nat.two_pow_pos t) (show 0 < 2 * q + 1 by omega)
    omega
  apply Nat.eq_of_testBit_eq
  intro i
  have e : 4294967296 - B = 4294967295 - (B - 1) := by omega
  rw [Nat.testBit_and, e, testBit_not _ _ (by omega), tz_pred h, Nat.testBit_two_pow]
  by_cases hi : i < t
  · rw [tz_low h hi, if_pos hi]
    simp
    omega
  · rw [if_neg hi]
    by_cases ht : i = t
    · subst ht
      have h32 : i < 32 := by
        rcases Nat.lt_or_ge i 32 with h1 | h1
        · exact h1
        · have := Nat.testBit_lt_two_pow (x := B) (i := i) (Nat.lt_of_lt_of_le hB (by
            have := Nat.pow_le_pow_right (n := 2) (by omega) h1
            simpa using this))
          rw [tz_bit h] at this
          cases this
      rw [tz_bit h, if_pos rfl]
      simp [h32]
    · rw [if_neg ht]
      have : ¬ t = i := by omega
      cases B.testBit i <;> simp [this]
theorem tz_lt {B t k : Nat} (h : TZ B t) (hB : B < 2 ^ k) : t < k := by
  rcases Nat.lt_or_ge t k with h1 | h1
  · exact h1
  · have := testBit_far hB h1
    rw [tz_bit h] at this
    cases this
end Go.Proofs.YtpdcpaoabalgcaaGreatDoor.Dm

namespace Go.Proofs.YtpdcpaoabalgcaaGreatDoor.Dm
open Go.RowKit
set_option linter.unusedVariables false
def debL : List Int := [0, 1, 28, 2, 29, 14, 24, 3, 30, 22, 20, 15, 25, 17, 4, 8, 31, 27, 13, 23, 21, 19, 16, 7, 26, 12, 18, 6, 11, 5, 10, 9]
def Tab (w : World) : Prop := ∀ i, i < 32 → w.cell? ⟨0, i, none⟩ = some (.int .u8 (debL.getD i 0))
theorem Tab.pos {w : World} (h : Tab w) : 0 < w.heap.size := World.block_lt_of_cell? w ⟨0, 0, none⟩ (h 0 (by omega))
theorem Tab.below {w w' : World} {B : Nat} (h : Tab w) (hb : Below B w w') (hB : 0 < B) : Tab w' := fun i hi => (hb.cell (p := ⟨0, i, none⟩) hB).trans (h i hi)
theorem Tab.next {w w' : World} (h : Tab w) (hb : Below w.heap.size w w') : Tab w' := h.below hb h.pos
theorem deb_all : ∀ t : Fin 32, debL.getD (2 ^ t.val * 125613361 % 4294967296 / 134217728) 0 = (t.val : Int) := by decide +kernel
theorem deb_cell {w : World} (h : Tab w) {B t : Nat} (ht : TZ B t) (h0 : B ≠ 0) (hB : B < 4294967296) (x : Int) (hx : x = B) :
    w.cell? ⟨0, (bits BinOp.and IntKind.u32 x (-x % 4294967296) * 125613361 % 4294967296 / 134217728).toNat, none⟩ = some (.int .u8 (t : Int)) := by
  have t32 : t < 32 := tz_lt ht (by simpa using hB)
  have e1 : -x % 4294967296 = ((4294967296 - B : Nat) : Int) := by omega
  rw [e1, hx, bits_and B _ hB (by omega), tz_and ht hB]
  have e2 : (((2 ^ t : Nat) : Int) * 125613361 % 4294967296 / 134217728).toNat = 2 ^ t * 125613361 % 4294967296 / 134217728 := by
    generalize 2 ^ t = p
    have e3 : ((p * 125613361 % 4294967296 / 134217728 : Nat) : Int) = (p : Int) * 125613361 % 4294967296 / 134217728 := by rw [Int.natCast_ediv, Int.natCast_emod, Int.natCast_mul]; rfl
    rw [← e3, Int.toNat_natCast]
  rw [e2, h _ (by omega)]
  rw [deb_all ⟨t, t32⟩]
theorem tz_any (x : Int) (B t : Nat) (w : World) (hx : x = B) (hw : Tab w) (ht : TZ B t) (h0 : B ≠ 0) (hB : B < 4294967296) :
    Calls Tryz.prog 112 #[.int .u32 x] w fun e w' => e = .returned (.int .i64 (t : Int)) ∧ w = w' := by
  have hc := deb_cell hw ht h0 hB x hx
  have t32 : t < 32 := tz_lt ht (by simpa using hB)
  have hx0 : 0 ≤ x := by omega
  have hx1 : x ≤ 4294967295 := by omega
  have hx2 : (x == 0) = false := by rw [beq_eq_false_iff_ne]; omega
  clear hx hB ht h0 hw
  go_enter Tryz.func112, Tryz.ntmps112
  go_wp2
  go_ret
  exact ⟨rfl, rfl⟩
/-- The first value of a set, the last one, and the first above n; -1: there is none. -/
def firstI (k B : Nat) : Int := match (List.range k).find? (fun v => B.testBit v) with
  | some x => x
  | none => -1
def lastI (B : Nat) : Int := (bitLen B : Int) - 1
theorem first_none (k : Nat) : firstI k 0 = -1 := by
  unfold firstI
  rw [List.find?_eq_none.2 (by simp)]
theorem first_some {k B t : Nat} (h : TZ B t) (hB : B < 2 ^ k) : firstI k B = t := by
  unfold firstI
  have : (List.range k).find? (fun v => B.testBit v) = some t := by
    rw [List.find?_range_eq_some]
    refine ⟨tz_bit h, by simpa using tz_lt h hB, fun j hj => by rw [tz_low h hj]; rfl⟩
  rw [this]
theorem first_any (k B : Nat) (w : World) (hw : Tab w) (hk : k ≤ 32) (hB : B < 2 ^ k) :
    Calls Tryz.prog 97 #[setV k B] w fun e w' => e = .returned (.int .i64 (firstI k B)) ∧ Below w.heap.size w w' := by
  by_cases h0 : B = 0
  · subst h0
    rw [first_none]
    clear hB
    go_enter Tryz.func97, Tryz.ntmps97
    go_wp2
    go_ret
    exact ⟨rfl, by go_grown⟩
  · obtain ⟨t, ht⟩ := tz_ex B h0
    have hl := lt_of_fits hk hB
    rw [first_some ht hB]
    have T := Lib.hid (fun W (hW : Tab W) => tz_any (B : Int) B t W rfl hW ht h0 hl)
    have h1 : ((B : Int) == 0) = false := by rw [beq_eq_false_iff_ne]; omega
    have hw1 : Hid (∀ o, Tab (w.alloc o)) := Lib.hid fun o => hw.next ((Below.refl _ _).alloc (Nat.le_refl _) o)
    clear hB ht h0 hl hw
    go_enter Tryz.func97, Tryz.ntmps97
    go_wp2_with (go_at_call 112; refine (T.out _ (hw1.out _)).mono ?_; rintro e w' ⟨rfl, rfl⟩)
    go_ret
    exact ⟨rfl, by go_grown⟩
theorem next_low (k B : Nat) (v : Int) (w : World) (hw : Tab w) (hk : k ≤ 32) (hB : B < 2 ^ k) (hv : v < 0) :
    Calls Tryz.prog 98 #[setV k B, .int .i64 v] w fun e w' => e = .returned (.int .i64 (firstI k B)) ∧ Below w.heap.size w w' := by
  have hw1 : Hid (∀ o, Tab (w.alloc o)) := Lib.hid fun o => hw.next ((Below.refl _ _).alloc (Nat.le_refl _) o)
  have T := Lib.hid (fun W (hW : Tab W) => first_any k B W hW hk hB)
  clear hB hw
  go_enter Tryz.func98, Tryz.ntmps98
  go_wp2_with (go_at_call 97; refine (T.out _ (hw1.out _)).mono ?_; rintro e w' ⟨rfl, hb⟩)
  go_ret
  exact ⟨rfl, ((Below.refl w.heap.size w).alloc (Nat.le_refl _) _).trans (hb.mono (by simp))⟩
theorem next_high (k B : Nat) (v : Int) (w : World) (hv : (k : Int) ≤ v) :
    Calls Tryz.prog 98 #[setV k B, .int .i64 v] w fun e w' => e = .returned (.int .i64 (-1)) ∧ Below w.heap.size w w' := by
  have h0 : ¬ v < 0 := by omega
  go_enter Tryz.func98, Tryz.ntmps98
  go_wp2_with (go_at_call 113; refine (fits_no _ _ _ _ (.inr hv)).mono ?_; rintro e w' ⟨rfl, rfl⟩)
  go_ret
  exact ⟨rfl, by go_grown⟩
theorem next_mid (k B v : Nat) (w : World) (hw : Tab w) (hk : k ≤ 32) (hB : B < 2 ^ k) (hv : v < k) :
    Calls Tryz.prog 98 #[setV k B, .int .i64 (v : Int)] w fun e w' => e = .returned (.int .i64 (firstI k (aboveN B (v + 1)))) ∧ Below w.heap.size w w' := by
  have F := Lib.hid (fun W => fits_yes k B v W hv)
  have L := Lib.hid (fun W => below_any (v + 1) W (by omega))
  have E := Lib.hid (bits_above B (v + 1) (lt_of_fits hk hB) (by omega))
  have T := Lib.hid (fun W (hW : Tab W) => first_any k (aboveN B (v + 1)) W hW hk (above_fits hk hB (by omega)))
  have e1 : ((v + 1 : Nat) : Int) = (v : Int) + 1 := by omega
  rw [e1] at L
  clear e1
  generalize aboveN B (v + 1) = b at E T ⊢
  generalize 2 ^ (v + 1) - 1 = p at L E
  clear hB
  go_enter Tryz.func98, Tryz.ntmps98
  go_wp2_with (go_at_call 113; refine (F.out _).mono ?_; rintro e w' ⟨rfl, rfl⟩)
  have ew : IntKind.i64.wrap ((v : Int) + 1) = (v : Int) + 1 := IntWalk.i64_in _ (by omega)
  first | go_region_with (go_at_call 63; refine (L.out _).mono ?_; rintro e w' ⟨rfl, rfl⟩) | fail
  all_goals
    clear ew
    go_wp2_with fail
    rw [E.out]
    refine (T.out _ (hw.next (by go_grown))).mono ?_
    rintro e w' ⟨rfl, hb⟩
    go_wp2
    go_ret
    exact ⟨rfl, Below.trans (by go_grown) (hb.mono (by simp; omega))⟩
end Go.Proofs.YtpdcpaoabalgcaaGreatDoor.Dm

namespace Go.Proofs.YtpdcpaoabalgcaaGreatDoor.Dm
open Go.RowKit
set_option linter.unusedVariables false
def headI : List Nat → Int
  | [] => -1
  | x :: _ => x
theorem firstI_head (k B : Nat) : firstI k B = headI (mem k B) := by
  unfold firstI mem
  rw [← List.head?_filter]
  cases (List.range k).filter fun v => B.testBit v <;> rfl
theorem mem_lt (k B : Nat) : (mem k B).Pairwise (· < ·) := List.Pairwise.filter _ List.pairwise_lt_range
theorem mem_above {k B n : Nat} (hk : k ≤ 32) (hB : B < 2 ^ k) (hn : n ≤ 32) : mem k (aboveN B n) = (mem k B).filter (fun x => decide (n ≤ x)) := by
  unfold mem
  rw [List.filter_filter]
  apply List.filter_congr
  intro i _
  rw [testBit_above _ _ _ (lt_of_fits hk hB) hn, Bool.and_comm]
theorem mem_split {k B x : Nat} {pre rest : List Nat} (hk : k ≤ 32) (hB : B < 2 ^ k) (h : mem k B = pre ++ x :: rest) : mem k (aboveN B (x + 1)) = rest := by
  have hx : x < k := by
    have : x ∈ mem k B := by rw [h]; simp
    exact (mem_mem.1 this).1
  rw [mem_above hk hB (by omega), h]
  have hp := mem_lt k B
  rw [h, List.pairwise_append] at hp
  obtain ⟨_, h2, h3⟩ := hp
  rw [List.pairwise_cons] at h2
  rw [List.filter_append, List.filter_cons, if_neg (by simp)]
  rw [List.filter_eq_nil_iff.2 (fun a ha => by have := h3 a ha x (by simp); simp; omega)]
  rw [List.filter_eq_self.2 (fun a ha => by have := h2.1 a ha; simp; omega)]
  rfl
theorem mem_len {k B : Nat} (hk : k ≤ 32) : (mem k B).length ≤ 32 := by
  have := List.length_filter_le (fun v => B.testBit v) (List.range k)
  unfold mem
  simp only [List.length_range] at this
  omega
end Go.Proofs.YtpdcpaoabalgcaaGreatDoor.Dm

namespace Go.Proofs.YtpdcpaoabalgcaaGreatDoor.Dm
open Go.RowKit Go.Shelf
set_option linter.unusedVariables false
attribute [local go_sem] Oper.semAt_some
def left (v : Value) : Nat := if intOf v < 0 then 0 else 33 - (intOf v).toNat
theorem left_nat (x : Nat) : left (.int .i64 (x : Int)) = 33 - x := by
  show (if (x : Int) < 0 then 0 else 33 - ((x : Int)).toNat) = 33 - x
  rw [if_neg (by omega), Int.toNat_natCast]
theorem left_lt (k B x : Nat) (pre rest : List Nat) (hk : k ≤ 32) (h : mem k B = pre ++ x :: rest) : left (.int .i64 (headI rest)) < left (.int .i64 (x : Int)) := by
  have hx : x < k := by
    have : x ∈ mem k B := by rw [h]; simp
    exact (mem_mem.1 this).1
  cases rest with
  | nil =>
    show 0 < left (.int .i64 (x : Int))
    rw [left_nat]
    omega
  | cons y r =>
    have hy : y < k := by
      have : y ∈ mem k B := by rw [h]; simp
      exact (mem_mem.1 this).1
    have hxy : x < y := by
      have hp := mem_lt k B
      rw [h, List.pairwise_append] at hp
      exact (List.pairwise_cons.1 hp.2.1).1 y (by simp)
    show left (.int .i64 (y : Int)) < _
    rw [left_nat, left_nat]
    omega
theorem grown_below {W W' : World} (h : Below W.heap.size W W') : W.grownBy W' none := ⟨h.os, h.tape, h.output, h.size, fun k hk _ => h.block k hk⟩
theorem values_any (k B : Nat) (w : World) :
    Calls Tryz.prog 83 #[setV k B] w fun e w' => e = .returned (.func (.func 96) #[] #[.pointer (some ⟨w.heap.size, 0, none⟩)]) ∧ w' = w.alloc (setO k B) := by
  go_enter Tryz.func83, Tryz.ntmps83
  go_wp2
  go_ret
  exact ⟨rfl, rfl⟩
set_option maxRecDepth 100000 in
set_option maxHeartbeats 1000000 in
theorem iter_in (n : Nat) (hn : 1 ≤ n) (l Bn n₀ k B : Nat) (hk : k ≤ 32) (hB : B < 2 ^ k) (J Jx : List Nat → World → Prop) (W : World)
    (hJ : AbidesFrom W.heap.size J)
    (hY : ∀ pre x W1, J pre W1 → pre.length < (mem k B).length → YieldAt Fence.wide (n - 1) Tryz.prog l #[.int .i64 ((x : Nat) : Int)] W1 fun e W' =>
      (e = .returned (.bool true) ∧ J (pre ++ [x]) W' ∧ Below n₀ W1 W') ∨ (e = .returned (.bool false) ∧ Jx (pre ++ [x]) W'))
    (hBn : Bn < n₀) (hn₀ : n₀ ≤ W.heap.size) (hT : Tab W) (hc0 : W.cell? ⟨Bn, 0, none⟩ = some (.int .i64 (k : Int))) (hc1 : W.cell? ⟨Bn, 1, none⟩ = some (.int .u32 (B : Int))) (h0 : J [] W) :
    CallsIn Fence.wide n Tryz.prog 96 #[.func (.yield l) #[] #[], .pointer (some ⟨Bn, 0, none⟩)] W fun e W' => (∃ v, e = .returned v) ∧
      ((∃ ys, ys = mem k B ∧ J ys W') ∨ (∃ pre, pre <+: mem k B ∧ Jx pre W')) := by
  have HF := Lib.hid (fun W hW => first_any k B W hW hk hB)
  have HT := Lib.hid hT
  rw [firstI_head] at HF
  refine callsIn_of_wp Tryz.func96 rfl trivial ?_ rfl
  simp only [Tryz.ntmps96, List.size_toArray, List.length_cons, List.length_nil, Nat.reduceAdd, Nat.reduceSub, Array.replicate_succ, Array.replicate_zero, List.push_toArray, List.append_toArray, List.nil_append, List.cons_append]
  gi_wp2_with (refine ⟨trivial, ?_⟩; gi_at_call 97; refine (callsIn_wide.2 (HF.out _ HT.out)).mono ?_; rintro e W1 ⟨rfl, hb⟩)
  have hJ1 := Lib.hid (hJ _ _ _ _ h0 (grown_below hb) (fun r e => by cases e))
  have hB1 := Lib.hid (hb.mono hn₀)
  have HC0 := Lib.hid hc0
  have HC1 := Lib.hid hc1
  have HY := Lib.hid hY
  have HJ := Lib.hid hJ
  clear h0 hb hT hc0 hc1 hY hJ
  gi_loopw [3] (fun p wr => ∃ (pre rest : List Nat), p = .int .i64 (headI rest) ∧ mem k B = pre ++ rest ∧ J pre wr ∧ Below n₀ W wr) (fun p _ => left p)
  case atStart => exact ⟨[], mem k B, rfl, rfl, hJ1.out, hB1.out⟩
  case round =>
    obtain ⟨pre, rest, rfl, hx, hJs, hBs⟩ := hrel
    have HX := Lib.hid hx
    have HJs := Lib.hid hJs
    have HBs := Lib.hid hBs
    clear hx hJs hBs
    cases rest with
    | nil =>
      have e1 : headI [] = -1 := rfl
      rw [e1]
      clear e1
      gi_wp2
      go_end0
      exact ⟨⟨_, rfl⟩, .inl ⟨pre, by rw [HX.out, List.append_nil], HJs.out⟩⟩
    | cons x rest =>
      have e1 : headI (x :: rest) = (x : Int) := rfl
      rw [e1]
      clear e1
      obtain ⟨fn, tmps, assign, body, hy, hR⟩ := HY.out pre x wr HJs.out (by rw [HX.out]; simp)
      gi_wp2
      refine hR.mono ?_
      rintro e W3 (⟨rfl, hJ3, hk3⟩ | ⟨rfl, hJx3⟩)
      · have hBW := HBs.out.trans hk3
        have f0 : W3.cell? ⟨Bn, 0, none⟩ = some (.int .i64 (k : Int)) := (hBW.cell (p := ⟨Bn, 0, none⟩) hBn).trans HC0.out
        have f1 : W3.cell? ⟨Bn, 1, none⟩ = some (.int .u32 (B : Int)) := (hBW.cell (p := ⟨Bn, 1, none⟩) hBn).trans HC1.out
        have hxk : x < k := by
          have : x ∈ mem k B := by rw [HX.out]; simp
          exact (mem_mem.1 this).1
        have HN := Lib.hid (next_mid k B x W3 (HT.out.below hBW (by omega)) hk hB hxk)
        rw [firstI_head, mem_split hk hB HX.out] at HN
        have HJ3 := Lib.hid hJ3
        have HBW := Lib.hid hBW
        have hz3 := hBW.size
        have hz4 := hk3.size
        have hlt := left_lt k B x pre rest hk HX.out
        clear hJ3 hBW hk3 hy hR
        gi_wp2_with (refine ⟨trivial, ?_⟩; gi_at_call 98; refine (callsIn_wide.2 HN.out).mono ?_; rintro e W4 ⟨rfl, hb4⟩)
        go_roundw
        case rel => exact ⟨pre ++ [x], rest, rfl, by rw [HX.out, List.append_assoc]; rfl, HJ.out _ _ _ _ HJ3.out (grown_below hb4) (fun r e => by cases e), HBW.out.trans (hb4.mono (by omega))⟩
        case measure => exact hlt
      · gi_wp2
        refine bodyPost_ret (results_none rfl _ _ _) rfl ?_
        exact ⟨⟨_, rfl⟩, .inr ⟨pre ++ [x], ⟨rest, by rw [HX.out, List.append_assoc]; rfl⟩, hJx3⟩⟩
theorem iter_stops (n : Nat) (hn : 1 ≤ n) (Bn n₀ k B : Nat) (hk : k ≤ 32) (hB : B < 2 ^ k) (w : World) (hBn : Bn < n₀) (hn₀ : n₀ ≤ w.heap.size) (hT : Tab w)
    (hc0 : w.cell? ⟨Bn, 0, none⟩ = some (.int .i64 (k : Int))) (hc1 : w.cell? ⟨Bn, 1, none⟩ = some (.int .u32 (B : Int))) :
    SeqStopsK Fence.wide n Tryz.prog 96 #[.pointer (some ⟨Bn, 0, none⟩)] (fun x : Nat => #[Value.int .i64 (x : Int)]) (Below n₀) (fun ys => ys = mem k B) (fun pre => pre <+: mem k B) (mem k B).length w := fun l J Jx W hW hJ _ hY h0 =>
  iter_in n hn l Bn n₀ k B hk hB J Jx W hJ hY hBn (by have := hW.size; omega) (hT.next hW) ((hW.cell (p := ⟨Bn, 0, none⟩) (by show Bn < w.heap.size; omega)).trans hc0) ((hW.cell (p := ⟨Bn, 1, none⟩) (by show Bn < w.heap.size; omega)).trans hc1) h0
end Go.Proofs.YtpdcpaoabalgcaaGreatDoor.Dm
