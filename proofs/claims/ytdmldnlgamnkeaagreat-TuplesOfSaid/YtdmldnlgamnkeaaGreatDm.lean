/- Texts of this seat laid together (no statement of its own). -/
import Derived.Laws.BitsAllLaws
import Derived.Laws.BitsLemmas
import Derived.Test.YtdmldnlgamnkeaaGreatRows
import Derived.WalkKit
import Derived.WalkLawsBesides
import Derived.Lib.Hide
import Derived.Handy
import Derived.IntWalk
import Derived.BigQuiet
import Derived.Deep.QuietTactic
import Derived.Deep.RegionWith
import Derived.Laws.MathBits
import Derived.RangeFuncBox
import Derived.RangeFuncLeaves
import Derived.Shelf.Abstract
import Derived.OwnWalkIn
import Derived.TacticsInMore
import Derived.LoopNIn
import Derived.LoopIn
import Derived.Maps.AppendAt
namespace Go.Proofs.YtdmldnlgamnkeaaGreat.Dm
open Go
set_option linter.unusedVariables false
def mem (k B : Nat) : List Nat := (List.range k).filter fun v => B.testBit v
def dropN (B v : Nat) : Nat := B &&& (4294967295 - 2 ^ v)
def putN (B v : Nat) : Nat := B ||| 2 ^ v
def aboveN (B n : Nat) : Nat := B &&& (4294967295 - (2 ^ n - 1))
theorem pow_lt (v : Nat) (h : v < 32) : 2 ^ v < 4294967296 := by
  have := Nat.pow_lt_pow_right (a := 2) (by omega) h
  simpa using this
theorem pow_le (v : Nat) (h : v ≤ 32) : 2 ^ v ≤ 4294967296 := by
  have := Nat.pow_le_pow_right (n := 2) (by omega) h
  simpa using this
theorem lt_of_fits {k B : Nat} (hk : k ≤ 32) (hB : B < 2 ^ k) : B < 4294967296 := Nat.lt_of_lt_of_le hB (pow_le k hk)
theorem testBit_not (m i : Nat) (h : m < 4294967296) : (4294967295 - m).testBit i = (decide (i < 32) && !m.testBit i) := by
  have := Nat.testBit_two_pow_sub_succ (n := 32) (x := m) (by simpa using h) i
  rw [← this]
  have e : (2 : Nat) ^ 32 = 4294967296 := by decide
  rw [e]
  congr 1
  omega
theorem testBit_drop (B v i : Nat) (hB : B < 4294967296) (hv : v < 32) : (dropN B v).testBit i = (B.testBit i && decide (i ≠ v)) := by
  unfold dropN
  rw [Nat.testBit_and, testBit_not _ _ (pow_lt v hv), Nat.testBit_two_pow]
  by_cases hi : i < 32
  · by_cases e : v = i <;> simp [hi, e] <;> omega
  · have : B.testBit i = false := Nat.testBit_lt_two_pow (Nat.lt_of_lt_of_le hB (by
      have := Nat.pow_le_pow_right (n := 2) (by omega) (show 32 ≤ i by omega)
      simpa using this))
    simp [this]
theorem testBit_put (B v i : Nat) : (putN B v).testBit i = (B.testBit i || decide (i = v)) := by
  unfold putN
  rw [Nat.testBit_or, Nat.testBit_two_pow]
  congr 1
  simp only [decide_eq_decide]
  omega
theorem testBit_above (B n i : Nat) (hB : B < 4294967296) (hn : n ≤ 32) : (aboveN B n).testBit i = (B.testBit i && decide (n ≤ i)) := by
  unfold aboveN
  have h1 : 2 ^ n - 1 < 4294967296 := by have := pow_le n hn; have := Nat.pos_of_ne_zero (Nat.ne_of_gt (Nat.two_pow_pos n)); omega
  rw [Nat.testBit_and, testBit_not _ _ h1, Nat.testBit_two_pow_sub_one]
  by_cases hi : i < 32
  · by_cases e : i < n <;> simp [hi, e] <;> omega
  · have : B.testBit i = false := Nat.testBit_lt_two_pow (Nat.lt_of_lt_of_le hB (by
      have := Nat.pow_le_pow_right (n := 2) (by omega) (show 32 ≤ i by omega)
      simpa using this))
    simp [this]
theorem fits_of_testBit {k B : Nat} (h : ∀ i, k ≤ i → B.testBit i = false) : B < 2 ^ k := Nat.lt_pow_two_of_testBit B h
theorem testBit_far {k B : Nat} (hB : B < 2 ^ k) {i : Nat} (hi : k ≤ i) : B.testBit i = false :=
  Nat.testBit_lt_two_pow (Nat.lt_of_lt_of_le hB (Nat.pow_le_pow_right (by omega) hi))
theorem drop_fits {k B v : Nat} (hk : k ≤ 32) (hB : B < 2 ^ k) (hv : v < k) : dropN B v < 2 ^ k :=
  fits_of_testBit fun i hi => by rw [testBit_drop _ _ _ (lt_of_fits hk hB) (by omega), testBit_far hB hi]; rfl
theorem put_fits {k B v : Nat} (hB : B < 2 ^ k) (hv : v < k) : putN B v < 2 ^ k :=
  fits_of_testBit fun i hi => by rw [testBit_put, testBit_far hB hi]; simp; omega
theorem above_fits {k B n : Nat} (hk : k ≤ 32) (hB : B < 2 ^ k) (hn : n ≤ 32) : aboveN B n < 2 ^ k :=
  fits_of_testBit fun i hi => by rw [testBit_above _ _ _ (lt_of_fits hk hB) hn, testBit_far hB hi]; rfl
theorem and_fits {k B C : Nat} (hB : B < 2 ^ k) : B &&& C < 2 ^ k :=
  fits_of_testBit fun i hi => by rw [Nat.testBit_and, testBit_far hB hi]; rfl
theorem bit_fits {k v : Nat} (hv : v < k) : 2 ^ v < 2 ^ k := Nat.pow_lt_pow_right (by omega) hv
/-! the walk's own words for them -/
theorem bits_or (B v : Nat) (hB : B < 4294967296) (hv : v < 32) : bits .or .u32 (B : Int) ((2 ^ v : Nat) : Int) = (putN B v : Int) := u32_or_nat B (2 ^ v) hB (pow_lt v hv)
theorem bits_drop (B v : Nat) (hB : B < 4294967296) (hv : v < 32) : bits .andNot .u32 (B : Int) ((2 ^ v : Nat) : Int) = (dropN B v : Int) := u32_andNot_nat B (2 ^ v) hB (pow_lt v hv)
theorem bits_above (B n : Nat) (hB : B < 4294967296) (hn : n ≤ 32) : bits .andNot .u32 (B : Int) ((2 ^ n - 1 : Nat) : Int) = (aboveN B n : Int) :=
  u32_andNot_nat B (2 ^ n - 1) hB (by have := pow_le n hn; have := Nat.two_pow_pos n; omega)
theorem bits_and (B C : Nat) (hB : B < 4294967296) (hC : C < 4294967296) : bits .and .u32 (B : Int) (C : Int) = ((B &&& C : Nat) : Int) := u32_and_nat B C hB hC
theorem and_bit_no (B v : Nat) (h : B.testBit v = false) : B &&& 2 ^ v = 0 := by
  apply Nat.eq_of_testBit_eq
  intro i
  rw [Nat.testBit_and, Nat.testBit_two_pow, Nat.zero_testBit]
  by_cases e : v = i
  · subst e; simp [h]
  · simp [e]
theorem and_bit_yes (B v : Nat) (h : B.testBit v = true) : B &&& 2 ^ v = 2 ^ v := by
  apply Nat.eq_of_testBit_eq
  intro i
  rw [Nat.testBit_and, Nat.testBit_two_pow]
  by_cases e : v = i
  · subst e; simp [h]
  · simp [e]
theorem bits_test (B v : Nat) (hB : B < 4294967296) (hv : v < 32) : (bits .and .u32 (B : Int) ((2 ^ v : Nat) : Int) != 0) = B.testBit v := by
  rw [bits_and B _ hB (pow_lt v hv)]
  cases h : B.testBit v
  · rw [and_bit_no B v h]; rfl
  · rw [and_bit_yes B v h, bne_iff_ne]
    have := Nat.two_pow_pos v
    omega
/-! members -/
theorem mem_drop {k B v : Nat} (hk : k ≤ 32) (hB : B < 2 ^ k) (hv : v < k) : mem k (dropN B v) = (mem k B).filter (fun x => decide (x ≠ v)) := by
  unfold mem
  rw [List.filter_filter]
  apply List.filter_congr
  intro i _
  rw [testBit_drop _ _ _ (lt_of_fits hk hB) (by omega), Bool.and_comm]
theorem mem_put {k B v : Nat} : mem k (putN B v) = (List.range k).filter (fun x => B.testBit x || decide (x = v)) := by
  unfold mem
  apply List.filter_congr
  intro i _
  rw [testBit_put]
theorem mem_and {k B C : Nat} : mem k (B &&& C) = (mem k B).filter (fun x => C.testBit x) := by
  unfold mem
  rw [List.filter_filter]
  apply List.filter_congr
  intro i _
  rw [Nat.testBit_and, Bool.and_comm]
theorem mem_mem {k B v : Nat} : v ∈ mem k B ↔ v < k ∧ B.testBit v = true := by simp [mem]
theorem mem_inj {k B C : Nat} (hB : B < 2 ^ k) (hC : C < 2 ^ k) (h : mem k B = mem k C) : B = C := by
  apply Nat.eq_of_testBit_eq
  intro i
  by_cases hi : i < k
  · have : i ∈ mem k B ↔ i ∈ mem k C := by rw [h]
    rw [mem_mem, mem_mem] at this
    have h2 : B.testBit i = true ↔ C.testBit i = true := ⟨fun a => (this.1 ⟨hi, a⟩).2, fun a => (this.2 ⟨hi, a⟩).2⟩
    exact Bool.eq_iff_iff.2 h2
  · rw [testBit_far hB (by omega), testBit_far hC (by omega)]
end Go.Proofs.YtdmldnlgamnkeaaGreat.Dm

namespace Go.Proofs.YtdmldnlgamnkeaaGreat.Dm
open Go.RowKit
set_option linter.unusedVariables false
theorem ret_bool {a b : Bool} (h : a = b) : Ending.returned (.bool a) = .returned (.bool b) := by rw [h]
theorem ret_int {t : IntKind} {a b : Int} (h : a = b) : Ending.returned (.int t a) = .returned (.int t b) := by rw [h]
/-- A set of k values with the bits B; where it lies in memory. -/
abbrev setV (k B : Nat) : Value := .agg #[.int .i64 (k : Int), .int .u32 (B : Int)]
end Go.Proofs.YtdmldnlgamnkeaaGreat.Dm

namespace Go.Proofs.YtdmldnlgamnkeaaGreat.Dm
open Go.RowKit
set_option linter.unusedVariables false
end Go.Proofs.YtdmldnlgamnkeaaGreat.Dm

namespace Go.Proofs.YtdmldnlgamnkeaaGreat.Dm
open Go.RowKit
set_option linter.unusedVariables false
theorem bcell {W w1 : World} (hb : Below W.heap.size W w1) : (∀ b o, b < W.heap.size → w1.cell? ⟨b, o, none⟩ = W.cell? ⟨b, o, none⟩) ∧ (∀ b o, b < W.heap.size → w1.frozen? ⟨b, o, none⟩ = W.frozen? ⟨b, o, none⟩) :=
  ⟨fun b o h => hb.cell (p := ⟨b, o, none⟩) h, fun b o h => hb.frozen (p := ⟨b, o, none⟩) h⟩
/-- The bits of v alone, if it is in B; else none. -/
def onlyN (B v : Nat) : Nat := if B.testBit v then 2 ^ v else 0
end Go.Proofs.YtdmldnlgamnkeaaGreat.Dm

namespace Go.Proofs.YtdmldnlgamnkeaaGreat.Dm
open Go.RowKit
set_option linter.unusedVariables false
/-- Does a table of 256 bytes hold f? -/
def tabB (s : ByteArray) (f : Nat → Nat) : Bool := s.size == 256 && (List.range 256).all fun i => (s.data.getD i 0).toNat == f i
theorem tab_get {s : ByteArray} {f : Nat → Nat} (h : tabB s f = true) {i : Nat} (hi : i < 256) : ∃ h' : i < s.size, (s[i]'h').toNat = f i := by
  unfold tabB at h
  rw [Bool.and_eq_true] at h
  obtain ⟨h1, h2⟩ := h
  have hs : s.size = 256 := by simpa using h1
  have := (List.all_eq_true.1 h2) i (by simpa using hi)
  have h3 : i < s.data.size := by show i < s.size; omega
  have e : (s.data.getD i 0).toNat = f i := by simpa using this
  refine ⟨by omega, ?_⟩
  rw [← e, Array.getD_eq_getD_getElem?, Array.getElem?_eq_getElem h3]
  rfl
theorem index_tab (s : ByteArray) (f : Nat → Nat) (h : tabB s f = true) (k : IntKind) (i : Int) (n : Nat) (he : i = n) (hn : n < 256) (w : World) :
    (Instr.index 9 (.string s) (.int k i)).run Tryz.prog w = .ok (.int .u8 (f n : Int)) w := by
  subst he
  obtain ⟨h1, h2⟩ := tab_get h hn
  rw [run_index_string w 9 s k n Tryz.underlying9]
  rw [dif_pos ⟨by omega, by omega⟩]
  rw [← h2]
  rfl
theorem quiet_index {P : Program} {o : Oper} {a : Act} {C : World → Prop} {K : Act → Prop} (T : TypeId) (s : Value) (x : Operand) (ho : o.op = .index T (.const s) x) (v : Value)
    (hv : ∀ w, (Instr.index T s (a.eval x)).run P w = .ok v w) (h : K (a.put o.dst v)) : o.quiet P a C K := by
  refine ⟨v, fun w _ => ?_, h⟩
  have e : a.eval (.const s) = s := rfl
  unfold Oper.quietAt execOp
  simp only [ho, e, Sem.run_bind, hv, Result.andThen_ok, Sem.run_pure]
  exact ⟨rfl, rfl⟩
theorem wpList_index {P : Program} {ops : Array Oper} {rest : List Oper} {o : Oper} {a : Act} {w : World} {Q : Exit → Act → World → Prop} (hgd : o.guard = none) (T : TypeId) (s : Value) (x : Operand) (ho : o.op = .index T (.const s) x) (v : Value)
    (hv : ∀ w, (Instr.index T s (a.eval x)).run P w = .ok v w) (h : wpList P ops Q rest (a.put o.dst v) w) : wpList P ops Q (o :: rest) a w := by
  refine wpList_plain hgd fun K hK => ?_
  have e : a.eval (.const s) = s := rfl
  unfold Oper.wp execOp
  simp only [ho, e, Sem.run_bind, hv, Result.andThen_ok, Sem.run_pure]
  exact hK _ _ h
def cnt (n B : Nat) : Nat := (mem n B).length
theorem len_arith (x : Int) (b : Nat) (h0 : 0 ≤ x) (y : Int) (hy : y.toNat = x.toNat / 2 ^ b) (hne : y ≠ 0) (h1 : 0 ≤ y) (h2 : y < 256) (hb : b ≤ 24) : wrap64 ((b : Int) + wrap64 (bitLen y.toNat : Int)) = (bitLen x.toNat : Int) := by
  have h3 := bitLen_le8 y.toNat (by omega)
  have h4 := bitLen_shift x.toNat b (by rw [← hy]; omega)
  rw [IntWalk.wrap64_in (bitLen y.toNat : Int) (by omega), IntWalk.wrap64_in _ (by omega)]
  rw [← hy] at h4
  omega
set_option maxRecDepth 100000 in
theorem len32_any (x : Int) (w : World) (h0 : 0 ≤ x) (h1 : x ≤ 4294967295) :
    Calls Tryz.prog 83 #[.int .u32 x] w fun e w' => e = .returned (.int .i64 (bitLen x.toNat : Int)) ∧ w = w' := by
  go_enter Tryz.func83, Tryz.ntmps83
  go_wp2_with fail
  · go_ret
    refine ⟨ret_int ?_, rfl⟩
    rw [len8tab_get]
    exact len_arith x 24 h0 (x / 65536 / 256) (by omega) (by omega) (by omega) (by omega) (by omega)
  · go_ret
    refine ⟨ret_int ?_, rfl⟩
    rw [len8tab_get]
    exact len_arith x 16 h0 (x / 65536) (by omega) (by omega) (by omega) (by omega) (by omega)
  · go_ret
    refine ⟨ret_int ?_, rfl⟩
    rw [len8tab_get]
    exact len_arith x 8 h0 (x / 256) (by omega) (by omega) (by omega) (by omega) (by omega)
  · go_ret
    refine ⟨ret_int ?_, rfl⟩
    rw [len8tab_get]
    have := bitLen_le8 x.toNat (by omega)
    rw [IntWalk.wrap64_in (bitLen x.toNat : Int) (by omega), IntWalk.wrap64_in _ (by omega)]
end Go.Proofs.YtdmldnlgamnkeaaGreat.Dm

namespace Go.Proofs.YtdmldnlgamnkeaaGreat.Dm
open Go.RowKit
set_option linter.unusedVariables false
theorem wraps_u32 (n : Int) (h₀ : 0 ≤ n) (h₁ : n < 2 ^ 32) : IntKind.u32.wrap n = n := by rw [IntKind.wrap_u32]; omega
theorem and255 (x : Int) (h0 : 0 ≤ x) (h1 : x < 4294967296) : bits .and .u32 x 255 = x % 256 := bits_mask .u32 32 (by decide) wraps_u32 8 (by decide) x h0 h1
theorem cnt_le (n B : Nat) : cnt n B ≤ n := by
  unfold cnt mem
  have := List.length_filter_le (fun v => B.testBit v) (List.range n)
  simpa using this
theorem cnt_add (m n B : Nat) : cnt (m + n) B = cnt m B + cnt n (B / 2 ^ m) := by
  unfold cnt mem
  rw [List.range_add, List.filter_append, List.length_append, List.filter_map, List.length_map]
  congr 2
  apply List.filter_congr
  intro i _
  show B.testBit (m + i) = (B / 2 ^ m).testBit i
  rw [Nat.testBit_div_two_pow, Nat.add_comm]
theorem cnt_mod (B : Nat) : cnt 8 (B % 256) = cnt 8 B := by
  unfold cnt mem
  congr 1
  apply List.filter_congr
  intro i hi
  rw [show 256 = 2 ^ 8 by decide, Nat.testBit_mod_two_pow]
  simp at hi
  simp [hi]
theorem cnt32 (B : Nat) : cnt 32 B = cnt 8 (B / 16777216) + cnt 8 (B / 65536 % 256) + cnt 8 (B / 256 % 256) + cnt 8 (B % 256) := by
  rw [cnt_mod, cnt_mod, cnt_mod]
  have h1 := cnt_add 24 8 B
  have h2 := cnt_add 16 8 B
  have h3 := cnt_add 8 8 B
  have e1 : 2 ^ 24 = 16777216 := by decide
  have e2 : 2 ^ 16 = 65536 := by decide
  have e3 : 2 ^ 8 = 256 := by decide
  rw [e1] at h1
  rw [e2] at h2
  rw [e3] at h3
  have h1' : cnt 32 B = cnt 24 B + cnt 8 (B / 16777216) := h1
  have h2' : cnt 24 B = cnt 16 B + cnt 8 (B / 65536) := h2
  have h3' : cnt 16 B = cnt 8 B + cnt 8 (B / 256) := h3
  omega
theorem cnt_far {k B : Nat} (hk : k ≤ 32) (hB : B < 2 ^ k) : cnt 32 B = cnt k B := by
  obtain ⟨d, hd⟩ : ∃ d, 32 = k + d := ⟨32 - k, by omega⟩
  rw [hd, cnt_add, Nat.div_eq_of_lt hB]
  have : cnt d 0 = 0 := by
    unfold cnt mem
    rw [List.filter_eq_nil_iff.2 (by simp)]
    rfl
  omega
/-! trailing zeros -/
/-- B is 2 ^ t times an odd number. -/
def TZ (B t : Nat) : Prop := ∃ q, B = 2 ^ t * (2 * q + 1)
theorem tz_ex : ∀ B : Nat, B ≠ 0 → ∃ t, TZ B t := by
  intro B
  induction B using Nat.strongRecOn with
  | ind B ih =>
    intro h
    by_cases ho : B % 2 = 1
    · exact ⟨0, B / 2, by omega⟩
    · obtain ⟨t, q, hq⟩ := ih (B / 2) (by omega) (by omega)
      refine ⟨t + 1, q, ?_⟩
      rw [Nat.pow_succ, Nat.mul_comm (2 ^ t) 2, Nat.mul_assoc, ← hq]
      omega
theorem tz_bit {B t : Nat} (h : TZ B t) : B.testBit t = true := by
  obtain ⟨q, rfl⟩ := h
  have := Nat.testBit_two_pow_mul_add (2 * q + 1) (Nat.two_pow_pos t) t
  rw [Nat.add_zero] at this
  rw [this, if_neg (by omega), Nat.sub_self, Nat.testBit_zero]
  simp
theorem tz_low {B t i : Nat} (h : TZ B t) (hi : i < t) : B.testBit i = false := by
  obtain ⟨q, rfl⟩ := h
  have := Nat.testBit_two_pow_mul_add (2 * q + 1) (Nat.two_pow_pos t) i
  rw [Nat.add_zero] at this
  rw [this, if_pos hi, Nat.zero_testBit]
theorem tz_pred {B t i : Nat} (h : TZ B t) : (B - 1).testBit i = if i < t then true else if i = t then false else B.testBit i := by
  obtain ⟨q, rfl⟩ := h
  have hp := Nat.two_pow_pos t
  have e : 2 ^ t * (2 * q + 1) - 1 = 2 ^ t * (2 * q) + (2 ^ t - 1) := by rw [Nat.mul_add]; omega
  have h1 := Nat.testBit_two_pow_mul_add (2 * q) (show 2 ^ t - 1 < 2 ^ t by omega) i
  have h2 := Nat.testBit_two_pow_mul_add (2 * q + 1) hp i
  rw [Nat.add_zero] at h2
  rw [e, h1, h2]
  by_cases hi : i < t
  · rw [if_pos hi, if_pos hi, Nat.testBit_two_pow_sub_one]; simp [hi]
  · rw [if_neg hi, if_neg hi, if_neg hi]
    by_cases ht : i = t
    · subst ht
      rw [if_pos rfl, Nat.sub_self, Nat.testBit_zero]
      simp
    · rw [if_neg ht]
      obtain ⟨d, hd⟩ : ∃ d, i - t = d + 1 := ⟨i - t - 1, by omega⟩
      rw [hd, Nat.testBit_succ, Nat.testBit_succ, show 2 * q / 2 = q by omega, show (2 * q + 1) / 2 = q by omega]
theorem tz_and {B t : Nat} (h : TZ B t) (hB : B < 4294967296) : B &&& (4294967296 - B) = 2 ^ t := by
  have h0 : B ≠ 0 := by
    obtain ⟨q, rfl⟩ := h
    have := Nat.mul_pos (Nat.two_pow_pos t) (show 0 < 2 * q + 1 by omega)
    omega
  apply Nat.eq_of_testBit_eq
  intro i
  have e : 4294967296 - B = 4294967295 - (B - 1) := by omega
  rw [Nat.testBit_and, e, testBit_not _ _ (by omega), tz_pred h, Nat.testBit_two_pow]
  by_cases hi : i < t
  · rw [tz_low h hi, if_pos hi]
    simp
    omega
  · rw [if_neg hi]
    by_cases ht : i = t
    · subst ht
      have h32 : i < 32 := by
        rcases Nat.lt_or_ge i 32 with h1 | h1
        · exact h1
        · have := Nat.testBit_lt_two_pow (x := B) (i := i) (Nat.lt_of_lt_of_le hB (by
            have := Nat.pow_le_pow_right (n := 2) (by omega) h1
            simpa using this))
          rw [tz_bit h] at this
          cases this
      rw [tz_bit h, if_pos rfl]
      simp [h32]
    · rw [if_neg ht]
      have : ¬ t = i := by omega
      cases B.testBit i <;> simp [this]
theorem tz_lt {B t k : Nat} (h : TZ B t) (hB : B < 2 ^ k) : t < k := by
  rcases Nat.lt_or_ge t k with h1 | h1
  · exact h1
  · have := testBit_far hB h1
    rw [tz_bit h] at this
    cases this
end Go.Proofs.YtdmldnlgamnkeaaGreat.Dm

namespace Go.Proofs.YtdmldnlgamnkeaaGreat.Dm
open Go.RowKit
set_option linter.unusedVariables false
def debL : List Int := [0, 1, 28, 2, 29, 14, 24, 3, 30, 22, 20, 15, 25, 17, 4, 8, 31, 27, 13, 23, 21, 19, 16, 7, 26, 12, 18, 6, 11, 5, 10, 9]
def Tab (w : World) : Prop := ∀ i, i < 32 → w.cell? ⟨0, i, none⟩ = some (.int .u8 (debL.getD i 0))
theorem Tab.pos {w : World} (h : Tab w) : 0 < w.heap.size := World.block_lt_of_cell? w ⟨0, 0, none⟩ (h 0 (by omega))
theorem Tab.below {w w' : World} {B : Nat} (h : Tab w) (hb : Below B w w') (hB : 0 < B) : Tab w' := fun i hi => (hb.cell (p := ⟨0, i, none⟩) hB).trans (h i hi)
theorem Tab.next {w w' : World} (h : Tab w) (hb : Below w.heap.size w w') : Tab w' := h.below hb h.pos
theorem deb_all : ∀ t : Fin 32, debL.getD (2 ^ t.val * 125613361 % 4294967296 / 134217728) 0 = (t.val : Int) := by decide +kernel
theorem deb_cell {w : World} (h : Tab w) {B t : Nat} (ht : TZ B t) (h0 : B ≠ 0) (hB : B < 4294967296) (x : Int) (hx : x = B) :
    w.cell? ⟨0, (bits BinOp.and IntKind.u32 x (-x % 4294967296) * 125613361 % 4294967296 / 134217728).toNat, none⟩ = some (.int .u8 (t : Int)) := by
  have t32 : t < 32 := tz_lt ht (by simpa using hB)
  have e1 : -x % 4294967296 = ((4294967296 - B : Nat) : Int) := by omega
  rw [e1, hx, bits_and B _ hB (by omega), tz_and ht hB]
  have e2 : (((2 ^ t : Nat) : Int) * 125613361 % 4294967296 / 134217728).toNat = 2 ^ t * 125613361 % 4294967296 / 134217728 := by
    generalize 2 ^ t = p
    have e3 : ((p * 125613361 % 4294967296 / 134217728 : Nat) : Int) = (p : Int) * 125613361 % 4294967296 / 134217728 := by rw [Int.natCast_ediv, Int.natCast_emod, Int.natCast_mul]; rfl
    rw [← e3, Int.toNat_natCast]
  rw [e2, h _ (by omega)]
  rw [deb_all ⟨t, t32⟩]
/-- The first value of a set, the last one, and the first above n; -1: there is none. -/
def firstI (k B : Nat) : Int := match (List.range k).find? (fun v => B.testBit v) with
  | some x => x
  | none => -1
def lastI (B : Nat) : Int := (bitLen B : Int) - 1
theorem first_none (k : Nat) : firstI k 0 = -1 := by
  unfold firstI
  rw [List.find?_eq_none.2 (by simp)]
theorem first_some {k B t : Nat} (h : TZ B t) (hB : B < 2 ^ k) : firstI k B = t := by
  unfold firstI
  have : (List.range k).find? (fun v => B.testBit v) = some t := by
    rw [List.find?_range_eq_some]
    refine ⟨tz_bit h, by simpa using tz_lt h hB, fun j hj => by rw [tz_low h hj]; rfl⟩
  rw [this]
end Go.Proofs.YtdmldnlgamnkeaaGreat.Dm

namespace Go.Proofs.YtdmldnlgamnkeaaGreat.Dm
open Go.RowKit
set_option linter.unusedVariables false
def headI : List Nat → Int
  | [] => -1
  | x :: _ => x
theorem firstI_head (k B : Nat) : firstI k B = headI (mem k B) := by
  unfold firstI mem
  rw [← List.head?_filter]
  cases (List.range k).filter fun v => B.testBit v <;> rfl
theorem mem_lt (k B : Nat) : (mem k B).Pairwise (· < ·) := List.Pairwise.filter _ List.pairwise_lt_range
theorem mem_above {k B n : Nat} (hk : k ≤ 32) (hB : B < 2 ^ k) (hn : n ≤ 32) : mem k (aboveN B n) = (mem k B).filter (fun x => decide (n ≤ x)) := by
  unfold mem
  rw [List.filter_filter]
  apply List.filter_congr
  intro i _
  rw [testBit_above _ _ _ (lt_of_fits hk hB) hn, Bool.and_comm]
theorem mem_split {k B x : Nat} {pre rest : List Nat} (hk : k ≤ 32) (hB : B < 2 ^ k) (h : mem k B = pre ++ x :: rest) : mem k (aboveN B (x + 1)) = rest := by
  have hx : x < k := by
    have : x ∈ mem k B := by rw [h]; simp
    exact (mem_mem.1 this).1
  rw [mem_above hk hB (by omega), h]
  have hp := mem_lt k B
  rw [h, List.pairwise_append] at hp
  obtain ⟨_, h2, h3⟩ := hp
  rw [List.pairwise_cons] at h2
  rw [List.filter_append, List.filter_cons, if_neg (by simp)]
  rw [List.filter_eq_nil_iff.2 (fun a ha => by have := h3 a ha x (by simp); simp; omega)]
  rw [List.filter_eq_self.2 (fun a ha => by have := h2.1 a ha; simp; omega)]
  rfl
theorem mem_len {k B : Nat} (hk : k ≤ 32) : (mem k B).length ≤ 32 := by
  have := List.length_filter_le (fun v => B.testBit v) (List.range k)
  unfold mem
  simp only [List.length_range] at this
  omega
end Go.Proofs.YtdmldnlgamnkeaaGreat.Dm

namespace Go.Proofs.YtdmldnlgamnkeaaGreat.Dm
open Go.RowKit Go.Shelf
set_option linter.unusedVariables false
attribute [local go_sem] Oper.semAt_some
def left (v : Value) : Nat := if intOf v < 0 then 0 else 33 - (intOf v).toNat
theorem left_nat (x : Nat) : left (.int .i64 (x : Int)) = 33 - x := by
  show (if (x : Int) < 0 then 0 else 33 - ((x : Int)).toNat) = 33 - x
  rw [if_neg (by omega), Int.toNat_natCast]
theorem left_lt (k B x : Nat) (pre rest : List Nat) (hk : k ≤ 32) (h : mem k B = pre ++ x :: rest) : left (.int .i64 (headI rest)) < left (.int .i64 (x : Int)) := by
  have hx : x < k := by
    have : x ∈ mem k B := by rw [h]; simp
    exact (mem_mem.1 this).1
  cases rest with
  | nil =>
    show 0 < left (.int .i64 (x : Int))
    rw [left_nat]
    omega
  | cons y r =>
    have hy : y < k := by
      have : y ∈ mem k B := by rw [h]; simp
      exact (mem_mem.1 this).1
    have hxy : x < y := by
      have hp := mem_lt k B
      rw [h, List.pairwise_append] at hp
      exact (List.pairwise_cons.1 hp.2.1).1 y (by simp)
    show left (.int .i64 (y : Int)) < _
    rw [left_nat, left_nat]
    omega
theorem grown_below {W W' : World} (h : Below W.heap.size W W') : W.grownBy W' none := ⟨h.os, h.tape, h.output, h.size, fun k hk _ => h.block k hk⟩
end Go.Proofs.YtdmldnlgamnkeaaGreat.Dm
