/- Contracts of math/bits' OnesCount32, TrailingZeros32 and Len32 (no statement of its own). Conditions: the argument is a uint32; for TrailingZeros32 it is not 0 and the table reads as its initialiser lays it. -/
import Derived.Test.YtlpclbilomcaiaaDoorSet
import Derived.Laws.MathBits
namespace Go.Proofs.YtlpclbilomcaiaaDoor
open Go.RowKit
set_option linter.unusedVariables false
/-- Does a table of 256 bytes hold f? -/
def tabB (s : ByteArray) (f : Nat → Nat) : Bool := s.size == 256 && (List.range 256).all fun i => (s.data.getD i 0).toNat == f i
theorem tab_get {s : ByteArray} {f : Nat → Nat} (h : tabB s f = true) {i : Nat} (hi : i < 256) : ∃ h' : i < s.size, (s[i]'h').toNat = f i := by
  unfold tabB at h
  rw [Bool.and_eq_true] at h
  obtain ⟨h1, h2⟩ := h
  have hs : s.size = 256 := by simpa using h1
  have := (List.all_eq_true.1 h2) i (by simpa using hi)
  have h3 : i < s.data.size := by show i < s.size; omega
  have e : (s.data.getD i 0).toNat = f i := by simpa using this
  refine ⟨by omega, ?_⟩
  rw [← e, Array.getD_eq_getD_getElem?, Array.getElem?_eq_getElem h3]
  rfl
theorem index_tab (s : ByteArray) (f : Nat → Nat) (h : tabB s f = true) (k : IntKind) (i : Int) (n : Nat) (he : i = n) (hn : n < 256) (w : World) :
    (Instr.index 9 (.string s) (.int k i)).run Tryd.prog w = .ok (.int .u8 (f n : Int)) w := by
  subst he
  obtain ⟨h1, h2⟩ := tab_get h hn
  rw [run_index_string w 9 s k n Tryd.underlying9]
  rw [dif_pos ⟨by omega, by omega⟩]
  rw [← h2]
  rfl
theorem quiet_index {P : Program} {o : Oper} {a : Act} {C : World → Prop} {K : Act → Prop} (T : TypeId) (s : Value) (x : Operand) (ho : o.op = .index T (.const s) x) (v : Value)
    (hv : ∀ w, (Instr.index T s (a.eval x)).run P w = .ok v w) (h : K (a.put o.dst v)) : o.quiet P a C K := by
  refine ⟨v, fun w _ => ?_, h⟩
  have e : a.eval (.const s) = s := rfl
  unfold Oper.quietAt execOp
  simp only [ho, e, Sem.run_bind, hv, Result.andThen_ok, Sem.run_pure]
  exact ⟨rfl, rfl⟩
theorem wpList_index {P : Program} {ops : Array Oper} {rest : List Oper} {o : Oper} {a : Act} {w : World} {Q : Exit → Act → World → Prop} (hgd : o.guard = none) (T : TypeId) (s : Value) (x : Operand) (ho : o.op = .index T (.const s) x) (v : Value)
    (hv : ∀ w, (Instr.index T s (a.eval x)).run P w = .ok v w) (h : wpList P ops Q rest (a.put o.dst v) w) : wpList P ops Q (o :: rest) a w := by
  refine wpList_plain hgd fun K hK => ?_
  have e : a.eval (.const s) = s := rfl
  unfold Oper.wp execOp
  simp only [ho, e, Sem.run_bind, hv, Result.andThen_ok, Sem.run_pure]
  exact hK _ _ h
def cnt (n B : Nat) : Nat := (mem n B).length
theorem len_arith (x : Int) (b : Nat) (h0 : 0 ≤ x) (y : Int) (hy : y.toNat = x.toNat / 2 ^ b) (hne : y ≠ 0) (h1 : 0 ≤ y) (h2 : y < 256) (hb : b ≤ 24) : wrap64 ((b : Int) + wrap64 (bitLen y.toNat : Int)) = (bitLen x.toNat : Int) := by
  have h3 := bitLen_le8 y.toNat (by omega)
  have h4 := bitLen_shift x.toNat b (by rw [← hy]; omega)
  rw [IntWalk.wrap64_in (bitLen y.toNat : Int) (by omega), IntWalk.wrap64_in _ (by omega)]
  rw [← hy] at h4
  omega
set_option maxRecDepth 100000 in
theorem len32_any (x : Int) (w : World) (h0 : 0 ≤ x) (h1 : x ≤ 4294967295) :
    Calls Tryd.prog 36 #[.int .u32 x] w fun e w' => e = .returned (.int .i64 (bitLen x.toNat : Int)) ∧ w = w' := by
  go_enter Tryd.func36, Tryd.ntmps36
  go_wp2_with fail
  · go_ret
    refine ⟨ret_int ?_, rfl⟩
    rw [len8tab_get]
    exact len_arith x 24 h0 (x / 65536 / 256) (by omega) (by omega) (by omega) (by omega) (by omega)
  · go_ret
    refine ⟨ret_int ?_, rfl⟩
    rw [len8tab_get]
    exact len_arith x 16 h0 (x / 65536) (by omega) (by omega) (by omega) (by omega) (by omega)
  · go_ret
    refine ⟨ret_int ?_, rfl⟩
    rw [len8tab_get]
    exact len_arith x 8 h0 (x / 256) (by omega) (by omega) (by omega) (by omega) (by omega)
  · go_ret
    refine ⟨ret_int ?_, rfl⟩
    rw [len8tab_get]
    have := bitLen_le8 x.toNat (by omega)
    rw [IntWalk.wrap64_in (bitLen x.toNat : Int) (by omega), IntWalk.wrap64_in _ (by omega)]
end Go.Proofs.YtlpclbilomcaiaaDoor
