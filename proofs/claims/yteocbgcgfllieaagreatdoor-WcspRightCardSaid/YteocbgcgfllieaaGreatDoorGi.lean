/- Strings' heads and bytes; lists of any integers; what a scope is (no statement of its own). -/
import Derived.Test.YteocbgcgfllieaaGreatDoorGh
namespace Go.Proofs.YteocbgcgfllieaaGreatDoor
open Go.RowKit
set_option linter.unusedVariables false
set_option maxRecDepth 100000 in
theorem slice_headR (A : Option Addr) (n m c : Nat) (hm : m ≤ c) (W : World) : (Instr.slice 23 (.slice A n c) none (some (.int .i64 (m : Int))) none).run Tryz.prog W = .ok (.slice A m c) W := by
  rw [run_slice_h (P := Tryz.prog) (w := W) 23 A n c Tryz.underlying23 .i64 (m : Int) (by omega) (by omega)]
  have hs : (sizeOf (Tryz.prog.elem 23)).run Tryz.prog W = .ok 1 W := by
    show (Go.sizeOf 3).run Tryz.prog W = .ok 1 W
    simp [Go.sizeOf]
    rfl
  rw [hs]
  show Result.ok (sliced A 0 (m : Int).toNat c 1) W = _
  have e : A.map (fun a : Addr => a.add (0 * 1)) = A := by
    cases A with
    | none => rfl
    | some a => simp [Addr.add]
  unfold sliced
  simp [Addr.add]
theorem str_head (X : ByteArray) (p : Nat) (h : p ≤ X.size) (W : World) : (Instr.slice 9 (.string X) none (some (.int .i64 (p : Int))) none).run Tryz.prog W = .ok (.string (X.extract 0 p)) W := by
  rw [run_slice_string_h (w := W) (P := Tryz.prog) 9 X Tryz.underlying9 .i64 (p : Int) (by omega) (by omega)]
  rfl
def nthB (X : ByteArray) (j : Nat) : Nat := (X.data.getD j 0).toNat
theorem str_at (X : ByteArray) (j : Nat) (x : Nat) (h : j < X.size) (hx : (nthB X j) = x) (W : World) : (Instr.index 9 (.string X) (.int .i64 (j : Int))).run Tryz.prog W = .ok (.int .u8 (x : Int)) W := by
  subst hx
  rw [run_index_string W 9 X .i64 (j : Int) Tryz.underlying9, dif_pos ⟨by omega, by omega⟩]
  have h3 : j < X.data.size := h
  unfold nthB
  rw [Array.getD_eq_getD_getElem?, Array.getElem?_eq_getElem h3]
  rfl
theorem index_firstZ (A : Option Addr) (n c p : Nat) (z : Nat → Int) (v : Int) (w : World) (hl : n ≤ 1000000) (hw : Zs w A n z) (hp : p < n) (hv : v = z p) (hb : ∀ i, i < p → v ≠ z i) :
    Calls Tryz.prog 21 #[.slice A n c, .int .i64 v] w fun e w' => e = .returned (.int .i64 (p : Int)) ∧ w = w' := by
  have HW := Lib.hid hw
  have HV := Lib.hid hv
  have HB := Lib.hid hb
  clear hw hv hb
  go_enter Tryz.func21, Tryz.ntmps21
  go_wp2_with fail
  go_loop [8] (fun i => ∃ j : Nat, j ≤ p ∧ i = .int .i64 (j : Int)) (fun i => n - (intOf i).toNat)
  case atStart => exact ⟨0, Nat.zero_le _, rfl⟩
  case round =>
    obtain ⟨j, hj, rfl⟩ := hrel
    obtain ⟨g, o, rfl, hcell⟩ := HW.out.at_ (i := j) (by omega)
    have i1 : (j : Int) < (n : Int) := by omega
    have i2 : (0 : Int) ≤ (j : Int) := by omega
    by_cases e : j = p
    · subst e
      have hx : (v == z j) = true := by rw [beq_iff_eq]; exact HV.out
      generalize z j = y at hcell hx
      go_wp2_with fail
      go_ret
      exact ⟨rfl, rfl⟩
    · have hx : (v == z j) = false := by rw [beq_eq_false_iff_ne]; exact HB.out j (by omega)
      have hjp : j + 1 ≤ p := by omega
      clear e
      generalize z j = y at hcell hx
      go_wp2_with fail
      go_round
      case rel => exact ⟨j + 1, by omega, by go_num⟩
      case measure => simp [intOf]; omega
/-- A list of any integers of one's own. -/
def OwnI (W : World) (base : Nat) (v : Value) (l : List Int) : Prop := W.ownsRow base 3 1 v l.length (l.map (Value.int .i64))
theorem ownI_nil (W : World) (base : Nat) : OwnI W base (.slice none 0 0) [] := World.ownsRow_nil W base 3 1
theorem OwnI.form {W : World} {base : Nat} {v : Value} {l : List Int} (h : OwnI W base v l) : ∃ A c, v = .slice A l.length c := by
  obtain ⟨_, ⟨e, hn⟩ | ⟨g', cap, cur, e, hb, hh, _⟩⟩ := h
  · exact ⟨none, 0, by rw [hn]; exact e⟩
  · exact ⟨_, _, e⟩
theorem OwnI.below {W W' : World} {base : Nat} {v : Value} {l : List Int} (h : OwnI W base v l) (hb : Below W.heap.size W W') : OwnI W' base v l :=
  own_keep h (fun g _ _ hg => hb.block g (Array.getElem?_eq_some_iff.1 hg).1)
theorem OwnI.zs {W : World} {base : Nat} {A : Option Addr} {c : Nat} {l : List Int} (h : OwnI W base (.slice A l.length c) l) : Zs W A l.length (fun i => l.getD i 0) := by
  obtain ⟨_, ⟨e, hn⟩ | ⟨g, cap, cur, e, hb, hh, hm, _, hs, ht⟩⟩ := h
  · exact .inl hn
  · injection e with e1 e2 e3
    subst e1
    refine .inr ⟨g, 0, rfl, (Array.getElem?_eq_some_iff.1 hh).1, fun i hi => ?_⟩
    rw [Nat.zero_add, cell_of_row W g i cur 3 (0, 0) hh]
    have e : (cur.toList.take (l.length * 1))[i]? = some (.int .i64 (l.getD i 0)) := by rw [ht]; simp [hi]
    rw [List.getElem?_take] at e
    simpa [hi] using e
theorem push_i {ops : Array Oper} {rest : List Oper} {o : Oper} {a : Act} {Q : Exit → Act → World → Prop} (hgd : o.guard = none) (s x : Operand)
    (ho : o.op = .call { callee := .builtin .append, args := #[s, x], argTypes := #[23, 23] })
    (W : World) (base : Nat) (v : Value) (l : List Int) (u : Int) (hs : a.eval s = v) (hx : a.eval x = .slice (some ⟨W.heap.size, 0, none⟩) 1 1)
    (hown : OwnI W base v l) (hbase : base ≤ W.heap.size) (hl : l.length ≤ 100000)
    (h : ∀ v' w', OwnI w' base v' (l ++ [u]) → Below base W w' → wpList Tryz.prog ops Q rest (a.put o.dst v') w') :
    wpList Tryz.prog ops Q (o :: rest) a (W.alloc (.cells #[.int .i64 u] 3)) := by
  obtain ⟨i0, hi, hz0, hz1, hz2⟩ := info_parts info_int
  have hb : Below base W (W.alloc (.cells #[.int .i64 u] 3)) := (Below.refl _ _).alloc hbase _
  have hown' : OwnI (W.alloc (.cells #[.int .i64 u] 3)) base v l := hown.below (new_val W _)
  have hc := heap_alloc_new W (.cells #[.int .i64 u] 3)
  refine wpList_append_own _ hgd s x 23 ho base 3 i0 (.int .i64 0) 1 8 Tryz.underlying23 hi hz0 hz1 hz2 rfl (by decide) v l.length _ hs hown' ⟨W.heap.size, 0, none⟩ 1 1 [.int .i64 u] hx rfl ?_ ?_ (by unfold maxLen; omega) (by omega) (by simp; omega) ?_
  · intro j y hj
    rcases j with _ | j
    · simp at hj
      subst hj
      show (W.alloc _).cell? ⟨W.heap.size, 0, none⟩ = _
      rw [cell_of_row _ _ _ _ _ _ hc]
      rfl
    · simp at hj
  · intro y hy
    simp at hy
    subst hy
    rfl
  · intro v' w' h1 h2 _
    refine h v' w' (by unfold OwnI; rw [List.length_append, List.map_append]; exact h1) (hb.grown h2 (by simp; omega) (fun k hk => ?_))
    obtain ⟨_, ⟨e, hn⟩ | ⟨g, cap, cur, e, hbb, hh, _⟩⟩ := hown'
    · rw [e] at hk; simp [Value.ownBlock] at hk
    · rw [e] at hk; simp [Value.ownBlock] at hk; omega
/-- The scope so far is of variables, once each. -/
def FitS (ys : Nat → Int) (m j : Nat) : Prop := ∀ i, i < j → (0 ≤ ys i ∧ ys i < (m : Int)) ∧ ∀ p, p < i → ys p ≠ ys i
def pickI (zs ys : Nat → Int) (j : Nat) : List Int := (List.range j).map fun i => zs (ys i).toNat
def cntI (l : List Int) : Int := l.foldl (fun c s => c * max (min s 33) 0) 1
theorem cntI_snoc (l : List Int) (x : Int) : cntI (l ++ [x]) = cntI l * max (min x 33) 0 := by simp [cntI, List.foldl_append]
theorem cntI_le : ∀ (l : List Int) (c : Int), 0 ≤ c → 0 ≤ l.foldl (fun c s => c * max (min s 33) 0) c ∧ l.foldl (fun c s => c * max (min s 33) 0) c ≤ c * 33 ^ l.length
  | [], c, h => by simp [h]
  | x :: l, c, h => by
    have h1 : 0 ≤ max (min x 33) 0 := by omega
    have h2 : max (min x 33) 0 ≤ 33 := by omega
    have h3 := cntI_le l (c * max (min x 33) 0) (Int.mul_nonneg h h1)
    refine ⟨h3.1, Int.le_trans h3.2 ?_⟩
    rw [List.length_cons, Int.pow_succ, Int.mul_comm (33 ^ l.length) 33, ← Int.mul_assoc]
    exact Int.mul_le_mul_of_nonneg_right (Int.mul_le_mul_of_nonneg_left h2 h) (Int.le_of_lt (Int.pow_pos (by decide)))
theorem cntI_ok (l : List Int) (h : l.length ≤ 5) : 0 ≤ cntI l ∧ cntI l ≤ 39135393 := by
  have h1 := cntI_le l 1 (by decide)
  refine ⟨h1.1, Int.le_trans h1.2 ?_⟩
  rw [Int.one_mul]
  have hp : ∀ n, n < 6 → (33 : Int) ^ n ≤ 39135393 := by decide
  exact hp _ (by omega)
theorem pickI_snoc (zs ys : Nat → Int) (j : Nat) : pickI zs ys (j + 1) = pickI zs ys j ++ [zs (ys j).toNat] := by simp [pickI, List.range_succ]
theorem pickI_len (zs ys : Nat → Int) (j : Nat) : (pickI zs ys j).length = j := by simp [pickI]
theorem fit_succ {ys : Nat → Int} {m j : Nat} : FitS ys m (j + 1) ↔ FitS ys m j ∧ (0 ≤ ys j ∧ ys j < (m : Int)) ∧ ∀ p, p < j → ys p ≠ ys j := by
  constructor
  · intro h
    exact ⟨fun i hi => h i (by omega), h j (by omega)⟩
  · rintro ⟨h1, h2⟩ i hi
    by_cases e : i = j
    · subst e; exact h2
    · exact h1 i (by omega)
end Go.Proofs.YteocbgcgfllieaaGreatDoor
