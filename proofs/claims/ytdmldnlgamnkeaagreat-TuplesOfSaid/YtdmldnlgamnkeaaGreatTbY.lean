/- Contracts of the document's Count and Make, and of the law's top (no statement of its own). -/
import Derived.Test.YtdmldnlgamnkeaaGreatTbX
import Derived.Test.YtdmldnlgamnkeaaGreatRAll
import Derived.Laws.ResultCell
namespace Go.Proofs.YtdmldnlgamnkeaaGreat
open Go.RowKit
set_option linter.unusedVariables false
theorem rcount_any (A : Option Addr) (n c P : Nat) (l : List Nat) (w : World) (hn : n = l.length) (h6 : l.length ≤ 6) (h32 : ∀ n ∈ l, n ≤ 32) (hw : Ints w A l) (hP : prodL l = P) :
    Calls Tryz.prog 19 #[.slice A n c] w fun e w' => e = .returned (.int .i64 (P : Int)) ∧ w = w' := by
  have HN := Lib.hid hn
  have HW := Lib.hid hw
  have H6 := Lib.hid h6
  have H32 := Lib.hid h32
  have HPP := Lib.hid hP
  have hn6 : n ≤ 6 := by omega
  clear hn hw h6 h32 hP
  go_enter Tryz.func19, Tryz.ntmps19
  go_wp2_with fail
  go_loop [3, 5, 8] (fun p _ i => ∃ j : Nat, j ≤ n ∧ i = .int .i64 j ∧ p = .int .i64 (prodL (l.take j) : Nat)) (fun _ _ i => n - (intOf i).toNat)
  case atStart => exact ⟨0, Nat.zero_le _, rfl, rfl⟩
  case round =>
    obtain ⟨j, hj, rfl, rfl⟩ := hrel
    by_cases hlt : j < n
    · have hjl : j < l.length := by have := HN.out; omega
      obtain ⟨g, o, rfl, hcell⟩ := HW.out.at_ hjl
      have hb := take_le H6.out H32.out j
      have hx := nth_le H32.out j
      have HP := Lib.hid (prod_take l hjl)
      have hm : prodL (l.take j) * nth l j ≤ 1073741824 := by rw [← HP.out]; exact take_le H6.out H32.out (j + 1)
      have hmi : ((prodL (l.take j) : Nat) : Int) * (nth l j : Int) ≤ 1073741824 := by rw [← Int.natCast_mul]; omega
      have hm0 : 0 ≤ ((prodL (l.take j) : Nat) : Int) * (nth l j : Int) := by rw [← Int.natCast_mul]; omega
      clear hjl hm
      generalize nth l j = x at hcell hx HP hmi hm0
      generalize prodL (l.take j) = p at hb HP hmi hm0
      go_wp2
      go_round
      case rel => exact ⟨j + 1, by omega, by go_num, by rw [HP.out, Int.natCast_mul]⟩
      case measure => simp [intOf]; omega
    · go_wp2
      go_ret
      obtain rfl : j = n := by omega
      exact ⟨ret_int (by rw [HN.out, List.take_length, HPP.out]), rfl⟩
/-- A slice of numbers of 16 bits that lies in memory. -/
def Words (w : World) (A : Option Addr) (n : Nat) (z : Nat → Int) : Prop := ∀ j, j < n → ∃ p : Addr, A = some p ∧ p.block < w.heap.size ∧ w.cell? (p.add j) = some (.int .u16 (z j)) ∧ 0 ≤ z j ∧ z j ≤ 65535
theorem Words.below {w w' : World} {A : Option Addr} {n : Nat} {z : Nat → Int} (h : Words w A n z) (hb : Below w.heap.size w w') : Words w' A n z := fun j hj => by
  obtain ⟨p, rfl, hp, hc, h1, h2⟩ := h j hj
  exact ⟨p, rfl, Nat.lt_of_lt_of_le hp hb.size, (hb.cell (p := p.add j) (by rw [block_add]; exact hp)).trans hc, h1, h2⟩
/-- The costs that the document's Make gives. -/
def mkC (k : Int) (y : Nat → Int) (m i : Nat) : Int := if i < m then (if y i % 5 = 0 then k else y i / 5 % (k + 1)) else 0
theorem mkC_in {k : Int} {y : Nat → Int} {m i : Nat} (hk : 1 ≤ k) (hy : i < m → 0 ≤ y i) : 0 ≤ mkC k y m i ∧ mkC k y m i ≤ k := by
  unfold mkC
  split
  · split
    · omega
    · have h1 := Int.emod_nonneg (y i / 5) (show k + 1 ≠ 0 by omega)
      have h2 := Int.emod_lt_of_pos (y i / 5) (show 0 < k + 1 by omega)
      omega
  · omega
theorem costL_succ (z : Nat → Int) (n : Nat) : costL z (n + 1) = costL z n ++ [.int .i64 (z n)] := by simp [costL, List.range_succ]
/-- append of one cost to a slice of the call's own. -/
theorem push64 {ops : Array Oper} {rest : List Oper} {o : Oper} {a : Act} {Q : Exit → Act → World → Prop} (hgd : o.guard = none) (s x : Operand)
    (ho : o.op = .call { callee := .builtin .append, args := #[s, x], argTypes := #[27, 27] })
    (W : World) (base n : Nat) (v : Value) (z : Nat → Int) (u : Int) (hu : u = z n) (hs : a.eval s = v) (hx : a.eval x = .slice (some ⟨W.heap.size, 0, none⟩) 1 1)
    (hown : W.ownsRow base 2 1 v n (costL z n)) (hbase : base ≤ W.heap.size) (hl : n ≤ 100000)
    (h : ∀ v' w', w'.ownsRow base 2 1 v' (n + 1) (costL z (n + 1)) → W.grownBy w' v.ownBlock → wpList Tryz.prog ops Q rest (a.put o.dst v') w') :
    wpList Tryz.prog ops Q (o :: rest) a (W.alloc (.cells #[.int .i64 u] 2)) := by
  subst hu
  obtain ⟨i0, hi, hz0, hz1, hz2⟩ := info_parts info_i64
  have n0 := new_val W (.cells #[.int .i64 (z n)] 2)
  have hown' := ownsRow_below hown n0 (Nat.le_refl _)
  have hc := heap_alloc_new W (.cells #[.int .i64 (z n)] 2)
  refine wpList_append_own _ hgd s x 27 ho base 2 i0 (.int .i64 0) 1 8 Tryz.underlying27 hi hz0 hz1 hz2 rfl (by decide) v n _ hs hown' ⟨W.heap.size, 0, none⟩ 1 1 [.int .i64 (z n)] hx rfl ?_ ?_ (by unfold maxLen; omega) (by omega) (by simp; omega) ?_
  · intro j u hj
    rcases j with _ | j
    · simp at hj
      subst hj
      show (W.alloc _).cell? ⟨W.heap.size, 0, none⟩ = _
      rw [cell_of_row _ _ _ _ _ _ hc]
      rfl
    · simp at hj
  · intro u hu
    simp at hu
    subst hu
    rfl
  · intro v' w' h1 h2 _
    refine h v' w' (by rw [costL_succ]; exact h1) (grown_then (World.grownBy_alloc W _ _) h2)
end Go.Proofs.YtdmldnlgamnkeaaGreat
