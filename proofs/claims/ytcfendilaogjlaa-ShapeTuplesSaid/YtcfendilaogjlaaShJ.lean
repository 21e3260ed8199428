/- Contracts of the document's Small and of the law's awake (no statement of its own). -/
import Derived.Test.YtcfendilaogjlaaShI
namespace Go.Proofs.Ytcfendilaogjlaa
open Go.RowKit
set_option linter.unusedVariables false
theorem Own.lt {w : World} {base : Nat} {v : Value} {l : List Nat} (h : Own w base v l) : ∀ k, v.ownBlock = some k → base ≤ k ∧ k < w.heap.size := World.ownsRow.lt h
theorem push_own {ops : Array Oper} {rest : List Oper} {o : Oper} {a : Act} {Q : Exit → Act → World → Prop} (hgd : o.guard = none) (s x : Operand)
    (ho : o.op = .call { callee := .builtin .append, args := #[s, x], argTypes := #[24, 24] })
    (W : World) (base : Nat) (v : Value) (l : List Nat) (u : Int) (y : Nat) (hu : u = (y : Int)) (hs : a.eval s = v) (hx : a.eval x = .slice (some ⟨W.heap.size, 0, none⟩) 1 1)
    (hown : Own W base v l) (hbase : base ≤ W.heap.size) (hl : l.length ≤ 100000)
    (h : ∀ v' w', Own w' base v' (l ++ [y]) → Below base W w' → wpList Try.prog ops Q rest (a.put o.dst v') w') :
    wpList Try.prog ops Q (o :: rest) a (W.alloc (.cells #[.int .i64 u] 3)) := by
  subst hu
  obtain ⟨i0, hi, hz0, hz1, hz2⟩ := info_parts info_int
  have hb : Below base W (W.alloc (.cells #[.int .i64 (y : Int)] 3)) := (Below.refl _ _).alloc hbase _
  have hown' : Own (W.alloc (.cells #[.int .i64 (y : Int)] 3)) base v l := hown.below ((Below.refl W.heap.size W).alloc (Nat.le_refl _) _) (Nat.le_refl _)
  have hc := heap_alloc_new W (.cells #[.int .i64 (y : Int)] 3)
  refine wpList_append_own _ hgd s x 24 ho base 3 i0 (.int .i64 0) 1 8 Try.underlying24 hi hz0 hz1 hz2 rfl (by decide) v l.length _ hs hown' ⟨W.heap.size, 0, none⟩ 1 1 [.int .i64 (y : Int)] hx rfl ?_ ?_ (by unfold maxLen; omega) (by omega) (by simp; omega) ?_
  · intro j u hj
    rcases j with _ | j
    · simp at hj
      subst hj
      show (W.alloc _).cell? ⟨W.heap.size, 0, none⟩ = _
      rw [cell_of_row _ _ _ _ _ _ hc]
      rfl
    · simp at hj
  · intro u hu
    simp at hu
    subst hu
    rfl
  · intro v' w' h1 h2 _
    refine h v' w' (by unfold Own; rw [List.length_append, intC, List.map_append]; exact h1) (hb.grown h2 (by simp; omega) (fun k hk => ?_))
    exact (hown.lt k hk).1
/-- Sizes of the bytes of the first m places. -/
def smL (z : Nat → Int) (m : Nat) : List Nat := (List.range m).map fun j => 1 + (z j % 4).toNat
theorem smL_succ (z : Nat → Int) (m : Nat) : smL z (m + 1) = smL z m ++ [1 + (z m % 4).toNat] := by simp [smL, List.range_succ]
theorem smL_len (z : Nat → Int) (m : Nat) : (smL z m).length = m := by simp [smL]
theorem smL_small (z : Nat → Int) (m : Nat) : ∀ n ∈ smL z m, 1 ≤ n ∧ n ≤ 4 := by
  intro n hn
  simp only [smL, List.mem_map] at hn
  obtain ⟨j, _, rfl⟩ := hn
  omega
/-- A slice of bytes that lies in memory. -/
def Bytes (w : World) (A : Option Addr) (n : Nat) (z : Nat → Int) : Prop := ∀ j, j < n → ∃ p : Addr, A = some p ∧ p.block < w.heap.size ∧ w.cell? (p.add j) = some (.int .u8 (z j)) ∧ 0 ≤ z j ∧ z j ≤ 255
theorem block_add (a : Addr) (n : Nat) : (a.add n).block = a.block := by unfold Addr.add; split <;> rfl
theorem Bytes.below {w w' : World} {A : Option Addr} {n : Nat} {z : Nat → Int} (h : Bytes w A n z) (hb : Below w.heap.size w w') : Bytes w' A n z := fun j hj => by
  obtain ⟨p, rfl, hp, hc, h1, h2⟩ := h j hj
  exact ⟨p, rfl, Nat.lt_of_lt_of_le hp hb.size, (hb.cell (p := p.add j) (by rw [block_add]; exact hp)).trans hc, h1, h2⟩
set_option maxRecDepth 100000 in
set_option maxHeartbeats 400000 in
theorem small_any (A : Option Addr) (n c : Nat) (z : Nat → Int) (w : World) (hn : (n : Int) ≤ 9223372036854775807) (hz : Bytes w A n z) :
    Calls Try.prog 5 #[.slice A n c] w fun e w' => (∃ v, e = .returned v ∧ Own w' w.heap.size v (smL z (min n 3))) ∧ Below w.heap.size w w' := by
  have HZ := Lib.hid hz
  clear hz
  go_enter Try.func5, Try.ntmps5
  go_wp2_with fail
  go_loopw [3, 4, 5, 8] (fun v _ _ i wr => ∃ j : Nat, j ≤ n ∧ i = .int .i64 j ∧ Own wr w.heap.size v (smL z (min j 3)) ∧ Below w.heap.size w wr) (fun _ _ _ i _ => n - (intOf i).toNat)
  case atStart => exact ⟨0, Nat.zero_le _, rfl, own_nil _ _, Below.refl _ _⟩
  case round =>
    obtain ⟨j, hj, rfl, hO, hB⟩ := hrel
    have HO := Lib.hid hO
    have HB := Lib.hid hB
    have hsz := hB.size
    clear hO hB
    by_cases hlt : j < n
    · obtain ⟨p, rfl, hp, hcell, h1, h2⟩ := HZ.out.below HB.out j hlt
      have HY := Lib.hid (show 1 + z j % 4 = ((1 + (z j % 4).toNat : Nat) : Int) by omega)
      have HS := Lib.hid (smL_succ z j)
      generalize 1 + (z j % 4).toNat = y at HY HS
      generalize z j = x at hcell h1 h2 HY
      by_cases h3 : j < 3
      · have HM : Hid (min (j + 1) 3 = j + 1 ∧ min j 3 = j) := Lib.hid ⟨by omega, by omega⟩
        have HL := Lib.hid (smL_len z (min j 3))
        go_wp2_with (at_builtin; refine push_own rfl (.tmp 15) (.tmp 20) rfl wr w.heap.size u3 (smL z (min j 3)) _ y HY.out rfl rfl HO.out hsz (by rw [HL.out]; omega) ?_; intro v' w2 h1 h2; have H1 := Lib.hid h1; have H2 := Lib.hid h2; clear h1 h2)
        go_roundw
        case rel => exact ⟨j + 1, by omega, by go_num, by have h := H1.out; rw [HM.out.2, ← HS.out] at h; rw [HM.out.1]; exact h, HB.out.trans H2.out⟩
        case measure => simp [intOf]; omega
      · have HM : Hid (min (j + 1) 3 = min j 3) := Lib.hid (by omega)
        go_wp2
        go_roundw
        case rel => exact ⟨j + 1, by omega, by go_num, by rw [HM.out]; exact HO.out, HB.out⟩
        case measure => simp [intOf]; omega
    · go_wp2
      go_ret
      obtain rfl : j = n := by omega
      exact ⟨⟨_, rfl, HO.out⟩, HB.out⟩
theorem lit_two (W : World) (a b : Nat) : Ints (W.alloc (.cells #[.int .i64 (a : Int), .int .i64 (b : Int)] 3)) (some ⟨W.heap.size, 0, none⟩) [a, b] := by
  have hc := heap_alloc_new W (.cells #[.int .i64 (a : Int), .int .i64 (b : Int)] 3)
  refine .inr ⟨_, _, rfl, by simp, fun i hi => ?_⟩
  rw [cell_of_row _ _ _ _ _ _ hc]
  rcases (by simp at hi; omega : i = 0 ∨ i = 1) with rfl | rfl <;> rfl
end Go.Proofs.Ytcfendilaogjlaa
