/- What came in as a list of calls (no statement of its own). -/
import Derived.Test.YtfheamemoinfeaaHn
namespace Go.Proofs.Ytfheamemoinfeaa
open Go.RowKit
set_option linter.unusedVariables false
/-- The calls that came in. -/
def InA (w : World) (a : Option Addr) (len cap : Nat) : Prop := len ≤ cap ∧ cap ≤ maxLen ∧ ∀ j, j < len → ∃ (p : Addr) (d y : Int) (z : Nat), a = some p ∧ p.block < w.heap.size ∧ w.cell? (p.add (j * 3)) = some (.int .u8 d) ∧ w.cell? ⟨(p.add (j * 3)).block, (p.add (j * 3)).off + 1, none⟩ = some (.int .i64 y) ∧ w.cell? ⟨(p.add (j * 3)).block, (p.add (j * 3)).off + 2, none⟩ = some (.float .f64 z) ∧ (0 ≤ d ∧ d ≤ 255) ∧ (-9223372036854775808 ≤ y ∧ y ≤ 9223372036854775807) ∧ z < 18446744073709551616
theorem cellsA : Try.prog.cellsOf 38 = 3 := by kernel_rfl
theorem cells5 : Try.prog.cellsOf 5 = 1 := by kernel_rfl
theorem acts_came {H : Type} {enc : TypeId × Value → H} {W : World} {base : Nat} {sp : Nat → Bool} {hd : Bool} {fuel : Nat} {a : Option Addr} {len cap : Nat} {x : DataW H × List MemPlace}
    (hf : DataW.trod enc Try.prog W base sp hd fuel 33 (Value.cells (.slice a len cap)).toList = some x) : InA W a len cap := by
  rcases Go.Deep.open_slice Try.underlying33 hf with ⟨hcs, _⟩ | ⟨p, l, c, m, nf, D, Pl, hcs, _, hl, hm, hmm, _, hi⟩
  · simp [Value.cells] at hcs
    obtain ⟨rfl, rfl, rfl⟩ := hcs
    exact ⟨Nat.le_refl _, by simp [maxLen], fun j hj => absurd hj (Nat.not_lt_zero _)⟩
  · simp [Value.cells] at hcs
    obtain ⟨rfl, rfl, rfl⟩ := hcs
    refine ⟨hl, hm, fun j hj => ?_⟩
    have hle : len ≤ m := by rw [hmm]; split <;> omega
    obtain ⟨cs', hc, ht⟩ := hi j (by omega)
    rw [cellsA] at hc
    obtain ⟨_, hlen, hat⟩ := World.cells?_some hc
    obtain ⟨ys, n', _, _, hcl, hyl, hfs⟩ := DataW.trod_struct Try.underlying38 ht
    obtain ⟨c0, c1, c2, rfl⟩ : ∃ c0 c1 c2, cs' = [c0, c1, c2] := by
      rcases cs' with _ | ⟨c0, _ | ⟨c1, _ | ⟨c2, _ | ⟨c3, r⟩⟩⟩⟩ <;> simp at hlen
      exact ⟨c0, c1, c2, rfl⟩
    obtain ⟨y0, y1, y2, rfl⟩ : ∃ y0 y1 y2, ys = [y0, y1, y2] := by
      rcases ys with _ | ⟨c0, _ | ⟨c1, _ | ⟨c2, _ | ⟨c3, r⟩⟩⟩⟩ <;> simp at hyl
      exact ⟨c0, c1, c2, rfl⟩
    have f0 : DataW.trod enc Try.prog W base sp hd n' 5 (([c0, c1, c2].drop 0).take (Try.prog.cellsOf 5)) = some y0 := hfs 0 _ rfl
    have f1 : DataW.trod enc Try.prog W base sp hd n' 3 (([c0, c1, c2].drop 1).take (Try.prog.cellsOf 3)) = some y1 := hfs 1 _ rfl
    have f2 : DataW.trod enc Try.prog W base sp hd n' 24 (([c0, c1, c2].drop 2).take (Try.prog.cellsOf 24)) = some y2 := hfs 2 _ rfl
    rw [cells5] at f0
    rw [cellsI] at f1
    rw [cellsF] at f2
    have f0 : DataW.trod enc Try.prog W base sp hd n' 5 [c0] = some y0 := f0
    have f1 : DataW.trod enc Try.prog W base sp hd n' 3 [c1] = some y1 := f1
    have f2 : DataW.trod enc Try.prog W base sp hd n' 24 [c2] = some y2 := f2
    obtain ⟨d, e0, _, hwd⟩ := DataW.trod_int Try.underlying5 f0
    obtain ⟨y, e1, hwy⟩ := trod_i f1
    obtain ⟨z, e2, hwz⟩ := trod_f f2
    injection e0 with e0
    injection e1 with e1
    injection e2 with e2
    subst e0 e1 e2
    have a0 : W.cell? (p.add (j * 3)) = some (.int .u8 d) := hat 0 (by omega)
    have a1 : W.cell? ⟨(p.add (j * 3)).block, (p.add (j * 3)).off + 1, none⟩ = some (.int .i64 y) := hat 1 (by omega)
    have a2 : W.cell? ⟨(p.add (j * 3)).block, (p.add (j * 3)).off + 2, none⟩ = some (.float .f64 z) := hat 2 (by omega)
    have hlt := World.block_lt_of_cell? W _ a0
    rw [add_block] at hlt
    exact ⟨p, d, y, z, rfl, hlt, a0, a1, a2, bounds_u8 hwd, bounds_i64 hwy, wf_f hwz⟩
end Go.Proofs.Ytfheamemoinfeaa
