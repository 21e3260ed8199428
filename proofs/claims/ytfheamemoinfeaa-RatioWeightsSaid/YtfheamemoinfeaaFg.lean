/- What came in as a list of floats (no statement of its own). -/
import Derived.Test.YtfheamemoinfeaaFe
import Derived.OpenShut
import Derived.ProofKit
namespace Go.Proofs.Ytfheamemoinfeaa
open Go.RowKit
open RtA
set_option linter.unusedVariables false
theorem cellsF : Try.prog.cellsOf 24 = 1 := by kernel_rfl
theorem trod_f {H : Type} {enc : TypeId × Value → H} {W : World} {base : Nat} {sp : Nat → Bool} {hd : Bool} {fuel : Nat} {cs : List Value} {x : DataW H × List MemPlace}
    (h : DataW.trod enc Try.prog W base sp hd fuel 24 cs = some x) : ∃ b, cs = [.float .f64 b] ∧ (Lit.float .f64 b).wf = true := by
  cases fuel with
  | zero => simp [DataW.trod] at h
  | succ n =>
    unfold DataW.trod at h
    rw [Try.underlying24] at h
    split at h <;> simp_all
theorem wf_f {b : Nat} (h : (Lit.float .f64 b).wf = true) : b < 18446744073709551616 := by
  simp [Lit.wf] at h
  exact h
/-- A list of floats that came in. -/
def InF (w : World) (A : Option Addr) (n c : Nat) (l : List Nat) : Prop := l.length = n ∧ SrcF w A l ∧ (A = none → c = 0) ∧ n ≤ c ∧ c ≤ maxLen ∧ ∀ x ∈ l, x < 18446744073709551616
theorem floats_came {H : Type} {enc : TypeId × Value → H} {W : World} {base : Nat} {sp : Nat → Bool} {hd : Bool} {fuel : Nat} {a : Option Addr} {len cap : Nat} {x : DataW H × List MemPlace}
    (hf : DataW.trod enc Try.prog W base sp hd fuel 22 (Value.cells (.slice a len cap)).toList = some x) : ∃ l, InF W a len cap l := by
  rcases Go.Deep.open_slice1 Try.underlying22 cellsF hf with ⟨hcs, _⟩ | ⟨p, l, c, m, nf, V, D, Pl, hcs, _, hl, hm, hmm, _, hi⟩
  · simp [Value.cells] at hcs
    obtain ⟨rfl, rfl, rfl⟩ := hcs
    exact ⟨[], rfl, .inl rfl, fun _ => rfl, Nat.le_refl _, by simp [maxLen], fun x hx => by cases hx⟩
  · simp [Value.cells] at hcs
    obtain ⟨rfl, rfl, rfl⟩ := hcs
    have hle : len ≤ m := by rw [hmm]; split <;> omega
    have hb : ∀ i, i < len → ∃ b, V i = .float .f64 b ∧ (Lit.float .f64 b).wf = true := by
      intro i h
      obtain ⟨b, e, hw⟩ := trod_f (hi i (by omega)).2
      injection e with e
      exact ⟨b, e, hw⟩
    obtain ⟨f, hfb⟩ := Go.Deep.choose_lt hb
    have hlen : ((List.range len).map f).length = len := by simp
    have hn : ∀ j, j < len → nthF ((List.range len).map f) j = f j := by
      intro j hj
      unfold nthF
      rw [List.getD_eq_getElem?_getD, List.getElem?_map, List.getElem?_range hj]
      rfl
    refine ⟨(List.range len).map f, hlen, ?_, (fun e => by cases e), hl, hm, fun x hx => ?_⟩
    · by_cases h0 : len = 0
      · left; rw [h0]; rfl
      · refine .inr ⟨p, rfl, ?_, fun j hj => ?_⟩
        · have := World.block_lt_of_cell? W _ (hi 0 (by omega)).1
          rw [add_block] at this
          exact this
        · rw [hlen] at hj
          rw [(hi j (by omega)).1, (hfb j hj).1, hn j hj]
    · rw [List.mem_map] at hx
      obtain ⟨j, hj, rfl⟩ := hx
      exact wf_f (hfb j (List.mem_range.1 hj)).2
end Go.Proofs.Ytfheamemoinfeaa
