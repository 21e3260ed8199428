/- Each number waits at most once, with what was pushed last; what was dropped does not come: the law returns true, for every pushes and drops; no condition. -/
import Derived.Test.YtpklbaebfeoceaaRows
import Derived.Test.YtpklbaebfeoceaaQbO
import Derived.WalkKit
import Derived.Deep.Slices
import Derived.OpenShut
import Derived.ProofKit
import Derived.OpenShut
import Derived.ShutString
import Derived.ChangeOld
import Derived.Below
namespace Go.Proofs.Ytpklbaebfeoceaa.queueOnce
open Go.ChangeShapes Go.WideShapes Go.ChangeAt Go.RowKit
open Go.ChangeMaps (open_string shut_string)
set_option linter.unusedVariables false

theorem own : ownKnob Try.prog.godebug = none := by kernel_rfl
theorem laidOut : laidOutB Try.prog = true := by kernel_rfl

def IsRow (k : IntKind) (w : World) (a : Option Addr) (len cap : Nat) (zs : List Int) : Prop :=
  (a = none ∧ len = 0 ∧ cap = 0 ∧ zs = []) ∨
  ∃ x, a = some x ∧ len ≤ cap ∧ cap ≤ maxLen ∧ zs.length = cap ∧ (∀ i, i < zs.length → w.cell? (x.add i) = some (.int k (zs.getD i 0))) ∧ ∀ n ∈ zs, (Lit.int k n).wf = true

theorem cells51 : Try.prog.cellsOf 51 = 2 := by kernel_rfl
theorem cells5 : Try.prog.cellsOf 5 = 1 := by kernel_rfl
/-- What came in: pairs of bytes. -/
def Pairs (w : World) (a : Option Addr) (len : Nat) (z : Nat → Int × Int) : Prop :=
  (∀ j, j < len → ∃ p : Addr, a = some p ∧ p.block < w.heap.size ∧ w.cell? (p.add (j * 2)) = some (.int .u8 (z j).1) ∧ w.cell? ⟨(p.add (j * 2)).block, (p.add (j * 2)).off + 1, none⟩ = some (.int .u8 (z j).2) ∧ 0 ≤ (z j).1 ∧ (z j).1 ≤ 255 ∧ 0 ≤ (z j).2 ∧ (z j).2 ≤ 255) ∧ (len : Int) ≤ 9223372036854775807
theorem block_add (a : Addr) (n : Nat) : (a.add n).block = a.block := by unfold Addr.add; split <;> rfl
theorem pairs_came {H : Type} {enc : TypeId × Value → H} {W : World} {base : Nat} {sp : Nat → Bool} {hd : Bool} {fuel : Nat} {a : Option Addr} {len cap : Nat} {x : DataW H × List MemPlace}
    (hf : DataW.trod enc Try.prog W base sp hd fuel 49 (Value.slice a len cap).cells.toList = some x) : ∃ z, Pairs W a len z := by
  rcases Go.Deep.open_slice Try.underlying49 hf with ⟨hcs, _⟩ | ⟨p, l, c, m, nf, D, Pl, hcs, _, hl, hm, hmm, _, hi⟩
  · simp [Value.cells] at hcs
    obtain ⟨rfl, rfl, rfl⟩ := hcs
    exact ⟨fun _ => (0, 0), fun j hj => absurd hj (Nat.not_lt_zero _), by omega⟩
  · simp [Value.cells] at hcs
    obtain ⟨rfl, rfl, rfl⟩ := hcs
    have key : ∀ j, j < len → ∃ d : Int × Int, W.cell? (p.add (j * 2)) = some (.int .u8 d.1) ∧ W.cell? ⟨(p.add (j * 2)).block, (p.add (j * 2)).off + 1, none⟩ = some (.int .u8 d.2) ∧ 0 ≤ d.1 ∧ d.1 ≤ 255 ∧ 0 ≤ d.2 ∧ d.2 ≤ 255 := by
      intro j hj
      have hle : len ≤ m := by rw [hmm]; split <;> omega
      obtain ⟨cs', hc, ht⟩ := hi j (by omega)
      rw [cells51] at hc
      obtain ⟨_, hlen, hat⟩ := World.cells?_some hc
      obtain ⟨ys, n', _, _, hcl, hyl, hfs⟩ := DataW.trod_array Try.underlying51 ht
      obtain ⟨c0, c1, rfl⟩ : ∃ c0 c1, cs' = [c0, c1] := by
        rcases cs' with _ | ⟨c0, _ | ⟨c1, _ | ⟨c2, r⟩⟩⟩ <;> simp at hlen
        exact ⟨c0, c1, rfl⟩
      obtain ⟨y0, y1, rfl⟩ : ∃ y0 y1, ys = [y0, y1] := by
        rcases ys with _ | ⟨c0, _ | ⟨c1, _ | ⟨c2, r⟩⟩⟩ <;> simp at hyl
        exact ⟨c0, c1, rfl⟩
      have f0 := hfs 0 (by omega)
      have f1 := hfs 1 (by omega)
      rw [cells5] at f0 f1
      have f0 : DataW.trod enc Try.prog W base sp hd n' 5 [c0] = some y0 := f0
      have f1 : DataW.trod enc Try.prog W base sp hd n' 5 [c1] = some y1 := f1
      obtain ⟨d0, e0, _, hw0⟩ := DataW.trod_int Try.underlying5 f0
      obtain ⟨d1, e1, _, hw1⟩ := DataW.trod_int Try.underlying5 f1
      injection e0 with e0
      injection e1 with e1
      subst e0 e1
      have a0 : W.cell? (p.add (j * 2)) = some (.int .u8 d0) := hat 0 (by omega)
      have a1 : W.cell? ⟨(p.add (j * 2)).block, (p.add (j * 2)).off + 1, none⟩ = some (.int .u8 d1) := hat 1 (by omega)
      exact ⟨(d0, d1), a0, a1, (wf_u8 hw0).1, (wf_u8 hw0).2, (wf_u8 hw1).1, (wf_u8 hw1).2⟩
    obtain ⟨z, hz⟩ : ∃ z : Nat → Int × Int, ∀ j, j < len → W.cell? (p.add (j * 2)) = some (.int .u8 (z j).1) ∧ W.cell? ⟨(p.add (j * 2)).block, (p.add (j * 2)).off + 1, none⟩ = some (.int .u8 (z j).2) ∧ 0 ≤ (z j).1 ∧ (z j).1 ≤ 255 ∧ 0 ≤ (z j).2 ∧ (z j).2 ≤ 255 :=
      ⟨fun j => if h : j < len then Classical.choose (key j h) else (0, 0), fun j hj => by simp only [dif_pos hj]; exact Classical.choose_spec (key j hj)⟩
    refine ⟨z, fun j hj => ?_, by unfold maxLen at hm; omega⟩
    obtain ⟨q1, q2, q3⟩ := hz j hj
    have hlt := World.block_lt_of_cell? W _ q1
    rw [block_add] at hlt
    exact ⟨p, rfl, hlt, q1, q2, q3⟩
theorem walk (a0 : Option Addr) (len0 cap0 : Nat) (z0 : Nat → Int × Int) (a1 : Option Addr) (len1 cap1 : Nat) (z1 : List Int) (w : World) (w0 : Pairs w a0 len0 z0) (w1 : IsRow .u8 w a1 len1 cap1 z1) :
    Calls Try.prog 7 #[.slice a0 len0 cap0, .slice a1 len1 cap1] w fun e w' => e = .returned (.bool true) ∧ Below w.heap.size w w' := by
  obtain ⟨u1, u2, u3⟩ := u8_came w1
  exact QbO.main a0 len0 cap0 z0 a1 len1 cap1 (fun j => z1.getD j 0) w w0.1 w0.2 u2 u3


set_option maxRecDepth 100000 in
theorem lifted (os : Os) (started : os.Started) (H : Type) (enc : TypeId × Value → H) :
    ReturnsInHanded {} Try.checked os 7 .any (Rows.queueOnceSpec.pre6 enc Try.prog Try.f7 Rows.queueOnceRow.domain false) (Rows.queueOnceSpec.post enc Try.prog Try.f7 false true false false) := by
  refine returnsInHanded_of_change (C := Try.checked) own started (by kernel_rfl) Try.func7
    (ChangeSpec.witness6 (enc := enc) (C := Try.checked) false ⟨#[], #[.slice none 0 0, .slice none 0 0], []⟩ 8 (by kernel_rfl) (by kernel_rfl) (by kernel_rfl) (by kernel_rfl)) ?_
  intro W base args ds gs before hval0 hW hcnd _
  have hval : ∀ (j : Nat) t v, Try.f7.params[j]? = some t → args[j]? = some v → Value.okWide Try.prog W .any base t v := hval0
  have hW' := hW
  obtain ⟨p, q, hA0, hV, rfl, hfz, hnd⟩ := hW
  have hA : DataW.TrodAll enc Try.prog W 0 (fun _ => true) true Try.f7.params.toList args.toList ds p := hA0
  rw [Try.params7] at hA hval
  obtain ⟨v0, vs0, d0, ds0, p0, q0, hargs, rfl, rfl, h0, r0⟩ := trodAll_cons hA
  obtain ⟨v1, vs1, d1, ds1, p1, q1, rfl, rfl, rfl, h1, r1⟩ := trodAll_cons r0
  obtain ⟨rfl, rfl, rfl⟩ := trodAll_nil r1
  obtain rfl : args = #[v0, v1] := by cases args; simp_all
  obtain ⟨rfl, rfl⟩ := trodVars_none hV
  obtain ⟨a0, len0, cap0, rfl⟩ := okWide_slice Try.underlying49 (hval 0 49 v0 rfl rfl)
  have k0 := h0
  have lt0 : ∀ x ∈ p0, x.block < W.heap.size := by obtain ⟨m, hm⟩ := k0; exact DataW.trod_lt m _ _ _ hm
  obtain ⟨z0, w0⟩ : ∃ z, Pairs W a0 len0 z := by
    obtain ⟨fuel, hf⟩ := h0
    exact pairs_came hf
  obtain ⟨a1, len1, cap1, rfl⟩ := okWide_slice Try.underlying44 (hval 1 44 v1 rfl rfl)
  have k1 := h1
  have lt1 : ∀ x ∈ p1, x.block < W.heap.size := by obtain ⟨m, hm⟩ := k1; exact DataW.trod_lt m _ _ _ hm
  obtain ⟨z1, w1⟩ : ∃ zs, IsRow .u8 W a1 len1 cap1 zs := by
    obtain ⟨fuel, hf⟩ := h1
    rcases open_ints Try.underlying44 Try.underlying5 (by kernel_rfl) hf with ⟨hcs, _⟩ | ⟨x, l, c, zs, hcs, _, hl, hm, hz, _, hcell, hwz⟩
    · simp [Value.cells] at hcs
      obtain ⟨rfl, rfl, rfl⟩ := hcs
      exact ⟨[], .inl ⟨rfl, rfl, rfl, rfl⟩⟩
    · simp [Value.cells] at hcs
      obtain ⟨rfl, rfl, rfl⟩ := hcs
      exact ⟨zs, .inr ⟨_, rfl, hl, hm, by simpa using hz, hcell, hwz⟩⟩
  clear hA0 hval0
  refine (walk a0 len0 cap0 z0 a1 len1 cap1 z1 W w0 w1).mono fun e W' ⟨he, bel⟩ => ?_
  subst he
  exact ⟨_, rfl, _, _, _, [], _, [], hW', trodAll_mk1 (shut_bool Try.underlying4 _), (trodAll_cons_mk (Below.trod laidOut (by kernel_rfl) (of_decide_eq_true (by kernel_rfl)) k0 bel lt0) (trodAll_cons_mk (Below.trod laidOut (by kernel_rfl) (of_decide_eq_true (by kernel_rfl)) k1 bel lt1) trodAll_mk0)), rfl, bel.frame _, fun h => by cases h⟩

theorem over : Rows.queueOnceRow.holds Try.pinned (OpenSpec.ofChange Rows.queueOnceSpec) :=
  OpenClaim.holds_of_wide 7 Try.f7 rfl rfl rfl rfl rfl rfl rfl ⟨rfl, rfl, rfl, rfl, rfl⟩ rfl rfl rfl rfl rfl (by kernel_rfl) Try.func7 (by kernel_rfl)
    (of_decide_eq_true (by kernel_rfl)) (by unfold Func.isWrapper; first | (rw [if_pos (by decide +kernel)]; kernel_rfl) | (rw [if_neg (by decide +kernel)]; exact ⟨rfl, rfl⟩))
    (fun os started H enc _ => lifted os started H enc)

theorem proved : Rows.QueueOnceSaid := over
#print axioms proved
end Go.Proofs.Ytpklbaebfeoceaa.queueOnce
