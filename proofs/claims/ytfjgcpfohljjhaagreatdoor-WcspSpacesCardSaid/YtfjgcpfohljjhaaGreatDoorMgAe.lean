/- Texts of this seat laid together (no statement of its own). -/
import Derived.Test.YtfjgcpfohljjhaaGreatDoorMgAb
import Derived.Test.YtfjgcpfohljjhaaGreatDoorMgAd
namespace Go.Proofs.YtfjgcpfohljjhaaGreatDoor
open Go.RowKit
set_option linter.unusedVariables false
set_option maxRecDepth 100000 in
theorem samefun (k : Int) (sizes : List Nat) (f : FunM) (sv tv sv' tv' : Value) (w : World) (h : FunE w k sizes f (fun j => j < w.heap.size) sv tv) (h' : FunE w k sizes f (fun j => j < w.heap.size) sv' tv') (hs : ∀ x ∈ sizes, 1 ≤ x ∧ x ≤ 32) (hf : FunOk sizes f) (hl : FunLim sizes f) :
    Calls Tryz.prog 28 #[.agg #[sv, tv], .agg #[sv', tv']] w fun e w' => e = .returned (.bool true) ∧ Below w.heap.size w w' := by
  obtain ⟨As, cs, g, mb, A, c, N, rfl, -, rfl, h3, h4, h5, -⟩ := h
  obtain ⟨As', cs', g', mb', A', c', N', rfl, -, rfl, h3', h4', h5', -⟩ := h'
  have L6 : (pickN sizes f.scope).length ≤ 6 := by simp [pickN]; exact hl.1
  have L32 := pick_ok hs hf.below
  have hP : prodL (pickN sizes f.scope) ≤ 1073741824 := by
    have := take_le L6 (fun n hn => (L32 n hn).2) (pickN sizes f.scope).length
    rwa [List.take_length] at this
  obtain ⟨w1, hw1⟩ : ∃ w1, w.alloc (.cells #[.slice As f.scope.length cs, .pointer (some ⟨g, 0, none⟩)] 54) = w1 := ⟨_, rfl⟩
  have n1 : Below w.heap.size w w1 := hw1 ▸ new_val w _
  have n2 := then_ n1 (new_val w1 (.cells #[.slice As' f.scope.length cs', .pointer (some ⟨g', 0, none⟩)] 54))
  have hA : w1.heap[w.heap.size]? = some (.cells #[.slice As f.scope.length cs, .pointer (some ⟨g, 0, none⟩)] 54 (0, 0)) := by rw [← hw1]; exact heap_alloc_new w _
  have hs1 : w1.heap.size = w.heap.size + 1 := by rw [← hw1]; simp
  have hA2 := (heap_alloc_old w1 (.cells #[.slice As' f.scope.length cs', .pointer (some ⟨g', 0, none⟩)] 54) (show w.heap.size < w1.heap.size by omega)).trans hA
  have hB2 := heap_alloc_new w1 (.cells #[.slice As' f.scope.length cs', .pointer (some ⟨g', 0, none⟩)] 54)
  rw [hs1] at hB2
  have HA2 := Lib.hid hA2
  have HB2 := Lib.hid hB2
  rw [← hw1] at HA2 HB2
  have EQ := Lib.hid (fun W (hb : Below w.heap.size w W) => equal_yes As As' f.scope.length cs cs' f.scope W rfl (by have := hl.1; omega) (h3.below hb (Nat.le_refl _)) (h3'.below hb (Nat.le_refl _)))
  have SM := Lib.hid (fun W (hb : Below w.heap.size w W) => tpsame_ok g mb N c g' mb' N' c' _ A A' (pickN sizes f.scope) k _ _ (funF k f) (funF k f) W (h4.below hb) (h4'.below hb) L6 L32 rfl hP)
  have N2 := Lib.hid n2
  rw [← hw1] at N2
  clear h3 h4 h5 h3' h4' h5' hs hf hl L6 L32 hP n1 n2 hw1 hA hs1 hA2 hB2
  go_enter Tryz.func28, Tryz.ntmps28
  go_wp2_with (first
    | (go_at_call 18; refine (EQ.out _ N2.out).mono ?_; rintro e w3 ⟨rfl, hb⟩; have B3 := Lib.hid (then_ N2.out hb); have k1 : w3.cell? ⟨w.heap.size, 1, none⟩ = some (.pointer (some ⟨g, 0, none⟩)) := (hb.cell (p := ⟨w.heap.size, 1, none⟩) (Array.getElem?_eq_some_iff.1 HA2.out).1).trans (by rw [cell_of_row _ _ _ _ _ _ HA2.out]; rfl); have k2 : w3.cell? ⟨w.heap.size + 1, 1, none⟩ = some (.pointer (some ⟨g', 0, none⟩)) := (hb.cell (p := ⟨w.heap.size + 1, 1, none⟩) (Array.getElem?_eq_some_iff.1 HB2.out).1).trans (by rw [cell_of_row _ _ _ _ _ _ HB2.out]; rfl); clear hb)
    | (go_at_call 19; refine (SM.out _ B3.out).mono ?_; rintro e w4 ⟨r, rfl, hr, hb⟩; obtain rfl : r = true := hr.2 ⟨rfl, fun _ _ => rfl⟩; have B4 := Lib.hid (then_ B3.out hb); clear hb hr)
    | fail)
  go_ret
  exact ⟨rfl, B4.out⟩
set_option maxRecDepth 100000 in
set_option maxHeartbeats 1000000 in
theorem equalfunc_ok (fb cs cf fb' cs' cf' : Nat) (X X' : ByteArray) (k : Int) (sizes : List Nat) (fs : List FunM) (As Af As' Af' : Option Addr) (w : World) (H : FileR w fb X k sizes fs As Af cs cf) (H' : FileR w fb' X' k sizes fs As' Af' cs' cf') (hn : fs.length ≤ 256) (hs : ∀ x ∈ sizes, 1 ≤ x ∧ x ≤ 32) (hf : ∀ f ∈ fs, FunOk sizes f ∧ FunLim sizes f) :
    Calls Tryz.prog 27 #[.slice Af fs.length cf, .slice Af' fs.length cf', .func (.func 28) #[] #[]] w fun e w' => e = .returned (.bool true) ∧ Below w.heap.size w w' := by
  have HR := Lib.hid H
  have HR' := Lib.hid H'
  have HS := Lib.hid hs
  have HF := Lib.hid hf
  clear H H' hs hf
  go_enter Tryz.func27, Tryz.ntmps27
  go_wp2_with fail
  go_loopw [17] (fun i wr => ∃ j : Nat, j ≤ fs.length ∧ i = .int .i64 j ∧ Below w.heap.size w wr) (fun i _ => fs.length - (intOf i).toNat)
  case atStart => exact ⟨0, Nat.zero_le _, rfl, Below.refl _ _⟩
  case round =>
    obtain ⟨j, hj, rfl, hB⟩ := hrel
    have HB := Lib.hid hB
    clear hB
    by_cases hlt : j < fs.length
    · obtain ⟨f, hfj⟩ : ∃ f, fs[j]? = some f := ⟨_, List.getElem?_eq_getElem hlt⟩
      have HRR := HR.out.below HB.out
      have HRR' := HR'.out.below HB.out
      obtain ⟨gf, sv, tv, rfl, hgf, k0, k1, he⟩ := HRR.funs j f hfj
      obtain ⟨gf', sv', tv', rfl, hgf', k0', k1', he'⟩ := HRR'.funs j f hfj
      obtain ⟨As1, cs1, g1, mb1, A1, c1, N1, hsv, -, htv, -⟩ := id he
      obtain ⟨As2, cs2, g2, mb2, A2, c2, N2, hsv', -, htv', -⟩ := id he'
      subst hsv htv hsv' htv'
      have hm := HF.out f (List.mem_of_getElem? hfj)
      have MC := Lib.hid (fun W (hb : Below wr.heap.size wr W) => samefun k sizes f _ _ _ _ W (he.below hb) (he'.below hb) HS.out hm.1 hm.2)
      have j2 : (0 : Int) ≤ (j : Int) := by omega
      have n1 := Lib.hid (then_ (new_val wr (.cells #[.slice As1 f.scope.length cs1, .pointer (some ⟨g1, 0, none⟩)] 54)) (new_val _ (.cells #[.slice As2 f.scope.length cs2, .pointer (some ⟨g2, 0, none⟩)] 54)))
      have m0 := ((new_val wr (.cells #[.slice As1 f.scope.length cs1, .pointer (some ⟨g1, 0, none⟩)] 54)).cell (p := ⟨gf', j * 2, none⟩) hgf').trans k0'
      have m1 := ((new_val wr (.cells #[.slice As1 f.scope.length cs1, .pointer (some ⟨g1, 0, none⟩)] 54)).cell (p := ⟨gf', j * 2 + 1, none⟩) hgf').trans k1'
      clear hfj HRR HRR' he he' hm hgf hgf'
      go_wp2_with (first | (go_at_call 28; refine (MC.out _ n1.out).mono ?_; rintro e w2 ⟨rfl, hb⟩; replace hb := Lib.hid (then_ HB.out (then_ n1.out hb))) | fail)
      exact ⟨⟨j + 1, by omega, by simp, hb.out⟩, by simp [intOf]; omega⟩
    · have d1 : decide ((j : Int) < (fs.length : Int)) = false := decide_eq_false (by omega)
      go_wp2_with fail
      go_ret
      exact ⟨rfl, HB.out⟩
abbrev HoldE (w : World) (fb fb' : Nat) (X : ByteArray) (k : Int) (n m : Nat) (As As' Af Af' : Option Addr) (cs cs' cf cf' : Nat) (W : World) : Prop :=
  W.cell? ⟨fb, 0, none⟩ = some (.string X) ∧ W.cell? ⟨fb, 1, none⟩ = some (.int .i64 k) ∧ W.cell? ⟨fb, 2, none⟩ = some (.slice As n cs) ∧ W.cell? ⟨fb, 3, none⟩ = some (.slice Af m cf) ∧
  W.cell? ⟨fb', 0, none⟩ = some (.string X) ∧ W.cell? ⟨fb', 1, none⟩ = some (.int .i64 k) ∧ W.cell? ⟨fb', 2, none⟩ = some (.slice As' n cs') ∧ W.cell? ⟨fb', 3, none⟩ = some (.slice Af' m cf') ∧ Below w.heap.size w W
theorem HoldE.below {w W : World} {fb fb' : Nat} {X : ByteArray} {k : Int} {n m : Nat} {As As' Af Af' : Option Addr} {cs cs' cf cf' : Nat} (h : HoldE w fb fb' X k n m As As' Af Af' cs cs' cf cf' W) : Below w.heap.size w W := h.2.2.2.2.2.2.2.2
theorem holdE {w W W' : World} {fb fb' : Nat} {X : ByteArray} {k : Int} {n m : Nat} {As As' Af Af' : Option Addr} {cs cs' cf cf' : Nat} (h : HoldE w fb fb' X k n m As As' Af Af' cs cs' cf cf' W) (hb : Below W.heap.size W W') : HoldE w fb fb' X k n m As As' Af Af' cs cs' cf cf' W' := by
  obtain ⟨a0, a1, a2, a3, b0, b1, b2, b3, hB⟩ := h
  have g := World.block_lt_of_cell? W _ a0
  have g' := World.block_lt_of_cell? W _ b0
  exact ⟨(hb.cell (p := ⟨fb, 0, none⟩) g).trans a0, (hb.cell (p := ⟨fb, 1, none⟩) g).trans a1, (hb.cell (p := ⟨fb, 2, none⟩) g).trans a2, (hb.cell (p := ⟨fb, 3, none⟩) g).trans a3,
    (hb.cell (p := ⟨fb', 0, none⟩) g').trans b0, (hb.cell (p := ⟨fb', 1, none⟩) g').trans b1, (hb.cell (p := ⟨fb', 2, none⟩) g').trans b2, (hb.cell (p := ⟨fb', 3, none⟩) g').trans b3, hB.trans (hb.mono hB.size)⟩
theorem holdE_of {w : World} {fb fb' : Nat} {X : ByteArray} {k : Int} {sizes : List Nat} {fs : List FunM} {As As' Af Af' : Option Addr} {cs cs' cf cf' : Nat} (h : FileR w fb X k sizes fs As Af cs cf) (h' : FileR w fb' X k sizes fs As' Af' cs' cf') : HoldE w fb fb' X k sizes.length fs.length As As' Af Af' cs cs' cf cf' w := by
  obtain ⟨a0, a1, a2, a3⟩ := h.cells
  obtain ⟨b0, b1, b2, b3⟩ := h'.cells
  exact ⟨a0, a1, a2, a3, b0, b1, b2, b3, Below.refl _ _⟩
end Go.Proofs.YtfjgcpfohljjhaaGreatDoor
