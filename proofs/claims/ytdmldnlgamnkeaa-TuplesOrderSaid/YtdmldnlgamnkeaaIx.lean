/- Contracts of the document's Index and Get (no statement of its own). No condition. -/
import Derived.Test.YtdmldnlgamnkeaaRs
namespace Go.Proofs.Ytdmldnlgamnkeaa
open Go.RowKit
set_option linter.unusedVariables false
theorem tupL_inj {l : List Nat} {i j : Nat} (hi : i < prodL l) (hj : j < prodL l) (h : tupL l i = tupL l j) : i = j := by
  rw [← num_tup hi, ← num_tup hj, h]
set_option maxRecDepth 100000 in
set_option maxHeartbeats 4000000 in
theorem rindex_yes (As : Option Addr) (cs : Nat) (Ax : Option Addr) (nx cx P i : Nat) (l : List Nat) (w : World) (h6 : l.length ≤ 6) (hcs : l.length ≤ cs) (hls : ∀ n ∈ l, 1 ≤ n ∧ n ≤ 32) (hP : prodL l = P) (hP4 : P ≤ 4096) (hi : i < P) (hnx : l.length = nx) (hI : Ints w As l) (hX : Ints w Ax (tupL l i)) :
    Calls Try.prog 12 #[.slice As l.length cs, .slice Ax nx cx] w fun e w' => e = .returned (.int .i64 (i : Int)) ∧ Below w.heap.size w w' := by
  have HLS := Lib.hid hls
  have HP := Lib.hid hP
  have HI := Lib.hid hI
  have HX := Lib.hid hX
  have HNX := Lib.hid hnx
  clear hls hP hI hX hnx
  go_enter Try.func12, Try.ntmps12
  go_wp2_with fail
  refine (rall_any4 As l.length cs P l w rfl h6 hcs HLS.out HP.out hP4 HI.out).mono ?_
  rintro e w1 ⟨⟨Ar, cr, rfl, hR⟩, b1⟩
  have R1 := Lib.hid hR
  have B1 := Lib.hid b1
  clear hR b1
  go_wp2_with fail
  go_loopw [5, 6, 10] (fun _ _ v wr => ∃ j : Nat, j ≤ i ∧ v = .int .i64 j ∧ Below w1.heap.size w1 wr) (fun _ _ v _ => P - (intOf v).toNat)
  case atStart => exact ⟨0, Nat.zero_le _, rfl, Below.refl _ _⟩
  case round =>
    obtain ⟨j, hj, rfl, hb⟩ := hrel
    have HB := Lib.hid hb
    clear hb
    have hjP : j < P := by omega
    obtain ⟨Ar', cr', e1, hrow⟩ := (R1.out.below HB.out (Nat.le_refl _)).form
    obtain ⟨g, x, hA, hg, hc, hx⟩ := hrow j (by rw [allL_length, HP.out]; exact hjP)
    obtain rfl : Ar = Ar' := by injection e1
    subst hA
    have hx' : Own wr w.heap.size x (tupL l j) := by
      have e : nthT (allL l) j = tupL l j := allL_get l (by rw [HP.out]; exact hjP)
      rw [e] at hx
      exact hx
    obtain ⟨Ay, cy, rfl, hY⟩ := hx'.form
    rw [tupL_length] at hc
    have HY := Lib.hid hY
    clear hx hx' hrow e1 hY
    have i1 : (j : Int) < (P : Int) := by omega
    have i2 : (0 : Int) ≤ (j : Int) := by omega
    go_wp2_with fail
    refine (rsame_anyN _ _ _ _ _ _ (tupL l j) (tupL l i) _ (tupL_length l j) (by rw [tupL_length]; exact HNX.out) (by omega) HY.out ((HX.out.below B1.out (Nat.le_refl _)).below HB.out (Nat.le_refl _))).mono ?_
    rintro e w3 ⟨rfl, b3⟩
    have B3 := Lib.hid (then_ HB.out b3)
    clear b3
    by_cases hji : j = i
    · subst hji
      rw [decide_eq_true rfl]
      go_wp2_with fail
      go_ret
      exact ⟨rfl, then_ B1.out B3.out⟩
    · rw [decide_eq_false (fun e => hji (tupL_inj (by rw [HP.out]; exact hjP) (by rw [HP.out]; exact hi) e))]
      go_wp2_with fail
      go_roundw
      case rel => exact ⟨j + 1, by omega, by go_num, B3.out⟩
      case measure => simp [intOf]; omega
abbrev HoldG (wb : World) (b n P cs cc : Nat) (As : Option Addr) (gc oc i : Nat) (k v : Int) (W : World) : Prop :=
  W.cell? ⟨b, 0, none⟩ = some (.slice As n cs) ∧ W.cell? ⟨b, 2, none⟩ = some (.slice (some ⟨gc, oc, none⟩) P cc) ∧ W.cell? ⟨gc, oc + i, none⟩ = some (.int .i64 v) ∧ Below wb.heap.size wb W
theorem holdG {wb W W' : World} {b n P cs cc : Nat} {As : Option Addr} {gc oc i : Nat} {k v : Int} (H : HoldG wb b n P cs cc As gc oc i k v W) (hb : Below W.heap.size W W') : HoldG wb b n P cs cc As gc oc i k v W' := by
  obtain ⟨a0, a1, a2, h9⟩ := H
  have K : ∀ b i v, W.cell? ⟨b, i, none⟩ = some v → W'.cell? ⟨b, i, none⟩ = some v := fun b i v h => (hb.cell (p := ⟨b, i, none⟩) (World.block_lt_of_cell? W _ h)).trans h
  exact ⟨K _ _ _ a0, K _ _ _ a1, K _ _ _ a2, h9.trans (hb.mono h9.size)⟩
theorem HoldG.below {wb W : World} {b n P cs cc : Nat} {As : Option Addr} {gc oc i : Nat} {k v : Int} (H : HoldG wb b n P cs cc As gc oc i k v W) : Below wb.heap.size wb W := H.2.2.2
end Go.Proofs.Ytdmldnlgamnkeaa
