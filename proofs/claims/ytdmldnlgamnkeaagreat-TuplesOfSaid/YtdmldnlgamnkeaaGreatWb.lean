/- What is sorted of costs (no statement of its own). No condition. -/
import Derived.Test.YtdmldnlgamnkeaaGreatWa
import Derived.Test.YtdmldnlgamnkeaaGreatShels
import Derived.Sort.OwnSortedInts
namespace Go.Proofs.YtdmldnlgamnkeaaGreat
open Go.RowKit Go.Shelf Go.Sort
set_option linter.unusedVariables false
/-- Costs, sorted. -/
def sortZ (z : Nat → Int) (m : Nat) : List Int := (zL z m).mergeSort fun x y => decide (x ≤ y)
theorem sortZ_len (z : Nat → Int) (m : Nat) : (sortZ z m).length = m := by simp [sortZ, zL_len]
set_option maxHeartbeats 1000000 in
theorem sorted64_any (Bn m c : Nat) (A : Option Addr) (z : Nat → Int) (w : World) (hm1 : 1 ≤ m) (hm4 : m ≤ 100000) (hBn : Bn < w.heap.size) (hc0 : w.cell? ⟨Bn, 0, none⟩ = some (.slice A m c)) (hA : Zs w A m z) :
    Calls Tryz.prog 52 #[.func (.func 66) #[] #[.pointer (some ⟨Bn, 0, none⟩)]] w fun e w' => (∃ v, e = .returned v ∧ w'.ownsRow w.heap.size 2 1 v m ((sortZ z m).map (Value.int .i64))) ∧ Below w.heap.size w w' := by
  have C := Lib.hid (collect64_any Bn m c A z w hm4 hBn hc0 hA)
  clear hc0 hA
  go_enter Tryz.func52, Tryz.ntmps52
  go_wp2_with fail
  refine C.out.mono ?_
  rintro e w1 ⟨⟨v, rfl, hO⟩, hb⟩
  rw [← zL_costs] at hO
  obtain ⟨hl, ⟨rfl, h0⟩ | ⟨gb, cap, cur, rfl, hbase, hgb, r1, r2, r3, r4⟩⟩ := hO
  · omega
  · have HH : Hid (Holds (Value.int .i64) w1 gb 0 (zL z m).toArray) := Lib.hid (holds_of_blockI hgb (by rw [zL_len]; rw [Nat.mul_one] at r4; exact r4))
    have hgl : gb < w1.heap.size := (Array.getElem?_eq_some_iff.1 hgb).1
    have SS : Hid (Calls Tryz.prog 65 #[.slice (some ⟨gb, 0, none⟩) (zL z m).length cap] w1 fun e w' => e = .returned (.tuple #[]) ∧ ∃ n os, w' = grow (putRow (Value.int .i64) (Sort.ahead w1 n) gb 0 ((zL z m).mergeSort fun x y => decide (x ≤ y)).toArray) os) := Lib.hid (AnyM.slices_Sort_int Tryz.sort64 gb 0 cap (zL z m) w1 HH.out hgl (by rw [zL_len]; omega))
    have FIN : Hid (∀ (nn : Nat) (os : Array Obj), (grow (putRow (Value.int .i64) (Sort.ahead w1 nn) gb 0 (sortZ z m).toArray) os).ownsRow w.heap.size 2 1 (.slice (some ⟨gb, 0, none⟩) m cap) m ((sortZ z m).map (Value.int .i64)) ∧ Below w.heap.size w (grow (putRow (Value.int .i64) (Sort.ahead w1 nn) gb 0 (sortZ z m).toArray) os)) := Lib.hid fun nn os => by
      have h := ownsRow_sortedI (base := w.heap.size) (n := nn) (os := os) (ss := zL z m) (ts := sortZ z m) (by rw [sortZ_len, zL_len]) hbase hgb (by rw [zL_len]; omega) r2 r3
      rw [zL_len] at h
      exact ⟨h, hb.grown (grownBy_sortedI _) hb.size (fun j hj => by cases hj; exact hbase)⟩
    rw [zL_len] at SS
    clear hb hl hgb r1 r2 r3 r4
    go_wp2_with (go_at_call 65; refine SS.out.mono ?_; rintro e w' ⟨rfl, nn, os, rfl⟩)
    have F2 := Lib.hid (FIN.out nn os)
    clear FIN SS
    go_ret
    exact ⟨⟨_, rfl, F2.out.1⟩, F2.out.2⟩
end Go.Proofs.YtdmldnlgamnkeaaGreat
