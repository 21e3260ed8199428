/- Contracts of the document's Drop of a list, of ContainsFunc, and of queue's Clear (no statement of its own). -/
import Derived.Test.YtpklbaebfeoceaaQuD
namespace Go.Proofs.Ytpklbaebfeoceaa
open Go.RowKit
open Go.Maps (Keyed)
set_option linter.unusedVariables false
theorem info_item2 : (Try.prog.info? 33).map (fun i => (i.zero, i.size, i.bytes)) = some (some (.agg #[.int .i64 0, .int .i64 0]), 2, 16) := by kernel_rfl
theorem take_succ_nth (L : List It) (k : Nat) (h : k < L.length) : L.take (k + 1) = L.take k ++ [nth L k] := by
  rw [List.take_succ_eq_append_getElem h, nth_get L k h]
theorem less_take (L : List It) (x : Int) (k : Nat) (h : k < L.length) : less (L.take (k + 1)) x = if (nth L k).1 = x then less (L.take k) x else less (L.take k) x ++ [nth L k] := by
  rw [take_succ_nth L k h]
  unfold less
  rw [List.filter_append]
  by_cases e : (nth L k).1 = x
  · rw [if_pos e]; simp [e]
  · rw [if_neg e]; simp [e]
/-- append of one item to a list of the document's. -/
theorem LI.pushed {w : World} {B : Nat} {v : Value} {L : List It} {a : It} (h : w.ownsRow B 33 2 v (L.length + 1) (flat L ++ [.int .i64 a.1, .int .i64 a.2])) : LI w B v (L ++ [a]) := by
  unfold LI
  rw [List.length_append, List.length_singleton, flat_append]
  exact h
theorem cell_two_new' (w : World) (o : Obj) (x y : Value) (t : TypeId) : ∀ j u, [x, y][j]? = some u → ((w.alloc o).alloc (.cells #[x, y] t)).cell? ((⟨w.heap.size + 1, 0, none⟩ : Addr).add j) = some u := by
  have h := cell_two_new (w.alloc o) x y t
  rw [World.size_alloc] at h
  exact h
def RDropP (L : List It) (x : Int) (w : World) (e : Ending) (w' : World) : Prop := ∃ v, e = .returned (.tuple #[v, .bool (decide ((less L x).length < L.length))]) ∧ LI w' w.heap.size v (less L x) ∧ w.grownBy w' none
set_option maxRecDepth 100000 in
set_option maxHeartbeats 4000000 in
theorem rdrop_any {B : Nat} {v : Value} {L : List It} {x : Int} {w : World} (h : LI w B v L) (hl : L.length < 100000) : Calls Try.prog 13 #[v, .int .i64 x] w (RDropP L x w) := by
  obtain ⟨A, c, rfl, hA⟩ := h.form
  obtain ⟨i0, hi, hz0, hz1, hz2⟩ := info_parts info_item2
  have I0 := Lib.hid hi
  have Z0 := Lib.hid hz0
  have Z1 := Lib.hid hz1
  have Z2 := Lib.hid hz2
  have HI := Lib.hid h
  have HA := Lib.hid hA
  clear h hA hi hz0 hz1 hz2
  go_enter Try.func13, Try.ntmps13
  go_wp2_with fail
  go_loopw [6, 11] (fun o i wr => ∃ k : Nat, k ≤ L.length ∧ i = .int .i64 (k : Int) ∧ w.grownBy wr none ∧ LI wr w.heap.size o (less (L.take k) x)) (fun _ i _ => L.length - (intOf i).toNat)
  case atStart => exact ⟨0, Nat.zero_le _, rfl, World.grownBy_alloc_refl w, World.ownsRow_nil _ _ _ _⟩
  case round =>
    obtain ⟨k, hk, rfl, hg, hO⟩ := hrel
    have HG := Lib.hid hg
    have HO := Lib.hid hO
    clear hO
    by_cases hlt : k < L.length
    · obtain ⟨g, hAe, hg1, hg2⟩ := HA.out (by omega)
      have hLI := (show LI wr B (.slice (some ⟨g, 0, none⟩) L.length c) L from by rw [← hAe]; exact HI.out.kept0 hg)
      have d0 := hLI.at0 k hlt
      have d1 := hLI.at1 k hlt
      have hst := less_take L x k hlt
      have hll : (less (L.take k) x).length ≤ k := by have := less_le (L.take k) x; rw [List.length_take] at this; omega
      have HLL := Lib.hid hll
      have hnk : nth L k = ((nth L k).1, (nth L k).2) := rfl
      generalize hx1 : (nth L k).1 = x1 at *
      generalize hp1 : (nth L k).2 = p1 at *
      have HNK := Lib.hid hnk
      have HST := Lib.hid hst
      subst hAe
      clear hLI hg hg1 hg2 hst hnk hll hx1 hp1
      by_cases e : x1 = x
      · have hE := Lib.hid e
        have e1 : (x1 == x) = true := by simp [e]
        have FIN := Lib.hid (show w.grownBy (wr.alloc (.cells #[.int .i64 x1, .int .i64 p1] 33)) none ∧ LI (wr.alloc (.cells #[.int .i64 x1, .int .i64 p1] 33)) w.heap.size u6 (less (L.take (k + 1)) x) from
          ⟨HG.out.trans (World.grownBy_alloc _ _ _), by rw [HST.out, if_pos hE.out]; exact HO.out.kept0 (World.grownBy_alloc _ _ _)⟩)
        clear e
        go_wp2_with fail
        go_roundw
        case rel => exact ⟨k + 1, by omega, by go_num, FIN.out.1, FIN.out.2⟩
        case measure => simp [intOf]; omega
      · have e1 : (x1 == x) = false := by simp [e]
        have hE := Lib.hid e
        clear e
        go_wp2_with (at_builtin; refine wpList_append_own_at _ rfl _ _ 26 rfl w.heap.size 33 i0 (.agg #[.int .i64 0, .int .i64 0]) 2 16 Try.underlying26 I0.out Z0.out Z1.out Z2.out rfl (by decide) u6 (less (L.take k) x).length (flat (less (L.take k) x)) rfl (World.ownsRow.alloc (World.ownsRow.alloc HO.out _) _) ⟨wr.heap.size + 1, 0, none⟩ 1 1 [.int .i64 x1, .int .i64 p1] rfl rfl (cell_two_new' wr _ _ _ _) (by simp [Value.oneCell']) (by have := HLL.out; unfold maxLen; omega) (by have := HLL.out; omega) (by have := HG.out.size; simp; omega) ?_)
        intro v2 w2 hO2 hg2 _ hloc
        have FIN := Lib.hid (show w.grownBy w2 none ∧ LI w2 w.heap.size v2 (less (L.take (k + 1)) x) from
          ⟨⟨hg2.os.trans HG.out.os, hg2.tape.trans HG.out.tape, hg2.output.trans HG.out.output, by have h1 := hg2.size; have h2 := HG.out.size; simp at h1; omega, fun j hj _ => by
              have h2 := HG.out.size
              refine (hg2.block j (by simp; omega) (fun q => ?_)).trans (((Below.heap_alloc _ _ j (by simp; omega)).trans (Below.heap_alloc _ _ j (by omega))).trans (HG.out.block j hj (by simp)))
              have := (World.ownsRow.lt HO.out j q.symm).1
              omega⟩,
           by rw [HST.out, if_neg hE.out, HNK.out]; exact LI.pushed (a := (x1, p1)) hO2⟩)
        clear hO2 hg2 hloc
        go_wp2_with fail
        go_roundw
        case rel => exact ⟨k + 1, by omega, by go_num, FIN.out.1, FIN.out.2⟩
        case measure => simp [intOf]; omega
    · have e : k = L.length := by omega
      subst e
      have hO3 := HO.out
      rw [List.take_length] at hO3
      obtain ⟨A2, c2, hv, _⟩ := hO3.form
      subst hv
      have HO3 := Lib.hid hO3
      clear hO3 hg HO
      go_wp2_with fail
      go_ret2
      exact ⟨_, rfl, HO3.out, HG.out⟩
end Go.Proofs.Ytpklbaebfeoceaa
