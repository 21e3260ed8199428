/- The contract of trail's put where the slice of cells grows (no statement of its own). -/
import Derived.Test.YtafcecacldafgaaTrD
namespace Go.Proofs.Ytafcecacldafgaa
open Go.RowKit
open Go.Maps (Keyed)
set_option linter.unusedVariables false
set_option maxRecDepth 100000 in
set_option maxHeartbeats 1000000 in
theorem put_new {P : Nat → Prop} {w : World} {b m i : Nat} {x p : Int} {v1 v2 v3 : Value} {T : Tr} (h1 : Hd w b T.size T.era v1 v2 v3 m) (h2 : Parts P w b m v1 v2 v3 T.fs T.marks T.kept) (hP : ∀ k, w.heap.size ≤ k → P k) (hi : T.fs.length ≤ i) (hl : i < 2097152) :
    Calls Try.prog 31 #[.pointer (some ⟨b, 0, none⟩), .int .i64 (i : Int), .agg #[.int .i64 x, .int .i64 p]] w (AndM P w b m v2 v3 (T.put i (x, p)) (.tuple #[])) := by
  have hfar := far3 h1 h2
  have hga := World.grownBy_alloc w (.cells #[.int .i64 x, .int .i64 p] 66) none
  obtain ⟨A, c, hv, _⟩ := row_form h2.r1
  have h2a := h2.grown hga
  have h1a := h1.kept hga (by simp)
  have k0 : (w.alloc (.cells #[.int .i64 x, .int .i64 p] 66)).cell? ⟨w.heap.size, 0, none⟩ = some (.int .i64 x) := by rw [cell_of_row _ _ _ _ _ _ (heap_alloc_new w _)]; rfl
  have k1 : (w.alloc (.cells #[.int .i64 x, .int .i64 p] 66)).cell? ⟨w.heap.size, 1, none⟩ = some (.int .i64 p) := by rw [cell_of_row _ _ _ _ _ _ (heap_alloc_new w _)]; rfl
  have hsz : (w.alloc (.cells #[.int .i64 x, .int .i64 p] 66)).heap.size = w.heap.size + 1 := by simp
  obtain ⟨k, hk⟩ : ∃ k, i + 1 - T.fs.length = k := ⟨_, rfl⟩
  have hk0 : 0 < k := by omega
  have hadd : IntKind.i64.wrap ((i : Int) + 1) = (i : Int) + 1 := IntWalk.i64_in _ (by omega)
  have hsub : IntKind.i64.wrap ((i : Int) + 1 - (T.fs.length : Int)) = (k : Int) := by rw [IntWalk.i64_in _ (by omega)]; omega
  have hnat : padTo T.fs (i + 1) = T.fs ++ List.replicate k (0, 0) := by rw [← hk]; rfl
  obtain ⟨v', w', hrun, hrow, hgr, hown⟩ := append_zeros (w.alloc (.cells #[.int .i64 x, .int .i64 p] 66)).drew 55 k v1 T.fs hk0 (by omega) (World.ownsRow.kept h2a.r1 (grown_drew (World.grownBy_refl _)) (own_or _))
  have c1 := h1a.c1
  have h2d := h2a.grown (grown_drew (World.grownBy_refl _))
  have h1d : Hd (w.alloc (.cells #[.int .i64 x, .int .i64 p] 66)).drew b T.size T.era v1 v2 v3 m := h1a
  have hpn : ∀ g, v'.ownBlock = some g → P g := fun g hg => by
    rcases hown with e | e
    · exact h2.p1 g (by rw [← e]; exact hg)
    · rw [e] at hg; injection hg with hg; exact hP g (by rw [← hg]; simp)
  have h2w := h2d.kept1 hgr hrow hpn
  have h1w := hd_row h1d h2d.r1 (by decide) hgr
  have hkw : Kp P w w' := (Kp.none (World.grownBy.trans hga (grown_drew (World.grownBy_refl _)))).trans (Kp.row hgr h2.p1)
  rw [← hnat] at hrow h2w
  have hil : i < (padTo T.fs (i + 1)).length := by rw [padTo_len]; omega
  have e1w := h1w.c1
  have e1f := h1w.frozen 1
  obtain ⟨h1s, hgs⟩ := h1w.set1 v'
  have h2s := h2w.keptB h1w hgs
  have hks : Kp P w (w'.setCell ⟨b, 1, none⟩ v') := hkw.trans (Kp.one hgs h2.pb)
  have hw3 : ∀ k, v3.ownBlock = some k → (w'.setCell ⟨b, 1, none⟩ v').heap[k]? = w.heap[k]? ∧ k < w.heap.size ∧ some k ≠ v'.ownBlock := fun k hk => by
    obtain ⟨q1, q2, q3⟩ := hfar k hk
    have q4 : k < (w.alloc (.cells #[.int .i64 x, .int .i64 p] 66)).drew.heap.size := by simp; omega
    refine ⟨(hgs.block k (Nat.lt_of_lt_of_le q4 hgr.size) (by simpa using q2)).trans ((hgr.block k q4 q3).trans (hga.block k q1 (by simp))), q1, ?_⟩
    rcases hown with e | e
    · rw [e]; exact q3
    · rw [e]; simp; omega
  have hne : some w.heap.size ≠ v1.ownBlock := fun q => by have := (World.ownsRow.lt h2.r1 _ q.symm).2; omega
  have hbl := h1.lt
  have hkk0 : (w'.setCell ⟨b, 1, none⟩ v').cell? ⟨w.heap.size, 0, none⟩ = some (.int .i64 x) := hgs.cell (hgr.cell (a := ⟨w.heap.size, 0, none⟩) k0 hne) (by simp; omega)
  have hkk1 : (w'.setCell ⟨b, 1, none⟩ v').cell? ⟨w.heap.size, 1, none⟩ = some (.int .i64 p) := hgs.cell (hgr.cell (a := ⟨w.heap.size, 1, none⟩) k1 hne) (by simp; omega)
  generalize hL : padTo T.fs (i + 1) = L at *
  obtain ⟨A', c', hv', _, _, hA'⟩ := row_form hrow
  subst hv'
  obtain ⟨g', rfl, hg'⟩ := hA' (by omega)
  have hpt : T.put i (x, p) = { T with fs := L.set i (x, p) } := by unfold Tr.put; rw [hL]
  rw [hpt]
  obtain ⟨NB, hNB⟩ : ∃ NB : Int, 2097152 = NB := ⟨_, rfl⟩
  have hl' : decide ((2097152 : Int) ≤ (i : Int)) = false := by rw [decide_eq_false_iff_not]; omega
  clear hNB
  have HR := Lib.hid hrun
  have HH := Lib.hid h1s
  have HPa := Lib.hid h2s
  have HK := Lib.hid hks
  have FAR := Lib.hid hw3
  have HIL := Lib.hid hil
  have K0 := Lib.hid hkk0
  have K1 := Lib.hid hkk1
  have HV := Lib.hid hv
  rw [hv] at c1
  have c1' : (w.alloc (.cells #[.int .i64 x, .int .i64 p] 66)).drew.cell? ⟨b, 1, none⟩ = some (.slice A T.fs.length c) := c1
  have f1 := h1a.frozen 1
  have f1' : (w.alloc (.cells #[.int .i64 x, .int .i64 p] 66)).drew.frozen? ⟨b, 1, none⟩ = false := f1
  clear h1 h2 hga h1a h2a hrun hrow hgr hown hP hl hv hk hk0 hnat hsz h2d h1d hpn h2w h1w hkw h1s hgs h2s hks hL hA' hpt hkk0 hkk1 hne hbl hw3 hfar
  go_enter Try.func31, Try.ntmps31
  go_upto_region 4 with fail
  generalize w.alloc (.cells #[.int .i64 x, .int .i64 p] 66) = w1 at *
  go_region_law (refine step_append_run rfl (.tmp 25) (.tmp 33) 55 3 rfl (.slice A T.fs.length c) (.int .i64 (k : Int)) (by rfl) (by rfl) (.slice (some ⟨g', 0, none⟩) L.length c') w' (by rw [← HV.out]; exact HR.out) ?_)
  all_goals (
    generalize w'.setCell ⟨b, 1, none⟩ (.slice (some ⟨g', 0, none⟩) L.length c') = w3 at *
    have c1 := HH.out.c1
    have d0 := HPa.out.r1.at0 i HIL.out
    have d1 := HPa.out.r1.at1 i HIL.out
    have f0 := World.ownsRow.frozenAt HPa.out.r1 (i * 2)
    have f1 := World.ownsRow.frozenAt HPa.out.r1 (i * 2 + 1)
    have k0 := K0.out
    have k1 := K1.out
    have hi2 : (i : Int) < (L.length : Int) := by have := HIL.out; omega
    go_upto_region 5 with fail
    go_still_tail 7, (by kernel_rfl)
    change wpList _ _ _ _ _ w3.drew
    have d0' : w3.drew.cell? ⟨g', i * 2, none⟩ = some (.int .i64 (nth2 L i).1) := d0
    have d1' : w3.drew.cell? ⟨g', i * 2 + 1, none⟩ = some (.int .i64 (nth2 L i).2) := d1
    have f0' : w3.drew.frozen? ⟨g', i * 2, none⟩ = false := f0
    have f1' : w3.drew.frozen? ⟨g', i * 2 + 1, none⟩ = false := f1
    have HK2 : Hid (Kp P w w3.drew) := Lib.hid (HK.out.trans (Kp.none (grown_drew (World.grownBy_refl _))))
    have HH2 : Hid (Hd w3.drew b T.size T.era (.slice (some ⟨g', 0, none⟩) L.length c') v2 v3 m) := HH
    have HP2 : Hid (Parts P w3.drew b m (.slice (some ⟨g', 0, none⟩) L.length c') v2 v3 L T.marks T.kept) := Lib.hid (HPa.out.grown (grown_drew (World.grownBy_refl _)))
    have FAR2 : Hid (∀ k, v3.ownBlock = some k → w3.drew.heap[k]? = w.heap[k]? ∧ k < w.heap.size ∧ some k ≠ (Value.slice (some ⟨g', 0, none⟩) L.length c').ownBlock) := FAR
    clear c1 k0 k1 d0 d1 f0 f1 HK HH HPa K0 K1 FAR
    generalize w3.drew = w2 at *
    go_wp2_with fail
    go_end0
    obtain ⟨hr, hg3⟩ := HP2.out.r1.store i x p
    refine ⟨rfl, ⟨_, hd_row HH2.out HP2.out.r1 (by decide) hg3, HP2.out.kept1 hg3 hr HP2.out.p1⟩, HK2.out.trans (Kp.one hg3 (HP2.out.p1 g' rfl)), fun k hk => ?_⟩
    obtain ⟨q1, q2, q3⟩ := FAR2.out k hk
    exact (hg3.block k (Nat.lt_of_lt_of_le q2 HK2.out.size) q3).trans q1)
/-- put, whatever stands there. -/
theorem put_m {P : Nat → Prop} {w : World} {b m i : Nat} {x p : Int} {v1 v2 v3 : Value} {T : Tr} (h1 : Hd w b T.size T.era v1 v2 v3 m) (h2 : Parts P w b m v1 v2 v3 T.fs T.marks T.kept) (hP : ∀ k, w.heap.size ≤ k → P k) (hl : i < 2097152) :
    Calls Try.prog 31 #[.pointer (some ⟨b, 0, none⟩), .int .i64 (i : Int), .agg #[.int .i64 x, .int .i64 p]] w (AndM P w b m v2 v3 (T.put i (x, p)) (.tuple #[])) := by
  by_cases hi : i < T.fs.length
  · exact put_in h1 h2 hi hl
  · exact put_new h1 h2 hP (by omega) hl
theorem put_any {P : Nat → Prop} {w : World} {b i : Nat} {x p : Int} {T : Tr} (h : TA P w b T) (hP : ∀ k, w.heap.size ≤ k → P k) (hl : i < 2097152) :
    Calls Try.prog 31 #[.pointer (some ⟨b, 0, none⟩), .int .i64 (i : Int), .agg #[.int .i64 x, .int .i64 p]] w (AndT P w b (T.put i (x, p)) (.tuple #[])) := by
  obtain ⟨v1, v2, v3, m, h1, h2⟩ := h.parts
  exact (put_m h1 h2 hP hl).mono fun e w' ⟨q1, ⟨u, q2, q3⟩, q4, _⟩ => ⟨q1, q3.ta q2, q4⟩
end Go.Proofs.Ytafcecacldafgaa
