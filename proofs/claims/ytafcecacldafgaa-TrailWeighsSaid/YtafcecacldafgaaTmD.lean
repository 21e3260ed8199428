/- The contract of the law's 'do': setting, growing (no statement of its own). -/
import Derived.Test.YtafcecacldafgaaTmC
namespace Go.Proofs.Ytafcecacldafgaa
open Go.RowKit
set_option linter.unusedVariables false
theorem set_bd {lo : Nat} {C : List Int} {M : List (List Int)} (h : Bd lo C M) (m : Nat) (v : Int) : Bd lo (C.set m v) M := ⟨h.1, by rw [List.length_set]; exact h.2.1, h.2.2.1, by rw [List.length_set]; exact h.2.2.2.1, h.2.2.2.2⟩
/-- A cell of the document's is stored. -/
theorem PX.store {w0 w : World} {t cnt x m g c : Nat} {C D : List Int} {M N : List (List Int)} {Q : Nat → Prop} {vM : Value} (h : PX w0 w t cnt x C M D N Q (.slice (some ⟨g, 0, none⟩) D.length c) vM) (v : Int) :
    PX w0 (w.setCell ⟨g, m, none⟩ (.int .i64 v)) t cnt x C M (D.set m v) N Q (.slice (some ⟨g, 0, none⟩) D.length c) vM := by
  obtain ⟨hs, hg⟩ := h.oC.store m v
  obtain ⟨r1, r2, r3, r4, r5⟩ := h.rowC (w' := w.setCell ⟨g, m, none⟩ (.int .i64 v)) hg (D.set m v) (.slice (some ⟨g, 0, none⟩) D.length c) hs (fun q hq => .inl hq)
  exact ⟨r1, r2, hs, r4, r3, h.oM, h.nx, h.lx, fun k q => ⟨(h.q k q).1, Nat.lt_of_lt_of_le (h.q k q).2 hg.size⟩, r5⟩
set_option maxRecDepth 100000 in
set_option maxHeartbeats 2000000 in
theorem do_set {lo : Nat} {w0 w : World} {t cnt x : Nat} {d i v : Int} {C : List Int} {M : List (List Int)} (h : PS w0 w t cnt x C M C M) (hb : Bd lo C M) (hc : cnt < 100000) (hd0 : 0 ≤ d) (hd : d % 8 < 4) :
    Calls Try.prog 11 #[.pointer (some ⟨t, 0, none⟩), .pointer (some ⟨x, 0, none⟩), .agg #[.int .u8 d, .int .i64 i, .int .i64 v]] w (DoP lo w0 t (cnt + 1) x) := by
  have hga := World.grownBy_alloc w (actB d i v) none
  obtain ⟨Q, vC, vM, hx⟩ := h
  have h1 := hx.grown hga
  have hbx := heap_alloc_new w (actB d i v)
  obtain ⟨k0, k1, k2⟩ := cells3 hbx
  obtain ⟨K, hK⟩ : ∃ K, d % 8 = K := ⟨_, rfl⟩
  have hdt : d.tmod 8 = K := by rw [Int.tmod_eq_emod_of_nonneg hd0]; exact hK
  have e4 : (K == 4) = false := by rw [beq_eq_false_iff_ne]; omega
  have e5 : (K == 5) = false := by rw [beq_eq_false_iff_ne]; omega
  have e6 : (K == 6) = false := by rw [beq_eq_false_iff_ne]; omega
  have e7 : (K == 7) = false := by rw [beq_eq_false_iff_ne]; omega
  have HB := Lib.hid hb
  have HBX := Lib.hid hbx
  have hnb : ¬ Q w.heap.size := fun q => by have := (hx.q _ q).2; omega
  have HNB := Lib.hid hnb
  by_cases hi : i < 0 ∨ (C.length : Int) ≤ i
  · have HS := Lib.hid (set_st_no h1.st v hi)
    have H1 := Lib.hid (show PS w0 (w.alloc (actB d i v)) t cnt x C M C M from ⟨Q, vC, vM, h1⟩)
    obtain ⟨A, c, rfl, _⟩ := h1.oC.form
    have c0 := h1.c0
    clear h1 hx hga hb hbx hnb hd hc
    rcases hi with hi | hi
    · go_enter Try.func11, Try.ntmps11
      go_upto_region 3 with (go_at_call 17; refine HS.out.mono ?_; rintro e w2 ⟨rfl, rfl⟩)
      go_quiet (fail)
      go_wp2_with fail
      go_ret
      exact ⟨rfl, C, M, (H1.out.grown (grown_drewN (World.grownBy_refl _) _)).more (Nat.le_succ cnt), HB.out⟩
    · have hi0 : ¬ i < 0 := by omega
      have hi1 : decide (i < 0) = false := by simp; omega
      go_enter Try.func11, Try.ntmps11
      go_upto_region 3 with (go_at_call 17; refine HS.out.mono ?_; rintro e w2 ⟨rfl, rfl⟩)
      go_quiet (fail)
      go_wp2_with fail
      go_ret
      exact ⟨rfl, C, M, (H1.out.grown (grown_drewN (World.grownBy_refl _) _)).more (Nat.le_succ cnt), HB.out⟩
  · obtain ⟨m, rfl⟩ : ∃ m : Nat, i = (m : Int) := ⟨i.toNat, by omega⟩
    have hm : m < C.length := by omega
    have HS := Lib.hid ((set_st h1.st v hm (by omega) (by have := hb.2.1; omega)).mono fun e w' q => And.intro (h1.next q) q.kp)
    have HML := Lib.hid hm
    clear h1 hx hga hb hnb hd hi hm hbx
    go_enter Try.func11, Try.ntmps11
    go_upto_region 3 with (go_at_call 17; refine HS.out.mono ?_; rintro e w2 ⟨⟨rfl, h2⟩, hk2⟩; have H2 := Lib.hid h2; have HK2 := Lib.hid hk2; clear h2 hk2)
    have hbx2 := (HK2.out.block w.heap.size (Array.getElem?_eq_some_iff.1 HBX.out).1 HNB.out).trans HBX.out
    obtain ⟨j0, j1, j2⟩ := cells3 hbx2
    have HBX2 := Lib.hid hbx2
    obtain ⟨Q2, A, c, B, e', hx2⟩ := H2.out.form
    have c0 := hx2.c0
    have hmi : (m : Int) < (C.length : Int) := by have := HML.out; omega
    have hm0 : decide ((m : Int) < 0) = false := by simp
    have hm1 : ¬ ((C.length : Int) ≤ (m : Int)) := by omega
    have hm2 : decide ((C.length : Int) ≤ (m : Int)) = false := by simp; omega
    have HX2 := Lib.hid hx2
    clear hx2 hbx2 k0 k1 k2
    go_quiet (fail)
    clear hm2 hm0
    have HX3 : Hid (PX w0 (w2.drewN nq) t (cnt + 1) x (C.set m v) M C M Q2 (.slice A C.length c) (.slice B M.length e')) := Lib.hid (HX2.out.grown (grown_drewN (World.grownBy_refl _) nq))
    have j1' : (w2.drewN nq).cell? ⟨w.heap.size, 1, none⟩ = some (.int .i64 (m : Int)) := j1
    have j2' : (w2.drewN nq).cell? ⟨w.heap.size, 2, none⟩ = some (.int .i64 v) := j2
    clear HX2 j0 j1 j2 c0 HBX2 H2
    generalize w2.drewN nq = w3 at *
    go_upto_region 5 with fail
    obtain ⟨A', c', hv', _, hA⟩ := HX3.out.oC.form
    simp only [Value.slice.injEq, true_and] at hv'
    obtain ⟨rfl, rfl⟩ := hv'
    obtain ⟨g, rfl, _⟩ := hA (by have := HML.out; omega)
    have c03 := HX3.out.c0
    have q0 := HX3.out.oC.cell m HML.out
    have qf := HX3.out.oC.frozen m
    have HF := Lib.hid (show PX w0 (w3.drew.setCell ⟨g, m, none⟩ (.int .i64 v)) t (cnt + 1) x (C.set m v) M (C.set m v) M Q2 _ _ from (HX3.out.grown (grown_drew (World.grownBy_refl w3))).store v)
    clear hA HX3
    go_still_tail 9, (by kernel_rfl)
    change wpList _ _ _ _ _ w3.drew
    have q0' : w3.drew.cell? ⟨g, m, none⟩ = some (.int .i64 (nthI C m)) := q0
    have qf' : w3.drew.frozen? ⟨g, m, none⟩ = false := qf
    clear q0 qf c03 j1' j2'
    generalize w3.drew = w4 at *
    go_wp2_with fail
    go_ret
    exact ⟨rfl, C.set m v, M, ⟨Q2, _, _, HF.out⟩, set_bd HB.out m v⟩
end Go.Proofs.Ytafcecacldafgaa
