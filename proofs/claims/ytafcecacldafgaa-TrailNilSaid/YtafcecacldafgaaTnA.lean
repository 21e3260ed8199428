/- The walk of TrailNil (no statement of its own). -/
import Derived.Test.YtafcecacldafgaaTrX
namespace Go.Proofs.Ytafcecacldafgaa.TnA
open Go.RowKit
set_option linter.unusedVariables false
theorem kp_store {P : Nat → Prop} {w0 W W' : World} {g : Nat} (h : Kp P w0 W) (hg : W.grownBy W' (some g)) (hp : P g) : Kp P w0 W' := h.trans (Kp.one hg hp)
set_option maxRecDepth 100000 in
set_option maxHeartbeats 4000000 in
theorem main (a0 a1 a2 : Int) (w : World) (h0 : -9223372036854775808 ≤ a0) (h00 : a0 ≤ 9223372036854775807) (h1 : a1 ≤ 9223372036854775807) :
    Calls Try.prog 6 #[.int .i64 a0, .int .i64 a1, .int .i64 a2] w fun e w' => e = .returned (.bool true) ∧ Below w.heap.size w w' := by
  obtain ⟨m, hm⟩ : ∃ m : Int, (if a0 < 100 then a0 else 100) = m := ⟨_, rfl⟩
  obtain ⟨N, hN⟩ : ∃ N : Nat, max m 0 = (N : Int) := ⟨(max m 0).toNat, by omega⟩
  have hN2 : N ≤ 100 := by split at hm <;> omega
  have HN := Lib.hid hN
  have HN2 := Lib.hid hN2
  have key : a0 < 100 ∧ m = a0 ∨ a0 = 100 ∧ m = 100 ∨ 100 < a0 ∧ m = 100 := by split at hm <;> omega
  have key2 : m < 0 ∧ N = 0 ∨ m = 0 ∧ N = 0 ∨ 0 < m ∧ m = (N : Int) := by omega
  have hms : (max m 0 : Int) = (N : Int) := hN
  clear hm hN
  go_enter Try.func6, Try.ntmps6
  go_upto_region 3 with (go_at_call 9; refine (awake_true _).mono ?_; rintro e w1 ⟨rfl, hb1⟩)
  have HB1 := Lib.hid hb1
  clear hb1
  have hcut : True := trivial
  rcases key with ⟨k1, rfl⟩ | ⟨rfl, rfl⟩ | ⟨k1, rfl⟩
  all_goals (
    go_upto_region 5 with (go_at_call 10; refine (new_st _ N _ HN.out).mono ?_; rintro e w2 ⟨rfl, hs2, hk2⟩)
    have HB2 : Hid (Below w.heap.size w w2) := Lib.hid (HB1.out.trans ((hk2.below (fun _ _ q => q.elim) (Nat.le_refl _)).mono HB1.out.size))
    have HS2 : Hid (St w2 (w1.heap.size + 1) 0 (fun k => w1.heap.size ≤ k ∧ k < w2.heap.size) (List.replicate N 0) []) := Lib.hid (hs2.mono fun k hk q => ⟨q.elim False.elim id, hk⟩)
    have HW2 : Hid (w.heap.size ≤ w2.heap.size) := Lib.hid (Nat.le_trans HB1.out.size hk2.size)
    clear hs2 hk2
    generalize w1.heap.size + 1 = b at *
    generalize w1.heap.size = B1 at *
    go_upto_region 6 with (go_at_call 21; refine (cells_st HS2.out (by have := HN2.out; simp; omega)).mono ?_; rintro e w3 ⟨v, rfl, ho, hg3⟩)
    obtain ⟨A, c, rfl, hc, hA⟩ := ho.form
    have HO : Hid (OwnL w3 w2.heap.size (.slice A N c) (List.replicate N 0)) := Lib.hid (by rw [List.length_replicate] at ho; exact ho)
    have HA : Hid (0 < N → ∃ g, A = some ⟨g, 0, none⟩ ∧ w2.heap.size ≤ g ∧ g < w3.heap.size) := Lib.hid (by rw [List.length_replicate] at hA; exact hA)
    have HS3 := Lib.hid (HS2.out.grown hg3)
    have HB3 : Hid (Below w.heap.size w w3) := Lib.hid (HB2.out.trans (((Kp.none (P := fun _ => False) hg3).below (fun _ _ q => q.elim) (Nat.le_refl _)).mono HW2.out))
    have HL3 : Hid ((List.replicate N (0 : Int)).length = N) := Lib.hid List.length_replicate
    rw [List.length_replicate]
    clear ho hA hg3 hc HB2 HS2 HB1
    generalize hZ : List.replicate N (0 : Int) = Z at HO HL3
    clear hZ
    go_wp2_with fail
    go_loopw [21] (fun i wr => ∃ (j : Nat) (l : List Int), j ≤ N ∧ i = .int .i64 (j : Int) ∧ Hid (l.length = N) ∧ Hid (OwnL wr w2.heap.size (.slice A N c) l) ∧ Hid (St wr b 0 (fun k => B1 ≤ k ∧ k < w2.heap.size) (List.replicate N 0) []) ∧ Hid (Below w.heap.size w wr)) (fun i _ => N - (intOf i).toNat)
    case atStart => exact ⟨0, Z, Nat.zero_le _, rfl, HL3, HO, HS3, HB3⟩
    case round =>
      obtain ⟨j, l, hj, rfl, HL, HOr, HSr, HBr⟩ := hrel
      by_cases hlt : j < N
      · obtain ⟨g, rfl, hg1, hg2⟩ := HA.out (by omega)
        have HOx : OwnL wr w2.heap.size (.slice (some ⟨g, 0, none⟩) l.length c) l := by rw [HL.out]; exact HOr.out
        have q0 := HOx.cell j (by rw [HL.out]; exact hlt)
        have qf := HOx.frozen j
        obtain ⟨hst, hgst⟩ := HOx.store j 9
        have HST : Hid (OwnL (wr.setCell ⟨g, j, none⟩ (.int .i64 9)) w2.heap.size (.slice (some ⟨g, 0, none⟩) N c) (l.set j 9)) := Lib.hid (by rw [HL.out] at hst; exact hst)
        have HLS : Hid ((l.set j 9).length = N) := Lib.hid (by rw [List.length_set]; exact HL.out)
        have HSS := Lib.hid (HSr.out.kept (Kp.one hgst (fun q => by omega)))
        have HBS : Hid (Below w.heap.size w (wr.setCell ⟨g, j, none⟩ (.int .i64 9))) := Lib.hid (HBr.out.setCell (by have := HW2.out; simp; omega) _)
        have HLT := Lib.hid hlt
        clear hst hgst HOx hg1 hg2 HL HOr HSr HBr
        have hji : (j : Int) < (N : Int) := by omega
        clear hlt
        go_wp2_with fail
        go_roundw
        case rel => exact ⟨j + 1, _, by have := HLT.out; omega, by go_num, HLS, HST, HSS, HBS⟩
        case measure => have := HLT.out; simp [intOf]; omega
      · obtain rfl : N = j := by omega
        clear hlt hj
        have L1 := Lib.hid (len_st HSr.out)
        rw [List.length_replicate] at L1
        have G1 := Lib.hid (get_st HSr.out 0 (by decide))
        have hg0 : getL (List.replicate N 0) 0 = 0 := by
          unfold getL nthI
          rw [if_pos (by decide), List.getD_eq_getElem?_getD]
          cases N <;> rfl
        rw [hg0] at G1
        clear hg0
        go_upto_region 12 with fail
        have HWr : Hid (w.heap.size ≤ wr.heap.size) := Lib.hid HBr.out.size
        clear hms HN HN2 hN2 HL HOr HSr HA HS3 HB3 HO HL3 HW2 hcut h0 h00 h1
        rcases key2 with ⟨k2, k3⟩ | ⟨k2, k3⟩ | ⟨k2, k3⟩
        all_goals first
          | (exfalso; omega)
          | (first | subst k3 | (have e100 : N = 100 := (by omega); clear k3 k2; subst e100))
            try subst k2
            go_wp2_with (first
            | (go_at_call 15; (with_reducible refine L1.out.mono ?_); rintro e w' ⟨rfl, rfl⟩)
            | (go_at_call 15; (with_reducible refine (len_nil _).mono ?_); rintro e w' ⟨rfl, rfl⟩)
            | (go_at_call 22; (with_reducible refine G1.out.mono ?_); rintro e w5 ⟨rfl, h5⟩; have H5 := Lib.hid h5; clear h5)
            | (go_at_call 22; (with_reducible refine (get_nil _ _).mono ?_); rintro e w' ⟨rfl, rfl⟩)
            | (go_at_call 17; refine (set_nil _ _ _).mono ?_; rintro e w' ⟨rfl, rfl⟩)
            | (go_at_call 19; refine (undo_of (L := 0) (V := none) a1 _ (depth_nil _) (isIn_no (by omega))).mono ?_; rintro e w6 ⟨rfl, h6⟩; have H6 := Lib.hid h6; clear h6)
            | (go_at_call 23; refine (forget_of (L := 0) a1 _ (depth_nil _) (isIn_no (by omega))).mono ?_; rintro e w' ⟨rfl, rfl⟩)
            | (go_at_call 13; refine (depth_nil _).mono ?_; rintro e w' ⟨rfl, rfl⟩)
            | (go_at_call 14; refine (weight_nil _).mono ?_; rintro e w' ⟨rfl, rfl⟩)
            | (go_at_call 16; refine (mark_nil _).mono ?_; rintro e w' ⟨rfl, rfl⟩)
            | (go_at_call 24; refine (grow_nil _ _).mono ?_; rintro e w' ⟨rfl, rfl⟩)
            | (go_at_call 21; refine (cells_nil _).mono ?_; rintro e w' ⟨rfl, rfl⟩))
            go_ret
            exact ⟨rfl, HBr.out.trans (((Kp.none (P := fun _ => False) (World.grownBy.trans H5.out H6.out)).below (fun _ _ q => q.elim) (Nat.le_refl _)).mono HWr.out)⟩)
end Go.Proofs.Ytafcecacldafgaa.TnA
