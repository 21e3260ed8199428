/- The walk of DomInters. Condition: the table reads as its initialiser lays it. -/
import Derived.Test.YtlpclbilomcaiaaDoorSubsW
namespace Go.Proofs.YtlpclbilomcaiaaDoor
open Go.RowKit
set_option linter.unusedVariables false
theorem both_mem {k B C : Nat} : (mem k B).filter (inB (mem k C)) = mem k (B &&& C) := by
  rw [mem_and]
  apply List.filter_congr
  intro y hy
  unfold inB
  rw [memI_mem, hasB_yes (mem_mem.1 hy).1]
theorem mem_eq {k B C : Nat} (hB : B < 2 ^ k) (hC : C < 2 ^ k) : decide (mem k B = mem k C) = decide (B = C) := by
  rw [decide_eq_decide]
  exact ⟨mem_inj hB hC, fun h => by rw [h]⟩
theorem holdg {W0 W W' : World} {S D k j B C : Nat} (hS : S < W0.heap.size) (hD : D < W0.heap.size)
    (h : W.cell? ⟨S, 0, none⟩ = some (.int .i64 (k : Int)) ∧ W.cell? ⟨S, 1, none⟩ = some (.int .u32 (B : Int)) ∧ W.cell? ⟨D, 0, none⟩ = some (.int .i64 (j : Int)) ∧ W.cell? ⟨D, 1, none⟩ = some (.int .u32 (C : Int)) ∧ Below W0.heap.size W0 W)
    (hb : Below W.heap.size W W') :
    W'.cell? ⟨S, 0, none⟩ = some (.int .i64 (k : Int)) ∧ W'.cell? ⟨S, 1, none⟩ = some (.int .u32 (B : Int)) ∧ W'.cell? ⟨D, 0, none⟩ = some (.int .i64 (j : Int)) ∧ W'.cell? ⟨D, 1, none⟩ = some (.int .u32 (C : Int)) ∧ Below W0.heap.size W0 W' := by
  obtain ⟨h1, h2, h3, h4, h5⟩ := h
  exact ⟨keptC hS h5 h1 hb, keptC hS h5 h2 hb, keptC hD h5 h3 hb, keptC hD h5 h4 hb, h5.trans (hb.mono h5.size)⟩
theorem hold1 {W0 W W' : World} {S k B : Nat} (hS : S < W0.heap.size)
    (h : W.cell? ⟨S, 0, none⟩ = some (.int .i64 (k : Int)) ∧ W.cell? ⟨S, 1, none⟩ = some (.int .u32 (B : Int)) ∧ Below W0.heap.size W0 W)
    (hb : Below W.heap.size W W') :
    W'.cell? ⟨S, 0, none⟩ = some (.int .i64 (k : Int)) ∧ W'.cell? ⟨S, 1, none⟩ = some (.int .u32 (B : Int)) ∧ Below W0.heap.size W0 W' := by
  obtain ⟨h1, h2, h5⟩ := h
  exact ⟨keptC hS h5 h1 hb, keptC hS h5 h2 hb, h5.trans (hb.mono h5.size)⟩
theorem below3 {W0 W : World} {p q : Prop} (h : p ∧ q ∧ Below W0.heap.size W0 W) : Below W0.heap.size W0 W := h.2.2
theorem lst3 {W0 W : World} {A : Option Addr} {l : List Nat} {p q : Prop} (hl : Lst W0 A l) (h : p ∧ q ∧ Below W0.heap.size W0 W) : Lst W A l := hl.below h.2.2 (Nat.le_refl _)
set_option maxRecDepth 100000 in
set_option maxHeartbeats 2000000 in
theorem inters_walk (n m x y : Int) (w : World) (hT : Tab w) (h0 : 0 ≤ n) (h1 : n ≤ 255) (m0 : 0 ≤ m) (m1 : m ≤ 255) (x0 : 0 ≤ x) (x1 : x ≤ 4294967295) (y0 : 0 ≤ y) (y1 : y ≤ 4294967295) :
    Calls Tryd.prog 4 #[.int .u8 n, .int .u8 m, .int .u32 x, .int .u32 y] w fun e w' => e = .returned (.bool true) ∧ Below w.heap.size w w' := by
  have HT := Lib.hid hT
  have hp := hT.pos
  have k2 := (kOf_le n).2
  have j2 := (kOf_le m).2
  have hB : bOf (kOf n) x.toNat < 2 ^ kOf n := bOf_fits k2
  have hC : bOf (kOf m) y.toNat < 2 ^ kOf m := bOf_fits j2
  have HM := Lib.hid (fun W => made_any n x W h0 h1 x0 x1)
  have HM2 := Lib.hid (fun W => made_any m y W m0 m1 y0 y1)
  generalize kOf n = k at k2 hB HM
  generalize kOf m = j at j2 hC HM2
  generalize bOf k x.toNat = B at hB HM
  generalize bOf j y.toNat = C at hC HM2
  have HB := Lib.hid hB
  have HC := Lib.hid hC
  clear hT hB hC
  go_enter Tryd.func4, Tryd.ntmps4
  go_wp2_with fail
  refine (awake_true _ HT.out).mono ?_
  rintro e w1 ⟨rfl, b1⟩
  have B1 := Lib.hid b1
  clear b1
  go_wp2_with fail
  refine (HM.out _).mono ?_
  rintro e w2 ⟨⟨v, rfl, hO⟩, b2⟩
  obtain ⟨A, c, rfl, hL⟩ := hO.form
  have B2 := Lib.hid (then_ B1.out b2)
  have HL := Lib.hid hL
  clear hO b2 hL
  go_wp2_with fail
  refine (HM2.out _).mono ?_
  rintro e w3 ⟨⟨v2, rfl, hO⟩, b3⟩
  obtain ⟨A2, c2, rfl, hL⟩ := hO.form
  have s0 := box0 b3
  have s1 := box1 b3
  have hS := boxS b3
  have HL3 := Lib.hid (HL.out.below (boxB b3) (Nat.le_refl _))
  have B3 := Lib.hid (then_ B2.out (boxB b3))
  have HX3 := Lib.hid hL
  clear hO b3 hL HL
  have la := mem_len (k := k) (B := B) k2
  have lb := mem_len (k := j) (B := C) j2
  by_cases hkj : k = j
  · subst hkj
    have HI1 := Lib.hid (fun W => inter_yes k B C W k2 HB.out HC.out)
    have HD := Lib.hid (and_fits (k := k) (C := C) HB.out)
    have HBo := Lib.hid (both_mem (k := k) (B := B) (C := C))
    have HE := Lib.hid (mem_eq HB.out HC.out)
    have ld := mem_len (k := k) (B := B &&& C) k2
    generalize B &&& C = D at HI1 HD HBo ld
    go_wp2_with fail
    refine (HI1.out _).mono ?_
    rintro e w4 ⟨rfl, b4⟩
    have t0 := box0 b4
    have t1 := box1 b4
    have hTz := boxS b4
    have B43 := Lib.hid (boxB b4)
    have B5 := Lib.hid (then_ B43.out (boxA w4 k D))
    have HL4 := Lib.hid (HL3.out.below B5.out (Nat.le_refl _))
    have HX4 := Lib.hid (HX3.out.below B5.out (Nat.le_refl _))
    have s0' := (B43.out.cell (p := ⟨w2.heap.size, 0, none⟩) hS).trans s0
    have s1' := (B43.out.cell (p := ⟨w2.heap.size, 1, none⟩) hS).trans s1
    have hS' : w2.heap.size < w4.heap.size := by have := B43.out.size; omega
    have b := boxA w4 k D
    have HI := Lib.hid (And.intro ((b.cell (p := ⟨w2.heap.size, 0, none⟩) hS').trans s0') (And.intro ((b.cell (p := ⟨w2.heap.size, 1, none⟩) hS').trans s1') (And.intro ((b.cell (p := ⟨w3.heap.size, 0, none⟩) hTz).trans t0) (And.intro ((b.cell (p := ⟨w3.heap.size, 1, none⟩) hTz).trans t1) (Below.refl (w4.alloc (setO k D)).heap.size (w4.alloc (setO k D)))))))
    clear b4 b s0 s1 s0' s1' t0 t1
    have hS : w2.heap.size < (w4.alloc (setO k D)).heap.size := by simp; omega
    have hT : w3.heap.size < (w4.alloc (setO k D)).heap.size := by simp; omega
    have hU : w4.heap.size < (w4.alloc (setO k D)).heap.size := by simp
    have NU := Lib.hid (And.intro (new0 w4 k D) (new1 w4 k D))
    have B6 := Lib.hid (then_ B3.out B5.out)
    clear hS' hTz
    go_wp2_with fail
    by_cases hBC : B = C
    · subst hBC
      go_region_held3 (fun w' => w'.cell? ⟨w2.heap.size, 0, none⟩ = some (.int .i64 (k : Int)) ∧ w'.cell? ⟨w2.heap.size, 1, none⟩ = some (.int .u32 (B : Int)) ∧ w'.cell? ⟨w3.heap.size, 0, none⟩ = some (.int .i64 (k : Int)) ∧ w'.cell? ⟨w3.heap.size, 1, none⟩ = some (.int .u32 (B : Int)) ∧ Below (w4.alloc (setO k D)).heap.size (w4.alloc (setO k D)) w')
        (first | exact holdg hS hT HI.out ((Below.refl _ _).drew) | exact holdg hS hT (by assumption) (by assumption))
        (first
          | (go_at_call 20; refine (equal_any A A2 _ c _ c2 (mem k B) (mem k B) _ rfl (by omega) (lst5 HL4.out (by assumption)) rfl (lst5 HX4.out (by assumption))).mono ?_; rintro e w' ⟨rfl, hb⟩; rw [decide_eq_true rfl]))
      have K6 := Lib.hid (below5 (W0 := w4.alloc (setO k D)) (by assumption))
      have HT6 := Lib.hid (HT.out.next B6.out)
      clear hS hT HI
      go_wp2_with fail
      go_region_held3 (fun w' => w'.cell? ⟨w4.heap.size, 0, none⟩ = some (.int .i64 (k : Int)) ∧ w'.cell? ⟨w4.heap.size, 1, none⟩ = some (.int .u32 (D : Int)) ∧ Below (w4.alloc (setO k D)).heap.size (w4.alloc (setO k D)) w')
        (first | exact hold1 hU (And.intro ((K6.out.cell (p := ⟨w4.heap.size, 0, none⟩) hU).trans NU.out.1) (And.intro ((K6.out.cell (p := ⟨w4.heap.size, 1, none⟩) hU).trans NU.out.2) K6.out)) ((Below.refl _ _).drew) | exact hold1 hU (by assumption) (by assumption))
        (first
          | (go_at_call 21; refine (rboth_any A A2 _ c _ c2 (mem k B) (mem k B) _ rfl (by omega) (lst3 HL4.out (by assumption)) rfl (by omega) (lst3 HX4.out (by assumption))).mono ?_; rintro e w' ⟨⟨v5, rfl, hO5⟩, hb⟩; rw [HBo.out] at hO5; obtain ⟨A5, c5, rfl, hL5⟩ := hO5.form)
          | (go_at_call 15; refine (like_yes _ _ _ k D _ (HT6.out.next (below3 (by assumption))) k2 HD.out rfl (by assumption)).mono ?_; rintro e w' ⟨rfl, hb⟩))
      go_wp2_with fail
      go_ret
      exact ⟨rfl, then_ B6.out (below3 (by assumption))⟩
    · have hq2 : ¬ (B : Int) = (C : Int) := by omega
      have hq3 : ((B : Int) == (C : Int)) = false := by rw [beq_eq_false_iff_ne]; exact hq2
      go_region_held3 (fun w' => w'.cell? ⟨w2.heap.size, 0, none⟩ = some (.int .i64 (k : Int)) ∧ w'.cell? ⟨w2.heap.size, 1, none⟩ = some (.int .u32 (B : Int)) ∧ w'.cell? ⟨w3.heap.size, 0, none⟩ = some (.int .i64 (k : Int)) ∧ w'.cell? ⟨w3.heap.size, 1, none⟩ = some (.int .u32 (C : Int)) ∧ Below (w4.alloc (setO k D)).heap.size (w4.alloc (setO k D)) w')
        (first | exact holdg hS hT HI.out ((Below.refl _ _).drew) | exact holdg hS hT (by assumption) (by assumption))
        (first
          | (go_at_call 20; refine (equal_any A A2 _ c _ c2 (mem k B) (mem k C) _ rfl (by omega) (lst5 HL4.out (by assumption)) rfl (lst5 HX4.out (by assumption))).mono ?_; rintro e w' ⟨rfl, hb⟩; rw [HE.out, decide_eq_false hBC]))
      have K6 := Lib.hid (below5 (W0 := w4.alloc (setO k D)) (by assumption))
      have HT6 := Lib.hid (HT.out.next B6.out)
      clear hS hT HI
      go_wp2_with fail
      go_region_held3 (fun w' => w'.cell? ⟨w4.heap.size, 0, none⟩ = some (.int .i64 (k : Int)) ∧ w'.cell? ⟨w4.heap.size, 1, none⟩ = some (.int .u32 (D : Int)) ∧ Below (w4.alloc (setO k D)).heap.size (w4.alloc (setO k D)) w')
        (first | exact hold1 hU (And.intro ((K6.out.cell (p := ⟨w4.heap.size, 0, none⟩) hU).trans NU.out.1) (And.intro ((K6.out.cell (p := ⟨w4.heap.size, 1, none⟩) hU).trans NU.out.2) K6.out)) ((Below.refl _ _).drew) | exact hold1 hU (by assumption) (by assumption))
        (first
          | (go_at_call 21; refine (rboth_any A A2 _ c _ c2 (mem k B) (mem k C) _ rfl (by omega) (lst3 HL4.out (by assumption)) rfl (by omega) (lst3 HX4.out (by assumption))).mono ?_; rintro e w' ⟨⟨v5, rfl, hO5⟩, hb⟩; rw [HBo.out] at hO5; obtain ⟨A5, c5, rfl, hL5⟩ := hO5.form)
          | (go_at_call 15; refine (like_yes _ _ _ k D _ (HT6.out.next (below3 (by assumption))) k2 HD.out rfl (by assumption)).mono ?_; rintro e w' ⟨rfl, hb⟩))
      go_wp2_with fail
      go_ret
      exact ⟨rfl, then_ B6.out (below3 (by assumption))⟩
  · have hq2 : ¬ (k : Int) = (j : Int) := by omega
    have hq3 : ((k : Int) == (j : Int)) = false := by rw [beq_eq_false_iff_ne]; exact hq2
    have HI1 := Lib.hid (fun W => inter_no k j B C W hkj)
    go_wp2_with fail
    refine (HI1.out _).mono ?_
    rintro e w4 ⟨rfl, b4⟩
    have t0 := box0 b4
    have t1 := box1 b4
    have hTz := boxS b4
    have B43 := Lib.hid (boxB b4)
    have B5 := Lib.hid (then_ B43.out (boxA w4 0 0))
    have s0' := (B43.out.cell (p := ⟨w2.heap.size, 0, none⟩) hS).trans s0
    have s1' := (B43.out.cell (p := ⟨w2.heap.size, 1, none⟩) hS).trans s1
    have hS' : w2.heap.size < w4.heap.size := by have := B43.out.size; omega
    have B6 := Lib.hid (then_ B3.out B5.out)
    clear b4 s0 s1
    go_wp2_with fail
    go_quiet (fail)
    go_wp2_with fail
    go_ret
    exact ⟨rfl, below_drewN B6.out _⟩
end Go.Proofs.YtlpclbilomcaiaaDoor
