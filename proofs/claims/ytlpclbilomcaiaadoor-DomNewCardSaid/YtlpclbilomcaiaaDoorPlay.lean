/- The walk of DomPlays. Condition: the table reads as its initialiser lays it. -/
import Derived.Test.YtlpclbilomcaiaaDoorAny
import Derived.Deep.CutRange
namespace Go.Proofs.YtlpclbilomcaiaaDoor
open Go.RowKit
set_option linter.unusedVariables false
/-- The law's own set lies in block S with the bits C; its list l has the values of the bits B. -/
structure Play (w : World) (S k C B : Nat) (l : Value) (wr : World) : Prop where
  s0 : wr.cell? ⟨S, 0, none⟩ = some (.int .i64 (k : Int))
  s1 : wr.cell? ⟨S, 1, none⟩ = some (.int .u32 (C : Int))
  f0 : wr.frozen? ⟨S, 0, none⟩ = false
  f1 : wr.frozen? ⟨S, 1, none⟩ = false
  row : ∃ A c, l = .slice A (mem k B).length c ∧ RowN wr S A (mem k B)
  below : Below w.heap.size w wr
  size : S < wr.heap.size
  le : w.heap.size ≤ S
theorem Play.next {w : World} {S k C B : Nat} {l : Value} {wr w' : World} (h : Play w S k C B l wr) (hb : Below wr.heap.size wr w') : Play w S k C B l w' := by
  obtain ⟨A, c, e, hr⟩ := h.row
  have := h.size
  have := h.le
  exact ⟨(hb.cell (p := ⟨S, 0, none⟩) h.size).trans h.s0, (hb.cell (p := ⟨S, 1, none⟩) h.size).trans h.s1, (hb.frozen (p := ⟨S, 0, none⟩) h.size).trans h.f0, (hb.frozen (p := ⟨S, 1, none⟩) h.size).trans h.f1,
    ⟨A, c, e, hr.below hb (Nat.le_refl _)⟩, h.below.trans (hb.mono (by omega)), Nat.lt_of_lt_of_le h.size hb.size, h.le⟩
theorem Play.store {w : World} {S k C B : Nat} {l : Value} {wr : World} (h : Play w S k C B l wr) (D : Nat) :
    Play w S k D B l ((wr.setCell ⟨S, 0, none⟩ (.int .i64 (k : Int))).setCell ⟨S, 1, none⟩ (.int .u32 (D : Int))) := by
  obtain ⟨A, c, e, hr⟩ := h.row
  refine ⟨set2_0 _ _ _ _ _ _ h.s0 h.s1, set2_1 _ _ _ _ _ _ h.s0 h.s1, ?_, ?_, ⟨A, c, e, (hr.set _ _).set _ _⟩, (h.below.setCell (by show w.heap.size ≤ S; exact h.le) _).setCell (by show w.heap.size ≤ S; exact h.le) _, by have := h.size; simp [World.setCell]; omega, h.le⟩
  · rw [World.frozen?_setCell, World.frozen?_setCell]; exact h.f0
  · rw [World.frozen?_setCell, World.frozen?_setCell]; exact h.f1
theorem Play.list {w : World} {S k C B D : Nat} {l u : Value} {wr w' : World} (h : Play w S k C B l wr) (hb : Below wr.heap.size wr w') (ho : Own w' wr.heap.size u (mem k D)) : Play w S k C D u w' := by
  have h' := h.next hb
  have := h.size
  exact ⟨h'.s0, h'.s1, h'.f0, h'.f1, RowN.of_own ho (by omega), h'.below, h'.size, h'.le⟩
theorem Play.new {w w1 : World} {k B : Nat} {v : Value} (hb : Below w.heap.size w w1) (ho : Own w1 w.heap.size v (mem k B)) : Play w w1.heap.size k B B v (w1.alloc (setO k B)) := by
  obtain ⟨A, c, rfl, hL⟩ := ho.form
  have b1 : Below w1.heap.size w1 (w1.alloc (setO k B)) := (Below.refl _ _).alloc (Nat.le_refl _) _
  exact ⟨by rw [World.cell?_alloc_at _ _ _ _ rfl]; rfl, by rw [World.cell?_alloc_at _ _ _ _ rfl]; rfl, by go_simp, by go_simp, ⟨A, c, rfl, (RowN.of_lst hL (Nat.le_refl _)).below b1 (Nat.le_refl _)⟩, hb.trans (b1.mono hb.size), by simp, hb.size⟩
theorem Play.lst {w : World} {S k C B n c : Nat} {A : Option Addr} {wr : World} (h : Play w S k C B (.slice A n c) wr) : Lst wr A (mem k B) := by
  obtain ⟨A2, c2, e2, hr⟩ := h.row
  injection e2 with e2
  subst e2
  exact hr.lst
theorem tdiv_bd (a : Int) (h1 : -9223372036854775808 ≤ a) (h2 : a ≤ 9223372036854775807) : -9223372036854775808 ≤ a.tdiv 3 ∧ a.tdiv 3 ≤ 9223372036854775807 := by
  by_cases h : 0 ≤ a
  · rw [Int.tdiv_eq_ediv_of_nonneg h]
    omega
  · have e : a.tdiv 3 = -((-a).tdiv 3) := by rw [Int.neg_tdiv]; omega
    rw [e, Int.tdiv_eq_ediv_of_nonneg (by omega)]
    omega
def pickV (k : Nat) (a : Int) : Int := if a.tmod 3 = 0 then (a.tdiv 3).tmod k else a
set_option maxRecDepth 100000 in
theorem plays_walk (n x : Int) (A : Option Addr) (m c : Nat) (z : Nat → Int) (w : World) (hT : Tab w) (h0 : 0 ≤ n) (h1 : n ≤ 255) (x0 : 0 ≤ x) (x1 : x ≤ 4294967295) (hm : (m : Int) ≤ 9223372036854775807)
    (hz : ∀ j, j < m → ∃ p, A = some p ∧ p.block < w.heap.size ∧ w.cell? (p.add j) = some (.int .i64 (z j)) ∧ -9223372036854775808 ≤ z j ∧ z j ≤ 9223372036854775807) :
    Calls Tryd.prog 3 #[.int .u8 n, .int .u32 x, .slice A m c] w fun e w' => e = .returned (.bool true) ∧ Below w.heap.size w w' := by
  have HT := Lib.hid hT
  have HZ := Lib.hid hz
  have hp := hT.pos
  have k1 := (kOf_le n).1
  have k2 := (kOf_le n).2
  have hB : bOf (kOf n) x.toNat < 2 ^ kOf n := bOf_fits k2
  have HM := Lib.hid (fun W => made_any n x W h0 h1 x0 x1)
  generalize kOf n = k at k1 k2 hB HM
  generalize bOf k x.toNat = B0 at hB HM
  have HB := Lib.hid hB
  clear hT hz hB
  go_enter Tryd.func3, Tryd.ntmps3
  go_wp2_with fail
  refine (awake_true _ HT.out).mono ?_
  rintro e w1 ⟨rfl, b1⟩
  have B1 := Lib.hid b1
  clear b1
  go_wp2_with fail
  refine (HM.out _).mono ?_
  rintro e w2 ⟨⟨v, rfl, hO⟩, b2⟩
  have hP : Play w w2.heap.size k B0 B0 v (w2.alloc (setO k B0)) := by
    have z1 := B1.out.size
    exact Play.new (B1.out.trans (b2.mono z1)) (hO.less z1)
  have HP := Lib.hid hP
  clear hP hO b2
  have hle := HP.out.le
  go_wp2_with fail
  have HP0 := HP
  clear HP
  go_loopw [8, 25] (fun l i wr => ∃ j B : Nat, j ≤ m ∧ i = .int .i64 j ∧ B < 2 ^ k ∧ Play w w2.heap.size k B B l wr) (fun _ i _ => m - (intOf i).toNat)
  case atStart => exact ⟨0, B0, Nat.zero_le _, rfl, HB.out, HP0.out⟩
  case round =>
    obtain ⟨j, B, hj, rfl, hB, hPl⟩ := hrel
    have HP := Lib.hid hPl
    have HB' := Lib.hid hB
    clear hPl HP0 HB hB
    by_cases hlt : j < m
    · obtain ⟨p, rfl, hpb, hcz, hz1, hz2⟩ := HZ.out j hlt
      have hcell := (HP.out.below.cell (p := p.add j) (by first | exact hpb | (cases p; exact hpb) | (unfold Addr.add; split <;> exact hpb) | (simp [Addr.add]; exact hpb))).trans hcz
      generalize z j = a at hcell hz1 hz2
      clear hcz
      by_cases h40 : j < 40
      · go_upto_if 35 with fail
        go_cut [12, 25] from 25 to 91 (fun v12 v25 wx => v12 = .int .i64 (pickV k a) ∧ v25 = .int .i64 (j : Int) ∧ wx = wr)
        case first =>
          by_cases h3 : a.tmod 3 = 0
          · have e1 : IntKind.i64.wrap (a.tdiv 3) = a.tdiv 3 := IntWalk.i64_in _ (by have := tdiv_bd a hz1 hz2; omega)
            have hk0 : (k : Int) ≠ 0 := by omega
            go_wp2_with fail
            go_meet
            exact ⟨by unfold pickV; rw [if_pos h3], rfl, rfl⟩
          · go_wp2_with fail
            go_meet
            exact ⟨by unfold pickV; rw [if_neg h3], rfl, rfl⟩
        case rest =>
          obtain ⟨rfl, rfl, rfl⟩ := hcut
          obtain ⟨A1, c1, rfl, hr1⟩ := HP.out.row
          clear hr1
          clear hcell hz1 hz2 HZ hpb
          have hX : ∀ v : Int, v = pickV k a → True := fun _ _ => trivial
          generalize pickV k a = y
          clear hX
          go_upto_if 42 with fail
          go_cut [8, 25] from 25 to 91 (fun l v25 wx => v25 = .int .i64 (j : Int) ∧ ∃ C : Nat, C < 2 ^ k ∧ Play w w2.heap.size k C C l wx)
          case first =>
            by_cases h2 : a.tmod 2 = 0
            · have s0 := HP.out.s0
              have s1 := HP.out.s1
              go_wp2_with fail
              refine (put_any k B y _ k2 HB'.out).mono ?_
              rintro e w3 ⟨rfl, b3⟩
              have HP3 := Lib.hid (HP.out.next b3)
              clear b3 s0 s1
              have HP4 := Lib.hid (HP3.out.store (putI k B y))
              have s0 := HP3.out.s0
              have s1 := HP3.out.s1
              have f0 := HP3.out.f0
              have f1 := HP3.out.f1
              by_cases hy : 0 ≤ y ∧ y < (k : Int)
              · obtain ⟨v0, rfl⟩ : ∃ v0 : Nat, y = v0 := ⟨y.toNat, by omega⟩
                have hv : v0 < k := by omega
                have HF := Lib.hid (putI_fits (k := k) (v0 : Int) HB'.out)
                have HE := Lib.hid (mem_putI (B := B) hv)
                generalize putI k B (v0 : Int) = C at HP4 HF HE ⊢
                clear hy
                go_wp2_with fail
                refine (rput_any A1 _ c1 k v0 (mem k B) _ rfl (by have := mem_len (k := k) (B := B) k2; omega) HP4.out.lst k2).mono ?_
                rintro e w5 ⟨⟨u, rfl, hO⟩, b5⟩
                rw [← HE.out] at hO
                have HP5 := Lib.hid (HP4.out.list b5 hO)
                clear hO b5
                go_wp2_with fail
                go_meet
                exact ⟨rfl, C, HF.out, HP5.out⟩
              · have e : putI k B y = B := by unfold putI; rw [if_neg hy]
                rw [e] at HP4 ⊢
                clear e
                rcases (by omega : y < 0 ∨ (0 ≤ y ∧ (k : Int) ≤ y)) with hy' | ⟨hy1, hy2⟩
                · clear hy
                  go_wp2_with fail
                  go_meet
                  exact ⟨rfl, B, HB'.out, HP4.out⟩
                · clear hy
                  go_wp2_with fail
                  go_meet
                  exact ⟨rfl, B, HB'.out, HP4.out⟩
            · have s0 := HP.out.s0
              have s1 := HP.out.s1
              go_wp2_with fail
              refine (drop_any k B y _ k2 HB'.out).mono ?_
              rintro e w3 ⟨rfl, b3⟩
              have HP3 := Lib.hid (HP.out.next b3)
              clear b3 s0 s1
              have HF := Lib.hid (dropI_fits y k2 HB'.out)
              have HE := Lib.hid (mem_dropI y k2 HB'.out)
              generalize dropI k B y = C at HF HE ⊢
              go_wp2_with fail
              refine (rdrop_any A1 _ c1 (mem k B) y _ rfl (by have := mem_len (k := k) (B := B) k2; omega) HP3.out.lst).mono ?_
              rintro e w5 ⟨⟨u, rfl, hO⟩, b5⟩
              rw [← HE.out] at hO
              have HP5 := Lib.hid (HP3.out.list b5 hO)
              clear hO b5
              have s0 := HP5.out.s0
              have s1 := HP5.out.s1
              have f0 := HP5.out.f0
              have f1 := HP5.out.f1
              go_wp2_with fail
              go_meet
              exact ⟨rfl, C, HF.out, HP5.out.store C⟩
          case rest =>
            obtain ⟨rfl, C, hC, hP5⟩ := hcut
            have HP5 := Lib.hid hP5
            have HB2 := Lib.hid hC
            obtain ⟨A2, c2, rfl, hr⟩ := hP5.row
            have HL := Lib.hid hr.lst
            have HO := Lib.hid (onlyI_fits (k := k) (B := C) y)
            clear hP5 hC hr HP HB'
            go_wp2_with fail
            refine (rhas_any A2 _ c2 (mem k C) y _ rfl (by have := mem_len (k := k) (B := C) k2; omega) HL.out).mono ?_
            rintro e w4 ⟨rfl, rfl⟩
            rw [memI_mem]
            cases hq : hasB k C y with
            | true =>
              obtain ⟨q1, q2⟩ := mem_only_yes hq
              have HE := Lib.hid q1
              have s0 := HP5.out.s0
              have s1 := HP5.out.s1
              have hsz := HP5.out.size
              clear hq q1
              go_wp2_with fail
              have b0 : Below wc.heap.size wc (wc.alloc (Obj.cells #[Value.int IntKind.i64 y] 3)) := (Below.refl _ _).alloc (Nat.le_refl _) _
              have X0 := Lib.hid (HP5.out.next b0)
              have L0 : Hid (Lst (wc.alloc (Obj.cells #[Value.int IntKind.i64 y] 3)) (some ⟨wc.heap.size, 0, none⟩) (mem k (onlyI k C y))) := by
                rw [HE.out]
                refine Lib.hid (.inr ⟨wc.heap.size, rfl, by simp, fun i hi => ?_⟩)
                obtain rfl : i = 0 := by simp at hi; omega
                rw [World.cell?_alloc_at _ _ _ _ rfl]
                show some (Value.int .i64 y) = some (.int .i64 ((y.toNat : Nat) : Int))
                rw [Int.toNat_of_nonneg q2]
              clear b0
              refine (like_yes A2 _ c2 k C _ (HT.out.next X0.out.below) k2 HB2.out rfl X0.out.lst).mono ?_
              rintro e w6 ⟨rfl, b6⟩
              have X6 := Lib.hid (X0.out.next b6)
              have L6 := Lib.hid (L0.out.below b6 (Nat.le_refl _))
              clear b6 s0 s1
              have s0 := X6.out.s0
              have s1 := X6.out.s1
              go_wp2_with fail
              refine (next_any k C y _ (HT.out.next X6.out.below) k2 HB2.out).mono ?_
              rintro e w7 ⟨rfl, b7⟩
              have X7 := Lib.hid (X6.out.next b7)
              have L7 := Lib.hid (L6.out.below b7 (Nat.le_refl _))
              clear b7 s0 s1
              have F := Lib.hid (rnext_any A2 _ c2 (mem k C) y w7 rfl (by have := mem_len (k := k) (B := C) k2; omega) X7.out.lst)
              generalize nextI (mem k C) y = q at F ⊢
              go_wp2_with fail
              refine F.out.mono ?_
              rintro e w8 ⟨rfl, rfl⟩
              have s0 := X7.out.s0
              have s1 := X7.out.s1
              go_wp2_with fail
              refine (only_any k C y _ k2 HB2.out).mono ?_
              rintro e w9 ⟨rfl, b9⟩
              have X9 := Lib.hid (X7.out.next b9)
              have L9 := Lib.hid (L7.out.below b9 (Nat.le_refl _))
              clear b9 s0 s1
              generalize onlyI k C y = D at HE HO L9 ⊢
              go_wp2_with fail
              refine (like_yes _ _ _ k D _ (HT.out.next X9.out.below) k2 HO.out (by rw [HE.out]; rfl) L9.out).mono ?_
              rintro e w10 ⟨rfl, b10⟩
              have X10 := Lib.hid (X9.out.next b10)
              clear b10
              go_wp2_with fail
              go_roundw
              case rel => exact ⟨j + 1, C, by omega, by go_num, HB2.out, X10.out⟩
              case measure => simp [intOf]; omega
            | false =>
              have HE := Lib.hid (mem_only_no hq)
              clear hq
              have s0 := HP5.out.s0
              have s1 := HP5.out.s1
              go_wp2_with fail
              have X0 := HP5
              have L0 : Hid (Lst wc none (mem k (onlyI k C y))) := by
                rw [HE.out]
                exact Lib.hid (.inl rfl)
              refine (like_yes A2 _ c2 k C _ (HT.out.next X0.out.below) k2 HB2.out rfl X0.out.lst).mono ?_
              rintro e w6 ⟨rfl, b6⟩
              have X6 := Lib.hid (X0.out.next b6)
              have L6 := Lib.hid (L0.out.below b6 (Nat.le_refl _))
              clear b6 s0 s1
              have s0 := X6.out.s0
              have s1 := X6.out.s1
              go_wp2_with fail
              refine (next_any k C y _ (HT.out.next X6.out.below) k2 HB2.out).mono ?_
              rintro e w7 ⟨rfl, b7⟩
              have X7 := Lib.hid (X6.out.next b7)
              have L7 := Lib.hid (L6.out.below b7 (Nat.le_refl _))
              clear b7 s0 s1
              have F := Lib.hid (rnext_any A2 _ c2 (mem k C) y w7 rfl (by have := mem_len (k := k) (B := C) k2; omega) X7.out.lst)
              generalize nextI (mem k C) y = q at F ⊢
              go_wp2_with fail
              refine F.out.mono ?_
              rintro e w8 ⟨rfl, rfl⟩
              have s0 := X7.out.s0
              have s1 := X7.out.s1
              go_wp2_with fail
              refine (only_any k C y _ k2 HB2.out).mono ?_
              rintro e w9 ⟨rfl, b9⟩
              have X9 := Lib.hid (X7.out.next b9)
              have L9 := Lib.hid (L7.out.below b9 (Nat.le_refl _))
              clear b9 s0 s1
              generalize onlyI k C y = D at HE HO L9 ⊢
              go_wp2_with fail
              refine (like_yes _ _ _ k D _ (HT.out.next X9.out.below) k2 HO.out (by rw [HE.out]; rfl) L9.out).mono ?_
              rintro e w10 ⟨rfl, b10⟩
              have X10 := Lib.hid (X9.out.next b10)
              clear b10
              go_wp2_with fail
              go_roundw
              case rel => exact ⟨j + 1, C, by omega, by go_num, HB2.out, X10.out⟩
              case measure => simp [intOf]; omega
      · go_wp2_with fail
        go_ret
        exact ⟨rfl, HP.out.below⟩
    · go_wp2_with fail
      go_ret
      exact ⟨rfl, HP.out.below⟩
end Go.Proofs.YtlpclbilomcaiaaDoor
