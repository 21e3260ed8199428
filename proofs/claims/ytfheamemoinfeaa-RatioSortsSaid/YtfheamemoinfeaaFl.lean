/- RatioSorts: the walk (no statement of its own). -/
import Derived.Test.YtfheamemoinfeaaFk
import Derived.Deep.RegionHeld3
import Derived.Deep.RegionHeldLaw
import Derived.Deep.Cut
namespace Go.Proofs.Ytfheamemoinfeaa
open Go.RowKit
open RtA
set_option linter.unusedVariables false
/-- What the second loop holds: what is left, what is out. -/
def SoI (wb : World) (l : List Nat) (v0 v6 : Value) (W : World) : Prop :=
  ∃ r o, OwnF W wb.heap.size v0 r ∧ OwnF W wb.heap.size v6 o ∧ (v6.ownBlock = none ∨ v0.ownBlock ≠ v6.ownBlock) ∧ SortI l o r ∧ Below wb.heap.size wb W
def sliceLen : Value → Nat
  | .slice _ n _ => n
  | _ => 0
theorem first_some {r : List Nat} {j : Int} {n : Nat} (h : IsFirst r j) (hn : r.length = n) (h0 : 0 < n) : ∃ p : Nat, p < n ∧ j = (p : Int) ∧ ∀ q, q < r.length → kx (nthF r p) ≤ kx (nthF r q) := by
  rcases h with ⟨rfl, _⟩ | ⟨p, hp, rfl, h1, _⟩
  · simp at hn; omega
  · exact ⟨p, by omega, rfl, h1⟩
theorem apart_new {w w' : World} {B C : Nat} {v v' : Value} {l r : List Nat} (h : OwnF w B v l) (h' : OwnF w' C v' r) (hC : w.heap.size ≤ C) : v.ownBlock = none ∨ v'.ownBlock ≠ v.ownBlock := by
  cases e : v.ownBlock with
  | none => exact .inl rfl
  | some k =>
    right
    intro q
    have := (h.lt k e).2
    have := (h'.lt k q).1
    omega
theorem own_some {w : World} {B n : Nat} {v : Value} {r : List Nat} (h : OwnF w B v r) (hn : r.length = n) (h0 : 0 < n) : ∃ g c, v = .slice (some ⟨g, 0, none⟩) n c ∧ n ≤ c ∧ c ≤ maxLen ∧ g < w.heap.size := by
  subst hn
  obtain ⟨A, c, rfl, h1, h2, h3, h4⟩ := h.form
  cases A with
  | none => have := h3 rfl; omega
  | some ad => obtain ⟨g, rfl, _, h5⟩ := h4 ad rfl; exact ⟨g, c, rfl, h1, h2, h5⟩
theorem own_zero {w : World} {B : Nat} {v : Value} (h : OwnF w B v []) : ∃ A c, v = .slice A 0 c := by
  obtain ⟨A0, c0, rfl, _⟩ := h.form
  exact ⟨A0, c0, rfl⟩
theorem cnt_next {l : List Nat} {p : Nat} (h : p < l.length) : cntN (l.take (p + 1)) = cntN (l.take p) + if nan (nthF l p) = true then 1 else 0 := by
  rw [List.take_succ_eq_append_getElem h, cntN_append, nthF_get l p h, cntN_one]
set_option maxRecDepth 100000 in
set_option maxHeartbeats 4000000 in
theorem sorts_walk (A : Option Addr) (n c : Nat) (l : List Nat) (w : World) (hn : l.length = n) (hw : SrcF w A l) (hA : A = none → c = 0) (hnc : n ≤ c) (hm : c ≤ maxLen) : Calls Try.prog 7 #[.slice A n c] w fun e w' => e = .returned (.bool true) ∧ Below w.heap.size w w' := by
  unfold maxLen at hm
  obtain ⟨k, hk1, hk2, hk3⟩ : ∃ k : Nat, (if (15 : Int) < (n : Int) then (15 : Int) else (n : Int)) = (k : Int) ∧ k ≤ n ∧ k ≤ 15 := ⟨min n 15, by split <;> omega, by omega, by omega⟩
  have hkl : (l.take k).length = k := by rw [List.length_take]; omega
  have HW := Lib.hid (hw.take k)
  have HKL := Lib.hid hkl
  have HA := Lib.hid hA
  clear hw hkl hn hA
  generalize l.take k = l at *
  go_enter Try.func7, Try.ntmps7
  go_wp2_with (go_at_call 9; refine (awake_any _).mono ?_)
  rintro e w1 ⟨rfl, hg1⟩
  have HG1 := Lib.hid hg1
  have OE := Lib.hid (own_empty w1)
  have SE := Lib.hid ((HW.out.grown hg1).grown (World.grownBy_alloc w1 (.cells #[] 24) none))
  clear hg1
  go_wp2_with (at_builtin; refine appF_own rfl (.tmp 12) (.tmp 17) rfl _ w1.heap.size k c _ [] l A HKL.out (by rfl) (by rfl) OE.out SE.out HA.out (by simp) (by simp) (by omega) ?_; rintro v2 w2 hO2 hg2 -; obtain ⟨A2, c2, rfl, -, O2, hg3⟩ := own_taken hO2 hg2 HKL.out; clear hO2 hg2)
  have B2 := Lib.hid (below_of_grown (HG1.out.trans hg3))
  have S2 := Lib.hid (O2.out.src HKL.out.symm)
  have CF := Lib.hid ffirst_any
  clear hnc hm
  go_loop [3, 21] (fun c i => ∃ p : Nat, p ≤ k ∧ i = .int .i64 (p : Int) ∧ c = .int .i64 (cntN (l.take p) : Int)) (fun _ i => k - (intOf i).toNat)
  case atStart => exact ⟨0, Nat.zero_le _, rfl, rfl⟩
  case round =>
    obtain ⟨p, hp, rfl, rfl⟩ := hrel
    by_cases hpk : p < k
    · have hpl : p < l.length := by rw [HKL.out]; exact hpk
      obtain ⟨ad, rfl, cp⟩ : ∃ ad, A2 = some ad ∧ w2.cell? (ad.add p) = some (.float .f64 (nthF l p)) := by
        rcases S2.out with rfl | ⟨ad, rfl, _, h⟩
        · simp at hpl
        · exact ⟨ad, rfl, h p hpl⟩
      have hs := Lib.hid (cnt_next hpl)
      have hn := ne_self (nthF l p)
      have hle : cntN (l.take p) ≤ 15 := by have := cntN_le (l.take p); rw [List.length_take] at this; omega
      generalize cntN (l.take p) = m at *
      generalize nthF l p = x at *
      clear hpl
      cases hx : nan x
      · rw [hx] at hn
        have HX := Lib.hid hx
        clear hx
        go_wp2_with fail
        go_round
        case rel => exact ⟨p + 1, by omega, by go_num, by rw [hs.out, HX.out]; simp⟩
        case measure => simp [intOf]; omega
      · rw [hx] at hn
        have HX := Lib.hid hx
        clear hx
        go_wp2_with fail
        go_round
        case rel => exact ⟨p + 1, by omega, by go_num, by rw [hs.out, HX.out]; simp⟩
        case measure => simp [intOf]; omega
    · have : p = k := by omega
      subst this
      have e1 : l.take p = l := List.take_of_length_le (by rw [HKL.out]; omega)
      rw [e1]
      clear e1
      go_wp2_with fail
      have SI := Lib.hid (SortI.start l)
      have OL := Lib.hid (O2.out)
      have BL := Lib.hid (below_of_grown hg3)
      have HB0 : Hid (Below w.heap.size w w1) := Lib.hid (below_of_grown HG1.out)
      have HK : Hid (l.length ≤ 15) := Lib.hid (by rw [HKL.out]; omega)
      have HAA := Lib.hid (show (Value.slice none 0 0).ownBlock = none from rfl)
      go_loopw [0, 2, 6, 7] (fun v0 _ v6 _ wr => SoI w1 l v0 v6 wr) (fun v0 _ _ _ _ => sliceLen v0)
      case atStart => exact ⟨l, [], OL.out, ownF_nil _ _, .inl rfl, SI.out, BL.out⟩
      case round =>
        obtain ⟨r, o, hO, hP, hap, hS, hB⟩ := hrel
        have hlr : r.length ≤ 15 := by have := hS.len; have := HK.out; omega
        have hlo : o.length ≤ 15 := by have := hS.len; have := HK.out; omega
        obtain ⟨q, hq⟩ : ∃ q, r.length = q := ⟨_, rfl⟩
        have HRN := Lib.hid hq
        have HLO := Lib.hid hlo
        have HS := Lib.hid hS
        have HP := Lib.hid hP
        have HBW := Lib.hid hB
        rw [hq] at hlr
        by_cases h0 : q = 0
        · subst h0
          have hr0 := List.eq_nil_of_length_eq_zero hq
          subst hr0
          obtain ⟨A0, c0, rfl⟩ := own_zero hO
          have hol : o.length = l.length := by have := hS.len; simpa using this
          have hoc : cntN o = cntN l := by have := hS.cnt; simpa [cntN] using this
          have hor := Lib.hid hS.ris
          obtain ⟨K3, hK3⟩ : ∃ K3, o.length = K3 := ⟨_, rfl⟩
          obtain ⟨A6, c6, rfl, -, -, h63, h64⟩ := hP.form
          have S6 := Lib.hid (hP.src rfl)
          have HK3 := Lib.hid hK3
          have hm3 : cntN o ≤ K3 := by rw [← hK3]; exact cntN_le o
          have hk15 : K3 ≤ 15 := by rw [← hK3]; exact hlo
          rw [← hoc]
          rw [hK3]
          have HNN := Lib.hid (fun i hi => ris_nan hor.out i hi)
          have HLE := Lib.hid (fun i j (h1 : i < j) (h2 : j < o.length) => ris_le hor.out h1 h2)
          have HCM := Lib.hid fcmp_any
          clear hO hP hap hS hB hlr hlo hq hoc hol hK3 h63 h64 HS HP
          generalize cntN o = m at *
          go_wp2_with fail
          go_loop [63] (fun i => ∃ p : Nat, p ≤ K3 ∧ i = .int .i64 (p : Int)) (fun i => K3 - (intOf i).toNat)
          case atStart => exact ⟨0, Nat.zero_le _, rfl⟩
          case round =>
            obtain ⟨p, hp, rfl⟩ := hrel
            by_cases hpk : p < K3
            · have hpl : p < o.length := by rw [HK3.out]; exact hpk
              have hnn := HNN.out p hpl
              rw [HK3.out] at hnn
              obtain ⟨ad, rfl, HC⟩ : ∃ ad, A6 = some ad ∧ Hid (∀ j, j < o.length → wr.cell? (ad.add j) = some (.float .f64 (nthF o j))) := by
                rcases S6.out with rfl | ⟨ad, rfl, _, h⟩
                · simp at hpl
                · exact ⟨ad, rfl, Lib.hid h⟩
              have cp := HC.out p hpl
              have n1 := ne_self (nthF o p)
              by_cases p0 : p = 0
              · have hp0 : ¬ (0 : Int) < (p : Int) := by omega
                generalize nthF o p = x at *
                clear hpl
                cases hx : nan x
                · rw [hx] at n1
                  have hlt : p + m < K3 := by
                    rcases Nat.lt_or_ge (p + m) K3 with h | h
                    · exact h
                    · have := hnn.2 (by omega); rw [hx] at this; cases this
                  clear hx hnn p0
                  go_wp2_with fail
                  go_round
                  case rel => exact ⟨p + 1, by omega, by go_num⟩
                  case measure => simp [intOf]; omega
                · rw [hx] at n1
                  have hlt : K3 ≤ p + m := hnn.1 hx
                  clear hx hnn p0
                  go_wp2_with fail
                  go_round
                  case rel => exact ⟨p + 1, by omega, by go_num⟩
                  case measure => simp [intOf]; omega
              · obtain ⟨p', hp'⟩ : ∃ p', p = p' + 1 := ⟨p - 1, by omega⟩
                have cq := HC.out p' (by omega)
                have e1 : (p : Int) - 1 = (p' : Int) := by omega
                have hp1 : (0 : Int) < (p : Int) := by omega
                have hle := HLE.out p' p (by omega) hpl
                have hcm : cm (nthF o p') (nthF o p) ≤ 0 := by unfold cm; split <;> (try split) <;> omega
                have C := Lib.hid (HCM.out (nthF o p') (nthF o p))
                generalize cm (nthF o p') (nthF o p) = d at *
                generalize nthF o p = x at *
                generalize nthF o p' = y at *
                have HP' := Lib.hid hp'
                clear hpl hle p0 hp'
                cases hx : nan x
                · rw [hx] at n1
                  have hlt : p + m < K3 := by
                    rcases Nat.lt_or_ge (p + m) K3 with h | h
                    · exact h
                    · have := hnn.2 (by omega); rw [hx] at this; cases this
                  clear hx hnn
                  go_wp2_with (go_at_call 11; refine (C.out _).mono ?_; rintro e w' ⟨rfl, rfl⟩)
                  go_round
                  case rel => exact ⟨p + 1, by omega, by go_num⟩
                  case measure => simp [intOf]; omega
                · rw [hx] at n1
                  have hlt : K3 ≤ p + m := hnn.1 hx
                  clear hx hnn
                  go_wp2_with (go_at_call 11; refine (C.out _).mono ?_; rintro e w' ⟨rfl, rfl⟩)
                  go_round
                  case rel => exact ⟨p + 1, by omega, by go_num⟩
                  case measure => simp [intOf]; omega
            · have : p = K3 := by omega
              subst this
              go_wp2_with fail
              go_ret
              exact ⟨rfl, HB0.out.trans (HBW.out.mono HB0.out.size)⟩
        · obtain ⟨gr, cr, rfl, hqc, hcr, hgr⟩ := own_some hO hq (by omega)
          have hR := hO.src hq.symm
          have OR := Lib.hid hO
          have SRr := Lib.hid hR
          have hOr : ∀ p, p < q → wr.cell? ⟨gr, p, none⟩ = some (.float .f64 (nthF r p)) := by
            intro p hp
            rcases hR with rfl | ⟨ad, e, _, h⟩
            · simp at hq; omega
            · injection e with e
              subst e
              have := h p (by omega)
              rw [add_zero_off] at this
              exact this
          have HOR := Lib.hid hOr
          have HAP := Lib.hid hap
          unfold maxLen at hcr
          clear hO hP hap hS hB hlo hq hR hOr hgr
          go_upto_region 14 with (go_at_call 12; refine (CF.out (some ⟨gr, 0, none⟩) q cr r wr HRN.out (by omega) SRr.out).mono ?_; rintro e w' ⟨j, rfl, hj, rfl⟩; obtain ⟨p, hp, rfl, hmin⟩ := first_some hj HRN.out (by omega); have HM := Lib.hid hmin; have cp := HOR.out p hp; clear hj hmin)
          have HSN := Lib.hid (HS.out.next (show p < r.length by rw [HRN.out]; exact hp) HM.out)
          have HX : Hid (∃ x, nthF r p = x) := Lib.hid ⟨_, rfl⟩
          generalize nthF r p = x at *
          have OOA := Lib.hid (HP.out.kept0 (World.grownBy_alloc wr (.cells #[.float .f64 x] 24) none))
          have SXA : Hid (SrcF (wr.alloc (.cells #[.float .f64 x] 24)) (some ⟨wr.heap.size, 0, none⟩) [x]) := by
            apply Lib.hid
            refine .inr ⟨_, rfl, by simp, fun j hj => ?_⟩
            have : j = 0 := by simp at hj; omega
            subst this
            rw [add_zero_off, cell_of_row _ _ _ _ _ _ (heap_alloc_new wr _)]
            rfl
          have BSZ : Hid (w1.heap.size ≤ (wr.alloc (.cells #[.float .f64 x] 24)).heap.size) := Lib.hid (by have := HBW.out.size; simp; omega)
          have hlo9 := HLO.out
          go_upto_region 17 with (at_builtin; refine appF_own rfl (.tmp 44) (.tmp 49) rfl _ w1.heap.size 1 1 _ o [x] (some ⟨wr.heap.size, 0, none⟩) rfl (by rfl) (by rfl) OOA.out SXA.out (by intro h; cases h) BSZ.out (by omega) (by omega) ?_; rintro v5 wf hO5 hg5 -)
          have O5 := Lib.hid hO5
          have OR5 : Hid (OwnF wf w1.heap.size (.slice (some ⟨gr, 0, none⟩) q cr) r) := by
            apply Lib.hid
            refine (OR.out.kept0 (World.grownBy_alloc wr (.cells #[.float .f64 x] 24) none)).kept hg5 (.inr ?_)
            rcases HAP.out with h | h
            · rw [h]; simp [Value.ownBlock]
            · exact h
          have SR := Lib.hid (OR5.out.src HRN.out.symm)
          have BF : Hid (Below w1.heap.size w1 wf) := Lib.hid ((HBW.out.alloc HBW.out.size _).grown hg5 BSZ.out (fun k hk => (OOA.out.lt k hk).1))
          clear hO5 hg5 cp SXA OOA BSZ HX HOR SRr OR HAP hlo9
          have i0 : (0 : Int) ≤ (p : Int) := by omega
          have i1 : (p : Int) ≤ (cr : Int) := by omega
          have i2 : (p : Int) + 1 ≤ (q : Int) := by omega
          have i3 : (0 : Int) ≤ (p : Int) + 1 := by omega
          have e1 : IntKind.i64.wrap ((p : Int) + 1) = (p : Int) + 1 := IntWalk.i64_in _ (by omega)
          have e2 : ((p : Int) + 1).toNat = p + 1 := by omega
          have i4 : (q : Int) ≤ (cr : Int) := by omega
          refine wp_region_noPanic ?_
          refine wp_region_held_drew (S := fun W => Below wf.heap.size wf W) (by kernel_rfl) (Below.refl _ _).drew (fun hHeld => ?_)
          have Z5 : Hid (wf.drew.heap.size = wf.heap.size) := Lib.hid rfl
          generalize wf.drew = w5 at hHeld Z5 ⊢
          refine wpAnyH_take (i := 1) (v := ?v1) rfl (by kernel_rfl) (by kernel_rfl) (by kernel_rfl) (fun _ _ _ h => h) (Or.inl ⟨by rfl, ?y1⟩) (by assumption) ?r1
          case y1 => ((intro w hSw; (try dsimp only at hSw); go_simp); try with_reducible rfl)
          try simp only [Act.put, List.getElem_toArray, List.getElem_cons_succ, List.getElem_cons_zero, List.setIfInBounds_toArray, List.set_cons_zero, List.set_cons_succ]
          refine wpAnyH_take (i := 2) (v := ?v2) rfl (by kernel_rfl) (by kernel_rfl) (by kernel_rfl) (fun _ _ _ h => h) (Or.inl ⟨by rfl, ?y2⟩) (by assumption) ?r2
          case y2 => ((intro w hSw; (try dsimp only at hSw); go_simp); try with_reducible rfl)
          try simp only [Act.put, List.getElem_toArray, List.getElem_cons_succ, List.getElem_cons_zero, List.setIfInBounds_toArray, List.set_cons_zero, List.set_cons_succ]
          refine wpAnyH_take (i := 3) (v := ?v3) rfl (by kernel_rfl) (by kernel_rfl) (by kernel_rfl) (fun _ _ _ h => h) (Or.inl ⟨by rfl, ?y3⟩) (by assumption) ?r3
          case y3 => ((intro w hSw; (try dsimp only at hSw); go_simp); try with_reducible rfl)
          try simp only [Act.put, List.getElem_toArray, List.getElem_cons_succ, List.getElem_cons_zero, List.setIfInBounds_toArray, List.set_cons_zero, List.set_cons_succ]
          refine wpAnyH_take (i := 5) (v := ?v4) rfl (by kernel_rfl) (by kernel_rfl) (by kernel_rfl) (fun _ _ _ h => h) (Or.inl ⟨by rfl, ?y4⟩) (by assumption) ?r4
          case y4 => ((intro w hSw; (try dsimp only at hSw); go_simp); try with_reducible rfl)
          try simp only [Act.put, List.getElem_toArray, List.getElem_cons_succ, List.getElem_cons_zero, List.setIfInBounds_toArray, List.set_cons_zero, List.set_cons_succ]
          refine wpAnyH_take (i := 6) (v := ?v5) rfl (by kernel_rfl) (by kernel_rfl) (by kernel_rfl) (fun _ _ _ h => h) (Or.inl ⟨by rfl, ?y5⟩) (by assumption) ?r5
          case y5 => ((intro w hSw; (try dsimp only at hSw); go_simp); try with_reducible rfl)
          try simp only [Act.put, List.getElem_toArray, List.getElem_cons_succ, List.getElem_cons_zero, List.setIfInBounds_toArray, List.set_cons_zero, List.set_cons_succ]
          refine wpAnyH_take (i := 7) (v := ?v6) rfl (by kernel_rfl) (by kernel_rfl) (by kernel_rfl) (fun _ _ _ h => h) (Or.inl ⟨by rfl, ?y6⟩) (by assumption) ?r6
          case y6 => ((intro w hSw; (try dsimp only at hSw); go_simp); try with_reducible rfl)
          try simp only [Act.put, List.getElem_toArray, List.getElem_cons_succ, List.getElem_cons_zero, List.setIfInBounds_toArray, List.set_cons_zero, List.set_cons_succ]
          refine wpAnyH_take (i := 8) (v := ?v7) rfl (by kernel_rfl) (by kernel_rfl) (by kernel_rfl) (fun _ _ _ h => h) (Or.inl ⟨by rfl, ?y7⟩) (by assumption) ?r7
          case y7 => ((intro w hSw; (try dsimp only at hSw); go_simp); try with_reducible rfl)
          try simp only [Act.put, List.getElem_toArray, List.getElem_cons_succ, List.getElem_cons_zero, List.setIfInBounds_toArray, List.set_cons_zero, List.set_cons_succ]
          refine wpAnyH_ready (rs := [0]) (by kernel_rfl) (by simp) ?_
          refine AllReadyH.cons rfl (fun K hK => ?_) ?_
          · go_simp
            have na := below_alloc w5 (.cells #[] 24)
            have OW : Hid (OwnF (w5.alloc (.cells #[] 24)) w5.heap.size (.slice (some ⟨w5.heap.size, 0, none⟩) 0 0) []) := Lib.hid (own_empty w5)
            have Z6 : Hid (w5.heap.size ≤ (w5.alloc (.cells #[] 24)).heap.size) := Lib.hid (by simp)
            refine hK.out _ _ (hHeld.trans (na.mono (Nat.le_of_eq Z5.out.symm))) (fun hHeld' => ?_)
            clear hHeld
            have hHeld := hHeld'
            clear hHeld'
            clear na
            generalize w5.alloc (.cells #[] 24) = w6 at hHeld OW Z6 ⊢
            clear hK K
            try simp only [Act.put, List.getElem_toArray, List.getElem_cons_succ, List.getElem_cons_zero, List.setIfInBounds_toArray, List.set_cons_zero, List.set_cons_succ]
            refine wpAnyH_ready (rs := [4]) (by kernel_rfl) (by simp) ?_
            refine AllReadyH.cons rfl (fun K hK => ?_) ?_
            · refine appF_step rfl (.tmp 51) (.tmp 54) rfl w6 w5.heap.size p cr _ [] (r.take p) (some ⟨gr, 0, none⟩) (by rw [List.length_take]; have := HRN.out; omega) (by rfl) (by rfl) OW.out ((SR.out.below hHeld (Nat.le_refl _)).take p) (by intro h; cases h) Z6.out (by simp) (by omega) ?_
              intro v7 w7 hO hg hn
              have OX : Hid (OwnF w7 w5.heap.size v7 ([] ++ r.take p)) := Lib.hid hO
              have Z7 : Hid (w5.heap.size ≤ w7.heap.size) := Lib.hid (Nat.le_trans Z6.out hg.size)
              refine hK.out _ _ (hHeld.grown hg (by have := Z6.out; have := Z5.out; omega) (fun k hk => by have := (OW.out.lt k hk).1; have := Z5.out; omega)) (fun hHeld' => ?_)
              clear hHeld
              have hHeld := hHeld'
              clear hHeld'
              clear hO hg hn OW Z6
              clear hK K
              try simp only [Act.put, List.getElem_toArray, List.getElem_cons_succ, List.getElem_cons_zero, List.setIfInBounds_toArray, List.set_cons_zero, List.set_cons_succ]
              refine wpAnyH_ready (rs := [9]) (by kernel_rfl) (by simp) ?_
              refine AllReadyH.cons rfl (fun K hK => ?_) ?_
              · refine appF_step rfl (.tmp 55) (.tmp 59) rfl w7 w5.heap.size (q - (p + 1)) (cr - (p + 1)) _ ([] ++ r.take p) (r.drop (p + 1)) (if cr = p + 1 then some ⟨gr, 0, none⟩ else some ⟨gr, p + 1, none⟩) (by rw [List.length_drop]; have := HRN.out; omega) (by rfl) (by rfl) OX.out (srcF_drop (SR.out.below hHeld (Nat.le_refl _)) (by have := HRN.out; omega)) (by intro h; split at h <;> cases h) Z7.out (by simp; omega) (by omega) ?_
                intro v8 w8 hO hg hn
                rw [List.nil_append] at hO
                have hlen : (r.take p ++ r.drop (p + 1)).length = q - 1 := by have := HRN.out; simp; omega
                obtain ⟨A8, c8, rfl, -⟩ := hO.form
                rw [hlen] at hO ⊢
                have OY : Hid (OwnF w8 w5.heap.size (.slice A8 (q - 1) c8) (without r p)) := Lib.hid hO
                refine hK.out _ _ (hHeld.grown hg (by have := Z7.out; have := Z5.out; omega) (fun k hk => by have := (OX.out.lt k hk).1; have := Z5.out; omega)) (fun hHeld' => ?_)
                clear hHeld
                have hHeld := hHeld'
                clear hHeld'
                clear hO hg hn OX Z7 hlen
                clear hK K
                try simp only [Act.put, List.getElem_toArray, List.getElem_cons_succ, List.getElem_cons_zero, List.setIfInBounds_toArray, List.set_cons_zero, List.set_cons_succ]
                refine wpAnyH_take (i := 10) (v := ?v8) rfl (by kernel_rfl) (by kernel_rfl) (by kernel_rfl) (fun _ _ _ h => h) (Or.inl ⟨by rfl, ?y8⟩) (by assumption) ?r8
                case y8 => ((intro w hSw; (try dsimp only at hSw); go_simp); try with_reducible rfl)
                try simp only [Act.put, List.getElem_toArray, List.getElem_cons_succ, List.getElem_cons_zero, List.setIfInBounds_toArray, List.set_cons_zero]
                refine wpAnyH_done (by kernel_rfl) ?_ _
                refine NoPanic.normal ?_
                have B8 := Lib.hid hHeld
                clear hHeld
                have HFIN : Hid (SoI w1 l (.slice A8 (q - 1) c8) v5 w8) := by
                  apply Lib.hid
                  have hb := BF.out.trans (B8.out.mono BF.out.size)
                  have hz := BF.out.size
                  exact ⟨without r p, o ++ [x], OY.out.less (by have := Z5.out; omega), O5.out.below B8.out (Nat.le_refl _), apart_new O5.out OY.out (Nat.le_of_eq Z5.out.symm), HSN.out, hb⟩
                clear B8 OY O5 SR Z5 BF i0 i1 i2 i3 i4 e1 e2
                go_wp2_with fail
                go_roundw
                case rel => exact HFIN.out
                case measure => simp [sliceLen]; omega
              exact AllReadyH.nil
            exact AllReadyH.nil
          exact AllReadyH.nil
end Go.Proofs.Ytfheamemoinfeaa
