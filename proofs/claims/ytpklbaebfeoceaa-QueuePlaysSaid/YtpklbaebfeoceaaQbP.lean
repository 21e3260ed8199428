/- The walk of the law on every script of pushing, popping and dropping (no statement of its own). -/
import Derived.Test.YtpklbaebfeoceaaQuG
namespace Go.Proofs.Ytpklbaebfeoceaa
namespace QbP
open Go.RowKit
set_option linter.unusedVariables false
def Acts (w : World) (a1 : Option Addr) (na : Nat) : Prop :=
  (∀ j, j < na → ∃ (p : Addr) (d x pr : Int), a1 = some p ∧ p.block < w.heap.size ∧ w.cell? (p.add (j * 3)) = some (.int .u8 d) ∧ w.cell? ⟨(p.add (j * 3)).block, (p.add (j * 3)).off + 1, none⟩ = some (.int .i64 x) ∧
    w.cell? ⟨(p.add (j * 3)).block, (p.add (j * 3)).off + 2, none⟩ = some (.int .i64 pr) ∧ 0 ≤ d ∧ d ≤ 255 ∧ -9223372036854775808 ≤ x ∧ x ≤ 9223372036854775807) ∧ (na : Int) ≤ 9223372036854775807
theorem act_block {w : World} {ba : Nat} {d x pr : Int} (h : w.heap[ba]? = some (.cells #[.int .u8 d, .int .i64 x, .int .i64 pr] 28 (0, 0))) : w.cell? ⟨ba, 0, none⟩ = some (.int .u8 d) ∧ w.cell? ⟨ba, 1, none⟩ = some (.int .i64 x) ∧ w.cell? ⟨ba, 2, none⟩ = some (.int .i64 pr) :=
  ⟨by rw [cell_of_row _ _ _ _ _ _ h]; rfl, by rw [cell_of_row _ _ _ _ _ _ h]; rfl, by rw [cell_of_row _ _ _ _ _ _ h]; rfl⟩
set_option maxRecDepth 100000 in
set_option maxHeartbeats 16000000 in
theorem main (a0 : Int) (a1 : Option Addr) (na ca : Nat) (w : World) (h0 : 0 ≤ a0) (h1 : a0 ≤ 255) (hact : Acts w a1 na) :
    Calls Try.prog 3 #[.int .u8 a0, .slice a1 na ca] w fun e w' => e = .returned (.bool true) ∧ Below w.heap.size w w' := by
  have AW := Lib.hid (awake_q w)
  have HAC := Lib.hid hact.1
  have hna := hact.2
  obtain ⟨K, hK⟩ : ∃ K : Nat, a0 % 20 = (K : Int) := ⟨(a0 % 20).toNat, by omega⟩
  have hK20 : K < 20 := by omega
  clear hact
  go_enter Try.func3, Try.ntmps3
  go_wp2_with (go_at_call 8; refine AW.out.mono ?_; rintro e w1 ⟨rfl, hg1⟩)
  have HG1 := Lib.hid hg1
  have C2 := Lib.hid (new_any (K : Int) w1)
  clear hg1
  go_wp2_with (go_at_call 9; refine C2.out.mono ?_)
  rintro e w2 ⟨rfl, p1, p2, p3⟩
  have hPS : PS w1.heap.size w2 (w1.heap.size + 1) w1.heap.size (K : Int) [] [] (.slice none 0 0) := ⟨_, p1 _ (Nat.le_refl _), by omega, p2.size, World.ownsRow_nil _ _ _ _⟩
  have HB2 := Lib.hid ((below_of_grown HG1.out (Nat.le_refl _)).trans (below_of_grown p2 HG1.out.size))
  have HSB := Lib.hid HG1.out.size
  have HPS0 := Lib.hid hPS
  clear hPS p1 p2 p3 C2 HG1 hK
  generalize w1.heap.size + 1 = b at *
  obtain ⟨m, hm⟩ : ∃ m, PS w1.heap.size w2 b m (K : Int) [] [] (.slice none 0 0) := ⟨_, HPS0.out⟩
  have HPS := Lib.hid hm
  clear HPS0 hm
  generalize w1.heap.size = B at *
  go_wp2_with fail
  go_loopw [7, 26] (fun vl i wr => ∃ q : Nat, q ≤ na ∧ i = .int .i64 (q : Int) ∧ ∃ L A c, vl = .slice A L.length c ∧ (L.length ≤ q ∧ L.length ≤ 80 ∧ PS B wr b m (K : Int) L L (.slice A L.length c) ∧ Below w.heap.size w wr)) (fun _ i _ => na - (intOf i).toNat)
  case atStart => exact ⟨0, Nat.zero_le _, rfl, [], none, 0, rfl, Nat.le_refl _, by simp, HPS.out, HB2.out⟩
  case round =>
    clear HPS HB2
    obtain ⟨q, hqn, rfl, L, A, c, rfl, hLq, hL80, hps, hbw⟩ := hrel
    have HPS := Lib.hid hps
    have HBW := Lib.hid hbw
    have HLQ := Lib.hid hLq
    have HL8 := Lib.hid hL80
    clear hps hbw hLq hL80
    by_cases hlt : q < na
    · obtain ⟨p, d, x, pr, rfl, hpb, hc0, hc1, hc2, hd0, hd1, hx0, hx1⟩ := HAC.out q hlt
      have e0 : (p.add (q * 3)).block = p.block := by unfold Addr.add; split <;> rfl
      have d0 : wr.cell? (p.add (q * 3)) = some (.int .u8 d) := (HBW.out.cell (p := p.add (q * 3)) (by rw [e0]; exact hpb)).trans hc0
      have d1 : wr.cell? ⟨(p.add (q * 3)).block, (p.add (q * 3)).off + 1, none⟩ = some (.int .i64 x) := (HBW.out.cell (p := ⟨(p.add (q * 3)).block, (p.add (q * 3)).off + 1, none⟩) (by show (p.add (q * 3)).block < _; rw [e0]; exact hpb)).trans hc1
      have d2 : wr.cell? ⟨(p.add (q * 3)).block, (p.add (q * 3)).off + 2, none⟩ = some (.int .i64 pr) := (HBW.out.cell (p := ⟨(p.add (q * 3)).block, (p.add (q * 3)).off + 2, none⟩) (by show (p.add (q * 3)).block < _; rw [e0]; exact hpb)).trans hc2
      clear hc0 hc1 hc2 e0 hpb
      by_cases h80 : q < 80
      · have h80' : decide (q < 80) = true := by simp [h80]
        have h80n : ¬ (80 : Int) ≤ (q : Int) := by omega
        go_upto_region 10 with fail
        have hgx := World.grownBy_alloc wr (.cells #[.int .u8 d, .int .i64 x, .int .i64 pr] 28) none
        have hcx := heap_alloc_new wr (.cells #[.int .u8 d, .int .i64 x, .int .i64 pr] 28)
        have HPA := Lib.hid (HPS.out.kept hgx)
        have HBA := Lib.hid (HBW.out.trans (below_of_grown hgx HBW.out.size))
        have HCX := Lib.hid hcx
        obtain ⟨k0, k1, k2⟩ := act_block hcx
        clear hgx hcx d0 d1 d2 HPS HBW h80 h80'
        generalize wr.alloc (.cells #[.int .u8 d, .int .i64 x, .int .i64 pr] 28) = wa at *
        generalize wr.heap.size = ba at *
        obtain ⟨D, hD⟩ : ∃ D : Int, d % 7 = D := ⟨_, rfl⟩
        have hD7 : 0 ≤ D ∧ D < 7 := by omega
        have HX := Lib.hid (show -9223372036854775808 ≤ x ∧ x ≤ 9223372036854775807 from ⟨hx0, hx1⟩)
        have HLK := Lib.hid (show L.length < 100000 from by have := HL8.out; omega)
        by_cases h3 : D = 3
        · subst h3
          have C3 := Lib.hid (top_p HPA.out HLK.out)
          by_cases hLe : L = []
          · have HLE := Lib.hid hLe
            have hpe : L.Perm [] := by rw [hLe]
            have HPE := Lib.hid hpe
            clear hLe hpe
            go_wp2_with (go_at_call 10; refine C3.out.mono ?_)
            intro e w3 hT
            rw [HLE.out] at hT
            obtain ⟨rfl, hg⟩ := top_none hT
            have hcx3 := cell_act HCX.out (FrQ.grown hg)
            obtain ⟨j0, j1, j2⟩ := act_block hcx3
            have HC3 := Lib.hid hcx3
            have HP3 := Lib.hid (HPA.out.kept hg)
            have HB3 := Lib.hid (HBA.out.trans (below_of_grown hg HBA.out.size))
            clear hT hg hcx3 C3 k0 k1 k2
            have C4 := Lib.hid (pop_p0 (HP3.out.perm HPE.out))
            go_wp2_with (go_at_call 11; refine C4.out.mono ?_)
            rintro e w4 ⟨rfl, hps4, hb4, hf4⟩
            have hcx4 := cell_act HC3.out hf4
            have HC4 := Lib.hid hcx4
            have HP4 := Lib.hid (hps4.perm HPE.out.symm)
            have HB4 := Lib.hid (HB3.out.trans (hb4.mono HSB.out))
            clear j0 j1 j2
            obtain ⟨j0, j1, j2⟩ := act_block hcx4
            clear hps4 hb4 hf4 hcx4 C4
            have C5 := Lib.hid (rtop_any HP4.out.li HLK.out)
            go_wp2_with (go_at_call 12; refine C5.out.mono ?_)
            rintro e wt ⟨hg, hTT⟩
            have hTe : e = .returned (.int .i64 (-1)) := by
              rcases hTT with ⟨_, h⟩ | ⟨j, hj, _⟩
              · exact h
              · rw [HLE.out] at hj; simp at hj
            subst hTe
            have HPT := Lib.hid (HP4.out.kept hg)
            have HBT := Lib.hid (HB4.out.trans (below_of_grown hg HB4.out.size))
            have HLT := Lib.hid (show L.length ≤ q + 1 ∧ L.length ≤ 80 from ⟨by have := HLQ.out; omega, HL8.out⟩)
            clear hg hTT C5 HPA HBA HP3 HB3 HP4 HB4 HCX HC3 HC4 j0 j1 j2
            go_wp2_with fail
            have C8 := Lib.hid (len_p HPT.out)
            go_wp2_with (go_at_call 17; refine C8.out.mono ?_; rintro e w' ⟨rfl, rfl⟩)
            clear C8
            go_loopg [16] (K + 3) (fun r v wr => ∃ (y : Int) (bx : Nat), v = .pointer (some ⟨bx, 0, none⟩) ∧ -1 ≤ y ∧ y ≤ (K : Int) + 1 ∧ (K : Int) + 2 - y ≤ (r : Int) ∧ bx < wr.heap.size ∧ wr.cell? ⟨bx, 0, none⟩ = some (.int .i64 y) ∧ PS B wr b m (K : Int) L L (.slice A L.length c) ∧ Below w.heap.size w wr)
            case atStart =>
              exact ⟨-1, _, rfl, by omega, by omega, by omega, by simp, by rw [cell_of_row _ _ _ _ _ _ (heap_alloc_new _ _)]; rfl, HPT.out.kept (World.grownBy_alloc _ _ _), HBT.out.trans (below_of_grown (World.grownBy_alloc _ _ _) HBT.out.size)⟩
            case round =>
              clear HPT HBT
              obtain ⟨y, bx, rfl, hy0, hy1, hyr, hbx, hcy, hps, hbw⟩ := hrel
              have HPY := Lib.hid hps
              have HBY := Lib.hid hbw
              have C9 := Lib.hid (has_p (x := y) hps (by omega))
              have C10 := Lib.hid (con_any (x := y) ⟨bx, 0, none⟩ hps.li (by have := HLT.out; omega) hcy hbx)
              have HYR := Lib.hid hyr
              generalize hT : hasK L y = T at C9 C10
              clear hT hps hbw hyr
              by_cases hyk : y ≤ (K : Int)
              · cases T
                all_goals
                  go_wp2_with (go_at_call 18; refine C9.out.mono ?_; rintro e w' ⟨rfl, rfl⟩)
                  go_wp2_with (go_at_call 19; refine C10.out.mono ?_)
                  rintro e wz ⟨rfl, hgz⟩
                  have hcz : wz.cell? ⟨bx, 0, none⟩ = some (.int .i64 y) := (World.cell?_of_block (w := wr) (hgz.block bx hbx (by simp))).trans hcy
                  have HPZ := Lib.hid (HPY.out.kept hgz)
                  have HBZ := Lib.hid (HBY.out.trans (below_of_grown hgz HBY.out.size))
                  clear hgz hcy C9 C10
                  go_wp2_with fail
                  go_roundg (gk - 1)
                  case measure => have := HYR.out; omega
                  case rel => exact ⟨y + 1, _, rfl, by omega, by omega, by have := HYR.out; omega, by simp, by rw [cell_of_row _ _ _ _ _ _ (heap_alloc_new _ _)]; rfl, HPZ.out.kept (World.grownBy_alloc _ _ _), HBZ.out.trans (below_of_grown (World.grownBy_alloc _ _ _) HBZ.out.size)⟩
              · have hyk' : decide (y ≤ (K : Int)) = false := by simpa using hyk
                have FIN := Lib.hid HLT.out
                clear C9 C10 hyk
                go_wp2_with fail
                go_roundw
                case rel => exact ⟨q + 1, by omega, by go_num, L, A, c, rfl, FIN.out.1, FIN.out.2, HPY.out, HBY.out⟩
                case measure => simp [intOf]; omega
          · have hLp : 0 < L.length := List.length_pos_iff.2 hLe
            obtain ⟨_, g, hAe⟩ := HPA.out.li.addr hLp
            have HLE := Lib.hid hLe
            have HLp := Lib.hid hLp
            subst hAe
            clear hLe hLp
            go_wp2_with (go_at_call 10; refine C3.out.mono ?_)
            intro e w3 hT
            obtain ⟨⟨a1, a2⟩, hT1, rfl, hg⟩ := top_some hT HLE.out
            have hcx3 := cell_act HCX.out (FrQ.grown hg)
            obtain ⟨j0, j1, j2⟩ := act_block hcx3
            have HC3 := Lib.hid hcx3
            have HP3 := Lib.hid (HPA.out.kept hg)
            have HB3 := Lib.hid (HBA.out.trans (below_of_grown hg HBA.out.size))
            have HT1 := Lib.hid hT1
            clear hT hT1 hg hcx3 C3 k0 k1 k2
            have C4 := Lib.hid (pop_p HP3.out HLK.out HT1.out)
            go_wp2_with (go_at_call 11; refine C4.out.mono ?_)
            rintro e w4 ⟨rfl, hps4, hb4, hf4⟩
            have hcx4 := cell_act HC3.out hf4
            have HC4 := Lib.hid hcx4
            have HP4 := Lib.hid hps4
            have HB4 := Lib.hid (HB3.out.trans (hb4.mono HSB.out))
            clear j0 j1 j2
            obtain ⟨j0, j1, j2⟩ := act_block hcx4
            clear hps4 hb4 hf4 hcx4 C4
            have C5 := Lib.hid (rtop_any HP4.out.li HLK.out)
            go_wp2_with (go_at_call 12; refine C5.out.mono ?_)
            rintro e w5 ⟨hg, hTT⟩
            obtain ⟨j, hj, hTj, rfl⟩ : ∃ j : Nat, j < L.length ∧ IsTop L (nth L j) ∧ e = .returned (.int .i64 (j : Int)) := by
              rcases hTT with ⟨h, _⟩ | h
              · exact absurd h HLE.out
              · exact h
            have hja := isTop_one hTj HT1.out
            have hli5 := (HP4.out.kept hg).li
            have f0 := hli5.at0 j hj
            have f1 := hli5.at1 j hj
            rw [hja] at f0 f1
            have HP5 := Lib.hid (HP4.out.kept hg)
            have HB5 := Lib.hid (HB4.out.trans (below_of_grown hg HB4.out.size))
            have hcx5 := cell_act HC4.out (FrQ.grown hg)
            obtain ⟨l0, l1, l2⟩ := act_block hcx5
            have hj0 : decide ((0 : Int) ≤ (j : Int)) = true := by simp
            clear hg hTT C5 HPA HBA HP3 HB3 HP4 HB4 HCX HC3 HC4 j0 j1 j2 hja hli5 hcx5 hTj
            simp only at f0 f1
            have C6 := Lib.hid (rdrop_any (x := a1) HP5.out.li HLK.out)
            go_wp2_with (go_at_call 13; refine C6.out.mono ?_)
            rintro e wt ⟨v2, rfl, hli, hg⟩
            obtain ⟨A2, c2, hv2, _⟩ := hli.form
            subst hv2
            have HPT := Lib.hid ((HP5.out.kept hg).list hli HP5.out.size)
            have HBT := Lib.hid (HB5.out.trans (below_of_grown hg HB5.out.size))
            have HLT := Lib.hid (show (less L a1).length ≤ q + 1 ∧ (less L a1).length ≤ 80 from ⟨by have h1 := less_le L a1; have h2 := HLQ.out; omega, Nat.le_trans (less_le L a1) HL8.out⟩)
            clear hli hg C6 HP5 HB5 f0 f1 l0 l1 l2
            go_wp2_with fail
            have C8 := Lib.hid (len_p HPT.out)
            go_wp2_with (go_at_call 17; refine C8.out.mono ?_; rintro e w' ⟨rfl, rfl⟩)
            clear C8
            go_loopg [16] (K + 3) (fun r v wr => ∃ (y : Int) (bx : Nat), v = .pointer (some ⟨bx, 0, none⟩) ∧ -1 ≤ y ∧ y ≤ (K : Int) + 1 ∧ (K : Int) + 2 - y ≤ (r : Int) ∧ bx < wr.heap.size ∧ wr.cell? ⟨bx, 0, none⟩ = some (.int .i64 y) ∧ PS B wr b m (K : Int) (less L a1) (less L a1) (.slice A2 (less L a1).length c2) ∧ Below w.heap.size w wr)
            case atStart =>
              exact ⟨-1, _, rfl, by omega, by omega, by omega, by simp, by rw [cell_of_row _ _ _ _ _ _ (heap_alloc_new _ _)]; rfl, HPT.out.kept (World.grownBy_alloc _ _ _), HBT.out.trans (below_of_grown (World.grownBy_alloc _ _ _) HBT.out.size)⟩
            case round =>
              clear HPT HBT
              obtain ⟨y, bx, rfl, hy0, hy1, hyr, hbx, hcy, hps, hbw⟩ := hrel
              have HPY := Lib.hid hps
              have HBY := Lib.hid hbw
              have C9 := Lib.hid (has_p (x := y) hps (by omega))
              have C10 := Lib.hid (con_any (x := y) ⟨bx, 0, none⟩ hps.li (by have := HLT.out; omega) hcy hbx)
              have HYR := Lib.hid hyr
              generalize hT : hasK (less L a1) y = T at C9 C10
              clear hT hps hbw hyr
              by_cases hyk : y ≤ (K : Int)
              · cases T
                all_goals
                  go_wp2_with (go_at_call 18; refine C9.out.mono ?_; rintro e w' ⟨rfl, rfl⟩)
                  go_wp2_with (go_at_call 19; refine C10.out.mono ?_)
                  rintro e wz ⟨rfl, hgz⟩
                  have hcz : wz.cell? ⟨bx, 0, none⟩ = some (.int .i64 y) := (World.cell?_of_block (w := wr) (hgz.block bx hbx (by simp))).trans hcy
                  have HPZ := Lib.hid (HPY.out.kept hgz)
                  have HBZ := Lib.hid (HBY.out.trans (below_of_grown hgz HBY.out.size))
                  clear hgz hcy C9 C10
                  go_wp2_with fail
                  go_roundg (gk - 1)
                  case measure => have := HYR.out; omega
                  case rel => exact ⟨y + 1, _, rfl, by omega, by omega, by have := HYR.out; omega, by simp, by rw [cell_of_row _ _ _ _ _ _ (heap_alloc_new _ _)]; rfl, HPZ.out.kept (World.grownBy_alloc _ _ _), HBZ.out.trans (below_of_grown (World.grownBy_alloc _ _ _) HBZ.out.size)⟩
              · have hyk' : decide (y ≤ (K : Int)) = false := by simpa using hyk
                have FIN := Lib.hid HLT.out
                clear C9 C10 hyk
                go_wp2_with fail
                go_roundw
                case rel => exact ⟨q + 1, by omega, by go_num, less L a1, A2, c2, rfl, FIN.out.1, FIN.out.2, HPY.out, HBY.out⟩
                case measure => simp [intOf]; omega
        · by_cases h4 : D = 4
          · subst h4
            have C3 := Lib.hid (top_p HPA.out HLK.out)
            by_cases hLe : L = []
            · have HLE := Lib.hid hLe
              have hpe : L.Perm [] := by rw [hLe]
              have HPE := Lib.hid hpe
              clear hLe hpe
              go_wp2_with (go_at_call 10; refine C3.out.mono ?_)
              intro e w3 hT
              rw [HLE.out] at hT
              obtain ⟨rfl, hg⟩ := top_none hT
              have hcx3 := cell_act HCX.out (FrQ.grown hg)
              obtain ⟨j0, j1, j2⟩ := act_block hcx3
              have HC3 := Lib.hid hcx3
              have HP3 := Lib.hid (HPA.out.kept hg)
              have HB3 := Lib.hid (HBA.out.trans (below_of_grown hg HBA.out.size))
              clear hT hg hcx3 C3 k0 k1 k2
              have HC4 := HC3
              have HP4 := HP3
              have HB4 := HB3
              have C5 := Lib.hid (rtop_any HP4.out.li HLK.out)
              go_wp2_with (go_at_call 12; refine C5.out.mono ?_)
              rintro e wt ⟨hg, hTT⟩
              have hTe : e = .returned (.int .i64 (-1)) := by
                rcases hTT with ⟨_, h⟩ | ⟨j, hj, _⟩
                · exact h
                · rw [HLE.out] at hj; simp at hj
              subst hTe
              have HPT := Lib.hid (HP4.out.kept hg)
              have HBT := Lib.hid (HB4.out.trans (below_of_grown hg HB4.out.size))
              have HLT := Lib.hid (show L.length ≤ q + 1 ∧ L.length ≤ 80 from ⟨by have := HLQ.out; omega, HL8.out⟩)
              clear hg hTT C5 HPA HBA HP3 HB3 HP4 HB4 HCX HC3 HC4 j0 j1 j2
              go_wp2_with fail
              have C8 := Lib.hid (len_p HPT.out)
              go_wp2_with (go_at_call 17; refine C8.out.mono ?_; rintro e w' ⟨rfl, rfl⟩)
              clear C8
              go_loopg [16] (K + 3) (fun r v wr => ∃ (y : Int) (bx : Nat), v = .pointer (some ⟨bx, 0, none⟩) ∧ -1 ≤ y ∧ y ≤ (K : Int) + 1 ∧ (K : Int) + 2 - y ≤ (r : Int) ∧ bx < wr.heap.size ∧ wr.cell? ⟨bx, 0, none⟩ = some (.int .i64 y) ∧ PS B wr b m (K : Int) L L (.slice A L.length c) ∧ Below w.heap.size w wr)
              case atStart =>
                exact ⟨-1, _, rfl, by omega, by omega, by omega, by simp, by rw [cell_of_row _ _ _ _ _ _ (heap_alloc_new _ _)]; rfl, HPT.out.kept (World.grownBy_alloc _ _ _), HBT.out.trans (below_of_grown (World.grownBy_alloc _ _ _) HBT.out.size)⟩
              case round =>
                clear HPT HBT
                obtain ⟨y, bx, rfl, hy0, hy1, hyr, hbx, hcy, hps, hbw⟩ := hrel
                have HPY := Lib.hid hps
                have HBY := Lib.hid hbw
                have C9 := Lib.hid (has_p (x := y) hps (by omega))
                have C10 := Lib.hid (con_any (x := y) ⟨bx, 0, none⟩ hps.li (by have := HLT.out; omega) hcy hbx)
                have HYR := Lib.hid hyr
                generalize hT : hasK L y = T at C9 C10
                clear hT hps hbw hyr
                by_cases hyk : y ≤ (K : Int)
                · cases T
                  all_goals
                    go_wp2_with (go_at_call 18; refine C9.out.mono ?_; rintro e w' ⟨rfl, rfl⟩)
                    go_wp2_with (go_at_call 19; refine C10.out.mono ?_)
                    rintro e wz ⟨rfl, hgz⟩
                    have hcz : wz.cell? ⟨bx, 0, none⟩ = some (.int .i64 y) := (World.cell?_of_block (w := wr) (hgz.block bx hbx (by simp))).trans hcy
                    have HPZ := Lib.hid (HPY.out.kept hgz)
                    have HBZ := Lib.hid (HBY.out.trans (below_of_grown hgz HBY.out.size))
                    clear hgz hcy C9 C10
                    go_wp2_with fail
                    go_roundg (gk - 1)
                    case measure => have := HYR.out; omega
                    case rel => exact ⟨y + 1, _, rfl, by omega, by omega, by have := HYR.out; omega, by simp, by rw [cell_of_row _ _ _ _ _ _ (heap_alloc_new _ _)]; rfl, HPZ.out.kept (World.grownBy_alloc _ _ _), HBZ.out.trans (below_of_grown (World.grownBy_alloc _ _ _) HBZ.out.size)⟩
                · have hyk' : decide (y ≤ (K : Int)) = false := by simpa using hyk
                  have FIN := Lib.hid HLT.out
                  clear C9 C10 hyk
                  go_wp2_with fail
                  go_roundw
                  case rel => exact ⟨q + 1, by omega, by go_num, L, A, c, rfl, FIN.out.1, FIN.out.2, HPY.out, HBY.out⟩
                  case measure => simp [intOf]; omega
            · have hLp : 0 < L.length := List.length_pos_iff.2 hLe
              obtain ⟨_, g, hAe⟩ := HPA.out.li.addr hLp
              have HLE := Lib.hid hLe
              have HLp := Lib.hid hLp
              subst hAe
              clear hLe hLp
              go_wp2_with (go_at_call 10; refine C3.out.mono ?_)
              intro e w3 hT
              obtain ⟨⟨a1, a2⟩, hT1, rfl, hg⟩ := top_some hT HLE.out
              have hcx3 := cell_act HCX.out (FrQ.grown hg)
              obtain ⟨j0, j1, j2⟩ := act_block hcx3
              have HC3 := Lib.hid hcx3
              have HP3 := Lib.hid (HPA.out.kept hg)
              have HB3 := Lib.hid (HBA.out.trans (below_of_grown hg HBA.out.size))
              have HT1 := Lib.hid hT1
              clear hT hT1 hg hcx3 C3 k0 k1 k2
              have HC4 := HC3
              have HP4 := HP3
              have HB4 := HB3
              have C5 := Lib.hid (rtop_any HP4.out.li HLK.out)
              go_wp2_with (go_at_call 12; refine C5.out.mono ?_)
              rintro e w5 ⟨hg, hTT⟩
              obtain ⟨j, hj, hTj, rfl⟩ : ∃ j : Nat, j < L.length ∧ IsTop L (nth L j) ∧ e = .returned (.int .i64 (j : Int)) := by
                rcases hTT with ⟨h, _⟩ | h
                · exact absurd h HLE.out
                · exact h
              have hja := isTop_one hTj HT1.out
              have hli5 := (HP4.out.kept hg).li
              have f0 := hli5.at0 j hj
              have f1 := hli5.at1 j hj
              rw [hja] at f0 f1
              have HP5 := Lib.hid (HP4.out.kept hg)
              have HB5 := Lib.hid (HB4.out.trans (below_of_grown hg HB4.out.size))
              have hcx5 := cell_act HC4.out (FrQ.grown hg)
              obtain ⟨l0, l1, l2⟩ := act_block hcx5
              have hj0 : decide ((0 : Int) ≤ (j : Int)) = true := by simp
              clear hg hTT C5 HPA HBA HP3 HB3 HP4 HB4 HCX HC3 HC4 j0 j1 j2 hja hli5 hcx5 hTj
              simp only at f0 f1
              have HPT := HP5
              have HBT := HB5
              have HLT := Lib.hid (show L.length ≤ q + 1 ∧ L.length ≤ 80 from ⟨by have := HLQ.out; omega, HL8.out⟩)
              go_wp2_with fail
              clear HP5 HB5 f0 f1 l0 l1 l2
              have C8 := Lib.hid (len_p HPT.out)
              go_wp2_with (go_at_call 17; refine C8.out.mono ?_; rintro e w' ⟨rfl, rfl⟩)
              clear C8
              go_loopg [16] (K + 3) (fun r v wr => ∃ (y : Int) (bx : Nat), v = .pointer (some ⟨bx, 0, none⟩) ∧ -1 ≤ y ∧ y ≤ (K : Int) + 1 ∧ (K : Int) + 2 - y ≤ (r : Int) ∧ bx < wr.heap.size ∧ wr.cell? ⟨bx, 0, none⟩ = some (.int .i64 y) ∧ PS B wr b m (K : Int) L L (.slice (some ⟨g, 0, none⟩) L.length c) ∧ Below w.heap.size w wr)
              case atStart =>
                exact ⟨-1, _, rfl, by omega, by omega, by omega, by simp, by rw [cell_of_row _ _ _ _ _ _ (heap_alloc_new _ _)]; rfl, HPT.out.kept (World.grownBy_alloc _ _ _), HBT.out.trans (below_of_grown (World.grownBy_alloc _ _ _) HBT.out.size)⟩
              case round =>
                clear HPT HBT
                obtain ⟨y, bx, rfl, hy0, hy1, hyr, hbx, hcy, hps, hbw⟩ := hrel
                have HPY := Lib.hid hps
                have HBY := Lib.hid hbw
                have C9 := Lib.hid (has_p (x := y) hps (by omega))
                have C10 := Lib.hid (con_any (x := y) ⟨bx, 0, none⟩ hps.li (by have := HLT.out; omega) hcy hbx)
                have HYR := Lib.hid hyr
                generalize hT : hasK L y = T at C9 C10
                clear hT hps hbw hyr
                by_cases hyk : y ≤ (K : Int)
                · cases T
                  all_goals
                    go_wp2_with (go_at_call 18; refine C9.out.mono ?_; rintro e w' ⟨rfl, rfl⟩)
                    go_wp2_with (go_at_call 19; refine C10.out.mono ?_)
                    rintro e wz ⟨rfl, hgz⟩
                    have hcz : wz.cell? ⟨bx, 0, none⟩ = some (.int .i64 y) := (World.cell?_of_block (w := wr) (hgz.block bx hbx (by simp))).trans hcy
                    have HPZ := Lib.hid (HPY.out.kept hgz)
                    have HBZ := Lib.hid (HBY.out.trans (below_of_grown hgz HBY.out.size))
                    clear hgz hcy C9 C10
                    go_wp2_with fail
                    go_roundg (gk - 1)
                    case measure => have := HYR.out; omega
                    case rel => exact ⟨y + 1, _, rfl, by omega, by omega, by have := HYR.out; omega, by simp, by rw [cell_of_row _ _ _ _ _ _ (heap_alloc_new _ _)]; rfl, HPZ.out.kept (World.grownBy_alloc _ _ _), HBZ.out.trans (below_of_grown (World.grownBy_alloc _ _ _) HBZ.out.size)⟩
                · have hyk' : decide (y ≤ (K : Int)) = false := by simpa using hyk
                  have FIN := Lib.hid HLT.out
                  clear C9 C10 hyk
                  go_wp2_with fail
                  go_roundw
                  case rel => exact ⟨q + 1, by omega, by go_num, L, (some ⟨g, 0, none⟩), c, rfl, FIN.out.1, FIN.out.2, HPY.out, HBY.out⟩
                  case measure => simp [intOf]; omega
          · by_cases h5 : D = 5
            · subst h5
              have C3 := Lib.hid (rdrop_h (x := x) HPA.out.li HPA.out.keys HLK.out)
              have C4g := Lib.hid (fun W vl (h : PS B W b m (K : Int) L (less L x) vl) => drop_p (x := x) h HLK.out HX.out)
              generalize hT : hasK L x = T at C3 C4g
              clear hT
              cases T
              all_goals
                go_wp2_with (go_at_call 13; refine C3.out.mono ?_)
                rintro e w3 ⟨v2, rfl, hli, hg⟩
                obtain ⟨A2, c2, hv2, _⟩ := hli.form
                subst hv2
                obtain ⟨j0, j1, j2⟩ := act_block (cell_act HCX.out (FrQ.grown hg))
                have hps3 := (HPA.out.kept hg).list hli HPA.out.size
                have HB3 := Lib.hid (HBA.out.trans (below_of_grown hg HBA.out.size))
                have C4 := Lib.hid (C4g.out _ _ hps3)
                clear hli hg hps3 C3 k0 k1 k2
                go_wp2_with (go_at_call 14; refine C4.out.mono ?_)
                rintro e wt ⟨rfl, hps, hb, hf⟩
                have HPT := Lib.hid hps
                have HBT := Lib.hid (HB3.out.trans (hb.mono HSB.out))
                have HLT := Lib.hid (show (less L x).length ≤ q + 1 ∧ (less L x).length ≤ 80 from ⟨by have h1 := less_le L x; have h2 := HLQ.out; omega, Nat.le_trans (less_le L x) HL8.out⟩)
                clear hps hb hf C4 C4g j0 j1 j2 HCX HPA HBA HB3
                go_wp2_with fail
                have C8 := Lib.hid (len_p HPT.out)
                go_wp2_with (go_at_call 17; refine C8.out.mono ?_; rintro e w' ⟨rfl, rfl⟩)
                clear C8
                go_loopg [16] (K + 3) (fun r v wr => ∃ (y : Int) (bx : Nat), v = .pointer (some ⟨bx, 0, none⟩) ∧ -1 ≤ y ∧ y ≤ (K : Int) + 1 ∧ (K : Int) + 2 - y ≤ (r : Int) ∧ bx < wr.heap.size ∧ wr.cell? ⟨bx, 0, none⟩ = some (.int .i64 y) ∧ PS B wr b m (K : Int) (less L x) (less L x) (.slice A2 (less L x).length c2) ∧ Below w.heap.size w wr)
                case atStart =>
                  exact ⟨-1, _, rfl, by omega, by omega, by omega, by simp, by rw [cell_of_row _ _ _ _ _ _ (heap_alloc_new _ _)]; rfl, HPT.out.kept (World.grownBy_alloc _ _ _), HBT.out.trans (below_of_grown (World.grownBy_alloc _ _ _) HBT.out.size)⟩
                case round =>
                  clear HPT HBT
                  obtain ⟨y, bx, rfl, hy0, hy1, hyr, hbx, hcy, hps, hbw⟩ := hrel
                  have HPY := Lib.hid hps
                  have HBY := Lib.hid hbw
                  have C9 := Lib.hid (has_p (x := y) hps (by omega))
                  have C10 := Lib.hid (con_any (x := y) ⟨bx, 0, none⟩ hps.li (by have := HLT.out; omega) hcy hbx)
                  have HYR := Lib.hid hyr
                  generalize hT : hasK (less L x) y = T at C9 C10
                  clear hT hps hbw hyr
                  by_cases hyk : y ≤ (K : Int)
                  · cases T
                    all_goals
                      go_wp2_with (go_at_call 18; refine C9.out.mono ?_; rintro e w' ⟨rfl, rfl⟩)
                      go_wp2_with (go_at_call 19; refine C10.out.mono ?_)
                      rintro e wz ⟨rfl, hgz⟩
                      have hcz : wz.cell? ⟨bx, 0, none⟩ = some (.int .i64 y) := (World.cell?_of_block (w := wr) (hgz.block bx hbx (by simp))).trans hcy
                      have HPZ := Lib.hid (HPY.out.kept hgz)
                      have HBZ := Lib.hid (HBY.out.trans (below_of_grown hgz HBY.out.size))
                      clear hgz hcy C9 C10
                      go_wp2_with fail
                      go_roundg (gk - 1)
                      case measure => have := HYR.out; omega
                      case rel => exact ⟨y + 1, _, rfl, by omega, by omega, by have := HYR.out; omega, by simp, by rw [cell_of_row _ _ _ _ _ _ (heap_alloc_new _ _)]; rfl, HPZ.out.kept (World.grownBy_alloc _ _ _), HBZ.out.trans (below_of_grown (World.grownBy_alloc _ _ _) HBZ.out.size)⟩
                  · have hyk' : decide (y ≤ (K : Int)) = false := by simpa using hyk
                    have FIN := Lib.hid HLT.out
                    clear C9 C10 hyk
                    go_wp2_with fail
                    go_roundw
                    case rel => exact ⟨q + 1, by omega, by go_num, less L x, A2, c2, rfl, FIN.out.1, FIN.out.2, HPY.out, HBY.out⟩
                    case measure => simp [intOf]; omega
            · by_cases h6 : D = 6
              · subst h6
                by_cases hm7 : x.tmod 7 = 0
                · have hm7' : (x.tmod 7 == 0) = true := by simp [hm7]
                  have C3 := Lib.hid (clear_p HPA.out)
                  clear hm7
                  go_wp2_with (go_at_call 15; refine C3.out.mono ?_)
                  rintro e wt ⟨rfl, hps, hb, hf⟩
                  have HPT := Lib.hid (PS.list (B' := B) hps (show LI wt B (.slice none 0 0) [] from World.ownsRow_nil _ _ _ _) (Nat.le_refl _))
                  have HBT := Lib.hid (HBA.out.trans (hb.mono HSB.out))
                  have HLT := Lib.hid (show ([] : List It).length ≤ q + 1 ∧ ([] : List It).length ≤ 80 from ⟨by simp, by simp⟩)
                  clear hps hb hf C3 k0 k1 k2 HCX HPA HBA
                  have C8 := Lib.hid (len_p HPT.out)
                  go_wp2_with (go_at_call 17; refine C8.out.mono ?_; rintro e w' ⟨rfl, rfl⟩)
                  clear C8
                  go_loopg [16] (K + 3) (fun r v wr => ∃ (y : Int) (bx : Nat), v = .pointer (some ⟨bx, 0, none⟩) ∧ -1 ≤ y ∧ y ≤ (K : Int) + 1 ∧ (K : Int) + 2 - y ≤ (r : Int) ∧ bx < wr.heap.size ∧ wr.cell? ⟨bx, 0, none⟩ = some (.int .i64 y) ∧ PS B wr b m (K : Int) ([] : List It) ([] : List It) (.slice none 0 0) ∧ Below w.heap.size w wr)
                  case atStart =>
                    exact ⟨-1, _, rfl, by omega, by omega, by omega, by simp, by rw [cell_of_row _ _ _ _ _ _ (heap_alloc_new _ _)]; rfl, HPT.out.kept (World.grownBy_alloc _ _ _), HBT.out.trans (below_of_grown (World.grownBy_alloc _ _ _) HBT.out.size)⟩
                  case round =>
                    clear HPT HBT
                    obtain ⟨y, bx, rfl, hy0, hy1, hyr, hbx, hcy, hps, hbw⟩ := hrel
                    have HPY := Lib.hid hps
                    have HBY := Lib.hid hbw
                    have C9 := Lib.hid (has_p (x := y) hps (by omega))
                    have C10 := Lib.hid (con_any (x := y) ⟨bx, 0, none⟩ hps.li (by have := HLT.out; omega) hcy hbx)
                    have HYR := Lib.hid hyr
                    generalize hT : hasK ([] : List It) y = T at C9 C10
                    clear hT hps hbw hyr
                    by_cases hyk : y ≤ (K : Int)
                    · cases T
                      all_goals
                        go_wp2_with (go_at_call 18; refine C9.out.mono ?_; rintro e w' ⟨rfl, rfl⟩)
                        go_wp2_with (go_at_call 19; refine C10.out.mono ?_)
                        rintro e wz ⟨rfl, hgz⟩
                        have hcz : wz.cell? ⟨bx, 0, none⟩ = some (.int .i64 y) := (World.cell?_of_block (w := wr) (hgz.block bx hbx (by simp))).trans hcy
                        have HPZ := Lib.hid (HPY.out.kept hgz)
                        have HBZ := Lib.hid (HBY.out.trans (below_of_grown hgz HBY.out.size))
                        clear hgz hcy C9 C10
                        go_wp2_with fail
                        go_roundg (gk - 1)
                        case measure => have := HYR.out; omega
                        case rel => exact ⟨y + 1, _, rfl, by omega, by omega, by have := HYR.out; omega, by simp, by rw [cell_of_row _ _ _ _ _ _ (heap_alloc_new _ _)]; rfl, HPZ.out.kept (World.grownBy_alloc _ _ _), HBZ.out.trans (below_of_grown (World.grownBy_alloc _ _ _) HBZ.out.size)⟩
                    · have hyk' : decide (y ≤ (K : Int)) = false := by simpa using hyk
                      have FIN := Lib.hid HLT.out
                      clear C9 C10 hyk
                      go_wp2_with fail
                      go_roundw
                      case rel => exact ⟨q + 1, by omega, by go_num, [], none, 0, rfl, FIN.out.1, FIN.out.2, HPY.out, HBY.out⟩
                      case measure => simp [intOf]; omega
                · have hm7' : (x.tmod 7 == 0) = false := by simp [hm7]
                  have HPT := HPA
                  have HBT := HBA
                  have HLT := Lib.hid (show L.length ≤ q + 1 ∧ L.length ≤ 80 from ⟨by have := HLQ.out; omega, HL8.out⟩)
                  clear hm7 HPA HBA
                  have C8 := Lib.hid (len_p HPT.out)
                  go_wp2_with (go_at_call 17; refine C8.out.mono ?_; rintro e w' ⟨rfl, rfl⟩)
                  clear C8
                  go_loopg [16] (K + 3) (fun r v wr => ∃ (y : Int) (bx : Nat), v = .pointer (some ⟨bx, 0, none⟩) ∧ -1 ≤ y ∧ y ≤ (K : Int) + 1 ∧ (K : Int) + 2 - y ≤ (r : Int) ∧ bx < wr.heap.size ∧ wr.cell? ⟨bx, 0, none⟩ = some (.int .i64 y) ∧ PS B wr b m (K : Int) L L (.slice A L.length c) ∧ Below w.heap.size w wr)
                  case atStart =>
                    exact ⟨-1, _, rfl, by omega, by omega, by omega, by simp, by rw [cell_of_row _ _ _ _ _ _ (heap_alloc_new _ _)]; rfl, HPT.out.kept (World.grownBy_alloc _ _ _), HBT.out.trans (below_of_grown (World.grownBy_alloc _ _ _) HBT.out.size)⟩
                  case round =>
                    clear HPT HBT
                    obtain ⟨y, bx, rfl, hy0, hy1, hyr, hbx, hcy, hps, hbw⟩ := hrel
                    have HPY := Lib.hid hps
                    have HBY := Lib.hid hbw
                    have C9 := Lib.hid (has_p (x := y) hps (by omega))
                    have C10 := Lib.hid (con_any (x := y) ⟨bx, 0, none⟩ hps.li (by have := HLT.out; omega) hcy hbx)
                    have HYR := Lib.hid hyr
                    generalize hT : hasK L y = T at C9 C10
                    clear hT hps hbw hyr
                    by_cases hyk : y ≤ (K : Int)
                    · cases T
                      all_goals
                        go_wp2_with (go_at_call 18; refine C9.out.mono ?_; rintro e w' ⟨rfl, rfl⟩)
                        go_wp2_with (go_at_call 19; refine C10.out.mono ?_)
                        rintro e wz ⟨rfl, hgz⟩
                        have hcz : wz.cell? ⟨bx, 0, none⟩ = some (.int .i64 y) := (World.cell?_of_block (w := wr) (hgz.block bx hbx (by simp))).trans hcy
                        have HPZ := Lib.hid (HPY.out.kept hgz)
                        have HBZ := Lib.hid (HBY.out.trans (below_of_grown hgz HBY.out.size))
                        clear hgz hcy C9 C10
                        go_wp2_with fail
                        go_roundg (gk - 1)
                        case measure => have := HYR.out; omega
                        case rel => exact ⟨y + 1, _, rfl, by omega, by omega, by have := HYR.out; omega, by simp, by rw [cell_of_row _ _ _ _ _ _ (heap_alloc_new _ _)]; rfl, HPZ.out.kept (World.grownBy_alloc _ _ _), HBZ.out.trans (below_of_grown (World.grownBy_alloc _ _ _) HBZ.out.size)⟩
                    · have hyk' : decide (y ≤ (K : Int)) = false := by simpa using hyk
                      have FIN := Lib.hid HLT.out
                      clear C9 C10 hyk
                      go_wp2_with fail
                      go_roundw
                      case rel => exact ⟨q + 1, by omega, by go_num, L, A, c, rfl, FIN.out.1, FIN.out.2, HPY.out, HBY.out⟩
                      case measure => simp [intOf]; omega
              · have e3 : (D == 3) = false := by simp; omega
                have e4 : (D == 4) = false := by simp; omega
                have e5 : (D == 5) = false := by simp; omega
                have e6 : (D == 6) = false := by simp; omega
                clear h3 h4 h5 h6
                by_cases hr : 0 ≤ x ∧ x < (K : Int)
                · obtain ⟨r0, r1⟩ := hr
                  have C3 := Lib.hid (push_p (x := x) (p := pr) HPA.out HLK.out r0 r1 (by omega))
                  have r1' : decide ((K : Int) ≤ x) = false := by simp; omega
                  have r0' : decide (x < 0) = false := by simp; omega
                  go_wp2_with (go_at_call 16; refine C3.out.mono ?_)
                  rintro e w3 ⟨rfl, hps3, hb3, hf3⟩
                  have hcx3 := cell_act HCX.out hf3
                  obtain ⟨j0, j1, j2⟩ := act_block hcx3
                  have HP3 := Lib.hid hps3
                  have HB3 := Lib.hid (HBA.out.trans (hb3.mono HSB.out))
                  have HC3 := Lib.hid hcx3
                  have C4 := Lib.hid (rdrop_any (x := x) hps3.li HLK.out)
                  clear hps3 hb3 hf3 hcx3 C3 k0 k1 k2
                  go_wp2_with (go_at_call 13; refine C4.out.mono ?_)
                  rintro e w4 ⟨v2, rfl, hli, hg4⟩
                  obtain ⟨A2, c2, hv2, _⟩ := hli.form
                  subst hv2
                  obtain ⟨l0, l1, l2⟩ := act_block (cell_act HC3.out (FrQ.grown hg4))
                  have HLI := Lib.hid hli
                  have HG4 := Lib.hid hg4
                  have HB43 := Lib.hid HP3.out.size
                  have HLL := Lib.hid (less_le L x)
                  obtain ⟨i0, hi, hz0, hz1, hz2⟩ := info_parts info_item2
                  have I0 := Lib.hid hi
                  have Z0 := Lib.hid hz0
                  have Z1 := Lib.hid hz1
                  have Z2 := Lib.hid hz2
                  clear hli hg4 C4 j0 j1 j2 hi hz0 hz1 hz2
                  go_wp2_with (at_builtin; refine wpList_append_own_at _ rfl _ _ 26 rfl w3.heap.size 33 i0 (.agg #[.int .i64 0, .int .i64 0]) 2 16 Try.underlying26 I0.out Z0.out Z1.out Z2.out rfl (by decide) (.slice A2 (less L x).length c2) (less L x).length (flat (less L x)) rfl (World.ownsRow.alloc HLI.out _) ⟨w4.heap.size, 0, none⟩ 1 1 [.int .i64 x, .int .i64 pr] rfl rfl (cell_two_new w4 _ _ _) (by simp [Value.oneCell']) (by have := HLL.out; have := HLK.out; unfold maxLen; omega) (by have := HLL.out; have := HLK.out; omega) (by have := HG4.out.size; simp; omega) ?_)
                  intro v3 w5 hO5 hg5 _ hloc
                  have hL5 := LI.pushed (a := (x, pr)) hO5
                  obtain ⟨A3, c3, hv3, _⟩ := hL5.form
                  obtain ⟨hps5, hb5⟩ := HP3.out.pushed (HG4.out.trans (World.grownBy_alloc _ _ _)) hg5 (fun g hg => (World.ownsRow.lt HLI.out g hg).1) (hL5.base HB43.out)
                  have hpm : ((x, pr) :: less L x).Perm (less L x ++ [(x, pr)]) := List.perm_append_comm (l₁ := [(x, pr)]) (l₂ := less L x)
                  have HPT0 := Lib.hid (hps5.perm hpm)
                  have HBT := Lib.hid (HB3.out.trans (hb5.mono HSB.out))
                  have HLT := Lib.hid (show (less L x ++ [(x, pr)]).length ≤ q + 1 ∧ (less L x ++ [(x, pr)]).length ≤ 80 from ⟨by have h1 := HLL.out; have h2 := HLQ.out; simp; omega, by have h1 := HLL.out; have h2 := HLQ.out; simp; omega⟩)
                  obtain ⟨M, hM⟩ : ∃ M, less L x ++ [(x, pr)] = M := ⟨_, rfl⟩
                  rw [hM] at HPT0 HLT hv3
                  rw [hv3] at HPT0
                  clear hO5 hg5 hloc hL5 hps5 hb5 hpm l0 l1 l2 HPA HBA HP3 HB3 HLI HG4 HCX HC3 hM
                  subst hv3
                  have HPT := HPT0
                  clear HPT0
                  go_wp2_with fail
                  have C8 := Lib.hid (len_p HPT.out)
                  go_wp2_with (go_at_call 17; refine C8.out.mono ?_; rintro e w' ⟨rfl, rfl⟩)
                  clear C8
                  go_loopg [16] (K + 3) (fun r v wr => ∃ (y : Int) (bx : Nat), v = .pointer (some ⟨bx, 0, none⟩) ∧ -1 ≤ y ∧ y ≤ (K : Int) + 1 ∧ (K : Int) + 2 - y ≤ (r : Int) ∧ bx < wr.heap.size ∧ wr.cell? ⟨bx, 0, none⟩ = some (.int .i64 y) ∧ PS B wr b m (K : Int) M M (.slice A3 M.length c3) ∧ Below w.heap.size w wr)
                  case atStart =>
                    exact ⟨-1, _, rfl, by omega, by omega, by omega, by simp, by rw [cell_of_row _ _ _ _ _ _ (heap_alloc_new _ _)]; rfl, HPT.out.kept (World.grownBy_alloc _ _ _), HBT.out.trans (below_of_grown (World.grownBy_alloc _ _ _) HBT.out.size)⟩
                  case round =>
                    clear HPT HBT
                    obtain ⟨y, bx, rfl, hy0, hy1, hyr, hbx, hcy, hps, hbw⟩ := hrel
                    have HPY := Lib.hid hps
                    have HBY := Lib.hid hbw
                    have C9 := Lib.hid (has_p (x := y) hps (by omega))
                    have C10 := Lib.hid (con_any (x := y) ⟨bx, 0, none⟩ hps.li (by have := HLT.out; omega) hcy hbx)
                    have HYR := Lib.hid hyr
                    generalize hT : hasK M y = T at C9 C10
                    clear hT hps hbw hyr
                    by_cases hyk : y ≤ (K : Int)
                    · cases T
                      all_goals
                        go_wp2_with (go_at_call 18; refine C9.out.mono ?_; rintro e w' ⟨rfl, rfl⟩)
                        go_wp2_with (go_at_call 19; refine C10.out.mono ?_)
                        rintro e wz ⟨rfl, hgz⟩
                        have hcz : wz.cell? ⟨bx, 0, none⟩ = some (.int .i64 y) := (World.cell?_of_block (w := wr) (hgz.block bx hbx (by simp))).trans hcy
                        have HPZ := Lib.hid (HPY.out.kept hgz)
                        have HBZ := Lib.hid (HBY.out.trans (below_of_grown hgz HBY.out.size))
                        clear hgz hcy C9 C10
                        go_wp2_with fail
                        go_roundg (gk - 1)
                        case measure => have := HYR.out; omega
                        case rel => exact ⟨y + 1, _, rfl, by omega, by omega, by have := HYR.out; omega, by simp, by rw [cell_of_row _ _ _ _ _ _ (heap_alloc_new _ _)]; rfl, HPZ.out.kept (World.grownBy_alloc _ _ _), HBZ.out.trans (below_of_grown (World.grownBy_alloc _ _ _) HBZ.out.size)⟩
                    · have hyk' : decide (y ≤ (K : Int)) = false := by simpa using hyk
                      have FIN := Lib.hid HLT.out
                      clear C9 C10 hyk
                      go_wp2_with fail
                      go_roundw
                      case rel => exact ⟨q + 1, by omega, by go_num, M, A3, c3, rfl, FIN.out.1, FIN.out.2, HPY.out, HBY.out⟩
                      case measure => simp [intOf]; omega
                · have hor : x < 0 ∨ (K : Int) ≤ x := by omega
                  have C3 := Lib.hid (push_pr (x := x) (p := pr) HPA.out hor)
                  have FIN := Lib.hid (show L.length ≤ q + 1 ∧ L.length ≤ 80 from ⟨by have := HLQ.out; omega, HL8.out⟩)
                  by_cases hx0' : x < 0
                  · have r0' : decide (x < 0) = true := by simp [hx0']
                    clear hr hor
                    go_wp2_with (go_at_call 16; refine C3.out.mono ?_; rintro e w' ⟨rfl, rfl⟩)
                    go_roundw
                    case rel => exact ⟨q + 1, by omega, by go_num, L, A, c, rfl, FIN.out.1, FIN.out.2, HPA.out, HBA.out⟩
                    case measure => simp [intOf]; omega
                  · have r0' : decide (x < 0) = false := by simp; omega
                    have r1' : decide ((K : Int) ≤ x) = true := by simp; omega
                    clear hr hor hx0'
                    go_wp2_with (go_at_call 16; refine C3.out.mono ?_; rintro e w' ⟨rfl, rfl⟩)
                    go_roundw
                    case rel => exact ⟨q + 1, by omega, by go_num, L, A, c, rfl, FIN.out.1, FIN.out.2, HPA.out, HBA.out⟩
                    case measure => simp [intOf]; omega
      · have h80' : decide (q < 80) = false := by simpa using h80
        have h80n : (80 : Int) ≤ (q : Int) := by omega
        have FIN := Lib.hid (HBW.out.trans (below_of_grown (World.grownBy_alloc wr (.cells #[.int .u8 d, .int .i64 x, .int .i64 pr] 28) none) HBW.out.size))
        clear h80
        go_wp2_with fail
        go_ret
        exact ⟨rfl, FIN.out⟩
    · have FIN := Lib.hid HBW.out
      go_wp2_with fail
      go_ret
      exact ⟨rfl, FIN.out⟩
end QbP
end Go.Proofs.Ytpklbaebfeoceaa
