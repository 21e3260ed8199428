/- Contract of a table's Turn (no statement of its own). -/
import Derived.Test.YtamodeglpkgiaaaDoorTt5
import Derived.Test.YtamodeglpkgiaaaDoorLk
namespace Go.Proofs.YtamodeglpkgiaaaDoor
open Go.RowKit Go.Shelf
set_option linter.unusedVariables false
attribute [local go_sem] Oper.semAt_some
def TurnPost (w : World) (l s r : List Nat) (k : Int) (z : Nat → Int) (e : Ending) (w' : World) : Prop :=
  ∃ g' h', e = .returned (.tuple #[.pointer (some ⟨g', 0, none⟩), .int .i64 0]) ∧ TabAt w' g' h' (pickL l s) k (turnZ l z s r) ∧ w.heap.size ≤ g' ∧ w.heap.size ≤ h' ∧ Below w.heap.size w w'
set_option maxRecDepth 100000 in
set_option maxHeartbeats 8000000 in
theorem turn_ok (g h n c P : Nat) (A : Option Addr) (l s r : List Nat) (k : Int) (z : Nat → Int) (w : World) (H : TabAt w g h l k z) (h6 : l.length ≤ 6) (hl : ∀ n ∈ l, 1 ≤ n ∧ n ≤ 32) (hln : l.length = n) (hpm : PermL n s r) (hA : Ints w A s)
    (hk1 : 1 ≤ k) (hk2 : k ≤ 2147483648) (hP : prodL (pickL l s) = P) (hP4 : P ≤ 4096) :
    Calls Tryd.prog 19 #[.pointer (some ⟨g, 0, none⟩), .slice A n c] w (TurnPost w l s r k z) := by
  have HL := Lib.hid hl
  have HHN := Lib.hid hln
  have HPM := Lib.hid hpm
  have HPP := Lib.hid hP
  have hn6 : n ≤ 6 := by omega
  have n1 := new_val w (.cells #[.pointer (some ⟨g, 0, none⟩)] 27)
  have T1 := Lib.hid (H.below n1)
  have A1 := Lib.hid (hA.below n1 (Nat.le_refl _))
  have X1 := Lib.hid (Boxed.new w 27 (.pointer (some ⟨g, 0, none⟩)))
  have B1 := Lib.hid n1
  have HPL : Hid (∀ n ∈ pickL l s, 1 ≤ n ∧ n ≤ 32) := Lib.hid fun x hx => hl x (pickL_mem (fun i hi => by rw [hln]; exact hpm.bs i (by rw [← hpm.ls]; exact hi)) hx)
  have HLP : Hid ((pickL l s).length = n) := Lib.hid (by rw [pickL_len, hpm.ls])
  clear H hl n1 hpm hA hP hln
  refine (callsIn_wide (n := 3)).1 (callsIn_of_wp_marks Tryd.func19 rfl trivial ?_ rfl)
  simp only [Tryd.ntmps19, List.size_toArray, List.length_cons, List.length_nil, Nat.reduceAdd, Nat.reduceSub, Array.replicate_succ, Array.replicate_zero, List.push_toArray, List.append_toArray, List.nil_append, List.cons_append]
  refine wpIn_wide.2 ?_
  go_upto_region 1 with fail
  generalize w.alloc (.cells #[.pointer (some ⟨g, 0, none⟩)] 27) = w1 at T1 A1 X1 B1 ⊢
  have x1 := X1.out.cell
  obtain ⟨c0, c1, c2, c3, c4, c5, c6, c7, c8⟩ := T1.out.cells
  go_wp2_with fail
  refine (arity_any l w1).mono ?_
  rintro e w2 ⟨rfl, rfl⟩
  have nb := new_val w1 (shO l)
  have B2 := Lib.hid (then_ B1.out nb)
  have T2 := Lib.hid (T1.out.below nb)
  have A2 := Lib.hid (A1.out.below nb (Nat.le_refl _))
  have X2 : Hid (Boxed _ _ _ _) := Lib.hid (box_below X1.out nb)
  clear x1 c0 c1 c2 c3 c4 c5 c6 c7 c8 nb
  generalize w1.alloc (shO l) = w2 at B2 T2 A2 X2 ⊢
  rw [HHN.out]
  go_wp2_with fail
  refine (inverse_perm A n c s r w2 hn6 HPM.out A2.out).mono ?_
  rintro e wo ⟨⟨hb, rfl, hR⟩, b3⟩
  have n4 := new_val wo (.cells #[.slice (some ⟨hb, 0, none⟩) n n] 28)
  have B4 := Lib.hid (then_ (then_ B2.out b3) n4)
  have T4 := Lib.hid ((T2.out.below b3).below n4)
  have HA4 := Lib.hid ((A2.out.below b3 (Nat.le_refl _)).below n4 (Nat.le_refl _))
  have X4 : Hid (Boxed _ _ _ _) := Lib.hid (box_below (box_below X2.out b3) n4)
  have RB4 := Lib.hid (hR.below n4 (Nat.le_refl _))
  have Y4 := Lib.hid (Boxed.new wo 28 (.slice (some ⟨hb, 0, none⟩) n n))
  clear hR b3 n4
  go_upto_region 4 with fail
  generalize wo.alloc (.cells #[.slice (some ⟨hb, 0, none⟩) n n] 28) = w3 at B4 T4 HA4 X4 RB4 Y4 ⊢
  generalize wo.heap.size = b6 at Y4 ⊢
  have T3 := T4
  have HA := HA4
  have RB := RB4
  have HU := Lib.hid (HoldU.of T3.out X4.out.cell)
  have hN3 : w.heap.size < w3.heap.size := X4.out.lt
  have hb63 : b6 < w3.heap.size := Y4.out.lt
  have hg3 : g < w3.heap.size := World.block_lt_of_cell? w3 _ HU.out.2.1
  have hwz : w.heap.size ≤ w3.heap.size := B4.out.size
  clear T4 HA4 RB4
  go_upto_region 6 with fail
  go_cut [8, 9] from 26 to 40 (fun v8 v9 wx => v9 = .int .i64 0 ∧ ∃ ba g' h', v8 = .pointer (some ⟨ba, 0, none⟩) ∧ Boxed wx ba 27 (.pointer (some ⟨g', 0, none⟩)) ∧ TabAt wx g' h' (pickL l s) k (fun _ => 0) ∧ w3.heap.size ≤ ba ∧ w3.heap.size ≤ g' ∧ w3.heap.size ≤ h' ∧ Below w3.heap.size w3 wx)
  case first =>
    refine wp_region_noPanic ?_
    refine wp_region_held_drew (S := fun W => HoldU w3 w.heap.size g l k W) (by kernel_rfl) (holdU HU.out ((Below.refl _ _).drew)) (fun hHeld => ?_)
    generalize w3.drew = w6 at hHeld ⊢
    refine wpAnyH_take (i := 0) (v := ?v1) rfl (by kernel_rfl) (by kernel_rfl) (by kernel_rfl) (fun _ _ _ h => h) (Or.inl ⟨by rfl, ?y1⟩) (by assumption) ?r1
    case y1 => ((intro w hSw; (try dsimp only at hSw); go_simp); try with_reducible rfl)
    try simp only [Act.put, List.getElem_toArray, List.getElem_cons_zero, List.setIfInBounds_toArray, List.set_cons_zero, List.set_cons_succ]
    refine wpAnyH_take (i := 1) (v := ?v2) rfl (by kernel_rfl) (by kernel_rfl) (by kernel_rfl) (fun _ _ _ h => h) (Or.inl ⟨by rfl, ?y2⟩) (by assumption) ?r2
    case y2 => ((intro w hSw; (try dsimp only at hSw); go_simp); try with_reducible rfl)
    try simp only [Act.put, List.getElem_toArray, List.getElem_cons_succ, List.getElem_cons_zero, List.setIfInBounds_toArray, List.set_cons_zero, List.set_cons_succ]
    refine wpAnyH_take (i := 2) (v := ?v3) rfl (by kernel_rfl) (by kernel_rfl) (by kernel_rfl) (fun _ _ _ h => h) (Or.inl ⟨by rfl, ?y3⟩) (by assumption) ?r3
    case y3 => ((intro w hSw; (try dsimp only at hSw); go_simp); try with_reducible rfl)
    try simp only [Act.put, List.getElem_toArray, List.getElem_cons_succ, List.getElem_cons_zero, List.setIfInBounds_toArray, List.set_cons_zero, List.set_cons_succ]
    refine wpAnyH_take (i := 3) (v := ?v4) rfl (by kernel_rfl) (by kernel_rfl) (by kernel_rfl) (fun _ _ _ h => h) (Or.inl ⟨by rfl, ?y4⟩) (by assumption) ?r4
    case y4 => ((intro w hSw; (try dsimp only at hSw); go_simp); try with_reducible rfl)
    try simp only [Act.put, List.getElem_toArray, List.getElem_cons_succ, List.getElem_cons_zero, List.setIfInBounds_toArray, List.set_cons_zero, List.set_cons_succ]
    refine wpAnyH_take (i := 5) (v := ?v5) rfl (by kernel_rfl) (by kernel_rfl) (by kernel_rfl) (fun _ _ _ h => h) (Or.inl ⟨by rfl, ?y5⟩) (by assumption) ?r5
    case y5 => ((intro w hSw; (try dsimp only at hSw); go_simp); try with_reducible rfl)
    try simp only [Act.put, List.getElem_toArray, List.getElem_cons_succ, List.getElem_cons_zero, List.setIfInBounds_toArray, List.set_cons_zero, List.set_cons_succ]
    refine wpAnyH_take (i := 7) (v := ?v6) rfl (by kernel_rfl) (by kernel_rfl) (by kernel_rfl) (fun _ _ _ h => h) (Or.inl ⟨by rfl, ?y6⟩) (by assumption) ?r6
    case y6 => ((intro w hSw; (try dsimp only at hSw); go_simp); try with_reducible rfl)
    try simp only [Act.put, List.getElem_toArray, List.getElem_cons_succ, List.getElem_cons_zero, List.setIfInBounds_toArray, List.set_cons_zero, List.set_cons_succ]
    refine wpAnyH_take (i := 8) (v := ?v7) rfl (by kernel_rfl) (by kernel_rfl) (by kernel_rfl) (fun _ _ _ h => h) (Or.inl ⟨by rfl, ?y7⟩) (by assumption) ?r7
    case y7 => ((intro w hSw; (try dsimp only at hSw); go_simp); try with_reducible rfl)
    try simp only [Act.put, List.getElem_toArray, List.getElem_cons_succ, List.getElem_cons_zero, List.setIfInBounds_toArray, List.set_cons_zero, List.set_cons_succ]
    refine wpAnyH_take (i := 9) (v := ?v8) rfl (by kernel_rfl) (by kernel_rfl) (by kernel_rfl) (fun _ _ _ h => h) (Or.inl ⟨by rfl, ?y8⟩) (by assumption) ?r8
    case y8 => ((intro w hSw; (try dsimp only at hSw); go_simp); try with_reducible rfl)
    try simp only [Act.put, List.getElem_toArray, List.getElem_cons_succ, List.getElem_cons_zero, List.setIfInBounds_toArray, List.set_cons_zero, List.set_cons_succ]
    refine wpAnyH_take (i := 10) (v := ?v9) rfl (by kernel_rfl) (by kernel_rfl) (by kernel_rfl) (fun _ _ _ h => h) (Or.inl ⟨by rfl, ?y9⟩) (by assumption) ?r9
    case y9 => ((intro w hSw; (try dsimp only at hSw); go_simp); try with_reducible rfl)
    try simp only [Act.put, List.getElem_toArray, List.getElem_cons_succ, List.getElem_cons_zero, List.setIfInBounds_toArray, List.set_cons_zero, List.set_cons_succ]
    refine wpAnyH_ready (rs := [4, 15]) (by kernel_rfl) (by simp) ?_
    refine AllReadyH.cons rfl (fun K hK => ?_) ?_
    · go_simp
      refine (sizes_ints l _ h6).mono ?_
      rintro e wS ⟨⟨AS, cS, rfl, hO⟩, hb⟩
      have OW := Lib.hid hO
      have HB := Lib.hid hb
      clear hO hb
      refine hK.out _ _ (holdU hHeld HB.out) (fun hHeld' => ?_)
      clear hHeld
      have hHeld := hHeld'
      clear hHeld'
      clear hK K
      try simp only [Act.put, List.getElem_toArray, List.getElem_cons_succ, List.getElem_cons_zero, List.setIfInBounds_toArray, List.set_cons_zero, List.set_cons_succ]
      refine wpAnyH_ready (rs := [6, 15]) (by kernel_rfl) (by simp) ?_
      refine AllReadyH.cons rfl (fun K hK => ?_) ?_
      · go_simp
        refine (picked_any AS A l.length cS n c l s _ rfl HPM.out.ls OW.out (HA.out.below (hHeld.below) (Nat.le_refl _)) (fun i hi => by rw [HHN.out]; exact HPM.out.bs i hi) (by omega)).mono ?_
        rintro e wD ⟨rfl, hI, hb⟩
        have IN := Lib.hid hI
        have HB := Lib.hid hb
        clear hI hb
        refine hK.out _ _ (holdU hHeld HB.out) (fun hHeld' => ?_)
        clear hHeld
        have hHeld := hHeld'
        clear hHeld'
        clear hK K
        try simp only [Act.put, List.getElem_toArray, List.getElem_cons_succ, List.getElem_cons_zero, List.setIfInBounds_toArray, List.set_cons_zero, List.set_cons_succ]
        refine wpAnyH_ready (rs := [11, 15]) (by kernel_rfl) (by simp) ?_
        refine AllReadyH.cons rfl (fun K hK => ?_) ?_
        · go_simp
          refine (tnew_ok _ n n (pickL l s) k 0 _ (by rw [pickL_len, HPM.out.ls]) (by rw [pickL_len, HPM.out.ls]; omega) IN.out HPL.out (by rw [HPP.out]; omega) hk1 hk2 (Int.le_refl _) (by omega)).mono ?_
          rintro e wN ⟨g', h', rfl, hTab, hg', hh', hb⟩
          have TA := Lib.hid hTab
          have G1 : w3.heap.size ≤ g' := Nat.le_trans hHeld.below.size hg'
          have G2 : w3.heap.size ≤ h' := Nat.le_trans hHeld.below.size hh'
          have HB := Lib.hid hb
          clear hTab hb hg' hh'
          refine hK.out _ _ (holdU hHeld HB.out) (fun hHeld' => ?_)
          clear hHeld
          have hHeld := hHeld'
          clear hHeld'
          clear hK K
          try simp only [Act.put, List.getElem_toArray, List.getElem_cons_succ, List.getElem_cons_zero, List.setIfInBounds_toArray, List.set_cons_zero, List.set_cons_succ]
          refine wpAnyH_take (i := 12) (v := ?v10) rfl (by kernel_rfl) (by kernel_rfl) (by kernel_rfl) (fun _ _ _ h => h) (Or.inl ⟨by rfl, ?y10⟩) (by assumption) ?r10
          case y10 => ((intro w hSw; (try dsimp only at hSw); go_simp); try with_reducible rfl)
          try simp only [Act.put, List.getElem_toArray, List.getElem_cons_succ, List.getElem_cons_zero, List.setIfInBounds_toArray, List.set_cons_zero, List.set_cons_succ]
          refine wpAnyH_take (i := 13) (v := ?v11) rfl (by kernel_rfl) (by kernel_rfl) (by kernel_rfl) (fun _ _ _ h => h) (Or.inl ⟨by rfl, ?y11⟩) (by assumption) ?r11
          case y11 => ((intro w hSw; (try dsimp only at hSw); go_simp); try with_reducible rfl)
          try simp only [Act.put, List.getElem_toArray, List.getElem_cons_succ, List.getElem_cons_zero, List.setIfInBounds_toArray, List.set_cons_zero, List.set_cons_succ]
          refine wpAnyH_take (i := 14) (v := ?v12) rfl (by kernel_rfl) (by kernel_rfl) (by kernel_rfl) (fun _ _ _ h => h) (Or.inl ⟨by rfl, ?y12⟩) (by assumption) ?r12
          case y12 => ((intro w hSw; (try dsimp only at hSw); go_simp); try with_reducible rfl)
          try simp only [Act.put, List.getElem_toArray, List.getElem_cons_succ, List.getElem_cons_zero, List.setIfInBounds_toArray, List.set_cons_zero, List.set_cons_succ]
          refine wpAnyH_ready (rs := [15]) (by kernel_rfl) (by simp) ?_
          refine AllReadyH.cons rfl (fun K hK => ?_) ?_
          · go_simp
            obtain ⟨ba, hba⟩ : ∃ b, wN.heap.size = b := ⟨_, rfl⟩
            have na := new_val wN (.cells #[.pointer none] 27)
            have AL := Lib.hid (Boxed.new wN 27 (.pointer none))
            have LB := hHeld.below.size
            have TA := Lib.hid (TA.out.below na)
            have HB := Lib.hid na
            clear na
            refine hK.out _ _ (holdU hHeld HB.out) (fun hHeld' => ?_)
            clear hHeld
            have hHeld := hHeld'
            clear hHeld'
            rw [hba] at AL LB
            try rw [hba]
            generalize wN.alloc (.cells #[.pointer none] 27) = wA at AL hHeld TA ⊢
            clear hK K
            try simp only [Act.put, List.getElem_toArray, List.getElem_cons_succ, List.getElem_cons_zero, List.setIfInBounds_toArray, List.set_cons_zero, List.set_cons_succ]
            refine wpAnyH_ready (rs := [16]) (by kernel_rfl) (by simp) ?_
            refine AllReadyH.cons rfl (fun K hK => ?_) ?_
            · have ac := AL.out.cell
              have af := AL.out.frozen
              go_simp
              clear ac af
              have HB := Lib.hid ((Below.refl w3.heap.size wA).setCell (p := ⟨ba, 0, none⟩) LB (.pointer (some ⟨g', 0, none⟩)))
              have AF := Lib.hid (Boxed.set (.pointer (some ⟨g', 0, none⟩)) AL.out)
              have TF := Lib.hid (tab_other TA.out AL.out (.pointer (some ⟨g', 0, none⟩)))
              refine hK.out _ _ (holdU_base hHeld (by omega) hg3 HB.out) (fun hHeld' => ?_)
              clear hHeld
              have hHeld := hHeld'
              clear hHeld'
              clear hK K
              try simp only [Act.put, List.getElem_toArray, List.getElem_cons_succ, List.getElem_cons_zero, List.setIfInBounds_toArray, List.set_cons_zero, List.set_cons_succ]
              refine wpAnyH_take (i := 17) (v := ?v13) rfl (by kernel_rfl) (by kernel_rfl) (by kernel_rfl) (fun _ _ _ h => h) (Or.inl ⟨by rfl, ?y13⟩) (by assumption) ?r13
              case y13 => ((intro w hSw; (try dsimp only at hSw); go_simp); try with_reducible rfl)
              try simp only [Act.put, List.getElem_toArray, List.getElem_cons_succ, List.getElem_cons_zero, List.setIfInBounds_toArray, List.set_cons_zero, List.set_cons_succ]
              refine wpAnyH_done (by kernel_rfl) ?_ _
              refine NoPanic.normal ?_
              go_wp2_with fail
              go_meet
              case rel => exact ⟨rfl, ba, g', h', rfl, AF.out, TF.out, LB, G1, G2, hHeld.below⟩
            exact AllReadyH.nil
          exact AllReadyH.nil
        refine AllReadyH.cons rfl (fun K hK => ?_) ?_
        · go_simp
          obtain ⟨ba, hba⟩ : ∃ b, wD.heap.size = b := ⟨_, rfl⟩
          have na := new_val wD (.cells #[.pointer none] 27)
          have AL := Lib.hid (Boxed.new wD 27 (.pointer none))
          have LB := hHeld.below.size
          have IN := Lib.hid (IN.out.below na (Nat.le_refl _))
          have HB := Lib.hid na
          clear na
          refine hK.out _ _ (holdU hHeld HB.out) (fun hHeld' => ?_)
          clear hHeld
          have hHeld := hHeld'
          clear hHeld'
          rw [hba] at AL LB
          try rw [hba]
          generalize wD.alloc (.cells #[.pointer none] 27) = wA at AL hHeld IN ⊢
          clear hK K
          try simp only [Act.put, List.getElem_toArray, List.getElem_cons_succ, List.getElem_cons_zero, List.setIfInBounds_toArray, List.set_cons_zero, List.set_cons_succ]
          refine wpAnyH_ready (rs := [11]) (by kernel_rfl) (by simp) ?_
          refine AllReadyH.cons rfl (fun K hK => ?_) ?_
          · go_simp
            refine (tnew_ok _ n n (pickL l s) k 0 _ (by rw [pickL_len, HPM.out.ls]) (by rw [pickL_len, HPM.out.ls]; omega) IN.out HPL.out (by rw [HPP.out]; omega) hk1 hk2 (Int.le_refl _) (by omega)).mono ?_
            rintro e wN ⟨g', h', rfl, hTab, hg', hh', hb⟩
            have AL : Hid (Boxed _ ba _ _) := Lib.hid ((hb.block _ AL.out.lt).trans AL.out)
            have TA := Lib.hid hTab
            have G1 : w3.heap.size ≤ g' := Nat.le_trans hHeld.below.size hg'
            have G2 : w3.heap.size ≤ h' := Nat.le_trans hHeld.below.size hh'
            have HB := Lib.hid hb
            clear hTab hb hg' hh'
            refine hK.out _ _ (holdU hHeld HB.out) (fun hHeld' => ?_)
            clear hHeld
            have hHeld := hHeld'
            clear hHeld'
            clear hK K
            try simp only [Act.put, List.getElem_toArray, List.getElem_cons_succ, List.getElem_cons_zero, List.setIfInBounds_toArray, List.set_cons_zero, List.set_cons_succ]
            refine wpAnyH_take (i := 12) (v := ?v14) rfl (by kernel_rfl) (by kernel_rfl) (by kernel_rfl) (fun _ _ _ h => h) (Or.inl ⟨by rfl, ?y14⟩) (by assumption) ?r14
            case y14 => ((intro w hSw; (try dsimp only at hSw); go_simp); try with_reducible rfl)
            try simp only [Act.put, List.getElem_toArray, List.getElem_cons_succ, List.getElem_cons_zero, List.setIfInBounds_toArray, List.set_cons_zero, List.set_cons_succ]
            refine wpAnyH_take (i := 13) (v := ?v15) rfl (by kernel_rfl) (by kernel_rfl) (by kernel_rfl) (fun _ _ _ h => h) (Or.inl ⟨by rfl, ?y15⟩) (by assumption) ?r15
            case y15 => ((intro w hSw; (try dsimp only at hSw); go_simp); try with_reducible rfl)
            try simp only [Act.put, List.getElem_toArray, List.getElem_cons_succ, List.getElem_cons_zero, List.setIfInBounds_toArray, List.set_cons_zero, List.set_cons_succ]
            refine wpAnyH_take (i := 14) (v := ?v16) rfl (by kernel_rfl) (by kernel_rfl) (by kernel_rfl) (fun _ _ _ h => h) (Or.inl ⟨by rfl, ?y16⟩) (by assumption) ?r16
            case y16 => ((intro w hSw; (try dsimp only at hSw); go_simp); try with_reducible rfl)
            try simp only [Act.put, List.getElem_toArray, List.getElem_cons_succ, List.getElem_cons_zero, List.setIfInBounds_toArray, List.set_cons_zero, List.set_cons_succ]
            refine wpAnyH_ready (rs := [16]) (by kernel_rfl) (by simp) ?_
            refine AllReadyH.cons rfl (fun K hK => ?_) ?_
            · have ac := AL.out.cell
              have af := AL.out.frozen
              go_simp
              clear ac af
              have HB := Lib.hid ((Below.refl w3.heap.size wN).setCell (p := ⟨ba, 0, none⟩) LB (.pointer (some ⟨g', 0, none⟩)))
              have AF := Lib.hid (Boxed.set (.pointer (some ⟨g', 0, none⟩)) AL.out)
              have TF := Lib.hid (tab_other TA.out AL.out (.pointer (some ⟨g', 0, none⟩)))
              refine hK.out _ _ (holdU_base hHeld (by omega) hg3 HB.out) (fun hHeld' => ?_)
              clear hHeld
              have hHeld := hHeld'
              clear hHeld'
              clear hK K
              try simp only [Act.put, List.getElem_toArray, List.getElem_cons_succ, List.getElem_cons_zero, List.setIfInBounds_toArray, List.set_cons_zero, List.set_cons_succ]
              refine wpAnyH_take (i := 17) (v := ?v17) rfl (by kernel_rfl) (by kernel_rfl) (by kernel_rfl) (fun _ _ _ h => h) (Or.inl ⟨by rfl, ?y17⟩) (by assumption) ?r17
              case y17 => ((intro w hSw; (try dsimp only at hSw); go_simp); try with_reducible rfl)
              try simp only [Act.put, List.getElem_toArray, List.getElem_cons_succ, List.getElem_cons_zero, List.setIfInBounds_toArray, List.set_cons_zero, List.set_cons_succ]
              refine wpAnyH_done (by kernel_rfl) ?_ _
              refine NoPanic.normal ?_
              go_wp2_with fail
              go_meet
              case rel => exact ⟨rfl, ba, g', h', rfl, AF.out, TF.out, LB, G1, G2, hHeld.below⟩
            exact AllReadyH.nil
          exact AllReadyH.nil
        exact AllReadyH.nil
      refine AllReadyH.cons rfl (fun K hK => ?_) ?_
      · go_simp
        obtain ⟨ba, hba⟩ : ∃ b, wS.heap.size = b := ⟨_, rfl⟩
        have na := new_val wS (.cells #[.pointer none] 27)
        have AL := Lib.hid (Boxed.new wS 27 (.pointer none))
        have LB := hHeld.below.size
        have OW := Lib.hid (OW.out.below na (Nat.le_refl _))
        have HB := Lib.hid na
        clear na
        refine hK.out _ _ (holdU hHeld HB.out) (fun hHeld' => ?_)
        clear hHeld
        have hHeld := hHeld'
        clear hHeld'
        rw [hba] at AL LB
        try rw [hba]
        generalize wS.alloc (.cells #[.pointer none] 27) = wA at AL hHeld OW ⊢
        clear hK K
        try simp only [Act.put, List.getElem_toArray, List.getElem_cons_succ, List.getElem_cons_zero, List.setIfInBounds_toArray, List.set_cons_zero, List.set_cons_succ]
        refine wpAnyH_ready (rs := [6]) (by kernel_rfl) (by simp) ?_
        refine AllReadyH.cons rfl (fun K hK => ?_) ?_
        · go_simp
          refine (picked_any AS A l.length cS n c l s _ rfl HPM.out.ls OW.out (HA.out.below (hHeld.below) (Nat.le_refl _)) (fun i hi => by rw [HHN.out]; exact HPM.out.bs i hi) (by omega)).mono ?_
          rintro e wD ⟨rfl, hI, hb⟩
          have AL : Hid (Boxed _ ba _ _) := Lib.hid ((hb.block _ AL.out.lt).trans AL.out)
          have IN := Lib.hid hI
          have HB := Lib.hid hb
          clear hI hb
          refine hK.out _ _ (holdU hHeld HB.out) (fun hHeld' => ?_)
          clear hHeld
          have hHeld := hHeld'
          clear hHeld'
          clear hK K
          try simp only [Act.put, List.getElem_toArray, List.getElem_cons_succ, List.getElem_cons_zero, List.setIfInBounds_toArray, List.set_cons_zero, List.set_cons_succ]
          refine wpAnyH_ready (rs := [11]) (by kernel_rfl) (by simp) ?_
          refine AllReadyH.cons rfl (fun K hK => ?_) ?_
          · go_simp
            refine (tnew_ok _ n n (pickL l s) k 0 _ (by rw [pickL_len, HPM.out.ls]) (by rw [pickL_len, HPM.out.ls]; omega) IN.out HPL.out (by rw [HPP.out]; omega) hk1 hk2 (Int.le_refl _) (by omega)).mono ?_
            rintro e wN ⟨g', h', rfl, hTab, hg', hh', hb⟩
            have AL : Hid (Boxed _ ba _ _) := Lib.hid ((hb.block _ AL.out.lt).trans AL.out)
            have TA := Lib.hid hTab
            have G1 : w3.heap.size ≤ g' := Nat.le_trans hHeld.below.size hg'
            have G2 : w3.heap.size ≤ h' := Nat.le_trans hHeld.below.size hh'
            have HB := Lib.hid hb
            clear hTab hb hg' hh'
            refine hK.out _ _ (holdU hHeld HB.out) (fun hHeld' => ?_)
            clear hHeld
            have hHeld := hHeld'
            clear hHeld'
            clear hK K
            try simp only [Act.put, List.getElem_toArray, List.getElem_cons_succ, List.getElem_cons_zero, List.setIfInBounds_toArray, List.set_cons_zero, List.set_cons_succ]
            refine wpAnyH_take (i := 12) (v := ?v18) rfl (by kernel_rfl) (by kernel_rfl) (by kernel_rfl) (fun _ _ _ h => h) (Or.inl ⟨by rfl, ?y18⟩) (by assumption) ?r18
            case y18 => ((intro w hSw; (try dsimp only at hSw); go_simp); try with_reducible rfl)
            try simp only [Act.put, List.getElem_toArray, List.getElem_cons_succ, List.getElem_cons_zero, List.setIfInBounds_toArray, List.set_cons_zero, List.set_cons_succ]
            refine wpAnyH_take (i := 13) (v := ?v19) rfl (by kernel_rfl) (by kernel_rfl) (by kernel_rfl) (fun _ _ _ h => h) (Or.inl ⟨by rfl, ?y19⟩) (by assumption) ?r19
            case y19 => ((intro w hSw; (try dsimp only at hSw); go_simp); try with_reducible rfl)
            try simp only [Act.put, List.getElem_toArray, List.getElem_cons_succ, List.getElem_cons_zero, List.setIfInBounds_toArray, List.set_cons_zero, List.set_cons_succ]
            refine wpAnyH_take (i := 14) (v := ?v20) rfl (by kernel_rfl) (by kernel_rfl) (by kernel_rfl) (fun _ _ _ h => h) (Or.inl ⟨by rfl, ?y20⟩) (by assumption) ?r20
            case y20 => ((intro w hSw; (try dsimp only at hSw); go_simp); try with_reducible rfl)
            try simp only [Act.put, List.getElem_toArray, List.getElem_cons_succ, List.getElem_cons_zero, List.setIfInBounds_toArray, List.set_cons_zero, List.set_cons_succ]
            refine wpAnyH_ready (rs := [16]) (by kernel_rfl) (by simp) ?_
            refine AllReadyH.cons rfl (fun K hK => ?_) ?_
            · have ac := AL.out.cell
              have af := AL.out.frozen
              go_simp
              clear ac af
              have HB := Lib.hid ((Below.refl w3.heap.size wN).setCell (p := ⟨ba, 0, none⟩) LB (.pointer (some ⟨g', 0, none⟩)))
              have AF := Lib.hid (Boxed.set (.pointer (some ⟨g', 0, none⟩)) AL.out)
              have TF := Lib.hid (tab_other TA.out AL.out (.pointer (some ⟨g', 0, none⟩)))
              refine hK.out _ _ (holdU_base hHeld (by omega) hg3 HB.out) (fun hHeld' => ?_)
              clear hHeld
              have hHeld := hHeld'
              clear hHeld'
              clear hK K
              try simp only [Act.put, List.getElem_toArray, List.getElem_cons_succ, List.getElem_cons_zero, List.setIfInBounds_toArray, List.set_cons_zero, List.set_cons_succ]
              refine wpAnyH_take (i := 17) (v := ?v21) rfl (by kernel_rfl) (by kernel_rfl) (by kernel_rfl) (fun _ _ _ h => h) (Or.inl ⟨by rfl, ?y21⟩) (by assumption) ?r21
              case y21 => ((intro w hSw; (try dsimp only at hSw); go_simp); try with_reducible rfl)
              try simp only [Act.put, List.getElem_toArray, List.getElem_cons_succ, List.getElem_cons_zero, List.setIfInBounds_toArray, List.set_cons_zero, List.set_cons_succ]
              refine wpAnyH_done (by kernel_rfl) ?_ _
              refine NoPanic.normal ?_
              go_wp2_with fail
              go_meet
              case rel => exact ⟨rfl, ba, g', h', rfl, AF.out, TF.out, LB, G1, G2, hHeld.below⟩
            exact AllReadyH.nil
          exact AllReadyH.nil
        exact AllReadyH.nil
      exact AllReadyH.nil
    refine AllReadyH.cons rfl (fun K hK => ?_) ?_
    · go_simp
      obtain ⟨ba, hba⟩ : ∃ b, w6.heap.size = b := ⟨_, rfl⟩
      have na := new_val w6 (.cells #[.pointer none] 27)
      have AL := Lib.hid (Boxed.new w6 27 (.pointer none))
      have LB := hHeld.below.size
      have HB := Lib.hid na
      clear na
      refine hK.out _ _ (holdU hHeld HB.out) (fun hHeld' => ?_)
      clear hHeld
      have hHeld := hHeld'
      clear hHeld'
      rw [hba] at AL LB
      try rw [hba]
      generalize w6.alloc (.cells #[.pointer none] 27) = wA at AL hHeld ⊢
      clear hK K
      try simp only [Act.put, List.getElem_toArray, List.getElem_cons_succ, List.getElem_cons_zero, List.setIfInBounds_toArray, List.set_cons_zero, List.set_cons_succ]
      refine wpAnyH_ready (rs := [4]) (by kernel_rfl) (by simp) ?_
      refine AllReadyH.cons rfl (fun K hK => ?_) ?_
      · go_simp
        refine (sizes_ints l _ h6).mono ?_
        rintro e wS ⟨⟨AS, cS, rfl, hO⟩, hb⟩
        have AL : Hid (Boxed _ ba _ _) := Lib.hid ((hb.block _ AL.out.lt).trans AL.out)
        have OW := Lib.hid hO
        have HB := Lib.hid hb
        clear hO hb
        refine hK.out _ _ (holdU hHeld HB.out) (fun hHeld' => ?_)
        clear hHeld
        have hHeld := hHeld'
        clear hHeld'
        clear hK K
        try simp only [Act.put, List.getElem_toArray, List.getElem_cons_succ, List.getElem_cons_zero, List.setIfInBounds_toArray, List.set_cons_zero, List.set_cons_succ]
        refine wpAnyH_ready (rs := [6]) (by kernel_rfl) (by simp) ?_
        refine AllReadyH.cons rfl (fun K hK => ?_) ?_
        · go_simp
          refine (picked_any AS A l.length cS n c l s _ rfl HPM.out.ls OW.out (HA.out.below (hHeld.below) (Nat.le_refl _)) (fun i hi => by rw [HHN.out]; exact HPM.out.bs i hi) (by omega)).mono ?_
          rintro e wD ⟨rfl, hI, hb⟩
          have AL : Hid (Boxed _ ba _ _) := Lib.hid ((hb.block _ AL.out.lt).trans AL.out)
          have IN := Lib.hid hI
          have HB := Lib.hid hb
          clear hI hb
          refine hK.out _ _ (holdU hHeld HB.out) (fun hHeld' => ?_)
          clear hHeld
          have hHeld := hHeld'
          clear hHeld'
          clear hK K
          try simp only [Act.put, List.getElem_toArray, List.getElem_cons_succ, List.getElem_cons_zero, List.setIfInBounds_toArray, List.set_cons_zero, List.set_cons_succ]
          refine wpAnyH_ready (rs := [11]) (by kernel_rfl) (by simp) ?_
          refine AllReadyH.cons rfl (fun K hK => ?_) ?_
          · go_simp
            refine (tnew_ok _ n n (pickL l s) k 0 _ (by rw [pickL_len, HPM.out.ls]) (by rw [pickL_len, HPM.out.ls]; omega) IN.out HPL.out (by rw [HPP.out]; omega) hk1 hk2 (Int.le_refl _) (by omega)).mono ?_
            rintro e wN ⟨g', h', rfl, hTab, hg', hh', hb⟩
            have AL : Hid (Boxed _ ba _ _) := Lib.hid ((hb.block _ AL.out.lt).trans AL.out)
            have TA := Lib.hid hTab
            have G1 : w3.heap.size ≤ g' := Nat.le_trans hHeld.below.size hg'
            have G2 : w3.heap.size ≤ h' := Nat.le_trans hHeld.below.size hh'
            have HB := Lib.hid hb
            clear hTab hb hg' hh'
            refine hK.out _ _ (holdU hHeld HB.out) (fun hHeld' => ?_)
            clear hHeld
            have hHeld := hHeld'
            clear hHeld'
            clear hK K
            try simp only [Act.put, List.getElem_toArray, List.getElem_cons_succ, List.getElem_cons_zero, List.setIfInBounds_toArray, List.set_cons_zero, List.set_cons_succ]
            refine wpAnyH_take (i := 12) (v := ?v22) rfl (by kernel_rfl) (by kernel_rfl) (by kernel_rfl) (fun _ _ _ h => h) (Or.inl ⟨by rfl, ?y22⟩) (by assumption) ?r22
            case y22 => ((intro w hSw; (try dsimp only at hSw); go_simp); try with_reducible rfl)
            try simp only [Act.put, List.getElem_toArray, List.getElem_cons_succ, List.getElem_cons_zero, List.setIfInBounds_toArray, List.set_cons_zero, List.set_cons_succ]
            refine wpAnyH_take (i := 13) (v := ?v23) rfl (by kernel_rfl) (by kernel_rfl) (by kernel_rfl) (fun _ _ _ h => h) (Or.inl ⟨by rfl, ?y23⟩) (by assumption) ?r23
            case y23 => ((intro w hSw; (try dsimp only at hSw); go_simp); try with_reducible rfl)
            try simp only [Act.put, List.getElem_toArray, List.getElem_cons_succ, List.getElem_cons_zero, List.setIfInBounds_toArray, List.set_cons_zero, List.set_cons_succ]
            refine wpAnyH_take (i := 14) (v := ?v24) rfl (by kernel_rfl) (by kernel_rfl) (by kernel_rfl) (fun _ _ _ h => h) (Or.inl ⟨by rfl, ?y24⟩) (by assumption) ?r24
            case y24 => ((intro w hSw; (try dsimp only at hSw); go_simp); try with_reducible rfl)
            try simp only [Act.put, List.getElem_toArray, List.getElem_cons_succ, List.getElem_cons_zero, List.setIfInBounds_toArray, List.set_cons_zero, List.set_cons_succ]
            refine wpAnyH_ready (rs := [16]) (by kernel_rfl) (by simp) ?_
            refine AllReadyH.cons rfl (fun K hK => ?_) ?_
            · have ac := AL.out.cell
              have af := AL.out.frozen
              go_simp
              clear ac af
              have HB := Lib.hid ((Below.refl w3.heap.size wN).setCell (p := ⟨ba, 0, none⟩) LB (.pointer (some ⟨g', 0, none⟩)))
              have AF := Lib.hid (Boxed.set (.pointer (some ⟨g', 0, none⟩)) AL.out)
              have TF := Lib.hid (tab_other TA.out AL.out (.pointer (some ⟨g', 0, none⟩)))
              refine hK.out _ _ (holdU_base hHeld (by omega) hg3 HB.out) (fun hHeld' => ?_)
              clear hHeld
              have hHeld := hHeld'
              clear hHeld'
              clear hK K
              try simp only [Act.put, List.getElem_toArray, List.getElem_cons_succ, List.getElem_cons_zero, List.setIfInBounds_toArray, List.set_cons_zero, List.set_cons_succ]
              refine wpAnyH_take (i := 17) (v := ?v25) rfl (by kernel_rfl) (by kernel_rfl) (by kernel_rfl) (fun _ _ _ h => h) (Or.inl ⟨by rfl, ?y25⟩) (by assumption) ?r25
              case y25 => ((intro w hSw; (try dsimp only at hSw); go_simp); try with_reducible rfl)
              try simp only [Act.put, List.getElem_toArray, List.getElem_cons_succ, List.getElem_cons_zero, List.setIfInBounds_toArray, List.set_cons_zero, List.set_cons_succ]
              refine wpAnyH_done (by kernel_rfl) ?_ _
              refine NoPanic.normal ?_
              go_wp2_with fail
              go_meet
              case rel => exact ⟨rfl, ba, g', h', rfl, AF.out, TF.out, LB, G1, G2, hHeld.below⟩
            exact AllReadyH.nil
          exact AllReadyH.nil
        exact AllReadyH.nil
      exact AllReadyH.nil
    exact AllReadyH.nil

  case rest =>
    obtain ⟨rfl, ba, g', h', rfl, hba, hta, LB, G1, G2, hbel⟩ := hcut
    have BA := Lib.hid hba
    have TA := Lib.hid hta
    have BC := Lib.hid hbel
    have n1 : ba ≠ h' := fun e => by
      subst e
      obtain ⟨cur, hc, _⟩ := hta.costs
      have := hc.symm.trans hba
      simp at this
    have n3 : g' ≠ h' := hta.apart
    have ac := hba.cell
    obtain ⟨c0, c1, c2, c3, c4, c5, c6, c7, c8⟩ := hta.cells
    clear hba hta hbel
    go_wp2_with (go_at_call 46; refine (all_call (pickL l s) wc).mono ?_; rintro e wq ⟨rfl, rfl⟩)
    have nb := new_val wc (shO (pickL l s))
    have SB := Lib.hid (ShAt.new wc (pickL l s))
    have hz0 : wc.heap.size < (wc.alloc (shO (pickL l s))).heap.size := by simp
    have TZ' := Lib.hid (TA.out.below nb)
    have AZ' : Hid (Boxed _ _ _ _) := Lib.hid (box_below BA.out nb)
    have BW := Lib.hid (BC.out.trans (nb.mono BC.out.size))
    have hba : ba < wc.heap.size := BA.out.lt
    have hg' : g' < wc.heap.size := World.block_lt_of_cell? wc _ c0
    have hh' : h' < wc.heap.size := by obtain ⟨cur, hc, _⟩ := TA.out.costs; exact (Array.getElem?_eq_some_iff.1 hc).1
    clear c0 c1 c2 c3 c4 c5 c6 c7 c8 ac nb
    generalize wc.alloc (shO (pickL l s)) = W0 at SB TZ' AZ' BW hz0 ⊢
    have c8 := TZ'.out.cells.2.2.2.2.2.2.2.2
    rw [HPP.out] at c8
    have X0 : W0.cell? ⟨w.heap.size, 0, none⟩ = some (.pointer (some ⟨g, 0, none⟩)) := (BW.out.cell (p := ⟨w.heap.size, 0, none⟩) hN3).trans X4.out.cell
    have Y0 : W0.cell? ⟨b6, 0, none⟩ = some (.slice (some ⟨hb, 0, none⟩) n n) := (BW.out.cell (p := ⟨b6, 0, none⟩) hb63).trans Y4.out.cell
    have HQ : Hid (HoldQ w3 w.heap.size g b6 hb n ba g' h' P W0) := Lib.hid ⟨X0, Y0, AZ'.out.cell, c8, BW.out⟩
    have I0 : Hid (TrnI W0 h' P (turnZ l z s r) 0 W0) := by
      obtain ⟨cur, hc, hcs, hcz⟩ := TZ'.out.costs
      rw [HPP.out] at hcs hcz
      exact Lib.hid ⟨Kept2.refl _ _ _, ⟨cur, hc, hcs, fun j hj => (hcz j hj).trans (by simp)⟩⟩
    clear c8 X0 Y0
    refine (wpIn_wide (n := 3)).1 (range_good (by omega) (gf := 65) (lb := #[.pointer (some ⟨wc.heap.size, 0, none⟩)]) rfl (enters_of Tryd.func65 (by kernel_rfl) rfl)
      (all_goodx 2 (by omega) (pickL l s) P wc.heap.size (by rw [HLP.out]; exact hn6) HPL.out HPP.out hP4 W0 SB.out) (by omega) (fun _ => rfl) (fun B pre x => goodX_own (pickL l s) B _ pre x)
      (fun pre W => TrnI W0 h' P (turnZ l z s r) pre.length W) trnI_from I0.out ?a1 ?assign ?body ?done)
    case assign =>
      intro y x W K hK
      gi_wp2
      exact hK
    case body =>
      rintro y pre ⟨i, v⟩ Wp W hy hloop hIp hI heq ⟨hi, hiP, hO, bt, hv⟩
      obtain rfl : i = pre.length := hi
      have hiP : pre.length < prodL (pickL l s) := hiP
      have hv : v = .slice (some ⟨bt, 0, none⟩) (pickL l s).length (pickL l s).length := hv
      have hO : Own W Wp.heap.size v (tupL (pickL l s) pre.length) := hO
      subst hv
      obtain ⟨At, ct, hv', hT⟩ := hO.form
      rw [tupL_length] at hv'
      obtain ⟨rfl, rfl⟩ : some ⟨bt, 0, none⟩ = At ∧ (pickL l s).length = ct := by injection hv' with a b c; exact ⟨a, c⟩
      obtain ⟨j, hj⟩ : ∃ j, pre.length = j := ⟨_, rfl⟩
      have HN := Lib.hid hj
      rw [hj] at hiP hI hT
      have hjP : j < P := by rw [← HPP.out]; exact hiP
      have hsz : W0.heap.size ≤ W.heap.size := by obtain ⟨r, hr⟩ := hloop; have := (Array.getElem?_eq_some_iff.1 hr).1; omega
      have hBsW : wc.heap.size < W.heap.size := by omega
      have TIN : Hid (InL l (pickL (tupL (pickL l s) j) r)) := Lib.hid (turn_in HPM.out HHN.out (fun n hn => (HL.out n hn).1))
      have q0 : (0 : Int) ≤ (j : Int) := by omega
      have q1 : (j : Int) < (P : Int) := by omega
      have IT := Lib.hid hT
      have HR0 := Lib.hid (HoldQ.of HQ.out hI.kept hN3 hb63 G2 n1 n3)
      have OR : Hid (TrnR W0 h' P (turnZ l z s r) j wc.heap.size W W) := Lib.hid ⟨hI, KeepsFrom.refl _ _, Keep1.refl _ _⟩
      clear hI hIp hO hT heq hloop hv' hiP
      rw [hj]
      clear hj
      gi_wp2
      refine region_round_held (S := fun W => HoldQ w3 w.heap.size g b6 hb n ba g' h' P W) y (by kernel_rfl) (by kernel_rfl) ?hq1 (holdQ HR0.out ((Below.refl _ _).drew)) (fun hHeld => ?_)
      case hq1 => rintro ⟨a', w', h⟩; exact h
      have IT := Lib.hid (IT.out.below ((Below.refl W.heap.size W).drew) (Nat.le_refl _))
      have OR := Lib.hid (OR.out.next hBsW ((Below.refl W.heap.size W).drew))
      generalize W.drew = w6 at hHeld IT OR ⊢
      refine wpAnyH_take (i := 0) (v := ?v101) rfl (by kernel_rfl) (by kernel_rfl) (by kernel_rfl) (fun _ _ _ h => h) (Or.inl ⟨by rfl, ?y101⟩) (by assumption) ?r101
      case y101 => ((intro w hSw; (try dsimp only at hSw); go_simp); try with_reducible rfl)
      try simp only [Act.put, List.getElem_toArray, List.getElem_cons_zero, List.setIfInBounds_toArray, List.set_cons_zero, List.set_cons_succ]
      refine wpAnyH_take (i := 1) (v := ?v102) rfl (by kernel_rfl) (by kernel_rfl) (by kernel_rfl) (fun _ _ _ h => h) (Or.inl ⟨by rfl, ?y102⟩) (by assumption) ?r102
      case y102 => ((intro w hSw; (try dsimp only at hSw); go_simp); try with_reducible rfl)
      try simp only [Act.put, List.getElem_toArray, List.getElem_cons_succ, List.getElem_cons_zero, List.setIfInBounds_toArray, List.set_cons_zero, List.set_cons_succ]
      refine wpAnyH_take (i := 2) (v := ?v103) rfl (by kernel_rfl) (by kernel_rfl) (by kernel_rfl) (fun _ _ _ h => h) (Or.inl ⟨by rfl, ?y103⟩) (by assumption) ?r103
      case y103 => ((intro w hSw; (try dsimp only at hSw); go_simp); try with_reducible rfl)
      try simp only [Act.put, List.getElem_toArray, List.getElem_cons_succ, List.getElem_cons_zero, List.setIfInBounds_toArray, List.set_cons_zero, List.set_cons_succ]
      refine wpAnyH_take (i := 3) (v := ?v104) rfl (by kernel_rfl) (by kernel_rfl) (by kernel_rfl) (fun _ _ _ h => h) (Or.inl ⟨by rfl, ?y104⟩) (by assumption) ?r104
      case y104 => ((intro w hSw; (try dsimp only at hSw); go_simp); try with_reducible rfl)
      try simp only [Act.put, List.getElem_toArray, List.getElem_cons_succ, List.getElem_cons_zero, List.setIfInBounds_toArray, List.set_cons_zero, List.set_cons_succ]
      refine wpAnyH_take (i := 4) (v := ?v105) rfl (by kernel_rfl) (by kernel_rfl) (by kernel_rfl) (fun _ _ _ h => h) (Or.inl ⟨by rfl, ?y105⟩) (by assumption) ?r105
      case y105 => ((intro w hSw; (try dsimp only at hSw); go_simp); try with_reducible rfl)
      try simp only [Act.put, List.getElem_toArray, List.getElem_cons_succ, List.getElem_cons_zero, List.setIfInBounds_toArray, List.set_cons_zero, List.set_cons_succ]
      refine wpAnyH_take (i := 5) (v := ?v106) rfl (by kernel_rfl) (by kernel_rfl) (by kernel_rfl) (fun _ _ _ h => h) (Or.inl ⟨by rfl, ?y106⟩) (by assumption) ?r106
      case y106 => ((intro w hSw; (try dsimp only at hSw); go_simp); try with_reducible rfl)
      try simp only [Act.put, List.getElem_toArray, List.getElem_cons_succ, List.getElem_cons_zero, List.setIfInBounds_toArray, List.set_cons_zero, List.set_cons_succ]
      refine wpAnyH_take (i := 6) (v := ?v107) rfl (by kernel_rfl) (by kernel_rfl) (by kernel_rfl) (fun _ _ _ h => h) (Or.inl ⟨by rfl, ?y107⟩) (by assumption) ?r107
      case y107 => ((intro w hSw; (try dsimp only at hSw); go_simp); try with_reducible rfl)
      try simp only [Act.put, List.getElem_toArray, List.getElem_cons_succ, List.getElem_cons_zero, List.setIfInBounds_toArray, List.set_cons_zero, List.set_cons_succ]
      refine wpAnyH_take (i := 7) (v := ?v108) rfl (by kernel_rfl) (by kernel_rfl) (by kernel_rfl) (fun _ _ _ h => h) (Or.inl ⟨by rfl, ?y108⟩) (by assumption) ?r108
      case y108 => ((intro w hSw; (try dsimp only at hSw); go_simp); try with_reducible rfl)
      try simp only [Act.put, List.getElem_toArray, List.getElem_cons_succ, List.getElem_cons_zero, List.setIfInBounds_toArray, List.set_cons_zero, List.set_cons_succ]
      refine wpAnyH_ready (rs := [8]) (by kernel_rfl) (by simp) ?_
      refine AllReadyH.cons rfl (fun K hK => ?_) ?_
      · go_simp
        refine (picked_any (some ⟨bt, 0, none⟩) (some ⟨hb, 0, none⟩) (pickL l s).length (pickL l s).length n n (tupL (pickL l s) j) r w6 (tupL_length _ _) HPM.out.lr IT.out (RB.out.below hHeld.below (Nat.le_refl _)) (fun i hi => by rw [HLP.out]; exact HPM.out.br i hi) (by omega)).mono ?_
        rintro e wI ⟨rfl, hI2, hb1⟩
        have IX := Lib.hid hI2
        have OR := Lib.hid (OR.out.next hBsW hb1)
        have HB := Lib.hid hb1
        clear hI2 hb1
        refine hK.out _ _ (holdQ hHeld HB.out) (fun hHeld' => ?_)
        clear hHeld
        have hHeld := hHeld'
        clear hHeld'
        clear hK K
        try simp only [Act.put, List.getElem_toArray, List.getElem_cons_succ, List.getElem_cons_zero, List.setIfInBounds_toArray, List.set_cons_zero, List.set_cons_succ]
        refine wpAnyH_ready (rs := [9]) (by kernel_rfl) (by simp) ?_
        refine AllReadyH.cons rfl (fun K hK => ?_) ?_
        · go_simp
          refine (tget_ok g h _ n n (numL l (pickL (tupL (pickL l s) j) r)) l (pickL (tupL (pickL l s) j) r) k z wI (T3.out.below hHeld.below) (by rw [pickL_len, HPM.out.lr]) h6 (fun n hn => (HL.out n hn).2) IX.out TIN.out rfl TIN.out.num_lt).mono ?_
          rintro e wJ ⟨rfl, hb1⟩
          have OR := Lib.hid (OR.out.next hBsW hb1)
          have HB := Lib.hid hb1
          clear hb1
          refine hK.out _ _ (holdQ hHeld HB.out) (fun hHeld' => ?_)
          clear hHeld
          have hHeld := hHeld'
          clear hHeld'
          clear hK K
          try simp only [Act.put, List.getElem_toArray, List.getElem_cons_succ, List.getElem_cons_zero, List.setIfInBounds_toArray, List.set_cons_zero, List.set_cons_succ]
          refine wpAnyH_take (i := 10) (v := ?v109) rfl (by kernel_rfl) (by kernel_rfl) (by kernel_rfl) (fun _ _ _ h => h) (Or.inl ⟨by rfl, ?y109⟩) (by assumption) ?r109
          case y109 => ((intro w hSw; (try dsimp only at hSw); go_simp); try with_reducible rfl)
          try simp only [Act.put, List.getElem_toArray, List.getElem_cons_succ, List.getElem_cons_zero, List.setIfInBounds_toArray, List.set_cons_zero, List.set_cons_succ]
          refine wpAnyH_take (i := 11) (v := ?v110) rfl (by kernel_rfl) (by kernel_rfl) (by kernel_rfl) (fun _ _ _ h => h) (Or.inl ⟨by rfl, ?y110⟩) (by assumption) ?r110
          case y110 => ((intro w hSw; (try dsimp only at hSw); go_simp); try with_reducible rfl)
          try simp only [Act.put, List.getElem_toArray, List.getElem_cons_succ, List.getElem_cons_zero, List.setIfInBounds_toArray, List.set_cons_zero, List.set_cons_succ]
          refine wpAnyH_take (i := 12) (v := ?v111) rfl (by kernel_rfl) (by kernel_rfl) (by kernel_rfl) (fun _ _ _ h => h) (Or.inl ⟨by rfl, ?y111⟩) (by assumption) ?r111
          case y111 => ((intro w hSw; (try dsimp only at hSw); go_simp); try with_reducible rfl)
          try simp only [Act.put, List.getElem_toArray, List.getElem_cons_succ, List.getElem_cons_zero, List.setIfInBounds_toArray, List.set_cons_zero, List.set_cons_succ]
          refine wpAnyH_take (i := 13) (v := ?v112) rfl (by kernel_rfl) (by kernel_rfl) (by kernel_rfl) (fun _ _ _ h => h) (Or.inl ⟨by rfl, ?y112⟩) (by assumption) ?r112
          case y112 => ((intro w hSw; (try dsimp only at hSw); go_simp); try with_reducible rfl)
          try simp only [Act.put, List.getElem_toArray, List.getElem_cons_succ, List.getElem_cons_zero, List.setIfInBounds_toArray, List.set_cons_zero, List.set_cons_succ]
          refine wpAnyH_ready (rs := [14]) (by kernel_rfl) (by simp) ?_
          refine AllReadyH.cons rfl (fun K hK => ?_) ?_
          · have kc := OR.out.inv.costs.cell hjP
            have kf := OR.out.inv.costs.frozen j
            go_simp
            clear kc kf
            refine hK.out _ _ (holdQ_set hHeld (by omega) (by omega) G2 n1 n3 j _) (fun hHeld' => ?_)
            clear hHeld
            have hHeld := hHeld'
            clear hHeld'
            clear hK K
            try simp only [Act.put, List.getElem_toArray, List.getElem_cons_succ, List.getElem_cons_zero, List.setIfInBounds_toArray, List.set_cons_zero, List.set_cons_succ]
            refine wpAnyH_done (by kernel_rfl) ?_ _
            gi_wp2_with fail
            have FIN := OR.out.fin (x := z (numL l (pickL (tupL (pickL l s) j) r))) (by omega) rfl
            exact ⟨FIN.kf, FIN.k1, by show TrnI W0 h' P (turnZ l z s r) (pre ++ [_]).length _; rw [List.length_append, HN.out]; exact FIN.inv⟩
          exact AllReadyH.nil
        exact AllReadyH.nil
      exact AllReadyH.nil

    case done =>
      rintro D xs W hD hS hI hK
      have hS : xs.length = P := hS
      rw [hS] at hI
      have SZ : Hid (w.heap.size ≤ g' ∧ w.heap.size ≤ h') := Lib.hid ⟨by omega, by omega⟩
      have k1 : W.cell? ⟨ba, 0, none⟩ = some (.pointer (some ⟨g', 0, none⟩)) := (World.cell?_of_block (a := ⟨ba, 0, none⟩) (hI.kept.block ba (by omega) n1 n1)).trans AZ'.out.cell
      have HI := Lib.hid hI
      have HKD := Lib.hid hK
      clear hI hK hS
      go_wp2_with fail
      refine ⟨by simp, .inl ⟨_, _, rfl, run_takeDeferred HKD.out, ?_⟩⟩
      refine ⟨_, results_tmp2 rfl _ _ _, g', h', rfl, ?_, SZ.out.1, SZ.out.2, ?_⟩
      · obtain ⟨cur, hc, hcs, hcz⟩ := HI.out.costs
        refine ⟨(World.putObj_heap_other (by omega)).trans ((HI.out.kept.block g' (by omega) n3 n3).trans TZ'.out.row), cur, (World.putObj_heap_other (by omega)).trans hc, by rw [HPP.out]; exact hcs, fun i hi => ?_⟩
        rw [HPP.out] at hi
        exact (hcz i hi).trans (congrArg some (congrArg (Value.int .i64) (if_pos hi)))
      · have h1 : Below w.heap.size w W := HI.out.kept.below (B4.out.trans (BW.out.mono (by omega))) (Nat.le_refl _) (by omega) (by omega)
        exact h1.trans (belowK_b (w := w) (Nat.le_refl _) _ D _ _ (by omega) HKD.out rfl rfl)
end Go.Proofs.YtamodeglpkgiaaaDoor
