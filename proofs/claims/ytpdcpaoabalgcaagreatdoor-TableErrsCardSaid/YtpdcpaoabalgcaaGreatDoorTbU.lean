/- Contract of a table's Out (no statement of its own). -/
import Derived.Test.YtpdcpaoabalgcaaGreatDoorTbV
namespace Go.Proofs.YtpdcpaoabalgcaaGreatDoor
open Go.RowKit Go.Shelf
set_option linter.unusedVariables false
attribute [local go_sem] Oper.semAt_some
open Dm (Mem mem setV setO Tab)
set_option maxRecDepth 100000 in
set_option maxHeartbeats 8000000 in
theorem out_ok (g h p kk B P : Nat) (l : List Nat) (k pos : Int) (z : Nat → Int) (w : World) (H : TabAt w g h l k z) (hT : Tab w) (h6 : l.length ≤ 6) (hl : ∀ n ∈ l, 1 ≤ n ∧ n ≤ 32) (hP : prodL l ≤ 4096)
    (hp : p < l.length) (hpos : pos = p) (hkk : nth l p = kk) (hB : B < 2 ^ kk) (hk1 : 1 ≤ k) (hk2 : k ≤ 2147483648) (hPe : prodL (l.eraseIdx p) = P) :
    Calls Tryz.prog 22 #[.pointer (some ⟨g, 0, none⟩), .int .i64 pos, setV kk B] w fun e w' => ∃ g' h' gb, e = .returned (.tuple #[.pointer (some ⟨g', 0, none⟩), .slice (some ⟨gb, 0, none⟩) P P, .int .i64 0]) ∧
      TabAt w' g' h' (l.eraseIdx p) k (fun i => (outL l z k p (mem kk B) i).1) ∧ Zs w' (some ⟨gb, 0, none⟩) P (fun i => (outL l z k p (mem kk B) i).2) ∧ w.heap.size ≤ g' ∧ w.heap.size ≤ h' ∧ w.heap.size ≤ gb ∧ Below w.heap.size w w' := by
  subst hpos
  have HT := Lib.hid H
  have HTab := Lib.hid hT
  have HL := Lib.hid hl
  have HP := Lib.hid hP
  have HKK := Lib.hid hkk
  have HPE := Lib.hid hPe
  have hk32 := (hl _ (nth_mem hp)).2
  have hk01 := (hl _ (nth_mem hp)).1
  rw [hkk] at hk32 hk01
  clear H hT hl hP hkk hPe
  refine (callsIn_wide (n := 3)).1 (callsIn_of_wp_marks Tryz.func22 rfl trivial ?_ rfl)
  simp only [Tryz.ntmps22, List.size_toArray, List.length_cons, List.length_nil, Nat.reduceAdd, Nat.reduceSub, Array.replicate_succ, Array.replicate_zero, List.push_toArray, List.append_toArray, List.nil_append, List.cons_append]
  refine wpIn_wide.2 ?_
  go_upto_region 1 with fail
  obtain ⟨k0, k1, k2, bel3, hz3⟩ := boxes3 w (.cells #[.pointer (some ⟨g, 0, none⟩)] 26) (.cells #[.int .i64 (p : Int)] 3) (setO kk B)
  have T3 := Lib.hid (HT.out.below bel3)
  have HO := Lib.hid (HoldO.of T3.out k0 k1 k2)
  have B3 := Lib.hid bel3
  clear k0 k1 k2 bel3
  generalize ((w.alloc (.cells #[.pointer (some ⟨g, 0, none⟩)] 26)).alloc (.cells #[.int .i64 (p : Int)] 3)).alloc (setO kk B) = w3 at HO T3 B3 hz3 ⊢
  have hg3 : g < w3.heap.size := World.block_lt_of_cell? w3 _ HO.out.2.2.2.2.1
  have b0 := HO.out.1
  go_upto_region 3 with fail
  clear b0
  go_region_held3 (fun W => HoldO w3 w.heap.size g p kk B l k W) (first | exact holdO HO.out ((Below.refl _ _).drew) | exact holdO (by assumption) (by assumption))
    ((first | (go_at_call 57; refine (size_yes l p _ h6 hp).mono ?_; rintro e w4 ⟨rfl, hb⟩) | fail))
  rw [HKK.out]
  have HV : Hid (HoldO w3 w.heap.size g p kk B l k w4) := Lib.hid (by assumption)
  have d1 : ((kk : Int) == 0) = false := by rw [beq_eq_false_iff_ne]; omega
  have d2 : ((kk : Int) != (kk : Int)) = false := by simp
  obtain ⟨-, -, s0, s1, -⟩ := HV.out
  go_upto_region 6 with (go_at_call 58; refine (Dm.size_any kk B _).mono ?_; rintro e w5 ⟨rfl, hb5⟩; have H5 := Lib.hid (holdO HV.out hb5); clear hb5)
  have hPl : prodL (l.eraseIdx p) ≤ 4096 := by
    have h1 := prodL_erase hp
    have h2 := HP.out
    have h3 := nth_pos (fun n hn => (HL.out n hn).1) hp
    have h4 : 1 * prodL (l.eraseIdx p) ≤ nth l p * prodL (l.eraseIdx p) := Nat.mul_le_mul_right _ h3
    omega
  have e1 : IntKind.i64.wrap ((p : Int) + 1) = (p : Int) + 1 := IntWalk.i64_in _ (by omega)
  clear d1 d2 s0 s1
  go_cut [10, 11] from 33 to 53 (fun v10 v11 wx => v11 = .int .i64 0 ∧ ∃ ba g' h', v10 = .pointer (some ⟨ba, 0, none⟩) ∧ Boxed wx ba 26 (.pointer (some ⟨g', 0, none⟩)) ∧ TabAt wx g' h' (l.eraseIdx p) k (fun _ => k) ∧ w3.heap.size ≤ ba ∧ w3.heap.size ≤ g' ∧ w3.heap.size ≤ h' ∧ Below w3.heap.size w3 wx)
  case first =>
    refine wp_region_noPanic ?_
    refine wp_region_held_drew (S := fun W => HoldO w3 w.heap.size g p kk B l k W) (by kernel_rfl) (holdO H5.out ((Below.refl _ _).drew)) (fun hHeld => ?_)
    generalize w5.drew = w6 at hHeld ⊢
    refine wpAnyH_take (i := 0) (v := ?v1) rfl (by kernel_rfl) (by kernel_rfl) (by kernel_rfl) (fun _ _ _ h => h) (Or.inl ⟨by rfl, ?y1⟩) (by assumption) ?r1
    case y1 => ((intro w hSw; (try dsimp only at hSw); go_simp); try with_reducible rfl)
    try simp only [Act.put, List.getElem_toArray, List.getElem_cons_zero, List.setIfInBounds_toArray, List.set_cons_zero, List.set_cons_succ]
    refine wpAnyH_take (i := 1) (v := ?v2) rfl (by kernel_rfl) (by kernel_rfl) (by kernel_rfl) (fun _ _ _ h => h) (Or.inl ⟨by rfl, ?y2⟩) (by assumption) ?r2
    case y2 => ((intro w hSw; (try dsimp only at hSw); go_simp); try with_reducible rfl)
    try simp only [Act.put, List.getElem_toArray, List.getElem_cons_succ, List.getElem_cons_zero, List.setIfInBounds_toArray, List.set_cons_zero, List.set_cons_succ]
    refine wpAnyH_take (i := 2) (v := ?v3) rfl (by kernel_rfl) (by kernel_rfl) (by kernel_rfl) (fun _ _ _ h => h) (Or.inl ⟨by rfl, ?y3⟩) (by assumption) ?r3
    case y3 => ((intro w hSw; (try dsimp only at hSw); go_simp); try with_reducible rfl)
    try simp only [Act.put, List.getElem_toArray, List.getElem_cons_succ, List.getElem_cons_zero, List.setIfInBounds_toArray, List.set_cons_zero, List.set_cons_succ]
    refine wpAnyH_take (i := 3) (v := ?v4) rfl (by kernel_rfl) (by kernel_rfl) (by kernel_rfl) (fun _ _ _ h => h) (Or.inl ⟨by rfl, ?y4⟩) (by assumption) ?r4
    case y4 => ((intro w hSw; (try dsimp only at hSw); go_simp); try with_reducible rfl)
    try simp only [Act.put, List.getElem_toArray, List.getElem_cons_succ, List.getElem_cons_zero, List.setIfInBounds_toArray, List.set_cons_zero, List.set_cons_succ]
    refine wpAnyH_take (i := 5) (v := ?v5) rfl (by kernel_rfl) (by kernel_rfl) (by kernel_rfl) (fun _ _ _ h => h) (Or.inl ⟨by rfl, ?y5⟩) (by assumption) ?r5
    case y5 => ((intro w hSw; (try dsimp only at hSw); go_simp); try with_reducible rfl)
    try simp only [Act.put, List.getElem_toArray, List.getElem_cons_succ, List.getElem_cons_zero, List.setIfInBounds_toArray, List.set_cons_zero, List.set_cons_succ]
    refine wpAnyH_take (i := 6) (v := ?v6) rfl (by kernel_rfl) (by kernel_rfl) (by kernel_rfl) (fun _ _ _ h => h) (Or.inl ⟨by rfl, ?y6⟩) (by assumption) ?r6
    case y6 => ((intro w hSw; (try dsimp only at hSw); go_simp); try with_reducible rfl)
    try simp only [Act.put, List.getElem_toArray, List.getElem_cons_succ, List.getElem_cons_zero, List.setIfInBounds_toArray, List.set_cons_zero, List.set_cons_succ]
    refine wpAnyH_take (i := 7) (v := ?v7) rfl (by kernel_rfl) (by kernel_rfl) (by kernel_rfl) (fun _ _ _ h => h) (Or.inl ⟨by rfl, ?y7⟩) (by assumption) ?r7
    case y7 => ((intro w hSw; (try dsimp only at hSw); go_simp); try with_reducible rfl)
    try simp only [Act.put, List.getElem_toArray, List.getElem_cons_succ, List.getElem_cons_zero, List.setIfInBounds_toArray, List.set_cons_zero, List.set_cons_succ]
    refine wpAnyH_take (i := 9) (v := ?v8) rfl (by kernel_rfl) (by kernel_rfl) (by kernel_rfl) (fun _ _ _ h => h) (Or.inl ⟨by rfl, ?y8⟩) (by assumption) ?r8
    case y8 => ((intro w hSw; (try dsimp only at hSw); go_simp); try with_reducible rfl)
    try simp only [Act.put, List.getElem_toArray, List.getElem_cons_succ, List.getElem_cons_zero, List.setIfInBounds_toArray, List.set_cons_zero, List.set_cons_succ]
    refine wpAnyH_take (i := 10) (v := ?v9) rfl (by kernel_rfl) (by kernel_rfl) (by kernel_rfl) (fun _ _ _ h => h) (Or.inl ⟨by rfl, ?y9⟩) (by assumption) ?r9
    case y9 => ((intro w hSw; (try dsimp only at hSw); go_simp); try with_reducible rfl)
    try simp only [Act.put, List.getElem_toArray, List.getElem_cons_succ, List.getElem_cons_zero, List.setIfInBounds_toArray, List.set_cons_zero, List.set_cons_succ]
    refine wpAnyH_take (i := 11) (v := ?v10) rfl (by kernel_rfl) (by kernel_rfl) (by kernel_rfl) (fun _ _ _ h => h) (Or.inl ⟨by rfl, ?y10⟩) (by assumption) ?r10
    case y10 => ((intro w hSw; (try dsimp only at hSw); go_simp); try with_reducible rfl)
    try simp only [Act.put, List.getElem_toArray, List.getElem_cons_succ, List.getElem_cons_zero, List.setIfInBounds_toArray, List.set_cons_zero, List.set_cons_succ]
    refine wpAnyH_take (i := 12) (v := ?v11) rfl (by kernel_rfl) (by kernel_rfl) (by kernel_rfl) (fun _ _ _ h => h) (Or.inl ⟨by rfl, ?y11⟩) (by assumption) ?r11
    case y11 => ((intro w hSw; (try dsimp only at hSw); go_simp); try with_reducible rfl)
    try simp only [Act.put, List.getElem_toArray, List.getElem_cons_succ, List.getElem_cons_zero, List.setIfInBounds_toArray, List.set_cons_zero, List.set_cons_succ]
    refine wpAnyH_take (i := 13) (v := ?v12) rfl (by kernel_rfl) (by kernel_rfl) (by kernel_rfl) (fun _ _ _ h => h) (Or.inl ⟨by rfl, ?y12⟩) (by assumption) ?r12
    case y12 => ((intro w hSw; (try dsimp only at hSw); go_simp); try with_reducible rfl)
    try simp only [Act.put, List.getElem_toArray, List.getElem_cons_succ, List.getElem_cons_zero, List.setIfInBounds_toArray, List.set_cons_zero, List.set_cons_succ]
    refine wpAnyH_take (i := 14) (v := ?v13) rfl (by kernel_rfl) (by kernel_rfl) (by kernel_rfl) (fun _ _ _ h => h) (Or.inl ⟨by rfl, ?y13⟩) (by assumption) ?r13
    case y13 => ((intro w hSw; (try dsimp only at hSw); go_simp); try with_reducible rfl)
    try simp only [Act.put, List.getElem_toArray, List.getElem_cons_succ, List.getElem_cons_zero, List.setIfInBounds_toArray, List.set_cons_zero, List.set_cons_succ]
    refine wpAnyH_take (i := 15) (v := ?v14) rfl (by kernel_rfl) (by kernel_rfl) (by kernel_rfl) (fun _ _ _ h => h) (Or.inl ⟨by rfl, ?y14⟩) (by assumption) ?r14
    case y14 => ((intro w hSw; (try dsimp only at hSw); go_simp); try with_reducible rfl)
    try simp only [Act.put, List.getElem_toArray, List.getElem_cons_succ, List.getElem_cons_zero, List.setIfInBounds_toArray, List.set_cons_zero, List.set_cons_succ]
    refine wpAnyH_take (i := 16) (v := ?v15) rfl (by kernel_rfl) (by kernel_rfl) (by kernel_rfl) (fun _ _ _ h => h) (Or.inl ⟨by rfl, ?y15⟩) (by assumption) ?r15
    case y15 => ((intro w hSw; (try dsimp only at hSw); go_simp); try with_reducible rfl)
    try simp only [Act.put, List.getElem_toArray, List.getElem_cons_succ, List.getElem_cons_zero, List.setIfInBounds_toArray, List.set_cons_zero, List.set_cons_succ]
    refine wpAnyH_ready (rs := [4, 21]) (by kernel_rfl) (by simp) ?_
    refine AllReadyH.cons rfl (fun K hK => ?_) ?_
    · go_simp
      refine (sizes_any l _ h6).mono ?_
      rintro e wS ⟨⟨v, rfl, hO⟩, hb⟩
      have hlt := hO.lt
      obtain ⟨AS, cS, rfl, -⟩ := hO.form
      have LS : Hid (∀ a : Addr, AS = some a → a.block < wS.heap.size) := Lib.hid fun a ha => by subst ha; exact (hlt a.block rfl).2
      have OW := Lib.hid (hO.less (base' := w3.heap.size) hHeld.below.size)
      have HB := Lib.hid hb
      clear hO hlt hb
      refine hK.out _ _ (holdO hHeld HB.out) (fun hHeld' => ?_)
      clear hHeld
      have hHeld := hHeld'
      clear hHeld'
      clear hK K
      try simp only [Act.put, List.getElem_toArray, List.getElem_cons_succ, List.getElem_cons_zero, List.setIfInBounds_toArray, List.set_cons_zero, List.set_cons_succ]
      refine wpAnyH_ready (rs := [8, 21]) (by kernel_rfl) (by simp) ?_
      refine AllReadyH.cons rfl (fun K hK => ?_) ?_
      · go_simp
        refine (delete_any AS l.length cS p w3.heap.size l _ _ _ rfl OW.out hHeld.below.size hp rfl rfl).mono ?_
        rintro e wD ⟨rfl, hI, hb, hr⟩
        have IN := Lib.hid hI
        have HB := Lib.hid hb
        clear hI hb hr
        refine hK.out _ _ (holdO_base hHeld (by omega) hg3 HB.out) (fun hHeld' => ?_)
        clear hHeld
        have hHeld := hHeld'
        clear hHeld'
        clear hK K
        try simp only [Act.put, List.getElem_toArray, List.getElem_cons_succ, List.getElem_cons_zero, List.setIfInBounds_toArray, List.set_cons_zero, List.set_cons_succ]
        refine wpAnyH_ready (rs := [17, 21]) (by kernel_rfl) (by simp) ?_
        refine AllReadyH.cons rfl (fun K hK => ?_) ?_
        · go_simp
          refine (tnew_ok AS (l.length - 1) cS (l.eraseIdx p) k k _ (by have := erase_len hp; omega) (by have := erase_len hp; omega) IN.out (erase_le (q := fun n => 1 ≤ n ∧ n ≤ 32) HL.out p) hPl hk1 hk2 (by omega) (Int.le_refl _)).mono ?_
          rintro e wN ⟨g', h', rfl, hTab, hg', hh', hb⟩
          have TA := Lib.hid hTab
          have G1 : w3.heap.size ≤ g' := Nat.le_trans hHeld.below.size hg'
          have G2 : w3.heap.size ≤ h' := Nat.le_trans hHeld.below.size hh'
          have HB := Lib.hid hb
          clear hTab hb hg' hh'
          refine hK.out _ _ (holdO hHeld HB.out) (fun hHeld' => ?_)
          clear hHeld
          have hHeld := hHeld'
          clear hHeld'
          clear hK K
          try simp only [Act.put, List.getElem_toArray, List.getElem_cons_succ, List.getElem_cons_zero, List.setIfInBounds_toArray, List.set_cons_zero, List.set_cons_succ]
          refine wpAnyH_take (i := 18) (v := ?v16) rfl (by kernel_rfl) (by kernel_rfl) (by kernel_rfl) (fun _ _ _ h => h) (Or.inl ⟨by rfl, ?y16⟩) (by assumption) ?r16
          case y16 => ((intro w hSw; (try dsimp only at hSw); go_simp); try with_reducible rfl)
          try simp only [Act.put, List.getElem_toArray, List.getElem_cons_succ, List.getElem_cons_zero, List.setIfInBounds_toArray, List.set_cons_zero, List.set_cons_succ]
          refine wpAnyH_take (i := 19) (v := ?v17) rfl (by kernel_rfl) (by kernel_rfl) (by kernel_rfl) (fun _ _ _ h => h) (Or.inl ⟨by rfl, ?y17⟩) (by assumption) ?r17
          case y17 => ((intro w hSw; (try dsimp only at hSw); go_simp); try with_reducible rfl)
          try simp only [Act.put, List.getElem_toArray, List.getElem_cons_succ, List.getElem_cons_zero, List.setIfInBounds_toArray, List.set_cons_zero, List.set_cons_succ]
          refine wpAnyH_take (i := 20) (v := ?v18) rfl (by kernel_rfl) (by kernel_rfl) (by kernel_rfl) (fun _ _ _ h => h) (Or.inl ⟨by rfl, ?y18⟩) (by assumption) ?r18
          case y18 => ((intro w hSw; (try dsimp only at hSw); go_simp); try with_reducible rfl)
          try simp only [Act.put, List.getElem_toArray, List.getElem_cons_succ, List.getElem_cons_zero, List.setIfInBounds_toArray, List.set_cons_zero, List.set_cons_succ]
          refine wpAnyH_ready (rs := [21]) (by kernel_rfl) (by simp) ?_
          refine AllReadyH.cons rfl (fun K hK => ?_) ?_
          · go_simp
            obtain ⟨ba, hba⟩ : ∃ b, wN.heap.size = b := ⟨_, rfl⟩
            have na := new_val wN (.cells #[.pointer none] 26)
            have AL := Lib.hid (Boxed.new wN 26 (.pointer none))
            have LB := hHeld.below.size
            have TA := Lib.hid (TA.out.below na)
            have HB := Lib.hid na
            clear na
            refine hK.out _ _ (holdO hHeld HB.out) (fun hHeld' => ?_)
            clear hHeld
            have hHeld := hHeld'
            clear hHeld'
            rw [hba] at AL LB
            try rw [hba]
            generalize wN.alloc (.cells #[.pointer none] 26) = wA at AL hHeld TA ⊢
            clear hK K
            try simp only [Act.put, List.getElem_toArray, List.getElem_cons_succ, List.getElem_cons_zero, List.setIfInBounds_toArray, List.set_cons_zero, List.set_cons_succ]
            refine wpAnyH_ready (rs := [22]) (by kernel_rfl) (by simp) ?_
            refine AllReadyH.cons rfl (fun K hK => ?_) ?_
            · have ac := AL.out.cell
              have af := AL.out.frozen
              go_simp
              clear ac af
              have HB := Lib.hid ((Below.refl w3.heap.size wA).setCell (p := ⟨ba, 0, none⟩) LB (.pointer (some ⟨g', 0, none⟩)))
              have AF := Lib.hid (Boxed.set (.pointer (some ⟨g', 0, none⟩)) AL.out)
              have TF := Lib.hid (tab_other TA.out AL.out (.pointer (some ⟨g', 0, none⟩)))
              refine hK.out _ _ (holdO_base hHeld (by omega) hg3 HB.out) (fun hHeld' => ?_)
              clear hHeld
              have hHeld := hHeld'
              clear hHeld'
              clear hK K
              try simp only [Act.put, List.getElem_toArray, List.getElem_cons_succ, List.getElem_cons_zero, List.setIfInBounds_toArray, List.set_cons_zero, List.set_cons_succ]
              refine wpAnyH_take (i := 23) (v := ?v19) rfl (by kernel_rfl) (by kernel_rfl) (by kernel_rfl) (fun _ _ _ h => h) (Or.inl ⟨by rfl, ?y19⟩) (by assumption) ?r19
              case y19 => ((intro w hSw; (try dsimp only at hSw); go_simp); try with_reducible rfl)
              try simp only [Act.put, List.getElem_toArray, List.getElem_cons_succ, List.getElem_cons_zero, List.setIfInBounds_toArray, List.set_cons_zero, List.set_cons_succ]
              refine wpAnyH_done (by kernel_rfl) ?_ _
              refine NoPanic.normal ?_
              go_wp2_with fail
              go_meet
              exact ⟨rfl, ba, g', h', rfl, AF.out, TF.out, LB, G1, G2, hHeld.below⟩
            exact AllReadyH.nil
          exact AllReadyH.nil
        refine AllReadyH.cons rfl (fun K hK => ?_) ?_
        · go_simp
          obtain ⟨ba, hba⟩ : ∃ b, wD.heap.size = b := ⟨_, rfl⟩
          have na := new_val wD (.cells #[.pointer none] 26)
          have AL := Lib.hid (Boxed.new wD 26 (.pointer none))
          have LB := hHeld.below.size
          have IN := Lib.hid (IN.out.below na (Nat.le_refl _))
          have HB := Lib.hid na
          clear na
          refine hK.out _ _ (holdO hHeld HB.out) (fun hHeld' => ?_)
          clear hHeld
          have hHeld := hHeld'
          clear hHeld'
          rw [hba] at AL LB
          try rw [hba]
          generalize wD.alloc (.cells #[.pointer none] 26) = wA at AL hHeld IN ⊢
          clear hK K
          try simp only [Act.put, List.getElem_toArray, List.getElem_cons_succ, List.getElem_cons_zero, List.setIfInBounds_toArray, List.set_cons_zero, List.set_cons_succ]
          refine wpAnyH_ready (rs := [17]) (by kernel_rfl) (by simp) ?_
          refine AllReadyH.cons rfl (fun K hK => ?_) ?_
          · go_simp
            refine (tnew_ok AS (l.length - 1) cS (l.eraseIdx p) k k _ (by have := erase_len hp; omega) (by have := erase_len hp; omega) IN.out (erase_le (q := fun n => 1 ≤ n ∧ n ≤ 32) HL.out p) hPl hk1 hk2 (by omega) (Int.le_refl _)).mono ?_
            rintro e wN ⟨g', h', rfl, hTab, hg', hh', hb⟩
            have AL : Hid (Boxed _ ba _ _) := Lib.hid ((hb.block _ AL.out.lt).trans AL.out)
            have TA := Lib.hid hTab
            have G1 : w3.heap.size ≤ g' := Nat.le_trans hHeld.below.size hg'
            have G2 : w3.heap.size ≤ h' := Nat.le_trans hHeld.below.size hh'
            have HB := Lib.hid hb
            clear hTab hb hg' hh'
            refine hK.out _ _ (holdO hHeld HB.out) (fun hHeld' => ?_)
            clear hHeld
            have hHeld := hHeld'
            clear hHeld'
            clear hK K
            try simp only [Act.put, List.getElem_toArray, List.getElem_cons_succ, List.getElem_cons_zero, List.setIfInBounds_toArray, List.set_cons_zero, List.set_cons_succ]
            refine wpAnyH_take (i := 18) (v := ?v20) rfl (by kernel_rfl) (by kernel_rfl) (by kernel_rfl) (fun _ _ _ h => h) (Or.inl ⟨by rfl, ?y20⟩) (by assumption) ?r20
            case y20 => ((intro w hSw; (try dsimp only at hSw); go_simp); try with_reducible rfl)
            try simp only [Act.put, List.getElem_toArray, List.getElem_cons_succ, List.getElem_cons_zero, List.setIfInBounds_toArray, List.set_cons_zero, List.set_cons_succ]
            refine wpAnyH_take (i := 19) (v := ?v21) rfl (by kernel_rfl) (by kernel_rfl) (by kernel_rfl) (fun _ _ _ h => h) (Or.inl ⟨by rfl, ?y21⟩) (by assumption) ?r21
            case y21 => ((intro w hSw; (try dsimp only at hSw); go_simp); try with_reducible rfl)
            try simp only [Act.put, List.getElem_toArray, List.getElem_cons_succ, List.getElem_cons_zero, List.setIfInBounds_toArray, List.set_cons_zero, List.set_cons_succ]
            refine wpAnyH_take (i := 20) (v := ?v22) rfl (by kernel_rfl) (by kernel_rfl) (by kernel_rfl) (fun _ _ _ h => h) (Or.inl ⟨by rfl, ?y22⟩) (by assumption) ?r22
            case y22 => ((intro w hSw; (try dsimp only at hSw); go_simp); try with_reducible rfl)
            try simp only [Act.put, List.getElem_toArray, List.getElem_cons_succ, List.getElem_cons_zero, List.setIfInBounds_toArray, List.set_cons_zero, List.set_cons_succ]
            refine wpAnyH_ready (rs := [22]) (by kernel_rfl) (by simp) ?_
            refine AllReadyH.cons rfl (fun K hK => ?_) ?_
            · have ac := AL.out.cell
              have af := AL.out.frozen
              go_simp
              clear ac af
              have HB := Lib.hid ((Below.refl w3.heap.size wN).setCell (p := ⟨ba, 0, none⟩) LB (.pointer (some ⟨g', 0, none⟩)))
              have AF := Lib.hid (Boxed.set (.pointer (some ⟨g', 0, none⟩)) AL.out)
              have TF := Lib.hid (tab_other TA.out AL.out (.pointer (some ⟨g', 0, none⟩)))
              refine hK.out _ _ (holdO_base hHeld (by omega) hg3 HB.out) (fun hHeld' => ?_)
              clear hHeld
              have hHeld := hHeld'
              clear hHeld'
              clear hK K
              try simp only [Act.put, List.getElem_toArray, List.getElem_cons_succ, List.getElem_cons_zero, List.setIfInBounds_toArray, List.set_cons_zero, List.set_cons_succ]
              refine wpAnyH_take (i := 23) (v := ?v23) rfl (by kernel_rfl) (by kernel_rfl) (by kernel_rfl) (fun _ _ _ h => h) (Or.inl ⟨by rfl, ?y23⟩) (by assumption) ?r23
              case y23 => ((intro w hSw; (try dsimp only at hSw); go_simp); try with_reducible rfl)
              try simp only [Act.put, List.getElem_toArray, List.getElem_cons_succ, List.getElem_cons_zero, List.setIfInBounds_toArray, List.set_cons_zero, List.set_cons_succ]
              refine wpAnyH_done (by kernel_rfl) ?_ _
              refine NoPanic.normal ?_
              go_wp2_with fail
              go_meet
              exact ⟨rfl, ba, g', h', rfl, AF.out, TF.out, LB, G1, G2, hHeld.below⟩
            exact AllReadyH.nil
          exact AllReadyH.nil
        exact AllReadyH.nil
      refine AllReadyH.cons rfl (fun K hK => ?_) ?_
      · go_simp
        obtain ⟨ba, hba⟩ : ∃ b, wS.heap.size = b := ⟨_, rfl⟩
        have na := new_val wS (.cells #[.pointer none] 26)
        have AL := Lib.hid (Boxed.new wS 26 (.pointer none))
        have LB := hHeld.below.size
        have OW := Lib.hid (OW.out.below na (Nat.le_refl _))
        have NE : Hid (∀ a : Addr, AS = some a → a.block ≠ ba) := Lib.hid fun a ha => by have := LS.out a ha; omega
        have HB := Lib.hid na
        clear na
        refine hK.out _ _ (holdO hHeld HB.out) (fun hHeld' => ?_)
        clear hHeld
        have hHeld := hHeld'
        clear hHeld'
        rw [hba] at AL LB
        try rw [hba]
        generalize wS.alloc (.cells #[.pointer none] 26) = wA at AL hHeld OW ⊢
        clear hK K
        try simp only [Act.put, List.getElem_toArray, List.getElem_cons_succ, List.getElem_cons_zero, List.setIfInBounds_toArray, List.set_cons_zero, List.set_cons_succ]
        refine wpAnyH_ready (rs := [8]) (by kernel_rfl) (by simp) ?_
        refine AllReadyH.cons rfl (fun K hK => ?_) ?_
        · go_simp
          refine (delete_any AS l.length cS p w3.heap.size l _ _ _ rfl OW.out hHeld.below.size hp rfl rfl).mono ?_
          rintro e wD ⟨rfl, hI, hb, hr⟩
          have AL : Hid (Boxed _ ba _ _) := Lib.hid ((hr ba NE.out).trans AL.out)
          have IN := Lib.hid hI
          have HB := Lib.hid hb
          clear hI hb hr
          refine hK.out _ _ (holdO_base hHeld (by omega) hg3 HB.out) (fun hHeld' => ?_)
          clear hHeld
          have hHeld := hHeld'
          clear hHeld'
          clear hK K
          try simp only [Act.put, List.getElem_toArray, List.getElem_cons_succ, List.getElem_cons_zero, List.setIfInBounds_toArray, List.set_cons_zero, List.set_cons_succ]
          refine wpAnyH_ready (rs := [17]) (by kernel_rfl) (by simp) ?_
          refine AllReadyH.cons rfl (fun K hK => ?_) ?_
          · go_simp
            refine (tnew_ok AS (l.length - 1) cS (l.eraseIdx p) k k _ (by have := erase_len hp; omega) (by have := erase_len hp; omega) IN.out (erase_le (q := fun n => 1 ≤ n ∧ n ≤ 32) HL.out p) hPl hk1 hk2 (by omega) (Int.le_refl _)).mono ?_
            rintro e wN ⟨g', h', rfl, hTab, hg', hh', hb⟩
            have AL : Hid (Boxed _ ba _ _) := Lib.hid ((hb.block _ AL.out.lt).trans AL.out)
            have TA := Lib.hid hTab
            have G1 : w3.heap.size ≤ g' := Nat.le_trans hHeld.below.size hg'
            have G2 : w3.heap.size ≤ h' := Nat.le_trans hHeld.below.size hh'
            have HB := Lib.hid hb
            clear hTab hb hg' hh'
            refine hK.out _ _ (holdO hHeld HB.out) (fun hHeld' => ?_)
            clear hHeld
            have hHeld := hHeld'
            clear hHeld'
            clear hK K
            try simp only [Act.put, List.getElem_toArray, List.getElem_cons_succ, List.getElem_cons_zero, List.setIfInBounds_toArray, List.set_cons_zero, List.set_cons_succ]
            refine wpAnyH_take (i := 18) (v := ?v24) rfl (by kernel_rfl) (by kernel_rfl) (by kernel_rfl) (fun _ _ _ h => h) (Or.inl ⟨by rfl, ?y24⟩) (by assumption) ?r24
            case y24 => ((intro w hSw; (try dsimp only at hSw); go_simp); try with_reducible rfl)
            try simp only [Act.put, List.getElem_toArray, List.getElem_cons_succ, List.getElem_cons_zero, List.setIfInBounds_toArray, List.set_cons_zero, List.set_cons_succ]
            refine wpAnyH_take (i := 19) (v := ?v25) rfl (by kernel_rfl) (by kernel_rfl) (by kernel_rfl) (fun _ _ _ h => h) (Or.inl ⟨by rfl, ?y25⟩) (by assumption) ?r25
            case y25 => ((intro w hSw; (try dsimp only at hSw); go_simp); try with_reducible rfl)
            try simp only [Act.put, List.getElem_toArray, List.getElem_cons_succ, List.getElem_cons_zero, List.setIfInBounds_toArray, List.set_cons_zero, List.set_cons_succ]
            refine wpAnyH_take (i := 20) (v := ?v26) rfl (by kernel_rfl) (by kernel_rfl) (by kernel_rfl) (fun _ _ _ h => h) (Or.inl ⟨by rfl, ?y26⟩) (by assumption) ?r26
            case y26 => ((intro w hSw; (try dsimp only at hSw); go_simp); try with_reducible rfl)
            try simp only [Act.put, List.getElem_toArray, List.getElem_cons_succ, List.getElem_cons_zero, List.setIfInBounds_toArray, List.set_cons_zero, List.set_cons_succ]
            refine wpAnyH_ready (rs := [22]) (by kernel_rfl) (by simp) ?_
            refine AllReadyH.cons rfl (fun K hK => ?_) ?_
            · have ac := AL.out.cell
              have af := AL.out.frozen
              go_simp
              clear ac af
              have HB := Lib.hid ((Below.refl w3.heap.size wN).setCell (p := ⟨ba, 0, none⟩) LB (.pointer (some ⟨g', 0, none⟩)))
              have AF := Lib.hid (Boxed.set (.pointer (some ⟨g', 0, none⟩)) AL.out)
              have TF := Lib.hid (tab_other TA.out AL.out (.pointer (some ⟨g', 0, none⟩)))
              refine hK.out _ _ (holdO_base hHeld (by omega) hg3 HB.out) (fun hHeld' => ?_)
              clear hHeld
              have hHeld := hHeld'
              clear hHeld'
              clear hK K
              try simp only [Act.put, List.getElem_toArray, List.getElem_cons_succ, List.getElem_cons_zero, List.setIfInBounds_toArray, List.set_cons_zero, List.set_cons_succ]
              refine wpAnyH_take (i := 23) (v := ?v27) rfl (by kernel_rfl) (by kernel_rfl) (by kernel_rfl) (fun _ _ _ h => h) (Or.inl ⟨by rfl, ?y27⟩) (by assumption) ?r27
              case y27 => ((intro w hSw; (try dsimp only at hSw); go_simp); try with_reducible rfl)
              try simp only [Act.put, List.getElem_toArray, List.getElem_cons_succ, List.getElem_cons_zero, List.setIfInBounds_toArray, List.set_cons_zero, List.set_cons_succ]
              refine wpAnyH_done (by kernel_rfl) ?_ _
              refine NoPanic.normal ?_
              go_wp2_with fail
              go_meet
              exact ⟨rfl, ba, g', h', rfl, AF.out, TF.out, LB, G1, G2, hHeld.below⟩
            exact AllReadyH.nil
          exact AllReadyH.nil
        exact AllReadyH.nil
      exact AllReadyH.nil
    refine AllReadyH.cons rfl (fun K hK => ?_) ?_
    · go_simp
      obtain ⟨ba, hba⟩ : ∃ b, w6.heap.size = b := ⟨_, rfl⟩
      have na := new_val w6 (.cells #[.pointer none] 26)
      have AL := Lib.hid (Boxed.new w6 26 (.pointer none))
      have LB := hHeld.below.size
      have HB := Lib.hid na
      clear na
      refine hK.out _ _ (holdO hHeld HB.out) (fun hHeld' => ?_)
      clear hHeld
      have hHeld := hHeld'
      clear hHeld'
      rw [hba] at AL LB
      try rw [hba]
      generalize w6.alloc (.cells #[.pointer none] 26) = wA at AL hHeld ⊢
      clear hK K
      try simp only [Act.put, List.getElem_toArray, List.getElem_cons_succ, List.getElem_cons_zero, List.setIfInBounds_toArray, List.set_cons_zero, List.set_cons_succ]
      refine wpAnyH_ready (rs := [4]) (by kernel_rfl) (by simp) ?_
      refine AllReadyH.cons rfl (fun K hK => ?_) ?_
      · go_simp
        refine (sizes_any l _ h6).mono ?_
        rintro e wS ⟨⟨v, rfl, hO⟩, hb⟩
        have hlt := hO.lt
        obtain ⟨AS, cS, rfl, -⟩ := hO.form
        have NE : Hid (∀ a : Addr, AS = some a → a.block ≠ ba) := Lib.hid fun a ha => by subst ha; have := (hlt a.block rfl).1; have := AL.out.lt; omega
        have AL : Hid (Boxed _ ba _ _) := Lib.hid ((hb.block _ AL.out.lt).trans AL.out)
        have OW := Lib.hid (hO.less (base' := w3.heap.size) hHeld.below.size)
        have HB := Lib.hid hb
        clear hO hlt hb
        refine hK.out _ _ (holdO hHeld HB.out) (fun hHeld' => ?_)
        clear hHeld
        have hHeld := hHeld'
        clear hHeld'
        clear hK K
        try simp only [Act.put, List.getElem_toArray, List.getElem_cons_succ, List.getElem_cons_zero, List.setIfInBounds_toArray, List.set_cons_zero, List.set_cons_succ]
        refine wpAnyH_ready (rs := [8]) (by kernel_rfl) (by simp) ?_
        refine AllReadyH.cons rfl (fun K hK => ?_) ?_
        · go_simp
          refine (delete_any AS l.length cS p w3.heap.size l _ _ _ rfl OW.out hHeld.below.size hp rfl rfl).mono ?_
          rintro e wD ⟨rfl, hI, hb, hr⟩
          have AL : Hid (Boxed _ ba _ _) := Lib.hid ((hr ba NE.out).trans AL.out)
          have IN := Lib.hid hI
          have HB := Lib.hid hb
          clear hI hb hr
          refine hK.out _ _ (holdO_base hHeld (by omega) hg3 HB.out) (fun hHeld' => ?_)
          clear hHeld
          have hHeld := hHeld'
          clear hHeld'
          clear hK K
          try simp only [Act.put, List.getElem_toArray, List.getElem_cons_succ, List.getElem_cons_zero, List.setIfInBounds_toArray, List.set_cons_zero, List.set_cons_succ]
          refine wpAnyH_ready (rs := [17]) (by kernel_rfl) (by simp) ?_
          refine AllReadyH.cons rfl (fun K hK => ?_) ?_
          · go_simp
            refine (tnew_ok AS (l.length - 1) cS (l.eraseIdx p) k k _ (by have := erase_len hp; omega) (by have := erase_len hp; omega) IN.out (erase_le (q := fun n => 1 ≤ n ∧ n ≤ 32) HL.out p) hPl hk1 hk2 (by omega) (Int.le_refl _)).mono ?_
            rintro e wN ⟨g', h', rfl, hTab, hg', hh', hb⟩
            have AL : Hid (Boxed _ ba _ _) := Lib.hid ((hb.block _ AL.out.lt).trans AL.out)
            have TA := Lib.hid hTab
            have G1 : w3.heap.size ≤ g' := Nat.le_trans hHeld.below.size hg'
            have G2 : w3.heap.size ≤ h' := Nat.le_trans hHeld.below.size hh'
            have HB := Lib.hid hb
            clear hTab hb hg' hh'
            refine hK.out _ _ (holdO hHeld HB.out) (fun hHeld' => ?_)
            clear hHeld
            have hHeld := hHeld'
            clear hHeld'
            clear hK K
            try simp only [Act.put, List.getElem_toArray, List.getElem_cons_succ, List.getElem_cons_zero, List.setIfInBounds_toArray, List.set_cons_zero, List.set_cons_succ]
            refine wpAnyH_take (i := 18) (v := ?v28) rfl (by kernel_rfl) (by kernel_rfl) (by kernel_rfl) (fun _ _ _ h => h) (Or.inl ⟨by rfl, ?y28⟩) (by assumption) ?r28
            case y28 => ((intro w hSw; (try dsimp only at hSw); go_simp); try with_reducible rfl)
            try simp only [Act.put, List.getElem_toArray, List.getElem_cons_succ, List.getElem_cons_zero, List.setIfInBounds_toArray, List.set_cons_zero, List.set_cons_succ]
            refine wpAnyH_take (i := 19) (v := ?v29) rfl (by kernel_rfl) (by kernel_rfl) (by kernel_rfl) (fun _ _ _ h => h) (Or.inl ⟨by rfl, ?y29⟩) (by assumption) ?r29
            case y29 => ((intro w hSw; (try dsimp only at hSw); go_simp); try with_reducible rfl)
            try simp only [Act.put, List.getElem_toArray, List.getElem_cons_succ, List.getElem_cons_zero, List.setIfInBounds_toArray, List.set_cons_zero, List.set_cons_succ]
            refine wpAnyH_take (i := 20) (v := ?v30) rfl (by kernel_rfl) (by kernel_rfl) (by kernel_rfl) (fun _ _ _ h => h) (Or.inl ⟨by rfl, ?y30⟩) (by assumption) ?r30
            case y30 => ((intro w hSw; (try dsimp only at hSw); go_simp); try with_reducible rfl)
            try simp only [Act.put, List.getElem_toArray, List.getElem_cons_succ, List.getElem_cons_zero, List.setIfInBounds_toArray, List.set_cons_zero, List.set_cons_succ]
            refine wpAnyH_ready (rs := [22]) (by kernel_rfl) (by simp) ?_
            refine AllReadyH.cons rfl (fun K hK => ?_) ?_
            · have ac := AL.out.cell
              have af := AL.out.frozen
              go_simp
              clear ac af
              have HB := Lib.hid ((Below.refl w3.heap.size wN).setCell (p := ⟨ba, 0, none⟩) LB (.pointer (some ⟨g', 0, none⟩)))
              have AF := Lib.hid (Boxed.set (.pointer (some ⟨g', 0, none⟩)) AL.out)
              have TF := Lib.hid (tab_other TA.out AL.out (.pointer (some ⟨g', 0, none⟩)))
              refine hK.out _ _ (holdO_base hHeld (by omega) hg3 HB.out) (fun hHeld' => ?_)
              clear hHeld
              have hHeld := hHeld'
              clear hHeld'
              clear hK K
              try simp only [Act.put, List.getElem_toArray, List.getElem_cons_succ, List.getElem_cons_zero, List.setIfInBounds_toArray, List.set_cons_zero, List.set_cons_succ]
              refine wpAnyH_take (i := 23) (v := ?v31) rfl (by kernel_rfl) (by kernel_rfl) (by kernel_rfl) (fun _ _ _ h => h) (Or.inl ⟨by rfl, ?y31⟩) (by assumption) ?r31
              case y31 => ((intro w hSw; (try dsimp only at hSw); go_simp); try with_reducible rfl)
              try simp only [Act.put, List.getElem_toArray, List.getElem_cons_succ, List.getElem_cons_zero, List.setIfInBounds_toArray, List.set_cons_zero, List.set_cons_succ]
              refine wpAnyH_done (by kernel_rfl) ?_ _
              refine NoPanic.normal ?_
              go_wp2_with fail
              go_meet
              exact ⟨rfl, ba, g', h', rfl, AF.out, TF.out, LB, G1, G2, hHeld.below⟩
            exact AllReadyH.nil
          exact AllReadyH.nil
        exact AllReadyH.nil
      exact AllReadyH.nil
    exact AllReadyH.nil

  case rest =>
    obtain ⟨rfl, ba, g', h', rfl, hba, hta, LB, G1, G2, hbel⟩ := hcut
    have HC := Lib.hid (holdO_base HO.out (by omega) hg3 (hbel.mono (Nat.le_refl _)))
    have BA := Lib.hid hba
    have TA := Lib.hid hta
    have BC := Lib.hid hbel
    have n1 : ba ≠ h' := fun e => by
      subst e
      obtain ⟨cur, hc, _⟩ := hta.costs
      have := hc.symm.trans hba
      simp at this
    have n3 : g' ≠ h' := hta.apart
    have ac := hba.cell
    obtain ⟨c0, c1, c2, c3, c4, c5, c6, c7, c8⟩ := hta.cells
    have hP4 : P ≤ 4096 := by rw [← HPE.out]; exact hPl
    have hm : ∀ W, (Instr.makeSlice 27 (.int .i64 (P : Int)) (.int .i64 (P : Int))).run Tryz.prog W = .ok (.slice (some ⟨W.heap.size, 0, none⟩) P P) (W.alloc (.cells (madeCells #[.int .i64 0] P) 3)) :=
      fun W => run_make_row' 27 3 (.int .i64 0) 8 Tryz.underlying27 info_int rfl .i64 .i64 P (by omega) (by omega) W
    have hE6 : (l.eraseIdx p).length ≤ 6 := by have := erase_len hp; omega
    clear hba hta hbel
    go_upto_region 10 with (go_at_call 52; refine (count_exact (l.eraseIdx p) _ P hE6 (fun n hn => (erase_le (q := fun n => 1 ≤ n ∧ n ≤ 32) HL.out p n hn).2) HPE.out).mono ?_; rintro e wq ⟨rfl, rfl⟩)
    obtain ⟨z0, z1, z2, bz, hzz⟩ := boxes3 wc (shO (l.eraseIdx p)) (.cells (madeCells #[.int .i64 0] P) 3) (.cells #[.slice (some ⟨wc.heap.size + 1, 0, none⟩) P P] 27)
    have Z1 := Lib.hid z1
    have Z2 : Hid (Boxed _ _ _ _) := Lib.hid z2
    have BZ := Lib.hid bz
    have TZ := Lib.hid (TA.out.below bz)
    have AZ : Hid (Boxed _ _ _ _) := Lib.hid ((bz.block _ BA.out.lt).trans BA.out)
    have hba : ba < wc.heap.size := BA.out.lt
    have hg' : g' < wc.heap.size := World.block_lt_of_cell? wc _ c0
    clear z0 z1 z2 bz c0 c1 c2 c3 c4 c5 c6 c7 c8 ac hm
    generalize ((wc.alloc (shO (l.eraseIdx p))).alloc (.cells (madeCells #[.int .i64 0] P) 3)).alloc (.cells #[.slice (some ⟨wc.heap.size + 1, 0, none⟩) P P] 27) = wz at Z1 Z2 BZ TZ AZ hzz ⊢
    obtain ⟨c0, c1, c2, c3, c4, c5, c6, c7, c8⟩ := TZ.out.cells
    have ac := AZ.out.cell
    go_wp2_with (go_at_call 42; refine (all_call (l.eraseIdx p) wz).mono ?_; rintro e wq ⟨rfl, rfl⟩)
    have nb := new_val wz (shO (l.eraseIdx p))
    have hz0 : (wz.alloc (shO (l.eraseIdx p))).heap.size = wc.heap.size + 4 := by rw [World.size_alloc, hzz]
    have SB := Lib.hid (ShAt.new wz (l.eraseIdx p))
    have Z1' := Lib.hid ((nb.block _ (by omega)).trans Z1.out)
    have Z2' : Hid (Boxed _ _ _ _) := Lib.hid ((nb.block _ Z2.out.lt).trans Z2.out)
    have TZ' := Lib.hid (TZ.out.below nb)
    have AZ' : Hid (Boxed _ _ _ _) := Lib.hid ((nb.block _ AZ.out.lt).trans AZ.out)
    have BW := Lib.hid (BZ.out.trans (nb.mono (by omega)))
    clear c0 c1 c2 c3 c4 c5 c6 c7 c8 ac nb
    generalize wz.alloc (shO (l.eraseIdx p)) = W0 at SB Z1' Z2' TZ' AZ' BW hz0 ⊢
    rw [hzz] at SB
    have HW := Lib.hid (holdO HC.out BW.out)
    have c8 := TZ'.out.cells.2.2.2.2.2.2.2.2
    have hn3 := hz3
    have hw3 : w3.heap.size ≤ wc.heap.size := BC.out.size
    have B3W : Hid (Below w3.heap.size w3 W0) := Lib.hid HW.out.below
    rw [HPE.out] at c8
    have AC : Hid (W0.cell? ⟨g', 8, none⟩ = some (.slice (some ⟨h', 0, none⟩) P P)) := Lib.hid c8
    have hh' : h' < wc.heap.size := by obtain ⟨cur, hc, _⟩ := TA.out.costs; exact (Array.getElem?_eq_some_iff.1 hc).1
    have I0 : Hid (OutI W0 h' (wc.heap.size + 1) P (fun i => (outL l z k p (mem kk B) i).1) (fun i => (outL l z k p (mem kk B) i).2) k 0 W0) := by
      obtain ⟨cur, hc, hcs, hcz⟩ := TZ'.out.costs
      rw [HPE.out] at hcs hcz
      exact Lib.hid ⟨Kept2.refl _ _ _, ⟨cur, hc, hcs, fun j hj => (hcz j hj).trans (by simp)⟩, ⟨_, Z1'.out, by simp [madeCells], fun j hj => by simp [madeCells, hj, Nat.mod_one]⟩⟩
    clear c8
    have hE32 : Hid (∀ n ∈ l.eraseIdx p, 1 ≤ n ∧ n ≤ 32) := Lib.hid (erase_le (q := fun n => 1 ≤ n ∧ n ≤ 32) HL.out p)
    refine (wpIn_wide (n := 3)).1 (range_good (by omega) (gf := 70) (lb := #[.pointer (some ⟨wc.heap.size + 3, 0, none⟩)]) rfl (enters_of Tryz.func70 (by kernel_rfl) rfl)
      (all_goodx 2 (by omega) (l.eraseIdx p) P (wc.heap.size + 3) hE6 hE32.out HPE.out hP4 W0 SB.out) (by omega) (fun _ => rfl) (fun B pre x => goodX_own (l.eraseIdx p) B _ pre x)
      (fun pre W => OutI W0 h' (wc.heap.size + 1) P (fun i => (outL l z k p (mem kk B) i).1) (fun i => (outL l z k p (mem kk B) i).2) k pre.length W) outI_from I0.out ?a1 ?assign ?body ?done)
    case assign =>
      intro y x W K hK
      gi_wp2
      exact hK
    case body =>
      rintro y pre ⟨i, v⟩ Wp W hy hloop hIp hI heq ⟨hi, hiP, hO, bt, hv⟩
      obtain rfl : i = pre.length := hi
      have hiP : pre.length < prodL (l.eraseIdx p) := hiP
      have hv : v = .slice (some ⟨bt, 0, none⟩) (l.eraseIdx p).length (l.eraseIdx p).length := hv
      have hO : Own W Wp.heap.size v (tupL (l.eraseIdx p) pre.length) := hO
      subst hv
      obtain ⟨At, ct, hv', hT⟩ := hO.form
      rw [tupL_length] at hv'
      obtain ⟨rfl, rfl⟩ : some ⟨bt, 0, none⟩ = At ∧ (l.eraseIdx p).length = ct := by injection hv' with a b c; exact ⟨a, c⟩
      obtain ⟨n, hn⟩ : ∃ n, pre.length = n := ⟨_, rfl⟩
      have HN := Lib.hid hn
      rw [hn] at hiP hI hT
      have hnP : n < P := by rw [← HPE.out]; exact hiP
      have hsz : W0.heap.size ≤ W.heap.size := by obtain ⟨r, hr⟩ := hloop; have := (Array.getElem?_eq_some_iff.1 hr).1; omega
      have hBsW : wc.heap.size + 3 < W.heap.size := by omega
      have ti : InL (l.eraseIdx p) (tupL (l.eraseIdx p) n) := tupL_in (fun n hn => (hE32.out n hn).1) n
      have IXI : Hid (InL l (insL (tupL (l.eraseIdx p) n) p 0)) := Lib.hid (insL_in ti hp (by rw [HKK.out]; omega))
      have IXV : Hid (∀ v, v < kk → numL l (insL (tupL (l.eraseIdx p) n) p v) < prodL l) := Lib.hid fun v hv => (insL_in ti hp (by rw [HKK.out]; exact hv)).num_lt
      have IXN : Hid (∀ v, numL l (insL (tupL (l.eraseIdx p) n) p v) = numL l (insL (tupL (l.eraseIdx p) n) p 0) + v * prodL (l.drop (p + 1))) := Lib.hid fun v => insL_num (by rw [tupL_length]; exact erase_len hp) hp v
      have IXL : Hid ((l.eraseIdx p).length + 1 = (insL (tupL (l.eraseIdx p) n) p 0).length) := Lib.hid (by rw [insL_length _ _ _ (by rw [tupL_length]; have := erase_len hp; omega), tupL_length])
      obtain ⟨F, hF⟩ : ∃ F, numL l (insL (tupL (l.eraseIdx p) n) p 0) = F := ⟨_, rfl⟩
      have HF := Lib.hid hF
      obtain ⟨D, hD⟩ : ∃ D, prodL (l.drop (p + 1)) = D := ⟨_, rfl⟩
      have HD := Lib.hid hD
      have hD4 : D ≤ 4096 := by
        have h1 := prodL_append (l.take (p + 1)) (l.drop (p + 1))
        rw [List.take_append_drop] at h1
        have h2 : 1 ≤ prodL (l.take (p + 1)) := prodL_pos fun n hn => (HL.out n (List.mem_of_mem_take hn)).1
        have h3 := Nat.mul_le_mul_right (prodL (l.drop (p + 1))) h2
        have h4 := HP.out
        omega
      have LIN : Hid (∀ v ∈ mem kk B, F + v * D < prodL l) := Lib.hid fun v hv => by
        have h1 := IXV.out v (Dm.mem_mem.1 hv).1
        rw [IXN.out v, hF, hD] at h1
        exact h1
      obtain ⟨⟨x1, x2⟩, hx⟩ : ∃ x, leastL (fun v => z (F + v * D)) k (mem kk B) = x := ⟨_, rfl⟩
      have HX := Lib.hid hx
      have HXO : Hid (outL l z k p (mem kk B) n = (x1, x2)) := Lib.hid (by unfold outL; rw [hF, hD]; exact hx)
      have q0 : (0 : Int) ≤ (n : Int) := by omega
      have q1 : (n : Int) < (P : Int) := by omega
      have IT := Lib.hid hT
      have HR0 := Lib.hid (HoldR.of HW.out (by omega) hg3 hI.kept G2 (by omega) AZ'.out.cell AC.out Z2'.out.cell n1 (by omega) n3 (by omega) (by omega))
      have OR : Hid (OutR W0 h' (wc.heap.size + 1) P (fun i => (outL l z k p (mem kk B) i).1) (fun i => (outL l z k p (mem kk B) i).2) k n (wc.heap.size + 3) W W) := Lib.hid ⟨hI, KeepsFrom.refl _ _, Keep1.refl _ _⟩
      clear hI hIp hO hT heq hloop hv' hF ti hiP hD hx
      rw [hn]
      clear hn
      gi_wp2
      refine region_round_held (S := fun W => HoldR w3 w.heap.size g p kk B l k ba g' h' (wc.heap.size + 1) P W) y (by kernel_rfl) (by kernel_rfl) ?hq1 (holdR HR0.out ((Below.refl _ _).drew)) (fun hHeld => ?_)
      case hq1 => rintro ⟨a', w', h⟩; exact h
      have IT := Lib.hid (IT.out.below ((Below.refl W.heap.size W).drew) (Nat.le_refl _))
      have OR := Lib.hid (OR.out.next hBsW ((Below.refl W.heap.size W).drew))
      generalize W.drew = w6 at hHeld IT OR ⊢
      refine wpAnyH_take (i := 0) (v := ?v101) rfl (by kernel_rfl) (by kernel_rfl) (by kernel_rfl) (fun _ _ _ h => h) (Or.inl ⟨by rfl, ?y101⟩) (by assumption) ?r101
      case y101 => ((intro w hSw; (try dsimp only at hSw); go_simp); try with_reducible rfl)
      try simp only [Act.put, List.getElem_toArray, List.getElem_cons_zero, List.setIfInBounds_toArray, List.set_cons_zero, List.set_cons_succ]
      refine wpAnyH_take (i := 1) (v := ?v102) rfl (by kernel_rfl) (by kernel_rfl) (by kernel_rfl) (fun _ _ _ h => h) (Or.inl ⟨by rfl, ?y102⟩) (by assumption) ?r102
      case y102 => ((intro w hSw; (try dsimp only at hSw); go_simp); try with_reducible rfl)
      try simp only [Act.put, List.getElem_toArray, List.getElem_cons_succ, List.getElem_cons_zero, List.setIfInBounds_toArray, List.set_cons_zero, List.set_cons_succ]
      refine wpAnyH_take (i := 2) (v := ?v103) rfl (by kernel_rfl) (by kernel_rfl) (by kernel_rfl) (fun _ _ _ h => h) (Or.inl ⟨by rfl, ?y103⟩) (by assumption) ?r103
      case y103 => ((intro w hSw; (try dsimp only at hSw); go_simp); try with_reducible rfl)
      try simp only [Act.put, List.getElem_toArray, List.getElem_cons_succ, List.getElem_cons_zero, List.setIfInBounds_toArray, List.set_cons_zero, List.set_cons_succ]
      refine wpAnyH_take (i := 3) (v := ?v104) rfl (by kernel_rfl) (by kernel_rfl) (by kernel_rfl) (fun _ _ _ h => h) (Or.inl ⟨by rfl, ?y104⟩) (by assumption) ?r104
      case y104 => ((intro w hSw; (try dsimp only at hSw); go_simp); try with_reducible rfl)
      try simp only [Act.put, List.getElem_toArray, List.getElem_cons_succ, List.getElem_cons_zero, List.setIfInBounds_toArray, List.set_cons_zero, List.set_cons_succ]
      refine wpAnyH_take (i := 4) (v := ?v105) rfl (by kernel_rfl) (by kernel_rfl) (by kernel_rfl) (fun _ _ _ h => h) (Or.inl ⟨by rfl, ?y105⟩) (by assumption) ?r105
      case y105 => ((intro w hSw; (try dsimp only at hSw); go_simp); try with_reducible rfl)
      try simp only [Act.put, List.getElem_toArray, List.getElem_cons_succ, List.getElem_cons_zero, List.setIfInBounds_toArray, List.set_cons_zero, List.set_cons_succ]
      refine wpAnyH_take (i := 5) (v := ?v106) rfl (by kernel_rfl) (by kernel_rfl) (by kernel_rfl) (fun _ _ _ h => h) (Or.inl ⟨by rfl, ?y106⟩) (by assumption) ?r106
      case y106 => ((intro w hSw; (try dsimp only at hSw); go_simp); try with_reducible rfl)
      try simp only [Act.put, List.getElem_toArray, List.getElem_cons_succ, List.getElem_cons_zero, List.setIfInBounds_toArray, List.set_cons_zero, List.set_cons_succ]
      refine wpAnyH_ready (rs := [6]) (by kernel_rfl) (by simp) ?_
      refine AllReadyH.cons rfl (fun K hK => ?_) ?_
      · go_simp
        have nl := new_val w6 (.cells #[.int .i64 0] 3)
        have IT := Lib.hid (IT.out.below nl (Nat.le_refl _))
        have OR := Lib.hid (OR.out.next hBsW nl)
        have HB := Lib.hid nl
        clear nl
        refine hK.out _ _ (holdR hHeld HB.out) (fun hHeld' => ?_)
        clear hHeld
        have hHeld := hHeld'
        clear hHeld'
        clear hK K
        try simp only [Act.put, List.getElem_toArray, List.getElem_cons_succ, List.getElem_cons_zero, List.setIfInBounds_toArray, List.set_cons_zero, List.set_cons_succ]
        refine wpAnyH_ready (rs := [7]) (by kernel_rfl) (by simp) ?_
        refine AllReadyH.cons rfl (fun K hK => ?_) ?_
        · go_simp
          refine (insert_any bt p w6.heap.size 1 (l.eraseIdx p).length (tupL (l.eraseIdx p) n) _ (w6.alloc (.cells #[.int .i64 0] 3)) (tupL_length _ _).symm IT.out (lit_new _ _ _) (by omega) (by have := erase_len hp; omega) rfl).mono ?_
          rintro e wI ⟨⟨c', rfl⟩, hI2, hb⟩
          rw [World.size_alloc]
          rw [World.size_alloc] at hI2
          have IX := Lib.hid hI2
          have OR := Lib.hid (OR.out.next hBsW hb)
          have HB := Lib.hid hb
          clear hI2 hb
          refine hK.out _ _ (holdR hHeld HB.out) (fun hHeld' => ?_)
          clear hHeld
          have hHeld := hHeld'
          clear hHeld'
          clear hK K
          try simp only [Act.put, List.getElem_toArray, List.getElem_cons_succ, List.getElem_cons_zero, List.setIfInBounds_toArray, List.set_cons_zero, List.set_cons_succ]
          refine wpAnyH_ready (rs := [8]) (by kernel_rfl) (by simp) ?_
          refine AllReadyH.cons rfl (fun K hK => ?_) ?_
          · go_simp
            refine (index_ok' _ ((l.eraseIdx p).length + 1) c' F l (insL (tupL (l.eraseIdx p) n) p 0) wI IXL.out h6 (fun n hn => (HL.out n hn).2) IX.out IXI.out HF.out).mono ?_
            rintro e wJ ⟨rfl, hb⟩
            have OR := Lib.hid (OR.out.next hBsW hb)
            have HB := Lib.hid hb
            clear hb
            refine hK.out _ _ (holdR hHeld HB.out) (fun hHeld' => ?_)
            clear hHeld
            have hHeld := hHeld'
            clear hHeld'
            clear hK K
            try simp only [Act.put, List.getElem_toArray, List.getElem_cons_succ, List.getElem_cons_zero, List.setIfInBounds_toArray, List.set_cons_zero, List.set_cons_succ]
            refine wpAnyH_take (i := 9) (v := ?v107) rfl (by kernel_rfl) (by kernel_rfl) (by kernel_rfl) (fun _ _ _ h => h) (Or.inl ⟨by rfl, ?y107⟩) (by assumption) ?r107
            case y107 => ((intro w hSw; (try dsimp only at hSw); go_simp); try with_reducible rfl)
            try simp only [Act.put, List.getElem_toArray, List.getElem_cons_succ, List.getElem_cons_zero, List.setIfInBounds_toArray, List.set_cons_zero, List.set_cons_succ]
            refine wpAnyH_take (i := 10) (v := ?v108) rfl (by kernel_rfl) (by kernel_rfl) (by kernel_rfl) (fun _ _ _ h => h) (Or.inl ⟨by rfl, ?y108⟩) (by assumption) ?r108
            case y108 => ((intro w hSw; (try dsimp only at hSw); go_simp); try with_reducible rfl)
            try simp only [Act.put, List.getElem_toArray, List.getElem_cons_succ, List.getElem_cons_zero, List.setIfInBounds_toArray, List.set_cons_zero, List.set_cons_succ]
            refine wpAnyH_take (i := 11) (v := ?v109) rfl (by kernel_rfl) (by kernel_rfl) (by kernel_rfl) (fun _ _ _ h => h) (Or.inl ⟨by rfl, ?y109⟩) (by assumption) ?r109
            case y109 => ((intro w hSw; (try dsimp only at hSw); go_simp); try with_reducible rfl)
            try simp only [Act.put, List.getElem_toArray, List.getElem_cons_succ, List.getElem_cons_zero, List.setIfInBounds_toArray, List.set_cons_zero, List.set_cons_succ]
            refine wpAnyH_take (i := 12) (v := ?v110) rfl (by kernel_rfl) (by kernel_rfl) (by kernel_rfl) (fun _ _ _ h => h) (Or.inl ⟨by rfl, ?y110⟩) (by assumption) ?r110
            case y110 => ((intro w hSw; (try dsimp only at hSw); go_simp); try with_reducible rfl)
            try simp only [Act.put, List.getElem_toArray, List.getElem_cons_succ, List.getElem_cons_zero, List.setIfInBounds_toArray, List.set_cons_zero, List.set_cons_succ]
            refine wpAnyH_take (i := 13) (v := ?v111) rfl (by kernel_rfl) (by kernel_rfl) (by kernel_rfl) (fun _ _ _ h => h) (Or.inl ⟨by rfl, ?y111⟩) (by assumption) ?r111
            case y111 => ((intro w hSw; (try dsimp only at hSw); go_simp); try with_reducible rfl)
            try simp only [Act.put, List.getElem_toArray, List.getElem_cons_succ, List.getElem_cons_zero, List.setIfInBounds_toArray, List.set_cons_zero, List.set_cons_succ]
            refine wpAnyH_done (by kernel_rfl) ?_ _
            gi_wp2
            refine region_round_held (S := fun W => HoldR w3 w.heap.size g p kk B l k ba g' h' (wc.heap.size + 1) P W) y (by kernel_rfl) (by kernel_rfl) ?hq2 (holdR hHeld ((Below.refl _ _).drew)) (fun hHeld' => ?_)
            case hq2 => rintro ⟨a', w', h⟩; exact h
            clear hHeld
            have hHeld := hHeld'
            clear hHeld'
            have OR := Lib.hid (OR.out.next hBsW ((Below.refl wJ.heap.size wJ).drew))
            generalize wJ.drew = w7 at hHeld OR ⊢
            refine wpAnyH_take (i := 0) (v := ?v201) rfl (by kernel_rfl) (by kernel_rfl) (by kernel_rfl) (fun _ _ _ h => h) (Or.inl ⟨by rfl, ?y201⟩) (by assumption) ?r201
            case y201 => ((intro w hSw; (try dsimp only at hSw); go_simp); try with_reducible rfl)
            try simp only [Act.put, List.getElem_toArray, List.getElem_cons_zero, List.setIfInBounds_toArray, List.set_cons_zero, List.set_cons_succ]
            refine wpAnyH_take (i := 1) (v := ?v202) rfl (by kernel_rfl) (by kernel_rfl) (by kernel_rfl) (fun _ _ _ h => h) (Or.inl ⟨by rfl, ?y202⟩) (by assumption) ?r202
            case y202 => ((intro w hSw; (try dsimp only at hSw); go_simp); try with_reducible rfl)
            try simp only [Act.put, List.getElem_toArray, List.getElem_cons_succ, List.getElem_cons_zero, List.setIfInBounds_toArray, List.set_cons_zero, List.set_cons_succ]
            refine wpAnyH_take (i := 2) (v := ?v203) rfl (by kernel_rfl) (by kernel_rfl) (by kernel_rfl) (fun _ _ _ h => h) (Or.inl ⟨by rfl, ?y203⟩) (by assumption) ?r203
            case y203 => ((intro w hSw; (try dsimp only at hSw); go_simp); try with_reducible rfl)
            try simp only [Act.put, List.getElem_toArray, List.getElem_cons_succ, List.getElem_cons_zero, List.setIfInBounds_toArray, List.set_cons_zero, List.set_cons_succ]
            refine wpAnyH_take (i := 3) (v := ?v204) rfl (by kernel_rfl) (by kernel_rfl) (by kernel_rfl) (fun _ _ _ h => h) (Or.inl ⟨by rfl, ?y204⟩) (by assumption) ?r204
            case y204 => ((intro w hSw; (try dsimp only at hSw); go_simp); try with_reducible rfl)
            try simp only [Act.put, List.getElem_toArray, List.getElem_cons_succ, List.getElem_cons_zero, List.setIfInBounds_toArray, List.set_cons_zero, List.set_cons_succ]
            refine wpAnyH_take (i := 4) (v := ?v205) rfl (by kernel_rfl) (by kernel_rfl) (by kernel_rfl) (fun _ _ _ h => h) (Or.inl ⟨by rfl, ?y205⟩) (by assumption) ?r205
            case y205 => ((intro w hSw; (try dsimp only at hSw); go_simp); try with_reducible rfl)
            try simp only [Act.put, List.getElem_toArray, List.getElem_cons_succ, List.getElem_cons_zero, List.setIfInBounds_toArray, List.set_cons_zero, List.set_cons_succ]
            refine wpAnyH_take (i := 5) (v := ?v206) rfl (by kernel_rfl) (by kernel_rfl) (by kernel_rfl) (fun _ _ _ h => h) (Or.inl ⟨by rfl, ?y206⟩) (by assumption) ?r206
            case y206 => ((intro w hSw; (try dsimp only at hSw); go_simp); try with_reducible rfl)
            try simp only [Act.put, List.getElem_toArray, List.getElem_cons_succ, List.getElem_cons_zero, List.setIfInBounds_toArray, List.set_cons_zero, List.set_cons_succ]
            refine wpAnyH_take (i := 6) (v := ?v207) rfl (by kernel_rfl) (by kernel_rfl) (by kernel_rfl) (fun _ _ _ h => h) (Or.inl ⟨by rfl, ?y207⟩) (by assumption) ?r207
            case y207 => ((intro w hSw; (try dsimp only at hSw); go_simp); try with_reducible rfl)
            try simp only [Act.put, List.getElem_toArray, List.getElem_cons_succ, List.getElem_cons_zero, List.setIfInBounds_toArray, List.set_cons_zero, List.set_cons_succ]
            refine wpAnyH_take (i := 7) (v := ?v208) rfl (by kernel_rfl) (by kernel_rfl) (by kernel_rfl) (fun _ _ _ h => h) (Or.inl ⟨by rfl, ?y208⟩) (by assumption) ?r208
            case y208 => ((intro w hSw; (try dsimp only at hSw); go_simp); try with_reducible rfl)
            try simp only [Act.put, List.getElem_toArray, List.getElem_cons_succ, List.getElem_cons_zero, List.setIfInBounds_toArray, List.set_cons_zero, List.set_cons_succ]
            refine wpAnyH_take (i := 8) (v := ?v209) rfl (by kernel_rfl) (by kernel_rfl) (by kernel_rfl) (fun _ _ _ h => h) (Or.inl ⟨by rfl, ?y209⟩) (by assumption) ?r209
            case y209 => ((intro w hSw; (try dsimp only at hSw); go_simp); try with_reducible rfl)
            try simp only [Act.put, List.getElem_toArray, List.getElem_cons_succ, List.getElem_cons_zero, List.setIfInBounds_toArray, List.set_cons_zero, List.set_cons_succ]
            refine wpAnyH_take (i := 9) (v := ?v210) rfl (by kernel_rfl) (by kernel_rfl) (by kernel_rfl) (fun _ _ _ h => h) (Or.inl ⟨by rfl, ?y210⟩) (by assumption) ?r210
            case y210 => ((intro w hSw; (try dsimp only at hSw); go_simp); try with_reducible rfl)
            try simp only [Act.put, List.getElem_toArray, List.getElem_cons_succ, List.getElem_cons_zero, List.setIfInBounds_toArray, List.set_cons_zero, List.set_cons_succ]
            refine wpAnyH_take (i := 10) (v := ?v211) rfl (by kernel_rfl) (by kernel_rfl) (by kernel_rfl) (fun _ _ _ h => h) (Or.inl ⟨by rfl, ?y211⟩) (by assumption) ?r211
            case y211 => ((intro w hSw; (try dsimp only at hSw); go_simp); try with_reducible rfl)
            try simp only [Act.put, List.getElem_toArray, List.getElem_cons_succ, List.getElem_cons_zero, List.setIfInBounds_toArray, List.set_cons_zero, List.set_cons_succ]
            refine wpAnyH_take (i := 11) (v := ?v212) rfl (by kernel_rfl) (by kernel_rfl) (by kernel_rfl) (fun _ _ _ h => h) (Or.inl ⟨by rfl, ?y212⟩) (by assumption) ?r212
            case y212 => ((intro w hSw; (try dsimp only at hSw); go_simp); try with_reducible rfl)
            try simp only [Act.put, List.getElem_toArray, List.getElem_cons_succ, List.getElem_cons_zero, List.setIfInBounds_toArray, List.set_cons_zero, List.set_cons_succ]
            refine wpAnyH_take (i := 12) (v := ?v213) rfl (by kernel_rfl) (by kernel_rfl) (by kernel_rfl) (fun _ _ _ h => h) (Or.inl ⟨by rfl, ?y213⟩) (by assumption) ?r213
            case y213 => ((intro w hSw; (try dsimp only at hSw); go_simp); try with_reducible rfl)
            try simp only [Act.put, List.getElem_toArray, List.getElem_cons_succ, List.getElem_cons_zero, List.setIfInBounds_toArray, List.set_cons_zero, List.set_cons_succ]
            refine wpAnyH_take (i := 13) (v := ?v214) rfl (by kernel_rfl) (by kernel_rfl) (by kernel_rfl) (fun _ _ _ h => h) (Or.inl ⟨by rfl, ?y214⟩) (by assumption) ?r214
            case y214 => ((intro w hSw; (try dsimp only at hSw); go_simp); try with_reducible rfl)
            try simp only [Act.put, List.getElem_toArray, List.getElem_cons_succ, List.getElem_cons_zero, List.setIfInBounds_toArray, List.set_cons_zero, List.set_cons_succ]
            refine wpAnyH_take (i := 15) (v := ?v215) rfl (by kernel_rfl) (by kernel_rfl) (by kernel_rfl) (fun _ _ _ h => h) (Or.inl ⟨by rfl, ?y215⟩) (by assumption) ?r215
            case y215 => ((intro w hSw; (try dsimp only at hSw); go_simp); try with_reducible rfl)
            try simp only [Act.put, List.getElem_toArray, List.getElem_cons_succ, List.getElem_cons_zero, List.setIfInBounds_toArray, List.set_cons_zero, List.set_cons_succ]
            refine wpAnyH_ready (rs := [14]) (by kernel_rfl) (by simp) ?_
            refine AllReadyH.cons rfl (fun K hK => ?_) ?_
            · go_simp
              refine (step_ok' l _ p D _ rfl h6 (fun n hn => (HL.out n hn).2) hp HD.out).mono ?_
              rintro e wK ⟨rfl, hb⟩
              have OR := Lib.hid (OR.out.next hBsW hb)
              have HB := Lib.hid hb
              clear hb
              refine hK.out _ _ (holdR hHeld HB.out) (fun hHeld' => ?_)
              clear hHeld
              have hHeld := hHeld'
              clear hHeld'
              clear hK K
              try simp only [Act.put, List.getElem_toArray, List.getElem_cons_succ, List.getElem_cons_zero, List.setIfInBounds_toArray, List.set_cons_zero, List.set_cons_succ]
              refine wpAnyH_ready (rs := [16]) (by kernel_rfl) (by simp) ?_
              refine AllReadyH.cons rfl (fun K hK => ?_) ?_
              · go_simp
                have C := least_any g h F D kk B l k z wK (T3.out.below hHeld.1.below) (HTab.out.below (B3.out.trans (hHeld.1.below.mono (by omega))) HTab.out.pos) hk32 hB HP.out hD4 LIN.out
                rw [HX.out] at C
                dsimp only at C
                refine C.mono ?_
                clear C
                rintro e wL ⟨rfl, hb⟩
                have OR := Lib.hid (OR.out.next hBsW hb)
                have HB := Lib.hid hb
                clear hb
                refine hK.out _ _ (holdR hHeld HB.out) (fun hHeld' => ?_)
                clear hHeld
                have hHeld := hHeld'
                clear hHeld'
                clear hK K
                try simp only [Act.put, List.getElem_toArray, List.getElem_cons_succ, List.getElem_cons_zero, List.setIfInBounds_toArray, List.set_cons_zero, List.set_cons_succ]
                refine wpAnyH_take (i := 17) (v := ?v216) rfl (by kernel_rfl) (by kernel_rfl) (by kernel_rfl) (fun _ _ _ h => h) (Or.inl ⟨by rfl, ?y216⟩) (by assumption) ?r216
                case y216 => ((intro w hSw; (try dsimp only at hSw); go_simp); try with_reducible rfl)
                try simp only [Act.put, List.getElem_toArray, List.getElem_cons_succ, List.getElem_cons_zero, List.setIfInBounds_toArray, List.set_cons_zero, List.set_cons_succ]
                refine wpAnyH_take (i := 18) (v := ?v217) rfl (by kernel_rfl) (by kernel_rfl) (by kernel_rfl) (fun _ _ _ h => h) (Or.inl ⟨by rfl, ?y217⟩) (by assumption) ?r217
                case y217 => ((intro w hSw; (try dsimp only at hSw); go_simp); try with_reducible rfl)
                try simp only [Act.put, List.getElem_toArray, List.getElem_cons_succ, List.getElem_cons_zero, List.setIfInBounds_toArray, List.set_cons_zero, List.set_cons_succ]
                refine wpAnyH_take (i := 19) (v := ?v218) rfl (by kernel_rfl) (by kernel_rfl) (by kernel_rfl) (fun _ _ _ h => h) (Or.inl ⟨by rfl, ?y218⟩) (by assumption) ?r218
                case y218 => ((intro w hSw; (try dsimp only at hSw); go_simp); try with_reducible rfl)
                try simp only [Act.put, List.getElem_toArray, List.getElem_cons_succ, List.getElem_cons_zero, List.setIfInBounds_toArray, List.set_cons_zero, List.set_cons_succ]
                refine wpAnyH_take (i := 20) (v := ?v219) rfl (by kernel_rfl) (by kernel_rfl) (by kernel_rfl) (fun _ _ _ h => h) (Or.inl ⟨by rfl, ?y219⟩) (by assumption) ?r219
                case y219 => ((intro w hSw; (try dsimp only at hSw); go_simp); try with_reducible rfl)
                try simp only [Act.put, List.getElem_toArray, List.getElem_cons_succ, List.getElem_cons_zero, List.setIfInBounds_toArray, List.set_cons_zero, List.set_cons_succ]
                refine wpAnyH_ready (rs := [21]) (by kernel_rfl) (by simp) ?_
                refine AllReadyH.cons rfl (fun K hK => ?_) ?_
                · have kc := OR.out.inv.costs.cell hnP
                  have kf := OR.out.inv.costs.frozen n
                  go_simp
                  clear kc kf
                  have OS := Lib.hid (OR.out.inv.best.setOther (a := ⟨h', n, none⟩) (show wc.heap.size + 1 ≠ h' by omega) (.int .i64 x1))
                  refine hK.out _ _ (holdR_set hHeld (by omega) hg3 G2 n1 n3 (by omega) n _) (fun hHeld' => ?_)
                  clear hHeld
                  have hHeld := hHeld'
                  clear hHeld'
                  clear hK K
                  try simp only [Act.put, List.getElem_toArray, List.getElem_cons_succ, List.getElem_cons_zero, List.setIfInBounds_toArray, List.set_cons_zero, List.set_cons_succ]
                  refine wpAnyH_take (i := 22) (v := ?v220) rfl (by kernel_rfl) (by kernel_rfl) (by kernel_rfl) (fun _ _ _ h => h) (Or.inl ⟨by rfl, ?y220⟩) (by assumption) ?r220
                  case y220 => ((intro w hSw; (try dsimp only at hSw); go_simp); try with_reducible rfl)
                  try simp only [Act.put, List.getElem_toArray, List.getElem_cons_succ, List.getElem_cons_zero, List.setIfInBounds_toArray, List.set_cons_zero, List.set_cons_succ]
                  refine wpAnyH_ready (rs := [23]) (by kernel_rfl) (by simp) ?_
                  refine AllReadyH.cons rfl (fun K hK => ?_) ?_
                  · have kc := OS.out.cell hnP
                    have kf := OS.out.frozen n
                    go_simp
                    clear kc kf
                    refine hK.out _ _ (holdR_set hHeld (by omega) hg3 (by omega) (by omega) (by omega) (by omega) n _) (fun hHeld' => ?_)
                    clear hHeld
                    have hHeld := hHeld'
                    clear hHeld'
                    clear hK K
                    try simp only [Act.put, List.getElem_toArray, List.getElem_cons_succ, List.getElem_cons_zero, List.setIfInBounds_toArray, List.set_cons_zero, List.set_cons_succ]
                    refine wpAnyH_done (by kernel_rfl) ?_ _
                    gi_wp2_with fail
                    have FIN := OR.out.fin (x1 := x1) (x2 := x2) (by omega) (by omega) (by omega) (congrArg Prod.fst HXO.out) (congrArg Prod.snd HXO.out)
                    exact ⟨FIN.kf, FIN.k1, by show OutI W0 h' (wc.heap.size + 1) P _ _ k (pre ++ [_]).length _; rw [List.length_append, HN.out]; exact FIN.inv⟩
                  exact AllReadyH.nil
                exact AllReadyH.nil
              exact AllReadyH.nil
            exact AllReadyH.nil
          exact AllReadyH.nil
        exact AllReadyH.nil
      exact AllReadyH.nil

    case done =>
      rintro D xs W hD hS hI hK
      have hS : xs.length = P := hS
      rw [hS] at hI
      have SZ : Hid (w.heap.size ≤ g' ∧ w.heap.size ≤ h' ∧ w.heap.size ≤ wc.heap.size + 1) := Lib.hid ⟨by omega, by omega, by omega⟩
      have k1 : W.cell? ⟨ba, 0, none⟩ = some (.pointer (some ⟨g', 0, none⟩)) := (World.cell?_of_block (a := ⟨ba, 0, none⟩) (hI.kept.block ba (by omega) n1 (by omega))).trans AZ'.out.cell
      have k2 : W.cell? ⟨wc.heap.size + 1 + 1, 0, none⟩ = some (.slice (some ⟨wc.heap.size + 1, 0, none⟩) P P) := (World.cell?_of_block (a := ⟨wc.heap.size + 1 + 1, 0, none⟩) (hI.kept.block (wc.heap.size + 1 + 1) (by omega) (by omega) (by omega))).trans Z2'.out.cell
      have HI := Lib.hid hI
      have HKD := Lib.hid hK
      clear hI hK hS
      go_wp2_with fail
      go_quiet (fail)
      go_wp2_with fail
      refine ⟨by simp, .inl ⟨_, _, rfl, run_takeDeferred HKD.out, ?_⟩⟩
      refine ⟨_, results_tmp3 rfl _ _ _, g', h', wc.heap.size + 1, rfl, ?_, ?_, SZ.out.1, SZ.out.2.1, SZ.out.2.2, ?_⟩
      · obtain ⟨cur, hc, hcs, hcz⟩ := HI.out.costs
        refine ⟨(World.putObj_heap_other (by omega)).trans ((HI.out.kept.block g' (by omega) n3 (by omega)).trans TZ'.out.row), cur, (World.putObj_heap_other (by omega)).trans hc, by rw [HPE.out]; exact hcs, fun i hi => ?_⟩
        rw [HPE.out] at hi
        exact (hcz i hi).trans (congrArg some (congrArg (Value.int .i64) (if_pos hi)))
      · obtain ⟨cur, hc, hcs, hcz⟩ := HI.out.best
        refine .inr ⟨wc.heap.size + 1, 0, rfl, ?_, fun i hi => ?_⟩
        · have := HI.out.kept.size
          simp only [World.putObj, Array.size_setIfInBounds]
          show wc.heap.size + 1 < W.heap.size
          omega
        · rw [Nat.zero_add]
          refine (cell_of_row _ (wc.heap.size + 1) i cur 3 (0, 0) ((World.putObj_heap_other (by omega)).trans hc)).trans ?_
          exact (hcz i hi).trans (congrArg some (congrArg (Value.int .i64) (if_pos hi)))
      · have h1 : Below w.heap.size w W := HI.out.kept.below (B3.out.trans (B3W.out.mono (by omega))) (Nat.le_refl _) (by omega) (by omega)
        exact (next_drewN h1 _).trans (belowK_b (w := w) (Nat.le_refl _) _ D _ _ (by omega) HKD.out rfl rfl)
end Go.Proofs.YtpdcpaoabalgcaaGreatDoor
