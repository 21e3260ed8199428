/- Contract of the document's Turn (no statement of its own). -/
import Derived.Test.YtamodeglpkgiaaaDoorTt7
import Derived.Test.YtamodeglpkgiaaaDoorRoB
namespace Go.Proofs.YtamodeglpkgiaaaDoor
open Go.RowKit
set_option linter.unusedVariables false
set_option maxRecDepth 100000 in
set_option maxHeartbeats 8000000 in
theorem rturn_any (As Ac Ao : Option Addr) (cs cc co n P P0 : Nat) (l s r : List Nat) (k : Int) (z : Nat → Int) (w : World) (h6 : n ≤ 6) (hln : l.length = n) (hcs : n ≤ cs) (hls : ∀ n ∈ l, 1 ≤ n ∧ n ≤ 32) (hP0 : prodL l = P0) (hP4 : P0 ≤ 4096) (hpm : PermL n s r)
    (hPe : prodL (pickL l s) = P) (hP5 : P ≤ 4096) (hI : Ints w As l) (hZ : Zs w Ac P0 z) (hO : Ints w Ao s) :
    Calls Tryd.prog 20 #[.agg #[.slice As n cs, .int .i64 k, .slice Ac P0 cc], .slice Ao n co] w (RtPost w l s r k z n P) := by
  have HI := Lib.hid hI
  have HZ := Lib.hid hZ
  have HO := Lib.hid hO
  have HLS := Lib.hid hls
  have HP0 := Lib.hid hP0
  have HPM := Lib.hid hpm
  have HPE := Lib.hid hPe
  have HN := Lib.hid hln
  have HPL : Hid (∀ n ∈ pickL l s, 1 ≤ n ∧ n ≤ 32) := Lib.hid fun x hx => hls x (pickL_mem (fun i hi => by rw [hln]; exact hpm.bs i (by rw [← hpm.ls]; exact hi)) hx)
  have HLP : Hid ((pickL l s).length = n) := Lib.hid (by rw [pickL_len, hpm.ls])
  clear hI hZ hO hls hP0 hpm hPe hln
  go_enter Tryd.func20, Tryd.ntmps20
  go_upto_region 2 with fail
  have X0 : Hid ((((w.alloc (.cells #[.slice As n cs, .int .i64 k, .slice Ac P0 cc] 31)).alloc (.cells #[.slice none 0 0, .int .i64 0, .slice none 0 0] 31)).alloc (.cells #[.slice none 0 0, .int .i64 k, .slice none 0 0] 31)).heap[w.heap.size]? = some (.cells #[.slice As n cs, .int .i64 k, .slice Ac P0 cc] 31 (0, 0))) :=
    Lib.hid (((new_val _ _).block _ (by simp <;> omega)).trans (((new_val _ _).block _ (by simp)).trans (heap_alloc_new w _)))
  have X1 : Hid ((((w.alloc (.cells #[.slice As n cs, .int .i64 k, .slice Ac P0 cc] 31)).alloc (.cells #[.slice none 0 0, .int .i64 0, .slice none 0 0] 31)).alloc (.cells #[.slice none 0 0, .int .i64 k, .slice none 0 0] 31)).heap[w.heap.size + 1]? = some (.cells #[.slice none 0 0, .int .i64 0, .slice none 0 0] 31 (0, 0))) :=
    Lib.hid (((new_val _ _).block _ (by simp)).trans (alloc_two w _ _))
  have X2 : Hid ((((w.alloc (.cells #[.slice As n cs, .int .i64 k, .slice Ac P0 cc] 31)).alloc (.cells #[.slice none 0 0, .int .i64 0, .slice none 0 0] 31)).alloc (.cells #[.slice none 0 0, .int .i64 k, .slice none 0 0] 31)).heap[w.heap.size + 1 + 1]? = some (.cells #[.slice none 0 0, .int .i64 k, .slice none 0 0] 31 (0, 0))) :=
    Lib.hid (by have := alloc_two (w.alloc (.cells #[.slice As n cs, .int .i64 k, .slice Ac P0 cc] 31)) (.cells #[.slice none 0 0, .int .i64 0, .slice none 0 0] 31) (.cells #[.slice none 0 0, .int .i64 k, .slice none 0 0] 31); simpa using this)
  have B3 : Hid (Below w.heap.size w (((w.alloc (.cells #[.slice As n cs, .int .i64 k, .slice Ac P0 cc] 31)).alloc (.cells #[.slice none 0 0, .int .i64 0, .slice none 0 0] 31)).alloc (.cells #[.slice none 0 0, .int .i64 k, .slice none 0 0] 31))) :=
    Lib.hid (then_ (then_ (new_val _ _) (new_val _ _)) (new_val _ _))
  have z3 : (((w.alloc (.cells #[.slice As n cs, .int .i64 k, .slice Ac P0 cc] 31)).alloc (.cells #[.slice none 0 0, .int .i64 0, .slice none 0 0] 31)).alloc (.cells #[.slice none 0 0, .int .i64 k, .slice none 0 0] 31)).heap.size = w.heap.size + 3 := by simp
  go_upto_region 3 with fail
  generalize (((w.alloc (.cells #[.slice As n cs, .int .i64 k, .slice Ac P0 cc] 31)).alloc (.cells #[.slice none 0 0, .int .i64 0, .slice none 0 0] 31)).alloc (.cells #[.slice none 0 0, .int .i64 k, .slice none 0 0] 31)) = w3 at X0 X1 X2 B3 z3 ⊢
  have S3 : Hid (RtS w3 (w.heap.size + 1 + 1) k (.slice none 0 0) ((pickL l s).take 0) w3) := Lib.hid ⟨Kept2.refl _ _ _, X2.out, own_nil _ _⟩
  go_loopw [18] (fun i wr => ∃ (j : Nat) (sv : Value), j ≤ n ∧ i = .int .i64 (j : Int) ∧ RtS w3 (w.heap.size + 1 + 1) k sv ((pickL l s).take j) wr) (fun i _ => n - (intOf i).toNat)
  case atStart => exact ⟨0, _, Nat.zero_le _, rfl, S3.out⟩
  case round =>
    obtain ⟨j, sv, hj, rfl, hM⟩ := hrel
    have HM := Lib.hid hM
    clear hM
    by_cases hlt : j < n
    · have j1 : (j : Int) < (n : Int) := by omega
      have j2 : (0 : Int) ≤ (j : Int) := by omega
      have BR := Lib.hid (HM.out.kept.below B3.out (by omega) (by omega) (by omega))
      obtain ⟨go, oo, rfl, hco⟩ := (HO.out.below BR.out (Nat.le_refl _)).at_ (i := j) (by rw [HPM.out.ls]; exact hlt)
      have hpn := HPM.out.bs j hlt
      have HPT : Hid ((pickL l s).take (j + 1) = (pickL l s).take j ++ [nth l (nth s j)]) := Lib.hid (pick_take (by rw [HPM.out.ls]; exact hlt))
      obtain ⟨p, hp⟩ : ∃ p, nth s j = p := ⟨_, rfl⟩
      rw [hp] at hco hpn HPT
      clear hp
      obtain ⟨gs, os, rfl, hcl⟩ := (HI.out.below BR.out (Nat.le_refl _)).at_ (i := p) (by rw [HN.out]; exact hpn)
      have HGS : Hid (gs < w3.heap.size) := Lib.hid (by
        rcases HI.out with h0 | ⟨g', o', e', hg', _⟩
        · rw [h0] at hcl; have := HN.out; rw [h0] at this; simp at this; omega
        · injection e' with e'; injection e' with e1 e2; subst e1; omega)
      have HGU : Hid (gs ≠ w.heap.size + 1 + 1) := Lib.hid (by
        rcases HI.out with h0 | ⟨g', o', e', hg', _⟩
        · have := HN.out; rw [h0] at this; simp at this; omega
        · injection e' with e'; injection e' with e1 e2; subst e1; omega)
      obtain ⟨x, hx⟩ : ∃ x, nth l p = x := ⟨_, rfl⟩
      rw [hx] at hcl HPT
      clear hx
      have p1 : (p : Int) < (n : Int) := by omega
      have p2 : (0 : Int) ≤ (p : Int) := by omega
      have X0' : Hid (wr.heap[w.heap.size]? = _) := Lib.hid ((HM.out.kept.block _ (by omega) (by omega) (by omega)).trans X0.out)
      have HV : Hid (HoldV w3 w.heap.size (w.heap.size + 1 + 1) n cs gs os p x wr) := Lib.hid ⟨by rw [cell_of_row _ _ _ _ _ _ X0'.out]; rfl, hcl, HM.out.kept⟩
      clear hcl
      go_upto_region 5 with fail
      clear hco
      refine wp_region_noPanic ?_
      refine wp_region_held_drew (S := fun W => HoldV w3 w.heap.size (w.heap.size + 1 + 1) n cs gs os p x W) (by kernel_rfl) (holdV HV.out ((Below.refl _ _).drew)) (fun hHeld => ?_)
      have U0 : Hid (wr.drew.heap[w.heap.size + 1 + 1]? = _) := Lib.hid HM.out.row
      have OW0 : Hid (Own wr.drew w3.heap.size sv ((pickL l s).take j)) := Lib.hid (HM.out.own.below ((Below.refl wr.heap.size wr).drew) (Nat.le_refl _))
      generalize wr.drew = w4 at hHeld U0 OW0 ⊢
      refine wpAnyH_take (i := 0) (v := ?v501) rfl (by kernel_rfl) (by kernel_rfl) (by kernel_rfl) (fun _ _ _ h => h) (Or.inl ⟨by rfl, ?y501⟩) (by assumption) ?r501
      case y501 => ((intro w hSw; (try dsimp only at hSw); go_simp); try with_reducible rfl)
      try simp only [Act.put, List.getElem_toArray, List.getElem_cons_zero, List.setIfInBounds_toArray, List.set_cons_zero, List.set_cons_succ]
      refine wpAnyH_take (i := 2) (v := ?v502) rfl (by kernel_rfl) (by kernel_rfl) (by kernel_rfl) (fun _ _ _ h => h) (Or.inl ⟨by rfl, ?y502⟩) (by assumption) ?r502
      case y502 => ((intro w hSw; (try dsimp only at hSw); go_simp); try with_reducible rfl)
      try simp only [Act.put, List.getElem_toArray, List.getElem_cons_succ, List.getElem_cons_zero, List.setIfInBounds_toArray, List.set_cons_zero, List.set_cons_succ]
      refine wpAnyH_take (i := 3) (v := ?v503) rfl (by kernel_rfl) (by kernel_rfl) (by kernel_rfl) (fun _ _ _ h => h) (Or.inl ⟨by rfl, ?y503⟩) (by assumption) ?r503
      case y503 => ((intro w hSw; (try dsimp only at hSw); go_simp); try with_reducible rfl)
      try simp only [Act.put, List.getElem_toArray, List.getElem_cons_succ, List.getElem_cons_zero, List.setIfInBounds_toArray, List.set_cons_zero, List.set_cons_succ]
      refine wpAnyH_take (i := 4) (v := ?v504) rfl (by kernel_rfl) (by kernel_rfl) (by kernel_rfl) (fun _ _ _ h => h) (Or.inl ⟨by rfl, ?y504⟩) (by assumption) ?r504
      case y504 => ((intro w hSw; (try dsimp only at hSw); go_simp); try with_reducible rfl)
      try simp only [Act.put, List.getElem_toArray, List.getElem_cons_succ, List.getElem_cons_zero, List.setIfInBounds_toArray, List.set_cons_zero, List.set_cons_succ]
      refine wpAnyH_take (i := 5) (v := ?v505) rfl (by kernel_rfl) (by kernel_rfl) (by kernel_rfl) (fun _ _ _ h => h) (Or.inl ⟨by rfl, ?y505⟩) (by assumption) ?r505
      case y505 => ((intro w hSw; (try dsimp only at hSw); go_simp); try with_reducible rfl)
      try simp only [Act.put, List.getElem_toArray, List.getElem_cons_succ, List.getElem_cons_zero, List.setIfInBounds_toArray, List.set_cons_zero, List.set_cons_succ]
      refine wpAnyH_take (i := 6) (v := ?v506) rfl (by kernel_rfl) (by kernel_rfl) (by kernel_rfl) (fun _ _ _ h => h) (Or.inl ⟨by rfl, ?y506⟩) (by assumption) ?r506
      case y506 => ((intro w hSw; (try dsimp only at hSw); go_simp); try with_reducible rfl)
      try simp only [Act.put, List.getElem_toArray, List.getElem_cons_succ, List.getElem_cons_zero, List.setIfInBounds_toArray, List.set_cons_zero, List.set_cons_succ]
      refine wpAnyH_ready (rs := [1, 7]) (by kernel_rfl) (by simp) ?_
      refine AllReadyH.cons rfl (fun K hK => ?_) ?_
      · have ac : w4.cell? ⟨w.heap.size + 1 + 1, 0, none⟩ = some sv := by rw [cell_of_row _ _ _ _ _ _ U0.out]; rfl
        go_simp
        clear ac
        refine hK.out _ _ (hHeld) (fun hHeld' => ?_)
        clear hHeld
        have hHeld := hHeld'
        clear hHeld'
        clear hK K
        try simp only [Act.put, List.getElem_toArray, List.getElem_cons_succ, List.getElem_cons_zero, List.setIfInBounds_toArray, List.set_cons_zero, List.set_cons_succ]
        refine wpAnyH_ready (rs := [7]) (by kernel_rfl) (by simp) ?_
        refine AllReadyH.cons rfl (fun K hK => ?_) ?_
        · go_simp
          have na := new_val w4 (.cells #[.int .i64 (x : Int)] 3)
          have LC : Hid (Ints (w4.alloc (.cells #[.int .i64 (x : Int)] 3)) (some ⟨w4.heap.size, 0, none⟩) [x]) := Lib.hid (lit_oneI w4 x)
          have OW := Lib.hid (OW0.out.below na (Nat.le_refl _))
          have U1 := Lib.hid ((na.block _ (Array.getElem?_eq_some_iff.1 U0.out).1).trans U0.out)
          refine hK.out _ _ (holdV hHeld na) (fun hHeld' => ?_)
          clear hHeld
          have hHeld := hHeld'
          clear hHeld'
          clear na U0 OW0
          generalize w4.alloc (.cells #[.int .i64 (x : Int)] 3) = w5 at hHeld OW U1 LC ⊢
          generalize w4.heap.size = gl at LC ⊢
          clear hK K
          try simp only [Act.put, List.getElem_toArray, List.getElem_cons_succ, List.getElem_cons_zero, List.setIfInBounds_toArray, List.set_cons_zero, List.set_cons_succ]
          refine wpAnyH_ready (rs := [8]) (by kernel_rfl) (by simp) ?_
          refine AllReadyH.cons rfl (fun K hK => ?_) ?_
          · refine app_step rfl (.tmp 23) (.tmp 29) rfl w5 w3.heap.size 1 1 _ ((pickL l s).take j) [x] (some ⟨gl, 0, none⟩) rfl (by rfl) (by rfl) OW.out LC.out (by intro h; cases h) hHeld.2.2.size (by have := List.length_take_le j (pickL l s); omega) (by omega) ?_
            intro v6 w6 hO hg
            obtain ⟨A6, m6, c6, rfl⟩ : ∃ A m c, v6 = .slice A m c := by obtain ⟨A, c, e⟩ := row_form hO; exact ⟨A, _, c, e⟩
            have U2 := Lib.hid (u_grown (w3 := w3) U1.out (by omega) OW.out hg)
            have OX : Hid (Own w6 w3.heap.size (.slice A6 m6 c6) ((pickL l s).take (j + 1))) := Lib.hid (by rw [HPT.out]; exact hO)
            refine hK.out _ _ (holdV_grown hHeld (by omega) HGS.out OW.out hg) (fun hHeld' => ?_)
            clear hHeld
            have hHeld := hHeld'
            clear hHeld'
            clear hO hg U1 OW
            clear hK K
            try simp only [Act.put, List.getElem_toArray, List.getElem_cons_succ, List.getElem_cons_zero, List.setIfInBounds_toArray, List.set_cons_zero, List.set_cons_succ]
            refine wpAnyH_take (i := 9) (v := ?v507) rfl (by kernel_rfl) (by kernel_rfl) (by kernel_rfl) (fun _ _ _ h => h) (Or.inl ⟨by rfl, ?y507⟩) (by assumption) ?r507
            case y507 => ((intro w hSw; (try dsimp only at hSw); go_simp); try with_reducible rfl)
            try simp only [Act.put, List.getElem_toArray, List.getElem_cons_succ, List.getElem_cons_zero, List.setIfInBounds_toArray, List.set_cons_zero, List.set_cons_succ]
            refine wpAnyH_ready (rs := [10]) (by kernel_rfl) (by simp) ?_
            refine AllReadyH.cons rfl (fun K hK => ?_) ?_
            · have ac : w6.cell? ⟨w.heap.size + 1 + 1, 0, none⟩ = some sv := by rw [cell_of_row _ _ _ _ _ _ U2.out]; rfl
              have af : w6.frozen? ⟨w.heap.size + 1 + 1, 0, none⟩ = false := frozen_of_row _ _ _ _ _ U2.out
              go_simp
              clear ac af
              have RN : Hid (RtS w3 (w.heap.size + 1 + 1) k (.slice A6 m6 c6) ((pickL l s).take (j + 1)) (w6.setCell ⟨w.heap.size + 1 + 1, 0, none⟩ (.slice A6 m6 c6))) := Lib.hid ⟨hHeld.2.2.set (.inl rfl) 0 (.slice A6 m6 c6), by simpa using heap_setCell_same w6 (w.heap.size + 1 + 1) 0 _ _ (.slice A6 m6 c6) U2.out, World.ownsRow.kept OX.out (grown_set w6 (w.heap.size + 1 + 1) 0 (.slice A6 m6 c6)) (row_far OX.out (by omega))⟩
              refine hK.out _ _ (holdV_set hHeld (by omega) HGU.out 0 (.slice A6 m6 c6)) (fun hHeld' => ?_)
              clear hHeld
              have hHeld := hHeld'
              clear hHeld'
              clear hK K
              try simp only [Act.put, List.getElem_toArray, List.getElem_cons_succ, List.getElem_cons_zero, List.setIfInBounds_toArray, List.set_cons_zero, List.set_cons_succ]
              refine wpAnyH_done (by kernel_rfl) ?_ _
              refine NoPanic.normal ?_
              clear hHeld
              generalize w6.setCell ⟨w.heap.size + 1 + 1, 0, none⟩ (.slice A6 m6 c6) = w7 at RN ⊢
              go_wp2_with fail
              go_roundw
              case rel => exact ⟨j + 1, _, by omega, by go_num, RN.out⟩
              case measure => simp [intOf]; omega
            exact AllReadyH.nil
          exact AllReadyH.nil
        exact AllReadyH.nil
      refine AllReadyH.cons rfl (fun K hK => ?_) ?_
      · go_simp
        have na := new_val w4 (.cells #[.int .i64 (x : Int)] 3)
        have LC : Hid (Ints (w4.alloc (.cells #[.int .i64 (x : Int)] 3)) (some ⟨w4.heap.size, 0, none⟩) [x]) := Lib.hid (lit_oneI w4 x)
        have OW := Lib.hid (OW0.out.below na (Nat.le_refl _))
        have U1 := Lib.hid ((na.block _ (Array.getElem?_eq_some_iff.1 U0.out).1).trans U0.out)
        refine hK.out _ _ (holdV hHeld na) (fun hHeld' => ?_)
        clear hHeld
        have hHeld := hHeld'
        clear hHeld'
        clear na U0 OW0
        generalize w4.alloc (.cells #[.int .i64 (x : Int)] 3) = w5 at hHeld OW U1 LC ⊢
        generalize w4.heap.size = gl at LC ⊢
        clear hK K
        try simp only [Act.put, List.getElem_toArray, List.getElem_cons_succ, List.getElem_cons_zero, List.setIfInBounds_toArray, List.set_cons_zero, List.set_cons_succ]
        refine wpAnyH_ready (rs := [1]) (by kernel_rfl) (by simp) ?_
        refine AllReadyH.cons rfl (fun K hK => ?_) ?_
        · have ac : w5.cell? ⟨w.heap.size + 1 + 1, 0, none⟩ = some sv := by rw [cell_of_row _ _ _ _ _ _ U1.out]; rfl
          go_simp
          clear ac
          refine hK.out _ _ (hHeld) (fun hHeld' => ?_)
          clear hHeld
          have hHeld := hHeld'
          clear hHeld'
          clear hK K
          try simp only [Act.put, List.getElem_toArray, List.getElem_cons_succ, List.getElem_cons_zero, List.setIfInBounds_toArray, List.set_cons_zero, List.set_cons_succ]
          refine wpAnyH_ready (rs := [8]) (by kernel_rfl) (by simp) ?_
          refine AllReadyH.cons rfl (fun K hK => ?_) ?_
          · refine app_step rfl (.tmp 23) (.tmp 29) rfl w5 w3.heap.size 1 1 _ ((pickL l s).take j) [x] (some ⟨gl, 0, none⟩) rfl (by rfl) (by rfl) OW.out LC.out (by intro h; cases h) hHeld.2.2.size (by have := List.length_take_le j (pickL l s); omega) (by omega) ?_
            intro v6 w6 hO hg
            obtain ⟨A6, m6, c6, rfl⟩ : ∃ A m c, v6 = .slice A m c := by obtain ⟨A, c, e⟩ := row_form hO; exact ⟨A, _, c, e⟩
            have U2 := Lib.hid (u_grown (w3 := w3) U1.out (by omega) OW.out hg)
            have OX : Hid (Own w6 w3.heap.size (.slice A6 m6 c6) ((pickL l s).take (j + 1))) := Lib.hid (by rw [HPT.out]; exact hO)
            refine hK.out _ _ (holdV_grown hHeld (by omega) HGS.out OW.out hg) (fun hHeld' => ?_)
            clear hHeld
            have hHeld := hHeld'
            clear hHeld'
            clear hO hg U1 OW
            clear hK K
            try simp only [Act.put, List.getElem_toArray, List.getElem_cons_succ, List.getElem_cons_zero, List.setIfInBounds_toArray, List.set_cons_zero, List.set_cons_succ]
            refine wpAnyH_take (i := 9) (v := ?v508) rfl (by kernel_rfl) (by kernel_rfl) (by kernel_rfl) (fun _ _ _ h => h) (Or.inl ⟨by rfl, ?y508⟩) (by assumption) ?r508
            case y508 => ((intro w hSw; (try dsimp only at hSw); go_simp); try with_reducible rfl)
            try simp only [Act.put, List.getElem_toArray, List.getElem_cons_succ, List.getElem_cons_zero, List.setIfInBounds_toArray, List.set_cons_zero, List.set_cons_succ]
            refine wpAnyH_ready (rs := [10]) (by kernel_rfl) (by simp) ?_
            refine AllReadyH.cons rfl (fun K hK => ?_) ?_
            · have ac : w6.cell? ⟨w.heap.size + 1 + 1, 0, none⟩ = some sv := by rw [cell_of_row _ _ _ _ _ _ U2.out]; rfl
              have af : w6.frozen? ⟨w.heap.size + 1 + 1, 0, none⟩ = false := frozen_of_row _ _ _ _ _ U2.out
              go_simp
              clear ac af
              have RN : Hid (RtS w3 (w.heap.size + 1 + 1) k (.slice A6 m6 c6) ((pickL l s).take (j + 1)) (w6.setCell ⟨w.heap.size + 1 + 1, 0, none⟩ (.slice A6 m6 c6))) := Lib.hid ⟨hHeld.2.2.set (.inl rfl) 0 (.slice A6 m6 c6), by simpa using heap_setCell_same w6 (w.heap.size + 1 + 1) 0 _ _ (.slice A6 m6 c6) U2.out, World.ownsRow.kept OX.out (grown_set w6 (w.heap.size + 1 + 1) 0 (.slice A6 m6 c6)) (row_far OX.out (by omega))⟩
              refine hK.out _ _ (holdV_set hHeld (by omega) HGU.out 0 (.slice A6 m6 c6)) (fun hHeld' => ?_)
              clear hHeld
              have hHeld := hHeld'
              clear hHeld'
              clear hK K
              try simp only [Act.put, List.getElem_toArray, List.getElem_cons_succ, List.getElem_cons_zero, List.setIfInBounds_toArray, List.set_cons_zero, List.set_cons_succ]
              refine wpAnyH_done (by kernel_rfl) ?_ _
              refine NoPanic.normal ?_
              clear hHeld
              generalize w6.setCell ⟨w.heap.size + 1 + 1, 0, none⟩ (.slice A6 m6 c6) = w7 at RN ⊢
              go_wp2_with fail
              go_roundw
              case rel => exact ⟨j + 1, _, by omega, by go_num, RN.out⟩
              case measure => simp [intOf]; omega
            exact AllReadyH.nil
          exact AllReadyH.nil
        exact AllReadyH.nil
      exact AllReadyH.nil

    · have j1 : ¬ ((j : Int) < (n : Int)) := by omega
      obtain rfl : n = j := by omega
      rename World => w8
      have ht : (pickL l s).take n = pickL l s := List.take_of_length_le (by rw [HLP.out]; exact Nat.le_refl _)
      have hM := HM.out
      rw [ht] at hM
      obtain ⟨A7, c7, e7, hI7⟩ := hM.own.form
      rw [HLP.out] at e7
      subst e7
      have U8 : Hid (w8.heap[w.heap.size + 1 + 1]? = _) := Lib.hid hM.row
      have K8 := Lib.hid hM.kept
      have O8 : Hid (Own w8 w3.heap.size (.slice A7 n c7) (pickL l s)) := Lib.hid hM.own
      have hc7 : n ≤ c7 := own_cap O8.out
      have I8 := Lib.hid hI7
      have u0 : w8.cell? ⟨w.heap.size + 1 + 1, 0, none⟩ = some (.slice A7 n c7) := by rw [cell_of_row _ _ _ _ _ _ U8.out]; rfl
      clear hM hI7 ht HM S3 hlt hj j1
      go_wp2_with fail
      refine (rall_any4 A7 n c7 P (pickL l s) _ HLP.out.symm (by rw [HLP.out]; exact h6) hc7 HPL.out HPE.out hP5 I8.out).mono ?_
      rintro e w9 ⟨⟨Ar, cr, rfl, hR⟩, hb⟩
      have R9 := Lib.hid hR
      have B9 := Lib.hid hb
      clear hR hb u0
      have U9 := Lib.hid ((B9.out.block _ (Array.getElem?_eq_some_iff.1 U8.out).1).trans U8.out)
      have K9 := Lib.hid (K8.out.next B9.out)
      have BB := Lib.hid (K9.out.below B3.out (Nat.le_refl _) (Nat.le_of_lt (by omega)) (Nat.le_of_lt (by omega)))
      have z9 : w.heap.size + 3 ≤ w9.heap.size := by have := K9.out.size; omega
      have z8 : w.heap.size + 3 ≤ w8.heap.size := by have := K8.out.size; omega
      have z89 : w8.heap.size ≤ w9.heap.size := B9.out.size
      have M9 : Hid (RoAt w9 (w.heap.size + 1 + 1) 0 0 (.slice A7 n c7) k (turnZ l z s r) (fun _ => 0) (.slice none 0 0) (.slice none 0 0) w9) :=
        Lib.hid ⟨Kept2.refl _ _ _, U9.out, World.ownsRow_nil _ _ _ _, World.ownsRow_nil _ _ _ _⟩
      have X9 : Hid (w9.heap[w.heap.size]? = _) := Lib.hid ((K9.out.block _ (by omega) (by omega) (by omega)).trans X0.out)
      have Y9 : Hid (w9.heap[w.heap.size + 1]? = _) := Lib.hid ((K9.out.block _ (by omega) (by omega) (by omega)).trans X1.out)
      have O9 := Lib.hid (O8.out.below B9.out (Nat.le_refl _))
      clear X0 X1 U8 K8 I8 U9 O8
      go_upto_region 8 with fail
      go_loopw [37] (fun i wr => ∃ (j : Nat) (cv0 : Value), j ≤ P ∧ i = .int .i64 (j : Int) ∧ RoAt w9 (w.heap.size + 1 + 1) j 0 (.slice A7 n c7) k (turnZ l z s r) (fun _ => 0) cv0 (.slice none 0 0) wr) (fun i _ => P - (intOf i).toNat)
      case atStart => exact ⟨0, _, Nat.zero_le _, rfl, M9.out⟩
      case round =>
        obtain ⟨j, cv0, hj, rfl, hM⟩ := hrel
        obtain ⟨Ac0, cc0, rfl⟩ := row_form hM.own
        have HM := Lib.hid hM
        clear hM
        by_cases hlt : j < P
        · have j1 : (j : Int) < (P : Int) := by omega
          have j2 : (0 : Int) ≤ (j : Int) := by omega
          obtain ⟨Ar', cr', e1, hrow⟩ := (R9.out.kept2 HM.out.kept (by omega)).form
          obtain ⟨gr, x, hA, hgr, hcr, hxr⟩ := hrow j (by rw [allL_length, HPE.out]; exact hlt)
          obtain rfl : Ar = Ar' := by injection e1
          subst hA
          have hx' : Own wr w8.heap.size x (tupL (pickL l s) j) := by
            have e : nthT (allL (pickL l s)) j = tupL (pickL l s) j := allL_get _ (by rw [HPE.out]; exact hlt)
            rw [e] at hxr
            exact hxr
          obtain ⟨t, ht⟩ : ∃ t, tupL (pickL l s) j = t := ⟨_, rfl⟩
          have htl : t.length = n := by rw [← ht, tupL_length, HLP.out]
          have HUU : Hid (z (numL l (pickL t r)) = turnZ l z s r j) := Lib.hid (by unfold turnZ; rw [ht])
          have FL : Hid (InL l (pickL t r)) := Lib.hid (by rw [← ht]; exact turn_in HPM.out HN.out (fun n hn => (HLS.out n hn).1))
          rw [ht] at hx'
          clear ht
          obtain ⟨Ax, cx, e2, hXi⟩ := hx'.form
          rw [htl] at e2
          subst e2
          have hac : Ax = none → cx = 0 := fun h => by
            rcases own_addr hx' with ⟨_, _, h0⟩ | ⟨g, hg, _⟩
            · exact h0
            · rw [h] at hg; cases hg
          have HAC := Lib.hid hac
          have HX := Lib.hid hXi
          have HTL := Lib.hid htl
          have BR := Lib.hid (HM.out.kept.below BB.out (by omega) (by omega) (by omega))
          clear hx' hrow e1 hXi hxr hac htl
          rename World => wa
          have n10 := new_val wa (.cells #[] 3)
          have OW : Hid (Own (wa.alloc (.cells #[] 3)) wa.heap.size (.slice (some ⟨wa.heap.size, 0, none⟩) 0 0) []) := Lib.hid (World.ownsRow_made wa #[] 0 (Nat.le_refl _) (by simp [maxLen]) rfl)
          have HX1 := Lib.hid (HX.out.below n10 (Nat.le_refl _))
          have B10 := Lib.hid n10
          clear n10
          go_upto_region 11 with (at_builtin; refine app_own rfl (.tmp 41) (.tmp 42) rfl (wa.alloc (.cells #[] 3)) wa.heap.size n cx _ [] t Ax HTL.out rfl rfl OW.out HX1.out HAC.out B10.out.size (by simp) (by omega) ?_; intro v' w' hO hg; have BO := Lib.hid (B10.out.grown hg B10.out.size (fun g hg' => (World.ownsRow.lt OW.out g hg').1)); have OO : Hid (Own w' wa.heap.size v' t) := Lib.hid hO; clear hO hg)
          clear B10 HX1 OW
          obtain ⟨A10, c10, e3, -⟩ := OO.out.form
          rw [HTL.out] at e3
          subst e3
          go_upto_region 12 with fail
          go_loopw [46] (fun i wr => ∃ q : Nat, q ≤ n ∧ i = .int .i64 (q : Int) ∧ Own wr wa.heap.size (.slice A10 n c10) (updL t s q) ∧ Below wa.heap.size wa wr) (fun i _ => n - (intOf i).toNat)
          case atStart => exact ⟨0, Nat.zero_le _, rfl, OO.out, BO.out⟩
          case round =>
            obtain ⟨q, hq, rfl, hO, hB⟩ := hrel
            have OQ := Lib.hid hO
            have BQ := Lib.hid hB
            clear hO hB
            by_cases hlq : q < n
            · have q1 : (q : Int) < (n : Int) := by omega
              have q2 : (0 : Int) ≤ (q : Int) := by omega
              obtain ⟨go, oo, rfl, hco⟩ := (HO.out.below (then_ BR.out BQ.out) (Nat.le_refl _)).at_ (i := q) (by rw [HPM.out.ls]; exact hlq)
              obtain ⟨gx, ox, rfl, hcx⟩ := (HX.out.below BQ.out (Nat.le_refl _)).at_ (i := q) (by rw [HTL.out]; exact hlq)
              have hpn := HPM.out.bs q hlq
              obtain ⟨g10, rfl, hg1, hg2, kc, kf, hst, -⟩ := OQ.out.store' (j := nth s q) (by rw [updL_len, HTL.out]; exact hpn) (by rw [updL_len, HTL.out]) (nth t q)
              have HST : Hid (Own (wr.setCell ⟨g10, nth s q, none⟩ (.int .i64 (nth t q : Int))) wa.heap.size (.slice (some ⟨g10, 0, none⟩) n c10) (updL t s (q + 1))) := Lib.hid hst
              have BN := Lib.hid (BQ.out.setCell (p := ⟨g10, nth s q, none⟩) hg1 (.int .i64 (nth t q : Int)))
              clear hst hg1 hg2
              generalize nth (updL t s q) (nth s q) = yv at kc
              generalize nth s q = p at hco hpn kc kf HST BN
              generalize nth t q = y at hcx HST BN
              have p1 : (p : Int) < (n : Int) := by omega
              have p2 : (0 : Int) ≤ (p : Int) := by omega
              clear hcr
              go_wp2_with fail
              go_roundw
              case rel => exact ⟨q + 1, by omega, by go_num, HST.out, BN.out⟩
              case measure => simp [intOf]; omega
            · have q1 : ¬ ((q : Int) < (n : Int)) := by omega
              obtain rfl : n = q := by omega
              have hfi := OQ.out
              rw [updL_all HPM.out HTL.out] at hfi
              obtain ⟨A11, c11, e4, hFI⟩ := hfi.form
              rw [pickL_len, HPM.out.lr] at e4
              obtain ⟨rfl, rfl⟩ : A10 = A11 ∧ c10 = c11 := by injection e4 with a b c; exact ⟨a, c⟩
              have MR := Lib.hid (HM.out.next BQ.out)
              have X0 : Hid (wr.heap[w.heap.size]? = _) := Lib.hid ((MR.out.kept.block _ (by omega) (by omega) (by omega)).trans X9.out)
              have HWW : Hid (HoldW w9 w.heap.size (w.heap.size + 1 + 1) n cs P0 cc As Ac k wr) := Lib.hid ⟨by rw [cell_of_row _ _ _ _ _ _ X0.out]; rfl, by rw [cell_of_row _ _ _ _ _ _ X0.out]; rfl, by rw [cell_of_row _ _ _ _ _ _ X0.out]; rfl, MR.out.kept⟩
              have FI0 := Lib.hid hFI
              clear hfi e4 hFI hcr hlq hq
              go_upto_region 16 with fail
              refine wp_region_noPanic ?_
              refine wp_region_held_drew (S := fun W => HoldW w9 w.heap.size (w.heap.size + 1 + 1) n cs P0 cc As Ac k W) (by kernel_rfl) (holdW HWW.out ((Below.refl _ _).drew)) (fun hHeld => ?_)
              have MM := Lib.hid (MR.out.next ((Below.refl wr.heap.size wr).drew))
              have FI := Lib.hid (FI0.out.below ((Below.refl wr.heap.size wr).drew) (Nat.le_refl _))
              generalize wr.drew = w4 at hHeld MM FI ⊢
              refine wpAnyH_take (i := 0) (v := ?v701) rfl (by kernel_rfl) (by kernel_rfl) (by kernel_rfl) (fun _ _ _ h => h) (Or.inl ⟨by rfl, ?y701⟩) (by assumption) ?r701
              case y701 => ((intro w hSw; (try dsimp only at hSw); go_simp); try with_reducible rfl)
              try simp only [Act.put, List.getElem_toArray, List.getElem_cons_zero, List.setIfInBounds_toArray, List.set_cons_zero, List.set_cons_succ]
              refine wpAnyH_take (i := 2) (v := ?v702) rfl (by kernel_rfl) (by kernel_rfl) (by kernel_rfl) (fun _ _ _ h => h) (Or.inl ⟨by rfl, ?y702⟩) (by assumption) ?r702
              case y702 => ((intro w hSw; (try dsimp only at hSw); go_simp); try with_reducible rfl)
              try simp only [Act.put, List.getElem_toArray, List.getElem_cons_succ, List.getElem_cons_zero, List.setIfInBounds_toArray, List.set_cons_zero, List.set_cons_succ]
              refine wpAnyH_take (i := 3) (v := ?v703) rfl (by kernel_rfl) (by kernel_rfl) (by kernel_rfl) (fun _ _ _ h => h) (Or.inl ⟨by rfl, ?y703⟩) (by assumption) ?r703
              case y703 => ((intro w hSw; (try dsimp only at hSw); go_simp); try with_reducible rfl)
              try simp only [Act.put, List.getElem_toArray, List.getElem_cons_succ, List.getElem_cons_zero, List.setIfInBounds_toArray, List.set_cons_zero, List.set_cons_succ]
              refine wpAnyH_ready (rs := [1, 4]) (by kernel_rfl) (by simp) ?_
              refine AllReadyH.cons rfl (fun K hK => ?_) ?_
              · have ac : w4.cell? ⟨w.heap.size + 1 + 1, 2, none⟩ = some (.slice Ac0 j cc0) := MM.out.cells.2.2.1
                go_simp
                clear ac
                refine hK.out _ _ (hHeld) (fun hHeld' => ?_)
                clear hHeld
                have hHeld := hHeld'
                clear hHeld'
                clear hK K
                try simp only [Act.put, List.getElem_toArray, List.getElem_cons_succ, List.getElem_cons_zero, List.setIfInBounds_toArray, List.set_cons_zero, List.set_cons_succ]
                refine wpAnyH_ready (rs := [4]) (by kernel_rfl) (by simp) ?_
                refine AllReadyH.cons rfl (fun K hK => ?_) ?_
                · go_simp
                  have G := rget_yes As Ac cs cc A10 n c10 P0 (numL l (pickL t r)) l k z w4 (by rw [HN.out]; exact h6) (by rw [HN.out]; exact hcs) HLS.out HP0.out hP4 (by rw [← HP0.out]; exact FL.out.num_lt) HN.out (HI.out.below (hHeld.2.2.2.below BB.out (Nat.le_refl _) (by omega) (by omega)) (Nat.le_refl _)) (by rw [FL.out.tup]; exact FI.out) (HZ.out.below (hHeld.2.2.2.below BB.out (Nat.le_refl _) (by omega) (by omega)) (Nat.le_refl _))
                  rw [HN.out] at G
                  refine G.mono ?_
                  clear G
                  rintro e w5 ⟨rfl, hb1⟩
                  have MM := Lib.hid (MM.out.next hb1)
                  have HB := Lib.hid hb1
                  clear hb1
                  refine hK.out _ _ (holdW hHeld HB.out) (fun hHeld' => ?_)
                  clear hHeld
                  have hHeld := hHeld'
                  clear hHeld'
                  clear hK K
                  try simp only [Act.put, List.getElem_toArray, List.getElem_cons_succ, List.getElem_cons_zero, List.setIfInBounds_toArray, List.set_cons_zero, List.set_cons_succ]
                  refine wpAnyH_ready (rs := [5]) (by kernel_rfl) (by simp) ?_
                  refine AllReadyH.cons rfl (fun K hK => ?_) ?_
                  · go_simp
                    have na := new_val w5 (.cells #[.int .i64 (z (numL l (pickL t r)))] 2)
                    have LC := Lib.hid (lit_new w5 (.int .i64 (z (numL l (pickL t r)))) 2)
                    have MM := Lib.hid (MM.out.next na)
                    refine hK.out _ _ (holdW hHeld na) (fun hHeld' => ?_)
                    clear hHeld
                    have hHeld := hHeld'
                    clear hHeld'
                    clear na
                    generalize w5.alloc (.cells #[.int .i64 (z (numL l (pickL t r)))] 2) = w6 at hHeld MM LC ⊢
                    generalize w5.heap.size = gl at LC ⊢
                    clear hK K
                    try simp only [Act.put, List.getElem_toArray, List.getElem_cons_succ, List.getElem_cons_zero, List.setIfInBounds_toArray, List.set_cons_zero, List.set_cons_succ]
                    refine wpAnyH_ready (rs := [6]) (by kernel_rfl) (by simp) ?_
                    refine AllReadyH.cons rfl (fun K hK => ?_) ?_
                    · refine push64_step rfl (.tmp 60) (.tmp 64) rfl w6 w9.heap.size j gl (.slice Ac0 j cc0) (turnZ l z s r) _ HUU.out (by rfl) (by rfl) LC.out MM.out.own MM.out.kept.size (by omega) ?_
                      intro v7 w7 ho hg
                      obtain ⟨A9, c9, rfl⟩ := row_form ho
                      have MN := Lib.hid (MM.out.push (by omega) ho hg)
                      have RR := Lib.hid (MM.out.push_row (by omega) hg)
                      refine hK.out _ _ (holdW_grown hHeld (by omega) MM.out.own hg) (fun hHeld' => ?_)
                      clear hHeld
                      have hHeld := hHeld'
                      clear hHeld'
                      clear ho hg
                      clear hK K
                      try simp only [Act.put, List.getElem_toArray, List.getElem_cons_succ, List.getElem_cons_zero, List.setIfInBounds_toArray, List.set_cons_zero, List.set_cons_succ]
                      refine wpAnyH_take (i := 7) (v := ?v704) rfl (by kernel_rfl) (by kernel_rfl) (by kernel_rfl) (fun _ _ _ h => h) (Or.inl ⟨by rfl, ?y704⟩) (by assumption) ?r704
                      case y704 => ((intro w hSw; (try dsimp only at hSw); go_simp); try with_reducible rfl)
                      try simp only [Act.put, List.getElem_toArray, List.getElem_cons_succ, List.getElem_cons_zero, List.setIfInBounds_toArray, List.set_cons_zero, List.set_cons_succ]
                      refine wpAnyH_ready (rs := [8]) (by kernel_rfl) (by simp) ?_
                      refine AllReadyH.cons rfl (fun K hK => ?_) ?_
                      · have ac : w7.cell? ⟨w.heap.size + 1 + 1, 2, none⟩ = some (.slice Ac0 j cc0) := by rw [cell_of_row _ _ _ _ _ _ RR.out]; rfl
                        have af : w7.frozen? ⟨w.heap.size + 1 + 1, 2, none⟩ = false := frozen_of_row _ _ _ _ _ RR.out
                        go_simp
                        clear ac af
                        refine hK.out _ _ (holdW_set hHeld (by omega) 2 _) (fun hHeld' => ?_)
                        clear hHeld
                        have hHeld := hHeld'
                        clear hHeld'
                        clear hK K
                        try simp only [Act.put, List.getElem_toArray, List.getElem_cons_succ, List.getElem_cons_zero, List.setIfInBounds_toArray, List.set_cons_zero, List.set_cons_succ]
                        refine wpAnyH_done (by kernel_rfl) ?_ _
                        refine NoPanic.normal ?_
                        clear hHeld
                        generalize w7.setCell ⟨w.heap.size + 1 + 1, 2, none⟩ (.slice A9 (j + 1) c9) = wn at MN ⊢
                        go_wp2_with fail
                        go_roundw
                        case rel => exact ⟨j + 1, _, by omega, by go_num, MN.out⟩
                        case measure => simp [intOf]; omega
                      exact AllReadyH.nil
                    exact AllReadyH.nil
                  exact AllReadyH.nil
                exact AllReadyH.nil
              refine AllReadyH.cons rfl (fun K hK => ?_) ?_
              · go_simp
                have G := rget_yes As Ac cs cc A10 n c10 P0 (numL l (pickL t r)) l k z w4 (by rw [HN.out]; exact h6) (by rw [HN.out]; exact hcs) HLS.out HP0.out hP4 (by rw [← HP0.out]; exact FL.out.num_lt) HN.out (HI.out.below (hHeld.2.2.2.below BB.out (Nat.le_refl _) (by omega) (by omega)) (Nat.le_refl _)) (by rw [FL.out.tup]; exact FI.out) (HZ.out.below (hHeld.2.2.2.below BB.out (Nat.le_refl _) (by omega) (by omega)) (Nat.le_refl _))
                rw [HN.out] at G
                refine G.mono ?_
                clear G
                rintro e w5 ⟨rfl, hb1⟩
                have MM := Lib.hid (MM.out.next hb1)
                have HB := Lib.hid hb1
                clear hb1
                refine hK.out _ _ (holdW hHeld HB.out) (fun hHeld' => ?_)
                clear hHeld
                have hHeld := hHeld'
                clear hHeld'
                clear hK K
                try simp only [Act.put, List.getElem_toArray, List.getElem_cons_succ, List.getElem_cons_zero, List.setIfInBounds_toArray, List.set_cons_zero, List.set_cons_succ]
                refine wpAnyH_ready (rs := [1, 5]) (by kernel_rfl) (by simp) ?_
                refine AllReadyH.cons rfl (fun K hK => ?_) ?_
                · have ac : w5.cell? ⟨w.heap.size + 1 + 1, 2, none⟩ = some (.slice Ac0 j cc0) := MM.out.cells.2.2.1
                  go_simp
                  clear ac
                  refine hK.out _ _ (hHeld) (fun hHeld' => ?_)
                  clear hHeld
                  have hHeld := hHeld'
                  clear hHeld'
                  clear hK K
                  try simp only [Act.put, List.getElem_toArray, List.getElem_cons_succ, List.getElem_cons_zero, List.setIfInBounds_toArray, List.set_cons_zero, List.set_cons_succ]
                  refine wpAnyH_ready (rs := [5]) (by kernel_rfl) (by simp) ?_
                  refine AllReadyH.cons rfl (fun K hK => ?_) ?_
                  · go_simp
                    have na := new_val w5 (.cells #[.int .i64 (z (numL l (pickL t r)))] 2)
                    have LC := Lib.hid (lit_new w5 (.int .i64 (z (numL l (pickL t r)))) 2)
                    have MM := Lib.hid (MM.out.next na)
                    refine hK.out _ _ (holdW hHeld na) (fun hHeld' => ?_)
                    clear hHeld
                    have hHeld := hHeld'
                    clear hHeld'
                    clear na
                    generalize w5.alloc (.cells #[.int .i64 (z (numL l (pickL t r)))] 2) = w6 at hHeld MM LC ⊢
                    generalize w5.heap.size = gl at LC ⊢
                    clear hK K
                    try simp only [Act.put, List.getElem_toArray, List.getElem_cons_succ, List.getElem_cons_zero, List.setIfInBounds_toArray, List.set_cons_zero, List.set_cons_succ]
                    refine wpAnyH_ready (rs := [6]) (by kernel_rfl) (by simp) ?_
                    refine AllReadyH.cons rfl (fun K hK => ?_) ?_
                    · refine push64_step rfl (.tmp 60) (.tmp 64) rfl w6 w9.heap.size j gl (.slice Ac0 j cc0) (turnZ l z s r) _ HUU.out (by rfl) (by rfl) LC.out MM.out.own MM.out.kept.size (by omega) ?_
                      intro v7 w7 ho hg
                      obtain ⟨A9, c9, rfl⟩ := row_form ho
                      have MN := Lib.hid (MM.out.push (by omega) ho hg)
                      have RR := Lib.hid (MM.out.push_row (by omega) hg)
                      refine hK.out _ _ (holdW_grown hHeld (by omega) MM.out.own hg) (fun hHeld' => ?_)
                      clear hHeld
                      have hHeld := hHeld'
                      clear hHeld'
                      clear ho hg
                      clear hK K
                      try simp only [Act.put, List.getElem_toArray, List.getElem_cons_succ, List.getElem_cons_zero, List.setIfInBounds_toArray, List.set_cons_zero, List.set_cons_succ]
                      refine wpAnyH_take (i := 7) (v := ?v705) rfl (by kernel_rfl) (by kernel_rfl) (by kernel_rfl) (fun _ _ _ h => h) (Or.inl ⟨by rfl, ?y705⟩) (by assumption) ?r705
                      case y705 => ((intro w hSw; (try dsimp only at hSw); go_simp); try with_reducible rfl)
                      try simp only [Act.put, List.getElem_toArray, List.getElem_cons_succ, List.getElem_cons_zero, List.setIfInBounds_toArray, List.set_cons_zero, List.set_cons_succ]
                      refine wpAnyH_ready (rs := [8]) (by kernel_rfl) (by simp) ?_
                      refine AllReadyH.cons rfl (fun K hK => ?_) ?_
                      · have ac : w7.cell? ⟨w.heap.size + 1 + 1, 2, none⟩ = some (.slice Ac0 j cc0) := by rw [cell_of_row _ _ _ _ _ _ RR.out]; rfl
                        have af : w7.frozen? ⟨w.heap.size + 1 + 1, 2, none⟩ = false := frozen_of_row _ _ _ _ _ RR.out
                        go_simp
                        clear ac af
                        refine hK.out _ _ (holdW_set hHeld (by omega) 2 _) (fun hHeld' => ?_)
                        clear hHeld
                        have hHeld := hHeld'
                        clear hHeld'
                        clear hK K
                        try simp only [Act.put, List.getElem_toArray, List.getElem_cons_succ, List.getElem_cons_zero, List.setIfInBounds_toArray, List.set_cons_zero, List.set_cons_succ]
                        refine wpAnyH_done (by kernel_rfl) ?_ _
                        refine NoPanic.normal ?_
                        clear hHeld
                        generalize w7.setCell ⟨w.heap.size + 1 + 1, 2, none⟩ (.slice A9 (j + 1) c9) = wn at MN ⊢
                        go_wp2_with fail
                        go_roundw
                        case rel => exact ⟨j + 1, _, by omega, by go_num, MN.out⟩
                        case measure => simp [intOf]; omega
                      exact AllReadyH.nil
                    exact AllReadyH.nil
                  exact AllReadyH.nil
                refine AllReadyH.cons rfl (fun K hK => ?_) ?_
                · go_simp
                  have na := new_val w5 (.cells #[.int .i64 (z (numL l (pickL t r)))] 2)
                  have LC := Lib.hid (lit_new w5 (.int .i64 (z (numL l (pickL t r)))) 2)
                  have MM := Lib.hid (MM.out.next na)
                  refine hK.out _ _ (holdW hHeld na) (fun hHeld' => ?_)
                  clear hHeld
                  have hHeld := hHeld'
                  clear hHeld'
                  clear na
                  generalize w5.alloc (.cells #[.int .i64 (z (numL l (pickL t r)))] 2) = w6 at hHeld MM LC ⊢
                  generalize w5.heap.size = gl at LC ⊢
                  clear hK K
                  try simp only [Act.put, List.getElem_toArray, List.getElem_cons_succ, List.getElem_cons_zero, List.setIfInBounds_toArray, List.set_cons_zero, List.set_cons_succ]
                  refine wpAnyH_ready (rs := [1]) (by kernel_rfl) (by simp) ?_
                  refine AllReadyH.cons rfl (fun K hK => ?_) ?_
                  · have ac : w6.cell? ⟨w.heap.size + 1 + 1, 2, none⟩ = some (.slice Ac0 j cc0) := MM.out.cells.2.2.1
                    go_simp
                    clear ac
                    refine hK.out _ _ (hHeld) (fun hHeld' => ?_)
                    clear hHeld
                    have hHeld := hHeld'
                    clear hHeld'
                    clear hK K
                    try simp only [Act.put, List.getElem_toArray, List.getElem_cons_succ, List.getElem_cons_zero, List.setIfInBounds_toArray, List.set_cons_zero, List.set_cons_succ]
                    refine wpAnyH_ready (rs := [6]) (by kernel_rfl) (by simp) ?_
                    refine AllReadyH.cons rfl (fun K hK => ?_) ?_
                    · refine push64_step rfl (.tmp 60) (.tmp 64) rfl w6 w9.heap.size j gl (.slice Ac0 j cc0) (turnZ l z s r) _ HUU.out (by rfl) (by rfl) LC.out MM.out.own MM.out.kept.size (by omega) ?_
                      intro v7 w7 ho hg
                      obtain ⟨A9, c9, rfl⟩ := row_form ho
                      have MN := Lib.hid (MM.out.push (by omega) ho hg)
                      have RR := Lib.hid (MM.out.push_row (by omega) hg)
                      refine hK.out _ _ (holdW_grown hHeld (by omega) MM.out.own hg) (fun hHeld' => ?_)
                      clear hHeld
                      have hHeld := hHeld'
                      clear hHeld'
                      clear ho hg
                      clear hK K
                      try simp only [Act.put, List.getElem_toArray, List.getElem_cons_succ, List.getElem_cons_zero, List.setIfInBounds_toArray, List.set_cons_zero, List.set_cons_succ]
                      refine wpAnyH_take (i := 7) (v := ?v706) rfl (by kernel_rfl) (by kernel_rfl) (by kernel_rfl) (fun _ _ _ h => h) (Or.inl ⟨by rfl, ?y706⟩) (by assumption) ?r706
                      case y706 => ((intro w hSw; (try dsimp only at hSw); go_simp); try with_reducible rfl)
                      try simp only [Act.put, List.getElem_toArray, List.getElem_cons_succ, List.getElem_cons_zero, List.setIfInBounds_toArray, List.set_cons_zero, List.set_cons_succ]
                      refine wpAnyH_ready (rs := [8]) (by kernel_rfl) (by simp) ?_
                      refine AllReadyH.cons rfl (fun K hK => ?_) ?_
                      · have ac : w7.cell? ⟨w.heap.size + 1 + 1, 2, none⟩ = some (.slice Ac0 j cc0) := by rw [cell_of_row _ _ _ _ _ _ RR.out]; rfl
                        have af : w7.frozen? ⟨w.heap.size + 1 + 1, 2, none⟩ = false := frozen_of_row _ _ _ _ _ RR.out
                        go_simp
                        clear ac af
                        refine hK.out _ _ (holdW_set hHeld (by omega) 2 _) (fun hHeld' => ?_)
                        clear hHeld
                        have hHeld := hHeld'
                        clear hHeld'
                        clear hK K
                        try simp only [Act.put, List.getElem_toArray, List.getElem_cons_succ, List.getElem_cons_zero, List.setIfInBounds_toArray, List.set_cons_zero, List.set_cons_succ]
                        refine wpAnyH_done (by kernel_rfl) ?_ _
                        refine NoPanic.normal ?_
                        clear hHeld
                        generalize w7.setCell ⟨w.heap.size + 1 + 1, 2, none⟩ (.slice A9 (j + 1) c9) = wn at MN ⊢
                        go_wp2_with fail
                        go_roundw
                        case rel => exact ⟨j + 1, _, by omega, by go_num, MN.out⟩
                        case measure => simp [intOf]; omega
                      exact AllReadyH.nil
                    exact AllReadyH.nil
                  exact AllReadyH.nil
                exact AllReadyH.nil
              exact AllReadyH.nil

        · have j1 : ¬ ((j : Int) < (P : Int)) := by omega
          obtain rfl : P = j := by omega
          obtain ⟨r0, r1, r2, r3⟩ := HM.out.cells
          have YR : Hid (wr.heap[w.heap.size + 1]? = _) := Lib.hid ((HM.out.kept.block _ (by omega) (by omega) (by omega)).trans Y9.out)
          go_wp2_with ((with_reducible show wpList _ _ _ (Oper.mk none (.store 31 _ _) _ _ _ _ :: _) _ _); refine wpList_store_row rfl 31 (.tmp 4) (.tmp 68) rfl (w.heap.size + 1) #[.slice A7 n c7, .int .i64 k, .slice Ac0 P cc0] rfl rfl 31 #[.slice none 0 0, .int .i64 0, .slice none 0 0] YR.out (by kernel_rfl) rfl (by simp [Value.oneCell']) ?_)
          have hrow := setRow_heap wr (w.heap.size + 1) _ #[.slice A7 n c7, .int .i64 k, .slice Ac0 P cc0] _ _ YR.out
          have OF : Own (wr.setRow (w.heap.size + 1) #[.slice A7 n c7, .int .i64 k, .slice Ac0 P cc0]) w3.heap.size (.slice A7 n c7) (pickL l s) := World.ownsRow.kept (own_kept2 O9.out HM.out.kept (by omega)) (grown_setRow wr (w.heap.size + 1) _) (row_far O9.out (by omega))
          obtain ⟨A', c', e, hIF⟩ := OF.form
          injection e with e _ _
          subst e
          refine bodyPost_ret (results_rt rfl _ _ (w.heap.size + 1) _ _ _ rfl hrow) rfl (show RtPost w l s r k z n P _ _ from ⟨⟨A7, c7, Ac0, cc0, rfl, hIF, ?_⟩, below_setRow (HM.out.kept.below BB.out (by omega) (by omega) (by omega)) (by omega) _⟩)
          exact zs_row (World.ownsRow.kept HM.out.own (grown_setRow wr (w.heap.size + 1) _) (row_far HM.out.own (by omega)))
end Go.Proofs.YtamodeglpkgiaaaDoor
