/- The contract of the law's 'like' (no statement of its own). -/
import Derived.Test.YtafcecacldafgaaTmE
namespace Go.Proofs.Ytafcecacldafgaa
open Go.RowKit
set_option linter.unusedVariables false
set_option maxRecDepth 100000 in
set_option maxHeartbeats 4000000 in
theorem like_any {lo : Nat} {w0 w : World} {t cnt x : Nat} {C : List Int} {M : List (List Int)} (h : PS w0 w t cnt x C M C M) (hb : Bd lo C M) :
    Calls Try.prog 12 #[.pointer (some ⟨t, 0, none⟩), .pointer (some ⟨x, 0, none⟩)] w (AndP w0 t cnt x C M C M (.bool true)) := by
  obtain ⟨Q, A, c, B, e, hx⟩ := h.form
  have HX0 := Lib.hid hx
  have HB := Lib.hid hb
  clear h hx hb
  go_enter Try.func12, Try.ntmps12
  go_upto_region 1 with fail
  have HX4 := Lib.hid (HX0.out.grown (grown_drew (World.grownBy_refl w)))
  refine wp_region_noPanic ?_
  refine wp_region_held_drew (S := fun W => W.cell? ⟨x, 0, none⟩ = some (.slice A C.length c) ∧ W.cell? ⟨x, 1, none⟩ = some (.slice B M.length e)) (by kernel_rfl) ⟨HX4.out.c0, HX4.out.c1⟩ (fun hHeld => ?_)
  clear HX0
  generalize w.drew = w4 at *
  have LN := Lib.hid (len_st HX4.out.st)
  have DP := Lib.hid (depth_st HX4.out.st)
  have CC := Lib.hid (cells_st HX4.out.st (by have := HB.out.2.1; omega))
  have hl1 : ((C.length : Int) != (C.length : Int)) = false := by simp
  have hl2 : ((M.length : Int) != (M.length : Int)) = false := by simp
  refine wpAnyH_take (i := 0) (v := ?v1901) rfl (by kernel_rfl) (by kernel_rfl) (by kernel_rfl) (fun _ _ _ h => h) (Or.inl ⟨by rfl, ?y1901⟩) (by assumption) ?r1901
  case y1901 => ((intro w hSw; (try dsimp only at hSw); go_simp); try with_reducible rfl)
  try simp only [Act.put, List.getElem_toArray, List.getElem_cons_zero, List.setIfInBounds_toArray, List.set_cons_zero, List.set_cons_succ]
  refine wpAnyH_take (i := 2) (v := ?v1902) rfl (by kernel_rfl) (by kernel_rfl) (by kernel_rfl) (fun _ _ _ h => h) (Or.inl ⟨by rfl, ?y1902⟩) (by assumption) ?r1902
  case y1902 => ((intro w hSw; (try dsimp only at hSw); go_simp); try with_reducible rfl)
  try simp only [Act.put, List.getElem_toArray, List.getElem_cons_succ, List.getElem_cons_zero, List.setIfInBounds_toArray, List.set_cons_zero, List.set_cons_succ]
  refine wpAnyH_take (i := 3) (v := ?v1903) rfl (by kernel_rfl) (by kernel_rfl) (by kernel_rfl) (fun _ _ _ h => h) (Or.inl ⟨by rfl, ?y1903⟩) (by assumption) ?r1903
  case y1903 => ((intro w hSw; (try dsimp only at hSw); go_simp); try with_reducible rfl)
  try simp only [Act.put, List.getElem_toArray, List.getElem_cons_succ, List.getElem_cons_zero, List.setIfInBounds_toArray, List.set_cons_zero, List.set_cons_succ]
  refine wpAnyH_take (i := 4) (v := ?v1904) rfl (by kernel_rfl) (by kernel_rfl) (by kernel_rfl) (fun _ _ _ h => h) (Or.inl ⟨by rfl, ?y1904⟩) (by assumption) ?r1904
  case y1904 => ((intro w hSw; (try dsimp only at hSw); go_simp); try with_reducible rfl)
  try simp only [Act.put, List.getElem_toArray, List.getElem_cons_succ, List.getElem_cons_zero, List.setIfInBounds_toArray, List.set_cons_zero, List.set_cons_succ]
  refine wpAnyH_take (i := 5) (v := ?v1905) rfl (by kernel_rfl) (by kernel_rfl) (by kernel_rfl) (fun _ _ _ h => h) (Or.inl ⟨by rfl, ?y1905⟩) (by assumption) ?r1905
  case y1905 => ((intro w hSw; (try dsimp only at hSw); go_simp); try with_reducible rfl)
  try simp only [Act.put, List.getElem_toArray, List.getElem_cons_succ, List.getElem_cons_zero, List.setIfInBounds_toArray, List.set_cons_zero, List.set_cons_succ]
  refine wpAnyH_take (i := 6) (v := ?v1906) rfl (by kernel_rfl) (by kernel_rfl) (by kernel_rfl) (fun _ _ _ h => h) (Or.inl ⟨by rfl, ?y1906⟩) (by assumption) ?r1906
  case y1906 => ((intro w hSw; (try dsimp only at hSw); go_simp); try with_reducible rfl)
  try simp only [Act.put, List.getElem_toArray, List.getElem_cons_succ, List.getElem_cons_zero, List.setIfInBounds_toArray, List.set_cons_zero, List.set_cons_succ]
  refine wpAnyH_ready (rs := [1]) (by kernel_rfl) (by simp) ?_
  refine AllReadyH.cons rfl (fun K hK => ?_) ?_
  · go_simp
    refine LN.out.mono ?_
    rintro e wS ⟨rfl, rfl⟩
    refine hK.out _ _ (hHeld) (fun hHeld' => ?_)
    clear hHeld
    have hHeld := hHeld'
    clear hHeld'
    clear hK K
    try simp only [Act.put, List.getElem_toArray, List.getElem_cons_succ, List.getElem_cons_zero, List.setIfInBounds_toArray, List.set_cons_zero, List.set_cons_succ]
    refine wpAnyH_take (i := 7) (v := ?v1907) rfl (by kernel_rfl) (by kernel_rfl) (by kernel_rfl) (fun _ _ _ h => h) (Or.inl ⟨by rfl, ?y1907⟩) (by assumption) ?r1907
    case y1907 => ((intro w hSw; (try dsimp only at hSw); go_simp); try with_reducible rfl)
    try simp only [Act.put, List.getElem_toArray, List.getElem_cons_succ, List.getElem_cons_zero, List.setIfInBounds_toArray, List.set_cons_zero, List.set_cons_succ]
    refine wpAnyH_take (i := 8) (v := ?v1908) rfl (by kernel_rfl) (by kernel_rfl) (by kernel_rfl) (fun _ _ _ h => h) (Or.inl ⟨by rfl, ?y1908⟩) (by assumption) ?r1908
    case y1908 => ((intro w hSw; (try dsimp only at hSw); go_simp); try with_reducible rfl)
    try simp only [Act.put, List.getElem_toArray, List.getElem_cons_succ, List.getElem_cons_zero, List.setIfInBounds_toArray, List.set_cons_zero, List.set_cons_succ]
    refine wpAnyH_take (i := 9) (v := ?v1909) rfl (by kernel_rfl) (by kernel_rfl) (by kernel_rfl) (fun _ _ _ h => h) (Or.inl ⟨by rfl, ?y1909⟩) (by assumption) ?r1909
    case y1909 => ((intro w hSw; (try dsimp only at hSw); go_simp); try with_reducible rfl)
    try simp only [Act.put, List.getElem_toArray, List.getElem_cons_succ, List.getElem_cons_zero, List.setIfInBounds_toArray, List.set_cons_zero, List.set_cons_succ]
    refine wpAnyH_take (i := 11) (v := ?v1910) rfl (by kernel_rfl) (by kernel_rfl) (by kernel_rfl) (fun _ _ _ h => h) (Or.inl ⟨by rfl, ?y1910⟩) (by assumption) ?r1910
    case y1910 => ((intro w hSw; (try dsimp only at hSw); go_simp); try with_reducible rfl)
    try simp only [Act.put, List.getElem_toArray, List.getElem_cons_succ, List.getElem_cons_zero, List.setIfInBounds_toArray, List.set_cons_zero, List.set_cons_succ]
    refine wpAnyH_take (i := 12) (v := ?v1911) rfl (by kernel_rfl) (by kernel_rfl) (by kernel_rfl) (fun _ _ _ h => h) (Or.inl ⟨by rfl, ?y1911⟩) (by assumption) ?r1911
    case y1911 => ((intro w hSw; (try dsimp only at hSw); go_simp); try with_reducible rfl)
    try simp only [Act.put, List.getElem_toArray, List.getElem_cons_succ, List.getElem_cons_zero, List.setIfInBounds_toArray, List.set_cons_zero, List.set_cons_succ]
    refine wpAnyH_take (i := 13) (v := ?v1912) rfl (by kernel_rfl) (by kernel_rfl) (by kernel_rfl) (fun _ _ _ h => h) (Or.inl ⟨by rfl, ?y1912⟩) (by assumption) ?r1912
    case y1912 => ((intro w hSw; (try dsimp only at hSw); go_simp); try with_reducible rfl)
    try simp only [Act.put, List.getElem_toArray, List.getElem_cons_succ, List.getElem_cons_zero, List.setIfInBounds_toArray, List.set_cons_zero, List.set_cons_succ]
    refine wpAnyH_take (i := 14) (v := ?v1913) rfl (by kernel_rfl) (by kernel_rfl) (by kernel_rfl) (fun _ _ _ h => h) (Or.inl ⟨by rfl, ?y1913⟩) (by assumption) ?r1913
    case y1913 => ((intro w hSw; (try dsimp only at hSw); go_simp); try with_reducible rfl)
    try simp only [Act.put, List.getElem_toArray, List.getElem_cons_succ, List.getElem_cons_zero, List.setIfInBounds_toArray, List.set_cons_zero, List.set_cons_succ]
    refine wpAnyH_take (i := 15) (v := ?v1914) rfl (by kernel_rfl) (by kernel_rfl) (by kernel_rfl) (fun _ _ _ h => h) (Or.inl ⟨by rfl, ?y1914⟩) (by assumption) ?r1914
    case y1914 => ((intro w hSw; (try dsimp only at hSw); go_simp); try with_reducible rfl)
    try simp only [Act.put, List.getElem_toArray, List.getElem_cons_succ, List.getElem_cons_zero, List.setIfInBounds_toArray, List.set_cons_zero, List.set_cons_succ]
    refine wpAnyH_ready (rs := [10]) (by kernel_rfl) (by simp) ?_
    refine AllReadyH.cons rfl (fun K hK => ?_) ?_
    · go_simp
      refine DP.out.mono ?_
      rintro e wS ⟨rfl, rfl⟩
      refine hK.out _ _ (hHeld) (fun hHeld' => ?_)
      clear hHeld
      have hHeld := hHeld'
      clear hHeld'
      clear hK K
      try simp only [Act.put, List.getElem_toArray, List.getElem_cons_succ, List.getElem_cons_zero, List.setIfInBounds_toArray, List.set_cons_zero, List.set_cons_succ]
      refine wpAnyH_take (i := 16) (v := ?v1915) rfl (by kernel_rfl) (by kernel_rfl) (by kernel_rfl) (fun _ _ _ h => h) (Or.inl ⟨by rfl, ?y1915⟩) (by assumption) ?r1915
      case y1915 => ((intro w hSw; (try dsimp only at hSw); go_simp); try with_reducible rfl)
      try simp only [Act.put, List.getElem_toArray, List.getElem_cons_succ, List.getElem_cons_zero, List.setIfInBounds_toArray, List.set_cons_zero, List.set_cons_succ]
      refine wpAnyH_take (i := 17) (v := ?v1916) rfl (by kernel_rfl) (by kernel_rfl) (by kernel_rfl) (fun _ _ _ h => h) (Or.inl ⟨by rfl, ?y1916⟩) (by assumption) ?r1916
      case y1916 => ((intro w hSw; (try dsimp only at hSw); go_simp); try with_reducible rfl)
      try simp only [Act.put, List.getElem_toArray, List.getElem_cons_succ, List.getElem_cons_zero, List.setIfInBounds_toArray, List.set_cons_zero, List.set_cons_succ]
      refine wpAnyH_take (i := 18) (v := ?v1917) rfl (by kernel_rfl) (by kernel_rfl) (by kernel_rfl) (fun _ _ _ h => h) (Or.inl ⟨by rfl, ?y1917⟩) (by assumption) ?r1917
      case y1917 => ((intro w hSw; (try dsimp only at hSw); go_simp); try with_reducible rfl)
      try simp only [Act.put, List.getElem_toArray, List.getElem_cons_succ, List.getElem_cons_zero, List.setIfInBounds_toArray, List.set_cons_zero, List.set_cons_succ]
      refine wpAnyH_take (i := 19) (v := ?v1918) rfl (by kernel_rfl) (by kernel_rfl) (by kernel_rfl) (fun _ _ _ h => h) (Or.inl ⟨by rfl, ?y1918⟩) (by assumption) ?r1918
      case y1918 => ((intro w hSw; (try dsimp only at hSw); go_simp); try with_reducible rfl)
      try simp only [Act.put, List.getElem_toArray, List.getElem_cons_succ, List.getElem_cons_zero, List.setIfInBounds_toArray, List.set_cons_zero, List.set_cons_succ]
      refine wpAnyH_take (i := 21) (v := ?v1919) rfl (by kernel_rfl) (by kernel_rfl) (by kernel_rfl) (fun _ _ _ h => h) (Or.inl ⟨by rfl, ?y1919⟩) (by assumption) ?r1919
      case y1919 => ((intro w hSw; (try dsimp only at hSw); go_simp); try with_reducible rfl)
      try simp only [Act.put, List.getElem_toArray, List.getElem_cons_succ, List.getElem_cons_zero, List.setIfInBounds_toArray, List.set_cons_zero, List.set_cons_succ]
      refine wpAnyH_take (i := 22) (v := ?v1920) rfl (by kernel_rfl) (by kernel_rfl) (by kernel_rfl) (fun _ _ _ h => h) (Or.inl ⟨by rfl, ?y1920⟩) (by assumption) ?r1920
      case y1920 => ((intro w hSw; (try dsimp only at hSw); go_simp); try with_reducible rfl)
      try simp only [Act.put, List.getElem_toArray, List.getElem_cons_succ, List.getElem_cons_zero, List.setIfInBounds_toArray, List.set_cons_zero, List.set_cons_succ]
      refine wpAnyH_take (i := 23) (v := ?v1921) rfl (by kernel_rfl) (by kernel_rfl) (by kernel_rfl) (fun _ _ _ h => h) (Or.inl ⟨by rfl, ?y1921⟩) (by assumption) ?r1921
      case y1921 => ((intro w hSw; (try dsimp only at hSw); go_simp); try with_reducible rfl)
      try simp only [Act.put, List.getElem_toArray, List.getElem_cons_succ, List.getElem_cons_zero, List.setIfInBounds_toArray, List.set_cons_zero, List.set_cons_succ]
      refine wpAnyH_take (i := 24) (v := ?v1922) rfl (by kernel_rfl) (by kernel_rfl) (by kernel_rfl) (fun _ _ _ h => h) (Or.inl ⟨by rfl, ?y1922⟩) (by assumption) ?r1922
      case y1922 => ((intro w hSw; (try dsimp only at hSw); go_simp); try with_reducible rfl)
      try simp only [Act.put, List.getElem_toArray, List.getElem_cons_succ, List.getElem_cons_zero, List.setIfInBounds_toArray, List.set_cons_zero, List.set_cons_succ]
      refine wpAnyH_ready (rs := [20]) (by kernel_rfl) (by simp) ?_
      refine AllReadyH.cons rfl (fun K hK => ?_) ?_
      · go_simp
        refine CC.out.mono ?_
        rintro e w5 ⟨v, rfl, hv5, hg5⟩
        obtain ⟨A5, c5, rfl, _, _⟩ := hv5.form
        have HX5 := Lib.hid (HX4.out.grown hg5)
        have HV5 := Lib.hid hv5.srcL
        refine hK.out _ _ (⟨cell_grown hHeld.1 hg5, cell_grown hHeld.2 hg5⟩) (fun hHeld' => ?_)
        clear hHeld
        have hHeld := hHeld'
        clear hHeld'
        clear hv5 hg5
        clear hK K
        try simp only [Act.put, List.getElem_toArray, List.getElem_cons_succ, List.getElem_cons_zero, List.setIfInBounds_toArray, List.set_cons_zero, List.set_cons_succ]
        refine wpAnyH_ready (rs := [25]) (by kernel_rfl) (by simp) ?_
        refine AllReadyH.cons rfl (fun K hK => ?_) ?_
        · go_simp
          refine (eq_yes A5 A C.length C.length c5 c C w5 rfl rfl (by have := HB.out.2.1; omega) HV5.out HX5.out.oC.srcL).mono ?_
          rintro e w6 ⟨rfl, hg6⟩
          have HX6 := Lib.hid (HX5.out.grown hg6)
          refine hK.out _ _ (⟨cell_grown hHeld.1 hg6, cell_grown hHeld.2 hg6⟩) (fun hHeld' => ?_)
          clear hHeld
          have hHeld := hHeld'
          clear hHeld'
          clear hg6
          clear hK K
          try simp only [Act.put, List.getElem_toArray, List.getElem_cons_succ, List.getElem_cons_zero, List.setIfInBounds_toArray, List.set_cons_zero, List.set_cons_succ]
          refine wpAnyH_take (i := 26) (v := ?v1923) rfl (by kernel_rfl) (by kernel_rfl) (by kernel_rfl) (fun _ _ _ h => h) (Or.inl ⟨by rfl, ?y1923⟩) (by assumption) ?r1923
          case y1923 => ((intro w hSw; (try dsimp only at hSw); go_simp); try with_reducible rfl)
          try simp only [Act.put, List.getElem_toArray, List.getElem_cons_succ, List.getElem_cons_zero, List.setIfInBounds_toArray, List.set_cons_zero, List.set_cons_succ]
          refine wpAnyH_take (i := 27) (v := ?v1924) rfl (by kernel_rfl) (by kernel_rfl) (by kernel_rfl) (fun _ _ _ h => h) (Or.inl ⟨by rfl, ?y1924⟩) (by assumption) ?r1924
          case y1924 => ((intro w hSw; (try dsimp only at hSw); go_simp); try with_reducible rfl)
          try simp only [Act.put, List.getElem_toArray, List.getElem_cons_succ, List.getElem_cons_zero, List.setIfInBounds_toArray, List.set_cons_zero, List.set_cons_succ]
          refine wpAnyH_done (by kernel_rfl) ?_ _
          refine NoPanic.normal ?_
          clear hHeld
          go_wp2_with fail
          clear hl1 hl2
          go_loopw [5] (fun ix wr => ∃ j : Nat, j ≤ C.length + 2 ∧ ix = .int .i64 ((j : Int) - 1) ∧ Hid (PS w0 wr t cnt x C M C M)) (fun ix _ => C.length + 2 - (intOf ix + 1).toNat)
          case atStart => exact ⟨0, Nat.zero_le _, rfl, Lib.hid ⟨Q, _, _, HX6.out⟩⟩
          case round =>
            clear HX6
            obtain ⟨j, hj, rfl, HP⟩ := hrel
            obtain ⟨Q', A', c', B', e', hx'⟩ := HP.out.form
            have c0 := hx'.c0
            have HXX := Lib.hid hx'
            have G := Lib.hid (fun (ix : Int) (hix : ix ≤ 9223372036854775807) => get_st hx'.st ix hix)
            clear hx'
            have hcl : (C.length : Int) ≤ 70 := by have := HB.out.2.1; omega
            cases j with
            | zero =>
              have e0 : ((0 : Nat) : Int) - 1 = -1 := rfl
              rw [e0]
              have GG := Lib.hid (G.out (-1) (by decide))
              have hgl : getL C (-1) = 0 := by unfold getL; rw [if_neg (by decide)]
              rw [hgl] at GG
              have hneg : (-1 : Int) ≤ (C.length : Int) := by omega
              clear e0 hgl G hj
              go_wp2_with (go_at_call 22; refine GG.out.mono ?_; rintro e w7 ⟨rfl, h7⟩; have H7 := Lib.hid (HP.out.grown h7); clear h7)
              go_roundw
              case rel => exact ⟨1, by omega, rfl, H7⟩
              case measure => simp [intOf] <;> omega
            | succ m =>
              have e0 : ((m + 1 : Nat) : Int) - 1 = (m : Int) := by omega
              rw [e0]
              have HJ := Lib.hid hj
              by_cases hm : m < C.length
              · have GG := Lib.hid (G.out (m : Int) (by omega))
                have hgl : getL C (m : Int) = nthI C m := by unfold getL; rw [if_pos (by omega)]; rfl
                rw [hgl] at GG
                obtain ⟨A2, c2, hv2, _, hA2⟩ := HXX.out.oC.form
                simp only [Value.slice.injEq, true_and] at hv2
                obtain ⟨rfl, rfl⟩ := hv2
                obtain ⟨g, rfl, _⟩ := hA2 (by omega)
                have q0 := HXX.out.oC.cell m hm
                have hmi : (m : Int) < (C.length : Int) := by omega
                have hml : (m : Int) ≤ (C.length : Int) := by omega
                have hm0 : (0 : Int) ≤ (m : Int) := by omega
                clear e0 hgl G hj hm hA2
                go_wp2_with (go_at_call 22; refine GG.out.mono ?_; rintro e w7 ⟨rfl, h7⟩; have H7 := Lib.hid (HP.out.grown h7); clear h7)
                go_roundw
                case rel => exact ⟨m + 2, by omega, by congr 1; omega, H7⟩
                case measure => simp [intOf] <;> omega
              · by_cases hme : m = C.length
                · have GG := Lib.hid (G.out (m : Int) (by omega))
                  have hgl : getL C (m : Int) = 0 := by
                    unfold getL nthI
                    rw [if_pos (by omega), List.getD_eq_getElem?_getD, List.getElem?_eq_none (by omega)]
                    rfl
                  rw [hgl] at GG
                  have hmi : ¬ ((m : Int) < (C.length : Int)) := by omega
                  have hml : (m : Int) ≤ (C.length : Int) := by omega
                  have hm0 : (0 : Int) ≤ (m : Int) := by omega
                  have HME := Lib.hid hme
                  clear e0 hgl G hj hm hme
                  go_wp2_with (go_at_call 22; refine GG.out.mono ?_; rintro e w7 ⟨rfl, h7⟩; have H7 := Lib.hid (HP.out.grown h7); clear h7)
                  go_roundw
                  case rel => exact ⟨m + 2, by have := HME.out; omega, by congr 1; omega, H7⟩
                  case measure => have := HME.out; simp [intOf] <;> omega
                · have hml : ¬ ((m : Int) ≤ (C.length : Int)) := by omega
                  clear e0 G hj hm hme
                  go_wp2_with fail
                  go_ret
                  exact ⟨rfl, HP.out⟩
        exact AllReadyH.nil
      exact AllReadyH.nil
    exact AllReadyH.nil
  exact AllReadyH.nil
end Go.Proofs.Ytafcecacldafgaa
