/- The walk of TrailPlays (no statement of its own). -/
import Derived.Test.YtafcecacldafgaaTmF
import Derived.Deep.CutBlock
namespace Go.Proofs.Ytafcecacldafgaa
namespace TmG
open Go.RowKit
set_option linter.unusedVariables false
/-- Acts that came in. -/
def Acts (w : World) (a1 : Option Addr) (na : Nat) : Prop :=
  (∀ j, j < na → ∃ (p : Addr) (d x pr : Int), a1 = some p ∧ p.block < w.heap.size ∧ w.cell? (p.add (j * 3)) = some (.int .u8 d) ∧ w.cell? ⟨(p.add (j * 3)).block, (p.add (j * 3)).off + 1, none⟩ = some (.int .i64 x) ∧
    w.cell? ⟨(p.add (j * 3)).block, (p.add (j * 3)).off + 2, none⟩ = some (.int .i64 pr) ∧ 0 ≤ d ∧ d ≤ 255 ∧ -9223372036854775808 ≤ x ∧ x ≤ 9223372036854775807) ∧ (na : Int) ≤ 9223372036854775807
theorem rep_bd (lo nK : Nat) (h : nK ≤ 12) (hl : lo ≤ nK) : Bd lo (List.replicate nK 0) [] := ⟨Nat.zero_le _, by simp; omega, (fun E hE => by cases hE), by simp; omega, (fun E hE => by cases hE)⟩
set_option maxRecDepth 100000 in
set_option maxHeartbeats 16000000 in
theorem main (a0 : Int) (a1 : Option Addr) (na ca : Nat) (w : World) (h0 : 0 ≤ a0) (h1 : a0 ≤ 255) (hact : Acts w a1 na) :
    Calls Try.prog 3 #[.int .u8 a0, .slice a1 na ca] w fun e w' => e = .returned (.bool true) ∧ Below w.heap.size w w' := by
  have HAC := Lib.hid hact.1
  have HNA := Lib.hid hact.2
  obtain ⟨nK, hK⟩ : ∃ nK : Nat, a0 % 12 = (nK : Int) := ⟨(a0 % 12).toNat, by omega⟩
  have hK12 : nK < 12 := by omega
  clear hact
  go_enter Try.func3, Try.ntmps3
  go_upto_region 4 with (go_at_call 9; refine (awake_true _).mono ?_; rintro e W0 ⟨rfl, hb1⟩)
  have HB0 := Lib.hid hb1
  have HWS := Lib.hid hb1.size
  clear hb1
  clear hK
  go_cut [6, 7] from 15 to 20 (fun v6 v7 wx => ∃ t xb : Nat, v6 = .pointer (some ⟨t, 0, none⟩) ∧ v7 = .pointer (some ⟨xb, 0, none⟩) ∧ Hid (PS W0 wx t 0 xb (List.replicate nK 0) [] (List.replicate nK 0) []))
  case first =>
    refine wp_region_noPanic ?_
    refine wp_region_held_drew (S := fun _ => True) (by kernel_rfl) trivial (fun hHeld => ?_)
    have HK0 : Hid (Kp (fun k => W0.heap.size ≤ k) W0 W0.drew) := Lib.hid (Kp.none (grown_drew (World.grownBy_refl _)))
    have HK40 := HK0
    generalize W0.drew = w4 at *
    refine wpAnyH_take (i := 0) (v := ?v2501) rfl (by kernel_rfl) (by kernel_rfl) (by kernel_rfl) (fun _ _ _ h => h) (Or.inl ⟨by rfl, ?y2501⟩) (by assumption) ?r2501
    case y2501 => ((intro w hSw; (try dsimp only at hSw); go_simp); try with_reducible rfl)
    try simp only [Act.put, List.getElem_toArray, List.getElem_cons_zero, List.setIfInBounds_toArray, List.set_cons_zero, List.set_cons_succ]
    refine wpAnyH_take (i := 2) (v := ?v2502) rfl (by kernel_rfl) (by kernel_rfl) (by kernel_rfl) (fun _ _ _ h => h) (Or.inl ⟨by rfl, ?y2502⟩) (by assumption) ?r2502
    case y2502 => ((intro w hSw; (try dsimp only at hSw); go_simp); try with_reducible rfl)
    try simp only [Act.put, List.getElem_toArray, List.getElem_cons_succ, List.getElem_cons_zero, List.setIfInBounds_toArray, List.set_cons_zero, List.set_cons_succ]
    refine wpAnyH_ready (rs := [1, 3]) (by kernel_rfl) (by simp) ?_
    refine AllReadyH.cons rfl (fun K hK => ?_) ?_
    · go_simp
      refine (new_st (nK : Int) nK w4 (by omega)).mono ?_
      rintro e wN hN
      obtain rfl := hN.e
      have hk := hN.kp
      have HSt : Hid (St wN (w4.heap.size + 1) 0 (fun k => w4.heap.size ≤ k ∧ k < wN.heap.size) (List.replicate nK 0) []) := Lib.hid (hN.st.mono fun k hk' q => ⟨q.elim False.elim id, hk'⟩)
      have HZ1 : Hid (w4.heap.size ≤ wN.heap.size) := Lib.hid hk.size
      have HK0 := Lib.hid (HK0.out.trans (hk.mono fun k _ q => q.elim))
      refine hK.out _ _ (trivial) (fun hHeld' => ?_)
      clear hHeld
      have hHeld := hHeld'
      clear hHeld'
      clear hN hk
      obtain ⟨t, ht⟩ : ∃ t, w4.heap.size + 1 = t := ⟨_, rfl⟩
      have HTE := Lib.hid ht
      rw [ht] at HSt ⊢
      clear ht
      clear hK K
      try simp only [Act.put, List.getElem_toArray, List.getElem_cons_succ, List.getElem_cons_zero, List.setIfInBounds_toArray, List.set_cons_zero, List.set_cons_succ]
      refine wpAnyH_take (i := 6) (v := ?v2503) rfl (by kernel_rfl) (by kernel_rfl) (by kernel_rfl) (fun _ _ _ h => h) (Or.inl ⟨by rfl, ?y2503⟩) (by assumption) ?r2503
      case y2503 => ((intro w hSw; (try dsimp only at hSw); go_simp); try with_reducible rfl)
      try simp only [Act.put, List.getElem_toArray, List.getElem_cons_succ, List.getElem_cons_zero, List.setIfInBounds_toArray, List.set_cons_zero, List.set_cons_succ]
      refine wpAnyH_ready (rs := [3]) (by kernel_rfl) (by simp) ?_
      refine AllReadyH.cons rfl (fun K hK => ?_) ?_
      · have hm := madeL nK (by omega) wN
        go_simp
        clear hm
        have hg := World.grownBy_alloc wN (.cells (madeCells #[.int .i64 0] nK) 2) none
        have HO := Lib.hid (made_own wN nK W0.heap.size (by omega) HK0.out.size)
        have HSt := Lib.hid (HSt.out.grown hg)
        have HK0 := Lib.hid (HK0.out.trans (Kp.none hg))
        have HZ3 : Hid ((wN.alloc (.cells (madeCells #[.int .i64 0] nK) 2)).heap.size = wN.heap.size + 1) := Lib.hid (by simp)
        refine hK.out _ _ (trivial) (fun hHeld' => ?_)
        clear hHeld
        have hHeld := hHeld'
        clear hHeld'
        clear hg
        obtain ⟨gM, hgM⟩ : ∃ gM, wN.heap.size = gM := ⟨_, rfl⟩
        have HGM := Lib.hid hgM
        rw [hgM] at HO ⊢
        clear hgM
        generalize wN.alloc (.cells (madeCells #[.int .i64 0] nK) 2) = wM at *
        clear hK K
        try simp only [Act.put, List.getElem_toArray, List.getElem_cons_succ, List.getElem_cons_zero, List.setIfInBounds_toArray, List.set_cons_zero, List.set_cons_succ]
        refine wpAnyH_take (i := 4) (v := ?v2504) rfl (by kernel_rfl) (by kernel_rfl) (by kernel_rfl) (fun _ _ _ h => h) (Or.inl ⟨by rfl, ?y2504⟩) (by assumption) ?r2504
        case y2504 => ((intro w hSw; (try dsimp only at hSw); go_simp); try with_reducible rfl)
        try simp only [Act.put, List.getElem_toArray, List.getElem_cons_succ, List.getElem_cons_zero, List.setIfInBounds_toArray, List.set_cons_zero, List.set_cons_succ]
        refine wpAnyH_ready (rs := [5]) (by kernel_rfl) (by simp) ?_
        refine AllReadyH.cons rfl (fun K hK => ?_) ?_
        · go_simp
          have hg := World.grownBy_alloc wM (.cells #[.slice (some ⟨gM, 0, none⟩) nK nK, .slice none 0 0] 30) none
          have HSt := Lib.hid (HSt.out.grown hg)
          have HO := Lib.hid (HO.out.kept hg (own_or _))
          have HK0 := Lib.hid (HK0.out.trans (Kp.none hg))
          have HXb := Lib.hid (heap_alloc_new wM (.cells #[.slice (some ⟨gM, 0, none⟩) nK nK, .slice none 0 0] 30))
          have HZ5 : Hid ((wM.alloc (.cells #[.slice (some ⟨gM, 0, none⟩) nK nK, .slice none 0 0] 30)).heap.size = wM.heap.size + 1) := Lib.hid (by simp)
          refine hK.out _ _ (trivial) (fun hHeld' => ?_)
          clear hHeld
          have hHeld := hHeld'
          clear hHeld'
          clear hg
          obtain ⟨xb, hxb⟩ : ∃ xb, wM.heap.size = xb := ⟨_, rfl⟩
          have HXE := Lib.hid hxb
          rw [hxb] at HXb ⊢
          clear hxb
          generalize wM.alloc (.cells #[.slice (some ⟨gM, 0, none⟩) nK nK, .slice none 0 0] 30) = wX at *
          clear hK K
          try simp only [Act.put, List.getElem_toArray, List.getElem_cons_succ, List.getElem_cons_zero, List.setIfInBounds_toArray, List.set_cons_zero, List.set_cons_succ]
          refine wpAnyH_take (i := 7) (v := ?v2505) rfl (by kernel_rfl) (by kernel_rfl) (by kernel_rfl) (fun _ _ _ h => h) (Or.inl ⟨by rfl, ?y2505⟩) (by assumption) ?r2505
          case y2505 => ((intro w hSw; (try dsimp only at hSw); go_simp); try with_reducible rfl)
          try simp only [Act.put, List.getElem_toArray, List.getElem_cons_succ, List.getElem_cons_zero, List.setIfInBounds_toArray, List.set_cons_zero, List.set_cons_succ]
          refine wpAnyH_done (by kernel_rfl) ?_ _
          refine NoPanic.normal ?_
          clear hHeld
          have z1 := HZ1.out
          have z3 := HZ3.out
          have z5 := HZ5.out
          have zg := HGM.out
          have zx := HXE.out
          have zt := HTE.out
          have zk := HK40.out.size
          have PSF : PS W0 wX t 0 xb (List.replicate nK 0) [] (List.replicate nK 0) [] := by
            have ho := HO.out
            rw [show (Value.slice (some ⟨gM, 0, none⟩) nK nK) = Value.slice (some ⟨gM, 0, none⟩) nK nK from rfl] at ho
            exact ⟨fun k => w4.heap.size ≤ k ∧ k < wN.heap.size, .slice (some ⟨gM, 0, none⟩) nK nK, .slice none 0 0, HSt.out, HXb.out, ho, fun g hg q => by
              simp only [Value.ownBlock, Option.some.injEq] at hg
              omega, LL.nil _ _, fun g hg => by simp [Value.ownBlock] at hg, fun q => by omega, by omega, fun k q => by omega, HK0.out⟩
          have HPS := Lib.hid PSF
          clear PSF z1 z3 z5 zg zx zt zk
          go_wp2_with fail
          go_meet
          case rel => exact ⟨t, xb, rfl, rfl, HPS⟩
        exact AllReadyH.nil
      exact AllReadyH.nil
    refine AllReadyH.cons rfl (fun K hK => ?_) ?_
    · have hm := madeL nK (by omega) w4
      go_simp
      clear hm
      have hg := World.grownBy_alloc w4 (.cells (madeCells #[.int .i64 0] nK) 2) none
      have HO := Lib.hid (made_own w4 nK W0.heap.size (by omega) HK0.out.size)
      have HK0 := Lib.hid (HK0.out.trans (Kp.none hg))
      have HZ3 : Hid ((w4.alloc (.cells (madeCells #[.int .i64 0] nK) 2)).heap.size = w4.heap.size + 1) := Lib.hid (by simp)
      refine hK.out _ _ (trivial) (fun hHeld' => ?_)
      clear hHeld
      have hHeld := hHeld'
      clear hHeld'
      clear hg
      obtain ⟨gM, hgM⟩ : ∃ gM, w4.heap.size = gM := ⟨_, rfl⟩
      have HGM := Lib.hid hgM
      rw [hgM] at HO ⊢
      clear hgM
      generalize w4.alloc (.cells (madeCells #[.int .i64 0] nK) 2) = wM at *
      clear hK K
      try simp only [Act.put, List.getElem_toArray, List.getElem_cons_succ, List.getElem_cons_zero, List.setIfInBounds_toArray, List.set_cons_zero, List.set_cons_succ]
      refine wpAnyH_take (i := 4) (v := ?v2506) rfl (by kernel_rfl) (by kernel_rfl) (by kernel_rfl) (fun _ _ _ h => h) (Or.inl ⟨by rfl, ?y2506⟩) (by assumption) ?r2506
      case y2506 => ((intro w hSw; (try dsimp only at hSw); go_simp); try with_reducible rfl)
      try simp only [Act.put, List.getElem_toArray, List.getElem_cons_succ, List.getElem_cons_zero, List.setIfInBounds_toArray, List.set_cons_zero, List.set_cons_succ]
      refine wpAnyH_ready (rs := [1, 5]) (by kernel_rfl) (by simp) ?_
      refine AllReadyH.cons rfl (fun K hK => ?_) ?_
      · go_simp
        refine (new_st (nK : Int) nK wM (by omega)).mono ?_
        rintro e wN hN
        obtain rfl := hN.e
        have hk := hN.kp
        have HSt : Hid (St wN (wM.heap.size + 1) 0 (fun k => wM.heap.size ≤ k ∧ k < wN.heap.size) (List.replicate nK 0) []) := Lib.hid (hN.st.mono fun k hk' q => ⟨q.elim False.elim id, hk'⟩)
        have HZ1 : Hid (wM.heap.size ≤ wN.heap.size) := Lib.hid hk.size
        have HO := Lib.hid (HO.out.block fun g hg => hk.block g (World.ownsRow.lt HO.out g hg).2 (fun q => q))
        have HK0 := Lib.hid (HK0.out.trans (hk.mono fun k _ q => q.elim))
        refine hK.out _ _ (trivial) (fun hHeld' => ?_)
        clear hHeld
        have hHeld := hHeld'
        clear hHeld'
        clear hN hk
        obtain ⟨t, ht⟩ : ∃ t, wM.heap.size + 1 = t := ⟨_, rfl⟩
        have HTE := Lib.hid ht
        rw [ht] at HSt ⊢
        clear ht
        clear hK K
        try simp only [Act.put, List.getElem_toArray, List.getElem_cons_succ, List.getElem_cons_zero, List.setIfInBounds_toArray, List.set_cons_zero, List.set_cons_succ]
        refine wpAnyH_take (i := 6) (v := ?v2507) rfl (by kernel_rfl) (by kernel_rfl) (by kernel_rfl) (fun _ _ _ h => h) (Or.inl ⟨by rfl, ?y2507⟩) (by assumption) ?r2507
        case y2507 => ((intro w hSw; (try dsimp only at hSw); go_simp); try with_reducible rfl)
        try simp only [Act.put, List.getElem_toArray, List.getElem_cons_succ, List.getElem_cons_zero, List.setIfInBounds_toArray, List.set_cons_zero, List.set_cons_succ]
        refine wpAnyH_ready (rs := [5]) (by kernel_rfl) (by simp) ?_
        refine AllReadyH.cons rfl (fun K hK => ?_) ?_
        · go_simp
          have hg := World.grownBy_alloc wN (.cells #[.slice (some ⟨gM, 0, none⟩) nK nK, .slice none 0 0] 30) none
          have HSt := Lib.hid (HSt.out.grown hg)
          have HO := Lib.hid (HO.out.kept hg (own_or _))
          have HK0 := Lib.hid (HK0.out.trans (Kp.none hg))
          have HXb := Lib.hid (heap_alloc_new wN (.cells #[.slice (some ⟨gM, 0, none⟩) nK nK, .slice none 0 0] 30))
          have HZ5 : Hid ((wN.alloc (.cells #[.slice (some ⟨gM, 0, none⟩) nK nK, .slice none 0 0] 30)).heap.size = wN.heap.size + 1) := Lib.hid (by simp)
          refine hK.out _ _ (trivial) (fun hHeld' => ?_)
          clear hHeld
          have hHeld := hHeld'
          clear hHeld'
          clear hg
          obtain ⟨xb, hxb⟩ : ∃ xb, wN.heap.size = xb := ⟨_, rfl⟩
          have HXE := Lib.hid hxb
          rw [hxb] at HXb ⊢
          clear hxb
          generalize wN.alloc (.cells #[.slice (some ⟨gM, 0, none⟩) nK nK, .slice none 0 0] 30) = wX at *
          clear hK K
          try simp only [Act.put, List.getElem_toArray, List.getElem_cons_succ, List.getElem_cons_zero, List.setIfInBounds_toArray, List.set_cons_zero, List.set_cons_succ]
          refine wpAnyH_take (i := 7) (v := ?v2508) rfl (by kernel_rfl) (by kernel_rfl) (by kernel_rfl) (fun _ _ _ h => h) (Or.inl ⟨by rfl, ?y2508⟩) (by assumption) ?r2508
          case y2508 => ((intro w hSw; (try dsimp only at hSw); go_simp); try with_reducible rfl)
          try simp only [Act.put, List.getElem_toArray, List.getElem_cons_succ, List.getElem_cons_zero, List.setIfInBounds_toArray, List.set_cons_zero, List.set_cons_succ]
          refine wpAnyH_done (by kernel_rfl) ?_ _
          refine NoPanic.normal ?_
          clear hHeld
          have z1 := HZ1.out
          have z3 := HZ3.out
          have z5 := HZ5.out
          have zg := HGM.out
          have zx := HXE.out
          have zt := HTE.out
          have zk := HK40.out.size
          have PSF : PS W0 wX t 0 xb (List.replicate nK 0) [] (List.replicate nK 0) [] := by
            have ho := HO.out
            rw [show (Value.slice (some ⟨gM, 0, none⟩) nK nK) = Value.slice (some ⟨gM, 0, none⟩) nK nK from rfl] at ho
            exact ⟨fun k => wM.heap.size ≤ k ∧ k < wN.heap.size, .slice (some ⟨gM, 0, none⟩) nK nK, .slice none 0 0, HSt.out, HXb.out, ho, fun g hg q => by
              simp only [Value.ownBlock, Option.some.injEq] at hg
              omega, LL.nil _ _, fun g hg => by simp [Value.ownBlock] at hg, fun q => by omega, by omega, fun k q => by omega, HK0.out⟩
          have HPS := Lib.hid PSF
          clear PSF z1 z3 z5 zg zx zt zk
          go_wp2_with fail
          go_meet
          case rel => exact ⟨t, xb, rfl, rfl, HPS⟩
        exact AllReadyH.nil
      refine AllReadyH.cons rfl (fun K hK => ?_) ?_
      · go_simp
        have hg := World.grownBy_alloc wM (.cells #[.slice (some ⟨gM, 0, none⟩) nK nK, .slice none 0 0] 30) none
        have HO := Lib.hid (HO.out.kept hg (own_or _))
        have HK0 := Lib.hid (HK0.out.trans (Kp.none hg))
        have HXb := Lib.hid (heap_alloc_new wM (.cells #[.slice (some ⟨gM, 0, none⟩) nK nK, .slice none 0 0] 30))
        have HZ5 : Hid ((wM.alloc (.cells #[.slice (some ⟨gM, 0, none⟩) nK nK, .slice none 0 0] 30)).heap.size = wM.heap.size + 1) := Lib.hid (by simp)
        refine hK.out _ _ (trivial) (fun hHeld' => ?_)
        clear hHeld
        have hHeld := hHeld'
        clear hHeld'
        clear hg
        obtain ⟨xb, hxb⟩ : ∃ xb, wM.heap.size = xb := ⟨_, rfl⟩
        have HXE := Lib.hid hxb
        rw [hxb] at HXb ⊢
        clear hxb
        generalize wM.alloc (.cells #[.slice (some ⟨gM, 0, none⟩) nK nK, .slice none 0 0] 30) = wX at *
        clear hK K
        try simp only [Act.put, List.getElem_toArray, List.getElem_cons_succ, List.getElem_cons_zero, List.setIfInBounds_toArray, List.set_cons_zero, List.set_cons_succ]
        refine wpAnyH_ready (rs := [1]) (by kernel_rfl) (by simp) ?_
        refine AllReadyH.cons rfl (fun K hK => ?_) ?_
        · go_simp
          refine (new_st (nK : Int) nK wX (by omega)).mono ?_
          rintro e wN hN
          obtain rfl := hN.e
          have hk := hN.kp
          have HSt : Hid (St wN (wX.heap.size + 1) 0 (fun k => wX.heap.size ≤ k ∧ k < wN.heap.size) (List.replicate nK 0) []) := Lib.hid (hN.st.mono fun k hk' q => ⟨q.elim False.elim id, hk'⟩)
          have HZ1 : Hid (wX.heap.size ≤ wN.heap.size) := Lib.hid hk.size
          have HO := Lib.hid (HO.out.block fun g hg => hk.block g (World.ownsRow.lt HO.out g hg).2 (fun q => q))
          have HXb := Lib.hid ((hk.block xb (Array.getElem?_eq_some_iff.1 HXb.out).1 (fun q => q)).trans HXb.out)
          have HK0 := Lib.hid (HK0.out.trans (hk.mono fun k _ q => q.elim))
          refine hK.out _ _ (trivial) (fun hHeld' => ?_)
          clear hHeld
          have hHeld := hHeld'
          clear hHeld'
          clear hN hk
          obtain ⟨t, ht⟩ : ∃ t, wX.heap.size + 1 = t := ⟨_, rfl⟩
          have HTE := Lib.hid ht
          rw [ht] at HSt ⊢
          clear ht
          clear hK K
          try simp only [Act.put, List.getElem_toArray, List.getElem_cons_succ, List.getElem_cons_zero, List.setIfInBounds_toArray, List.set_cons_zero, List.set_cons_succ]
          refine wpAnyH_take (i := 6) (v := ?v2509) rfl (by kernel_rfl) (by kernel_rfl) (by kernel_rfl) (fun _ _ _ h => h) (Or.inl ⟨by rfl, ?y2509⟩) (by assumption) ?r2509
          case y2509 => ((intro w hSw; (try dsimp only at hSw); go_simp); try with_reducible rfl)
          try simp only [Act.put, List.getElem_toArray, List.getElem_cons_succ, List.getElem_cons_zero, List.setIfInBounds_toArray, List.set_cons_zero, List.set_cons_succ]
          refine wpAnyH_take (i := 7) (v := ?v2510) rfl (by kernel_rfl) (by kernel_rfl) (by kernel_rfl) (fun _ _ _ h => h) (Or.inl ⟨by rfl, ?y2510⟩) (by assumption) ?r2510
          case y2510 => ((intro w hSw; (try dsimp only at hSw); go_simp); try with_reducible rfl)
          try simp only [Act.put, List.getElem_toArray, List.getElem_cons_succ, List.getElem_cons_zero, List.setIfInBounds_toArray, List.set_cons_zero, List.set_cons_succ]
          refine wpAnyH_done (by kernel_rfl) ?_ _
          refine NoPanic.normal ?_
          clear hHeld
          have z1 := HZ1.out
          have z3 := HZ3.out
          have z5 := HZ5.out
          have zg := HGM.out
          have zx := HXE.out
          have zt := HTE.out
          have zk := HK40.out.size
          have PSF : PS W0 wN t 0 xb (List.replicate nK 0) [] (List.replicate nK 0) [] := by
            have ho := HO.out
            rw [show (Value.slice (some ⟨gM, 0, none⟩) nK nK) = Value.slice (some ⟨gM, 0, none⟩) nK nK from rfl] at ho
            exact ⟨fun k => wX.heap.size ≤ k ∧ k < wN.heap.size, .slice (some ⟨gM, 0, none⟩) nK nK, .slice none 0 0, HSt.out, HXb.out, ho, fun g hg q => by
              simp only [Value.ownBlock, Option.some.injEq] at hg
              omega, LL.nil _ _, fun g hg => by simp [Value.ownBlock] at hg, fun q => by omega, by omega, fun k q => by omega, HK0.out⟩
          have HPS := Lib.hid PSF
          clear PSF z1 z3 z5 zg zx zt zk
          go_wp2_with fail
          go_meet
          case rel => exact ⟨t, xb, rfl, rfl, HPS⟩
        exact AllReadyH.nil
      exact AllReadyH.nil
    exact AllReadyH.nil
  case rest =>
    obtain ⟨t, xb, rfl, rfl, HPS⟩ := hcut
    have HBD := Lib.hid (rep_bd 0 nK (by omega) (Nat.zero_le _))
    generalize List.replicate nK (0 : Int) = C0 at HPS HBD
    have hna := HNA.out
    go_wp2_with fail
    go_loopw [23] (fun i wr => ∃ (q : Nat) (C : List Int) (M : List (List Int)), q ≤ na ∧ q ≤ 80 ∧ i = .int .i64 (q : Int) ∧ Hid (Bd 0 C M) ∧ Hid (PS W0 wr t q xb C M C M)) (fun i _ => na - (intOf i).toNat)
    case atStart => exact ⟨0, C0, [], Nat.zero_le _, Nat.zero_le _, rfl, HBD, HPS⟩
    case round =>
      clear HPS HBD
      obtain ⟨q, C, M, hqn, hq80, rfl, HBD, HPS⟩ := hrel
      by_cases hlt : q < na
      · obtain ⟨p, d, x, pr, rfl, hpb, hc0, hc1, hc2, hd0, hd1, hx0, hx1⟩ := HAC.out q hlt
        have HBW := Lib.hid (HB0.out.trans (HPS.out.below.mono HWS.out))
        have e0 : (p.add (q * 3)).block = p.block := by unfold Addr.add; split <;> rfl
        have d0 : wr.cell? (p.add (q * 3)) = some (.int .u8 d) := (HBW.out.cell (p := p.add (q * 3)) (by rw [e0]; exact hpb)).trans hc0
        have d1 : wr.cell? ⟨(p.add (q * 3)).block, (p.add (q * 3)).off + 1, none⟩ = some (.int .i64 x) := (HBW.out.cell (p := ⟨(p.add (q * 3)).block, (p.add (q * 3)).off + 1, none⟩) (by show (p.add (q * 3)).block < _; rw [e0]; exact hpb)).trans hc1
        have d2 : wr.cell? ⟨(p.add (q * 3)).block, (p.add (q * 3)).off + 2, none⟩ = some (.int .i64 pr) := (HBW.out.cell (p := ⟨(p.add (q * 3)).block, (p.add (q * 3)).off + 2, none⟩) (by show (p.add (q * 3)).block < _; rw [e0]; exact hpb)).trans hc2
        have hqi : (q : Int) < (na : Int) := by omega
        have hga := World.grownBy_alloc wr (.cells #[.int .u8 d, .int .i64 x, .int .i64 pr] 32) none
        obtain ⟨b0, b1, b2⟩ := cells3 (heap_alloc_new wr (.cells #[.int .u8 d, .int .i64 x, .int .i64 pr] 32))
        have DO := Lib.hid (do_any (i := x) (v := pr) (HPS.out.grown hga) HBD.out (by omega) hd0)
        have HLT := Lib.hid hlt
        have HQ := Lib.hid hq80
        clear hc0 hc1 hc2 e0 hpb hga hlt hqn hq80 hx0 hx1 hd0 hd1
        by_cases h80 : q < 80
        · have h80' : decide (q < 80) = true := by simp [h80]
          have h80n : ¬ (80 : Int) ≤ (q : Int) := by omega
          have H80 := Lib.hid h80
          clear h80
          go_wp2_with (first
            | (go_at_call 11; refine DO.out.mono ?_; rintro e w2 ⟨rfl, C', M', hps, hbd⟩; have HPS2 := Lib.hid hps; have HBD2 := Lib.hid hbd; clear hps hbd)
            | (go_at_call 12; refine (like_any HPS2.out HBD2.out).mono ?_; rintro e w3 ⟨rfl, h3⟩; have H3 := Lib.hid h3; clear h3))
          go_roundw
          case rel => exact ⟨q + 1, C', M', by have := HLT.out; omega, by have := H80.out; omega, by go_num, HBD2, H3⟩
          case measure => have := HLT.out; simp [intOf]; omega
        · have h80' : decide (q < 80) = false := by simp; omega
          have h80n : (80 : Int) ≤ (q : Int) := by omega
          clear h80
          go_wp2_with fail
          go_ret
          exact ⟨rfl, HBW.out.trans ((((Kp.none (P := fun _ => False) (World.grownBy_alloc wr _ none)).below (fun _ _ f => f.elim) (Nat.le_refl _)).mono HBW.out.size))⟩
      · have hqi : ¬ ((q : Int) < (na : Int)) := by omega
        have HBW := Lib.hid (HB0.out.trans (HPS.out.below.mono HWS.out))
        clear hlt hqn hq80
        go_wp2_with fail
        go_ret
        exact ⟨rfl, HBW.out⟩
end TmG
end Go.Proofs.Ytafcecacldafgaa
