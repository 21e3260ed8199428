/- The walk of TrailWeighs (no statement of its own). -/
import Derived.Test.YtafcecacldafgaaTmG
import Derived.Test.YtafcecacldafgaaTmJ
import Derived.Test.YtafcecacldafgaaTnF
import Derived.Maps.OwnOps
import Derived.Maps.OwnSet
import Derived.Maps.Views
import Derived.Deep.CutBlock
namespace Go.Proofs.Ytafcecacldafgaa
namespace TmK
open Go.RowKit
open Go.Maps (Keyed)
open TmG (Acts rep_bd)
set_option linter.unusedVariables false
theorem zeroI (w : World) : (zeroValue 3).run Try.prog w = .ok (.int .i64 0) w := by kernel_rfl
theorem ownsMap_block {H : Type} {w w' : World} {R : Value → Option (DataW H × List MemPlace)} {b n : Nat} {D : DataW H} (h : w.ownsMap Try.prog 3 R b n D) (hb : w'.heap[b]? = w.heap[b]?) : w'.ownsMap Try.prog 3 R b n D := by
  obtain ⟨es, clock, h1, h2⟩ := h
  exact ⟨es, clock, hb.trans h1, h2⟩
abbrev key (j : Nat) : Lit := .int .i64 (j : Int)
/-- What is told: the keys of the map are ks. -/
structure Told (w : World) (mb q : Nat) (D : DataW Unit) (ks : List Nat) : Prop where
  own : w.ownsMap Try.prog 3 (plainElem Try.prog 3) mb q D
  size : Maps.size D = ks.length
  mem : ∀ j, Maps.has D (key j) = true ↔ j ∈ ks
theorem told_made (w : World) : Told (w.alloc (.map #[] 0)) w.heap.size 0 (.map []) [] := ⟨World.ownsMap_made _ _ _ _, rfl, fun j => by simp [Maps.has]⟩
theorem key_lit (j : Nat) (h : j < 100) : WideAt.IsKeyLit (key j) := by
  trivial
theorem Told.put {w w' : World} {mb q : Nat} {D : DataW Unit} {ks : List Nat} (h : Told w mb q D ks) (j : Nat) (hj : j < 100) (d : DataW Unit) (ho : w'.ownsMap Try.prog 3 (plainElem Try.prog 3) mb (q + 1) (D.put (key j) d)) :
    ∃ ks', Told w' mb (q + 1) (D.put (key j) d) ks' ∧ (∀ i ∈ j :: ks, i ∈ ks') := by
  have ht := h.own.tidy (Maps.int_keyed Try.underlying3)
  have hs := Maps.size_put (k := key j) ht d
  by_cases hh : Maps.has D (key j) = true
  · refine ⟨ks, ⟨ho, ?_, fun i => ?_⟩, fun i hi => ?_⟩
    · rw [hs, if_pos hh]; exact h.size
    · by_cases e : i = j
      · subst e
        rw [Maps.has_put_same ht.isMap (key_lit i hj) d]
        simp [(h.mem i).1 hh]
      · rw [Maps.has_put_other (k := key j) (k' := key i) (by unfold key; intro q; injection q with _ q; omega) d]
        exact h.mem i
    · rcases List.mem_cons.1 hi with rfl | hi
      · exact (h.mem i).1 hh
      · exact hi
  · refine ⟨j :: ks, ⟨ho, ?_, fun i => ?_⟩, fun i hi => hi⟩
    · rw [hs, if_neg hh, h.size]; rfl
    · by_cases e : i = j
      · subst e
        rw [Maps.has_put_same ht.isMap (key_lit i hj) d]
        simp
      · rw [Maps.has_put_other (k := key j) (k' := key i) (by unfold key; intro q; injection q with _ q; omega) d, List.mem_cons]
        exact ⟨fun q => .inr ((h.mem i).1 q), fun q => (h.mem i).2 (q.resolve_left e)⟩
/-- All that holds while the cells are set behind the mark. -/
structure L2 (W0 wr : World) (t cnt mb q was : Nat) (C : List Int) (D : DataW Unit) (ks ls : List Nat) : Prop where
  ex : ∃ Q, Stw wr t cnt Q C was ls ∧ (∀ k, Q k → W0.heap.size ≤ k ∧ k < wr.heap.size) ∧ ¬ Q mb
  told : Told wr mb q D ks
  kp : Kp (fun k => W0.heap.size ≤ k) W0 wr
  lmb : W0.heap.size ≤ mb
theorem L2.below {W0 w : World} {t cnt mb q was : Nat} {C : List Int} {D : DataW Unit} {ks ls : List Nat} (h : L2 W0 w t cnt mb q was C D ks ls) : Below W0.heap.size W0 w := h.kp.below (fun _ _ q => q) (Nat.le_refl _)
def AndL (W0 : World) (t cnt mb q was : Nat) (C : List Int) (D : DataW Unit) (ks ls : List Nat) (v : Value) (e : Ending) (w' : World) : Prop := e = .returned v ∧ L2 W0 w' t cnt mb q was C D ks ls
theorem L2.set {W0 w : World} {t cnt mb q was i : Nat} {C : List Int} {D : DataW Unit} {ks ls : List Nat} (h : L2 W0 w t cnt mb q was C D ks ls) (v : Int) (hi : i < C.length) (hn : cnt < 1000000) (hC : C.length ≤ 2097152) :
    Calls Try.prog 17 #[.pointer (some ⟨t, 0, none⟩), .int .i64 (i : Int), .int .i64 v] w (AndL W0 t (cnt + 1) mb q was (C.set i v) D ks (i :: ls) (.int .i64 0)) := by
  obtain ⟨Q, h1, h2, h3⟩ := h.ex
  have h0 := h.kp.size
  refine (set_stw h1 v hi hn hC).mono fun e w' g => ⟨g.1, ⟨fun k => Plus Q w k ∧ k < w'.heap.size, g.2.1.mono fun k hk p => ⟨p, hk⟩, fun k p => ⟨p.1.elim (fun r => (h2 k r).1) (fun r => Nat.le_trans h0 r), p.2⟩, fun p => ?_⟩, ⟨ownsMap_block h.told.own (g.2.2.block mb h.told.own.lt h3), h.told.size, h.told.mem⟩, h.kp.trans (g.2.2.mono fun k _ p => (h2 k p).1), h.lmb⟩
  exact h3 (plus_of Q w mb h.told.own.lt p.1)
theorem L2.len {W0 w : World} {t cnt mb q was : Nat} {C : List Int} {D : DataW Unit} {ks ls : List Nat} (h : L2 W0 w t cnt mb q was C D ks ls) : Calls Try.prog 15 #[.pointer (some ⟨t, 0, none⟩)] w (AndO w (.int .i64 (C.length : Int))) := by
  obtain ⟨Q, h1, h2, h3⟩ := h.ex
  exact h1.len
theorem L2.weight {W0 w : World} {t cnt mb q was : Nat} {C : List Int} {D : DataW Unit} {ks ls : List Nat} (h : L2 W0 w t cnt mb q was C D ks ls) : ∃ W : Nat, Calls Try.prog 14 #[.pointer (some ⟨t, 0, none⟩)] w (AndO w (.int .i64 (W : Int))) ∧ W ≤ was + ls.length := by
  obtain ⟨Q, h1, h2, h3⟩ := h.ex
  exact h1.weight
theorem L2.put {W0 w w' : World} {t cnt mb q was j : Nat} {C : List Int} {D : DataW Unit} {ks : List Nat} (h : L2 W0 w t cnt mb q was C D ks (j :: ks)) (hj : j < 100) (d : DataW Unit) (ho : w'.ownsMap Try.prog 3 (plainElem Try.prog 3) mb (q + 1) (D.put (key j) d)) (hg : w.grownBy w' (some mb)) :
    ∃ ks', L2 W0 w' t cnt mb (q + 1) was C (D.put (key j) d) ks' ks' := by
  obtain ⟨ks', t1, t2⟩ := h.told.put j hj d ho
  obtain ⟨Q, h1, h2, h3⟩ := h.ex
  exact ⟨ks', ⟨Q, (h1.kept (Kp.one hg h3)).more t2, fun k p => ⟨(h2 k p).1, Nat.lt_of_lt_of_le (h2 k p).2 hg.size⟩, h3⟩, t1, h.kp.trans (Kp.one hg h.lmb), h.lmb⟩
theorem L2.sized {W0 w : World} {t cnt mb q was : Nat} {C : List Int} {D : DataW Unit} {ks ls : List Nat} (h : L2 W0 w t cnt mb q was C D ks ls) : ks.length ≤ q := by
  rw [← h.told.size]; exact h.told.own.size_le
theorem law : Keyed Try.prog 3 := Maps.int_keyed Try.underlying3
set_option maxRecDepth 100000 in
set_option maxHeartbeats 16000000 in
theorem main (a0 : Int) (a1 : Option Addr) (na ca : Nat) (a2 : Option Addr) (len2 cap2 : Nat) (z2 : Nat → Int) (w : World) (h0 : 0 ≤ a0) (h1 : a0 ≤ 255) (hact : Acts w a1 na)
    (ha2 : a2 = none → len2 = 0) (hb2 : ∀ j, j < len2 → ∃ p : Addr, a2 = some p ∧ p.block < w.heap.size ∧ w.cell? (p.add j) = some (.int .u8 (z2 j)) ∧ 0 ≤ z2 j ∧ z2 j ≤ 255) (hl2 : (len2 : Int) ≤ 9223372036854775807) :
    Calls Try.prog 4 #[.int .u8 a0, .slice a1 na ca, .slice a2 len2 cap2] w fun e w' => e = .returned (.bool true) ∧ Below w.heap.size w w' := by
  have HAC := Lib.hid hact.1
  have HNA := Lib.hid hact.2
  have HB2 := Lib.hid hb2
  have HL2 := Lib.hid hl2
  obtain ⟨r0, hr0⟩ : ∃ r0 : Int, a0 % 8 = r0 := ⟨_, rfl⟩
  obtain ⟨nK, hK⟩ : ∃ nK : Nat, 1 + r0 = (nK : Int) := ⟨(1 + r0).toNat, by omega⟩
  have hK12 : nK < 12 := by omega
  have hK1 : 1 ≤ nK := by omega
  have hr1 : 0 ≤ r0 := by omega
  have hr2 : r0 ≤ 7 := by omega
  clear hact hb2 hl2
  go_enter Try.func4, Try.ntmps4
  go_upto_region 4 with (go_at_call 9; refine (awake_true _).mono ?_; rintro e W0 ⟨rfl, hb1⟩)
  have HB0 := Lib.hid hb1
  have HWS := Lib.hid hb1.size
  clear hb1
  clear hK hr0 hr1 hr2 h0 h1
  go_cut [8, 9] from 23 to 28 (fun v6 v7 wx => ∃ t xb : Nat, v6 = .pointer (some ⟨t, 0, none⟩) ∧ v7 = .pointer (some ⟨xb, 0, none⟩) ∧ Hid (PS W0 wx t 0 xb (List.replicate nK 0) [] (List.replicate nK 0) []))
  case first =>
    refine wp_region_noPanic ?_
    refine wp_region_held_drew (S := fun _ => True) (by kernel_rfl) trivial (fun hHeld => ?_)
    have HK0 : Hid (Kp (fun k => W0.heap.size ≤ k) W0 W0.drew) := Lib.hid (Kp.none (grown_drew (World.grownBy_refl _)))
    have HK40 := HK0
    generalize W0.drew = w4 at *
    refine wpAnyH_take (i := 0) (v := ?v3501) rfl (by kernel_rfl) (by kernel_rfl) (by kernel_rfl) (fun _ _ _ h => h) (Or.inl ⟨by rfl, ?y3501⟩) (by assumption) ?r3501
    case y3501 => ((intro w hSw; (try dsimp only at hSw); go_simp); try with_reducible rfl)
    try simp only [Act.put, List.getElem_toArray, List.getElem_cons_zero, List.setIfInBounds_toArray, List.set_cons_zero, List.set_cons_succ]
    refine wpAnyH_take (i := 2) (v := ?v3502) rfl (by kernel_rfl) (by kernel_rfl) (by kernel_rfl) (fun _ _ _ h => h) (Or.inl ⟨by rfl, ?y3502⟩) (by assumption) ?r3502
    case y3502 => ((intro w hSw; (try dsimp only at hSw); go_simp); try with_reducible rfl)
    try simp only [Act.put, List.getElem_toArray, List.getElem_cons_succ, List.getElem_cons_zero, List.setIfInBounds_toArray, List.set_cons_zero, List.set_cons_succ]
    refine wpAnyH_ready (rs := [1, 3]) (by kernel_rfl) (by simp) ?_
    refine AllReadyH.cons rfl (fun K hK => ?_) ?_
    · go_simp
      refine (new_st (nK : Int) nK w4 (by omega)).mono ?_
      rintro e wN hN
      obtain rfl := hN.e
      have hk := hN.kp
      have HSt : Hid (St wN (w4.heap.size + 1) 0 (fun k => w4.heap.size ≤ k ∧ k < wN.heap.size) (List.replicate nK 0) []) := Lib.hid (hN.st.mono fun k hk' q => ⟨q.elim False.elim id, hk'⟩)
      have HZ1 : Hid (w4.heap.size ≤ wN.heap.size) := Lib.hid hk.size
      have HK0 := Lib.hid (HK0.out.trans (hk.mono fun k _ q => q.elim))
      refine hK.out _ _ (trivial) (fun hHeld' => ?_)
      clear hHeld
      have hHeld := hHeld'
      clear hHeld'
      clear hN hk
      obtain ⟨t, ht⟩ : ∃ t, w4.heap.size + 1 = t := ⟨_, rfl⟩
      have HTE := Lib.hid ht
      rw [ht] at HSt ⊢
      clear ht
      clear hK K
      try simp only [Act.put, List.getElem_toArray, List.getElem_cons_succ, List.getElem_cons_zero, List.setIfInBounds_toArray, List.set_cons_zero, List.set_cons_succ]
      refine wpAnyH_take (i := 6) (v := ?v3503) rfl (by kernel_rfl) (by kernel_rfl) (by kernel_rfl) (fun _ _ _ h => h) (Or.inl ⟨by rfl, ?y3503⟩) (by assumption) ?r3503
      case y3503 => ((intro w hSw; (try dsimp only at hSw); go_simp); try with_reducible rfl)
      try simp only [Act.put, List.getElem_toArray, List.getElem_cons_succ, List.getElem_cons_zero, List.setIfInBounds_toArray, List.set_cons_zero, List.set_cons_succ]
      refine wpAnyH_ready (rs := [3]) (by kernel_rfl) (by simp) ?_
      refine AllReadyH.cons rfl (fun K hK => ?_) ?_
      · have hm := madeL nK (by omega) wN
        go_simp
        clear hm
        have hg := World.grownBy_alloc wN (.cells (madeCells #[.int .i64 0] nK) 2) none
        have HO := Lib.hid (made_own wN nK W0.heap.size (by omega) HK0.out.size)
        have HSt := Lib.hid (HSt.out.grown hg)
        have HK0 := Lib.hid (HK0.out.trans (Kp.none hg))
        have HZ3 : Hid ((wN.alloc (.cells (madeCells #[.int .i64 0] nK) 2)).heap.size = wN.heap.size + 1) := Lib.hid (by simp)
        refine hK.out _ _ (trivial) (fun hHeld' => ?_)
        clear hHeld
        have hHeld := hHeld'
        clear hHeld'
        clear hg
        obtain ⟨gM, hgM⟩ : ∃ gM, wN.heap.size = gM := ⟨_, rfl⟩
        have HGM := Lib.hid hgM
        rw [hgM] at HO ⊢
        clear hgM
        generalize wN.alloc (.cells (madeCells #[.int .i64 0] nK) 2) = wM at *
        clear hK K
        try simp only [Act.put, List.getElem_toArray, List.getElem_cons_succ, List.getElem_cons_zero, List.setIfInBounds_toArray, List.set_cons_zero, List.set_cons_succ]
        refine wpAnyH_take (i := 4) (v := ?v3504) rfl (by kernel_rfl) (by kernel_rfl) (by kernel_rfl) (fun _ _ _ h => h) (Or.inl ⟨by rfl, ?y3504⟩) (by assumption) ?r3504
        case y3504 => ((intro w hSw; (try dsimp only at hSw); go_simp); try with_reducible rfl)
        try simp only [Act.put, List.getElem_toArray, List.getElem_cons_succ, List.getElem_cons_zero, List.setIfInBounds_toArray, List.set_cons_zero, List.set_cons_succ]
        refine wpAnyH_ready (rs := [5]) (by kernel_rfl) (by simp) ?_
        refine AllReadyH.cons rfl (fun K hK => ?_) ?_
        · go_simp
          have hg := World.grownBy_alloc wM (.cells #[.slice (some ⟨gM, 0, none⟩) nK nK, .slice none 0 0] 30) none
          have HSt := Lib.hid (HSt.out.grown hg)
          have HO := Lib.hid (HO.out.kept hg (own_or _))
          have HK0 := Lib.hid (HK0.out.trans (Kp.none hg))
          have HXb := Lib.hid (heap_alloc_new wM (.cells #[.slice (some ⟨gM, 0, none⟩) nK nK, .slice none 0 0] 30))
          have HZ5 : Hid ((wM.alloc (.cells #[.slice (some ⟨gM, 0, none⟩) nK nK, .slice none 0 0] 30)).heap.size = wM.heap.size + 1) := Lib.hid (by simp)
          refine hK.out _ _ (trivial) (fun hHeld' => ?_)
          clear hHeld
          have hHeld := hHeld'
          clear hHeld'
          clear hg
          obtain ⟨xb, hxb⟩ : ∃ xb, wM.heap.size = xb := ⟨_, rfl⟩
          have HXE := Lib.hid hxb
          rw [hxb] at HXb ⊢
          clear hxb
          generalize wM.alloc (.cells #[.slice (some ⟨gM, 0, none⟩) nK nK, .slice none 0 0] 30) = wX at *
          clear hK K
          try simp only [Act.put, List.getElem_toArray, List.getElem_cons_succ, List.getElem_cons_zero, List.setIfInBounds_toArray, List.set_cons_zero, List.set_cons_succ]
          refine wpAnyH_take (i := 7) (v := ?v3505) rfl (by kernel_rfl) (by kernel_rfl) (by kernel_rfl) (fun _ _ _ h => h) (Or.inl ⟨by rfl, ?y3505⟩) (by assumption) ?r3505
          case y3505 => ((intro w hSw; (try dsimp only at hSw); go_simp); try with_reducible rfl)
          try simp only [Act.put, List.getElem_toArray, List.getElem_cons_succ, List.getElem_cons_zero, List.setIfInBounds_toArray, List.set_cons_zero, List.set_cons_succ]
          refine wpAnyH_done (by kernel_rfl) ?_ _
          refine NoPanic.normal ?_
          clear hHeld
          have z1 := HZ1.out
          have z3 := HZ3.out
          have z5 := HZ5.out
          have zg := HGM.out
          have zx := HXE.out
          have zt := HTE.out
          have zk := HK40.out.size
          have PSF : PS W0 wX t 0 xb (List.replicate nK 0) [] (List.replicate nK 0) [] := by
            have ho := HO.out
            rw [show (Value.slice (some ⟨gM, 0, none⟩) nK nK) = Value.slice (some ⟨gM, 0, none⟩) nK nK from rfl] at ho
            exact ⟨fun k => w4.heap.size ≤ k ∧ k < wN.heap.size, .slice (some ⟨gM, 0, none⟩) nK nK, .slice none 0 0, HSt.out, HXb.out, ho, fun g hg q => by
              simp only [Value.ownBlock, Option.some.injEq] at hg
              omega, LL.nil _ _, fun g hg => by simp [Value.ownBlock] at hg, fun q => by omega, by omega, fun k q => by omega, HK0.out⟩
          have HPS := Lib.hid PSF
          clear PSF z1 z3 z5 zg zx zt zk
          go_wp2_with fail
          go_meet
          case rel => exact ⟨t, xb, rfl, rfl, HPS⟩
        exact AllReadyH.nil
      exact AllReadyH.nil
    refine AllReadyH.cons rfl (fun K hK => ?_) ?_
    · have hm := madeL nK (by omega) w4
      go_simp
      clear hm
      have hg := World.grownBy_alloc w4 (.cells (madeCells #[.int .i64 0] nK) 2) none
      have HO := Lib.hid (made_own w4 nK W0.heap.size (by omega) HK0.out.size)
      have HK0 := Lib.hid (HK0.out.trans (Kp.none hg))
      have HZ3 : Hid ((w4.alloc (.cells (madeCells #[.int .i64 0] nK) 2)).heap.size = w4.heap.size + 1) := Lib.hid (by simp)
      refine hK.out _ _ (trivial) (fun hHeld' => ?_)
      clear hHeld
      have hHeld := hHeld'
      clear hHeld'
      clear hg
      obtain ⟨gM, hgM⟩ : ∃ gM, w4.heap.size = gM := ⟨_, rfl⟩
      have HGM := Lib.hid hgM
      rw [hgM] at HO ⊢
      clear hgM
      generalize w4.alloc (.cells (madeCells #[.int .i64 0] nK) 2) = wM at *
      clear hK K
      try simp only [Act.put, List.getElem_toArray, List.getElem_cons_succ, List.getElem_cons_zero, List.setIfInBounds_toArray, List.set_cons_zero, List.set_cons_succ]
      refine wpAnyH_take (i := 4) (v := ?v3506) rfl (by kernel_rfl) (by kernel_rfl) (by kernel_rfl) (fun _ _ _ h => h) (Or.inl ⟨by rfl, ?y3506⟩) (by assumption) ?r3506
      case y3506 => ((intro w hSw; (try dsimp only at hSw); go_simp); try with_reducible rfl)
      try simp only [Act.put, List.getElem_toArray, List.getElem_cons_succ, List.getElem_cons_zero, List.setIfInBounds_toArray, List.set_cons_zero, List.set_cons_succ]
      refine wpAnyH_ready (rs := [1, 5]) (by kernel_rfl) (by simp) ?_
      refine AllReadyH.cons rfl (fun K hK => ?_) ?_
      · go_simp
        refine (new_st (nK : Int) nK wM (by omega)).mono ?_
        rintro e wN hN
        obtain rfl := hN.e
        have hk := hN.kp
        have HSt : Hid (St wN (wM.heap.size + 1) 0 (fun k => wM.heap.size ≤ k ∧ k < wN.heap.size) (List.replicate nK 0) []) := Lib.hid (hN.st.mono fun k hk' q => ⟨q.elim False.elim id, hk'⟩)
        have HZ1 : Hid (wM.heap.size ≤ wN.heap.size) := Lib.hid hk.size
        have HO := Lib.hid (HO.out.block fun g hg => hk.block g (World.ownsRow.lt HO.out g hg).2 (fun q => q))
        have HK0 := Lib.hid (HK0.out.trans (hk.mono fun k _ q => q.elim))
        refine hK.out _ _ (trivial) (fun hHeld' => ?_)
        clear hHeld
        have hHeld := hHeld'
        clear hHeld'
        clear hN hk
        obtain ⟨t, ht⟩ : ∃ t, wM.heap.size + 1 = t := ⟨_, rfl⟩
        have HTE := Lib.hid ht
        rw [ht] at HSt ⊢
        clear ht
        clear hK K
        try simp only [Act.put, List.getElem_toArray, List.getElem_cons_succ, List.getElem_cons_zero, List.setIfInBounds_toArray, List.set_cons_zero, List.set_cons_succ]
        refine wpAnyH_take (i := 6) (v := ?v3507) rfl (by kernel_rfl) (by kernel_rfl) (by kernel_rfl) (fun _ _ _ h => h) (Or.inl ⟨by rfl, ?y3507⟩) (by assumption) ?r3507
        case y3507 => ((intro w hSw; (try dsimp only at hSw); go_simp); try with_reducible rfl)
        try simp only [Act.put, List.getElem_toArray, List.getElem_cons_succ, List.getElem_cons_zero, List.setIfInBounds_toArray, List.set_cons_zero, List.set_cons_succ]
        refine wpAnyH_ready (rs := [5]) (by kernel_rfl) (by simp) ?_
        refine AllReadyH.cons rfl (fun K hK => ?_) ?_
        · go_simp
          have hg := World.grownBy_alloc wN (.cells #[.slice (some ⟨gM, 0, none⟩) nK nK, .slice none 0 0] 30) none
          have HSt := Lib.hid (HSt.out.grown hg)
          have HO := Lib.hid (HO.out.kept hg (own_or _))
          have HK0 := Lib.hid (HK0.out.trans (Kp.none hg))
          have HXb := Lib.hid (heap_alloc_new wN (.cells #[.slice (some ⟨gM, 0, none⟩) nK nK, .slice none 0 0] 30))
          have HZ5 : Hid ((wN.alloc (.cells #[.slice (some ⟨gM, 0, none⟩) nK nK, .slice none 0 0] 30)).heap.size = wN.heap.size + 1) := Lib.hid (by simp)
          refine hK.out _ _ (trivial) (fun hHeld' => ?_)
          clear hHeld
          have hHeld := hHeld'
          clear hHeld'
          clear hg
          obtain ⟨xb, hxb⟩ : ∃ xb, wN.heap.size = xb := ⟨_, rfl⟩
          have HXE := Lib.hid hxb
          rw [hxb] at HXb ⊢
          clear hxb
          generalize wN.alloc (.cells #[.slice (some ⟨gM, 0, none⟩) nK nK, .slice none 0 0] 30) = wX at *
          clear hK K
          try simp only [Act.put, List.getElem_toArray, List.getElem_cons_succ, List.getElem_cons_zero, List.setIfInBounds_toArray, List.set_cons_zero, List.set_cons_succ]
          refine wpAnyH_take (i := 7) (v := ?v3508) rfl (by kernel_rfl) (by kernel_rfl) (by kernel_rfl) (fun _ _ _ h => h) (Or.inl ⟨by rfl, ?y3508⟩) (by assumption) ?r3508
          case y3508 => ((intro w hSw; (try dsimp only at hSw); go_simp); try with_reducible rfl)
          try simp only [Act.put, List.getElem_toArray, List.getElem_cons_succ, List.getElem_cons_zero, List.setIfInBounds_toArray, List.set_cons_zero, List.set_cons_succ]
          refine wpAnyH_done (by kernel_rfl) ?_ _
          refine NoPanic.normal ?_
          clear hHeld
          have z1 := HZ1.out
          have z3 := HZ3.out
          have z5 := HZ5.out
          have zg := HGM.out
          have zx := HXE.out
          have zt := HTE.out
          have zk := HK40.out.size
          have PSF : PS W0 wX t 0 xb (List.replicate nK 0) [] (List.replicate nK 0) [] := by
            have ho := HO.out
            rw [show (Value.slice (some ⟨gM, 0, none⟩) nK nK) = Value.slice (some ⟨gM, 0, none⟩) nK nK from rfl] at ho
            exact ⟨fun k => wM.heap.size ≤ k ∧ k < wN.heap.size, .slice (some ⟨gM, 0, none⟩) nK nK, .slice none 0 0, HSt.out, HXb.out, ho, fun g hg q => by
              simp only [Value.ownBlock, Option.some.injEq] at hg
              omega, LL.nil _ _, fun g hg => by simp [Value.ownBlock] at hg, fun q => by omega, by omega, fun k q => by omega, HK0.out⟩
          have HPS := Lib.hid PSF
          clear PSF z1 z3 z5 zg zx zt zk
          go_wp2_with fail
          go_meet
          case rel => exact ⟨t, xb, rfl, rfl, HPS⟩
        exact AllReadyH.nil
      refine AllReadyH.cons rfl (fun K hK => ?_) ?_
      · go_simp
        have hg := World.grownBy_alloc wM (.cells #[.slice (some ⟨gM, 0, none⟩) nK nK, .slice none 0 0] 30) none
        have HO := Lib.hid (HO.out.kept hg (own_or _))
        have HK0 := Lib.hid (HK0.out.trans (Kp.none hg))
        have HXb := Lib.hid (heap_alloc_new wM (.cells #[.slice (some ⟨gM, 0, none⟩) nK nK, .slice none 0 0] 30))
        have HZ5 : Hid ((wM.alloc (.cells #[.slice (some ⟨gM, 0, none⟩) nK nK, .slice none 0 0] 30)).heap.size = wM.heap.size + 1) := Lib.hid (by simp)
        refine hK.out _ _ (trivial) (fun hHeld' => ?_)
        clear hHeld
        have hHeld := hHeld'
        clear hHeld'
        clear hg
        obtain ⟨xb, hxb⟩ : ∃ xb, wM.heap.size = xb := ⟨_, rfl⟩
        have HXE := Lib.hid hxb
        rw [hxb] at HXb ⊢
        clear hxb
        generalize wM.alloc (.cells #[.slice (some ⟨gM, 0, none⟩) nK nK, .slice none 0 0] 30) = wX at *
        clear hK K
        try simp only [Act.put, List.getElem_toArray, List.getElem_cons_succ, List.getElem_cons_zero, List.setIfInBounds_toArray, List.set_cons_zero, List.set_cons_succ]
        refine wpAnyH_ready (rs := [1]) (by kernel_rfl) (by simp) ?_
        refine AllReadyH.cons rfl (fun K hK => ?_) ?_
        · go_simp
          refine (new_st (nK : Int) nK wX (by omega)).mono ?_
          rintro e wN hN
          obtain rfl := hN.e
          have hk := hN.kp
          have HSt : Hid (St wN (wX.heap.size + 1) 0 (fun k => wX.heap.size ≤ k ∧ k < wN.heap.size) (List.replicate nK 0) []) := Lib.hid (hN.st.mono fun k hk' q => ⟨q.elim False.elim id, hk'⟩)
          have HZ1 : Hid (wX.heap.size ≤ wN.heap.size) := Lib.hid hk.size
          have HO := Lib.hid (HO.out.block fun g hg => hk.block g (World.ownsRow.lt HO.out g hg).2 (fun q => q))
          have HXb := Lib.hid ((hk.block xb (Array.getElem?_eq_some_iff.1 HXb.out).1 (fun q => q)).trans HXb.out)
          have HK0 := Lib.hid (HK0.out.trans (hk.mono fun k _ q => q.elim))
          refine hK.out _ _ (trivial) (fun hHeld' => ?_)
          clear hHeld
          have hHeld := hHeld'
          clear hHeld'
          clear hN hk
          obtain ⟨t, ht⟩ : ∃ t, wX.heap.size + 1 = t := ⟨_, rfl⟩
          have HTE := Lib.hid ht
          rw [ht] at HSt ⊢
          clear ht
          clear hK K
          try simp only [Act.put, List.getElem_toArray, List.getElem_cons_succ, List.getElem_cons_zero, List.setIfInBounds_toArray, List.set_cons_zero, List.set_cons_succ]
          refine wpAnyH_take (i := 6) (v := ?v3509) rfl (by kernel_rfl) (by kernel_rfl) (by kernel_rfl) (fun _ _ _ h => h) (Or.inl ⟨by rfl, ?y3509⟩) (by assumption) ?r3509
          case y3509 => ((intro w hSw; (try dsimp only at hSw); go_simp); try with_reducible rfl)
          try simp only [Act.put, List.getElem_toArray, List.getElem_cons_succ, List.getElem_cons_zero, List.setIfInBounds_toArray, List.set_cons_zero, List.set_cons_succ]
          refine wpAnyH_take (i := 7) (v := ?v3510) rfl (by kernel_rfl) (by kernel_rfl) (by kernel_rfl) (fun _ _ _ h => h) (Or.inl ⟨by rfl, ?y3510⟩) (by assumption) ?r3510
          case y3510 => ((intro w hSw; (try dsimp only at hSw); go_simp); try with_reducible rfl)
          try simp only [Act.put, List.getElem_toArray, List.getElem_cons_succ, List.getElem_cons_zero, List.setIfInBounds_toArray, List.set_cons_zero, List.set_cons_succ]
          refine wpAnyH_done (by kernel_rfl) ?_ _
          refine NoPanic.normal ?_
          clear hHeld
          have z1 := HZ1.out
          have z3 := HZ3.out
          have z5 := HZ5.out
          have zg := HGM.out
          have zx := HXE.out
          have zt := HTE.out
          have zk := HK40.out.size
          have PSF : PS W0 wN t 0 xb (List.replicate nK 0) [] (List.replicate nK 0) [] := by
            have ho := HO.out
            rw [show (Value.slice (some ⟨gM, 0, none⟩) nK nK) = Value.slice (some ⟨gM, 0, none⟩) nK nK from rfl] at ho
            exact ⟨fun k => wX.heap.size ≤ k ∧ k < wN.heap.size, .slice (some ⟨gM, 0, none⟩) nK nK, .slice none 0 0, HSt.out, HXb.out, ho, fun g hg q => by
              simp only [Value.ownBlock, Option.some.injEq] at hg
              omega, LL.nil _ _, fun g hg => by simp [Value.ownBlock] at hg, fun q => by omega, by omega, fun k q => by omega, HK0.out⟩
          have HPS := Lib.hid PSF
          clear PSF z1 z3 z5 zg zx zt zk
          go_wp2_with fail
          go_meet
          case rel => exact ⟨t, xb, rfl, rfl, HPS⟩
        exact AllReadyH.nil
      exact AllReadyH.nil
    exact AllReadyH.nil
  case rest =>
    obtain ⟨t, xb, rfl, rfl, HPS⟩ := hcut
    have HBD := Lib.hid (rep_bd 1 nK (by omega) hK1)
    generalize List.replicate nK (0 : Int) = C0 at HPS HBD
    have hna := HNA.out
    obtain ⟨W1, eW⟩ : ∃ W, W = wc := ⟨wc, rfl⟩
    subst eW
    go_upto_block 0 with fail
    go_cut [10, 11] from 31 to 63 (fun v10 v11 wx => ∃ (C : List Int) (M : List (List Int)), Hid (Bd 1 C M) ∧ Hid (PS W0 wx t 60 xb C M C M))
    case first =>
      go_wp2_with fail
      go_loopw [31] (fun i wr => ∃ (q : Nat) (C : List Int) (M : List (List Int)), q ≤ na ∧ q ≤ 60 ∧ i = .int .i64 (q : Int) ∧ Hid (Bd 1 C M) ∧ Hid (PS W0 wr t q xb C M C M)) (fun i _ => na - (intOf i).toNat)
      case atStart => exact ⟨0, C0, [], Nat.zero_le _, Nat.zero_le _, rfl, HBD, HPS⟩
      case round =>
        clear HPS HBD
        obtain ⟨q, C, M, hqn, hq80, rfl, HBD, HPS⟩ := hrel
        by_cases hlt : q < na
        · obtain ⟨p, d, x, pr, rfl, hpb, hc0, hc1, hc2, hd0, hd1, hx0, hx1⟩ := HAC.out q hlt
          have HBW := Lib.hid (HB0.out.trans (HPS.out.below.mono HWS.out))
          have e0 : (p.add (q * 3)).block = p.block := by unfold Addr.add; split <;> rfl
          have d0 : wr.cell? (p.add (q * 3)) = some (.int .u8 d) := (HBW.out.cell (p := p.add (q * 3)) (by rw [e0]; exact hpb)).trans hc0
          have d1 : wr.cell? ⟨(p.add (q * 3)).block, (p.add (q * 3)).off + 1, none⟩ = some (.int .i64 x) := (HBW.out.cell (p := ⟨(p.add (q * 3)).block, (p.add (q * 3)).off + 1, none⟩) (by show (p.add (q * 3)).block < _; rw [e0]; exact hpb)).trans hc1
          have d2 : wr.cell? ⟨(p.add (q * 3)).block, (p.add (q * 3)).off + 2, none⟩ = some (.int .i64 pr) := (HBW.out.cell (p := ⟨(p.add (q * 3)).block, (p.add (q * 3)).off + 2, none⟩) (by show (p.add (q * 3)).block < _; rw [e0]; exact hpb)).trans hc2
          have hqi : (q : Int) < (na : Int) := by omega
          have hga := World.grownBy_alloc wr (.cells #[.int .u8 d, .int .i64 x, .int .i64 pr] 32) none
          obtain ⟨b0, b1, b2⟩ := cells3 (heap_alloc_new wr (.cells #[.int .u8 d, .int .i64 x, .int .i64 pr] 32))
          have DO := Lib.hid (do_any (i := x) (v := pr) (HPS.out.grown hga) HBD.out (by omega) hd0)
          have HPA := Lib.hid (HPS.out.grown hga)
          have HLT := Lib.hid hlt
          have HQ := Lib.hid hq80
          clear hc0 hc1 hc2 e0 hpb hga hlt hqn hq80 hx0 hx1 hd0 hd1
          by_cases h80 : q < 60
          · have h80' : decide (q < 60) = true := by simp [h80]
            have h80n : ¬ (60 : Int) ≤ (q : Int) := by omega
            have H80 := Lib.hid h80
            clear h80
            go_wp2_with (go_at_call 11; refine DO.out.mono ?_)
            rintro e w2 ⟨rfl, C', M', hps, hbd⟩
            obtain ⟨Q, hs⟩ := hps.st
            obtain ⟨W, hw1, hw2, hw3, hw4⟩ := weight_st hs
            have DP := Lib.hid (depth_st hs)
            have LN := Lib.hid (len_st hs)
            have WT := Lib.hid hw1
            have HPS2 := Lib.hid hps
            have HBD2 := Lib.hid hbd
            have hm20 : (M'.length : Int) ≤ 20 := by have := hbd.1; omega
            have hc70 : (C'.length : Int) ≤ 70 := by have := hbd.2.1; omega
            have hw60 : (W : Int) ≤ 100 := by have := H80.out; omega
            have hprod : (W : Int) ≤ (M'.length : Int) * (C'.length : Int) := by
              have : ((M'.length * C'.length : Nat) : Int) = (M'.length : Int) * (C'.length : Int) := by simp
              omega
            have hp1 : (M'.length : Int) * (C'.length : Int) ≤ 1400 := by
              have h1 : M'.length * C'.length ≤ 20 * 70 := Nat.mul_le_mul hbd.1 hbd.2.1
              have : ((M'.length * C'.length : Nat) : Int) = (M'.length : Int) * (C'.length : Int) := by simp
              omega
            have hp0 : 0 ≤ (M'.length : Int) * (C'.length : Int) := by
              have : ((M'.length * C'.length : Nat) : Int) = (M'.length : Int) * (C'.length : Int) := by simp
              omega
            by_cases hM : M' = []
            · have hW0 := hw2 hM
              subst hW0
              subst hM
              have DP : Hid (Calls Try.prog 13 #[.pointer (some ⟨t, 0, none⟩)] w2 (AndO w2 (.int .i64 0))) := DP
              have WT : Hid (Calls Try.prog 14 #[.pointer (some ⟨t, 0, none⟩)] w2 (AndO w2 (.int .i64 0))) := WT
              clear hw1 hw2 hw3 hw4 hs hps hbd hprod hp1 hp0 hw60 hm20
              go_wp2_with (first
                | (go_at_call 13; refine DP.out.mono ?_; rintro e w' ⟨rfl, rfl⟩)
                | (go_at_call 14; refine WT.out.mono ?_; rintro e w' ⟨rfl, rfl⟩)
                | (go_at_call 15; refine LN.out.mono ?_; rintro e w' ⟨rfl, rfl⟩))
              go_roundw
              case rel => exact ⟨q + 1, C', [], by have := HLT.out; omega, by have := H80.out; omega, by go_num, HBD2, HPS2⟩
              case measure => have := HLT.out; simp [intOf]; omega
            · have hml : ((M'.length : Int) == 0) = false := by
                have := List.length_pos_iff.2 hM
                simp
                exact hM
              have hwr : IntKind.i64.wrap ((M'.length : Int) * (C'.length : Int)) = (M'.length : Int) * (C'.length : Int) := IntWalk.i64_in _ (by omega)
              have hwr2 : wrap64 ((M'.length : Int) * (C'.length : Int)) = (M'.length : Int) * (C'.length : Int) := IntWalk.wrap64_in _ (by omega)
              have hgt : ¬ ((M'.length : Int) * (C'.length : Int) < (W : Int)) := by omega
              clear hw1 hw2 hw3 hw4 hs hps hbd hM hprod
              go_wp2_with (first
                | (go_at_call 13; refine DP.out.mono ?_; rintro e w' ⟨rfl, rfl⟩)
                | (go_at_call 14; refine WT.out.mono ?_; rintro e w' ⟨rfl, rfl⟩)
                | (go_at_call 15; refine LN.out.mono ?_; rintro e w' ⟨rfl, rfl⟩))
              go_roundw
              case rel => exact ⟨q + 1, C', M', by have := HLT.out; omega, by have := H80.out; omega, by go_num, HBD2, HPS2⟩
              case measure => have := HLT.out; simp [intOf]; omega
          · have h80' : decide (q < 60) = false := by simp; omega
            have h80n : (60 : Int) ≤ (q : Int) := by omega
            clear h80
            go_wp2_with fail
            go_meet
            case rel => exact ⟨C, M, HBD, Lib.hid (HPA.out.more (by have := HQ.out; omega))⟩
        · have hqi : ¬ ((q : Int) < (na : Int)) := by omega
          have HQ := Lib.hid hq80
          clear hlt hqn hq80
          go_wp2_with fail
          go_meet
          case rel => exact ⟨C, M, HBD, Lib.hid (HPS.out.more HQ.out)⟩
    case rest =>
      clear HPS HBD HAC HNA hna
      obtain ⟨C, M, HBD, HPS⟩ := hcut
      have HL : Hid (∃ (W : Nat), W ≤ 60 ∧ Calls Try.prog 16 #[.pointer (some ⟨t, 0, none⟩)] wc (fun e w' => e = .returned (.int .i64 (M.length : Int)) ∧ (∃ Q : Nat → Prop, Stw w' t 61 Q C W [] ∧ ∀ k, Q k → W0.heap.size ≤ k ∧ k < w'.heap.size) ∧ Kp (fun k => W0.heap.size ≤ k) W0 w' ∧ Calls Try.prog 14 #[.pointer (some ⟨t, 0, none⟩)] w' (AndO w' (.int .i64 (W : Int))))) := Lib.hid (by
        obtain ⟨Q, vC, vM, hx⟩ := HPS.out
        obtain ⟨W, q1, q2⟩ := mark_stw hx.st (by omega)
        have h0 := hx.kp.size
        refine ⟨W, q1, q2.mono fun e w' g => ⟨g.1, ⟨fun k => Plus Q wc k ∧ k < w'.heap.size, g.2.1.mono fun k hk p => ⟨p, hk⟩, fun k p => ⟨p.1.elim (fun r => (hx.q k r).1) (fun r => Nat.le_trans h0 r), p.2⟩⟩, hx.kp.trans (g.2.2.1.mono fun k _ p => (hx.q k p).1), g.2.2.2⟩⟩)
      obtain ⟨W, hW60, hMK⟩ := HL.out
      have MK := Lib.hid hMK
      have HC1 := Lib.hid HBD.out.2.2.2.1
      have HC70 := Lib.hid HBD.out.2.1
      clear HL hMK HPS HBD
      go_upto_region 14 with (first
        | (go_at_call 16; refine MK.out.mono ?_; rintro e w2 ⟨rfl, ⟨Q, hst, hq⟩, hkp, hwt⟩; have HST := Lib.hid hst; have HQ := Lib.hid hq; have HKP := Lib.hid hkp; have HWT := Lib.hid hwt; clear hst hq hkp hwt)
        | (go_at_call 14; refine HWT.out.mono ?_; rintro e w' ⟨rfl, rfl⟩))
      have hmm := @run_makeMap Try.prog
      have HLL : Hid (L2 W0 (w2.alloc (.map #[] 0)) t 61 w2.heap.size 0 W C (.map []) [] []) := Lib.hid ⟨⟨Q, HST.out.kept (Kp.none (World.grownBy_alloc _ _ _)), fun k p => ⟨(HQ.out k p).1, by have := (HQ.out k p).2; simp; omega⟩, fun p => by have := (HQ.out _ p).2; omega⟩, told_made w2, HKP.out.trans (Kp.none (World.grownBy_alloc _ _ _)), HKP.out.size⟩
      have hl2 := HL2.out
      clear HST HQ HKP HWT MK
      go_wp2_with fail
      clear hmm
      generalize w2.heap.size = mb at *
      generalize w2.alloc (.map #[] 0) = w3 at *
      go_loopw [71] (fun i wr => ∃ (q : Nat) (C' : List Int) (D : DataW Unit) (ks : List Nat), q ≤ len2 ∧ q ≤ 50 ∧ i = .int .i64 (q : Int) ∧ Hid (C'.length = C.length) ∧ Hid (L2 W0 wr t (61 + q) mb q W C' D ks ks)) (fun i _ => len2 - (intOf i).toNat)
      case atStart => exact ⟨0, C, .map [], [], Nat.zero_le _, Nat.zero_le _, rfl, Lib.hid rfl, HLL⟩
      case round =>
        clear HLL
        obtain ⟨q, C', D, ks, hq2, hq50, rfl, HCC, HLL⟩ := hrel
        have HBW := Lib.hid (HB0.out.trans (HLL.out.below.mono HWS.out))
        by_cases hlt : q < len2
        · obtain ⟨p, rfl, hp1, hp2w, hx0, hx1⟩ := HB2.out q hlt
          have hp2 : wr.cell? (p.add q) = some (.int .u8 (z2 q)) := (HBW.out.cell (p := p.add q) (by rw [TnF.block_add']; exact hp1)).trans hp2w
          generalize z2 q = x at hp2 hx0 hx1
          have hqi : (q : Int) < (len2 : Int) := by omega
          have HLT := Lib.hid hlt
          have HQ50 := Lib.hid hq50
          clear hp1 hp2w hlt hq2 hq50
          by_cases h50 : q < 50
          · have h50i : (q : Int) < 50 := by omega
            have H50 := Lib.hid h50
            have hc0 : (0 : Int) < (C'.length : Int) := by have := HC1.out; rw [HCC.out]; omega
            have hc70 : (C'.length : Int) ≤ 70 := by have := HC70.out; rw [HCC.out]; omega
            obtain ⟨j, hj⟩ : ∃ j : Nat, x % (C'.length : Int) = (j : Int) := ⟨(x % (C'.length : Int)).toNat, by have := Int.emod_nonneg x (show (C'.length : Int) ≠ 0 by omega); omega⟩
            have hjl : j < C'.length := by
              have := Int.emod_lt_of_pos x hc0
              omega
            have hjt : x.tmod (C'.length : Int) = (j : Int) := by rw [Int.tmod_eq_emod_of_nonneg (by omega)]; exact hj
            have hj100 : j < 100 := by omega
            have LN := Lib.hid HLL.out.len
            have ST := Lib.hid (fun v => HLL.out.set v hjl (by omega) (by omega))
            have HKEY : Hid (keyOf Try.prog 3 (.int .i64 (j : Int)) = some (key j)) := Lib.hid (Maps.keyOf_int_mk Try.underlying3 (WalkArith.wf_i64 ⟨by omega, by omega⟩))
            have HJ := Lib.hid hj100
            have HCL : Hid ((C'.set j (q : Int)).length = C.length) := Lib.hid (by rw [List.length_set]; exact HCC.out)
            have hqm : q < maxLen := by unfold maxLen; omega
            have HQM := Lib.hid hqm
            have hqn : ¬ ((50 : Int) ≤ (q : Int)) := by omega
            clear h50 hjl hj100 hqm HLL
            go_upto_region 22 with (first
              | (go_at_call 15; refine LN.out.mono ?_; rintro e w' ⟨rfl, rfl⟩)
              | (go_at_call 17; refine (ST.out _).mono ?_; rintro e w4 ⟨rfl, h4⟩; have H4 := Lib.hid h4; clear h4)
              | (at_lookup; refine wpList_lookup_own_int _ rfl _ _ 38 rfl 3 3 .i64 law Try.underlying38 Try.underlying3 (zeroI _) mb q D rfl H4.out.told.own _ _ rfl HKEY.out ?_; intro c hat hwc; clear hat hwc)
              | (at_mapUpdate; refine wpList_mapUpdate_own _ rfl _ _ _ 38 rfl 3 3 law Try.underlying38 _ mb q D rfl H4.out.told.own HQM.out _ _ _ rfl rfl HKEY.out _ [] (plainElem_int Try.underlying3 (wrap64_wf _)) ?_; intro w5 hown5 hg5))
            obtain ⟨ks', h5⟩ := H4.out.put HJ.out _ hown5 hg5
            generalize D.put (key j) _ = D2 at h5 hown5
            obtain ⟨W2, hw, hle⟩ := h5.weight
            have HWT := Lib.hid hw
            have H5 := Lib.hid h5
            have hsz := h5.told.size
            have hsq := h5.sized
            have hz1 : (Maps.size D2 : Int) ≤ 51 := by have := H50.out; omega
            have hgt : ¬ ((W : Int) + (Maps.size D2 : Int) < (W2 : Int)) := by omega
            have hw60 : (W : Int) ≤ 60 := by omega
            clear h5 hw hle hsz hsq hown5 hg5 H4 ST LN
            go_wp2_with (first
              | (go_at_call 14; refine HWT.out.mono ?_; rintro e w' ⟨rfl, rfl⟩)
              | (at_len; refine wpList_len_own _ rfl _ 38 rfl 3 3 Try.underlying38 _ mb (q + 1) D2 rfl H5.out.told.own ?_))
            go_roundw
            case rel => exact ⟨q + 1, _, D2, ks', by have := HLT.out; omega, by have := H50.out; omega, by go_num, HCL, H5⟩
            case measure => have := HLT.out; simp [intOf]; omega
          · have hqn : (50 : Int) ≤ (q : Int) := by omega
            clear h50
            go_wp2_with fail
            go_ret
            exact ⟨rfl, HBW.out⟩
        · have hqi : ¬ ((q : Int) < (len2 : Int)) := by omega
          clear hlt hq2 hq50
          go_wp2_with fail
          go_ret
          exact ⟨rfl, HBW.out⟩
end TmK
end Go.Proofs.Ytafcecacldafgaa
