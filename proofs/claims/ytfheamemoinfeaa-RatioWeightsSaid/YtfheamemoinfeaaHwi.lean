/- Decay (no statement of its own). -/
import Derived.Test.YtfheamemoinfeaaHwf
import Derived.Deep.RegionHeld3
namespace Go.Proofs.Ytfheamemoinfeaa
open Go.RowKit
open Go.Maps (Keyed)
open RtA
set_option linter.unusedVariables false
def DecR (R R' : List Rn) (k y : Nat) : Prop := R'.length = R.length ∧ ∀ i, i < R.length → (nthR R' i).1 = (nthR R i).1 ∧ (i < k → FR .mul (nthR R i).2 y (nthR R' i).2) ∧ (k ≤ i → nthR R' i = nthR R i)
def DecB (B B' : List Nat) (k y : Nat) : Prop := B'.length = B.length ∧ ∀ i, i < B.length → (i < k → FR .mul (nthF B i) y (nthF B' i)) ∧ (k ≤ i → nthF B' i = nthF B i)
theorem DecR.zero (R : List Rn) (y : Nat) : DecR R R 0 y := ⟨rfl, fun i hi => ⟨rfl, fun h => by omega, fun _ => rfl⟩⟩
theorem DecB.zero (B : List Nat) (y : Nat) : DecB B B 0 y := ⟨rfl, fun i hi => ⟨fun h => by omega, fun _ => rfl⟩⟩
theorem DecR.next {R R' : List Rn} {k y z : Nat} (h : DecR R R' k y) (hk : k < R.length) (hz : FR .mul (nthR R k).2 y z) : DecR R (R'.set k ((nthR R' k).1, z)) (k + 1) y := by
  have hk' : k < R'.length := by rw [h.1]; exact hk
  refine ⟨by rw [List.length_set]; exact h.1, fun i hi => ?_⟩
  obtain ⟨h1, h2, h3⟩ := h.2 i hi
  rw [nthR_set _ _ _ _ hk']
  by_cases e : i = k
  · subst e
    rw [if_pos rfl]
    exact ⟨h1, fun _ => hz, fun h => by omega⟩
  · rw [if_neg e]
    exact ⟨h1, fun h => h2 (by omega), fun h => h3 (by omega)⟩
theorem DecB.next {R R' : List Nat} {k y z : Nat} (h : DecB R R' k y) (hk : k < R.length) (hz : FR .mul (nthF R k) y z) : DecB R (R'.set k z) (k + 1) y := by
  have hk' : k < R'.length := by rw [h.1]; exact hk
  refine ⟨by rw [List.length_set]; exact h.1, fun i hi => ?_⟩
  obtain ⟨h2, h3⟩ := h.2 i hi
  rw [nthF_set _ _ _ _ hk']
  by_cases e : i = k
  · subst e
    rw [if_pos rfl]
    exact ⟨fun _ => hz, fun h => by omega⟩
  · rw [if_neg e]
    exact ⟨fun h => h2 (by omega), fun h => h3 (by omega)⟩
theorem endR_dec {R R' : List Rn} {k y : Nat} (h : DecR R R' k y) : endR R' = endR R := by
  obtain ⟨n, hn⟩ : ∃ n, R.length = n := ⟨_, rfl⟩
  rcases n with _ | q
  · have h1 := List.eq_nil_of_length_eq_zero hn
    have h2 := List.eq_nil_of_length_eq_zero (h.1.trans hn)
    rw [h1, h2]
  · rw [← endR_last hn, ← endR_last (h.1.trans hn), (h.2 q (by omega)).1]
theorem winv_decay {R R' : List Rn} {f : Int → Option Nat} {B B' X : List Nat} {y : Nat} (h : WInv R f B X) (hR : DecR R R' R.length y) (hB : DecB B B' B.length y) :
    ∃ X', X'.length = X.length ∧ (∀ j, j < X.length → FR .mul (nthF X j) y (nthF X' j)) ∧ WInv R' f B' X' := by
  have hex : ∀ j, j < X.length → ∃ x', FR .mul (nthF X j) y x' ∧ (∀ a, f (j : Int) = some a → x' = nthF B' a) ∧ (f (j : Int) = none → ∃ i, i < R.length ∧ (∀ q, q < i → (nthR R q).1 ≤ (j : Int)) ∧ (j : Int) < (nthR R i).1 ∧ x' = (nthR R' i).2) := by
    intro j hj
    cases hf : f (j : Int) with
    | some a =>
      obtain ⟨q, e, _, ha, hx⟩ := h.bmp _ _ hf
      have : q = j := by omega
      subst this
      exact ⟨nthF B' a, by rw [hx]; exact (hB.2 a ha).1 ha, (fun c hc => by injection hc with hc; rw [hc]), (fun h => by cases h)⟩
    | none =>
      obtain ⟨i, h1, h2, h3, h4⟩ := h.run j hj hf
      exact ⟨(nthR R' i).2, by rw [h4]; exact (hR.2 i h1).2.1 h1, (fun c hc => by cases hc), fun _ => ⟨i, h1, h2, h3, rfl⟩⟩
  obtain ⟨F, hF⟩ := Go.Deep.choose_lt hex
  have hlen : ((List.range X.length).map F).length = X.length := by simp
  have hn : ∀ j, j < X.length → nthF ((List.range X.length).map F) j = F j := by
    intro j hj
    unfold nthF
    rw [List.getD_eq_getElem?_getD, List.getElem?_map, List.getElem?_range hj]
    rfl
  have h1 : ∀ i, i < R.length → (nthR R' i).1 = (nthR R i).1 := fun i hi => (hR.2 i hi).1
  refine ⟨(List.range X.length).map F, hlen, fun j hj => by rw [hn j hj]; exact (hF j hj).1, ⟨by rw [endR_dec hR, hlen]; exact h.len, ?_, fun r hr => ?_, fun j hj hf => ?_, fun j a ha => ?_, h.inj, fun x hx => ?_⟩⟩
  · refine List.pairwise_iff_getElem.2 fun i j hi hj hij => ?_
    rw [nthR_get R' i hi, nthR_get R' j hj, h1 i (by rw [← hR.1]; exact hi), h1 j (by rw [← hR.1]; exact hj)]
    exact ris_lt h.ris hij (by rw [← hR.1]; exact hj)
  · obtain ⟨i, hi, e⟩ := List.mem_iff_getElem.1 hr
    have hi' : i < R.length := by rw [← hR.1]; exact hi
    rw [← e, nthR_get R' i hi, h1 i hi', ← nthR_get R i hi']
    exact h.pos _ (List.getElem_mem hi')
  · rw [hlen] at hj
    obtain ⟨i, g1, g2, g3, g4⟩ := (hF j hj).2.2 hf
    exact ⟨i, by rw [hR.1]; exact g1, fun q hq => by rw [h1 q (by omega)]; exact g2 q hq, by rw [h1 i g1]; exact g3, by rw [hn j hj]; exact g4⟩
  · obtain ⟨q, e, g1, g2, g3⟩ := h.bmp j a ha
    exact ⟨q, e, by rw [hlen]; exact g1, by rw [hB.1]; exact g2, by rw [hn q g1]; exact (hF q g1).2.1 a (by rw [← e]; exact ha)⟩
  · rw [List.mem_map] at hx
    obtain ⟨j, hj, rfl⟩ := hx
    exact (hF j (List.mem_range.1 hj)).1.1
def DecayP (P : Nat → Prop) (b K y : Nat) (X : List Nat) (w : World) (e : Ending) (w' : World) : Prop := e = .returned (.tuple #[]) ∧ ∃ X', X'.length = X.length ∧ (∀ j, j < X.length → FR .mul (nthF X j) y (nthF X' j)) ∧ WA P w' b K X' ∧ Kp P w w'
theorem grown_self (w : World) (row : Option Nat) : w.grownBy w row := ⟨rfl, rfl, rfl, Nat.le_refl _, fun _ _ _ => rfl⟩
theorem grown_thenrow {a b c : World} {row : Option Nat} (h : a.grownBy b row) (h2 : b.grownBy c row) : a.grownBy c row :=
  ⟨h2.os.trans h.os, h2.tape.trans h.tape, h2.output.trans h.output, Nat.le_trans h.size h2.size, fun k hk hr => (h2.block k (Nat.lt_of_lt_of_le hk h.size) hr).trans (h.block k hk hr)⟩
set_option maxRecDepth 100000 in
set_option maxHeartbeats 4000000 in
theorem wdecay_any {P : Nat → Prop} {w : World} {b K : Nat} {X : List Nat} (y : Nat) (h : WA P w b K X) (hK : K ≤ 90000) : Calls Try.prog 19 #[.pointer (some ⟨b, 0, none⟩), .float .f64 y] w (DecayP P b K y X w) := by
  obtain ⟨v1, m, v3, R, f, Bm, h1, h2, h3, h4, h5, h6, h7, h8, h9, h10, h11⟩ := h
  have hsf := run_store_float Try.prog
  obtain ⟨A1, k1, e1, -, -, hA1⟩ := row_form h2
  subst e1
  obtain ⟨A3, k3, e3, -, -, -, hA3⟩ := h4.form
  subst e3
  obtain ⟨n, hn⟩ : ∃ n, R.length = n := ⟨_, rfl⟩
  obtain ⟨nb, hnb⟩ : ∃ n, Bm.length = n := ⟨_, rfl⟩
  have n1 : ∀ k, (Value.slice A1 R.length k1).ownBlock = some k → k ≠ b := fun k e => row_hd h2 e h1 (by decide)
  have n2 : ∀ k, (Value.slice A3 Bm.length k3).ownBlock = some k → k ≠ b := fun k e => row_hd h4 e h1 (by decide)
  have n3 : ∀ k, (Value.slice A1 R.length k1).ownBlock = some k → k ≠ m := fun k e => row_map h2 e h3
  have n4 : ∀ k, (Value.slice A3 Bm.length k3).ownBlock = some k → k ≠ m := fun k e => row_map h4 e h3
  have n5 : ∀ k, (Value.slice A3 Bm.length k3).ownBlock = some k → (Value.slice A1 R.length k1).ownBlock ≠ some k := fun k e => row_ne2 h4 h2 (by decide) e
  have hA1' : 0 < n → ∃ g, A1 = some ⟨g, 0, none⟩ ∧ g < w.heap.size := fun q => hA1 (by omega)
  rw [hn] at h1 h2 n1 n3 n5 h6
  rw [hnb] at h1 h4 n2 n4 n5 h7
  have c0 := h1.c0
  have H1 := Lib.hid h1
  have H2 := Lib.hid h2
  have H3 := Lib.hid h3
  have H4 := Lib.hid h4
  have H5 := Lib.hid h5
  have HA1 := Lib.hid hA1'
  have HA3 := Lib.hid hA3
  have HN := Lib.hid hn
  have HNB := Lib.hid hnb
  have N1 := Lib.hid n1
  have N2 := Lib.hid n2
  have N3 := Lib.hid n3
  have N4 := Lib.hid n4
  have N5 := Lib.hid n5
  have H10 := Lib.hid h10
  have H11 := Lib.hid h11
  clear h1 h2 h3 h4 h5 hA1 hA1' hA3 hn hnb n1 n2 n3 n4 n5 h10 h11
  go_enter Try.func19, Try.ntmps19
  go_wp2_with fail
  go_loopw [13] (fun i wr => ∃ (k : Nat) (R' : List Rn), k ≤ n ∧ i = .int .i64 (k : Int) ∧ DecR R R' k y ∧ RowR wr (.slice A1 n k1) R' ∧ w.grownBy wr (Value.slice A1 n k1).ownBlock) (fun i _ => n - (intOf i).toNat)
  case atStart => exact ⟨0, R, Nat.zero_le _, rfl, DecR.zero R y, by have := H2.out; exact this, grown_self _ _⟩
  case round =>
    obtain ⟨k, R', hk, rfl, hD, hRow, hg⟩ := hrel
    have HD := Lib.hid hD
    have HG := Lib.hid hg
    by_cases hlt : k < n
    · obtain ⟨g, hAe, hgl⟩ := HA1.out (by omega)
      subst hAe
      have hlen : R'.length = n := by rw [hD.1]; exact HN.out
      rw [← hlen] at hRow
      have HLEN := Lib.hid hlen
      have hHd := H1.out.block (hg.block b H1.out.lt (fun e => N1.out b e.symm rfl))
      have cb := hHd.c0
      have d5' := hRow.at1 k (by omega)
      have fz5' := hRow.frozen (k * 2 + 1)
      obtain ⟨x, hx⟩ : ∃ x, (nthR R' k).2 = x := ⟨_, rfl⟩
      have hx2 : (nthR R k).2 = x := by rw [← hx, (hD.2 k (by rw [HN.out]; exact hlt)).2.2 (Nat.le_refl _)]
      rw [hx] at d5'
      have HX2 := Lib.hid hx2
      obtain ⟨ff, fd, hfd⟩ := float_run .mul rfl 24 x y
      have f1 := fun W => (hfd W).1
      have F2 : Hid (∀ W, FR .mul x y (ff W)) := Lib.hid fun W => (hfd W).2
      have HH5 := Lib.hid hHd
      have ROWR := Lib.hid hRow
      have hgb : g ≠ b := N1.out g rfl
      have hk9 : n ≤ 90000 := by omega
      clear hD hRow hg hlen hHd hx hx2 hfd
      go_upto_region 4 with fail
      refine wp_region_noPanic ?_
      refine wp_region_held_drew (S := fun W => W.cell? ⟨b, 0, none⟩ = some (.slice (some ⟨g, 0, none⟩) n k1)) (by kernel_rfl) cb (fun hHeld => ?_)
      have d5 : wr.drew.cell? ⟨g, k * 2 + 1, none⟩ = some (.float .f64 x) := d5'
      have fz5 : wr.drew.frozen? ⟨g, k * 2 + 1, none⟩ = false := fz5'
      have ROW5 : Hid (∀ q, RowR (wr.drew.drewN q) (.slice (some ⟨g, 0, none⟩) R'.length k1) R') := Lib.hid (fun q => ROWR.out)
      have K5 : Hid (∀ q, w.grownBy (wr.drew.drewN q) (some g)) := Lib.hid (fun q => ⟨HG.out.os, HG.out.tape, HG.out.output, HG.out.size, HG.out.block⟩)
      have CELL7 : ∀ {W W' : World}, W.cell? ⟨b, 0, none⟩ = some (.slice (some ⟨g, 0, none⟩) n k1) → W.grownBy W' (some g) → W'.cell? ⟨b, 0, none⟩ = some (.slice (some ⟨g, 0, none⟩) n k1) := fun hc hgg => (World.cell?_of_block (a := ⟨b, 0, none⟩) (hgg.block b (World.block_lt_of_cell? _ _ hc) (by simp; omega))).trans hc
      clear c0 cb d5' fz5' ROWR
      generalize wr.drew = w5 at *
      refine wpAnyH_take (i := 0) (v := ?v1) rfl (by kernel_rfl) (by kernel_rfl) (by kernel_rfl) (fun _ _ _ h => h) (Or.inl ⟨by rfl, ?y1⟩) (by assumption) ?r1
      case y1 => ((intro w hSw; (try dsimp only at hSw); go_simp); try with_reducible rfl)
      try simp only [Act.put, List.getElem_toArray, List.getElem_cons_zero, List.setIfInBounds_toArray, List.set_cons_zero, List.set_cons_succ]
      refine wpAnyH_take (i := 1) (v := ?v2) rfl (by kernel_rfl) (by kernel_rfl) (by kernel_rfl) (fun _ _ _ h => h) (Or.inl ⟨by rfl, ?y2⟩) (by assumption) ?r2
      case y2 => ((intro w hSw; (try dsimp only at hSw); go_simp); try with_reducible rfl)
      try simp only [Act.put, List.getElem_toArray, List.getElem_cons_succ, List.getElem_cons_zero, List.setIfInBounds_toArray, List.set_cons_zero, List.set_cons_succ]
      refine wpAnyH_take (i := 2) (v := ?v3) rfl (by kernel_rfl) (by kernel_rfl) (by kernel_rfl) (fun _ _ _ h => h) (Or.inl ⟨by rfl, ?y3⟩) (by assumption) ?r3
      case y3 => ((intro w hSw; (try dsimp only at hSw); go_simp); try with_reducible rfl)
      try simp only [Act.put, List.getElem_toArray, List.getElem_cons_succ, List.getElem_cons_zero, List.setIfInBounds_toArray, List.set_cons_zero, List.set_cons_succ]
      refine wpAnyH_take (i := 3) (v := ?v4) rfl (by kernel_rfl) (by kernel_rfl) (by kernel_rfl) (fun _ _ _ h => h) (Or.inl ⟨by rfl, ?y4⟩) (by assumption) ?r4
      case y4 => ((intro w hSw; (try dsimp only at hSw); go_simp); try with_reducible rfl)
      try simp only [Act.put, List.getElem_toArray, List.getElem_cons_succ, List.getElem_cons_zero, List.setIfInBounds_toArray, List.set_cons_zero, List.set_cons_succ]
      refine wpAnyH_take (i := 4) (v := ?v5) rfl (by kernel_rfl) (by kernel_rfl) (by kernel_rfl) (fun _ _ _ h => h) (Or.inl ⟨by rfl, ?y5⟩) (by assumption) ?r5
      case y5 => ((intro w hSw; (try dsimp only at hSw); go_simp); try with_reducible rfl)
      try simp only [Act.put, List.getElem_toArray, List.getElem_cons_succ, List.getElem_cons_zero, List.setIfInBounds_toArray, List.set_cons_zero, List.set_cons_succ]
      refine wpAnyH_take (i := 5) (v := ?v6) rfl (by kernel_rfl) (by kernel_rfl) (by kernel_rfl) (fun _ _ _ h => h) (Or.inl ⟨by rfl, ?y6⟩) (by assumption) ?r6
      case y6 => ((intro w hSw; (try dsimp only at hSw); go_simp); try with_reducible rfl)
      try simp only [Act.put, List.getElem_toArray, List.getElem_cons_succ, List.getElem_cons_zero, List.setIfInBounds_toArray, List.set_cons_zero, List.set_cons_succ]
      refine wpAnyH_take (i := 6) (v := ?v7) rfl (by kernel_rfl) (by kernel_rfl) (by kernel_rfl) (fun _ _ _ h => h) (Or.inl ⟨by rfl, ?y7⟩) (by assumption) ?r7
      case y7 => ((intro w hSw; (try dsimp only at hSw); go_simp); try with_reducible rfl)
      try simp only [Act.put, List.getElem_toArray, List.getElem_cons_succ, List.getElem_cons_zero, List.setIfInBounds_toArray, List.set_cons_zero, List.set_cons_succ]
      refine wpAnyH_take (i := 7) (v := ?v8) rfl (by kernel_rfl) (by kernel_rfl) (by kernel_rfl) (fun _ _ _ h => h) (Or.inl ⟨by rfl, ?y8⟩) (by assumption) ?r8
      case y8 => ((intro w hSw; (try dsimp only at hSw); go_simp); try with_reducible rfl)
      try simp only [Act.put, List.getElem_toArray, List.getElem_cons_succ, List.getElem_cons_zero, List.setIfInBounds_toArray, List.set_cons_zero, List.set_cons_succ]
      refine wpAnyH_take (i := 8) (v := ?v9) rfl (by kernel_rfl) (by kernel_rfl) (by kernel_rfl) (fun _ _ _ h => h) (Or.inl ⟨by rfl, ?y9⟩) (by assumption) ?r9
      case y9 => ((intro w hSw; (try dsimp only at hSw); go_simp); try with_reducible rfl)
      try simp only [Act.put, List.getElem_toArray, List.getElem_cons_succ, List.getElem_cons_zero, List.setIfInBounds_toArray, List.set_cons_zero, List.set_cons_succ]
      refine wpAnyH_take (i := 9) (v := ?v10) rfl (by kernel_rfl) (by kernel_rfl) (by kernel_rfl) (fun _ _ _ h => h) (Or.inl ⟨by rfl, ?y10⟩) (by assumption) ?r10
      case y10 => ((intro w hSw; (try dsimp only at hSw); go_simp); try with_reducible rfl)
      try simp only [Act.put, List.getElem_toArray, List.getElem_cons_succ, List.getElem_cons_zero, List.setIfInBounds_toArray, List.set_cons_zero, List.set_cons_succ]
      refine wpAnyH_take (i := 10) (v := ?v11) rfl (by kernel_rfl) (by kernel_rfl) (by kernel_rfl) (fun _ _ _ h => h) (Or.inl ⟨by rfl, ?y11⟩) (by assumption) ?r11
      case y11 => ((intro w hSw; (try dsimp only at hSw); go_simp); try with_reducible rfl)
      try simp only [Act.put, List.getElem_toArray, List.getElem_cons_succ, List.getElem_cons_zero, List.setIfInBounds_toArray, List.set_cons_zero, List.set_cons_succ]
      refine wpAnyH_take (i := 11) (v := ?v12) rfl (by kernel_rfl) (by kernel_rfl) (by kernel_rfl) (fun _ _ _ h => h) (Or.inl ⟨by rfl, ?y12⟩) (by assumption) ?r12
      case y12 => ((intro w hSw; (try dsimp only at hSw); go_simp); try with_reducible rfl)
      try simp only [Act.put, List.getElem_toArray, List.getElem_cons_succ, List.getElem_cons_zero, List.setIfInBounds_toArray, List.set_cons_zero, List.set_cons_succ]
      refine wpAnyH_take (i := 13) (v := ?v13) rfl (by kernel_rfl) (by kernel_rfl) (by kernel_rfl) (fun _ _ _ h => h) (Or.inl ⟨by rfl, ?y13⟩) (by assumption) ?r13
      case y13 => ((intro w hSw; (try dsimp only at hSw); go_simp); try with_reducible rfl)
      try simp only [Act.put, List.getElem_toArray, List.getElem_cons_succ, List.getElem_cons_zero, List.setIfInBounds_toArray, List.set_cons_zero, List.set_cons_succ]
      refine wpAnyH_ready (rs := [12]) (by kernel_rfl) (by simp) ?_
      refine AllReadyH.cons rfl (fun K hK => ?_) ?_
      · go_simp
        refine hK.out _ _ hHeld (fun hHeld' => ?_)
        clear hHeld'
        clear hK K
        try simp only [Act.put, List.getElem_toArray, List.getElem_cons_succ, List.getElem_cons_zero, List.setIfInBounds_toArray, List.set_cons_zero, List.set_cons_succ]
        refine wpAnyH_ready (rs := [14]) (by kernel_rfl) (by simp) ?_
        refine AllReadyH.cons rfl (fun K hK => ?_) ?_
        · go_simp
          refine hK.out _ _ (show (w5.drewN (fd w5)).cell? ⟨b, 0, none⟩ = some (.slice (some ⟨g, 0, none⟩) n k1) from hHeld) (fun hHeld' => ?_)
          clear hHeld
          have hHeld := hHeld'
          clear hHeld'
          have FRX := Lib.hid (F2.out w5)
          have D6 : (w5.drewN (fd w5)).cell? ⟨g, k * 2 + 1, none⟩ = some (.float .f64 x) := d5
          have FZ6 : (w5.drewN (fd w5)).frozen? ⟨g, k * 2 + 1, none⟩ = false := fz5
          have ROW6 := Lib.hid (ROW5.out (fd w5))
          have K6 := Lib.hid (K5.out (fd w5))
          clear d5 fz5 f1 F2 ROW5 K5
          generalize w5.drewN (fd w5) = w6 at *
          generalize ff w5 = z at *
          clear hK K
          try simp only [Act.put, List.getElem_toArray, List.getElem_cons_succ, List.getElem_cons_zero, List.setIfInBounds_toArray, List.set_cons_zero, List.set_cons_succ]
          refine wpAnyH_take (i := 15) (v := ?v14) rfl (by kernel_rfl) (by kernel_rfl) (by kernel_rfl) (fun _ _ _ h => h) (Or.inl ⟨by rfl, ?y14⟩) (by assumption) ?r14
          case y14 => ((intro w hSw; (try dsimp only at hSw); go_simp); try with_reducible rfl)
          try simp only [Act.put, List.getElem_toArray, List.getElem_cons_succ, List.getElem_cons_zero, List.setIfInBounds_toArray, List.set_cons_zero, List.set_cons_succ]
          refine wpAnyH_take (i := 16) (v := ?v15) rfl (by kernel_rfl) (by kernel_rfl) (by kernel_rfl) (fun _ _ _ h => h) (Or.inl ⟨by rfl, ?y15⟩) (by assumption) ?r15
          case y15 => ((intro w hSw; (try dsimp only at hSw); go_simp); try with_reducible rfl)
          try simp only [Act.put, List.getElem_toArray, List.getElem_cons_succ, List.getElem_cons_zero, List.setIfInBounds_toArray, List.set_cons_zero, List.set_cons_succ]
          refine wpAnyH_ready (rs := [17]) (by kernel_rfl) (by simp) ?_
          refine AllReadyH.cons rfl (fun K hK => ?_) ?_
          · go_simp
            obtain ⟨row7, gr7⟩ := ROW6.out.store k z
            refine hK.out _ _ (CELL7 hHeld gr7) (fun hHeld' => ?_)
            clear hHeld hHeld' D6 FZ6
            clear hK K
            try simp only [Act.put, List.getElem_toArray, List.getElem_cons_succ, List.getElem_cons_zero, List.setIfInBounds_toArray, List.set_cons_zero, List.set_cons_succ]
            refine wpAnyH_done (by kernel_rfl) ?_ _
            refine NoPanic.normal ?_
            have HDN := Lib.hid (HD.out.next (by rw [HN.out]; exact hlt) (by rw [HX2.out]; exact FRX.out))
            have R7 : Hid (RowR (w6.setCell ⟨g, k * 2 + 1, none⟩ (.float .f64 z)) (.slice (some ⟨g, 0, none⟩) n k1) (R'.set k ((nthR R' k).1, z))) := Lib.hid (by rw [← HLEN.out]; exact row7)
            have G7 := Lib.hid (grown_thenrow K6.out gr7)
            clear row7 gr7 FRX ROW6 K6 HD HG HH5
            go_wp2_with fail
            go_roundw
            case rel => exact ⟨k + 1, _, by omega, by go_num, HDN.out, R7.out, G7.out⟩
            case measure => simp [intOf]; omega
          exact AllReadyH.nil
        exact AllReadyH.nil
      exact AllReadyH.nil
    · have : k = n := by omega
      subst this
      have hHd := H1.out.block (hg.block b H1.out.lt (fun e => N1.out b e.symm rfl))
      have c2 := hHd.c2
      have HH3 := Lib.hid hHd
      have H4W : Hid (OwnF wr 0 (.slice A3 nb k3) Bm) := Lib.hid (H4.out.keepB fun q e => hg.block q (H4.out.lt q e).2 (fun e2 => N5.out q e e2.symm))
      have H3W : Hid (Pls wr m f K) := Lib.hid (H3.out.block (hg.block m H3.out.lt (fun e => N3.out m e.symm rfl)))
      have HRW := Lib.hid hRow
      have HG := Lib.hid hg
      clear hD hRow hg hHd c0 hlt
      go_wp2_with fail
      obtain ⟨w3, e3⟩ : ∃ W, W = wr := ⟨wr, rfl⟩
      subst e3
      go_loopw [39] (fun i wq => ∃ (j : Nat) (B' : List Nat), j ≤ nb ∧ i = .int .i64 (j : Int) ∧ DecB Bm B' j y ∧ OwnF wq 0 (.slice A3 nb k3) B' ∧ w3.grownBy wq (Value.slice A3 nb k3).ownBlock) (fun i _ => nb - (intOf i).toNat)
      case atStart => exact ⟨0, Bm, Nat.zero_le _, rfl, DecB.zero Bm y, H4W.out, grown_self _ _⟩
      case round =>
        obtain ⟨k, B', hj, rfl, hDB, hOw, hgq⟩ := hrel
        have HDB := Lib.hid hDB
        have HGQ := Lib.hid hgq
        have HOW := Lib.hid hOw
        by_cases hjl : k < nb
        · have hlen : B'.length = nb := by rw [hDB.1]; exact HNB.out
          obtain ⟨g, c', e', -, -, hgl⟩ := ownF_some hOw hlen (by omega)
          injection e' with e1 _ e2
          subst e1
          subst e2
          rw [← hlen] at hOw
          have HLEN := Lib.hid hlen
          have hHd := HH3.out.block (hgq.block b HH3.out.lt (fun e => N2.out b e.symm rfl))
          have cb := hHd.c2
          have d5' := hOw.cell k (by omega)
          have fz5' := hOw.frozen k
          obtain ⟨x, hx⟩ : ∃ x, nthF B' k = x := ⟨_, rfl⟩
          have hx2 : nthF Bm k = x := by rw [← hx, (hDB.2 k (by rw [HNB.out]; exact hjl)).2 (Nat.le_refl _)]
          rw [hx] at d5'
          have HX2 := Lib.hid hx2
          obtain ⟨ff, fd, hfd⟩ := float_run .mul rfl 24 x y
          have f1 := fun W => (hfd W).1
          have F2 : Hid (∀ W, FR .mul x y (ff W)) := Lib.hid fun W => (hfd W).2
          have ROWR := Lib.hid hOw
          have hgb : g ≠ b := N2.out g rfl
          have hk9 : nb ≤ 90000 := by omega
          clear hDB hOw hgq hlen hHd hx hx2 hfd
          go_upto_region 9 with fail
          refine wp_region_noPanic ?_
          refine wp_region_held_drew (S := fun W => W.cell? ⟨b, 2, none⟩ = some (.slice (some ⟨g, 0, none⟩) nb k3)) (by kernel_rfl) cb (fun hHeld => ?_)
          have d5 : wr.drew.cell? ⟨g, k, none⟩ = some (.float .f64 x) := d5'
          have fz5 : wr.drew.frozen? ⟨g, k, none⟩ = false := fz5'
          have ROW5 : Hid (∀ q, OwnF (wr.drew.drewN q) 0 (.slice (some ⟨g, 0, none⟩) B'.length k3) B') := Lib.hid (fun q => ROWR.out)
          have K5 : Hid (∀ q, w3.grownBy (wr.drew.drewN q) (some g)) := Lib.hid (fun q => ⟨HGQ.out.os, HGQ.out.tape, HGQ.out.output, HGQ.out.size, HGQ.out.block⟩)
          have CELL7 : ∀ {W W' : World}, W.cell? ⟨b, 2, none⟩ = some (.slice (some ⟨g, 0, none⟩) nb k3) → W.grownBy W' (some g) → W'.cell? ⟨b, 2, none⟩ = some (.slice (some ⟨g, 0, none⟩) nb k3) := fun hc hgg => (World.cell?_of_block (a := ⟨b, 2, none⟩) (hgg.block b (World.block_lt_of_cell? _ _ hc) (by simp; omega))).trans hc
          clear c2 cb d5' fz5' ROWR
          generalize wr.drew = w5 at *
          refine wpAnyH_take (i := 0) (v := ?v101) rfl (by kernel_rfl) (by kernel_rfl) (by kernel_rfl) (fun _ _ _ h => h) (Or.inl ⟨by rfl, ?y101⟩) (by assumption) ?r101
          case y101 => ((intro w hSw; (try dsimp only at hSw); go_simp); try with_reducible rfl)
          try simp only [Act.put, List.getElem_toArray, List.getElem_cons_zero, List.setIfInBounds_toArray, List.set_cons_zero, List.set_cons_succ]
          refine wpAnyH_take (i := 1) (v := ?v102) rfl (by kernel_rfl) (by kernel_rfl) (by kernel_rfl) (fun _ _ _ h => h) (Or.inl ⟨by rfl, ?y102⟩) (by assumption) ?r102
          case y102 => ((intro w hSw; (try dsimp only at hSw); go_simp); try with_reducible rfl)
          try simp only [Act.put, List.getElem_toArray, List.getElem_cons_succ, List.getElem_cons_zero, List.setIfInBounds_toArray, List.set_cons_zero, List.set_cons_succ]
          refine wpAnyH_take (i := 2) (v := ?v103) rfl (by kernel_rfl) (by kernel_rfl) (by kernel_rfl) (fun _ _ _ h => h) (Or.inl ⟨by rfl, ?y103⟩) (by assumption) ?r103
          case y103 => ((intro w hSw; (try dsimp only at hSw); go_simp); try with_reducible rfl)
          try simp only [Act.put, List.getElem_toArray, List.getElem_cons_succ, List.getElem_cons_zero, List.setIfInBounds_toArray, List.set_cons_zero, List.set_cons_succ]
          refine wpAnyH_take (i := 3) (v := ?v104) rfl (by kernel_rfl) (by kernel_rfl) (by kernel_rfl) (fun _ _ _ h => h) (Or.inl ⟨by rfl, ?y104⟩) (by assumption) ?r104
          case y104 => ((intro w hSw; (try dsimp only at hSw); go_simp); try with_reducible rfl)
          try simp only [Act.put, List.getElem_toArray, List.getElem_cons_succ, List.getElem_cons_zero, List.setIfInBounds_toArray, List.set_cons_zero, List.set_cons_succ]
          refine wpAnyH_take (i := 4) (v := ?v105) rfl (by kernel_rfl) (by kernel_rfl) (by kernel_rfl) (fun _ _ _ h => h) (Or.inl ⟨by rfl, ?y105⟩) (by assumption) ?r105
          case y105 => ((intro w hSw; (try dsimp only at hSw); go_simp); try with_reducible rfl)
          try simp only [Act.put, List.getElem_toArray, List.getElem_cons_succ, List.getElem_cons_zero, List.setIfInBounds_toArray, List.set_cons_zero, List.set_cons_succ]
          refine wpAnyH_take (i := 5) (v := ?v106) rfl (by kernel_rfl) (by kernel_rfl) (by kernel_rfl) (fun _ _ _ h => h) (Or.inl ⟨by rfl, ?y106⟩) (by assumption) ?r106
          case y106 => ((intro w hSw; (try dsimp only at hSw); go_simp); try with_reducible rfl)
          try simp only [Act.put, List.getElem_toArray, List.getElem_cons_succ, List.getElem_cons_zero, List.setIfInBounds_toArray, List.set_cons_zero, List.set_cons_succ]
          refine wpAnyH_take (i := 6) (v := ?v107) rfl (by kernel_rfl) (by kernel_rfl) (by kernel_rfl) (fun _ _ _ h => h) (Or.inl ⟨by rfl, ?y107⟩) (by assumption) ?r107
          case y107 => ((intro w hSw; (try dsimp only at hSw); go_simp); try with_reducible rfl)
          try simp only [Act.put, List.getElem_toArray, List.getElem_cons_succ, List.getElem_cons_zero, List.setIfInBounds_toArray, List.set_cons_zero, List.set_cons_succ]
          refine wpAnyH_take (i := 7) (v := ?v108) rfl (by kernel_rfl) (by kernel_rfl) (by kernel_rfl) (fun _ _ _ h => h) (Or.inl ⟨by rfl, ?y108⟩) (by assumption) ?r108
          case y108 => ((intro w hSw; (try dsimp only at hSw); go_simp); try with_reducible rfl)
          try simp only [Act.put, List.getElem_toArray, List.getElem_cons_succ, List.getElem_cons_zero, List.setIfInBounds_toArray, List.set_cons_zero, List.set_cons_succ]
          refine wpAnyH_take (i := 8) (v := ?v109) rfl (by kernel_rfl) (by kernel_rfl) (by kernel_rfl) (fun _ _ _ h => h) (Or.inl ⟨by rfl, ?y109⟩) (by assumption) ?r109
          case y109 => ((intro w hSw; (try dsimp only at hSw); go_simp); try with_reducible rfl)
          try simp only [Act.put, List.getElem_toArray, List.getElem_cons_succ, List.getElem_cons_zero, List.setIfInBounds_toArray, List.set_cons_zero, List.set_cons_succ]
          refine wpAnyH_take (i := 9) (v := ?v110) rfl (by kernel_rfl) (by kernel_rfl) (by kernel_rfl) (fun _ _ _ h => h) (Or.inl ⟨by rfl, ?y110⟩) (by assumption) ?r110
          case y110 => ((intro w hSw; (try dsimp only at hSw); go_simp); try with_reducible rfl)
          try simp only [Act.put, List.getElem_toArray, List.getElem_cons_succ, List.getElem_cons_zero, List.setIfInBounds_toArray, List.set_cons_zero, List.set_cons_succ]
          refine wpAnyH_take (i := 10) (v := ?v111) rfl (by kernel_rfl) (by kernel_rfl) (by kernel_rfl) (fun _ _ _ h => h) (Or.inl ⟨by rfl, ?y111⟩) (by assumption) ?r111
          case y111 => ((intro w hSw; (try dsimp only at hSw); go_simp); try with_reducible rfl)
          try simp only [Act.put, List.getElem_toArray, List.getElem_cons_succ, List.getElem_cons_zero, List.setIfInBounds_toArray, List.set_cons_zero, List.set_cons_succ]
          refine wpAnyH_take (i := 12) (v := ?v112) rfl (by kernel_rfl) (by kernel_rfl) (by kernel_rfl) (fun _ _ _ h => h) (Or.inl ⟨by rfl, ?y112⟩) (by assumption) ?r112
          case y112 => ((intro w hSw; (try dsimp only at hSw); go_simp); try with_reducible rfl)
          try simp only [Act.put, List.getElem_toArray, List.getElem_cons_succ, List.getElem_cons_zero, List.setIfInBounds_toArray, List.set_cons_zero, List.set_cons_succ]
          refine wpAnyH_ready (rs := [11]) (by kernel_rfl) (by simp) ?_
          refine AllReadyH.cons rfl (fun K hK => ?_) ?_
          · go_simp
            refine hK.out _ _ hHeld (fun hHeld' => ?_)
            clear hHeld'
            clear hK K
            try simp only [Act.put, List.getElem_toArray, List.getElem_cons_succ, List.getElem_cons_zero, List.setIfInBounds_toArray, List.set_cons_zero, List.set_cons_succ]
            refine wpAnyH_ready (rs := [13]) (by kernel_rfl) (by simp) ?_
            refine AllReadyH.cons rfl (fun K hK => ?_) ?_
            · go_simp
              refine hK.out _ _ (show (w5.drewN (fd w5)).cell? ⟨b, 2, none⟩ = some (.slice (some ⟨g, 0, none⟩) nb k3) from hHeld) (fun hHeld' => ?_)
              clear hHeld
              have hHeld := hHeld'
              clear hHeld'
              have FRX := Lib.hid (F2.out w5)
              have D6 : (w5.drewN (fd w5)).cell? ⟨g, k, none⟩ = some (.float .f64 x) := d5
              have FZ6 : (w5.drewN (fd w5)).frozen? ⟨g, k, none⟩ = false := fz5
              have ROW6 := Lib.hid (ROW5.out (fd w5))
              have K6 := Lib.hid (K5.out (fd w5))
              clear d5 fz5 f1 F2 ROW5 K5
              generalize w5.drewN (fd w5) = w6 at *
              generalize ff w5 = z at *
              clear hK K
              try simp only [Act.put, List.getElem_toArray, List.getElem_cons_succ, List.getElem_cons_zero, List.setIfInBounds_toArray, List.set_cons_zero, List.set_cons_succ]
              refine wpAnyH_take (i := 14) (v := ?v113) rfl (by kernel_rfl) (by kernel_rfl) (by kernel_rfl) (fun _ _ _ h => h) (Or.inl ⟨by rfl, ?y113⟩) (by assumption) ?r113
              case y113 => ((intro w hSw; (try dsimp only at hSw); go_simp); try with_reducible rfl)
              try simp only [Act.put, List.getElem_toArray, List.getElem_cons_succ, List.getElem_cons_zero, List.setIfInBounds_toArray, List.set_cons_zero, List.set_cons_succ]
              refine wpAnyH_ready (rs := [15]) (by kernel_rfl) (by simp) ?_
              refine AllReadyH.cons rfl (fun K hK => ?_) ?_
              · go_simp
                obtain ⟨row7, gr7⟩ := ROW6.out.store k z
                refine hK.out _ _ (CELL7 hHeld gr7) (fun hHeld' => ?_)
                clear hHeld hHeld' D6 FZ6
                clear hK K
                try simp only [Act.put, List.getElem_toArray, List.getElem_cons_succ, List.getElem_cons_zero, List.setIfInBounds_toArray, List.set_cons_zero, List.set_cons_succ]
                refine wpAnyH_done (by kernel_rfl) ?_ _
                refine NoPanic.normal ?_
                have HDN := Lib.hid (HDB.out.next (by rw [HNB.out]; exact hjl) (by rw [HX2.out]; exact FRX.out))
                have R7 : Hid (OwnF (w6.setCell ⟨g, k, none⟩ (.float .f64 z)) 0 (.slice (some ⟨g, 0, none⟩) nb k3) (B'.set k z)) := Lib.hid (by rw [← HLEN.out]; exact row7)
                have G7 := Lib.hid (grown_thenrow K6.out gr7)
                clear row7 gr7 FRX ROW6 K6 HDB HGQ
                go_wp2_with fail
                go_roundw
                case rel => exact ⟨k + 1, _, by omega, by go_num, HDN.out, R7.out, G7.out⟩
                case measure => simp [intOf]; omega
              exact AllReadyH.nil
            exact AllReadyH.nil
          exact AllReadyH.nil
        · have : k = nb := by omega
          subst this
          clear hDB hOw hgq
          go_wp2_with fail
          go_end0
          have hkb : ∀ q, q < w3.heap.size → (∀ g, (Value.slice A3 k k3).ownBlock = some g → g ≠ q) → wr.heap[q]? = w3.heap[q]? := fun q hq hne => HGQ.out.block q hq (fun e => hne q e.symm rfl)
          obtain ⟨X', hl, hfr, hwi⟩ := winv_decay H5.out (by rw [HN.out]; exact HD.out) (by rw [HNB.out]; exact HDB.out)
          have hB' : B'.length = k := by rw [HDB.out.1]; exact HNB.out
          refine ⟨rfl, X', hl, hfr, ⟨_, m, _, R', f, B', HH3.out.block (hkb b HH3.out.lt (fun g e => N2.out g e)), ?_, H3W.out.block (hkb m H3W.out.lt (fun g e => N4.out g e)), HOW.out, hwi, by rw [HD.out.1, HN.out]; omega, by rw [hB']; omega, h8, h9, fun g e => H10.out g (by rw [HN.out]; exact e), fun g e => H11.out g (by rw [HNB.out]; exact e)⟩, ?_⟩
          · exact row_block HRW.out fun g e => hkb g (World.ownsRow.lt HRW.out g e).2 (fun g' e' e2 => N5.out g' e' (by rw [e2]; exact e))
          · exact (Kp.of_grown HG.out (fun g e => H10.out g (by rw [HN.out]; exact e))).trans (Kp.of_grown HGQ.out (fun g e => H11.out g (by rw [HNB.out]; exact e)))
end Go.Proofs.Ytfheamemoinfeaa
