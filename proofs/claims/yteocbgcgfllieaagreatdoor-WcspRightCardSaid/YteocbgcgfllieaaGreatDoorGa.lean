/- Tuples copied (no statement of its own). -/
import Derived.Test.YteocbgcgfllieaaGreatDoorUmw
import Derived.Test.YteocbgcgfllieaaGreatDoorMgT
import Derived.Deep.CutBlock
namespace Go.Proofs.YteocbgcgfllieaaGreatDoor
open Go.RowKit
set_option linter.unusedVariables false
/-- What is put of f, tuple by tuple. -/
def putT (o : Int) (f : List Nat → Int) (ts : List (List Nat)) : List Nat → Int := ts.foldl (fun g t => updF g t (f t)) (fun _ => o)
theorem putT_snoc (o : Int) (f : List Nat → Int) (ts : List (List Nat)) (t : List Nat) : putT o f (ts ++ [t]) = updF (putT o f ts) t (f t) := by simp [putT, List.foldl_append]
theorem putT_at (f : List Nat → Int) (t : List Nat) : ∀ (ts : List (List Nat)) (g : List Nat → Int), (ts.foldl (fun g t => updF g t (f t)) g) t = if t ∈ ts then f t else g t
  | [], g => by simp
  | u :: ts, g => by
    rw [List.foldl_cons, putT_at f t ts]
    by_cases h : t ∈ ts
    · simp [h]
    · by_cases hu : t = u
      · subst hu
        simp [h, updF]
      · simp [h, hu, updF]
theorem putT_all {l : List Nat} {o : Int} {f : List Nat → Int} (hl : ∀ n ∈ l, 1 ≤ n) {t : List Nat} (ht : InL l t) : putT o f (linesT l o f) t = f t := by
  unfold putT
  rw [putT_at]
  split
  · rfl
  · rename_i h
    rw [linesT_mem (o := o) (f := f) hl t] at h
    have : f t = o := by
      by_cases e : f t = o
      · exact e
      · exact absurd ⟨ht, e⟩ h
    exact this.symm
theorem lines_nil (w : World) : Calls Tryz.prog 79 #[.pointer none] w fun e w' => e = .returned (.slice none 0 0) ∧ w = w' := by
  go_enter Tryz.func79, Tryz.ntmps79
  go_wp2_with fail
  go_ret
  exact ⟨rfl, rfl⟩
theorem sizes_nil (w : World) : Calls Tryz.prog 77 #[.pointer none] w fun e w' => e = .returned (.slice none 0 0) ∧ w = w' := by
  go_enter Tryz.func77, Tryz.ntmps77
  go_wp2_with fail
  go_ret
  exact ⟨rfl, rfl⟩
theorem k_nil (w : World) : Calls Tryz.prog 74 #[.pointer none] w fun e w' => e = .returned (.int .i64 0) ∧ w = w' := by
  go_enter Tryz.func74, Tryz.ntmps74
  go_wp2_with fail
  go_ret
  exact ⟨rfl, rfl⟩
theorem other_nil (w : World) : Calls Tryz.prog 80 #[.pointer none] w fun e w' => e = .returned (.int .i64 0) ∧ w = w' := by
  go_enter Tryz.func80, Tryz.ntmps80
  go_wp2_with fail
  go_ret
  exact ⟨rfl, rfl⟩
theorem copied_nil (w : World) : Calls Tryz.prog 59 #[.pointer none] w fun e w' => e = .returned (.pointer none) ∧ Below w.heap.size w w' := by
  have S := Lib.hid (fun W => sizes_nil W)
  have K := Lib.hid (fun W => k_nil W)
  have O := Lib.hid (fun W => other_nil W)
  have L := Lib.hid (fun W => lines_nil W)
  have NW := Lib.hid (fun W => tpnew_range none 0 0 [] 0 0 W rfl (by decide) (.inl rfl) (fun n h => absurd h (by simp)) (by unfold InK; omega))
  go_enter Tryz.func59, Tryz.ntmps59
  go_upto_block 0 with (first
    | (go_at_call 77; refine (S.out _).mono ?_; rintro e w' ⟨rfl, rfl⟩)
    | (go_at_call 74; refine (K.out _).mono ?_; rintro e w' ⟨rfl, rfl⟩)
    | (go_at_call 80; refine (O.out _).mono ?_; rintro e w' ⟨rfl, rfl⟩)
    | (go_at_call 22; refine (NW.out _).mono ?_; rintro e w1 ⟨rfl, hb⟩; have B1 := Lib.hid hb; clear hb)
    | (go_at_call 79; refine (L.out _).mono ?_; rintro e w' ⟨rfl, rfl⟩)
    | fail)
  go_wp2_with fail
  go_loopw [6, 20] (fun _ i wr => i = .int .i64 0 ∧ wr = w1) (fun _ _ _ => 0)
  case atStart => exact ⟨rfl, rfl⟩
  case round =>
    obtain ⟨rfl, hwr⟩ := hrel
    rw [hwr]
    clear hwr
    go_wp2_with fail
    go_ret
    exact ⟨rfl, B1.out⟩
theorem map_neG {W : World} {m b : Nat} {i : Nat} {n : Nat} {D : DataW Unit} {v : Value} (hm : W.ownsMap Tryz.prog 103 (plainElem Tryz.prog 2) m n D) (hc : W.cell? ⟨b, i, none⟩ = some v) : some b ≠ some m := fun e => by
  injection e with e
  subst e
  obtain ⟨es, clock, h1, -⟩ := hm
  unfold World.cell? at hc
  rw [h1] at hc
  cases hc
theorem ints_map {W W' : World} {m n : Nat} {D : DataW Unit} {A : Option Addr} {l : List Nat} (h : Ints W A l) (hm : W.ownsMap Tryz.prog 103 (plainElem Tryz.prog 2) m n D) (hg : W.grownBy W' (some m)) : Ints W' A l := by
  rcases h with h | ⟨g', o', e, hg', hc⟩
  · exact .inl h
  · by_cases hn : l = []
    · exact .inl hn
    · have h0 : 0 < l.length := List.length_pos_iff.2 hn
      have hk := hg.block g' hg' (fun e => map_neG hm (hc 0 h0) e)
      exact .inr ⟨g', o', e, Nat.lt_of_lt_of_le hg' hg.size, fun i hi => (World.cell?_of_block (a := ⟨g', o' + i, none⟩) hk).trans (hc i hi)⟩
set_option maxRecDepth 100000 in
set_option maxHeartbeats 4000000 in
theorem copied_ok (g b N c : Nat) (A : Option Addr) (l : List Nat) (k o : Int) (f : List Nat → Int) (w : World) (H : TpAt w g b A c N l k o f) (h6 : l.length ≤ 6) (h32 : ∀ n ∈ l, 1 ≤ n ∧ n ≤ 32) (hN : N ≤ 1000000) (hko : InK o k) (hf : ∀ t, InL l t → InK (f t) k) (hln : (linesT l o f).length ≤ 100000) :
    Calls Tryz.prog 59 #[.pointer (some ⟨g, 0, none⟩)] w fun e w' => (∃ g' b' A' c', e = .returned (.pointer (some ⟨g', 0, none⟩)) ∧ TpAt w' g' b' A' c' (linesT l o f).length l k o (putT o f (linesT l o f)) ∧ w.heap.size ≤ g' ∧ w.heap.size ≤ b' ∧ ∀ a : Addr, A' = some a → w.heap.size ≤ a.block) ∧ Below w.heap.size w w' := by
  have HT := Lib.hid H
  have S := Lib.hid (tpsizes_ok g b N c A l k o f w H h6)
  have KK := Lib.hid (fun W (hb : Below w.heap.size w W) => tpk_ok g b N c A l k o f W (H.below hb))
  have OO := Lib.hid (fun W (hb : Below w.heap.size w W) => tpother_ok g b N c A l k o f W (H.below hb))
  have LL := Lib.hid (fun W (hb : Below w.heap.size w W) => tplines_any g b N c A l k o f W (H.below hb) h6 h32 hN)
  have NW := Lib.hid (fun A c W (h : Ints W A l) => tpnew_fresh A l.length c l k o W rfl h6 h h32 hko)
  have H6 := Lib.hid h6
  have H32 := Lib.hid h32
  have HF := Lib.hid hf
  have HLN := Lib.hid hln
  clear H h6 h32 hN hko hf hln
  go_enter Tryz.func59, Tryz.ntmps59
  go_upto_block 0 with (first
    | (go_at_call 77; refine S.out.mono ?_; rintro e w1 ⟨⟨v1, rfl, hO⟩, hb⟩; have B1 := Lib.hid hb; obtain ⟨A1, c1, rfl, hI⟩ := hO.form; have I1 := Lib.hid hI; clear hO hI hb)
    | (go_at_call 74; refine (KK.out _ B1.out).mono ?_; rintro e w' ⟨rfl, rfl⟩)
    | (go_at_call 80; refine (OO.out _ B1.out).mono ?_; rintro e w' ⟨rfl, rfl⟩)
    | (go_at_call 22; refine (NW.out _ _ _ I1.out).mono ?_; rintro e w2 ⟨⟨g2, b2, A2, c2, rfl, hT, hg2, hb2, hA2⟩, hb⟩; have GA := Lib.hid (fun a e => Nat.le_trans B1.out.size (hA2 a e).1); clear hA2; have B2 := Lib.hid (then_ B1.out hb); have T2 := Lib.hid hT; have G2 := Lib.hid (And.intro (Nat.le_trans B1.out.size hg2) (Nat.le_trans B1.out.size hb2)); clear hT hb hg2 hb2)
    | (go_at_call 79; refine (LL.out _ B2.out).mono ?_; rintro e w3 ⟨⟨v3, rfl, h3⟩, hb⟩; have B3 := Lib.hid (then_ B2.out hb); have T3 := Lib.hid (T2.out.below hb); obtain ⟨A3, c3, rfl, hf3⟩ := h3.form; have R3 := Lib.hid hf3; clear h3 hb hf3)
    | fail)
  clear S KK OO LL NW I1 T2 HT
  obtain ⟨ts, hts⟩ : ∃ ts, linesT l o f = ts := ⟨_, rfl⟩
  have HM : Hid (∀ t ∈ ts, InL l t) := Lib.hid (fun t ht => by rw [← hts, linesT_mem (fun n hn => (H32.out n hn).1)] at ht; exact ht.1)
  rw [hts] at R3 HLN ⊢
  have HTS := Lib.hid hts
  clear hts
  obtain ⟨n, hn⟩ : ∃ n, ts.length = n := ⟨_, rfl⟩
  have HN := Lib.hid hn
  rw [hn] at R3 HLN ⊢
  clear hn
  go_wp2_with fail
  go_loopw [6, 20] (fun _ i wr => ∃ j : Nat, i = .int .i64 (j : Int) ∧ j ≤ n ∧ TpAt wr g2 b2 A2 c2 j l k o (putT o f (ts.take j)) ∧ w3.grownBy wr (some b2)) (fun _ i _ => n - (intOf i).toNat)
  case atStart => exact ⟨0, rfl, Nat.zero_le _, by
    obtain ⟨a, b, c, D, h1, h2⟩ := T3.out
    exact ⟨a, b, c, D, h1, h2⟩, ⟨rfl, rfl, rfl, Nat.le_refl _, fun _ _ _ => rfl⟩⟩
  case round =>
    obtain ⟨j, rfl, hj, hT, hg⟩ := hrel
    have TR := Lib.hid hT
    have GR := Lib.hid hg
    clear hT hg
    by_cases hlt : j < n
    · have d1 : decide ((j : Int) < (n : Int)) = true := decide_eq_true (by omega)
      obtain ⟨g3, x, rfl, hg3, hx, hy, hO⟩ := R3.out j hlt
      obtain ⟨At, ct, rfl, hI⟩ := hO.form
      obtain ⟨D3, hm3, -⟩ := T3.out.map
      have hb3 := GR.out.block g3 hg3 (fun e => map_neG hm3 hx e)
      have k0 : wr.cell? ⟨g3, j * 2, none⟩ = some (.slice At (nthT ts j).length ct) := by rw [Nat.mul_comm]; exact (World.cell?_of_block (a := ⟨g3, 2 * j, none⟩) hb3).trans hx
      have k1 : wr.cell? ⟨g3, j * 2 + 1, none⟩ = some (.int .i64 (f (nthT ts j))) := by rw [Nat.mul_comm]; exact (World.cell?_of_block (a := ⟨g3, 2 * j + 1, none⟩) hb3).trans hy
      have IW := ints_map hI hm3 GR.out
      have htm : nthT ts j ∈ ts := by
        have hjl : j < ts.length := by rw [HN.out]; exact hlt
        simp only [nthT, List.getD_eq_getElem?_getD, List.getElem?_eq_getElem hjl, Option.getD_some]
        exact List.getElem_mem hjl
      have HIN := Lib.hid (HM.out _ htm)
      have HTK : Hid (ts.take (j + 1) = ts.take j ++ [nthT ts j]) := Lib.hid (by
        have hjl : j < ts.length := by rw [HN.out]; exact hlt
        rw [List.take_succ_eq_append_getElem hjl]
        simp [nthT, List.getD_eq_getElem?_getD, List.getElem?_eq_getElem hjl])
      have HFK := Lib.hid (HF.out _ HIN.out)
      generalize nthT ts j = t at k0 k1 IW HIN HTK HFK
      have n1 := new_val wr (.cells #[.slice At t.length ct, .int .i64 (f t)] 130)
      have TX := Lib.hid (TR.out.below n1)
      have IX := Lib.hid (IW.below n1 (Nat.le_refl _))
      have NX := Lib.hid n1
      have J6 := Lib.hid (show j ≤ 1000000 by have := HLN.out; omega)
      have hj5 : (j : Int) ≤ 100000 := by have := HLN.out; omega
      have LTJ := Lib.hid hlt
      clear hx hy hO hI hm3 hb3 IW n1 htm hg3
      go_upto_region 5 with (first
        | ((with_reducible show wpList _ _ _ (Oper.mk none (.store 130 _ _) _ _ _ _ :: _) _ _); refine wpList_store_row rfl 130 (.tmp 6) (.tmp 23) rfl wr.heap.size #[.slice At t.length ct, .int .i64 (f t)] rfl rfl 130 #[.slice none 0 0, .int .i64 0] (heap_alloc_new _ _) (by kernel_rfl) rfl (by simp [Value.oneCell']) ?_; rw [World.setRow_alloc_new])
        | fail)
      have X1 := Lib.hid (heap_alloc_new wr (.cells #[.slice At t.length ct, .int .i64 (f t)] 130))
      clear k0 k1
      generalize wr.alloc (.cells #[.slice At t.length ct, .int .i64 (f t)] 130) = w5 at X1 TX IX NX ⊢
      generalize wr.heap.size = B at X1 ⊢
      have b0 : w5.cell? ⟨B, 0, none⟩ = some (.slice At t.length ct) := by rw [cell_of_row _ _ _ _ _ _ X1.out]; rfl
      have b1 : w5.cell? ⟨B, 1, none⟩ = some (.int .i64 (f t)) := by rw [cell_of_row _ _ _ _ _ _ X1.out]; rfl
      have PU := Lib.hid (tpput_ok g2 b2 j c2 t.length ct A2 At l t k o (f t) (putT o f (ts.take j)) w5 TX.out rfl H6.out (fun n hn => (H32.out n hn).2) IX.out HIN.out HFK.out J6.out)
      go_wp2_with (first | (go_at_call 20; refine PU.out.mono ?_; rintro e w6 ⟨rfl, hT6, hg6⟩; have T6 := Lib.hid hT6; have G6 := Lib.hid (show w3.grownBy w6 (some b2) from ⟨hg6.os.trans (NX.out.os.trans GR.out.os), hg6.tape.trans (NX.out.tape.trans GR.out.tape), hg6.output.trans (NX.out.output.trans GR.out.output), Nat.le_trans GR.out.size (Nat.le_trans NX.out.size hg6.size), fun q h1 h2 => (hg6.block q (Nat.lt_of_lt_of_le h1 (Nat.le_trans GR.out.size NX.out.size)) h2).trans ((NX.out.block q (Nat.lt_of_lt_of_le h1 GR.out.size)).trans (GR.out.block q h1 h2))⟩); clear hT6 hg6) | fail)
      exact ⟨⟨j + 1, by simp, by have := LTJ.out; omega, by rw [HTK.out, putT_snoc]; exact T6.out, G6.out⟩, by simp [intOf]; have := LTJ.out; omega⟩
    · have d1 : decide ((j : Int) < (n : Int)) = false := decide_eq_false (by omega)
      have HJ := Lib.hid (show j = n by omega)
      go_wp2_with fail
      go_ret
      refine ⟨⟨g2, b2, A2, c2, rfl, ?_, G2.out.1, G2.out.2, GA.out⟩, ?_⟩
      · have h := TR.out
        rw [HJ.out, ← HN.out, List.take_length] at h
        rw [HTS.out]
        exact h
      · exact B3.out.grown GR.out B3.out.size (fun q hq => by injection hq with hq; have := G2.out.2; omega)
end Go.Proofs.YteocbgcgfllieaaGreatDoor
