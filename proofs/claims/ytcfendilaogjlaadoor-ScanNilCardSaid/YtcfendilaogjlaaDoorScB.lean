/- The walk of ScanInts. Condition: the library's ErrRange holds an error. -/
import Derived.Test.YtcfendilaogjlaaDoorSd2
namespace Go.Proofs.YtcfendilaogjlaaDoor
open Go.RowKit
set_option linter.unusedVariables false
theorem GlobR.lt {W : World} (h : GlobR W) : 1 < W.heap.size := by
  obtain ⟨ev, h1, _⟩ := h
  exact World.block_lt_of_cell? W _ h1
theorem GlobR.grown {W W' : World} {b : Nat} (h : GlobR W) (hg : W.grownBy W' (some b)) (hb : 1 ≠ b) : GlobR W' := by
  obtain ⟨ev, h1, h2⟩ := h
  exact ⟨ev, World.grownBy.cell hg h1 (by intro e; injection e with e; exact hb e), h2⟩
set_option maxRecDepth 100000 in
theorem int_word' (b : Nat) (s : ByteArray) (k f t : Nat) (v er : Int) (w : World) (hs : s.size ≤ 100000) (hk : k ≤ s.size) (h : ScanAt w b s k) (hr : stepW s.data.toList k = .word f t)
    (hR : ∀ W, w.grownBy W (some b) → Calls Tryd.prog 19 #[.string (s.extract f t)] W fun e w' => e = .returned (.tuple #[.int .i64 v, .int .i64 er]) ∧ Below W.heap.size W w') :
    Calls Tryd.prog 17 #[.pointer (some ⟨b, 0, none⟩)] w fun e w' => e = .returned (.tuple #[.int .i64 v, .int .i64 (f : Int), .int .i64 er]) ∧ w.grownBy w' (some b) ∧ ScanAt w' b s t := by
  have HW := Lib.hid (word_ok b s k f t w (by unfold maxLen; omega) hk h hr)
  have HR := Lib.hid hR
  clear h hr hR
  go_enter Tryd.func17, Tryd.ntmps17
  go_wp2_with (first | (go_at_call 13; refine HW.out.mono ?_; rintro e w1 ⟨rfl, hg, hS⟩; have HG := Lib.hid hg; have HS := Lib.hid hS; clear hg hS) | (go_at_call 19; refine (HR.out _ HG.out).mono ?_; rintro e w2 ⟨rfl, hb⟩; have HB := Lib.hid hb; clear hb))
  go_ret3
  exact ⟨rfl, sgrown_then HG.out (grown_any HB.out _), HS.out.below HB.out (Nat.le_refl _)⟩
set_option maxRecDepth 100000 in
set_option maxHeartbeats 4000000 in
theorem ints_walk (A : Option Addr) (n c : Nat) (z : Nat → Int) (w : World) (hG : GlobR w) (hnc : n ≤ c) (hn : (n : Int) ≤ 9223372036854775807) (hA : A = none → n = 0 ∧ c = 0) (hz : Bytes w A n z) :
    Calls Tryd.prog 4 #[.slice A n c] w fun e w' => e = .returned (.bool true) ∧ Below w.heap.size w w' := by
  have HC := Lib.hid (fun W (h : Bytes W A n z) => cut_any A n c z W hnc hn hA h)
  have hsz : (strZ z (min n 200)).size ≤ 200 := by rw [strZ_size]; omega
  generalize strZ z (min n 200) = s at HC hsz
  have HZ := Lib.hid hz
  have HG := Lib.hid hG
  clear hz hA hnc hn hG
  go_enter Tryd.func4, Tryd.ntmps4
  go_wp2_with fail
  refine (awake6_true _).mono ?_
  rintro e w1 ⟨rfl, b1⟩
  have B1 := Lib.hid b1
  clear b1
  go_wp2_with fail
  refine (HC.out _ (HZ.out.below B1.out)).mono ?_
  rintro e w2 ⟨⟨v, rfl, hO⟩, b2⟩
  have B2 := Lib.hid (then_ B1.out b2)
  obtain ⟨A2, c2, rfl, hS2, hb2⟩ := hO.form
  obtain ⟨hc2, hA2⟩ := hO.cap
  have S2 := Lib.hid hS2
  clear b2 hO hS2 hA2 hb2
  go_wp2_with fail
  refine (snew_any _ s w2 (conv_bytes S2.out)).mono ?_
  rintro e w4 ⟨rfl, rfl⟩
  have n4 := new_val w2 (.cells #[.string s, .int .i64 0] 53)
  have B4 := Lib.hid (then_ B2.out n4)
  have S4 := Lib.hid (S2.out.below n4 (Nat.le_refl _))
  have N4 := Lib.hid (ScanAt.new w2 s)
  have z34 : w2.heap.size < (w2.alloc (.cells #[.string s, .int .i64 0] 53)).heap.size := by simp
  clear n4
  generalize w2.alloc (.cells #[.string s, .int .i64 0] 53) = w4 at B4 S4 N4 z34 ⊢
  obtain ⟨ws, bd, hWB⟩ : ∃ ws bd, wordsL s.data.toList 0 = (ws, bd) := ⟨_, _, rfl⟩
  have HWB := Lib.hid hWB
  have HWA := Lib.hid (words_any A2 c2 s w4 (by omega) hc2 S4.out)
  unfold WordsP at HWA
  rw [hWB] at HWA
  obtain ⟨K, hK⟩ : ∃ K, ws.length = K := ⟨_, rfl⟩
  obtain ⟨BI, hBI⟩ : ∃ x, badI bd = x := ⟨_, rfl⟩
  simp only [hBI] at HWA
  clear hWB hBI
  go_wp2_with fail
  refine HWA.out.mono ?_
  rintro e w6 ⟨⟨v, rfl, hOW⟩, b6⟩
  have HK := Lib.hid hK
  obtain ⟨A6, c6, rfl, hKc, hgK⟩ := OwnW.formN hOW hK
  have hK2 : K ≤ s.size := by have h := wordsL_len s; rw [HWB.out] at h; simp only at h; omega
  have OW := Lib.hid hOW
  have N6 := Lib.hid (N4.out.below b6 (Nat.le_refl _))
  have B6 := Lib.hid (then_ B4.out b6)
  clear hOW hK hgK HWA b6
  go_wp2_with fail
  go_loopw [30] (fun i wr => ∃ k q : Nat, i = .int .i64 (k : Int) ∧ k ≤ K ∧ q ≤ s.size ∧ w6.grownBy wr (some w2.heap.size) ∧ ScanAt wr w2.heap.size s q ∧ wordsL s.data.toList q = (ws.drop k, bd)) (fun i _ => K - (intOf i).toNat)
  case atStart => exact ⟨0, 0, rfl, Nat.zero_le _, Nat.zero_le _, ⟨rfl, rfl, rfl, Nat.le_refl _, fun _ _ _ => rfl⟩, N6.out, HWB.out⟩
  case round =>
    obtain ⟨k, q, rfl, hk, hq, hg2, hS2, hl2⟩ := hrel
    by_cases hlt : k < K
    · have hkw : k < ws.length := by have := HK.out; omega
      rw [List.drop_eq_getElem_cons hkw] at hl2
      obtain ⟨f1, f2, f3, f4⟩ := wordsL_head (by rw [size_list]; exact hq) hl2
      obtain ⟨A7, c7, e6, hf6⟩ := OwnW.form (w := wr) (World.ownsRow.kept OW.out hg2 (Classical.or_iff_not_imp_left.2 fun _ h => by have h1 := (World.ownsRow.lt OW.out _ h).1; have h2 := N4.out.lt; omega))
      obtain rfl : A6 = A7 := by injection e6
      clear e6
      obtain ⟨g6, rfl, hg6, hgb, hc1, hc2', hfz⟩ := hf6 k hkw
      clear hf6
      obtain ⟨⟨f, t⟩, hx⟩ : ∃ x, ws[k] = x := ⟨_, rfl⟩
      rw [hx] at f1 f2 f3 f4 hc1 hc2'
      simp only at f1 f2 f3 f4 hc1 hc2'
      rw [size_list] at f4
      have F1 := Lib.hid f1
      have F2 := Lib.hid f2
      have S2' := Lib.hid hS2
      have G2 := Lib.hid hg2
      clear f1 f2 hx hl2 hS2 hg2
      obtain ⟨E, hE⟩ : ∃ E, s.extract f t = E := ⟨_, rfl⟩
      have hEs : E.size ≤ 1000000 := by rw [← hE, ByteArray.size_extract]; omega
      rw [hE] at hc1
      have HE := Lib.hid hE
      clear hE
      have z7 : w2.heap.size < wr.heap.size := S2'.out.lt
      have D1 := Lib.hid (below_grown B6.out G2.out (Nat.le_refl _) B2.out.size)
      have n7 := new_val wr (.cells #[.string E, .int .i64 (f : Int)] 31)
      have H7 := Lib.hid (heap_alloc_new wr (.cells #[.string E, .int .i64 (f : Int)] 31))
      have S7 := Lib.hid (S2'.out.below n7 (Nat.le_refl _))
      have G7 := Lib.hid (sgrown_then G2.out (grown_any n7 (some w2.heap.size)))
      have D7 := Lib.hid (then_ D1.out n7)
      clear n7
      have hm : decide (pastP isB s.data.toList q < s.size) = true := by
        have h := stepW_word (by rw [size_list]; exact hq) F1.out
        rw [← h.2.2.2.1]
        simp
        omega
      have HM := Lib.hid (fun W h => more_any w2.heap.size s q W (by unfold maxLen; omega) hq h)
      rw [hm] at HM
      clear hm
      go_wp2_with fail
      refine (HM.out _ S7.out).mono ?_
      rintro e w8 ⟨rfl, hg8⟩
      have z8 : wr.heap.size < w8.heap.size := by have h := hg8.size; simp at h; omega
      have H8 := Lib.hid ((hg8.block wr.heap.size (by simp) (by intro e; cases e)).trans H7.out)
      have S8 := Lib.hid ((hg8.block w2.heap.size S7.out.lt (by intro e; cases e)).trans S7.out : ScanAt w8 w2.heap.size s q)
      have G8 := Lib.hid (sgrown_then G7.out ⟨hg8.os, hg8.tape, hg8.output, hg8.size, fun k hk _ => hg8.block k hk (by intro e; cases e)⟩)
      have D8 := Lib.hid (below_grownO D7.out hg8 (Nat.le_refl _) (by intro g e; cases e))
      clear hg8
      have HI := int_word' w2.heap.size s q f t (readV E.data.toList) (readE E.data.toList) w8 (by omega) hq S8.out F1.out
      rw [HE.out] at HI
      have G0 := HG.out.below D8.out
      have hgl : 1 ≠ w2.heap.size := by have h1 := HG.out.lt; have h2 := B2.out.size; omega
      have HI := Lib.hid (HI fun W hg => read_any E W hEs (G0.grown hg hgl))
      clear G0 hgl
      go_wp2_with fail
      refine HI.out.mono ?_
      rintro e w9 ⟨rfl, hg9, hS9⟩
      have h9 := (hg9.block wr.heap.size (by omega) (by intro e; injection e with e; omega)).trans H8.out
      have hd0 : w9.cell? ⟨wr.heap.size, 0, none⟩ = some (.string E) := by rw [cell_of_row _ _ _ _ _ _ h9]; rfl
      have hd1 : w9.cell? ⟨wr.heap.size, 1, none⟩ = some (.int .i64 (f : Int)) := by rw [cell_of_row _ _ _ _ _ _ h9]; rfl
      have S9 := Lib.hid hS9
      have G9 := Lib.hid (sgrown_then G8.out hg9)
      have RR := Lib.hid (fun W => rread_any E W hEs)
      clear hg9 hS9 h9 hc1 hc2' hfz HI
      obtain ⟨rv, hrv⟩ : ∃ x, readV E.data.toList = x := ⟨_, rfl⟩
      obtain ⟨re, hre⟩ : ∃ x, readE E.data.toList = x := ⟨_, rfl⟩
      rw [hrv, hre] at RR ⊢
      clear hrv hre
      go_wp2_with (go_at_call 18; refine (RR.out _).mono ?_; rintro e w10 ⟨rfl, rfl⟩)
      go_roundw
      case rel => exact ⟨k + 1, t, by go_num, by omega, by omega, G9.out, S9.out, F2.out⟩
      case measure => simp [intOf]; omega
    · obtain rfl : k = K := by omega
      have hd : ws.drop k = [] := List.drop_eq_nil_of_le (by have := HK.out; omega)
      rw [hd] at hl2
      have hkl : ¬ ((k : Int) < (k : Int)) := by omega
      have hql : q ≤ s.data.toList.length := by rw [size_list]; exact hq
      have D7 := Lib.hid (below_grown B6.out hg2 (Nat.le_refl _) B2.out.size)
      rcases wordsL_stop hql hl2 with ⟨_, hst⟩ | ⟨t, _, hst⟩
      · have HI := Lib.hid (int_none w2.heap.size s q wr (by omega) hq hS2 hst)
        clear hl2 hS2 hg2 hd hst
        go_wp2_with (go_at_call 17; refine HI.out.mono ?_; rintro e w9 ⟨rfl, hg9, hS9⟩; have G9 := Lib.hid hg9; clear hg9 hS9)
        go_ret
        exact ⟨rfl, below_grown D7.out G9.out (Nat.le_refl _) B2.out.size⟩
      · have HI := Lib.hid (int_bad w2.heap.size s q t wr (by omega) hq hS2 hst)
        clear hl2 hS2 hg2 hd hst
        go_wp2_with (go_at_call 17; refine HI.out.mono ?_; rintro e w9 ⟨rfl, hg9, hS9⟩; have G9 := Lib.hid hg9; clear hg9 hS9)
        go_ret
        exact ⟨rfl, below_grown D7.out G9.out (Nat.le_refl _) B2.out.size⟩
end Go.Proofs.YtcfendilaogjlaaDoor
