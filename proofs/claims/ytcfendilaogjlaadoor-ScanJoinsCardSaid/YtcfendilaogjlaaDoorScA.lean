/- The walk of ScanWords. No condition. -/
import Derived.Test.YtcfendilaogjlaaDoorSc9
namespace Go.Proofs.YtcfendilaogjlaaDoor
open Go.RowKit
set_option linter.unusedVariables false
/-- The law's own bytes while they are turned: what is not turned yet is as it was. -/
def XorR (w4 : World) (base m c : Nat) (A : Option Addr) (s : ByteArray) (k : Nat) (wr : World) : Prop :=
  w4.grownBy wr (Value.ownBlock (.slice A m c)) ∧ ∃ xs, wr.ownsRow base 5 1 (.slice A m c) m xs ∧ ∀ j, k ≤ j → xs[j]? = (byC s)[j]?
theorem XorR.step {w4 wr : World} {base m c k : Nat} {A : Option Addr} {s : ByteArray} (h : XorR w4 base m c A s k wr) (hm : m = s.size) (hk : k < s.size) :
    ∃ g, A = some ⟨g, 0, none⟩ ∧ wr.cell? ⟨g, k, none⟩ = some (.int .u8 (s[k].toNat : Int)) ∧ wr.frozen? ⟨g, k, none⟩ = false ∧ ∀ u, XorR w4 base m c A s (k + 1) (wr.setCell ⟨g, k, none⟩ u) := by
  subst hm
  obtain ⟨hg, xs, hO, hx⟩ := h
  have hO' := hO
  obtain ⟨hl, ⟨e, hn⟩ | ⟨g, cap, cur, e, hb, hh, hm, hcm, hs, ht⟩⟩ := hO
  · omega
  · injection e with e1 e2 e3
    subst e1 e3
    have hxk : xs[k]? = some (.int .u8 (s[k].toNat : Int)) := by
      rw [hx k (Nat.le_refl _), List.getElem?_map, List.getElem?_eq_getElem (by rw [size_list]; exact hk)]
      rfl
    refine ⟨g, rfl, ?_, World.ownsRow.frozenAt hO' k, fun u => ?_⟩
    · rw [cell_of_row wr g k cur 5 (0, 0) hh]
      have e : (cur.toList.take (s.size * 1))[k]? = some (.int .u8 (s[k].toNat : Int)) := by rw [ht]; exact hxk
      rw [List.getElem?_take, if_pos (by omega)] at e
      simpa using e
    · have h2 := World.ownsRow.stored hO' k u
      refine ⟨sgrown_then hg h2.2, _, h2.1, fun j hj => ?_⟩
      rw [List.getElem?_set_ne (by omega)]
      exact hx j (by omega)
set_option maxRecDepth 100000 in
set_option maxHeartbeats 4000000 in
theorem words_walk (A : Option Addr) (n c : Nat) (z : Nat → Int) (w : World) (hnc : n ≤ c) (hn : (n : Int) ≤ 9223372036854775807) (hA : A = none → n = 0 ∧ c = 0) (hz : Bytes w A n z) :
    Calls Tryd.prog 3 #[.slice A n c] w fun e w' => e = .returned (.bool true) ∧ Below w.heap.size w w' := by
  have HC := Lib.hid (fun W (h : Bytes W A n z) => cut_any A n c z W hnc hn hA h)
  have hsz : (strZ z (min n 200)).size ≤ 200 := by rw [strZ_size]; omega
  generalize strZ z (min n 200) = s at HC hsz
  have HZ := Lib.hid hz
  clear hz hA hnc hn
  go_enter Tryd.func3, Tryd.ntmps3
  go_wp2_with fail
  refine (awake6_true _).mono ?_
  rintro e w1 ⟨rfl, b1⟩
  have B1 := Lib.hid b1
  clear b1
  go_wp2_with fail
  refine (HC.out _ (HZ.out.below B1.out)).mono ?_
  rintro e w2 ⟨⟨v, rfl, hO⟩, b2⟩
  have B2 := Lib.hid (then_ B1.out b2)
  obtain ⟨A2, c2, rfl, hS2, hb2⟩ := hO.form
  obtain ⟨hc2, hA2⟩ := hO.cap
  have S2 := Lib.hid hS2
  have HA2 := Lib.hid hA2
  have HB2 := Lib.hid hb2
  clear b2 hO hS2 hA2 hb2
  go_wp2_with fail
  refine (cut_own A2 c2 s w2 hsz hc2 HA2.out S2.out).mono ?_
  rintro e w3 ⟨⟨v, rfl, hO⟩, b3⟩
  have B3 := Lib.hid (then_ B2.out b3)
  have S3 := Lib.hid (S2.out.below b3 (Nat.le_refl _))
  obtain ⟨A3, c3, rfl, hS3, hb3⟩ := hO.form
  have O3 := Lib.hid hO
  have M3 := Lib.hid hS3
  have HB3 := Lib.hid hb3
  have z23 := b3.size
  clear b3 hO hS3 hb3
  go_wp2_with fail
  refine (snew_any _ s w3 (conv_bytes M3.out)).mono ?_
  rintro e w4 ⟨rfl, rfl⟩
  have n4 := new_val w3 (.cells #[.string s, .int .i64 0] 53)
  have B4 := Lib.hid (then_ B3.out n4)
  have S4 := Lib.hid (S3.out.below n4 (Nat.le_refl _))
  have O4 := Lib.hid (O3.out.below n4 (Nat.le_refl _))
  have N4 := Lib.hid (ScanAt.new w3 s)
  have z34 : w3.heap.size < (w3.alloc (.cells #[.string s, .int .i64 0] 53)).heap.size := by simp
  clear n4
  generalize w3.alloc (.cells #[.string s, .int .i64 0] 53) = w4 at B4 S4 O4 N4 z34 ⊢
  go_wp2_with fail
  go_loopw [29] (fun i wr => ∃ k : Nat, k ≤ s.size ∧ i = .int .i64 (k : Int) ∧ XorR w4 w2.heap.size s.size c3 A3 s k wr) (fun i _ => s.size - (intOf i).toNat)
  case atStart => exact ⟨0, Nat.zero_le _, rfl, ⟨rfl, rfl, rfl, Nat.le_refl _, fun _ _ _ => rfl⟩, _, O4.out, fun j _ => rfl⟩
  case round =>
    obtain ⟨k, hk, rfl, hX⟩ := hrel
    have HX := Lib.hid hX
    clear hX
    by_cases hlt : k < s.size
    · obtain ⟨g, rfl, hcell, hfr, hN⟩ := HX.out.step rfl hlt
      have HN := Lib.hid hN
      have hkl : (k : Int) < (s.size : Int) := by omega
      clear hN
      go_wp2_with fail
      go_roundw
      case rel => exact ⟨k + 1, by omega, by go_num, HN.out _⟩
      case measure => simp [intOf]; omega
    · obtain rfl : k = s.size := by omega
      have hkl : ¬ ((s.size : Int) < (s.size : Int)) := by omega
      obtain ⟨Wr, eW⟩ : ∃ W, W = wr := ⟨wr, rfl⟩
      subst eW
      have S5 := Lib.hid (S4.out.grown HX.out.1 (fun a e h => by obtain ⟨a3, h3, h4⟩ := own_block h.symm; have h5 := HB3.out a3 h3; have h6 := S2.out.lt e; omega))
      have N5 : Hid (ScanAt Wr w3.heap.size s 0) := Lib.hid ((HX.out.1.block w3.heap.size N4.out.lt (fun h => by obtain ⟨a3, h3, h4⟩ := own_block h.symm; have h5 := M3.out.lt h3; omega)).trans N4.out)
      have B5 : Hid (Below w.heap.size w Wr) := Lib.hid (below_grownO B4.out HX.out.1 (Nat.le_refl _) (fun g h => by obtain ⟨a3, h3, h4⟩ := own_block h; have h5 := HB3.out a3 h3; have h6 := B2.out.size; omega))
      have z45 := HX.out.1.size
      clear HX
      obtain ⟨ws, bd, hWB⟩ : ∃ ws bd, wordsL s.data.toList 0 = (ws, bd) := ⟨_, _, rfl⟩
      have HWB := Lib.hid hWB
      have HWA := Lib.hid (words_any A2 c2 s Wr (by omega) hc2 S5.out)
      have HCA := Lib.hid (fun W h => count_any A2 c2 s W (by omega) h)
      unfold WordsP at HWA
      rw [hWB] at HWA HCA
      obtain ⟨K, hK⟩ : ∃ K, ws.length = K := ⟨_, rfl⟩
      obtain ⟨BI, hBI⟩ : ∃ x, badI bd = x := ⟨_, rfl⟩
      obtain ⟨EN, hEN⟩ : ∃ x, endI s.size bd = x := ⟨_, rfl⟩
      obtain ⟨ER, hER⟩ : ∃ x, errI bd = x := ⟨_, rfl⟩
      simp only [hK, hBI, hEN, hER] at HWA HCA
      have HBI := Lib.hid hBI
      have HEN := Lib.hid hEN
      have HER := Lib.hid hER
      clear hWB hBI hEN hER
      go_wp2_with fail
      refine HWA.out.mono ?_
      rintro e w6 ⟨⟨v, rfl, hOW⟩, b6⟩
      have HK := Lib.hid hK
      obtain ⟨A6, c6, rfl, hKc, hgK⟩ := OwnW.formN hOW hK
      have hK2 : K ≤ s.size := by have h := wordsL_len s; rw [HWB.out] at h; simp only at h; omega
      have OW := Lib.hid hOW
      have N6 := Lib.hid (N5.out.below b6 (Nat.le_refl _))
      have S6 := Lib.hid (S5.out.below b6 (Nat.le_refl _))
      have B6 := Lib.hid (then_ B5.out b6)
      clear hOW hK hgK HWA b6
      go_wp2_with fail
      go_loopw [46] (fun i wr2 => ∃ k q : Nat, i = .int .i64 (k : Int) ∧ k ≤ K ∧ q ≤ s.size ∧ w6.grownBy wr2 (some w3.heap.size) ∧ ScanAt wr2 w3.heap.size s q ∧ wordsL s.data.toList q = (ws.drop k, bd)) (fun i _ => K - (intOf i).toNat)
      case atStart => exact ⟨0, 0, rfl, Nat.zero_le _, Nat.zero_le _, ⟨rfl, rfl, rfl, Nat.le_refl _, fun _ _ _ => rfl⟩, N6.out, HWB.out⟩
      case round =>
        obtain ⟨k, q, rfl, hk, hq, hg2, hS2, hl2⟩ := hrel
        by_cases hlt : k < K
        · have hkw : k < ws.length := by have := HK.out; omega
          rw [List.drop_eq_getElem_cons hkw] at hl2
          obtain ⟨f1, f2, f3, f4⟩ := wordsL_head (by rw [size_list]; exact hq) hl2
          obtain ⟨A7, c7, e6, hf6⟩ := OwnW.form (w := wr) (World.ownsRow.kept OW.out hg2 (Classical.or_iff_not_imp_left.2 fun _ h => by have h1 := (World.ownsRow.lt OW.out _ h).1; have h2 := N5.out.lt; omega))
          obtain rfl : A6 = A7 := by injection e6
          clear e6
          obtain ⟨g6, rfl, hg6, hgb, hc1, hc2', hfz⟩ := hf6 k hkw
          clear hf6
          obtain ⟨⟨f, t⟩, hx⟩ : ∃ x, ws[k] = x := ⟨_, rfl⟩
          rw [hx] at f1 f2 f3 f4 hc1 hc2'
          simp only at f1 f2 f3 f4 hc1 hc2'
          rw [size_list] at f4
          have F1 := Lib.hid f1
          have F2 := Lib.hid f2
          have S2' := Lib.hid hS2
          have G2 := Lib.hid hg2
          clear f1 f2 hx hl2 hS2 hg2
          obtain ⟨E, hE⟩ : ∃ E, s.extract f t = E := ⟨_, rfl⟩
          obtain ⟨L, hL⟩ : ∃ L, E.size = L := ⟨_, rfl⟩
          have HL : Hid (f + L = t) := Lib.hid (by rw [← hL, ← hE, ByteArray.size_extract]; omega)
          rw [hE] at hc1
          have HE := Lib.hid hE
          clear hE
          have he : (f : Int) + (L : Int) = (t : Int) := by have := HL.out; omega
          have n7 := new_val wr (.cells #[.string E, .int .i64 (f : Int)] 31)
          have H7 := heap_alloc_new wr (.cells #[.string E, .int .i64 (f : Int)] 31)
          have S7 := S2'.out.below n7 (Nat.le_refl _)
          have G7 := Lib.hid (sgrown_then G2.out (grown_any n7 _))
          have z7 : w3.heap.size < wr.heap.size := S2'.out.lt
          have HWD := word_ok w3.heap.size s q f t _ (by unfold maxLen; omega) hq S7 F1.out
          rw [HE.out] at HWD
          have HWD := Lib.hid HWD
          have H7 := Lib.hid H7
          clear n7 S7
          go_wp2_with fail
          refine HWD.out.mono ?_
          rintro e w8 ⟨rfl, hg8, hS8⟩
          have h8 := (hg8.block wr.heap.size (by simp) (by intro e; injection e with e; omega)).trans H7.out
          have hd0 : w8.cell? ⟨wr.heap.size, 0, none⟩ = some (.string E) := by rw [cell_of_row _ _ _ _ _ _ h8]; rfl
          have hd1 : w8.cell? ⟨wr.heap.size, 1, none⟩ = some (.int .i64 (f : Int)) := by rw [cell_of_row _ _ _ _ _ _ h8]; rfl
          have S8 := Lib.hid hS8
          have G8 := Lib.hid (sgrown_then G7.out hg8)
          clear hg8 hS8 h8 hc1 hc2' hfz HWD
          go_wp2_with (go_at_call 14; refine (at_any _ _ _ _ S8.out).mono ?_; rintro e w9 ⟨rfl, rfl⟩)
          go_roundw
          case rel => exact ⟨k + 1, t, by go_num, by omega, by omega, G8.out, S8.out, F2.out⟩
          case measure => simp [intOf]; omega
        · obtain rfl : k = K := by omega
          have hd : ws.drop k = [] := List.drop_eq_nil_of_le (by have := HK.out; omega)
          rw [hd] at hl2
          obtain ⟨Wq, eW⟩ : ∃ W, W = wr := ⟨wr, rfl⟩
          subst eW
          have HQ := Lib.hid hl2
          have S7 := Lib.hid hS2
          have G7 := Lib.hid hg2
          have B7 : Hid (BS Wq A2 s) := Lib.hid (S6.out.grown hg2 (fun a e h => by injection h with h; have h6 := S2.out.lt e; omega))
          have D7 : Hid (Below w.heap.size w Wq) := Lib.hid (below_grown B6.out hg2 (Nat.le_refl _) B3.out.size)
          have hkl : ¬ ((k : Int) < (k : Int)) := by omega
          clear hd hl2 hS2 hg2
          go_wp2_with fail
          refine (HCA.out _ B7.out).mono ?_
          rintro e w8 ⟨rfl, b8⟩
          have S8 := Lib.hid (S7.out.below b8 (Nat.le_refl _))
          have D8 := Lib.hid (then_ D7.out b8)
          clear b8
          go_wp2_with fail
          have hs63 : s.size ≤ maxLen := by unfold maxLen; omega
          have hql : q ≤ s.data.toList.length := by rw [size_list]; exact hq
          rcases wordsL_stop hql HQ.out with ⟨rfl, hst⟩ | ⟨t, rfl, hst⟩
          · obtain rfl : BI = -1 := HBI.out.symm
            obtain rfl : EN = s.size := HEN.out.symm
            obtain rfl : ER = 0 := HER.out.symm
            have MO := Lib.hid (fun W h => more_any w3.heap.size s q W hs63 hq h)
            have e := (stepW_none hql hst).1
            rw [size_list] at e
            rw [e, show decide (s.size < s.size) = false by simp] at MO
            have WN := Lib.hid (fun W h => word_none w3.heap.size s q W hs63 hq h hst)
            clear hst hs63 e
            go_loopw [86] (fun i wr3 => ∃ j : Nat, j ≤ 2 ∧ i = .int .i64 (j : Int) ∧ ScanAt wr3 w3.heap.size s q ∧ Below w.heap.size w wr3) (fun i _ => 2 - (intOf i).toNat)
            case atStart => exact ⟨0, by omega, rfl, S8.out, D8.out⟩
            case round =>
              obtain ⟨j, hj, rfl, hS3, hD3⟩ := hrel
              have S9 := Lib.hid hS3
              have D9 := Lib.hid hD3
              clear hS3 hD3
              by_cases hj2 : j < 2
              · have hjl : (j : Int) < 2 := by omega
                go_wp2_with (first | (go_at_call 13; refine (WN.out _ S9.out).mono ?_; rintro e w10 ⟨rfl, hg, hS⟩; have G10 := Lib.hid hg; have S10 := Lib.hid hS; clear hg hS) | (go_at_call 16; refine (MO.out _ S10.out).mono ?_; rintro e w11 ⟨rfl, hg⟩; have G11 := Lib.hid hg; clear hg))
                go_roundw
                case rel => exact ⟨j + 1, by omega, by go_num, (G11.out.block w3.heap.size S10.out.lt (by intro e; cases e)).trans S10.out, below_grownO (below_grown D9.out G10.out (Nat.le_refl _) B3.out.size) G11.out (Nat.le_refl _) (by intro g e; cases e)⟩
                case measure => simp [intOf]; omega
              · obtain rfl : j = 2 := by omega
                go_wp2_with fail
                go_ret
                exact ⟨sret_bool (by simp), D9.out⟩
          · obtain rfl : BI = (t : Int) := HBI.out.symm
            obtain rfl : EN = (t : Int) := HEN.out.symm
            obtain rfl : ER = 11 := HER.out.symm
            obtain ⟨e1, e2, _⟩ := stepW_bad hql hst
            have e3 := pastP_ge isW s.data.toList (pastP isB s.data.toList q)
            rw [size_list] at e2
            have MO := Lib.hid (fun W h => more_any w3.heap.size s q W hs63 hq h)
            rw [show decide (pastP isB s.data.toList q < s.size) = true by simp; omega] at MO
            have WN := Lib.hid (fun W h => word_bad w3.heap.size s q t W hs63 hq h hst)
            have ht0 : (0 : Int) ≤ (t : Int) := by omega
            clear hst hs63 e1 e3
            go_loopw [86] (fun i wr3 => ∃ j : Nat, j ≤ 2 ∧ i = .int .i64 (j : Int) ∧ ScanAt wr3 w3.heap.size s q ∧ Below w.heap.size w wr3) (fun i _ => 2 - (intOf i).toNat)
            case atStart => exact ⟨0, by omega, rfl, S8.out, D8.out⟩
            case round =>
              obtain ⟨j, hj, rfl, hS3, hD3⟩ := hrel
              have S9 := Lib.hid hS3
              have D9 := Lib.hid hD3
              clear hS3 hD3
              by_cases hj2 : j < 2
              · have hjl : (j : Int) < 2 := by omega
                go_wp2_with (first | (go_at_call 13; refine (WN.out _ S9.out).mono ?_; rintro e w10 ⟨rfl, hg, hS⟩; have G10 := Lib.hid hg; have S10 := Lib.hid hS; clear hg hS) | (go_at_call 16; refine (MO.out _ S10.out).mono ?_; rintro e w11 ⟨rfl, hg⟩; have G11 := Lib.hid hg; clear hg))
                go_roundw
                case rel => exact ⟨j + 1, by omega, by go_num, (G11.out.block w3.heap.size S10.out.lt (by intro e; cases e)).trans S10.out, below_grownO (below_grown D9.out G10.out (Nat.le_refl _) B3.out.size) G11.out (Nat.le_refl _) (by intro g e; cases e)⟩
                case measure => simp [intOf]; omega
              · obtain rfl : j = 2 := by omega
                go_wp2_with fail
                go_ret
                exact ⟨sret_bool (by simp), D9.out⟩
end Go.Proofs.YtcfendilaogjlaaDoor
