/- Contract of the document's Words: the walk (no statement of its own). Condition: at most 100000 bytes. -/
import Derived.Test.YtcfendilaogjlaaDoorSc5
namespace Go.Proofs.YtcfendilaogjlaaDoor
open Go.RowKit
set_option linter.unusedVariables false
/-- What holds when the loop stands at a byte. -/
def WordsR (w : World) (s : ByteArray) (v o : Value) (i : Nat) (wr : World) : Prop :=
  i ≤ s.size ∧ Below w.heap.size w wr ∧ ∃ ws : List (Nat × Nat), ws.length ≤ i ∧ OwnW wr w.heap.size v s ws ∧
    ((o = .bool false ∧ wordsL s.data.toList 0 = (ws ++ (wordsL s.data.toList i).1, (wordsL s.data.toList i).2)) ∨
     ∃ ws' f, o = .bool true ∧ ws = ws' ++ [(f, i)] ∧ OpenW s.data.toList f i ∧ wordsL s.data.toList 0 = (ws' ++ (wordsL s.data.toList f).1, (wordsL s.data.toList f).2))
def WordsP (w : World) (s : ByteArray) (e : Ending) (w' : World) : Prop :=
  (∃ v, e = .returned (.tuple #[v, .int .i64 (badI (wordsL s.data.toList 0).2)]) ∧ OwnW w' w.heap.size v s (wordsL s.data.toList 0).1) ∧ Below w.heap.size w w'
set_option maxRecDepth 100000 in
set_option maxHeartbeats 2000000 in
theorem words_any (A : Option Addr) (c : Nat) (s : ByteArray) (w : World) (hs : s.size ≤ 100000) (hsc : s.size ≤ c) (h : BS w A s) :
    Calls Tryd.prog 12 #[.slice A s.size c] w (WordsP w s) := by
  have HB := Lib.hid h
  clear h
  go_enter Tryd.func12, Tryd.ntmps12
  go_wp2_with fail
  go_loopw [4, 5, 10] (fun v o i wr => ∃ k : Nat, i = .int .i64 (k : Int) ∧ WordsR w s v o k wr) (fun _ _ i _ => s.size - (intOf i).toNat)
  case atStart => exact ⟨0, rfl, Nat.zero_le _, Below.refl _ _, [], Nat.le_refl _, OwnW.nil _ _ _, .inl ⟨rfl, by simp⟩⟩
  case round =>
    obtain ⟨k, rfl, hk, hbe, ws, hwl, hO, hst⟩ := hrel
    have BE := Lib.hid hbe
    have OW := Lib.hid hO
    clear hbe hO
    by_cases hlt : k < s.size
    · have hl : k < s.data.toList.length := by rw [size_list]; exact hlt
      rcases HB.out with ⟨rfl, h0⟩ | ⟨g, o, rfl, hg, hby⟩
      · omega
      have hc := bytes_below hby BE.out hg k hlt
      have HY := Lib.hid hby
      clear hby
      obtain ⟨x, hx⟩ : ∃ x, s[k].toNat = x := ⟨_, rfl⟩
      have hx2 : x ≤ 255 := by rw [← hx]; have := s[k].toNat_lt; omega
      have hxl : s.data.toList[k].toNat = x := hx
      rw [hx] at hc
      have HX := Lib.hid hxl
      clear hx hxl
      have hkl : (k : Int) < (s.size : Int) := by omega
      have hk1 : IntKind.i64.wrap ((k : Int) + 1) = (k : Int) + 1 := IntWalk.i64_in _ (by omega)
      obtain ⟨N, hN⟩ : ∃ N, ws.length = N := ⟨_, rfl⟩
      obtain ⟨A4, c4, rfl, hNc, hNg⟩ := OW.out.formN hN
      have HN := Lib.hid hN
      have HG := Lib.hid hNg
      clear hN hNg hk1
      cases hB : isB x with
      | true =>
        have FIN : Hid (∃ ws : List (Nat × Nat), ws.length ≤ k + 1 ∧ OwnW wr w.heap.size (.slice A4 N c4) s ws ∧
            (((Value.bool false : Value) = .bool false ∧ wordsL s.data.toList 0 = (ws ++ (wordsL s.data.toList (k + 1)).1, (wordsL s.data.toList (k + 1)).2)) ∨
             ∃ ws' f, (Value.bool false : Value) = .bool true ∧ ws = ws' ++ [(f, k + 1)] ∧ OpenW s.data.toList f (k + 1) ∧ wordsL s.data.toList 0 = (ws' ++ (wordsL s.data.toList f).1, (wordsL s.data.toList f).2))) := by
          refine Lib.hid ⟨ws, by omega, OW.out, .inl ⟨rfl, ?_⟩⟩
          have hb : isB s.data.toList[k].toNat = true := by rw [HX.out]; exact hB
          rcases hst with ⟨_, e⟩ | ⟨ws', f, _, rfl, ho, e⟩
          · rw [e, wordsL_skip hl hb]
          · rw [e, ho.close hl hb]
            simp
        clear hst
        have hx4 : x = 32 ∨ x = 9 ∨ x = 10 ∨ x = 13 := by simpa [isB, or_assoc] using hB
        clear hB HX
        rcases hx4 with rfl | rfl | rfl | rfl
        all_goals
          go_wp2_with fail
          go_roundw
          case rel => exact ⟨k + 1, by go_num, by omega, BE.out, FIN.out⟩
          case measure => simp [intOf]; omega
      | false =>
        obtain ⟨n1, n2, n3, n4⟩ : x ≠ 32 ∧ x ≠ 9 ∧ x ≠ 10 ∧ x ≠ 13 := by
          simp only [isB, Bool.or_eq_false_iff, beq_eq_false_iff_ne] at hB
          exact ⟨hB.1.1.1, hB.1.1.2, hB.1.2, hB.2⟩
        have e1 : ((x : Int) == 32) = false := by rw [beq_eq_false_iff_ne]; omega
        have e2 : ((x : Int) == 9) = false := by rw [beq_eq_false_iff_ne]; omega
        have e3 : ((x : Int) == 10) = false := by rw [beq_eq_false_iff_ne]; omega
        have e4 : ((x : Int) == 13) = false := by rw [beq_eq_false_iff_ne]; omega
        clear n1 n2 n3 n4
        have hnb : isB s.data.toList[k].toNat = false := by rw [HX.out]; exact hB
        have HNB := Lib.hid hnb
        clear hB hnb
        cases hW : isW x with
        | false =>
          have hnw : isW s.data.toList[k].toNat = false := by rw [HX.out]; exact hW
          have HNW := Lib.hid hnw
          have hr : (x : Int) < 33 ∨ ((33 : Int) ≤ (x : Int) ∧ (126 : Int) < (x : Int)) := by
            simp [isW] at hW
            omega
          clear hW hnw HX
          rcases hst with ⟨rfl, e⟩ | ⟨ws', f, rfl, rfl, ho, e⟩
          · have FIN : Hid (wordsL s.data.toList 0 = (ws, some k)) := Lib.hid (by rw [e, wordsL_wrong hl HNB.out HNW.out, List.append_nil])
            clear e
            rcases hr with hr | ⟨hr1, hr2⟩
            all_goals
              go_wp2_with fail
              go_ret2
              refine ⟨⟨_, by rw [FIN.out]; rfl, by rw [FIN.out]; exact OW.out⟩, BE.out⟩
          · have FIN : Hid (wordsL s.data.toList 0 = (ws', some k)) := Lib.hid (by rw [e, ho.wrong hl HNB.out HNW.out, List.append_nil])
            obtain ⟨m, rfl⟩ : ∃ m, N = m + 1 := ⟨N - 1, by have := HN.out; simp at this; omega⟩
            have HM : Hid (ws'.length = m) := Lib.hid (by have := HN.out; simpa using this)
            obtain ⟨g4, rfl, hg4, hb4⟩ := HG.out (by omega)
            have PO := Lib.hid (OW.out.pop HM.out)
            have hm9 : (m : Int) ≤ 100000 := by have := HM.out; have := HN.out; omega
            have hm8 : (m : Int) ≤ (c4 : Int) := by omega
            clear e ho hwl
            rcases hr with hr | ⟨hr1, hr2⟩
            all_goals
              go_wp2_with fail
              go_ret2
              refine ⟨⟨_, by rw [FIN.out]; rfl, by rw [FIN.out]; exact PO.out⟩, BE.out⟩
        | true =>
          have hnw : isW s.data.toList[k].toNat = true := by rw [HX.out]; exact hW
          have HNW := Lib.hid hnw
          obtain ⟨hr1, hr2⟩ : (33 : Int) ≤ (x : Int) ∧ (x : Int) ≤ 126 := by
            simp [isW] at hW
            omega
          clear hW hnw HX
          rcases hst with ⟨rfl, e⟩ | ⟨ws', f, rfl, rfl, ho, e⟩
          · have FIN : Hid (wordsL s.data.toList 0 = (ws ++ (wordsL s.data.toList k).1, (wordsL s.data.toList k).2)) := Lib.hid e
            have OP := Lib.hid (OpenW.new hl HNW.out)
            have hw9 : ws.length ≤ 1000000 := by omega
            have HW9 := Lib.hid hw9
            clear e hw9
            go_wp2_with (at_builtin; refine push_word rfl (.tmp 45) (.tmp 48) rfl wr w.heap.size _ s ws k rfl rfl OW.out BE.out.size HW9.out ?_; intro v' w4 h1 h2; obtain ⟨A5, c5, rfl, _, hg5⟩ := h1.formN (m := N + 1) (by rw [List.length_append, HN.out]; rfl); obtain ⟨g5, rfl, hg5, hb5⟩ := hg5 (by omega); have O4 := Lib.hid h1; have B4 := Lib.hid h2; clear h1 h2)
            have HY4 : Hid (Lib.Bytes w4.drew g o s) := Lib.hid (fun i hi => bytes_below HY.out (BE.out.trans B4.out) hg i hi)
            obtain ⟨hcell, hfr⟩ : w4.drew.cell? ⟨g5, N * 2, none⟩ = some (.string (s.extract k k)) ∧ ∀ j, w4.drew.frozen? ⟨g5, j, none⟩ = false := O4.out.last HN.out
            have hfr := hfr (N * 2)
            obtain ⟨hsl, hcv⟩ := one_byte w4.drew g o c k s (by omega) hlt HY4.out
            have MO := Lib.hid (OwnW.more (w := w4.drew) O4.out)
            rw [HN.out, ← extract_more s (Nat.le_refl k)] at MO
            have hsz := extract_sizes s k k hs
            generalize s.extract k k = E at hcell MO hsz
            generalize s.extract k (k + 1) = D at hcv MO hsz
            have hN9 : N ≤ 100000 := by have := HN.out; omega
            obtain ⟨hN1, _, hN2⟩ := small_wraps N (by omega)
            obtain ⟨hk1, hk2, _⟩ := small_wraps k (by omega)
            have hNl : (N : Int) < (N : Int) + 1 := by omega
            have HWL : Hid (ws.length ≤ k) := Lib.hid (by omega)
            clear hc hwl hNc
            go_still_tail 16, (by kernel_rfl)
            change wpList _ _ _ _ _ w4.drew
            clear hsl hcv hN1 hN2 hk1 hk2 hNl
            have MO2 : Hid (OwnW (w4.drew.setCell ⟨g5, N * 2, none⟩ (.string (E ++ D))) w.heap.size (.slice (some ⟨g5, 0, none⟩) (N + 1) c5) s (ws ++ [(k, k + 1)]) ∧ Below w.heap.size w (w4.drew.setCell ⟨g5, N * 2, none⟩ (.string (E ++ D)))) :=
              Lib.hid ⟨MO.out.1, below_grown (BE.out.trans B4.out).drew (show w4.drew.grownBy (w4.drew.setCell ⟨g5, N * 2, none⟩ (.string (E ++ D))) (some g5) from MO.out.2) (Nat.le_refl _) hb5⟩
            generalize w4.drew = w5 at hcell hfr MO2 ⊢
            go_wp2_with fail
            go_roundw
            case rel =>
              refine ⟨k + 1, by go_num, by omega, MO2.out.2, ws ++ [(k, k + 1)], by rw [List.length_append]; have := HWL.out; simp; omega, MO2.out.1, .inr ⟨ws, k, rfl, rfl, OP.out, FIN.out⟩⟩
            case measure => simp [intOf]; omega
          · obtain ⟨m, rfl⟩ : ∃ m, N = m + 1 := ⟨N - 1, by have := HN.out; simp at this; omega⟩
            have HM : Hid (ws'.length = m) := Lib.hid (by have := HN.out; simpa using this)
            obtain ⟨g5, rfl, hg5, hb5⟩ := HG.out (by omega)
            have HO1 := Lib.hid ho.1
            have OP := Lib.hid (ho.more hl HNW.out)
            have FIN := Lib.hid e
            have HY4 : Hid (Lib.Bytes wr.drew g o s) := Lib.hid (fun i hi => bytes_below HY.out BE.out hg i hi)
            have hwl' : ws'.length ≤ k := by simp at hwl; omega
            clear e ho
            go_wp2_with fail
            obtain ⟨hcell, hfr⟩ : wr.drew.cell? ⟨g5, m * 2, none⟩ = some (.string (s.extract f k)) ∧ ∀ j, wr.drew.frozen? ⟨g5, j, none⟩ = false := OW.out.last HM.out
            have hfr := hfr (m * 2)
            obtain ⟨hsl, hcv⟩ := one_byte wr.drew g o c k s (by omega) hlt HY4.out
            have MO := Lib.hid (OwnW.more (w := wr.drew) OW.out)
            rw [HM.out, ← extract_more s (Nat.le_of_lt HO1.out)] at MO
            have hsz := extract_sizes s f k hs
            generalize s.extract f k = E at hcell MO hsz
            generalize s.extract k (k + 1) = D at hcv MO hsz
            have hm9 : m ≤ 100000 := by have := HM.out; omega
            obtain ⟨hm1, _, hm2⟩ := small_wraps m (by omega)
            obtain ⟨hk1, hk2, _⟩ := small_wraps k (by omega)
            have hml : (m : Int) < (m : Int) + 1 := by omega
            have HWL : Hid (ws'.length ≤ k) := Lib.hid (by omega)
            clear hc hwl hNc
            go_still_tail 16, (by kernel_rfl)
            change wpList _ _ _ _ _ wr.drew
            clear hsl hcv hm1 hm2 hk1 hk2 hml
            have MO2 : Hid (OwnW (wr.drew.setCell ⟨g5, m * 2, none⟩ (.string (E ++ D))) w.heap.size (.slice (some ⟨g5, 0, none⟩) (m + 1) c4) s (ws' ++ [(f, k + 1)]) ∧ Below w.heap.size w (wr.drew.setCell ⟨g5, m * 2, none⟩ (.string (E ++ D)))) :=
              Lib.hid ⟨MO.out.1, below_grown BE.out.drew (show wr.drew.grownBy (wr.drew.setCell ⟨g5, m * 2, none⟩ (.string (E ++ D))) (some g5) from MO.out.2) (Nat.le_refl _) hb5⟩
            generalize wr.drew = w5 at hcell hfr MO2 ⊢
            go_wp2_with fail
            go_roundw
            case rel =>
              refine ⟨k + 1, by go_num, by omega, MO2.out.2, ws' ++ [(f, k + 1)], by rw [List.length_append]; have := HWL.out; simp; omega, MO2.out.1, .inr ⟨ws', f, rfl, rfl, OP.out, FIN.out⟩⟩
            case measure => simp [intOf]; omega
    · obtain rfl : k = s.size := by omega
      have hlt' : ¬ ((s.size : Int) < (s.size : Int)) := by omega
      rcases hst with ⟨rfl, e⟩ | ⟨ws', f, rfl, rfl, ho, e⟩
      · have HE := Lib.hid e
        clear e
        obtain ⟨N, hN⟩ : ∃ N, ws.length = N := ⟨_, rfl⟩
        obtain ⟨A4, c4, rfl, _, _⟩ := OW.out.formN hN
        clear hN
        go_wp2_with fail
        go_ret2
        have e := HE.out
        rw [← size_list, wordsL_end, List.append_nil] at e
        refine ⟨⟨_, by rw [e]; rfl, by rw [e]; exact OW.out⟩, BE.out⟩
      · have HE := Lib.hid e
        have HO := Lib.hid ho
        clear e ho
        obtain ⟨N, hN⟩ : ∃ N, (ws' ++ [(f, s.size)]).length = N := ⟨_, rfl⟩
        obtain ⟨A4, c4, rfl, _, _⟩ := OW.out.formN hN
        clear hN
        go_wp2_with fail
        go_ret2
        have e := HE.out
        have ho := HO.out
        rw [← size_list] at ho
        rw [ho.done] at e
        refine ⟨⟨_, by rw [e]; rfl, by rw [e, size_list]; exact OW.out⟩, BE.out⟩
end Go.Proofs.YtcfendilaogjlaaDoor
