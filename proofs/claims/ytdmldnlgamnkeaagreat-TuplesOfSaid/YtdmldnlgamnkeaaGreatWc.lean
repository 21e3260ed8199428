/- The cost that most have, the least of several: the contract of most (no statement of its own). No condition. -/
import Derived.Test.YtdmldnlgamnkeaaGreatWb
import Derived.Test.YtdmldnlgamnkeaaGreatVA
import Derived.Test.YtdmldnlgamnkeaaGreatTbX
namespace Go.Proofs.YtdmldnlgamnkeaaGreat
open Go.RowKit Go.Shelf
set_option linter.unusedVariables false
/-- How often a cost comes among the first m. -/
def cntZ (z : Nat → Int) (m : Nat) (c : Int) : Nat := (zL z m).count c
theorem cntZ_zero (z : Nat → Int) (c : Int) : cntZ z 0 c = 0 := rfl
theorem cntZ_succ (z : Nat → Int) (m : Nat) (c : Int) : cntZ z (m + 1) c = cntZ z m c + if z m = c then 1 else 0 := by
  unfold cntZ zL
  rw [List.range_succ, List.map_append, List.count_append]
  simp [List.count_cons]
theorem cntZ_le (z : Nat → Int) (m : Nat) (c : Int) : cntZ z m c ≤ m := by
  have := List.count_le_length (a := c) (l := zL z m)
  rw [zL_len] at this
  exact this
theorem cntZ_pos {z : Nat → Int} : ∀ {m : Nat} {c : Int}, 0 < cntZ z m c → ∃ i, i < m ∧ z i = c
  | 0, c, h => absurd h (Nat.lt_irrefl _)
  | m + 1, c, h => by
    rw [cntZ_succ] at h
    by_cases e : z m = c
    · exact ⟨m, by omega, e⟩
    · rw [if_neg e] at h
      obtain ⟨i, hi, hz⟩ := cntZ_pos (m := m) (c := c) (by omega)
      exact ⟨i, by omega, hz⟩
theorem cntZ_has {z : Nat → Int} {c : Int} {i : Nat} : ∀ {m : Nat}, i < m → z i = c → 0 < cntZ z m c
  | 0, h, _ => absurd h (Nat.not_lt_zero _)
  | m + 1, h, e => by
    rw [cntZ_succ]
    by_cases em : i = m
    · subst em
      rw [if_pos e]
      omega
    · have := cntZ_has (z := z) (c := c) (i := i) (m := m) (by omega) e
      omega
/-- b is the cost that most have, the least of several. -/
def IsMost (z : Nat → Int) (m : Nat) (b : Int) : Prop := 0 < cntZ z m b ∧ (∀ c, cntZ z m c ≤ cntZ z m b) ∧ ∀ c, cntZ z m c = cntZ z m b → b ≤ c
theorem isMost_uniq {z : Nat → Int} {m : Nat} {b b' : Int} (h : IsMost z m b) (h' : IsMost z m b') : b = b' := by
  have e : cntZ z m b = cntZ z m b' := Nat.le_antisymm (h'.2.1 b) (h.2.1 b')
  have h1 := h.2.2 b' e.symm
  have h2 := h'.2.2 b e
  omega
/-- The sorted costs, by their places. -/
def sZ (z : Nat → Int) (m i : Nat) : Int := (sortZ z m).getD i 0
theorem sZ_list (z : Nat → Int) (m : Nat) : zL (sZ z m) m = sortZ z m := by
  refine List.ext_getElem (by rw [zL_len, sortZ_len]) fun i h1 h2 => ?_
  simp [zL, sZ, List.getD_eq_getElem?_getD, List.getElem?_eq_getElem h2]
theorem sZ_cnt (z : Nat → Int) (m : Nat) (c : Int) : cntZ (sZ z m) m c = cntZ z m c := by
  unfold cntZ
  rw [sZ_list]
  exact (List.mergeSort_perm _ _).count_eq c
theorem sZ_rise (z : Nat → Int) (m : Nat) {i j : Nat} (h : i ≤ j) (hj : j < m) : sZ z m i ≤ sZ z m j := by
  have hs : (sortZ z m).Pairwise fun x y => decide (x ≤ y) = true := List.pairwise_mergeSort (fun a b c h1 h2 => by simp at *; omega) (fun a b => by simp; omega) _
  by_cases e : i = j
  · subst e; exact Int.le_refl _
  · have hl := sortZ_len z m
    have := List.pairwise_iff_getElem.1 hs i j (by omega) (by omega) (by omega)
    unfold sZ
    rw [List.getD_eq_getElem?_getD, List.getD_eq_getElem?_getD, List.getElem?_eq_getElem (by omega), List.getElem?_eq_getElem (by omega)]
    simpa using this
/-- What most holds behind i costs. -/
structure MostI (s : Nat → Int) (i : Nat) (best : Int) (longest run : Nat) : Prop where
  frun : ∀ j, j + 1 = i → run = cntZ s i (s j)
  zero : i = 0 → run = 0 ∧ longest = 0 ∧ best = 0
  le : ∀ c, cntZ s i c ≤ longest
  has : 0 < i → 0 < longest ∧ cntZ s i best = longest
  least : ∀ c, 0 < i → cntZ s i c = longest → best ≤ c
theorem mostI_zero (s : Nat → Int) : MostI s 0 0 0 0 := ⟨fun j h => by omega, fun _ => ⟨rfl, rfl, rfl⟩, fun c => Nat.le_refl _, fun h => absurd h (Nat.lt_irrefl _), fun c h => absurd h (Nat.lt_irrefl _)⟩
/-- The run that goes on, or begins. -/
theorem MostI.runs {s : Nat → Int} {i m : Nat} {best : Int} {longest run : Nat} (H : MostI s i best longest run) (hs : ∀ a b, a ≤ b → b < m → s a ≤ s b) (hi : i < m) :
    (i = 0 → cntZ s i (s i) = 0) ∧ (∀ j, j + 1 = i → s j = s i → run = cntZ s i (s i)) ∧ (∀ j, j + 1 = i → s j ≠ s i → cntZ s i (s i) = 0) := by
  refine ⟨fun e => by subst e; rfl, fun j hj e => by rw [← e]; exact H.frun j hj, fun j hj e => ?_⟩
  rcases Nat.eq_zero_or_pos (cntZ s i (s i)) with h | h
  · exact h
  · obtain ⟨q, hq, e2⟩ := cntZ_pos h
    have h1 := hs q j (by omega) (by omega)
    have h2 := hs j i (by omega) hi
    omega
theorem MostI.step {s : Nat → Int} {i m : Nat} {best : Int} {longest run : Nat} (H : MostI s i best longest run) (hs : ∀ a b, a ≤ b → b < m → s a ≤ s b) (hi : i < m) {r : Nat} (hr : r = cntZ s i (s i) + 1) :
    (longest < r → MostI s (i + 1) (s i) r r) ∧ (¬ longest < r → MostI s (i + 1) best longest r) := by
  have hc : ∀ c, cntZ s (i + 1) c = cntZ s i c + if s i = c then 1 else 0 := cntZ_succ s i
  have hci : cntZ s (i + 1) (s i) = r := by rw [hc, if_pos rfl, hr]
  constructor
  · intro h
    refine ⟨fun j hj => (by
      have e : j = i := (by omega)
      rw [e]
      exact hci.symm), fun e => (by omega), fun c => ?_, fun _ => ⟨by omega, hci⟩, fun c _ he => ?_⟩
    · by_cases e : s i = c
      · subst e; omega
      · rw [hc, if_neg e]; have := H.le c; omega
    · by_cases e : s i = c
      · omega
      · rw [hc, if_neg e] at he; have := H.le c; omega
  · intro h
    have hi0 : 0 < i := by
      rcases Nat.eq_zero_or_pos i with e | e
      · have := (H.zero e).2.1
        omega
      · exact e
    have hb := H.has hi0
    have hne : s i ≠ best := fun e => by
      have := hb.2
      rw [← e] at this
      omega
    refine ⟨fun j hj => (by
      have e : j = i := (by omega)
      rw [e]
      exact hci.symm), fun e => (by omega), fun c => ?_, fun _ => ⟨hb.1, by rw [hc, if_neg hne]; exact hb.2⟩, fun c _ he => ?_⟩
    · by_cases e : s i = c
      · subst e; omega
      · rw [hc, if_neg e]; exact H.le c
    · by_cases e : s i = c
      · obtain ⟨q, hq, e2⟩ := cntZ_pos (z := s) (m := i) (c := best) (by omega)
        have := hs q i (by omega) hi
        omega
      · rw [hc, if_neg e] at he
        exact H.least c hi0 he
theorem MostI.done {z : Nat → Int} {m : Nat} {best : Int} {longest run : Nat} (H : MostI (sZ z m) m best longest run) (hm : 0 < m) : IsMost z m best := by
  have hb := H.has hm
  have e1 := sZ_cnt z m best
  refine ⟨by omega, fun c => (by have e2 := sZ_cnt z m c; have := H.le c; omega), fun c he => H.least c hm (by have e2 := sZ_cnt z m c; omega)⟩
set_option maxRecDepth 100000 in
set_option maxHeartbeats 1000000 in
theorem tpmost_any (A : Option Addr) (m c : Nat) (z : Nat → Int) (w : World) (hm1 : 1 ≤ m) (hm4 : m ≤ 100000) (hA : Zs w A m z) :
    Calls Tryz.prog 29 #[.slice A m c] w fun e w' => (∃ b, e = .returned (.int .i64 b) ∧ IsMost z m b) ∧ Below w.heap.size w w' := by
  have C := Lib.hid (sorted64_any w.heap.size m c A z (w.alloc (.cells #[.slice A m c] 27)) hm1 hm4 (by simp) (lit_new _ _ _) (hA.below (new_val w _) (Nat.le_refl _)))
  clear hA
  go_enter Tryz.func29, Tryz.ntmps29
  go_wp2_with fail
  refine (values64_any A m c w).mono ?_
  rintro e w' ⟨rfl, rfl⟩
  go_wp2_with fail
  refine C.out.mono ?_
  rintro e w' ⟨⟨v, rfl, hO⟩, hb⟩
  have B := Lib.hid (then_ (new_val w _) hb)
  have hO' : w'.ownsRow (w.alloc (.cells #[.slice A m c] 27)).heap.size 2 1 v m (costL (sZ z m) m) := by rw [← zL_costs, sZ_list]; exact hO
  obtain ⟨A1, c1, rfl⟩ := row64_form hO'
  have ZS := Lib.hid (zs_row64 hO')
  have RS := Lib.hid (fun a b (h : a ≤ b) (hb : b < m) => sZ_rise z m h hb)
  have DN := Lib.hid (fun best longest run (H : MostI (sZ z m) m best longest run) => H.done (by omega))
  clear hb hO hO' C
  generalize sZ z m = s at ZS RS DN
  go_wp2_with fail
  go_loopw [3, 4, 5, 7, 8, 14] (fun best longest run _ _ i wr => ∃ (j L R : Nat) (b : Int), j ≤ m ∧ i = .int .i64 (j : Int) ∧ best = .int .i64 b ∧ longest = .int .i64 (L : Int) ∧ run = .int .i64 (R : Int) ∧ MostI s j b L R ∧ wr = w') (fun _ _ _ _ _ i _ => m - (intOf i).toNat)
  case atStart => exact ⟨0, 0, 0, 0, Nat.zero_le _, rfl, rfl, rfl, rfl, mostI_zero s, rfl⟩
  case round =>
    obtain ⟨j, L, R, b, hj, rfl, rfl, rfl, rfl, hM, rfl⟩ := hrel
    have HM := Lib.hid hM
    clear hM
    by_cases hlt : j < m
    · have i1 : (j : Int) < (m : Int) := by omega
      have i2 : (0 : Int) ≤ (j : Int) := by omega
      obtain ⟨r1, r2, r3⟩ := HM.out.runs RS.out hlt
      obtain ⟨r, hr⟩ : ∃ r, cntZ s j (s j) + 1 = r := ⟨_, rfl⟩
      obtain ⟨s1, s2⟩ := HM.out.step RS.out hlt hr.symm
      have S1 := Lib.hid s1
      have S2 := Lib.hid s2
      have hrb : r ≤ m := by have := cntZ_le s j (s j); omega
      obtain ⟨g, o, rfl, hc⟩ := ZS.out.at_ hlt
      have hgo : Hid (∀ i, i < m → wr.cell? ⟨g, o + i, none⟩ = some (.int .i64 (s i))) := Lib.hid fun i hi => by
        obtain ⟨g', o', e, hc'⟩ := ZS.out.at_ hi
        injection e with e
        injection e with e1 e2 _
        subst e1 e2
        exact hc'
      have FIN : Hid (∀ (R0 : Nat), (R0 : Int) + 1 = (r : Int) → True) := Lib.hid fun _ _ => trivial
      rcases Nat.eq_zero_or_pos j with h0 | hpos
      · have hR : R = 0 := (HM.out.zero h0).1
        have hr1 : r = 1 := by have := r1 h0; omega
        have hL : L = 0 := (HM.out.zero h0).2.1
        subst h0 hR hr1 hL
        have S := Lib.hid (S1.out (by omega))
        clear r1 r2 r3 s1 s2 S1 S2 hr HM FIN
        rw [Nat.add_zero] at hc
        generalize s 0 = x at hc S
        go_wp2_with fail
        go_roundw
        case rel => exact ⟨1, 1, 1, x, by omega, by go_num, rfl, by go_num, by go_num, S.out, by first | rfl | trivial⟩
        case measure => simp [intOf]; omega
      · obtain ⟨p, hp⟩ : ∃ p, j = p + 1 := ⟨j - 1, by omega⟩
        have cp := hgo.out p (by omega)
        have e1 : IntKind.i64.wrap ((j : Int) - 1) = (p : Int) := by rw [IntWalk.i64_in _ (by omega)]; omega
        have i3 : (0 : Int) < (j : Int) := by omega
        have i4 : (p : Int) < (m : Int) := by omega
        have i5 : (0 : Int) ≤ (p : Int) := by omega
        have HPJ := Lib.hid hp.symm
        clear hp hpos
        by_cases he : s p = s j
        · have d : (s p != s j) = false := by simp [he]
          have hR : R + 1 = r := by have := r2 p HPJ.out he; omega
          have d2 : IntKind.i64.wrap ((R : Int) + 1) = (r : Int) := by rw [IntWalk.i64_in _ (by omega)]; omega
          generalize s p = xp at cp d
          generalize s j = x at hc S1 d
          clear r1 r2 r3 s1 s2 he hr HM FIN hgo
          by_cases hL : L < r
          · have i6 : (L : Int) < (r : Int) := by omega
            have S := Lib.hid (S1.out hL)
            go_wp2_with fail
            go_roundw
            case rel => exact ⟨j + 1, r, r, x, by omega, by go_num, rfl, rfl, rfl, S.out, by first | rfl | trivial⟩
            case measure => simp [intOf]; omega
          · have i6 : ¬ (L : Int) < (r : Int) := by omega
            have S := Lib.hid (S2.out hL)
            go_wp2_with fail
            go_roundw
            case rel => exact ⟨j + 1, L, r, b, by omega, by go_num, rfl, rfl, rfl, S.out, by first | rfl | trivial⟩
            case measure => simp [intOf]; omega
        · have d : (s p != s j) = true := by simpa using he
          have hr1 : r = 1 := by have := r3 p HPJ.out he; omega
          subst hr1
          generalize s p = xp at cp d
          generalize s j = x at hc S1 d
          clear r1 r2 r3 s1 s2 he hr HM FIN hgo
          by_cases hL : L < 1
          · have i6 : (L : Int) < 1 := by omega
            have S := Lib.hid (S1.out hL)
            go_wp2_with fail
            go_roundw
            case rel => exact ⟨j + 1, 1, 1, x, by omega, by go_num, rfl, by go_num, by go_num, S.out, by first | rfl | trivial⟩
            case measure => simp [intOf]; omega
          · have i6 : ¬ (L : Int) < 1 := by omega
            have S := Lib.hid (S2.out hL)
            go_wp2_with fail
            go_roundw
            case rel => exact ⟨j + 1, L, 1, b, by omega, by go_num, rfl, rfl, by go_num, S.out, by first | rfl | trivial⟩
            case measure => simp [intOf]; omega
    · have i1 : ¬ ((j : Int) < (m : Int)) := by omega
      obtain rfl : m = j := by omega
      have F := Lib.hid (DN.out _ _ _ HM.out)
      go_wp2_with fail
      go_ret
      exact ⟨⟨b, rfl, F.out⟩, B.out⟩
end Go.Proofs.YtdmldnlgamnkeaaGreat
