/- Texts of this seat laid together (no statement of its own). -/
import Derived.Test.YtpdcpaoabalgcaaGreatDoorTjA
namespace Go.Proofs.YtpdcpaoabalgcaaGreatDoor
open Go.RowKit Go.Shelf Go.Sort
set_option linter.unusedVariables false
/-- What stands at a place after j numbers of l were written where ap says. -/
def jn (ap l : List Nat) (d : Nat → Nat) : Nat → Nat → Nat
  | 0, p => d p
  | j + 1, p => if p = nth ap j then nth l j else jn ap l d j p
def joinF (ap l1 bp l2 : List Nat) : Nat → Nat := jn bp l2 (jn ap l1 (fun _ => 0) ap.length) bp.length
def joinL (m : Nat) (ap l1 bp l2 : List Nat) : List Nat := (List.range m).map (joinF ap l1 bp l2)
theorem joinL_len (m : Nat) (ap l1 bp l2 : List Nat) : (joinL m ap l1 bp l2).length = m := by simp [joinL]
set_option maxRecDepth 100000 in
set_option maxHeartbeats 1000000 in
theorem joined_any (m g1 h1 n1 c1 g2 h2 n2 c2 : Nat) (A1 A2 : Option Addr) (l1 l2 ap bp : List Nat) (k1 k2 : Int) (z1 z2 : Nat → Int) (w : World) (T1 : TabAt w g1 h1 l1 k1 z1) (T2 : TabAt w g2 h2 l2 k2 z2)
    (hl1 : l1.length = n1) (hl2 : l2.length = n2) (ha : ap.length = n1) (hb : bp.length = n2) (i1 : Ints w A1 ap) (i2 : Ints w A2 bp) (h61 : n1 ≤ 6) (h62 : n2 ≤ 6) (hm : m ≤ 4096) (ha1 : ∀ i, i < n1 → nth ap i < m) (hb1 : ∀ i, i < n2 → nth bp i < m) :
    Calls Tryz.prog 41 #[.int .i64 (m : Int), .pointer (some ⟨g1, 0, none⟩), .slice A1 n1 c1, .pointer (some ⟨g2, 0, none⟩), .slice A2 n2 c2] w fun e w' => e = .returned (.slice (some ⟨w.heap.size, 0, none⟩) m m) ∧ Ints w' (some ⟨w.heap.size, 0, none⟩) (joinL m ap l1 bp l2) ∧ Below w.heap.size w w' := by
  have HT1 := Lib.hid T1
  have HT2 := Lib.hid T2
  have HL1 := Lib.hid hl1
  have HL2 := Lib.hid hl2
  have HA := Lib.hid ha
  have HB := Lib.hid hb
  have I1 := Lib.hid i1
  have I2 := Lib.hid i2
  have HA1 := Lib.hid ha1
  have HBB := Lib.hid hb1
  have hmk := madeI m hm
  have R1 := Lib.hid (World.rowIs_made w (.int .i64 0) m 3)
  have B1 := Lib.hid (new_val w (.cells (madeCells #[.int .i64 0] m) 3))
  clear T1 T2 hl1 hl2 ha hb i1 i2 ha1 hb1
  go_enter Tryz.func41, Tryz.ntmps41
  go_upto_region 3 with fail
  generalize w.alloc (.cells (madeCells #[.int .i64 0] m) 3) = w1 at R1 B1 ⊢
  clear hmk
  go_loopw [20] (fun i wr => ∃ j : Nat, j ≤ n1 ∧ i = .int .i64 (j : Int) ∧ wr.rowIs w.heap.size 3 m (fun i => .int .i64 (jn ap l1 (fun _ => 0) j i : Int)) ∧ Below w.heap.size w wr) (fun i _ => n1 - (intOf i).toNat)
  case atStart => exact ⟨0, Nat.zero_le _, rfl, R1.out.congr fun i _ => rfl, B1.out⟩
  case round =>
    obtain ⟨j, hj, rfl, hrow, hb⟩ := hrel
    have HRW := Lib.hid hrow
    have HB1 := Lib.hid hb
    clear hrow hb
    by_cases hlt : j < n1
    · obtain ⟨gs, os, rfl, hcs⟩ := (I1.out.below HB1.out (Nat.le_refl _)).at_ (i := j) (by rw [HA.out]; exact hlt)
      have hrj := HA1.out j hlt
      obtain ⟨p, hp⟩ : ∃ p, nth ap j = p := ⟨_, rfl⟩
      have HP := Lib.hid hp
      rw [hp] at hcs hrj
      clear hp
      have TT := Lib.hid (HT1.out.below (Below.refl _ _) |>.below (HB1.out.mono (Nat.le_refl _)))
      have SZ := Lib.hid (fun W => size_yes l1 j W (by rw [HL1.out]; omega) (by rw [HL1.out]; exact hlt))
      obtain ⟨c0, c1, c2, c3, c4, c5, c6, c7, c8⟩ := TT.out.cells
      have i1 : (j : Int) < (n1 : Int) := by omega
      have i2 : (0 : Int) ≤ (j : Int) := by omega
      have i3 : (p : Int) < (m : Int) := by omega
      have i4 : (0 : Int) ≤ (p : Int) := by omega
      have hwr := HB1.out.size
      go_wp2_with fail
      refine (SZ.out _).mono ?_
      rintro e w2 ⟨rfl, hb2⟩
      have B2 := Lib.hid (HB1.out.trans (hb2.mono hwr))
      have RW2 := Lib.hid (rowIs_next HRW.out hb2)
      clear hb2 hcs hwr c0 c1 c2 c3 c4 c5 c6 c7 c8
      have kc := RW2.out.cell hrj
      have kf := RW2.out.frozen p
      obtain ⟨x, hx⟩ : ∃ x, nth l1 j = x := ⟨_, rfl⟩
      have HX := Lib.hid hx
      rw [hx]
      clear hx
      have HN : Hid ((w2.setCell ⟨w.heap.size, p, none⟩ (.int .i64 (x : Int))).rowIs w.heap.size 3 m (fun i => .int .i64 (jn ap l1 (fun _ => 0) (j + 1) i : Int))) := Lib.hid ((RW2.out.set p (.int .i64 (x : Int))).congr fun i hi => by
        show (if i = p then _ else _) = Value.int .i64 (((if i = nth ap j then nth l1 j else jn ap l1 (fun _ => 0) j i) : Nat) : Int)
        by_cases e : i = p
        · rw [if_pos e, if_pos (by rw [HP.out]; exact e), HX.out]
        · rw [if_neg e, if_neg (by rw [HP.out]; exact e)])
      have BN := Lib.hid (B2.out.setCell (p := ⟨w.heap.size, p, none⟩) (Nat.le_refl _) (.int .i64 (x : Int)))
      go_wp2_with fail
      go_roundw
      case rel => exact ⟨j + 1, by omega, by go_num, HN.out, BN.out⟩
      case measure => simp [intOf]; omega
    · have i1 : ¬ (j : Int) < (n1 : Int) := by omega
      obtain rfl : j = n1 := by omega
      clear hlt hj
      go_upto_region 8 with fail
      go_loopw [37] (fun i wr => ∃ i2 : Nat, i2 ≤ n2 ∧ i = .int .i64 (i2 : Int) ∧ wr.rowIs w.heap.size 3 m (fun i => .int .i64 (jn bp l2 (jn ap l1 (fun _ => 0) j) i2 i : Int)) ∧ Below w.heap.size w wr) (fun i _ => n2 - (intOf i).toNat)
      case atStart => exact ⟨0, Nat.zero_le _, rfl, HRW.out, HB1.out⟩
      case round =>
        obtain ⟨q, hq, rfl, hrow, hb⟩ := hrel
        have HRX := Lib.hid hrow
        have HB2 := Lib.hid hb
        clear hrow hb
        by_cases hlt : q < n2
        · obtain ⟨gs, os, rfl, hcs⟩ := (I2.out.below HB2.out (Nat.le_refl _)).at_ (i := q) (by rw [HB.out]; exact hlt)
          have hrj := HBB.out q hlt
          obtain ⟨p, hp⟩ : ∃ p, nth bp q = p := ⟨_, rfl⟩
          have HP := Lib.hid hp
          rw [hp] at hcs hrj
          clear hp
          have TT := Lib.hid (HT2.out.below (Below.refl _ _) |>.below (HB2.out.mono (Nat.le_refl _)))
          have SZ := Lib.hid (fun W => size_yes l2 q W (by rw [HL2.out]; omega) (by rw [HL2.out]; exact hlt))
          obtain ⟨c0, c1, c2, c3, c4, c5, c6, c7, c8⟩ := TT.out.cells
          have i1 : (q : Int) < (n2 : Int) := by omega
          have i2 : (0 : Int) ≤ (q : Int) := by omega
          have i3 : (p : Int) < (m : Int) := by omega
          have i4 : (0 : Int) ≤ (p : Int) := by omega
          have hwr := HB2.out.size
          go_wp2_with fail
          refine (SZ.out _).mono ?_
          rintro e w2 ⟨rfl, hb2⟩
          have B2 := Lib.hid (HB2.out.trans (hb2.mono hwr))
          have RW2 := Lib.hid (rowIs_next HRX.out hb2)
          clear hb2 hcs hwr c0 c1 c2 c3 c4 c5 c6 c7 c8
          have kc := RW2.out.cell hrj
          have kf := RW2.out.frozen p
          obtain ⟨x, hx⟩ : ∃ x, nth l2 q = x := ⟨_, rfl⟩
          have HX := Lib.hid hx
          rw [hx]
          clear hx
          have HN : Hid ((w2.setCell ⟨w.heap.size, p, none⟩ (.int .i64 (x : Int))).rowIs w.heap.size 3 m (fun i => .int .i64 (jn bp l2 (jn ap l1 (fun _ => 0) j) (q + 1) i : Int))) := Lib.hid ((RW2.out.set p (.int .i64 (x : Int))).congr fun i hi => by
            show (if i = p then _ else _) = Value.int .i64 (((if i = nth bp q then nth l2 q else jn bp l2 (jn ap l1 (fun _ => 0) j) q i) : Nat) : Int)
            by_cases e : i = p
            · rw [if_pos e, if_pos (by rw [HP.out]; exact e), HX.out]
            · rw [if_neg e, if_neg (by rw [HP.out]; exact e)])
          have BN := Lib.hid (B2.out.setCell (p := ⟨w.heap.size, p, none⟩) (Nat.le_refl _) (.int .i64 (x : Int)))
          go_wp2_with fail
          go_roundw
          case rel => exact ⟨q + 1, by omega, by go_num, HN.out, BN.out⟩
          case measure => simp [intOf]; omega
        · have i1 : ¬ (q : Int) < (n2 : Int) := by omega
          obtain rfl : q = n2 := by omega
          go_wp2_with fail
          go_ret
          exact ⟨rfl, rowIs_ints HRX.out (joinL_len _ _ _ _ _) (fun i hi => by rw [joinL, nth_range hi, joinF, HA.out, HB.out]), HB2.out⟩
end Go.Proofs.YtpdcpaoabalgcaaGreatDoor

namespace Go.Proofs.YtpdcpaoabalgcaaGreatDoor
open Go.RowKit Go.Shelf Go.Sort
set_option linter.unusedVariables false
/-- The i-th variable of one list, where it is one of the other's too, has one size. -/
def AgAt (a b l1 l2 : List Nat) (i : Nat) : Bool := !(b.contains (nth a i)) || nth l1 i == nth l2 (b.countP (· < nth a i))
def AgB (a b l1 l2 : List Nat) : Bool := (List.range a.length).all (AgAt a b l1 l2)
theorem agB_no {a b l1 l2 : List Nat} {j : Nat} (hj : j < a.length) (h : AgAt a b l1 l2 j = false) : AgB a b l1 l2 = false := by
  rw [AgB, List.all_eq_false]
  exact ⟨j, List.mem_range.2 hj, by simp [h]⟩
theorem cntP_lt {b : List Nat} {v : Nat} (h : b.contains v = true) : b.countP (· < v) < b.length := by
  rw [List.contains_iff_mem] at h
  rcases Nat.lt_or_ge (b.countP (· < v)) b.length with h1 | h1
  · exact h1
  · have := List.countP_eq_length.1 (Nat.le_antisymm List.countP_le_length h1) v h
    simp at this
/-- Two tables' shapes are as they were laid. -/
abbrev HoldA (wb : World) (g1 g2 : Nat) (l1 l2 : List Nat) (W : World) : Prop :=
  W.cell? ⟨g1, 0, none⟩ = some (.int .i64 (l1.length : Int)) ∧ W.cell? ⟨g1, 1, none⟩ = some (szV l1 0) ∧ W.cell? ⟨g1, 2, none⟩ = some (szV l1 1) ∧ W.cell? ⟨g1, 3, none⟩ = some (szV l1 2) ∧ W.cell? ⟨g1, 4, none⟩ = some (szV l1 3) ∧ W.cell? ⟨g1, 5, none⟩ = some (szV l1 4) ∧ W.cell? ⟨g1, 6, none⟩ = some (szV l1 5) ∧ W.cell? ⟨g2, 0, none⟩ = some (.int .i64 (l2.length : Int)) ∧ W.cell? ⟨g2, 1, none⟩ = some (szV l2 0) ∧ W.cell? ⟨g2, 2, none⟩ = some (szV l2 1) ∧ W.cell? ⟨g2, 3, none⟩ = some (szV l2 2) ∧ W.cell? ⟨g2, 4, none⟩ = some (szV l2 3) ∧ W.cell? ⟨g2, 5, none⟩ = some (szV l2 4) ∧ W.cell? ⟨g2, 6, none⟩ = some (szV l2 5) ∧ Below wb.heap.size wb W
theorem holdA {wb W W' : World} {g1 g2 : Nat} {l1 l2 : List Nat} (H : HoldA wb g1 g2 l1 l2 W) (hb : Below W.heap.size W W') : HoldA wb g1 g2 l1 l2 W' := by
  obtain ⟨a0, a1, a2, a3, a4, a5, a6, b0, b1, b2, b3, b4, b5, b6, h9⟩ := H
  have K : ∀ b i v, W.cell? ⟨b, i, none⟩ = some v → W'.cell? ⟨b, i, none⟩ = some v := fun b i v h => (hb.cell (p := ⟨b, i, none⟩) (World.block_lt_of_cell? W _ h)).trans h
  exact ⟨K _ _ _ a0, K _ _ _ a1, K _ _ _ a2, K _ _ _ a3, K _ _ _ a4, K _ _ _ a5, K _ _ _ a6, K _ _ _ b0, K _ _ _ b1, K _ _ _ b2, K _ _ _ b3, K _ _ _ b4, K _ _ _ b5, K _ _ _ b6, h9.trans (hb.mono h9.size)⟩
theorem HoldA.below {wb W : World} {g1 g2 : Nat} {l1 l2 : List Nat} (H : HoldA wb g1 g2 l1 l2 W) : Below wb.heap.size wb W := H.2.2.2.2.2.2.2.2.2.2.2.2.2.2
theorem HoldA.of {w : World} {g1 h1 g2 h2 : Nat} {l1 l2 : List Nat} {k1 k2 : Int} {z1 z2 : Nat → Int} (T1 : TabAt w g1 h1 l1 k1 z1) (T2 : TabAt w g2 h2 l2 k2 z2) : HoldA w g1 g2 l1 l2 w := by
  obtain ⟨a0, a1, a2, a3, a4, a5, a6, a7, a8⟩ := T1.cells
  obtain ⟨b0, b1, b2, b3, b4, b5, b6, b7, b8⟩ := T2.cells
  exact ⟨a0, a1, a2, a3, a4, a5, a6, b0, b1, b2, b3, b4, b5, b6, Below.refl _ _⟩
set_option maxRecDepth 100000 in
set_option maxHeartbeats 1000000 in
theorem agree_any (g1 h1 n1 c1 g2 h2 n2 c2 : Nat) (A1 A2 : Option Addr) (l1 l2 a b : List Nat) (k1 k2 : Int) (z1 z2 : Nat → Int) (w : World) (T1 : TabAt w g1 h1 l1 k1 z1) (T2 : TabAt w g2 h2 l2 k2 z2)
    (hl1 : l1.length = n1) (hl2 : l2.length = n2) (ha : a.length = n1) (hb : b.length = n2) (i1 : Ints w A1 a) (i2 : Ints w A2 b) (h61 : n1 ≤ 6) (h62 : n2 ≤ 6) (hs : b.Pairwise (· ≤ ·)) :
    Calls Tryz.prog 35 #[.pointer (some ⟨g1, 0, none⟩), .slice A1 n1 c1, .pointer (some ⟨g2, 0, none⟩), .slice A2 n2 c2] w fun e w' => e = .returned (.bool (AgB a b l1 l2)) ∧ Below w.heap.size w w' := by
  have HT1 := Lib.hid T1
  have HT2 := Lib.hid T2
  have HL1 := Lib.hid hl1
  have HL2 := Lib.hid hl2
  have HA := Lib.hid ha
  have HB := Lib.hid hb
  have I1 := Lib.hid i1
  have I2 := Lib.hid i2
  have HS := Lib.hid hs
  clear T1 T2 hl1 hl2 ha hb i1 i2 hs
  go_enter Tryz.func35, Tryz.ntmps35
  go_upto_region 2 with fail
  go_loopw [15] (fun i wr => ∃ j : Nat, j ≤ n1 ∧ i = .int .i64 (j : Int) ∧ (∀ i, i < j → AgAt a b l1 l2 i = true) ∧ Below w.heap.size w wr) (fun i _ => n1 - (intOf i).toNat)
  case atStart => exact ⟨0, Nat.zero_le _, rfl, fun i hi => absurd hi (by omega), Below.refl _ _⟩
  case round =>
    obtain ⟨j, hj, rfl, hag, hbl⟩ := hrel
    have HG := Lib.hid hag
    have HBL := Lib.hid hbl
    clear hag hbl
    by_cases hlt : j < n1
    · obtain ⟨gs, os, rfl, hcs⟩ := (I1.out.below HBL.out (Nat.le_refl _)).at_ (i := j) (by rw [HA.out]; exact hlt)
      obtain ⟨v, hv⟩ : ∃ v, nth a j = v := ⟨_, rfl⟩
      have HV := Lib.hid hv
      rw [hv] at hcs
      clear hv
      have i1 : (j : Int) < (n1 : Int) := by omega
      have i2 : (0 : Int) ≤ (j : Int) := by omega
      have hwr := HBL.out.size
      have BS := Lib.hid (bsearch_any A2 n2 c2 v b wr HB.out HS.out (I2.out.below HBL.out (Nat.le_refl _)) (by omega))
      go_wp2_with fail
      refine BS.out.mono ?_
      rintro e w2 ⟨rfl, hb2⟩
      have B2 := Lib.hid (HBL.out.trans (hb2.mono hwr))
      have TT1 := Lib.hid (HT1.out.below (B2.out))
      have TT2 := Lib.hid (HT2.out.below (B2.out))
      have HAG : Hid (AgAt a b l1 l2 j = (!(b.contains v) || nth l1 j == nth l2 (b.countP (· < v)))) := Lib.hid (by rw [AgAt, HV.out])
      have CL : Hid (b.contains v = true → b.countP (· < v) < n2) := Lib.hid (by intro h; have := cntP_lt h; rw [HB.out] at this; exact this)
      clear hb2 hcs hwr BS
      generalize b.countP (· < v) = x at HAG CL ⊢
      generalize b.contains v = bb at HAG CL ⊢
      have HH := Lib.hid (HoldA.of TT1.out TT2.out)
      have SZ1 := Lib.hid (fun W => size_yes l1 j W (by rw [HL1.out]; omega) (by rw [HL1.out]; exact hlt))
      have SZ2 : Hid (bb = true → ∀ W, Calls Tryz.prog 57 #[shV l2, .int .i64 (x : Int)] W fun e w' => e = .returned (.int .i64 (nth l2 x : Int)) ∧ Below W.heap.size W w') := Lib.hid (fun h W => size_yes l2 x W (by rw [HL2.out]; omega) (by rw [HL2.out]; exact CL.out h))
      obtain ⟨y1, hy1⟩ : ∃ y, nth l1 j = y := ⟨_, rfl⟩
      obtain ⟨y2, hy2⟩ : ∃ y, nth l2 x = y := ⟨_, rfl⟩
      rw [hy1] at SZ1 HAG
      rw [hy2] at SZ2 HAG
      clear hy1 hy2 TT1 TT2
      cases bb with
      | false =>
        have HA1 : Hid (AgAt a b l1 l2 j = true) := Lib.hid (by rw [HAG.out]; rfl)
        clear SZ1 SZ2 HAG CL
        go_upto_region 5 with fail
        refine wp_region_noPanic ?_
        refine wp_region_held_drew (S := fun W => HoldA w2 g1 g2 l1 l2 W) (by kernel_rfl) (holdA HH.out ((Below.refl _ _).drew)) (fun hHeld => ?_)
        generalize w2.drew = w6 at hHeld ⊢
        refine wpAnyH_take (i := 0) (v := ?v801) rfl (by kernel_rfl) (by kernel_rfl) (by kernel_rfl) (fun _ _ _ h => h) (Or.inl ⟨by rfl, ?y801⟩) (by assumption) ?r801
        case y801 => ((intro w hSw; (try dsimp only at hSw); go_simp); try with_reducible rfl)
        try simp only [Act.put, List.getElem_toArray, List.getElem_cons_zero, List.setIfInBounds_toArray, List.set_cons_zero, List.set_cons_succ]
        refine wpAnyH_take (i := 1) (v := ?v802) rfl (by kernel_rfl) (by kernel_rfl) (by kernel_rfl) (fun _ _ _ h => h) (Or.inl ⟨by rfl, ?y802⟩) (by assumption) ?r802
        case y802 => ((intro w hSw; (try dsimp only at hSw); go_simp); try with_reducible rfl)
        try simp only [Act.put, List.getElem_toArray, List.getElem_cons_succ, List.getElem_cons_zero, List.setIfInBounds_toArray, List.set_cons_zero, List.set_cons_succ]
        refine wpAnyH_take (i := 2) (v := undef) rfl (by kernel_rfl) (by kernel_rfl) (by kernel_rfl) (fun _ _ _ h => h) (Or.inr ⟨by rfl, rfl⟩) (by assumption) ?r803
        try simp only [Act.put, List.getElem_toArray, List.getElem_cons_succ, List.getElem_cons_zero, List.setIfInBounds_toArray, List.set_cons_zero, List.set_cons_succ]
        refine wpAnyH_take (i := 3) (v := undef) rfl (by kernel_rfl) (by kernel_rfl) (by kernel_rfl) (fun _ _ _ h => h) (Or.inr ⟨by rfl, rfl⟩) (by assumption) ?r804
        try simp only [Act.put, List.getElem_toArray, List.getElem_cons_succ, List.getElem_cons_zero, List.setIfInBounds_toArray, List.set_cons_zero, List.set_cons_succ]
        refine wpAnyH_take (i := 4) (v := undef) rfl (by kernel_rfl) (by kernel_rfl) (by kernel_rfl) (fun _ _ _ h => h) (Or.inr ⟨by rfl, rfl⟩) (by assumption) ?r805
        try simp only [Act.put, List.getElem_toArray, List.getElem_cons_succ, List.getElem_cons_zero, List.setIfInBounds_toArray, List.set_cons_zero, List.set_cons_succ]
        refine wpAnyH_take (i := 5) (v := undef) rfl (by kernel_rfl) (by kernel_rfl) (by kernel_rfl) (fun _ _ _ h => h) (Or.inr ⟨by rfl, rfl⟩) (by assumption) ?r806
        try simp only [Act.put, List.getElem_toArray, List.getElem_cons_succ, List.getElem_cons_zero, List.setIfInBounds_toArray, List.set_cons_zero, List.set_cons_succ]
        refine wpAnyH_take (i := 6) (v := undef) rfl (by kernel_rfl) (by kernel_rfl) (by kernel_rfl) (fun _ _ _ h => h) (Or.inr ⟨by rfl, rfl⟩) (by assumption) ?r807
        try simp only [Act.put, List.getElem_toArray, List.getElem_cons_succ, List.getElem_cons_zero, List.setIfInBounds_toArray, List.set_cons_zero, List.set_cons_succ]
        refine wpAnyH_take (i := 7) (v := undef) rfl (by kernel_rfl) (by kernel_rfl) (by kernel_rfl) (fun _ _ _ h => h) (Or.inr ⟨by rfl, rfl⟩) (by assumption) ?r808
        try simp only [Act.put, List.getElem_toArray, List.getElem_cons_succ, List.getElem_cons_zero, List.setIfInBounds_toArray, List.set_cons_zero, List.set_cons_succ]
        refine wpAnyH_take (i := 8) (v := undef) rfl (by kernel_rfl) (by kernel_rfl) (by kernel_rfl) (fun _ _ _ h => h) (Or.inr ⟨by rfl, rfl⟩) (by assumption) ?r809
        try simp only [Act.put, List.getElem_toArray, List.getElem_cons_succ, List.getElem_cons_zero, List.setIfInBounds_toArray, List.set_cons_zero, List.set_cons_succ]
        refine wpAnyH_take (i := 9) (v := undef) rfl (by kernel_rfl) (by kernel_rfl) (by kernel_rfl) (fun _ _ _ h => h) (Or.inr ⟨by rfl, rfl⟩) (by assumption) ?r810
        try simp only [Act.put, List.getElem_toArray, List.getElem_cons_succ, List.getElem_cons_zero, List.setIfInBounds_toArray, List.set_cons_zero, List.set_cons_succ]
        refine wpAnyH_take (i := 10) (v := undef) rfl (by kernel_rfl) (by kernel_rfl) (by kernel_rfl) (fun _ _ _ h => h) (Or.inr ⟨by rfl, rfl⟩) (by assumption) ?r811
        try simp only [Act.put, List.getElem_toArray, List.getElem_cons_succ, List.getElem_cons_zero, List.setIfInBounds_toArray, List.set_cons_zero, List.set_cons_succ]
        refine wpAnyH_take (i := 11) (v := undef) rfl (by kernel_rfl) (by kernel_rfl) (by kernel_rfl) (fun _ _ _ h => h) (Or.inr ⟨by rfl, rfl⟩) (by assumption) ?r812
        try simp only [Act.put, List.getElem_toArray, List.getElem_cons_succ, List.getElem_cons_zero, List.setIfInBounds_toArray, List.set_cons_zero, List.set_cons_succ]
        refine wpAnyH_take (i := 12) (v := undef) rfl (by kernel_rfl) (by kernel_rfl) (by kernel_rfl) (fun _ _ _ h => h) (Or.inr ⟨by rfl, rfl⟩) (by assumption) ?r813
        try simp only [Act.put, List.getElem_toArray, List.getElem_cons_succ, List.getElem_cons_zero, List.setIfInBounds_toArray, List.set_cons_zero, List.set_cons_succ]
        refine wpAnyH_take (i := 13) (v := undef) rfl (by kernel_rfl) (by kernel_rfl) (by kernel_rfl) (fun _ _ _ h => h) (Or.inr ⟨by rfl, rfl⟩) (by assumption) ?r814
        try simp only [Act.put, List.getElem_toArray, List.getElem_cons_succ, List.getElem_cons_zero, List.setIfInBounds_toArray, List.set_cons_zero, List.set_cons_succ]
        refine wpAnyH_take (i := 14) (v := undef) rfl (by kernel_rfl) (by kernel_rfl) (by kernel_rfl) (fun _ _ _ h => h) (Or.inr ⟨by rfl, rfl⟩) (by assumption) ?r815
        try simp only [Act.put, List.getElem_toArray, List.getElem_cons_succ, List.getElem_cons_zero, List.setIfInBounds_toArray, List.set_cons_zero, List.set_cons_succ]
        refine wpAnyH_take (i := 15) (v := ?v816) rfl (by kernel_rfl) (by kernel_rfl) (by kernel_rfl) (fun _ _ _ h => h) (Or.inl ⟨by rfl, ?y816⟩) (by assumption) ?r816
        case y816 => ((intro w hSw; (try dsimp only at hSw); go_simp); try with_reducible rfl)
        try simp only [Act.put, List.getElem_toArray, List.getElem_cons_succ, List.getElem_cons_zero, List.setIfInBounds_toArray, List.set_cons_zero, List.set_cons_succ]
        refine wpAnyH_done (by kernel_rfl) ?_ _
        refine NoPanic.normal ?_
        have BL := Lib.hid (B2.out.trans ((HoldA.below hHeld).mono B2.out.size))
        go_wp2_with fail
        go_roundw
        case rel => exact ⟨j + 1, by omega, by go_num, fun i hi => by
          rcases Nat.lt_or_ge i j with h | h
          · exact HG.out i h
          · obtain rfl : i = j := by omega
            exact HA1.out, BL.out⟩
        case measure => simp [intOf]; omega
      | true =>
        have SZ3 := Lib.hid (SZ2.out rfl)
        clear SZ2
        go_upto_region 5 with fail
        refine wp_region_noPanic ?_
        refine wp_region_held_drew (S := fun W => HoldA w2 g1 g2 l1 l2 W) (by kernel_rfl) (holdA HH.out ((Below.refl _ _).drew)) (fun hHeld => ?_)
        generalize w2.drew = w6 at hHeld ⊢
        refine wpAnyH_take (i := 0) (v := ?v701) rfl (by kernel_rfl) (by kernel_rfl) (by kernel_rfl) (fun _ _ _ h => h) (Or.inl ⟨by rfl, ?y701⟩) (by assumption) ?r701
        case y701 => ((intro w hSw; (try dsimp only at hSw); go_simp); try with_reducible rfl)
        try simp only [Act.put, List.getElem_toArray, List.getElem_cons_zero, List.setIfInBounds_toArray, List.set_cons_zero, List.set_cons_succ]
        refine wpAnyH_take (i := 1) (v := ?v702) rfl (by kernel_rfl) (by kernel_rfl) (by kernel_rfl) (fun _ _ _ h => h) (Or.inl ⟨by rfl, ?y702⟩) (by assumption) ?r702
        case y702 => ((intro w hSw; (try dsimp only at hSw); go_simp); try with_reducible rfl)
        try simp only [Act.put, List.getElem_toArray, List.getElem_cons_succ, List.getElem_cons_zero, List.setIfInBounds_toArray, List.set_cons_zero, List.set_cons_succ]
        refine wpAnyH_take (i := 2) (v := ?v703) rfl (by kernel_rfl) (by kernel_rfl) (by kernel_rfl) (fun _ _ _ h => h) (Or.inl ⟨by rfl, ?y703⟩) (by assumption) ?r703
        case y703 => ((intro w hSw; (try dsimp only at hSw); go_simp); try with_reducible rfl)
        try simp only [Act.put, List.getElem_toArray, List.getElem_cons_succ, List.getElem_cons_zero, List.setIfInBounds_toArray, List.set_cons_zero, List.set_cons_succ]
        refine wpAnyH_take (i := 3) (v := ?v704) rfl (by kernel_rfl) (by kernel_rfl) (by kernel_rfl) (fun _ _ _ h => h) (Or.inl ⟨by rfl, ?y704⟩) (by assumption) ?r704
        case y704 => ((intro w hSw; (try dsimp only at hSw); go_simp); try with_reducible rfl)
        try simp only [Act.put, List.getElem_toArray, List.getElem_cons_succ, List.getElem_cons_zero, List.setIfInBounds_toArray, List.set_cons_zero, List.set_cons_succ]
        refine wpAnyH_take (i := 4) (v := ?v705) rfl (by kernel_rfl) (by kernel_rfl) (by kernel_rfl) (fun _ _ _ h => h) (Or.inl ⟨by rfl, ?y705⟩) (by assumption) ?r705
        case y705 => ((intro w hSw; (try dsimp only at hSw); go_simp); try with_reducible rfl)
        try simp only [Act.put, List.getElem_toArray, List.getElem_cons_succ, List.getElem_cons_zero, List.setIfInBounds_toArray, List.set_cons_zero, List.set_cons_succ]
        refine wpAnyH_take (i := 5) (v := ?v706) rfl (by kernel_rfl) (by kernel_rfl) (by kernel_rfl) (fun _ _ _ h => h) (Or.inl ⟨by rfl, ?y706⟩) (by assumption) ?r706
        case y706 => ((intro w hSw; (try dsimp only at hSw); go_simp); try with_reducible rfl)
        try simp only [Act.put, List.getElem_toArray, List.getElem_cons_succ, List.getElem_cons_zero, List.setIfInBounds_toArray, List.set_cons_zero, List.set_cons_succ]
        refine wpAnyH_take (i := 6) (v := ?v707) rfl (by kernel_rfl) (by kernel_rfl) (by kernel_rfl) (fun _ _ _ h => h) (Or.inl ⟨by rfl, ?y707⟩) (by assumption) ?r707
        case y707 => ((intro w hSw; (try dsimp only at hSw); go_simp); try with_reducible rfl)
        try simp only [Act.put, List.getElem_toArray, List.getElem_cons_succ, List.getElem_cons_zero, List.setIfInBounds_toArray, List.set_cons_zero, List.set_cons_succ]
        refine wpAnyH_take (i := 8) (v := ?v708) rfl (by kernel_rfl) (by kernel_rfl) (by kernel_rfl) (fun _ _ _ h => h) (Or.inl ⟨by rfl, ?y708⟩) (by assumption) ?r708
        case y708 => ((intro w hSw; (try dsimp only at hSw); go_simp); try with_reducible rfl)
        try simp only [Act.put, List.getElem_toArray, List.getElem_cons_succ, List.getElem_cons_zero, List.setIfInBounds_toArray, List.set_cons_zero, List.set_cons_succ]
        refine wpAnyH_take (i := 9) (v := ?v709) rfl (by kernel_rfl) (by kernel_rfl) (by kernel_rfl) (fun _ _ _ h => h) (Or.inl ⟨by rfl, ?y709⟩) (by assumption) ?r709
        case y709 => ((intro w hSw; (try dsimp only at hSw); go_simp); try with_reducible rfl)
        try simp only [Act.put, List.getElem_toArray, List.getElem_cons_succ, List.getElem_cons_zero, List.setIfInBounds_toArray, List.set_cons_zero, List.set_cons_succ]
        refine wpAnyH_take (i := 10) (v := ?v710) rfl (by kernel_rfl) (by kernel_rfl) (by kernel_rfl) (fun _ _ _ h => h) (Or.inl ⟨by rfl, ?y710⟩) (by assumption) ?r710
        case y710 => ((intro w hSw; (try dsimp only at hSw); go_simp); try with_reducible rfl)
        try simp only [Act.put, List.getElem_toArray, List.getElem_cons_succ, List.getElem_cons_zero, List.setIfInBounds_toArray, List.set_cons_zero, List.set_cons_succ]
        refine wpAnyH_take (i := 11) (v := ?v711) rfl (by kernel_rfl) (by kernel_rfl) (by kernel_rfl) (fun _ _ _ h => h) (Or.inl ⟨by rfl, ?y711⟩) (by assumption) ?r711
        case y711 => ((intro w hSw; (try dsimp only at hSw); go_simp); try with_reducible rfl)
        try simp only [Act.put, List.getElem_toArray, List.getElem_cons_succ, List.getElem_cons_zero, List.setIfInBounds_toArray, List.set_cons_zero, List.set_cons_succ]
        refine wpAnyH_take (i := 12) (v := ?v712) rfl (by kernel_rfl) (by kernel_rfl) (by kernel_rfl) (fun _ _ _ h => h) (Or.inl ⟨by rfl, ?y712⟩) (by assumption) ?r712
        case y712 => ((intro w hSw; (try dsimp only at hSw); go_simp); try with_reducible rfl)
        try simp only [Act.put, List.getElem_toArray, List.getElem_cons_succ, List.getElem_cons_zero, List.setIfInBounds_toArray, List.set_cons_zero, List.set_cons_succ]
        refine wpAnyH_ready (rs := [7]) (by kernel_rfl) (by simp) ?_
        refine AllReadyH.cons rfl (fun K hK => ?_) ?_
        · go_simp
          refine (SZ1.out _).mono ?_
          rintro e wS ⟨rfl, hb⟩
          refine hK.out _ _ (holdA hHeld hb) (fun hHeld' => ?_)
          clear hHeld
          have hHeld := hHeld'
          clear hHeld'
          clear hb
          clear hK K
          try simp only [Act.put, List.getElem_toArray, List.getElem_cons_succ, List.getElem_cons_zero, List.setIfInBounds_toArray, List.set_cons_zero, List.set_cons_succ]
          refine wpAnyH_ready (rs := [13]) (by kernel_rfl) (by simp) ?_
          refine AllReadyH.cons rfl (fun K hK => ?_) ?_
          · go_simp
            refine (SZ3.out _).mono ?_
            rintro e wS ⟨rfl, hb⟩
            refine hK.out _ _ (holdA hHeld hb) (fun hHeld' => ?_)
            clear hHeld
            have hHeld := hHeld'
            clear hHeld'
            clear hb
            clear hK K
            try simp only [Act.put, List.getElem_toArray, List.getElem_cons_succ, List.getElem_cons_zero, List.setIfInBounds_toArray, List.set_cons_zero, List.set_cons_succ]
            refine wpAnyH_take (i := 14) (v := ?v713) rfl (by kernel_rfl) (by kernel_rfl) (by kernel_rfl) (fun _ _ _ h => h) (Or.inl ⟨by rfl, ?y713⟩) (by assumption) ?r713
            case y713 => ((intro w hSw; (try dsimp only at hSw); go_simp); try with_reducible rfl)
            try simp only [Act.put, List.getElem_toArray, List.getElem_cons_succ, List.getElem_cons_zero, List.setIfInBounds_toArray, List.set_cons_zero, List.set_cons_succ]
            refine wpAnyH_take (i := 15) (v := ?v714) rfl (by kernel_rfl) (by kernel_rfl) (by kernel_rfl) (fun _ _ _ h => h) (Or.inl ⟨by rfl, ?y714⟩) (by assumption) ?r714
            case y714 => ((intro w hSw; (try dsimp only at hSw); go_simp); try with_reducible rfl)
            try simp only [Act.put, List.getElem_toArray, List.getElem_cons_succ, List.getElem_cons_zero, List.setIfInBounds_toArray, List.set_cons_zero, List.set_cons_succ]
            refine wpAnyH_done (by kernel_rfl) ?_ _
            refine NoPanic.normal ?_
            have BL := Lib.hid (B2.out.trans ((HoldA.below hHeld).mono B2.out.size))
            by_cases he : y1 = y2
            · subst he
              have HA1 : Hid (AgAt a b l1 l2 j = true) := Lib.hid (by rw [HAG.out]; simp)
              have d : ((y1 : Int) != (y1 : Int)) = false := by simp
              go_wp2_with fail
              go_roundw
              case rel => exact ⟨j + 1, by omega, by go_num, fun i hi => by
                rcases Nat.lt_or_ge i j with h | h
                · exact HG.out i h
                · obtain rfl : i = j := by omega
                  exact HA1.out, BL.out⟩
              case measure => simp [intOf]; omega
            · have HA1 : Hid (AgAt a b l1 l2 j = false) := Lib.hid (by rw [HAG.out]; simpa using he)
              have d : ((y1 : Int) != (y2 : Int)) = true := by simp; omega
              go_wp2_with fail
              go_ret
              exact ⟨by rw [agB_no (by rw [HA.out]; exact hlt) HA1.out]; rfl, BL.out⟩
          exact AllReadyH.nil
        exact AllReadyH.nil
    · have i1 : ¬ (j : Int) < (n1 : Int) := by omega
      obtain rfl : j = n1 := by omega
      clear hlt hj
      go_wp2_with fail
      go_ret
      exact ⟨by rw [show AgB a b l1 l2 = true from List.all_eq_true.2 fun i hi => HG.out i (by have := List.mem_range.1 hi; rw [HA.out] at this; exact this)]; rfl, HBL.out⟩
end Go.Proofs.YtpdcpaoabalgcaaGreatDoor

namespace Go.Proofs.YtpdcpaoabalgcaaGreatDoor
open Go.RowKit Go.Shelf Go.Sort
set_option linter.unusedVariables false
theorem nth_get {l : List Nat} {i : Nat} (h : i < l.length) : nth l i = l[i] := by simp [nth, List.getD_eq_getElem?_getD, h]
theorem rises_lt {l : List Nat} (h : Rises l) : l.Pairwise (· < ·) := by
  induction l with
  | nil => exact .nil
  | cons a l ih =>
    have h2 : Rises l := fun i hi => h (i + 1) (by simpa using hi)
    have hs := ih h2
    refine .cons (fun b hb => ?_) hs
    cases l with
    | nil => cases hb
    | cons c r =>
      have h1 := h 0 (by simp)
      have h1 : a < c := h1
      rcases List.mem_cons.1 hb with rfl | hb
      · exact h1
      · have := (List.pairwise_cons.1 hs).1 b hb
        omega
theorem lt_rises {l : List Nat} (h : l.Pairwise (· < ·)) : Rises l := fun i hi => by
  rw [nth_get hi, nth_get (by omega)]
  exact List.pairwise_iff_getElem.1 h i (i + 1) (by omega) hi (by omega)
theorem lt_le {l : List Nat} (h : l.Pairwise (· < ·)) : l.Pairwise (· ≤ ·) := h.imp fun h => by omega
/-- In a rising list as many stand before a place as its number. -/
theorem cnt_nth {l : List Nat} (h : l.Pairwise (· < ·)) : ∀ {p : Nat}, p < l.length → l.countP (· < nth l p) = p := by
  induction l with
  | nil => intro p hp; simp at hp
  | cons a l ih =>
    intro p hp
    have hs := List.pairwise_cons.1 h
    cases p with
    | zero =>
      show (a :: l).countP (· < a) = 0
      rw [List.countP_eq_zero]
      intro x hx
      rcases List.mem_cons.1 hx with rfl | hx
      · simp
      · have := hs.1 x hx; simp; omega
    | succ p =>
      have hp' : p < l.length := by simpa using hp
      show (a :: l).countP (· < nth l p) = p + 1
      rw [List.countP_cons, ih hs.2 hp']
      have : a < nth l p := hs.1 _ (by rw [nth_get hp']; exact List.getElem_mem hp')
      simp [this]
theorem nth_cnt {l : List Nat} (h : l.Pairwise (· < ·)) {v : Nat} (hv : v ∈ l) : l.countP (· < v) < l.length ∧ nth l (l.countP (· < v)) = v := by
  obtain ⟨p, hp, e⟩ := List.getElem_of_mem hv
  have h1 : nth l p = v := by rw [nth_get hp]; exact e
  have h2 := cnt_nth h hp
  rw [h1] at h2
  rw [h2]
  exact ⟨hp, h1⟩
theorem jn_no {ap l : List Nat} {d : Nat → Nat} {p : Nat} : ∀ j, (∀ i, i < j → nth ap i ≠ p) → jn ap l d j p = d p
  | 0, _ => rfl
  | j + 1, h => by
    show (if p = nth ap j then nth l j else jn ap l d j p) = d p
    rw [if_neg (fun e => h j (by omega) e.symm)]
    exact jn_no j fun i hi => h i (by omega)
theorem jn_yes {ap l : List Nat} {d : Nat → Nat} {n : Nat} (hinj : ∀ i j, i < n → j < n → nth ap i = nth ap j → i = j) : ∀ j, j ≤ n → ∀ i, i < j → jn ap l d j (nth ap i) = nth l i
  | 0, _, i, hi => by omega
  | j + 1, hj, i, hi => by
    show (if nth ap i = nth ap j then nth l j else jn ap l d j (nth ap i)) = nth l i
    by_cases e : nth ap i = nth ap j
    · rw [if_pos e, hinj i j (by omega) (by omega) e]
    · rw [if_neg e]
      refine jn_yes hinj j (by omega) i ?_
      rcases Nat.lt_or_ge i j with h | h
      · exact h
      · exact absurd (by rw [show i = j by omega]) e
theorem plcL_nth {V a : List Nat} {i : Nat} (h : i < a.length) : nth (plcL V a) i = V.countP (· < nth a i) := nth_map h
theorem plc_inj {V a : List Nat} (hV : V.Pairwise (· < ·)) (ha : a.Pairwise (· < ·)) (hs : ∀ x ∈ a, x ∈ V) : ∀ i j, i < a.length → j < a.length → nth (plcL V a) i = nth (plcL V a) j → i = j := by
  intro i j hi hj e
  rw [plcL_nth hi, plcL_nth hj] at e
  have h1 := (nth_cnt hV (hs _ (nth_mem hi))).2
  have h2 := (nth_cnt hV (hs _ (nth_mem hj))).2
  rw [e, h2] at h1
  have h3 := cnt_nth ha hi
  have h4 := cnt_nth ha hj
  rw [h1] at h4
  omega
theorem ext_nth {l t : List Nat} (h : l.length = t.length) (he : ∀ i, i < l.length → nth l i = nth t i) : l = t := by
  refine List.ext_getElem h fun i h1 h2 => ?_
  have := he i h1
  rwa [nth_get h1, nth_get h2] at this
/-- What two rising lists make together. -/
structure Uni (V a b : List Nat) : Prop where
  lt : V.Pairwise (· < ·)
  mem : ∀ x, x ∈ V ↔ x ∈ a ∨ x ∈ b
theorem Uni.pa {V a b l1 l2 : List Nat} (H : Uni V a b) (ha : Rises a) (hb : Rises b) (hl1 : l1.length = a.length) (hl2 : l2.length = b.length) (hag : AgB a b l1 l2 = true) : pickL (joinL V.length (plcL V a) l1 (plcL V b) l2) (plcL V a) = l1 := by
  have sa := rises_lt ha
  have sb := rises_lt hb
  have ia := plc_inj H.lt sa (fun x hx => (H.mem x).2 (.inl hx))
  have ib := plc_inj H.lt sb (fun x hx => (H.mem x).2 (.inr hx))
  refine ext_nth (by rw [pickL_len, plcL_len, hl1]) fun i hi => ?_
  rw [pickL_len, plcL_len] at hi
  have hm := (nth_cnt H.lt ((H.mem _).2 (.inl (nth_mem hi))))
  rw [pickL_nth (by rw [plcL_len]; exact hi)]
  have hp := plcL_nth (V := V) hi
  rw [joinL, nth_range (by rw [hp]; exact hm.1), joinF, plcL_len, plcL_len]
  by_cases h : ∃ j, j < b.length ∧ nth (plcL V b) j = nth (plcL V a) i
  · obtain ⟨j, hj, e⟩ := h
    rw [← e, jn_yes (n := b.length) ib b.length (Nat.le_refl _) j hj]
    have hab : nth b j = nth a i := by
      rw [hp, plcL_nth hj] at e
      have h1 := (nth_cnt H.lt ((H.mem _).2 (.inr (nth_mem hj)))).2
      rw [e, hm.2] at h1
      exact h1.symm
    have hg := List.all_eq_true.1 hag i (List.mem_range.2 hi)
    have hc : b.contains (nth a i) = true := by rw [← hab]; exact List.contains_iff_mem.2 (nth_mem hj)
    rw [AgAt, hc, ← hab, cnt_nth sb hj] at hg
    simpa using (by simpa using hg : nth l1 i = nth l2 j).symm
  · rw [jn_no b.length (fun j hj e => h ⟨j, hj, e⟩), jn_yes (n := a.length) ia a.length (Nat.le_refl _) i hi]
theorem Uni.pb {V a b l1 l2 : List Nat} (H : Uni V a b) (hb : Rises b) (hl2 : l2.length = b.length) : pickL (joinL V.length (plcL V a) l1 (plcL V b) l2) (plcL V b) = l2 := by
  have sb := rises_lt hb
  have ib := plc_inj H.lt sb (fun x hx => (H.mem x).2 (.inr hx))
  refine ext_nth (by rw [pickL_len, plcL_len, hl2]) fun i hi => ?_
  rw [pickL_len, plcL_len] at hi
  have hm := (nth_cnt H.lt ((H.mem _).2 (.inr (nth_mem hi))))
  rw [pickL_nth (by rw [plcL_len]; exact hi)]
  have hp := plcL_nth (V := V) hi
  rw [joinL, nth_range (by rw [hp]; exact hm.1), joinF, plcL_len, plcL_len, jn_yes (n := b.length) ib b.length (Nat.le_refl _) i hi]
theorem Uni.qa {V a b : List Nat} (H : Uni V a b) {i : Nat} (hi : i < a.length) : nth (plcL V a) i < V.length := by
  rw [plcL_nth hi]; exact (nth_cnt H.lt ((H.mem _).2 (.inl (nth_mem hi)))).1
theorem Uni.qb {V a b : List Nat} (H : Uni V a b) {i : Nat} (hi : i < b.length) : nth (plcL V b) i < V.length := by
  rw [plcL_nth hi]; exact (nth_cnt H.lt ((H.mem _).2 (.inr (nth_mem hi)))).1
theorem Uni.sizes {V a b l1 l2 : List Nat} {Q : Nat → Prop} (H : Uni V a b) (ha : Rises a) (hb : Rises b) (hl1 : l1.length = a.length) (hl2 : l2.length = b.length) (hag : AgB a b l1 l2 = true) (h1 : ∀ n ∈ l1, Q n) (h2 : ∀ n ∈ l2, Q n) :
    ∀ n ∈ joinL V.length (plcL V a) l1 (plcL V b) l2, Q n := by
  intro n hn
  obtain ⟨p, hp, rfl⟩ := List.getElem_of_mem hn
  rw [joinL_len] at hp
  rw [← nth_get]
  have hc := cnt_nth H.lt hp
  rcases (H.mem _).1 (nth_mem hp) with hx | hx
  · obtain ⟨i, hi, e⟩ := List.getElem_of_mem hx
    rw [← nth_get hi] at e
    have hpi : nth (plcL V a) i = p := by rw [plcL_nth hi, e, hc]
    have h := H.pa ha hb hl1 hl2 hag
    have h3 := congrArg (fun t => nth t i) h
    rw [pickL_nth (by rw [plcL_len]; exact hi), hpi] at h3
    rw [h3]
    exact h1 _ (nth_mem (by rw [hl1]; exact hi))
  · obtain ⟨i, hi, e⟩ := List.getElem_of_mem hx
    rw [← nth_get hi] at e
    have hpi : nth (plcL V b) i = p := by rw [plcL_nth hi, e, hc]
    have h := H.pb (l1 := l1) hb hl2
    have h3 := congrArg (fun t => nth t i) h
    rw [pickL_nth (by rw [plcL_len]; exact hi), hpi] at h3
    rw [h3]
    exact h2 _ (nth_mem (by rw [hl2]; exact hi))
theorem sortI_mem {l : List Nat} {x : Int} : x ∈ sortI l ↔ ∃ n ∈ l, (n : Int) = x := by
  rw [sortI, List.mem_mergeSort, List.mem_map]
theorem sortI_sorted (l : List Nat) : (sortI l).Pairwise (· ≤ ·) := by
  have h := List.pairwise_mergeSort (le := fun x y : Int => decide (x ≤ y)) (by intro a b c h1 h2; simp at *; omega) (by intro a b; simp; omega) (l.map fun i : Nat => (i : Int))
  exact h.imp fun h => by simpa using h
theorem comp_eq (zs : List Int) : Lib.compact zs = ((List.range zs.length).filter (Lib.keeps zs.toArray)).map (zs.getD · 0) := by
  rw [Lib.compact, Lib.compactUpTo]
  refine List.map_congr_left fun i hi => ?_
  have : i < zs.length := by have := (List.mem_filter.1 hi).1; simpa using this
  simp [List.getD_eq_getElem?_getD, this]
theorem keeps_iff {zs : List Int} {j : Nat} (h : j < zs.length) : Lib.keeps zs.toArray j = true ↔ j = 0 ∨ zs.getD j 0 ≠ zs.getD (j - 1) 0 := by
  have h2 : j - 1 < zs.length := by omega
  simp [Lib.keeps, List.getD_eq_getElem?_getD, h, h2]
theorem comp_lt {zs : List Int} (h : zs.Pairwise (· ≤ ·)) : (Lib.compact zs).Pairwise (· < ·) := by
  rw [comp_eq, List.pairwise_map]
  have hg : ∀ i j, i ≤ j → j < zs.length → zs.getD i 0 ≤ zs.getD j 0 := by
    intro i j hij hj
    rcases Nat.lt_or_ge i j with h1 | h1
    · have := List.pairwise_iff_getElem.1 h i j (by omega) hj h1
      simpa [List.getD_eq_getElem?_getD, hj, show i < zs.length by omega] using this
    · rw [show i = j by omega]; exact Int.le_refl _
  have hp : ((List.range zs.length).filter (Lib.keeps zs.toArray)).Pairwise (· < ·) := List.Pairwise.filter _ List.pairwise_lt_range
  refine hp.imp_of_mem fun {i j} hi hj hij => ?_
  have hj' := List.mem_filter.1 hj
  have hjl : j < zs.length := by simpa using hj'.1
  have hk := (keeps_iff hjl).1 hj'.2
  have h1 := hg i (j - 1) (by omega) (by omega)
  have h2 := hg (j - 1) j (by omega) hjl
  rcases hk with hk | hk
  · omega
  · omega
theorem comp_mem {zs : List Int} {x : Int} : x ∈ Lib.compact zs ↔ x ∈ zs := by
  rw [comp_eq, List.mem_map]
  constructor
  · rintro ⟨i, hi, rfl⟩
    have hl : i < zs.length := by have := (List.mem_filter.1 hi).1; simpa using this
    rw [List.getD_eq_getElem?_getD, List.getElem?_eq_getElem hl]
    exact List.getElem_mem hl
  · intro hx
    have : ∃ j, j < zs.length ∧ zs.getD j 0 = x := by
      obtain ⟨j, hj, e⟩ := List.getElem_of_mem hx
      exact ⟨j, hj, by rw [List.getD_eq_getElem?_getD, List.getElem?_eq_getElem hj]; exact e⟩
    obtain ⟨j, hj, e⟩ := this
    induction j with
    | zero => exact ⟨0, List.mem_filter.2 ⟨by simpa using hj, (keeps_iff hj).2 (.inl rfl)⟩, e⟩
    | succ j ih =>
      by_cases hk : zs.getD (j + 1) 0 = zs.getD j 0
      · exact ih (by omega) (hk.symm.trans e)
      · exact ⟨j + 1, List.mem_filter.2 ⟨by simpa using hj, (keeps_iff hj).2 (.inr hk)⟩, e⟩
theorem uni_ex (a b : List Nat) : ∃ V, Lib.compact (sortI (a ++ b)) = V.map (fun i : Nat => (i : Int)) ∧ Uni V a b := by
  have hm : ∀ x : Int, x ∈ Lib.compact (sortI (a ++ b)) ↔ ∃ n ∈ a ++ b, (n : Int) = x := fun x => by rw [comp_mem, sortI_mem]
  have hlt := comp_lt (sortI_sorted (a ++ b))
  generalize Lib.compact (sortI (a ++ b)) = C at hm hlt
  have hc : C = (C.map Int.toNat).map fun i : Nat => (i : Int) := by
    rw [List.map_map]
    refine (List.map_id' C).symm.trans (List.map_congr_left fun x hx => ?_)
    obtain ⟨n, _, e⟩ := (hm x).1 hx
    subst e
    simp
  refine ⟨C.map Int.toNat, hc, ?_, fun x => ?_⟩
  · rw [List.pairwise_map]
    refine hlt.imp_of_mem fun {x y} hx hy hxy => ?_
    obtain ⟨n, _, e⟩ := (hm x).1 hx
    obtain ⟨m, _, e2⟩ := (hm y).1 hy
    subst e; subst e2
    simp; omega
  · rw [List.mem_map]
    constructor
    · rintro ⟨y, hy, rfl⟩
      obtain ⟨n, hn, e⟩ := (hm y).1 hy
      subst e
      simpa using hn
    · intro h
      exact ⟨(x : Int), (hm _).2 ⟨x, List.mem_append.2 h, rfl⟩, by simp⟩
/-- A rising list is told by its members. -/
theorem rise_uniq {l t : List Nat} (h1 : l.Pairwise (· < ·)) (h2 : t.Pairwise (· < ·)) (h : ∀ x, x ∈ l ↔ x ∈ t) : l = t := by
  induction l generalizing t with
  | nil =>
    cases t with
    | nil => rfl
    | cons b t => exact absurd ((h b).2 (by simp)) (by simp)
  | cons a l ih =>
    cases t with
    | nil => exact absurd ((h a).1 (by simp)) (by simp)
    | cons b t =>
      have p1 := List.pairwise_cons.1 h1
      have p2 := List.pairwise_cons.1 h2
      have hab : a = b := by
        rcases List.mem_cons.1 ((h a).1 (by simp)) with e | e
        · exact e
        · rcases List.mem_cons.1 ((h b).2 (by simp)) with e2 | e2
          · exact e2.symm
          · have := p1.1 b e2
            have := p2.1 a e
            omega
      subst hab
      refine congrArg _ (ih p1.2 p2.2 fun x => ⟨fun hx => ?_, fun hx => ?_⟩)
      · rcases List.mem_cons.1 ((h x).1 (List.mem_cons_of_mem _ hx)) with e | e
        · have := p1.1 x hx; omega
        · exact e
      · rcases List.mem_cons.1 ((h x).2 (List.mem_cons_of_mem _ hx)) with e | e
        · have := p2.1 x hx; omega
        · exact e
end Go.Proofs.YtpdcpaoabalgcaaGreatDoor
