/- WcspRight: the walk (the statement's own closing text is apart). -/
import Derived.Test.YteocbgcgfllieaaGreatDoorGk
import Derived.Deep.OwnRows
import Derived.Deep.RegionHeld3
namespace Go.Proofs.YteocbgcgfllieaaGreatDoor
open Go.RowKit Go.Maps
set_option linter.unusedVariables false
/-- The copy, as far as the law still looks at it. -/
def CopyR (w wr : World) (C g2 cf : Nat) (l : List Nat) (k o : Int) (tv tv' : Value) : Prop :=
  Below w.heap.size w wr ∧ wr.cell? ⟨C, 3, none⟩ = some (.slice (some ⟨g2, 0, none⟩) 1 cf) ∧ wr.cell? ⟨g2, 1, none⟩ = some tv' ∧ CopyT w.heap.size wr l k o tv tv'
theorem copyD_r {w wr : World} {C m c2 : Nat} {A2 : Option Addr} {zs : Nat → Int} {l : List Nat} {k o : Int} {tv : Value} (h : CopyD w wr C m A2 c2 zs l k o tv) :
    ∃ g2 cf tv', wr.cell? ⟨C, 2, none⟩ = some (.slice A2 m c2) ∧ CopyR w wr C g2 cf l k o tv tv' ∧ (0 < m → ∃ gz, A2 = some ⟨gz, 0, none⟩ ∧ wr.cell? ⟨gz, 0, none⟩ = some (.int .i64 (zs 0)) ∧ wr.frozen? ⟨gz, 0, none⟩ = false ∧ ∀ v, CopyR w (wr.setCell ⟨gz, 0, none⟩ v) C g2 cf l k o tv tv') := by
  obtain ⟨g2, cf, tv', h2, hO, h3, h1, hg, ⟨B, hB, hT, hlt⟩, hne, hb⟩ := h
  refine ⟨g2, cf, tv', h2, ⟨hb, h3, h1, hT.less hB⟩, fun hm => ?_⟩
  obtain ⟨A, c, e, hz⟩ := zs_of_row hO
  injection e with e1 e2 e3
  subst e1 e3
  obtain ⟨_, ⟨e, hn⟩ | ⟨gz, cap, cur, e, hbz, hh, hcap, -, -, -⟩⟩ := hO
  · omega
  · injection e with e1 e2 e3
    subst e1
    have hc : wr.cell? ⟨gz, 0, none⟩ = some (.int .i64 (zs 0)) := by
      rcases hz with h | ⟨g', o', e, hg', hc⟩
      · omega
      · injection e with e
        injection e with e1 e2
        subst e1 e2
        exact hc 0 hm
    refine ⟨gz, rfl, hc, frozen_of_row _ _ _ _ _ hh, fun v => ⟨hb.setCell (p := ⟨gz, 0, none⟩) hbz v, ?_, ?_, (hT.put v (hlt gz rfl)).less hB⟩⟩
    · rw [World.cell?_setCell_other _ _ _ _ (by simp)]; exact h3
    · rw [World.cell?_setCell_other _ _ _ _ (by simp)]; exact h1
theorem zs_zero (w : World) (A : Option Addr) (n : Nat) (h : Zs w A n (fun _ => 0)) : Ints w A (List.replicate n 0) := by
  rcases h with h | ⟨g, o, e, hg, hc⟩
  · exact .inl (by rw [h]; rfl)
  · refine .inr ⟨g, o, e, hg, fun i hi => ?_⟩
    rw [List.length_replicate] at hi
    rw [hc i hi]
    simp [nth, List.getD_eq_getElem?_getD, hi]
theorem inL_zero {l : List Nat} (h : ∀ n ∈ l, 1 ≤ n ∧ n ≤ 32) : InL l (List.replicate l.length 0) :=
  inL_iff.2 ⟨by simp, fun i hi => by
    have := (h _ (List.getElem_mem hi)).1
    simp [nth, List.getD_eq_getElem?_getD, hi]
    omega⟩
theorem ints_made (w : World) (n : Nat) : Ints (w.alloc (.cells (madeCells #[.int .i64 0] n) 3)) (some ⟨w.heap.size, 0, none⟩) (List.replicate n 0) := by
  refine .inr ⟨_, 0, rfl, by simp, fun i hi => ?_⟩
  rw [List.length_replicate] at hi
  rw [Nat.zero_add, cell_of_row _ _ _ _ _ _ (heap_alloc_new _ _), ← Array.getElem?_toList, toList_madeCells_one]
  simp [nth, List.getD_eq_getElem?_getD, hi]
theorem make_i (n : Nat) (hn : n ≤ 100000) (W : World) : (Instr.makeSlice 23 (.int .i64 (n : Int)) (.int .i64 (n : Int))).run Tryz.prog W = .ok (.slice (some ⟨W.heap.size, 0, none⟩) n n) (W.alloc (.cells (madeCells #[.int .i64 0] n) 3)) :=
  run_make_row' 23 3 (.int .i64 0) 8 Tryz.underlying23 info_int rfl .i64 .i64 n (by omega) (by omega) W
abbrev HoldP6 (wb : World) (C g2 cf : Nat) (tv' : Value) (W : World) : Prop :=
  W.cell? ⟨C, 3, none⟩ = some (.slice (some ⟨g2, 0, none⟩) 1 cf) ∧ W.cell? ⟨g2, 1, none⟩ = some tv' ∧ Below wb.heap.size wb W
theorem holdP6 {wb W W' : World} {C g2 cf : Nat} {tv' : Value} (H : HoldP6 wb C g2 cf tv' W) (hb : Below W.heap.size W W') : HoldP6 wb C g2 cf tv' W' := by
  obtain ⟨a0, a1, h9⟩ := H
  have K : ∀ b i v, W.cell? ⟨b, i, none⟩ = some v → W'.cell? ⟨b, i, none⟩ = some v := fun b i v h => (hb.cell (p := ⟨b, i, none⟩) (World.block_lt_of_cell? W _ h)).trans h
  exact ⟨K _ _ _ a0, K _ _ _ a1, h9.trans (hb.mono h9.size)⟩
theorem tplen_ok (g b N c : Nat) (A : Option Addr) (l : List Nat) (k o : Int) (f : List Nat → Int) (w : World) (H : TpAt w g b A c N l k o f) (h6 : l.length ≤ 6) (h32 : ∀ n ∈ l, 1 ≤ n ∧ n ≤ 32) :
    Calls Tryz.prog 25 #[.pointer (some ⟨g, 0, none⟩)] w fun e w' => e = .returned (.int .i64 ((linesT l o f).length : Int)) ∧ w = w' := by
  obtain ⟨D, hown, hrep⟩ := H.map
  have HS := Lib.hid (size_lines hown hrep h6 h32)
  have HO := Lib.hid hown
  obtain ⟨a0, a1, a2, a3⟩ := H.cells
  clear H hown hrep h32
  generalize (linesT l o f).length = n at HS ⊢
  go_enter Tryz.func25, Tryz.ntmps25
  go_wp2_with (at_len; refine wpList_len_own _ rfl _ 99 rfl 103 2 Tryz.underlying99 _ b N D rfl HO.out ?_; rw [HS.out])
  go_ret
  exact ⟨rfl, rfl⟩
theorem tplen_nil (w : World) : Calls Tryz.prog 25 #[.pointer none] w fun e w' => e = .returned (.int .i64 0) ∧ w = w' := by
  go_enter Tryz.func25, Tryz.ntmps25
  go_wp2_with fail
  go_ret
  exact ⟨rfl, rfl⟩
theorem tplen_six {g b N c : Nat} {A : Option Addr} {l : List Nat} {k o : Int} (w : World) (H : TpAt w g b A c N l k o (fun _ => o)) (h6 : l.length ≤ 6) (h32 : ∀ n ∈ l, 1 ≤ n ∧ n ≤ 32) :
    Calls Tryz.prog 25 #[.pointer (some ⟨g, 0, none⟩)] w fun e w' => e = .returned (.int .i64 0) ∧ w = w' := by
  have h := tplen_ok g b N c A l k o (fun _ => o) w H h6 h32
  rw [linesT_none] at h
  exact h
abbrev HoldP7 (C g2 cf : Nat) (tv' : Value) (W : World) : Prop := W.cell? ⟨C, 3, none⟩ = some (.slice (some ⟨g2, 0, none⟩) 1 cf) ∧ W.cell? ⟨g2, 1, none⟩ = some tv'
theorem holdP7 {W W' : World} {C g2 cf : Nat} {tv' : Value} (H : HoldP7 C g2 cf tv' W) (hb : Below W.heap.size W W') : HoldP7 C g2 cf tv' W' := by
  obtain ⟨a0, a1⟩ := H
  have K : ∀ b i v, W.cell? ⟨b, i, none⟩ = some v → W'.cell? ⟨b, i, none⟩ = some v := fun b i v h => (hb.cell (p := ⟨b, i, none⟩) (World.block_lt_of_cell? W _ h)).trans h
  exact ⟨K _ _ _ a0, K _ _ _ a1⟩
theorem holdP7_grown {W W' : World} {C g2 cf m n : Nat} {tv' : Value} {D : DataW Unit} (H : HoldP7 C g2 cf tv' W) (hm : W.ownsMap Tryz.prog 103 (plainElem Tryz.prog 2) m n D) (hg : W.grownBy W' (some m)) : HoldP7 C g2 cf tv' W' :=
  ⟨(World.cell?_of_block (a := ⟨C, 3, none⟩) (hg.block C (World.block_lt_of_cell? W _ H.1) (fun e => map_neG hm H.1 e))).trans H.1,
   (World.cell?_of_block (a := ⟨g2, 1, none⟩) (hg.block g2 (World.block_lt_of_cell? W _ H.2) (fun e => map_neG hm H.2 e))).trans H.2⟩
end Go.Proofs.YteocbgcgfllieaaGreatDoor
namespace Go.Proofs.YteocbgcgfllieaaGreatDoor
open Go.RowKit
set_option linter.unusedVariables false
set_option maxRecDepth 100000 in
set_option maxHeartbeats 8000000 in
theorem right_walk (X0 : ByteArray) (k : Int) (a2 a3 : Option Addr) (n2 c2 n3 c3 : Nat) (z2 z3 : Nat → Int) (o : Int) (no : Bool) (w : World) (hG : GlobR w) (hT : TabP w) (hX : (X0.size : Int) ≤ 9223372036854775807) (h2 : n2 ≤ c2) (h3 : n3 ≤ c3) (hm2 : (n2 : Int) ≤ 9223372036854775807) (hm3 : (n3 : Int) ≤ 9223372036854775807) (hz2 : Ext w a2 n2 z2) (hz3 : Ext w a3 n3 z3) :
    Calls Tryz.prog 6 #[.string X0, .int .i64 k, .slice a2 n2 c2, .slice a3 n3 c3, .int .i64 o, .bool no] w fun e w' => e = .returned (.bool true) ∧ Below w.heap.size w w' := by
  obtain ⟨p, hp⟩ : ∃ m, min X0.size 80 = m := ⟨_, rfl⟩
  obtain ⟨m, hm⟩ : ∃ m, min n2 70 = m := ⟨_, rfl⟩
  obtain ⟨q, hq⟩ : ∃ m, min n3 5 = m := ⟨_, rfl⟩
  have i1 : min (X0.size : Int) 80 = (p : Int) := by omega
  have i2 : min (n2 : Int) 70 = (m : Int) := by omega
  have i3 : min (n3 : Int) 5 = (q : Int) := by omega
  have S1 : ∀ W, (Instr.slice 9 (.string X0) none (some (.int .i64 (p : Int))) none).run Tryz.prog W = .ok (.string (X0.extract 0 p)) W := fun W => str_head X0 p (by omega) W
  have S2 : ∀ W, (Instr.slice 23 (.slice a2 n2 c2) none (some (.int .i64 (m : Int))) none).run Tryz.prog W = .ok (.slice a2 m c2) W := fun W => slice_headR a2 n2 m c2 (by omega) W
  have S3 : ∀ W, (Instr.slice 23 (.slice a3 n3 c3) none (some (.int .i64 (q : Int))) none).run Tryz.prog W = .ok (.slice a3 q c3) W := fun W => slice_headR a3 n3 q c3 (by omega) W
  have HXS : Hid ((X0.extract 0 p).size ≤ 80) := Lib.hid (by rw [ByteArray.size_extract]; omega)
  generalize X0.extract 0 p = X at S1 HXS
  have P2 := Lib.hid (fun W (hb : Below w.heap.size w W) => clone_cap a2 m c2 z2 W (by omega) ((hz2.less (by omega)).below hb))
  have P3 := Lib.hid (fun W (hb : Below w.heap.size w W) => clone_cap a3 q c3 z3 W (by omega) ((hz3.less (by omega)).below hb))
  have HM : Hid (m ≤ 70 ∧ q ≤ 5) := Lib.hid ⟨by omega, by omega⟩
  have AW := Lib.hid (awake7_ok w hG hT)
  clear hp hm hq hz2 hz3 hG hT h2 h3 hm2 hm3
  go_enter Tryz.func6, Tryz.ntmps6
  go_upto_region 3 with (first
    | (go_at_call 9; refine AW.out.mono ?_; rintro e w1 ⟨rfl, hb1⟩; have B1 := Lib.hid hb1; clear hb1)
    | fail)
  go_cut [0, 2, 3] from 33 to 49 (fun v0 v2 v3 wc => v0 = .string X ∧ Hid (Below w.heap.size w wc) ∧ (∃ A c, v2 = .slice A m c ∧ Hid (Zs wc A m z2)) ∧ ∃ A c, v3 = .slice A q c ∧ Hid (Zs wc A q z3 ∧ q ≤ c))
  case first =>
    --[names
    go_region_held3 (fun W => Below w.heap.size w W) (first | exact (B1.out.drew) | exact then_ (by assumption) (by assumption) | assumption)
      ((first | (go_at_call 13; with_reducible refine (P2.out _ (by assumption)).mono ?_; rintro e w2 ⟨⟨A2, q2, rfl, hs2, hq2⟩, hb2⟩; have Z2 := Lib.hid hs2; clear hs2)
              | (go_at_call 13; with_reducible refine (P3.out _ (by assumption)).mono ?_; rintro e w3 ⟨⟨A3, q3, rfl, hs3, hq3⟩, hb3⟩; have Z3 := Lib.hid (And.intro hs3 hq3); have Z2' := Lib.hid (Z2.out.below hb3 (Nat.le_refl _)); clear hs3 Z2)))
    all_goals
      (have B3 := Lib.hid (by assumption : Below w.heap.size w w3)
       go_wp2_with fail
       go_meet
       case rel => exact ⟨rfl, B3, ⟨_, _, rfl, Z2'⟩, _, _, rfl, Z3⟩)
    --]
  obtain ⟨rfl, B3, ⟨A2, q2, rfl, Z2⟩, A3, q3, rfl, Z3C⟩ := hcut
  have Z3 := Lib.hid Z3C.out.1
  have QC := Lib.hid Z3C.out.2
  clear Z3C
  obtain ⟨w3, hw3⟩ : ∃ w3, w3 = wc := ⟨wc, rfl⟩
  subst hw3
  clear S1 S2 S3 i1 i2 i3 P2 P3 AW hX B1
  have n4 := new_val w3 (.cells #[.string X, .int .i64 k, .slice A2 m q2, .slice none 0 0] 50)
  have X4 := Lib.hid (heap_alloc_new w3 (.cells #[.string X, .int .i64 k, .slice A2 m q2, .slice none 0 0] 50))
  have B4 := Lib.hid (then_ B3.out n4)
  have Z24 := Lib.hid (Z2.out.below n4 (Nat.le_refl _))
  have Z34 := Lib.hid (Z3.out.below n4 (Nat.le_refl _))
  have FL := Lib.hid (show w.heap.size ≤ w3.heap.size from B3.out.size)
  have N4 := Lib.hid n4
  clear n4 B3
  go_upto_region 5 with fail
  generalize w3.alloc (.cells #[.string X, .int .i64 k, .slice A2 m q2, .slice none 0 0] 50) = w4 at X4 B4 Z24 Z34 N4 ⊢
  obtain ⟨fb, hfb⟩ : ∃ C, w3.heap.size = C := ⟨_, rfl⟩
  rw [hfb] at X4 FL
  simp only [hfb]
  have HFB := Lib.hid hfb
  clear hfb
  go_cut [14] from 55 to 69 (fun v14 wc => wc = w4 ∧ ∃ b, v14 = .bool b ∧ Hid (b = true ↔ (X ≠ ⟨#[]⟩ ∧ 0 < m ∧ 1 ≤ k ∧ k ≤ 2147483648)))
  case first =>
    --[init
    by_cases hx : X = ⟨#[]⟩
    · have e1 : X.toList = [] := by rw [hx]; simp
      have e2 : X.toList.isEmpty = true := by rw [e1]; rfl
      go_wp2_with fail
      go_meet
      case rel => exact ⟨rfl, false, rfl, Lib.hid ⟨fun h => absurd h (by decide), fun h => absurd hx h.1⟩⟩
    · have e1 : ¬ X.toList = [] := by
        intro e
        have h := str_ne (X := ⟨#[]⟩) (Y := X) hx
        rw [e] at h
        simp at h
      have e2 : X.toList.isEmpty = false := by rw [List.isEmpty_eq_false_iff]; exact e1
      by_cases hm0 : 0 < m
      · have d1 : decide ((0 : Int) < (m : Int)) = true := decide_eq_true (by omega)
        have m1 : (0 : Int) < (m : Int) := by omega
        by_cases hk1 : 1 ≤ k
        · have d2 : decide (1 ≤ k) = true := decide_eq_true hk1
          by_cases hk2 : k ≤ 2147483648
          · have d3 : decide (k ≤ 2147483648) = true := decide_eq_true hk2
            go_wp2_with fail
            go_meet
            case rel => exact ⟨rfl, true, rfl, Lib.hid ⟨fun _ => ⟨hx, hm0, hk1, hk2⟩, fun _ => rfl⟩⟩
          · have d3 : decide (k ≤ 2147483648) = false := decide_eq_false hk2
            go_wp2_with fail
            go_meet
            case rel => exact ⟨rfl, false, rfl, Lib.hid ⟨fun h => absurd h (by decide), fun h => absurd h.2.2.2 (by omega)⟩⟩
        · have d2 : decide (1 ≤ k) = false := decide_eq_false hk1
          go_wp2_with fail
          go_meet
          case rel => exact ⟨rfl, false, rfl, Lib.hid ⟨fun h => absurd h (by decide), fun h => absurd h.2.2.1 (by omega)⟩⟩
      · have d1 : decide ((0 : Int) < (m : Int)) = false := decide_eq_false (by omega)
        have m1 : ¬ (0 : Int) < (m : Int) := by omega
        go_wp2_with fail
        go_meet
        case rel => exact ⟨rfl, false, rfl, Lib.hid ⟨fun h => absurd h (by decide), fun h => absurd h.2.1 (by omega)⟩⟩
    --]
  obtain ⟨hw, b, rfl, HB⟩ := hcut
  rw [hw]
  clear hw
  obtain ⟨P0, hP0⟩ : ∃ P : Prop, P = (X ≠ ⟨#[]⟩ ∧ 0 < m ∧ 1 ≤ k ∧ k ≤ 2147483648) := ⟨_, rfl⟩
  have HP0 := Lib.hid hP0
  rw [← hP0] at HB
  clear hP0
  go_upto_block 0 with fail
  go_cut [14, 15, 72] from 73 to 87 (fun v14 _ _ wc => wc = w4 ∧ ∃ b, v14 = .bool b ∧ Hid (b = true ↔ P0 ∧ ∀ i, i < X.size → 32 < nthB X i ∧ nthB X i < 127))
  case first =>
    --[chars
    go_wp2_with fail
    go_loopw [14, 15, 72] (fun v14 _ i wr => ∃ j : Nat, i = .int .i64 (j : Int) ∧ j ≤ X.size ∧ wr = w4 ∧ ∃ b, v14 = .bool b ∧ (b = true ↔ P0 ∧ ∀ i, i < j → 32 < nthB X i ∧ nthB X i < 127)) (fun _ _ i _ => X.size - (intOf i).toNat)
    case atStart => exact ⟨0, rfl, Nat.zero_le _, rfl, _, rfl, ⟨fun h => ⟨HB.out.1 h, fun i hi => absurd hi (Nat.not_lt_zero _)⟩, fun h => HB.out.2 h.1⟩⟩
    case round =>
      obtain ⟨j, rfl, hj, hwr, bb, rfl, hbb⟩ := hrel
      rw [hwr]
      clear hwr
      have HBB := Lib.hid hbb
      clear hbb
      by_cases hlt : j < X.size
      · have j2 : (0 : Int) ≤ (j : Int) := by omega
        have j3 : (j : Int) ≤ 80 := by have := HXS.out; omega
        have d0 : decide ((j : Int) < (X.size : Int)) = true := decide_eq_true (by omega)
        have nx : ∀ c : Bool, (c = true ↔ 32 < nthB X j ∧ nthB X j < 127) → ((bb && c) = true ↔ P0 ∧ ∀ i, i < j + 1 → 32 < nthB X i ∧ nthB X i < 127) := fun c hc => by
          rw [Bool.and_eq_true, HBB.out, hc]
          constructor
          · rintro ⟨⟨h1, h2⟩, h3⟩
            refine ⟨h1, fun i hi => ?_⟩
            rcases Nat.lt_or_ge i j with h | h
            · exact h2 i h
            · rw [show i = j by omega]; exact h3
          · rintro ⟨h1, h2⟩
            exact ⟨⟨h1, fun i hi => h2 i (by omega)⟩, h2 j (by omega)⟩
        have NX := Lib.hid nx
        have ix : ∀ W, (Instr.index 9 (.string X) (.int .i64 (j : Int))).run Tryz.prog W = .ok (.int .u8 (nthB X j : Int)) W := fun W => str_at X j _ hlt rfl W
        clear nx
        generalize nthB X j = x at NX ix
        cases bb with
        | false =>
          have h := NX.out false
          rw [Bool.false_and] at h
          have hc := NX.out (decide (32 < x ∧ x < 127)) (by simp)
          rw [Bool.false_and] at hc
          have HC := Lib.hid hc
          clear h hc
          go_wp2_with fail
          exact ⟨⟨j + 1, by simp, by omega, by trivial, _, by trivial, HC.out⟩, by simp [intOf]; omega⟩
        | true =>
          have hc := NX.out (decide (32 < x ∧ x < 127)) (by simp)
          rw [Bool.true_and] at hc
          have HC := Lib.hid hc
          clear hc
          by_cases h32 : 32 < x
          · have d1 : decide ((32 : Int) < (x : Int)) = true := decide_eq_true (by omega)
            by_cases h127 : x < 127
            · have d2 : decide ((x : Int) < 127) = true := decide_eq_true (by omega)
              have HD : Hid (decide (32 < x ∧ x < 127) = true) := Lib.hid (decide_eq_true ⟨h32, h127⟩)
              go_wp2_with fail
              exact ⟨⟨j + 1, by simp, by omega, by trivial, _, by trivial, by have h := HC.out; rw [HD.out] at h; exact h⟩, by simp [intOf]; omega⟩
            · have d2 : decide ((x : Int) < 127) = false := decide_eq_false (by omega)
              have HD : Hid (decide (32 < x ∧ x < 127) = false) := Lib.hid (decide_eq_false (fun h => h127 h.2))
              go_wp2_with fail
              exact ⟨⟨j + 1, by simp, by omega, by trivial, _, by trivial, by have h := HC.out; rw [HD.out] at h; exact h⟩, by simp [intOf]; omega⟩
          · have d1 : decide ((32 : Int) < (x : Int)) = false := decide_eq_false (by omega)
            have HD : Hid (decide (32 < x ∧ x < 127) = false) := Lib.hid (decide_eq_false (fun h => h32 h.1))
            go_wp2_with fail
            exact ⟨⟨j + 1, by simp, by omega, by trivial, _, by trivial, by have h := HC.out; rw [HD.out] at h; exact h⟩, by simp [intOf]; omega⟩
      · have d0 : decide ((j : Int) < (X.size : Int)) = false := decide_eq_false (by omega)
        have HJ := Lib.hid (show j = X.size by omega)
        go_wp2_with fail
        go_meet
        case rel => exact ⟨rfl, _, rfl, Lib.hid (by rw [← HJ.out]; exact HBB.out)⟩
    --]
  clear HB
  obtain ⟨hw, b, rfl, HB⟩ := hcut
  rw [hw]
  clear hw
  obtain ⟨P1, hP1⟩ : ∃ P : Prop, P = (P0 ∧ ∀ i, i < X.size → 32 < nthB X i ∧ nthB X i < 127) := ⟨_, rfl⟩
  have HP1 := Lib.hid hP1
  rw [← hP1] at HB
  clear hP1
  go_upto_block 2 with fail
  go_cut [14, 17, 91] from 92 to 104 (fun v14 _ _ wc => wc = w4 ∧ ∃ b, v14 = .bool b ∧ Hid (b = true ↔ P1 ∧ ∀ i, i < m → 1 ≤ z2 i ∧ z2 i ≤ 32))
  case first =>
    --[sizes
    go_wp2_with fail
    go_loopw [14, 17, 91] (fun v14 _ i wr => ∃ j : Nat, i = .int .i64 (j : Int) ∧ j ≤ m ∧ wr = w4 ∧ ∃ b, v14 = .bool b ∧ (b = true ↔ P1 ∧ ∀ i, i < j → 1 ≤ z2 i ∧ z2 i ≤ 32)) (fun _ _ i _ => m - (intOf i).toNat)
    case atStart => exact ⟨0, rfl, Nat.zero_le _, rfl, _, rfl, ⟨fun h => ⟨HB.out.1 h, fun i hi => absurd hi (Nat.not_lt_zero _)⟩, fun h => HB.out.2 h.1⟩⟩
    case round =>
      obtain ⟨j, rfl, hj, hwr, bb, rfl, hbb⟩ := hrel
      rw [hwr]
      clear hwr
      have HBB := Lib.hid hbb
      clear hbb
      by_cases hlt : j < m
      · have j2 : (0 : Int) ≤ (j : Int) := by omega
        have j3 : (j : Int) ≤ 70 := by have := HM.out; omega
        have d0 : decide ((j : Int) < (m : Int)) = true := decide_eq_true (by omega)
        have nx : ∀ c : Bool, (c = true ↔ 1 ≤ z2 j ∧ z2 j ≤ 32) → ((bb && c) = true ↔ P1 ∧ ∀ i, i < j + 1 → 1 ≤ z2 i ∧ z2 i ≤ 32) := fun c hc => by
          rw [Bool.and_eq_true, HBB.out, hc]
          constructor
          · rintro ⟨⟨h1, h2⟩, h3⟩
            refine ⟨h1, fun i hi => ?_⟩
            rcases Nat.lt_or_ge i j with h | h
            · exact h2 i h
            · rw [show i = j by omega]; exact h3
          · rintro ⟨h1, h2⟩
            exact ⟨⟨h1, fun i hi => h2 i (by omega)⟩, h2 j (by omega)⟩
        have NX := Lib.hid nx
        obtain ⟨gz, oz, rfl, hcell⟩ := Z24.out.at_ hlt
        clear nx
        generalize z2 j = x at NX hcell
        cases bb with
        | false =>
          have hc := NX.out (decide (1 ≤ x ∧ x ≤ 32)) (by simp)
          rw [Bool.false_and] at hc
          have HC := Lib.hid hc
          clear hc
          go_wp2_with fail
          exact ⟨⟨j + 1, by simp, by omega, by trivial, _, by trivial, HC.out⟩, by simp [intOf]; omega⟩
        | true =>
          have hc := NX.out (decide (1 ≤ x ∧ x ≤ 32)) (by simp)
          rw [Bool.true_and] at hc
          have HC := Lib.hid hc
          clear hc
          by_cases h32 : 1 ≤ x
          · have d1 : decide (1 ≤ x) = true := decide_eq_true (by omega)
            by_cases h127 : x ≤ 32
            · have d2 : decide (x ≤ 32) = true := decide_eq_true (by omega)
              have HD : Hid (decide (1 ≤ x ∧ x ≤ 32) = true) := Lib.hid (decide_eq_true ⟨h32, h127⟩)
              go_wp2_with fail
              exact ⟨⟨j + 1, by simp, by omega, by trivial, _, by trivial, by have h := HC.out; rw [HD.out] at h; exact h⟩, by simp [intOf]; omega⟩
            · have d2 : decide (x ≤ 32) = false := decide_eq_false (by omega)
              have HD : Hid (decide (1 ≤ x ∧ x ≤ 32) = false) := Lib.hid (decide_eq_false (fun h => h127 h.2))
              go_wp2_with fail
              exact ⟨⟨j + 1, by simp, by omega, by trivial, _, by trivial, by have h := HC.out; rw [HD.out] at h; exact h⟩, by simp [intOf]; omega⟩
          · have d1 : decide (1 ≤ x) = false := decide_eq_false (by omega)
            have HD : Hid (decide (1 ≤ x ∧ x ≤ 32) = false) := Lib.hid (decide_eq_false (fun h => h32 h.1))
            go_wp2_with fail
            exact ⟨⟨j + 1, by simp, by omega, by trivial, _, by trivial, by have h := HC.out; rw [HD.out] at h; exact h⟩, by simp [intOf]; omega⟩
      · have d0 : decide ((j : Int) < (m : Int)) = false := decide_eq_false (by omega)
        have HJ := Lib.hid (show j = m by omega)
        go_wp2_with fail
        go_meet
        case rel => exact ⟨rfl, _, rfl, Lib.hid (by rw [← HJ.out]; exact HBB.out)⟩
    --]
  clear HB
  obtain ⟨hw, b, rfl, HB⟩ := hcut
  rw [hw]
  clear hw
  go_upto_block 4 with fail
  go_cut [18, 19, 20, 21, 22, 107] from 108 to 146 (fun v18 v19 v20 _ _ _ wc => ∃ l : List Int, Hid (OwnI wc w4.heap.size v18 l ∧ Below w4.heap.size w4 wc ∧ l.length ≤ q) ∧ v20 = .int .i64 (cntI l) ∧ ∃ f, v19 = .bool f ∧ Hid ((f = true ∧ FitS z3 m q ∧ l = pickI z2 z3 q) ∨ (f = false ∧ ¬ FitS z3 m q ∧ l.length < q)))
  case first =>
    --[scope
    go_wp2_with fail
    go_loopw [18, 19, 20, 21, 22, 107] (fun v18 v19 v20 _ _ i wr => ∃ j : Nat, i = .int .i64 (j : Int) ∧ j ≤ q ∧ ∃ l : List Int, OwnI wr w4.heap.size v18 l ∧ Below w4.heap.size w4 wr ∧ l.length ≤ j ∧ v20 = .int .i64 (cntI l) ∧ ∃ f, v19 = .bool f ∧ ((f = true ∧ FitS z3 m j ∧ l = pickI z2 z3 j) ∨ (f = false ∧ ¬ FitS z3 m j ∧ l.length < j))) (fun _ _ _ _ _ i _ => q - (intOf i).toNat)
    case atStart => exact ⟨0, rfl, Nat.zero_le _, [], ownI_nil _ _, Below.refl _ _, Nat.le_refl _, rfl, true, rfl, .inl ⟨rfl, fun i hi => absurd hi (Nat.not_lt_zero _), rfl⟩⟩
    case round =>
      obtain ⟨j, rfl, hj, l, hO, hB, hL, rfl, f, rfl, hF⟩ := hrel
      have OW := Lib.hid hO
      have BR := Lib.hid hB
      have HL := Lib.hid hL
      obtain ⟨A, c, rfl⟩ := hO.form
      clear hO hB hL
      by_cases hlt : j < q
      · have j2 : (0 : Int) ≤ (j : Int) := by omega
        have j3 : (j : Int) ≤ 5 := by have := HM.out; omega
        have LTJ := Lib.hid hlt
        have d0 : decide ((j : Int) < (q : Int)) = true := decide_eq_true (by omega)
        have Z3R := Lib.hid (Z34.out.below BR.out (Nat.le_refl _))
        obtain ⟨g3, o3, rfl, hcell⟩ := Z3R.out.at_ hlt
        rcases hF with ⟨rfl, hfit, hpl⟩ | ⟨rfl, hnf, hll⟩
        · have HFT := Lib.hid hfit
          have HPL := Lib.hid hpl
          clear hfit hpl
          have bad : ¬ ((0 ≤ z3 j ∧ z3 j < (m : Int)) ∧ ∀ p, p < j → z3 p ≠ z3 j) → Hid (¬ FitS z3 m (j + 1) ∧ l.length < j + 1) := fun h => Lib.hid ⟨fun hh => h (fit_succ.1 hh).2, by have := HL.out; omega⟩
          have BAD := Lib.hid bad
          clear bad
          by_cases hy0 : 0 ≤ z3 j
          · by_cases hym : z3 j < (m : Int)
            · rcases first_at (fun p => z3 p = z3 j) j with hall | ⟨p, hpj, hp1, hp2⟩
              · --[push
                obtain ⟨v, hv⟩ := Int.eq_ofNat_of_zero_le hy0
                have IX := Lib.hid (fun W (hb : Below wr.heap.size wr W) => index_firstZ (some ⟨g3, o3, none⟩) q q3 j z3 (z3 j) W (by have := HM.out; omega) (Z3R.out.below hb (Nat.le_refl _)) hlt rfl (fun i hi => fun e => hall i hi e.symm))
                have FN : Hid (FitS z3 m (j + 1) ∧ pickI z2 z3 (j + 1) = l ++ [z2 v]) := Lib.hid ⟨fit_succ.2 ⟨HFT.out, ⟨hy0, hym⟩, fun p hp => hall p hp⟩, by rw [pickI_snoc, ← HPL.out, hv]; rfl⟩
                clear hall hy0
                rw [hv] at hcell IX hym
                have hvm : v < m := by omega
                obtain ⟨g2, o2, rfl, hc4⟩ := Z24.out.at_ hvm
                have G4 := Lib.hid (World.block_lt_of_cell? w4 _ hc4)
                have hc2 : wr.cell? ⟨g2, o2 + v, none⟩ = some (.int .i64 (z2 v)) := (BR.out.cell (p := ⟨g2, o2 + v, none⟩) G4.out).trans hc4
                clear hv hc4
                generalize z2 v = x at FN hc2
                have CI := cntI_snoc l x
                have CB := cntI_ok (l ++ [x]) (by have := HL.out; have := HM.out; simp; omega)
                rw [CI] at CB
                have HCI := Lib.hid CI
                obtain ⟨cb1, cb2⟩ := CB
                clear CI
                have e0 : (0 : Int) ≤ (v : Int) := by omega
                have e1 : decide ((0 : Int) ≤ (v : Int)) = true := decide_eq_true e0
                have e2 : decide ((v : Int) < (m : Int)) = true := decide_eq_true hym
                have e3 : ((j : Int) == (j : Int)) = true := by simp
                have HL2 : Hid (l.length ≤ 100000) := Lib.hid (by have := HL.out; omega)
                generalize cntI l = cc at cb1 cb2 HCI
                go_wp2_with (first
                  | (go_at_call 21; refine (IX.out wr (Below.refl _ _)).mono ?_; rintro e w' ⟨rfl, rfl⟩)
                  | (at_builtin; refine push_i rfl (.tmp 131) (.tmp 136) rfl wr w4.heap.size (.slice A l.length c) l x rfl rfl OW.out BR.out.size HL2.out ?_; intro v' w6 h1 h2; have OX := Lib.hid h1; have BX := Lib.hid h2; have hc6 : w6.cell? ⟨g2, o2 + v, none⟩ = some (.int .i64 x) := (by exact (h2.cell (p := ⟨g2, o2 + v, none⟩) G4.out).trans hc2); clear h1 h2)
                  | fail)
                exact ⟨⟨j + 1, by simp, by omega, l ++ [x], OX.out, BR.out.trans (BX.out.mono (Nat.le_refl _)), by have := HL.out; simp; omega, by rw [HCI.out], true, by trivial, .inl ⟨rfl, FN.out.1, FN.out.2.symm⟩⟩, by simp [intOf]; omega⟩
                --]
              · --[twice
                have IX := Lib.hid (fun W (hb : Below wr.heap.size wr W) => index_firstZ (some ⟨g3, o3, none⟩) q q3 p z3 (z3 j) W (by have := HM.out; omega) (Z3R.out.below hb (Nat.le_refl _)) (by omega) hp2.symm (fun i hi => fun e => hp1 i hi e.symm))
                have FN := BAD.out (fun h => h.2 p hpj hp2)
                have e3 : ((p : Int) == (j : Int)) = false := by rw [beq_eq_false_iff_ne]; omega
                clear hp1 hp2
                generalize z3 j = y at hcell IX hy0 hym
                have e1 : decide ((0 : Int) ≤ y) = true := decide_eq_true hy0
                have e2 : decide (y < (m : Int)) = true := decide_eq_true hym
                go_wp2_with (first
                  | (go_at_call 21; refine (IX.out wr (Below.refl _ _)).mono ?_; rintro e w' ⟨rfl, rfl⟩)
                  | fail)
                exact ⟨⟨j + 1, by simp, by omega, l, OW.out, BR.out, by have := FN.out.2; omega, by trivial, false, by trivial, .inr ⟨rfl, FN.out.1, FN.out.2⟩⟩, by simp [intOf]; omega⟩
                --]
            · --[far
              have FN := BAD.out (fun h => hym h.1.2)
              generalize z3 j = y at hcell hy0 hym
              have e1 : decide ((0 : Int) ≤ y) = true := decide_eq_true hy0
              have e2 : decide (y < (m : Int)) = false := decide_eq_false hym
              go_wp2_with fail
              exact ⟨⟨j + 1, by simp, by omega, l, OW.out, BR.out, by have := FN.out.2; omega, by trivial, false, by trivial, .inr ⟨rfl, FN.out.1, FN.out.2⟩⟩, by simp [intOf]; omega⟩
              --]
          · --[neg
            have FN := BAD.out (fun h => hy0 h.1.1)
            generalize z3 j = y at hcell hy0
            have e1 : decide ((0 : Int) ≤ y) = false := decide_eq_false hy0
            go_wp2_with fail
            exact ⟨⟨j + 1, by simp, by omega, l, OW.out, BR.out, by have := FN.out.2; omega, by trivial, false, by trivial, .inr ⟨rfl, FN.out.1, FN.out.2⟩⟩, by simp [intOf]; omega⟩
            --]
        · --[no
          have FN := Lib.hid (And.intro (fun hh : FitS z3 m (j + 1) => hnf (fit_succ.1 hh).1) (show l.length < j + 1 by omega))
          clear hnf hll
          generalize z3 j = y at hcell
          go_wp2_with fail
          exact ⟨⟨j + 1, by simp, by omega, l, OW.out, BR.out, by have := FN.out.2; omega, by trivial, false, by trivial, .inr ⟨rfl, FN.out.1, FN.out.2⟩⟩, by simp [intOf]; omega⟩
          --]
      · --[end
        have d0 : decide ((j : Int) < (q : Int)) = false := decide_eq_false (by omega)
        have HJ := Lib.hid (show j = q by omega)
        have HFF := Lib.hid hF
        clear hF
        go_wp2_with fail
        go_meet
        case rel => exact ⟨l, Lib.hid ⟨OW.out, BR.out, by have := HL.out; have := HJ.out; omega⟩, rfl, f, rfl, Lib.hid (by have h := HFF.out; rw [HJ.out] at h; exact h)⟩
        --]
    --]
  obtain ⟨l, OL, rfl, fi, rfl, HF⟩ := hcut
  obtain ⟨w5, hw5⟩ : ∃ w5, w5 = wc := ⟨wc, rfl⟩
  subst hw5
  obtain ⟨A, c, rfl⟩ := OL.out.1.form
  have NW := Lib.hid (new6 A c l k o w5 (by have := OL.out.2.2; have := HM.out; omega) OL.out.1.zs)
  go_upto_region 28 with (first | (go_at_call 22; refine NW.out.mono ?_; rintro e w6 ⟨⟨tv0, er, ln, rfl, her, hNT, hln⟩, hb6⟩; have HER := Lib.hid her; have HNT := Lib.hid hNT; have HLN := Lib.hid hln; have B46 := Lib.hid (OL.out.2.1.trans (hb6.mono OL.out.2.1.size)); have S56 := Lib.hid hb6.size; clear her hNT hln hb6) | fail)
  clear NW
  go_cut [158] from 154 to 157 (fun v wc => wc = w6 ∧ ∃ x, v = .bool x ∧ Hid (x = false → er = 0))
  case first =>
    --[drop
    cases no with
    | true =>
      go_wp2_with fail
      go_meet
      case rel => exact ⟨rfl, _, rfl, Lib.hid (fun h => absurd h (by decide))⟩
    | false =>
      by_cases h0 : er = 0
      · have d0 : (er != 0) = false := by rw [h0]; rfl
        have H0 := Lib.hid h0
        clear h0
        go_wp2_with fail
        go_meet
        case rel => exact ⟨rfl, _, rfl, Lib.hid (fun _ => H0.out)⟩
      · have d0 : (er != 0) = true := by simp; omega
        go_wp2_with fail
        go_meet
        case rel => exact ⟨rfl, _, rfl, Lib.hid (fun h => absurd h (by decide))⟩
    --]
  obtain ⟨hw, x, rfl, HX⟩ := hcut
  rw [hw]
  clear hw
  apply_assumption
  go_cut [23] from 154 to 157 (fun v23 wc => wc = w6 ∧ ∃ tv, v23 = tv ∧ Hid (NewT w5.heap.size w6 ln k o tv ∧ (tv ≠ .pointer none → l = ln.map Int.ofNat)))
  case first =>
    --[drop2
    cases x with
    | true =>
      go_wp2_with fail
      go_meet
      case rel => exact ⟨rfl, _, rfl, Lib.hid ⟨.inl rfl, fun h => absurd rfl h⟩⟩
    | false =>
      go_wp2_with fail
      go_meet
      case rel => exact ⟨rfl, _, rfl, Lib.hid ⟨HNT.out, HLN.out⟩⟩
    --]
  obtain ⟨hw, tv, rfl, HN⟩ := hcut
  rw [hw]
  clear hw HNT HLN HER
  obtain ⟨pt, rfl⟩ := HN.out.1.tup.form
  have X6 := Lib.hid ((B46.out.block fb (Array.getElem?_eq_some_iff.1 X4.out).1).trans X4.out)
  have n7 := new_val w6 (.cells #[.slice A3 q q3, .pointer pt] 54)
  have X7 := Lib.hid ((n7.block fb (Array.getElem?_eq_some_iff.1 X6.out).1).trans X6.out)
  have G7 := Lib.hid (heap_alloc_new w6 (.cells #[.slice A3 q q3, .pointer pt] 54))
  have ac : (w6.alloc (.cells #[.slice A3 q q3, .pointer pt] 54)).cell? ⟨fb, 3, none⟩ = some (.slice none 0 0) := by rw [cell_of_row _ _ _ _ _ _ X7.out]; rfl
  have af : (w6.alloc (.cells #[.slice A3 q q3, .pointer pt] 54)).frozen? ⟨fb, 3, none⟩ = false := frozen_of_row _ _ _ _ _ X7.out
  have N7 := Lib.hid n7
  clear n7
  go_upto_region 31 with fail
  clear ac af
  have F45 := Lib.hid (show fb < w5.heap.size from Nat.lt_of_lt_of_le (Array.getElem?_eq_some_iff.1 X4.out).1 OL.out.2.1.size)
  have BF := Lib.hid (show Below w3.heap.size w3 ((w6.alloc (.cells #[.slice A3 q q3, .pointer pt] 54)).setCell ⟨fb, 3, none⟩ (.slice (some ⟨w6.heap.size, 0, none⟩) 1 1)) from ((then_ (then_ N4.out B46.out) N7.out).setCell (p := ⟨fb, 3, none⟩) (by rw [HFB.out]; exact Nat.le_refl _) _))
  have BW7 := Lib.hid (show Below w.heap.size w ((w6.alloc (.cells #[.slice A3 q q3, .pointer pt] 54)).setCell ⟨fb, 3, none⟩ (.slice (some ⟨w6.heap.size, 0, none⟩) 1 1)) from ((then_ (then_ B4.out B46.out) N7.out).setCell (p := ⟨fb, 3, none⟩) FL.out _))
  have RR := Lib.hid (show RF6 ((w6.alloc (.cells #[.slice A3 q q3, .pointer pt] 54)).setCell ⟨fb, 3, none⟩ (.slice (some ⟨w6.heap.size, 0, none⟩) 1 1)) fb w6.heap.size X k A2 m q2 z2 A3 q q3 z3 (.pointer pt) from
    ⟨heap_setCell_same _ fb 3 _ _ _ X7.out, ((grown_put _ fb 3 _).block _ (Array.getElem?_eq_some_iff.1 G7.out).1 (fun e => by injection e with e; have := F45.out; have := S56.out; omega)).trans G7.out, Z2.out.below BF.out (Nat.le_refl _), Z3.out.below BF.out (Nat.le_refl _)⟩)
  have TT := Lib.hid ((HN.out.1.below N7.out).put (i := 3) (.slice (some ⟨w6.heap.size, 0, none⟩) 1 1) F45.out)
  generalize (w6.alloc (.cells #[.slice A3 q q3, .pointer pt] 54)).setCell ⟨fb, 3, none⟩ (.slice (some ⟨w6.heap.size, 0, none⟩) 1 1) = w7 at BF BW7 RR TT ⊢
  go_cut [14] from 166 to 173 (fun v14 wc => wc = w7 ∧ ∃ ok, v14 = .bool ok ∧ Hid (ok = true ↔ (b = true ∧ fi = true ∧ Value.pointer pt ≠ .pointer none)))
  case first =>
    --[okay
    cases b <;> cases fi <;> cases pt <;>
      (go_wp2_with fail
       go_meet
       case rel => exact ⟨rfl, _, rfl, Lib.hid (by simp)⟩)
    --]
  obtain ⟨hw, ok, rfl, HOK⟩ := hcut
  rw [hw]
  clear hw
  have RC := Lib.hid (fun W (hb : Below w7.heap.size w7 W) => right6 fb _ X k A2 m q2 z2 A3 q q3 z3 _ ln o l b fi ok W (RR.out.below hb) (TT.out.below hb).tup HM.out.1 HM.out.2 QC.out HXS.out HN.out.2 HF.out (by rw [← HP0.out, ← HP1.out]; exact HB.out) HOK.out)
  go_upto_region 34 with (first | (go_at_call 23; refine (RC.out w7 (Below.refl _ _)).mono ?_; rintro e w8 ⟨rfl, hb8⟩; have B8 := Lib.hid hb8; clear hb8) | fail)
  go_cut [190] from 176 to 189 (fun v wc => wc = w8 ∧ ∃ x, v = .bool x ∧ Hid (x = true ↔ ok = true ∧ ¬ (X.size ≤ 64 ∧ m ≤ 64 ∧ cntI l ≤ 4096)))
  case first =>
    --[big
    cases ok with
    | false =>
      go_wp2_with fail
      go_meet
      case rel => exact ⟨rfl, _, rfl, Lib.hid (by simp)⟩
    | true =>
      by_cases h1 : X.size ≤ 64
      · have d1 : decide ((64 : Int) < (X.size : Int)) = false := decide_eq_false (by omega)
        by_cases h2 : m ≤ 64
        · have d2 : decide ((64 : Int) < (m : Int)) = false := decide_eq_false (by omega)
          by_cases h3 : cntI l ≤ 4096
          · have HH := Lib.hid (And.intro h1 (And.intro h2 h3))
            have d3 : decide ((4096 : Int) < cntI l) = false := decide_eq_false (by omega)
            go_wp2_with fail
            go_meet
            case rel => exact ⟨rfl, _, rfl, Lib.hid ⟨fun h => absurd h (by decide), fun h => absurd HH.out h.2⟩⟩
          · have HH := Lib.hid (fun h : X.size ≤ 64 ∧ m ≤ 64 ∧ cntI l ≤ 4096 => h3 h.2.2)
            have d3 : decide ((4096 : Int) < cntI l) = true := decide_eq_true (by omega)
            go_wp2_with fail
            go_meet
            case rel => exact ⟨rfl, _, rfl, Lib.hid ⟨fun h => ⟨by trivial, HH.out⟩, fun h => rfl⟩⟩
        · have HH := Lib.hid (fun h : X.size ≤ 64 ∧ m ≤ 64 ∧ cntI l ≤ 4096 => h2 h.2.1)
          have d2 : decide ((64 : Int) < (m : Int)) = true := decide_eq_true (by omega)
          go_wp2_with fail
          go_meet
          case rel => exact ⟨rfl, _, rfl, Lib.hid ⟨fun h => ⟨by trivial, HH.out⟩, fun h => rfl⟩⟩
      · have HH := Lib.hid (fun h : X.size ≤ 64 ∧ m ≤ 64 ∧ cntI l ≤ 4096 => h1 h.1)
        have d1 : decide ((64 : Int) < (X.size : Int)) = true := decide_eq_true (by omega)
        go_wp2_with fail
        go_meet
        case rel => exact ⟨rfl, _, rfl, Lib.hid ⟨fun h => ⟨by trivial, HH.out⟩, fun h => rfl⟩⟩
    --]
  obtain ⟨hw, x5, rfl, HX5⟩ := hcut
  rw [hw]
  clear hw
  apply_assumption
  go_cut [26] from 176 to 189 (fun v26 wc => wc = w8 ∧ ∃ r : Int, v26 = .int .i64 r ∧ Hid (r = if x5 = true then 5 else 0))
  case first =>
    --[five
    cases x5 <;>
      (go_wp2_with fail
       go_meet
       case rel => exact ⟨rfl, _, rfl, Lib.hid rfl⟩)
    --]
  obtain ⟨hw, r5, rfl, HR5⟩ := hcut
  rw [hw]
  clear hw
  go_upto_region 36 with fail
  go_cut [192] from 191 to 191 (fun v wc => wc = w8 ∧ v = .bool (!ok))
  case first =>
    --[nok
    go_wp2_with fail
    go_meet
    case rel => exact ⟨rfl, rfl⟩
    --]
  obtain ⟨hw, rfl⟩ := hcut
  rw [hw]
  clear hw
  apply_assumption
  go_cut [26] from 191 to 191 (fun v26 wc => wc = w8 ∧ ∃ r : Int, v26 = .int .i64 r ∧ Hid (r = wantV ok X.size m l))
  case first =>
    --[one
    cases ok with
    | false =>
      go_wp2_with fail
      go_meet
      case rel => exact ⟨rfl, _, rfl, Lib.hid rfl⟩
    | true =>
      have hx : (if x5 = true then (5 : Int) else 0) = wantV true X.size m l := by
        have h := HX5.out
        unfold wantV
        rw [if_pos rfl]
        by_cases hc : X.size ≤ 64 ∧ m ≤ 64 ∧ cntI l ≤ 4096
        · rw [if_pos hc, if_neg (fun e => (h.1 e).2 hc)]
        · rw [if_neg hc, if_pos (h.2 ⟨rfl, hc⟩)]
      have HXW := Lib.hid hx
      clear hx
      go_wp2_with fail
      go_meet
      case rel => exact ⟨rfl, _, rfl, Lib.hid (HR5.out.trans HXW.out)⟩
    --]
  obtain ⟨hw, wv, rfl, HWV⟩ := hcut
  rw [hw]
  clear hw HX5
  have hwv := HWV.out
  rw [← hwv] at RC ⊢
  clear hwv HR5
  have CP := Lib.hid (copy6 fb _ X k A2 m q2 z2 A3 q q3 z3 ln o _ w8 (RR.out.below B8.out) (TT.out.below B8.out).tup (by have := HM.out; omega) (by have := HM.out; omega))
  go_upto_region 39 with (first | (go_at_call 24; refine CP.out.mono ?_; rintro e w9 ⟨C, Az, cz, rfl, hC, hD⟩; have HD := Lib.hid hD; clear hC hD) | fail)
  clear CP
  obtain ⟨g2, cf, tv2, hz2, hR, hst⟩ := copyD_r HD.out
  have R9 := Lib.hid hR
  have ST := Lib.hid hst
  clear hR hst HD
  go_cut [200] from 195 to 199 (fun v wc => wc = w9 ∧ ∃ x, v = .bool x ∧ Hid (x = true ↔ 0 < m))
  case first =>
    --[lens
    go_wp2_with fail
    go_meet
    case rel => exact ⟨rfl, _, rfl, Lib.hid (by simp)⟩
    --]
  obtain ⟨hw, x4, rfl, HX4⟩ := hcut
  rw [hw]
  clear hw
  apply_assumption
  go_cut [200] from 201 to 205 (fun _ wc => Hid (CopyR w8 wc C g2 cf ln k o (.pointer pt) tv2))
  case first =>
    --[nine
    cases x4 with
    | true =>
      have h0 := HX4.out.1 rfl
      obtain ⟨gz, rfl, hc, hf, hnx⟩ := ST.out h0
      have HNX := Lib.hid hnx
      have m0 : (0 : Int) < (m : Int) := by omega
      clear hnx
      go_wp2_with fail
      go_meet
      case rel => exact Lib.hid (HNX.out _)
    | false =>
      go_wp2_with fail
      go_meet
      case rel => exact R9
    --]
  have R10 := hcut
  clear hcut R9 ST hz2
  obtain ⟨w10, hw10⟩ : ∃ w10, w10 = wc := ⟨wc, rfl⟩
  subst hw10
  obtain ⟨p2, rfl⟩ := R10.out.2.2.2.form
  have k3 := R10.out.2.1
  have k1 := R10.out.2.2.1
  go_upto_region 41 with fail
  go_cut [213] from 206 to 212 (fun v wc => wc = w10 ∧ ∃ x, v = .bool x ∧ Hid (x = true ↔ p2 ≠ none))
  case first =>
    --[isnil
    cases p2 <;>
      (go_wp2_with fail
       go_meet
       case rel => exact ⟨rfl, _, rfl, Lib.hid (by simp)⟩)
    --]
  clear k3 k1
  obtain ⟨hw, x6, rfl, HX6⟩ := hcut
  rw [hw]
  clear hw
  apply_assumption
  go_cut [213] from 214 to 224 (fun _ wc => Hid (Below w8.heap.size w8 wc))
  case first =>
    --[put
    cases x6 with
    | false =>
      go_wp2_with fail
      go_meet
      case rel => exact Lib.hid R10.out.1
    | true =>
      have hne := HX6.out.1 rfl
      rcases R10.out.2.2.2 with ⟨-, e⟩ | ⟨⟨gt, hgt⟩, g', b', A', c', e, hT, hg', hb', -⟩
      · exact absurd (Value.pointer.inj e) hne
      · have e' := Value.pointer.inj e
        subst e'
        have HT10 := Lib.hid hT
        have HB' := Lib.hid hb'
        have hln := HN.out.2 (by rw [hgt]; simp)
        obtain ⟨hko, h6, h32⟩ : InK o k ∧ ln.length ≤ 6 ∧ ∀ n ∈ ln, 1 ≤ n ∧ n ≤ 32 := by
          rcases HN.out.1 with h | ⟨h1, h2, h3, -⟩
          · rw [hgt] at h; simp at h
          · exact ⟨h1, h2, h3⟩
        have hll : l.length = ln.length := by rw [hln]; simp
        have PU := Lib.hid (fun W (hb : Below w10.heap.size w10 W) => tpput_ok g' b' 0 c' l.length l.length A' (some ⟨W.heap.size, 0, none⟩) ln (List.replicate l.length 0) k o 0 _ (W.alloc (.cells (madeCells #[.int .i64 0] l.length) 3)) ((hT.below hb).below (new_val _ _)) (by simp) h6 (fun n hn => (h32 n hn).2) (ints_made W l.length) (by rw [hll]; exact inL_zero h32) ⟨hko.1, hko.2.1, Int.le_refl _, by have := hko.1; omega⟩ (by omega))
        have MI := make_i l.length (by omega)
        have H0 : Hid (HoldP7 C g2 cf (.pointer (some ⟨g', 0, none⟩)) w10) := Lib.hid ⟨R10.out.2.1, R10.out.2.2.1⟩
        have DR := Lib.hid ((Below.refl w10.heap.size w10).drew)
        clear hgt hT hg' hb' hln hko h6 h32 hll hne e
        go_upto_region 42 with fail
        go_region_held3 (fun W => HoldP7 C g2 cf (.pointer (some ⟨g', 0, none⟩)) W) (first | exact holdP7 H0.out DR.out | exact holdP7 (by assumption) (new_val _ _) | assumption)
          ((first | (go_at_call 20; refine (PU.out _ DR.out).mono ?_; rintro e w12 ⟨rfl, -, hg⟩; have hS12 : HoldP7 C g2 cf (.pointer (some ⟨g', 0, none⟩)) w12 := (by obtain ⟨D, hm, -⟩ := ((HT10.out.below DR.out).below (new_val _ _)).map; exact holdP7_grown (holdP7 (holdP7 H0.out DR.out) (new_val _ _)) hm hg); have B12 := Lib.hid ((then_ (then_ R10.out.1 DR.out) (new_val _ _)).grown hg (Nat.le_trans (then_ R10.out.1 DR.out).size (new_val _ _).size) (fun q hq => by injection hq with hq; subst hq; exact HB'.out)); clear hg)))
        all_goals
          (go_wp2_with fail
           go_meet
           case rel => exact B12)
    --]
  have B13 := hcut
  clear hcut R10 HX6
  obtain ⟨w13, hw13⟩ : ∃ w13, w13 = wc := ⟨wc, rfl⟩
  subst hw13
  have B73 := Lib.hid (then_ B8.out B13.out)
  have VN := Lib.hid (fun W => val_nil none 0 0 W)
  have EQ := Lib.hid (fun W (hb : Below w7.heap.size w7 W) => equal_zs A2 A2 m q2 q2 z2 W (by have := HM.out; omega) ((RR.out.below hb).szs) ((RR.out.below hb).szs))
  have CZ := Lib.hid (fun W => rnil W)
  have CN := Lib.hid (fun W => copy_nil W)
  have dw : (wv == wv) = true := by simp
  have FC := Lib.hid (fun W (hb : Below w7.heap.size w7 W) => (RR.out.below hb).cells.2.2.1)
  rcases TT.out.tup with hp | ⟨hko, h6, h32, gt, bt, At, ct, hp, hT7, -⟩
  · --[tnil
    have hp' := Value.pointer.inj hp
    subst hp'
    clear hp
    go_wp2_with (first
      | (go_at_call 14; refine (VN.out _).mono ?_; rintro e w' ⟨rfl, rfl⟩)
      | (go_at_call 23; with_reducible refine (RC.out _ B73.out).mono ?_; rintro e w14 ⟨rfl, hb14⟩; have B14 := Lib.hid (then_ B73.out hb14); have kf := FC.out _ B14.out; clear hb14)
      | (go_at_call 23; with_reducible refine (CZ.out _).mono ?_; rintro e w' ⟨rfl, rfl⟩)
      | (go_at_call 18; refine (EQ.out _ B14.out).mono ?_; rintro e w15 ⟨rfl, hb15⟩; have B15 := Lib.hid (then_ B14.out hb15); clear hb15)
      | (go_at_call 24; refine (CN.out _).mono ?_; rintro e w' ⟨rfl, rfl⟩)
      | fail)
    go_ret
    exact ⟨rfl, then_ BW7.out B15.out⟩
    --]
  · --[tsome
    have hp' := Value.pointer.inj hp
    subst hp'
    have TL := Lib.hid (fun W (hb : Below w7.heap.size w7 W) => tplen_six W (hT7.below hb) h6 h32)
    clear hp hko h6 h32 hT7
    go_wp2_with (first
      | (go_at_call 14; refine (VN.out _).mono ?_; rintro e w' ⟨rfl, rfl⟩)
      | (go_at_call 23; with_reducible refine (RC.out _ B73.out).mono ?_; rintro e w14 ⟨rfl, hb14⟩; have B14 := Lib.hid (then_ B73.out hb14); have kf := FC.out _ B14.out; clear hb14)
      | (go_at_call 23; with_reducible refine (CZ.out _).mono ?_; rintro e w' ⟨rfl, rfl⟩)
      | (go_at_call 18; refine (EQ.out _ B14.out).mono ?_; rintro e w15 ⟨rfl, hb15⟩; have B15 := Lib.hid (then_ B14.out hb15); clear hb15)
      | (go_at_call 25; refine (TL.out _ B15.out).mono ?_; rintro e w' ⟨rfl, rfl⟩)
      | (go_at_call 24; refine (CN.out _).mono ?_; rintro e w' ⟨rfl, rfl⟩)
      | fail)
    go_ret
    exact ⟨rfl, then_ BW7.out B15.out⟩
    --]
end Go.Proofs.YteocbgcgfllieaaGreatDoor
