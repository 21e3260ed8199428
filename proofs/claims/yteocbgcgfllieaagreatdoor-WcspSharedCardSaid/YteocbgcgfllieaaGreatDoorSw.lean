/- WcspShared: the walk (no statement of its own). -/
import Derived.Test.YteocbgcgfllieaaGreatDoorSm
import Derived.Test.YteocbgcgfllieaaGreatDoorRAW
import Derived.Test.YteocbgcgfllieaaGreatDoorLc
import Derived.Deep.CutBlock
import Derived.Deep.RegionHeld3
import Derived.Laws.Concat
namespace Go.Proofs.YteocbgcgfllieaaGreatDoor
open Go.RowKit
set_option linter.unusedVariables false
/-- A slice of numbers of 16 bits. -/
def WordsS (w : World) (A : Option Addr) (n : Nat) (z : Nat → Int) : Prop := ∀ j, j < n → ∃ p : Addr, A = some p ∧ p.block < w.heap.size ∧ w.cell? (p.add j) = some (.int .u16 (z j)) ∧ 0 ≤ z j ∧ z j ≤ 65535
theorem WordsS.below {w w' : World} {A : Option Addr} {n : Nat} {z : Nat → Int} (h : WordsS w A n z) (hb : Below w.heap.size w w') : WordsS w' A n z := fun j hj => by
  obtain ⟨p, rfl, hp, hc, h1, h2⟩ := h j hj
  exact ⟨p, rfl, Nat.lt_of_lt_of_le hp hb.size, (hb.cell (p := p.add j) (by rw [block_add]; exact hp)).trans hc, h1, h2⟩
/-- The lines that the law has laid of the first i tuples. -/
structure LOk (i : Nat) (L : List Ln3) : Prop where
  all : ∀ x ∈ L, x.1 < 2 ∧ x.2.1 < 3 ∧ x.2.2 ≤ 65535 ∧ x.1 * 3 + x.2.1 < i
  len : L.length ≤ i
  once : ((L.map lnM).map (·.1)).Pairwise (· ≠ ·)
theorem lok_nil : LOk 0 [] := ⟨fun x h => absurd h (by simp), Nat.le_refl _, List.Pairwise.nil⟩
theorem LOk.next {i : Nat} {L : List Ln3} (h : LOk i L) : LOk (i + 1) L := ⟨fun x hx => by have := h.all x hx; omega, by have := h.len; omega, h.once⟩
theorem LOk.push {i c : Nat} {L : List Ln3} (h : LOk i L) (hi : i < 6) (hc : c ≤ 65535) : LOk (i + 1) (L ++ [(i / 3, i % 3, c)]) := by
  refine ⟨fun x hx => ?_, by rw [List.length_append]; have := h.len; simp; omega, ?_⟩
  · rcases List.mem_append.1 hx with hx | hx
    · have := h.all x hx; omega
    · simp at hx
      subst hx
      simp only
      omega
  · rw [List.map_append, List.map_append, List.pairwise_append]
    refine ⟨h.once, by simp, fun p hp q hq => ?_⟩
    simp only [List.map_cons, List.map_nil, List.mem_singleton] at hq
    subst hq
    obtain ⟨y, hy, rfl⟩ := List.mem_map.1 hp
    obtain ⟨x, hx, rfl⟩ := List.mem_map.1 hy
    have h1 := h.all x hx
    intro e
    simp only [lnM, List.cons.injEq, and_true] at e
    omega
theorem LOk.sh {L : List Ln3} (h : LOk 6 L) {s0 o : Nat} (hs : s0 = 2 ∨ s0 = 0) (ho : o ≤ 1000) : ShOk L s0 o := ⟨hs, ho, fun x hx => by have := h.all x hx; omega, h.len, h.once⟩
theorem lnB_snoc (L : List Ln3) (x : Ln3) : lnB (L ++ [x]) = lnB L ++ ((((([32] ++ Lib.itoa (x.1 : Int)) ++ [32]) ++ Lib.itoa (x.2.1 : Int)) ++ [32]) ++ Lib.itoa (x.2.2 : Int)) := by
  unfold lnB
  rw [List.flatMap_append, txS_app]
  simp [txS, lnW]
theorem lnB_len {i : Nat} : ∀ {L : List Ln3}, LOk i L → (lnB L).length ≤ L.length * 66
  | [], _ => by simp [lnB]
  | x :: L, h => by
    have h1 : (lnB L).length ≤ L.length * 66 := by
      have key : ∀ (M : List Ln3), (∀ x ∈ M, x.1 < 2 ∧ x.2.1 < 3 ∧ x.2.2 ≤ 65535) → (lnB M).length ≤ M.length * 66 := by
        intro M
        induction M with
        | nil => intro _; simp [lnB]
        | cons y M ih =>
          intro hM
          have h2 := ih (fun z hz => hM z (List.mem_cons_of_mem _ hz))
          have h3 := hM y (List.mem_cons_self ..)
          have l1 := dg_len (y.1 : Int) (by omega) (by omega)
          have l2 := dg_len (y.2.1 : Int) (by omega) (by omega)
          have l3 := dg_len (y.2.2 : Int) (by omega) (by omega)
          have e : lnB (y :: M) = txS (lnW y) ++ lnB M := by unfold lnB; rw [List.flatMap_cons, txS_app]
          rw [e, List.length_append]
          have e2 : (txS (lnW y)).length = (Lib.itoa (y.1 : Int)).length + (Lib.itoa (y.2.1 : Int)).length + (Lib.itoa (y.2.2 : Int)).length + 3 := by
            simp [txS, lnW, dgs]
            omega
          rw [e2, List.length_cons]
          omega
      exact key L (fun z hz => by have := h.all z (List.mem_cons_of_mem _ hz); omega)
    have h3 := h.all x (List.mem_cons_self ..)
    have l1 := dg_len (x.1 : Int) (by omega) (by omega)
    have l2 := dg_len (x.2.1 : Int) (by omega) (by omega)
    have l3 := dg_len (x.2.2 : Int) (by omega) (by omega)
    have e : lnB (x :: L) = txS (lnW x) ++ lnB L := by unfold lnB; rw [List.flatMap_cons, txS_app]
    have e2 : (txS (lnW x)).length = (Lib.itoa (x.1 : Int)).length + (Lib.itoa (x.2.1 : Int)).length + (Lib.itoa (x.2.2 : Int)).length + 3 := by
      simp [txS, lnW, dgs]
      omega
    rw [e, List.length_append, e2, List.length_cons]
    omega
theorem all23 : allL [2, 3] = [[0, 0], [0, 1], [0, 2], [1, 0], [1, 1], [1, 2]] := by rfl
theorem row23 (j : Nat) (hj : j < 6) : nthT (allL [2, 3]) j = [j / 3, j % 3] := by
  rw [all23]
  rcases (by omega : j = 0 ∨ j = 1 ∨ j = 2 ∨ j = 3 ∨ j = 4 ∨ j = 5) with rfl | rfl | rfl | rfl | rfl | rfl <;> rfl
theorem conv_str (X : ByteArray) (w : World) : ∃ A cap W', (convert 9 22 (.string X)).run Tryz.prog w = .ok (.slice A X.size cap) W' ∧ Below w.heap.size w W' ∧ BS W' A X :=
  ⟨_, _, _, Lib.run_convert_string_bytes (P := Tryz.prog) w 9 22 5 X Tryz.underlying9 Tryz.underlying22 Tryz.underlying5,
    ⟨rfl, rfl, rfl, by rw [Lib.bytesWorld_size]; omega, fun j hj => Lib.bytesWorld_at_old w 5 X j hj⟩, .inr ⟨_, 0, rfl, by rw [Lib.bytesWorld_size]; omega, fun i hi => by
      rw [Nat.zero_add, Lib.bytesWorld_cell w 5 X i hi]
      simp [ByteArray.getElem_eq_getElem_data, List.getD_eq_getElem?_getD, hi]⟩⟩
theorem read_sh {l : List UInt8} {L : List Ln3} {s0 o : Nat} {st : RdS} (hl : l.length ≤ 6000) (hf : fileM l (-4611686018427387904) = .ok (shF L s0 o) st) (hb : st.big = none) (A : Option Addr) (c : Nat) (w : World) (h : BS w A ⟨l.toArray⟩) (hG : GlobR w) (hT : TabP w) :
    Calls Tryz.prog 11 #[.slice A l.length c] w fun e w' => (∃ fb X cs As cf gf A0 c0 g0 m0 B0 d0 N0 A1 c1 g1 m1 B1 d1 N1, e = .returned (.tuple #[.pointer (some ⟨fb, 0, none⟩), .int .i64 (l.length : Int), .int .i64 0]) ∧ Two2 w' fb X 1000 [2, 3, 2, 3] ⟨[0, 1], 0, L.map lnM⟩ ⟨[s0, 3], (o : Int), L.map lnM⟩ cs As cf gf A0 c0 g0 m0 B0 d0 N0 A1 c1 g1 m1 B1 d1 N1 ∧ w.heap.size ≤ m0 ∧ w.heap.size ≤ m1) ∧ Below w.heap.size w w' := by
  have hs : (⟨l.toArray⟩ : ByteArray).size = l.length := by simp [ByteArray.size]
  have hd : (⟨l.toArray⟩ : ByteArray).data.toList = l := by simp
  have := read_two (s := ⟨l.toArray⟩) (A := A) (c := c) (w := w) (by rw [hs]; omega) h hG hT (by rw [hd]; exact hf) hb
  rw [hs] at this
  refine this.mono ?_
  rintro e w' ⟨⟨fb, cs, As, cf, gf, A0, c0, g0, m0, B0, d0, N0, A1, c1, g1, m1, B1, d1, N1, h1, h2⟩, hb'⟩
  exact ⟨⟨fb, _, cs, As, cf, gf, A0, c0, g0, m0, B0, d0, N0, A1, c1, g1, m1, B1, d1, N1, h1, h2⟩, hb'⟩
theorem scB_len (s0 : Nat) : (scB s0).length = 3 := by unfold scB; split <;> rfl
abbrev HoldW (wb : World) (fa fb ga gb i : Nat) (va vb a0 a1 b0 b1 : Value) (W : World) : Prop :=
  W.cell? ⟨fa, 3, none⟩ = some va ∧ W.cell? ⟨fb, 3, none⟩ = some vb ∧ W.cell? ⟨ga, i, none⟩ = some a0 ∧ W.cell? ⟨ga, i + 1, none⟩ = some a1 ∧ W.cell? ⟨gb, i, none⟩ = some b0 ∧ W.cell? ⟨gb, i + 1, none⟩ = some b1 ∧ Below wb.heap.size wb W
theorem holdW {wb W W' : World} {fa fb ga gb i : Nat} {va vb a0 a1 b0 b1 : Value} (H : HoldW wb fa fb ga gb i va vb a0 a1 b0 b1 W) (hb : Below W.heap.size W W') : HoldW wb fa fb ga gb i va vb a0 a1 b0 b1 W' := by
  obtain ⟨h1, h2, h3, h4, h5, h6, h9⟩ := H
  have K : ∀ b i v, W.cell? ⟨b, i, none⟩ = some v → W'.cell? ⟨b, i, none⟩ = some v := fun b i v h => (hb.cell (p := ⟨b, i, none⟩) (World.block_lt_of_cell? W _ h)).trans h
  exact ⟨K _ _ _ h1, K _ _ _ h2, K _ _ _ h3, K _ _ _ h4, K _ _ _ h5, K _ _ _ h6, h9.trans (hb.mono h9.size)⟩
theorem HoldW.below {wb W : World} {fa fb ga gb i : Nat} {va vb a0 a1 b0 b1 : Value} (H : HoldW wb fa fb ga gb i va vb a0 a1 b0 b1 W) : Below wb.heap.size wb W := H.2.2.2.2.2.2
theorem read_frm {l : List UInt8} {p : Nat} (hl : l.length ≤ 6000) (hf : fileM l (-4611686018427387904) = .bad 4 p) (A : Option Addr) (c : Nat) (w : World) (h : BS w A ⟨l.toArray⟩) (hG : GlobR w) (hT : TabP w) :
    Calls Tryz.prog 11 #[.slice A l.length c] w fun e' w' => e' = .returned (.tuple #[.pointer none, .int .i64 (p : Int), .int .i64 4]) ∧ Below w.heap.size w w' := by
  have hs : (⟨l.toArray⟩ : ByteArray).size = l.length := by simp [ByteArray.size]
  have hd : (⟨l.toArray⟩ : ByteArray).data.toList = l := by simp
  have := readR_bad (s := ⟨l.toArray⟩) (A := A) (c := c) (w := w) (by rw [hs]; omega) h hG hT (e := 4) (p := p) (by rw [hd]; exact hf)
  rw [hs] at this
  exact this
abbrev HoldL (wb : World) (gt ot : Nat) (x y : Int) (p : Addr) (z : Int) (W : World) : Prop :=
  W.cell? ⟨gt, ot, none⟩ = some (.int .i64 x) ∧ W.cell? ⟨gt, ot + 1, none⟩ = some (.int .i64 y) ∧ W.cell? p = some (.int .u16 z) ∧ Below wb.heap.size wb W
theorem holdL {wb W W' : World} {gt ot : Nat} {x y z : Int} {p : Addr} (H : HoldL wb gt ot x y p z W) (hb : Below W.heap.size W W') : HoldL wb gt ot x y p z W' := by
  obtain ⟨a0, a1, a2, h9⟩ := H
  exact ⟨(hb.cell (p := ⟨gt, ot, none⟩) (World.block_lt_of_cell? W _ a0)).trans a0, (hb.cell (p := ⟨gt, ot + 1, none⟩) (World.block_lt_of_cell? W _ a1)).trans a1, (hb.cell (p := p) (World.block_lt_of_cell? W _ a2)).trans a2, h9.trans (hb.mono h9.size)⟩
set_option maxRecDepth 100000 in
set_option maxHeartbeats 8000000 in
theorem shared_walk (a0 : Option Addr) (n0 c0 : Nat) (z0 : Nat → Int) (other : Nat) (flip : Bool) (w : World) (hG : GlobR w) (hT : TabP w) (hm0 : (n0 : Int) ≤ 9223372036854775807) (hz0 : WordsS w a0 n0 z0) (ho : other ≤ 255) :
    Calls Tryz.prog 5 #[.slice a0 n0 c0, .int .u8 (other : Int), .bool flip] w fun e w' => e = .returned (.bool true) ∧ Below w.heap.size w w' := by
  have AW := Lib.hid (awake7_ok w hG hT)
  have GB := Lib.hid (fun W (hb : Below w.heap.size w W) => And.intro (hG.below hb) (tab_below hT hb))
  have HZ := Lib.hid hz0
  clear hG hT hz0
  go_enter Tryz.func5, Tryz.ntmps5
  go_upto_region 4 with (first
    | (go_at_call 9; refine AW.out.mono ?_; rintro e w1 ⟨rfl, hb1⟩; have B1 := Lib.hid hb1; clear hb1)
    | fail)
  have I23 := ints_two w1 2 3
  have RA := Lib.hid (rall_any [2, 3] (some ⟨w1.heap.size, 0, none⟩) 2 _ (by decide) (by decide) (by decide) (by decide) I23)
  have n2 := new_val w1 (.cells #[.int .i64 2, .int .i64 3] 3)
  have B2 := Lib.hid (then_ B1.out n2)
  clear I23 n2
  go_upto_block 0 with (first
    | (go_at_call 17; refine RA.out.mono ?_; rintro e w3 ⟨⟨v3, rfl, h3⟩, hb3⟩; have B3 := Lib.hid (then_ B2.out hb3); obtain ⟨A3, c3, rfl, hf3⟩ := h3.form; have R3 := Lib.hid hf3; clear h3 hb3 hf3)
    | fail)
  clear RA AW B1 B2
  rw [show (allL [2, 3]).length = 6 from rfl] at R3 ⊢
  have HZ3 := Lib.hid (HZ.out.below B3.out)
  go_cut [7, 8, 9, 10, 34] from 35 to 73 (fun v7 v8 _ _ _ wc => Hid (∃ L, v7 = .string ⟨(lnB L).toArray⟩ ∧ v8 = .int .i64 (L.length : Int) ∧ LOk 6 L ∧ Below w.heap.size w wc))
  case first =>
    --[lines
    go_wp2_with fail
    go_loopw [7, 8, 9, 10, 34] (fun v7 v8 _ _ i wr => ∃ (j : Nat) (L : List Ln3), i = .int .i64 (j : Int) ∧ j ≤ 6 ∧ v7 = .string ⟨(lnB L).toArray⟩ ∧ v8 = .int .i64 (L.length : Int) ∧ LOk j L ∧ Below w3.heap.size w3 wr) (fun _ _ _ _ i _ => 6 - (intOf i).toNat)
    case atStart => exact ⟨0, [], rfl, Nat.zero_le _, rfl, rfl, lok_nil, Below.refl _ _⟩
    case round =>
      obtain ⟨j, L, rfl, hj, rfl, rfl, hL, hB⟩ := hrel
      have HL := Lib.hid hL
      have HB := Lib.hid hB
      clear hL hB
      by_cases hlt : j < 6
      · have d1 : decide ((j : Int) < 6) = true := decide_eq_true (by omega)
        obtain ⟨g, x, rfl, hg, hx, hO⟩ := R3.out j hlt
        rw [row23 j hlt] at hO
        obtain ⟨At, ct, rfl, hI⟩ := hO.form
        have cx : wr.cell? ⟨g, j, none⟩ = some (.slice At 2 ct) := (HB.out.cell (p := ⟨g, j, none⟩) hg).trans hx
        obtain ⟨gt, ot, rfl, t0⟩ := (hI.below HB.out (Nat.le_refl _)).at_ (i := 0) (show 0 < 2 by decide)
        have t1 : wr.cell? ⟨gt, ot + 1, none⟩ = some (.int .i64 ((j % 3 : Nat) : Int)) := by
          obtain ⟨gt', ot', e, h⟩ := (hI.below HB.out (Nat.le_refl _)).at_ (i := 1) (show 1 < 2 by decide)
          injection e with e
          injection e with e1 e2
          subst e1 e2
          exact h
        have t0' : wr.cell? ⟨gt, ot, none⟩ = some (.int .i64 ((j / 3 : Nat) : Int)) := t0
        clear hO hI hx t0 hg
        have HLT := Lib.hid hlt
        have j2 : (0 : Int) ≤ (j : Int) := by omega
        have j3 : (j : Int) ≤ 6 := by omega
        obtain ⟨jq, hjq⟩ : ∃ q, j / 3 = q := ⟨_, rfl⟩
        obtain ⟨jr, hjr⟩ : ∃ q, j % 3 = q := ⟨_, rfl⟩
        rw [hjq] at t0'
        rw [hjr] at t1
        have JQ := Lib.hid (And.intro hjq hjr)
        have jq6 : jq ≤ 6 := by omega
        have jr6 : jr ≤ 6 := by omega
        clear hjq hjr
        have SKIP : Hid (LOk (j + 1) L) := Lib.hid HL.out.next
        have BWR := Lib.hid (B3.out.trans (HB.out.mono B3.out.size))
        by_cases hn : j < n0
        · have d2 : decide ((j : Int) < (n0 : Int)) = true := decide_eq_true (by omega)
          obtain ⟨p, rfl, hp, hc1, y1, y2⟩ := (HZ.out.below BWR.out) j hn
          obtain ⟨cc, hcc⟩ : ∃ cc : Nat, z0 j = (cc : Int) := ⟨(z0 j).toNat, by omega⟩
          rw [hcc] at hc1 y2
          have hn9 : (j : Int) < (n0 : Int) := by omega
          clear hcc y1 hp hn
          obtain ⟨r, hr, ht⟩ : ∃ r : Nat, r < 3 ∧ (cc : Int).tmod 3 = (r : Int) := ⟨cc % 3, Nat.mod_lt _ (by decide), by rw [Int.tmod_eq_emod_of_nonneg (by omega)]; omega⟩
          by_cases hr0 : r = 0
          · subst hr0
            go_wp2_with fail
            go_roundw
            case rel => exact ⟨j + 1, L, by go_num, by omega, rfl, rfl, SKIP.out, HB.out⟩
            case measure => simp [intOf]; omega
          · --[put
            have d3 : decide ((0 : Int) < (r : Int)) = true := decide_eq_true (by omega)
            have hr1 : 0 < r := by omega
            have hr2 : (0 : Int) < (r : Int) := by omega
            have D1 := Lib.hid (fun W => dec7_any (jq : Int) W (by omega) (by omega))
            have D2 := Lib.hid (fun W => dec7_any (jr : Int) W (by omega) (by omega))
            have D3 := Lib.hid (fun W => dec7_any (cc : Int) W (by omega) (by omega))
            have c9 : IntKind.i64.wrap (cc : Int) = (cc : Int) := IntWalk.i64_in _ (by omega)
            have q1 := dg_len (jq : Int) (by omega) (by omega)
            have q2 := dg_len (jr : Int) (by omega) (by omega)
            have q3 := dg_len (cc : Int) (by omega) (by omega)
            have q4 := lnB_len HL.out
            have q5 := HL.out.len
            obtain ⟨l1, e1, s1⟩ := addS' [32] (Lib.itoa (jq : Int)) (by simp only [List.length_singleton]; omega)
            have z1 : l1.length = (Lib.itoa (jq : Int)).length + 1 := by rw [← e1]; simp
            obtain ⟨l2, e2, s2⟩ := addS' l1 [32] (by simp only [List.length_singleton]; omega)
            have z2 : l2.length = l1.length + 1 := by rw [← e2]; simp
            obtain ⟨l3, e3, s3⟩ := addS' l2 (Lib.itoa (jr : Int)) (by omega)
            have z3 : l3.length = l2.length + (Lib.itoa (jr : Int)).length := by rw [← e3]; simp
            obtain ⟨l4, e4, s4⟩ := addS' l3 [32] (by simp only [List.length_singleton]; omega)
            have z4 : l4.length = l3.length + 1 := by rw [← e4]; simp
            obtain ⟨l5, e5, s5⟩ := addS' l4 (Lib.itoa (cc : Int)) (by omega)
            have z5 : l5.length = l4.length + (Lib.itoa (cc : Int)).length := by rw [← e5]; simp
            obtain ⟨l6, e6, s6⟩ := addS' (lnB L) l5 (by omega)
            have E6 : Hid (l6 = lnB (L ++ [(jq, jr, cc)])) := Lib.hid (by rw [lnB_snoc, e1, e2, e3, e4, e5, e6])
            have PU : Hid (LOk (j + 1) (L ++ [(jq, jr, cc)])) := Lib.hid (by rw [← JQ.out.1, ← JQ.out.2]; exact HL.out.push hlt (by omega))
            have L6 : Hid (L.length ≤ 6) := Lib.hid (by omega)
            have H0 : Hid (HoldL wr gt ot (jq : Int) (jr : Int) (p.add j) (cc : Int) wr) := Lib.hid ⟨t0', t1, hc1, Below.refl _ _⟩
            clear e1 e2 e3 e4 e5 e6 z1 z2 z3 z4 z5 q1 q2 q3 q4 q5 hr
            have hl6 : (L.length : Int) ≤ 6 := by have := L6.out; omega
            go_upto_region 8 with fail
            clear t0' t1 hc1 cx
            go_cut [7] from 51 to 71 (fun v7 wx => v7 = .string ⟨l6.toArray⟩ ∧ Hid (Below wr.heap.size wr wx))
            case first =>
              go_region_held3 (fun W => HoldL wr gt ot (jq : Int) (jr : Int) (p.add j) (cc : Int) W) (first | exact holdL H0.out ((Below.refl _ _).drew) | exact holdL (by assumption) (by assumption) | assumption)
                ((first | (go_at_call 16; with_reducible refine (D1.out _).mono ?_; rintro e w' ⟨rfl, rfl⟩)
                        | (go_at_call 16; with_reducible refine (D2.out _).mono ?_; rintro e w' ⟨rfl, rfl⟩)
                        | (go_at_call 16; with_reducible refine (D3.out _).mono ?_; rintro e w' ⟨rfl, rfl⟩)))
              have BE := Lib.hid (show Below wr.heap.size wr _ from (by assumption : HoldL wr gt ot (jq : Int) (jr : Int) (p.add j) (cc : Int) _).2.2.2)
              go_wp2_with fail
              go_meet
              case rel => exact ⟨rfl, BE⟩
            obtain ⟨rfl, BX⟩ := hcut
            have BX2 := Lib.hid (HB.out.trans (BX.out.mono HB.out.size))
            go_wp2_with fail
            go_roundw
            case rel => exact ⟨j + 1, L ++ [(jq, jr, cc)], by go_num, by omega, by rw [E6.out], by simp, PU.out, BX2.out⟩
            case measure => simp [intOf]; omega
            --]
        · have d2 : decide ((j : Int) < (n0 : Int)) = false := decide_eq_false (by omega)
          have hn9 : ¬ (j : Int) < (n0 : Int) := by omega
          go_wp2_with fail
          go_roundw
          case rel => exact ⟨j + 1, L, by go_num, by omega, rfl, rfl, SKIP.out, HB.out⟩
          case measure => simp [intOf]; omega
      · have d1 : decide ((j : Int) < 6) = false := decide_eq_false (by omega)
        have HL6 : Hid (LOk 6 L) := Lib.hid (by have h := HL.out; rwa [show j = 6 by omega] at h)
        go_wp2_with fail
        go_meet
        case rel => exact Lib.hid ⟨L, rfl, rfl, HL6.out, B3.out.trans (HB.out.mono B3.out.size)⟩
    --]
  obtain ⟨L, rfl, rfl, hL, hB4⟩ := hcut.out
  have HL := Lib.hid hL
  have B4 := Lib.hid hB4
  clear hcut hL hB4 R3 HZ3
  obtain ⟨w4, hw4⟩ : ∃ w4, w4 = wc := ⟨wc, rfl⟩
  subst hw4
  have DO := Lib.hid (fun W => dec7_any (other : Int) W (by omega) (by omega))
  have c9 : IntKind.i64.wrap (other : Int) = (other : Int) := IntWalk.i64_in _ (by omega)
  go_upto_if 78 with (first
    | (go_at_call 16; refine (DO.out _).mono ?_; rintro e w' ⟨rfl, rfl⟩)
    | fail)
  go_cut [13] from 78 to 78 (fun v13 wx => wx = w4 ∧ Hid (∃ s0, (s0 = 2 ∨ s0 = 0) ∧ v13 = .string ⟨(scB s0).toArray⟩))
  case first =>
    --[flip
    cases flip with
    | false =>
      go_wp2_with fail
      go_meet
      case rel => exact ⟨rfl, Lib.hid ⟨2, .inl rfl, rfl⟩⟩
    | true =>
      go_wp2_with fail
      go_meet
      case rel => exact ⟨rfl, Lib.hid ⟨0, .inr rfl, rfl⟩⟩
    --]
  obtain ⟨hwc, hsc⟩ := hcut
  rw [hwc]
  obtain ⟨s0, hs0, rfl⟩ := hsc.out
  have S0 := Lib.hid hs0
  clear hwc hsc hs0
  have SH := Lib.hid (HL.out.sh S0.out (o := other) (by omega))
  have TA := Lib.hid (textA_eq (L := L) (o := other) S0.out)
  have TB := Lib.hid (textB_eq (L := L) (o := other) S0.out)
  have DN := Lib.hid (fun W => dec7_any (L.length : Int) W (by omega) (by have := HL.out.len; omega))
  have q1 := dg_len (L.length : Int) (by omega) (by have := HL.out.len; omega)
  have q2 := dg_len (other : Int) (by omega) (by omega)
  have q3 : (lnB L).length ≤ 396 := by have := lnB_len HL.out; have := HL.out.len; omega
  have q4 := scB_len s0
  obtain ⟨n, hn⟩ : ∃ n, L.length = n := ⟨_, rfl⟩
  obtain ⟨dn, hdn⟩ : ∃ dn, Lib.itoa (L.length : Int) = dn := ⟨_, rfl⟩
  obtain ⟨dO, hdO⟩ : ∃ dO, Lib.itoa (other : Int) = dO := ⟨_, rfl⟩
  obtain ⟨ln, hln⟩ : ∃ ln, lnB L = ln := ⟨_, rfl⟩
  obtain ⟨sc, hsc⟩ : ∃ sc, scB s0 = sc := ⟨_, rfl⟩
  rw [hdn, hdO, hln, hsc] at TA TB
  rw [hdn] at DN q1
  rw [hdO] at q2
  rw [hln] at q3
  rw [hsc] at q4
  rw [hdO, hln, hsc]
  rw [hn] at DN ⊢
  have HN := Lib.hid hn
  clear hdn hdO hln hsc hn c9 DO
  obtain ⟨h1, f1, r1⟩ := addS' ([115, 32, 52, 32, 51, 32, 50, 32, 49, 48, 48, 48, 32, 50, 32, 51, 32, 50, 32, 51, 32] : List UInt8) [45, 50, 32, 48, 32, 49, 32, 48, 32] (by decide)
  have u1 : h1.length = 30 := by rw [← f1]; rfl
  obtain ⟨h2, f2, r2⟩ := addS' h1 dn (by omega)
  have u2 : h2.length = h1.length + dn.length := by rw [← f2]; simp
  obtain ⟨h3, f3, r3⟩ := addS' h2 ln (by omega)
  have u3 : h3.length = h2.length + ln.length := by rw [← f3]; simp
  obtain ⟨h4, f4, r4⟩ := addS' h3 [32, 50, 32] (by simp only [List.length_cons, List.length_nil]; omega)
  have u4 : h4.length = h3.length + 3 := by rw [← f4]; simp
  obtain ⟨h5, f5, r5⟩ := addS' h4 sc (by omega)
  have u5 : h5.length = h4.length + sc.length := by rw [← f5]; simp
  obtain ⟨h6, f6, r6⟩ := addS' h5 [32] (by simp only [List.length_cons, List.length_nil]; omega)
  have u6 : h6.length = h5.length + 1 := by rw [← f6]; simp
  obtain ⟨h7, f7, r7⟩ := addS' h6 dO (by omega)
  have u7 : h7.length = h6.length + dO.length := by rw [← f7]; simp
  obtain ⟨ta, f8, r8⟩ := addS' h7 [32, 45, 49] (by simp only [List.length_cons, List.length_nil]; omega)
  have u8 : ta.length = h7.length + 3 := by rw [← f8]; simp
  have EA : Hid (textS (headW ++ shWa L s0 other) = ta ∧ ta.length ≤ 6000) := Lib.hid ⟨by rw [TA.out]; show (((((((([115, 32, 52, 32, 51, 32, 50, 32, 49, 48, 48, 48, 32, 50, 32, 51, 32, 50, 32, 51, 32] : List UInt8) ++ [45, 50, 32, 48, 32, 49, 32, 48, 32]) ++ dn) ++ ln) ++ [32, 50, 32]) ++ sc) ++ [32]) ++ dO) ++ [32, 45, 49] = ta; rw [f1, f2, f3, f4, f5, f6, f7, f8], by omega⟩
  go_upto_region 17 with (first
    | (go_at_call 16; refine (DN.out _).mono ?_; rintro e w' ⟨rfl, rfl⟩)
    | fail)
  clear r1 r2 r3 r4 r5 r6 r7 r8 f1 f2 f3 f4 f5 f6 f7 f8 u1 u2 u3 u4 u5 u6 u7 u8 TA
  obtain ⟨k1, f1, r1⟩ := addS' ([115, 32, 52, 32, 51, 32, 50, 32, 49, 48, 48, 48, 32, 50, 32, 51, 32, 50, 32, 51, 32] : List UInt8) [50, 32, 48, 32, 49, 32, 48, 32] (by decide)
  have u1 : k1.length = 29 := by rw [← f1]; rfl
  obtain ⟨k2, f2, r2⟩ := addS' k1 dn (by omega)
  have u2 : k2.length = k1.length + dn.length := by rw [← f2]; simp
  obtain ⟨k3, f3, r3⟩ := addS' k2 ln (by omega)
  have u3 : k3.length = k2.length + ln.length := by rw [← f3]; simp
  obtain ⟨k4, f4, r4⟩ := addS' k3 [32, 50, 32] (by simp only [List.length_cons, List.length_nil]; omega)
  have u4 : k4.length = k3.length + 3 := by rw [← f4]; simp
  obtain ⟨k5, f5, r5⟩ := addS' k4 sc (by omega)
  have u5 : k5.length = k4.length + sc.length := by rw [← f5]; simp
  obtain ⟨k6, f6, r6⟩ := addS' k5 [32] (by simp only [List.length_cons, List.length_nil]; omega)
  have u6 : k6.length = k5.length + 1 := by rw [← f6]; simp
  obtain ⟨k7, f7, r7⟩ := addS' k6 dO (by omega)
  have u7 : k7.length = k6.length + dO.length := by rw [← f7]; simp
  obtain ⟨k8, f8, r8⟩ := addS' k7 [32] (by simp only [List.length_cons, List.length_nil]; omega)
  have u8 : k8.length = k7.length + 1 := by rw [← f8]; simp
  obtain ⟨k9, f9, r9⟩ := addS' k8 dn (by omega)
  have u9 : k9.length = k8.length + dn.length := by rw [← f9]; simp
  obtain ⟨tb, f10, r10⟩ := addS' k9 ln (by omega)
  have u10 : tb.length = k9.length + ln.length := by rw [← f10]; simp
  have EB : Hid (textS (headW ++ shWb L s0 other) = tb ∧ tb.length ≤ 6000) := Lib.hid ⟨by rw [TB.out]; show (((((((((([115, 32, 52, 32, 51, 32, 50, 32, 49, 48, 48, 48, 32, 50, 32, 51, 32, 50, 32, 51, 32] : List UInt8) ++ [50, 32, 48, 32, 49, 32, 48, 32]) ++ dn) ++ ln) ++ [32, 50, 32]) ++ sc) ++ [32]) ++ dO) ++ [32]) ++ dn) ++ ln = tb; rw [f1, f2, f3, f4, f5, f6, f7, f8, f9, f10], by omega⟩
  go_upto_region 18 with (first
    | (go_at_call 16; refine (DN.out _).mono ?_; rintro e w' ⟨rfl, rfl⟩)
    | fail)
  clear r1 r2 r3 r4 r5 r6 r7 r8 r9 r10 f1 f2 f3 f4 f5 f6 f7 f8 f9 f10 u1 u2 u3 u4 u5 u6 u7 u8 u9 u10 TB DN q1 q2 q3 q4
  obtain ⟨Aa, ca, wa, cva, nba, bsa⟩ := conv_str ⟨ta.toArray⟩ w4
  have Ba := Lib.hid (then_ B4.out nba)
  have za : (⟨ta.toArray⟩ : ByteArray).size = ta.length := by show ta.toArray.size = _; rw [List.size_toArray]
  obtain ⟨sta, ea1, ea2⟩ := sharedA SH.out
  have RDA := Lib.hid (read_sh EA.out.2 (EA.out.1 ▸ ea1) ea2 Aa ca wa bsa (GB.out _ Ba.out).1 (GB.out _ Ba.out).2)
  rw [za] at cva
  clear nba bsa za ea1 ea2
  go_upto_region 19 with (first
    | (go_at_call 11; refine RDA.out.mono ?_; rintro e w5 ⟨⟨fa, Xa, csa, Asa, cfa, ga, P0, p0, x0, y0, Q0, q0, M0, P1, p1, x1, y1, Q1, q1, M1, rfl, ht, hla, -⟩, hb⟩; have B5 := Lib.hid (then_ Ba.out hb); have TA := Lib.hid ht; have YLO := Lib.hid (Nat.le_trans Ba.out.size hla); have YLT := Lib.hid (And.intro ht.e0.tp.lt ht.e1.tp.lt); clear hb ht hla)
    | fail)
  clear cva RDA
  obtain ⟨Ab, cb, wb, cvb, nbb, bsb⟩ := conv_str ⟨tb.toArray⟩ w5
  have Bb := Lib.hid (then_ B5.out nbb)
  have TAb := Lib.hid (TA.out.below nbb)
  have WBS := Lib.hid nbb.size
  have zb : (⟨tb.toArray⟩ : ByteArray).size = tb.length := by show tb.toArray.size = _; rw [List.size_toArray]
  obtain ⟨stb, eb1, eb2⟩ := sharedB SH.out
  have RDB := Lib.hid (read_sh EB.out.2 (EB.out.1 ▸ eb1) eb2 Ab cb wb bsb (GB.out _ Bb.out).1 (GB.out _ Bb.out).2)
  rw [zb] at cvb
  clear nbb bsb zb eb1 eb2 TA
  go_upto_region 20 with (first
    | (go_at_call 11; refine RDB.out.mono ?_; rintro e w6 ⟨⟨fb, Xb, csb, Asb, cfb, gb, R0, r0, v0, z0', S0', s0', N0, R1, r1, v1, z1, S1, s1, N1, rfl, ht, hlo0, hlo1⟩, hb⟩; have LO := Lib.hid (And.intro hlo0 hlo1); clear hlo0 hlo1; have B6 := Lib.hid (then_ Bb.out hb); have TA := Lib.hid (TAb.out.below hb); have TB := Lib.hid ht; clear hb ht)
    | fail)
  clear cvb RDB TAb
  have ka := TA.out.cell3
  go_upto_block 2 with fail
  clear ka
  --[rest
  go_cut [22, 145] from 146 to 185 (fun _ _ wx => Hid (Below w6.heap.size w6 wx))
  case first =>
    --[pairs
    go_wp2_with fail
    go_loopw [22, 145] (fun _ i wr => ∃ j : Nat, i = .int .i64 (j : Int) ∧ j ≤ 2 ∧ Below w6.heap.size w6 wr) (fun _ i _ => 2 - (intOf i).toNat)
    case atStart => exact ⟨0, rfl, Nat.zero_le _, Below.refl _ _⟩
    case round =>
      obtain ⟨j, rfl, hj, hB⟩ := hrel
      have HB := Lib.hid hB
      clear hB
      by_cases hlt : j < 2
      · have d1 : decide ((j : Int) < 2) = true := decide_eq_true (by omega)
        have hk : ∃ (f : FunM) (As : Option Addr) (c g m : Nat) (B : Option Addr) (d N : Nat) (As' : Option Addr) (c' g' m' : Nat) (B' : Option Addr) (d' N' : Nat), FuE w6 1000 [2, 3, 2, 3] f ga j As c g m B d N ∧ FuE w6 1000 [2, 3, 2, 3] f gb j As' c' g' m' B' d' N' ∧ pickN [2, 3, 2, 3] f.scope = [2, 3] ∧ f.scope.length = 2 := by
          rcases (by omega : j = 0 ∨ j = 1) with rfl | rfl
          · exact ⟨_, _, _, _, _, _, _, _, _, _, _, _, _, _, _, TA.out.e0, TB.out.e0, rfl, rfl⟩
          · exact ⟨_, _, _, _, _, _, _, _, _, _, _, _, _, _, _, TA.out.e1, TB.out.e1, by rcases S0.out with h | h <;> rw [h] <;> rfl, rfl⟩
        obtain ⟨f, As, c, g, m, B, d, N, As', c', g', m', B', d', N', hea, heb, hpk, hln⟩ := hk
        have EA9 := Lib.hid (hea.below HB.out)
        have EB9 := Lib.hid (heb.below HB.out)
        have H0 : Hid (HoldW wr fa fb ga gb (j * 2) (.slice (some ⟨ga, 0, none⟩) 2 cfa) (.slice (some ⟨gb, 0, none⟩) 2 cfb) (.slice As f.scope.length c) (.pointer (some ⟨g, 0, none⟩)) (.slice As' f.scope.length c') (.pointer (some ⟨g', 0, none⟩)) wr) := Lib.hid ⟨(TA.out.below HB.out).cell3, (TB.out.below HB.out).cell3, EA9.out.k0, EA9.out.k1, EB9.out.k0, EB9.out.k1, Below.refl _ _⟩
        have EQ := Lib.hid (fun W (hb : Below wr.heap.size wr W) => equal_yes As As' f.scope.length c c' f.scope W rfl (by omega) (EA9.out.sc.below hb (Nat.le_refl _)) (EB9.out.sc.below hb (Nat.le_refl _)))
        have SM := Lib.hid (fun W (hb : Below wr.heap.size wr W) => same_two (EA9.out.below hb) (EB9.out.below hb) hpk)
        have j2 : (0 : Int) ≤ (j : Int) := by omega
        have j3 : (j : Int) < 2 := by omega
        clear hea heb hpk hln EA9 EB9
        generalize f.scope.length = nf at H0 EQ
        go_upto_region 25 with fail
        go_cut [185] from 148 to 184 (fun v wx => v = .bool false ∧ Hid (Below wr.heap.size wr wx))
        case first =>
          go_region_held3 (fun W => HoldW wr fa fb ga gb (j * 2) (.slice (some ⟨ga, 0, none⟩) 2 cfa) (.slice (some ⟨gb, 0, none⟩) 2 cfb) (.slice As nf c) (.pointer (some ⟨g, 0, none⟩)) (.slice As' nf c') (.pointer (some ⟨g', 0, none⟩)) W) (first | exact holdW H0.out ((Below.refl _ _).drew) | exact holdW (by assumption) (by assumption) | assumption)
            ((first | (go_at_call 18; with_reducible refine (EQ.out _ (HoldW.below (by assumption))).mono ?_; rintro e w' ⟨rfl, hb⟩)
                    | (go_at_call 19; with_reducible refine (SM.out _ (HoldW.below (by assumption))).mono ?_; rintro e w' ⟨rfl, hb⟩)))
          all_goals
            (have BE := Lib.hid (HoldW.below (by assumption))
             go_wp2_with fail
             go_meet
             case rel => exact ⟨rfl, BE⟩)
        obtain ⟨rfl, BX⟩ := hcut
        have BX2 := Lib.hid (HB.out.trans (BX.out.mono HB.out.size))
        go_wp2_with fail
        go_roundw
        case rel => exact ⟨j + 1, by go_num, by omega, BX2.out⟩
        case measure => simp [intOf]; omega
      · have d1 : decide ((j : Int) < 2) = false := decide_eq_false (by omega)
        go_wp2_with fail
        go_meet
        case rel => exact HB
    --]
  have B7 := hcut
  clear hcut
  obtain ⟨w7, hw7⟩ : ∃ w7, w7 = wc := ⟨wc, rfl⟩
  subst hw7
  have TA7 := Lib.hid (TA.out.below B7.out)
  have TB7 := Lib.hid (TB.out.below B7.out)
  have B67 := Lib.hid (then_ B6.out B7.out)
  have n8 := new_val w7 (.cells #[.int .i64 1, .int .i64 2] 3)
  have TA8 := Lib.hid (TA7.out.below n8)
  have TB8 := Lib.hid (TB7.out.below n8)
  have B8 := Lib.hid (then_ B67.out n8)
  have I12 := Lib.hid (ints_two w7 1 2)
  have PU := Lib.hid (tpput_ok x0 y0 M0 q0 2 2 Q0 (some ⟨w7.heap.size, 0, none⟩) (pickN [2, 3, 2, 3] [0, 1]) [1, 2] 1000 _ 999 _ _ TA8.out.e0.tp rfl (by decide) (by decide) I12.out (show InL [2, 3] [1, 2] by simp [InL]) (show InK 999 1000 by unfold InK; omega) (by
    have h1 := TA8.out.e0.few
    have h2 : (L.map lnM).length = L.length := by simp
    have h3 := HL.out.len
    have h4 : M0 ≤ (L.map lnM).length := h1
    omega))
  have ka := TA7.out.cell3
  have kp : w7.cell? ⟨ga, 1, none⟩ = some (.pointer (some ⟨x0, 0, none⟩)) := TA7.out.e0.k1
  clear n8 TA TB I12
  go_upto_region 29 with (first
    | (go_at_call 20; refine PU.out.mono ?_; rintro e w9 ⟨rfl, -, hg⟩; have G9 := Lib.hid hg; clear hg)
    | fail)
  clear ka kp PU
  --[last
  change Code.wp _ _ _ _ w9
  generalize w7.alloc (.cells #[.int .i64 1, .int .i64 2] 3) = w8 at TA8 TB8 B8 G9
  have E9 : Hid (FuE w9 1000 [2, 3, 2, 3] ⟨[s0, 3], (other : Int), L.map lnM⟩ ga 1 P1 p1 x1 y1 Q1 q1 M1 ∧ FuE w9 1000 [2, 3, 2, 3] ⟨[s0, 3], (other : Int), L.map lnM⟩ gb 1 R1 r1 v1 z1 S1 s1 N1 ∧ w9.cell? ⟨fa, 3, none⟩ = some (.slice (some ⟨ga, 0, none⟩) 2 cfa) ∧ w9.cell? ⟨fb, 3, none⟩ = some (.slice (some ⟨gb, 0, none⟩) 2 cfb) ∧ w9.cell? ⟨ga, 2, none⟩ = some (.slice P1 2 p1) ∧ Below w.heap.size w w9) := Lib.hid (by
    obtain ⟨D, hmap, -⟩ := TA8.out.e0.tp.map
    have hne : y0 ≠ z1 := by
      have h1 := YLT.out.1
      have h2 := LO.out.2
      have h3 := WBS.out
      omega
    have e1 := TA8.out.e1.put hmap G9.out TA8.out.ne
    refine ⟨e1, TB8.out.e1.put hmap G9.out hne, ?_, ?_, e1.k0, ?_⟩
    · exact (World.cell?_of_block (a := ⟨fa, 3, none⟩) (G9.out.block fa (World.block_lt_of_cell? _ ⟨fa, 3, none⟩ TA8.out.cell3) (fun e => map_ne hmap TA8.out.cell3 e))).trans TA8.out.cell3
    · exact (World.cell?_of_block (a := ⟨fb, 3, none⟩) (G9.out.block fb (World.block_lt_of_cell? _ ⟨fb, 3, none⟩ TB8.out.cell3) (fun e => map_ne hmap TB8.out.cell3 e))).trans TB8.out.cell3
    · refine B8.out.grown G9.out B8.out.size (fun q hq => ?_)
      injection hq with hq
      subst hq
      exact YLO.out)
  have H0 : Hid (HoldW w9 fa fb ga gb 2 (.slice (some ⟨ga, 0, none⟩) 2 cfa) (.slice (some ⟨gb, 0, none⟩) 2 cfb) (.slice P1 2 p1) (.pointer (some ⟨x1, 0, none⟩)) (.slice R1 2 r1) (.pointer (some ⟨v1, 0, none⟩)) w9) := Lib.hid ⟨E9.out.2.2.1, E9.out.2.2.2.1, E9.out.1.k0, E9.out.1.k1, E9.out.2.1.k0, E9.out.2.1.k1, Below.refl _ _⟩
  have SM := Lib.hid (fun W (hb : Below w9.heap.size w9 W) => same_two (E9.out.1.below hb) (E9.out.2.1.below hb) (by rcases S0.out with h | h <;> rw [h] <;> rfl))
  have B9 := Lib.hid E9.out.2.2.2.2.2
  clear E9 TA7 TB7 TA8 TB8 G9
  go_cut [211] from 196 to 210 (fun v wx => v = .bool false ∧ Hid (Below w9.heap.size w9 wx))
  case first =>
    go_region_held3 (fun W => HoldW w9 fa fb ga gb 2 (.slice (some ⟨ga, 0, none⟩) 2 cfa) (.slice (some ⟨gb, 0, none⟩) 2 cfb) (.slice P1 2 p1) (.pointer (some ⟨x1, 0, none⟩)) (.slice R1 2 r1) (.pointer (some ⟨v1, 0, none⟩)) W) (first | exact holdW H0.out ((Below.refl _ _).drew) | exact holdW (by assumption) (by assumption) | assumption)
      ((go_at_call 19; with_reducible refine (SM.out _ (HoldW.below (by assumption))).mono ?_; rintro e w' ⟨rfl, hb⟩))
    all_goals
      (have BE := Lib.hid (HoldW.below (by assumption))
       go_wp2_with fail
       go_meet
       case rel => exact ⟨rfl, BE⟩)
  obtain ⟨rfl, BX⟩ := hcut
  obtain ⟨w10, hw10⟩ : ∃ w10, w10 = wc := ⟨wc, rfl⟩
  subst hw10
  have B10 := Lib.hid (then_ B9.out BX.out)
  clear H0 SM BX B9
  obtain ⟨l3, e3, s3⟩ := addS' ([115, 32, 52, 32, 51, 32, 50, 32, 49, 48, 48, 48, 32, 50, 32, 51, 32, 50, 32, 51, 32] : List UInt8) [45, 50, 32, 48, 32, 49, 32, 48, 32, 48, 32, 50, 32, 49, 32, 48, 32, 48, 32, 45, 49] (by decide)
  have b3 : fileM l3 (-4611686018427387904) = .bad 4 40 := e3 ▸ bad3
  have n3 : l3.length = 42 := by rw [← e3]; rfl
  obtain ⟨A3', c3', w11, cv3, nb3, bs3⟩ := conv_str ⟨l3.toArray⟩ w10
  have B11 := Lib.hid (then_ B10.out nb3)
  have zz3 : (⟨l3.toArray⟩ : ByteArray).size = l3.length := by show l3.toArray.size = _; rw [List.size_toArray]
  have RD3 := Lib.hid (read_frm (by omega) b3 A3' c3' w11 bs3 (GB.out _ B11.out).1 (GB.out _ B11.out).2)
  rw [zz3] at cv3
  clear b3 e3 nb3 bs3 zz3 n3
  go_upto_region 32 with (first
    | (go_at_call 11; refine RD3.out.mono ?_; rintro e w12 ⟨rfl, hb⟩; have B12 := Lib.hid (then_ B11.out hb); clear hb)
    | fail)
  clear cv3 RD3 s3
  obtain ⟨l4, e4, s4⟩ := addS' ([115, 32, 52, 32, 51, 32, 50, 32, 49, 48, 48, 48, 32, 50, 32, 51, 32, 50, 32, 51, 32] : List UInt8) [45, 50, 32, 48, 32, 49, 32, 48, 32, 48, 32, 50, 32, 48, 32, 49, 32, 48, 32, 45, 50] (by decide)
  have b4 : fileM l4 (-4611686018427387904) = .bad 4 40 := e4 ▸ bad4
  have n4 : l4.length = 42 := by rw [← e4]; rfl
  obtain ⟨A4', c4', w13, cv4, nb4, bs4⟩ := conv_str ⟨l4.toArray⟩ w12
  have B13 := Lib.hid (then_ B12.out nb4)
  have zz4 : (⟨l4.toArray⟩ : ByteArray).size = l4.length := by show l4.toArray.size = _; rw [List.size_toArray]
  have RD4 := Lib.hid (read_frm (by omega) b4 A4' c4' w13 bs4 (GB.out _ B13.out).1 (GB.out _ B13.out).2)
  rw [zz4] at cv4
  clear b4 e4 nb4 bs4 zz4 n4
  go_wp2_with (first
    | (go_at_call 11; refine RD4.out.mono ?_; rintro e w14 ⟨rfl, hb⟩; have B14 := Lib.hid (then_ B13.out hb); clear hb)
    | fail)
  go_ret
  exact ⟨rfl, B14.out⟩
  --]
  --]
end Go.Proofs.YteocbgcgfllieaaGreatDoor
