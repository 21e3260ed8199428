/- Texts of this seat laid together (no statement of its own). -/
import Derived.Test.YteocbgcgfllieaaGreatDoorMgT
import Derived.Test.YteocbgcgfllieaaGreatDoorMgL
import Derived.Test.YteocbgcgfllieaaGreatDoorMgC
namespace Go.Proofs.YteocbgcgfllieaaGreatDoor
open Go.RowKit
set_option linter.unusedVariables false
/-- The cells behind A are the bytes s. -/
def Cel (w : World) (A : Option Addr) (s : ByteArray) : Prop := (A = none → s.size = 0) ∧ ∀ p : Addr, A = some p → ∀ j u, (byC s)[j]? = some u → p.block < w.heap.size ∧ w.cell? (p.add j) = some u
theorem Cel.below {w w' : World} {A : Option Addr} {s : ByteArray} (h : Cel w A s) (hb : Below w.heap.size w w') : Cel w' A s := by
  refine ⟨h.1, fun p e j u hj => ?_⟩
  obtain ⟨h1, h2⟩ := h.2 p e j u hj
  exact ⟨Nat.lt_of_lt_of_le h1 hb.size, (hb.cell (p := p.add j) (by rw [block_add]; exact h1)).trans h2⟩
theorem BS.cel {w : World} {A : Option Addr} {s : ByteArray} (h : BS w A s) : Cel w A s := by
  rcases h with ⟨rfl, h⟩ | ⟨g, o, rfl, hg, hc⟩
  · exact ⟨fun _ => h, fun p e => by cases e⟩
  · refine ⟨fun e => (by cases e), fun p e => ?_⟩
    injection e with e
    subst e
    refine fun j u hj => ⟨hg, ?_⟩
    have hj' : j < s.size := by
      have := (List.getElem?_eq_some_iff.1 hj).1
      rwa [byC_len] at this
    have e1 : (⟨g, o, none⟩ : Addr).add j = ⟨g, o + j, none⟩ := by unfold Addr.add; split <;> simp_all
    rw [e1, hc j hj']
    rw [← hj, List.getElem?_map, List.getElem?_eq_getElem (by rw [size_list]; exact hj')]
    rfl
theorem Bytes.cel {w : World} {A : Option Addr} {n m : Nat} {z : Nat → Int} (h : Bytes w A n z) (hm : m ≤ n) (hA : A = none → m = 0) : Cel w A (strZ z m) := by
  refine ⟨fun e => by rw [strZ_size]; exact hA e, fun p e j u hj => ?_⟩
  subst e
  refine ⟨?_, strZ_cells h hm j u hj⟩
  have hj' : j < m := by
    have := (List.getElem?_eq_some_iff.1 hj).1
    rwa [byC_len, strZ_size] at this
  obtain ⟨p', e, hp, _⟩ := h j (by omega)
  injection e with e
  subst e
  exact hp
set_option maxRecDepth 100000 in
theorem bclone_any (A : Option Addr) (n c : Nat) (s : ByteArray) (w : World) (hn : s.size = n) (hs : n ≤ 1000000) (hA : Cel w A s) :
    Calls Tryz.prog 10 #[.slice A n c] w fun e w' => (∃ v, e = .returned v ∧ OwnB w' w.heap.size v s) ∧ Below w.heap.size w w' := by
  cases A with
  | none =>
    have h0 := hA.1 rfl
    have e := empty_of h0
    subst e
    obtain rfl : n = 0 := by rw [← hn]; rfl
    have hq : ∀ W, (binOp .eql 22 (.slice none 0 c) (.slice none 0 0)).run Tryz.prog W = .ok (.bool true) W := fun W => Lib.run_eql_slice_nil W 22 5 none 0 c 0 0 Tryz.underlying22
    clear hA hn hs h0
    go_enter Tryz.func10, Tryz.ntmps10
    go_wp2
    go_ret
    exact ⟨⟨_, rfl, World.ownsRow_nil _ _ _ _⟩, Below.refl _ _⟩
  | some ad =>
    subst hn
    have hq : ∀ W, (binOp .eql 22 (.slice (some ad) s.size c) (.slice none 0 0)).run Tryz.prog W = .ok (.bool false) W := fun W => Lib.run_eql_slice_nil W 22 5 (some ad) s.size c 0 0 Tryz.underlying22
    obtain ⟨i0, hi, hz0, hz1, hz2⟩ := info_parts info_u8
    have HI := Lib.hid hi
    have HZ0 := Lib.hid hz0
    have HZ1 := Lib.hid hz1
    have HZ2 := Lib.hid hz2
    have n0 : Below w.heap.size w (w.alloc (.cells #[] 5)) := (Below.refl _ _).alloc (Nat.le_refl _) _
    have N0 := Lib.hid n0
    have HC := Lib.hid (fun j u hj => ((hA.below n0).2 ad rfl j u hj).2)
    clear hi hz0 hz1 hz2 n0 hA
    go_enter Tryz.func10, Tryz.ntmps10
    go_wp2_with (at_builtin; refine wpList_append_own _ rfl (.tmp 5) (.tmp 6) 22 rfl w.heap.size 5 i0 (.int .u8 0) 1 1 Tryz.underlying22 HI.out HZ0.out HZ1.out HZ2.out rfl (by decide) (.slice (some ⟨w.heap.size, 0, none⟩) 0 0) 0 [] rfl (World.ownsRow_made w #[] 0 (Nat.le_refl _) (by simp [maxLen]) rfl) ad s.size c (byC s) rfl (by rw [byC_len, Nat.mul_one]) HC.out (byC_one _) (by unfold maxLen; omega) (by omega) (by simp) ?_; intro v' w1 h1 h2 _; have H1 := Lib.hid h1; have H2 := Lib.hid h2; clear h1 h2)
    go_ret
    refine ⟨⟨_, rfl, ?_⟩, N0.out.grown H2.out (by simp) (fun k hk => by simp [Value.ownBlock] at hk; omega)⟩
    have h := H1.out
    rw [Nat.zero_add, List.nil_append] at h
    exact h
theorem app_list (s x : ByteArray) : (s ++ x).data.toList = s.data.toList ++ x.data.toList := by simp
theorem app_size (s x : ByteArray) : (s ++ x).size = s.size + x.size := by rw [← size_list, app_list, List.length_append, size_list, size_list]
theorem byC_app (s t : ByteArray) : byC (s ++ t) = byC s ++ byC t := by
  show (s ++ t).data.toList.map _ = _
  rw [app_list, List.map_append]
/-- append of one byte. -/
theorem push_b1 {ops : Array Oper} {rest : List Oper} {o : Oper} {a : Act} {Q : Exit → Act → World → Prop} (hgd : o.guard = none) (sl x : Operand)
    (ho : o.op = .call { callee := .builtin .append, args := #[sl, x], argTypes := #[22, 22] })
    (W : World) (base : Nat) (v : Value) (s : ByteArray) (b : UInt8) (y : Int) (hy : y = (b.toNat : Int)) (hs : a.eval sl = v) (hx : a.eval x = .slice (some ⟨W.heap.size, 0, none⟩) 1 1)
    (hown : OwnB W base v s) (hbase : base ≤ W.heap.size) (hl : s.size ≤ 1000000)
    (h : ∀ v' w', OwnB w' base v' (s ++ ⟨#[b]⟩) → W.grownBy w' v.ownBlock → wpList Tryz.prog ops Q rest (a.put o.dst v') w') :
    wpList Tryz.prog ops Q (o :: rest) a (W.alloc (.cells #[.int .u8 y] 5)) := by
  subst hy
  obtain ⟨i0, hi, hz0, hz1, hz2⟩ := info_parts info_u8
  have hown' := hown.below (new_val W (.cells #[.int .u8 (b.toNat : Int)] 5)) (Nat.le_refl _)
  have hc := heap_alloc_new W (.cells #[.int .u8 (b.toNat : Int)] 5)
  refine wpList_append_own _ hgd sl x 22 ho base 5 i0 (.int .u8 0) 1 1 Tryz.underlying22 hi hz0 hz1 hz2 rfl (by decide) v s.size _ hs hown' ⟨W.heap.size, 0, none⟩ 1 1 [.int .u8 (b.toNat : Int)] hx rfl ?_ ?_ (by unfold maxLen; omega) (by omega) (by simp; omega) ?_
  · intro j u hj
    rcases j with _ | j
    · simp at hj
      subst hj
      show (W.alloc _).cell? ⟨W.heap.size, 0, none⟩ = _
      rw [cell_of_row _ _ _ _ _ _ hc]
      rfl
    · simp at hj
  · intro u hu
    simp at hu
    subst hu
    rfl
  · intro v' w' k1 k2 _
    refine h v' w' ?_ (sgrown_then (grown_any (new_val W _) _) k2)
    unfold OwnB
    have e : byC (s ++ ⟨#[b]⟩) = byC s ++ [.int .u8 (b.toNat : Int)] := byC_app _ _
    rw [app_size, e]
    exact k1
/-- append of bytes that lie there. -/
theorem push_l {ops : Array Oper} {rest : List Oper} {o : Oper} {a : Act} {Q : Exit → Act → World → Prop} (hgd : o.guard = none) (sl x : Operand)
    (ho : o.op = .call { callee := .builtin .append, args := #[sl, x], argTypes := #[22, 22] })
    (W : World) (base : Nat) (v : Value) (s t : ByteArray) (A : Option Addr) (c : Nat) (hs : a.eval sl = v) (hx : a.eval x = .slice A t.size c)
    (hown : OwnB W base v s) (hA : Cel W A t) (hA0 : A = none → c = 0) (hbase : base ≤ W.heap.size) (hl : s.size ≤ 1000000) (hlt : t.size ≤ 1000000)
    (h : ∀ v' w', OwnB w' base v' (s ++ t) → W.grownBy w' v.ownBlock → wpList Tryz.prog ops Q rest (a.put o.dst v') w') :
    wpList Tryz.prog ops Q (o :: rest) a W := by
  obtain ⟨i0, hi, hz0, hz1, hz2⟩ := info_parts info_u8
  cases A with
  | none =>
    have e := empty_of (hA.1 rfl)
    subst e
    have e0 := hA0 rfl
    subst e0
    refine wpList_append_own_none hgd sl x 22 ho base 5 i0 1 Tryz.underlying22 hi v s.size _ hs hown hx ?_
    refine h v W ?_ (grown_any (Below.refl _ _) _)
    have e : s ++ ByteArray.empty = s := by simp
    rw [e]
    exact hown
  | some ad =>
    have h2 : ∀ j u, (byC t)[j]? = some u → W.cell? (ad.add j) = some u := fun j u hj => (hA.2 ad rfl j u hj).2
    refine wpList_append_own _ hgd sl x 22 ho base 5 i0 (.int .u8 0) 1 1 Tryz.underlying22 hi hz0 hz1 hz2 rfl (by decide) v s.size _ hs hown ad t.size c (byC t) hx (by rw [byC_len, Nat.mul_one]) h2 (byC_one _) (by unfold maxLen; omega) (by omega) (by simp [OwnB] at *; omega) ?_
    intro v' w' k1 k2 _
    refine h v' w' ?_ k2
    unfold OwnB
    rw [app_size, byC_app]
    exact k1
end Go.Proofs.YteocbgcgfllieaaGreatDoor

namespace Go.Proofs.YteocbgcgfllieaaGreatDoor
open Go.RowKit
set_option linter.unusedVariables false
def HoldC (w W : World) : Prop := Below w.heap.size w W
theorem HoldC.below {w W : World} (h : HoldC w W) : Below w.heap.size w W := h
theorem holdC {w W W' : World} (h : HoldC w W) (hb : Below W.heap.size W W') : HoldC w W' := h.trans (hb.mono h.size)
set_option maxRecDepth 100000 in
theorem slice_head (A : Option Addr) (n m c : Nat) (hm : m ≤ c) (W : World) : (Instr.slice 22 (.slice A n c) none (some (.int .i64 (m : Int))) none).run Tryz.prog W = .ok (.slice A m c) W := by
  rw [run_slice_h (P := Tryz.prog) (w := W) 22 A n c Tryz.underlying22 .i64 (m : Int) (by omega) (by omega)]
  have hs : (sizeOf (Tryz.prog.elem 22)).run Tryz.prog W = .ok 1 W := size_u8 W
  rw [hs]
  show Result.ok (sliced A 0 (m : Int).toNat c 1) W = _
  have e : A.map (fun a : Addr => a.add (0 * 1)) = A := by
    cases A with
    | none => rfl
    | some a => simp [Addr.add]
  unfold sliced
  simp [Addr.add]
theorem OwnB.form0 {w : World} {base : Nat} {v : Value} {s : ByteArray} (h : OwnB w base v s) : ∃ A c, v = .slice A s.size c ∧ BS w A s ∧ (A = none → c = 0) := by
  have h' := h
  obtain ⟨hl, ⟨rfl, hn⟩ | ⟨g, cap, cur, rfl, hb, hh, hm, _, hs, ht⟩⟩ := h
  · exact ⟨none, 0, by rw [hn], .inl ⟨rfl, hn⟩, fun _ => rfl⟩
  · obtain ⟨A, c, e, hbs, _⟩ := h'.form
    injection e with e1 e2 e3
    subst e1
    exact ⟨_, cap, rfl, hbs, fun e => by cases e⟩
/-- What Read answers of s: the place and the error. -/
def ReadsAt (s : ByteArray) (p e : Int) : Prop := ∀ W A c, BS W A s → GlobR W → TabP W → Calls Tryz.prog 11 #[.slice A s.size c] W fun e' w' => (∃ P, e' = .returned (.tuple #[.pointer P, .int .i64 p, .int .i64 e])) ∧ Below W.heap.size W w'
theorem places_any {s : ByteArray} (hs : s.size ≤ 1000) : ∃ p e : Int, ReadsAt s p e ∧ (e = 0 ∨ e = 5 ∨ (e ≠ 0 ∧ e ≠ 5 ∧ p = (s.size : Int)) ∨ (e ≠ 0 ∧ e ≠ 5 ∧ p ≠ (s.size : Int) ∧ ∀ t : ByteArray, t.size ≤ 1000 → ReadsAt (s ++ ⟨#[32]⟩ ++ t) p e)) := by
  cases hf : fileM s.data.toList (-4611686018427387904) with
  | ok F st =>
    cases hb : st.big with
    | none =>
      refine ⟨s.size, 0, fun W A c h1 h2 h3 => (readR_ok (by omega) h1 h2 h3 hf hb).mono ?_, .inl rfl⟩
      rintro e w' ⟨fb, As, Af, cs, cf, rfl, _, hb'⟩
      exact ⟨⟨_, rfl⟩, hb'⟩
    | some p =>
      refine ⟨p, 5, fun W A c h1 h2 h3 => (readR_big (by omega) h1 h2 h3 hf hb).mono ?_, .inr (.inl rfl)⟩
      rintro e w' ⟨rfl, hb'⟩
      exact ⟨⟨_, rfl⟩, hb'⟩
  | bad e p =>
    have hR : ∀ (s' : ByteArray), s'.size ≤ 65536 → fileM s'.data.toList (-4611686018427387904) = .bad e p → ReadsAt s' p e := fun s' hs' hf' W A c h1 h2 h3 => by
      refine (readR_bad hs' h1 h2 h3 hf').mono ?_
      rintro e' w' ⟨rfl, hb'⟩
      exact ⟨⟨_, rfl⟩, hb'⟩
    refine ⟨p, e, hR s (by omega) hf, ?_⟩
    by_cases h0 : (e : Int) = 0
    · exact .inl h0
    by_cases h5 : (e : Int) = 5
    · exact .inr (.inl h5)
    by_cases hp : (p : Int) = (s.size : Int)
    · exact .inr (.inr (.inl ⟨h0, h5, hp⟩))
    · refine .inr (.inr (.inr ⟨h0, h5, hp, fun t ht => hR _ ?_ ?_⟩))
      · rw [app_size, app_size]
        have : (⟨#[32]⟩ : ByteArray).size = 1 := rfl
        omega
      · have e1 : (s ++ ⟨#[32]⟩ ++ t).data.toList = s.data.toList ++ 32 :: t.data.toList := by
          rw [app_list, app_list]
          simp
        rw [e1]
        exact fileM_ext hf (by rw [size_list]; omega)
set_option maxRecDepth 100000 in
set_option maxHeartbeats 4000000 in
theorem places_walk (a0 a1 : Option Addr) (n0 c0 n1 c1 : Nat) (z0 z1 : Nat → Int) (w : World) (hG : GlobR w) (hT : TabP w) (h0 : n0 ≤ c0) (h1 : n1 ≤ c1) (hm0 : (n0 : Int) ≤ 9223372036854775807) (hm1 : (n1 : Int) ≤ 9223372036854775807)
    (hA0 : a0 = none → n0 = 0) (hA1 : a1 = none → n1 = 0) (hz0 : Bytes w a0 n0 z0) (hz1 : Bytes w a1 n1 z1) :
    Calls Tryz.prog 8 #[.slice a0 n0 c0, .slice a1 n1 c1] w fun e w' => e = .returned (.bool true) ∧ Below w.heap.size w w' := by
  obtain ⟨m0, hk0⟩ : ∃ m, min n0 300 = m := ⟨_, rfl⟩
  obtain ⟨m1, hk1⟩ : ∃ m, min n1 50 = m := ⟨_, rfl⟩
  have hi0 : min (n0 : Int) 300 = (m0 : Int) := by omega
  have hi1 : min (n1 : Int) 50 = (m1 : Int) := by omega
  have SL0 : ∀ W, (Instr.slice 22 (.slice a0 n0 c0) none (some (.int .i64 (m0 : Int))) none).run Tryz.prog W = .ok (.slice a0 m0 c0) W := fun W => slice_head a0 n0 m0 c0 (by omega) W
  have SL1 : ∀ W, (Instr.slice 22 (.slice a1 n1 c1) none (some (.int .i64 (m1 : Int))) none).run Tryz.prog W = .ok (.slice a1 m1 c1) W := fun W => slice_head a1 n1 m1 c1 (by omega) W
  have C0 : Cel w a0 (strZ z0 m0) := hz0.cel (by omega) (fun e => by have := hA0 e; omega)
  have C1 : Cel w a1 (strZ z1 m1) := hz1.cel (by omega) (fun e => by have := hA1 e; omega)
  have e0 := strZ_size z0 m0
  have e1 := strZ_size z1 m1
  generalize strZ z0 m0 = s0 at C0 e0
  generalize strZ z1 m1 = s1 at C1 e1
  have P0 := Lib.hid (fun W (hb : Below w.heap.size w W) => bclone_any a0 m0 c0 s0 W e0 (by omega) (C0.below hb))
  have P1 := Lib.hid (fun W (hb : Below w.heap.size w W) => bclone_any a1 m1 c1 s1 W e1 (by omega) (C1.below hb))
  have HS0 : Hid (s0.size ≤ 300) := Lib.hid (by omega)
  have HS1 : Hid (s1.size ≤ 50) := Lib.hid (by omega)
  have AW := Lib.hid (awake7_ok w hG hT)
  have GB := Lib.hid (fun W (hb : Below w.heap.size w W) => And.intro (hG.below hb) (tab_below hT hb))
  obtain ⟨p, er, hR, hcase⟩ := places_any (s := s0) (by omega)
  have RD := Lib.hid hR
  have HCS := Lib.hid hcase
  clear hk0 hk1 C0 C1 e0 e1 hz0 hz1 hA0 hA1 hG hT hR hcase h0 h1 hm0 hm1
  go_enter Tryz.func8, Tryz.ntmps8
  go_upto_region 3 with (first | (go_at_call 9; refine AW.out.mono ?_; rintro e w1 ⟨rfl, hb1⟩; have B1 := Lib.hid hb1; clear hb1) | fail)
  have HC0 : Hid (HoldC w1 w1) := Lib.hid (Below.refl _ _)
  go_cut [0, 1] from 14 to 26 (fun v0 v1 wc => Hid (∃ A0 A1 q0 q1, v0 = .slice A0 s0.size q0 ∧ v1 = .slice A1 s1.size q1 ∧ BS wc A0 s0 ∧ BS wc A1 s1 ∧ (A1 = none → q1 = 0) ∧ Below w1.heap.size w1 wc))
  case first =>
    go_region_held3 (fun W => HoldC w1 W) (first | exact holdC HC0.out ((Below.refl _ _).drew) | exact holdC (by assumption) (by assumption) | assumption)
      ((first | (go_at_call 10; with_reducible refine (P1.out _ (then_ B1.out (HoldC.below (by assumption)))).mono ?_; rintro e w' ⟨⟨v1, rfl, h1⟩, hb⟩; have HO1 := Lib.hid (And.intro (HO0.out.below hb (Nat.le_refl _)) h1); clear h1)
              | (go_at_call 10; with_reducible refine (P0.out _ (then_ B1.out (HoldC.below (by assumption)))).mono ?_; rintro e w' ⟨⟨v0, rfl, h0⟩, hb⟩; have HO0 := Lib.hid h0; clear h0)))
    all_goals
      have BE := Lib.hid (HoldC.below (w := w1) (by assumption))
      obtain ⟨A0, q0, rfl, hb0, -⟩ := HO1.out.1.form0
      obtain ⟨A1, q1, rfl, hb1, hq1⟩ := HO1.out.2.form0
      go_wp2_with fail
      go_meet
      case rel => exact Lib.hid ⟨A0, A1, q0, q1, rfl, rfl, hb0, hb1, hq1, BE.out⟩
  obtain ⟨A0, A1, q0, q1, rfl, rfl, hb0, hb1, hq1, hbc⟩ := hcut.out
  have HB0 := Lib.hid hb0
  have HB1 := Lib.hid hb1
  have HQ1 := Lib.hid hq1
  have BC := Lib.hid (then_ B1.out hbc)
  have RC := Lib.hid (RD.out wc A0 q0 HB0.out (GB.out wc BC.out).1 (GB.out wc BC.out).2)
  clear hb0 hb1 hq1 hbc hcut P0 P1 SL0 SL1 hi0 hi1 HC0 B1 AW
  have GE := Lib.hid (GB.out wc BC.out)
  rcases HCS.out with rfl | rfl | ⟨x0, x5, rfl⟩ | ⟨x0, x5, xp, hR2⟩
  · clear HCS RD GB
    go_wp2_with (first | (go_at_call 11; refine RC.out.mono ?_; rintro e w4 ⟨⟨P, rfl⟩, hb4⟩; have B4 := Lib.hid (then_ BC.out hb4); clear hb4) | fail)
    go_ret
    exact ⟨rfl, B4.out⟩
  · clear HCS RD GB
    go_wp2_with (first | (go_at_call 11; refine RC.out.mono ?_; rintro e w4 ⟨⟨P, rfl⟩, hb4⟩; have B4 := Lib.hid (then_ BC.out hb4); clear hb4) | fail)
    go_ret
    exact ⟨rfl, B4.out⟩
  · have d0 : decide (er = 0) = false := decide_eq_false x0
    have d5 : decide (er = 5) = false := decide_eq_false x5
    clear HCS RD GB
    go_wp2_with (first | (go_at_call 11; refine RC.out.mono ?_; rintro e w4 ⟨⟨P, rfl⟩, hb4⟩; have B4 := Lib.hid (then_ BC.out hb4); clear hb4) | fail)
    go_ret
    exact ⟨rfl, B4.out⟩
  · have d0 : (er == 0) = false := beq_eq_false_iff_ne.2 x0
    have d5 : (er == 5) = false := beq_eq_false_iff_ne.2 x5
    have dp : (p == (s0.size : Int)) = false := beq_eq_false_iff_ne.2 xp
    have R2 := Lib.hid (hR2 s1 (by have := HS1.out; omega))
    have CL := Lib.hid (fun W (hb : Below wc.heap.size wc W) => bclone_any A0 s0.size q0 s0 W rfl (by have := HS0.out; omega) (HB0.out.cel.below hb))
    clear HCS RD hR2
    go_upto_region 7 with (first | (go_at_call 11; refine RC.out.mono ?_; rintro e w4 ⟨⟨P, rfl⟩, hb4⟩; have B4 := Lib.hid hb4; clear hb4) | fail)
    clear d0 d5 dp
    go_upto_region 8 with (first
      | (go_at_call 10; refine (CL.out _ B4.out).mono ?_; rintro e w5 ⟨⟨v5, rfl, h5⟩, hb5⟩; have B5 := Lib.hid hb5; have O5 := Lib.hid h5; clear h5 hb5)
      | (at_builtin; refine push_b1 rfl (.tmp 45) (.tmp 46) rfl w5 w4.heap.size v5 s0 32 32 rfl rfl rfl O5.out B5.out.size (by have := HS0.out; omega) ?_; intro v6 w6 h1 h2; have B6 := Lib.hid (below_grownO B5.out h2 (Nat.le_refl _) (fun g e => (World.ownsRow.lt O5.out g e).1)); have O6 := Lib.hid h1; clear h1 h2)
      | (at_builtin; refine push_l rfl (.tmp 47) (.tmp 48) rfl w6 w4.heap.size v6 (s0 ++ ⟨#[32]⟩) s1 A1 q1 rfl rfl O6.out ((HB1.out.cel.below B4.out).below B6.out) HQ1.out B6.out.size (by rw [app_size]; have := HS0.out; show s0.size + 1 ≤ _; omega) (by have := HS1.out; omega) ?_; intro v7 w7 h1 h2; have B7 := Lib.hid (below_grownO B6.out h2 (Nat.le_refl _) (fun g e => (World.ownsRow.lt O6.out g e).1)); have O7 := Lib.hid h1; clear h1 h2)
      | fail)
    obtain ⟨sq, hsq⟩ : ∃ sq, s0 ++ ⟨#[32]⟩ ++ s1 = sq := ⟨_, rfl⟩
    rw [hsq] at O7 R2
    clear hsq
    obtain ⟨A7, q7, rfl, hb7, -⟩ := O7.out.form0
    have BZ := Lib.hid (then_ (then_ BC.out B4.out) B7.out)
    have RZ := Lib.hid (R2.out w7 A7 q7 hb7 (GB.out w7 BZ.out).1 (GB.out w7 BZ.out).2)
    clear hb7
    go_wp2_with (first | (go_at_call 11; refine RZ.out.mono ?_; rintro e w8 ⟨⟨P, rfl⟩, hb8⟩; have B8 := Lib.hid (then_ BZ.out hb8); clear hb8) | fail)
    go_ret
    exact ⟨rfl, B8.out⟩
end Go.Proofs.YteocbgcgfllieaaGreatDoor

namespace Go.Proofs.YteocbgcgfllieaaGreatDoor
open Go.RowKit
set_option linter.unusedVariables false
/-- The law's own bytes while they are turned: what is not turned yet is as it was. -/
def XorR (w4 : World) (base m c : Nat) (A : Option Addr) (s : ByteArray) (k : Nat) (wr : World) : Prop :=
  w4.grownBy wr (Value.ownBlock (.slice A m c)) ∧ ∃ xs, wr.ownsRow base 5 1 (.slice A m c) m xs ∧ ∀ j, k ≤ j → xs[j]? = (byC s)[j]?
theorem XorR.step {w4 wr : World} {base m c k : Nat} {A : Option Addr} {s : ByteArray} (h : XorR w4 base m c A s k wr) (hm : m = s.size) (hk : k < s.size) :
    ∃ g, A = some ⟨g, 0, none⟩ ∧ wr.cell? ⟨g, k, none⟩ = some (.int .u8 (s[k].toNat : Int)) ∧ wr.frozen? ⟨g, k, none⟩ = false ∧ ∀ u, XorR w4 base m c A s (k + 1) (wr.setCell ⟨g, k, none⟩ u) := by
  subst hm
  obtain ⟨hg, xs, hO, hx⟩ := h
  have hO' := hO
  obtain ⟨hl, ⟨e, hn⟩ | ⟨g, cap, cur, e, hb, hh, hm, hcm, hs, ht⟩⟩ := hO
  · omega
  · injection e with e1 e2 e3
    subst e1 e3
    have hxk : xs[k]? = some (.int .u8 (s[k].toNat : Int)) := by
      rw [hx k (Nat.le_refl _), List.getElem?_map, List.getElem?_eq_getElem (by rw [size_list]; exact hk)]
      rfl
    refine ⟨g, rfl, ?_, World.ownsRow.frozenAt hO' k, fun u => ?_⟩
    · rw [cell_of_row wr g k cur 5 (0, 0) hh]
      have e : (cur.toList.take (s.size * 1))[k]? = some (.int .u8 (s[k].toNat : Int)) := by rw [ht]; exact hxk
      rw [List.getElem?_take, if_pos (by omega)] at e
      simpa using e
    · have h2 := World.ownsRow.stored hO' k u
      refine ⟨sgrown_then hg h2.2, _, h2.1, fun j hj => ?_⟩
      rw [List.getElem?_set_ne (by omega)]
      exact hx j (by omega)
end Go.Proofs.YteocbgcgfllieaaGreatDoor

namespace Go.Proofs.YteocbgcgfllieaaGreatDoor
open Go.RowKit
set_option linter.unusedVariables false
theorem wf_u8 {a : Int} (h : (Lit.int .u8 a).wf = true) : 0 ≤ a ∧ a ≤ 255 := by
  have h1 : (decide (IntKind.u8.min ≤ a) && decide (a ≤ IntKind.u8.max)) = true := h
  have e1 : IntKind.u8.min = 0 := by decide
  have e2 : IntKind.u8.max = 255 := by decide
  rw [e1, e2] at h1
  simpa using h1
theorem wf_u16 {a : Int} (h : (Lit.int .u16 a).wf = true) : 0 ≤ a ∧ a ≤ 65535 := by
  have h1 : (decide (IntKind.u16.min ≤ a) && decide (a ≤ IntKind.u16.max)) = true := h
  have e1 : IntKind.u16.min = 0 := by decide
  have e2 : IntKind.u16.max = 65535 := by decide
  rw [e1, e2] at h1
  simpa using h1
theorem wf_u32 {a : Int} (h : (Lit.int .u32 a).wf = true) : 0 ≤ a ∧ a ≤ 4294967295 := by
  have h1 : (decide (IntKind.u32.min ≤ a) && decide (a ≤ IntKind.u32.max)) = true := h
  have e1 : IntKind.u32.min = 0 := by decide
  have e2 : IntKind.u32.max = 4294967295 := by decide
  rw [e1, e2] at h1
  simpa using h1
theorem wf_i64 {a : Int} (h : (Lit.int .i64 a).wf = true) : -9223372036854775808 ≤ a ∧ a ≤ 9223372036854775807 := by
  have h1 : (decide (IntKind.i64.min ≤ a) && decide (a ≤ IntKind.i64.max)) = true := h
  have e1 : IntKind.i64.min = -9223372036854775808 := by decide
  have e2 : IntKind.i64.max = 9223372036854775807 := by decide
  rw [e1, e2] at h1
  simpa using h1
theorem bytes_came {w : World} {a : Option Addr} {len cap : Nat} {zs : List Int}
    (h : (a = none ∧ len = 0 ∧ cap = 0 ∧ zs = []) ∨ ∃ x, a = some x ∧ len ≤ cap ∧ cap ≤ maxLen ∧ zs.length = cap ∧ (∀ i, i < zs.length → w.cell? (x.add i) = some (.int .u8 (zs.getD i 0))) ∧ ∀ n ∈ zs, (Lit.int .u8 n).wf = true) :
    Bytes w a len (fun i => zs.getD i 0) ∧ (len : Int) ≤ 9223372036854775807 := by
  rcases h with ⟨_, rfl, _, _⟩ | ⟨x, rfl, h1, h2, h3, h4, h5⟩
  · exact ⟨fun j hj => absurd hj (Nat.not_lt_zero _), by omega⟩
  · refine ⟨fun j hj => ?_, by unfold maxLen at h2; omega⟩
    have hj' : j < zs.length := by omega
    have hc := h4 j hj'
    have hb := World.block_lt_of_cell? w _ hc
    rw [block_add] at hb
    have hw := wf_u8 (h5 (zs.getD j 0) (by rw [List.getD_eq_getElem?_getD, List.getElem?_eq_getElem hj']; exact List.getElem_mem hj'))
    exact ⟨x, rfl, hb, hc, hw.1, hw.2⟩
end Go.Proofs.YteocbgcgfllieaaGreatDoor
