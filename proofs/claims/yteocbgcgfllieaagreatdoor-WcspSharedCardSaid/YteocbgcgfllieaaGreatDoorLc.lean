/- WcspLarge: the walk (no statement of its own). -/
import Derived.Test.YteocbgcgfllieaaGreatDoorLb
import Derived.Test.YteocbgcgfllieaaGreatDoorMgT
import Derived.Deep.CutBlock
import Derived.Laws.Concat
namespace Go.Proofs.YteocbgcgfllieaaGreatDoor
open Go.RowKit
set_option linter.unusedVariables false
theorem dec7_any (n : Int) (w : World) (h0 : -9223372036854775808 ≤ n) (h1 : n ≤ 9223372036854775807) : Calls Tryz.prog 16 #[.int .i64 n] w fun e w' => e = .returned (.string ⟨(Lib.itoa n).toArray⟩) ∧ w = w' := by
  have D := Lib.hid (dec_any n w h0 h1)
  clear h0 h1
  go_enter Tryz.func16, Tryz.ntmps16
  go_wp2_with (first | (go_at_call 45; refine D.out.mono ?_; rintro e w' ⟨rfl, rfl⟩) | fail)
  go_ret
  exact ⟨rfl, rfl⟩
/-- A text that is too large at p, whatever word more. -/
def LgB (l : List UInt8) (p : Nat) : Prop := (∀ b, LgR (l ++ txS (tlX b)) p b) ∧ l.length ≤ 5000
theorem dg_len (n : Int) (h0 : -9223372036854775808 ≤ n) (h1 : n ≤ 9223372036854775807) : (Lib.itoa n).length ≤ 21 := itoa_len n h0 h1
theorem txS_rep (n : Nat) (x : List UInt8) : txS (List.replicate n x) = (List.replicate n (32 :: x)).flatten := by
  induction n with
  | zero => rfl
  | succ n ih => rw [List.replicate_succ, List.replicate_succ, txS_cons, ih]; rfl
theorem txS_rep3 (n : Nat) (x y z : List UInt8) : txS ((List.replicate n [x, y, z]).flatten) = (List.replicate n (32 :: (x ++ 32 :: (y ++ 32 :: z)))).flatten := by
  induction n with
  | zero => rfl
  | succ n ih =>
    rw [List.replicate_succ, List.replicate_succ, List.flatten_cons, List.flatten_cons, txS_app, ih]
    simp [txS]
theorem rep_len (n : Nat) (x : List UInt8) : (List.replicate n x).flatten.length = n * x.length := by
  induction n with
  | zero => simp
  | succ n ih => rw [List.replicate_succ, List.flatten_cons, List.length_append, ih]; rw [Nat.succ_mul]; omega
def lg0 (N : Nat) : List UInt8 := [116, 32] ++ Lib.itoa N ++ [32, 49, 32, 48, 32, 53]
def lg3 (N : Nat) : List UInt8 := [116, 32, 49, 32, 49, 32] ++ Lib.itoa N ++ [32, 53, 32, 49]
theorem lgB0 (N : Nat) (h1 : 65 ≤ N) (h2 : N ≤ 600) : LgB (lg0 N ++ (List.replicate N [32, 49]).flatten) 2 := by
  refine ⟨fun b => ?_, ?_⟩
  · have h := large0 N h1 (by omega) b
    have e : txtT ([dgs N, dgs 1, dgs 0, dgs 5] ++ (List.replicate N (dgs 1) ++ tlX b)) = lg0 N ++ (List.replicate N [32, 49]).flatten ++ txS (tlX b) := by
      unfold txtT lg0
      rw [txS_app, txS_app, txS_rep]
      simp only [txS_cons, txS_nil, dgs, itoa_1, itoa_0, itoa_5]
      simp
    rw [e] at h
    exact h
  · have := dg_len (N : Int) (by omega) (by omega)
    unfold lg0
    simp only [List.length_append, rep_len, List.length_cons, List.length_nil]
    omega
theorem lgB1 (S : Nat) (h1 : 33 ≤ S) (h2 : S ≤ 9999) : LgB ([116, 32, 49, 32, 57, 57, 57, 57, 32, 48, 32, 53, 32] ++ Lib.itoa S) 13 := by
  refine ⟨fun b => ?_, ?_⟩
  · have h := large1 (S : Int) (by omega) (by omega) b
    have e : txtT ([dgs 1, dgs 9999, dgs 0, dgs 5, dgs S] ++ tlX b) = [116, 32, 49, 32, 57, 57, 57, 57, 32, 48, 32, 53, 32] ++ Lib.itoa S ++ txS (tlX b) := by
      unfold txtT
      rw [txS_app]
      simp only [txS_cons, txS_nil, dgs, itoa_1, itoa_0, itoa_5, itoa_9999]
      simp
    rw [e] at h
    exact h
  · have := dg_len (S : Int) (by omega) (by omega)
    simp only [List.length_append, List.length_cons, List.length_nil]
    omega
theorem lgB2 (K : Nat) (h1 : 2147483649 ≤ K) (h2 : K ≤ 4611686018427387904) : LgB ([116, 32, 49, 32, 49, 32, 48, 32] ++ Lib.itoa K ++ [32, 49]) 8 := by
  refine ⟨fun b => ?_, ?_⟩
  · have h := large2 (K : Int) (by omega) (by omega) b
    have e : txtT ([dgs 1, dgs 1, dgs 0, dgs K, dgs 1] ++ tlX b) = [116, 32, 49, 32, 49, 32, 48, 32] ++ Lib.itoa K ++ [32, 49] ++ txS (tlX b) := by
      unfold txtT
      rw [txS_app]
      simp only [txS_cons, txS_nil, dgs, itoa_1, itoa_0]
      simp
    rw [e] at h
    exact h
  · have := dg_len (K : Int) (by omega) (by omega)
    simp only [List.length_append, List.length_cons, List.length_nil]
    omega
theorem lgB3 (N : Nat) (h1 : 257 ≤ N) (h2 : N ≤ 400) : LgB (lg3 N ++ (List.replicate N [32, 48, 32, 48, 32, 48]).flatten) 6 := by
  refine ⟨fun b => ?_, ?_⟩
  · have h := large3 N h1 (by omega) b
    have e : txtT ([dgs 1, dgs 1, dgs N, dgs 5, dgs 1] ++ ((List.replicate N [dgs 0, dgs 0, dgs 0]).flatten ++ tlX b)) = lg3 N ++ (List.replicate N [32, 48, 32, 48, 32, 48]).flatten ++ txS (tlX b) := by
      unfold txtT lg3
      rw [txS_app, txS_app, txS_rep3]
      simp only [txS_cons, txS_nil, dgs, itoa_1, itoa_0, itoa_5]
      simp
    rw [e] at h
    exact h
  · have := dg_len (N : Int) (by omega) (by omega)
    unfold lg3
    simp only [List.length_append, rep_len, List.length_cons, List.length_nil]
    omega
theorem lgB4 : LgB [116, 32, 51, 32, 51, 50, 32, 49, 32, 53, 32, 51, 50, 32, 51, 50, 32, 51, 50, 32, 51, 32, 48, 32, 49, 32, 50, 32, 48, 32, 48] 20 := by
  refine ⟨fun b => ?_, by decide⟩
  have h := large4 b
  have e : txtT ([dgs 3, dgs 32, dgs 1, dgs 5, dgs 32, dgs 32, dgs 32, dgs 3, dgs 0, dgs 1, dgs 2, dgs 0, dgs 0] ++ tlX b) = [116, 32, 51, 32, 51, 50, 32, 49, 32, 53, 32, 51, 50, 32, 51, 50, 32, 51, 50, 32, 51, 32, 48, 32, 49, 32, 50, 32, 48, 32, 48] ++ txS (tlX b) := by
    unfold txtT
    rw [txS_app]
    simp only [txS_cons, txS_nil, dgs, itoa_1, itoa_0, itoa_5, itoa_2, itoa_3, itoa_32]
    simp
  rw [e] at h
  exact h
/-- What Read says of it. -/
def RdX (l : List UInt8) (p e : Int) : Prop := (∃ q : Nat, p = q ∧ e = 4 ∧ fileM l (-4611686018427387904) = .bad 4 q) ∨ (∃ (q : Nat) (F : FileM) (st : RdS), p = q ∧ e = 5 ∧ fileM l (-4611686018427387904) = .ok F st ∧ st.big = some q)
theorem read_lg {l : List UInt8} {p e : Int} (h : RdX l p e) (hl : l.length ≤ 6000) (A : Option Addr) (c : Nat) (w : World) (hB : BS w A ⟨l.toArray⟩) (hG : GlobR w) (hT : TabP w) :
    Calls Tryz.prog 11 #[.slice A l.length c] w fun e' w' => e' = .returned (.tuple #[.pointer none, .int .i64 p, .int .i64 e]) ∧ Below w.heap.size w w' := by
  have hs : (⟨l.toArray⟩ : ByteArray).size = l.length := by simp [ByteArray.size]
  have hd : (⟨l.toArray⟩ : ByteArray).data.toList = l := by simp
  rw [← hs]
  rcases h with ⟨q, rfl, rfl, h⟩ | ⟨q, F, st, rfl, rfl, h, hb⟩
  · exact readR_bad (by rw [hs]; omega) hB hG hT (e := 4) (by rw [hd]; exact h)
  · exact readR_big (by rw [hs]; omega) hB hG hT (by rw [hd]; exact h) hb
theorem rdX_of {l : List UInt8} {p : Nat} (h : LgB l p) : RdX l p 5 ∧ RdX (l ++ [32, 120]) ((l.length + 2 : Nat) - 1 : Int) 4 := by
  constructor
  · have := h.1 false
    unfold LgR tlX at this
    simp only [Bool.false_eq_true, if_false, txS_nil, List.append_nil] at this
    obtain ⟨F, st, h1, h2⟩ := this
    exact .inr ⟨p, F, st, rfl, rfl, h1, h2⟩
  · have := h.1 true
    unfold LgR tlX at this
    simp only [if_true] at this
    have e : txS [[120]] = [32, 120] := rfl
    rw [e] at this
    refine .inl ⟨l.length + 1, by omega, rfl, ?_⟩
    rw [this, List.length_append]
    rfl
def LgV (v8 v9 : Value) : Prop := ∃ (l : List UInt8) (p : Nat), v8 = .string ⟨l.toArray⟩ ∧ v9 = .int .i64 (p : Int) ∧ LgB l p
def RdV2 (v8 v9 v10 : Value) : Prop := ∃ (l : List UInt8) (p e : Int), v8 = .string ⟨l.toArray⟩ ∧ v9 = .int .i64 p ∧ v10 = .int .i64 e ∧ RdX l p e ∧ l.length ≤ 6000
theorem u16_small (q : Nat) (h : q ≤ 65535) : IntKind.u16.wrap (q : Int) = q := by show (q : Int) % 65536 = q; omega
theorem addS (a b : List UInt8) (h : a.length + b.length ≤ 100000) (W : World) : (Op.stringOp .add ⟨a.toArray⟩ ⟨b.toArray⟩).run Tryz.prog W = .ok (.string ⟨(a ++ b).toArray⟩) W := by
  have := run_string_add_sum (P := Tryz.prog) (w := W) ⟨a.toArray⟩ ⟨b.toArray⟩ (by show a.toArray.size + b.toArray.size ≤ _; simp; omega)
  rw [str_app] at this
  exact this
theorem addS' (a b : List UInt8) (h : a.length + b.length ≤ 100000) : ∃ c, a ++ b = c ∧ ∀ W, (Op.stringOp .add ⟨a.toArray⟩ ⟨b.toArray⟩).run Tryz.prog W = .ok (.string ⟨c.toArray⟩) W := ⟨_, rfl, fun W => addS a b h W⟩
theorem top_M (n : Nat) (h : n ≤ 65535) : ∃ M : Nat, IntKind.i64.wrap (2147483649 + (n : Int)) = (M : Int) ∧ wrap64 (2147483649 + (n : Int)) = (M : Int) ∧ LgB ([116, 32, 49, 32, 49, 32, 48, 32] ++ Lib.itoa (M : Int) ++ [32, 49]) 8 ∧ (0 : Int) ≤ (M : Int) ∧ (M : Int) ≤ 4611686018427387904 :=
  ⟨(2147483649 + (n : Int)).toNat, by rw [Int.toNat_of_nonneg (by omega)]; exact IntWalk.i64_in _ (by omega), by rw [Int.toNat_of_nonneg (by omega)]; exact IntWalk.wrap64_in _ (by omega), lgB2 _ (by omega) (by omega), by omega, by omega⟩
set_option maxRecDepth 100000 in
set_option maxHeartbeats 4000000 in
theorem large_walk (which n : Nat) (wrong : Bool) (w : World) (hG : GlobR w) (hT : TabP w) (hw : which ≤ 255) (hn : n ≤ 65535) :
    Calls Tryz.prog 4 #[.int .u8 (which : Int), .int .u16 (n : Int), .bool wrong] w fun e w' => e = .returned (.bool true) ∧ Below w.heap.size w w' := by
  have AW := Lib.hid (awake7_ok w hG hT)
  have GB := Lib.hid (fun W (hb : Below w.heap.size w W) => And.intro (hG.below hb) (tab_below hT hb))
  obtain ⟨q5, N5, t5, a5, h5⟩ : ∃ q N : Nat, (n : Int).tmod 500 = (q : Int) ∧ IntKind.u16.wrap ((65 : Int) + (q : Int)) = (N : Int) ∧ 65 ≤ N ∧ N ≤ 600 := ⟨n % 500, 65 + n % 500, by rw [Int.tmod_eq_emod_of_nonneg (by omega)]; omega, by show ((65 : Int) + ((n % 500 : Nat) : Int)) % 65536 = _; omega, by omega, by omega⟩
  obtain ⟨q9, N9, t9, a9, h9⟩ : ∃ q N : Nat, (n : Int).tmod 900 = (q : Int) ∧ IntKind.u16.wrap ((33 : Int) + (q : Int)) = (N : Int) ∧ 33 ≤ N ∧ N ≤ 1000 := ⟨n % 900, 33 + n % 900, by rw [Int.tmod_eq_emod_of_nonneg (by omega)]; omega, by show ((33 : Int) + ((n % 900 : Nat) : Int)) % 65536 = _; omega, by omega, by omega⟩
  obtain ⟨qx, Nx, tx, ax, hx⟩ : ∃ q N : Nat, (n : Int).tmod 50 = (q : Int) ∧ IntKind.u16.wrap ((257 : Int) + (q : Int)) = (N : Int) ∧ 257 ≤ N ∧ N ≤ 400 := ⟨n % 50, 257 + n % 50, by rw [Int.tmod_eq_emod_of_nonneg (by omega)]; omega, by show ((257 : Int) + ((n % 50 : Nat) : Int)) % 65536 = _; omega, by omega, by omega⟩
  obtain ⟨k, hk, tk⟩ : ∃ k : Nat, k < 5 ∧ (which : Int).tmod 5 = (k : Int) := ⟨which % 5, Nat.mod_lt _ (by decide), by rw [Int.tmod_eq_emod_of_nonneg (by omega)]; omega⟩
  clear hG hT
  go_enter Tryz.func4, Tryz.ntmps4
  go_upto_region 3 with (first
    | (go_at_call 9; refine AW.out.mono ?_; rintro e w1 ⟨rfl, hb1⟩; have B1 := Lib.hid hb1; clear hb1)
    | fail)
  have D5 := Lib.hid (dec7_any (N5 : Int) w1 (by omega) (by omega))
  have c5 : IntKind.i64.wrap (N5 : Int) = (N5 : Int) := IntWalk.i64_in _ (by omega)
  go_upto_region 4 with (first
    | (go_at_call 16; refine D5.out.mono ?_; rintro e w' ⟨rfl, rfl⟩)
    | fail)
  go_upto_block 0 with fail
  go_cut [8, 9] from 23 to 68 (fun v8 v9 wc => Hid (LgV v8 v9 ∧ wc = w1))
  case first =>
    have kc : k = 0 ∨ k = 1 ∨ k = 2 ∨ k = 3 ∨ k = 4 := by omega
    rcases kc with rfl | rfl | rfl | rfl | rfl
    · have FIN := Lib.hid (lgB0 N5 h5.1 h5.2)
      have LN := Lib.hid (dg_len (N5 : Int) (by omega) (by omega))
      clear hk tk D5 t9 a9 h9 tx ax hx
      have E0 := Lib.hid (show ([116, 32] ++ Lib.itoa (N5 : Int)) ++ [32, 49, 32, 48, 32, 53] = lg0 N5 ++ (List.replicate 0 [32, 49]).flatten by unfold lg0; simp)
      obtain ⟨l1, e1, s1⟩ := addS' [116, 32] (Lib.itoa (N5 : Int)) (by have := LN.out; simp; omega)
      obtain ⟨l2, e2, s2⟩ := addS' l1 [32, 49, 32, 48, 32, 53] (by have := LN.out; rw [← e1]; simp; omega)
      rw [e1, e2] at E0
      clear e1 e2
      go_wp2_with fail
      go_loop [8, 31] (fun v8 i => ∃ j : Nat, i = .int .u16 (j : Int) ∧ j ≤ N5 ∧ v8 = .string ⟨(lg0 N5 ++ (List.replicate j [32, 49]).flatten).toArray⟩) (fun _ i => N5 - (intOf i).toNat)
      case atStart => exact ⟨0, rfl, Nat.zero_le _, by rw [← E0.out]⟩
      case round =>
        obtain ⟨j, rfl, hj, rfl⟩ := hrel
        clear s1 s2
        by_cases hlt : j < N5
        · have d1 : decide ((j : Int) < (N5 : Int)) = true := decide_eq_true (by omega)
          have wj : IntKind.u16.wrap ((j : Int) + 1) = ((j : Int) + 1) := by show ((j : Int) + 1) % 65536 = _; omega
          have E1 := Lib.hid (show (lg0 N5 ++ (List.replicate j [32, 49]).flatten) ++ [32, 49] = lg0 N5 ++ (List.replicate (j + 1) [32, 49]).flatten by
            rw [List.append_assoc, List.replicate_succ', List.flatten_append]
            rfl)
          have L9 : (lg0 N5 ++ (List.replicate j [32, 49]).flatten).length ≤ 50000 := by
            have := dg_len (N5 : Int) (by omega) (by omega)
            unfold lg0
            simp only [List.length_append, rep_len, List.length_cons, List.length_nil]
            omega
          generalize lg0 N5 ++ (List.replicate j [32, 49]).flatten = l9 at E1 L9
          have s1 := addS l9 [32, 49] (by simp; omega)
          go_wp2_with fail
          go_round
          case rel => exact ⟨j + 1, by go_num, by omega, by rw [← E1.out]⟩
          case measure => simp [intOf]; omega
        · have d1 : decide ((j : Int) < (N5 : Int)) = false := decide_eq_false (by omega)
          obtain rfl : j = N5 := by omega
          go_wp2_with fail
          go_meet
          case rel => exact Lib.hid ⟨⟨_, _, rfl, rfl, FIN.out⟩, rfl⟩
    · have FIN := Lib.hid (lgB1 N9 h9.1 (by omega))
      have D9 := Lib.hid (dec7_any (N9 : Int) w1 (by omega) (by omega))
      have c9 : IntKind.i64.wrap (N9 : Int) = (N9 : Int) := IntWalk.i64_in _ (by omega)
      have s1 := addS [116, 32, 49, 32, 57, 57, 57, 57, 32, 48, 32, 53, 32] (Lib.itoa (N9 : Int)) (by have := dg_len (N9 : Int) (by omega) (by omega); simp; omega)
      clear hk tk D5 t5 a5 h5 tx ax hx
      go_wp2_with (first | (go_at_call 16; refine D9.out.mono ?_; rintro e w' ⟨rfl, rfl⟩) | fail)
      go_meet
      case rel => exact Lib.hid ⟨⟨_, _, rfl, rfl, FIN.out⟩, rfl⟩
    · obtain ⟨M, c10, c11, hB, hM0, hM1⟩ := top_M n hn
      have FIN := Lib.hid hB
      have D9 := Lib.hid (dec7_any (M : Int) w1 (Int.le_trans (by decide) hM0) (Int.le_trans hM1 (by decide)))
      have c9 : IntKind.i64.wrap (n : Int) = (n : Int) := IntWalk.i64_in _ (by omega)
      have LN := Lib.hid (dg_len (M : Int) (Int.le_trans (by decide) hM0) (Int.le_trans hM1 (by decide)))
      obtain ⟨l1, e1, s1⟩ := addS' [116, 32, 49, 32, 49, 32, 48, 32] (Lib.itoa (M : Int)) (by have h := LN.out; clear c10 c11 c9; simp; omega)
      obtain ⟨l2, e2, s2⟩ := addS' l1 [32, 49] (by have h := LN.out; clear c10 c11 c9; rw [← e1]; simp; omega)
      rw [e1, e2] at FIN
      clear e1 e2
      clear hk tk D5 t5 a5 h5 tx ax hx t9 a9 h9 hM0 hM1 hB
      go_wp2_with (first | (go_at_call 16; refine D9.out.mono ?_; rintro e w' ⟨rfl, rfl⟩) | fail)
      go_meet
      case rel => exact Lib.hid ⟨⟨_, _, rfl, rfl, FIN.out⟩, rfl⟩
    · have FIN := Lib.hid (lgB3 Nx hx.1 hx.2)
      have D9 := Lib.hid (dec7_any (Nx : Int) w1 (by omega) (by omega))
      have c9 : IntKind.i64.wrap (Nx : Int) = (Nx : Int) := IntWalk.i64_in _ (by omega)
      have LN := Lib.hid (dg_len (Nx : Int) (by omega) (by omega))
      clear hk tk D5 t9 a9 h9 t5 a5 h5
      obtain ⟨l1, e1, s1⟩ := addS' [116, 32, 49, 32, 49, 32] (Lib.itoa (Nx : Int)) (by have := LN.out; simp; omega)
      obtain ⟨l2, e2, s2⟩ := addS' l1 [32, 53, 32, 49] (by have := LN.out; rw [← e1]; simp; omega)
      have E0 := Lib.hid (show ([116, 32, 49, 32, 49, 32] ++ Lib.itoa (Nx : Int)) ++ [32, 53, 32, 49] = lg3 Nx ++ (List.replicate 0 [32, 48, 32, 48, 32, 48]).flatten by unfold lg3; simp)
      rw [e1, e2] at E0
      clear e1 e2
      go_wp2_with (first | (go_at_call 16; refine D9.out.mono ?_; rintro e w' ⟨rfl, rfl⟩) | fail)
      go_loop [8, 64] (fun v8 i => ∃ j : Nat, i = .int .u16 (j : Int) ∧ j ≤ Nx ∧ v8 = .string ⟨(lg3 Nx ++ (List.replicate j [32, 48, 32, 48, 32, 48]).flatten).toArray⟩) (fun _ i => Nx - (intOf i).toNat)
      case atStart => exact ⟨0, rfl, Nat.zero_le _, by rw [← E0.out]⟩
      case round =>
        obtain ⟨j, rfl, hj, rfl⟩ := hrel
        clear s1 s2
        by_cases hlt : j < Nx
        · have d1 : decide ((j : Int) < (Nx : Int)) = true := decide_eq_true (by omega)
          have wj : IntKind.u16.wrap ((j : Int) + 1) = ((j : Int) + 1) := by show ((j : Int) + 1) % 65536 = _; omega
          have E1 := Lib.hid (show (lg3 Nx ++ (List.replicate j [32, 48, 32, 48, 32, 48]).flatten) ++ [32, 48, 32, 48, 32, 48] = lg3 Nx ++ (List.replicate (j + 1) [32, 48, 32, 48, 32, 48]).flatten by
            rw [List.append_assoc, List.replicate_succ', List.flatten_append]
            rfl)
          have L9 : (lg3 Nx ++ (List.replicate j [32, 48, 32, 48, 32, 48]).flatten).length ≤ 50000 := by
            have := LN.out
            unfold lg3
            simp only [List.length_append, rep_len, List.length_cons, List.length_nil]
            omega
          generalize lg3 Nx ++ (List.replicate j [32, 48, 32, 48, 32, 48]).flatten = l9 at E1 L9
          have s1 := addS l9 [32, 48, 32, 48, 32, 48] (by simp; omega)
          go_wp2_with fail
          go_round
          case rel => exact ⟨j + 1, by go_num, by omega, by rw [← E1.out]⟩
          case measure => simp [intOf]; omega
        · have d1 : decide ((j : Int) < (Nx : Int)) = false := decide_eq_false (by omega)
          obtain rfl : j = Nx := by omega
          go_wp2_with fail
          go_meet
          case rel => exact Lib.hid ⟨⟨_, _, rfl, rfl, FIN.out⟩, rfl⟩
    · have FIN := Lib.hid lgB4
      clear hk tk D5 t5 a5 h5 tx ax hx t9 a9 h9
      go_wp2_with fail
      go_meet
      case rel => exact Lib.hid ⟨⟨_, _, rfl, rfl, FIN.out⟩, rfl⟩
  obtain ⟨⟨l, p, rfl, rfl, hLB⟩, hwc⟩ := hcut.out
  rw [hwc]
  clear hcut hwc D5 t5 a5 h5 tx ax hx t9 a9 h9 hk tk
  have HLB := Lib.hid hLB
  have HRX := Lib.hid (rdX_of hLB)
  have l5 : l.length ≤ 5000 := hLB.2
  clear hLB
  go_upto_if 69 with fail
  go_cut [8, 9, 10] from 69 to 74 (fun v8 v9 v10 wc => Hid (RdV2 v8 v9 v10 ∧ wc = w1))
  case first =>
    cases wrong with
    | false =>
      go_wp2_with fail
      go_meet
      case rel => exact Lib.hid ⟨⟨_, _, _, rfl, rfl, rfl, HRX.out.1, by omega⟩, rfl⟩
    | true =>
      obtain ⟨l2, e2, s2⟩ := addS' l [32, 120] (by simp; omega)
      have HX2 : Hid (RdX l2 ((l2.length : Int) - 1) 4 ∧ l2.length ≤ 6000) := Lib.hid (by
        have h := HRX.out.2
        rw [e2] at h
        have e3 : l2.length = l.length + 2 := by rw [← e2]; simp
        rw [← e3] at h
        exact ⟨h, by omega⟩)
      have z2 : ((⟨l2.toArray⟩ : ByteArray).size : Int) = (l2.length : Int) := by show ((l2.toArray.size : Nat) : Int) = _; rw [List.size_toArray]
      have z3 : (⟨l2.toArray⟩ : ByteArray).size = l2.length := by show l2.toArray.size = _; rw [List.size_toArray]
      have z4 : l2.length ≤ 6000 := HX2.out.2
      have z5 : 1 ≤ l2.length := by rw [← e2]; simp
      clear e2
      go_wp2_with fail
      go_meet
      case rel => exact Lib.hid ⟨⟨_, _, _, rfl, rfl, rfl, HX2.out.1, HX2.out.2⟩, rfl⟩
  obtain ⟨⟨l2, p2, e2, rfl, rfl, rfl, hRX, hl2⟩, hwc⟩ := hcut.out
  rw [hwc]
  clear hcut hwc
  obtain ⟨X, hX⟩ : ∃ X : ByteArray, (⟨l2.toArray⟩ : ByteArray) = X := ⟨_, rfl⟩
  have xs : X.size = l2.length := by rw [← hX]; show l2.toArray.size = _; rw [List.size_toArray]
  have CV := Lib.run_convert_string_bytes (P := Tryz.prog) w1 9 22 5 X Tryz.underlying9 Tryz.underlying22 Tryz.underlying5
  have nb : Below w1.heap.size w1 (Lib.bytesWorld w1 5 X) := ⟨rfl, rfl, rfl, by rw [Lib.bytesWorld_size]; omega, fun j hj => Lib.bytesWorld_at_old w1 5 X j hj⟩
  have BY : BS (Lib.bytesWorld w1 5 X) (some ⟨w1.heap.size, 0, none⟩) X := .inr ⟨_, 0, rfl, by rw [Lib.bytesWorld_size]; omega, fun i hi => by
    rw [Nat.zero_add, Lib.bytesWorld_cell w1 5 X i hi]
    simp [ByteArray.getElem_eq_getElem_data, List.getD_eq_getElem?_getD, hi]
    ⟩
  have B2 := Lib.hid (then_ B1.out nb)
  obtain ⟨cap, hcap⟩ : ∃ cap, grownCap w1 X.size 0 5 = cap := ⟨_, rfl⟩
  rw [hcap] at CV
  have RD := Lib.hid (read_lg hRX hl2 (some ⟨w1.heap.size, 0, none⟩) cap _ (hX.symm ▸ BY) (GB.out _ B2.out).1 (GB.out _ B2.out).2)
  rw [← xs] at RD
  rw [hX]
  clear hRX hl2 xs hX hcap nb BY
  have HLN : Lib.bytesWorld w1 5 X = Lib.bytesWorld w1 5 X := rfl
  clear HLN
  go_upto_region 28 with (first
    | (go_at_call 11; refine RD.out.mono ?_; rintro e w2 ⟨rfl, hb2⟩; have B3 := Lib.hid (then_ B2.out hb2); clear hb2)
    | fail)
  go_wp2_with fail
  go_ret
  exact ⟨rfl, B3.out⟩
end Go.Proofs.YteocbgcgfllieaaGreatDoor
