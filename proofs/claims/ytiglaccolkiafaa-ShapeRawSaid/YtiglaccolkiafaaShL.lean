/- The walk of ShapeSteps. No condition. -/
import Derived.Test.YtiglaccolkiafaaShK
import Derived.Deep.RegionHeld3
namespace Go.Proofs.Ytiglaccolkiafaa
open Go.RowKit
set_option linter.unusedVariables false
theorem prodL_small {l : List Nat} (h : ∀ n ∈ l, 1 ≤ n ∧ n ≤ 4) (h3 : l.length ≤ 3) : 1 ≤ prodL l ∧ prodL l ≤ 64 := by
  refine ⟨prodL_pos fun n hn => (h n hn).1, ?_⟩
  have h1 : prodL l ≤ 4 ^ l.length := prodL_le fun n hn => (h n hn).2
  have h2 : 4 ^ l.length ≤ 4 ^ 3 := Nat.pow_le_pow_right (by omega) h3
  have h4 : (4 : Nat) ^ 3 = 64 := by decide
  omega
/-- What a round's region reads, and that nothing older has turned. -/
abbrev HoldS (wr : World) (g : Nat) (l : List Nat) (q : Addr) (x : Int) (W : World) : Prop :=
  W.cell? ⟨g, 0, none⟩ = some (.int .i64 (l.length : Int)) ∧ W.cell? ⟨g, 1, none⟩ = some (szV l 0) ∧ W.cell? ⟨g, 2, none⟩ = some (szV l 1) ∧ W.cell? ⟨g, 3, none⟩ = some (szV l 2) ∧
  W.cell? ⟨g, 4, none⟩ = some (szV l 3) ∧ W.cell? ⟨g, 5, none⟩ = some (szV l 4) ∧ W.cell? ⟨g, 6, none⟩ = some (szV l 5) ∧ W.cell? q = some (.int .i64 x) ∧ Below wr.heap.size wr W
theorem holdS {wr W W' : World} {g : Nat} {l : List Nat} {q : Addr} {x : Int} (h : HoldS wr g l q x W) (hb : Below W.heap.size W W') : HoldS wr g l q x W' := by
  obtain ⟨h0, h1, h2, h3, h4, h5, h6, h7, h8⟩ := h
  have l0 : g < W.heap.size := World.block_lt_of_cell? W _ h0
  have l1 : q.block < W.heap.size := World.block_lt_of_cell? W _ h7
  exact ⟨(hb.cell (p := ⟨_, 0, none⟩) l0).trans h0, (hb.cell (p := ⟨_, 1, none⟩) l0).trans h1, (hb.cell (p := ⟨_, 2, none⟩) l0).trans h2, (hb.cell (p := ⟨_, 3, none⟩) l0).trans h3, (hb.cell (p := ⟨_, 4, none⟩) l0).trans h4,
    (hb.cell (p := ⟨_, 5, none⟩) l0).trans h5, (hb.cell (p := ⟨_, 6, none⟩) l0).trans h6, (hb.cell l1).trans h7, h8.trans (hb.mono h8.size)⟩
theorem holdS_below {wr W : World} {g : Nat} {l : List Nat} {q : Addr} {x : Int} (h : HoldS wr g l q x W) : Below wr.heap.size wr W := h.2.2.2.2.2.2.2.2
theorem holdS_cell {wr W : World} {g : Nat} {l : List Nat} {q : Addr} {x : Int} (h : HoldS wr g l q x W) : W.cell? q = some (.int .i64 x) := h.2.2.2.2.2.2.2.1
theorem holdS_new {wr : World} {g : Nat} {l : List Nat} {q : Addr} {x : Int} (h : ShAt wr g l) (hq : wr.cell? q = some (.int .i64 x)) : HoldS wr g l q x wr :=
  ⟨h.c0, h.c1, h.c2, h.c3, h.c4, h.c5, h.c6, hq, Below.refl _ _⟩
theorem nth_tup {l : List Nat} {i p : Nat} (h : ∀ n ∈ l, 1 ≤ n) (hp : p < l.length) : nth (tupL l i) p < nth l p := (inL_iff.1 (tupL_in h i)).2 p hp
/-- The number of the places from one on. -/
def numFrom (l t : List Nat) (p : Nat) : Nat := numL (l.drop p) (t.drop p)
theorem numFrom_step {l t : List Nat} (h : t.length = l.length) {p : Nat} (hp : p < l.length) : numFrom l t p = numFrom l t (p + 1) + nth t p * prodL (l.drop (p + 1)) := by
  unfold numFrom
  rw [List.drop_eq_getElem_cons hp, List.drop_eq_getElem_cons (l := t) (by omega)]
  show t[p] * prodL (l.drop (p + 1)) + numL (l.drop (p + 1)) (t.drop (p + 1)) = _
  unfold nth
  rw [List.getD_eq_getElem?_getD, List.getElem?_eq_getElem (show p < t.length by omega)]
  show t[p] * _ + _ = _ + t[p] * _
  omega
theorem drop_small {l : List Nat} {c : Nat} (h : ∀ n ∈ l, 1 ≤ n ∧ n ≤ c) (p : Nat) : ∀ n ∈ l.drop p, 1 ≤ n ∧ n ≤ c := fun n hn => h n (List.mem_of_mem_drop hn)
theorem inL_drop {l t : List Nat} (h : InL l t) (p : Nat) : InL (l.drop p) (t.drop p) := by
  rw [inL_iff] at h ⊢
  refine ⟨by simp [h.1], fun i hi => ?_⟩
  rw [nth_drop, nth_drop]
  exact h.2 (p + i) (by simp at hi; omega)
theorem size_ok' (l : List Nat) (i : Int) (p N : Nat) (w : World) (hi : i = p) (h6 : l.length ≤ 6) (hp : p < l.length) (hN : nth l p = N) :
    Calls Try.prog 21 #[shV l, .int .i64 i] w fun e w' => e = .returned (.int .i64 (N : Int)) ∧ Below w.heap.size w w' := by
  subst hi hN
  exact size_yes l p w h6 hp
theorem tuple_ok' (l : List Nat) (x : Int) (i : Nat) (w : World) (hx : x = i) (h6 : l.length ≤ 6) (h32 : ∀ n ∈ l, 1 ≤ n ∧ n ≤ 32) (h : i < prodL l) :
    Calls Try.prog 17 #[shV l, .int .i64 x] w fun e w' => (∃ v, e = .returned (.tuple #[v, .int .i64 0]) ∧ Own w' w.heap.size v (tupL l i)) ∧ Below w.heap.size w w' := by
  subst hx
  exact tuple_ok l i w h6 h32 h
set_option maxHeartbeats 4000000 in
theorem steps_walk (A : Option Addr) (n c : Nat) (z : Nat → Int) (x : Int) (w : World) (hn : (n : Int) ≤ 9223372036854775807) (hz : Bytes w A n z) (x0 : 0 ≤ x) (x1 : x ≤ 65535) :
    Calls Try.prog 6 #[.slice A n c, .int .u16 x] w fun e w' => e = .returned (.bool true) ∧ Below w.heap.size w w' := by
  have HZ := Lib.hid hz
  have HM := Lib.hid (fun W (h : Bytes W A n z) => small_any A n c z W hn h)
  have hl := smL_small z (min n 3)
  have hlen : (smL z (min n 3)).length ≤ 3 := by rw [smL_len]; omega
  generalize smL z (min n 3) = l at HM hl hlen
  clear hz hn
  have HL := Lib.hid hl
  have h6 : l.length ≤ 6 := by omega
  have h32 : ∀ n ∈ l, 1 ≤ n ∧ n ≤ 32 := fun n hn => by have := hl n hn; omega
  have H32 := Lib.hid h32
  obtain ⟨P, hP⟩ : ∃ P, prodL l = P := ⟨_, rfl⟩
  have hP1 := (prodL_small hl hlen).1
  have hP2 := (prodL_small hl hlen).2
  rw [hP] at hP1 hP2
  have HP := Lib.hid hP
  clear hP hl h32
  go_enter Try.func6, Try.ntmps6
  go_wp2_with fail
  refine (awake_true _).mono ?_
  rintro e w1 ⟨rfl, b1⟩
  have B1 := Lib.hid b1
  clear b1
  go_wp2_with fail
  refine (HM.out _ (HZ.out.below B1.out)).mono ?_
  rintro e w2 ⟨⟨v, rfl, hO⟩, b2⟩
  obtain ⟨A2, c2, rfl, hI2⟩ := hO.form
  have B2 := Lib.hid (then_ B1.out b2)
  have I2 := Lib.hid hI2
  clear hO hI2 b2
  go_wp2_with fail
  refine (new_mid' A2 l.length c2 l w2 rfl h6 I2.out H32.out (by rw [HP.out]; omega)).mono ?_
  rintro e w3 ⟨rfl, b3⟩
  have B3 := Lib.hid (then_ B2.out b3)
  have I3 := Lib.hid (I2.out.below b3 (Nat.le_refl _))
  clear b3
  go_upto_region 5 with ((with_reducible show wpList _ _ _ (Oper.mk none (.store 28 _ _) _ _ _ _ :: _) _ _)
                         refine wpList_store_row rfl 28 (.tmp 6) (.tmp 21) rfl w3.heap.size (shC l) rfl rfl 28 (shC0 0) (heap_alloc_new _ _) (by kernel_rfl) rfl (sh_one l) ?_
                         rw [World.setRow_alloc_new])
  have HS := Lib.hid (ShAt.new w3 l)
  have B4 := Lib.hid (then_ B3.out (new_val w3 (shO l)))
  have I4 := Lib.hid (I3.out.below (new_val w3 (shO l)) (Nat.le_refl _))
  generalize w3.alloc (.cells (shC l) 28) = w4 at HS B4 I4 ⊢
  obtain ⟨c0, c1, c2', c3, c4, c5, c6, hlt, hfz⟩ := HS.out
  go_wp2_with fail
  refine (count_below l w4 h6 (fun n hn => (H32.out n hn).2) P HP.out).mono ?_
  rintro e w5 ⟨rfl, b5⟩
  have HS5 := Lib.hid (HS.out.next b5)
  have B5 := Lib.hid (then_ B4.out b5)
  have I5 := Lib.hid (I4.out.below b5 (Nat.le_refl _))
  clear b5 c0 c1 c2' c3 c4 c5 c6 hlt hfz
  obtain ⟨c0, c1, c2', c3, c4, c5, c6, hlt, hfz⟩ := HS5.out
  go_wp2_with fail
  obtain ⟨k, hk, hkP⟩ : ∃ k : Nat, x % (P : Int) = k ∧ k < P :=
    ⟨(x % (P : Int)).toNat, (Int.toNat_of_nonneg (Int.emod_nonneg _ (by omega))).symm, by have := Int.emod_lt_of_pos x (show (0 : Int) < P by omega); have := Int.emod_nonneg x (show (P : Int) ≠ 0 by omega); omega⟩
  rw [hk]
  clear hk c0 c1 c2' c3 c4 c5 c6 hlt hfz
  refine (tuple_ok l k w5 h6 H32.out (by rw [HP.out]; exact hkP)).mono ?_
  rintro e w6 ⟨⟨v, rfl, hO⟩, b6⟩
  obtain ⟨A3, c3, rfl, hT⟩ := hO.form
  have HS6 := Lib.hid (HS5.out.next b6)
  have B6 := Lib.hid (then_ B5.out b6)
  have I6 := Lib.hid (I5.out.below b6 (Nat.le_refl _))
  have T6 := Lib.hid hT
  have TL := Lib.hid (tupL_length l k)
  have TI := Lib.hid (tupL_in (fun n hn => (H32.out n hn).1) (l := l) k)
  have TN : Hid (numL l (tupL l k) = k) := Lib.hid (num_tup (by rw [HP.out]; exact hkP))
  generalize tupL l k = t at T6 TL TI TN ⊢
  rw [TL.out]
  clear b6 hO hT
  go_wp2_with fail
  have hl3 : (l.length : Int) ≤ 3 := by omega
  have hw : IntKind.i64.wrap ((l.length : Int) - 1) = (l.length : Int) - 1 := IntWalk.i64_in _ (by omega)
  go_loopw [11, 12, 13] (fun sum step p wr => ∃ m : Nat, m ≤ l.length ∧ p = .int .i64 ((m : Int) - 1) ∧ step = .int .i64 (prodL (l.drop m) : Nat) ∧ sum = .int .i64 (numFrom l t m : Nat) ∧ Below w6.heap.size w6 wr) (fun _ _ p _ => ((intOf p) + 1).toNat)
  case atStart => exact ⟨l.length, Nat.le_refl _, rfl, by simp [prodL], by simp [numFrom, numL], Below.refl _ _⟩
  case round =>
    obtain ⟨m, hm, rfl, rfl, rfl, hB⟩ := hrel
    have HSr := Lib.hid (HS6.out.next hB)
    have Br := Lib.hid (then_ B6.out hB)
    have Ir := Lib.hid (I6.out.below hB (Nat.le_refl _))
    have Tr := Lib.hid (T6.out.below hB (Nat.le_refl _))
    have HB := Lib.hid hB
    clear hB
    rcases m with _ | p
    · have e1 : ((0 : Nat) : Int) - 1 = -1 := by omega
      rw [e1]
      clear e1
      have HPP : Hid (((prodL (l.drop 0) : Nat) : Int) = (P : Int)) := Lib.hid (by rw [List.drop_zero, HP.out])
      have HNN : Hid (((numFrom l t 0 : Nat) : Int) = (k : Int)) := Lib.hid (by unfold numFrom; rw [List.drop_zero, List.drop_zero, TN.out])
      rw [HPP.out, HNN.out]
      obtain ⟨c0, c1, c2', c3, c4, c5, c6, hlt, hfz⟩ := HSr.out
      go_wp2_with (go_at_call 12; refine (count_below l _ h6 (fun n hn => (H32.out n hn).2) P HP.out).mono ?_; rintro e w7 ⟨rfl, b7⟩)
      go_ret
      exact ⟨rfl, then_ Br.out b7⟩
    · have e1 : ((p + 1 : Nat) : Int) - 1 = (p : Int) := by omega
      rw [e1]
      clear e1
      have hp : p < l.length := hm
      obtain ⟨gA, oA, rfl, hA⟩ := Ir.out.at_ hp
      obtain ⟨gT, oT, rfl, hT⟩ := Tr.out.at_ (by rw [TL.out]; exact hp)
      have HH := Lib.hid (holdS_new HSr.out hA)
      have KS := Lib.hid (fun W => step_ok' l (p : Int) p _ W rfl h6 (fun n hn => (H32.out n hn).2) hp rfl)
      have KZ := Lib.hid (fun W => size_ok' l (p : Int) p _ W rfl h6 hp rfl)
      have hn := HL.out _ (nth_mem hp)
      have hv := (inL_iff.1 TI.out).2 p hp
      have hd := prodL_small (drop_small HL.out p) (by simp; omega)
      have hd1 := prodL_small (drop_small HL.out (p + 1)) (by simp; omega)
      have hs := (inL_drop TI.out (p + 1)).num_lt
      have HD := Lib.hid (prodL_drop l p hp)
      have HF := Lib.hid (numFrom_step TL.out hp)
      have hf := Lib.hid (show numL (l.drop (p + 1)) (t.drop (p + 1)) = numFrom l t (p + 1) from rfl)
      rw [hf.out] at hs
      have hmul : nth t p * prodL (l.drop (p + 1)) ≤ 256 := by
        have := Nat.mul_le_mul (show nth t p ≤ 4 by omega) hd1.2
        omega
      have HI := Lib.hid hA
      clear hA hm hf hd
      generalize nth l p = N at hn hv HD HI KZ HH
      generalize nth t p = V at hT hv HF hmul
      generalize numFrom l t (p + 1) = F at hs HF ⊢
      generalize prodL (l.drop (p + 1)) = D at hd1 HD HF hs hmul KS ⊢
      obtain ⟨hd1, hd2⟩ := hd1
      have hm1 : (V : Int) * (D : Int) ≤ 256 := by rw [← Int.natCast_mul]; omega
      have hm2 : 0 ≤ (V : Int) * (D : Int) := by rw [← Int.natCast_mul]; omega
      have hm3 : (D : Int) * (N : Int) ≤ 256 := by rw [← Int.natCast_mul]; have := Nat.mul_le_mul hd2 hn.2; omega
      have hm4 : 0 ≤ (D : Int) * (N : Int) := by rw [← Int.natCast_mul]; omega
      have HT' := Lib.hid hT
      clear hT hw
      go_upto_region 11 with fail
      go_region_held3 (fun W => HoldS wr w3.heap.size l ⟨gA, oA + p, none⟩ (N : Int) W) (first | exact holdS HH.out ((Below.refl _ _).drew) | exact holdS (by assumption) (by assumption))
        ((first | (go_at_call 19; refine (KS.out _).mono ?_; rintro e w' ⟨rfl, hb⟩) | (go_at_call 21; refine (KZ.out _).mono ?_; rintro e w' ⟨rfl, hb⟩)))
      obtain ⟨hA7, b7⟩ : w'.cell? ⟨gA, oA + p, none⟩ = some (.int .i64 (N : Int)) ∧ Below wr.heap.size wr w' := ⟨holdS_cell (g := w3.heap.size) (l := l) (by assumption), holdS_below (g := w3.heap.size) (l := l) (q := ⟨gA, oA + p, none⟩) (x := (N : Int)) (by assumption)⟩
      have hT7 : w'.cell? ⟨gT, oT + p, none⟩ = some (.int .i64 (V : Int)) := (b7.cell (World.block_lt_of_cell? _ _ HT'.out)).trans HT'.out
      have B7 := Lib.hid (b7)
      clear b7
      go_wp2
      go_roundw
      case rel => exact ⟨p, by omega, rfl, by rw [HD.out, Int.natCast_mul, Int.mul_comm], by rw [HF.out, Int.natCast_add, Int.natCast_mul], then_ HB.out B7.out⟩
      case measure => simp [intOf] <;> omega
end Go.Proofs.Ytiglaccolkiafaa
