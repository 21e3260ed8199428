/- The walk of ScanNil. Conditions: the library's ErrRange holds an error; its table of powers stands. -/
import Derived.Test.YtcfendilaogjlaaDoorSe1
namespace Go.Proofs.YtcfendilaogjlaaDoor
open Go.RowKit
set_option linter.unusedVariables false
/-- Noughts before a numeral. -/
def nof (d : List UInt8) : Nat → List UInt8
  | 0 => d
  | k + 1 => 48 :: nof d k
theorem nof_len (d : List UInt8) (k : Nat) : (nof d k).length = d.length + k := by
  induction k with
  | zero => rfl
  | succ k ih => simp [nof, ih]; omega
theorem digs_plain (d : List UInt8) (h : d.head? ≠ some 45) : digs d = d := by
  unfold digs
  rw [if_neg h]
theorem nof_ok (d : List UInt8) (h1 : d ≠ []) (h2 : ∀ c ∈ d, 48 ≤ c.toNat ∧ c.toNat ≤ 57) (k : Nat) :
    nof d k ≠ [] ∧ (∀ c ∈ nof d k, 48 ≤ c.toNat ∧ c.toNat ≤ 57) ∧ numD (nof d k) = numD d := by
  induction k with
  | zero => exact ⟨h1, h2, rfl⟩
  | succ k ih =>
    refine ⟨by simp [nof], ?_, ?_⟩
    · intro c hc
      simp only [nof, List.mem_cons] at hc
      rcases hc with rfl | hc
      · decide
      · exact ih.2.1 c hc
    · rw [← ih.2.2]
      rfl
theorem read_nof (n : Nat) (k : Nat) : readV (nof (Lib.decDigits n) k) = min (n : Int) 4611686018427387904 ∧ readE (nof (Lib.decDigits n) k) = 0 := by
  obtain ⟨h1, h2, h3⟩ := dec_digs n
  obtain ⟨g1, g2, g3⟩ := nof_ok _ h1 h2 k
  rw [h3] at g3
  generalize nof (Lib.decDigits n) k = l at g1 g2 g3 ⊢
  have hh : l.head? ≠ some 45 := by
    intro e
    have := g2 45 (List.mem_of_mem_head? e)
    revert this
    decide
  have hd := digs_plain l hh
  have ho : okD (digs l) = true := by rw [hd]; exact (okD_iff _).2 ⟨g1, g2⟩
  unfold readV readE
  rw [if_pos ho, if_neg hh, if_pos ho, hd, g3]
  exact ⟨by omega, rfl⟩
theorem nof_one (d : List UInt8) (k : Nat) : (⟨#[48]⟩ : ByteArray) ++ ⟨(nof d k).toArray⟩ = ⟨(nof d (k + 1)).toArray⟩ := str_app [48] (nof d k)
set_option maxRecDepth 100000 in
set_option maxHeartbeats 4000000 in
theorem nil_walk (n k : Int) (w : World) (hG : GlobR w) (hT : TabP w) (hn0 : -9223372036854775808 ≤ n) (hn1 : n ≤ 9223372036854775807) (hk0 : 0 ≤ k) (hk1 : k ≤ 255) :
    Calls Tryd.prog 6 #[.int .i64 n, .int .u8 k] w fun e w' => e = .returned (.bool true) ∧ Below w.heap.size w w' := by
  obtain ⟨m, hm⟩ : ∃ m : Nat, max n 0 = (m : Int) := ⟨(max n 0).toNat, by omega⟩
  have hm1 : (m : Int) ≤ 9223372036854775807 := by omega
  have hm0 : m < 9223372036854775808 := by omega
  have ei : Lib.itoa (m : Int) = Lib.decDigits m := by unfold Lib.itoa; rw [if_neg (by omega)]; rfl
  have HW := Lib.hid (fun W h => write_any (m : Int) W (by omega) hm1 h)
  have hl := dec_len m (by omega)
  rw [ei] at HW
  have HB := Lib.hid (fun W j (hj : j ≤ 30) h => read_any ⟨(nof (Lib.decDigits m) j).toArray⟩ W (by show (nof (Lib.decDigits m) j).toArray.size ≤ _; rw [List.size_toArray, nof_len]; omega) h)
  have HR := Lib.hid (read_nof m)
  generalize Lib.decDigits m = ds at HW HB HR hl
  obtain ⟨K, hK⟩ : ∃ K : Nat, k % 30 = (K : Int) := ⟨(k % 30).toNat, by omega⟩
  have hK2 : K < 30 := by omega
  have HG := Lib.hid hG
  have HT := Lib.hid hT
  clear hG hT ei hn0 hn1
  go_enter Tryd.func6, Tryd.ntmps6
  go_wp2_with fail
  refine (awake6_true _).mono ?_
  rintro e w1 ⟨rfl, b1⟩
  have B1 := Lib.hid b1
  clear b1
  go_wp2_with fail
  refine (HW.out _ (tab_below HT.out B1.out)).mono ?_
  rintro e w2 ⟨rfl, b2⟩
  have B2 := Lib.hid (then_ B1.out b2)
  clear b2
  go_wp2_with fail
  go_loopw [5, 23] (fun t i wr => ∃ j : Nat, j ≤ K ∧ i = .int .u8 (j : Int) ∧ t = .string ⟨(nof ds j).toArray⟩ ∧ Below w.heap.size w wr) (fun _ i _ => K - (intOf i).toNat)
  case atStart => exact ⟨0, Nat.zero_le _, rfl, rfl, B2.out⟩
  case round =>
    obtain ⟨j, hj, rfl, rfl, hb⟩ := hrel
    have BE := Lib.hid hb
    clear hb
    by_cases hlt : j < K
    · have i1 : (j : Int) < (K : Int) := by omega
      have i2 : IntKind.u8.wrap ((j : Int) + 1) = (j : Int) + 1 := by show ((j : Int) + 1) % 256 = _; omega
      have hadd := run_string_add_sum (P := Tryd.prog) (w := wr) ⟨#[48]⟩ ⟨(nof ds j).toArray⟩ (by show 1 + (nof ds j).toArray.size ≤ _; rw [List.size_toArray, nof_len]; omega)
      have HAPP := Lib.hid (nof_one ds j)
      go_wp2_with fail
      go_roundw
      case rel => exact ⟨j + 1, by omega, by go_num, by rw [← HAPP.out], BE.out⟩
      case measure => simp [intOf]; omega
    · obtain rfl : j = K := by omega
      have i1 : ¬ (j : Int) < (j : Int) := by omega
      have HBJ := Lib.hid (HB.out wr j (by omega) (HG.out.below BE.out))
      obtain ⟨v1, v2⟩ := HR.out j
      have HBJ2 := HBJ.out
      rw [v1, v2] at HBJ2
      have HBK := Lib.hid HBJ2
      clear v1 v2 HBJ2
      generalize (⟨(nof ds j).toArray⟩ : ByteArray) = tt at HBK ⊢
      go_wp2_with fail
      refine HBK.out.mono ?_
      rintro e w3 ⟨rfl, b3⟩
      have B3 := Lib.hid (then_ BE.out b3)
      clear b3
      go_wp2_with (first | (go_at_call 13; refine (word_nil _).mono ?_; rintro e w' ⟨rfl, rfl⟩) | (go_at_call 17; refine (int_nil _).mono ?_; rintro e w' ⟨rfl, rfl⟩) | (go_at_call 14; refine (at_nil _).mono ?_; rintro e w' ⟨rfl, rfl⟩) | (go_at_call 16; refine (more_nil _).mono ?_; rintro e w5 ⟨rfl, g5⟩; have G5 := Lib.hid g5; clear g5))
      go_ret
      exact ⟨rfl, below_grownO B3.out G5.out (Nat.le_refl _) (by intro g e; cases e)⟩
