/- Contracts of the calls that write numbers (no statement of its own). Condition: the library's table of powers of ten is laid. -/
import Derived.Test.YtcfendilaogjlaaDoorScB
import Derived.Lib.LaidTab
import Derived.Lib.AppendIntMem
import Derived.Laws.Concat
namespace Go.Proofs.YtcfendilaogjlaaDoor
open Go.RowKit
set_option linter.unusedVariables false
abbrev TabP (W : World) : Prop := Lib.TabIs Tryd.prog W "internal/strconv.uint64pow10" .u64 Lib.pow10Tab
theorem tab_below {W W' : World} (h : TabP W) (hb : Below W.heap.size W W') : TabP W' := by
  unfold TabP Lib.TabIs World.var? at h ⊢
  cases hg : Tryd.prog.globalNamed "internal/strconv.uint64pow10" with
  | none => simp [hg] at h
  | some g =>
    simp only [hg, Option.bind_some] at h ⊢
    have hlt : g < W.heap.size := by
      rcases Nat.lt_or_ge g W.heap.size with h' | h'
      · exact h'
      · simp [Array.getElem?_eq_none h'] at h
    rw [hb.block g hlt]
    exact h
theorem dec_digs (u : Nat) : Lib.decDigits u ≠ [] ∧ (∀ c ∈ Lib.decDigits u, 48 ≤ c.toNat ∧ c.toNat ≤ 57) ∧ numD (Lib.decDigits u) = u := by
  induction u using Nat.strongRecOn with
  | _ u ih =>
    rw [Lib.decDigits]
    have hc : ∀ k, k < 10 → (UInt8.ofNat (48 + k)).toNat = 48 + k := fun k hk => by
      rw [UInt8.toNat_ofNat']
      exact Nat.mod_eq_of_lt (by omega)
    split
    · rename_i h
      refine ⟨by simp, ?_, ?_⟩
      · intro c hm
        rw [List.mem_singleton.1 hm, hc u h]
        omega
      · show stepD 0 _ = u
        unfold stepD
        rw [hc u h]
        omega
    · rename_i h
      obtain ⟨h1, h2, h3⟩ := ih (u / 10) (by omega)
      refine ⟨by simp, ?_, ?_⟩
      · intro c hm
        rw [List.mem_append] at hm
        rcases hm with hm | hm
        · exact h2 c hm
        · rw [List.mem_singleton.1 hm, hc _ (by omega)]
          omega
      · unfold numD at h3 ⊢
        rw [List.foldl_append, h3]
        show stepD (u / 10) _ = u
        unfold stepD
        rw [hc _ (by omega)]
        omega
theorem dec_len (u : Nat) (h : u < 18446744073709551616) : (Lib.decDigits u).length ≤ 20 := by
  have key : ∀ k u, u < 10 ^ (k + 1) → (Lib.decDigits u).length ≤ k + 1 := by
    intro k
    induction k with
    | zero =>
      intro u hu
      rw [Lib.decDigits, dif_pos (by omega)]
      exact Nat.le_refl _
    | succ k ih =>
      intro u hu
      rw [Lib.decDigits]
      split
      · simp
      · rw [List.length_append]
        have := ih (u / 10) (by rw [Nat.pow_succ] at hu; omega)
        simp
        omega
  exact key 19 u (by omega)
/-- What is written is read again. -/
theorem read_itoa (n : Int) : readV (Lib.itoa n) = min (max n (-4611686018427387904)) 4611686018427387904 ∧ readE (Lib.itoa n) = 0 := by
  unfold Lib.itoa
  split
  · rename_i h
    obtain ⟨h1, h2, h3⟩ := dec_digs n.natAbs
    have hg : digs (45 :: Lib.decDigits n.natAbs) = Lib.decDigits n.natAbs := rfl
    have ho : okD (digs (45 :: Lib.decDigits n.natAbs)) = true := by rw [hg]; exact (okD_iff _).2 ⟨h1, h2⟩
    unfold readV readE
    rw [if_pos ho, if_pos ho, hg, h3]
    refine ⟨?_, rfl⟩
    simp only [List.head?_cons, if_true]
    omega
  · rename_i h
    obtain ⟨h1, h2, h3⟩ := dec_digs n.toNat
    have hh : ¬ (Lib.decDigits n.toNat).head? = some 45 := by
      intro e
      have hm := List.mem_of_mem_head? (Option.mem_def.2 e)
      have := h2 45 hm
      exact absurd this (by decide)
    have hg : digs (Lib.decDigits n.toNat) = Lib.decDigits n.toNat := by unfold digs; rw [if_neg hh]
    have ho : okD (digs (Lib.decDigits n.toNat)) = true := by rw [hg]; exact (okD_iff _).2 ⟨h1, h2⟩
    unfold readV readE
    rw [if_pos ho, if_pos ho, hg, h3, if_neg hh]
    refine ⟨?_, rfl⟩
    omega
theorem itoa_len (n : Int) (h1 : -9223372036854775808 ≤ n) (h2 : n ≤ 9223372036854775807) : (Lib.itoa n).length ≤ 21 := by
  unfold Lib.itoa
  split
  · have := dec_len n.natAbs (by omega)
    simp
    omega
  · have := dec_len n.toNat (by omega)
    omega
theorem write_any (n : Int) (w : World) (h0 : -9223372036854775808 ≤ n) (h1 : n ≤ 9223372036854775807) (hT : TabP w) :
    Calls Tryd.prog 20 #[.int .i64 n] w fun e w' => e = .returned (.string ⟨(Lib.itoa n).toArray⟩) ∧ Below w.heap.size w w' := by
  have HF := Lib.hid (Tryd.strconv_FormatInt_10 n h0 h1 w hT)
  clear h0 h1 hT
  go_enter Tryd.func20, Tryd.ntmps20
  go_wp2_with (go_at_call 28; refine HF.out.mono ?_; rintro e w' ⟨rfl, k, os, rfl⟩)
  go_ret
  exact ⟨rfl, Lib.below_grow _ _ (Nat.le_refl _) _ _⟩
theorem ten_slice (k : Nat) (hk : k < 10) : (⟨#[48, 49, 50, 51, 52, 53, 54, 55, 56, 57]⟩ : ByteArray).extract k (k + 1) = ⟨#[UInt8.ofNat (48 + k)]⟩ := by
  rcases (by omega : k = 0 ∨ k = 1 ∨ k = 2 ∨ k = 3 ∨ k = 4 ∨ k = 5 ∨ k = 6 ∨ k = 7 ∨ k = 8 ∨ k = 9) with rfl | rfl | rfl | rfl | rfl | rfl | rfl | rfl | rfl | rfl <;> rfl
theorem str_app (a b : List UInt8) : (⟨a.toArray⟩ : ByteArray) ++ ⟨b.toArray⟩ = ⟨(a ++ b).toArray⟩ := by
  apply ByteArray.ext
  apply Array.toList_inj.1
  simp
set_option maxRecDepth 100000 in
theorem digits_any (u : Nat) : ∀ (w : World), u < 18446744073709551616 → Calls Tryd.prog 29 #[.int .u64 (u : Int)] w fun e w' => e = .returned (.string ⟨(Lib.decDigits u).toArray⟩) ∧ w = w' := by
  induction u using Nat.strongRecOn with
  | _ u ih =>
    intro w hu
    have IH := Lib.hid ih
    clear ih
    have hsl : ∀ W, (Instr.slice 9 (.string ⟨#[48, 49, 50, 51, 52, 53, 54, 55, 56, 57]⟩) (some (.int .u64 ((u : Int) % 10))) (some (.int .u64 ((u : Int) % 10 + 1))) none).run Tryd.prog W = .ok (.string ⟨#[UInt8.ofNat (48 + u % 10)]⟩) W := by
      intro W
      rw [run_slice_string_if (w := W) (P := Tryd.prog) 9 _ .u64 .u64 _ _ Tryd.underlying9, if_pos ⟨by omega, by show (u : Int) % 10 + 1 ≤ (10 : Int); omega⟩, if_pos ⟨by omega, by omega⟩]
      have e1 : ((u : Int) % 10).toNat = u % 10 := by omega
      have e2 : ((u : Int) % 10 + 1).toNat = u % 10 + 1 := by omega
      rw [e1, e2, ten_slice _ (by omega)]
    have u1 : (0 : Int) ≤ (u : Int) := by omega
    have u2 : (u : Int) ≤ 18446744073709551615 := by omega
    obtain ⟨ch, hch⟩ : ∃ c, UInt8.ofNat (48 + u % 10) = c := ⟨_, rfl⟩
    rw [hch] at hsl
    by_cases h : u < 10
    · have HD : Hid (Lib.decDigits u = [ch]) := Lib.hid (by rw [Lib.decDigits, dif_pos h, ← hch, Nat.mod_eq_of_lt h])
      have hl : (u : Int) < 10 := by omega
      clear h hu hch
      go_enter Tryd.func29, Tryd.ntmps29
      go_wp2_with fail
      go_ret
      exact ⟨by rw [HD.out]; rfl, rfl⟩
    · have HD : Hid (Lib.decDigits u = Lib.decDigits (u / 10) ++ [ch]) := Lib.hid (by rw [Lib.decDigits, dif_neg h, ← hch])
      have hl : ¬ (u : Int) < 10 := by omega
      have HR := Lib.hid (fun W => IH.out (u / 10) (by omega) W (by omega))
      have hlen := dec_len (u / 10) (by omega)
      obtain ⟨q, hq⟩ : ∃ q, u / 10 = q := ⟨_, rfl⟩
      simp only [hq] at HR hlen
      rw [hq] at HD
      have hdiv : (u : Int) / 10 = (q : Int) := by omega
      obtain ⟨ds, hds⟩ : ∃ ds, Lib.decDigits q = ds := ⟨_, rfl⟩
      simp only [hds] at HR hlen
      rw [hds] at HD
      have hsz : ¬ 9223372036854775807 < (⟨ds.toArray⟩ : ByteArray).size + (⟨#[ch]⟩ : ByteArray).size := by
        show ¬ 9223372036854775807 < ds.toArray.size + 1
        rw [List.size_toArray]
        omega
      have hadd := run_string_add_sum (P := Tryd.prog) (w := w) ⟨ds.toArray⟩ ⟨#[ch]⟩ (by omega)
      have happ := str_app ds [ch]
      have HAPP := Lib.hid happ
      clear h hu hch hds happ hsz hlen hq
      go_enter Tryd.func29, Tryd.ntmps29
      go_wp2_with (go_at_call 29; refine (HR.out _).mono ?_; rintro e w' ⟨rfl, rfl⟩)
      go_ret
      exact ⟨by rw [HD.out, ← HAPP.out]; rfl, rfl⟩
theorem dec_plus (n : Nat) (w : World) (h : n < 9223372036854775808) : Calls Tryd.prog 21 #[.int .i64 (n : Int)] w fun e w' => e = .returned (.string ⟨(Lib.itoa (n : Int)).toArray⟩) ∧ w = w' := by
  have HD := Lib.hid (fun W => digits_any n W (by omega))
  have HI : Hid (Lib.itoa (n : Int) = Lib.decDigits n) := Lib.hid (by unfold Lib.itoa; rw [if_neg (by omega)]; rfl)
  have h1 : (0 : Int) ≤ (n : Int) := by omega
  have h2 : (n : Int) ≤ 9223372036854775807 := by omega
  have h3 : ¬ (n : Int) < 0 := by omega
  generalize Lib.decDigits n = ds at HD HI
  clear h
  go_enter Tryd.func21, Tryd.ntmps21
  go_wp2_with (go_at_call 29; refine (HD.out _).mono ?_; rintro e w' ⟨rfl, rfl⟩)
  go_ret
  exact ⟨by rw [HI.out]; rfl, rfl⟩
theorem dec_minus (k : Nat) (n : Int) (w : World) (h : k < 9223372036854775808) (hn : n = -(k : Int) - 1) : Calls Tryd.prog 21 #[.int .i64 n] w fun e w' => e = .returned (.string ⟨(Lib.itoa n).toArray⟩) ∧ w = w' := by
  have HD := Lib.hid (fun W => digits_any (k + 1) W (by omega))
  have HI : Hid (Lib.itoa n = 45 :: Lib.decDigits (k + 1)) := Lib.hid (by
    have e : n.natAbs = k + 1 := by omega
    unfold Lib.itoa
    rw [if_pos (by omega), e])
  have hl := dec_len (k + 1) (by omega)
  have h3 : n < 0 := by omega
  have e1 : IntKind.i64.wrap (n + 1) = -(k : Int) := by rw [hn, show -(k : Int) - 1 + 1 = -(k : Int) by omega]; exact IntWalk.i64_in _ (by omega)
  have e2 : IntKind.i64.wrap (- -(k : Int)) = (k : Int) := by rw [Int.neg_neg]; exact IntWalk.i64_in _ (by omega)
  generalize Lib.decDigits (k + 1) = ds at HD HI hl
  have hadd := run_string_add_sum (P := Tryd.prog) (w := w) ⟨#[45]⟩ ⟨ds.toArray⟩ (by show 1 + ds.toArray.size ≤ _; rw [List.size_toArray]; omega)
  have HAPP : Hid ((⟨#[45]⟩ : ByteArray) ++ ⟨ds.toArray⟩ = ⟨(45 :: ds).toArray⟩) := Lib.hid (str_app [45] ds)
  have k1 : (0 : Int) ≤ (k : Int) := by omega
  have k2 : (k : Int) ≤ 9223372036854775807 := by omega
  clear h hn hl
  go_enter Tryd.func21, Tryd.ntmps21
  go_wp2_with (go_at_call 29; refine (HD.out _).mono ?_; rintro e w' ⟨rfl, rfl⟩)
  go_ret
  exact ⟨by rw [HI.out, ← HAPP.out]; rfl, rfl⟩
theorem dec_any (n : Int) (w : World) (h0 : -9223372036854775808 ≤ n) (h1 : n ≤ 9223372036854775807) : Calls Tryd.prog 21 #[.int .i64 n] w fun e w' => e = .returned (.string ⟨(Lib.itoa n).toArray⟩) ∧ w = w' := by
  rcases (by omega : 0 ≤ n ∨ n < 0) with h | h
  · obtain ⟨k, rfl⟩ : ∃ k : Nat, n = (k : Int) := ⟨n.toNat, by omega⟩
    exact dec_plus k w (by omega)
  · exact dec_minus (-n - 1).toNat n w (by omega) (by omega)
theorem word_nil (w : World) : Calls Tryd.prog 13 #[.pointer none] w fun e w' => e = .returned (.tuple #[.string ⟨#[]⟩, .int .i64 0, .int .i64 2]) ∧ w = w' := by
  go_enter Tryd.func13, Tryd.ntmps13
  go_wp2_with fail
  go_ret3
  exact ⟨rfl, rfl⟩
theorem int_nil (w : World) : Calls Tryd.prog 17 #[.pointer none] w fun e w' => e = .returned (.tuple #[.int .i64 0, .int .i64 0, .int .i64 2]) ∧ w = w' := by
  go_enter Tryd.func17, Tryd.ntmps17
  go_wp2_with (go_at_call 13; refine (word_nil _).mono ?_; rintro e w' ⟨rfl, rfl⟩)
  go_ret3
  exact ⟨rfl, rfl⟩
theorem at_nil (w : World) : Calls Tryd.prog 14 #[.pointer none] w fun e w' => e = .returned (.int .i64 0) ∧ w = w' := by
  go_enter Tryd.func14, Tryd.ntmps14
  go_wp2_with fail
  go_ret
  exact ⟨rfl, rfl⟩
theorem more_nil (w : World) : Calls Tryd.prog 16 #[.pointer none] w fun e w' => e = .returned (.bool false) ∧ w.grownBy w' none := by
  go_enter Tryd.func16, Tryd.ntmps16
  go_upto_region 1 with fail
  go_quiet (fail)
  go_wp2
  go_ret
  exact ⟨rfl, ⟨rfl, rfl, rfl, Nat.le_refl _, fun _ _ _ => rfl⟩⟩
end Go.Proofs.YtcfendilaogjlaaDoor
