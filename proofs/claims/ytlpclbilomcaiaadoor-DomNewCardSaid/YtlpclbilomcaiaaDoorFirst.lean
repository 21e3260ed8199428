/- Contracts of dom's First, Last, Next and Len, and of math/bits' TrailingZeros32 (no statement of its own). Conditions: at most 32 values, the bits below; the table reads as its initialiser lays it. -/
import Derived.Test.YtlpclbilomcaiaaDoorOnes
import Derived.Test.YtlpclbilomcaiaaDoorSetB
namespace Go.Proofs.YtlpclbilomcaiaaDoor
open Go.RowKit
set_option linter.unusedVariables false
def debL : List Int := [0, 1, 28, 2, 29, 14, 24, 3, 30, 22, 20, 15, 25, 17, 4, 8, 31, 27, 13, 23, 21, 19, 16, 7, 26, 12, 18, 6, 11, 5, 10, 9]
def Tab (w : World) : Prop := ∀ i, i < 32 → w.cell? ⟨0, i, none⟩ = some (.int .u8 (debL.getD i 0))
theorem Tab.pos {w : World} (h : Tab w) : 0 < w.heap.size := World.block_lt_of_cell? w ⟨0, 0, none⟩ (h 0 (by omega))
theorem Tab.below {w w' : World} {B : Nat} (h : Tab w) (hb : Below B w w') (hB : 0 < B) : Tab w' := fun i hi => (hb.cell (p := ⟨0, i, none⟩) hB).trans (h i hi)
theorem Tab.next {w w' : World} (h : Tab w) (hb : Below w.heap.size w w') : Tab w' := h.below hb h.pos
theorem deb_all : ∀ t : Fin 32, debL.getD (2 ^ t.val * 125613361 % 4294967296 / 134217728) 0 = (t.val : Int) := by decide +kernel
theorem deb_cell {w : World} (h : Tab w) {B t : Nat} (ht : TZ B t) (h0 : B ≠ 0) (hB : B < 4294967296) (x : Int) (hx : x = B) :
    w.cell? ⟨0, (bits BinOp.and IntKind.u32 x (-x % 4294967296) * 125613361 % 4294967296 / 134217728).toNat, none⟩ = some (.int .u8 (t : Int)) := by
  have t32 : t < 32 := tz_lt ht (by simpa using hB)
  have e1 : -x % 4294967296 = ((4294967296 - B : Nat) : Int) := by omega
  rw [e1, hx, bits_and B _ hB (by omega), tz_and ht hB]
  have e2 : (((2 ^ t : Nat) : Int) * 125613361 % 4294967296 / 134217728).toNat = 2 ^ t * 125613361 % 4294967296 / 134217728 := by
    generalize 2 ^ t = p
    have e3 : ((p * 125613361 % 4294967296 / 134217728 : Nat) : Int) = (p : Int) * 125613361 % 4294967296 / 134217728 := by rw [Int.natCast_ediv, Int.natCast_emod, Int.natCast_mul]; rfl
    rw [← e3, Int.toNat_natCast]
  rw [e2, h _ (by omega)]
  rw [deb_all ⟨t, t32⟩]
theorem tz_any (x : Int) (B t : Nat) (w : World) (hx : x = B) (hw : Tab w) (ht : TZ B t) (h0 : B ≠ 0) (hB : B < 4294967296) :
    Calls Tryd.prog 35 #[.int .u32 x] w fun e w' => e = .returned (.int .i64 (t : Int)) ∧ w = w' := by
  have hc := deb_cell hw ht h0 hB x hx
  have t32 : t < 32 := tz_lt ht (by simpa using hB)
  have hx0 : 0 ≤ x := by omega
  have hx1 : x ≤ 4294967295 := by omega
  have hx2 : (x == 0) = false := by rw [beq_eq_false_iff_ne]; omega
  clear hx hB ht h0 hw
  go_enter Tryd.func35, Tryd.ntmps35
  go_wp2
  go_ret
  exact ⟨rfl, rfl⟩
/-- The first value of a set, the last one, and the first above n; -1: there is none. -/
def firstI (k B : Nat) : Int := match (List.range k).find? (fun v => B.testBit v) with
  | some x => x
  | none => -1
def lastI (B : Nat) : Int := (bitLen B : Int) - 1
theorem first_none (k : Nat) : firstI k 0 = -1 := by
  unfold firstI
  rw [List.find?_eq_none.2 (by simp)]
theorem first_some {k B t : Nat} (h : TZ B t) (hB : B < 2 ^ k) : firstI k B = t := by
  unfold firstI
  have : (List.range k).find? (fun v => B.testBit v) = some t := by
    rw [List.find?_range_eq_some]
    refine ⟨tz_bit h, by simpa using tz_lt h hB, fun j hj => by rw [tz_low h hj]; rfl⟩
  rw [this]
theorem first_any (k B : Nat) (w : World) (hw : Tab w) (hk : k ≤ 32) (hB : B < 2 ^ k) :
    Calls Tryd.prog 27 #[setV k B] w fun e w' => e = .returned (.int .i64 (firstI k B)) ∧ Below w.heap.size w w' := by
  by_cases h0 : B = 0
  · subst h0
    rw [first_none]
    clear hB
    go_enter Tryd.func27, Tryd.ntmps27
    go_wp2
    go_ret
    exact ⟨rfl, by go_grown⟩
  · obtain ⟨t, ht⟩ := tz_ex B h0
    have hl := lt_of_fits hk hB
    rw [first_some ht hB]
    have T := Lib.hid (fun W (hW : Tab W) => tz_any (B : Int) B t W rfl hW ht h0 hl)
    have h1 : ((B : Int) == 0) = false := by rw [beq_eq_false_iff_ne]; omega
    have hw1 : Hid (∀ o, Tab (w.alloc o)) := Lib.hid fun o => hw.next ((Below.refl _ _).alloc (Nat.le_refl _) o)
    clear hB ht h0 hl hw
    go_enter Tryd.func27, Tryd.ntmps27
    go_wp2_with (go_at_call 35; refine (T.out _ (hw1.out _)).mono ?_; rintro e w' ⟨rfl, rfl⟩)
    go_ret
    exact ⟨rfl, by go_grown⟩
theorem last_any (k B : Nat) (w : World) (hk : k ≤ 32) (hB : B < 2 ^ k) :
    Calls Tryd.prog 28 #[setV k B] w fun e w' => e = .returned (.int .i64 (lastI B)) ∧ Below w.heap.size w w' := by
  have hl := lt_of_fits hk hB
  unfold lastI
  have T := Lib.hid (fun W => len32_any (B : Int) W (by omega) (by omega))
  rw [Int.toNat_natCast] at T
  have hb : bitLen B ≤ 32 := by
    unfold bitLen
    split
    · omega
    · have := (Nat.log2_lt (n := B) (k := 32) (by omega)).2 (by simpa using hl)
      omega
  generalize bitLen B = n at T hb ⊢
  clear hB hl
  go_enter Tryd.func28, Tryd.ntmps28
  go_wp2_with (go_at_call 36; refine (T.out _).mono ?_; rintro e w' ⟨rfl, rfl⟩)
  go_ret
  exact ⟨rfl, by go_grown⟩
theorem len_any (k B : Nat) (w : World) (hk : k ≤ 32) (hB : B < 2 ^ k) :
    Calls Tryd.prog 23 #[setV k B] w fun e w' => e = .returned (.int .i64 (((mem k B).length : Nat) : Int)) ∧ Below w.heap.size w w' := by
  have T := Lib.hid (fun W => ones_any k B W hk hB)
  unfold cnt at T
  generalize (mem k B).length = n at T ⊢
  clear hB
  go_enter Tryd.func23, Tryd.ntmps23
  go_wp2_with (go_at_call 33; refine (T.out _).mono ?_; rintro e w' ⟨rfl, nq, rfl⟩)
  go_ret
  exact ⟨rfl, below_drewN ((Below.refl _ _).alloc (Nat.le_refl _) _) _⟩
theorem next_low (k B : Nat) (v : Int) (w : World) (hw : Tab w) (hk : k ≤ 32) (hB : B < 2 ^ k) (hv : v < 0) :
    Calls Tryd.prog 16 #[setV k B, .int .i64 v] w fun e w' => e = .returned (.int .i64 (firstI k B)) ∧ Below w.heap.size w w' := by
  have hw1 : Hid (∀ o, Tab (w.alloc o)) := Lib.hid fun o => hw.next ((Below.refl _ _).alloc (Nat.le_refl _) o)
  have T := Lib.hid (fun W (hW : Tab W) => first_any k B W hW hk hB)
  clear hB hw
  go_enter Tryd.func16, Tryd.ntmps16
  go_wp2_with (go_at_call 27; refine (T.out _ (hw1.out _)).mono ?_; rintro e w' ⟨rfl, hb⟩)
  go_ret
  exact ⟨rfl, ((Below.refl w.heap.size w).alloc (Nat.le_refl _) _).trans (hb.mono (by simp))⟩
theorem next_high (k B : Nat) (v : Int) (w : World) (hv : (k : Int) ≤ v) :
    Calls Tryd.prog 16 #[setV k B, .int .i64 v] w fun e w' => e = .returned (.int .i64 (-1)) ∧ Below w.heap.size w w' := by
  have h0 : ¬ v < 0 := by omega
  go_enter Tryd.func16, Tryd.ntmps16
  go_wp2_with (go_at_call 29; refine (fits_no _ _ _ _ (.inr hv)).mono ?_; rintro e w' ⟨rfl, rfl⟩)
  go_ret
  exact ⟨rfl, by go_grown⟩
theorem next_mid (k B v : Nat) (w : World) (hw : Tab w) (hk : k ≤ 32) (hB : B < 2 ^ k) (hv : v < k) :
    Calls Tryd.prog 16 #[setV k B, .int .i64 (v : Int)] w fun e w' => e = .returned (.int .i64 (firstI k (aboveN B (v + 1)))) ∧ Below w.heap.size w w' := by
  have F := Lib.hid (fun W => fits_yes k B v W hv)
  have L := Lib.hid (fun W => below_any (v + 1) W (by omega))
  have E := Lib.hid (bits_above B (v + 1) (lt_of_fits hk hB) (by omega))
  have T := Lib.hid (fun W (hW : Tab W) => first_any k (aboveN B (v + 1)) W hW hk (above_fits hk hB (by omega)))
  have e1 : ((v + 1 : Nat) : Int) = (v : Int) + 1 := by omega
  rw [e1] at L
  clear e1
  generalize aboveN B (v + 1) = b at E T ⊢
  generalize 2 ^ (v + 1) - 1 = p at L E
  clear hB
  go_enter Tryd.func16, Tryd.ntmps16
  go_wp2_with (go_at_call 29; refine (F.out _).mono ?_; rintro e w' ⟨rfl, rfl⟩)
  have ew : IntKind.i64.wrap ((v : Int) + 1) = (v : Int) + 1 := IntWalk.i64_in _ (by omega)
  first | go_region_with (go_at_call 32; refine (L.out _).mono ?_; rintro e w' ⟨rfl, rfl⟩) | fail
  all_goals
    clear ew
    go_wp2_with fail
    rw [E.out]
    refine (T.out _ (hw.next (by go_grown))).mono ?_
    rintro e w' ⟨rfl, hb⟩
    go_wp2
    go_ret
    exact ⟨rfl, Below.trans (by go_grown) (hb.mono (by simp; omega))⟩
end Go.Proofs.YtlpclbilomcaiaaDoor
