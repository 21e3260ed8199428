/- Contract of the law's scope of any choices (no statement of its own). -/
import Derived.Test.YtpdcpaoabalgcaaGreatDoorTjC
import Derived.Test.YtpdcpaoabalgcaaGreatDoorTbY
namespace Go.Proofs.YtpdcpaoabalgcaaGreatDoor
open Go.RowKit Go.Shelf Go.Sort
set_option linter.unusedVariables false
/-- What the law adds at a place. -/
def scF (z : Nat → Int) (m j : Nat) : Nat := if j < m then (z j % 3).toNat else 0
def scP (z : Nat → Int) (m : Nat) : Nat → Nat
  | 0 => 0
  | j + 1 => scP z m j + scF z m j + 1
/-- The law's variables. -/
def scL (z : Nat → Int) (m n : Nat) : List Nat := (List.range n).map fun j => scP z m j + scF z m j
theorem scL_len (z : Nat → Int) (m n : Nat) : (scL z m n).length = n := by simp [scL]
theorem scL_snoc (z : Nat → Int) (m j : Nat) : scL z m (j + 1) = scL z m j ++ [scP z m j + scF z m j] := by simp [scL, List.range_succ]
theorem scL_rises (z : Nat → Int) (m n : Nat) : Rises (scL z m n) := fun i hi => by
  rw [scL_len] at hi
  rw [scL, nth_range (by omega), nth_range hi]
  show scP z m i + scF z m i < scP z m i + scF z m i + 1 + scF z m (i + 1)
  omega
theorem scP_le (z : Nat → Int) (m : Nat) : ∀ j, scP z m j ≤ 3 * j
  | 0 => Nat.le_refl _
  | j + 1 => by
    have h1 := scP_le z m j
    have h2 : scF z m j ≤ 2 := by unfold scF; split <;> omega
    show scP z m j + scF z m j + 1 ≤ _
    omega
set_option maxRecDepth 100000 in
theorem scope_any (A : Option Addr) (n m c : Nat) (z : Nat → Int) (w : World) (hz : Bytes w A m z) (hn : n ≤ 6) (hm : (m : Int) ≤ 9223372036854775807) :
    Calls Tryz.prog 9 #[.int .i64 (n : Int), .slice A m c] w fun e w' => (∃ v, e = .returned v ∧ Own w' w.heap.size v (scL z m n)) ∧ Below w.heap.size w w' := by
  have HZ := Lib.hid hz
  clear hz
  go_enter Tryz.func9, Tryz.ntmps9
  go_upto_region 4 with fail
  go_loopw [5, 6, 9] (fun v5 v6 i wr => ∃ j p : Nat, j ≤ n ∧ i = .int .i64 (j : Int) ∧ p = scP z m j ∧ v6 = .int .i64 (p : Int) ∧ Own wr w.heap.size v5 (scL z m j) ∧ Below w.heap.size w wr) (fun _ _ i _ => n - (intOf i).toNat)
  case atStart => exact ⟨0, 0, Nat.zero_le _, rfl, rfl, rfl, own_nil _ _, Below.refl _ _⟩
  case round =>
    obtain ⟨j, p, hj, rfl, hp, rfl, hO, hb⟩ := hrel
    have OR := Lib.hid hO
    have BR := Lib.hid hb
    have PR := Lib.hid hp
    have hpl : p ≤ 3 * j := by rw [hp]; exact scP_le z m j
    clear hO hb hp
    by_cases hlt : j < n
    · have d : decide ((j : Int) < (n : Int)) = true := by simp; omega
      have hsz := BR.out.size
      have HS := Lib.hid (scL_snoc z m j)
      have HL := Lib.hid (scL_len z m j)
      have HNX : Hid (scP z m (j + 1) = scP z m j + scF z m j + 1) := Lib.hid rfl
      by_cases hjm : j < m
      · obtain ⟨q, rfl, hq, hcell, h1, h2⟩ := HZ.out.below BR.out j hjm
        have d2 : decide ((j : Int) < (m : Int)) = true := by simp; omega
        have HF : Hid (scF z m j = (z j % 3).toNat) := Lib.hid (if_pos hjm)
        have j1 : (j : Int) < (m : Int) := by omega
        have j2 : (0 : Int) ≤ (j : Int) := by omega
        generalize z j = x at hcell h1 h2 HF
        have HY := Lib.hid (show (p : Int) + x % 3 = ((p + (x % 3).toNat : Nat) : Int) by omega)
        obtain ⟨y, hy⟩ : ∃ y, p + (x % 3).toNat = y := ⟨_, rfl⟩
        have hy9 : y ≤ 100 := by omega
        rw [hy] at HY
        have HE : Hid (scP z m j + scF z m j = y) := Lib.hid (by rw [HF.out, ← PR.out]; exact hy)
        go_wp2_with (at_builtin; refine push_own rfl (.tmp 24) (.tmp 26) rfl wr w.heap.size u5 (scL z m j) _ y HY.out rfl rfl OR.out hsz (by rw [HL.out]; omega) ?_; intro v' w2 h1 h2; have H1 := Lib.hid h1; have H2 := Lib.hid h2; clear h1 h2)
        go_roundw
        case rel => exact ⟨j + 1, y + 1, by omega, by go_num, by rw [HNX.out, HE.out], by go_num, by rw [HS.out, HE.out]; exact H1.out, BR.out.trans H2.out⟩
        case measure => simp [intOf]; omega
      · have d2 : decide ((j : Int) < (m : Int)) = false := by simp; omega
        have HE : Hid (scP z m j + scF z m j = p) := Lib.hid (by rw [← PR.out, scF, if_neg hjm]; rfl)
        go_wp2_with (at_builtin; refine push_own rfl (.tmp 24) (.tmp 26) rfl wr w.heap.size u5 (scL z m j) _ p rfl rfl rfl OR.out hsz (by rw [HL.out]; omega) ?_; intro v' w2 h1 h2; have H1 := Lib.hid h1; have H2 := Lib.hid h2; clear h1 h2)
        go_roundw
        case rel => exact ⟨j + 1, p + 1, by omega, by go_num, by rw [HNX.out, HE.out], by go_num, by rw [HS.out, HE.out]; exact H1.out, BR.out.trans H2.out⟩
        case measure => simp [intOf]; omega
    · have d : decide ((j : Int) < (n : Int)) = false := by simp; omega
      obtain rfl : j = n := by omega
      go_wp2_with fail
      go_ret
      exact ⟨⟨_, rfl, OR.out⟩, BR.out⟩
end Go.Proofs.YtpdcpaoabalgcaaGreatDoor
