/- Sum (no statement of its own). -/
import Derived.Test.YtfheamemoinfeaaHwe
import Derived.Test.YtfheamemoinfeaaHn
namespace Go.Proofs.Ytfheamemoinfeaa
open Go.RowKit
open RtA
set_option linter.unusedVariables false
/-- What Of answers, for whatever pointer. -/
def OfC (V : Value) (X : List Nat) (w : World) : Prop := ∀ W : World, w.grownBy W none → ∀ j : Int, Calls Try.prog 24 #[V, .int .i64 j] W fun e w' => e = .returned (.float .f64 (ofX X j)) ∧ W.grownBy w' none
theorem wof_any {P : Nat → Prop} {w : World} {b K : Nat} {X : List Nat} (h : WA P w b K X) (hK : K ≤ 100000) (hX : X.length ≤ 100000) : OfC (.pointer (some ⟨b, 0, none⟩)) X w := by
  intro W hg j
  cases hj : isIn j X.length
  · have e : ofX X j = 0 := by unfold ofX; rw [if_neg (by rw [hj]; decide)]
    rw [e]
    exact wof_out j W (fun W' hW' => wlen_any (h.grown (hg.trans hW')) hK) hj ⟨_, rfl⟩
  · obtain ⟨q, rfl, hq⟩ := isIn_nat hj
    have e : ofX X (q : Int) = nthF X q := by unfold ofX; rw [if_pos hj, Int.toNat_natCast]
    rw [e]
    exact wof_in (h.grown hg) hK hq hX
theorem wof_nil (w : World) : OfC (.pointer none) [] w := by
  intro W hg j
  have hj : isIn j 0 = false := by simp [isIn]
  have e : ofX [] j = 0 := by unfold ofX; rw [if_neg (by simp [isIn])]
  rw [e]
  exact wof_out j W (fun W' _ => wlen_nil W') hj ⟨_, rfl⟩
/-- The sum of the first k, one by one. -/
def SumT (X : List Nat) (l : List Int) : Nat → Nat → Prop
  | 0, s => s = 0
  | k + 1, s => ∃ s', SumT X l k s' ∧ FR .add s' (ofX X (nthN l k)) s
def SumP (X : List Nat) (l : List Int) (w : World) (e : Ending) (w' : World) : Prop := ∃ s, e = .returned (.float .f64 s) ∧ SumT X l l.length s ∧ w.grownBy w' none
theorem SrcN.at_ {w : World} {A : Option Addr} {l : List Int} (h : SrcN w A l) {k : Nat} (hk : k < l.length) : ∃ ad, A = some ad ∧ w.cell? (ad.add k) = some (.int .i64 (nthN l k)) := by
  rcases h with rfl | ⟨ad, e, _, h⟩
  · simp at hk
  · exact ⟨ad, e, h k hk⟩
set_option maxRecDepth 100000 in
set_option maxHeartbeats 1000000 in
theorem wsum_of {V : Value} {X : List Nat} {w : World} (hO : OfC V X w) (A : Option Addr) (n c : Nat) (l : List Int) (hn : l.length = n) (hl : n ≤ 1000000) (hw : SrcN w A l) : Calls Try.prog 23 #[V, .slice A n c] w (SumP X l w) := by
  have HO := Lib.hid hO
  have HW := Lib.hid hw
  have HN := Lib.hid hn
  clear hO hw hn
  go_enter Try.func23, Try.ntmps23
  go_wp2_with fail
  go_loopw [5, 10] (fun s i wr => ∃ (k sv : Nat), k ≤ n ∧ i = .int .i64 (k : Int) ∧ s = .float .f64 sv ∧ SumT X l k sv ∧ w.grownBy wr none) (fun _ i _ => n - (intOf i).toNat)
  case atStart => exact ⟨0, 0, Nat.zero_le _, rfl, rfl, rfl, grown_refl w⟩
  case round =>
    obtain ⟨k, sv, hk, rfl, rfl, hs, hg⟩ := hrel
    have HS := Lib.hid hs
    have HG := Lib.hid hg
    by_cases hlt : k < n
    · obtain ⟨ad, rfl, ck⟩ := (HW.out.grown hg).at_ (k := k) (by rw [HN.out]; exact hlt)
      have C := Lib.hid (HO.out wr hg (nthN l k))
      obtain ⟨f, d, hf⟩ := float_run .add rfl 24 sv (ofX X (nthN l k))
      have f1 := fun W => (hf W).1
      have F2 : Hid (∀ W, FR .add sv (ofX X (nthN l k)) (f W)) := Lib.hid fun W => (hf W).2
      have HST : Hid (∀ W, SumT X l (k + 1) (f W)) := Lib.hid fun W => ⟨sv, HS.out, F2.out W⟩
      generalize ofX X (nthN l k) = y at *
      generalize nthN l k = j at *
      clear hs hg hf F2
      go_wp2_with (go_at_call 24; refine C.out.mono ?_; rintro e w2 ⟨rfl, hg2⟩; have G2 := Lib.hid (HG.out.trans hg2); clear hg2)
      go_roundw
      case rel => exact ⟨k + 1, _, by omega, by go_num, rfl, HST.out _, grown_drewN G2.out _⟩
      case measure => simp [intOf]; omega
    · have : k = n := by omega
      subst this
      clear hs hg
      go_wp2_with fail
      go_ret
      exact ⟨_, rfl, by rw [HN.out]; exact HS.out, HG.out⟩
end Go.Proofs.Ytfheamemoinfeaa
