/- Contracts of the document's Same and Index of a tuple that there isn't; the law's made, with costs of its own (no statement of its own). -/
import Derived.Test.YtdmldnlgamnkeaaTp1
import Derived.Test.YtdmldnlgamnkeaaTbW
import Derived.Test.YtdmldnlgamnkeaaTt2
namespace Go.Proofs.Ytdmldnlgamnkeaa
open Go.RowKit
set_option linter.unusedVariables false
theorem rsameZ_no (A A2 : Option Addr) (n c c2 p : Nat) (l : List Nat) (o : Nat → Int) (w : World) (hn : n = l.length) (hl : n ≤ 1000000) (hw : Ints w A l) (hw2 : Zs w A2 n o) (hp : p < n)
    (hq : ∀ i, i < p → (nth l i : Int) = o i) (h : (nth l p : Int) ≠ o p) :
    Calls Try.prog 33 #[.slice A n c, .slice A2 n c2] w fun e w' => e = .returned (.bool false) ∧ Below w.heap.size w w' := by
  have HN := Lib.hid hn
  have HW := Lib.hid hw
  have HW2 := Lib.hid hw2
  have HQ := Lib.hid hq
  have HX := Lib.hid h
  clear hn hw hw2 hq h
  go_enter Try.func33, Try.ntmps33
  go_wp2_with fail
  go_loopw [5, 13] (fun _ i wr => ∃ j : Nat, j ≤ p ∧ i = .int .i64 j ∧ Below w.heap.size w wr) (fun _ i _ => n - (intOf i).toNat)
  case atStart => exact ⟨0, Nat.zero_le _, rfl, Below.refl _ _⟩
  case round =>
    obtain ⟨j, hj, rfl, hb⟩ := hrel
    have HB := Lib.hid hb
    clear hb
    have hlt : j < n := by omega
    have hjl : j < l.length := by have := HN.out; omega
    obtain ⟨g, o1, rfl, hcell⟩ := (HW.out.below HB.out (Nat.le_refl _)).at_ hjl
    obtain ⟨g2, o2, rfl, hcell2⟩ := (HW2.out.below HB.out (Nat.le_refl _)).at_ hlt
    clear hjl
    have i1 : (j : Int) < (n : Int) := by omega
    have i2 : (0 : Int) ≤ (j : Int) := by omega
    by_cases e : j = p
    · have hx : ((nth l j : Int) != o j) = true := by rw [e, bne_iff_ne]; exact HX.out
      generalize (nth l j : Int) = y at hcell hx
      generalize o j = y2 at hcell2 hx
      clear e
      go_wp2_with fail
      go_quiet (fail)
      go_wp2
      go_ret
      exact ⟨rfl, next_drewN HB.out _⟩
    · have hjp : j + 1 ≤ p := by omega
      have hq := HQ.out j (by omega)
      rw [← hq] at hcell2
      generalize (nth l j : Int) = y at hcell hcell2
      clear e hq
      go_wp2_with fail
      go_quiet (fail)
      go_wp2
      go_roundw
      case rel => exact ⟨j + 1, by omega, by go_num, next_drewN HB.out _⟩
      case measure => simp [intOf]; omega
/-- No tuple of these sizes. -/
def OutL (l : List Nat) (m : Nat) (o : Nat → Int) : Prop := m ≠ l.length ∨ ∃ p, p < m ∧ p < l.length ∧ (o p < 0 ∨ (nth l p : Int) ≤ o p)
theorem rsame_outl (A A2 : Option Addr) (c m c2 j n : Nat) (l : List Nat) (o : Nat → Int) (w : World) (hn : l.length = n) (hl : n ≤ 1000000) (h1 : ∀ n ∈ l, 1 ≤ n) (hw : Ints w A (tupL l j)) (hw2 : Zs w A2 m o) (h : OutL l m o) :
    Calls Try.prog 33 #[.slice A n c, .slice A2 m c2] w fun e w' => e = .returned (.bool false) ∧ Below w.heap.size w w' := by
  subst hn
  by_cases hm : m = l.length
  · subst hm
    rcases h with h | ⟨p, hp, _, hbad⟩
    · exact absurd rfl h
    · have hin := inL_iff.1 (tupL_in h1 j)
      have hne : (nth (tupL l j) p : Int) ≠ o p := by have := hin.2 p hp; omega
      rcases first_at (fun i => (nth (tupL l j) i : Int) ≠ o i) l.length with h0 | ⟨q, hq, h2, h3⟩
      · exact absurd hne (h0 p hp)
      · exact rsameZ_no A A2 l.length c c2 q (tupL l j) o w (tupL_length l j).symm hl hw hw2 hq (fun i hi => by have := h2 i hi; simpa using this) h3
  · exact rsame_len A A2 _ c _ c2 w (fun e => hm e.symm)
set_option maxRecDepth 100000 in
set_option maxHeartbeats 4000000 in
theorem rindex_no (As : Option Addr) (cs : Nat) (Ax : Option Addr) (nx cx P n : Nat) (l : List Nat) (o : Nat → Int) (w : World) (h6 : n ≤ 6) (hn : l.length = n) (hcs : n ≤ cs) (hls : ∀ n ∈ l, 1 ≤ n ∧ n ≤ 32) (hP : prodL l = P) (hP4 : P ≤ 4096) (hI : Ints w As l) (hX : Zs w Ax nx o) (hno : OutL l nx o) :
    Calls Try.prog 12 #[.slice As n cs, .slice Ax nx cx] w fun e w' => e = .returned (.int .i64 (-1)) ∧ Below w.heap.size w w' := by
  have HLS := Lib.hid hls
  have HP := Lib.hid hP
  have HI := Lib.hid hI
  have HX := Lib.hid hX
  have HN := Lib.hid hn
  have HNO := Lib.hid hno
  clear hls hP hI hX hn hno
  go_enter Try.func12, Try.ntmps12
  go_wp2_with fail
  refine (rall_any4 As n cs P l w HN.out.symm (by rw [HN.out]; exact h6) hcs HLS.out HP.out hP4 HI.out).mono ?_
  rintro e w1 ⟨⟨Ar, cr, rfl, hR⟩, b1⟩
  have R1 := Lib.hid hR
  have B1 := Lib.hid b1
  clear hR b1
  go_wp2_with fail
  go_loopw [5, 6, 10] (fun _ _ v wr => ∃ j : Nat, j ≤ P ∧ v = .int .i64 j ∧ Below w1.heap.size w1 wr) (fun _ _ v _ => P - (intOf v).toNat)
  case atStart => exact ⟨0, Nat.zero_le _, rfl, Below.refl _ _⟩
  case round =>
    obtain ⟨j, hj, rfl, hb⟩ := hrel
    have HB := Lib.hid hb
    clear hb
    by_cases hjP : j < P
    · obtain ⟨Ar', cr', e1, hrow⟩ := (R1.out.below HB.out (Nat.le_refl _)).form
      obtain ⟨g, x, hA, hg, hc, hx⟩ := hrow j (by rw [allL_length, HP.out]; exact hjP)
      obtain rfl : Ar = Ar' := by injection e1
      subst hA
      have hx' : Own wr w.heap.size x (tupL l j) := by
        have e : nthT (allL l) j = tupL l j := allL_get l (by rw [HP.out]; exact hjP)
        rw [e] at hx
        exact hx
      obtain ⟨Ay, cy, rfl, hY⟩ := hx'.form
      rw [tupL_length, HN.out] at hc
      have HY := Lib.hid hY
      clear hx hx' hrow e1 hY
      have i1 : (j : Int) < (P : Int) := by omega
      have i2 : (0 : Int) ≤ (j : Int) := by omega
      go_wp2_with fail
      refine (rsame_outl _ _ _ _ _ j _ l o _ HN.out (by omega) (fun n hn => (HLS.out n hn).1) HY.out ((HX.out.below B1.out (Nat.le_refl _)).below HB.out (Nat.le_refl _)) HNO.out).mono ?_
      rintro e w3 ⟨rfl, b3⟩
      have B3 := Lib.hid (then_ HB.out b3)
      clear b3
      go_wp2_with fail
      go_roundw
      case rel => exact ⟨j + 1, by omega, by go_num, B3.out⟩
      case measure => simp [intOf]; omega
    · have i1 : ¬ ((j : Int) < (P : Int)) := by omega
      go_wp2_with fail
      go_ret
      exact ⟨rfl, then_ B1.out HB.out⟩
theorem own_row64 {w : World} {base n c : Nat} {A : Option Addr} {z : Nat → Int} (h : w.ownsRow base 2 1 (.slice A n c) n (costL z n)) (hn : 1 ≤ n) :
    ∃ g cur, A = some ⟨g, 0, none⟩ ∧ base ≤ g ∧ w.heap[g]? = some (.cells cur 2 (0, 0)) ∧ n ≤ cur.size ∧ ∀ i, i < n → cur[i]? = some (.int .i64 (z i)) := by
  obtain ⟨_, ⟨e, hn0⟩ | ⟨g, cap, cur, e, hb, hh, hm, _, hs, ht⟩⟩ := h
  · omega
  · injection e with e1 e2 e3
    refine ⟨g, cur, e1, hb, hh, by omega, fun i hi => ?_⟩
    have e : (cur.toList.take (n * 1))[i]? = some (.int .i64 (z i)) := by rw [ht]; simp [costL, hi]
    rw [List.getElem?_take] at e
    simpa [hi] using e
/-- What made answers: the costs lie in a block of their own. -/
def MadeOwn (w : World) (l : List Nat) (k : Int) (P : Nat) (f : Nat → Int) (e : Ending) (w' : World) : Prop :=
  ∃ g h As cs gc cc, e = .returned (.tuple #[.pointer (some ⟨g, 0, none⟩), .agg #[.slice As l.length cs, .int .i64 k, .slice (some ⟨gc, 0, none⟩) P cc]]) ∧
      TabAt w' g h l k f ∧ Ints w' As l ∧ l.length ≤ cs ∧ (∃ cur, w'.heap[gc]? = some (.cells cur 2 (0, 0)) ∧ P ≤ cur.size ∧ ∀ i, i < P → cur[i]? = some (.int .i64 (f i))) ∧ w.heap.size ≤ g ∧ w.heap.size ≤ h ∧ w.heap.size ≤ gc ∧ gc ≠ h ∧
      (∀ a : Addr, As = some a → a.block < h ∧ a.block ≠ gc) ∧ Below w.heap.size w w'
end Go.Proofs.Ytdmldnlgamnkeaa
