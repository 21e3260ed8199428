/- The pieces of slices.Chunk as a range over a function (no statement of its own). -/
import Derived.Test.YtjflablcoljdeaaNa
import Derived.Test.YtjflablcoljdeaaHrd
namespace Go.Proofs.Ytjflablcoljdeaa
open Go.RowKit Go.Shelf
set_option linter.unusedVariables false
attribute [local go_sem] Oper.semAt_some
def Same2 (b g : Nat) (W W' : World) : Prop := W.heap.size ≤ W'.heap.size ∧ W'.heap[b]? = W.heap[b]? ∧ W'.heap[g]? = W.heap[g]?
theorem Same2.refl (b g : Nat) (W : World) : Same2 b g W W := ⟨Nat.le_refl _, rfl, rfl⟩
theorem Same2.trans {b g : Nat} {X Y Z : World} (h : Same2 b g X Y) (k : Same2 b g Y Z) : Same2 b g X Z := ⟨Nat.le_trans h.1 k.1, k.2.1.trans h.2.1, k.2.2.trans h.2.2⟩
theorem Same2.cell {b g : Nat} {X Y : World} (h : Same2 b g X Y) (i : Nat) : Y.cell? ⟨b, i, none⟩ = X.cell? ⟨b, i, none⟩ ∧ Y.cell? ⟨g, i, none⟩ = X.cell? ⟨g, i, none⟩ :=
  ⟨World.cell?_of_block (a := ⟨b, i, none⟩) h.2.1, World.cell?_of_block (a := ⟨g, i, none⟩) h.2.2⟩
/-- Where the pieces begin. -/
def firstL (k : Nat) : List Nat := (List.range k).map (6 * ·)
theorem firstL_len (k : Nat) : (firstL k).length = k := by simp [firstL]
theorem firstL_succ (k : Nat) : firstL (k + 1) = firstL k ++ [6 * k] := by simp [firstL, List.range_succ]
abbrev pieceV (g o n i : Nat) : Value := .slice (some ⟨g, o + i, none⟩) (min 6 (n - i)) (min 6 (n - i))
set_option maxRecDepth 100000 in
set_option maxHeartbeats 1000000 in
theorem chunk_in (m : Nat) (hm : 1 ≤ m) (l b1 b2 g o n c : Nat) (A : Option Addr) (hc : n ≤ c) (hb : n ≤ 1000000) (hA : 0 < n → A = some ⟨g, o, none⟩) (J Jx : List (Fin n) → World → Prop) (W : World)
    (hY : ∀ pre x W1, J pre W1 → pre.length < (n + 5) / 6 → YieldAt Fence.wide (m - 1) Try.prog l #[pieceV g o n x.val] W1 fun e W' =>
      (e = .returned (.bool true) ∧ J (pre ++ [x]) W' ∧ Same2 b1 b2 W1 W') ∨ (e = .returned (.bool false) ∧ Jx (pre ++ [x]) W'))
    (hd : ∀ pre W (k : Nat), J pre W → J pre (W.drewN k))
    (h1 : W.cell? ⟨b1, 0, none⟩ = some (.slice A n c)) (h2 : W.cell? ⟨b2, 0, none⟩ = some (.int .i64 6)) (h0 : J [] W) :
    CallsIn Fence.wide m Try.prog 11 #[.func (.yield l) #[] #[], .pointer (some ⟨b1, 0, none⟩), .pointer (some ⟨b2, 0, none⟩)] W fun e W' => (∃ v, e = .returned v) ∧
      ((∃ ys, ys.map (·.val) = firstL ((n + 5) / 6) ∧ J ys W') ∨ (∃ pre, True ∧ Jx pre W')) := by
  have H1 := Lib.hid h1
  have H2 := Lib.hid h2
  have HA := Lib.hid hA
  have HY := Lib.hid hY
  have HD := Lib.hid hd
  have H0 := Lib.hid h0
  obtain ⟨q, hq⟩ : ∃ q, (n + 5) / 6 = q := ⟨_, rfl⟩
  rw [hq] at HY ⊢
  have HQ := Lib.hid hq
  clear h1 h2 hA hY h0 hq hd
  refine callsIn_of_wp Try.func11 rfl trivial ?_ rfl
  simp only [Try.ntmps11, List.size_toArray, List.length_cons, List.length_nil, Nat.reduceAdd, Nat.reduceSub, Array.replicate_succ, Array.replicate_zero, List.push_toArray, List.append_toArray, List.nil_append, List.cons_append]
  gi_wp2
  gi_loopw [4, 5] (fun i _ wr => ∃ (pre : List (Fin n)), pre.length ≤ q ∧ i = .int .i64 ((6 * pre.length : Nat) : Int) ∧ pre.map (·.val) = firstL pre.length ∧ J pre wr ∧ Same2 b1 b2 W wr) (fun i _ _ => 6 * q - (intOf i).toNat)
  case atStart => exact ⟨[], Nat.zero_le _, rfl, rfl, H0.out, Same2.refl _ _ _⟩
  case round =>
    obtain ⟨pre, hp, rfl, hpl, hJ, hS⟩ := hrel
    have HJ := Lib.hid hJ
    have HS := Lib.hid hS
    have HPL := Lib.hid hpl
    have c1 := ((hS.cell 0).1).trans H1.out
    have c2 := ((hS.cell 0).2).trans H2.out
    obtain ⟨i, hi⟩ : ∃ i, 6 * pre.length = i := ⟨_, rfl⟩
    rw [hi]
    have HI := Lib.hid hi
    clear hJ hS hpl hi
    by_cases hlt : i < n
    · obtain rfl := HA.out (by omega)
      have i1 : (i : Int) < (n : Int) := by omega
      have i2 : (0 : Int) ≤ (i : Int) := by omega
      have i3 : i ≤ c := by omega
      obtain ⟨d, hd⟩ : ∃ d, n - i = d := ⟨_, rfl⟩
      have d2 : i + d = n := by omega
      by_cases h6 : 6 ≤ d
      · have h6' : (6 : Int) ≤ (d : Int) := by omega
        have hm3 : ((i : Int) + 6).toNat - i = 6 := by omega
        have hmin : min 6 (n - i) = 6 := by omega
        have e1 : n - i = d := hd
        have HMIN := Lib.hid hmin
        clear hmin hd
        gi_wp2_with fail
        refine wpIn_wide.2 ?_
        go_quiet (fail)
        have KS : Hid (Same2 b1 b2 W (wr.drewN nq)) := Lib.hid ⟨HS.out.1, HS.out.2.1, HS.out.2.2⟩
        obtain ⟨fn, tmps, assign, body, hy, hR⟩ := HY.out pre ⟨i, hlt⟩ (wr.drewN nq) (HD.out _ _ _ HJ.out) (by have h1 := HI.out; have h2 := HQ.out; omega)
        simp only [pieceV] at hy
        rw [HMIN.out] at hy
        gi_wp2_with fail
        refine hR.mono ?_
        rintro e W3 (⟨rfl, hJ3, hk3⟩ | ⟨rfl, hJx3⟩)
        · have KS3 := Lib.hid (KS.out.trans hk3)
          have J3 := Lib.hid hJ3
          have c2 := ((KS3.out.cell 0).2).trans H2.out
          clear hJ3 hk3 hy hR c1
          gi_wp2
          go_roundw
          case rel => exact ⟨pre ++ [⟨i, hlt⟩], by rw [List.length_append]; have h1 := HI.out; have h2 := HQ.out; simp; omega, by rw [List.length_append]; have h1 := HI.out; simp; omega, by rw [List.map_append, HPL.out, List.length_append]; simp [firstL_succ, HI.out], J3.out, KS3.out⟩
          case measure => have h1 := HI.out; have h2 := HQ.out; simp [intOf]; omega
        · clear hy hR c1 c2
          gi_wp2
          refine bodyPost_ret (results_none rfl _ _ _) rfl ?_
          exact ⟨⟨_, rfl⟩, .inr ⟨pre ++ [⟨i, hlt⟩], trivial, hJx3⟩⟩
      · have h6' : ¬ ((6 : Int) ≤ (d : Int)) := by omega
        have h6'' : (d : Int) < 6 := by omega
        have hm3 : ((i : Int) + (d : Int)).toNat - i = d := by omega
        have hmin : min 6 (n - i) = d := by omega
        have e1 : n - i = d := hd
        have HMIN := Lib.hid hmin
        clear hmin hd
        gi_wp2_with fail
        refine wpIn_wide.2 ?_
        go_quiet (fail)
        have KS : Hid (Same2 b1 b2 W (wr.drewN nq)) := Lib.hid ⟨HS.out.1, HS.out.2.1, HS.out.2.2⟩
        obtain ⟨fn, tmps, assign, body, hy, hR⟩ := HY.out pre ⟨i, hlt⟩ (wr.drewN nq) (HD.out _ _ _ HJ.out) (by have h1 := HI.out; have h2 := HQ.out; omega)
        simp only [pieceV] at hy
        rw [HMIN.out] at hy
        gi_wp2_with fail
        refine hR.mono ?_
        rintro e W3 (⟨rfl, hJ3, hk3⟩ | ⟨rfl, hJx3⟩)
        · have KS3 := Lib.hid (KS.out.trans hk3)
          have J3 := Lib.hid hJ3
          have c2 := ((KS3.out.cell 0).2).trans H2.out
          clear hJ3 hk3 hy hR c1
          gi_wp2
          go_roundw
          case rel => exact ⟨pre ++ [⟨i, hlt⟩], by rw [List.length_append]; have h1 := HI.out; have h2 := HQ.out; simp; omega, by rw [List.length_append]; have h1 := HI.out; simp; omega, by rw [List.map_append, HPL.out, List.length_append]; simp [firstL_succ, HI.out], J3.out, KS3.out⟩
          case measure => have h1 := HI.out; have h2 := HQ.out; simp [intOf]; omega
        · clear hy hR c1 c2
          gi_wp2
          refine bodyPost_ret (results_none rfl _ _ _) rfl ?_
          exact ⟨⟨_, rfl⟩, .inr ⟨pre ++ [⟨i, hlt⟩], trivial, hJx3⟩⟩
    · have i1 : ¬ ((i : Int) < (n : Int)) := by omega
      gi_wp2
      go_end0
      exact ⟨⟨_, rfl⟩, .inl ⟨pre, by rw [HPL.out]; have h1 := HQ.out; have h2 := HI.out; rw [show pre.length = q by omega], HJ.out⟩⟩
theorem same2_below {B b g : Nat} {X Y : World} (h : Below B X Y) (hb : b < B) (hg : g < B) : Same2 b g X Y := ⟨h.size, h.block b hb, h.block g hg⟩
theorem chunk_stops (m : Nat) (hm : 1 ≤ m) (b1 b2 g o n c : Nat) (A : Option Addr) (hc : n ≤ c) (hb : n ≤ 1000000) (hA : 0 < n → A = some ⟨g, o, none⟩) (w : World)
    (hb1 : b1 < w.heap.size) (hb2 : b2 < w.heap.size) (h1 : w.cell? ⟨b1, 0, none⟩ = some (.slice A n c)) (h2 : w.cell? ⟨b2, 0, none⟩ = some (.int .i64 6)) :
    SeqStopsK Fence.wide m Try.prog 11 #[.pointer (some ⟨b1, 0, none⟩), .pointer (some ⟨b2, 0, none⟩)] (fun x : Fin n => #[pieceV g o n x.val]) (Same2 b1 b2) (fun ys => ys.map (·.val) = firstL ((n + 5) / 6)) (fun _ => True) ((n + 5) / 6) w := fun l J Jx W hW hJ _ hY h0 =>
  chunk_in m hm l b1 b2 g o n c A hc hb hA J Jx W hY (fun pre X k h => hJ _ _ _ none h ⟨rfl, rfl, rfl, Nat.le_refl _, fun _ _ _ => rfl⟩ (fun r e => by cases e)) ((hW.cell (p := ⟨b1, 0, none⟩) hb1).trans h1) ((hW.cell (p := ⟨b2, 0, none⟩) hb2).trans h2) h0
theorem chunk_call (v : Value) (w : World) (hv : v.oneCell' = true) :
    Calls Try.prog 9 #[v, .int .i64 6] w fun e w' => e = .returned (.func (.func 11) #[] #[.pointer (some ⟨w.heap.size, 0, none⟩), .pointer (some ⟨w.heap.size + 1, 0, none⟩)]) ∧ w' = (w.alloc (.cells #[v] 22)).alloc (.cells #[.int .i64 6] 3) := by
  go_enter Try.func9, Try.ntmps9
  go_wp2
  go_ret
  exact ⟨by simp, rfl⟩
end Go.Proofs.Ytjflablcoljdeaa
