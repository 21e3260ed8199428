/- Bytes in memory, their clones and their equality, and one operation of a script (no statement of its own). -/
import Derived.Test.YtjflablcoljdeaaRows
import Derived.WalkKit
import Derived.WalkLawsBesides
import Derived.Lib.Hide
import Derived.Handy
import Derived.IntWalk
import Derived.BigQuiet
import Derived.Deep.QuietTactic
import Derived.Deep.RegionWith
import Derived.Deep.RegionHeld3
import Derived.Laws.StructEq
import Derived.Deep.WholeRow
import Derived.OrdersIn
import Derived.OwnWalkIn
import Derived.RangeFuncCalls
import Derived.RangeFuncBox
import Derived.Deep.Cut
import Derived.Deep.RegionLaw
import Derived.RangeFuncLeaves
import Derived.RangeFuncNested
import Derived.TacticsInMore
import Derived.LoopNIn
import Derived.LoopIn
import Derived.Shelf.Abstract
import Derived.Below
import Derived.OwnWalk
import Derived.Laws.Rows
import Derived.Laws.AppendOwn
import Derived.Laws.AppendOwnNone
import Derived.Laws.CopyOwn
import Derived.Lib.SliceRun
import Derived.Maps.AppendAt
import Derived.ProofKit
import Derived.Deep.OwnRows
namespace Go.Proofs.Ytjflablcoljdeaa
open Go.RowKit
set_option linter.unusedVariables false
theorem new_val (w : World) (o : Obj) : Below w.heap.size w (w.alloc o) := (Below.refl _ _).alloc (Nat.le_refl _) _
theorem grown_any {W W' : World} (h : Below W.heap.size W W') (row : Option Nat) : W.grownBy W' row := ⟨h.os, h.tape, h.output, h.size, fun k hk _ => h.block k hk⟩
theorem next_drewN {B : Nat} {a w : World} (h : Below B a w) (n : Nat) : Below B a (w.drewN n) := ⟨h.os, h.tape, h.output, h.size, h.block⟩
def nth (l : List Nat) (i : Nat) : Nat := l.getD i 0
theorem nth_drop (l : List Nat) (k i : Nat) : nth (l.drop k) i = nth l (k + i) := by simp [nth, List.getD_eq_getElem?_getD, List.getElem?_drop]
theorem nth_take (l : List Nat) (k i : Nat) (h : i < k) : nth (l.take k) i = nth l i := by simp [nth, List.getD_eq_getElem?_getD, h]
theorem nth_app (l m : List Nat) (i : Nat) (h : i < l.length) : nth (l ++ m) i = nth l i := by simp [nth, List.getD_eq_getElem?_getD, List.getElem?_append_left h]
theorem nth_out (l : List Nat) (i : Nat) (h : l.length ≤ i) : nth l i = 0 := by simp [nth, List.getD_eq_getElem?_getD, List.getElem?_eq_none h]
abbrev byL (l : List Nat) : List Value := l.map fun n : Nat => Value.int .u8 (n : Int)
theorem byL_at {l : List Nat} {i : Nat} (h : i < l.length) : (byL l)[i]? = some (.int .u8 (nth l i : Int)) := by
  simp [byL, nth, List.getD_eq_getElem?_getD, List.getElem?_eq_getElem h]
theorem byL_one (l : List Nat) : ∀ v ∈ byL l, v.oneCell' = true := by
  intro v hv
  simp only [byL, List.mem_map] at hv
  obtain ⟨c, _, rfl⟩ := hv
  rfl
/-- The cells behind A are the bytes l. -/
def By (w : World) (A : Option Addr) (l : List Nat) : Prop := l = [] ∨ ∃ g o, A = some ⟨g, o, none⟩ ∧ g < w.heap.size ∧ ∀ i, i < l.length → w.cell? ⟨g, o + i, none⟩ = some (.int .u8 (nth l i : Int))
theorem By.below {w w' : World} {A : Option Addr} {l : List Nat} {B : Nat} (h : By w A l) (hb : Below B w w') (hB : w.heap.size ≤ B) : By w' A l := by
  rcases h with h | ⟨g, o, rfl, hg, hc⟩
  · exact .inl h
  · exact .inr ⟨g, o, rfl, Nat.lt_of_lt_of_le hg hb.size, fun i hi => (hb.cell (p := ⟨g, o + i, none⟩) (Nat.lt_of_lt_of_le hg hB)).trans (hc i hi)⟩
theorem By.at_ {w : World} {A : Option Addr} {l : List Nat} (h : By w A l) {i : Nat} (hi : i < l.length) : ∃ g o, A = some ⟨g, o, none⟩ ∧ g < w.heap.size ∧ w.cell? ⟨g, o + i, none⟩ = some (.int .u8 (nth l i : Int)) := by
  rcases h with rfl | ⟨g, o, rfl, hg, hc⟩
  · simp at hi
  · exact ⟨g, o, rfl, hg, hc i hi⟩
theorem By.drop {w : World} {g o : Nat} {l : List Nat} (h : By w (some ⟨g, o, none⟩) l) (k n : Nat) : By w (some ⟨g, o + k, none⟩) ((l.drop k).take n) := by
  rcases h with rfl | ⟨g', o', e, hg, hc⟩
  · exact .inl (by simp)
  · injection e with e
    injection e with e1 e2
    subst e1 e2
    refine .inr ⟨g, o + k, rfl, hg, fun i hi => ?_⟩
    have hi2 : i < n ∧ k + i < l.length := by simp at hi; omega
    rw [nth_take _ _ _ hi2.1, nth_drop, show o + k + i = o + (k + i) by omega]
    exact hc (k + i) hi2.2
theorem By.cells {w : World} {ad : Addr} {l : List Nat} (h : By w (some ad) l) : ∀ j u, (byL l)[j]? = some u → w.cell? (ad.add j) = some u := by
  intro j u hu
  have hj : j < l.length := by have := (List.getElem?_eq_some_iff.1 hu).1; simpa [byL] using this
  obtain ⟨g, o, e, _, hc⟩ := h.at_ hj
  injection e with e
  subst e
  rw [byL_at hj] at hu
  rw [← hu, ← hc]
  congr 1
  unfold Addr.add
  split <;> simp_all
theorem By.cells' {w : World} {A : Option Addr} {l : List Nat} (h : By w A l) (hl : 0 < (byL l).length) : ∃ ad, A = some ad ∧ ∀ j u, (byL l)[j]? = some u → w.cell? (ad.add j) = some u := by
  obtain ⟨g, o, rfl, _⟩ := h.at_ (i := 0) (by simpa using hl)
  exact ⟨_, rfl, h.cells⟩
/-- The same of a slice that came in, wherever it lies. -/
def ByA (w : World) (A : Option Addr) (l : List Nat) : Prop := ∀ p : Addr, A = some p → ∀ j u, (byL l)[j]? = some u → w.cell? (p.add j) = some u
theorem block_add (a : Addr) (n : Nat) : (a.add n).block = a.block := by unfold Addr.add; split <;> rfl
theorem ByA.below {w w' : World} {A : Option Addr} {l : List Nat} (h : ByA w A l) (hb : Below w.heap.size w w') : ByA w' A l := fun p e j u hj => by
  have hc := h p e j u hj
  exact (hb.cell (p := p.add j) (World.block_lt_of_cell? w _ hc)).trans hc
theorem By.any {w : World} {A : Option Addr} {l : List Nat} (h : By w A l) : ByA w A l := fun p e => by
  subst e
  exact h.cells
/-- A slice of bytes that the call has made. -/
def OwnBy (w : World) (base : Nat) (v : Value) (l : List Nat) : Prop := w.ownsRow base 5 1 v l.length (byL l)
theorem OwnBy.form {w : World} {base : Nat} {v : Value} {l : List Nat} (h : OwnBy w base v l) : ∃ A c, v = .slice A l.length c ∧ By w A l ∧ l.length ≤ c ∧ (A = none → l.length = 0 ∧ c = 0) ∧ ∀ a : Addr, A = some a → base ≤ a.block := by
  obtain ⟨hl, ⟨rfl, hn⟩ | ⟨g, cap, cur, rfl, hb, hh, hm, hlc, hs, ht⟩⟩ := h
  · exact ⟨none, 0, by rw [hn], .inl (List.eq_nil_of_length_eq_zero hn), by omega, fun _ => ⟨hn, rfl⟩, fun a e => by cases e⟩
  · refine ⟨_, cap, rfl, .inr ⟨g, 0, rfl, (Array.getElem?_eq_some_iff.1 hh).1, fun i hi => ?_⟩, by omega, fun e => (by cases e), fun a e => by injection e with e; subst e; exact hb⟩
    rw [Nat.zero_add, cell_of_row w g i cur 5 (0, 0) hh]
    have e : (cur.toList.take (l.length * 1))[i]? = some (.int .u8 (nth l i : Int)) := by rw [ht]; exact byL_at hi
    rw [List.getElem?_take] at e
    exact (by simpa using e : i < l.length ∧ cur[i]? = some (.int .u8 (nth l i : Int))).2
theorem OwnBy.below {w w' : World} {base B : Nat} {v : Value} {l : List Nat} (h : OwnBy w base v l) (hb : Below B w w') (hB : w.heap.size ≤ B) : OwnBy w' base v l := by
  obtain ⟨h1, ⟨rfl, hn⟩ | ⟨g, cap, cur, rfl, hb', hh, hm, hx, hs, ht⟩⟩ := h
  · exact ⟨h1, .inl ⟨rfl, hn⟩⟩
  · refine ⟨h1, .inr ⟨g, cap, cur, rfl, hb', ?_, hm, hx, hs, ht⟩⟩
    rw [hb.block g (by have := (Array.getElem?_eq_some_iff.1 hh).1; omega)]
    exact hh
theorem info_u8 : (Try.prog.info? 5).map (fun i => (i.zero, i.size, i.bytes)) = some (some (.int .u8 0), 1, 1) := by kernel_rfl
set_option maxRecDepth 100000 in
theorem cloneBy (A : Option Addr) (n c : Nat) (l : List Nat) (w : World) (hn : l.length = n) (hs : n ≤ 1000000) (hA0 : A = none → n = 0) (hA : ByA w A l) :
    Calls Try.prog 5 #[.slice A n c] w fun e w' => (∃ v, e = .returned v ∧ OwnBy w' w.heap.size v l) ∧ Below w.heap.size w w' := by
  cases A with
  | none =>
    obtain rfl : n = 0 := hA0 rfl
    obtain rfl := List.eq_nil_of_length_eq_zero hn
    have hq : ∀ W, (binOp .eql 22 (.slice none 0 c) (.slice none 0 0)).run Try.prog W = .ok (.bool true) W := fun W => Lib.run_eql_slice_nil W 22 5 none 0 c 0 0 Try.underlying22
    clear hA hn hs hA0
    go_enter Try.func5, Try.ntmps5
    go_wp2
    go_ret
    exact ⟨⟨_, rfl, World.ownsRow_nil _ _ _ _⟩, Below.refl _ _⟩
  | some ad =>
    subst hn
    have hq : ∀ W, (binOp .eql 22 (.slice (some ad) l.length c) (.slice none 0 0)).run Try.prog W = .ok (.bool false) W := fun W => Lib.run_eql_slice_nil W 22 5 (some ad) l.length c 0 0 Try.underlying22
    obtain ⟨i0, hi, hz0, hz1, hz2⟩ := info_parts info_u8
    have HI := Lib.hid hi
    have HZ0 := Lib.hid hz0
    have HZ1 := Lib.hid hz1
    have HZ2 := Lib.hid hz2
    have n0 : Below w.heap.size w (w.alloc (.cells #[] 5)) := (Below.refl _ _).alloc (Nat.le_refl _) _
    have N0 := Lib.hid n0
    have HC := Lib.hid (hA.below n0 ad rfl)
    have hll : (byL l).length = l.length := by simp
    have HL := Lib.hid hll
    clear hi hz0 hz1 hz2 n0 hA hA0 hll
    go_enter Try.func5, Try.ntmps5
    go_wp2_with (at_builtin; refine wpList_append_own _ rfl (.tmp 5) (.tmp 6) 22 rfl w.heap.size 5 i0 (.int .u8 0) 1 1 Try.underlying22 HI.out HZ0.out HZ1.out HZ2.out rfl (by decide) (.slice (some ⟨w.heap.size, 0, none⟩) 0 0) 0 [] rfl (World.ownsRow_made w #[] 0 (Nat.le_refl _) (by simp [maxLen]) rfl) ad l.length c (byL l) rfl (by rw [HL.out, Nat.mul_one]) HC.out (byL_one _) (by unfold maxLen; omega) (by omega) (by simp) ?_; intro v' w1 h1 h2 _; have H1 := Lib.hid h1; have H2 := Lib.hid h2; clear h1 h2)
    go_ret
    refine ⟨⟨_, rfl, ?_⟩, N0.out.grown H2.out (by simp) (fun k hk => by simp [Value.ownBlock] at hk; omega)⟩
    have h := H1.out
    rw [Nat.zero_add, List.nil_append] at h
    exact h
theorem equalBy (A A2 : Option Addr) (n c c2 : Nat) (l : List Nat) (w : World) (hn : l.length = n) (hl : n ≤ 1000000) (hw : By w A l) (hw2 : By w A2 l) :
    Calls Try.prog 8 #[.slice A n c, .slice A2 n c2] w fun e w' => e = .returned (.bool true) ∧ Below w.heap.size w w' := by
  have HW := Lib.hid hw
  have HW2 := Lib.hid hw2
  have HN := Lib.hid hn
  clear hw hw2 hn
  go_enter Try.func8, Try.ntmps8
  go_wp2_with fail
  go_loopw [5, 13] (fun _ i wr => ∃ j : Nat, j ≤ n ∧ i = .int .i64 j ∧ Below w.heap.size w wr) (fun _ i _ => n - (intOf i).toNat)
  case atStart => exact ⟨0, Nat.zero_le _, rfl, Below.refl _ _⟩
  case round =>
    obtain ⟨j, hj, rfl, hb⟩ := hrel
    have HB := Lib.hid hb
    clear hb
    by_cases hlt : j < n
    · obtain ⟨g, o, rfl, _, hcell⟩ := (HW.out.below HB.out (Nat.le_refl _)).at_ (i := j) (by rw [HN.out]; exact hlt)
      obtain ⟨g2, o2, rfl, _, hcell2⟩ := (HW2.out.below HB.out (Nat.le_refl _)).at_ (i := j) (by rw [HN.out]; exact hlt)
      generalize nth l j = y at hcell hcell2
      have i1 : (j : Int) < (n : Int) := by omega
      have i2 : (0 : Int) ≤ (j : Int) := by omega
      go_wp2_with fail
      go_quiet (fail)
      go_wp2
      go_roundw
      case rel => exact ⟨j + 1, by omega, by go_num, next_drewN HB.out _⟩
      case measure => simp [intOf]; omega
    · go_wp2
      go_ret
      exact ⟨rfl, HB.out⟩
/-- An operation, as six bytes tell it. -/
def opN (p : List Nat) : List Nat := [nth p 0 % 11, nth p 1 % 6, nth p 2 % 4, nth p 3 % 4, nth p 4 + 256 * nth p 5]
abbrev opC (p : List Nat) : Array Value := #[.int .i64 ((nth p 0 % 11 : Nat) : Int), .int .i64 ((nth p 1 % 6 : Nat) : Int), .int .i64 ((nth p 2 % 4 : Nat) : Int), .int .i64 ((nth p 3 % 4 : Nat) : Int), .int .i64 ((nth p 4 + 256 * nth p 5 : Nat) : Int)]
theorem splice_six (l : List Nat) (h : l.length ≤ 6) : splice (byL [0, 0, 0, 0, 0, 0]) 0 (byL l) = byL [nth l 0, nth l 1, nth l 2, nth l 3, nth l 4, nth l 5] := by
  rcases l with _ | ⟨a, _ | ⟨b, _ | ⟨c, _ | ⟨d, _ | ⟨e, _ | ⟨f, _ | ⟨g, l⟩⟩⟩⟩⟩⟩⟩ <;> first | rfl | (simp at h)
theorem results_op {fn : Func} {p : Tmp} (h : fn.results = #[.cell p 32]) (tmps : Array Value) (w : World) (g : Nat) (a b c d e : Value) (hp : tmps.getD p undef = .pointer (some ⟨g, 0, none⟩))
    (hg : w.heap[g]? = some (.cells #[a, b, c, d, e] 32 (0, 0))) : (results fn tmps).run Try.prog w = .ok (.agg #[a, b, c, d, e]) w := by
  have c0 : w.cell? ⟨g, 0, none⟩ = some a := by rw [cell_of_row _ _ _ _ _ _ hg]; rfl
  have c1 : w.cell? ⟨g, 1, none⟩ = some b := by rw [cell_of_row _ _ _ _ _ _ hg]; rfl
  have c2 : w.cell? ⟨g, 2, none⟩ = some c := by rw [cell_of_row _ _ _ _ _ _ hg]; rfl
  have c3 : w.cell? ⟨g, 3, none⟩ = some d := by rw [cell_of_row _ _ _ _ _ _ hg]; rfl
  have c4 : w.cell? ⟨g, 4, none⟩ = some e := by rw [cell_of_row _ _ _ _ _ _ hg]; rfl
  have hp' : tmps[p]?.getD undef = .pointer (some ⟨g, 0, none⟩) := by simpa using hp
  simp [results, h, hp', go_sem, c0, c1, c2, c3, c4]
set_option maxRecDepth 100000 in
set_option maxHeartbeats 2000000 in
theorem opOf_any (A : Option Addr) (n c : Nat) (l : List Nat) (w : World) (hn : l.length = n) (h6 : n ≤ 6) (h8 : ∀ b ∈ l, b < 256) (hA : By w A l) :
    Calls Try.prog 10 #[.slice A n c] w fun e w' => e = .returned (.agg (opC l)) ∧ Below w.heap.size w w' := by
  have hsz : (Try.prog.info? 5).map (·.size) = some 1 := by kernel_rfl
  have hb : ∀ i, nth l i < 256 := fun i => by
    by_cases hi : i < l.length
    · unfold nth
      rw [List.getD_eq_getElem?_getD, List.getElem?_eq_getElem hi]
      exact h8 _ (List.getElem_mem hi)
    · rw [nth_out _ _ (by omega)]; omega
  have b1 := new_val w (.cells #[.int .i64 0, .int .i64 0, .int .i64 0, .int .i64 0, .int .i64 0] 32)
  have b2 := b1.trans ((new_val (w.alloc (.cells #[.int .i64 0, .int .i64 0, .int .i64 0, .int .i64 0, .int .i64 0] 32)) (.cells (byL [0, 0, 0, 0, 0, 0]).toArray 38)).mono (by simp))
  have HROW := Lib.hid (heap_alloc_new (w.alloc (.cells #[.int .i64 0, .int .i64 0, .int .i64 0, .int .i64 0, .int .i64 0] 32)) (.cells (byL [0, 0, 0, 0, 0, 0]).toArray 38))
  have HX := Lib.hid ((hA.below b2 (Nat.le_refl _)).cells')
  have B2 := Lib.hid b2
  have HL8 : Hid ((byL l).length = n) := Lib.hid (by simp [hn])
  have HN := Lib.hid hn
  have HB := Lib.hid hb
  have H1 := Lib.hid (byL_one l)
  obtain ⟨X, hX⟩ : ∃ X, X = byL l := ⟨_, rfl⟩
  rw [← hX] at HX HL8 H1
  have HXE := Lib.hid hX
  clear hX hb hA h8 hn b1 b2
  obtain ⟨b0, hb0⟩ : ∃ b, b = nth l 0 := ⟨_, rfl⟩
  obtain ⟨b1, hb1⟩ : ∃ b, b = nth l 1 := ⟨_, rfl⟩
  obtain ⟨b2, hb2⟩ : ∃ b, b = nth l 2 := ⟨_, rfl⟩
  obtain ⟨b3, hb3⟩ : ∃ b, b = nth l 3 := ⟨_, rfl⟩
  obtain ⟨b4, hb4⟩ : ∃ b, b = nth l 4 := ⟨_, rfl⟩
  obtain ⟨b5, hb5⟩ : ∃ b, b = nth l 5 := ⟨_, rfl⟩
  have SP : Hid (splice (byL [0, 0, 0, 0, 0, 0]) 0 X = byL [b0, b1, b2, b3, b4, b5]) := Lib.hid (by rw [HXE.out, splice_six l (by have := HN.out; omega), hb0, hb1, hb2, hb3, hb4, hb5])
  have y0 : b0 < 256 := by rw [hb0]; exact HB.out 0
  have y1 : b1 < 256 := by rw [hb1]; exact HB.out 1
  have y2 : b2 < 256 := by rw [hb2]; exact HB.out 2
  have y3 : b3 < 256 := by rw [hb3]; exact HB.out 3
  have y4 : b4 < 256 := by rw [hb4]; exact HB.out 4
  have y5 : b5 < 256 := by rw [hb5]; exact HB.out 5
  have t0 : ((b0 : Int)).tmod 11 = ((b0 % 11 : Nat) : Int) := rfl
  have t1 : ((b1 : Int)).tmod 6 = ((b1 % 6 : Nat) : Int) := rfl
  have t2 : ((b2 : Int)).tmod 4 = ((b2 % 4 : Nat) : Int) := rfl
  have t3 : ((b3 : Int)).tmod 4 = ((b3 % 4 : Nat) : Int) := rfl
  have t5 : (256 : Int) * (b5 : Int) = ((256 * b5 : Nat) : Int) := by omega
  have t4 : (b4 : Int) + ((256 * b5 : Nat) : Int) = ((b4 + 256 * b5 : Nat) : Int) := by omega
  have u4 : 256 * b5 ≤ 65280 := by omega
  have u5 : b4 + 256 * b5 ≤ 65535 := by omega
  have EQ : Hid (opC l = #[.int .i64 ((b0 % 11 : Nat) : Int), .int .i64 ((b1 % 6 : Nat) : Int), .int .i64 ((b2 % 4 : Nat) : Int), .int .i64 ((b3 % 4 : Nat) : Int), .int .i64 ((b4 + 256 * b5 : Nat) : Int)]) := Lib.hid (by rw [hb0, hb1, hb2, hb3, hb4, hb5])
  obtain ⟨m0, h0⟩ : ∃ m, m = b0 % 11 := ⟨_, rfl⟩
  obtain ⟨m1, h1⟩ : ∃ m, m = b1 % 6 := ⟨_, rfl⟩
  obtain ⟨m2, h2⟩ : ∃ m, m = b2 % 4 := ⟨_, rfl⟩
  obtain ⟨m3, h3⟩ : ∃ m, m = b3 % 4 := ⟨_, rfl⟩
  obtain ⟨m5, h5⟩ : ∃ m, m = 256 * b5 := ⟨_, rfl⟩
  rw [← h0] at t0 EQ
  rw [← h1] at t1 EQ
  rw [← h2] at t2 EQ
  rw [← h3] at t3 EQ
  rw [← h5] at t5 t4 u4 u5 EQ
  obtain ⟨m4, h4⟩ : ∃ m, m = b4 + m5 := ⟨_, rfl⟩
  rw [← h4] at t4 u5 EQ
  rw [EQ.out]
  clear EQ HXE HB hb0 hb1 hb2 hb3 hb4 hb5
  have z0 : m0 < 11 := by omega
  have z1 : m1 < 6 := by omega
  have z2 : m2 < 4 := by omega
  have z3 : m3 < 4 := by omega
  clear h0 h1 h2 h3 h4 h5
  have B1 := Lib.hid (new_val w (.cells #[.int .i64 0, .int .i64 0, .int .i64 0, .int .i64 0, .int .i64 0] 32))
  have R1 := Lib.hid (heap_alloc_new w (.cells #[.int .i64 0, .int .i64 0, .int .i64 0, .int .i64 0, .int .i64 0] 32))
  go_enter Try.func10, Try.ntmps10
  go_wp2_with (first | (refine wpList_copy_splice rfl (.tmp 4) (.tmp 5) 22 22 rfl 5 Try.underlying22 hsz (some ⟨w.heap.size + 1, 0, none⟩) A 6 6 n c rfl rfl (w.heap.size + 1) 0 (byL [0, 0, 0, 0, 0, 0]) 38 (by simpa using HROW.out) X (by rw [HL8.out]; show n = min n 6; omega) (fun h => ⟨rfl, HX.out h⟩) (by rw [HL8.out]; simpa using h6) H1.out (w.heap.size + 1) (w.alloc (.cells #[.int .i64 0, .int .i64 0, .int .i64 0, .int .i64 0, .int .i64 0] 32)) (by simpa using new_val (w.alloc (.cells #[.int .i64 0, .int .i64 0, .int .i64 0, .int .i64 0, .int .i64 0] 32)) (.cells (byL [0, 0, 0, 0, 0, 0]).toArray 38)) (by omega) ?_; intro w1 hr1 hb1; rw [SP.out] at hr1; have c0 : w1.cell? ⟨w.heap.size + 1, 0, none⟩ = some (.int .u8 (b0 : Int)) := (cell_of_row _ _ _ _ _ _ hr1.out).trans rfl; have c1 : w1.cell? ⟨w.heap.size + 1, 1, none⟩ = some (.int .u8 (b1 : Int)) := (cell_of_row _ _ _ _ _ _ hr1.out).trans rfl; have c2 : w1.cell? ⟨w.heap.size + 1, 2, none⟩ = some (.int .u8 (b2 : Int)) := (cell_of_row _ _ _ _ _ _ hr1.out).trans rfl; have c3 : w1.cell? ⟨w.heap.size + 1, 3, none⟩ = some (.int .u8 (b3 : Int)) := (cell_of_row _ _ _ _ _ _ hr1.out).trans rfl; have c4 : w1.cell? ⟨w.heap.size + 1, 4, none⟩ = some (.int .u8 (b4 : Int)) := (cell_of_row _ _ _ _ _ _ hr1.out).trans rfl; have c5 : w1.cell? ⟨w.heap.size + 1, 5, none⟩ = some (.int .u8 (b5 : Int)) := (cell_of_row _ _ _ _ _ _ hr1.out).trans rfl; have R2 := Lib.hid ((hb1.block w.heap.size (by omega)).trans R1.out); have B3 := Lib.hid (B1.out.trans (hb1.mono (by omega))); clear hr1 hb1) | ((with_reducible show wpList _ _ _ (Oper.mk none (.store 32 _ _) _ _ _ _ :: _) _ _); (refine wpList_store_row rfl 32 (.tmp 2) (.tmp 31) rfl w.heap.size #[.int .i64 (m0 : Int), .int .i64 (m1 : Int), .int .i64 (m2 : Int), .int .i64 (m3 : Int), .int .i64 (m4 : Int)] rfl rfl 32 #[.int .i64 0, .int .i64 0, .int .i64 0, .int .i64 0, .int .i64 0] R2.out (by kernel_rfl) rfl (by simp [Value.oneCell']) ?_); have R3 := setRow_heap w1 w.heap.size _ #[.int .i64 (m0 : Int), .int .i64 (m1 : Int), .int .i64 (m2 : Int), .int .i64 (m3 : Int), .int .i64 (m4 : Int)] _ _ R2.out; have B4 := Lib.hid (below_setRow B3.out (Nat.le_refl w.heap.size) #[.int .i64 (m0 : Int), .int .i64 (m1 : Int), .int .i64 (m2 : Int), .int .i64 (m3 : Int), .int .i64 (m4 : Int)]); generalize w1.setRow w.heap.size #[.int .i64 (m0 : Int), .int .i64 (m1 : Int), .int .i64 (m2 : Int), .int .i64 (m3 : Int), .int .i64 (m4 : Int)] = w2 at R3 B4 ⊢; clear c0 c1 c2 c3 c4 c5 R2 B3))
  refine bodyPost_ret (results_op rfl _ _ w.heap.size _ _ _ _ _ rfl R3) rfl ⟨rfl, B4.out⟩
end Go.Proofs.Ytjflablcoljdeaa
