/- Texts of this seat laid together (no statement of its own). -/
import Derived.Test.YtdmldnlgamnkeaaGreatUm
import Derived.Test.YtdmldnlgamnkeaaGreatTbZ
import Derived.Test.YtdmldnlgamnkeaaGreatLk
import Derived.Test.YtdmldnlgamnkeaaGreatUD
namespace Go.Proofs.YtdmldnlgamnkeaaGreat
open Go.RowKit
set_option linter.unusedVariables false
/-- The lines of the first i tuples. -/
def linesTo (l : List Nat) (o : Int) (f : List Nat → Int) (i : Nat) : List (List Nat) := ((List.range i).filter fun i => decide (f (tupL l i) ≠ o)).map (tupL l)
theorem linesTo_all (l : List Nat) (o : Int) (f : List Nat → Int) : linesTo l o f (prodL l) = linesT l o f := rfl
theorem linesTo_yes {l : List Nat} {o : Int} {f : List Nat → Int} {i : Nat} (h : f (tupL l i) ≠ o) : linesTo l o f (i + 1) = linesTo l o f i ++ [tupL l i] := by
  unfold linesTo
  rw [List.range_succ, List.filter_append, List.map_append]
  simp [h]
theorem linesTo_no {l : List Nat} {o : Int} {f : List Nat → Int} {i : Nat} (h : f (tupL l i) = o) : linesTo l o f (i + 1) = linesTo l o f i := by
  unfold linesTo
  rw [List.range_succ, List.filter_append, List.map_append]
  simp [h]
theorem linesTo_len (l : List Nat) (o : Int) (f : List Nat → Int) (i : Nat) : (linesTo l o f i).length ≤ i := by
  unfold linesTo
  rw [List.length_map]
  have := List.length_filter_le (fun i => decide (f (tupL l i) ≠ o)) (List.range i)
  rw [List.length_range] at this
  exact this
theorem linesTo_part {l : List Nat} {o : Int} {f : List Nat → Int} {i : Nat} : ∀ d, ∃ r, linesTo l o f (i + d) = linesTo l o f i ++ r
  | 0 => ⟨[], by simp⟩
  | d + 1 => by
    obtain ⟨r, hr⟩ := linesTo_part (l := l) (o := o) (f := f) (i := i) d
    by_cases h : f (tupL l (i + d)) = o
    · exact ⟨r, by rw [← Nat.add_assoc, linesTo_no h, hr]⟩
    · exact ⟨r ++ [tupL l (i + d)], by rw [← Nat.add_assoc, linesTo_yes h, hr, List.append_assoc]⟩
/-- Where the next line stands among all. -/
theorem linesTo_at {l : List Nat} {o : Int} {f : List Nat → Int} {i : Nat} (hi : i < prodL l) (h : f (tupL l i) ≠ o) : nthT (linesT l o f) (linesTo l o f i).length = tupL l i := by
  obtain ⟨r, hr⟩ := linesTo_part (l := l) (o := o) (f := f) (i := i + 1) (prodL l - (i + 1))
  rw [show i + 1 + (prodL l - (i + 1)) = prodL l by omega, linesTo_all, linesTo_yes h] at hr
  rw [hr]
  simp [nthT, List.getD_eq_getElem?_getD]
end Go.Proofs.YtdmldnlgamnkeaaGreat

namespace Go.Proofs.YtdmldnlgamnkeaaGreat
open Go.RowKit
set_option linter.unusedVariables false
/-- A slice of slices, made from b1 on, its rows from b2 on, holds these tuples. -/
def RowsU (W : World) (b1 b2 : Nat) (v : Value) (ts : List (List Nat)) : Prop :=
  ∃ xs, W.ownsRow b1 26 1 v ts.length xs ∧ ∀ j x, xs[j]? = some x → Own W b2 x (nthT ts j)
theorem rowsU_nil (W : World) (b1 b2 : Nat) : RowsU W b1 b2 (.slice none 0 0) [] := ⟨[], World.ownsRow_nil W b1 26 1, fun j x h => by simp at h⟩
theorem RowsU.below {w w' : World} {b1 b2 B : Nat} {v : Value} {ts : List (List Nat)} (h : RowsU w b1 b2 v ts) (hb : Below B w w') (hB : w.heap.size ≤ B) : RowsU w' b1 b2 v ts := by
  obtain ⟨xs, h1, h2⟩ := h
  exact ⟨xs, ownsRow_below h1 hb hB, fun j x hx => (h2 j x hx).below hb hB⟩
theorem RowsU.rows {w : World} {b1 b2 : Nat} {v : Value} {ts : List (List Nat)} (h : RowsU w b1 b2 v ts) (hb : b2 ≤ b1) : RowsT w b2 v ts := by
  obtain ⟨xs, h1, h2⟩ := h
  exact ⟨xs, ownsRow_less h1 hb, h2⟩
theorem RowsU.form {w : World} {b1 b2 : Nat} {v : Value} {ts : List (List Nat)} (h : RowsU w b1 b2 v ts) : ∃ A c, v = .slice A ts.length c := by
  obtain ⟨xs, ⟨hl, ⟨rfl, hn⟩ | ⟨g, cap, cur, rfl, hb, hh, hm, _, hs, ht⟩⟩, h2⟩ := h
  · exact ⟨none, 0, by rw [hn]⟩
  · exact ⟨_, cap, rfl⟩
theorem row64_apart {w : World} {b1 b2 n m : Nat} {v u : Value} {xs ys : List Value} (h : w.ownsRow b1 26 1 v n xs) (k : w.ownsRow b2 2 1 u m ys) : v.ownBlock = none ∨ v.ownBlock ≠ u.ownBlock := by
  cases hv : v.ownBlock with
  | none => exact .inl rfl
  | some g =>
    refine .inr fun e => ?_
    obtain ⟨c, fz, hc⟩ := Lib.ownsRow_kind h g hv
    obtain ⟨c', fz', hc'⟩ := Lib.ownsRow_kind k g e.symm
    rw [hc] at hc'
    cases hc'
theorem row64_apart' {w : World} {b1 b2 n m : Nat} {v u : Value} {xs ys : List Value} (h : w.ownsRow b1 26 1 v n xs) (k : w.ownsRow b2 2 1 u m ys) : u.ownBlock = none ∨ u.ownBlock ≠ v.ownBlock := by
  cases hv : u.ownBlock with
  | none => exact .inl rfl
  | some g =>
    refine .inr fun e => ?_
    obtain ⟨c, fz, hc⟩ := Lib.ownsRow_kind k g hv
    obtain ⟨c', fz', hc'⟩ := Lib.ownsRow_kind h g e.symm
    rw [hc] at hc'
    cases hc'
theorem Own.apart64 {w : World} {base b2 m : Nat} {v u : Value} {l : List Nat} {ys : List Value} (h : Own w base v l) (k : w.ownsRow b2 2 1 u m ys) : v.ownBlock = none ∨ v.ownBlock ≠ u.ownBlock := by
  cases hv : v.ownBlock with
  | none => exact .inl rfl
  | some g =>
    refine .inr fun e => ?_
    obtain ⟨c, fz, hc⟩ := h.kind g hv
    obtain ⟨c', fz', hc'⟩ := Lib.ownsRow_kind k g e.symm
    rw [hc] at hc'
    cases hc'
/-- append of one slice that lies in a literal. -/
theorem push_rowsU {ops : Array Oper} {rest : List Oper} {o : Oper} {a : Act} {Q : Exit → Act → World → Prop} (hgd : o.guard = none) (s x : Operand)
    (ho : o.op = .call { callee := .builtin .append, args := #[s, x], argTypes := #[36, 36] })
    (W : World) (base b2 : Nat) (v xv : Value) (ts : List (List Nat)) (t : List Nat) (hs : a.eval s = v) (hx : a.eval x = .slice (some ⟨W.heap.size, 0, none⟩) 1 1)
    (hown : RowsU W base b2 v ts) (hxv : Own W b2 xv t) (hbase : base ≤ W.heap.size) (hl : ts.length ≤ 1000000)
    (h : ∀ v' w', RowsU w' base b2 v' (ts ++ [t]) → Below base W w' → (W.alloc (.cells #[xv] 26)).grownBy w' v.ownBlock → wpList Tryz.prog ops Q rest (a.put o.dst v') w') :
    wpList Tryz.prog ops Q (o :: rest) a (W.alloc (.cells #[xv] 26)) := by
  obtain ⟨i0, hi, hz0, hz1, hz2⟩ := info_parts info_ints
  have n0 := new_val W (.cells #[xv] 26)
  have hb : Below base W (W.alloc (.cells #[xv] 26)) := (Below.refl _ _).alloc hbase _
  obtain ⟨xs, h1, h2⟩ := hown
  have h1' := ownsRow_below h1 n0 (Nat.le_refl _)
  have hx1 := hxv.below n0 (Nat.le_refl _)
  have hc := heap_alloc_new W (.cells #[xv] 26)
  have hlen : xs.length = ts.length := by have := h1.1; omega
  refine wpList_append_own _ hgd s x 36 ho base 26 i0 (.slice none 0 0) 1 24 Tryz.underlying36 hi hz0 hz1 hz2 rfl (by decide) v ts.length xs hs h1' ⟨W.heap.size, 0, none⟩ 1 1 [xv] hx rfl ?_ ?_ (by unfold maxLen; omega) (by omega) (by simp; omega) ?_
  · intro j u hj
    rcases j with _ | j
    · simp at hj
      subst hj
      show (W.alloc _).cell? ⟨W.heap.size, 0, none⟩ = _
      rw [cell_of_row _ _ _ _ _ _ hc]
      rfl
    · simp at hj
  · intro u hu
    simp at hu
    subst hu
    exact hx1.one
  · intro v' w' k1 k2 _
    refine h v' w' ⟨xs ++ [xv], by rw [List.length_append]; exact k1, fun j y hy => ?_⟩ (hb.grown k2 (by simp; omega) (fun k hk => (World.ownsRow.lt h1 k hk).1)) k2
    rcases Nat.lt_or_ge j ts.length with hj | hj
    · rw [nthT_push _ _ _ hj]
      rw [List.getElem?_append_left (by omega)] at hy
      have hy0 := h2 j y hy
      exact (hy0.below n0 (Nat.le_refl _)).grown k2 ((hy0.below n0 (Nat.le_refl _)).apart h1')
    · have hj2 : j = ts.length := by
        have := (List.getElem?_eq_some_iff.1 hy).1
        simp at this
        omega
      subst hj2
      rw [nthT_last]
      rw [List.getElem?_append_right (by omega), hlen, Nat.sub_self] at hy
      simp at hy
      subst hy
      exact hx1.grown k2 (hx1.apart h1')
theorem RowsU.keep64 {w w' : World} {b1 b2 b3 m : Nat} {v u : Value} {ts : List (List Nat)} {ys : List Value} (h : RowsU w b1 b2 v ts) (k : w.ownsRow b3 2 1 u m ys) (hg : w.grownBy w' u.ownBlock) : RowsU w' b1 b2 v ts := by
  obtain ⟨xs, h1, h2⟩ := h
  exact ⟨xs, World.ownsRow.kept h1 hg (row64_apart h1 k), fun j x hx => (h2 j x hx).grown hg ((h2 j x hx).apart64 k)⟩
theorem row64_keepU {w w' : World} {b1 b2 b3 m : Nat} {v u : Value} {ts : List (List Nat)} {ys : List Value} (k : w.ownsRow b3 2 1 u m ys) (h : RowsU w b1 b2 v ts) (hg : w.grownBy w' v.ownBlock) : w'.ownsRow b3 2 1 u m ys := by
  obtain ⟨xs, h1, h2⟩ := h
  exact World.ownsRow.kept k hg (row64_apart' h1 k)
def RlPost (w : World) (l : List Nat) (o : Int) (f : List Nat → Int) (e : Ending) (w' : World) : Prop :=
  (∃ A1 c1 A2 c2, e = .returned (.tuple #[.slice A1 (linesT l o f).length c1, .slice A2 (linesT l o f).length c2]) ∧ RowsT w' w.heap.size (.slice A1 (linesT l o f).length c1) (linesT l o f) ∧ Zs w' A2 (linesT l o f).length (fun j => f (nthT (linesT l o f) j))) ∧ Below w.heap.size w w'
structure RlAt (l : List Nat) (o : Int) (f : List Nat → Int) (b : Nat) (w1 : World) (base i : Nat) (v u : Value) (W : World) : Prop where
  rows : RowsU W w1.heap.size base v (linesTo l o f i)
  costs : W.ownsRow w1.heap.size 2 1 u (linesTo l o f i).length (costL (fun j => f (nthT (linesT l o f) j)) (linesTo l o f i).length)
  bel : Below w1.heap.size w1 W
set_option maxRecDepth 100000 in
set_option maxHeartbeats 4000000 in
theorem rlines_any (As Ac : Option Addr) (cs cc P : Nat) (l : List Nat) (k o : Int) (z : Nat → Int) (f : List Nat → Int) (w : World) (h6 : l.length ≤ 6) (hcs : l.length ≤ cs) (hls : ∀ n ∈ l, 1 ≤ n ∧ n ≤ 32) (hP : prodL l = P) (hP4 : P ≤ 4096) (hI : Ints w As l) (hZ : Zs w Ac P z) (hz : ∀ i, i < P → z i = f (tupL l i)) :
    Calls Tryz.prog 35 #[.agg #[.slice As l.length cs, .int .i64 k, .slice Ac P cc], .int .i64 o] w (RlPost w l o f) := by
  have n1 := new_val w (.cells #[.slice As l.length cs, .int .i64 k, .slice Ac P cc] 29)
  have hx := heap_alloc_new w (.cells #[.slice As l.length cs, .int .i64 k, .slice Ac P cc] 29)
  have I1 := Lib.hid (hI.below n1 (Nat.le_refl _))
  have Z1 := Lib.hid (hZ.below n1 (Nat.le_refl _))
  have N1 := Lib.hid n1
  have HX := Lib.hid hx
  have HP := Lib.hid hP
  have HLS := Lib.hid hls
  have HF := Lib.hid hz
  clear hI hZ hP hls hz n1 hx
  go_enter Tryz.func35, Tryz.ntmps35
  go_upto_region 1 with fail
  generalize w.alloc (.cells #[.slice As l.length cs, .int .i64 k, .slice Ac P cc] 29) = wa at I1 Z1 N1 HX ⊢
  have c0 : wa.cell? ⟨w.heap.size, 0, none⟩ = some (.slice As l.length cs) := by rw [cell_of_row _ _ _ _ _ _ HX.out]; rfl
  go_wp2_with fail
  refine (rall_any4 As l.length cs P l wa rfl h6 hcs HLS.out HP.out hP4 I1.out).mono ?_
  rintro e w1 ⟨⟨Ar, cr, rfl, hR⟩, b1⟩
  have R1 := Lib.hid (hR.less N1.out.size)
  have B1 := Lib.hid b1
  have X1 : Hid (w1.heap[w.heap.size]? = _) := Lib.hid ((b1.block _ (Array.getElem?_eq_some_iff.1 HX.out).1).trans HX.out)
  have Z2 := Lib.hid (Z1.out.below b1 (Nat.le_refl _))
  have BT := Lib.hid (then_ N1.out b1)
  clear hR b1 c0 HX I1 Z1
  have S0 : Hid (RlAt l o f w.heap.size w1 w.heap.size 0 (.slice none 0 0) (.slice none 0 0) w1) := Lib.hid ⟨rowsU_nil _ _ _, World.ownsRow_nil _ _ _ _, Below.refl _ _⟩
  go_wp2_with fail
  go_loopw [6, 7, 8, 9, 14] (fun v u _ _ i wr => ∃ j : Nat, j ≤ P ∧ i = .int .i64 (j : Int) ∧ RlAt l o f w.heap.size w1 w.heap.size j v u wr) (fun _ _ _ _ i _ => P - (intOf i).toNat)
  case atStart => exact ⟨0, Nat.zero_le _, rfl, S0.out⟩
  case round =>
    obtain ⟨j, hj, rfl, hS⟩ := hrel
    have HS := Lib.hid hS
    clear hS S0
    obtain ⟨A1, c1, rfl⟩ := HS.out.rows.form
    obtain ⟨A2, c2, rfl⟩ := row64_form HS.out.costs
    have LL := Lib.hid (linesTo_len l o f j)
    obtain ⟨m, hm⟩ : ∃ m, (linesTo l o f j).length = m := ⟨_, rfl⟩
    have HM := Lib.hid hm
    by_cases hlt : j < P
    · obtain ⟨Ar', cr', e1, hrow⟩ := (R1.out.below HS.out.bel (Nat.le_refl _)).form
      obtain ⟨g, x, hA, hg, hc, hx⟩ := hrow j (by rw [allL_length, HP.out]; exact hlt)
      obtain rfl : Ar = Ar' := by injection e1
      subst hA
      have hx' : Own wr w.heap.size x (tupL l j) := by
        have e : nthT (allL l) j = tupL l j := allL_get l (by rw [HP.out]; exact hlt)
        rw [e] at hx
        exact hx
      have HO := Lib.hid hx'
      obtain ⟨Ax, cx, rfl, hIx⟩ := hx'.form
      clear hIx
      have XW : Hid (wr.heap[w.heap.size]? = _) := Lib.hid ((HS.out.bel.block _ (Array.getElem?_eq_some_iff.1 X1.out).1).trans X1.out)
      have x2 : wr.cell? ⟨w.heap.size, 2, none⟩ = some (.slice Ac P cc) := by rw [cell_of_row _ _ _ _ _ _ XW.out]; rfl
      obtain ⟨gz, oz, rfl, hcz⟩ := (Z2.out.below HS.out.bel (Nat.le_refl _)).at_ hlt
      rw [HF.out j hlt] at hcz
      rw [hm]
      clear hx hx' hrow e1 hm
      have i1 : (j : Int) < (P : Int) := by omega
      have i2 : (0 : Int) ≤ (j : Int) := by omega
      have hm4 : m ≤ 4096 := by have := LL.out; rw [HM.out] at this; omega
      by_cases hq : f (tupL l j) = o
      · have HN := Lib.hid (linesTo_no hq)
        rw [hq] at hcz
        clear hq
        go_wp2_with fail
        go_roundw
        case rel => exact ⟨j + 1, by omega, by go_num, by have := HS.out; rw [← HM.out]; exact ⟨by rw [HN.out]; exact this.rows, by rw [HN.out]; exact this.costs, this.bel⟩⟩
        case measure => simp [intOf]; omega
      · have HY := Lib.hid (linesTo_yes hq)
        have HAT := Lib.hid (linesTo_at (by rw [HP.out]; exact hlt) hq)
        have hd : (f (tupL l j) != o) = true := by simpa using hq
        have HU := Lib.hid (show f (tupL l j) = (fun j => f (nthT (linesT l o f) j)) m from by show _ = f (nthT (linesT l o f) m); rw [← HM.out, HAT.out])
        obtain ⟨y, hy⟩ : ∃ y, f (tupL l j) = y := ⟨_, rfl⟩
        rw [hy] at hcz hd HU
        have S1 := HS.out.rows
        have S2 := HS.out.costs
        rw [HM.out] at S1 S2
        have K1 := Lib.hid S1
        have K2 := Lib.hid S2
        have BB := Lib.hid HS.out.bel
        have hbz : w1.heap.size ≤ wr.heap.size := HS.out.bel.size
        have HY2 := Lib.hid hy
        clear S1 S2 hq hy
        go_upto_region 8 with (at_builtin; refine push_rowsU rfl (.tmp 26) (.tmp 28) rfl wr w1.heap.size w.heap.size _ _ (linesTo l o f j) (tupL l j) rfl rfl K1.out HO.out BB.out.size (by have := LL.out; omega) ?_; intro v' w4 h1 h2 h3; obtain ⟨A3, c3, rfl⟩ := h1.form)
        have L1 := Lib.hid h1
        have B4 := Lib.hid (BB.out.trans h2)
        have KC : Hid (w4.ownsRow w1.heap.size 2 1 (.slice A2 m c2) m (costL (fun j => f (nthT (linesT l o f) j)) m)) := Lib.hid (row64_keepU (ownsRow_below K2.out (new_val wr _) (Nat.le_refl _)) (K1.out.below (new_val wr _) (Nat.le_refl _)) h3)
        have hz4 : w1.heap.size ≤ w4.heap.size := B4.out.size
        have XW4 : Hid (w4.heap[w.heap.size]? = _) := Lib.hid ((B4.out.block _ (Array.getElem?_eq_some_iff.1 X1.out).1).trans X1.out)
        have x4 : w4.cell? ⟨w.heap.size, 2, none⟩ = some (.slice (some ⟨gz, oz, none⟩) P cc) := by rw [cell_of_row _ _ _ _ _ _ XW4.out]; rfl
        have hcz4 : w4.cell? ⟨gz, oz + j, none⟩ = some (.int .i64 y) := by
          obtain ⟨g', o', e', h'⟩ := (Z2.out.below B4.out (Nat.le_refl _)).at_ hlt
          injection e' with e'
          injection e' with e1 e2
          subst e1 e2
          rw [HF.out j hlt, HY2.out] at h'
          exact h'
        clear h1 h2 h3 x2 hcz hc XW
        go_upto_region 9 with (at_builtin; refine push64 rfl (.tmp 30) (.tmp 36) rfl w4 w1.heap.size m _ _ y HU.out rfl rfl KC.out hz4 (by omega) ?_; intro v5 w5 h1 h2; obtain ⟨A5, c5, rfl⟩ := row64_form h1)
        have FIN : Hid (RlAt l o f w.heap.size w1 w.heap.size (j + 1) (.slice A3 ((linesTo l o f j).length + 1) c3) (.slice A5 (m + 1) c5) w5) := Lib.hid (by
          have hlen : (linesTo l o f j ++ [tupL l j]).length = m + 1 := by rw [List.length_append, HM.out]; rfl
          refine ⟨by rw [HY.out]; have hq := L1.out.keep64 KC.out h2; rw [hlen] at hq; rw [HM.out]; exact hq, by rw [HY.out, hlen]; exact h1, B4.out.grown h2 hz4 (fun k hk => (World.ownsRow.lt KC.out k hk).1)⟩)
        clear h1 h2 x4 hcz4 K1 K2 KC L1
        go_wp2_with fail
        go_roundw
        case rel => exact ⟨j + 1, by omega, by go_num, FIN.out⟩
        case measure => simp [intOf]; omega
    · obtain rfl : j = P := by omega
      have i1 : ¬ ((j : Int) < (j : Int)) := by omega
      have FIN : Hid (RlPost w l o f (.returned (.tuple #[.slice A1 (linesTo l o f j).length c1, .slice A2 (linesTo l o f j).length c2])) wr) := Lib.hid (by
        have S1 := HS.out.rows
        have S2 := HS.out.costs
        have e : linesTo l o f j = linesT l o f := by rw [← HP.out]; rfl
        rw [e] at S1 S2 ⊢
        exact ⟨⟨A1, c1, A2, c2, rfl, S1.rows (by have := BT.out.size; omega), zs_row64 S2⟩, BT.out.trans (HS.out.bel.mono BT.out.size)⟩)
      rw [hm] at FIN ⊢
      clear hm
      go_wp2_with fail
      go_ret2
      exact FIN.out
end Go.Proofs.YtdmldnlgamnkeaaGreat

namespace Go.Proofs.YtdmldnlgamnkeaaGreat
open Go.RowKit Go.Maps
set_option linter.unusedVariables false
abbrev HoldM (wb : World) (b n P cs cc : Nat) (As Ac : Option Addr) (k : Int) (W : World) : Prop :=
  W.cell? ⟨b, 0, none⟩ = some (.slice As n cs) ∧ W.cell? ⟨b, 1, none⟩ = some (.int .i64 k) ∧ W.cell? ⟨b, 2, none⟩ = some (.slice Ac P cc) ∧ Below wb.heap.size wb W
theorem holdM {wb W W' : World} {b n P cs cc : Nat} {As Ac : Option Addr} {k : Int} (H : HoldM wb b n P cs cc As Ac k W) (hb : Below W.heap.size W W') : HoldM wb b n P cs cc As Ac k W' := by
  obtain ⟨b0, b1, b2, h9⟩ := H
  have K : ∀ b i v, W.cell? ⟨b, i, none⟩ = some v → W'.cell? ⟨b, i, none⟩ = some v := fun b i v h => (hb.cell (p := ⟨b, i, none⟩) (World.block_lt_of_cell? W _ h)).trans h
  exact ⟨K _ _ _ b0, K _ _ _ b1, K _ _ _ b2, h9.trans (hb.mono h9.size)⟩
theorem HoldM.below {wb W : World} {b n P cs cc : Nat} {As Ac : Option Addr} {k : Int} (H : HoldM wb b n P cs cc As Ac k W) : Below wb.heap.size wb W := H.2.2.2
abbrev HoldR (wb : World) (g1 g2 g3 o3 j : Nat) (x y : Value) (c : Int) (W : World) : Prop :=
  W.cell? ⟨g1, j * 2, none⟩ = some x ∧ W.cell? ⟨g1, j * 2 + 1, none⟩ = some (.int .i64 c) ∧ W.cell? ⟨g2, j, none⟩ = some y ∧ W.cell? ⟨g3, o3 + j, none⟩ = some (.int .i64 c) ∧ Below wb.heap.size wb W
theorem holdR {wb W W' : World} {g1 g2 g3 o3 j : Nat} {x y : Value} {c : Int} (H : HoldR wb g1 g2 g3 o3 j x y c W) (hb : Below W.heap.size W W') : HoldR wb g1 g2 g3 o3 j x y c W' := by
  obtain ⟨b0, b1, b2, b3, h9⟩ := H
  have K : ∀ b i v, W.cell? ⟨b, i, none⟩ = some v → W'.cell? ⟨b, i, none⟩ = some v := fun b i v h => (hb.cell (p := ⟨b, i, none⟩) (World.block_lt_of_cell? W _ h)).trans h
  exact ⟨K _ _ _ b0, K _ _ _ b1, K _ _ _ b2, K _ _ _ b3, h9.trans (hb.mono h9.size)⟩
theorem HoldR.below {wb W : World} {g1 g2 g3 o3 j : Nat} {x y : Value} {c : Int} (H : HoldR wb g1 g2 g3 o3 j x y c W) : Below wb.heap.size wb W := H.2.2.2.2
set_option maxRecDepth 100000 in
set_option maxHeartbeats 4000000 in
theorem like5_yes (g b N c : Nat) (A As Ac : Option Addr) (cs cc P : Nat) (l : List Nat) (k o : Int) (z : Nat → Int) (f : List Nat → Int) (w : World) (H : TpAt w g b A c N l k o f) (hN : N ≤ 1000000) (h6 : l.length ≤ 6) (hcs : l.length ≤ cs) (hls : ∀ n ∈ l, 1 ≤ n ∧ n ≤ 32) (hP : prodL l = P) (hP4 : P ≤ 4096)
    (hI : Ints w As l) (hZ : Zs w Ac P z) (hz : ∀ i, i < P → z i = f (tupL l i)) (ho : InK o k) (hfk : ∀ t, InL l t → InK (f t) k) :
    Calls Tryz.prog 12 #[.pointer (some ⟨g, 0, none⟩), .agg #[.slice As l.length cs, .int .i64 k, .slice Ac P cc], .int .i64 o] w fun e w' => e = .returned (.bool true) ∧ Below w.heap.size w w' := by
  have n1 := new_val w (.cells #[.slice As l.length cs, .int .i64 k, .slice Ac P cc] 29)
  have hx := heap_alloc_new w (.cells #[.slice As l.length cs, .int .i64 k, .slice Ac P cc] 29)
  have HT := Lib.hid (H.below n1)
  have HI := Lib.hid (hI.below n1 (Nat.le_refl _))
  have HZ := Lib.hid (hZ.below n1 (Nat.le_refl _))
  have HP := Lib.hid hP
  have HLS := Lib.hid hls
  have HF := Lib.hid hz
  have HO := Lib.hid ho
  have HFK := Lib.hid hfk
  have N1 := Lib.hid n1
  have HH : Hid (HoldM (w.alloc (.cells #[.slice As l.length cs, .int .i64 k, .slice Ac P cc] 29)) w.heap.size l.length P cs cc As Ac k (w.alloc (.cells #[.slice As l.length cs, .int .i64 k, .slice Ac P cc] 29))) :=
    Lib.hid ⟨by rw [cell_of_row _ _ _ _ _ _ hx]; rfl, by rw [cell_of_row _ _ _ _ _ _ hx]; rfl, by rw [cell_of_row _ _ _ _ _ _ hx]; rfl, Below.refl _ _⟩
  clear H hI hZ hx hP n1 hls hz ho hfk
  have hl : (l.length : Int) ≤ 6 := by omega
  go_enter Tryz.func12, Tryz.ntmps12
  go_upto_region 1 with fail
  generalize w.alloc (.cells #[.slice As l.length cs, .int .i64 k, .slice Ac P cc] 29) = w1 at HT HI HZ HH N1 ⊢
  generalize w.heap.size = bt at HH ⊢
  go_region_held3 (fun W => HoldM w1 bt l.length P cs cc As Ac k W) (first | exact holdM HH.out ((Below.refl _ _).drew) | exact holdM (by assumption) (by assumption))
    ((first | (go_at_call 31; refine (tpk_ok g b N c A l k o f _ (HT.out.below (HoldM.below (by assumption)))).mono ?_; rintro e w' ⟨rfl, rfl⟩)
            | (go_at_call 32; refine (tpother_ok g b N c A l k o f _ (HT.out.below (HoldM.below (by assumption)))).mono ?_; rintro e w' ⟨rfl, rfl⟩)
            | (go_at_call 33; refine (tparity_ok g b N c A l k o f _ (HT.out.below (HoldM.below (by assumption)))).mono ?_; rintro e w' ⟨rfl, rfl⟩)
            | (go_at_call 34; refine (tpsizes_ok g b N c A l k o f _ (HT.out.below (HoldM.below (by assumption))) h6).mono ?_; rintro e w' ⟨⟨v9, rfl, hO9⟩, hb⟩; obtain ⟨A9, c9, rfl, hI9⟩ := hO9.form; have HI9 := Lib.hid hI9; clear hI9 hO9)
            | (go_at_call 18; refine (equal_yes _ _ _ _ _ l _ rfl (by omega) HI9.out (HI.out.below (HoldM.below (by assumption)) (Nat.le_refl _))).mono ?_; rintro e w' ⟨rfl, hb⟩)))
  have H2 : Hid (HoldM w1 bt l.length P cs cc As Ac k _) := Lib.hid (by assumption)
  have hS := H2.out
  obtain ⟨q0, q1, q2, b2⟩ := hS
  have RL := Lib.hid (rlines_any As Ac cs cc P l k o z f _ h6 hcs HLS.out HP.out hP4 (HI.out.below b2 (Nat.le_refl _)) (HZ.out.below b2 (Nat.le_refl _)) HF.out)
  have B2 := Lib.hid b2
  clear b2
  obtain ⟨n, hn⟩ : ∃ n, (linesT l o f).length = n := ⟨_, rfl⟩
  have HN := Lib.hid hn
  go_upto_region 4 with (go_at_call 35; refine RL.out.mono ?_; rintro e w3 ⟨⟨A1, c1, A2, c2, rfl, hR, hZ3⟩, b3⟩)
  have R3 := Lib.hid hR
  have Z3 := Lib.hid hZ3
  have B3 := Lib.hid (then_ B2.out b3)
  have H3 := Lib.hid (holdM H2.out b3)
  have T3 := Lib.hid (HT.out.below B3.out)
  clear hR hZ3 b3 q0 q1 q2 RL B2 H2
  rw [hn] at R3 Z3
  have TL := Lib.hid (tplines_any g b N c A l k o f w3 T3.out h6 HLS.out hN)
  clear hn
  have HMEM : Hid (∀ j, j < n → InL l (nthT (linesT l o f) j)) := Lib.hid fun j hj => ((linesT_mem (fun n hn => (HLS.out n hn).1) _).1 (by
    unfold nthT
    rw [List.getD_eq_getElem?_getD, List.getElem?_eq_getElem (by rw [HN.out]; exact hj)]
    exact List.getElem_mem _)).1
  go_upto_region 5 with (go_at_call 17; refine TL.out.mono ?_; rintro e w4 ⟨⟨v4, rfl, hL4⟩, b4⟩; obtain ⟨A4, c4, rfl, hc4⟩ := hL4.form)
  rw [HN.out]
  have B4 := Lib.hid (then_ B3.out b4)
  have H4 := Lib.hid (holdM H3.out b4)
  have T4 := Lib.hid (HT.out.below B4.out)
  have L4 : Hid (LinesAt w4 w3.heap.size (.slice A4 n c4) f (linesT l o f)) := Lib.hid (by rw [← HN.out]; exact hL4)
  have C4 := Lib.hid hc4
  have R4 := Lib.hid (R3.out.below b4 (Nat.le_refl _))
  have Z4 := Lib.hid (Z3.out.below b4 (Nat.le_refl _))
  have LEN := tplen_ok g b N c A l k o f w4 T4.out h6 HLS.out
  rw [HN.out] at LEN
  have TN := Lib.hid LEN
  have hn6 : n ≤ 4096 := by have := linesTo_len l o f (prodL l); rw [linesTo_all, HN.out, HP.out] at this; omega
  clear hL4 hc4 b4 LEN TL T3 H3 B3 R3 Z3
  go_upto_region 7 with (go_at_call 36; refine TN.out.mono ?_; rintro e w' ⟨rfl, rfl⟩)
  have S0 := Lib.hid (Below.refl w4.heap.size w4)
  go_wp2_with fail
  go_loopw [10, 70] (fun _ i wr => ∃ j : Nat, j ≤ n ∧ i = .int .i64 (j : Int) ∧ Below w4.heap.size w4 wr) (fun _ i _ => n - (intOf i).toNat)
  case atStart => exact ⟨0, Nat.zero_le _, rfl, S0.out⟩
  case round =>
    obtain ⟨j, hj, rfl, hb⟩ := hrel
    have HB := Lib.hid hb
    clear hb
    by_cases hlt : j < n
    · have i1 : (j : Int) < (n : Int) := by omega
      have i2 : (0 : Int) ≤ (j : Int) := by omega
      obtain ⟨g1, x1, hA4, hg1, hx0, hx1, ho1⟩ := C4.out j (by rw [HN.out]; exact hlt)
      subst hA4
      obtain ⟨A1', c1', e1, hrow⟩ := (R4.out.below HB.out (Nat.le_refl _)).form
      obtain ⟨g2, y2, hA1, hg2, hy0, ho2⟩ := hrow j (by rw [HN.out]; exact hlt)
      obtain rfl : A1 = A1' := by injection e1
      subst hA1
      obtain ⟨g3, o3, rfl, hz3⟩ := (Z4.out.below HB.out (Nat.le_refl _)).at_ hlt
      obtain ⟨t, ht⟩ : ∃ t, nthT (linesT l o f) j = t := ⟨_, rfl⟩
      have hin := HMEM.out j hlt
      have htl : t.length ≤ 6 := by rw [← ht, hin.length]; exact h6
      rw [ht] at hx1 ho1 ho2
      have hz3' : wr.cell? ⟨g3, o3 + j, none⟩ = some (.int .i64 (f t)) := by rw [← ht]; exact hz3
      have ho1' := ho1.below HB.out (Nat.le_refl _)
      obtain ⟨Ax, cx, rfl, hIx⟩ := ho1'.form
      obtain ⟨Ay, cy, rfl, hIy⟩ := ho2.form
      have IX := Lib.hid hIx
      have IY := Lib.hid hIy
      have HR : Hid (HoldR wr g1 g2 g3 o3 j (.slice Ax t.length cx) (.slice Ay t.length cy) (f t) wr) := Lib.hid ⟨by rw [Nat.mul_comm j 2]; exact (HB.out.cell (p := ⟨g1, 2 * j, none⟩) hg1).trans hx0, by rw [Nat.mul_comm j 2]; exact (HB.out.cell (p := ⟨g1, 2 * j + 1, none⟩) hg1).trans hx1, hy0, hz3', Below.refl _ _⟩
      clear hx0 hx1 ho1 ho1' hrow e1 hy0 ho2 hz3 hz3' hin ht hIx hIy
      generalize f t = y at HR
      go_upto_region 10 with fail
      go_region_held3 (fun W => HoldR wr g1 g2 g3 o3 j (.slice Ax t.length cx) (.slice Ay t.length cy) y W) (first | exact holdR HR.out ((Below.refl _ _).drew) | exact holdR (by assumption) (by assumption))
        ((go_at_call 18; refine (equal_yes _ _ _ _ _ t _ rfl (by omega) (IX.out.below (HoldR.below (by assumption)) (Nat.le_refl _)) (IY.out.below (HoldR.below (by assumption)) (Nat.le_refl _))).mono ?_; rintro e w' ⟨rfl, hb⟩))
      have FB : Hid (Below w4.heap.size w4 _) := Lib.hid (HB.out.trans ((HoldR.below (by assumption)).mono HB.out.size))
      go_wp2_with fail
      go_roundw
      case rel => exact ⟨j + 1, by omega, by go_num, FB.out⟩
      case measure => simp [intOf]; omega
    · obtain rfl : j = n := by omega
      have i1 : ¬ ((j : Int) < (j : Int)) := by omega
      have B5 := Lib.hid (B4.out.trans (HB.out.mono B4.out.size))
      have H5 := Lib.hid (holdM H4.out HB.out)
      have T5 := Lib.hid (HT.out.below B5.out)
      clear C4 R4 Z4 HMEM H4 T4 L4 B4 TN
      generalize j = n at *
      have hS := H5.out
      obtain ⟨q0, q1, q2, b5⟩ := hS
      clear b5
      have RA := Lib.hid (rall_any4 As l.length cs P l wr rfl h6 hcs HLS.out HP.out hP4 (HI.out.below B5.out (Nat.le_refl _)))
      go_wp2_with fail
      refine RA.out.mono ?_
      rintro e w6 ⟨⟨Ar, cr, rfl, hR⟩, b6⟩
      have R6 := Lib.hid hR
      have B6 := Lib.hid (then_ B5.out b6)
      have H6 := Lib.hid (holdM H5.out b6)
      have S6 := Lib.hid (Below.refl w6.heap.size w6)
      clear hR b6 RA q0 q1 q2 H5 T5 B5
      go_wp2_with fail
      go_loopw [101, 11, 12, 13, 14] (fun i _ _ _ _ wr => ∃ j : Nat, j ≤ P ∧ i = .int .i64 (j : Int) ∧ Below w6.heap.size w6 wr) (fun i _ _ _ _ _ => P - (intOf i).toNat)
      case atStart => exact ⟨0, Nat.zero_le _, rfl, S6.out⟩
      case round =>
        obtain ⟨j, hj, rfl, hb⟩ := hrel
        have BQ := Lib.hid hb
        have BT := Lib.hid (B6.out.trans (hb.mono B6.out.size))
        have HQ := Lib.hid (holdM H6.out hb)
        clear hb HB S6
        have TQ := Lib.hid (HT.out.below BT.out)
        by_cases hlt : j < P
        · have i1 : (j : Int) < (P : Int) := by omega
          have i2 : (0 : Int) ≤ (j : Int) := by omega
          obtain ⟨Ar', cr', e1, hrow⟩ := (R6.out.below BQ.out (Nat.le_refl _)).form
          obtain ⟨gr, x, hA, hgr, hc, hx⟩ := hrow j (by rw [allL_length, HP.out]; exact hlt)
          obtain rfl : Ar = Ar' := by injection e1
          subst hA
          have eq : nthT (allL l) j = tupL l j := allL_get l (by rw [HP.out]; exact hlt)
          rw [eq] at hx
          obtain ⟨Ax, cx, rfl, hIx⟩ := hx.form
          have hin : InL l (tupL l j) := tupL_in (fun n hn => (HLS.out n hn).1) j
          have GET := Lib.hid (tpget_ok g b N c (tupL l j).length cx A Ax l (tupL l j) k o f wr TQ.out rfl h6 (fun n hn => (HLS.out n hn).2) hIx hin)
          have hzc := (HZ.out.below BT.out (Nat.le_refl _))
          obtain ⟨gz, oz, rfl, hz3⟩ := hzc.at_ hlt
          have HZC := Lib.hid hz3
          have HZF := Lib.hid (HF.out j hlt)
          have hgz : gz < wr.heap.size := World.block_lt_of_cell? _ _ hz3
          clear hrow e1 eq hx hIx hin hzc hz3
          obtain ⟨y, hy⟩ : ∃ y, f (tupL l j) = y := ⟨_, rfl⟩
          rw [hy] at GET HZF
          rw [HZF.out] at HZC
          have HY := Lib.hid hy
          clear hy
          go_upto_region 17 with (go_at_call 37; refine GET.out.mono ?_; rintro e w7 ⟨rfl, b7⟩)
          have HQ7 := Lib.hid (holdM HQ.out b7)
          have FB := Lib.hid (then_ BQ.out b7)
          have z7 : w7.cell? ⟨gz, oz + j, none⟩ = some (.int .i64 y) := (b7.cell (p := ⟨gz, oz + j, none⟩) hgz).trans HZC.out
          have hS := HQ7.out
          obtain ⟨q0, q1, q2, b5⟩ := hS
          clear b5 b7 GET
          go_wp2_with fail
          go_roundw
          case rel => exact ⟨j + 1, by omega, by go_num, FB.out⟩
          case measure => simp [intOf]; omega
        · obtain rfl : j = P := by omega
          have i1 : ¬ ((j : Int) < (j : Int)) := by omega
          have TAB := Lib.hid (tptable_ok g b N c A l k o f wr TQ.out h6 HLS.out (by rw [HP.out]; exact hP4) HO.out HFK.out)
          clear R6
          go_upto_region 21 with (go_at_call 11; refine TAB.out.mono ?_; rintro e w7 ⟨⟨gt, ht, rfl, hTb⟩, b7⟩)
          have B7 := Lib.hid (then_ BT.out b7)
          have H7 := Lib.hid (holdM HQ.out b7)
          have T7 := Lib.hid hTb
          have Z7 := Lib.hid ((HZ.out.below B7.out (Nat.le_refl _)))
          have HH7 : Hid (HoldM w7 bt l.length j cs cc As Ac k w7) := Lib.hid (by obtain ⟨a0, a1, a2, _⟩ := H7.out; exact ⟨a0, a1, a2, Below.refl _ _⟩)
          have CG : Hid (∀ W, Zs W Ac j z → Zs W Ac j (fun i => f (tupL l i))) := Lib.hid fun W hW => by
            rcases hW with h | ⟨g, o, e, hlt, hc⟩
            · exact .inl h
            · exact .inr ⟨g, o, e, hlt, fun i hi => by rw [hc i hi, HF.out i hi]⟩
          clear hTb b7 TAB BQ HQ TQ
          go_region_held3 (fun W => HoldM w7 bt l.length j cs cc As Ac k W) (first | exact holdM HH7.out ((Below.refl _ _).drew) | exact holdM (by assumption) (by assumption))
            ((first
              | (go_at_call 25; refine (entries_zs gt ht j l k (fun i => f (tupL l i)) _ (T7.out.below (HoldM.below (by assumption))) HP.out hP4).mono ?_; rintro e w' ⟨⟨A8, c8, rfl, hZ8⟩, hb⟩; have HZ8 := Lib.hid hZ8; clear hZ8)
              | (go_at_call 38; refine (eq64_yes _ _ _ _ _ (fun i => f (tupL l i)) _ (by omega) HZ8.out (CG.out _ (Z7.out.below (HoldM.below (by assumption)) (Nat.le_refl _)))).mono ?_; rintro e w' ⟨rfl, hb⟩)))
          go_wp2_with fail
          go_ret
          exact ⟨rfl, then_ (then_ N1.out B7.out) (HoldM.below (by assumption))⟩
end Go.Proofs.YtdmldnlgamnkeaaGreat
