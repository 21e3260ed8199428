import Derived.Laws.BitsAllLaws
import Derived.Laws.BitsLemmas
import Derived.Laws.MathBits
import Derived.Deep.Strs
import Derived.Deep.DeepCutAuto
import Derived.ChangeKeysEq
import Derived.Test.YtmokogkndbinlaaGreatDoorZgay
set_option linter.all false
namespace Go.Proofs.YtmokogkndbinlaaGreatDoor
open Go.Lib (hid)
open Go.RowKit
abbrev HoldN (w : World) (b : Nat) (l : List Nat) (W : World) : Prop :=
 W.cell? ⟨b, 0, none⟩ = some (.int .i64 (l.length : Int)) ∧ W.cell? ⟨b, 1, none⟩ = some (szV l 0) ∧ W.cell? ⟨b, 2, none⟩ = some (szV l 1) ∧ W.cell? ⟨b, 3, none⟩ = some (szV l 2) ∧
 W.cell? ⟨b, 4, none⟩ = some (szV l 3) ∧ W.cell? ⟨b, 5, none⟩ = some (szV l 4) ∧ W.cell? ⟨b, 6, none⟩ = some (szV l 5) ∧ Below w.heap.size w W
theorem holdN {w W W' : World} {b : Nat} {l : List Nat} (h : HoldN w b l W) (hb : Below W.heap.size W W') : HoldN w b l W' := by
 obtain ⟨h0, h1, h2, h3, h4, h5, h6, h8⟩ := h
 have l0 : b < W.heap.size := World.block_lt_of_cell? W _ h0
 exact ⟨(hb.cell (p := ⟨_, 0, none⟩) l0).trans h0, (hb.cell (p := ⟨_, 1, none⟩) l0).trans h1, (hb.cell (p := ⟨_, 2, none⟩) l0).trans h2, (hb.cell (p := ⟨_, 3, none⟩) l0).trans h3, (hb.cell (p := ⟨_, 4, none⟩) l0).trans h4,
  (hb.cell (p := ⟨_, 5, none⟩) l0).trans h5, (hb.cell (p := ⟨_, 6, none⟩) l0).trans h6, h8.trans (hb.mono h8.size)⟩
theorem HoldN.of {w : World} {b : Nat} {l : List Nat} (H : ShAt w b l) : HoldN w b l w := ⟨H.c0, H.c1, H.c2, H.c3, H.c4, H.c5, H.c6, Below.refl _ _⟩
theorem holdN_below {w W : World} {b : Nat} {l : List Nat} (h : HoldN w b l W) : Below w.heap.size w W := h.2.2.2.2.2.2.2
theorem tab_new {w : World} {h P : Nat} {l : List Nat} {k x : Int} (H : RepAt w h x P P) (hP : prodL l = P) :
  TabAt (w.alloc (.cells #[.int .i64 (l.length : Int), szV l 0, szV l 1, szV l 2, szV l 3, szV l 4, szV l 5, .int .i64 k, .slice (some ⟨h, 0, none⟩) P P] 142)) w.heap.size h l k (fun _ => x) := by
 subst hP
 obtain ⟨cur, hc, h1, h2⟩ := H.costs
 exact ⟨heap_alloc_new w _, cur, ((new_val w _).block h (Array.getElem?_eq_some_iff.1 hc).1).trans hc, h1, h2⟩
set_option maxRecDepth 100000 in
set_option maxHeartbeats 4000000 in
theorem tnew_ok (A : Option Addr) (n c : Nat) (l : List Nat) (k x : Int) (w : World) (hn : n = l.length) (h6 : l.length ≤ 6) (hr : Ints w A l) (hl : ∀ n ∈ l, 1 ≤ n ∧ n ≤ 32) (hp : prodL l ≤ 4096)
  (hk1 : 1 ≤ k) (hk2 : k ≤ 2147483648) (hx0 : 0 ≤ x) (hx1 : x ≤ k) :
  Calls Tryz.prog 84 #[.slice A n c, .int .i64 k, .int .i64 x] w fun e w' => ∃ g h, e = .returned (.tuple #[.pointer (some ⟨g, 0, none⟩), .int .i64 0]) ∧ TabAt w' g h l k (fun _ => x) ∧ w.heap.size ≤ g ∧ w.heap.size ≤ h ∧ Below w.heap.size w w' := by
 have HC := hid (new_mid' A n c l w hn h6 hr hl hp)
 have H32 : Hid (∀ n ∈ l, n ≤ 32) := hid fun n hn => (hl n hn).2
 obtain ⟨P, hP⟩ : ∃ P, prodL l = P := ⟨_, rfl⟩
 have hP4 : P ≤ 4096 := by omega
 have hP1 : 1 ≤ P := by rw [← hP]; exact prodL_pos fun n hn => (hl n hn).1
 have HP := hid hP
 clear hn hr hl hp hP
 go_enter Tryz.func84, Tryz.ntmps84
 go_wp2_with fail
 refine HC.out.mono ?_
 rintro e w1 ⟨rfl, b1⟩
 have B1 := hid b1
 clear b1
 go_upto_region 4 with ((with_reducible show wpList _ _ _ (Oper.mk none (.store 90 _ _) _ _ _ _ :: _) _ _); refine wpList_store_row rfl 90 (.tmp 8) (.tmp 13) rfl w1.heap.size (shC l) rfl rfl 90 (shC0 0) (heap_alloc_new _ _) (by kernel_rfl) rfl (sh_one l) ?_; rw [World.setRow_alloc_new])
 have n2 := new_val w1 (shO l)
 have H2 := hid (ShAt.new w1 l)
 have B2 := hid (then_ B1.out n2)
 have hz2 : w1.heap.size < (w1.alloc (shO l)).heap.size := by simp
 clear n2
 generalize w1.alloc (.cells (shC l) 90) = w2 at H2 B2 hz2 ⊢
 go_upto_region 6 with (go_at_call 108; refine (in_yes _ _ _ hk1 hk2 hx0 hx1).mono ?_; rintro e w' ⟨rfl, rfl⟩)
 have HN := hid (HoldN.of H2.out)
 go_region_held3 (fun W => HoldN w2 w1.heap.size l W) (first | exact holdN HN.out ((Below.refl _ _).drew) | exact holdN (by assumption) (new_val _ _) | exact holdN (by assumption) (by assumption))
  ((first | (go_at_call 147; refine (count_exact l _ P h6 H32.out HP.out).mono ?_; rintro e w' ⟨rfl, rfl⟩) | (go_at_call 146; refine (repeat_one _ _ _ x _ (by first | exact lit_newD _ _ _ _ (by simp) | exact lit_oldD _ _ _ _ _ (by simp)) (by simp <;> omega) hP1 hP4 (mul_one' P hP4)).mono ?_; rintro e w' ⟨rfl, hr, hb⟩; have HR := hid hr; have HB := hid hb)))
 all_goals
  go_wp2_with fail
  go_ret2
  have hfin := holdN_below (by assumption)
  refine ⟨w'.heap.size, w2.heap.size + 1 + 1, rfl, ?_, ?_, ?_, then_ B2.out hfin⟩
  ·exact tab_new (by have h := HR.out; simpa using h) HP.out
  ·have h1 := B2.out.size
   have h2 := HB.out.size
   simp at h2
   omega
  have h1 := B2.out.size
  omega
end Go.Proofs.YtmokogkndbinlaaGreatDoor
namespace Go.Proofs.YtmokogkndbinlaaGreatDoor
open Go.Lib (hid)
attribute [local go_sem] Oper.semAt_some
open Go.RowKit Go.Shelf
set_option maxRecDepth 100000 in
set_option maxHeartbeats 4000000 in
theorem tget_ok (g h : Nat) (A : Option Addr) (n c N : Nat) (l t : List Nat) (k : Int) (z : Nat → Int) (w : World) (H : TabAt w g h l k z) (hn : n = t.length) (h6 : l.length ≤ 6) (h32 : ∀ n ∈ l, n ≤ 32) (hr : Ints w A t) (hin : InL l t) (hN : numL l t = N) (hNP : N < prodL l) :
  Calls Tryz.prog 103 #[.pointer (some ⟨g, 0, none⟩), .slice A n c] w fun e w' => e = .returned (.tuple #[.int .i64 (z N), .int .i64 0]) ∧ Below w.heap.size w w' := by
 have HX := hid (index_ok' A n c N l t w hn h6 h32 hr hin hN)
 have HT := hid H
 obtain ⟨c0, c1, c2, c3, c4, c5, c6, c7, c8⟩ := H.cells
 have i0 : (0 : Int) ≤ (N : Int) := by omega
 have i1 : (N : Int) < (prodL l : Int) := by omega
 clear H hr hin hN h32 hn
 go_enter Tryz.func103, Tryz.ntmps103
 go_wp2_with fail
 refine HX.out.mono ?_
 rintro e w1 ⟨rfl, b1⟩
 have T1 := hid (HT.out.below b1)
 have B1 := hid b1
 obtain ⟨d0, d1, d2, d3, d4, d5, d6, d7, d8⟩ := T1.out.cells
 obtain ⟨cur, hc, hcs, hcz⟩ := T1.out.costs
 have hst : w1.cell? ⟨h, N, none⟩ = some (.int .i64 (z N)) := by rw [cell_of_row _ _ _ _ _ _ hc]; exact hcz N hNP
 clear b1 c0 c1 c2 c3 c4 c5 c6 c7 c8 hc hcs hcz
 go_wp2_with fail
 go_ret2
 exact ⟨rfl, B1.out⟩
set_option maxRecDepth 100000 in
set_option maxHeartbeats 4000000 in
theorem tshape_any (g h : Nat) (l : List Nat) (k : Int) (z : Nat → Int) (w : World) (H : TabAt w g h l k z) : Calls Tryz.prog 47 #[.pointer (some ⟨g, 0, none⟩)] w fun e w' => e = .returned (shV l) ∧ Below w.heap.size w w' := by
 obtain ⟨c0, c1, c2, c3, c4, c5, c6, c7, c8⟩ := (H.below (new_val w (.cells (shC0 0) 90))).cells
 clear H c7 c8
 go_enter Tryz.func47, Tryz.ntmps47
 go_wp2_with ((with_reducible show wpList _ _ _ (Oper.mk none (.store 90 _ _) _ _ _ _ :: _) _ _); refine wpList_store_row rfl 90 (.tmp 2) (.tmp 9) rfl w.heap.size (shC l) rfl rfl 90 (shC0 0) (heap_alloc_new _ _) (by kernel_rfl) rfl (sh_one l) ?_; rw [World.setRow_alloc_new])
 exact bodyPost_ret (v := shV l) (by simp [results, Tryz.results47, go_sem, (ShAt.new w l).c0, (ShAt.new w l).c1, (ShAt.new w l).c2, (ShAt.new w l).c3, (ShAt.new w l).c4, (ShAt.new w l).c5, (ShAt.new w l).c6]) rfl ⟨rfl, new_val _ _⟩
end Go.Proofs.YtmokogkndbinlaaGreatDoor
namespace Go.Proofs.YtmokogkndbinlaaGreatDoor
open Go.Lib (hid)
open Go.RowKit
theorem rows_wide {n : Nat} {P : Program} {row : String} {args : Array Value} {w : World} {R : Value → World → Prop} (h : Rows P row args w R) : RowsIn Fence.wide n P row args w R :=
 fun c cs _ => let ⟨v, w', r, s⟩ := h c cs; ⟨v, w', r, stepsIn_wide.2 s⟩
theorem oper_wide {n : Nat} {P : Program} {o : Oper} {a : Act} {w : World} {K : Act → World → Prop} {Q : Exit → Act → World → Prop} (h : o.wp P a w K Q) : o.wpIn Fence.wide n P a w K Q := by
 refine ⟨fun _ _ => trivial, ?_⟩
 unfold Oper.wp at h
 show o.uponIn Fence.wide n P a K Q ((execOp a.eval o).run P w)
 cases hr : (execOp a.eval o).run P w with
 | ok x w' =>
  rw [hr] at h
  cases x <;> first | exact h | exact ⟨(fun e => by cases e), callsIn_wide.2 h⟩ | exact ⟨(fun e => by cases e), rows_wide h⟩ | exact False.elim h
 | halt x w' =>
  rw [hr] at h
  cases x <;> exact h
theorem any_wide {n : Nat} {P : Program} {md : Region.Mode} {ops : Array Oper} {Q : Exit → Act → World → Prop} (hQ : ¬ LetsOut Q) :
  ∀ (fuel : Nat) (listed : Array Bool) (a : Act) (w : World), wpAny P md ops Q fuel listed a w → wpAnyIn Fence.wide n P md ops Q fuel listed a w := by
 intro fuel
 induction fuel with
 | zero => intro listed a w h; exact h
 | succ fuel ih =>
  intro listed a w h
  refine ⟨h.1, fun i hi => ?_⟩
  have h2 := wpOp_mono (fun a' w' => ih (listed.setIfInBounds i true) a' w') (h.2 i hi)
  unfold wpOp at h2
  unfold wpOpIn
  split
  ·rename_i ho
   simpa only [ho] using h2
  rename_i o ho
  simp only [ho] at h2
  split
  ·rename_i hw
   simp only [hw, if_true] at h2
   rcases h2 with h2 | ⟨_, h2⟩
   ·exact oper_wide h2
   exact absurd h2 hQ
  rename_i hw
  simp only [hw] at h2
  exact ⟨fun _ _ => trivial, h2⟩
theorem region_round_held {n : Nat} {P : Program} {id : Nat} {ops : Array Oper} {Q : Exit → Act → World → Prop} {S : World → Prop} {a : Act} {w : World} (l : Nat) (hm : P.follows .mixedOrders = true)
  (hnd : ops.all (fun o => match o.op with | .defer _ => false | _ => true) = true) (hQ : ¬ LetsOut Q) (hS : S w.drew)
  (h : S w.drew → wpAnyH P .any ops Q S ops.size (Array.replicate ops.size false) a w.drew) : (Code.region id ops true).wpIn (Fence.wide.inRound l) n P Q a w :=
 region_round l hm hnd (any_wide hQ _ _ _ _ (wpAny_of_held _ _ _ _ (h hS)))
end Go.Proofs.YtmokogkndbinlaaGreatDoor
namespace Go.Proofs.YtmokogkndbinlaaGreatDoor
open Go.Lib (hid)
attribute [local go_sem] Oper.semAt_some
open Go.RowKit Go.Shelf
theorem tab_other {w : World} {g h b : Nat} {l : List Nat} {k : Int} {z : Nat → Int} {v : Value} (T : TabAt w g h l k z) (hb : Boxed w b 58 v) (u : Value) : TabAt (w.setCell ⟨b, 0, none⟩ u) g h l k z := by
 obtain ⟨cur, hc, h1, h2⟩ := T.costs
 refine ⟨(Below.heap_setCell _ _ _ _ (fun e => ?_)).trans T.row, cur, (Below.heap_setCell _ _ _ _ (fun e => ?_)).trans hc, h1, h2⟩
 ·have e' : g = b := e
  subst e'
  have := T.row.symm.trans hb
  simp at this
 have e' : h = b := e
 subst e'
 have := hc.symm.trans hb
 simp at this
structure Kept2 (W0 : World) (p q : Nat) (W : World) : Prop where
 os : W.os = W0.os
 tape : W.tape = W0.tape
 output : W.output = W0.output
 size : W0.heap.size ≤ W.heap.size
 block : ∀ b, b < W0.heap.size → b ≠ p → b ≠ q → W.heap[b]? = W0.heap[b]?
theorem Kept2.refl (W0 : World) (p q : Nat) : Kept2 W0 p q W0 := ⟨rfl, rfl, rfl, Nat.le_refl _, fun _ _ _ _ => rfl⟩
theorem Kept2.next {W0 W W' : World} {p q : Nat} (h : Kept2 W0 p q W) (hb : Below W.heap.size W W') : Kept2 W0 p q W' :=
 ⟨hb.os.trans h.os, hb.tape.trans h.tape, hb.output.trans h.output, Nat.le_trans h.size hb.size, fun b h1 h2 h3 => (hb.block b (Nat.lt_of_lt_of_le h1 h.size)).trans (h.block b h1 h2 h3)⟩
theorem Kept2.set {W0 W : World} {p q b : Nat} (h : Kept2 W0 p q W) (hb : b = p ∨ b = q) (i : Nat) (u : Value) : Kept2 W0 p q (W.setCell ⟨b, i, none⟩ u) :=
 ⟨h.os, h.tape, h.output, by simpa [World.setCell] using h.size, fun c h1 h2 h3 => (Below.heap_setCell W ⟨b, i, none⟩ u c (fun e => by have e' : c = b := e; omega)).trans (h.block c h1 h2 h3)⟩
theorem Kept2.below {W0 W w : World} {p q B : Nat} (h : Kept2 W0 p q W) (hB : Below B w W0) (hle : B ≤ w.heap.size) (hp : B ≤ p) (hq : B ≤ q) : Below B w W :=
 ⟨h.os.trans hB.os, h.tape.trans hB.tape, h.output.trans hB.output, Nat.le_trans hB.size h.size, fun k hk => (h.block k (by have := hB.size; omega) (by omega) (by omega)).trans (hB.block k hk)⟩
theorem kept2_own {β : Type} {W0 : World} {p q B : Nat} (hB : W0.heap.size ≤ B) : OwnFrom B (fun (_ : β) W => Kept2 W0 p q W) := by
 intro s X Y row hs hg hr
 refine ⟨hg.os.trans hs.os, hg.tape.trans hs.tape, hg.output.trans hs.output, Nat.le_trans hs.size hg.size, fun b h1 h2 h3 => (hg.block b (Nat.lt_of_lt_of_le h1 hs.size) (fun e => ?_)).trans (hs.block b h1 h2 h3)⟩
 have := (hr b e.symm).1
 omega
structure OutI (W0 : World) (h gb P : Nat) (f1 f2 : Nat → Int) (k : Int) (n : Nat) (W : World) : Prop where
 kept : Kept2 W0 h gb W
 costs : W.rowIs h 2 P (fun i => .int .i64 (if i < n then f1 i else k))
 best : W.rowIs gb 3 P (fun i => .int .i64 (if i < n then f2 i else 0))
theorem rowIs_next {W W' : World} {b : Nat} {t : TypeId} {n : Nat} {f : Nat → Value} (h : W.rowIs b t n f) (hb : Below W.heap.size W W') : W'.rowIs b t n f := by
 obtain ⟨c, hc, h1, h2⟩ := h
 exact ⟨c, (hb.block b (Array.getElem?_eq_some_iff.1 hc).1).trans hc, h1, h2⟩
structure OutR (W0 : World) (h gb P : Nat) (f1 f2 : Nat → Int) (k : Int) (n : Nat) (Bs : Nat) (W W' : World) : Prop where
 inv : OutI W0 h gb P f1 f2 k n W'
 kf : KeepsFrom W0.heap.size W W'
 k1 : Keep1 Bs W W'
end Go.Proofs.YtmokogkndbinlaaGreatDoor
namespace Go.Proofs.YtmokogkndbinlaaGreatDoor
open Go.Lib (hid)
open Go.RowKit
def Cel (w : World) (A : Option Addr) (s : ByteArray) : Prop := (A = none → s.size = 0) ∧ ∀ p : Addr, A = some p → ∀ j u, (byC s)[j]? = some u → p.block < w.heap.size ∧ w.cell? (p.add j) = some u
theorem Cel.below {w w' : World} {A : Option Addr} {s : ByteArray} (h : Cel w A s) (hb : Below w.heap.size w w') : Cel w' A s := by
 refine ⟨h.1, fun p e j u hj => ?_⟩
 obtain ⟨h1, h2⟩ := h.2 p e j u hj
 exact ⟨Nat.lt_of_lt_of_le h1 hb.size, (hb.cell (p := p.add j) (by rw [block_add]; exact h1)).trans h2⟩
theorem Bytes.cel {w : World} {A : Option Addr} {n m : Nat} {z : Nat → Int} (h : Bytes w A n z) (hm : m ≤ n) (hA : A = none → m = 0) : Cel w A (strZ z m) := by
 refine ⟨fun e => by rw [strZ_size]; exact hA e, fun p e j u hj => ?_⟩
 subst e
 refine ⟨?_, strZ_cells h hm j u hj⟩
 have hj' : j < m := by
  have := (List.getElem?_eq_some_iff.1 hj).1
  rwa [byC_len, strZ_size] at this
 obtain ⟨p', e, hp, _⟩ := h j (by omega)
 injection e with e
 subst e
 exact hp
set_option maxRecDepth 100000 in
theorem bclone_any (A : Option Addr) (n c : Nat) (s : ByteArray) (w : World) (hn : s.size = n) (hs : n ≤ 1000000) (hA : Cel w A s) :
  Calls Tryz.prog 61 #[.slice A n c] w fun e w' => (∃ v, e = .returned v ∧ OwnB w' w.heap.size v s) ∧ Below w.heap.size w w' := by
 cases A with
 | none =>
  have h0 := hA.1 rfl
  have e := empty_of h0
  subst e
  obtain rfl : n = 0 := by rw [← hn]; rfl
  have hq : ∀ W, (binOp .eql 22 (.slice none 0 c) (.slice none 0 0)).run Tryz.prog W = .ok (.bool true) W := fun W => Lib.run_eql_slice_nil W 22 5 none 0 c 0 0 Tryz.underlying22
  clear hA hn hs h0
  go_enter Tryz.func61, Tryz.ntmps61
  go_wp2
  go_ret
  exact ⟨⟨_, rfl, World.ownsRow_nil _ _ _ _⟩, Below.refl _ _⟩
 | some ad =>
  subst hn
  have hq : ∀ W, (binOp .eql 22 (.slice (some ad) s.size c) (.slice none 0 0)).run Tryz.prog W = .ok (.bool false) W := fun W => Lib.run_eql_slice_nil W 22 5 (some ad) s.size c 0 0 Tryz.underlying22
  obtain ⟨i0, hi, hz0, hz1, hz2⟩ := info_parts info_u8
  have HI := hid hi
  have HZ0 := hid hz0
  have HZ1 := hid hz1
  have HZ2 := hid hz2
  have n0 : Below w.heap.size w (w.alloc (.cells #[] 5)) := (Below.refl _ _).alloc (Nat.le_refl _) _
  have N0 := hid n0
  have HC := hid (fun j u hj => ((hA.below n0).2 ad rfl j u hj).2)
  clear hi hz0 hz1 hz2 n0 hA
  go_enter Tryz.func61, Tryz.ntmps61
  go_wp2_with (at_builtin; refine wpList_append_own _ rfl (.tmp 5) (.tmp 6) 22 rfl w.heap.size 5 i0 (.int .u8 0) 1 1 Tryz.underlying22 HI.out HZ0.out HZ1.out HZ2.out rfl (by decide) (.slice (some ⟨w.heap.size, 0, none⟩) 0 0) 0 [] rfl (World.ownsRow_made w #[] 0 (Nat.le_refl _) (by simp [maxLen]) rfl) ad s.size c (byC s) rfl (by rw [byC_len, Nat.mul_one]) HC.out (byC_one _) (by unfold maxLen; omega) (by omega) (by simp) ?_; intro v' w1 h1 h2 _; have H1 := hid h1; have H2 := hid h2; clear h1 h2)
  go_ret
  refine ⟨⟨_, rfl, ?_⟩, N0.out.grown H2.out (by simp) (fun k hk => by simp [Value.ownBlock] at hk; omega)⟩
  have h := H1.out
  rw [Nat.zero_add, List.nil_append] at h
  exact h
end Go.Proofs.YtmokogkndbinlaaGreatDoor
namespace Go.Proofs.YtmokogkndbinlaaGreatDoor
open Go.RowKit
set_option maxRecDepth 100000 in
theorem slice_head (A : Option Addr) (n m c : Nat) (hm : m ≤ c) (W : World) : (Instr.slice 22 (.slice A n c) none (some (.int .i64 (m : Int))) none).run Tryz.prog W = .ok (.slice A m c) W := by
 rw [run_slice_h (P := Tryz.prog) (w := W) 22 A n c Tryz.underlying22 .i64 (m : Int) (by omega) (by omega)]
 have hs : (sizeOf (Tryz.prog.elem 22)).run Tryz.prog W = .ok 1 W := size_u8 W
 rw [hs]
 show Result.ok (sliced A 0 (m : Int).toNat c 1) W = _
 have e : A.map (fun a : Addr => a.add (0 * 1)) = A := by
  cases A with
  | none => rfl
  | some a => simp [Addr.add]
 unfold sliced
 simp [Addr.add]
end Go.Proofs.YtmokogkndbinlaaGreatDoor
namespace Go.Proofs.YtmokogkndbinlaaGreatDoor
open Go.RowKit
end Go.Proofs.YtmokogkndbinlaaGreatDoor
namespace Go.Proofs.YtmokogkndbinlaaGreatDoor
open Go.RowKit
theorem wf_u8 {a : Int} (h : (Lit.int .u8 a).wf = true) : 0 ≤ a ∧ a ≤ 255 := by
 have h1 : (decide (IntKind.u8.min ≤ a) && decide (a ≤ IntKind.u8.max)) = true := h
 have e1 : IntKind.u8.min = 0 := by decide
 have e2 : IntKind.u8.max = 255 := by decide
 rw [e1, e2] at h1
 simpa using h1
theorem wf_i64 {a : Int} (h : (Lit.int .i64 a).wf = true) : -9223372036854775808 ≤ a ∧ a ≤ 9223372036854775807 := by
 have h1 : (decide (IntKind.i64.min ≤ a) && decide (a ≤ IntKind.i64.max)) = true := h
 have e1 : IntKind.i64.min = -9223372036854775808 := by decide
 have e2 : IntKind.i64.max = 9223372036854775807 := by decide
 rw [e1, e2] at h1
 simpa using h1
theorem bytes_came {w : World} {a : Option Addr} {len cap : Nat} {zs : List Int}
  (h : (a = none ∧ len = 0 ∧ cap = 0 ∧ zs = []) ∨ ∃ x, a = some x ∧ len ≤ cap ∧ cap ≤ maxLen ∧ zs.length = cap ∧ (∀ i, i < zs.length → w.cell? (x.add i) = some (.int .u8 (zs.getD i 0))) ∧ ∀ n ∈ zs, (Lit.int .u8 n).wf = true) :
  Bytes w a len (fun i => zs.getD i 0) ∧ (len : Int) ≤ 9223372036854775807 := by
 rcases h with ⟨_, rfl, _, _⟩ | ⟨x, rfl, h1, h2, h3, h4, h5⟩
 ·exact ⟨fun j hj => absurd hj (Nat.not_lt_zero _), by omega⟩
 refine ⟨fun j hj => ?_, by unfold maxLen at h2; omega⟩
 have hj' : j < zs.length := by omega
 have hc := h4 j hj'
 have hb := World.block_lt_of_cell? w _ hc
 rw [block_add] at hb
 have hw := wf_u8 (h5 (zs.getD j 0) (by rw [List.getD_eq_getElem?_getD, List.getElem?_eq_getElem hj']; exact List.getElem_mem hj'))
 exact ⟨x, rfl, hb, hc, hw.1, hw.2⟩
def Ext (w : World) (A : Option Addr) (n : Nat) (z : Nat → Int) : Prop := (A = none ∧ n = 0) ∨ ∃ x : Addr, A = some x ∧ ∀ j, j < n → x.block < w.heap.size ∧ w.cell? (x.add j) = some (.int .i64 (z j))
theorem eq64_yes (A A2 : Option Addr) (n c c2 : Nat) (z : Nat → Int) (w : World) (hl : n ≤ 1000000) (hw : Zs w A n z) (hw2 : Zs w A2 n z) :
  Calls Tryz.prog 27 #[.slice A n c, .slice A2 n c2] w fun e w' => e = .returned (.bool true) ∧ Below w.heap.size w w' := by
 have HW := hid hw
 have HW2 := hid hw2
 clear hw hw2
 go_enter Tryz.func27, Tryz.ntmps27
 go_wp2_with fail
 go_loopw [5, 13] (fun _ i wr => ∃ j : Nat, j ≤ n ∧ i = .int .i64 j ∧ Below w.heap.size w wr) (fun _ i _ => n - (intOf i).toNat)
 case atStart => exact ⟨0, Nat.zero_le _, rfl, Below.refl _ _⟩
 case round =>
  obtain ⟨j, hj, rfl, hb⟩ := hrel
  have HB := hid hb
  clear hb
  by_cases hlt : j < n
  rotate_left
  ·go_wp2
   go_ret
   exact ⟨rfl, HB.out⟩
  obtain ⟨g, o, rfl, hcell⟩ := (HW.out.below HB.out (Nat.le_refl _)).at_ hlt
  obtain ⟨g2, o2, rfl, hcell2⟩ := (HW2.out.below HB.out (Nat.le_refl _)).at_ hlt
  generalize z j = y at hcell hcell2
  have i1 : (j : Int) < (n : Int) := by omega
  have i2 : (0 : Int) ≤ (j : Int) := by omega
  go_wp2_with fail
  go_quiet (fail)
  go_wp2
  go_roundw
  case rel => exact ⟨j + 1, by omega, by go_num, next_drewN HB.out _⟩
  case measure => simp [intOf]; omega
theorem eqz_yes (A A2 : Option Addr) (n c c2 : Nat) (z : Nat → Int) (w : World) (hl : n ≤ 1000000) (hw : Zs w A n z) (hw2 : Zs w A2 n z) :
  Calls Tryz.prog 25 #[.slice A n c, .slice A2 n c2] w fun e w' => e = .returned (.bool true) ∧ Below w.heap.size w w' := by
 have HW := hid hw
 have HW2 := hid hw2
 clear hw hw2
 go_enter Tryz.func25, Tryz.ntmps25
 go_wp2_with fail
 go_loopw [5, 13] (fun _ i wr => ∃ j : Nat, j ≤ n ∧ i = .int .i64 j ∧ Below w.heap.size w wr) (fun _ i _ => n - (intOf i).toNat)
 case atStart => exact ⟨0, Nat.zero_le _, rfl, Below.refl _ _⟩
 case round =>
  obtain ⟨j, hj, rfl, hb⟩ := hrel
  have HB := hid hb
  clear hb
  by_cases hlt : j < n
  rotate_left
  ·go_wp2
   go_ret
   exact ⟨rfl, HB.out⟩
  obtain ⟨g, o, rfl, hcell⟩ := (HW.out.below HB.out (Nat.le_refl _)).at_ hlt
  obtain ⟨g2, o2, rfl, hcell2⟩ := (HW2.out.below HB.out (Nat.le_refl _)).at_ hlt
  generalize z j = y at hcell hcell2
  have i1 : (j : Int) < (n : Int) := by omega
  have i2 : (0 : Int) ≤ (j : Int) := by omega
  go_wp2_with fail
  go_quiet (fail)
  go_wp2
  go_roundw
  case rel => exact ⟨j + 1, by omega, by go_num, next_drewN HB.out _⟩
  case measure => simp [intOf]; omega
attribute [local go_sem ↓] run_mn2
def nthT (ts : List (List Nat)) (j : Nat) : List Nat := ts.getD j []
theorem Own.kind {w : World} {base : Nat} {v : Value} {l : List Nat} (h : Own w base v l) : ∀ g, v.ownBlock = some g → ∃ c fz, w.heap[g]? = some (.cells c 3 fz) := Lib.ownsRow_kind h
def Words (w : World) (A : Option Addr) (n : Nat) (z : Nat → Int) : Prop := ∀ j, j < n → ∃ p : Addr, A = some p ∧ p.block < w.heap.size ∧ w.cell? (p.add j) = some (.int .u16 (z j)) ∧ 0 ≤ z j ∧ z j ≤ 65535
theorem grown_set (W : World) (b i : Nat) (u : Value) : W.grownBy (W.setCell ⟨b, i, none⟩ u) (some b) := ⟨rfl, rfl, rfl, by simp [World.setCell], fun k _ hk => Below.heap_setCell W ⟨b, i, none⟩ u k (fun e => hk (by rw [show k = b from e]))⟩
structure MkAt (w : World) (b base n : Nat) (sv : Value) (k : Int) (z : Nat → Int) (v : Value) (W : World) : Prop where
 row : W.heap[b]? = some (.cells #[sv, .int .i64 k, v] 69 (0, 0))
 own : W.ownsRow base 2 1 v n (costL_Tb3 z n)
 bel : Below w.heap.size w W
 res : W.heap[w.heap.size]? = some (.cells #[.slice none 0 0, .int .i64 0, .slice none 0 0] 69 (0, 0))
end Go.Proofs.YtmokogkndbinlaaGreatDoor
namespace Go.Proofs.YtmokogkndbinlaaGreatDoor
open Go.Lib (hid)
attribute [local go_sem] Oper.semAt_some
open Go.RowKit Go.Shelf
theorem info_i64z : (Tryz.prog.info? 2).map (fun i => (i.zero, i.size, i.bytes)) = some (some (.int .i64 0), 1, 8) := by kernel_rfl
def zL (z : Nat → Int) (m : Nat) : List Int := (List.range m).map z
theorem zL_len (z : Nat → Int) (m : Nat) : (zL z m).length = m := by simp [zL]
theorem zL_take (z : Nat → Int) {m j : Nat} (h : j < m) : (zL z m).take (j + 1) = (zL z m).take j ++ [z j] := by
 rw [List.take_add_one, List.getElem?_eq_getElem (by rw [zL_len]; exact h)]
 simp [zL]
theorem zL_costs (z : Nat → Int) (m : Nat) : (zL z m).map (Value.int .i64) = costL_Tb3 z m := by simp [zL, costL_Tb3]
theorem row_zL {W : World} {B m : Nat} {v : Value} {z : Nat → Int} (h : W.ownsRow B 2 1 v (zL z m).length ((zL z m).map fun y : Int => Value.int .i64 y)) : W.ownsRow B 2 1 v m (costL_Tb3 z m) := by
 rw [zL_len] at h
 rw [← zL_costs]
 exact h
def Vals64Post (l : List Int) (J Jx : List Int → World → Prop) (e : Ending) (W' : World) : Prop := (∃ v, e = .returned v) ∧ ((∃ ys, ys = l ∧ J ys W') ∨ (∃ pre, pre <+: l ∧ Jx pre W'))
set_option maxRecDepth 100000 in
set_option maxHeartbeats 1000000 in
theorem vals64_in (n : Nat) (hn : 1 ≤ n) (y Bn n₀ m c : Nat) (A : Option Addr) (z : Nat → Int) (J Jx : List Int → World → Prop) (W : World) (hm4 : m ≤ 100000)
  (hJ : AbidesFrom W.heap.size J)
  (hY : ∀ pre x W1, J pre W1 → pre.length < (zL z m).length → YieldAt Fence.wide (n - 1) Tryz.prog y #[.int .i64 x] W1 fun e W' =>
   (e = .returned (.bool true) ∧ J (pre ++ [x]) W' ∧ Below n₀ W1 W') ∨ (e = .returned (.bool false) ∧ Jx (pre ++ [x]) W'))
  (hBn : Bn < n₀) (hn₀ : n₀ ≤ W.heap.size) (hc0 : W.cell? ⟨Bn, 0, none⟩ = some (.slice A m c)) (hA : ∀ W', Below n₀ W W' → Zs W' A m z) (h0 : J [] W) :
  CallsIn Fence.wide n Tryz.prog 233 #[.func (.yield y) #[] #[], .pointer (some ⟨Bn, 0, none⟩)] W (Vals64Post (zL z m) J Jx) := by
 have HM := hid (zL_len z m)
 obtain ⟨l, hl⟩ : ∃ l, zL z m = l := ⟨_, rfl⟩
 have HL := hid hl
 rw [hl] at HM hY ⊢
 clear hl
 have HA := hid hA
 have HY := hid hY
 have HJ := hid hJ
 have HJ0 := hid h0
 clear hA hY hJ h0
 refine callsIn_of_wp Tryz.func233 rfl trivial ?_ rfl
 simp only [Tryz.ntmps233, List.size_toArray, List.length_cons, List.length_nil, Nat.reduceAdd, Nat.reduceSub, Array.replicate_succ, Array.replicate_zero, List.push_toArray, List.append_toArray, List.nil_append, List.cons_append]
 gi_wp2_with fail
 gi_loopw [7] (fun i wr => ∃ j : Nat, j ≤ m ∧ i = .int .i64 (j : Int) ∧ J (l.take j) wr ∧ Below n₀ W wr) (fun i _ => m - (intOf i).toNat)
 case atStart => exact ⟨0, Nat.zero_le _, rfl, HJ0.out, Below.refl _ _⟩
 case round =>
  obtain ⟨j, hj, rfl, hJs, hBs⟩ := hrel
  have HJs := hid hJs
  have HBs := hid hBs
  clear hJs hBs
  by_cases hlt : j < m
  rotate_left
  ·have i1 : ¬ ((j : Int) < (m : Int)) := by omega
   have ht : l.take j = l := List.take_of_length_le (by rw [HM.out]; omega)
   have hJ := HJs.out
   rw [ht] at hJ
   gi_wp2
   go_end0
   exact (show Vals64Post l J Jx _ _ from ⟨⟨_, rfl⟩, .inl ⟨l, rfl, hJ⟩⟩)
  obtain ⟨g, o, rfl, hcell⟩ := (HA.out _ HBs.out).at_ hlt
  have ht : l.take (j + 1) = l.take j ++ [z j] := by
   rw [← HL.out]
   exact zL_take z hlt
  obtain ⟨x, hx⟩ : ∃ x, z j = x := ⟨_, rfl⟩
  rw [hx] at hcell ht
  clear hx
  obtain ⟨fn, tmps, assign, body, hy, hR⟩ := HY.out (l.take j) x wr HJs.out (by rw [List.length_take, HM.out]; omega)
  have i1 : (j : Int) < (m : Int) := by omega
  have i2 : (0 : Int) ≤ (j : Int) := by omega
  have HTT := hid ht
  clear ht
  gi_wp2
  refine hR.mono ?_
  rintro e W3 (⟨rfl, hJ3, hk3⟩ | ⟨rfl, hJx3⟩)
  ·rw [← HTT.out] at hJ3
   have HJ3 := hid hJ3
   have HB3 := hid (HBs.out.trans hk3)
   clear hJ3 hk3 hy hR hcell
   gi_wp2
   go_roundw
   case rel => exact ⟨j + 1, by omega, by go_num, HJ3.out, HB3.out⟩
   case measure => simp [intOf]; omega
  rw [← HTT.out] at hJx3
  gi_wp2
  refine bodyPost_ret (results_none rfl _ _ _) rfl ?_
  exact (show Vals64Post l J Jx _ _ from ⟨⟨_, rfl⟩, .inr ⟨l.take (j + 1), List.take_prefix _ _, hJx3⟩⟩)
theorem vals64_stops (n : Nat) (hn : 1 ≤ n) (Bn n₀ m c : Nat) (A : Option Addr) (z : Nat → Int) (w : World) (hm4 : m ≤ 100000) (hBn : Bn < n₀) (hn₀ : n₀ ≤ w.heap.size)
  (hc0 : w.cell? ⟨Bn, 0, none⟩ = some (.slice A m c)) (hA : ∀ W', Below n₀ w W' → Zs W' A m z) :
  SeqStopsK Fence.wide n Tryz.prog 233 #[.pointer (some ⟨Bn, 0, none⟩)] (fun x : Int => #[Value.int .i64 x]) (Below n₀) (fun ys => ys = zL z m) (fun pre => pre <+: zL z m) (zL z m).length w := fun y J Jx W hW hJ _ hY h0 =>
 vals64_in n hn y Bn n₀ m c A z J Jx W hm4 hJ hY hBn (by have := hW.size; omega) ((hW.cell (p := ⟨Bn, 0, none⟩) (by show Bn < w.heap.size; omega)).trans hc0) (fun W' h => hA W' ((hW.mono hn₀).trans h)) h0
set_option maxRecDepth 100000 in
set_option maxHeartbeats 2000000 in
theorem append64_in (n : Nat) (hn : 3 ≤ n) (Bn m c : Nat) (A : Option Addr) (z : Nat → Int) (w : World) (hm4 : m ≤ 100000) (hBn : Bn < w.heap.size) (hc0 : w.cell? ⟨Bn, 0, none⟩ = some (.slice A m c)) (hA : Zs w A m z) :
  CallsIn Fence.wide n Tryz.prog 267 #[.slice none 0 0, .func (.func 233) #[] #[.pointer (some ⟨Bn, 0, none⟩)]] w fun e W' => ∃ v, e = .returned v ∧ W'.ownsRow w.heap.size 2 1 v m (costL_Tb3 z m) ∧ Below w.heap.size w W' := by
 have h1 : 1 ≤ n := by omega
 obtain ⟨i0, hi, hz0, hz1, hz2⟩ := info_parts info_i64z
 refine callsIn_of_wp_marks Tryz.func267 rfl trivial ?_ rfl
 simp only [Tryz.ntmps267, List.size_toArray, List.length_cons, List.length_nil, Nat.reduceAdd, Nat.reduceSub, Array.replicate_succ, Array.replicate_zero, List.push_toArray, List.append_toArray, List.nil_append, List.cons_append]
 gi_wp2_with fail
 have bO := Boxed.new w 34 (.slice none 0 0)
 have hB0 : Below w.heap.size w (w.alloc (.cells #[.slice none 0 0] 34)) := (Below.refl _ w).alloc (Nat.le_refl _) _
 have hlen : (zL z m).length ≤ 100000 := by rw [zL_len]; exact hm4
 refine wpIn_rangeFunc_ownG rfl h1 (gf := 233) (lb := #[.pointer (some ⟨Bn, 0, none⟩)]) rfl trivial (enters_of Tryz.func233 (by kernel_rfl) rfl)
  (vals64_stops (n - 1) (by omega) Bn w.heap.size m c A z _ hm4 hBn (by simp) ((hB0.cell (p := ⟨Bn, 0, none⟩) hBn).trans hc0) (fun W' h => hA.below (hB0.trans h) (Nat.le_refl _))) belowK_t (belowK_b (by simp)) (Below.refl _ _) (fun _ => rfl)
  (fun pre W => (∃ v, Boxed W w.heap.size 34 v ∧ W.ownsRow w.heap.size 2 1 v pre.length (pre.map fun y : Int => Value.int .i64 y) ∧ True) ∧ Below w.heap.size w W)
  (fun _ _ _ => False)
  (OwnFrom.and (_root_.Go.Own.from (holdsRow_own w.heap.size w.heap.size 34 2 1 (fun pre : List Int => pre.length) (fun pre => pre.map fun y : Int => Value.int .i64 y) (fun _ _ => True)) _) (ownFrom_below (Nat.le_refl _) (by simp)))
  (fun _ _ _ _ _ hs _ _ => hs)
  ⟨⟨_, bO, World.ownsRow_nil _ _ _ _, trivial⟩, hB0⟩
  (fun x : Int => { tmps := #[.slice none 0 0, .func (.func 233) #[] #[.pointer (some ⟨Bn, 0, none⟩)], .pointer (some ⟨w.heap.size, 0, none⟩), undef, .slice none 0 0, .int .i64 x, .func (.func 233) #[] #[.pointer (some ⟨Bn, 0, none⟩)], .int .i64 x, undef, undef, undef, undef, undef], defers := [] }) ?assign ?body ?done ?stop
 case assign =>
  intro y x W K hK
  gi_wp2
  exact hK
 case body =>
  rintro y pre x W ⟨⟨v, hv, hrow, _⟩, hBW⟩ hlt
  have hc := hv.cell
  gi_wp2_with (gi_at_builtin; refine wpListIn_append_own _ rfl _ _ 34 rfl w.heap.size 2 i0 (.int .i64 0) 1 8 Tryz.underlying34 hi hz0 hz1 hz2 rfl (by decide) _ _ _ rfl (hrow.alloc _) ⟨W.heap.size, 0, none⟩ 1 1 [.int .i64 x] rfl rfl (cell_one_new _ _ _) (by simp [Value.oneCell']) (by unfold maxLen; omega) (by omega) (by have := hBW.size; simp; omega) ?_; intro v' w1 hown' hgrow _; obtain ⟨g', cap', rfl⟩ := ownsRow_succ hown'; obtain ⟨hv1, hv2, hr2, hk2, hb2⟩ := hv.appended (by decide) hrow hBW.size (Nat.le_refl _) hown' hgrow; have hc1 := hv1.cell; have hf1 := hv1.frozen)
  exact ⟨hk2.from _, hb2, ⟨_, hv2, by simpa using hr2, trivial⟩, hBW.trans hb2⟩
 case done =>
  rintro D ys W hD rfl ⟨⟨v, hv, hrow, _⟩, hBW⟩ hK
  have hc := hv.cell
  gi_wp2
  refine ⟨by simp, .inl ⟨_, _, rfl, run_takeDeferred hK, ?_⟩⟩
  exact ⟨_, results_tmp rfl _ _ _, v, rfl, row_zL (ownsRow_putObj hrow _ hK rfl), hBW.trans (belowK_b (w := w) (Nat.le_refl _) W D _ _ (by simp at hD; omega) hK rfl rfl)⟩
 case stop =>
  rintro D c pre W _ _ h _
  exact h.elim
theorem values64_any (A : Option Addr) (m c : Nat) (w : World) : Calls Tryz.prog 185 #[.slice A m c] w fun e w' => e = .returned (.func (.func 233) #[] #[.pointer (some ⟨w.heap.size, 0, none⟩)]) ∧ w' = w.alloc (.cells #[.slice A m c] 34) := by
 go_enter Tryz.func185, Tryz.ntmps185
 go_wp2_with fail
 go_ret
 exact ⟨rfl, rfl⟩
theorem collect64_any (Bn m c : Nat) (A : Option Addr) (z : Nat → Int) (w : World) (hm4 : m ≤ 100000) (hBn : Bn < w.heap.size) (hc0 : w.cell? ⟨Bn, 0, none⟩ = some (.slice A m c)) (hA : Zs w A m z) :
  Calls Tryz.prog 231 #[.func (.func 233) #[] #[.pointer (some ⟨Bn, 0, none⟩)]] w fun e w' => (∃ v, e = .returned v ∧ w'.ownsRow w.heap.size 2 1 v m (costL_Tb3 z m)) ∧ Below w.heap.size w w' := by
 have C := hid (callsIn_wide.1 (append64_in 3 (Nat.le_refl _) Bn m c A z w hm4 hBn hc0 hA))
 clear hc0 hA
 go_enter Tryz.func231, Tryz.ntmps231
 go_wp2_with (go_at_call 267; refine C.out.mono ?_; rintro e w' ⟨v, rfl, h1, h2⟩)
 go_ret
 exact ⟨⟨_, rfl, h1⟩, h2⟩
end Go.Proofs.YtmokogkndbinlaaGreatDoor
