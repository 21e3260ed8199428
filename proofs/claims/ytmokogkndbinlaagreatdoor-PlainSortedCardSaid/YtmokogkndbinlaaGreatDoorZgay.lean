import Derived.Sort.QuietIn
import Derived.Deep.RegionLaw
import Derived.Test.YtmokogkndbinlaaGreatDoorZgax
set_option linter.all false
namespace Go.Proofs.YtmokogkndbinlaaGreatDoor
open Go.Lib (hid)
open Go.RowKit
def Keep1 (b : Nat) (W W' : World) : Prop := W.heap.size ≤ W'.heap.size ∧ W'.heap[b]? = W.heap[b]?
theorem Keep1.refl (b : Nat) (W : World) : Keep1 b W W := ⟨Nat.le_refl _, rfl⟩
theorem Keep1.trans {b : Nat} {X Y Z : World} (h : Keep1 b X Y) (k : Keep1 b Y Z) : Keep1 b X Z := ⟨Nat.le_trans h.1 k.1, k.2.trans h.2⟩
theorem Keep1.put {b l : Nat} {W : World} {o : Obj} (hb : b ≠ l) : Keep1 b W (W.putObj l o) := ⟨by simp [World.putObj], World.putObj_heap_other hb⟩
theorem Keep1.of_below {b B : Nat} {X Y : World} (h : Below B X Y) (hb : b < B) : Keep1 b X Y := ⟨h.size, h.block b hb⟩
def GoodSeq {α : Type} (n : Nat) (P : Program) (gf : Nat) (lb : Array Value) (encs : α → Array Value) (b : Nat) (Good : Nat → List α → α → World → Prop) (S : List α → Prop) (w0 : World) : Prop :=
 ∀ (y : Nat) (J : List α → World → Prop) (W : World), Below w0.heap.size w0 W → AbidesFrom W.heap.size J →
  (∀ pre x Wp W1, J pre Wp → Below Wp.heap.size Wp W1 → Good Wp.heap.size pre x W1 → YieldAt Fence.wide (n - 1) P y (encs x) W1 fun e W' => e = .returned (.bool true) ∧ J (pre ++ [x]) W' ∧ Keep1 b W1 W') →
  J [] W → CallsIn Fence.wide n P gf (#[.func (.yield y) #[] #[]] ++ lb) W fun e W' => (∃ v, e = .returned v) ∧ ∃ xs, S xs ∧ J xs W'
def goodPost {α : Type} (B b : Nat) (I : List α → World → Prop) (xs : List α) (W : World) : Exit → Act → World → Prop
 | .normal, _, W' => KeepsFrom B W W' ∧ Keep1 b W W' ∧ I xs W'
 | _, _, _ => False
theorem range_good {α : Type} {P : Program} {n : Nat} {g : Operand} {ps : Array Tmp} {assign body : Code} {Q : Exit → Act → World → Prop} {a : Act} {w : World}
  (h1 : 1 ≤ n) {gf : Nat} {lb : Array Value} (hg : a.eval g = .func (.func gf) #[] lb) (eg : ∀ args w, (callFunc gf args).run P w = .ok (.enter gf args) w)
  {encs : α → Array Value} {b : Nat} {Good : Nat → List α → α → World → Prop} {S : List α → Prop} (hseq : GoodSeq (n - 1) P gf lb encs b Good S w) (hb₀ : b < w.heap.size) (hps : ∀ x, (encs x).size = ps.size)
  (hGood : ∀ B pre x, OwnFrom w.heap.size (fun (_ : Unit) W => Good B pre x W)) (I : List α → World → Prop) (hI : OwnFrom w.heap.size I) (h0 : I [] w) (a₁ : α → Act)
  (hassign : ∀ (y : Nat) (x : α) (W : World) (K : Act → World → Prop), K (a₁ x) W →
   assign.wpIn (Fence.wide.inRound y) (n - 1 - 1) P (Exit.then K (fun _ _ _ => False)) { tmps := (ps.zip (encs x)).foldl (fun t (p, v) => t.setIfInBounds p v) a.tmps, defers := [] } W)
  (hbody : ∀ (y : Nat) (pre : List α) (x : α) (Wp W : World), w.heap.size ≤ y → (∃ r, W.heap[y]? = some (.loop r)) → I pre Wp → I pre W → (∀ k, k < w.heap.size → W.heap[k]? = Wp.heap[k]?) → Good Wp.heap.size pre x W → body.wpIn (Fence.wide.inRound y) (n - 1 - 1) P (goodPost w.heap.size b I (pre ++ [x]) W) (a₁ x) W)
  (hdone : ∀ (D : Nat) (xs : List α) (W : World), w.heap.size ≤ D → S xs → I xs W → W.heap[D]? = some (.deferred (some [])) → Q .normal { a with defers := { target := .collected D, args := #[] } :: a.defers } W) :
  (Code.rangeFunc g ps assign body).wpIn Fence.wide n P Q a w := by
 refine wpIn_rangeFunc fun fn hfn => ?_
 let rec0 : LoopState → Loop := fun st => { state := st, pending := none, fn := fn, tmps := a.tmps, params := ps, assign := assign, body := body, defers := w.heap.size }
 let W1 := (w.alloc (.deferred (some []))).alloc (.loop (rec0 .ready))
 have e1 : w.heap.size + 1 = (w.alloc (.deferred (some []))).heap.size := by simp
 have hL : W1.heap[w.heap.size + 1]? = some (.loop (rec0 .ready)) := by rw [e1]; exact World.alloc_heap_new _ _
 have hD : W1.heap[w.heap.size]? = some (.deferred (some [])) := (Below.heap_alloc _ _ _ (by simp)).trans (World.alloc_heap_new w _)
 have hB : Below w.heap.size w W1 := ((Below.refl _ w).alloc (Nat.le_refl _) _).alloc (by simp) _
 have hsz : W1.heap.size = w.heap.size + 2 := by simp [W1]
 refine ⟨w.heap.size + 1, [{ target := .collected w.heap.size, args := #[] }], W1, { target := .fn (.func gf) lb, args := #[.func (.yield (w.heap.size + 1)) #[] #[]] }, W1, gf,
  #[.func (.yield (w.heap.size + 1)) #[] #[]] ++ lb, W1, run_enterLoop_outer _ _ _ _ _, ?_, fun _ _ => trivial, ?_, fun _ => h1, ?_⟩
 ·simp only [resolve, hg]
  simp [go_sem]
 ·simp [invoke, go_sem, eg]
 have hab : AbidesFrom W1.heap.size (fun pre W => I pre W ∧ W.heap[w.heap.size + 1]? = some (.loop (rec0 .ready)) ∧ W.heap[w.heap.size]? = some (.deferred (some []))) := by
  intro s A B row hs hgr hr
  have keep : ∀ (k : Nat) (o : Obj), k < W1.heap.size → A.heap[k]? = some o → B.heap[k]? = some o := fun k o hk ho =>
   (hgr.block k (Array.getElem?_eq_some_iff.1 ho).1 (fun e => by have := (hr k e.symm).1; omega)).trans ho
  exact ⟨hI s A B row hs.1 hgr (fun r e => ⟨by have := (hr r e).1; omega, by obtain ⟨_, o, ho, hw⟩ := hr r e; exact ⟨o, ho, Obj.not_cells_of_walk hw⟩⟩), keep _ _ (by omega) hs.2.1, keep _ _ (by omega) hs.2.2⟩
 refine (hseq (w.heap.size + 1) _ W1 hB hab ?_ ⟨hI.alloc _ (hI.alloc _ h0), hL, hD⟩).mono ?_
 rotate_left
 ·rintro e W2 ⟨⟨v, rfl⟩, xs, hS, hi, hl, hd⟩
  refine ⟨none, _, run_endLoop (P := P) hl (by simp [rec0]), hdone _ xs _ (Nat.le_refl _) hS (hI.putObj _ hi (by omega) hl rfl) ((World.putObj_heap_other (by omega)).trans hd)⟩
 rintro pre x Wp W ⟨hip, hlp, hdp⟩ hbp hgood
 have hltp : w.heap.size + 1 < Wp.heap.size := (Array.getElem?_eq_some_iff.1 hlp).1
 have hi : I pre W := hI _ _ _ none hip ⟨hbp.os, hbp.tape, hbp.output, hbp.size, fun k hk _ => hbp.block k hk⟩ (fun r e => by cases e)
 have hl := (hbp.block _ hltp).trans hlp
 have hd := (hbp.block w.heap.size (by omega)).trans hdp
 have hy := run_yield (P := P) (args := encs x) hl (hps x)
 refine ⟨fn, _, assign, body, hy, roundIn_of_wpIn hfn (hassign _ x W _ ⟨_, run_beginRound hl rfl, ?_⟩)⟩
 have hlt : w.heap.size + 1 < W.heap.size := (Array.getElem?_eq_some_iff.1 hl).1
 have hl2 : (W.putObj (w.heap.size + 1) (.loop (rec0 .busy))).heap[w.heap.size + 1]? = some (.loop (rec0 .busy)) := World.putObj_heap_same hlt
 have hd2 : (W.putObj (w.heap.size + 1) (.loop (rec0 .busy))).heap[w.heap.size]? = some (.deferred (some [])) := (World.putObj_heap_other (by omega)).trans hd
 have hb2 : Keep1 b W (W.putObj (w.heap.size + 1) (.loop (rec0 .busy))) := Keep1.put (by omega)
 refine wpIn_mono (hbody _ pre x Wp _ (by omega) ⟨_, hl2⟩ hip (hI.putObj _ hi (by omega) hl rfl) (fun k hk => (World.putObj_heap_other (by omega)).trans (hbp.block k (by omega))) ((hGood _ pre x).putObj (s := ()) _ hgood (by omega) hl rfl)) ?_
 rintro e a3 W3 hp
 cases e with
 | normal =>
  obtain ⟨hk, hb, hi3⟩ := hp
  have hl3 := hk.same _ _ (by omega) hl2 rfl
  have hd3 := hk.same _ _ (Nat.le_refl _) hd2 rfl
  have hlt3 : w.heap.size + 1 < W3.heap.size := (Array.getElem?_eq_some_iff.1 hl3).1
  exact ⟨_, _, run_endRound (P := P) none hl3, rfl, ⟨hI.putObj _ hi3 (by omega) hl3 rfl, World.putObj_heap_same hlt3, (World.putObj_heap_other (by omega)).trans hd3⟩, hb2.trans (hb.trans (Keep1.put (by omega)))⟩
 | ret => exact hp.elim
 | exit id => exact hp.elim
 | goto t => exact hp.elim
 | panic c => exact hp.elim
 | outgrown => exact hp.elim
end Go.Proofs.YtmokogkndbinlaaGreatDoor
namespace Go.Proofs.YtmokogkndbinlaaGreatDoor
open Go.Lib (hid)
attribute [local go_sem] Oper.semAt_some
open Go.RowKit Go.Shelf
theorem all_call (l : List Nat) (w : World) :
  Calls Tryz.prog 143 #[shV l] w fun e w' => e = .returned (.func (.func 186) #[] #[.pointer (some ⟨w.heap.size, 0, none⟩)]) ∧ w' = w.alloc (shO l) := by
 go_enter Tryz.func143, Tryz.ntmps143
 go_wp2
 go_ret
 exact ⟨rfl, rfl⟩
def GoodT (l : List Nat) (base : Nat) (pre : List (Nat × Value)) (x : Nat × Value) (W : World) : Prop := x.1 = pre.length ∧ x.1 < prodL l ∧ Own W base x.2 (tupL l x.1)
theorem goodT_own (l : List Nat) (base B : Nat) (pre : List (Nat × Value)) (x : Nat × Value) : OwnFrom B (fun (_ : Unit) W => GoodT l base pre x W) := by
 intro s X Y row hs hg hr
 refine ⟨hs.1, hs.2.1, World.ownsRow.kept hs.2.2 hg ?_⟩
 obtain ⟨h1, ⟨h2, hn⟩ | ⟨g, cap, cur, h2, hb, hh, _⟩⟩ := hs.2.2
 ·rw [h2]
  exact .inl rfl
 refine .inr fun e => ?_
 rw [h2] at e
 obtain ⟨_, o, ho, hc⟩ := hr g e.symm
 rw [hh] at ho
 cases ho
 cases hc
theorem ShAt.keep {X Y : World} {b : Nat} {l : List Nat} (h : ShAt X b l) (k : Keep1 b X Y) : ShAt Y b l := by
 have c : ∀ i, Y.cell? ⟨b, i, none⟩ = X.cell? ⟨b, i, none⟩ := fun i => World.cell?_of_block (a := ⟨b, i, none⟩) k.2
 exact ⟨(c 0).trans h.c0, (c 1).trans h.c1, (c 2).trans h.c2, (c 3).trans h.c3, (c 4).trans h.c4, (c 5).trans h.c5, (c 6).trans h.c6, Nat.lt_of_lt_of_le h.lt k.1, fun i => (World.frozen?_of_block (a := ⟨b, i, none⟩) k.2).trans (h.fz i)⟩
abbrev encT (x : Nat × Value) : Array Value := #[.int .i64 (x.1 : Int), x.2]
set_option maxRecDepth 100000 in
set_option maxHeartbeats 2000000 in
theorem all_good (n : Nat) (hn : 1 ≤ n) (l : List Nat) (P Bs : Nat) (h6 : l.length ≤ 6) (h32 : ∀ n ∈ l, 1 ≤ n ∧ n ≤ 32) (hP : prodL l = P) (hP2 : P ≤ 4096) (w0 : World) (hB : ShAt w0 Bs l) :
  GoodSeq n Tryz.prog 186 #[.pointer (some ⟨Bs, 0, none⟩)] encT Bs (fun B => GoodT l B) (fun xs => xs.length = P) w0 := by
 intro y J W hW hJ hY h0
 have K := hid (fun W => count_below l W h6 (fun n hn => (h32 n hn).2) P hP)
 have T := hid (fun W i (hi : i < P) => tuple_ok l i W h6 h32 (by rw [hP]; exact hi))
 have HP := hid hP
 have HY := hid hY
 have HJ := hid hJ
 have H0 := hid h0
 have HS := hid (hB.below hW hB.lt)
 clear hY hJ h0 hP hB hW h32
 refine callsIn_of_wp Tryz.func186 rfl trivial ?_ rfl
 simp only [Tryz.ntmps186, List.size_toArray, List.length_cons, List.length_nil, Nat.reduceAdd, Nat.reduceSub, Array.replicate_succ, Array.replicate_zero, List.push_toArray, List.append_toArray, List.nil_append, List.cons_append]
 obtain ⟨c0, c1, c2, c3, c4, c5, c6, hlt, hfz⟩ := HS.out
 gi_wp2_with (refine ⟨trivial, ?_⟩; gi_at_call 147; refine (callsIn_wide.2 (K.out _)).mono ?_; rintro e W1 ⟨rfl, hb⟩)
 have J1 := hid (HJ.out _ _ _ _ H0.out (grown_of_below hb) (fun r e => by cases e))
 have B1 := hid (Keep1.of_below hb HS.out.lt)
 have hz1 := hb.size
 clear hb c0 c1 c2 c3 c4 c5 c6 hlt hfz
 gi_loopw [3, 4, 5, 8] (fun _ _ _ i wr => ∃ pre : List (Nat × Value), pre.length ≤ P ∧ i = .int .i64 (pre.length : Int) ∧ J pre wr ∧ Keep1 Bs W wr) (fun _ _ _ i _ => P - (intOf i).toNat)
 case atStart => exact ⟨[], Nat.zero_le _, rfl, J1.out, B1.out⟩
 case round =>
  obtain ⟨pre, hp, rfl, hJr, hBr⟩ := hrel
  have JR := hid hJr
  have BR := hid hBr
  have hzr := hBr.1
  clear hJr hBr
  obtain ⟨k, hk⟩ : ∃ k, pre.length = k := ⟨_, rfl⟩
  have HK := hid hk
  rw [hk] at hp ⊢
  clear hk
  by_cases hlt : k < P
  rotate_left
  ·gi_wp2
   go_end0
   exact ⟨⟨_, rfl⟩, pre, by have := HK.out; omega, JR.out⟩
  obtain ⟨c0, c1, c2, c3, c4, c5, c6, hlt', hfz⟩ := HS.out.keep BR.out
  gi_wp2_with fail
  refine ⟨trivial, ?_⟩
  refine (callsIn_wide.2 (T.out _ k hlt)).mono ?_
  rintro e W2 ⟨⟨v, rfl, hO⟩, hb2⟩
  have J2 := hid hb2
  have G2 : Hid (GoodT l wr.heap.size pre (k, v) W2) := hid ⟨HK.out.symm, by rw [HP.out]; exact hlt, hO⟩
  have B2 := hid (BR.out.trans (Keep1.of_below hb2 (HS.out.keep BR.out).lt))
  have hz2 := hb2.size
  obtain ⟨fn, tmps, assign, body, hy, hR⟩ := HY.out pre (k, v) wr W2 JR.out J2.out G2.out
  simp only [encT] at hy
  clear hO hb2 c0 c1 c2 c3 c4 c5 c6 hlt' hfz
  gi_wp2
  refine hR.mono ?_
  rintro e W3 ⟨rfl, hJ3, hk3⟩
  have J3 := hid hJ3
  have B3 := hid (B2.out.trans hk3)
  clear hJ3 hk3 hy hR
  gi_wp2
  go_roundw
  case rel => exact ⟨pre ++ [(k, v)], by rw [List.length_append, HK.out]; show k + 1 ≤ P; omega, by rw [List.length_append, HK.out]; go_num, J3.out, B3.out⟩
  case measure => simp [intOf]; omega
theorem keep1_set {W : World} {b g : Nat} (h : b ≠ g) (i : Nat) (u : Value) : Keep1 b W (W.setCell ⟨g, i, none⟩ u) := ⟨by simp [World.setCell], Below.heap_setCell W ⟨g, i, none⟩ u b h⟩
theorem box_below {W W' : World} {b : Nat} {t : TypeId} {v : Value} (h : Boxed W b t v) (hb : Below W.heap.size W W') : Boxed W' b t v := (hb.block b h.lt).trans h
open Go.RowKit Go.Shelf Go.Maps Go.Sort
end Go.Proofs.YtmokogkndbinlaaGreatDoor
namespace Go.Proofs.YtmokogkndbinlaaGreatDoor
open Go.Lib (hid)
open Go.RowKit
structure TabAt (w : World) (g h : Nat) (l : List Nat) (k : Int) (z : Nat → Int) : Prop where
 row : w.heap[g]? = some (.cells #[.int .i64 (l.length : Int), szV l 0, szV l 1, szV l 2, szV l 3, szV l 4, szV l 5, .int .i64 k, .slice (some ⟨h, 0, none⟩) (prodL l) (prodL l)] 142 (0, 0))
 costs : ∃ cur, w.heap[h]? = some (.cells cur 2 (0, 0)) ∧ cur.size = prodL l ∧ ∀ i, i < prodL l → cur[i]? = some (.int .i64 (z i))
theorem TabAt.apart {w : World} {g h : Nat} {l : List Nat} {k : Int} {z : Nat → Int} (H : TabAt w g h l k z) : g ≠ h := by
 rintro rfl
 obtain ⟨cur, hc, _⟩ := H.costs
 have := H.row.symm.trans hc
 simp at this
theorem TabAt.below {w w' : World} {g h : Nat} {l : List Nat} {k : Int} {z : Nat → Int} (H : TabAt w g h l k z) (hb : Below w.heap.size w w') : TabAt w' g h l k z := by
 obtain ⟨cur, hc, h1, h2⟩ := H.costs
 refine ⟨?_, cur, ?_, h1, h2⟩
 ·rw [hb.block g (Array.getElem?_eq_some_iff.1 H.row).1]; exact H.row
 rw [hb.block h (Array.getElem?_eq_some_iff.1 hc).1]; exact hc
theorem TabAt.cells {w : World} {g h : Nat} {l : List Nat} {k : Int} {z : Nat → Int} (H : TabAt w g h l k z) :
  w.cell? ⟨g, 0, none⟩ = some (.int .i64 (l.length : Int)) ∧ w.cell? ⟨g, 1, none⟩ = some (szV l 0) ∧ w.cell? ⟨g, 2, none⟩ = some (szV l 1) ∧ w.cell? ⟨g, 3, none⟩ = some (szV l 2) ∧ w.cell? ⟨g, 4, none⟩ = some (szV l 3) ∧
  w.cell? ⟨g, 5, none⟩ = some (szV l 4) ∧ w.cell? ⟨g, 6, none⟩ = some (szV l 5) ∧ w.cell? ⟨g, 7, none⟩ = some (.int .i64 k) ∧ w.cell? ⟨g, 8, none⟩ = some (.slice (some ⟨h, 0, none⟩) (prodL l) (prodL l)) := by
 refine ⟨?_, ?_, ?_, ?_, ?_, ?_, ?_, ?_, ?_⟩ <;> (rw [cell_of_row _ _ _ _ _ _ H.row]; rfl)
theorem TabAt.set {w : World} {g h : Nat} {l : List Nat} {k : Int} {z : Nat → Int} (H : TabAt w g h l k z) (N : Nat) (x : Int) :
  TabAt (w.setCell ⟨h, N, none⟩ (.int .i64 x)) g h l k (fun i => if i = N then x else z i) ∧ w.grownBy (w.setCell ⟨h, N, none⟩ (.int .i64 x)) (some h) := by
 obtain ⟨cur, hc, h1, h2⟩ := H.costs
 refine ⟨⟨(heap_setCell_other w ⟨h, N, none⟩ g _ H.apart).trans H.row, _, heap_setCell_same w h N cur 2 _ hc, by simpa using h1, fun i hi => ?_⟩, ⟨rfl, rfl, rfl, by simp, fun k _ hk => heap_setCell_other w ⟨h, N, none⟩ k _ (fun e => hk (by simp [e]))⟩⟩
 rw [Array.getElem?_setIfInBounds]
 by_cases e : N = i
 ·subst e
  rw [if_pos rfl, if_pos (by omega), if_pos rfl]
 rw [if_neg e, if_neg (fun h => e h.symm)]
 exact h2 i hi
set_option maxRecDepth 100000 in
set_option maxHeartbeats 4000000 in
theorem tput_ok (g h : Nat) (A : Option Addr) (n c N : Nat) (l t : List Nat) (k x : Int) (z : Nat → Int) (w : World) (H : TabAt w g h l k z) (hn : n = t.length) (h6 : l.length ≤ 6) (h32 : ∀ n ∈ l, n ≤ 32) (hr : Ints w A t) (hin : InL l t) (hN : numL l t = N) (hNP : N < prodL l)
  (hk1 : 1 ≤ k) (hk2 : k ≤ 2147483648) (hx0 : 0 ≤ x) (hx1 : x ≤ k) :
  Calls Tryz.prog 58 #[.pointer (some ⟨g, 0, none⟩), .slice A n c, .int .i64 x] w fun e w' => e = .returned (.int .i64 0) ∧ TabAt w' g h l k (fun i => if i = N then x else z i) ∧ w.grownBy w' (some h) := by
 have HX := hid (fun W (hr : Ints W A t) => index_ok' A n c N l t W hn h6 h32 hr hin hN)
 have HT := hid H
 have HR := hid hr
 obtain ⟨c0, c1, c2, c3, c4, c5, c6, c7, c8⟩ := H.cells
 have i0 : (0 : Int) ≤ (N : Int) := by omega
 have i1 : (N : Int) < (prodL l : Int) := by omega
 clear H hr hin hN h32 hn
 go_enter Tryz.func58, Tryz.ntmps58
 go_wp2_with fail
 refine (HX.out _ HR.out).mono ?_
 rintro e w1 ⟨rfl, b1⟩
 have T1 := hid (HT.out.below b1)
 have B1 := hid b1
 obtain ⟨d0, d1, d2, d3, d4, d5, d6, d7, d8⟩ := T1.out.cells
 obtain ⟨cur, hc, hcs, hcz⟩ := T1.out.costs
 have hst : w1.cell? ⟨h, N, none⟩ = some (.int .i64 (z N)) := by rw [cell_of_row _ _ _ _ _ _ hc]; exact hcz N hNP
 have hfr : w1.frozen? ⟨h, N, none⟩ = false := frozen_of_row w1 h N cur 2 hc
 have HC := hid hc
 have HCS := hid hcs
 have HCZ := hid hcz
 clear b1 c0 c1 c2 c3 c4 c5 c6 c7 c8 hc hcs hcz
 go_wp2_with (go_at_call 108; refine (in_yes _ _ _ hk1 hk2 hx0 hx1).mono ?_; rintro e w' ⟨rfl, rfl⟩)
 go_ret
 obtain ⟨q1, q2⟩ := T1.out.set N x
 exact ⟨rfl, q1, ⟨q2.os.trans B1.out.os, q2.tape.trans B1.out.tape, q2.output.trans B1.out.output, Nat.le_trans B1.out.size q2.size, fun i hi hne => (q2.block i (Nat.lt_of_lt_of_le hi B1.out.size) hne).trans (B1.out.block i hi)⟩⟩
theorem tk_any (g h : Nat) (l : List Nat) (k : Int) (z : Nat → Int) (w : World) (H : TabAt w g h l k z) : Calls Tryz.prog 141 #[.pointer (some ⟨g, 0, none⟩)] w fun e w' => e = .returned (.int .i64 k) ∧ w = w' := by
 obtain ⟨c0, c1, c2, c3, c4, c5, c6, c7, c8⟩ := H.cells
 clear H
 go_enter Tryz.func141, Tryz.ntmps141
 go_wp2_with fail
 go_ret
 exact ⟨rfl, rfl⟩
theorem info_i64 : (Tryz.prog.info? 2).map (fun i => (i.zero, i.size, i.bytes)) = some (some (.int .i64 0), 1, 8) := by kernel_rfl
def RepL (x : Int) (j n : Nat) : List Value := List.replicate j (.int .i64 x) ++ List.replicate (n - j) (.int .i64 0)
def RepAt (W : World) (h : Nat) (x : Int) (j n : Nat) : Prop := W.heap[h]? = some (.cells (RepL x j n).toArray 2 (0, 0))
theorem made_list (n : Nat) : madeCells #[.int .i64 0] n = (RepL 0 0 n).toArray := by
 apply Array.ext
 ·simp [RepL, madeCells]
 intro i h1 h2
 simp [RepL, madeCells, Nat.mod_one]
theorem rep_splice (x : Int) (j m n : Nat) (h : j + m ≤ n) : splice (RepL x j n) j (List.replicate m (.int .i64 x)) = RepL x (j + m) n := by
 unfold splice RepL
 have e1 : (List.replicate j (Value.int .i64 x) ++ List.replicate (n - j) (Value.int .i64 0)).take j = List.replicate j (.int .i64 x) := by simp
 have e2 : (List.replicate j (Value.int .i64 x) ++ List.replicate (n - j) (Value.int .i64 0)).drop (j + m) = List.replicate (n - (j + m)) (.int .i64 0) := by
  simp [List.drop_append, Nat.sub_sub]
 rw [e1, List.length_replicate, e2, ← List.append_assoc, List.replicate_append_replicate]
theorem rep_len (x : Int) (j n : Nat) (h : j ≤ n) : (RepL x j n).length = n := by simp [RepL]; omega
set_option maxRecDepth 100000 in
set_option maxHeartbeats 4000000 in
theorem repeat_one (g c n : Nat) (x : Int) (w : World) (hc : w.cell? ⟨g, 0, none⟩ = some (.int .i64 x)) (hg : g < w.heap.size) (hn1 : 1 ≤ n) (hn : n ≤ 4096)
  (hM : ∀ W, Calls Tryz.prog 189 #[.int .u64 1, .int .u64 (n : Int)] W fun e w' => e = .returned (.tuple #[.int .u64 0, .int .u64 (n : Int)]) ∧ W = w') :
  Calls Tryz.prog 146 #[.slice (some ⟨g, 0, none⟩) 1 c, .int .i64 (n : Int)] w fun e w' => e = .returned (.slice (some ⟨w.heap.size, 0, none⟩) n n) ∧ RepAt w' w.heap.size x n n ∧ Below w.heap.size w w' := by
 have HM := hid hM
 have hm : ∀ W, (Instr.makeSlice 34 (.int .i64 (n : Int)) (.int .i64 (n : Int))).run Tryz.prog W = .ok (.slice (some ⟨W.heap.size, 0, none⟩) n n) (W.alloc (.cells (madeCells #[.int .i64 0] n) 2)) :=
  fun W => run_make_row' 34 2 (.int .i64 0) 8 Tryz.underlying34 info_i64 rfl .i64 .i64 n (by omega) (by omega) W
 have hc1 : (w.alloc (.cells (RepL 0 0 n).toArray 2)).cell? ⟨g, 0, none⟩ = some (.int .i64 x) := ((new_val w (.cells (RepL 0 0 n).toArray 2)).cell (p := ⟨g, 0, none⟩) hg).trans hc
 have hrow := heap_alloc_new w (.cells (RepL 0 0 n).toArray 2)
 have hnew := new_val w (.cells (RepL 0 0 n).toArray 2)
 rw [made_list] at hm
 have HROW := hid hrow
 have HNEW := hid hnew
 have HC1 := hid hc1
 have e1 : IntKind.u64.wrap (n : Int) = (n : Int) := by show (n : Int) % 18446744073709551616 = _; omega
 have e2 : IntKind.i64.wrap (n : Int) = (n : Int) := IntWalk.i64_in _ (by omega)
 clear hM hrow hnew hc1 hc
 have hsz : (Tryz.prog.info? 2).map (·.size) = some 1 := by kernel_rfl
 go_enter Tryz.func146, Tryz.ntmps146
 go_upto_region 7 with (go_at_call 189; refine (HM.out _).mono ?_; rintro e w' ⟨rfl, rfl⟩)
 go_wp2_with (refine wpList_copy_splice rfl (.tmp 31) (.tmp 32) 34 34 rfl 2 Tryz.underlying34 hsz (some ⟨w.heap.size, 0, none⟩) (some ⟨g, 0, none⟩) n n 1 c rfl rfl w.heap.size 0 (RepL 0 0 n) 2 HROW.out (List.replicate 1 (.int .i64 x)) (by show 1 = min 1 n; omega) (fun _ => ⟨rfl, _, rfl, fun j v hj => by rcases j with _ | j; (simp at hj; subst hj; exact HC1.out); simp at hj⟩) (by rw [rep_len _ _ _ (Nat.zero_le _)]; simp; omega) (fun v hv => by simp at hv; subst hv; rfl) w.heap.size w HNEW.out (Nat.le_refl _) ?_; intro w1 hr1 hb1; have R1 : Hid (RepAt w1 w.heap.size x 1 n) := hid (by have h := hr1.out; rw [show RepL 0 0 n = RepL x 0 n from rfl, rep_splice x 0 1 n (by omega)] at h; exact h); have B1 := hid hb1; clear hr1 hb1)
 go_loopw [8] (fun i wr => ∃ j : Nat, 1 ≤ j ∧ j ≤ n ∧ i = .int .i64 (j : Int) ∧ RepAt wr w.heap.size x j n ∧ Below w.heap.size w wr) (fun i _ => n - (intOf i).toNat)
 case atStart => exact ⟨1, Nat.le_refl _, hn1, rfl, R1.out, B1.out⟩
 case round =>
  obtain ⟨j, hj1, hj, rfl, hr, hb⟩ := hrel
  have RJ := hid hr
  have BJ := hid hb
  clear hr hb
  by_cases hlt : j < n
  rotate_left
  ·obtain rfl : j = n := by omega
   have i1 : ¬ ((j : Int) < (j : Int)) := by omega
   go_wp2_with fail
   go_ret
   exact ⟨rfl, RJ.out, BJ.out⟩
  have i1 : (j : Int) < (n : Int) := by omega
  have HCELL : Hid (∀ i v, (List.replicate (min j (n - j)) (Value.int .i64 x))[i]? = some v → wr.cell? ((⟨w.heap.size, 0, none⟩ : Addr).add i) = some v) := by
   refine hid fun i v hi => ?_
   have hl := (List.getElem?_eq_some_iff.1 hi).1
   rw [List.length_replicate] at hl
   rw [List.getElem?_replicate, if_pos hl] at hi
   obtain rfl := Option.some.inj hi
   rw [show ((⟨w.heap.size, 0, none⟩ : Addr).add i) = ⟨w.heap.size, i, none⟩ by (simp [Addr.add]; omega), cell_of_row _ _ _ _ _ _ RJ.out]
   simp only [RepL, List.getElem?_toArray]
   rw [List.getElem?_append_left (by rw [List.length_replicate]; omega), List.getElem?_replicate, if_pos (by omega)]
  have hN : Hid ((List.replicate (min j (n - j)) (Value.int .i64 x)).length = Nat.min j (n - j)) := hid (by rw [List.length_replicate])
  have hF : Hid (j + (List.replicate (min j (n - j)) (Value.int .i64 x)).length ≤ (RepL x j n).length) := hid (by rw [rep_len _ _ _ hj, List.length_replicate]; omega)
  have hO : Hid (∀ v ∈ List.replicate (min j (n - j)) (Value.int .i64 x), v.oneCell' = true) := hid (fun v hv => by obtain ⟨_, rfl⟩ := List.mem_replicate.1 hv; rfl)
  have i2 : (0 : Int) ≤ (j : Int) := by omega
  have hnj : ¬ n = j := by omega
  have i3 : (j : Int) ≤ (n : Int) := by omega
  go_wp2_with fail
  go_region_law (refine step_copy_splice rfl (.tmp 41) (.tmp 44) 34 34 rfl 2 Tryz.underlying34 hsz (some ⟨w.heap.size, j, none⟩) (some ⟨w.heap.size, 0, none⟩) (n - j) (n - j) j n (by simp [Act.eval, Act.put]) (by simp [Act.eval, Act.put]) w.heap.size j (RepL x j n) 2 RJ.out (List.replicate (min j (n - j)) (.int .i64 x)) hN.out (fun _ => ⟨rfl, _, rfl, HCELL.out⟩) hF.out hO.out w.heap.size w (by first | exact BJ.out.drew | exact next_drewN BJ.out _ | exact BJ.out) (Nat.le_refl _) ?_; intro w2 hr2 hb2; have R2 : Hid (RepAt w2 w.heap.size x (j + min j (n - j)) n) := hid (by have h := hr2.out; rw [rep_splice x j _ n (by omega)] at h; exact h); have B2 := hid hb2; clear hr2 hb2)
  all_goals
   obtain ⟨M, hM⟩ : ∃ M, min j (n - j) = M := ⟨_, rfl⟩
   rw [hM] at R2
   simp [Act.put, hM]
   have i4 : IntKind.i64.wrap ((j : Int) + (M : Int)) = (j : Int) + (M : Int) := IntWalk.i64_in _ (by omega)
   go_wp2_with fail
   go_roundw
   case rel => exact ⟨j + M, by omega, by omega, by go_num, R2.out, B2.out⟩
   case measure => simp [intOf]; omega
def costL_Tb3 (z : Nat → Int) (n : Nat) : List Value := (List.range n).map fun i => .int .i64 (z i)
theorem costL_len (z : Nat → Int) (n : Nat) : (costL_Tb3 z n).length = n := by simp [costL_Tb3]
theorem costL_one (z : Nat → Int) (n : Nat) : ∀ v ∈ costL_Tb3 z n, v.oneCell' = true := by
 intro v hv
 simp only [costL_Tb3, List.mem_map] at hv
 obtain ⟨i, _, rfl⟩ := hv
 rfl
theorem costL_get {z : Nat → Int} {n j : Nat} {u : Value} (h : (costL_Tb3 z n)[j]? = some u) : j < n ∧ u = .int .i64 (z j) := by
 have hj := (List.getElem?_eq_some_iff.1 h).1
 rw [costL_len] at hj
 simp [costL_Tb3, List.getElem?_range hj] at h
 exact ⟨hj, h.symm⟩
theorem TabAt.cost {w : World} {g h : Nat} {l : List Nat} {k : Int} {z : Nat → Int} (H : TabAt w g h l k z) : ∀ j u, (costL_Tb3 z (prodL l))[j]? = some u → w.cell? ((⟨h, 0, none⟩ : Addr).add j) = some u := by
 intro j u hu
 obtain ⟨hj, rfl⟩ := costL_get hu
 obtain ⟨cur, hc, h1, h2⟩ := H.costs
 rw [show ((⟨h, 0, none⟩ : Addr).add j) = ⟨h, j, none⟩ by (simp [Addr.add]; omega), cell_of_row _ _ _ _ _ _ hc]
 exact h2 j hj
set_option maxRecDepth 100000 in
set_option maxHeartbeats 4000000 in
theorem clone64 (h n : Nat) (z : Nat → Int) (w : World) (hh : h < w.heap.size) (hn : n ≤ 1000000) (hc : ∀ j u, (costL_Tb3 z n)[j]? = some u → w.cell? ((⟨h, 0, none⟩ : Addr).add j) = some u) :
  Calls Tryz.prog 85 #[.slice (some ⟨h, 0, none⟩) n n] w fun e w' => (∃ v, e = .returned v ∧ w'.ownsRow w.heap.size 2 1 v n (costL_Tb3 z n)) ∧ Below w.heap.size w w' := by
 obtain ⟨i0, hi, hz0, hz1, hz2⟩ := info_parts info_i64
 have HI := hid hi
 have HZ0 := hid hz0
 have HZ1 := hid hz1
 have HZ2 := hid hz2
 have HN : Hid (∀ j u, (costL_Tb3 z n)[j]? = some u → (w.alloc (.cells #[] 2)).cell? ((⟨h, 0, none⟩ : Addr).add j) = some u) :=
  hid fun j u hu => ((new_val w (.cells #[] 2)).cell (p := (⟨h, 0, none⟩ : Addr).add j) (by rw [block_add]; exact hh)).trans (hc j u hu)
 have hq : ∀ W, (binOp .eql 34 (.slice (some ⟨h, 0, none⟩) n n) (.slice none 0 0)).run Tryz.prog W = .ok (.bool false) W := fun W => Lib.run_eql_slice_nil W 34 2 (some ⟨h, 0, none⟩) n n 0 0 Tryz.underlying34
 clear hc hi hz0 hz1 hz2
 go_enter Tryz.func85, Tryz.ntmps85
 go_wp2_with (at_builtin; refine wpList_append_own _ rfl (.tmp 5) (.tmp 6) 34 rfl w.heap.size 2 i0 (.int .i64 0) 1 8 Tryz.underlying34 HI.out HZ0.out HZ1.out HZ2.out rfl (by decide) (.slice (some ⟨w.heap.size, 0, none⟩) 0 0) 0 [] rfl (World.ownsRow_made w #[] 0 (Nat.le_refl _) (by simp [maxLen]) rfl) ⟨h, 0, none⟩ n n (costL_Tb3 z n) rfl (by rw [costL_len, Nat.mul_one]) HN.out (costL_one z n) (by unfold maxLen; omega) (by omega) (by simp) ?_; intro v' w1 h1 h2 _; have H1 := hid h1; have H2 := hid h2; clear h1 h2)
 go_ret
 refine ⟨⟨_, rfl, by have := H1.out; rwa [Nat.zero_add, List.nil_append] at this⟩, ?_⟩
 exact ((Below.refl _ _).alloc (Nat.le_refl _) _).grown H2.out (by simp) (fun k hk => by simp [Value.ownBlock] at hk; omega)
theorem entries_any (g h : Nat) (l : List Nat) (k : Int) (z : Nat → Int) (w : World) (H : TabAt w g h l k z) (hn : prodL l ≤ 1000000) :
  Calls Tryz.prog 28 #[.pointer (some ⟨g, 0, none⟩)] w fun e w' => (∃ v, e = .returned v ∧ w'.ownsRow w.heap.size 2 1 v (prodL l) (costL_Tb3 z (prodL l))) ∧ Below w.heap.size w w' := by
 obtain ⟨c0, c1, c2, c3, c4, c5, c6, c7, c8⟩ := H.cells
 have hh : h < w.heap.size := by obtain ⟨cur, hc, _⟩ := H.costs; exact (Array.getElem?_eq_some_iff.1 hc).1
 have HC := hid (clone64 h (prodL l) z w hh hn H.cost)
 clear H hh hn
 go_enter Tryz.func28, Tryz.ntmps28
 go_wp2_with (go_at_call 85; refine HC.out.mono ?_; rintro e w' ⟨⟨v, rfl, h1⟩, h2⟩; have H1 := hid h1; have H2 := hid h2; clear h1 h2)
 go_ret
 exact ⟨⟨_, rfl, H1.out⟩, H2.out⟩
theorem mul_one' (n : Nat) (h : n ≤ 4096) (W : World) : Calls Tryz.prog 189 #[.int .u64 1, .int .u64 (n : Int)] W fun e w' => e = .returned (.tuple #[.int .u64 0, .int .u64 (n : Int)]) ∧ W = w' := by
 refine (Tryz.bits_Mul 1 n (by omega) (by omega) W).mono ?_
 rintro e w' ⟨rfl, rfl⟩
 rw [Nat.one_mul, Nat.div_eq_of_lt (by omega), Nat.mod_eq_of_lt (by omega)]
 exact ⟨rfl, rfl⟩
theorem lit_new (w : World) (v : Value) (t : TypeId) : (w.alloc (.cells #[v] t)).cell? ⟨w.heap.size, 0, none⟩ = some v := by
 rw [cell_of_row _ _ _ _ _ _ (heap_alloc_new w _)]; rfl
theorem lit_old (w : World) (v : Value) (t : TypeId) (o : Obj) : ((w.alloc (.cells #[v] t)).alloc o).cell? ⟨w.heap.size, 0, none⟩ = some v :=
 ((new_val (w.alloc (.cells #[v] t)) o).cell (p := ⟨w.heap.size, 0, none⟩) (by simp)).trans (lit_new w v t)
theorem lit_newD (w : World) (v : Value) (t : TypeId) (g : Nat) (hg : g = w.heap.size) : (w.alloc (.cells #[v] t)).drew.cell? ⟨g, 0, none⟩ = some v := by
 subst hg
 exact lit_new w v t
theorem lit_oldD (w : World) (v : Value) (t : TypeId) (o : Obj) (g : Nat) (hg : g = w.heap.size) : ((w.alloc (.cells #[v] t)).alloc o).drew.cell? ⟨g, 0, none⟩ = some v := by
 subst hg
 exact lit_old w v t o
theorem RepAt.costs {W : World} {h : Nat} {x : Int} {n : Nat} (H : RepAt W h x n n) : ∃ cur, W.heap[h]? = some (.cells cur 2 (0, 0)) ∧ cur.size = n ∧ ∀ i, i < n → cur[i]? = some (.int .i64 x) :=
 ⟨_, H, by simp [RepL], fun i hi => by simp [RepL, hi]⟩
theorem count_exact (l : List Nat) (w : World) (P : Nat) (h6 : l.length ≤ 6) (h32 : ∀ n ∈ l, n ≤ 32) (hP : prodL l = P) :
  Calls Tryz.prog 147 #[shV l] w fun e w' => e = .returned (.int .i64 (P : Int)) ∧ w' = w.alloc (shO l) := by
 subst hP
 exact count_any_ShA l w h6 h32
end Go.Proofs.YtmokogkndbinlaaGreatDoor
