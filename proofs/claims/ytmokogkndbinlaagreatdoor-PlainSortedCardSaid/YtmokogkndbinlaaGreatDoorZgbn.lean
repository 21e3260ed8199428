import Derived.Test.YtmokogkndbinlaaGreatDoorZgbm
set_option linter.all false
namespace Go.Proofs.YtmokogkndbinlaaGreatDoor
open Go.Lib (hid)
open Go.RowKit
structure DrV where
 l : Value
 en : Int
 ee : Int
 bad : Int
 badAt : Int
 big : Int
 bigAt : Int
 lines : Int
 shared : Value
def drC (v : DrV) : Array Value := #[v.l, .int .i64 v.en, .int .i64 v.ee, .int .i64 v.bad, .int .i64 v.badAt, .int .i64 v.big, .int .i64 v.bigAt, .int .i64 v.lines, v.shared]
def DrAt (W : World) (b : Nat) (v : DrV) : Prop := W.heap[b]? = some (.cells (drC v) 171 (0, 0))
theorem DrAt.lt {W : World} {b : Nat} {v : DrV} (h : DrAt W b v) : b < W.heap.size := (Array.getElem?_eq_some_iff.1 h).1
theorem DrAt.cell {W : World} {b : Nat} {v : DrV} (h : DrAt W b v) {i : Nat} {u : Value} (hi : (drC v)[i]? = some u) : W.cell? ⟨b, i, none⟩ = some u := by rw [cell_of_row _ _ _ _ _ _ h]; exact hi
theorem DrAt.frozen {W : World} {b : Nat} {v : DrV} (h : DrAt W b v) (i : Nat) : W.frozen? ⟨b, i, none⟩ = false := frozen_of_row _ _ _ _ _ h
abbrev Gr (W W' : World) (b : Nat) : Prop := W.grownBy W' (some b)
theorem Gr.refl (W : World) (b : Nat) : Gr W W b := ⟨rfl, rfl, rfl, Nat.le_refl _, fun _ _ _ => rfl⟩
theorem Gr.trans {X Y Z : World} {b : Nat} (h : Gr X Y b) (k : Gr Y Z b) : Gr X Z b := sgrown_then h k
def wrV (e p : Int) (v : DrV) : DrV := if v.bad = 0 then { v with bad := e, badAt := p } else v
def lgV (is : Bool) (p : Int) (v : DrV) : DrV := if is = true ∧ v.big = 0 ∧ v.bad = 0 then { v with big := 5, bigAt := p } else v
theorem wrong7 (b : Nat) (e p : Int) (v : DrV) (w : World) (h : DrAt w b v) :
  Calls Tryz.prog 115 #[.pointer (some ⟨b, 0, none⟩), .int .i64 e, .int .i64 p] w fun e' w' => (∃ u, e' = .returned u) ∧ DrAt w' b (wrV e p v) ∧ Gr w w' b := by
 have HH := hid h
 have c3 : w.cell? ⟨b, 3, none⟩ = some (.int .i64 v.bad) := h.cell (i := 3) rfl
 have c4 : w.cell? ⟨b, 4, none⟩ = some (.int .i64 v.badAt) := h.cell (i := 4) rfl
 have f3 := h.frozen 3
 have f4 := h.frozen 4
 clear h
 by_cases hb : v.bad = 0
 ·have d : (v.bad == 0) = true := by simpa using hb
  have HB := hid hb
  clear hb
  go_enter Tryz.func115, Tryz.ntmps115
  go_wp2_with fail
  go_end0
  refine ⟨⟨_, rfl⟩, ?_, (grown_put w b 3 (.int .i64 e)).trans (grown_put (w.setCell ⟨b, 3, none⟩ (.int .i64 e)) b 4 (.int .i64 p))⟩
  have r1 := heap_setCell_same w b 3 _ _ (.int .i64 e) HH.out
  have r2 := heap_setCell_same (w.setCell ⟨b, 3, none⟩ (.int .i64 e)) b 4 _ _ (.int .i64 p) r1
  unfold wrV
  rw [if_pos HB.out]
  exact r2
 have d : (v.bad == 0) = false := by simpa using hb
 have HB := hid hb
 clear hb
 go_enter Tryz.func115, Tryz.ntmps115
 go_wp2_with fail
 go_end0
 refine ⟨⟨_, rfl⟩, ?_, Gr.refl _ _⟩
 unfold wrV
 rw [if_neg HB.out]
 exact HH.out
theorem large7 (b : Nat) (is : Bool) (p : Int) (v : DrV) (w : World) (h : DrAt w b v) :
  Calls Tryz.prog 112 #[.pointer (some ⟨b, 0, none⟩), .bool is, .int .i64 p] w fun e' w' => (∃ u, e' = .returned u) ∧ DrAt w' b (lgV is p v) ∧ Gr w w' b := by
 have HH := hid h
 have c3 : w.cell? ⟨b, 3, none⟩ = some (.int .i64 v.bad) := h.cell (i := 3) rfl
 have c5 : w.cell? ⟨b, 5, none⟩ = some (.int .i64 v.big) := h.cell (i := 5) rfl
 have f5 := h.frozen 5
 have f6 := h.frozen 6
 have c6 : w.cell? ⟨b, 6, none⟩ = some (.int .i64 v.bigAt) := h.cell (i := 6) rfl
 clear h
 cases is with
 | false =>
  go_enter Tryz.func112, Tryz.ntmps112
  go_wp2_with fail
  go_end0
  refine ⟨⟨_, rfl⟩, ?_, Gr.refl _ _⟩
  unfold lgV
  rw [if_neg (by simp)]
  exact HH.out
 | true =>
  by_cases hg : v.big = 0
  ·have d : (v.big == 0) = true := by simpa using hg
   have HG := hid hg
   clear hg
   by_cases hb : v.bad = 0
   ·have d : (v.bad == 0) = true := by simpa using hb
    have HB := hid hb
    clear hb
    go_enter Tryz.func112, Tryz.ntmps112
    go_wp2_with fail
    go_end0
    refine ⟨⟨_, rfl⟩, ?_, (grown_put w b 5 (.int .i64 5)).trans (grown_put (w.setCell ⟨b, 5, none⟩ (.int .i64 5)) b 6 (.int .i64 p))⟩
    have r1 := heap_setCell_same w b 5 _ _ (.int .i64 5) HH.out
    have r2 := heap_setCell_same (w.setCell ⟨b, 5, none⟩ (.int .i64 5)) b 6 _ _ (.int .i64 p) r1
    unfold lgV
    rw [if_pos ⟨rfl, HG.out, HB.out⟩]
    exact r2
   have d : (v.bad == 0) = false := by simpa using hb
   have HB := hid hb
   clear hb
   go_enter Tryz.func112, Tryz.ntmps112
   go_wp2_with fail
   go_end0
   refine ⟨⟨_, rfl⟩, ?_, Gr.refl _ _⟩
   unfold lgV
   rw [if_neg (by have := HB.out; simp [this])]
   exact HH.out
  have d : (v.big == 0) = false := by simpa using hg
  have HG := hid hg
  clear hg
  go_enter Tryz.func112, Tryz.ntmps112
  go_wp2_with fail
  go_end0
  refine ⟨⟨_, rfl⟩, ?_, Gr.refl _ _⟩
  unfold lgV
  rw [if_neg (by have := HG.out; simp [this])]
  exact HH.out
def WL (W : World) (b : Nat) (v : Value) (s : ByteArray) (ws : List (Nat × Nat)) : Prop :=
 ∃ A c, v = .slice A ws.length c ∧ ws.length ≤ c ∧ (ws = [] ∨ ∃ g o cur fr, A = some ⟨g, o, none⟩ ∧ W.heap[g]? = some (.cells cur 173 fr) ∧ g ≠ b ∧
  ∀ j x, ws[j]? = some x → W.cell? ⟨g, o + j * 2, none⟩ = some (.string (s.extract x.1 x.2)) ∧ W.cell? ⟨g, o + j * 2 + 1, none⟩ = some (.int .i64 (x.1 : Int)))
structure KeepD (W W' : World) : Prop where
 word : ∀ (g : Nat) (cur : Array Value) (fr : Nat × Nat), W.heap[g]? = some (.cells cur 173 fr) → W'.heap[g]? = W.heap[g]?
 ints : ∀ (g : Nat) (cur : Array Value) (fr : Nat × Nat), W.heap[g]? = some (.cells cur 2 fr) → W'.heap[g]? = W.heap[g]?
 line : ∀ (g : Nat) (cur : Array Value) (fr : Nat × Nat), W.heap[g]? = some (.cells cur 117 fr) → W'.heap[g]? = W.heap[g]?
theorem KeepD.trans {X Y Z : World} (h : KeepD X Y) (k : KeepD Y Z) : KeepD X Z :=
 ⟨fun g cur fr e => (k.word g cur fr ((h.word g cur fr e).trans e)).trans (h.word g cur fr e), fun g cur fr e => (k.ints g cur fr ((h.ints g cur fr e).trans e)).trans (h.ints g cur fr e), fun g cur fr e => (k.line g cur fr ((h.line g cur fr e).trans e)).trans (h.line g cur fr e)⟩
theorem KeepD.below {W W' : World} (h : Below W.heap.size W W') : KeepD W W' :=
 ⟨fun g _ _ e => h.block g (Array.getElem?_eq_some_iff.1 e).1, fun g _ _ e => h.block g (Array.getElem?_eq_some_iff.1 e).1, fun g _ _ e => h.block g (Array.getElem?_eq_some_iff.1 e).1⟩
theorem KeepD.typed {W W' : World} {p : Option Nat} {t : TypeId} (hg : W.grownBy W' p) (hp : ∀ g, p = some g → ∃ cur fr, W.heap[g]? = some (.cells cur t fr)) (h1 : t ≠ 173) (h2 : t ≠ 2) (h3 : t ≠ 117) : KeepD W W' := by
 have key : ∀ (g : Nat) (cur : Array Value) (t' : TypeId) (fr : Nat × Nat), t ≠ t' → W.heap[g]? = some (.cells cur t' fr) → W'.heap[g]? = W.heap[g]? := fun g cur t' fr hne h => by
  refine hg.block g (Array.getElem?_eq_some_iff.1 h).1 (fun e => ?_)
  obtain ⟨cur', fr', h3⟩ := hp g e.symm
  rw [h] at h3
  injection h3 with h3
  injection h3 with _ h4
  exact hne h4.symm
 exact ⟨fun g cur fr => key g cur _ fr h1, fun g cur fr => key g cur _ fr h2, fun g cur fr => key g cur _ fr h3⟩
theorem KeepD.dr {W W' : World} {b : Nat} {v : DrV} (h : DrAt W b v) (hg : Gr W W' b) : KeepD W W' :=
 KeepD.typed hg (fun g e => by injection e with e; subst e; exact ⟨_, _, h⟩) (by decide) (by decide) (by decide)
theorem WL.keep {W W' : World} {b : Nat} {v : Value} {s : ByteArray} {ws : List (Nat × Nat)} (h : WL W b v s ws) (hk : KeepD W W') : WL W' b v s ws := by
 obtain ⟨A, c, e, hc, h⟩ := h
 refine ⟨A, c, e, hc, ?_⟩
 rcases h with h | ⟨g, o, cur, fr, e2, h1, h2, h3⟩
 ·exact .inl h
 have := hk.word g cur fr h1
 exact .inr ⟨g, o, cur, fr, e2, this.trans h1, h2, fun j x hx => ⟨(World.cell?_of_block (a := ⟨g, o + j * 2, none⟩) this).trans (h3 j x hx).1, (World.cell?_of_block (a := ⟨g, o + j * 2 + 1, none⟩) this).trans (h3 j x hx).2⟩⟩
def BigD (v : DrV) : Option Nat → Prop
 | none => v.big = 0
 | some p => v.big = 5 ∧ v.bigAt = (p : Int)
def EndD (v : DrV) (n : Nat) : Option Nat → Prop
 | none => v.en = (n : Int) ∧ v.ee = 4
 | some p => v.en = (p : Int) ∧ v.ee = 11
structure DrOk (W : World) (b : Nat) (s : ByteArray) (st : RdS) (v : DrV) : Prop where
 at_ : DrAt W b v
 fine : v.bad = 0
 le : st.k ≤ s.size
 fits : s.size ≤ 100000
 big : BigD v st.big
 words : WL W b v.l s (wordsL s.data.toList st.k).1
 fin : EndD v s.size (wordsL s.data.toList st.k).2
structure DrBad (W : World) (b : Nat) (e p : Nat) (v : DrV) : Prop where
 at_ : DrAt W b v
 fe : v.bad = (e : Int)
 fp : v.badAt = (p : Int)
 ne : e ≠ 0
theorem DrBad.bad {W : World} {b e p : Nat} {v : DrV} (h : DrBad W b e p v) : ¬ v.bad = 0 := by have := h.fe; have := h.ne; omega
theorem WL.tail {W : World} {b : Nat} {s : ByteArray} {x : Nat × Nat} {ws : List (Nat × Nat)} {A : Option Addr} {n c : Nat} (h : WL W b (.slice A (n + 1) c) s (x :: ws)) (hn : ws.length = n) :
  ∃ g o, A = some ⟨g, o, none⟩ ∧ g ≠ b ∧ g < W.heap.size ∧ n + 1 ≤ c ∧ W.cell? ⟨g, o, none⟩ = some (.string (s.extract x.1 x.2)) ∧ W.cell? ⟨g, o + 1, none⟩ = some (.int .i64 (x.1 : Int)) ∧
   ∀ A', (ws ≠ [] → A' = some ⟨g, o + 2, none⟩) → WL W b (.slice A' n (c - 1)) s ws := by
 obtain ⟨A0, c0, e, hc, h⟩ := h
 injection e with e1 e2 e3
 subst e1 e3
 simp only [List.length_cons] at hc
 rcases h with h | ⟨g, o, cur, fr, rfl, hg, hne, hx⟩
 ·cases h
 have h0 := hx 0 x rfl
 simp only [Nat.zero_mul, Nat.add_zero] at h0
 refine ⟨g, o, rfl, hne, (Array.getElem?_eq_some_iff.1 hg).1, by omega, h0.1, h0.2, fun A' hA => ⟨A', c - 1, by rw [hn], by omega, ?_⟩⟩
 rcases ws with _ | ⟨y, ws⟩
 ·exact .inl rfl
 refine .inr ⟨g, o + 2, cur, fr, hA (by simp), hg, hne, fun j z hz => ?_⟩
 have := hx (j + 1) z (by simpa using hz)
 rw [show o + 2 + j * 2 = o + (j + 1) * 2 by omega]
 exact this
theorem DrAt.put {W : World} {b : Nat} {v v' : DrV} (h : DrAt W b v) (i : Nat) (u : Value) (e : (drC v).setIfInBounds i u = drC v') : DrAt (W.setCell ⟨b, i, none⟩ u) b v' := by
 have := heap_setCell_same W b i _ _ u h
 rw [e] at this
 exact this
theorem wrV_fine {e p : Int} {v : DrV} (h : v.bad = 0) : wrV e p v = { v with bad := e, badAt := p } := by unfold wrV; rw [if_pos h]
theorem wrV_bad {e p : Int} {v : DrV} (h : ¬ v.bad = 0) : wrV e p v = v := by unfold wrV; rw [if_neg h]
theorem growRow (W : World) (b : Nat) (cs : Array Value) : W.grownBy (W.setRow b cs) (some b) := ⟨rfl, rfl, rfl, by simp, fun k _ hk => setRow_other W b k cs (fun e => hk (by rw [e]))⟩
theorem Gr.drewN {X Y : World} {b : Nat} (h : Gr X Y b) (n : Nat) : Gr X (Y.drewN n) b := ⟨h.os, h.tape, h.output, h.size, h.block⟩
theorem Gr.drew {X Y : World} {b : Nat} (h : Gr X Y b) : Gr X Y.drew b := ⟨h.os, h.tape, h.output, h.size, h.block⟩
theorem Gr.fresh {X Y Z : World} {b g : Nat} (h : Gr X Y b) (k : Gr Y Z g) (hg : X.heap.size ≤ g) : Gr X Z b :=
 ⟨k.os.trans h.os, k.tape.trans h.tape, k.output.trans h.output, Nat.le_trans h.size k.size, fun j hj hne => (k.block j (Nat.lt_of_lt_of_le hj h.size) (fun e => by injection e with e; omega)).trans (h.block j hj hne)⟩
theorem Gr.below {X Y : World} {b : Nat} (h : Below X.heap.size X Y) : Gr X Y b := ⟨h.os, h.tape, h.output, h.size, fun k hk _ => h.block k hk⟩
theorem results_w {fn : Func} {p : Tmp} (h : fn.results = #[.cell p 173]) (tmps : Array Value) (w : World) (g : Nat) (a b : Value) (hp : tmps.getD p undef = .pointer (some ⟨g, 0, none⟩))
  (hg : w.heap[g]? = some (.cells #[a, b] 173 (0, 0))) : (results fn tmps).run Tryz.prog w = .ok (.agg #[a, b]) w := by
 have c0 : w.cell? ⟨g, 0, none⟩ = some a := by rw [cell_of_row _ _ _ _ _ _ hg]; rfl
 have c1 : w.cell? ⟨g, 1, none⟩ = some b := by rw [cell_of_row _ _ _ _ _ _ hg]; rfl
 have hp' : tmps[p]?.getD undef = .pointer (some ⟨g, 0, none⟩) := by simpa using hp
 simp [results, h, hp', go_sem, c0, c1]
set_option maxRecDepth 100000 in
set_option maxHeartbeats 1000000 in
theorem word7_still (b e p : Nat) (v : DrV) (w : World) (h : DrBad w b e p v) :
  Calls Tryz.prog 111 #[.pointer (some ⟨b, 0, none⟩)] w fun e' w' => e' = .returned (.agg #[.string ⟨#[]⟩, .int .i64 0]) ∧ Below w.heap.size w w' := by
 have c3 : w.cell? ⟨b, 3, none⟩ = some (.int .i64 v.bad) := h.at_.cell (i := 3) rfl
 have d : (v.bad == 0) = false := by have := h.bad; simpa using this
 have hl := h.at_.lt
 clear h
 go_enter Tryz.func111, Tryz.ntmps111
 go_wp2_with fail
 exact bodyPost_ret (results_w rfl _ _ w.heap.size _ _ rfl (heap_alloc_new _ _)) rfl ⟨rfl, new_val _ _⟩
set_option maxRecDepth 100000 in
set_option maxHeartbeats 1000000 in
theorem word7_none (b : Nat) (s : ByteArray) (v : DrV) (w : World) (hat : DrAt w b v) (hf : v.bad = 0) (hw : WL w b v.l s []) :
  Calls Tryz.prog 111 #[.pointer (some ⟨b, 0, none⟩)] w fun e' w' => e' = .returned (.agg #[.string ⟨#[]⟩, .int .i64 0]) ∧ DrAt w' b { v with bad := v.ee, badAt := v.en } ∧ Gr w w' b := by
 obtain ⟨A, c, hl, -, -⟩ := hw
 have hn := new_val w (.cells #[.string ⟨#[]⟩, .int .i64 0] 173)
 have a1 : DrAt (w.alloc (.cells #[.string ⟨#[]⟩, .int .i64 0] 173)) b v := (hn.block b hat.lt).trans hat
 have n1 := heap_alloc_new w (.cells #[.string ⟨#[]⟩, .int .i64 0] 173)
 have LT := hid hat.lt
 have HN := hid hn
 have A1 := hid a1
 have N1 := hid n1
 have HF := hid hf
 have G1 : Hid (Gr w (w.alloc (.cells #[.string ⟨#[]⟩, .int .i64 0] 173)) b) := hid ⟨rfl, rfl, rfl, hn.size, fun k hk _ => hn.block k hk⟩
 have c3 : w.cell? ⟨b, 3, none⟩ = some (.int .i64 v.bad) := hat.cell (i := 3) rfl
 have c0 : w.cell? ⟨b, 0, none⟩ = some (.slice A 0 c) := hl ▸ hat.cell (i := 0) rfl
 have c1 : w.cell? ⟨b, 1, none⟩ = some (.int .i64 v.en) := hat.cell (i := 1) rfl
 have c2 : w.cell? ⟨b, 2, none⟩ = some (.int .i64 v.ee) := hat.cell (i := 2) rfl
 have hbs := hat.lt
 rw [hf] at c3
 clear hf hat a1 n1 hn hl
 go_enter Tryz.func111, Tryz.ntmps111
 go_upto_region 4 with fail
 have q1 : (w.alloc (.cells #[.string ⟨#[]⟩, .int .i64 0] 173)).cell? ⟨b, 1, none⟩ = some (.int .i64 v.en) := A1.out.cell (i := 1) rfl
 have q2 : (w.alloc (.cells #[.string ⟨#[]⟩, .int .i64 0] 173)).cell? ⟨b, 2, none⟩ = some (.int .i64 v.ee) := A1.out.cell (i := 2) rfl
 clear c0 c1 c2 c3 HN
 change Code.wp _ _ _ _ (w.alloc (.cells #[.string ⟨#[]⟩, .int .i64 0] 173))
 generalize w.alloc (.cells #[.string ⟨#[]⟩, .int .i64 0] 173) = w1 at A1 N1 G1 q1 q2 ⊢
 have WR4 := hid (wrong7 b v.ee v.en v w1.drew A1.out)
 go_still_tail 9, (by kernel_rfl)
 change wpList _ _ _ _ _ w1.drew
 go_wp2_with (first
  | (go_at_call 115; refine WR4.out.mono ?_; rintro e w' ⟨⟨_, rfl⟩, hd, hg⟩; have N2 := hid ((hg.block w.heap.size (Array.getElem?_eq_some_iff.1 N1.out).1 (fun e => by injection e with e; have := LT.out; omega)).trans N1.out); have f0 := frozen_of_row w' w.heap.size 0 _ _ N2.out; have f1 := frozen_of_row w' w.heap.size 1 _ _ N2.out; replace hd := hid hd; replace hg := hid hg)
  | ((with_reducible show wpList _ _ _ (Oper.mk none (.store 173 _ _) _ _ _ _ :: _) _ _); refine wpList_store_row rfl 173 (.tmp 2) (.tmp 26) rfl w.heap.size #[.string ⟨#[]⟩, .int .i64 0] rfl rfl 173 #[.string ⟨#[]⟩, .int .i64 0] N2.out (by kernel_rfl) rfl (by simp [Value.oneCell']) ?_)
  | fail)
 have g2 := growRow w' w.heap.size #[.string ⟨#[]⟩, .int .i64 0]
 refine bodyPost_ret (results_w rfl _ _ w.heap.size _ _ rfl (setRow_heap _ w.heap.size _ _ _ _ N2.out)) rfl ⟨rfl, ?_, (G1.out.drew.trans hg.out).fresh g2 (Nat.le_refl _)⟩
 have := hd.out
 rw [wrV_fine HF.out] at this
 exact (g2.block b this.lt (fun e => by injection e with e; have := LT.out; omega)).trans this
theorem word7_res {n0 : Nat} (W : World) (o1 : Obj) (a c : Value) (hg : W.heap.size = n0) : ((W.alloc (.cells #[a, c] 173)).alloc o1).heap[n0]? = some (.cells #[a, c] 173 (0, 0)) := by
 have h1 := heap_alloc_new W (.cells #[a, c] 173)
 rw [← hg]
 exact ((new_val _ o1).block _ (Array.getElem?_eq_some_iff.1 h1).1).trans h1
theorem word7_end {X : World} {b : Nat} {v : DrV} (hat : DrAt X b v) (lv : Value) (o1 o2 : Obj) :
  DrAt (((X.setCell ⟨b, 0, none⟩ lv).alloc o1).alloc o2) b { v with l := lv } ∧ Gr X (((X.setCell ⟨b, 0, none⟩ lv).alloc o1).alloc o2) b := by
 have a1 : DrAt (X.setCell ⟨b, 0, none⟩ lv) b { v with l := lv } := hat.put 0 lv rfl
 have g1 : Gr X (X.setCell ⟨b, 0, none⟩ lv) b := grown_put X b 0 lv
 have n1 := then_ (new_val (X.setCell ⟨b, 0, none⟩ lv) o1) (new_val ((X.setCell ⟨b, 0, none⟩ lv).alloc o1) o2)
 exact ⟨(n1.block b a1.lt).trans a1, g1.trans (Gr.below n1)⟩
set_option maxRecDepth 100000 in
set_option maxHeartbeats 1000000 in
theorem word7_some (b : Nat) (s : ByteArray) (v : DrV) (w : World) (x : Nat × Nat) (ws : List (Nat × Nat)) (hat : DrAt w b v) (hf : v.bad = 0) (hw : WL w b v.l s (x :: ws)) :
  ∃ lv, WL w b lv s ws ∧ Calls Tryz.prog 111 #[.pointer (some ⟨b, 0, none⟩)] w fun e' w' => e' = .returned (.agg #[.string (s.extract x.1 x.2), .int .i64 (x.1 : Int)]) ∧ DrAt w' b { v with l := lv } ∧ Gr w w' b := by
 obtain ⟨n, hn⟩ : ∃ n, ws.length = n := ⟨_, rfl⟩
 obtain ⟨A, c, hl, hcl, -⟩ := id hw
 rw [List.length_cons, hn] at hl
 rw [hl] at hw
 obtain ⟨g, o, rfl, hgb, hgl, hnc, k0, k1, hT⟩ := hw.tail hn
 have hN := new_val w (.cells #[.string ⟨#[]⟩, .int .i64 0] 173)
 have HT := hid hT
 have HN := hid hN
 have LT := hid hat.lt
 have c3 : w.cell? ⟨b, 3, none⟩ = some (.int .i64 v.bad) := hat.cell (i := 3) rfl
 have c0 : w.cell? ⟨b, 0, none⟩ = some (.slice (some ⟨g, o, none⟩) (n + 1) c) := hl ▸ hat.cell (i := 0) rfl
 have f0 := hat.frozen 0
 have hbs := hat.lt
 rw [hf] at c3
 have AT := hid hat
 refine ⟨if c = 1 then .slice (some ⟨g, o, none⟩) n 0 else .slice (some ⟨g, o + 2, none⟩) n (c - 1), ?_, ?_⟩
 ·split
  ·rename_i hc1
   have := hT (some ⟨g, o, none⟩) (fun h => absurd (List.eq_nil_of_length_eq_zero (by omega)) h)
   rw [hc1] at this
   exact this
  exact hT _ (fun h => rfl)
 clear hf hat hN hl hT hw hn hcl
 go_enter Tryz.func111, Tryz.ntmps111
 go_wp2_with fail
 ·
  exact bodyPost_ret (results_w rfl _ _ w.heap.size _ _ rfl (word7_res _ _ _ _ (by simp))) rfl ⟨rfl, word7_end (X := w) AT.out _ _ _⟩
 ·
  exact bodyPost_ret (results_w rfl _ _ w.heap.size _ _ rfl (word7_res _ _ _ _ (by simp))) rfl ⟨rfl, word7_end (X := w) AT.out _ _ _⟩
def NumD (s : ByteArray) (b : Nat) (lo hi : Int) (st : RdS) (v' : DrV) (n : Int) (p : Nat) (W : World) : Prop :=
 (∃ st', numM s.data.toList lo hi st = .ok (n, p) st' ∧ DrOk W b s st' v') ∨ ∃ e q, numM s.data.toList lo hi st = .bad e q ∧ DrBad W b e q v' ∧ n = 0
structure DrNear (v v' : DrV) : Prop where
 shared : v'.shared = v.shared
 lines : v'.lines = v.lines
theorem DrNear.refl (v : DrV) : DrNear v v := ⟨rfl, rfl⟩
theorem DrNear.trans {v v' v'' : DrV} (h : DrNear v v') (k : DrNear v' v'') : DrNear v v'' := ⟨k.shared.trans h.shared, k.lines.trans h.lines⟩
theorem DrNear.lg (v : DrV) (is : Bool) (p : Int) : DrNear v (lgV is p v) := by unfold lgV; split <;> exact ⟨rfl, rfl⟩
set_option maxRecDepth 100000 in
set_option maxHeartbeats 2000000 in
theorem num7_good (b : Nat) (S : ByteArray) (p : Nat) (lo hi : Int) (v1 : DrV) (w : World) (hlt : b < w.heap.size) (hS : S.size ≤ 1000000) (P : World → Prop) (hP : ∀ X Y, P X → Gr X Y b → DrAt Y b v1 → P Y)
  (WD : Calls Tryz.prog 111 #[.pointer (some ⟨b, 0, none⟩)] w fun e' w' => e' = .returned (.agg #[.string S, .int .i64 (p : Int)]) ∧ DrAt w' b v1 ∧ Gr w w' b ∧ P w')
  (h0 : v1.bad = 0) (he : readE S.data.toList = 0) (h1 : lo ≤ readV S.data.toList) (h2 : readV S.data.toList ≤ hi) :
  Calls Tryz.prog 113 #[.pointer (some ⟨b, 0, none⟩), .int .i64 lo, .int .i64 hi] w fun e' w' => e' = .returned (.tuple #[.int .i64 (readV S.data.toList), .int .i64 (p : Int)]) ∧ DrAt w' b v1 ∧ Gr w w' b ∧ P w' := by
 have RR := hid (fun W => rread_any S W hS)
 rw [he] at RR
 obtain ⟨z, hz⟩ : ∃ z, readV S.data.toList = z := ⟨_, rfl⟩
 rw [hz] at h1 h2 RR ⊢
 have d1 : decide (z < lo) = false := decide_eq_false (by omega)
 have d2 : decide (hi < z) = false := decide_eq_false (by omega)
 have WD := hid WD
 have H0 := hid h0
 have HP := hid hP
 have HL := hid hlt
 clear hS hP h0 he h1 h2 hz hlt
 go_enter Tryz.func113, Tryz.ntmps113
 go_upto_region 2 with (first
  | (go_at_call 111; refine WD.out.mono ?_; rintro e w1 ⟨rfl, ha, hg, hp⟩; have c3 : w1.cell? ⟨b, 3, none⟩ = some (.int .i64 v1.bad) := ha.cell (i := 3) rfl; rw [H0.out] at c3; have hbl := ha.lt; have HA := hid ha; have HG := hid hg; have HPP := hid hp; clear ha hg hp)
  | fail)
 go_wp2_with (first
  | (go_at_call 154; refine (RR.out _).mono ?_; rintro e w2 ⟨rfl, rfl⟩)
  | fail)
 have hn := new_val w1 (.cells #[.string S, .int .i64 (p : Int)] 173)
 have q1 : (w1.alloc (.cells #[.string S, .int .i64 (p : Int)] 173)).cell? ⟨w1.heap.size, 1, none⟩ = some (.int .i64 (p : Int)) := by rw [cell_of_row _ _ _ _ _ _ (heap_alloc_new w1 _)]; rfl
 have FIN : Hid (DrAt (w1.alloc (.cells #[.string S, .int .i64 (p : Int)] 173)) b v1 ∧ Gr w (w1.alloc (.cells #[.string S, .int .i64 (p : Int)] 173)) b ∧ P (w1.alloc (.cells #[.string S, .int .i64 (p : Int)] 173))) :=
  hid ⟨(hn.block b HA.out.lt).trans HA.out, HG.out.trans (Gr.below hn), HP.out _ _ HPP.out (Gr.below (b := b) hn) ((hn.block b HA.out.lt).trans HA.out)⟩
 clear hn c3 hbl HA HG HPP WD RR d1 d2
 change Code.wp _ _ _ _ (w1.alloc (.cells #[.string S, .int .i64 (p : Int)] 173))
 generalize w1.alloc (.cells #[.string S, .int .i64 (p : Int)] 173) = w2 at q1 FIN ⊢
 go_quiet (fail)
 go_wp2_with fail
 go_ret2
 exact ⟨rfl, FIN.out.1, FIN.out.2.1.drewN _, HP.out _ _ FIN.out.2.2 ((Gr.refl _ _).drewN _) FIN.out.1⟩
set_option maxRecDepth 100000 in
set_option maxHeartbeats 2000000 in
theorem num7_bad (b : Nat) (S : ByteArray) (p : Int) (lo hi : Int) (v1 : DrV) (w : World) (hlt : b < w.heap.size) (hS : S.size ≤ 1000000)
  (WD : Calls Tryz.prog 111 #[.pointer (some ⟨b, 0, none⟩)] w fun e' w' => e' = .returned (.agg #[.string S, .int .i64 p]) ∧ DrAt w' b v1 ∧ Gr w w' b)
  (h0 : v1.bad = 0) (hno : ¬ (readE S.data.toList = 0 ∧ lo ≤ readV S.data.toList ∧ readV S.data.toList ≤ hi)) :
  Calls Tryz.prog 113 #[.pointer (some ⟨b, 0, none⟩), .int .i64 lo, .int .i64 hi] w fun e' w' => e' = .returned (.tuple #[.int .i64 0, .int .i64 0]) ∧ DrAt w' b { v1 with bad := 4, badAt := p } ∧ Gr w w' b := by
 have RR := hid (fun W => rread_any S W hS)
 obtain ⟨z, hz⟩ : ∃ z, readV S.data.toList = z := ⟨_, rfl⟩
 obtain ⟨y, hy⟩ : ∃ y, readE S.data.toList = y := ⟨_, rfl⟩
 rw [hz, hy] at hno RR
 have WD := hid WD
 have H0 := hid h0
 have HL := hid hlt
 clear hS h0 hz hlt hy
 have key : ∀ (d1 : (y != 0) = true ∨ ((y != 0) = false ∧ decide (z < lo) = true) ∨ ((y != 0) = false ∧ decide (z < lo) = false ∧ decide (hi < z) = true)), Calls Tryz.prog 113 #[.pointer (some ⟨b, 0, none⟩), .int .i64 lo, .int .i64 hi] w fun e' w' => e' = .returned (.tuple #[.int .i64 0, .int .i64 0]) ∧ DrAt w' b { v1 with bad := 4, badAt := p } ∧ Gr w w' b := by
  intro hd
  clear hno
  rcases hd with d1 | ⟨d0, d1⟩ | ⟨d0, d1, d2⟩
  all_goals
   go_enter Tryz.func113, Tryz.ntmps113
   go_upto_region 2 with (first
    | (go_at_call 111; refine WD.out.mono ?_; rintro e w1 ⟨rfl, ha, hg⟩; have hn := new_val w1 (.cells #[.string S, .int .i64 p] 173); have q1 : (w1.alloc (.cells #[.string S, .int .i64 p] 173)).cell? ⟨w1.heap.size, 1, none⟩ = some (.int .i64 p) := (by (rw [cell_of_row _ _ _ _ _ _ (heap_alloc_new w1 _)]; rfl)); have q0 : (w1.alloc (.cells #[.string S, .int .i64 p] 173)).cell? ⟨w1.heap.size, 0, none⟩ = some (.string S) := (by (rw [cell_of_row _ _ _ _ _ _ (heap_alloc_new w1 _)]; rfl)); have A2 : Hid (DrAt (w1.alloc (.cells #[.string S, .int .i64 p] 173)) b v1) := hid ((hn.block b ha.lt).trans ha); have c3 : (w1.alloc (.cells #[.string S, .int .i64 p] 173)).cell? ⟨b, 3, none⟩ = some (.int .i64 v1.bad) := A2.out.cell (i := 3) rfl; rw [H0.out] at c3; have G2 : Hid (Gr w (w1.alloc (.cells #[.string S, .int .i64 p] 173)) b) := hid (hg.trans (Gr.below hn)); have WR := hid (wrong7 b 4 p v1 _ A2.out); clear ha hg hn)
    | fail)
   change Code.wp _ _ _ _ (w1.alloc (.cells #[.string S, .int .i64 p] 173))
   generalize w1.alloc (.cells #[.string S, .int .i64 p] 173) = w2 at q0 q1 c3 A2 G2 WR ⊢
   go_wp2_with (first
    | (go_at_call 154; refine (RR.out _).mono ?_; rintro e w3 ⟨rfl, rfl⟩)
    | (go_at_call 115; refine WR.out.mono ?_; rintro e w3 ⟨⟨_, rfl⟩, ha, hg⟩; rw [wrV_fine H0.out] at ha; have c4 : w3.cell? ⟨b, 3, none⟩ = some (.int .i64 4) := ha.cell (i := 3) rfl; replace ha := hid ha; replace hg := hid hg)
    | fail)
   go_ret2
   exact ⟨rfl, ha.out, G2.out.trans hg.out⟩
 refine key ?_
 by_cases hy : y = 0
 ·subst hy
  by_cases h1 : z < lo
  ·exact .inr (.inl ⟨rfl, decide_eq_true h1⟩)
  exact .inr (.inr ⟨rfl, decide_eq_false h1, decide_eq_true (by omega)⟩)
 exact .inl (by simpa using hy)
set_option maxRecDepth 100000 in
set_option maxHeartbeats 2000000 in
theorem num7_still (b : Nat) (S : ByteArray) (p : Int) (lo hi : Int) (v1 : DrV) (w : World) (hlt : b < w.heap.size) (hS : S.size ≤ 1000000)
  (WD : Calls Tryz.prog 111 #[.pointer (some ⟨b, 0, none⟩)] w fun e' w' => e' = .returned (.agg #[.string S, .int .i64 p]) ∧ DrAt w' b v1 ∧ Gr w w' b)
  (h0 : ¬ v1.bad = 0) :
  Calls Tryz.prog 113 #[.pointer (some ⟨b, 0, none⟩), .int .i64 lo, .int .i64 hi] w fun e' w' => e' = .returned (.tuple #[.int .i64 0, .int .i64 0]) ∧ DrAt w' b v1 ∧ Gr w w' b := by
 have RR := hid (fun W => rread_any S W hS)
 obtain ⟨z, hz⟩ : ∃ z, readV S.data.toList = z := ⟨_, rfl⟩
 obtain ⟨y, hy⟩ : ∃ y, readE S.data.toList = y := ⟨_, rfl⟩
 rw [hz, hy] at RR
 have WD := hid WD
 have d0 : (v1.bad == 0) = false := by simpa using h0
 have d1 : (v1.bad != 0) = true := by simpa using h0
 clear hS h0 hz hlt hy
 go_enter Tryz.func113, Tryz.ntmps113
 go_wp2_with (first
  | (go_at_call 111; refine WD.out.mono ?_; rintro e w1 ⟨rfl, ha, hg⟩; have c3 : w1.cell? ⟨b, 3, none⟩ = some (.int .i64 v1.bad) := ha.cell (i := 3) rfl; have hbl := ha.lt; have HA := hid ha; have HG := hid hg; clear ha hg)
  | (go_at_call 154; refine (RR.out _).mono ?_; rintro e w3 ⟨rfl, rfl⟩)
  | fail)
 go_ret2
 have hn := new_val w1 (.cells #[.string S, .int .i64 p] 173)
 exact ⟨rfl, (hn.block b HA.out.lt).trans HA.out, HG.out.trans (Gr.below hn)⟩
end Go.Proofs.YtmokogkndbinlaaGreatDoor
