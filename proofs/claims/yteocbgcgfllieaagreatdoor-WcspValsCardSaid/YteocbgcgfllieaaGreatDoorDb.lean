/- The document's reader: the next word, the next number (no statement of its own). -/
import Derived.Test.YteocbgcgfllieaaGreatDoorDa
namespace Go.Proofs.YteocbgcgfllieaaGreatDoor
open Go.RowKit
set_option linter.unusedVariables false
theorem WL.tail {W : World} {b : Nat} {s : ByteArray} {x : Nat × Nat} {ws : List (Nat × Nat)} {A : Option Addr} {n c : Nat} (h : WL W b (.slice A (n + 1) c) s (x :: ws)) (hn : ws.length = n) :
    ∃ g o, A = some ⟨g, o, none⟩ ∧ g ≠ b ∧ g < W.heap.size ∧ n + 1 ≤ c ∧ W.cell? ⟨g, o, none⟩ = some (.string (s.extract x.1 x.2)) ∧ W.cell? ⟨g, o + 1, none⟩ = some (.int .i64 (x.1 : Int)) ∧
      ∀ A', (ws ≠ [] → A' = some ⟨g, o + 2, none⟩) → WL W b (.slice A' n (c - 1)) s ws := by
  obtain ⟨A0, c0, e, hc, h⟩ := h
  injection e with e1 e2 e3
  subst e1 e3
  simp only [List.length_cons] at hc
  rcases h with h | ⟨g, o, cur, fr, rfl, hg, hne, hx⟩
  · cases h
  · have h0 := hx 0 x rfl
    simp only [Nat.zero_mul, Nat.add_zero] at h0
    refine ⟨g, o, rfl, hne, (Array.getElem?_eq_some_iff.1 hg).1, by omega, h0.1, h0.2, fun A' hA => ⟨A', c - 1, by rw [hn], by omega, ?_⟩⟩
    rcases ws with _ | ⟨y, ws⟩
    · exact .inl rfl
    · refine .inr ⟨g, o + 2, cur, fr, hA (by simp), hg, hne, fun j z hz => ?_⟩
      have := hx (j + 1) z (by simpa using hz)
      rw [show o + 2 + j * 2 = o + (j + 1) * 2 by omega]
      exact this
theorem DrAt.put {W : World} {b : Nat} {v v' : DrV} (h : DrAt W b v) (i : Nat) (u : Value) (e : (drC v).setIfInBounds i u = drC v') : DrAt (W.setCell ⟨b, i, none⟩ u) b v' := by
  have := heap_setCell_same W b i _ _ u h
  rw [e] at this
  exact this
theorem wrV_fine {e p : Int} {v : DrV} (h : v.bad = 0) : wrV e p v = { v with bad := e, badAt := p } := by unfold wrV; rw [if_pos h]
theorem wrV_bad {e p : Int} {v : DrV} (h : ¬ v.bad = 0) : wrV e p v = v := by unfold wrV; rw [if_neg h]
theorem growRow (W : World) (b : Nat) (cs : Array Value) : W.grownBy (W.setRow b cs) (some b) := ⟨rfl, rfl, rfl, by simp, fun k _ hk => setRow_other W b k cs (fun e => hk (by rw [e]))⟩
theorem Gr.drewN {X Y : World} {b : Nat} (h : Gr X Y b) (n : Nat) : Gr X (Y.drewN n) b := ⟨h.os, h.tape, h.output, h.size, h.block⟩
theorem Gr.drew {X Y : World} {b : Nat} (h : Gr X Y b) : Gr X Y.drew b := ⟨h.os, h.tape, h.output, h.size, h.block⟩
/-- A change of what is new is none. -/
theorem Gr.fresh {X Y Z : World} {b g : Nat} (h : Gr X Y b) (k : Gr Y Z g) (hg : X.heap.size ≤ g) : Gr X Z b :=
  ⟨k.os.trans h.os, k.tape.trans h.tape, k.output.trans h.output, Nat.le_trans h.size k.size, fun j hj hne => (k.block j (Nat.lt_of_lt_of_le hj h.size) (fun e => by injection e with e; omega)).trans (h.block j hj hne)⟩
theorem Gr.below {X Y : World} {b : Nat} (h : Below X.heap.size X Y) : Gr X Y b := ⟨h.os, h.tape, h.output, h.size, fun k hk _ => h.block k hk⟩
theorem results_w {fn : Func} {p : Tmp} (h : fn.results = #[.cell p 84]) (tmps : Array Value) (w : World) (g : Nat) (a b : Value) (hp : tmps.getD p undef = .pointer (some ⟨g, 0, none⟩))
    (hg : w.heap[g]? = some (.cells #[a, b] 84 (0, 0))) : (results fn tmps).run Tryz.prog w = .ok (.agg #[a, b]) w := by
  have c0 : w.cell? ⟨g, 0, none⟩ = some a := by rw [cell_of_row _ _ _ _ _ _ hg]; rfl
  have c1 : w.cell? ⟨g, 1, none⟩ = some b := by rw [cell_of_row _ _ _ _ _ _ hg]; rfl
  have hp' : tmps[p]?.getD undef = .pointer (some ⟨g, 0, none⟩) := by simpa using hp
  simp [results, h, hp', go_sem, c0, c1]
set_option maxRecDepth 100000 in
set_option maxHeartbeats 1000000 in
/-- Once malformed, no word more. -/
theorem word7_still (b e p : Nat) (v : DrV) (w : World) (h : DrBad w b e p v) :
    Calls Tryz.prog 34 #[.pointer (some ⟨b, 0, none⟩)] w fun e' w' => e' = .returned (.agg #[.string ⟨#[]⟩, .int .i64 0]) ∧ Below w.heap.size w w' := by
  have c3 : w.cell? ⟨b, 3, none⟩ = some (.int .i64 v.bad) := h.at_.cell (i := 3) rfl
  have d : (v.bad == 0) = false := by have := h.bad; simpa using this
  have hl := h.at_.lt
  clear h
  go_enter Tryz.func34, Tryz.ntmps34
  go_wp2_with fail
  exact bodyPost_ret (results_w rfl _ _ w.heap.size _ _ rfl (heap_alloc_new _ _)) rfl ⟨rfl, new_val _ _⟩
set_option maxRecDepth 100000 in
set_option maxHeartbeats 1000000 in
/-- No word more: it is malformed at the text's end. -/
theorem word7_none (b : Nat) (s : ByteArray) (v : DrV) (w : World) (hat : DrAt w b v) (hf : v.bad = 0) (hw : WL w b v.l s []) :
    Calls Tryz.prog 34 #[.pointer (some ⟨b, 0, none⟩)] w fun e' w' => e' = .returned (.agg #[.string ⟨#[]⟩, .int .i64 0]) ∧ DrAt w' b { v with bad := v.ee, badAt := v.en } ∧ Gr w w' b := by
  obtain ⟨A, c, hl, -, -⟩ := hw
  have hn := new_val w (.cells #[.string ⟨#[]⟩, .int .i64 0] 84)
  have a1 : DrAt (w.alloc (.cells #[.string ⟨#[]⟩, .int .i64 0] 84)) b v := (hn.block b hat.lt).trans hat
  have n1 := heap_alloc_new w (.cells #[.string ⟨#[]⟩, .int .i64 0] 84)
  have LT := Lib.hid hat.lt
  have HN := Lib.hid hn
  have A1 := Lib.hid a1
  have N1 := Lib.hid n1
  have HF := Lib.hid hf
  have G1 : Hid (Gr w (w.alloc (.cells #[.string ⟨#[]⟩, .int .i64 0] 84)) b) := Lib.hid ⟨rfl, rfl, rfl, hn.size, fun k hk _ => hn.block k hk⟩
  have c3 : w.cell? ⟨b, 3, none⟩ = some (.int .i64 v.bad) := hat.cell (i := 3) rfl
  have c0 : w.cell? ⟨b, 0, none⟩ = some (.slice A 0 c) := hl ▸ hat.cell (i := 0) rfl
  have c1 : w.cell? ⟨b, 1, none⟩ = some (.int .i64 v.en) := hat.cell (i := 1) rfl
  have c2 : w.cell? ⟨b, 2, none⟩ = some (.int .i64 v.ee) := hat.cell (i := 2) rfl
  have hbs := hat.lt
  rw [hf] at c3
  clear hf hat a1 n1 hn hl
  go_enter Tryz.func34, Tryz.ntmps34
  go_upto_region 4 with fail
  have q1 : (w.alloc (.cells #[.string ⟨#[]⟩, .int .i64 0] 84)).cell? ⟨b, 1, none⟩ = some (.int .i64 v.en) := A1.out.cell (i := 1) rfl
  have q2 : (w.alloc (.cells #[.string ⟨#[]⟩, .int .i64 0] 84)).cell? ⟨b, 2, none⟩ = some (.int .i64 v.ee) := A1.out.cell (i := 2) rfl
  clear c0 c1 c2 c3 HN
  change Code.wp _ _ _ _ (w.alloc (.cells #[.string ⟨#[]⟩, .int .i64 0] 84))
  generalize w.alloc (.cells #[.string ⟨#[]⟩, .int .i64 0] 84) = w1 at A1 N1 G1 q1 q2 ⊢
  have WR4 := Lib.hid (wrong7 b v.ee v.en v w1.drew A1.out)
  go_still_tail 9, (by kernel_rfl)
  change wpList _ _ _ _ _ w1.drew
  go_wp2_with (first
    | (go_at_call 38; refine WR4.out.mono ?_; rintro e w' ⟨⟨_, rfl⟩, hd, hg⟩; have N2 := Lib.hid ((hg.block w.heap.size (Array.getElem?_eq_some_iff.1 N1.out).1 (fun e => by injection e with e; have := LT.out; omega)).trans N1.out); have f0 := frozen_of_row w' w.heap.size 0 _ _ N2.out; have f1 := frozen_of_row w' w.heap.size 1 _ _ N2.out; replace hd := Lib.hid hd; replace hg := Lib.hid hg)
    | ((with_reducible show wpList _ _ _ (Oper.mk none (.store 84 _ _) _ _ _ _ :: _) _ _); refine wpList_store_row rfl 84 (.tmp 2) (.tmp 26) rfl w.heap.size #[.string ⟨#[]⟩, .int .i64 0] rfl rfl 84 #[.string ⟨#[]⟩, .int .i64 0] N2.out (by kernel_rfl) rfl (by simp [Value.oneCell']) ?_)
    | fail)
  have g2 := growRow w' w.heap.size #[.string ⟨#[]⟩, .int .i64 0]
  refine bodyPost_ret (results_w rfl _ _ w.heap.size _ _ rfl (setRow_heap _ w.heap.size _ _ _ _ N2.out)) rfl ⟨rfl, ?_, (G1.out.drew.trans hg.out).fresh g2 (Nat.le_refl _)⟩
  have := hd.out
  rw [wrV_fine HF.out] at this
  exact (g2.block b this.lt (fun e => by injection e with e; have := LT.out; omega)).trans this
theorem word7_res {n0 : Nat} (W : World) (o1 : Obj) (a c : Value) (hg : W.heap.size = n0) : ((W.alloc (.cells #[a, c] 84)).alloc o1).heap[n0]? = some (.cells #[a, c] 84 (0, 0)) := by
  have h1 := heap_alloc_new W (.cells #[a, c] 84)
  rw [← hg]
  exact ((new_val _ o1).block _ (Array.getElem?_eq_some_iff.1 h1).1).trans h1
theorem word7_end {X : World} {b : Nat} {v : DrV} (hat : DrAt X b v) (lv : Value) (o1 o2 : Obj) :
    DrAt (((X.setCell ⟨b, 0, none⟩ lv).alloc o1).alloc o2) b { v with l := lv } ∧ Gr X (((X.setCell ⟨b, 0, none⟩ lv).alloc o1).alloc o2) b := by
  have a1 : DrAt (X.setCell ⟨b, 0, none⟩ lv) b { v with l := lv } := hat.put 0 lv rfl
  have g1 : Gr X (X.setCell ⟨b, 0, none⟩ lv) b := grown_put X b 0 lv
  have n1 := then_ (new_val (X.setCell ⟨b, 0, none⟩ lv) o1) (new_val ((X.setCell ⟨b, 0, none⟩ lv).alloc o1) o2)
  exact ⟨(n1.block b a1.lt).trans a1, g1.trans (Gr.below n1)⟩
set_option maxRecDepth 100000 in
set_option maxHeartbeats 1000000 in
/-- The next word. -/
theorem word7_some (b : Nat) (s : ByteArray) (v : DrV) (w : World) (x : Nat × Nat) (ws : List (Nat × Nat)) (hat : DrAt w b v) (hf : v.bad = 0) (hw : WL w b v.l s (x :: ws)) :
    ∃ lv, WL w b lv s ws ∧ Calls Tryz.prog 34 #[.pointer (some ⟨b, 0, none⟩)] w fun e' w' => e' = .returned (.agg #[.string (s.extract x.1 x.2), .int .i64 (x.1 : Int)]) ∧ DrAt w' b { v with l := lv } ∧ Gr w w' b := by
  obtain ⟨n, hn⟩ : ∃ n, ws.length = n := ⟨_, rfl⟩
  obtain ⟨A, c, hl, hcl, -⟩ := id hw
  rw [List.length_cons, hn] at hl
  rw [hl] at hw
  obtain ⟨g, o, rfl, hgb, hgl, hnc, k0, k1, hT⟩ := hw.tail hn
  have hN := new_val w (.cells #[.string ⟨#[]⟩, .int .i64 0] 84)
  have HT := Lib.hid hT
  have HN := Lib.hid hN
  have LT := Lib.hid hat.lt
  have c3 : w.cell? ⟨b, 3, none⟩ = some (.int .i64 v.bad) := hat.cell (i := 3) rfl
  have c0 : w.cell? ⟨b, 0, none⟩ = some (.slice (some ⟨g, o, none⟩) (n + 1) c) := hl ▸ hat.cell (i := 0) rfl
  have f0 := hat.frozen 0
  have hbs := hat.lt
  rw [hf] at c3
  have AT := Lib.hid hat
  refine ⟨if c = 1 then .slice (some ⟨g, o, none⟩) n 0 else .slice (some ⟨g, o + 2, none⟩) n (c - 1), ?_, ?_⟩
  · split
    · rename_i hc1
      have := hT (some ⟨g, o, none⟩) (fun h => absurd (List.eq_nil_of_length_eq_zero (by omega)) h)
      rw [hc1] at this
      exact this
    · exact hT _ (fun h => rfl)
  clear hf hat hN hl hT hw hn hcl
  go_enter Tryz.func34, Tryz.ntmps34
  go_wp2_with fail
  ·
    exact bodyPost_ret (results_w rfl _ _ w.heap.size _ _ rfl (word7_res _ _ _ _ (by simp))) rfl ⟨rfl, word7_end (X := w) AT.out _ _ _⟩
  ·
    exact bodyPost_ret (results_w rfl _ _ w.heap.size _ _ rfl (word7_res _ _ _ _ (by simp))) rfl ⟨rfl, word7_end (X := w) AT.out _ _ _⟩
/-- The next number's outcome. -/
def NumD (s : ByteArray) (b : Nat) (lo hi : Int) (st : RdS) (v' : DrV) (n : Int) (p : Nat) (W : World) : Prop :=
  (∃ st', numM s.data.toList lo hi st = .ok (n, p) st' ∧ DrOk W b s st' v') ∨ ∃ e q, numM s.data.toList lo hi st = .bad e q ∧ DrBad W b e q v' ∧ n = 0
structure DrNear (v v' : DrV) : Prop where
  shared : v'.shared = v.shared
  lines : v'.lines = v.lines
theorem DrNear.refl (v : DrV) : DrNear v v := ⟨rfl, rfl⟩
theorem DrNear.trans {v v' v'' : DrV} (h : DrNear v v') (k : DrNear v' v'') : DrNear v v'' := ⟨k.shared.trans h.shared, k.lines.trans h.lines⟩
theorem DrNear.wr (v : DrV) (e p : Int) : DrNear v (wrV e p v) := by unfold wrV; split <;> exact ⟨rfl, rfl⟩
theorem DrNear.lg (v : DrV) (is : Bool) (p : Int) : DrNear v (lgV is p v) := by unfold lgV; split <;> exact ⟨rfl, rfl⟩
set_option maxRecDepth 100000 in
set_option maxHeartbeats 2000000 in
/-- A number that is one. -/
theorem num7_good (b : Nat) (S : ByteArray) (p : Nat) (lo hi : Int) (v1 : DrV) (w : World) (hlt : b < w.heap.size) (hS : S.size ≤ 1000000) (P : World → Prop) (hP : ∀ X Y, P X → Gr X Y b → DrAt Y b v1 → P Y)
    (WD : Calls Tryz.prog 34 #[.pointer (some ⟨b, 0, none⟩)] w fun e' w' => e' = .returned (.agg #[.string S, .int .i64 (p : Int)]) ∧ DrAt w' b v1 ∧ Gr w w' b ∧ P w')
    (h0 : v1.bad = 0) (he : readE S.data.toList = 0) (h1 : lo ≤ readV S.data.toList) (h2 : readV S.data.toList ≤ hi) :
    Calls Tryz.prog 36 #[.pointer (some ⟨b, 0, none⟩), .int .i64 lo, .int .i64 hi] w fun e' w' => e' = .returned (.tuple #[.int .i64 (readV S.data.toList), .int .i64 (p : Int)]) ∧ DrAt w' b v1 ∧ Gr w w' b ∧ P w' := by
  have RR := Lib.hid (fun W => rread_any S W hS)
  rw [he] at RR
  obtain ⟨z, hz⟩ : ∃ z, readV S.data.toList = z := ⟨_, rfl⟩
  rw [hz] at h1 h2 RR ⊢
  have d1 : decide (z < lo) = false := decide_eq_false (by omega)
  have d2 : decide (hi < z) = false := decide_eq_false (by omega)
  have WD := Lib.hid WD
  have H0 := Lib.hid h0
  have HP := Lib.hid hP
  have HL := Lib.hid hlt
  clear hS hP h0 he h1 h2 hz hlt
  go_enter Tryz.func36, Tryz.ntmps36
  go_upto_region 2 with (first
    | (go_at_call 34; refine WD.out.mono ?_; rintro e w1 ⟨rfl, ha, hg, hp⟩; have c3 : w1.cell? ⟨b, 3, none⟩ = some (.int .i64 v1.bad) := ha.cell (i := 3) rfl; rw [H0.out] at c3; have hbl := ha.lt; have HA := Lib.hid ha; have HG := Lib.hid hg; have HPP := Lib.hid hp; clear ha hg hp)
    | fail)
  go_wp2_with (first
    | (go_at_call 66; refine (RR.out _).mono ?_; rintro e w2 ⟨rfl, rfl⟩)
    | fail)
  have hn := new_val w1 (.cells #[.string S, .int .i64 (p : Int)] 84)
  have q1 : (w1.alloc (.cells #[.string S, .int .i64 (p : Int)] 84)).cell? ⟨w1.heap.size, 1, none⟩ = some (.int .i64 (p : Int)) := by rw [cell_of_row _ _ _ _ _ _ (heap_alloc_new w1 _)]; rfl
  have FIN : Hid (DrAt (w1.alloc (.cells #[.string S, .int .i64 (p : Int)] 84)) b v1 ∧ Gr w (w1.alloc (.cells #[.string S, .int .i64 (p : Int)] 84)) b ∧ P (w1.alloc (.cells #[.string S, .int .i64 (p : Int)] 84))) :=
    Lib.hid ⟨(hn.block b HA.out.lt).trans HA.out, HG.out.trans (Gr.below hn), HP.out _ _ HPP.out (Gr.below (b := b) hn) ((hn.block b HA.out.lt).trans HA.out)⟩
  clear hn c3 hbl HA HG HPP WD RR d1 d2
  change Code.wp _ _ _ _ (w1.alloc (.cells #[.string S, .int .i64 (p : Int)] 84))
  generalize w1.alloc (.cells #[.string S, .int .i64 (p : Int)] 84) = w2 at q1 FIN ⊢
  go_quiet (fail)
  go_wp2_with fail
  go_ret2
  exact ⟨rfl, FIN.out.1, FIN.out.2.1.drewN _, HP.out _ _ FIN.out.2.2 ((Gr.refl _ _).drewN _) FIN.out.1⟩
set_option maxRecDepth 100000 in
set_option maxHeartbeats 2000000 in
/-- A number that is none, or once malformed. -/
theorem num7_bad (b : Nat) (S : ByteArray) (p : Int) (lo hi : Int) (v1 : DrV) (w : World) (hlt : b < w.heap.size) (hS : S.size ≤ 1000000)
    (WD : Calls Tryz.prog 34 #[.pointer (some ⟨b, 0, none⟩)] w fun e' w' => e' = .returned (.agg #[.string S, .int .i64 p]) ∧ DrAt w' b v1 ∧ Gr w w' b)
    (h0 : v1.bad = 0) (hno : ¬ (readE S.data.toList = 0 ∧ lo ≤ readV S.data.toList ∧ readV S.data.toList ≤ hi)) :
    Calls Tryz.prog 36 #[.pointer (some ⟨b, 0, none⟩), .int .i64 lo, .int .i64 hi] w fun e' w' => e' = .returned (.tuple #[.int .i64 0, .int .i64 0]) ∧ DrAt w' b { v1 with bad := 4, badAt := p } ∧ Gr w w' b := by
  have RR := Lib.hid (fun W => rread_any S W hS)
  obtain ⟨z, hz⟩ : ∃ z, readV S.data.toList = z := ⟨_, rfl⟩
  obtain ⟨y, hy⟩ : ∃ y, readE S.data.toList = y := ⟨_, rfl⟩
  rw [hz, hy] at hno RR
  have WD := Lib.hid WD
  have H0 := Lib.hid h0
  have HL := Lib.hid hlt
  clear hS h0 hz hlt hy
  have key : ∀ (d1 : (y != 0) = true ∨ ((y != 0) = false ∧ decide (z < lo) = true) ∨ ((y != 0) = false ∧ decide (z < lo) = false ∧ decide (hi < z) = true)), Calls Tryz.prog 36 #[.pointer (some ⟨b, 0, none⟩), .int .i64 lo, .int .i64 hi] w fun e' w' => e' = .returned (.tuple #[.int .i64 0, .int .i64 0]) ∧ DrAt w' b { v1 with bad := 4, badAt := p } ∧ Gr w w' b := by
    intro hd
    clear hno
    rcases hd with d1 | ⟨d0, d1⟩ | ⟨d0, d1, d2⟩
    all_goals
      go_enter Tryz.func36, Tryz.ntmps36
      go_upto_region 2 with (first
        | (go_at_call 34; refine WD.out.mono ?_; rintro e w1 ⟨rfl, ha, hg⟩; have hn := new_val w1 (.cells #[.string S, .int .i64 p] 84); have q1 : (w1.alloc (.cells #[.string S, .int .i64 p] 84)).cell? ⟨w1.heap.size, 1, none⟩ = some (.int .i64 p) := by (rw [cell_of_row _ _ _ _ _ _ (heap_alloc_new w1 _)]; rfl)
           have q0 : (w1.alloc (.cells #[.string S, .int .i64 p] 84)).cell? ⟨w1.heap.size, 0, none⟩ = some (.string S) := by (rw [cell_of_row _ _ _ _ _ _ (heap_alloc_new w1 _)]; rfl)
           have A2 : Hid (DrAt (w1.alloc (.cells #[.string S, .int .i64 p] 84)) b v1) := Lib.hid ((hn.block b ha.lt).trans ha)
           have c3 : (w1.alloc (.cells #[.string S, .int .i64 p] 84)).cell? ⟨b, 3, none⟩ = some (.int .i64 v1.bad) := A2.out.cell (i := 3) rfl
           rw [H0.out] at c3
           have G2 : Hid (Gr w (w1.alloc (.cells #[.string S, .int .i64 p] 84)) b) := Lib.hid (hg.trans (Gr.below hn))
           have WR := Lib.hid (wrong7 b 4 p v1 _ A2.out); clear ha hg hn)
        | fail)
      change Code.wp _ _ _ _ (w1.alloc (.cells #[.string S, .int .i64 p] 84))
      generalize w1.alloc (.cells #[.string S, .int .i64 p] 84) = w2 at q0 q1 c3 A2 G2 WR ⊢
      go_wp2_with (first
        | (go_at_call 66; refine (RR.out _).mono ?_; rintro e w3 ⟨rfl, rfl⟩)
        | (go_at_call 38; refine WR.out.mono ?_; rintro e w3 ⟨⟨_, rfl⟩, ha, hg⟩; rw [wrV_fine H0.out] at ha; have c4 : w3.cell? ⟨b, 3, none⟩ = some (.int .i64 4) := ha.cell (i := 3) rfl; replace ha := Lib.hid ha; replace hg := Lib.hid hg)
        | fail)
      go_ret2
      exact ⟨rfl, ha.out, G2.out.trans hg.out⟩
  refine key ?_
  by_cases hy : y = 0
  · subst hy
    by_cases h1 : z < lo
    · exact .inr (.inl ⟨rfl, decide_eq_true h1⟩)
    · exact .inr (.inr ⟨rfl, decide_eq_false h1, decide_eq_true (by omega)⟩)
  · exact .inl (by simpa using hy)
set_option maxRecDepth 100000 in
set_option maxHeartbeats 2000000 in
/-- Once malformed, no number more. -/
theorem num7_still (b : Nat) (S : ByteArray) (p : Int) (lo hi : Int) (v1 : DrV) (w : World) (hlt : b < w.heap.size) (hS : S.size ≤ 1000000)
    (WD : Calls Tryz.prog 34 #[.pointer (some ⟨b, 0, none⟩)] w fun e' w' => e' = .returned (.agg #[.string S, .int .i64 p]) ∧ DrAt w' b v1 ∧ Gr w w' b)
    (h0 : ¬ v1.bad = 0) :
    Calls Tryz.prog 36 #[.pointer (some ⟨b, 0, none⟩), .int .i64 lo, .int .i64 hi] w fun e' w' => e' = .returned (.tuple #[.int .i64 0, .int .i64 0]) ∧ DrAt w' b v1 ∧ Gr w w' b := by
  have RR := Lib.hid (fun W => rread_any S W hS)
  obtain ⟨z, hz⟩ : ∃ z, readV S.data.toList = z := ⟨_, rfl⟩
  obtain ⟨y, hy⟩ : ∃ y, readE S.data.toList = y := ⟨_, rfl⟩
  rw [hz, hy] at RR
  have WD := Lib.hid WD
  have d0 : (v1.bad == 0) = false := by simpa using h0
  have d1 : (v1.bad != 0) = true := by simpa using h0
  clear hS h0 hz hlt hy
  go_enter Tryz.func36, Tryz.ntmps36
  go_wp2_with (first
    | (go_at_call 34; refine WD.out.mono ?_; rintro e w1 ⟨rfl, ha, hg⟩; have c3 : w1.cell? ⟨b, 3, none⟩ = some (.int .i64 v1.bad) := ha.cell (i := 3) rfl; have hbl := ha.lt; have HA := Lib.hid ha; have HG := Lib.hid hg; clear ha hg)
    | (go_at_call 66; refine (RR.out _).mono ?_; rintro e w3 ⟨rfl, rfl⟩)
    | fail)
  go_ret2
  have hn := new_val w1 (.cells #[.string S, .int .i64 p] 84)
  exact ⟨rfl, (hn.block b HA.out.lt).trans HA.out, HG.out.trans (Gr.below hn)⟩
end Go.Proofs.YteocbgcgfllieaaGreatDoor
