/- Of: what a function weighs (no statement of its own). -/
import Derived.Test.YtfheamemoinfeaaHwb
namespace Go.Proofs.Ytfheamemoinfeaa
open Go.RowKit
open Go.Maps (Keyed)
open RtA
set_option linter.unusedVariables false
def ofX (X : List Nat) (j : Int) : Nat := if isIn j X.length = true then nthF X j.toNat else 0
theorem isIn_nat {j : Int} {n : Nat} (h : isIn j n = true) : ∃ q : Nat, j = (q : Int) ∧ q < n := by
  simp [isIn] at h
  exact ⟨j.toNat, by omega, by omega⟩
theorem isIn_of {q n : Nat} (h : q < n) : isIn (q : Int) n = true := by simp [isIn, h]
def OfP (X : List Nat) (j : Int) (w : World) (e : Ending) (w' : World) : Prop := e = .returned (.float .f64 (ofX X j)) ∧ w.grownBy w' none
theorem ownF_some {w : World} {B n : Nat} {v : Value} {r : List Nat} (h : OwnF w B v r) (hn : r.length = n) (h0 : 0 < n) : ∃ g c, v = .slice (some ⟨g, 0, none⟩) n c ∧ n ≤ c ∧ c ≤ maxLen ∧ g < w.heap.size := by
  subst hn
  obtain ⟨A, c, rfl, h1, h2, h3, h4⟩ := h.form
  cases A with
  | none => have := h3 rfl; omega
  | some ad => obtain ⟨g, rfl, _, h5⟩ := h4 ad rfl; exact ⟨g, c, rfl, h1, h2, h5⟩
theorem two_grown (w : World) (o o' : Obj) (n : Nat) : w.grownBy (((w.alloc o).alloc o').drewN n) none := grown_drewN ((World.grownBy_alloc w o none).trans (World.grownBy_alloc _ o' none)) n
theorem box1 (w : World) (v : Value) (t : Nat) (o : Obj) (n : Nat) : (((w.alloc (.cells #[v] t)).alloc o).drewN n).cell? ⟨w.heap.size, 0, none⟩ = some v := by
  have h : (((w.alloc (.cells #[v] t)).alloc o).drewN n).heap[w.heap.size]? = some (.cells #[v] t (0, 0)) := by
    have := (World.grownBy_alloc (w.alloc (.cells #[v] t)) o none).block w.heap.size (by simp) (by simp)
    exact this.trans (heap_alloc_new w _)
  rw [cell_of_row _ _ _ _ _ _ h]; rfl
theorem box2 (w : World) (v : Value) (t : Nat) (o : Obj) (n : Nat) : (((w.alloc o).alloc (.cells #[v] t)).drewN n).cell? ⟨w.heap.size + 1, 0, none⟩ = some v := by
  have h : (((w.alloc o).alloc (.cells #[v] t)).drewN n).heap[w.heap.size + 1]? = some (.cells #[v] t (0, 0)) := by
    have := heap_alloc_new (w.alloc o) (.cells #[v] t)
    rw [World.size_alloc] at this
    exact this
  rw [cell_of_row _ _ _ _ _ _ h]; rfl
theorem wof_out {V : Value} {L : Nat} (j : Int) (w : World) (hl : ∀ W : World, w.grownBy W none → Calls Try.prog 22 #[V] W (RetN W (.int .i64 (L : Int)))) (hj : isIn j L = false) (hV : ∃ p, V = .pointer p) : Calls Try.prog 24 #[V, .int .i64 j] w fun e w' => e = .returned (.float .f64 0) ∧ w.grownBy w' none := by
  obtain ⟨p, rfl⟩ := hV
  have HH : Hid (∀ W : World, w.grownBy W none → Calls Try.prog 32 #[.pointer p, .int .i64 j] W (RetN W (.bool false))) := Lib.hid fun W hW => by
    have := has_of j W (fun _ => hl W hW)
    rw [hj] at this
    exact this
  clear hl hj
  go_enter Try.func24, Try.ntmps24
  go_wp2_with (go_at_call 32; refine (HH.out _ (two_grown _ _ _ 0)).mono ?_; rintro e w' ⟨rfl, m, rfl⟩)
  go_ret
  exact ⟨rfl, two_grown _ _ _ _⟩
/-- The run of one that was never bumped is found. -/
theorem found_run {R : List Rn} {f : Int → Option Nat} {Bm X : List Nat} (h : WInv R f Bm X) {q r : Nat} (hq : q < X.length) (hf : f (q : Int) = none) (hr : FoundR R (q : Int) r) : r < R.length ∧ nthF X q = (nthR R r).2 := by
  obtain ⟨i, h1, h2, h3, h4⟩ := h.run q hq hf
  obtain ⟨g1, g2, g3⟩ := hr
  have : r = i := by
    rcases Nat.lt_trichotomy r i with h | h | h
    · have := h2 r h; have := g3 r (Nat.le_refl _) (by omega); omega
    · exact h
    · have := g2 i h; omega
  subst this
  exact ⟨h1, h4⟩
set_option maxRecDepth 100000 in
set_option maxHeartbeats 2000000 in
theorem wof_in {P : Nat → Prop} {w : World} {b K q : Nat} {X : List Nat} (h : WA P w b K X) (hK : K ≤ 100000) (hq : q < X.length) (hX : X.length ≤ 100000) : Calls Try.prog 24 #[.pointer (some ⟨b, 0, none⟩), .int .i64 (q : Int)] w fun e w' => e = .returned (.float .f64 (nthF X q)) ∧ w.grownBy w' none := by
  have HH : Hid (∀ W : World, w.grownBy W none → Calls Try.prog 32 #[.pointer (some ⟨b, 0, none⟩), .int .i64 (q : Int)] W (RetN W (.bool true))) := Lib.hid fun W hW => by
    have := has_of (q : Int) W (fun _ => wlen_any (h.grown hW) hK)
    rw [isIn_of hq] at this
    exact this
  obtain ⟨v1, m, v3, R, f, Bm, h1, h2, h3, h4, h5, h6, h7, h8, h9, h10, h11⟩ := h
  have HG := Lib.hid (two_grown w (.cells #[.pointer (some ⟨b, 0, none⟩)] 35) (.cells #[.int .i64 (q : Int)] 3))
  have B1 := Lib.hid (box1 w (.pointer (some ⟨b, 0, none⟩)) 35 (.cells #[.int .i64 (q : Int)] 3))
  have B2 := Lib.hid (box2 w (.int .i64 (q : Int)) 3 (.cells #[.pointer (some ⟨b, 0, none⟩)] 35))
  have H1 := Lib.hid h1
  have H2 := Lib.hid h2
  have H3 := Lib.hid h3
  have H4 := Lib.hid h4
  have H5 := Lib.hid h5
  clear h1 h2 h3 h4 h8 h9 h10 h11
  have HQ := Lib.hid hq
  go_enter Try.func24, Try.ntmps24
  go_upto_region 3 with (go_at_call 32; refine (HH.out _ (two_grown _ _ _ 0)).mono ?_; rintro e w' ⟨rfl, m0, rfl⟩)
  have hg := HG.out m0
  have k1 := B1.out m0
  have k2 := B2.out m0
  generalize ((w.alloc (.cells #[.pointer (some ⟨b, 0, none⟩)] 35)).alloc (.cells #[.int .i64 (q : Int)] 3)).drewN m0 = w3 at *
  have hb : ∀ k, k < w.heap.size → w3.heap[k]? = w.heap[k]? := fun k hk => hg.block k hk (by simp)
  have h1 := H1.out.block (hb b H1.out.lt)
  have h2 : RowR w3 v1 R := row_block H2.out (fun g e => hb g (World.ownsRow.lt H2.out g e).2)
  have h3 := H3.out.block (hb m H3.out.lt)
  have h4 := H4.out.keepB (fun g e => hb g (H4.out.lt g e).2)
  have hlk : ∀ k, (Instr.lookup 55 (.map (some m)) (.int .i64 (q : Int)) true).run Try.prog (w3.drewN k) = .ok (.tuple #[.int .i64 (((f (q : Int)).getD 0 : Nat) : Int), .bool (f (q : Int)).isSome]) (w3.drewN k) := fun k => look_pls (h3.block (w' := w3.drewN k) rfl) (by omega)
  have c1 := h1.c1
  have HGR := Lib.hid hg
  clear hg hb HG B1 B2 HH H1 H2 H3 H4
  cases hf : f (q : Int) with
  | some a =>
    rw [hf] at hlk
    simp only [Option.getD_some, Option.isSome_some] at hlk
    obtain ⟨q', e1, _, ha, hx⟩ := H5.out.bmp _ _ hf
    have : q' = q := by omega
    subst this
    have HX := Lib.hid hx
    obtain ⟨g, c, rfl, hc1, hc2, hgl⟩ := ownF_some (n := Bm.length) h4 rfl (by omega)
    have d0 := h4.cell a ha
    have c2 := h1.c2
    generalize nthF Bm a = x at *
    generalize Bm.length = nb at *
    clear h1 h2 h3 h4 hf hx
    go_quiet (fail)
    go_wp2_with fail
    go_ret
    exact ⟨by rw [HX.out]; rfl, grown_drewN HGR.out _⟩
  | none =>
    rw [hf] at hlk
    simp only [Option.getD_none, Option.isSome_none] at hlk
    have hf0 := Lib.hid hf
    obtain ⟨i0, hi0, _⟩ := H5.out.run q hq hf
    obtain ⟨A, c, rfl, -, -, hA⟩ := row_form h2
    obtain ⟨g, rfl, hg⟩ := hA (by omega)
    obtain ⟨n, hn⟩ : ∃ n, R.length = n := ⟨_, rfl⟩
    have CS : Hid (∀ k, Calls Try.prog 34 #[.int .i64 (n : Int), .func (.func 35) #[] #[.pointer (some ⟨w.heap.size + 1, 0, none⟩), .pointer (some ⟨w.heap.size, 0, none⟩)]] (w3.drewN k) (SearchP R (q : Int) (w3.drewN k))) :=
      Lib.hid fun k => search_any (w := w3.drewN k) (m := m) (v3 := v3) (g := g) (c := c) (b := b) _ _ k2 k1 (hdn h1 k) (rown h2 k) hn (by omega) H5.out.ris
    have c0 := h1.c0
    have D1 := Lib.hid (fun i hi => h2.at1 i hi)
    have HN := Lib.hid hn
    rw [hn] at c0 h6
    clear h1 h2 h3 h4 hf hi0 hA
    go_quiet (fail)
    go_wp2_with (go_at_call 34; refine (CS.out _).mono ?_; rintro e w' ⟨r, rfl, hr, m2, rfl⟩; obtain ⟨hrn, hxr⟩ := found_run H5.out HQ.out hf0.out hr; have HX := Lib.hid hxr; have d1 := D1.out r hrn; rw [HN.out] at hrn; clear hr hxr; generalize (nthR R r).2 = x at *)
    go_ret
    exact ⟨by rw [HX.out]; rfl, grown_drewN HGR.out _⟩
end Go.Proofs.Ytfheamemoinfeaa
