/- Contract of table.New (no statement of its own). -/
import Derived.Test.YtdmldnlgamnkeaaGreatTbN
namespace Go.Proofs.YtdmldnlgamnkeaaGreat
open Go.RowKit
set_option linter.unusedVariables false
/-- A shape's box is as it was laid. -/
abbrev HoldN (w : World) (b : Nat) (l : List Nat) (W : World) : Prop :=
  W.cell? ⟨b, 0, none⟩ = some (.int .i64 (l.length : Int)) ∧ W.cell? ⟨b, 1, none⟩ = some (szV l 0) ∧ W.cell? ⟨b, 2, none⟩ = some (szV l 1) ∧ W.cell? ⟨b, 3, none⟩ = some (szV l 2) ∧
  W.cell? ⟨b, 4, none⟩ = some (szV l 3) ∧ W.cell? ⟨b, 5, none⟩ = some (szV l 4) ∧ W.cell? ⟨b, 6, none⟩ = some (szV l 5) ∧ Below w.heap.size w W
theorem holdN {w W W' : World} {b : Nat} {l : List Nat} (h : HoldN w b l W) (hb : Below W.heap.size W W') : HoldN w b l W' := by
  obtain ⟨h0, h1, h2, h3, h4, h5, h6, h8⟩ := h
  have l0 : b < W.heap.size := World.block_lt_of_cell? W _ h0
  exact ⟨(hb.cell (p := ⟨_, 0, none⟩) l0).trans h0, (hb.cell (p := ⟨_, 1, none⟩) l0).trans h1, (hb.cell (p := ⟨_, 2, none⟩) l0).trans h2, (hb.cell (p := ⟨_, 3, none⟩) l0).trans h3, (hb.cell (p := ⟨_, 4, none⟩) l0).trans h4,
    (hb.cell (p := ⟨_, 5, none⟩) l0).trans h5, (hb.cell (p := ⟨_, 6, none⟩) l0).trans h6, h8.trans (hb.mono h8.size)⟩
theorem HoldN.of {w : World} {b : Nat} {l : List Nat} (H : ShAt w b l) : HoldN w b l w := ⟨H.c0, H.c1, H.c2, H.c3, H.c4, H.c5, H.c6, Below.refl _ _⟩
theorem holdN_below {w W : World} {b : Nat} {l : List Nat} (h : HoldN w b l W) : Below w.heap.size w W := h.2.2.2.2.2.2.2
theorem tab_new {w : World} {h P : Nat} {l : List Nat} {k x : Int} (H : RepAt w h x P P) (hP : prodL l = P) :
    TabAt (w.alloc (.cells #[.int .i64 (l.length : Int), szV l 0, szV l 1, szV l 2, szV l 3, szV l 4, szV l 5, .int .i64 k, .slice (some ⟨h, 0, none⟩) P P] 63)) w.heap.size h l k (fun _ => x) := by
  subst hP
  obtain ⟨cur, hc, h1, h2⟩ := H.costs
  exact ⟨heap_alloc_new w _, cur, ((new_val w _).block h (Array.getElem?_eq_some_iff.1 hc).1).trans hc, h1, h2⟩
set_option maxRecDepth 100000 in
set_option maxHeartbeats 4000000 in
theorem tnew_ok (A : Option Addr) (n c : Nat) (l : List Nat) (k x : Int) (w : World) (hn : n = l.length) (h6 : l.length ≤ 6) (hr : Ints w A l) (hl : ∀ n ∈ l, 1 ≤ n ∧ n ≤ 32) (hp : prodL l ≤ 4096)
    (hk1 : 1 ≤ k) (hk2 : k ≤ 2147483648) (hx0 : 0 ≤ x) (hx1 : x ≤ k) :
    Calls Tryz.prog 7 #[.slice A n c, .int .i64 k, .int .i64 x] w fun e w' => ∃ g h, e = .returned (.tuple #[.pointer (some ⟨g, 0, none⟩), .int .i64 0]) ∧ TabAt w' g h l k (fun _ => x) ∧ w.heap.size ≤ g ∧ w.heap.size ≤ h ∧ Below w.heap.size w w' := by
  have HC := Lib.hid (new_mid' A n c l w hn h6 hr hl hp)
  have H32 : Hid (∀ n ∈ l, n ≤ 32) := Lib.hid fun n hn => (hl n hn).2
  obtain ⟨P, hP⟩ : ∃ P, prodL l = P := ⟨_, rfl⟩
  have hP4 : P ≤ 4096 := by omega
  have hP1 : 1 ≤ P := by rw [← hP]; exact prodL_pos fun n hn => (hl n hn).1
  have HP := Lib.hid hP
  clear hn hr hl hp hP
  go_enter Tryz.func7, Tryz.ntmps7
  go_wp2_with fail
  refine HC.out.mono ?_
  rintro e w1 ⟨rfl, b1⟩
  have B1 := Lib.hid b1
  clear b1
  go_upto_region 4 with ((with_reducible show wpList _ _ _ (Oper.mk none (.store 56 _ _) _ _ _ _ :: _) _ _)
                         refine wpList_store_row rfl 56 (.tmp 8) (.tmp 13) rfl w1.heap.size (shC l) rfl rfl 56 (shC0 0) (heap_alloc_new _ _) (by kernel_rfl) rfl (sh_one l) ?_
                         rw [World.setRow_alloc_new])
  have n2 := new_val w1 (shO l)
  have H2 := Lib.hid (ShAt.new w1 l)
  have B2 := Lib.hid (then_ B1.out n2)
  have hz2 : w1.heap.size < (w1.alloc (shO l)).heap.size := by simp
  clear n2
  generalize w1.alloc (.cells (shC l) 56) = w2 at H2 B2 hz2 ⊢
  go_upto_region 6 with (go_at_call 21; refine (in_yes _ _ _ hk1 hk2 hx0 hx1).mono ?_; rintro e w' ⟨rfl, rfl⟩)
  have HN := Lib.hid (HoldN.of H2.out)
  go_region_held3 (fun W => HoldN w2 w1.heap.size l W) (first | exact holdN HN.out ((Below.refl _ _).drew) | exact holdN (by assumption) (new_val _ _) | exact holdN (by assumption) (by assumption))
    ((first | (go_at_call 23; refine (count_exact l _ P h6 H32.out HP.out).mono ?_; rintro e w' ⟨rfl, rfl⟩)
            | (go_at_call 22; refine (repeat_one _ _ _ x _ (by first | exact lit_newD _ _ _ _ (by simp) | exact lit_oldD _ _ _ _ _ (by simp)) (by simp <;> omega) hP1 hP4 (mul_one' P hP4)).mono ?_; rintro e w' ⟨rfl, hr, hb⟩; have HR := Lib.hid hr; have HB := Lib.hid hb)))
  all_goals
    go_wp2_with fail
    go_ret2
    have hfin := holdN_below (by assumption)
    refine ⟨w'.heap.size, w2.heap.size + 1 + 1, rfl, ?_, ?_, ?_, then_ B2.out hfin⟩
    · exact tab_new (by have h := HR.out; simpa using h) HP.out
    · have h1 := B2.out.size
      have h2 := HB.out.size
      simp at h2
      omega
    · have h1 := B2.out.size
      omega
end Go.Proofs.YtdmldnlgamnkeaaGreat
