/- A trail in memory and what it brings back, told together: the contracts of its calls for the laws' walks (no statement of its own). -/
import Derived.Test.YtafcecacldafgaaTrU
import Derived.Test.YtafcecacldafgaaTmH
namespace Go.Proofs.Ytafcecacldafgaa
open Go.RowKit
set_option linter.unusedVariables false
/-- A trail of these cells, these at its marks, in the blocks of Q. -/
def St (w : World) (b n : Nat) (Q : Nat → Prop) (C : List Int) (M : List (List Int)) : Prop :=
  ∃ T S, TA Q w b T ∧ Rel n T C S ∧ Wt T T.cell ∧ S.map (List.map Prod.fst) = M
theorem St.kept {w w' : World} {b n : Nat} {Q : Nat → Prop} {C : List Int} {M : List (List Int)} (h : St w b n Q C M) (hg : Kp (fun k => ¬ Q k) w w') : St w' b n Q C M := by
  obtain ⟨T, S, h1, h2, h4, h3⟩ := h; exact ⟨T, S, h1.kept hg, h2, h4, h3⟩
theorem St.grown {w w' : World} {b n : Nat} {Q : Nat → Prop} {C : List Int} {M : List (List Int)} (h : St w b n Q C M) (hg : w.grownBy w' none) : St w' b n Q C M := by
  obtain ⟨T, S, h1, h2, h4, h3⟩ := h; exact ⟨T, S, h1.grown hg, h2, h4, h3⟩
theorem St.more {w : World} {b n k : Nat} {Q : Nat → Prop} {C : List Int} {M : List (List Int)} (h : St w b n Q C M) (hk : n ≤ k) : St w b k Q C M := by
  obtain ⟨T, S, h1, h2, h4, h3⟩ := h; exact ⟨T, S, h1, h2.more hk, h4, h3⟩
theorem St.mono {w : World} {b n : Nat} {Q R : Nat → Prop} {C : List Int} {M : List (List Int)} (h : St w b n Q C M) (hQ : ∀ k, k < w.heap.size → Q k → R k) : St w b n R C M := by
  obtain ⟨T, S, h1, h2, h4, h3⟩ := h; exact ⟨T, S, h1.mono hQ, h2, h4, h3⟩
theorem St.mlen {w : World} {b n : Nat} {Q : Nat → Prop} {C : List Int} {M : List (List Int)} (h : St w b n Q C M) : M.length ≤ n := by
  obtain ⟨T, S, h1, h2, h4, rfl⟩ := h; simpa using h2.nmk
/-- Q, and what is new. -/
def Plus (Q : Nat → Prop) (w : World) (k : Nat) : Prop := Q k ∨ w.heap.size ≤ k
theorem plus_of (Q : Nat → Prop) (w : World) : ∀ k, k < w.heap.size → Plus Q w k → Q k := fun k hk h => by rcases h with h | h; exact h; omega
/-- What was answered, what the trail is, and what may have turned. -/
structure AndS (Q : Nat → Prop) (w : World) (b n : Nat) (C : List Int) (M : List (List Int)) (v : Value) (e : Ending) (w' : World) : Prop where
  e : e = .returned v
  st : St w' b n (Plus Q w) C M
  kp : Kp Q w w'
theorem AndS.of {Q : Nat → Prop} {w w' : World} {b n : Nat} {C : List Int} {S : List (List Cl)} {v : Value} {T : Tr} {e : Ending} (hr : Rel n T C S) (hw : Wt T T.cell) (h : AndT (Plus Q w) w b T v e w') : AndS Q w b n C (S.map (List.map Prod.fst)) v e w' :=
  ⟨h.1, ⟨T, S, h.2.1, hr, hw, rfl⟩, h.2.2.mono (plus_of Q w)⟩
theorem new_st (n : Int) (N : Nat) (w : World) (hN : max n 0 = (N : Int)) :
    Calls Try.prog 10 #[.int .i64 n] w (fun e w' => AndS (fun _ => False) w (w.heap.size + 1) 0 (List.replicate N 0) [] (.pointer (some ⟨w.heap.size + 1, 0, none⟩)) e w') :=
  (new_any n N w hN).mono fun e w' ⟨h1, h2, h3⟩ => ⟨h1, ⟨fresh N, [], h2 _ (fun k hk => .inr hk), rel_new N, wt_new N, rfl⟩, Kp.none h3⟩
theorem set_st {w : World} {b n i : Nat} {Q : Nat → Prop} {C : List Int} {M : List (List Int)} (h : St w b n Q C M) (v : Int) (hi : i < C.length) (hn : n < 1000000) (hC : C.length ≤ 2097152) :
    Calls Try.prog 17 #[.pointer (some ⟨b, 0, none⟩), .int .i64 (i : Int), .int .i64 v] w (AndS Q w b (n + 1) (C.set i v) M (.int .i64 0)) := by
  obtain ⟨T, S, h1, h2, h4, rfl⟩ := h
  exact (set_any (v := v) (h1.mono (Q := Plus Q w) fun k _ q => .inl q) (fun k hk => .inr hk) (by have := h2.nmk; rw [h2.mlen]; omega) (by have := h2.nkp; omega) (by rw [h2.size]; exact hi) (by omega)).mono fun e w' q => AndS.of (h2.setc hi v) (h4.setc h2 i v) q
theorem isIn_no {i : Int} {n : Nat} (h : i < 0 ∨ (n : Int) ≤ i) : isIn i n = false := by
  simp only [isIn, Bool.and_eq_false_iff, decide_eq_false_iff_not]; omega
theorem set_st_no {w : World} {b n : Nat} {i : Int} {Q : Nat → Prop} {C : List Int} {M : List (List Int)} (h : St w b n Q C M) (v : Int) (hi : i < 0 ∨ (C.length : Int) ≤ i) :
    Calls Try.prog 17 #[.pointer (some ⟨b, 0, none⟩), .int .i64 i, .int .i64 v] w (AndO w (.int .i64 3)) := by
  obtain ⟨T, S, h1, h2, h4, rfl⟩ := h
  exact set_no h1 (by rw [h2.size]; exact isIn_no hi)
theorem mark_st {w : World} {b n : Nat} {Q : Nat → Prop} {C : List Int} {M : List (List Int)} (h : St w b n Q C M) (hn : n < 1000000) :
    Calls Try.prog 16 #[.pointer (some ⟨b, 0, none⟩)] w (AndS Q w b (n + 1) C (M ++ [C]) (.int .i64 (M.length : Int))) := by
  obtain ⟨T, S, h1, h2, h4, rfl⟩ := h
  have e : (S.map (List.map Prod.fst)) ++ [C] = (S ++ [T.all]).map (List.map Prod.fst) := by simp [all_fst, h2.cells]
  rw [e, List.length_map, ← h2.mlen]
  exact (mark_any (h1.mono (Q := Plus Q w) fun k _ q => .inl q) (fun k hk => .inr hk) (by have := h2.nmk; rw [h2.mlen]; omega) (by have := h2.nera; omega)).mono fun e w' q => AndS.of h2.mark (h4.mark h2) q
theorem grow_st {w : World} {b n k : Nat} {i : Int} {Q : Nat → Prop} {C : List Int} {M : List (List Int)} (h : St w b n Q C M) (hk : max i 0 = (k : Int)) (hk2 : k < 1000000) (hC : C.length < 1000000) :
    Calls Try.prog 24 #[.pointer (some ⟨b, 0, none⟩), .int .i64 i] w (AndS Q w b n (C ++ List.replicate k 0) M (.int .i64 (C.length : Int))) := by
  obtain ⟨T, S, h1, h2, h4, rfl⟩ := h
  have e := h2.size
  rw [← e]
  exact (grow_any (h1.mono (Q := Plus Q w) fun k _ q => .inl q) hk hk2 (by rw [e]; exact hC)).mono fun e w' q => AndS.of (h2.grow k) (h4.grow k) q
theorem undo_any {P : Nat → Prop} {w : World} {b n m : Nat} {T : Tr} {C : List Int} {S : List (List Cl)} (h : TA P w b T) (hr : Rel n T C S) (hP : ∀ k, w.heap.size ≤ k → P k) (hn : n < 1000000) (hC : C.length ≤ 2097152) (hm : m < S.length) :
    Calls Try.prog 19 #[.pointer (some ⟨b, 0, none⟩), .int .i64 (m : Int)] w (AndT P w b (T.undo m) (.int .i64 0)) := by
  obtain ⟨v1, v2, v3, mm, h1, h2⟩ := h.parts
  have hkp := hr.inv.kp m hm
  have hsz := hr.inv.size m hm
  have hml := hr.mlen
  have hnm := hr.nmk
  have hnk := hr.nkp
  obtain ⟨kp, hkp'⟩ : ∃ kp : Nat, (nth3 T.marks m).2.2 = (kp : Int) := ⟨(nth3 T.marks m).2.2.toNat, by omega⟩
  have hat : ∀ k ∈ T.kept, 0 ≤ k.2.2 ∧ k.2.2 < 2097152 := fun k hk => by
    have := hr.ats k hk
    rw [hr.size] at this
    omega
  rcases h2.r3.2 with ⟨rfl, h0⟩ | ⟨g, cap, cur, rfl, _⟩
  · have hke : T.kept = [] := List.eq_nil_of_length_eq_zero h0
    have h00 : kp = 0 := by rw [hke] at hkp; simp at hkp; omega
    subst h00
    exact undo_none h1 h2 hP (by omega) (by omega) (by omega) hkp' hsz hke
  · exact undo_some h1 h2 hP (by omega) (by omega) (by omega) hkp' hsz (by omega) hat
theorem undo_st {w : World} {b n m : Nat} {Q : Nat → Prop} {C : List Int} {M : List (List Int)} (h : St w b n Q C M) (hm : m < M.length) (hn : n < 1000000) (hC : C.length ≤ 2097152) :
    Calls Try.prog 19 #[.pointer (some ⟨b, 0, none⟩), .int .i64 (m : Int)] w (AndS Q w b n M[m] (M.take m) (.int .i64 0)) := by
  obtain ⟨T, S, h1, h2, h4, rfl⟩ := h
  have hm' : m < S.length := by simpa using hm
  have e : (S.map (List.map Prod.fst)).take m = (S.take m).map (List.map Prod.fst) := List.map_take.symm
  rw [e, List.getElem_map]
  exact (undo_any (h1.mono (Q := Plus Q w) fun k _ q => .inl q) h2 (fun k hk => .inr hk) hn hC hm').mono fun e w' q => AndS.of (h2.undo hm') (h4.undo h2 hm') q
theorem undo_st_no {w : World} {b n : Nat} {i : Int} {Q : Nat → Prop} {C : List Int} {M : List (List Int)} (h : St w b n Q C M) (hi : i < 0 ∨ (M.length : Int) ≤ i) :
    Calls Try.prog 19 #[.pointer (some ⟨b, 0, none⟩), .int .i64 i] w (AndG w (.int .i64 2)) := by
  obtain ⟨T, S, h1, h2, h4, rfl⟩ := h
  exact undo_of i w (depth_any (h1.grown (World.grownBy_alloc _ _ _))) (by rw [h2.mlen]; exact isIn_no (by simpa using hi))
theorem forget_st_no {w : World} {b n : Nat} {i : Int} {Q : Nat → Prop} {C : List Int} {M : List (List Int)} (h : St w b n Q C M) (hi : i < 0 ∨ (M.length : Int) ≤ i) :
    Calls Try.prog 23 #[.pointer (some ⟨b, 0, none⟩), .int .i64 i] w (AndO w (.int .i64 2)) := by
  obtain ⟨T, S, h1, h2, h4, rfl⟩ := h
  exact forget_of i w (depth_any h1) (by rw [h2.mlen]; exact isIn_no (by simpa using hi))
theorem len_st {w : World} {b n : Nat} {Q : Nat → Prop} {C : List Int} {M : List (List Int)} (h : St w b n Q C M) : Calls Try.prog 15 #[.pointer (some ⟨b, 0, none⟩)] w (AndO w (.int .i64 (C.length : Int))) := by
  obtain ⟨T, S, h1, h2, h4, rfl⟩ := h
  rw [← h2.size]; exact len_any h1
theorem depth_st {w : World} {b n : Nat} {Q : Nat → Prop} {C : List Int} {M : List (List Int)} (h : St w b n Q C M) : Calls Try.prog 13 #[.pointer (some ⟨b, 0, none⟩)] w (AndO w (.int .i64 (M.length : Int))) := by
  obtain ⟨T, S, h1, h2, h4, rfl⟩ := h
  rw [List.length_map, ← h2.mlen]; exact depth_any h1
/-- The number of a cell, 0 if there is none. -/
def getL (C : List Int) (i : Int) : Int := if 0 ≤ i then nthI C i.toNat else 0
theorem get_st {w : World} {b n : Nat} {Q : Nat → Prop} {C : List Int} {M : List (List Int)} (h : St w b n Q C M) (i : Int) (hi : i ≤ 9223372036854775807) :
    Calls Try.prog 22 #[.pointer (some ⟨b, 0, none⟩), .int .i64 i] w (AndG w (.int .i64 (getL C i))) := by
  obtain ⟨T, S, h1, h2, h4, rfl⟩ := h
  have e : getL C i = T.get i := by
    unfold getL Tr.get isIn
    by_cases h0 : 0 ≤ i
    · rw [if_pos h0]
      by_cases hl : i < (T.size : Int)
      · have hl' : i.toNat < C.length := by rw [← h2.size]; omega
        simp only [h0, hl, decide_true, Bool.and_self, if_true]
        rw [← nthI_get C i.toNat hl', h2.get hl']
      · have hl' : ¬ i.toNat < C.length := by rw [← h2.size]; omega
        simp only [h0, hl, decide_true, decide_false, Bool.and_false, Bool.false_eq_true, if_false]
        unfold nthI
        rw [List.getD_eq_getElem?_getD, List.getElem?_eq_none (by omega)]
        rfl
    · simp [h0]
  rw [e]
  exact get_any i h1 hi
/-- All cells, a list of its own. -/
def CellsS (w : World) (C : List Int) (e : Ending) (w' : World) : Prop := ∃ v, e = .returned v ∧ OwnL w' w.heap.size v C ∧ w.grownBy w' none
theorem cells_st {w : World} {b n : Nat} {Q : Nat → Prop} {C : List Int} {M : List (List Int)} (h : St w b n Q C M) (hC : C.length ≤ 100000) : Calls Try.prog 21 #[.pointer (some ⟨b, 0, none⟩)] w (CellsS w C) := by
  obtain ⟨T, S, h1, h2, h4, rfl⟩ := h
  have hc := cells_any h1 (by rw [h2.size]; exact hC) h2.fsz
  unfold CellsP at hc
  rw [h2.cells] at hc
  exact hc
/-- What was answered; nothing that was is turned. -/
def AndB (w : World) (v : Value) (e : Ending) (w' : World) : Prop := e = .returned v ∧ Below w.heap.size w w'
theorem AndS.step {Q R : Nat → Prop} {w w' w0 : World} {b n : Nat} {C : List Int} {M : List (List Int)} {v : Value} {e : Ending} (h : AndS Q w b n C M v e w') (hk : Kp R w0 w) (hQ : ∀ k, k < w.heap.size → Q k → R k) (hw : ∀ k, w.heap.size ≤ k → R k) :
    St w' b n R C M ∧ Kp R w0 w' :=
  ⟨h.st.mono fun k hk q => by
    rcases q with q | q
    · by_cases hlt : k < w.heap.size
      · exact hQ k hlt q
      · exact hw k (by omega)
    · exact hw k q, hk.trans (h.kp.mono hQ)⟩
set_option maxRecDepth 100000 in
theorem awake_true (w : World) : Calls Try.prog 9 #[] w (AndB w (.bool true)) := by
  have hb0 : ∀ k, w.heap.size ≤ k → w.heap.size ≤ k := fun _ h => h
  go_enter Try.func9, Try.ntmps9
  go_upto_region 2 with (go_at_call 10; refine (new_st 1 1 w (by decide)).mono ?_; rintro e w1 ⟨rfl, h1, k1⟩)
  have H1 : Hid (St w1 (w.heap.size + 1) 0 (fun k => w.heap.size ≤ k) [0] [] ∧ Kp (fun k => w.heap.size ≤ k) w w1) := Lib.hid ⟨h1.mono fun k _ q => q.elim (fun f => f.elim) id, k1.mono fun k _ q => q.elim⟩
  have HS1 : Hid (w.heap.size ≤ w1.heap.size) := Lib.hid k1.size
  clear h1 k1
  generalize w.heap.size + 1 = b at *
  go_upto_region 3 with (go_at_call 17; refine (set_st (i := 0) H1.out.1 5 (by decide) (by decide) (by decide)).mono ?_; rintro e w2 h2; obtain rfl := h2.e; have H2 := Lib.hid (h2.step H1.out.2 (fun _ _ q => q) (fun k q => Nat.le_trans HS1.out q)); have HS2 := Lib.hid (Nat.le_trans HS1.out h2.kp.size); clear h2)
  go_upto_region 4 with (go_at_call 16; refine (mark_st H2.out.1 (by decide)).mono ?_; rintro e w3 h3; obtain rfl := h3.e; have H3 := Lib.hid (h3.step H2.out.2 (fun _ _ q => q) (fun k q => Nat.le_trans HS2.out q)); have HS3 := Lib.hid (Nat.le_trans HS2.out h3.kp.size); clear h3)
  go_upto_region 5 with (go_at_call 17; refine (set_st (i := 0) H3.out.1 7 (by decide) (by decide) (by decide)).mono ?_; rintro e w4 h4; obtain rfl := h4.e; have H4 := Lib.hid (h4.step H3.out.2 (fun _ _ q => q) (fun k q => Nat.le_trans HS3.out q)); have HS4 := Lib.hid (Nat.le_trans HS3.out h4.kp.size); clear h4)
  go_upto_region 7 with (go_at_call 22; refine (get_st H4.out.1 0 (by decide)).mono ?_; rintro e w5 ⟨rfl, h5⟩; have H5 := Lib.hid (And.intro (H4.out.1.grown h5) (H4.out.2.trans (Kp.none h5))); have HS5 := Lib.hid (Nat.le_trans HS4.out h5.size); clear h5)
  go_wp2_with (first
    | (go_at_call 19; refine (undo_st (m := 0) H5.out.1 (by decide) (by decide) (by decide)).mono ?_; rintro e w6 h6; obtain rfl := h6.e; have H6 := Lib.hid (h6.step H5.out.2 (fun _ _ q => q) (fun k q => Nat.le_trans HS5.out q)); have HS6 := Lib.hid (Nat.le_trans HS5.out h6.kp.size); clear h6)
    | (go_at_call 22; refine (get_st H6.out.1 0 (by decide)).mono ?_; rintro e w7 ⟨rfl, h7⟩; have H7 := Lib.hid (H6.out.2.trans (Kp.none h7)); clear h7))
  go_ret
  exact ⟨rfl, H7.out.below (fun _ _ q => q) (Nat.le_refl _)⟩
end Go.Proofs.Ytafcecacldafgaa
