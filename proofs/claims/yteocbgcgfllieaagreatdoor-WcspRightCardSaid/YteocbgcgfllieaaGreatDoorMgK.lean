/- Texts of this seat laid together (no statement of its own). -/
import Derived.Test.YteocbgcgfllieaaGreatDoorMgJ
import Derived.Test.YteocbgcgfllieaaGreatDoorMgF
namespace Go.Proofs.YteocbgcgfllieaaGreatDoor
open Go.RowKit
set_option linter.unusedVariables false
/-- What a reader knows behind a line's tuple. -/
def LT1 (s : ByteArray) (sizes scope : List Nat) (b sc : Nat) (v : RdV) (st : RdS) (E : RdR (List LineM)) (x : List Nat) (W : World) : Prop :=
  (∃ st3, tupleM s.data.toList sizes scope [] st = .ok x st3 ∧ RdOk W b sc s st3 v) ∨ ∃ e p, RdBad W b e p { v with fp := (p : Int), fe := (e : Int) } ∧ E = .bad e p
def LC1 (s : ByteArray) (sizes scope : List Nat) (b sc : Nat) (v : RdV) (st : RdS) (E : RdR (List LineM)) (x : List Nat) (n pc : Int) (W : World) : Prop :=
  (∃ st3 st4 n0 p0, tupleM s.data.toList sizes scope [] st = .ok x st3 ∧ numM s.data.toList 0 farZ st3 = .ok (n0, p0) st4 ∧ n = min n0 v.top ∧ pc = (p0 : Nat) ∧ RdOk W b sc s st4 v) ∨ ∃ e p, RdBad W b e p { v with fp := (p : Int), fe := (e : Int) } ∧ E = .bad e p
def LN1 (s : ByteArray) (sizes scope : List Nat) (b sc : Nat) (v : RdV) (st : RdS) (E : RdR (List LineM)) (x : List Nat) (W : World) : Prop :=
  (∃ st3 st4 n0 p0, tupleM s.data.toList sizes scope [] st = .ok x st3 ∧ numM s.data.toList 0 farZ st3 = .ok (n0, p0) st4 ∧ RdBad W b 4 p0 { v with fp := (p0 : Int), fe := 4 }) ∨ ∃ e p, RdBad W b e p { v with fp := (p : Int), fe := (e : Int) } ∧ E = .bad e p
theorem costL {b sc : Nat} {s : ByteArray} {sizes scope : List Nat} {v : RdV} {st : RdS} {E : RdR (List LineM)} {x : List Nat} {W : World} (hE : ∀ x st3 e p, tupleM s.data.toList sizes scope [] st = .ok x st3 → numM s.data.toList 0 farZ st3 = .bad e p → E = .bad e p)
    (h : LT1 s sizes scope b sc v st E x W) : Calls Tryz.prog 85 #[.pointer (some ⟨b, 0, none⟩)] W fun e w' => ∃ n pc, e = .returned (.tuple #[.int .i64 n, .int .i64 pc]) ∧ RK W b sc w' ∧ LC1 s sizes scope b sc v st E x n pc w' := by
  rcases h with ⟨st3, h1, h2⟩ | ⟨e, p, h1, h2⟩
  · cases hq : numM s.data.toList 0 farZ st3 with
    | ok np st4 =>
      obtain ⟨n0, p0⟩ := np
      exact (costR_ok b sc s st3 st4 v n0 p0 W h2 hq).mono fun e w' hh => ⟨_, _, hh.1, hh.2.1, .inl ⟨st3, st4, n0, p0, h1, hq, rfl, rfl, hh.2.2⟩⟩
    | bad e p =>
      exact (costR_bad b sc s st3 v e p W h2 hq).mono fun e' w' hh => ⟨_, _, hh.1, hh.2.1, .inr ⟨e, p, hh.2.2, hE x st3 e p h1 hq⟩⟩
  · exact (costR_still b e p _ W h1).mono fun e' w' hh => ⟨_, _, hh.1, RK.below hh.2.1, .inr ⟨e, p, hh.2.2, h2⟩⟩
theorem noteL {b sc : Nat} {s : ByteArray} {sizes scope : List Nat} {v : RdV} {st : RdS} {E : RdR (List LineM)} {x : List Nat} {n pc : Int} {W : World} (h : LC1 s sizes scope b sc v st E x n pc W) :
    Calls Tryz.prog 81 #[.pointer (some ⟨b, 1, none⟩), .int .i64 pc, .int .i64 4] W fun e w' => (∃ u, e = .returned u) ∧ RK W b sc w' ∧ LN1 s sizes scope b sc v st E x w' := by
  rcases h with ⟨st3, st4, n0, p0, h1, h2, -, rfl, h5⟩ | ⟨e, p, h1, h2⟩
  · refine (note_new b 1 (p0 : Int) 4 W _ _ h5.at_ (Or.inr ⟨v.fp, rfl⟩) (h5.fine ▸ rfl)).mono ?_
    rintro e w' ⟨hu, q1, q2⟩
    exact ⟨hu, RK.grown1 q2, .inl ⟨st3, st4, n0, p0, h1, h2, h5.told (by decide) q1 q2⟩⟩
  · refine (note_old b 1 pc 4 e W h1.fault (by have := h1.ne; omega)).mono ?_
    rintro e' w' ⟨hu, rfl⟩
    exact ⟨hu, RK.refl _ _ _, .inr ⟨e, p, h1, h2⟩⟩
theorem tupleL {b sc cs cc : Nat} {As Ac : Option Addr} {sizes scope : List Nat} {s : ByteArray} {st : RdS} {v : RdV} {E : RdR (List LineM)} {W : World} (hE : ∀ e p, tupleM s.data.toList sizes scope [] st = .bad e p → E = .bad e p) (hnv : sizes.length ≤ 100000) (hsm : ∀ x ∈ sizes, x ≤ 4611686018427387904) (hlen : scope.length ≤ 100001) (hin : ∀ x ∈ scope, x < sizes.length)
    (h : RdOk W b sc s st v) (hv : v.sizes = .slice As sizes.length cs) (hS : IntsK W b sc As sizes) (hC : IntsK W b sc Ac scope) :
    Calls Tryz.prog 98 #[.pointer (some ⟨b, 0, none⟩), .slice Ac scope.length cc] W fun e w' => ∃ A c x, e = .returned (.slice A x.length c) ∧ x.length = scope.length ∧ (∀ z ∈ x, z ≤ 4611686018427387904) ∧ IntsT w' b sc A x ∧ RK W b sc w' ∧ LT1 s sizes scope b sc v st E x w' := by
  refine (tupleR b sc cs cc As Ac sizes scope s st v W hnv hsm hlen hin h hv hS hC).mono ?_
  rintro e w' ⟨A, c, x, rfl, h1, h2, h3, h4, h5⟩
  rw [← h1] at h3 ⊢
  refine ⟨A, c, x, rfl, rfl, h2, IntsT.own h3 h.lt h.scan.lt, h4, ?_⟩
  cases hq : tupleM s.data.toList sizes scope [] st with
  | ok a st3 =>
    rw [hq] at h5
    obtain ⟨rfl, h6⟩ := h5
    exact .inl ⟨st3, hq, h6⟩
  | bad e p =>
    rw [hq] at h5
    exact .inr ⟨e, p, h5, hE e p hq⟩
theorem textL_len (l : List Nat) (h : ∀ z ∈ l, z ≤ 4611686018427387904) : (textL l).length ≤ 22 * l.length := by
  have t : ∀ r : List Nat, (∀ z ∈ r, z ≤ 4611686018427387904) → (Lib.joinTail [32] (r.map fun n : Nat => Lib.itoa (n : Int))).length ≤ 22 * r.length := by
    intro r
    induction r with
    | nil => intro _; simp [Lib.joinTail]
    | cons a q ih =>
      intro hr
      have h1 := ih (fun z hz => hr z (by simp [hz]))
      have h2 := itoa_len (a : Int) (by omega) (by have := hr a (by simp); omega)
      simp [Lib.joinTail] at h1 ⊢
      omega
  cases l with
  | nil => simp [textL, Lib.join]
  | cons a r =>
    have h1 := t r (fun z hz => h z (by simp [hz]))
    have h2 := itoa_len (a : Int) (by omega) (by have := h a (by simp); omega)
    simp only [textL, List.map_cons, Lib.join_cons, List.length_append, List.length_cons]
    omega
theorem textRK {b sc c : Nat} {A : Option Addr} {x : List Nat} {W : World} (hl : x.length ≤ 100001) (hz : ∀ z ∈ x, z ≤ 4611686018427387904) (h : IntsK W b sc A x) (hT : TabK W b sc) :
    Calls Tryz.prog 99 #[.slice A x.length c] W fun e w' => e = .returned (.string ⟨(textL x).toArray⟩) ∧ Below W.heap.size W w' :=
  textR c A x W hl hz (by have := textL_len x hz; omega) h.ints hT.1
theorem LC1.below {b sc : Nat} {s : ByteArray} {sizes scope : List Nat} {v : RdV} {st : RdS} {E : RdR (List LineM)} {x : List Nat} {n pc : Int} {W W' : World} (h : LC1 s sizes scope b sc v st E x n pc W) (hb : Below W.heap.size W W') : LC1 s sizes scope b sc v st E x n pc W' := by
  rcases h with ⟨st3, st4, n0, p0, h1, h2, h3, h4, h5⟩ | ⟨e, p, h1, h2⟩
  · exact .inl ⟨st3, st4, n0, p0, h1, h2, h3, h4, h5.below hb⟩
  · exact .inr ⟨e, p, h1.below hb, h2⟩
/-- A block that the reader doesn't know may change. -/
theorem RdOk.other {W W' : World} {b sc mb : Nat} {s : ByteArray} {st : RdS} {v : RdV} (h : RdOk W b sc s st v) (hg : W.grownBy W' (some mb)) (h1 : b ≠ mb) (h2 : sc ≠ mb) (h3 : 1 ≠ mb) : RdOk W' b sc s st v := by
  refine ⟨h.at_.next hg (fun e => h1 (Option.some.inj e)), h.vsc, (hg.block sc h.scan.lt (fun e => h2 (Option.some.inj e))).trans h.scan, h.ne, h.le, h.fits, h.fine, h.big, ?_, h.gb, h.gs⟩
  exact h.glob.rk (RK.grown1 (q := mb) hg) h3 h3
theorem RdBad.other {W W' : World} {b mb e p : Nat} {v : RdV} (h : RdBad W b e p v) (hg : W.grownBy W' (some mb)) (h1 : b ≠ mb) (h3 : 1 ≠ mb) : RdBad W' b e p v :=
  ⟨h.at_.next hg (fun e => h1 (Option.some.inj e)), h.fe, h.fp, h.ne, h.glob.rk (RK.grown1 (q := mb) hg) h3 h3, h.gb⟩
theorem LC1.other {b sc mb : Nat} {s : ByteArray} {sizes scope : List Nat} {v : RdV} {st : RdS} {E : RdR (List LineM)} {x : List Nat} {n pc : Int} {W W' : World} (h : LC1 s sizes scope b sc v st E x n pc W) (hg : W.grownBy W' (some mb)) (h1 : b ≠ mb) (h2 : sc ≠ mb) (h3 : 1 ≠ mb) : LC1 s sizes scope b sc v st E x n pc W' := by
  rcases h with ⟨st3, st4, n0, p0, k1, k2, k3, k4, k5⟩ | ⟨e, p, k1, k2⟩
  · exact .inl ⟨st3, st4, n0, p0, k1, k2, k3, k4, k5.other hg h1 h2 h3⟩
  · exact .inr ⟨e, p, k1.other hg h1 h3, k2⟩
end Go.Proofs.YteocbgcgfllieaaGreatDoor

namespace Go.Proofs.YteocbgcgfllieaaGreatDoor
open Go.RowKit
set_option linter.unusedVariables false
theorem RdOk.quiet {W W' : World} {b sc : Nat} {s : ByteArray} {st : RdS} {v : RdV} (h : RdOk W b sc s st v) (hg : W.grownBy W' none) : RdOk W' b sc s st v := by
  have hb : Below W.heap.size W W' := ⟨hg.os, hg.tape, hg.output, hg.size, fun k hk => hg.block k hk (by simp)⟩
  exact h.below hb
theorem past_end {l : List UInt8} {k : Nat} (hk : k ≤ l.length) : stepW l k = .none ↔ pastP isB l k = l.length := by
  constructor
  · intro h; exact (stepW_none hk h).1
  · intro h
    cases hq : stepW l k with
    | none => rfl
    | word f t =>
      have := stepW_word hk hq
      omega
    | bad b =>
      have := stepW_bad hk hq
      have h2 := pastP_le isW l (k := l.length) (Nat.le_refl _)
      obtain ⟨h3, h4, _⟩ := this
      rw [h] at h3
      have h5 := pastP_ge isW l (k := l.length)
      omega
theorem RdOk.fault0 {W : World} {b sc : Nat} {s : ByteArray} {st : RdS} {v : RdV} (h : RdOk W b sc s st v) : W.cell? ⟨b, 1 + 1, none⟩ = some (.int .i64 0) := h.fine ▸ h.at_.cell (i := 2) rfl
theorem past_no {s : ByteArray} {k : Nat} (hk : k ≤ s.size) (hr : stepW s.data.toList k = .none) : decide (pastP isB s.data.toList k < s.size) = false := by
  have h := (past_end (l := s.data.toList) (k := k) (by rw [size_list]; exact hk)).1 hr
  rw [size_list] at h
  exact decide_eq_false (by omega)
theorem past_yes {s : ByteArray} {k : Nat} (hk : k ≤ s.size) (hr : stepW s.data.toList k ≠ .none) : decide (pastP isB s.data.toList k < s.size) = true := by
  have h : ¬ pastP isB s.data.toList k = s.data.toList.length := fun h => hr ((past_end (by rw [size_list]; exact hk)).2 h)
  have h2 := pastP_le isB s.data.toList (k := k) (by rw [size_list]; exact hk)
  rw [size_list] at h h2
  exact decide_eq_true (by omega)
theorem endR_none (b sc : Nat) (s : ByteArray) (st : RdS) (v : RdV) (w : World) (h : RdOk w b sc s st v) (hr : stepW s.data.toList st.k = .none) :
    Calls Tryz.prog 65 #[.pointer (some ⟨b, 0, none⟩)] w fun e w' => (∃ u, e = .returned u) ∧ RK w b sc w' ∧ RdOk w' b sc s st v := by
  have RT := Lib.hid (right_at b 1 0 w h.fault0)
  have MO := Lib.hid (more_any sc s st.k w (Nat.le_trans h.fits (by decide)) h.le h.scan)
  have c0 : w.cell? ⟨b, 0, none⟩ = some (.pointer (some ⟨sc, 0, none⟩)) := h.vsc ▸ h.at_.cell (i := 0) rfl
  rw [past_no h.le hr] at MO
  have HH := Lib.hid h
  clear h hr
  go_enter Tryz.func65, Tryz.ntmps65
  go_wp2_with (first | (go_at_call 31; refine RT.out.mono ?_; rintro e w' ⟨rfl, rfl⟩) | (go_at_call 87; refine MO.out.mono ?_; rintro e w1 ⟨rfl, hg⟩; replace hg := Lib.hid hg) | fail)
  go_end0
  have hB : Below w.heap.size w w1 := ⟨hg.out.os, hg.out.tape, hg.out.output, hg.out.size, fun k hk => hg.out.block k hk (by simp)⟩
  exact ⟨⟨_, rfl⟩, RK.below hB, HH.out.below hB⟩
theorem endR_word (b sc : Nat) (s : ByteArray) (st : RdS) (v : RdV) (f t : Nat) (w : World) (h : RdOk w b sc s st v) (hr : stepW s.data.toList st.k = .word f t) :
    Calls Tryz.prog 65 #[.pointer (some ⟨b, 0, none⟩)] w fun e w' => (∃ u, e = .returned u) ∧ RK w b sc w' ∧ RdBad w' b 4 f { v with fp := (f : Int), fe := 4 } := by
  have RT := Lib.hid (right_at b 1 0 w h.fault0)
  have MO := Lib.hid (more_any sc s st.k w (Nat.le_trans h.fits (by decide)) h.le h.scan)
  have c0 : w.cell? ⟨b, 0, none⟩ = some (.pointer (some ⟨sc, 0, none⟩)) := h.vsc ▸ h.at_.cell (i := 0) rfl
  rw [past_yes h.le (by rw [hr]; intro hc; cases hc)] at MO
  have WD := Lib.hid (fun W (hg : w.grownBy W none) => wordR_ok b sc s st v f t W (h.quiet hg) hr)
  have NT := Lib.hid (fun W (ho : RdOk W b sc s ⟨t, st.big⟩ v) => note_new b 1 (f : Int) 4 W _ _ ho.at_ (Or.inr ⟨v.fp, rfl⟩) (ho.fine ▸ rfl))
  have HH := Lib.hid h
  clear h hr
  go_enter Tryz.func65, Tryz.ntmps65
  go_wp2_with (first | (go_at_call 31; refine RT.out.mono ?_; rintro e w' ⟨rfl, rfl⟩) | (go_at_call 87; refine MO.out.mono ?_; rintro e w1 ⟨rfl, hg⟩; replace hg := Lib.hid hg) | (go_at_call 60; refine (WD.out _ hg.out).mono ?_; rintro e w2 ⟨rfl, hk, ho⟩; replace hk := Lib.hid hk; replace ho := Lib.hid ho) | (go_at_call 81; refine (NT.out _ ho.out).mono ?_; rintro e w3 ⟨⟨_, rfl⟩, z1, z2⟩) | fail)
  go_end0
  have hB : Below w.heap.size w w1 := ⟨hg.out.os, hg.out.tape, hg.out.output, hg.out.size, fun k hk => hg.out.block k hk (by simp)⟩
  exact ⟨⟨_, rfl⟩, ((RK.below hB).trans hk.out).trans (RK.grown1 z2), ho.out.told (by decide) z1 z2⟩
theorem endR_bad (b sc : Nat) (s : ByteArray) (st : RdS) (v : RdV) (t : Nat) (w : World) (h : RdOk w b sc s st v) (hr : stepW s.data.toList st.k = .bad t) :
    Calls Tryz.prog 65 #[.pointer (some ⟨b, 0, none⟩)] w fun e w' => (∃ u, e = .returned u) ∧ RK w b sc w' ∧ RdBad w' b 11 t { v with fp := (t : Int), fe := 11 } := by
  have RT := Lib.hid (right_at b 1 0 w h.fault0)
  have MO := Lib.hid (more_any sc s st.k w (Nat.le_trans h.fits (by decide)) h.le h.scan)
  have c0 : w.cell? ⟨b, 0, none⟩ = some (.pointer (some ⟨sc, 0, none⟩)) := h.vsc ▸ h.at_.cell (i := 0) rfl
  rw [past_yes h.le (by rw [hr]; intro hc; cases hc)] at MO
  have WD := Lib.hid (fun W (hg : w.grownBy W none) => wordR_bad b sc s st v t W (h.quiet hg) hr)
  have NT := Lib.hid (fun W (ho : RdBad W b 11 t { v with fp := (t : Int), fe := 11 }) => note_old b 1 (t : Int) 4 11 W (ho.at_.cell (i := 2) rfl) (by decide))
  have HH := Lib.hid h
  clear h hr
  go_enter Tryz.func65, Tryz.ntmps65
  go_wp2_with (first | (go_at_call 31; refine RT.out.mono ?_; rintro e w' ⟨rfl, rfl⟩) | (go_at_call 87; refine MO.out.mono ?_; rintro e w1 ⟨rfl, hg⟩; replace hg := Lib.hid hg) | (go_at_call 60; refine (WD.out _ hg.out).mono ?_; rintro e w2 ⟨rfl, hk, ho⟩; replace hk := Lib.hid hk; replace ho := Lib.hid ho) | (go_at_call 81; refine (NT.out _ ho.out).mono ?_; rintro e w3 ⟨⟨_, rfl⟩, rfl⟩) | fail)
  go_end0
  have hB : Below w.heap.size w w1 := ⟨hg.out.os, hg.out.tape, hg.out.output, hg.out.size, fun k hk => hg.out.block k hk (by simp)⟩
  exact ⟨⟨_, rfl⟩, (RK.below hB).trans hk.out, ho.out⟩
theorem endR_still (b e p : Nat) (v : RdV) (w : World) (h : RdBad w b e p v) :
    Calls Tryz.prog 65 #[.pointer (some ⟨b, 0, none⟩)] w fun e' w' => (∃ u, e' = .returned u) ∧ w = w' := by
  have RT := Lib.hid (right_at b 1 (e : Int) w (h.fe ▸ h.at_.cell (i := 2) rfl))
  have d : ((e : Int) == 0) = false := by have := h.ne; simpa using this
  rw [d] at RT
  clear h d
  go_enter Tryz.func65, Tryz.ntmps65
  go_wp2_with (first | (go_at_call 31; refine RT.out.mono ?_; rintro e w' ⟨rfl, rfl⟩) | fail)
  go_end0
  exact ⟨⟨_, rfl⟩, rfl⟩
end Go.Proofs.YteocbgcgfllieaaGreatDoor
