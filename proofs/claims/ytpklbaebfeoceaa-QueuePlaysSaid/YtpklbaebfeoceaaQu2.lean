/- The contract of queue's put (no statement of its own). -/
import Derived.Test.YtpklbaebfeoceaaQuM
namespace Go.Proofs.Ytpklbaebfeoceaa
open Go.RowKit
open Go.Maps (Keyed)
set_option linter.unusedVariables false
def cnt (f : Int → Option Nat) (x : Int) (s : Nat) : Nat := if (f x).isSome then s else s + 1
theorem tight {H : Type} {P : Program} {k : TypeId} {R : Value → Option (DataW H × List MemPlace)} {w : World} {b n : Nat} {D : DataW H} (h : w.ownsMap P k R b n D) : w.ownsMap P k R b (Maps.size D) D := by
  obtain ⟨es, clock, hb, F, hs, rfl⟩ := h
  refine ⟨es, clock, hb, F, ?_, rfl⟩
  rw [Maps.size_eq, length_read]
  exact Nat.le_refl _
theorem isKey_int (x : Int) : WideAt.IsKeyLit (.int .i64 x) := by simp [WideAt.IsKeyLit]
theorem key_ne {x y : Int} (h : y ≠ x) : (Lit.int .i64 y) ≠ (Lit.int .i64 x) := fun e => h (by injection e)
theorem World.Kgrow {w w' : World} (h : w.grownBy w' none) (g : Nat) : w.grownBy w' (some g) := ⟨h.os, h.tape, h.output, h.size, fun k hk _ => h.block k hk (by simp)⟩
/-- What a store into the places leaves. -/
theorem Pls.stored {w w' : World} {B m s i : Nat} {x : Int} {f : Int → Option Nat} {D : DataW Unit} (hw : (Lit.int .i64 x).wf = true) (hB : B ≤ m)
    (h0 : w.ownsMap Try.prog 3 (plainElem Try.prog 3) m s D) (hs : Maps.size D ≤ s)
    (h1 : ∀ x : Int, (Lit.int .i64 x).wf = true → Maps.has D (.int .i64 x) = (f x).isSome)
    (h2 : ∀ (x : Int) (i : Nat), (Lit.int .i64 x).wf = true → f x = some i → ∀ z, D.atKey (.int .i64 x) z = .lit (.int .i64 (i : Int)))
    (h : w'.ownsMap Try.prog 3 (plainElem Try.prog 3) m (s + 1) (D.put (.int .i64 x) (.lit (.int .i64 (i : Int))))) : Pls w' B m (upd f x i) (cnt f x s) := by
  have hsz : Maps.size (D.put (.int .i64 x) (.lit (.int .i64 (i : Int)))) ≤ cnt f x s := by
    rw [Maps.size_put (h0.tidy law), h1 x hw]
    unfold cnt
    split <;> omega
  refine ⟨hB, _, (tight h).mono hsz, hsz, fun y hy => ?_, fun y j hy hj z => ?_⟩
  · by_cases e : y = x
    · subst e
      rw [Maps.has_put_same h0.isMap (isKey_int y)]
      simp [upd]
    · rw [Maps.has_put_other (key_ne e), h1 y hy]
      simp [upd, e]
  · by_cases e : y = x
    · subst e
      rw [Maps.atKey_put_same h0.isMap (isKey_int y)]
      have hj : some i = some j := by simpa [upd] using hj
      injection hj with hj
      rw [hj]
    · rw [Maps.atKey_put_other (key_ne e)]
      simp only [upd, if_neg e] at hj
      exact h2 y j hy hj z
def PutP (B b m at_ s : Nat) (N x p : Int) (v : Value) (l : List It) (f : Int → Option Nat) (w : World) (e : Ending) (w' : World) : Prop :=
  e = .returned (.tuple #[]) ∧ Hd w' b N v m ∧ Its w' B v (l.set at_ (x, p)) ∧ Pls w' B m (upd f x at_) (cnt f x s) ∧ Kp (fun j => j = m ∨ v.ownBlock = some j) w w'
set_option maxRecDepth 100000 in
set_option maxHeartbeats 1000000 in
theorem put_any (B b m at_ s : Nat) (N x p : Int) (v : Value) (l : List It) (f : Int → Option Nat) (w : World) (hH : Hd w b N v m) (hI : Its w B v l) (hP : Pls w B m f s)
    (hat : at_ < l.length) (hs : s < 1000000) (hl : l.length < 1000000) (hx : -9223372036854775808 ≤ x ∧ x ≤ 9223372036854775807) :
    Calls Try.prog 22 #[.pointer (some ⟨b, 0, none⟩), .int .i64 (at_ : Int), .agg #[.int .i64 x, .int .i64 p]] w (PutP B b m at_ s N x p v l f w) := by
  obtain ⟨g, c, rfl, hBg, hgl⟩ := hI.form (by omega)
  have hgb := Its.ne_hd hI rfl hH
  have hgm := Its.ne_map hI rfl hP
  have hmb := Pls.ne_hd hP hH
  have hk := Maps.keyOf_int_mk (P := Try.prog) Try.underlying3 (wf_int hx.1 hx.2)
  have hw := wf_int hx.1 hx.2
  have hpe := plainElem_int (H := Unit) (P := Try.prog) Try.underlying3 (wf_int (x := (at_ : Int)) (by omega) (by omega))
  have HW := Lib.hid hw
  have HK := Lib.hid hk
  have HE := Lib.hid hpe
  have hbl := hH.lt
  have hga := World.grownBy_alloc w (.cells #[.int .i64 x, .int .i64 p] 59) none
  have hIa := hI.kept hga (Or.inr (by simp [Value.ownBlock]))
  have c1 := (hH.kept hga (by simp)).c1
  have k0 : (w.alloc (.cells #[.int .i64 x, .int .i64 p] 59)).cell? ⟨w.heap.size, 0, none⟩ = some (.int .i64 x) := by rw [cell_of_row _ _ _ _ _ _ (heap_alloc_new w _)]; rfl
  have k1 : (w.alloc (.cells #[.int .i64 x, .int .i64 p] 59)).cell? ⟨w.heap.size, 1, none⟩ = some (.int .i64 p) := by rw [cell_of_row _ _ _ _ _ _ (heap_alloc_new w _)]; rfl
  have d0 := hIa.at0 at_ hat
  have d1 := hIa.at1 at_ hat
  have f0 := World.ownsRow.frozenAt hIa (at_ * 2)
  have f1 := World.ownsRow.frozenAt hIa (at_ * 2 + 1)
  have HH := Lib.hid hH
  have HA := Lib.hid hga
  have HI := Lib.hid hIa
  have HP := Lib.hid hP
  clear hw hk hpe hH hI hP hx hga hIa
  go_enter Try.func22, Try.ntmps22
  go_wp2_with fail
  generalize w.alloc (.cells #[.int .i64 x, .int .i64 p] 59) = w1 at *
  go_still_tail 7, (by kernel_rfl)
  change wpList _ _ _ _ _ w1.drew
  have HI2 : Hid (Its w1.drew B (.slice (some ⟨g, 0, none⟩) l.length c) l) := HI
  have HA2 : Hid (w.grownBy w1.drew none) := Lib.hid ⟨HA.out.os, HA.out.tape, HA.out.output, HA.out.size, HA.out.block⟩
  have d0' : w1.drew.cell? ⟨g, at_ * 2, none⟩ = some (.int .i64 l[at_].fst) := d0
  have d1' : w1.drew.cell? ⟨g, at_ * 2 + 1, none⟩ = some (.int .i64 l[at_].snd) := d1
  have f0' : w1.drew.frozen? ⟨g, at_ * 2, none⟩ = false := f0
  have f1' : w1.drew.frozen? ⟨g, at_ * 2 + 1, none⟩ = false := f1
  have k0' : w1.drew.cell? ⟨w.heap.size, 0, none⟩ = some (.int .i64 x) := k0
  clear c1 k0 k1 d0 d1 f0 f1 HA HI
  generalize w1.drew = w2 at *
  go_wp2_with fail
  obtain ⟨hI3, hg3⟩ := HI2.out.store at_ x p
  have hg4 := World.grownBy.trans (World.Kgrow HA2.out g) hg3
  have k3 := hg3.cell k0' (by simp; omega)
  have HI3 := Lib.hid hI3
  have HG3 := Lib.hid hg4
  clear hI3 hg3 hg4 d0' d1' f0' f1' k0' HI2 HA2
  generalize (w2.setCell ⟨g, at_ * 2, none⟩ (.int .i64 x)).setCell ⟨g, at_ * 2 + 1, none⟩ (.int .i64 p) = w3 at *
  have c2 := (HH.out.kept HG3.out (by simp; omega)).c2
  go_still_tail 7, (by kernel_rfl)
  change wpList _ _ _ _ _ w3.drew
  have HP3 := Lib.hid (HP.out.kept HG3.out (by simp; omega))
  obtain ⟨hB, D, ho, h1, h2, h3⟩ := HP3.out
  have HO := Lib.hid ho
  have H1 := Lib.hid h1
  have H2 := Lib.hid h2
  have H3 := Lib.hid h3
  clear ho h1 h2 h3
  refine wpList_mapUpdate_own _ rfl _ _ _ 54 rfl 3 3 law Try.underlying54 _ m s D rfl HO.out (by unfold maxLen; omega) _ _ _ rfl rfl HK.out _ [] HE.out ?_
  intro w4 ho4 hg4
  have HO4 := Lib.hid ho4
  have HG4 := Lib.hid hg4
  clear ho4 hg4
  go_wp2_with fail
  go_end0
  have hg5 : w3.grownBy w4 (some m) := ⟨HG4.out.os, HG4.out.tape, HG4.out.output, HG4.out.size, HG4.out.block⟩
  refine ⟨rfl, (HH.out.kept HG3.out (by simp; omega)).kept hg5 (by simp; omega), HI3.out.kept hg5 (Or.inr (by simp [Value.ownBlock]; omega)), Pls.stored HW.out hB HO.out H1.out H2.out H3.out HO4.out, ?_⟩
  exact (Kp.of_grown HG3.out (fun k hk => by injection hk with hk; subst hk; exact Or.inr rfl)).trans (Kp.of_grown hg5 (fun k hk => by injection hk with hk; subst hk; exact Or.inl rfl))
end Go.Proofs.Ytpklbaebfeoceaa
