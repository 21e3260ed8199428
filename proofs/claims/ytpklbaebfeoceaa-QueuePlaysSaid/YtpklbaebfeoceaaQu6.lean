/- The contracts of queue's New, Len, Has and Top (no statement of its own). -/
import Derived.Test.YtpklbaebfeoceaaQu5
namespace Go.Proofs.Ytpklbaebfeoceaa
open Go.RowKit
open Go.Maps (Keyed)
set_option linter.unusedVariables false
/-- A queue that has these items. -/
def QA (w : World) (B b m : Nat) (N : Int) (v : Value) (L : List It) : Prop := ∃ l f, QC w B b m l.length N v l f ∧ Heap l ∧ l.Perm L
theorem QA.kept {w w' : World} {B b m : Nat} {N : Int} {v : Value} {L : List It} (h : QA w B b m N v L) (hg : w.grownBy w' none) : QA w' B b m N v L := by
  obtain ⟨l, f, h1, h2, h3⟩ := h
  exact ⟨l, f, h1.kept hg, h2, h3⟩
theorem QA.perm {w : World} {B b m : Nat} {N : Int} {v : Value} {L L' : List It} (h : QA w B b m N v L) (hp : L.Perm L') : QA w B b m N v L' := by
  obtain ⟨l, f, h1, h2, h3⟩ := h
  exact ⟨l, f, h1, h2, h3.trans hp⟩
theorem QA.keys {w : World} {B b m : Nat} {N : Int} {v : Value} {L : List It} (h : QA w B b m N v L) : (L.map (·.1)).Nodup := by
  obtain ⟨l, f, h1, h2, h3⟩ := h
  exact (h3.map _).nodup_iff.1 h1.2.2.2.1.keys
theorem QA.hd {w : World} {B b m : Nat} {N : Int} {v : Value} {L : List It} (h : QA w B b m N v L) : Hd w b N v m := by obtain ⟨l, f, h1, _⟩ := h; exact h1.1
theorem look_pls {w : World} {B m s : Nat} {f : Int → Option Nat} (h : Pls w B m f s) {x : Int} (hx : -9223372036854775808 ≤ x ∧ x ≤ 9223372036854775807) :
    (Instr.lookup 54 (.map (some m)) (.int .i64 x) true).run Try.prog w = .ok (.tuple #[.int .i64 (((f x).getD 0 : Nat) : Int), .bool (f x).isSome]) w := by
  obtain ⟨hB, D, ho, h1, h2, h3⟩ := h
  have hw := wf_int hx.1 hx.2
  obtain ⟨v, ps, hrun, hv⟩ := ho.look_ok law Try.underlying54 (zeroI w) (plainElem_int (P := Try.prog) Try.underlying3 (by decide)) (Maps.keyOf_int_mk (P := Try.prog) Try.underlying3 hw)
  obtain ⟨c, rfl, hc, _⟩ := plainElem_int_inv Try.underlying3 hv
  rw [hrun, h2 x hw]
  have hc1 := congrArg Prod.fst hc
  simp only at hc1
  cases hf : f x with
  | none =>
    have hh : Maps.has D (.int .i64 x) = false := by rw [h2 x hw, hf]; rfl
    rw [Maps.atKey_of_not_has hh] at hc1
    simp only [DataW.lit.injEq, Lit.int.injEq, true_and] at hc1
    rw [← hc1]; rfl
  | some i =>
    rw [h3 x i hw hf] at hc1
    simp only [DataW.lit.injEq, Lit.int.injEq, true_and] at hc1
    rw [← hc1]; rfl
def NewP (w : World) (N : Int) (e : Ending) (w' : World) : Prop :=
  e = .returned (.pointer (some ⟨w.heap.size + 1, 0, none⟩)) ∧ (∀ B, B ≤ w.heap.size → QA w' B (w.heap.size + 1) w.heap.size N (.slice none 0 0) []) ∧ w.grownBy w' none ∧ w'.heap.size = w.heap.size + 2
set_option maxRecDepth 100000 in
theorem new_any (N : Int) (w : World) : Calls Try.prog 9 #[.int .i64 N] w (NewP w N) := by
  have hmm := @run_makeMap Try.prog
  go_enter Try.func9, Try.ntmps9
  go_wp2_with fail
  go_ret
  refine ⟨by simp, fun B hB => ⟨[], fun _ => none, ⟨?_, ?_, ?_, ?_, ?_⟩, ?_, List.Perm.refl _⟩, (World.grownBy_alloc w _ none).trans (World.grownBy_alloc _ _ none), by simp⟩
  · show _ = _
    have := heap_alloc_new (w.alloc (.map #[] 0)) (.cells #[.int .i64 N, .slice none 0 0, .map (some w.heap.size)] 57)
    rw [World.size_alloc] at this
    exact this
  · exact World.ownsRow_nil _ _ _ _
  · exact ⟨hB, .map [], ((World.ownsMap_made w Try.prog 3 _).alloc _), Nat.le_refl _, fun x _ => rfl, fun x i _ h => by cases h⟩
  · intro x i
    exact ⟨(fun h => by cases h), (fun h => by have := h.1; simp at this)⟩
  · intro y hy; cases hy
  · intro i hi hl; simp at hl
theorem qlen_any {B b m : Nat} {N : Int} {v : Value} {L : List It} {w : World} (h : QA w B b m N v L) : Calls Try.prog 17 #[.pointer (some ⟨b, 0, none⟩)] w fun e w' => e = .returned (.int .i64 (L.length : Int)) ∧ w = w' := by
  obtain ⟨l, f, h1, h2, h3⟩ := h
  rw [← h3.length_eq]
  obtain ⟨hH, hI, _⟩ := h1
  have c1 := hH.c1
  rcases hI.2 with ⟨rfl, h0⟩ | ⟨g, cap, cur, rfl, _⟩
  · rw [h0]
    clear hH hI h3 h2 h0
    go_enter Try.func17, Try.ntmps17
    go_wp2_with fail
    go_ret
    exact ⟨rfl, rfl⟩
  · clear hH hI h3 h2
    go_enter Try.func17, Try.ntmps17
    go_wp2_with fail
    go_ret
    exact ⟨rfl, rfl⟩
theorem qlen_nil (w : World) : Calls Try.prog 17 #[.pointer none] w fun e w' => e = .returned (.int .i64 0) ∧ w = w' := by
  go_enter Try.func17, Try.ntmps17
  go_wp2_with fail
  go_ret
  exact ⟨rfl, rfl⟩
def hasK (L : List It) (x : Int) : Bool := L.any fun y => y.1 == x
theorem hasK_iff {L : List It} {x : Int} : hasK L x = true ↔ ∃ y ∈ L, y.1 = x := by simp [hasK]
theorem hasK_f {l L : List It} {f : Int → Option Nat} (hC : Con l f) (hp : l.Perm L) (x : Int) : hasK L x = (f x).isSome := by
  rw [Bool.eq_iff_iff, hasK_iff]
  constructor
  · rintro ⟨y, hy, rfl⟩
    obtain ⟨i, hi, e⟩ := mem_nth.1 (hp.mem_iff.2 hy)
    rw [(hC y.1 i).2 ⟨hi, by rw [e]⟩]; rfl
  · intro h
    obtain ⟨i, hi⟩ := Option.isSome_iff_exists.1 h
    obtain ⟨h1, h2⟩ := (hC x i).1 hi
    exact ⟨nth l i, hp.mem_iff.1 (mem_nth.2 ⟨i, h1, rfl⟩), h2⟩
theorem has_any {B b m : Nat} {N x : Int} {v : Value} {L : List It} {w : World} (h : QA w B b m N v L) (hx : -9223372036854775808 ≤ x ∧ x ≤ 9223372036854775807) :
    Calls Try.prog 18 #[.pointer (some ⟨b, 0, none⟩), .int .i64 x] w fun e w' => e = .returned (.bool (hasK L x)) ∧ w = w' := by
  obtain ⟨l, f, h1, h2, h3⟩ := h
  rw [hasK_f h1.2.2.2.1 h3]
  have c2 := h1.1.c2
  have hlk := look_pls h1.2.2.1 hx
  clear h1 h2 h3 hx
  go_enter Try.func18, Try.ntmps18
  go_wp2_with fail
  go_ret
  exact ⟨rfl, rfl⟩
theorem has_nil (x : Int) (w : World) : Calls Try.prog 18 #[.pointer none, .int .i64 x] w fun e w' => e = .returned (.bool false) ∧ w = w' := by
  go_enter Try.func18, Try.ntmps18
  go_wp2_with fail
  go_ret
  exact ⟨rfl, rfl⟩
/-- The most urgent one of these. -/
def IsTop (L : List It) (a : It) : Prop := a ∈ L ∧ ∀ y ∈ L, ltI y a = false
def TopP (L : List It) (w : World) (e : Ending) (w' : World) : Prop :=
  w.grownBy w' none ∧ ((L = [] ∧ e = .returned (.tuple #[.int .i64 0, .int .i64 0, .bool false])) ∨ ∃ a, IsTop L a ∧ e = .returned (.tuple #[.int .i64 a.1, .int .i64 a.2, .bool true]))
set_option maxRecDepth 100000 in
set_option maxHeartbeats 1000000 in
theorem top_any {B b m : Nat} {N : Int} {v : Value} {L : List It} {w : World} (h : QA w B b m N v L) (hl : L.length < 1000000) : Calls Try.prog 10 #[.pointer (some ⟨b, 0, none⟩)] w (TopP L w) := by
  have HL := Lib.hid (qlen_any h)
  obtain ⟨l, f, h1, h2, h3⟩ := h
  have hll := h3.length_eq
  cases L with
  | nil =>
    clear h1 h2 h3 hll hl
    go_enter Try.func10, Try.ntmps10
    go_wp2_with (go_at_call 17; refine HL.out.mono ?_; rintro e w' ⟨rfl, rfl⟩)
    go_ret3
    exact ⟨World.grownBy_alloc_refl w, .inl ⟨rfl, rfl⟩⟩
  | cons a L =>
    have h0 : 0 < l.length := by rw [hll]; simp
    obtain ⟨hH, hI, _⟩ := h1
    obtain ⟨g, c, rfl, hBg, hgl⟩ := hI.form h0
    have c1 := hH.c1
    have d0 := hI.at0 0 h0
    have d1 := hI.at1 0 h0
    rw [nth_get l 0 h0] at d0 d1
    have ht : IsTop (a :: L) (nth l 0) := ⟨h3.mem_iff.1 (mem_nth.2 ⟨0, h0, rfl⟩), fun y hy => by
      obtain ⟨i, hi, e⟩ := mem_nth.1 (h3.mem_iff.2 hy)
      rw [← e]; exact heap_top h2 i hi⟩
    have HT := Lib.hid ht
    have hk : ((a :: L).length : Int) ≠ 0 := by simp; omega
    rw [← hll] at HL hk
    have hk' : ((l.length : Int) == 0) = false := by simpa using hk
    clear hk hll hl h2 h3 hH hI ht
    go_enter Try.func10, Try.ntmps10
    go_wp2_with (go_at_call 17; refine HL.out.mono ?_; rintro e w' ⟨rfl, rfl⟩)
    go_quiet (fail)
    go_wp2_with fail
    go_ret3
    exact ⟨grown_drewN (World.grownBy_alloc_refl w) _, .inr ⟨_, HT.out, rfl⟩⟩
end Go.Proofs.Ytpklbaebfeoceaa
