/- The contract of the law's 'do': marking, undoing, forgetting (no statement of its own). -/
import Derived.Test.YtafcecacldafgaaTmB
namespace Go.Proofs.Ytafcecacldafgaa
open Go.RowKit
set_option linter.unusedVariables false
/-- No more than so many marks, no more than so many cells. -/
def Bd (lo : Nat) (C : List Int) (M : List (List Int)) : Prop := M.length ≤ 20 ∧ C.length ≤ 70 ∧ (∀ E ∈ M, E.length ≤ 70) ∧ lo ≤ C.length ∧ ∀ E ∈ M, lo ≤ E.length
def DoP (lo : Nat) (w0 : World) (t cnt x : Nat) (e : Ending) (w' : World) : Prop := e = .returned (.bool true) ∧ ∃ C M, PS w0 w' t cnt x C M C M ∧ Bd lo C M
theorem take_bd {lo : Nat} {C : List Int} {M : List (List Int)} (h : Bd lo C M) (m : Nat) : Bd lo C (M.take m) := ⟨by have := h.1; rw [List.length_take]; omega, h.2.1, fun E hE => h.2.2.1 E (List.mem_of_mem_take hE), h.2.2.2.1, fun E hE => h.2.2.2.2 E (List.mem_of_mem_take hE)⟩
abbrev actB (d i v : Int) : Obj := .cells #[.int .u8 d, .int .i64 i, .int .i64 v] 32
set_option maxRecDepth 100000 in
set_option maxHeartbeats 1000000 in
theorem do_mark {lo : Nat} {w0 w : World} {t cnt x : Nat} {d i v : Int} {C : List Int} {M : List (List Int)} (h : PS w0 w t cnt x C M C M) (hb : Bd lo C M) (hc : cnt < 100000) (hd0 : 0 ≤ d) (hd : d % 8 = 4) :
    Calls Try.prog 11 #[.pointer (some ⟨t, 0, none⟩), .pointer (some ⟨x, 0, none⟩), .agg #[.int .u8 d, .int .i64 i, .int .i64 v]] w (DoP lo w0 t (cnt + 1) x) := by
  have hga := World.grownBy_alloc w (actB d i v) none
  have h1 := h.grown hga
  obtain ⟨Q, A, c, B, e, hx⟩ := h1.form
  have c1 := hx.c1
  obtain ⟨k0, k1, k2⟩ := cells3 (heap_alloc_new w (actB d i v))
  have hdt : d.tmod 8 = 4 := by rw [Int.tmod_eq_emod_of_nonneg hd0]; exact hd
  have HB := Lib.hid hb
  by_cases hM : M.length < 20
  · have HM := Lib.hid (h1.tr fun Q hs => mark_st hs (by omega))
    have HR := Lib.hid (fun w' (q : PS w0 w' t (cnt + 1) x C (M ++ [C]) C M) => rmark_any q (by omega) (by have := HB.out.2.1; omega))
    have hMi : (M.length : Int) < 20 := by omega
    have HML := Lib.hid hM
    clear h h1 hga hb hx hM
    go_enter Try.func11, Try.ntmps11
    go_wp2_with (first
      | (go_at_call 16; refine HM.out.mono ?_; rintro e w2 ⟨rfl, h2⟩; have H2 := Lib.hid h2; clear h2)
      | (go_at_call 25; refine (HR.out _ H2.out).mono ?_; rintro e w3 ⟨rfl, h3⟩; have H3 := Lib.hid h3; clear h3))
    go_ret
    exact ⟨rfl, C, M ++ [C], H3.out, by have := HML.out; simp; omega, HB.out.2.1, fun E hE => by
      rcases List.mem_append.1 hE with hE | hE
      · exact HB.out.2.2.1 E hE
      · rw [List.mem_singleton.1 hE]; exact HB.out.2.1, HB.out.2.2.2.1, fun E hE => by
      rcases List.mem_append.1 hE with hE | hE
      · exact HB.out.2.2.2.2 E hE
      · rw [List.mem_singleton.1 hE]; exact HB.out.2.2.2.1⟩
  · have hMi : ¬ ((M.length : Int) < 20) := by omega
    have H3 := Lib.hid (h1.more (Nat.le_succ cnt))
    clear h h1 hga hb hx hM
    go_enter Try.func11, Try.ntmps11
    go_wp2_with fail
    go_ret
    exact ⟨rfl, C, M, H3.out, HB.out⟩
set_option maxRecDepth 100000 in
set_option maxHeartbeats 1000000 in
theorem do_undo {lo : Nat} {w0 w : World} {t cnt x : Nat} {d i v : Int} {C : List Int} {M : List (List Int)} (h : PS w0 w t cnt x C M C M) (hb : Bd lo C M) (hc : cnt < 100000) (hd0 : 0 ≤ d) (hd : d % 8 = 5) :
    Calls Try.prog 11 #[.pointer (some ⟨t, 0, none⟩), .pointer (some ⟨x, 0, none⟩), .agg #[.int .u8 d, .int .i64 i, .int .i64 v]] w (DoP lo w0 t (cnt + 1) x) := by
  have hga := World.grownBy_alloc w (actB d i v) none
  have h1 := h.grown hga
  have hx := h
  obtain ⟨Q, vC, vM, hx⟩ := hx
  have hbx := heap_alloc_new w (actB d i v)
  obtain ⟨k0, k1, k2⟩ := cells3 hbx
  have hdt : d.tmod 8 = 5 := by rw [Int.tmod_eq_emod_of_nonneg hd0]; exact hd
  have HB := Lib.hid hb
  have HX := Lib.hid hx.xlt
  have HBX := Lib.hid hbx
  by_cases hi : i < 0 ∨ (M.length : Int) ≤ i
  · have HR := Lib.hid (rundo_no h1 hi)
    have HU : Hid (Calls Try.prog 19 #[.pointer (some ⟨t, 0, none⟩), .int .i64 i] (w.alloc (actB d i v)) (AndG (w.alloc (actB d i v)) (.int .i64 2))) := by
      obtain ⟨Q', hs⟩ := h1.st
      exact Lib.hid (undo_st_no hs hi)
    have H1 := Lib.hid h1
    clear h h1 hga hb hx hi hbx
    go_enter Try.func11, Try.ntmps11
    go_wp2_with (first
      | (go_at_call 26; refine HR.out.mono ?_; rintro e w2 ⟨rfl, rfl⟩)
      | (go_at_call 19; refine HU.out.mono ?_; rintro e w3 ⟨rfl, h3⟩; have H3 := Lib.hid h3; clear h3))
    go_ret
    exact ⟨rfl, C, M, (H1.out.grown H3.out).more (Nat.le_succ cnt), HB.out⟩
  · obtain ⟨m, rfl⟩ : ∃ m : Nat, i = (m : Int) := ⟨i.toNat, by omega⟩
    have hm : m < M.length := by omega
    have hE := hb.2.2.1 M[m] (List.getElem_mem hm)
    have hE2 := hb.2.2.2.2 M[m] (List.getElem_mem hm)
    have HR := Lib.hid (rundo_yes h1 hm (by have := hb.1; omega) (by omega))
    have HU := Lib.hid (fun w' (q : PS w0 w' t cnt x C M M[m] (M.take m)) => q.tr fun Q hs => undo_st hs hm (by omega) (by have := HB.out.2.1; omega))
    have HF := Lib.hid (show Bd lo M[m] (M.take m) from ⟨(take_bd hb m).1, hE, (take_bd hb m).2.2.1, hE2, (take_bd hb m).2.2.2.2⟩)
    obtain ⟨E, hEe⟩ : ∃ E, M[m] = E := ⟨_, rfl⟩
    rw [hEe] at HR HU HF
    clear h h1 hga hb hx hi hm hE hE2 hEe hbx
    go_enter Try.func11, Try.ntmps11
    go_upto_region 12 with (go_at_call 26; refine HR.out.mono ?_; rintro e w2 ⟨⟨rfl, h2⟩, hf⟩; have H2 := Lib.hid h2; have HF2 := Lib.hid hf; clear h2 hf)
    have hbx2 := (HF2.out.2 w.heap.size (Array.getElem?_eq_some_iff.1 HBX.out).1 (by have := HX.out; omega)).trans HBX.out
    obtain ⟨j0, j1, j2⟩ := cells3 hbx2
    clear hbx2 k0 k1 k2
    go_wp2_with (go_at_call 19; refine (HU.out _ H2.out).mono ?_; rintro e w3 ⟨rfl, h3⟩; have H3 := Lib.hid h3; clear h3)
    go_ret
    exact ⟨rfl, E, M.take m, H3.out.more (Nat.le_succ cnt), HF.out⟩
set_option maxRecDepth 100000 in
set_option maxHeartbeats 1000000 in
theorem do_forget {lo : Nat} {w0 w : World} {t cnt x : Nat} {d i v : Int} {C : List Int} {M : List (List Int)} (h : PS w0 w t cnt x C M C M) (hb : Bd lo C M) (hc : cnt < 100000) (hd0 : 0 ≤ d) (hd : d % 8 = 7) :
    Calls Try.prog 11 #[.pointer (some ⟨t, 0, none⟩), .pointer (some ⟨x, 0, none⟩), .agg #[.int .u8 d, .int .i64 i, .int .i64 v]] w (DoP lo w0 t (cnt + 1) x) := by
  have hga := World.grownBy_alloc w (actB d i v) none
  have h1 := h.grown hga
  have hx := h
  obtain ⟨Q, vC, vM, hx⟩ := hx
  have hbx := heap_alloc_new w (actB d i v)
  obtain ⟨k0, k1, k2⟩ := cells3 hbx
  have hdt : d.tmod 8 = 7 := by rw [Int.tmod_eq_emod_of_nonneg hd0]; exact hd
  have HB := Lib.hid hb
  have HX := Lib.hid hx.xlt
  have HBX := Lib.hid hbx
  by_cases hi : i < 0 ∨ (M.length : Int) ≤ i
  · have HR := Lib.hid (rforget_no h1 hi)
    have HU : Hid (Calls Try.prog 23 #[.pointer (some ⟨t, 0, none⟩), .int .i64 i] (w.alloc (actB d i v)) (AndO (w.alloc (actB d i v)) (.int .i64 2))) := by
      obtain ⟨Q', hs⟩ := h1.st
      exact Lib.hid (forget_st_no hs hi)
    have H1 := Lib.hid h1
    clear h h1 hga hb hx hi hbx
    go_enter Try.func11, Try.ntmps11
    go_wp2_with (first
      | (go_at_call 27; refine HR.out.mono ?_; rintro e w2 ⟨rfl, rfl⟩)
      | (go_at_call 23; refine HU.out.mono ?_; rintro e w3 ⟨rfl, rfl⟩))
    go_ret
    exact ⟨rfl, C, M, H1.out.more (Nat.le_succ cnt), HB.out⟩
  · obtain ⟨m, rfl⟩ : ∃ m : Nat, i = (m : Int) := ⟨i.toNat, by omega⟩
    have hm : m < M.length := by omega
    have HR := Lib.hid (rforget_yes h1 hm (by have := hb.1; omega))
    have HU := Lib.hid (fun w' (q : PS w0 w' t cnt x C M C (M.take m)) => q.tr fun Q hs => forget_st hs hm (by omega))
    have HF := Lib.hid (take_bd hb m)
    clear h h1 hga hb hx hi hm hbx
    go_enter Try.func11, Try.ntmps11
    go_upto_region 25 with (go_at_call 27; refine HR.out.mono ?_; rintro e w2 ⟨⟨rfl, h2⟩, hf⟩; have H2 := Lib.hid h2; have HF2 := Lib.hid hf; clear h2 hf)
    have hbx2 := (HF2.out.2 w.heap.size (Array.getElem?_eq_some_iff.1 HBX.out).1 (by have := HX.out; omega)).trans HBX.out
    obtain ⟨j0, j1, j2⟩ := cells3 hbx2
    clear hbx2 k0 k1 k2
    go_wp2_with (go_at_call 23; refine (HU.out _ H2.out).mono ?_; rintro e w3 ⟨rfl, h3⟩; have H3 := Lib.hid h3; clear h3)
    go_ret
    exact ⟨rfl, C, M.take m, H3.out.more (Nat.le_succ cnt), HF.out⟩
end Go.Proofs.Ytafcecacldafgaa
