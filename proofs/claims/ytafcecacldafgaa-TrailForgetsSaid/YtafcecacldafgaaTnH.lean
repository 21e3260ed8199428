/- Two trails, apart from one another (no statement of its own). -/
import Derived.Test.YtafcecacldafgaaTnG
namespace Go.Proofs.Ytafcecacldafgaa
open Go.RowKit
set_option linter.unusedVariables false
structure AB (w0 wr : World) (a b ca cb : Nat) (C D : List Int) (La Lb : List (List Int)) : Prop where
  ex : ∃ Qa Qb : Nat → Prop, St wr a ca Qa C La ∧ St wr b cb Qb D Lb ∧ (∀ k, Qa k → ¬ Qb k) ∧ (∀ k, Qa k → w0.heap.size ≤ k ∧ k < wr.heap.size) ∧ ∀ k, Qb k → w0.heap.size ≤ k ∧ k < wr.heap.size
  kp : Kp (fun k => w0.heap.size ≤ k) w0 wr
theorem AB.below {w0 w : World} {a b ca cb : Nat} {C D : List Int} {La Lb : List (List Int)} (h : AB w0 w a b ca cb C D La Lb) : Below w0.heap.size w0 w := h.kp.below (fun _ _ q => q) (Nat.le_refl _)
theorem AB.swap {w0 w : World} {a b ca cb : Nat} {C D : List Int} {La Lb : List (List Int)} (h : AB w0 w a b ca cb C D La Lb) : AB w0 w b a cb ca D C Lb La := by
  obtain ⟨⟨Qa, Qb, h1, h2, h3, h4, h5⟩, h6⟩ := h
  exact ⟨⟨Qb, Qa, h2, h1, fun k q p => h3 k p q, h5, h4⟩, h6⟩
theorem AB.more {w0 w : World} {a b ca cb ka kb : Nat} {C D : List Int} {La Lb : List (List Int)} (h : AB w0 w a b ca cb C D La Lb) (h1 : ca ≤ ka) (h2 : cb ≤ kb) : AB w0 w a b ka kb C D La Lb := by
  obtain ⟨⟨Qa, Qb, g1, g2, g3⟩, g4⟩ := h
  exact ⟨⟨Qa, Qb, g1.more h1, g2.more h2, g3⟩, g4⟩
theorem AB.grown {w0 w w' : World} {a b ca cb : Nat} {C D : List Int} {La Lb : List (List Int)} (h : AB w0 w a b ca cb C D La Lb) (hg : w.grownBy w' none) : AB w0 w' a b ca cb C D La Lb := by
  obtain ⟨⟨Qa, Qb, h1, h2, h3, h4, h5⟩, h6⟩ := h
  exact ⟨⟨Qa, Qb, h1.grown hg, h2.grown hg, h3, fun k q => ⟨(h4 k q).1, Nat.lt_of_lt_of_le (h4 k q).2 hg.size⟩, fun k q => ⟨(h5 k q).1, Nat.lt_of_lt_of_le (h5 k q).2 hg.size⟩⟩, h6.trans (Kp.none hg)⟩
def AndAB (w0 : World) (a b ca cb : Nat) (C D : List Int) (La Lb : List (List Int)) (u : Value) (e : Ending) (w' : World) : Prop := e = .returned u ∧ AB w0 w' a b ca cb C D La Lb
theorem ab_next {w0 w w' : World} {a b ca' cb : Nat} {C' D : List Int} {La' Lb : List (List Int)} {u : Value} {e : Ending} {Qa Qb : Nat → Prop} (h2 : St w b cb Qb D Lb) (h3 : ∀ k, Qa k → ¬ Qb k) (h4 : ∀ k, Qa k → w0.heap.size ≤ k ∧ k < w.heap.size) (h5 : ∀ k, Qb k → w0.heap.size ≤ k ∧ k < w.heap.size)
    (h6 : Kp (fun k => w0.heap.size ≤ k) w0 w) (q : AndS Qa w a ca' C' La' u e w') : AndAB w0 a b ca' cb C' D La' Lb u e w' := by
  have h0 := h6.size
  have hs := q.kp.size
  refine ⟨q.e, ⟨fun k => Plus Qa w k ∧ k < w'.heap.size, Qb, q.st.mono fun k hk p => ⟨p, hk⟩, h2.kept (q.kp.mono fun k _ p => h3 k p), fun k p r => ?_, fun k p => ⟨p.1.elim (fun r => (h4 k r).1) (fun r => Nat.le_trans h0 r), p.2⟩, fun k p => ⟨(h5 k p).1, Nat.lt_of_lt_of_le (h5 k p).2 hs⟩⟩, h6.trans (q.kp.mono fun k _ p => (h4 k p).1)⟩
  rcases p.1 with p | p
  · exact h3 k p r
  · have := (h5 k r).2; omega
theorem set_a {w0 w : World} {a b ca cb i : Nat} {C D : List Int} {La Lb : List (List Int)} (h : AB w0 w a b ca cb C D La Lb) (v : Int) (hi : i < C.length) (hn : ca < 1000000) (hC : C.length ≤ 2097152) :
    Calls Try.prog 17 #[.pointer (some ⟨a, 0, none⟩), .int .i64 (i : Int), .int .i64 v] w (AndAB w0 a b (ca + 1) cb (C.set i v) D La Lb (.int .i64 0)) := by
  obtain ⟨⟨Qa, Qb, h1, h2, h3, h4, h5⟩, h6⟩ := h
  exact (set_st h1 v hi hn hC).mono fun e w' q => ab_next h2 h3 h4 h5 h6 q
theorem set_b {w0 w : World} {a b ca cb i : Nat} {C D : List Int} {La Lb : List (List Int)} (h : AB w0 w a b ca cb C D La Lb) (v : Int) (hi : i < D.length) (hn : cb < 1000000) (hD : D.length ≤ 2097152) :
    Calls Try.prog 17 #[.pointer (some ⟨b, 0, none⟩), .int .i64 (i : Int), .int .i64 v] w (AndAB w0 a b ca (cb + 1) C (D.set i v) La Lb (.int .i64 0)) :=
  (set_a h.swap v hi hn hD).mono fun e w' q => ⟨q.1, q.2.swap⟩
theorem mark_a {w0 w : World} {a b ca cb : Nat} {C D : List Int} {La Lb : List (List Int)} (h : AB w0 w a b ca cb C D La Lb) (hn : ca < 1000000) :
    Calls Try.prog 16 #[.pointer (some ⟨a, 0, none⟩)] w (AndAB w0 a b (ca + 1) cb C D (La ++ [C]) Lb (.int .i64 (La.length : Int))) := by
  obtain ⟨⟨Qa, Qb, h1, h2, h3, h4, h5⟩, h6⟩ := h
  exact (mark_st h1 hn).mono fun e w' q => ab_next h2 h3 h4 h5 h6 q
theorem mark_b {w0 w : World} {a b ca cb : Nat} {C D : List Int} {La Lb : List (List Int)} (h : AB w0 w a b ca cb C D La Lb) (hn : cb < 1000000) :
    Calls Try.prog 16 #[.pointer (some ⟨b, 0, none⟩)] w (AndAB w0 a b ca (cb + 1) C D La (Lb ++ [D]) (.int .i64 (Lb.length : Int))) :=
  (mark_a h.swap hn).mono fun e w' q => ⟨q.1, q.2.swap⟩
theorem forget_a {w0 w : World} {a b ca cb m : Nat} {C D : List Int} {La Lb : List (List Int)} (h : AB w0 w a b ca cb C D La Lb) (hm : m < La.length) (hn : ca < 1000000) :
    Calls Try.prog 23 #[.pointer (some ⟨a, 0, none⟩), .int .i64 (m : Int)] w (AndAB w0 a b ca cb C D (La.take m) Lb (.int .i64 0)) := by
  obtain ⟨⟨Qa, Qb, h1, h2, h3, h4, h5⟩, h6⟩ := h
  exact (forget_st h1 hm hn).mono fun e w' q => ab_next h2 h3 h4 h5 h6 q
theorem forget_no_a {w0 w : World} {a b ca cb : Nat} {i : Int} {C D : List Int} {La Lb : List (List Int)} (h : AB w0 w a b ca cb C D La Lb) (hi : i < 0 ∨ (La.length : Int) ≤ i) :
    Calls Try.prog 23 #[.pointer (some ⟨a, 0, none⟩), .int .i64 i] w (AndO w (.int .i64 2)) := by
  obtain ⟨⟨Qa, Qb, h1, h2, h3, h4, h5⟩, h6⟩ := h
  exact forget_st_no h1 hi
theorem undo_a {w0 w : World} {a b ca cb m : Nat} {C D : List Int} {La Lb : List (List Int)} (h : AB w0 w a b ca cb C D La Lb) (hm : m < La.length) (hn : ca < 1000000) (hC : C.length ≤ 2097152) :
    Calls Try.prog 19 #[.pointer (some ⟨a, 0, none⟩), .int .i64 (m : Int)] w (AndAB w0 a b ca cb La[m] D (La.take m) Lb (.int .i64 0)) := by
  obtain ⟨⟨Qa, Qb, h1, h2, h3, h4, h5⟩, h6⟩ := h
  exact (undo_st h1 hm hn hC).mono fun e w' q => ab_next h2 h3 h4 h5 h6 q
theorem undo_b {w0 w : World} {a b ca cb m : Nat} {C D : List Int} {La Lb : List (List Int)} (h : AB w0 w a b ca cb C D La Lb) (hm : m < Lb.length) (hn : cb < 1000000) (hD : D.length ≤ 2097152) :
    Calls Try.prog 19 #[.pointer (some ⟨b, 0, none⟩), .int .i64 (m : Int)] w (AndAB w0 a b ca cb C Lb[m] La (Lb.take m) (.int .i64 0)) :=
  (undo_a h.swap hm hn hD).mono fun e w' q => ⟨q.1, q.2.swap⟩
theorem cells_a {w0 w : World} {a b ca cb : Nat} {C D : List Int} {La Lb : List (List Int)} (h : AB w0 w a b ca cb C D La Lb) (hC : C.length ≤ 100000) : Calls Try.prog 21 #[.pointer (some ⟨a, 0, none⟩)] w (CellsS w C) := by
  obtain ⟨⟨Qa, Qb, h1, h2, h3, h4, h5⟩, h6⟩ := h
  exact cells_st h1 hC
theorem depth_a {w0 w : World} {a b ca cb : Nat} {C D : List Int} {La Lb : List (List Int)} (h : AB w0 w a b ca cb C D La Lb) : Calls Try.prog 13 #[.pointer (some ⟨a, 0, none⟩)] w (AndO w (.int .i64 (La.length : Int))) := by
  obtain ⟨⟨Qa, Qb, h1, h2, h3, h4, h5⟩, h6⟩ := h
  exact depth_st h1
/-- Two new ones. -/
theorem ab_new {w w1 w2 : World} {N : Nat} (h1 : AndS (fun _ => False) w (w.heap.size + 1) 0 (List.replicate N 0) [] (.pointer (some ⟨w.heap.size + 1, 0, none⟩)) (.returned (.pointer (some ⟨w.heap.size + 1, 0, none⟩))) w1)
    (h2 : AndS (fun _ => False) w1 (w1.heap.size + 1) 0 (List.replicate N 0) [] (.pointer (some ⟨w1.heap.size + 1, 0, none⟩)) (.returned (.pointer (some ⟨w1.heap.size + 1, 0, none⟩))) w2) : AB w w2 (w.heap.size + 1) (w1.heap.size + 1) 0 0 (List.replicate N 0) (List.replicate N 0) [] [] := by
  have s1 := h1.kp.size
  have s2 := h2.kp.size
  refine ⟨⟨fun k => w.heap.size ≤ k ∧ k < w1.heap.size, fun k => w1.heap.size ≤ k ∧ k < w2.heap.size, (h1.st.mono fun k hk q => ⟨q.elim False.elim id, hk⟩).kept (h2.kp.mono fun k _ q => q.elim), h2.st.mono fun k hk q => ⟨q.elim False.elim id, hk⟩, fun k q r => by omega, fun k q => ⟨q.1, by omega⟩, fun k q => ⟨by omega, q.2⟩⟩, (h1.kp.mono fun k _ q => q.elim).trans (h2.kp.mono fun k _ q => q.elim)⟩
end Go.Proofs.Ytafcecacldafgaa
