/- The contracts of queue's Pop, all calls in one form, and the law's awake (no statement of its own). -/
import Derived.Test.YtpklbaebfeoceaaQu8
namespace Go.Proofs.Ytpklbaebfeoceaa
open Go.RowKit
open Go.Maps (Keyed)
set_option linter.unusedVariables false
def TopE (L : List It) (a : It) (e : Ending) : Prop := IsTop L a ∧ e = .returned (.tuple #[.int .i64 a.1, .int .i64 a.2, .bool true])
def PopP (B b m : Nat) (N : Int) (v : Value) (L : List It) (w : World) (e : Ending) (w' : World) : Prop :=
  ∃ a, TopE L a e ∧ ∃ v', QA w' B b m N v' (less L a.1) ∧ KQ w b m v w' v'
theorem KQ.after {w w1 w2 : World} {b m : Nat} {v v' : Value} (hg : w.grownBy w1 none) (h : KQ w1 b m v w2 v') : KQ w b m v w2 v' := by
  refine ⟨(Kp.of_grown hg (fun k hk => by cases hk)).trans h.1, ?_⟩
  rcases h.2 with e | e | ⟨g, e, hs⟩
  · exact .inl e
  · exact .inr (.inl e)
  · exact .inr (.inr ⟨g, e, Nat.le_trans hg.size hs⟩)
theorem QA.bound {w : World} {B b m : Nat} {N : Int} {v : Value} {L : List It} (h : QA w B b m N v L) {y : It} (hy : y ∈ L) : -9223372036854775808 ≤ y.1 ∧ y.1 ≤ 9223372036854775807 := by
  obtain ⟨l, f, h1, h2, h3⟩ := h
  exact h1.2.2.2.2 y (h3.mem_iff.2 hy)
theorem top_some {L : List It} {w w' : World} {e : Ending} (h : TopP L w e w') (hL : L ≠ []) : ∃ a, IsTop L a ∧ e = .returned (.tuple #[.int .i64 a.1, .int .i64 a.2, .bool true]) ∧ w.grownBy w' none := by
  obtain ⟨hg, ⟨h1, _⟩ | ⟨a, h1, h2⟩⟩ := h
  · exact absurd h1 hL
  · exact ⟨a, h1, h2, hg⟩
theorem top_none {w w' : World} {e : Ending} (h : TopP [] w e w') : e = .returned (.tuple #[.int .i64 0, .int .i64 0, .bool false]) ∧ w.grownBy w' none := by
  obtain ⟨hg, ⟨_, h1⟩ | ⟨a, h1, h2⟩⟩ := h
  · exact ⟨h1, hg⟩
  · cases h1.1
set_option maxRecDepth 100000 in
set_option maxHeartbeats 1000000 in
theorem pop_any {B b m : Nat} {N : Int} {v : Value} {L : List It} {w : World} (h : QA w B b m N v L) (hl : L.length < 100000) (hL : L ≠ []) :
    Calls Try.prog 11 #[.pointer (some ⟨b, 0, none⟩)] w (PopP B b m N v L w) := by
  have C1 := Lib.hid (top_any h (by omega))
  have HQ := Lib.hid h
  have HL := Lib.hid hl
  clear h hl
  go_enter Try.func11, Try.ntmps11
  go_wp2_with (go_at_call 10; refine C1.out.mono ?_)
  intro e w1 ht
  obtain ⟨⟨a1, a2⟩, ht1, rfl, hg⟩ := top_some ht hL
  have HT := Lib.hid ht1
  have HG := Lib.hid hg
  have C2 := Lib.hid (drop_any (HQ.out.kept hg) HL.out (HQ.out.bound ht1.1))
  clear ht ht1 hg
  go_wp2_with (go_at_call 14; refine C2.out.mono ?_)
  rintro e w2 ⟨rfl, v', hq', hk'⟩
  go_wp2_with fail
  go_ret3
  exact ⟨(a1, a2), ⟨HT.out, rfl⟩, v', hq', KQ.after HG.out hk'⟩
def PopN (B b m : Nat) (N : Int) (v : Value) (w : World) (e : Ending) (w' : World) : Prop :=
  e = .returned (.tuple #[.int .i64 0, .int .i64 0, .bool false]) ∧ ∃ v', QA w' B b m N v' [] ∧ KQ w b m v w' v'
set_option maxRecDepth 100000 in
set_option maxHeartbeats 1000000 in
theorem pop_none {B b m : Nat} {N : Int} {v : Value} {w : World} (h : QA w B b m N v []) :
    Calls Try.prog 11 #[.pointer (some ⟨b, 0, none⟩)] w (PopN B b m N v w) := by
  have C1 := Lib.hid (top_any h (by simp))
  have HQ := Lib.hid h
  clear h
  go_enter Try.func11, Try.ntmps11
  go_wp2_with (go_at_call 10; refine C1.out.mono ?_)
  intro e w1 ht
  obtain ⟨rfl, hg⟩ := top_none ht
  have HG := Lib.hid hg
  have C2 := Lib.hid (drop_any (HQ.out.kept hg) (by simp) (x := 0) (by omega))
  clear ht hg
  go_wp2_with (go_at_call 14; refine C2.out.mono ?_)
  rintro e w2 ⟨rfl, v', hq', hk'⟩
  go_wp2_with fail
  go_ret3
  exact ⟨rfl, v', hq', KQ.after HG.out hk'⟩
theorem top_nil (w : World) : Calls Try.prog 10 #[.pointer none] w fun e w' => e = .returned (.tuple #[.int .i64 0, .int .i64 0, .bool false]) ∧ w = w' := by
  have C := Lib.hid (qlen_nil w)
  go_enter Try.func10, Try.ntmps10
  go_wp2_with (go_at_call 17; refine C.out.mono ?_; rintro e w' ⟨rfl, rfl⟩)
  go_ret3
  exact ⟨rfl, rfl⟩
theorem pop_nil (w : World) : Calls Try.prog 11 #[.pointer none] w fun e w' => e = .returned (.tuple #[.int .i64 0, .int .i64 0, .bool false]) ∧ w = w' := by
  have C := Lib.hid (top_nil w)
  have C2 := Lib.hid (drop_nil 0 w)
  go_enter Try.func11, Try.ntmps11
  go_wp2_with (first | (go_at_call 10; refine C.out.mono ?_; rintro e w' ⟨rfl, rfl⟩) | (go_at_call 14; refine C2.out.mono ?_; rintro e w' ⟨rfl, rfl⟩))
  go_ret3
  exact ⟨rfl, rfl⟩
/-- A queue of the call's own that has these items. -/
def QW (w0 w : World) (b m : Nat) (N : Int) (L : List It) : Prop := ∃ v, QA w w0.heap.size b m N v L ∧ w0.heap.size ≤ b ∧ w0.grownBy w none
theorem QW.then {w0 w w' : World} {b m : Nat} {N : Int} {v v' : Value} {L L' : List It} (h : QA w w0.heap.size b m N v L) (hb : w0.heap.size ≤ b) (hg : w0.grownBy w none) (h' : QA w' w0.heap.size b m N v' L') (hk : KQ w b m v w' v') : QW w0 w' b m N L' := by
  refine ⟨v', h', hb, ⟨hk.1.os.trans hg.os, hk.1.tape.trans hg.tape, hk.1.output.trans hg.output, Nat.le_trans hg.size hk.1.size, fun k hk1 hk2 => (hk.1.block k (Nat.lt_of_lt_of_le hk1 hg.size) fun q => ?_).trans (hg.block k hk1 hk2)⟩⟩
  obtain ⟨l, f, h1, _⟩ := h
  rcases q with q | q | q
  · omega
  · have := h1.2.2.1.1; omega
  · have := (World.ownsRow.lt h1.2.1 k q).1; omega
theorem QW.perm {w0 w : World} {b m : Nat} {N : Int} {L L' : List It} (h : QW w0 w b m N L) (hp : L.Perm L') : QW w0 w b m N L' := by
  obtain ⟨v, h1, h2⟩ := h
  exact ⟨v, h1.perm hp, h2⟩
theorem QW.kept {w0 w w' : World} {b m : Nat} {N : Int} {L : List It} (h : QW w0 w b m N L) (hg : w.grownBy w' none) : QW w0 w' b m N L := by
  obtain ⟨v, h1, h2, h3⟩ := h
  exact ⟨v, h1.kept hg, h2, h3.trans hg⟩
theorem QW.grown {w0 w : World} {b m : Nat} {N : Int} {L : List It} (h : QW w0 w b m N L) : w0.grownBy w none := by obtain ⟨v, h1, h2, h3⟩ := h; exact h3
theorem QW.keys {w0 w : World} {b m : Nat} {N : Int} {L : List It} (h : QW w0 w b m N L) : (L.map (·.1)).Nodup := by obtain ⟨v, h1, h2, h3⟩ := h; exact h1.keys
theorem new_w {w0 w : World} {N : Int} (hg : w0.grownBy w none) : Calls Try.prog 9 #[.int .i64 N] w fun e w' => e = .returned (.pointer (some ⟨w.heap.size + 1, 0, none⟩)) ∧ QW w0 w' (w.heap.size + 1) w.heap.size N [] := by
  refine (new_any N w).mono fun e w' hh => ?_
  obtain ⟨h1, h2, h3, _⟩ := hh
  exact ⟨h1, _, h2 _ hg.size, by have := hg.size; omega, hg.trans h3⟩
theorem push_w {w0 w : World} {b m : Nat} {N x p : Int} {L : List It} (h : QW w0 w b m N L) (hl : L.length < 100000) (h0 : 0 ≤ x) (h1 : x < N) (hN : N ≤ 9223372036854775807) :
    Calls Try.prog 16 #[.pointer (some ⟨b, 0, none⟩), .int .i64 x, .int .i64 p] w fun e w' => e = .returned (.int .i64 0) ∧ QW w0 w' b m N ((x, p) :: less L x) := by
  obtain ⟨v, h2, h3, h4⟩ := h
  refine (push_any h2 hl h0 h1 hN h4.size).mono fun e w' hh => ?_
  obtain ⟨h5, v', h6, h7⟩ := hh
  exact ⟨h5, QW.then h2 h3 h4 h6 h7⟩
theorem push_wr {w0 w : World} {b m : Nat} {N x p : Int} {L : List It} (h : QW w0 w b m N L) (h0 : x < 0 ∨ N ≤ x) :
    Calls Try.prog 16 #[.pointer (some ⟨b, 0, none⟩), .int .i64 x, .int .i64 p] w fun e w' => e = .returned (.int .i64 3) ∧ w = w' := by
  obtain ⟨v, h2, h3, h4⟩ := h
  exact push_range h2.hd h0
def PopW (w0 : World) (b m : Nat) (N : Int) (L : List It) (e : Ending) (w' : World) : Prop := ∃ a, TopE L a e ∧ QW w0 w' b m N (less L a.1)
theorem pop_w {w0 w : World} {b m : Nat} {N : Int} {L : List It} (h : QW w0 w b m N L) (hl : L.length < 100000) (hL : L ≠ []) :
    Calls Try.prog 11 #[.pointer (some ⟨b, 0, none⟩)] w (PopW w0 b m N L) := by
  obtain ⟨v, h2, h3, h4⟩ := h
  refine (pop_any h2 hl hL).mono fun e w' hh => ?_
  obtain ⟨a, h5, v', h6, h7⟩ := hh
  exact ⟨a, h5, QW.then h2 h3 h4 h6 h7⟩
theorem pop_w0 {w0 w : World} {b m : Nat} {N : Int} (h : QW w0 w b m N []) :
    Calls Try.prog 11 #[.pointer (some ⟨b, 0, none⟩)] w fun e w' => e = .returned (.tuple #[.int .i64 0, .int .i64 0, .bool false]) ∧ QW w0 w' b m N [] := by
  obtain ⟨v, h2, h3, h4⟩ := h
  refine (pop_none h2).mono fun e w' hh => ?_
  obtain ⟨h5, v', h6, h7⟩ := hh
  exact ⟨h5, QW.then h2 h3 h4 h6 h7⟩
theorem drop_w {w0 w : World} {b m : Nat} {N x : Int} {L : List It} (h : QW w0 w b m N L) (hl : L.length < 100000) (hx : -9223372036854775808 ≤ x ∧ x ≤ 9223372036854775807) :
    Calls Try.prog 14 #[.pointer (some ⟨b, 0, none⟩), .int .i64 x] w fun e w' => e = .returned (.bool (hasK L x)) ∧ QW w0 w' b m N (less L x) := by
  obtain ⟨v, h2, h3, h4⟩ := h
  refine (drop_any h2 hl hx).mono fun e w' hh => ?_
  obtain ⟨h5, v', h6, h7⟩ := hh
  exact ⟨h5, QW.then h2 h3 h4 h6 h7⟩
theorem has_w {w0 w : World} {b m : Nat} {N x : Int} {L : List It} (h : QW w0 w b m N L) (hx : -9223372036854775808 ≤ x ∧ x ≤ 9223372036854775807) :
    Calls Try.prog 18 #[.pointer (some ⟨b, 0, none⟩), .int .i64 x] w fun e w' => e = .returned (.bool (hasK L x)) ∧ w = w' := by
  obtain ⟨v, h2, h3, h4⟩ := h
  exact has_any h2 hx
theorem len_w {w0 w : World} {b m : Nat} {N : Int} {L : List It} (h : QW w0 w b m N L) :
    Calls Try.prog 17 #[.pointer (some ⟨b, 0, none⟩)] w fun e w' => e = .returned (.int .i64 (L.length : Int)) ∧ w = w' := by
  obtain ⟨v, h2, h3, h4⟩ := h
  exact qlen_any h2
theorem top_w {w0 w : World} {b m : Nat} {N : Int} {L : List It} (h : QW w0 w b m N L) (hl : L.length < 100000) :
    Calls Try.prog 10 #[.pointer (some ⟨b, 0, none⟩)] w (TopP L w) := by
  obtain ⟨v, h2, h3, h4⟩ := h
  exact top_any h2 (by omega)
theorem clear_nil (w : World) : Calls Try.prog 15 #[.pointer none] w fun e w' => e = .returned (.tuple #[]) ∧ w = w' := by
  go_enter Try.func15, Try.ntmps15
  go_wp2_with fail
  refine bodyPost_ret (results_none rfl _ _ _) rfl ?_
  exact ⟨rfl, rfl⟩
theorem isTop_one {L : List It} {a b : It} (h : IsTop L a) (hb : IsTop L b) : a = b := leI_anti (h.2 b hb.1) (hb.2 a h.1)
end Go.Proofs.Ytpklbaebfeoceaa
