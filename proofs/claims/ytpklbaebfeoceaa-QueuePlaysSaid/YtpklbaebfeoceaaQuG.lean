/- Queue's Clear, and what a call on a queue leaves alone (no statement of its own). -/
import Derived.Test.YtpklbaebfeoceaaQuF
namespace Go.Proofs.Ytpklbaebfeoceaa
open Go.RowKit
open Go.Maps (Keyed)
set_option linter.unusedVariables false
/-- What is no queue's stays. -/
def FrQ (w w' : World) : Prop := ∀ (k : Nat) (cur : Array Value) (t : TypeId) (fr : Nat × Nat), w.heap[k]? = some (.cells cur t fr) → t ≠ 59 → t ≠ 57 → w'.heap[k]? = some (.cells cur t fr)
theorem FrQ.of {B : Nat} {w w' : World} {b m : Nat} {N : Int} {v v' : Value} {L : List It} (h : QA w B b m N v L) (hk : KQ w b m v w' v') : FrQ w w' := by
  intro k cur t fr hc h1 h2
  refine (hk.1.block k (Array.getElem?_eq_some_iff.1 hc).1 ?_).trans hc
  obtain ⟨l, f, ⟨hH, hI, hP, _⟩, _⟩ := h
  rintro (q | q | q)
  · subst q
    have hH' : w.heap[k]? = some _ := hH
    rw [hc] at hH'
    injection hH' with hH'
    injection hH' with _ e _
    exact h2 e
  · subst q
    obtain ⟨_, D, ⟨es, ck, hb, _⟩, _⟩ := hP
    rw [hc] at hb
    simp at hb
  · rcases hI.2 with ⟨e, _⟩ | ⟨g, cap, cur', e, _, hc', _⟩
    · rw [e] at q; cases q
    · rw [e] at q
      simp only [Value.ownBlock, Option.some.injEq] at q
      subst q
      rw [hc] at hc'
      injection hc' with hc'
      injection hc' with _ e2 _
      exact h1 e2
theorem FrQ.grown {w w' : World} (h : w.grownBy w' none) : FrQ w w' := fun k cur t fr hc _ _ => (h.block k (Array.getElem?_eq_some_iff.1 hc).1 (by simp)).trans hc
theorem LI.frq {w w' : World} {B : Nat} {v : Value} {L : List It} (h : LI w B v L) (hf : FrQ w w') : LI w' B v L := by
  obtain ⟨h1, ⟨rfl, hn⟩ | ⟨g, cap, cur, rfl, hb', hh, hr⟩⟩ := h
  · exact ⟨h1, .inl ⟨rfl, hn⟩⟩
  · exact ⟨h1, .inr ⟨g, cap, cur, rfl, hb', hf g cur _ _ hh (by decide) (by decide), hr⟩⟩
theorem LI.base {w : World} {B B' : Nat} {v : Value} {L : List It} (h : LI w B' v L) (hB : B ≤ B') : LI w B v L := by
  obtain ⟨h1, ⟨rfl, hn⟩ | ⟨g, cap, cur, rfl, hb', hr⟩⟩ := h
  · exact ⟨h1, .inl ⟨rfl, hn⟩⟩
  · exact ⟨h1, .inr ⟨g, cap, cur, rfl, Nat.le_trans hB hb', hr⟩⟩
/-- A queue, and the document's list of what waits. -/
def PS (B : Nat) (w : World) (b m : Nat) (N : Int) (Lq L : List It) (vl : Value) : Prop := ∃ v, QA w B b m N v Lq ∧ B ≤ b ∧ B ≤ w.heap.size ∧ LI w B vl L
theorem PS.kept {B : Nat} {w w' : World} {b m : Nat} {N : Int} {Lq L : List It} {vl : Value} (h : PS B w b m N Lq L vl) (hg : w.grownBy w' none) : PS B w' b m N Lq L vl := by
  obtain ⟨v, h1, h2, h3, h4⟩ := h
  exact ⟨v, h1.kept hg, h2, Nat.le_trans h3 hg.size, h4.kept0 hg⟩
theorem PS.perm {B : Nat} {w : World} {b m : Nat} {N : Int} {Lq Lq' L : List It} {vl : Value} (h : PS B w b m N Lq L vl) (hp : Lq.Perm Lq') : PS B w b m N Lq' L vl := by
  obtain ⟨v, h1, h2⟩ := h
  exact ⟨v, h1.perm hp, h2⟩
theorem PS.li {B : Nat} {w : World} {b m : Nat} {N : Int} {Lq L : List It} {vl : Value} (h : PS B w b m N Lq L vl) : LI w B vl L := by obtain ⟨v, _, _, _, h4⟩ := h; exact h4
theorem PS.keys {B : Nat} {w : World} {b m : Nat} {N : Int} {Lq L : List It} {vl : Value} (h : PS B w b m N Lq L vl) : (Lq.map (·.1)).Nodup := by obtain ⟨v, h1, _⟩ := h; exact h1.keys
theorem PS.size {B : Nat} {w : World} {b m : Nat} {N : Int} {Lq L : List It} {vl : Value} (h : PS B w b m N Lq L vl) : B ≤ w.heap.size := by obtain ⟨v, _, _, h3, _⟩ := h; exact h3
theorem PS.bound {B : Nat} {w : World} {b m : Nat} {N : Int} {Lq L : List It} {vl : Value} (h : PS B w b m N Lq L vl) {y : It} (hy : y ∈ Lq) : -9223372036854775808 ≤ y.1 ∧ y.1 ≤ 9223372036854775807 := by obtain ⟨v, h1, _⟩ := h; exact h1.bound hy
/-- Another list of the document's. -/
theorem PS.list {B B' : Nat} {w : World} {b m : Nat} {N : Int} {Lq L L' : List It} {vl vl' : Value} (h : PS B w b m N Lq L vl) (hl : LI w B' vl' L') (hB : B ≤ B') : PS B w b m N Lq L' vl' := by
  obtain ⟨v, h1, h2, h3, h4⟩ := h
  exact ⟨v, h1, h2, h3, hl.base hB⟩
/-- What a call left behind. -/
def AndP (B : Nat) (w : World) (b m : Nat) (N : Int) (Lq L : List It) (vl : Value) (r : Value) (e : Ending) (w' : World) : Prop := e = .returned r ∧ PS B w' b m N Lq L vl ∧ Below B w w' ∧ FrQ w w'
theorem PS.then {B : Nat} {w w' : World} {b m : Nat} {N : Int} {v v' : Value} {Lq Lq' L : List It} {vl : Value} (h1 : QA w B b m N v Lq) (h2 : B ≤ b) (h3 : B ≤ w.heap.size) (h4 : LI w B vl L) (h' : QA w' B b m N v' Lq') (hk : KQ w b m v w' v') :
    PS B w' b m N Lq' L vl ∧ Below B w w' ∧ FrQ w w' :=
  ⟨⟨v', h', h2, Nat.le_trans h3 hk.1.size, h4.frq (FrQ.of h1 hk)⟩, (QB.then h1 h2 h3 h' hk).2, FrQ.of h1 hk⟩
theorem push_p {B : Nat} {w : World} {b m : Nat} {N x p : Int} {Lq L : List It} {vl : Value} (h : PS B w b m N Lq L vl) (hl : Lq.length < 100000) (h0 : 0 ≤ x) (h1 : x < N) (hN : N ≤ 9223372036854775807) :
    Calls Try.prog 16 #[.pointer (some ⟨b, 0, none⟩), .int .i64 x, .int .i64 p] w (AndP B w b m N ((x, p) :: less Lq x) L vl (.int .i64 0)) := by
  obtain ⟨v, q1, q2, q3, q4⟩ := h
  refine (push_any q1 hl h0 h1 hN q3).mono fun e w' hh => ?_
  obtain ⟨r1, v', r2, r3⟩ := hh
  exact ⟨r1, PS.then q1 q2 q3 q4 r2 r3⟩
theorem push_pr {B : Nat} {w : World} {b m : Nat} {N x p : Int} {Lq L : List It} {vl : Value} (h : PS B w b m N Lq L vl) (h0 : x < 0 ∨ N ≤ x) :
    Calls Try.prog 16 #[.pointer (some ⟨b, 0, none⟩), .int .i64 x, .int .i64 p] w fun e w' => e = .returned (.int .i64 3) ∧ w = w' := by
  obtain ⟨v, q1, _⟩ := h
  exact push_range q1.hd h0
theorem drop_p {B : Nat} {w : World} {b m : Nat} {N x : Int} {Lq L : List It} {vl : Value} (h : PS B w b m N Lq L vl) (hl : Lq.length < 100000) (hx : -9223372036854775808 ≤ x ∧ x ≤ 9223372036854775807) :
    Calls Try.prog 14 #[.pointer (some ⟨b, 0, none⟩), .int .i64 x] w (AndP B w b m N (less Lq x) L vl (.bool (hasK Lq x))) := by
  obtain ⟨v, q1, q2, q3, q4⟩ := h
  refine (drop_any q1 hl hx).mono fun e w' hh => ?_
  obtain ⟨r1, v', r2, r3⟩ := hh
  exact ⟨r1, PS.then q1 q2 q3 q4 r2 r3⟩
theorem pop_p {B : Nat} {w : World} {b m : Nat} {N : Int} {Lq L : List It} {vl : Value} {a : It} (h : PS B w b m N Lq L vl) (hl : Lq.length < 100000) (ha : IsTop Lq a) :
    Calls Try.prog 11 #[.pointer (some ⟨b, 0, none⟩)] w (AndP B w b m N (less Lq a.1) L vl (.tuple #[.int .i64 a.1, .int .i64 a.2, .bool true])) := by
  obtain ⟨v, q1, q2, q3, q4⟩ := h
  refine (pop_any q1 hl (fun q => by rw [q] at ha; cases ha.1)).mono fun e w' hh => ?_
  obtain ⟨a', ⟨r0, r1⟩, v', r2, r3⟩ := hh
  have := isTop_one ha r0
  subst this
  exact ⟨r1, PS.then q1 q2 q3 q4 r2 r3⟩
theorem pop_p0 {B : Nat} {w : World} {b m : Nat} {N : Int} {L : List It} {vl : Value} (h : PS B w b m N [] L vl) :
    Calls Try.prog 11 #[.pointer (some ⟨b, 0, none⟩)] w (AndP B w b m N [] L vl (.tuple #[.int .i64 0, .int .i64 0, .bool false])) := by
  obtain ⟨v, q1, q2, q3, q4⟩ := h
  refine (pop_none q1).mono fun e w' hh => ?_
  obtain ⟨r1, v', r2, r3⟩ := hh
  exact ⟨r1, PS.then q1 q2 q3 q4 r2 r3⟩
theorem top_p {B : Nat} {w : World} {b m : Nat} {N : Int} {Lq L : List It} {vl : Value} (h : PS B w b m N Lq L vl) (hl : Lq.length < 100000) :
    Calls Try.prog 10 #[.pointer (some ⟨b, 0, none⟩)] w (TopP Lq w) := by
  obtain ⟨v, q1, _⟩ := h
  exact top_any q1 (by omega)
theorem has_p {B : Nat} {w : World} {b m : Nat} {N x : Int} {Lq L : List It} {vl : Value} (h : PS B w b m N Lq L vl) (hx : -9223372036854775808 ≤ x ∧ x ≤ 9223372036854775807) :
    Calls Try.prog 18 #[.pointer (some ⟨b, 0, none⟩), .int .i64 x] w fun e w' => e = .returned (.bool (hasK Lq x)) ∧ w = w' := by
  obtain ⟨v, q1, _⟩ := h
  exact has_any q1 hx
theorem len_p {B : Nat} {w : World} {b m : Nat} {N : Int} {Lq L : List It} {vl : Value} (h : PS B w b m N Lq L vl) :
    Calls Try.prog 17 #[.pointer (some ⟨b, 0, none⟩)] w fun e w' => e = .returned (.int .i64 (Lq.length : Int)) ∧ w = w' := by
  obtain ⟨v, q1, _⟩ := h
  exact qlen_any q1
theorem run_clear {w : World} {B m s : Nat} {f : Int → Option Nat} (h : Pls w B m f s) : ∃ w', (∀ ty, (Builtin.clear_ #[54] ty #[.map (some m)]).run Try.prog w = .ok (.tuple #[]) w') ∧ Pls w' B m (fun _ => none) 0 ∧ w.grownBy w' (some m) := by
  obtain ⟨hB, D, ⟨es, ck, hb, F, hs, hD⟩, h1⟩ := h
  refine ⟨ChangeMaps.setBlock w m (.map #[] ck), fun ty => ?_, ⟨hB, .map [], ⟨#[], ck, ?_, ⟨by simp, MapKept.stamped_empty ck, by simp⟩, by simp, rfl⟩, Nat.le_refl _, fun x _ => rfl, fun x i _ h => by cases h⟩, ?_⟩
  · simp [Builtin.clear_, run_underlying Try.underlying54, MapKept.run_getObj_map hb, MapKept.run_setObj_map _ hb, Result.andThen]
    rfl
  · exact ChangeMaps.heap_setBlock_same hb _
  · exact ⟨rfl, rfl, rfl, by simp [ChangeMaps.setBlock], fun i _ hi => ChangeMaps.heap_setBlock_other hb _ (fun e => hi (by rw [e]))⟩
set_option maxRecDepth 100000 in
theorem clear_any {B b m : Nat} {N : Int} {v : Value} {L : List It} {w : World} (h : QA w B b m N v L) :
    Calls Try.prog 15 #[.pointer (some ⟨b, 0, none⟩)] w fun e w' => e = .returned (.tuple #[]) ∧ ∃ v', QA w' B b m N v' [] ∧ KQ w b m v w' v' := by
  obtain ⟨l, f, ⟨hH, hI, hP, hC, hB⟩, hh, hp⟩ := h
  obtain ⟨A, c, hv⟩ : ∃ A c, v = .slice A l.length c := by
    rcases hI.2 with ⟨e, h0⟩ | ⟨g, cap, cur, e, _⟩
    · exact ⟨none, 0, by rw [e, h0]⟩
    · exact ⟨_, cap, e⟩
  obtain ⟨hH3, hg3⟩ := hH.store (.slice none 0 0)
  have hmb := Pls.ne_hd hP hH
  obtain ⟨w2, hrun, hP2, hg2⟩ := run_clear (hP.kept hg3 (by simp; omega))
  have c1 := hH.c1
  rw [hv] at c1
  have c2 := hH3.c2
  have f1 := hH.frozen 1
  have FIN := Lib.hid (show ∃ v', QA w2 B b m N v' [] ∧ KQ w b m v w2 v' from ⟨.slice none 0 0, ⟨[], fun _ => none, ⟨hH3.kept hg2 (by simp; omega), World.ownsRow_nil _ _ _ _, hP2, fun x i => ⟨(fun h => by cases h), (fun h => by have := h.1; simp at this)⟩, fun y hy => by cases hy⟩, fun i hi hl => by simp at hl, List.Perm.refl _⟩,
    (Kp.of_grown hg3 (fun k hk => Or.inl (by injection hk with hk; exact hk.symm))).trans (Kp.of_grown hg2 (fun k hk => Or.inr (Or.inl (by injection hk with hk; exact hk.symm)))), .inr (.inl rfl)⟩)
  clear hH hI hP hC hB hh hp hH3 hg3 hP2 hg2 hv
  go_enter Try.func15, Try.ntmps15
  go_wp2_with fail
  go_end0
  exact ⟨rfl, FIN.out⟩
theorem clear_p {B : Nat} {w : World} {b m : Nat} {N : Int} {Lq L : List It} {vl : Value} (h : PS B w b m N Lq L vl) :
    Calls Try.prog 15 #[.pointer (some ⟨b, 0, none⟩)] w (AndP B w b m N [] L vl (.tuple #[])) := by
  obtain ⟨v, q1, q2, q3, q4⟩ := h
  refine (clear_any q1).mono fun e w' hh => ?_
  obtain ⟨r1, v', r2, r3⟩ := hh
  exact ⟨r1, PS.then q1 q2 q3 q4 r2 r3⟩
/-- append to the document's list: the queue stays. -/
theorem PS.pushed {B : Nat} {w w1 w2 : World} {b m : Nat} {N : Int} {Lq L : List It} {vl v2 : Value} (h : PS B w b m N Lq L vl) (hg : w.grownBy w1 none) {row : Option Nat} (hg2 : w1.grownBy w2 row) (hr : ∀ g, row = some g → w.heap.size ≤ g) {L2 : List It} (hl : LI w2 B v2 L2) : PS B w2 b m N Lq L2 v2 ∧ Below B w w2 := by
  have hsz := h.size
  obtain ⟨v, h1, h2, h3, h4⟩ := h
  have hk : Kp (fun j => w.heap.size ≤ j) w w2 := ⟨hg2.os.trans hg.os, hg2.tape.trans hg.tape, hg2.output.trans hg.output, Nat.le_trans hg.size hg2.size, fun k hk hs => (hg2.block k (Nat.lt_of_lt_of_le hk hg.size) (fun q => hs (hr k q.symm))).trans (hg.block k hk (by simp))⟩
  refine ⟨⟨v, h1.keptKp hk ?_ ?_ ?_, h2, Nat.le_trans h3 hk.size, hl⟩, hk.os, hk.tape, hk.output, hk.size, fun j hj => hk.block j (by omega) (by omega)⟩
  · have := h1.hd.lt; omega
  · obtain ⟨l, f, ⟨_, _, ⟨_, D, ho, _⟩, _⟩, _⟩ := h1
    have := ho.lt; omega
  · intro g hg'
    have := h1.own_lt hg'; omega
theorem less_dec {L : List It} (hk : (L.map (·.1)).Nodup) (x : Int) : decide ((less L x).length < L.length) = hasK L x := by
  cases h : hasK L x with
  | false => rw [less_no h]; simp
  | true =>
    obtain ⟨y, hy, rfl⟩ := hasK_iff.1 h
    have := less_len hk hy
    simp; omega
def RDropH (L : List It) (x : Int) (r : Bool) (w : World) (e : Ending) (w' : World) : Prop := ∃ v, e = .returned (.tuple #[v, .bool r]) ∧ LI w' w.heap.size v (less L x) ∧ w.grownBy w' none
theorem rdrop_h {B : Nat} {v : Value} {L : List It} {x : Int} {w : World} (h : LI w B v L) (hk : (L.map (·.1)).Nodup) (hl : L.length < 100000) : Calls Try.prog 13 #[v, .int .i64 x] w (RDropH L x (hasK L x) w) := by
  refine (rdrop_any h hl).mono fun e w' hh => ?_
  obtain ⟨v', h1, h2, h3⟩ := hh
  rw [less_dec hk] at h1
  exact ⟨v', h1, h2, h3⟩
theorem LI.addr {w : World} {B n c : Nat} {A : Option Addr} {L : List It} (h : LI w B (.slice A n c) L) (hl : 0 < L.length) : n = L.length ∧ ∃ g, A = some ⟨g, 0, none⟩ := by
  obtain ⟨A', c', hv, hA⟩ := h.form
  injection hv with e1 e2 e3
  obtain ⟨g, hg, _⟩ := hA hl
  exact ⟨e2, g, by rw [e1, hg]⟩
theorem cell_act {w w' : World} {ba : Nat} {d x pr : Int} (h : w.heap[ba]? = some (.cells #[.int .u8 d, .int .i64 x, .int .i64 pr] 28 (0, 0))) (hf : FrQ w w') : w'.heap[ba]? = some (.cells #[.int .u8 d, .int .i64 x, .int .i64 pr] 28 (0, 0)) := hf _ _ _ _ h (by decide) (by decide)
end Go.Proofs.Ytpklbaebfeoceaa
