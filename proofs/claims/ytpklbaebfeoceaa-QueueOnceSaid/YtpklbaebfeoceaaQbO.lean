/- The walk of the law that each number waits at most once (no statement of its own). -/
import Derived.Test.YtpklbaebfeoceaaQuC
namespace Go.Proofs.Ytpklbaebfeoceaa
namespace QbO
open Go.RowKit
set_option linter.unusedVariables false
theorem zeroL (w : World) : (zeroValue 2).run Try.prog w = .ok (.int .i64 0) w := by kernel_rfl
/-- A map that tells of each number its priority. -/
def MpD (w : World) (ml : Nat) (L : List It) (D : DataW Unit) : Prop :=
  w.ownsMap Try.prog 3 (plainElem Try.prog 2) ml L.length D ∧ Maps.size D = L.length ∧ (∀ x : Int, (Lit.int .i64 x).wf = true → Maps.has D (.int .i64 x) = hasK L x) ∧
    ∀ y ∈ L, (Lit.int .i64 y.1).wf = true → ∀ z, D.atKey (.int .i64 y.1) z = .lit (.int .i64 y.2)
theorem hasK_put (L : List It) (x p y : Int) : hasK ((x, p) :: less L x) y = (if y = x then true else hasK L y) := by
  rw [Bool.eq_iff_iff, hasK_iff]
  by_cases e : y = x
  · rw [if_pos e]
    exact ⟨fun _ => rfl, fun _ => ⟨(x, p), List.mem_cons_self .., e.symm⟩⟩
  · rw [if_neg e, hasK_iff]
    constructor
    · rintro ⟨t, ht, q⟩
      rcases List.mem_cons.1 ht with h | h
      · subst h; exact absurd q.symm e
      · exact ⟨t, (mem_less.1 h).1, q⟩
    · rintro ⟨t, ht, q⟩
      exact ⟨t, List.mem_cons.2 (.inr (mem_less.2 ⟨ht, by rw [q]; exact e⟩)), q⟩
theorem hasK_del (L : List It) (x y : Int) : hasK (less L x) y = (if y = x then false else hasK L y) := by
  by_cases e : y = x
  · rw [if_pos e, e]; exact hasK_less L x
  · rw [if_neg e, Bool.eq_iff_iff, hasK_iff, hasK_iff]
    constructor
    · rintro ⟨t, ht, q⟩; exact ⟨t, (mem_less.1 ht).1, q⟩
    · rintro ⟨t, ht, q⟩; exact ⟨t, mem_less.2 ⟨ht, by rw [q]; exact e⟩, q⟩
theorem less_len2 {L : List It} (hk : (L.map (·.1)).Nodup) (x : Int) : (less L x).length + (if hasK L x = true then 1 else 0) = L.length := by
  cases h : hasK L x with
  | false => rw [less_no h]; simp
  | true =>
    obtain ⟨y, hy, rfl⟩ := hasK_iff.1 h
    simpa using less_len hk hy
theorem MpD.put {w w' : World} {ml : Nat} {L : List It} {D : DataW Unit} {x p : Int} (h : MpD w ml L D) (hw : (Lit.int .i64 x).wf = true) (hk : (L.map (·.1)).Nodup)
    (h' : w'.ownsMap Try.prog 3 (plainElem Try.prog 2) ml (L.length + 1) (D.put (.int .i64 x) (.lit (.int .i64 p)))) : MpD w' ml ((x, p) :: less L x) (D.put (.int .i64 x) (.lit (.int .i64 p))) := by
  obtain ⟨h1, h2, h3, h4⟩ := h
  have hsz : Maps.size (D.put (.int .i64 x) (.lit (.int .i64 p))) = ((x, p) :: less L x).length := by
    rw [Maps.size_put (h1.tidy law), h3 x hw, h2, List.length_cons]
    have := less_len2 hk x
    split at this <;> rename_i q <;> simp only [q] <;> simp <;> omega
  refine ⟨(tight h').mono (by rw [hsz]; exact Nat.le_refl _), hsz, fun y hy => ?_, fun y hy hwy z => ?_⟩
  · rw [hasK_put]
    by_cases e : y = x
    · rw [if_pos e, e, Maps.has_put_same h1.isMap (isKey_int x)]
    · rw [if_neg e, Maps.has_put_other (key_ne e), h3 y hy]
  · rcases List.mem_cons.1 hy with q | q
    · subst q; exact Maps.atKey_put_same h1.isMap (isKey_int x) _ _
    · obtain ⟨q1, q2⟩ := mem_less.1 q
      rw [Maps.atKey_put_other (key_ne q2)]
      exact h4 y q1 hwy z
theorem MpD.del {w w' : World} {ml : Nat} {L : List It} {D : DataW Unit} {x : Int} (h : MpD w ml L D) (hw : (Lit.int .i64 x).wf = true) (hk : (L.map (·.1)).Nodup)
    (h' : w'.ownsMap Try.prog 3 (plainElem Try.prog 2) ml L.length (D.del (.int .i64 x))) : MpD w' ml (less L x) (D.del (.int .i64 x)) := by
  obtain ⟨h1, h2, h3, h4⟩ := h
  have hsz : Maps.size (D.del (.int .i64 x)) = (less L x).length := by
    have a := Maps.size_del (k := .int .i64 x) (h1.tidy law)
    have b := less_len2 hk x
    rw [h3 x hw, h2] at a
    omega
  refine ⟨(tight h').mono (by rw [hsz]; exact Nat.le_refl _), hsz, fun y hy => ?_, fun y hy hwy z => ?_⟩
  · rw [hasK_del]
    by_cases e : y = x
    · rw [if_pos e, e, Maps.has_del_same]
    · rw [if_neg e, Maps.has_del_other (key_ne e), h3 y hy]
  · obtain ⟨q1, q2⟩ := mem_less.1 hy
    rw [Maps.atKey_del_other (key_ne q2)]
    exact h4 y q1 hwy z
theorem MpD.look {w : World} {ml : Nat} {L : List It} {D : DataW Unit} {x : Int} (h : MpD w ml L D) (hw : (Lit.int .i64 x).wf = true) :
    ∃ c, (Instr.lookup 50 (.map (some ml)) (.int .i64 x) true).run Try.prog w = .ok (.tuple #[.int .i64 c, .bool (hasK L x)]) w ∧ ∀ y ∈ L, y.1 = x → c = y.2 := by
  obtain ⟨h1, h2, h3, h4⟩ := h
  obtain ⟨v, ps, hrun, hv⟩ := h1.look_ok law Try.underlying50 (zeroL w) (plainElem_int (P := Try.prog) Try.underlying2 (by decide)) (Maps.keyOf_int_mk (P := Try.prog) Try.underlying3 hw)
  obtain ⟨c, rfl, hc, _⟩ := plainElem_int_inv Try.underlying2 hv
  rw [h3 x hw] at hrun
  refine ⟨c, hrun, fun y hy e => ?_⟩
  subst e
  have hc1 := congrArg Prod.fst hc
  simp only at hc1
  rw [h4 y hy hw] at hc1
  simp only [DataW.lit.injEq, Lit.int.injEq, true_and] at hc1
  exact hc1.symm
theorem MpD.block {w w' : World} {ml : Nat} {L : List It} {D : DataW Unit} (h : MpD w ml L D) (hb : w'.heap[ml]? = w.heap[ml]?) : MpD w' ml L D := by
  obtain ⟨⟨es, clock, q1, q2, q3, q4⟩, h2⟩ := h
  exact ⟨⟨es, clock, hb.trans q1, q2, q3, q4⟩, h2⟩
/-- A queue that has these, and the law's map of those. -/
def QO (B : Nat) (w : World) (b m ml : Nat) (Lq Lm : List It) (D : DataW Unit) : Prop := ∃ v, QA w B b m 16 v Lq ∧ B ≤ b ∧ B ≤ w.heap.size ∧ m ≠ ml ∧ B ≤ ml ∧ MpD w ml Lm D
theorem QO.keys {B : Nat} {w : World} {b m ml : Nat} {Lq Lm : List It} {D : DataW Unit} (h : QO B w b m ml Lq Lm D) : (Lq.map (·.1)).Nodup := by obtain ⟨v, h1, _⟩ := h; exact h1.keys
theorem QO.then {B : Nat} {w w' : World} {b m ml : Nat} {v v' : Value} {Lq Lq' Lm : List It} {D : DataW Unit} (h : QA w B b m 16 v Lq) (hb : B ≤ b) (hB : B ≤ w.heap.size) (hne : m ≠ ml) (hl : B ≤ ml) (hM : MpD w ml Lm D)
    (h' : QA w' B b m 16 v' Lq') (hk : KQ w b m v w' v') : QO B w' b m ml Lq' Lm D ∧ Below B w w' := by
  refine ⟨⟨v', h', hb, Nat.le_trans hB hk.1.size, hne, hl, hM.block (hk.1.block ml hM.1.lt ?_)⟩, (QB.then h hb hB h' hk).2⟩
  obtain ⟨es, clock, hmb, _⟩ := hM.1
  rintro (q | q | q)
  · subst q
    have := h.hd
    unfold Hd at this
    rw [hmb] at this
    simp at this
  · exact hne q.symm
  · obtain ⟨l, f, ⟨_, h2, _⟩, _⟩ := h
    rcases h2.2 with ⟨e, _⟩ | ⟨g, cap, cur, e, _, hc, _⟩
    · rw [e] at q; cases q
    · rw [e] at q
      simp only [Value.ownBlock, Option.some.injEq] at q
      subst q
      rw [hmb] at hc
      simp at hc
/-- What is no queue's stays. -/
def FrT (w w' : World) : Prop := ∀ (k : Nat) (cur : Array Value) (t : TypeId) (fr : Nat × Nat), w.heap[k]? = some (.cells cur t fr) → t ≠ 59 → t ≠ 57 → w'.heap[k]? = some (.cells cur t fr)
theorem FrT.of {B : Nat} {w w' : World} {b m : Nat} {N : Int} {v v' : Value} {L : List It} (h : QA w B b m N v L) (hk : KQ w b m v w' v') : FrT w w' := by
  intro k cur t fr hc h1 h2
  refine (hk.1.block k (Array.getElem?_eq_some_iff.1 hc).1 ?_).trans hc
  obtain ⟨l, f, ⟨hH, hI, hP, _⟩, _⟩ := h
  rintro (q | q | q)
  · subst q
    have hH' : w.heap[k]? = some _ := hH
    rw [hc] at hH'
    injection hH' with hH'
    injection hH' with _ e _
    exact h2 e
  · subst q
    obtain ⟨_, D, ⟨es, ck, hb, _⟩, _⟩ := hP
    rw [hc] at hb
    simp at hb
  · rcases hI.2 with ⟨e, _⟩ | ⟨g, cap, cur', e, _, hc', _⟩
    · rw [e] at q; cases q
    · rw [e] at q
      simp only [Value.ownBlock, Option.some.injEq] at q
      subst q
      rw [hc] at hc'
      injection hc' with hc'
      injection hc' with _ e2 _
      exact h1 e2
def AndO (B : Nat) (w : World) (b m ml : Nat) (Lq Lm : List It) (D : DataW Unit) (v : Value) (e : Ending) (w' : World) : Prop := e = .returned v ∧ (QO B w' b m ml Lq Lm D ∧ Below B w w') ∧ FrT w w'
theorem push_o {B : Nat} {w : World} {b m ml : Nat} {x p : Int} {Lq Lm : List It} {D : DataW Unit} (h : QO B w b m ml Lq Lm D) (hl : Lq.length < 100000) (h0 : 0 ≤ x) (h1 : x < 16) :
    Calls Try.prog 16 #[.pointer (some ⟨b, 0, none⟩), .int .i64 x, .int .i64 p] w (AndO B w b m ml ((x, p) :: less Lq x) Lm D (.int .i64 0)) := by
  obtain ⟨v, q1, q2, q3, q4, q5, q6⟩ := h
  refine (push_any q1 hl h0 h1 (by omega) q3).mono fun e w' hh => ?_
  obtain ⟨r1, v', r2, r3⟩ := hh
  exact ⟨r1, QO.then q1 q2 q3 q4 q5 q6 r2 r3, FrT.of q1 r3⟩
theorem drop_o {B : Nat} {w : World} {b m ml : Nat} {x : Int} {Lq Lm : List It} {D : DataW Unit} (h : QO B w b m ml Lq Lm D) (hl : Lq.length < 100000) (hx : -9223372036854775808 ≤ x ∧ x ≤ 9223372036854775807) :
    Calls Try.prog 14 #[.pointer (some ⟨b, 0, none⟩), .int .i64 x] w (AndO B w b m ml (less Lq x) Lm D (.bool (hasK Lq x))) := by
  obtain ⟨v, q1, q2, q3, q4, q5, q6⟩ := h
  refine (drop_any q1 hl hx).mono fun e w' hh => ?_
  obtain ⟨r1, v', r2, r3⟩ := hh
  exact ⟨r1, QO.then q1 q2 q3 q4 q5 q6 r2 r3, FrT.of q1 r3⟩
def PopO (B : Nat) (w : World) (b m ml : Nat) (Lq Lm : List It) (D : DataW Unit) (e : Ending) (w' : World) : Prop := ∃ a, TopE Lq a e ∧ QO B w' b m ml (less Lq a.1) Lm D ∧ Below B w w'
theorem pop_o {B : Nat} {w : World} {b m ml : Nat} {Lq Lm : List It} {D : DataW Unit} (h : QO B w b m ml Lq Lm D) (hl : Lq.length < 100000) (hL : Lq ≠ []) :
    Calls Try.prog 11 #[.pointer (some ⟨b, 0, none⟩)] w (PopO B w b m ml Lq Lm D) := by
  obtain ⟨v, q1, q2, q3, q4, q5, q6⟩ := h
  refine (pop_any q1 hl hL).mono fun e w' hh => ?_
  obtain ⟨a, r1, v', r2, r3⟩ := hh
  exact ⟨a, r1, QO.then q1 q2 q3 q4 q5 q6 r2 r3⟩
theorem len_o {B : Nat} {w : World} {b m ml : Nat} {Lq Lm : List It} {D : DataW Unit} (h : QO B w b m ml Lq Lm D) :
    Calls Try.prog 17 #[.pointer (some ⟨b, 0, none⟩)] w fun e w' => e = .returned (.int .i64 (Lq.length : Int)) ∧ w = w' := by
  obtain ⟨v, q1, _⟩ := h
  exact qlen_any q1
theorem QO.bound {B : Nat} {w : World} {b m ml : Nat} {Lq Lm : List It} {D : DataW Unit} (h : QO B w b m ml Lq Lm D) {y : It} (hy : y ∈ Lq) : -9223372036854775808 ≤ y.1 ∧ y.1 ≤ 9223372036854775807 := by
  obtain ⟨v, q1, _⟩ := h
  exact q1.bound hy
/-- The law's map is written. -/
theorem QO.turn {B : Nat} {w w' : World} {b m ml : Nat} {Lq Lm Lm' : List It} {D D' : DataW Unit} (h : QO B w b m ml Lq Lm D) (hg : w.grownBy w' (some ml)) (hM : MpD w' ml Lm' D') : QO B w' b m ml Lq Lm' D' ∧ Below B w w' := by
  obtain ⟨v, q1, q2, q3, q4, q5, q6⟩ := h
  obtain ⟨es, clock, hmb, _⟩ := q6.1
  refine ⟨⟨v, q1.keptKp (S := fun j => j = ml) (Kp.of_grown hg (fun k hk => by injection hk with hk; exact hk.symm)) ?_ q4 ?_, q2, Nat.le_trans q3 hg.size, q4, q5, hM⟩, hg.os, hg.tape, hg.output, hg.size, fun k hk => hg.block k (by omega) (by intro e; injection e with e; omega)⟩
  · intro q
    subst q
    have := q1.hd
    unfold Hd at this
    rw [hmb] at this
    simp at this
  · intro g hg' q
    subst q
    obtain ⟨l, f, ⟨_, h2, _⟩, _⟩ := q1
    rcases h2.2 with ⟨e, _⟩ | ⟨g', cap, cur, e, _, hc, _⟩
    · rw [e] at hg'; cases hg'
    · rw [e] at hg'
      simp only [Value.ownBlock, Option.some.injEq] at hg'
      subst hg'
      rw [hmb] at hc
      simp at hc
theorem QO.kept {B : Nat} {w w' : World} {b m ml : Nat} {Lq Lm : List It} {D : DataW Unit} (h : QO B w b m ml Lq Lm D) (hg : w.grownBy w' none) : QO B w' b m ml Lq Lm D := by
  obtain ⟨v, q1, q2, q3, q4, q5, q6⟩ := h
  exact ⟨v, q1.kept hg, q2, Nat.le_trans q3 hg.size, q4, q5, q6.block (hg.block ml q6.1.lt (by simp))⟩
set_option maxRecDepth 100000 in
set_option maxHeartbeats 8000000 in
theorem main (a0 : Option Addr) (len0 cap0 : Nat) (z0 : Nat → Int × Int) (a1 : Option Addr) (len1 cap1 : Nat) (z1 : Nat → Int) (w : World)
    (hp : ∀ j, j < len0 → ∃ p : Addr, a0 = some p ∧ p.block < w.heap.size ∧ w.cell? (p.add (j * 2)) = some (.int .u8 (z0 j).1) ∧ w.cell? ⟨(p.add (j * 2)).block, (p.add (j * 2)).off + 1, none⟩ = some (.int .u8 (z0 j).2) ∧ 0 ≤ (z0 j).1 ∧ (z0 j).1 ≤ 255 ∧ 0 ≤ (z0 j).2 ∧ (z0 j).2 ≤ 255) (hl0 : (len0 : Int) ≤ 9223372036854775807)
    (hb1 : ∀ j, j < len1 → ∃ p : Addr, a1 = some p ∧ p.block < w.heap.size ∧ w.cell? (p.add j) = some (.int .u8 (z1 j)) ∧ 0 ≤ z1 j ∧ z1 j ≤ 255) (hl1 : (len1 : Int) ≤ 9223372036854775807) :
    Calls Try.prog 7 #[.slice a0 len0 cap0, .slice a1 len1 cap1] w fun e w' => e = .returned (.bool true) ∧ Below w.heap.size w w' := by
  have AW := Lib.hid (awake_q w)
  have HP := Lib.hid hp
  have HB1 := Lib.hid hb1
  have hmm := @run_makeMap Try.prog
  clear hp hb1
  go_enter Try.func7, Try.ntmps7
  go_wp2_with (go_at_call 8; refine AW.out.mono ?_; rintro e w1 ⟨rfl, hg1⟩)
  have HG1 := Lib.hid hg1
  have C2 := Lib.hid (fun N => new_any N w1)
  clear hg1
  go_wp2_with (go_at_call 9; refine (C2.out _).mono ?_)
  rintro e w2 ⟨rfl, p1, p2, p3⟩
  have hq0 : QO w1.heap.size (w2.alloc (.map #[] 0)) (w1.heap.size + 1) w1.heap.size w2.heap.size [] [] (.map []) := by
    refine ⟨_, (p1 _ (Nat.le_refl _)).kept (World.grownBy_alloc w2 _ none), by omega, by simp; omega, by omega, by omega, ?_⟩
    exact ⟨World.ownsMap_made w2 _ _ _, rfl, fun x _ => rfl, fun y hy => by cases hy⟩
  have HB0 : Hid (Below w.heap.size w (w2.alloc (.map #[] 0))) := Lib.hid (((below_of_grown HG1.out (Nat.le_refl _)).trans (below_of_grown p2 HG1.out.size)).alloc (by have := HG1.out.size; omega) _)
  have HS1 := Lib.hid HG1.out.size
  have HQ0 := Lib.hid hq0
  clear hq0 p1 p2 p3 C2 HG1
  go_wp2_with fail
  generalize w1.heap.size + 1 = b at *
  generalize w2.heap.size = ml at *
  obtain ⟨m, hm⟩ : ∃ m, QO w1.heap.size (w2.alloc (.map #[] 0)) b m ml [] [] (.map []) := ⟨_, HQ0.out⟩
  have HQ := Lib.hid hm
  clear HQ0 hm
  have HSB : Hid (w.heap.size ≤ w1.heap.size) := HS1
  generalize w1.heap.size = B at *
  go_loopw [24] (fun i wr => ∃ k : Nat, k ≤ len0 ∧ i = .int .i64 (k : Int) ∧ ∃ L D, L.length ≤ k ∧ L.length ≤ 60 ∧ QO B wr b m ml L L D ∧ Below w.heap.size w wr) (fun i _ => len0 - (intOf i).toNat)
  case atStart => exact ⟨0, Nat.zero_le _, rfl, [], _, Nat.le_refl _, by simp, HQ.out, HB0.out⟩
  case round =>
    clear HQ HB0
    obtain ⟨k, hkn, rfl, L, D, hLk, hL60, hq, hbw⟩ := hrel
    have HQ := Lib.hid hq
    have HBW := Lib.hid hbw
    have HLK := Lib.hid hLk
    have HL6 := Lib.hid hL60
    clear hq hbw hLk hL60
    by_cases hlt : k < len0
    · obtain ⟨p, rfl, hpb, hc0, hc1, hx0, hx1, hy0, hy1⟩ := HP.out k hlt
      have e0 : (p.add (k * 2)).block = p.block := by unfold Addr.add; split <;> rfl
      have d0 : wr.cell? (p.add (k * 2)) = some (.int .u8 (z0 k).1) := (HBW.out.cell (p := p.add (k * 2)) (by rw [e0]; exact hpb)).trans hc0
      have d1 : wr.cell? ⟨(p.add (k * 2)).block, (p.add (k * 2)).off + 1, none⟩ = some (.int .u8 (z0 k).2) := (HBW.out.cell (p := ⟨(p.add (k * 2)).block, (p.add (k * 2)).off + 1, none⟩) (by show (p.add (k * 2)).block < _; rw [e0]; exact hpb)).trans hc1
      generalize (z0 k).1 = P at *
      generalize (z0 k).2 = Q at *
      obtain ⟨X, hX⟩ : ∃ X : Nat, (P % 16) = (X : Int) := ⟨(P % 16).toNat, by omega⟩
      have hX16 : X < 16 := by omega
      have HPB := Lib.hid hpb
      clear hc0 hc1 e0 hpb
      by_cases h60 : k < 60
      · have C3 := Lib.hid (fun W (hW : wr.grownBy W none) => push_o (x := (X : Int)) (p := Q) (HQ.out.kept hW) (by have := HL6.out; omega) (by omega) (by omega))
        go_wp2_with (go_at_call 16; refine (C3.out _ (World.grownBy_alloc _ _ _)).mono ?_)
        rintro e wx ⟨rfl, ⟨hq, hb⟩, hf⟩
        have hcx := hf _ _ _ _ (heap_alloc_new wr (.cells #[.int .u8 P, .int .u8 Q] 51)) (by decide) (by decide)
        have k0 : wx.cell? ⟨wr.heap.size, 0, none⟩ = some (.int .u8 P) := by rw [cell_of_row _ _ _ _ _ _ hcx]; rfl
        have k1 : wx.cell? ⟨wr.heap.size, 1, none⟩ = some (.int .u8 Q) := by rw [cell_of_row _ _ _ _ _ _ hcx]; rfl
        obtain ⟨v, g1, g2, g3, g4, g5, g6⟩ := hq
        have HQ3 := Lib.hid (show QO B wx b m ml (((X : Int), Q) :: less L (X : Int)) L D from ⟨v, g1, g2, g3, g4, g5, g6⟩)
        have HM := Lib.hid g6
        have HB3 := Lib.hid (HBW.out.trans (((Below.refl w.heap.size wr).alloc HBW.out.size _).trans (hb.mono HSB.out)))
        have HKY := Lib.hid (Maps.keyOf_int_mk (P := Try.prog) Try.underlying3 (wf_int (x := (X : Int)) (by omega) (by omega)))
        have HVA := Lib.hid (plainElem_int (H := Unit) (P := Try.prog) Try.underlying2 (wf_int (x := Q) (by omega) (by omega)))
        have HXW := Lib.hid (wf_int (x := (X : Int)) (by omega) (by omega))
        have HKS := Lib.hid HQ.out.keys
        clear hb hf hcx g1 g2 g3 g4 g5 g6 C3 d0 d1
        go_wp2_with (at_mapUpdate; refine wpList_mapUpdate_own _ rfl _ _ _ 50 rfl 3 2 law Try.underlying50 _ ml L.length D rfl HM.out.1 (by have := HL6.out; unfold maxLen; omega) _ _ _ rfl rfl HKY.out _ [] HVA.out ?_)
        intro w4 ho4 hg4
        obtain ⟨hq4, hb4⟩ := HQ3.out.turn ⟨hg4.os, hg4.tape, hg4.output, hg4.size, hg4.block⟩ (HM.out.put HXW.out HKS.out ho4)
        have FIN := Lib.hid (show (((X : Int), Q) :: less L (X : Int)).length ≤ k + 1 ∧ (((X : Int), Q) :: less L (X : Int)).length ≤ 60 ∧ QO B w4 b m ml (((X : Int), Q) :: less L (X : Int)) (((X : Int), Q) :: less L (X : Int)) _ ∧ Below w.heap.size w w4 from
          ⟨by have := less_le L (X : Int); have := HLK.out; simp; omega, by have := less_le L (X : Int); have := HLK.out; simp; omega, hq4, HB3.out.trans (hb4.mono HSB.out)⟩)
        clear ho4 hg4 hq4 hb4 k0 k1
        go_wp2_with fail
        go_roundw
        case rel => exact ⟨k + 1, by omega, by go_num, _, _, FIN.out.1, FIN.out.2.1, FIN.out.2.2.1, FIN.out.2.2.2⟩
        case measure => simp [intOf]; omega
      · have FIN := Lib.hid (show L.length ≤ k + 1 ∧ L.length ≤ 60 ∧ QO B (wr.alloc (.cells #[.int .u8 P, .int .u8 Q] 51)) b m ml L L D ∧ Below w.heap.size w (wr.alloc (.cells #[.int .u8 P, .int .u8 Q] 51)) from
          ⟨by have := HLK.out; omega, HL6.out, HQ.out.kept (World.grownBy_alloc _ _ _), HBW.out.alloc HBW.out.size _⟩)
        have h60' : decide (k < 60) = false := by simpa using h60
        have h60'' : decide ((k : Int) < 60) = false := by simp; omega
        clear h60
        go_wp2_with fail
        go_roundw
        case rel => exact ⟨k + 1, by omega, by go_num, _, _, FIN.out.1, FIN.out.2.1, FIN.out.2.2.1, FIN.out.2.2.2⟩
        case measure => simp [intOf]; omega
    · go_wp2_with fail
      go_loopw [51] (fun i wr => ∃ q : Nat, q ≤ len1 ∧ i = .int .i64 (q : Int) ∧ ∃ L D, L.length ≤ 60 ∧ QO B wr b m ml L L D ∧ Below w.heap.size w wr) (fun i _ => len1 - (intOf i).toNat)
      case atStart => exact ⟨0, Nat.zero_le _, rfl, L, D, HL6.out, HQ.out, HBW.out⟩
      case round =>
        clear HQ HBW HLK HL6
        obtain ⟨q, hqn, rfl, L, D, hL60, hq, hbw⟩ := hrel
        have HQ := Lib.hid hq
        have HBW := Lib.hid hbw
        have HL6 := Lib.hid hL60
        obtain ⟨v, g1, g2, g3, g4, g5, g6⟩ := hq
        have HM := Lib.hid g6
        have HKS := Lib.hid HQ.out.keys
        clear hbw hL60 g1 g2 g3 g4 g5 g6
        by_cases hlt2 : q < len1
        · obtain ⟨p, rfl, hpb, hpc, hp0, hp1⟩ := HB1.out q hlt2
          have e0 : (p.add q).block = p.block := by unfold Addr.add; split <;> rfl
          have d0 : wr.cell? (p.add q) = some (.int .u8 (z1 q)) := (HBW.out.cell (p := p.add q) (by rw [e0]; exact hpb)).trans hpc
          generalize z1 q = u at *
          clear hpc hpb e0
          obtain ⟨X, hX⟩ : ∃ X : Nat, (u % 16) = (X : Int) := ⟨(u % 16).toNat, by omega⟩
          by_cases h10 : q < 10
          · have hXw := wf_int (x := (X : Int)) (by omega) (by omega)
            obtain ⟨cc, hlk, _⟩ := HM.out.look hXw
            have C3 := Lib.hid (drop_o (x := (X : Int)) HQ.out (by have := HL6.out; omega) (by omega))
            have HKY := Lib.hid (Maps.keyOf_int_mk (P := Try.prog) Try.underlying3 hXw)
            have HXW := Lib.hid hXw
            clear hXw
            generalize hT : hasK L (X : Int) = T at hlk C3
            clear hT
            cases T
            all_goals
              go_wp2_with (go_at_call 14; refine C3.out.mono ?_)
              rintro e wx ⟨rfl, ⟨hq3, hb3⟩, hf3⟩
              have HQ3 := Lib.hid hq3
              obtain ⟨v3, g1, g2, g3, g4, g5, g6⟩ := hq3
              have HM3 := Lib.hid g6
              have HB3 := Lib.hid (HBW.out.trans (hb3.mono HSB.out))
              clear hb3 hf3 g1 g2 g3 g4 g5 g6 C3 hlk
              go_wp2_with (at_delete; refine wpList_delete_own _ rfl _ _ 50 3 rfl 2 law Try.underlying50 _ ml L.length D rfl HM3.out.1 _ _ rfl HKY.out ?_)
              intro w4 ho4 hturn
              obtain ⟨hq4, hb4⟩ := HQ3.out.turn hturn.grown (HM3.out.del HXW.out HKS.out ho4)
              have FIN := Lib.hid (show (less L (X : Int)).length ≤ 60 ∧ QO B w4 b m ml (less L (X : Int)) (less L (X : Int)) _ ∧ Below w.heap.size w w4 from ⟨Nat.le_trans (less_le L _) HL6.out, hq4, HB3.out.trans (hb4.mono HSB.out)⟩)
              clear ho4 hturn hq4 hb4 d0
              go_wp2_with fail
              go_roundw
              case rel => exact ⟨q + 1, by omega, by go_num, _, _, FIN.out.1, FIN.out.2.1, FIN.out.2.2⟩
              case measure => simp [intOf]; omega
          · go_wp2_with fail
            go_roundw
            case rel => exact ⟨q + 1, by omega, by go_num, L, D, HL6.out, HQ.out, HBW.out⟩
            case measure => simp [intOf]; omega
        · have C3 := Lib.hid (len_o HQ.out)
          have HSZ := Lib.hid HM.out.2.1
          have hsz := HM.out.2.1
          go_wp2_with (first | (go_at_call 17; refine C3.out.mono ?_; rintro e w' ⟨rfl, rfl⟩) | (at_len; refine wpList_len_own _ rfl _ 50 rfl 3 2 Try.underlying50 _ ml L.length D rfl HM.out.1 ?_))
          go_loopw [85] (fun i wr => ∃ q : Nat, q ≤ L.length ∧ i = .int .i64 (q : Int) ∧ ∃ L' D', L'.length + q = L.length ∧ QO B wr b m ml L' L' D' ∧ Below w.heap.size w wr) (fun i _ => L.length - (intOf i).toNat)
          case atStart => exact ⟨0, Nat.zero_le _, rfl, L, D, rfl, HQ.out, HBW.out⟩
          case round =>
            clear HQ HBW HM HKS HSZ hsz C3
            obtain ⟨q, hqn, rfl, L', D', hLL, hq, hbw⟩ := hrel
            have HQ := Lib.hid hq
            have HBW := Lib.hid hbw
            have HLL := Lib.hid hLL
            clear hq hbw hLL
            have hl60 : (L.length : Int) ≤ 60 := by have := HL6.out; omega
            by_cases hlt3 : q < L.length
            · have C3 := Lib.hid (pop_o HQ.out (by have := HL6.out; have := HLL.out; omega) (fun e => by have := HLL.out; rw [e] at this; simp at this; omega))
              go_wp2_with (go_at_call 11; refine C3.out.mono ?_)
              rintro e wx ⟨⟨t1, t2⟩, ⟨ht, rfl⟩, hq3, hb3⟩
              have HQ3 := Lib.hid hq3
              obtain ⟨v3, g1, g2, g3, g4, g5, g6⟩ := hq3
              have hbd := HQ.out.bound ht.1
              have hXw := wf_int hbd.1 hbd.2
              have HM3 := Lib.hid g6
              obtain ⟨cc, hlk, hcc⟩ := g6.look hXw
              have hcc2 : cc = t2 := hcc _ ht.1 rfl
              subst hcc2
              have hhk : hasK L' t1 = true := hasK_iff.2 ⟨_, ht.1, rfl⟩
              rw [hhk] at hlk
              have HKY := Lib.hid (Maps.keyOf_int_mk (P := Try.prog) Try.underlying3 hXw)
              have HXW := Lib.hid hXw
              have HB3 := Lib.hid (HBW.out.trans (hb3.mono HSB.out))
              have HT := Lib.hid ht.1
              have HKS := Lib.hid HQ.out.keys
              clear hb3 g1 g2 g3 g4 g5 g6 C3 hXw hbd hcc ht hhk
              go_wp2_with (at_delete; refine wpList_delete_own _ rfl _ _ 50 3 rfl 2 law Try.underlying50 _ ml L'.length D' rfl HM3.out.1 _ _ rfl HKY.out ?_)
              intro w4 ho4 hturn
              obtain ⟨hq4, hb4⟩ := HQ3.out.turn hturn.grown (HM3.out.del HXW.out HKS.out ho4)
              have FIN := Lib.hid (show (less L' t1).length + (q + 1) = L.length ∧ QO B w4 b m ml (less L' t1) (less L' t1) _ ∧ Below w.heap.size w w4 from ⟨by have := less_len HKS.out HT.out; have := HLL.out; simp only at *; omega, hq4, HB3.out.trans (hb4.mono HSB.out)⟩)
              clear ho4 hturn hq4 hb4 hlk
              go_wp2_with fail
              go_roundw
              case rel => exact ⟨q + 1, by omega, by go_num, _, _, FIN.out.1, FIN.out.2.1, FIN.out.2.2⟩
              case measure => simp [intOf]; omega
            · have hL0 : L' = [] := List.eq_nil_of_length_eq_zero (by have := HLL.out; omega)
              subst hL0
              have C3 := Lib.hid (len_o HQ.out)
              go_wp2_with (go_at_call 17; refine C3.out.mono ?_; rintro e w' ⟨rfl, rfl⟩)
              go_ret
              exact ⟨rfl, HBW.out⟩
end QbO
end Go.Proofs.Ytpklbaebfeoceaa
