/- Two queues beside each other (no statement of its own). -/
import Derived.Test.YtpklbaebfeoceaaQuB
namespace Go.Proofs.Ytpklbaebfeoceaa
open Go.RowKit
set_option linter.unusedVariables false
theorem QA.keptKp {w w' : World} {B b m : Nat} {N : Int} {v : Value} {L : List It} {S : Nat → Prop} (h : QA w B b m N v L) (hk : Kp S w w') (hb : ¬ S b) (hm : ¬ S m) (hv : ∀ g, v.ownBlock = some g → ¬ S g) : QA w' B b m N v L := by
  obtain ⟨l, f, ⟨h1, h2, h3, h4⟩, h5⟩ := h
  refine ⟨l, f, ⟨(hk.block b h1.lt hb).trans h1, ?_, ?_, h4⟩, h5⟩
  · obtain ⟨q1, ⟨rfl, hn⟩ | ⟨g, cap, cur, rfl, hb', hh, hr⟩⟩ := h2
    · exact ⟨q1, .inl ⟨rfl, hn⟩⟩
    · exact ⟨q1, .inr ⟨g, cap, cur, rfl, hb', (hk.block g (Array.getElem?_eq_some_iff.1 hh).1 (hv g rfl)).trans hh, hr⟩⟩
  · obtain ⟨p1, D, ho, p2⟩ := h3
    have hlt := ho.lt
    obtain ⟨es, clock, hb', F, hs, hD⟩ := ho
    exact ⟨p1, D, ⟨es, clock, (hk.block m hlt hm).trans hb', F, hs, hD⟩, p2⟩
/-- No block of the one is the other's. -/
def Apt (b1 m1 : Nat) (v1 : Value) (b2 m2 : Nat) (v2 : Value) : Prop := b1 ≠ b2 ∧ m1 ≠ m2 ∧ ∀ g, v1.ownBlock = some g → v2.ownBlock ≠ some g
def Q2 (B : Nat) (w : World) (b1 m1 b2 m2 : Nat) (N : Int) (L1 L2 : List It) : Prop :=
  ∃ v1 v2, QA w B b1 m1 N v1 L1 ∧ QA w B b2 m2 N v2 L2 ∧ B ≤ b1 ∧ B ≤ b2 ∧ B ≤ w.heap.size ∧ Apt b1 m1 v1 b2 m2 v2
theorem Q2.swap {B : Nat} {w : World} {b1 m1 b2 m2 : Nat} {N : Int} {L1 L2 : List It} (h : Q2 B w b1 m1 b2 m2 N L1 L2) : Q2 B w b2 m2 b1 m1 N L2 L1 := by
  obtain ⟨v1, v2, h1, h2, h3, h4, h5, h6, h7, h8⟩ := h
  exact ⟨v2, v1, h2, h1, h4, h3, h5, fun e => h6 e.symm, fun e => h7 e.symm, fun g hg e => h8 g e hg⟩
theorem Q2.perm {B : Nat} {w : World} {b1 m1 b2 m2 : Nat} {N : Int} {L1 L2 L1' L2' : List It} (h : Q2 B w b1 m1 b2 m2 N L1 L2) (hp1 : L1.Perm L1') (hp2 : L2.Perm L2') : Q2 B w b1 m1 b2 m2 N L1' L2' := by
  obtain ⟨v1, v2, h1, h2, h3⟩ := h
  exact ⟨v1, v2, h1.perm hp1, h2.perm hp2, h3⟩
theorem Q2.keys1 {B : Nat} {w : World} {b1 m1 b2 m2 : Nat} {N : Int} {L1 L2 : List It} (h : Q2 B w b1 m1 b2 m2 N L1 L2) : (L1.map (·.1)).Nodup := by obtain ⟨v1, v2, h1, _⟩ := h; exact h1.keys
theorem Q2.keys2 {B : Nat} {w : World} {b1 m1 b2 m2 : Nat} {N : Int} {L1 L2 : List It} (h : Q2 B w b1 m1 b2 m2 N L1 L2) : (L2.map (·.1)).Nodup := by obtain ⟨v1, v2, h1, h2, _⟩ := h; exact h2.keys
theorem Pls.ne_hd2 {w : World} {B b m m' s : Nat} {N : Int} {v : Value} {f : Int → Option Nat} (hm : Pls w B m f s) (h : Hd w b N v m') : m ≠ b := by
  intro e
  subst e
  obtain ⟨_, D, ⟨es, ck, hb, _⟩, _⟩ := hm
  have h' : w.heap[m]? = some _ := h
  rw [hb] at h'
  simp at h'
theorem QA.own_ne {w : World} {B b m : Nat} {N : Int} {v : Value} {L : List It} (h : QA w B b m N v L) {b' : Nat} {m' : Nat} {N' : Int} {v' : Value} {L' : List It} (h' : QA w B b' m' N' v' L') : m ≠ b' ∧ (∀ g, v.ownBlock = some g → g ≠ b') ∧ ∀ g, v.ownBlock = some g → g ≠ m' := by
  obtain ⟨l, f, ⟨h1, h2, h3, _⟩, _⟩ := h
  obtain ⟨l', f', ⟨h1', h2', h3', _⟩, _⟩ := h'
  exact ⟨Pls.ne_hd2 h3 h1', fun g hg => Its.ne_hd h2 hg h1', fun g hg => Its.ne_map h2 hg h3'⟩
theorem QA.own_lt {w : World} {B b m : Nat} {N : Int} {v : Value} {L : List It} (h : QA w B b m N v L) {g : Nat} (hg : v.ownBlock = some g) : g < w.heap.size := by
  obtain ⟨l, f, ⟨h1, h2, h3, _⟩, _⟩ := h
  exact (World.ownsRow.lt h2 g hg).2
theorem Q2.then1 {B : Nat} {w w' : World} {b1 m1 b2 m2 : Nat} {N : Int} {v1 v2 v1' : Value} {L1 L2 L1' : List It} (h1 : QA w B b1 m1 N v1 L1) (h2 : QA w B b2 m2 N v2 L2) (h3 : B ≤ b1) (h4 : B ≤ b2) (h5 : B ≤ w.heap.size) (h6 : Apt b1 m1 v1 b2 m2 v2)
    (h' : QA w' B b1 m1 N v1' L1') (hk : KQ w b1 m1 v1 w' v1') : Q2 B w' b1 m1 b2 m2 N L1' L2 ∧ Below B w w' := by
  obtain ⟨a1, a2, a3⟩ := h6
  obtain ⟨n1, n2, n3⟩ := h1.own_ne h2
  obtain ⟨n4, n5, n6⟩ := h2.own_ne h1
  have hbel := (QB.then h1 h3 h5 h' hk).2
  refine ⟨⟨v1', v2, h', h2.keptKp hk.1 ?_ ?_ ?_, h3, h4, Nat.le_trans h5 hk.1.size, a1, a2, ?_⟩, hbel⟩
  · rintro (q | q | q)
    · exact a1 q.symm
    · exact n1 q.symm
    · exact n2 _ q rfl
  · rintro (q | q | q)
    · exact n4 q
    · exact a2 q.symm
    · exact n3 _ q rfl
  · intro g hg
    rintro (q | q | q)
    · exact n5 g hg q
    · exact n6 g hg q
    · exact a3 g q hg
  · intro g hg e
    rcases hk.2 with q | q | ⟨g', q, hs⟩
    · exact a3 g (by rw [← q]; exact hg) e
    · rw [q] at hg; cases hg
    · rw [q] at hg
      injection hg with hg
      have := h2.own_lt e
      omega
def And2 (B : Nat) (w : World) (b1 m1 b2 m2 : Nat) (N : Int) (L1 L2 : List It) (v : Value) (e : Ending) (w' : World) : Prop := e = .returned v ∧ Q2 B w' b1 m1 b2 m2 N L1 L2 ∧ Below B w w'
theorem push_1 {B : Nat} {w : World} {b1 m1 b2 m2 : Nat} {N x p : Int} {L1 L2 : List It} (h : Q2 B w b1 m1 b2 m2 N L1 L2) (hl : L1.length < 100000) (h0 : 0 ≤ x) (h1 : x < N) (hN : N ≤ 9223372036854775807) :
    Calls Try.prog 16 #[.pointer (some ⟨b1, 0, none⟩), .int .i64 x, .int .i64 p] w (And2 B w b1 m1 b2 m2 N ((x, p) :: less L1 x) L2 (.int .i64 0)) := by
  obtain ⟨v1, v2, q1, q2, q3, q4, q5, q6⟩ := h
  refine (push_any q1 hl h0 h1 hN q5).mono fun e w' hh => ?_
  obtain ⟨r1, v', r2, r3⟩ := hh
  exact ⟨r1, Q2.then1 q1 q2 q3 q4 q5 q6 r2 r3⟩
theorem push_2 {B : Nat} {w : World} {b1 m1 b2 m2 : Nat} {N x p : Int} {L1 L2 : List It} (h : Q2 B w b1 m1 b2 m2 N L1 L2) (hl : L2.length < 100000) (h0 : 0 ≤ x) (h1 : x < N) (hN : N ≤ 9223372036854775807) :
    Calls Try.prog 16 #[.pointer (some ⟨b2, 0, none⟩), .int .i64 x, .int .i64 p] w (And2 B w b1 m1 b2 m2 N L1 ((x, p) :: less L2 x) (.int .i64 0)) :=
  (push_1 h.swap hl h0 h1 hN).mono fun e w' hh => ⟨hh.1, hh.2.1.swap, hh.2.2⟩
def Pop1 (B : Nat) (w : World) (b1 m1 b2 m2 : Nat) (N : Int) (L1 L2 : List It) (e : Ending) (w' : World) : Prop := ∃ a, TopE L1 a e ∧ Q2 B w' b1 m1 b2 m2 N (less L1 a.1) L2 ∧ Below B w w'
theorem pop_1 {B : Nat} {w : World} {b1 m1 b2 m2 : Nat} {N : Int} {L1 L2 : List It} (h : Q2 B w b1 m1 b2 m2 N L1 L2) (hl : L1.length < 100000) (hL : L1 ≠ []) :
    Calls Try.prog 11 #[.pointer (some ⟨b1, 0, none⟩)] w (Pop1 B w b1 m1 b2 m2 N L1 L2) := by
  obtain ⟨v1, v2, q1, q2, q3, q4, q5, q6⟩ := h
  refine (pop_any q1 hl hL).mono fun e w' hh => ?_
  obtain ⟨a, r1, v', r2, r3⟩ := hh
  exact ⟨a, r1, Q2.then1 q1 q2 q3 q4 q5 q6 r2 r3⟩
/-- Which one comes of the second is known. -/
theorem pop_2 {B : Nat} {w : World} {b1 m1 b2 m2 : Nat} {N : Int} {L1 L2 : List It} {a : It} (h : Q2 B w b1 m1 b2 m2 N L1 L2) (hl : L2.length < 100000) (ha : IsTop L2 a) :
    Calls Try.prog 11 #[.pointer (some ⟨b2, 0, none⟩)] w (And2 B w b1 m1 b2 m2 N L1 (less L2 a.1) (.tuple #[.int .i64 a.1, .int .i64 a.2, .bool true])) := by
  refine (pop_1 h.swap hl (fun q => by rw [q] at ha; cases ha.1)).mono fun e w' hh => ?_
  obtain ⟨a', ⟨r1, r2⟩, r3, r4⟩ := hh
  have := isTop_one ha r1
  subst this
  exact ⟨r2, r3.swap, r4⟩
theorem len_1 {B : Nat} {w : World} {b1 m1 b2 m2 : Nat} {N : Int} {L1 L2 : List It} (h : Q2 B w b1 m1 b2 m2 N L1 L2) :
    Calls Try.prog 17 #[.pointer (some ⟨b1, 0, none⟩)] w fun e w' => e = .returned (.int .i64 (L1.length : Int)) ∧ w = w' := by
  obtain ⟨v1, v2, q1, _⟩ := h
  exact qlen_any q1
theorem top_2 {B : Nat} {w : World} {b1 m1 b2 m2 : Nat} {N : Int} {L1 L2 : List It} (h : Q2 B w b1 m1 b2 m2 N L1 L2) (hl : L2.length < 100000) :
    Calls Try.prog 10 #[.pointer (some ⟨b2, 0, none⟩)] w (TopP L2 w) := by
  obtain ⟨v1, v2, q1, q2, _⟩ := h
  exact top_any q2 (by omega)
theorem Q2.kept {B : Nat} {w w' : World} {b1 m1 b2 m2 : Nat} {N : Int} {L1 L2 : List It} (h : Q2 B w b1 m1 b2 m2 N L1 L2) (hg : w.grownBy w' none) : Q2 B w' b1 m1 b2 m2 N L1 L2 := by
  obtain ⟨v1, v2, q1, q2, q3, q4, q5, q6⟩ := h
  exact ⟨v1, v2, q1.kept hg, q2.kept hg, q3, q4, Nat.le_trans q5 hg.size, q6⟩
/-- Two new ones. -/
theorem new_2 {w0 w1 w2 : World} {N : Int} (h1 : NewP w0 N (.returned (.pointer (some ⟨w0.heap.size + 1, 0, none⟩))) w1) (h2 : NewP w1 N (.returned (.pointer (some ⟨w1.heap.size + 1, 0, none⟩))) w2) :
    Q2 w0.heap.size w2 (w0.heap.size + 1) w0.heap.size (w1.heap.size + 1) w1.heap.size N [] [] ∧ Below w0.heap.size w0 w2 := by
  obtain ⟨_, a1, a2, a3⟩ := h1
  obtain ⟨_, b1, b2, b3⟩ := h2
  refine ⟨⟨_, _, (a1 _ (Nat.le_refl _)).kept b2, b1 _ (by omega), by omega, by omega, by omega, by omega, by omega, fun g hg => by cases hg⟩, (below_of_grown a2 (Nat.le_refl _)).trans (below_of_grown b2 (by omega))⟩
/-- What waits of the second when all but one number was pushed. -/
theorem less_succ {l : List Int} {k i : Nat} (h : k ≠ i) : (((k : Int), nthI l k) :: less (less (psI l k) (i : Int)) (k : Int)).Perm (less (psI l (k + 1)) (i : Int)) := by
  refine perm_of_get (List.nodup_cons.2 ⟨fun q => (mem_less.1 q).2 rfl, less_nodup (less_nodup (psI_nodup l k) _) _⟩) (less_nodup (psI_nodup _ _) _) fun y => ?_
  rw [List.mem_cons, mem_less, mem_less, mem_less, mem_psI, mem_psI]
  constructor
  · rintro (rfl | ⟨⟨⟨j, hj, rfl⟩, hne⟩, hne2⟩)
    · exact ⟨⟨k, by omega, rfl⟩, by simp; omega⟩
    · exact ⟨⟨j, by omega, rfl⟩, hne⟩
  · rintro ⟨⟨j, hj, rfl⟩, hne⟩
    by_cases e : j = k
    · subst e; exact .inl rfl
    · exact .inr ⟨⟨⟨j, by omega, rfl⟩, hne⟩, by simp; omega⟩
theorem less_same {l : List Int} {i : Nat} : (less (psI l i) (i : Int)).Perm (less (psI l (i + 1)) (i : Int)) := by
  refine perm_of_get (less_nodup (psI_nodup _ _) _) (less_nodup (psI_nodup _ _) _) fun y => ?_
  rw [mem_less, mem_less, mem_psI, mem_psI]
  constructor
  · rintro ⟨⟨j, hj, rfl⟩, hne⟩
    exact ⟨⟨j, by omega, rfl⟩, hne⟩
  · rintro ⟨⟨j, hj, rfl⟩, hne⟩
    have e : j ≠ i := fun q => hne (by rw [q])
    exact ⟨⟨j, by omega, rfl⟩, hne⟩
/-- Of the one queue there is all that the other one has, and perhaps one more. -/
def Rel (a : It) (L1 L2 : List It) : Prop := (∀ y ∈ L2, y.1 ≠ a.1) ∧ ((∀ y, y ∈ L1 ↔ y = a ∨ y ∈ L2) ∨ ∀ y, y ∈ L1 ↔ y ∈ L2)
theorem Rel.start {l : List Int} {n i : Nat} {p : Int} : Rel ((i : Int), p) (((i : Int), p) :: less (psI l n) (i : Int)) (less (psI l n) (i : Int)) :=
  ⟨fun y hy => (mem_less.1 hy).2, .inl fun y => List.mem_cons⟩
/-- The one comes. -/
theorem Rel.one {a t : It} {L1 L2 : List It} (h : Rel a L1 L2) (ht : IsTop L1 t) (e : t.1 = a.1) : t = a ∧ (∀ y ∈ L2, ltI y a = false) ∧ Rel a (less L1 t.1) L2 := by
  obtain ⟨h1, h2⟩ := h
  rcases h2 with h2 | h2
  · have hta : t = a := by
      rcases (h2 t).1 ht.1 with q | q
      · exact q
      · exact absurd e (h1 t q)
    subst hta
    refine ⟨rfl, fun y hy => ht.2 y ((h2 y).2 (.inr hy)), h1, .inr fun y => ?_⟩
    rw [mem_less, h2 y]
    constructor
    · rintro ⟨q | q, r⟩
      · exact absurd (by rw [q]) r
      · exact q
    · exact fun q => ⟨.inr q, h1 y q⟩
  · exact absurd e (h1 t ((h2 t).1 ht.1))
/-- Another one comes: of both. -/
theorem Rel.both {a t : It} {L1 L2 : List It} (h : Rel a L1 L2) (ht : IsTop L1 t) (e : t.1 ≠ a.1) : IsTop L2 t ∧ Rel a (less L1 t.1) (less L2 t.1) := by
  obtain ⟨h1, h2⟩ := h
  have h3 : ∀ y, y ∈ L2 → y ∈ L1 := fun y hy => by
    rcases h2 with h2 | h2
    · exact (h2 y).2 (.inr hy)
    · exact (h2 y).2 hy
  have h4 : t ∈ L2 := by
    rcases h2 with h2 | h2
    · rcases (h2 t).1 ht.1 with q | q
      · exact absurd (by rw [q]) e
      · exact q
    · exact (h2 t).1 ht.1
  refine ⟨⟨h4, fun y hy => ht.2 y (h3 y hy)⟩, fun y hy => h1 y (mem_less.1 hy).1, ?_⟩
  rcases h2 with h2 | h2
  · left
    intro y
    rw [mem_less, mem_less, h2 y]
    constructor
    · rintro ⟨q | q, r⟩
      · exact .inl q
      · exact .inr ⟨q, r⟩
    · rintro (q | ⟨q, r⟩)
      · exact ⟨.inl q, fun s => e (by rw [← s, q])⟩
      · exact ⟨.inr q, r⟩
  · right
    intro y
    rw [mem_less, mem_less, h2 y]
theorem less_le (L : List It) (x : Int) : (less L x).length ≤ L.length := List.length_filter_le _ _
end Go.Proofs.Ytpklbaebfeoceaa
