/- The contract of trail's put (no statement of its own). -/
import Derived.Test.YtafcecacldafgaaTrC
namespace Go.Proofs.Ytafcecacldafgaa
open Go.RowKit
open Go.Maps (Keyed)
set_option linter.unusedVariables false
/-- So many cells at least. -/
def padTo (l : List Cl) (n : Nat) : List Cl := l ++ List.replicate (n - l.length) (0, 0)
theorem padTo_len (l : List Cl) (n : Nat) : (padTo l n).length = max l.length n := by simp [padTo]; omega
theorem padTo_self {l : List Cl} {n : Nat} (h : n ≤ l.length) : padTo l n = l := by simp [padTo, Nat.sub_eq_zero_of_le h]
def Tr.put (T : Tr) (i : Nat) (c : Cl) : Tr := { T with fs := (padTo T.fs (i + 1)).set i c }
def AndT (P : Nat → Prop) (w : World) (b : Nat) (T : Tr) (v : Value) (e : Ending) (w' : World) : Prop := e = .returned v ∧ TA P w' b T ∧ Kp P w w'
/-- A store into one of the trail's own cells. -/
theorem hd_set {w : World} {b : Nat} {cs : Array Value} (h : w.heap[b]? = some (.cells cs 59 (0, 0))) (i : Nat) (u : Value) :
    (w.setCell ⟨b, i, none⟩ u).heap[b]? = some (.cells (cs.setIfInBounds i u) 59 (0, 0)) ∧ w.grownBy (w.setCell ⟨b, i, none⟩ u) (some b) := by
  obtain ⟨hlt, hk⟩ := Array.getElem?_eq_some_iff.1 h
  refine ⟨?_, ⟨rfl, rfl, rfl, (KeepsWalks.setCell w _ _).size, fun j hj hne => Below.heap_setCell w ⟨b, i, none⟩ _ j (fun e => hne (by rw [e]))⟩⟩
  show (w.heap.modify b _)[b]? = _
  rw [Array.getElem?_eq_getElem (by rw [Array.size_modify]; exact hlt), Array.getElem_modify_self, hk]
  rfl
theorem Hd.set0 {w : World} {b m sz era : Nat} {v1 v2 v3 : Value} (h : Hd w b sz era v1 v2 v3 m) (n : Nat) : Hd (w.setCell ⟨b, 0, none⟩ (.int .i64 (n : Int))) b n era v1 v2 v3 m ∧ w.grownBy (w.setCell ⟨b, 0, none⟩ (.int .i64 (n : Int))) (some b) := hd_set h 0 _
theorem Hd.set1 {w : World} {b m sz era : Nat} {v1 v2 v3 : Value} (h : Hd w b sz era v1 v2 v3 m) (u : Value) : Hd (w.setCell ⟨b, 1, none⟩ u) b sz era u v2 v3 m ∧ w.grownBy (w.setCell ⟨b, 1, none⟩ u) (some b) := hd_set h 1 u
theorem Hd.set3 {w : World} {b m sz era : Nat} {v1 v2 v3 : Value} (h : Hd w b sz era v1 v2 v3 m) (n : Nat) : Hd (w.setCell ⟨b, 3, none⟩ (.int .i64 (n : Int))) b sz n v1 v2 v3 m ∧ w.grownBy (w.setCell ⟨b, 3, none⟩ (.int .i64 (n : Int))) (some b) := hd_set h 3 _
theorem Hd.set4 {w : World} {b m sz era : Nat} {v1 v2 v3 : Value} (h : Hd w b sz era v1 v2 v3 m) (u : Value) : Hd (w.setCell ⟨b, 4, none⟩ u) b sz era v1 u v3 m ∧ w.grownBy (w.setCell ⟨b, 4, none⟩ u) (some b) := hd_set h 4 u
theorem Hd.set5 {w : World} {b m sz era : Nat} {v1 v2 v3 : Value} (h : Hd w b sz era v1 v2 v3 m) (u : Value) : Hd (w.setCell ⟨b, 5, none⟩ u) b sz era v1 v2 u m ∧ w.grownBy (w.setCell ⟨b, 5, none⟩ u) (some b) := hd_set h 5 u
/-- A cell is written. -/
theorem Row2.store {w : World} {g c : Nat} {l : List Cl} (h : Row2 w (.slice (some ⟨g, 0, none⟩) l.length c) l) (i : Nat) (x p : Int) :
    Row2 ((w.setCell ⟨g, i * 2, none⟩ (.int .i64 x)).setCell ⟨g, i * 2 + 1, none⟩ (.int .i64 p)) (.slice (some ⟨g, 0, none⟩) l.length c) (l.set i (x, p)) ∧
      w.grownBy ((w.setCell ⟨g, i * 2, none⟩ (.int .i64 x)).setCell ⟨g, i * 2 + 1, none⟩ (.int .i64 p)) (some g) := by
  obtain ⟨h1, g1⟩ := World.ownsRow.stored h (i * 2) (.int .i64 x)
  obtain ⟨h2, g2⟩ := World.ownsRow.stored h1 (i * 2 + 1) (.int .i64 p)
  rw [flat2_set] at h2
  refine ⟨?_, World.grownBy.trans g1 g2⟩
  unfold Row2
  rw [List.length_set]
  exact h2
theorem World.Kgrow {w w' : World} (h : w.grownBy w' none) (g : Nat) : w.grownBy w' (some g) := ⟨h.os, h.tape, h.output, h.size, fun k hk _ => h.block k hk (by simp)⟩
theorem World.grownBy_refl (w : World) : w.grownBy w none := ⟨rfl, rfl, rfl, Nat.le_refl _, fun _ _ _ => rfl⟩
theorem grown_drew {w w' : World} {row : Option Nat} (h : w.grownBy w' row) : w.grownBy w'.drew row := ⟨h.os, h.tape, h.output, h.size, h.block⟩
theorem grown_drewN {w w' : World} {row : Option Nat} (h : w.grownBy w' row) (n : Nat) : w.grownBy (w'.drewN n) row := ⟨h.os, h.tape, h.output, h.size, h.block⟩
/-- The trail's parts, apart from its own cells. -/
structure Parts (P : Nat → Prop) (w : World) (b m : Nat) (v1 v2 v3 : Value) (l1 : List Cl) (l2 l3 : List Tri) : Prop where
  r1 : Row2 w v1 l1
  r2 : RowM w v2 l2
  r3 : RowK w v3 l3
  e : Emp w m
  pb : P b
  pm : P m
  p1 : ∀ g, v1.ownBlock = some g → P g
  p2 : ∀ g, v2.ownBlock = some g → P g
  p3 : ∀ g, v3.ownBlock = some g → P g
theorem TA.parts {P : Nat → Prop} {w : World} {b : Nat} {T : Tr} (h : TA P w b T) : ∃ v1 v2 v3 m, Hd w b T.size T.era v1 v2 v3 m ∧ Parts P w b m v1 v2 v3 T.fs T.marks T.kept := by
  obtain ⟨v1, v2, v3, m, h1, h2, h3, h4, h5, h6, h7, h8, h9, h10⟩ := h
  exact ⟨v1, v2, v3, m, h1, h2, h3, h4, h5, h6, h7, h8, h9, h10⟩
theorem Parts.ta {P : Nat → Prop} {w : World} {b m : Nat} {v1 v2 v3 : Value} {T : Tr} (h : Parts P w b m v1 v2 v3 T.fs T.marks T.kept) (hd : Hd w b T.size T.era v1 v2 v3 m) : TA P w b T :=
  ⟨v1, v2, v3, m, hd, h.r1, h.r2, h.r3, h.e, h.pb, h.pm, h.p1, h.p2, h.p3⟩
/-- Only the own block of one kind, or the trail's own cells, or none, have turned. -/
theorem Parts.kept {P : Nat → Prop} {w w' : World} {b m : Nat} {v1 v2 v3 : Value} {l1 : List Cl} {l2 l3 : List Tri} {row : Option Nat} (h : Parts P w b m v1 v2 v3 l1 l2 l3) (hg : w.grownBy w' row)
    (h1 : v1.ownBlock = none ∨ v1.ownBlock ≠ row) (h2 : v2.ownBlock = none ∨ v2.ownBlock ≠ row) (h3 : v3.ownBlock = none ∨ v3.ownBlock ≠ row) (hm : some m ≠ row) : Parts P w' b m v1 v2 v3 l1 l2 l3 :=
  ⟨World.ownsRow.kept h.r1 hg h1, World.ownsRow.kept h.r2 hg h2, World.ownsRow.kept h.r3 hg h3, h.e.kept hg hm, h.pb, h.pm, h.p1, h.p2, h.p3⟩
theorem own_or (v : Value) : v.ownBlock = none ∨ v.ownBlock ≠ none := by
  cases v.ownBlock <;> simp
theorem Parts.grown {P : Nat → Prop} {w w' : World} {b m : Nat} {v1 v2 v3 : Value} {l1 : List Cl} {l2 l3 : List Tri} (h : Parts P w b m v1 v2 v3 l1 l2 l3) (hg : w.grownBy w' none) : Parts P w' b m v1 v2 v3 l1 l2 l3 :=
  h.kept hg (own_or _) (own_or _) (own_or _) (by simp)
theorem row_not {w : World} {e size : Nat} {v : Value} {n : Nat} {xs : List Value} {k : Nat} {o : Obj} (h : w.ownsRow 0 e size v n xs) (hk : w.heap[k]? = some o) (ho : ∀ cur, o ≠ .cells cur e (0, 0)) : v.ownBlock = none ∨ v.ownBlock ≠ some k := by
  cases hv : v.ownBlock with
  | none => exact .inl rfl
  | some g => exact .inr (fun q => by injection q with q; exact row_ne h hv hk ho q)
theorem row_not2 {w : World} {e e' size size' : Nat} {v v' : Value} {n n' : Nat} {xs xs' : List Value} (h : w.ownsRow 0 e size v n xs) (h' : w.ownsRow 0 e' size' v' n' xs') (hne : e ≠ e') : v.ownBlock = none ∨ v.ownBlock ≠ v'.ownBlock := by
  cases hv : v.ownBlock with
  | none => exact .inl rfl
  | some g => exact .inr (fun q => row_ne2 h h' hne hv q.symm)
/-- The trail's own cells were written. -/
theorem Parts.keptB {P : Nat → Prop} {w w' : World} {b m sz era : Nat} {v1 v2 v3 u1 u2 u3 : Value} {l1 : List Cl} {l2 l3 : List Tri} (h : Parts P w b m v1 v2 v3 l1 l2 l3) (hd : Hd w b sz era u1 u2 u3 m) (hg : w.grownBy w' (some b)) : Parts P w' b m v1 v2 v3 l1 l2 l3 := by
  have hd' : w.heap[b]? = some _ := hd
  refine h.kept hg (row_not h.r1 hd' (by intro cur q; injection q with q1 q2; exact absurd q2 (by decide))) (row_not h.r2 hd' (by intro cur q; injection q with q1 q2; exact absurd q2 (by decide))) (row_not h.r3 hd' (by intro cur q; injection q with q1 q2; exact absurd q2 (by decide))) ?_
  intro q
  injection q with q
  have he : w.heap[m]? = some _ := h.e
  rw [q] at he
  rw [hd'] at he
  injection he with he
  cases he
theorem hd_row {w w' : World} {b m sz era e size : Nat} {u1 u2 u3 v : Value} {n : Nat} {xs : List Value} (hd : Hd w b sz era u1 u2 u3 m) (h : w.ownsRow 0 e size v n xs) (he : e ≠ 59) (hg : w.grownBy w' v.ownBlock) : Hd w' b sz era u1 u2 u3 m := by
  have hd' : w.heap[b]? = some _ := hd
  refine hd.kept hg (fun q => ?_)
  rcases row_not h hd' (by intro cur q; injection q with q1 q2; exact he q2.symm) with h0 | h0
  · rw [h0] at q; cases q
  · exact h0 q.symm
theorem emp_row {w w' : World} {m e size : Nat} {v : Value} {n : Nat} {xs : List Value} (he : Emp w m) (h : w.ownsRow 0 e size v n xs) (hg : w.grownBy w' v.ownBlock) : Emp w' m := by
  have hd' : w.heap[m]? = some _ := he
  refine he.kept hg (fun q => ?_)
  rcases row_not h hd' (by intro cur q; cases q) with h0 | h0
  · rw [h0] at q; cases q
  · exact h0 q.symm
/-- The row of the cells, of the marks, of what is kept has turned, or is another one. -/
theorem Parts.kept1 {P : Nat → Prop} {w w' : World} {b m : Nat} {v1 v2 v3 u : Value} {l1 k : List Cl} {l2 l3 : List Tri} (h : Parts P w b m v1 v2 v3 l1 l2 l3) (hg : w.grownBy w' v1.ownBlock) (hr : Row2 w' u k) (hp : ∀ g, u.ownBlock = some g → P g) : Parts P w' b m u v2 v3 k l2 l3 :=
  ⟨hr, World.ownsRow.kept h.r2 hg (row_not2 h.r2 h.r1 (by decide)), World.ownsRow.kept h.r3 hg (row_not2 h.r3 h.r1 (by decide)), emp_row h.e h.r1 hg, h.pb, h.pm, hp, h.p2, h.p3⟩
theorem Parts.kept2 {P : Nat → Prop} {w w' : World} {b m : Nat} {v1 v2 v3 u : Value} {l1 : List Cl} {l2 l3 k : List Tri} (h : Parts P w b m v1 v2 v3 l1 l2 l3) (hg : w.grownBy w' v2.ownBlock) (hr : RowM w' u k) (hp : ∀ g, u.ownBlock = some g → P g) : Parts P w' b m v1 u v3 l1 k l3 :=
  ⟨World.ownsRow.kept h.r1 hg (row_not2 h.r1 h.r2 (by decide)), hr, World.ownsRow.kept h.r3 hg (row_not2 h.r3 h.r2 (by decide)), emp_row h.e h.r2 hg, h.pb, h.pm, h.p1, hp, h.p3⟩
theorem Parts.kept3 {P : Nat → Prop} {w w' : World} {b m : Nat} {v1 v2 v3 u : Value} {l1 : List Cl} {l2 l3 k : List Tri} (h : Parts P w b m v1 v2 v3 l1 l2 l3) (hg : w.grownBy w' v3.ownBlock) (hr : RowK w' u k) (hp : ∀ g, u.ownBlock = some g → P g) : Parts P w' b m v1 v2 u l1 l2 k :=
  ⟨World.ownsRow.kept h.r1 hg (row_not2 h.r1 h.r3 (by decide)), World.ownsRow.kept h.r2 hg (row_not2 h.r2 h.r3 (by decide)), hr, emp_row h.e h.r3 hg, h.pb, h.pm, h.p1, h.p2, hp⟩
theorem Kp.row {P : Nat → Prop} {w w' : World} {v : Value} (hg : w.grownBy w' v.ownBlock) (hp : ∀ g, v.ownBlock = some g → P g) : Kp P w w' := Kp.of_grown hg (fun k hk => hp k hk)
theorem Kp.none {P : Nat → Prop} {w w' : World} (hg : w.grownBy w' none) : Kp P w w' := Kp.of_grown hg (fun k hk => by cases hk)
theorem Kp.one {P : Nat → Prop} {w w' : World} {b : Nat} (hg : w.grownBy w' (some b)) (hp : P b) : Kp P w w' := Kp.of_grown hg (fun k hk => by injection hk with hk; subst hk; exact hp)
/-- A trail whose map of far cells is block m. -/
def TAm (P : Nat → Prop) (w : World) (b m : Nat) (T : Tr) : Prop := ∃ v1 v2 v3, Hd w b T.size T.era v1 v2 v3 m ∧ Parts P w b m v1 v2 v3 T.fs T.marks T.kept
theorem TAm.ta {P : Nat → Prop} {w : World} {b m : Nat} {T : Tr} (h : TAm P w b m T) : TA P w b T := by
  obtain ⟨v1, v2, v3, h1, h2⟩ := h
  exact h2.ta h1
theorem TA.tam {P : Nat → Prop} {w : World} {b : Nat} {T : Tr} (h : TA P w b T) : ∃ m, TAm P w b m T := by
  obtain ⟨v1, v2, v3, m, h1, h2⟩ := h.parts
  exact ⟨m, v1, v2, v3, h1, h2⟩
/-- The same, and the block of what is kept is as it was. -/
def AndM (P : Nat → Prop) (w : World) (b m : Nat) (v2 v3 : Value) (T : Tr) (v : Value) (e : Ending) (w' : World) : Prop :=
  e = .returned v ∧ (∃ v1, Hd w' b T.size T.era v1 v2 v3 m ∧ Parts P w' b m v1 v2 v3 T.fs T.marks T.kept) ∧ Kp P w w' ∧ ∀ k, v3.ownBlock = some k → w'.heap[k]? = w.heap[k]?
theorem far3 {P : Nat → Prop} {w : World} {b m sz era : Nat} {v1 v2 v3 : Value} {l1 : List Cl} {l2 l3 : List Tri} (h1 : Hd w b sz era v1 v2 v3 m) (h2 : Parts P w b m v1 v2 v3 l1 l2 l3) : ∀ k, v3.ownBlock = some k → k < w.heap.size ∧ k ≠ b ∧ some k ≠ v1.ownBlock := fun k hk => by
  refine ⟨(World.ownsRow.lt h2.r3 k hk).2, fun e => ?_, fun e => ?_⟩
  · have hd' : w.heap[b]? = some _ := h1
    rcases row_not h2.r3 hd' (by intro cur q; injection q with q1 q2; exact absurd q2 (by decide)) with h | h
    · rw [h] at hk; cases hk
    · exact h (by rw [hk, e])
  · rcases row_not2 h2.r3 h2.r1 (by decide) with h | h
    · rw [h] at hk; cases hk
    · exact h (by rw [hk, e])
set_option maxRecDepth 100000 in
set_option maxHeartbeats 1000000 in
theorem put_in {P : Nat → Prop} {w : World} {b m i : Nat} {x p : Int} {v1 v2 v3 : Value} {T : Tr} (h1 : Hd w b T.size T.era v1 v2 v3 m) (h2 : Parts P w b m v1 v2 v3 T.fs T.marks T.kept) (hi : i < T.fs.length) (hl : i < 2097152) :
    Calls Try.prog 31 #[.pointer (some ⟨b, 0, none⟩), .int .i64 (i : Int), .agg #[.int .i64 x, .int .i64 p]] w (AndM P w b m v2 v3 (T.put i (x, p)) (.tuple #[])) := by
  have hpt : T.put i (x, p) = { T with fs := T.fs.set i (x, p) } := by unfold Tr.put; rw [padTo_self (by omega)]
  rw [hpt]
  have FAR := Lib.hid (far3 h1 h2)
  have hga := World.grownBy_alloc w (.cells #[.int .i64 x, .int .i64 p] 66) none
  obtain ⟨A, c, rfl, _, _, hA⟩ := row_form h2.r1
  obtain ⟨g, rfl, hg⟩ := hA (by omega)
  have h2a := h2.grown hga
  have h1a := h1.kept hga (by simp)
  have c1 := h1a.c1
  have d0 := h2a.r1.at0 i hi
  have d1 := h2a.r1.at1 i hi
  have f0 := World.ownsRow.frozenAt h2a.r1 (i * 2)
  have f1 := World.ownsRow.frozenAt h2a.r1 (i * 2 + 1)
  have k0 : (w.alloc (.cells #[.int .i64 x, .int .i64 p] 66)).cell? ⟨w.heap.size, 0, none⟩ = some (.int .i64 x) := by rw [cell_of_row _ _ _ _ _ _ (heap_alloc_new w _)]; rfl
  have k1 : (w.alloc (.cells #[.int .i64 x, .int .i64 p] 66)).cell? ⟨w.heap.size, 1, none⟩ = some (.int .i64 p) := by rw [cell_of_row _ _ _ _ _ _ (heap_alloc_new w _)]; rfl
  have hi' : (i : Int) < (T.fs.length : Int) := by omega
  obtain ⟨NB, hNB⟩ : ∃ NB : Int, 2097152 = NB := ⟨_, rfl⟩
  have hl' : decide ((2097152 : Int) ≤ (i : Int)) = false := by rw [decide_eq_false_iff_not]; omega
  clear hNB
  have HA := Lib.hid hga
  have HH := Lib.hid h1a
  have HP := Lib.hid h2a
  clear h1 h2 hga h1a h2a hA hpt hl hi
  go_enter Try.func31, Try.ntmps31
  go_wp2_with fail
  generalize w.alloc (.cells #[.int .i64 x, .int .i64 p] 66) = w1 at *
  go_still_tail 7, (by kernel_rfl)
  change wpList _ _ _ _ _ w1.drew
  have c1' : w1.drew.cell? ⟨b, 1, none⟩ = some (.slice (some ⟨g, 0, none⟩) T.fs.length c) := c1
  have d0' : w1.drew.cell? ⟨g, i * 2, none⟩ = some (.int .i64 (nth2 T.fs i).1) := d0
  have d1' : w1.drew.cell? ⟨g, i * 2 + 1, none⟩ = some (.int .i64 (nth2 T.fs i).2) := d1
  have f0' : w1.drew.frozen? ⟨g, i * 2, none⟩ = false := f0
  have f1' : w1.drew.frozen? ⟨g, i * 2 + 1, none⟩ = false := f1
  have HA2 : Hid (w.grownBy w1.drew none) := Lib.hid (grown_drew HA.out)
  have HH2 : Hid (Hd w1.drew b T.size T.era (.slice (some ⟨g, 0, none⟩) T.fs.length c) v2 v3 m) := HH
  have HP2 : Hid (Parts P w1.drew b m (.slice (some ⟨g, 0, none⟩) T.fs.length c) v2 v3 T.fs T.marks T.kept) := Lib.hid (HP.out.grown (grown_drew (World.grownBy_refl _)))
  clear c1 k0 k1 d0 d1 f0 f1 HA HH HP c1'
  generalize w1.drew = w2 at *
  go_wp2_with fail
  go_end0
  obtain ⟨hr, hg3⟩ := HP2.out.r1.store i x p
  refine ⟨rfl, ⟨_, hd_row HH2.out HP2.out.r1 (by decide) hg3, HP2.out.kept1 hg3 hr HP2.out.p1⟩, (Kp.none HA2.out).trans (Kp.one hg3 (HP2.out.p1 g rfl)), fun k hk => ?_⟩
  obtain ⟨q1, q2, q3⟩ := FAR.out k hk
  exact (hg3.block k (Nat.lt_of_lt_of_le q1 HA2.out.size) q3).trans (HA2.out.block k q1 (by simp))
end Go.Proofs.Ytafcecacldafgaa
