/- What the rounds of a table's Turn keep; inverse of an order that can be undone; Turn of what is none (no statement of its own). -/
import Derived.Test.YtnmeephmobafkaaGreatDoorTt4
import Derived.Test.YtnmeephmobafkaaGreatDoorTbQ
namespace Go.Proofs.YtnmeephmobafkaaGreatDoor
open Go.RowKit Go.Shelf
set_option linter.unusedVariables false
attribute [local go_sem] Oper.semAt_some
theorem permL_ordB {n : Nat} {s r : List Nat} (h : PermL n s r) : OrdB (fun i => (nth s i : Int)) n n := fun i hi => by
  refine ⟨by show (0 : Int) ≤ (nth s i : Int); omega, by show (nth s i : Int) < (n : Int); have := h.bs i hi; omega, fun i' hi' e => ?_⟩
  have e : (nth s i' : Int) = (nth s i : Int) := e
  have e : nth s i' = nth s i := by omega
  have h1 := h.rs i hi
  have h2 := h.rs i' (by omega)
  rw [e] at h2
  omega
theorem permL_inv {n v : Nat} {s r : List Nat} (h : PermL n s r) (hv : v < n) : invF (fun i => (nth s i : Int)) n v = (nth r v : Int) := by
  have h1 := ordB_inv (permL_ordB h) (h.br v hv)
  rw [h.sr v hv] at h1
  simpa using h1
theorem inverse_perm (A : Option Addr) (n c : Nat) (s r : List Nat) (w : World) (hn : n ≤ 6) (h : PermL n s r) (hw : Ints w A s) :
    Calls Tryz.prog 56 #[.slice A n c, .int .i64 (n : Int)] w fun e w' => (∃ h, e = .returned (.tuple #[.slice (some ⟨h, 0, none⟩) n n, .bool true]) ∧ Ints w' (some ⟨h, 0, none⟩) r) ∧ Below w.heap.size w w' := by
  have hz := hw.zs
  rw [h.ls] at hz
  refine (inverse_any A n c n (fun i => (nth s i : Int)) w hn hz (Nat.le_refl _) (permL_ordB h) (fun h => by omega)).mono ?_
  rintro e w' ⟨h1, _, h3⟩
  obtain ⟨b, e1, hzr⟩ := h1 rfl
  refine ⟨⟨b, e1, ?_⟩, h3⟩
  rcases hzr with h0 | ⟨g, o, e2, hlt, hc⟩
  · exact .inl (List.eq_nil_of_length_eq_zero (by rw [h.lr]; exact h0))
  · exact .inr ⟨g, o, e2, hlt, fun i hi => by rw [h.lr] at hi; rw [hc i hi]; exact congrArg some (congrArg (Value.int .i64) (permL_inv h hi))⟩
/-- Between two rounds. -/
structure TrnI (W0 : World) (h P : Nat) (f : Nat → Int) (n : Nat) (W : World) : Prop where
  kept : Kept2 W0 h h W
  costs : W.rowIs h 2 P (fun i => .int .i64 (if i < n then f i else 0))
theorem trnI_from {W0 : World} {h P : Nat} {f : Nat → Int} : OwnFrom W0.heap.size (fun (pre : List (Nat × Value)) W => TrnI W0 h P f pre.length W) := by
  intro s X Y row hs hg hr
  exact ⟨kept2_own (Nat.le_refl _) () X Y row hs.kept hg hr, Own.from (rowIs_own h 2 P (fun (n : Nat) i => .int .i64 (if i < n then f i else 0))) _ s.length X Y row hs.costs hg hr⟩
/-- Within a round. -/
structure TrnR (W0 : World) (h P : Nat) (f : Nat → Int) (n Bs : Nat) (W W' : World) : Prop where
  inv : TrnI W0 h P f n W'
  kf : KeepsFrom W0.heap.size W W'
  k1 : Keep1 Bs W W'
theorem TrnR.next {W0 W W' W2 : World} {h P : Nat} {f : Nat → Int} {n Bs : Nat} (H : TrnR W0 h P f n Bs W W') (hBs : Bs < W.heap.size) (hb : Below W'.heap.size W' W2) : TrnR W0 h P f n Bs W W2 :=
  ⟨⟨H.inv.kept.next hb, rowIs_next H.inv.costs hb⟩, H.kf.trans (KeepsFrom.of_grownBy (grown_of_below hb) (fun j e => by cases e)), H.k1.trans (Keep1.of_below hb (Nat.lt_of_lt_of_le hBs H.k1.1))⟩
theorem TrnR.fin {W0 W W' : World} {h P : Nat} {f : Nat → Int} {x : Int} {n Bs : Nat} (H : TrnR W0 h P f n Bs W W') (hb : Bs ≠ h) (h1 : f n = x) :
    TrnR W0 h P f (n + 1) Bs W (W'.setCell ⟨h, n, none⟩ (.int .i64 x)) := by
  refine ⟨⟨H.inv.kept.set (.inl rfl) n _, ?_⟩, H.kf.trans ((KeepsOthers.setCell _ _ _).from _), H.k1.trans (keep1_set hb n _)⟩
  refine (H.inv.costs.set n (.int .i64 x)).congr fun j hj => ?_
  show (if j = n then _ else _) = Value.int .i64 (if j < n + 1 then f j else 0)
  by_cases e : j = n
  · subst e; rw [if_pos rfl, if_pos (by omega), h1]
  · rw [if_neg e]
    by_cases e2 : j < n
    · rw [if_pos e2, if_pos (by omega)]
    · rw [if_neg e2, if_neg (by omega)]
/-- The box of a call of Turn, and its table's shape and top, are as they were. -/
abbrev HoldU (wb : World) (N g : Nat) (l : List Nat) (k : Int) (W : World) : Prop :=
  W.cell? ⟨N, 0, none⟩ = some (.pointer (some ⟨g, 0, none⟩)) ∧ W.cell? ⟨g, 0, none⟩ = some (.int .i64 (l.length : Int)) ∧ W.cell? ⟨g, 1, none⟩ = some (szV l 0) ∧ W.cell? ⟨g, 2, none⟩ = some (szV l 1) ∧ W.cell? ⟨g, 3, none⟩ = some (szV l 2) ∧
  W.cell? ⟨g, 4, none⟩ = some (szV l 3) ∧ W.cell? ⟨g, 5, none⟩ = some (szV l 4) ∧ W.cell? ⟨g, 6, none⟩ = some (szV l 5) ∧ W.cell? ⟨g, 7, none⟩ = some (.int .i64 k) ∧ Below wb.heap.size wb W
theorem HoldU.of {wb : World} {N g h : Nat} {l : List Nat} {k : Int} {z : Nat → Int} (T : TabAt wb g h l k z) (b0 : wb.cell? ⟨N, 0, none⟩ = some (.pointer (some ⟨g, 0, none⟩))) : HoldU wb N g l k wb := by
  obtain ⟨c0, c1, c2, c3, c4, c5, c6, c7, c8⟩ := T.cells
  exact ⟨b0, c0, c1, c2, c3, c4, c5, c6, c7, Below.refl _ _⟩
theorem holdU {wb W W' : World} {N g : Nat} {l : List Nat} {k : Int} (h : HoldU wb N g l k W) (hb : Below W.heap.size W W') : HoldU wb N g l k W' := by
  obtain ⟨a0, c0, c1, c2, c3, c4, c5, c6, c7, h8⟩ := h
  have K : ∀ b i v, W.cell? ⟨b, i, none⟩ = some v → W'.cell? ⟨b, i, none⟩ = some v := fun b i v h => (hb.cell (p := ⟨b, i, none⟩) (World.block_lt_of_cell? W _ h)).trans h
  exact ⟨K _ _ _ a0, K _ _ _ c0, K _ _ _ c1, K _ _ _ c2, K _ _ _ c3, K _ _ _ c4, K _ _ _ c5, K _ _ _ c6, K _ _ _ c7, h8.trans (hb.mono h8.size)⟩
theorem holdU_base {wb W W' : World} {N g : Nat} {l : List Nat} {k : Int} (h : HoldU wb N g l k W) (hN : N < wb.heap.size) (hg : g < wb.heap.size) (hb : Below wb.heap.size W W') : HoldU wb N g l k W' := by
  obtain ⟨a0, c0, c1, c2, c3, c4, c5, c6, c7, h8⟩ := h
  have K : ∀ b i v, b < wb.heap.size → W.cell? ⟨b, i, none⟩ = some v → W'.cell? ⟨b, i, none⟩ = some v := fun b i v hb' h => (hb.cell (p := ⟨b, i, none⟩) hb').trans h
  exact ⟨K _ _ _ hN a0, K _ _ _ hg c0, K _ _ _ hg c1, K _ _ _ hg c2, K _ _ _ hg c3, K _ _ _ hg c4, K _ _ _ hg c5, K _ _ _ hg c6, K _ _ _ hg c7, h8.trans hb⟩
theorem HoldU.below {wb W : World} {N g : Nat} {l : List Nat} {k : Int} (h : HoldU wb N g l k W) : Below wb.heap.size wb W := h.2.2.2.2.2.2.2.2.2
/-- What a round reads. -/
abbrev HoldQ (wb : World) (N g b6 hb n ba g' h' P : Nat) (W : World) : Prop :=
  W.cell? ⟨N, 0, none⟩ = some (.pointer (some ⟨g, 0, none⟩)) ∧ W.cell? ⟨b6, 0, none⟩ = some (.slice (some ⟨hb, 0, none⟩) n n) ∧ W.cell? ⟨ba, 0, none⟩ = some (.pointer (some ⟨g', 0, none⟩)) ∧ W.cell? ⟨g', 8, none⟩ = some (.slice (some ⟨h', 0, none⟩) P P) ∧ Below wb.heap.size wb W
theorem holdQ {wb W W' : World} {N g b6 hb n ba g' h' P : Nat} (h : HoldQ wb N g b6 hb n ba g' h' P W) (hb1 : Below W.heap.size W W') : HoldQ wb N g b6 hb n ba g' h' P W' := by
  obtain ⟨a0, a1, a2, a3, h8⟩ := h
  have K : ∀ b i v, W.cell? ⟨b, i, none⟩ = some v → W'.cell? ⟨b, i, none⟩ = some v := fun b i v h => (hb1.cell (p := ⟨b, i, none⟩) (World.block_lt_of_cell? W _ h)).trans h
  exact ⟨K _ _ _ a0, K _ _ _ a1, K _ _ _ a2, K _ _ _ a3, h8.trans (hb1.mono h8.size)⟩
theorem holdQ_set {wb W : World} {N g b6 hb n ba g' h' P : Nat} (h : HoldQ wb N g b6 hb n ba g' h' P W) (hN : N < wb.heap.size) (h6 : b6 < wb.heap.size) (hh : wb.heap.size ≤ h') (n1 : ba ≠ h') (n2 : g' ≠ h') (i : Nat) (u : Value) : HoldQ wb N g b6 hb n ba g' h' P (W.setCell ⟨h', i, none⟩ u) := by
  obtain ⟨a0, a1, a2, a3, h8⟩ := h
  have K : ∀ c j v, c ≠ h' → W.cell? ⟨c, j, none⟩ = some v → (W.setCell ⟨h', i, none⟩ u).cell? ⟨c, j, none⟩ = some v := fun c j v hc h => by
    rw [World.cell?_setCell_other _ _ _ _ (by intro e; injection e with e1; exact hc (by first | exact e1 | exact e1.symm))]; exact h
  exact ⟨K _ _ _ (by omega) a0, K _ _ _ (by omega) a1, K _ _ _ n1 a2, K _ _ _ n2 a3, h8.setCell (p := ⟨h', i, none⟩) hh u⟩
theorem HoldQ.below {wb W : World} {N g b6 hb n ba g' h' P : Nat} (h : HoldQ wb N g b6 hb n ba g' h' P W) : Below wb.heap.size wb W := h.2.2.2.2
theorem HoldQ.of {wb W0 W : World} {N g b6 hb n ba g' h' P : Nat} (h : HoldQ wb N g b6 hb n ba g' h' P W0) (hK : Kept2 W0 h' h' W) (hN : N < wb.heap.size) (h6 : b6 < wb.heap.size) (hh : wb.heap.size ≤ h') (n1 : ba ≠ h') (n2 : g' ≠ h') : HoldQ wb N g b6 hb n ba g' h' P W := by
  obtain ⟨a0, a1, a2, a3, h8⟩ := h
  have K : ∀ c j v, c ≠ h' → W0.cell? ⟨c, j, none⟩ = some v → W.cell? ⟨c, j, none⟩ = some v := fun c j v h1 h => (World.cell?_of_block (a := ⟨c, j, none⟩) (hK.block c (World.block_lt_of_cell? W0 _ h) h1 h1)).trans h
  exact ⟨K _ _ _ (by omega) a0, K _ _ _ (by omega) a1, K _ _ _ n1 a2, K _ _ _ n2 a3, hK.below h8 (Nat.le_refl _) hh hh⟩
set_option maxRecDepth 100000 in
set_option maxHeartbeats 4000000 in
theorem turn_err (g h n c : Nat) (A : Option Addr) (l : List Nat) (k : Int) (z : Nat → Int) (w : World) (H : TabAt w g h l k z)
    (hI : ∀ W, Below w.heap.size w W → Calls Tryz.prog 56 #[.slice A n c, .int .i64 (l.length : Int)] W fun e w' => e = .returned (.tuple #[.slice none 0 0, .bool false]) ∧ Below W.heap.size W w') :
    Calls Tryz.prog 21 #[.pointer (some ⟨g, 0, none⟩), .slice A n c] w fun e w' => e = .returned (.tuple #[.pointer none, .int .i64 1]) ∧ Below w.heap.size w w' := by
  have HI := Lib.hid hI
  have n1 := new_val w (.cells #[.pointer (some ⟨g, 0, none⟩)] 26)
  have T1 := Lib.hid (H.below n1)
  have X1 := Lib.hid (Boxed.new w 26 (.pointer (some ⟨g, 0, none⟩)))
  have B1 := Lib.hid n1
  clear H hI n1
  refine (callsIn_wide (n := 3)).1 (callsIn_of_wp_marks Tryz.func21 rfl trivial ?_ rfl)
  simp only [Tryz.ntmps21, List.size_toArray, List.length_cons, List.length_nil, Nat.reduceAdd, Nat.reduceSub, Array.replicate_succ, Array.replicate_zero, List.push_toArray, List.append_toArray, List.nil_append, List.cons_append]
  refine wpIn_wide.2 ?_
  go_upto_region 1 with fail
  generalize w.alloc (.cells #[.pointer (some ⟨g, 0, none⟩)] 26) = w1 at T1 X1 B1 ⊢
  have x1 := X1.out.cell
  obtain ⟨c0, c1, c2, c3, c4, c5, c6, c7, c8⟩ := T1.out.cells
  go_wp2_with fail
  refine (arity_any l w1).mono ?_
  rintro e w2 ⟨rfl, rfl⟩
  have B2 := Lib.hid (then_ B1.out (new_val w1 (shO l)))
  clear x1 c0 c1 c2 c3 c4 c5 c6 c7 c8
  generalize w1.alloc (shO l) = w2 at B2 ⊢
  go_wp2_with fail
  refine (HI.out _ B2.out).mono ?_
  rintro e w3 ⟨rfl, hb⟩
  have B3 := Lib.hid (then_ B2.out hb)
  clear hb
  go_wp2_with fail
  refine ⟨_, results_tmp2 rfl _ _ _, rfl, ?_⟩
  exact then_ B3.out (new_val _ _)
end Go.Proofs.YtnmeephmobafkaaGreatDoor
