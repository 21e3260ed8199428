/- A trail and the document's own, told together (no statement of its own). -/
import Derived.Test.YtafcecacldafgaaTnG
import Derived.Test.YtafcecacldafgaaTnD
namespace Go.Proofs.Ytafcecacldafgaa
open Go.RowKit
set_option linter.unusedVariables false
/-- The trail in t has the cells C and, at its marks, M; the document's in x has the cells D and the copies N. -/
structure PX (w0 w : World) (t cnt x : Nat) (C : List Int) (M : List (List Int)) (D : List Int) (N : List (List Int)) (Q : Nat → Prop) (vC vM : Value) : Prop where
  st : St w t cnt Q C M
  hx : w.heap[x]? = some (.cells #[vC, vM] 30 (0, 0))
  oC : OwnL w w0.heap.size vC D
  fC : ∀ g, vC.ownBlock = some g → ¬ Q g
  ll : LL w (fun k => Q k ∨ vC.ownBlock = some k) vM N
  oM : ∀ g, vM.ownBlock = some g → w0.heap.size ≤ g
  nx : ¬ Q x
  lx : w0.heap.size ≤ x
  q : ∀ k, Q k → w0.heap.size ≤ k ∧ k < w.heap.size
  kp : Kp (fun k => w0.heap.size ≤ k) w0 w
def PS (w0 w : World) (t cnt x : Nat) (C : List Int) (M : List (List Int)) (D : List Int) (N : List (List Int)) : Prop := ∃ Q vC vM, PX w0 w t cnt x C M D N Q vC vM
theorem PX.xlt {w0 w : World} {t cnt x : Nat} {C D : List Int} {M N : List (List Int)} {Q : Nat → Prop} {vC vM : Value} (h : PX w0 w t cnt x C M D N Q vC vM) : x < w.heap.size := (Array.getElem?_eq_some_iff.1 h.hx).1
theorem PX.clt {w0 w : World} {t cnt x : Nat} {C D : List Int} {M N : List (List Int)} {Q : Nat → Prop} {vC vM : Value} (h : PX w0 w t cnt x C M D N Q vC vM) : ∀ g, vC.ownBlock = some g → g < w.heap.size := fun g hg => (World.ownsRow.lt h.oC g hg).2
theorem PS.below {w0 w : World} {t cnt x : Nat} {C D : List Int} {M N : List (List Int)} (h : PS w0 w t cnt x C M D N) : Below w0.heap.size w0 w := by
  obtain ⟨Q, vC, vM, h⟩ := h
  exact h.kp.below (fun _ _ q => q) (Nat.le_refl _)
theorem PX.more {w0 w : World} {t cnt k x : Nat} {C D : List Int} {M N : List (List Int)} {Q : Nat → Prop} {vC vM : Value} (h : PX w0 w t cnt x C M D N Q vC vM) (hk : cnt ≤ k) : PX w0 w t k x C M D N Q vC vM := { h with st := h.st.more hk }
theorem PS.more {w0 w : World} {t cnt k x : Nat} {C D : List Int} {M N : List (List Int)} (h : PS w0 w t cnt x C M D N) (hk : cnt ≤ k) : PS w0 w t k x C M D N := by
  obtain ⟨Q, vC, vM, h⟩ := h
  exact ⟨Q, vC, vM, h.more hk⟩
theorem PX.grown {w0 w w' : World} {t cnt x : Nat} {C D : List Int} {M N : List (List Int)} {Q : Nat → Prop} {vC vM : Value} (h : PX w0 w t cnt x C M D N Q vC vM) (hg : w.grownBy w' none) : PX w0 w' t cnt x C M D N Q vC vM :=
  ⟨h.st.grown hg, (hg.block x h.xlt (by simp)).trans h.hx, h.oC.kept hg (own_or _), h.fC, h.ll.grown hg, h.oM, h.nx, h.lx, fun k q => ⟨(h.q k q).1, Nat.lt_of_lt_of_le (h.q k q).2 hg.size⟩, h.kp.trans (Kp.none hg)⟩
theorem PS.grown {w0 w w' : World} {t cnt x : Nat} {C D : List Int} {M N : List (List Int)} (h : PS w0 w t cnt x C M D N) (hg : w.grownBy w' none) : PS w0 w' t cnt x C M D N := by
  obtain ⟨Q, vC, vM, h⟩ := h
  exact ⟨Q, vC, vM, h.grown hg⟩
def AndP (w0 : World) (t cnt x : Nat) (C : List Int) (M : List (List Int)) (D : List Int) (N : List (List Int)) (v : Value) (e : Ending) (w' : World) : Prop := e = .returned v ∧ PS w0 w' t cnt x C M D N
/-- What the trail's calls keep. -/
theorem PX.next {w0 w w' : World} {t cnt cnt' x : Nat} {C C' D : List Int} {M M' N : List (List Int)} {v : Value} {e : Ending} {Q : Nat → Prop} {vC vM : Value} (h : PX w0 w t cnt x C M D N Q vC vM) (q : AndS Q w t cnt' C' M' v e w') : AndP w0 t cnt' x C' M' D N v e w' := by
  have h0 := h.kp.size
  have hs := q.kp.size
  refine ⟨q.e, fun k => Plus Q w k ∧ k < w'.heap.size, vC, vM, q.st.mono fun k hk p => ⟨p, hk⟩, (q.kp.block x h.xlt h.nx).trans h.hx, h.oC.block fun g hg => q.kp.block g (h.clt g hg) (h.fC g hg), fun g hg p => ?_, h.ll.kept (q.kp.mono fun k _ p => .inl p) fun k hk p => ?_, h.oM, fun p => ?_, h.lx, fun k p => ⟨p.1.elim (fun r => (h.q k r).1) (fun r => Nat.le_trans h0 r), p.2⟩, h.kp.trans (q.kp.mono fun k _ p => (h.q k p).1)⟩
  · exact h.fC g hg (plus_of Q w g (h.clt g hg) p.1)
  · rcases p with p | p
    · exact .inl (plus_of Q w k hk p.1)
    · exact .inr p
  · exact h.nx (plus_of Q w x h.xlt p.1)
theorem PS.tr {w0 w : World} {t cnt cnt' x : Nat} {C C' D : List Int} {M M' N : List (List Int)} {f : Nat} {args : Array Value} {v : Value} (h : PS w0 w t cnt x C M D N)
    (hc : ∀ Q, St w t cnt Q C M → Calls Try.prog f args w (AndS Q w t cnt' C' M' v)) : Calls Try.prog f args w (AndP w0 t cnt' x C' M' D N v) := by
  obtain ⟨Q, vC, vM, h⟩ := h
  exact (hc Q h.st).mono fun e w' q => h.next q
theorem PS.st {w0 w : World} {t cnt x : Nat} {C D : List Int} {M N : List (List Int)} (h : PS w0 w t cnt x C M D N) : ∃ Q, St w t cnt Q C M := by
  obtain ⟨Q, vC, vM, h⟩ := h
  exact ⟨Q, h.st⟩
theorem PX.c0 {w0 w : World} {t cnt x : Nat} {C D : List Int} {M N : List (List Int)} {Q : Nat → Prop} {vC vM : Value} (h : PX w0 w t cnt x C M D N Q vC vM) : w.cell? ⟨x, 0, none⟩ = some vC := by rw [cell_of_row _ _ _ _ _ _ h.hx]; rfl
theorem PX.c1 {w0 w : World} {t cnt x : Nat} {C D : List Int} {M N : List (List Int)} {Q : Nat → Prop} {vC vM : Value} (h : PX w0 w t cnt x C M D N Q vC vM) : w.cell? ⟨x, 1, none⟩ = some vM := by rw [cell_of_row _ _ _ _ _ _ h.hx]; rfl
theorem PX.fz {w0 w : World} {t cnt x : Nat} {C D : List Int} {M N : List (List Int)} {Q : Nat → Prop} {vC vM : Value} (h : PX w0 w t cnt x C M D N Q vC vM) (i : Nat) : w.frozen? ⟨x, i, none⟩ = false := frozen_of_row _ _ _ _ _ h.hx
theorem PS.form {w0 w : World} {t cnt x : Nat} {C D : List Int} {M N : List (List Int)} (h : PS w0 w t cnt x C M D N) : ∃ Q A c B e, PX w0 w t cnt x C M D N Q (.slice A D.length c) (.slice B N.length e) := by
  obtain ⟨Q, vC, vM, h⟩ := h
  obtain ⟨A, c, rfl, _⟩ := h.oC.form
  obtain ⟨B, e, rfl, _⟩ := h.ll.form
  exact ⟨Q, A, c, B, e, h⟩
theorem x_ne_row {w : World} {x e size n : Nat} {cs : Array Value} {t : TypeId} {v : Value} {xs : List Value} (h : w.ownsRow 0 e size v n xs) (hx : w.heap[x]? = some (.cells cs t (0, 0))) (hne : e ≠ t) : ∀ g, v.ownBlock = some g → g ≠ x :=
  fun g hg => row_ne h hg hx (fun cur q => by injection q with _ q2 _; exact hne q2.symm)
theorem LL.turn {w w' : World} {Q : Nat → Prop} {v : Value} {Ms : List (List Int)} {x : Nat} {cs : Array Value} {t : TypeId} (h : LL w Q v Ms) (hx : w.heap[x]? = some (.cells cs t (0, 0))) (h1 : (27 : Nat) ≠ t) (h2 : (2 : Nat) ≠ t) (hg : w.grownBy w' (some x)) : LL w' Q v Ms := by
  obtain ⟨xs, q1, q2, q3⟩ := h
  refine ⟨xs, q1.kept hg ?_, q2, fun k hk => ?_⟩
  · cases hv : v.ownBlock with
    | none => exact .inl rfl
    | some g => exact .inr fun e => x_ne_row q1 hx h1 g hv (by injection e)
  · obtain ⟨A, c, e, ho, hf⟩ := q3 k hk
    refine ⟨A, c, e, ho.kept hg ?_, hf⟩
    cases hv : (Value.slice A Ms[k].length c).ownBlock with
    | none => exact .inl rfl
    | some g => exact .inr fun e => x_ne_row ho hx h2 g hv (by injection e)
theorem St.turn {w w' : World} {b n x : Nat} {Q : Nat → Prop} {C : List Int} {M : List (List Int)} (h : St w b n Q C M) (hx : ¬ Q x) (hg : w.grownBy w' (some x)) : St w' b n Q C M := h.kept (Kp.one hg hx)
/-- A cell of the document's trail is stored. -/
theorem xset {w : World} {x : Nat} {vC vM : Value} (h : w.heap[x]? = some (.cells #[vC, vM] 30 (0, 0))) (i : Nat) (u : Value) :
    (w.setCell ⟨x, i, none⟩ u).heap[x]? = some (.cells ((#[vC, vM] : Array Value).setIfInBounds i u) 30 (0, 0)) ∧ w.grownBy (w.setCell ⟨x, i, none⟩ u) (some x) := by
  obtain ⟨hlt, hk⟩ := Array.getElem?_eq_some_iff.1 h
  refine ⟨?_, ⟨rfl, rfl, rfl, (KeepsWalks.setCell w _ _).size, fun j hj hne => Below.heap_setCell w ⟨x, i, none⟩ _ j (fun e => hne (by rw [e]))⟩⟩
  show (w.heap.modify x _)[x]? = _
  rw [Array.getElem?_eq_getElem (by rw [Array.size_modify]; exact hlt), Array.getElem_modify_self, hk]
  rfl
/-- Other cells, in a list of their own, become the document's. -/
theorem PX.setC {w0 w : World} {t cnt x : Nat} {C D E : List Int} {M N : List (List Int)} {Q : Nat → Prop} {vC vM u : Value} (h : PX w0 w t cnt x C M D N Q vC vM) (hu : OwnL w w0.heap.size u E) (hf : ∀ g, u.ownBlock = some g → ¬ Q g)
    (hl : LL w (fun k => Q k ∨ u.ownBlock = some k) vM N) : PX w0 (w.setCell ⟨x, 0, none⟩ u) t cnt x C M E N Q u vM := by
  obtain ⟨hs, hg⟩ := xset h.hx 0 u
  refine ⟨h.st.turn h.nx hg, hs, hu.kept hg ?_, hf, hl.turn h.hx (by decide) (by decide) hg, h.oM, h.nx, h.lx, fun k q => ⟨(h.q k q).1, Nat.lt_of_lt_of_le (h.q k q).2 hg.size⟩, h.kp.trans (Kp.one hg h.lx)⟩
  cases hv : u.ownBlock with
  | none => exact .inl rfl
  | some g => exact .inr fun e => x_ne_row (ownsRow_zero hu) h.hx (by decide) g hv (by injection e)
/-- Other copies become the document's. -/
theorem PX.setM {w0 w : World} {t cnt x : Nat} {C D : List Int} {M N K : List (List Int)} {Q : Nat → Prop} {vC vM u : Value} (h : PX w0 w t cnt x C M D N Q vC vM) (hl : LL w (fun k => Q k ∨ vC.ownBlock = some k) u K) (ho : ∀ g, u.ownBlock = some g → w0.heap.size ≤ g) :
    PX w0 (w.setCell ⟨x, 1, none⟩ u) t cnt x C M D K Q vC u := by
  obtain ⟨hs, hg⟩ := xset h.hx 1 u
  refine ⟨h.st.turn h.nx hg, hs, h.oC.kept hg ?_, h.fC, hl.turn h.hx (by decide) (by decide) hg, ho, h.nx, h.lx, fun k q => ⟨(h.q k q).1, Nat.lt_of_lt_of_le (h.q k q).2 hg.size⟩, h.kp.trans (Kp.one hg h.lx)⟩
  cases hv : vC.ownBlock with
  | none => exact .inl rfl
  | some g => exact .inr fun e => x_ne_row (ownsRow_zero h.oC) h.hx (by decide) g hv (by injection e)
/-- One of the lists' blocks, or a new one, was turned: a list of the document's cells' own. -/
theorem PX.rowC {w0 w w' : World} {t cnt x : Nat} {C D : List Int} {M N : List (List Int)} {Q : Nat → Prop} {vC vM : Value} (h : PX w0 w t cnt x C M D N Q vC vM) (hg : w.grownBy w' vC.ownBlock) (E : List Int) (u : Value) (hu : OwnL w' w0.heap.size u E) (hb : ∀ g, u.ownBlock = some g → vC.ownBlock = some g ∨ w.heap.size ≤ g) :
    St w' t cnt Q C M ∧ w'.heap[x]? = some (.cells #[vC, vM] 30 (0, 0)) ∧ LL w' (fun k => Q k ∨ u.ownBlock = some k) vM N ∧ (∀ g, u.ownBlock = some g → ¬ Q g) ∧ Kp (fun k => w0.heap.size ≤ k) w0 w' := by
  have hk : Kp (fun k => Q k ∨ vC.ownBlock = some k) w w' := Kp.of_grown hg fun k hk => .inr hk
  have hxne : some x ≠ vC.ownBlock := fun e => x_ne_row (ownsRow_zero h.oC) h.hx (by decide) x e.symm rfl
  refine ⟨h.st.kept (Kp.of_grown hg fun k hk => h.fC k hk), (hg.block x h.xlt hxne).trans h.hx, h.ll.kept hk fun k hlt p => ?_, fun g hgu q => ?_, h.kp.trans (Kp.of_grown hg fun k hk => (World.ownsRow.lt h.oC k hk).1)⟩
  · rcases p with p | p
    · exact .inl p
    · rcases hb k p with p | p
      · exact .inr p
      · omega
  · rcases hb g hgu with p | p
    · exact h.fC g p q
    · have := (h.q g q).2; omega
/-- The same, where what holds the cells is the new value already. -/
theorem info_i64' : (Try.prog.info? 2).map (fun i => (i.zero, i.size, i.bytes)) = some (some (.int .i64 0), 1, 8) := by kernel_rfl
/-- append([]int64{}, l...) -/
theorem copy_run (w : World) (A : Option Addr) (c : Nat) (l : List Int) (ty : TypeId) (hw : SrcL w A l) (hA : A = none → c = 0) (hl : l.length ≤ 1000000) :
    ∃ v' w', (Builtin.append_ #[27, 27] ty #[.slice (some ⟨w.heap.size, 0, none⟩) 0 0, .slice A l.length c]).run Try.prog (w.alloc (.cells #[] 2)) = .ok v' w' ∧ OwnL w' w.heap.size v' l ∧ w.grownBy w' none := by
  have hga := World.grownBy_alloc w (.cells #[] 2) none
  have hown : (w.alloc (.cells #[] 2)).ownsRow w.heap.size 2 1 (.slice (some ⟨w.heap.size, 0, none⟩) 0 0) 0 [] :=
    ⟨rfl, .inr ⟨w.heap.size, 0, #[], rfl, Nat.le_refl _, heap_alloc_new w _, Nat.le_refl _, by simp [maxLen], rfl, rfl⟩⟩
  obtain ⟨i0, hi, hz0, hz1, hz2⟩ := info_parts info_i64'
  rcases hw with ⟨rfl, rfl⟩ | ⟨ad, rfl, hc⟩
  · obtain rfl := hA rfl
    refine ⟨.slice (some ⟨w.heap.size, 0, none⟩) 0 0, w.alloc (.cells #[] 2), ?_, hown, hga⟩
    simp [Builtin.append_, run_underlying Try.underlying27, sizeOf, typeInfo, hi, Builtin.lenOf, Builtin.firstCells, loadCells, loadCellsFrom, storeCells]
  · have hb0 : Below w.heap.size w (w.alloc (.cells #[] 2)) := (Below.refl _ _).alloc (Nat.le_refl _) _
    have hN : ∀ j u, (I64 l)[j]? = some u → (w.alloc (.cells #[] 2)).cell? (ad.add j) = some u := by
      intro j u hu
      have hj : j < l.length := by have := (List.getElem?_eq_some_iff.1 hu).1; rwa [I64_len] at this
      obtain ⟨h1, h2⟩ := hc j hj
      have e : (ad.add j).block = ad.block := by unfold Addr.add; split <;> rfl
      rw [hb0.cell (p := ad.add j) (by rw [e]; exact h1), h2, ← hu, I64, List.getElem?_map, List.getElem?_eq_getElem hj, nthI_get l j hj]
      rfl
    obtain ⟨v', w', hr, h2, h3, _, h5⟩ := run_append_own_at (P := Try.prog) (w.alloc (.cells #[] 2)) w.heap.size 27 ty 2 i0 (.int .i64 0) 1 8 Try.underlying27 hi hz0 hz1 hz2 rfl (by decide) (.slice (some ⟨w.heap.size, 0, none⟩) 0 0) 0 [] hown ad l.length c (I64 l) (by rw [I64_len]; omega) hN (I64_one l) (by unfold maxLen; omega) (by omega) (by simp)
    refine ⟨v', w', hr, ?_, ⟨h3.os.trans hga.os, h3.tape.trans hga.tape, h3.output.trans hga.output, Nat.le_trans hga.size h3.size, fun k hk _ => (h3.block k (by simp; omega) (by simp [Value.ownBlock]; omega)).trans (hga.block k hk (by simp))⟩⟩
    rw [Nat.zero_add, List.nil_append] at h2
    exact h2
/-- Append of one list, as an equation. -/
theorem ll_run (w : World) (v : Value) (Q : Nat → Prop) (Ms : List (List Int)) (l : List Int) (A : Option Addr) (c B : Nat) (ty : TypeId)
    (hB : w.heap[B]? = some (.cells #[.slice A l.length c] 27 (0, 0))) (h : LL w Q v Ms) (hl : OwnL w 0 (.slice A l.length c) l)
    (hf : ∀ g, (Value.slice A l.length c).ownBlock = some g → ¬ Q g) (hQ : ∀ k, Q k → k < w.heap.size) (hlen : Ms.length < 100000) :
    ∃ v' w', (Builtin.append_ #[28, 28] ty #[v, .slice (some ⟨B, 0, none⟩) 1 1]).run Try.prog w = .ok v' w' ∧ LL w' Q v' (Ms ++ [l]) ∧ w.grownBy w' v.ownBlock ∧ (∀ g, v.ownBlock = some g → ¬ Q g ∧ g < w.heap.size) ∧ (∀ g, v'.ownBlock = some g → v.ownBlock = some g ∨ w.heap.size ≤ g) := by
  obtain ⟨xs, h1, h2, h3⟩ := h
  obtain ⟨i0, hi, hz0, hz1, hz2⟩ := info_parts info_ll
  obtain ⟨g, cap, w', hr, hO, hG, hL, hlt⟩ := run_append_lies (P := Try.prog) w 28 ty 0 27 i0 (.slice none 0 0) 1 24 Try.underlying28 hi hz0 hz1 hz2 rfl (by decide) v Ms.length xs h1 ⟨B, 0, none⟩ 1 1 [.slice A l.length c] rfl (World.news_of_block hB) (by simp [Value.oneCell']) (by decide) (by unfold maxLen; omega) (by omega) (Nat.zero_le _) w.heap.size rfl
  have hlt0 : ∀ {e size n : Nat} {v : Value} {ys : List Value}, w.ownsRow 0 e size v n ys → ∀ g, v.ownBlock = some g → g < w.heap.size := fun h g hg => (World.ownsRow.lt h g hg).2
  have hlen' : xs.length = Ms.length := by have := h1.1; omega
  have hkeep : ∀ {u : Value} {m : List Int}, OwnL w 0 u m → OwnL w' 0 u m := fun {u m} hu => hu.kept hG (by
    cases hv : u.ownBlock with
    | none => exact .inl rfl
    | some q =>
      refine .inr fun e => ?_
      exact row_ne2 (v := v) (v' := u) h1 hu ne_types (by rw [← e]) hv)
  refine ⟨_, w', hr, ⟨xs ++ [.slice A l.length c], by simpa using hO, fun q hq => ?_, fun k hk => ?_⟩, hG, fun q hq => ⟨h2 q hq, hlt0 h1 q hq⟩, fun q hq => ?_⟩
  · simp only [Value.ownBlock, Option.some.injEq] at hq
    subst hq
    rcases hL with hL | hL
    · exact h2 _ hL
    · intro q; have := hQ _ q; omega
  · rw [List.length_append, List.length_singleton] at hk
    by_cases hk2 : k < Ms.length
    · obtain ⟨A', c', e, ho', hf'⟩ := h3 k hk2
      rw [List.getElem_append_left hk2]
      exact ⟨A', c', by rw [List.getElem?_append_left (by omega)]; exact e, hkeep ho', hf'⟩
    · obtain rfl : k = Ms.length := by omega
      rw [List.getElem_append_right (Nat.le_refl _)]
      simp only [Nat.sub_self, List.getElem_cons_zero]
      exact ⟨A, c, by rw [List.getElem?_append_right (by omega), hlen']; simp, hkeep hl, hf⟩
  · simp only [Value.ownBlock, Option.some.injEq] at hq
    subst hq
    rcases hL with hL | hL
    · exact .inl hL
    · exact .inr (by omega)
/-- The first m of the lists. -/
theorem LL.take {w : World} {Q : Nat → Prop} {g c : Nat} {Ms : List (List Int)} (h : LL w Q (.slice (some ⟨g, 0, none⟩) Ms.length c) Ms) (m : Nat) (hm : m ≤ Ms.length) : LL w Q (.slice (some ⟨g, 0, none⟩) m c) (Ms.take m) ∧ m ≤ c := by
  obtain ⟨xs, h1, h2, h3⟩ := h
  have hlen' : xs.length = Ms.length := by have := h1.1; omega
  rcases h1.2 with ⟨h', _⟩ | ⟨g', cap, cur, h', hb, hg, hnc, hcm, hcs, htake⟩
  · simp at h'
  · simp only [Value.slice.injEq, Option.some.injEq, Addr.mk.injEq, and_true, true_and] at h'
    obtain ⟨rfl, rfl⟩ := h'
    have hl : (Ms.take m).length = m := by rw [List.length_take]; omega
    refine ⟨⟨xs.take m, ?_, h2, fun k hk => ?_⟩, by omega⟩
    · rw [hl]
      refine ⟨by rw [List.length_take]; omega, .inr ⟨g, c, cur, rfl, hb, hg, by omega, hcm, hcs, ?_⟩⟩
      rw [← htake, List.take_take]
      congr 1
      omega
    · have hk' : k < m := by omega
      obtain ⟨A, c', e, ho, hf⟩ := h3 k (by omega)
      rw [List.getElem_take]
      exact ⟨A, c', by rw [List.getElem?_take_of_lt hk']; exact e, ho, hf⟩
end Go.Proofs.Ytafcecacldafgaa
