/- Texts of this seat laid together (no statement of its own). -/
import Derived.Test.YtdmldnlgamnkeaaGreatUD
import Derived.Deep.RegionWith
namespace Go.Proofs.YtdmldnlgamnkeaaGreat
open Go.RowKit Go.Maps
set_option linter.unusedVariables false
/-- What has come of the one's lines: ts; told counts those that the other one has no line of. -/
structure Seen (left : Lit → Bool) (l : List Nat) (o o' : Int) (f f' : List Nat → Int) (ts : List (List Nat)) (n : Nat) : Prop where
  nodup : ts.Pairwise (· ≠ ·)
  mem : ∀ t, t ∈ ts ↔ InL l t ∧ f' t ≠ o' ∧ left (keyL t) = false
  told : n = (linesT l o f).length + (ts.filter fun t => decide (f t = o)).length
  same : ∀ t, t ∈ ts → f t = f' t
theorem Seen.start {D : DataW Unit} {l : List Nat} {o o' : Int} {f f' : List Nat → Int} (hrep : RepF D l o' f') : Seen (Maps.has D) l o o' f f' [] (linesT l o f).length := by
  refine ⟨List.Pairwise.nil, fun t => ⟨fun h => (by cases h), fun h => ?_⟩, rfl, fun t h => (by cases h)⟩
  have := (hrep.1 t h.1).1
  rw [h.2.2, decide_eq_true h.2.1] at this
  cases this
theorem Seen.step {left : Lit → Bool} {l t : List Nat} {o o' : Int} {f f' : List Nat → Int} {ts : List (List Nat)} {n : Nat} (H : Seen left l o o' f f' ts n) (h6 : l.length ≤ 6) (h32 : ∀ n ∈ l, 1 ≤ n ∧ n ≤ 32) (ht : InL l t) (hn : f' t ≠ o') (hl : left (keyL t) = true) (hs : f t = f' t) :
    Seen (fun y => left y && !y.sameKey (keyL t)) l o o' f f' (t :: ts) (if f t = o then n + 1 else n) := by
  have hnot : t ∉ ts := fun h => by
    have := ((H.mem t).1 h).2.2
    rw [hl] at this
    cases this
  refine ⟨List.pairwise_cons.2 ⟨fun s hs e => hnot (e ▸ hs), H.nodup⟩, fun s => ?_, ?_, fun s h => ?_⟩
  · show s ∈ t :: ts ↔ InL l s ∧ f' s ≠ o' ∧ (left (keyL s) && !(keyL s).sameKey (keyL t)) = false
    rw [List.mem_cons]
    constructor
    · rintro (rfl | h)
      · exact ⟨ht, hn, by rw [WideAt.sameKey_self (keyL_isKey s)]; simp⟩
      · obtain ⟨a, b, c⟩ := (H.mem s).1 h
        exact ⟨a, b, by rw [c]; rfl⟩
    · rintro ⟨a, b, c⟩
      by_cases e : keyL s = keyL t
      · exact .inl (keyL_inj h6 (fun n hn => (h32 n hn).2) a ht e)
      · rw [sameKey_ne e] at c
        exact .inr ((H.mem s).2 ⟨a, b, by simpa using c⟩)
  · rw [List.filter_cons]
    by_cases e : f t = o
    · rw [if_pos e, if_pos (decide_eq_true e), List.length_cons]
      have := H.told
      omega
    · rw [if_neg e, if_neg (by simpa using e)]
      exact H.told
  · rcases List.mem_cons.1 h with rfl | h
    · exact hs
    · exact H.same s h
theorem Seen.le {left : Lit → Bool} {l : List Nat} {o o' : Int} {f f' : List Nat → Int} {ts : List (List Nat)} {n : Nat} (H : Seen left l o o' f f' ts n) (h1 : ∀ n ∈ l, 1 ≤ n) : n ≤ prodL l := by
  let U := linesT l o f ++ ts.filter fun t => decide (f t = o)
  have hU : n = U.length := by rw [H.told, List.length_append]
  have hA : ∀ t, InL l t → t ∈ allL l := fun t ht => by
    rw [← ht.tup]
    have := allL_get l (i := numL l t) ht.num_lt
    have h2 : numL l t < (allL l).length := by rw [allL_length]; exact ht.num_lt
    rw [List.getD_eq_getElem?_getD, List.getElem?_eq_getElem h2] at this
    rw [← this]
    exact List.getElem_mem h2
  have hn : U.Pairwise (· ≠ ·) := by
    refine List.pairwise_append.2 ⟨linesT_nodup l o f, H.nodup.filter _, fun a ha b hb e => ?_⟩
    subst e
    exact ((linesT_mem h1 a).1 ha).2 (of_decide_eq_true (List.mem_filter.1 hb).2)
  have hle : U.length ≤ (allL l).length := nodup_lenG hn fun t ht => hA t (by
    rcases List.mem_append.1 ht with h | h
    · exact ((linesT_mem h1 t).1 h).1
    · exact ((H.mem t).1 (List.mem_filter.1 h).1).1)
  rw [allL_length] at hle
  omega
/-- Where all have come: what was told are all tuples just if each has a line of the one or the other. -/
theorem Seen.all {left : Lit → Bool} {l : List Nat} {o o' : Int} {f f' : List Nat → Int} {ts : List (List Nat)} {n : Nat} (H : Seen left l o o' f f' ts n) (h1 : ∀ n ∈ l, 1 ≤ n) (h0 : ∀ y, left y = false) :
    (n = prodL l ↔ ∀ t, InL l t → f t ≠ o ∨ f' t ≠ o') ∧ n ≤ prodL l := by
  have hm : ∀ t, t ∈ ts ↔ InL l t ∧ f' t ≠ o' := fun t => by rw [H.mem t, h0]; simp
  let U := linesT l o f ++ ts.filter fun t => decide (f t = o)
  have hU : n = U.length := by rw [H.told, List.length_append]
  have hmem : ∀ t, t ∈ U ↔ InL l t ∧ (f t ≠ o ∨ f' t ≠ o') := fun t => by
    rw [List.mem_append, linesT_mem h1, List.mem_filter, hm]
    constructor
    · rintro (⟨a, b⟩ | ⟨⟨a, b⟩, c⟩)
      · exact ⟨a, .inl b⟩
      · exact ⟨a, .inr b⟩
    · rintro ⟨a, b⟩
      by_cases e : f t = o
      · rcases b with b | b
        · exact absurd e b
        · exact .inr ⟨⟨a, b⟩, decide_eq_true e⟩
      · exact .inl ⟨a, e⟩
  have hn : U.Pairwise (· ≠ ·) := by
    refine List.pairwise_append.2 ⟨linesT_nodup l o f, H.nodup.filter _, fun a ha b hb e => ?_⟩
    subst e
    exact ((linesT_mem h1 a).1 ha).2 (of_decide_eq_true (List.mem_filter.1 hb).2)
  have hA : ∀ t, InL l t → t ∈ allL l := fun t ht => by
    rw [← ht.tup]
    have := allL_get l (i := numL l t) ht.num_lt
    have h2 : numL l t < (allL l).length := by rw [allL_length]; exact ht.num_lt
    rw [List.getD_eq_getElem?_getD, List.getElem?_eq_getElem h2] at this
    rw [← this]
    exact List.getElem_mem h2
  have hA2 : ∀ t, t ∈ allL l → InL l t := fun t ht => by
    obtain ⟨i, hi, e⟩ := List.getElem_of_mem ht
    have hi' : i < prodL l := by rw [← allL_length]; exact hi
    have := allL_get l hi'
    rw [List.getD_eq_getElem?_getD, List.getElem?_eq_getElem hi] at this
    have e2 : t = tupL l i := by rw [← e]; exact this
    rw [e2]
    exact tupL_in h1 i
  have hle : U.length ≤ (allL l).length := nodup_lenG hn fun t ht => hA t ((hmem t).1 ht).1
  rw [allL_length] at hle
  refine ⟨⟨fun e t ht => ?_, fun h => ?_⟩, by omega⟩
  · by_cases ht' : t ∈ U
    · exact ((hmem t).1 ht').2
    · have : (t :: U).length ≤ (allL l).length := nodup_lenG (List.pairwise_cons.2 ⟨fun s hs e => ht' (e ▸ hs), hn⟩) fun s hs => by
        rcases List.mem_cons.1 hs with rfl | hs
        · exact hA _ ht
        · exact hA _ ((hmem s).1 hs).1
      rw [List.length_cons, allL_length] at this
      omega
  · have hnd : (allL l).Pairwise (· ≠ ·) := by
      rw [List.pairwise_iff_getElem]
      intro i j hi hj hij e
      have hi' : i < prodL l := by rw [← allL_length]; exact hi
      have hj' : j < prodL l := by rw [← allL_length]; exact hj
      have e1 := allL_get l hi'
      have e2 := allL_get l hj'
      rw [List.getD_eq_getElem?_getD, List.getElem?_eq_getElem hi] at e1
      rw [List.getD_eq_getElem?_getD, List.getElem?_eq_getElem hj] at e2
      have e3 : tupL l i = tupL l j := by rw [← e1, ← e2]; exact e
      have := congrArg (numL l) e3
      rw [num_tup hi', num_tup hj'] at this
      omega
    have := nodup_lenG hnd (L := U) fun t ht => (hmem t).2 ⟨hA2 t ht, h t (hA2 t ht)⟩
    rw [allL_length] at this
    omega
/-- Are two functions of sizes l alike? -/
def SameF (l : List Nat) (f f' : List Nat → Int) : Prop := ∀ t, InL l t → f t = f' t
/-- What has come of the other one's lines is alike. -/
def Went (left : Lit → Bool) (l : List Nat) (o : Int) (f f' : List Nat → Int) : Prop := ∀ t, InL l t → f t ≠ o → left (keyL t) = true ∨ f' t = f t
theorem Went.start {D : DataW Unit} {l : List Nat} {o : Int} {f f' : List Nat → Int} (hrep : RepF D l o f) : Went (Maps.has D) l o f f' := fun t ht h => by
  rw [(hrep.1 t ht).1]
  exact .inl (decide_eq_true h)
theorem Went.step {left : Lit → Bool} {l t : List Nat} {o : Int} {f f' : List Nat → Int} (H : Went left l o f f') (h6 : l.length ≤ 6) (h32 : ∀ n ∈ l, 1 ≤ n ∧ n ≤ 32) (ht : InL l t) (he : f' t = f t) : Went (fun y => left y && !y.sameKey (keyL t)) l o f f' := fun s hs hn => by
  show (left (keyL s) && !(keyL s).sameKey (keyL t)) = true ∨ _
  by_cases e : keyL s = keyL t
  · obtain rfl := keyL_inj h6 (fun n hn => (h32 n hn).2) hs ht e
    exact .inr he
  · rw [sameKey_ne e]
    rcases H s hs hn with h | h
    · exact .inl (by rw [h]; rfl)
    · exact .inr h
theorem same_all {left left2 : Lit → Bool} {l : List Nat} {o o' : Int} {f f' : List Nat → Int} {ts : List (List Nat)} {n : Nat} (H : Seen left l o o' f f' ts n) (G : Went left2 l o f f') (h1 : ∀ n ∈ l, 1 ≤ n) (h0 : ∀ y, left y = false) (h2 : ∀ y, left2 y = false) :
    SameF l f f' ↔ (o = o' ∨ n = prodL l) := by
  have hm : ∀ t, InL l t → f' t ≠ o' → f t = f' t := fun t ht h => H.same t ((H.mem t).2 ⟨ht, h, h0 _⟩)
  have hg : ∀ t, InL l t → f t ≠ o → f t = f' t := fun t ht h => by
    rcases G t ht h with h | h
    · rw [h2] at h
      cases h
    · exact h.symm
  have ha := (H.all h1 h0).1
  constructor
  · intro hs
    by_cases e : o = o'
    · exact .inl e
    · refine .inr (ha.2 fun t ht => ?_)
      by_cases e1 : f t = o
      · exact .inr fun e2 => e (by rw [← e1, ← e2]; exact hs t ht)
      · exact .inl e1
  · rintro (e | e) t ht
    · by_cases e1 : f t = o
      · by_cases e2 : f' t = o'
        · rw [e1, e2, e]
        · exact hm t ht e2
      · exact hg t ht e1
    · rcases ha.1 e t ht with h | h
      · exact hg t ht h
      · exact hm t ht h
end Go.Proofs.YtdmldnlgamnkeaaGreat

namespace Go.Proofs.YtdmldnlgamnkeaaGreat
open Go.RowKit Go.Maps
set_option linter.unusedVariables false
/-- What a region of two tuples reads. -/
abbrev HoldOo (wb : World) (g1 g2 : Nat) (x1 x2 : Value) (k1 k2 o1 o2 : Int) (W : World) : Prop :=
  W.cell? ⟨g1, 0, none⟩ = some x1 ∧ W.cell? ⟨g2, 0, none⟩ = some x2 ∧ W.cell? ⟨g1, 1, none⟩ = some (.int .i64 k1) ∧ W.cell? ⟨g2, 1, none⟩ = some (.int .i64 k2) ∧ W.cell? ⟨g1, 2, none⟩ = some (.int .i64 o1) ∧ W.cell? ⟨g2, 2, none⟩ = some (.int .i64 o2) ∧ Below wb.heap.size wb W
theorem HoldOo.below {wb W : World} {g1 g2 : Nat} {x1 x2 : Value} {k1 k2 o1 o2 : Int} (H : HoldOo wb g1 g2 x1 x2 k1 k2 o1 o2 W) : Below wb.heap.size wb W := H.2.2.2.2.2.2
theorem HoldOo.next {wb W W' : World} {g1 g2 : Nat} {x1 x2 : Value} {k1 k2 o1 o2 : Int} (H : HoldOo wb g1 g2 x1 x2 k1 k2 o1 o2 W) (hb : Below W.heap.size W W') : HoldOo wb g1 g2 x1 x2 k1 k2 o1 o2 W' := by
  obtain ⟨a0, a1, a2, a3, a4, a5, h9⟩ := H
  have K : ∀ b i v, W.cell? ⟨b, i, none⟩ = some v → W'.cell? ⟨b, i, none⟩ = some v := fun b i v h => (hb.cell (p := ⟨b, i, none⟩) (World.block_lt_of_cell? W _ h)).trans h
  exact ⟨K _ _ _ a0, K _ _ _ a1, K _ _ _ a2, K _ _ _ a3, K _ _ _ a4, K _ _ _ a5, h9.trans (hb.mono h9.size)⟩
theorem TpAt.both {w : World} {g b N c g' b' N' c' : Nat} {A A' : Option Addr} {l l' : List Nat} {k o k' o' : Int} {f f' : List Nat → Int} (H : TpAt w g b A c N l k o f) (H' : TpAt w g' b' A' c' N' l' k' o' f') :
    HoldOo w g g' (.slice A l.length c) (.slice A' l'.length c') k k' o o' w := by
  obtain ⟨a0, a1, a2, a3⟩ := H.cells
  obtain ⟨b0, b1, b2, b3⟩ := H'.cells
  exact ⟨a0, b0, a1, b1, a2, b2, Below.refl _ _⟩
theorem eql_ptr_nil (g : Nat) (w : World) : (binOp .eql 39 (.pointer (some ⟨g, 0, none⟩)) (.pointer none)).run Tryz.prog w = .ok (.bool false) w := by
  have h : Tryz.prog.underlying 39 = some (.pointer (Tryz.prog.pointee 39)) := by kernel_rfl
  have h1 : ∀ d : Nat, (Op.equalIn (d + 1) 39 (.pointer (some ⟨g, 0, none⟩)) (.pointer none)).run Tryz.prog w = .ok false w := fun d => by simp [Op.equalIn, run_underlying h]
  simp only [binOp]
  simp [Op.equal, Op.maxDepth, h1 9999]
theorem walks_below {W W' : World} (hb : Below W.heap.size W W') : KeepsWalks W W' := ⟨hb.size, fun k o hk _ => (hb.block k (Array.getElem?_eq_some_iff.1 hk).1).trans hk⟩
/-- A bool says whether. -/
def IsB (r : Bool) (p : Prop) : Prop := r = true ↔ p
/-- What Same answers. -/
def SmPost (w : World) (l l' : List Nat) (f f' : List Nat → Int) (e : Ending) (w' : World) : Prop :=
  ∃ r : Bool, e = .returned (.bool r) ∧ (r = true ↔ l = l' ∧ SameF l f f') ∧ Below w.heap.size w w'
end Go.Proofs.YtdmldnlgamnkeaaGreat
