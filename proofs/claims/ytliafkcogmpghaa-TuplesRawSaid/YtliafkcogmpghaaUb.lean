/- What a map of tuples says: a function by its tuples (no statement of its own). No condition. -/
import Derived.Test.YtliafkcogmpghaaUa
namespace Go.Proofs.Ytliafkcogmpghaa
open Go.RowKit Go.Maps Go.WideMaps Go.ChangeShapes
set_option linter.unusedVariables false
theorem InL.small {l t : List Nat} (h : InL l t) (h32 : ∀ n ∈ l, n ≤ 32) : ∀ i, nth t i ≤ 1000 := by
  intro i
  by_cases hi : i < t.length
  · have h2 := (inL_iff.1 h).2 i (by rw [← h.length]; exact hi)
    have := h32 _ (nth_mem (l := l) (i := i) (by rw [← h.length]; exact hi))
    omega
  · rw [nth_far (by omega)]
    omega
theorem keyV_inj {s t : List Nat} (hl : s.length = t.length) (h6 : s.length ≤ 6) (h : keyV s = keyV t) : s = t := by
  have h' := h
  simp only [keyV, szV, Value.agg.injEq, Array.mk.injEq, List.cons.injEq, Value.int.injEq, true_and, and_true] at h'
  obtain ⟨h0, h1, h2, h3, h4, h5⟩ := h'
  refine nth_eq hl fun i hi => ?_
  rcases (by omega : i = 0 ∨ i = 1 ∨ i = 2 ∨ i = 3 ∨ i = 4 ∨ i = 5) with rfl | rfl | rfl | rfl | rfl | rfl <;> omega
theorem keyL_inj {l s t : List Nat} (h6 : l.length ≤ 6) (h32 : ∀ n ∈ l, n ≤ 32) (hs : InL l s) (ht : InL l t) (h : keyL s = keyL t) : s = t :=
  keyV_inj (by rw [hs.length, ht.length]) (by rw [hs.length]; exact h6) (keyed.inj (keyOf_key (hs.small h32)) (h ▸ keyOf_key (ht.small h32)))
theorem keyL_isKey (t : List Nat) : WideAt.IsKeyLit (keyL t) := trivial
/-- A map says of each tuple of sizes l its cost, where that isn't o; and has nothing else. -/
def RepF (D : DataW Unit) (l : List Nat) (o : Int) (f : List Nat → Int) : Prop :=
  (∀ t, InL l t → Maps.has D (keyL t) = decide (f t ≠ o) ∧ (f t ≠ o → ∀ z, D.atKey (keyL t) z = .lit (.int .i64 (f t)))) ∧ ∀ k, Maps.has D k = true → ∃ t, InL l t ∧ k = keyL t
def updF (f : List Nat → Int) (t : List Nat) (c : Int) : List Nat → Int := fun s => if s = t then c else f s
theorem repF_empty (l : List Nat) (o : Int) : RepF (.map []) l o (fun _ => o) :=
  ⟨fun t ht => ⟨by simp [Maps.has], fun h => absurd rfl h⟩, fun k h => by simp [Maps.has] at h⟩
theorem RepF.put {D : DataW Unit} {l t : List Nat} {o c : Int} {f : List Nat → Int} (H : RepF D l o f) (hD : IsMap D) (h6 : l.length ≤ 6) (h32 : ∀ n ∈ l, n ≤ 32) (ht : InL l t) (hc : c ≠ o) : RepF (D.put (keyL t) (.lit (.int .i64 c))) l o (updF f t c) := by
  refine ⟨fun s hs => ?_, fun k hk => ?_⟩
  · by_cases e : s = t
    · subst e
      have eu : updF f s c s = c := if_pos rfl
      rw [eu]
      exact ⟨by rw [has_put_same hD (keyL_isKey s)]; simp [hc], fun _ z => atKey_put_same hD (keyL_isKey s) _ _⟩
    · have eu : updF f t c s = f s := if_neg e
      have hne : keyL s ≠ keyL t := fun h => e (keyL_inj h6 h32 hs ht h)
      rw [eu, has_put_other hne]
      exact ⟨(H.1 s hs).1, fun h z => by rw [atKey_put_other hne]; exact (H.1 s hs).2 h z⟩
  · by_cases e : k = keyL t
    · exact ⟨t, ht, e⟩
    · rw [has_put_other e] at hk
      exact H.2 k hk
theorem RepF.del {D : DataW Unit} {l t : List Nat} {o : Int} {f : List Nat → Int} (H : RepF D l o f) (hD : IsMap D) (h6 : l.length ≤ 6) (h32 : ∀ n ∈ l, n ≤ 32) (ht : InL l t) : RepF (D.del (keyL t)) l o (updF f t o) := by
  refine ⟨fun s hs => ?_, fun k hk => ?_⟩
  · by_cases e : s = t
    · subst e
      have eu : updF f s o s = o := if_pos rfl
      rw [eu]
      exact ⟨by rw [has_del_same]; simp, fun h => absurd rfl h⟩
    · have eu : updF f t o s = f s := if_neg e
      have hne : keyL s ≠ keyL t := fun h => e (keyL_inj h6 h32 hs ht h)
      rw [eu, has_del_other hne]
      exact ⟨(H.1 s hs).1, fun h z => by rw [atKey_del_other hne]; exact (H.1 s hs).2 h z⟩
  · by_cases e : k = keyL t
    · rw [e, has_del_same] at hk
      cases hk
    · rw [has_del_other e] at hk
      exact H.2 k hk
/-- Tuples lie at g: of sizes l, with the top k and the cost o of most; the others' costs f lie in the map b, of at most N entries. -/
structure TpAt (w : World) (g b : Nat) (A : Option Addr) (c N : Nat) (l : List Nat) (k o : Int) (f : List Nat → Int) : Prop where
  row : w.heap[g]? = some (.cells #[.slice A l.length c, .int .i64 k, .int .i64 o, .map (some b)] 71 (0, 0))
  ints : Ints w A l
  cap : l.length ≤ c
  map : ∃ D : DataW Unit, w.ownsMap Try.prog 74 (plainElem Try.prog 2) b N D ∧ RepF D l o f
theorem TpAt.below {w w' : World} {g b : Nat} {A : Option Addr} {c N : Nat} {l : List Nat} {k o : Int} {f : List Nat → Int} (H : TpAt w g b A c N l k o f) (hb : Below w.heap.size w w') : TpAt w' g b A c N l k o f := by
  obtain ⟨D, hm, hr⟩ := H.map
  refine ⟨(hb.block g (Array.getElem?_eq_some_iff.1 H.row).1).trans H.row, H.ints.below hb (Nat.le_refl _), H.cap, D, hm.kept (grown_of_below hb) (by simp), hr⟩
theorem TpAt.cells {w : World} {g b : Nat} {A : Option Addr} {c N : Nat} {l : List Nat} {k o : Int} {f : List Nat → Int} (H : TpAt w g b A c N l k o f) :
    w.cell? ⟨g, 0, none⟩ = some (.slice A l.length c) ∧ w.cell? ⟨g, 1, none⟩ = some (.int .i64 k) ∧ w.cell? ⟨g, 2, none⟩ = some (.int .i64 o) ∧ w.cell? ⟨g, 3, none⟩ = some (.map (some b)) := by
  refine ⟨?_, ?_, ?_, ?_⟩ <;> (rw [cell_of_row _ _ _ _ _ _ H.row]; rfl)
theorem TpAt.lt {w : World} {g b : Nat} {A : Option Addr} {c N : Nat} {l : List Nat} {k o : Int} {f : List Nat → Int} (H : TpAt w g b A c N l k o f) : b < w.heap.size := by
  obtain ⟨D, hm, hr⟩ := H.map
  exact hm.lt
theorem TpAt.apart {w : World} {g b : Nat} {A : Option Addr} {c N : Nat} {l : List Nat} {k o : Int} {f : List Nat → Int} (H : TpAt w g b A c N l k o f) : g ≠ b := by
  rintro rfl
  obtain ⟨D, ⟨es, clock, hm, _⟩, hr⟩ := H.map
  have := H.row.symm.trans hm
  simp at this
end Go.Proofs.Ytliafkcogmpghaa
