/- Texts of this seat laid together (no statement of its own). -/
import Derived.Test.YteocbgcgfllieaaGreatDoorMgA
import Derived.Test.YteocbgcgfllieaaGreatDoorMgD
import Derived.Maps.OwnSet
import Derived.Maps.OwnOps
import Derived.Maps.RangeWalk
import Derived.Maps.Ext
import Derived.DeepKeys4
import Derived.WideKeyArr2
import Derived.Test.YteocbgcgfllieaaGreatDoorMga
import Derived.StillTailTactics
import Derived.Laws.AppendOwnNone
import Derived.Laws.ResultCell
import Derived.Deep.RegionHeld3
import Derived.Lib.OwnKind
namespace Go.Proofs.YteocbgcgfllieaaGreatDoor
open Go.RowKit Go.Maps Go.WideMaps Go.ChangeShapes
set_option linter.unusedVariables false
theorem laidOutU : laidOutB Tryz.prog = true := by kernel_rfl
theorem rowKey : (103 : TypeId) < Tryz.prog.types.size := of_decide_eq_true (by kernel_rfl)
theorem wideKey : (match Tryz.prog.underlying 103 with | some (.array _ _) | some (.struct _) => true | _ => false) = true := by kernel_rfl
set_option maxRecDepth 100000 in
theorem keyLaw : KeyLaw Tryz.prog 103 := deep_law_laid laidOutU (m := 2) (by omega) rowKey (by kernel_rfl) wideKey
theorem keyed : Keyed Tryz.prog 103 := Keyed.of_law keyLaw
theorem zeroI64 (w : World) : (zeroValue 2).run Tryz.prog w = .ok (.int .i64 0) w := by kernel_rfl
/-- A tuple as a key: noughts behind its length. -/
abbrev keyV (t : List Nat) : Value := .agg #[szV t 0, szV t 1, szV t 2, szV t 3, szV t 4, szV t 5]
def keyLits (t : List Nat) : List Lit := [.int .i64 (nth t 0 : Int), .int .i64 (nth t 1 : Int), .int .i64 (nth t 2 : Int), .int .i64 (nth t 3 : Int), .int .i64 (nth t 4 : Int), .int .i64 (nth t 5 : Int)]
def keyL (t : List Nat) : Lit := .string (keyBytes (keyLits t))
theorem wf_small {n : Nat} (h : n ≤ 1000) : (Lit.int .i64 (n : Int)).wf = true := WalkArith.wf_i64 (by omega)
theorem cellsKey : Tryz.prog.cellsOf 103 = 6 := by kernel_rfl
theorem cellsInt : Tryz.prog.cellsOf 3 = 1 := by kernel_rfl
theorem keyTypeKey : Tryz.prog.keyType 103 = true := by kernel_rfl
theorem typesKey : Tryz.prog.types.size = (Tryz.prog.types.size - 2) + 2 := by kernel_rfl
theorem keyOf_key {t : List Nat} (h : ∀ i, nth t i ≤ 1000) : keyOf Tryz.prog 103 (keyV t) = some (keyL t) := by
  have hw : ∀ i, (Lit.int .i64 (nth t i : Int)).wf = true := fun i => wf_small (h i)
  have hl : Tryz.prog.keyLits (Tryz.prog.types.size + 1) 103 [szV t 0, szV t 1, szV t 2, szV t 3, szV t 4, szV t 5] = some (keyLits t) := by
    rw [typesKey]
    generalize Tryz.prog.types.size - 2 = m
    unfold Program.keyLits
    rw [Tryz.underlying103]
    simp only [cellsKey, cellsInt]
    unfold Program.keyLits
    rw [Tryz.underlying3]
    simp [List.range_succ, hw, keyLits]
  unfold keyOf
  rw [Tryz.underlying103]
  simp only [keyTypeKey, Value.formed, Tryz.underlying103, cellsKey, Value.cells]
  rw [hl]
  rfl
end Go.Proofs.YteocbgcgfllieaaGreatDoor

namespace Go.Proofs.YteocbgcgfllieaaGreatDoor
open Go.RowKit Go.Maps Go.WideMaps Go.ChangeShapes
set_option linter.unusedVariables false
theorem InL.small {l t : List Nat} (h : InL l t) (h32 : ∀ n ∈ l, n ≤ 32) : ∀ i, nth t i ≤ 1000 := by
  intro i
  by_cases hi : i < t.length
  · have h2 := (inL_iff.1 h).2 i (by rw [← h.length]; exact hi)
    have := h32 _ (nth_mem (l := l) (i := i) (by rw [← h.length]; exact hi))
    omega
  · rw [nth_far (by omega)]
    omega
theorem keyV_inj {s t : List Nat} (hl : s.length = t.length) (h6 : s.length ≤ 6) (h : keyV s = keyV t) : s = t := by
  have h' := h
  simp only [keyV, szV, Value.agg.injEq, Array.mk.injEq, List.cons.injEq, Value.int.injEq, true_and, and_true] at h'
  obtain ⟨h0, h1, h2, h3, h4, h5⟩ := h'
  refine nth_eq hl fun i hi => ?_
  rcases (by omega : i = 0 ∨ i = 1 ∨ i = 2 ∨ i = 3 ∨ i = 4 ∨ i = 5) with rfl | rfl | rfl | rfl | rfl | rfl <;> omega
theorem keyL_inj {l s t : List Nat} (h6 : l.length ≤ 6) (h32 : ∀ n ∈ l, n ≤ 32) (hs : InL l s) (ht : InL l t) (h : keyL s = keyL t) : s = t :=
  keyV_inj (by rw [hs.length, ht.length]) (by rw [hs.length]; exact h6) (keyed.inj (keyOf_key (hs.small h32)) (h ▸ keyOf_key (ht.small h32)))
theorem keyL_isKey (t : List Nat) : WideAt.IsKeyLit (keyL t) := trivial
/-- A map says of each tuple of sizes l its cost, where that isn't o; and has nothing else. -/
def RepF (D : DataW Unit) (l : List Nat) (o : Int) (f : List Nat → Int) : Prop :=
  (∀ t, InL l t → Maps.has D (keyL t) = decide (f t ≠ o) ∧ (f t ≠ o → ∀ z, D.atKey (keyL t) z = .lit (.int .i64 (f t)))) ∧ ∀ k, Maps.has D k = true → ∃ t, InL l t ∧ k = keyL t
def updF (f : List Nat → Int) (t : List Nat) (c : Int) : List Nat → Int := fun s => if s = t then c else f s
theorem repF_empty (l : List Nat) (o : Int) : RepF (.map []) l o (fun _ => o) :=
  ⟨fun t ht => ⟨by simp [Maps.has], fun h => absurd rfl h⟩, fun k h => by simp [Maps.has] at h⟩
theorem RepF.put {D : DataW Unit} {l t : List Nat} {o c : Int} {f : List Nat → Int} (H : RepF D l o f) (hD : IsMap D) (h6 : l.length ≤ 6) (h32 : ∀ n ∈ l, n ≤ 32) (ht : InL l t) (hc : c ≠ o) : RepF (D.put (keyL t) (.lit (.int .i64 c))) l o (updF f t c) := by
  refine ⟨fun s hs => ?_, fun k hk => ?_⟩
  · by_cases e : s = t
    · subst e
      have eu : updF f s c s = c := if_pos rfl
      rw [eu]
      exact ⟨by rw [has_put_same hD (keyL_isKey s)]; simp [hc], fun _ z => atKey_put_same hD (keyL_isKey s) _ _⟩
    · have eu : updF f t c s = f s := if_neg e
      have hne : keyL s ≠ keyL t := fun h => e (keyL_inj h6 h32 hs ht h)
      rw [eu, has_put_other hne]
      exact ⟨(H.1 s hs).1, fun h z => by rw [atKey_put_other hne]; exact (H.1 s hs).2 h z⟩
  · by_cases e : k = keyL t
    · exact ⟨t, ht, e⟩
    · rw [has_put_other e] at hk
      exact H.2 k hk
theorem RepF.del {D : DataW Unit} {l t : List Nat} {o : Int} {f : List Nat → Int} (H : RepF D l o f) (hD : IsMap D) (h6 : l.length ≤ 6) (h32 : ∀ n ∈ l, n ≤ 32) (ht : InL l t) : RepF (D.del (keyL t)) l o (updF f t o) := by
  refine ⟨fun s hs => ?_, fun k hk => ?_⟩
  · by_cases e : s = t
    · subst e
      have eu : updF f s o s = o := if_pos rfl
      rw [eu]
      exact ⟨by rw [has_del_same]; simp, fun h => absurd rfl h⟩
    · have eu : updF f t o s = f s := if_neg e
      have hne : keyL s ≠ keyL t := fun h => e (keyL_inj h6 h32 hs ht h)
      rw [eu, has_del_other hne]
      exact ⟨(H.1 s hs).1, fun h z => by rw [atKey_del_other hne]; exact (H.1 s hs).2 h z⟩
  · by_cases e : k = keyL t
    · rw [e, has_del_same] at hk
      cases hk
    · rw [has_del_other e] at hk
      exact H.2 k hk
/-- Tuples lie at g: of sizes l, with the top k and the cost o of most; the others' costs f lie in the map b, of at most N entries. -/
structure TpAt (w : World) (g b : Nat) (A : Option Addr) (c N : Nat) (l : List Nat) (k o : Int) (f : List Nat → Int) : Prop where
  row : w.heap[g]? = some (.cells #[.slice A l.length c, .int .i64 k, .int .i64 o, .map (some b)] 101 (0, 0))
  ints : Ints w A l
  cap : l.length ≤ c
  map : ∃ D : DataW Unit, w.ownsMap Tryz.prog 103 (plainElem Tryz.prog 2) b N D ∧ RepF D l o f
theorem TpAt.below {w w' : World} {g b : Nat} {A : Option Addr} {c N : Nat} {l : List Nat} {k o : Int} {f : List Nat → Int} (H : TpAt w g b A c N l k o f) (hb : Below w.heap.size w w') : TpAt w' g b A c N l k o f := by
  obtain ⟨D, hm, hr⟩ := H.map
  refine ⟨(hb.block g (Array.getElem?_eq_some_iff.1 H.row).1).trans H.row, H.ints.below hb (Nat.le_refl _), H.cap, D, hm.kept (grown_of_below hb) (by simp), hr⟩
theorem TpAt.cells {w : World} {g b : Nat} {A : Option Addr} {c N : Nat} {l : List Nat} {k o : Int} {f : List Nat → Int} (H : TpAt w g b A c N l k o f) :
    w.cell? ⟨g, 0, none⟩ = some (.slice A l.length c) ∧ w.cell? ⟨g, 1, none⟩ = some (.int .i64 k) ∧ w.cell? ⟨g, 2, none⟩ = some (.int .i64 o) ∧ w.cell? ⟨g, 3, none⟩ = some (.map (some b)) := by
  refine ⟨?_, ?_, ?_, ?_⟩ <;> (rw [cell_of_row _ _ _ _ _ _ H.row]; rfl)
theorem TpAt.lt {w : World} {g b : Nat} {A : Option Addr} {c N : Nat} {l : List Nat} {k o : Int} {f : List Nat → Int} (H : TpAt w g b A c N l k o f) : b < w.heap.size := by
  obtain ⟨D, hm, hr⟩ := H.map
  exact hm.lt
theorem TpAt.apart {w : World} {g b : Nat} {A : Option Addr} {c N : Nat} {l : List Nat} {k o : Int} {f : List Nat → Int} (H : TpAt w g b A c N l k o f) : g ≠ b := by
  rintro rfl
  obtain ⟨D, ⟨es, clock, hm, _⟩, hr⟩ := H.map
  have := H.row.symm.trans hm
  simp at this
end Go.Proofs.YteocbgcgfllieaaGreatDoor

namespace Go.Proofs.YteocbgcgfllieaaGreatDoor
open Go.RowKit Go.Maps
set_option linter.unusedVariables false
theorem Own.grown {w w' : World} {base : Nat} {v : Value} {l : List Nat} {row : Option Nat} (h : Own w base v l) (hg : w.grownBy w' row) (hne : v.ownBlock = none ∨ v.ownBlock ≠ row) : Own w' base v l := World.ownsRow.kept h hg hne
theorem clone_any' (A : Option Addr) (n c : Nat) (l : List Nat) (w : World) (hn : n = l.length) (hl : l.length ≤ 1000000) (hw : Ints w A l) :
    Calls Tryz.prog 13 #[.slice A n c] w fun e w' => (∃ v, e = .returned v ∧ Own w' w.heap.size v l) ∧ Below w.heap.size w w' := by
  subst hn
  exact clone_any A c l w hl hw
theorem ints_grown {X Y : World} {g : Nat} {A : Option Addr} {l : List Nat} (h : Ints X A l) (hg : X.grownBy Y (some g)) (hne : ∀ a : Addr, A = some a → a.block ≠ g) : Ints Y A l := by
  rcases h with h | ⟨g', o, rfl, hlt, hc⟩
  · exact .inl h
  · exact .inr ⟨g', o, rfl, Nat.lt_of_lt_of_le hlt hg.size, fun i hi => World.grownBy.cell hg (hc i hi) (fun e => hne _ rfl (by injection e))⟩
theorem right_yes (k : Int) (w : World) (h1 : 1 ≤ k) (h2 : k ≤ 2147483648) :
    Calls Tryz.prog 53 #[.int .i64 k] w fun e w' => e = .returned (.bool true) ∧ w = w' := by
  go_enter Tryz.func53, Tryz.ntmps53
  go_wp2
  go_ret
  exact ⟨rfl, rfl⟩
theorem right_no (k : Int) (w : World) (h : k < 1 ∨ 2147483648 < k) :
    Calls Tryz.prog 53 #[.int .i64 k] w fun e w' => e = .returned (.bool false) ∧ w = w' := by
  rcases h with h | h
  · go_enter Tryz.func53, Tryz.ntmps53
    go_wp2
    go_ret
    exact ⟨rfl, rfl⟩
  · have h1 : 1 ≤ k := by omega
    go_enter Tryz.func53, Tryz.ntmps53
    go_wp2
    go_ret
    exact ⟨by simp <;> omega, rfl⟩
theorem in_yes (a k : Int) (w : World) (h1 : 1 ≤ k) (h2 : k ≤ 2147483648) (h3 : 0 ≤ a) (h4 : a ≤ k) :
    Calls Tryz.prog 49 #[.int .i64 a, .int .i64 k] w fun e w' => e = .returned (.bool true) ∧ w = w' := by
  go_enter Tryz.func49, Tryz.ntmps49
  go_wp2_with (go_at_call 53; refine (right_yes _ _ (by omega) (by omega)).mono ?_; rintro e w' ⟨rfl, rfl⟩)
  go_ret
  exact ⟨rfl, rfl⟩
theorem in_no (a k : Int) (w : World) (h1 : 1 ≤ k) (h2 : k ≤ 2147483648) (h : a < 0 ∨ k < a) :
    Calls Tryz.prog 49 #[.int .i64 a, .int .i64 k] w fun e w' => e = .returned (.bool false) ∧ w = w' := by
  rcases (by omega : a < 0 ∨ (0 ≤ a ∧ k < a)) with h | ⟨h, h3⟩
  all_goals
    go_enter Tryz.func49, Tryz.ntmps49
    go_wp2_with (go_at_call 53; refine (right_yes _ _ (by omega) (by omega)).mono ?_; rintro e w' ⟨rfl, rfl⟩)
    go_ret
    exact ⟨by first | rfl | (simp <;> omega), rfl⟩
theorem own_cap {w : World} {base n c : Nat} {A : Option Addr} {l : List Nat} (h : Own w base (.slice A n c) l) : n ≤ c := by
  obtain ⟨_, ⟨e, hn⟩ | ⟨g, cap, cur, e, _, _, hm, _⟩⟩ := h
  · injection e with e1 e2 e3
    omega
  · injection e with e1 e2 e3
    omega
/-- Sizes that are refused: too many, or one at a place is wrong (and none ahead of it). -/
def Bad (m p : Nat) (z : Nat → Int) : Prop := 6 < m ∨ (m ≤ 6 ∧ p < m ∧ (∀ i, i < p → 1 ≤ z i ∧ z i ≤ 32) ∧ (z p < 1 ∨ 32 < z p))
theorem in_noK (a k : Int) (w : World) (h : k < 1 ∨ 2147483648 < k) :
    Calls Tryz.prog 49 #[.int .i64 a, .int .i64 k] w fun e w' => e = .returned (.bool false) ∧ w = w' := by
  have H := Lib.hid h
  clear h
  go_enter Tryz.func49, Tryz.ntmps49
  go_wp2_with (go_at_call 53; refine (right_no _ _ H.out).mono ?_; rintro e w' ⟨rfl, rfl⟩)
  go_ret
  exact ⟨rfl, rfl⟩
def InK (a k : Int) : Prop := 1 ≤ k ∧ k ≤ 2147483648 ∧ 0 ≤ a ∧ a ≤ k
theorem in_refused (a k : Int) (w : World) (h : ¬ InK a k) :
    Calls Tryz.prog 49 #[.int .i64 a, .int .i64 k] w fun e w' => e = .returned (.bool false) ∧ w = w' := by
  unfold InK at h
  by_cases hk : 1 ≤ k ∧ k ≤ 2147483648
  · exact in_no a k w hk.1 hk.2 (by omega)
  · exact in_noK a k w (by omega)
end Go.Proofs.YteocbgcgfllieaaGreatDoor
