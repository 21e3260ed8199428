/- Texts of this seat laid together (no statement of its own). -/
import Derived.Test.YtdmldnlgamnkeaaGreatTup
import Derived.Test.YtdmldnlgamnkeaaGreatSh1
import Derived.Maps.OwnSet
import Derived.Maps.OwnOps
import Derived.Maps.RangeWalk
import Derived.Maps.Ext
import Derived.DeepKeys4
import Derived.WideKeyArr2
import Derived.Test.YtdmldnlgamnkeaaGreatTxa
import Derived.StillTailTactics
namespace Go.Proofs.YtdmldnlgamnkeaaGreat
open Go.RowKit Go.Maps Go.WideMaps Go.ChangeShapes
set_option linter.unusedVariables false
theorem laidOutU : laidOutB Tryz.prog = true := by kernel_rfl
theorem rowKey : (77 : TypeId) < Tryz.prog.types.size := of_decide_eq_true (by kernel_rfl)
theorem wideKey : (match Tryz.prog.underlying 77 with | some (.array _ _) | some (.struct _) => true | _ => false) = true := by kernel_rfl
set_option maxRecDepth 100000 in
theorem keyLaw : KeyLaw Tryz.prog 77 := deep_law_laid laidOutU (m := 2) (by omega) rowKey (by kernel_rfl) wideKey
theorem keyed : Keyed Tryz.prog 77 := Keyed.of_law keyLaw
theorem zeroI64 (w : World) : (zeroValue 2).run Tryz.prog w = .ok (.int .i64 0) w := by kernel_rfl
/-- A tuple as a key: noughts behind its length. -/
abbrev keyV (t : List Nat) : Value := .agg #[szV t 0, szV t 1, szV t 2, szV t 3, szV t 4, szV t 5]
def keyLits (t : List Nat) : List Lit := [.int .i64 (nth t 0 : Int), .int .i64 (nth t 1 : Int), .int .i64 (nth t 2 : Int), .int .i64 (nth t 3 : Int), .int .i64 (nth t 4 : Int), .int .i64 (nth t 5 : Int)]
def keyL (t : List Nat) : Lit := .string (keyBytes (keyLits t))
theorem wf_small {n : Nat} (h : n ≤ 1000) : (Lit.int .i64 (n : Int)).wf = true := WalkArith.wf_i64 (by omega)
theorem cellsKey : Tryz.prog.cellsOf 77 = 6 := by kernel_rfl
theorem cellsInt : Tryz.prog.cellsOf 3 = 1 := by kernel_rfl
theorem keyTypeKey : Tryz.prog.keyType 77 = true := by kernel_rfl
theorem typesKey : Tryz.prog.types.size = (Tryz.prog.types.size - 2) + 2 := by kernel_rfl
theorem keyOf_key {t : List Nat} (h : ∀ i, nth t i ≤ 1000) : keyOf Tryz.prog 77 (keyV t) = some (keyL t) := by
  have hw : ∀ i, (Lit.int .i64 (nth t i : Int)).wf = true := fun i => wf_small (h i)
  have hl : Tryz.prog.keyLits (Tryz.prog.types.size + 1) 77 [szV t 0, szV t 1, szV t 2, szV t 3, szV t 4, szV t 5] = some (keyLits t) := by
    rw [typesKey]
    generalize Tryz.prog.types.size - 2 = m
    unfold Program.keyLits
    rw [Tryz.underlying77]
    simp only [cellsKey, cellsInt]
    unfold Program.keyLits
    rw [Tryz.underlying3]
    simp [List.range_succ, hw, keyLits]
  unfold keyOf
  rw [Tryz.underlying77]
  simp only [keyTypeKey, Value.formed, Tryz.underlying77, cellsKey, Value.cells]
  rw [hl]
  rfl
end Go.Proofs.YtdmldnlgamnkeaaGreat

namespace Go.Proofs.YtdmldnlgamnkeaaGreat
open Go.RowKit Go.Maps Go.WideMaps Go.ChangeShapes
set_option linter.unusedVariables false
theorem InL.small {l t : List Nat} (h : InL l t) (h32 : ∀ n ∈ l, n ≤ 32) : ∀ i, nth t i ≤ 1000 := by
  intro i
  by_cases hi : i < t.length
  · have h2 := (inL_iff.1 h).2 i (by rw [← h.length]; exact hi)
    have := h32 _ (nth_mem (l := l) (i := i) (by rw [← h.length]; exact hi))
    omega
  · rw [nth_far (by omega)]
    omega
theorem keyV_inj {s t : List Nat} (hl : s.length = t.length) (h6 : s.length ≤ 6) (h : keyV s = keyV t) : s = t := by
  have h' := h
  simp only [keyV, szV, Value.agg.injEq, Array.mk.injEq, List.cons.injEq, Value.int.injEq, true_and, and_true] at h'
  obtain ⟨h0, h1, h2, h3, h4, h5⟩ := h'
  refine nth_eq hl fun i hi => ?_
  rcases (by omega : i = 0 ∨ i = 1 ∨ i = 2 ∨ i = 3 ∨ i = 4 ∨ i = 5) with rfl | rfl | rfl | rfl | rfl | rfl <;> omega
theorem keyL_inj {l s t : List Nat} (h6 : l.length ≤ 6) (h32 : ∀ n ∈ l, n ≤ 32) (hs : InL l s) (ht : InL l t) (h : keyL s = keyL t) : s = t :=
  keyV_inj (by rw [hs.length, ht.length]) (by rw [hs.length]; exact h6) (keyed.inj (keyOf_key (hs.small h32)) (h ▸ keyOf_key (ht.small h32)))
theorem keyL_isKey (t : List Nat) : WideAt.IsKeyLit (keyL t) := trivial
/-- A map says of each tuple of sizes l its cost, where that isn't o; and has nothing else. -/
def RepF (D : DataW Unit) (l : List Nat) (o : Int) (f : List Nat → Int) : Prop :=
  (∀ t, InL l t → Maps.has D (keyL t) = decide (f t ≠ o) ∧ (f t ≠ o → ∀ z, D.atKey (keyL t) z = .lit (.int .i64 (f t)))) ∧ ∀ k, Maps.has D k = true → ∃ t, InL l t ∧ k = keyL t
def updF (f : List Nat → Int) (t : List Nat) (c : Int) : List Nat → Int := fun s => if s = t then c else f s
theorem repF_empty (l : List Nat) (o : Int) : RepF (.map []) l o (fun _ => o) :=
  ⟨fun t ht => ⟨by simp [Maps.has], fun h => absurd rfl h⟩, fun k h => by simp [Maps.has] at h⟩
theorem RepF.put {D : DataW Unit} {l t : List Nat} {o c : Int} {f : List Nat → Int} (H : RepF D l o f) (hD : IsMap D) (h6 : l.length ≤ 6) (h32 : ∀ n ∈ l, n ≤ 32) (ht : InL l t) (hc : c ≠ o) : RepF (D.put (keyL t) (.lit (.int .i64 c))) l o (updF f t c) := by
  refine ⟨fun s hs => ?_, fun k hk => ?_⟩
  · by_cases e : s = t
    · subst e
      have eu : updF f s c s = c := if_pos rfl
      rw [eu]
      exact ⟨by rw [has_put_same hD (keyL_isKey s)]; simp [hc], fun _ z => atKey_put_same hD (keyL_isKey s) _ _⟩
    · have eu : updF f t c s = f s := if_neg e
      have hne : keyL s ≠ keyL t := fun h => e (keyL_inj h6 h32 hs ht h)
      rw [eu, has_put_other hne]
      exact ⟨(H.1 s hs).1, fun h z => by rw [atKey_put_other hne]; exact (H.1 s hs).2 h z⟩
  · by_cases e : k = keyL t
    · exact ⟨t, ht, e⟩
    · rw [has_put_other e] at hk
      exact H.2 k hk
theorem RepF.del {D : DataW Unit} {l t : List Nat} {o : Int} {f : List Nat → Int} (H : RepF D l o f) (hD : IsMap D) (h6 : l.length ≤ 6) (h32 : ∀ n ∈ l, n ≤ 32) (ht : InL l t) : RepF (D.del (keyL t)) l o (updF f t o) := by
  refine ⟨fun s hs => ?_, fun k hk => ?_⟩
  · by_cases e : s = t
    · subst e
      have eu : updF f s o s = o := if_pos rfl
      rw [eu]
      exact ⟨by rw [has_del_same]; simp, fun h => absurd rfl h⟩
    · have eu : updF f t o s = f s := if_neg e
      have hne : keyL s ≠ keyL t := fun h => e (keyL_inj h6 h32 hs ht h)
      rw [eu, has_del_other hne]
      exact ⟨(H.1 s hs).1, fun h z => by rw [atKey_del_other hne]; exact (H.1 s hs).2 h z⟩
  · by_cases e : k = keyL t
    · rw [e, has_del_same] at hk
      cases hk
    · rw [has_del_other e] at hk
      exact H.2 k hk
/-- Tuples lie at g: of sizes l, with the top k and the cost o of most; the others' costs f lie in the map b, of at most N entries. -/
structure TpAt (w : World) (g b : Nat) (A : Option Addr) (c N : Nat) (l : List Nat) (k o : Int) (f : List Nat → Int) : Prop where
  row : w.heap[g]? = some (.cells #[.slice A l.length c, .int .i64 k, .int .i64 o, .map (some b)] 76 (0, 0))
  ints : Ints w A l
  cap : l.length ≤ c
  map : ∃ D : DataW Unit, w.ownsMap Tryz.prog 77 (plainElem Tryz.prog 2) b N D ∧ RepF D l o f
theorem TpAt.below {w w' : World} {g b : Nat} {A : Option Addr} {c N : Nat} {l : List Nat} {k o : Int} {f : List Nat → Int} (H : TpAt w g b A c N l k o f) (hb : Below w.heap.size w w') : TpAt w' g b A c N l k o f := by
  obtain ⟨D, hm, hr⟩ := H.map
  refine ⟨(hb.block g (Array.getElem?_eq_some_iff.1 H.row).1).trans H.row, H.ints.below hb (Nat.le_refl _), H.cap, D, hm.kept (grown_of_below hb) (by simp), hr⟩
theorem TpAt.cells {w : World} {g b : Nat} {A : Option Addr} {c N : Nat} {l : List Nat} {k o : Int} {f : List Nat → Int} (H : TpAt w g b A c N l k o f) :
    w.cell? ⟨g, 0, none⟩ = some (.slice A l.length c) ∧ w.cell? ⟨g, 1, none⟩ = some (.int .i64 k) ∧ w.cell? ⟨g, 2, none⟩ = some (.int .i64 o) ∧ w.cell? ⟨g, 3, none⟩ = some (.map (some b)) := by
  refine ⟨?_, ?_, ?_, ?_⟩ <;> (rw [cell_of_row _ _ _ _ _ _ H.row]; rfl)
theorem TpAt.lt {w : World} {g b : Nat} {A : Option Addr} {c N : Nat} {l : List Nat} {k o : Int} {f : List Nat → Int} (H : TpAt w g b A c N l k o f) : b < w.heap.size := by
  obtain ⟨D, hm, hr⟩ := H.map
  exact hm.lt
theorem TpAt.apart {w : World} {g b : Nat} {A : Option Addr} {c N : Nat} {l : List Nat} {k o : Int} {f : List Nat → Int} (H : TpAt w g b A c N l k o f) : g ≠ b := by
  rintro rfl
  obtain ⟨D, ⟨es, clock, hm, _⟩, hr⟩ := H.map
  have := H.row.symm.trans hm
  simp at this
end Go.Proofs.YtdmldnlgamnkeaaGreat

namespace Go.Proofs.YtdmldnlgamnkeaaGreat
open Go.RowKit
set_option linter.unusedVariables false
theorem wrong_yesU (x : Int) (w : World) (h : x < 1 ∨ 32 < x) : Calls Tryz.prog 41 #[.int .i64 x] w fun e w' => e = .returned (.bool true) ∧ w = w' := by
  rcases (by omega : x < 1 ∨ (1 ≤ x ∧ 32 < x)) with h | ⟨h, h'⟩
  · go_enter Tryz.func41, Tryz.ntmps41
    go_wp2
    go_ret
    exact ⟨rfl, rfl⟩
  · go_enter Tryz.func41, Tryz.ntmps41
    go_wp2
    go_ret
    exact ⟨ret_bool (by simp <;> omega), rfl⟩
theorem wrong_noU (x : Int) (w : World) (h1 : 1 ≤ x) (h2 : x ≤ 32) : Calls Tryz.prog 41 #[.int .i64 x] w fun e w' => e = .returned (.bool false) ∧ w = w' := by
  go_enter Tryz.func41, Tryz.ntmps41
  go_wp2
  go_ret
  exact ⟨ret_bool (by simp <;> omega), rfl⟩
theorem index_noneU (A : Option Addr) (n c : Nat) (z : Nat → Int) (w : World) (hn : n ≤ 1000000) (hr : Zs w A n z) (hz : ∀ i, i < n → 1 ≤ z i ∧ z i ≤ 32) :
    Calls Tryz.prog 57 #[.slice A n c, .func (.func 41) #[] #[]] w fun e w' => e = .returned (.int .i64 (-1)) ∧ w = w' := by
  have HZ := Lib.hid hz
  have HR := Lib.hid hr
  clear hz hr
  go_enter Tryz.func57, Tryz.ntmps57
  go_wp2_with fail
  go_loop [5, 8] (fun _ i => ∃ j : Nat, j ≤ n ∧ i = .int .i64 j) (fun _ i => n - (intOf i).toNat)
  case atStart => exact ⟨0, Nat.zero_le _, rfl⟩
  case round =>
    obtain ⟨j, hj, rfl⟩ := hrel
    by_cases hlt : j < n
    · obtain ⟨g, o, rfl, hcell⟩ := HR.out.at_ hlt
      have hz := HZ.out j hlt
      generalize z j = x at hcell hz
      obtain ⟨hz1, hz2⟩ := hz
      go_wp2_with (go_at_call 41; refine (wrong_noU _ _ hz1 hz2).mono ?_; rintro e w' ⟨rfl, rfl⟩)
      go_round
      case rel => exact ⟨j + 1, by omega, by go_num⟩
      case measure => simp [intOf]; omega
    · go_wp2
      go_ret
      exact ⟨rfl, rfl⟩
theorem index_someU (A : Option Addr) (n c p : Nat) (z : Nat → Int) (w : World) (hn : n ≤ 1000000) (hr : Zs w A n z) (hp : p < n) (hq : ∀ i, i < p → 1 ≤ z i ∧ z i ≤ 32) (hz : z p < 1 ∨ 32 < z p) :
    Calls Tryz.prog 57 #[.slice A n c, .func (.func 41) #[] #[]] w fun e w' => e = .returned (.int .i64 p) ∧ w = w' := by
  have HZ := Lib.hid hz
  have HQ := Lib.hid hq
  have HR := Lib.hid hr
  clear hz hq hr
  go_enter Tryz.func57, Tryz.ntmps57
  go_wp2_with fail
  go_loop [5, 8] (fun _ i => ∃ j : Nat, j ≤ p ∧ i = .int .i64 j) (fun _ i => n - (intOf i).toNat)
  case atStart => exact ⟨0, Nat.zero_le _, rfl⟩
  case round =>
    obtain ⟨j, hj, rfl⟩ := hrel
    have hlt : j < n := by omega
    obtain ⟨g, o, rfl, hcell⟩ := HR.out.at_ hlt
    by_cases e : j = p
    · have HX : Hid (z j < 1 ∨ 32 < z j) := Lib.hid (by rw [e]; exact HZ.out)
      have HE := Lib.hid e
      clear e
      generalize z j = x at hcell HX
      go_wp2_with (go_at_call 41; refine (wrong_yesU _ _ HX.out).mono ?_; rintro e w' ⟨rfl, rfl⟩)
      go_ret
      exact ⟨ret_int (by rw [HE.out]), rfl⟩
    · have hz := HQ.out j (by omega)
      have hjp : j + 1 ≤ p := by omega
      clear e
      generalize z j = x at hcell hz
      obtain ⟨hz1, hz2⟩ := hz
      go_wp2_with (go_at_call 41; refine (wrong_noU _ _ hz1 hz2).mono ?_; rintro e w' ⟨rfl, rfl⟩)
      go_round
      case rel => exact ⟨j + 1, by omega, by go_num⟩
      case measure => simp [intOf]; omega
theorem contains_noU (A : Option Addr) (n c : Nat) (z : Nat → Int) (w : World) (hn : n ≤ 1000000) (hr : Zs w A n z) (hz : ∀ i, i < n → 1 ≤ z i ∧ z i ≤ 32) :
    Calls Tryz.prog 40 #[.slice A n c, .func (.func 41) #[] #[]] w fun e w' => e = .returned (.bool false) ∧ w = w' := by
  have H := Lib.hid (index_noneU A n c z w hn hr hz)
  clear hr hz
  go_enter Tryz.func40, Tryz.ntmps40
  go_wp2_with (go_at_call 57; refine H.out.mono ?_; rintro e w' ⟨rfl, rfl⟩)
  go_ret
  exact ⟨rfl, rfl⟩
theorem contains_yesU (A : Option Addr) (n c p : Nat) (z : Nat → Int) (w : World) (hn : n ≤ 1000000) (hr : Zs w A n z) (hp : p < n) (hz : z p < 1 ∨ 32 < z p) :
    Calls Tryz.prog 40 #[.slice A n c, .func (.func 41) #[] #[]] w fun e w' => e = .returned (.bool true) ∧ w = w' := by
  have H : Hid (∃ q : Nat, Calls Tryz.prog 57 #[.slice A n c, .func (.func 41) #[] #[]] w fun e w' => e = .returned (.int .i64 q) ∧ w = w') := by
    rcases first_at (fun i => z i < 1 ∨ 32 < z i) n with h | ⟨q, h1, h2, h3⟩
    · exact absurd hz (h p hp)
    · exact Lib.hid ⟨q, index_someU A n c q z w hn hr h1 (fun i hi => by have := h2 i hi; omega) h3⟩
  clear hr hz
  obtain ⟨q, hq⟩ := H.out
  have HQ := Lib.hid hq
  clear hq H
  have h0 : 0 ≤ (q : Int) := by omega
  go_enter Tryz.func40, Tryz.ntmps40
  go_wp2_with (go_at_call 57; refine HQ.out.mono ?_; rintro e w' ⟨rfl, rfl⟩)
  go_ret
  exact ⟨ret_bool (by simp <;> omega), rfl⟩
theorem tpnew_arg (A : Option Addr) (n c p : Nat) (z : Nat → Int) (k o : Int) (w : World) (hr : Zs w A n z) (h8 : n ≤ 8) (h : Bad n p z) :
    Calls Tryz.prog 15 #[.slice A n c, .int .i64 k, .int .i64 o] w fun e w' => e = .returned (.tuple #[.pointer none, .int .i64 1]) ∧ Below w.heap.size w w' := by
  rcases h with h6 | ⟨h6, h1, h2, h3⟩
  · have i1 : (6 : Int) < (n : Int) := by omega
    go_enter Tryz.func15, Tryz.ntmps15
    go_wp2_with fail
    go_ret2
    exact ⟨rfl, Below.refl _ _⟩
  · have i1 : ¬ ((6 : Int) < (n : Int)) := by omega
    have HC := Lib.hid (contains_yesU A n c p z w (by omega) hr h1 h3)
    clear hr h2 h3
    go_enter Tryz.func15, Tryz.ntmps15
    go_wp2_with fail
    refine HC.out.mono ?_
    rintro e w' ⟨rfl, rfl⟩
    go_wp2_with fail
    go_ret2
    exact ⟨rfl, Below.refl _ _⟩
theorem tpnew_range (A : Option Addr) (n c : Nat) (l : List Nat) (k o : Int) (w : World) (hn : n = l.length) (h6 : l.length ≤ 6) (hr : Ints w A l) (hl : ∀ n ∈ l, 1 ≤ n ∧ n ≤ 32) (hx : ¬ InK o k) :
    Calls Tryz.prog 15 #[.slice A n c, .int .i64 k, .int .i64 o] w fun e w' => e = .returned (.tuple #[.pointer none, .int .i64 3]) ∧ Below w.heap.size w w' := by
  have i1 : ¬ ((6 : Int) < (n : Int)) := by omega
  have HC := Lib.hid (contains_noU A n c _ w (by omega) (by rw [hn]; exact hr.zs) (fun i hi => by have := hl _ (nth_mem (l := l) (i := i) (by omega)); omega))
  have HX := Lib.hid hx
  clear hn hr hl hx
  go_enter Tryz.func15, Tryz.ntmps15
  go_wp2_with fail
  refine HC.out.mono ?_
  rintro e w' ⟨rfl, rfl⟩
  go_wp2_with fail
  refine (in_refused _ _ _ HX.out).mono ?_
  rintro e w' ⟨rfl, rfl⟩
  go_wp2_with fail
  go_ret2
  exact ⟨rfl, Below.refl _ _⟩
theorem tpnew_ok (A : Option Addr) (n c : Nat) (l : List Nat) (k o : Int) (w : World) (hn : n = l.length) (h6 : l.length ≤ 6) (hr : Ints w A l) (hl : ∀ n ∈ l, 1 ≤ n ∧ n ≤ 32) (hx : InK o k) :
    Calls Tryz.prog 15 #[.slice A n c, .int .i64 k, .int .i64 o] w fun e w' => (∃ g b A' c', e = .returned (.tuple #[.pointer (some ⟨g, 0, none⟩), .int .i64 0]) ∧ TpAt w' g b A' c' 0 l k o (fun _ => o) ∧ w.heap.size ≤ g ∧ w.heap.size ≤ b) ∧ Below w.heap.size w w' := by
  have i1 : ¬ ((6 : Int) < (n : Int)) := by omega
  have HC := Lib.hid (contains_noU A n c _ w (by omega) (by rw [hn]; exact hr.zs) (fun i hi => by have := hl _ (nth_mem (l := l) (i := i) (by omega)); omega))
  have HK := Lib.hid (clone_any' A n c l w hn (by omega) hr)
  have HX := Lib.hid hx
  have HN := Lib.hid hn
  have hmm := @run_makeMap Tryz.prog
  clear hn hr hl hx
  go_enter Tryz.func15, Tryz.ntmps15
  go_wp2_with fail
  refine HC.out.mono ?_
  rintro e w' ⟨rfl, rfl⟩
  go_wp2_with fail
  refine (in_yes _ _ _ HX.out.1 HX.out.2.1 HX.out.2.2.1 HX.out.2.2.2).mono ?_
  rintro e w' ⟨rfl, rfl⟩
  go_wp2_with fail
  refine HK.out.mono ?_
  rintro e w1 ⟨⟨v, rfl, hO⟩, b1⟩
  obtain ⟨A', c', rfl, hI⟩ := hO.form
  have hcap := own_cap hO
  rw [← HN.out]
  have H1 := Lib.hid hI
  have B1 := Lib.hid b1
  clear hO hI b1
  go_wp2_with fail
  go_ret2
  have e := HN.out
  subst e
  have r := heap_alloc_new (w1.alloc (.map #[] 0)) (.cells #[.slice A' l.length c', .int .i64 k, .int .i64 o, .map (some w1.heap.size)] 76)
  rw [World.size_alloc] at r
  have n1 := new_val w1 (.map #[] 0)
  have n2 := new_val (w1.alloc (.map #[] 0)) (.cells #[.slice A' l.length c', .int .i64 k, .int .i64 o, .map (some w1.heap.size)] 76)
  have hs := B1.out.size
  exact ⟨⟨w1.heap.size + 1, w1.heap.size, A', c', rfl, ⟨r, (H1.out.below n1 (Nat.le_refl _)).below n2 (Nat.le_refl _), hcap, .map [], (World.ownsMap_made w1 _ _ _).kept (grown_of_below n2) (by simp), repF_empty l o⟩, by omega, hs⟩, then_ (then_ B1.out n1) n2⟩
end Go.Proofs.YtdmldnlgamnkeaaGreat

namespace Go.Proofs.YtdmldnlgamnkeaaGreat
open Go.RowKit
set_option linter.unusedVariables false
abbrev kyC (t : List Nat) : Array Value := #[szV t 0, szV t 1, szV t 2, szV t 3, szV t 4, szV t 5]
abbrev kyZ : Array Value := #[.int .i64 0, .int .i64 0, .int .i64 0, .int .i64 0, .int .i64 0, .int .i64 0]
theorem kyZ_eq : kyC [] = kyZ := rfl
theorem nth_take (t : List Nat) (j i : Nat) : nth (t.take j) i = if i < j then nth t i else 0 := by
  unfold nth
  simp only [List.getD_eq_getElem?_getD, List.getElem?_take]
  split <;> rfl
theorem kyC_set (t : List Nat) (j : Nat) (hj : j < 6) : (kyC (t.take j)).setIfInBounds j (szV t j) = kyC (t.take (j + 1)) := by
  simp only [kyC, szV, nth_take]
  rcases (by omega : j = 0 ∨ j = 1 ∨ j = 2 ∨ j = 3 ∨ j = 4 ∨ j = 5) with rfl | rfl | rfl | rfl | rfl | rfl <;> simp
theorem ky_one (t : List Nat) : (kyC t).all (·.oneCell') = true := by simp [Value.oneCell']
theorem results_ky {fn : Func} {p q : Tmp} (h : fn.results = #[.cell p 77, .tmp q]) (tmps : Array Value) (w : World) (g : Nat) (t : List Nat)
    (hp : tmps.getD p undef = .pointer (some ⟨g, 0, none⟩)) (hg : w.heap[g]? = some (.cells (kyC t) 77 (0, 0))) :
    (results fn tmps).run Tryz.prog w = .ok (.tuple #[keyV t, tmps.getD q undef]) w := by
  have c0 : w.cell? ⟨g, 0, none⟩ = some (szV t 0) := by rw [cell_of_row _ _ _ _ _ _ hg]; rfl
  have c1 : w.cell? ⟨g, 1, none⟩ = some (szV t 1) := by rw [cell_of_row _ _ _ _ _ _ hg]; rfl
  have c2 : w.cell? ⟨g, 2, none⟩ = some (szV t 2) := by rw [cell_of_row _ _ _ _ _ _ hg]; rfl
  have c3 : w.cell? ⟨g, 3, none⟩ = some (szV t 3) := by rw [cell_of_row _ _ _ _ _ _ hg]; rfl
  have c4 : w.cell? ⟨g, 4, none⟩ = some (szV t 4) := by rw [cell_of_row _ _ _ _ _ _ hg]; rfl
  have c5 : w.cell? ⟨g, 5, none⟩ = some (szV t 5) := by rw [cell_of_row _ _ _ _ _ _ hg]; rfl
  have hp' : tmps[p]?.getD undef = .pointer (some ⟨g, 0, none⟩) := by simpa using hp
  simp [results, h, hp', go_sem, c0, c1, c2, c3, c4, c5]
structure KeyI (w : World) (t : List Nat) (j : Nat) (W : World) : Prop where
  res : W.heap[w.heap.size]? = some (.cells (kyC []) 77 (0, 0))
  row : W.heap[w.heap.size + 1]? = some (.cells (kyC (t.take j)) 77 (0, 0))
  bel : Below w.heap.size w W
theorem KeyI.start (w : World) (t : List Nat) : KeyI w t 0 ((w.alloc (.cells (kyC []) 77)).alloc (.cells (kyC []) 77)) :=
  ⟨((new_val (w.alloc (.cells (kyC []) 77)) (.cells (kyC []) 77)).block _ (by simp)).trans (heap_alloc_new w _), alloc_two w _ _, then_ (new_val w _) (new_val _ _)⟩
theorem KeyI.store {w W : World} {t : List Nat} {j : Nat} (H : KeyI w t j W) (hj : j < 6) :
    W.cell? ⟨w.heap.size + 1, j, none⟩ = some (szV (t.take j) j) ∧ W.frozen? ⟨w.heap.size + 1, j, none⟩ = false ∧ KeyI w t (j + 1) (W.setCell ⟨w.heap.size + 1, j, none⟩ (szV t j)) := by
  refine ⟨?_, frozen_of_row W _ j _ 77 H.row, (heap_setCell_other W ⟨w.heap.size + 1, j, none⟩ w.heap.size _ (by show w.heap.size ≠ w.heap.size + 1; omega)).trans H.res, ?_, ?_⟩
  · rw [cell_of_row _ _ _ _ _ _ H.row]
    rcases (by omega : j = 0 ∨ j = 1 ∨ j = 2 ∨ j = 3 ∨ j = 4 ∨ j = 5) with rfl | rfl | rfl | rfl | rfl | rfl <;> rfl
  · rw [heap_setCell_same W (w.heap.size + 1) j _ 77 _ H.row, kyC_set t j hj]
  · exact H.bel.grown (row := some (w.heap.size + 1)) (World.grownBy.mk rfl rfl rfl (by simp) (fun k _ hk => heap_setCell_other W ⟨w.heap.size + 1, j, none⟩ k _ (fun e => hk (by simp [e])))) H.bel.size (fun b e => by injection e with e; omega)
theorem keyof_len (g b N c n cb : Nat) (A B : Option Addr) (l : List Nat) (k o : Int) (f : List Nat → Int) (w : World) (H : TpAt w g b A c N l k o f) (hn : n ≠ l.length) :
    Calls Tryz.prog 43 #[.pointer (some ⟨g, 0, none⟩), .slice B n cb] w fun e w' => e = .returned (.tuple #[keyV [], .bool false]) ∧ Below w.heap.size w w' := by
  have HT := Lib.hid (H.below (new_val w (.cells kyZ 77)))
  obtain ⟨c0, c1, c2, c3⟩ := HT.out.cells
  have d : ((n : Int) != (l.length : Int)) = true := by rw [bne_iff_ne]; omega
  clear H c1 c2 c3 hn
  go_enter Tryz.func43, Tryz.ntmps43
  go_wp2_with ((with_reducible show wpList _ _ _ (Oper.mk none (.store 77 _ _) _ _ _ _ :: _) _ _)
               refine wpList_store_row rfl 77 (.tmp 4) (.tmp 17) rfl w.heap.size kyZ rfl rfl 77 kyZ (heap_alloc_new _ _) (by kernel_rfl) rfl (ky_one []) ?_
               rw [World.setRow_alloc_new])
  exact bodyPost_ret (results_ky rfl _ _ w.heap.size [] rfl (heap_alloc_new _ _)) rfl ⟨rfl, new_val _ _⟩
set_option maxRecDepth 100000 in
set_option maxHeartbeats 4000000 in
theorem keyof_any (g b N c n cb : Nat) (A B : Option Addr) (l : List Nat) (z : Nat → Int) (k o : Int) (f : List Nat → Int) (w : World) (H : TpAt w g b A c N l k o f) (hn : n = l.length) (h6 : l.length ≤ 6) (hr : Zs w B n z) (q : Nat) (hq : q ≤ n) (t : List Nat) (ht : t.length = n) (hz : ∀ i, i < q → z i = (nth t i : Int) ∧ nth t i < nth l i) (hbad : q < n → z q < 0 ∨ (nth l q : Int) ≤ z q) :
    Calls Tryz.prog 43 #[.pointer (some ⟨g, 0, none⟩), .slice B n cb] w fun e w' => e = .returned (.tuple #[if q < n then keyV [] else keyV t, .bool (decide (q = n))]) ∧ Below w.heap.size w w' := by
  have n1 := new_val w (.cells kyZ 77)
  have HT := Lib.hid H
  have HR := Lib.hid hr
  have HZ := Lib.hid hz
  have HB := Lib.hid hbad
  have HTL := Lib.hid ht
  obtain ⟨c0, c1, c2, c3⟩ := (H.below n1).cells
  rw [← hn] at c0
  have HN := Lib.hid hn
  have hn6 : n ≤ 6 := by omega
  have dn : ((n : Int) != (n : Int)) = false := by simp
  clear H hr hz hbad ht c1 c2 c3 n1 h6
  go_enter Tryz.func43, Tryz.ntmps43
  go_wp2_with fail
  have K0 := KeyI.start w t
  go_loopw [7, 8, 20] (fun _ _ i wr => ∃ j : Nat, j ≤ q ∧ i = .int .i64 (j : Int) ∧ KeyI w t j wr) (fun _ _ i _ => n - (intOf i).toNat)
  case atStart => exact ⟨0, Nat.zero_le _, rfl, K0⟩
  case round =>
    obtain ⟨j, hj, rfl, hK⟩ := hrel
    have HK := Lib.hid hK
    clear hK
    obtain ⟨c0, c1, c2, c3⟩ := (HT.out.below HK.out.bel).cells
    rw [← HN.out] at c0
    clear c1 c2 c3
    by_cases hlt : j < n
    · obtain ⟨gz, oz, rfl, hcell⟩ := (HR.out.below HK.out.bel (Nat.le_refl _)).at_ hlt
      obtain ⟨gs, os, rfl, hsz⟩ := (HT.out.ints.below HK.out.bel (Nat.le_refl _)).at_ (i := j) (by rw [← HN.out]; exact hlt)
      have ji : (j : Int) < (n : Int) := by omega
      have j0 : (0 : Int) ≤ (j : Int) := by omega
      have j6 : (j : Int) < 6 := by omega
      by_cases hjq : j < q
      · obtain ⟨e1, e2⟩ := HZ.out j hjq
        obtain ⟨s1, s2, s3⟩ := HK.out.store (by omega : j < 6)
        have HS := Lib.hid s3
        rw [e1] at hcell
        simp only [szV] at s1 HS
        generalize nth t j = x at hcell e2 HS
        generalize nth l j = y at hsz e2
        generalize nth (t.take j) j = v at s1
        have x0 : ¬ ((x : Int) < 0) := by omega
        have x1 : ¬ ((y : Int) ≤ (x : Int)) := by omega
        clear s3 e1
        go_wp2_with fail
        go_roundw
        case rel => exact ⟨j + 1, by omega, by go_num, HS.out⟩
        case measure => simp [intOf]; omega
      · obtain rfl : j = q := by omega
        have hb := HB.out hlt
        generalize z j = x at hcell hb
        generalize nth l j = y at hsz hb
        rcases (by omega : x < 0 ∨ (0 ≤ x ∧ (y : Int) ≤ x)) with x0 | ⟨x0, x1⟩
        · clear hb
          go_wp2_with ((with_reducible show wpList _ _ _ (Oper.mk none (.store 77 _ _) _ _ _ _ :: _) _ _)
                       refine wpList_store_row rfl 77 (.tmp 4) (.tmp 38) rfl w.heap.size kyZ rfl rfl 77 (kyC []) HK.out.res (by kernel_rfl) rfl (ky_one []) ?_)
          exact bodyPost_ret (results_ky rfl _ _ w.heap.size [] rfl (setRow_heap _ _ _ _ _ _ HK.out.res)) rfl ⟨by rw [show decide (j = l.length) = false from decide_eq_false (by have := HN.out; omega)]; rfl, below_setRow HK.out.bel (Nat.le_refl _) _⟩
        · have x2 : ¬ (x < 0) := by omega
          clear hb
          go_wp2_with ((with_reducible show wpList _ _ _ (Oper.mk none (.store 77 _ _) _ _ _ _ :: _) _ _)
                       refine wpList_store_row rfl 77 (.tmp 4) (.tmp 38) rfl w.heap.size kyZ rfl rfl 77 (kyC []) HK.out.res (by kernel_rfl) rfl (ky_one []) ?_)
          exact bodyPost_ret (results_ky rfl _ _ w.heap.size [] rfl (setRow_heap _ _ _ _ _ _ HK.out.res)) rfl ⟨by rw [show decide (j = l.length) = false from decide_eq_false (by have := HN.out; omega)]; rfl, below_setRow HK.out.bel (Nat.le_refl _) _⟩
    · obtain rfl : j = q := by omega
      obtain rfl : j = n := by omega
      have ji : ¬ ((j : Int) < (j : Int)) := by omega
      have htk : t.take j = t := List.take_of_length_le (by rw [HTL.out]; omega)
      have hrow := HK.out.row
      rw [htk] at hrow
      have y0 : wr.cell? ⟨w.heap.size + 1, 0, none⟩ = some (szV t 0) := by rw [cell_of_row _ _ _ _ _ _ hrow]; rfl
      have y1 : wr.cell? ⟨w.heap.size + 1, 1, none⟩ = some (szV t 1) := by rw [cell_of_row _ _ _ _ _ _ hrow]; rfl
      have y2 : wr.cell? ⟨w.heap.size + 1, 2, none⟩ = some (szV t 2) := by rw [cell_of_row _ _ _ _ _ _ hrow]; rfl
      have y3 : wr.cell? ⟨w.heap.size + 1, 3, none⟩ = some (szV t 3) := by rw [cell_of_row _ _ _ _ _ _ hrow]; rfl
      have y4 : wr.cell? ⟨w.heap.size + 1, 4, none⟩ = some (szV t 4) := by rw [cell_of_row _ _ _ _ _ _ hrow]; rfl
      have y5 : wr.cell? ⟨w.heap.size + 1, 5, none⟩ = some (szV t 5) := by rw [cell_of_row _ _ _ _ _ _ hrow]; rfl
      clear hrow htk
      go_wp2_with ((with_reducible show wpList _ _ _ (Oper.mk none (.store 77 _ _) _ _ _ _ :: _) _ _)
                   refine wpList_store_row rfl 77 (.tmp 4) (.tmp 43) rfl w.heap.size (kyC t) rfl rfl 77 (kyC []) HK.out.res (by kernel_rfl) rfl (ky_one t) ?_)
      exact bodyPost_ret (results_ky rfl _ _ w.heap.size t rfl (setRow_heap _ _ _ _ _ _ HK.out.res)) rfl ⟨by first | rfl | (rw [if_neg (by omega), decide_eq_true rfl]; rfl), below_setRow HK.out.bel (Nat.le_refl _) _⟩
/-- What keyOf answers of a tuple that there is. -/
theorem keyof_ok (g b N c n cb : Nat) (A B : Option Addr) (l t : List Nat) (k o : Int) (f : List Nat → Int) (w : World) (H : TpAt w g b A c N l k o f) (hn : n = t.length) (h6 : l.length ≤ 6) (hr : Ints w B t) (hin : InL l t) :
    Calls Tryz.prog 43 #[.pointer (some ⟨g, 0, none⟩), .slice B n cb] w fun e w' => e = .returned (.tuple #[keyV t, .bool true]) ∧ Below w.heap.size w w' := by
  have hl := hin.length
  have h := keyof_any g b N c n cb A B l (fun i => (nth t i : Int)) k o f w H (by omega) h6 (by rw [hn]; exact hr.zs) n (Nat.le_refl _) t hn.symm (fun i hi => ⟨rfl, (inL_iff.1 hin).2 i (by omega)⟩) (fun h => absurd h (Nat.lt_irrefl _))
  rw [if_neg (Nat.lt_irrefl _), decide_eq_true rfl] at h
  exact h
/-- What it answers of what is none. -/
theorem keyof_no (g b N c n cb : Nat) (A B : Option Addr) (l : List Nat) (z : Nat → Int) (k o : Int) (f : List Nat → Int) (w : World) (H : TpAt w g b A c N l k o f) (h6 : l.length ≤ 6) (hr : Zs w B n z) (hno : n ≠ l.length ∨ (n = l.length ∧ ∃ q, q < n ∧ (∀ i, i < q → 0 ≤ z i ∧ z i < (nth l i : Int)) ∧ (z q < 0 ∨ (nth l q : Int) ≤ z q))) :
    Calls Tryz.prog 43 #[.pointer (some ⟨g, 0, none⟩), .slice B n cb] w fun e w' => e = .returned (.tuple #[keyV [], .bool false]) ∧ Below w.heap.size w w' := by
  rcases hno with h | ⟨hn, q, hq, h1, h2⟩
  · exact keyof_len g b N c n cb A B l k o f w H h
  · have h := keyof_any g b N c n cb A B l z k o f w H hn h6 hr q (by omega) ((List.range n).map fun i => (z i).toNat) (by simp) (fun i hi => by
      have := h1 i hi
      have e : nth ((List.range n).map fun i => (z i).toNat) i = (z i).toNat := by
        unfold nth
        rw [List.getD_eq_getElem?_getD, List.getElem?_map, List.getElem?_range (by omega)]
        rfl
      rw [e]
      omega) (fun _ => h2)
    rw [if_pos hq, decide_eq_false (by omega)] at h
    exact h
end Go.Proofs.YtdmldnlgamnkeaaGreat

namespace Go.Proofs.YtdmldnlgamnkeaaGreat
open Go.RowKit Go.Maps
set_option linter.unusedVariables false
/-- The list's block is not the map's. -/
theorem TpAt.list_apart {w : World} {g b : Nat} {A : Option Addr} {c N : Nat} {l : List Nat} {k o : Int} {f : List Nat → Int} (H : TpAt w g b A c N l k o f) (hl : l ≠ []) : ∀ a : Addr, A = some a → a.block ≠ b := by
  rintro a rfl rfl
  rcases H.ints with h | ⟨g', o', e, hlt, hc⟩
  · exact hl h
  · injection e with e
    subst e
    obtain ⟨D, ⟨es, clock, hm, _⟩, hr⟩ := H.map
    have := hc 0 (by rcases l with _ | ⟨x, l⟩; exact absurd rfl hl; simp)
    simp [World.cell?, hm] at this
theorem TpAt.map_cells {w : World} {g b : Nat} {A : Option Addr} {c N : Nat} {l : List Nat} {k o : Int} {f : List Nat → Int} (H : TpAt w g b A c N l k o f) {w' : World} {N' : Nat} {f' : List Nat → Int} (hg : w.grownBy w' (some b))
    (hm : ∃ D : DataW Unit, w'.ownsMap Tryz.prog 77 (plainElem Tryz.prog 2) b N' D ∧ RepF D l o f') : TpAt w' g b A c N' l k o f' :=
  ⟨(hg.block g (Array.getElem?_eq_some_iff.1 H.row).1 (fun e => H.apart (by injection e))).trans H.row, by
    by_cases hl : l = []
    · exact .inl hl
    · exact ints_grown H.ints hg (H.list_apart hl), H.cap, hm⟩
theorem ky_cells {w : World} {g : Nat} {t : List Nat} (h : w.heap[g]? = some (.cells (kyC t) 77 (0, 0))) :
    w.cell? ⟨g, 0, none⟩ = some (szV t 0) ∧ w.cell? ⟨g, 1, none⟩ = some (szV t 1) ∧ w.cell? ⟨g, 2, none⟩ = some (szV t 2) ∧ w.cell? ⟨g, 3, none⟩ = some (szV t 3) ∧ w.cell? ⟨g, 4, none⟩ = some (szV t 4) ∧ w.cell? ⟨g, 5, none⟩ = some (szV t 5) := by
  refine ⟨?_, ?_, ?_, ?_, ?_, ?_⟩ <;> (rw [cell_of_row _ _ _ _ _ _ h]; rfl)
/-- A look-up of a tuple. -/
theorem TpAt.look {w : World} {g b : Nat} {A : Option Addr} {c N : Nat} {l t : List Nat} {k o : Int} {f : List Nat → Int} (H : TpAt w g b A c N l k o f) (h32 : ∀ n ∈ l, n ≤ 32) (hin : InL l t) :
    (Instr.lookup 74 (.map (some b)) (keyV t) true).run Tryz.prog w = .ok (.tuple #[.int .i64 (if f t = o then 0 else f t), .bool (decide (f t ≠ o))]) w := by
  obtain ⟨D, hown, hrep⟩ := H.map
  obtain ⟨v, ps, hrun, hv⟩ := hown.look_ok keyed Tryz.underlying74 (zeroI64 w) (plainElem_int Tryz.underlying2 (by decide)) (keyOf_key (hin.small h32))
  obtain ⟨q, rfl, hc, hwc⟩ := plainElem_int_inv Tryz.underlying2 hv
  simp only [Prod.mk.injEq] at hc
  rw [hrun, (hrep.1 t hin).1]
  by_cases e : f t = o
  · have hh : Maps.has D (keyL t) = false := by rw [(hrep.1 t hin).1]; simp [e]
    have := hc.1
    rw [atKey_of_not_has hh] at this
    rw [if_pos e, ← (Lit.int.inj (DataW.lit.inj this)).2]
  · have := hc.1
    rw [(hrep.1 t hin).2 e] at this
    rw [if_neg e, (Lit.int.inj (DataW.lit.inj this)).2]
abbrev HoldCo (wb : World) (g b B1 : Nat) (t : List Nat) (x : Int) (r : Bool) (W : World) : Prop :=
  W.cell? ⟨g, 3, none⟩ = some (.map (some b)) ∧ W.cell? ⟨B1, 0, none⟩ = some (szV t 0) ∧ W.cell? ⟨B1, 1, none⟩ = some (szV t 1) ∧ W.cell? ⟨B1, 2, none⟩ = some (szV t 2) ∧ W.cell? ⟨B1, 3, none⟩ = some (szV t 3) ∧ W.cell? ⟨B1, 4, none⟩ = some (szV t 4) ∧ W.cell? ⟨B1, 5, none⟩ = some (szV t 5) ∧
  (Instr.lookup 74 (.map (some b)) (.agg #[.int .i64 (nth t 0 : Int), .int .i64 (nth t 1 : Int), .int .i64 (nth t 2 : Int), .int .i64 (nth t 3 : Int), .int .i64 (nth t 4 : Int), .int .i64 (nth t 5 : Int)]) true).run Tryz.prog W = .ok (.tuple #[.int .i64 x, .bool r]) W ∧ Below wb.heap.size wb W
set_option maxRecDepth 100000 in
set_option maxHeartbeats 4000000 in
theorem tpcost_ok (g b N c : Nat) (A : Option Addr) (l t : List Nat) (k o : Int) (f : List Nat → Int) (w : World) (H : TpAt w g b A c N l k o f) (h32 : ∀ n ∈ l, n ≤ 32) (hin : InL l t) :
    Calls Tryz.prog 56 #[.pointer (some ⟨g, 0, none⟩), keyV t] w fun e w' => e = .returned (.int .i64 (f t)) ∧ Below w.heap.size w w' := by
  have nb := new_val w (.cells (kyC t) 77)
  have B1 := Lib.hid nb
  have HT := Lib.hid (H.below nb)
  obtain ⟨y0, y1, y2, y3, y4, y5⟩ := ky_cells (heap_alloc_new w (.cells (kyC t) 77))
  have HY := Lib.hid (And.intro y0 (And.intro y1 (And.intro y2 (And.intro y3 (And.intro y4 y5)))))
  have HL : Hid (∀ W, TpAt W g b A c N l k o f → (Instr.lookup 74 (.map (some b)) (keyV t) true).run Tryz.prog W = .ok (.tuple #[.int .i64 (if f t = o then 0 else f t), .bool (decide (f t ≠ o))]) W) := Lib.hid fun W h => h.look h32 hin
  clear H nb hin h32 y0 y1 y2 y3 y4 y5
  obtain ⟨x, hx⟩ : ∃ x, f t = x := ⟨_, rfl⟩
  rw [hx] at HL ⊢
  clear hx
  go_enter Tryz.func56, Tryz.ntmps56
  go_upto_region 1 with fail
  generalize w.alloc (.cells (kyC t) 77) = w1 at *
  by_cases hf : x = o
  · subst hf
    have HH : Hid (HoldCo w1 g b w.heap.size t 0 false w1.drew) := by
      have h2 := HT.out.below ((Below.refl _ _).drew)
      have hl := HL.out _ h2
      rw [if_pos rfl, show decide (x ≠ x) = false from decide_eq_false (by simp)] at hl
      obtain ⟨y0, y1, y2, y3, y4, y5⟩ := HY.out
      exact Lib.hid ⟨h2.cells.2.2.2, y0, y1, y2, y3, y4, y5, hl, (Below.refl _ _).drew⟩
    go_region_held3 (fun W => HoldCo w1 g b w.heap.size t 0 false W) (exact HH.out) (fail)
    have c2 : w1.drew.cell? ⟨g, 2, none⟩ = some (.int .i64 x) := (HT.out.below ((Below.refl _ _).drew)).cells.2.2.1
    go_wp2_with fail
    go_ret
    exact ⟨rfl, B1.out.drew⟩
  · have HH : Hid (HoldCo w1 g b w.heap.size t x true w1.drew) := by
      have h2 := HT.out.below ((Below.refl _ _).drew)
      have hl := HL.out _ h2
      rw [if_neg hf, show decide (x ≠ o) = true from decide_eq_true hf] at hl
      obtain ⟨y0, y1, y2, y3, y4, y5⟩ := HY.out
      exact Lib.hid ⟨h2.cells.2.2.2, y0, y1, y2, y3, y4, y5, hl, (Below.refl _ _).drew⟩
    go_region_held3 (fun W => HoldCo w1 g b w.heap.size t x true W) (exact HH.out) (fail)
    go_wp2_with fail
    go_ret
    exact ⟨rfl, B1.out.drew⟩
end Go.Proofs.YtdmldnlgamnkeaaGreat

namespace Go.Proofs.YtdmldnlgamnkeaaGreat
open Go.RowKit Go.Maps
set_option linter.unusedVariables false
theorem tpget_ok (g b N c n cb : Nat) (A B : Option Addr) (l t : List Nat) (k o : Int) (f : List Nat → Int) (w : World) (H : TpAt w g b A c N l k o f) (hn : n = t.length) (h6 : l.length ≤ 6) (h32 : ∀ n ∈ l, n ≤ 32) (hr : Ints w B t) (hin : InL l t) :
    Calls Tryz.prog 37 #[.pointer (some ⟨g, 0, none⟩), .slice B n cb] w fun e w' => e = .returned (.tuple #[.int .i64 (f t), .int .i64 0]) ∧ Below w.heap.size w w' := by
  have HK := Lib.hid (keyof_ok g b N c n cb A B l t k o f w H hn h6 hr hin)
  have HT := Lib.hid H
  have HC : Hid (∀ W, TpAt W g b A c N l k o f → Calls Tryz.prog 56 #[.pointer (some ⟨g, 0, none⟩), keyV t] W fun e w' => e = .returned (.int .i64 (f t)) ∧ Below W.heap.size W w') := Lib.hid fun W h => tpcost_ok g b N c A l t k o f W h h32 hin
  clear H hr hin h32 hn
  generalize f t = x at HC ⊢
  go_enter Tryz.func37, Tryz.ntmps37
  go_wp2_with fail
  refine HK.out.mono ?_
  rintro e w1 ⟨rfl, b1⟩
  have B1 := Lib.hid b1
  clear b1
  go_upto_region 4 with ((with_reducible show wpList _ _ _ (Oper.mk none (.store 77 _ _) _ _ _ _ :: _) _ _); refine wpList_store_row rfl 77 (.tmp 6) (.tmp 14) rfl w1.heap.size (kyC t) rfl rfl 77 kyZ (heap_alloc_new _ _) (by kernel_rfl) rfl (ky_one t) ?_; rw [World.setRow_alloc_new])
  have nb := new_val w1 (.cells (kyC t) 77)
  have T2 := Lib.hid ((HT.out.below B1.out).below nb)
  have B2 := Lib.hid (then_ B1.out nb)
  obtain ⟨y0, y1, y2, y3, y4, y5⟩ := ky_cells (heap_alloc_new w1 (.cells (kyC t) 77))
  clear nb
  generalize w1.alloc (.cells (kyC t) 77) = w2 at *
  go_wp2_with fail
  refine (HC.out w2 T2.out).mono ?_
  rintro e w3 ⟨rfl, b3⟩
  have B3 := Lib.hid (then_ B2.out b3)
  clear b3
  go_wp2_with fail
  go_ret2
  exact ⟨rfl, B3.out⟩
theorem tpget_no (g b N c n cb : Nat) (A B : Option Addr) (l : List Nat) (z : Nat → Int) (k o : Int) (f : List Nat → Int) (w : World) (H : TpAt w g b A c N l k o f) (h6 : l.length ≤ 6) (hr : Zs w B n z) (hno : n ≠ l.length ∨ (n = l.length ∧ ∃ q, q < n ∧ (∀ i, i < q → 0 ≤ z i ∧ z i < (nth l i : Int)) ∧ (z q < 0 ∨ (nth l q : Int) ≤ z q))) :
    Calls Tryz.prog 37 #[.pointer (some ⟨g, 0, none⟩), .slice B n cb] w fun e w' => e = .returned (.tuple #[.int .i64 0, .int .i64 3]) ∧ Below w.heap.size w w' := by
  have HK := Lib.hid (keyof_no g b N c n cb A B l z k o f w H h6 hr hno)
  clear H hr hno
  go_enter Tryz.func37, Tryz.ntmps37
  go_wp2_with fail
  refine HK.out.mono ?_
  rintro e w1 ⟨rfl, b1⟩
  have B1 := Lib.hid b1
  clear b1
  go_wp2_with ((with_reducible show wpList _ _ _ (Oper.mk none (.store 77 _ _) _ _ _ _ :: _) _ _); refine wpList_store_row rfl 77 (.tmp 6) (.tmp 14) rfl w1.heap.size kyZ rfl rfl 77 kyZ (heap_alloc_new _ _) (by kernel_rfl) rfl (ky_one []) ?_; rw [World.setRow_alloc_new])
  go_ret2
  exact ⟨rfl, then_ B1.out (new_val _ _)⟩
theorem tpput_no (g b N c n cb : Nat) (A B : Option Addr) (l : List Nat) (z : Nat → Int) (k o x : Int) (f : List Nat → Int) (w : World) (H : TpAt w g b A c N l k o f) (h6 : l.length ≤ 6) (hr : Zs w B n z) (hno : n ≠ l.length ∨ (n = l.length ∧ ∃ q, q < n ∧ (∀ i, i < q → 0 ≤ z i ∧ z i < (nth l i : Int)) ∧ (z q < 0 ∨ (nth l q : Int) ≤ z q))) :
    Calls Tryz.prog 16 #[.pointer (some ⟨g, 0, none⟩), .slice B n cb, .int .i64 x] w fun e w' => e = .returned (.int .i64 3) ∧ Below w.heap.size w w' := by
  have HK := Lib.hid (keyof_no g b N c n cb A B l z k o f w H h6 hr hno)
  clear H hr hno
  go_enter Tryz.func16, Tryz.ntmps16
  go_wp2_with fail
  refine HK.out.mono ?_
  rintro e w1 ⟨rfl, b1⟩
  have B1 := Lib.hid b1
  clear b1
  go_wp2_with ((with_reducible show wpList _ _ _ (Oper.mk none (.store 77 _ _) _ _ _ _ :: _) _ _); refine wpList_store_row rfl 77 (.tmp 7) (.tmp 15) rfl w1.heap.size kyZ rfl rfl 77 kyZ (heap_alloc_new _ _) (by kernel_rfl) rfl (ky_one []) ?_; rw [World.setRow_alloc_new])
  go_ret
  exact ⟨rfl, then_ B1.out (new_val _ _)⟩
theorem tpput_cost (g b N c n cb : Nat) (A B : Option Addr) (l t : List Nat) (k o x : Int) (f : List Nat → Int) (w : World) (H : TpAt w g b A c N l k o f) (hn : n = t.length) (h6 : l.length ≤ 6) (hr : Ints w B t) (hin : InL l t) (hx : ¬ InK x k) :
    Calls Tryz.prog 16 #[.pointer (some ⟨g, 0, none⟩), .slice B n cb, .int .i64 x] w fun e w' => e = .returned (.int .i64 3) ∧ Below w.heap.size w w' := by
  have HK := Lib.hid (keyof_ok g b N c n cb A B l t k o f w H hn h6 hr hin)
  have HT := Lib.hid H
  have HX := Lib.hid hx
  clear H hr hin hn hx
  go_enter Tryz.func16, Tryz.ntmps16
  go_wp2_with fail
  refine HK.out.mono ?_
  rintro e w1 ⟨rfl, b1⟩
  have B1 := Lib.hid b1
  clear b1
  go_upto_region 4 with ((with_reducible show wpList _ _ _ (Oper.mk none (.store 77 _ _) _ _ _ _ :: _) _ _); refine wpList_store_row rfl 77 (.tmp 7) (.tmp 15) rfl w1.heap.size (kyC t) rfl rfl 77 kyZ (heap_alloc_new _ _) (by kernel_rfl) rfl (ky_one t) ?_; rw [World.setRow_alloc_new])
  have nb := new_val w1 (.cells (kyC t) 77)
  have T2 := Lib.hid ((HT.out.below B1.out).below nb)
  have B2 := Lib.hid (then_ B1.out nb)
  clear nb
  generalize w1.alloc (.cells (kyC t) 77) = w2 at T2 B2 ⊢
  obtain ⟨c0, c1, c2, c3⟩ := T2.out.cells
  clear c0 c2 c3
  go_wp2_with (go_at_call 21; refine (in_refused _ _ _ HX.out).mono ?_; rintro e w' ⟨rfl, rfl⟩)
  go_ret
  exact ⟨rfl, B2.out⟩
theorem grown_after {w w2 w3 : World} {row : Option Nat} (B : Below w.heap.size w w2) (g : w2.grownBy w3 row) : w.grownBy w3 row :=
  ⟨g.os.trans B.os, g.tape.trans B.tape, g.output.trans B.output, Nat.le_trans B.size g.size, fun i hi hne => (g.block i (Nat.lt_of_lt_of_le hi B.size) hne).trans (B.block i hi)⟩
set_option maxRecDepth 100000 in
set_option maxHeartbeats 4000000 in
theorem tpput_ok (g b N c n cb : Nat) (A B : Option Addr) (l t : List Nat) (k o x : Int) (f : List Nat → Int) (w : World) (H : TpAt w g b A c N l k o f) (hn : n = t.length) (h6 : l.length ≤ 6) (h32 : ∀ n ∈ l, n ≤ 32) (hr : Ints w B t) (hin : InL l t) (hx : InK x k) (hN : N ≤ 1000000) :
    Calls Tryz.prog 16 #[.pointer (some ⟨g, 0, none⟩), .slice B n cb, .int .i64 x] w fun e w' => e = .returned (.int .i64 0) ∧ TpAt w' g b A c (N + 1) l k o (updF f t x) ∧ w.grownBy w' (some b) := by
  have HKF := Lib.hid (keyof_ok g b N c n cb A B l t k o f w H hn h6 hr hin)
  have HT := Lib.hid H
  have HX := Lib.hid hx
  have HI := Lib.hid hin
  have H32 := Lib.hid h32
  have HK := Lib.hid (keyOf_key (hin.small h32))
  clear H hr hin hn hx h32
  go_enter Tryz.func16, Tryz.ntmps16
  go_wp2_with fail
  refine HKF.out.mono ?_
  rintro e w1 ⟨rfl, b1⟩
  have B1 := Lib.hid b1
  clear b1
  go_upto_region 4 with ((with_reducible show wpList _ _ _ (Oper.mk none (.store 77 _ _) _ _ _ _ :: _) _ _); refine wpList_store_row rfl 77 (.tmp 7) (.tmp 15) rfl w1.heap.size (kyC t) rfl rfl 77 kyZ (heap_alloc_new _ _) (by kernel_rfl) rfl (ky_one t) ?_; rw [World.setRow_alloc_new])
  have nb := new_val w1 (.cells (kyC t) 77)
  have T2 := Lib.hid ((HT.out.below B1.out).below nb)
  have B2 := Lib.hid (then_ B1.out nb)
  have HY := Lib.hid (ky_cells (heap_alloc_new w1 (.cells (kyC t) 77)))
  clear nb
  generalize w1.alloc (.cells (kyC t) 77) = w2 at *
  generalize w1.heap.size = B7 at *
  obtain ⟨c0, c1, c2, c3⟩ := T2.out.cells
  clear c0
  by_cases e : x = o
  · subst e
    go_upto_region 7 with (go_at_call 21; refine (in_yes _ _ _ HX.out.1 HX.out.2.1 HX.out.2.2.1 HX.out.2.2.2).mono ?_; rintro e w' ⟨rfl, rfl⟩)
    obtain ⟨y0, y1, y2, y3, y4, y5⟩ := HY.out
    obtain ⟨D, hown, hrep⟩ := T2.out.map
    have HO := Lib.hid hown.drew
    have HR := Lib.hid hrep
    clear hown hrep c1 c2
    go_still_tail 5, (by kernel_rfl)
    change wpList _ _ _ _ _ w2.drew
    have B3 := Lib.hid B2.out.drew
    have T3 := Lib.hid (T2.out.below ((Below.refl _ _).drew))
    clear c3 y0 y1 y2 y3 y4 y5
    generalize w2.drew = w3 at HO B3 T3 ⊢
    go_wp2_with (at_delete; refine wpList_delete_own _ rfl _ _ 74 77 rfl 2 keyed Tryz.underlying74 _ b N D rfl HO.out _ _ rfl HK.out ?_; intro w4 hown1 hturn1; have HO1 := Lib.hid hown1; have HG1 := Lib.hid hturn1.grown; clear hown1 hturn1)
    go_ret
    exact ⟨rfl, T3.out.map_cells HG1.out ⟨_, HO1.out.mono (Nat.le_succ _), HR.out.del HO.out.isMap h6 H32.out HI.out⟩, grown_after B3.out HG1.out⟩
  · have d : (x == o) = false := by rw [beq_eq_false_iff_ne]; exact e
    have HE := Lib.hid e
    clear e
    go_upto_region 8 with (go_at_call 21; refine (in_yes _ _ _ HX.out.1 HX.out.2.1 HX.out.2.2.1 HX.out.2.2.2).mono ?_; rintro e w' ⟨rfl, rfl⟩)
    obtain ⟨y0, y1, y2, y3, y4, y5⟩ := HY.out
    obtain ⟨D, hown, hrep⟩ := T2.out.map
    have HO := Lib.hid hown.drew
    have HR := Lib.hid hrep
    clear hown hrep c1 c2
    go_still_tail 6, (by kernel_rfl)
    change wpList _ _ _ _ _ w2.drew
    have B3 := Lib.hid B2.out.drew
    have T3 := Lib.hid (T2.out.below ((Below.refl _ _).drew))
    clear c3 y0 y1 y2 y3 y4 y5
    generalize w2.drew = w3 at HO B3 T3 ⊢
    have WF : (Lit.int .i64 x).wf = true := WalkArith.wf_i64 (by have := HX.out; unfold InK at this; omega)
    go_wp2_with (at_mapUpdate; refine wpList_mapUpdate_own _ rfl _ _ _ 74 rfl 77 2 keyed Tryz.underlying74 _ b N _ rfl HO.out (by unfold maxLen; omega) _ _ _ rfl rfl HK.out _ [] (plainElem_int Tryz.underlying2 WF) ?_; intro w4 hown1 hgrow1; have HO1 := Lib.hid hown1; have HG1 := Lib.hid hgrow1; clear hown1 hgrow1)
    go_ret
    exact ⟨rfl, T3.out.map_cells HG1.out ⟨_, HO1.out, HR.out.put HO.out.isMap h6 H32.out HI.out HE.out⟩, grown_after B3.out HG1.out⟩
end Go.Proofs.YtdmldnlgamnkeaaGreat
