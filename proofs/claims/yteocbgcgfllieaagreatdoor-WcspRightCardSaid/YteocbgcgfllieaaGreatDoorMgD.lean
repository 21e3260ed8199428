/- Texts of this seat laid together (no statement of its own). -/
import Derived.Test.YteocbgcgfllieaaGreatDoorRows
import Derived.Test.YteocbgcgfllieaaGreatDoorMgA
import Derived.WalkKit
import Derived.WalkLawsBesides
import Derived.Lib.Hide
import Derived.Handy
import Derived.IntWalk
import Derived.BigQuiet
import Derived.Deep.QuietTactic
import Derived.Deep.RegionWith
import Derived.Laws.CopyOwn
import Derived.Deep.CutRange
import Derived.OwnWalk
import Derived.Laws.StructEq
import Derived.Lib.SliceRun
import Derived.RangeFuncBox
import Derived.RangeFuncLeaves
import Derived.RangeFuncCalls
import Derived.Shelf.Abstract
import Derived.OwnWalkIn
import Derived.TacticsInMore
import Derived.LoopNIn
import Derived.LoopIn
import Derived.RangeFuncWrites
import Derived.Deep.RegionHeld3
import Derived.Test.YteocbgcgfllieaaGreatDoorMgC
namespace Go.Proofs.YteocbgcgfllieaaGreatDoor
open Go.RowKit
set_option linter.unusedVariables false
theorem ret_bool {a b : Bool} (h : a = b) : Ending.returned (.bool a) = .returned (.bool b) := by rw [h]
theorem ret_int {t : IntKind} {a b : Int} (h : a = b) : Ending.returned (.int t a) = .returned (.int t b) := by rw [h]
theorem old_cells {W w1 : World} (hb : Below W.heap.size W w1) : (∀ b o, b < W.heap.size → w1.cell? ⟨b, o, none⟩ = W.cell? ⟨b, o, none⟩) ∧ (∀ b o, b < W.heap.size → w1.frozen? ⟨b, o, none⟩ = W.frozen? ⟨b, o, none⟩) :=
  ⟨fun b o h => hb.cell (p := ⟨b, o, none⟩) h, fun b o h => hb.frozen (p := ⟨b, o, none⟩) h⟩
/-- A size of a shape, as a cell. -/
abbrev szV (l : List Nat) (i : Nat) : Value := .int .i64 (nth l i : Int)
abbrev shC (l : List Nat) : Array Value := #[.int .i64 (l.length : Int), szV l 0, szV l 1, szV l 2, szV l 3, szV l 4, szV l 5]
/-- A shape of these sizes. -/
abbrev shV (l : List Nat) : Value := .agg (shC l)
/-- A slice that begins at A holds the numbers l. -/
def Ints (w : World) (A : Option Addr) (l : List Nat) : Prop :=
  l = [] ∨ ∃ g o, A = some ⟨g, o, none⟩ ∧ g < w.heap.size ∧ ∀ i, i < l.length → w.cell? ⟨g, o + i, none⟩ = some (.int .i64 (nth l i : Int))
theorem Ints.below {w w' : World} {A : Option Addr} {l : List Nat} {B : Nat} (h : Ints w A l) (hb : Below B w w') (hB : w.heap.size ≤ B) : Ints w' A l := by
  rcases h with rfl | ⟨g, o, rfl, hg, hc⟩
  · exact .inl rfl
  · exact .inr ⟨g, o, rfl, by have := hb.size; omega, fun i hi => (hb.cell (p := ⟨g, o + i, none⟩) (by show g < B; omega)).trans (hc i hi)⟩
theorem Ints.at_ {w : World} {A : Option Addr} {l : List Nat} (h : Ints w A l) {i : Nat} (hi : i < l.length) : ∃ g o, A = some ⟨g, o, none⟩ ∧ w.cell? ⟨g, o + i, none⟩ = some (.int .i64 (nth l i : Int)) := by
  rcases h with rfl | ⟨g, o, rfl, hg, hc⟩
  · exact absurd hi (by simp)
  · exact ⟨g, o, rfl, hc i hi⟩
end Go.Proofs.YteocbgcgfllieaaGreatDoor

namespace Go.Proofs.YteocbgcgfllieaaGreatDoor
open Go.RowKit
set_option linter.unusedVariables false
theorem Ints.drop {w : World} {g o : Nat} {l : List Nat} (h : Ints w (some ⟨g, o, none⟩) l) (k : Nat) : Ints w (some ⟨g, o + k, none⟩) (l.drop k) := by
  rcases h with rfl | ⟨g', o', e, hg, hc⟩
  · exact .inl (by simp)
  · injection e with e
    injection e with e1 e2
    subst e1 e2
    exact .inr ⟨_, _, rfl, hg, fun i hi => by rw [nth_drop, Nat.add_assoc]; exact hc (k + i) (by simp at hi; omega)⟩
end Go.Proofs.YteocbgcgfllieaaGreatDoor

namespace Go.Proofs.YteocbgcgfllieaaGreatDoor
open Go.RowKit
set_option linter.unusedVariables false
/-- A slice that begins at A holds the integers z of the first n places. -/
def Zs (w : World) (A : Option Addr) (n : Nat) (z : Nat → Int) : Prop :=
  n = 0 ∨ ∃ g o, A = some ⟨g, o, none⟩ ∧ g < w.heap.size ∧ ∀ i, i < n → w.cell? ⟨g, o + i, none⟩ = some (.int .i64 (z i))
theorem Zs.below {w w' : World} {A : Option Addr} {n : Nat} {z : Nat → Int} {B : Nat} (h : Zs w A n z) (hb : Below B w w') (hB : w.heap.size ≤ B) : Zs w' A n z := by
  rcases h with rfl | ⟨g, o, rfl, hg, hc⟩
  · exact .inl rfl
  · exact .inr ⟨g, o, rfl, by have := hb.size; omega, fun i hi => (hb.cell (p := ⟨g, o + i, none⟩) (by show g < B; omega)).trans (hc i hi)⟩
theorem Zs.at_ {w : World} {A : Option Addr} {n : Nat} {z : Nat → Int} (h : Zs w A n z) {i : Nat} (hi : i < n) : ∃ g o, A = some ⟨g, o, none⟩ ∧ w.cell? ⟨g, o + i, none⟩ = some (.int .i64 (z i)) := by
  rcases h with rfl | ⟨g, o, rfl, hg, hc⟩
  · exact absurd hi (by simp)
  · exact ⟨g, o, rfl, hc i hi⟩
theorem Ints.zs {w : World} {A : Option Addr} {l : List Nat} (h : Ints w A l) : Zs w A l.length (fun i => (nth l i : Int)) := by
  rcases h with rfl | ⟨g, o, rfl, hg, hc⟩
  · exact .inl rfl
  · exact .inr ⟨g, o, rfl, hg, hc⟩
theorem first_at (q : Nat → Prop) (m : Nat) : (∀ i, i < m → ¬ q i) ∨ ∃ p, p < m ∧ (∀ i, i < p → ¬ q i) ∧ q p := by
  induction m with
  | zero => exact .inl fun i hi => absurd hi (by omega)
  | succ m ih =>
    rcases ih with h | ⟨p, hp, h1, h2⟩
    · by_cases hb : q m
      · exact .inr ⟨m, by omega, h, hb⟩
      · refine .inl fun i hi => ?_
        by_cases e : i = m
        · subst e; exact hb
        · exact h i (by omega)
    · exact .inr ⟨p, by omega, h1, h2⟩
end Go.Proofs.YteocbgcgfllieaaGreatDoor

namespace Go.Proofs.YteocbgcgfllieaaGreatDoor
open Go.RowKit
set_option linter.unusedVariables false
/-- The shape of no sizes. -/
abbrev shZ : Value := .agg #[.int .i64 0, .int .i64 0, .int .i64 0, .int .i64 0, .int .i64 0, .int .i64 0, .int .i64 0]
theorem shZ_eq : shV [] = shZ := rfl
abbrev intC (l : List Nat) : List Value := l.map fun x : Nat => Value.int .i64 (x : Int)
theorem nth_cons (a : Nat) (l : List Nat) (i : Nat) : nth (a :: l) (i + 1) = nth l i := rfl
theorem sh_splice (l : List Nat) (h : l.length ≤ 6) (n : Int) (hn : n = l.length) : splice [.int .i64 n, .int .i64 0, .int .i64 0, .int .i64 0, .int .i64 0, .int .i64 0, .int .i64 0] 1 (intC l) = (shC l).toList := by
  subst hn
  rcases l with _ | ⟨a, _ | ⟨b, _ | ⟨c, _ | ⟨d, _ | ⟨e, _ | ⟨f, _ | ⟨g, r⟩⟩⟩⟩⟩⟩⟩
  all_goals first | rfl | (exfalso; simp at h; done) | (exfalso; simp at h; omega)
theorem intC_get {l : List Nat} {j : Nat} {v : Value} (h : (intC l)[j]? = some v) : j < l.length ∧ v = .int .i64 (nth l j : Int) := by
  simp only [intC, List.getElem?_map, Option.map_eq_some_iff] at h
  obtain ⟨x, hx, rfl⟩ := h
  have hj : j < l.length := (List.getElem?_eq_some_iff.1 hx).1
  refine ⟨hj, ?_⟩
  unfold nth
  rw [List.getD_eq_getElem?_getD, hx]
  rfl
theorem intC_one (l : List Nat) : ∀ v ∈ intC l, v.oneCell' = true := by
  intro v hv
  simp only [intC, List.mem_map] at hv
  obtain ⟨x, _, rfl⟩ := hv
  rfl
theorem Ints.src {w : World} {A : Option Addr} {l : List Nat} (h : Ints w A l) (h0 : 0 < (intC l).length) : ∃ ad, A = some ad ∧ ∀ j v, (intC l)[j]? = some v → w.cell? (ad.add j) = some v := by
  rcases h with rfl | ⟨g, o, rfl, hg, hc⟩
  · exact absurd h0 (by simp [intC])
  · refine ⟨_, rfl, fun j v hv => ?_⟩
    obtain ⟨hj, rfl⟩ := intC_get hv
    have e : (⟨g, o, none⟩ : Addr).add j = ⟨g, o + j, none⟩ := by
      unfold Addr.add
      split
      · rename_i h; subst h; rfl
      · rfl
    rw [e]
    exact hc j hj
/-- A shape lies in block g. -/
structure ShAt (w : World) (g : Nat) (l : List Nat) : Prop where
  c0 : w.cell? ⟨g, 0, none⟩ = some (.int .i64 (l.length : Int))
  c1 : w.cell? ⟨g, 1, none⟩ = some (szV l 0)
  c2 : w.cell? ⟨g, 2, none⟩ = some (szV l 1)
  c3 : w.cell? ⟨g, 3, none⟩ = some (szV l 2)
  c4 : w.cell? ⟨g, 4, none⟩ = some (szV l 3)
  c5 : w.cell? ⟨g, 5, none⟩ = some (szV l 4)
  c6 : w.cell? ⟨g, 6, none⟩ = some (szV l 5)
  lt : g < w.heap.size
  fz : ∀ i, w.frozen? ⟨g, i, none⟩ = false
theorem ShAt.below {w w' : World} {g B : Nat} {l : List Nat} (h : ShAt w g l) (hb : Below B w w') (hB : g < B) : ShAt w' g l :=
  ⟨(hb.cell (p := ⟨g, 0, none⟩) hB).trans h.c0, (hb.cell (p := ⟨g, 1, none⟩) hB).trans h.c1, (hb.cell (p := ⟨g, 2, none⟩) hB).trans h.c2, (hb.cell (p := ⟨g, 3, none⟩) hB).trans h.c3,
    (hb.cell (p := ⟨g, 4, none⟩) hB).trans h.c4, (hb.cell (p := ⟨g, 5, none⟩) hB).trans h.c5, (hb.cell (p := ⟨g, 6, none⟩) hB).trans h.c6, Nat.lt_of_lt_of_le h.lt hb.size, fun i => (hb.frozen (p := ⟨g, i, none⟩) hB).trans (h.fz i)⟩
theorem ShAt.next {w w' : World} {g : Nat} {l : List Nat} (h : ShAt w g l) (hb : Below w.heap.size w w') : ShAt w' g l := h.below hb h.lt
theorem alloc_two (w : World) (a o : Obj) : ((w.alloc a).alloc o).heap[w.heap.size + 1]? = some o := by
  have := heap_alloc_new (w.alloc a) o
  rwa [World.size_alloc] at this
abbrev shC0 (n : Int) : Array Value := #[.int .i64 n, .int .i64 0, .int .i64 0, .int .i64 0, .int .i64 0, .int .i64 0, .int .i64 0]
theorem sh_one (l : List Nat) : (shC l).all (·.oneCell') = true := by simp [Value.oneCell']
theorem zero_one : (shC0 0).all (·.oneCell') = true := by simp [Value.oneCell']
end Go.Proofs.YteocbgcgfllieaaGreatDoor

namespace Go.Proofs.YteocbgcgfllieaaGreatDoor
open Go.RowKit
set_option linter.unusedVariables false
theorem step_bound {N v : Int} {P n : Nat} (h0 : 0 ≤ N) (h1 : N < P) (h2 : 0 ≤ v) (h3 : v < n) : 0 ≤ N * n ∧ 0 ≤ N * n + v ∧ N * n + v < ((P * n : Nat) : Int) := by
  have a : 0 ≤ N * (n : Int) := Int.mul_nonneg h0 (by omega)
  have b : (N + 1) * (n : Int) ≤ (P : Int) * (n : Int) := Int.mul_le_mul_of_nonneg_right (by omega) (by omega)
  rw [Int.add_mul, Int.one_mul] at b
  rw [Int.natCast_mul]
  omega
end Go.Proofs.YteocbgcgfllieaaGreatDoor

namespace Go.Proofs.YteocbgcgfllieaaGreatDoor
open Go.RowKit
set_option linter.unusedVariables false
/-- A slice of the call's own, in a block from base on, that holds the numbers l. -/
def Own (w : World) (base : Nat) (v : Value) (l : List Nat) : Prop := w.ownsRow base 3 1 v l.length (intC l)
theorem intC_len (l : List Nat) : (intC l).length = l.length := by simp [intC]
theorem intC_at {l : List Nat} {j : Nat} (h : j < l.length) : (intC l)[j]? = some (.int .i64 (nth l j : Int)) := by
  have h' : j < (intC l).length := by rw [intC_len]; exact h
  rw [List.getElem?_eq_getElem h']
  exact congrArg some (intC_get (List.getElem?_eq_getElem h')).2
theorem Own.form {w : World} {base : Nat} {v : Value} {l : List Nat} (h : Own w base v l) : ∃ A c, v = .slice A l.length c ∧ Ints w A l := by
  obtain ⟨_, ⟨rfl, hn⟩ | ⟨g, cap, cur, rfl, hb, hh, hm, _, hs, ht⟩⟩ := h
  · exact ⟨none, 0, by rw [hn], .inl (List.eq_nil_of_length_eq_zero hn)⟩
  · refine ⟨_, cap, rfl, .inr ⟨g, 0, rfl, (Array.getElem?_eq_some_iff.1 hh).1, fun i hi => ?_⟩⟩
    rw [Nat.zero_add, cell_of_row w g i cur 3 (0, 0) hh]
    have e : (cur.toList.take (l.length * 1))[i]? = some (.int .i64 (nth l i : Int)) := by rw [ht, intC_at hi]
    rw [List.getElem?_take] at e
    simpa [hi] using e
theorem Own.below {w w' : World} {base B : Nat} {v : Value} {l : List Nat} (h : Own w base v l) (hb : Below B w w') (hB : w.heap.size ≤ B) : Own w' base v l := by
  obtain ⟨h1, ⟨rfl, hn⟩ | ⟨g, cap, cur, rfl, hb', hh, hm, hx, hs, ht⟩⟩ := h
  · exact ⟨h1, .inl ⟨rfl, hn⟩⟩
  · refine ⟨h1, .inr ⟨g, cap, cur, rfl, hb', ?_, hm, hx, hs, ht⟩⟩
    rw [hb.block g (by have := (Array.getElem?_eq_some_iff.1 hh).1; omega)]
    exact hh
theorem Own.less {w : World} {base base' : Nat} {v : Value} {l : List Nat} (h : Own w base v l) (hb : base' ≤ base) : Own w base' v l := by
  obtain ⟨h1, ⟨rfl, hn⟩ | ⟨g, cap, cur, rfl, hg, hh, hm, hx, hs, ht⟩⟩ := h
  · exact ⟨h1, .inl ⟨rfl, hn⟩⟩
  · exact ⟨h1, .inr ⟨g, cap, cur, rfl, by omega, hh, hm, hx, hs, ht⟩⟩
theorem own_nil (w : World) (base : Nat) : Own w base (.slice none 0 0) [] := World.ownsRow_nil w base 3 1
theorem info_int : (Tryz.prog.info? 3).map (fun i => (i.zero, i.size, i.bytes)) = some (some (.int .i64 0), 1, 8) := by kernel_rfl
theorem Ints.news {w : World} {g o : Nat} {l : List Nat} (h : Ints w (some ⟨g, o, none⟩) l) : ∀ j u, (intC l)[j]? = some u → w.cell? ((⟨g, o, none⟩ : Addr).add j) = some u := by
  intro j u hu
  obtain ⟨ad, e, hc⟩ := h.src (by have := (List.getElem?_eq_some_iff.1 hu).1; omega)
  injection e with e
  subst e
  exact hc j u hu
theorem Ints.form {w : World} {A : Option Addr} {l : List Nat} (h : Ints w A l) : l = [] ∨ ∃ g o, A = some ⟨g, o, none⟩ := by
  rcases h with rfl | ⟨g, o, rfl, _, _⟩
  · exact .inl rfl
  · exact .inr ⟨g, o, rfl⟩
set_option maxRecDepth 100000 in
theorem clone_any (A : Option Addr) (c : Nat) (l : List Nat) (w : World) (hl : l.length ≤ 1000000) (hw : Ints w A l) :
    Calls Tryz.prog 13 #[.slice A l.length c] w fun e w' => (∃ v, e = .returned v ∧ Own w' w.heap.size v l) ∧ Below w.heap.size w w' := by
  cases A with
  | none =>
    have hn : l = [] := by
      rcases hw with h | ⟨g, o, e, _⟩
      · exact h
      · cases e
    subst hn
    have hq : ∀ W, (binOp .eql 23 (.slice none 0 c) (.slice none 0 0)).run Tryz.prog W = .ok (.bool true) W := fun W => Lib.run_eql_slice_nil W 23 3 none 0 c 0 0 Tryz.underlying23
    go_enter Tryz.func13, Tryz.ntmps13
    go_wp2
    go_ret
    exact ⟨⟨_, rfl, own_nil _ _⟩, Below.refl _ _⟩
  | some ad =>
    obtain ⟨i0, hi, hz0, hz1, hz2⟩ := info_parts info_int
    have HI := Lib.hid hi
    have HZ0 := Lib.hid hz0
    have HZ1 := Lib.hid hz1
    have HZ2 := Lib.hid hz2
    have hb0 : Below w.heap.size w (w.alloc (.cells #[] 3)) := (Below.refl _ _).alloc (Nat.le_refl _) _
    have HN : Hid (∀ j u, (intC l)[j]? = some u → (w.alloc (.cells #[] 3)).cell? (ad.add j) = some u) := by
      refine Lib.hid fun j u hu => ?_
      obtain ⟨ad', e, hc⟩ := (hw.below hb0 (Nat.le_refl _)).src (by have := (List.getElem?_eq_some_iff.1 hu).1; omega)
      injection e with e
      subst e
      exact hc j u hu
    have hlen : l.length ≤ 1000000 := hl
    have hq : ∀ W, (binOp .eql 23 (.slice (some ad) l.length c) (.slice none 0 0)).run Tryz.prog W = .ok (.bool false) W := fun W => Lib.run_eql_slice_nil W 23 3 (some ad) l.length c 0 0 Tryz.underlying23
    clear hw hi hz0 hz1 hz2 hb0
    go_enter Tryz.func13, Tryz.ntmps13
    go_wp2_with (at_builtin; refine wpList_append_own _ rfl (.tmp 5) (.tmp 6) 23 rfl w.heap.size 3 i0 (.int .i64 0) 1 8 Tryz.underlying23 HI.out HZ0.out HZ1.out HZ2.out rfl (by decide) (.slice (some ⟨w.heap.size, 0, none⟩) 0 0) 0 [] rfl (World.ownsRow_made w #[] 0 (Nat.le_refl _) (by simp [maxLen]) rfl) ad l.length c (intC l) rfl (by rw [intC_len, Nat.mul_one]) HN.out (intC_one l) (by unfold maxLen; omega) (by omega) (by simp) ?_; intro v' w1 h1 h2 _; have H1 := Lib.hid h1; have H2 := Lib.hid h2; clear h1 h2)
    go_ret
    refine ⟨⟨_, rfl, by have := H1.out; rwa [Nat.zero_add, List.nil_append] at this⟩, ?_⟩
    exact ((Below.refl _ _).alloc (Nat.le_refl _) _).grown H2.out (by simp) (fun k hk => by simp [Value.ownBlock] at hk; omega)
theorem next_drewN {B : Nat} {a w : World} (h : Below B a w) (n : Nat) : Below B a (w.drewN n) := ⟨h.os, h.tape, h.output, h.size, h.block⟩
theorem equal_len (A A2 : Option Addr) (n c n2 c2 : Nat) (w : World) (h : n ≠ n2) :
    Calls Tryz.prog 18 #[.slice A n c, .slice A2 n2 c2] w fun e w' => e = .returned (.bool false) ∧ Below w.heap.size w w' := by
  have e1 : ((n : Int) != (n2 : Int)) = true := by rw [bne_iff_ne]; omega
  go_enter Tryz.func18, Tryz.ntmps18
  go_wp2
  go_ret
  exact ⟨rfl, Below.refl _ _⟩
theorem equal_yes (A A2 : Option Addr) (n c c2 : Nat) (l : List Nat) (w : World) (hn : n = l.length) (hl : n ≤ 1000000) (hw : Ints w A l) (hw2 : Ints w A2 l) :
    Calls Tryz.prog 18 #[.slice A n c, .slice A2 n c2] w fun e w' => e = .returned (.bool true) ∧ Below w.heap.size w w' := by
  have HN := Lib.hid hn
  have HW := Lib.hid hw
  have HW2 := Lib.hid hw2
  clear hn hw hw2
  go_enter Tryz.func18, Tryz.ntmps18
  go_wp2_with fail
  go_loopw [5, 13] (fun _ i wr => ∃ j : Nat, j ≤ n ∧ i = .int .i64 j ∧ Below w.heap.size w wr) (fun _ i _ => n - (intOf i).toNat)
  case atStart => exact ⟨0, Nat.zero_le _, rfl, Below.refl _ _⟩
  case round =>
    obtain ⟨j, hj, rfl, hb⟩ := hrel
    have HB := Lib.hid hb
    clear hb
    by_cases hlt : j < n
    · have hjl : j < l.length := by have := HN.out; omega
      obtain ⟨g, o, rfl, hcell⟩ := (HW.out.below HB.out (Nat.le_refl _)).at_ hjl
      obtain ⟨g2, o2, rfl, hcell2⟩ := (HW2.out.below HB.out (Nat.le_refl _)).at_ hjl
      clear hjl
      generalize (nth l j : Int) = y at hcell hcell2
      have i1 : (j : Int) < (n : Int) := by omega
      have i2 : (0 : Int) ≤ (j : Int) := by omega
      go_wp2_with fail
      go_quiet (fail)
      go_wp2
      go_roundw
      case rel => exact ⟨j + 1, by omega, by go_num, next_drewN HB.out _⟩
      case measure => simp [intOf]; omega
    · go_wp2
      go_ret
      exact ⟨rfl, HB.out⟩
theorem equal_no (A A2 : Option Addr) (n c c2 p : Nat) (l l2 : List Nat) (w : World) (hn : n = l.length) (hn2 : n = l2.length) (hl : n ≤ 1000000) (hw : Ints w A l) (hw2 : Ints w A2 l2) (hp : p < n)
    (hq : ∀ i, i < p → nth l i = nth l2 i) (h : nth l p ≠ nth l2 p) :
    Calls Tryz.prog 18 #[.slice A n c, .slice A2 n c2] w fun e w' => e = .returned (.bool false) ∧ Below w.heap.size w w' := by
  have HN := Lib.hid hn
  have HN2 := Lib.hid hn2
  have HW := Lib.hid hw
  have HW2 := Lib.hid hw2
  have HQ := Lib.hid hq
  have HX := Lib.hid h
  clear hn hw hw2 hn2 hq h
  go_enter Tryz.func18, Tryz.ntmps18
  go_wp2_with fail
  go_loopw [5, 13] (fun _ i wr => ∃ j : Nat, j ≤ p ∧ i = .int .i64 j ∧ Below w.heap.size w wr) (fun _ i _ => n - (intOf i).toNat)
  case atStart => exact ⟨0, Nat.zero_le _, rfl, Below.refl _ _⟩
  case round =>
    obtain ⟨j, hj, rfl, hb⟩ := hrel
    have HB := Lib.hid hb
    clear hb
    have hlt : j < n := by omega
    have hjl : j < l.length := by have := HN.out; omega
    have hjl2 : j < l2.length := by have := HN2.out; omega
    obtain ⟨g, o, rfl, hcell⟩ := (HW.out.below HB.out (Nat.le_refl _)).at_ hjl
    obtain ⟨g2, o2, rfl, hcell2⟩ := (HW2.out.below HB.out (Nat.le_refl _)).at_ hjl2
    clear hjl hjl2
    have i1 : (j : Int) < (n : Int) := by omega
    have i2 : (0 : Int) ≤ (j : Int) := by omega
    by_cases e : j = p
    · have hx : ((nth l j : Int) != (nth l2 j : Int)) = true := by rw [e, bne_iff_ne]; have := HX.out; omega
      generalize (nth l j : Int) = y at hcell hx
      generalize (nth l2 j : Int) = y2 at hcell2 hx
      clear e
      go_wp2_with fail
      go_quiet (fail)
      go_wp2
      go_ret
      exact ⟨rfl, next_drewN HB.out _⟩
    · have hjp : j + 1 ≤ p := by omega
      have hq := HQ.out j (by omega)
      rw [← hq] at hcell2
      generalize (nth l j : Int) = y at hcell hcell2
      clear e hq
      go_wp2_with fail
      go_quiet (fail)
      go_wp2
      go_roundw
      case rel => exact ⟨j + 1, by omega, by go_num, next_drewN HB.out _⟩
      case measure => simp [intOf]; omega
theorem equal_any (A A2 : Option Addr) (c c2 : Nat) (l l2 : List Nat) (w : World) (hl : l.length ≤ 1000000) (hw : Ints w A l) (hw2 : Ints w A2 l2) :
    Calls Tryz.prog 18 #[.slice A l.length c, .slice A2 l2.length c2] w fun e w' => e = .returned (.bool (decide (l = l2))) ∧ Below w.heap.size w w' := by
  by_cases e : l = l2
  · subst e
    rw [decide_eq_true rfl]
    exact equal_yes A A2 l.length c c2 l w rfl hl hw hw2
  · rw [decide_eq_false e]
    by_cases hlen : l.length = l2.length
    · rcases first_at (fun i => nth l i ≠ nth l2 i) l.length with h | ⟨p, hp, h1, h2⟩
      · exact absurd (nth_eq hlen (fun i hi => by have := h i hi; simpa using this)) e
      · rw [← hlen]
        exact equal_no A A2 l.length c c2 p l l2 w rfl hlen hl hw hw2 hp (fun i hi => by have := h1 i hi; simpa using this) h2
    · exact equal_len A A2 _ c _ c2 w hlen
end Go.Proofs.YteocbgcgfllieaaGreatDoor

namespace Go.Proofs.YteocbgcgfllieaaGreatDoor
open Go.RowKit Go.Shelf
set_option linter.unusedVariables false
attribute [local go_sem] Oper.semAt_some
/-- A place of a list. -/
abbrev Place (l : List Nat) := { p : Nat // p < l.length }
/-- The last m places of a list, from the last one back. -/
def lastPlaces (l : List Nat) : (m : Nat) → m ≤ l.length → List (Place l)
  | 0, _ => []
  | m + 1, h => lastPlaces l m (by omega) ++ [⟨l.length - 1 - m, by omega⟩]
theorem lastPlaces_len (l : List Nat) (m : Nat) (h : m ≤ l.length) : (lastPlaces l m h).length = m := by
  induction m with
  | zero => rfl
  | succ m ih => simp [lastPlaces, ih]
theorem grown_of_below {W W' : World} (h : Below W.heap.size W W') : W.grownBy W' none := ⟨h.os, h.tape, h.output, h.size, fun k hk _ => h.block k hk⟩
/-- Both blocks, of the slice and of what it reads, are as they were. -/
def Same2 (b g : Nat) (W W' : World) : Prop := W.heap.size ≤ W'.heap.size ∧ W'.heap[b]? = W.heap[b]? ∧ W'.heap[g]? = W.heap[g]?
theorem Same2.refl (b g : Nat) (W : World) : Same2 b g W W := ⟨Nat.le_refl _, rfl, rfl⟩
theorem Same2.trans {b g : Nat} {X Y Z : World} (h : Same2 b g X Y) (k : Same2 b g Y Z) : Same2 b g X Z := ⟨Nat.le_trans h.1 k.1, k.2.1.trans h.2.1, k.2.2.trans h.2.2⟩
theorem Same2.cell {b g : Nat} {X Y : World} (h : Same2 b g X Y) (i : Nat) : Y.cell? ⟨b, i, none⟩ = X.cell? ⟨b, i, none⟩ ∧ Y.cell? ⟨g, i, none⟩ = X.cell? ⟨g, i, none⟩ :=
  ⟨World.cell?_of_block (a := ⟨b, i, none⟩) h.2.1, World.cell?_of_block (a := ⟨g, i, none⟩) h.2.2⟩
end Go.Proofs.YteocbgcgfllieaaGreatDoor

namespace Go.Proofs.YteocbgcgfllieaaGreatDoor
open Go.RowKit Go.Shelf
set_option linter.unusedVariables false
end Go.Proofs.YteocbgcgfllieaaGreatDoor

namespace Go.Proofs.YteocbgcgfllieaaGreatDoor
set_option linter.unusedVariables false
def lstep (f : Nat → Int) (a : Int × Int) (v : Nat) : Int × Int := if a.2 < 0 ∨ f v < a.1 then (f v, (v : Int)) else a
/-- The least of f over some values, k if there is none; and the first that has it, -1 if there is none. -/
def leastL (f : Nat → Int) (k : Int) (vs : List Nat) : Int × Int := vs.foldl (lstep f) (k, -1)
theorem leastL_snoc (f : Nat → Int) (k : Int) (vs : List Nat) (v : Nat) : leastL f k (vs ++ [v]) = lstep f (leastL f k vs) v := by simp [leastL]
theorem leastL_congr {f g : Nat → Int} {k : Int} {vs : List Nat} (h : ∀ v ∈ vs, f v = g v) : leastL f k vs = leastL g k vs := by
  unfold leastL
  generalize (k, (-1 : Int)) = a
  induction vs generalizing a with
  | nil => rfl
  | cons v r ih =>
    have e : lstep f a v = lstep g a v := by unfold lstep; rw [h v (by simp)]
    rw [List.foldl_cons, List.foldl_cons, e]
    exact ih (fun x hx => h x (by simp [hx])) _
/-- What the fold keeps. -/
theorem leastL_spec (f : Nat → Int) (k : Int) (vs : List Nat) : (vs = [] ∧ leastL f k vs = (k, -1)) ∨
    (∃ v ∈ vs, leastL f k vs = (f v, (v : Int)) ∧ ∀ x ∈ vs, f v ≤ f x) := by
  have h : ∀ m, ∀ vs : List Nat, vs.length = m → (vs = [] ∧ leastL f k vs = (k, -1)) ∨ (∃ v ∈ vs, leastL f k vs = (f v, (v : Int)) ∧ ∀ x ∈ vs, f v ≤ f x) := by
    intro m
    induction m with
    | zero =>
      intro vs h
      obtain rfl := List.eq_nil_of_length_eq_zero h
      exact .inl ⟨rfl, rfl⟩
    | succ m ih =>
      intro vs h
      have hne : vs ≠ [] := by intro e; subst e; simp at h
      have e := (List.dropLast_concat_getLast hne).symm
      have hl : vs.dropLast.length = m := by simp [h]
      generalize vs.dropLast = r at e hl
      generalize vs.getLast hne = y at e
      subst e
      refine .inr ?_
      rw [leastL_snoc]
      rcases ih r hl with ⟨rfl, e⟩ | ⟨v, hv, e, hx⟩
      · rw [e]
        refine ⟨y, by simp, by simp [lstep], fun x hx => ?_⟩
        simp at hx
        subst hx
        exact Int.le_refl _
      · rw [e]
        unfold lstep
        by_cases c : f y < f v
        · rw [if_pos (.inr c)]
          refine ⟨y, by simp, rfl, fun x hx' => ?_⟩
          rcases List.mem_append.1 hx' with h | h
          · have := hx x h; omega
          · simp at h; subst h; exact Int.le_refl _
        · rw [if_neg (by simp; omega)]
          refine ⟨v, by simp [hv], rfl, fun x hx' => ?_⟩
          rcases List.mem_append.1 hx' with h | h
          · exact hx x h
          · simp at h; subst h; omega
  exact h vs.length vs rfl
theorem leastL_in {f : Nat → Int} {k : Int} {vs : List Nat} (h0 : 0 ≤ k) (h : ∀ v ∈ vs, 0 ≤ f v ∧ f v ≤ k) : 0 ≤ (leastL f k vs).1 ∧ (leastL f k vs).1 ≤ k := by
  rcases leastL_spec f k vs with ⟨_, e⟩ | ⟨v, hv, e, _⟩
  · rw [e]; exact ⟨h0, Int.le_refl _⟩
  · rw [e]; exact h v hv
/-- One place more. -/
def insL (t : List Nat) (p v : Nat) : List Nat := t.take p ++ v :: t.drop p
theorem insL_length (t : List Nat) (p v : Nat) (h : p ≤ t.length) : (insL t p v).length = t.length + 1 := by simp [insL]; omega
theorem insL_in : ∀ {l t : List Nat} {p v : Nat}, InL (l.eraseIdx p) t → p < l.length → v < nth l p → InL l (insL t p v)
  | n :: l, t, 0, v, h, _, hv => ⟨hv, by simpa [insL] using h⟩
  | n :: l, [], p + 1, v, h, hp, hv => by simp [InL] at h
  | n :: l, x :: t, p + 1, v, h, hp, hv => by
    have h' : x < n ∧ InL (l.eraseIdx p) t := h
    exact ⟨h'.1, insL_in (l := l) h'.2 (by simpa using hp) hv⟩
theorem insL_num : ∀ {l t : List Nat} {p : Nat}, t.length + 1 = l.length → p < l.length → ∀ v, numL l (insL t p v) = numL l (insL t p 0) + v * prodL (l.drop (p + 1))
  | n :: l, t, 0, h, _, v => by
    show v * prodL l + numL l (t.drop 0) = 0 * prodL l + numL l (t.drop 0) + v * prodL l
    omega
  | n :: l, [], p + 1, h, hp, v => by simp at h; rw [← List.length_eq_zero_iff] at h; simp at hp; omega
  | n :: l, x :: t, p + 1, h, hp, v => by
    have := insL_num (l := l) (t := t) (p := p) (by simpa using h) (by simpa using hp) v
    show x * prodL l + numL l (insL t p v) = x * prodL l + numL l (insL t p 0) + v * prodL (l.drop (p + 1))
    omega
theorem nth_zero (n : Nat) (l : List Nat) : nth (n :: l) 0 = n := rfl
theorem nth_next (n : Nat) (l : List Nat) (i : Nat) : nth (n :: l) (i + 1) = nth l i := rfl
theorem prodL_erase : ∀ {l : List Nat} {p : Nat}, p < l.length → prodL l = nth l p * prodL (l.eraseIdx p)
  | n :: l, 0, _ => rfl
  | n :: l, p + 1, h => by
    have := prodL_erase (l := l) (p := p) (by simpa using h)
    show n * prodL l = nth l p * (n * prodL (l.eraseIdx p))
    rw [this, Nat.mul_left_comm]
theorem erase_le {l : List Nat} {q : Nat → Prop} (h : ∀ n ∈ l, q n) (p : Nat) : ∀ n ∈ l.eraseIdx p, q n := fun n hn => h n (List.mem_of_mem_eraseIdx hn)
theorem erase_len {l : List Nat} {p : Nat} (h : p < l.length) : (l.eraseIdx p).length + 1 = l.length := by rw [List.length_eraseIdx, if_pos h]; omega
/-- A table without a place: its costs, and who has them. -/
def outL (l : List Nat) (z : Nat → Int) (k : Int) (p : Nat) (vs : List Nat) (i : Nat) : Int × Int :=
  leastL (fun v => z (numL l (insL (tupL (l.eraseIdx p) i) p 0) + v * prodL (l.drop (p + 1)))) k vs
end Go.Proofs.YteocbgcgfllieaaGreatDoor

namespace Go.Proofs.YteocbgcgfllieaaGreatDoor
open Go.RowKit
set_option linter.unusedVariables false
/-- What the cells of a reader hold. -/
structure RdV where
  sc : Nat
  fp : Int
  fe : Int
  lp : Int
  le : Int
  name : Value
  top : Int
  sizes : Value
  funs : Value
  shared : Value
  told : Int
def rdC (v : RdV) : Array Value := #[.pointer (some ⟨v.sc, 0, none⟩), .int .i64 v.fp, .int .i64 v.fe, .int .i64 v.lp, .int .i64 v.le, v.name, .int .i64 v.top, v.sizes, v.funs, v.shared, .int .i64 v.told]
def RdAt (W : World) (b : Nat) (v : RdV) : Prop := W.heap[b]? = some (.cells (rdC v) 76 (0, 0))
theorem RdAt.lt {W : World} {b : Nat} {v : RdV} (h : RdAt W b v) : b < W.heap.size := (Array.getElem?_eq_some_iff.1 h).1
theorem RdAt.cell {W : World} {b : Nat} {v : RdV} (h : RdAt W b v) {i : Nat} {u : Value} (hi : (rdC v)[i]? = some u) : W.cell? ⟨b, i, none⟩ = some u := by rw [cell_of_row _ _ _ _ _ _ h]; exact hi
theorem RdAt.frozen {W : World} {b : Nat} {v : RdV} (h : RdAt W b v) (i : Nat) : W.frozen? ⟨b, i, none⟩ = false := frozen_of_row _ _ _ _ _ h
theorem RdAt.next {W W' : World} {b : Nat} {v : RdV} (h : RdAt W b v) {row : Option Nat} (hg : W.grownBy W' row) (hne : some b ≠ row) : RdAt W' b v := (hg.block b h.lt hne).trans h
theorem grown_put (w : World) (b i : Nat) (v : Value) : w.grownBy (w.setCell ⟨b, i, none⟩ v) (some b) := ⟨rfl, rfl, rfl, (KeepsWalks.setCell w _ _).size, fun j _ hne => Below.heap_setCell w ⟨b, i, none⟩ _ j (fun e => hne (by rw [e]))⟩
theorem right_at (b i : Nat) (x : Int) (w : World) (h : w.cell? ⟨b, i + 1, none⟩ = some (.int .i64 x)) :
    Calls Tryz.prog 31 #[.pointer (some ⟨b, i, none⟩)] w fun e w' => e = .returned (.bool (x == 0)) ∧ w = w' := by
  go_enter Tryz.func31, Tryz.ntmps31
  go_wp2_with fail
  go_ret
  exact ⟨rfl, rfl⟩
/-- What is wrong is told, where nothing was. -/
theorem note_new (b i : Nat) (p e : Int) (w : World) (cs : Array Value) (t : TypeId) (hr : w.heap[b]? = some (.cells cs t (0, 0))) (h0 : cs[i]? = some (.int .i64 0) ∨ ∃ q, cs[i]? = some (.int .i64 q)) (h1 : cs[i + 1]? = some (.int .i64 0)) :
    Calls Tryz.prog 81 #[.pointer (some ⟨b, i, none⟩), .int .i64 p, .int .i64 e] w fun e' w' => (∃ v, e' = .returned v) ∧ w'.heap[b]? = some (.cells ((cs.setIfInBounds i (.int .i64 p)).setIfInBounds (i + 1) (.int .i64 e)) t (0, 0)) ∧ w.grownBy w' (some b) := by
  obtain ⟨q, hq⟩ : ∃ q, cs[i]? = some (.int .i64 q) := by
    rcases h0 with h | h
    · exact ⟨0, h⟩
    · exact h
  have c0 : w.cell? ⟨b, i, none⟩ = some (.int .i64 q) := by rw [cell_of_row _ _ _ _ _ _ hr]; exact hq
  have c1 : w.cell? ⟨b, i + 1, none⟩ = some (.int .i64 0) := by rw [cell_of_row _ _ _ _ _ _ hr]; exact h1
  have f0 : w.frozen? ⟨b, i, none⟩ = false := frozen_of_row _ _ _ _ _ hr
  have f1 : w.frozen? ⟨b, i + 1, none⟩ = false := frozen_of_row _ _ _ _ _ hr
  have RT := Lib.hid (right_at b i 0 w c1)
  have HR := Lib.hid hr
  clear hr h0 h1 hq
  go_enter Tryz.func81, Tryz.ntmps81
  go_wp2_with fail
  refine RT.out.mono ?_
  rintro e' w' ⟨rfl, rfl⟩
  go_wp2_with fail
  go_end0
  have r1 := heap_setCell_same w b i _ _ (.int .i64 p) HR.out
  have r2 := heap_setCell_same (w.setCell ⟨b, i, none⟩ (.int .i64 p)) b (i + 1) _ _ (.int .i64 e) r1
  exact ⟨⟨_, rfl⟩, r2, sgrown_then (grown_put w b i (.int .i64 p)) (grown_put (w.setCell ⟨b, i, none⟩ (.int .i64 p)) b (i + 1) (.int .i64 e))⟩
/-- What was wrong first stays. -/
theorem note_old (b i : Nat) (p e x : Int) (w : World) (h1 : w.cell? ⟨b, i + 1, none⟩ = some (.int .i64 x)) (hx : x ≠ 0) :
    Calls Tryz.prog 81 #[.pointer (some ⟨b, i, none⟩), .int .i64 p, .int .i64 e] w fun e' w' => (∃ v, e' = .returned v) ∧ w = w' := by
  have RT := Lib.hid (right_at b i x w h1)
  have d : (x == 0) = false := by simpa using hx
  rw [d] at RT
  clear h1 hx d
  go_enter Tryz.func81, Tryz.ntmps81
  go_wp2_with fail
  refine RT.out.mono ?_
  rintro e' w' ⟨rfl, rfl⟩
  go_wp2_with fail
  go_end0
  exact ⟨⟨_, rfl⟩, rfl⟩
end Go.Proofs.YteocbgcgfllieaaGreatDoor

namespace Go.Proofs.YteocbgcgfllieaaGreatDoor
open Go.RowKit
set_option linter.unusedVariables false
/-- The variable strconv.ErrRange holds an error. -/
def GlobR (W : World) : Prop := ∃ ev, W.cell? ⟨1, 0, none⟩ = some ev ∧ (ev = .nilIface ∨ ∃ te pe, ev = .iface te pe)
theorem GlobR.below {W W' : World} (h : GlobR W) (hb : Below W.heap.size W W') : GlobR W' := by
  obtain ⟨ev, h1, h2⟩ := h
  exact ⟨ev, (hb.cell (p := ⟨1, 0, none⟩) (World.block_lt_of_cell? W _ h1)).trans h1, h2⟩
/-- A word of digits that no int64 holds. -/
theorem read_far (s : ByteArray) (w : World) (hs : s.size ≤ 1000000) (d : List UInt8) (hd : Lib.trimPrefix s.data.toList [45] = d) (hne : d ≠ []) (h : ∀ b ∈ d, tenL.contains b = true) (hv : Lib.parseIntB 64 s.data.toList = .range) (hG : GlobR w) :
    Calls Tryz.prog 83 #[.string s] w fun e w' => e = .returned (.tuple #[.int .i64 (min (max (Lib.intSat 64 s.data.toList) (-4611686018427387904)) 4611686018427387904), .int .i64 0]) ∧ Below w.heap.size w w' := by
  have hdl := trim_len _ _ hd
  rw [size_list] at hdl
  have HP := Lib.hid (fun W => Tryz.strings_TrimPrefix s ⟨#[45]⟩ W)
  have hd' : Lib.trimPrefix s.data.toList (⟨#[45]⟩ : ByteArray).data.toList = d := hd
  rw [hd'] at HP
  have he : (!d.isEmpty) = true := by cases d with
    | nil => exact absurd rfl hne
    | cons => rfl
  have he2 : d.isEmpty = false := by cases d with
    | nil => exact absurd rfl hne
    | cons => rfl
  have ht := trimS_nil d tenL h
  have HT := Lib.hid (fun W => Tryz.strings_Trim_laid ⟨d.toArray⟩ ⟨#[48, 49, 50, 51, 52, 53, 54, 55, 56, 57]⟩ W (by show d.toArray.size ≤ _; rw [List.size_toArray]; omega) (by decide) ten_ascii)
  have ht' : Lib.trimS (⟨d.toArray⟩ : ByteArray).data.toList (⟨#[48, 49, 50, 51, 52, 53, 54, 55, 56, 57]⟩ : ByteArray).data.toList = [] := ht
  rw [ht'] at HT
  have HV := Lib.hid (fun ev W h1 h2 => Tryz.strconv_ParseInt_10_at64_range s (by omega) hv ev W h1 h2)
  have HG := Lib.hid hG
  generalize Lib.intSat 64 s.data.toList = v at HV ⊢
  clear hd hd' h ht ht' hv hG
  go_enter Tryz.func83, Tryz.ntmps83
  go_wp2_with (first | (go_at_call 94; refine (HP.out _).mono ?_; rintro e w' ⟨rfl, rfl⟩) | (go_at_call 95; refine (HT.out _).mono ?_; rintro e w2 ⟨rfl, hb⟩; have HB := Lib.hid hb; clear hb))
  obtain ⟨ev, g1, g2⟩ := HG.out.below HB.out
  have HV2 := Lib.hid (HV.out ev _ g1 g2)
  clear g1 g2
  refine HV2.out.mono ?_
  rintro e w3 ⟨N, rfl, hN, _, hb⟩
  have HB2 := Lib.hid hb
  clear hb
  go_wp2_with fail
  go_ret2
  exact ⟨rfl, then_ HB.out HB2.out⟩
/-- Read at any word. -/
theorem read_any (s : ByteArray) (w : World) (hs : s.size ≤ 1000000) (hG : GlobR w) :
    Calls Tryz.prog 83 #[.string s] w fun e w' => e = .returned (.tuple #[.int .i64 (readV s.data.toList), .int .i64 (readE s.data.toList)]) ∧ Below w.heap.size w w' := by
  have ten : ∀ b : UInt8, (48 ≤ b.toNat ∧ b.toNat ≤ 57) → tenL.contains b = true := by
    intro b ⟨h1, h2⟩
    have : b.toNat = 48 ∨ b.toNat = 49 ∨ b.toNat = 50 ∨ b.toNat = 51 ∨ b.toNat = 52 ∨ b.toNat = 53 ∨ b.toNat = 54 ∨ b.toNat = 55 ∨ b.toNat = 56 ∨ b.toNat = 57 := by omega
    have e : ∀ k : UInt8, b.toNat = k.toNat → b = k := fun k h => UInt8.toNat_inj.1 h
    rcases this with h | h | h | h | h | h | h | h | h | h
    · rw [e 48 h]; rfl
    · rw [e 49 h]; rfl
    · rw [e 50 h]; rfl
    · rw [e 51 h]; rfl
    · rw [e 52 h]; rfl
    · rw [e 53 h]; rfl
    · rw [e 54 h]; rfl
    · rw [e 55 h]; rfl
    · rw [e 56 h]; rfl
    · rw [e 57 h]; rfl
  have net : ∀ b : UInt8, ¬ (48 ≤ b.toNat ∧ b.toNat ≤ 57) → tenL.contains b = false := by
    intro b h
    cases hc : tenL.contains b with
    | false => rfl
    | true =>
      exfalso
      apply h
      simp at hc
      rcases hc with rfl | rfl | rfl | rfl | rfl | rfl | rfl | rfl | rfl | rfl <;> decide
  have hd := trim_digs s.data.toList
  cases ho : okD (digs s.data.toList) with
  | true =>
    have hp := (okD_iff _).1 ho
    have e : readE s.data.toList = 0 := by unfold readE; rw [if_pos ho]
    rw [e]
    rcases parse_digs s.data.toList ho with ⟨v, h1, h2⟩ | ⟨h1, h2⟩
    · rw [← h2]
      exact read_ok s w hs _ v hd hp.1 (fun b hb => ten b (hp.2 b hb)) h1
    · rw [← h2]
      exact read_far s w hs _ hd hp.1 (fun b hb => ten b (hp.2 b hb)) h1 hG
  | false =>
    have e : readE s.data.toList = 4 := by unfold readE; rw [if_neg (by simp [ho])]
    have e2 : readV s.data.toList = 0 := by unfold readV; rw [if_neg (by simp [ho])]
    rw [e, e2]
    refine read_form s w hs _ hd ?_
    by_cases hn : digs s.data.toList = []
    · exact .inl hn
    · refine .inr (Classical.byContradiction fun hc => ?_)
      have : okD (digs s.data.toList) = true := (okD_iff _).2 ⟨hn, fun c hcm => Classical.byContradiction fun h => hc ⟨c, hcm, net c h⟩⟩
      rw [ho] at this
      cases this
end Go.Proofs.YteocbgcgfllieaaGreatDoor
