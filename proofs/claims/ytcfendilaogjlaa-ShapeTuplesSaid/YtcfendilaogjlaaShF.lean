/- Contracts of slices.Clone, slices.Equal, a shape's Sizes, and shape.Same (no statement of its own). Conditions: at most 1000000 numbers in a list; at most six sizes. -/
import Derived.Test.YtcfendilaogjlaaShE
import Derived.OwnWalk
import Derived.Laws.StructEq
import Derived.Lib.SliceRun
namespace Go.Proofs.Ytcfendilaogjlaa
open Go.RowKit
set_option linter.unusedVariables false
/-- A slice of the call's own, in a block from base on, that holds the numbers l. -/
def Own (w : World) (base : Nat) (v : Value) (l : List Nat) : Prop := w.ownsRow base 3 1 v l.length (intC l)
theorem intC_len (l : List Nat) : (intC l).length = l.length := by simp [intC]
theorem intC_at {l : List Nat} {j : Nat} (h : j < l.length) : (intC l)[j]? = some (.int .i64 (nth l j : Int)) := by
  have h' : j < (intC l).length := by rw [intC_len]; exact h
  rw [List.getElem?_eq_getElem h']
  exact congrArg some (intC_get (List.getElem?_eq_getElem h')).2
theorem Own.form {w : World} {base : Nat} {v : Value} {l : List Nat} (h : Own w base v l) : ∃ A c, v = .slice A l.length c ∧ Ints w A l := by
  obtain ⟨_, ⟨rfl, hn⟩ | ⟨g, cap, cur, rfl, hb, hh, hm, _, hs, ht⟩⟩ := h
  · exact ⟨none, 0, by rw [hn], .inl (List.eq_nil_of_length_eq_zero hn)⟩
  · refine ⟨_, cap, rfl, .inr ⟨g, 0, rfl, (Array.getElem?_eq_some_iff.1 hh).1, fun i hi => ?_⟩⟩
    rw [Nat.zero_add, cell_of_row w g i cur 3 (0, 0) hh]
    have e : (cur.toList.take (l.length * 1))[i]? = some (.int .i64 (nth l i : Int)) := by rw [ht, intC_at hi]
    rw [List.getElem?_take] at e
    simpa [hi] using e
theorem Own.below {w w' : World} {base B : Nat} {v : Value} {l : List Nat} (h : Own w base v l) (hb : Below B w w') (hB : w.heap.size ≤ B) : Own w' base v l := by
  obtain ⟨h1, ⟨rfl, hn⟩ | ⟨g, cap, cur, rfl, hb', hh, hm, hx, hs, ht⟩⟩ := h
  · exact ⟨h1, .inl ⟨rfl, hn⟩⟩
  · refine ⟨h1, .inr ⟨g, cap, cur, rfl, hb', ?_, hm, hx, hs, ht⟩⟩
    rw [hb.block g (by have := (Array.getElem?_eq_some_iff.1 hh).1; omega)]
    exact hh
theorem Own.less {w : World} {base base' : Nat} {v : Value} {l : List Nat} (h : Own w base v l) (hb : base' ≤ base) : Own w base' v l := by
  obtain ⟨h1, ⟨rfl, hn⟩ | ⟨g, cap, cur, rfl, hg, hh, hm, hx, hs, ht⟩⟩ := h
  · exact ⟨h1, .inl ⟨rfl, hn⟩⟩
  · exact ⟨h1, .inr ⟨g, cap, cur, rfl, by omega, hh, hm, hx, hs, ht⟩⟩
theorem own_nil (w : World) (base : Nat) : Own w base (.slice none 0 0) [] := World.ownsRow_nil w base 3 1
theorem info_int : (Try.prog.info? 3).map (fun i => (i.zero, i.size, i.bytes)) = some (some (.int .i64 0), 1, 8) := by kernel_rfl
theorem Ints.news {w : World} {g o : Nat} {l : List Nat} (h : Ints w (some ⟨g, o, none⟩) l) : ∀ j u, (intC l)[j]? = some u → w.cell? ((⟨g, o, none⟩ : Addr).add j) = some u := by
  intro j u hu
  obtain ⟨ad, e, hc⟩ := h.src (by have := (List.getElem?_eq_some_iff.1 hu).1; omega)
  injection e with e
  subst e
  exact hc j u hu
theorem Ints.form {w : World} {A : Option Addr} {l : List Nat} (h : Ints w A l) : l = [] ∨ ∃ g o, A = some ⟨g, o, none⟩ := by
  rcases h with rfl | ⟨g, o, rfl, _, _⟩
  · exact .inl rfl
  · exact .inr ⟨g, o, rfl⟩
theorem clone_any (A : Option Addr) (c : Nat) (l : List Nat) (w : World) (hl : l.length ≤ 1000000) (hw : Ints w A l) :
    Calls Try.prog 19 #[.slice A l.length c] w fun e w' => (∃ v, e = .returned v ∧ Own w' w.heap.size v l) ∧ Below w.heap.size w w' := by
  cases A with
  | none =>
    have hn : l = [] := by
      rcases hw with h | ⟨g, o, e, _⟩
      · exact h
      · cases e
    subst hn
    have hq : ∀ W, (binOp .eql 24 (.slice none 0 c) (.slice none 0 0)).run Try.prog W = .ok (.bool true) W := fun W => Lib.run_eql_slice_nil W 24 3 none 0 c 0 0 Try.underlying24
    go_enter Try.func19, Try.ntmps19
    go_wp2
    go_ret
    exact ⟨⟨_, rfl, own_nil _ _⟩, Below.refl _ _⟩
  | some ad =>
    obtain ⟨i0, hi, hz0, hz1, hz2⟩ := info_parts info_int
    have HI := Lib.hid hi
    have HZ0 := Lib.hid hz0
    have HZ1 := Lib.hid hz1
    have HZ2 := Lib.hid hz2
    have hb0 : Below w.heap.size w (w.alloc (.cells #[] 3)) := (Below.refl _ _).alloc (Nat.le_refl _) _
    have HN : Hid (∀ j u, (intC l)[j]? = some u → (w.alloc (.cells #[] 3)).cell? (ad.add j) = some u) := by
      refine Lib.hid fun j u hu => ?_
      obtain ⟨ad', e, hc⟩ := (hw.below hb0 (Nat.le_refl _)).src (by have := (List.getElem?_eq_some_iff.1 hu).1; omega)
      injection e with e
      subst e
      exact hc j u hu
    have hlen : l.length ≤ 1000000 := hl
    have hq : ∀ W, (binOp .eql 24 (.slice (some ad) l.length c) (.slice none 0 0)).run Try.prog W = .ok (.bool false) W := fun W => Lib.run_eql_slice_nil W 24 3 (some ad) l.length c 0 0 Try.underlying24
    clear hw hi hz0 hz1 hz2 hb0
    go_enter Try.func19, Try.ntmps19
    go_wp2_with (at_builtin; refine wpList_append_own _ rfl (.tmp 5) (.tmp 6) 24 rfl w.heap.size 3 i0 (.int .i64 0) 1 8 Try.underlying24 HI.out HZ0.out HZ1.out HZ2.out rfl (by decide) (.slice (some ⟨w.heap.size, 0, none⟩) 0 0) 0 [] rfl (World.ownsRow_made w #[] 0 (Nat.le_refl _) (by simp [maxLen]) rfl) ad l.length c (intC l) rfl (by rw [intC_len, Nat.mul_one]) HN.out (intC_one l) (by unfold maxLen; omega) (by omega) (by simp) ?_; intro v' w1 h1 h2 _; have H1 := Lib.hid h1; have H2 := Lib.hid h2; clear h1 h2)
    go_ret
    refine ⟨⟨_, rfl, by have := H1.out; rwa [Nat.zero_add, List.nil_append] at this⟩, ?_⟩
    exact ((Below.refl _ _).alloc (Nat.le_refl _) _).grown H2.out (by simp) (fun k hk => by simp [Value.ownBlock] at hk; omega)
theorem sizes_any (l : List Nat) (w : World) (h6 : l.length ≤ 6) :
    Calls Try.prog 11 #[shV l] w fun e w' => (∃ v, e = .returned v ∧ Own w' w.heap.size v l) ∧ Below w.heap.size w w' := by
  have H := Lib.hid (clone_any (some ⟨w.heap.size, 1, none⟩) 6 l (w.alloc (shO l)) (by omega) (new_sh w l h6))
  have hl : (l.length : Int) ≤ 6 := by omega
  clear h6
  go_enter Try.func11, Try.ntmps11
  go_wp2_with (go_at_call 19; refine H.out.mono ?_; rintro e w' ⟨⟨v, rfl, h1⟩, h2⟩)
  go_ret
  exact ⟨⟨_, rfl, h1.less (by simp)⟩, ((Below.refl _ _).alloc (Nat.le_refl _) _).trans (h2.mono (by simp))⟩
theorem next_drewN {B : Nat} {a w : World} (h : Below B a w) (n : Nat) : Below B a (w.drewN n) := ⟨h.os, h.tape, h.output, h.size, h.block⟩
theorem equal_len (A A2 : Option Addr) (n c n2 c2 : Nat) (w : World) (h : n ≠ n2) :
    Calls Try.prog 10 #[.slice A n c, .slice A2 n2 c2] w fun e w' => e = .returned (.bool false) ∧ Below w.heap.size w w' := by
  have e1 : ((n : Int) != (n2 : Int)) = true := by rw [bne_iff_ne]; omega
  go_enter Try.func10, Try.ntmps10
  go_wp2
  go_ret
  exact ⟨rfl, Below.refl _ _⟩
theorem equal_yes (A A2 : Option Addr) (n c c2 : Nat) (l : List Nat) (w : World) (hn : n = l.length) (hl : n ≤ 1000000) (hw : Ints w A l) (hw2 : Ints w A2 l) :
    Calls Try.prog 10 #[.slice A n c, .slice A2 n c2] w fun e w' => e = .returned (.bool true) ∧ Below w.heap.size w w' := by
  have HN := Lib.hid hn
  have HW := Lib.hid hw
  have HW2 := Lib.hid hw2
  clear hn hw hw2
  go_enter Try.func10, Try.ntmps10
  go_wp2_with fail
  go_loopw [5, 13] (fun _ i wr => ∃ j : Nat, j ≤ n ∧ i = .int .i64 j ∧ Below w.heap.size w wr) (fun _ i _ => n - (intOf i).toNat)
  case atStart => exact ⟨0, Nat.zero_le _, rfl, Below.refl _ _⟩
  case round =>
    obtain ⟨j, hj, rfl, hb⟩ := hrel
    have HB := Lib.hid hb
    clear hb
    by_cases hlt : j < n
    · have hjl : j < l.length := by have := HN.out; omega
      obtain ⟨g, o, rfl, hcell⟩ := (HW.out.below HB.out (Nat.le_refl _)).at_ hjl
      obtain ⟨g2, o2, rfl, hcell2⟩ := (HW2.out.below HB.out (Nat.le_refl _)).at_ hjl
      clear hjl
      generalize (nth l j : Int) = y at hcell hcell2
      have i1 : (j : Int) < (n : Int) := by omega
      have i2 : (0 : Int) ≤ (j : Int) := by omega
      go_wp2_with fail
      go_quiet (fail)
      go_wp2
      go_roundw
      case rel => exact ⟨j + 1, by omega, by go_num, next_drewN HB.out _⟩
      case measure => simp [intOf]; omega
    · go_wp2
      go_ret
      exact ⟨rfl, HB.out⟩
theorem equal_no (A A2 : Option Addr) (n c c2 p : Nat) (l l2 : List Nat) (w : World) (hn : n = l.length) (hn2 : n = l2.length) (hl : n ≤ 1000000) (hw : Ints w A l) (hw2 : Ints w A2 l2) (hp : p < n)
    (hq : ∀ i, i < p → nth l i = nth l2 i) (h : nth l p ≠ nth l2 p) :
    Calls Try.prog 10 #[.slice A n c, .slice A2 n c2] w fun e w' => e = .returned (.bool false) ∧ Below w.heap.size w w' := by
  have HN := Lib.hid hn
  have HN2 := Lib.hid hn2
  have HW := Lib.hid hw
  have HW2 := Lib.hid hw2
  have HQ := Lib.hid hq
  have HX := Lib.hid h
  clear hn hw hw2 hn2 hq h
  go_enter Try.func10, Try.ntmps10
  go_wp2_with fail
  go_loopw [5, 13] (fun _ i wr => ∃ j : Nat, j ≤ p ∧ i = .int .i64 j ∧ Below w.heap.size w wr) (fun _ i _ => n - (intOf i).toNat)
  case atStart => exact ⟨0, Nat.zero_le _, rfl, Below.refl _ _⟩
  case round =>
    obtain ⟨j, hj, rfl, hb⟩ := hrel
    have HB := Lib.hid hb
    clear hb
    have hlt : j < n := by omega
    have hjl : j < l.length := by have := HN.out; omega
    have hjl2 : j < l2.length := by have := HN2.out; omega
    obtain ⟨g, o, rfl, hcell⟩ := (HW.out.below HB.out (Nat.le_refl _)).at_ hjl
    obtain ⟨g2, o2, rfl, hcell2⟩ := (HW2.out.below HB.out (Nat.le_refl _)).at_ hjl2
    clear hjl hjl2
    have i1 : (j : Int) < (n : Int) := by omega
    have i2 : (0 : Int) ≤ (j : Int) := by omega
    by_cases e : j = p
    · have hx : ((nth l j : Int) != (nth l2 j : Int)) = true := by rw [e, bne_iff_ne]; have := HX.out; omega
      generalize (nth l j : Int) = y at hcell hx
      generalize (nth l2 j : Int) = y2 at hcell2 hx
      clear e
      go_wp2_with fail
      go_quiet (fail)
      go_wp2
      go_ret
      exact ⟨rfl, next_drewN HB.out _⟩
    · have hjp : j + 1 ≤ p := by omega
      have hq := HQ.out j (by omega)
      rw [← hq] at hcell2
      generalize (nth l j : Int) = y at hcell hcell2
      clear e hq
      go_wp2_with fail
      go_quiet (fail)
      go_wp2
      go_roundw
      case rel => exact ⟨j + 1, by omega, by go_num, next_drewN HB.out _⟩
      case measure => simp [intOf]; omega
theorem equal_any (A A2 : Option Addr) (c c2 : Nat) (l l2 : List Nat) (w : World) (hl : l.length ≤ 1000000) (hw : Ints w A l) (hw2 : Ints w A2 l2) :
    Calls Try.prog 10 #[.slice A l.length c, .slice A2 l2.length c2] w fun e w' => e = .returned (.bool (decide (l = l2))) ∧ Below w.heap.size w w' := by
  by_cases e : l = l2
  · subst e
    rw [decide_eq_true rfl]
    exact equal_yes A A2 l.length c c2 l w rfl hl hw hw2
  · rw [decide_eq_false e]
    by_cases hlen : l.length = l2.length
    · rcases first_at (fun i => nth l i ≠ nth l2 i) l.length with h | ⟨p, hp, h1, h2⟩
      · exact absurd (nth_eq hlen (fun i hi => by have := h i hi; simpa using this)) e
      · rw [← hlen]
        exact equal_no A A2 l.length c c2 p l l2 w rfl hlen hl hw hw2 hp (fun i hi => by have := h1 i hi; simpa using this) h2
    · exact equal_len A A2 _ c _ c2 w hlen
end Go.Proofs.Ytcfendilaogjlaa
