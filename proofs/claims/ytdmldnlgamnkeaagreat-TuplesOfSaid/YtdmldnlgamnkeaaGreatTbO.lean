/- What ShapeRaw's walk asks of slices of any integers (no statement of its own). -/
import Derived.Test.YtdmldnlgamnkeaaGreatSh2
import Derived.Deep.RegionWith
import Derived.Deep.CutRange
namespace Go.Proofs.YtdmldnlgamnkeaaGreat
open Go.RowKit
set_option linter.unusedVariables false
def mn2 (x y : Int) : Int := min x y
theorem run_mn2 {P : Program} (w : World) (ts : Array TypeId) (t : TypeId) (k k' : IntKind) (x y : Int) :
    (Builtin.min_ ts t #[.int k x, .int k' y]).run P w = .ok (.int k (mn2 x y)) w := by
  have e : (if y < x then y else x) = mn2 x y := by
    unfold mn2; split <;> omega
  simp [Builtin.min_, Builtin.min2, e]
/-- A slice that came in holds the integers z of its first n places. -/
def Ext (w : World) (A : Option Addr) (n : Nat) (z : Nat → Int) : Prop := (A = none ∧ n = 0) ∨ ∃ x : Addr, A = some x ∧ ∀ j, j < n → x.block < w.heap.size ∧ w.cell? (x.add j) = some (.int .i64 (z j))
theorem Ext.below {w w' : World} {A : Option Addr} {n : Nat} {z : Nat → Int} (h : Ext w A n z) (hb : Below w.heap.size w w') : Ext w' A n z := by
  rcases h with h | ⟨x, rfl, hc⟩
  · exact .inl h
  · exact .inr ⟨x, rfl, fun j hj => ⟨Nat.lt_of_lt_of_le (hc j hj).1 hb.size, (hb.cell (p := x.add j) (by rw [block_add]; exact (hc j hj).1)).trans (hc j hj).2⟩⟩
theorem Ext.less {w : World} {A : Option Addr} {n m : Nat} {z : Nat → Int} (h : Ext w A n z) (hm : m ≤ n) : Ext w A m z := by
  rcases h with ⟨rfl, rfl⟩ | ⟨x, rfl, hc⟩
  · exact .inl ⟨rfl, by omega⟩
  · exact .inr ⟨x, rfl, fun j hj => hc j (by omega)⟩
abbrev zC (n : Nat) (z : Nat → Int) : List Value := (List.range n).map fun i => Value.int .i64 (z i)
theorem zC_get {n : Nat} {z : Nat → Int} {j : Nat} {v : Value} (h : (zC n z)[j]? = some v) : j < n ∧ v = .int .i64 (z j) := by
  simp only [zC, List.getElem?_map, Option.map_eq_some_iff] at h
  obtain ⟨x, hx, rfl⟩ := h
  have hj : j < n := by have := (List.getElem?_eq_some_iff.1 hx).1; simpa using this
  rw [List.getElem?_range hj] at hx
  injection hx with hx
  subst hx
  exact ⟨hj, rfl⟩
theorem zs_of_row {w : World} {base n : Nat} {v : Value} {z : Nat → Int} (h : w.ownsRow base 3 1 v n (zC n z)) : ∃ A c, v = .slice A n c ∧ Zs w A n z := by
  obtain ⟨_, ⟨rfl, hn⟩ | ⟨g, cap, cur, rfl, hb, hh, hm, _, hs, ht⟩⟩ := h
  · subst hn
    exact ⟨none, 0, rfl, .inl rfl⟩
  · refine ⟨_, cap, rfl, .inr ⟨g, 0, rfl, (Array.getElem?_eq_some_iff.1 hh).1, fun i hi => ?_⟩⟩
    rw [Nat.zero_add, cell_of_row w g i cur 3 (0, 0) hh]
    have e : (cur.toList.take (n * 1))[i]? = some (.int .i64 (z i)) := by rw [ht]; simp [zC, hi]
    rw [List.getElem?_take] at e
    simpa [hi] using e
theorem clone_ext (A : Option Addr) (n c : Nat) (z : Nat → Int) (w : World) (hl : n ≤ 1000000) (hw : Ext w A n z) :
    Calls Tryz.prog 42 #[.slice A n c] w fun e w' => (∃ A' c', e = .returned (.slice A' n c') ∧ Zs w' A' n z) ∧ Below w.heap.size w w' := by
  rcases hw with ⟨rfl, rfl⟩ | ⟨ad, rfl, hc⟩
  · have hq : ∀ W, (binOp .eql 26 (.slice none 0 c) (.slice none 0 0)).run Tryz.prog W = .ok (.bool true) W := fun W => Lib.run_eql_slice_nil W 26 3 none 0 c 0 0 Tryz.underlying26
    go_enter Tryz.func42, Tryz.ntmps42
    go_wp2
    go_ret
    exact ⟨⟨none, 0, rfl, .inl rfl⟩, Below.refl _ _⟩
  · obtain ⟨i0, hi, hz0, hz1, hz2⟩ := info_parts info_int
    have HI := Lib.hid hi
    have HZ0 := Lib.hid hz0
    have HZ1 := Lib.hid hz1
    have HZ2 := Lib.hid hz2
    have hb0 : Below w.heap.size w (w.alloc (.cells #[] 3)) := (Below.refl _ _).alloc (Nat.le_refl _) _
    have HN : Hid (∀ j u, (zC n z)[j]? = some u → (w.alloc (.cells #[] 3)).cell? (ad.add j) = some u) := by
      refine Lib.hid fun j u hu => ?_
      obtain ⟨hj, rfl⟩ := zC_get hu
      exact (hb0.cell (p := ad.add j) (by rw [block_add]; exact (hc j hj).1)).trans (hc j hj).2
    have H1 : Hid (∀ u ∈ zC n z, u.oneCell' = true) := Lib.hid fun u hu => by
      simp only [zC, List.mem_map] at hu
      obtain ⟨x, _, rfl⟩ := hu
      rfl
    have hq : ∀ W, (binOp .eql 26 (.slice (some ad) n c) (.slice none 0 0)).run Tryz.prog W = .ok (.bool false) W := fun W => Lib.run_eql_slice_nil W 26 3 (some ad) n c 0 0 Tryz.underlying26
    clear hc hi hz0 hz1 hz2 hb0
    go_enter Tryz.func42, Tryz.ntmps42
    go_wp2_with (at_builtin; refine wpList_append_own _ rfl (.tmp 5) (.tmp 6) 26 rfl w.heap.size 3 i0 (.int .i64 0) 1 8 Tryz.underlying26 HI.out HZ0.out HZ1.out HZ2.out rfl (by decide) (.slice (some ⟨w.heap.size, 0, none⟩) 0 0) 0 [] rfl (World.ownsRow_made w #[] 0 (Nat.le_refl _) (by simp [maxLen]) rfl) ad n c (zC n z) rfl (by simp [zC]) HN.out H1.out (by unfold maxLen; omega) (by omega) (by simp) ?_; intro v' w1 h1 h2 _; have K1 := Lib.hid h1; have K2 := Lib.hid h2; clear h1 h2)
    go_ret
    have h := K1.out
    rw [Nat.zero_add, List.nil_append] at h
    obtain ⟨A', c', e, hz⟩ := zs_of_row h
    refine ⟨⟨A', c', congrArg Ending.returned e, hz⟩, ?_⟩
    exact ((Below.refl _ _).alloc (Nat.le_refl _) _).grown K2.out (by simp) (fun k hk => by simp [Value.ownBlock] at hk; omega)
end Go.Proofs.YtdmldnlgamnkeaaGreat
