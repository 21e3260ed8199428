/- Lists of int64 in memory, and a clone of one (no statement of its own). -/
import Derived.Test.YtafcecacldafgaaRows
import Derived.WalkKit
import Derived.WalkLawsBesides
import Derived.Lib.Hide
import Derived.Handy
import Derived.IntWalk
import Derived.Below
import Derived.Maps.AppendAt
import Derived.Lib.SliceRun
import Derived.Laws.OwnMore
namespace Go.Proofs.Ytafcecacldafgaa
open Go.RowKit
set_option linter.unusedVariables false
def I64 (l : List Int) : List Value := l.map fun x => Value.int .i64 x
theorem I64_len (l : List Int) : (I64 l).length = l.length := by simp [I64]
theorem I64_one (l : List Int) : ∀ u ∈ I64 l, u.oneCell' = true := by
  intro u hu
  simp only [I64, List.mem_map] at hu
  obtain ⟨x, _, rfl⟩ := hu
  rfl
/-- A list of the call's own. -/
def OwnL (w : World) (B : Nat) (v : Value) (l : List Int) : Prop := w.ownsRow B 2 1 v l.length (I64 l)
def nthI (l : List Int) (i : Nat) : Int := l.getD i 0
theorem nthI_get (l : List Int) (i : Nat) (h : i < l.length) : l[i] = nthI l i := by simp [nthI, List.getD, h]
theorem nthI_set (l : List Int) (i j : Nat) (x : Int) (h : i < l.length) : nthI (l.set i x) j = if j = i then x else nthI l j := by
  unfold nthI
  rw [List.getD_eq_getElem?_getD, List.getElem?_set, List.getD_eq_getElem?_getD]
  by_cases e : i = j
  · subst e; simp [h]
  · rw [if_neg e, if_neg (fun q => e q.symm)]
/-- A list that came in. -/
def SrcL (w : World) (A : Option Addr) (l : List Int) : Prop := (A = none ∧ l = []) ∨ ∃ ad : Addr, A = some ad ∧ ∀ j, j < l.length → ad.block < w.heap.size ∧ w.cell? (ad.add j) = some (.int .i64 (nthI l j))
theorem SrcL.below {w w' : World} {A : Option Addr} {l : List Int} (h : SrcL w A l) (hb : Below w.heap.size w w') : SrcL w' A l := by
  rcases h with h | ⟨ad, rfl, h⟩
  · exact .inl h
  · refine .inr ⟨ad, rfl, fun j hj => ?_⟩
    obtain ⟨h1, h2⟩ := h j hj
    have e : (ad.add j).block = ad.block := by unfold Addr.add; split <;> rfl
    exact ⟨Nat.lt_of_lt_of_le h1 hb.size, (hb.cell (p := ad.add j) (by rw [e]; exact h1)).trans h2⟩
theorem OwnL.kept {w w' : World} {B : Nat} {v : Value} {l : List Int} {row : Option Nat} (h : OwnL w B v l) (hg : w.grownBy w' row) (hne : v.ownBlock = none ∨ v.ownBlock ≠ row) : OwnL w' B v l := World.ownsRow.kept h hg hne
theorem OwnL.block {w w' : World} {B : Nat} {v : Value} {l : List Int} (h : OwnL w B v l) (hb : ∀ g, v.ownBlock = some g → w'.heap[g]? = w.heap[g]?) : OwnL w' B v l := by
  obtain ⟨h1, ⟨rfl, hn⟩ | ⟨g, cap, cur, rfl, hb', hh, hr⟩⟩ := h
  · exact ⟨h1, .inl ⟨rfl, hn⟩⟩
  · exact ⟨h1, .inr ⟨g, cap, cur, rfl, hb', (hb g rfl).trans hh, hr⟩⟩
theorem OwnL.form {w : World} {B : Nat} {v : Value} {l : List Int} (h : OwnL w B v l) : ∃ A c, v = .slice A l.length c ∧ l.length ≤ c ∧ (0 < l.length → ∃ g, A = some ⟨g, 0, none⟩ ∧ B ≤ g ∧ g < w.heap.size) := by
  rcases h.2 with ⟨rfl, h0⟩ | ⟨g, cap, cur, rfl, hb, hh, hn, _⟩
  · exact ⟨none, 0, by rw [h0], by omega, fun q => by omega⟩
  · exact ⟨_, cap, rfl, hn, fun _ => ⟨g, rfl, hb, (Array.getElem?_eq_some_iff.1 hh).1⟩⟩
theorem OwnL.cell {w : World} {B g c : Nat} {l : List Int} (h : OwnL w B (.slice (some ⟨g, 0, none⟩) l.length c) l) (j : Nat) (hj : j < l.length) : w.cell? ⟨g, j, none⟩ = some (.int .i64 (nthI l j)) := by
  rw [World.ownsRow.cellAt h j (by omega), I64, List.getElem?_map, List.getElem?_eq_getElem hj, nthI_get l j hj]; rfl
theorem OwnL.frozen {w : World} {B g c : Nat} {l : List Int} (h : OwnL w B (.slice (some ⟨g, 0, none⟩) l.length c) l) (j : Nat) : w.frozen? ⟨g, j, none⟩ = false := World.ownsRow.frozenAt h j
theorem OwnL.store {w : World} {B g c : Nat} {l : List Int} (h : OwnL w B (.slice (some ⟨g, 0, none⟩) l.length c) l) (j : Nat) (x : Int) :
    OwnL (w.setCell ⟨g, j, none⟩ (.int .i64 x)) B (.slice (some ⟨g, 0, none⟩) l.length c) (l.set j x) ∧ w.grownBy (w.setCell ⟨g, j, none⟩ (.int .i64 x)) (some g) := by
  obtain ⟨h1, h2⟩ := World.ownsRow.stored h j (.int .i64 x)
  refine ⟨?_, h2⟩
  unfold OwnL
  rw [List.length_set, I64, List.map_set]
  exact h1
theorem info_i64 : (Try.prog.info? 2).map (fun i => (i.zero, i.size, i.bytes)) = some (some (.int .i64 0), 1, 8) := by kernel_rfl
def CloneP (w : World) (l : List Int) (e : Ending) (w' : World) : Prop := ∃ v, e = .returned v ∧ OwnL w' w.heap.size v l ∧ w.grownBy w' none
set_option maxRecDepth 100000 in
theorem clone64 (A : Option Addr) (n c : Nat) (l : List Int) (w : World) (hn : l.length = n) (hl : n ≤ 1000000) (hw : SrcL w A l) :
    Calls Try.prog 18 #[.slice A n c] w (CloneP w l) := by
  subst hn
  rcases hw with ⟨rfl, rfl⟩ | ⟨ad, rfl, hc⟩
  · have hq : ∀ W, (binOp .eql 27 (.slice none 0 c) (.slice none 0 0)).run Try.prog W = .ok (.bool true) W := fun W => Lib.run_eql_slice_nil W 27 2 none 0 c 0 0 Try.underlying27
    go_enter Try.func18, Try.ntmps18
    go_wp2
    go_ret
    exact ⟨_, rfl, World.ownsRow_nil _ _ _ _, rfl, rfl, rfl, Nat.le_refl _, fun _ _ _ => rfl⟩
  · obtain ⟨i0, hi, hz0, hz1, hz2⟩ := info_parts info_i64
    have HI := Lib.hid hi
    have HZ0 := Lib.hid hz0
    have HZ1 := Lib.hid hz1
    have HZ2 := Lib.hid hz2
    have hb0 : Below w.heap.size w (w.alloc (.cells #[] 2)) := (Below.refl _ _).alloc (Nat.le_refl _) _
    have hN : ∀ j u, (I64 l)[j]? = some u → (w.alloc (.cells #[] 2)).cell? (ad.add j) = some u := by
      intro j u hu
      have hj : j < l.length := by have := (List.getElem?_eq_some_iff.1 hu).1; rwa [I64_len] at this
      obtain ⟨h1, h2⟩ := hc j hj
      have e : (ad.add j).block = ad.block := by unfold Addr.add; split <;> rfl
      rw [hb0.cell (p := ad.add j) (by rw [e]; exact h1), h2, ← hu, I64, List.getElem?_map, List.getElem?_eq_getElem hj, nthI_get l j hj]
      rfl
    have HN := Lib.hid hN
    have HG := Lib.hid (World.grownBy_alloc w (.cells #[] 2) none)
    have hq : ∀ W, (binOp .eql 27 (.slice (some ad) l.length c) (.slice none 0 0)).run Try.prog W = .ok (.bool false) W := fun W => Lib.run_eql_slice_nil W 27 2 (some ad) l.length c 0 0 Try.underlying27
    clear hc hi hz0 hz1 hz2 hb0 hN
    go_enter Try.func18, Try.ntmps18
    go_wp2_with (at_builtin; refine wpList_append_own_at _ rfl (.tmp 5) (.tmp 6) 27 rfl w.heap.size 2 i0 (.int .i64 0) 1 8 Try.underlying27 HI.out HZ0.out HZ1.out HZ2.out rfl (by decide) (.slice (some ⟨w.heap.size, 0, none⟩) 0 0) 0 [] rfl (World.ownsRow_made w #[] 0 (Nat.le_refl _) (by simp [maxLen]) rfl) ad l.length c (I64 l) rfl (by rw [I64_len, Nat.mul_one]) HN.out (I64_one l) (by unfold maxLen; omega) (by omega) (by simp) ?_; intro v' w' hown hgr hnil hloc)
    have HO : Hid (OwnL w' w.heap.size v' l) := by
      have h := hown
      rw [Nat.zero_add, List.nil_append] at h
      exact Lib.hid h
    have HG2 : Hid (w.grownBy w' none) := Lib.hid ⟨hgr.os.trans HG.out.os, hgr.tape.trans HG.out.tape, hgr.output.trans HG.out.output, Nat.le_trans HG.out.size hgr.size, fun k hk _ => (hgr.block k (by simp; omega) (by simp [Value.ownBlock]; omega)).trans (HG.out.block k hk (by simp))⟩
    clear hown hgr hnil hloc
    go_wp2_with fail
    go_ret
    exact ⟨_, rfl, HO.out, HG2.out⟩
/-- What came in reads as a list. -/
theorem src_came {w : World} {a : Option Addr} {len cap k : Nat} {zs : List Int}
    (h : (a = none ∧ len = 0 ∧ cap = 0 ∧ zs = []) ∨ ∃ x, a = some x ∧ len ≤ cap ∧ cap ≤ maxLen ∧ zs.length = cap ∧ (∀ i, i < zs.length → w.cell? (x.add i) = some (.int .i64 (zs.getD i 0))) ∧ ∀ n ∈ zs, (Lit.int .i64 n).wf = true) (hk : k ≤ len) :
    SrcL w a (zs.take k) ∧ (zs.take k).length = k ∧ len ≤ cap ∧ (len : Int) ≤ 9223372036854775807 := by
  rcases h with ⟨rfl, rfl, rfl, rfl⟩ | ⟨x, rfl, h1, h2, h3, h4, h5⟩
  · exact ⟨.inl ⟨rfl, by simp⟩, by simp; omega, Nat.le_refl _, by omega⟩
  · have hlen : (zs.take k).length = k := by rw [List.length_take]; omega
    refine ⟨.inr ⟨x, rfl, fun j hj => ?_⟩, hlen, h1, by unfold maxLen at h2; omega⟩
    rw [hlen] at hj
    have hj' : j < zs.length := by omega
    have hc := h4 j hj'
    have hb := World.block_lt_of_cell? w _ hc
    have e : (x.add j).block = x.block := by unfold Addr.add; split <;> rfl
    rw [e] at hb
    refine ⟨hb, ?_⟩
    rw [hc]
    congr 2
    unfold nthI
    rw [List.getD_eq_getElem?_getD, List.getD_eq_getElem?_getD, List.getElem?_take, if_pos hj]
theorem wf_u8 {a : Int} (h : (Lit.int .u8 a).wf = true) : 0 ≤ a ∧ a ≤ 255 := by
  have h := h
  simp [Lit.wf] at h
  exact h
theorem u8_came {w : World} {a : Option Addr} {len cap : Nat} {zs : List Int}
    (h : (a = none ∧ len = 0 ∧ cap = 0 ∧ zs = []) ∨ ∃ x, a = some x ∧ len ≤ cap ∧ cap ≤ maxLen ∧ zs.length = cap ∧ (∀ i, i < zs.length → w.cell? (x.add i) = some (.int .u8 (zs.getD i 0))) ∧ ∀ n ∈ zs, (Lit.int .u8 n).wf = true) :
    (a = none → len = 0) ∧ (∀ j, j < len → ∃ p : Addr, a = some p ∧ p.block < w.heap.size ∧ w.cell? (p.add j) = some (.int .u8 (zs.getD j 0)) ∧ 0 ≤ zs.getD j 0 ∧ zs.getD j 0 ≤ 255) ∧ (len : Int) ≤ 9223372036854775807 := by
  rcases h with ⟨_, rfl, _, _⟩ | ⟨x, rfl, h1, h2, h3, h4, h5⟩
  · exact ⟨fun _ => rfl, fun j hj => absurd hj (Nat.not_lt_zero _), by omega⟩
  · refine ⟨fun e => (by cases e), fun j hj => ?_, by unfold maxLen at h2; omega⟩
    have hj' : j < zs.length := by omega
    have hc := h4 j hj'
    have hb := World.block_lt_of_cell? w _ hc
    have e : (x.add j).block = x.block := by unfold Addr.add; split <;> rfl
    rw [e] at hb
    have hw := wf_u8 (h5 (zs.getD j 0) (by rw [List.getD_eq_getElem?_getD, List.getElem?_eq_getElem hj']; exact List.getElem_mem hj'))
    exact ⟨x, rfl, hb, hc, hw.1, hw.2⟩
end Go.Proofs.Ytafcecacldafgaa
