/- Contract of the document's Words (no statement of its own). Condition: at most 100000 bytes. -/
import Derived.Test.YtcfendilaogjlaaDoorSc4
import Derived.Deep.AppendLies
import Derived.StillTailTactics
import Derived.WalkSmall
namespace Go.Proofs.YtcfendilaogjlaaDoor
open Go.RowKit
set_option linter.unusedVariables false
abbrev encW (s : ByteArray) (x : Nat × Nat) : List Value := [.string (s.extract x.1 x.2), .int .i64 (x.1 : Int)]
def wC (s : ByteArray) (ws : List (Nat × Nat)) : List Value := ws.flatMap (encW s)
theorem wC_snoc (s : ByteArray) (ws : List (Nat × Nat)) (x : Nat × Nat) : wC s (ws ++ [x]) = wC s ws ++ encW s x := by simp [wC, List.flatMap_append]
theorem wC_len (s : ByteArray) (ws : List (Nat × Nat)) : (wC s ws).length = ws.length * 2 := by
  induction ws with
  | nil => rfl
  | cons x ws ih => simp [wC, List.flatMap_cons] at ih ⊢; omega
/-- A slice of words that the call has made. -/
def OwnW (W : World) (base : Nat) (v : Value) (s : ByteArray) (ws : List (Nat × Nat)) : Prop := W.ownsRow base 31 2 v ws.length (wC s ws)
theorem info_word : (Tryd.prog.info? 31).map (fun i => (i.zero, i.size, i.bytes)) = some (some (.agg #[.string ⟨#[]⟩, .int .i64 0]), 2, 24) := by kernel_rfl
theorem size_u8 : ∀ w, (Go.sizeOf 5).run Tryd.prog w = .ok 1 w := by
  intro w
  simp [Go.sizeOf]
  rfl
theorem OwnW.nil (W : World) (base : Nat) (s : ByteArray) : OwnW W base (.slice none 0 0) s [] := World.ownsRow_nil W base 31 2
theorem OwnW.below {w w' : World} {base B : Nat} {v : Value} {s : ByteArray} {ws : List (Nat × Nat)} (h : OwnW w base v s ws) (hb : Below B w w') (hB : w.heap.size ≤ B) : OwnW w' base v s ws := by
  obtain ⟨h1, ⟨rfl, hn⟩ | ⟨g, cap, cur, rfl, hb', hh, hm, hx, hs, ht⟩⟩ := h
  · exact ⟨h1, .inl ⟨rfl, hn⟩⟩
  · refine ⟨h1, .inr ⟨g, cap, cur, rfl, hb', ?_, hm, hx, hs, ht⟩⟩
    rw [hb.block g (by have := (Array.getElem?_eq_some_iff.1 hh).1; omega)]
    exact hh
theorem OwnW.form {w : World} {base : Nat} {v : Value} {s : ByteArray} {ws : List (Nat × Nat)} (h : OwnW w base v s ws) : ∃ A c, v = .slice A ws.length c ∧ ∀ j (hj : j < ws.length), ∃ g, A = some ⟨g, 0, none⟩ ∧ g < w.heap.size ∧ base ≤ g ∧ w.cell? ⟨g, j * 2, none⟩ = some (.string (s.extract ws[j].1 ws[j].2)) ∧ w.cell? ⟨g, j * 2 + 1, none⟩ = some (.int .i64 (ws[j].1 : Int)) ∧ (∀ i, w.frozen? ⟨g, i, none⟩ = false) := by
  have h0 := h
  obtain ⟨hl, ⟨rfl, hn⟩ | ⟨g, cap, cur, rfl, hb, hh, hm, hcm, hs, ht⟩⟩ := h
  · exact ⟨none, 0, by rw [hn], fun j hj => by omega⟩
  · refine ⟨_, cap, rfl, fun j hj => ⟨g, rfl, (Array.getElem?_eq_some_iff.1 hh).1, hb, ?_, ?_, fun i => frozen_of_row w g i cur 31 hh⟩⟩
    all_goals
      have hget : ∀ (ws : List (Nat × Nat)) (j : Nat) (hj : j < ws.length), (wC s ws)[j * 2]? = some (.string (s.extract ws[j].1 ws[j].2)) ∧ (wC s ws)[j * 2 + 1]? = some (.int .i64 (ws[j].1 : Int)) := by
        intro ws
        induction ws with
        | nil => intro j hj; simp at hj
        | cons x ws ih =>
          intro j hj
          cases j with
          | zero => exact ⟨rfl, rfl⟩
          | succ j =>
            have := ih j (by simpa using hj)
            rw [show (j + 1) * 2 = j * 2 + 2 by omega, show j * 2 + 2 + 1 = j * 2 + 1 + 2 by omega]
            exact this
      have := hget ws j hj
    · have e : (cur.toList.take (ws.length * 2))[j * 2]? = some (.string (s.extract ws[j].1 ws[j].2)) := by rw [ht]; exact this.1
      rw [cell_of_row w g (j * 2) cur 31 (0, 0) hh]
      rw [List.getElem?_take, if_pos (by omega)] at e
      simpa using e
    · have e : (cur.toList.take (ws.length * 2))[j * 2 + 1]? = some (.int .i64 (ws[j].1 : Int)) := by rw [ht]; exact this.2
      rw [cell_of_row w g (j * 2 + 1) cur 31 (0, 0) hh]
      rw [List.getElem?_take, if_pos (by omega)] at e
      simpa using e
theorem OwnW.formN {w : World} {base : Nat} {v : Value} {s : ByteArray} {ws : List (Nat × Nat)} (h : OwnW w base v s ws) {m : Nat} (hm : ws.length = m) : ∃ A c, v = .slice A m c ∧ m ≤ c ∧ (0 < m → ∃ g, A = some ⟨g, 0, none⟩ ∧ g < w.heap.size ∧ base ≤ g) := by
  subst hm
  obtain ⟨hl, ⟨rfl, hn⟩ | ⟨g, cap, cur, rfl, hb, hh, hm, hcm, hs, ht⟩⟩ := h
  · exact ⟨none, 0, by rw [hn], by omega, fun h => by omega⟩
  · exact ⟨_, cap, rfl, hm, fun _ => ⟨g, rfl, (Array.getElem?_eq_some_iff.1 hh).1, hb⟩⟩
theorem OwnW.pop {w : World} {base g m c : Nat} {s : ByteArray} {ws : List (Nat × Nat)} {x : Nat × Nat} (h : OwnW w base (.slice (some ⟨g, 0, none⟩) (m + 1) c) s (ws ++ [x])) (hm : ws.length = m) : OwnW w base (.slice (some ⟨g, 0, none⟩) m c) s ws := by
  subst hm
  unfold OwnW at h ⊢
  rw [List.length_append, wC_snoc] at h
  exact ownsRow_pop (wC_len s ws) h
theorem OwnW.last {w : World} {base g n c m : Nat} {s : ByteArray} {ws : List (Nat × Nat)} {f i : Nat} (h : OwnW w base (.slice (some ⟨g, 0, none⟩) n c) s (ws ++ [(f, i)])) (hm : ws.length = m) :
    w.cell? ⟨g, m * 2, none⟩ = some (.string (s.extract f i)) ∧ ∀ j, w.frozen? ⟨g, j, none⟩ = false := by
  subst hm
  obtain ⟨A', c', e, hf⟩ := h.form
  injection e with e1
  subst e1
  obtain ⟨g', e2, _, _, h1, _, h3⟩ := hf ws.length (by simp)
  injection e2 with e2
  injection e2 with e2
  subst e2
  refine ⟨?_, h3⟩
  rw [h1]
  simp
/-- The bytes of one place, as a string. -/
theorem one_byte (w : World) (g o c k : Nat) (s : ByteArray) (hc : k < c) (hk : k < s.size) (hb : Lib.Bytes w g o s) :
    (∀ W, (Instr.slice 22 (.slice (some ⟨g, o, none⟩) s.size c) (some (.int .i64 (k : Int))) (some (.int .i64 ((k : Int) + 1))) none).run Tryd.prog W = .ok (.slice (some ⟨g, o + k, none⟩) 1 (c - k)) W) ∧
    (convert 22 9 (.slice (some ⟨g, o + k, none⟩) 1 (c - k))).run Tryd.prog w = .ok (.string (s.extract k (k + 1))) w := by
  refine ⟨fun W => ?_, Lib.run_convert_window w 22 5 9 Tryd.underlying22 Tryd.underlying5 Tryd.underlying9 g o s hb k 1 (c - k) (by omega)⟩
  have h := Lib.run_slice_window (P := Tryd.prog) W 22 5 Tryd.underlying22 size_u8 g o s.size c k (k + 1) (by omega) (by omega)
  rw [show k + 1 - k = 1 by omega] at h
  exact h
theorem small_wraps (k : Nat) (h : k ≤ 1000000) : IntKind.i64.wrap (k : Int) = (k : Int) ∧ IntKind.i64.wrap ((k : Int) + 1) = (k : Int) + 1 ∧ IntKind.i64.wrap ((k : Int) + 1 - 1) = (k : Int) := by
  refine ⟨IntWalk.i64_in _ (by omega), IntWalk.i64_in _ (by omega), ?_⟩
  rw [show (k : Int) + 1 - 1 = (k : Int) by omega]
  exact IntWalk.i64_in _ (by omega)
theorem bytes_below {w w' : World} {g o B : Nat} {s : ByteArray} (h : Lib.Bytes w g o s) (hb : Below B w w') (hg : g < B) : Lib.Bytes w' g o s := fun i hi => (hb.cell (p := ⟨g, o + i, none⟩) hg).trans (h i hi)
theorem extract_none (s : ByteArray) (i : Nat) : s.extract i i = ⟨#[]⟩ := by
  apply ByteArray.ext
  apply Array.toList_inj.1
  simp
theorem extract_more (s : ByteArray) {f i : Nat} (h : f ≤ i) : s.extract f i ++ s.extract i (i + 1) = s.extract f (i + 1) := by
  apply ByteArray.ext
  apply Array.toList_inj.1
  simp [Nat.min_eq_left h]
theorem extract_sizes (s : ByteArray) (f i : Nat) (hs : s.size ≤ 100000) : ¬ 9223372036854775807 < (s.extract f i).size + (s.extract i (i + 1)).size := by
  rw [ByteArray.size_extract, ByteArray.size_extract]
  omega
/-- append of a word that is empty yet. -/
theorem push_word {ops : Array Oper} {rest : List Oper} {o : Oper} {a : Act} {Q : Exit → Act → World → Prop} (hgd : o.guard = none) (sl x : Operand)
    (ho : o.op = .call { callee := .builtin .append, args := #[sl, x], argTypes := #[27, 27] })
    (W : World) (base : Nat) (v : Value) (s : ByteArray) (ws : List (Nat × Nat)) (i : Nat) (hs : a.eval sl = v) (hx : a.eval x = .slice (some ⟨W.heap.size, 0, none⟩) 1 1)
    (hown : OwnW W base v s ws) (hbase : base ≤ W.heap.size) (hl : ws.length ≤ 1000000)
    (h : ∀ v' w', OwnW w' base v' s (ws ++ [(i, i)]) → Below base W w' → wpList Tryd.prog ops Q rest (a.put o.dst v') w') :
    wpList Tryd.prog ops Q (o :: rest) a (W.alloc (.cells #[.string ⟨#[]⟩, .int .i64 (i : Int)] 31)) := by
  obtain ⟨i0, hi, hz0, hz1, hz2⟩ := info_parts info_word
  have hb : Below base W (W.alloc (.cells #[.string ⟨#[]⟩, .int .i64 (i : Int)] 31)) := (Below.refl _ _).alloc hbase _
  have hown' := hown.below (new_val W (.cells #[.string ⟨#[]⟩, .int .i64 (i : Int)] 31)) (Nat.le_refl _)
  have hc := heap_alloc_new W (.cells #[.string ⟨#[]⟩, .int .i64 (i : Int)] 31)
  refine wpList_append_own _ hgd sl x 27 ho base 31 i0 (.agg #[.string ⟨#[]⟩, .int .i64 0]) 2 24 Tryd.underlying27 hi hz0 hz1 hz2 rfl (by decide) v ws.length _ hs hown' ⟨W.heap.size, 0, none⟩ 1 1 [.string ⟨#[]⟩, .int .i64 (i : Int)] hx rfl ?_ ?_ (by unfold maxLen; omega) (by omega) (by simp; omega) ?_
  · intro j u hj
    rcases j with _ | _ | j
    · simp at hj
      subst hj
      show (W.alloc _).cell? ⟨W.heap.size, 0, none⟩ = _
      rw [cell_of_row _ _ _ _ _ _ hc]
      rfl
    · simp at hj
      subst hj
      show (W.alloc _).cell? ⟨W.heap.size, 1, none⟩ = _
      rw [cell_of_row _ _ _ _ _ _ hc]
      rfl
    · simp at hj
  · intro u hu
    simp at hu
    rcases hu with rfl | rfl <;> rfl
  · intro v' w' k1 k2 _
    refine h v' w' ?_ (hb.grown k2 (by simp; omega) (fun k hk => (World.ownsRow.lt hown k hk).1))
    unfold OwnW
    rw [List.length_append, wC_snoc]
    have e : encW s (i, i) = [.string ⟨#[]⟩, .int .i64 (i : Int)] := by
      show [Value.string (s.extract i i), Value.int .i64 (i : Int)] = _
      rw [extract_none]
    rw [e]
    exact k1
/-- The last word is one byte longer. -/
theorem OwnW.more {w : World} {base g n c : Nat} {s : ByteArray} {ws : List (Nat × Nat)} {f i : Nat} (h : OwnW w base (.slice (some ⟨g, 0, none⟩) n c) s (ws ++ [(f, i)])) :
    OwnW (w.setCell ⟨g, ws.length * 2, none⟩ (.string (s.extract f (i + 1)))) base (.slice (some ⟨g, 0, none⟩) n c) s (ws ++ [(f, i + 1)]) ∧ w.grownBy (w.setCell ⟨g, ws.length * 2, none⟩ (.string (s.extract f (i + 1)))) (some g) := by
  have hn : n = (ws ++ [(f, i)]).length := by
    obtain ⟨A', c', e, _⟩ := h.form
    injection e
  subst hn
  have h2 := World.ownsRow.stored (show w.ownsRow base 31 2 (.slice (some ⟨g, 0, none⟩) (ws ++ [(f, i)]).length c) (ws ++ [(f, i)]).length (wC s (ws ++ [(f, i)])) from h) (ws.length * 2) (.string (s.extract f (i + 1)))
  refine ⟨?_, h2.2⟩
  have e : (wC s (ws ++ [(f, i)])).set (ws.length * 2) (.string (s.extract f (i + 1))) = wC s (ws ++ [(f, i + 1)]) := by
    rw [wC_snoc, wC_snoc, List.set_append_right _ _ (by rw [wC_len]; omega), wC_len, Nat.sub_self]
    rfl
  have h3 := h2.1
  rw [e] at h3
  unfold OwnW
  have el : (ws ++ [(f, i + 1)]).length = (ws ++ [(f, i)]).length := by simp
  rw [el]
  exact h3
end Go.Proofs.YtcfendilaogjlaaDoor
