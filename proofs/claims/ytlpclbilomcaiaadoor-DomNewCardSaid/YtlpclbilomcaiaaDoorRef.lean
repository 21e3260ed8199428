/- Contracts of the document's answers for layer 2: Next, Drop, Put, Both (no statement of its own). Condition: at most 1000 values. -/
import Derived.Test.YtlpclbilomcaiaaDoorList
import Derived.Deep.DeepMust
namespace Go.Proofs.YtlpclbilomcaiaaDoor
open Go.RowKit
set_option linter.unusedVariables false
def nextI (l : List Nat) (v : Int) : Int := match l.find? (fun y : Nat => decide (v < (y : Int))) with
  | some y => y
  | none => -1
theorem getD_get {l : List Nat} {i : Nat} (hi : i < l.length) : l.getD i 0 = l[i] := by
  rw [List.getD_eq_getElem?_getD, List.getElem?_eq_getElem hi]; rfl
theorem nextI_no {l : List Nat} {v : Int} (h : ∀ i, i < l.length → ¬ v < ((l.getD i 0 : Nat) : Int)) : nextI l v = -1 := by
  unfold nextI
  rw [List.find?_eq_none.2]
  intro y hy
  obtain ⟨i, hi, rfl⟩ := List.getElem_of_mem hy
  have := h i hi
  rw [getD_get hi] at this
  simpa using this
theorem nextI_yes {l : List Nat} {v : Int} {p : Nat} (hp : p < l.length) (hq : ∀ i, i < p → ¬ v < ((l.getD i 0 : Nat) : Int)) (h : v < ((l.getD p 0 : Nat) : Int)) : nextI l v = ((l.getD p 0 : Nat) : Int) := by
  unfold nextI
  have : l.find? (fun y : Nat => decide (v < (y : Int))) = some l[p] := by
    rw [List.find?_eq_some_iff_getElem]
    rw [getD_get hp] at h
    refine ⟨by simpa using h, p, hp, rfl, fun j hj => ?_⟩
    have := hq j hj
    rw [getD_get (by omega)] at this
    simpa using this
  rw [this, getD_get hp]
theorem rnext_no (A : Option Addr) (n c : Nat) (l : List Nat) (x : Int) (w : World) (hn : n = l.length) (hl : n ≤ 1000) (hw : Lst w A l) (h : ∀ i, i < l.length → ¬ x < ((l.getD i 0 : Nat) : Int)) :
    Calls Tryd.prog 17 #[.slice A n c, .int .i64 x] w fun e w' => e = .returned (.int .i64 (-1)) ∧ w = w' := by
  have HN := Lib.hid hn
  have HW := Lib.hid hw
  have HX := Lib.hid h
  clear hn hw h
  go_enter Tryd.func17, Tryd.ntmps17
  go_wp2_with fail
  go_loop [6, 9] (fun _ i => ∃ j : Nat, j ≤ n ∧ i = .int .i64 j) (fun _ i => n - (intOf i).toNat)
  case atStart => exact ⟨0, Nat.zero_le _, rfl⟩
  case round =>
    obtain ⟨j, hj, rfl⟩ := hrel
    by_cases hlt : j < n
    · have hjl : j < l.length := by have := HN.out; omega
      obtain ⟨g, rfl, hcell⟩ := HW.out.at_ hjl
      have hx := HX.out j hjl
      clear hjl
      generalize ((l.getD j 0 : Nat) : Int) = y at hcell hx
      go_wp2
      go_round
      case rel => exact ⟨j + 1, by omega, by go_num⟩
      case measure => simp [intOf]; omega
    · go_wp2
      go_ret
      exact ⟨rfl, rfl⟩
theorem rnext_yes (A : Option Addr) (n c p : Nat) (l : List Nat) (x : Int) (w : World) (hn : n = l.length) (hl : n ≤ 1000) (hw : Lst w A l) (hp : p < n) (hq : ∀ i, i < p → ¬ x < ((l.getD i 0 : Nat) : Int)) (h : x < ((l.getD p 0 : Nat) : Int)) :
    Calls Tryd.prog 17 #[.slice A n c, .int .i64 x] w fun e w' => e = .returned (.int .i64 ((l.getD p 0 : Nat) : Int)) ∧ w = w' := by
  have HN := Lib.hid hn
  have HW := Lib.hid hw
  have HX := Lib.hid h
  have HQ := Lib.hid hq
  obtain ⟨r, HR⟩ : ∃ r : Int, Hid (((l.getD p 0 : Nat) : Int) = r) := ⟨_, Lib.hid rfl⟩
  rw [HR.out]
  clear hn hw h hq
  go_enter Tryd.func17, Tryd.ntmps17
  go_wp2_with fail
  go_loop [6, 9] (fun _ i => ∃ j : Nat, j ≤ p ∧ i = .int .i64 j) (fun _ i => n - (intOf i).toNat)
  case atStart => exact ⟨0, Nat.zero_le _, rfl⟩
  case round =>
    obtain ⟨j, hj, rfl⟩ := hrel
    have hlt : j < n := by omega
    have hjl : j < l.length := by have := HN.out; omega
    obtain ⟨g, rfl, hcell⟩ := HW.out.at_ hjl
    clear hjl
    by_cases e : j = p
    · have hx : x < r := by rw [← HR.out]; exact HX.out
      rw [e, HR.out] at hcell
      rw [e] at hlt hj ⊢
      clear e
      go_wp2
      go_ret
      exact ⟨rfl, rfl⟩
    · have hx := HQ.out j (by omega)
      have hjp : j + 1 ≤ p := by omega
      generalize ((l.getD j 0 : Nat) : Int) = y at hcell hx
      clear e
      go_wp2
      go_round
      case rel => exact ⟨j + 1, by omega, by go_num⟩
      case measure => simp [intOf]; omega
theorem rnext_any (A : Option Addr) (n c : Nat) (l : List Nat) (x : Int) (w : World) (hn : n = l.length) (hl : n ≤ 1000) (hw : Lst w A l) :
    Calls Tryd.prog 17 #[.slice A n c, .int .i64 x] w fun e w' => e = .returned (.int .i64 (nextI l x)) ∧ w = w' := by
  rcases first_place (fun i => x < ((l.getD i 0 : Nat) : Int)) l.length with h | ⟨p, hp, h1, h2⟩
  · rw [nextI_no h]
    exact rnext_no A n c l x w hn hl hw h
  · rw [nextI_yes hp h1 h2]
    exact rnext_yes A n c p l x w hn hl hw (by omega) h1 h2
/-! rows that the call itself makes -/
/-- The slice v, one of the call's own from base on, holds the values l. -/
def Own (w : World) (base : Nat) (v : Value) (l : List Nat) : Prop := w.ownsRow base 3 1 v l.length (l.map fun y => Value.int .i64 ((y : Nat) : Int))
theorem Own.form {w : World} {base : Nat} {v : Value} {l : List Nat} (h : Own w base v l) : ∃ A c, v = .slice A l.length c ∧ Lst w A l := by
  obtain ⟨_, ⟨rfl, hn⟩ | ⟨g, cap, cur, rfl, hb, hh, hm, _, hs, ht⟩⟩ := h
  · exact ⟨none, 0, by rw [hn], .inl (List.eq_nil_of_length_eq_zero hn)⟩
  · refine ⟨_, cap, rfl, .inr ⟨g, rfl, (Array.getElem?_eq_some_iff.1 hh).1, fun i hi => ?_⟩⟩
    rw [cell_of_row w g i cur 3 (0, 0) hh]
    have e : (cur.toList.take (l.length * 1))[i]? = some (.int .i64 ((l.getD i 0 : Nat) : Int)) := by rw [ht, getD_get hi]; simp [hi]
    rw [List.getElem?_take] at e
    simpa [hi] using e
theorem Own.below {w w' : World} {base B : Nat} {v : Value} {l : List Nat} (h : Own w base v l) (hb : Below B w w') (hB : w.heap.size ≤ B) : Own w' base v l := by
  obtain ⟨h1, ⟨rfl, hn⟩ | ⟨g, cap, cur, rfl, hb', hh, hm, hx, hs, ht⟩⟩ := h
  · exact ⟨h1, .inl ⟨rfl, hn⟩⟩
  · refine ⟨h1, .inr ⟨g, cap, cur, rfl, hb', ?_, hm, hx, hs, ht⟩⟩
    rw [hb.block g (by have := (Array.getElem?_eq_some_iff.1 hh).1; omega)]
    exact hh
theorem own_nil (w : World) (base : Nat) : Own w base (.slice none 0 0) [] := World.ownsRow_nil w base 3 1
theorem info3 : (Tryd.prog.info? 3).map (fun i => (i.zero, i.size, i.bytes)) = some (some (.int .i64 0), 1, 8) := by kernel_rfl
theorem push_own {ops : Array Oper} {rest : List Oper} {o : Oper} {a : Act} {Q : Exit → Act → World → Prop} (hgd : o.guard = none) (s x : Operand)
    (ho : o.op = .call { callee := .builtin .append, args := #[s, x], argTypes := #[23, 23] })
    (W : World) (base : Nat) (v : Value) (l : List Nat) (y : Nat) (hs : a.eval s = v) (hx : a.eval x = .slice (some ⟨W.heap.size, 0, none⟩) 1 1)
    (hown : Own W base v l) (hbase : base ≤ W.heap.size) (hl : l.length ≤ 1000)
    (h : ∀ v' w', Own w' base v' (l ++ [y]) → Below base W w' → wpList Tryd.prog ops Q rest (a.put o.dst v') w') :
    wpList Tryd.prog ops Q (o :: rest) a (W.alloc (.cells #[.int .i64 ((y : Nat) : Int)] 3)) := by
  obtain ⟨i0, hi, hz0, hz1, hz2⟩ := info_parts info3
  have hb : Below base W (W.alloc (.cells #[.int .i64 ((y : Nat) : Int)] 3)) := (Below.refl _ _).alloc hbase _
  have hown' : Own (W.alloc (.cells #[.int .i64 ((y : Nat) : Int)] 3)) base v l := hown.below ((Below.refl W.heap.size W).alloc (Nat.le_refl _) _) (Nat.le_refl _)
  refine wpList_append_own _ hgd s x 23 ho base 3 i0 (.int .i64 0) 1 8 Tryd.underlying23 hi hz0 hz1 hz2 rfl (by decide) v l.length _ hs hown' ⟨W.heap.size, 0, none⟩ 1 1 [.int .i64 ((y : Nat) : Int)] hx rfl ?_ ?_ (by unfold maxLen; omega) (by omega) (by simp; omega) ?_
  · intro j u hj
    match j, hj with
    | 0, hj =>
      simp at hj
      subst hj
      show (W.alloc (.cells #[.int .i64 ((y : Nat) : Int)] 3)).cell? ⟨W.heap.size, 0, none⟩ = _
      rw [World.cell?_alloc_at _ _ _ _ rfl]
      rfl
  · intro u hu
    simp at hu
    subst hu
    rfl
  · intro v' w' hown2 hgrow _
    refine h v' w' ?_ (hb.grown hgrow (by simp; omega) (fun k e => (hown'.lt k e).1))
    unfold Own
    rw [List.length_append, List.map_append]
    exact hown2
theorem take_filter (l : List Nat) (q : Nat → Bool) (j y : Nat) (hj : j < l.length) (hy : l.getD j 0 = y) :
    (l.take (j + 1)).filter q = if q y then (l.take j).filter q ++ [y] else (l.take j).filter q := by
  rw [getD_get hj] at hy
  rw [List.take_succ_eq_append_getElem hj, List.filter_append, hy]
  by_cases h : q y = true
  · rw [if_pos h]; simp [h]
  · rw [if_neg h]; simp [h]
theorem filter_len (l : List Nat) (q : Nat → Bool) (j : Nat) (h : l.length ≤ 1000) : ((l.take j).filter q).length ≤ 1000 := by
  have h1 := List.length_filter_le q (l.take j)
  have h2 := List.length_take_le j l
  have h3 : (l.take j).length ≤ l.length := by simp; omega
  omega
def neB (x : Int) (y : Nat) : Bool := decide ((y : Int) ≠ x)
set_option maxRecDepth 100000 in
theorem rdrop_any (A : Option Addr) (n c : Nat) (l : List Nat) (x : Int) (w : World) (hn : n = l.length) (hl : n ≤ 1000) (hw : Lst w A l) :
    Calls Tryd.prog 13 #[.slice A n c, .int .i64 x] w fun e w' => (∃ v, e = .returned v ∧ Own w' w.heap.size v (l.filter (neB x))) ∧ Below w.heap.size w w' := by
  have HN := Lib.hid hn
  have HW := Lib.hid hw
  clear hn hw
  go_enter Tryd.func13, Tryd.ntmps13
  go_wp2_with fail
  go_loopw [5, 7, 10] (fun v _ i wr => ∃ j : Nat, j ≤ n ∧ i = .int .i64 j ∧ Own wr w.heap.size v ((l.take j).filter (neB x)) ∧ Below w.heap.size w wr) (fun _ _ i _ => n - (intOf i).toNat)
  case atStart => exact ⟨0, Nat.zero_le _, rfl, own_nil _ _, Below.refl _ _⟩
  case round =>
    obtain ⟨j, hj, rfl, hown, hb⟩ := hrel
    have HO := Lib.hid hown
    have HB := Lib.hid hb
    have hsz := hb.size
    clear hown hb
    by_cases hlt : j < n
    · have hjl : j < l.length := by have := HN.out; omega
      obtain ⟨g, rfl, hcell⟩ := (HW.out.below HB.out (Nat.le_refl _)).at_ hjl
      obtain ⟨y, hy⟩ : ∃ y, l.getD j 0 = y := ⟨_, rfl⟩
      have HT := Lib.hid (take_filter l (neB x) j y hjl hy)
      have HL := Lib.hid (filter_len l (neB x) j (by have := HN.out; omega))
      rw [hy] at hcell
      clear hy hjl
      by_cases e : (y : Int) = x
      · have e1 : ((y : Int) != x) = false := by simpa using e
        have HT' : Hid ((l.take (j + 1)).filter (neB x) = (l.take j).filter (neB x)) := Lib.hid (by rw [HT.out, if_neg (by simpa [neB] using e)])
        clear e
        go_wp2
        go_roundw
        case rel => exact ⟨j + 1, by omega, by go_num, by rw [HT'.out]; exact HO.out, HB.out⟩
        case measure => simp [intOf]; omega
      · have e1 : ((y : Int) != x) = true := by simpa using e
        have HT' : Hid ((l.take (j + 1)).filter (neB x) = (l.take j).filter (neB x) ++ [y]) := Lib.hid (by rw [HT.out, if_pos (by simpa [neB] using e)])
        clear e
        go_wp2_with (at_builtin; go_must (refine push_own rfl (.tmp 17) (.tmp 19) rfl wr w.heap.size u5 _ y rfl rfl HO.out hsz HL.out ?_); intro v' w1 h1 h2; have H1 := Lib.hid h1; have H2 := Lib.hid h2; clear h1 h2)
        go_roundw
        case rel => exact ⟨j + 1, by omega, by go_num, by rw [HT'.out]; exact H1.out, HB.out.trans H2.out⟩
        case measure => simp [intOf]; omega
    · obtain rfl : j = n := by omega
      go_wp2
      go_ret
      have ht : l.take j = l := List.take_of_length_le (by have := HN.out; omega)
      have ho := HO.out
      rw [ht] at ho
      exact ⟨⟨_, rfl, ho⟩, HB.out⟩
end Go.Proofs.YtlpclbilomcaiaaDoor
