/- Lists of numbers in memory (no statement of its own). -/
import Derived.Test.YtfheamemoinfeaaFd
import Derived.Test.YtfheamemoinfeaaFg
namespace Go.Proofs.Ytfheamemoinfeaa
open Go.RowKit
set_option linter.unusedVariables false
def IL (l : List Int) : List Value := l.map fun x => Value.int .i64 x
theorem IL_len (l : List Int) : (IL l).length = l.length := by simp [IL]
theorem IL_one (l : List Int) : ∀ u ∈ IL l, u.oneCell' = true := by
  intro u hu
  simp only [IL, List.mem_map] at hu
  obtain ⟨x, _, rfl⟩ := hu
  rfl
def OwnN (w : World) (B : Nat) (v : Value) (l : List Int) : Prop := w.ownsRow B 3 1 v l.length (IL l)
def nthN (l : List Int) (i : Nat) : Int := l.getD i 0
theorem nthN_get (l : List Int) (i : Nat) (h : i < l.length) : l[i] = nthN l i := by simp [nthN, List.getD, h]
theorem nthN_mem {l : List Int} {i : Nat} (h : i < l.length) : nthN l i ∈ l := by rw [← nthN_get l i h]; exact List.getElem_mem h
theorem IL_get (l : List Int) (i : Nat) (h : i < l.length) : (IL l)[i]? = some (.int .i64 (nthN l i)) := by
  rw [IL, List.getElem?_map, List.getElem?_eq_getElem h, nthN_get l i h]; rfl
theorem nthN_set (l : List Int) (i j : Nat) (x : Int) (h : i < l.length) : nthN (l.set i x) j = if j = i then x else nthN l j := by
  unfold nthN
  rw [List.getD_eq_getElem?_getD, List.getElem?_set, List.getD_eq_getElem?_getD]
  by_cases e : i = j
  · subst e; simp [h]
  · rw [if_neg e, if_neg (fun q => e q.symm)]
/-- A list that can be read. -/
def SrcN (w : World) (A : Option Addr) (l : List Int) : Prop := l = [] ∨ ∃ ad : Addr, A = some ad ∧ ad.block < w.heap.size ∧ ∀ j, j < l.length → w.cell? (ad.add j) = some (.int .i64 (nthN l j))
theorem SrcN.below {w w' : World} {B : Nat} {A : Option Addr} {l : List Int} (h : SrcN w A l) (hb : Below B w w') (hB : w.heap.size ≤ B) : SrcN w' A l := by
  rcases h with h | ⟨ad, rfl, h1, h2⟩
  · exact .inl h
  · refine .inr ⟨ad, rfl, Nat.lt_of_lt_of_le h1 hb.size, fun j hj => ?_⟩
    exact (hb.cell (p := ad.add j) (by rw [add_block]; omega)).trans (h2 j hj)
theorem SrcN.grown {w w' : World} {A : Option Addr} {l : List Int} (h : SrcN w A l) (hg : w.grownBy w' none) : SrcN w' A l := by
  rcases h with h | ⟨ad, rfl, h1, h2⟩
  · exact .inl h
  · refine .inr ⟨ad, rfl, Nat.lt_of_lt_of_le h1 hg.size, fun j hj => ?_⟩
    exact (World.cell?_of_block (a := ad.add j) (by rw [add_block]; exact hg.block ad.block h1 (by simp))).trans (h2 j hj)
theorem OwnN.kept {w w' : World} {B : Nat} {v : Value} {l : List Int} {row : Option Nat} (h : OwnN w B v l) (hg : w.grownBy w' row) (hne : v.ownBlock = none ∨ v.ownBlock ≠ row) : OwnN w' B v l := World.ownsRow.kept h hg hne
theorem OwnN.kept0 {w w' : World} {B : Nat} {v : Value} {l : List Int} (h : OwnN w B v l) (hg : w.grownBy w' none) : OwnN w' B v l := h.kept hg (by by_cases e : v.ownBlock = none; exact .inl e; exact .inr e)
theorem OwnN.lt {w : World} {B : Nat} {v : Value} {l : List Int} (h : OwnN w B v l) : ∀ k, v.ownBlock = some k → B ≤ k ∧ k < w.heap.size := World.ownsRow.lt h
theorem ownN_nil (w : World) (B : Nat) : OwnN w B (.slice none 0 0) [] := World.ownsRow_nil w B 3 1
theorem OwnN.form {w : World} {B : Nat} {v : Value} {l : List Int} (h : OwnN w B v l) : ∃ A c, v = .slice A l.length c ∧ l.length ≤ c ∧ c ≤ maxLen ∧ (A = none → c = 0) ∧ (∀ ad, A = some ad → ∃ g, ad = ⟨g, 0, none⟩ ∧ B ≤ g ∧ g < w.heap.size) := by
  rcases h.2 with ⟨rfl, h0⟩ | ⟨g, cap, cur, rfl, hb, hh, hn, hm, _⟩
  · exact ⟨none, 0, by rw [h0], by omega, by simp [maxLen], fun _ => rfl, fun ad e => by cases e⟩
  · exact ⟨_, cap, rfl, hn, hm, (fun e => by cases e), (fun ad e => by cases e; exact ⟨g, rfl, hb, (Array.getElem?_eq_some_iff.1 hh).1⟩)⟩
theorem OwnN.cell {w : World} {B g c : Nat} {l : List Int} (h : OwnN w B (.slice (some ⟨g, 0, none⟩) l.length c) l) (j : Nat) (hj : j < l.length) : w.cell? ⟨g, j, none⟩ = some (.int .i64 (nthN l j)) := by
  rw [World.ownsRow.cellAt h j (by omega)]; exact IL_get l j hj
theorem OwnN.frozen {w : World} {B g c : Nat} {l : List Int} (h : OwnN w B (.slice (some ⟨g, 0, none⟩) l.length c) l) (j : Nat) : w.frozen? ⟨g, j, none⟩ = false := World.ownsRow.frozenAt h j
theorem OwnN.src {w : World} {B n c : Nat} {A : Option Addr} {l : List Int} (h : OwnN w B (.slice A n c) l) (hn : n = l.length) : SrcN w A l := by
  subst hn
  obtain ⟨A', c', e, _, _, h1, h2⟩ := h.form
  injection e with e1 e2 e3
  subst e1
  subst e3
  cases A with
  | none =>
    left
    have := h.2
    rcases this with ⟨_, h0⟩ | ⟨g, cap, cur, e, _⟩
    · exact List.eq_nil_of_length_eq_zero h0
    · injection e with e; cases e
  | some ad =>
    obtain ⟨g, rfl, hB, hg⟩ := h2 ad rfl
    exact .inr ⟨_, rfl, hg, fun j hj => by rw [add_zero_off]; exact h.cell j hj⟩
theorem info_in : (Try.prog.info? 3).map (fun i => (i.zero, i.size, i.bytes)) = some (some (.int .i64 0), 1, 8) := by kernel_rfl
set_option maxRecDepth 100000 in
theorem appN_wp {o : Oper} {a : Act} {K : Act → World → Prop} {Q : Exit → Act → World → Prop} (s x : Operand)
    (ho : o.op = .call { callee := .builtin .append, args := #[s, x], argTypes := #[34, 34] })
    (W : World) (base m cx : Nat) (v : Value) (l l2 : List Int) (Ax : Option Addr) (hm : l2.length = m) (hs : a.eval s = v) (hx : a.eval x = .slice Ax m cx)
    (hown : OwnN W base v l) (hI : SrcN W Ax l2) (hc : Ax = none → cx = 0) (hbase : base ≤ W.heap.size) (hl : l.length ≤ 100000) (hl2 : m ≤ 100000)
    (h : ∀ v' w', OwnN w' base v' (l ++ l2) → W.grownBy w' v.ownBlock → (v'.ownBlock = v.ownBlock ∨ v'.ownBlock = some W.heap.size) → K (a.put o.dst v') w') :
    o.wp Try.prog a W K Q := by
  subst hm
  obtain ⟨i0, hi, hz0, hz1, hz2⟩ := info_parts info_in
  cases Ax with
  | none =>
    have hn : l2 = [] := by
      rcases hI with h | ⟨ad, e, _⟩
      · exact h
      · cases e
    subst hn
    have hc0 := hc rfl
    subst hc0
    have hrun := run_append_owned_none (P := Try.prog) (w := W) base 34 o.type 3 i0 1 Try.underlying34 hi v l.length _ hown
    unfold Oper.wp
    simp [execOp, ho, resolve, invoke, builtin, hs, hx, hrun, Result.andThen]
    exact h v W (by rw [List.append_nil]; exact hown) ⟨rfl, rfl, rfl, Nat.le_refl _, fun k _ _ => rfl⟩ (.inl rfl)
  | some ad =>
    obtain ⟨v', w', hr, h2, h3, h4, h5⟩ := run_append_own_at (P := Try.prog) W base 34 o.type 3 i0 (.int .i64 0) 1 8 Try.underlying34 hi hz0 hz1 hz2 rfl (by decide) v l.length _ hown ad l2.length cx (IL l2) (by rw [IL_len, Nat.mul_one]) (by
      intro j u hu
      have hj : j < l2.length := by have := (List.getElem?_eq_some_iff.1 hu).1; rwa [IL_len] at this
      rcases hI with rfl | ⟨ad', e, _, hcc⟩
      · exact absurd hj (by simp)
      · injection e with e
        subst e
        rw [hcc j hj, ← hu]
        exact (IL_get l2 j hj).symm) (IL_one l2) (by unfold maxLen; omega) (by omega) hbase
    unfold Oper.wp execOp
    simp only [ho, resolve, invoke, builtin, Sem.run_bind, Sem.run_pure, Result.andThen_ok, List.map_toArray, List.map_cons, List.map_nil, hs, hx, hr]
    refine h v' w' ?_ h3 h5
    unfold OwnN
    rw [List.length_append, IL, List.map_append]
    exact h2
theorem appN_own {ops : Array Oper} {rest : List Oper} {o : Oper} {a : Act} {Q : Exit → Act → World → Prop} (hgd : o.guard = none) (s x : Operand)
    (ho : o.op = .call { callee := .builtin .append, args := #[s, x], argTypes := #[34, 34] })
    (W : World) (base m cx : Nat) (v : Value) (l l2 : List Int) (Ax : Option Addr) (hm : l2.length = m) (hs : a.eval s = v) (hx : a.eval x = .slice Ax m cx)
    (hown : OwnN W base v l) (hI : SrcN W Ax l2) (hc : Ax = none → cx = 0) (hbase : base ≤ W.heap.size) (hl : l.length ≤ 100000) (hl2 : m ≤ 100000)
    (h : ∀ v' w', OwnN w' base v' (l ++ l2) → W.grownBy w' v.ownBlock → (v'.ownBlock = v.ownBlock ∨ v'.ownBlock = some W.heap.size) → wpList Try.prog ops Q rest (a.put o.dst v') w') :
    wpList Try.prog ops Q (o :: rest) a W :=
  wpList_plain hgd fun _ hK => appN_wp s x ho W base m cx v l l2 Ax hm hs hx hown hI hc hbase hl hl2 fun v' w' h1 h2 h3 => hK _ _ (h v' w' h1 h2 h3)
theorem cellsI : Try.prog.cellsOf 3 = 1 := by kernel_rfl
theorem trod_i {H : Type} {enc : TypeId × Value → H} {W : World} {base : Nat} {sp : Nat → Bool} {hd : Bool} {fuel : Nat} {cs : List Value} {x : DataW H × List MemPlace}
    (h : DataW.trod enc Try.prog W base sp hd fuel 3 cs = some x) : ∃ b : Int, cs = [.int .i64 b] ∧ (Lit.int .i64 b).wf = true := by
  obtain ⟨n, e, _, hw⟩ := DataW.trod_int Try.underlying3 h
  exact ⟨n, e, hw⟩
/-- A list of numbers that came in. -/
def InI (w : World) (A : Option Addr) (n c : Nat) (l : List Int) : Prop := l.length = n ∧ SrcN w A l ∧ (A = none → c = 0) ∧ n ≤ c ∧ c ≤ maxLen ∧ ∀ x ∈ l, -9223372036854775808 ≤ x ∧ x ≤ 9223372036854775807
theorem ints_came {H : Type} {enc : TypeId × Value → H} {W : World} {base : Nat} {sp : Nat → Bool} {hd : Bool} {fuel : Nat} {a : Option Addr} {len cap : Nat} {x : DataW H × List MemPlace}
    (hf : DataW.trod enc Try.prog W base sp hd fuel 34 (Value.cells (.slice a len cap)).toList = some x) : ∃ l, InI W a len cap l := by
  rcases Go.Deep.open_slice1 Try.underlying34 cellsI hf with ⟨hcs, _⟩ | ⟨p, l, c, m, nf, V, D, Pl, hcs, _, hl, hm, hmm, _, hi⟩
  · simp [Value.cells] at hcs
    obtain ⟨rfl, rfl, rfl⟩ := hcs
    exact ⟨[], rfl, .inl rfl, fun _ => rfl, Nat.le_refl _, by simp [maxLen], fun x hx => by cases hx⟩
  · simp [Value.cells] at hcs
    obtain ⟨rfl, rfl, rfl⟩ := hcs
    have hle : len ≤ m := by rw [hmm]; split <;> omega
    have hb : ∀ i, i < len → ∃ b : Int, V i = .int .i64 b ∧ (Lit.int .i64 b).wf = true := by
      intro i h
      obtain ⟨b, e, hw⟩ := trod_i (hi i (by omega)).2
      injection e with e
      exact ⟨b, e, hw⟩
    obtain ⟨f, hfb⟩ := Go.Deep.choose_lt hb
    have hlen : ((List.range len).map f).length = len := by simp
    have hn : ∀ j, j < len → nthN ((List.range len).map f) j = f j := by
      intro j hj
      unfold nthN
      rw [List.getD_eq_getElem?_getD, List.getElem?_map, List.getElem?_range hj]
      rfl
    refine ⟨(List.range len).map f, hlen, ?_, (fun e => by cases e), hl, hm, fun x hx => ?_⟩
    · by_cases h0 : len = 0
      · left; rw [h0]; rfl
      · refine .inr ⟨p, rfl, ?_, fun j hj => ?_⟩
        · have := World.block_lt_of_cell? W _ (hi 0 (by omega)).1
          rw [add_block] at this
          exact this
        · rw [hlen] at hj
          rw [(hi j (by omega)).1, (hfb j hj).1, hn j hj]
    · rw [List.mem_map] at hx
      obtain ⟨j, hj, rfl⟩ := hx
      exact bounds_i64 (hfb j (List.mem_range.1 hj)).2
end Go.Proofs.Ytfheamemoinfeaa
