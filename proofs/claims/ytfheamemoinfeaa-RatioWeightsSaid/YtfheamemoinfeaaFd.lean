/- Lists of floats in memory; which is the first one (no statement of its own). -/
import Derived.Test.YtfheamemoinfeaaFc
import Derived.Maps.AppendAt
import Derived.Lib.SliceRun
import Derived.Laws.OwnMore
import Derived.Laws.AppendOwnNone
import Derived.Deep.Slices
namespace Go.Proofs.Ytfheamemoinfeaa
open Go.RowKit
open RtA
set_option linter.unusedVariables false
def FL (l : List Nat) : List Value := l.map fun x => Value.float .f64 x
theorem FL_len (l : List Nat) : (FL l).length = l.length := by simp [FL]
theorem FL_one (l : List Nat) : ∀ u ∈ FL l, u.oneCell' = true := by
  intro u hu
  simp only [FL, List.mem_map] at hu
  obtain ⟨x, _, rfl⟩ := hu
  rfl
def OwnF (w : World) (B : Nat) (v : Value) (l : List Nat) : Prop := w.ownsRow B 24 1 v l.length (FL l)
def nthF (l : List Nat) (i : Nat) : Nat := l.getD i 0
theorem nthF_get (l : List Nat) (i : Nat) (h : i < l.length) : l[i] = nthF l i := by simp [nthF, List.getD, h]
theorem nthF_mem {l : List Nat} {i : Nat} (h : i < l.length) : nthF l i ∈ l := by rw [← nthF_get l i h]; exact List.getElem_mem h
theorem FL_get (l : List Nat) (i : Nat) (h : i < l.length) : (FL l)[i]? = some (.float .f64 (nthF l i)) := by
  rw [FL, List.getElem?_map, List.getElem?_eq_getElem h, nthF_get l i h]; rfl
theorem nthF_set (l : List Nat) (i j x : Nat) (h : i < l.length) : nthF (l.set i x) j = if j = i then x else nthF l j := by
  unfold nthF
  rw [List.getD_eq_getElem?_getD, List.getElem?_set, List.getD_eq_getElem?_getD]
  by_cases e : i = j
  · subst e; simp [h]
  · rw [if_neg e, if_neg (fun q => e q.symm)]
/-- A list that can be read. -/
def SrcF (w : World) (A : Option Addr) (l : List Nat) : Prop := l = [] ∨ ∃ ad : Addr, A = some ad ∧ ad.block < w.heap.size ∧ ∀ j, j < l.length → w.cell? (ad.add j) = some (.float .f64 (nthF l j))
theorem add_block (ad : Addr) (j : Nat) : (ad.add j).block = ad.block := by unfold Addr.add; split <;> rfl
theorem SrcF.below {w w' : World} {B : Nat} {A : Option Addr} {l : List Nat} (h : SrcF w A l) (hb : Below B w w') (hB : w.heap.size ≤ B) : SrcF w' A l := by
  rcases h with h | ⟨ad, rfl, h1, h2⟩
  · exact .inl h
  · refine .inr ⟨ad, rfl, Nat.lt_of_lt_of_le h1 hb.size, fun j hj => ?_⟩
    exact (hb.cell (p := ad.add j) (by rw [add_block]; omega)).trans (h2 j hj)
theorem SrcF.grown {w w' : World} {A : Option Addr} {l : List Nat} (h : SrcF w A l) (hg : w.grownBy w' none) : SrcF w' A l := by
  rcases h with h | ⟨ad, rfl, h1, h2⟩
  · exact .inl h
  · refine .inr ⟨ad, rfl, Nat.lt_of_lt_of_le h1 hg.size, fun j hj => ?_⟩
    exact (World.cell?_of_block (a := ad.add j) (by rw [add_block]; exact hg.block ad.block h1 (by simp))).trans (h2 j hj)
theorem OwnF.kept {w w' : World} {B : Nat} {v : Value} {l : List Nat} {row : Option Nat} (h : OwnF w B v l) (hg : w.grownBy w' row) (hne : v.ownBlock = none ∨ v.ownBlock ≠ row) : OwnF w' B v l := World.ownsRow.kept h hg hne
theorem OwnF.kept0 {w w' : World} {B : Nat} {v : Value} {l : List Nat} (h : OwnF w B v l) (hg : w.grownBy w' none) : OwnF w' B v l := h.kept hg (by by_cases e : v.ownBlock = none; exact .inl e; exact .inr e)
theorem OwnF.lt {w : World} {B : Nat} {v : Value} {l : List Nat} (h : OwnF w B v l) : ∀ k, v.ownBlock = some k → B ≤ k ∧ k < w.heap.size := World.ownsRow.lt h
theorem ownF_nil (w : World) (B : Nat) : OwnF w B (.slice none 0 0) [] := World.ownsRow_nil w B 24 1
theorem OwnF.form {w : World} {B : Nat} {v : Value} {l : List Nat} (h : OwnF w B v l) : ∃ A c, v = .slice A l.length c ∧ l.length ≤ c ∧ c ≤ maxLen ∧ (A = none → c = 0) ∧ (∀ ad, A = some ad → ∃ g, ad = ⟨g, 0, none⟩ ∧ B ≤ g ∧ g < w.heap.size) := by
  rcases h.2 with ⟨rfl, h0⟩ | ⟨g, cap, cur, rfl, hb, hh, hn, hm, _⟩
  · exact ⟨none, 0, by rw [h0], by omega, by simp [maxLen], fun _ => rfl, fun ad e => by cases e⟩
  · exact ⟨_, cap, rfl, hn, hm, (fun e => by cases e), (fun ad e => by cases e; exact ⟨g, rfl, hb, (Array.getElem?_eq_some_iff.1 hh).1⟩)⟩
theorem OwnF.cell {w : World} {B g c : Nat} {l : List Nat} (h : OwnF w B (.slice (some ⟨g, 0, none⟩) l.length c) l) (j : Nat) (hj : j < l.length) : w.cell? ⟨g, j, none⟩ = some (.float .f64 (nthF l j)) := by
  rw [World.ownsRow.cellAt h j (by omega)]; exact FL_get l j hj
theorem OwnF.frozen {w : World} {B g c : Nat} {l : List Nat} (h : OwnF w B (.slice (some ⟨g, 0, none⟩) l.length c) l) (j : Nat) : w.frozen? ⟨g, j, none⟩ = false := World.ownsRow.frozenAt h j
theorem add_zero_off (g j : Nat) : (⟨g, 0, none⟩ : Addr).add j = ⟨g, j, none⟩ := by
  unfold Addr.add; split
  · rename_i h; subst h; rfl
  · simp
theorem OwnF.src {w : World} {B n c : Nat} {A : Option Addr} {l : List Nat} (h : OwnF w B (.slice A n c) l) (hn : n = l.length) : SrcF w A l := by
  subst hn
  obtain ⟨A', c', e, _, _, h1, h2⟩ := h.form
  injection e with e1 e2 e3
  subst e1
  subst e3
  cases A with
  | none =>
    left
    have := h.2
    rcases this with ⟨_, h0⟩ | ⟨g, cap, cur, e, _⟩
    · exact List.eq_nil_of_length_eq_zero h0
    · injection e with e; cases e
  | some ad =>
    obtain ⟨g, rfl, hB, hg⟩ := h2 ad rfl
    exact .inr ⟨_, rfl, hg, fun j hj => by rw [add_zero_off]; exact h.cell j hj⟩
theorem OwnF.store {w : World} {B g c : Nat} {l : List Nat} (h : OwnF w B (.slice (some ⟨g, 0, none⟩) l.length c) l) (j x : Nat) :
    OwnF (w.setCell ⟨g, j, none⟩ (.float .f64 x)) B (.slice (some ⟨g, 0, none⟩) l.length c) (l.set j x) ∧ w.grownBy (w.setCell ⟨g, j, none⟩ (.float .f64 x)) (some g) := by
  obtain ⟨h1, h2⟩ := World.ownsRow.stored h j (.float .f64 x)
  refine ⟨?_, h2⟩
  unfold OwnF
  rw [List.length_set, FL, List.map_set]
  exact h1
theorem info_f64 : (Try.prog.info? 24).map (fun i => (i.zero, i.size, i.bytes)) = some (some (.float .f64 0), 1, 8) := by kernel_rfl
set_option maxRecDepth 100000 in
theorem appF_wp {o : Oper} {a : Act} {K : Act → World → Prop} {Q : Exit → Act → World → Prop} (s x : Operand)
    (ho : o.op = .call { callee := .builtin .append, args := #[s, x], argTypes := #[22, 22] })
    (W : World) (base m cx : Nat) (v : Value) (l l2 : List Nat) (Ax : Option Addr) (hm : l2.length = m) (hs : a.eval s = v) (hx : a.eval x = .slice Ax m cx)
    (hown : OwnF W base v l) (hI : SrcF W Ax l2) (hc : Ax = none → cx = 0) (hbase : base ≤ W.heap.size) (hl : l.length ≤ 100000) (hl2 : m ≤ 100000)
    (h : ∀ v' w', OwnF w' base v' (l ++ l2) → W.grownBy w' v.ownBlock → (v'.ownBlock = v.ownBlock ∨ v'.ownBlock = some W.heap.size) → K (a.put o.dst v') w') :
    o.wp Try.prog a W K Q := by
  subst hm
  obtain ⟨i0, hi, hz0, hz1, hz2⟩ := info_parts info_f64
  cases Ax with
  | none =>
    have hn : l2 = [] := by
      rcases hI with h | ⟨ad, e, _⟩
      · exact h
      · cases e
    subst hn
    have hc0 := hc rfl
    subst hc0
    have hrun := run_append_owned_none (P := Try.prog) (w := W) base 22 o.type 24 i0 1 Try.underlying22 hi v l.length _ hown
    unfold Oper.wp
    simp [execOp, ho, resolve, invoke, builtin, hs, hx, hrun, Result.andThen]
    exact h v W (by rw [List.append_nil]; exact hown) ⟨rfl, rfl, rfl, Nat.le_refl _, fun k _ _ => rfl⟩ (.inl rfl)
  | some ad =>
    obtain ⟨v', w', hr, h2, h3, h4, h5⟩ := run_append_own_at (P := Try.prog) W base 22 o.type 24 i0 (.float .f64 0) 1 8 Try.underlying22 hi hz0 hz1 hz2 rfl (by decide) v l.length _ hown ad l2.length cx (FL l2) (by rw [FL_len, Nat.mul_one]) (by
      intro j u hu
      have hj : j < l2.length := by have := (List.getElem?_eq_some_iff.1 hu).1; rwa [FL_len] at this
      rcases hI with rfl | ⟨ad', e, _, hcc⟩
      · exact absurd hj (by simp)
      · injection e with e
        subst e
        rw [hcc j hj, ← hu]
        exact (FL_get l2 j hj).symm) (FL_one l2) (by unfold maxLen; omega) (by omega) hbase
    unfold Oper.wp execOp
    simp only [ho, resolve, invoke, builtin, Sem.run_bind, Sem.run_pure, Result.andThen_ok, List.map_toArray, List.map_cons, List.map_nil, hs, hx, hr]
    refine h v' w' ?_ h3 h5
    unfold OwnF
    rw [List.length_append, FL, List.map_append]
    exact h2
theorem appF_own {ops : Array Oper} {rest : List Oper} {o : Oper} {a : Act} {Q : Exit → Act → World → Prop} (hgd : o.guard = none) (s x : Operand)
    (ho : o.op = .call { callee := .builtin .append, args := #[s, x], argTypes := #[22, 22] })
    (W : World) (base m cx : Nat) (v : Value) (l l2 : List Nat) (Ax : Option Addr) (hm : l2.length = m) (hs : a.eval s = v) (hx : a.eval x = .slice Ax m cx)
    (hown : OwnF W base v l) (hI : SrcF W Ax l2) (hc : Ax = none → cx = 0) (hbase : base ≤ W.heap.size) (hl : l.length ≤ 100000) (hl2 : m ≤ 100000)
    (h : ∀ v' w', OwnF w' base v' (l ++ l2) → W.grownBy w' v.ownBlock → (v'.ownBlock = v.ownBlock ∨ v'.ownBlock = some W.heap.size) → wpList Try.prog ops Q rest (a.put o.dst v') w') :
    wpList Try.prog ops Q (o :: rest) a W :=
  wpList_plain hgd fun _ hK => appF_wp s x ho W base m cx v l l2 Ax hm hs hx hown hI hc hbase hl hl2 fun v' w' h1 h2 h3 => hK _ _ (h v' w' h1 h2 h3)
theorem appF_step {ops : Array Oper} {o : Oper} {a : Act} {K : Act → World → Prop} {Q : Exit → Act → World → Prop} {E : Prop} (hgd : o.guard = none) (s x : Operand)
    (ho : o.op = .call { callee := .builtin .append, args := #[s, x], argTypes := #[22, 22] })
    (W : World) (base m cx : Nat) (v : Value) (l l2 : List Nat) (Ax : Option Addr) (hm : l2.length = m) (hs : a.eval s = v) (hx : a.eval x = .slice Ax m cx)
    (hown : OwnF W base v l) (hI : SrcF W Ax l2) (hc : Ax = none → cx = 0) (hbase : base ≤ W.heap.size) (hl : l.length ≤ 100000) (hl2 : m ≤ 100000)
    (h : ∀ v' w', OwnF w' base v' (l ++ l2) → W.grownBy w' v.ownBlock → (v'.ownBlock = v.ownBlock ∨ v'.ownBlock = some W.heap.size) → K (a.put o.dst v') w') :
    if Region.wanted o (yielded ops a.tmps) = true then Oper.wp Try.prog o a W K Q else E := by
  have hw : Region.wanted o (yielded ops a.tmps) = true := by simp [Region.wanted, hgd]
  rw [if_pos hw]
  exact appF_wp s x ho W base m cx v l l2 Ax hm hs hx hown hI hc hbase hl hl2 h
/-- Which is the first that none is ahead of. -/
def IsFirst (l : List Nat) (r : Int) : Prop := (l = [] ∧ r = -1) ∨ ∃ j : Nat, j < l.length ∧ r = (j : Int) ∧ (∀ q, q < l.length → kx (nthF l j) ≤ kx (nthF l q)) ∧ ∀ q, q < j → kx (nthF l j) < kx (nthF l q)
theorem IsFirst.uniq {l : List Nat} {r s : Int} (h : IsFirst l r) (h2 : IsFirst l s) : r = s := by
  rcases h with ⟨rfl, rfl⟩ | ⟨j, hj, rfl, h1, h2'⟩
  · rcases h2 with ⟨_, rfl⟩ | ⟨j, hj, _⟩
    · rfl
    · simp at hj
  · rcases h2 with ⟨rfl, rfl⟩ | ⟨i, hi, rfl, g1, g2⟩
    · simp at hj
    · rcases Nat.lt_trichotomy i j with h | h | h
      · have := h2' i h; have := g1 j hj; omega
      · rw [h]
      · have := g2 j h; have := h1 i hi; omega
def FirstP (l : List Nat) (w : World) (e : Ending) (w' : World) : Prop := ∃ r, e = .returned (.int .i64 r) ∧ IsFirst l r ∧ w = w'
/-- Of the first k it is this. -/
def FK (l : List Nat) (k : Nat) (v : Value) : Prop := (k = 0 ∧ v = .int .i64 (-1)) ∨ ∃ j : Nat, j < k ∧ v = .int .i64 (j : Int) ∧ (∀ q, q < k → kx (nthF l j) ≤ kx (nthF l q)) ∧ ∀ q, q < j → kx (nthF l j) < kx (nthF l q)
theorem cm_neg {x y : Nat} (h : kx x < kx y) : cm x y = -1 := by unfold cm; rw [if_pos h]
theorem cm_ge {x y : Nat} (h : kx y ≤ kx x) : 0 ≤ cm x y := by unfold cm; rw [if_neg (by omega)]; split <;> omega
theorem ffirst_any (A : Option Addr) (n c : Nat) (l : List Nat) (w : World) (hn : l.length = n) (hl : n ≤ 1000000) (hw : SrcF w A l) : Calls Try.prog 12 #[.slice A n c] w (FirstP l w) := by
  subst hn
  rcases hw with rfl | ⟨ad, rfl, hb, hc⟩
  · go_enter Try.func12, Try.ntmps12
    go_wp2
    go_loop [3, 8] (fun f i => f = .int .i64 (-1) ∧ i = .int .i64 0) (fun _ _ => 0)
    case atStart => exact ⟨rfl, rfl⟩
    case round =>
      obtain ⟨rfl, rfl⟩ := hrel
      go_wp2
      go_ret
      exact ⟨_, rfl, .inl ⟨rfl, rfl⟩, rfl⟩
  · have HC := Lib.hid hc
    clear hc
    go_enter Try.func12, Try.ntmps12
    go_wp2
    go_loop [3, 8] (fun f i => ∃ k : Nat, k ≤ l.length ∧ i = .int .i64 (k : Int) ∧ FK l k f) (fun _ i => l.length - (intOf i).toNat)
    case atStart => exact ⟨0, Nat.zero_le _, rfl, .inl ⟨rfl, rfl⟩⟩
    case round =>
      obtain ⟨k, hk, rfl, hf⟩ := hrel
      by_cases hlt : k < l.length
      · have ck := HC.out k hlt
        rcases hf with ⟨rfl, rfl⟩ | ⟨j, hj, rfl, h1, h2⟩
        · have ck0 : w.cell? ad = some (.float .f64 (nthF l 0)) := by rw [← ck]; unfold Addr.add; rfl
          go_wp2
          go_round
          case rel => exact ⟨1, by omega, by go_num, .inr ⟨0, by omega, rfl, fun q hq => by have : q = 0 := by omega
                                                                                            subst this; exact Int.le_refl _, fun q hq => by omega⟩⟩
          case measure => simp [intOf]; omega
        · have cj := HC.out j (by omega)
          have H1 := Lib.hid h1
          have H2 := Lib.hid h2
          clear h1 h2
          by_cases hx : kx (nthF l k) < kx (nthF l j)
          · have C := Lib.hid (fcmp_any (nthF l k) (nthF l j))
            rw [cm_neg hx] at C
            have HX := Lib.hid hx
            clear hx
            go_wp2_with (go_at_call 11; refine (C.out _).mono ?_; rintro e w' ⟨rfl, rfl⟩)
            go_round
            case rel =>
              refine ⟨k + 1, by omega, by go_num, .inr ⟨k, by omega, rfl, fun q hq => ?_, fun q hq => ?_⟩⟩
              · by_cases e : q = k
                · rw [e]; exact Int.le_refl _
                · have := H1.out q (by omega); have := HX.out; omega
              · have := H1.out q hq; have := HX.out; omega
            case measure => simp [intOf]; omega
          · have C := Lib.hid (fcmp_any (nthF l k) (nthF l j))
            have hx' : kx (nthF l j) ≤ kx (nthF l k) := by omega
            have hge := cm_ge hx'
            have HX := Lib.hid hx'
            clear hx hx'
            generalize cm (nthF l k) (nthF l j) = cc at *
            go_wp2_with (go_at_call 11; refine (C.out _).mono ?_; rintro e w' ⟨rfl, rfl⟩)
            go_round
            case rel =>
              refine ⟨k + 1, by omega, by go_num, .inr ⟨j, by omega, rfl, fun q hq => ?_, H2.out⟩⟩
              by_cases e : q = k
              · rw [e]; exact HX.out
              · exact H1.out q (by omega)
            case measure => simp [intOf]; omega
      · have : k = l.length := by omega
        subst this
        rcases hf with ⟨h0, rfl⟩ | ⟨j, hj, rfl, h1, h2⟩
        · have hz := List.eq_nil_of_length_eq_zero h0
          have HZ := Lib.hid hz
          clear h0 hz
          go_wp2
          go_ret
          exact ⟨_, rfl, .inl ⟨HZ.out, rfl⟩, rfl⟩
        · have H1 := Lib.hid h1
          have H2 := Lib.hid h2
          clear h1 h2
          go_wp2
          go_ret
          exact ⟨_, rfl, .inr ⟨j, hj, rfl, H1.out, H2.out⟩, rfl⟩
end Go.Proofs.Ytfheamemoinfeaa
