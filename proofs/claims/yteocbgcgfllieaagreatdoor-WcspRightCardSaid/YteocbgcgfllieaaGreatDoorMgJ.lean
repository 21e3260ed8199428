/- Texts of this seat laid together (no statement of its own). -/
import Derived.Test.YteocbgcgfllieaaGreatDoorMgI
namespace Go.Proofs.YteocbgcgfllieaaGreatDoor
open Go.RowKit
set_option linter.unusedVariables false
def lnC (vs : List (Value × Int)) : List Value := vs.flatMap fun x => [x.1, .int .i64 x.2]
theorem lnC_len (vs : List (Value × Int)) : (lnC vs).length = vs.length * 2 := by
  induction vs with
  | nil => rfl
  | cons x r ih => simp [lnC] at ih ⊢; omega
theorem lnC_snoc (vs : List (Value × Int)) (x : Value × Int) : lnC (vs ++ [x]) = lnC vs ++ [x.1, .int .i64 x.2] := by simp [lnC, List.flatMap_append]
theorem lnC_at : ∀ (vs : List (Value × Int)) (i : Nat) (x : Value × Int), vs[i]? = some x → (lnC vs)[i * 2]? = some x.1 ∧ (lnC vs)[i * 2 + 1]? = some (.int .i64 x.2)
  | [], i, x, h => by simp at h
  | y :: r, 0, x, h => by
    simp at h
    subst h
    exact ⟨rfl, rfl⟩
  | y :: r, i + 1, x, h => by
    have := lnC_at r i x (by simpa using h)
    have e : lnC (y :: r) = y.1 :: .int .i64 y.2 :: lnC r := rfl
    rw [e, show (i + 1) * 2 = i * 2 + 1 + 1 by omega]
    exact this
def OwnLn (W : World) (base : Nat) (v : Value) (vs : List (Value × Int)) : Prop := W.ownsRow base 130 2 v vs.length (lnC vs)
theorem ownLn_nil (W : World) (base : Nat) : OwnLn W base (.slice none 0 0) [] := World.ownsRow_nil W base 130 2
theorem OwnLn.below {w w' : World} {base B : Nat} {v : Value} {l : List (Value × Int)} (h : OwnLn w base v l) (hb : Below B w w') (hB : w.heap.size ≤ B) : OwnLn w' base v l := by
  obtain ⟨h1, ⟨rfl, hn⟩ | ⟨g, cap, cur, rfl, hb', hh, hm, hx, hs, ht⟩⟩ := h
  · exact ⟨h1, .inl ⟨rfl, hn⟩⟩
  · refine ⟨h1, .inr ⟨g, cap, cur, rfl, hb', ?_, hm, hx, hs, ht⟩⟩
    rw [hb.block g (by have := (Array.getElem?_eq_some_iff.1 hh).1; omega)]
    exact hh
theorem OwnLn.rk {w w' : World} {p q base : Nat} {v : Value} {l : List (Value × Int)} (h : OwnLn w base v l) (hk : RK w p q w') (hp : p < base) (hq : q < base) : OwnLn w' base v l := by
  obtain ⟨h1, ⟨rfl, hn⟩ | ⟨g, cap, cur, rfl, hb', hh, hm, hx, hs, ht⟩⟩ := h
  · exact ⟨h1, .inl ⟨rfl, hn⟩⟩
  · refine ⟨h1, .inr ⟨g, cap, cur, rfl, hb', ?_, hm, hx, hs, ht⟩⟩
    rw [hk.block g (Array.getElem?_eq_some_iff.1 hh).1 (by omega) (by omega)]
    exact hh
theorem info_line : (Tryz.prog.info? 130).map (fun i => (i.zero, i.size, i.bytes)) = some (some (.agg #[.slice none 0 0, .int .i64 0]), 2, 32) := by kernel_rfl
theorem push_line {ops : Array Oper} {rest : List Oper} {o : Oper} {a : Act} {Q : Exit → Act → World → Prop} (hgd : o.guard = none) (sl x : Operand)
    (ho : o.op = .call { callee := .builtin .append, args := #[sl, x], argTypes := #[124, 124] })
    (W : World) (base : Nat) (v : Value) (vs : List (Value × Int)) (A : Option Addr) (n c : Nat) (y : Int) (hs : a.eval sl = v) (hx : a.eval x = .slice (some ⟨W.heap.size, 0, none⟩) 1 1)
    (hown : OwnLn W base v vs) (hbase : base ≤ W.heap.size) (hl : vs.length ≤ 1000000)
    (h : ∀ v' w', OwnLn w' base v' (vs ++ [(.slice A n c, y)]) → Below base W w' → (∀ g, g < W.heap.size → v.ownBlock ≠ some g → w'.heap[g]? = W.heap[g]?) → wpList Tryz.prog ops Q rest (a.put o.dst v') w') :
    wpList Tryz.prog ops Q (o :: rest) a (W.alloc (.cells #[.slice A n c, .int .i64 y] 130)) := by
  obtain ⟨i0, hi, hz0, hz1, hz2⟩ := info_parts info_line
  have hb : Below base W (W.alloc (.cells #[.slice A n c, .int .i64 y] 130)) := (Below.refl _ _).alloc hbase _
  have hb' := new_val W (.cells #[.slice A n c, .int .i64 y] 130)
  have hown' := hown.below hb' (Nat.le_refl _)
  have hc := heap_alloc_new W (.cells #[.slice A n c, .int .i64 y] 130)
  refine wpList_append_own _ hgd sl x 124 ho base 130 i0 (.agg #[.slice none 0 0, .int .i64 0]) 2 32 Tryz.underlying124 hi hz0 hz1 hz2 rfl (by decide) v vs.length _ hs hown' ⟨W.heap.size, 0, none⟩ 1 1 [.slice A n c, .int .i64 y] hx rfl ?_ ?_ (by unfold maxLen; omega) (by omega) (by simp; omega) ?_
  · intro j u hj
    rcases j with _ | _ | j
    · simp at hj
      subst hj
      show (W.alloc _).cell? ⟨W.heap.size, 0, none⟩ = _
      rw [cell_of_row _ _ _ _ _ _ hc]
      rfl
    · simp at hj
      subst hj
      show (W.alloc _).cell? ⟨W.heap.size, 1, none⟩ = _
      rw [cell_of_row _ _ _ _ _ _ hc]
      rfl
    · simp at hj
  · intro u hu
    simp at hu
    rcases hu with rfl | rfl <;> rfl
  · intro v' w' k1 k2 _
    refine h v' w' ?_ (hb.grown k2 (by simp; omega) (fun k hk => (World.ownsRow.lt hown k hk).1)) (fun g hg hne => ?_)
    · unfold OwnLn
      rw [List.length_append, lnC_snoc]
      exact k1
    · exact (k2.block g (Nat.lt_of_lt_of_le hg hb'.size) (fun e => hne e.symm)).trans (hb'.block g hg)
/-- The own block of a list of lines holds lines. -/
theorem OwnLn.obj {W : World} {base : Nat} {v : Value} {vs : List (Value × Int)} (h : OwnLn W base v vs) : ∀ g, v.ownBlock = some g → base ≤ g ∧ ∃ cur, W.heap[g]? = some (.cells cur 130 (0, 0)) := by
  intro g hg
  obtain ⟨_, ⟨rfl, hn⟩ | ⟨g', cap, cur, rfl, hb, hh, _⟩⟩ := h
  · simp [Value.ownBlock] at hg
  · simp [Value.ownBlock] at hg
    subst hg
    exact ⟨hb, cur, hh⟩
/-- The tuples that the lines point at. -/
def LnIs (W : World) (b sc : Nat) (vs : List (Value × Int)) (ls : List LineM) : Prop :=
  vs.length = ls.length ∧ ∀ (i : Nat) (x : LineM), ls[i]? = some x → ∃ (At : Option Addr) (ct : Nat), vs[i]? = some (Value.slice At x.1.length ct, x.2) ∧ IntsT W b sc At x.1
theorem lnIs_nil (W : World) (b sc : Nat) : LnIs W b sc [] [] := ⟨rfl, fun i x h => by simp at h⟩
theorem LnIs.keep {W W' : World} {b sc : Nat} {vs : List (Value × Int)} {ls : List LineM} (h : LnIs W b sc vs ls) (hk : ∀ g cur fr, W.heap[g]? = some (.cells cur 3 fr) → g ≠ b → g ≠ sc → W'.heap[g]? = W.heap[g]?) : LnIs W' b sc vs ls :=
  ⟨h.1, fun i x hx => by obtain ⟨At, ct, h1, h2⟩ := h.2 i x hx; exact ⟨At, ct, h1, h2.keep hk⟩⟩
theorem keep_map {W W' : World} {b sc mb : Nat} (hm : ∃ es c, W.heap[mb]? = some (.map es c)) (hg : W.grownBy W' (some mb)) : ∀ g cur fr, W.heap[g]? = some (.cells cur 3 fr) → g ≠ b → g ≠ sc → W'.heap[g]? = W.heap[g]? := fun g cur fr h h1 h2 => by
  obtain ⟨es, c, hm⟩ := hm
  refine hg.block g (Array.getElem?_eq_some_iff.1 h).1 (fun e => ?_)
  injection e with e
  subst e
  rw [h] at hm
  cases hm
theorem keep_line {W W' : World} {b sc base : Nat} {v : Value} {vs : List (Value × Int)} (ho : OwnLn W base v vs) (hg : ∀ g, g < W.heap.size → v.ownBlock ≠ some g → W'.heap[g]? = W.heap[g]?) : ∀ g cur fr, W.heap[g]? = some (.cells cur 3 fr) → g ≠ b → g ≠ sc → W'.heap[g]? = W.heap[g]? := fun g cur fr h h1 h2 => by
  refine hg g (Array.getElem?_eq_some_iff.1 h).1 (fun e => ?_)
  obtain ⟨_, cur', h3⟩ := ho.obj g e
  rw [h] at h3
  injection h3 with h3
  injection h3 with _ h4
  exact absurd h4 (by decide)
theorem LnIs.snoc {W : World} {b sc : Nat} {vs : List (Value × Int)} {ls : List LineM} (h : LnIs W b sc vs ls) {At : Option Addr} {ct : Nat} {x : LineM} (hx : IntsT W b sc At x.1) : LnIs W b sc (vs ++ [(.slice At x.1.length ct, x.2)]) (ls ++ [x]) := by
  refine ⟨by simp [h.1], fun i y hy => ?_⟩
  by_cases hi : i < ls.length
  · rw [List.getElem?_append_left hi] at hy
    obtain ⟨A', c', h1, h2⟩ := h.2 i y hy
    exact ⟨A', c', by rw [List.getElem?_append_left (by rw [h.1]; exact hi)]; exact h1, h2⟩
  · have hi' : i = ls.length := by have := (List.getElem?_eq_some_iff.1 hy).1; simp at this; omega
    subst hi'
    simp at hy
    subst hy
    exact ⟨At, ct, by rw [← h.1]; simp, hx⟩
/-- The list that a call made, as what a reader's work doesn't touch. -/
theorem OwnLn.lines {W : World} {b sc base : Nat} {v : Value} {vs : List (Value × Int)} {ls : List LineM} (h : OwnLn W base v vs) (hl : LnIs W b sc vs ls) (h1 : b < base) (h2 : sc < base) : ∃ A c, v = .slice A ls.length c ∧ LinesK W b sc A ls := by
  have h' := h
  obtain ⟨k1, ⟨rfl, hn⟩ | ⟨g, cap, cur, rfl, hb', hh, hm, hx, hs, ht⟩⟩ := h
  · have : ls = [] := List.eq_nil_of_length_eq_zero (by rw [← hl.1]; exact hn)
    subst this
    exact ⟨none, 0, rfl, .inl rfl⟩
  · refine ⟨_, cap, by rw [hl.1], .inr ⟨g, 0, cur, (0, 0), rfl, hh, by omega, by omega, fun i x hx => ?_⟩⟩
    obtain ⟨At, ct, e1, e2⟩ := hl.2 i x hx
    obtain ⟨a1, a2⟩ := lnC_at vs i _ e1
    have hi : i < vs.length := (List.getElem?_eq_some_iff.1 e1).1
    have c1 := World.ownsRow.cellAt (h' : W.ownsRow base 130 2 _ vs.length _) (i * 2) (by omega)
    have c2 := World.ownsRow.cellAt (h' : W.ownsRow base 130 2 _ vs.length _) (i * 2 + 1) (by omega)
    simp only [Nat.zero_add]
    exact ⟨c2.trans a2, At, ct, c1.trans a1, e2⟩
end Go.Proofs.YteocbgcgfllieaaGreatDoor

namespace Go.Proofs.YteocbgcgfllieaaGreatDoor
open Go.RowKit
set_option linter.unusedVariables false
/-- strconv's table of powers, which a reader's work doesn't touch. -/
def TabK (W : World) (b sc : Nat) : Prop := TabP W ∧ ∀ g, Tryz.prog.globalNamed "internal/strconv.uint64pow10" = some g → g ≠ b ∧ g ≠ sc
theorem TabK.rk {W W' : World} {b sc : Nat} (h : TabK W b sc) (hk : RK W b sc W') : TabK W' b sc := by
  refine ⟨?_, h.2⟩
  obtain ⟨h, hne⟩ := h
  unfold TabP Lib.TabIs World.var? at h ⊢
  cases hg : Tryz.prog.globalNamed "internal/strconv.uint64pow10" with
  | none => simp [hg] at h
  | some g =>
    simp only [hg, Option.bind_some] at h ⊢
    have hlt : g < W.heap.size := by
      rcases Nat.lt_or_ge g W.heap.size with h' | h'
      · exact h'
      · simp [Array.getElem?_eq_none h'] at h
    rw [hk.block g hlt (hne g hg).1 (hne g hg).2]
    exact h
theorem costR_ok (b sc : Nat) (s : ByteArray) (st st' : RdS) (v : RdV) (n : Int) (p : Nat) (w : World) (h : RdOk w b sc s st v) (hr : numM s.data.toList 0 farZ st = .ok (n, p) st') :
    Calls Tryz.prog 85 #[.pointer (some ⟨b, 0, none⟩)] w fun e w' => e = .returned (.tuple #[.int .i64 (min n v.top), .int .i64 (p : Int)]) ∧ RK w b sc w' ∧ RdOk w' b sc s st' v :=
  costR_of b v n p w (fun W => RK w b sc W ∧ RdOk W b sc s st' v) ((numR_ok b sc s st st' v 0 _ n p w h hr).mono fun e w' hh => ⟨hh.1, hh.2, hh.2.2.at_.cell (i := 6) rfl⟩)
theorem costR_bad (b sc : Nat) (s : ByteArray) (st : RdS) (v : RdV) (e p : Nat) (w : World) (h : RdOk w b sc s st v) (hr : numM s.data.toList 0 farZ st = .bad e p) :
    Calls Tryz.prog 85 #[.pointer (some ⟨b, 0, none⟩)] w fun e' w' => e' = .returned (.tuple #[.int .i64 (min 0 v.top), .int .i64 (p : Int)]) ∧ RK w b sc w' ∧ RdBad w' b e p { v with fp := (p : Int), fe := (e : Int) } :=
  costR_of b v 0 p w (fun W => RK w b sc W ∧ RdBad W b e p { v with fp := (p : Int), fe := (e : Int) }) ((numR_bad b sc s st v 0 _ e p w h hr).mono fun e w' hh => ⟨hh.1, hh.2, hh.2.2.at_.cell (i := 6) rfl⟩)
theorem costR_still (b e p : Nat) (v : RdV) (w : World) (h : RdBad w b e p v) :
    Calls Tryz.prog 85 #[.pointer (some ⟨b, 0, none⟩)] w fun e' w' => e' = .returned (.tuple #[.int .i64 (min 0 v.top), .int .i64 (p : Int)]) ∧ Below w.heap.size w w' ∧ RdBad w' b e p v :=
  costR_of b v 0 p w (fun W => Below w.heap.size w W ∧ RdBad W b e p v) ((numR_still b e p v 0 _ w h).mono fun e w' hh => ⟨hh.1, hh.2, hh.2.2.at_.cell (i := 6) rfl⟩)
end Go.Proofs.YteocbgcgfllieaaGreatDoor

namespace Go.Proofs.YteocbgcgfllieaaGreatDoor
open Go.RowKit
set_option linter.unusedVariables false
def topL (k : Int) (ls : List LineM) : List LineM := ls.map fun x => (x.1, min x.2 k)
theorem linesM_step {l : List UInt8} {sizes scope : List Nat} {n : Nat} {acc : List LineM} {s : RdS} : linesM l sizes scope (n + 1) acc s = (tupleM l sizes scope [] s).bind fun x s' => (numM l 0 farZ s').bind fun c s'' =>
      if acc.any (fun y => y.1 == x) then .bad 4 c.2 else linesM l sizes scope n (acc ++ [(x, c.1)]) s'' := rfl
/-- How often a text was seen: once where a line has it. -/
def seenF (acc : List LineM) (x : List UInt8) : Int := if acc.any (fun y => textL y.1 == x) then 1 else 0
theorem seenF_nil : seenF [] = fun _ => 0 := rfl
theorem seenF_at {n : Nat} {acc : List LineM} {x : List Nat} (hl : ∀ y ∈ acc, y.1.length = n ∧ ∀ z ∈ y.1, z ≤ 4611686018427387904) (hx : x.length = n) (hz : ∀ z ∈ x, z ≤ 4611686018427387904) : seenF acc (textL x) = if acc.any (fun y => y.1 == x) then 1 else 0 := by
  have e : acc.any (fun y => textL y.1 == textL x) = acc.any (fun y => y.1 == x) := by
    rw [Bool.eq_iff_iff, List.any_eq_true, List.any_eq_true]
    constructor
    · rintro ⟨y, h1, h2⟩
      refine ⟨y, h1, ?_⟩
      have h3 : textL y.1 = textL x := by simpa using h2
      simpa using textL_one y.1 x ((hl y h1).1.trans hx.symm) (hl y h1).2 hz h3
    · rintro ⟨y, h1, h2⟩
      refine ⟨y, h1, ?_⟩
      have h3 : y.1 = x := by simpa using h2
      simp [h3]
  unfold seenF
  rw [e]
theorem seenF_snoc (acc : List LineM) (x : List Nat) (c : Int) : seenF (acc ++ [(x, c)]) = fun y => if y = textL x then 1 else seenF acc y := by
  funext y
  unfold seenF
  rw [List.any_append]
  by_cases h : y = textL x
  · subst h; simp
  · rw [show ([(x, c)].any fun z : LineM => textL z.1 == y) = false by simpa using fun e => h e.symm, Bool.or_false, if_neg h]
/-- What the loop over the lines holds. -/
structure LnAt (wb W : World) (b sc mb q n : Nat) (k : Int) (val : Value) (D : DataW Unit) (f : List UInt8 → Int) (vs : List (Value × Int)) : Prop where
  seen : Seen W mb q D f
  own : OwnLn W wb.heap.size val vs
  mbig : wb.heap.size ≤ mb
  kept : RK wb b sc W
  hb : b < wb.heap.size
  hs : sc < wb.heap.size
theorem LnAt.rk {wb W W' : World} {b sc mb q n : Nat} {k : Int} {val : Value} {D : DataW Unit} {f : List UInt8 → Int} {vs : List (Value × Int)} (h : LnAt wb W b sc mb q n k val D f vs) (hk : RK W b sc W') : LnAt wb W' b sc mb q n k val D f vs :=
  ⟨h.seen.block (hk.block mb h.seen.own.lt (by have := h.mbig; have := h.hb; omega) (by have := h.mbig; have := h.hs; omega)), h.own.rk hk h.hb h.hs, h.mbig, h.kept.trans hk, h.hb, h.hs⟩
end Go.Proofs.YteocbgcgfllieaaGreatDoor

namespace Go.Proofs.YteocbgcgfllieaaGreatDoor
open Go.RowKit
set_option linter.unusedVariables false
theorem RdOk.upd {W W' : World} {b sc : Nat} {s : ByteArray} {st : RdS} {v v' : RdV} (h : RdOk W b sc s st v) (ha : RdAt W' b v') (hg : W.grownBy W' (some b)) (h1 : v'.sc = v.sc) (h2 : v'.fe = v.fe) (h3 : v'.le = v.le) (h4 : v'.lp = v.lp) : RdOk W' b sc s st v' := by
  have hk : RK W b sc W' := RK.grown1 hg
  refine ⟨ha, h1.trans h.vsc, (hg.block sc h.scan.lt (fun e => h.ne (Option.some.inj e).symm)).trans h.scan, h.ne, h.le, h.fits, h2.trans h.fine, ?_, h.glob.rk hk h.gb h.gs, h.gb, h.gs⟩
  have hb := h.big
  cases hq : st.big with
  | none => rw [hq] at hb; exact h3.trans hb
  | some q => rw [hq] at hb; exact ⟨h3.trans hb.1, h4.trans hb.2⟩
theorem RdOk.told_put {W : World} {b sc : Nat} {s : ByteArray} {st : RdS} {v : RdV} (h : RdOk W b sc s st v) (x : Int) : RdOk (W.setCell ⟨b, 10, none⟩ (.int .i64 x)) b sc s st { v with told := x } ∧ W.grownBy (W.setCell ⟨b, 10, none⟩ (.int .i64 x)) (some b) := by
  have hg := grown_put W b 10 (.int .i64 x)
  have ha := heap_setCell_same W b 10 _ _ (.int .i64 x) h.at_
  exact ⟨h.upd (v' := { v with told := x }) ha hg rfl rfl rfl rfl, hg⟩
theorem tupleM_le {l : List UInt8} {sizes : List Nat} : ∀ {sc acc a : List Nat} {s t : RdS}, s.k ≤ l.length → tupleM l sizes sc acc s = .ok a t → s.k ≤ t.k ∧ t.k ≤ l.length
  | [], acc, a, s, t, hs, h => by
    simp only [tupleM, RdR.ok.injEq] at h
    rw [← h.2]
    exact ⟨Nat.le_refl _, hs⟩
  | v :: r, acc, a, s, t, hs, h => by
    rw [tupleM_step] at h
    obtain ⟨c, s', h1, h2⟩ := bind_ok_iff.1 h
    obtain ⟨e, k1, k2, -, -, -, -⟩ := numM_ok.1 h1
    have hw := stepW_word hs k1
    have hk : s'.k = e := by rw [k2]
    have := tupleM_le (by rw [hk]; exact hw.2.2.1) h2
    omega
end Go.Proofs.YteocbgcgfllieaaGreatDoor
