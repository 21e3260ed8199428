import Derived.Test.YtmokogkndbinlaaGreatDoorZgaj
set_option linter.all false
namespace Go.Proofs.YtmokogkndbinlaaGreatDoor
open Go.Lib (hid)
open Go.RowKit
def lnC (vs : List (Value × Int)) : List Value := vs.flatMap fun x => [x.1, .int .i64 x.2]
theorem lnC_snoc (vs : List (Value × Int)) (x : Value × Int) : lnC (vs ++ [x]) = lnC vs ++ [x.1, .int .i64 x.2] := by simp [lnC, List.flatMap_append]
theorem lnC_at : ∀ (vs : List (Value × Int)) (i : Nat) (x : Value × Int), vs[i]? = some x → (lnC vs)[i * 2]? = some x.1 ∧ (lnC vs)[i * 2 + 1]? = some (.int .i64 x.2)
 | [], i, x, h => by simp at h
 | y :: r, 0, x, h => by
  simp at h
  subst h
  exact ⟨rfl, rfl⟩
 | y :: r, i + 1, x, h => by
  have := lnC_at r i x (by simpa using h)
  have e : lnC (y :: r) = y.1 :: .int .i64 y.2 :: lnC r := rfl
  rw [e, show (i + 1) * 2 = i * 2 + 1 + 1 by omega]
  exact this
def OwnLn (W : World) (base : Nat) (v : Value) (vs : List (Value × Int)) : Prop := W.ownsRow base 185 2 v vs.length (lnC vs)
theorem ownLn_nil (W : World) (base : Nat) : OwnLn W base (.slice none 0 0) [] := World.ownsRow_nil W base 185 2
theorem OwnLn.below {w w' : World} {base B : Nat} {v : Value} {l : List (Value × Int)} (h : OwnLn w base v l) (hb : Below B w w') (hB : w.heap.size ≤ B) : OwnLn w' base v l := by
 obtain ⟨h1, ⟨rfl, hn⟩ | ⟨g, cap, cur, rfl, hb', hh, hm, hx, hs, ht⟩⟩ := h
 ·exact ⟨h1, .inl ⟨rfl, hn⟩⟩
 refine ⟨h1, .inr ⟨g, cap, cur, rfl, hb', ?_, hm, hx, hs, ht⟩⟩
 rw [hb.block g (by have := (Array.getElem?_eq_some_iff.1 hh).1; omega)]
 exact hh
theorem OwnLn.rk {w w' : World} {p q base : Nat} {v : Value} {l : List (Value × Int)} (h : OwnLn w base v l) (hk : RK w p q w') (hp : p < base) (hq : q < base) : OwnLn w' base v l := by
 obtain ⟨h1, ⟨rfl, hn⟩ | ⟨g, cap, cur, rfl, hb', hh, hm, hx, hs, ht⟩⟩ := h
 ·exact ⟨h1, .inl ⟨rfl, hn⟩⟩
 refine ⟨h1, .inr ⟨g, cap, cur, rfl, hb', ?_, hm, hx, hs, ht⟩⟩
 rw [hk.block g (Array.getElem?_eq_some_iff.1 hh).1 (by omega) (by omega)]
 exact hh
theorem info_line : (Tryz.prog.info? 185).map (fun i => (i.zero, i.size, i.bytes)) = some (some (.agg #[.slice none 0 0, .int .i64 0]), 2, 32) := by kernel_rfl
theorem push_line {ops : Array Oper} {rest : List Oper} {o : Oper} {a : Act} {Q : Exit → Act → World → Prop} (hgd : o.guard = none) (sl x : Operand)
  (ho : o.op = .call { callee := .builtin .append, args := #[sl, x], argTypes := #[182, 182] })
  (W : World) (base : Nat) (v : Value) (vs : List (Value × Int)) (A : Option Addr) (n c : Nat) (y : Int) (hs : a.eval sl = v) (hx : a.eval x = .slice (some ⟨W.heap.size, 0, none⟩) 1 1)
  (hown : OwnLn W base v vs) (hbase : base ≤ W.heap.size) (hl : vs.length ≤ 1000000)
  (h : ∀ v' w', OwnLn w' base v' (vs ++ [(.slice A n c, y)]) → Below base W w' → (∀ g, g < W.heap.size → v.ownBlock ≠ some g → w'.heap[g]? = W.heap[g]?) → wpList Tryz.prog ops Q rest (a.put o.dst v') w') :
  wpList Tryz.prog ops Q (o :: rest) a (W.alloc (.cells #[.slice A n c, .int .i64 y] 185)) := by
 obtain ⟨i0, hi, hz0, hz1, hz2⟩ := info_parts info_line
 have hb : Below base W (W.alloc (.cells #[.slice A n c, .int .i64 y] 185)) := (Below.refl _ _).alloc hbase _
 have hb' := new_val W (.cells #[.slice A n c, .int .i64 y] 185)
 have hown' := hown.below hb' (Nat.le_refl _)
 have hc := heap_alloc_new W (.cells #[.slice A n c, .int .i64 y] 185)
 refine wpList_append_own _ hgd sl x 182 ho base 185 i0 (.agg #[.slice none 0 0, .int .i64 0]) 2 32 Tryz.underlying182 hi hz0 hz1 hz2 rfl (by decide) v vs.length _ hs hown' ⟨W.heap.size, 0, none⟩ 1 1 [.slice A n c, .int .i64 y] hx rfl ?_ ?_ (by unfold maxLen; omega) (by omega) (by simp; omega) ?_
 ·intro j u hj
  rcases j with _ | _ | j
  ·simp at hj
   subst hj
   show (W.alloc _).cell? ⟨W.heap.size, 0, none⟩ = _
   rw [cell_of_row _ _ _ _ _ _ hc]
   rfl
  ·simp at hj
   subst hj
   show (W.alloc _).cell? ⟨W.heap.size, 1, none⟩ = _
   rw [cell_of_row _ _ _ _ _ _ hc]
   rfl
  simp at hj
 ·intro u hu
  simp at hu
  rcases hu with rfl | rfl <;> rfl
 intro v' w' k1 k2 _
 refine h v' w' ?_ (hb.grown k2 (by simp; omega) (fun k hk => (World.ownsRow.lt hown k hk).1)) (fun g hg hne => ?_)
 ·unfold OwnLn
  rw [List.length_append, lnC_snoc]
  exact k1
 exact (k2.block g (Nat.lt_of_lt_of_le hg hb'.size) (fun e => hne e.symm)).trans (hb'.block g hg)
theorem OwnLn.obj {W : World} {base : Nat} {v : Value} {vs : List (Value × Int)} (h : OwnLn W base v vs) : ∀ g, v.ownBlock = some g → base ≤ g ∧ ∃ cur, W.heap[g]? = some (.cells cur 185 (0, 0)) := by
 intro g hg
 obtain ⟨_, ⟨rfl, hn⟩ | ⟨g', cap, cur, rfl, hb, hh, _⟩⟩ := h
 ·simp [Value.ownBlock] at hg
 simp [Value.ownBlock] at hg
 subst hg
 exact ⟨hb, cur, hh⟩
def LnIs (W : World) (b sc : Nat) (vs : List (Value × Int)) (ls : List LineM) : Prop :=
 vs.length = ls.length ∧ ∀ (i : Nat) (x : LineM), ls[i]? = some x → ∃ (At : Option Addr) (ct : Nat), vs[i]? = some (Value.slice At x.1.length ct, x.2) ∧ IntsT W b sc At x.1
theorem lnIs_nil (W : World) (b sc : Nat) : LnIs W b sc [] [] := ⟨rfl, fun i x h => by simp at h⟩
theorem LnIs.keep {W W' : World} {b sc : Nat} {vs : List (Value × Int)} {ls : List LineM} (h : LnIs W b sc vs ls) (hk : ∀ g cur fr, W.heap[g]? = some (.cells cur 3 fr) → g ≠ b → g ≠ sc → W'.heap[g]? = W.heap[g]?) : LnIs W' b sc vs ls :=
 ⟨h.1, fun i x hx => by obtain ⟨At, ct, h1, h2⟩ := h.2 i x hx; exact ⟨At, ct, h1, h2.keep hk⟩⟩
theorem keep_map {W W' : World} {b sc mb : Nat} (hm : ∃ es c, W.heap[mb]? = some (.map es c)) (hg : W.grownBy W' (some mb)) : ∀ g cur fr, W.heap[g]? = some (.cells cur 3 fr) → g ≠ b → g ≠ sc → W'.heap[g]? = W.heap[g]? := fun g cur fr h h1 h2 => by
 obtain ⟨es, c, hm⟩ := hm
 refine hg.block g (Array.getElem?_eq_some_iff.1 h).1 (fun e => ?_)
 injection e with e
 subst e
 rw [h] at hm
 cases hm
theorem keep_line {W W' : World} {b sc base : Nat} {v : Value} {vs : List (Value × Int)} (ho : OwnLn W base v vs) (hg : ∀ g, g < W.heap.size → v.ownBlock ≠ some g → W'.heap[g]? = W.heap[g]?) : ∀ g cur fr, W.heap[g]? = some (.cells cur 3 fr) → g ≠ b → g ≠ sc → W'.heap[g]? = W.heap[g]? := fun g cur fr h h1 h2 => by
 refine hg g (Array.getElem?_eq_some_iff.1 h).1 (fun e => ?_)
 obtain ⟨_, cur', h3⟩ := ho.obj g e
 rw [h] at h3
 injection h3 with h3
 injection h3 with _ h4
 exact absurd h4 (by decide)
theorem LnIs.snoc {W : World} {b sc : Nat} {vs : List (Value × Int)} {ls : List LineM} (h : LnIs W b sc vs ls) {At : Option Addr} {ct : Nat} {x : LineM} (hx : IntsT W b sc At x.1) : LnIs W b sc (vs ++ [(.slice At x.1.length ct, x.2)]) (ls ++ [x]) := by
 refine ⟨by simp [h.1], fun i y hy => ?_⟩
 by_cases hi : i < ls.length
 ·rw [List.getElem?_append_left hi] at hy
  obtain ⟨A', c', h1, h2⟩ := h.2 i y hy
  exact ⟨A', c', by rw [List.getElem?_append_left (by rw [h.1]; exact hi)]; exact h1, h2⟩
 have hi' : i = ls.length := by have := (List.getElem?_eq_some_iff.1 hy).1; simp at this; omega
 subst hi'
 simp at hy
 subst hy
 exact ⟨At, ct, by rw [← h.1]; simp, hx⟩
theorem OwnLn.lines {W : World} {b sc base : Nat} {v : Value} {vs : List (Value × Int)} {ls : List LineM} (h : OwnLn W base v vs) (hl : LnIs W b sc vs ls) (h1 : b < base) (h2 : sc < base) : ∃ A c, v = .slice A ls.length c ∧ LinesK W b sc A ls := by
 have h' := h
 obtain ⟨k1, ⟨rfl, hn⟩ | ⟨g, cap, cur, rfl, hb', hh, hm, hx, hs, ht⟩⟩ := h
 ·have : ls = [] := List.eq_nil_of_length_eq_zero (by rw [← hl.1]; exact hn)
  subst this
  exact ⟨none, 0, rfl, .inl rfl⟩
 refine ⟨_, cap, by rw [hl.1], .inr ⟨g, 0, cur, (0, 0), rfl, hh, by omega, by omega, fun i x hx => ?_⟩⟩
 obtain ⟨At, ct, e1, e2⟩ := hl.2 i x hx
 obtain ⟨a1, a2⟩ := lnC_at vs i _ e1
 have hi : i < vs.length := (List.getElem?_eq_some_iff.1 e1).1
 have c1 := World.ownsRow.cellAt (h' : W.ownsRow base 185 2 _ vs.length _) (i * 2) (by omega)
 have c2 := World.ownsRow.cellAt (h' : W.ownsRow base 185 2 _ vs.length _) (i * 2 + 1) (by omega)
 simp only [Nat.zero_add]
 exact ⟨c2.trans a2, At, ct, c1.trans a1, e2⟩
end Go.Proofs.YtmokogkndbinlaaGreatDoor
namespace Go.Proofs.YtmokogkndbinlaaGreatDoor
open Go.RowKit
def TabK (W : World) (b sc : Nat) : Prop := TabP W ∧ ∀ g, Tryz.prog.globalNamed "internal/strconv.uint64pow10" = some g → g ≠ b ∧ g ≠ sc
theorem TabK.rk {W W' : World} {b sc : Nat} (h : TabK W b sc) (hk : RK W b sc W') : TabK W' b sc := by
 refine ⟨?_, h.2⟩
 obtain ⟨h, hne⟩ := h
 unfold TabP Lib.TabIs World.var? at h ⊢
 cases hg : Tryz.prog.globalNamed "internal/strconv.uint64pow10" with
 | none => simp [hg] at h
 | some g =>
  simp only [hg, Option.bind_some] at h ⊢
  have hlt : g < W.heap.size := by
   rcases Nat.lt_or_ge g W.heap.size with h' | h'
   ·exact h'
   simp [Array.getElem?_eq_none h'] at h
  rw [hk.block g hlt (hne g hg).1 (hne g hg).2]
  exact h
theorem costR_ok (b sc : Nat) (s : ByteArray) (st st' : RdS) (v : RdV) (n : Int) (p : Nat) (w : World) (h : RdOk w b sc s st v) (hr : numM s.data.toList 0 farZ st = .ok (n, p) st') :
  Calls Tryz.prog 170 #[.pointer (some ⟨b, 0, none⟩)] w fun e w' => e = .returned (.tuple #[.int .i64 (min n v.top), .int .i64 (p : Int)]) ∧ RK w b sc w' ∧ RdOk w' b sc s st' v :=
 costR_of b v n p w (fun W => RK w b sc W ∧ RdOk W b sc s st' v) ((numR_ok b sc s st st' v 0 _ n p w h hr).mono fun e w' hh => ⟨hh.1, hh.2, hh.2.2.at_.cell (i := 6) rfl⟩)
theorem costR_bad (b sc : Nat) (s : ByteArray) (st : RdS) (v : RdV) (e p : Nat) (w : World) (h : RdOk w b sc s st v) (hr : numM s.data.toList 0 farZ st = .bad e p) :
  Calls Tryz.prog 170 #[.pointer (some ⟨b, 0, none⟩)] w fun e' w' => e' = .returned (.tuple #[.int .i64 (min 0 v.top), .int .i64 (p : Int)]) ∧ RK w b sc w' ∧ RdBad w' b e p { v with fp := (p : Int), fe := (e : Int) } :=
 costR_of b v 0 p w (fun W => RK w b sc W ∧ RdBad W b e p { v with fp := (p : Int), fe := (e : Int) }) ((numR_bad b sc s st v 0 _ e p w h hr).mono fun e w' hh => ⟨hh.1, hh.2, hh.2.2.at_.cell (i := 6) rfl⟩)
theorem costR_still (b e p : Nat) (v : RdV) (w : World) (h : RdBad w b e p v) :
  Calls Tryz.prog 170 #[.pointer (some ⟨b, 0, none⟩)] w fun e' w' => e' = .returned (.tuple #[.int .i64 (min 0 v.top), .int .i64 (p : Int)]) ∧ Below w.heap.size w w' ∧ RdBad w' b e p v :=
 costR_of b v 0 p w (fun W => Below w.heap.size w W ∧ RdBad W b e p v) ((numR_still b e p v 0 _ w h).mono fun e w' hh => ⟨hh.1, hh.2, hh.2.2.at_.cell (i := 6) rfl⟩)
end Go.Proofs.YtmokogkndbinlaaGreatDoor
namespace Go.Proofs.YtmokogkndbinlaaGreatDoor
open Go.RowKit
def topL (k : Int) (ls : List LineM) : List LineM := ls.map fun x => (x.1, min x.2 k)
theorem linesM_step {l : List UInt8} {sizes scope : List Nat} {n : Nat} {acc : List LineM} {s : RdS} : linesM l sizes scope (n + 1) acc s = (tupleM l sizes scope [] s).bind fun x s' => (numM l 0 farZ s').bind fun c s'' =>
   if acc.any (fun y => y.1 == x) then .bad 4 c.2 else linesM l sizes scope n (acc ++ [(x, c.1)]) s'' := rfl
def seenF (acc : List LineM) (x : List UInt8) : Int := if acc.any (fun y => textL y.1 == x) then 1 else 0
theorem seenF_at {n : Nat} {acc : List LineM} {x : List Nat} (hl : ∀ y ∈ acc, y.1.length = n ∧ ∀ z ∈ y.1, z ≤ 4611686018427387904) (hx : x.length = n) (hz : ∀ z ∈ x, z ≤ 4611686018427387904) : seenF acc (textL x) = if acc.any (fun y => y.1 == x) then 1 else 0 := by
 have e : acc.any (fun y => textL y.1 == textL x) = acc.any (fun y => y.1 == x) := by
  rw [Bool.eq_iff_iff, List.any_eq_true, List.any_eq_true]
  constructor
  ·rintro ⟨y, h1, h2⟩
   refine ⟨y, h1, ?_⟩
   have h3 : textL y.1 = textL x := by simpa using h2
   simpa using textL_one y.1 x ((hl y h1).1.trans hx.symm) (hl y h1).2 hz h3
  rintro ⟨y, h1, h2⟩
  refine ⟨y, h1, ?_⟩
  have h3 : y.1 = x := by simpa using h2
  simp [h3]
 unfold seenF
 rw [e]
theorem seenF_snoc (acc : List LineM) (x : List Nat) (c : Int) : seenF (acc ++ [(x, c)]) = fun y => if y = textL x then 1 else seenF acc y := by
 funext y
 unfold seenF
 rw [List.any_append]
 by_cases h : y = textL x
 ·subst h; simp
 rw [show ([(x, c)].any fun z : LineM => textL z.1 == y) = false by simpa using fun e => h e.symm, Bool.or_false, if_neg h]
structure LnAt (wb W : World) (b sc mb q n : Nat) (k : Int) (val : Value) (D : DataW Unit) (f : List UInt8 → Int) (vs : List (Value × Int)) : Prop where
 seen : Seen W mb q D f
 own : OwnLn W wb.heap.size val vs
 mbig : wb.heap.size ≤ mb
 kept : RK wb b sc W
 hb : b < wb.heap.size
 hs : sc < wb.heap.size
end Go.Proofs.YtmokogkndbinlaaGreatDoor
namespace Go.Proofs.YtmokogkndbinlaaGreatDoor
open Go.RowKit
theorem RdOk.upd {W W' : World} {b sc : Nat} {s : ByteArray} {st : RdS} {v v' : RdV} (h : RdOk W b sc s st v) (ha : RdAt W' b v') (hg : W.grownBy W' (some b)) (h1 : v'.sc = v.sc) (h2 : v'.fe = v.fe) (h3 : v'.le = v.le) (h4 : v'.lp = v.lp) : RdOk W' b sc s st v' := by
 have hk : RK W b sc W' := RK.grown1 hg
 refine ⟨ha, h1.trans h.vsc, (hg.block sc h.scan.lt (fun e => h.ne (Option.some.inj e).symm)).trans h.scan, h.ne, h.le, h.fits, h2.trans h.fine, ?_, h.glob.rk hk h.gb h.gs, h.gb, h.gs⟩
 have hb := h.big
 cases hq : st.big with
 | none => rw [hq] at hb; exact h3.trans hb
 | some q => rw [hq] at hb; exact ⟨h3.trans hb.1, h4.trans hb.2⟩
theorem RdOk.told_put {W : World} {b sc : Nat} {s : ByteArray} {st : RdS} {v : RdV} (h : RdOk W b sc s st v) (x : Int) : RdOk (W.setCell ⟨b, 10, none⟩ (.int .i64 x)) b sc s st { v with told := x } ∧ W.grownBy (W.setCell ⟨b, 10, none⟩ (.int .i64 x)) (some b) := by
 have hg := grown_put W b 10 (.int .i64 x)
 have ha := heap_setCell_same W b 10 _ _ (.int .i64 x) h.at_
 exact ⟨h.upd (v' := { v with told := x }) ha hg rfl rfl rfl rfl, hg⟩
theorem tupleM_le {l : List UInt8} {sizes : List Nat} : ∀ {sc acc a : List Nat} {s t : RdS}, s.k ≤ l.length → tupleM l sizes sc acc s = .ok a t → s.k ≤ t.k ∧ t.k ≤ l.length
 | [], acc, a, s, t, hs, h => by
  simp only [tupleM, RdR.ok.injEq] at h
  rw [← h.2]
  exact ⟨Nat.le_refl _, hs⟩
 | v :: r, acc, a, s, t, hs, h => by
  rw [tupleM_step] at h
  obtain ⟨c, s', h1, h2⟩ := bind_ok_iff.1 h
  obtain ⟨e, k1, k2, -, -, -, -⟩ := numM_ok.1 h1
  have hw := stepW_word hs k1
  have hk : s'.k = e := by rw [k2]
  have := tupleM_le (by rw [hk]; exact hw.2.2.1) h2
  omega
def LT1 (s : ByteArray) (sizes scope : List Nat) (b sc : Nat) (v : RdV) (st : RdS) (E : RdR (List LineM)) (x : List Nat) (W : World) : Prop :=
 (∃ st3, tupleM s.data.toList sizes scope [] st = .ok x st3 ∧ RdOk W b sc s st3 v) ∨ ∃ e p, RdBad W b e p { v with fp := (p : Int), fe := (e : Int) } ∧ E = .bad e p
def LC1 (s : ByteArray) (sizes scope : List Nat) (b sc : Nat) (v : RdV) (st : RdS) (E : RdR (List LineM)) (x : List Nat) (n pc : Int) (W : World) : Prop :=
 (∃ st3 st4 n0 p0, tupleM s.data.toList sizes scope [] st = .ok x st3 ∧ numM s.data.toList 0 farZ st3 = .ok (n0, p0) st4 ∧ n = min n0 v.top ∧ pc = (p0 : Nat) ∧ RdOk W b sc s st4 v) ∨ ∃ e p, RdBad W b e p { v with fp := (p : Int), fe := (e : Int) } ∧ E = .bad e p
def LN1 (s : ByteArray) (sizes scope : List Nat) (b sc : Nat) (v : RdV) (st : RdS) (E : RdR (List LineM)) (x : List Nat) (W : World) : Prop :=
 (∃ st3 st4 n0 p0, tupleM s.data.toList sizes scope [] st = .ok x st3 ∧ numM s.data.toList 0 farZ st3 = .ok (n0, p0) st4 ∧ RdBad W b 4 p0 { v with fp := (p0 : Int), fe := 4 }) ∨ ∃ e p, RdBad W b e p { v with fp := (p : Int), fe := (e : Int) } ∧ E = .bad e p
theorem costL {b sc : Nat} {s : ByteArray} {sizes scope : List Nat} {v : RdV} {st : RdS} {E : RdR (List LineM)} {x : List Nat} {W : World} (hE : ∀ x st3 e p, tupleM s.data.toList sizes scope [] st = .ok x st3 → numM s.data.toList 0 farZ st3 = .bad e p → E = .bad e p)
  (h : LT1 s sizes scope b sc v st E x W) : Calls Tryz.prog 170 #[.pointer (some ⟨b, 0, none⟩)] W fun e w' => ∃ n pc, e = .returned (.tuple #[.int .i64 n, .int .i64 pc]) ∧ RK W b sc w' ∧ LC1 s sizes scope b sc v st E x n pc w' := by
 rcases h with ⟨st3, h1, h2⟩ | ⟨e, p, h1, h2⟩
 rotate_left
 ·exact (costR_still b e p _ W h1).mono fun e' w' hh => ⟨_, _, hh.1, RK.below hh.2.1, .inr ⟨e, p, hh.2.2, h2⟩⟩
 cases hq : numM s.data.toList 0 farZ st3 with
 | ok np st4 =>
  obtain ⟨n0, p0⟩ := np
  exact (costR_ok b sc s st3 st4 v n0 p0 W h2 hq).mono fun e w' hh => ⟨_, _, hh.1, hh.2.1, .inl ⟨st3, st4, n0, p0, h1, hq, rfl, rfl, hh.2.2⟩⟩
 | bad e p =>
  exact (costR_bad b sc s st3 v e p W h2 hq).mono fun e' w' hh => ⟨_, _, hh.1, hh.2.1, .inr ⟨e, p, hh.2.2, hE x st3 e p h1 hq⟩⟩
theorem noteL {b sc : Nat} {s : ByteArray} {sizes scope : List Nat} {v : RdV} {st : RdS} {E : RdR (List LineM)} {x : List Nat} {n pc : Int} {W : World} (h : LC1 s sizes scope b sc v st E x n pc W) :
  Calls Tryz.prog 166 #[.pointer (some ⟨b, 1, none⟩), .int .i64 pc, .int .i64 4] W fun e w' => (∃ u, e = .returned u) ∧ RK W b sc w' ∧ LN1 s sizes scope b sc v st E x w' := by
 rcases h with ⟨st3, st4, n0, p0, h1, h2, -, rfl, h5⟩ | ⟨e, p, h1, h2⟩
 ·refine (note_new b 1 (p0 : Int) 4 W _ _ h5.at_ (Or.inr ⟨v.fp, rfl⟩) (h5.fine ▸ rfl)).mono ?_
  rintro e w' ⟨hu, q1, q2⟩
  exact ⟨hu, RK.grown1 q2, .inl ⟨st3, st4, n0, p0, h1, h2, h5.told (by decide) q1 q2⟩⟩
 refine (note_old b 1 pc 4 e W h1.fault (by have := h1.ne; omega)).mono ?_
 rintro e' w' ⟨hu, rfl⟩
 exact ⟨hu, RK.refl _ _ _, .inr ⟨e, p, h1, h2⟩⟩
theorem tupleL {b sc cs cc : Nat} {As Ac : Option Addr} {sizes scope : List Nat} {s : ByteArray} {st : RdS} {v : RdV} {E : RdR (List LineM)} {W : World} (hE : ∀ e p, tupleM s.data.toList sizes scope [] st = .bad e p → E = .bad e p) (hnv : sizes.length ≤ 100000) (hsm : ∀ x ∈ sizes, x ≤ 4611686018427387904) (hlen : scope.length ≤ 100001) (hin : ∀ x ∈ scope, x < sizes.length)
  (h : RdOk W b sc s st v) (hv : v.sizes = .slice As sizes.length cs) (hS : IntsK W b sc As sizes) (hC : IntsK W b sc Ac scope) :
  Calls Tryz.prog 214 #[.pointer (some ⟨b, 0, none⟩), .slice Ac scope.length cc] W fun e w' => ∃ A c x, e = .returned (.slice A x.length c) ∧ x.length = scope.length ∧ (∀ z ∈ x, z ≤ 4611686018427387904) ∧ IntsT w' b sc A x ∧ RK W b sc w' ∧ LT1 s sizes scope b sc v st E x w' := by
 refine (tupleR b sc cs cc As Ac sizes scope s st v W hnv hsm hlen hin h hv hS hC).mono ?_
 rintro e w' ⟨A, c, x, rfl, h1, h2, h3, h4, h5⟩
 rw [← h1] at h3 ⊢
 refine ⟨A, c, x, rfl, rfl, h2, IntsT.own h3 h.lt h.scan.lt, h4, ?_⟩
 cases hq : tupleM s.data.toList sizes scope [] st with
 | ok a st3 =>
  rw [hq] at h5
  obtain ⟨rfl, h6⟩ := h5
  exact .inl ⟨st3, hq, h6⟩
 | bad e p =>
  rw [hq] at h5
  exact .inr ⟨e, p, h5, hE e p hq⟩
theorem textL_len (l : List Nat) (h : ∀ z ∈ l, z ≤ 4611686018427387904) : (textL l).length ≤ 22 * l.length := by
 have t : ∀ r : List Nat, (∀ z ∈ r, z ≤ 4611686018427387904) → (Lib.joinTail [32] (r.map fun n : Nat => Lib.itoa (n : Int))).length ≤ 22 * r.length := by
  intro r
  induction r with
  | nil => intro _; simp [Lib.joinTail]
  | cons a q ih =>
   intro hr
   have h1 := ih (fun z hz => hr z (by simp [hz]))
   have h2 := itoa_len (a : Int) (by omega) (by have := hr a (by simp); omega)
   simp [Lib.joinTail] at h1 ⊢
   omega
 cases l with
 | nil => simp [textL, Lib.join]
 | cons a r =>
  have h1 := t r (fun z hz => h z (by simp [hz]))
  have h2 := itoa_len (a : Int) (by omega) (by have := h a (by simp); omega)
  simp only [textL, List.map_cons, Lib.join_cons, List.length_append, List.length_cons]
  omega
theorem textRK {b sc c : Nat} {A : Option Addr} {x : List Nat} {W : World} (hl : x.length ≤ 100001) (hz : ∀ z ∈ x, z ≤ 4611686018427387904) (h : IntsK W b sc A x) (hT : TabK W b sc) :
  Calls Tryz.prog 215 #[.slice A x.length c] W fun e w' => e = .returned (.string ⟨(textL x).toArray⟩) ∧ Below W.heap.size W w' :=
 textR c A x W hl hz (by have := textL_len x hz; omega) h.ints hT.1
theorem LC1.below {b sc : Nat} {s : ByteArray} {sizes scope : List Nat} {v : RdV} {st : RdS} {E : RdR (List LineM)} {x : List Nat} {n pc : Int} {W W' : World} (h : LC1 s sizes scope b sc v st E x n pc W) (hb : Below W.heap.size W W') : LC1 s sizes scope b sc v st E x n pc W' := by
 rcases h with ⟨st3, st4, n0, p0, h1, h2, h3, h4, h5⟩ | ⟨e, p, h1, h2⟩
 ·exact .inl ⟨st3, st4, n0, p0, h1, h2, h3, h4, h5.below hb⟩
 exact .inr ⟨e, p, h1.below hb, h2⟩
theorem RdOk.other {W W' : World} {b sc mb : Nat} {s : ByteArray} {st : RdS} {v : RdV} (h : RdOk W b sc s st v) (hg : W.grownBy W' (some mb)) (h1 : b ≠ mb) (h2 : sc ≠ mb) (h3 : 3 ≠ mb) : RdOk W' b sc s st v := by
 refine ⟨h.at_.next hg (fun e => h1 (Option.some.inj e)), h.vsc, (hg.block sc h.scan.lt (fun e => h2 (Option.some.inj e))).trans h.scan, h.ne, h.le, h.fits, h.fine, h.big, ?_, h.gb, h.gs⟩
 exact h.glob.rk (RK.grown1 (q := mb) hg) h3 h3
theorem RdBad.other {W W' : World} {b mb e p : Nat} {v : RdV} (h : RdBad W b e p v) (hg : W.grownBy W' (some mb)) (h1 : b ≠ mb) (h3 : 3 ≠ mb) : RdBad W' b e p v :=
 ⟨h.at_.next hg (fun e => h1 (Option.some.inj e)), h.fe, h.fp, h.ne, h.glob.rk (RK.grown1 (q := mb) hg) h3 h3, h.gb⟩
theorem LC1.other {b sc mb : Nat} {s : ByteArray} {sizes scope : List Nat} {v : RdV} {st : RdS} {E : RdR (List LineM)} {x : List Nat} {n pc : Int} {W W' : World} (h : LC1 s sizes scope b sc v st E x n pc W) (hg : W.grownBy W' (some mb)) (h1 : b ≠ mb) (h2 : sc ≠ mb) (h3 : 3 ≠ mb) : LC1 s sizes scope b sc v st E x n pc W' := by
 rcases h with ⟨st3, st4, n0, p0, k1, k2, k3, k4, k5⟩ | ⟨e, p, k1, k2⟩
 ·exact .inl ⟨st3, st4, n0, p0, k1, k2, k3, k4, k5.other hg h1 h2 h3⟩
 exact .inr ⟨e, p, k1.other hg h1 h3, k2⟩
end Go.Proofs.YtmokogkndbinlaaGreatDoor
namespace Go.Proofs.YtmokogkndbinlaaGreatDoor
open Go.RowKit
theorem RdOk.quiet {W W' : World} {b sc : Nat} {s : ByteArray} {st : RdS} {v : RdV} (h : RdOk W b sc s st v) (hg : W.grownBy W' none) : RdOk W' b sc s st v := by
 have hb : Below W.heap.size W W' := ⟨hg.os, hg.tape, hg.output, hg.size, fun k hk => hg.block k hk (by simp)⟩
 exact h.below hb
theorem past_end {l : List UInt8} {k : Nat} (hk : k ≤ l.length) : stepW l k = .none ↔ pastP isB l k = l.length := by
 constructor
 ·intro h; exact (stepW_none hk h).1
 intro h
 cases hq : stepW l k with
 | none => rfl
 | word f t =>
  have := stepW_word hk hq
  omega
 | bad b =>
  have := stepW_bad hk hq
  have h2 := pastP_le isW l (k := l.length) (Nat.le_refl _)
  obtain ⟨h3, h4, _⟩ := this
  rw [h] at h3
  have h5 := pastP_ge isW l (k := l.length)
  omega
theorem RdOk.fault0 {W : World} {b sc : Nat} {s : ByteArray} {st : RdS} {v : RdV} (h : RdOk W b sc s st v) : W.cell? ⟨b, 1 + 1, none⟩ = some (.int .i64 0) := h.fine ▸ h.at_.cell (i := 2) rfl
theorem past_no {s : ByteArray} {k : Nat} (hk : k ≤ s.size) (hr : stepW s.data.toList k = .none) : decide (pastP isB s.data.toList k < s.size) = false := by
 have h := (past_end (l := s.data.toList) (k := k) (by rw [size_list]; exact hk)).1 hr
 rw [size_list] at h
 exact decide_eq_false (by omega)
theorem past_yes {s : ByteArray} {k : Nat} (hk : k ≤ s.size) (hr : stepW s.data.toList k ≠ .none) : decide (pastP isB s.data.toList k < s.size) = true := by
 have h : ¬ pastP isB s.data.toList k = s.data.toList.length := fun h => hr ((past_end (by rw [size_list]; exact hk)).2 h)
 have h2 := pastP_le isB s.data.toList (k := k) (by rw [size_list]; exact hk)
 rw [size_list] at h h2
 exact decide_eq_true (by omega)
theorem endR_none (b sc : Nat) (s : ByteArray) (st : RdS) (v : RdV) (w : World) (h : RdOk w b sc s st v) (hr : stepW s.data.toList st.k = .none) :
  Calls Tryz.prog 136 #[.pointer (some ⟨b, 0, none⟩)] w fun e w' => (∃ u, e = .returned u) ∧ RK w b sc w' ∧ RdOk w' b sc s st v := by
 have RT := hid (right_at b 1 0 w h.fault0)
 have MO := hid (more_any sc s st.k w (Nat.le_trans h.fits (by decide)) h.le h.scan)
 have c0 : w.cell? ⟨b, 0, none⟩ = some (.pointer (some ⟨sc, 0, none⟩)) := h.vsc ▸ h.at_.cell (i := 0) rfl
 rw [past_no h.le hr] at MO
 have HH := hid h
 clear h hr
 go_enter Tryz.func136, Tryz.ntmps136
 go_wp2_with (first | (go_at_call 75; refine RT.out.mono ?_; rintro e w' ⟨rfl, rfl⟩) | (go_at_call 172; refine MO.out.mono ?_; rintro e w1 ⟨rfl, hg⟩; replace hg := hid hg) | fail)
 go_end0
 have hB : Below w.heap.size w w1 := ⟨hg.out.os, hg.out.tape, hg.out.output, hg.out.size, fun k hk => hg.out.block k hk (by simp)⟩
 exact ⟨⟨_, rfl⟩, RK.below hB, HH.out.below hB⟩
theorem endR_word (b sc : Nat) (s : ByteArray) (st : RdS) (v : RdV) (f t : Nat) (w : World) (h : RdOk w b sc s st v) (hr : stepW s.data.toList st.k = .word f t) :
  Calls Tryz.prog 136 #[.pointer (some ⟨b, 0, none⟩)] w fun e w' => (∃ u, e = .returned u) ∧ RK w b sc w' ∧ RdBad w' b 4 f { v with fp := (f : Int), fe := 4 } := by
 have RT := hid (right_at b 1 0 w h.fault0)
 have MO := hid (more_any sc s st.k w (Nat.le_trans h.fits (by decide)) h.le h.scan)
 have c0 : w.cell? ⟨b, 0, none⟩ = some (.pointer (some ⟨sc, 0, none⟩)) := h.vsc ▸ h.at_.cell (i := 0) rfl
 rw [past_yes h.le (by rw [hr]; intro hc; cases hc)] at MO
 have WD := hid (fun W (hg : w.grownBy W none) => wordR_ok b sc s st v f t W (h.quiet hg) hr)
 have NT := hid (fun W (ho : RdOk W b sc s ⟨t, st.big⟩ v) => note_new b 1 (f : Int) 4 W _ _ ho.at_ (Or.inr ⟨v.fp, rfl⟩) (ho.fine ▸ rfl))
 have HH := hid h
 clear h hr
 go_enter Tryz.func136, Tryz.ntmps136
 go_wp2_with (first | (go_at_call 75; refine RT.out.mono ?_; rintro e w' ⟨rfl, rfl⟩) | (go_at_call 172; refine MO.out.mono ?_; rintro e w1 ⟨rfl, hg⟩; replace hg := hid hg) | (go_at_call 131; refine (WD.out _ hg.out).mono ?_; rintro e w2 ⟨rfl, hk, ho⟩; replace hk := hid hk; replace ho := hid ho) | (go_at_call 166; refine (NT.out _ ho.out).mono ?_; rintro e w3 ⟨⟨_, rfl⟩, z1, z2⟩) | fail)
 go_end0
 have hB : Below w.heap.size w w1 := ⟨hg.out.os, hg.out.tape, hg.out.output, hg.out.size, fun k hk => hg.out.block k hk (by simp)⟩
 exact ⟨⟨_, rfl⟩, ((RK.below hB).trans hk.out).trans (RK.grown1 z2), ho.out.told (by decide) z1 z2⟩
theorem endR_bad (b sc : Nat) (s : ByteArray) (st : RdS) (v : RdV) (t : Nat) (w : World) (h : RdOk w b sc s st v) (hr : stepW s.data.toList st.k = .bad t) :
  Calls Tryz.prog 136 #[.pointer (some ⟨b, 0, none⟩)] w fun e w' => (∃ u, e = .returned u) ∧ RK w b sc w' ∧ RdBad w' b 11 t { v with fp := (t : Int), fe := 11 } := by
 have RT := hid (right_at b 1 0 w h.fault0)
 have MO := hid (more_any sc s st.k w (Nat.le_trans h.fits (by decide)) h.le h.scan)
 have c0 : w.cell? ⟨b, 0, none⟩ = some (.pointer (some ⟨sc, 0, none⟩)) := h.vsc ▸ h.at_.cell (i := 0) rfl
 rw [past_yes h.le (by rw [hr]; intro hc; cases hc)] at MO
 have WD := hid (fun W (hg : w.grownBy W none) => wordR_bad b sc s st v t W (h.quiet hg) hr)
 have NT := hid (fun W (ho : RdBad W b 11 t { v with fp := (t : Int), fe := 11 }) => note_old b 1 (t : Int) 4 11 W (ho.at_.cell (i := 2) rfl) (by decide))
 have HH := hid h
 clear h hr
 go_enter Tryz.func136, Tryz.ntmps136
 go_wp2_with (first | (go_at_call 75; refine RT.out.mono ?_; rintro e w' ⟨rfl, rfl⟩) | (go_at_call 172; refine MO.out.mono ?_; rintro e w1 ⟨rfl, hg⟩; replace hg := hid hg) | (go_at_call 131; refine (WD.out _ hg.out).mono ?_; rintro e w2 ⟨rfl, hk, ho⟩; replace hk := hid hk; replace ho := hid ho) | (go_at_call 166; refine (NT.out _ ho.out).mono ?_; rintro e w3 ⟨⟨_, rfl⟩, rfl⟩) | fail)
 go_end0
 have hB : Below w.heap.size w w1 := ⟨hg.out.os, hg.out.tape, hg.out.output, hg.out.size, fun k hk => hg.out.block k hk (by simp)⟩
 exact ⟨⟨_, rfl⟩, (RK.below hB).trans hk.out, ho.out⟩
theorem endR_still (b e p : Nat) (v : RdV) (w : World) (h : RdBad w b e p v) :
  Calls Tryz.prog 136 #[.pointer (some ⟨b, 0, none⟩)] w fun e' w' => (∃ u, e' = .returned u) ∧ w = w' := by
 have RT := hid (right_at b 1 (e : Int) w (h.fe ▸ h.at_.cell (i := 2) rfl))
 have d : ((e : Int) == 0) = false := by have := h.ne; simpa using this
 rw [d] at RT
 clear h d
 go_enter Tryz.func136, Tryz.ntmps136
 go_wp2_with (first | (go_at_call 75; refine RT.out.mono ?_; rintro e w' ⟨rfl, rfl⟩) | fail)
 go_end0
 exact ⟨⟨_, rfl⟩, rfl⟩
end Go.Proofs.YtmokogkndbinlaaGreatDoor
