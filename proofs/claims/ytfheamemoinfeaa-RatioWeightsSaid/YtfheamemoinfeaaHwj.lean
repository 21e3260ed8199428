/- RatioWeights: weights and the law's own list side by side (no statement of its own). -/
import Derived.Test.YtfheamemoinfeaaHwg
import Derived.Test.YtfheamemoinfeaaHwi
import Derived.Test.YtfheamemoinfeaaFi
namespace Go.Proofs.Ytfheamemoinfeaa
open Go.RowKit
open RtA
set_option linter.unusedVariables false
theorem read_isnan {x : Nat} (h : nan x = true) (op : BinOp) (hop : op = .add ∨ op = .mul) (y : Nat) : floatBits op .f64 x y = none ∧ floatBits op .f64 y x = none := by
  obtain ⟨s, t, e⟩ := read_nan h
  rcases hop with rfl | rfl
  · have e1 : ∀ a b, floatBits .add .f64 a b = ((Ieee.double.read a).sum (Ieee.double.read b)).map Ieee.double.write := fun a b => rfl
    rw [e1, e1, e]
    constructor
    · cases Ieee.double.read y <;> rfl
    · cases Ieee.double.read y <;> rfl
  · have e1 : ∀ a b, floatBits .mul .f64 a b = ((Ieee.double.read a).product (Ieee.double.read b)).map Ieee.double.write := fun a b => rfl
    rw [e1, e1, e]
    constructor
    · cases Ieee.double.read y <;> rfl
    · cases Ieee.double.read y <;> rfl
theorem FR.eqv2 {op : BinOp} (hop : op = .add ∨ op = .mul) {a a' c c' r r' : Nat} (h1 : Eqv a a') (h2 : Eqv c c') (h : FR op a c r) (h' : FR op a' c' r') : Eqv r r' := by
  rcases h1 with ⟨n1, n2⟩ | rfl
  · exact .inl ⟨h.none (read_isnan n1 op hop c).1, h'.none (read_isnan n2 op hop c').1⟩
  · rcases h2 with ⟨n1, n2⟩ | rfl
    · exact .inl ⟨h.none (read_isnan n1 op hop a).2, h'.none (read_isnan n2 op hop a).2⟩
    · exact h.eqv h'
theorem Eqv.refl (x : Nat) : Eqv x x := .inr rfl
/-- The same weights, none for none. -/
structure EqL (X x : List Nat) : Prop where
  len : X.length = x.length
  eqv : ∀ j, j < X.length → Eqv (nthF X j) (nthF x j)
theorem EqL.mul {X x X' x' : List Nat} {y : Nat} (h : EqL X x) (h1 : X'.length = X.length) (h2 : ∀ j, j < X.length → FR .mul (nthF X j) y (nthF X' j)) (h3 : DecB x x' x.length y) : EqL X' x' :=
  ⟨by rw [h1, h3.1, h.len], fun j hj => FR.eqv2 (.inr rfl) (h.eqv j (by omega)) (Eqv.refl y) (h2 j (by omega)) ((h3.2 j (by have := h.len; omega)).1 (by have := h.len; omega))⟩
theorem EqL.set {X x : List Nat} {q y r s : Nat} (h : EqL X x) (hq : q < X.length) (h1 : FR .add (nthF X q) y r) (h2 : FR .add (nthF x q) y s) : EqL (X.set q r) (x.set q s) := by
  have hl := h.len
  refine ⟨by rw [List.length_set, List.length_set, hl], fun j hj => ?_⟩
  rw [List.length_set] at hj
  rw [nthF_set _ _ _ _ hq, nthF_set _ _ _ _ (by omega)]
  by_cases e : j = q
  · rw [if_pos e, if_pos e]
    exact FR.eqv2 (.inl rfl) (h.eqv q hq) (Eqv.refl y) h1 h2
  · rw [if_neg e, if_neg e]
    exact h.eqv j hj
theorem nthF_rep (n y j : Nat) (h : j < n) : nthF (List.replicate n y) j = y := by
  unfold nthF
  rw [List.getD_eq_getElem?_getD, List.getElem?_replicate, if_pos h]
  rfl
theorem nthF_app_r {l k : List Nat} {i : Nat} (h : l.length ≤ i) : nthF (l ++ k) i = nthF k (i - l.length) := by
  unfold nthF
  rw [List.getD_eq_getElem?_getD, List.getD_eq_getElem?_getD, List.getElem?_append_right h]
theorem EqL.app {X x : List Nat} (h : EqL X x) (n : Nat) : EqL (X ++ List.replicate n oneF) (x ++ List.replicate n oneF) := by
  have hl := h.len
  refine ⟨by simp [hl], fun j hj => ?_⟩
  rw [List.length_append, List.length_replicate] at hj
  rcases Nat.lt_or_ge j X.length with h1 | h1
  · rw [nthF_app_l h1, nthF_app_l (by omega)]
    exact h.eqv j h1
  · rw [nthF_app_r h1, nthF_app_r (by omega), nthF_rep _ _ _ (by omega), nthF_rep _ _ _ (by omega)]
    exact Eqv.refl _
theorem EqL.ofX {X x : List Nat} (h : EqL X x) (j : Int) : Eqv (ofX X j) (ofX x j) := by
  unfold Go.Proofs.Ytfheamemoinfeaa.ofX
  rw [h.len]
  cases hj : isIn j x.length
  · rw [if_neg (by decide), if_neg (by decide)]; exact Eqv.refl 0
  · obtain ⟨q, rfl, hq⟩ := isIn_nat hj
    rw [if_pos rfl, if_pos rfl, Int.toNat_natCast]
    exact h.eqv q (by rw [h.len]; exact hq)
theorem sum_eqv {X x : List Nat} (h : EqL X x) (l : List Int) : ∀ (k s s' : Nat), SumT X l k s → SumT x l k s' → Eqv s s'
  | 0, s, s', h1, h2 => by rw [show s = 0 from h1, show s' = 0 from h2]; exact Eqv.refl 0
  | k + 1, s, s', ⟨t, h1, h2⟩, ⟨t', h3, h4⟩ => FR.eqv2 (.inl rfl) (sum_eqv h l k t t' h1 h3) (h.ofX _) h2 h4
theorem sum_lt {X : List Nat} {l : List Int} : ∀ {k s : Nat}, SumT X l k s → s < 18446744073709551616
  | 0, s, h => by rw [show s = 0 from h]; decide
  | k + 1, s, ⟨t, h1, h2⟩ => h2.1
/-- A block of the law's own beside them, if there is one. -/
def Bx (W : World) (Q : Nat → Prop) (vx : Value) : Option (Nat × Obj) → Prop
  | none => True
  | some (g, o) => W.heap[g]? = some o ∧ ¬ Q g ∧ vx.ownBlock ≠ some g
theorem Bx.keep {W W' : World} {Q Q' : Nat → Prop} {vx vx' : Value} {B : Option (Nat × Obj)} (h : Bx W Q vx B) (hk : ∀ g, g < W.heap.size → ¬ Q g → vx.ownBlock ≠ some g → W'.heap[g]? = W.heap[g]? ∧ ¬ Q' g ∧ vx'.ownBlock ≠ some g) : Bx W' Q' vx' B := by
  cases B with
  | none => trivial
  | some go =>
    obtain ⟨g, o⟩ := go
    obtain ⟨h1, h2, h3⟩ := h
    obtain ⟨k1, k2, k3⟩ := hk g (Array.getElem?_eq_some_iff.1 h1).1 h2 h3
    exact ⟨k1.trans h1, k2, k3⟩
/-- Weights, and a list of the law's own beside them. -/
def TR (W0 W : World) (b K : Nat) (vx : Value) (X x : List Nat) (B : Option (Nat × Obj)) : Prop :=
  ∃ Q : Nat → Prop, WA Q W b K X ∧ OwnF W W0.heap.size vx x ∧ (∀ k, Q k → W0.heap.size ≤ k ∧ k < W.heap.size) ∧ (∀ g, vx.ownBlock = some g → ¬ Q g) ∧ Below W0.heap.size W0 W ∧ Bx W Q vx B
theorem TR.below {W0 W : World} {b K : Nat} {vx : Value} {X x : List Nat} {B : Option (Nat × Obj)} (h : TR W0 W b K vx X x B) : Below W0.heap.size W0 W := by obtain ⟨Q, _, _, _, _, h, _⟩ := h; exact h
theorem TR.own {W0 W : World} {b K : Nat} {vx : Value} {X x : List Nat} {B : Option (Nat × Obj)} (h : TR W0 W b K vx X x B) : OwnF W W0.heap.size vx x := by obtain ⟨Q, _, h, _⟩ := h; exact h
theorem TR.box {W0 W : World} {b K g : Nat} {vx : Value} {X x : List Nat} {o : Obj} (h : TR W0 W b K vx X x (some (g, o))) : W.heap[g]? = some o := by obtain ⟨Q, _, _, _, _, _, h, _⟩ := h; exact h
theorem TR.nobox {W0 W : World} {b K : Nat} {vx : Value} {X x : List Nat} {B : Option (Nat × Obj)} (h : TR W0 W b K vx X x B) : TR W0 W b K vx X x none := by
  obtain ⟨Q, h1, h2, h3, h4, h5, h6⟩ := h
  exact ⟨Q, h1, h2, h3, h4, h5, trivial⟩
theorem TR.grown {W0 W W' : World} {b K : Nat} {vx : Value} {X x : List Nat} {B : Option (Nat × Obj)} (h : TR W0 W b K vx X x B) (hg : W.grownBy W' none) : TR W0 W' b K vx X x B := by
  obtain ⟨Q, h1, h2, h3, h4, h5, h6⟩ := h
  exact ⟨Q, h1.grown hg, h2.kept0 hg, fun k hk => ⟨(h3 k hk).1, Nat.lt_of_lt_of_le (h3 k hk).2 hg.size⟩, h4, h5.grown hg h5.size (fun k e => by cases e), h6.keep fun g hg' q1 q2 => ⟨hg.block g hg' (by simp), q1, q2⟩⟩
theorem TR.withbox {W0 W : World} {b K : Nat} {vx : Value} {X x : List Nat} {B : Option (Nat × Obj)} (h : TR W0 W b K vx X x B) (cs : Array Value) (t : Nat) : TR W0 (W.alloc (.cells cs t)) b K vx X x (some (W.heap.size, .cells cs t (0, 0))) := by
  obtain ⟨Q, h1, h2, h3, h4, h5, h6⟩ := h.grown (World.grownBy_alloc W (.cells cs t) none)
  obtain ⟨Q', g1, g2, g3, g4, g5, g6⟩ := h
  refine ⟨Q', g1.grown (World.grownBy_alloc W (.cells cs t) none), h2, fun k hk => ⟨(g3 k hk).1, by have := (g3 k hk).2; simp; omega⟩, g4, h5, heap_alloc_new W _, fun hq => ?_, fun e => ?_⟩
  · have := (g3 _ hq).2; omega
  · have := (g2.lt _ e).2; omega
theorem TR.more {W0 W : World} {b K K' : Nat} {vx : Value} {X x : List Nat} {B : Option (Nat × Obj)} (h : TR W0 W b K vx X x B) (hK : K ≤ K') : TR W0 W b K' vx X x B := by
  obtain ⟨Q, h1, h2⟩ := h
  exact ⟨Q, h1.more hK, h2⟩
theorem TR.call {W0 W W' : World} {b K' : Nat} {vx : Value} {X' x : List Nat} {Q : Nat → Prop} {B : Option (Nat × Obj)} (h2 : OwnF W W0.heap.size vx x) (h3 : ∀ k, Q k → W0.heap.size ≤ k ∧ k < W.heap.size) (h4 : ∀ g, vx.ownBlock = some g → ¬ Q g) (h5 : Below W0.heap.size W0 W) (h6 : Bx W Q vx B)
    (h1 : WA (fun k => Q k ∨ W.heap.size ≤ k) W' b K' X') (hk : Kp Q W W') : TR W0 W' b K' vx X' x B := by
  have hz := h5.size
  refine ⟨fun k => (Q k ∨ W.heap.size ≤ k) ∧ k < W'.heap.size, h1.mono (fun k hk hp => ⟨hp, hk⟩), h2.keepB (fun g e => hk.block g (h2.lt g e).2 (h4 g e)), fun k hq => ⟨?_, hq.2⟩, fun g e hq => ?_, ?_, ?_⟩
  · rcases hq.1 with h | h
    · exact (h3 k h).1
    · omega
  · rcases hq.1 with h | h
    · exact h4 g e h
    · have := (h2.lt g e).2; omega
  · exact h5.trans ((hk.below (B := W0.heap.size) (fun k h => (h3 k h).1) hz))
  · refine h6.keep fun g hg q1 q2 => ⟨hk.block g hg q1, fun hq => ?_, q2⟩
    rcases hq.1 with h | h
    · exact q1 h
    · omega
theorem tr_decay {W0 W : World} {b K : Nat} {vx : Value} {X x : List Nat} {B : Option (Nat × Obj)} (y : Nat) (h : TR W0 W b K vx X x B) (hK : K ≤ 90000) : Calls Try.prog 19 #[.pointer (some ⟨b, 0, none⟩), .float .f64 y] W fun e w' => e = .returned (.tuple #[]) ∧ ∃ X', X'.length = X.length ∧ (∀ j, j < X.length → FR .mul (nthF X j) y (nthF X' j)) ∧ TR W0 w' b K vx X' x B := by
  obtain ⟨Q, h1, h2, h3, h4, h5, h6⟩ := h
  refine (wdecay_any y h1 hK).mono ?_
  rintro e w' ⟨he, X', g1, g2, g3, g4⟩
  exact ⟨he, X', g1, g2, TR.call h2 h3 h4 h5 h6 (g3.mono fun k _ h => .inl h) g4⟩
theorem tr_grow {W0 W : World} {b K : Nat} {vx : Value} {X x : List Nat} {B : Option (Nat × Obj)} (n : Int) (h : TR W0 W b K vx X x B) (hK : K ≤ 90000) (hX : X.length ≤ 100000) : Calls Try.prog 20 #[.pointer (some ⟨b, 0, none⟩), .int .i64 n] W fun e w' => e = .returned (.tuple #[]) ∧ TR W0 w' b (K + 1) vx (growX X n) x B := by
  obtain ⟨Q, h1, h2, h3, h4, h5, h6⟩ := h
  refine (wgrow_any n h1 hK hX).mono ?_
  rintro e w' ⟨he, g3, g4⟩
  exact ⟨he, TR.call h2 h3 h4 h5 h6 g3 g4⟩
def TBump (W0 : World) (b K : Nat) (vx : Value) (j : Int) (y : Nat) (X x : List Nat) (B : Option (Nat × Obj)) (e : Ending) (w' : World) : Prop :=
  (nan y = true ∧ e = .returned (.int .i64 1) ∧ TR W0 w' b (K + 1) vx X x B) ∨
  (nan y = false ∧ isIn j X.length = false ∧ e = .returned (.int .i64 3) ∧ TR W0 w' b (K + 1) vx X x B) ∨
  (nan y = false ∧ ∃ q r : Nat, j = (q : Int) ∧ q < X.length ∧ FR .add (nthF X q) y r ∧ e = .returned (.int .i64 0) ∧ TR W0 w' b (K + 1) vx (X.set q r) x B)
theorem tr_bump {W0 W : World} {b K : Nat} {vx : Value} {X x : List Nat} {B : Option (Nat × Obj)} (j : Int) (y : Nat) (h : TR W0 W b K vx X x B) (hK : K ≤ 90000) (hX : X.length ≤ 100000) : Calls Try.prog 21 #[.pointer (some ⟨b, 0, none⟩), .int .i64 j, .float .f64 y] W (TBump W0 b K vx j y X x B) := by
  have h0 := h
  obtain ⟨Q, h1, h2, h3, h4, h5, h6⟩ := h
  refine (wbump_any j h1 hK hX).mono ?_
  rintro e w' (⟨g1, g2, m, rfl⟩ | ⟨g1, g2, g3, m, rfl⟩ | ⟨g1, q, r, g2, g3, g4, g5, g6, g7⟩)
  · exact .inl ⟨g1, g2, (h0.grown (grown_drewN (grown_refl W) m)).more (by omega)⟩
  · exact .inr (.inl ⟨g1, g2, g3, (h0.grown (grown_drewN (grown_refl W) m)).more (by omega)⟩)
  · exact .inr (.inr ⟨g1, q, r, g2, g3, g4, g5, TR.call h2 h3 h4 h5 h6 g6 g7⟩)
theorem tr_len {W0 W : World} {b K : Nat} {vx : Value} {X x : List Nat} {B : Option (Nat × Obj)} (h : TR W0 W b K vx X x B) (hK : K ≤ 90000) : Calls Try.prog 22 #[.pointer (some ⟨b, 0, none⟩)] W (RetN W (.int .i64 (X.length : Int))) := by
  obtain ⟨Q, h1, _⟩ := h
  exact wlen_any h1 (by omega)
theorem tr_of {W0 W : World} {b K : Nat} {vx : Value} {X x : List Nat} {B : Option (Nat × Obj)} (h : TR W0 W b K vx X x B) (hK : K ≤ 90000) (hX : X.length ≤ 100000) : OfC (.pointer (some ⟨b, 0, none⟩)) X W := by
  obtain ⟨Q, h1, _⟩ := h
  exact wof_any h1 (by omega) hX
/-- The law's list is written. -/
theorem TR.setx {W0 W : World} {b K g n c : Nat} {X x : List Nat} {B : Option (Nat × Obj)} (h : TR W0 W b K (.slice (some ⟨g, 0, none⟩) n c) X x B) (hn : x.length = n) (j z : Nat) : TR W0 (W.setCell ⟨g, j, none⟩ (.float .f64 z)) b K (.slice (some ⟨g, 0, none⟩) n c) X (x.set j z) B := by
  subst hn
  obtain ⟨Q, h1, h2, h3, h4, h5, h6⟩ := h
  obtain ⟨s1, s2⟩ := h2.store j z
  refine ⟨Q, h1.kept fun k hk hq => s2.block k hk (fun e => by
    have e2 : k = g := by injection e
    subst e2
    exact h4 k rfl hq), s1, fun k hk => ⟨(h3 k hk).1, Nat.lt_of_lt_of_le (h3 k hk).2 s2.size⟩, h4, h5.grown s2 h5.size (fun k e => by injection e with e; subst e; exact (h2.lt g rfl).1), ?_⟩
  exact h6.keep fun q hq q1 q2 => ⟨s2.block q hq (fun e => by injection e with e; subst e; exact q2 rfl), q1, q2⟩
/-- The law's list grows. -/
theorem TR.push {W0 W W' : World} {b K : Nat} {vx vx' : Value} {X x x' : List Nat} {B : Option (Nat × Obj)} (h : TR W0 W b K vx X x B) (ho : OwnF W' W0.heap.size vx' x') (hg : W.grownBy W' vx.ownBlock) (hb : vx'.ownBlock = vx.ownBlock ∨ vx'.ownBlock = some W.heap.size) : TR W0 W' b K vx' X x' B := by
  obtain ⟨Q, h1, h2, h3, h4, h5, h6⟩ := h
  refine ⟨Q, h1.kept fun k hk hq => hg.block k hk (fun e => h4 k e.symm hq), ho, fun k hk => ⟨(h3 k hk).1, Nat.lt_of_lt_of_le (h3 k hk).2 hg.size⟩, fun g e hq => ?_, h5.grown hg h5.size (fun k e => (h2.lt k e).1), ?_⟩
  · rcases hb with h | h
    · exact h4 g (by rw [← h]; exact e) hq
    · rw [h] at e
      injection e with e
      have := (h3 g hq).2
      omega
  · refine h6.keep fun q hq q1 q2 => ⟨hg.block q hq (fun e => q2 e.symm), q1, fun e => ?_⟩
    rcases hb with h | h
    · exact q2 (by rw [← h]; exact e)
    · rw [h] at e
      injection e with e
      omega
theorem TR.start {W0 W W' : World} {b K : Nat} {X x : List Nat} {vx : Value} {Q : Nat → Prop} (h1 : WA Q W b K X) (hQ : ∀ k, Q k → W0.heap.size ≤ k) (h5 : Below W0.heap.size W0 W) (hg : W.grownBy W' none) (ho : OwnF W' W.heap.size vx x) : TR W0 W' b K vx X x none := by
  refine ⟨fun k => Q k ∧ k < W.heap.size, (h1.mono fun k hk hq => ⟨hq, hk⟩).grown hg, ho.less h5.size, fun k hk => ⟨hQ k hk.1, Nat.lt_of_lt_of_le hk.2 hg.size⟩, fun g e hq => ?_, h5.grown hg h5.size (fun k e => by cases e), trivial⟩
  have := (ho.lt g e).1
  have := hq.2
  omega
end Go.Proofs.Ytfheamemoinfeaa
