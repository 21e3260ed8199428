/- The document's function: what is kept while it is read (no statement of its own). -/
import Derived.Test.YteocbgcgfllieaaGreatDoorDe
namespace Go.Proofs.YteocbgcgfllieaaGreatDoor
open Go.RowKit
set_option linter.unusedVariables false
theorem results_fd {fn : Func} {p : Tmp} (h : fn.results = #[.cell p 91]) (tmps : Array Value) (w : World) (g : Nat) (a b c d : Value) (hp : tmps.getD p undef = .pointer (some ⟨g, 0, none⟩))
    (hg : w.heap[g]? = some (.cells #[a, b, c, d] 91 (0, 0))) : (results fn tmps).run Tryz.prog w = .ok (.agg #[a, b, c, d]) w := by
  have c0 : w.cell? ⟨g, 0, none⟩ = some a := by rw [cell_of_row _ _ _ _ _ _ hg]; rfl
  have c1 : w.cell? ⟨g, 1, none⟩ = some b := by rw [cell_of_row _ _ _ _ _ _ hg]; rfl
  have c2 : w.cell? ⟨g, 2, none⟩ = some c := by rw [cell_of_row _ _ _ _ _ _ hg]; rfl
  have c3 : w.cell? ⟨g, 3, none⟩ = some d := by rw [cell_of_row _ _ _ _ _ _ hg]; rfl
  have hp' : tmps[p]?.getD undef = .pointer (some ⟨g, 0, none⟩) := by simpa using hp
  simp [results, h, hp', go_sem, c0, c1, c2, c3]
/-- A function under way, at G; the result's cell at R. -/
structure FG (w W : World) (b G R : Nat) (sv zv : Value) (o : Int) (lv : Value) : Prop where
  g : W.heap[G]? = some (.cells #[sv, zv, .int .i64 o, lv] 91 (0, 0))
  r : W.heap[R]? = some (.cells #[.slice none 0 0, .slice none 0 0, .int .i64 0, .slice none 0 0] 91 (0, 0))
  k : Gr w W b
  far : w.heap.size ≤ R ∧ R < G ∧ b < w.heap.size
theorem FG.cells {w W : World} {b G R : Nat} {sv zv lv : Value} {o : Int} (h : FG w W b G R sv zv o lv) : W.cell? ⟨G, 0, none⟩ = some sv ∧ W.cell? ⟨G, 1, none⟩ = some zv ∧ W.cell? ⟨G, 2, none⟩ = some (.int .i64 o) ∧ W.cell? ⟨G, 3, none⟩ = some lv := by
  refine ⟨?_, ?_, ?_, ?_⟩ <;> (rw [cell_of_row _ _ _ _ _ _ h.g]; rfl)
theorem FG.frozen {w W : World} {b G R : Nat} {sv zv lv : Value} {o : Int} (h : FG w W b G R sv zv o lv) (i : Nat) : W.frozen? ⟨G, i, none⟩ = false := frozen_of_row _ _ _ _ _ h.g
/-- A change of a block that is neither of the two. -/
theorem FG.next {w W W' : World} {b G R : Nat} {sv zv lv : Value} {o : Int} {p : Option Nat} (h : FG w W b G R sv zv o lv) (hg : W.grownBy W' p) (h1 : p ≠ some G) (h2 : p ≠ some R) (h3 : ∀ g, p = some g → g = b ∨ w.heap.size ≤ g) : FG w W' b G R sv zv o lv := by
  have hf := h.far
  refine ⟨(hg.block G (Array.getElem?_eq_some_iff.1 h.g).1 (fun e => h1 e.symm)).trans h.g, (hg.block R (Array.getElem?_eq_some_iff.1 h.r).1 (fun e => h2 e.symm)).trans h.r, ?_, h.far⟩
  exact ⟨hg.os.trans h.k.os, hg.tape.trans h.k.tape, hg.output.trans h.k.output, Nat.le_trans h.k.size hg.size, fun j hj hne => (hg.block j (Nat.lt_of_lt_of_le hj h.k.size) (fun e => by rcases h3 j e.symm with h | h; exact hne (by rw [h]); omega)).trans (h.k.block j hj hne)⟩
theorem FG.gr {w W W' : World} {b G R : Nat} {sv zv lv : Value} {o : Int} (h : FG w W b G R sv zv o lv) (hg : Gr W W' b) : FG w W' b G R sv zv o lv :=
  h.next hg (fun e => by injection e with e; have := h.far; omega) (fun e => by injection e with e; have := h.far; omega) (fun g e => by injection e with e; exact .inl e.symm)
theorem FG.below {w W W' : World} {b G R : Nat} {sv zv lv : Value} {o : Int} (h : FG w W b G R sv zv o lv) (hb : Below W.heap.size W W') : FG w W' b G R sv zv o lv :=
  h.next (p := none) ⟨hb.os, hb.tape, hb.output, hb.size, fun k hk _ => hb.block k hk⟩ (by simp) (by simp) (fun g e => by cases e)
theorem FG.own {w W W' : World} {b G R : Nat} {sv zv lv : Value} {o : Int} {p : Option Nat} {t : TypeId} (h : FG w W b G R sv zv o lv) (hg : W.grownBy W' p) (hp : ∀ g, p = some g → w.heap.size ≤ g ∧ ∃ cur fr, W.heap[g]? = some (.cells cur t fr)) (ht : t ≠ 91) : FG w W' b G R sv zv o lv := by
  have key : ∀ (g : Nat) (cur : Array Value) (fr : Nat × Nat), W.heap[g]? = some (.cells cur 91 fr) → p ≠ some g := fun g cur fr h1 e => by
    obtain ⟨_, cur', fr', h3⟩ := hp g e
    rw [h1] at h3
    injection h3 with h3
    injection h3 with _ h4
    exact ht h4.symm
  exact h.next hg (key G _ _ h.g) (key R _ _ h.r) (fun g e => .inr (hp g e).1)
/-- A store into the function under way. -/
theorem FG.put {w W : World} {b G R : Nat} {sv zv lv sv' zv' lv' : Value} {o o' : Int} (h : FG w W b G R sv zv o lv) (i : Nat) (u : Value) (e : (#[sv, zv, .int .i64 o, lv] : Array Value).setIfInBounds i u = #[sv', zv', .int .i64 o', lv']) : FG w (W.setCell ⟨G, i, none⟩ u) b G R sv' zv' o' lv' := by
  have hf := h.far
  have hg := grown_put W G i u
  have h1 := heap_setCell_same W G i _ _ u h.g
  rw [e] at h1
  exact ⟨h1, (hg.block R (Array.getElem?_eq_some_iff.1 h.r).1 (fun e => by injection e with e; omega)).trans h.r, h.k.fresh hg (by omega), h.far⟩
theorem FG.keepD {w W : World} {b G R : Nat} {sv zv lv : Value} {o : Int} {v : DrV} (h : FG w W b G R sv zv o lv) (ha : DrAt w b v) : KeepD w W := KeepD.dr ha h.k
theorem DrIn.fun_ {β : Type} {w W : World} {b G R i : Nat} {sv zv lv u : Value} {o : Int} {s : ByteArray} {v v' : DrV} {E : RdR β} {C : RdS → RdR β} (h : DrIn W b s v v' E C) (hf : FG w W b G R sv zv o lv) : DrIn (W.setCell ⟨G, i, none⟩ u) b s v v' E C :=
  h.typed (t := 91) (grown_put W G i u) (fun g e => by injection e with e; subst e; exact ⟨_, _, hf.g⟩) (by decide) (by decide)
/-- Two lists of numbers that a function's reading makes. -/
structure Two6 (W : World) (base : Nat) (v u : Value) (l t : List Nat) : Prop where
  a : Own6 W base v l
  b : Own6 W base u t
  far : v.ownBlock = none ∨ v.ownBlock ≠ u.ownBlock
theorem Two6.swap {W : World} {base : Nat} {v u : Value} {l t : List Nat} (H : Two6 W base v u l t) : Two6 W base u v t l :=
  ⟨H.b, H.a, by
    rcases H.far with h | h
    · cases hu : u.ownBlock with
      | none => exact .inl rfl
      | some g => exact .inr (by rw [h]; exact fun e => by cases e)
    · exact .inr fun e => h e.symm⟩
theorem Two6.keep {W W' : World} {base : Nat} {v u : Value} {l t : List Nat} {p : Option Nat} {ty : TypeId} (H : Two6 W base v u l t) (hg : W.grownBy W' p) (hp : ∀ g, p = some g → ∃ cur fr, W.heap[g]? = some (.cells cur ty fr)) (ht : ty ≠ 2) : Two6 W' base v u l t := by
  have key : ∀ {v : Value} {l : List Nat}, Own6 W base v l → Own6 W' base v l := fun {v l} h => h.keepB fun g e h1 _ => hg.block g h1 (fun e2 => by
    obtain ⟨_, _, cur, h3⟩ := h.obj g e
    obtain ⟨cur', fr', h4⟩ := hp g e2.symm
    rw [h3] at h4
    injection h4 with h4
    injection h4 with _ h5
    exact ht h5.symm)
  exact ⟨key H.a, key H.b, H.far⟩
theorem Two6.below {W W' : World} {base : Nat} {v u : Value} {l t : List Nat} (H : Two6 W base v u l t) (hb : Below W.heap.size W W') : Two6 W' base v u l t :=
  ⟨H.a.keepB fun g _ h _ => hb.block g h, H.b.keepB fun g _ h _ => hb.block g h, H.far⟩
theorem Own6.formN {W : World} {base : Nat} {v : Value} {l : List Nat} (h : Own6 W base v l) {m : Nat} (hm : l.length = m) : ∃ A c, v = .slice A m c := by
  obtain ⟨A, c, e, _⟩ := h.form
  exact ⟨A, c, by rw [e, hm]⟩
theorem Two6.push {W W' : World} {base : Nat} {v v' u : Value} {l l' t : List Nat} (H : Two6 W base v u l t) (ha : Own6 W' base v' l') (hg : W.grownBy W' v.ownBlock) (hat : v'.ownBlock = v.ownBlock ∨ v'.ownBlock = some W.heap.size) : Two6 W' base v' u l' t := by
  refine ⟨ha, H.b.grown hg H.swap.far, ?_⟩
  rcases hat with e | e
  · rw [e]; exact H.far
  · refine .inr fun e2 => ?_
    rw [e] at e2
    have := (H.b.lt _ e2.symm).2
    omega
theorem DrIn.own6 {β : Type} {W W' : World} {b base : Nat} {u : Value} {l : List Nat} {s : ByteArray} {v v' : DrV} {E : RdR β} {C : RdS → RdR β} (h : DrIn W b s v v' E C) (ho : Own6 W base u l) (hg : W.grownBy W' u.ownBlock) : DrIn W' b s v v' E C :=
  h.typed (t := 2) hg (fun g e => by obtain ⟨_, _, cur, h⟩ := ho.obj g e; exact ⟨cur, _, h⟩) (by decide) (by decide)
theorem FG.own6 {w W W' : World} {b G R : Nat} {sv zv lv u : Value} {o : Int} {l : List Nat} (h : FG w W b G R sv zv o lv) (ho : Own6 W w.heap.size u l) (hg : W.grownBy W' u.ownBlock) : FG w W' b G R sv zv o lv :=
  h.own (t := 2) hg (fun g e => by obtain ⟨h1, _, cur, h⟩ := ho.obj g e; exact ⟨h1, cur, _, h⟩) (by decide)
theorem scopeM_next {l : List UInt8} {nv n : Nat} {acc : List Nat} {s : RdS} (hn : 0 < n) : scopeM l nv n acc s = (numM l 0 ((nv : Int) - 1) s).bind fun v s' => if acc.contains v.1.toNat then .bad 4 v.2 else scopeM l nv (n - 1) (acc ++ [v.1.toNat]) s' := by
  obtain ⟨m, rfl⟩ : ∃ m, n = m + 1 := ⟨n - 1, by omega⟩
  rfl
theorem nodup_len : ∀ (n : Nat) (l : List Nat), l.Pairwise (· ≠ ·) → (∀ x ∈ l, x < n) → l.length ≤ n
  | 0, l, _, h => by
    cases l with
    | nil => exact Nat.le_refl _
    | cons x l => exact absurd (h x (by simp)) (Nat.not_lt_zero _)
  | n + 1, l, hp, h => by
    by_cases hm : n ∈ l
    · have hnd : l.Nodup := hp
      have h1 := nodup_len n (l.erase n) (hnd.erase n) (fun x hx => by
        have := (List.Nodup.mem_erase_iff hnd).1 hx
        have := h x this.2
        omega)
      have := List.length_erase_of_mem hm
      omega
    · have := nodup_len n l hp (fun x hx => by
        have := h x hx
        have : x ≠ n := fun e => hm (e ▸ hx)
        omega)
      omega
theorem pick_snoc (sizes acc : List Nat) (y : Nat) : pickN sizes (acc ++ [y]) = pickN sizes acc ++ [nth sizes y] := by simp [pickN, nth]
/-- What the loop over the scope holds. -/
structure ScD (w : World) (b G R : Nat) (s : ByteArray) (sizes : List Nat) (ar : Nat) (v : DrV) (E : RdR AccM) (C : List Nat → RdS → RdR AccM) (j : Nat) (acc : List Nat) (sv zv : Value) (v' : DrV) (W : World) : Prop where
  f : FG w W b G R sv zv 0 (.slice none 0 0)
  two : Two6 W w.heap.size sv zv acc (pickN sizes acc)
  rd : DrIn W b s v v' E (fun st => (scopeM s.data.toList sizes.length (ar - j) acc st).bind C)
  ok : v'.bad = 0 ∨ ar = 0
  len : acc.length = j
  few : acc.length ≤ 100000
  once : acc.Pairwise (· ≠ ·)
  below : ∀ x ∈ acc, x < sizes.length
theorem drIn_few {β : Type} {W : World} {b : Nat} {s : ByteArray} {v v' : DrV} {E : RdR β} {C : RdS → RdR β} (h : DrIn W b s v v' E C) (hf : v'.bad = 0) : ∃ st, DrOk W b s st v' ∧ E = C st := by
  rcases h.2 with ⟨st, h1, h2⟩ | ⟨e, p, h1, _⟩
  · exact ⟨st, h1, h2⟩
  · exact absurd hf h1.bad
/-- Nothing changed but the reader and a list's block. -/
structure FrD (W0 : World) (b : Nat) (ob : Option Nat) (W : World) : Prop where
  os : W.os = W0.os
  tape : W.tape = W0.tape
  output : W.output = W0.output
  size : W0.heap.size ≤ W.heap.size
  block : ∀ k, k < W0.heap.size → k ≠ b → ob ≠ some k → W.heap[k]? = W0.heap[k]?
theorem FrD.of {W0 W : World} {b : Nat} {ob : Option Nat} (h : Gr W0 W b) : FrD W0 b ob W := ⟨h.os, h.tape, h.output, h.size, fun k h1 h2 _ => h.block k h1 (fun e => h2 (Option.some.inj e))⟩
theorem FrD.gr {W0 W W' : World} {b : Nat} {ob : Option Nat} (h : FrD W0 b ob W) (k : Gr W W' b) : FrD W0 b ob W' :=
  ⟨k.os.trans h.os, k.tape.trans h.tape, k.output.trans h.output, Nat.le_trans h.size k.size, fun j h1 h2 h3 => (k.block j (Nat.lt_of_lt_of_le h1 h.size) (fun e => h2 (Option.some.inj e))).trans (h.block j h1 h2 h3)⟩
theorem FrD.put {W0 W W' : World} {b : Nat} {ob : Option Nat} (h : FrD W0 b ob W) (k : W.grownBy W' ob) : FrD W0 b ob W' :=
  ⟨k.os.trans h.os, k.tape.trans h.tape, k.output.trans h.output, Nat.le_trans h.size k.size, fun j h1 h2 h3 => (k.block j (Nat.lt_of_lt_of_le h1 h.size) (fun e => h3 e.symm)).trans (h.block j h1 h2 h3)⟩
theorem FrD.fresh {W0 W W' : World} {b g : Nat} {ob : Option Nat} (h : FrD W0 b ob W) (k : Gr W W' g) (hg : W0.heap.size ≤ g) : FrD W0 b ob W' :=
  ⟨k.os.trans h.os, k.tape.trans h.tape, k.output.trans h.output, Nat.le_trans h.size k.size, fun j h1 h2 h3 => (k.block j (Nat.lt_of_lt_of_le h1 h.size) (fun e => by injection e with e; omega)).trans (h.block j h1 h2 h3)⟩
/-- What a function's reading answers. -/
def FunPost7 (s : ByteArray) (b base : Nat) (sizes : List Nat) (v : DrV) (a : AccM) (E : RdR AccM) (w : World) (e : Ending) (w' : World) : Prop :=
  ∃ A1 n1 c1 A2 n2 c2 o A3 n3 c3 v'', e = .returned (.agg #[.slice A1 n1 c1, .slice A2 n2 c2, .int .i64 o, .slice A3 n3 c3]) ∧ FrD w b v.shared.ownBlock w' ∧ (v''.shared.ownBlock = v.shared.ownBlock ∨ ∃ k, v''.shared.ownBlock = some k ∧ w.heap.size ≤ k) ∧
    ((∃ f a' st' us', E = .ok a' st' ∧ a'.funs = a.funs ++ [f] ∧ f.other = o ∧ FnV w' sizes (.slice A1 n1 c1) (.slice A2 n2 c2) (.slice A3 n3 c3) f ∧ DrOk w' b s st' v'' ∧ v''.lines = a'.told ∧ OwnFd w' base v''.shared us' ∧ FdIs w' sizes us' a'.shared) ∨ ∃ e' p, DrBad w' b e' p v'' ∧ E = .bad e' p)
/-- Its end where the text is malformed. -/
theorem fun7_bad {w W : World} {b base R : Nat} {s : ByteArray} {sizes : List Nat} {v v' : DrV} {a : AccM} {E : RdR AccM} {A1 A2 A3 : Option Addr} {n1 n2 n3 c1 c2 c3 e p : Nat} {o : Int} (hR : W.heap[R]? = some (.cells #[.slice none 0 0, .slice none 0 0, .int .i64 0, .slice none 0 0] 91 (0, 0))) (hf : FrD w b v.shared.ownBlock W) (hr : w.heap.size ≤ R ∧ b ≠ R)
    (hn : DrNear v v') (hb : DrBad W b e p v') (hE : E = .bad e p) (cs : Array Value) : FunPost7 s b base sizes v a E w (.returned (.agg #[.slice A1 n1 c1, .slice A2 n2 c2, .int .i64 o, .slice A3 n3 c3])) (W.setRow R cs) := by
  have hg := growRow W R cs
  exact ⟨A1, n1, c1, A2, n2, c2, o, A3, n3, c3, v', rfl, hf.fresh hg hr.1, .inl (by rw [hn.shared]), .inr ⟨e, p, hb.keepAt ((hg.block b hb.at_.lt (fun e => hr.2 (Option.some.inj e))).trans hb.at_) rfl rfl, hE⟩⟩
end Go.Proofs.YteocbgcgfllieaaGreatDoor
