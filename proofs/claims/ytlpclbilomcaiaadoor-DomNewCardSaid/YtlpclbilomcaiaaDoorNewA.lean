/- Contracts of dom's New for any size, and of all else for a zero set; a range over a function that yields nothing (no statement of its own). Condition of First and Next: the table reads as its initialiser lays it. -/
import Derived.Test.YtlpclbilomcaiaaDoorSubsW
import Derived.Deep.Heap
namespace Go.Proofs.YtlpclbilomcaiaaDoor
open Go.RowKit Go.Shelf
set_option linter.unusedVariables false
attribute [local go_sem] Oper.semAt_some
theorem mem_all (k : Nat) : mem k (2 ^ k - 1) = List.range k := by
  unfold mem
  rw [List.filter_eq_self]
  intro i hi
  have : i < k := by simpa using hi
  rw [Nat.testBit_two_pow_sub_one]
  simpa using this
theorem new_any (n : Int) : ∃ (k B : Nat) (e : Int), (∀ W, Calls Tryd.prog 22 #[.int .i64 n] W fun e' w' => e' = .returned (.tuple #[setV k B, .int .i64 e]) ∧ Below W.heap.size W w') ∧ k ≤ 32 ∧ B < 2 ^ k ∧
    ((1 ≤ n ∧ n ≤ 32 ∧ e = 0 ∧ ((mem k B).length : Int) = n) ∨ (n < 1 ∧ e = 1 ∧ k = 0 ∧ B = 0) ∨ (32 < n ∧ e = 1 ∧ k = 0 ∧ B = 0)) := by
  by_cases h : 1 ≤ n ∧ n ≤ 32
  · obtain ⟨k, rfl⟩ : ∃ k : Nat, n = k := ⟨n.toNat, by omega⟩
    refine ⟨k, 2 ^ k - 1, 0, fun W => new_yes k W (by omega) (by omega), by omega, by have := Nat.two_pow_pos k; omega, .inl ⟨h.1, h.2, rfl, ?_⟩⟩
    rw [mem_all, List.length_range]
  · refine ⟨0, 0, 1, fun W => new_no n W (by omega), by omega, by decide, ?_⟩
    rcases (by omega : n < 1 ∨ 32 < n) with h | h
    · exact .inr (.inl ⟨h, rfl, rfl, rfl⟩)
    · exact .inr (.inr ⟨h, rfl, rfl, rfl⟩)
theorem zed (w : World) (k B : Nat) : ((w.alloc (setO k B)).alloc (Obj.cells #[Value.int .i64 0, Value.int .u32 0] 26)).cell? ⟨w.heap.size + 1, 0, none⟩ = some (.int .i64 0) ∧
    ((w.alloc (setO k B)).alloc (Obj.cells #[Value.int .i64 0, Value.int .u32 0] 26)).cell? ⟨w.heap.size + 1, 1, none⟩ = some (.int .u32 0) ∧
    w.heap.size + 1 < ((w.alloc (setO k B)).alloc (Obj.cells #[Value.int .i64 0, Value.int .u32 0] 26)).heap.size ∧
    Below w.heap.size w ((w.alloc (setO k B)).alloc (Obj.cells #[Value.int .i64 0, Value.int .u32 0] 26)) := by
  have e : w.heap.size + 1 = (w.alloc (setO k B)).heap.size := by simp
  rw [e]
  exact ⟨by rw [World.cell?_alloc_at _ _ _ _ rfl]; rfl, by rw [World.cell?_alloc_at _ _ _ _ rfl]; rfl, by simp, ((Below.refl _ _).alloc (Nat.le_refl _) _).alloc (by simp) _⟩
theorem zedL (w : World) : ((w.alloc (Obj.cells #[Value.int .i64 0, Value.int .u32 0] 26)).alloc (Obj.cells #[Value.int .i64 0, Value.int .u32 0] 26)).cell? ⟨w.heap.size + 1, 0, none⟩ = some (.int .i64 0) ∧ ((w.alloc (Obj.cells #[Value.int .i64 0, Value.int .u32 0] 26)).alloc (Obj.cells #[Value.int .i64 0, Value.int .u32 0] 26)).cell? ⟨w.heap.size + 1, 1, none⟩ = some (.int .u32 0) ∧
    w.heap.size + 1 < ((w.alloc (Obj.cells #[Value.int .i64 0, Value.int .u32 0] 26)).alloc (Obj.cells #[Value.int .i64 0, Value.int .u32 0] 26)).heap.size ∧ Below w.heap.size w ((w.alloc (Obj.cells #[Value.int .i64 0, Value.int .u32 0] 26)).alloc (Obj.cells #[Value.int .i64 0, Value.int .u32 0] 26)) := zed w 0 0
/-! ### The zero set's answers -/
abbrev zeroV : Value := .agg #[.int .i64 0, .int .u32 0]
theorem hasB_zero (v : Int) : hasB 0 0 v = false := hasB_no (by omega)
theorem z_size (w : World) : Calls Tryd.prog 25 #[zeroV] w fun e w' => e = .returned (.int .i64 0) ∧ Below w.heap.size w w' := size_any 0 0 w
theorem z_len (w : World) : Calls Tryd.prog 23 #[zeroV] w fun e w' => e = .returned (.int .i64 0) ∧ Below w.heap.size w w' := len_any 0 0 w (by omega) (by decide)
theorem z_has (v : Int) (w : World) : Calls Tryd.prog 26 #[zeroV, .int .i64 v] w fun e w' => e = .returned (.bool false) ∧ Below w.heap.size w w' := has_no 0 0 v w (by omega)
theorem z_put (v : Int) (w : World) : Calls Tryd.prog 10 #[zeroV, .int .i64 v] w fun e w' => e = .returned zeroV ∧ Below w.heap.size w w' := put_no 0 0 v w (by omega)
theorem z_drop (v : Int) (w : World) : Calls Tryd.prog 12 #[zeroV, .int .i64 v] w fun e w' => e = .returned zeroV ∧ Below w.heap.size w w' := drop_no 0 0 v w (by omega)
theorem z_only (v : Int) (w : World) : Calls Tryd.prog 18 #[zeroV, .int .i64 v] w fun e w' => e = .returned zeroV ∧ Below w.heap.size w w' := only_no 0 0 v w (by omega)
theorem z_first (w : World) (h : Tab w) : Calls Tryd.prog 27 #[zeroV] w fun e w' => e = .returned (.int .i64 (-1)) ∧ Below w.heap.size w w' := by
  have := first_any 0 0 w h (by omega) (by decide)
  rw [first_none] at this
  exact this
theorem z_last (w : World) : Calls Tryd.prog 28 #[zeroV] w fun e w' => e = .returned (.int .i64 (-1)) ∧ Below w.heap.size w w' := by
  have e : lastI 0 = -1 := by decide
  have := last_any 0 0 w (by omega) (by decide)
  rw [e] at this
  exact this
theorem z_next (v : Int) (w : World) (h : Tab w) : Calls Tryd.prog 16 #[zeroV, .int .i64 v] w fun e w' => e = .returned (.int .i64 (-1)) ∧ Below w.heap.size w w' := by
  have e : nextI (mem 0 0) v = -1 := by rw [mem_zero]; rfl
  have := next_any 0 0 v w h (by omega) (by decide)
  rw [e] at this
  exact this
/-- What a cell holds, whatever it is. -/
def heldAt (R : Nat) (w : World) : Value := (w.cell? ⟨R, 0, none⟩).getD undef
theorem heldAt_of {R : Nat} {w : World} {v : Value} (h : w.cell? ⟨R, 0, none⟩ = some v) : w.cell? ⟨R, 0, none⟩ = some (heldAt R w) := by unfold heldAt; rw [h]; rfl
theorem holdN {w W W' : World} {R Z D : Nat}
    (h : W.cell? ⟨R, 0, none⟩ = some (heldAt R W) ∧ W.frozen? ⟨R, 0, none⟩ = false ∧ W.cell? ⟨Z, 0, none⟩ = some (.int .i64 0) ∧ W.cell? ⟨Z, 1, none⟩ = some (.int .u32 0) ∧ W.heap[D]? = some (.deferred (some [])) ∧ Below w.heap.size w W)
    (hb : Below W.heap.size W W') :
    W'.cell? ⟨R, 0, none⟩ = some (heldAt R W') ∧ W'.frozen? ⟨R, 0, none⟩ = false ∧ W'.cell? ⟨Z, 0, none⟩ = some (.int .i64 0) ∧ W'.cell? ⟨Z, 1, none⟩ = some (.int .u32 0) ∧ W'.heap[D]? = some (.deferred (some [])) ∧ Below w.heap.size w W' := by
  obtain ⟨h1, h2, h3, h4, h5, h6⟩ := h
  have l1 : R < W.heap.size := World.block_lt_of_cell? W _ h1
  have l2 : Z < W.heap.size := World.block_lt_of_cell? W _ h3
  have l3 : D < W.heap.size := (Array.getElem?_eq_some_iff.1 h5).1
  exact ⟨heldAt_of ((hb.cell (p := ⟨R, 0, none⟩) l1).trans h1), (hb.frozen (p := ⟨R, 0, none⟩) l1).trans h2, (hb.cell (p := ⟨Z, 0, none⟩) l2).trans h3, (hb.cell (p := ⟨Z, 1, none⟩) l2).trans h4, (hb.block D l3).trans h5, h6.trans (hb.mono h6.size)⟩
theorem holdNset {w W : World} {R Z D : Nat} (u : Value) (hR : w.heap.size ≤ R) (hZ : Z ≠ R)
    (h : W.cell? ⟨R, 0, none⟩ = some (heldAt R W) ∧ W.frozen? ⟨R, 0, none⟩ = false ∧ W.cell? ⟨Z, 0, none⟩ = some (.int .i64 0) ∧ W.cell? ⟨Z, 1, none⟩ = some (.int .u32 0) ∧ W.heap[D]? = some (.deferred (some [])) ∧ Below w.heap.size w W) :
    (W.setCell ⟨R, 0, none⟩ u).cell? ⟨R, 0, none⟩ = some (heldAt R (W.setCell ⟨R, 0, none⟩ u)) ∧ (W.setCell ⟨R, 0, none⟩ u).frozen? ⟨R, 0, none⟩ = false ∧ (W.setCell ⟨R, 0, none⟩ u).cell? ⟨Z, 0, none⟩ = some (.int .i64 0) ∧ (W.setCell ⟨R, 0, none⟩ u).cell? ⟨Z, 1, none⟩ = some (.int .u32 0) ∧
      (W.setCell ⟨R, 0, none⟩ u).heap[D]? = some (.deferred (some [])) ∧ Below w.heap.size w (W.setCell ⟨R, 0, none⟩ u) := by
  obtain ⟨h1, h2, h3, h4, h5, h6⟩ := h
  have hD : D ≠ R := by
    rintro rfl
    unfold World.cell? at h1
    simp [h5] at h1
  refine ⟨heldAt_of (World.cell?_setCell_same' _ _ _ (by rw [h1]; rfl)), by rw [World.frozen?_setCell]; exact h2, ?_, ?_, ?_, h6.setCell hR _⟩
  · rw [World.cell?_setCell_other _ _ _ _ (by intro e; injection e; omega)]; exact h3
  · rw [World.cell?_setCell_other _ _ _ _ (by intro e; injection e; omega)]; exact h4
  · rw [_root_.Go.Deep.blk_setCell_other _ _ _ _ (by show D ≠ R; exact hD)]; exact h5
theorem range_none {g : Operand} {ps : Array Tmp} {body : Code} {Q : Exit → Act → World → Prop} {a : Act} {w : World} {n : Nat} (h1 : 1 ≤ n) {gf : Nat} {lb : Array Value} (hg : a.eval g = .func (.func gf) #[] lb)
    (eg : ∀ args w, (callFunc gf args).run Tryd.prog w = .ok (.enter gf args) w) {encs : Nat → Array Value} {S Sp : List Nat → Prop} (hseq : SeqStopsK Fence.wide (n - 1) Tryd.prog gf lb encs (Below w.heap.size) S Sp 0 w) (hps : ∀ x, (encs x).size = ps.size)
    (hdone : ∀ (D : Nat) (W : World), w.heap.size ≤ D → Below w.heap.size w W → W.heap[D]? = some (.deferred (some [])) → Q .normal { a with defers := { target := .collected D, args := #[] } :: a.defers } W) :
    (Code.rangeFunc g ps .skip body).wp Tryd.prog Q a w :=
  (wpIn_wide (n := n)).1 (wpIn_rangeFunc_ownG rfl h1 hg trivial eg hseq belowK_t (belowK_b (Nat.le_refl _)) (Below.refl _ _) hps (fun _ W => Below w.heap.size w W) (fun _ _ _ => False) (ownFrom_below (Nat.le_refl _) (Nat.le_refl _)) (fun _ _ _ _ _ hs _ _ => hs) (Below.refl _ _)
    (fun x => { tmps := (ps.zip (encs x)).foldl (fun t (p, v) => t.setIfInBounds p v) a.tmps, defers := [] }) (fun l x W K hK => wpIn_skip hK) (fun l pre x W _ hlt => absurd hlt (Nat.not_lt_zero _)) (fun D xs W hD _ hI hK => hdone D W hD hI hK) (fun _ _ _ _ _ _ h _ => h.elim))
theorem setd {W : World} {R : Nat} {u x : Value} {p : Prop} (h : (W.setCell ⟨R, 0, none⟩ u).cell? ⟨R, 0, none⟩ = some x ∧ p) : (W.setCell ⟨R, 0, none⟩ u).cell? ⟨R, 0, none⟩ = some u := by
  apply World.cell?_setCell_same'
  obtain ⟨h, -⟩ := h
  unfold World.cell? World.setCell at h
  unfold World.cell?
  simp only [Array.getElem?_modify, if_true] at h ⊢
  cases hr : W.heap[R]? with
  | none => rw [hr] at h; simp at h
  | some o =>
    rw [hr] at h
    cases o <;> simp at h ⊢
    rename_i cs t f
    rw [Array.getElem?_setIfInBounds] at h
    rcases Nat.eq_zero_or_pos cs.size with e | e
    · simp [e] at h
    · exact e
theorem results_cell_one {fn : Func} {p : Tmp} {ty : TypeId} (h : fn.results = #[.cell p ty]) (tmps : Array Value) (P : Program) (w : World) :
    (results fn tmps).run P w = ((asAddr (tmps.getD p undef)).run P w).andThen fun a w₁ => (loadVar ty a).run P w₁ := by
  simp only [results, h]
  simp [Sem.run_bind, Result.andThen]
theorem fin_walk {w W : World} {tmps : Array Value} {D : Nat} {p q r s : Prop} (h4 : tmps.getD 4 undef = .pointer (some ⟨w.heap.size, 0, none⟩)) (h : p ∧ q ∧ r ∧ s ∧ W.heap[D]? = some (.deferred (some [])) ∧ Below w.heap.size w W) (hD : w.heap.size ≤ D)
    (hc : W.cell? ⟨w.heap.size, 0, none⟩ = some (.bool true)) :
    bodyPostM Fence.wide 3 Tryd.prog Tryd.f5 (fun e w' => e = Ending.returned (.bool true) ∧ Below w.heap.size w w') Exit.ret { tmps := tmps, defers := [{ target := .collected D, args := #[] }] } W := by
  obtain ⟨-, -, -, -, hK, hB⟩ := h
  have hc' : (W.putObj D (.deferred none)).cell? ⟨w.heap.size, 0, none⟩ = some (.bool true) := by
    have hne : w.heap.size ≠ D := by
      intro e
      unfold World.cell? at hc
      rw [e] at hc
      simp [hK] at hc
    have e : (W.putObj D (.deferred none)).heap[w.heap.size]? = W.heap[w.heap.size]? := World.putObj_heap_other hne
    rw [← hc]
    unfold World.cell?
    simp only [e]
  refine ⟨by simp, .inl ⟨_, _, rfl, run_takeDeferred hK, ?_⟩⟩
  refine ⟨_, (results_cell_one rfl _ _ _).trans ?_, rfl, hB.trans (belowK_b (w := w) (Nat.le_refl _) W D _ _ hD hK rfl rfl)⟩
  show ((Sem.run Tryd.prog (asAddr (tmps.getD 4 undef)) (W.putObj D (Obj.deferred none))).andThen fun a w₁ => Sem.run Tryd.prog (loadVar 4 a) w₁) = _
  rw [h4]
  simp [go_sem, hc']
end Go.Proofs.YtlpclbilomcaiaaDoor
