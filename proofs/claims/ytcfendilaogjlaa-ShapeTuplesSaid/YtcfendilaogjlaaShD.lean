/- Contracts of shape.New (no statement of its own). Condition: of a list that comes in, at most 1000000 sizes. -/
import Derived.Test.YtcfendilaogjlaaShC
import Derived.Laws.CopyOwn
import Derived.Deep.CutRange
namespace Go.Proofs.Ytcfendilaogjlaa
open Go.RowKit
set_option linter.unusedVariables false
/-- The shape of no sizes. -/
abbrev shZ : Value := .agg #[.int .i64 0, .int .i64 0, .int .i64 0, .int .i64 0, .int .i64 0, .int .i64 0, .int .i64 0]
theorem shZ_eq : shV [] = shZ := rfl
theorem new_long (A : Option Addr) (n c : Nat) (w : World) (h : 6 < n) (hm : (n : Int) ≤ 9223372036854775807) :
    Calls Try.prog 6 #[.slice A n c] w fun e w' => e = .returned (.tuple #[shZ, .int .i64 1]) ∧ Below w.heap.size w w' := by
  have h6 : (6 : Int) < (n : Int) := by omega
  go_enter Try.func6, Try.ntmps6
  go_wp2_with fail
  refine bodyPost_ret (v := .tuple #[shZ, .int .i64 1]) (by simp [results, Try.results6, go_sem]) rfl ⟨rfl, ?_⟩
  go_grown
theorem new_wrong (A : Option Addr) (n c p : Nat) (z : Nat → Int) (w : World) (h : n ≤ 6) (hr : Zs w A n z) (hp : p < n) (hz : z p < 1 ∨ 32 < z p) :
    Calls Try.prog 6 #[.slice A n c] w fun e w' => e = .returned (.tuple #[shZ, .int .i64 1]) ∧ Below w.heap.size w w' := by
  have h6 : (n : Int) ≤ 6 := by omega
  have C := Lib.hid (fun W hb => contains_yes A n c p z W (by omega) (hr.below (B := w.heap.size) hb (Nat.le_refl _)) hp hz)
  clear hr hz hp
  go_enter Try.func6, Try.ntmps6
  go_wp2_with (go_at_call 16; refine (C.out _ (by exact (Below.refl _ _).alloc (Nat.le_refl _) _)).mono ?_; rintro e w' ⟨rfl, rfl⟩)
  refine bodyPost_ret (v := .tuple #[shZ, .int .i64 1]) (by simp [results, Try.results6, go_sem]) rfl ⟨rfl, ?_⟩
  go_grown
abbrev intC (l : List Nat) : List Value := l.map fun x : Nat => Value.int .i64 (x : Int)
theorem nth_cons (a : Nat) (l : List Nat) (i : Nat) : nth (a :: l) (i + 1) = nth l i := rfl
theorem sh_splice (l : List Nat) (h : l.length ≤ 6) (n : Int) (hn : n = l.length) : splice [.int .i64 n, .int .i64 0, .int .i64 0, .int .i64 0, .int .i64 0, .int .i64 0, .int .i64 0] 1 (intC l) = (shC l).toList := by
  subst hn
  rcases l with _ | ⟨a, _ | ⟨b, _ | ⟨c, _ | ⟨d, _ | ⟨e, _ | ⟨f, _ | ⟨g, r⟩⟩⟩⟩⟩⟩⟩
  all_goals first | rfl | (exfalso; simp at h; done) | (exfalso; simp at h; omega)
theorem intC_get {l : List Nat} {j : Nat} {v : Value} (h : (intC l)[j]? = some v) : j < l.length ∧ v = .int .i64 (nth l j : Int) := by
  simp only [intC, List.getElem?_map, Option.map_eq_some_iff] at h
  obtain ⟨x, hx, rfl⟩ := h
  have hj : j < l.length := (List.getElem?_eq_some_iff.1 hx).1
  refine ⟨hj, ?_⟩
  unfold nth
  rw [List.getD_eq_getElem?_getD, hx]
  rfl
theorem intC_one (l : List Nat) : ∀ v ∈ intC l, v.oneCell' = true := by
  intro v hv
  simp only [intC, List.mem_map] at hv
  obtain ⟨x, _, rfl⟩ := hv
  rfl
theorem Ints.src {w : World} {A : Option Addr} {l : List Nat} (h : Ints w A l) (h0 : 0 < (intC l).length) : ∃ ad, A = some ad ∧ ∀ j v, (intC l)[j]? = some v → w.cell? (ad.add j) = some v := by
  rcases h with rfl | ⟨g, o, rfl, hg, hc⟩
  · exact absurd h0 (by simp [intC])
  · refine ⟨_, rfl, fun j v hv => ?_⟩
    obtain ⟨hj, rfl⟩ := intC_get hv
    have e : (⟨g, o, none⟩ : Addr).add j = ⟨g, o + j, none⟩ := by
      unfold Addr.add
      split
      · rename_i h; subst h; rfl
      · rfl
    rw [e]
    exact hc j hj
/-- A shape lies in block g. -/
structure ShAt (w : World) (g : Nat) (l : List Nat) : Prop where
  c0 : w.cell? ⟨g, 0, none⟩ = some (.int .i64 (l.length : Int))
  c1 : w.cell? ⟨g, 1, none⟩ = some (szV l 0)
  c2 : w.cell? ⟨g, 2, none⟩ = some (szV l 1)
  c3 : w.cell? ⟨g, 3, none⟩ = some (szV l 2)
  c4 : w.cell? ⟨g, 4, none⟩ = some (szV l 3)
  c5 : w.cell? ⟨g, 5, none⟩ = some (szV l 4)
  c6 : w.cell? ⟨g, 6, none⟩ = some (szV l 5)
  lt : g < w.heap.size
  fz : ∀ i, w.frozen? ⟨g, i, none⟩ = false
theorem ShAt.of_heap {w : World} {g : Nat} {l : List Nat} (h : w.heap[g]? = some (.cells (shC l) 28 (0, 0))) : ShAt w g l := by
  have k : ∀ i, w.cell? ⟨g, i, none⟩ = (shC l)[i]? := fun i => cell_of_row w g i _ _ _ h
  have hlt : g < w.heap.size := (Array.getElem?_eq_some_iff.1 h).1
  exact ⟨k 0, k 1, k 2, k 3, k 4, k 5, k 6, hlt, fun i => by simp [World.frozen?, h]⟩
theorem ShAt.new (w : World) (l : List Nat) : ShAt (w.alloc (shO l)) w.heap.size l := ShAt.of_heap (heap_alloc_new w _)
theorem ShAt.below {w w' : World} {g B : Nat} {l : List Nat} (h : ShAt w g l) (hb : Below B w w') (hB : g < B) : ShAt w' g l :=
  ⟨(hb.cell (p := ⟨g, 0, none⟩) hB).trans h.c0, (hb.cell (p := ⟨g, 1, none⟩) hB).trans h.c1, (hb.cell (p := ⟨g, 2, none⟩) hB).trans h.c2, (hb.cell (p := ⟨g, 3, none⟩) hB).trans h.c3,
    (hb.cell (p := ⟨g, 4, none⟩) hB).trans h.c4, (hb.cell (p := ⟨g, 5, none⟩) hB).trans h.c5, (hb.cell (p := ⟨g, 6, none⟩) hB).trans h.c6, Nat.lt_of_lt_of_le h.lt hb.size, fun i => (hb.frozen (p := ⟨g, i, none⟩) hB).trans (h.fz i)⟩
theorem ShAt.next {w w' : World} {g : Nat} {l : List Nat} (h : ShAt w g l) (hb : Below w.heap.size w w') : ShAt w' g l := h.below hb h.lt
theorem alloc_two (w : World) (a o : Obj) : ((w.alloc a).alloc o).heap[w.heap.size + 1]? = some o := by
  have := heap_alloc_new (w.alloc a) o
  rwa [World.size_alloc] at this
abbrev shC0 (n : Int) : Array Value := #[.int .i64 n, .int .i64 0, .int .i64 0, .int .i64 0, .int .i64 0, .int .i64 0, .int .i64 0]
theorem zero_row (w : World) : (w.alloc (.cells (shC0 0) 28)).heap[w.heap.size]? = some (.cells (shC0 0) 28 (0, 0)) := heap_alloc_new w _
structure Copied (w : World) (l : List Nat) (w1 : World) : Prop where
  row : w1.heap[w.heap.size + 1]? = some (.cells (shC l) 28 (0, 0))
  zero : w1.heap[w.heap.size]? = some (.cells (shC0 0) 28 (0, 0))
  below : Below w.heap.size w w1
theorem copied (w w1 : World) (l : List Nat) (hE : splice [.int .i64 (l.length : Int), .int .i64 0, .int .i64 0, .int .i64 0, .int .i64 0, .int .i64 0, .int .i64 0] 1 (intC l) = (shC l).toList)
    (H : w1.heap[w.heap.size + 1]? = some (.cells (splice [.int .i64 (l.length : Int), .int .i64 0, .int .i64 0, .int .i64 0, .int .i64 0, .int .i64 0, .int .i64 0] 1 (intC l)).toArray 28 (0, 0)))
    (hb : Below (w.heap.size + 1) ((w.alloc (.cells (shC0 0) 28)).alloc (.cells (shC0 (l.length : Int)) 28)) w1) : Copied w l w1 := by
  rw [hE] at H
  have h1 : ((w.alloc (.cells (shC0 0) 28)).alloc (.cells (shC0 (l.length : Int)) 28)).heap[w.heap.size]? = some (.cells (shC0 0) 28 (0, 0)) :=
    (Below.heap_alloc _ _ _ (by simp)).trans (zero_row w)
  refine ⟨H, (hb.block w.heap.size (by omega)).trans h1, ?_⟩
  exact (((Below.refl _ _).alloc (Nat.le_refl _) _).alloc (by simp) _).trans (hb.mono (by omega))
theorem sh_one (l : List Nat) : (shC l).all (·.oneCell') = true := by simp [Value.oneCell']
theorem zero_one : (shC0 0).all (·.oneCell') = true := by simp [Value.oneCell']
theorem results_sh {fn : Func} {p q : Tmp} (h : fn.results = #[.cell p 28, .tmp q]) (tmps : Array Value) (w : World) (g : Nat) (l : List Nat)
    (hp : tmps.getD p undef = .pointer (some ⟨g, 0, none⟩)) (hg : w.heap[g]? = some (.cells (shC l) 28 (0, 0))) :
    (results fn tmps).run Try.prog w = .ok (.tuple #[shV l, tmps.getD q undef]) w := by
  have hp' : tmps[p]?.getD undef = .pointer (some ⟨g, 0, none⟩) := by simpa using hp
  simp [results, h, hp', asAddr, run_loadVar_row (P := Try.prog) w g 28 28 (shC l) (0, 0) _ hg Try.underlying28 rfl (by kernel_rfl)]
set_option maxHeartbeats 1000000 in
theorem new_mid (A : Option Addr) (c : Nat) (l : List Nat) (w : World) (h : l.length ≤ 6) (hr : Ints w A l) (hl : ∀ n ∈ l, 1 ≤ n ∧ n ≤ 32) (hp : prodL l ≤ 4096) :
    Calls Try.prog 6 #[.slice A l.length c] w fun e w' => e = .returned (.tuple #[shV l, .int .i64 0]) ∧ Below w.heap.size w w' := by
  have h6 : (l.length : Int) ≤ 6 := by omega
  have hp' : ((prodL l : Nat) : Int) ≤ 4096 := by omega
  have C := Lib.hid (fun W hb => contains_no A l.length c (fun i => (nth l i : Int)) W (by omega) ((hr.below (B := w.heap.size) hb (Nat.le_refl _)).zs) (fun i hi => by have := hl _ (nth_mem hi); omega))
  have S := Lib.hid (fun W hb => (hr.below (B := w.heap.size) (w' := W) hb (Nat.le_refl _)).src)
  have K := Lib.hid (fun W => count_any l W h (fun n hn => (hl n hn).2))
  have E := Lib.hid (sh_splice l h l.length rfl)
  have hcs := Lib.hid (show (intC l).length = Nat.min l.length 6 by rw [show (intC l).length = l.length by simp [intC]]; exact (Nat.min_eq_left h).symm)
  have hfit : 1 + (intC l).length ≤ 7 := by simp [intC]; omega
  have hone := Lib.hid (intC_one l)
  clear hr hl hp
  generalize prodL l = p at K hp'
  have hd : decide ((4096 : Int) < (p : Int)) = false := by simp; omega
  go_enter Try.func6, Try.ntmps6
  go_upto_region 5 with (first
    | (go_at_call 16; refine (C.out _ (by exact (Below.refl _ _).alloc (Nat.le_refl _) _)).mono ?_; rintro e w' ⟨rfl, rfl⟩)
    | ((with_reducible show wpList _ _ _ (Oper.mk (some 19) _ _ _ _ _ :: _) _ _)
       refine wpList_copy_splice rfl (.tmp 17) (.tmp 18) _ _ rfl 3 Try.underlying24 (by kernel_rfl) (some ⟨w.heap.size + 1, 1, none⟩) A 6 6 l.length c rfl rfl (w.heap.size + 1) 1 [.int .i64 (l.length : Int), .int .i64 0, .int .i64 0, .int .i64 0, .int .i64 0, .int .i64 0, .int .i64 0] 28 (alloc_two _ _ _) (intC l) hcs.out (fun h0 => ⟨rfl, S.out _ (((Below.refl _ _).alloc (Nat.le_refl _) _).alloc (by simp) _) h0⟩) hfit hone.out (w.heap.size + 1) _ (Below.refl _ _) (Nat.le_refl _) ?_
       intro w1 H1 hb1
       have HC := Lib.hid (copied w w1 l E.out H1.out hb1)
       clear H1 hb1))
  have HR := Lib.hid HC.out.row
  have HZ := Lib.hid HC.out.zero
  have HB := Lib.hid HC.out.below
  clear HC
  go_upto_region 7 with (first
    | ((with_reducible show wpList _ _ _ (Oper.mk (some 20) _ _ _ _ _ :: _) _ _)
       refine wpList_load_row rfl 28 (.tmp 4) rfl (w.heap.size + 1) rfl 28 _ _ _ HR.out Try.underlying28 rfl (by kernel_rfl) ?_)
    | (go_at_call 8; refine (K.out _).mono ?_; rintro e w2 ⟨rfl, rfl⟩))
  have b2 : Below w1.heap.size w1 (w1.alloc (shO l)) := (Below.refl _ _).alloc (Nat.le_refl _) _
  have l1 : w.heap.size + 1 < w1.heap.size := (Array.getElem?_eq_some_iff.1 HR.out).1
  have HR2 := Lib.hid ((b2.block _ l1).trans HR.out)
  have HZ2 := Lib.hid ((b2.block w.heap.size (by omega)).trans HZ.out)
  have HB2 := Lib.hid (HB.out.trans (b2.mono (by omega)))
  clear HR HZ HB b2
  go_wp2_with (first
    | ((with_reducible show wpList _ _ _ (Oper.mk (some 24) _ _ _ _ _ :: _) _ _)
       refine wpList_load_row rfl 28 (.tmp 4) rfl (w.heap.size + 1) rfl 28 _ _ _ HR2.out Try.underlying28 rfl (by kernel_rfl) ?_)
    | ((with_reducible show wpList _ _ _ (Oper.mk none (.store 28 _ _) _ _ _ _ :: _) _ _)
       refine wpList_store_row rfl 28 (.tmp 2) (.tmp 24) rfl w.heap.size (shC l) rfl rfl 28 _ HZ2.out (by kernel_rfl) rfl (sh_one l) ?_))
  refine bodyPost_ret (results_sh rfl _ _ w.heap.size l rfl (setRow_heap _ _ _ _ _ _ HZ2.out)) rfl ⟨rfl, below_setRow HB2.out (Nat.le_refl _) _⟩
set_option maxHeartbeats 1000000 in
theorem new_large (A : Option Addr) (c : Nat) (l : List Nat) (w : World) (h : l.length ≤ 6) (hr : Ints w A l) (hl : ∀ n ∈ l, 1 ≤ n ∧ n ≤ 32) (hp : 4096 < prodL l) :
    Calls Try.prog 6 #[.slice A l.length c] w fun e w' => e = .returned (.tuple #[shZ, .int .i64 5]) ∧ Below w.heap.size w w' := by
  have h6 : (l.length : Int) ≤ 6 := by omega
  have hp' : (4096 : Int) < ((prodL l : Nat) : Int) := by omega
  have C := Lib.hid (fun W hb => contains_no A l.length c (fun i => (nth l i : Int)) W (by omega) ((hr.below (B := w.heap.size) hb (Nat.le_refl _)).zs) (fun i hi => by have := hl _ (nth_mem hi); omega))
  have S := Lib.hid (fun W hb => (hr.below (B := w.heap.size) (w' := W) hb (Nat.le_refl _)).src)
  have K := Lib.hid (fun W => count_any l W h (fun n hn => (hl n hn).2))
  have E := Lib.hid (sh_splice l h l.length rfl)
  have hcs := Lib.hid (show (intC l).length = Nat.min l.length 6 by rw [show (intC l).length = l.length by simp [intC]]; exact (Nat.min_eq_left h).symm)
  have hfit : 1 + (intC l).length ≤ 7 := by simp [intC]; omega
  have hone := Lib.hid (intC_one l)
  clear hr hl hp
  generalize prodL l = p at K hp'
  have hd : decide ((4096 : Int) < (p : Int)) = true := by simp; omega
  go_enter Try.func6, Try.ntmps6
  go_upto_region 5 with (first
    | (go_at_call 16; refine (C.out _ (by exact (Below.refl _ _).alloc (Nat.le_refl _) _)).mono ?_; rintro e w' ⟨rfl, rfl⟩)
    | ((with_reducible show wpList _ _ _ (Oper.mk (some 19) _ _ _ _ _ :: _) _ _)
       refine wpList_copy_splice rfl (.tmp 17) (.tmp 18) _ _ rfl 3 Try.underlying24 (by kernel_rfl) (some ⟨w.heap.size + 1, 1, none⟩) A 6 6 l.length c rfl rfl (w.heap.size + 1) 1 [.int .i64 (l.length : Int), .int .i64 0, .int .i64 0, .int .i64 0, .int .i64 0, .int .i64 0, .int .i64 0] 28 (alloc_two _ _ _) (intC l) hcs.out (fun h0 => ⟨rfl, S.out _ (((Below.refl _ _).alloc (Nat.le_refl _) _).alloc (by simp) _) h0⟩) hfit hone.out (w.heap.size + 1) _ (Below.refl _ _) (Nat.le_refl _) ?_
       intro w1 H1 hb1
       have HC := Lib.hid (copied w w1 l E.out H1.out hb1)
       clear H1 hb1))
  have HR := Lib.hid HC.out.row
  have HZ := Lib.hid HC.out.zero
  have HB := Lib.hid HC.out.below
  clear HC
  go_upto_region 6 with (first
    | ((with_reducible show wpList _ _ _ (Oper.mk (some 20) _ _ _ _ _ :: _) _ _)
       refine wpList_load_row rfl 28 (.tmp 4) rfl (w.heap.size + 1) rfl 28 _ _ _ HR.out Try.underlying28 rfl (by kernel_rfl) ?_)
    | (go_at_call 8; refine (K.out _).mono ?_; rintro e w2 ⟨rfl, rfl⟩))
  have b2 : Below w1.heap.size w1 (w1.alloc (shO l)) := (Below.refl _ _).alloc (Nat.le_refl _) _
  have l1 : w.heap.size + 1 < w1.heap.size := (Array.getElem?_eq_some_iff.1 HR.out).1
  have HR2 := Lib.hid ((b2.block _ l1).trans HR.out)
  have HZ2 := Lib.hid ((b2.block w.heap.size (by omega)).trans HZ.out)
  have HB2 := Lib.hid (HB.out.trans (b2.mono (by omega)))
  clear HR HZ HB b2
  go_wp2_with ((with_reducible show wpList _ _ _ (Oper.mk none (.store 28 _ _) _ _ _ _ :: _) _ _)
               refine wpList_store_row rfl 28 (.tmp 2) (.tmp 23) rfl w.heap.size (shC0 0) rfl rfl 28 _ HZ2.out (by kernel_rfl) rfl zero_one ?_)
  refine bodyPost_ret (results_sh rfl _ _ w.heap.size [] rfl (setRow_heap _ _ _ _ _ _ HZ2.out)) rfl ⟨rfl, below_setRow HB2.out (Nat.le_refl _) _⟩
end Go.Proofs.Ytcfendilaogjlaa
