/- What the law TuplesPlays holds from call to call (no statement of its own). -/
import Derived.Test.YtdmldnlgamnkeaaGreatVA
import Derived.Test.YtdmldnlgamnkeaaGreatTp2
import Derived.Test.YtdmldnlgamnkeaaGreatTbO
namespace Go.Proofs.YtdmldnlgamnkeaaGreat
open Go.RowKit Go.Maps
set_option linter.unusedVariables false
/-- A call that came in, at q: a tuple and a cost. -/
structure ActP (w : World) (q : Addr) (ta : Option Addr) (tn tc : Nat) (o : Nat → Int) (c : Int) : Prop where
  lt : q.block < w.heap.size
  c0 : w.cell? q = some (.slice ta tn tc)
  c1 : w.cell? ⟨q.block, q.off + 1, none⟩ = some (.int .i64 c)
  x : Ext w ta tn o
  cap : tn ≤ tc
theorem ActP.below {w w' : World} {q : Addr} {ta : Option Addr} {tn tc : Nat} {o : Nat → Int} {c : Int} (h : ActP w q ta tn tc o c) (hb : Below w.heap.size w w') : ActP w' q ta tn tc o c :=
  ⟨Nat.lt_of_lt_of_le h.lt hb.size, (hb.cell (p := q) h.lt).trans h.c0, (hb.cell (p := ⟨q.block, q.off + 1, none⟩) h.lt).trans h.c1, h.x.below hb, h.cap⟩
/-- A list of calls that came in. -/
def ActsP (w : World) (A : Option Addr) (n : Nat) : Prop := ∀ j, j < n → ∃ p ta tn tc o c, A = some p ∧ ActP w (p.add (j * 2)) ta tn tc o c
/-- What was made, and the document's, from call to call. -/
structure TpS (w : World) (bx g b gc : Nat) (A As : Option Addr) (ct N n cs cc P : Nat) (l : List Nat) (k o : Int) (f : List Nat → Int) (W : World) : Prop where
  x : W.heap[bx]? = some (.cells #[.slice As n cs, .int .i64 k, .slice (some ⟨gc, 0, none⟩) P cc] 29 (0, 0))
  t : TpAt W g b A ct N l k o f
  i : Ints W As l
  c : ∃ cur, W.heap[gc]? = some (.cells cur 2 (0, 0)) ∧ P ≤ cur.size ∧ ∀ i, i < P → cur[i]? = some (.int .i64 (f (tupL l i)))
  bel : Below w.heap.size w W
  inn : ∀ t, InL l t → InK (f t) k
/-- Which blocks are which. -/
structure TpB (w : World) (bx g b gc : Nat) (A As : Option Addr) (l : List Nat) : Prop where
  hb : w.heap.size ≤ b
  hc : w.heap.size ≤ gc
  ne : gc ≠ b
  xb : bx ≠ b
  xc : bx ≠ gc
  gg : g ≠ gc
  ab : ∀ a : Addr, As = some a → a.block ≠ b ∧ a.block ≠ gc
  tb : l ≠ [] → ∀ a : Addr, A = some a → a.block < gc
theorem TpS.next {w W W' : World} {bx g b gc : Nat} {A As : Option Addr} {ct N n cs cc P : Nat} {l : List Nat} {k o : Int} {f : List Nat → Int} (H : TpS w bx g b gc A As ct N n cs cc P l k o f W) (hb : Below W.heap.size W W') : TpS w bx g b gc A As ct N n cs cc P l k o f W' := by
  obtain ⟨cur, hc, h1, h2⟩ := H.c
  exact ⟨(hb.block _ (Array.getElem?_eq_some_iff.1 H.x).1).trans H.x, H.t.below hb, H.i.below hb (Nat.le_refl _), ⟨cur, (hb.block _ (Array.getElem?_eq_some_iff.1 hc).1).trans hc, h1, h2⟩, then_ H.bel hb, H.inn⟩
theorem TpS.cells {w W : World} {bx g b gc : Nat} {A As : Option Addr} {ct N n cs cc P : Nat} {l : List Nat} {k o : Int} {f : List Nat → Int} (H : TpS w bx g b gc A As ct N n cs cc P l k o f W) :
    W.cell? ⟨bx, 0, none⟩ = some (.slice As n cs) ∧ W.cell? ⟨bx, 1, none⟩ = some (.int .i64 k) ∧ W.cell? ⟨bx, 2, none⟩ = some (.slice (some ⟨gc, 0, none⟩) P cc) := by
  refine ⟨?_, ?_, ?_⟩ <;> (rw [cell_of_row _ _ _ _ _ _ H.x]; rfl)
theorem TpS.zs {w W : World} {bx g b gc : Nat} {A As : Option Addr} {ct N n cs cc P : Nat} {l : List Nat} {k o : Int} {f : List Nat → Int} (H : TpS w bx g b gc A As ct N n cs cc P l k o f W) : Zs W (some ⟨gc, 0, none⟩) P (fun i => f (tupL l i)) := by
  obtain ⟨cur, hc, h1, h2⟩ := H.c
  exact .inr ⟨gc, 0, rfl, (Array.getElem?_eq_some_iff.1 hc).1, fun i hi => by rw [Nat.zero_add, cell_of_row _ _ _ _ _ _ hc]; exact h2 i hi⟩
theorem TpS.costs {w W : World} {bx g b gc : Nat} {A As : Option Addr} {ct N n cs cc P : Nat} {l : List Nat} {k o : Int} {f : List Nat → Int} (H : TpS w bx g b gc A As ct N n cs cc P l k o f W) {i : Nat} (hi : i < P) : W.cell? ⟨gc, i, none⟩ = some (.int .i64 (f (tupL l i))) ∧ W.frozen? ⟨gc, i, none⟩ = false := by
  obtain ⟨cur, hc, h1, h2⟩ := H.c
  exact ⟨by rw [cell_of_row _ _ _ _ _ _ hc]; exact h2 i hi, frozen_of_row _ _ _ _ _ hc⟩
/-- What lies elsewhere than in the map is as it was, behind Put. -/
theorem TpS.mid {w W W1 : World} {bx g b gc : Nat} {A As : Option Addr} {ct N N' n cs cc P : Nat} {l : List Nat} {k o : Int} {f f' : List Nat → Int} (H : TpS w bx g b gc A As ct N n cs cc P l k o f W) (B : TpB w bx g b gc A As l) (hg : W.grownBy W1 (some b)) (ht : TpAt W1 g b A ct N' l k o f') :
    W1.heap[bx]? = some (.cells #[.slice As n cs, .int .i64 k, .slice (some ⟨gc, 0, none⟩) P cc] 29 (0, 0)) ∧ Ints W1 As l ∧ (∃ cur, W1.heap[gc]? = some (.cells cur 2 (0, 0)) ∧ P ≤ cur.size ∧ ∀ i, i < P → cur[i]? = some (.int .i64 (f (tupL l i)))) ∧ Below w.heap.size w W1 := by
  obtain ⟨cur, hc, h1, h2⟩ := H.c
  have K : ∀ i, i < W.heap.size → i ≠ b → W1.heap[i]? = W.heap[i]? := fun i hi e => hg.block i hi (fun h => e (by injection h))
  refine ⟨(K bx (Array.getElem?_eq_some_iff.1 H.x).1 B.xb).trans H.x, ?_, ⟨cur, (K gc (Array.getElem?_eq_some_iff.1 hc).1 B.ne).trans hc, h1, h2⟩, below_grown H.bel hg (Nat.le_refl _) B.hb⟩
  rcases H.i with h0 | ⟨ga, oa, e, hlt, hci⟩
  · exact .inl h0
  · exact .inr ⟨ga, oa, e, Nat.lt_of_lt_of_le hlt hg.size, fun i hi => (World.cell?_of_block (a := ⟨ga, oa + i, none⟩) (K ga hlt (B.ab _ e).1)).trans (hci i hi)⟩
/-- Put, and the document's store. -/
theorem TpS.put {w W W1 : World} {bx g b gc : Nat} {A As : Option Addr} {ct N M n cs cc P : Nat} {l t : List Nat} {k o x : Int} {f : List Nat → Int} (H : TpS w bx g b gc A As ct N n cs cc P l k o f W) (B : TpB w bx g b gc A As l) (h1 : ∀ n ∈ l, 1 ≤ n) (hP : prodL l = P) (hin : InL l t) (hM : numL l t = M) (hx : InK x k)
    (ht : TpAt W1 g b A ct (N + 1) l k o (updF f t x)) (hg : W.grownBy W1 (some b)) :
    TpS w bx g b gc A As ct (N + 1) n cs cc P l k o (updF f t x) (W1.setCell ⟨gc, M, none⟩ (.int .i64 x)) := by
  obtain ⟨m0, m1, ⟨cur, hc, hc1, hc2⟩, m3⟩ := H.mid B hg ht
  have ne : ∀ b, b ≠ gc → (W1.setCell ⟨gc, M, none⟩ (.int .i64 x)).heap[b]? = W1.heap[b]? := fun b hb => Below.heap_setCell W1 ⟨gc, M, none⟩ _ b (fun e => hb e)
  have hMP : M < P := by rw [← hM, ← hP]; exact hin.num_lt
  have GS : W1.grownBy (W1.setCell ⟨gc, M, none⟩ (.int .i64 x)) (some gc) := grown_set W1 gc M _
  refine ⟨(ne bx B.xc).trans m0, ?_, ?_, ?_, ?_, ?_⟩
  · obtain ⟨D, hown, hrep⟩ := ht.map
    refine ⟨(ne g B.gg).trans ht.row, ?_, ht.cap, D, hown.kept GS (fun e => B.ne (by injection e with e; exact e.symm)), hrep⟩
    rcases ht.ints with h0 | ⟨ga, oa, e, hlt, hci⟩
    · exact .inl h0
    · by_cases hl : l = []
      · exact .inl (by rw [hl])
      · exact .inr ⟨ga, oa, e, by simpa [World.setCell] using hlt, fun i hi => (World.cell?_of_block (a := ⟨ga, oa + i, none⟩) (ne ga (Nat.ne_of_lt (B.tb hl _ e)))).trans (hci i hi)⟩
  · rcases m1 with h0 | ⟨ga, oa, e, hlt, hci⟩
    · exact .inl h0
    · exact .inr ⟨ga, oa, e, by simpa [World.setCell] using hlt, fun i hi => (World.cell?_of_block (a := ⟨ga, oa + i, none⟩) (ne ga (B.ab _ e).2)).trans (hci i hi)⟩
  · refine ⟨cur.setIfInBounds M (.int .i64 x), heap_setCell_same W1 gc M cur _ (.int .i64 x) hc, by simpa using hc1, fun i hi => ?_⟩
    rw [Array.getElem?_setIfInBounds]
    by_cases e : M = i
    · subst e
      rw [if_pos rfl, if_pos (by omega)]
      have : tupL l M = t := by rw [← hM]; exact hin.tup
      rw [this]
      exact congrArg some (congrArg (Value.int .i64) (show x = updF f t x t from (if_pos rfl).symm))
    · rw [if_neg e, hc2 i hi]
      have : tupL l i ≠ t := fun h => e (by rw [← hM, ← h]; exact num_tup (by rw [hP]; exact hi))
      exact congrArg some (congrArg (Value.int .i64) (show f (tupL l i) = updF f t x (tupL l i) from (if_neg this).symm))
  · exact Below.setCell m3 (p := ⟨gc, M, none⟩) B.hc _
  · intro s hs
    unfold updF
    split
    · exact hx
    · exact H.inn s hs
/-- Put of what is refused. -/
theorem TpS.far {w W W1 : World} {bx g b gc : Nat} {A As : Option Addr} {ct N M n cs cc P : Nat} {l t : List Nat} {k o x : Int} {f : List Nat → Int} (H : TpS w bx g b gc A As ct N n cs cc P l k o f W) (B : TpB w bx g b gc A As l) (ht : TpAt W1 g b A ct (N + 1) l k o (updF f t x)) (hg : W.grownBy W1 (some b)) (hM : M < P) :
    W1.cell? ⟨gc, M, none⟩ = some (.int .i64 (f (tupL l M))) ∧ W1.frozen? ⟨gc, M, none⟩ = false := by
  obtain ⟨m0, m1, ⟨cur, hc, hc1, hc2⟩, m3⟩ := H.mid B hg ht
  exact ⟨by rw [cell_of_row _ _ _ _ _ _ hc]; exact hc2 M hM, frozen_of_row _ _ _ _ _ hc⟩
theorem notOutP {l : List Nat} {m : Nat} {o : Nat → Int} (h : ¬ OutL l m o) : m = l.length ∧ InL l ((List.range m).map fun i => (o i).toNat) ∧ ∀ i, i < m → 0 ≤ o i := by
  have hm : m = l.length := by
    by_cases e : m = l.length
    · exact e
    · exact absurd (.inl e) h
  have hb : ∀ i, i < m → 0 ≤ o i ∧ o i < (nth l i : Int) := fun i hi => by
    by_cases c : o i < 0 ∨ (nth l i : Int) ≤ o i
    · exact absurd (.inr ⟨i, hi, by omega, c⟩) h
    · omega
  refine ⟨hm, inL_iff.2 ⟨by simp [hm], fun p hp => ?_⟩, fun i hi => (hb i hi).1⟩
  rw [nth_range (by omega)]
  have := hb p (by omega)
  omega
theorem zs_natP {w : World} {A : Option Addr} {n : Nat} {o : Nat → Int} (h : Zs w A n o) (h0 : ∀ i, i < n → 0 ≤ o i) : Ints w A ((List.range n).map fun i => (o i).toNat) := by
  rcases h with h1 | ⟨g, a, e, hlt, hc⟩
  · exact .inl (by rw [h1]; rfl)
  · refine .inr ⟨g, a, e, hlt, fun i hi => ?_⟩
    have hi' : i < n := by simpa using hi
    rw [hc i hi', nth_range hi', Int.toNat_of_nonneg (h0 i hi')]
theorem clone_extO (A : Option Addr) (n c : Nat) (z : Nat → Int) (w : World) (hl : n ≤ 1000000) (hw : Ext w A n z) :
    Calls Tryz.prog 42 #[.slice A n c] w fun e w' => (∃ A' c', e = .returned (.slice A' n c') ∧ Zs w' A' n z ∧ ∀ a : Addr, A' = some a → w.heap.size ≤ a.block) ∧ Below w.heap.size w w' := by
  rcases hw with ⟨rfl, rfl⟩ | ⟨ad, rfl, hc⟩
  · have hq : ∀ W, (binOp .eql 26 (.slice none 0 c) (.slice none 0 0)).run Tryz.prog W = .ok (.bool true) W := fun W => Lib.run_eql_slice_nil W 26 3 none 0 c 0 0 Tryz.underlying26
    go_enter Tryz.func42, Tryz.ntmps42
    go_wp2
    go_ret
    exact ⟨⟨none, 0, rfl, .inl rfl, fun a ha => by cases ha⟩, Below.refl _ _⟩
  · obtain ⟨i0, hi, hz0, hz1, hz2⟩ := info_parts info_int
    have HI := Lib.hid hi
    have HZ0 := Lib.hid hz0
    have HZ1 := Lib.hid hz1
    have HZ2 := Lib.hid hz2
    have hb0 : Below w.heap.size w (w.alloc (.cells #[] 3)) := (Below.refl _ _).alloc (Nat.le_refl _) _
    have HN : Hid (∀ j u, (zC n z)[j]? = some u → (w.alloc (.cells #[] 3)).cell? (ad.add j) = some u) := by
      refine Lib.hid fun j u hu => ?_
      obtain ⟨hj, rfl⟩ := zC_get hu
      exact (hb0.cell (p := ad.add j) (by rw [block_add]; exact (hc j hj).1)).trans (hc j hj).2
    have H1 : Hid (∀ u ∈ zC n z, u.oneCell' = true) := Lib.hid fun u hu => by
      simp only [zC, List.mem_map] at hu
      obtain ⟨x, _, rfl⟩ := hu
      rfl
    have hq : ∀ W, (binOp .eql 26 (.slice (some ad) n c) (.slice none 0 0)).run Tryz.prog W = .ok (.bool false) W := fun W => Lib.run_eql_slice_nil W 26 3 (some ad) n c 0 0 Tryz.underlying26
    clear hc hi hz0 hz1 hz2 hb0
    go_enter Tryz.func42, Tryz.ntmps42
    go_wp2_with (at_builtin; refine wpList_append_own _ rfl (.tmp 5) (.tmp 6) 26 rfl w.heap.size 3 i0 (.int .i64 0) 1 8 Tryz.underlying26 HI.out HZ0.out HZ1.out HZ2.out rfl (by decide) (.slice (some ⟨w.heap.size, 0, none⟩) 0 0) 0 [] rfl (World.ownsRow_made w #[] 0 (Nat.le_refl _) (by simp [maxLen]) rfl) ad n c (zC n z) rfl (by simp [zC]) HN.out H1.out (by unfold maxLen; omega) (by omega) (by simp) ?_; intro v' w1 h1 h2 _; have K1 := Lib.hid h1; have K2 := Lib.hid h2; clear h1 h2)
    go_ret
    have h := K1.out
    rw [Nat.zero_add, List.nil_append] at h
    obtain ⟨A', c', e, hz⟩ := zs_of_row h
    refine ⟨⟨A', c', congrArg Ending.returned e, hz, fun a ha => (World.ownsRow.lt h a.block (by rw [e, ha]; rfl)).1⟩, ?_⟩
    exact ((Below.refl _ _).alloc (Nat.le_refl _) _).grown K2.out (by simp) (fun k hk => by simp [Value.ownBlock] at hk; omega)
end Go.Proofs.YtdmldnlgamnkeaaGreat
