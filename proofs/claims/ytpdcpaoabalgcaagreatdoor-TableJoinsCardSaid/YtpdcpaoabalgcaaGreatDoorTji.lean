/- The first loop of the document's Join: the variables of both, and their sizes (no statement of its own). -/
import Derived.Test.YtpdcpaoabalgcaaGreatDoorTjD
namespace Go.Proofs.YtpdcpaoabalgcaaGreatDoor
open Go.RowKit Go.Shelf Go.Sort
set_option linter.unusedVariables false
attribute [local go_sem] Oper.semAt_some
/-- Those below v that both have have one size. -/
def AgX (a b l1 l2 : List Nat) (v : Nat) : Prop := ∀ i j, i < a.length → j < b.length → nth a i = nth b j → nth a i < v → nth l1 i = nth l2 j
theorem agX_zero (a b l1 l2 : List Nat) : AgX a b l1 l2 0 := fun i j _ _ _ h => by omega
theorem agX_step {a b l1 l2 : List Nat} {v : Nat} (H : AgX a b l1 l2 v) (h : ∀ i j, i < a.length → j < b.length → nth a i = v → nth b j = v → nth l1 i = nth l2 j) : AgX a b l1 l2 (v + 1) := fun i j h1 h2 e hlt => by
  rcases Nat.lt_or_ge (nth a i) v with h3 | h3
  · exact H i j h1 h2 e h3
  · have h4 : nth a i = v := by omega
    exact h i j h1 h2 h4 (e ▸ h4)
theorem agX_all {a b l1 l2 : List Nat} {n : Nat} (hb : Rises b) (ha : ∀ x ∈ a, x < n) (H : AgX a b l1 l2 n) : AgB a b l1 l2 = true :=
  (agB_iff hb).2 fun i j h1 h2 e => H i j h1 h2 e (ha _ (nth_mem h1))
theorem idx_uniq {a : List Nat} (h : Rises a) {i i' v : Nat} (hi : i < a.length) (hi' : i' < a.length) (e : nth a i = v) (e' : nth a i' = v) : i = i' := by
  have h1 := cnt_nth (rises_lt h) hi
  have h2 := cnt_nth (rises_lt h) hi'
  rw [e] at h1
  rw [e'] at h2
  exact h1.symm.trans h2
theorem fi_cases {a : List Nat} (h : Rises a) (v : Nat) : (∃ i, i < a.length ∧ nth a i = v ∧ fiI a v = (i : Int) ∧ a.contains v = true ∧ a.countP (· < v) = i) ∨ (a.contains v = false ∧ fiI a v = -1) := by
  by_cases hc : a.contains v = true
  · have hm := nth_cnt (rises_lt h) (List.contains_iff_mem.1 hc)
    exact .inl ⟨_, hm.1, hm.2, if_pos hc, hc, rfl⟩
  · exact .inr ⟨Bool.eq_false_iff.2 hc, if_neg hc⟩
theorem not_at {a : List Nat} {v i : Nat} (h : a.contains v = false) (hi : i < a.length) (e : nth a i = v) : False := by
  have := List.contains_iff_mem.2 (nth_mem hi)
  rw [e, h] at this
  cases this
theorem lit_cell (W : World) (v : Nat) : (W.alloc (.cells #[.int .i64 (v : Int)] 3)).cell? ((⟨W.heap.size, 0, none⟩ : Addr).add 0) = some (.int .i64 (v : Int)) := by
  have hc := heap_alloc_new W (.cells #[.int .i64 (v : Int)] 3)
  show (W.alloc (.cells #[.int .i64 (v : Int)] 3)).cell? ⟨W.heap.size, 0, none⟩ = _
  rw [cell_of_row _ _ _ _ _ _ hc]
  rfl
theorem unL_le (a b : List Nat) (v : Nat) : (unL a b v).length ≤ v := by
  have := List.length_filter_le (fun v => a.contains v || b.contains v) (List.range v)
  simpa [unL] using this
/-- What the first loop's comparison of sizes reads. -/
abbrev HoldX2 (b0 b1 n1 cs1 n2 cs2 g1 o1 g2 o2 i j x y : Nat) (W : World) : Prop :=
  W.cell? ⟨b0, 0, none⟩ = some (.slice (some ⟨g1, o1, none⟩) n1 cs1) ∧ W.cell? ⟨b1, 0, none⟩ = some (.slice (some ⟨g2, o2, none⟩) n2 cs2) ∧ W.cell? ⟨g1, o1 + i, none⟩ = some (.int .i64 (x : Int)) ∧ W.cell? ⟨g2, o2 + j, none⟩ = some (.int .i64 (y : Int))
theorem holdX2 {b0 b1 n1 cs1 n2 cs2 g1 o1 g2 o2 i j x y : Nat} {W W' : World} (H : HoldX2 b0 b1 n1 cs1 n2 cs2 g1 o1 g2 o2 i j x y W) (hb : Below W.heap.size W W') : HoldX2 b0 b1 n1 cs1 n2 cs2 g1 o1 g2 o2 i j x y W' := by
  obtain ⟨a0, a1, a2, a3⟩ := H
  have K : ∀ b i v, W.cell? ⟨b, i, none⟩ = some v → W'.cell? ⟨b, i, none⟩ = some v := fun b i v h => (hb.cell (p := ⟨b, i, none⟩) (World.block_lt_of_cell? W _ h)).trans h
  exact ⟨K _ _ _ a0, K _ _ _ a1, K _ _ _ a2, K _ _ _ a3⟩
theorem RjS.cell {w3 W : World} {bu g i : Nat} {k : Int} {vv sv v : Value} {lv ls : List Nat} (H : RjS w3 bu k vv sv lv ls W) (hg : g < w3.heap.size) (hne : g ≠ bu) (hc : w3.cell? ⟨g, i, none⟩ = some v) : W.cell? ⟨g, i, none⟩ = some v :=
  (World.cell?_of_block (a := ⟨g, i, none⟩) (H.kept.block g hg hne hne)).trans hc
theorem results_rt3 {fn : Func} {p q r : Tmp} (h : fn.results = #[.cell p 30, .tmp q, .tmp r]) (tmps : Array Value) (w : World) (g : Nat) (a b c : Value) (hp : tmps.getD p undef = .pointer (some ⟨g, 0, none⟩))
    (hg : w.heap[g]? = some (.cells #[a, b, c] 30 (0, 0))) : (results fn tmps).run Tryz.prog w = .ok (.tuple #[.agg #[a, b, c], tmps.getD q undef, tmps.getD r undef]) w := by
  have c0 : w.cell? ⟨g, 0, none⟩ = some a := by rw [cell_of_row _ _ _ _ _ _ hg]; rfl
  have c1 : w.cell? ⟨g, 1, none⟩ = some b := by rw [cell_of_row _ _ _ _ _ _ hg]; rfl
  have c2 : w.cell? ⟨g, 2, none⟩ = some c := by rw [cell_of_row _ _ _ _ _ _ hg]; rfl
  have hp' : tmps[p]?.getD undef = .pointer (some ⟨g, 0, none⟩) := by simpa using hp
  simp [results, h, hp', go_sem, c0, c1, c2]
/-- What the second loop's last region reads. -/
abbrev HoldY (wb : World) (b0 b1 bu : Nat) (a0 a1 a2 d0 d1 d2 : Value) (k : Int) (W : World) : Prop :=
  W.cell? ⟨b0, 0, none⟩ = some a0 ∧ W.cell? ⟨b0, 1, none⟩ = some a1 ∧ W.cell? ⟨b0, 2, none⟩ = some a2 ∧ W.cell? ⟨b1, 0, none⟩ = some d0 ∧ W.cell? ⟨b1, 1, none⟩ = some d1 ∧ W.cell? ⟨b1, 2, none⟩ = some d2 ∧ W.cell? ⟨bu, 1, none⟩ = some (.int .i64 k) ∧ Kept2 wb bu bu W
theorem holdY {wb W W' : World} {b0 b1 bu : Nat} {a0 a1 a2 d0 d1 d2 : Value} {k : Int} (H : HoldY wb b0 b1 bu a0 a1 a2 d0 d1 d2 k W) (hb : Below W.heap.size W W') : HoldY wb b0 b1 bu a0 a1 a2 d0 d1 d2 k W' := by
  obtain ⟨x0, x1, x2, y0, y1, y2, u1, h9⟩ := H
  have K : ∀ b i v, W.cell? ⟨b, i, none⟩ = some v → W'.cell? ⟨b, i, none⟩ = some v := fun b i v h => (hb.cell (p := ⟨b, i, none⟩) (World.block_lt_of_cell? W _ h)).trans h
  exact ⟨K _ _ _ x0, K _ _ _ x1, K _ _ _ x2, K _ _ _ y0, K _ _ _ y1, K _ _ _ y2, K _ _ _ u1, h9.next hb⟩
theorem holdY_grown {wb W W' : World} {b0 b1 bu m : Nat} {a0 a1 a2 d0 d1 d2 : Value} {k : Int} {v : Value} {e : TypeId} {xs : List Value} (H : HoldY wb b0 b1 bu a0 a1 a2 d0 d1 d2 k W) (h0 : b0 < wb.heap.size) (h1 : b1 < wb.heap.size) (h2 : bu < wb.heap.size) (ho : W.ownsRow wb.heap.size e 1 v m xs) (hg : W.grownBy W' v.ownBlock) : HoldY wb b0 b1 bu a0 a1 a2 d0 d1 d2 k W' := by
  obtain ⟨x0, x1, x2, y0, y1, y2, u1, h9⟩ := H
  have K : ∀ b i v, b < wb.heap.size → W.cell? ⟨b, i, none⟩ = some v → W'.cell? ⟨b, i, none⟩ = some v := fun b i v hb h => (World.cell?_of_block (hg.block b (World.block_lt_of_cell? W _ h) (fun e => by have := (World.ownsRow.lt ho b e.symm).1; omega))).trans h
  exact ⟨K _ _ _ h0 x0, K _ _ _ h0 x1, K _ _ _ h0 x2, K _ _ _ h1 y0, K _ _ _ h1 y1, K _ _ _ h1 y2, K _ _ _ h2 u1, kept2_grown h9 ho hg⟩
theorem holdY_set {wb W : World} {b0 b1 bu : Nat} {a0 a1 a2 d0 d1 d2 : Value} {k : Int} (H : HoldY wb b0 b1 bu a0 a1 a2 d0 d1 d2 k W) (h0 : b0 ≠ bu) (h1 : b1 ≠ bu) (u : Value) : HoldY wb b0 b1 bu a0 a1 a2 d0 d1 d2 k (W.setCell ⟨bu, 2, none⟩ u) := by
  obtain ⟨x0, x1, x2, y0, y1, y2, u1, h9⟩ := H
  have K : ∀ c j v, c ≠ bu → W.cell? ⟨c, j, none⟩ = some v → (W.setCell ⟨bu, 2, none⟩ u).cell? ⟨c, j, none⟩ = some v := fun c j v hc h => by
    rw [World.cell?_setCell_other _ _ _ _ (by intro e; injection e with e1; exact hc (by first | exact e1 | exact e1.symm))]; exact h
  exact ⟨K _ _ _ h0 x0, K _ _ _ h0 x1, K _ _ _ h0 x2, K _ _ _ h1 y0, K _ _ _ h1 y1, K _ _ _ h1 y2, by rw [World.cell?_setCell_other _ _ _ _ (by intro e; injection e with e1 e2; omega)]; exact u1, h9.set (.inl rfl) 2 u⟩
def RjPost (w : World) (a b V l1 l2 : List Nat) (k : Int) (z1 z2 : Nat → Int) (m P : Nat) (e : Ending) (w' : World) : Prop :=
  ((AgB a b l1 l2 = true ∧ ∃ A1 c1 A2 c2 A3 c3, e = .returned (.tuple #[.agg #[.slice A1 m c1, .int .i64 k, .slice A2 P c2], .slice A3 m c3, .bool true]) ∧ Ints w' A1 (V.map (szU a b l1 l2)) ∧ Zs w' A2 P (joinZ (V.map (szU a b l1 l2)) (plcL V a) (plcL V b) l1 l2 z1 z2 k) ∧ Ints w' A3 V) ∨
   (AgB a b l1 l2 = false ∧ ∃ A9 m9 c9, e = .returned (.tuple #[.agg #[.slice A9 m9 c9, .int .i64 k, .slice none 0 0], .slice none 0 0, .bool false]))) ∧ Below w.heap.size w w'
set_option maxRecDepth 100000 in
set_option maxHeartbeats 8000000 in
theorem rjoin_any (As1 Ac1 As2 Ac2 A1 A2 : Option Addr) (cs1 cc1 cs2 cc2 c1 c2 n1 n2 m P1 P2 P : Nat) (l1 l2 a b V : List Nat) (k k2 : Int) (z1 z2 : Nat → Int) (w : World)
    (h61 : n1 ≤ 6) (h62 : n2 ≤ 6) (hc1 : n1 ≤ cs1) (hc2 : n2 ≤ cs2) (hp14 : P1 ≤ 4096) (hp24 : P2 ≤ 4096) (hl1 : l1.length = n1) (hl2 : l2.length = n2) (ha : a.length = n1) (hb : b.length = n2) (r1 : Rises a) (r2 : Rises b) (a12 : ∀ x ∈ a, x < 12) (b12 : ∀ x ∈ b, x < 12)
    (hV : unL a b 12 = V) (hm : V.length = m) (hm6 : m ≤ 6) (hs1 : ∀ n ∈ l1, 1 ≤ n ∧ n ≤ 32) (hs2 : ∀ n ∈ l2, 1 ≤ n ∧ n ≤ 32) (hP : prodL (V.map (szU a b l1 l2)) = P) (hP4 : P ≤ 4096)
    (hk1 : 1 ≤ k) (hk2 : k ≤ 2147483648) (hz1 : ∀ i, i < prodL l1 → 0 ≤ z1 i ∧ z1 i ≤ k) (hz2 : ∀ i, i < prodL l2 → 0 ≤ z2 i ∧ z2 i ≤ k) (hp1 : prodL l1 = P1) (hp2 : prodL l2 = P2)
    (i1 : Ints w As1 l1) (i2 : Ints w As2 l2) (y1 : Zs w Ac1 P1 z1) (y2 : Zs w Ac2 P2 z2) (iA : Ints w A1 a) (iB : Ints w A2 b) :
    Calls Tryz.prog 11 #[.agg #[.slice As1 n1 cs1, .int .i64 k, .slice Ac1 P1 cc1], .slice A1 n1 c1, .agg #[.slice As2 n2 cs2, .int .i64 k2, .slice Ac2 P2 cc2], .slice A2 n2 c2] w (RjPost w a b V l1 l2 k z1 z2 m P) := by
  have HL1 := Lib.hid hl1
  have HL2 := Lib.hid hl2
  have HA := Lib.hid ha
  have HB := Lib.hid hb
  have RA1 := Lib.hid r1
  have RB1 := Lib.hid r2
  have A12 := Lib.hid a12
  have B12 := Lib.hid b12
  have HVE := Lib.hid hV
  have HM6 := Lib.hid hm
  have S1 := Lib.hid hs1
  have S2 := Lib.hid hs2
  have HP := Lib.hid hP
  have Z1 := Lib.hid hz1
  have Z2 := Lib.hid hz2
  have PP1 := Lib.hid hp1
  have PP2 := Lib.hid hp2
  have I1 := Lib.hid i1
  have I2 := Lib.hid i2
  have Y1 := Lib.hid y1
  have Y2 := Lib.hid y2
  have IA := Lib.hid iA
  have IB := Lib.hid iB
  clear hl1 hl2 ha hb r1 r2 a12 b12 hV hm hs1 hs2 hP hz1 hz2 hp1 hp2 i1 i2 y1 y2 iA iB
  go_enter Tryz.func11, Tryz.ntmps11
  have X0 : Hid (((((w.alloc (.cells #[.slice As1 n1 cs1, .int .i64 k, .slice Ac1 P1 cc1] 30)).alloc (.cells #[.slice As2 n2 cs2, .int .i64 k2, .slice Ac2 P2 cc2] 30)).alloc (.cells #[.slice none 0 0, .int .i64 0, .slice none 0 0] 30)).alloc (.cells #[.slice none 0 0, .int .i64 k, .slice none 0 0] 30)).heap[w.heap.size]? = some (.cells #[.slice As1 n1 cs1, .int .i64 k, .slice Ac1 P1 cc1] 30 (0, 0))) :=
    Lib.hid (((new_val _ _).block _ (by simp <;> omega)).trans (((new_val _ _).block _ (by simp <;> omega)).trans (((new_val _ _).block _ (by simp)).trans (heap_alloc_new w _))))
  have X1 : Hid (((((w.alloc (.cells #[.slice As1 n1 cs1, .int .i64 k, .slice Ac1 P1 cc1] 30)).alloc (.cells #[.slice As2 n2 cs2, .int .i64 k2, .slice Ac2 P2 cc2] 30)).alloc (.cells #[.slice none 0 0, .int .i64 0, .slice none 0 0] 30)).alloc (.cells #[.slice none 0 0, .int .i64 k, .slice none 0 0] 30)).heap[w.heap.size + 1]? = some (.cells #[.slice As2 n2 cs2, .int .i64 k2, .slice Ac2 P2 cc2] 30 (0, 0))) :=
    Lib.hid (((new_val _ _).block _ (by simp <;> omega)).trans (((new_val _ _).block _ (by simp)).trans (alloc_two w _ _)))
  have X2 : Hid (((((w.alloc (.cells #[.slice As1 n1 cs1, .int .i64 k, .slice Ac1 P1 cc1] 30)).alloc (.cells #[.slice As2 n2 cs2, .int .i64 k2, .slice Ac2 P2 cc2] 30)).alloc (.cells #[.slice none 0 0, .int .i64 0, .slice none 0 0] 30)).alloc (.cells #[.slice none 0 0, .int .i64 k, .slice none 0 0] 30)).heap[w.heap.size + 1 + 1]? = some (.cells #[.slice none 0 0, .int .i64 0, .slice none 0 0] 30 (0, 0))) :=
    Lib.hid (((new_val _ _).block _ (by simp)).trans (by have := alloc_two (w.alloc (.cells #[.slice As1 n1 cs1, .int .i64 k, .slice Ac1 P1 cc1] 30)) (.cells #[.slice As2 n2 cs2, .int .i64 k2, .slice Ac2 P2 cc2] 30) (.cells #[.slice none 0 0, .int .i64 0, .slice none 0 0] 30); simpa using this))
  have X3 : Hid (((((w.alloc (.cells #[.slice As1 n1 cs1, .int .i64 k, .slice Ac1 P1 cc1] 30)).alloc (.cells #[.slice As2 n2 cs2, .int .i64 k2, .slice Ac2 P2 cc2] 30)).alloc (.cells #[.slice none 0 0, .int .i64 0, .slice none 0 0] 30)).alloc (.cells #[.slice none 0 0, .int .i64 k, .slice none 0 0] 30)).heap[w.heap.size + 1 + 1 + 1]? = some (.cells #[.slice none 0 0, .int .i64 k, .slice none 0 0] 30 (0, 0))) :=
    Lib.hid (by have := alloc_two ((w.alloc (.cells #[.slice As1 n1 cs1, .int .i64 k, .slice Ac1 P1 cc1] 30)).alloc (.cells #[.slice As2 n2 cs2, .int .i64 k2, .slice Ac2 P2 cc2] 30)) (.cells #[.slice none 0 0, .int .i64 0, .slice none 0 0] 30) (.cells #[.slice none 0 0, .int .i64 k, .slice none 0 0] 30); simpa using this)
  have B4 : Hid (Below w.heap.size w ((((w.alloc (.cells #[.slice As1 n1 cs1, .int .i64 k, .slice Ac1 P1 cc1] 30)).alloc (.cells #[.slice As2 n2 cs2, .int .i64 k2, .slice Ac2 P2 cc2] 30)).alloc (.cells #[.slice none 0 0, .int .i64 0, .slice none 0 0] 30)).alloc (.cells #[.slice none 0 0, .int .i64 k, .slice none 0 0] 30))) := Lib.hid (then_ (then_ (then_ (new_val _ _) (new_val _ _)) (new_val _ _)) (new_val _ _))
  have z4 : Hid (((((w.alloc (.cells #[.slice As1 n1 cs1, .int .i64 k, .slice Ac1 P1 cc1] 30)).alloc (.cells #[.slice As2 n2 cs2, .int .i64 k2, .slice Ac2 P2 cc2] 30)).alloc (.cells #[.slice none 0 0, .int .i64 0, .slice none 0 0] 30)).alloc (.cells #[.slice none 0 0, .int .i64 k, .slice none 0 0] 30)).heap.size = w.heap.size + 4) := Lib.hid (by simp)
  go_upto_region 4 with fail
  generalize ((((w.alloc (.cells #[.slice As1 n1 cs1, .int .i64 k, .slice Ac1 P1 cc1] 30)).alloc (.cells #[.slice As2 n2 cs2, .int .i64 k2, .slice Ac2 P2 cc2] 30)).alloc (.cells #[.slice none 0 0, .int .i64 0, .slice none 0 0] 30)).alloc (.cells #[.slice none 0 0, .int .i64 k, .slice none 0 0] 30)) = w4 at X0 X1 X2 X3 B4 z4 ⊢
  have HBU : Hid (w.heap.size + 1 + 1 + 1 < w4.heap.size) := Lib.hid (by have := z4.out; omega)
  have S4 : Hid (RjS w4 (w.heap.size + 1 + 1 + 1) k (.slice none 0 0) (.slice none 0 0) (unL a b 0) ((unL a b 0).map (szU a b l1 l2)) w4) := Lib.hid ⟨Kept2.refl _ _ _, X3.out, two_nil _ _⟩
  go_loopw [11, 13] (fun vv i wr => ∃ (v : Nat) (sv : Value), v ≤ 12 ∧ i = .int .i64 (v : Int) ∧ RjS w4 (w.heap.size + 1 + 1 + 1) k vv sv (unL a b v) ((unL a b v).map (szU a b l1 l2)) wr ∧ AgX a b l1 l2 v) (fun _ i _ => 12 - (intOf i).toNat)
  case atStart => exact ⟨0, _, Nat.zero_le _, rfl, S4.out, agX_zero _ _ _ _⟩
  case round =>
    obtain ⟨v, sv, hv, rfl, hM, hag⟩ := hrel
    have HM := Lib.hid hM
    have HG := Lib.hid hag
    clear hM hag
    by_cases hlt : v < 12
    · have j1 : (v : Int) < 12 := by omega
      have BR := Lib.hid (HM.out.kept.below B4.out (by have := z4.out; omega) (by have := z4.out; omega) (by have := z4.out; omega))
      have C1 := Lib.hid (find_any A1 n1 c1 v a wr HA.out (IA.out.below BR.out (Nat.le_refl _)) RA1.out (by omega))
      have C2 := Lib.hid (find_any A2 n2 c2 v b wr HB.out (IB.out.below BR.out (Nat.le_refl _)) RB1.out (by omega))
      have HLU := Lib.hid (unL_le a b v)
      have HLS : Hid (((unL a b v).map (szU a b l1 l2)).length ≤ v) := Lib.hid (by rw [List.length_map]; exact HLU.out)
      have HUN := Lib.hid (unL_snoc a b v)
      rcases fi_cases RA1.out v with ⟨i, hi, ei, f1, hca, hni⟩ | ⟨hca, f1⟩
      · rcases fi_cases RB1.out v with ⟨j, hj, ej, f2, hcb, hnj⟩ | ⟨hcb, f2⟩
        · skip
          rw [HA.out] at hi
          rw [HB.out] at hj
          obtain ⟨g1, o1, rfl, hc1⟩ := (I1.out.below B4.out (Nat.le_refl _)).at_ (i := i) (by rw [HL1.out]; omega)
          have HGS1 : Hid (g1 < w.heap.size) := Lib.hid (by
            rcases I1.out with h0 | ⟨g', o', e', hg', _⟩
            · have := HL1.out; rw [h0] at this; simp at this; omega
            · injection e' with e'; injection e' with e1 e2; subst e1; exact hg')
          obtain ⟨x, hx⟩ : ∃ q, nth l1 i = q := ⟨_, rfl⟩
          rw [hx] at hc1
          have HC1 := Lib.hid hc1
          clear hc1
          have p1 : (i : Int) < (n1 : Int) := by omega
          have p1' : (0 : Int) ≤ (i : Int) := by omega
          have p1'' : ¬ ((i : Int) < 0) := by omega
          obtain ⟨g2, o2, rfl, hc2⟩ := (I2.out.below B4.out (Nat.le_refl _)).at_ (i := j) (by rw [HL2.out]; omega)
          have HGS2 : Hid (g2 < w.heap.size) := Lib.hid (by
            rcases I2.out with h0 | ⟨g', o', e', hg', _⟩
            · have := HL2.out; rw [h0] at this; simp at this; omega
            · injection e' with e'; injection e' with e1 e2; subst e1; exact hg')
          obtain ⟨y, hy⟩ : ∃ q, nth l2 j = q := ⟨_, rfl⟩
          rw [hy] at hc2
          have HC2 := Lib.hid hc2
          clear hc2
          have p2 : (j : Int) < (n2 : Int) := by omega
          have p2' : (0 : Int) ≤ (j : Int) := by omega
          have p2'' : ¬ ((j : Int) < 0) := by omega
          rw [f1] at C1
          rw [f2] at C2
          have HUL : Hid (unL a b (v + 1) = unL a b v ++ [v]) := Lib.hid (by rw [HUN.out, hca]; simp)
          have HSL : Hid ((unL a b (v + 1)).map (szU a b l1 l2) = (unL a b v).map (szU a b l1 l2) ++ [x]) := Lib.hid (by rw [HUL.out, List.map_append]; simp [szU, List.contains_iff_mem.1 hca, hni, hx])
          have HXY : Hid (∀ i' j', i' < a.length → j' < b.length → nth a i' = v → nth b j' = v → nth l1 i' = x ∧ nth l2 j' = y) := Lib.hid fun i' j' h1 h2 e1 e2 => by
            obtain rfl := idx_uniq RA1.out h1 (by rw [HA.out]; exact hi) e1 ei
            obtain rfl := idx_uniq RB1.out h2 (by rw [HB.out]; exact hj) e2 ej
            exact ⟨hx, hy⟩
          have HIJ : Hid (i < a.length ∧ j < b.length ∧ nth a i = nth b j ∧ nth l1 i = x ∧ nth l2 j = y) := Lib.hid ⟨by rw [HA.out]; exact hi, by rw [HB.out]; exact hj, ei.trans ej.symm, hx, hy⟩
          clear hca hcb f1 f2 ei ej hni hnj hx hy hi hj
          go_wp2_with fail
          refine C1.out.mono ?_
          rintro e w5 ⟨rfl, rfl⟩
          go_wp2_with fail
          refine C2.out.mono ?_
          rintro e w5 ⟨rfl, rfl⟩
          go_upto_region 8 with fail
          have RX := Lib.hid (HM.out.next ((Below.refl wr.heap.size wr).drew))
          refine wp_region_noPanic ?_
          refine wp_region_held_drew (S := fun W => HoldX2 w.heap.size (w.heap.size + 1) n1 cs1 n2 cs2 g1 o1 g2 o2 i j x y W) (by kernel_rfl) (holdX2 (⟨(HM.out.cell (by have := z4.out; omega) (by omega) (by rw [cell_of_row _ _ _ _ _ _ X0.out]; rfl)), (HM.out.cell (by have := z4.out; omega) (by omega) (by rw [cell_of_row _ _ _ _ _ _ X1.out]; rfl)), (HM.out.cell (by have := HGS1.out; have := z4.out; omega) (by have := HGS1.out; omega) HC1.out), (HM.out.cell (by have := HGS2.out; have := z4.out; omega) (by have := HGS2.out; omega) HC2.out)⟩ : HoldX2 w.heap.size (w.heap.size + 1) n1 cs1 n2 cs2 g1 o1 g2 o2 i j x y wr) ((Below.refl _ _).drew)) (fun hHeld => ?_)
          generalize wr.drew = wD at hHeld RX ⊢
          refine wpAnyH_take (i := 0) (v := ?v1001) rfl (by kernel_rfl) (by kernel_rfl) (by kernel_rfl) (fun _ _ _ h => h) (Or.inl ⟨by rfl, ?y1001⟩) (by assumption) ?r1001
          case y1001 => ((intro w hSw; (try dsimp only at hSw); go_simp); try with_reducible rfl)
          try simp only [Act.put, List.getElem_toArray, List.getElem_cons_zero, List.setIfInBounds_toArray, List.set_cons_zero, List.set_cons_succ]
          refine wpAnyH_take (i := 1) (v := ?v1002) rfl (by kernel_rfl) (by kernel_rfl) (by kernel_rfl) (fun _ _ _ h => h) (Or.inl ⟨by rfl, ?y1002⟩) (by assumption) ?r1002
          case y1002 => ((intro w hSw; (try dsimp only at hSw); go_simp); try with_reducible rfl)
          try simp only [Act.put, List.getElem_toArray, List.getElem_cons_succ, List.getElem_cons_zero, List.setIfInBounds_toArray, List.set_cons_zero, List.set_cons_succ]
          refine wpAnyH_take (i := 2) (v := ?v1003) rfl (by kernel_rfl) (by kernel_rfl) (by kernel_rfl) (fun _ _ _ h => h) (Or.inl ⟨by rfl, ?y1003⟩) (by assumption) ?r1003
          case y1003 => ((intro w hSw; (try dsimp only at hSw); go_simp); try with_reducible rfl)
          try simp only [Act.put, List.getElem_toArray, List.getElem_cons_succ, List.getElem_cons_zero, List.setIfInBounds_toArray, List.set_cons_zero, List.set_cons_succ]
          refine wpAnyH_take (i := 3) (v := ?v1004) rfl (by kernel_rfl) (by kernel_rfl) (by kernel_rfl) (fun _ _ _ h => h) (Or.inl ⟨by rfl, ?y1004⟩) (by assumption) ?r1004
          case y1004 => ((intro w hSw; (try dsimp only at hSw); go_simp); try with_reducible rfl)
          try simp only [Act.put, List.getElem_toArray, List.getElem_cons_succ, List.getElem_cons_zero, List.setIfInBounds_toArray, List.set_cons_zero, List.set_cons_succ]
          refine wpAnyH_take (i := 4) (v := ?v1005) rfl (by kernel_rfl) (by kernel_rfl) (by kernel_rfl) (fun _ _ _ h => h) (Or.inl ⟨by rfl, ?y1005⟩) (by assumption) ?r1005
          case y1005 => ((intro w hSw; (try dsimp only at hSw); go_simp); try with_reducible rfl)
          try simp only [Act.put, List.getElem_toArray, List.getElem_cons_succ, List.getElem_cons_zero, List.setIfInBounds_toArray, List.set_cons_zero, List.set_cons_succ]
          refine wpAnyH_take (i := 5) (v := ?v1006) rfl (by kernel_rfl) (by kernel_rfl) (by kernel_rfl) (fun _ _ _ h => h) (Or.inl ⟨by rfl, ?y1006⟩) (by assumption) ?r1006
          case y1006 => ((intro w hSw; (try dsimp only at hSw); go_simp); try with_reducible rfl)
          try simp only [Act.put, List.getElem_toArray, List.getElem_cons_succ, List.getElem_cons_zero, List.setIfInBounds_toArray, List.set_cons_zero, List.set_cons_succ]
          refine wpAnyH_take (i := 6) (v := ?v1007) rfl (by kernel_rfl) (by kernel_rfl) (by kernel_rfl) (fun _ _ _ h => h) (Or.inl ⟨by rfl, ?y1007⟩) (by assumption) ?r1007
          case y1007 => ((intro w hSw; (try dsimp only at hSw); go_simp); try with_reducible rfl)
          try simp only [Act.put, List.getElem_toArray, List.getElem_cons_succ, List.getElem_cons_zero, List.setIfInBounds_toArray, List.set_cons_zero, List.set_cons_succ]
          refine wpAnyH_take (i := 7) (v := ?v1008) rfl (by kernel_rfl) (by kernel_rfl) (by kernel_rfl) (fun _ _ _ h => h) (Or.inl ⟨by rfl, ?y1008⟩) (by assumption) ?r1008
          case y1008 => ((intro w hSw; (try dsimp only at hSw); go_simp); try with_reducible rfl)
          try simp only [Act.put, List.getElem_toArray, List.getElem_cons_succ, List.getElem_cons_zero, List.setIfInBounds_toArray, List.set_cons_zero, List.set_cons_succ]
          refine wpAnyH_take (i := 8) (v := ?v1009) rfl (by kernel_rfl) (by kernel_rfl) (by kernel_rfl) (fun _ _ _ h => h) (Or.inl ⟨by rfl, ?y1009⟩) (by assumption) ?r1009
          case y1009 => ((intro w hSw; (try dsimp only at hSw); go_simp); try with_reducible rfl)
          try simp only [Act.put, List.getElem_toArray, List.getElem_cons_succ, List.getElem_cons_zero, List.setIfInBounds_toArray, List.set_cons_zero, List.set_cons_succ]
          refine wpAnyH_take (i := 9) (v := ?v1010) rfl (by kernel_rfl) (by kernel_rfl) (by kernel_rfl) (fun _ _ _ h => h) (Or.inl ⟨by rfl, ?y1010⟩) (by assumption) ?r1010
          case y1010 => ((intro w hSw; (try dsimp only at hSw); go_simp); try with_reducible rfl)
          try simp only [Act.put, List.getElem_toArray, List.getElem_cons_succ, List.getElem_cons_zero, List.setIfInBounds_toArray, List.set_cons_zero, List.set_cons_succ]
          refine wpAnyH_take (i := 10) (v := ?v1011) rfl (by kernel_rfl) (by kernel_rfl) (by kernel_rfl) (fun _ _ _ h => h) (Or.inl ⟨by rfl, ?y1011⟩) (by assumption) ?r1011
          case y1011 => ((intro w hSw; (try dsimp only at hSw); go_simp); try with_reducible rfl)
          try simp only [Act.put, List.getElem_toArray, List.getElem_cons_succ, List.getElem_cons_zero, List.setIfInBounds_toArray, List.set_cons_zero, List.set_cons_succ]
          refine wpAnyH_take (i := 11) (v := ?v1012) rfl (by kernel_rfl) (by kernel_rfl) (by kernel_rfl) (fun _ _ _ h => h) (Or.inl ⟨by rfl, ?y1012⟩) (by assumption) ?r1012
          case y1012 => ((intro w hSw; (try dsimp only at hSw); go_simp); try with_reducible rfl)
          try simp only [Act.put, List.getElem_toArray, List.getElem_cons_succ, List.getElem_cons_zero, List.setIfInBounds_toArray, List.set_cons_zero, List.set_cons_succ]
          refine wpAnyH_take (i := 12) (v := ?v1013) rfl (by kernel_rfl) (by kernel_rfl) (by kernel_rfl) (fun _ _ _ h => h) (Or.inl ⟨by rfl, ?y1013⟩) (by assumption) ?r1013
          case y1013 => ((intro w hSw; (try dsimp only at hSw); go_simp); try with_reducible rfl)
          try simp only [Act.put, List.getElem_toArray, List.getElem_cons_succ, List.getElem_cons_zero, List.setIfInBounds_toArray, List.set_cons_zero, List.set_cons_succ]
          refine wpAnyH_take (i := 13) (v := ?v1014) rfl (by kernel_rfl) (by kernel_rfl) (by kernel_rfl) (fun _ _ _ h => h) (Or.inl ⟨by rfl, ?y1014⟩) (by assumption) ?r1014
          case y1014 => ((intro w hSw; (try dsimp only at hSw); go_simp); try with_reducible rfl)
          try simp only [Act.put, List.getElem_toArray, List.getElem_cons_succ, List.getElem_cons_zero, List.setIfInBounds_toArray, List.set_cons_zero, List.set_cons_succ]
          refine wpAnyH_take (i := 14) (v := ?v1015) rfl (by kernel_rfl) (by kernel_rfl) (by kernel_rfl) (fun _ _ _ h => h) (Or.inl ⟨by rfl, ?y1015⟩) (by assumption) ?r1015
          case y1015 => ((intro w hSw; (try dsimp only at hSw); go_simp); try with_reducible rfl)
          try simp only [Act.put, List.getElem_toArray, List.getElem_cons_succ, List.getElem_cons_zero, List.setIfInBounds_toArray, List.set_cons_zero, List.set_cons_succ]
          refine wpAnyH_take (i := 15) (v := ?v1016) rfl (by kernel_rfl) (by kernel_rfl) (by kernel_rfl) (fun _ _ _ h => h) (Or.inl ⟨by rfl, ?y1016⟩) (by assumption) ?r1016
          case y1016 => ((intro w hSw; (try dsimp only at hSw); go_simp); try with_reducible rfl)
          try simp only [Act.put, List.getElem_toArray, List.getElem_cons_succ, List.getElem_cons_zero, List.setIfInBounds_toArray, List.set_cons_zero, List.set_cons_succ]
          refine wpAnyH_take (i := 16) (v := ?v1017) rfl (by kernel_rfl) (by kernel_rfl) (by kernel_rfl) (fun _ _ _ h => h) (Or.inl ⟨by rfl, ?y1017⟩) (by assumption) ?r1017
          case y1017 => ((intro w hSw; (try dsimp only at hSw); go_simp); try with_reducible rfl)
          try simp only [Act.put, List.getElem_toArray, List.getElem_cons_succ, List.getElem_cons_zero, List.setIfInBounds_toArray, List.set_cons_zero, List.set_cons_succ]
          refine wpAnyH_take (i := 17) (v := ?v1018) rfl (by kernel_rfl) (by kernel_rfl) (by kernel_rfl) (fun _ _ _ h => h) (Or.inl ⟨by rfl, ?y1018⟩) (by assumption) ?r1018
          case y1018 => ((intro w hSw; (try dsimp only at hSw); go_simp); try with_reducible rfl)
          try simp only [Act.put, List.getElem_toArray, List.getElem_cons_succ, List.getElem_cons_zero, List.setIfInBounds_toArray, List.set_cons_zero, List.set_cons_succ]
          refine wpAnyH_take (i := 18) (v := ?v1019) rfl (by kernel_rfl) (by kernel_rfl) (by kernel_rfl) (fun _ _ _ h => h) (Or.inl ⟨by rfl, ?y1019⟩) (by assumption) ?r1019
          case y1019 => ((intro w hSw; (try dsimp only at hSw); go_simp); try with_reducible rfl)
          try simp only [Act.put, List.getElem_toArray, List.getElem_cons_succ, List.getElem_cons_zero, List.setIfInBounds_toArray, List.set_cons_zero, List.set_cons_succ]
          refine wpAnyH_done (by kernel_rfl) ?_ _
          refine NoPanic.normal ?_
          clear hHeld
          by_cases he : x = y
          · have d : ((x : Int) != (y : Int)) = false := by simp [he]
            have HGN := Lib.hid (agX_step HG.out fun i' j' h1 h2 e1 e2 => by
              obtain ⟨e3, e4⟩ := HXY.out i' j' h1 h2 e1 e2
              rw [e3, e4, he])
            clear he HXY
            go_upto_region 12 with (at_builtin; refine app2_own rfl (.tmp 61) (.tmp 63) rfl _ w4.heap.size v u11 (unL a b v) ⟨_, 0, none⟩ rfl rfl (RX.out.two.a.below (new_val _ _) (Nat.le_refl _)) (lit_cell _ _) (Nat.le_trans RX.out.kept.size (new_val _ _).size) (by have := HLU.out; omega) ?_; intro v5 w5 hO hg hat; have RD := Lib.hid ((RX.out.next (new_val _ _)).pushV HBU.out hO hg hat); clear hO hg hat)
            have HV : Hid (HoldV w4 (w.heap.size) (w.heap.size + 1 + 1 + 1) n1 cs1 g1 o1 i x w5) := Lib.hid ⟨RD.out.cell (by have := z4.out; omega) (by omega) (by rw [cell_of_row _ _ _ _ _ _ X0.out]; rfl), RD.out.cell (by have := HGS1.out; have := z4.out; omega) (by have := HGS1.out; omega) HC1.out, RD.out.kept⟩
            refine wp_region_noPanic ?_
            refine wp_region_held_drew (S := fun W => HoldV w4 (w.heap.size) (w.heap.size + 1 + 1 + 1) n1 cs1 g1 o1 i x W) (by kernel_rfl) (holdV HV.out ((Below.refl _ _).drew)) (fun hHeld => ?_)
            have RA := Lib.hid (RD.out.next ((Below.refl w5.heap.size w5).drew))
            clear RD
            generalize w5.drew = w6 at hHeld RA ⊢
            refine wpAnyH_take (i := 0) (v := ?v4001) rfl (by kernel_rfl) (by kernel_rfl) (by kernel_rfl) (fun _ _ _ h => h) (Or.inl ⟨by rfl, ?y4001⟩) (by assumption) ?r4001
            case y4001 => ((intro w hSw; (try dsimp only at hSw); go_simp); try with_reducible rfl)
            try simp only [Act.put, List.getElem_toArray, List.getElem_cons_zero, List.setIfInBounds_toArray, List.set_cons_zero, List.set_cons_succ]
            refine wpAnyH_take (i := 2) (v := ?v4002) rfl (by kernel_rfl) (by kernel_rfl) (by kernel_rfl) (fun _ _ _ h => h) (Or.inl ⟨by rfl, ?y4002⟩) (by assumption) ?r4002
            case y4002 => ((intro w hSw; (try dsimp only at hSw); go_simp); try with_reducible rfl)
            try simp only [Act.put, List.getElem_toArray, List.getElem_cons_succ, List.getElem_cons_zero, List.setIfInBounds_toArray, List.set_cons_zero, List.set_cons_succ]
            refine wpAnyH_take (i := 3) (v := ?v4003) rfl (by kernel_rfl) (by kernel_rfl) (by kernel_rfl) (fun _ _ _ h => h) (Or.inl ⟨by rfl, ?y4003⟩) (by assumption) ?r4003
            case y4003 => ((intro w hSw; (try dsimp only at hSw); go_simp); try with_reducible rfl)
            try simp only [Act.put, List.getElem_toArray, List.getElem_cons_succ, List.getElem_cons_zero, List.setIfInBounds_toArray, List.set_cons_zero, List.set_cons_succ]
            refine wpAnyH_take (i := 4) (v := ?v4004) rfl (by kernel_rfl) (by kernel_rfl) (by kernel_rfl) (fun _ _ _ h => h) (Or.inl ⟨by rfl, ?y4004⟩) (by assumption) ?r4004
            case y4004 => ((intro w hSw; (try dsimp only at hSw); go_simp); try with_reducible rfl)
            try simp only [Act.put, List.getElem_toArray, List.getElem_cons_succ, List.getElem_cons_zero, List.setIfInBounds_toArray, List.set_cons_zero, List.set_cons_succ]
            refine wpAnyH_take (i := 5) (v := ?v4005) rfl (by kernel_rfl) (by kernel_rfl) (by kernel_rfl) (fun _ _ _ h => h) (Or.inl ⟨by rfl, ?y4005⟩) (by assumption) ?r4005
            case y4005 => ((intro w hSw; (try dsimp only at hSw); go_simp); try with_reducible rfl)
            try simp only [Act.put, List.getElem_toArray, List.getElem_cons_succ, List.getElem_cons_zero, List.setIfInBounds_toArray, List.set_cons_zero, List.set_cons_succ]
            refine wpAnyH_take (i := 6) (v := ?v4006) rfl (by kernel_rfl) (by kernel_rfl) (by kernel_rfl) (fun _ _ _ h => h) (Or.inl ⟨by rfl, ?y4006⟩) (by assumption) ?r4006
            case y4006 => ((intro w hSw; (try dsimp only at hSw); go_simp); try with_reducible rfl)
            try simp only [Act.put, List.getElem_toArray, List.getElem_cons_succ, List.getElem_cons_zero, List.setIfInBounds_toArray, List.set_cons_zero, List.set_cons_succ]
            refine wpAnyH_ready (rs := [1, 7]) (by kernel_rfl) (by simp) ?_
            refine AllReadyH.cons rfl (fun K hK => ?_) ?_
            · have ac : w6.cell? ⟨w.heap.size + 1 + 1 + 1, 0, none⟩ = some sv := by rw [cell_of_row _ _ _ _ _ _ RA.out.row]; rfl
              go_simp
              clear ac
              refine hK.out _ _ (hHeld) (fun hHeld' => ?_)
              clear hHeld
              have hHeld := hHeld'
              clear hHeld'
              clear hK K
              try simp only [Act.put, List.getElem_toArray, List.getElem_cons_succ, List.getElem_cons_zero, List.setIfInBounds_toArray, List.set_cons_zero, List.set_cons_succ]
              refine wpAnyH_ready (rs := [7]) (by kernel_rfl) (by simp) ?_
              refine AllReadyH.cons rfl (fun K hK => ?_) ?_
              · go_simp
                have na := new_val w6 (.cells #[.int .i64 (x : Int)] 3)
                have LC : Hid ((w6.alloc (.cells #[.int .i64 (x : Int)] 3)).cell? ((⟨w6.heap.size, 0, none⟩ : Addr).add 0) = some (.int .i64 (x : Int))) := Lib.hid (lit_cell _ _)
                have RB := Lib.hid (RA.out.next na)
                refine hK.out _ _ (holdV hHeld na) (fun hHeld' => ?_)
                clear hHeld
                have hHeld := hHeld'
                clear hHeld'
                clear na
                generalize w6.alloc (.cells #[.int .i64 (x : Int)] 3) = w7 at hHeld RB LC ⊢
                generalize w6.heap.size = gl at LC ⊢
                clear hK K
                try simp only [Act.put, List.getElem_toArray, List.getElem_cons_succ, List.getElem_cons_zero, List.setIfInBounds_toArray, List.set_cons_zero, List.set_cons_succ]
                refine wpAnyH_ready (rs := [8]) (by kernel_rfl) (by simp) ?_
                refine AllReadyH.cons rfl (fun K hK => ?_) ?_
                · refine app2_step rfl (.tmp 68) (.tmp 74) rfl w7 w4.heap.size x sv ((unL a b v).map (szU a b l1 l2)) ⟨gl, 0, none⟩ rfl rfl RB.out.two.b LC.out hHeld.2.2.size (by have := HLS.out; omega) ?_
                  intro v8 w8 hO hg hat
                  obtain ⟨A8, m8, c8, rfl⟩ : ∃ A m c, v8 = .slice A m c := by obtain ⟨A, c, e⟩ := row_form hO; exact ⟨A, _, c, e⟩
                  have RT := Lib.hid (RB.out.pushS HBU.out hO hg hat)
                  refine hK.out _ _ (holdV_grown hHeld (by have := z4.out; omega) (by have := HGS1.out; have := z4.out; omega) RB.out.two.b hg) (fun hHeld' => ?_)
                  clear hHeld
                  have hHeld := hHeld'
                  clear hHeld'
                  clear hO hg hat
                  clear hK K
                  try simp only [Act.put, List.getElem_toArray, List.getElem_cons_succ, List.getElem_cons_zero, List.setIfInBounds_toArray, List.set_cons_zero, List.set_cons_succ]
                  refine wpAnyH_take (i := 9) (v := ?v4007) rfl (by kernel_rfl) (by kernel_rfl) (by kernel_rfl) (fun _ _ _ h => h) (Or.inl ⟨by rfl, ?y4007⟩) (by assumption) ?r4007
                  case y4007 => ((intro w hSw; (try dsimp only at hSw); go_simp); try with_reducible rfl)
                  try simp only [Act.put, List.getElem_toArray, List.getElem_cons_succ, List.getElem_cons_zero, List.setIfInBounds_toArray, List.set_cons_zero, List.set_cons_succ]
                  refine wpAnyH_ready (rs := [10]) (by kernel_rfl) (by simp) ?_
                  refine AllReadyH.cons rfl (fun K hK => ?_) ?_
                  · have ac : w8.cell? ⟨w.heap.size + 1 + 1 + 1, 0, none⟩ = some sv := by rw [cell_of_row _ _ _ _ _ _ RT.out.row]; rfl
                    have af : w8.frozen? ⟨w.heap.size + 1 + 1 + 1, 0, none⟩ = false := frozen_of_row _ _ _ _ _ RT.out.row
                    go_simp
                    clear ac af
                    have RN := Lib.hid (RT.out.fin HBU.out)
                    refine hK.out _ _ (holdV_set hHeld (by omega) (by have := HGS1.out; omega) 0 (.slice A8 m8 c8)) (fun hHeld' => ?_)
                    clear hHeld
                    have hHeld := hHeld'
                    clear hHeld'
                    clear hK K
                    try simp only [Act.put, List.getElem_toArray, List.getElem_cons_succ, List.getElem_cons_zero, List.setIfInBounds_toArray, List.set_cons_zero, List.set_cons_succ]
                    refine wpAnyH_done (by kernel_rfl) ?_ _
                    refine NoPanic.normal ?_
                    clear hHeld
                    rw [← HUL.out, ← HSL.out] at RN
                    generalize w8.setCell ⟨w.heap.size + 1 + 1 + 1, 0, none⟩ (.slice A8 m8 c8) = w9 at RN ⊢
                    go_wp2_with fail
                    go_roundw
                    case rel => exact ⟨v + 1, _, by omega, by go_num, RN.out, HGN.out⟩
                    case measure => simp [intOf]; omega
                  exact AllReadyH.nil
                exact AllReadyH.nil
              exact AllReadyH.nil
            refine AllReadyH.cons rfl (fun K hK => ?_) ?_
            · go_simp
              have na := new_val w6 (.cells #[.int .i64 (x : Int)] 3)
              have LC : Hid ((w6.alloc (.cells #[.int .i64 (x : Int)] 3)).cell? ((⟨w6.heap.size, 0, none⟩ : Addr).add 0) = some (.int .i64 (x : Int))) := Lib.hid (lit_cell _ _)
              have RB := Lib.hid (RA.out.next na)
              refine hK.out _ _ (holdV hHeld na) (fun hHeld' => ?_)
              clear hHeld
              have hHeld := hHeld'
              clear hHeld'
              clear na
              generalize w6.alloc (.cells #[.int .i64 (x : Int)] 3) = w7 at hHeld RB LC ⊢
              generalize w6.heap.size = gl at LC ⊢
              clear hK K
              try simp only [Act.put, List.getElem_toArray, List.getElem_cons_succ, List.getElem_cons_zero, List.setIfInBounds_toArray, List.set_cons_zero, List.set_cons_succ]
              refine wpAnyH_ready (rs := [1]) (by kernel_rfl) (by simp) ?_
              refine AllReadyH.cons rfl (fun K hK => ?_) ?_
              · have ac : w7.cell? ⟨w.heap.size + 1 + 1 + 1, 0, none⟩ = some sv := by rw [cell_of_row _ _ _ _ _ _ RB.out.row]; rfl
                go_simp
                clear ac
                refine hK.out _ _ (hHeld) (fun hHeld' => ?_)
                clear hHeld
                have hHeld := hHeld'
                clear hHeld'
                clear hK K
                try simp only [Act.put, List.getElem_toArray, List.getElem_cons_succ, List.getElem_cons_zero, List.setIfInBounds_toArray, List.set_cons_zero, List.set_cons_succ]
                refine wpAnyH_ready (rs := [8]) (by kernel_rfl) (by simp) ?_
                refine AllReadyH.cons rfl (fun K hK => ?_) ?_
                · refine app2_step rfl (.tmp 68) (.tmp 74) rfl w7 w4.heap.size x sv ((unL a b v).map (szU a b l1 l2)) ⟨gl, 0, none⟩ rfl rfl RB.out.two.b LC.out hHeld.2.2.size (by have := HLS.out; omega) ?_
                  intro v8 w8 hO hg hat
                  obtain ⟨A8, m8, c8, rfl⟩ : ∃ A m c, v8 = .slice A m c := by obtain ⟨A, c, e⟩ := row_form hO; exact ⟨A, _, c, e⟩
                  have RT := Lib.hid (RB.out.pushS HBU.out hO hg hat)
                  refine hK.out _ _ (holdV_grown hHeld (by have := z4.out; omega) (by have := HGS1.out; have := z4.out; omega) RB.out.two.b hg) (fun hHeld' => ?_)
                  clear hHeld
                  have hHeld := hHeld'
                  clear hHeld'
                  clear hO hg hat
                  clear hK K
                  try simp only [Act.put, List.getElem_toArray, List.getElem_cons_succ, List.getElem_cons_zero, List.setIfInBounds_toArray, List.set_cons_zero, List.set_cons_succ]
                  refine wpAnyH_take (i := 9) (v := ?v4008) rfl (by kernel_rfl) (by kernel_rfl) (by kernel_rfl) (fun _ _ _ h => h) (Or.inl ⟨by rfl, ?y4008⟩) (by assumption) ?r4008
                  case y4008 => ((intro w hSw; (try dsimp only at hSw); go_simp); try with_reducible rfl)
                  try simp only [Act.put, List.getElem_toArray, List.getElem_cons_succ, List.getElem_cons_zero, List.setIfInBounds_toArray, List.set_cons_zero, List.set_cons_succ]
                  refine wpAnyH_ready (rs := [10]) (by kernel_rfl) (by simp) ?_
                  refine AllReadyH.cons rfl (fun K hK => ?_) ?_
                  · have ac : w8.cell? ⟨w.heap.size + 1 + 1 + 1, 0, none⟩ = some sv := by rw [cell_of_row _ _ _ _ _ _ RT.out.row]; rfl
                    have af : w8.frozen? ⟨w.heap.size + 1 + 1 + 1, 0, none⟩ = false := frozen_of_row _ _ _ _ _ RT.out.row
                    go_simp
                    clear ac af
                    have RN := Lib.hid (RT.out.fin HBU.out)
                    refine hK.out _ _ (holdV_set hHeld (by omega) (by have := HGS1.out; omega) 0 (.slice A8 m8 c8)) (fun hHeld' => ?_)
                    clear hHeld
                    have hHeld := hHeld'
                    clear hHeld'
                    clear hK K
                    try simp only [Act.put, List.getElem_toArray, List.getElem_cons_succ, List.getElem_cons_zero, List.setIfInBounds_toArray, List.set_cons_zero, List.set_cons_succ]
                    refine wpAnyH_done (by kernel_rfl) ?_ _
                    refine NoPanic.normal ?_
                    clear hHeld
                    rw [← HUL.out, ← HSL.out] at RN
                    generalize w8.setCell ⟨w.heap.size + 1 + 1 + 1, 0, none⟩ (.slice A8 m8 c8) = w9 at RN ⊢
                    go_wp2_with fail
                    go_roundw
                    case rel => exact ⟨v + 1, _, by omega, by go_num, RN.out, HGN.out⟩
                    case measure => simp [intOf]; omega
                  exact AllReadyH.nil
                exact AllReadyH.nil
              exact AllReadyH.nil
            exact AllReadyH.nil
          · have d : ((x : Int) != (y : Int)) = true := by simp; omega
            have hno : AgB a b l1 l2 = false := Bool.eq_false_iff.2 fun h => he (by
              obtain ⟨q1, q2, q3, q4, q5⟩ := HIJ.out
              rw [← q4, ← q5]; exact (agB_iff RB1.out).1 h i j q1 q2 q3)
            have HNO := Lib.hid hno
            clear hno he HXY HIJ HUL HSL
            have Y0 : Hid (wD.heap[w.heap.size + 1 + 1]? = _) := Lib.hid ((RX.out.kept.block _ (by have := z4.out; omega) (by omega) (by omega)).trans X2.out)
            obtain ⟨A9, m9, c9, rfl⟩ : ∃ A m c, sv = .slice A m c := by obtain ⟨A, c, e⟩ := row_form RX.out.two.b; exact ⟨A, _, c, e⟩
            have u0 : wD.cell? ⟨w.heap.size + 1 + 1 + 1, 0, none⟩ = some (.slice A9 m9 c9) := by rw [cell_of_row _ _ _ _ _ _ RX.out.row]; rfl
            have u1 : wD.cell? ⟨w.heap.size + 1 + 1 + 1, 1, none⟩ = some (.int .i64 k) := by rw [cell_of_row _ _ _ _ _ _ RX.out.row]; rfl
            have u2 : wD.cell? ⟨w.heap.size + 1 + 1 + 1, 2, none⟩ = some (.slice none 0 0) := by rw [cell_of_row _ _ _ _ _ _ RX.out.row]; rfl
            go_wp2_with ((with_reducible show wpList _ _ _ (Oper.mk none (.store 30 _ _) _ _ _ _ :: _) _ _); refine wpList_store_row rfl 30 (.tmp 8) (.tmp 60) rfl (w.heap.size + 1 + 1) #[.slice A9 m9 c9, .int .i64 k, .slice none 0 0] rfl rfl 30 #[.slice none 0 0, .int .i64 0, .slice none 0 0] Y0.out (by kernel_rfl) rfl (by simp [Value.oneCell']) ?_)
            have hrow := setRow_heap wD (w.heap.size + 1 + 1) _ #[.slice A9 m9 c9, .int .i64 k, .slice none 0 0] _ _ Y0.out
            refine bodyPost_ret (results_rt3 rfl _ _ (w.heap.size + 1 + 1) _ _ _ rfl hrow) rfl (show RjPost w a b V l1 l2 k z1 z2 m P _ _ from ⟨.inr ⟨HNO.out, _, _, _, rfl⟩, below_setRow (RX.out.kept.below B4.out (by have := z4.out; omega) (by have := z4.out; omega) (by have := z4.out; omega)) (by omega) _⟩)
        · skip
          rw [HA.out] at hi
          obtain ⟨g1, o1, rfl, hc1⟩ := (I1.out.below B4.out (Nat.le_refl _)).at_ (i := i) (by rw [HL1.out]; omega)
          have HGS1 : Hid (g1 < w.heap.size) := Lib.hid (by
            rcases I1.out with h0 | ⟨g', o', e', hg', _⟩
            · have := HL1.out; rw [h0] at this; simp at this; omega
            · injection e' with e'; injection e' with e1 e2; subst e1; exact hg')
          obtain ⟨x, hx⟩ : ∃ q, nth l1 i = q := ⟨_, rfl⟩
          rw [hx] at hc1
          have HC1 := Lib.hid hc1
          clear hc1
          have p1 : (i : Int) < (n1 : Int) := by omega
          have p1' : (0 : Int) ≤ (i : Int) := by omega
          have p1'' : ¬ ((i : Int) < 0) := by omega
          rw [f1] at C1
          rw [f2] at C2
          have HUL : Hid (unL a b (v + 1) = unL a b v ++ [v]) := Lib.hid (by rw [HUN.out, hca, hcb]; simp)
          have HSL : Hid ((unL a b (v + 1)).map (szU a b l1 l2) = (unL a b v).map (szU a b l1 l2) ++ [x]) := Lib.hid (by rw [HUL.out, List.map_append, List.map_cons, List.map_nil, szU, hca]; simp [hni, hx])
          have HGN := Lib.hid (agX_step HG.out fun i' j' h1 h2 e1 e2 => (not_at hcb h2 e2).elim)
          clear hca hcb f1 f2 ei hni hx hi
          go_wp2_with fail
          refine C1.out.mono ?_
          rintro e w5 ⟨rfl, rfl⟩
          go_wp2_with fail
          refine C2.out.mono ?_
          rintro e w5 ⟨rfl, rfl⟩
          go_upto_region 8 with fail
          have RX := Lib.hid (HM.out.next ((Below.refl wr.heap.size wr).drew))
          refine wp_region_noPanic ?_
          refine wp_region_held_drew (S := fun _ => True) (by kernel_rfl) trivial (fun hHeld => ?_)
          generalize wr.drew = wD at RX ⊢
          refine wpAnyH_take (i := 0) (v := ?v2001) rfl (by kernel_rfl) (by kernel_rfl) (by kernel_rfl) (fun _ _ _ h => h) (Or.inl ⟨by rfl, ?y2001⟩) (by assumption) ?r2001
          case y2001 => ((intro w hSw; (try dsimp only at hSw); go_simp); try with_reducible rfl)
          try simp only [Act.put, List.getElem_toArray, List.getElem_cons_zero, List.setIfInBounds_toArray, List.set_cons_zero, List.set_cons_succ]
          refine wpAnyH_take (i := 1) (v := ?v2002) rfl (by kernel_rfl) (by kernel_rfl) (by kernel_rfl) (fun _ _ _ h => h) (Or.inl ⟨by rfl, ?y2002⟩) (by assumption) ?r2002
          case y2002 => ((intro w hSw; (try dsimp only at hSw); go_simp); try with_reducible rfl)
          try simp only [Act.put, List.getElem_toArray, List.getElem_cons_succ, List.getElem_cons_zero, List.setIfInBounds_toArray, List.set_cons_zero, List.set_cons_succ]
          refine wpAnyH_take (i := 2) (v := ?v2003) rfl (by kernel_rfl) (by kernel_rfl) (by kernel_rfl) (fun _ _ _ h => h) (Or.inl ⟨by rfl, ?y2003⟩) (by assumption) ?r2003
          case y2003 => ((intro w hSw; (try dsimp only at hSw); go_simp); try with_reducible rfl)
          try simp only [Act.put, List.getElem_toArray, List.getElem_cons_succ, List.getElem_cons_zero, List.setIfInBounds_toArray, List.set_cons_zero, List.set_cons_succ]
          refine wpAnyH_take (i := 3) (v := ?v2004) rfl (by kernel_rfl) (by kernel_rfl) (by kernel_rfl) (fun _ _ _ h => h) (Or.inl ⟨by rfl, ?y2004⟩) (by assumption) ?r2004
          case y2004 => ((intro w hSw; (try dsimp only at hSw); go_simp); try with_reducible rfl)
          try simp only [Act.put, List.getElem_toArray, List.getElem_cons_succ, List.getElem_cons_zero, List.setIfInBounds_toArray, List.set_cons_zero, List.set_cons_succ]
          refine wpAnyH_take (i := 4) (v := ?v2005) rfl (by kernel_rfl) (by kernel_rfl) (by kernel_rfl) (fun _ _ _ h => h) (Or.inl ⟨by rfl, ?y2005⟩) (by assumption) ?r2005
          case y2005 => ((intro w hSw; (try dsimp only at hSw); go_simp); try with_reducible rfl)
          try simp only [Act.put, List.getElem_toArray, List.getElem_cons_succ, List.getElem_cons_zero, List.setIfInBounds_toArray, List.set_cons_zero, List.set_cons_succ]
          refine wpAnyH_take (i := 5) (v := ?v2006) rfl (by kernel_rfl) (by kernel_rfl) (by kernel_rfl) (fun _ _ _ h => h) (Or.inl ⟨by rfl, ?y2006⟩) (by assumption) ?r2006
          case y2006 => ((intro w hSw; (try dsimp only at hSw); go_simp); try with_reducible rfl)
          try simp only [Act.put, List.getElem_toArray, List.getElem_cons_succ, List.getElem_cons_zero, List.setIfInBounds_toArray, List.set_cons_zero, List.set_cons_succ]
          refine wpAnyH_take (i := 6) (v := ?v2007) rfl (by kernel_rfl) (by kernel_rfl) (by kernel_rfl) (fun _ _ _ h => h) (Or.inl ⟨by rfl, ?y2007⟩) (by assumption) ?r2007
          case y2007 => ((intro w hSw; (try dsimp only at hSw); go_simp); try with_reducible rfl)
          try simp only [Act.put, List.getElem_toArray, List.getElem_cons_succ, List.getElem_cons_zero, List.setIfInBounds_toArray, List.set_cons_zero, List.set_cons_succ]
          refine wpAnyH_take (i := 7) (v := undef) rfl (by kernel_rfl) (by kernel_rfl) (by kernel_rfl) (fun _ _ _ h => h) (Or.inr ⟨by rfl, rfl⟩) (by assumption) ?r2008
          try simp only [Act.put, List.getElem_toArray, List.getElem_cons_succ, List.getElem_cons_zero, List.setIfInBounds_toArray, List.set_cons_zero, List.set_cons_succ]
          refine wpAnyH_take (i := 8) (v := undef) rfl (by kernel_rfl) (by kernel_rfl) (by kernel_rfl) (fun _ _ _ h => h) (Or.inr ⟨by rfl, rfl⟩) (by assumption) ?r2009
          try simp only [Act.put, List.getElem_toArray, List.getElem_cons_succ, List.getElem_cons_zero, List.setIfInBounds_toArray, List.set_cons_zero, List.set_cons_succ]
          refine wpAnyH_take (i := 9) (v := undef) rfl (by kernel_rfl) (by kernel_rfl) (by kernel_rfl) (fun _ _ _ h => h) (Or.inr ⟨by rfl, rfl⟩) (by assumption) ?r2010
          try simp only [Act.put, List.getElem_toArray, List.getElem_cons_succ, List.getElem_cons_zero, List.setIfInBounds_toArray, List.set_cons_zero, List.set_cons_succ]
          refine wpAnyH_take (i := 10) (v := undef) rfl (by kernel_rfl) (by kernel_rfl) (by kernel_rfl) (fun _ _ _ h => h) (Or.inr ⟨by rfl, rfl⟩) (by assumption) ?r2011
          try simp only [Act.put, List.getElem_toArray, List.getElem_cons_succ, List.getElem_cons_zero, List.setIfInBounds_toArray, List.set_cons_zero, List.set_cons_succ]
          refine wpAnyH_take (i := 11) (v := undef) rfl (by kernel_rfl) (by kernel_rfl) (by kernel_rfl) (fun _ _ _ h => h) (Or.inr ⟨by rfl, rfl⟩) (by assumption) ?r2012
          try simp only [Act.put, List.getElem_toArray, List.getElem_cons_succ, List.getElem_cons_zero, List.setIfInBounds_toArray, List.set_cons_zero, List.set_cons_succ]
          refine wpAnyH_take (i := 12) (v := undef) rfl (by kernel_rfl) (by kernel_rfl) (by kernel_rfl) (fun _ _ _ h => h) (Or.inr ⟨by rfl, rfl⟩) (by assumption) ?r2013
          try simp only [Act.put, List.getElem_toArray, List.getElem_cons_succ, List.getElem_cons_zero, List.setIfInBounds_toArray, List.set_cons_zero, List.set_cons_succ]
          refine wpAnyH_take (i := 13) (v := undef) rfl (by kernel_rfl) (by kernel_rfl) (by kernel_rfl) (fun _ _ _ h => h) (Or.inr ⟨by rfl, rfl⟩) (by assumption) ?r2014
          try simp only [Act.put, List.getElem_toArray, List.getElem_cons_succ, List.getElem_cons_zero, List.setIfInBounds_toArray, List.set_cons_zero, List.set_cons_succ]
          refine wpAnyH_take (i := 14) (v := undef) rfl (by kernel_rfl) (by kernel_rfl) (by kernel_rfl) (fun _ _ _ h => h) (Or.inr ⟨by rfl, rfl⟩) (by assumption) ?r2015
          try simp only [Act.put, List.getElem_toArray, List.getElem_cons_succ, List.getElem_cons_zero, List.setIfInBounds_toArray, List.set_cons_zero, List.set_cons_succ]
          refine wpAnyH_take (i := 15) (v := undef) rfl (by kernel_rfl) (by kernel_rfl) (by kernel_rfl) (fun _ _ _ h => h) (Or.inr ⟨by rfl, rfl⟩) (by assumption) ?r2016
          try simp only [Act.put, List.getElem_toArray, List.getElem_cons_succ, List.getElem_cons_zero, List.setIfInBounds_toArray, List.set_cons_zero, List.set_cons_succ]
          refine wpAnyH_take (i := 16) (v := undef) rfl (by kernel_rfl) (by kernel_rfl) (by kernel_rfl) (fun _ _ _ h => h) (Or.inr ⟨by rfl, rfl⟩) (by assumption) ?r2017
          try simp only [Act.put, List.getElem_toArray, List.getElem_cons_succ, List.getElem_cons_zero, List.setIfInBounds_toArray, List.set_cons_zero, List.set_cons_succ]
          refine wpAnyH_take (i := 17) (v := undef) rfl (by kernel_rfl) (by kernel_rfl) (by kernel_rfl) (fun _ _ _ h => h) (Or.inr ⟨by rfl, rfl⟩) (by assumption) ?r2018
          try simp only [Act.put, List.getElem_toArray, List.getElem_cons_succ, List.getElem_cons_zero, List.setIfInBounds_toArray, List.set_cons_zero, List.set_cons_succ]
          refine wpAnyH_take (i := 18) (v := ?v2019) rfl (by kernel_rfl) (by kernel_rfl) (by kernel_rfl) (fun _ _ _ h => h) (Or.inl ⟨by rfl, ?y2019⟩) (by assumption) ?r2019
          case y2019 => ((intro w hSw; (try dsimp only at hSw); go_simp); try with_reducible rfl)
          try simp only [Act.put, List.getElem_toArray, List.getElem_cons_succ, List.getElem_cons_zero, List.setIfInBounds_toArray, List.set_cons_zero, List.set_cons_succ]
          refine wpAnyH_done (by kernel_rfl) ?_ _
          refine NoPanic.normal ?_
          clear hHeld
          go_upto_region 12 with (at_builtin; refine app2_own rfl (.tmp 61) (.tmp 63) rfl _ w4.heap.size v u11 (unL a b v) ⟨_, 0, none⟩ rfl rfl (RX.out.two.a.below (new_val _ _) (Nat.le_refl _)) (lit_cell _ _) (Nat.le_trans RX.out.kept.size (new_val _ _).size) (by have := HLU.out; omega) ?_; intro v5 w5 hO hg hat; have RD := Lib.hid ((RX.out.next (new_val _ _)).pushV HBU.out hO hg hat); clear hO hg hat)
          have HV : Hid (HoldV w4 (w.heap.size) (w.heap.size + 1 + 1 + 1) n1 cs1 g1 o1 i x w5) := Lib.hid ⟨RD.out.cell (by have := z4.out; omega) (by omega) (by rw [cell_of_row _ _ _ _ _ _ X0.out]; rfl), RD.out.cell (by have := HGS1.out; have := z4.out; omega) (by have := HGS1.out; omega) HC1.out, RD.out.kept⟩
          refine wp_region_noPanic ?_
          refine wp_region_held_drew (S := fun W => HoldV w4 (w.heap.size) (w.heap.size + 1 + 1 + 1) n1 cs1 g1 o1 i x W) (by kernel_rfl) (holdV HV.out ((Below.refl _ _).drew)) (fun hHeld => ?_)
          have RA := Lib.hid (RD.out.next ((Below.refl w5.heap.size w5).drew))
          clear RD
          generalize w5.drew = w6 at hHeld RA ⊢
          refine wpAnyH_take (i := 0) (v := ?v5001) rfl (by kernel_rfl) (by kernel_rfl) (by kernel_rfl) (fun _ _ _ h => h) (Or.inl ⟨by rfl, ?y5001⟩) (by assumption) ?r5001
          case y5001 => ((intro w hSw; (try dsimp only at hSw); go_simp); try with_reducible rfl)
          try simp only [Act.put, List.getElem_toArray, List.getElem_cons_zero, List.setIfInBounds_toArray, List.set_cons_zero, List.set_cons_succ]
          refine wpAnyH_take (i := 2) (v := ?v5002) rfl (by kernel_rfl) (by kernel_rfl) (by kernel_rfl) (fun _ _ _ h => h) (Or.inl ⟨by rfl, ?y5002⟩) (by assumption) ?r5002
          case y5002 => ((intro w hSw; (try dsimp only at hSw); go_simp); try with_reducible rfl)
          try simp only [Act.put, List.getElem_toArray, List.getElem_cons_succ, List.getElem_cons_zero, List.setIfInBounds_toArray, List.set_cons_zero, List.set_cons_succ]
          refine wpAnyH_take (i := 3) (v := ?v5003) rfl (by kernel_rfl) (by kernel_rfl) (by kernel_rfl) (fun _ _ _ h => h) (Or.inl ⟨by rfl, ?y5003⟩) (by assumption) ?r5003
          case y5003 => ((intro w hSw; (try dsimp only at hSw); go_simp); try with_reducible rfl)
          try simp only [Act.put, List.getElem_toArray, List.getElem_cons_succ, List.getElem_cons_zero, List.setIfInBounds_toArray, List.set_cons_zero, List.set_cons_succ]
          refine wpAnyH_take (i := 4) (v := ?v5004) rfl (by kernel_rfl) (by kernel_rfl) (by kernel_rfl) (fun _ _ _ h => h) (Or.inl ⟨by rfl, ?y5004⟩) (by assumption) ?r5004
          case y5004 => ((intro w hSw; (try dsimp only at hSw); go_simp); try with_reducible rfl)
          try simp only [Act.put, List.getElem_toArray, List.getElem_cons_succ, List.getElem_cons_zero, List.setIfInBounds_toArray, List.set_cons_zero, List.set_cons_succ]
          refine wpAnyH_take (i := 5) (v := ?v5005) rfl (by kernel_rfl) (by kernel_rfl) (by kernel_rfl) (fun _ _ _ h => h) (Or.inl ⟨by rfl, ?y5005⟩) (by assumption) ?r5005
          case y5005 => ((intro w hSw; (try dsimp only at hSw); go_simp); try with_reducible rfl)
          try simp only [Act.put, List.getElem_toArray, List.getElem_cons_succ, List.getElem_cons_zero, List.setIfInBounds_toArray, List.set_cons_zero, List.set_cons_succ]
          refine wpAnyH_take (i := 6) (v := ?v5006) rfl (by kernel_rfl) (by kernel_rfl) (by kernel_rfl) (fun _ _ _ h => h) (Or.inl ⟨by rfl, ?y5006⟩) (by assumption) ?r5006
          case y5006 => ((intro w hSw; (try dsimp only at hSw); go_simp); try with_reducible rfl)
          try simp only [Act.put, List.getElem_toArray, List.getElem_cons_succ, List.getElem_cons_zero, List.setIfInBounds_toArray, List.set_cons_zero, List.set_cons_succ]
          refine wpAnyH_ready (rs := [1, 7]) (by kernel_rfl) (by simp) ?_
          refine AllReadyH.cons rfl (fun K hK => ?_) ?_
          · have ac : w6.cell? ⟨w.heap.size + 1 + 1 + 1, 0, none⟩ = some sv := by rw [cell_of_row _ _ _ _ _ _ RA.out.row]; rfl
            go_simp
            clear ac
            refine hK.out _ _ (hHeld) (fun hHeld' => ?_)
            clear hHeld
            have hHeld := hHeld'
            clear hHeld'
            clear hK K
            try simp only [Act.put, List.getElem_toArray, List.getElem_cons_succ, List.getElem_cons_zero, List.setIfInBounds_toArray, List.set_cons_zero, List.set_cons_succ]
            refine wpAnyH_ready (rs := [7]) (by kernel_rfl) (by simp) ?_
            refine AllReadyH.cons rfl (fun K hK => ?_) ?_
            · go_simp
              have na := new_val w6 (.cells #[.int .i64 (x : Int)] 3)
              have LC : Hid ((w6.alloc (.cells #[.int .i64 (x : Int)] 3)).cell? ((⟨w6.heap.size, 0, none⟩ : Addr).add 0) = some (.int .i64 (x : Int))) := Lib.hid (lit_cell _ _)
              have RB := Lib.hid (RA.out.next na)
              refine hK.out _ _ (holdV hHeld na) (fun hHeld' => ?_)
              clear hHeld
              have hHeld := hHeld'
              clear hHeld'
              clear na
              generalize w6.alloc (.cells #[.int .i64 (x : Int)] 3) = w7 at hHeld RB LC ⊢
              generalize w6.heap.size = gl at LC ⊢
              clear hK K
              try simp only [Act.put, List.getElem_toArray, List.getElem_cons_succ, List.getElem_cons_zero, List.setIfInBounds_toArray, List.set_cons_zero, List.set_cons_succ]
              refine wpAnyH_ready (rs := [8]) (by kernel_rfl) (by simp) ?_
              refine AllReadyH.cons rfl (fun K hK => ?_) ?_
              · refine app2_step rfl (.tmp 68) (.tmp 74) rfl w7 w4.heap.size x sv ((unL a b v).map (szU a b l1 l2)) ⟨gl, 0, none⟩ rfl rfl RB.out.two.b LC.out hHeld.2.2.size (by have := HLS.out; omega) ?_
                intro v8 w8 hO hg hat
                obtain ⟨A8, m8, c8, rfl⟩ : ∃ A m c, v8 = .slice A m c := by obtain ⟨A, c, e⟩ := row_form hO; exact ⟨A, _, c, e⟩
                have RT := Lib.hid (RB.out.pushS HBU.out hO hg hat)
                refine hK.out _ _ (holdV_grown hHeld (by have := z4.out; omega) (by have := HGS1.out; have := z4.out; omega) RB.out.two.b hg) (fun hHeld' => ?_)
                clear hHeld
                have hHeld := hHeld'
                clear hHeld'
                clear hO hg hat
                clear hK K
                try simp only [Act.put, List.getElem_toArray, List.getElem_cons_succ, List.getElem_cons_zero, List.setIfInBounds_toArray, List.set_cons_zero, List.set_cons_succ]
                refine wpAnyH_take (i := 9) (v := ?v5007) rfl (by kernel_rfl) (by kernel_rfl) (by kernel_rfl) (fun _ _ _ h => h) (Or.inl ⟨by rfl, ?y5007⟩) (by assumption) ?r5007
                case y5007 => ((intro w hSw; (try dsimp only at hSw); go_simp); try with_reducible rfl)
                try simp only [Act.put, List.getElem_toArray, List.getElem_cons_succ, List.getElem_cons_zero, List.setIfInBounds_toArray, List.set_cons_zero, List.set_cons_succ]
                refine wpAnyH_ready (rs := [10]) (by kernel_rfl) (by simp) ?_
                refine AllReadyH.cons rfl (fun K hK => ?_) ?_
                · have ac : w8.cell? ⟨w.heap.size + 1 + 1 + 1, 0, none⟩ = some sv := by rw [cell_of_row _ _ _ _ _ _ RT.out.row]; rfl
                  have af : w8.frozen? ⟨w.heap.size + 1 + 1 + 1, 0, none⟩ = false := frozen_of_row _ _ _ _ _ RT.out.row
                  go_simp
                  clear ac af
                  have RN := Lib.hid (RT.out.fin HBU.out)
                  refine hK.out _ _ (holdV_set hHeld (by omega) (by have := HGS1.out; omega) 0 (.slice A8 m8 c8)) (fun hHeld' => ?_)
                  clear hHeld
                  have hHeld := hHeld'
                  clear hHeld'
                  clear hK K
                  try simp only [Act.put, List.getElem_toArray, List.getElem_cons_succ, List.getElem_cons_zero, List.setIfInBounds_toArray, List.set_cons_zero, List.set_cons_succ]
                  refine wpAnyH_done (by kernel_rfl) ?_ _
                  refine NoPanic.normal ?_
                  clear hHeld
                  rw [← HUL.out, ← HSL.out] at RN
                  generalize w8.setCell ⟨w.heap.size + 1 + 1 + 1, 0, none⟩ (.slice A8 m8 c8) = w9 at RN ⊢
                  go_wp2_with fail
                  go_roundw
                  case rel => exact ⟨v + 1, _, by omega, by go_num, RN.out, HGN.out⟩
                  case measure => simp [intOf]; omega
                exact AllReadyH.nil
              exact AllReadyH.nil
            exact AllReadyH.nil
          refine AllReadyH.cons rfl (fun K hK => ?_) ?_
          · go_simp
            have na := new_val w6 (.cells #[.int .i64 (x : Int)] 3)
            have LC : Hid ((w6.alloc (.cells #[.int .i64 (x : Int)] 3)).cell? ((⟨w6.heap.size, 0, none⟩ : Addr).add 0) = some (.int .i64 (x : Int))) := Lib.hid (lit_cell _ _)
            have RB := Lib.hid (RA.out.next na)
            refine hK.out _ _ (holdV hHeld na) (fun hHeld' => ?_)
            clear hHeld
            have hHeld := hHeld'
            clear hHeld'
            clear na
            generalize w6.alloc (.cells #[.int .i64 (x : Int)] 3) = w7 at hHeld RB LC ⊢
            generalize w6.heap.size = gl at LC ⊢
            clear hK K
            try simp only [Act.put, List.getElem_toArray, List.getElem_cons_succ, List.getElem_cons_zero, List.setIfInBounds_toArray, List.set_cons_zero, List.set_cons_succ]
            refine wpAnyH_ready (rs := [1]) (by kernel_rfl) (by simp) ?_
            refine AllReadyH.cons rfl (fun K hK => ?_) ?_
            · have ac : w7.cell? ⟨w.heap.size + 1 + 1 + 1, 0, none⟩ = some sv := by rw [cell_of_row _ _ _ _ _ _ RB.out.row]; rfl
              go_simp
              clear ac
              refine hK.out _ _ (hHeld) (fun hHeld' => ?_)
              clear hHeld
              have hHeld := hHeld'
              clear hHeld'
              clear hK K
              try simp only [Act.put, List.getElem_toArray, List.getElem_cons_succ, List.getElem_cons_zero, List.setIfInBounds_toArray, List.set_cons_zero, List.set_cons_succ]
              refine wpAnyH_ready (rs := [8]) (by kernel_rfl) (by simp) ?_
              refine AllReadyH.cons rfl (fun K hK => ?_) ?_
              · refine app2_step rfl (.tmp 68) (.tmp 74) rfl w7 w4.heap.size x sv ((unL a b v).map (szU a b l1 l2)) ⟨gl, 0, none⟩ rfl rfl RB.out.two.b LC.out hHeld.2.2.size (by have := HLS.out; omega) ?_
                intro v8 w8 hO hg hat
                obtain ⟨A8, m8, c8, rfl⟩ : ∃ A m c, v8 = .slice A m c := by obtain ⟨A, c, e⟩ := row_form hO; exact ⟨A, _, c, e⟩
                have RT := Lib.hid (RB.out.pushS HBU.out hO hg hat)
                refine hK.out _ _ (holdV_grown hHeld (by have := z4.out; omega) (by have := HGS1.out; have := z4.out; omega) RB.out.two.b hg) (fun hHeld' => ?_)
                clear hHeld
                have hHeld := hHeld'
                clear hHeld'
                clear hO hg hat
                clear hK K
                try simp only [Act.put, List.getElem_toArray, List.getElem_cons_succ, List.getElem_cons_zero, List.setIfInBounds_toArray, List.set_cons_zero, List.set_cons_succ]
                refine wpAnyH_take (i := 9) (v := ?v5008) rfl (by kernel_rfl) (by kernel_rfl) (by kernel_rfl) (fun _ _ _ h => h) (Or.inl ⟨by rfl, ?y5008⟩) (by assumption) ?r5008
                case y5008 => ((intro w hSw; (try dsimp only at hSw); go_simp); try with_reducible rfl)
                try simp only [Act.put, List.getElem_toArray, List.getElem_cons_succ, List.getElem_cons_zero, List.setIfInBounds_toArray, List.set_cons_zero, List.set_cons_succ]
                refine wpAnyH_ready (rs := [10]) (by kernel_rfl) (by simp) ?_
                refine AllReadyH.cons rfl (fun K hK => ?_) ?_
                · have ac : w8.cell? ⟨w.heap.size + 1 + 1 + 1, 0, none⟩ = some sv := by rw [cell_of_row _ _ _ _ _ _ RT.out.row]; rfl
                  have af : w8.frozen? ⟨w.heap.size + 1 + 1 + 1, 0, none⟩ = false := frozen_of_row _ _ _ _ _ RT.out.row
                  go_simp
                  clear ac af
                  have RN := Lib.hid (RT.out.fin HBU.out)
                  refine hK.out _ _ (holdV_set hHeld (by omega) (by have := HGS1.out; omega) 0 (.slice A8 m8 c8)) (fun hHeld' => ?_)
                  clear hHeld
                  have hHeld := hHeld'
                  clear hHeld'
                  clear hK K
                  try simp only [Act.put, List.getElem_toArray, List.getElem_cons_succ, List.getElem_cons_zero, List.setIfInBounds_toArray, List.set_cons_zero, List.set_cons_succ]
                  refine wpAnyH_done (by kernel_rfl) ?_ _
                  refine NoPanic.normal ?_
                  clear hHeld
                  rw [← HUL.out, ← HSL.out] at RN
                  generalize w8.setCell ⟨w.heap.size + 1 + 1 + 1, 0, none⟩ (.slice A8 m8 c8) = w9 at RN ⊢
                  go_wp2_with fail
                  go_roundw
                  case rel => exact ⟨v + 1, _, by omega, by go_num, RN.out, HGN.out⟩
                  case measure => simp [intOf]; omega
                exact AllReadyH.nil
              exact AllReadyH.nil
            exact AllReadyH.nil
          exact AllReadyH.nil
      · rcases fi_cases RB1.out v with ⟨j, hj, ej, f2, hcb, hnj⟩ | ⟨hcb, f2⟩
        · skip
          rw [HB.out] at hj
          obtain ⟨g2, o2, rfl, hc2⟩ := (I2.out.below B4.out (Nat.le_refl _)).at_ (i := j) (by rw [HL2.out]; omega)
          have HGS2 : Hid (g2 < w.heap.size) := Lib.hid (by
            rcases I2.out with h0 | ⟨g', o', e', hg', _⟩
            · have := HL2.out; rw [h0] at this; simp at this; omega
            · injection e' with e'; injection e' with e1 e2; subst e1; exact hg')
          obtain ⟨y, hy⟩ : ∃ q, nth l2 j = q := ⟨_, rfl⟩
          rw [hy] at hc2
          have HC2 := Lib.hid hc2
          clear hc2
          have p2 : (j : Int) < (n2 : Int) := by omega
          have p2' : (0 : Int) ≤ (j : Int) := by omega
          have p2'' : ¬ ((j : Int) < 0) := by omega
          rw [f1] at C1
          rw [f2] at C2
          have HUL : Hid (unL a b (v + 1) = unL a b v ++ [v]) := Lib.hid (by rw [HUN.out, hca, hcb]; simp)
          have HSL : Hid ((unL a b (v + 1)).map (szU a b l1 l2) = (unL a b v).map (szU a b l1 l2) ++ [y]) := Lib.hid (by rw [HUL.out, List.map_append, List.map_cons, List.map_nil, szU, hca]; simp [hnj, hy])
          have HGN := Lib.hid (agX_step HG.out fun i' j' h1 h2 e1 e2 => (not_at hca h1 e1).elim)
          clear hca hcb f1 f2 ej hnj hy hj
          go_wp2_with fail
          refine C1.out.mono ?_
          rintro e w5 ⟨rfl, rfl⟩
          go_wp2_with fail
          refine C2.out.mono ?_
          rintro e w5 ⟨rfl, rfl⟩
          go_upto_region 8 with fail
          have RX := Lib.hid (HM.out.next ((Below.refl wr.heap.size wr).drew))
          refine wp_region_noPanic ?_
          refine wp_region_held_drew (S := fun _ => True) (by kernel_rfl) trivial (fun hHeld => ?_)
          generalize wr.drew = wD at RX ⊢
          refine wpAnyH_take (i := 0) (v := ?v3001) rfl (by kernel_rfl) (by kernel_rfl) (by kernel_rfl) (fun _ _ _ h => h) (Or.inl ⟨by rfl, ?y3001⟩) (by assumption) ?r3001
          case y3001 => ((intro w hSw; (try dsimp only at hSw); go_simp); try with_reducible rfl)
          try simp only [Act.put, List.getElem_toArray, List.getElem_cons_zero, List.setIfInBounds_toArray, List.set_cons_zero, List.set_cons_succ]
          refine wpAnyH_take (i := 1) (v := ?v3002) rfl (by kernel_rfl) (by kernel_rfl) (by kernel_rfl) (fun _ _ _ h => h) (Or.inl ⟨by rfl, ?y3002⟩) (by assumption) ?r3002
          case y3002 => ((intro w hSw; (try dsimp only at hSw); go_simp); try with_reducible rfl)
          try simp only [Act.put, List.getElem_toArray, List.getElem_cons_succ, List.getElem_cons_zero, List.setIfInBounds_toArray, List.set_cons_zero, List.set_cons_succ]
          refine wpAnyH_take (i := 2) (v := ?v3003) rfl (by kernel_rfl) (by kernel_rfl) (by kernel_rfl) (fun _ _ _ h => h) (Or.inl ⟨by rfl, ?y3003⟩) (by assumption) ?r3003
          case y3003 => ((intro w hSw; (try dsimp only at hSw); go_simp); try with_reducible rfl)
          try simp only [Act.put, List.getElem_toArray, List.getElem_cons_succ, List.getElem_cons_zero, List.setIfInBounds_toArray, List.set_cons_zero, List.set_cons_succ]
          refine wpAnyH_take (i := 3) (v := undef) rfl (by kernel_rfl) (by kernel_rfl) (by kernel_rfl) (fun _ _ _ h => h) (Or.inr ⟨by rfl, rfl⟩) (by assumption) ?r3004
          try simp only [Act.put, List.getElem_toArray, List.getElem_cons_succ, List.getElem_cons_zero, List.setIfInBounds_toArray, List.set_cons_zero, List.set_cons_succ]
          refine wpAnyH_take (i := 4) (v := undef) rfl (by kernel_rfl) (by kernel_rfl) (by kernel_rfl) (fun _ _ _ h => h) (Or.inr ⟨by rfl, rfl⟩) (by assumption) ?r3005
          try simp only [Act.put, List.getElem_toArray, List.getElem_cons_succ, List.getElem_cons_zero, List.setIfInBounds_toArray, List.set_cons_zero, List.set_cons_succ]
          refine wpAnyH_take (i := 5) (v := ?v3006) rfl (by kernel_rfl) (by kernel_rfl) (by kernel_rfl) (fun _ _ _ h => h) (Or.inl ⟨by rfl, ?y3006⟩) (by assumption) ?r3006
          case y3006 => ((intro w hSw; (try dsimp only at hSw); go_simp); try with_reducible rfl)
          try simp only [Act.put, List.getElem_toArray, List.getElem_cons_succ, List.getElem_cons_zero, List.setIfInBounds_toArray, List.set_cons_zero, List.set_cons_succ]
          refine wpAnyH_take (i := 6) (v := ?v3007) rfl (by kernel_rfl) (by kernel_rfl) (by kernel_rfl) (fun _ _ _ h => h) (Or.inl ⟨by rfl, ?y3007⟩) (by assumption) ?r3007
          case y3007 => ((intro w hSw; (try dsimp only at hSw); go_simp); try with_reducible rfl)
          try simp only [Act.put, List.getElem_toArray, List.getElem_cons_succ, List.getElem_cons_zero, List.setIfInBounds_toArray, List.set_cons_zero, List.set_cons_succ]
          refine wpAnyH_take (i := 7) (v := undef) rfl (by kernel_rfl) (by kernel_rfl) (by kernel_rfl) (fun _ _ _ h => h) (Or.inr ⟨by rfl, rfl⟩) (by assumption) ?r3008
          try simp only [Act.put, List.getElem_toArray, List.getElem_cons_succ, List.getElem_cons_zero, List.setIfInBounds_toArray, List.set_cons_zero, List.set_cons_succ]
          refine wpAnyH_take (i := 8) (v := undef) rfl (by kernel_rfl) (by kernel_rfl) (by kernel_rfl) (fun _ _ _ h => h) (Or.inr ⟨by rfl, rfl⟩) (by assumption) ?r3009
          try simp only [Act.put, List.getElem_toArray, List.getElem_cons_succ, List.getElem_cons_zero, List.setIfInBounds_toArray, List.set_cons_zero, List.set_cons_succ]
          refine wpAnyH_take (i := 9) (v := undef) rfl (by kernel_rfl) (by kernel_rfl) (by kernel_rfl) (fun _ _ _ h => h) (Or.inr ⟨by rfl, rfl⟩) (by assumption) ?r3010
          try simp only [Act.put, List.getElem_toArray, List.getElem_cons_succ, List.getElem_cons_zero, List.setIfInBounds_toArray, List.set_cons_zero, List.set_cons_succ]
          refine wpAnyH_take (i := 10) (v := undef) rfl (by kernel_rfl) (by kernel_rfl) (by kernel_rfl) (fun _ _ _ h => h) (Or.inr ⟨by rfl, rfl⟩) (by assumption) ?r3011
          try simp only [Act.put, List.getElem_toArray, List.getElem_cons_succ, List.getElem_cons_zero, List.setIfInBounds_toArray, List.set_cons_zero, List.set_cons_succ]
          refine wpAnyH_take (i := 11) (v := undef) rfl (by kernel_rfl) (by kernel_rfl) (by kernel_rfl) (fun _ _ _ h => h) (Or.inr ⟨by rfl, rfl⟩) (by assumption) ?r3012
          try simp only [Act.put, List.getElem_toArray, List.getElem_cons_succ, List.getElem_cons_zero, List.setIfInBounds_toArray, List.set_cons_zero, List.set_cons_succ]
          refine wpAnyH_take (i := 12) (v := undef) rfl (by kernel_rfl) (by kernel_rfl) (by kernel_rfl) (fun _ _ _ h => h) (Or.inr ⟨by rfl, rfl⟩) (by assumption) ?r3013
          try simp only [Act.put, List.getElem_toArray, List.getElem_cons_succ, List.getElem_cons_zero, List.setIfInBounds_toArray, List.set_cons_zero, List.set_cons_succ]
          refine wpAnyH_take (i := 13) (v := undef) rfl (by kernel_rfl) (by kernel_rfl) (by kernel_rfl) (fun _ _ _ h => h) (Or.inr ⟨by rfl, rfl⟩) (by assumption) ?r3014
          try simp only [Act.put, List.getElem_toArray, List.getElem_cons_succ, List.getElem_cons_zero, List.setIfInBounds_toArray, List.set_cons_zero, List.set_cons_succ]
          refine wpAnyH_take (i := 14) (v := undef) rfl (by kernel_rfl) (by kernel_rfl) (by kernel_rfl) (fun _ _ _ h => h) (Or.inr ⟨by rfl, rfl⟩) (by assumption) ?r3015
          try simp only [Act.put, List.getElem_toArray, List.getElem_cons_succ, List.getElem_cons_zero, List.setIfInBounds_toArray, List.set_cons_zero, List.set_cons_succ]
          refine wpAnyH_take (i := 15) (v := undef) rfl (by kernel_rfl) (by kernel_rfl) (by kernel_rfl) (fun _ _ _ h => h) (Or.inr ⟨by rfl, rfl⟩) (by assumption) ?r3016
          try simp only [Act.put, List.getElem_toArray, List.getElem_cons_succ, List.getElem_cons_zero, List.setIfInBounds_toArray, List.set_cons_zero, List.set_cons_succ]
          refine wpAnyH_take (i := 16) (v := undef) rfl (by kernel_rfl) (by kernel_rfl) (by kernel_rfl) (fun _ _ _ h => h) (Or.inr ⟨by rfl, rfl⟩) (by assumption) ?r3017
          try simp only [Act.put, List.getElem_toArray, List.getElem_cons_succ, List.getElem_cons_zero, List.setIfInBounds_toArray, List.set_cons_zero, List.set_cons_succ]
          refine wpAnyH_take (i := 17) (v := undef) rfl (by kernel_rfl) (by kernel_rfl) (by kernel_rfl) (fun _ _ _ h => h) (Or.inr ⟨by rfl, rfl⟩) (by assumption) ?r3018
          try simp only [Act.put, List.getElem_toArray, List.getElem_cons_succ, List.getElem_cons_zero, List.setIfInBounds_toArray, List.set_cons_zero, List.set_cons_succ]
          refine wpAnyH_take (i := 18) (v := ?v3019) rfl (by kernel_rfl) (by kernel_rfl) (by kernel_rfl) (fun _ _ _ h => h) (Or.inl ⟨by rfl, ?y3019⟩) (by assumption) ?r3019
          case y3019 => ((intro w hSw; (try dsimp only at hSw); go_simp); try with_reducible rfl)
          try simp only [Act.put, List.getElem_toArray, List.getElem_cons_succ, List.getElem_cons_zero, List.setIfInBounds_toArray, List.set_cons_zero, List.set_cons_succ]
          refine wpAnyH_done (by kernel_rfl) ?_ _
          refine NoPanic.normal ?_
          clear hHeld
          go_upto_region 13 with (at_builtin; refine app2_own rfl (.tmp 61) (.tmp 63) rfl _ w4.heap.size v u11 (unL a b v) ⟨_, 0, none⟩ rfl rfl (RX.out.two.a.below (new_val _ _) (Nat.le_refl _)) (lit_cell _ _) (Nat.le_trans RX.out.kept.size (new_val _ _).size) (by have := HLU.out; omega) ?_; intro v5 w5 hO hg hat; have RD := Lib.hid ((RX.out.next (new_val _ _)).pushV HBU.out hO hg hat); clear hO hg hat)
          have HV : Hid (HoldV w4 (w.heap.size + 1) (w.heap.size + 1 + 1 + 1) n2 cs2 g2 o2 j y w5) := Lib.hid ⟨RD.out.cell (by have := z4.out; omega) (by omega) (by rw [cell_of_row _ _ _ _ _ _ X1.out]; rfl), RD.out.cell (by have := HGS2.out; have := z4.out; omega) (by have := HGS2.out; omega) HC2.out, RD.out.kept⟩
          refine wp_region_noPanic ?_
          refine wp_region_held_drew (S := fun W => HoldV w4 (w.heap.size + 1) (w.heap.size + 1 + 1 + 1) n2 cs2 g2 o2 j y W) (by kernel_rfl) (holdV HV.out ((Below.refl _ _).drew)) (fun hHeld => ?_)
          have RA := Lib.hid (RD.out.next ((Below.refl w5.heap.size w5).drew))
          clear RD
          generalize w5.drew = w6 at hHeld RA ⊢
          refine wpAnyH_take (i := 0) (v := ?v6001) rfl (by kernel_rfl) (by kernel_rfl) (by kernel_rfl) (fun _ _ _ h => h) (Or.inl ⟨by rfl, ?y6001⟩) (by assumption) ?r6001
          case y6001 => ((intro w hSw; (try dsimp only at hSw); go_simp); try with_reducible rfl)
          try simp only [Act.put, List.getElem_toArray, List.getElem_cons_zero, List.setIfInBounds_toArray, List.set_cons_zero, List.set_cons_succ]
          refine wpAnyH_take (i := 2) (v := ?v6002) rfl (by kernel_rfl) (by kernel_rfl) (by kernel_rfl) (fun _ _ _ h => h) (Or.inl ⟨by rfl, ?y6002⟩) (by assumption) ?r6002
          case y6002 => ((intro w hSw; (try dsimp only at hSw); go_simp); try with_reducible rfl)
          try simp only [Act.put, List.getElem_toArray, List.getElem_cons_succ, List.getElem_cons_zero, List.setIfInBounds_toArray, List.set_cons_zero, List.set_cons_succ]
          refine wpAnyH_take (i := 3) (v := ?v6003) rfl (by kernel_rfl) (by kernel_rfl) (by kernel_rfl) (fun _ _ _ h => h) (Or.inl ⟨by rfl, ?y6003⟩) (by assumption) ?r6003
          case y6003 => ((intro w hSw; (try dsimp only at hSw); go_simp); try with_reducible rfl)
          try simp only [Act.put, List.getElem_toArray, List.getElem_cons_succ, List.getElem_cons_zero, List.setIfInBounds_toArray, List.set_cons_zero, List.set_cons_succ]
          refine wpAnyH_take (i := 4) (v := ?v6004) rfl (by kernel_rfl) (by kernel_rfl) (by kernel_rfl) (fun _ _ _ h => h) (Or.inl ⟨by rfl, ?y6004⟩) (by assumption) ?r6004
          case y6004 => ((intro w hSw; (try dsimp only at hSw); go_simp); try with_reducible rfl)
          try simp only [Act.put, List.getElem_toArray, List.getElem_cons_succ, List.getElem_cons_zero, List.setIfInBounds_toArray, List.set_cons_zero, List.set_cons_succ]
          refine wpAnyH_take (i := 5) (v := ?v6005) rfl (by kernel_rfl) (by kernel_rfl) (by kernel_rfl) (fun _ _ _ h => h) (Or.inl ⟨by rfl, ?y6005⟩) (by assumption) ?r6005
          case y6005 => ((intro w hSw; (try dsimp only at hSw); go_simp); try with_reducible rfl)
          try simp only [Act.put, List.getElem_toArray, List.getElem_cons_succ, List.getElem_cons_zero, List.setIfInBounds_toArray, List.set_cons_zero, List.set_cons_succ]
          refine wpAnyH_take (i := 6) (v := ?v6006) rfl (by kernel_rfl) (by kernel_rfl) (by kernel_rfl) (fun _ _ _ h => h) (Or.inl ⟨by rfl, ?y6006⟩) (by assumption) ?r6006
          case y6006 => ((intro w hSw; (try dsimp only at hSw); go_simp); try with_reducible rfl)
          try simp only [Act.put, List.getElem_toArray, List.getElem_cons_succ, List.getElem_cons_zero, List.setIfInBounds_toArray, List.set_cons_zero, List.set_cons_succ]
          refine wpAnyH_ready (rs := [1, 7]) (by kernel_rfl) (by simp) ?_
          refine AllReadyH.cons rfl (fun K hK => ?_) ?_
          · have ac : w6.cell? ⟨w.heap.size + 1 + 1 + 1, 0, none⟩ = some sv := by rw [cell_of_row _ _ _ _ _ _ RA.out.row]; rfl
            go_simp
            clear ac
            refine hK.out _ _ (hHeld) (fun hHeld' => ?_)
            clear hHeld
            have hHeld := hHeld'
            clear hHeld'
            clear hK K
            try simp only [Act.put, List.getElem_toArray, List.getElem_cons_succ, List.getElem_cons_zero, List.setIfInBounds_toArray, List.set_cons_zero, List.set_cons_succ]
            refine wpAnyH_ready (rs := [7]) (by kernel_rfl) (by simp) ?_
            refine AllReadyH.cons rfl (fun K hK => ?_) ?_
            · go_simp
              have na := new_val w6 (.cells #[.int .i64 (y : Int)] 3)
              have LC : Hid ((w6.alloc (.cells #[.int .i64 (y : Int)] 3)).cell? ((⟨w6.heap.size, 0, none⟩ : Addr).add 0) = some (.int .i64 (y : Int))) := Lib.hid (lit_cell _ _)
              have RB := Lib.hid (RA.out.next na)
              refine hK.out _ _ (holdV hHeld na) (fun hHeld' => ?_)
              clear hHeld
              have hHeld := hHeld'
              clear hHeld'
              clear na
              generalize w6.alloc (.cells #[.int .i64 (y : Int)] 3) = w7 at hHeld RB LC ⊢
              generalize w6.heap.size = gl at LC ⊢
              clear hK K
              try simp only [Act.put, List.getElem_toArray, List.getElem_cons_succ, List.getElem_cons_zero, List.setIfInBounds_toArray, List.set_cons_zero, List.set_cons_succ]
              refine wpAnyH_ready (rs := [8]) (by kernel_rfl) (by simp) ?_
              refine AllReadyH.cons rfl (fun K hK => ?_) ?_
              · refine app2_step rfl (.tmp 78) (.tmp 84) rfl w7 w4.heap.size y sv ((unL a b v).map (szU a b l1 l2)) ⟨gl, 0, none⟩ rfl rfl RB.out.two.b LC.out hHeld.2.2.size (by have := HLS.out; omega) ?_
                intro v8 w8 hO hg hat
                obtain ⟨A8, m8, c8, rfl⟩ : ∃ A m c, v8 = .slice A m c := by obtain ⟨A, c, e⟩ := row_form hO; exact ⟨A, _, c, e⟩
                have RT := Lib.hid (RB.out.pushS HBU.out hO hg hat)
                refine hK.out _ _ (holdV_grown hHeld (by have := z4.out; omega) (by have := HGS2.out; have := z4.out; omega) RB.out.two.b hg) (fun hHeld' => ?_)
                clear hHeld
                have hHeld := hHeld'
                clear hHeld'
                clear hO hg hat
                clear hK K
                try simp only [Act.put, List.getElem_toArray, List.getElem_cons_succ, List.getElem_cons_zero, List.setIfInBounds_toArray, List.set_cons_zero, List.set_cons_succ]
                refine wpAnyH_take (i := 9) (v := ?v6007) rfl (by kernel_rfl) (by kernel_rfl) (by kernel_rfl) (fun _ _ _ h => h) (Or.inl ⟨by rfl, ?y6007⟩) (by assumption) ?r6007
                case y6007 => ((intro w hSw; (try dsimp only at hSw); go_simp); try with_reducible rfl)
                try simp only [Act.put, List.getElem_toArray, List.getElem_cons_succ, List.getElem_cons_zero, List.setIfInBounds_toArray, List.set_cons_zero, List.set_cons_succ]
                refine wpAnyH_ready (rs := [10]) (by kernel_rfl) (by simp) ?_
                refine AllReadyH.cons rfl (fun K hK => ?_) ?_
                · have ac : w8.cell? ⟨w.heap.size + 1 + 1 + 1, 0, none⟩ = some sv := by rw [cell_of_row _ _ _ _ _ _ RT.out.row]; rfl
                  have af : w8.frozen? ⟨w.heap.size + 1 + 1 + 1, 0, none⟩ = false := frozen_of_row _ _ _ _ _ RT.out.row
                  go_simp
                  clear ac af
                  have RN := Lib.hid (RT.out.fin HBU.out)
                  refine hK.out _ _ (holdV_set hHeld (by omega) (by have := HGS2.out; omega) 0 (.slice A8 m8 c8)) (fun hHeld' => ?_)
                  clear hHeld
                  have hHeld := hHeld'
                  clear hHeld'
                  clear hK K
                  try simp only [Act.put, List.getElem_toArray, List.getElem_cons_succ, List.getElem_cons_zero, List.setIfInBounds_toArray, List.set_cons_zero, List.set_cons_succ]
                  refine wpAnyH_done (by kernel_rfl) ?_ _
                  refine NoPanic.normal ?_
                  clear hHeld
                  rw [← HUL.out, ← HSL.out] at RN
                  generalize w8.setCell ⟨w.heap.size + 1 + 1 + 1, 0, none⟩ (.slice A8 m8 c8) = w9 at RN ⊢
                  go_wp2_with fail
                  go_roundw
                  case rel => exact ⟨v + 1, _, by omega, by go_num, RN.out, HGN.out⟩
                  case measure => simp [intOf]; omega
                exact AllReadyH.nil
              exact AllReadyH.nil
            exact AllReadyH.nil
          refine AllReadyH.cons rfl (fun K hK => ?_) ?_
          · go_simp
            have na := new_val w6 (.cells #[.int .i64 (y : Int)] 3)
            have LC : Hid ((w6.alloc (.cells #[.int .i64 (y : Int)] 3)).cell? ((⟨w6.heap.size, 0, none⟩ : Addr).add 0) = some (.int .i64 (y : Int))) := Lib.hid (lit_cell _ _)
            have RB := Lib.hid (RA.out.next na)
            refine hK.out _ _ (holdV hHeld na) (fun hHeld' => ?_)
            clear hHeld
            have hHeld := hHeld'
            clear hHeld'
            clear na
            generalize w6.alloc (.cells #[.int .i64 (y : Int)] 3) = w7 at hHeld RB LC ⊢
            generalize w6.heap.size = gl at LC ⊢
            clear hK K
            try simp only [Act.put, List.getElem_toArray, List.getElem_cons_succ, List.getElem_cons_zero, List.setIfInBounds_toArray, List.set_cons_zero, List.set_cons_succ]
            refine wpAnyH_ready (rs := [1]) (by kernel_rfl) (by simp) ?_
            refine AllReadyH.cons rfl (fun K hK => ?_) ?_
            · have ac : w7.cell? ⟨w.heap.size + 1 + 1 + 1, 0, none⟩ = some sv := by rw [cell_of_row _ _ _ _ _ _ RB.out.row]; rfl
              go_simp
              clear ac
              refine hK.out _ _ (hHeld) (fun hHeld' => ?_)
              clear hHeld
              have hHeld := hHeld'
              clear hHeld'
              clear hK K
              try simp only [Act.put, List.getElem_toArray, List.getElem_cons_succ, List.getElem_cons_zero, List.setIfInBounds_toArray, List.set_cons_zero, List.set_cons_succ]
              refine wpAnyH_ready (rs := [8]) (by kernel_rfl) (by simp) ?_
              refine AllReadyH.cons rfl (fun K hK => ?_) ?_
              · refine app2_step rfl (.tmp 78) (.tmp 84) rfl w7 w4.heap.size y sv ((unL a b v).map (szU a b l1 l2)) ⟨gl, 0, none⟩ rfl rfl RB.out.two.b LC.out hHeld.2.2.size (by have := HLS.out; omega) ?_
                intro v8 w8 hO hg hat
                obtain ⟨A8, m8, c8, rfl⟩ : ∃ A m c, v8 = .slice A m c := by obtain ⟨A, c, e⟩ := row_form hO; exact ⟨A, _, c, e⟩
                have RT := Lib.hid (RB.out.pushS HBU.out hO hg hat)
                refine hK.out _ _ (holdV_grown hHeld (by have := z4.out; omega) (by have := HGS2.out; have := z4.out; omega) RB.out.two.b hg) (fun hHeld' => ?_)
                clear hHeld
                have hHeld := hHeld'
                clear hHeld'
                clear hO hg hat
                clear hK K
                try simp only [Act.put, List.getElem_toArray, List.getElem_cons_succ, List.getElem_cons_zero, List.setIfInBounds_toArray, List.set_cons_zero, List.set_cons_succ]
                refine wpAnyH_take (i := 9) (v := ?v6008) rfl (by kernel_rfl) (by kernel_rfl) (by kernel_rfl) (fun _ _ _ h => h) (Or.inl ⟨by rfl, ?y6008⟩) (by assumption) ?r6008
                case y6008 => ((intro w hSw; (try dsimp only at hSw); go_simp); try with_reducible rfl)
                try simp only [Act.put, List.getElem_toArray, List.getElem_cons_succ, List.getElem_cons_zero, List.setIfInBounds_toArray, List.set_cons_zero, List.set_cons_succ]
                refine wpAnyH_ready (rs := [10]) (by kernel_rfl) (by simp) ?_
                refine AllReadyH.cons rfl (fun K hK => ?_) ?_
                · have ac : w8.cell? ⟨w.heap.size + 1 + 1 + 1, 0, none⟩ = some sv := by rw [cell_of_row _ _ _ _ _ _ RT.out.row]; rfl
                  have af : w8.frozen? ⟨w.heap.size + 1 + 1 + 1, 0, none⟩ = false := frozen_of_row _ _ _ _ _ RT.out.row
                  go_simp
                  clear ac af
                  have RN := Lib.hid (RT.out.fin HBU.out)
                  refine hK.out _ _ (holdV_set hHeld (by omega) (by have := HGS2.out; omega) 0 (.slice A8 m8 c8)) (fun hHeld' => ?_)
                  clear hHeld
                  have hHeld := hHeld'
                  clear hHeld'
                  clear hK K
                  try simp only [Act.put, List.getElem_toArray, List.getElem_cons_succ, List.getElem_cons_zero, List.setIfInBounds_toArray, List.set_cons_zero, List.set_cons_succ]
                  refine wpAnyH_done (by kernel_rfl) ?_ _
                  refine NoPanic.normal ?_
                  clear hHeld
                  rw [← HUL.out, ← HSL.out] at RN
                  generalize w8.setCell ⟨w.heap.size + 1 + 1 + 1, 0, none⟩ (.slice A8 m8 c8) = w9 at RN ⊢
                  go_wp2_with fail
                  go_roundw
                  case rel => exact ⟨v + 1, _, by omega, by go_num, RN.out, HGN.out⟩
                  case measure => simp [intOf]; omega
                exact AllReadyH.nil
              exact AllReadyH.nil
            exact AllReadyH.nil
          exact AllReadyH.nil
        · rw [f1] at C1
          rw [f2] at C2
          have HUL : Hid (unL a b (v + 1) = unL a b v) := Lib.hid (by rw [HUN.out, hca, hcb]; simp)
          have HGN := Lib.hid (agX_step HG.out fun i' j' h1 h2 e1 e2 => (not_at hca h1 e1).elim)
          have RN := HM.out
          rw [← HUL.out] at RN
          have RN := Lib.hid RN
          clear hca hcb f1 f2
          go_wp2_with fail
          refine C1.out.mono ?_
          rintro e w5 ⟨rfl, rfl⟩
          go_wp2_with fail
          refine C2.out.mono ?_
          rintro e w5 ⟨rfl, rfl⟩
          go_wp2_with fail
          go_roundw
          case rel => exact ⟨v + 1, _, by omega, by go_num, RN.out, HGN.out⟩
          case measure => simp [intOf]; omega
    · skip
      have j1 : ¬ ((v : Int) < 12) := by omega
      obtain rfl : v = 12 := by omega
      rename World => w8
      have HAG := Lib.hid (agX_all RB1.out A12.out HG.out)
      have HU : Hid (Uni V a b) := Lib.hid (by rw [← HVE.out]; exact uni_unL A12.out B12.out)
      have HJM : Hid (joinL V.length (plcL V a) l1 (plcL V b) l2 = (V.map (szU a b l1 l2))) := Lib.hid (joinL_map HU.out RA1.out RB1.out (HL1.out.trans HA.out.symm) (HL2.out.trans HB.out.symm) HAG.out)
      have HPL : Hid (∀ n ∈ (V.map (szU a b l1 l2)), 1 ≤ n ∧ n ≤ 32) := Lib.hid (by rw [← HJM.out]; exact HU.out.sizes RA1.out RB1.out (HL1.out.trans HA.out.symm) (HL2.out.trans HB.out.symm) HAG.out S1.out S2.out)
      have PA : Hid (pickL (V.map (szU a b l1 l2)) (plcL V a) = l1) := Lib.hid (by rw [← HJM.out]; exact HU.out.pa RA1.out RB1.out (HL1.out.trans HA.out.symm) (HL2.out.trans HB.out.symm) HAG.out)
      have PB : Hid (pickL (V.map (szU a b l1 l2)) (plcL V b) = l2) := Lib.hid (by rw [← HJM.out]; exact HU.out.pb RB1.out (HL2.out.trans HB.out.symm))
      have HLJ : Hid ((V.map (szU a b l1 l2)).length = m) := Lib.hid (by rw [List.length_map]; exact HM6.out)
      have hM := HM.out
      rw [HVE.out] at hM
      obtain ⟨A6, c6, e6, hI6⟩ := hM.two.a.form
      rw [HM6.out] at e6
      subst e6
      obtain ⟨A7, c7, e7, hI7⟩ := hM.two.b.form
      rw [HLJ.out] at e7
      subst e7
      have U8 : Hid (w8.heap[w.heap.size + 1 + 1 + 1]? = _) := Lib.hid hM.row
      have K8 := Lib.hid hM.kept
      have O6 := Lib.hid hM.two.a
      have O8 := Lib.hid hM.two.b
      have hc7 : m ≤ c7 := own_cap O8.out
      have I8 := Lib.hid hI7
      have u0 : w8.cell? ⟨w.heap.size + 1 + 1 + 1, 0, none⟩ = some (.slice A7 m c7) := by rw [cell_of_row _ _ _ _ _ _ U8.out]; rfl
      clear hM hI6 hI7 HM S4 hlt hv HG
      go_wp2_with fail
      clear j1
      refine (rall_any4 A7 m c7 P (V.map (szU a b l1 l2)) _ HLJ.out.symm (by rw [HLJ.out]; exact hm6) hc7 HPL.out HP.out hP4 I8.out).mono ?_
      rintro e w9 ⟨⟨Ar, cr, rfl, hR⟩, hb⟩
      have R9 := Lib.hid hR
      have B9 := Lib.hid hb
      clear hR hb u0
      have U9 := Lib.hid ((B9.out.block _ (Array.getElem?_eq_some_iff.1 U8.out).1).trans U8.out)
      have K9 := Lib.hid (K8.out.next B9.out)
      have BB := Lib.hid (K9.out.below B4.out (by have := z4.out; omega) (by have := z4.out; omega) (by have := z4.out; omega))
      have z9 : w.heap.size + 4 ≤ w9.heap.size := by have := K9.out.size; have := z4.out; omega
      have z8 : w.heap.size + 4 ≤ w8.heap.size := by have := K8.out.size; have := z4.out; omega
      have z84 : w4.heap.size ≤ w8.heap.size := K8.out.size
      have z89 : w8.heap.size ≤ w9.heap.size := B9.out.size
      have M9 : Hid (RoAt w9 (w.heap.size + 1 + 1 + 1) 0 0 (.slice A7 m c7) k (joinZ (V.map (szU a b l1 l2)) (plcL V a) (plcL V b) l1 l2 z1 z2 k) (fun _ => 0) (.slice none 0 0) (.slice none 0 0) w9) :=
        Lib.hid ⟨Kept2.refl _ _ _, U9.out, World.ownsRow_nil _ _ _ _, World.ownsRow_nil _ _ _ _⟩
      have X9 : Hid (w9.heap[w.heap.size]? = _) := Lib.hid ((K9.out.block _ (by have := z4.out; omega) (by omega) (by omega)).trans X0.out)
      have V9 : Hid (w9.heap[w.heap.size + 1]? = _) := Lib.hid ((K9.out.block _ (by have := z4.out; omega) (by omega) (by omega)).trans X1.out)
      have Y9 : Hid (w9.heap[w.heap.size + 1 + 1]? = _) := Lib.hid ((K9.out.block _ (by have := z4.out; omega) (by omega) (by omega)).trans X2.out)
      have O9 := Lib.hid (O8.out.below B9.out (Nat.le_refl _))
      have Q9 := Lib.hid (O6.out.below B9.out (Nat.le_refl _))
      clear X0 X1 X2 X3 U8 K8 I8 U9 O8 O6
      go_upto_region 15 with fail
      go_loopw [91] (fun i wr => ∃ (j : Nat) (cv0 : Value), j ≤ P ∧ i = .int .i64 (j : Int) ∧ RoAt w9 (w.heap.size + 1 + 1 + 1) j 0 (.slice A7 m c7) k (joinZ (V.map (szU a b l1 l2)) (plcL V a) (plcL V b) l1 l2 z1 z2 k) (fun _ => 0) cv0 (.slice none 0 0) wr) (fun i _ => P - (intOf i).toNat)
      case atStart => exact ⟨0, _, Nat.zero_le _, rfl, M9.out⟩
      case round =>
        obtain ⟨j, cv0, hj, rfl, hM⟩ := hrel
        obtain ⟨Ac0, cc0, rfl⟩ := row_form hM.own
        have HM := Lib.hid hM
        clear hM
        by_cases hlt : j < P
        · have j1 : (j : Int) < (P : Int) := by omega
          have j2 : (0 : Int) ≤ (j : Int) := by omega
          obtain ⟨Ar', cr', e1, hrow⟩ := (R9.out.kept2 HM.out.kept (by omega)).form
          obtain ⟨gr, x, hA, hgr, hcr, hxr⟩ := hrow j (by rw [allL_length, HP.out]; exact hlt)
          obtain rfl : Ar = Ar' := by injection e1
          subst hA
          have hx' : Own wr w8.heap.size x (tupL (V.map (szU a b l1 l2)) j) := by
            have e : nthT (allL (V.map (szU a b l1 l2))) j = tupL (V.map (szU a b l1 l2)) j := allL_get _ (by rw [HP.out]; exact hlt)
            rw [e] at hxr
            exact hxr
          have HUU : Hid (capA (z1 (numL l1 (pickL (tupL (V.map (szU a b l1 l2)) j) (plcL V a)))) (z2 (numL l2 (pickL (tupL (V.map (szU a b l1 l2)) j) (plcL V b)))) k = (joinZ (V.map (szU a b l1 l2)) (plcL V a) (plcL V b) l1 l2 z1 z2 k) j) := Lib.hid rfl
          have INJ := tupL_in (fun n hn => (HPL.out n hn).1) j
          have FL1 : Hid (InL l1 (pickL (tupL (V.map (szU a b l1 l2)) j) (plcL V a))) := Lib.hid (by have := inL_pick INJ (s := plcL V a) (fun i hi => by rw [List.length_map]; exact HU.out.qa (by rw [← plcL_len V a]; exact hi)); rw [PA.out] at this; exact this)
          have FL2 : Hid (InL l2 (pickL (tupL (V.map (szU a b l1 l2)) j) (plcL V b))) := Lib.hid (by have := inL_pick INJ (s := plcL V b) (fun i hi => by rw [List.length_map]; exact HU.out.qb (by rw [← plcL_len V b]; exact hi)); rw [PB.out] at this; exact this)
          clear INJ
          have htl0 : (tupL (V.map (szU a b l1 l2)) j).length = m := by rw [tupL_length, HLJ.out]
          obtain ⟨t, ht⟩ : ∃ t, tupL (V.map (szU a b l1 l2)) j = t := ⟨_, rfl⟩
          rw [ht] at hx' HUU FL1 FL2 htl0
          clear ht
          obtain ⟨Ax, cx, e2, hXi⟩ := hx'.form
          rw [htl0] at e2
          subst e2
          have HTL := Lib.hid htl0
          have HX := Lib.hid hXi
          have BR := Lib.hid (HM.out.kept.below BB.out (by omega) (by omega) (by omega))
          have QR : Hid (Own wr w4.heap.size (.slice A6 m c6) V) := Lib.hid (own_kept2 Q9.out HM.out.kept (by have := z4.out; omega))
          obtain ⟨A6', c6', e6, hI6⟩ := QR.out.form
          rw [HM6.out] at e6
          obtain ⟨rfl, rfl⟩ : A6 = A6' ∧ c6 = c6' := by injection e6 with a b c; exact ⟨a, c⟩
          have IV := Lib.hid hI6
          clear hx' hrow e1 hXi hxr htl0 e6 hI6 QR
          rename World => wa
          go_upto_region 19 with fail
          go_loopw [18, 19, 97] (fun p q i wr => ∃ n : Nat, n ≤ m ∧ i = .int .i64 (n : Int) ∧ Two wr wa.heap.size p q (pkN V a t n) (pkN V b t n) ∧ Below wa.heap.size wa wr) (fun _ _ i _ => m - (intOf i).toNat)
          case atStart => exact ⟨0, Nat.zero_le _, rfl, two_nil _ _, Below.refl _ _⟩
          case round =>
            obtain ⟨q, hq, rfl, hT, hB⟩ := hrel
            have TQ := Lib.hid hT
            have BQ := Lib.hid hB
            clear hT hB hcr
            by_cases hlq : q < m
            · have q1 : (q : Int) < (m : Int) := by omega
              have q2 : (0 : Int) ≤ (q : Int) := by omega
              obtain ⟨gv, ov, rfl, hcv⟩ := (IV.out.below BQ.out (Nat.le_refl _)).at_ (i := q) (by rw [HM6.out]; exact hlq)
              obtain ⟨gx, ox, rfl, hcx0⟩ := HX.out.at_ (i := q) (by rw [HTL.out]; exact hlq)
              have HPA := Lib.hid (pkN_snoc V a t q)
              have HPB := Lib.hid (pkN_snoc V b t q)
              have HLA : Hid ((pkN V a t q).length ≤ 100000) := Lib.hid (by have := List.length_filter_le (fun i => a.contains (nth V i)) (List.range q); simp [pkN] at *; omega)
              have HLB : Hid ((pkN V b t q).length ≤ 100000) := Lib.hid (by have := List.length_filter_le (fun i => b.contains (nth V i)) (List.range q); simp [pkN] at *; omega)
              have HRX := Lib.hid HX.out
              generalize nth V q = v at hcv HPA HPB
              generalize nth t q = y at hcx0 HPA HPB
              have HCX := Lib.hid hcx0
              clear hcx0
              rcases fi_cases RA1.out v with ⟨i1, -, -, f1, hca, -⟩ | ⟨hca, f1⟩
              · rcases fi_cases RB1.out v with ⟨i2, -, -, f2, hcb, -⟩ | ⟨hcb, f2⟩
                · have F1 := Lib.hid f1
                  have F2 := Lib.hid f2
                  have HNA : Hid (pkN V a t (q + 1) = pkN V a t q ++ [y]) := Lib.hid (by rw [HPA.out, hca]; simp)
                  have HNB : Hid (pkN V b t (q + 1) = pkN V b t q ++ [y]) := Lib.hid (by rw [HPB.out, hcb]; simp)
                  clear f1 f2 hca hcb
                  have p1 : (0 : Int) ≤ (i1 : Int) := by omega
                  have p2 : (0 : Int) ≤ (i2 : Int) := by omega
                  go_wp2_with fail
                  refine (find_any A1 n1 c1 v a _ HA.out (IA.out.below (BR.out.trans (BQ.out.mono BR.out.size)) (Nat.le_refl _)) RA1.out (by omega)).mono ?_
                  rintro e w5 ⟨he, rfl⟩
                  rw [F1.out] at he
                  subst he
                  have TCA := Lib.hid (TQ.out.below (new_val wr (.cells #[.int .i64 (y : Int)] 3)) (Nat.le_refl _))
                  have BCA := Lib.hid (BQ.out.trans ((new_val wr (.cells #[.int .i64 (y : Int)] 3)).mono BQ.out.size))
                  have hcx := (BQ.out.cell (p := ⟨gx, ox + q, none⟩) (World.block_lt_of_cell? wa _ HCX.out)).trans HCX.out
                  go_upto_region 23 with (at_builtin; refine app2_own rfl (.tmp 106) (.tmp 111) rfl (wr.alloc (.cells #[.int .i64 (y : Int)] 3)) wa.heap.size y u18 (pkN V a t q) ⟨wr.heap.size, 0, none⟩ rfl rfl TCA.out.a (lit_cell wr y) BCA.out.size HLA.out ?_; intro v' w' hO hg hat; have TA := Lib.hid ((TCA.out.push hO hg hat)); have BA := Lib.hid (BCA.out.grown hg BCA.out.size (fun g hg' => (World.ownsRow.lt TCA.out.a g hg').1)); clear hO hg hat)
                  clear hcx
                  go_wp2_with fail
                  refine (find_any A2 n2 c2 v b _ HB.out (IB.out.below (BR.out.trans (BA.out.mono BR.out.size)) (Nat.le_refl _)) RB1.out (by omega)).mono ?_
                  rintro e w6 ⟨he, rfl⟩
                  rw [F2.out] at he
                  subst he
                  have hcx := (BA.out.cell (p := ⟨gx, ox + q, none⟩) (World.block_lt_of_cell? wa _ HCX.out)).trans HCX.out
                  have TCB := Lib.hid (TA.out.below (new_val w' (.cells #[.int .i64 (y : Int)] 3)) (Nat.le_refl _))
                  have BCB := Lib.hid (BA.out.trans ((new_val w' (.cells #[.int .i64 (y : Int)] 3)).mono BA.out.size))
                  go_upto_region 25 with (at_builtin; refine app2_own rfl (.tmp 117) (.tmp 122) rfl (w'.alloc (.cells #[.int .i64 (y : Int)] 3)) wa.heap.size y u19 (pkN V b t q) ⟨w'.heap.size, 0, none⟩ rfl rfl TCB.out.swap.a (lit_cell w' y) BCB.out.size HLB.out ?_; intro v9 w9 hO hg hat; have TB := Lib.hid ((TCB.out.swap.push hO hg hat).swap); have BB := Lib.hid (BCB.out.grown hg BCB.out.size (fun g hg' => (World.ownsRow.lt TCB.out.swap.a g hg').1)); clear hO hg hat)
                  clear hcx
                  go_wp2_with fail
                  have TN := TB.out
                  rw [← HNA.out, ← HNB.out] at TN
                  go_roundw
                  case rel => exact ⟨q + 1, by omega, by go_num, TN, BB.out⟩
                  case measure => simp [intOf]; omega
                · have F1 := Lib.hid f1
                  have F2 := Lib.hid f2
                  have HNA : Hid (pkN V a t (q + 1) = pkN V a t q ++ [y]) := Lib.hid (by rw [HPA.out, hca]; simp)
                  have HNB : Hid (pkN V b t (q + 1) = pkN V b t q) := Lib.hid (by rw [HPB.out, hcb]; simp)
                  clear f1 f2 hca hcb
                  have p1 : (0 : Int) ≤ (i1 : Int) := by omega
                  go_wp2_with fail
                  refine (find_any A1 n1 c1 v a _ HA.out (IA.out.below (BR.out.trans (BQ.out.mono BR.out.size)) (Nat.le_refl _)) RA1.out (by omega)).mono ?_
                  rintro e w5 ⟨he, rfl⟩
                  rw [F1.out] at he
                  subst he
                  have TCA := Lib.hid (TQ.out.below (new_val wr (.cells #[.int .i64 (y : Int)] 3)) (Nat.le_refl _))
                  have BCA := Lib.hid (BQ.out.trans ((new_val wr (.cells #[.int .i64 (y : Int)] 3)).mono BQ.out.size))
                  have hcx := (BQ.out.cell (p := ⟨gx, ox + q, none⟩) (World.block_lt_of_cell? wa _ HCX.out)).trans HCX.out
                  go_upto_region 23 with (at_builtin; refine app2_own rfl (.tmp 106) (.tmp 111) rfl (wr.alloc (.cells #[.int .i64 (y : Int)] 3)) wa.heap.size y u18 (pkN V a t q) ⟨wr.heap.size, 0, none⟩ rfl rfl TCA.out.a (lit_cell wr y) BCA.out.size HLA.out ?_; intro v' w' hO hg hat; have TA := Lib.hid ((TCA.out.push hO hg hat)); have BA := Lib.hid (BCA.out.grown hg BCA.out.size (fun g hg' => (World.ownsRow.lt TCA.out.a g hg').1)); clear hO hg hat)
                  clear hcx
                  go_wp2_with fail
                  refine (find_any A2 n2 c2 v b _ HB.out (IB.out.below (BR.out.trans (BA.out.mono BR.out.size)) (Nat.le_refl _)) RB1.out (by omega)).mono ?_
                  rintro e w6 ⟨he, rfl⟩
                  rw [F2.out] at he
                  subst he
                  go_wp2_with fail
                  have TN := TA.out
                  rw [← HNA.out, ← HNB.out] at TN
                  go_roundw
                  case rel => exact ⟨q + 1, by omega, by go_num, TN, BA.out⟩
                  case measure => simp [intOf]; omega
              · rcases fi_cases RB1.out v with ⟨i2, -, -, f2, hcb, -⟩ | ⟨hcb, f2⟩
                · have F1 := Lib.hid f1
                  have F2 := Lib.hid f2
                  have HNA : Hid (pkN V a t (q + 1) = pkN V a t q) := Lib.hid (by rw [HPA.out, hca]; simp)
                  have HNB : Hid (pkN V b t (q + 1) = pkN V b t q ++ [y]) := Lib.hid (by rw [HPB.out, hcb]; simp)
                  clear f1 f2 hca hcb
                  have p2 : (0 : Int) ≤ (i2 : Int) := by omega
                  go_wp2_with fail
                  refine (find_any A1 n1 c1 v a _ HA.out (IA.out.below (BR.out.trans (BQ.out.mono BR.out.size)) (Nat.le_refl _)) RA1.out (by omega)).mono ?_
                  rintro e w5 ⟨he, rfl⟩
                  rw [F1.out] at he
                  subst he
                  go_wp2_with fail
                  refine (find_any A2 n2 c2 v b _ HB.out (IB.out.below (BR.out.trans (BQ.out.mono BR.out.size)) (Nat.le_refl _)) RB1.out (by omega)).mono ?_
                  rintro e w6 ⟨he, rfl⟩
                  rw [F2.out] at he
                  subst he
                  have hcx := (BQ.out.cell (p := ⟨gx, ox + q, none⟩) (World.block_lt_of_cell? wa _ HCX.out)).trans HCX.out
                  have TCB := Lib.hid (TQ.out.below (new_val wr (.cells #[.int .i64 (y : Int)] 3)) (Nat.le_refl _))
                  have BCB := Lib.hid (BQ.out.trans ((new_val wr (.cells #[.int .i64 (y : Int)] 3)).mono BQ.out.size))
                  go_upto_region 25 with (at_builtin; refine app2_own rfl (.tmp 117) (.tmp 122) rfl (wr.alloc (.cells #[.int .i64 (y : Int)] 3)) wa.heap.size y u19 (pkN V b t q) ⟨wr.heap.size, 0, none⟩ rfl rfl TCB.out.swap.a (lit_cell wr y) BCB.out.size HLB.out ?_; intro v9 w9 hO hg hat; have TB := Lib.hid ((TCB.out.swap.push hO hg hat).swap); have BB := Lib.hid (BCB.out.grown hg BCB.out.size (fun g hg' => (World.ownsRow.lt TCB.out.swap.a g hg').1)); clear hO hg hat)
                  clear hcx
                  go_wp2_with fail
                  have TN := TB.out
                  rw [← HNA.out, ← HNB.out] at TN
                  go_roundw
                  case rel => exact ⟨q + 1, by omega, by go_num, TN, BB.out⟩
                  case measure => simp [intOf]; omega
                · have F1 := Lib.hid f1
                  have F2 := Lib.hid f2
                  have HNA : Hid (pkN V a t (q + 1) = pkN V a t q) := Lib.hid (by rw [HPA.out, hca]; simp)
                  have HNB : Hid (pkN V b t (q + 1) = pkN V b t q) := Lib.hid (by rw [HPB.out, hcb]; simp)
                  clear f1 f2 hca hcb
                  go_wp2_with fail
                  refine (find_any A1 n1 c1 v a _ HA.out (IA.out.below (BR.out.trans (BQ.out.mono BR.out.size)) (Nat.le_refl _)) RA1.out (by omega)).mono ?_
                  rintro e w5 ⟨he, rfl⟩
                  rw [F1.out] at he
                  subst he
                  go_wp2_with fail
                  refine (find_any A2 n2 c2 v b _ HB.out (IB.out.below (BR.out.trans (BQ.out.mono BR.out.size)) (Nat.le_refl _)) RB1.out (by omega)).mono ?_
                  rintro e w6 ⟨he, rfl⟩
                  rw [F2.out] at he
                  subst he
                  go_wp2_with fail
                  have TN := TQ.out
                  rw [← HNA.out, ← HNB.out] at TN
                  go_roundw
                  case rel => exact ⟨q + 1, by omega, by go_num, TN, BQ.out⟩
                  case measure => simp [intOf]; omega
            · have q1 : ¬ ((q : Int) < (m : Int)) := by omega
              obtain rfl : m = q := by omega
              have hpa := pkN_all (x := t) HU.out.lt RA1.out (fun x hx => (HU.out.mem x).2 (.inl hx))
              have hpb := pkN_all (x := t) HU.out.lt RB1.out (fun x hx => (HU.out.mem x).2 (.inr hx))
              rw [HM6.out] at hpa hpb
              have hT := TQ.out
              rw [hpa, hpb] at hT
              obtain ⟨A18, c18, e18, I18⟩ := hT.a.form
              obtain ⟨A19, c19, e19, I19⟩ := hT.b.form
              rw [pickL_len, plcL_len, HA.out] at e18
              rw [pickL_len, plcL_len, HB.out] at e19
              subst e18 e19
              have MR := Lib.hid (HM.out.next BQ.out)
              have HY0 : Hid (HoldY w9 w.heap.size (w.heap.size + 1) (w.heap.size + 1 + 1 + 1) (.slice As1 n1 cs1) (.int .i64 k) (.slice Ac1 P1 cc1) (.slice As2 n2 cs2) (.int .i64 k2) (.slice Ac2 P2 cc2) k wr) := Lib.hid (by
                have r0 := (MR.out.kept.block w.heap.size (by omega) (by omega) (by omega)).trans X9.out
                have r1 := (MR.out.kept.block (w.heap.size + 1) (by omega) (by omega) (by omega)).trans V9.out
                exact ⟨by rw [cell_of_row _ _ _ _ _ _ r0]; rfl, by rw [cell_of_row _ _ _ _ _ _ r0]; rfl, by rw [cell_of_row _ _ _ _ _ _ r0]; rfl, by rw [cell_of_row _ _ _ _ _ _ r1]; rfl, by rw [cell_of_row _ _ _ _ _ _ r1]; rfl, by rw [cell_of_row _ _ _ _ _ _ r1]; rfl, MR.out.cells.2.1, MR.out.kept⟩)
              have FA0 := Lib.hid I18
              have FB0 := Lib.hid I19
              clear hpa hpb hT I18 I19 hlq hq TQ BQ HX IV
              go_upto_region 26 with fail
              clear q1
              refine wp_region_noPanic ?_
              refine wp_region_held_drew (S := fun W => HoldY w9 w.heap.size (w.heap.size + 1) (w.heap.size + 1 + 1 + 1) (.slice As1 n1 cs1) (.int .i64 k) (.slice Ac1 P1 cc1) (.slice As2 n2 cs2) (.int .i64 k2) (.slice Ac2 P2 cc2) k W) (by kernel_rfl) (holdY HY0.out ((Below.refl _ _).drew)) (fun hHeld => ?_)
              have MM := Lib.hid (MR.out.next ((Below.refl wr.heap.size wr).drew))
              have FA := Lib.hid (FA0.out.below ((Below.refl wr.heap.size wr).drew) (Nat.le_refl _))
              have FB := Lib.hid (FB0.out.below ((Below.refl wr.heap.size wr).drew) (Nat.le_refl _))
              clear HY0 FA0 FB0 MR
              generalize wr.drew = wE at hHeld MM FA FB ⊢
              refine wpAnyH_take (i := 0) (v := ?v9001) rfl (by kernel_rfl) (by kernel_rfl) (by kernel_rfl) (fun _ _ _ h => h) (Or.inl ⟨by rfl, ?y9001⟩) (by assumption) ?r9001
              case y9001 => ((intro w hSw; (try dsimp only at hSw); go_simp); try with_reducible rfl)
              try simp only [Act.put, List.getElem_toArray, List.getElem_cons_zero, List.setIfInBounds_toArray, List.set_cons_zero, List.set_cons_succ]
              refine wpAnyH_take (i := 2) (v := ?v9002) rfl (by kernel_rfl) (by kernel_rfl) (by kernel_rfl) (fun _ _ _ h => h) (Or.inl ⟨by rfl, ?y9002⟩) (by assumption) ?r9002
              case y9002 => ((intro w hSw; (try dsimp only at hSw); go_simp); try with_reducible rfl)
              try simp only [Act.put, List.getElem_toArray, List.getElem_cons_succ, List.getElem_cons_zero, List.setIfInBounds_toArray, List.set_cons_zero, List.set_cons_succ]
              refine wpAnyH_take (i := 3) (v := ?v9003) rfl (by kernel_rfl) (by kernel_rfl) (by kernel_rfl) (fun _ _ _ h => h) (Or.inl ⟨by rfl, ?y9003⟩) (by assumption) ?r9003
              case y9003 => ((intro w hSw; (try dsimp only at hSw); go_simp); try with_reducible rfl)
              try simp only [Act.put, List.getElem_toArray, List.getElem_cons_succ, List.getElem_cons_zero, List.setIfInBounds_toArray, List.set_cons_zero, List.set_cons_succ]
              refine wpAnyH_take (i := 5) (v := ?v9004) rfl (by kernel_rfl) (by kernel_rfl) (by kernel_rfl) (fun _ _ _ h => h) (Or.inl ⟨by rfl, ?y9004⟩) (by assumption) ?r9004
              case y9004 => ((intro w hSw; (try dsimp only at hSw); go_simp); try with_reducible rfl)
              try simp only [Act.put, List.getElem_toArray, List.getElem_cons_succ, List.getElem_cons_zero, List.setIfInBounds_toArray, List.set_cons_zero, List.set_cons_succ]
              refine wpAnyH_take (i := 6) (v := ?v9005) rfl (by kernel_rfl) (by kernel_rfl) (by kernel_rfl) (fun _ _ _ h => h) (Or.inl ⟨by rfl, ?y9005⟩) (by assumption) ?r9005
              case y9005 => ((intro w hSw; (try dsimp only at hSw); go_simp); try with_reducible rfl)
              try simp only [Act.put, List.getElem_toArray, List.getElem_cons_succ, List.getElem_cons_zero, List.setIfInBounds_toArray, List.set_cons_zero, List.set_cons_succ]
              refine wpAnyH_take (i := 8) (v := ?v9006) rfl (by kernel_rfl) (by kernel_rfl) (by kernel_rfl) (fun _ _ _ h => h) (Or.inl ⟨by rfl, ?y9006⟩) (by assumption) ?r9006
              case y9006 => ((intro w hSw; (try dsimp only at hSw); go_simp); try with_reducible rfl)
              try simp only [Act.put, List.getElem_toArray, List.getElem_cons_succ, List.getElem_cons_zero, List.setIfInBounds_toArray, List.set_cons_zero, List.set_cons_succ]
              refine wpAnyH_take (i := 9) (v := ?v9007) rfl (by kernel_rfl) (by kernel_rfl) (by kernel_rfl) (fun _ _ _ h => h) (Or.inl ⟨by rfl, ?y9007⟩) (by assumption) ?r9007
              case y9007 => ((intro w hSw; (try dsimp only at hSw); go_simp); try with_reducible rfl)
              try simp only [Act.put, List.getElem_toArray, List.getElem_cons_succ, List.getElem_cons_zero, List.setIfInBounds_toArray, List.set_cons_zero, List.set_cons_succ]
              refine wpAnyH_ready (rs := [1, 4]) (by kernel_rfl) (by simp) ?_
              refine AllReadyH.cons rfl (fun K hK => ?_) ?_
              · have ac : wE.cell? ⟨w.heap.size + 1 + 1 + 1, 2, none⟩ = some (.slice Ac0 j cc0) := MM.out.cells.2.2.1
                go_simp
                clear ac
                refine hK.out _ _ (hHeld) (fun hHeld' => ?_)
                clear hHeld
                have hHeld := hHeld'
                clear hHeld'
                clear hK K
                try simp only [Act.put, List.getElem_toArray, List.getElem_cons_succ, List.getElem_cons_zero, List.setIfInBounds_toArray, List.set_cons_zero, List.set_cons_succ]
                refine wpAnyH_ready (rs := [4]) (by kernel_rfl) (by simp) ?_
                refine AllReadyH.cons rfl (fun K hK => ?_) ?_
                · go_simp
                  have G := rget_yes As1 Ac1 cs1 cc1 A18 n1 c18 P1 (numL l1 (pickL t (plcL V a))) l1 k z1 wE (by rw [HL1.out]; exact h61) (by rw [HL1.out]; exact hc1) S1.out PP1.out hp14 (by rw [← PP1.out]; exact FL1.out.num_lt) HL1.out (I1.out.below (hHeld.2.2.2.2.2.2.2.below BB.out (Nat.le_refl _) (by omega) (by omega)) (Nat.le_refl _)) (by rw [FL1.out.tup]; exact FA.out) (Y1.out.below (hHeld.2.2.2.2.2.2.2.below BB.out (Nat.le_refl _) (by omega) (by omega)) (Nat.le_refl _))
                  rw [HL1.out] at G
                  refine G.mono ?_
                  clear G
                  rintro e wF ⟨rfl, hb1⟩
                  have MM := Lib.hid (MM.out.next hb1)
                  have FB := Lib.hid (FB.out.below hb1 (Nat.le_refl _))
                  have HBW := Lib.hid hb1
                  clear hb1
                  refine hK.out _ _ (holdY hHeld HBW.out) (fun hHeld' => ?_)
                  clear hHeld
                  have hHeld := hHeld'
                  clear hHeld'
                  clear hK K
                  try simp only [Act.put, List.getElem_toArray, List.getElem_cons_succ, List.getElem_cons_zero, List.setIfInBounds_toArray, List.set_cons_zero, List.set_cons_succ]
                  refine wpAnyH_ready (rs := [7]) (by kernel_rfl) (by simp) ?_
                  refine AllReadyH.cons rfl (fun K hK => ?_) ?_
                  · go_simp
                    have G := rget_yes As2 Ac2 cs2 cc2 A19 n2 c19 P2 (numL l2 (pickL t (plcL V b))) l2 k2 z2 wF (by rw [HL2.out]; exact h62) (by rw [HL2.out]; exact hc2) S2.out PP2.out hp24 (by rw [← PP2.out]; exact FL2.out.num_lt) HL2.out (I2.out.below (hHeld.2.2.2.2.2.2.2.below BB.out (Nat.le_refl _) (by omega) (by omega)) (Nat.le_refl _)) (by rw [FL2.out.tup]; exact FB.out) (Y2.out.below (hHeld.2.2.2.2.2.2.2.below BB.out (Nat.le_refl _) (by omega) (by omega)) (Nat.le_refl _))
                    rw [HL2.out] at G
                    refine G.mono ?_
                    clear G
                    rintro e wG ⟨rfl, hb1⟩
                    have MM := Lib.hid (MM.out.next hb1)
                    have HBW := Lib.hid hb1
                    clear hb1
                    refine hK.out _ _ (holdY hHeld HBW.out) (fun hHeld' => ?_)
                    clear hHeld
                    have hHeld := hHeld'
                    clear hHeld'
                    clear hK K
                    try simp only [Act.put, List.getElem_toArray, List.getElem_cons_succ, List.getElem_cons_zero, List.setIfInBounds_toArray, List.set_cons_zero, List.set_cons_succ]
                    refine wpAnyH_ready (rs := [10]) (by kernel_rfl) (by simp) ?_
                    refine AllReadyH.cons rfl (fun K hK => ?_) ?_
                    · go_simp
                      refine (radd_any (z1 (numL l1 (pickL t (plcL V a)))) (z2 (numL l2 (pickL t (plcL V b)))) k wG (Z1.out _ FL1.out.num_lt).1 (by have := (Z1.out _ FL1.out.num_lt).2; omega) (Z2.out _ FL2.out.num_lt).1 (by have := (Z2.out _ FL2.out.num_lt).2; omega)).mono ?_
                      rintro e wZ ⟨rfl, rfl⟩
                      refine hK.out _ _ (hHeld) (fun hHeld' => ?_)
                      clear hHeld
                      have hHeld := hHeld'
                      clear hHeld'
                      clear hK K
                      try simp only [Act.put, List.getElem_toArray, List.getElem_cons_succ, List.getElem_cons_zero, List.setIfInBounds_toArray, List.set_cons_zero, List.set_cons_succ]
                      refine wpAnyH_ready (rs := [11]) (by kernel_rfl) (by simp) ?_
                      refine AllReadyH.cons rfl (fun K hK => ?_) ?_
                      · go_simp
                        have na := new_val wG (.cells #[.int .i64 (capA (z1 (numL l1 (pickL t (plcL V a)))) (z2 (numL l2 (pickL t (plcL V b)))) k)] 2)
                        have LC := Lib.hid (lit_new wG (.int .i64 (capA (z1 (numL l1 (pickL t (plcL V a)))) (z2 (numL l2 (pickL t (plcL V b)))) k)) 2)
                        have MM := Lib.hid (MM.out.next na)
                        refine hK.out _ _ (holdY hHeld na) (fun hHeld' => ?_)
                        clear hHeld
                        have hHeld := hHeld'
                        clear hHeld'
                        clear na
                        generalize wG.alloc (.cells #[.int .i64 (capA (z1 (numL l1 (pickL t (plcL V a)))) (z2 (numL l2 (pickL t (plcL V b)))) k)] 2) = wH at hHeld MM LC ⊢
                        generalize wG.heap.size = gl at LC ⊢
                        clear hK K
                        try simp only [Act.put, List.getElem_toArray, List.getElem_cons_succ, List.getElem_cons_zero, List.setIfInBounds_toArray, List.set_cons_zero, List.set_cons_succ]
                        refine wpAnyH_ready (rs := [12]) (by kernel_rfl) (by simp) ?_
                        refine AllReadyH.cons rfl (fun K hK => ?_) ?_
                        · refine push64_step rfl (.tmp 126) (.tmp 136) rfl wH w9.heap.size j gl (.slice Ac0 j cc0) (joinZ (V.map (szU a b l1 l2)) (plcL V a) (plcL V b) l1 l2 z1 z2 k) _ HUU.out (by rfl) (by rfl) LC.out MM.out.own MM.out.kept.size (by omega) ?_
                          intro vI wI ho hg
                          obtain ⟨A9, c9, rfl⟩ := row_form ho
                          have MN := Lib.hid (MM.out.push (by omega) ho hg)
                          have RR := Lib.hid (MM.out.push_row (by omega) hg)
                          refine hK.out _ _ (holdY_grown hHeld (by omega) (by omega) (by omega) MM.out.own hg) (fun hHeld' => ?_)
                          clear hHeld
                          have hHeld := hHeld'
                          clear hHeld'
                          clear ho hg
                          clear hK K
                          try simp only [Act.put, List.getElem_toArray, List.getElem_cons_succ, List.getElem_cons_zero, List.setIfInBounds_toArray, List.set_cons_zero, List.set_cons_succ]
                          refine wpAnyH_take (i := 13) (v := ?v9008) rfl (by kernel_rfl) (by kernel_rfl) (by kernel_rfl) (fun _ _ _ h => h) (Or.inl ⟨by rfl, ?y9008⟩) (by assumption) ?r9008
                          case y9008 => ((intro w hSw; (try dsimp only at hSw); go_simp); try with_reducible rfl)
                          try simp only [Act.put, List.getElem_toArray, List.getElem_cons_succ, List.getElem_cons_zero, List.setIfInBounds_toArray, List.set_cons_zero, List.set_cons_succ]
                          refine wpAnyH_ready (rs := [14]) (by kernel_rfl) (by simp) ?_
                          refine AllReadyH.cons rfl (fun K hK => ?_) ?_
                          · have ac : wI.cell? ⟨w.heap.size + 1 + 1 + 1, 2, none⟩ = some (.slice Ac0 j cc0) := by rw [cell_of_row _ _ _ _ _ _ RR.out]; rfl
                            have af : wI.frozen? ⟨w.heap.size + 1 + 1 + 1, 2, none⟩ = false := frozen_of_row _ _ _ _ _ RR.out
                            go_simp
                            clear ac af
                            refine hK.out _ _ (holdY_set hHeld (by omega) (by omega) _) (fun hHeld' => ?_)
                            clear hHeld
                            have hHeld := hHeld'
                            clear hHeld'
                            clear hK K
                            try simp only [Act.put, List.getElem_toArray, List.getElem_cons_succ, List.getElem_cons_zero, List.setIfInBounds_toArray, List.set_cons_zero, List.set_cons_succ]
                            refine wpAnyH_done (by kernel_rfl) ?_ _
                            refine NoPanic.normal ?_
                            clear hHeld
                            generalize wI.setCell ⟨w.heap.size + 1 + 1 + 1, 2, none⟩ (.slice A9 (j + 1) c9) = wn at MN ⊢
                            go_wp2_with fail
                            go_roundw
                            case rel => exact ⟨j + 1, _, by omega, by go_num, MN.out⟩
                            case measure => simp [intOf]; omega
                          exact AllReadyH.nil
                        exact AllReadyH.nil
                      exact AllReadyH.nil
                    exact AllReadyH.nil
                  exact AllReadyH.nil
                exact AllReadyH.nil
              refine AllReadyH.cons rfl (fun K hK => ?_) ?_
              · go_simp
                have G := rget_yes As1 Ac1 cs1 cc1 A18 n1 c18 P1 (numL l1 (pickL t (plcL V a))) l1 k z1 wE (by rw [HL1.out]; exact h61) (by rw [HL1.out]; exact hc1) S1.out PP1.out hp14 (by rw [← PP1.out]; exact FL1.out.num_lt) HL1.out (I1.out.below (hHeld.2.2.2.2.2.2.2.below BB.out (Nat.le_refl _) (by omega) (by omega)) (Nat.le_refl _)) (by rw [FL1.out.tup]; exact FA.out) (Y1.out.below (hHeld.2.2.2.2.2.2.2.below BB.out (Nat.le_refl _) (by omega) (by omega)) (Nat.le_refl _))
                rw [HL1.out] at G
                refine G.mono ?_
                clear G
                rintro e wF ⟨rfl, hb1⟩
                have MM := Lib.hid (MM.out.next hb1)
                have FB := Lib.hid (FB.out.below hb1 (Nat.le_refl _))
                have HBW := Lib.hid hb1
                clear hb1
                refine hK.out _ _ (holdY hHeld HBW.out) (fun hHeld' => ?_)
                clear hHeld
                have hHeld := hHeld'
                clear hHeld'
                clear hK K
                try simp only [Act.put, List.getElem_toArray, List.getElem_cons_succ, List.getElem_cons_zero, List.setIfInBounds_toArray, List.set_cons_zero, List.set_cons_succ]
                refine wpAnyH_ready (rs := [1, 7]) (by kernel_rfl) (by simp) ?_
                refine AllReadyH.cons rfl (fun K hK => ?_) ?_
                · have ac : wF.cell? ⟨w.heap.size + 1 + 1 + 1, 2, none⟩ = some (.slice Ac0 j cc0) := MM.out.cells.2.2.1
                  go_simp
                  clear ac
                  refine hK.out _ _ (hHeld) (fun hHeld' => ?_)
                  clear hHeld
                  have hHeld := hHeld'
                  clear hHeld'
                  clear hK K
                  try simp only [Act.put, List.getElem_toArray, List.getElem_cons_succ, List.getElem_cons_zero, List.setIfInBounds_toArray, List.set_cons_zero, List.set_cons_succ]
                  refine wpAnyH_ready (rs := [7]) (by kernel_rfl) (by simp) ?_
                  refine AllReadyH.cons rfl (fun K hK => ?_) ?_
                  · go_simp
                    have G := rget_yes As2 Ac2 cs2 cc2 A19 n2 c19 P2 (numL l2 (pickL t (plcL V b))) l2 k2 z2 wF (by rw [HL2.out]; exact h62) (by rw [HL2.out]; exact hc2) S2.out PP2.out hp24 (by rw [← PP2.out]; exact FL2.out.num_lt) HL2.out (I2.out.below (hHeld.2.2.2.2.2.2.2.below BB.out (Nat.le_refl _) (by omega) (by omega)) (Nat.le_refl _)) (by rw [FL2.out.tup]; exact FB.out) (Y2.out.below (hHeld.2.2.2.2.2.2.2.below BB.out (Nat.le_refl _) (by omega) (by omega)) (Nat.le_refl _))
                    rw [HL2.out] at G
                    refine G.mono ?_
                    clear G
                    rintro e wG ⟨rfl, hb1⟩
                    have MM := Lib.hid (MM.out.next hb1)
                    have HBW := Lib.hid hb1
                    clear hb1
                    refine hK.out _ _ (holdY hHeld HBW.out) (fun hHeld' => ?_)
                    clear hHeld
                    have hHeld := hHeld'
                    clear hHeld'
                    clear hK K
                    try simp only [Act.put, List.getElem_toArray, List.getElem_cons_succ, List.getElem_cons_zero, List.setIfInBounds_toArray, List.set_cons_zero, List.set_cons_succ]
                    refine wpAnyH_ready (rs := [10]) (by kernel_rfl) (by simp) ?_
                    refine AllReadyH.cons rfl (fun K hK => ?_) ?_
                    · go_simp
                      refine (radd_any (z1 (numL l1 (pickL t (plcL V a)))) (z2 (numL l2 (pickL t (plcL V b)))) k wG (Z1.out _ FL1.out.num_lt).1 (by have := (Z1.out _ FL1.out.num_lt).2; omega) (Z2.out _ FL2.out.num_lt).1 (by have := (Z2.out _ FL2.out.num_lt).2; omega)).mono ?_
                      rintro e wZ ⟨rfl, rfl⟩
                      refine hK.out _ _ (hHeld) (fun hHeld' => ?_)
                      clear hHeld
                      have hHeld := hHeld'
                      clear hHeld'
                      clear hK K
                      try simp only [Act.put, List.getElem_toArray, List.getElem_cons_succ, List.getElem_cons_zero, List.setIfInBounds_toArray, List.set_cons_zero, List.set_cons_succ]
                      refine wpAnyH_ready (rs := [11]) (by kernel_rfl) (by simp) ?_
                      refine AllReadyH.cons rfl (fun K hK => ?_) ?_
                      · go_simp
                        have na := new_val wG (.cells #[.int .i64 (capA (z1 (numL l1 (pickL t (plcL V a)))) (z2 (numL l2 (pickL t (plcL V b)))) k)] 2)
                        have LC := Lib.hid (lit_new wG (.int .i64 (capA (z1 (numL l1 (pickL t (plcL V a)))) (z2 (numL l2 (pickL t (plcL V b)))) k)) 2)
                        have MM := Lib.hid (MM.out.next na)
                        refine hK.out _ _ (holdY hHeld na) (fun hHeld' => ?_)
                        clear hHeld
                        have hHeld := hHeld'
                        clear hHeld'
                        clear na
                        generalize wG.alloc (.cells #[.int .i64 (capA (z1 (numL l1 (pickL t (plcL V a)))) (z2 (numL l2 (pickL t (plcL V b)))) k)] 2) = wH at hHeld MM LC ⊢
                        generalize wG.heap.size = gl at LC ⊢
                        clear hK K
                        try simp only [Act.put, List.getElem_toArray, List.getElem_cons_succ, List.getElem_cons_zero, List.setIfInBounds_toArray, List.set_cons_zero, List.set_cons_succ]
                        refine wpAnyH_ready (rs := [12]) (by kernel_rfl) (by simp) ?_
                        refine AllReadyH.cons rfl (fun K hK => ?_) ?_
                        · refine push64_step rfl (.tmp 126) (.tmp 136) rfl wH w9.heap.size j gl (.slice Ac0 j cc0) (joinZ (V.map (szU a b l1 l2)) (plcL V a) (plcL V b) l1 l2 z1 z2 k) _ HUU.out (by rfl) (by rfl) LC.out MM.out.own MM.out.kept.size (by omega) ?_
                          intro vI wI ho hg
                          obtain ⟨A9, c9, rfl⟩ := row_form ho
                          have MN := Lib.hid (MM.out.push (by omega) ho hg)
                          have RR := Lib.hid (MM.out.push_row (by omega) hg)
                          refine hK.out _ _ (holdY_grown hHeld (by omega) (by omega) (by omega) MM.out.own hg) (fun hHeld' => ?_)
                          clear hHeld
                          have hHeld := hHeld'
                          clear hHeld'
                          clear ho hg
                          clear hK K
                          try simp only [Act.put, List.getElem_toArray, List.getElem_cons_succ, List.getElem_cons_zero, List.setIfInBounds_toArray, List.set_cons_zero, List.set_cons_succ]
                          refine wpAnyH_take (i := 13) (v := ?v9009) rfl (by kernel_rfl) (by kernel_rfl) (by kernel_rfl) (fun _ _ _ h => h) (Or.inl ⟨by rfl, ?y9009⟩) (by assumption) ?r9009
                          case y9009 => ((intro w hSw; (try dsimp only at hSw); go_simp); try with_reducible rfl)
                          try simp only [Act.put, List.getElem_toArray, List.getElem_cons_succ, List.getElem_cons_zero, List.setIfInBounds_toArray, List.set_cons_zero, List.set_cons_succ]
                          refine wpAnyH_ready (rs := [14]) (by kernel_rfl) (by simp) ?_
                          refine AllReadyH.cons rfl (fun K hK => ?_) ?_
                          · have ac : wI.cell? ⟨w.heap.size + 1 + 1 + 1, 2, none⟩ = some (.slice Ac0 j cc0) := by rw [cell_of_row _ _ _ _ _ _ RR.out]; rfl
                            have af : wI.frozen? ⟨w.heap.size + 1 + 1 + 1, 2, none⟩ = false := frozen_of_row _ _ _ _ _ RR.out
                            go_simp
                            clear ac af
                            refine hK.out _ _ (holdY_set hHeld (by omega) (by omega) _) (fun hHeld' => ?_)
                            clear hHeld
                            have hHeld := hHeld'
                            clear hHeld'
                            clear hK K
                            try simp only [Act.put, List.getElem_toArray, List.getElem_cons_succ, List.getElem_cons_zero, List.setIfInBounds_toArray, List.set_cons_zero, List.set_cons_succ]
                            refine wpAnyH_done (by kernel_rfl) ?_ _
                            refine NoPanic.normal ?_
                            clear hHeld
                            generalize wI.setCell ⟨w.heap.size + 1 + 1 + 1, 2, none⟩ (.slice A9 (j + 1) c9) = wn at MN ⊢
                            go_wp2_with fail
                            go_roundw
                            case rel => exact ⟨j + 1, _, by omega, by go_num, MN.out⟩
                            case measure => simp [intOf]; omega
                          exact AllReadyH.nil
                        exact AllReadyH.nil
                      exact AllReadyH.nil
                    exact AllReadyH.nil
                  exact AllReadyH.nil
                refine AllReadyH.cons rfl (fun K hK => ?_) ?_
                · go_simp
                  have G := rget_yes As2 Ac2 cs2 cc2 A19 n2 c19 P2 (numL l2 (pickL t (plcL V b))) l2 k2 z2 wF (by rw [HL2.out]; exact h62) (by rw [HL2.out]; exact hc2) S2.out PP2.out hp24 (by rw [← PP2.out]; exact FL2.out.num_lt) HL2.out (I2.out.below (hHeld.2.2.2.2.2.2.2.below BB.out (Nat.le_refl _) (by omega) (by omega)) (Nat.le_refl _)) (by rw [FL2.out.tup]; exact FB.out) (Y2.out.below (hHeld.2.2.2.2.2.2.2.below BB.out (Nat.le_refl _) (by omega) (by omega)) (Nat.le_refl _))
                  rw [HL2.out] at G
                  refine G.mono ?_
                  clear G
                  rintro e wG ⟨rfl, hb1⟩
                  have MM := Lib.hid (MM.out.next hb1)
                  have HBW := Lib.hid hb1
                  clear hb1
                  refine hK.out _ _ (holdY hHeld HBW.out) (fun hHeld' => ?_)
                  clear hHeld
                  have hHeld := hHeld'
                  clear hHeld'
                  clear hK K
                  try simp only [Act.put, List.getElem_toArray, List.getElem_cons_succ, List.getElem_cons_zero, List.setIfInBounds_toArray, List.set_cons_zero, List.set_cons_succ]
                  refine wpAnyH_ready (rs := [1, 10]) (by kernel_rfl) (by simp) ?_
                  refine AllReadyH.cons rfl (fun K hK => ?_) ?_
                  · have ac : wG.cell? ⟨w.heap.size + 1 + 1 + 1, 2, none⟩ = some (.slice Ac0 j cc0) := MM.out.cells.2.2.1
                    go_simp
                    clear ac
                    refine hK.out _ _ (hHeld) (fun hHeld' => ?_)
                    clear hHeld
                    have hHeld := hHeld'
                    clear hHeld'
                    clear hK K
                    try simp only [Act.put, List.getElem_toArray, List.getElem_cons_succ, List.getElem_cons_zero, List.setIfInBounds_toArray, List.set_cons_zero, List.set_cons_succ]
                    refine wpAnyH_ready (rs := [10]) (by kernel_rfl) (by simp) ?_
                    refine AllReadyH.cons rfl (fun K hK => ?_) ?_
                    · go_simp
                      refine (radd_any (z1 (numL l1 (pickL t (plcL V a)))) (z2 (numL l2 (pickL t (plcL V b)))) k wG (Z1.out _ FL1.out.num_lt).1 (by have := (Z1.out _ FL1.out.num_lt).2; omega) (Z2.out _ FL2.out.num_lt).1 (by have := (Z2.out _ FL2.out.num_lt).2; omega)).mono ?_
                      rintro e wZ ⟨rfl, rfl⟩
                      refine hK.out _ _ (hHeld) (fun hHeld' => ?_)
                      clear hHeld
                      have hHeld := hHeld'
                      clear hHeld'
                      clear hK K
                      try simp only [Act.put, List.getElem_toArray, List.getElem_cons_succ, List.getElem_cons_zero, List.setIfInBounds_toArray, List.set_cons_zero, List.set_cons_succ]
                      refine wpAnyH_ready (rs := [11]) (by kernel_rfl) (by simp) ?_
                      refine AllReadyH.cons rfl (fun K hK => ?_) ?_
                      · go_simp
                        have na := new_val wG (.cells #[.int .i64 (capA (z1 (numL l1 (pickL t (plcL V a)))) (z2 (numL l2 (pickL t (plcL V b)))) k)] 2)
                        have LC := Lib.hid (lit_new wG (.int .i64 (capA (z1 (numL l1 (pickL t (plcL V a)))) (z2 (numL l2 (pickL t (plcL V b)))) k)) 2)
                        have MM := Lib.hid (MM.out.next na)
                        refine hK.out _ _ (holdY hHeld na) (fun hHeld' => ?_)
                        clear hHeld
                        have hHeld := hHeld'
                        clear hHeld'
                        clear na
                        generalize wG.alloc (.cells #[.int .i64 (capA (z1 (numL l1 (pickL t (plcL V a)))) (z2 (numL l2 (pickL t (plcL V b)))) k)] 2) = wH at hHeld MM LC ⊢
                        generalize wG.heap.size = gl at LC ⊢
                        clear hK K
                        try simp only [Act.put, List.getElem_toArray, List.getElem_cons_succ, List.getElem_cons_zero, List.setIfInBounds_toArray, List.set_cons_zero, List.set_cons_succ]
                        refine wpAnyH_ready (rs := [12]) (by kernel_rfl) (by simp) ?_
                        refine AllReadyH.cons rfl (fun K hK => ?_) ?_
                        · refine push64_step rfl (.tmp 126) (.tmp 136) rfl wH w9.heap.size j gl (.slice Ac0 j cc0) (joinZ (V.map (szU a b l1 l2)) (plcL V a) (plcL V b) l1 l2 z1 z2 k) _ HUU.out (by rfl) (by rfl) LC.out MM.out.own MM.out.kept.size (by omega) ?_
                          intro vI wI ho hg
                          obtain ⟨A9, c9, rfl⟩ := row_form ho
                          have MN := Lib.hid (MM.out.push (by omega) ho hg)
                          have RR := Lib.hid (MM.out.push_row (by omega) hg)
                          refine hK.out _ _ (holdY_grown hHeld (by omega) (by omega) (by omega) MM.out.own hg) (fun hHeld' => ?_)
                          clear hHeld
                          have hHeld := hHeld'
                          clear hHeld'
                          clear ho hg
                          clear hK K
                          try simp only [Act.put, List.getElem_toArray, List.getElem_cons_succ, List.getElem_cons_zero, List.setIfInBounds_toArray, List.set_cons_zero, List.set_cons_succ]
                          refine wpAnyH_take (i := 13) (v := ?v9010) rfl (by kernel_rfl) (by kernel_rfl) (by kernel_rfl) (fun _ _ _ h => h) (Or.inl ⟨by rfl, ?y9010⟩) (by assumption) ?r9010
                          case y9010 => ((intro w hSw; (try dsimp only at hSw); go_simp); try with_reducible rfl)
                          try simp only [Act.put, List.getElem_toArray, List.getElem_cons_succ, List.getElem_cons_zero, List.setIfInBounds_toArray, List.set_cons_zero, List.set_cons_succ]
                          refine wpAnyH_ready (rs := [14]) (by kernel_rfl) (by simp) ?_
                          refine AllReadyH.cons rfl (fun K hK => ?_) ?_
                          · have ac : wI.cell? ⟨w.heap.size + 1 + 1 + 1, 2, none⟩ = some (.slice Ac0 j cc0) := by rw [cell_of_row _ _ _ _ _ _ RR.out]; rfl
                            have af : wI.frozen? ⟨w.heap.size + 1 + 1 + 1, 2, none⟩ = false := frozen_of_row _ _ _ _ _ RR.out
                            go_simp
                            clear ac af
                            refine hK.out _ _ (holdY_set hHeld (by omega) (by omega) _) (fun hHeld' => ?_)
                            clear hHeld
                            have hHeld := hHeld'
                            clear hHeld'
                            clear hK K
                            try simp only [Act.put, List.getElem_toArray, List.getElem_cons_succ, List.getElem_cons_zero, List.setIfInBounds_toArray, List.set_cons_zero, List.set_cons_succ]
                            refine wpAnyH_done (by kernel_rfl) ?_ _
                            refine NoPanic.normal ?_
                            clear hHeld
                            generalize wI.setCell ⟨w.heap.size + 1 + 1 + 1, 2, none⟩ (.slice A9 (j + 1) c9) = wn at MN ⊢
                            go_wp2_with fail
                            go_roundw
                            case rel => exact ⟨j + 1, _, by omega, by go_num, MN.out⟩
                            case measure => simp [intOf]; omega
                          exact AllReadyH.nil
                        exact AllReadyH.nil
                      exact AllReadyH.nil
                    exact AllReadyH.nil
                  refine AllReadyH.cons rfl (fun K hK => ?_) ?_
                  · go_simp
                    refine (radd_any (z1 (numL l1 (pickL t (plcL V a)))) (z2 (numL l2 (pickL t (plcL V b)))) k wG (Z1.out _ FL1.out.num_lt).1 (by have := (Z1.out _ FL1.out.num_lt).2; omega) (Z2.out _ FL2.out.num_lt).1 (by have := (Z2.out _ FL2.out.num_lt).2; omega)).mono ?_
                    rintro e wZ ⟨rfl, rfl⟩
                    refine hK.out _ _ (hHeld) (fun hHeld' => ?_)
                    clear hHeld
                    have hHeld := hHeld'
                    clear hHeld'
                    clear hK K
                    try simp only [Act.put, List.getElem_toArray, List.getElem_cons_succ, List.getElem_cons_zero, List.setIfInBounds_toArray, List.set_cons_zero, List.set_cons_succ]
                    refine wpAnyH_ready (rs := [1, 11]) (by kernel_rfl) (by simp) ?_
                    refine AllReadyH.cons rfl (fun K hK => ?_) ?_
                    · have ac : wG.cell? ⟨w.heap.size + 1 + 1 + 1, 2, none⟩ = some (.slice Ac0 j cc0) := MM.out.cells.2.2.1
                      go_simp
                      clear ac
                      refine hK.out _ _ (hHeld) (fun hHeld' => ?_)
                      clear hHeld
                      have hHeld := hHeld'
                      clear hHeld'
                      clear hK K
                      try simp only [Act.put, List.getElem_toArray, List.getElem_cons_succ, List.getElem_cons_zero, List.setIfInBounds_toArray, List.set_cons_zero, List.set_cons_succ]
                      refine wpAnyH_ready (rs := [11]) (by kernel_rfl) (by simp) ?_
                      refine AllReadyH.cons rfl (fun K hK => ?_) ?_
                      · go_simp
                        have na := new_val wG (.cells #[.int .i64 (capA (z1 (numL l1 (pickL t (plcL V a)))) (z2 (numL l2 (pickL t (plcL V b)))) k)] 2)
                        have LC := Lib.hid (lit_new wG (.int .i64 (capA (z1 (numL l1 (pickL t (plcL V a)))) (z2 (numL l2 (pickL t (plcL V b)))) k)) 2)
                        have MM := Lib.hid (MM.out.next na)
                        refine hK.out _ _ (holdY hHeld na) (fun hHeld' => ?_)
                        clear hHeld
                        have hHeld := hHeld'
                        clear hHeld'
                        clear na
                        generalize wG.alloc (.cells #[.int .i64 (capA (z1 (numL l1 (pickL t (plcL V a)))) (z2 (numL l2 (pickL t (plcL V b)))) k)] 2) = wH at hHeld MM LC ⊢
                        generalize wG.heap.size = gl at LC ⊢
                        clear hK K
                        try simp only [Act.put, List.getElem_toArray, List.getElem_cons_succ, List.getElem_cons_zero, List.setIfInBounds_toArray, List.set_cons_zero, List.set_cons_succ]
                        refine wpAnyH_ready (rs := [12]) (by kernel_rfl) (by simp) ?_
                        refine AllReadyH.cons rfl (fun K hK => ?_) ?_
                        · refine push64_step rfl (.tmp 126) (.tmp 136) rfl wH w9.heap.size j gl (.slice Ac0 j cc0) (joinZ (V.map (szU a b l1 l2)) (plcL V a) (plcL V b) l1 l2 z1 z2 k) _ HUU.out (by rfl) (by rfl) LC.out MM.out.own MM.out.kept.size (by omega) ?_
                          intro vI wI ho hg
                          obtain ⟨A9, c9, rfl⟩ := row_form ho
                          have MN := Lib.hid (MM.out.push (by omega) ho hg)
                          have RR := Lib.hid (MM.out.push_row (by omega) hg)
                          refine hK.out _ _ (holdY_grown hHeld (by omega) (by omega) (by omega) MM.out.own hg) (fun hHeld' => ?_)
                          clear hHeld
                          have hHeld := hHeld'
                          clear hHeld'
                          clear ho hg
                          clear hK K
                          try simp only [Act.put, List.getElem_toArray, List.getElem_cons_succ, List.getElem_cons_zero, List.setIfInBounds_toArray, List.set_cons_zero, List.set_cons_succ]
                          refine wpAnyH_take (i := 13) (v := ?v9011) rfl (by kernel_rfl) (by kernel_rfl) (by kernel_rfl) (fun _ _ _ h => h) (Or.inl ⟨by rfl, ?y9011⟩) (by assumption) ?r9011
                          case y9011 => ((intro w hSw; (try dsimp only at hSw); go_simp); try with_reducible rfl)
                          try simp only [Act.put, List.getElem_toArray, List.getElem_cons_succ, List.getElem_cons_zero, List.setIfInBounds_toArray, List.set_cons_zero, List.set_cons_succ]
                          refine wpAnyH_ready (rs := [14]) (by kernel_rfl) (by simp) ?_
                          refine AllReadyH.cons rfl (fun K hK => ?_) ?_
                          · have ac : wI.cell? ⟨w.heap.size + 1 + 1 + 1, 2, none⟩ = some (.slice Ac0 j cc0) := by rw [cell_of_row _ _ _ _ _ _ RR.out]; rfl
                            have af : wI.frozen? ⟨w.heap.size + 1 + 1 + 1, 2, none⟩ = false := frozen_of_row _ _ _ _ _ RR.out
                            go_simp
                            clear ac af
                            refine hK.out _ _ (holdY_set hHeld (by omega) (by omega) _) (fun hHeld' => ?_)
                            clear hHeld
                            have hHeld := hHeld'
                            clear hHeld'
                            clear hK K
                            try simp only [Act.put, List.getElem_toArray, List.getElem_cons_succ, List.getElem_cons_zero, List.setIfInBounds_toArray, List.set_cons_zero, List.set_cons_succ]
                            refine wpAnyH_done (by kernel_rfl) ?_ _
                            refine NoPanic.normal ?_
                            clear hHeld
                            generalize wI.setCell ⟨w.heap.size + 1 + 1 + 1, 2, none⟩ (.slice A9 (j + 1) c9) = wn at MN ⊢
                            go_wp2_with fail
                            go_roundw
                            case rel => exact ⟨j + 1, _, by omega, by go_num, MN.out⟩
                            case measure => simp [intOf]; omega
                          exact AllReadyH.nil
                        exact AllReadyH.nil
                      exact AllReadyH.nil
                    refine AllReadyH.cons rfl (fun K hK => ?_) ?_
                    · go_simp
                      have na := new_val wG (.cells #[.int .i64 (capA (z1 (numL l1 (pickL t (plcL V a)))) (z2 (numL l2 (pickL t (plcL V b)))) k)] 2)
                      have LC := Lib.hid (lit_new wG (.int .i64 (capA (z1 (numL l1 (pickL t (plcL V a)))) (z2 (numL l2 (pickL t (plcL V b)))) k)) 2)
                      have MM := Lib.hid (MM.out.next na)
                      refine hK.out _ _ (holdY hHeld na) (fun hHeld' => ?_)
                      clear hHeld
                      have hHeld := hHeld'
                      clear hHeld'
                      clear na
                      generalize wG.alloc (.cells #[.int .i64 (capA (z1 (numL l1 (pickL t (plcL V a)))) (z2 (numL l2 (pickL t (plcL V b)))) k)] 2) = wH at hHeld MM LC ⊢
                      generalize wG.heap.size = gl at LC ⊢
                      clear hK K
                      try simp only [Act.put, List.getElem_toArray, List.getElem_cons_succ, List.getElem_cons_zero, List.setIfInBounds_toArray, List.set_cons_zero, List.set_cons_succ]
                      refine wpAnyH_ready (rs := [1]) (by kernel_rfl) (by simp) ?_
                      refine AllReadyH.cons rfl (fun K hK => ?_) ?_
                      · have ac : wH.cell? ⟨w.heap.size + 1 + 1 + 1, 2, none⟩ = some (.slice Ac0 j cc0) := MM.out.cells.2.2.1
                        go_simp
                        clear ac
                        refine hK.out _ _ (hHeld) (fun hHeld' => ?_)
                        clear hHeld
                        have hHeld := hHeld'
                        clear hHeld'
                        clear hK K
                        try simp only [Act.put, List.getElem_toArray, List.getElem_cons_succ, List.getElem_cons_zero, List.setIfInBounds_toArray, List.set_cons_zero, List.set_cons_succ]
                        refine wpAnyH_ready (rs := [12]) (by kernel_rfl) (by simp) ?_
                        refine AllReadyH.cons rfl (fun K hK => ?_) ?_
                        · refine push64_step rfl (.tmp 126) (.tmp 136) rfl wH w9.heap.size j gl (.slice Ac0 j cc0) (joinZ (V.map (szU a b l1 l2)) (plcL V a) (plcL V b) l1 l2 z1 z2 k) _ HUU.out (by rfl) (by rfl) LC.out MM.out.own MM.out.kept.size (by omega) ?_
                          intro vI wI ho hg
                          obtain ⟨A9, c9, rfl⟩ := row_form ho
                          have MN := Lib.hid (MM.out.push (by omega) ho hg)
                          have RR := Lib.hid (MM.out.push_row (by omega) hg)
                          refine hK.out _ _ (holdY_grown hHeld (by omega) (by omega) (by omega) MM.out.own hg) (fun hHeld' => ?_)
                          clear hHeld
                          have hHeld := hHeld'
                          clear hHeld'
                          clear ho hg
                          clear hK K
                          try simp only [Act.put, List.getElem_toArray, List.getElem_cons_succ, List.getElem_cons_zero, List.setIfInBounds_toArray, List.set_cons_zero, List.set_cons_succ]
                          refine wpAnyH_take (i := 13) (v := ?v9012) rfl (by kernel_rfl) (by kernel_rfl) (by kernel_rfl) (fun _ _ _ h => h) (Or.inl ⟨by rfl, ?y9012⟩) (by assumption) ?r9012
                          case y9012 => ((intro w hSw; (try dsimp only at hSw); go_simp); try with_reducible rfl)
                          try simp only [Act.put, List.getElem_toArray, List.getElem_cons_succ, List.getElem_cons_zero, List.setIfInBounds_toArray, List.set_cons_zero, List.set_cons_succ]
                          refine wpAnyH_ready (rs := [14]) (by kernel_rfl) (by simp) ?_
                          refine AllReadyH.cons rfl (fun K hK => ?_) ?_
                          · have ac : wI.cell? ⟨w.heap.size + 1 + 1 + 1, 2, none⟩ = some (.slice Ac0 j cc0) := by rw [cell_of_row _ _ _ _ _ _ RR.out]; rfl
                            have af : wI.frozen? ⟨w.heap.size + 1 + 1 + 1, 2, none⟩ = false := frozen_of_row _ _ _ _ _ RR.out
                            go_simp
                            clear ac af
                            refine hK.out _ _ (holdY_set hHeld (by omega) (by omega) _) (fun hHeld' => ?_)
                            clear hHeld
                            have hHeld := hHeld'
                            clear hHeld'
                            clear hK K
                            try simp only [Act.put, List.getElem_toArray, List.getElem_cons_succ, List.getElem_cons_zero, List.setIfInBounds_toArray, List.set_cons_zero, List.set_cons_succ]
                            refine wpAnyH_done (by kernel_rfl) ?_ _
                            refine NoPanic.normal ?_
                            clear hHeld
                            generalize wI.setCell ⟨w.heap.size + 1 + 1 + 1, 2, none⟩ (.slice A9 (j + 1) c9) = wn at MN ⊢
                            go_wp2_with fail
                            go_roundw
                            case rel => exact ⟨j + 1, _, by omega, by go_num, MN.out⟩
                            case measure => simp [intOf]; omega
                          exact AllReadyH.nil
                        exact AllReadyH.nil
                      exact AllReadyH.nil
                    exact AllReadyH.nil
                  exact AllReadyH.nil
                exact AllReadyH.nil
              exact AllReadyH.nil
        · have j1 : ¬ ((j : Int) < (P : Int)) := by omega
          obtain rfl : P = j := by omega
          obtain ⟨r0, r1, r2, r3⟩ := HM.out.cells
          have YR : Hid (wr.heap[w.heap.size + 1 + 1]? = _) := Lib.hid ((HM.out.kept.block _ (by omega) (by omega) (by omega)).trans Y9.out)
          clear hlt hj
          go_wp2_with ((with_reducible show wpList _ _ _ (Oper.mk none (.store 30 _ _) _ _ _ _ :: _) _ _); refine wpList_store_row rfl 30 (.tmp 8) (.tmp 140) rfl (w.heap.size + 1 + 1) #[.slice A7 m c7, .int .i64 k, .slice Ac0 P cc0] rfl rfl 30 #[.slice none 0 0, .int .i64 0, .slice none 0 0] YR.out (by kernel_rfl) rfl (by simp [Value.oneCell']) ?_)
          have hrow := setRow_heap wr (w.heap.size + 1 + 1) _ #[.slice A7 m c7, .int .i64 k, .slice Ac0 P cc0] _ _ YR.out
          have O8w : Own wr w4.heap.size (.slice A7 m c7) (V.map (szU a b l1 l2)) := own_kept2 O9.out HM.out.kept (by have := z4.out; omega)
          have OF : Own (wr.setRow (w.heap.size + 1 + 1) #[.slice A7 m c7, .int .i64 k, .slice Ac0 P cc0]) w4.heap.size (.slice A7 m c7) (V.map (szU a b l1 l2)) := World.ownsRow.kept O8w (grown_setRow wr (w.heap.size + 1 + 1) _) (row_far O8w (by have := z4.out; omega))
          have Q8w : Own wr w4.heap.size (.slice A6 m c6) V := own_kept2 Q9.out HM.out.kept (by have := z4.out; omega)
          have QF : Own (wr.setRow (w.heap.size + 1 + 1) #[.slice A7 m c7, .int .i64 k, .slice Ac0 P cc0]) w4.heap.size (.slice A6 m c6) V := World.ownsRow.kept Q8w (grown_setRow wr (w.heap.size + 1 + 1) _) (row_far Q8w (by have := z4.out; omega))
          obtain ⟨A', c', e, hIF⟩ := OF.form
          injection e with e _ _
          subst e
          obtain ⟨A', c', e, hIV⟩ := QF.form
          injection e with e _ _
          subst e
          refine bodyPost_ret (results_rt3 rfl _ _ (w.heap.size + 1 + 1) _ _ _ rfl hrow) rfl (show RjPost w a b V l1 l2 k z1 z2 m P _ _ from ⟨.inl ⟨HAG.out, A7, c7, Ac0, cc0, A6, c6, rfl, hIF, ?_, hIV⟩, below_setRow (HM.out.kept.below BB.out (by omega) (by omega) (by omega)) (by omega) _⟩)
          exact zs_row (World.ownsRow.kept HM.out.own (grown_setRow wr (w.heap.size + 1 + 1) _) (row_far HM.out.own (by omega)))
end Go.Proofs.YtpdcpaoabalgcaaGreatDoor
