/- Texts of this seat laid together (no statement of its own). -/
import Derived.Test.YtdmldnlgamnkeaaGreatUm
import Derived.Test.YtdmldnlgamnkeaaGreatTxa
namespace Go.Proofs.YtdmldnlgamnkeaaGreat
open Go.RowKit Go.Maps
set_option linter.unusedVariables false
abbrev HoldTb (w0 : World) (g nl c : Nat) (A : Option Addr) (k o : Int) (W : World) : Prop :=
  W.cell? ⟨g, 0, none⟩ = some (.slice A nl c) ∧ W.cell? ⟨g, 1, none⟩ = some (.int .i64 k) ∧ W.cell? ⟨g, 2, none⟩ = some (.int .i64 o) ∧ Below w0.heap.size w0 W
theorem HoldTb.below {w0 W : World} {g nl c : Nat} {A : Option Addr} {k o : Int} (H : HoldTb w0 g nl c A k o W) : Below w0.heap.size w0 W := H.2.2.2
abbrev HoldsTb (w0 : World) (g nl c : Nat) (A : Option Addr) (k o : Int) : Prop := ∀ W, Below w0.heap.size w0 W → HoldTb w0 g nl c A k o W
theorem HoldTb.next {w0 W W' : World} {g nl c : Nat} {A : Option Addr} {k o : Int} (HF : Hid (HoldsTb w0 g nl c A k o)) (H : HoldTb w0 g nl c A k o W) (hb : Below W.heap.size W W') : HoldTb w0 g nl c A k o W' :=
  HF.out _ (H.below.trans (hb.mono H.below.size))
theorem TpAt.holds {w : World} {g b : Nat} {A : Option Addr} {c N : Nat} {l : List Nat} {k o : Int} {f : List Nat → Int} (H : TpAt w g b A c N l k o f) : Hid (HoldsTb w g l.length c A k o) := Lib.hid fun W hb => by
  obtain ⟨a0, a1, a2, a3⟩ := (H.below hb).cells
  exact ⟨a0, a1, a2, hb⟩
theorem walks_grown {W W' : World} {h : Nat} {cur : Array Value} {e : TypeId} {fz : Nat × Nat} (hc : W.heap[h]? = some (.cells cur e fz)) (hg : W.grownBy W' (some h)) : KeepsWalks W W' :=
  ⟨hg.size, fun k o hk ho => (hg.block k (Array.getElem?_eq_some_iff.1 hk).1 (fun e => by
    injection e with e
    subst e
    rw [hc] at hk
    cases hk
    cases ho)).trans hk⟩
theorem tptable_nil (w : World) : Calls Tryz.prog 11 #[.pointer none] w fun e w' => e = .returned (.tuple #[.pointer none, .int .i64 2]) ∧ w = w' := by
  go_enter Tryz.func11, Tryz.ntmps11
  go_wp2_with fail
  go_ret2
  exact ⟨rfl, rfl⟩
set_option maxRecDepth 100000 in
set_option maxHeartbeats 1000000 in
theorem tptable_fell (g b N c : Nat) (A : Option Addr) (l : List Nat) (k o E : Int) (f : List Nat → Int) (w : World) (H : TpAt w g b A c N l k o f) (hE : decide (E = 0) = false)
    (hN : ∀ W, Below w.heap.size w W → Calls Tryz.prog 7 #[.slice A l.length c, .int .i64 k, .int .i64 o] W fun e w' => e = .returned (.tuple #[.pointer none, .int .i64 E]) ∧ Below W.heap.size W w') :
    Calls Tryz.prog 11 #[.pointer (some ⟨g, 0, none⟩)] w fun e w' => e = .returned (.tuple #[.pointer none, .int .i64 E]) ∧ Below w.heap.size w w' := by
  have HF := H.holds
  have HN := Lib.hid hN
  have d : (E != 0) = true := by simpa using hE
  clear H hN
  go_enter Tryz.func11, Tryz.ntmps11
  go_upto_region 3 with fail
  go_region_held3 (fun W => HoldTb w g l.length c A k o W) (first | exact HF.out _ ((Below.refl _ _).drew) | assumption | exact HoldTb.next HF (by assumption) (by assumption))
    ((go_at_call 7; refine (HN.out _ (HoldTb.below (by assumption))).mono ?_; rintro e w1 ⟨rfl, b1⟩))
  all_goals
    go_wp2_with fail
    go_ret2
    exact ⟨rfl, HoldTb.below (by assumption)⟩
end Go.Proofs.YtdmldnlgamnkeaaGreat

namespace Go.Proofs.YtdmldnlgamnkeaaGreat
open Go.RowKit Go.Maps
set_option linter.unusedVariables false
/-- The costs so far: those that have come are f's. -/
def Come (left : Lit → Bool) (l : List Nat) (o : Int) (f : List Nat → Int) (z : Nat → Int) : Prop := ∀ i, i < prodL l → z i = f (tupL l i) ∨ (z i = o ∧ left (keyL (tupL l i)) = true)
theorem Come.start {D : DataW Unit} {l : List Nat} {o : Int} {f : List Nat → Int} (hrep : RepF D l o f) (hl : ∀ n ∈ l, 1 ≤ n) : Come (Maps.has D) l o f (fun _ => o) := fun i hi => by
  rw [(hrep.1 _ (tupL_in hl i)).1]
  by_cases e : f (tupL l i) = o
  · exact .inl e.symm
  · exact .inr ⟨rfl, decide_eq_true e⟩
theorem Come.step {left : Lit → Bool} {l t : List Nat} {o : Int} {f : List Nat → Int} {z : Nat → Int} (H : Come left l o f z) (h6 : l.length ≤ 6) (h32 : ∀ n ∈ l, 1 ≤ n ∧ n ≤ 32) (ht : InL l t) : Come (fun y => left y && !y.sameKey (keyL t)) l o f (fun i => if i = numL l t then f t else z i) := fun i hi => by
  by_cases e : i = numL l t
  · left
    show (if i = numL l t then f t else z i) = _
    rw [if_pos e, e, ht.tup]
  · show (if i = numL l t then f t else z i) = _ ∨ (if i = numL l t then f t else z i) = _ ∧ _
    rw [if_neg e]
    rcases H i hi with h | ⟨h1, h2⟩
    · exact .inl h
    · by_cases e2 : keyL (tupL l i) = keyL t
      · have h7 := keyL_inj h6 (fun n hn => (h32 n hn).2) (tupL_in (fun n hn => (h32 n hn).1) i) ht e2
        exact absurd (by rw [← h7, num_tup hi]) e
      · refine .inr ⟨h1, ?_⟩
        show (left (keyL (tupL l i)) && !(keyL (tupL l i)).sameKey (keyL t)) = true
        rw [h2, sameKey_ne e2]
        rfl
theorem Come.done {left : Lit → Bool} {l : List Nat} {o : Int} {f : List Nat → Int} {z : Nat → Int} (H : Come left l o f z) (h0 : ∀ y, left y = false) : ∀ i, i < prodL l → z i = f (tupL l i) := fun i hi => by
  rcases H i hi with h | ⟨h1, h2⟩
  · exact h
  · rw [h0] at h2
    cases h2
theorem tab_congr {w : World} {g h : Nat} {l : List Nat} {k : Int} {z z' : Nat → Int} (H : TabAt w g h l k z) (he : ∀ i, i < prodL l → z i = z' i) : TabAt w g h l k z' := by
  obtain ⟨cur, h1, h2, h3⟩ := H.costs
  exact ⟨H.row, cur, h1, h2, fun i hi => by rw [h3 i hi, he i hi]⟩
set_option maxRecDepth 100000 in
set_option maxHeartbeats 1000000 in
theorem tptable_ok (g b N c : Nat) (A : Option Addr) (l : List Nat) (k o : Int) (f : List Nat → Int) (w : World) (H : TpAt w g b A c N l k o f) (h6 : l.length ≤ 6) (h32 : ∀ n ∈ l, 1 ≤ n ∧ n ≤ 32) (hp : prodL l ≤ 4096) (ho : InK o k) (hfk : ∀ t, InL l t → InK (f t) k) :
    Calls Tryz.prog 11 #[.pointer (some ⟨g, 0, none⟩)] w fun e w' => (∃ g' h', e = .returned (.tuple #[.pointer (some ⟨g', 0, none⟩), .int .i64 0]) ∧ TabAt w' g' h' l k (fun i => f (tupL l i))) ∧ Below w.heap.size w w' := by
  have HF := H.holds
  have HT := Lib.hid H
  have HN : Hid (∀ W, Below w.heap.size w W → Calls Tryz.prog 7 #[.slice A l.length c, .int .i64 k, .int .i64 o] W fun e w' => ∃ g h, e = .returned (.tuple #[.pointer (some ⟨g, 0, none⟩), .int .i64 0]) ∧ TabAt w' g h l k (fun _ => o) ∧ W.heap.size ≤ g ∧ W.heap.size ≤ h ∧ Below W.heap.size W w') :=
    Lib.hid fun W hb => tnew_ok A l.length c l k o W rfl h6 (H.below hb).ints h32 hp ho.1 ho.2.1 ho.2.2.1 ho.2.2.2
  have H32 := Lib.hid h32
  have HFK := Lib.hid hfk
  have HO := Lib.hid ho
  clear H h32 hfk ho hp
  go_enter Tryz.func11, Tryz.ntmps11
  go_upto_region 3 with fail
  go_region_held3 (fun W => HoldTb w g l.length c A k o W) (first | exact HF.out _ ((Below.refl _ _).drew) | assumption | exact HoldTb.next HF (by assumption) (by assumption))
    ((go_at_call 7; refine (HN.out _ (HoldTb.below (by assumption))).mono ?_; rintro e w1 ⟨gt, ht, rfl, hT1, hg1, hh1, b1⟩))
  have B1 : Hid (Below w.heap.size w w1) := Lib.hid (HoldTb.below (by assumption))
  have T1 := Lib.hid hT1
  have P1 := Lib.hid (HT.out.below B1.out)
  have hh1' : w.heap.size ≤ ht := hh1
  have hg1' : w.heap.size ≤ gt := hg1
  obtain ⟨D, hown, hrep⟩ := P1.out.map
  have HR := Lib.hid hrep
  have HO1 := Lib.hid hown
  have a3 := P1.out.cells.2.2.2
  clear hT1 hg1 hh1 hown hrep HN
  go_wp2_with (first | (at_range; refine wpList_range_own _ rfl _ 74 rfl 77 2 keyed Tryz.underlying74 _ b N D rfl HO1.out ?_; intro w0 hrg0 hg0 hs0) | go_in)
  have hT0 := T1.out
  have B0 : Hid (Below w.heap.size w w0) := Lib.hid (B1.out.grown hg0 B1.out.size (fun k hk => by cases hk))
  have T0 : Hid (TabAt w0 gt ht l k (fun _ => o)) := by
    obtain ⟨cur, c1, c2, c3⟩ := hT0.costs
    exact Lib.hid ⟨(hg0.block gt (Array.getElem?_eq_some_iff.1 hT0.row).1 (by simp)).trans hT0.row, cur, (hg0.block ht (Array.getElem?_eq_some_iff.1 c1).1 (by simp)).trans c1, c2, c3⟩
  have hbr : b < w1.heap.size := P1.out.lt
  have hgt : gt < w1.heap.size := (Array.getElem?_eq_some_iff.1 hT0.row).1
  have hht : ht < w1.heap.size := by obtain ⟨cur, c1, _⟩ := hT0.costs; exact (Array.getElem?_eq_some_iff.1 c1).1
  have hwr : w.heap.size ≤ w1.heap.size := B1.out.size
  clear hT0 T1 hg0 hs0 a3 HO1
  go_frame
  go_loopw [34] (fun _ wr => ∃ (left : Lit → Bool) (cnt : Nat) (z : Nat → Int), wr.ranges Tryz.prog 77 (plainElem Tryz.prog 2) b w1.heap.size N D left cnt ∧ Come left l o f z ∧ TabAt wr gt ht l k z ∧ Below w.heap.size w wr)
    (fun _ wr => wr.rangeLeft b w1.heap.size)
  case atStart => exact ⟨_, _, _, hrg0, Come.start HR.out (fun n hn => (H32.out n hn).1), T0.out, B0.out⟩
  case round =>
    obtain ⟨left, cnt, z, hrg, hC, hT, hB⟩ := hrel
    have HC := Lib.hid hC
    have TR := Lib.hid hT
    have BR := Lib.hid hB
    clear hC hT hB T0 B0 hrg0
    go_wp2_with (first
      | (at_next; refine wpList_next_ranges _ rfl _ rfl 77 keyed (plainElem Tryz.prog 2) id (Value.int .i64) (fun key kl hk => ⟨key, rfl⟩) (fun v y hv => by obtain ⟨c, rfl, _⟩ := plainElem_int_inv Tryz.underlying2 hv; exact ⟨c, rfl⟩) b w1.heap.size N D left cnt rfl hrg ?_ ?_)
      | go_in)
    · intro hc0 hl0
      have TF := Lib.hid (tab_congr TR.out (HC.out.done hl0))
      go_wp2_with fail
      go_ret2
      exact ⟨⟨_, _, rfl, TF.out⟩, BR.out⟩
    · intro x cc kl yd yp w2 cnt2 hkey hlk hv hat hrg2 hlt hg2 hs2 hen
      have hhas : Maps.has D kl = true := has_true_of_atKey hat
      obtain ⟨t, hin, rfl⟩ := HR.out.2 kl hhas
      obtain rfl : x = keyV t := keyed.inj hkey (keyOf_key (hin.small fun n hn => (H32.out n hn).2))
      obtain ⟨c', e1, hc1, _⟩ := plainElem_int_inv Tryz.underlying2 hv
      have hfo : f t ≠ o := by
        have := (HR.out.1 t hin).1
        rw [hhas] at this
        exact of_decide_eq_true this.symm
      obtain rfl : cc = f t := by
        injection e1 with _ e1
        have h1 := hat (.lit (.int .i64 0))
        rw [(HR.out.1 t hin).2 hfo, (Prod.mk.inj hc1).1] at h1
        have := (Lit.int.inj (DataW.lit.inj h1)).2
        omega
      have TR2 : Hid (TabAt w2 gt ht l k z) := by
        obtain ⟨cur, c1, c2, c3⟩ := TR.out.costs
        exact Lib.hid ⟨(hg2.block gt (Array.getElem?_eq_some_iff.1 TR.out.row).1 (fun e => by injection e; omega)).trans TR.out.row, cur, (hg2.block ht (Array.getElem?_eq_some_iff.1 c1).1 (fun e => by injection e; omega)).trans c1, c2, c3⟩
      have B2 : Hid (Below w.heap.size w w2) := Lib.hid (BR.out.grown hg2 BR.out.size (fun k hk => by injection hk; omega))
      have n3 := new_val w2 (.cells (kyC t) 77)
      have T3 := Lib.hid (TR2.out.below n3)
      have B3 := Lib.hid (B2.out.trans (n3.mono B2.out.size))
      have hrg3 := hrg2.alloc (.cells (kyC t) 77)
      obtain ⟨y0, y1, y2, y3, y4, y5⟩ := ky_cells (heap_alloc_new w2 (.cells (kyC t) 77))
      have hlen := hin.length
      have PUT : Hid (Calls Tryz.prog 9 #[.pointer (some ⟨gt, 0, none⟩), .slice (some ⟨w2.heap.size, 0, none⟩) l.length 6, .int .i64 (f t)] (w2.alloc (.cells (kyC t) 77)) fun e w' => e = .returned (.int .i64 0) ∧ TabAt w' gt ht l k (fun i => if i = numL l t then f t else z i) ∧ (w2.alloc (.cells (kyC t) 77)).grownBy w' (some ht)) :=
        Lib.hid (tput_ok gt ht (some ⟨w2.heap.size, 0, none⟩) l.length 6 (numL l t) l t k (f t) z _ T3.out hlen.symm h6 (fun n hn => (H32.out n hn).2) (.inr ⟨_, 0, rfl, by simp, fun i hi => by
          rw [hlen] at hi
          rcases (by omega : i = 0 ∨ i = 1 ∨ i = 2 ∨ i = 3 ∨ i = 4 ∨ i = 5) with rfl | rfl | rfl | rfl | rfl | rfl <;> assumption⟩) hin rfl hin.num_lt HO.out.1 HO.out.2.1 (HFK.out t hin).2.2.1 (HFK.out t hin).2.2.2)
      have C2 := Lib.hid (HC.out.step h6 H32.out hin)
      have a0 := (HF.out _ B3.out).1
      have hl6 : (l.length : Int) ≤ 6 := by omega
      have hl0 : (0 : Int) ≤ (l.length : Int) := by omega
      obtain ⟨cur, hcur, _⟩ := T3.out.costs
      have HCU := Lib.hid hcur
      clear hs2 hg2 hat hc1 e1 hv hkey hhas hfo hlen hin n3 y0 y1 y2 y3 y4 y5 TR TR2 BR B2 hlk hcur hgt hht
      go_upto_region 9 with ((with_reducible show wpList _ _ _ (Oper.mk none (.store 77 _ _) _ _ _ _ :: _) _ _); refine wpList_store_row rfl 77 (.tmp 6) (.tmp 37) rfl w2.heap.size (kyC t) rfl rfl 77 kyZ (heap_alloc_new _ _) (by kernel_rfl) rfl (ky_one t) ?_; rw [World.setRow_alloc_new])
      go_wp2_with fail
      refine PUT.out.mono ?_
      rintro e w4 ⟨rfl, hT4, hg4⟩
      have T4 := Lib.hid hT4
      have hrg4 := hrg3.of_walks (walks_grown HCU.out hg4)
      have B4 := Lib.hid (B3.out.grown hg4 B3.out.size (fun k hk => by injection hk; omega))
      clear hT4 hg4 PUT
      go_wp2_with fail
      go_roundw
      case rel => exact ⟨_, cnt2, _, hrg4, C2.out, T4.out, B4.out⟩
      case measure => rw [hrg4.left_eq, hrg.left_eq]; exact hlt
end Go.Proofs.YtdmldnlgamnkeaaGreat

namespace Go.Proofs.YtdmldnlgamnkeaaGreat
open Go.RowKit Go.Maps
set_option linter.unusedVariables false
theorem tplen_ok (g b N c : Nat) (A : Option Addr) (l : List Nat) (k o : Int) (f : List Nat → Int) (w : World) (H : TpAt w g b A c N l k o f) (h6 : l.length ≤ 6) (h32 : ∀ n ∈ l, 1 ≤ n ∧ n ≤ 32) :
    Calls Tryz.prog 36 #[.pointer (some ⟨g, 0, none⟩)] w fun e w' => e = .returned (.int .i64 ((linesT l o f).length : Int)) ∧ w = w' := by
  obtain ⟨D, hown, hrep⟩ := H.map
  have HS := Lib.hid (size_lines hown hrep h6 h32)
  have HO := Lib.hid hown
  obtain ⟨a0, a1, a2, a3⟩ := H.cells
  clear H hown hrep h32
  generalize (linesT l o f).length = n at HS ⊢
  go_enter Tryz.func36, Tryz.ntmps36
  go_wp2_with (at_len; refine wpList_len_own _ rfl _ 74 rfl 77 2 Tryz.underlying74 _ b N D rfl HO.out ?_; rw [HS.out])
  go_ret
  exact ⟨rfl, rfl⟩
theorem tplen_nil (w : World) : Calls Tryz.prog 36 #[.pointer none] w fun e w' => e = .returned (.int .i64 0) ∧ w = w' := by
  go_enter Tryz.func36, Tryz.ntmps36
  go_wp2_with fail
  go_ret
  exact ⟨rfl, rfl⟩
theorem tparity_ok (g b N c : Nat) (A : Option Addr) (l : List Nat) (k o : Int) (f : List Nat → Int) (w : World) (H : TpAt w g b A c N l k o f) :
    Calls Tryz.prog 33 #[.pointer (some ⟨g, 0, none⟩)] w fun e w' => e = .returned (.int .i64 (l.length : Int)) ∧ w = w' := by
  obtain ⟨a0, a1, a2, a3⟩ := H.cells
  clear H
  go_enter Tryz.func33, Tryz.ntmps33
  go_wp2_with fail
  go_ret
  exact ⟨rfl, rfl⟩
theorem tparity_nil (w : World) : Calls Tryz.prog 33 #[.pointer none] w fun e w' => e = .returned (.int .i64 0) ∧ w = w' := by
  go_enter Tryz.func33, Tryz.ntmps33
  go_wp2_with fail
  go_ret
  exact ⟨rfl, rfl⟩
theorem tpk_ok (g b N c : Nat) (A : Option Addr) (l : List Nat) (k o : Int) (f : List Nat → Int) (w : World) (H : TpAt w g b A c N l k o f) :
    Calls Tryz.prog 31 #[.pointer (some ⟨g, 0, none⟩)] w fun e w' => e = .returned (.int .i64 k) ∧ w = w' := by
  obtain ⟨a0, a1, a2, a3⟩ := H.cells
  clear H
  go_enter Tryz.func31, Tryz.ntmps31
  go_wp2_with fail
  go_ret
  exact ⟨rfl, rfl⟩
theorem tpk_nil (w : World) : Calls Tryz.prog 31 #[.pointer none] w fun e w' => e = .returned (.int .i64 0) ∧ w = w' := by
  go_enter Tryz.func31, Tryz.ntmps31
  go_wp2_with fail
  go_ret
  exact ⟨rfl, rfl⟩
theorem tpother_ok (g b N c : Nat) (A : Option Addr) (l : List Nat) (k o : Int) (f : List Nat → Int) (w : World) (H : TpAt w g b A c N l k o f) :
    Calls Tryz.prog 32 #[.pointer (some ⟨g, 0, none⟩)] w fun e w' => e = .returned (.int .i64 o) ∧ w = w' := by
  obtain ⟨a0, a1, a2, a3⟩ := H.cells
  clear H
  go_enter Tryz.func32, Tryz.ntmps32
  go_wp2_with fail
  go_ret
  exact ⟨rfl, rfl⟩
theorem tpother_nil (w : World) : Calls Tryz.prog 32 #[.pointer none] w fun e w' => e = .returned (.int .i64 0) ∧ w = w' := by
  go_enter Tryz.func32, Tryz.ntmps32
  go_wp2_with fail
  go_ret
  exact ⟨rfl, rfl⟩
theorem tpsizes_ok (g b N c : Nat) (A : Option Addr) (l : List Nat) (k o : Int) (f : List Nat → Int) (w : World) (H : TpAt w g b A c N l k o f) (h6 : l.length ≤ 6) :
    Calls Tryz.prog 34 #[.pointer (some ⟨g, 0, none⟩)] w fun e w' => (∃ v, e = .returned v ∧ Own w' w.heap.size v l) ∧ Below w.heap.size w w' := by
  obtain ⟨a0, a1, a2, a3⟩ := H.cells
  have HC := Lib.hid (clone_any A c l w (by omega) H.ints)
  clear H
  go_enter Tryz.func34, Tryz.ntmps34
  go_wp2_with fail
  refine HC.out.mono ?_
  rintro e w1 ⟨⟨v, rfl, hv⟩, hb⟩
  have HV := Lib.hid hv
  have HB := Lib.hid hb
  clear hv hb
  go_wp2_with fail
  go_ret
  exact ⟨⟨_, rfl, HV.out⟩, HB.out⟩
theorem tpsizes_nil (w : World) : Calls Tryz.prog 34 #[.pointer none] w fun e w' => e = .returned (.slice none 0 0) ∧ w = w' := by
  go_enter Tryz.func34, Tryz.ntmps34
  go_wp2_with fail
  go_ret
  exact ⟨rfl, rfl⟩
set_option maxRecDepth 100000 in
theorem tplines_nil (w : World) : Calls Tryz.prog 17 #[.pointer none] w fun e w' => e = .returned (.slice none 0 0) ∧ w = w' := by
  go_enter Tryz.func17, Tryz.ntmps17
  go_wp2_with fail
  go_ret
  exact ⟨rfl, rfl⟩
set_option maxRecDepth 100000 in
theorem tpget_nil (A : Option Addr) (n c : Nat) (w : World) : Calls Tryz.prog 37 #[.pointer none, .slice A n c] w fun e w' => e = .returned (.tuple #[.int .i64 0, .int .i64 2]) ∧ w = w' := by
  go_enter Tryz.func37, Tryz.ntmps37
  go_wp2_with fail
  go_ret2
  exact ⟨rfl, rfl⟩
set_option maxRecDepth 100000 in
theorem tpput_nil (A : Option Addr) (n c : Nat) (x : Int) (w : World) : Calls Tryz.prog 16 #[.pointer none, .slice A n c, .int .i64 x] w fun e w' => e = .returned (.int .i64 2) ∧ w = w' := by
  go_enter Tryz.func16, Tryz.ntmps16
  go_wp2_with fail
  go_ret
  exact ⟨rfl, rfl⟩
theorem eql_nil_ptr (g : Nat) (w : World) : (binOp .eql 39 (.pointer none) (.pointer (some ⟨g, 0, none⟩))).run Tryz.prog w = .ok (.bool false) w := by
  have h : Tryz.prog.underlying 39 = some (.pointer (Tryz.prog.pointee 39)) := by kernel_rfl
  have h1 : ∀ d : Nat, (Op.equalIn (d + 1) 39 (.pointer none) (.pointer (some ⟨g, 0, none⟩))).run Tryz.prog w = .ok false w := fun d => by simp [Op.equalIn, run_underlying h]
  simp only [binOp]
  simp [Op.equal, Op.maxDepth, h1 9999]
end Go.Proofs.YtdmldnlgamnkeaaGreat
