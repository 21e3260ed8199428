/- The walk of ShapeTuples. No condition. -/
import Derived.Test.YtcfendilaogjlaaShR0
import Derived.Test.YtcfendilaogjlaaRAll
import Derived.Sort.CutIn
namespace Go.Proofs.Ytcfendilaogjlaa
open Go.RowKit Go.Shelf
set_option linter.unusedVariables false
attribute [local go_sem] Oper.semAt_some
abbrev HoldU (w0 : World) (g ga gs P ca c : Nat) (Aa A : Option Addr) (l : List Nat) (W : World) : Prop :=
  W.cell? ⟨g, 0, none⟩ = some (.int .i64 (l.length : Int)) ∧ W.cell? ⟨g, 1, none⟩ = some (szV l 0) ∧ W.cell? ⟨g, 2, none⟩ = some (szV l 1) ∧ W.cell? ⟨g, 3, none⟩ = some (szV l 2) ∧
  W.cell? ⟨g, 4, none⟩ = some (szV l 3) ∧ W.cell? ⟨g, 5, none⟩ = some (szV l 4) ∧ W.cell? ⟨g, 6, none⟩ = some (szV l 5) ∧ W.cell? ⟨ga, 0, none⟩ = some (.slice Aa P ca) ∧ W.cell? ⟨gs, 0, none⟩ = some (.slice A l.length c) ∧ Below w0.heap.size w0 W
theorem holdU {w0 W W' : World} {g ga gs P ca c : Nat} {Aa A : Option Addr} {l : List Nat} (h : HoldU w0 g ga gs P ca c Aa A l W) (hb : Below W.heap.size W W') : HoldU w0 g ga gs P ca c Aa A l W' := by
  obtain ⟨h0, h1, h2, h3, h4, h5, h6, h7, h8, h9⟩ := h
  have l0 : g < W.heap.size := World.block_lt_of_cell? W _ h0
  have l1 : ga < W.heap.size := World.block_lt_of_cell? W _ h7
  have l2 : gs < W.heap.size := World.block_lt_of_cell? W _ h8
  exact ⟨(hb.cell (p := ⟨_, 0, none⟩) l0).trans h0, (hb.cell (p := ⟨_, 1, none⟩) l0).trans h1, (hb.cell (p := ⟨_, 2, none⟩) l0).trans h2, (hb.cell (p := ⟨_, 3, none⟩) l0).trans h3, (hb.cell (p := ⟨_, 4, none⟩) l0).trans h4,
    (hb.cell (p := ⟨_, 5, none⟩) l0).trans h5, (hb.cell (p := ⟨_, 6, none⟩) l0).trans h6, (hb.cell (p := ⟨_, 0, none⟩) l1).trans h7, (hb.cell (p := ⟨_, 0, none⟩) l2).trans h8, h9.trans (hb.mono h9.size)⟩
theorem holdU_below {w0 W : World} {g ga gs P ca c : Nat} {Aa A : Option Addr} {l : List Nat} (h : HoldU w0 g ga gs P ca c Aa A l W) : Below w0.heap.size w0 W := h.2.2.2.2.2.2.2.2.2
theorem holdU_ints {w0 W : World} {g ga gs P ca c : Nat} {Aa A : Option Addr} {l : List Nat} (hi : Ints w0 A l) (h : HoldU w0 g ga gs P ca c Aa A l W) : Ints W A l := hi.below (holdU_below h) (Nat.le_refl _)
theorem rall_any' (A : Option Addr) (n c : Nat) (l : List Nat) (P : Nat) (w : World) (hn : n = l.length) (h6 : l.length ≤ 6) (h0 : l.length ≤ c) (h32 : ∀ n ∈ l, 1 ≤ n ∧ n ≤ 32) (hP : prodL l = P) (hP2 : P ≤ 4096) (hI : Ints w A l) :
    Calls Try.prog 7 #[.slice A n c] w fun e w' => (∃ A' c', e = .returned (.slice A' P c') ∧ RowsT w' w.heap.size (.slice A' P c') (allL l)) ∧ Below w.heap.size w w' := by
  subst hn hP
  refine (rall_any l A c w h6 h0 h32 hP2 hI).mono ?_
  rintro e w' ⟨⟨v, rfl, hR⟩, hb⟩
  obtain ⟨A', c', hv, _⟩ := hR.form
  rw [allL_length] at hv
  subst hv
  exact ⟨⟨A', c', rfl, hR⟩, hb⟩
theorem arity_below (l : List Nat) (w : World) : Calls Try.prog 9 #[shV l] w fun e w' => e = .returned (.int .i64 (l.length : Int)) ∧ Below w.heap.size w w' :=
  (arity_any l w).mono fun _ _ ⟨h1, h2⟩ => ⟨h1, by subst h2; exact new_val _ _⟩
theorem own_cap {w : World} {base n c : Nat} {A : Option Addr} {l : List Nat} (h : Own w base (.slice A n c) l) : n ≤ c := by
  obtain ⟨_, ⟨e, _⟩ | ⟨g, cap, cur, e, _, _, hm, _⟩⟩ := h
  · injection e with _ e2 e3
    omega
  · injection e with _ e2 e3
    omega
structure TI (w8 : World) (pre : List (Nat × Value)) (W : World) : Prop where
  bel : Below w8.heap.size w8 W
  cnt : Boxed W w8.heap.size 3 (.int .i64 (pre.length : Int))
theorem ti_from {w8 : World} {B : Nat} (hB : w8.heap.size ≤ B) : OwnFrom B (fun pre W => TI w8 pre W) := fun s X Y row hs hg hr =>
  ⟨ownFrom_below (Nat.le_refl _) hB () X Y row hs.bel hg hr, Own.from (boxed_own w8.heap.size _ (fun pre : List (Nat × Value) => .int .i64 (pre.length : Int))) B s X Y row hs.cnt hg hr⟩
structure BI (w8 Wp W : World) (B0 Bs k n ct : Nat) (At : Option Addr) (t : List Nat) (X : World) : Prop where
  bel : Below w8.heap.size w8 X
  cnt : Boxed X w8.heap.size 3 (.int .i64 (k : Int))
  own : Own X Wp.heap.size (.slice At n ct) t
  keeps : KeepsFrom B0 W X
  keep : Keep1 Bs W X
theorem BI.next {w8 Wp W X Y : World} {B0 Bs k n ct : Nat} {At : Option Addr} {t : List Nat} (h : BI w8 Wp W B0 Bs k n ct At t X) (hBs : Bs < W.heap.size) (hb : Below X.heap.size X Y) : BI w8 Wp W B0 Bs k n ct At t Y :=
  ⟨h.bel.trans (hb.mono h.bel.size), box_below h.cnt hb, h.own.below hb (Nat.le_refl _), h.keeps.trans (KeepsFrom.of_grownBy (grown_of_below hb) (fun j e => by cases e)), h.keep.trans (Keep1.of_below hb (Nat.lt_of_lt_of_le hBs h.keep.1))⟩
theorem BI.drew {w8 Wp W X : World} {B0 Bs k n ct : Nat} {At : Option Addr} {t : List Nat} (h : BI w8 Wp W B0 Bs k n ct At t X) (hBs : Bs < W.heap.size) (m : Nat) : BI w8 Wp W B0 Bs k n ct At t (X.drewN m) := by
  have hb : Below X.heap.size X (X.drewN m) := next_drewN (Below.refl X.heap.size X) m
  exact BI.next (Y := X.drewN m) h hBs hb
theorem BI.store {w8 Wp W X : World} {B0 Bs k n ct : Nat} {At : Option Addr} {t : List Nat} (h : BI w8 Wp W B0 Bs k n ct At t X) (hBs : Bs < B0) (hW : B0 ≤ W.heap.size) (hB0 : B0 ≤ Wp.heap.size) (h8 : w8.heap.size < Wp.heap.size) {j : Nat} (hj : j < t.length) (hn : t.length = n) (y : Nat) :
    ∃ g, At = some ⟨g, 0, none⟩ ∧ X.cell? ⟨g, j, none⟩ = some (.int .i64 (nth t j : Int)) ∧ X.frozen? ⟨g, j, none⟩ = false ∧ BI w8 Wp W B0 Bs k n ct At (t.set j y) (X.setCell ⟨g, j, none⟩ (.int .i64 (y : Int))) := by
  obtain ⟨g, rfl, hbg, hgs, hcell, hfr, hO', hg'⟩ := h.own.store' hj hn y
  obtain ⟨K, J⟩ := keep_grown (B := B0) (b := Bs) hg' hcell (by omega) hBs (by have := h.keep.1; omega)
  exact ⟨g, rfl, hcell, hfr, below_grown h.bel hg' (Nat.le_refl _) (by omega), h.cnt.kept hg' (by intro e; injection e; omega), hO', h.keeps.trans K, h.keep.trans J⟩
theorem BI.ints {w8 Wp W X : World} {B0 Bs k n ct : Nat} {At : Option Addr} {t : List Nat} (h : BI w8 Wp W B0 Bs k n ct At t X) : Ints X At t := by
  obtain ⟨A', c', e, hI⟩ := h.own.form
  injection e with e1
  subst e1
  exact hI
theorem index_okI (A : Option Addr) (n c : Nat) (N : Int) (l t : List Nat) (w : World) (hn : n = t.length) (h6 : l.length ≤ 6) (h32 : ∀ n ∈ l, n ≤ 32) (hr : Ints w A t) (hin : InL l t) (hN : (numL l t : Int) = N) :
    Calls Try.prog 14 #[shV l, .slice A n c] w fun e w' => e = .returned (.tuple #[.int .i64 N, .int .i64 0]) ∧ Below w.heap.size w w' := by
  subst hn hN
  exact index_ok A c l t w h6 h32 hr hin
theorem inL_set {l t : List Nat} (h : InL l t) {p v : Nat} (hp : p < l.length) (hv : v < nth l p) : InL l (t.set p v) := by
  rw [inL_iff] at h ⊢
  refine ⟨by simp [h.1], fun q hq => ?_⟩
  rw [nth_set _ _ _ _ (by omega)]
  split
  · rename_i e
    subst e
    exact hv
  · exact h.2 q hq
theorem set_back (t : List Nat) {p : Nat} (hp : p < t.length) (v : Nat) : (t.set p v).set p (nth t p) = t := by
  rw [List.set_set]
  refine nth_eq (by simp) fun i hi => ?_
  rw [nth_set _ _ _ _ hp]
  split
  · rename_i e
    rw [e]
  · rfl
theorem bi_fin {w8 Wp W X : World} {B0 Bs k n ct : Nat} {At : Option Addr} {t : List Nat} {pre : List (Nat × Value)} (x : Nat × Value) (h : BI w8 Wp W B0 Bs k n ct At t X) (hk : pre.length = k) (hBs : Bs ≠ w8.heap.size) :
    KeepsFrom B0 W (X.setCell ⟨w8.heap.size, 0, none⟩ (.int .i64 ((k : Int) + 1))) ∧ Keep1 Bs W (X.setCell ⟨w8.heap.size, 0, none⟩ (.int .i64 ((k : Int) + 1))) ∧ TI w8 (pre ++ [x]) (X.setCell ⟨w8.heap.size, 0, none⟩ (.int .i64 ((k : Int) + 1))) := by
  refine ⟨h.keeps.trans ((KeepsOthers.setCell _ _ _).from _), h.keep.trans (keep1_set hBs 0 _), h.bel.setCell (p := ⟨w8.heap.size, 0, none⟩) (Nat.le_refl _) _, ?_⟩
  have hb := Boxed.set (.int .i64 ((k : Int) + 1)) h.cnt
  rw [List.length_append, hk]
  exact hb
set_option maxRecDepth 100000 in
set_option maxHeartbeats 4000000 in
theorem tuples_walk (A : Option Addr) (n c : Nat) (z : Nat → Int) (w : World) (hn : (n : Int) ≤ 9223372036854775807) (hz : Bytes w A n z) :
    Calls Try.prog 3 #[.slice A n c] w fun e w' => e = .returned (.bool true) ∧ Below w.heap.size w w' := by
  have HZ := Lib.hid hz
  have HM := Lib.hid (fun W (h : Bytes W A n z) => small_any A n c z W hn h)
  have hl := smL_small z (min n 3)
  have hlen : (smL z (min n 3)).length ≤ 3 := by rw [smL_len]; omega
  generalize smL z (min n 3) = l at HM hl hlen
  clear hz hn
  have h6 : l.length ≤ 6 := by omega
  have H32 : Hid (∀ n ∈ l, 1 ≤ n ∧ n ≤ 32) := Lib.hid fun n hn => by have := hl n hn; omega
  obtain ⟨P, hP⟩ : ∃ P, prodL l = P := ⟨_, rfl⟩
  have hP2 : P ≤ 64 := by have := (prodL_small hl hlen).2; omega
  have hP1 : 1 ≤ P := by have := (prodL_small hl hlen).1; omega
  have HP := Lib.hid hP
  have HL := Lib.hid hl
  clear hl hP
  have B0 := Lib.hid (new_val w (.cells #[.bool false] 4))
  have R0 : Hid (Boxed (w.alloc (.cells #[.bool false] 4)) w.heap.size 4 (.bool false)) := Lib.hid (Boxed.new w _ _)
  refine (callsIn_wide (n := 3)).1 (callsIn_of_wp_marks Try.func3 rfl trivial ?_ rfl)
  simp only [Try.ntmps3, List.size_toArray, List.length_cons, List.length_nil, Nat.reduceAdd, Nat.reduceSub, Array.replicate_succ, Array.replicate_zero, List.push_toArray, List.append_toArray, List.nil_append, List.cons_append]
  refine wpIn_wide.2 ?_
  go_wp2_with fail
  refine (awake_true _).mono ?_
  rintro e w1 ⟨rfl, b1⟩
  have B1 := Lib.hid (then_ B0.out b1)
  have R1 := Lib.hid (box_below R0.out b1)
  clear b1
  go_wp2_with fail
  refine (HM.out _ (HZ.out.below B1.out)).mono ?_
  rintro e w2 ⟨⟨v, rfl, hO⟩, b2⟩
  obtain ⟨A2, c2, rfl, hI2⟩ := hO.form
  have hlc := own_cap hO
  have B2 := Lib.hid (then_ B1.out b2)
  have R2 := Lib.hid (box_below R1.out b2)
  have I2 := Lib.hid hI2
  clear hO hI2 b2
  go_upto_region 4 with fail
  have n3 := new_val w2 (.cells #[.slice A2 l.length c2] 24)
  have B3 := Lib.hid (then_ B2.out n3)
  have R3 := Lib.hid (box_below R2.out n3)
  have I3 := Lib.hid (I2.out.below n3 (Nat.le_refl _))
  have S3 := Lib.hid (Boxed.new w2 24 (.slice A2 l.length c2))
  clear n3
  generalize w2.alloc (.cells #[.slice A2 l.length c2] 24) = w3 at B3 R3 I3 S3 ⊢
  have k3 := S3.out.cell
  go_wp2_with fail
  refine (new_mid' A2 l.length c2 l w3 rfl h6 I3.out H32.out (by rw [HP.out]; omega)).mono ?_
  rintro e w4 ⟨rfl, b4⟩
  have B4 := Lib.hid (then_ B3.out b4)
  have R4 := Lib.hid (box_below R3.out b4)
  have I4 := Lib.hid (I3.out.below b4 (Nat.le_refl _))
  have S4 := Lib.hid (box_below S3.out b4)
  clear b4 k3
  go_upto_region 5 with ((with_reducible show wpList _ _ _ (Oper.mk none (.store 28 _ _) _ _ _ _ :: _) _ _)
                         refine wpList_store_row rfl 28 (.tmp 4) (.tmp 24) rfl w4.heap.size (shC l) rfl rfl 28 (shC0 0) (heap_alloc_new _ _) (by kernel_rfl) rfl (sh_one l) ?_
                         rw [World.setRow_alloc_new])
  have n5 := new_val w4 (shO l)
  have H5 := Lib.hid (ShAt.new w4 l)
  have B5 := Lib.hid (then_ B4.out n5)
  have R5 := Lib.hid (box_below R4.out n5)
  have I5 := Lib.hid (I4.out.below n5 (Nat.le_refl _))
  have S5 := Lib.hid (box_below S4.out n5)
  clear n5
  generalize w4.alloc (.cells (shC l) 28) = w5 at H5 B5 R5 I5 S5 ⊢
  have k5 := S5.out.cell
  go_wp2_with fail
  refine (rall_any' A2 l.length c2 l P w5 rfl h6 hlc H32.out HP.out (by omega) I5.out).mono ?_
  rintro e w6 ⟨⟨A6, c6, rfl, hT6⟩, b6⟩
  have H6 := Lib.hid (H5.out.next b6)
  have B6 := Lib.hid (then_ B5.out b6)
  have R6 := Lib.hid (box_below R5.out b6)
  have I6 := Lib.hid (I5.out.below b6 (Nat.le_refl _))
  have S6 := Lib.hid (box_below S5.out b6)
  have T6 := Lib.hid hT6
  clear b6 k5 hT6
  go_upto_region 6 with fail
  have n7 := new_val w6 (.cells #[.slice A6 P c6] 32)
  have H7 := Lib.hid (H6.out.next n7)
  have B7 := Lib.hid (then_ B6.out n7)
  have R7 := Lib.hid (box_below R6.out n7)
  have I7 := Lib.hid (I6.out.below n7 (Nat.le_refl _))
  have S7 := Lib.hid (box_below S6.out n7)
  have T7 := Lib.hid (T6.out.below n7 (Nat.le_refl _))
  have A7 := Lib.hid (Boxed.new w6 32 (.slice A6 P c6))
  clear n7
  generalize w6.alloc (.cells #[.slice A6 P c6] 32) = w7 at H7 B7 R7 I7 S7 T7 A7 ⊢
  have HU : Hid (HoldU w7 w4.heap.size w6.heap.size w2.heap.size P c6 c2 A6 A2 l w7) := Lib.hid ⟨H7.out.c0, H7.out.c1, H7.out.c2, H7.out.c3, H7.out.c4, H7.out.c5, H7.out.c6, A7.out.cell, S7.out.cell, Below.refl _ _⟩
  go_region_held3 (fun W => HoldU w7 w4.heap.size w6.heap.size w2.heap.size P c6 c2 A6 A2 l W) (first | exact holdU HU.out ((Below.refl _ _).drew) | exact holdU (by assumption) (by assumption))
    ((first | (go_at_call 8; refine (count_below l _ h6 (fun n hn => (H32.out n hn).2) P HP.out).mono ?_; rintro e w' ⟨rfl, hb⟩)
            | (go_at_call 9; refine (arity_below l _).mono ?_; rintro e w' ⟨rfl, hb⟩)
            | (go_at_call 11; refine (sizes_any l _ h6).mono ?_; rintro e w' ⟨⟨v, rfl, hO⟩, hb⟩; obtain ⟨A9, c9, rfl, hI9⟩ := hO.form)
            | (go_at_call 10; refine (equal_yes _ _ _ _ _ l _ rfl (by omega) (by assumption) (holdU_ints I7.out (by assumption))).mono ?_; rintro e w' ⟨rfl, hb⟩)))
  have HV : Hid (HoldU w7 w4.heap.size w6.heap.size w2.heap.size P c6 c2 A6 A2 l w') := Lib.hid (by assumption)
  have b8 := holdU_below HV.out
  have H8 := Lib.hid (H7.out.next b8)
  have B8 := Lib.hid (then_ B7.out b8)
  have R8 := Lib.hid (box_below R7.out b8)
  have I8 := Lib.hid (I7.out.below b8 (Nat.le_refl _))
  have S8 := Lib.hid (box_below S7.out b8)
  have T8 := Lib.hid (T7.out.below b8 (Nat.le_refl _))
  have A8 := Lib.hid (box_below A7.out b8)
  clear b8 HV HU
  generalize w' = w8 at H8 B8 R8 I8 S8 T8 A8 ⊢
  go_upto_region 9 with fail
  have n9 := new_val w8 (.cells #[.int .i64 0] 3)
  have H9 := Lib.hid (H8.out.next n9)
  have C9 : Hid (Boxed (w8.alloc (.cells #[.int .i64 0] 3)) w8.heap.size 3 (.int .i64 0)) := Lib.hid (Boxed.new w8 _ _)
  have N9 := Lib.hid n9
  have HZ9 : Hid ((w8.alloc (.cells #[.int .i64 0] 3)).heap.size = w8.heap.size + 1) := Lib.hid (by simp)
  clear n9
  generalize w8.alloc (.cells #[.int .i64 0] 3) = w9 at H9 C9 N9 HZ9 ⊢
  obtain ⟨d0, d1, d2, d3, d4, d5, d6, dlt, dfz⟩ := H9.out
  go_wp2_with fail
  refine (all_call l w9).mono ?_
  rintro e w10 ⟨rfl, rfl⟩
  clear d0 d1 d2 d3 d4 d5 d6 dfz
  have n10 := new_val w9 (shO l)
  have H10 := Lib.hid (ShAt.new w9 l)
  have C10 : Hid (TI w8 [] (w9.alloc (shO l))) := Lib.hid ⟨N9.out.trans (n10.mono (by have := HZ9.out; omega)), box_below C9.out n10⟩
  have hz10 : (w9.alloc (shO l)).heap.size = w9.heap.size + 1 := by simp
  clear n10
  go_wp2_with fail
  generalize w9.alloc (.cells (shC l) 28) = W0 at H10 C10 hz10 ⊢
  have hz9 := HZ9.out
  refine (wpIn_wide (n := 3)).1 (range_good (by omega) (gf := 20) (lb := #[.pointer (some ⟨w9.heap.size, 0, none⟩)]) rfl (enters_of Try.func20 (by kernel_rfl) rfl)
    (all_good 2 (by omega) l P w9.heap.size h6 H32.out HP.out (by omega) W0 H10.out) (by omega) (fun _ => rfl) (fun B pre x => goodT_own l B _ pre x)
    (fun pre W => TI w8 pre W) (ti_from (by omega)) C10.out ?a1 ?assign ?body ?done)
  case assign =>
    intro y x W K hK
    gi_wp2
    exact hK
  case body =>
    rintro y pre ⟨i, v⟩ Wp W hy hloop hIp hI heq ⟨hi, hiP, hO⟩
    obtain rfl : i = pre.length := hi
    have hiP : pre.length < prodL l := hiP
    have hO : Own W Wp.heap.size v (tupL l pre.length) := hO
    obtain ⟨At, ct, hv, hT⟩ := hO.form
    rw [tupL_length] at hv
    subst hv
    have hsz : W0.heap.size ≤ W.heap.size := by obtain ⟨r, hr⟩ := hloop; have := (Array.getElem?_eq_some_iff.1 hr).1; omega
    have hWp : W0.heap.size ≤ Wp.heap.size := by
      have h1 := heq w9.heap.size (by omega)
      have h2 : w9.heap.size < W.heap.size := by omega
      rw [Array.getElem?_eq_getElem h2] at h1
      have := (Array.getElem?_eq_some_iff.1 h1.symm).1
      omega
    obtain ⟨k, hk⟩ : ∃ k, pre.length = k := ⟨_, rfl⟩
    have HK := Lib.hid hk
    rw [hk] at hiP hO hT
    have hkP : k < P := by rw [← HP.out]; exact hiP
    have HIP := Lib.hid hiP
    have q98 : w9.heap.size < W0.heap.size := by omega
    have hBs : w9.heap.size < W.heap.size := by omega
    have h8 : w8.heap.size < Wp.heap.size := by omega
    have q89 : w8.heap.size < w9.heap.size := by omega
    clear hz9 hz10
    have BI0 : Hid (BI w8 Wp W W0.heap.size w9.heap.size k l.length ct At (tupL l k) W) := Lib.hid ⟨hI.bel, by have h := hI.cnt; rw [hk] at h; exact h, hO, KeepsFrom.refl _ _, Keep1.refl _ _⟩
    have TL := Lib.hid (tupL_length l k)
    have TI := Lib.hid (tupL_in (fun n hn => (H32.out n hn).1) (l := l) k)
    have TN : Hid (numL l (tupL l k) = k) := Lib.hid (num_tup hiP)
    obtain ⟨A6', c6', e6, hrow⟩ := (T8.out.below hI.bel (Nat.le_refl _)).form
    obtain ⟨g6, x6, hA6, hg6, hc6, hx6⟩ := hrow k (by rw [allL_length]; exact hiP)
    obtain rfl : A6 = A6' := by injection e6
    subst hA6
    have hx6' : Own W w5.heap.size x6 (tupL l k) := by
      have e : nthT (allL l) k = tupL l k := allL_get l hiP
      rw [e] at hx6
      exact hx6
    obtain ⟨Ax, cx, hxv, hX6⟩ := hx6'.form
    rw [tupL_length] at hxv
    subst hxv
    have X6 := Lib.hid hX6
    have T0 := Lib.hid hT
    clear hIp hI heq hO hT hloop hiP hrow hx6 hx6' hX6 e6
    have hl3 : (l.length : Int) ≤ 3 := by omega
    have hk64 : (k : Int) ≤ 64 := by omega
    have ka := (box_below A8.out BI0.out.bel).cell
    have kc := BI0.out.cnt.cell
    rw [hk]
    clear hk
    gi_wp2_with fail
    refine ⟨trivial, ?_⟩
    refine (CallsIn.inRound y (callsIn_wide.2 (equal_yes _ _ _ _ _ (tupL l k) W TL.out.symm (by omega) T0.out X6.out))).mono ?_
    rintro e W1 ⟨rfl, b1⟩
    have BI1 := Lib.hid (BI0.out.next hBs b1)
    clear b1 ka kc hc6
    obtain ⟨d0, d1, d2, d3, d4, d5, d6, dlt, dfz⟩ := H8.out.next BI1.out.bel
    gi_wp2_with fail
    refine ⟨trivial, ?_⟩
    refine (CallsIn.inRound y (callsIn_wide.2 (tuple_ok l k W1 h6 H32.out (by rw [HP.out]; exact hkP)))).mono ?_
    rintro e W2 ⟨⟨v2, rfl, hO2⟩, b2⟩
    obtain ⟨A2t, c2t, hv2, hI2⟩ := hO2.form
    rw [TL.out] at hv2
    subst hv2
    have BI2 := Lib.hid (BI1.out.next hBs b2)
    have U2 := Lib.hid hI2
    clear b2 d0 d1 d2 d3 d4 d5 d6 dlt dfz hO2 hI2
    obtain ⟨d0, d1, d2, d3, d4, d5, d6, dlt, dfz⟩ := H8.out.next BI2.out.bel
    gi_wp2_with fail
    refine ⟨trivial, ?_⟩
    refine (CallsIn.inRound y (callsIn_wide.2 (index_okI _ _ _ (k : Int) l (tupL l k) W2 TL.out.symm h6 (fun n hn => (H32.out n hn).2) BI2.out.ints TI.out (by rw [TN.out])))).mono ?_
    rintro e W3 ⟨rfl, b3⟩
    have BI3 := Lib.hid (BI2.out.next hBs b3)
    have U3 := Lib.hid (U2.out.below b3 (Nat.le_refl _))
    clear b3 d0 d1 d2 d3 d4 d5 d6 dlt dfz
    gi_wp2_with fail
    refine ⟨trivial, ?_⟩
    refine (CallsIn.inRound y (callsIn_wide.2 (equal_yes _ _ _ _ _ (tupL l k) W3 TL.out.symm (by omega) U3.out BI3.out.ints))).mono ?_
    rintro e W4 ⟨rfl, b4⟩
    have BI4 := Lib.hid (BI3.out.next hBs b4)
    clear b4
    gi_wp2_with fail
    gi_loopw [98] (fun i wr => ∃ p : Nat, p ≤ l.length ∧ i = .int .i64 (p : Int) ∧ BI w8 Wp W W0.heap.size w9.heap.size k l.length ct At (tupL l k) wr) (fun i _ => l.length - (intOf i).toNat)
    case atStart => exact ⟨0, Nat.zero_le _, rfl, BI4.out⟩
    case round =>
      obtain ⟨p, hp, rfl, hBr⟩ := hrel
      have BR := Lib.hid hBr
      clear hBr
      by_cases hlt : p < l.length
      · obtain ⟨gA, oA, rfl, hcs⟩ := (I8.out.below BR.out.bel (Nat.le_refl _)).at_ hlt
        have hsb := (box_below S8.out BR.out.bel).cell
        obtain ⟨g, rfl, hct, hft, -⟩ := BR.out.store q98 hsz hWp h8 (j := p) (by rw [TL.out]; exact hlt) TL.out 0
        have hv := (inL_iff.1 TI.out).2 p hlt
        have hnl := HL.out _ (nth_mem hlt)
        obtain ⟨x, hx⟩ : ∃ x, nth (tupL l k) p = x := ⟨_, rfl⟩
        obtain ⟨N, hN⟩ : ∃ N, nth l p = N := ⟨_, rfl⟩
        rw [hx] at hct hv
        rw [hN] at hcs hv hnl
        have HX := Lib.hid hx
        have HN := Lib.hid hN
        clear hx hN
        have e1 : IntKind.i64.wrap ((x : Int) + 1) = (x : Int) + 1 := IntWalk.i64_in _ (by omega)
        have hp0 : ((0 : Int) ≤ (p : Int)) := by omega
        have hpl : (p : Int) < (l.length : Int) := by omega
        by_cases hc : (x : Int) + 1 < (N : Int)
        · gi_wp2
          refine quiet_round _ (by kernel_rfl) (by kernel_rfl) (by kernel_rfl) ?_
          repeat (gi_big_quiet_step (fail))
          refine wpQuietIn_nil ?_
          intro _ hw'
          obtain ⟨nq, hw''⟩ := hw'
          subst hw''
          obtain ⟨g1, e1', -, -, S3⟩ := (BR.out.drew hBs nq).store q98 hsz hWp h8 (j := p) (by rw [TL.out]; exact hlt) TL.out (x + 1)
          obtain rfl : g = g1 := by injection e1' with e1'; injection e1'
          have BS := Lib.hid S3
          clear S3 e1'
          gi_upto_region 23 with fail
          have BS' : Hid (BI w8 Wp W W0.heap.size w9.heap.size k l.length ct (some ⟨g, 0, none⟩) ((tupL l k).set p (x + 1)) ((wr.drewN nq).setCell ⟨g, p, none⟩ (.int .i64 ((x : Int) + 1)))) := Lib.hid BS.out
          clear BS hct hft hcs hsb e1
          generalize (wr.drewN nq).setCell ⟨g, p, none⟩ (.int .i64 ((x : Int) + 1)) = X3 at BS' ⊢
          obtain ⟨D, hD⟩ : ∃ D, prodL (l.drop (p + 1)) = D := ⟨_, rfl⟩
          have HD := Lib.hid hD
          have hD4 : D ≤ 64 := by rw [← hD]; exact (prodL_small (drop_small (c := 4) HL.out (p + 1)) (by rw [List.length_drop]; omega)).2
          clear hD
          have HNM : Hid ((numL l ((tupL l k).set p (x + 1)) : Int) = (k : Int) + (D : Int)) := Lib.hid (by
            have h := numL_set (l := l) (t := tupL l k) TL.out hlt (x + 1)
            rw [HX.out, HD.out, TN.out, Nat.succ_mul] at h
            omega)
          obtain ⟨d0, d1, d2, d3, d4, d5, d6, dlt, dfz⟩ := H8.out.next BS'.out.bel
          gi_wp2_with fail
          refine ⟨trivial, ?_⟩
          refine (CallsIn.inRound y (callsIn_wide.2 (index_okI _ _ _ ((k : Int) + (D : Int)) l ((tupL l k).set p (x + 1)) X3 (by rw [List.length_set]; exact TL.out.symm) h6 (fun n hn => (H32.out n hn).2) BS'.out.ints (inL_set TI.out hlt (by rw [HN.out]; omega)) HNM.out))).mono ?_
          rintro e X4 ⟨rfl, b4⟩
          have BS4 := Lib.hid (BS'.out.next hBs b4)
          clear b4 d0 d1 d2 d3 d4 d5 d6 dlt dfz
          obtain ⟨d0, d1, d2, d3, d4, d5, d6, dlt, dfz⟩ := H8.out.next BS4.out.bel
          gi_wp2_with fail
          refine ⟨trivial, ?_⟩
          refine (CallsIn.inRound y (callsIn_wide.2 (step_ok' l _ p D X4 rfl h6 (fun n hn => (H32.out n hn).2) hlt HD.out))).mono ?_
          rintro e X5 ⟨rfl, b5⟩
          have BS5 := Lib.hid (BS4.out.next hBs b5)
          clear b5 d0 d1 d2 d3 d4 d5 d6 dlt dfz
          obtain ⟨g2, e2, hct2, hft2, S6⟩ := BS5.out.store q98 hsz hWp h8 (j := p) (by rw [List.length_set, TL.out]; exact hlt) (by rw [List.length_set]; exact TL.out) x
          obtain rfl : g = g2 := by injection e2 with e2; injection e2
          have hb := set_back (tupL l k) (p := p) (by rw [TL.out]; exact hlt) (x + 1)
          rw [HX.out] at hb
          rw [hb] at S6
          have hq := nth_set (tupL l k) p (x + 1) p (by rw [TL.out]; exact hlt)
          rw [if_pos rfl] at hq
          rw [hq] at hct2
          have hct3 : X5.cell? ⟨g, p, none⟩ = some (.int .i64 ((x : Int) + 1)) := hct2
          have BS6 := Lib.hid S6
          clear hct2 hq hb S6 e2
          gi_wp2
          refine ⟨⟨p + 1, by omega, by go_num, BS6.out⟩, ?_⟩
          show l.length - ((p : Int) + 1).toNat < l.length - (p : Int).toNat
          omega
        · gi_wp2
          refine quiet_round _ (by kernel_rfl) (by kernel_rfl) (by kernel_rfl) ?_
          repeat (gi_big_quiet_step (fail))
          refine wpQuietIn_nil ?_
          intro _ hw'
          obtain ⟨nq, hw''⟩ := hw'
          subst hw''
          gi_wp2
          refine ⟨⟨p + 1, by omega, by go_num, BR.out.drew hBs nq⟩, ?_⟩
          show l.length - ((p : Int) + 1).toNat < l.length - (p : Int).toNat
          omega
      · have hpl : ¬ ((p : Int) < (l.length : Int)) := by omega
        have kc := BR.out.cnt.cell
        have kf := BR.out.cnt.frozen
        have FIN := Lib.hid (bi_fin (x := (k, .slice At l.length ct)) BR.out HK.out (by omega))
        gi_wp2
        exact FIN.out
  case done =>
    rintro D xs W hD hS hI hK
    have hS : xs.length = P := hS
    have cC := hI.cnt.cell
    rw [hS] at cC
    have cA := (box_below A8.out hI.bel).cell
    have bR := box_below R8.out hI.bel
    have cR := bR.cell
    have fR := bR.frozen
    have BR := Lib.hid bR
    have HI := Lib.hid hI
    have HKD := Lib.hid hK
    have hRlt := R8.out.lt
    clear hI hK bR hS
    go_wp2
    have hD' := (Below.heap_setCell W ⟨w.heap.size, 0, none⟩ (.bool true) D (by show D ≠ w.heap.size; omega)).trans HKD.out
    have bR := Boxed.set (.bool true) BR.out
    have bW := (B8.out.trans (HI.out.bel.mono B8.out.size)).setCell (p := ⟨w.heap.size, 0, none⟩) (Nat.le_refl _) (.bool true)
    refine ⟨by simp, .inl ⟨_, _, rfl, run_takeDeferred hD', ?_⟩⟩
    generalize W.setCell ⟨w.heap.size, 0, none⟩ (.bool true) = Wz at hD' bR bW ⊢
    have hc5 := cell_kept bR.cell (grownBy_putObj' _ D (.deferred none)) (fun r e => by cases e; exact ⟨_, hD', rfl⟩)
    refine ⟨.bool true, ?_, rfl, ?_⟩
    · simp [results, Try.f3, go_sem, hc5]
    · have hg := grownBy_putObj' Wz D (.deferred none)
      exact below_grown bW hg (Nat.le_refl _) (by have := B8.out.size; omega)
end Go.Proofs.Ytcfendilaogjlaa
