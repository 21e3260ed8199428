import Derived.Lib.RowBridge
import Derived.Test.YtmokogkndbinlaaGreatDoorZgbc
import Derived.Test.YtmokogkndbinlaaGreatDoorZgbb
set_option linter.all false
namespace Go.Proofs.YtmokogkndbinlaaGreatDoor
open Go.Lib (hid)
open Go.RowKit Go.Shelf Go.Sort
theorem grow_any (n : Nat) (w : World) (hn : n ≤ 1000) :
  Calls Tryz.prog 230 #[.slice none 0 0, .int .i64 (n : Int)] w fun e w' => (∃ v, e = .returned v ∧ Own w' w.heap.size v []) ∧ Below w.heap.size w w' := by
 obtain ⟨i0, hi, hz0, hz1, hz2⟩ := info_parts info_int
 by_cases h : n = 0
 ·subst h
  refine (Any8.slices_Grow_room Tryz.growI none 0 0 0 w (Nat.le_refl _) (by omega) (by omega) (Nat.le_refl _)).mono ?_
  rintro e w' ⟨rfl, hw⟩
  refine ⟨⟨_, rfl, own_nil _ _⟩, ?_⟩
  first | (subst hw; exact Below.refl _ _) | (rw [hw]; exact Below.refl _ _)
 refine (Any8.slices_Grow_grow Tryz.growI i0 (.int .i64 0) hi hz0 (by rw [hz1]; omega) none 0 0 n [] w (Nat.le_refl _) (by omega) (by rw [hz2]; omega) (by omega) (by simp) (fun _ => rfl) (fun a e => by cases e)).mono ?_
 rintro e w' ⟨rfl, rfl⟩
 have hge := grownCap_ge w (0 + n) 0 3
 have hle := grownCap_le_maxLen w (0 + n) 0 3 (by unfold maxLen; omega)
 refine ⟨⟨_, rfl, ?_⟩, ?_⟩
 ·have h := World.ownsRow_made (base := w.heap.size) (e := 3) (size := 1) w.drew (([] : List Value).toArray ++ Builtin.zeroCells (Value.int .i64 0).cells (0 + n - 0) ++ Builtin.zeroCells (Value.int .i64 0).cells (grownCap w (0 + n) 0 3 - (0 + n))) (grownCap w (0 + n) 0 3) (Nat.le_refl _) hle (by simp [Builtin.zeroCells, Value.cells, -Nat.zero_add]; omega)
  exact h
 exact ((Below.refl w.heap.size w).drew).alloc (Nat.le_refl _) _
set_option maxRecDepth 100000 in
set_option maxHeartbeats 4000000 in
theorem concat_any (g n1 c1 n2 c2 cL : Nat) (A1 A2 : Option Addr) (l1 l2 : List Nat) (w : World) (hn1 : l1.length = n1) (hn2 : l2.length = n2) (h1 : n1 ≤ 100) (h2 : n2 ≤ 100) (hg : g < w.heap.size)
  (x0 : w.cell? ⟨g, 0, none⟩ = some (.slice A1 n1 c1)) (x1 : w.cell? ⟨g, 1, none⟩ = some (.slice A2 n2 c2)) (i1 : Ints w A1 l1) (i2 : Ints w A2 l2) (e1 : A1 = none → c1 = 0) (e2 : A2 = none → c2 = 0) :
  Calls Tryz.prog 180 #[.slice (some ⟨g, 0, none⟩) 2 cL] w fun e w' => (∃ v, e = .returned v ∧ Own w' w.heap.size v (l1 ++ l2)) ∧ Below w.heap.size w w' := by
 have HN1 := hid hn1
 have HN2 := hid hn2
 have I1 := hid i1
 have I2 := hid i2
 have E1 := hid e1
 have E2 := hid e2
 have X0 := hid x0
 have X1 := hid x1
 clear hn1 hn2 i1 i2 e1 e2
 go_enter Tryz.func180, Tryz.ntmps180
 go_upto_region 3 with fail
 go_loop [3, 11] (fun v3 i => (i = .int .i64 0 ∧ v3 = .int .i64 0) ∨ (i = .int .i64 1 ∧ v3 = .int .i64 (n1 : Int)) ∨ (i = .int .i64 2 ∧ v3 = .int .i64 ((n1 + n2 : Nat) : Int))) (fun _ i => 2 - (intOf i).toNat)
 case atStart => exact .inl ⟨rfl, rfl⟩
 case round =>
  rcases hrel with ⟨rfl, rfl⟩ | ⟨rfl, rfl⟩ | ⟨rfl, rfl⟩
  ·go_wp2_with fail
   go_round
   case rel => exact .inr (.inl ⟨rfl, by go_num⟩)
   case measure => simp [intOf]
  ·have d : ¬ ((n1 : Int) + (n2 : Int) < 0) := by omega
   go_wp2_with fail
   go_round
   case rel => exact .inr (.inr ⟨rfl, by go_num⟩)
   case measure => simp [intOf]
  clear x0 x1
  have GR := hid (grow_any (n1 + n2) w (by omega))
  go_wp2_with fail
  refine GR.out.mono ?_
  rintro e w1 ⟨⟨v, rfl, hO⟩, hb⟩
  have O1 := hid hO
  have B1 := hid hb
  clear hO hb GR
  go_upto_region 11 with fail
  go_loopw [6, 27] (fun v6 i wr => Below w.heap.size w wr ∧ ((i = .int .i64 0 ∧ Own wr w.heap.size v6 []) ∨ (i = .int .i64 1 ∧ Own wr w.heap.size v6 l1) ∨ (i = .int .i64 2 ∧ Own wr w.heap.size v6 (l1 ++ l2)))) (fun _ i _ => 2 - (intOf i).toNat)
  case atStart => exact ⟨B1.out, .inl ⟨rfl, O1.out⟩⟩
  case round =>
   obtain ⟨hb, ⟨rfl, hO⟩ | ⟨rfl, hO⟩ | ⟨rfl, hO⟩⟩ := hrel
   ·have BR := hid hb
    have OR := hid hO
    have y0 : wr.cell? ⟨g, 0, none⟩ = some (.slice A1 n1 c1) := (hb.cell (p := ⟨g, 0, none⟩) hg).trans X0.out
    have J1 := hid (I1.out.below hb (Nat.le_refl _))
    clear hb hO
    go_wp2_with (at_builtin; refine app_own rfl (.tmp 31) (.tmp 32) rfl wr w.heap.size n1 c1 u6 [] l1 A1 HN1.out rfl rfl OR.out J1.out E1.out BR.out.size (by simp) (by omega) ?_; intro v' w' hO hg'; have BN := hid (BR.out.grown hg' BR.out.size (fun b hb' => (World.ownsRow.lt OR.out b hb').1)); have ON := hid hO; clear hO hg')
    go_roundw
    case rel => exact ⟨BN.out, .inr (.inl ⟨rfl, ON.out⟩)⟩
    case measure => simp [intOf]
   ·have BR := hid hb
    have OR := hid hO
    have y1 : wr.cell? ⟨g, 1, none⟩ = some (.slice A2 n2 c2) := (hb.cell (p := ⟨g, 1, none⟩) hg).trans X1.out
    have J2 := hid (I2.out.below hb (Nat.le_refl _))
    clear hb hO
    go_wp2_with (at_builtin; refine app_own rfl (.tmp 31) (.tmp 32) rfl wr w.heap.size n2 c2 u6 l1 l2 A2 HN2.out rfl rfl OR.out J2.out E2.out BR.out.size (by rw [HN1.out]; omega) (by omega) ?_; intro v' w' hO hg'; have BN := hid (BR.out.grown hg' BR.out.size (fun b hb' => (World.ownsRow.lt OR.out b hb').1)); have ON := hid hO; clear hO hg')
    go_roundw
    case rel => exact ⟨BN.out, .inr (.inr ⟨rfl, ON.out⟩)⟩
    case measure => simp [intOf]
   have BR := hid hb
   have OR := hid hO
   clear hb hO
   go_wp2_with fail
   go_ret
   exact ⟨⟨_, rfl, OR.out⟩, BR.out⟩
def sortI (l : List Nat) : List Int := (l.map fun i : Nat => (i : Int)).mergeSort fun x y => decide (x ≤ y)
theorem sortI_len (l : List Nat) : (sortI l).length = l.length := by simp [sortI]
theorem sortI_nil : sortI [] = [] := by simp [sortI]
theorem collect_any (Bn m c : Nat) (A : Option Addr) (l : List Nat) (w : World) (hm : l.length = m) (hm4 : m ≤ 100000) (hBn : Bn < w.heap.size) (hc0 : w.cell? ⟨Bn, 0, none⟩ = some (.slice A m c)) (hA : Ints w A l) :
  Calls Tryz.prog 216 #[.func (.func 217) #[] #[.pointer (some ⟨Bn, 0, none⟩)]] w fun e w' => (∃ v, e = .returned v ∧ Own w' w.heap.size v l) ∧ Below w.heap.size w w' := by
 have C := hid (callsIn_wide.1 (append_in 3 (Nat.le_refl _) Bn m c A l w hm hm4 hBn hc0 hA))
 clear hc0 hA
 go_enter Tryz.func216, Tryz.ntmps216
 go_wp2_with (go_at_call 260; refine C.out.mono ?_; rintro e w' ⟨v, rfl, h1, h2⟩)
 go_ret
 exact ⟨⟨_, rfl, h1⟩, h2⟩
set_option maxHeartbeats 1000000 in
theorem sorted_any (Bn m c : Nat) (A : Option Addr) (l : List Nat) (w : World) (hm : l.length = m) (hm4 : m ≤ 100000) (hBn : Bn < w.heap.size) (hc0 : w.cell? ⟨Bn, 0, none⟩ = some (.slice A m c)) (hA : Ints w A l) :
  Calls Tryz.prog 173 #[.func (.func 217) #[] #[.pointer (some ⟨Bn, 0, none⟩)]] w fun e w' => (∃ v, e = .returned v ∧ w'.ownsRow w.heap.size 3 1 v m ((sortI l).map (Value.int .i64))) ∧ Below w.heap.size w w' := by
 have C := hid (collect_any Bn m c A l w hm hm4 hBn hc0 hA)
 have HM := hid hm
 clear hc0 hA hm
 go_enter Tryz.func173, Tryz.ntmps173
 go_wp2_with fail
 refine C.out.mono ?_
 rintro e w1 ⟨⟨v, rfl, hO⟩, hb⟩
 have hO' := hO
 obtain ⟨hl, ⟨rfl, h0⟩ | ⟨gb, cap, cur, rfl, hbase, hgb, r1, r2, r3, r4⟩⟩ := hO'
 ·have hss : l = [] := List.eq_nil_of_length_eq_zero h0
  have hm0 : m = 0 := by rw [← HM.out, hss]; rfl
  have HSS := hid hss
  have HB := hid hb
  clear hO hb h0 hl hss
  subst hm0
  go_wp2_with (go_at_call 99; refine (Tryz.slices_Sort_int_none none 0 w1).mono ?_; rintro e w' ⟨rfl, rfl⟩)
  go_ret
  exact ⟨⟨_, rfl, by rw [HSS.out, sortI_nil]; exact World.ownsRow_nil _ _ _ _⟩, HB.out⟩
 have HH : Hid (Holds (Value.int .i64) w1 gb 0 (l.map fun i : Nat => (i : Int)).toArray) := hid (holds_of_blockI hgb (by rw [List.length_map, List.map_map]; rw [Nat.mul_one] at r4; exact r4))
 have hgl : gb < w1.heap.size := (Array.getElem?_eq_some_iff.1 hgb).1
 have SS := hid (Tryz.slices_Sort_int gb 0 cap (l.map fun i : Nat => (i : Int)) w1 HH.out hgl (by rw [List.length_map, HM.out]; omega))
 have FIN : Hid (∀ (nn : Nat) (os : Array Obj), (grow (putRow (Value.int .i64) (Sort.ahead w1 nn) gb 0 (sortI l).toArray) os).ownsRow w.heap.size 3 1 (.slice (some ⟨gb, 0, none⟩) m cap) m ((sortI l).map (Value.int .i64)) ∧ Below w.heap.size w (grow (putRow (Value.int .i64) (Sort.ahead w1 nn) gb 0 (sortI l).toArray) os)) := hid fun nn os => by
  have h := ownsRow_sortedI (base := w.heap.size) (n := nn) (os := os) (ss := l.map fun i : Nat => (i : Int)) (ts := sortI l) (by rw [sortI_len, List.length_map]) hbase hgb (by rw [List.length_map]; omega) r2 r3
  rw [List.length_map, HM.out] at h
  exact ⟨h, hb.grown (grownBy_sortedI _) hb.size (fun j hj => by cases hj; exact hbase)⟩
 rw [List.length_map] at SS
 have hml := HM.out
 rw [hml] at SS ⊢
 clear hO hb hl hgb r1 r2 r3 r4 hml
 go_wp2_with (go_at_call 99; refine SS.out.mono ?_; rintro e w' ⟨rfl, nn, os, rfl⟩)
 have F2 := hid (FIN.out nn os)
 clear FIN SS
 go_ret
 exact ⟨⟨_, rfl, F2.out.1⟩, F2.out.2⟩
theorem grow_nil (w : World) : grow w #[] = w := by simp [grow]
theorem compact_any (base n : Nat) (v : Value) (l V : List Nat) (w : World) (h : w.ownsRow base 3 1 v n ((sortI l).map (Value.int .i64))) (hb : base ≤ w.heap.size) (hn : l.length = n) (hV : Lib.compact (sortI l) = V.map fun i : Nat => (i : Int)) (hn4 : n ≤ 100000) :
  Calls Tryz.prog 34 #[v] w fun e w' => (∃ A c, e = .returned (.slice A V.length c) ∧ Ints w' A V) ∧ Below base w w' := by
 have hVl : (Lib.compact (sortI l)).length = V.length := by rw [hV]; simp
 have hsl : (sortI l).length = n := by rw [sortI_len, hn]
 have hle := Lib.compact_length_le (sortI l)
 obtain ⟨hl, ⟨rfl, h0⟩ | ⟨gb, cap, cur, rfl, hbase, hgb, r1, r2, r3, r4⟩⟩ := h
 ·subst h0
  have hV0 : V = [] := List.eq_nil_of_length_eq_zero (by omega)
  subst hV0
  refine (Tryz.slices_Compact_int_empty none 0 w).mono ?_
  rintro e w' ⟨rfl, rfl⟩
  exact ⟨⟨none, 0, rfl, .inl rfl⟩, Below.refl _ _⟩
 have HH : Holds (Value.int .i64) w gb 0 (sortI l).toArray := holds_of_blockI hgb (by rw [hsl, Nat.mul_one] at *; exact r4)
 have hC := Tryz.slices_Compact_int gb 0 cap (sortI l) w HH (by omega) (by omega)
 rw [hsl] at hC
 refine hC.mono ?_
 rintro e w' ⟨rfl, q, rfl⟩
 have hrow := ownsRow_sortedI (base := base) (n := q) (os := #[]) (ss := sortI l) (ts := Lib.compact (sortI l) ++ List.replicate (n - (Lib.compact (sortI l)).length) 0) (by simp; omega) hbase hgb (by omega) r2 r3
 rw [grow_nil] at hrow
 have hgr := grownBy_sortedI (w := w) (g := gb) (n := q) (os := #[]) (Lib.compact (sortI l) ++ List.replicate (n - (Lib.compact (sortI l)).length) 0).toArray
 rw [grow_nil] at hgr
 refine ⟨⟨some ⟨gb, 0, none⟩, cap, by rw [hVl], ?_⟩, (Below.refl _ _).grown hgr hb (fun j hj => by cases hj; exact hbase)⟩
 obtain ⟨_, ⟨h1, _⟩ | ⟨g2, cap2, cur2, h1, _, hh, _, _, _, ht⟩⟩ := hrow
 ·cases h1
 cases h1
 refine .inr ⟨gb, 0, rfl, (Array.getElem?_eq_some_iff.1 hh).1, fun i hi => ?_⟩
 rw [Nat.zero_add, cell_of_row _ gb i cur2 3 (0, 0) hh]
 have e : (cur2.toList.take ((sortI l).length * 1))[i]? = some (.int .i64 (nth V i : Int)) := by
  rw [ht, List.getElem?_map, List.getElem?_append_left (by omega), hV, List.getElem?_map, List.getElem?_eq_getElem hi]
  simp [nth, List.getD_eq_getElem?_getD, hi]
 rw [List.getElem?_take] at e
 have e2 : i < (sortI l).length ∧ cur2[i]? = some (Value.int .i64 (nth V i : Int)) := by simpa using e
 exact e2.2
def plcL (V l : List Nat) : List Nat := l.map fun v => V.countP (· < v)
theorem plcL_len (V l : List Nat) : (plcL V l).length = l.length := by simp [plcL]
set_option maxRecDepth 100000 in
theorem places_any_Tj5 (A B : Option Addr) (n c m cb : Nat) (l V : List Nat) (w : World) (hn : l.length = n) (hm : V.length = m) (hl : Ints w A l) (hV : Ints w B V) (hr : V.Pairwise (· ≤ ·)) (hn4 : n ≤ 4096) (hm4 : m ≤ 4096) :
  Calls Tryz.prog 181 #[.slice A n c, .slice B m cb] w fun e w' => e = .returned (.slice (some ⟨w.heap.size, 0, none⟩) n n) ∧ Ints w' (some ⟨w.heap.size, 0, none⟩) (plcL V l) ∧ Below w.heap.size w w' := by
 have HLN := hid hn
 have HSM := hid hm
 have HL := hid hl
 have HV := hid hV
 have HR := hid hr
 have hmk := madeI n hn4
 have R1 := hid (World.rowIs_made w (.int .i64 0) n 3)
 have B1 := hid (new_val w (.cells (madeCells #[.int .i64 0] n) 3))
 clear hn hm hl hV hr
 go_enter Tryz.func181, Tryz.ntmps181
 go_upto_region 3 with fail
 generalize w.alloc (.cells (madeCells #[.int .i64 0] n) 3) = w1 at R1 B1 ⊢
 clear hmk
 go_loopw [13] (fun i wr => ∃ j : Nat, j ≤ n ∧ i = .int .i64 (j : Int) ∧ wr.rowIs w.heap.size 3 n (fun i => .int .i64 (if i < j then (nth (plcL V l) i : Int) else 0)) ∧ Below w.heap.size w wr) (fun i _ => n - (intOf i).toNat)
 case atStart => exact ⟨0, Nat.zero_le _, rfl, R1.out.congr fun i _ => by simp, B1.out⟩
 case round =>
  obtain ⟨j, hj, rfl, hrow, hb⟩ := hrel
  have HRW := hid hrow
  have HB := hid hb
  clear hrow hb
  by_cases hlt : j < n
  rotate_left
  ·have i1 : ¬ (j : Int) < (n : Int) := by omega
   go_wp2_with fail
   go_ret
   obtain rfl : j = n := by omega
   exact ⟨rfl, rowIs_ints HRW.out (by rw [plcL_len, HLN.out]) (fun i hi => by rw [if_pos hi]), HB.out⟩
  obtain ⟨gs, os, rfl, hcs⟩ := (HL.out.below HB.out (Nat.le_refl _)).at_ (i := j) (by rw [HLN.out]; exact hlt)
  have hpk : nth (plcL V l) j = V.countP (· < nth l j) := nth_map (by rw [HLN.out]; exact hlt)
  have HPK := hid hpk
  clear hpk
  generalize nth l j = v at hcs HPK
  have BS := hid (bsearch_any B m cb v V wr HSM.out HR.out (HV.out.below HB.out (Nat.le_refl _)) (by omega))
  have i1 : (j : Int) < (n : Int) := by omega
  have i2 : (0 : Int) ≤ (j : Int) := by omega
  have hwr := HB.out.size
  have HLT := hid HRW.out.lt
  go_wp2_with fail
  refine BS.out.mono ?_
  rintro e w2 ⟨rfl, hb2⟩
  have B2 := hid (HB.out.trans (hb2.mono hwr))
  have RW2 := hid (rowIs_next HRW.out hb2)
  clear hb2 hcs hwr
  have kc := RW2.out.cell hlt
  have kf := RW2.out.frozen j
  obtain ⟨x, hx⟩ : ∃ x, V.countP (· < v) = x := ⟨_, rfl⟩
  have HX := hid hx
  rw [hx]
  clear hx
  generalize V.contains v = bb
  have HN : Hid ((w2.setCell ⟨w.heap.size, j, none⟩ (.int .i64 (x : Int))).rowIs w.heap.size 3 n (fun i => .int .i64 (if i < j + 1 then (nth (plcL V l) i : Int) else 0))) := hid ((RW2.out.set j (.int .i64 (x : Int))).congr fun i hi => by
   show (if i = j then _ else _) = _
   by_cases e : i = j
   ·subst e; rw [if_pos rfl, if_pos (by omega), HPK.out, HX.out]
   ·rw [if_neg e]
    by_cases e2 : i < j
    ·rw [if_pos e2, if_pos (by omega)]
    ·rw [if_neg e2, if_neg (by omega)])
  have BN := hid (B2.out.setCell (p := ⟨w.heap.size, j, none⟩) (Nat.le_refl _) (.int .i64 (x : Int)))
  go_wp2_with fail
  go_roundw
  case rel => exact ⟨j + 1, by omega, by go_num, HN.out, BN.out⟩
  case measure => simp [intOf]; omega
def jn (ap l : List Nat) (d : Nat → Nat) : Nat → Nat → Nat
 | 0, p => d p
 | j + 1, p => if p = nth ap j then nth l j else jn ap l d j p
def joinF (ap l1 bp l2 : List Nat) : Nat → Nat := jn bp l2 (jn ap l1 (fun _ => 0) ap.length) bp.length
def joinL (m : Nat) (ap l1 bp l2 : List Nat) : List Nat := (List.range m).map (joinF ap l1 bp l2)
theorem joinL_len (m : Nat) (ap l1 bp l2 : List Nat) : (joinL m ap l1 bp l2).length = m := by simp [joinL]
set_option maxRecDepth 100000 in
set_option maxHeartbeats 1000000 in
theorem joined_any (m g1 h1 n1 c1 g2 h2 n2 c2 : Nat) (A1 A2 : Option Addr) (l1 l2 ap bp : List Nat) (k1 k2 : Int) (z1 z2 : Nat → Int) (w : World) (T1 : TabAt w g1 h1 l1 k1 z1) (T2 : TabAt w g2 h2 l2 k2 z2)
  (hl1 : l1.length = n1) (hl2 : l2.length = n2) (ha : ap.length = n1) (hb : bp.length = n2) (i1 : Ints w A1 ap) (i2 : Ints w A2 bp) (h61 : n1 ≤ 6) (h62 : n2 ≤ 6) (hm : m ≤ 4096) (ha1 : ∀ i, i < n1 → nth ap i < m) (hb1 : ∀ i, i < n2 → nth bp i < m) :
  Calls Tryz.prog 182 #[.int .i64 (m : Int), .pointer (some ⟨g1, 0, none⟩), .slice A1 n1 c1, .pointer (some ⟨g2, 0, none⟩), .slice A2 n2 c2] w fun e w' => e = .returned (.slice (some ⟨w.heap.size, 0, none⟩) m m) ∧ Ints w' (some ⟨w.heap.size, 0, none⟩) (joinL m ap l1 bp l2) ∧ Below w.heap.size w w' := by
 have HT1 := hid T1
 have HT2 := hid T2
 have HL1 := hid hl1
 have HL2 := hid hl2
 have HA := hid ha
 have HB := hid hb
 have I1 := hid i1
 have I2 := hid i2
 have HA1 := hid ha1
 have HBB := hid hb1
 have hmk := madeI m hm
 have R1 := hid (World.rowIs_made w (.int .i64 0) m 3)
 have B1 := hid (new_val w (.cells (madeCells #[.int .i64 0] m) 3))
 clear T1 T2 hl1 hl2 ha hb i1 i2 ha1 hb1
 go_enter Tryz.func182, Tryz.ntmps182
 go_upto_region 3 with fail
 generalize w.alloc (.cells (madeCells #[.int .i64 0] m) 3) = w1 at R1 B1 ⊢
 clear hmk
 go_loopw [20] (fun i wr => ∃ j : Nat, j ≤ n1 ∧ i = .int .i64 (j : Int) ∧ wr.rowIs w.heap.size 3 m (fun i => .int .i64 (jn ap l1 (fun _ => 0) j i : Int)) ∧ Below w.heap.size w wr) (fun i _ => n1 - (intOf i).toNat)
 case atStart => exact ⟨0, Nat.zero_le _, rfl, R1.out.congr fun i _ => rfl, B1.out⟩
 case round =>
  obtain ⟨j, hj, rfl, hrow, hb⟩ := hrel
  have HRW := hid hrow
  have HB1 := hid hb
  clear hrow hb
  by_cases hlt : j < n1
  ·obtain ⟨gs, os, rfl, hcs⟩ := (I1.out.below HB1.out (Nat.le_refl _)).at_ (i := j) (by rw [HA.out]; exact hlt)
   have hrj := HA1.out j hlt
   obtain ⟨p, hp⟩ : ∃ p, nth ap j = p := ⟨_, rfl⟩
   have HP := hid hp
   rw [hp] at hcs hrj
   clear hp
   have TT := hid (HT1.out.below (Below.refl _ _) |>.below (HB1.out.mono (Nat.le_refl _)))
   have SZ := hid (fun W => size_yes l1 j W (by rw [HL1.out]; omega) (by rw [HL1.out]; exact hlt))
   obtain ⟨c0, c1, c2, c3, c4, c5, c6, c7, c8⟩ := TT.out.cells
   have i1 : (j : Int) < (n1 : Int) := by omega
   have i2 : (0 : Int) ≤ (j : Int) := by omega
   have i3 : (p : Int) < (m : Int) := by omega
   have i4 : (0 : Int) ≤ (p : Int) := by omega
   have hwr := HB1.out.size
   go_wp2_with fail
   refine (SZ.out _).mono ?_
   rintro e w2 ⟨rfl, hb2⟩
   have B2 := hid (HB1.out.trans (hb2.mono hwr))
   have RW2 := hid (rowIs_next HRW.out hb2)
   clear hb2 hcs hwr c0 c1 c2 c3 c4 c5 c6 c7 c8
   have kc := RW2.out.cell hrj
   have kf := RW2.out.frozen p
   obtain ⟨x, hx⟩ : ∃ x, nth l1 j = x := ⟨_, rfl⟩
   have HX := hid hx
   rw [hx]
   clear hx
   have HN : Hid ((w2.setCell ⟨w.heap.size, p, none⟩ (.int .i64 (x : Int))).rowIs w.heap.size 3 m (fun i => .int .i64 (jn ap l1 (fun _ => 0) (j + 1) i : Int))) := hid ((RW2.out.set p (.int .i64 (x : Int))).congr fun i hi => by
    show (if i = p then _ else _) = Value.int .i64 (((if i = nth ap j then nth l1 j else jn ap l1 (fun _ => 0) j i) : Nat) : Int)
    by_cases e : i = p
    ·rw [if_pos e, if_pos (by rw [HP.out]; exact e), HX.out]
    ·rw [if_neg e, if_neg (by rw [HP.out]; exact e)])
   have BN := hid (B2.out.setCell (p := ⟨w.heap.size, p, none⟩) (Nat.le_refl _) (.int .i64 (x : Int)))
   go_wp2_with fail
   go_roundw
   case rel => exact ⟨j + 1, by omega, by go_num, HN.out, BN.out⟩
   case measure => simp [intOf]; omega
  have i1 : ¬ (j : Int) < (n1 : Int) := by omega
  obtain rfl : j = n1 := by omega
  clear hlt hj
  go_upto_region 8 with fail
  go_loopw [37] (fun i wr => ∃ i2 : Nat, i2 ≤ n2 ∧ i = .int .i64 (i2 : Int) ∧ wr.rowIs w.heap.size 3 m (fun i => .int .i64 (jn bp l2 (jn ap l1 (fun _ => 0) j) i2 i : Int)) ∧ Below w.heap.size w wr) (fun i _ => n2 - (intOf i).toNat)
  case atStart => exact ⟨0, Nat.zero_le _, rfl, HRW.out, HB1.out⟩
  case round =>
   obtain ⟨q, hq, rfl, hrow, hb⟩ := hrel
   have HRX := hid hrow
   have HB2 := hid hb
   clear hrow hb
   by_cases hlt : q < n2
   rotate_left
   ·have i1 : ¬ (q : Int) < (n2 : Int) := by omega
    obtain rfl : q = n2 := by omega
    go_wp2_with fail
    go_ret
    exact ⟨rfl, rowIs_ints HRX.out (joinL_len _ _ _ _ _) (fun i hi => by rw [joinL, nth_range hi, joinF, HA.out, HB.out]), HB2.out⟩
   obtain ⟨gs, os, rfl, hcs⟩ := (I2.out.below HB2.out (Nat.le_refl _)).at_ (i := q) (by rw [HB.out]; exact hlt)
   have hrj := HBB.out q hlt
   obtain ⟨p, hp⟩ : ∃ p, nth bp q = p := ⟨_, rfl⟩
   have HP := hid hp
   rw [hp] at hcs hrj
   clear hp
   have TT := hid (HT2.out.below (Below.refl _ _) |>.below (HB2.out.mono (Nat.le_refl _)))
   have SZ := hid (fun W => size_yes l2 q W (by rw [HL2.out]; omega) (by rw [HL2.out]; exact hlt))
   obtain ⟨c0, c1, c2, c3, c4, c5, c6, c7, c8⟩ := TT.out.cells
   have i1 : (q : Int) < (n2 : Int) := by omega
   have i2 : (0 : Int) ≤ (q : Int) := by omega
   have i3 : (p : Int) < (m : Int) := by omega
   have i4 : (0 : Int) ≤ (p : Int) := by omega
   have hwr := HB2.out.size
   go_wp2_with fail
   refine (SZ.out _).mono ?_
   rintro e w2 ⟨rfl, hb2⟩
   have B2 := hid (HB2.out.trans (hb2.mono hwr))
   have RW2 := hid (rowIs_next HRX.out hb2)
   clear hb2 hcs hwr c0 c1 c2 c3 c4 c5 c6 c7 c8
   have kc := RW2.out.cell hrj
   have kf := RW2.out.frozen p
   obtain ⟨x, hx⟩ : ∃ x, nth l2 q = x := ⟨_, rfl⟩
   have HX := hid hx
   rw [hx]
   clear hx
   have HN : Hid ((w2.setCell ⟨w.heap.size, p, none⟩ (.int .i64 (x : Int))).rowIs w.heap.size 3 m (fun i => .int .i64 (jn bp l2 (jn ap l1 (fun _ => 0) j) (q + 1) i : Int))) := hid ((RW2.out.set p (.int .i64 (x : Int))).congr fun i hi => by
    show (if i = p then _ else _) = Value.int .i64 (((if i = nth bp q then nth l2 q else jn bp l2 (jn ap l1 (fun _ => 0) j) q i) : Nat) : Int)
    by_cases e : i = p
    ·rw [if_pos e, if_pos (by rw [HP.out]; exact e), HX.out]
    ·rw [if_neg e, if_neg (by rw [HP.out]; exact e)])
   have BN := hid (B2.out.setCell (p := ⟨w.heap.size, p, none⟩) (Nat.le_refl _) (.int .i64 (x : Int)))
   go_wp2_with fail
   go_roundw
   case rel => exact ⟨q + 1, by omega, by go_num, HN.out, BN.out⟩
   case measure => simp [intOf]; omega
def AgAt (a b l1 l2 : List Nat) (i : Nat) : Bool := !(b.contains (nth a i)) || nth l1 i == nth l2 (b.countP (· < nth a i))
def AgB (a b l1 l2 : List Nat) : Bool := (List.range a.length).all (AgAt a b l1 l2)
theorem agB_no {a b l1 l2 : List Nat} {j : Nat} (hj : j < a.length) (h : AgAt a b l1 l2 j = false) : AgB a b l1 l2 = false := by
 rw [AgB, List.all_eq_false]
 exact ⟨j, List.mem_range.2 hj, by simp [h]⟩
theorem cntP_lt {b : List Nat} {v : Nat} (h : b.contains v = true) : b.countP (· < v) < b.length := by
 rw [List.contains_iff_mem] at h
 rcases Nat.lt_or_ge (b.countP (· < v)) b.length with h1 | h1
 ·exact h1
 have := List.countP_eq_length.1 (Nat.le_antisymm List.countP_le_length h1) v h
 simp at this
abbrev HoldA_Tj7 (wb : World) (g1 g2 : Nat) (l1 l2 : List Nat) (W : World) : Prop :=
 W.cell? ⟨g1, 0, none⟩ = some (.int .i64 (l1.length : Int)) ∧ W.cell? ⟨g1, 1, none⟩ = some (szV l1 0) ∧ W.cell? ⟨g1, 2, none⟩ = some (szV l1 1) ∧ W.cell? ⟨g1, 3, none⟩ = some (szV l1 2) ∧ W.cell? ⟨g1, 4, none⟩ = some (szV l1 3) ∧ W.cell? ⟨g1, 5, none⟩ = some (szV l1 4) ∧ W.cell? ⟨g1, 6, none⟩ = some (szV l1 5) ∧ W.cell? ⟨g2, 0, none⟩ = some (.int .i64 (l2.length : Int)) ∧ W.cell? ⟨g2, 1, none⟩ = some (szV l2 0) ∧ W.cell? ⟨g2, 2, none⟩ = some (szV l2 1) ∧ W.cell? ⟨g2, 3, none⟩ = some (szV l2 2) ∧ W.cell? ⟨g2, 4, none⟩ = some (szV l2 3) ∧ W.cell? ⟨g2, 5, none⟩ = some (szV l2 4) ∧ W.cell? ⟨g2, 6, none⟩ = some (szV l2 5) ∧ Below wb.heap.size wb W
theorem holdA_Tj7 {wb W W' : World} {g1 g2 : Nat} {l1 l2 : List Nat} (H : HoldA_Tj7 wb g1 g2 l1 l2 W) (hb : Below W.heap.size W W') : HoldA_Tj7 wb g1 g2 l1 l2 W' := by
 obtain ⟨a0, a1, a2, a3, a4, a5, a6, b0, b1, b2, b3, b4, b5, b6, h9⟩ := H
 have K : ∀ b i v, W.cell? ⟨b, i, none⟩ = some v → W'.cell? ⟨b, i, none⟩ = some v := fun b i v h => (hb.cell (p := ⟨b, i, none⟩) (World.block_lt_of_cell? W _ h)).trans h
 exact ⟨K _ _ _ a0, K _ _ _ a1, K _ _ _ a2, K _ _ _ a3, K _ _ _ a4, K _ _ _ a5, K _ _ _ a6, K _ _ _ b0, K _ _ _ b1, K _ _ _ b2, K _ _ _ b3, K _ _ _ b4, K _ _ _ b5, K _ _ _ b6, h9.trans (hb.mono h9.size)⟩
theorem HoldA_Tj7.below {wb W : World} {g1 g2 : Nat} {l1 l2 : List Nat} (H : HoldA_Tj7 wb g1 g2 l1 l2 W) : Below wb.heap.size wb W := H.2.2.2.2.2.2.2.2.2.2.2.2.2.2
theorem HoldA_Tj7.of {w : World} {g1 h1 g2 h2 : Nat} {l1 l2 : List Nat} {k1 k2 : Int} {z1 z2 : Nat → Int} (T1 : TabAt w g1 h1 l1 k1 z1) (T2 : TabAt w g2 h2 l2 k2 z2) : HoldA_Tj7 w g1 g2 l1 l2 w := by
 obtain ⟨a0, a1, a2, a3, a4, a5, a6, a7, a8⟩ := T1.cells
 obtain ⟨b0, b1, b2, b3, b4, b5, b6, b7, b8⟩ := T2.cells
 exact ⟨a0, a1, a2, a3, a4, a5, a6, b0, b1, b2, b3, b4, b5, b6, Below.refl _ _⟩
set_option maxRecDepth 100000 in
set_option maxHeartbeats 1000000 in
theorem agree_any (g1 h1 n1 c1 g2 h2 n2 c2 : Nat) (A1 A2 : Option Addr) (l1 l2 a b : List Nat) (k1 k2 : Int) (z1 z2 : Nat → Int) (w : World) (T1 : TabAt w g1 h1 l1 k1 z1) (T2 : TabAt w g2 h2 l2 k2 z2)
  (hl1 : l1.length = n1) (hl2 : l2.length = n2) (ha : a.length = n1) (hb : b.length = n2) (i1 : Ints w A1 a) (i2 : Ints w A2 b) (h61 : n1 ≤ 6) (h62 : n2 ≤ 6) (hs : b.Pairwise (· ≤ ·)) :
  Calls Tryz.prog 179 #[.pointer (some ⟨g1, 0, none⟩), .slice A1 n1 c1, .pointer (some ⟨g2, 0, none⟩), .slice A2 n2 c2] w fun e w' => e = .returned (.bool (AgB a b l1 l2)) ∧ Below w.heap.size w w' := by
 have HT1 := hid T1
 have HT2 := hid T2
 have HL1 := hid hl1
 have HL2 := hid hl2
 have HA := hid ha
 have HB := hid hb
 have I1 := hid i1
 have I2 := hid i2
 have HS := hid hs
 clear T1 T2 hl1 hl2 ha hb i1 i2 hs
 go_enter Tryz.func179, Tryz.ntmps179
 go_upto_region 2 with fail
 go_loopw [15] (fun i wr => ∃ j : Nat, j ≤ n1 ∧ i = .int .i64 (j : Int) ∧ (∀ i, i < j → AgAt a b l1 l2 i = true) ∧ Below w.heap.size w wr) (fun i _ => n1 - (intOf i).toNat)
 case atStart => exact ⟨0, Nat.zero_le _, rfl, fun i hi => absurd hi (by omega), Below.refl _ _⟩
 case round =>
  obtain ⟨j, hj, rfl, hag, hbl⟩ := hrel
  have HG := hid hag
  have HBL := hid hbl
  clear hag hbl
  by_cases hlt : j < n1
  rotate_left
  ·have i1 : ¬ (j : Int) < (n1 : Int) := by omega
   obtain rfl : j = n1 := by omega
   clear hlt hj
   go_wp2_with fail
   go_ret
   exact ⟨by rw [show AgB a b l1 l2 = true from List.all_eq_true.2 fun i hi => HG.out i (by have := List.mem_range.1 hi; rw [HA.out] at this; exact this)]; rfl, HBL.out⟩
  obtain ⟨gs, os, rfl, hcs⟩ := (I1.out.below HBL.out (Nat.le_refl _)).at_ (i := j) (by rw [HA.out]; exact hlt)
  obtain ⟨v, hv⟩ : ∃ v, nth a j = v := ⟨_, rfl⟩
  have HV := hid hv
  rw [hv] at hcs
  clear hv
  have i1 : (j : Int) < (n1 : Int) := by omega
  have i2 : (0 : Int) ≤ (j : Int) := by omega
  have hwr := HBL.out.size
  have BS := hid (bsearch_any A2 n2 c2 v b wr HB.out HS.out (I2.out.below HBL.out (Nat.le_refl _)) (by omega))
  go_wp2_with fail
  refine BS.out.mono ?_
  rintro e w2 ⟨rfl, hb2⟩
  have B2 := hid (HBL.out.trans (hb2.mono hwr))
  have TT1 := hid (HT1.out.below (B2.out))
  have TT2 := hid (HT2.out.below (B2.out))
  have HAG : Hid (AgAt a b l1 l2 j = (!(b.contains v) || nth l1 j == nth l2 (b.countP (· < v)))) := hid (by rw [AgAt, HV.out])
  have CL : Hid (b.contains v = true → b.countP (· < v) < n2) := hid (by intro h; have := cntP_lt h; rw [HB.out] at this; exact this)
  clear hb2 hcs hwr BS
  generalize b.countP (· < v) = x at HAG CL ⊢
  generalize b.contains v = bb at HAG CL ⊢
  have HH := hid (HoldA_Tj7.of TT1.out TT2.out)
  have SZ1 := hid (fun W => size_yes l1 j W (by rw [HL1.out]; omega) (by rw [HL1.out]; exact hlt))
  have SZ2 : Hid (bb = true → ∀ W, Calls Tryz.prog 229 #[shV l2, .int .i64 (x : Int)] W fun e w' => e = .returned (.int .i64 (nth l2 x : Int)) ∧ Below W.heap.size W w') := hid (fun h W => size_yes l2 x W (by rw [HL2.out]; omega) (by rw [HL2.out]; exact CL.out h))
  obtain ⟨y1, hy1⟩ : ∃ y, nth l1 j = y := ⟨_, rfl⟩
  obtain ⟨y2, hy2⟩ : ∃ y, nth l2 x = y := ⟨_, rfl⟩
  rw [hy1] at SZ1 HAG
  rw [hy2] at SZ2 HAG
  clear hy1 hy2 TT1 TT2
  cases bb with
  | false =>
   have HA1 : Hid (AgAt a b l1 l2 j = true) := hid (by rw [HAG.out]; rfl)
   clear SZ1 SZ2 HAG CL
   go_upto_region 5 with fail
   refine wp_region_noPanic ?_
   refine wp_region_held_drew (S := fun W => HoldA_Tj7 w2 g1 g2 l1 l2 W) (by kernel_rfl) (holdA_Tj7 HH.out ((Below.refl _ _).drew)) (fun hHeld => ?_)
   generalize w2.drew = w6 at hHeld ⊢
   refine wt 0 ?r801
   refine wt 1 ?r802
   refine wu 2 ?r803
   refine wu 3 ?r804
   refine wu 4 ?r805
   refine wu 5 ?r806
   refine wu 6 ?r807
   refine wu 7 ?r808
   refine wu 8 ?r809
   refine wu 9 ?r810
   refine wu 10 ?r811
   refine wu 11 ?r812
   refine wu 12 ?r813
   refine wu 13 ?r814
   refine wu 14 ?r815
   refine wt 15 ?r816
   refine wpAnyH_done (by kernel_rfl) ?_ _
   refine NoPanic.normal ?_
   have BL := hid (B2.out.trans ((HoldA_Tj7.below hHeld).mono B2.out.size))
   go_wp2_with fail
   go_roundw
   case rel => exact ⟨j + 1, by omega, by go_num, fun i hi => by
    rcases Nat.lt_or_ge i j with h | h
    ·exact HG.out i h
    ·obtain rfl : i = j := by omega
     exact HA1.out, BL.out⟩
   case measure => simp [intOf]; omega
  | true =>
   have SZ3 := hid (SZ2.out rfl)
   clear SZ2
   go_upto_region 5 with fail
   refine wp_region_noPanic ?_
   refine wp_region_held_drew (S := fun W => HoldA_Tj7 w2 g1 g2 l1 l2 W) (by kernel_rfl) (holdA_Tj7 HH.out ((Below.refl _ _).drew)) (fun hHeld => ?_)
   generalize w2.drew = w6 at hHeld ⊢
   refine wt 0 ?r701
   refine wt 1 ?r702
   refine wt 2 ?r703
   refine wt 3 ?r704
   refine wt 4 ?r705
   refine wt 5 ?r706
   refine wt 6 ?r707
   refine wt 8 ?r708
   refine wt 9 ?r709
   refine wt 10 ?r710
   refine wt 11 ?r711
   refine wt 12 ?r712
   refine wr1 7 (fun K hK => ?_)
   go_simp
   refine (SZ1.out _).mono ?_
   rintro e wS ⟨rfl, hb⟩
   refine hK.out _ _ (holdA_Tj7 hHeld hb) (fun hHeld' => ?_)
   replace hHeld := hHeld'
   clear hHeld'
   clear hb
   clear hK K
   try simp only [Act.put, pa, pb, pc, pd, pe, pf]
   refine wr1 13 (fun K hK => ?_)
   go_simp
   refine (SZ3.out _).mono ?_
   rintro e wS ⟨rfl, hb⟩
   refine hK.out _ _ (holdA_Tj7 hHeld hb) (fun hHeld' => ?_)
   replace hHeld := hHeld'
   clear hHeld'
   clear hb
   clear hK K
   try simp only [Act.put, pa, pb, pc, pd, pe, pf]
   refine wt 14 ?r713
   refine wt 15 ?r714
   refine wpAnyH_done (by kernel_rfl) ?_ _
   refine NoPanic.normal ?_
   have BL := hid (B2.out.trans ((HoldA_Tj7.below hHeld).mono B2.out.size))
   by_cases he : y1 = y2
   rotate_left
   ·have HA1 : Hid (AgAt a b l1 l2 j = false) := hid (by rw [HAG.out]; simpa using he)
    have d : ((y1 : Int) != (y2 : Int)) = true := by simp; omega
    go_wp2_with fail
    go_ret
    exact ⟨by rw [agB_no (by rw [HA.out]; exact hlt) HA1.out]; rfl, BL.out⟩
   subst he
   have HA1 : Hid (AgAt a b l1 l2 j = true) := hid (by rw [HAG.out]; simp)
   have d : ((y1 : Int) != (y1 : Int)) = false := by simp
   go_wp2_with fail
   go_roundw
   case rel => exact ⟨j + 1, by omega, by go_num, fun i hi => by
    rcases Nat.lt_or_ge i j with h | h
    ·exact HG.out i h
    ·obtain rfl : i = j := by omega
     exact HA1.out, BL.out⟩
   case measure => simp [intOf]; omega
end Go.Proofs.YtmokogkndbinlaaGreatDoor
