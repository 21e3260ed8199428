/- Texts of this seat laid together (no statement of its own). -/
import Derived.Test.YteocbgcgfllieaaGreatDoorMgN
namespace Go.Proofs.YteocbgcgfllieaaGreatDoor
open Go.RowKit
set_option linter.unusedVariables false
theorem wrong_yesU (x : Int) (w : World) (h : x < 1 ∨ 32 < x) : Calls Tryz.prog 51 #[.int .i64 x] w fun e w' => e = .returned (.bool true) ∧ w = w' := by
  rcases (by omega : x < 1 ∨ (1 ≤ x ∧ 32 < x)) with h | ⟨h, h'⟩
  · go_enter Tryz.func51, Tryz.ntmps51
    go_wp2
    go_ret
    exact ⟨rfl, rfl⟩
  · go_enter Tryz.func51, Tryz.ntmps51
    go_wp2
    go_ret
    exact ⟨ret_bool (by simp <;> omega), rfl⟩
theorem wrong_noU (x : Int) (w : World) (h1 : 1 ≤ x) (h2 : x ≤ 32) : Calls Tryz.prog 51 #[.int .i64 x] w fun e w' => e = .returned (.bool false) ∧ w = w' := by
  go_enter Tryz.func51, Tryz.ntmps51
  go_wp2
  go_ret
  exact ⟨ret_bool (by simp <;> omega), rfl⟩
theorem index_noneU (A : Option Addr) (n c : Nat) (z : Nat → Int) (w : World) (hn : n ≤ 1000000) (hr : Zs w A n z) (hz : ∀ i, i < n → 1 ≤ z i ∧ z i ≤ 32) :
    Calls Tryz.prog 71 #[.slice A n c, .func (.func 51) #[] #[]] w fun e w' => e = .returned (.int .i64 (-1)) ∧ w = w' := by
  have HZ := Lib.hid hz
  have HR := Lib.hid hr
  clear hz hr
  go_enter Tryz.func71, Tryz.ntmps71
  go_wp2_with fail
  go_loop [5, 8] (fun _ i => ∃ j : Nat, j ≤ n ∧ i = .int .i64 j) (fun _ i => n - (intOf i).toNat)
  case atStart => exact ⟨0, Nat.zero_le _, rfl⟩
  case round =>
    obtain ⟨j, hj, rfl⟩ := hrel
    by_cases hlt : j < n
    · obtain ⟨g, o, rfl, hcell⟩ := HR.out.at_ hlt
      have hz := HZ.out j hlt
      generalize z j = x at hcell hz
      obtain ⟨hz1, hz2⟩ := hz
      go_wp2_with (go_at_call 51; refine (wrong_noU _ _ hz1 hz2).mono ?_; rintro e w' ⟨rfl, rfl⟩)
      go_round
      case rel => exact ⟨j + 1, by omega, by go_num⟩
      case measure => simp [intOf]; omega
    · go_wp2
      go_ret
      exact ⟨rfl, rfl⟩
theorem index_someU (A : Option Addr) (n c p : Nat) (z : Nat → Int) (w : World) (hn : n ≤ 1000000) (hr : Zs w A n z) (hp : p < n) (hq : ∀ i, i < p → 1 ≤ z i ∧ z i ≤ 32) (hz : z p < 1 ∨ 32 < z p) :
    Calls Tryz.prog 71 #[.slice A n c, .func (.func 51) #[] #[]] w fun e w' => e = .returned (.int .i64 p) ∧ w = w' := by
  have HZ := Lib.hid hz
  have HQ := Lib.hid hq
  have HR := Lib.hid hr
  clear hz hq hr
  go_enter Tryz.func71, Tryz.ntmps71
  go_wp2_with fail
  go_loop [5, 8] (fun _ i => ∃ j : Nat, j ≤ p ∧ i = .int .i64 j) (fun _ i => n - (intOf i).toNat)
  case atStart => exact ⟨0, Nat.zero_le _, rfl⟩
  case round =>
    obtain ⟨j, hj, rfl⟩ := hrel
    have hlt : j < n := by omega
    obtain ⟨g, o, rfl, hcell⟩ := HR.out.at_ hlt
    by_cases e : j = p
    · have HX : Hid (z j < 1 ∨ 32 < z j) := Lib.hid (by rw [e]; exact HZ.out)
      have HE := Lib.hid e
      clear e
      generalize z j = x at hcell HX
      go_wp2_with (go_at_call 51; refine (wrong_yesU _ _ HX.out).mono ?_; rintro e w' ⟨rfl, rfl⟩)
      go_ret
      exact ⟨ret_int (by rw [HE.out]), rfl⟩
    · have hz := HQ.out j (by omega)
      have hjp : j + 1 ≤ p := by omega
      clear e
      generalize z j = x at hcell hz
      obtain ⟨hz1, hz2⟩ := hz
      go_wp2_with (go_at_call 51; refine (wrong_noU _ _ hz1 hz2).mono ?_; rintro e w' ⟨rfl, rfl⟩)
      go_round
      case rel => exact ⟨j + 1, by omega, by go_num⟩
      case measure => simp [intOf]; omega
theorem contains_noU (A : Option Addr) (n c : Nat) (z : Nat → Int) (w : World) (hn : n ≤ 1000000) (hr : Zs w A n z) (hz : ∀ i, i < n → 1 ≤ z i ∧ z i ≤ 32) :
    Calls Tryz.prog 50 #[.slice A n c, .func (.func 51) #[] #[]] w fun e w' => e = .returned (.bool false) ∧ w = w' := by
  have H := Lib.hid (index_noneU A n c z w hn hr hz)
  clear hr hz
  go_enter Tryz.func50, Tryz.ntmps50
  go_wp2_with (go_at_call 71; refine H.out.mono ?_; rintro e w' ⟨rfl, rfl⟩)
  go_ret
  exact ⟨rfl, rfl⟩
theorem contains_yesU (A : Option Addr) (n c p : Nat) (z : Nat → Int) (w : World) (hn : n ≤ 1000000) (hr : Zs w A n z) (hp : p < n) (hz : z p < 1 ∨ 32 < z p) :
    Calls Tryz.prog 50 #[.slice A n c, .func (.func 51) #[] #[]] w fun e w' => e = .returned (.bool true) ∧ w = w' := by
  have H : Hid (∃ q : Nat, Calls Tryz.prog 71 #[.slice A n c, .func (.func 51) #[] #[]] w fun e w' => e = .returned (.int .i64 q) ∧ w = w') := by
    rcases first_at (fun i => z i < 1 ∨ 32 < z i) n with h | ⟨q, h1, h2, h3⟩
    · exact absurd hz (h p hp)
    · exact Lib.hid ⟨q, index_someU A n c q z w hn hr h1 (fun i hi => by have := h2 i hi; omega) h3⟩
  clear hr hz
  obtain ⟨q, hq⟩ := H.out
  have HQ := Lib.hid hq
  clear hq H
  have h0 : 0 ≤ (q : Int) := by omega
  go_enter Tryz.func50, Tryz.ntmps50
  go_wp2_with (go_at_call 71; refine HQ.out.mono ?_; rintro e w' ⟨rfl, rfl⟩)
  go_ret
  exact ⟨ret_bool (by simp <;> omega), rfl⟩
theorem tpnew_arg (A : Option Addr) (n c p : Nat) (z : Nat → Int) (k o : Int) (w : World) (hr : Zs w A n z) (h8 : n ≤ 8) (h : Bad n p z) :
    Calls Tryz.prog 22 #[.slice A n c, .int .i64 k, .int .i64 o] w fun e w' => e = .returned (.tuple #[.pointer none, .int .i64 1]) ∧ Below w.heap.size w w' := by
  rcases h with h6 | ⟨h6, h1, h2, h3⟩
  · have i1 : (6 : Int) < (n : Int) := by omega
    go_enter Tryz.func22, Tryz.ntmps22
    go_wp2_with fail
    go_ret2
    exact ⟨rfl, Below.refl _ _⟩
  · have i1 : ¬ ((6 : Int) < (n : Int)) := by omega
    have HC := Lib.hid (contains_yesU A n c p z w (by omega) hr h1 h3)
    clear hr h2 h3
    go_enter Tryz.func22, Tryz.ntmps22
    go_wp2_with fail
    refine HC.out.mono ?_
    rintro e w' ⟨rfl, rfl⟩
    go_wp2_with fail
    go_ret2
    exact ⟨rfl, Below.refl _ _⟩
theorem tpnew_range (A : Option Addr) (n c : Nat) (l : List Nat) (k o : Int) (w : World) (hn : n = l.length) (h6 : l.length ≤ 6) (hr : Ints w A l) (hl : ∀ n ∈ l, 1 ≤ n ∧ n ≤ 32) (hx : ¬ InK o k) :
    Calls Tryz.prog 22 #[.slice A n c, .int .i64 k, .int .i64 o] w fun e w' => e = .returned (.tuple #[.pointer none, .int .i64 3]) ∧ Below w.heap.size w w' := by
  have i1 : ¬ ((6 : Int) < (n : Int)) := by omega
  have HC := Lib.hid (contains_noU A n c _ w (by omega) (by rw [hn]; exact hr.zs) (fun i hi => by have := hl _ (nth_mem (l := l) (i := i) (by omega)); omega))
  have HX := Lib.hid hx
  clear hn hr hl hx
  go_enter Tryz.func22, Tryz.ntmps22
  go_wp2_with fail
  refine HC.out.mono ?_
  rintro e w' ⟨rfl, rfl⟩
  go_wp2_with fail
  refine (in_refused _ _ _ HX.out).mono ?_
  rintro e w' ⟨rfl, rfl⟩
  go_wp2_with fail
  go_ret2
  exact ⟨rfl, Below.refl _ _⟩
theorem tpnew_ok (A : Option Addr) (n c : Nat) (l : List Nat) (k o : Int) (w : World) (hn : n = l.length) (h6 : l.length ≤ 6) (hr : Ints w A l) (hl : ∀ n ∈ l, 1 ≤ n ∧ n ≤ 32) (hx : InK o k) :
    Calls Tryz.prog 22 #[.slice A n c, .int .i64 k, .int .i64 o] w fun e w' => (∃ g b A' c', e = .returned (.tuple #[.pointer (some ⟨g, 0, none⟩), .int .i64 0]) ∧ TpAt w' g b A' c' 0 l k o (fun _ => o) ∧ w.heap.size ≤ g ∧ w.heap.size ≤ b) ∧ Below w.heap.size w w' := by
  have i1 : ¬ ((6 : Int) < (n : Int)) := by omega
  have HC := Lib.hid (contains_noU A n c _ w (by omega) (by rw [hn]; exact hr.zs) (fun i hi => by have := hl _ (nth_mem (l := l) (i := i) (by omega)); omega))
  have HK := Lib.hid (clone_any' A n c l w hn (by omega) hr)
  have HX := Lib.hid hx
  have HN := Lib.hid hn
  have hmm := @run_makeMap Tryz.prog
  clear hn hr hl hx
  go_enter Tryz.func22, Tryz.ntmps22
  go_wp2_with fail
  refine HC.out.mono ?_
  rintro e w' ⟨rfl, rfl⟩
  go_wp2_with fail
  refine (in_yes _ _ _ HX.out.1 HX.out.2.1 HX.out.2.2.1 HX.out.2.2.2).mono ?_
  rintro e w' ⟨rfl, rfl⟩
  go_wp2_with fail
  refine HK.out.mono ?_
  rintro e w1 ⟨⟨v, rfl, hO⟩, b1⟩
  obtain ⟨A', c', rfl, hI⟩ := hO.form
  have hcap := own_cap hO
  rw [← HN.out]
  have H1 := Lib.hid hI
  have B1 := Lib.hid b1
  clear hO hI b1
  go_wp2_with fail
  go_ret2
  have e := HN.out
  subst e
  have r := heap_alloc_new (w1.alloc (.map #[] 0)) (.cells #[.slice A' l.length c', .int .i64 k, .int .i64 o, .map (some w1.heap.size)] 101)
  rw [World.size_alloc] at r
  have n1 := new_val w1 (.map #[] 0)
  have n2 := new_val (w1.alloc (.map #[] 0)) (.cells #[.slice A' l.length c', .int .i64 k, .int .i64 o, .map (some w1.heap.size)] 101)
  have hs := B1.out.size
  exact ⟨⟨w1.heap.size + 1, w1.heap.size, A', c', rfl, ⟨r, (H1.out.below n1 (Nat.le_refl _)).below n2 (Nat.le_refl _), hcap, .map [], (World.ownsMap_made w1 _ _ _).kept (grown_of_below n2) (by simp), repF_empty l o⟩, by omega, hs⟩, then_ (then_ B1.out n1) n2⟩
end Go.Proofs.YteocbgcgfllieaaGreatDoor

namespace Go.Proofs.YteocbgcgfllieaaGreatDoor
open Go.RowKit
set_option linter.unusedVariables false
abbrev kyC (t : List Nat) : Array Value := #[szV t 0, szV t 1, szV t 2, szV t 3, szV t 4, szV t 5]
abbrev kyZ : Array Value := #[.int .i64 0, .int .i64 0, .int .i64 0, .int .i64 0, .int .i64 0, .int .i64 0]
theorem kyZ_eq : kyC [] = kyZ := rfl
theorem nth_take (t : List Nat) (j i : Nat) : nth (t.take j) i = if i < j then nth t i else 0 := by
  unfold nth
  simp only [List.getD_eq_getElem?_getD, List.getElem?_take]
  split <;> rfl
theorem kyC_set (t : List Nat) (j : Nat) (hj : j < 6) : (kyC (t.take j)).setIfInBounds j (szV t j) = kyC (t.take (j + 1)) := by
  simp only [kyC, szV, nth_take]
  rcases (by omega : j = 0 ∨ j = 1 ∨ j = 2 ∨ j = 3 ∨ j = 4 ∨ j = 5) with rfl | rfl | rfl | rfl | rfl | rfl <;> simp
theorem ky_one (t : List Nat) : (kyC t).all (·.oneCell') = true := by simp [Value.oneCell']
theorem results_ky {fn : Func} {p q : Tmp} (h : fn.results = #[.cell p 103, .tmp q]) (tmps : Array Value) (w : World) (g : Nat) (t : List Nat)
    (hp : tmps.getD p undef = .pointer (some ⟨g, 0, none⟩)) (hg : w.heap[g]? = some (.cells (kyC t) 103 (0, 0))) :
    (results fn tmps).run Tryz.prog w = .ok (.tuple #[keyV t, tmps.getD q undef]) w := by
  have c0 : w.cell? ⟨g, 0, none⟩ = some (szV t 0) := by rw [cell_of_row _ _ _ _ _ _ hg]; rfl
  have c1 : w.cell? ⟨g, 1, none⟩ = some (szV t 1) := by rw [cell_of_row _ _ _ _ _ _ hg]; rfl
  have c2 : w.cell? ⟨g, 2, none⟩ = some (szV t 2) := by rw [cell_of_row _ _ _ _ _ _ hg]; rfl
  have c3 : w.cell? ⟨g, 3, none⟩ = some (szV t 3) := by rw [cell_of_row _ _ _ _ _ _ hg]; rfl
  have c4 : w.cell? ⟨g, 4, none⟩ = some (szV t 4) := by rw [cell_of_row _ _ _ _ _ _ hg]; rfl
  have c5 : w.cell? ⟨g, 5, none⟩ = some (szV t 5) := by rw [cell_of_row _ _ _ _ _ _ hg]; rfl
  have hp' : tmps[p]?.getD undef = .pointer (some ⟨g, 0, none⟩) := by simpa using hp
  simp [results, h, hp', go_sem, c0, c1, c2, c3, c4, c5]
structure KeyI (w : World) (t : List Nat) (j : Nat) (W : World) : Prop where
  res : W.heap[w.heap.size]? = some (.cells (kyC []) 103 (0, 0))
  row : W.heap[w.heap.size + 1]? = some (.cells (kyC (t.take j)) 103 (0, 0))
  bel : Below w.heap.size w W
theorem KeyI.start (w : World) (t : List Nat) : KeyI w t 0 ((w.alloc (.cells (kyC []) 103)).alloc (.cells (kyC []) 103)) :=
  ⟨((new_val (w.alloc (.cells (kyC []) 103)) (.cells (kyC []) 103)).block _ (by simp)).trans (heap_alloc_new w _), alloc_two w _ _, then_ (new_val w _) (new_val _ _)⟩
theorem KeyI.store {w W : World} {t : List Nat} {j : Nat} (H : KeyI w t j W) (hj : j < 6) :
    W.cell? ⟨w.heap.size + 1, j, none⟩ = some (szV (t.take j) j) ∧ W.frozen? ⟨w.heap.size + 1, j, none⟩ = false ∧ KeyI w t (j + 1) (W.setCell ⟨w.heap.size + 1, j, none⟩ (szV t j)) := by
  refine ⟨?_, frozen_of_row W _ j _ 103 H.row, (heap_setCell_other W ⟨w.heap.size + 1, j, none⟩ w.heap.size _ (by show w.heap.size ≠ w.heap.size + 1; omega)).trans H.res, ?_, ?_⟩
  · rw [cell_of_row _ _ _ _ _ _ H.row]
    rcases (by omega : j = 0 ∨ j = 1 ∨ j = 2 ∨ j = 3 ∨ j = 4 ∨ j = 5) with rfl | rfl | rfl | rfl | rfl | rfl <;> rfl
  · rw [heap_setCell_same W (w.heap.size + 1) j _ 103 _ H.row, kyC_set t j hj]
  · exact H.bel.grown (row := some (w.heap.size + 1)) (World.grownBy.mk rfl rfl rfl (by simp) (fun k _ hk => heap_setCell_other W ⟨w.heap.size + 1, j, none⟩ k _ (fun e => hk (by simp [e])))) H.bel.size (fun b e => by injection e with e; omega)
theorem keyof_len (g b N c n cb : Nat) (A B : Option Addr) (l : List Nat) (k o : Int) (f : List Nat → Int) (w : World) (H : TpAt w g b A c N l k o f) (hn : n ≠ l.length) :
    Calls Tryz.prog 48 #[.pointer (some ⟨g, 0, none⟩), .slice B n cb] w fun e w' => e = .returned (.tuple #[keyV [], .bool false]) ∧ Below w.heap.size w w' := by
  have HT := Lib.hid (H.below (new_val w (.cells kyZ 103)))
  obtain ⟨c0, c1, c2, c3⟩ := HT.out.cells
  have d : ((n : Int) != (l.length : Int)) = true := by rw [bne_iff_ne]; omega
  clear H c1 c2 c3 hn
  go_enter Tryz.func48, Tryz.ntmps48
  go_wp2_with ((with_reducible show wpList _ _ _ (Oper.mk none (.store 103 _ _) _ _ _ _ :: _) _ _)
               refine wpList_store_row rfl 103 (.tmp 4) (.tmp 17) rfl w.heap.size kyZ rfl rfl 103 kyZ (heap_alloc_new _ _) (by kernel_rfl) rfl (ky_one []) ?_
               rw [World.setRow_alloc_new])
  exact bodyPost_ret (results_ky rfl _ _ w.heap.size [] rfl (heap_alloc_new _ _)) rfl ⟨rfl, new_val _ _⟩
set_option maxRecDepth 100000 in
set_option maxHeartbeats 4000000 in
theorem keyof_any (g b N c n cb : Nat) (A B : Option Addr) (l : List Nat) (z : Nat → Int) (k o : Int) (f : List Nat → Int) (w : World) (H : TpAt w g b A c N l k o f) (hn : n = l.length) (h6 : l.length ≤ 6) (hr : Zs w B n z) (q : Nat) (hq : q ≤ n) (t : List Nat) (ht : t.length = n) (hz : ∀ i, i < q → z i = (nth t i : Int) ∧ nth t i < nth l i) (hbad : q < n → z q < 0 ∨ (nth l q : Int) ≤ z q) :
    Calls Tryz.prog 48 #[.pointer (some ⟨g, 0, none⟩), .slice B n cb] w fun e w' => e = .returned (.tuple #[if q < n then keyV [] else keyV t, .bool (decide (q = n))]) ∧ Below w.heap.size w w' := by
  have n1 := new_val w (.cells kyZ 103)
  have HT := Lib.hid H
  have HR := Lib.hid hr
  have HZ := Lib.hid hz
  have HB := Lib.hid hbad
  have HTL := Lib.hid ht
  obtain ⟨c0, c1, c2, c3⟩ := (H.below n1).cells
  rw [← hn] at c0
  have HN := Lib.hid hn
  have hn6 : n ≤ 6 := by omega
  have dn : ((n : Int) != (n : Int)) = false := by simp
  clear H hr hz hbad ht c1 c2 c3 n1 h6
  go_enter Tryz.func48, Tryz.ntmps48
  go_wp2_with fail
  have K0 := KeyI.start w t
  go_loopw [7, 8, 20] (fun _ _ i wr => ∃ j : Nat, j ≤ q ∧ i = .int .i64 (j : Int) ∧ KeyI w t j wr) (fun _ _ i _ => n - (intOf i).toNat)
  case atStart => exact ⟨0, Nat.zero_le _, rfl, K0⟩
  case round =>
    obtain ⟨j, hj, rfl, hK⟩ := hrel
    have HK := Lib.hid hK
    clear hK
    obtain ⟨c0, c1, c2, c3⟩ := (HT.out.below HK.out.bel).cells
    rw [← HN.out] at c0
    clear c1 c2 c3
    by_cases hlt : j < n
    · obtain ⟨gz, oz, rfl, hcell⟩ := (HR.out.below HK.out.bel (Nat.le_refl _)).at_ hlt
      obtain ⟨gs, os, rfl, hsz⟩ := (HT.out.ints.below HK.out.bel (Nat.le_refl _)).at_ (i := j) (by rw [← HN.out]; exact hlt)
      have ji : (j : Int) < (n : Int) := by omega
      have j0 : (0 : Int) ≤ (j : Int) := by omega
      have j6 : (j : Int) < 6 := by omega
      by_cases hjq : j < q
      · obtain ⟨e1, e2⟩ := HZ.out j hjq
        obtain ⟨s1, s2, s3⟩ := HK.out.store (by omega : j < 6)
        have HS := Lib.hid s3
        rw [e1] at hcell
        simp only [szV] at s1 HS
        generalize nth t j = x at hcell e2 HS
        generalize nth l j = y at hsz e2
        generalize nth (t.take j) j = v at s1
        have x0 : ¬ ((x : Int) < 0) := by omega
        have x1 : ¬ ((y : Int) ≤ (x : Int)) := by omega
        clear s3 e1
        go_wp2_with fail
        go_roundw
        case rel => exact ⟨j + 1, by omega, by go_num, HS.out⟩
        case measure => simp [intOf]; omega
      · obtain rfl : j = q := by omega
        have hb := HB.out hlt
        generalize z j = x at hcell hb
        generalize nth l j = y at hsz hb
        rcases (by omega : x < 0 ∨ (0 ≤ x ∧ (y : Int) ≤ x)) with x0 | ⟨x0, x1⟩
        · clear hb
          go_wp2_with ((with_reducible show wpList _ _ _ (Oper.mk none (.store 103 _ _) _ _ _ _ :: _) _ _)
                       refine wpList_store_row rfl 103 (.tmp 4) (.tmp 38) rfl w.heap.size kyZ rfl rfl 103 (kyC []) HK.out.res (by kernel_rfl) rfl (ky_one []) ?_)
          exact bodyPost_ret (results_ky rfl _ _ w.heap.size [] rfl (setRow_heap _ _ _ _ _ _ HK.out.res)) rfl ⟨by rw [show decide (j = l.length) = false from decide_eq_false (by have := HN.out; omega)]; rfl, below_setRow HK.out.bel (Nat.le_refl _) _⟩
        · have x2 : ¬ (x < 0) := by omega
          clear hb
          go_wp2_with ((with_reducible show wpList _ _ _ (Oper.mk none (.store 103 _ _) _ _ _ _ :: _) _ _)
                       refine wpList_store_row rfl 103 (.tmp 4) (.tmp 38) rfl w.heap.size kyZ rfl rfl 103 (kyC []) HK.out.res (by kernel_rfl) rfl (ky_one []) ?_)
          exact bodyPost_ret (results_ky rfl _ _ w.heap.size [] rfl (setRow_heap _ _ _ _ _ _ HK.out.res)) rfl ⟨by rw [show decide (j = l.length) = false from decide_eq_false (by have := HN.out; omega)]; rfl, below_setRow HK.out.bel (Nat.le_refl _) _⟩
    · obtain rfl : j = q := by omega
      obtain rfl : j = n := by omega
      have ji : ¬ ((j : Int) < (j : Int)) := by omega
      have htk : t.take j = t := List.take_of_length_le (by rw [HTL.out]; omega)
      have hrow := HK.out.row
      rw [htk] at hrow
      have y0 : wr.cell? ⟨w.heap.size + 1, 0, none⟩ = some (szV t 0) := by rw [cell_of_row _ _ _ _ _ _ hrow]; rfl
      have y1 : wr.cell? ⟨w.heap.size + 1, 1, none⟩ = some (szV t 1) := by rw [cell_of_row _ _ _ _ _ _ hrow]; rfl
      have y2 : wr.cell? ⟨w.heap.size + 1, 2, none⟩ = some (szV t 2) := by rw [cell_of_row _ _ _ _ _ _ hrow]; rfl
      have y3 : wr.cell? ⟨w.heap.size + 1, 3, none⟩ = some (szV t 3) := by rw [cell_of_row _ _ _ _ _ _ hrow]; rfl
      have y4 : wr.cell? ⟨w.heap.size + 1, 4, none⟩ = some (szV t 4) := by rw [cell_of_row _ _ _ _ _ _ hrow]; rfl
      have y5 : wr.cell? ⟨w.heap.size + 1, 5, none⟩ = some (szV t 5) := by rw [cell_of_row _ _ _ _ _ _ hrow]; rfl
      clear hrow htk
      go_wp2_with ((with_reducible show wpList _ _ _ (Oper.mk none (.store 103 _ _) _ _ _ _ :: _) _ _)
                   refine wpList_store_row rfl 103 (.tmp 4) (.tmp 43) rfl w.heap.size (kyC t) rfl rfl 103 (kyC []) HK.out.res (by kernel_rfl) rfl (ky_one t) ?_)
      exact bodyPost_ret (results_ky rfl _ _ w.heap.size t rfl (setRow_heap _ _ _ _ _ _ HK.out.res)) rfl ⟨by first | rfl | (rw [if_neg (by omega), decide_eq_true rfl]; rfl), below_setRow HK.out.bel (Nat.le_refl _) _⟩
/-- What keyOf answers of a tuple that there is. -/
theorem keyof_ok (g b N c n cb : Nat) (A B : Option Addr) (l t : List Nat) (k o : Int) (f : List Nat → Int) (w : World) (H : TpAt w g b A c N l k o f) (hn : n = t.length) (h6 : l.length ≤ 6) (hr : Ints w B t) (hin : InL l t) :
    Calls Tryz.prog 48 #[.pointer (some ⟨g, 0, none⟩), .slice B n cb] w fun e w' => e = .returned (.tuple #[keyV t, .bool true]) ∧ Below w.heap.size w w' := by
  have hl := hin.length
  have h := keyof_any g b N c n cb A B l (fun i => (nth t i : Int)) k o f w H (by omega) h6 (by rw [hn]; exact hr.zs) n (Nat.le_refl _) t hn.symm (fun i hi => ⟨rfl, (inL_iff.1 hin).2 i (by omega)⟩) (fun h => absurd h (Nat.lt_irrefl _))
  rw [if_neg (Nat.lt_irrefl _), decide_eq_true rfl] at h
  exact h
/-- What it answers of what is none. -/
theorem keyof_no (g b N c n cb : Nat) (A B : Option Addr) (l : List Nat) (z : Nat → Int) (k o : Int) (f : List Nat → Int) (w : World) (H : TpAt w g b A c N l k o f) (h6 : l.length ≤ 6) (hr : Zs w B n z) (hno : n ≠ l.length ∨ (n = l.length ∧ ∃ q, q < n ∧ (∀ i, i < q → 0 ≤ z i ∧ z i < (nth l i : Int)) ∧ (z q < 0 ∨ (nth l q : Int) ≤ z q))) :
    Calls Tryz.prog 48 #[.pointer (some ⟨g, 0, none⟩), .slice B n cb] w fun e w' => e = .returned (.tuple #[keyV [], .bool false]) ∧ Below w.heap.size w w' := by
  rcases hno with h | ⟨hn, q, hq, h1, h2⟩
  · exact keyof_len g b N c n cb A B l k o f w H h
  · have h := keyof_any g b N c n cb A B l z k o f w H hn h6 hr q (by omega) ((List.range n).map fun i => (z i).toNat) (by simp) (fun i hi => by
      have := h1 i hi
      have e : nth ((List.range n).map fun i => (z i).toNat) i = (z i).toNat := by
        unfold nth
        rw [List.getD_eq_getElem?_getD, List.getElem?_map, List.getElem?_range (by omega)]
        rfl
      rw [e]
      omega) (fun _ => h2)
    rw [if_pos hq, decide_eq_false (by omega)] at h
    exact h
end Go.Proofs.YteocbgcgfllieaaGreatDoor
