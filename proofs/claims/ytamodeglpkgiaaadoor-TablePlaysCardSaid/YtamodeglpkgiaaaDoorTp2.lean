/- Contracts of the document's Same and Index of a tuple that there isn't; the law's made, with costs of its own (no statement of its own). -/
import Derived.Test.YtamodeglpkgiaaaDoorTp1
import Derived.Test.YtamodeglpkgiaaaDoorTbW
import Derived.Test.YtamodeglpkgiaaaDoorTt2
namespace Go.Proofs.YtamodeglpkgiaaaDoor
open Go.RowKit
set_option linter.unusedVariables false
theorem rsameZ_no (A A2 : Option Addr) (n c c2 p : Nat) (l : List Nat) (o : Nat → Int) (w : World) (hn : n = l.length) (hl : n ≤ 1000000) (hw : Ints w A l) (hw2 : Zs w A2 n o) (hp : p < n)
    (hq : ∀ i, i < p → (nth l i : Int) = o i) (h : (nth l p : Int) ≠ o p) :
    Calls Tryd.prog 35 #[.slice A n c, .slice A2 n c2] w fun e w' => e = .returned (.bool false) ∧ Below w.heap.size w w' := by
  have HN := Lib.hid hn
  have HW := Lib.hid hw
  have HW2 := Lib.hid hw2
  have HQ := Lib.hid hq
  have HX := Lib.hid h
  clear hn hw hw2 hq h
  go_enter Tryd.func35, Tryd.ntmps35
  go_wp2_with fail
  go_loopw [5, 13] (fun _ i wr => ∃ j : Nat, j ≤ p ∧ i = .int .i64 j ∧ Below w.heap.size w wr) (fun _ i _ => n - (intOf i).toNat)
  case atStart => exact ⟨0, Nat.zero_le _, rfl, Below.refl _ _⟩
  case round =>
    obtain ⟨j, hj, rfl, hb⟩ := hrel
    have HB := Lib.hid hb
    clear hb
    have hlt : j < n := by omega
    have hjl : j < l.length := by have := HN.out; omega
    obtain ⟨g, o1, rfl, hcell⟩ := (HW.out.below HB.out (Nat.le_refl _)).at_ hjl
    obtain ⟨g2, o2, rfl, hcell2⟩ := (HW2.out.below HB.out (Nat.le_refl _)).at_ hlt
    clear hjl
    have i1 : (j : Int) < (n : Int) := by omega
    have i2 : (0 : Int) ≤ (j : Int) := by omega
    by_cases e : j = p
    · have hx : ((nth l j : Int) != o j) = true := by rw [e, bne_iff_ne]; exact HX.out
      generalize (nth l j : Int) = y at hcell hx
      generalize o j = y2 at hcell2 hx
      clear e
      go_wp2_with fail
      go_quiet (fail)
      go_wp2
      go_ret
      exact ⟨rfl, next_drewN HB.out _⟩
    · have hjp : j + 1 ≤ p := by omega
      have hq := HQ.out j (by omega)
      rw [← hq] at hcell2
      generalize (nth l j : Int) = y at hcell hcell2
      clear e hq
      go_wp2_with fail
      go_quiet (fail)
      go_wp2
      go_roundw
      case rel => exact ⟨j + 1, by omega, by go_num, next_drewN HB.out _⟩
      case measure => simp [intOf]; omega
/-- No tuple of these sizes. -/
def OutL (l : List Nat) (m : Nat) (o : Nat → Int) : Prop := m ≠ l.length ∨ ∃ p, p < m ∧ p < l.length ∧ (o p < 0 ∨ (nth l p : Int) ≤ o p)
theorem rsame_outl (A A2 : Option Addr) (c m c2 j n : Nat) (l : List Nat) (o : Nat → Int) (w : World) (hn : l.length = n) (hl : n ≤ 1000000) (h1 : ∀ n ∈ l, 1 ≤ n) (hw : Ints w A (tupL l j)) (hw2 : Zs w A2 m o) (h : OutL l m o) :
    Calls Tryd.prog 35 #[.slice A n c, .slice A2 m c2] w fun e w' => e = .returned (.bool false) ∧ Below w.heap.size w w' := by
  subst hn
  by_cases hm : m = l.length
  · subst hm
    rcases h with h | ⟨p, hp, _, hbad⟩
    · exact absurd rfl h
    · have hin := inL_iff.1 (tupL_in h1 j)
      have hne : (nth (tupL l j) p : Int) ≠ o p := by have := hin.2 p hp; omega
      rcases first_at (fun i => (nth (tupL l j) i : Int) ≠ o i) l.length with h0 | ⟨q, hq, h2, h3⟩
      · exact absurd hne (h0 p hp)
      · exact rsameZ_no A A2 l.length c c2 q (tupL l j) o w (tupL_length l j).symm hl hw hw2 hq (fun i hi => by have := h2 i hi; simpa using this) h3
  · exact rsame_len A A2 _ c _ c2 w (fun e => hm e.symm)
set_option maxRecDepth 100000 in
set_option maxHeartbeats 4000000 in
theorem rindex_no (As : Option Addr) (cs : Nat) (Ax : Option Addr) (nx cx P n : Nat) (l : List Nat) (o : Nat → Int) (w : World) (h6 : n ≤ 6) (hn : l.length = n) (hcs : n ≤ cs) (hls : ∀ n ∈ l, 1 ≤ n ∧ n ≤ 32) (hP : prodL l = P) (hP4 : P ≤ 4096) (hI : Ints w As l) (hX : Zs w Ax nx o) (hno : OutL l nx o) :
    Calls Tryd.prog 11 #[.slice As n cs, .slice Ax nx cx] w fun e w' => e = .returned (.int .i64 (-1)) ∧ Below w.heap.size w w' := by
  have HLS := Lib.hid hls
  have HP := Lib.hid hP
  have HI := Lib.hid hI
  have HX := Lib.hid hX
  have HN := Lib.hid hn
  have HNO := Lib.hid hno
  clear hls hP hI hX hn hno
  go_enter Tryd.func11, Tryd.ntmps11
  go_wp2_with fail
  refine (rall_any4 As n cs P l w HN.out.symm (by rw [HN.out]; exact h6) hcs HLS.out HP.out hP4 HI.out).mono ?_
  rintro e w1 ⟨⟨Ar, cr, rfl, hR⟩, b1⟩
  have R1 := Lib.hid hR
  have B1 := Lib.hid b1
  clear hR b1
  go_wp2_with fail
  go_loopw [5, 6, 10] (fun _ _ v wr => ∃ j : Nat, j ≤ P ∧ v = .int .i64 j ∧ Below w1.heap.size w1 wr) (fun _ _ v _ => P - (intOf v).toNat)
  case atStart => exact ⟨0, Nat.zero_le _, rfl, Below.refl _ _⟩
  case round =>
    obtain ⟨j, hj, rfl, hb⟩ := hrel
    have HB := Lib.hid hb
    clear hb
    by_cases hjP : j < P
    · obtain ⟨Ar', cr', e1, hrow⟩ := (R1.out.below HB.out (Nat.le_refl _)).form
      obtain ⟨g, x, hA, hg, hc, hx⟩ := hrow j (by rw [allL_length, HP.out]; exact hjP)
      obtain rfl : Ar = Ar' := by injection e1
      subst hA
      have hx' : Own wr w.heap.size x (tupL l j) := by
        have e : nthT (allL l) j = tupL l j := allL_get l (by rw [HP.out]; exact hjP)
        rw [e] at hx
        exact hx
      obtain ⟨Ay, cy, rfl, hY⟩ := hx'.form
      rw [tupL_length, HN.out] at hc
      have HY := Lib.hid hY
      clear hx hx' hrow e1 hY
      have i1 : (j : Int) < (P : Int) := by omega
      have i2 : (0 : Int) ≤ (j : Int) := by omega
      go_wp2_with fail
      refine (rsame_outl _ _ _ _ _ j _ l o _ HN.out (by omega) (fun n hn => (HLS.out n hn).1) HY.out ((HX.out.below B1.out (Nat.le_refl _)).below HB.out (Nat.le_refl _)) HNO.out).mono ?_
      rintro e w3 ⟨rfl, b3⟩
      have B3 := Lib.hid (then_ HB.out b3)
      clear b3
      go_wp2_with fail
      go_roundw
      case rel => exact ⟨j + 1, by omega, by go_num, B3.out⟩
      case measure => simp [intOf]; omega
    · have i1 : ¬ ((j : Int) < (P : Int)) := by omega
      go_wp2_with fail
      go_ret
      exact ⟨rfl, then_ B1.out HB.out⟩
theorem own_row64 {w : World} {base n c : Nat} {A : Option Addr} {z : Nat → Int} (h : w.ownsRow base 2 1 (.slice A n c) n (costL z n)) (hn : 1 ≤ n) :
    ∃ g cur, A = some ⟨g, 0, none⟩ ∧ base ≤ g ∧ w.heap[g]? = some (.cells cur 2 (0, 0)) ∧ n ≤ cur.size ∧ ∀ i, i < n → cur[i]? = some (.int .i64 (z i)) := by
  obtain ⟨_, ⟨e, hn0⟩ | ⟨g, cap, cur, e, hb, hh, hm, _, hs, ht⟩⟩ := h
  · omega
  · injection e with e1 e2 e3
    refine ⟨g, cur, e1, hb, hh, by omega, fun i hi => ?_⟩
    have e : (cur.toList.take (n * 1))[i]? = some (.int .i64 (z i)) := by rw [ht]; simp [costL, hi]
    rw [List.getElem?_take] at e
    simpa [hi] using e
/-- What made answers: the costs lie in a block of their own. -/
def MadeOwn (w : World) (l : List Nat) (k : Int) (P : Nat) (f : Nat → Int) (e : Ending) (w' : World) : Prop :=
  ∃ g h As cs gc cc, e = .returned (.tuple #[.pointer (some ⟨g, 0, none⟩), .agg #[.slice As l.length cs, .int .i64 k, .slice (some ⟨gc, 0, none⟩) P cc]]) ∧
      TabAt w' g h l k f ∧ Ints w' As l ∧ l.length ≤ cs ∧ (∃ cur, w'.heap[gc]? = some (.cells cur 2 (0, 0)) ∧ P ≤ cur.size ∧ ∀ i, i < P → cur[i]? = some (.int .i64 (f i))) ∧ w.heap.size ≤ g ∧ w.heap.size ≤ h ∧ w.heap.size ≤ gc ∧ gc ≠ h ∧
      (∀ a : Addr, As = some a → a.block < h ∧ a.block ≠ gc) ∧ Below w.heap.size w w'
set_option maxRecDepth 100000 in
set_option maxHeartbeats 4000000 in
theorem made_own (A L : Option Addr) (n c m mc P : Nat) (l : List Nat) (z y : Nat → Int) (k : Int) (w : World) (hn : (n : Int) ≤ 9223372036854775807) (hz : Bytes w A n z) (hm : (m : Int) ≤ 9223372036854775807) (hL : Words w L m y)
    (hk1 : 1 ≤ k) (hk2 : k ≤ 2147483647) (hl : smL z (min n 3) = l) (hP : prodL l = P) :
    Calls Tryd.prog 8 #[.slice A n c, .int .i64 k, .slice L m mc] w (MadeOwn w l k P (mkC k y m)) := by
  have hl6 : l.length ≤ 3 := by rw [← hl, smL_len]; omega
  have HLS : Hid (∀ n ∈ l, 1 ≤ n ∧ n ≤ 32) := Lib.hid fun x hx => by rw [← hl] at hx; have := smL_small z _ x hx; omega
  have hP64 : 1 ≤ P ∧ P ≤ 64 := by rw [← hP, ← hl]; exact smL_prod z _ (by omega)
  have HP := Lib.hid hP
  have HS := Lib.hid (fun W (hb : Below w.heap.size w W) => small_any A n c z W hn (fun j hj => by
    obtain ⟨p, e, hp, hc, h1, h2⟩ := hz j hj
    exact ⟨p, e, Nat.lt_of_lt_of_le hp hb.size, (hb.cell (p := p.add j) (by rw [block_add]; exact hp)).trans hc, h1, h2⟩))
  rw [hl] at HS
  have HL := Lib.hid hL
  clear hn hz hL hl hP
  obtain ⟨hP1, hP4⟩ := hP64
  go_enter Tryd.func8, Tryd.ntmps8
  have n0 := new_val w (.cells #[.slice none 0 0, .int .i64 0, .slice none 0 0] 31)
  have X0 := Lib.hid (heap_alloc_new w (.cells #[.slice none 0 0, .int .i64 0, .slice none 0 0] 31))
  have B0 := Lib.hid n0
  have hz0 : w.heap.size < (w.alloc (.cells #[.slice none 0 0, .int .i64 0, .slice none 0 0] 31)).heap.size := by simp
  clear n0
  go_upto_region 1 with fail
  generalize w.alloc (.cells #[.slice none 0 0, .int .i64 0, .slice none 0 0] 31) = w1 at X0 B0 hz0 ⊢
  go_wp2_with fail
  refine (HS.out w1 B0.out).mono ?_
  rintro e w2 ⟨⟨v, rfl, hO⟩, b2⟩
  obtain ⟨As, cs, rfl, hI⟩ := hO.form
  have HCap := own_cap hO
  have HAs : Hid (∀ a : Addr, As = some a → w.heap.size < a.block) := Lib.hid fun a ha => by subst ha; have := (hO.lt a.block rfl).1; omega
  have hAsl : Hid (∀ a : Addr, As = some a → a.block < w2.heap.size) := Lib.hid fun a ha => by subst ha; exact (hO.lt a.block rfl).2
  have hAsk : Hid (∀ a : Addr, As = some a → ∃ c fz, w2.heap[a.block]? = some (.cells c 3 fz)) := Lib.hid fun a ha => by subst ha; exact Lib.ownsRow_kind hO a.block rfl
  have I2 := Lib.hid hI
  have B2 := Lib.hid (B0.out.trans (b2.mono (Nat.le_of_lt hz0)))
  have X2 := Lib.hid ((b2.block _ hz0).trans X0.out)
  have hz2 : w1.heap.size ≤ w2.heap.size := b2.size
  clear hO hI b2
  go_wp2_with fail
  refine (rmake_any As L l.length cs m mc P l k y w2 rfl (by omega) (fun n hn => (HLS.out n hn).2) I2.out HP.out (by omega) hk1 hk2 hm (fun j hj => by
    obtain ⟨p, e, hp, hc, h1, h2⟩ := HL.out j hj
    exact ⟨p, e, Nat.lt_of_lt_of_le hp B2.out.size, (B2.out.cell (p := p.add j) (by rw [block_add]; exact hp)).trans hc, h1, h2⟩)).mono ?_
  rintro e w3 ⟨⟨v, rfl, hO⟩, b3⟩
  obtain ⟨Ac, cc, rfl⟩ := row_form hO
  have I3 := Lib.hid (I2.out.below b3 (Nat.le_refl _))
  have B3 := Lib.hid (then_ B2.out b3)
  have X3 := Lib.hid ((b3.block _ (by omega)).trans X2.out)
  have O3 := Lib.hid hO
  have Z3 := Lib.hid (zs_row64 hO)
  have HAc : Hid (∀ a : Addr, Ac = some a → w.heap.size < a.block) := Lib.hid fun a ha => by subst ha; have := (World.ownsRow.lt hO a.block rfl).1; omega
  have hz3 : w2.heap.size ≤ w3.heap.size := b3.size
  have B23 := Lib.hid b3
  clear hO b3
  go_upto_region 2 with fail
  have n4 := new_val w3 (.cells #[.slice As l.length cs, .int .i64 k, .slice Ac P cc] 31)
  have X8 := Lib.hid (heap_alloc_new w3 (.cells #[.slice As l.length cs, .int .i64 k, .slice Ac P cc] 31))
  have I4 := Lib.hid (I3.out.below n4 (Nat.le_refl _))
  have B4 := Lib.hid (then_ B3.out n4)
  have X4 := Lib.hid ((n4.block _ (by omega)).trans X3.out)
  have O4 := Lib.hid (ownsRow_below O3.out n4 (Nat.le_refl _))
  have hz4 : w3.heap.size < (w3.alloc (.cells #[.slice As l.length cs, .int .i64 k, .slice Ac P cc] 31)).heap.size := by simp
  have BB3 := Lib.hid n4
  clear n4
  generalize w3.alloc (.cells #[.slice As l.length cs, .int .i64 k, .slice Ac P cc] 31) = w4 at X8 I4 B4 X4 O4 hz4 BB3 ⊢
  have q0 : w4.cell? ⟨w3.heap.size, 0, none⟩ = some (.slice As l.length cs) := by rw [cell_of_row _ _ _ _ _ _ X8.out]; rfl
  go_wp2_with fail
  refine (tnew_ok As l.length cs l k 0 w4 rfl (by omega) I4.out HLS.out (by rw [HP.out]; omega) hk1 (by omega) (Int.le_refl _) (by omega)).mono ?_
  rintro e w5 ⟨g, h, rfl, hT, hg, hh, b5⟩
  have T5 := Lib.hid hT
  have I5 := Lib.hid (I4.out.below b5 (Nat.le_refl _))
  have B5 := Lib.hid (then_ B4.out b5)
  have X5 := Lib.hid ((b5.block _ (by omega)).trans X4.out)
  have Y5 := Lib.hid ((b5.block _ hz4).trans X8.out)
  have O5 := Lib.hid (ownsRow_below O4.out b5 (Nat.le_refl _))
  have hz5 : w4.heap.size ≤ w5.heap.size := b5.size
  have B45 := Lib.hid b5
  clear hT b5 q0
  have q0 : w5.cell? ⟨w3.heap.size, 0, none⟩ = some (.slice As l.length cs) := by rw [cell_of_row _ _ _ _ _ _ Y5.out]; rfl
  go_wp2_with fail
  refine (rall_any4 As l.length cs P l w5 rfl (by omega) HCap HLS.out HP.out (by omega) I5.out).mono ?_
  rintro e w6 ⟨⟨Ar, cr, rfl, hR⟩, b6⟩
  have T6 := Lib.hid (T5.out.below b6)
  have I6 := Lib.hid (I5.out.below b6 (Nat.le_refl _))
  have B6 := Lib.hid (then_ B5.out b6)
  have X6 := Lib.hid ((b6.block _ (by omega)).trans X5.out)
  have Y6 := Lib.hid ((b6.block _ (by omega)).trans Y5.out)
  have O6 := Lib.hid (ownsRow_below O5.out b6 (Nat.le_refl _))
  have R6 := Lib.hid hR
  have hz6 : w5.heap.size ≤ w6.heap.size := b6.size
  have B46 : Hid (Below w4.heap.size w4 w6) := Lib.hid (B45.out.trans (b6.mono (by omega)))
  clear hR q0
  have B36 : Hid (Below w3.heap.size w3 w6) := Lib.hid (BB3.out.trans (((B45.out).trans (b6.mono (by omega))).mono (by omega)))
  clear b6
  have M6 : Hid (MdI w6 g h l k (mkC k y m) 0 w6) := Lib.hid ⟨T6.out.congr fun i _ => by simp, ⟨rfl, rfl, rfl, Nat.le_refl _, fun _ _ _ => rfl⟩⟩
  have KH : Hid (∃ cur, w6.heap[h]? = some (.cells cur 2 (0, 0))) := Lib.hid (by obtain ⟨cur, hc, _⟩ := T6.out.costs; exact ⟨cur, hc⟩)
  go_upto_region 4 with fail
  go_loopw [29] (fun i wr => ∃ j : Nat, j ≤ P ∧ i = .int .i64 (j : Int) ∧ MdI w6 g h l k (mkC k y m) j wr) (fun i _ => P - (intOf i).toNat)
  case atStart => exact ⟨0, Nat.zero_le _, rfl, M6.out⟩
  case round =>
    obtain ⟨j, hj, rfl, hM⟩ := hrel
    have HM := Lib.hid hM
    clear hM
    by_cases hlt : j < P
    · have i0 : (0 : Int) ≤ (j : Int) := by omega
      have i1 : (j : Int) < (P : Int) := by omega
      obtain ⟨A', c', e', hrow⟩ := R6.out.form
      obtain ⟨gr, x, hAr, hgr, hcr, hx⟩ := hrow j (by rw [allL_length, HP.out]; exact hlt)
      obtain rfl : Ar = A' := by injection e'
      subst hAr
      have hgrh : gr ≠ h := fun e => by
        obtain ⟨cur, hc⟩ := KH.out
        obtain ⟨xs, hr1, hr2⟩ := R6.out
        obtain ⟨c2, fz, hc2⟩ := Lib.ownsRow_kind hr1 gr rfl
        rw [e] at hc2
        have := hc.symm.trans hc2
        simp at this
      have hcell := (grown_cell HM.out.gr hgr hgrh j).trans hcr
      have hxn : nthT (allL l) j = tupL l j := allL_get l (by rw [HP.out]; exact hlt)
      rw [hxn] at hx
      have hx2 : Own wr w5.heap.size x (tupL l j) := hx.grown HM.out.gr (by
        cases hv : x.ownBlock with
        | none => exact .inl rfl
        | some b =>
          refine .inr fun e => ?_
          injection e with e
          subst e
          obtain ⟨cur, hc⟩ := KH.out
          obtain ⟨c2, fz, hc2⟩ := hx.kind _ hv
          have := hc.symm.trans hc2
          simp at this)
      obtain ⟨Ax, cx, rfl, hXI⟩ := hx2.form
      rw [tupL_length] at hcell
      have XI := Lib.hid hXI
      have hyb : w3.heap.size ≠ h := by omega
      have q2 : wr.cell? ⟨w3.heap.size, 2, none⟩ = some (.slice Ac P cc) := (grown_cell HM.out.gr (by omega) hyb 2).trans (by rw [cell_of_row _ _ _ _ _ _ Y6.out]; rfl)
      obtain ⟨gc, oc, rfl, hgc⟩ : ∃ gc oc, Ac = some ⟨gc, oc, none⟩ ∧ wr.cell? ⟨gc, oc + j, none⟩ = some (.int .i64 (mkC k y m j)) := by
        rcases Z3.out with h0 | ⟨gc, oc, rfl, hlt3, hcz⟩
        · omega
        · refine ⟨gc, oc, rfl, ?_⟩
          have hb36 : Below w3.heap.size w3 w6 := B36.out
          exact (grown_cell HM.out.gr (by omega) (by omega) _).trans ((hb36.cell (p := ⟨gc, oc + j, none⟩) hlt3).trans (hcz j hlt))
      have hfin := mkC_in (k := k) (y := y) (m := m) (i := j) hk1 (fun hjm => by obtain ⟨_, _, _, _, h1, _⟩ := HL.out j hjm; exact h1)
      have PT := Lib.hid (tput_ok g h Ax l.length cx j l (tupL l j) k (mkC k y m j) _ wr HM.out.tab (tupL_length l j).symm (by omega) (fun n hn => (HLS.out n hn).2) XI.out (tupL_in (fun n hn => (HLS.out n hn).1) j) (num_tup (by rw [HP.out]; exact hlt)) (by rw [HP.out]; exact hlt) hk1 (by omega) hfin.1 hfin.2)
      generalize hcj : mkC k y m j = fj at hgc PT
      have HCJ := Lib.hid hcj
      clear hcj hfin hx hx2 hXI hcr hrow e' hgr hgrh hxn
      go_wp2_with fail
      refine PT.out.mono ?_
      rintro e w7 ⟨rfl, hT7, hg7⟩
      have HN := Lib.hid (HM.out.put (by rw [HCJ.out]; exact hT7) hg7)
      clear hT7 hg7 hcell q2 hgc
      go_wp2_with fail
      go_roundw
      case rel => exact ⟨j + 1, by omega, by go_num, HN.out⟩
      case measure => simp [intOf]; omega
    · have i1 : ¬ ((j : Int) < (P : Int)) := by omega
      obtain rfl : j = P := by omega
      have hxh : w.heap.size ≠ h := by have := B0.out.size; omega
      have XR := Lib.hid ((HM.out.gr.block w.heap.size (Array.getElem?_eq_some_iff.1 X6.out).1 (fun e => hxh (by injection e))).trans X6.out)
      have YR := Lib.hid ((HM.out.gr.block w3.heap.size (Array.getElem?_eq_some_iff.1 Y6.out).1 (fun e => by injection e; omega)).trans Y6.out)
      have q0 : wr.cell? ⟨w3.heap.size, 0, none⟩ = some (.slice As l.length cs) := by rw [cell_of_row _ _ _ _ _ _ YR.out]; rfl
      have q1 : wr.cell? ⟨w3.heap.size, 1, none⟩ = some (.int .i64 k) := by rw [cell_of_row _ _ _ _ _ _ YR.out]; rfl
      have q2 : wr.cell? ⟨w3.heap.size, 2, none⟩ = some (.slice Ac j cc) := by rw [cell_of_row _ _ _ _ _ _ YR.out]; rfl
      go_upto_region 8 with fail
      go_still_tail 3, (by kernel_rfl)
      go_wp2_with ((with_reducible show wpList _ _ _ (Oper.mk none (.store 31 _ _) _ _ _ _ :: _) _ _); refine wpList_store_row rfl 31 (.tmp 7) (.tmp 44) rfl w.heap.size #[.slice As l.length cs, .int .i64 k, .slice Ac j cc] rfl rfl 31 #[.slice none 0 0, .int .i64 0, .slice none 0 0] XR.out (by kernel_rfl) rfl (by simp [Value.oneCell']) ?_)
      have HZ : Hid (Zs (wr.drew.setRow w.heap.size #[.slice As l.length cs, .int .i64 k, .slice Ac j cc]) Ac j (mkC k y m)) := Lib.hid (zs_fin Z3.out B36.out HM.out.gr (by omega) HAc.out)
      have HI : Hid (Ints (wr.drew.setRow w.heap.size #[.slice As l.length cs, .int .i64 k, .slice Ac j cc]) As l) := Lib.hid (ints_zs (zs_fin I3.out.zs B36.out HM.out.gr (by omega) HAs.out))
      have hwg : w.heap.size < g ∧ w.heap.size < h := by omega
      have HT : Hid (TabAt (wr.drew.setRow w.heap.size #[.slice As l.length cs, .int .i64 k, .slice Ac j cc]) g h l k (mkC k y m)) := by
        have ht := HM.out.tab.congr (z' := mkC k y m) (fun i hi => by rw [HP.out] at hi; rw [if_pos hi])
        obtain ⟨cur, hc, h1, h2⟩ := ht.costs
        exact Lib.hid ⟨(setRow_other _ _ _ _ (by omega)).trans ht.row, cur, (setRow_other _ _ _ _ (by omega)).trans hc, h1, h2⟩
      have hrow := setRow_heap wr.drew w.heap.size _ #[.slice As l.length cs, .int .i64 k, .slice Ac j cc] _ _ XR.out
      have hbel : Below w.heap.size w wr := B6.out.grown HM.out.gr B6.out.size (fun b e => by injection e; omega)
      obtain ⟨gc, curc, hAce, hgb, hgc, hccz, hcz⟩ := own_row64 O6.out (by omega)
      have hgl : gc < w4.heap.size := by have := (World.ownsRow.lt O4.out gc (by rw [hAce]; rfl)).2; exact this
      have hgr : (wr.drew.setRow w.heap.size #[.slice As l.length cs, .int .i64 k, .slice Ac j cc]).heap[gc]? = some (.cells curc 2 (0, 0)) :=
        (setRow_other _ _ _ _ (by have := B2.out.size; omega)).trans ((HM.out.gr.block gc (by omega) (fun e => by injection e; omega)).trans hgc)
      have hAs' : ∀ a : Addr, As = some a → w.heap.size < a.block ∧ a.block < w4.heap.size ∧ a.block ≠ gc := fun a ha => by
        refine ⟨HAs.out a ha, ?_, fun e => ?_⟩
        · have := (hAsl.out a ha); omega
        · obtain ⟨c2, fz, hc2⟩ := hAsk.out a ha
          have h4 : w4.heap[a.block]? = w2.heap[a.block]? := ((BB3.out.block _ (by have := hAsl.out a ha; omega)).trans (B23.out.block _ (hAsl.out a ha)))
          have h5 : w6.heap[a.block]? = w4.heap[a.block]? := B46.out.block _ (by have := hAsl.out a ha; omega)
          rw [e] at h5 h4 hc2
          have := hgc.symm.trans (h5.trans (h4.trans hc2))
          simp at this
      exact bodyPost_ret (results_tr rfl _ _ w.heap.size _ _ _ rfl hrow) rfl ⟨g, h, As, cs, gc, cc, by rw [hAce]; rfl, HT.out, HI.out, HCap, ⟨curc, hgr, hccz, hcz⟩, by omega, by omega, by omega, by omega, fun a ha => by have := hAs' a ha; exact ⟨by omega, this.2.2⟩, below_setRow hbel.drew (Nat.le_refl _) _⟩
end Go.Proofs.YtamodeglpkgiaaaDoor
