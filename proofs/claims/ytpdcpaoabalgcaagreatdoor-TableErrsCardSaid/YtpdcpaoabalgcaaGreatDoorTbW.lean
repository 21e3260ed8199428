/- Contract of the law's made (no statement of its own). -/
import Derived.Test.YtpdcpaoabalgcaaGreatDoorTbZ
import Derived.StillTailTactics
namespace Go.Proofs.YtpdcpaoabalgcaaGreatDoor
open Go.RowKit
set_option linter.unusedVariables false
theorem TabAt.congr {w : World} {g h : Nat} {l : List Nat} {k : Int} {z z' : Nat → Int} (H : TabAt w g h l k z) (hz : ∀ i, i < prodL l → z i = z' i) : TabAt w g h l k z' := by
  obtain ⟨cur, hc, h1, h2⟩ := H.costs
  exact ⟨H.row, cur, hc, h1, fun i hi => by rw [← hz i hi]; exact h2 i hi⟩
/-- A table under way, in a world that has grown by its costs alone. -/
structure MdI (W2 : World) (g h : Nat) (l : List Nat) (k : Int) (f : Nat → Int) (j : Nat) (W : World) : Prop where
  tab : TabAt W g h l k (fun i => if i < j then f i else 0)
  gr : W2.grownBy W (some h)
theorem grown_cell {W2 W : World} {h c : Nat} (hg : W2.grownBy W (some h)) (hc : c < W2.heap.size) (hne : c ≠ h) (i : Nat) : W.cell? ⟨c, i, none⟩ = W2.cell? ⟨c, i, none⟩ :=
  World.cell?_of_block (a := ⟨c, i, none⟩) (hg.block c hc (fun e => hne (by injection e)))
theorem MdI.put {W2 W W' : World} {g h : Nat} {l : List Nat} {k : Int} {f : Nat → Int} {j : Nat} (H : MdI W2 g h l k f j W) (ht : TabAt W' g h l k (fun i => if i = j then f j else if i < j then f i else 0)) (hg : W.grownBy W' (some h)) : MdI W2 g h l k f (j + 1) W' :=
  ⟨ht.congr fun i _ => by
    by_cases e : i = j
    · subst e; rw [if_pos rfl, if_pos (by omega)]
    · rw [if_neg e]
      by_cases e2 : i < j
      · rw [if_pos e2, if_pos (by omega)]
      · rw [if_neg e2, if_neg (by omega)], grown_then H.gr hg⟩
theorem smL_prod (z : Nat → Int) (n : Nat) (h : n ≤ 3) : 1 ≤ prodL (smL z n) ∧ prodL (smL z n) ≤ 64 := by
  refine ⟨prodL_pos fun x hx => (smL_small z n x hx).1, ?_⟩
  have h1 := prodL_le (c := 4) fun x hx => (smL_small z n x hx).2
  rw [smL_len] at h1
  have h2 : 4 ^ n ≤ 4 ^ 3 := Nat.pow_le_pow_right (by omega) h
  omega
theorem rall_any4 (A : Option Addr) (n c P : Nat) (l : List Nat) (w : World) (hn : n = l.length) (h6 : l.length ≤ 6) (hc : n ≤ c) (hl : ∀ n ∈ l, 1 ≤ n ∧ n ≤ 32) (hP : prodL l = P) (hP4 : P ≤ 4096) (hI : Ints w A l) :
    Calls Tryz.prog 33 #[.slice A n c] w fun e w' => (∃ A' c', e = .returned (.slice A' P c') ∧ RowsT w' w.heap.size (.slice A' P c') (allL l)) ∧ Below w.heap.size w w' := by
  subst hn hP
  refine (rall_any l A c w h6 hc hl hP4 hI).mono ?_
  rintro e w' ⟨⟨v, rfl, hR⟩, hb⟩
  obtain ⟨A', c', rfl, _⟩ := hR.form
  rw [allL_length] at hR
  exact ⟨⟨A', c', by rw [allL_length], hR⟩, hb⟩
theorem zs_row64 {w : World} {base n : Nat} {A : Option Addr} {c : Nat} {z : Nat → Int} (h : w.ownsRow base 2 1 (.slice A n c) n (costL z n)) : Zs w A n z := by
  obtain ⟨_, ⟨e, hn⟩ | ⟨g, cap, cur, e, hb, hh, hm, _, hs, ht⟩⟩ := h
  · exact .inl hn
  · injection e with e1 e2 e3
    subst e1
    refine .inr ⟨g, 0, rfl, (Array.getElem?_eq_some_iff.1 hh).1, fun i hi => ?_⟩
    rw [Nat.zero_add, cell_of_row w g i cur 2 (0, 0) hh]
    have e : (cur.toList.take (n * 1))[i]? = some (.int .i64 (z i)) := by rw [ht]; simp [costL, hi]
    rw [List.getElem?_take] at e
    simpa [hi] using e
theorem own_cap {w : World} {base n c : Nat} {A : Option Addr} {l : List Nat} (h : Own w base (.slice A n c) l) : n ≤ c := by
  obtain ⟨_, ⟨e, hn⟩ | ⟨g, cap, cur, e, _, _, hm, _⟩⟩ := h
  · injection e with e1 e2 e3
    omega
  · injection e with e1 e2 e3
    omega
/-- What made answers. -/
def MadePost (w : World) (l : List Nat) (k : Int) (P : Nat) (f : Nat → Int) (e : Ending) (w' : World) : Prop :=
  ∃ g h As cs Ac cc, e = .returned (.tuple #[.pointer (some ⟨g, 0, none⟩), .agg #[.slice As l.length cs, .int .i64 k, .slice Ac P cc]]) ∧
      TabAt w' g h l k f ∧ Ints w' As l ∧ l.length ≤ cs ∧ Zs w' Ac P f ∧ w.heap.size ≤ g ∧ w.heap.size ≤ h ∧ Below w.heap.size w w'
theorem results_tr {fn : Func} {p q : Tmp} (h : fn.results = #[.tmp q, .cell p 30]) (tmps : Array Value) (w : World) (g : Nat) (a b c : Value) (hp : tmps.getD p undef = .pointer (some ⟨g, 0, none⟩))
    (hg : w.heap[g]? = some (.cells #[a, b, c] 30 (0, 0))) : (results fn tmps).run Tryz.prog w = .ok (.tuple #[tmps.getD q undef, .agg #[a, b, c]]) w := by
  have c0 : w.cell? ⟨g, 0, none⟩ = some a := by rw [cell_of_row _ _ _ _ _ _ hg]; rfl
  have c1 : w.cell? ⟨g, 1, none⟩ = some b := by rw [cell_of_row _ _ _ _ _ _ hg]; rfl
  have c2 : w.cell? ⟨g, 2, none⟩ = some c := by rw [cell_of_row _ _ _ _ _ _ hg]; rfl
  have hp' : tmps[p]?.getD undef = .pointer (some ⟨g, 0, none⟩) := by simpa using hp
  simp [results, h, hp', go_sem, c0, c1, c2]
/-- A slice of a world that was, behind growth of one row and a store of another. -/
theorem zs_fin {w3 w6 wr : World} {A : Option Addr} {n h b : Nat} {z : Nat → Int} {cs : Array Value} (H : Zs w3 A n z) (hb : Below w3.heap.size w3 w6) (hg : w6.grownBy wr (some h)) (hh : w3.heap.size ≤ h) (hb' : ∀ a : Addr, A = some a → b < a.block) : Zs (wr.drew.setRow b cs) A n z := by
  rcases H with h0 | ⟨g, o, rfl, hlt, hc⟩
  · exact .inl h0
  · have hz := hb.size
    refine .inr ⟨g, o, rfl, by rw [size_setRow]; exact Nat.lt_of_lt_of_le (Nat.lt_of_lt_of_le hlt hz) hg.size, fun i hi => ?_⟩
    refine (World.cell?_of_block (a := ⟨g, o + i, none⟩) (setRow_other wr.drew b g cs (by have : b < g := hb' _ rfl; omega))).trans ?_
    exact (grown_cell hg (Nat.lt_of_lt_of_le hlt hz) (by omega) (o + i)).trans ((hb.cell (p := ⟨g, o + i, none⟩) hlt).trans (hc i hi))
theorem ints_zs {w : World} {A : Option Addr} {l : List Nat} (h : Zs w A l.length (fun i => (nth l i : Int))) : Ints w A l := by
  rcases h with h0 | h
  · exact .inl (List.eq_nil_of_length_eq_zero h0)
  · exact .inr h
set_option maxRecDepth 100000 in
set_option maxHeartbeats 4000000 in
theorem made_any (A L : Option Addr) (n c m mc P : Nat) (l : List Nat) (z y : Nat → Int) (k : Int) (w : World) (hn : (n : Int) ≤ 9223372036854775807) (hz : Bytes w A n z) (hm : (m : Int) ≤ 9223372036854775807) (hL : Words w L m y)
    (hk1 : 1 ≤ k) (hk2 : k ≤ 2147483647) (hl : smL z (min n 3) = l) (hP : prodL l = P) :
    Calls Tryz.prog 7 #[.slice A n c, .int .i64 k, .slice L m mc] w (MadePost w l k P (mkC k y m)) := by
  have hl6 : l.length ≤ 3 := by rw [← hl, smL_len]; omega
  have HLS : Hid (∀ n ∈ l, 1 ≤ n ∧ n ≤ 32) := Lib.hid fun x hx => by rw [← hl] at hx; have := smL_small z _ x hx; omega
  have hP64 : 1 ≤ P ∧ P ≤ 64 := by rw [← hP, ← hl]; exact smL_prod z _ (by omega)
  have HP := Lib.hid hP
  have HS := Lib.hid (fun W (hb : Below w.heap.size w W) => small_any A n c z W hn (fun j hj => by
    obtain ⟨p, e, hp, hc, h1, h2⟩ := hz j hj
    exact ⟨p, e, Nat.lt_of_lt_of_le hp hb.size, (hb.cell (p := p.add j) (by rw [block_add]; exact hp)).trans hc, h1, h2⟩))
  rw [hl] at HS
  have HL := Lib.hid hL
  clear hn hz hL hl hP
  obtain ⟨hP1, hP4⟩ := hP64
  go_enter Tryz.func7, Tryz.ntmps7
  have n0 := new_val w (.cells #[.slice none 0 0, .int .i64 0, .slice none 0 0] 30)
  have X0 := Lib.hid (heap_alloc_new w (.cells #[.slice none 0 0, .int .i64 0, .slice none 0 0] 30))
  have B0 := Lib.hid n0
  have hz0 : w.heap.size < (w.alloc (.cells #[.slice none 0 0, .int .i64 0, .slice none 0 0] 30)).heap.size := by simp
  clear n0
  go_upto_region 1 with fail
  generalize w.alloc (.cells #[.slice none 0 0, .int .i64 0, .slice none 0 0] 30) = w1 at X0 B0 hz0 ⊢
  go_wp2_with fail
  refine (HS.out w1 B0.out).mono ?_
  rintro e w2 ⟨⟨v, rfl, hO⟩, b2⟩
  obtain ⟨As, cs, rfl, hI⟩ := hO.form
  have HCap := own_cap hO
  have HAs : Hid (∀ a : Addr, As = some a → w.heap.size < a.block) := Lib.hid fun a ha => by subst ha; have := (hO.lt a.block rfl).1; omega
  have I2 := Lib.hid hI
  have B2 := Lib.hid (B0.out.trans (b2.mono (Nat.le_of_lt hz0)))
  have X2 := Lib.hid ((b2.block _ hz0).trans X0.out)
  have hz2 : w1.heap.size ≤ w2.heap.size := b2.size
  clear hO hI b2
  go_wp2_with fail
  refine (rmake_any As L l.length cs m mc P l k y w2 rfl (by omega) (fun n hn => (HLS.out n hn).2) I2.out HP.out (by omega) hk1 hk2 hm (fun j hj => by
    obtain ⟨p, e, hp, hc, h1, h2⟩ := HL.out j hj
    exact ⟨p, e, Nat.lt_of_lt_of_le hp B2.out.size, (B2.out.cell (p := p.add j) (by rw [block_add]; exact hp)).trans hc, h1, h2⟩)).mono ?_
  rintro e w3 ⟨⟨v, rfl, hO⟩, b3⟩
  obtain ⟨Ac, cc, rfl⟩ := row_form hO
  have I3 := Lib.hid (I2.out.below b3 (Nat.le_refl _))
  have B3 := Lib.hid (then_ B2.out b3)
  have X3 := Lib.hid ((b3.block _ (by omega)).trans X2.out)
  have O3 := Lib.hid hO
  have Z3 := Lib.hid (zs_row64 hO)
  have HAc : Hid (∀ a : Addr, Ac = some a → w.heap.size < a.block) := Lib.hid fun a ha => by subst ha; have := (World.ownsRow.lt hO a.block rfl).1; omega
  have hz3 : w2.heap.size ≤ w3.heap.size := b3.size
  clear hO b3
  go_upto_region 2 with fail
  have n4 := new_val w3 (.cells #[.slice As l.length cs, .int .i64 k, .slice Ac P cc] 30)
  have X8 := Lib.hid (heap_alloc_new w3 (.cells #[.slice As l.length cs, .int .i64 k, .slice Ac P cc] 30))
  have I4 := Lib.hid (I3.out.below n4 (Nat.le_refl _))
  have B4 := Lib.hid (then_ B3.out n4)
  have X4 := Lib.hid ((n4.block _ (by omega)).trans X3.out)
  have O4 := Lib.hid (ownsRow_below O3.out n4 (Nat.le_refl _))
  have hz4 : w3.heap.size < (w3.alloc (.cells #[.slice As l.length cs, .int .i64 k, .slice Ac P cc] 30)).heap.size := by simp
  have BB3 := Lib.hid n4
  clear n4
  generalize w3.alloc (.cells #[.slice As l.length cs, .int .i64 k, .slice Ac P cc] 30) = w4 at X8 I4 B4 X4 O4 hz4 BB3 ⊢
  have q0 : w4.cell? ⟨w3.heap.size, 0, none⟩ = some (.slice As l.length cs) := by rw [cell_of_row _ _ _ _ _ _ X8.out]; rfl
  go_wp2_with fail
  refine (tnew_ok As l.length cs l k 0 w4 rfl (by omega) I4.out HLS.out (by rw [HP.out]; omega) hk1 (by omega) (Int.le_refl _) (by omega)).mono ?_
  rintro e w5 ⟨g, h, rfl, hT, hg, hh, b5⟩
  have T5 := Lib.hid hT
  have I5 := Lib.hid (I4.out.below b5 (Nat.le_refl _))
  have B5 := Lib.hid (then_ B4.out b5)
  have X5 := Lib.hid ((b5.block _ (by omega)).trans X4.out)
  have Y5 := Lib.hid ((b5.block _ hz4).trans X8.out)
  have O5 := Lib.hid (ownsRow_below O4.out b5 (Nat.le_refl _))
  have hz5 : w4.heap.size ≤ w5.heap.size := b5.size
  have B45 := Lib.hid b5
  clear hT b5 q0
  have q0 : w5.cell? ⟨w3.heap.size, 0, none⟩ = some (.slice As l.length cs) := by rw [cell_of_row _ _ _ _ _ _ Y5.out]; rfl
  go_wp2_with fail
  refine (rall_any4 As l.length cs P l w5 rfl (by omega) HCap HLS.out HP.out (by omega) I5.out).mono ?_
  rintro e w6 ⟨⟨Ar, cr, rfl, hR⟩, b6⟩
  have T6 := Lib.hid (T5.out.below b6)
  have I6 := Lib.hid (I5.out.below b6 (Nat.le_refl _))
  have B6 := Lib.hid (then_ B5.out b6)
  have X6 := Lib.hid ((b6.block _ (by omega)).trans X5.out)
  have Y6 := Lib.hid ((b6.block _ (by omega)).trans Y5.out)
  have O6 := Lib.hid (ownsRow_below O5.out b6 (Nat.le_refl _))
  have R6 := Lib.hid hR
  have hz6 : w5.heap.size ≤ w6.heap.size := b6.size
  clear hR q0
  have B36 : Hid (Below w3.heap.size w3 w6) := Lib.hid (BB3.out.trans (((B45.out).trans (b6.mono (by omega))).mono (by omega)))
  clear b6
  have M6 : Hid (MdI w6 g h l k (mkC k y m) 0 w6) := Lib.hid ⟨T6.out.congr fun i _ => by simp, ⟨rfl, rfl, rfl, Nat.le_refl _, fun _ _ _ => rfl⟩⟩
  have KH : Hid (∃ cur, w6.heap[h]? = some (.cells cur 2 (0, 0))) := Lib.hid (by obtain ⟨cur, hc, _⟩ := T6.out.costs; exact ⟨cur, hc⟩)
  go_upto_region 4 with fail
  go_loopw [29] (fun i wr => ∃ j : Nat, j ≤ P ∧ i = .int .i64 (j : Int) ∧ MdI w6 g h l k (mkC k y m) j wr) (fun i _ => P - (intOf i).toNat)
  case atStart => exact ⟨0, Nat.zero_le _, rfl, M6.out⟩
  case round =>
    obtain ⟨j, hj, rfl, hM⟩ := hrel
    have HM := Lib.hid hM
    clear hM
    by_cases hlt : j < P
    · have i0 : (0 : Int) ≤ (j : Int) := by omega
      have i1 : (j : Int) < (P : Int) := by omega
      obtain ⟨A', c', e', hrow⟩ := R6.out.form
      obtain ⟨gr, x, hAr, hgr, hcr, hx⟩ := hrow j (by rw [allL_length, HP.out]; exact hlt)
      obtain rfl : Ar = A' := by injection e'
      subst hAr
      have hgrh : gr ≠ h := fun e => by
        obtain ⟨cur, hc⟩ := KH.out
        obtain ⟨xs, hr1, hr2⟩ := R6.out
        obtain ⟨c2, fz, hc2⟩ := Lib.ownsRow_kind hr1 gr rfl
        rw [e] at hc2
        have := hc.symm.trans hc2
        simp at this
      have hcell := (grown_cell HM.out.gr hgr hgrh j).trans hcr
      have hxn : nthT (allL l) j = tupL l j := allL_get l (by rw [HP.out]; exact hlt)
      rw [hxn] at hx
      have hx2 : Own wr w5.heap.size x (tupL l j) := hx.grown HM.out.gr (by
        cases hv : x.ownBlock with
        | none => exact .inl rfl
        | some b =>
          refine .inr fun e => ?_
          injection e with e
          subst e
          obtain ⟨cur, hc⟩ := KH.out
          obtain ⟨c2, fz, hc2⟩ := hx.kind _ hv
          have := hc.symm.trans hc2
          simp at this)
      obtain ⟨Ax, cx, rfl, hXI⟩ := hx2.form
      rw [tupL_length] at hcell
      have XI := Lib.hid hXI
      have hyb : w3.heap.size ≠ h := by omega
      have q2 : wr.cell? ⟨w3.heap.size, 2, none⟩ = some (.slice Ac P cc) := (grown_cell HM.out.gr (by omega) hyb 2).trans (by rw [cell_of_row _ _ _ _ _ _ Y6.out]; rfl)
      obtain ⟨gc, oc, rfl, hgc⟩ : ∃ gc oc, Ac = some ⟨gc, oc, none⟩ ∧ wr.cell? ⟨gc, oc + j, none⟩ = some (.int .i64 (mkC k y m j)) := by
        rcases Z3.out with h0 | ⟨gc, oc, rfl, hlt3, hcz⟩
        · omega
        · refine ⟨gc, oc, rfl, ?_⟩
          have hb36 : Below w3.heap.size w3 w6 := B36.out
          exact (grown_cell HM.out.gr (by omega) (by omega) _).trans ((hb36.cell (p := ⟨gc, oc + j, none⟩) hlt3).trans (hcz j hlt))
      have hfin := mkC_in (k := k) (y := y) (m := m) (i := j) hk1 (fun hjm => by obtain ⟨_, _, _, _, h1, _⟩ := HL.out j hjm; exact h1)
      have PT := Lib.hid (tput_ok g h Ax l.length cx j l (tupL l j) k (mkC k y m j) _ wr HM.out.tab (tupL_length l j).symm (by omega) (fun n hn => (HLS.out n hn).2) XI.out (tupL_in (fun n hn => (HLS.out n hn).1) j) (num_tup (by rw [HP.out]; exact hlt)) (by rw [HP.out]; exact hlt) hk1 (by omega) hfin.1 hfin.2)
      generalize hcj : mkC k y m j = fj at hgc PT
      have HCJ := Lib.hid hcj
      clear hcj hfin hx hx2 hXI hcr hrow e' hgr hgrh hxn
      go_wp2_with fail
      refine PT.out.mono ?_
      rintro e w7 ⟨rfl, hT7, hg7⟩
      have HN := Lib.hid (HM.out.put (by rw [HCJ.out]; exact hT7) hg7)
      clear hT7 hg7 hcell q2 hgc
      go_wp2_with fail
      go_roundw
      case rel => exact ⟨j + 1, by omega, by go_num, HN.out⟩
      case measure => simp [intOf]; omega
    · have i1 : ¬ ((j : Int) < (P : Int)) := by omega
      obtain rfl : j = P := by omega
      have hxh : w.heap.size ≠ h := by have := B0.out.size; omega
      have XR := Lib.hid ((HM.out.gr.block w.heap.size (Array.getElem?_eq_some_iff.1 X6.out).1 (fun e => hxh (by injection e))).trans X6.out)
      have YR := Lib.hid ((HM.out.gr.block w3.heap.size (Array.getElem?_eq_some_iff.1 Y6.out).1 (fun e => by injection e; omega)).trans Y6.out)
      have q0 : wr.cell? ⟨w3.heap.size, 0, none⟩ = some (.slice As l.length cs) := by rw [cell_of_row _ _ _ _ _ _ YR.out]; rfl
      have q1 : wr.cell? ⟨w3.heap.size, 1, none⟩ = some (.int .i64 k) := by rw [cell_of_row _ _ _ _ _ _ YR.out]; rfl
      have q2 : wr.cell? ⟨w3.heap.size, 2, none⟩ = some (.slice Ac j cc) := by rw [cell_of_row _ _ _ _ _ _ YR.out]; rfl
      go_upto_region 8 with fail
      go_still_tail 3, (by kernel_rfl)
      go_wp2_with ((with_reducible show wpList _ _ _ (Oper.mk none (.store 30 _ _) _ _ _ _ :: _) _ _); refine wpList_store_row rfl 30 (.tmp 7) (.tmp 44) rfl w.heap.size #[.slice As l.length cs, .int .i64 k, .slice Ac j cc] rfl rfl 30 #[.slice none 0 0, .int .i64 0, .slice none 0 0] XR.out (by kernel_rfl) rfl (by simp [Value.oneCell']) ?_)
      have HZ : Hid (Zs (wr.drew.setRow w.heap.size #[.slice As l.length cs, .int .i64 k, .slice Ac j cc]) Ac j (mkC k y m)) := Lib.hid (zs_fin Z3.out B36.out HM.out.gr (by omega) HAc.out)
      have HI : Hid (Ints (wr.drew.setRow w.heap.size #[.slice As l.length cs, .int .i64 k, .slice Ac j cc]) As l) := Lib.hid (ints_zs (zs_fin I3.out.zs B36.out HM.out.gr (by omega) HAs.out))
      have hwg : w.heap.size < g ∧ w.heap.size < h := by omega
      have HT : Hid (TabAt (wr.drew.setRow w.heap.size #[.slice As l.length cs, .int .i64 k, .slice Ac j cc]) g h l k (mkC k y m)) := by
        have ht := HM.out.tab.congr (z' := mkC k y m) (fun i hi => by rw [HP.out] at hi; rw [if_pos hi])
        obtain ⟨cur, hc, h1, h2⟩ := ht.costs
        exact Lib.hid ⟨(setRow_other _ _ _ _ (by omega)).trans ht.row, cur, (setRow_other _ _ _ _ (by omega)).trans hc, h1, h2⟩
      have hrow := setRow_heap wr.drew w.heap.size _ #[.slice As l.length cs, .int .i64 k, .slice Ac j cc] _ _ XR.out
      have hbel : Below w.heap.size w wr := B6.out.grown HM.out.gr B6.out.size (fun b e => by injection e; omega)
      exact bodyPost_ret (results_tr rfl _ _ w.heap.size _ _ _ rfl hrow) rfl ⟨g, h, As, cs, Ac, cc, rfl, HT.out, HI.out, HCap, HZ.out, by omega, by omega, below_setRow hbel.drew (Nat.le_refl _) _⟩
end Go.Proofs.YtpdcpaoabalgcaaGreatDoor
