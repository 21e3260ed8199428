import Derived.Test.YtmokogkndbinlaaGreatDoorZgbf
set_option linter.all false
namespace Go.Proofs.YtmokogkndbinlaaGreatDoor
open Go.Lib (hid)
attribute [local go_sem] Oper.semAt_some
open Go.RowKit Go.Shelf
theorem prodL_perm {l m : List Nat} (h : l.Perm m) : prodL l = prodL m := by
 induction h with
 | nil => rfl
 | cons a _ ih => show a * prodL _ = a * prodL _; rw [ih]
 | swap a b l => show b * (a * prodL l) = a * (b * prodL l); rw [← Nat.mul_assoc, ← Nat.mul_assoc, Nat.mul_comm b a]
 | trans _ _ h1 h2 => exact h1.trans h2
theorem prod_ris (sizes s : List Nat) : prodL (pickN sizes (risL s)) = prodL (pickN sizes s) := prodL_perm ((risL_perm s).map _)
theorem own_sorted {w : World} {base : Nat} {v : Value} {n : Nat} {s : List Nat} (hn : s.length = n) (h : w.ownsRow base 3 1 v n ((sortI s).map (Value.int .i64))) : Own w base v (risL s) := by
 rw [risL_cast, List.map_map] at h
 show w.ownsRow base 3 1 v (risL s).length (intC (risL s))
 rw [risL_len, hn]
 exact h
theorem sorted_own (A : Option Addr) (n c : Nat) (s : List Nat) (w : World) (hn : s.length = n) (hn4 : n ≤ 100000) (hA : Ints w A s) :
  Calls Tryz.prog 173 #[.func (.func 217) #[] #[.pointer (some ⟨w.heap.size, 0, none⟩)]] (w.alloc (.cells #[.slice A n c] 41)) fun e w' => (∃ v, e = .returned v ∧ Own w' w.heap.size v (risL s)) ∧ Below w.heap.size w w' := by
 have nv := new_val w (.cells #[.slice A n c] 41)
 have hc : (w.alloc (.cells #[.slice A n c] 41)).cell? ⟨w.heap.size, 0, none⟩ = some (.slice A n c) := by
  rw [cell_of_row _ _ _ _ _ _ (heap_alloc_new w (.cells #[.slice A n c] 41))]
  rfl
 refine (sorted_any w.heap.size n c A s _ hn hn4 (by simp) hc (hA.below nv (Nat.le_refl _))).mono ?_
 rintro e w' ⟨⟨v, rfl, ho⟩, hb⟩
 have hs := nv.size
 exact ⟨⟨v, rfl, (own_sorted hn ho).less hs⟩, nv.trans (hb.mono hs)⟩
theorem results_pt {fn : Func} {p : Tmp} (h : fn.results = #[.cell p 129]) (tmps : Array Value) (w : World) (g : Nat) (a b : Value) (hp : tmps.getD p undef = .pointer (some ⟨g, 0, none⟩))
  (c0 : w.cell? ⟨g, 0, none⟩ = some a) (c1 : w.cell? ⟨g, 1, none⟩ = some b) : (results fn tmps).run Tryz.prog w = .ok (.agg #[a, b]) w := by
 have hp' : tmps[p]?.getD undef = .pointer (some ⟨g, 0, none⟩) := by simpa using hp
 simp [results, h, hp', go_sem, c0, c1]
theorem tab_keep {w w' : World} {g h : Nat} {l : List Nat} {k : Int} {z : Nat → Int} (T : TabAt w g h l k z) (e1 : w'.heap[g]? = w.heap[g]?) (e2 : w'.heap[h]? = w.heap[h]?) : TabAt w' g h l k z := by
 obtain ⟨cur, hc, r⟩ := T.costs
 exact ⟨e1.trans T.row, cur, e2.trans hc, r⟩
def RisPost (w : World) (sizes s : List Nat) (k : Int) (f : List Nat → Int) (e : Ending) (w' : World) : Prop :=
 (∃ sv g h, e = .returned (.agg #[sv, .pointer (some ⟨g, 0, none⟩)]) ∧ Own w' w.heap.size sv (risL s) ∧ TabAt w' g h (pickN sizes (risL s)) k (risM sizes s f).z ∧ w.heap.size ≤ g ∧ w.heap.size ≤ h) ∧ Below w.heap.size w w'
theorem sorted_form (A : Option Addr) (n c : Nat) (s : List Nat) (w : World) (hn : s.length = n) (hn4 : n ≤ 100000) (hA : Ints w A s) :
  Calls Tryz.prog 173 #[.func (.func 217) #[] #[.pointer (some ⟨w.heap.size, 0, none⟩)]] (w.alloc (.cells #[.slice A n c] 41)) fun e w' => (∃ A3 c3, e = .returned (.slice A3 n c3) ∧ Own w' w.heap.size (.slice A3 n c3) (risL s) ∧ Ints w' A3 (risL s)) ∧ Below w.heap.size w w' := by
 refine (sorted_own A n c s w hn hn4 hA).mono ?_
 rintro e w' ⟨⟨v, rfl, ho⟩, hb⟩
 obtain ⟨A3, c3, rfl, hi⟩ := ho.form
 rw [risL_len, hn] at ho ⊢
 exact ⟨⟨A3, c3, rfl, ho, hi⟩, hb⟩
set_option maxHeartbeats 1000000 in
theorem risen_ok (A TA : Option Addr) (n c tg tb N tc : Nat) (sizes s : List Nat) (k o : Int) (f : List Nat → Int) (w : World) (hn : s.length = n) (hn6 : n ≤ 6) (hnd : s.Nodup) (hA : Ints w A s) (hT : TpAt w tg tb TA tc N (pickN sizes s) k o f)
  (h32 : ∀ x ∈ pickN sizes s, 1 ≤ x ∧ x ≤ 32) (hp : prodL (pickN sizes s) ≤ 4096) (ho : InK o k) (hf : ∀ t, InL (pickN sizes s) t → InK (f t) k) :
  Calls Tryz.prog 137 #[.agg #[.slice A n c, .pointer (some ⟨tg, 0, none⟩)]] w (RisPost w sizes s k f) := by
 have hl : (pickN sizes s).length = n := by rw [pickN_len, hn]
 have n1 := new_val w (.cells #[.slice A n c, .pointer (some ⟨tg, 0, none⟩)] 62)
 have n2 := new_val (w.alloc (.cells #[.slice A n c, .pointer (some ⟨tg, 0, none⟩)] 62)) (.cells #[.slice none 0 0, .pointer none] 129)
 have z1 : (w.alloc (.cells #[.slice A n c, .pointer (some ⟨tg, 0, none⟩)] 62)).heap.size = w.heap.size + 1 := World.size_alloc _ _
 have a1 := heap_alloc_new w (.cells #[.slice A n c, .pointer (some ⟨tg, 0, none⟩)] 62)
 have a2 := heap_alloc_new (w.alloc (.cells #[.slice A n c, .pointer (some ⟨tg, 0, none⟩)] 62)) (.cells #[.slice none 0 0, .pointer none] 129)
 rw [z1] at a2
 have r1 := (n2.block w.heap.size (by rw [z1]; omega)).trans a1
 have hb := n1.trans (n2.mono (by rw [z1]; omega))
 have hz2 : ((w.alloc (.cells #[.slice A n c, .pointer (some ⟨tg, 0, none⟩)] 62)).alloc (.cells #[.slice none 0 0, .pointer none] 129)).heap.size = w.heap.size + 2 := by rw [World.size_alloc, z1]
 go_enter Tryz.func137, Tryz.ntmps137
 go_upto_region 1 with fail
 generalize (w.alloc (.cells #[.slice A n c, .pointer (some ⟨tg, 0, none⟩)] 62)).alloc (.cells #[.slice none 0 0, .pointer none] 129) = w2 at r1 a2 hb hz2 ⊢
 have c0 : w2.cell? ⟨w.heap.size, 0, none⟩ = some (.slice A n c) := by rw [cell_of_row _ _ _ _ _ _ r1]; rfl
 have c1 : w2.cell? ⟨w.heap.size, 1, none⟩ = some (.pointer (some ⟨tg, 0, none⟩)) := by rw [cell_of_row _ _ _ _ _ _ r1]; rfl
 have SRT := hid (sorted_form A n c s w2 hn (by omega) (hA.below hb (Nat.le_refl _)))
 have C1 := hid c1
 have C0 := hid c0
 have RP := hid a2
 have HB := hid hb
 have HZ := hid hz2
 have HA := hid hA
 have HT := hid hT
 have H32 := hid h32
 have HO := hid ho
 have HF := hid hf
 clear r1 a2 hb hz2 hA hT h32 hf c1 n1 n2 a1 z1 ho
 go_upto_region 2 with (first | (go_at_call 174; refine (values_any A n c _).mono ?_; rintro e w' ⟨rfl, rfl⟩) | (go_at_call 173; refine SRT.out.mono ?_; rintro e w3 ⟨⟨A3, c3, rfl, hO3, hI3⟩, hb3⟩))
 have RP3 := hid ((hb3.block _ (by have := HZ.out; omega)).trans RP.out)
 have C13 := hid ((hb3.cell (p := ⟨w.heap.size, 1, none⟩) (by have := HZ.out; show w.heap.size < _; omega)).trans C1.out)
 have C03 := hid ((hb3.cell (p := ⟨w.heap.size, 0, none⟩) (by have := HZ.out; show w.heap.size < _; omega)).trans C0.out)
 have hb03 := HB.out.trans (hb3.mono (by have := HZ.out; omega))
 have HB3 := hid hb03
 have hs3 := hb3.size
 have HS3 := hid (show w.heap.size + 2 ≤ w3.heap.size by have := HZ.out; omega)
 have O3 := hid hO3
 have I3 := hid hI3
 have hmk := madeI n (by omega) w3
 have R3 := hid (World.rowIs_made w3 (.int .i64 0) n 3)
 have N3 := hid (new_val w3 (.cells (madeCells #[.int .i64 0] n) 3))
 have HL := hid hl
 have HN := hid hn
 clear hb3 hO3 hI3 hb03 hs3 c0 SRT C1 C0 RP HB hl
 go_upto_region 4 with fail
 generalize w3.alloc (.cells (madeCells #[.int .i64 0] n) 3) = w4 at R3 N3 ⊢
 clear hmk
 go_loopw [5, 6, 18] (fun _ _ i wr => ∃ j : Nat, j ≤ n ∧ i = .int .i64 (j : Int) ∧ wr.rowIs w3.heap.size 3 n (fun i => .int .i64 (if i < j then (nth (ordL s) i : Int) else 0)) ∧ Below w3.heap.size w3 wr) (fun _ _ i _ => n - (intOf i).toNat)
 case atStart => exact ⟨0, Nat.zero_le _, rfl, R3.out.congr fun i _ => by simp, N3.out⟩
 case round =>
  obtain ⟨j, hj, rfl, hrow, hb⟩ := hrel
  have HRW := hid hrow
  have HB := hid hb
  have hbs := hb.size
  clear hrow hb
  by_cases hlt : j < n
  ·obtain ⟨g3, o3, rfl, hcs⟩ := (I3.out.below HB.out (Nat.le_refl _)).at_ (i := j) (by rw [risL_len, hn]; exact hlt)
   have c0 := (HB.out.cell (p := ⟨w.heap.size, 0, none⟩) (by have := HS3.out; show w.heap.size < _; omega)).trans C03.out
   have hsp := idxN_spec (risL_mem.1 (nth_mem (l := risL s) (i := j) (by rw [risL_len, hn]; exact hlt)))
   have hord : nth (ordL s) j = idxN s (nth (risL s) j) := nth_ord (by rw [hn]; exact hlt)
   have hzs : Zs wr A n (fun i => (nth s i : Int)) := by
    have h := ((HA.out.below HB3.out (Nat.le_refl _)).below HB.out (Nat.le_refl _)).zs
    rwa [hn] at h
   have HIX := hid (index_first A n c (idxN s (nth (risL s) j)) (fun i => (nth s i : Int)) (nth (risL s) j : Int) wr (by omega) hzs (by rw [← hn]; exact hsp.1) (by show _ = ((nth s _ : Nat) : Int); rw [hsp.2.1]) (fun i hi e => hsp.2.2 i hi (by have e' : ((nth (risL s) j : Nat) : Int) = ((nth s i : Nat) : Int) := e; omega)))
   have HOR := hid hord
   clear hzs hord hsp
   generalize idxN s (nth (risL s) j) = x at HIX HOR
   generalize nth (risL s) j = v at hcs HIX
   have kc := HRW.out.cell hlt
   have kf := HRW.out.frozen j
   have i1 : (j : Int) < (n : Int) := by omega
   have i2 : (0 : Int) ≤ (j : Int) := by omega
   have HNX : Hid ((wr.setCell ⟨w3.heap.size, j, none⟩ (.int .i64 (x : Int))).rowIs w3.heap.size 3 n (fun i => .int .i64 (if i < j + 1 then (nth (ordL s) i : Int) else 0))) := hid ((HRW.out.set j (.int .i64 (x : Int))).congr fun i hi => by
    show (if i = j then _ else _) = _
    by_cases e : i = j
    ·subst e; rw [if_pos rfl, if_pos (by omega), HOR.out]
    ·rw [if_neg e]
     by_cases e2 : i < j
     ·rw [if_pos e2, if_pos (by omega)]
     ·rw [if_neg e2, if_neg (by omega)])
   have BN := hid (HB.out.setCell (p := ⟨w3.heap.size, j, none⟩) (Nat.le_refl _) (.int .i64 (x : Int)))
   go_wp2_with (go_at_call 97; refine HIX.out.mono ?_; rintro e w' ⟨rfl, rfl⟩)
   go_roundw
   case rel => exact ⟨j + 1, by omega, by go_num, HNX.out, BN.out⟩
   case measure => simp [intOf]; omega
  have i1 : ¬ (j : Int) < (n : Int) := by omega
  have hjn : j = n := by omega
  have hI4 : Ints wr (some ⟨w3.heap.size, 0, none⟩) (ordL s) := rowIs_ints HRW.out (by rw [ordL_len, hn]) (fun i hi => by rw [if_pos (by omega)])
  have c1 := (HB.out.cell (p := ⟨w.heap.size, 1, none⟩) (by have := HS3.out; show w.heap.size < _; omega)).trans C13.out
  have hbw := HB3.out.trans (HB.out.mono (by have := HS3.out; omega))
  have TT := hid (tptable_ok tg tb N tc TA (pickN sizes s) k o f wr (HT.out.below hbw) (by rw [pickN_len, hn]; exact hn6) H32.out hp HO.out HF.out)
  have RP4 := hid ((HB.out.block _ (by have := HS3.out; omega)).trans RP3.out)
  have O4 := hid (O3.out.below HB.out (Nat.le_refl _))
  have I4 := hid hI4
  have HBW := hid hbw
  clear hI4 hbw
  go_upto_region 9 with (go_at_call 26; refine TT.out.mono ?_; rintro e w5 ⟨⟨g5, h5, rfl, hT5⟩, hb5⟩)
  have TU := hid (turn_ok g5 h5 n n (prodL (pickN sizes s)) (some ⟨w3.heap.size, 0, none⟩) (pickN sizes s) (ordL s) (invL s) k (fun i => f (tupL (pickN sizes s) i)) w5 hT5 (by rw [pickN_len, hn]; exact hn6) H32.out HL.out (by have h := perm_ris hnd; rwa [hn] at h) (I4.out.below hb5 (Nat.le_refl _)) HO.out.1 HO.out.2.1 (by rw [pick_ord, prod_ris]) hp)
  have RP5 := hid ((hb5.block _ (by have := HS3.out; omega)).trans RP4.out)
  have O5 := hid (O4.out.below hb5 (Nat.le_refl _))
  have hs5 := hb5.size
  have HBS := hid (show w.heap.size + 2 ≤ w5.heap.size by have := HS3.out; have := HBW.out.size; omega)
  have HB5 := hid (HBW.out.trans (hb5.mono (by have := HS3.out; omega)))
  clear hT5 hb5 TT c1
  go_upto_region 10 with (go_at_call 175; refine TU.out.mono ?_; rintro e w6 ⟨g6, h6, rfl, hT6, hg6, hh6, hb6⟩)
  have hp6 := (hb6.block _ (by have := HS3.out; omega)).trans RP5.out
  have O6 := hid (O5.out.below hb6 (Nat.le_refl _))
  have HB6 := hid (HB5.out.trans (hb6.mono (by have := HS3.out; omega)))
  have kp0 : w6.cell? ⟨w.heap.size + 1, 0, none⟩ = some (.slice none 0 0) := by rw [cell_of_row _ _ _ _ _ _ hp6]; rfl
  have kp1 : w6.cell? ⟨w.heap.size + 1, 1, none⟩ = some (.pointer none) := by rw [cell_of_row _ _ _ _ _ _ hp6]; rfl
  have kf0 : w6.frozen? ⟨w.heap.size + 1, 0, none⟩ = false := by simp [World.frozen?, hp6]
  have kf1 : w6.frozen? ⟨w.heap.size + 1, 1, none⟩ = false := by simp [World.frozen?, hp6]
  have T6 := hid hT6
  clear hT6 hb6 TU
  go_wp2_with fail
  obtain ⟨F, hF⟩ : ∃ F, (w6.setCell ⟨w.heap.size + 1, 0, none⟩ (.slice A3 n c3)).setCell ⟨w.heap.size + 1, 1, none⟩ (.pointer (some ⟨g6, 0, none⟩)) = F := ⟨_, rfl⟩
  have f0 : F.cell? ⟨w.heap.size + 1, 0, none⟩ = some (.slice A3 n c3) := by
   rw [← hF, World.cell?_setCell_other _ _ _ _ (by intro e; injection e with _ e2; cases e2)]
   exact World.cell?_setCell_same _ _ _ kp0
  have f1 : F.cell? ⟨w.heap.size + 1, 1, none⟩ = some (.pointer (some ⟨g6, 0, none⟩)) := by
   rw [← hF]
   exact World.cell?_setCell_same _ _ _ ((World.cell?_setCell_other _ _ _ _ (by intro e; injection e with _ e2; cases e2)).trans kp1)
  have fk : ∀ q, q ≠ w.heap.size + 1 → F.heap[q]? = w6.heap[q]? := fun q hq => by
   rw [← hF]
   exact (Below.heap_setCell _ _ _ q hq).trans (Below.heap_setCell _ _ _ q hq)
  have fs : Below w.heap.size w F := by
   rw [← hF]
   exact (HB6.out.setCell (p := ⟨w.heap.size + 1, 0, none⟩) (show w.heap.size ≤ w.heap.size + 1 by omega) _).setCell (p := ⟨w.heap.size + 1, 1, none⟩) (show w.heap.size ≤ w.heap.size + 1 by omega) _
  have hz := HZ.out
  have h3 := HS3.out
  have h4 := HBS.out
  have t6 := (pick_ord sizes s) ▸ T6.out
  rw [hF]
  refine bodyPost_ret (results_pt rfl _ _ _ _ _ rfl f0 f1) rfl ⟨⟨_, g6, h6, rfl, ?_, ?_, by omega, by omega⟩, fs⟩
  ·refine Own.less (base := w2.heap.size) (own_keep O6.out fun g cur hg _ => fk g ?_) (by omega)
   have := (O6.out.lt g hg).1
   omega
  exact (tab_keep t6 (fk g6 (by omega)) (fk h6 (by omega))).congr fun i hi => turn_ris hnd (fun n hn => (H32.out n hn).1) f i
end Go.Proofs.YtmokogkndbinlaaGreatDoor
namespace Go.Proofs.YtmokogkndbinlaaGreatDoor
open Go.Lib (hid)
open Go.RowKit Go.Shelf Go.Sort Go.Lib
def cmpL : List Nat → List Nat → Int
 | [], [] => 0
 | [], _ :: _ => -1
 | _ :: _, [] => 1
 | a :: s, b :: t => if cmp2 a b ≠ 0 then cmp2 a b else cmpL s t
theorem cmp2_lt (a b : Nat) : cmp2 a b < 0 ↔ a < b := by
 unfold cmp2
 split
 ·omega
 split <;> omega
theorem cmp2_zero (a b : Nat) : cmp2 a b = 0 ↔ a = b := by
 unfold cmp2
 split
 ·omega
 split <;> omega
theorem cmpL_lt : ∀ {s t : List Nat}, s.length = t.length → (cmpL s t < 0 ↔ lexL s t = true)
 | [], [], _ => by simp [cmpL, lexL]
 | [], _ :: _, h => by simp at h
 | _ :: _, [], h => by simp at h
 | a :: s, b :: t, h => by
  rw [lexL_cons, ← cmpL_lt (s := s) (t := t) (by simpa using h)]
  show (if cmp2 a b ≠ 0 then cmp2 a b else cmpL s t) < 0 ↔ _
  by_cases hz : cmp2 a b = 0
  ·rw [if_neg (by simp [hz])]
   have := (cmp2_zero a b).1 hz
   subst this
   exact ⟨fun h => .inr ⟨rfl, h⟩, fun h => h.elim (fun h => absurd h (Nat.lt_irrefl _)) (·.2)⟩
  rw [if_pos hz, cmp2_lt]
  have : a ≠ b := fun e => hz ((cmp2_zero a b).2 e)
  exact ⟨.inl, fun h => h.elim id (fun h => absurd h.1 this)⟩
def cmpP (s t : List Nat) : Int := if cmp2 s.length t.length ≠ 0 then cmp2 s.length t.length else cmpL s t
theorem cmpP_lt (s t : List Nat) : cmpP s t < 0 ↔ ltS s t := by
 unfold cmpP ltS
 by_cases hz : cmp2 s.length t.length = 0
 ·have he := (cmp2_zero _ _).1 hz
  rw [if_neg (by simp [hz]), cmpL_lt he]
  exact ⟨fun h => .inr ⟨he, h⟩, fun h => h.elim (fun h => by omega) (·.2)⟩
 have he : s.length ≠ t.length := fun e => hz ((cmp2_zero _ _).2 e)
 rw [if_pos hz, cmp2_lt]
 exact ⟨.inl, fun h => h.elim id (fun h => absurd h.1 he)⟩
theorem swoP {α : Type} (sc : α → List Nat) : SWO (ltOf fun x y => cmpP (sc x) (sc y)) where
 irrefl x := by
  show decide (cmpP (sc x) (sc x) < 0) = false
  exact decide_eq_false fun h => ltS_irr _ ((cmpP_lt _ _).1 h)
 trans x y z h1 h2 := by
  have h1 := (cmpP_lt _ _).1 (of_decide_eq_true h1)
  have h2 := (cmpP_lt _ _).1 (of_decide_eq_true h2)
  exact decide_eq_true ((cmpP_lt _ _).2 (ltS_trans h1 h2))
 ntrans x y z h1 h2 := by
  have h1 : ¬ ltS (sc x) (sc y) := fun h => of_decide_eq_false h1 ((cmpP_lt _ _).2 h)
  have h2 : ¬ ltS (sc y) (sc z) := fun h => of_decide_eq_false h2 ((cmpP_lt _ _).2 h)
  refine decide_eq_false fun h => ?_
  have h := (cmpP_lt _ _).1 h
  rcases ltS_tri (sc x) (sc y) with e | e | e
  ·exact h1 e
  ·rw [e] at h; exact h2 h
  rcases ltS_tri (sc y) (sc z) with e' | e' | e'
  ·exact h2 e'
  ·rw [e'] at e; exact ltS_asym e h
  exact ltS_asym (ltS_trans e' e) h
theorem drop_consN {s : List Nat} {j : Nat} (h : j < s.length) : s.drop j = nth s j :: s.drop (j + 1) := by
 rw [List.drop_eq_getElem_cons h]
 congr 1
 simp [nth, List.getD_eq_getElem?_getD, h]
theorem compare_ints (A B : Option Addr) (m n c d : Nat) (s t : List Nat) (w : World) (hm : s.length = m) (hn : t.length = n) (hm6 : m ≤ 1000000) (hs : Ints w A s) (ht : Ints w B t) :
  Calls Tryz.prog 37 #[.slice A m c, .slice B n d] w fun e w' => e = .returned (.int .i64 (cmpL s t)) ∧ w = w' := by
 have HS := hid hs
 have HT := hid ht
 have HM := hid hm
 have HN := hid hn
 clear hs ht
 go_enter Tryz.func37, Tryz.ntmps37
 go_wp2_with fail
 go_loop [5, 6, 7, 8, 11] (fun _ _ _ _ i => ∃ j : Nat, j ≤ m ∧ j ≤ n ∧ i = .int .i64 (j : Int) ∧ Hid (cmpL (s.drop j) (t.drop j) = cmpL s t)) (fun _ _ _ _ i => m - (intOf i).toNat)
 case atStart => exact ⟨0, by omega, by omega, rfl, hid rfl⟩
 case round =>
  obtain ⟨j, hj, hjn, rfl, HC⟩ := hrel
  by_cases hlt : j < m
  ·have ji : (j : Int) < (m : Int) := by omega
   have j0 : (0 : Int) ≤ (j : Int) := by omega
   have dj : decide ((j : Int) < (m : Int)) = true := decide_eq_true ji
   have hdS := drop_consN (s := s) (j := j) (by omega)
   obtain ⟨gs, os, rfl, hgs, hc⟩ : ∃ g o, A = some ⟨g, o, none⟩ ∧ g < w.heap.size ∧ w.cell? ⟨g, o + j, none⟩ = some (.int .i64 (nth s j : Int)) := by
    rcases HS.out with h | ⟨g, o, e, hg, h⟩
    ·rw [h] at hm; simp at hm; omega
    exact ⟨g, o, e, hg, h j (by omega)⟩
   by_cases hjt : j < n
   ·obtain ⟨gt, ot, rfl, hgt, hd⟩ : ∃ g o, B = some ⟨g, o, none⟩ ∧ g < w.heap.size ∧ w.cell? ⟨g, o + j, none⟩ = some (.int .i64 (nth t j : Int)) := by
     rcases HT.out with h | ⟨g, o, e, hg, h⟩
     ·rw [h] at hn; simp at hn; omega
     exact ⟨g, o, e, hg, h j (by omega)⟩
    have hdT := drop_consN (s := t) (j := j) (by omega)
    have HN : Hid ((if cmp2 (nth s j) (nth t j) ≠ 0 then cmp2 (nth s j) (nth t j) else cmpL (s.drop (j + 1)) (t.drop (j + 1))) = cmpL s t) := hid (by
     have h := HC.out
     rw [hdS, hdT] at h
     exact h)
    clear hdS hdT
    generalize nth s j = x at hc HN
    generalize nth t j = y at hd HN
    have jt : (j : Int) < (n : Int) := by omega
    have jn : ¬ ((n : Int) ≤ (j : Int)) := by omega
    have hcj : decide ((n : Int) ≤ (j : Int)) = false := decide_eq_false jn
    go_wp2_with fail
    refine (compare_int _ _ _).mono ?_
    rintro e w' ⟨rfl, rfl⟩
    by_cases hz : cmp2 x y = 0
    ·have dz : (cmp2 x y != 0) = false := by simp [hz]
     have HN2 : Hid (cmpL (s.drop (j + 1)) (t.drop (j + 1)) = cmpL s t) := hid (by have h := HN.out; rwa [if_neg (by simp [hz])] at h)
     go_wp2_with fail
     go_round
     case rel => exact ⟨j + 1, by omega, by omega, by go_num, HN2⟩
     case measure => simp [intOf]; omega
    have dz : (cmp2 x y != 0) = true := by rw [bne_iff_ne]; exact hz
    have HN2 : Hid (cmp2 x y = cmpL s t) := hid (by have h := HN.out; rwa [if_pos hz] at h)
    go_wp2_with fail
    go_ret
    exact ⟨congrArg (fun x => Ending.returned (.int .i64 x)) HN2.out, rfl⟩
   have HZ : Hid ((1 : Int) = cmpL s t) := hid (by
    have h := HC.out
    rw [hdS, List.drop_eq_nil_of_le (by omega : t.length ≤ j)] at h
    exact h)
   have jn : (n : Int) ≤ (j : Int) := by omega
   have hcj : decide ((n : Int) ≤ (j : Int)) = true := decide_eq_true jn
   clear hdS
   go_wp2_with fail
   go_ret
   exact ⟨congrArg (fun x => Ending.returned (.int .i64 x)) HZ.out, rfl⟩
  obtain rfl : j = m := by omega
  have dj : decide ((j : Int) < (j : Int)) = false := by simp
  rcases Nat.lt_or_ge j n with hjt | hjt
  ·have HZ : Hid ((-1 : Int) = cmpL s t) := hid (by
    have h := HC.out
    rw [List.drop_eq_nil_of_le (by omega : s.length ≤ j), drop_consN (s := t) (j := j) (by omega)] at h
    exact h)
   have dl : decide ((j : Int) < (n : Int)) = true := decide_eq_true (by omega)
   clear hlt hj
   go_wp2_with fail
   go_ret
   exact ⟨congrArg (fun x => Ending.returned (.int .i64 x)) HZ.out, rfl⟩
  have HZ : Hid ((0 : Int) = cmpL s t) := hid (by
   have h := HC.out
   rw [List.drop_eq_nil_of_le (by omega : s.length ≤ j), List.drop_eq_nil_of_le (by omega : t.length ≤ j)] at h
   exact h)
  have dl : decide ((j : Int) < (n : Int)) = false := decide_eq_false (by omega)
  clear hlt hj
  go_wp2_with fail
  go_ret
  exact ⟨congrArg (fun x => Ending.returned (.int .i64 x)) HZ.out, rfl⟩
theorem grow_of_below {W W' : World} (hb : Below W.heap.size W W') (hd : W.drawn ≤ W'.drawn) : ∃ q os', W' = grow (W.drewN q) os' := by
 refine ⟨W'.drawn - W.drawn, W'.heap.extract W.heap.size W'.heap.size, ?_⟩
 have e : W.heap ++ W'.heap.extract W.heap.size W'.heap.size = W'.heap := by
  apply Array.ext_getElem?
  intro i
  by_cases hi : i < W.heap.size
  ·rw [Array.getElem?_append_left hi]
   exact (hb.block i hi).symm
  rw [Array.getElem?_append_right (by omega), Array.getElem?_extract]
  split
  ·rw [show W.heap.size + (i - W.heap.size) = i by omega]
  rw [Array.getElem?_eq_none (by omega)]
 obtain ⟨h1, h2, h3, h4, h5⟩ := W
 obtain ⟨k1, k2, k3, k4, k5⟩ := W'
 have e1 := hb.os
 have e2 := hb.tape
 have e3 := hb.output
 simp only [grow, World.drewN] at *
 subst e1; subst e2; subst e3
 rw [e]
 congr 1
 omega
theorem or_two (g : Nat) (x y : Int) (w : World) (h0 : w.cell? ⟨g, 0, none⟩ = some (.int .i64 x)) (h1 : w.cell? ⟨g, 1, none⟩ = some (.int .i64 y)) :
  Calls Tryz.prog 177 #[.slice (some ⟨g, 0, none⟩) 2 2] w fun e w' => e = .returned (.int .i64 (if x ≠ 0 then x else y)) ∧ w = w' := by
 have H0 := hid h0
 have H1 := hid h1
 clear h0 h1
 generalize hr : (if x ≠ 0 then x else y) = r
 have HR := hid hr
 clear hr
 go_enter Tryz.func177, Tryz.ntmps177
 go_wp2_with fail
 go_loop [5, 8] (fun _ i => ∃ j : Nat, j ≤ 2 ∧ i = .int .i64 (j : Int) ∧ Hid (0 < j → x = 0) ∧ Hid (1 < j → y = 0)) (fun _ i => 2 - (intOf i).toNat)
 case atStart => exact ⟨0, by omega, rfl, hid fun h => by omega, hid fun h => by omega⟩
 case round =>
  obtain ⟨j, hj, rfl, HX, HY⟩ := hrel
  rcases (by omega : j = 0 ∨ j = 1 ∨ j = 2) with rfl | rfl | rfl
  ·have c0 := H0.out
   by_cases hx : x = 0
   ·have dx : (x != 0) = false := by simp [hx]
    go_wp2_with fail
    go_round
    case rel => exact ⟨1, by omega, by go_num, hid fun _ => hx, hid fun h => by omega⟩
    case measure => simp [intOf]
   have dx : (x != 0) = true := by rw [bne_iff_ne]; exact hx
   have E : Hid (r = x) := hid (HR.out.symm.trans (if_pos hx))
   go_wp2_with fail
   go_ret
   exact ⟨congrArg (fun x => Ending.returned (.int .i64 x)) E.out.symm, rfl⟩
  ·have c1 := H1.out
   have hx : Hid (x = 0) := hid (HX.out (by omega))
   by_cases hy : y = 0
   ·have dy : (y != 0) = false := by simp [hy]
    go_wp2_with fail
    go_round
    case rel => exact ⟨2, by omega, by go_num, hid fun _ => hx.out, hid fun _ => hy⟩
    case measure => simp [intOf]
   have dy : (y != 0) = true := by rw [bne_iff_ne]; exact hy
   have E : Hid (r = y) := hid (HR.out.symm.trans (if_neg (by simp [hx.out])))
   go_wp2_with fail
   go_ret
   exact ⟨congrArg (fun x => Ending.returned (.int .i64 x)) E.out.symm, rfl⟩
  have E : Hid (r = 0) := hid (by rw [← HR.out, if_neg (by simp [HX.out (by omega)]), HY.out (by omega)])
  go_wp2_with fail
  go_ret
  exact ⟨congrArg (fun x => Ending.returned (.int .i64 x)) E.out.symm, rfl⟩
abbrev HoldCp (W0 : World) (m n c d : Nat) (A B : Option Addr) (s t : List Nat) (W : World) : Prop :=
 W.cell? ⟨W0.heap.size, 0, none⟩ = some (.slice A m c) ∧ W.cell? ⟨W0.heap.size + 1, 0, none⟩ = some (.slice B n d) ∧ Ints W A s ∧ Ints W B t ∧ Below W0.heap.size W0 W ∧ W0.drawn ≤ W.drawn
theorem HoldCp.next {W0 W W' : World} {m n c d : Nat} {A B : Option Addr} {s t : List Nat} (h : HoldCp W0 m n c d A B s t W) (hb : Below W.heap.size W W') (hd : W.drawn ≤ W'.drawn) : HoldCp W0 m n c d A B s t W' := by
 obtain ⟨h0, h1, h2, h3, h4, h5⟩ := h
 exact ⟨(hb.cell (p := ⟨W0.heap.size, 0, none⟩) (World.block_lt_of_cell? W _ h0)).trans h0, (hb.cell (p := ⟨W0.heap.size + 1, 0, none⟩) (World.block_lt_of_cell? W _ h1)).trans h1, h2.below hb (Nat.le_refl _), h3.below hb (Nat.le_refl _), h4.trans (hb.mono h4.size), Nat.le_trans h5 hd⟩
theorem HoldCp.alloc {W0 W : World} {m n c d : Nat} {A B : Option Addr} {s t : List Nat} (h : HoldCp W0 m n c d A B s t W) (o : Obj) : HoldCp W0 m n c d A B s t (W.alloc o) := h.next (new_val W o) (Nat.le_refl _)
theorem HoldCp.drew {W0 W : World} {m n c d : Nat} {A B : Option Addr} {s t : List Nat} (h : HoldCp W0 m n c d A B s t W) : HoldCp W0 m n c d A B s t W.drew := h.next ((Below.refl _ _).drew) (Nat.le_succ _)
theorem holdCp_new {W : World} {m n c d : Nat} {A B : Option Addr} {s t : List Nat} (ta tb : Value) (hs : Ints W A s) (ht : Ints W B t) :
  HoldCp W m n c d A B s t ((W.alloc (.cells #[.slice A m c, ta] 129)).alloc (.cells #[.slice B n d, tb] 129)) := by
 have n1 := new_val W (.cells #[.slice A m c, ta] 129)
 have n2 := new_val (W.alloc (.cells #[.slice A m c, ta] 129)) (.cells #[.slice B n d, tb] 129)
 have z1 : (W.alloc (.cells #[.slice A m c, ta] 129)).heap.size = W.heap.size + 1 := World.size_alloc _ _
 have a1 := heap_alloc_new W (.cells #[.slice A m c, ta] 129)
 have a2 := heap_alloc_new (W.alloc (.cells #[.slice A m c, ta] 129)) (.cells #[.slice B n d, tb] 129)
 rw [z1] at a2
 have hb := n1.trans (n2.mono (by rw [z1]; omega))
 refine ⟨?_, ?_, hs.below hb (Nat.le_refl _), ht.below hb (Nat.le_refl _), hb, Nat.le_refl _⟩
 ·rw [cell_of_row _ _ _ _ _ _ ((n2.block _ (by rw [z1]; omega)).trans a1)]
  rfl
 rw [cell_of_row _ _ _ _ _ _ a2]
 rfl
theorem lit_twoP (W : World) (x y : Int) : (W.alloc (.cells #[.int .i64 x, .int .i64 y] 3)).drew.cell? ⟨W.heap.size, 0, none⟩ = some (.int .i64 x) ∧ (W.alloc (.cells #[.int .i64 x, .int .i64 y] 3)).drew.cell? ⟨W.heap.size, 1, none⟩ = some (.int .i64 y) := by
 have h := heap_alloc_new W (.cells #[.int .i64 x, .int .i64 y] 3)
 constructor
 ·show (W.alloc (.cells #[.int .i64 x, .int .i64 y] 3)).cell? _ = _
  rw [cell_of_row _ _ _ _ _ _ h]
  rfl
 show (W.alloc (.cells #[.int .i64 x, .int .i64 y] 3)).cell? _ = _
 rw [cell_of_row _ _ _ _ _ _ h]
 rfl
theorem HoldCp.ints1 {W0 W : World} {m n c d : Nat} {A B : Option Addr} {s t : List Nat} (h : HoldCp W0 m n c d A B s t W) : Ints W A s := h.2.2.1
theorem HoldCp.ints2 {W0 W : World} {m n c d : Nat} {A B : Option Addr} {s t : List Nat} (h : HoldCp W0 m n c d A B s t W) : Ints W B t := h.2.2.2.1
theorem compare_parts (A B : Option Addr) (m n c d : Nat) (s t : List Nat) (ta tb : Value) (W : World) (hm : s.length = m) (hn : t.length = n) (hm6 : m ≤ 1000000) (hs : Ints W A s) (ht : Ints W B t) :
  Calls Tryz.prog 139 #[.agg #[.slice A m c, ta], .agg #[.slice B n d, tb]] W fun e w' => e = .returned (.int .i64 (cmpP s t)) ∧ ∃ q os', w' = grow (W.drewN q) os' := by
 have H2 := hid (holdCp_new (m := m) (n := n) (c := c) (d := d) ta tb hs ht)
 have z1 : (W.alloc (.cells #[.slice A m c, ta] 129)).heap.size = W.heap.size + 1 := World.size_alloc _ _
 generalize hr : cmpP s t = r
 have HR : Hid ((if cmp2 (m : Int) (n : Int) ≠ 0 then cmp2 (m : Int) (n : Int) else cmpL s t) = r) := hid (by rw [← hr, cmpP, hm, hn])
 have HM := hid hm
 have HN := hid hn
 clear hr hs ht hm hn
 go_enter Tryz.func139, Tryz.ntmps139
 go_upto_region 1 with fail
 generalize h2 : ((W.alloc (.cells #[.slice A m c, ta] 129)).alloc (.cells #[.slice B n d, tb] 129)) = w2 at H2 ⊢
 clear h2
 go_region_held3 (fun W' => HoldCp W m n c d A B s t W') (first | exact H2.out.drew | assumption | exact HoldCp.alloc (by assumption) _)
  ((first | (go_at_call 93; refine (compare_int _ _ _).mono ?_; rintro e w' ⟨rfl, rfl⟩) | (go_at_call 37; refine (compare_ints A B m n c d s t _ HM.out HN.out hm6 (HoldCp.ints1 (by assumption)) (HoldCp.ints2 (by assumption))).mono ?_; rintro e w' ⟨rfl, rfl⟩) | (go_at_call 177; refine (or_two _ _ _ _ (lit_twoP _ _ _).1 (lit_twoP _ _ _).2).mono ?_; rw [HR.out]; rintro e w' ⟨rfl, rfl⟩)))
 go_wp2_with fail
 go_ret
 rename_i hH
 exact ⟨rfl, grow_of_below hH.2.2.2.2.1 hH.2.2.2.2.2⟩
open Go.RowKit Go.Shelf Go.Maps Go.Sort
theorem grownBy_sort {α : Type} [Inhabited α] {enc : α → List Value} {k : Nat} {w : World} {g n : Nat} {os : Array Obj} (d : Array α) : w.grownBy (sortWorldK enc k w g 0 n d os) (some g) := by
 unfold sortWorldK putRowK
 refine ⟨rfl, rfl, rfl, by simp, fun k hk hne => ?_⟩
 rw [heap_grow_old _ _ (by simpa using hk)]
 have : g ≠ k := fun e => hne (by rw [e])
 simp [putRow, mapBlock, Sort.ahead, Array.getElem?_modify, this]
theorem heap_sort {α : Type} [Inhabited α] {enc : α → List Value} {k : Nat} {w : World} {g n : Nat} {os : Array Obj} {cur : Array Value} {e : TypeId} {fr : Nat × Nat} (d : Array α) (hb : w.heap[g]? = some (.cells cur e fr)) :
  (sortWorldK enc k w g 0 n d os).heap[g]? = some (.cells (putCells id 0 (Go.Sort.flatK enc k d) cur) e fr) := by
 have hg : g < w.heap.size := (Array.getElem?_eq_some_iff.1 hb).1
 unfold sortWorldK putRowK
 rw [heap_grow_old _ _ (by simpa using hg)]
 simp [putRow, mapBlock, Sort.ahead, Array.getElem?_modify, hb]
 rfl
def encP {N : Nat} (us : Fin N → Value × Value) (i : Fin N) : List Value := [(us i).1, (us i).2]
theorem isAggP : ∀ w, (isAgg 129).run Tryz.prog w = .ok true w := fun w => by kernel_rfl
theorem sizeOfP : ∀ w, (Go.sizeOf 129).run Tryz.prog w = .ok 2 w := fun w => by kernel_rfl
theorem ints_but {w w' : World} {A : Option Addr} {l : List Nat} {g : Nat} (h : Ints w A l) (hg : w.grownBy w' (some g)) (hne : ∀ a, A = some a → a.block ≠ g) : Ints w' A l := by
 rcases h with h | ⟨b, o, e, hb, hc⟩
 ·exact .inl h
 refine .inr ⟨b, o, e, Nat.lt_of_lt_of_le hb hg.size, fun i hi => ?_⟩
 exact (World.cell?_of_block (a := ⟨b, o + i, none⟩) (hg.block b hb (fun e' => hne _ e (Option.some.inj e')))).trans (hc i hi)
theorem sortP_any (N gb cap : Nat) [Inhabited (Fin N)] (us : Fin N → Value × Value) (ss : Fin N → List Nat) (w : World) (hgb : gb < w.heap.size) (hN : N ≤ 1000000) (hH : HoldsK (encP us) 2 w gb 0 (Array.ofFn id)) (h1 : ∀ i, (us i).1.oneCell' = true ∧ (us i).2.oneCell' = true)
  (hs : ∀ i, ∃ A c, (us i).1 = .slice A (ss i).length c ∧ (ss i).length ≤ 1000000 ∧ Ints w A (ss i) ∧ ∀ a, A = some a → a.block ≠ gb) :
  Calls Tryz.prog 138 #[.slice (some ⟨gb, 0, none⟩) N cap, .func (.func 139) #[] #[]] w fun e w' => e = .returned (.tuple #[]) ∧ ∃ d' : Array (Fin N), PermIn 0 N (Array.ofFn id) d' ∧ SortedIn (ltOf fun x y => cmpP (ss x) (ss y)) 0 N d' ∧ (∀ cur e fr, w.heap[gb]? = some (.cells cur e fr) → w'.heap[gb]? = some (.cells (putCells id 0 (Go.Sort.flatK (encP us) 2 d') cur) e fr)) ∧ w.grownBy w' (some gb) := by
 have hsz : (Array.ofFn (id : Fin N → Fin N)).size = N := Array.size_ofFn
 have eg : ∀ args w, (callFunc 139 args).run Tryz.prog w = .ok (.enter 139 args) w := enters_of Tryz.func139 (by kernel_rfl) rfl
 have hcmp : CmpLays Tryz.prog 139 #[] (encP us) 2 (fun x y => cmpP (ss x) (ss y)) gb 0 (Array.ofFn (id : Fin N → Fin N)).size w := fun m os dk hd x y => by
  obtain ⟨A, c, e1, hm, iA, nA⟩ := hs x
  obtain ⟨B, d, e2, _, iB, nB⟩ := hs y
  have hg := grownBy_sort (enc := encP us) (k := 2) (w := w) (g := gb) (n := m) (os := os) dk
  have h := compare_parts A B (ss x).length (ss y).length c d (ss x) (ss y) (us x).2 (us y).2 (sortWorldK (encP us) 2 w gb 0 m dk os) rfl rfl hm (ints_but iA hg nA) (ints_but iB hg nB)
  rw [← e1, ← e2] at h
  exact h
 have SS := AnyQ.slices_SortFunc Tryz.sortP 2 isAggP sizeOfP (encP us) (fun _ => rfl) (fun x v hv => by
   rcases List.mem_cons.1 hv with rfl | hv
   ·exact (h1 x).1
   ·rw [List.mem_singleton.1 hv]; exact (h1 x).2) (fun x y => cmpP (ss x) (ss y)) (swoP ss) 139 #[] gb 0 cap (Array.ofFn (id : Fin N → Fin N)) w eg hcmp hH hgb (by rw [hsz]; omega)
 rw [hsz] at SS
 refine SS.mono ?_
 rintro e w' ⟨he, d', n, os, hp, hsd, rfl⟩
 refine ⟨he, d', hp, hsd, fun cur e fr hc => heap_sort d' hc, grownBy_sort d'⟩
end Go.Proofs.YtmokogkndbinlaaGreatDoor
