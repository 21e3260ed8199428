/- Contract of the document's Out (no statement of its own). -/
import Derived.Test.YtamodeglpkgiaaaDoorRoA
import Derived.Test.YtamodeglpkgiaaaDoorHrd
namespace Go.Proofs.YtamodeglpkgiaaaDoor
open Go.RowKit
set_option linter.unusedVariables false
abbrev HoldP (w3 : World) (b0 bu n cs : Nat) (As : Option Addr) (W : World) : Prop :=
  W.cell? ⟨b0, 0, none⟩ = some (.slice As n cs) ∧ Kept2 w3 bu bu W
theorem holdP {w3 W W' : World} {b0 bu n cs : Nat} {As : Option Addr} (H : HoldP w3 b0 bu n cs As W) (hb : Below W.heap.size W W') : HoldP w3 b0 bu n cs As W' :=
  ⟨(hb.cell (p := ⟨b0, 0, none⟩) (World.block_lt_of_cell? W _ H.1)).trans H.1, H.2.next hb⟩
theorem holdP_grown {w3 W W' : World} {b0 bu n cs m : Nat} {As : Option Addr} {v : Value} {e : TypeId} {xs : List Value} (H : HoldP w3 b0 bu n cs As W) (h0 : b0 < w3.heap.size) (ho : W.ownsRow w3.heap.size e 1 v m xs) (hg : W.grownBy W' v.ownBlock) : HoldP w3 b0 bu n cs As W' :=
  ⟨(World.cell?_of_block (hg.block b0 (World.block_lt_of_cell? W _ H.1) (fun e => by have := (World.ownsRow.lt ho b0 e.symm).1; omega))).trans H.1, kept2_grown H.2 ho hg⟩
theorem u_grown {w3 W W' : World} {bu m : Nat} {o : Obj} {v : Value} {e : TypeId} {xs : List Value} (H : W.heap[bu]? = some o) (h0 : bu < w3.heap.size) (ho : W.ownsRow w3.heap.size e 1 v m xs) (hg : W.grownBy W' v.ownBlock) : W'.heap[bu]? = some o :=
  (hg.block bu (Array.getElem?_eq_some_iff.1 H).1 (fun e => by have := (World.ownsRow.lt ho bu e.symm).1; omega)).trans H
theorem ints_take {w : World} {A : Option Addr} {l : List Nat} (h : Ints w A l) (p : Nat) : Ints w A (l.take p) := by
  rcases h with rfl | ⟨g, o, rfl, hg, hc⟩
  · exact .inl (by simp)
  · refine .inr ⟨g, o, rfl, hg, fun i hi => ?_⟩
    have hi' : i < l.length ∧ i < p := by simp at hi; omega
    rw [hc i hi'.1]
    simp [nth, List.getD_eq_getElem?_getD, hi'.2]
theorem ints_drop {w : World} {g o : Nat} {l : List Nat} (h : Ints w (some ⟨g, o, none⟩) l) (p : Nat) : Ints w (some ⟨g, o + p, none⟩) (l.drop p) := by
  rcases h with rfl | ⟨g', o', e, hg, hc⟩
  · exact .inl (by simp)
  · injection e with e
    injection e with e1 e2
    subst e1 e2
    refine .inr ⟨g, o + p, rfl, hg, fun i hi => ?_⟩
    have := hc (p + i) (by simp at hi; omega)
    rw [nth_drop, ← this, Nat.add_assoc]
theorem own_addr {w : World} {base n c : Nat} {A : Option Addr} {l : List Nat} (hl : Own w base (.slice A n c) l) : (A = none ∧ n = 0 ∧ c = 0) ∨ ∃ g, A = some ⟨g, 0, none⟩ ∧ n ≤ c := by
  obtain ⟨_, ⟨e, hn⟩ | ⟨g, cap, cur, e, _, _, hm, _⟩⟩ := hl
  · injection e with e1 e2 e3
    exact .inl ⟨e1, e2, e3⟩
  · injection e with e1 e2 e3
    exact .inr ⟨g, e1, by omega⟩
theorem lit_oneI (W : World) (v : Nat) : Ints (W.alloc (.cells #[.int .i64 (v : Int)] 3)) (some ⟨W.heap.size, 0, none⟩) [v] := by
  have hc := heap_alloc_new W (.cells #[.int .i64 (v : Int)] 3)
  refine .inr ⟨_, _, rfl, by simp, fun i hi => ?_⟩
  obtain rfl : i = 0 := by simp at hi; exact hi
  rw [cell_of_row _ _ _ _ _ _ hc]
  rfl
theorem ints_far {W W' : World} {g o : Nat} {l : List Nat} {row : Option Nat} (h : Ints W (some ⟨g, o, none⟩) l) (hlt : g < W.heap.size) (hg : W.grownBy W' row) (hne : row ≠ some g) : Ints W' (some ⟨g, o, none⟩) l := by
  rcases h with rfl | ⟨g', o', e, h1, hc⟩
  · exact .inl rfl
  · injection e with e
    injection e with e1 e2
    subst e1 e2
    exact .inr ⟨g, o, rfl, Nat.lt_of_lt_of_le hlt hg.size, fun i hi => (World.cell?_of_block (hg.block g hlt (fun e => hne e.symm))).trans (hc i hi)⟩
theorem results_rt2 {fn : Func} {p q : Tmp} (h : fn.results = #[.cell p 31, .tmp q]) (tmps : Array Value) (w : World) (g : Nat) (a b c : Value) (hp : tmps.getD p undef = .pointer (some ⟨g, 0, none⟩))
    (hg : w.heap[g]? = some (.cells #[a, b, c] 31 (0, 0))) : (results fn tmps).run Tryd.prog w = .ok (.tuple #[.agg #[a, b, c], tmps.getD q undef]) w := by
  have c0 : w.cell? ⟨g, 0, none⟩ = some a := by rw [cell_of_row _ _ _ _ _ _ hg]; rfl
  have c1 : w.cell? ⟨g, 1, none⟩ = some b := by rw [cell_of_row _ _ _ _ _ _ hg]; rfl
  have c2 : w.cell? ⟨g, 2, none⟩ = some c := by rw [cell_of_row _ _ _ _ _ _ hg]; rfl
  have hp' : tmps[p]?.getD undef = .pointer (some ⟨g, 0, none⟩) := by simpa using hp
  simp [results, h, hp', go_sem, c0, c1, c2]
def RoPost (w : World) (l : List Nat) (k : Int) (z : Nat → Int) (p : Nat) (vs : List Nat) (P N : Nat) (e : Ending) (w' : World) : Prop :=
  (∃ A1 c1 A2 c2 A3 c3, e = .returned (.tuple #[.agg #[.slice A1 (N - 1) c1, .int .i64 k, .slice A2 P c2], .slice A3 P c3]) ∧ Ints w' A1 (l.eraseIdx p) ∧ N - 1 ≤ c1 ∧
    Zs w' A2 P (fun i => (outL l z k p vs i).1) ∧ Zs w' A3 P (fun i => (outL l z k p vs i).2)) ∧ Below w.heap.size w w'
theorem ints_rest {w : World} {g o cs p : Nat} {l : List Nat} (h : Ints w (some ⟨g, o, none⟩) l) (hc : l.length ≤ cs) : Ints w (if cs = p + 1 then some ⟨g, o, none⟩ else some ⟨g, o + (p + 1), none⟩) (l.drop (p + 1)) := by
  split
  · exact .inl (by simp; omega)
  · exact ints_drop h (p + 1)
set_option maxRecDepth 100000 in
set_option maxHeartbeats 8000000 in
theorem rout_any (As Ac Av : Option Addr) (cs cc cv p m P P0 : Nat) (l vs : List Nat) (k : Int) (z : Nat → Int) (w : World) (h6 : l.length ≤ 6) (hcs : l.length ≤ cs) (hls : ∀ n ∈ l, 1 ≤ n ∧ n ≤ 32) (hP0 : prodL l = P0) (hP4 : P0 ≤ 4096) (hp : p < l.length)
    (hvs : vs.length = m) (hm : m ≤ 32) (hv : ∀ v ∈ vs, v < nth l p) (hPe : prodL (l.eraseIdx p) = P) (hI : Ints w As l) (hZ : Zs w Ac P0 z) (hV : Ints w Av vs) :
    Calls Tryd.prog 26 #[.agg #[.slice As l.length cs, .int .i64 k, .slice Ac P0 cc], .int .i64 (p : Int), .slice Av m cv] w (RoPost w l k z p vs P l.length) := by
  obtain ⟨gs, os, rfl, -⟩ := hI.at_ hp
  have HI := Lib.hid hI
  have HZ := Lib.hid hZ
  have HV := Lib.hid hV
  have HLS := Lib.hid hls
  have HP0 := Lib.hid hP0
  have HVS := Lib.hid hvs
  have HVL := Lib.hid hv
  have HPE := Lib.hid hPe
  have HCS := Lib.hid hcs
  obtain ⟨n, hn⟩ : ∃ n, l.length = n := ⟨_, rfl⟩
  have HN := Lib.hid hn
  rw [hn] at h6 hcs hp ⊢
  clear hI hZ hV hls hP0 hvs hv hPe hn
  go_enter Tryd.func26, Tryd.ntmps26
  go_upto_region 2 with fail
  have X0 : Hid ((((w.alloc (.cells #[.slice (some ⟨gs, os, none⟩) n cs, .int .i64 k, .slice Ac P0 cc] 31)).alloc (.cells #[.slice none 0 0, .int .i64 0, .slice none 0 0] 31)).alloc (.cells #[.slice none 0 0, .int .i64 k, .slice none 0 0] 31)).heap[w.heap.size]? = some (.cells #[.slice (some ⟨gs, os, none⟩) n cs, .int .i64 k, .slice Ac P0 cc] 31 (0, 0))) :=
    Lib.hid (((new_val _ _).block _ (by simp <;> omega)).trans (((new_val _ _).block _ (by simp)).trans (heap_alloc_new w _)))
  have X1 : Hid ((((w.alloc (.cells #[.slice (some ⟨gs, os, none⟩) n cs, .int .i64 k, .slice Ac P0 cc] 31)).alloc (.cells #[.slice none 0 0, .int .i64 0, .slice none 0 0] 31)).alloc (.cells #[.slice none 0 0, .int .i64 k, .slice none 0 0] 31)).heap[w.heap.size + 1]? = some (.cells #[.slice none 0 0, .int .i64 0, .slice none 0 0] 31 (0, 0))) :=
    Lib.hid (((new_val _ _).block _ (by simp)).trans (alloc_two w _ _))
  have X2 : Hid ((((w.alloc (.cells #[.slice (some ⟨gs, os, none⟩) n cs, .int .i64 k, .slice Ac P0 cc] 31)).alloc (.cells #[.slice none 0 0, .int .i64 0, .slice none 0 0] 31)).alloc (.cells #[.slice none 0 0, .int .i64 k, .slice none 0 0] 31)).heap[w.heap.size + 1 + 1]? = some (.cells #[.slice none 0 0, .int .i64 k, .slice none 0 0] 31 (0, 0))) :=
    Lib.hid (by have := alloc_two (w.alloc (.cells #[.slice (some ⟨gs, os, none⟩) n cs, .int .i64 k, .slice Ac P0 cc] 31)) (.cells #[.slice none 0 0, .int .i64 0, .slice none 0 0] 31) (.cells #[.slice none 0 0, .int .i64 k, .slice none 0 0] 31); simpa using this)
  have B3 : Hid (Below w.heap.size w (((w.alloc (.cells #[.slice (some ⟨gs, os, none⟩) n cs, .int .i64 k, .slice Ac P0 cc] 31)).alloc (.cells #[.slice none 0 0, .int .i64 0, .slice none 0 0] 31)).alloc (.cells #[.slice none 0 0, .int .i64 k, .slice none 0 0] 31))) :=
    Lib.hid (then_ (then_ (new_val _ _) (new_val _ _)) (new_val _ _))
  have z3 : (((w.alloc (.cells #[.slice (some ⟨gs, os, none⟩) n cs, .int .i64 k, .slice Ac P0 cc] 31)).alloc (.cells #[.slice none 0 0, .int .i64 0, .slice none 0 0] 31)).alloc (.cells #[.slice none 0 0, .int .i64 k, .slice none 0 0] 31)).heap.size = w.heap.size + 3 := by simp
  generalize (((w.alloc (.cells #[.slice (some ⟨gs, os, none⟩) n cs, .int .i64 k, .slice Ac P0 cc] 31)).alloc (.cells #[.slice none 0 0, .int .i64 0, .slice none 0 0] 31)).alloc (.cells #[.slice none 0 0, .int .i64 k, .slice none 0 0] 31)) = w3 at X0 X1 X2 B3 z3 ⊢
  have i0 : (0 : Int) ≤ (p : Int) := by omega
  have i1 : (p : Int) ≤ (cs : Int) := by omega
  have i2 : (p : Int) + 1 ≤ (n : Int) := by omega
  have i3 : (0 : Int) ≤ (p : Int) + 1 := by omega
  have e1 : IntKind.i64.wrap ((p : Int) + 1) = (p : Int) + 1 := IntWalk.i64_in _ (by omega)
  have e2 : ((p : Int) + 1).toNat = p + 1 := by omega
  have i4 : (n : Int) ≤ (cs : Int) := by omega
  refine wp_region_noPanic ?_
  refine wp_region_held_drew (S := fun W => HoldP w3 w.heap.size (w.heap.size + 1 + 1) n cs (some ⟨gs, os, none⟩) W) (by kernel_rfl) ⟨by show w3.cell? _ = _; rw [cell_of_row _ _ _ _ _ _ X0.out]; rfl, (Kept2.refl _ _ _).drew⟩ (fun hHeld => ?_)
  have U0 : Hid (w3.drew.heap[w.heap.size + 1 + 1]? = _) := Lib.hid X2.out
  generalize w3.drew = w4 at hHeld U0 ⊢
  refine wpAnyH_take (i := 1) (v := ?v501) rfl (by kernel_rfl) (by kernel_rfl) (by kernel_rfl) (fun _ _ _ h => h) (Or.inl ⟨by rfl, ?y501⟩) (by assumption) ?r501
  case y501 => ((intro w hSw; (try dsimp only at hSw); go_simp); try with_reducible rfl)
  try simp only [Act.put, List.getElem_toArray, List.getElem_cons_succ, List.getElem_cons_zero, List.setIfInBounds_toArray, List.set_cons_zero, List.set_cons_succ]
  refine wpAnyH_take (i := 2) (v := ?v502) rfl (by kernel_rfl) (by kernel_rfl) (by kernel_rfl) (fun _ _ _ h => h) (Or.inl ⟨by rfl, ?y502⟩) (by assumption) ?r502
  case y502 => ((intro w hSw; (try dsimp only at hSw); go_simp); try with_reducible rfl)
  try simp only [Act.put, List.getElem_toArray, List.getElem_cons_succ, List.getElem_cons_zero, List.setIfInBounds_toArray, List.set_cons_zero, List.set_cons_succ]
  refine wpAnyH_take (i := 3) (v := ?v503) rfl (by kernel_rfl) (by kernel_rfl) (by kernel_rfl) (fun _ _ _ h => h) (Or.inl ⟨by rfl, ?y503⟩) (by assumption) ?r503
  case y503 => ((intro w hSw; (try dsimp only at hSw); go_simp); try with_reducible rfl)
  try simp only [Act.put, List.getElem_toArray, List.getElem_cons_succ, List.getElem_cons_zero, List.setIfInBounds_toArray, List.set_cons_zero, List.set_cons_succ]
  refine wpAnyH_take (i := 4) (v := ?v504) rfl (by kernel_rfl) (by kernel_rfl) (by kernel_rfl) (fun _ _ _ h => h) (Or.inl ⟨by rfl, ?y504⟩) (by assumption) ?r504
  case y504 => ((intro w hSw; (try dsimp only at hSw); go_simp); try with_reducible rfl)
  try simp only [Act.put, List.getElem_toArray, List.getElem_cons_succ, List.getElem_cons_zero, List.setIfInBounds_toArray, List.set_cons_zero, List.set_cons_succ]
  refine wpAnyH_take (i := 6) (v := ?v505) rfl (by kernel_rfl) (by kernel_rfl) (by kernel_rfl) (fun _ _ _ h => h) (Or.inl ⟨by rfl, ?y505⟩) (by assumption) ?r505
  case y505 => ((intro w hSw; (try dsimp only at hSw); go_simp); try with_reducible rfl)
  try simp only [Act.put, List.getElem_toArray, List.getElem_cons_succ, List.getElem_cons_zero, List.setIfInBounds_toArray, List.set_cons_zero, List.set_cons_succ]
  refine wpAnyH_take (i := 7) (v := ?v506) rfl (by kernel_rfl) (by kernel_rfl) (by kernel_rfl) (fun _ _ _ h => h) (Or.inl ⟨by rfl, ?y506⟩) (by assumption) ?r506
  case y506 => ((intro w hSw; (try dsimp only at hSw); go_simp); try with_reducible rfl)
  try simp only [Act.put, List.getElem_toArray, List.getElem_cons_succ, List.getElem_cons_zero, List.setIfInBounds_toArray, List.set_cons_zero, List.set_cons_succ]
  refine wpAnyH_take (i := 8) (v := ?v507) rfl (by kernel_rfl) (by kernel_rfl) (by kernel_rfl) (fun _ _ _ h => h) (Or.inl ⟨by rfl, ?y507⟩) (by assumption) ?r507
  case y507 => ((intro w hSw; (try dsimp only at hSw); go_simp); try with_reducible rfl)
  try simp only [Act.put, List.getElem_toArray, List.getElem_cons_succ, List.getElem_cons_zero, List.setIfInBounds_toArray, List.set_cons_zero, List.set_cons_succ]
  refine wpAnyH_take (i := 9) (v := ?v508) rfl (by kernel_rfl) (by kernel_rfl) (by kernel_rfl) (fun _ _ _ h => h) (Or.inl ⟨by rfl, ?y508⟩) (by assumption) ?r508
  case y508 => ((intro w hSw; (try dsimp only at hSw); go_simp); try with_reducible rfl)
  try simp only [Act.put, List.getElem_toArray, List.getElem_cons_succ, List.getElem_cons_zero, List.setIfInBounds_toArray, List.set_cons_zero, List.set_cons_succ]
  refine wpAnyH_take (i := 10) (v := ?v509) rfl (by kernel_rfl) (by kernel_rfl) (by kernel_rfl) (fun _ _ _ h => h) (Or.inl ⟨by rfl, ?y509⟩) (by assumption) ?r509
  case y509 => ((intro w hSw; (try dsimp only at hSw); go_simp); try with_reducible rfl)
  try simp only [Act.put, List.getElem_toArray, List.getElem_cons_succ, List.getElem_cons_zero, List.setIfInBounds_toArray, List.set_cons_zero, List.set_cons_succ]
  refine wpAnyH_ready (rs := [0]) (by kernel_rfl) (by simp) ?_
  refine AllReadyH.cons rfl (fun K hK => ?_) ?_
  · go_simp
    have na := new_val w4 (.cells #[] 3)
    have OW : Hid (Own (w4.alloc (.cells #[] 3)) w3.heap.size (.slice (some ⟨w4.heap.size, 0, none⟩) 0 0) []) := Lib.hid (World.ownsRow_made w4 #[] 0 hHeld.2.size (by simp [maxLen]) rfl)
    have U1 := Lib.hid ((na.block _ (Array.getElem?_eq_some_iff.1 U0.out).1).trans U0.out)
    refine hK.out _ _ (holdP hHeld na) (fun hHeld' => ?_)
    clear hHeld
    have hHeld := hHeld'
    clear hHeld'
    clear na U0
    generalize w4.alloc (.cells #[] 3) = w5 at hHeld OW U1 ⊢
    generalize w4.heap.size = g5 at OW ⊢
    clear hK K
    try simp only [Act.put, List.getElem_toArray, List.getElem_cons_succ, List.getElem_cons_zero, List.setIfInBounds_toArray, List.set_cons_zero, List.set_cons_succ]
    refine wpAnyH_ready (rs := [5]) (by kernel_rfl) (by simp) ?_
    refine AllReadyH.cons rfl (fun K hK => ?_) ?_
    · refine app_step rfl (.tmp 21) (.tmp 25) rfl w5 w3.heap.size p cs _ [] (l.take p) (some ⟨gs, os, none⟩) (by simp; have := HN.out; omega) (by rfl) (by rfl) OW.out (ints_take (HI.out.below (hHeld.2.below B3.out (by omega) (by omega) (by omega)) (Nat.le_refl _)) p) (by intro h; cases h) hHeld.2.size (by simp) (by omega) ?_
      intro v6 w6 hO hg
      have U2 := Lib.hid (u_grown (w3 := w3) U1.out (by omega) OW.out hg)
      have OX : Hid (Own w6 w3.heap.size v6 (l.take p)) := Lib.hid hO
      refine hK.out _ _ (holdP_grown hHeld (by omega) OW.out hg) (fun hHeld' => ?_)
      clear hHeld
      have hHeld := hHeld'
      clear hHeld'
      clear hO hg U1 OW
      clear hK K
      try simp only [Act.put, List.getElem_toArray, List.getElem_cons_succ, List.getElem_cons_zero, List.setIfInBounds_toArray, List.set_cons_zero, List.set_cons_succ]
      refine wpAnyH_ready (rs := [11]) (by kernel_rfl) (by simp) ?_
      refine AllReadyH.cons rfl (fun K hK => ?_) ?_
      · refine app_step rfl (.tmp 26) (.tmp 31) rfl w6 w3.heap.size (n - (p + 1)) (cs - (p + 1)) _ (l.take p) (l.drop (p + 1)) (if cs = p + 1 then some ⟨gs, os, none⟩ else some ⟨gs, os + (p + 1), none⟩) (by simp; have := HN.out; omega) (by rfl) (by rfl) OX.out (ints_rest (HI.out.below (hHeld.2.below B3.out (by omega) (by omega) (by omega)) (Nat.le_refl _)) (by have := HN.out; omega)) (by intro h; split at h <;> cases h) hHeld.2.size (by simp; omega) (by omega) ?_
        intro v7 w7 hO hg
        have U3 := Lib.hid (u_grown (w3 := w3) U2.out (by omega) OX.out hg)
        have hlen : (l.take p ++ l.drop (p + 1)).length = n - 1 := by have := HN.out; simp; omega
        obtain ⟨A7, c7, rfl⟩ := row_form hO
        generalize (l.take p ++ l.drop (p + 1)).length = n1 at hlen hO
        subst hlen
        have OY := Lib.hid hO
        refine hK.out _ _ (holdP_grown hHeld (by omega) OX.out hg) (fun hHeld' => ?_)
        clear hHeld
        have hHeld := hHeld'
        clear hHeld'
        clear hO hg U2 OX
        clear hK K
        try simp only [Act.put, List.getElem_toArray, List.getElem_cons_succ, List.getElem_cons_zero, List.setIfInBounds_toArray, List.set_cons_zero, List.set_cons_succ]
        refine wpAnyH_take (i := 12) (v := ?v510) rfl (by kernel_rfl) (by kernel_rfl) (by kernel_rfl) (fun _ _ _ h => h) (Or.inl ⟨by rfl, ?y510⟩) (by assumption) ?r510
        case y510 => ((intro w hSw; (try dsimp only at hSw); go_simp); try with_reducible rfl)
        try simp only [Act.put, List.getElem_toArray, List.getElem_cons_succ, List.getElem_cons_zero, List.setIfInBounds_toArray, List.set_cons_zero, List.set_cons_succ]
        refine wpAnyH_ready (rs := [13]) (by kernel_rfl) (by simp) ?_
        refine AllReadyH.cons rfl (fun K hK => ?_) ?_
        · have ac : w7.cell? ⟨w.heap.size + 1 + 1, 0, none⟩ = some (.slice none 0 0) := by rw [cell_of_row _ _ _ _ _ _ U3.out]; rfl
          have af : w7.frozen? ⟨w.heap.size + 1 + 1, 0, none⟩ = false := frozen_of_row _ _ _ _ _ U3.out
          go_simp
          clear ac af
          have U4 := Lib.hid (heap_setCell_same w7 (w.heap.size + 1 + 1) 0 _ _ (.slice A7 (n - 1) c7) U3.out)
          refine hK.out _ _ (⟨(Below.cell (B := w.heap.size + 1) ((Below.refl _ _).setCell (p := ⟨w.heap.size + 1 + 1, 0, none⟩) (show w.heap.size + 1 ≤ w.heap.size + 1 + 1 by omega) (.slice A7 (n - 1) c7)) (p := ⟨w.heap.size, 0, none⟩) (show w.heap.size < w.heap.size + 1 by omega)).trans hHeld.1, hHeld.2.set (.inl rfl) 0 (.slice A7 (n - 1) c7)⟩) (fun hHeld' => ?_)
          clear hHeld
          have hHeld := hHeld'
          clear hHeld'
          clear hK K
          try simp only [Act.put, List.getElem_toArray, List.getElem_cons_succ, List.getElem_cons_zero, List.setIfInBounds_toArray, List.set_cons_zero, List.set_cons_succ]
          refine wpAnyH_done (by kernel_rfl) ?_ _
          refine NoPanic.normal ?_
          generalize (if cs = p + 1 then (some ⟨gs, os, none⟩ : Option Addr) else some ⟨gs, os + (p + 1), none⟩) = AD
          have O8 : Hid (Own (w7.setCell ⟨w.heap.size + 1 + 1, 0, none⟩ (.slice A7 (n - 1) c7)) w3.heap.size (.slice A7 (n - 1) c7) (l.eraseIdx p)) := Lib.hid (by rw [List.eraseIdx_eq_take_drop_succ]; exact World.ownsRow.kept OY.out (grown_set _ _ _ _) (row_far OY.out (by omega)))
          have hc7 : n - 1 ≤ c7 := own_cap O8.out
          have U8 : Hid ((w7.setCell ⟨w.heap.size + 1 + 1, 0, none⟩ (.slice A7 (n - 1) c7)).heap[w.heap.size + 1 + 1]? = some (.cells #[.slice A7 (n - 1) c7, .int .i64 k, .slice none 0 0] 31 (0, 0))) := Lib.hid (by simpa using U4.out)
          have K8 := Lib.hid hHeld.2
          clear hHeld U3 U4 OY
          generalize w7.setCell ⟨w.heap.size + 1 + 1, 0, none⟩ (.slice A7 (n - 1) c7) = w8 at O8 U8 K8 ⊢
          have I8 : Hid (Ints w8 A7 (l.eraseIdx p)) := Lib.hid (by obtain ⟨A', c', e, h⟩ := O8.out.form; injection e with e; subst e; exact h)
          have u0 : w8.cell? ⟨w.heap.size + 1 + 1, 0, none⟩ = some (.slice A7 (n - 1) c7) := by rw [cell_of_row _ _ _ _ _ _ U8.out]; rfl
          have hp' : p < l.length := by rw [HN.out]; exact hp
          have hPl : P ≤ 4096 := by
            have h1 := prodL_erase hp'
            have h2 := HP0.out
            have h3 := nth_pos (fun n hn => (HLS.out n hn).1) hp'
            have h4 : 1 * prodL (l.eraseIdx p) ≤ nth l p * prodL (l.eraseIdx p) := Nat.mul_le_mul_right _ h3
            have h5 := HPE.out
            omega
          have hel : (l.eraseIdx p).length = n - 1 := by have := erase_len hp'; have := HN.out; omega
          have HEL := Lib.hid hel
          have HP' := Lib.hid hp'
          clear i0 i1 i2 i3 i4 e1 e2 hp' hel
          go_wp2_with fail
          refine (rall_any4 A7 (n - 1) c7 P (l.eraseIdx p) _ HEL.out.symm (by rw [HEL.out]; omega) hc7 (erase_le (q := fun n => 1 ≤ n ∧ n ≤ 32) HLS.out p) HPE.out hPl I8.out).mono ?_
          rintro e w9 ⟨⟨Ar, cr, rfl, hR⟩, hb⟩
          have R9 := Lib.hid hR
          have B9 := Lib.hid hb
          clear hR hb u0
          have U9 := Lib.hid ((B9.out.block _ (Array.getElem?_eq_some_iff.1 U8.out).1).trans U8.out)
          have K9 := Lib.hid (K8.out.next B9.out)
          have I9 := Lib.hid (I8.out.below B9.out (Nat.le_refl _))
          have BB := Lib.hid (K9.out.below B3.out (Nat.le_refl _) (Nat.le_of_lt (by omega)) (Nat.le_of_lt (by omega)))
          have z9 : w.heap.size + 3 ≤ w9.heap.size := by have := K9.out.size; omega
          have z8 : w.heap.size + 3 ≤ w8.heap.size := by have := K8.out.size; omega
          have ha : (w.heap.size + 1 + 1) < w8.heap.size := by omega
          have M9 : Hid (RoAt w9 (w.heap.size + 1 + 1) 0 0 (.slice A7 (n - 1) c7) k (fun i => (outL l z k p vs i).1) (fun i => (outL l z k p vs i).2) (.slice none 0 0) (.slice none 0 0) w9) :=
            Lib.hid ⟨Kept2.refl _ _ _, U9.out, World.ownsRow_nil _ _ _ _, World.ownsRow_nil _ _ _ _⟩
          have X9 : Hid (w9.heap[w.heap.size]? = _) := Lib.hid ((K9.out.block _ (by omega) (by omega) (by omega)).trans X0.out)
          have Y9 : Hid (w9.heap[w.heap.size + 1]? = _) := Lib.hid ((K9.out.block _ (by omega) (by omega) (by omega)).trans X1.out)
          have O9 := Lib.hid (O8.out.below B9.out (Nat.le_refl _))
          clear X0 X1 U8 K8 I8 U9 O8
          go_upto_region 5 with fail
          go_loopw [9, 38] (fun v9 i wr => ∃ (j : Nat) (cv0 : Value), j ≤ P ∧ i = .int .i64 (j : Int) ∧ RoAt w9 (w.heap.size + 1 + 1) j j (.slice A7 (n - 1) c7) k (fun i => (outL l z k p vs i).1) (fun i => (outL l z k p vs i).2) cv0 v9 wr) (fun _ i _ => P - (intOf i).toNat)
          case atStart => exact ⟨0, _, Nat.zero_le _, rfl, M9.out⟩
          case round =>
            obtain ⟨j, cv0, hj, rfl, hM⟩ := hrel
            obtain ⟨Ac0, cc0, rfl⟩ := row_form hM.own
            obtain ⟨Ab0, cb0, rfl⟩ := row_form hM.best
            have HM := Lib.hid hM
            clear hM
            by_cases hlt : j < P
            · have j1 : (j : Int) < (P : Int) := by omega
              have j2 : (0 : Int) ≤ (j : Int) := by omega
              obtain ⟨Ar', cr', e1, hrow⟩ := (R9.out.kept2 HM.out.kept (by omega)).form
              obtain ⟨gr, x, hA, hgr, hcr, hxr⟩ := hrow j (by rw [allL_length, HPE.out]; exact hlt)
              obtain rfl : Ar = Ar' := by injection e1
              subst hA
              have hx' : Own wr w8.heap.size x (tupL (l.eraseIdx p) j) := by
                have e : nthT (allL (l.eraseIdx p)) j = tupL (l.eraseIdx p) j := allL_get _ (by rw [HPE.out]; exact hlt)
                rw [e] at hxr
                exact hxr
              obtain ⟨Ax, cx, rfl, hXi⟩ := hx'.form
              rw [tupL_length, HEL.out] at hcr hx'
              have HXO := Lib.hid hx'
              have HX := Lib.hid hXi
              have X0 : Hid (wr.heap[w.heap.size]? = _) := Lib.hid ((HM.out.kept.block _ (by omega) (by omega) (by omega)).trans X9.out)
              have hk1 : wr.cell? ⟨w.heap.size, 1, none⟩ = some (.int .i64 k) := by rw [cell_of_row _ _ _ _ _ _ X0.out]; rfl
              have BR := Lib.hid (HM.out.kept.below BB.out (by omega) (by omega) (by omega))
              clear hx' hrow e1 hXi hxr
              rename World => wa
              obtain ⟨t, ht⟩ : ∃ t, tupL (l.eraseIdx p) j = t := ⟨_, rfl⟩
              have htl : t.length = n - 1 := by rw [← ht, tupL_length, HEL.out]
              obtain ⟨f, hf⟩ : ∃ f : Nat → Int, f = fun v => z (numL l (insL t p 0) + v * prodL (l.drop (p + 1))) := ⟨_, rfl⟩
              have HO : Hid (outL l z k p vs j = leastL f k vs) := Lib.hid (by unfold outL; rw [ht, ← hf])
              have HFV : Hid (∀ v, z (numL l (insL t p v)) = f v) := Lib.hid fun v => by rw [hf, insL_num (by rw [htl, HN.out]; omega) HP'.out]
              have HTI : Hid (InL (l.eraseIdx p) t) := Lib.hid (by rw [← ht]; exact tupL_in (fun n hn => ((erase_le (q := fun n => 1 ≤ n ∧ n ≤ 32) HLS.out p) n hn).1) j)
              rw [ht] at HX
              clear hf ht
              go_upto_region 9 with fail
              go_loopw [12, 13, 46] (fun v12 v13 i ww => ∃ q : Nat, q ≤ m ∧ i = .int .i64 (q : Int) ∧ v12 = .int .i64 (leastL f k (vs.take q)).1 ∧ v13 = .int .i64 (leastL f k (vs.take q)).2 ∧ Below wa.heap.size wa ww) (fun _ _ i _ => m - (intOf i).toNat)
              case atStart => exact ⟨0, Nat.zero_le _, rfl, rfl, rfl, Below.refl _ _⟩
              case round =>
                obtain ⟨q, hq, rfl, rfl, rfl, hb⟩ := hrel
                have HB := Lib.hid hb
                clear hb hk1 hcr
                by_cases hlq : q < m
                · obtain ⟨gv, ov, rfl, hcv⟩ := (HV.out.below (then_ BR.out HB.out) (Nat.le_refl _)).at_ (i := q) (by rw [HVS.out]; exact hlq)
                  obtain ⟨v, hv⟩ : ∃ v, nth vs q = v := ⟨_, rfl⟩
                  rw [hv] at hcv
                  have HVQ := Lib.hid hv
                  have q1 : (q : Int) < (m : Int) := by omega
                  have q2 : (0 : Int) ≤ (q : Int) := by omega
                  generalize hc0 : (leastL f k (vs.take q)).1 = c0
                  generalize hd0 : (leastL f k (vs.take q)).2 = d0
                  have HC0 := Lib.hid hc0
                  have HD0 := Lib.hid hd0
                  clear hc0 hd0 hv
                  go_upto_region 11 with fail
                  go_cut [16] from 50 to 61 (fun v16 wx => ∃ Af cf, v16 = .slice Af n cf ∧ Ints wx Af (insL t p v) ∧ Below wr.heap.size wr wx)
                  case first =>
                    have TL := Lib.hid htl
                    rcases own_addr HXO.out with ⟨rfl, hn1, rfl⟩ | ⟨gx, rfl, hcx⟩
                    · obtain rfl : n = 1 := by omega
                      obtain rfl : p = 0 := by omega
                      have ht0 : t = [] := List.eq_nil_of_length_eq_zero htl
                      subst ht0
                      refine wp_region_noPanic ?_
                      refine wp_region_held_drew (S := fun W => Below wr.heap.size wr W) (by kernel_rfl) ((Below.refl _ _).drew) (fun hHeld => ?_)
                      generalize wr.drew = wq0 at hHeld ⊢
                      refine wpAnyH_take (i := 1) (v := ?v601) rfl (by kernel_rfl) (by kernel_rfl) (by kernel_rfl) (fun _ _ _ h => h) (Or.inl ⟨by rfl, ?y601⟩) (by assumption) ?r601
                      case y601 => ((intro w hSw; (try dsimp only at hSw); go_simp); try with_reducible rfl)
                      try simp only [Act.put, List.getElem_toArray, List.getElem_cons_succ, List.getElem_cons_zero, List.setIfInBounds_toArray, List.set_cons_zero, List.set_cons_succ]
                      refine wpAnyH_take (i := 2) (v := ?v602) rfl (by kernel_rfl) (by kernel_rfl) (by kernel_rfl) (fun _ _ _ h => h) (Or.inl ⟨by rfl, ?y602⟩) (by assumption) ?r602
                      case y602 => ((intro w hSw; (try dsimp only at hSw); go_simp); try with_reducible rfl)
                      try simp only [Act.put, List.getElem_toArray, List.getElem_cons_succ, List.getElem_cons_zero, List.setIfInBounds_toArray, List.set_cons_zero, List.set_cons_succ]
                      refine wpAnyH_take (i := 3) (v := ?v603) rfl (by kernel_rfl) (by kernel_rfl) (by kernel_rfl) (fun _ _ _ h => h) (Or.inl ⟨by rfl, ?y603⟩) (by assumption) ?r603
                      case y603 => ((intro w hSw; (try dsimp only at hSw); go_simp); try with_reducible rfl)
                      try simp only [Act.put, List.getElem_toArray, List.getElem_cons_succ, List.getElem_cons_zero, List.setIfInBounds_toArray, List.set_cons_zero, List.set_cons_succ]
                      refine wpAnyH_take (i := 5) (v := ?v604) rfl (by kernel_rfl) (by kernel_rfl) (by kernel_rfl) (fun _ _ _ h => h) (Or.inl ⟨by rfl, ?y604⟩) (by assumption) ?r604
                      case y604 => ((intro w hSw; (try dsimp only at hSw); go_simp); try with_reducible rfl)
                      try simp only [Act.put, List.getElem_toArray, List.getElem_cons_succ, List.getElem_cons_zero, List.setIfInBounds_toArray, List.set_cons_zero, List.set_cons_succ]
                      refine wpAnyH_take (i := 8) (v := ?v605) rfl (by kernel_rfl) (by kernel_rfl) (by kernel_rfl) (fun _ _ _ h => h) (Or.inl ⟨by rfl, ?y605⟩) (by assumption) ?r605
                      case y605 => ((intro w hSw; (try dsimp only at hSw); go_simp); try with_reducible rfl)
                      try simp only [Act.put, List.getElem_toArray, List.getElem_cons_succ, List.getElem_cons_zero, List.setIfInBounds_toArray, List.set_cons_zero, List.set_cons_succ]
                      refine wpAnyH_take (i := 9) (v := ?v606) rfl (by kernel_rfl) (by kernel_rfl) (by kernel_rfl) (fun _ _ _ h => h) (Or.inl ⟨by rfl, ?y606⟩) (by assumption) ?r606
                      case y606 => ((intro w hSw; (try dsimp only at hSw); go_simp); try with_reducible rfl)
                      try simp only [Act.put, List.getElem_toArray, List.getElem_cons_succ, List.getElem_cons_zero, List.setIfInBounds_toArray, List.set_cons_zero, List.set_cons_succ]
                      refine wpAnyH_take (i := 10) (v := ?v607) rfl (by kernel_rfl) (by kernel_rfl) (by kernel_rfl) (fun _ _ _ h => h) (Or.inl ⟨by rfl, ?y607⟩) (by assumption) ?r607
                      case y607 => ((intro w hSw; (try dsimp only at hSw); go_simp); try with_reducible rfl)
                      try simp only [Act.put, List.getElem_toArray, List.getElem_cons_succ, List.getElem_cons_zero, List.setIfInBounds_toArray, List.set_cons_zero, List.set_cons_succ]
                      refine wpAnyH_ready (rs := [0, 6]) (by kernel_rfl) (by simp) ?_
                      refine AllReadyH.cons rfl (fun K hK => ?_) ?_
                      · go_simp
                        have na := new_val wq0 (.cells #[] 3)
                        have OW : Hid (Own (wq0.alloc (.cells #[] 3)) wr.heap.size (.slice (some ⟨wq0.heap.size, 0, none⟩) 0 0) []) := Lib.hid (World.ownsRow_made wq0 #[] 0 hHeld.size (by simp [maxLen]) rfl)
                        have G0 : Hid (wq0.heap.size < (wq0.alloc (.cells #[] 3)).heap.size) := Lib.hid (by simp)
                        refine hK.out _ _ (then_ hHeld na) (fun hHeld' => ?_)
                        clear hHeld
                        have hHeld := hHeld'
                        clear hHeld'
                        clear na
                        generalize wq0.alloc (.cells #[] 3) = wq1 at hHeld OW G0 ⊢
                        generalize wq0.heap.size = g0 at OW G0 ⊢
                        clear hK K
                        try simp only [Act.put, List.getElem_toArray, List.getElem_cons_succ, List.getElem_cons_zero, List.setIfInBounds_toArray, List.set_cons_zero, List.set_cons_succ]
                        refine wpAnyH_ready (rs := [4, 6]) (by kernel_rfl) (by simp) ?_
                        refine AllReadyH.cons rfl (fun K hK => ?_) ?_
                        · refine app_step rfl (.tmp 50) (.tmp 53) rfl wq1 wr.heap.size 0 0 _ [] [] none rfl (by rfl) (by rfl) OW.out (.inl rfl) (fun _ => rfl) hHeld.size (by simp) (by omega) ?_
                          intro vx wq2 hO hg
                          have hb' : Below wr.heap.size wq1 wq2 := ((Below.refl _ _).grown hg hHeld.size (fun g hg' => (World.ownsRow.lt OW.out g hg').1))
                          have OX : Hid (Own wq2 wr.heap.size vx ([])) := Lib.hid hO
                          refine hK.out _ _ (hHeld.trans hb') (fun hHeld' => ?_)
                          clear hHeld
                          have hHeld := hHeld'
                          clear hHeld'
                          clear hO hg hb' OW
                          clear hK K
                          try simp only [Act.put, List.getElem_toArray, List.getElem_cons_succ, List.getElem_cons_zero, List.setIfInBounds_toArray, List.set_cons_zero, List.set_cons_succ]
                          refine wpAnyH_ready (rs := [6]) (by kernel_rfl) (by simp) ?_
                          refine AllReadyH.cons rfl (fun K hK => ?_) ?_
                          · go_simp
                            have na := new_val wq2 (.cells #[.int .i64 (v : Int)] 3)
                            have LC : Hid (Ints (wq2.alloc (.cells #[.int .i64 (v : Int)] 3)) (some ⟨wq2.heap.size, 0, none⟩) [v]) := Lib.hid (lit_oneI wq2 v)
                            have LG : Hid (wq2.heap.size < (wq2.alloc (.cells #[.int .i64 (v : Int)] 3)).heap.size) := Lib.hid (by simp)
                            have OX := Lib.hid (OX.out.below na (Nat.le_refl _))
                            refine hK.out _ _ (then_ hHeld na) (fun hHeld' => ?_)
                            clear hHeld
                            have hHeld := hHeld'
                            clear hHeld'
                            clear na
                            generalize wq2.alloc (.cells #[.int .i64 (v : Int)] 3) = wq3 at hHeld LC LG OX ⊢
                            generalize wq2.heap.size = gl at LC LG ⊢
                            clear hK K
                            try simp only [Act.put, List.getElem_toArray, List.getElem_cons_succ, List.getElem_cons_zero, List.setIfInBounds_toArray, List.set_cons_zero, List.set_cons_succ]
                            refine wpAnyH_ready (rs := [7]) (by kernel_rfl) (by simp) ?_
                            refine AllReadyH.cons rfl (fun K hK => ?_) ?_
                            · refine app_step rfl (.tmp 54) (.tmp 56) rfl wq3 wr.heap.size 1 1 _ ([]) [v] (some ⟨gl, 0, none⟩) rfl (by rfl) (by rfl) OX.out LC.out (by intro h; cases h) hHeld.size (by simp) (by omega) ?_
                              intro vy wq4 hO hg
                              have hb' : Below wr.heap.size wq3 wq4 := ((Below.refl _ _).grown hg hHeld.size (fun g hg' => (World.ownsRow.lt OX.out g hg').1))
                              have OY : Hid (Own wq4 wr.heap.size vy ([] ++ [v])) := Lib.hid hO
                              refine hK.out _ _ (hHeld.trans hb') (fun hHeld' => ?_)
                              clear hHeld
                              have hHeld := hHeld'
                              clear hHeld'
                              clear hO hg hb' OX
                              clear hK K
                              try simp only [Act.put, List.getElem_toArray, List.getElem_cons_succ, List.getElem_cons_zero, List.setIfInBounds_toArray, List.set_cons_zero, List.set_cons_succ]
                              refine wpAnyH_ready (rs := [11]) (by kernel_rfl) (by simp) ?_
                              refine AllReadyH.cons rfl (fun K hK => ?_) ?_
                              · refine app_step rfl (.tmp 57) (.tmp 60) rfl wq4 wr.heap.size 0 0 _ ([] ++ [v]) [] none rfl (by rfl) (by rfl) OY.out (.inl rfl) (fun _ => rfl) hHeld.size (by simp) (by omega) ?_
                                intro vz wq5 hO hg
                                have hb' : Below wr.heap.size wq4 wq5 := ((Below.refl _ _).grown hg hHeld.size (fun g hg' => (World.ownsRow.lt OY.out g hg').1))
                                obtain ⟨AF, CF, rfl, hFI⟩ := Own.form hO
                                have FI : Hid (Ints wq5 AF _) := Lib.hid hFI
                                refine hK.out _ _ (hHeld.trans hb') (fun hHeld' => ?_)
                                clear hHeld
                                have hHeld := hHeld'
                                clear hHeld'
                                clear hO hg hb' OY hFI
                                clear hK K
                                try simp only [Act.put, List.getElem_toArray, List.getElem_cons_succ, List.getElem_cons_zero, List.setIfInBounds_toArray, List.set_cons_zero, List.set_cons_succ]
                                refine wpAnyH_take (i := 12) (v := ?v608) rfl (by kernel_rfl) (by kernel_rfl) (by kernel_rfl) (fun _ _ _ h => h) (Or.inl ⟨by rfl, ?y608⟩) (by assumption) ?r608
                                case y608 => ((intro w hSw; (try dsimp only at hSw); go_simp); try with_reducible rfl)
                                try simp only [Act.put, List.getElem_toArray, List.getElem_cons_succ, List.getElem_cons_zero, List.setIfInBounds_toArray, List.set_cons_zero, List.set_cons_succ]
                                refine wpAnyH_done (by kernel_rfl) ?_ _
                                refine NoPanic.normal ?_
                                go_wp2_with fail
                                go_meet
                                exact ⟨AF, CF, rfl, FI.out, hHeld⟩
                              exact AllReadyH.nil
                            exact AllReadyH.nil
                          exact AllReadyH.nil
                        refine AllReadyH.cons rfl (fun K hK => ?_) ?_
                        · go_simp
                          have na := new_val wq1 (.cells #[.int .i64 (v : Int)] 3)
                          have LC : Hid (Ints (wq1.alloc (.cells #[.int .i64 (v : Int)] 3)) (some ⟨wq1.heap.size, 0, none⟩) [v]) := Lib.hid (lit_oneI wq1 v)
                          have LG : Hid (wq1.heap.size < (wq1.alloc (.cells #[.int .i64 (v : Int)] 3)).heap.size) := Lib.hid (by simp)
                          have OW := Lib.hid (OW.out.below na (Nat.le_refl _))
                          have NE : Hid (g0 ≠ wq1.heap.size) := Lib.hid (by have := G0.out; omega)
                          refine hK.out _ _ (then_ hHeld na) (fun hHeld' => ?_)
                          clear hHeld
                          have hHeld := hHeld'
                          clear hHeld'
                          clear na
                          generalize wq1.alloc (.cells #[.int .i64 (v : Int)] 3) = wq2 at hHeld LC LG OW ⊢
                          generalize wq1.heap.size = gl at LC LG NE ⊢
                          clear hK K
                          try simp only [Act.put, List.getElem_toArray, List.getElem_cons_succ, List.getElem_cons_zero, List.setIfInBounds_toArray, List.set_cons_zero, List.set_cons_succ]
                          refine wpAnyH_ready (rs := [4]) (by kernel_rfl) (by simp) ?_
                          refine AllReadyH.cons rfl (fun K hK => ?_) ?_
                          · refine app_step rfl (.tmp 50) (.tmp 53) rfl wq2 wr.heap.size 0 0 _ [] [] none rfl (by rfl) (by rfl) OW.out (.inl rfl) (fun _ => rfl) hHeld.size (by simp) (by omega) ?_
                            intro vx wq3 hO hg
                            have hb' : Below wr.heap.size wq2 wq3 := ((Below.refl _ _).grown hg hHeld.size (fun g hg' => (World.ownsRow.lt OW.out g hg').1))
                            have OX : Hid (Own wq3 wr.heap.size vx ([])) := Lib.hid hO
                            have LC := Lib.hid (ints_far LC.out LG.out hg (fun e => NE.out (by injection e)))
                            refine hK.out _ _ (hHeld.trans hb') (fun hHeld' => ?_)
                            clear hHeld
                            have hHeld := hHeld'
                            clear hHeld'
                            clear hO hg hb' OW
                            clear hK K
                            try simp only [Act.put, List.getElem_toArray, List.getElem_cons_succ, List.getElem_cons_zero, List.setIfInBounds_toArray, List.set_cons_zero, List.set_cons_succ]
                            refine wpAnyH_ready (rs := [7]) (by kernel_rfl) (by simp) ?_
                            refine AllReadyH.cons rfl (fun K hK => ?_) ?_
                            · refine app_step rfl (.tmp 54) (.tmp 56) rfl wq3 wr.heap.size 1 1 _ ([]) [v] (some ⟨gl, 0, none⟩) rfl (by rfl) (by rfl) OX.out LC.out (by intro h; cases h) hHeld.size (by simp) (by omega) ?_
                              intro vy wq4 hO hg
                              have hb' : Below wr.heap.size wq3 wq4 := ((Below.refl _ _).grown hg hHeld.size (fun g hg' => (World.ownsRow.lt OX.out g hg').1))
                              have OY : Hid (Own wq4 wr.heap.size vy ([] ++ [v])) := Lib.hid hO
                              refine hK.out _ _ (hHeld.trans hb') (fun hHeld' => ?_)
                              clear hHeld
                              have hHeld := hHeld'
                              clear hHeld'
                              clear hO hg hb' OX
                              clear hK K
                              try simp only [Act.put, List.getElem_toArray, List.getElem_cons_succ, List.getElem_cons_zero, List.setIfInBounds_toArray, List.set_cons_zero, List.set_cons_succ]
                              refine wpAnyH_ready (rs := [11]) (by kernel_rfl) (by simp) ?_
                              refine AllReadyH.cons rfl (fun K hK => ?_) ?_
                              · refine app_step rfl (.tmp 57) (.tmp 60) rfl wq4 wr.heap.size 0 0 _ ([] ++ [v]) [] none rfl (by rfl) (by rfl) OY.out (.inl rfl) (fun _ => rfl) hHeld.size (by simp) (by omega) ?_
                                intro vz wq5 hO hg
                                have hb' : Below wr.heap.size wq4 wq5 := ((Below.refl _ _).grown hg hHeld.size (fun g hg' => (World.ownsRow.lt OY.out g hg').1))
                                obtain ⟨AF, CF, rfl, hFI⟩ := Own.form hO
                                have FI : Hid (Ints wq5 AF _) := Lib.hid hFI
                                refine hK.out _ _ (hHeld.trans hb') (fun hHeld' => ?_)
                                clear hHeld
                                have hHeld := hHeld'
                                clear hHeld'
                                clear hO hg hb' OY hFI
                                clear hK K
                                try simp only [Act.put, List.getElem_toArray, List.getElem_cons_succ, List.getElem_cons_zero, List.setIfInBounds_toArray, List.set_cons_zero, List.set_cons_succ]
                                refine wpAnyH_take (i := 12) (v := ?v609) rfl (by kernel_rfl) (by kernel_rfl) (by kernel_rfl) (fun _ _ _ h => h) (Or.inl ⟨by rfl, ?y609⟩) (by assumption) ?r609
                                case y609 => ((intro w hSw; (try dsimp only at hSw); go_simp); try with_reducible rfl)
                                try simp only [Act.put, List.getElem_toArray, List.getElem_cons_succ, List.getElem_cons_zero, List.setIfInBounds_toArray, List.set_cons_zero, List.set_cons_succ]
                                refine wpAnyH_done (by kernel_rfl) ?_ _
                                refine NoPanic.normal ?_
                                go_wp2_with fail
                                go_meet
                                exact ⟨AF, CF, rfl, FI.out, hHeld⟩
                              exact AllReadyH.nil
                            exact AllReadyH.nil
                          exact AllReadyH.nil
                        exact AllReadyH.nil
                      refine AllReadyH.cons rfl (fun K hK => ?_) ?_
                      · go_simp
                        have na := new_val wq0 (.cells #[.int .i64 (v : Int)] 3)
                        have LC : Hid (Ints (wq0.alloc (.cells #[.int .i64 (v : Int)] 3)) (some ⟨wq0.heap.size, 0, none⟩) [v]) := Lib.hid (lit_oneI wq0 v)
                        have LG : Hid (wq0.heap.size < (wq0.alloc (.cells #[.int .i64 (v : Int)] 3)).heap.size) := Lib.hid (by simp)
                        refine hK.out _ _ (then_ hHeld na) (fun hHeld' => ?_)
                        clear hHeld
                        have hHeld := hHeld'
                        clear hHeld'
                        clear na
                        generalize wq0.alloc (.cells #[.int .i64 (v : Int)] 3) = wq1 at hHeld LC LG ⊢
                        generalize wq0.heap.size = gl at LC LG ⊢
                        clear hK K
                        try simp only [Act.put, List.getElem_toArray, List.getElem_cons_succ, List.getElem_cons_zero, List.setIfInBounds_toArray, List.set_cons_zero, List.set_cons_succ]
                        refine wpAnyH_ready (rs := [0]) (by kernel_rfl) (by simp) ?_
                        refine AllReadyH.cons rfl (fun K hK => ?_) ?_
                        · go_simp
                          have na := new_val wq1 (.cells #[] 3)
                          have OW : Hid (Own (wq1.alloc (.cells #[] 3)) wr.heap.size (.slice (some ⟨wq1.heap.size, 0, none⟩) 0 0) []) := Lib.hid (World.ownsRow_made wq1 #[] 0 hHeld.size (by simp [maxLen]) rfl)
                          have G0 : Hid (wq1.heap.size < (wq1.alloc (.cells #[] 3)).heap.size) := Lib.hid (by simp)
                          have LC := Lib.hid (LC.out.below na (Nat.le_refl _))
                          have NE : Hid (wq1.heap.size ≠ gl) := Lib.hid (by have := LG.out; omega)
                          have LG : Hid (gl < (wq1.alloc (.cells #[] 3)).heap.size) := Lib.hid (Nat.lt_of_lt_of_le LG.out na.size)
                          refine hK.out _ _ (then_ hHeld na) (fun hHeld' => ?_)
                          clear hHeld
                          have hHeld := hHeld'
                          clear hHeld'
                          clear na
                          generalize wq1.alloc (.cells #[] 3) = wq2 at hHeld OW G0 LC LG ⊢
                          generalize wq1.heap.size = g0 at OW G0 NE ⊢
                          clear hK K
                          try simp only [Act.put, List.getElem_toArray, List.getElem_cons_succ, List.getElem_cons_zero, List.setIfInBounds_toArray, List.set_cons_zero, List.set_cons_succ]
                          refine wpAnyH_ready (rs := [4]) (by kernel_rfl) (by simp) ?_
                          refine AllReadyH.cons rfl (fun K hK => ?_) ?_
                          · refine app_step rfl (.tmp 50) (.tmp 53) rfl wq2 wr.heap.size 0 0 _ [] [] none rfl (by rfl) (by rfl) OW.out (.inl rfl) (fun _ => rfl) hHeld.size (by simp) (by omega) ?_
                            intro vx wq3 hO hg
                            have hb' : Below wr.heap.size wq2 wq3 := ((Below.refl _ _).grown hg hHeld.size (fun g hg' => (World.ownsRow.lt OW.out g hg').1))
                            have OX : Hid (Own wq3 wr.heap.size vx ([])) := Lib.hid hO
                            have LC := Lib.hid (ints_far LC.out LG.out hg (fun e => NE.out (by injection e)))
                            refine hK.out _ _ (hHeld.trans hb') (fun hHeld' => ?_)
                            clear hHeld
                            have hHeld := hHeld'
                            clear hHeld'
                            clear hO hg hb' OW
                            clear hK K
                            try simp only [Act.put, List.getElem_toArray, List.getElem_cons_succ, List.getElem_cons_zero, List.setIfInBounds_toArray, List.set_cons_zero, List.set_cons_succ]
                            refine wpAnyH_ready (rs := [7]) (by kernel_rfl) (by simp) ?_
                            refine AllReadyH.cons rfl (fun K hK => ?_) ?_
                            · refine app_step rfl (.tmp 54) (.tmp 56) rfl wq3 wr.heap.size 1 1 _ ([]) [v] (some ⟨gl, 0, none⟩) rfl (by rfl) (by rfl) OX.out LC.out (by intro h; cases h) hHeld.size (by simp) (by omega) ?_
                              intro vy wq4 hO hg
                              have hb' : Below wr.heap.size wq3 wq4 := ((Below.refl _ _).grown hg hHeld.size (fun g hg' => (World.ownsRow.lt OX.out g hg').1))
                              have OY : Hid (Own wq4 wr.heap.size vy ([] ++ [v])) := Lib.hid hO
                              refine hK.out _ _ (hHeld.trans hb') (fun hHeld' => ?_)
                              clear hHeld
                              have hHeld := hHeld'
                              clear hHeld'
                              clear hO hg hb' OX
                              clear hK K
                              try simp only [Act.put, List.getElem_toArray, List.getElem_cons_succ, List.getElem_cons_zero, List.setIfInBounds_toArray, List.set_cons_zero, List.set_cons_succ]
                              refine wpAnyH_ready (rs := [11]) (by kernel_rfl) (by simp) ?_
                              refine AllReadyH.cons rfl (fun K hK => ?_) ?_
                              · refine app_step rfl (.tmp 57) (.tmp 60) rfl wq4 wr.heap.size 0 0 _ ([] ++ [v]) [] none rfl (by rfl) (by rfl) OY.out (.inl rfl) (fun _ => rfl) hHeld.size (by simp) (by omega) ?_
                                intro vz wq5 hO hg
                                have hb' : Below wr.heap.size wq4 wq5 := ((Below.refl _ _).grown hg hHeld.size (fun g hg' => (World.ownsRow.lt OY.out g hg').1))
                                obtain ⟨AF, CF, rfl, hFI⟩ := Own.form hO
                                have FI : Hid (Ints wq5 AF _) := Lib.hid hFI
                                refine hK.out _ _ (hHeld.trans hb') (fun hHeld' => ?_)
                                clear hHeld
                                have hHeld := hHeld'
                                clear hHeld'
                                clear hO hg hb' OY hFI
                                clear hK K
                                try simp only [Act.put, List.getElem_toArray, List.getElem_cons_succ, List.getElem_cons_zero, List.setIfInBounds_toArray, List.set_cons_zero, List.set_cons_succ]
                                refine wpAnyH_take (i := 12) (v := ?v610) rfl (by kernel_rfl) (by kernel_rfl) (by kernel_rfl) (fun _ _ _ h => h) (Or.inl ⟨by rfl, ?y610⟩) (by assumption) ?r610
                                case y610 => ((intro w hSw; (try dsimp only at hSw); go_simp); try with_reducible rfl)
                                try simp only [Act.put, List.getElem_toArray, List.getElem_cons_succ, List.getElem_cons_zero, List.setIfInBounds_toArray, List.set_cons_zero, List.set_cons_succ]
                                refine wpAnyH_done (by kernel_rfl) ?_ _
                                refine NoPanic.normal ?_
                                go_wp2_with fail
                                go_meet
                                exact ⟨AF, CF, rfl, FI.out, hHeld⟩
                              exact AllReadyH.nil
                            exact AllReadyH.nil
                          exact AllReadyH.nil
                        exact AllReadyH.nil
                      exact AllReadyH.nil
                    · have p1 : (0 : Int) ≤ (p : Int) := by omega
                      have p2 : (p : Int) ≤ (cx : Int) := by omega
                      have p3 : (p : Int) ≤ (((n - 1 : Nat)) : Int) := by omega
                      have HT : Hid (Ints wr (some ⟨gx, 0, none⟩) t) := Lib.hid (HX.out.below HB.out (Nat.le_refl _))
                      have HT1 := Lib.hid (ints_take HT.out p)
                      have HT2 : Hid (Ints wr (if cx = p then some ⟨gx, 0, none⟩ else some ⟨gx, p, none⟩) (t.drop p)) := Lib.hid (by
                        split
                        · exact .inl (by simp; omega)
                        · have := ints_drop HT.out p; rwa [Nat.zero_add] at this)
                      refine wp_region_noPanic ?_
                      refine wp_region_held_drew (S := fun W => Below wr.heap.size wr W) (by kernel_rfl) ((Below.refl _ _).drew) (fun hHeld => ?_)
                      generalize wr.drew = wq0 at hHeld ⊢
                      refine wpAnyH_take (i := 1) (v := ?v701) rfl (by kernel_rfl) (by kernel_rfl) (by kernel_rfl) (fun _ _ _ h => h) (Or.inl ⟨by rfl, ?y701⟩) (by assumption) ?r701
                      case y701 => ((intro w hSw; (try dsimp only at hSw); go_simp); try with_reducible rfl)
                      try simp only [Act.put, List.getElem_toArray, List.getElem_cons_succ, List.getElem_cons_zero, List.setIfInBounds_toArray, List.set_cons_zero, List.set_cons_succ]
                      refine wpAnyH_take (i := 2) (v := ?v702) rfl (by kernel_rfl) (by kernel_rfl) (by kernel_rfl) (fun _ _ _ h => h) (Or.inl ⟨by rfl, ?y702⟩) (by assumption) ?r702
                      case y702 => ((intro w hSw; (try dsimp only at hSw); go_simp); try with_reducible rfl)
                      try simp only [Act.put, List.getElem_toArray, List.getElem_cons_succ, List.getElem_cons_zero, List.setIfInBounds_toArray, List.set_cons_zero, List.set_cons_succ]
                      refine wpAnyH_take (i := 3) (v := ?v703) rfl (by kernel_rfl) (by kernel_rfl) (by kernel_rfl) (fun _ _ _ h => h) (Or.inl ⟨by rfl, ?y703⟩) (by assumption) ?r703
                      case y703 => ((intro w hSw; (try dsimp only at hSw); go_simp); try with_reducible rfl)
                      try simp only [Act.put, List.getElem_toArray, List.getElem_cons_succ, List.getElem_cons_zero, List.setIfInBounds_toArray, List.set_cons_zero, List.set_cons_succ]
                      refine wpAnyH_take (i := 5) (v := ?v704) rfl (by kernel_rfl) (by kernel_rfl) (by kernel_rfl) (fun _ _ _ h => h) (Or.inl ⟨by rfl, ?y704⟩) (by assumption) ?r704
                      case y704 => ((intro w hSw; (try dsimp only at hSw); go_simp); try with_reducible rfl)
                      try simp only [Act.put, List.getElem_toArray, List.getElem_cons_succ, List.getElem_cons_zero, List.setIfInBounds_toArray, List.set_cons_zero, List.set_cons_succ]
                      refine wpAnyH_take (i := 8) (v := ?v705) rfl (by kernel_rfl) (by kernel_rfl) (by kernel_rfl) (fun _ _ _ h => h) (Or.inl ⟨by rfl, ?y705⟩) (by assumption) ?r705
                      case y705 => ((intro w hSw; (try dsimp only at hSw); go_simp); try with_reducible rfl)
                      try simp only [Act.put, List.getElem_toArray, List.getElem_cons_succ, List.getElem_cons_zero, List.setIfInBounds_toArray, List.set_cons_zero, List.set_cons_succ]
                      refine wpAnyH_take (i := 9) (v := ?v706) rfl (by kernel_rfl) (by kernel_rfl) (by kernel_rfl) (fun _ _ _ h => h) (Or.inl ⟨by rfl, ?y706⟩) (by assumption) ?r706
                      case y706 => ((intro w hSw; (try dsimp only at hSw); go_simp); try with_reducible rfl)
                      try simp only [Act.put, List.getElem_toArray, List.getElem_cons_succ, List.getElem_cons_zero, List.setIfInBounds_toArray, List.set_cons_zero, List.set_cons_succ]
                      refine wpAnyH_take (i := 10) (v := ?v707) rfl (by kernel_rfl) (by kernel_rfl) (by kernel_rfl) (fun _ _ _ h => h) (Or.inl ⟨by rfl, ?y707⟩) (by assumption) ?r707
                      case y707 => ((intro w hSw; (try dsimp only at hSw); go_simp); try with_reducible rfl)
                      try simp only [Act.put, List.getElem_toArray, List.getElem_cons_succ, List.getElem_cons_zero, List.setIfInBounds_toArray, List.set_cons_zero, List.set_cons_succ]
                      refine wpAnyH_ready (rs := [0, 6]) (by kernel_rfl) (by simp) ?_
                      refine AllReadyH.cons rfl (fun K hK => ?_) ?_
                      · go_simp
                        have na := new_val wq0 (.cells #[] 3)
                        have OW : Hid (Own (wq0.alloc (.cells #[] 3)) wr.heap.size (.slice (some ⟨wq0.heap.size, 0, none⟩) 0 0) []) := Lib.hid (World.ownsRow_made wq0 #[] 0 hHeld.size (by simp [maxLen]) rfl)
                        have G0 : Hid (wq0.heap.size < (wq0.alloc (.cells #[] 3)).heap.size) := Lib.hid (by simp)
                        refine hK.out _ _ (then_ hHeld na) (fun hHeld' => ?_)
                        clear hHeld
                        have hHeld := hHeld'
                        clear hHeld'
                        clear na
                        generalize wq0.alloc (.cells #[] 3) = wq1 at hHeld OW G0 ⊢
                        generalize wq0.heap.size = g0 at OW G0 ⊢
                        clear hK K
                        try simp only [Act.put, List.getElem_toArray, List.getElem_cons_succ, List.getElem_cons_zero, List.setIfInBounds_toArray, List.set_cons_zero, List.set_cons_succ]
                        refine wpAnyH_ready (rs := [4, 6]) (by kernel_rfl) (by simp) ?_
                        refine AllReadyH.cons rfl (fun K hK => ?_) ?_
                        · refine app_step rfl (.tmp 50) (.tmp 53) rfl wq1 wr.heap.size p cx _ [] (t.take p) (some ⟨gx, 0, none⟩) (by have := TL.out; simp; omega) (by rfl) (by rfl) OW.out (HT1.out.below hHeld (Nat.le_refl _)) (by intro h; cases h) hHeld.size (by simp) (by omega) ?_
                          intro vx wq2 hO hg
                          have hb' : Below wr.heap.size wq1 wq2 := ((Below.refl _ _).grown hg hHeld.size (fun g hg' => (World.ownsRow.lt OW.out g hg').1))
                          have OX : Hid (Own wq2 wr.heap.size vx (t.take p)) := Lib.hid hO
                          refine hK.out _ _ (hHeld.trans hb') (fun hHeld' => ?_)
                          clear hHeld
                          have hHeld := hHeld'
                          clear hHeld'
                          clear hO hg hb' OW
                          clear hK K
                          try simp only [Act.put, List.getElem_toArray, List.getElem_cons_succ, List.getElem_cons_zero, List.setIfInBounds_toArray, List.set_cons_zero, List.set_cons_succ]
                          refine wpAnyH_ready (rs := [6]) (by kernel_rfl) (by simp) ?_
                          refine AllReadyH.cons rfl (fun K hK => ?_) ?_
                          · go_simp
                            have na := new_val wq2 (.cells #[.int .i64 (v : Int)] 3)
                            have LC : Hid (Ints (wq2.alloc (.cells #[.int .i64 (v : Int)] 3)) (some ⟨wq2.heap.size, 0, none⟩) [v]) := Lib.hid (lit_oneI wq2 v)
                            have LG : Hid (wq2.heap.size < (wq2.alloc (.cells #[.int .i64 (v : Int)] 3)).heap.size) := Lib.hid (by simp)
                            have OX := Lib.hid (OX.out.below na (Nat.le_refl _))
                            refine hK.out _ _ (then_ hHeld na) (fun hHeld' => ?_)
                            clear hHeld
                            have hHeld := hHeld'
                            clear hHeld'
                            clear na
                            generalize wq2.alloc (.cells #[.int .i64 (v : Int)] 3) = wq3 at hHeld LC LG OX ⊢
                            generalize wq2.heap.size = gl at LC LG ⊢
                            clear hK K
                            try simp only [Act.put, List.getElem_toArray, List.getElem_cons_succ, List.getElem_cons_zero, List.setIfInBounds_toArray, List.set_cons_zero, List.set_cons_succ]
                            refine wpAnyH_ready (rs := [7]) (by kernel_rfl) (by simp) ?_
                            refine AllReadyH.cons rfl (fun K hK => ?_) ?_
                            · refine app_step rfl (.tmp 54) (.tmp 56) rfl wq3 wr.heap.size 1 1 _ (t.take p) [v] (some ⟨gl, 0, none⟩) rfl (by rfl) (by rfl) OX.out LC.out (by intro h; cases h) hHeld.size (by have := List.length_take_le p t; omega) (by omega) ?_
                              intro vy wq4 hO hg
                              have hb' : Below wr.heap.size wq3 wq4 := ((Below.refl _ _).grown hg hHeld.size (fun g hg' => (World.ownsRow.lt OX.out g hg').1))
                              have OY : Hid (Own wq4 wr.heap.size vy (t.take p ++ [v])) := Lib.hid hO
                              refine hK.out _ _ (hHeld.trans hb') (fun hHeld' => ?_)
                              clear hHeld
                              have hHeld := hHeld'
                              clear hHeld'
                              clear hO hg hb' OX
                              clear hK K
                              try simp only [Act.put, List.getElem_toArray, List.getElem_cons_succ, List.getElem_cons_zero, List.setIfInBounds_toArray, List.set_cons_zero, List.set_cons_succ]
                              refine wpAnyH_ready (rs := [11]) (by kernel_rfl) (by simp) ?_
                              refine AllReadyH.cons rfl (fun K hK => ?_) ?_
                              · refine app_step rfl (.tmp 57) (.tmp 60) rfl wq4 wr.heap.size (n - 1 - p) (cx - p) _ (t.take p ++ [v]) (t.drop p) (if cx = p then some ⟨gx, 0, none⟩ else some ⟨gx, p, none⟩) (by have := TL.out; simp; omega) (by rfl) (by rfl) OY.out (HT2.out.below hHeld (Nat.le_refl _)) (by intro h; split at h <;> cases h) hHeld.size (by have := List.length_take_le p t; simp; omega) (by omega) ?_
                                intro vz wq5 hO hg
                                have hb' : Below wr.heap.size wq4 wq5 := ((Below.refl _ _).grown hg hHeld.size (fun g hg' => (World.ownsRow.lt OY.out g hg').1))
                                obtain ⟨AF, CF, rfl, hFI⟩ := Own.form hO
                                have FI : Hid (Ints wq5 AF _) := Lib.hid hFI
                                refine hK.out _ _ (hHeld.trans hb') (fun hHeld' => ?_)
                                clear hHeld
                                have hHeld := hHeld'
                                clear hHeld'
                                clear hO hg hb' OY hFI
                                clear hK K
                                try simp only [Act.put, List.getElem_toArray, List.getElem_cons_succ, List.getElem_cons_zero, List.setIfInBounds_toArray, List.set_cons_zero, List.set_cons_succ]
                                refine wpAnyH_take (i := 12) (v := ?v708) rfl (by kernel_rfl) (by kernel_rfl) (by kernel_rfl) (fun _ _ _ h => h) (Or.inl ⟨by rfl, ?y708⟩) (by assumption) ?r708
                                case y708 => ((intro w hSw; (try dsimp only at hSw); go_simp); try with_reducible rfl)
                                try simp only [Act.put, List.getElem_toArray, List.getElem_cons_succ, List.getElem_cons_zero, List.setIfInBounds_toArray, List.set_cons_zero, List.set_cons_succ]
                                refine wpAnyH_done (by kernel_rfl) ?_ _
                                refine NoPanic.normal ?_
                                generalize (if cx = p then (some ⟨gx, 0, none⟩ : Option Addr) else some ⟨gx, p, none⟩) = AX2
                                go_wp2_with fail
                                go_meet
                                exact ⟨AF, CF, by congr 1; have := TL.out; first | omega | (simp; omega), by have h := FI.out; rw [List.append_assoc] at h; exact h, hHeld⟩
                              exact AllReadyH.nil
                            exact AllReadyH.nil
                          exact AllReadyH.nil
                        refine AllReadyH.cons rfl (fun K hK => ?_) ?_
                        · go_simp
                          have na := new_val wq1 (.cells #[.int .i64 (v : Int)] 3)
                          have LC : Hid (Ints (wq1.alloc (.cells #[.int .i64 (v : Int)] 3)) (some ⟨wq1.heap.size, 0, none⟩) [v]) := Lib.hid (lit_oneI wq1 v)
                          have LG : Hid (wq1.heap.size < (wq1.alloc (.cells #[.int .i64 (v : Int)] 3)).heap.size) := Lib.hid (by simp)
                          have OW := Lib.hid (OW.out.below na (Nat.le_refl _))
                          have NE : Hid (g0 ≠ wq1.heap.size) := Lib.hid (by have := G0.out; omega)
                          refine hK.out _ _ (then_ hHeld na) (fun hHeld' => ?_)
                          clear hHeld
                          have hHeld := hHeld'
                          clear hHeld'
                          clear na
                          generalize wq1.alloc (.cells #[.int .i64 (v : Int)] 3) = wq2 at hHeld LC LG OW ⊢
                          generalize wq1.heap.size = gl at LC LG NE ⊢
                          clear hK K
                          try simp only [Act.put, List.getElem_toArray, List.getElem_cons_succ, List.getElem_cons_zero, List.setIfInBounds_toArray, List.set_cons_zero, List.set_cons_succ]
                          refine wpAnyH_ready (rs := [4]) (by kernel_rfl) (by simp) ?_
                          refine AllReadyH.cons rfl (fun K hK => ?_) ?_
                          · refine app_step rfl (.tmp 50) (.tmp 53) rfl wq2 wr.heap.size p cx _ [] (t.take p) (some ⟨gx, 0, none⟩) (by have := TL.out; simp; omega) (by rfl) (by rfl) OW.out (HT1.out.below hHeld (Nat.le_refl _)) (by intro h; cases h) hHeld.size (by simp) (by omega) ?_
                            intro vx wq3 hO hg
                            have hb' : Below wr.heap.size wq2 wq3 := ((Below.refl _ _).grown hg hHeld.size (fun g hg' => (World.ownsRow.lt OW.out g hg').1))
                            have OX : Hid (Own wq3 wr.heap.size vx (t.take p)) := Lib.hid hO
                            have LC := Lib.hid (ints_far LC.out LG.out hg (fun e => NE.out (by injection e)))
                            refine hK.out _ _ (hHeld.trans hb') (fun hHeld' => ?_)
                            clear hHeld
                            have hHeld := hHeld'
                            clear hHeld'
                            clear hO hg hb' OW
                            clear hK K
                            try simp only [Act.put, List.getElem_toArray, List.getElem_cons_succ, List.getElem_cons_zero, List.setIfInBounds_toArray, List.set_cons_zero, List.set_cons_succ]
                            refine wpAnyH_ready (rs := [7]) (by kernel_rfl) (by simp) ?_
                            refine AllReadyH.cons rfl (fun K hK => ?_) ?_
                            · refine app_step rfl (.tmp 54) (.tmp 56) rfl wq3 wr.heap.size 1 1 _ (t.take p) [v] (some ⟨gl, 0, none⟩) rfl (by rfl) (by rfl) OX.out LC.out (by intro h; cases h) hHeld.size (by have := List.length_take_le p t; omega) (by omega) ?_
                              intro vy wq4 hO hg
                              have hb' : Below wr.heap.size wq3 wq4 := ((Below.refl _ _).grown hg hHeld.size (fun g hg' => (World.ownsRow.lt OX.out g hg').1))
                              have OY : Hid (Own wq4 wr.heap.size vy (t.take p ++ [v])) := Lib.hid hO
                              refine hK.out _ _ (hHeld.trans hb') (fun hHeld' => ?_)
                              clear hHeld
                              have hHeld := hHeld'
                              clear hHeld'
                              clear hO hg hb' OX
                              clear hK K
                              try simp only [Act.put, List.getElem_toArray, List.getElem_cons_succ, List.getElem_cons_zero, List.setIfInBounds_toArray, List.set_cons_zero, List.set_cons_succ]
                              refine wpAnyH_ready (rs := [11]) (by kernel_rfl) (by simp) ?_
                              refine AllReadyH.cons rfl (fun K hK => ?_) ?_
                              · refine app_step rfl (.tmp 57) (.tmp 60) rfl wq4 wr.heap.size (n - 1 - p) (cx - p) _ (t.take p ++ [v]) (t.drop p) (if cx = p then some ⟨gx, 0, none⟩ else some ⟨gx, p, none⟩) (by have := TL.out; simp; omega) (by rfl) (by rfl) OY.out (HT2.out.below hHeld (Nat.le_refl _)) (by intro h; split at h <;> cases h) hHeld.size (by have := List.length_take_le p t; simp; omega) (by omega) ?_
                                intro vz wq5 hO hg
                                have hb' : Below wr.heap.size wq4 wq5 := ((Below.refl _ _).grown hg hHeld.size (fun g hg' => (World.ownsRow.lt OY.out g hg').1))
                                obtain ⟨AF, CF, rfl, hFI⟩ := Own.form hO
                                have FI : Hid (Ints wq5 AF _) := Lib.hid hFI
                                refine hK.out _ _ (hHeld.trans hb') (fun hHeld' => ?_)
                                clear hHeld
                                have hHeld := hHeld'
                                clear hHeld'
                                clear hO hg hb' OY hFI
                                clear hK K
                                try simp only [Act.put, List.getElem_toArray, List.getElem_cons_succ, List.getElem_cons_zero, List.setIfInBounds_toArray, List.set_cons_zero, List.set_cons_succ]
                                refine wpAnyH_take (i := 12) (v := ?v709) rfl (by kernel_rfl) (by kernel_rfl) (by kernel_rfl) (fun _ _ _ h => h) (Or.inl ⟨by rfl, ?y709⟩) (by assumption) ?r709
                                case y709 => ((intro w hSw; (try dsimp only at hSw); go_simp); try with_reducible rfl)
                                try simp only [Act.put, List.getElem_toArray, List.getElem_cons_succ, List.getElem_cons_zero, List.setIfInBounds_toArray, List.set_cons_zero, List.set_cons_succ]
                                refine wpAnyH_done (by kernel_rfl) ?_ _
                                refine NoPanic.normal ?_
                                generalize (if cx = p then (some ⟨gx, 0, none⟩ : Option Addr) else some ⟨gx, p, none⟩) = AX2
                                go_wp2_with fail
                                go_meet
                                exact ⟨AF, CF, by congr 1; have := TL.out; first | omega | (simp; omega), by have h := FI.out; rw [List.append_assoc] at h; exact h, hHeld⟩
                              exact AllReadyH.nil
                            exact AllReadyH.nil
                          exact AllReadyH.nil
                        exact AllReadyH.nil
                      refine AllReadyH.cons rfl (fun K hK => ?_) ?_
                      · go_simp
                        have na := new_val wq0 (.cells #[.int .i64 (v : Int)] 3)
                        have LC : Hid (Ints (wq0.alloc (.cells #[.int .i64 (v : Int)] 3)) (some ⟨wq0.heap.size, 0, none⟩) [v]) := Lib.hid (lit_oneI wq0 v)
                        have LG : Hid (wq0.heap.size < (wq0.alloc (.cells #[.int .i64 (v : Int)] 3)).heap.size) := Lib.hid (by simp)
                        refine hK.out _ _ (then_ hHeld na) (fun hHeld' => ?_)
                        clear hHeld
                        have hHeld := hHeld'
                        clear hHeld'
                        clear na
                        generalize wq0.alloc (.cells #[.int .i64 (v : Int)] 3) = wq1 at hHeld LC LG ⊢
                        generalize wq0.heap.size = gl at LC LG ⊢
                        clear hK K
                        try simp only [Act.put, List.getElem_toArray, List.getElem_cons_succ, List.getElem_cons_zero, List.setIfInBounds_toArray, List.set_cons_zero, List.set_cons_succ]
                        refine wpAnyH_ready (rs := [0]) (by kernel_rfl) (by simp) ?_
                        refine AllReadyH.cons rfl (fun K hK => ?_) ?_
                        · go_simp
                          have na := new_val wq1 (.cells #[] 3)
                          have OW : Hid (Own (wq1.alloc (.cells #[] 3)) wr.heap.size (.slice (some ⟨wq1.heap.size, 0, none⟩) 0 0) []) := Lib.hid (World.ownsRow_made wq1 #[] 0 hHeld.size (by simp [maxLen]) rfl)
                          have G0 : Hid (wq1.heap.size < (wq1.alloc (.cells #[] 3)).heap.size) := Lib.hid (by simp)
                          have LC := Lib.hid (LC.out.below na (Nat.le_refl _))
                          have NE : Hid (wq1.heap.size ≠ gl) := Lib.hid (by have := LG.out; omega)
                          have LG : Hid (gl < (wq1.alloc (.cells #[] 3)).heap.size) := Lib.hid (Nat.lt_of_lt_of_le LG.out na.size)
                          refine hK.out _ _ (then_ hHeld na) (fun hHeld' => ?_)
                          clear hHeld
                          have hHeld := hHeld'
                          clear hHeld'
                          clear na
                          generalize wq1.alloc (.cells #[] 3) = wq2 at hHeld OW G0 LC LG ⊢
                          generalize wq1.heap.size = g0 at OW G0 NE ⊢
                          clear hK K
                          try simp only [Act.put, List.getElem_toArray, List.getElem_cons_succ, List.getElem_cons_zero, List.setIfInBounds_toArray, List.set_cons_zero, List.set_cons_succ]
                          refine wpAnyH_ready (rs := [4]) (by kernel_rfl) (by simp) ?_
                          refine AllReadyH.cons rfl (fun K hK => ?_) ?_
                          · refine app_step rfl (.tmp 50) (.tmp 53) rfl wq2 wr.heap.size p cx _ [] (t.take p) (some ⟨gx, 0, none⟩) (by have := TL.out; simp; omega) (by rfl) (by rfl) OW.out (HT1.out.below hHeld (Nat.le_refl _)) (by intro h; cases h) hHeld.size (by simp) (by omega) ?_
                            intro vx wq3 hO hg
                            have hb' : Below wr.heap.size wq2 wq3 := ((Below.refl _ _).grown hg hHeld.size (fun g hg' => (World.ownsRow.lt OW.out g hg').1))
                            have OX : Hid (Own wq3 wr.heap.size vx (t.take p)) := Lib.hid hO
                            have LC := Lib.hid (ints_far LC.out LG.out hg (fun e => NE.out (by injection e)))
                            refine hK.out _ _ (hHeld.trans hb') (fun hHeld' => ?_)
                            clear hHeld
                            have hHeld := hHeld'
                            clear hHeld'
                            clear hO hg hb' OW
                            clear hK K
                            try simp only [Act.put, List.getElem_toArray, List.getElem_cons_succ, List.getElem_cons_zero, List.setIfInBounds_toArray, List.set_cons_zero, List.set_cons_succ]
                            refine wpAnyH_ready (rs := [7]) (by kernel_rfl) (by simp) ?_
                            refine AllReadyH.cons rfl (fun K hK => ?_) ?_
                            · refine app_step rfl (.tmp 54) (.tmp 56) rfl wq3 wr.heap.size 1 1 _ (t.take p) [v] (some ⟨gl, 0, none⟩) rfl (by rfl) (by rfl) OX.out LC.out (by intro h; cases h) hHeld.size (by have := List.length_take_le p t; omega) (by omega) ?_
                              intro vy wq4 hO hg
                              have hb' : Below wr.heap.size wq3 wq4 := ((Below.refl _ _).grown hg hHeld.size (fun g hg' => (World.ownsRow.lt OX.out g hg').1))
                              have OY : Hid (Own wq4 wr.heap.size vy (t.take p ++ [v])) := Lib.hid hO
                              refine hK.out _ _ (hHeld.trans hb') (fun hHeld' => ?_)
                              clear hHeld
                              have hHeld := hHeld'
                              clear hHeld'
                              clear hO hg hb' OX
                              clear hK K
                              try simp only [Act.put, List.getElem_toArray, List.getElem_cons_succ, List.getElem_cons_zero, List.setIfInBounds_toArray, List.set_cons_zero, List.set_cons_succ]
                              refine wpAnyH_ready (rs := [11]) (by kernel_rfl) (by simp) ?_
                              refine AllReadyH.cons rfl (fun K hK => ?_) ?_
                              · refine app_step rfl (.tmp 57) (.tmp 60) rfl wq4 wr.heap.size (n - 1 - p) (cx - p) _ (t.take p ++ [v]) (t.drop p) (if cx = p then some ⟨gx, 0, none⟩ else some ⟨gx, p, none⟩) (by have := TL.out; simp; omega) (by rfl) (by rfl) OY.out (HT2.out.below hHeld (Nat.le_refl _)) (by intro h; split at h <;> cases h) hHeld.size (by have := List.length_take_le p t; simp; omega) (by omega) ?_
                                intro vz wq5 hO hg
                                have hb' : Below wr.heap.size wq4 wq5 := ((Below.refl _ _).grown hg hHeld.size (fun g hg' => (World.ownsRow.lt OY.out g hg').1))
                                obtain ⟨AF, CF, rfl, hFI⟩ := Own.form hO
                                have FI : Hid (Ints wq5 AF _) := Lib.hid hFI
                                refine hK.out _ _ (hHeld.trans hb') (fun hHeld' => ?_)
                                clear hHeld
                                have hHeld := hHeld'
                                clear hHeld'
                                clear hO hg hb' OY hFI
                                clear hK K
                                try simp only [Act.put, List.getElem_toArray, List.getElem_cons_succ, List.getElem_cons_zero, List.setIfInBounds_toArray, List.set_cons_zero, List.set_cons_succ]
                                refine wpAnyH_take (i := 12) (v := ?v710) rfl (by kernel_rfl) (by kernel_rfl) (by kernel_rfl) (fun _ _ _ h => h) (Or.inl ⟨by rfl, ?y710⟩) (by assumption) ?r710
                                case y710 => ((intro w hSw; (try dsimp only at hSw); go_simp); try with_reducible rfl)
                                try simp only [Act.put, List.getElem_toArray, List.getElem_cons_succ, List.getElem_cons_zero, List.setIfInBounds_toArray, List.set_cons_zero, List.set_cons_succ]
                                refine wpAnyH_done (by kernel_rfl) ?_ _
                                refine NoPanic.normal ?_
                                generalize (if cx = p then (some ⟨gx, 0, none⟩ : Option Addr) else some ⟨gx, p, none⟩) = AX2
                                go_wp2_with fail
                                go_meet
                                exact ⟨AF, CF, by congr 1; have := TL.out; first | omega | (simp; omega), by have h := FI.out; rw [List.append_assoc] at h; exact h, hHeld⟩
                              exact AllReadyH.nil
                            exact AllReadyH.nil
                          exact AllReadyH.nil
                        exact AllReadyH.nil
                      exact AllReadyH.nil
                  case rest =>
                    obtain ⟨Af, cf, rfl, hFi, hFb⟩ := hcut
                    have FI := Lib.hid hFi
                    have FB := Lib.hid hFb
                    clear hFi hFb hcv
                    have XC : Hid (wc.heap[w.heap.size]? = _) := Lib.hid (((then_ HB.out FB.out).block _ (Array.getElem?_eq_some_iff.1 X0.out).1).trans X0.out)
                    have y0 : wc.cell? ⟨w.heap.size, 0, none⟩ = some (.slice (some ⟨gs, os, none⟩) n cs) := by rw [cell_of_row _ _ _ _ _ _ XC.out]; rfl
                    have y1 : wc.cell? ⟨w.heap.size, 1, none⟩ = some (.int .i64 k) := by rw [cell_of_row _ _ _ _ _ _ XC.out]; rfl
                    have y2 : wc.cell? ⟨w.heap.size, 2, none⟩ = some (.slice Ac P0 cc) := by rw [cell_of_row _ _ _ _ _ _ XC.out]; rfl
                    have BC := Lib.hid (then_ (then_ BR.out HB.out) FB.out)
                    have hvl : v < nth l p := by rw [← HVQ.out]; exact HVL.out _ (nth_mem (by rw [HVS.out]; exact hlq))
                    have FL : Hid (InL l (insL t p v)) := Lib.hid (insL_in HTI.out HP'.out hvl)
                    have G := Lib.hid (rget_yes (some ⟨gs, os, none⟩) Ac cs cc Af l.length cf P0 (numL l (insL t p v)) l k z wc (by rw [HN.out]; exact h6) HCS.out HLS.out HP0.out hP4 (by rw [← HP0.out]; exact FL.out.num_lt) rfl (HI.out.below BC.out (Nat.le_refl _)) (by rw [FL.out.tup]; exact FI.out) (HZ.out.below BC.out (Nat.le_refl _)))
                    rw [HFV.out v, HN.out] at G
                    go_wp2_with fail
                    refine G.out.mono ?_
                    rintro e wg ⟨rfl, hb⟩
                    have BG := Lib.hid (then_ (then_ HB.out FB.out) hb)
                    clear hb y0 y1 y2 G
                    have HS : Hid (leastL f k (vs.take (q + 1)) = lstep f (c0, d0) v) := Lib.hid (by
                      have hq' : q < vs.length := by rw [HVS.out]; exact hlq
                      have e : vs.take (q + 1) = vs.take q ++ [v] := by rw [List.take_add_one, List.getElem?_eq_getElem hq']; simp; rw [← HVQ.out]; simp [nth, List.getD_eq_getElem?_getD, hq']
                      rw [e, leastL_snoc, ← HC0.out, ← HD0.out])
                    generalize hfv : f v = fv at HS ⊢
                    clear HFV
                    have hs : lstep f (c0, d0) v = if d0 < 0 ∨ fv < c0 then (fv, (v : Int)) else (c0, d0) := by unfold lstep; rw [hfv]
                    rw [hs] at HS
                    clear hs hfv
                    by_cases h1 : d0 < 0
                    · rw [if_pos (Or.inl h1)] at HS
                      go_wp2_with fail
                      go_roundw
                      case rel => exact ⟨q + 1, by omega, by go_num, by rw [HS.out], by rw [HS.out], BG.out⟩
                      case measure => simp [intOf]; omega
                    · by_cases h2 : fv < c0
                      · rw [if_pos (Or.inr h2)] at HS
                        go_wp2_with fail
                        go_roundw
                        case rel => exact ⟨q + 1, by omega, by go_num, by rw [HS.out], by rw [HS.out], BG.out⟩
                        case measure => simp [intOf]; omega
                      · rw [if_neg (by omega)] at HS
                        go_wp2_with fail
                        go_roundw
                        case rel => exact ⟨q + 1, by omega, by go_num, by rw [HS.out], by rw [HS.out], BG.out⟩
                        case measure => simp [intOf]; omega
                · have hqm : vs.take q = vs := List.take_of_length_le (by rw [HVS.out]; omega)
                  have q1 : ¬ (q : Int) < (m : Int) := by omega
                  rw [hqm, ← HO.out]
                  have HV1 : Hid ((outL l z k p vs j).1 = (fun i => (outL l z k p vs i).1) j) := Lib.hid rfl
                  have HV2 : Hid ((outL l z k p vs j).2 = (fun i => (outL l z k p vs i).2) j) := Lib.hid rfl
                  generalize (outL l z k p vs j).1 = c0 at HV1 ⊢
                  generalize (outL l z k p vs j).2 = d0 at HV2 ⊢
                  have MR := Lib.hid (HM.out.next HB.out)
                  obtain ⟨r0, r1, r2, r3⟩ := MR.out.cells
                  clear hqm
                  go_upto_region 17 with (at_builtin; refine push64 rfl (.tmp 76) (.tmp 78) rfl wr w9.heap.size j (.slice Ac0 j cc0) (fun i => (outL l z k p vs i).1) _ HV1.out rfl rfl MR.out.own MR.out.kept.size (by omega) ?_; intro v' w' ho hg; obtain ⟨A9, c9, rfl⟩ := row_form ho; have MN := Lib.hid (MR.out.push (by omega) ho hg); have rr := MR.out.push_row (by omega) hg; have p2 : w'.cell? ⟨w.heap.size + 1 + 1, 2, none⟩ = some (.slice Ac0 j cc0) := (by rw [cell_of_row _ _ _ _ _ _ rr]; rfl); have p3 : w'.frozen? ⟨w.heap.size + 1 + 1, 2, none⟩ = false := frozen_of_row _ _ _ _ _ rr; clear ho hg rr r0 r1 r2 r3)
                  generalize w'.setCell ⟨w.heap.size + 1 + 1, 2, none⟩ (.slice A9 (j + 1) c9) = wn at MN ⊢
                  clear p2 p3
                  go_wp2_with (at_builtin; refine pushI rfl (.tmp 81) (.tmp 83) rfl wn w9.heap.size j (.slice Ab0 j cb0) (fun i => (outL l z k p vs i).2) _ HV2.out rfl rfl MN.out.best MN.out.kept.size (by omega) ?_; intro v'' w'' ho hg; have MQ := Lib.hid (MN.out.pushB (by omega) ho hg); clear ho hg)
                  go_roundw
                  case rel => exact ⟨j + 1, _, by omega, by go_num, MQ.out⟩
                  case measure => simp [intOf]; omega
            · have j1 : ¬ ((j : Int) < (P : Int)) := by omega
              obtain rfl : j = P := by omega
              obtain ⟨r0, r1, r2, r3⟩ := HM.out.cells
              have YR : Hid (wr.heap[w.heap.size + 1]? = _) := Lib.hid ((HM.out.kept.block _ (by omega) (by omega) (by omega)).trans Y9.out)
              go_wp2_with ((with_reducible show wpList _ _ _ (Oper.mk none (.store 31 _ _) _ _ _ _ :: _) _ _); refine wpList_store_row rfl 31 (.tmp 6) (.tmp 86) rfl (w.heap.size + 1) #[.slice A7 (n - 1) c7, .int .i64 k, .slice Ac0 j cc0] rfl rfl 31 #[.slice none 0 0, .int .i64 0, .slice none 0 0] YR.out (by kernel_rfl) rfl (by simp [Value.oneCell']) ?_)
              have hrow := setRow_heap wr (w.heap.size + 1) _ #[.slice A7 (n - 1) c7, .int .i64 k, .slice Ac0 j cc0] _ _ YR.out
              have OF : Own (wr.setRow (w.heap.size + 1) #[.slice A7 (n - 1) c7, .int .i64 k, .slice Ac0 j cc0]) w3.heap.size (.slice A7 (n - 1) c7) (l.eraseIdx p) := World.ownsRow.kept (own_kept2 O9.out HM.out.kept (by omega)) (grown_setRow wr (w.heap.size + 1) _) (row_far O9.out (by omega))
              obtain ⟨A', c', e, hIF⟩ := OF.form
              injection e with e _ _
              subst e
              refine bodyPost_ret (results_rt2 rfl _ _ (w.heap.size + 1) _ _ _ rfl hrow) rfl (show RoPost w l k z p vs j n _ _ from ⟨⟨A7, c7, Ac0, cc0, Ab0, cb0, rfl, hIF, hc7, ?_, ?_⟩, below_setRow (HM.out.kept.below BB.out (by omega) (by omega) (by omega)) (by omega) _⟩)
              · exact zs_row (World.ownsRow.kept HM.out.own (grown_setRow wr (w.heap.size + 1) _) (row_far HM.out.own (by omega)))
              · exact zs_row (World.ownsRow.kept HM.out.best (grown_setRow wr (w.heap.size + 1) _) (row_far HM.out.best (by omega)))
        exact AllReadyH.nil
      exact AllReadyH.nil
    exact AllReadyH.nil
  exact AllReadyH.nil

