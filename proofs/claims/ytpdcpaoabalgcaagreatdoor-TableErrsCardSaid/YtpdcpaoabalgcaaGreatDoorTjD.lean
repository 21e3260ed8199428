/- Texts of this seat laid together (no statement of its own). -/
import Derived.Test.YtpdcpaoabalgcaaGreatDoorTjB
import Derived.Test.YtpdcpaoabalgcaaGreatDoorTjd
import Derived.Test.YtpdcpaoabalgcaaGreatDoorTbW
import Derived.Maps.AppendAt
import Derived.Test.YtpdcpaoabalgcaaGreatDoorTt7
import Derived.Test.YtpdcpaoabalgcaaGreatDoorTjc
namespace Go.Proofs.YtpdcpaoabalgcaaGreatDoor
open Go.RowKit Go.Shelf Go.Sort
set_option linter.unusedVariables false
/-- Where a variable stands in a rising list; -1: nowhere. -/
def fiI (a : List Nat) (v : Nat) : Int := if a.contains v then ((a.countP (· < v) : Nat) : Int) else -1
theorem fiI_at {a : List Nat} (h : Rises a) {i : Nat} (hi : i < a.length) : fiI a (nth a i) = (i : Int) := by
  rw [fiI, if_pos (List.contains_iff_mem.2 (nth_mem hi)), cnt_nth (rises_lt h) hi]
theorem fiI_no {a : List Nat} {v : Nat} (h : ∀ i, i < a.length → nth a i ≠ v) : fiI a v = -1 := by
  rw [fiI, if_neg]
  intro e
  obtain ⟨i, hi, e⟩ := List.getElem_of_mem (List.contains_iff_mem.1 e)
  exact h i hi (by rw [nth_get hi]; exact e)
set_option maxRecDepth 100000 in
theorem find_any (A : Option Addr) (n c v : Nat) (a : List Nat) (w : World) (hn : a.length = n) (hA : Ints w A a) (hr : Rises a) (hn6 : n ≤ 1000000) :
    Calls Tryz.prog 45 #[.slice A n c, .int .i64 (v : Int)] w fun e w' => e = .returned (.int .i64 (fiI a v)) ∧ w = w' := by
  have HN := Lib.hid hn
  have HA := Lib.hid hA
  have HR := Lib.hid hr
  clear hn hA hr
  go_enter Tryz.func45, Tryz.ntmps45
  go_upto_region 2 with fail
  go_loop [9] (fun i => ∃ j : Nat, j ≤ n ∧ i = .int .i64 (j : Int) ∧ ∀ q, q < j → nth a q ≠ v) (fun i => n - (intOf i).toNat)
  case atStart => exact ⟨0, Nat.zero_le _, rfl, fun q hq => by omega⟩
  case round =>
    obtain ⟨j, hj, rfl, hno⟩ := hrel
    have HNO := Lib.hid hno
    clear hno
    by_cases hlt : j < n
    · obtain ⟨g, o, rfl, hcell⟩ := HA.out.at_ (i := j) (by rw [HN.out]; exact hlt)
      have j1 : (j : Int) < (n : Int) := by omega
      have j2 : (0 : Int) ≤ (j : Int) := by omega
      have HF : Hid (fiI a (nth a j) = (j : Int)) := Lib.hid (fiI_at HR.out (by rw [HN.out]; exact hlt))
      obtain ⟨y, hy⟩ : ∃ y, nth a j = y := ⟨_, rfl⟩
      have HY := Lib.hid hy
      rw [hy] at hcell HF
      clear hy
      by_cases he : y = v
      · subst he
        have d : ((y : Int) == (y : Int)) = true := by simp
        go_wp2_with fail
        go_ret
        exact ⟨by rw [HF.out]; rfl, rfl⟩
      · have d : ((y : Int) == (v : Int)) = false := by rw [beq_eq_false_iff_ne]; omega
        go_wp2_with fail
        go_round
        case rel => exact ⟨j + 1, by omega, by go_num, fun q hq => by
          rcases Nat.lt_or_ge q j with h | h
          · exact HNO.out q h
          · obtain rfl : q = j := by omega
            rw [HY.out]; exact he⟩
        case measure => simp [intOf]; omega
    · have j1 : ¬ ((j : Int) < (n : Int)) := by omega
      obtain rfl : j = n := by omega
      clear hlt hj
      go_wp2_with fail
      go_ret
      exact ⟨by rw [fiI_no (fun i hi => HNO.out i (by rw [← HN.out]; exact hi))]; rfl, rfl⟩
end Go.Proofs.YtpdcpaoabalgcaaGreatDoor

namespace Go.Proofs.YtpdcpaoabalgcaaGreatDoor
open Go.RowKit Go.Shelf Go.Sort
set_option linter.unusedVariables false
/-- The variables of both below n. -/
def unL (a b : List Nat) (n : Nat) : List Nat := (List.range n).filter fun v => a.contains v || b.contains v
theorem unL_snoc (a b : List Nat) (n : Nat) : unL a b (n + 1) = unL a b n ++ if a.contains n || b.contains n then [n] else [] := by
  rw [unL, List.range_succ, List.filter_append]
  congr 1
  by_cases h : (a.contains n || b.contains n) = true <;> simp_all
theorem uni_unL {a b : List Nat} {n : Nat} (ha : ∀ x ∈ a, x < n) (hb : ∀ x ∈ b, x < n) : Uni (unL a b n) a b := by
  refine ⟨List.Pairwise.filter _ List.pairwise_lt_range, fun x => ?_⟩
  rw [unL, List.mem_filter, List.mem_range, Bool.or_eq_true, List.contains_iff_mem, List.contains_iff_mem]
  exact ⟨fun h => h.2, fun h => ⟨h.elim (ha x) (hb x), h⟩⟩
/-- The size of a variable of either. -/
def szU (a b l1 l2 : List Nat) (v : Nat) : Nat := if a.contains v then nth l1 (a.countP (· < v)) else nth l2 (b.countP (· < v))
theorem joinL_map {V a b l1 l2 : List Nat} (H : Uni V a b) (ha : Rises a) (hb : Rises b) (hl1 : l1.length = a.length) (hl2 : l2.length = b.length) (hag : AgB a b l1 l2 = true) :
    joinL V.length (plcL V a) l1 (plcL V b) l2 = V.map (szU a b l1 l2) := by
  refine ext_nth (by rw [joinL_len, List.length_map]) fun p hp => ?_
  rw [joinL_len] at hp
  rw [nth_map hp]
  have hc := cnt_nth H.lt hp
  by_cases hx : nth V p ∈ a
  · have hm := nth_cnt (rises_lt ha) hx
    rw [szU, if_pos (List.contains_iff_mem.2 hx)]
    have hpi : nth (plcL V a) (a.countP (· < nth V p)) = p := by rw [plcL_nth hm.1, hm.2, hc]
    have h3 := congrArg (fun t => nth t (a.countP (· < nth V p))) (H.pa ha hb hl1 hl2 hag)
    rw [pickL_nth (by rw [plcL_len]; exact hm.1), hpi] at h3
    exact h3
  · have hy := ((H.mem _).1 (nth_mem hp)).resolve_left hx
    have hm := nth_cnt (rises_lt hb) hy
    rw [szU, if_neg (fun e => hx (List.contains_iff_mem.1 e))]
    have hpi : nth (plcL V b) (b.countP (· < nth V p)) = p := by rw [plcL_nth hm.1, hm.2, hc]
    have h3 := congrArg (fun t => nth t (b.countP (· < nth V p))) (H.pb (l1 := l1) hb hl2)
    rw [pickL_nth (by rw [plcL_len]; exact hm.1), hpi] at h3
    exact h3
theorem cnt_mono {V : List Nat} (hV : V.Pairwise (· < ·)) {x y : Nat} (hx : x ∈ V) (hxy : x < y) : V.countP (· < x) < V.countP (· < y) := by
  have h1 := nth_cnt hV hx
  rcases Nat.lt_or_ge (V.countP (· < x)) (V.countP (· < y)) with h | h
  · exact h
  · have hle : V.countP (· < x) ≤ V.countP (· < y) := List.countP_mono_left fun v _ hv => by simp at *; omega
    have he : V.countP (· < x) = V.countP (· < y) := by omega
    exfalso
    have : V.countP (fun v => decide (v < x)) + V.countP (fun v => decide (v = x)) ≤ V.countP (fun v => decide (v < y)) := by
      clear h h1 he hle hV hx
      induction V with
      | nil => simp
      | cons a V ih =>
        rw [List.countP_cons, List.countP_cons, List.countP_cons]
        by_cases c1 : a < x
        · have c2 : ¬ a = x := by omega
          have c3 : a < y := by omega
          simp only [c1, c2, c3, decide_true, decide_false, if_true]
          simp; omega
        · by_cases c2 : a = x
          · subst c2
            simp only [Nat.lt_irrefl, hxy, decide_true, decide_false, if_true, Bool.false_eq_true, if_false]
            omega
          · simp [c1, c2]; split <;> omega
    have hpos : 0 < V.countP (fun v => decide (v = x)) := List.countP_pos_iff.2 ⟨x, hx, by simp⟩
    omega
theorem plcL_lt {V a : List Nat} (hV : V.Pairwise (· < ·)) (ha : Rises a) (hs : ∀ x ∈ a, x ∈ V) : (plcL V a).Pairwise (· < ·) := by
  rw [plcL, List.pairwise_map]
  exact (rises_lt ha).imp_of_mem fun {x y} hx hy hxy => cnt_mono hV (hs x hx) hxy
/-- The places of a list's variables in a whole: those whose variable it has. -/
theorem plcL_filter {V a : List Nat} (hV : V.Pairwise (· < ·)) (ha : Rises a) (hs : ∀ x ∈ a, x ∈ V) : plcL V a = (List.range V.length).filter fun i => a.contains (nth V i) := by
  refine rise_uniq (plcL_lt hV ha hs) (List.Pairwise.filter _ List.pairwise_lt_range) fun p => ?_
  rw [List.mem_filter, List.mem_range, List.contains_iff_mem, plcL, List.mem_map]
  constructor
  · rintro ⟨v, hv, rfl⟩
    have h := nth_cnt hV (hs v hv)
    exact ⟨h.1, by rw [h.2]; exact hv⟩
  · rintro ⟨hp, hv⟩
    exact ⟨_, hv, cnt_nth hV hp⟩
/-- What the document's Join reads of a tuple for one table, behind n places. -/
def pkN (V a x : List Nat) (n : Nat) : List Nat := ((List.range n).filter fun i => a.contains (nth V i)).map (nth x)
theorem pkN_snoc (V a x : List Nat) (n : Nat) : pkN V a x (n + 1) = pkN V a x n ++ if a.contains (nth V n) then [nth x n] else [] := by
  rw [pkN, List.range_succ, List.filter_append, List.map_append]
  congr 1
  by_cases h : a.contains (nth V n) = true <;> simp_all
theorem pkN_all {V a x : List Nat} (hV : V.Pairwise (· < ·)) (ha : Rises a) (hs : ∀ x ∈ a, x ∈ V) : pkN V a x V.length = pickL x (plcL V a) := by
  rw [pkN, ← plcL_filter hV ha hs]; rfl
theorem fiI_neg {a : List Nat} {v : Nat} : fiI a v < 0 ↔ a.contains v = false := by
  rw [fiI]
  by_cases h : a.contains v = true
  · rw [if_pos h]
    exact ⟨fun h1 => by omega, fun e => by rw [h] at e; cases e⟩
  · rw [if_neg h]
    exact ⟨fun _ => Bool.eq_false_iff.2 h, fun _ => by decide⟩
end Go.Proofs.YtpdcpaoabalgcaaGreatDoor

namespace Go.Proofs.YtpdcpaoabalgcaaGreatDoor
open Go.RowKit
set_option linter.unusedVariables false
set_option maxRecDepth 100000 in
theorem app2_wp {o : Oper} {a : Act} {K : Act → World → Prop} {Q : Exit → Act → World → Prop} (s x : Operand)
    (ho : o.op = .call { callee := .builtin .append, args := #[s, x], argTypes := #[27, 27] })
    (W : World) (base y : Nat) (v : Value) (l : List Nat) (ad : Addr) (hs : a.eval s = v) (hx : a.eval x = .slice (some ad) 1 1)
    (hown : Own W base v l) (hy : W.cell? (ad.add 0) = some (.int .i64 (y : Int))) (hbase : base ≤ W.heap.size) (hl : l.length ≤ 100000)
    (h : ∀ v' w', Own w' base v' (l ++ [y]) → W.grownBy w' v.ownBlock → (v'.ownBlock = v.ownBlock ∨ v'.ownBlock = some W.heap.size) → K (a.put o.dst v') w') :
    o.wp Tryz.prog a W K Q := by
  obtain ⟨i0, hi, hz0, hz1, hz2⟩ := info_parts info_int
  obtain ⟨v', w', hr, h2, h3, h4, h5⟩ := run_append_own_at (P := Tryz.prog) W base 27 o.type 3 i0 (.int .i64 0) 1 8 Tryz.underlying27 hi hz0 hz1 hz2 rfl (by decide) v l.length _ hown ad 1 1 [.int .i64 (y : Int)] rfl (by
    intro j u hj
    rcases j with _ | j
    · simp at hj; subst hj; exact hy
    · simp at hj) (by intro u hu; simp at hu; subst hu; rfl) (by unfold maxLen; omega) (by omega) hbase
  unfold Oper.wp execOp
  simp only [ho, resolve, invoke, builtin, Sem.run_bind, Sem.run_pure, Result.andThen_ok, List.map_toArray, List.map_cons, List.map_nil, hs, hx, hr]
  refine h v' w' ?_ h3 h5
  unfold Own
  rw [List.length_append, intC, List.map_append]
  exact h2
theorem app2_own {ops : Array Oper} {rest : List Oper} {o : Oper} {a : Act} {Q : Exit → Act → World → Prop} (hgd : o.guard = none) (s x : Operand)
    (ho : o.op = .call { callee := .builtin .append, args := #[s, x], argTypes := #[27, 27] })
    (W : World) (base y : Nat) (v : Value) (l : List Nat) (ad : Addr) (hs : a.eval s = v) (hx : a.eval x = .slice (some ad) 1 1)
    (hown : Own W base v l) (hy : W.cell? (ad.add 0) = some (.int .i64 (y : Int))) (hbase : base ≤ W.heap.size) (hl : l.length ≤ 100000)
    (h : ∀ v' w', Own w' base v' (l ++ [y]) → W.grownBy w' v.ownBlock → (v'.ownBlock = v.ownBlock ∨ v'.ownBlock = some W.heap.size) → wpList Tryz.prog ops Q rest (a.put o.dst v') w') :
    wpList Tryz.prog ops Q (o :: rest) a W :=
  wpList_plain hgd fun _ hK => app2_wp s x ho W base y v l ad hs hx hown hy hbase hl fun v' w' h1 h2 h3 => hK _ _ (h v' w' h1 h2 h3)
theorem app2_step {ops : Array Oper} {o : Oper} {a : Act} {K : Act → World → Prop} {Q : Exit → Act → World → Prop} {E : Prop} (hgd : o.guard = none) (s x : Operand)
    (ho : o.op = .call { callee := .builtin .append, args := #[s, x], argTypes := #[27, 27] })
    (W : World) (base y : Nat) (v : Value) (l : List Nat) (ad : Addr) (hs : a.eval s = v) (hx : a.eval x = .slice (some ad) 1 1)
    (hown : Own W base v l) (hy : W.cell? (ad.add 0) = some (.int .i64 (y : Int))) (hbase : base ≤ W.heap.size) (hl : l.length ≤ 100000)
    (h : ∀ v' w', Own w' base v' (l ++ [y]) → W.grownBy w' v.ownBlock → (v'.ownBlock = v.ownBlock ∨ v'.ownBlock = some W.heap.size) → K (a.put o.dst v') w') :
    if Region.wanted o (yielded ops a.tmps) = true then Oper.wp Tryz.prog o a W K Q else E := by
  have hw : Region.wanted o (yielded ops a.tmps) = true := by simp [Region.wanted, hgd]
  rw [if_pos hw]
  exact app2_wp s x ho W base y v l ad hs hx hown hy hbase hl h
/-- Two own lists in two blocks. -/
structure Two (W : World) (base : Nat) (v u : Value) (l t : List Nat) : Prop where
  a : Own W base v l
  b : Own W base u t
  far : v.ownBlock = none ∨ v.ownBlock ≠ u.ownBlock
theorem Two.swap {W : World} {base : Nat} {v u : Value} {l t : List Nat} (H : Two W base v u l t) : Two W base u v t l :=
  ⟨H.b, H.a, by
    rcases H.far with h | h
    · cases hu : u.ownBlock with
      | none => exact .inl rfl
      | some g => exact .inr (by rw [h]; exact fun e => by cases e)
    · exact .inr fun e => h e.symm⟩
theorem Two.below {W W' : World} {base B : Nat} {v u : Value} {l t : List Nat} (H : Two W base v u l t) (hb : Below B W W') (hB : W.heap.size ≤ B) : Two W' base v u l t := ⟨H.a.below hb hB, H.b.below hb hB, H.far⟩
theorem Two.push {W W' : World} {base : Nat} {v v' u : Value} {l l' t : List Nat} (H : Two W base v u l t) (ha : Own W' base v' l') (hg : W.grownBy W' v.ownBlock) (hat : v'.ownBlock = v.ownBlock ∨ v'.ownBlock = some W.heap.size) : Two W' base v' u l' t := by
  refine ⟨ha, H.b.grown hg H.swap.far, ?_⟩
  rcases hat with e | e
  · rw [e]; exact H.far
  · refine .inr fun e2 => ?_
    rw [e] at e2
    have := (H.b.lt _ e2.symm).2
    omega
theorem two_nil (W : World) (base : Nat) : Two W base (.slice none 0 0) (.slice none 0 0) [] [] := ⟨own_nil _ _, own_nil _ _, .inl rfl⟩
end Go.Proofs.YtpdcpaoabalgcaaGreatDoor

namespace Go.Proofs.YtpdcpaoabalgcaaGreatDoor
open Go.RowKit
set_option linter.unusedVariables false
/-- The variables, and the sizes of the table under way. -/
structure RjS (w3 : World) (bu : Nat) (k : Int) (vv sv : Value) (lv ls : List Nat) (W : World) : Prop where
  kept : Kept2 w3 bu bu W
  row : W.heap[bu]? = some (.cells #[sv, .int .i64 k, .slice none 0 0] 30 (0, 0))
  two : Two W w3.heap.size vv sv lv ls
theorem RjS.next {w3 W W' : World} {bu : Nat} {k : Int} {vv sv : Value} {lv ls : List Nat} (H : RjS w3 bu k vv sv lv ls W) (hb : Below W.heap.size W W') : RjS w3 bu k vv sv lv ls W' :=
  ⟨H.kept.next hb, (hb.block _ (Array.getElem?_eq_some_iff.1 H.row).1).trans H.row, H.two.below hb (Nat.le_refl _)⟩
theorem row_grown {w3 W W' : World} {bu n : Nat} {o : Obj} {v : Value} {e : TypeId} {xs : List Value} (h : W.heap[bu]? = some o) (hbu : bu < w3.heap.size) (ho : W.ownsRow w3.heap.size e 1 v n xs) (hg : W.grownBy W' v.ownBlock) : W'.heap[bu]? = some o :=
  (hg.block bu (Array.getElem?_eq_some_iff.1 h).1 (fun e => by have := (World.ownsRow.lt ho bu e.symm).1; omega)).trans h
theorem RjS.pushV {w3 W W' : World} {bu : Nat} {k : Int} {vv vv' sv : Value} {lv lv' ls : List Nat} (H : RjS w3 bu k vv sv lv ls W) (hbu : bu < w3.heap.size) (ha : Own W' w3.heap.size vv' lv') (hg : W.grownBy W' vv.ownBlock) (hat : vv'.ownBlock = vv.ownBlock ∨ vv'.ownBlock = some W.heap.size) :
    RjS w3 bu k vv' sv lv' ls W' :=
  ⟨kept2_grown H.kept H.two.a hg, row_grown H.row hbu H.two.a hg, H.two.push ha hg hat⟩
/-- Behind the append of a size, before its store. -/
structure RjT (w3 : World) (bu : Nat) (k : Int) (vv sv sn : Value) (lv ls : List Nat) (W : World) : Prop where
  kept : Kept2 w3 bu bu W
  row : W.heap[bu]? = some (.cells #[sv, .int .i64 k, .slice none 0 0] 30 (0, 0))
  two : Two W w3.heap.size vv sn lv ls
theorem RjS.pushS {w3 W W' : World} {bu : Nat} {k : Int} {vv sv sn : Value} {lv ls ls' : List Nat} (H : RjS w3 bu k vv sv lv ls W) (hbu : bu < w3.heap.size) (ha : Own W' w3.heap.size sn ls') (hg : W.grownBy W' sv.ownBlock) (hat : sn.ownBlock = sv.ownBlock ∨ sn.ownBlock = some W.heap.size) :
    RjT w3 bu k vv sv sn lv ls' W' :=
  ⟨kept2_grown H.kept H.two.b hg, row_grown H.row hbu H.two.b hg, (H.two.swap.push ha hg hat).swap⟩
theorem Two.set {W : World} {base bu i : Nat} {v u : Value} {l t : List Nat} (H : Two W base v u l t) (hbu : bu < base) (x : Value) : Two (W.setCell ⟨bu, i, none⟩ x) base v u l t :=
  ⟨World.ownsRow.kept H.a (grown_set W bu i x) (row_far H.a (by omega)), World.ownsRow.kept H.b (grown_set W bu i x) (row_far H.b (by omega)), H.far⟩
theorem RjT.fin {w3 W : World} {bu : Nat} {k : Int} {vv sv sn : Value} {lv ls : List Nat} (H : RjT w3 bu k vv sv sn lv ls W) (hbu : bu < w3.heap.size) : RjS w3 bu k vv sn lv ls (W.setCell ⟨bu, 0, none⟩ sn) :=
  ⟨H.kept.set (.inl rfl) 0 sn, by simpa using heap_setCell_same W bu 0 _ _ sn H.row, H.two.set hbu sn⟩
end Go.Proofs.YtpdcpaoabalgcaaGreatDoor

namespace Go.Proofs.YtpdcpaoabalgcaaGreatDoor
open Go.RowKit Go.Shelf Go.Sort
set_option linter.unusedVariables false
theorem scL_lt (z : Nat → Int) (m : Nat) {n : Nat} (hn : n ≤ 3) : ∀ x ∈ scL z m n, x < 12 := by
  intro x hx
  rw [scL, List.mem_map] at hx
  obtain ⟨j, hj, rfl⟩ := hx
  have hj := List.mem_range.1 hj
  have h1 := scP_le z m j
  have h2 : scF z m j ≤ 2 := by unfold scF; split <;> omega
  omega
theorem szU_small {a b l1 l2 V : List Nat} {Q : Nat → Prop} (H : Uni V a b) (ha : Rises a) (hb : Rises b) (hl1 : l1.length = a.length) (hl2 : l2.length = b.length) (h1 : ∀ n ∈ l1, Q n) (h2 : ∀ n ∈ l2, Q n) : ∀ n ∈ V.map (szU a b l1 l2), Q n := by
  intro n hn
  obtain ⟨v, hv, rfl⟩ := List.mem_map.1 hn
  by_cases hc : a.contains v = true
  · have hm := (nth_cnt (rises_lt ha) (List.contains_iff_mem.1 hc)).1
    rw [szU, if_pos hc]
    exact h1 _ (nth_mem (by rw [hl1]; exact hm))
  · have hy := ((H.mem v).1 hv).resolve_left (fun e => hc (List.contains_iff_mem.2 e))
    have hm := (nth_cnt (rises_lt hb) hy).1
    rw [szU, if_neg hc]
    exact h2 _ (nth_mem (by rw [hl2]; exact hm))
theorem prod_four : ∀ {l : List Nat}, (∀ n ∈ l, n ≤ 4) → prodL l ≤ 4 ^ l.length
  | [], _ => Nat.le_refl _
  | x :: l, h => by
    have h1 := prod_four (l := l) fun n hn => h n (List.mem_cons_of_mem _ hn)
    have h2 := h x (List.mem_cons_self ..)
    show x * prodL l ≤ 4 ^ (l.length + 1)
    rw [Nat.pow_succ, Nat.mul_comm]
    exact Nat.mul_le_mul h1 h2
theorem prod_4096 {l : List Nat} (h6 : l.length ≤ 6) (h : ∀ n ∈ l, n ≤ 4) : prodL l ≤ 4096 :=
  Nat.le_trans (prod_four h) (Nat.pow_le_pow_right (by decide) h6)
theorem nodup_len : ∀ {V L : List Nat}, V.Pairwise (· ≠ ·) → (∀ x ∈ V, x ∈ L) → V.length ≤ L.length
  | [], L, _, _ => Nat.zero_le _
  | x :: V, L, h, hs => by
    have hx := hs x (List.mem_cons_self ..)
    have h2 := List.pairwise_cons.1 h
    have ih := nodup_len (L := L.erase x) h2.2 fun y hy => (List.mem_erase_of_ne (fun e => h2.1 y hy e.symm)).2 (hs y (List.mem_cons_of_mem _ hy))
    rw [List.length_erase_of_mem hx] at ih
    have : 0 < L.length := List.length_pos_of_mem hx
    show V.length + 1 ≤ L.length
    omega
theorem uni_len {V a b : List Nat} (H : Uni V a b) : V.length ≤ a.length + b.length := by
  have := nodup_len (L := a ++ b) (H.lt.imp fun h => by omega) fun x hx => List.mem_append.2 ((H.mem x).1 hx)
  rwa [List.length_append] at this
end Go.Proofs.YtpdcpaoabalgcaaGreatDoor
