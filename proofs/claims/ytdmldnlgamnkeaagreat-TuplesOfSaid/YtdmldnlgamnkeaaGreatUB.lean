/- Texts of this seat laid together (no statement of its own). -/
import Derived.Test.YtdmldnlgamnkeaaGreatUA
import Derived.Shelf.SlSortCmp.WholeK
import Derived.Deep.RegionHeld3
import Derived.Test.YtdmldnlgamnkeaaGreatShelh
import Derived.Test.YtdmldnlgamnkeaaGreatIx
import Derived.RangeFuncStops
import Derived.RangeFuncKeeps
import Derived.RangeFuncNested
import Derived.Sort.MapsRangeIn
import Derived.OwnWalkIn
import Derived.TacticsInMore
import Derived.RegionIn
import Derived.LoopNIn
import Derived.LoopIn
namespace Go.Proofs.YtdmldnlgamnkeaaGreat
open Go.RowKit Go.Shelf Go.Sort Go.Lib
set_option linter.unusedVariables false
def cmp2 (a b : Int) : Int := if a < b then -1 else if b < a then 1 else 0
theorem nan_no (a : Int) (w : World) : Calls Tryz.prog 85 #[.int .i64 a] w fun e w' => e = .returned (.bool false) ∧ w = w' := by
  have d : (a != a) = false := by simp
  go_enter Tryz.func85, Tryz.ntmps85
  go_wp2_with fail
  go_ret
  exact ⟨rfl, rfl⟩
theorem compare_int (a b : Int) (w : World) : Calls Tryz.prog 71 #[.int .i64 a, .int .i64 b] w fun e w' => e = .returned (.int .i64 (cmp2 a b)) ∧ w = w' := by
  unfold cmp2
  rcases (by omega : a < b ∨ (¬ a < b ∧ b < a) ∨ (¬ a < b ∧ ¬ b < a)) with h | ⟨h, h'⟩ | ⟨h, h'⟩
  · rw [if_pos h]
    go_enter Tryz.func71, Tryz.ntmps71
    go_wp2_with (go_at_call 85; refine (nan_no _ _).mono ?_; rintro e w' ⟨rfl, rfl⟩)
    go_ret
    exact ⟨rfl, rfl⟩
  · rw [if_neg h, if_pos h']
    go_enter Tryz.func71, Tryz.ntmps71
    go_wp2_with (go_at_call 85; refine (nan_no _ _).mono ?_; rintro e w' ⟨rfl, rfl⟩)
    go_ret
    exact ⟨rfl, rfl⟩
  · rw [if_neg h, if_neg h']
    go_enter Tryz.func71, Tryz.ntmps71
    go_wp2_with (go_at_call 85; refine (nan_no _ _).mono ?_; rintro e w' ⟨rfl, rfl⟩)
    go_ret
    exact ⟨rfl, rfl⟩
/-- Two lists of numbers, place by place: n places from i on. -/
def cmpF (s t : List Nat) : Nat → Nat → Int
  | _, 0 => 0
  | i, n + 1 => if cmp2 (nth s i) (nth t i) ≠ 0 then cmp2 (nth s i) (nth t i) else cmpF s t (i + 1) n
def cmpK (s t : List Nat) : Int := cmpF s t 0 6
theorem cmpF_lt (s t : List Nat) (i n : Nat) : cmpF s t i (n + 1) < 0 ↔ nth s i < nth t i ∨ (nth s i = nth t i ∧ cmpF s t (i + 1) n < 0) := by
  show (if cmp2 (nth s i) (nth t i) ≠ 0 then cmp2 (nth s i) (nth t i) else cmpF s t (i + 1) n) < 0 ↔ _
  unfold cmp2
  rcases Nat.lt_trichotomy (nth s i) (nth t i) with h | h | h
  · rw [if_pos (by rw [if_pos (by omega)]; omega), if_pos (by omega)]
    exact ⟨fun _ => .inl h, fun _ => by omega⟩
  · rw [if_neg (by rw [if_neg (by omega), if_neg (by omega)]; omega)]
    exact ⟨fun h' => .inr ⟨h, h'⟩, fun h' => by rcases h' with h' | ⟨_, h'⟩; omega; exact h'⟩
  · rw [if_pos (by rw [if_neg (by omega), if_pos (by omega)]; omega), if_neg (by omega), if_pos (by omega)]
    exact ⟨fun h' => by omega, fun h' => by omega⟩
theorem cmpF_irrefl (s : List Nat) : ∀ n i, ¬ cmpF s s i n < 0
  | 0, i => by show ¬ ((0 : Int) < 0); omega
  | n + 1, i => by
    rw [cmpF_lt]
    have := cmpF_irrefl s n (i + 1)
    omega
theorem cmpF_trans (s t u : List Nat) : ∀ n i, cmpF s t i n < 0 → cmpF t u i n < 0 → cmpF s u i n < 0
  | 0, i, h, _ => h
  | n + 1, i, h1, h2 => by
    rw [cmpF_lt] at *
    rcases h1 with h1 | ⟨e1, h1⟩ <;> rcases h2 with h2 | ⟨e2, h2⟩
    · left; omega
    · left; omega
    · left; omega
    · right; exact ⟨by omega, cmpF_trans s t u n (i + 1) h1 h2⟩
theorem cmpF_ntrans (s t u : List Nat) : ∀ n i, ¬ cmpF s t i n < 0 → ¬ cmpF t u i n < 0 → ¬ cmpF s u i n < 0
  | 0, i, h, _ => h
  | n + 1, i, h1, h2 => by
    rw [cmpF_lt] at *
    rintro (h | ⟨e, h⟩)
    · omega
    · have h3 : nth s i = nth t i := by omega
      have h4 : nth t i = nth u i := by omega
      exact cmpF_ntrans s t u n (i + 1) (fun h' => h1 (.inr ⟨h3, h'⟩)) (fun h' => h2 (.inr ⟨h4, h'⟩)) h
theorem ltOf_cmpK (s t : List Nat) : ltOf cmpK s t = decide (cmpF s t 0 6 < 0) := rfl
theorem swoK : SWO (ltOf cmpK) where
  irrefl s := by rw [ltOf_cmpK]; exact decide_eq_false (cmpF_irrefl s 6 0)
  trans s t u h1 h2 := by
    rw [ltOf_cmpK] at *
    exact decide_eq_true (cmpF_trans s t u 6 0 (of_decide_eq_true h1) (of_decide_eq_true h2))
  ntrans s t u h1 h2 := by
    rw [ltOf_cmpK] at *
    exact decide_eq_false (cmpF_ntrans s t u 6 0 (of_decide_eq_false h1) (of_decide_eq_false h2))
theorem cmpF_cons (a b : Nat) (s t : List Nat) : ∀ n i, cmpF (a :: s) (b :: t) (i + 1) n = cmpF s t i n
  | 0, i => rfl
  | n + 1, i => by
    show (if cmp2 (nth (a :: s) (i + 1)) (nth (b :: t) (i + 1)) ≠ 0 then _ else cmpF (a :: s) (b :: t) (i + 1 + 1) n) = (if cmp2 (nth s i) (nth t i) ≠ 0 then _ else cmpF s t (i + 1) n)
    rw [cmpF_cons a b s t n (i + 1)]
    rfl
/-- The order of tuples is that of their numbers. -/
theorem cmp_num : ∀ {l s t : List Nat} (n : Nat), l.length ≤ n → InL l s → InL l t → (cmpF s t 0 n < 0 ↔ numL l s < numL l t)
  | [], [], [], n, _, _, _ => by
    have : ¬ cmpF [] [] 0 n < 0 := cmpF_irrefl [] n 0
    exact ⟨fun h => absurd h this, fun h => absurd h (Nat.lt_irrefl _)⟩
  | m :: l, a :: s, b :: t, 0, h, _, _ => by simp at h
  | m :: l, a :: s, b :: t, n + 1, h, hs, ht => by
    have hs' : a < m ∧ InL l s := hs
    have ht' : b < m ∧ InL l t := ht
    rw [cmpF_lt, cmpF_cons, cmp_num n (by simpa using h) hs'.2 ht'.2]
    show a < b ∨ (a = b ∧ _) ↔ a * prodL l + numL l s < b * prodL l + numL l t
    have h1 := hs'.2.num_lt
    have h2 := ht'.2.num_lt
    rcases Nat.lt_trichotomy a b with h3 | h3 | h3
    · have := Nat.mul_le_mul_right (prodL l) (show a + 1 ≤ b from h3)
      rw [Nat.add_mul, Nat.one_mul] at this
      exact ⟨fun _ => by omega, fun _ => .inl h3⟩
    · subst h3
      exact ⟨fun h => by omega, fun h => .inr ⟨rfl, by omega⟩⟩
    · have := Nat.mul_le_mul_right (prodL l) (show b + 1 ≤ a from h3)
      rw [Nat.add_mul, Nat.one_mul] at this
      exact ⟨fun h => by omega, fun h => by omega⟩
end Go.Proofs.YtdmldnlgamnkeaaGreat

namespace Go.Proofs.YtdmldnlgamnkeaaGreat
open Go.RowKit Go.Shelf Go.Sort Go.Lib
set_option linter.unusedVariables false
abbrev Six (w : World) (g : Nat) (t : List Nat) : Prop := w.cell? ⟨g, 0, none⟩ = some (szV t 0) ∧ w.cell? ⟨g, 1, none⟩ = some (szV t 1) ∧ w.cell? ⟨g, 2, none⟩ = some (szV t 2) ∧ w.cell? ⟨g, 3, none⟩ = some (szV t 3) ∧ w.cell? ⟨g, 4, none⟩ = some (szV t 4) ∧ w.cell? ⟨g, 5, none⟩ = some (szV t 5)
theorem Six.at_ {w : World} {g : Nat} {t : List Nat} (h : Six w g t) {j : Nat} (hj : j < 6) : w.cell? ⟨g, j, none⟩ = some (szV t j) := by
  obtain ⟨h0, h1, h2, h3, h4, h5⟩ := h
  rcases (by omega : j = 0 ∨ j = 1 ∨ j = 2 ∨ j = 3 ∨ j = 4 ∨ j = 5) with rfl | rfl | rfl | rfl | rfl | rfl <;> assumption
theorem compare_six (g h c d : Nat) (s t : List Nat) (w : World) (hs : Six w g s) (ht : Six w h t) :
    Calls Tryz.prog 61 #[.slice (some ⟨g, 0, none⟩) 6 c, .slice (some ⟨h, 0, none⟩) 6 d] w fun e w' => e = .returned (.int .i64 (cmpK s t)) ∧ w = w' := by
  have HS := Lib.hid hs
  have HT := Lib.hid ht
  clear hs ht
  go_enter Tryz.func61, Tryz.ntmps61
  go_wp2_with fail
  go_loop [5, 6, 7, 8, 11] (fun _ _ _ _ i => ∃ j : Nat, j ≤ 6 ∧ i = .int .i64 (j : Int) ∧ Hid (cmpF s t j (6 - j) = cmpK s t)) (fun _ _ _ _ i => 6 - (intOf i).toNat)
  case atStart => exact ⟨0, by omega, rfl, Lib.hid rfl⟩
  case round =>
    obtain ⟨j, hj, rfl, HC⟩ := hrel
    by_cases hlt : j < 6
    · have hc := HS.out.at_ hlt
      have hd := HT.out.at_ hlt
      have ji : (j : Int) < 6 := by omega
      have j0 : (0 : Int) ≤ (j : Int) := by omega
      have HN : Hid ((if cmp2 (nth s j) (nth t j) ≠ 0 then cmp2 (nth s j) (nth t j) else cmpF s t (j + 1) (6 - (j + 1))) = cmpK s t) := Lib.hid (by
        have h := HC.out
        rw [show 6 - j = (6 - (j + 1)) + 1 by omega] at h
        exact h)
      simp only [szV] at hc hd
      generalize nth s j = x at hc HN
      generalize nth t j = y at hd HN
      have jn : ¬ (6 ≤ (j : Int)) := by omega
      have hcj : decide (6 ≤ (j : Int)) = false := decide_eq_false jn
      go_wp2_with fail
      refine (compare_int _ _ _).mono ?_
      rintro e w' ⟨rfl, rfl⟩
      by_cases hz : cmp2 x y = 0
      · have dz : (cmp2 x y != 0) = false := by simp [hz]
        have HN2 : Hid (cmpF s t (j + 1) (6 - (j + 1)) = cmpK s t) := Lib.hid (by have h := HN.out; rwa [if_neg (by simp [hz])] at h)
        go_wp2_with fail
        go_round
        case rel => exact ⟨j + 1, by omega, by go_num, HN2⟩
        case measure => simp [intOf]; omega
      · have dz : (cmp2 x y != 0) = true := by rw [bne_iff_ne]; exact hz
        have HN2 : Hid (cmp2 x y = cmpK s t) := Lib.hid (by have h := HN.out; rwa [if_pos hz] at h)
        go_wp2_with fail
        go_ret
        exact ⟨congrArg (fun x => Ending.returned (.int .i64 x)) HN2.out, rfl⟩
    · obtain rfl : j = 6 := by omega
      have HZ : Hid ((0 : Int) = cmpK s t) := Lib.hid HC.out
      clear hlt hj
      go_wp2_with fail
      go_ret
      exact ⟨congrArg (fun x => Ending.returned (.int .i64 x)) HZ.out, rfl⟩
theorem compare_keys (s t : List Nat) (W : World) : Calls Tryz.prog 46 #[keyV s, keyV t] W fun e w' => e = .returned (.int .i64 (cmpK s t)) ∧ ∃ q os', w' = grow (W.drewN q) os' := by
  have n1 := new_val W (.cells (kyC s) 77)
  have n2 := new_val (W.alloc (.cells (kyC s) 77)) (.cells (kyC t) 77)
  have H1 : Hid (Six ((W.alloc (.cells (kyC s) 77)).alloc (.cells (kyC t) 77)).drew W.heap.size s) := Lib.hid (ky_cells ((n2.block _ (by simp)).trans (heap_alloc_new W (.cells (kyC s) 77))))
  have H2 : Hid (Six ((W.alloc (.cells (kyC s) 77)).alloc (.cells (kyC t) 77)).drew (W.heap.size + 1) t) := Lib.hid (ky_cells (alloc_two W _ _))
  clear n1 n2
  generalize hr : cmpK s t = r
  have HR := Lib.hid hr
  clear hr
  go_enter Tryz.func46, Tryz.ntmps46
  go_upto_region 1 with fail
  generalize h2 : ((W.alloc (.cells (kyC s) 77)).alloc (.cells (kyC t) 77)) = w2 at H1 H2 ⊢
  have E2 := Lib.hid h2
  clear h2
  go_region_held3 (fun W' => W' = w2.drew) (first | rfl | assumption)
    ((first | (go_at_call 61; refine (compare_six _ _ _ _ s t _ (by subst_vars; exact H1.out) (by subst_vars; exact H2.out)).mono ?_; rw [HR.out]; rintro e w' ⟨rfl, rfl⟩)))
  go_wp2_with fail
  go_ret
  refine ⟨rfl, 1, #[.cells (kyC s) 77, .cells (kyC t) 77], ?_⟩
  have e := E2.out
  rw [alloc_eq_grow, alloc_eq_grow, grow_grow] at e
  have hw : ∀ W' : World, W' = w2.drew → W' = grow (W.drewN 1) #[.cells (kyC s) 77, .cells (kyC t) 77] := by
    rintro W' rfl
    rw [← e]
    rfl
  exact hw _ rfl
def encK (t : List Nat) : List Value := [szV t 0, szV t 1, szV t 2, szV t 3, szV t 4, szV t 5]
theorem cmpLaysK (blk off size : Nat) (w : World) : CmpLays Tryz.prog 46 #[] encK 6 cmpK blk off size w := fun _ _ _ _ s t => compare_keys s t _
end Go.Proofs.YtdmldnlgamnkeaaGreat

namespace Go.Proofs.YtdmldnlgamnkeaaGreat
open Go.RowKit Go.Shelf Go.Maps Go.Sort
set_option linter.unusedVariables false
theorem wpListIn_store_rowK {F : Fence} {n : Nat} {P : Program} {ops : Array Oper} {rest : List Oper} {o : Oper} {a : Act} {w : World} {Q : Exit → Act → World → Prop} (hgd : o.guard = none) (ty : TypeId) (x y : Operand) (ho : o.op = .store ty x y)
    (g : Nat) (cells : Array Value) (hx : a.eval x = .pointer (some ⟨g, 0, none⟩)) (hy : a.eval y = .agg cells)
    (t : TypeId) (old : Array Value) (hg : w.heap[g]? = some (.cells old t (0, 0))) (hi : (P.info? ty).map (·.size) = some cells.size)
    (hold : old.size = cells.size) (h1 : cells.all (·.oneCell') = true)
    (h : wpListIn F n P ops Q rest (a.put o.dst undef) (w.setRow g cells)) : wpListIn F n P ops Q (o :: rest) a w := by
  refine wpListIn_plain hgd fun K' hK' => ?_
  unfold Oper.wpIn
  refine ⟨by simp [Oper.about, ho], ?_⟩
  rw [Oper.semAt_plain F _ _ (by rw [ho]; intro c hc'; cases hc')]
  unfold execOp
  simp only [ho, hx, hy, Instr.storeAt, Instr.sureAddr, Sem.run_bind, Sem.run_pure, Result.andThen_ok, run_storeVar_row w g t ty old cells hg hi hold h1]
  exact hK' _ _ h
/-- The tuples that have come: just those of the map that are not left. -/
structure Coll (D : DataW Unit) (l : List Nat) (left : Lit → Bool) (ts : List { t : List Nat // InL l t }) : Prop where
  nd : (ts.map Subtype.val).Nodup
  mem : ∀ t, t ∈ ts.map Subtype.val ↔ InL l t ∧ Maps.has D (keyL t) = true ∧ left (keyL t) = false
theorem Coll.start (D : DataW Unit) (l : List Nat) : Coll D l (Maps.has D) [] :=
  ⟨List.nodup_nil, fun t => ⟨fun h => by simp at h, fun ⟨_, h1, h2⟩ => by rw [h1] at h2; cases h2⟩⟩
theorem Coll.step {D : DataW Unit} {l : List Nat} {left : Lit → Bool} {ts : List { t : List Nat // InL l t }} (H : Coll D l left ts) (h6 : l.length ≤ 6) (h32 : ∀ n ∈ l, n ≤ 32) (x : { t : List Nat // InL l t }) (hl : left (keyL x.val) = true) (hh : Maps.has D (keyL x.val) = true) :
    Coll D l (fun z => left z && !z.sameKey (keyL x.val)) (ts ++ [x]) := by
  refine ⟨?_, fun t => ?_⟩
  · rw [List.map_append]
    refine List.nodup_append.2 ⟨H.nd, by simp, fun a ha b hb => ?_⟩
    simp at hb
    subst hb
    rintro rfl
    have := ((H.mem _).1 ha).2.2
    rw [hl] at this
    cases this
  · rw [List.map_append, List.mem_append, H.mem]
    simp only [List.map_cons, List.map_nil, List.mem_singleton]
    constructor
    · rintro (⟨h1, h2, h3⟩ | rfl)
      · exact ⟨h1, h2, by rw [h3]; rfl⟩
      · exact ⟨x.property, hh, by rw [hl, WideAt.sameKey_self (keyL_isKey _)]; rfl⟩
    · rintro ⟨h1, h2, h3⟩
      by_cases e : left (keyL t) = false
      · exact .inl ⟨h1, h2, e⟩
      · right
        have e' : left (keyL t) = true := by cases h : left (keyL t); exact absurd h e; rfl
        rw [e'] at h3
        have h4 : (keyL t).sameKey (keyL x.val) = true := by simpa using h3
        exact keyL_inj h6 h32 h1 x.property (WideAt.sameKey_eq h4)
abbrev TT (l : List Nat) := { t : List Nat // InL l t }
set_option maxRecDepth 100000 in
set_option maxHeartbeats 2000000 in
theorem keys1_in (n : Nat) (hn : 1 ≤ n) (y Bm b nn : Nat) (l : List Nat) (o : Int) (f : List Nat → Int) (D0 : DataW Unit) (hrep : RepF D0 l o f) (h6 : l.length ≤ 6) (h32 : ∀ n ∈ l, n ≤ 32) (J Jx : List (TT l) → World → Prop)
    (hY : ∀ pre (x : TT l) W, J pre W → pre.length < Maps.size D0 → YieldAt Fence.wide (n - 1) Tryz.prog y #[keyV x.val] W fun e W' =>
      (e = .returned (.bool true) ∧ J (pre ++ [x]) W' ∧ KeepsWalks W W') ∨ (e = .returned (.bool false) ∧ Jx (pre ++ [x]) W'))
    (W : World) (hJ : AbidesFrom W.heap.size J) (hm : W.cell? ⟨Bm, 0, none⟩ = some (.map (some b))) (hown : W.ownsMap Tryz.prog 77 (plainElem Tryz.prog 2) b nn D0) (h0 : J [] W) :
    CallsIn Fence.wide n Tryz.prog 60 #[.func (.yield y) #[] #[], .pointer (some ⟨Bm, 0, none⟩)] W fun e W' => (∃ v, e = .returned v) ∧
      ((∃ ts : List (TT l), Coll D0 l (fun _ => false) ts ∧ J ts W') ∨ (∃ pre, True ∧ Jx pre W')) := by
  refine callsIn_of_wp Tryz.func60 rfl trivial ?_ rfl
  simp only [Tryz.ntmps60, List.size_toArray, List.length_cons, List.length_nil, Nat.reduceAdd, Nat.reduceSub, Array.replicate_succ, Array.replicate_zero, List.push_toArray, List.append_toArray, List.nil_append, List.cons_append]
  gi_wp2_with (first
    | (gi_at_range; refine wpListIn_range_own _ rfl _ 74 rfl 77 2 keyed Tryz.underlying74 _ b nn _ rfl hown ?_; intro w0 hrg0 hg0 hs0)
    | gi_in)
  go_frame
  gi_loopw [3] (fun _ wr => ∃ (left : Lit → Bool) (cnt : Nat) (ts : List (TT l)), wr.ranges Tryz.prog 77 (plainElem Tryz.prog 2) b W.heap.size nn D0 left cnt ∧ ts.length + cnt ≤ Maps.size D0 ∧ Coll D0 l left ts ∧ J ts wr)
    (fun _ wr => wr.rangeLeft b W.heap.size)
  case atStart =>
    exact ⟨_, _, [], hrg0, by simp, Coll.start D0 l, hJ [] W w0 none h0 hg0 (fun r e => by cases e)⟩
  case round =>
    obtain ⟨left, cnt, ts, hrg, hcs, hC, hJs⟩ := hrel
    gi_wp2_with (first
      | (gi_at_next; refine wpListIn_next_ranges _ rfl _ rfl 77 keyed (plainElem Tryz.prog 2) id id (fun key kl hk => ⟨key, rfl⟩) (fun v _ _ => ⟨v, rfl⟩) b W.heap.size nn _ _ _ rfl hrg ?_ ?_)
      | gi_in)
    · intro hc0 hl0
      gi_wp2
      go_end0
      refine ⟨⟨_, rfl⟩, .inl ⟨ts, ⟨hC.nd, fun t => ?_⟩, hJs⟩⟩
      rw [hC.mem t, hl0]
    · intro x c kl yd yp w2 cnt2 hkey hlk hv hat hrg2 hlt hg2 hs2 hen
      have hhas : Maps.has D0 kl = true := has_true_of_atKey hat
      obtain ⟨t, ht, rfl⟩ := hrep.2 kl hhas
      obtain rfl : x = keyV t := keyed.inj hkey (keyOf_key (ht.small h32))
      have hJ2 : J ts w2 := hJ ts wr w2 (some W.heap.size) hJs hg2 (fun r e => by cases e; exact ⟨Nat.le_refl _, hrg.iter_walk⟩)
      have hC2 := hC.step h6 h32 ⟨t, ht⟩ hlk hhas
      have hJ3 : J ts (w2.alloc (.cells (kyC t) 77)) := hJ ts w2 _ none hJ2 (World.grownBy_alloc _ _ _) (fun r e => by cases e)
      have hrg3 := hrg2.alloc (.cells (kyC t) 77)
      obtain ⟨fn, tmps, assign, body, hy, hR⟩ := hY ts ⟨t, ht⟩ _ hJ3 (by omega)
      clear hs2
      have hrow := heap_alloc_new w2 (.cells (kyC t) 77)
      obtain ⟨y0, y1, y2, y3, y4, y5⟩ := ky_cells hrow
      gi_wp2_with (first
        | ((with_reducible show wpListIn _ _ _ _ _ (Oper.mk none (.store 77 _ _) _ _ _ _ :: _) _ _); refine wpListIn_store_rowK rfl 77 (.tmp 3) (.tmp 9) rfl w2.heap.size (kyC t) rfl rfl 77 kyZ (heap_alloc_new _ _) (by kernel_rfl) rfl (ky_one t) ?_; rw [World.setRow_alloc_new])
        | gi_in)
      refine hR.mono ?_
      rintro e W3 (⟨rfl, hJ4, hk3⟩ | ⟨rfl, hJx3⟩)
      · gi_wp2
        have hrg4 := hrg3.of_walks hk3
        go_roundw
        case rel => exact ⟨_, cnt2, ts ++ [⟨t, ht⟩], hrg4, by simp; omega, hC2, hJ4⟩
        case measure => rw [hrg4.left_eq, hrg.left_eq]; exact hlt
      · gi_wp2
        refine bodyPost_ret (results_none rfl _ _ _) rfl ?_
        exact ⟨⟨_, rfl⟩, .inr ⟨ts ++ [⟨t, ht⟩], trivial, hJx3⟩⟩
theorem keys_stops (n : Nat) (hn : 1 ≤ n) (Bm b nn : Nat) (l : List Nat) (o : Int) (f : List Nat → Int) (D0 : DataW Unit) (hrep : RepF D0 l o f) (h6 : l.length ≤ 6) (h32 : ∀ n ∈ l, n ≤ 32) (w : World) (hBm : Bm < w.heap.size)
    (hm : w.cell? ⟨Bm, 0, none⟩ = some (.map (some b))) (hown : w.ownsMap Tryz.prog 77 (plainElem Tryz.prog 2) b nn D0) :
    SeqStopsK Fence.wide n Tryz.prog 60 #[.pointer (some ⟨Bm, 0, none⟩)] (fun x : TT l => #[keyV x.val]) KeepsWalks (fun ts => Coll D0 l (fun _ => false) ts) (fun _ => True) (Maps.size D0) w := fun y J Jx W hW hJ _ hY h0 => by
  have hown' : W.ownsMap Tryz.prog 77 (plainElem Tryz.prog 2) b nn D0 := hown.kept (grown_of_below hW) (by simp)
  exact keys1_in n hn y Bm b nn l o f D0 hrep h6 h32 J Jx hY W hJ ((hW.cell (p := ⟨Bm, 0, none⟩) hBm).trans hm) hown' h0
theorem keys_any (b : Nat) (w : World) : Calls Tryz.prog 45 #[.map (some b)] w fun e w' => e = .returned (.func (.func 60) #[] #[.pointer (some ⟨w.heap.size, 0, none⟩)]) ∧ w' = w.alloc (.cells #[.map (some b)] 74) := by
  go_enter Tryz.func45, Tryz.ntmps45
  go_wp2_with fail
  go_ret
  exact ⟨rfl, rfl⟩
end Go.Proofs.YtdmldnlgamnkeaaGreat

namespace Go.Proofs.YtdmldnlgamnkeaaGreat
open Go.RowKit Go.Shelf Go.Maps Go.Sort
set_option linter.unusedVariables false
attribute [local go_sem] Oper.semAt_some
theorem info_key : (Tryz.prog.info? 77).map (fun i => (i.zero, i.size, i.bytes)) = some (some (.agg kyZ), 6, 48) := by kernel_rfl
/-- The cells of keys, one behind the other. -/
def cellsK (ts : List (List Nat)) : List Value := ts.flatMap encK
theorem cellsK_cons (t : List Nat) (ts : List (List Nat)) : cellsK (t :: ts) = encK t ++ cellsK ts := rfl
theorem cellsK_snoc (ts : List (List Nat)) (t : List Nat) : cellsK (ts ++ [t]) = cellsK ts ++ encK t := by simp [cellsK]
theorem cellsK_len : ∀ ts : List (List Nat), (cellsK ts).length = ts.length * 6
  | [] => rfl
  | t :: ts => by rw [cellsK_cons, List.length_append, cellsK_len ts]; simp [encK]; omega
abbrev valsT {l : List Nat} (ts : List (TT l)) : List (List Nat) := ts.map Subtype.val
/-- Where a key lies in a block of its own, in a round. -/
def AxK {l : List Nat} (B0 Bs b : Nat) (sv : Value) (x : TT l) (a' : Act) (W : World) : Prop :=
  ∃ B5, B0 ≤ B5 ∧ a' = { tmps := #[.slice none 0 0, sv, .pointer (some ⟨Bs, 0, none⟩), undef, .slice none 0 0, .pointer (some ⟨B5, 0, none⟩), sv, keyV x.val, undef, undef, undef, undef, undef], defers := [] } ∧ W.heap[B5]? = some (.cells (kyC x.val) 77 (0, 0))
theorem cell_six_new (W : World) (t : List Nat) (ty : TypeId) : ∀ j u, (encK t)[j]? = some u → (W.alloc (.cells (kyC t) ty)).cell? ((⟨W.heap.size, 0, none⟩ : Addr).add j) = some u := by
  intro j u hu
  have hj : j < 6 := (List.getElem?_eq_some_iff.1 hu).1
  have hr := heap_alloc_new W (.cells (kyC t) ty)
  rw [show ((⟨W.heap.size, 0, none⟩ : Addr).add j) = ⟨W.heap.size, j, none⟩ by (simp [Addr.add]; omega)]
  rw [cell_of_row _ _ _ _ _ _ hr]
  rcases (by omega : j = 0 ∨ j = 1 ∨ j = 2 ∨ j = 3 ∨ j = 4 ∨ j = 5) with rfl | rfl | rfl | rfl | rfl | rfl <;> exact hu
theorem encK_one (t : List Nat) : ∀ v ∈ encK t, v.oneCell' = true := by
  intro v hv
  simp [encK] at hv
  rcases hv with rfl | rfl | rfl | rfl | rfl | rfl <;> rfl
theorem walks_of_others {W W' : World} (h : KeepsOthers W W') : KeepsWalks W W' :=
  ⟨h.size, fun k o hk ho => h.same k o hk (by cases o <;> first | rfl | (simp [Obj.isWalk] at ho))⟩
theorem axK_own {l : List Nat} (B B0 Bs b : Nat) (sv : Value) (x : TT l) (a' : Act) : OwnFrom B (fun (_ : Unit) W => AxK B0 Bs b sv x a' W) := by
  rintro s W W' row ⟨B5, h1, h2, h3⟩ hg hr
  refine ⟨B5, h1, h2, (hg.block B5 (Array.getElem?_eq_some_iff.1 h3).1 fun e => ?_).trans h3⟩
  obtain ⟨o, ho, hc⟩ := (hr B5 e.symm).2
  rw [h3] at ho
  cases ho
  cases hc
set_option maxRecDepth 100000 in
set_option maxHeartbeats 4000000 in
theorem appendK_in (n : Nat) (hn : 3 ≤ n) (Bm b nn : Nat) (l : List Nat) (o : Int) (f : List Nat → Int) (D0 : DataW Unit) (hrep : RepF D0 l o f) (h6 : l.length ≤ 6) (h32 : ∀ n ∈ l, n ≤ 32) (w : World) (hBm : Bm < w.heap.size)
    (hm : w.cell? ⟨Bm, 0, none⟩ = some (.map (some b))) (hown : w.ownsMap Tryz.prog 77 (plainElem Tryz.prog 2) b nn D0) (hsz : Maps.size D0 ≤ 1000000) :
    CallsIn Fence.wide n Tryz.prog 68 #[.slice none 0 0, .func (.func 60) #[] #[.pointer (some ⟨Bm, 0, none⟩)]] w fun e W' => ∃ v, e = .returned v ∧ (∃ ts : List (TT l), Coll D0 l (fun _ => false) ts ∧ W'.ownsRow w.heap.size 77 6 v ts.length (cellsK (valsT ts))) ∧ Below w.heap.size w W' := by
  have h1 : 1 ≤ n := by omega
  obtain ⟨i0, hi, hz0, hz1, hz2⟩ := info_parts info_key
  refine callsIn_of_wp_marks Tryz.func68 rfl trivial ?_ rfl
  simp only [Tryz.ntmps68, List.size_toArray, List.length_cons, List.length_nil, Nat.reduceAdd, Nat.reduceSub, Array.replicate_succ, Array.replicate_zero, List.push_toArray, List.append_toArray, List.nil_append, List.cons_append]
  gi_wp2_with fail
  have bO := Boxed.new w 89 (.slice none 0 0)
  have hB0 : Below w.heap.size w (w.alloc (.cells #[.slice none 0 0] 89)) := (Below.refl _ w).alloc (Nat.le_refl _) _
  refine wpIn_rangeFunc_ownH rfl h1 (gf := 60) (lb := #[.pointer (some ⟨Bm, 0, none⟩)]) rfl trivial (enters_of Tryz.func60 (by kernel_rfl) rfl)
    (keys_stops (n - 1) (by omega) Bm b nn l o f D0 hrep h6 h32 _ (by simp; omega) ((hB0.cell (p := ⟨Bm, 0, none⟩) hBm).trans hm) (hown.alloc _)) walksK_t walksK_b (Below.refl _ _) (fun _ => rfl)
    (fun pre W => (∃ v, Boxed W w.heap.size 89 v ∧ W.ownsRow w.heap.size 77 6 v pre.length (cellsK (valsT pre)) ∧ True) ∧ Below w.heap.size w W)
    (fun _ _ _ => False)
    (OwnFrom.and (_root_.Go.Own.from (holdsRow_own w.heap.size w.heap.size 89 77 6 (fun pre : List (TT l) => pre.length) (fun pre => cellsK (valsT pre)) (fun _ _ => True)) _) (ownFrom_below (Nat.le_refl _) (by simp)))
    (fun _ _ _ _ _ hs _ _ => hs)
    ⟨⟨_, bO, World.ownsRow_nil _ _ _ _, trivial⟩, hB0⟩
    (AxK (w.heap.size + 1) w.heap.size b (.func (.func 60) #[] #[.pointer (some ⟨Bm, 0, none⟩)]))
    ?ax ?assign ?body ?done ?stop
  case ax => exact fun x a' => axK_own _ _ _ _ _ x a'
  case assign =>
    rintro y pre x W K ⟨⟨v, hv, hrow, _⟩, hBW⟩ hK
    have hlt := World.block_lt_of_cell? W _ hv.cell
    gi_wp2_with (first
      | ((with_reducible show wpListIn _ _ _ _ _ (Oper.mk none (.store 77 _ _) _ _ _ _ :: _) _ _); refine wpListIn_store_rowK rfl 77 (.tmp 5) (.tmp 7) rfl W.heap.size (kyC x.val) rfl rfl 77 kyZ (heap_alloc_new _ _) (by kernel_rfl) rfl (ky_one x.val) ?_; rw [World.setRow_alloc_new])
      | gi_in)
    exact hK _ _ (KeepsFrom.of_grownBy (World.grownBy_alloc W _ none) (fun j e => by cases e)) (KeepsWalks.alloc W _) ⟨⟨v, box_below hv (new_val W _), hrow.alloc _, trivial⟩, then_ hBW (new_val W _)⟩ ⟨W.heap.size, hlt, rfl, heap_alloc_new _ _⟩
  case body =>
    rintro y pre x a' W hl hloop ⟨⟨v, hv, hrow, _⟩, hBW⟩ ⟨B5, h5, rfl, hr5⟩ hlt
    obtain ⟨y0, y1, y2, y3, y4, y5⟩ := ky_cells hr5
    have hc := hv.cell
    gi_wp2_with (gi_at_builtin; refine wpListIn_append_own _ rfl _ _ 89 rfl w.heap.size 77 i0 (.agg kyZ) 6 48 Tryz.underlying89 hi hz0 hz1 hz2 rfl (by decide) _ _ _ rfl (hrow.alloc _) ⟨W.heap.size, 0, none⟩ 1 1 (encK x.val) rfl rfl (cell_six_new _ _ _) (encK_one _) (by unfold maxLen; omega) (by omega) (by have := hBW.size; simp; omega) ?_; intro v' w1 hown' hgrow _; obtain ⟨g', cap', rfl⟩ := ownsRow_succ hown'; obtain ⟨hv1, hv2, hr2, hk2, hb2⟩ := hv.appended (by decide) hrow hBW.size (Nat.le_refl _) hown' hgrow; have hc1 := hv1.cell; have hf1 := hv1.frozen)
    exact ⟨hk2.from _, walks_of_others hk2, ⟨_, hv2, by simpa [valsT, cellsK_snoc] using hr2, trivial⟩, hBW.trans hb2⟩
  case done =>
    rintro D ts W hD hS ⟨⟨v, hv, hrow, _⟩, hBW⟩ hK
    have hc := hv.cell
    gi_wp2
    refine ⟨by simp, .inl ⟨_, _, rfl, run_takeDeferred hK, ?_⟩⟩
    exact ⟨_, results_tmp rfl _ _ _, v, rfl, ⟨ts, hS, ownsRow_putObj hrow _ hK rfl⟩, hBW.trans (belowK_b (w := w) (Nat.le_refl _) W D _ _ (by simp at hD; omega) hK rfl rfl)⟩
  case stop =>
    rintro D c pre W _ _ h _
    exact h.elim
end Go.Proofs.YtdmldnlgamnkeaaGreat
