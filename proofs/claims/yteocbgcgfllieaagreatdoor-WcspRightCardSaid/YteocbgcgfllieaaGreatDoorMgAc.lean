/- Texts of this seat laid together (no statement of its own). -/
import Derived.Test.YteocbgcgfllieaaGreatDoorMgR
import Derived.Maps.RangeWalk
namespace Go.Proofs.YteocbgcgfllieaaGreatDoor
open Go.RowKit Go.Maps
set_option linter.unusedVariables false
theorem Own.lt {w : World} {base : Nat} {v : Value} {l : List Nat} (h : Own w base v l) : ∀ k, v.ownBlock = some k → base ≤ k ∧ k < w.heap.size := World.ownsRow.lt h
/-- The tuples of a function's lines, in their order. -/
def linesT (l : List Nat) (o : Int) (f : List Nat → Int) : List (List Nat) := ((List.range (prodL l)).filter fun i => decide (f (tupL l i) ≠ o)).map (tupL l)
theorem linesT_mem {l : List Nat} {o : Int} {f : List Nat → Int} (hl : ∀ n ∈ l, 1 ≤ n) (t : List Nat) : t ∈ linesT l o f ↔ InL l t ∧ f t ≠ o := by
  unfold linesT
  simp only [List.mem_map, List.mem_filter, List.mem_range, decide_eq_true_eq]
  constructor
  · rintro ⟨i, ⟨h1, h2⟩, rfl⟩
    exact ⟨tupL_in hl i, h2⟩
  · rintro ⟨h1, h2⟩
    exact ⟨numL l t, ⟨h1.num_lt, by rw [h1.tup]; exact h2⟩, h1.tup⟩
theorem linesT_num {l : List Nat} {o : Int} {f : List Nat → Int} : (linesT l o f).map (numL l) = (List.range (prodL l)).filter fun i => decide (f (tupL l i) ≠ o) := by
  unfold linesT
  rw [List.map_map]
  conv => rhs; rw [← List.map_id ((List.range (prodL l)).filter fun i => decide (f (tupL l i) ≠ o))]
  refine List.map_congr_left fun i hi => ?_
  exact num_tup (List.mem_range.1 (List.mem_filter.1 hi).1)
theorem ownsMap_keys {w : World} {P : Program} {k : TypeId} {R : Value → Option (DataW Unit × List MemPlace)} {b n : Nat} {D : DataW Unit} (h : w.ownsMap P k R b n D) (K : Keyed P k) :
    ∃ es, D = .map es ∧ es.Pairwise (fun p q => p.1 ≠ q.1) ∧ ∀ p ∈ es, WideAt.IsKeyLit p.1 := by
  obtain ⟨es, clock, _, F, _, rfl⟩ := h
  refine ⟨_, rfl, ((WideShapes.sorted_perm _).pairwise_iff (fun {_ _} hne => Ne.symm hne)).2 (Maps.fit_apart K F), fun p hp => ?_⟩
  have hp' := (WideShapes.sorted_perm _).mem_iff.1 hp
  obtain ⟨v, hv⟩ := Maps.fit_keys F p hp'
  exact K.key hv
theorem nodup_lenG {α : Type} [BEq α] [LawfulBEq α] : ∀ {V L : List α}, V.Pairwise (· ≠ ·) → (∀ x ∈ V, x ∈ L) → V.length ≤ L.length
  | [], L, _, _ => Nat.zero_le _
  | x :: V, L, h, hs => by
    have hx := hs x (List.mem_cons_self ..)
    have h2 := List.pairwise_cons.1 h
    have ih := nodup_lenG (L := L.erase x) h2.2 fun y hy => (List.mem_erase_of_ne (fun e => h2.1 y hy e.symm)).2 (hs y (List.mem_cons_of_mem _ hy))
    rw [List.length_erase_of_mem hx] at ih
    have : 0 < L.length := List.length_pos_of_mem hx
    show V.length + 1 ≤ L.length
    omega
theorem linesT_nodup (l : List Nat) (o : Int) (f : List Nat → Int) : (linesT l o f).Pairwise (· ≠ ·) := by
  have h : ((linesT l o f).map (numL l)).Pairwise (· < ·) := by
    rw [linesT_num]
    exact List.pairwise_lt_range.filter _
  rw [List.pairwise_map] at h
  exact h.imp fun {a b} hlt e => by rw [e] at hlt; exact Nat.lt_irrefl _ hlt
theorem size_lines {w : World} {b n : Nat} {l : List Nat} {o : Int} {f : List Nat → Int} {D : DataW Unit} (h : w.ownsMap Tryz.prog 103 (plainElem Tryz.prog 2) b n D) (hrep : RepF D l o f) (h6 : l.length ≤ 6) (h32 : ∀ n ∈ l, 1 ≤ n ∧ n ≤ 32) :
    Maps.size D = (linesT l o f).length := by
  classical
  obtain ⟨es, rfl, hp, hk⟩ := ownsMap_keys h keyed
  have h1 : ∀ n ∈ l, 1 ≤ n := fun n hn => (h32 n hn).1
  have hu : ∀ n ∈ l, n ≤ 32 := fun n hn => (h32 n hn).2
  have hh : ∀ k, Maps.has (DataW.map es) k = true ↔ ∃ p ∈ es, p.1.sameKey k = true := fun k => by rw [Maps.has_eq, List.any_eq_true]
  let e1 := es.map (·.1)
  let e2 := (linesT l o f).map keyL
  letI : BEq Lit := instBEqOfDecidableEq
  have m12 : ∀ x, x ∈ es.map (·.1) ↔ x ∈ (linesT l o f).map keyL := fun x => by
    constructor
    · intro hx
      obtain ⟨p, hpe, rfl⟩ := List.mem_map.1 hx
      have hhas := (hh p.1).2 ⟨p, hpe, WideAt.sameKey_self (hk p hpe)⟩
      obtain ⟨t, ht, e⟩ := hrep.2 _ hhas
      rw [e] at hhas ⊢
      rw [(hrep.1 t ht).1] at hhas
      exact List.mem_map.2 ⟨t, (linesT_mem h1 t).2 ⟨ht, of_decide_eq_true hhas⟩, rfl⟩
    · intro hx
      obtain ⟨t, ht, rfl⟩ := List.mem_map.1 hx
      obtain ⟨ht1, ht2⟩ := (linesT_mem h1 t).1 ht
      have := (hrep.1 t ht1).1
      rw [decide_eq_true ht2] at this
      obtain ⟨p, hpe, e⟩ := (hh _).1 this
      exact List.mem_map.2 ⟨p, hpe, WideAt.sameKey_eq e⟩
  have n1 : (es.map (·.1)).Pairwise (· ≠ ·) := by rw [List.pairwise_map]; exact hp
  have n2 : ((linesT l o f).map keyL).Pairwise (· ≠ ·) := by
    rw [List.pairwise_map]
    have h := linesT_nodup l o f
    rw [List.pairwise_iff_getElem] at h ⊢
    intro i j hi hj hij e
    exact h i j hi hj hij (keyL_inj h6 hu ((linesT_mem h1 _).1 (List.getElem_mem hi)).1 ((linesT_mem h1 _).1 (List.getElem_mem hj)).1 e)
  have a := nodup_lenG n1 fun x hx => (m12 x).1 hx
  have b := nodup_lenG n2 fun x hx => (m12 x).2 hx
  rw [List.length_map, List.length_map] at a b
  rw [Maps.size_eq]
  omega
end Go.Proofs.YteocbgcgfllieaaGreatDoor

namespace Go.Proofs.YteocbgcgfllieaaGreatDoor
open Go.RowKit Go.Maps
set_option linter.unusedVariables false
set_option maxRecDepth 100000 in
theorem tpcount_any (g b N c P : Nat) (A : Option Addr) (l : List Nat) (k o : Int) (f : List Nat → Int) (w : World) (H : TpAt w g b A c N l k o f) (h6 : l.length ≤ 6) (h32 : ∀ n ∈ l, n ≤ 32) (hP : prodL l = P) :
    Calls Tryz.prog 47 #[.pointer (some ⟨g, 0, none⟩)] w fun e w' => e = .returned (.int .i64 (P : Int)) ∧ w = w' := by
  obtain ⟨a0, a1, a2, a3⟩ := H.cells
  have HW := Lib.hid H.ints
  have H6 := Lib.hid h6
  have H32 := Lib.hid h32
  have HPP := Lib.hid hP
  obtain ⟨n, hn⟩ : ∃ n, l.length = n := ⟨_, rfl⟩
  have HN := Lib.hid hn
  have hn6 : n ≤ 6 := by omega
  rw [hn] at a0
  clear H h6 h32 hP hn
  go_enter Tryz.func47, Tryz.ntmps47
  go_wp2_with fail
  go_loop [3, 5, 11] (fun p _ i => ∃ j : Nat, j ≤ n ∧ i = .int .i64 j ∧ p = .int .i64 (prodL (l.take j) : Nat)) (fun _ _ i => n - (intOf i).toNat)
  case atStart => exact ⟨0, Nat.zero_le _, rfl, rfl⟩
  case round =>
    obtain ⟨j, hj, rfl, rfl⟩ := hrel
    by_cases hlt : j < n
    · have hjl : j < l.length := by have := HN.out; omega
      obtain ⟨g', o', rfl, hcell⟩ := HW.out.at_ hjl
      have hb := take_le H6.out H32.out j
      have hx := nth_le H32.out j
      have HP := Lib.hid (prod_take l hjl)
      have hm : prodL (l.take j) * nth l j ≤ 1073741824 := by rw [← HP.out]; exact take_le H6.out H32.out (j + 1)
      have hmi : ((prodL (l.take j) : Nat) : Int) * (nth l j : Int) ≤ 1073741824 := by rw [← Int.natCast_mul]; omega
      have hm0 : 0 ≤ ((prodL (l.take j) : Nat) : Int) * (nth l j : Int) := by rw [← Int.natCast_mul]; omega
      clear hjl hm
      generalize nth l j = x at hcell hx HP hmi hm0
      generalize prodL (l.take j) = p at hb HP hmi hm0
      go_wp2
      go_round
      case rel => exact ⟨j + 1, by omega, by go_num, by rw [HP.out, Int.natCast_mul]⟩
      case measure => simp [intOf]; omega
    · go_wp2
      go_ret
      obtain rfl : j = n := by omega
      exact ⟨ret_int (by rw [← HN.out, List.take_length, HPP.out]), rfl⟩
/-- What has come of the one's lines: ts; told counts those that the other one has no line of. -/
structure SeenT (left : Lit → Bool) (l : List Nat) (o o' : Int) (f f' : List Nat → Int) (ts : List (List Nat)) (n : Nat) : Prop where
  nodup : ts.Pairwise (· ≠ ·)
  mem : ∀ t, t ∈ ts ↔ InL l t ∧ f' t ≠ o' ∧ left (keyL t) = false
  told : n = (linesT l o f).length + (ts.filter fun t => decide (f t = o)).length
  same : ∀ t, t ∈ ts → f t = f' t
theorem SeenT.start {D : DataW Unit} {l : List Nat} {o o' : Int} {f f' : List Nat → Int} (hrep : RepF D l o' f') : SeenT (Maps.has D) l o o' f f' [] (linesT l o f).length := by
  refine ⟨List.Pairwise.nil, fun t => ⟨fun h => (by cases h), fun h => ?_⟩, rfl, fun t h => (by cases h)⟩
  have := (hrep.1 t h.1).1
  rw [h.2.2, decide_eq_true h.2.1] at this
  cases this
theorem SeenT.step {left : Lit → Bool} {l t : List Nat} {o o' : Int} {f f' : List Nat → Int} {ts : List (List Nat)} {n : Nat} (H : SeenT left l o o' f f' ts n) (h6 : l.length ≤ 6) (h32 : ∀ n ∈ l, 1 ≤ n ∧ n ≤ 32) (ht : InL l t) (hn : f' t ≠ o') (hl : left (keyL t) = true) (hs : f t = f' t) :
    SeenT (fun y => left y && !y.sameKey (keyL t)) l o o' f f' (t :: ts) (if f t = o then n + 1 else n) := by
  have hnot : t ∉ ts := fun h => by
    have := ((H.mem t).1 h).2.2
    rw [hl] at this
    cases this
  refine ⟨List.pairwise_cons.2 ⟨fun s hs e => hnot (e ▸ hs), H.nodup⟩, fun s => ?_, ?_, fun s h => ?_⟩
  · show s ∈ t :: ts ↔ InL l s ∧ f' s ≠ o' ∧ (left (keyL s) && !(keyL s).sameKey (keyL t)) = false
    rw [List.mem_cons]
    constructor
    · rintro (rfl | h)
      · exact ⟨ht, hn, by rw [WideAt.sameKey_self (keyL_isKey s)]; simp⟩
      · obtain ⟨a, b, c⟩ := (H.mem s).1 h
        exact ⟨a, b, by rw [c]; rfl⟩
    · rintro ⟨a, b, c⟩
      by_cases e : keyL s = keyL t
      · exact .inl (keyL_inj h6 (fun n hn => (h32 n hn).2) a ht e)
      · rw [sameKey_ne e] at c
        exact .inr ((H.mem s).2 ⟨a, b, by simpa using c⟩)
  · rw [List.filter_cons]
    by_cases e : f t = o
    · rw [if_pos e, if_pos (decide_eq_true e), List.length_cons]
      have := H.told
      omega
    · rw [if_neg e, if_neg (by simpa using e)]
      exact H.told
  · rcases List.mem_cons.1 h with rfl | h
    · exact hs
    · exact H.same s h
theorem SeenT.le {left : Lit → Bool} {l : List Nat} {o o' : Int} {f f' : List Nat → Int} {ts : List (List Nat)} {n : Nat} (H : SeenT left l o o' f f' ts n) (h1 : ∀ n ∈ l, 1 ≤ n) : n ≤ prodL l := by
  let U := linesT l o f ++ ts.filter fun t => decide (f t = o)
  have hU : n = U.length := by rw [H.told, List.length_append]
  have hA : ∀ t, InL l t → t ∈ allL l := fun t ht => by
    rw [← ht.tup]
    have := allL_get l (i := numL l t) ht.num_lt
    have h2 : numL l t < (allL l).length := by rw [allL_length]; exact ht.num_lt
    rw [List.getD_eq_getElem?_getD, List.getElem?_eq_getElem h2] at this
    rw [← this]
    exact List.getElem_mem h2
  have hn : U.Pairwise (· ≠ ·) := by
    refine List.pairwise_append.2 ⟨linesT_nodup l o f, H.nodup.filter _, fun a ha b hb e => ?_⟩
    subst e
    exact ((linesT_mem h1 a).1 ha).2 (of_decide_eq_true (List.mem_filter.1 hb).2)
  have hle : U.length ≤ (allL l).length := nodup_lenG hn fun t ht => hA t (by
    rcases List.mem_append.1 ht with h | h
    · exact ((linesT_mem h1 t).1 h).1
    · exact ((H.mem t).1 (List.mem_filter.1 h).1).1)
  rw [allL_length] at hle
  omega
/-- Where all have come: what was told are all tuples just if each has a line of the one or the other. -/
theorem SeenT.all {left : Lit → Bool} {l : List Nat} {o o' : Int} {f f' : List Nat → Int} {ts : List (List Nat)} {n : Nat} (H : SeenT left l o o' f f' ts n) (h1 : ∀ n ∈ l, 1 ≤ n) (h0 : ∀ y, left y = false) :
    (n = prodL l ↔ ∀ t, InL l t → f t ≠ o ∨ f' t ≠ o') ∧ n ≤ prodL l := by
  have hm : ∀ t, t ∈ ts ↔ InL l t ∧ f' t ≠ o' := fun t => by rw [H.mem t, h0]; simp
  let U := linesT l o f ++ ts.filter fun t => decide (f t = o)
  have hU : n = U.length := by rw [H.told, List.length_append]
  have hmem : ∀ t, t ∈ U ↔ InL l t ∧ (f t ≠ o ∨ f' t ≠ o') := fun t => by
    rw [List.mem_append, linesT_mem h1, List.mem_filter, hm]
    constructor
    · rintro (⟨a, b⟩ | ⟨⟨a, b⟩, c⟩)
      · exact ⟨a, .inl b⟩
      · exact ⟨a, .inr b⟩
    · rintro ⟨a, b⟩
      by_cases e : f t = o
      · rcases b with b | b
        · exact absurd e b
        · exact .inr ⟨⟨a, b⟩, decide_eq_true e⟩
      · exact .inl ⟨a, e⟩
  have hn : U.Pairwise (· ≠ ·) := by
    refine List.pairwise_append.2 ⟨linesT_nodup l o f, H.nodup.filter _, fun a ha b hb e => ?_⟩
    subst e
    exact ((linesT_mem h1 a).1 ha).2 (of_decide_eq_true (List.mem_filter.1 hb).2)
  have hA : ∀ t, InL l t → t ∈ allL l := fun t ht => by
    rw [← ht.tup]
    have := allL_get l (i := numL l t) ht.num_lt
    have h2 : numL l t < (allL l).length := by rw [allL_length]; exact ht.num_lt
    rw [List.getD_eq_getElem?_getD, List.getElem?_eq_getElem h2] at this
    rw [← this]
    exact List.getElem_mem h2
  have hA2 : ∀ t, t ∈ allL l → InL l t := fun t ht => by
    obtain ⟨i, hi, e⟩ := List.getElem_of_mem ht
    have hi' : i < prodL l := by rw [← allL_length]; exact hi
    have := allL_get l hi'
    rw [List.getD_eq_getElem?_getD, List.getElem?_eq_getElem hi] at this
    have e2 : t = tupL l i := by rw [← e]; exact this
    rw [e2]
    exact tupL_in h1 i
  have hle : U.length ≤ (allL l).length := nodup_lenG hn fun t ht => hA t ((hmem t).1 ht).1
  rw [allL_length] at hle
  refine ⟨⟨fun e t ht => ?_, fun h => ?_⟩, by omega⟩
  · by_cases ht' : t ∈ U
    · exact ((hmem t).1 ht').2
    · have : (t :: U).length ≤ (allL l).length := nodup_lenG (List.pairwise_cons.2 ⟨fun s hs e => ht' (e ▸ hs), hn⟩) fun s hs => by
        rcases List.mem_cons.1 hs with rfl | hs
        · exact hA _ ht
        · exact hA _ ((hmem s).1 hs).1
      rw [List.length_cons, allL_length] at this
      omega
  · have hnd : (allL l).Pairwise (· ≠ ·) := by
      rw [List.pairwise_iff_getElem]
      intro i j hi hj hij e
      have hi' : i < prodL l := by rw [← allL_length]; exact hi
      have hj' : j < prodL l := by rw [← allL_length]; exact hj
      have e1 := allL_get l hi'
      have e2 := allL_get l hj'
      rw [List.getD_eq_getElem?_getD, List.getElem?_eq_getElem hi] at e1
      rw [List.getD_eq_getElem?_getD, List.getElem?_eq_getElem hj] at e2
      have e3 : tupL l i = tupL l j := by rw [← e1, ← e2]; exact e
      have := congrArg (numL l) e3
      rw [num_tup hi', num_tup hj'] at this
      omega
    have := nodup_lenG hnd (L := U) fun t ht => (hmem t).2 ⟨hA2 t ht, h t (hA2 t ht)⟩
    rw [allL_length] at this
    omega
/-- Are two functions of sizes l alike? -/
def SameF (l : List Nat) (f f' : List Nat → Int) : Prop := ∀ t, InL l t → f t = f' t
/-- What has come of the other one's lines is alike. -/
def Went (left : Lit → Bool) (l : List Nat) (o : Int) (f f' : List Nat → Int) : Prop := ∀ t, InL l t → f t ≠ o → left (keyL t) = true ∨ f' t = f t
theorem Went.start {D : DataW Unit} {l : List Nat} {o : Int} {f f' : List Nat → Int} (hrep : RepF D l o f) : Went (Maps.has D) l o f f' := fun t ht h => by
  rw [(hrep.1 t ht).1]
  exact .inl (decide_eq_true h)
theorem Went.step {left : Lit → Bool} {l t : List Nat} {o : Int} {f f' : List Nat → Int} (H : Went left l o f f') (h6 : l.length ≤ 6) (h32 : ∀ n ∈ l, 1 ≤ n ∧ n ≤ 32) (ht : InL l t) (he : f' t = f t) : Went (fun y => left y && !y.sameKey (keyL t)) l o f f' := fun s hs hn => by
  show (left (keyL s) && !(keyL s).sameKey (keyL t)) = true ∨ _
  by_cases e : keyL s = keyL t
  · obtain rfl := keyL_inj h6 (fun n hn => (h32 n hn).2) hs ht e
    exact .inr he
  · rw [sameKey_ne e]
    rcases H s hs hn with h | h
    · exact .inl (by rw [h]; rfl)
    · exact .inr h
theorem same_all {left left2 : Lit → Bool} {l : List Nat} {o o' : Int} {f f' : List Nat → Int} {ts : List (List Nat)} {n : Nat} (H : SeenT left l o o' f f' ts n) (G : Went left2 l o f f') (h1 : ∀ n ∈ l, 1 ≤ n) (h0 : ∀ y, left y = false) (h2 : ∀ y, left2 y = false) :
    SameF l f f' ↔ (o = o' ∨ n = prodL l) := by
  have hm : ∀ t, InL l t → f' t ≠ o' → f t = f' t := fun t ht h => H.same t ((H.mem t).2 ⟨ht, h, h0 _⟩)
  have hg : ∀ t, InL l t → f t ≠ o → f t = f' t := fun t ht h => by
    rcases G t ht h with h | h
    · rw [h2] at h
      cases h
    · exact h.symm
  have ha := (H.all h1 h0).1
  constructor
  · intro hs
    by_cases e : o = o'
    · exact .inl e
    · refine .inr (ha.2 fun t ht => ?_)
      by_cases e1 : f t = o
      · exact .inr fun e2 => e (by rw [← e1, ← e2]; exact hs t ht)
      · exact .inl e1
  · rintro (e | e) t ht
    · by_cases e1 : f t = o
      · by_cases e2 : f' t = o'
        · rw [e1, e2, e]
        · exact hm t ht e2
      · exact hg t ht e1
    · rcases ha.1 e t ht with h | h
      · exact hg t ht h
      · exact hm t ht h
end Go.Proofs.YteocbgcgfllieaaGreatDoor
