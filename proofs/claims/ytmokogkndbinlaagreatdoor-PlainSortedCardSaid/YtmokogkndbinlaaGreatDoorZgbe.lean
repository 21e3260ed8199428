import Derived.Test.YtmokogkndbinlaaGreatDoorZgbd
set_option linter.all false
namespace Go.Proofs.YtmokogkndbinlaaGreatDoor
open Go.Lib (hid)
open Go.RowKit Go.Shelf Go.Sort
theorem nth_get {l : List Nat} {i : Nat} (h : i < l.length) : nth l i = l[i] := by simp [nth, List.getD_eq_getElem?_getD, h]
theorem rises_lt {l : List Nat} (h : Rises l) : l.Pairwise (· < ·) := by
 induction l with
 | nil => exact .nil
 | cons a l ih =>
  have h2 : Rises l := fun i hi => h (i + 1) (by simpa using hi)
  have hs := ih h2
  refine .cons (fun b hb => ?_) hs
  cases l with
  | nil => cases hb
  | cons c r =>
   have h1 := h 0 (by simp)
   have h1 : a < c := h1
   rcases List.mem_cons.1 hb with rfl | hb
   ·exact h1
   have := (List.pairwise_cons.1 hs).1 b hb
   omega
theorem lt_rises {l : List Nat} (h : l.Pairwise (· < ·)) : Rises l := fun i hi => by
 rw [nth_get hi, nth_get (by omega)]
 exact List.pairwise_iff_getElem.1 h i (i + 1) (by omega) hi (by omega)
theorem lt_le {l : List Nat} (h : l.Pairwise (· < ·)) : l.Pairwise (· ≤ ·) := h.imp fun h => by omega
theorem cnt_nth {l : List Nat} (h : l.Pairwise (· < ·)) : ∀ {p : Nat}, p < l.length → l.countP (· < nth l p) = p := by
 induction l with
 | nil => intro p hp; simp at hp
 | cons a l ih =>
  intro p hp
  have hs := List.pairwise_cons.1 h
  cases p with
  | zero =>
   show (a :: l).countP (· < a) = 0
   rw [List.countP_eq_zero]
   intro x hx
   rcases List.mem_cons.1 hx with rfl | hx
   ·simp
   have := hs.1 x hx; simp; omega
  | succ p =>
   have hp' : p < l.length := by simpa using hp
   show (a :: l).countP (· < nth l p) = p + 1
   rw [List.countP_cons, ih hs.2 hp']
   have : a < nth l p := hs.1 _ (by rw [nth_get hp']; exact List.getElem_mem hp')
   simp [this]
theorem nth_cnt {l : List Nat} (h : l.Pairwise (· < ·)) {v : Nat} (hv : v ∈ l) : l.countP (· < v) < l.length ∧ nth l (l.countP (· < v)) = v := by
 obtain ⟨p, hp, e⟩ := List.getElem_of_mem hv
 have h1 : nth l p = v := by rw [nth_get hp]; exact e
 have h2 := cnt_nth h hp
 rw [h1] at h2
 rw [h2]
 exact ⟨hp, h1⟩
theorem jn_no {ap l : List Nat} {d : Nat → Nat} {p : Nat} : ∀ j, (∀ i, i < j → nth ap i ≠ p) → jn ap l d j p = d p
 | 0, _ => rfl
 | j + 1, h => by
  show (if p = nth ap j then nth l j else jn ap l d j p) = d p
  rw [if_neg (fun e => h j (by omega) e.symm)]
  exact jn_no j fun i hi => h i (by omega)
theorem jn_yes {ap l : List Nat} {d : Nat → Nat} {n : Nat} (hinj : ∀ i j, i < n → j < n → nth ap i = nth ap j → i = j) : ∀ j, j ≤ n → ∀ i, i < j → jn ap l d j (nth ap i) = nth l i
 | 0, _, i, hi => by omega
 | j + 1, hj, i, hi => by
  show (if nth ap i = nth ap j then nth l j else jn ap l d j (nth ap i)) = nth l i
  by_cases e : nth ap i = nth ap j
  ·rw [if_pos e, hinj i j (by omega) (by omega) e]
  rw [if_neg e]
  refine jn_yes hinj j (by omega) i ?_
  rcases Nat.lt_or_ge i j with h | h
  ·exact h
  exact absurd (by rw [show i = j by omega]) e
theorem plcL_nth {V a : List Nat} {i : Nat} (h : i < a.length) : nth (plcL V a) i = V.countP (· < nth a i) := nth_map h
theorem plc_inj {V a : List Nat} (hV : V.Pairwise (· < ·)) (ha : a.Pairwise (· < ·)) (hs : ∀ x ∈ a, x ∈ V) : ∀ i j, i < a.length → j < a.length → nth (plcL V a) i = nth (plcL V a) j → i = j := by
 intro i j hi hj e
 rw [plcL_nth hi, plcL_nth hj] at e
 have h1 := (nth_cnt hV (hs _ (nth_mem hi))).2
 have h2 := (nth_cnt hV (hs _ (nth_mem hj))).2
 rw [e, h2] at h1
 have h3 := cnt_nth ha hi
 have h4 := cnt_nth ha hj
 rw [h1] at h4
 omega
theorem ext_nth {l t : List Nat} (h : l.length = t.length) (he : ∀ i, i < l.length → nth l i = nth t i) : l = t := by
 refine List.ext_getElem h fun i h1 h2 => ?_
 have := he i h1
 rwa [nth_get h1, nth_get h2] at this
structure Uni (V a b : List Nat) : Prop where
 lt : V.Pairwise (· < ·)
 mem : ∀ x, x ∈ V ↔ x ∈ a ∨ x ∈ b
theorem Uni.pa {V a b l1 l2 : List Nat} (H : Uni V a b) (ha : Rises a) (hb : Rises b) (hl1 : l1.length = a.length) (hl2 : l2.length = b.length) (hag : AgB a b l1 l2 = true) : pickL (joinL V.length (plcL V a) l1 (plcL V b) l2) (plcL V a) = l1 := by
 have sa := rises_lt ha
 have sb := rises_lt hb
 have ia := plc_inj H.lt sa (fun x hx => (H.mem x).2 (.inl hx))
 have ib := plc_inj H.lt sb (fun x hx => (H.mem x).2 (.inr hx))
 refine ext_nth (by rw [pickL_len, plcL_len, hl1]) fun i hi => ?_
 rw [pickL_len, plcL_len] at hi
 have hm := (nth_cnt H.lt ((H.mem _).2 (.inl (nth_mem hi))))
 rw [pickL_nth (by rw [plcL_len]; exact hi)]
 have hp := plcL_nth (V := V) hi
 rw [joinL, nth_range (by rw [hp]; exact hm.1), joinF, plcL_len, plcL_len]
 by_cases h : ∃ j, j < b.length ∧ nth (plcL V b) j = nth (plcL V a) i
 rotate_left
 ·rw [jn_no b.length (fun j hj e => h ⟨j, hj, e⟩), jn_yes (n := a.length) ia a.length (Nat.le_refl _) i hi]
 obtain ⟨j, hj, e⟩ := h
 rw [← e, jn_yes (n := b.length) ib b.length (Nat.le_refl _) j hj]
 have hab : nth b j = nth a i := by
  rw [hp, plcL_nth hj] at e
  have h1 := (nth_cnt H.lt ((H.mem _).2 (.inr (nth_mem hj)))).2
  rw [e, hm.2] at h1
  exact h1.symm
 have hg := List.all_eq_true.1 hag i (List.mem_range.2 hi)
 have hc : b.contains (nth a i) = true := by rw [← hab]; exact List.contains_iff_mem.2 (nth_mem hj)
 rw [AgAt, hc, ← hab, cnt_nth sb hj] at hg
 simpa using (by simpa using hg : nth l1 i = nth l2 j).symm
theorem sortI_mem {l : List Nat} {x : Int} : x ∈ sortI l ↔ ∃ n ∈ l, (n : Int) = x := by
 rw [sortI, List.mem_mergeSort, List.mem_map]
theorem sortI_sorted (l : List Nat) : (sortI l).Pairwise (· ≤ ·) := by
 have h := List.pairwise_mergeSort (le := fun x y : Int => decide (x ≤ y)) (by intro a b c h1 h2; simp at *; omega) (by intro a b; simp; omega) (l.map fun i : Nat => (i : Int))
 exact h.imp fun h => by simpa using h
theorem comp_eq (zs : List Int) : Lib.compact zs = ((List.range zs.length).filter (Lib.keeps zs.toArray)).map (zs.getD · 0) := by
 rw [Lib.compact, Lib.compactUpTo]
 refine List.map_congr_left fun i hi => ?_
 have : i < zs.length := by have := (List.mem_filter.1 hi).1; simpa using this
 simp [List.getD_eq_getElem?_getD, this]
theorem keeps_iff {zs : List Int} {j : Nat} (h : j < zs.length) : Lib.keeps zs.toArray j = true ↔ j = 0 ∨ zs.getD j 0 ≠ zs.getD (j - 1) 0 := by
 have h2 : j - 1 < zs.length := by omega
 simp [Lib.keeps, List.getD_eq_getElem?_getD, h, h2]
theorem comp_lt {zs : List Int} (h : zs.Pairwise (· ≤ ·)) : (Lib.compact zs).Pairwise (· < ·) := by
 rw [comp_eq, List.pairwise_map]
 have hg : ∀ i j, i ≤ j → j < zs.length → zs.getD i 0 ≤ zs.getD j 0 := by
  intro i j hij hj
  rcases Nat.lt_or_ge i j with h1 | h1
  ·have := List.pairwise_iff_getElem.1 h i j (by omega) hj h1
   simpa [List.getD_eq_getElem?_getD, hj, show i < zs.length by omega] using this
  rw [show i = j by omega]; exact Int.le_refl _
 have hp : ((List.range zs.length).filter (Lib.keeps zs.toArray)).Pairwise (· < ·) := List.Pairwise.filter _ List.pairwise_lt_range
 refine hp.imp_of_mem fun {i j} hi hj hij => ?_
 have hj' := List.mem_filter.1 hj
 have hjl : j < zs.length := by simpa using hj'.1
 have hk := (keeps_iff hjl).1 hj'.2
 have h1 := hg i (j - 1) (by omega) (by omega)
 have h2 := hg (j - 1) j (by omega) hjl
 rcases hk with hk | hk
 ·omega
 omega
theorem comp_mem {zs : List Int} {x : Int} : x ∈ Lib.compact zs ↔ x ∈ zs := by
 rw [comp_eq, List.mem_map]
 constructor
 ·rintro ⟨i, hi, rfl⟩
  have hl : i < zs.length := by have := (List.mem_filter.1 hi).1; simpa using this
  rw [List.getD_eq_getElem?_getD, List.getElem?_eq_getElem hl]
  exact List.getElem_mem hl
 intro hx
 have : ∃ j, j < zs.length ∧ zs.getD j 0 = x := by
  obtain ⟨j, hj, e⟩ := List.getElem_of_mem hx
  exact ⟨j, hj, by rw [List.getD_eq_getElem?_getD, List.getElem?_eq_getElem hj]; exact e⟩
 obtain ⟨j, hj, e⟩ := this
 induction j with
 | zero => exact ⟨0, List.mem_filter.2 ⟨by simpa using hj, (keeps_iff hj).2 (.inl rfl)⟩, e⟩
 | succ j ih =>
  by_cases hk : zs.getD (j + 1) 0 = zs.getD j 0
  ·exact ih (by omega) (hk.symm.trans e)
  exact ⟨j + 1, List.mem_filter.2 ⟨by simpa using hj, (keeps_iff hj).2 (.inr hk)⟩, e⟩
theorem uni_ex (a b : List Nat) : ∃ V, Lib.compact (sortI (a ++ b)) = V.map (fun i : Nat => (i : Int)) ∧ Uni V a b := by
 have hm : ∀ x : Int, x ∈ Lib.compact (sortI (a ++ b)) ↔ ∃ n ∈ a ++ b, (n : Int) = x := fun x => by rw [comp_mem, sortI_mem]
 have hlt := comp_lt (sortI_sorted (a ++ b))
 generalize Lib.compact (sortI (a ++ b)) = C at hm hlt
 have hc : C = (C.map Int.toNat).map fun i : Nat => (i : Int) := by
  rw [List.map_map]
  refine (List.map_id' C).symm.trans (List.map_congr_left fun x hx => ?_)
  obtain ⟨n, _, e⟩ := (hm x).1 hx
  subst e
  simp
 refine ⟨C.map Int.toNat, hc, ?_, fun x => ?_⟩
 ·rw [List.pairwise_map]
  refine hlt.imp_of_mem fun {x y} hx hy hxy => ?_
  obtain ⟨n, _, e⟩ := (hm x).1 hx
  obtain ⟨m, _, e2⟩ := (hm y).1 hy
  subst e; subst e2
  simp; omega
 rw [List.mem_map]
 constructor
 ·rintro ⟨y, hy, rfl⟩
  obtain ⟨n, hn, e⟩ := (hm y).1 hy
  subst e
  simpa using hn
 intro h
 exact ⟨(x : Int), (hm _).2 ⟨x, List.mem_append.2 h, rfl⟩, by simp⟩
theorem rise_uniq {l t : List Nat} (h1 : l.Pairwise (· < ·)) (h2 : t.Pairwise (· < ·)) (h : ∀ x, x ∈ l ↔ x ∈ t) : l = t := by
 induction l generalizing t with
 | nil =>
  cases t with
  | nil => rfl
  | cons b t => exact absurd ((h b).2 (by simp)) (by simp)
 | cons a l ih =>
  cases t with
  | nil => exact absurd ((h a).1 (by simp)) (by simp)
  | cons b t =>
   have p1 := List.pairwise_cons.1 h1
   have p2 := List.pairwise_cons.1 h2
   have hab : a = b := by
    rcases List.mem_cons.1 ((h a).1 (by simp)) with e | e
    ·exact e
    rcases List.mem_cons.1 ((h b).2 (by simp)) with e2 | e2
    ·exact e2.symm
    have := p1.1 b e2
    have := p2.1 a e
    omega
   subst hab
   refine congrArg _ (ih p1.2 p2.2 fun x => ⟨fun hx => ?_, fun hx => ?_⟩)
   ·rcases List.mem_cons.1 ((h x).1 (List.mem_cons_of_mem _ hx)) with e | e
    ·have := p1.1 x hx; omega
    exact e
   rcases List.mem_cons.1 ((h x).2 (List.mem_cons_of_mem _ hx)) with e | e
   ·have := p2.1 x hx; omega
   exact e
def lexL : List Nat → List Nat → Bool
 | a :: s, b :: t => decide (a < b) || (decide (a = b) && lexL s t)
 | _, _ => false
def ltS (a b : List Nat) : Prop := a.length < b.length ∨ (a.length = b.length ∧ lexL a b = true)
theorem lexL_cons (a b : Nat) (s t : List Nat) : lexL (a :: s) (b :: t) = true ↔ a < b ∨ (a = b ∧ lexL s t = true) := by simp [lexL]
theorem lexL_irr : ∀ a : List Nat, ¬ lexL a a = true
 | [], h => by cases h
 | a :: s, h => by
  rw [lexL_cons] at h
  rcases h with h | ⟨_, h⟩
  ·omega
  exact lexL_irr s h
theorem lexL_trans : ∀ {a b c : List Nat}, lexL a b = true → lexL b c = true → lexL a c = true
 | a :: s, b :: t, c :: u, h, h2 => by
  rw [lexL_cons] at *
  rcases h with h | ⟨e, h⟩
  ·rcases h2 with h2 | ⟨e2, h2⟩
   ·left; omega
   left; omega
  rcases h2 with h2 | ⟨e2, h2⟩
  ·left; omega
  exact .inr ⟨by omega, lexL_trans h h2⟩
 | [], _, _, h, _ => by cases h
 | _ :: _, [], _, h, _ => by cases h
 | _ :: _, _ :: _, [], _, h => by cases h
theorem lexL_tri : ∀ {a b : List Nat}, a.length = b.length → lexL a b = true ∨ a = b ∨ lexL b a = true
 | [], [], _ => .inr (.inl rfl)
 | a :: s, b :: t, h => by
  rw [lexL_cons, lexL_cons]
  rcases Nat.lt_trichotomy a b with h1 | h1 | h1
  ·exact .inl (.inl h1)
  ·subst h1
   rcases lexL_tri (a := s) (b := t) (by simpa using h) with h2 | h2 | h2
   ·exact .inl (.inr ⟨rfl, h2⟩)
   ·exact .inr (.inl (by rw [h2]))
   exact .inr (.inr (.inr ⟨rfl, h2⟩))
  exact .inr (.inr (.inl h1))
 | [], _ :: _, h => by simp at h
 | _ :: _, [], h => by simp at h
theorem ltS_irr (a : List Nat) : ¬ ltS a a := by
 rintro (h | ⟨_, h⟩)
 ·omega
 exact lexL_irr a h
theorem ltS_trans {a b c : List Nat} (h : ltS a b) (h2 : ltS b c) : ltS a c := by
 rcases h with h | ⟨e, h⟩
 ·rcases h2 with h2 | ⟨e2, h2⟩
  ·left; omega
  left; omega
 rcases h2 with h2 | ⟨e2, h2⟩
 ·left; omega
 exact .inr ⟨by omega, lexL_trans h h2⟩
theorem ltS_tri (a b : List Nat) : ltS a b ∨ a = b ∨ ltS b a := by
 rcases Nat.lt_trichotomy a.length b.length with h | h | h
 ·exact .inl (.inl h)
 ·rcases lexL_tri h with h1 | h1 | h1
  ·exact .inl (.inr ⟨h, h1⟩)
  ·exact .inr (.inl h1)
  exact .inr (.inr (.inr ⟨h.symm, h1⟩))
 exact .inr (.inr (.inl h))
theorem ltS_asym {a b : List Nat} (h : ltS a b) : ¬ ltS b a := fun h2 => ltS_irr a (ltS_trans h h2)
structure PartM where
 scope : List Nat
 z : Nat → Int
def grpS (ps : List PartM) (S : List Nat) (i : Nat) : Int := ((ps.filter fun p => p.scope == S).map fun p => p.z i).sum
def grpM (k : Int) (ps : List PartM) (S : List Nat) (i : Nat) : Int := min k (grpS ps S i)
theorem grpS_nil (S : List Nat) (i : Nat) : grpS [] S i = 0 := rfl
theorem grpS_snoc_same (ps : List PartM) (p : PartM) (i : Nat) : grpS (ps ++ [p]) p.scope i = grpS ps p.scope i + p.z i := by
 simp [grpS, List.filter_append]
theorem grpS_snoc_other (ps : List PartM) (p : PartM) {S : List Nat} (h : p.scope ≠ S) (i : Nat) : grpS (ps ++ [p]) S i = grpS ps S i := by
 simp [grpS, List.filter_append, h]
theorem grpS_cons (ps : List PartM) (p : PartM) (S : List Nat) (i : Nat) : grpS (p :: ps) S i = (if p.scope = S then p.z i else 0) + grpS ps S i := by
 unfold grpS
 by_cases h : p.scope = S
 ·simp [h]
 simp [h]
theorem sum_perm {l m : List Int} (h : l.Perm m) : l.sum = m.sum := by
 induction h with
 | nil => rfl
 | cons a _ ih => simp [ih]
 | swap a b l => simp; omega
 | trans _ _ ih1 ih2 => exact ih1.trans ih2
theorem grpS_perm {ps qs : List PartM} (h : ps.Perm qs) (S : List Nat) (i : Nat) : grpS ps S i = grpS qs S i := sum_perm ((h.filter _).map _)
theorem sum_nonneg : ∀ {l : List Int}, (∀ x ∈ l, 0 ≤ x) → 0 ≤ l.sum
 | [], _ => Int.le_refl _
 | a :: l, h => by
  have h1 := h a (by simp)
  have h2 := sum_nonneg (l := l) (fun x hx => h x (List.mem_cons_of_mem _ hx))
  simp; omega
theorem grpS_nonneg {ps : List PartM} {S : List Nat} {i : Nat} (h : ∀ p ∈ ps, p.scope = S → 0 ≤ p.z i) : 0 ≤ grpS ps S i := by
 refine sum_nonneg fun x hx => ?_
 rw [List.mem_map] at hx
 obtain ⟨p, hp, rfl⟩ := hx
 rw [List.mem_filter] at hp
 exact h p hp.1 (by simpa using hp.2)
structure GrpI (N : List Nat → Nat) (k : Int) (pre l : List PartM) : Prop where
 ris : (l.map (·.scope)).Pairwise ltS
 has : ∀ p ∈ pre, p.scope ∈ l.map (·.scope)
 frm : ∀ e ∈ l, ∃ p ∈ pre, p.scope = e.scope
 sum : ∀ e ∈ l, ∀ i, i < N e.scope → e.z i = grpM k pre e.scope i
theorem GrpI.nil (N : List Nat → Nat) (k : Int) : GrpI N k [] [] := ⟨List.Pairwise.nil, (fun p h => by cases h), (fun p h => by cases h), (fun p h => by cases h)⟩
theorem scopes_snoc (l : List PartM) (e : PartM) : (l ++ [e]).map (·.scope) = l.map (·.scope) ++ [e.scope] := by simp
theorem GrpI.next {N : List Nat → Nat} {k : Int} {pre l : List PartM} (h : GrpI N k pre l) {p e : PartM} (hs : e.scope = p.scope) (hl : ∀ S ∈ l.map (·.scope), ltS S p.scope) (hz : ∀ i, i < N p.scope → 0 ≤ p.z i ∧ p.z i ≤ k) (he : ∀ i, i < N p.scope → e.z i = p.z i) : GrpI N k (pre ++ [p]) (l ++ [e]) := by
 have hno : ∀ q ∈ pre, q.scope ≠ p.scope := fun q hq e => ltS_irr p.scope (by have := hl _ (h.has q hq); rw [e] at this; exact this)
 refine ⟨?_, fun q hq => ?_, fun q hq => ?_, fun q hq i hi => ?_⟩
 ·rw [scopes_snoc, hs]
  exact List.pairwise_append.2 ⟨h.ris, List.pairwise_singleton _ _, fun a ha b hb => by simp at hb; subst hb; exact hl a ha⟩
 ·rw [scopes_snoc]
  rcases List.mem_append.1 hq with hq | hq
  ·exact List.mem_append_left _ (h.has q hq)
  simp at hq; subst hq; simp [hs]
 ·rcases List.mem_append.1 hq with hq | hq
  ·obtain ⟨p', hp', e'⟩ := h.frm q hq
   exact ⟨p', List.mem_append_left _ hp', e'⟩
  simp at hq; subst hq
  exact ⟨p, by simp, hs.symm⟩
 rcases List.mem_append.1 hq with hq | hq
 ·have hne : p.scope ≠ q.scope := fun e => ltS_irr p.scope (by have := hl q.scope (List.mem_map_of_mem hq); rw [← e] at this; exact this)
  rw [h.sum q hq i hi]
  unfold grpM
  rw [grpS_snoc_other _ _ hne]
 simp at hq; subst hq
 rw [hs] at hi
 rw [he i hi, hs]
 unfold grpM
 rw [grpS_snoc_same]
 have : grpS pre p.scope i = 0 := by
  unfold grpS
  rw [List.filter_eq_nil_iff.2 fun q hq => by simpa using hno q hq]
  rfl
 have := hz i hi
 omega
theorem GrpI.join {N : List Nat → Nat} {k : Int} {pre l : List PartM} {e e' p : PartM} (h : GrpI N k pre (l ++ [e])) (hs : e.scope = p.scope) (hs' : e'.scope = e.scope) (h0 : ∀ q ∈ pre, ∀ i, i < N q.scope → 0 ≤ q.z i) (hz : ∀ i, i < N p.scope → 0 ≤ p.z i) (he : ∀ i, i < N p.scope → e'.z i = min k (e.z i + p.z i)) : GrpI N k (pre ++ [p]) (l ++ [e']) := by
 have hr := h.ris
 rw [scopes_snoc] at hr
 obtain ⟨r1, _, r3⟩ := List.pairwise_append.1 hr
 refine ⟨by rw [scopes_snoc, hs']; exact hr, fun q hq => ?_, fun q hq => ?_, fun q hq i hi => ?_⟩
 ·rw [scopes_snoc, hs', ← scopes_snoc]
  rcases List.mem_append.1 hq with hq | hq
  ·exact h.has q hq
  simp at hq; subst hq; simp [hs]
 ·rcases List.mem_append.1 hq with hq | hq
  ·obtain ⟨p', hp', e1⟩ := h.frm q (List.mem_append_left _ hq)
   exact ⟨p', List.mem_append_left _ hp', e1⟩
  simp at hq; subst hq
  exact ⟨p, by simp, by rw [hs', hs]⟩
 rcases List.mem_append.1 hq with hq | hq
 ·have hne : p.scope ≠ q.scope := fun e1 => ltS_irr p.scope (by have := r3 q.scope (List.mem_map_of_mem hq) e.scope (by simp); rw [← e1, hs] at this; exact this)
  rw [h.sum q (List.mem_append_left _ hq) i hi]
  unfold grpM
  rw [grpS_snoc_other _ _ hne]
 simp at hq; subst hq
 rw [hs', hs] at hi
 rw [he i hi, h.sum e (by simp) i (by rw [hs]; exact hi), hs', hs]
 unfold grpM
 rw [grpS_snoc_same]
 have h1 := grpS_nonneg (ps := pre) (S := p.scope) (i := i) (fun q hq e1 => h0 q hq i (by rw [e1]; exact hi))
 have h2 := hz i hi
 omega
theorem GrpI.perm {N : List Nat → Nat} {k : Int} {pre qs l : List PartM} (h : GrpI N k pre l) (hp : pre.Perm qs) : GrpI N k qs l :=
 ⟨h.ris, fun p hq => h.has p (hp.mem_iff.2 hq), fun e he => by obtain ⟨p, h1, h2⟩ := h.frm e he; exact ⟨p, hp.mem_iff.1 h1, h2⟩, fun e he i hi => by rw [h.sum e he i hi]; unfold grpM; rw [grpS_perm hp]⟩
structure CanI (N : List Nat → Nat) (k : Int) (ps L : List PartM) : Prop where
 ris : (L.map (·.scope)).Pairwise ltS
 mem : ∀ S, S ∈ L.map (·.scope) ↔ (∃ p ∈ ps, p.scope = S) ∧ ∃ i, i < N S ∧ 0 < grpM k ps S i
 sum : ∀ e ∈ L, ∀ i, i < N e.scope → e.z i = grpM k ps e.scope i
theorem GrpI.canon {N : List Nat → Nat} {k : Int} {ps l : List PartM} (h : GrpI N k ps l) (keep : PartM → Bool) (hk : ∀ e ∈ l, keep e = true ↔ ∃ i, i < N e.scope ∧ 0 < e.z i) : CanI N k ps (l.filter keep) := by
 refine ⟨?_, fun S => ?_, fun e he => h.sum e (List.mem_filter.1 he).1⟩
 ·exact List.Pairwise.sublist (List.filter_sublist.map _) h.ris
 constructor
 ·intro hS
  obtain ⟨e, he, rfl⟩ := List.mem_map.1 hS
  obtain ⟨h1, h2⟩ := List.mem_filter.1 he
  obtain ⟨i, hi, hz⟩ := (hk e h1).1 h2
  exact ⟨h.frm e h1, i, hi, by rw [← h.sum e h1 i hi]; exact hz⟩
 rintro ⟨⟨p, hp, rfl⟩, i, hi, hz⟩
 obtain ⟨e, he, hs⟩ := List.mem_map.1 (h.has p hp)
 have hs' : e.scope = p.scope := hs
 refine List.mem_map.2 ⟨e, List.mem_filter.2 ⟨he, (hk e he).2 ⟨i, by rw [hs']; exact hi, ?_⟩⟩, hs⟩
 rw [h.sum e he i (by rw [hs']; exact hi), hs']
 exact hz
def risL (s : List Nat) : List Nat := (sortI s).map Int.toNat
theorem risL_cast (s : List Nat) : sortI s = (risL s).map fun i : Nat => (i : Int) := by
 rw [risL, List.map_map]
 refine (List.map_id' (sortI s)).symm.trans (List.map_congr_left fun x hx => ?_)
 obtain ⟨n, _, e⟩ := sortI_mem.1 hx
 subst e
 simp
theorem risL_len (s : List Nat) : (risL s).length = s.length := by rw [risL, List.length_map, sortI_len]
theorem risL_perm (s : List Nat) : (risL s).Perm s := by
 have h : ((sortI s).map Int.toNat).Perm ((s.map fun i : Nat => (i : Int)).map Int.toNat) := List.Perm.map Int.toNat (List.mergeSort_perm _ _)
 have e : (s.map fun i : Nat => (i : Int)).map Int.toNat = s := by
  rw [List.map_map]
  exact (List.map_congr_left fun x _ => by simp).trans (List.map_id' s)
 rw [e] at h
 exact h
theorem risL_mem {s : List Nat} {x : Nat} : x ∈ risL s ↔ x ∈ s := (risL_perm s).mem_iff
theorem risL_lt {s : List Nat} (h : s.Nodup) : (risL s).Pairwise (· < ·) := by
 have h1 : (risL s).Pairwise (· ≤ ·) := by
  rw [risL, List.pairwise_map]
  exact (sortI_sorted s).imp fun h => by omega
 have h2 : (risL s).Pairwise (· ≠ ·) := List.nodup_iff_pairwise_ne.1 ((risL_perm s).nodup_iff.2 h)
 exact (h1.and h2).imp fun ⟨a, b⟩ => by omega
def idxN : List Nat → Nat → Nat
 | [], _ => 0
 | a :: s, v => if a = v then 0 else idxN s v + 1
theorem idxN_spec : ∀ {s : List Nat} {v : Nat}, v ∈ s → idxN s v < s.length ∧ nth s (idxN s v) = v ∧ ∀ i, i < idxN s v → nth s i ≠ v
 | a :: s, v, h => by
  by_cases e : a = v
  ·have : idxN (a :: s) v = 0 := by simp [idxN, e]
   rw [this]
   exact ⟨by simp, e, fun i hi => absurd hi (Nat.not_lt_zero i)⟩
  have e1 : idxN (a :: s) v = idxN s v + 1 := by simp [idxN, e]
  have hm : v ∈ s := by
   rcases List.mem_cons.1 h with h | h
   ·exact absurd h.symm e
   exact h
  obtain ⟨h1, h2, h3⟩ := idxN_spec hm
  rw [e1]
  refine ⟨by simp; exact h1, h2, fun i hi => ?_⟩
  match i with
  | 0 => exact e
  | i + 1 => exact h3 i (by omega)
theorem nth_inj {s : List Nat} (h : s.Nodup) {i j : Nat} (hi : i < s.length) (hj : j < s.length) (e : nth s i = nth s j) : i = j := by
 have hp := List.nodup_iff_pairwise_ne.1 h
 rw [List.pairwise_iff_getElem] at hp
 rw [nth_get hi, nth_get hj] at e
 rcases Nat.lt_trichotomy i j with h1 | h1 | h1
 ·exact absurd e (hp i j hi hj h1)
 ·exact h1
 exact absurd e.symm (hp j i hj hi h1)
theorem idxN_nth {s : List Nat} (h : s.Nodup) {i : Nat} (hi : i < s.length) : idxN s (nth s i) = i := by
 obtain ⟨h1, h2, _⟩ := idxN_spec (nth_mem hi)
 exact nth_inj h h1 hi h2
def ordL (s : List Nat) : List Nat := (risL s).map (idxN s)
def invL (s : List Nat) : List Nat := s.map fun v => (risL s).countP (· < v)
theorem ordL_len (s : List Nat) : (ordL s).length = s.length := by rw [ordL, List.length_map, risL_len]
theorem invL_len (s : List Nat) : (invL s).length = s.length := by rw [invL, List.length_map]
theorem nth_ord {s : List Nat} {i : Nat} (hi : i < s.length) : nth (ordL s) i = idxN s (nth (risL s) i) := nth_map (by rw [risL_len]; exact hi)
theorem nth_inv {s : List Nat} {i : Nat} (hi : i < s.length) : nth (invL s) i = (risL s).countP (· < nth s i) := nth_map hi
theorem perm_ris {s : List Nat} (h : s.Nodup) : PermL s.length (ordL s) (invL s) where
 ls := ordL_len s
 lr := invL_len s
 bs i hi := by
  rw [nth_ord hi]
  exact (idxN_spec (risL_mem.1 (nth_mem (by rw [risL_len]; exact hi)))).1
 br i hi := by
  rw [nth_inv hi, ← risL_len s]
  exact (nth_cnt (risL_lt h) (risL_mem.2 (nth_mem hi))).1
 sr i hi := by
  have h1 := nth_cnt (risL_lt h) (risL_mem.2 (nth_mem hi))
  rw [nth_inv hi, nth_ord (by rw [← risL_len s]; exact h1.1), h1.2, idxN_nth h hi]
 rs i hi := by
  have h1 := idxN_spec (risL_mem.1 (nth_mem (l := risL s) (i := i) (by rw [risL_len]; exact hi)))
  rw [nth_ord hi, nth_inv h1.1, h1.2.1, cnt_nth (risL_lt h) (by rw [risL_len]; exact hi)]
theorem nth_pickN {sizes s : List Nat} {i : Nat} (hi : i < s.length) : nth (pickN sizes s) i = sizes.getD (nth s i) 0 := nth_map hi
theorem pickN_len (sizes s : List Nat) : (pickN sizes s).length = s.length := by simp [pickN]
theorem pick_ord (sizes s : List Nat) : pickL (pickN sizes s) (ordL s) = pickN sizes (risL s) := by
 rw [pickL, ordL, pickN, pickN, List.map_map]
 refine List.map_congr_left fun v hv => ?_
 have h := idxN_spec (risL_mem.1 hv)
 show nth (pickN sizes s) (idxN s v) = _
 rw [nth_pickN h.1, h.2.1]
def risM (sizes s : List Nat) (f : List Nat → Int) : PartM := ⟨risL s, fun i => f (pickL (tupL (pickN sizes (risL s)) i) (invL s))⟩
theorem turn_ris {sizes s : List Nat} (h : s.Nodup) (h1 : ∀ n ∈ pickN sizes s, 1 ≤ n) (f : List Nat → Int) (i : Nat) : turnZ (pickN sizes s) (fun i => f (tupL (pickN sizes s) i)) (ordL s) (invL s) i = (risM sizes s f).z i := by
 have hx := turn_in (i := i) (perm_ris h) (pickN_len sizes s) h1
 show f (tupL (pickN sizes s) (numL (pickN sizes s) (pickL (tupL (pickL (pickN sizes s) (ordL s)) i) (invL s)))) = _
 rw [hx.tup, pick_ord]
 rfl
open Go.RowKit
theorem repI_row {W : World} {h n : Nat} {x : Int} (H : RepAtI W h x n n) : W.rowIs h 3 n (fun _ => .int .i64 x) := by
 refine ⟨_, H, by simp [RepL], fun i hi => ?_⟩
 simp [RepL, hi]
def InvPost (w : World) (o : Nat → Int) (n b : Nat) (e : Ending) (w' : World) : Prop :=
 (b = n → ∃ h, e = .returned (.tuple #[.slice (some ⟨h, 0, none⟩) n n, .bool true]) ∧ Zs w' (some ⟨h, 0, none⟩) n (fun v => invF o n v)) ∧ (b < n → e = .returned (.tuple #[.slice none 0 0, .bool false])) ∧ Below w.heap.size w w'
set_option maxRecDepth 100000 in
set_option maxHeartbeats 4000000 in
theorem inverse_any (A : Option Addr) (n c b : Nat) (o : Nat → Int) (w : World) (hn : n ≤ 6) (hw : Zs w A n o) (hbn : b ≤ n) (hG : OrdB o n b) (hB : b < n → o b < 0 ∨ (n : Int) ≤ o b ∨ ∃ i, i < b ∧ o i = o b) :
  Calls Tryz.prog 218 #[.slice A n c, .int .i64 (n : Int)] w (InvPost w o n b) := by
 have HW := hid hw
 have HG := hid hG
 have HB := hid hB
 clear hw hG hB
 have d : ((n : Int) != (n : Int)) = false := by simp
 have n1 := new_val w (.cells #[.int .i64 (-1)] 3)
 have HR := hid (repeat_anyI w.heap.size 1 n (-1) (w.alloc (.cells #[.int .i64 (-1)] 3)) (lit_new w _ _) (by simp) (by omega))
 have B1 := hid n1
 clear n1
 go_enter Tryz.func218, Tryz.ntmps218
 go_wp2_with fail
 refine HR.out.mono ?_
 rintro e w2 ⟨rfl, hrep, hb2⟩
 have B2 := hid (then_ B1.out hb2)
 have R2 := hid (repI_row hrep)
 have hz : w.heap.size ≤ (w.alloc (.cells #[.int .i64 (-1)] 3)).heap.size := B1.out.size
 clear hrep hb2 HR B1
 generalize (w.alloc (.cells #[.int .i64 (-1)] 3)).heap.size = h at R2 hz ⊢
 go_upto_region 5 with fail
 go_loopw [18] (fun i wr => ∃ j : Nat, j ≤ b ∧ i = .int .i64 (j : Int) ∧ wr.rowIs h 3 n (fun v => .int .i64 (invF o j v)) ∧ Below w.heap.size w wr) (fun i _ => n - (intOf i).toNat)
 case atStart => exact ⟨0, Nat.zero_le _, rfl, R2.out, B2.out⟩
 case round =>
  obtain ⟨j, hj, rfl, hrow, hb⟩ := hrel
  have HRW := hid hrow
  have HBL := hid hb
  clear hrow hb
  by_cases hlt : j < n
  ·obtain ⟨g, os, rfl, hcs⟩ := (HW.out.below HBL.out (Nat.le_refl _)).at_ hlt
   have i1 : (j : Int) < (n : Int) := by omega
   have i2 : (0 : Int) ≤ (j : Int) := by omega
   by_cases hjb : j < b
   ·obtain ⟨g0, g1, g2⟩ := HG.out j hjb
    obtain ⟨v, hv⟩ : ∃ v : Nat, o j = (v : Int) := ⟨(o j).toNat, by omega⟩
    have hvn : v < n := by omega
    have HV := hid hv
    have kc := HRW.out.cell hvn
    rw [invF_neg o v j (fun i hi => by rw [← hv]; exact g2 i hi)] at kc
    have kf := HRW.out.frozen v
    rw [hv] at hcs
    have HN : Hid ((wr.setCell ⟨h, v, none⟩ (.int .i64 (j : Int))).rowIs h 3 n (fun v => .int .i64 (invF o (j + 1) v))) := hid ((HRW.out.set v (.int .i64 (j : Int))).congr fun i hi => by
     show (if i = v then _ else _) = Value.int .i64 (if o j = (i : Int) then (j : Int) else invF o j i)
     by_cases e : i = v
     ·subst e; rw [if_pos rfl, if_pos HV.out]
     ·rw [if_neg e, if_neg (by rw [HV.out]; omega)])
    have BN := hid (HBL.out.setCell (p := ⟨h, v, none⟩) hz (.int .i64 (j : Int)))
    have d1 : decide ((v : Int) < 0) = false := by simp
    have d2 : decide (n ≤ v) = false := by simp; omega
    have d3 : decide ((n : Int) ≤ (v : Int)) = false := by simp; omega
    have d4 : (v : Int) < (n : Int) := by omega
    have d5 : (0 : Int) ≤ (v : Int) := by omega
    clear g0 g1 g2 hv
    go_wp2_with fail
    go_roundw
    case rel => exact ⟨j + 1, by omega, by go_num, HN.out, BN.out⟩
    case measure => simp [intOf]; omega
   obtain rfl : b = j := by omega
   obtain ⟨y, hy⟩ : ∃ y, o b = y := ⟨_, rfl⟩
   have hbad := HB.out hlt
   rw [hy] at hcs hbad
   have fin : ∀ W, Below w.heap.size w W → InvPost w o n b (.returned (.tuple #[.slice none 0 0, .bool false])) W := fun W hW => ⟨fun e => by omega, fun _ => rfl, hW⟩
   have FIN := hid fin
   have HY := hid hy
   clear fin hy hjb
   by_cases h0 : y < 0
   ·clear hbad
    go_wp2_with fail
    go_ret2
    exact FIN.out _ HBL.out
   by_cases h1 : (n : Int) ≤ y
   ·have d1 : decide (y < 0) = false := by simpa using h0
    have d2 : decide ((n : Int) ≤ y) = true := by simpa using h1
    clear hbad
    go_wp2_with fail
    go_ret2
    exact FIN.out _ HBL.out
   have hex : ∃ i, i < b ∧ o i = y := by rcases hbad with h | h | h; exact absurd h h0; exact absurd h h1; exact h
   obtain ⟨v, hv⟩ : ∃ v : Nat, y = (v : Int) := ⟨y.toNat, by omega⟩
   subst hv
   have hvn : v < n := by omega
   have kc := HRW.out.cell hvn
   obtain ⟨i, hi, hiv⟩ := hex
   have hq := invF_pos (j := b) hi hiv
   generalize invF o b v = q at kc hq
   have d1 : decide ((v : Int) < 0) = false := by simp
   have d2 : decide (n ≤ v) = false := by simp; omega
   have d3 : decide ((n : Int) ≤ (v : Int)) = false := by simp; omega
   have d4 : (v : Int) < (n : Int) := by omega
   have d5 : (0 : Int) ≤ (v : Int) := by omega
   have d6 : decide (0 ≤ q) = true := by simpa using hq
   clear hbad hiv h0 h1
   go_wp2_with fail
   go_ret2
   exact FIN.out _ HBL.out
  have i1 : ¬ (j : Int) < (n : Int) := by omega
  have hbj : b = j := by omega
  have hjn : j = n := by omega
  subst hbj
  subst hjn
  have FIN : Hid (∀ W, Below w.heap.size w W → W.rowIs h 3 b (fun v => .int .i64 (invF o b v)) → InvPost w o b b (.returned (.tuple #[.slice (some ⟨h, 0, none⟩) b b, .bool true])) W) := hid fun W hW hr => ⟨fun _ => ⟨h, rfl, rowIs_zs hr (fun i _ => rfl)⟩, fun h => by omega, hW⟩
  go_wp2_with fail
  go_ret2
  exact FIN.out _ HBL.out HRW.out
end Go.Proofs.YtmokogkndbinlaaGreatDoor
