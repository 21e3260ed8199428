import Derived.Test.YtmokogkndbinlaaGreatDoorZgbj
set_option linter.all false
namespace Go.Proofs.YtmokogkndbinlaaGreatDoor
open Go.Lib (hid)
open Go.RowKit
theorem foldl_not {t : List Nat} : ∀ {ls : List LineM} {g : List Nat → Int}, (∀ y ∈ ls, y.1 ≠ t) → ls.foldl (fun g y => updF g y.1 y.2) g t = g t
 | [], g, _ => rfl
 | y :: ls, g, h => by
  rw [List.foldl_cons, foldl_not fun z hz => h z (List.mem_cons_of_mem _ hz)]
  exact if_neg fun e => h y (by simp) e.symm
theorem foldl_mem {t : List Nat} {c : Int} : ∀ {ls : List LineM} {g : List Nat → Int}, (ls.map (·.1)).Pairwise (· ≠ ·) → (t, c) ∈ ls → ls.foldl (fun g y => updF g y.1 y.2) g t = c
 | [], g, _, h => by cases h
 | y :: ls, g, hp, h => by
  rw [List.map_cons, List.pairwise_cons] at hp
  rw [List.foldl_cons]
  rcases List.mem_cons.1 h with e | h
  ·subst e
   rw [foldl_not fun z hz e => hp.1 z.1 (List.mem_map_of_mem hz) e.symm]
   exact if_pos rfl
  exact foldl_mem hp.2 h
theorem putF_not {o : Int} {t : List Nat} {ls : List LineM} (h : ∀ y ∈ ls, y.1 ≠ t) : putF o ls t = o := foldl_not h
theorem putF_mem {o c : Int} {t : List Nat} {ls : List LineM} (hp : (ls.map (·.1)).Pairwise (· ≠ ·)) (h : (t, c) ∈ ls) : putF o ls t = c := foldl_mem hp h
def canF (sizes S : List Nat) (z : Nat → Int) (o : Int) : FunM :=
 ⟨S, o, (linesT (pickN sizes S) o (fillF (pickN sizes S) o z (prodL (pickN sizes S)))).map fun t => (t, fillF (pickN sizes S) o z (prodL (pickN sizes S)) t)⟩
theorem canF_fst (sizes S : List Nat) (z : Nat → Int) (o : Int) : (canF sizes S z o).lines.map (·.1) = linesT (pickN sizes S) o (fillF (pickN sizes S) o z (prodL (pickN sizes S))) := by
 show List.map _ (List.map _ _) = _
 rw [List.map_map]
 exact List.map_id' _
theorem canF_once (sizes S : List Nat) (z : Nat → Int) (o : Int) : ((canF sizes S z o).lines.map (·.1)).Pairwise (· ≠ ·) := by
 rw [canF_fst]
 exact linesT_nodup _ _ _
theorem canF_top {sizes S : List Nat} {k : Int} {z : Nat → Int} {o : Int} (hl : ∀ n ∈ pickN sizes S, 1 ≤ n) (hz : ∀ i, i < prodL (pickN sizes S) → InK (z i) k) (ho : InK o k) : topL k (canF sizes S z o).lines = (canF sizes S z o).lines := by
 unfold topL
 refine (List.map_congr_left fun y hy => ?_).trans (List.map_id' _)
 obtain ⟨t, ht, rfl⟩ := List.mem_map.1 hy
 have := (fillF_in ho hz t ((linesT_mem hl t).1 ht).1).2.2.2
 show (_, min _ k) = _
 rw [Int.min_eq_left this]
theorem canF_fun {sizes S : List Nat} {k : Int} {z : Nat → Int} {o : Int} (hl : ∀ n ∈ pickN sizes S, 1 ≤ n) (hz : ∀ i, i < prodL (pickN sizes S) → InK (z i) k) (ho : InK o k) {t : List Nat} (ht : InL (pickN sizes S) t) :
  funF k (canF sizes S z o) t = fillF (pickN sizes S) o z (prodL (pickN sizes S)) t := by
 unfold funF
 rw [canF_top hl hz ho]
 have e : min (canF sizes S z o).other k = o := Int.min_eq_left ho.2.2.2
 rw [e]
 by_cases h : fillF (pickN sizes S) o z (prodL (pickN sizes S)) t = o
 rotate_left
 ·exact putF_mem (canF_once sizes S z o) (List.mem_map.2 ⟨t, (linesT_mem hl t).2 ⟨ht, h⟩, rfl⟩)
 rw [h]
 refine putF_not fun y hy e1 => ?_
 obtain ⟨u, hu, rfl⟩ := List.mem_map.1 hy
 have e2 : u = t := e1
 subst e2
 exact ((linesT_mem hl u).1 hu).2 h
def dZ (z : Nat → Int) (P : Nat) (c : Int) : Nat := (List.range P).countP fun i => decide (z i ≠ c)
theorem cnt_dZ (z : Nat → Int) (P : Nat) (c : Int) : cntZ z P c + dZ z P c = P := by
 have h := List.length_eq_countP_add_countP (fun i => decide (z i = c)) (l := List.range P)
 rw [List.length_range] at h
 have e1 : cntZ z P c = (List.range P).countP fun i => decide (z i = c) := by
  unfold cntZ zL
  rw [List.count, List.countP_map]
  congr 1
 have e2 : dZ z P c = (List.range P).countP fun i => decide (¬(decide (z i = c)) = true) := by
  unfold dZ
  congr 1
  funext i
  simp
 rw [e1, e2]
 exact h.symm
theorem most_dZ {z : Nat → Int} {P : Nat} {o : Int} (h : IsMost z P o) (c : Int) : dZ z P o ≤ dZ z P c := by
 have h1 := cnt_dZ z P o
 have h2 := cnt_dZ z P c
 have h3 := h.2.1 c
 omega
theorem countP_or {α : Type} (p q r : α → Bool) (h : ∀ x, p x = true → q x = true ∨ r x = true) : ∀ l : List α, l.countP p ≤ l.countP q + l.countP r
 | [] => by simp
 | x :: l => by
  have ih := countP_or p q r h l
  rw [List.countP_cons, List.countP_cons, List.countP_cons]
  by_cases hp : p x = true
  ·rcases h x hp with h1 | h1
   ·rw [if_pos hp, if_pos h1]
    omega
   rw [if_pos hp, if_pos h1]
   omega
  rw [if_neg hp]
  omega
theorem dZ_sum (k : Int) (P : Nat) (qs : List ((Nat → Int) × Int)) : dZ (fun i => min k (qs.map fun q => q.1 i).sum) P (min k (qs.map (·.2)).sum) ≤ (qs.map fun q => dZ q.1 P q.2).sum := by
 have h : ∀ qs : List ((Nat → Int) × Int), ((List.range P).countP fun i => decide ((qs.map fun q => q.1 i).sum ≠ (qs.map (·.2)).sum)) ≤ (qs.map fun q => dZ q.1 P q.2).sum := by
  intro qs
  induction qs with
  | nil => simp
  | cons q qs ih =>
   rw [List.map_cons, List.sum_cons]
   refine Nat.le_trans (countP_or _ (fun i => decide (q.1 i ≠ q.2)) (fun i => decide ((qs.map fun q => q.1 i).sum ≠ (qs.map (·.2)).sum)) (fun i hi => ?_) _) (Nat.add_le_add (Nat.le_refl _) ih)
   simp only [decide_eq_true_eq, List.map_cons, List.sum_cons] at hi ⊢
   by_cases e : q.1 i = q.2
   ·right
    intro e2
    rw [e, e2] at hi
    exact hi rfl
   exact .inl e
 refine Nat.le_trans ?_ (h qs)
 unfold dZ
 refine List.countP_mono_left fun i _ hi => ?_
 simp only [decide_eq_true_eq] at hi ⊢
 intro e
 rw [e] at hi
 exact hi rfl
theorem inj_len {α β : Type} [DecidableEq β] (f : α → β) : ∀ {xs : List α} {ys : List β}, xs.Pairwise (fun a b => f a ≠ f b) → (∀ x ∈ xs, f x ∈ ys) → xs.length ≤ ys.length
 | [], ys, _, _ => Nat.zero_le _
 | x :: xs, ys, hp, hm => by
  rw [List.pairwise_cons] at hp
  have h1 := hm x (by simp)
  have h2 := inj_len f (xs := xs) (ys := ys.erase (f x)) hp.2 fun y hy => (List.mem_erase_of_ne (fun e => hp.1 y hy e.symm)).2 (hm y (List.mem_cons_of_mem _ hy))
  rw [List.length_erase_of_mem h1] at h2
  have h3 := List.length_pos_of_mem h1
  simp only [List.length_cons]
  omega
theorem one_group (x : List Nat) (d : Nat) : ∀ {Ss : List (List Nat)}, Ss.Pairwise (· ≠ ·) → (Ss.map fun S => if x = S then d else 0).sum ≤ d
 | [], _ => Nat.zero_le _
 | S :: Ss, hp => by
  rw [List.pairwise_cons] at hp
  rw [List.map_cons, List.sum_cons]
  by_cases e : x = S
  rotate_left
  ·have := one_group x d hp.2
   rw [if_neg e]
   omega
  have h0 : (Ss.map fun S => if x = S then d else 0) = Ss.map fun _ => 0 := List.map_congr_left fun T hT => if_neg fun e2 => hp.1 T hT (e.symm.trans e2)
  have h1 : (Ss.map fun _ : List Nat => 0).sum = 0 := by
   clear h0 hp
   induction Ss with
   | nil => rfl
   | cons _ _ ih => simp [ih]
  rw [if_pos e, h0, h1]
  omega
theorem sum_add {α : Type} (f g : α → Nat) : ∀ l : List α, (l.map fun x => f x + g x).sum = (l.map f).sum + (l.map g).sum
 | [] => rfl
 | x :: l => by
  have := sum_add f g l
  simp only [List.map_cons, List.sum_cons, this]
  omega
theorem sum_groups {α : Type} (s : α → List Nat) (D : α → Nat) {Ss : List (List Nat)} (hp : Ss.Pairwise (· ≠ ·)) : ∀ fs : List α, (Ss.map fun S => ((fs.filter fun f => decide (s f = S)).map D).sum).sum ≤ (fs.map D).sum
 | [] => by
  have h1 : (Ss.map fun S => ((([] : List α).filter fun f => decide (s f = S)).map D).sum).sum = 0 := by
   clear hp
   induction Ss with
   | nil => rfl
   | cons S Ss ih =>
    rw [List.map_cons, List.sum_cons, ih]
    rfl
  omega
 | f :: fs => by
  have ih := sum_groups s D hp fs
  have e : (Ss.map fun S => (((f :: fs).filter fun f => decide (s f = S)).map D).sum) = Ss.map fun S => (if s f = S then D f else 0) + ((fs.filter fun f => decide (s f = S)).map D).sum := by
   refine List.map_congr_left fun S _ => ?_
   by_cases e : s f = S
   ·rw [List.filter_cons_of_pos (by simpa using e), if_pos e]
    rfl
   rw [List.filter_cons_of_neg (by simpa using e), if_neg e, Nat.zero_add]
  rw [e, sum_add]
  have := one_group (s f) (D f) hp
  simp only [List.map_cons, List.sum_cons]
  omega
theorem cnt_of_prod : ∀ {l : List Nat} {n : Nat}, (∀ x ∈ l, 1 ≤ x) → 1 ≤ n → n * prodL l ≤ 4096 → cntM l n ≤ 4096
 | [], n, _, _, h => by simpa [cntM, prodL] using h
 | k :: r, n, h, hn, hc => by
  have hk := h k (by simp)
  have hr : ∀ x ∈ r, 1 ≤ x := fun x hx => h x (List.mem_cons_of_mem _ hx)
  have hp := prodL_pos hr
  have e : n * prodL (k :: r) = (n * k) * prodL r := by show n * (k * prodL r) = _; rw [Nat.mul_assoc]
  rw [e] at hc
  have h1 : n * k ≤ 4096 := Nat.le_trans (Nat.le_mul_of_pos_right _ hp) hc
  have h2 : k ≤ 4096 := Nat.le_trans (Nat.le_mul_of_pos_left _ hn) h1
  show cntM r (min (n * min k 4097) 4097) ≤ 4096
  rw [Nat.min_eq_left (show k ≤ 4097 by omega), Nat.min_eq_left (show n * k ≤ 4097 by omega)]
  exact cnt_of_prod hr (Nat.le_trans hn (Nat.le_mul_of_pos_right _ hk)) hc
def asP (k : Int) (sizes : List Nat) (c : FunM) : PartM := ⟨c.scope, fun i => funF k c (tupL (pickN sizes c.scope) i)⟩
structure CanF (k : Int) (sizes : List Nat) (ps : List PartM) (cfs : List FunM) : Prop where
 can : CanI (fun S => prodL (pickN sizes S)) k ps (cfs.map (asP k sizes))
 frm : ∀ c ∈ cfs, ∃ z o, c = canF sizes c.scope z o ∧ (∀ i, i < prodL (pickN sizes c.scope) → InK (z i) k) ∧ IsMost z (prodL (pickN sizes c.scope)) o ∧ ∀ n ∈ pickN sizes c.scope, 1 ≤ n
theorem most_in {z : Nat → Int} {P : Nat} {o k : Int} (hz : ∀ i, i < P → InK (z i) k) (h : IsMost z P o) : InK o k := by
 obtain ⟨i, hi, e⟩ := cntZ_pos h.1
 rw [← e]
 exact hz i hi
theorem canF_z {sizes S : List Nat} {k : Int} {z : Nat → Int} {o : Int} (hl : ∀ n ∈ pickN sizes S, 1 ≤ n) (hz : ∀ i, i < prodL (pickN sizes S) → InK (z i) k) (ho : InK o k) {i : Nat} (hi : i < prodL (pickN sizes S)) :
  (asP k sizes (canF sizes S z o)).z i = z i := by
 show funF k (canF sizes S z o) (tupL (pickN sizes S) i) = z i
 rw [canF_fun hl hz ho (tupL_in hl i), fillF_all hi]
theorem zL_congr {z z' : Nat → Int} {P : Nat} (h : ∀ i, i < P → z i = z' i) : zL z P = zL z' P := List.map_congr_left fun i hi => h i (List.mem_range.1 hi)
theorem dZ_congr {z z' : Nat → Int} {P : Nat} (h : ∀ i, i < P → z i = z' i) (c : Int) : dZ z P c = dZ z' P c := by
 have h1 := cnt_dZ z P c
 have h2 := cnt_dZ z' P c
 have e : cntZ z P c = cntZ z' P c := by unfold cntZ; rw [zL_congr h]
 omega
theorem map_fst_top (k : Int) (ls : List LineM) : (topL k ls).map (·.1) = ls.map (·.1) := by
 unfold topL
 rw [List.map_map]
 rfl
theorem ris_lines {k : Int} {sizes : List Nat} {f : FunM} (hnd : f.scope.Nodup) (hl : ∀ n ∈ pickN sizes f.scope, 1 ≤ n) :
  dZ (risM sizes f.scope (funF k f)).z (prodL (pickN sizes (risL f.scope))) (min f.other k) ≤ f.lines.length := by
 unfold dZ
 have el : f.lines.length = (f.lines.map (·.1)).length := (List.length_map _).symm
 rw [List.countP_eq_length_filter, el]
 refine inj_len (fun i => pickL (tupL (pickN sizes (risL f.scope)) i) (invL f.scope)) ?_ fun i hi => ?_
 ·have hp : ((List.range (prodL (pickN sizes (risL f.scope)))).filter fun i => decide ((risM sizes f.scope (funF k f)).z i ≠ min f.other k)).Pairwise (fun a b => a < b ∧ b < prodL (pickN sizes (risL f.scope))) := by
   rw [List.pairwise_filter]
   have h1 : (List.range (prodL (pickN sizes (risL f.scope)))).Pairwise (fun a b => a < b ∧ b < prodL (pickN sizes (risL f.scope))) := by
    rw [List.pairwise_iff_getElem]
    intro i j hi hj hij
    simp at hi hj ⊢
    omega
   exact h1.imp fun h _ _ => h
  refine hp.imp fun {a b} hab e => ?_
  have hpm := (perm_ris hnd).symm
  have e2 : pickL (pickL (tupL (pickN sizes (risL f.scope)) a) (invL f.scope)) (ordL f.scope) = pickL (pickL (tupL (pickN sizes (risL f.scope)) b) (invL f.scope)) (ordL f.scope) := congrArg (fun t => pickL t (ordL f.scope)) e
  rw [hpm.pick2 (by rw [tupL_length, pickN_len, risL_len]), hpm.pick2 (by rw [tupL_length, pickN_len, risL_len])] at e2
  have e3 := congrArg (numL (pickN sizes (risL f.scope))) e2
  rw [num_tup (by omega), num_tup hab.2] at e3
  omega
 rw [List.mem_filter] at hi
 have h1 := of_decide_eq_true hi.2
 refine Classical.byContradiction fun hno => h1 ?_
 show funF k f _ = _
 unfold funF
 refine putF_not fun y hy e => hno ?_
 rw [← map_fst_top k]
 rw [← e]
 exact List.mem_map_of_mem hy
theorem ltS_ne {a b : List Nat} (h : ltS a b) : a ≠ b := fun e => by subst e; exact ltS_irr a h
theorem CanF.scopes {k : Int} {sizes : List Nat} {ps : List PartM} {cfs : List FunM} (h : CanF k sizes ps cfs) : (cfs.map (·.scope)).Pairwise (· ≠ ·) := by
 have h1 := h.can.ris
 rw [List.map_map] at h1
 exact h1.imp fun h => ltS_ne h
theorem CanF.from_ {k : Int} {sizes : List Nat} {fs cfs : List FunM} (h : CanF k sizes (partsM k sizes fs) cfs) {c : FunM} (hc : c ∈ cfs) : ∃ f ∈ fs, risL f.scope = c.scope := by
 have h1 := (h.can.mem c.scope).1 (List.mem_map.2 ⟨asP k sizes c, List.mem_map_of_mem hc, rfl⟩)
 obtain ⟨⟨p, hp, e⟩, _⟩ := h1
 obtain ⟨f, hf, rfl⟩ := List.mem_map.1 hp
 exact ⟨f, hf, e⟩
theorem CanF.few {k : Int} {sizes : List Nat} {fs cfs : List FunM} (h : CanF k sizes (partsM k sizes fs) cfs) (hnd : ∀ f ∈ fs, f.scope.Nodup) (hl : ∀ f ∈ fs, ∀ n ∈ pickN sizes f.scope, 1 ≤ n) {c : FunM} (hc : c ∈ cfs) :
  c.lines.length ≤ ((fs.filter fun f => decide (risL f.scope = c.scope)).map fun f => f.lines.length).sum := by
 obtain ⟨z, o, ec, hzk, hm, h1⟩ := h.frm c hc
 have hz : ∀ i, i < prodL (pickN sizes c.scope) → z i = grpM k (partsM k sizes fs) c.scope i := fun i hi => by
  have h2 := h.can.sum (asP k sizes c) (List.mem_map_of_mem hc) i hi
  rw [ec] at h2
  rw [canF_z h1 hzk (most_in hzk hm) hi] at h2
  exact h2
 have e1 : c.lines.length = dZ z (prodL (pickN sizes c.scope)) o := by
  rw [ec]
  show (List.map _ (linesT _ _ _)).length = _
  rw [List.length_map]
  unfold linesT dZ
  rw [List.length_map, ← List.countP_eq_length_filter]
  refine List.countP_congr fun i hi => ?_
  rw [fillF_all (List.mem_range.1 hi)]
 have e2 : ∀ i, grpM k (partsM k sizes fs) c.scope i = min k ((((fs.filter fun f => decide (risL f.scope = c.scope)).map fun f => ((risM sizes f.scope (funF k f)).z, min f.other k)).map fun q => q.1 i).sum) := fun i => by
  unfold grpM grpS partsM
  rw [List.filter_map, List.map_map, List.map_map]
  congr 2
  have e3 : ((fun p : PartM => p.scope == c.scope) ∘ fun f => risM sizes f.scope (funF k f)) = fun f => decide (risL f.scope = c.scope) := by
   funext f
   show (risL f.scope == c.scope) = _
   rw [Bool.eq_iff_iff]
   simp
  rw [e3]
  rfl
 rw [e1]
 refine Nat.le_trans (most_dZ hm (min k (((fs.filter fun f => decide (risL f.scope = c.scope)).map fun f => ((risM sizes f.scope (funF k f)).z, min f.other k)).map (·.2)).sum)) ?_
 rw [dZ_congr (fun i hi => (hz i hi).trans (e2 i))]
 refine Nat.le_trans (dZ_sum k _ _) ?_
 rw [List.map_map]
 have hle : ∀ l : List FunM, (∀ f ∈ l, f ∈ fs ∧ risL f.scope = c.scope) → (l.map ((fun q => dZ q.1 (prodL (pickN sizes c.scope)) q.2) ∘ fun f => ((risM sizes f.scope (funF k f)).z, min f.other k))).sum ≤ (l.map fun f => f.lines.length).sum := by
  intro l
  induction l with
  | nil => intro _; exact Nat.le_refl _
  | cons f l ih =>
   intro hf
   have h2 := ih fun g hg => hf g (List.mem_cons_of_mem _ hg)
   obtain ⟨h3, h4⟩ := hf f (by simp)
   have h5 := ris_lines (k := k) (hnd f h3) (hl f h3)
   rw [h4] at h5
   rw [List.map_cons, List.sum_cons, List.map_cons, List.sum_cons]
   exact Nat.add_le_add h5 h2
 refine hle _ fun f hf => ?_
 rw [List.mem_filter] at hf
 exact ⟨hf.1, of_decide_eq_true hf.2⟩
theorem sum_le {α : Type} {f g : α → Nat} : ∀ {l : List α}, (∀ x ∈ l, f x ≤ g x) → (l.map f).sum ≤ (l.map g).sum
 | [], _ => Nat.le_refl _
 | x :: l, h => by
  have h1 := h x (by simp)
  have h2 := sum_le (l := l) fun y hy => h y (List.mem_cons_of_mem _ hy)
  rw [List.map_cons, List.sum_cons, List.map_cons, List.sum_cons]
  exact Nat.add_le_add h1 h2
theorem CanF.right {X : ByteArray} {k : Int} {sizes : List Nat} {fs cfs : List FunM} (hr : RightF X k sizes fs) (h : CanF k sizes (partsM k sizes fs) cfs) : RightF X k sizes cfs := by
 have hnd : ∀ f ∈ fs, f.scope.Nodup := fun f hf => List.nodup_iff_pairwise_ne.2 (hr.funs f hf).1.once
 have hl : ∀ f ∈ fs, ∀ n ∈ pickN sizes f.scope, 1 ≤ n := fun f hf n hn => (pick_ok hr.szs (hr.funs f hf).1.below n hn).1
 have hfew := fun c hc => h.few hnd hl (c := c) hc
 refine ⟨hr.word, hr.long, hr.top, hr.szs, hr.n, ?_, fun c hc => ?_, ?_⟩
 ·have h1 : (cfs.map (·.scope)).length ≤ (fs.map fun f => risL f.scope).length := inj_len (fun S => S) h.scopes fun S hS => by
   obtain ⟨c, hc, rfl⟩ := List.mem_map.1 hS
   obtain ⟨f, hf, e⟩ := h.from_ hc
   exact List.mem_map.2 ⟨f, hf, e⟩
  rw [List.length_map, List.length_map] at h1
  exact Nat.le_trans h1 hr.nf
 ·obtain ⟨f, hf, e⟩ := h.from_ hc
  obtain ⟨z, o, ec, hzk, hm, h1⟩ := h.frm c hc
  have ho := most_in hzk hm
  have hft := hr.funs f hf
  have ht := hr.top
  refine ⟨⟨fun v hv => ?_, ?_, ?_, ?_⟩, ?_, ?_⟩
  ·rw [← e] at hv
   exact hft.1.below v (risL_mem.1 hv)
  ·rw [← e]
   exact (risL_lt (hnd f hf)).imp fun h => Nat.ne_of_lt h
  ·rw [ec]
   exact ⟨ho.2.2.1, by have := ho.2.2.2; have := ho.2.1; show o ≤ farZ; unfold farZ; omega⟩
  ·rw [ec]
   have hy : ∀ y ∈ (canF sizes c.scope z o).lines, InL (pickN sizes c.scope) y.1 ∧ InK y.2 k := fun y hy => by
    obtain ⟨t, ht, rfl⟩ := List.mem_map.1 hy
    have h2 := (linesT_mem h1 t).1 ht
    exact ⟨h2.1, fillF_in ho hzk t h2.1⟩
   refine ⟨fun y hy' => (hy y hy').1.length, fun y hy' i hi => ((inL_iff.1 (hy y hy').1).2 i hi), fun y hy' => ?_, canF_once _ _ _ _⟩
   have h2 := (hy y hy').2
   exact ⟨h2.2.2.1, by have := h2.2.2.2; have := h2.2.1; unfold farZ; omega⟩
  ·rw [← e, risL_len]
   exact hft.2.1
  refine cnt_of_prod h1 (Nat.le_refl 1) ?_
  have hp : prodL (pickN sizes c.scope) = prodL (pickN sizes f.scope) := by
   rw [← e]
   exact prodL_perm ((risL_perm f.scope).map _)
  rw [hp]
  exact cnt_prod (hl f hf) (Nat.le_refl 1) hft.2.2
 refine Nat.le_trans (Nat.le_trans (sum_le hfew) ?_) hr.all
 have h2 := sum_groups (fun f : FunM => risL f.scope) (fun f => f.lines.length) h.scopes fs
 rw [List.map_map] at h2
 exact h2
inductive All2 (R : PartM → PartM → Prop) : List PartM → List PartM → Prop where
 | nil : All2 R [] []
 | cons {a b : PartM} {l m : List PartM} (h : R a b) (t : All2 R l m) : All2 R (a :: l) (b :: m)
theorem forall2_right {R : PartM → PartM → Prop} : ∀ {ps qs : List PartM}, All2 R ps qs → ∀ q ∈ qs, ∃ p ∈ ps, R p q
 | [], [], _, p, hp => by cases hp
 | a :: ps, b :: qs, h, q, hq => by
  cases h with
  | cons h1 h2 =>
   rcases List.mem_cons.1 hq with rfl | hq
   ·exact ⟨a, by simp, h1⟩
   obtain ⟨p, hp, hr⟩ := forall2_right h2 q hq
   exact ⟨p, List.mem_cons_of_mem _ hp, hr⟩
theorem risL_self {S : List Nat} (h : S.Pairwise (· < ·)) : risL S = S :=
 rise_uniq (risL_lt (List.nodup_iff_pairwise_ne.2 (h.imp fun h => Nat.ne_of_lt h))) h fun x => risL_mem
theorem CanF.rises {k : Int} {sizes : List Nat} {fs cfs : List FunM} (h : CanF k sizes (partsM k sizes fs) cfs) (hnd : ∀ f ∈ fs, f.scope.Nodup) {c : FunM} (hc : c ∈ cfs) : c.scope.Pairwise (· < ·) := by
 obtain ⟨f, hf, e⟩ := h.from_ hc
 rw [← e]
 exact risL_lt (hnd f hf)
end Go.Proofs.YtmokogkndbinlaaGreatDoor
