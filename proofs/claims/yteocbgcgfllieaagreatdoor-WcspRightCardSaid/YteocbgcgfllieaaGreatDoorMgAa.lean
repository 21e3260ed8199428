/- Texts of this seat laid together (no statement of its own). -/
import Derived.Test.YteocbgcgfllieaaGreatDoorMgL
import Derived.Test.YteocbgcgfllieaaGreatDoorMgU
namespace Go.Proofs.YteocbgcgfllieaaGreatDoor
set_option linter.unusedVariables false
def BigP (P : Nat → Nat → Prop) : Option Nat → Option Nat → Prop
  | none, none => True
  | some p, some p' => P p p'
  | _, _ => False
/-- Both stand at corresponding places. -/
structure StP (R P : Nat → Nat → Prop) (s s' : RdS) : Prop where
  k : R s.k s'.k
  big : BigP P s.big s'.big
/-- The same comes of both. -/
def SimR {α β : Type} (R P E : Nat → Nat → Prop) (Q : α → β → Prop) : RdR α → RdR β → Prop
  | .bad e p, .bad e' p' => e = e' ∧ E p p'
  | .ok a s, .ok a' s' => Q a a' ∧ StP R P s s'
  | _, _ => False
theorem SimR.bind {α β γ δ : Type} {R P E : Nat → Nat → Prop} {Q : α → β → Prop} {Q2 : γ → δ → Prop} {x : RdR α} {y : RdR β} {f : α → RdS → RdR γ} {g : β → RdS → RdR δ}
    (h : SimR R P E Q x y) (hf : ∀ a a' s s', Q a a' → StP R P s s' → SimR R P E Q2 (f a s) (g a' s')) : SimR R P E Q2 (x.bind f) (y.bind g) := by
  cases x <;> cases y
  · exact h
  · exact h.elim
  · exact h.elim
  · exact hf _ _ _ _ h.1 h.2
/-- The words of both texts. -/
structure AlW (l l' : List UInt8) (R P E : Nat → Nat → Prop) : Prop where
  step : ∀ k k', R k k' → (stepW l k = .none ∧ stepW l' k' = .none) ∨ ∃ f t f' t', stepW l k = .word f t ∧ stepW l' k' = .word f' t' ∧ subL l f t = subL l' f' t' ∧ t - f = t' - f' ∧ P f f' ∧ R t t'
  start : R 0 0
  ends : E l.length l'.length
  pl : ∀ f f', P f f' → E f f'
section
variable {l l' : List UInt8} {R P E : Nat → Nat → Prop} (H : AlW l l' R P E)
include H
theorem wordM_sim {s s' : RdS} (hs : StP R P s s') : SimR R P E (fun w w' => subL l w.1 w.2 = subL l' w'.1 w'.2 ∧ w.2 - w.1 = w'.2 - w'.1 ∧ P w.1 w'.1) (wordM l s) (wordM l' s') := by
  unfold wordM
  rcases H.step _ _ hs.k with ⟨h1, h2⟩ | ⟨f, t, f', t', h1, h2, h3, h4, h5, h6⟩
  · rw [h1, h2]
    exact ⟨rfl, H.ends⟩
  · rw [h1, h2]
    exact ⟨⟨h3, h4, h5⟩, ⟨h6, hs.big⟩⟩
theorem numM_sim {lo hi : Int} {s s' : RdS} (hs : StP R P s s') : SimR R P E (fun v v' => v.1 = v'.1 ∧ P v.2 v'.2) (numM l lo hi s) (numM l' lo hi s') := by
  refine (wordM_sim H hs).bind fun w w' s s' hq hst => ?_
  rw [hq.1]
  split
  · exact ⟨⟨rfl, hq.2.2⟩, hst⟩
  · exact ⟨rfl, H.pl _ _ hq.2.2⟩
omit H in
theorem limS_sim {b : Bool} {p p' : Nat} {s s' : RdS} (hs : StP R P s s') (hp : P p p') : StP R P (limS b p s) (limS b p' s') := by
  obtain ⟨k, g⟩ := s
  obtain ⟨k', g'⟩ := s'
  obtain ⟨h1, h2⟩ := hs
  cases b
  · exact ⟨h1, h2⟩
  · cases g <;> cases g'
    · exact ⟨h1, hp⟩
    · exact h2.elim
    · exact h2.elim
    · exact ⟨h1, h2⟩
theorem scopeM_sim {nv : Nat} : ∀ {n : Nat} {acc : List Nat} {s s' : RdS}, StP R P s s' → SimR R P E Eq (scopeM l nv n acc s) (scopeM l' nv n acc s')
  | 0, acc, s, s', hs => ⟨rfl, hs⟩
  | n + 1, acc, s, s', hs => by
    refine (numM_sim H hs).bind fun v v' t t' hq ht => ?_
    rw [hq.1]
    split
    · exact ⟨rfl, H.pl _ _ hq.2⟩
    · exact scopeM_sim ht
theorem tupleM_sim {sizes : List Nat} : ∀ {sc acc : List Nat} {s s' : RdS}, StP R P s s' → SimR R P E Eq (tupleM l sizes sc acc s) (tupleM l' sizes sc acc s')
  | [], acc, s, s', hs => ⟨rfl, hs⟩
  | v :: r, acc, s, s', hs => by
    refine (numM_sim H hs).bind fun c c' t t' hq ht => ?_
    rw [hq.1]
    exact tupleM_sim ht
theorem linesM_sim {sizes sc : List Nat} : ∀ {n : Nat} {acc : List LineM} {s s' : RdS}, StP R P s s' → SimR R P E Eq (linesM l sizes sc n acc s) (linesM l' sizes sc n acc s')
  | 0, acc, s, s', hs => ⟨rfl, hs⟩
  | n + 1, acc, s, s', hs => by
    refine (tupleM_sim H hs).bind fun x x' t t' hq ht => ?_
    subst hq
    refine (numM_sim H ht).bind fun c c' u u' hc hu => ?_
    rw [hc.1]
    split
    · exact ⟨rfl, H.pl _ _ hc.2⟩
    · exact linesM_sim hu
theorem sizesM_sim {most : Int} : ∀ {n : Nat} {acc : List Nat} {s s' : RdS}, StP R P s s' → SimR R P E Eq (sizesM l most n acc s) (sizesM l' most n acc s')
  | 0, acc, s, s', hs => ⟨rfl, hs⟩
  | n + 1, acc, s, s', hs => by
    refine (numM_sim H hs).bind fun c c' t t' hq ht => ?_
    rw [hq.1]
    exact sizesM_sim (limS_sim ht hq.2)
theorem funLines_sim {sizes sc : List Nat} {a : AccM} {s s' : RdS} (hs : StP R P s s') : SimR R P E Eq (funLines l sizes sc a s) (funLines l' sizes sc a s') := by
  refine (numM_sim H hs).bind fun m m' t t' hm ht => ?_
  rw [hm.1]
  split
  · split
    · split
      · exact ⟨rfl, ht⟩
      · exact ⟨rfl, H.pl _ _ hm.2⟩
    · exact ⟨rfl, H.pl _ _ hm.2⟩
  · refine (linesM_sim H (limS_sim ht hm.2)).bind fun ls ls' u u' hl hu => ?_
    subst hl
    exact ⟨rfl, hu⟩
theorem funM_sim {sizes : List Nat} {a : AccM} {s s' : RdS} (hs : StP R P s s') : SimR R P E Eq (funM l sizes a s) (funM l' sizes a s') := by
  refine (numM_sim H hs).bind fun ar ar' s1 t1 h1 g1 => ?_
  rw [h1.1]
  refine (scopeM_sim H g1).bind fun sc sc' s2 t2 h2 g2 => ?_
  subst h2
  refine (numM_sim H (limS_sim g2 h1.2)).bind fun o o' s3 t3 h3 g3 => ?_
  refine (funLines_sim H g3).bind fun ls ls' s4 t4 h4 g4 => ?_
  subst h4
  rw [h3.1]
  exact ⟨rfl, g4⟩
theorem funsM_sim {sizes : List Nat} : ∀ {n : Nat} {a : AccM} {s s' : RdS}, StP R P s s' → SimR R P E Eq (funsM l sizes n a s) (funsM l' sizes n a s')
  | 0, a, s, s', hs => ⟨rfl, hs⟩
  | n + 1, a, s, s', hs => by
    refine (funM_sim H hs).bind fun x x' t t' hq ht => ?_
    subst hq
    exact funsM_sim ht
theorem fileM_sim {lo : Int} : SimR R P E (fun F F' : FileM => (subL l F.name.1 F.name.2 = subL l' F'.name.1 F'.name.2 ∧ F.name.2 - F.name.1 = F'.name.2 - F'.name.1) ∧ F.top = F'.top ∧ F.sizes = F'.sizes ∧ F.funs = F'.funs) (fileM l lo) (fileM l' lo) := by
  refine (wordM_sim H (s := ⟨0, none⟩) (s' := ⟨0, none⟩) ⟨H.start, trivial⟩).bind fun w w' s1 t1 h1 g1 => ?_
  rw [h1.2.1]
  refine (numM_sim H (limS_sim g1 h1.2.2)).bind fun n n' s2 t2 h2 g2 => ?_
  rw [h2.1]
  refine (numM_sim H (limS_sim g2 h2.2)).bind fun g g' s3 t3 h3 g3 => ?_
  rw [h3.1]
  refine (numM_sim H g3).bind fun c c' s4 t4 h4 g4 => ?_
  rw [h4.1]
  refine (numM_sim H (limS_sim g4 h4.2)).bind fun k k' s5 t5 h5 g5 => ?_
  rw [h5.1]
  refine (sizesM_sim H (limS_sim g5 h5.2)).bind fun sz sz' s6 t6 h6 g6 => ?_
  subst h6
  refine (funsM_sim H g6).bind fun a a' s7 t7 h7 g7 => ?_
  subst h7
  rcases H.step _ _ g7.k with ⟨e1, e2⟩ | ⟨f, t, f', t', e1, e2, e3, e4, e5, e6⟩
  · rw [e1, e2]
    exact ⟨⟨⟨h1.1, h1.2.1⟩, rfl, rfl, rfl⟩, g7⟩
  · rw [e1, e2]
    exact ⟨rfl, H.pl _ _ e5⟩
end
/-- Blanks and a word, again and again. -/
def txtL (ps : List (List UInt8 × List UInt8)) : List UInt8 := ps.flatMap fun p => p.1 ++ p.2
structure GoodP (p : List UInt8 × List UInt8) : Prop where
  b0 : p.1 ≠ []
  b : ∀ c ∈ p.1, isB c.toNat = true
  w0 : p.2 ≠ []
  w : ∀ c ∈ p.2, isW c.toNat = true
def endL (ps : List (List UInt8 × List UInt8)) (i : Nat) : Nat := (txtL (ps.take i)).length
def begL (ps : List (List UInt8 × List UInt8)) (i : Nat) : Nat := endL ps i + (ps.getD i ([], [])).1.length
theorem tw_app {P : UInt8 → Bool} {a b : List UInt8} (ha : ∀ c ∈ a, P c = true) (hb : b = [] ∨ ∃ c r, b = c :: r ∧ P c = false) : (a ++ b).takeWhile P = a := by
  induction a with
  | nil =>
    rcases hb with rfl | ⟨c, r, rfl, h⟩
    · rfl
    · rw [List.nil_append, List.takeWhile_cons, h]
      rfl
  | cons x a ih =>
    rw [List.cons_append, List.takeWhile_cons, ha x (by simp), ih (fun c hc => ha c (by simp [hc]))]
    rfl
theorem isW_isB {x : Nat} (h : isW x = true) : isB x = false := by
  unfold isW at h
  unfold isB
  simp only [Bool.and_eq_true, decide_eq_true_eq] at h
  simp only [Bool.or_eq_false_iff, beq_eq_false_iff_ne]
  omega
theorem isB_isW {x : Nat} (h : isB x = true) : isW x = false := by
  cases hw : isW x with
  | false => rfl
  | true => rw [isW_isB hw] at h; cases h
theorem stepW_at {pre b w rest : List UInt8} (hb : ∀ c ∈ b, isB c.toNat = true) (hw : ∀ c ∈ w, isW c.toNat = true) (hw0 : w ≠ []) (hr : rest = [] ∨ ∃ c r, rest = c :: r ∧ isB c.toNat = true) :
    stepW (pre ++ (b ++ (w ++ rest))) pre.length = .word (pre.length + b.length) (pre.length + b.length + w.length) ∧ subL (pre ++ (b ++ (w ++ rest))) (pre.length + b.length) (pre.length + b.length + w.length) = w := by
  have e1 : pastP isB (pre ++ (b ++ (w ++ rest))) pre.length = pre.length + b.length := by
    unfold pastP
    rw [List.drop_left, tw_app hb]
    cases w with
    | nil => exact absurd rfl hw0
    | cons c r => exact .inr ⟨c, r ++ rest, rfl, isW_isB (hw c (by simp))⟩
  have hd : (pre ++ (b ++ (w ++ rest))).drop (pre.length + b.length) = w ++ rest := by
    rw [← List.append_assoc, ← List.length_append, List.drop_left]
  have e2 : pastP isW (pre ++ (b ++ (w ++ rest))) (pre.length + b.length) = pre.length + b.length + w.length := by
    unfold pastP
    rw [hd, tw_app hw]
    rcases hr with h | ⟨c, r, h, hc⟩
    · exact .inl h
    · exact .inr ⟨c, r, h, isB_isW hc⟩
  have hl : 0 < w.length := by
    cases w with
    | nil => exact absurd rfl hw0
    | cons c r => simp
  refine ⟨?_, ?_⟩
  · unfold stepW
    simp only [e1, e2]
    rw [if_neg (by omega)]
    split
    · rename_i h
      rw [if_neg]
      rcases hr with rfl | ⟨c, r, rfl, hc⟩
      · simp at h; omega
      · have e : (pre ++ (b ++ (w ++ c :: r)))[pre.length + b.length + w.length] = c := by
          rw [List.getElem_append_right (by omega), List.getElem_append_right (by omega), List.getElem_append_right (by omega)]
          simp [show pre.length + b.length + w.length - pre.length - b.length - w.length = 0 by omega]
        rw [e, hc]
        simp
    · rfl
  · unfold subL
    rw [hd, show pre.length + b.length + w.length - (pre.length + b.length) = w.length by omega, List.take_left]
theorem stepW_end (l : List UInt8) : stepW l l.length = .none := by
  have e : ∀ Q, pastP Q l l.length = l.length := fun Q => by unfold pastP; rw [List.drop_length]; rfl
  unfold stepW
  simp [e]
theorem txtL_at {ps : List (List UInt8 × List UInt8)} {i : Nat} (hi : i < ps.length) : txtL ps = txtL (ps.take i) ++ (ps[i].1 ++ (ps[i].2 ++ txtL (ps.drop (i + 1)))) := by
  have e : ps = ps.take i ++ ps[i] :: ps.drop (i + 1) := by rw [List.getElem_cons_drop, List.take_append_drop]
  conv => lhs; rw [e]
  unfold txtL
  rw [List.flatMap_append, List.flatMap_cons, List.append_assoc]
theorem txtL_head {ps : List (List UInt8 × List UInt8)} (h : ∀ p ∈ ps, GoodP p) : txtL ps = [] ∨ ∃ c r, txtL ps = c :: r ∧ isB c.toNat = true := by
  cases ps with
  | nil => exact .inl rfl
  | cons p r =>
    obtain ⟨b, w⟩ := p
    have g := h _ (List.mem_cons_self ..)
    cases b with
    | nil => exact absurd rfl g.b0
    | cons c b => exact .inr ⟨c, b ++ w ++ txtL r, rfl, g.b c (by simp)⟩
theorem stepL {ps : List (List UInt8 × List UInt8)} (h : ∀ p ∈ ps, GoodP p) {i : Nat} (hi : i < ps.length) :
    stepW (txtL ps) (endL ps i) = .word (begL ps i) (endL ps (i + 1)) ∧ subL (txtL ps) (begL ps i) (endL ps (i + 1)) = ps[i].2 ∧ endL ps (i + 1) - begL ps i = ps[i].2.length := by
  have g := h _ (List.getElem_mem hi)
  have hx := stepW_at (pre := txtL (ps.take i)) (rest := txtL (ps.drop (i + 1))) g.b g.w g.w0 (txtL_head fun p hp => h p (List.mem_of_mem_drop hp))
  rw [← txtL_at hi] at hx
  have e1 : begL ps i = (txtL (ps.take i)).length + ps[i].1.length := by
    unfold begL endL
    rw [List.getD_eq_getElem?_getD, List.getElem?_eq_getElem hi]
    rfl
  have e2 : endL ps (i + 1) = (txtL (ps.take i)).length + ps[i].1.length + ps[i].2.length := by
    unfold endL
    rw [List.take_succ_eq_append_getElem hi]
    unfold txtL
    rw [List.flatMap_append]
    simp
    omega
  rw [e1, e2]
  exact ⟨hx.1, hx.2, by omega⟩
theorem endL_all (ps : List (List UInt8 × List UInt8)) : endL ps ps.length = (txtL ps).length := by
  unfold endL
  rw [List.take_length]
/-- Texts of the same words. -/
theorem alW {ps qs : List (List UInt8 × List UInt8)} (hp : ∀ p ∈ ps, GoodP p) (hq : ∀ p ∈ qs, GoodP p) (he : ps.map (·.2) = qs.map (·.2)) :
    AlW (txtL ps) (txtL qs) (fun k k' => ∃ i, i ≤ ps.length ∧ k = endL ps i ∧ k' = endL qs i) (fun f f' => ∃ i, i < ps.length ∧ f = begL ps i ∧ f' = begL qs i)
      (fun f f' => (∃ i, i < ps.length ∧ f = begL ps i ∧ f' = begL qs i) ∨ (f = (txtL ps).length ∧ f' = (txtL qs).length)) := by
  have hl : ps.length = qs.length := by
    have := congrArg List.length he
    simpa using this
  refine ⟨?_, ⟨0, Nat.zero_le _, rfl, rfl⟩, .inr ⟨rfl, rfl⟩, fun f f' h => .inl h⟩
  rintro k k' ⟨i, hi, rfl, rfl⟩
  rcases Nat.lt_or_ge i ps.length with h | h
  · obtain ⟨a1, a2, a3⟩ := stepL hp h
    obtain ⟨b1, b2, b3⟩ := stepL hq (hl ▸ h)
    have ew : ps[i].2 = (qs[i]'(hl ▸ h)).2 := by
      have e : (ps.map (·.2))[i]? = (qs.map (·.2))[i]? := by rw [he]
      rw [List.getElem?_map, List.getElem?_map, List.getElem?_eq_getElem h, List.getElem?_eq_getElem (hl ▸ h)] at e
      simpa using e
    refine .inr ⟨_, _, _, _, a1, b1, by rw [a2, b2, ew], by rw [a3, b3, ew], ⟨i, h, rfl, rfl⟩, ⟨i + 1, h, rfl, rfl⟩⟩
  · obtain rfl : i = ps.length := by omega
    left
    rw [endL_all, hl, endL_all]
    exact ⟨stepW_end _, stepW_end _⟩
end Go.Proofs.YteocbgcgfllieaaGreatDoor

namespace Go.Proofs.YteocbgcgfllieaaGreatDoor
open Go.RowKit
set_option linter.unusedVariables false
theorem OwnT.less {w : World} {base base' : Nat} {v : Value} {l : List ByteArray} (h : OwnT w base v l) (hb : base' ≤ base) : OwnT w base' v l := by
  obtain ⟨h1, ⟨rfl, hn⟩ | ⟨g, cap, cur, rfl, hb', rest⟩⟩ := h
  · exact ⟨h1, .inl ⟨rfl, hn⟩⟩
  · exact ⟨h1, .inr ⟨g, cap, cur, rfl, Nat.le_trans hb hb', rest⟩⟩
theorem strC_snoc (l : List ByteArray) (y : ByteArray) : strC (l ++ [y]) = strC l ++ [.string y] := by simp [strC]
/-- append of one string. -/
theorem push_str {ops : Array Oper} {rest : List Oper} {o : Oper} {a : Act} {Q : Exit → Act → World → Prop} (hgd : o.guard = none) (sl x : Operand)
    (ho : o.op = .call { callee := .builtin .append, args := #[sl, x], argTypes := #[65, 65] })
    (W : World) (base : Nat) (v : Value) (l : List ByteArray) (y : ByteArray) (g0 : Nat) (hg0 : g0 = W.heap.size) (hs : a.eval sl = v) (hx : a.eval x = .slice (some ⟨g0, 0, none⟩) 1 1)
    (hown : OwnT W base v l) (hbase : base ≤ W.heap.size) (hl : l.length ≤ 1000000)
    (h : ∀ v' w', OwnT w' base v' (l ++ [y]) → W.grownBy w' v.ownBlock → wpList Tryz.prog ops Q rest (a.put o.dst v') w') :
    wpList Tryz.prog ops Q (o :: rest) a (W.alloc (.cells #[.string y] 9)) := by
  subst hg0
  obtain ⟨i0, hi, hz0, hz1, hz2⟩ := info_parts info_str
  have hown' := hown.below (new_val W (.cells #[.string y] 9)) (Nat.le_refl _)
  have hc := heap_alloc_new W (.cells #[.string y] 9)
  refine wpList_append_own _ hgd sl x 65 ho base 9 i0 (.string ⟨#[]⟩) 1 16 Tryz.underlying65 hi hz0 hz1 hz2 rfl (by decide) v l.length _ hs hown' ⟨W.heap.size, 0, none⟩ 1 1 [.string y] hx rfl ?_ ?_ (by unfold maxLen; omega) (by omega) (by simp; omega) ?_
  · intro j u hj
    rcases j with _ | j
    · simp at hj
      subst hj
      show (W.alloc _).cell? ⟨W.heap.size, 0, none⟩ = _
      rw [cell_of_row _ _ _ _ _ _ hc]
      rfl
    · simp at hj
  · intro u hu
    simp at hu
    subst hu
    rfl
  · intro v' w' k1 k2 _
    refine h v' w' ?_ (sgrown_then (grown_any (new_val W _) _) k2)
    unfold OwnT
    rw [List.length_append, strC_snoc]
    exact k1
def extL (s : ByteArray) (ws : List (Nat × Nat)) : List ByteArray := ws.map fun x => s.extract x.1 x.2
theorem extL_take {s : ByteArray} {ws : List (Nat × Nat)} {k : Nat} (h : k < ws.length) : extL s (ws.take (k + 1)) = extL s (ws.take k) ++ [s.extract ws[k].1 ws[k].2] := by
  unfold extL
  rw [List.take_succ_eq_append_getElem h, List.map_append]
  rfl
set_option maxRecDepth 100000 in
set_option maxHeartbeats 2000000 in
theorem fields_any (A : Option Addr) (c : Nat) (s : ByteArray) (w : World) (hs : s.size ≤ 100000) (hsc : s.size ≤ c) (h : BS w A s) :
    Calls Tryz.prog 26 #[.slice A s.size c] w fun e w' => (∃ v, e = .returned v ∧ OwnT w' w.heap.size v (extL s (wordsL s.data.toList 0).1)) ∧ Below w.heap.size w w' := by
  have HW := Lib.hid (words_any A c s w hs hsc h)
  have hL : (wordsL s.data.toList 0).1.length ≤ 100001 := by have := wordsL_len s; omega
  unfold WordsP at HW
  generalize badI (wordsL s.data.toList 0).2 = bp at HW
  generalize (wordsL s.data.toList 0).1 = ws at HW hL ⊢
  obtain ⟨n, hn⟩ : ∃ n, ws.length = n := ⟨_, rfl⟩
  have HN := Lib.hid hn
  have HL := Lib.hid (hn ▸ hL : n ≤ 100001)
  clear h hsc hL hn
  go_enter Tryz.func26, Tryz.ntmps26
  go_upto_region 2 with (first | (go_at_call 33; refine HW.out.mono ?_; rintro e w1 ⟨⟨v, rfl, h1⟩, hb1⟩; obtain ⟨A1, c1, e1, hf⟩ := h1.form; rw [HN.out] at e1; subst e1; have HF := Lib.hid hf; have B1 := Lib.hid hb1; clear hf h1 hb1) | fail)
  go_wp2_with fail
  go_loopw [5, 15] (fun v i wr => ∃ k : Nat, i = .int .i64 (k : Int) ∧ k ≤ n ∧ OwnT wr w1.heap.size v (extL s (ws.take k)) ∧ Below w1.heap.size w1 wr) (fun _ i _ => n - (intOf i).toNat)
  case atStart => exact ⟨0, rfl, Nat.zero_le _, World.ownsRow_nil _ _ _ _, Below.refl _ _⟩
  case round =>
    obtain ⟨k, rfl, hk, hO, hB⟩ := hrel
    have OO := Lib.hid hO
    have BB := Lib.hid hB
    clear hO hB
    by_cases hlt : k < n
    · obtain ⟨g, rfl, hg, _, hc0, hc1, hfz⟩ := HF.out k (by rw [HN.out]; exact hlt)
      have d1 : decide ((k : Int) < (n : Int)) = true := decide_eq_true (by omega)
      have j2 : (0 : Int) ≤ (k : Int) := by omega
      have j3 : (k : Int) ≤ 100001 := by have := HL.out; omega
      replace hc0 := (BB.out.cell (p := ⟨g, k * 2, none⟩) hg).trans hc0
      replace hc1 := (BB.out.cell (p := ⟨g, k * 2 + 1, none⟩) hg).trans hc1
      have hx := extL_take (s := s) (ws := ws) (k := k) (by rw [HN.out]; exact hlt)
      generalize s.extract (ws[k]'(by rw [HN.out]; exact hlt)).1 (ws[k]'(by rw [HN.out]; exact hlt)).2 = y at hc0 hx
      generalize (ws[k]'(by rw [HN.out]; exact hlt)).1 = z at hc1
      have HX := Lib.hid hx
      have LX : Hid ((extL s (ws.take k)).length ≤ 1000000) := Lib.hid (by simp [extL]; have := HL.out; omega)
      clear hx hfz
      have N1 := Lib.hid (new_val wr (.cells #[.string y, .int .i64 (z : Int)] 84))
      have O1 := Lib.hid (OO.out.below N1.out (Nat.le_refl _))
      have Z1 := Lib.hid (then_ BB.out N1.out)
      go_wp2_with (first | (at_builtin; refine push_str rfl (.tmp 19) (.tmp 22) rfl (wr.alloc (.cells #[.string y, .int .i64 (z : Int)] 84)) w1.heap.size _ (extL s (ws.take k)) y (wr.heap.size + 1) (by simp) rfl rfl O1.out Z1.out.size LX.out ?_; rw [← HX.out]; intro v2 w2 h1 h2; have O2 := Lib.hid h1; have B2 := Lib.hid (below_grownO Z1.out h2 (Nat.le_refl _) (fun g e => (World.ownsRow.lt O1.out g e).1)); clear h1 h2) | fail)
      exact ⟨⟨k + 1, by simp, by omega, O2.out, B2.out⟩, by simp [intOf]; omega⟩
    · have d1 : decide ((k : Int) < (n : Int)) = false := decide_eq_false (by omega)
      obtain rfl : k = n := by omega
      have hO := OO.out
      rw [← HN.out, List.take_length] at hO
      replace hO := Lib.hid hO
      go_wp2_with fail
      go_ret
      exact ⟨⟨_, rfl, hO.out.less B1.out.size⟩, then_ B1.out BB.out⟩
end Go.Proofs.YteocbgcgfllieaaGreatDoor
