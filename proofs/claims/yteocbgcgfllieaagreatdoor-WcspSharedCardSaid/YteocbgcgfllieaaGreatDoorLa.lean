/- A text whose words stand one blank apart, read from a place on (no statement of its own). -/
import Derived.Test.YteocbgcgfllieaaGreatDoorMgAa
import Derived.Test.YteocbgcgfllieaaGreatDoorMgV
namespace Go.Proofs.YteocbgcgfllieaaGreatDoor
set_option linter.unusedVariables false
/-- Words, a blank ahead of each. -/
def txS (ws : List (List UInt8)) : List UInt8 := ws.flatMap fun w => 32 :: w
@[simp] theorem txS_nil : txS [] = [] := rfl
theorem txS_cons (w : List UInt8) (ws : List (List UInt8)) : txS (w :: ws) = 32 :: (w ++ txS ws) := by
  simp [txS, List.flatMap_cons]
theorem txS_app (a b : List (List UInt8)) : txS (a ++ b) = txS a ++ txS b := by
  simp [txS, List.flatMap_append]
/-- A word. -/
def GdW (w : List UInt8) : Prop := w ≠ [] ∧ ∀ c ∈ w, isW c.toNat = true
/-- From k on there are just these words. -/
structure CurL (l : List UInt8) (k : Nat) (ws : List (List UInt8)) : Prop where
  le : k ≤ l.length
  drop : l.drop k = txS ws
  good : ∀ w ∈ ws, GdW w
theorem CurL.split {l : List UInt8} {k : Nat} {ws : List (List UInt8)} (h : CurL l k ws) : l = l.take k ++ txS ws := by
  rw [← h.drop, List.take_append_drop]
theorem txS_head (ws : List (List UInt8)) : txS ws = [] ∨ ∃ c r, txS ws = c :: r ∧ isB c.toNat = true := by
  cases ws with
  | nil => exact .inl rfl
  | cons w r => exact .inr ⟨32, w ++ txS r, txS_cons w r, rfl⟩
theorem CurL.step {l : List UInt8} {k : Nat} {w : List UInt8} {ws : List (List UInt8)} (h : CurL l k (w :: ws)) :
    stepW l k = .word (k + 1) (k + 1 + w.length) ∧ subL l (k + 1) (k + 1 + w.length) = w ∧ CurL l (k + 1 + w.length) ws := by
  have hg := h.good w (List.mem_cons_self ..)
  have hl : (l.take k).length = k := by rw [List.length_take]; have := h.le; omega
  have e : l = l.take k ++ ([32] ++ (w ++ txS ws)) := by
    have := h.split
    rw [txS_cons] at this
    simpa using this
  have hx := stepW_at (pre := l.take k) (b := [32]) (w := w) (rest := txS ws) (by simp [isB]) hg.2 hg.1 (txS_head ws)
  rw [← e, hl] at hx
  have hlen : l.length = k + 1 + w.length + (txS ws).length := by
    rw [e]
    simp only [List.length_append, hl, List.length_cons, List.length_nil]
    omega
  refine ⟨hx.1, hx.2, by omega, ?_, fun x hx => h.good x (List.mem_cons_of_mem _ hx)⟩
  conv => lhs; rw [e]
  rw [show l.take k ++ ([32] ++ (w ++ txS ws)) = (l.take k ++ ([32] ++ w)) ++ txS ws by simp]
  rw [List.drop_left' (by simp only [List.length_append, hl, List.length_cons, List.length_nil]; omega)]
theorem CurL.done {l : List UInt8} {k : Nat} (h : CurL l k []) : stepW l k = .none ∧ k = l.length := by
  have e : k = l.length := by
    have := congrArg List.length h.drop
    rw [List.length_drop] at this
    simp at this
    have := h.le
    omega
  subst e
  exact ⟨stepW_end l, rfl⟩
/-- The first word, with nothing ahead of it. -/
theorem CurL.first (w : List UInt8) (ws : List (List UInt8)) (hw : GdW w) (hs : ∀ x ∈ ws, GdW x) :
    stepW (w ++ txS ws) 0 = .word 0 w.length ∧ CurL (w ++ txS ws) w.length ws := by
  have hx := stepW_at (pre := []) (b := []) (w := w) (rest := txS ws) (by simp) hw.2 hw.1 (txS_head ws)
  simp only [List.nil_append, List.length_nil, Nat.zero_add] at hx
  exact ⟨hx.1, by simp, by rw [List.drop_left], hs⟩
/-- The digits of a number. -/
abbrev dgs (n : Int) : List UInt8 := Lib.itoa n
theorem gd_itoa (n : Int) : GdW (Lib.itoa n) := by
  have hd := fun u => dec_digs u
  unfold Lib.itoa GdW
  split
  · refine ⟨by simp, fun c hc => ?_⟩
    rcases List.mem_cons.1 hc with rfl | hc
    · rfl
    · have := (hd _).2.1 c hc
      unfold isW
      simp only [Bool.and_eq_true, decide_eq_true_eq]
      omega
  · refine ⟨(hd _).1, fun c hc => ?_⟩
    have := (hd _).2.1 c hc
    unfold isW
    simp only [Bool.and_eq_true, decide_eq_true_eq]
    omega
theorem CurL.word {l : List UInt8} {k : Nat} {b : Option Nat} {w : List UInt8} {ws : List (List UInt8)} (h : CurL l k (w :: ws)) : wordM l ⟨k, b⟩ = .ok (k + 1, k + 1 + w.length) ⟨k + 1 + w.length, b⟩ := by
  unfold wordM
  rw [h.step.1]
/-- A number of up to 2^62 is read. -/
theorem CurL.num {l : List UInt8} {k : Nat} {b : Option Nat} {n lo hi : Int} {ws : List (List UInt8)} (h : CurL l k (dgs n :: ws)) (h1 : lo ≤ n) (h2 : n ≤ hi) (h3 : -4611686018427387904 ≤ n) (h4 : n ≤ 4611686018427387904) :
    numM l lo hi ⟨k, b⟩ = .ok (n, k + 1) ⟨k + 1 + (dgs n).length, b⟩ := by
  unfold numM
  rw [h.word, RdR.bind_ok, h.step.2.1]
  obtain ⟨r1, r2⟩ := read_itoa n
  have e : readV (dgs n) = n := by show readV (Lib.itoa n) = n; rw [r1]; omega
  rw [e, if_pos ⟨r2, h1, h2⟩]
theorem CurL.bad {l : List UInt8} {k : Nat} {b : Option Nat} {lo hi : Int} {w : List UInt8} {ws : List (List UInt8)} (h : CurL l k (w :: ws)) (hw : readE w ≠ 0) : numM l lo hi ⟨k, b⟩ = .bad 4 (k + 1) := by
  unfold numM
  rw [h.word, RdR.bind_ok, h.step.2.1, if_neg (fun hh => hw hh.1)]
theorem CurL.none {l : List UInt8} {k : Nat} {b : Option Nat} {lo hi : Int} (h : CurL l k []) : numM l lo hi ⟨k, b⟩ = .bad 4 l.length := by
  unfold numM wordM
  rw [h.done.1]
  rfl
@[simp] theorem limS_off (p : Nat) (s : RdS) : limS false p s = s := rfl
theorem limS_on (p k : Nat) : limS true p ⟨k, none⟩ = ⟨k, some p⟩ := rfl
theorem limS_had (b : Bool) (p k q : Nat) : limS b p ⟨k, some q⟩ = ⟨k, some q⟩ := by cases b <;> rfl
/-- Sizes that are all the same. -/
theorem CurL.sizes {l : List UInt8} {most x : Int} (hx : 1 ≤ x) (hx2 : x ≤ 32) (hm : x ≤ most) : ∀ (n : Nat) {k : Nat} {b : Option Nat} {acc : List Nat} {ws : List (List UInt8)}, CurL l k (List.replicate n (dgs x) ++ ws) →
    ∃ k', sizesM l most n acc ⟨k, b⟩ = .ok (acc ++ List.replicate n x.toNat) ⟨k', b⟩ ∧ CurL l k' ws
  | 0, k, b, acc, ws, h => ⟨k, by simp [sizesM], by simpa using h⟩
  | n + 1, k, b, acc, ws, h => by
    rw [List.replicate_succ, List.cons_append] at h
    obtain ⟨k', h1, h2⟩ := CurL.sizes hx hx2 hm n (b := b) (acc := acc ++ [x.toNat]) h.step.2.2
    refine ⟨k', ?_, h2⟩
    unfold sizesM
    rw [h.num hx hm (by omega) (by omega), RdR.bind_ok]
    rw [decide_eq_false (by simp; omega), limS_off, h1, List.append_assoc, List.replicate_succ]
    rfl
/-- Functions of no variables, no lines and the cost 0. -/
theorem CurL.zeros {l : List UInt8} {sizes : List Nat} : ∀ (n : Nat) {k : Nat} {b : Option Nat} {a : AccM} {ws : List (List UInt8)}, a.told = 0 → CurL l k ((List.replicate n [dgs 0, dgs 0, dgs 0]).flatten ++ ws) →
    ∃ k', funsM l sizes n a ⟨k, b⟩ = .ok ⟨a.funs ++ List.replicate n ⟨[], 0, []⟩, a.shared, 0⟩ ⟨k', b⟩ ∧ CurL l k' ws
  | 0, k, b, a, ws, ha, h => ⟨k, by simp [funsM, ← ha], by simpa using h⟩
  | n + 1, k, b, a, ws, ha, h => by
    rw [List.replicate_succ, List.flatten_cons, List.append_assoc] at h
    have s1 : CurL l k (dgs 0 :: dgs 0 :: dgs 0 :: ((List.replicate n [dgs 0, dgs 0, dgs 0]).flatten ++ ws)) := h
    have s2 := s1.step.2.2
    have s3 := s2.step.2.2
    have e : funM l sizes a ⟨k, b⟩ = .ok ⟨a.funs ++ [⟨[], 0, []⟩], a.shared, 0⟩ ⟨k + 1 + (dgs 0).length + 1 + (dgs 0).length + 1 + (dgs 0).length, b⟩ := by
      unfold funM
      rw [s1.num (by decide) (by decide) (by decide) (by decide), RdR.bind_ok]
      show (scopeM l sizes.length 0 [] _).bind _ = _
      unfold scopeM
      rw [RdR.bind_ok]
      rw [show (decide (6 < (0 : Int).natAbs) || decide (4096 < cntM (pickN sizes []) 1)) = false from rfl, limS_off]
      rw [s2.num (by decide) (by decide) (by decide) (by decide), RdR.bind_ok]
      unfold funLines
      rw [s3.num (by decide) (by decide) (by decide) (by decide), RdR.bind_ok, if_neg (show ¬ (0 : Int) < 0 by decide), ha]
      rw [show decide (16384 < (0 : Int) + 0) = false by decide, limS_off]
      show ((linesM l sizes [] 0 [] _).bind _).bind _ = _
      unfold linesM
      rw [RdR.bind_ok, RdR.bind_ok, if_neg (show ¬ (0 : Int) < 0 by decide)]
      rfl
    obtain ⟨k', h1, h2⟩ := CurL.zeros n (b := b) (a := ⟨a.funs ++ [⟨[], 0, []⟩], a.shared, 0⟩) rfl s3.step.2.2
    refine ⟨k', ?_, h2⟩
    unfold funsM
    rw [e, RdR.bind_ok, h1, List.append_assoc, List.replicate_succ]
    rfl
end Go.Proofs.YteocbgcgfllieaaGreatDoor
