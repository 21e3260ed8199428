/- Texts of this seat laid together (no statement of its own). -/
import Derived.Test.YteocbgcgfllieaaGreatDoorMgC
namespace Go.Proofs.YteocbgcgfllieaaGreatDoor
set_option linter.unusedVariables false
/-- What was read so far: up to where; the first place at which something was too large. -/
structure RdS where
  k : Nat
  big : Option Nat
/-- What reading gives: the first thing that is wrong (its number, its place), or a value and what was read. -/
inductive RdR (α : Type) where
  | bad (e p : Nat)
  | ok (a : α) (s : RdS)
def RdR.bind {α β : Type} : RdR α → (α → RdS → RdR β) → RdR β
  | .bad e p, _ => .bad e p
  | .ok a s, f => f a s
@[simp] theorem RdR.bind_bad {α β : Type} (e p : Nat) (f : α → RdS → RdR β) : (RdR.bad e p).bind f = .bad e p := rfl
@[simp] theorem RdR.bind_ok {α β : Type} (a : α) (s : RdS) (f : α → RdS → RdR β) : (RdR.ok a s).bind f = f a s := rfl
theorem RdR.bind_assoc {α β γ : Type} (x : RdR α) (f : α → RdS → RdR β) (g : β → RdS → RdR γ) : (x.bind f).bind g = x.bind fun a s => (f a s).bind g := by cases x <;> rfl
/-- The bytes of a word. -/
def subL (l : List UInt8) (f t : Nat) : List UInt8 := (l.drop f).take (t - f)
/-- The next word: where it begins and ends. -/
def wordM (l : List UInt8) (s : RdS) : RdR (Nat × Nat) :=
  match stepW l s.k with
  | .word f t => .ok (f, t) ⟨t, s.big⟩
  | .none => .bad 4 l.length
  | .bad b => .bad 11 b
/-- The next number, from lo to hi, and where it stands. -/
def numM (l : List UInt8) (lo hi : Int) (s : RdS) : RdR (Int × Nat) :=
  (wordM l s).bind fun w s' =>
    if readE (subL l w.1 w.2) = 0 ∧ lo ≤ readV (subL l w.1 w.2) ∧ readV (subL l w.1 w.2) ≤ hi then .ok (readV (subL l w.1 w.2), w.1) s' else .bad 4 w.1
/-- Something is too large: the first counts. -/
def limS (is : Bool) (p : Nat) (s : RdS) : RdS := if is && s.big.isNone then ⟨s.k, some p⟩ else s
abbrev farZ : Int := 4611686018427387904
/-- How many tuples there are: some number above 4096 where they are more. -/
def cntM : List Nat → Nat → Nat
  | [], n => n
  | k :: r, n => cntM r (min (n * min k 4097) 4097)
def pickN (sizes : List Nat) (scope : List Nat) : List Nat := scope.map fun v => sizes.getD v 0
def scopeM (l : List UInt8) (nv : Nat) : Nat → List Nat → RdS → RdR (List Nat)
  | 0, acc, s => .ok acc s
  | n + 1, acc, s => (numM l 0 ((nv : Int) - 1) s).bind fun v s' => if acc.contains v.1.toNat then .bad 4 v.2 else scopeM l nv n (acc ++ [v.1.toNat]) s'
def tupleM (l : List UInt8) (sizes : List Nat) : List Nat → List Nat → RdS → RdR (List Nat)
  | [], acc, s => .ok acc s
  | v :: r, acc, s => (numM l 0 ((sizes.getD v 0 : Nat) - 1 : Int) s).bind fun c s' => tupleM l sizes r (acc ++ [c.1.toNat]) s'
abbrev LineM := List Nat × Int
def linesM (l : List UInt8) (sizes scope : List Nat) : Nat → List LineM → RdS → RdR (List LineM)
  | 0, acc, s => .ok acc s
  | n + 1, acc, s => (tupleM l sizes scope [] s).bind fun x s' => (numM l 0 farZ s').bind fun c s'' =>
      if acc.any (fun y => y.1 == x) then .bad 4 c.2 else linesM l sizes scope n (acc ++ [(x, c.1)]) s''
structure FunM where
  scope : List Nat
  other : Int
  lines : List LineM
/-- What is known of the functions so far. -/
structure AccM where
  funs : List FunM
  shared : List FunM
  told : Int
def funLines (l : List UInt8) (sizes scope : List Nat) (a : AccM) (s : RdS) : RdR (List LineM × Int) :=
  (numM l (-farZ) farZ s).bind fun m s' =>
    if m.1 < 0 then
      match a.shared[(-m.1).toNat - 1]? with
      | some g => if pickN sizes g.scope = pickN sizes scope then .ok (g.lines, a.told) s' else .bad 4 m.2
      | none => .bad 4 m.2
    else (linesM l sizes scope m.1.toNat [] (limS (decide (16384 < a.told + m.1)) m.2 s')).bind fun ls s'' => .ok (ls, a.told + m.1) s''
def funM (l : List UInt8) (sizes : List Nat) (a : AccM) (s : RdS) : RdR AccM :=
  (numM l (-farZ) farZ s).bind fun ar s1 => (scopeM l sizes.length ar.1.natAbs [] s1).bind fun sc s2 =>
    (numM l 0 farZ (limS (decide (6 < ar.1.natAbs) || decide (4096 < cntM (pickN sizes sc) 1)) ar.2 s2)).bind fun o s3 =>
      (funLines l sizes sc a s3).bind fun ls s4 =>
        .ok ⟨a.funs ++ [⟨sc, o.1, ls.1⟩], if ar.1 < 0 then a.shared ++ [⟨sc, o.1, ls.1⟩] else a.shared, ls.2⟩ s4
def funsM (l : List UInt8) (sizes : List Nat) : Nat → AccM → RdS → RdR AccM
  | 0, a, s => .ok a s
  | n + 1, a, s => (funM l sizes a s).bind fun a' s' => funsM l sizes n a' s'
def sizesM (l : List UInt8) (most : Int) : Nat → List Nat → RdS → RdR (List Nat)
  | 0, acc, s => .ok acc s
  | n + 1, acc, s => (numM l 1 most s).bind fun v s' => sizesM l most n (acc ++ [v.1.toNat]) (limS (decide (32 < v.1)) v.2 s')
/-- A file, as it is told. -/
structure FileM where
  name : Nat × Nat
  top : Int
  sizes : List Nat
  funs : List FunM
/-- The whole of it; lo: the least number that may be the greatest size. -/
def fileM (l : List UInt8) (lo : Int) : RdR FileM :=
  (wordM l ⟨0, none⟩).bind fun w s1 => (numM l 1 farZ (limS (decide (64 < w.2 - w.1)) w.1 s1)).bind fun n s2 =>
    (numM l lo farZ (limS (decide (64 < n.1)) n.2 s2)).bind fun g s3 => (numM l 0 farZ s3).bind fun c s4 =>
      (numM l 1 farZ (limS (decide (256 < c.1)) c.2 s4)).bind fun k s5 => (sizesM l g.1 n.1.toNat [] (limS (decide (2147483648 < k.1)) k.2 s5)).bind fun sz s6 =>
        (funsM l sz c.1.toNat ⟨[], [], 0⟩ s6).bind fun a s7 =>
          match stepW l s7.k with
          | .word f _ => .bad 4 f
          | .bad b => .bad 11 b
          | .none => .ok ⟨w, k.1, sz, a.funs⟩ s7
end Go.Proofs.YteocbgcgfllieaaGreatDoor

namespace Go.Proofs.YteocbgcgfllieaaGreatDoor
set_option linter.unusedVariables false
theorem bind_ok_iff {α β : Type} {x : RdR α} {f : α → RdS → RdR β} {b : β} {t : RdS} : x.bind f = .ok b t ↔ ∃ a s, x = .ok a s ∧ f a s = .ok b t := by
  cases x with
  | bad e p => simp
  | ok a s => exact ⟨fun h => ⟨a, s, rfl, h⟩, fun ⟨a', s', h1, h2⟩ => by cases h1; exact h2⟩
theorem wordM_ok {l : List UInt8} {s s' : RdS} {w : Nat × Nat} : wordM l s = .ok w s' ↔ stepW l s.k = .word w.1 w.2 ∧ s' = ⟨w.2, s.big⟩ := by
  unfold wordM
  split
  · rename_i f t h
    rw [h]
    constructor
    · intro e
      cases e
      exact ⟨rfl, rfl⟩
    · rintro ⟨e, rfl⟩
      cases e
      rfl
  · rename_i h
    rw [h]
    constructor
    · intro e; cases e
    · rintro ⟨e, _⟩; cases e
  · rename_i b h
    rw [h]
    constructor
    · intro e; cases e
    · rintro ⟨e, _⟩; cases e
theorem numM_ok {l : List UInt8} {lo hi : Int} {s s' : RdS} {v : Int × Nat} : numM l lo hi s = .ok v s' ↔ ∃ t, stepW l s.k = .word v.2 t ∧ s' = ⟨t, s.big⟩ ∧ readE (subL l v.2 t) = 0 ∧ v.1 = readV (subL l v.2 t) ∧ lo ≤ v.1 ∧ v.1 ≤ hi := by
  unfold numM
  rw [bind_ok_iff]
  constructor
  · rintro ⟨w, s1, h1, h2⟩
    obtain ⟨h3, rfl⟩ := wordM_ok.1 h1
    split at h2
    · rename_i hc
      cases h2
      exact ⟨w.2, h3, rfl, hc.1, rfl, hc.2.1, hc.2.2⟩
    · cases h2
  · rintro ⟨t, h1, rfl, h3, h4, h5, h6⟩
    refine ⟨(v.2, t), _, wordM_ok.2 ⟨h1, rfl⟩, ?_⟩
    rw [if_pos ⟨h3, by rw [← h4]; exact h5, by rw [← h4]; exact h6⟩]
    obtain ⟨a, b⟩ := v
    have h4 : a = readV (subL l b t) := h4
    show RdR.ok (readV (subL l b t), b) _ = _
    rw [← h4]
theorem numM_lo {l : List UInt8} {lo lo' hi : Int} {s s' : RdS} {v : Int × Nat} (h : lo ≤ lo') : numM l lo' hi s = .ok v s' ↔ numM l lo hi s = .ok v s' ∧ lo' ≤ v.1 := by
  rw [numM_ok, numM_ok]
  constructor
  · rintro ⟨t, h1, h2, h3, h4, h5, h6⟩
    exact ⟨⟨t, h1, h2, h3, h4, by omega, h6⟩, h5⟩
  · rintro ⟨⟨t, h1, h2, h3, h4, h5, h6⟩, h7⟩
    exact ⟨t, h1, h2, h3, h4, h7, h6⟩
theorem sizesM_low {l : List UInt8} {most : Int} {n : Nat} {acc a : List Nat} {s t : RdS} (hn : 1 ≤ n) (h : sizesM l most n acc s = .ok a t) : 1 ≤ most := by
  rcases n with _ | n
  · omega
  · obtain ⟨v, s1, h1, _⟩ := bind_ok_iff.1 h
    obtain ⟨_, _, _, _, _, h5, h6⟩ := numM_ok.1 h1
    omega
/-- The code and the document read the same networks. -/
theorem fileM_lo {l : List UInt8} {f : FileM} {s : RdS} : fileM l (-farZ) = .ok f s ↔ fileM l 1 = .ok f s := by
  unfold fileM
  constructor
  · intro h
    obtain ⟨w, s1, h1, h⟩ := bind_ok_iff.1 h
    obtain ⟨n, s2, h2, h⟩ := bind_ok_iff.1 h
    obtain ⟨g, s3, h3, h⟩ := bind_ok_iff.1 h
    refine bind_ok_iff.2 ⟨w, s1, h1, bind_ok_iff.2 ⟨n, s2, h2, bind_ok_iff.2 ⟨g, s3, (numM_lo (by decide)).2 ⟨h3, ?_⟩, h⟩⟩⟩
    obtain ⟨c, s4, h4, h⟩ := bind_ok_iff.1 h
    obtain ⟨k, s5, h5, h⟩ := bind_ok_iff.1 h
    obtain ⟨z, s6, h6, h⟩ := bind_ok_iff.1 h
    obtain ⟨_, _, _, _, _, hn, _⟩ := numM_ok.1 h2
    exact sizesM_low (by omega) h6
  · intro h
    obtain ⟨w, s1, h1, h⟩ := bind_ok_iff.1 h
    obtain ⟨n, s2, h2, h⟩ := bind_ok_iff.1 h
    obtain ⟨g, s3, h3, h⟩ := bind_ok_iff.1 h
    exact bind_ok_iff.2 ⟨w, s1, h1, bind_ok_iff.2 ⟨n, s2, h2, bind_ok_iff.2 ⟨g, s3, ((numM_lo (by decide)).1 h3).1, h⟩⟩⟩
/-- Lines of a function of these sizes: tuples of it, each once, and costs. -/
structure LinesOk (ts : List Nat) (ls : List LineM) : Prop where
  len : ∀ y ∈ ls, y.1.length = ts.length
  val : ∀ y ∈ ls, ∀ i, i < ts.length → y.1.getD i 0 < ts.getD i 0
  cost : ∀ y ∈ ls, 0 ≤ y.2 ∧ y.2 ≤ farZ
  once : (ls.map (·.1)).Pairwise (· ≠ ·)
structure FunOk (sizes : List Nat) (g : FunM) : Prop where
  below : ∀ v ∈ g.scope, v < sizes.length
  once : g.scope.Pairwise (· ≠ ·)
  other : 0 ≤ g.other ∧ g.other ≤ farZ
  lines : LinesOk (pickN sizes g.scope) g.lines
theorem scopeM_ok {l : List UInt8} {nv : Nat} : ∀ {n : Nat} {acc a : List Nat} {s t : RdS}, scopeM l nv n acc s = .ok a t → (∀ v ∈ acc, v < nv) → acc.Pairwise (· ≠ ·) → (∀ v ∈ a, v < nv) ∧ a.Pairwise (· ≠ ·) ∧ a.length = acc.length + n
  | 0, acc, a, s, t, h, h1, h2 => by cases h; exact ⟨h1, h2, rfl⟩
  | n + 1, acc, a, s, t, h, h1, h2 => by
    obtain ⟨v, s1, h3, h4⟩ := bind_ok_iff.1 h
    split at h4
    · cases h4
    · rename_i hc
      obtain ⟨_, _, _, _, _, hv0, hv1⟩ := numM_ok.1 h3
      have hnc : v.1.toNat ∉ acc := by simpa using hc
      obtain ⟨q1, q2, q3⟩ := scopeM_ok h4 (fun u hu => by
        rcases List.mem_append.1 hu with hu | hu
        · exact h1 u hu
        · simp at hu; omega) (List.pairwise_append.2 ⟨h2, by simp, fun a ha b hb => by simp at hb; subst hb; exact fun e => hnc (e ▸ ha)⟩)
      exact ⟨q1, q2, by simp at q3; omega⟩
theorem tupleM_ok {l : List UInt8} {sizes : List Nat} : ∀ {sc acc a : List Nat} {s t : RdS}, tupleM l sizes sc acc s = .ok a t → a.length = acc.length + sc.length ∧ (∀ i, i < acc.length → a.getD i 0 = acc.getD i 0) ∧ ∀ i, i < sc.length → a.getD (acc.length + i) 0 < (pickN sizes sc).getD i 0
  | [], acc, a, s, t, h => by cases h; exact ⟨rfl, fun _ _ => rfl, fun i hi => absurd hi (Nat.not_lt_zero _)⟩
  | v :: sc, acc, a, s, t, h => by
    obtain ⟨c, s1, h3, h4⟩ := bind_ok_iff.1 h
    obtain ⟨_, _, _, _, _, hv0, hv1⟩ := numM_ok.1 h3
    obtain ⟨q1, q2, q3⟩ := tupleM_ok h4
    rw [List.length_append, List.length_singleton] at q1 q2 q3
    refine ⟨by rw [List.length_cons]; omega, fun i hi => ?_, fun i hi => ?_⟩
    · rw [q2 i (by omega), List.getD_eq_getElem?_getD, List.getD_eq_getElem?_getD, List.getElem?_append_left hi]
    · rcases i with _ | i
      · have := q2 acc.length (by omega)
        rw [Nat.add_zero, this]
        have e1 : (acc ++ [c.1.toNat]).getD acc.length 0 = c.1.toNat := by simp [List.getD_eq_getElem?_getD]
        have e2 : (pickN sizes (v :: sc)).getD 0 0 = sizes.getD v 0 := rfl
        rw [e1, e2]
        omega
      · have := q3 i (by simp at hi; omega)
        rw [show acc.length + (i + 1) = acc.length + 1 + i by omega]
        have e2 : (pickN sizes (v :: sc)).getD (i + 1) 0 = (pickN sizes sc).getD i 0 := rfl
        rw [e2]
        exact this
theorem linesM_ok {l : List UInt8} {sizes sc : List Nat} : ∀ {n : Nat} {acc a : List LineM} {s t : RdS}, linesM l sizes sc n acc s = .ok a t → LinesOk (pickN sizes sc) acc → LinesOk (pickN sizes sc) a ∧ a.length = acc.length + n
  | 0, acc, a, s, t, h, h1 => by cases h; exact ⟨h1, rfl⟩
  | n + 1, acc, a, s, t, h, h1 => by
    obtain ⟨x, s1, h3, h4⟩ := bind_ok_iff.1 h
    obtain ⟨c, s2, h5, h6⟩ := bind_ok_iff.1 h4
    split at h6
    · cases h6
    · rename_i hc
      obtain ⟨p1, _, p3⟩ := tupleM_ok h3
      obtain ⟨_, _, _, _, _, hv0, hv1⟩ := numM_ok.1 h5
      have hnc : ∀ y ∈ acc, y.1 ≠ x := fun y hy e => hc (List.any_eq_true.2 ⟨y, hy, by simp [e]⟩)
      have hl : (pickN sizes sc).length = sc.length := by simp [pickN]
      obtain ⟨q1, q2⟩ := linesM_ok h6 ⟨fun y hy => by
          rcases List.mem_append.1 hy with hy | hy
          · exact h1.len y hy
          · simp at hy; subst hy; rw [hl]; simpa using p1,
        fun y hy i hi => by
          rcases List.mem_append.1 hy with hy | hy
          · exact h1.val y hy i hi
          · simp at hy; subst hy; have := p3 i (by omega); simpa using this,
        fun y hy => by
          rcases List.mem_append.1 hy with hy | hy
          · exact h1.cost y hy
          · simp at hy; subst hy; exact ⟨hv0, hv1⟩,
        by
          rw [List.map_append]
          refine List.pairwise_append.2 ⟨h1.once, by simp, fun a ha b hb => ?_⟩
          simp at hb
          obtain ⟨y, hy, rfl⟩ := List.mem_map.1 ha
          subst hb
          exact hnc y hy⟩
      exact ⟨q1, by simp at q2; omega⟩
end Go.Proofs.YteocbgcgfllieaaGreatDoor
