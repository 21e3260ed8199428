import Derived.Test.YtmokogkndbinlaaGreatDoorZgag
set_option linter.all false
namespace Go.Proofs.YtmokogkndbinlaaGreatDoor
open Go.Lib (hid)
theorem limS_k (is : Bool) (p : Nat) (s : RdS) : (limS is p s).k = s.k := by unfold limS; split <;> rfl
theorem limS_none {is : Bool} {p : Nat} {s : RdS} (h : (limS is p s).big = none) : is = false ∧ s.big = none := by
 unfold limS at h
 split at h
 ·cases h
 rename_i hc
 refine ⟨?_, h⟩
 rw [h] at hc
 simpa using hc
theorem numM_k {l : List UInt8} {lo hi : Int} {s s' : RdS} {v : Int × Nat} (hs : s.k ≤ l.length) (h : numM l lo hi s = .ok v s') : s.k < s'.k ∧ s'.k ≤ l.length ∧ s'.big = s.big ∧ lo ≤ v.1 ∧ v.1 ≤ hi := by
 obtain ⟨t, h1, h2, -, -, h5, h6⟩ := numM_ok.1 h
 have hw := stepW_word hs h1
 have hk : s'.k = t := by rw [h2]
 have hb : s'.big = s.big := by rw [h2]
 exact ⟨by omega, by omega, hb, h5, h6⟩
theorem scopeM_k {l : List UInt8} {nv : Nat} : ∀ {n : Nat} {acc a : List Nat} {s t : RdS}, s.k ≤ l.length → scopeM l nv n acc s = .ok a t → s.k + n ≤ t.k ∧ t.k ≤ l.length ∧ t.big = s.big
 | 0, acc, a, s, t, hs, h => by cases h; exact ⟨Nat.le_refl _, hs, rfl⟩
 | n + 1, acc, a, s, t, hs, h => by
  obtain ⟨v, s1, h1, h2⟩ := bind_ok_iff.1 h
  obtain ⟨a1, a2, a3, -, -⟩ := numM_k hs h1
  split at h2
  ·cases h2
  obtain ⟨b1, b2, b3⟩ := scopeM_k a2 h2
  exact ⟨by omega, b2, b3.trans a3⟩
theorem tupleM_k {l : List UInt8} {sizes : List Nat} : ∀ {sc acc a : List Nat} {s t : RdS}, s.k ≤ l.length → tupleM l sizes sc acc s = .ok a t → s.k ≤ t.k ∧ t.k ≤ l.length ∧ t.big = s.big
 | [], acc, a, s, t, hs, h => by cases h; exact ⟨Nat.le_refl _, hs, rfl⟩
 | v :: r, acc, a, s, t, hs, h => by
  obtain ⟨c, s1, h1, h2⟩ := bind_ok_iff.1 h
  obtain ⟨a1, a2, a3, -, -⟩ := numM_k hs h1
  obtain ⟨b1, b2, b3⟩ := tupleM_k a2 h2
  exact ⟨by omega, b2, b3.trans a3⟩
theorem linesM_k {l : List UInt8} {sizes sc : List Nat} : ∀ {n : Nat} {acc a : List LineM} {s t : RdS}, s.k ≤ l.length → linesM l sizes sc n acc s = .ok a t → s.k + n ≤ t.k ∧ t.k ≤ l.length ∧ t.big = s.big
 | 0, acc, a, s, t, hs, h => by cases h; exact ⟨Nat.le_refl _, hs, rfl⟩
 | n + 1, acc, a, s, t, hs, h => by
  obtain ⟨x, s1, h1, h2⟩ := bind_ok_iff.1 h
  obtain ⟨c, s2, h3, h4⟩ := bind_ok_iff.1 h2
  obtain ⟨a1, a2, a3⟩ := tupleM_k hs h1
  obtain ⟨b1, b2, b3, -, -⟩ := numM_k a2 h3
  split at h4
  ·cases h4
  obtain ⟨c1, c2, c3⟩ := linesM_k b2 h4
  exact ⟨by omega, c2, c3.trans (b3.trans a3)⟩
theorem sizesM_k {l : List UInt8} {most : Int} : ∀ {n : Nat} {acc a : List Nat} {s t : RdS}, s.k ≤ l.length → sizesM l most n acc s = .ok a t → s.k + n ≤ t.k ∧ t.k ≤ l.length ∧ a.length = acc.length + n ∧ ((∀ x ∈ acc, 1 ≤ x ∧ (x : Int) ≤ most) → ∀ x ∈ a, 1 ≤ x ∧ (x : Int) ≤ most) ∧ (t.big = none → s.big = none ∧ ((∀ x ∈ acc, x ≤ 32) → ∀ x ∈ a, x ≤ 32))
 | 0, acc, a, s, t, hs, h => by cases h; exact ⟨Nat.le_refl _, hs, rfl, fun h => h, fun h => ⟨h, fun h => h⟩⟩
 | n + 1, acc, a, s, t, hs, h => by
  obtain ⟨v, s1, h1, h2⟩ := bind_ok_iff.1 h
  obtain ⟨a1, a2, a3, a4, a5⟩ := numM_k hs h1
  obtain ⟨b1, b2, b3, b4, b5⟩ := sizesM_k (by rw [limS_k]; exact a2) h2
  rw [limS_k] at b1
  refine ⟨by omega, b2, by simp at b3; omega, fun hx => b4 fun x hx' => ?_, fun hb => ?_⟩
  ·rcases List.mem_append.1 hx' with hx' | hx'
   ·exact hx x hx'
   simp at hx'
   omega
  obtain ⟨c1, c2⟩ := b5 hb
  obtain ⟨d1, d2⟩ := limS_none c1
  refine ⟨a3 ▸ d2, fun hx => c2 fun x hx' => ?_⟩
  rcases List.mem_append.1 hx' with hx' | hx'
  ·exact hx x hx'
  simp at hx'
  have := of_decide_eq_false d1
  omega
structure AccOk (sizes : List Nat) (a : AccM) (s : RdS) : Prop where
 told0 : 0 ≤ a.told
 told1 : a.told ≤ s.k
 funs : ∀ f ∈ a.funs, FunOk sizes f
 shared : ∀ f ∈ a.shared, FunOk sizes f
 few : a.funs.length ≤ s.k
 sfew : a.shared.length ≤ s.k
 far : ∀ f ∈ a.shared, f.scope.length ≤ s.k
 sub : ∀ f ∈ a.shared, f ∈ a.funs
 lfew : ∀ f ∈ a.funs, f.lines.length ≤ s.k
def FunLim (sizes : List Nat) (f : FunM) : Prop := f.scope.length ≤ 6 ∧ cntM (pickN sizes f.scope) 1 ≤ 4096
theorem AccOk.start (sizes : List Nat) (s : RdS) : AccOk sizes ⟨[], [], 0⟩ s :=
 ⟨Int.le_refl _, Int.natCast_nonneg _, fun f h => absurd h (by simp), fun f h => absurd h (by simp), Nat.zero_le _, Nat.zero_le _, fun f h => absurd h (by simp), fun f h => absurd h (by simp), fun f h => absurd h (by simp)⟩
theorem linesOk_nil (ts : List Nat) : LinesOk ts [] := ⟨fun y h => absurd h (by simp), fun y h => absurd h (by simp), fun y h => absurd h (by simp), List.Pairwise.nil⟩
theorem funLines_ok {l : List UInt8} {sizes sc : List Nat} {a : AccM} {s t : RdS} {r : List LineM × Int} (ha : AccOk sizes a s) (hs : s.k ≤ l.length) (h : funLines l sizes sc a s = .ok r t) :
  LinesOk (pickN sizes sc) r.1 ∧ r.1.length ≤ t.k ∧ s.k < t.k ∧ t.k ≤ l.length ∧ 0 ≤ r.2 ∧ r.2 ≤ t.k ∧ (t.big = none → s.big = none ∧ (a.told ≤ 16384 → r.2 ≤ 16384)) := by
 obtain ⟨m, s1, h1, h2⟩ := bind_ok_iff.1 h
 obtain ⟨a1, a2, a3, a4, a5⟩ := numM_k hs h1
 have t0 := ha.told0
 have t1 := ha.told1
 split at h2
 ·split at h2
  ·rename_i g hg
   split at h2
   ·rename_i hp
    cases h2
    have := (ha.shared g (List.mem_of_getElem? hg)).lines
    rw [hp] at this
    exact ⟨this, by have := ha.lfew g (ha.sub g (List.mem_of_getElem? hg)); show g.lines.length ≤ _; omega, a1, a2, t0, by show a.told ≤ _; omega, fun hb => ⟨a3 ▸ hb, fun h => h⟩⟩
   cases h2
  cases h2
 rename_i hm
 obtain ⟨ls, s2, h3, h4⟩ := bind_ok_iff.1 h2
 cases h4
 obtain ⟨b1, b2, b3⟩ := linesM_k (by rw [limS_k]; exact a2) h3
 rw [limS_k] at b1
 obtain ⟨c1, c2⟩ := linesM_ok h3 (linesOk_nil _)
 refine ⟨c1, by show ls.length ≤ _; simp at c2; omega, by omega, b2, by show 0 ≤ a.told + m.1; omega, by show a.told + m.1 ≤ _; omega, fun hb => ?_⟩
 rw [b3] at hb
 obtain ⟨d1, d2⟩ := limS_none hb
 have := of_decide_eq_false d1
 exact ⟨a3 ▸ d2, fun _ => by show a.told + m.1 ≤ _; omega⟩
theorem funM_ok {l : List UInt8} {sizes : List Nat} {a a' : AccM} {s t : RdS} (ha : AccOk sizes a s) (hs : s.k ≤ l.length) (h : funM l sizes a s = .ok a' t) :
  AccOk sizes a' t ∧ s.k < t.k ∧ t.k ≤ l.length ∧ a'.funs.length = a.funs.length + 1 ∧ (t.big = none → s.big = none ∧ ((∀ f ∈ a.funs, FunLim sizes f) → ∀ f ∈ a'.funs, FunLim sizes f) ∧ (a.told ≤ 16384 → a'.told ≤ 16384)) := by
 obtain ⟨ar, s1, h1, h⟩ := bind_ok_iff.1 h
 obtain ⟨sc, s2, h2, h⟩ := bind_ok_iff.1 h
 obtain ⟨o, s3, h3, h⟩ := bind_ok_iff.1 h
 obtain ⟨ls, s4, h4, h⟩ := bind_ok_iff.1 h
 obtain ⟨a1, a2, a3, a4, a5⟩ := numM_k hs h1
 obtain ⟨b1, b2, b3⟩ := scopeM_k a2 h2
 obtain ⟨b4, b5, b6⟩ := scopeM_ok h2 (fun v hv => absurd hv (by simp)) List.Pairwise.nil
 obtain ⟨c1, c2, c3, c4, c5⟩ := numM_k (by rw [limS_k]; exact b2) h3
 rw [limS_k] at c1
 have t1 := ha.told1
 have hac : AccOk sizes a s3 := ⟨ha.told0, by omega, ha.funs, ha.shared, by have := ha.few; omega, by have := ha.sfew; omega, fun f hf => by have := ha.far f hf; omega, ha.sub, fun f hf => by have := ha.lfew f hf; omega⟩
 obtain ⟨d1, d0, d2, d3, d4, d5, d6⟩ := funLines_ok hac c2 h4
 have hb6 : sc.length = ar.1.natAbs := by simpa using b6
 have hfn : FunOk sizes ⟨sc, o.1, ls.1⟩ := ⟨b4, b5, ⟨c4, c5⟩, d1⟩
 have hmem : ∀ {fs : List FunM} {P : FunM → Prop}, (∀ f ∈ fs, P f) → P ⟨sc, o.1, ls.1⟩ → ∀ f ∈ fs ++ [⟨sc, o.1, ls.1⟩], P f := fun h1 h2 f hf => by
  rcases List.mem_append.1 hf with hf | hf
  ·exact h1 f hf
  simp at hf; subst hf; exact h2
 simp only [RdR.ok.injEq] at h
 obtain ⟨rfl, rfl⟩ := h
 refine ⟨⟨d4, d5, hmem ha.funs hfn, ?_, ?_, ?_, ?_, ?_, hmem (fun f hf => by have := ha.lfew f hf; omega) d0⟩, by omega, d3, by simp, fun hb => ?_⟩
 ·show ∀ f ∈ (if ar.1 < 0 then a.shared ++ [_] else a.shared), _
  split
  ·exact hmem ha.shared hfn
  exact ha.shared
 ·have := ha.few
  simp
  omega
 ·have := ha.sfew
  show (if ar.1 < 0 then a.shared ++ [_] else a.shared).length ≤ _
  split
  ·simp; omega
  omega
 ·show ∀ f ∈ (if ar.1 < 0 then a.shared ++ [_] else a.shared), _
  have h0 : ∀ f ∈ a.shared, f.scope.length ≤ s4.k := fun f hf => by have := ha.far f hf; omega
  split
  ·exact hmem h0 (by show sc.length ≤ _; omega)
  exact h0
 ·show ∀ f ∈ (if ar.1 < 0 then a.shared ++ [_] else a.shared), _
  have h0 : ∀ f ∈ a.shared, f ∈ a.funs ++ [⟨sc, o.1, ls.1⟩] := fun f hf => List.mem_append_left _ (ha.sub f hf)
  split
  ·exact hmem h0 (by simp)
  exact h0
 obtain ⟨e1, e2⟩ := d6 hb
 rw [c3] at e1
 obtain ⟨f1, f2⟩ := limS_none e1
 simp only [Bool.or_eq_false_iff, decide_eq_false_iff_not] at f1
 refine ⟨a3 ▸ b3 ▸ f2, fun hf => hmem hf ⟨by show sc.length ≤ 6; omega, Nat.le_of_not_lt f1.2⟩, e2⟩
theorem funsM_ok {l : List UInt8} {sizes : List Nat} : ∀ {n : Nat} {a a' : AccM} {s t : RdS}, AccOk sizes a s → s.k ≤ l.length → funsM l sizes n a s = .ok a' t →
  AccOk sizes a' t ∧ s.k + n ≤ t.k ∧ t.k ≤ l.length ∧ a'.funs.length = a.funs.length + n ∧ (t.big = none → s.big = none ∧ ((∀ f ∈ a.funs, FunLim sizes f) → ∀ f ∈ a'.funs, FunLim sizes f) ∧ (a.told ≤ 16384 → a'.told ≤ 16384))
 | 0, a, a', s, t, ha, hs, h => by cases h; exact ⟨ha, Nat.le_refl _, hs, rfl, fun h => ⟨h, fun h => h, fun h => h⟩⟩
 | n + 1, a, a', s, t, ha, hs, h => by
  obtain ⟨a1, s1, h1, h2⟩ := bind_ok_iff.1 h
  obtain ⟨b1, b2, b3, b4, b5⟩ := funM_ok ha hs h1
  obtain ⟨c1, c2, c3, c4, c5⟩ := funsM_ok b1 b3 h2
  refine ⟨c1, by omega, c3, by omega, fun hb => ?_⟩
  obtain ⟨d1, d2, d3⟩ := c5 hb
  obtain ⟨e1, e2, e3⟩ := b5 d1
  exact ⟨e1, fun h => d2 (e2 h), fun h => d3 (e3 h)⟩
structure FileOk (l : List UInt8) (f : FileM) : Prop where
 name : f.name.1 < f.name.2 ∧ f.name.2 ≤ l.length
 long : f.name.2 - f.name.1 ≤ 64
 top : 1 ≤ f.top ∧ f.top ≤ 2147483648
 sizes : ∀ x ∈ f.sizes, 1 ≤ x ∧ x ≤ 32
 n : 1 ≤ f.sizes.length ∧ f.sizes.length ≤ 64
 nf : f.funs.length ≤ 256
 funs : ∀ g ∈ f.funs, FunOk f.sizes g ∧ FunLim f.sizes g
 lfew : ∀ g ∈ f.funs, g.lines.length ≤ l.length
theorem fileM_ok {l : List UInt8} {lo : Int} {f : FileM} {s : RdS} (h : fileM l lo = .ok f s) (hb : s.big = none) : FileOk l f ∧ s.k ≤ l.length := by
 unfold fileM at h
 obtain ⟨w, s1, h1, h⟩ := bind_ok_iff.1 h
 obtain ⟨n, s2, h2, h⟩ := bind_ok_iff.1 h
 obtain ⟨g, s3, h3, h⟩ := bind_ok_iff.1 h
 obtain ⟨c, s4, h4, h⟩ := bind_ok_iff.1 h
 obtain ⟨k, s5, h5, h⟩ := bind_ok_iff.1 h
 obtain ⟨sz, s6, h6, h⟩ := bind_ok_iff.1 h
 obtain ⟨a, s7, h7, h⟩ := bind_ok_iff.1 h
 obtain ⟨w1, w2⟩ := wordM_ok.1 h1
 have hw := stepW_word (l := l) (k := 0) (Nat.zero_le _) w1
 have hk1 : s1.k = w.2 := by rw [w2]
 have hb1 : s1.big = none := by rw [w2]
 obtain ⟨a1, a2, a3, a4, a5⟩ := numM_k (by rw [limS_k, hk1]; omega) h2
 rw [limS_k] at a1
 obtain ⟨b1, b2, b3, b4, b5⟩ := numM_k (by rw [limS_k]; exact a2) h3
 obtain ⟨c1, c2, c3, c4, c5⟩ := numM_k b2 h4
 obtain ⟨d1, d2, d3, d4, d5⟩ := numM_k (by rw [limS_k]; exact c2) h5
 obtain ⟨e1, e2, e3, e4, e5⟩ := sizesM_k (by rw [limS_k]; exact d2) h6
 obtain ⟨f1, f2, f3, f4, f5⟩ := funsM_ok (AccOk.start sz s6) e2 h7
 split at h
 ·cases h
 ·cases h
 cases h
 obtain ⟨g1, g2, g3⟩ := f5 hb
 obtain ⟨i1, i2⟩ := e5 g1
 obtain ⟨j1, j2⟩ := limS_none i1
 rw [d3] at j2
 obtain ⟨k1, k2⟩ := limS_none j2
 rw [c3, b3] at k2
 obtain ⟨m1, m2⟩ := limS_none k2
 rw [a3] at m2
 obtain ⟨n1, n2⟩ := limS_none m2
 have q1 := of_decide_eq_false j1
 have q2 := of_decide_eq_false k1
 have q3 := of_decide_eq_false m1
 have q4 := of_decide_eq_false n1
 refine ⟨⟨⟨by show w.1 < w.2; omega, by show w.2 ≤ _; omega⟩, by show w.2 - w.1 ≤ 64; omega, ⟨d4, by show k.1 ≤ _; omega⟩, fun x hx => ⟨(e4 (fun x h => absurd h (by simp)) x hx).1, i2 (fun x h => absurd h (by simp)) x hx⟩, ?_, ?_, fun g hg => ⟨f1.funs g hg, g2 (fun x h => absurd h (by simp)) g hg⟩, fun g hg => by have := f1.lfew g hg; omega⟩, f3⟩
 ·show 1 ≤ sz.length ∧ sz.length ≤ 64
  simp at e3
  omega
 show a.funs.length ≤ 256
 simp at f4
 omega
end Go.Proofs.YtmokogkndbinlaaGreatDoor
namespace Go.Proofs.YtmokogkndbinlaaGreatDoor
end Go.Proofs.YtmokogkndbinlaaGreatDoor
