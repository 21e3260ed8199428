import Derived.Test.YtmokogkndbinlaaGreatDoorZgbt
set_option linter.all false
namespace Go.Proofs.YtmokogkndbinlaaGreatDoor
open Go.Lib (hid)
def SepA (l : List UInt8) (k : Nat) : Prop := k ≤ l.length ∧ ∀ h : k < l.length, isB (l[k]'h).toNat = true
theorem SepA.step {l : List UInt8} {k f t : Nat} (hk : SepA l k) (h : stepW l k = .word f t) : k + 2 ≤ t ∧ SepA l t := by
 obtain ⟨h1, h2, h3, h4, h5⟩ := stepW_word hk.1 h
 refine ⟨?_, h3, fun ht => stepW_sep hk.1 h ht⟩
 have hk2 : k < l.length := by omega
 have e := pastP_step isB l hk2 (hk.2 hk2)
 have := pastP_ge isB l (k + 1)
 omega
theorem SepA.num {l : List UInt8} {lo hi : Int} {s s' : RdS} {n : Int × Nat} (hk : SepA l s.k) (h : numM l lo hi s = .ok n s') : s.k + 2 ≤ s'.k ∧ SepA l s'.k := by
 obtain ⟨w, s1, h1, h2⟩ := bind_ok_iff.1 h
 split at h2
 ·cases h2
  unfold wordM at h1
  split at h1
  ·rename_i f t hs
   cases h1
   exact hk.step hs
  ·cases h1
  cases h1
 cases h2
theorem SepA.lim {l : List UInt8} {s : RdS} {b : Bool} {p : Nat} (h : SepA l s.k) : SepA l (limS b p s).k := by rw [limS_k]; exact h
theorem SepA.scope {l : List UInt8} {nv : Nat} : ∀ {n : Nat} {acc a : List Nat} {s s' : RdS}, SepA l s.k → scopeM l nv n acc s = .ok a s' → s.k ≤ s'.k ∧ SepA l s'.k
 | 0, acc, a, s, s', hk, h => by cases h; exact ⟨Nat.le_refl _, hk⟩
 | n + 1, acc, a, s, s', hk, h => by
  obtain ⟨v, s1, h1, h2⟩ := bind_ok_iff.1 h
  obtain ⟨k1, k2⟩ := hk.num h1
  split at h2
  ·cases h2
  obtain ⟨k3, k4⟩ := SepA.scope k2 h2
  exact ⟨by omega, k4⟩
theorem SepA.tuple {l : List UInt8} {sizes : List Nat} : ∀ {sc acc a : List Nat} {s s' : RdS}, SepA l s.k → tupleM l sizes sc acc s = .ok a s' → s.k ≤ s'.k ∧ SepA l s'.k
 | [], acc, a, s, s', hk, h => by cases h; exact ⟨Nat.le_refl _, hk⟩
 | v :: r, acc, a, s, s', hk, h => by
  obtain ⟨c, s1, h1, h2⟩ := bind_ok_iff.1 h
  obtain ⟨k1, k2⟩ := hk.num h1
  obtain ⟨k3, k4⟩ := SepA.tuple k2 h2
  exact ⟨by omega, k4⟩
theorem SepA.lines {l : List UInt8} {sizes sc : List Nat} : ∀ {n : Nat} {acc a : List LineM} {s s' : RdS}, SepA l s.k → linesM l sizes sc n acc s = .ok a s' → s.k + 2 * n ≤ s'.k ∧ a.length = acc.length + n ∧ SepA l s'.k
 | 0, acc, a, s, s', hk, h => by cases h; exact ⟨Nat.le_refl _, rfl, hk⟩
 | n + 1, acc, a, s, s', hk, h => by
  obtain ⟨x, s1, h1, h2⟩ := bind_ok_iff.1 h
  obtain ⟨c, s2, h3, h4⟩ := bind_ok_iff.1 h2
  obtain ⟨k1, k2⟩ := hk.tuple h1
  obtain ⟨k3, k4⟩ := k2.num h3
  split at h4
  ·cases h4
  obtain ⟨k5, k6, k7⟩ := SepA.lines k4 h4
  refine ⟨by omega, ?_, k7⟩
  rw [k6]
  simp
  omega
structure AccB (a : AccM) (k : Nat) : Prop where
 n : 6 * a.funs.length ≤ k
 f : ∀ g ∈ a.funs, 2 * g.lines.length ≤ k
 s : ∀ g ∈ a.shared, 2 * g.lines.length ≤ k
theorem AccB.funM {l : List UInt8} {sizes : List Nat} {a a' : AccM} {s s' : RdS} (hk : SepA l s.k) (ha : AccB a s.k) (h : funM l sizes a s = .ok a' s') : AccB a' s'.k ∧ SepA l s'.k := by
 obtain ⟨ar, s1, h1, h⟩ := bind_ok_iff.1 h
 obtain ⟨sc, s2, h2, h⟩ := bind_ok_iff.1 h
 obtain ⟨o, s3, h3, h⟩ := bind_ok_iff.1 h
 obtain ⟨ls, s4, h4, h⟩ := bind_ok_iff.1 h
 obtain ⟨k1, q1⟩ := hk.num h1
 obtain ⟨k2, q2⟩ := q1.scope h2
 obtain ⟨k3, q3⟩ := q2.lim.num h3
 rw [limS_k] at k3
 have key : s3.k + 2 ≤ s4.k ∧ 2 * ls.1.length ≤ s4.k ∧ SepA l s4.k := by
  obtain ⟨m, s5, h5, h6⟩ := bind_ok_iff.1 h4
  obtain ⟨k5, q5⟩ := q3.num h5
  split at h6
  ·split at h6
   ·rename_i g hg
    split at h6
    ·cases h6
     have := ha.s g (List.mem_of_getElem? hg)
     exact ⟨k5, by show 2 * g.lines.length ≤ _; omega, q5⟩
    cases h6
   cases h6
  obtain ⟨lm, s6, h7, h8⟩ := bind_ok_iff.1 h6
  cases h8
  obtain ⟨k7, k8, q7⟩ := q5.lim.lines h7
  rw [limS_k] at k7
  simp only [List.length_nil, Nat.zero_add] at k8
  exact ⟨by omega, by show 2 * lm.length ≤ _; omega, q7⟩
 cases h
 obtain ⟨k4, k5, q4⟩ := key
 refine ⟨⟨?_, fun g hg => ?_, fun g hg => ?_⟩, q4⟩
 ·have := ha.n
  simp only [List.length_append, List.length_cons, List.length_nil]
  omega
 ·rcases List.mem_append.1 hg with hg | hg
  ·have := ha.f g hg
   omega
  simp at hg
  subst hg
  exact k5
 have hold : ∀ g ∈ a.shared, 2 * g.lines.length ≤ s'.k := fun g hg => by have := ha.s g hg; omega
 change g ∈ (if ar.1 < 0 then a.shared ++ [⟨sc, o.1, ls.1⟩] else a.shared) at hg
 split at hg
 ·rcases List.mem_append.1 hg with hg | hg
  ·exact hold g hg
  simp at hg
  subst hg
  exact k5
 exact hold g hg
theorem AccB.funsM {l : List UInt8} {sizes : List Nat} : ∀ {n : Nat} {a a' : AccM} {s s' : RdS}, SepA l s.k → AccB a s.k → funsM l sizes n a s = .ok a' s' → AccB a' s'.k ∧ SepA l s'.k
 | 0, a, a', s, s', hk, ha, h => by cases h; exact ⟨ha, hk⟩
 | n + 1, a, a', s, s', hk, ha, h => by
  obtain ⟨x, s1, h1, h2⟩ := bind_ok_iff.1 h
  obtain ⟨k1, k2⟩ := AccB.funM hk ha h1
  exact AccB.funsM k2 k1 h2
theorem SepA.sizes {l : List UInt8} {most : Int} : ∀ {n : Nat} {acc a : List Nat} {s s' : RdS}, SepA l s.k → sizesM l most n acc s = .ok a s' → SepA l s'.k
 | 0, acc, a, s, s', hk, h => by cases h; exact hk
 | n + 1, acc, a, s, s', hk, h => by
  obtain ⟨v, s1, h1, h2⟩ := bind_ok_iff.1 h
  exact SepA.sizes (hk.num h1).2.lim h2
theorem sum_le_mul {B : Nat} : ∀ (fs : List FunM), (∀ f ∈ fs, f.lines.length ≤ B) → (fs.map fun f => f.lines.length).sum ≤ fs.length * B
 | [], _ => by simp
 | f :: r, h => by
  have h1 := sum_le_mul r (fun g hg => h g (List.mem_cons_of_mem _ hg))
  have h2 := h f (List.mem_cons_self ..)
  simp only [List.map_cons, List.sum_cons, List.length_cons]
  rw [Nat.succ_mul]
  omega
theorem sum_small {l : List UInt8} {lo : Int} {F : FileM} {st : RdS} (h : fileM l lo = .ok F st) (hl : l.length ≤ 400) : (F.funs.map fun f => f.lines.length).sum ≤ 16384 := by
 unfold fileM at h
 obtain ⟨w, s1, h1, h⟩ := bind_ok_iff.1 h
 obtain ⟨n, s2, h2, h⟩ := bind_ok_iff.1 h
 obtain ⟨g, s3, h3, h⟩ := bind_ok_iff.1 h
 obtain ⟨c, s4, h4, h⟩ := bind_ok_iff.1 h
 obtain ⟨k, s5, h5, h⟩ := bind_ok_iff.1 h
 obtain ⟨sz, s6, h6, h⟩ := bind_ok_iff.1 h
 obtain ⟨a, s7, h7, h⟩ := bind_ok_iff.1 h
 have q1 : SepA l s1.k := by
  unfold wordM at h1
  split at h1
  ·rename_i f t hs
   cases h1
   exact ⟨(stepW_word (Nat.zero_le _) hs).2.2.1, fun ht => stepW_sep (Nat.zero_le _) hs ht⟩
  ·cases h1
  cases h1
 have q2 := (q1.lim.num h2).2
 have q3 := (q2.lim.num h3).2
 have q4 := (q3.num h4).2
 have q5 := (q4.lim.num h5).2
 have q6 := q5.lim.sizes h6
 obtain ⟨b7, q7⟩ := AccB.funsM q6 ⟨by simp, fun g h => absurd h (by simp), fun g h => absurd h (by simp)⟩ h7
 have hF : F.funs = a.funs := by
  split at h
  ·cases h
  ·cases h
  cases h; rfl
 rw [hF]
 have hk := q7.1
 have h8 := sum_le_mul (B := 200) a.funs (fun f hf => by have := b7.f f hf; omega)
 have h9 := b7.n
 have h10 : a.funs.length ≤ 66 := by omega
 have h11 : a.funs.length * 200 ≤ 66 * 200 := Nat.mul_le_mul_right _ h10
 omega
open Go.RowKit Go.Shelf
def Read8 (w : World) (e : Ending) (w' : World) : Prop :=
 (e = .returned (.tuple #[.pointer none, .pointer none]) ∨ ∃ (s : ByteArray) (F : FileM) (st : RdS) (fb : Nat) (As Af : Option Addr) (cs cf xb base : Nat), s.size ≤ 400 ∧ fileM s.data.toList 1 = .ok F st ∧ st.big = none ∧ e = .returned (.tuple #[.pointer (some ⟨fb, 0, none⟩), .pointer (some ⟨xb, 0, none⟩)]) ∧
  FileR w' fb (s.extract F.name.1 F.name.2) F.top F.sizes F.funs As Af cs cf ∧ RightF (s.extract F.name.1 F.name.2) F.top F.sizes F.funs ∧ FileD w' xb base s F ∧ base ≤ xb) ∧ Below w.heap.size w w'
set_option maxRecDepth 100000 in
set_option maxHeartbeats 4000000 in
theorem read8_any (a0 : Option Addr) (n0 c0 : Nat) (z0 : Nat → Int) (w : World) (hG : GlobR w) (hT : TabP w) (h0 : n0 ≤ c0) (hm0 : (n0 : Int) ≤ 9223372036854775807) (hA0 : a0 = none → n0 = 0) (hz0 : Bytes w a0 n0 z0) :
  Calls Tryz.prog 14 #[.slice a0 n0 c0] w (Read8 w) := by
 obtain ⟨m0, hk0⟩ : ∃ m, min n0 400 = m := ⟨_, rfl⟩
 have hi0 : min (n0 : Int) 400 = (m0 : Int) := by omega
 have hi1 : (if (n0 : Int) ≤ 400 then (n0 : Int) else 400) = (m0 : Int) := by split <;> omega
 have hi2 : (if (400 : Int) < (n0 : Int) then 400 else (n0 : Int)) = (m0 : Int) := by split <;> omega
 have hi3 : (if (n0 : Int) < 400 then (n0 : Int) else 400) = (m0 : Int) := by split <;> omega
 have SL0 : ∀ W, (Instr.slice 22 (.slice a0 n0 c0) none (some (.int .i64 (m0 : Int))) none).run Tryz.prog W = .ok (.slice a0 m0 c0) W := fun W => slice_head a0 n0 m0 c0 (by omega) W
 have C0 : Cel w a0 (strZ z0 m0) := hz0.cel (by omega) (fun e => by have := hA0 e; omega)
 have e0 := strZ_size z0 m0
 generalize strZ z0 m0 = s0 at C0 e0
 have P0 := hid (bclone_any a0 m0 c0 s0 w e0 (by omega) C0)
 have HS0 : Hid (s0.size = m0 ∧ m0 ≤ 400) := hid ⟨e0, by omega⟩
 have GB := hid (fun W (hb : Below w.heap.size w W) => And.intro (hG.below hb) (tab_below hT hb))
 clear hk0 C0 e0 hz0 hA0 hG hT h0
 go_enter Tryz.func14, Tryz.ntmps14
 go_upto_region 2 with (first
  | (go_at_call 61; refine P0.out.mono ?_; rintro e w2 ⟨⟨v0, rfl, h0⟩, hb⟩; have B2 := hid hb; obtain ⟨A0, q0, rfl, hq0, hs0⟩ := h0.form1; have HB0 := hid hs0; have HQ0 := hid hq0; clear h0 hb hs0 hq0)
  | fail)
 clear SL0 hi0 hi1 hi2 hi3 P0
 have RD := hid (fun W A c (hc : s0.size ≤ c) (h : BS W A s0) => read7 s0 A c W (by have := HS0.out; omega) hc h)
 cases hE : fileM s0.data.toList 1 with
 | bad e p =>
  obtain ⟨e', p', hE'⟩ : ∃ e' p', fileM s0.data.toList (-4611686018427387904) = .bad e' p' := by
   cases h : fileM s0.data.toList (-4611686018427387904) with
   | bad e' p' => exact ⟨_, _, rfl⟩
   | ok F st => have := fileM_lo.1 h; rw [hE] at this; cases this
  have RC := hid (readR_bad (c := q0) (by have := HS0.out; omega) HB0.out (GB.out _ B2.out).1 (GB.out _ B2.out).2 hE')
  have HEE := hid hE
  clear hE hE'
  by_cases hz : e' = 0
  ·subst hz
   go_wp2_with (first
    | (go_at_call 22; refine RC.out.mono ?_; rintro e3 w3 ⟨rfl, hb3⟩; have B3 := hid (then_ B2.out hb3); have BS3 := hid (HB0.out.below hb3 (Nat.le_refl _)); clear hb3)
    | (go_at_call 62; refine (RD.out _ _ _ HQ0.out BS3.out).mono ?_; rintro e4 w4 ⟨hr4, hb4⟩; rw [HEE.out] at hr4; have hr4' : e4 = .returned (.tuple #[.pointer none, .int .i64 (p : Int), .int .i64 (e : Int)]) := hr4; subst hr4'; have B4 := hid (then_ B3.out hb4); clear hr4 hb4)
    | fail)
   go_ret2
   exact ⟨.inl rfl, B4.out⟩
  have dz : ((e' : Int) != 0) = true := by simp; omega
  clear hz
  go_wp2_with (first
   | (go_at_call 22; refine RC.out.mono ?_; rintro e3 w3 ⟨rfl, hb3⟩; have B3 := hid (then_ B2.out hb3); have BS3 := hid (HB0.out.below hb3 (Nat.le_refl _)); clear hb3)
   | (go_at_call 62; refine (RD.out _ _ _ HQ0.out BS3.out).mono ?_; rintro e4 w4 ⟨hr4, hb4⟩; rw [HEE.out] at hr4; have hr4' : e4 = .returned (.tuple #[.pointer none, .int .i64 (p : Int), .int .i64 (e : Int)]) := hr4; subst hr4'; have B4 := hid (then_ B3.out hb4); clear hr4 hb4)
   | fail)
  go_ret2
  exact ⟨.inl rfl, B4.out⟩
 | ok F st =>
  have hE' : fileM s0.data.toList (-4611686018427387904) = .ok F st := fileM_lo.2 hE
  cases hb : st.big with
  | some p =>
   have RC := hid (readR_big (c := q0) (by have := HS0.out; omega) HB0.out (GB.out _ B2.out).1 (GB.out _ B2.out).2 hE' hb)
   have HEE := hid (And.intro hE hb)
   clear hE hE' hb
   go_wp2_with (first
    | (go_at_call 22; refine RC.out.mono ?_; rintro e3 w3 ⟨rfl, hb3⟩; have B3 := hid (then_ B2.out hb3); have BS3 := hid (HB0.out.below hb3 (Nat.le_refl _)); clear hb3)
    | (go_at_call 62; refine (RD.out _ _ _ HQ0.out BS3.out).mono ?_; rintro e4 w4 ⟨hr4, hb4⟩; rw [HEE.out.1] at hr4; have hr4' : e4 = .returned (.tuple #[.pointer none, .int .i64 (p : Int), .int .i64 5]) := (by unfold ReadRes7 at hr4; simp only [HEE.out.2] at hr4; exact hr4); subst hr4'; have B4 := hid (then_ B3.out hb4); clear hr4 hb4)
    | fail)
   go_ret2
   exact ⟨.inl rfl, B4.out⟩
  | none =>
   have RR : Hid (RightF (s0.extract F.name.1 F.name.2) F.top F.sizes F.funs) := hid (rightF_of (s := s0) hE' hb (sum_small hE (by rw [size_list]; have := HS0.out; omega)))
   have RC := hid (readR_ok (c := q0) (by have := HS0.out; omega) HB0.out (GB.out _ B2.out).1 (GB.out _ B2.out).2 hE' hb)
   have HEE := hid (And.intro hE hb)
   clear hE hE' hb
   go_wp2_with (first
    | (go_at_call 22; refine RC.out.mono ?_; rintro e3 w3 ⟨fb, As, Af, cs, cf, rfl, hf3, hb3⟩; have B3 := hid (then_ B2.out hb3); have BS3 := hid (HB0.out.below hb3 (Nat.le_refl _)); have F3 := hid hf3; clear hb3 hf3)
    | (go_at_call 62; refine (RD.out _ _ _ HQ0.out BS3.out).mono ?_; rintro e4 w4 ⟨hr4, hb4⟩; rw [HEE.out.1] at hr4; obtain ⟨xb, rfl, hx, hxb⟩ : ∃ xb, e4 = .returned (.tuple #[.pointer (some ⟨xb, 0, none⟩), .int .i64 (s0.size : Int), .int .i64 0]) ∧ FileD w4 xb w3.heap.size s0 F ∧ w3.heap.size ≤ xb := (by unfold ReadRes7 at hr4; simp only [HEE.out.2] at hr4; exact hr4); have B4 := hid (then_ B3.out hb4); have F4 := hid (F3.out.below hb4); have X4 := hid hx; have XB := hid hxb; clear hr4 hb4 hx hxb)
    | fail)
   go_ret2
   exact ⟨.inr ⟨s0, F, st, fb, As, Af, cs, cf, xb, _, by have := HS0.out; omega, HEE.out.1, HEE.out.2, rfl, F4.out, RR.out, X4.out, XB.out⟩, B4.out⟩
theorem lessI_any (a b : Int) (c : Bool) (w : World) (hc : decide (a < b) = c) : Calls Tryz.prog 92 #[.int .i64 a, .int .i64 b] w fun e w' => e = .returned (.bool c) ∧ w = w' := by
 cases c with
 | true =>
  have h1 : a < b := of_decide_eq_true hc
  clear hc
  go_enter Tryz.func92, Tryz.ntmps92
  go_wp2_with (go_at_call 150; refine (nan_no _ _).mono ?_; rintro e w' ⟨rfl, rfl⟩)
  go_ret
  exact ⟨rfl, rfl⟩
 | false =>
  have h1 : ¬ a < b := of_decide_eq_false hc
  go_enter Tryz.func92, Tryz.ntmps92
  go_wp2_with (go_at_call 150; refine (nan_no _ _).mono ?_; rintro e w' ⟨rfl, rfl⟩)
  go_ret
  exact ⟨rfl, rfl⟩
theorem rise_at {S : List Nat} (h : S.Pairwise (· < ·)) {i j : Nat} (hij : i < j) (hj : j < S.length) : nth S i < nth S j := by
 rw [List.pairwise_iff_getElem] at h
 rw [nth_get (by omega), nth_get hj]
 exact h i j (by omega) hj hij
theorem sortedI_yes (A : Option Addr) (n c : Nat) (S : List Nat) (w : World) (hn : S.length = n) (h4 : n ≤ 100000) (hI : Ints w A S) (hS : S.Pairwise (· < ·)) :
  Calls Tryz.prog 33 #[.slice A n c] w fun e w' => e = .returned (.bool true) ∧ Below w.heap.size w w' := by
 have HI := hid hI
 have HS := hid hS
 have HN := hid hn
 clear hn hI hS
 go_enter Tryz.func33, Tryz.ntmps33
 go_wp2_with fail
 go_loopw [3] (fun i wr => ∃ j : Nat, j ≤ n ∧ i = .int .i64 ((j : Int) - 1) ∧ Below w.heap.size w wr) (fun i _ => (intOf i + 1).toNat)
 case atStart => exact ⟨n, Nat.le_refl _, rfl, Below.refl _ _⟩
 case round =>
  obtain ⟨j, hj, rfl, hb⟩ := hrel
  have HB := hid hb
  clear hb
  by_cases hlt : 1 < j
  rotate_left
  ·have i1 : ¬ ((0 : Int) < (j : Int) - 1) := by omega
   go_wp2_with fail
   go_ret
   exact ⟨rfl, HB.out⟩
  obtain ⟨g, o, rfl, hc1⟩ := (HI.out.below HB.out (Nat.le_refl _)).at_ (i := j - 1) (by rw [HN.out]; omega)
  obtain ⟨g', o', e', hc2⟩ := (HI.out.below HB.out (Nat.le_refl _)).at_ (i := j - 2) (by rw [HN.out]; omega)
  obtain ⟨rfl, rfl⟩ : g = g' ∧ o = o' := by injection e' with e'; injection e' with a b; exact ⟨a, b⟩
  have hlt2 : nth S (j - 2) < nth S (j - 1) := rise_at HS.out (by omega) (by rw [HN.out]; omega)
  have hl := fun W => lessI_any ((nth S (j - 1) : Nat) : Int) ((nth S (j - 2) : Nat) : Int) false W (decide_eq_false (by omega))
  generalize nth S (j - 1) = x at hc1 hl
  generalize nth S (j - 2) = y at hc2 hl
  obtain ⟨m, hm⟩ : ∃ m, j = m + 2 := ⟨j - 2, by omega⟩
  subst hm
  have e0 : ((m + 2 : Nat) : Int) - 1 = (m : Int) + 1 := by omega
  have e1 : m + 2 - 1 = m + 1 := by omega
  have e2 : m + 2 - 2 = m := by omega
  rw [e1] at hc1
  rw [e2] at hc2
  rw [e0]
  have i1 : (0 : Int) < (m : Int) + 1 := by omega
  have i2 : (m : Int) + 1 < (n : Int) := by omega
  have i3 : (0 : Int) ≤ (m : Int) := by omega
  have i4 : (m : Int) < (n : Int) := by omega
  have i5 : (m : Int) + 1 - 1 = (m : Int) := by omega
  have i6 : (0 : Int) ≤ (m : Int) + 1 := by omega
  have v1 : IntKind.i64.wrap (m : Int) = (m : Int) := IntWalk.i64_in _ (by omega)
  have v2 : IntKind.i64.wrap ((m : Int) + 1 - 1) = (m : Int) := by rw [i5]; exact v1
  have e4 : ((m : Int) + 1).toNat = m + 1 := by omega
  clear e' hlt hlt2 e0 e1 e2
  go_wp2_with fail
  refine wp_region_noPanic ?_
  refine wp_region_held_drew (S := fun W => W.cell? ⟨g, o + (m + 1), none⟩ = some (.int .i64 (x : Int)) ∧ W.cell? ⟨g, o + m, none⟩ = some (.int .i64 (y : Int))) (by kernel_rfl) ⟨hc1, hc2⟩ (fun hHeld => ?_)
  refine wt 0 ?r301
  refine wt 1 ?r302
  refine wt 2 ?r303
  refine wt 3 ?r304
  refine wt 4 ?r305
  refine wt 5 ?r306
  refine wt 6 ?r307
  refine wt 7 ?r308
  refine wt 8 ?r309
  refine wr1 9 (fun K hK => ?_)
  go_simp
  refine (hl _).mono ?_
  rintro e w' ⟨rfl, rfl⟩
  refine hK.out _ _ (hHeld) (fun hHeld' => ?_)
  replace hHeld := hHeld'
  clear hHeld'
  clear hK K
  try simp only [Act.put, pa, pb, pc, pd, pe, pf]
  refine wpAnyH_done (by kernel_rfl) ?_ _
  refine NoPanic.normal ?_
  clear hHeld
  go_wp2_with fail
  exact ⟨⟨m + 1, by omega, by go_num, HB.out.drew⟩, by simp [intOf]; omega⟩
theorem compact_rise {S : List Nat} (h : S.Pairwise (· < ·)) : Lib.compact (sortI S) = S.map fun i : Nat => (i : Int) := by
 have e : sortI S = S.map fun i : Nat => (i : Int) := by rw [risL_cast, risL_self h]
 rw [e]
 obtain ⟨zs, hz⟩ : ∃ zs, zs = S.map fun i : Nat => (i : Int) := ⟨_, rfl⟩
 have hr : zs.Pairwise (· < ·) := by
  rw [hz, List.pairwise_map]
  exact h.imp fun h => by omega
 rw [← hz]
 clear hz e h
 unfold Lib.compact Lib.compactUpTo
 have hk : (List.range zs.length).filter (Lib.keeps zs.toArray) = List.range zs.length := by
  rw [List.filter_eq_self]
  intro i hi
  have hi := List.mem_range.1 hi
  rcases Nat.eq_zero_or_pos i with rfl | hp
  ·simp [Lib.keeps]
  refine Lib.keeps_pos ?_
  rw [List.pairwise_iff_getElem] at hr
  have := hr (i - 1) i (by omega) hi (by omega)
  simp [hi, show i - 1 < zs.length by omega]
  omega
 rw [hk]
 refine List.ext_getElem (by simp) fun i h1 h2 => ?_
 simp at h1
 simp [h1]
theorem compactR_any (base n : Nat) (v : Value) (S : List Nat) (w : World) (h : Own w base v S) (hb : base ≤ w.heap.size) (hn : S.length = n) (hS : S.Pairwise (· < ·)) (hn4 : n ≤ 100000) :
  Calls Tryz.prog 34 #[v] w fun e w' => (∃ A c, e = .returned (.slice A n c)) ∧ Below base w w' := by
 subst hn
 have e : (sortI S).map (Value.int .i64) = S.map fun i : Nat => Value.int .i64 (i : Int) := by
  rw [risL_cast, risL_self hS, List.map_map]
  rfl
 refine (compact_any base S.length v S S w (by rw [e]; exact h) hb rfl (compact_rise hS) hn4).mono ?_
 rintro e w' ⟨⟨A, c, rfl, _⟩, hb⟩
 exact ⟨⟨A, c, rfl⟩, hb⟩
def awake8L : List UInt8 := [116, 32, 50, 32, 50, 32, 50, 32, 57, 32, 50, 32, 50, 32, 50, 32, 49, 32, 48, 32, 49, 32, 48, 32, 50, 32, 48, 32, 49, 32, 48, 32, 48]
def awake8F : FileM := ⟨(0, 1), 9, [2, 2], [⟨[1, 0], 1, []⟩, ⟨[0, 1], 0, []⟩]⟩
def awake8S : ByteArray := ⟨awake8L.toArray⟩
theorem awake8_file : fileM awake8L (-4611686018427387904) = .ok awake8F ⟨33, none⟩ := by kernel_rfl
theorem ris_two {s : List Nat} (h : s.Nodup) (hm : ∀ x, x ∈ s ↔ x ∈ [0, 1]) : risL s = [0, 1] :=
 rise_uniq (risL_lt h) (by simp) fun x => by rw [risL_mem, hm]
theorem one_scope {l : List (List Nat)} (hp : l.Pairwise (· ≠ ·)) {S : List Nat} (hm : ∀ x, x ∈ l ↔ x = S) : l = [S] := by
 cases l with
 | nil => exact absurd ((hm S).2 rfl) (by simp)
 | cons a l =>
  have ha : a = S := (hm a).1 (by simp)
  subst ha
  cases l with
  | nil => rfl
  | cons b l =>
   have hb : b = a := (hm b).1 (by simp)
   rw [List.pairwise_cons] at hp
   exact absurd hb.symm (hp.1 b (by simp))
theorem awake8_can {cfs : List FunM} (h : CanF 9 [2, 2] (partsM 9 [2, 2] awake8F.funs) cfs) : ∃ c, cfs = [c] ∧ c.scope = [0, 1] := by
 have e0 : risL [1, 0] = [0, 1] := ris_two (by decide) (by intro x; simp; omega)
 have e1 : risL [0, 1] = [0, 1] := ris_two (by decide) (by intro x; simp)
 have hs : cfs.map (·.scope) = [[0, 1]] := by
  refine one_scope h.scopes fun S => ?_
  have hm := h.can.mem S
  rw [List.map_map] at hm
  constructor
  ·intro hS
   obtain ⟨⟨p, hp, e⟩, _⟩ := hm.1 hS
   obtain ⟨f, hf, rfl⟩ := List.mem_map.1 hp
   have hf : f = ⟨[1, 0], 1, []⟩ ∨ f = ⟨[0, 1], 0, []⟩ := by simpa [awake8F] using hf
   rcases hf with rfl | rfl
   ·rw [← e]; exact e0
   rw [← e]; exact e1
  rintro rfl
  refine hm.2 ⟨⟨risM [2, 2] [0, 1] (funF 9 ⟨[0, 1], 0, []⟩), List.mem_map.2 ⟨⟨[0, 1], 0, []⟩, by simp [awake8F], rfl⟩, e1⟩, 0, by show 0 < prodL [2, 2]; decide, ?_⟩
  unfold grpM
  have e2 : partsM 9 [2, 2] awake8F.funs = [risM [2, 2] [1, 0] (funF 9 ⟨[1, 0], 1, []⟩), risM [2, 2] [0, 1] (funF 9 ⟨[0, 1], 0, []⟩)] := rfl
  rw [e2, grpS_cons, grpS_cons, grpS_nil, if_pos (show (risM [2, 2] [1, 0] (funF 9 ⟨[1, 0], 1, []⟩)).scope = [0, 1] from e0), if_pos (show (risM [2, 2] [0, 1] (funF 9 ⟨[0, 1], 0, []⟩)).scope = [0, 1] from e1)]
  have z0 : ∀ i, (risM [2, 2] [1, 0] (funF 9 ⟨[1, 0], 1, []⟩)).z i = 1 := fun i => rfl
  have z1 : ∀ i, (risM [2, 2] [0, 1] (funF 9 ⟨[0, 1], 0, []⟩)).z i = 0 := fun i => rfl
  rw [z0, z1]
  decide
 cases cfs with
 | nil => simp at hs
 | cons c cfs =>
  cases cfs with
  | nil => exact ⟨c, rfl, by simpa using hs⟩
  | cons d cfs => simp at hs
set_option maxRecDepth 100000 in
set_option maxHeartbeats 4000000 in
theorem awake8_ok (w : World) (hG : GlobR w) (hT : TabP w) : Calls Tryz.prog 13 #[] w fun e w' => e = .returned (.bool true) ∧ Below w.heap.size w w' := by
 have hcs := Lib.run_convert_bytes_const (P := Tryz.prog) w 22 5 #[.int .u8 116, .int .u8 32, .int .u8 50, .int .u8 32, .int .u8 50, .int .u8 32, .int .u8 50, .int .u8 32, .int .u8 57, .int .u8 32, .int .u8 50, .int .u8 32, .int .u8 50, .int .u8 32, .int .u8 50, .int .u8 32, .int .u8 49, .int .u8 32, .int .u8 48, .int .u8 32, .int .u8 49, .int .u8 32, .int .u8 48, .int .u8 32, .int .u8 50, .int .u8 32, .int .u8 48, .int .u8 32, .int .u8 49, .int .u8 32, .int .u8 48, .int .u8 32, .int .u8 48] 33 33 Tryz.underlying22 Tryz.underlying5
 have n0 := hid (new_val w (.cells (awake8L.map fun c => Value.int .u8 (c.toNat : Int)).toArray 5 (33, 34)))
 have BY : Hid (BS (w.alloc (.cells (awake8L.map fun c => Value.int .u8 (c.toNat : Int)).toArray 5 (33, 34))) (some ⟨w.heap.size, 0, none⟩) awake8S) := hid (.inr ⟨_, 0, rfl, by simp, fun i hi => by
  rw [cell_of_row _ _ _ _ _ _ (heap_alloc_new w _)]
  have hi' : i < awake8L.length := hi
  rw [Nat.zero_add]
  show ((awake8L.map fun c => Value.int .u8 (c.toNat : Int)).toArray)[i]? = some (.int .u8 ((awake8L.toArray[i]'(by simpa using hi')).toNat : Int))
  simp [hi']⟩)
 have RD := hid (readR_ok (c := 33) (by decide) BY.out (hG.below n0.out) (tab_below hT n0.out) (F := awake8F) awake8_file rfl)
 have RR : Hid (RightF (awake8S.extract awake8F.name.1 awake8F.name.2) awake8F.top awake8F.sizes awake8F.funs) := hid (rightF_of (s := awake8S) awake8_file rfl (by decide))
 rw [show awake8S.size = 33 from rfl] at RD
 have RD : Hid (Calls Tryz.prog 22 #[.slice (some ⟨w.heap.size, 0, none⟩) 33 33] (w.alloc (.cells (awake8L.map fun c => Value.int .u8 (c.toNat : Int)).toArray 5 (33, 34))) fun e w' => ∃ fb As Af cs cf, e = .returned (.tuple #[.pointer (some ⟨fb, 0, none⟩), .int .i64 33, .int .i64 0]) ∧ FileR w' fb (awake8S.extract awake8F.name.1 awake8F.name.2) awake8F.top awake8F.sizes awake8F.funs As Af cs cf ∧ Below (w.alloc (.cells (awake8L.map fun c => Value.int .u8 (c.toNat : Int)).toArray 5 (33, 34))).heap.size (w.alloc (.cells (awake8L.map fun c => Value.int .u8 (c.toNat : Int)).toArray 5 (33, 34))) w') := RD
 have eL : (awake8L.map fun c => Value.int .u8 (c.toNat : Int)).toArray = #[.int .u8 116, .int .u8 32, .int .u8 50, .int .u8 32, .int .u8 50, .int .u8 32, .int .u8 50, .int .u8 32, .int .u8 57, .int .u8 32, .int .u8 50, .int .u8 32, .int .u8 50, .int .u8 32, .int .u8 50, .int .u8 32, .int .u8 49, .int .u8 32, .int .u8 48, .int .u8 32, .int .u8 49, .int .u8 32, .int .u8 48, .int .u8 32, .int .u8 50, .int .u8 32, .int .u8 48, .int .u8 32, .int .u8 49, .int .u8 32, .int .u8 48, .int .u8 32, .int .u8 48] := by rfl
 rw [eL] at n0 RD
 clear hG hT BY eL
 go_enter Tryz.func13, Tryz.ntmps13
 go_upto_region 2 with (first | (go_at_call 22; refine RD.out.mono ?_; rintro e w2 ⟨fb, As, Af, cs, cf, rfl, hf2, hb2⟩; have B2 := hid (then_ n0.out hb2); have F2 := hid hf2; clear hf2 hb2) | fail)
 clear hcs
 go_upto_region 5 with (first | (go_at_call 23; refine (canon_ok fb cs cf _ _ _ _ As Af w2 F2.out RR.out).mono ?_; rintro e w3 ⟨⟨cb, A, c, fv, us, cfs, rfl, hCA, hCF⟩, hb3⟩; have B3 := hid (B2.out.trans (hb3.mono B2.out.size)); have CA := hid hCA; have CF := hid hCF; clear hb3 hCA hCF) | fail)
 obtain ⟨d, rfl, hsc⟩ := awake8_can CF.out
 obtain ⟨Ag, cg, hFR⟩ := CA.out.r
 obtain ⟨-, -, -, c3⟩ := hFR.cells
 obtain ⟨gf, sv, tv, rfl, hgf, k0, k1, hFE⟩ := hFR.funs 0 d rfl
 obtain ⟨A8, c8, g8, b8, A9, c9, N9, rfl, hcap, rfl, hI, -⟩ := hFE
 rw [hsc] at hI hcap k0
 have EQ := hid (fun W A2 c2 (h1 : Below w3.heap.size w3 W) (h2 : Ints W A2 [0, 1]) => eqz_yes A8 A2 2 c8 c2 (fun i => ((nth [0, 1] i : Nat) : Int)) W (by omega) (hI.below h1 (Nat.le_refl _)).zs h2.zs)
 have I2 := hid (ints_two w3 0 1)
 have n3 := new_val w3 (.cells #[.int .i64 0, .int .i64 1] 3)
 have N3 := hid n3
 clear hFR hI hgf k1 n3 hcap
 have c3 : w3.cell? ⟨cb, 3, none⟩ = some (.slice (some ⟨gf, 0, none⟩) 1 cg) := c3
 have k0 : w3.cell? ⟨gf, 0, none⟩ = some (.slice A8 2 c8) := k0
 go_wp2_with (first | (go_at_call 25; refine (EQ.out _ _ _ N3.out I2.out).mono ?_; rintro e w5 ⟨rfl, hb5⟩) | fail)
 go_ret
 exact ⟨rfl, B3.out.trans ((then_ N3.out hb5).mono B3.out.size)⟩
end Go.Proofs.YtmokogkndbinlaaGreatDoor
