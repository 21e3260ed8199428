/- The walk of DomSubsets. Condition: the table reads as its initialiser lays it. -/
import Derived.Test.YtlpclbilomcaiaaDoorNextsW
namespace Go.Proofs.YtlpclbilomcaiaaDoor
open Go.RowKit
set_option linter.unusedVariables false
def mn2 (x y : Int) : Int := min x y
theorem run_mn2 {P : Program} (w : World) (ts : Array TypeId) (t : TypeId) (k k' : IntKind) (x y : Int) :
    (Builtin.min_ ts t #[.int k x, .int k' y]).run P w = .ok (.int k (mn2 x y)) w := by
  have e : (if y < x then y else x) = mn2 x y := by
    unfold mn2; split <;> omega
  simp [Builtin.min_, Builtin.min2, e]
attribute [local go_sem ↓] run_mn2
theorem mem_and_len {k B C : Nat} : (mem k (B &&& C)).length ≤ (mem k B).length ∧ (mem k (B &&& C)).length ≤ (mem k C).length := by
  refine ⟨?_, ?_⟩
  · rw [mem_and]; exact List.length_filter_le _ _
  · rw [Nat.and_comm, mem_and]; exact List.length_filter_le _ _
/-- Are the first j values of B all in C? -/
def insN (B C : Nat) : Nat → Bool
  | 0 => true
  | j + 1 => insN B C j && (!B.testBit j || C.testBit j)
theorem ins_true {B C j : Nat} (h : insN B C j = true) : ∀ i, i < j → B.testBit i = true → C.testBit i = true := by
  induction j with
  | zero => intro i hi; omega
  | succ j ih =>
    have h' : (insN B C j && (!B.testBit j || C.testBit j)) = true := h
    simp only [Bool.and_eq_true, Bool.or_eq_true, Bool.not_eq_true'] at h'
    intro i hi hb
    by_cases e : i = j
    · subst e
      rcases h'.2 with h2 | h2
      · rw [h2] at hb; cases hb
      · exact h2
    · exact ih h'.1 i (by omega) hb
theorem ins_of {B C j : Nat} (h : ∀ i, i < j → B.testBit i = true → C.testBit i = true) : insN B C j = true := by
  induction j with
  | zero => rfl
  | succ j ih =>
    show (insN B C j && (!B.testBit j || C.testBit j)) = true
    rw [ih fun i hi => h i (by omega)]
    cases hb : B.testBit j
    · rfl
    · rw [h j (by omega) hb]; rfl
theorem ins_eq {k B C : Nat} (hB : B < 2 ^ k) : ((((B &&& C : Nat)) : Int) == (B : Int)) = insN B C k := by
  rw [Bool.eq_iff_iff, beq_iff_eq]
  constructor
  · intro h
    have e : B &&& C = B := by omega
    apply ins_of
    intro i _ hb
    have : (B &&& C).testBit i = B.testBit i := by rw [e]
    rw [Nat.testBit_and, hb] at this
    simpa using this
  · intro h
    have : B &&& C = B := by
      apply eq_bits
      intro i
      rw [Nat.testBit_and]
      by_cases hi : i < k
      · cases hb : B.testBit i
        · rfl
        · rw [ins_true h i hi hb]; rfl
      · rw [testBit_far hB (by omega)]; rfl
    rw [this]
/-- The three sets' boxes. -/
structure Subs (w : World) (S T U k B C D : Nat) (wr : World) : Prop where
  s0 : wr.cell? ⟨S, 0, none⟩ = some (.int .i64 (k : Int))
  s1 : wr.cell? ⟨S, 1, none⟩ = some (.int .u32 (B : Int))
  t0 : wr.cell? ⟨T, 0, none⟩ = some (.int .i64 (k : Int))
  t1 : wr.cell? ⟨T, 1, none⟩ = some (.int .u32 (C : Int))
  u0 : wr.cell? ⟨U, 0, none⟩ = some (.int .i64 (k : Int))
  u1 : wr.cell? ⟨U, 1, none⟩ = some (.int .u32 (D : Int))
  sS : S < wr.heap.size
  sT : T < wr.heap.size
  sU : U < wr.heap.size
  below : Below w.heap.size w wr
theorem Subs.next {w : World} {S T U k B C D : Nat} {wr w' : World} (h : Subs w S T U k B C D wr) (hb : Below wr.heap.size wr w') : Subs w S T U k B C D w' := by
  have hz := hb.size
  have h1 := h.sS
  have h2 := h.sT
  have h3 := h.sU
  exact ⟨(hb.cell (p := ⟨S, 0, none⟩) h.sS).trans h.s0, (hb.cell (p := ⟨S, 1, none⟩) h.sS).trans h.s1, (hb.cell (p := ⟨T, 0, none⟩) h.sT).trans h.t0, (hb.cell (p := ⟨T, 1, none⟩) h.sT).trans h.t1,
    (hb.cell (p := ⟨U, 0, none⟩) h.sU).trans h.u0, (hb.cell (p := ⟨U, 1, none⟩) h.sU).trans h.u1, by omega, by omega, by omega, h.below.trans (hb.mono h.below.size)⟩
theorem keptC {W0 W W' : World} {S o : Nat} {v : Value} (hS : S < W0.heap.size) (h0 : Below W0.heap.size W0 W) (h : W.cell? ⟨S, o, none⟩ = some v) (hb : Below W.heap.size W W') : W'.cell? ⟨S, o, none⟩ = some v :=
  (hb.cell (p := ⟨S, o, none⟩) (Nat.lt_of_lt_of_le hS h0.size)).trans h
theorem hold4 {W0 W W' : World} {S T U V k B C D : Nat} (hS : S < W0.heap.size) (hT : T < W0.heap.size) (hU : U < W0.heap.size) (hV : V < W0.heap.size)
    (h : W.cell? ⟨S, 0, none⟩ = some (.int .i64 (k : Int)) ∧ W.cell? ⟨S, 1, none⟩ = some (.int .u32 (B : Int)) ∧ W.cell? ⟨T, 0, none⟩ = some (.int .i64 (k : Int)) ∧ W.cell? ⟨T, 1, none⟩ = some (.int .u32 (C : Int)) ∧
      W.cell? ⟨U, 0, none⟩ = some (.int .i64 (k : Int)) ∧ W.cell? ⟨U, 1, none⟩ = some (.int .u32 (D : Int)) ∧ W.cell? ⟨V, 0, none⟩ = some (.int .i64 (k : Int)) ∧ W.cell? ⟨V, 1, none⟩ = some (.int .u32 (D : Int)) ∧ Below W0.heap.size W0 W)
    (hb : Below W.heap.size W W') :
    W'.cell? ⟨S, 0, none⟩ = some (.int .i64 (k : Int)) ∧ W'.cell? ⟨S, 1, none⟩ = some (.int .u32 (B : Int)) ∧ W'.cell? ⟨T, 0, none⟩ = some (.int .i64 (k : Int)) ∧ W'.cell? ⟨T, 1, none⟩ = some (.int .u32 (C : Int)) ∧
      W'.cell? ⟨U, 0, none⟩ = some (.int .i64 (k : Int)) ∧ W'.cell? ⟨U, 1, none⟩ = some (.int .u32 (D : Int)) ∧ W'.cell? ⟨V, 0, none⟩ = some (.int .i64 (k : Int)) ∧ W'.cell? ⟨V, 1, none⟩ = some (.int .u32 (D : Int)) ∧ Below W0.heap.size W0 W' := by
  obtain ⟨h1, h2, h3, h4, h5, h6, h7, h8, h9⟩ := h
  exact ⟨keptC hS h9 h1 hb, keptC hS h9 h2 hb, keptC hT h9 h3 hb, keptC hT h9 h4 hb, keptC hU h9 h5 hb, keptC hU h9 h6 hb, keptC hV h9 h7 hb, keptC hV h9 h8 hb, h9.trans (hb.mono h9.size)⟩
theorem new0 (w : World) (k B : Nat) : (w.alloc (setO k B)).cell? ⟨w.heap.size, 0, none⟩ = some (.int .i64 (k : Int)) := by rw [World.cell?_alloc_at _ _ _ _ rfl]; rfl
theorem new1 (w : World) (k B : Nat) : (w.alloc (setO k B)).cell? ⟨w.heap.size, 1, none⟩ = some (.int .u32 (B : Int)) := by rw [World.cell?_alloc_at _ _ _ _ rfl]; rfl
theorem box0 {w w' : World} {k B : Nat} (hb : Below (w.alloc (setO k B)).heap.size (w.alloc (setO k B)) w') : w'.cell? ⟨w.heap.size, 0, none⟩ = some (.int .i64 (k : Int)) := (hb.cell (p := ⟨w.heap.size, 0, none⟩) (by simp)).trans (new0 w k B)
theorem box1 {w w' : World} {k B : Nat} (hb : Below (w.alloc (setO k B)).heap.size (w.alloc (setO k B)) w') : w'.cell? ⟨w.heap.size, 1, none⟩ = some (.int .u32 (B : Int)) := (hb.cell (p := ⟨w.heap.size, 1, none⟩) (by simp)).trans (new1 w k B)
theorem boxS {w w' : World} {k B : Nat} (hb : Below (w.alloc (setO k B)).heap.size (w.alloc (setO k B)) w') : w.heap.size < w'.heap.size := by have := hb.size; simp at this; omega
theorem boxB {w w' : World} {k B : Nat} (hb : Below (w.alloc (setO k B)).heap.size (w.alloc (setO k B)) w') : Below w.heap.size w w' := ((Below.refl w.heap.size w).alloc (Nat.le_refl _) (setO k B)).trans (hb.mono (by simp))
theorem boxA (w : World) (k B : Nat) : Below w.heap.size w (w.alloc (setO k B)) := (Below.refl w.heap.size w).alloc (Nat.le_refl _) (setO k B)
theorem then_ {w w1 w2 : World} (h : Below w.heap.size w w1) (h2 : Below w1.heap.size w1 w2) : Below w.heap.size w w2 := h.trans (h2.mono h.size)
theorem below9 {W0 W : World} {a b c d e f g h : Prop} (H : a ∧ b ∧ c ∧ d ∧ e ∧ f ∧ g ∧ h ∧ Below W0.heap.size W0 W) : Below W0.heap.size W0 W := H.2.2.2.2.2.2.2.2
theorem Subs.hid {w : World} {S T U k B C D : Nat} {wr w' : World} (h : Hid (Subs w S T U k B C D wr)) (hb : Below wr.heap.size wr w') : Hid (Subs w S T U k B C D w') := Lib.hid (h.out.next hb)
set_option maxRecDepth 100000 in
set_option maxHeartbeats 2000000 in
theorem subs_walk (n x y : Int) (w : World) (hT : Tab w) (h0 : 0 ≤ n) (h1 : n ≤ 255) (x0 : 0 ≤ x) (x1 : x ≤ 4294967295) (y0 : 0 ≤ y) (y1 : y ≤ 4294967295) :
    Calls Tryd.prog 7 #[.int .u8 n, .int .u32 x, .int .u32 y] w fun e w' => e = .returned (.bool true) ∧ Below w.heap.size w w' := by
  have HT := Lib.hid hT
  have hp := hT.pos
  have k1 := (kOf_le n).1
  have k2 := (kOf_le n).2
  have hB : bOf (kOf n) x.toNat < 2 ^ kOf n := bOf_fits k2
  have hC : bOf (kOf n) y.toNat < 2 ^ kOf n := bOf_fits k2
  have HM := Lib.hid (fun W => made_any n x W h0 h1 x0 x1)
  have HM2 := Lib.hid (fun W => made_any n y W h0 h1 y0 y1)
  generalize kOf n = k at k1 k2 hB hC HM HM2
  generalize bOf k x.toNat = B at hB HM
  generalize bOf k y.toNat = C at hC HM2
  have HB := Lib.hid hB
  have HC := Lib.hid hC
  have HI1 := Lib.hid (fun W => inter_yes k B C W k2 hB hC)
  have HI2 := Lib.hid (fun W => inter_yes k C B W k2 hC hB)
  rw [Nat.and_comm C B] at HI2
  have HD := Lib.hid (and_fits (k := k) (C := C) hB)
  have HI3 := Lib.hid (fun W => inter_yes k (B &&& C) B W k2 HD.out hB)
  have e3 : (B &&& C) &&& B = B &&& C := by rw [Nat.and_comm (B &&& C) B, ← Nat.and_assoc, Nat.and_self]
  rw [e3] at HI3
  have HN := Lib.hid (fun i => Nat.testBit_and B C i)
  have HQ := Lib.hid (ins_eq (C := C) hB)
  obtain ⟨l1, l2⟩ := mem_and_len (k := k) (B := B) (C := C)
  generalize B &&& C = D at HI1 HI2 HI3 HN HQ HD l1 l2
  clear hT hB hC e3
  go_enter Tryd.func7, Tryd.ntmps7
  go_wp2_with fail
  refine (awake_true _ HT.out).mono ?_
  rintro e w1 ⟨rfl, b1⟩
  have B1 := Lib.hid b1
  clear b1
  go_wp2_with fail
  refine (HM.out _).mono ?_
  rintro e w2 ⟨⟨v, rfl, hO⟩, b2⟩
  have B2 := Lib.hid (then_ B1.out b2)
  clear hO b2
  go_wp2_with fail
  refine (HM2.out _).mono ?_
  rintro e w3 ⟨⟨v2, rfl, hO⟩, b3⟩
  have s0 := box0 b3
  have s1 := box1 b3
  have hS := boxS b3
  have B3 := Lib.hid (then_ B2.out (boxB b3))
  clear hO b3
  go_wp2_with fail
  refine (HI1.out _).mono ?_
  rintro e w4 ⟨rfl, b4⟩
  have t0 := box0 b4
  have t1 := box1 b4
  have hTz := boxS b4
  have B43 := Lib.hid (boxB b4)
  have s0 := (B43.out.cell (p := ⟨w2.heap.size, 0, none⟩) hS).trans s0
  have s1 := (B43.out.cell (p := ⟨w2.heap.size, 1, none⟩) hS).trans s1
  have hS : w2.heap.size < w4.heap.size := by omega
  have B4 := Lib.hid (then_ B3.out B43.out)
  clear b4
  go_wp2_with fail
  refine (HI2.out _).mono ?_
  rintro e w5 ⟨rfl, b5⟩
  have B54 := Lib.hid (boxB b5)
  have X5 : Hid (Subs w w2.heap.size w3.heap.size w4.heap.size k B C D w5) := Lib.hid
    ⟨(B54.out.cell (p := ⟨w2.heap.size, 0, none⟩) hS).trans s0, (B54.out.cell (p := ⟨w2.heap.size, 1, none⟩) hS).trans s1, (B54.out.cell (p := ⟨w3.heap.size, 0, none⟩) hTz).trans t0, (B54.out.cell (p := ⟨w3.heap.size, 1, none⟩) hTz).trans t1,
      box0 b5, box1 b5, by have := B54.out.size; omega, by have := B54.out.size; omega, boxS b5, then_ B4.out B54.out⟩
  clear b5 s0 s1 t0 t1 hS hTz
  have X := Lib.hid (X5.out.next (boxA w5 k D))
  go_wp2_with fail
  have HI := Lib.hid (And.intro X.out.s0 (And.intro X.out.s1 (And.intro X.out.t0 (And.intro X.out.t1 (And.intro X.out.u0 (And.intro X.out.u1 (And.intro (new0 w5 k D) (And.intro (new1 w5 k D) (Below.refl (w5.alloc (setO k D)).heap.size (w5.alloc (setO k D)))))))))))
  have hS := X.out.sS
  have hT := X.out.sT
  have hU := X.out.sU
  have hV : w5.heap.size < (w5.alloc (setO k D)).heap.size := by simp
  have lb := mem_len (k := k) (B := B) k2
  have lc := mem_len (k := k) (B := C) k2
  have hg : decide (mn2 ((mem k B).length : Int) ((mem k C).length : Int) < ((mem k D).length : Int)) = false := by
    rw [decide_eq_false_iff_not]
    unfold mn2
    omega
  have hg2 : ¬ (mn2 ((mem k B).length : Int) ((mem k C).length : Int) < ((mem k D).length : Int)) := by simpa using hg
  go_region_held3 (fun w' => w'.cell? ⟨w2.heap.size, 0, none⟩ = some (.int .i64 (k : Int)) ∧ w'.cell? ⟨w2.heap.size, 1, none⟩ = some (.int .u32 (B : Int)) ∧ w'.cell? ⟨w3.heap.size, 0, none⟩ = some (.int .i64 (k : Int)) ∧ w'.cell? ⟨w3.heap.size, 1, none⟩ = some (.int .u32 (C : Int)) ∧
      w'.cell? ⟨w4.heap.size, 0, none⟩ = some (.int .i64 (k : Int)) ∧ w'.cell? ⟨w4.heap.size, 1, none⟩ = some (.int .u32 (D : Int)) ∧ w'.cell? ⟨w5.heap.size, 0, none⟩ = some (.int .i64 (k : Int)) ∧ w'.cell? ⟨w5.heap.size, 1, none⟩ = some (.int .u32 (D : Int)) ∧ Below (w5.alloc (setO k D)).heap.size (w5.alloc (setO k D)) w')
    (first | exact hold4 hS hT hU hV HI.out ((Below.refl _ _).drew) | exact hold4 hS hT hU hV (by assumption) (by assumption) | exact hold4 hS hT hU hV (by assumption) (Below.refl _ _))
    (first
      | (go_at_call 23; refine (len_any k _ _ k2 (by first | exact HB.out | exact HC.out | exact HD.out)).mono ?_; rintro e w' ⟨rfl, hb⟩))
  have XW := Subs.hid X (below9 (by assumption))
  clear hg hg2 hS hT hU hV
  go_wp2_with fail
  have XL := XW
  clear X5 X XW HI
  go_loopw [17, 71] (fun v i wr => ∃ j : Nat, j ≤ k ∧ v = .bool (insN B C j) ∧ i = .int .i64 j ∧ Subs w w2.heap.size w3.heap.size w4.heap.size k B C D wr) (fun _ i _ => k - (intOf i).toNat)
  case atStart => exact ⟨0, Nat.zero_le _, rfl, rfl, XL.out⟩
  case round =>
    obtain ⟨j, hj, rfl, rfl, hX⟩ := hrel
    have X := Lib.hid hX
    have s0 := hX.s0
    have s1 := hX.s1
    have t0 := hX.t0
    have t1 := hX.t1
    have u0 := hX.u0
    have u1 := hX.u1
    clear hX XL
    by_cases hlt : j < k
    · obtain ⟨p, hp⟩ : ∃ p, B.testBit j = p := ⟨_, rfl⟩
      obtain ⟨q, hq⟩ : ∃ q, C.testBit j = q := ⟨_, rfl⟩
      obtain ⟨r, hr⟩ : ∃ r, insN B C j = r := ⟨_, rfl⟩
      have hd := HN.out j
      have HIj : insN B C (j + 1) = (insN B C j && (!B.testBit j || C.testBit j)) := rfl
      rw [hp, hq] at hd
      rw [hp, hq, hr] at HIj
      rw [hr]
      have HP := Lib.hid hp
      have HQ' := Lib.hid hq
      have HDj := Lib.hid hd
      have HI := Lib.hid HIj
      clear hp hq hr hd HIj
      cases p <;> cases q <;> cases r
      all_goals
        go_wp2_with (go_at_call 26; refine (has_yes k _ j _ hlt k2 (by first | exact HB.out | exact HC.out | exact HD.out)).mono ?_; rintro e w' ⟨rfl, b'⟩; (first | rw [HP.out] | rw [HQ'.out] | rw [HDj.out]); have X := Subs.hid (by assumption) b'; have s0 := X.out.s0; have s1 := X.out.s1; have t0 := X.out.t0; have t1 := X.out.t1; have u0 := X.out.u0; have u1 := X.out.u1; clear b')
        go_roundw
        case rel => exact ⟨j + 1, by omega, by rw [HI.out]; rfl, by go_num, X.out⟩
        case measure => simp [intOf]; omega
    · obtain rfl : j = k := by omega
      go_wp2_with fail
      refine (HI3.out _).mono ?_
      rintro e w7 ⟨rfl, b7⟩
      have X7 := X.out.next b7
      have u0 := X7.u0
      have u1 := X7.u1
      have s0 := X7.s0
      have s1 := X7.s1
      have hsU := X7.sU
      have hsS := X7.sS
      have HX7 := Lib.hid X7
      have v0 := new0 w7 j D
      have v1 := new1 w7 j D
      clear b7 X7
      cases hi : insN B C j with
      | true =>
        have hq := HQ.out
        rw [hi, beq_iff_eq] at hq
        obtain rfl : D = B := by omega
        clear hq hi
        go_wp2_with fail
        go_ret
        exact ⟨rfl, then_ HX7.out.below (boxA _ _ _)⟩
      | false =>
        have hq := HQ.out
        rw [hi] at hq
        have hq2 : ¬ (D : Int) = (B : Int) := by rw [beq_eq_false_iff_ne] at hq; exact hq
        have hq3 : ¬ D = B := by omega
        clear hi
        go_wp2_with fail
        go_ret
        exact ⟨rfl, then_ HX7.out.below (boxA _ _ _)⟩
end Go.Proofs.YtlpclbilomcaiaaDoor
