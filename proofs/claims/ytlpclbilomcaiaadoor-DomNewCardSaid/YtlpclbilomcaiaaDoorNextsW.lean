/- The walk of DomNexts. Condition: the table reads as its initialiser lays it. -/
import Derived.Test.YtlpclbilomcaiaaDoorPlay
import Derived.Laws.StructEq
import Derived.Deep.RegionHeld3
namespace Go.Proofs.YtlpclbilomcaiaaDoor
open Go.RowKit
set_option linter.unusedVariables false
theorem eq_bits {B C : Nat} (h : ∀ i, B.testBit i = C.testBit i) : B = C := Nat.eq_of_testBit_eq h
theorem put_drop {k B v : Nat} (hk : k ≤ 32) (hB : B < 2 ^ k) (hv : v < k) (hb : B.testBit v = true) : putN (dropN B v) v = B := by
  apply eq_bits
  intro i
  rw [testBit_put, testBit_drop _ _ _ (lt_of_fits hk hB) (by omega)]
  by_cases e : i = v
  · subst e; simp [hb]
  · simp [e]
theorem drop_same {k B v : Nat} (hk : k ≤ 32) (hB : B < 2 ^ k) (hv : v < k) (hb : B.testBit v = false) : dropN B v = B := by
  apply eq_bits
  intro i
  rw [testBit_drop _ _ _ (lt_of_fits hk hB) (by omega)]
  by_cases e : i = v
  · subst e; simp [hb]
  · simp [e]
theorem drop_put {k B v : Nat} (hk : k ≤ 32) (hB : B < 2 ^ k) (hv : v < k) (hb : B.testBit v = false) : dropN (putN B v) v = B := by
  apply eq_bits
  intro i
  rw [testBit_drop _ _ _ (lt_of_fits hk (put_fits hB hv)) (by omega), testBit_put]
  by_cases e : i = v
  · subst e; simp [hb]
  · simp [e]
theorem filter_ne_len (l : List Nat) (v : Nat) (hp : l.Pairwise (· < ·)) (hv : v ∈ l) : (l.filter fun x => decide (x ≠ v)).length + 1 = l.length := by
  induction l with
  | nil => cases hv
  | cons x l ih =>
    have hp' := List.pairwise_cons.1 hp
    by_cases e : x = v
    · subst e
      rw [List.filter_cons, if_neg (by simp), List.filter_eq_self.2]
      · rfl
      · intro y hy
        have := hp'.1 y hy
        simp; omega
    · have hv' : v ∈ l := by
        rcases List.mem_cons.1 hv with h | h
        · exact absurd h.symm e
        · exact h
      rw [List.filter_cons, if_pos (by simp [e])]
      simp only [List.length_cons]
      rw [ih hp'.2 hv']
theorem drop_len {k B v : Nat} (hk : k ≤ 32) (hB : B < 2 ^ k) (hv : v < k) (hb : B.testBit v = true) : (mem k (dropN B v)).length + 1 = (mem k B).length := by
  rw [mem_drop hk hB hv]
  exact filter_ne_len _ _ (mem_lt k B) (mem_mem.2 ⟨hv, hb⟩)
/-- The list of a row in a block below S. -/
def LowRow (wr : World) (S : Nat) (A : Option Addr) (l : List Nat) : Prop :=
  l = [] ∨ ∃ g, A = some ⟨g, 0, none⟩ ∧ g < S ∧ ∀ i, i < l.length → wr.cell? ⟨g, i, none⟩ = some (.int .i64 ((l.getD i 0 : Nat) : Int))
theorem LowRow.lst {wr : World} {S : Nat} {A : Option Addr} {l : List Nat} (h : LowRow wr S A l) (hS : S ≤ wr.heap.size) : Lst wr A l := by
  rcases h with h | ⟨g, h1, h2, h3⟩
  · exact .inl h
  · exact .inr ⟨g, h1, by omega, h3⟩
theorem LowRow.of {wr : World} {S : Nat} {A : Option Addr} {l : List Nat} (h : Lst wr A l) (hS : wr.heap.size ≤ S) : LowRow wr S A l := by
  rcases h with h | ⟨g, h1, h2, h3⟩
  · exact .inl h
  · exact .inr ⟨g, h1, by omega, h3⟩
theorem LowRow.below {w w' : World} {S B : Nat} {A : Option Addr} {l : List Nat} (h : LowRow w S A l) (hb : Below B w w') (hB : S ≤ B) : LowRow w' S A l := by
  rcases h with h | ⟨g, h1, h2, h3⟩
  · exact .inl h
  · exact .inr ⟨g, h1, h2, fun i hi => (hb.cell (p := ⟨g, i, none⟩) (by show g < B; omega)).trans (h3 i hi)⟩
/-- Between two rounds: the set's box, the values so far. -/
structure Chain (w : World) (S k B : Nat) (A : Option Addr) (pre : List Nat) (g : Value) (wr : World) : Prop where
  s0 : wr.cell? ⟨S, 0, none⟩ = some (.int .i64 (k : Int))
  s1 : wr.cell? ⟨S, 1, none⟩ = some (.int .u32 (B : Int))
  l : LowRow wr S A (mem k B)
  own : Own wr (S + 1) g pre
  below : Below w.heap.size w wr
  size : S < wr.heap.size
  le : w.heap.size ≤ S
theorem Chain.push {w : World} {S k B : Nat} {A : Option Addr} {pre pre' : List Nat} {g g' : Value} {wr w' : World} (h : Chain w S k B A pre g wr) (ho : Own w' (S + 1) g' pre') (hb : Below (S + 1) wr w') : Chain w S k B A pre' g' w' := by
  have := h.size
  have := h.le
  exact ⟨(hb.cell (p := ⟨S, 0, none⟩) (by show S < S + 1; omega)).trans h.s0, (hb.cell (p := ⟨S, 1, none⟩) (by show S < S + 1; omega)).trans h.s1, h.l.below hb (by omega), ho, h.below.trans (hb.mono (by omega)), by have := hb.size; omega, h.le⟩
theorem Chain.next {w : World} {S k B : Nat} {A : Option Addr} {pre : List Nat} {g : Value} {wr w' : World} (h : Chain w S k B A pre g wr) (hb : Below wr.heap.size wr w') : Chain w S k B A pre g w' :=
  h.push (h.own.below hb (Nat.le_refl _)) (hb.mono (by have := h.size; omega))
/-- Two sets' boxes are as they were. -/
theorem hold2 {W0 W W' : World} {S D k B C : Nat} (hS : S < W0.heap.size) (hD : D < W0.heap.size)
    (h : W.cell? ⟨S, 0, none⟩ = some (.int .i64 (k : Int)) ∧ W.cell? ⟨S, 1, none⟩ = some (.int .u32 (B : Int)) ∧ W.cell? ⟨D, 0, none⟩ = some (.int .i64 (k : Int)) ∧ W.cell? ⟨D, 1, none⟩ = some (.int .u32 (C : Int)) ∧ Below W0.heap.size W0 W)
    (hb : Below W.heap.size W W') :
    W'.cell? ⟨S, 0, none⟩ = some (.int .i64 (k : Int)) ∧ W'.cell? ⟨S, 1, none⟩ = some (.int .u32 (B : Int)) ∧ W'.cell? ⟨D, 0, none⟩ = some (.int .i64 (k : Int)) ∧ W'.cell? ⟨D, 1, none⟩ = some (.int .u32 (C : Int)) ∧ Below W0.heap.size W0 W' := by
  obtain ⟨h1, h2, h3, h4, h5⟩ := h
  have hz := h5.size
  exact ⟨(hb.cell (p := ⟨S, 0, none⟩) (by show S < W.heap.size; omega)).trans h1, (hb.cell (p := ⟨S, 1, none⟩) (by show S < W.heap.size; omega)).trans h2, (hb.cell (p := ⟨D, 0, none⟩) (by show D < W.heap.size; omega)).trans h3, (hb.cell (p := ⟨D, 1, none⟩) (by show D < W.heap.size; omega)).trans h4, h5.trans (hb.mono hz)⟩
theorem lst5 {W0 W : World} {A : Option Addr} {l : List Nat} {p q r s : Prop} (hl : Lst W0 A l) (h : p ∧ q ∧ r ∧ s ∧ Below W0.heap.size W0 W) : Lst W A l := hl.below h.2.2.2.2 (Nat.le_refl _)
theorem below5 {W0 W : World} {p q r s : Prop} (h : p ∧ q ∧ r ∧ s ∧ Below W0.heap.size W0 W) : Below W0.heap.size W0 W := h.2.2.2.2
set_option maxRecDepth 100000 in
theorem nexts_walk (n x : Int) (q : Nat) (w : World) (hT : Tab w) (h0 : 0 ≤ n) (h1 : n ≤ 255) (x0 : 0 ≤ x) (x1 : x ≤ 4294967295) (hq : q ≤ 255) :
    Calls Tryd.prog 6 #[.int .u8 n, .int .u32 x, .int .u8 (q : Int)] w fun e w' => e = .returned (.bool true) ∧ Below w.heap.size w w' := by
  have HT := Lib.hid hT
  have hp := hT.pos
  have k1 := (kOf_le n).1
  have k2 := (kOf_le n).2
  have hB : bOf (kOf n) x.toNat < 2 ^ kOf n := bOf_fits k2
  have HM := Lib.hid (fun W => made_any n x W h0 h1 x0 x1)
  generalize kOf n = k at k1 k2 hB HM
  generalize bOf k x.toNat = B at hB HM
  have HB := Lib.hid hB
  have HE1 : Hid ((q : Int).tmod (k : Int) = ((q % k : Nat) : Int)) := Lib.hid (by rw [Int.tmod_eq_emod_of_nonneg (by omega)]; rfl)
  have HE2 : Hid ((q : Int) % (k : Int) = ((q % k : Nat) : Int)) := Lib.hid rfl
  have hy : q % k < k := Nat.mod_lt _ (by omega)
  have hk0 : (k : Int) ≠ 0 := by omega
  clear hT hB
  go_enter Tryd.func6, Tryd.ntmps6
  go_wp2_with fail
  refine (awake_true _ HT.out).mono ?_
  rintro e w1 ⟨rfl, b1⟩
  have B1 := Lib.hid b1
  clear b1
  go_wp2_with fail
  refine (HM.out _).mono ?_
  rintro e w2 ⟨⟨v, rfl, hO⟩, b2⟩
  obtain ⟨A, c, rfl, hL⟩ := hO.form
  have hC : Chain w w2.heap.size k B A [] (.slice none 0 0) (w2.alloc (setO k B)) := by
    have z1 := B1.out.size
    have c2 : Below w.heap.size w w2 := B1.out.trans (b2.mono z1)
    have bb : Below w2.heap.size w2 (w2.alloc (setO k B)) := (Below.refl _ _).alloc (Nat.le_refl _) _
    exact ⟨by rw [World.cell?_alloc_at _ _ _ _ rfl]; rfl, by rw [World.cell?_alloc_at _ _ _ _ rfl]; rfl, (LowRow.of hL (Nat.le_refl _)).below bb (Nat.le_refl _), own_nil _ _, c2.trans (bb.mono c2.size), by simp, c2.size⟩
  have HC := Lib.hid hC
  have hle := hC.le
  clear hC hO b2 hL
  go_wp2_with fail
  refine (first_any k B _ (HT.out.next HC.out.below) k2 HB.out).mono ?_
  rintro e w3 ⟨rfl, b3⟩
  rw [firstI_head]
  have HC0 := Lib.hid (HC.out.next b3)
  clear b3 HC
  go_wp2_with fail
  go_loopw [10, 11] (fun g i wr => ∃ pre rest : List Nat, i = .int .i64 (headI rest) ∧ mem k B = pre ++ rest ∧ Chain w w2.heap.size k B A pre g wr) (fun _ i _ => left i)
  case atStart => exact ⟨[], mem k B, rfl, rfl, HC0.out⟩
  case round =>
    obtain ⟨pre, rest, rfl, hx, hCr⟩ := hrel
    have HC := Lib.hid hCr
    have HX := Lib.hid hx
    clear hCr hx HC0
    cases rest with
    | cons y rest =>
      have e1 : headI (y :: rest) = (y : Int) := rfl
      rw [e1]
      have hyk : y < k := by
        have : y ∈ mem k B := by rw [HX.out]; simp
        exact (mem_mem.1 this).1
      have HN := Lib.hid (fun W hW => next_mid k B y W hW k2 HB.out hyk)
      rw [firstI_head, mem_split k2 HB.out HX.out] at HN
      have HO := Lib.hid HC.out.own
      have hsz := HC.out.size
      have hlt := left_lt k B y pre rest k2 HX.out
      have hlen : Hid (pre.length ≤ 1000) := Lib.hid (by have := mem_len (k := k) (B := B) k2; rw [HX.out] at this; simp at this; omega)
      clear e1
      go_wp2_with (at_builtin; refine push_own rfl (.tmp 30) (.tmp 32) rfl wr (w2.heap.size + 1) u10 _ y rfl rfl HO.out hsz hlen.out ?_; intro v' w4 g1 g2; have C4 := Lib.hid (HC.out.push g1 g2); have s0 := C4.out.s0; have s1 := C4.out.s1; clear g1 g2)
      refine (HN.out _ (HT.out.next C4.out.below)).mono ?_
      rintro e w5 ⟨rfl, b5⟩
      have C5 := Lib.hid (C4.out.next b5)
      clear b5 s0 s1
      go_wp2_with fail
      go_roundw
      case rel => exact ⟨pre ++ [y], rest, rfl, by rw [HX.out, List.append_assoc]; rfl, C5.out⟩
      case measure => exact hlt
    | nil =>
      have e1 : headI [] = -1 := rfl
      rw [e1]
      have hx := HX.out
      rw [List.append_nil] at hx
      subst hx
      clear e1
      have s0 := HC.out.s0
      have s1 := HC.out.s1
      go_wp2_with fail
      rw [HE2.out]
      generalize q % k = y at hy ⊢
      refine (drop_yes k B y _ hy k2 HB.out).mono ?_
      rintro e w3 ⟨rfl, b3⟩
      have C3 := Lib.hid (HC.out.next b3)
      have F := Lib.hid (fun W => has_yes k B y W hy k2 HB.out)
      clear b3 s0 s1
      obtain ⟨A2, c2, hu, hL2⟩ := HC.out.own.form
      subst hu
      clear hL2
      have s0 := C3.out.s0
      have s1 := C3.out.s1
      have hsz := C3.out.size
      have HD := Lib.hid (drop_fits (v := y) k2 HB.out hy)
      cases hb : B.testBit y with
      | true =>
        rw [hb] at F
        have HPD := Lib.hid (put_drop k2 HB.out hy hb)
        have hln := drop_len k2 HB.out hy hb
        have hlm := mem_len (k := k) (B := B) k2
        have hw : IntKind.i64.wrap (((mem k B).length : Int) - 1) = ((mem k (dropN B y)).length : Int) := by rw [IntWalk.i64_in _ (by omega)]; omega
        generalize dropN B y = C at HD HPD hln hw ⊢
        clear hb hln
        go_wp2_with fail
        have C4 := Lib.hid (C3.out.next ((Below.refl _ _).alloc (Nat.le_refl _) (setO k C)))
        refine (F.out _).mono ?_
        rintro e w5 ⟨rfl, b5⟩
        have C5 := Lib.hid (C4.out.next b5)
        have s0 := C5.out.s0
        have s1 := C5.out.s1
        have d0 : w5.cell? ⟨w3.heap.size, 0, none⟩ = some (.int .i64 (k : Int)) := (b5.cell (p := ⟨w3.heap.size, 0, none⟩) (by simp)).trans (by rw [World.cell?_alloc_at _ _ _ _ rfl]; rfl)
        have d1 : w5.cell? ⟨w3.heap.size, 1, none⟩ = some (.int .u32 (C : Int)) := (b5.cell (p := ⟨w3.heap.size, 1, none⟩) (by simp)).trans (by rw [World.cell?_alloc_at _ _ _ _ rfl]; rfl)
        have hD : w3.heap.size < w5.heap.size := by have := b5.size; simp at this; omega
        have hS := C5.out.size
        have HI := Lib.hid (And.intro s0 (And.intro s1 (And.intro d0 (And.intro d1 (Below.refl w5.heap.size w5)))))
        have HL := Lib.hid (C5.out.l.lst (Nat.le_of_lt hS))
        obtain ⟨A3, c3, e3, hL2⟩ := C5.out.own.form
        injection e3 with e3 _ e4
        subst e3
        subst e4
        have HL2 := Lib.hid hL2
        clear b5 hL2
        go_wp2_with fail
        go_region_held3 (fun w' => w'.cell? ⟨w2.heap.size, 0, none⟩ = some (.int .i64 (k : Int)) ∧ w'.cell? ⟨w2.heap.size, 1, none⟩ = some (.int .u32 (B : Int)) ∧ w'.cell? ⟨w3.heap.size, 0, none⟩ = some (.int .i64 (k : Int)) ∧ w'.cell? ⟨w3.heap.size, 1, none⟩ = some (.int .u32 (C : Int)) ∧ Below w5.heap.size w5 w')
          (first | exact hold2 hS hD HI.out ((Below.refl _ _).drew) | exact hold2 hS hD (by assumption) (by assumption))
          (first
            | (go_at_call 20; refine (equal_any A2 A _ c2 _ c (mem k B) (mem k B) _ rfl (by omega) (lst5 HL2.out (by assumption)) rfl (lst5 HL.out (by assumption))).mono ?_; rintro e w' ⟨rfl, hb⟩; rw [decide_eq_true rfl])
            | (go_at_call 10; refine (put_yes k C y _ hy k2 HD.out).mono ?_; rintro e w' ⟨rfl, hb⟩; rw [HPD.out])
            | (go_at_call 23; refine (len_any k _ _ k2 (by first | exact HB.out | exact HD.out)).mono ?_; rintro e w' ⟨rfl, hb⟩))
        all_goals
          go_wp2_with fail
          go_ret
          exact ⟨rfl, C5.out.below.trans ((below5 (by assumption)).mono C5.out.below.size)⟩
      | false =>
        rw [hb] at F
        have HDS := drop_same k2 HB.out hy hb
        have HDP := Lib.hid (drop_put k2 HB.out hy hb)
        have HPF := Lib.hid (put_fits HB.out hy)
        have HON : Hid (onlyN B y = 0) := Lib.hid (by unfold onlyN; rw [hb]; rfl)
        have HZ : Hid ((mem k 0).length = 0) := Lib.hid (by rw [mem_zero]; rfl)
        have hlm := mem_len (k := k) (B := B) k2
        rw [HDS]
        clear hb HDS HD
        go_wp2_with fail
        have C4 := Lib.hid (C3.out.next ((Below.refl _ _).alloc (Nat.le_refl _) (setO k B)))
        refine (F.out _).mono ?_
        rintro e w5 ⟨rfl, b5⟩
        have C5 := Lib.hid (C4.out.next b5)
        have s0 := C5.out.s0
        have s1 := C5.out.s1
        have d0 : w5.cell? ⟨w3.heap.size, 0, none⟩ = some (.int .i64 (k : Int)) := (b5.cell (p := ⟨w3.heap.size, 0, none⟩) (by simp)).trans (by rw [World.cell?_alloc_at _ _ _ _ rfl]; rfl)
        have d1 : w5.cell? ⟨w3.heap.size, 1, none⟩ = some (.int .u32 (B : Int)) := (b5.cell (p := ⟨w3.heap.size, 1, none⟩) (by simp)).trans (by rw [World.cell?_alloc_at _ _ _ _ rfl]; rfl)
        have hD : w3.heap.size < w5.heap.size := by have := b5.size; simp at this; omega
        have hS := C5.out.size
        have HI := Lib.hid (And.intro s0 (And.intro s1 (And.intro d0 (And.intro d1 (Below.refl w5.heap.size w5)))))
        have HL := Lib.hid (C5.out.l.lst (Nat.le_of_lt hS))
        obtain ⟨A3, c3, e3, hL2⟩ := C5.out.own.form
        injection e3 with e3 _ e4
        subst e3
        subst e4
        have HL2 := Lib.hid hL2
        clear b5 hL2
        go_wp2_with fail
        go_region_held3 (fun w' => w'.cell? ⟨w2.heap.size, 0, none⟩ = some (.int .i64 (k : Int)) ∧ w'.cell? ⟨w2.heap.size, 1, none⟩ = some (.int .u32 (B : Int)) ∧ w'.cell? ⟨w3.heap.size, 0, none⟩ = some (.int .i64 (k : Int)) ∧ w'.cell? ⟨w3.heap.size, 1, none⟩ = some (.int .u32 (B : Int)) ∧ Below w5.heap.size w5 w')
          (first | exact hold2 hS hD HI.out ((Below.refl _ _).drew) | exact hold2 hS hD (by assumption) (by assumption))
          (first
            | (go_at_call 20; refine (equal_any A2 A _ c2 _ c (mem k B) (mem k B) _ rfl (by omega) (lst5 HL2.out (by assumption)) rfl (lst5 HL.out (by assumption))).mono ?_; rintro e w' ⟨rfl, hb⟩; rw [decide_eq_true rfl])
            | (go_at_call 10; refine (put_yes k B y _ hy k2 HB.out).mono ?_; rintro e w' ⟨rfl, hb⟩)
            | (go_at_call 12; refine (drop_yes k _ y _ hy k2 HPF.out).mono ?_; rintro e w' ⟨rfl, hb⟩; rw [HDP.out])
            | (go_at_call 18; refine (only_yes k B y _ hy k2 HB.out).mono ?_; rintro e w' ⟨rfl, hb⟩; rw [HON.out])
            | (go_at_call 23; refine (len_any k 0 _ k2 (Nat.two_pow_pos k)).mono ?_; rintro e w' ⟨rfl, hb⟩; rw [HZ.out]))
        all_goals
          go_wp2_with fail
          go_ret
          exact ⟨rfl, C5.out.below.trans ((below5 (by assumption)).mono C5.out.below.size)⟩
end Go.Proofs.YtlpclbilomcaiaaDoor
