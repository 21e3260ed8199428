/- Contracts of the laws' own helpers made and awake (no statement of its own). -/
import Derived.Test.YtlpclbilomcaiaaDoorIter
namespace Go.Proofs.YtlpclbilomcaiaaDoor
open Go.RowKit
set_option linter.unusedVariables false
theorem collect_any (Bn k B : Nat) (w : World) (hk : k ≤ 32) (hB : B < 2 ^ k) (hBn : Bn < w.heap.size) (hT : Tab w)
    (hc0 : w.cell? ⟨Bn, 0, none⟩ = some (.int .i64 (k : Int))) (hc1 : w.cell? ⟨Bn, 1, none⟩ = some (.int .u32 (B : Int))) :
    Calls Tryd.prog 31 #[.func (.func 34) #[] #[.pointer (some ⟨Bn, 0, none⟩)]] w fun e w' => (∃ v, e = .returned v ∧ Own w' w.heap.size v (mem k B)) ∧ Below w.heap.size w w' := by
  have C := Lib.hid (callsIn_wide.1 (append_in 3 (Nat.le_refl _) Bn k B hk hB w hBn hT hc0 hc1))
  clear hB hT hc0 hc1
  go_enter Tryd.func31, Tryd.ntmps31
  go_wp2_with (go_at_call 37; refine C.out.mono ?_; rintro e w' ⟨v, rfl, h1, h2⟩)
  go_ret
  exact ⟨⟨_, rfl, h1⟩, h2⟩
/-- The set's bits when j values have been looked at. -/
def accN (k X : Nat) : Nat → Nat
  | 0 => 2 ^ k - 1
  | j + 1 => if X.testBit j then accN k X j else dropN (accN k X j) j
theorem acc_fits {k X j : Nat} (hk : k ≤ 32) (hj : j ≤ k) : accN k X j < 2 ^ k := by
  induction j with
  | zero => have := Nat.two_pow_pos k; show 2 ^ k - 1 < 2 ^ k; omega
  | succ j ih =>
    show (if X.testBit j then accN k X j else dropN (accN k X j) j) < 2 ^ k
    split
    · exact ih (by omega)
    · exact drop_fits hk (ih (by omega)) (by omega)
theorem acc_bit {k X j i : Nat} (hk : k ≤ 32) (hj : j ≤ k) : (accN k X j).testBit i = (decide (i < k) && (decide (j ≤ i) || X.testBit i)) := by
  induction j with
  | zero =>
    show (2 ^ k - 1).testBit i = _
    rw [Nat.testBit_two_pow_sub_one]
    simp
  | succ j ih =>
    have ih := ih (by omega)
    show (if X.testBit j then accN k X j else dropN (accN k X j) j).testBit i = _
    by_cases hx : X.testBit j = true
    · rw [if_pos hx, ih]
      by_cases e : i = j
      · subst e; simp [hx]
      · have : (decide (j ≤ i)) = decide (j + 1 ≤ i) := by simp only [decide_eq_decide]; omega
        rw [this]
    · rw [if_neg hx, testBit_drop _ _ _ (lt_of_fits hk (acc_fits hk (by omega))) (by omega), ih]
      have hx' : X.testBit j = false := by simpa using hx
      by_cases e : i = j
      · subst e; simp [hx']
      · have : (decide (j ≤ i)) = decide (j + 1 ≤ i) := by simp only [decide_eq_decide]; omega
        rw [this]
        simp [e]
def bOf (k X : Nat) : Nat := accN k X k
theorem bOf_fits {k X : Nat} (hk : k ≤ 32) : bOf k X < 2 ^ k := acc_fits hk (Nat.le_refl _)
theorem mem_bOf {k X : Nat} (hk : k ≤ 32) : mem k (bOf k X) = (List.range k).filter fun i => X.testBit i := by
  unfold mem bOf
  apply List.filter_congr
  intro i hi
  rw [acc_bit hk (Nat.le_refl _)]
  have : i < k := by simpa using hi
  simp [this]
  intro h
  omega
def kOf (n : Int) : Nat := 1 + (n % 32).toNat
theorem kOf_le (n : Int) : 1 ≤ kOf n ∧ kOf n ≤ 32 := by unfold kOf; omega
/-- Between two rounds of made's loop: the result's cells, the set's, the list so far. -/
structure Mid (w : World) (S k X j : Nat) (v : Value) (wr : World) : Prop where
  r0 : wr.cell? ⟨w.heap.size, 0, none⟩ = some (.int .i64 0)
  r1 : wr.cell? ⟨w.heap.size, 1, none⟩ = some (.int .u32 0)
  q0 : wr.frozen? ⟨w.heap.size, 0, none⟩ = false
  q1 : wr.frozen? ⟨w.heap.size, 1, none⟩ = false
  s0 : wr.cell? ⟨S, 0, none⟩ = some (.int .i64 (k : Int))
  s1 : wr.cell? ⟨S, 1, none⟩ = some (.int .u32 (accN k X j : Int))
  f0 : wr.frozen? ⟨S, 0, none⟩ = false
  f1 : wr.frozen? ⟨S, 1, none⟩ = false
  own : Own wr (S + 1) v ((List.range j).filter fun i => X.testBit i)
  below : Below w.heap.size w wr
  size : S + 1 ≤ wr.heap.size
  lt : w.heap.size < S
theorem bit_test (x : Int) (X j : Nat) (hx : x = X) (h : X < 4294967296) : (bits BinOp.and IntKind.u32 (x / 2 ^ j) 1 == 1) = X.testBit j := by
  subst hx
  have e : (X : Int) / 2 ^ j = ((X / 2 ^ j : Nat) : Int) := by rw [Int.natCast_ediv, Int.natCast_pow]; rfl
  have hlt : X / 2 ^ j < 4294967296 := Nat.lt_of_le_of_lt (Nat.div_le_self _ _) h
  have b := bits_and (X / 2 ^ j) 1 hlt (by omega)
  have b' : bits BinOp.and IntKind.u32 ((X / 2 ^ j : Nat) : Int) 1 = ((X / 2 ^ j &&& 1 : Nat) : Int) := b
  rw [e, b', Nat.and_one_is_mod, Nat.testBit_eq_decide_div_mod_eq]
  have : X / 2 ^ j % 2 = 0 ∨ X / 2 ^ j % 2 = 1 := by omega
  rcases this with h | h <;> rw [h] <;> rfl
theorem Own.less {w : World} {base base' : Nat} {v : Value} {l : List Nat} (h : Own w base v l) (hb : base' ≤ base) : Own w base' v l := by
  obtain ⟨h1, ⟨rfl, hn⟩ | ⟨g, cap, cur, rfl, hg, hh, hm, hx, hs, ht⟩⟩ := h
  · exact ⟨h1, .inl ⟨rfl, hn⟩⟩
  · exact ⟨h1, .inr ⟨g, cap, cur, rfl, by omega, hh, hm, hx, hs, ht⟩⟩
theorem Own.set {w : World} {base : Nat} {v : Value} {l : List Nat} (h : Own w base v l) {p : Addr} (hp : p.block < base) (u : Value) : Own (w.setCell p u) base v l :=
  ownsRow_setCell_below h hp u
theorem Mid.push {w : World} {S k X j : Nat} {v v' : Value} {wr w' : World} (h : Mid w S k X j v wr) (hx : X.testBit j = true)
    (ho : Own w' (S + 1) v' (((List.range j).filter fun i => X.testBit i) ++ [j])) (hb : Below (S + 1) wr w') : Mid w S k X (j + 1) v' w' := by
  have hl := h.lt
  refine ⟨(hb.cell (by show w.heap.size < S + 1; omega)).trans h.r0, (hb.cell (by show w.heap.size < S + 1; omega)).trans h.r1, (hb.frozen (by show w.heap.size < S + 1; omega)).trans h.q0, (hb.frozen (by show w.heap.size < S + 1; omega)).trans h.q1,
    (hb.cell (by show S < S + 1; omega)).trans h.s0, ?_, (hb.frozen (by show S < S + 1; omega)).trans h.f0, (hb.frozen (by show S < S + 1; omega)).trans h.f1, ?_, h.below.trans (hb.mono (by omega)), by have := hb.size; have := h.size; omega, hl⟩
  · rw [hb.cell (by show S < S + 1; omega), h.s1]
    show _ = some (Value.int .u32 ((if X.testBit j then accN k X j else dropN (accN k X j) j : Nat) : Int))
    rw [if_pos hx]
  · rw [range_filter, if_pos hx]
    exact ho
theorem Mid.drop {w : World} {S k X j : Nat} {v : Value} {wr : World} (h : Mid w S k X j v wr) (hx : X.testBit j = false) :
    ∀ w', Below wr.heap.size wr w' → Mid w S k X (j + 1) v ((w'.setCell ⟨S, 0, none⟩ (.int .i64 (k : Int))).setCell ⟨S, 1, none⟩ (.int .u32 (dropN (accN k X j) j : Int))) := by
  intro w' hb
  have hl := h.lt
  have hs := h.size
  have hne : w.heap.size ≠ S := by omega
  have c0 : w'.cell? ⟨S, 0, none⟩ = some (.int .i64 (k : Int)) := (hb.cell (by show S < wr.heap.size; omega)).trans h.s0
  have c1 : w'.cell? ⟨S, 1, none⟩ = some (.int .u32 (accN k X j : Int)) := (hb.cell (by show S < wr.heap.size; omega)).trans h.s1
  refine ⟨?_, ?_, ?_, ?_, ?_, ?_, ?_, ?_, ?_, ?_, ?_, hl⟩
  · rw [World.cell?_setCell_other _ _ _ _ (by intro e; injection e; omega), World.cell?_setCell_other _ _ _ _ (by intro e; injection e; omega)]
    exact (hb.cell (by show w.heap.size < wr.heap.size; omega)).trans h.r0
  · rw [World.cell?_setCell_other _ _ _ _ (by intro e; injection e; omega), World.cell?_setCell_other _ _ _ _ (by intro e; injection e; omega)]
    exact (hb.cell (by show w.heap.size < wr.heap.size; omega)).trans h.r1
  · rw [World.frozen?_setCell, World.frozen?_setCell]
    exact (hb.frozen (by show w.heap.size < wr.heap.size; omega)).trans h.q0
  · rw [World.frozen?_setCell, World.frozen?_setCell]
    exact (hb.frozen (by show w.heap.size < wr.heap.size; omega)).trans h.q1
  · rw [World.cell?_setCell_other _ _ _ _ (by intro e; injection e; omega)]
    exact World.cell?_setCell_same' _ _ _ (by rw [c0]; rfl)
  · rw [World.cell?_setCell_same' _ _ _ (by rw [World.cell?_setCell_other _ _ _ _ (by intro e; injection e; omega), c1]; rfl)]
    show _ = some (Value.int .u32 ((if X.testBit j then accN k X j else dropN (accN k X j) j : Nat) : Int))
    rw [if_neg (by simp [hx])]
  · rw [World.frozen?_setCell, World.frozen?_setCell]
    exact (hb.frozen (by show S < wr.heap.size; omega)).trans h.f0
  · rw [World.frozen?_setCell, World.frozen?_setCell]
    exact (hb.frozen (by show S < wr.heap.size; omega)).trans h.f1
  · rw [range_filter, if_neg (by simp [hx])]
    exact ((h.own.below hb (Nat.le_refl _)).set (by show S < S + 1; omega) _).set (by show S < S + 1; omega) _
  · exact ((h.below.trans (hb.mono (by omega))).setCell (by show w.heap.size ≤ S; omega) _).setCell (by show w.heap.size ≤ S; omega) _
  · have := hb.size
    simp [World.setCell]
    omega
theorem Mid.fin {w : World} {S k X : Nat} {v : Value} {wr : World} (h : Mid w S k X k v wr) : ∀ u0 u1, Own ((wr.setCell ⟨w.heap.size, 0, none⟩ u0).setCell ⟨w.heap.size, 1, none⟩ u1) w.heap.size v ((List.range k).filter fun i => X.testBit i) ∧
    Below w.heap.size w ((wr.setCell ⟨w.heap.size, 0, none⟩ u0).setCell ⟨w.heap.size, 1, none⟩ u1) := by
  intro u0 u1
  have hl := h.lt
  exact ⟨((h.own.set (by show w.heap.size < S + 1; omega) _).set (by show w.heap.size < S + 1; omega) _).less (by omega), (h.below.setCell (Nat.le_refl _) _).setCell (Nat.le_refl _) _⟩
set_option maxRecDepth 100000 in
theorem made_core (n x : Int) (X k : Nat) (w : World) (h0 : 0 ≤ n) (h1 : n ≤ 255) (x0 : 0 ≤ x) (x1 : x ≤ 4294967295) (hx : x = X) (hk : kOf n = k) :
    Calls Tryd.prog 9 #[.int .u8 n, .int .u32 x] w fun e w' => (∃ v, e = .returned (.tuple #[setV k (accN k X k), v, .int .i64 (k : Int)]) ∧ Own w' w.heap.size v ((List.range k).filter fun i => X.testBit i)) ∧ Below w.heap.size w w' := by
  have k1 : 1 ≤ k := by have := kOf_le n; omega
  have k2 : k ≤ 32 := by have := kOf_le n; omega
  have HX := Lib.hid hx
  have he : Hid (1 + n % 32 = (k : Int)) := Lib.hid (by unfold kOf at hk; omega)
  clear hx hk
  go_enter Tryd.func9, Tryd.ntmps9
  go_wp2_with fail
  rw [he.out]
  refine (new_yes k _ k1 k2).mono ?_
  rintro e w1 ⟨rfl, hb⟩
  obtain ⟨hc, hf⟩ := bcell hb
  have hz := hb.size
  simp at hz
  go_wp2_with fail
  have hR : w.heap.size < w1.heap.size := by omega
  have hm : Mid w w1.heap.size k X 0 (.slice none 0 0) (w1.alloc (setO k (2 ^ k - 1))) := by
    have c1 : Below w.heap.size w (w1.alloc (setO k (2 ^ k - 1))) := (((Below.refl _ _).alloc (Nat.le_refl _) _).trans (hb.mono (by simp))).alloc (by omega) _
    exact ⟨by go_simp, by go_simp, by go_simp, by go_simp, by go_simp, by go_simp; rfl, by go_simp, by go_simp, own_nil _ _, c1, by simp, hR⟩
  have HM := Lib.hid hm
  clear hm hc hf hb hz
  generalize 2 ^ k - 1 = top at HM
  go_loopw [10, 11, 22] (fun v _ i wr => ∃ j : Nat, j ≤ k ∧ i = .int .i64 j ∧ Mid w w1.heap.size k X j v wr) (fun _ _ i _ => k - (intOf i).toNat)
  case atStart => exact ⟨0, Nat.zero_le _, rfl, HM.out⟩
  case round =>
    obtain ⟨j, hj, rfl, hmr⟩ := hrel
    have HMr := Lib.hid hmr
    clear hmr HM
    by_cases hlt : j < k
    · have HT := Lib.hid (bit_test x X j HX.out (by have := HX.out; omega))
      have HO := Lib.hid HMr.out.own
      have HL := Lib.hid (range_filter_len (fun i => X.testBit i) j (by omega))
      have hsz := HMr.out.size
      cases hb : X.testBit j with
      | true =>
        have ht : (bits BinOp.and IntKind.u32 (x / 2 ^ j) 1 == 1) = true := by rw [HT.out, hb]
        have HP := Lib.hid (fun v' w' => HMr.out.push hb (v' := v') (w' := w'))
        clear hb HT
        go_wp2_with (at_builtin; refine push_own rfl (.tmp 30) (.tmp 32) rfl wr (w1.heap.size + 1) u10 _ j rfl rfl HO.out hsz HL.out ?_; intro v' w2 h1 h2; have H1 := Lib.hid h1; have H2 := Lib.hid h2; clear h1 h2)
        clear ht
        go_roundw
        case rel => exact ⟨j + 1, by omega, by go_num, HP.out _ _ H1.out H2.out⟩
        case measure => simp [intOf]; omega
      | false =>
        have ht : (bits BinOp.and IntKind.u32 (x / 2 ^ j) 1 == 1) = false := by rw [HT.out, hb]
        have hd := HMr.out.drop hb
        have HD := Lib.hid (fun W => drop_yes k (accN k X j) j W hlt k2 (acc_fits k2 hj))
        have s0 := HMr.out.s0
        have s1 := HMr.out.s1
        have f0 := HMr.out.f0
        have f1 := HMr.out.f1
        generalize accN k X j = B at s1 HD hd
        generalize dropN B j = C at HD hd
        have HE := Lib.hid hd
        clear hb HT hd
        go_wp2_with fail
        refine (HD.out _).mono ?_
        rintro e w2 ⟨rfl, hb2⟩
        obtain ⟨hc, hf⟩ := bcell hb2
        have HB2 := Lib.hid hb2
        have hz := hb2.size
        have hsl : w1.heap.size < wr.heap.size := by omega
        clear hb2 ht
        go_wp2
        clear hc hf
        go_roundw
        case rel => exact ⟨j + 1, by omega, by go_num, HE.out _ HB2.out⟩
        case measure => simp [intOf]; omega
    · obtain rfl : j = k := by omega
      have r0 := HMr.out.r0
      have r1 := HMr.out.r1
      have q0 := HMr.out.q0
      have q1 := HMr.out.q1
      have s0 := HMr.out.s0
      have s1 := HMr.out.s1
      have HE := Lib.hid HMr.out.fin
      go_wp2
      refine bodyPost_ret (v := .tuple #[setV j (accN j X j), u10, .int .i64 (j : Int)]) (by simp [results, Tryd.results9, go_sem, r0, r1]) rfl ⟨⟨u10, rfl, (HE.out _ _).1⟩, (HE.out _ _).2⟩
theorem made_any (n x : Int) (w : World) (h0 : 0 ≤ n) (h1 : n ≤ 255) (x0 : 0 ≤ x) (x1 : x ≤ 4294967295) :
    Calls Tryd.prog 9 #[.int .u8 n, .int .u32 x] w fun e w' => (∃ v, e = .returned (.tuple #[setV (kOf n) (bOf (kOf n) x.toNat), v, .int .i64 (kOf n : Int)]) ∧ Own w' w.heap.size v (mem (kOf n) (bOf (kOf n) x.toNat))) ∧ Below w.heap.size w w' := by
  rw [mem_bOf (kOf_le n).2]
  exact made_core n x x.toNat (kOf n) w h0 h1 x0 x1 (by omega) rfl
end Go.Proofs.YtlpclbilomcaiaaDoor
