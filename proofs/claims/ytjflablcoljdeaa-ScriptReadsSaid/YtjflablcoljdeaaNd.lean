/- Contract of the document's Read of a script (no statement of its own). -/
import Derived.Test.YtjflablcoljdeaaNc
namespace Go.Proofs.Ytjflablcoljdeaa
open Go.RowKit Go.Shelf
set_option linter.unusedVariables false
theorem info_rop : (Try.prog.info? 31).map (fun i => (i.zero, i.size, i.bytes)) = some (some (.agg #[.int .i64 0, .int .i64 0, .int .i64 0, .int .i64 0, .int .i64 0]), 5, 40) := by kernel_rfl
theorem byL_snoc (l : List Nat) (b : Nat) : byL (l ++ [b]) = byL l ++ [.int .u8 (b : Int)] := by simp [byL]
/-- append of one byte. -/
theorem push_b {ops : Array Oper} {rest : List Oper} {o : Oper} {a : Act} {Q : Exit → Act → World → Prop} (hgd : o.guard = none) (sl x : Operand)
    (ho : o.op = .call { callee := .builtin .append, args := #[sl, x], argTypes := #[22, 22] })
    (W : World) (base : Nat) (v : Value) (l : List Nat) (b : Nat) (y : Int) (hy : y = (b : Int)) (hs : a.eval sl = v) (hx : a.eval x = .slice (some ⟨W.heap.size, 0, none⟩) 1 1)
    (hown : OwnBy W base v l) (hbase : base ≤ W.heap.size) (hl : l.length ≤ 1000000)
    (h : ∀ v' w', OwnBy w' base v' (l ++ [b]) → W.grownBy w' v.ownBlock → wpList Try.prog ops Q rest (a.put o.dst v') w') :
    wpList Try.prog ops Q (o :: rest) a (W.alloc (.cells #[.int .u8 y] 5)) := by
  subst hy
  obtain ⟨i0, hi, hz0, hz1, hz2⟩ := info_parts info_u8
  have hown' := hown.below (new_val W (.cells #[.int .u8 (b : Int)] 5)) (Nat.le_refl _)
  have hc := heap_alloc_new W (.cells #[.int .u8 (b : Int)] 5)
  refine wpList_append_own _ hgd sl x 22 ho base 5 i0 (.int .u8 0) 1 1 Try.underlying22 hi hz0 hz1 hz2 rfl (by decide) v l.length _ hs hown' ⟨W.heap.size, 0, none⟩ 1 1 [.int .u8 (b : Int)] hx rfl ?_ ?_ (by unfold maxLen; omega) (by omega) (by simp; omega) ?_
  · intro j u hj
    rcases j with _ | j
    · simp at hj
      subst hj
      show (W.alloc _).cell? ⟨W.heap.size, 0, none⟩ = _
      rw [cell_of_row _ _ _ _ _ _ hc]
      rfl
    · simp at hj
  · intro u hu
    simp at hu
    subst hu
    rfl
  · intro v' w' k1 k2 _
    refine h v' w' ?_ ⟨k2.os, k2.tape, k2.output, Nat.le_trans (new_val W _).size k2.size, fun i hi hne => (k2.block i (Nat.lt_of_lt_of_le hi (new_val W _).size) hne).trans ((new_val W _).block i hi)⟩
    unfold OwnBy
    rw [List.length_append, byL_snoc]
    exact k1
/-- append of bytes that lie there, to a new list. -/
theorem app_copy {ops : Array Oper} {rest : List Oper} {o : Oper} {a : Act} {Q : Exit → Act → World → Prop} (hgd : o.guard = none) (sl x : Operand)
    (ho : o.op = .call { callee := .builtin .append, args := #[sl, x], argTypes := #[22, 22] })
    (W : World) (L : List Nat) (A : Option Addr) (n c : Nat) (hn : L.length = n) (hs : a.eval sl = .slice (some ⟨W.heap.size, 0, none⟩) 0 0) (hx : a.eval x = .slice A n c)
    (hA : By W A L) (hA0 : A = none → n = 0 ∧ c = 0) (hl : n ≤ 1000000)
    (h : ∀ v w', OwnBy w' W.heap.size v L → Below W.heap.size W w' → wpList Try.prog ops Q rest (a.put o.dst v) w') :
    wpList Try.prog ops Q (o :: rest) a (W.alloc (.cells #[] 5)) := by
  obtain ⟨i0, hi, hz0, hz1, hz2⟩ := info_parts info_u8
  have n0 := new_val W (.cells #[] 5)
  cases A with
  | none =>
    obtain ⟨rfl, rfl⟩ := hA0 rfl
    obtain rfl := List.eq_nil_of_length_eq_zero hn
    refine wpList_append_own_none hgd sl x 22 ho W.heap.size 5 i0 1 Try.underlying22 hi _ 0 [] hs (World.ownsRow_made W #[] 0 (Nat.le_refl _) (by simp [maxLen]) rfl) hx ?_
    exact h _ _ (World.ownsRow_made W #[] 0 (Nat.le_refl _) (by simp [maxLen]) rfl) n0
  | some ad =>
    subst hn
    refine wpList_append_own _ hgd sl x 22 ho W.heap.size 5 i0 (.int .u8 0) 1 1 Try.underlying22 hi hz0 hz1 hz2 rfl (by decide) _ 0 [] hs (World.ownsRow_made W #[] 0 (Nat.le_refl _) (by simp [maxLen]) rfl) ad L.length c (byL L) hx (by simp) ((hA.below n0 (Nat.le_refl _)).cells) (byL_one _) (by unfold maxLen; omega) (by omega) (by simp) ?_
    intro v' w1 h1 h2 _
    refine h v' w1 ?_ (n0.grown h2 (by simp) (fun k hk => by simp [Value.ownBlock] at hk; omega))
    rw [Nat.zero_add, List.nil_append] at h1
    exact h1
/-- The bytes, and noughts behind. -/
def padL (L : List Nat) (j : Nat) : List Nat := L ++ List.replicate j 0
theorem padL_len (L : List Nat) (j : Nat) : (padL L j).length = L.length + j := by simp [padL]
theorem padL_succ (L : List Nat) (j : Nat) : padL L j ++ [0] = padL L (j + 1) := by
  unfold padL
  rw [List.append_assoc, List.replicate_succ']
theorem nth_padL (L : List Nat) (j i : Nat) : nth (padL L j) i = nth L i := by
  by_cases h : i < L.length
  · exact nth_app _ _ _ h
  · rw [nth_out L i (by omega)]
    by_cases h2 : i < L.length + j
    · unfold nth padL
      rw [List.getD_eq_getElem?_getD, List.getElem?_append_right (by omega), List.getElem?_replicate, if_pos (by omega)]
      rfl
    · exact nth_out _ _ (by rw [padL_len]; omega)
theorem opC_pad (L : List Nat) (j k : Nat) : opC ((padL L j).drop k) = opC (L.drop k) := by simp only [opC, nth_drop, nth_padL]
theorem row_less {w : World} {base B e size n : Nat} {v : Value} {xs : List Value} (h : w.ownsRow B e size v n xs) (hb : base ≤ B) : w.ownsRow base e size v n xs := by
  obtain ⟨h1, ⟨rfl, hn⟩ | ⟨g, cap, cur, rfl, hb', hr⟩⟩ := h
  · exact ⟨h1, .inl ⟨rfl, hn⟩⟩
  · exact ⟨h1, .inr ⟨g, cap, cur, rfl, Nat.le_trans hb hb', hr⟩⟩
def lenOf : Value → Nat
  | .slice _ n _ => n
  | _ => 0
set_option maxRecDepth 100000 in
set_option maxHeartbeats 4000000 in
theorem rread24_any (A : Option Addr) (n c : Nat) (L : List Nat) (w : World) (hl : L.length = n) (hn : n ≤ 100000) (hA0 : A = none → n = 0 ∧ c = 0) (hL : By w A L) (h8 : ∀ b ∈ L, b < 256) :
    Calls Try.prog 7 #[.slice A n c] w fun e W' => ∃ v, e = .returned v ∧ W'.ownsRow w.heap.size 31 5 v (piecesL L).length (cellsO (piecesL L)) ∧ Below w.heap.size w W' := by
  have HL := Lib.hid hl
  have H8 := Lib.hid h8
  have PA := Lib.hid hL
  have HA0 := Lib.hid hA0
  clear hl h8 hL hA0
  go_enter Try.func7, Try.ntmps7
  go_wp2_with (first | (at_builtin; refine app_copy rfl (.tmp 4) (.tmp 5) rfl w L A n c HL.out rfl rfl PA.out HA0.out (by omega) ?_; intro v w1 h1 h2; obtain ⟨A1, c1, rfl, -⟩ := h1.form; have O1 := Lib.hid h1; have B1 := Lib.hid h2; clear h1 h2) | fail)
  rw [HL.out]
  obtain ⟨q, hq⟩ : ∃ q, (n + 5) / 6 = q := ⟨_, rfl⟩
  have HQ := Lib.hid hq
  clear hq
  go_loopw [0] (fun v wr => ∃ j : Nat, n + j ≤ 6 * q ∧ OwnBy wr w.heap.size v (padL L j) ∧ Below w.heap.size w wr) (fun v _ => 6 * q - lenOf v)
  case atStart => exact ⟨0, by have := HQ.out; omega, by have h := O1.out; rw [HL.out] at h; simpa [padL] using h, B1.out⟩
  case round =>
    obtain ⟨j, hj, hO, hB⟩ := hrel
    obtain ⟨A2, c2, rfl, hY, hlc, hA2, hbs⟩ := hO.form
    obtain ⟨k, hk⟩ : ∃ k, n + j = k := ⟨_, rfl⟩
    rw [padL_len, HL.out, hk] at hO hlc ⊢
    rw [hk] at hj
    rw [padL_len, HL.out, hk] at hA2
    have O2 := Lib.hid hO
    have B2 := Lib.hid hB
    have BY := Lib.hid hY
    have HA2 := Lib.hid hA2
    have hbz := hB.size
    clear hO hB hY hA2 hbs
    obtain ⟨m, hm⟩ : ∃ m, k % 6 = m := ⟨_, rfl⟩
    have ht : ((k : Int)).tmod 6 = (m : Int) := by rw [← hm]; rfl
    have HK := Lib.hid hk
    have HM := Lib.hid hm
    have hm6 : m < 6 := by omega
    clear hk hm
    by_cases h0 : 0 < m
    · have i1 : (0 : Int) < (m : Int) := by omega
      go_wp2_with (first | (at_builtin; refine push_b rfl (.tmp 11) (.tmp 12) rfl wr w.heap.size _ (padL L j) 0 _ rfl rfl rfl O2.out hbz (by have h1 := HL.out; have h2 := HQ.out; have h3 := HK.out; rw [padL_len]; omega) ?_; intro v3 w3 h1 h2; rw [padL_succ] at h1; obtain ⟨A3, c3, rfl, -⟩ := h1.form; have O3 := Lib.hid h1; have G3 := Lib.hid h2; clear h1 h2) | fail)
      have hb3 : Below w.heap.size w w3 := B2.out.grown G3.out hbz (fun k hk => (World.ownsRow.lt O2.out k hk).1)
      have e3 : (padL L (j + 1)).length = k + 1 := by rw [padL_len]; have h1 := HL.out; have h2 := HK.out; omega
      refine ⟨⟨j + 1, by have h1 := HM.out; have h2 := HQ.out; have h3 := HK.out; omega, O3.out, hb3⟩, ?_⟩
      rw [e3]
      show 6 * q - (k + 1) < 6 * q - k
      have h1 := HM.out; have h2 := HQ.out; have h3 := HK.out
      omega
    · obtain rfl : m = 0 := by omega
      have i1 : ¬ ((0 : Int) < ((0 : Nat) : Int)) := by omega
      go_wp2_with fail
      obtain ⟨w4, hw4⟩ : ∃ W, W = wr := ⟨wr, rfl⟩
      subst hw4
      have hk6 : k = 6 * q := by have h1 := HM.out; have h2 := HQ.out; have h3 := HK.out; omega
      obtain ⟨g, o, hgo⟩ : ∃ g o, 0 < q → A2 = some ⟨g, o, none⟩ := by
        by_cases h0 : 0 < q
        · obtain ⟨g, o, e, _⟩ := BY.out.at_ (i := 0) (by have h1 := HL.out; have h2 := HQ.out; have h3 := HK.out; rw [padL_len]; omega)
          exact ⟨g, o, fun _ => e⟩
        · exact ⟨0, 0, fun h => absurd h h0⟩
      have HGO := Lib.hid hgo
      have HK6 := Lib.hid hk6
      have HQN : Hid (q ≤ 20000) := Lib.hid (by have := HQ.out; omega)
      have BZ : Hid (∀ i, nth (padL L j) i < 256) := Lib.hid fun i => by
        rw [nth_padL]
        by_cases hi : i < L.length
        · unfold nth
          rw [List.getD_eq_getElem?_getD, List.getElem?_eq_getElem hi]
          exact H8.out _ (List.getElem_mem hi)
        · rw [nth_out _ _ (by omega)]; omega
      clear hgo hk6 ht h0 i1 hm6
      go_loopw [0, 3] (fun p out wr => ∃ i : Nat, i ≤ q ∧ (∃ Ap cp, p = .slice Ap (6 * (q - i)) cp ∧ 6 * (q - i) ≤ cp ∧ (i < q → Ap = some ⟨g, o + 6 * i, none⟩)) ∧ wr.ownsRow w4.heap.size 31 5 out i (cellsO ((firstL i).map fun x => L.drop x)) ∧ Below w4.heap.size w4 wr) (fun p _ _ => lenOf p)
      case atStart => exact ⟨0, Nat.zero_le _, ⟨_, _, by rw [HK6.out]; rfl, by have := HK6.out; omega, fun h => HGO.out h⟩, World.ownsRow_nil _ _ _ _, Below.refl _ _⟩
      case round =>
        obtain ⟨i, hi, ⟨Ap, cp, rfl, hcp, hAp⟩, hO, hB⟩ := hrel
        obtain ⟨d, hd⟩ : ∃ d, 6 * (q - i) = d := ⟨_, rfl⟩
        rw [hd] at hcp ⊢
        have HD := Lib.hid hd
        have O3 := Lib.hid hO
        have B3 := Lib.hid hB
        have hb4 := hB.size
        clear hd hO hB
        by_cases hlt : i < q
        · obtain rfl := hAp hlt
          have d6 : 6 ≤ d := by have := HD.out; omega
          have d0 : 0 < d := by omega
          have hcell : ∀ x, x < 6 → wr.cell? ⟨g, o + 6 * i + x, none⟩ = some (.int .u8 (nth (padL L j) (6 * i + x) : Int)) := fun x hx => by
            obtain ⟨g', o', e, _, hc⟩ := (BY.out.below B3.out (Nat.le_refl _)).at_ (i := 6 * i + x) (by have h1 := HL.out; have h3 := HK.out; have h4 := HK6.out; rw [padL_len]; omega)
            rw [HGO.out (by omega)] at e
            injection e with e
            injection e with e1 e2
            subst e1 e2
            rw [show o + 6 * i + x = o + (6 * i + x) by omega]
            exact hc
          have GB : Hid (g < w4.heap.size) := Lib.hid (by
            obtain ⟨g', o', e, hg', _⟩ := BY.out.at_ (i := 0) (by have h1 := HL.out; have h3 := HK.out; have h4 := HK6.out; rw [padL_len]; omega)
            rw [HGO.out (by omega)] at e
            injection e with e
            injection e with e1 e2
            subst e1
            exact hg')
          obtain ⟨a, ha⟩ : ∃ a, o + 6 * i = a := ⟨_, rfl⟩
          rw [ha] at hcell ⊢
          have HA := Lib.hid ha
          have c0 : wr.cell? ⟨g, a, none⟩ = some (.int .u8 (nth (padL L j) (6 * i + 0) : Int)) := hcell 0 (by omega)
          have c1 := hcell 1 (by omega)
          have c2 := hcell 2 (by omega)
          have c3 := hcell 3 (by omega)
          have c4 := hcell 4 (by omega)
          have c5 := hcell 5 (by omega)
          have y0 := BZ.out (6 * i + 0)
          have y1 := BZ.out (6 * i + 1)
          have y2 := BZ.out (6 * i + 2)
          have y3 := BZ.out (6 * i + 3)
          have y4 := BZ.out (6 * i + 4)
          have y5 := BZ.out (6 * i + 5)
          have EQ : Hid (opC (L.drop (6 * i)) = opC [nth (padL L j) (6 * i + 0), nth (padL L j) (6 * i + 1), nth (padL L j) (6 * i + 2), nth (padL L j) (6 * i + 3), nth (padL L j) (6 * i + 4), nth (padL L j) (6 * i + 5)]) := Lib.hid (by
            rw [← opC_pad L j]
            simp only [opC, nth_drop]
            rfl)
          generalize nth (padL L j) (6 * i + 0) = b0 at c0 y0 EQ
          generalize nth (padL L j) (6 * i + 1) = b1 at c1 y1 EQ
          generalize nth (padL L j) (6 * i + 2) = b2 at c2 y2 EQ
          generalize nth (padL L j) (6 * i + 3) = b3 at c3 y3 EQ
          generalize nth (padL L j) (6 * i + 4) = b4 at c4 y4 EQ
          generalize nth (padL L j) (6 * i + 5) = b5 at c5 y5 EQ
          have EQ : Hid (opC (L.drop (6 * i)) = #[.int .i64 ((b0 % 11 : Nat) : Int), .int .i64 ((b1 % 6 : Nat) : Int), .int .i64 ((b2 % 4 : Nat) : Int), .int .i64 ((b3 % 4 : Nat) : Int), .int .i64 ((b4 + 256 * b5 : Nat) : Int)]) := Lib.hid (EQ.out.trans rfl)
          have t0 : ((b0 : Int)).tmod 11 = ((b0 % 11 : Nat) : Int) := rfl
          have t1 : ((b1 : Int)).tmod 6 = ((b1 % 6 : Nat) : Int) := rfl
          have t2 : ((b2 : Int)).tmod 4 = ((b2 % 4 : Nat) : Int) := rfl
          have t3 : ((b3 : Int)).tmod 4 = ((b3 % 4 : Nat) : Int) := rfl
          have t5 : (256 : Int) * (b5 : Int) = ((256 * b5 : Nat) : Int) := by omega
          have t4 : (b4 : Int) + ((256 * b5 : Nat) : Int) = ((b4 + 256 * b5 : Nat) : Int) := by omega
          have u4 : 256 * b5 ≤ 65280 := by omega
          have u5 : b4 + 256 * b5 ≤ 65535 := by omega
          obtain ⟨m0, h0⟩ : ∃ m, m = b0 % 11 := ⟨_, rfl⟩
          obtain ⟨m1, h1⟩ : ∃ m, m = b1 % 6 := ⟨_, rfl⟩
          obtain ⟨m2, h2⟩ : ∃ m, m = b2 % 4 := ⟨_, rfl⟩
          obtain ⟨m3, h3⟩ : ∃ m, m = b3 % 4 := ⟨_, rfl⟩
          obtain ⟨m5, h5⟩ : ∃ m, m = 256 * b5 := ⟨_, rfl⟩
          rw [← h0] at t0 EQ
          rw [← h1] at t1 EQ
          rw [← h2] at t2 EQ
          rw [← h3] at t3 EQ
          rw [← h5] at t5 t4 u4 u5 EQ
          obtain ⟨m4, h4⟩ : ∃ m, m = b4 + m5 := ⟨_, rfl⟩
          rw [← h4] at t4 u5 EQ
          have z0 : m0 < 11 := by omega
          have z1 : m1 < 6 := by omega
          have z2 : m2 < 4 := by omega
          have z3 : m3 < 4 := by omega
          have v5 : IntKind.i64.wrap (m5 : Int) = (m5 : Int) := IntWalk.i64_in _ (by omega)
          have v4 : IntKind.i64.wrap (m4 : Int) = (m4 : Int) := IntWalk.i64_in _ (by omega)
          have x0 : IntKind.i64.wrap (b0 : Int) = (b0 : Int) := IntWalk.i64_in _ (by omega)
          have x1 : IntKind.i64.wrap (b1 : Int) = (b1 : Int) := IntWalk.i64_in _ (by omega)
          have x2 : IntKind.i64.wrap (b2 : Int) = (b2 : Int) := IntWalk.i64_in _ (by omega)
          have x3 : IntKind.i64.wrap (b3 : Int) = (b3 : Int) := IntWalk.i64_in _ (by omega)
          have x4 : IntKind.i64.wrap (b4 : Int) = (b4 : Int) := IntWalk.i64_in _ (by omega)
          have x5 : IntKind.i64.wrap (b5 : Int) = (b5 : Int) := IntWalk.i64_in _ (by omega)
          have l0 : (0 : Int) < (d : Int) := by omega
          have l1 : (1 : Int) < (d : Int) := by omega
          have l2 : (2 : Int) < (d : Int) := by omega
          have l3 : (3 : Int) < (d : Int) := by omega
          have l4 : (4 : Int) < (d : Int) := by omega
          have l5 : (5 : Int) < (d : Int) := by omega
          have hi2 : i ≤ 20000 := by have := HQN.out; omega
          clear h0 h1 h2 h3 h4 h5 hcell hAp ha
          go_wp2_with fail
          refine wp_region_noPanic ?_
          refine wp_region_held_drew (S := fun W => W.cell? ⟨g, a, none⟩ = some (.int .u8 (b0 : Int)) ∧ W.cell? ⟨g, a + 1, none⟩ = some (.int .u8 (b1 : Int)) ∧ W.cell? ⟨g, a + 2, none⟩ = some (.int .u8 (b2 : Int)) ∧ W.cell? ⟨g, a + 3, none⟩ = some (.int .u8 (b3 : Int)) ∧ W.cell? ⟨g, a + 4, none⟩ = some (.int .u8 (b4 : Int)) ∧ W.cell? ⟨g, a + 5, none⟩ = some (.int .u8 (b5 : Int))) (by kernel_rfl) ⟨c0, c1, c2, c3, c4, c5⟩ (fun hHeld => ?_)
          have O3 : Hid (wr.drew.ownsRow w4.heap.size 31 5 _ i (cellsO ((firstL i).map fun x => L.drop x))) := Lib.hid O3.out
          have B3 : Hid (Below w4.heap.size w4 wr.drew) := Lib.hid B3.out.drew
          clear c0 c1 c2 c3 c4 c5
          generalize wr.drew = w6 at O3 B3 hHeld ⊢
          refine wpAnyH_take (i := 0) (v := ?v701) rfl (by kernel_rfl) (by kernel_rfl) (by kernel_rfl) (fun _ _ _ h => h) (Or.inl ⟨by rfl, ?y701⟩) (by assumption) ?r701
          case y701 => ((intro w hSw; (try dsimp only at hSw); go_simp); try with_reducible rfl)
          try simp only [Act.put, List.getElem_toArray, List.getElem_cons_zero, List.setIfInBounds_toArray, List.set_cons_zero, List.set_cons_succ]
          refine wpAnyH_take (i := 1) (v := ?v702) rfl (by kernel_rfl) (by kernel_rfl) (by kernel_rfl) (fun _ _ _ h => h) (Or.inl ⟨by rfl, ?y702⟩) (by assumption) ?r702
          case y702 => ((intro w hSw; (try dsimp only at hSw); go_simp); try with_reducible rfl)
          try simp only [Act.put, List.getElem_toArray, List.getElem_cons_succ, List.getElem_cons_zero, List.setIfInBounds_toArray, List.set_cons_zero, List.set_cons_succ]
          refine wpAnyH_take (i := 2) (v := ?v703) rfl (by kernel_rfl) (by kernel_rfl) (by kernel_rfl) (fun _ _ _ h => h) (Or.inl ⟨by rfl, ?y703⟩) (by assumption) ?r703
          case y703 => ((intro w hSw; (try dsimp only at hSw); go_simp); try with_reducible rfl)
          try simp only [Act.put, List.getElem_toArray, List.getElem_cons_succ, List.getElem_cons_zero, List.setIfInBounds_toArray, List.set_cons_zero, List.set_cons_succ]
          refine wpAnyH_take (i := 3) (v := ?v704) rfl (by kernel_rfl) (by kernel_rfl) (by kernel_rfl) (fun _ _ _ h => h) (Or.inl ⟨by rfl, ?y704⟩) (by assumption) ?r704
          case y704 => ((intro w hSw; (try dsimp only at hSw); go_simp); try with_reducible rfl)
          try simp only [Act.put, List.getElem_toArray, List.getElem_cons_succ, List.getElem_cons_zero, List.setIfInBounds_toArray, List.set_cons_zero, List.set_cons_succ]
          refine wpAnyH_take (i := 4) (v := ?v705) rfl (by kernel_rfl) (by kernel_rfl) (by kernel_rfl) (fun _ _ _ h => h) (Or.inl ⟨by rfl, ?y705⟩) (by assumption) ?r705
          case y705 => ((intro w hSw; (try dsimp only at hSw); go_simp); try with_reducible rfl)
          try simp only [Act.put, List.getElem_toArray, List.getElem_cons_succ, List.getElem_cons_zero, List.setIfInBounds_toArray, List.set_cons_zero, List.set_cons_succ]
          refine wpAnyH_take (i := 5) (v := ?v706) rfl (by kernel_rfl) (by kernel_rfl) (by kernel_rfl) (fun _ _ _ h => h) (Or.inl ⟨by rfl, ?y706⟩) (by assumption) ?r706
          case y706 => ((intro w hSw; (try dsimp only at hSw); go_simp); try with_reducible rfl)
          try simp only [Act.put, List.getElem_toArray, List.getElem_cons_succ, List.getElem_cons_zero, List.setIfInBounds_toArray, List.set_cons_zero, List.set_cons_succ]
          refine wpAnyH_take (i := 6) (v := ?v707) rfl (by kernel_rfl) (by kernel_rfl) (by kernel_rfl) (fun _ _ _ h => h) (Or.inl ⟨by rfl, ?y707⟩) (by assumption) ?r707
          case y707 => ((intro w hSw; (try dsimp only at hSw); go_simp); try with_reducible rfl)
          try simp only [Act.put, List.getElem_toArray, List.getElem_cons_succ, List.getElem_cons_zero, List.setIfInBounds_toArray, List.set_cons_zero, List.set_cons_succ]
          refine wpAnyH_take (i := 7) (v := ?v708) rfl (by kernel_rfl) (by kernel_rfl) (by kernel_rfl) (fun _ _ _ h => h) (Or.inl ⟨by rfl, ?y708⟩) (by assumption) ?r708
          case y708 => ((intro w hSw; (try dsimp only at hSw); go_simp); try with_reducible rfl)
          try simp only [Act.put, List.getElem_toArray, List.getElem_cons_succ, List.getElem_cons_zero, List.setIfInBounds_toArray, List.set_cons_zero, List.set_cons_succ]
          refine wpAnyH_take (i := 8) (v := ?v709) rfl (by kernel_rfl) (by kernel_rfl) (by kernel_rfl) (fun _ _ _ h => h) (Or.inl ⟨by rfl, ?y709⟩) (by assumption) ?r709
          case y709 => ((intro w hSw; (try dsimp only at hSw); go_simp); try with_reducible rfl)
          try simp only [Act.put, List.getElem_toArray, List.getElem_cons_succ, List.getElem_cons_zero, List.setIfInBounds_toArray, List.set_cons_zero, List.set_cons_succ]
          refine wpAnyH_take (i := 9) (v := ?v710) rfl (by kernel_rfl) (by kernel_rfl) (by kernel_rfl) (fun _ _ _ h => h) (Or.inl ⟨by rfl, ?y710⟩) (by assumption) ?r710
          case y710 => ((intro w hSw; (try dsimp only at hSw); go_simp); try with_reducible rfl)
          try simp only [Act.put, List.getElem_toArray, List.getElem_cons_succ, List.getElem_cons_zero, List.setIfInBounds_toArray, List.set_cons_zero, List.set_cons_succ]
          refine wpAnyH_take (i := 10) (v := ?v711) rfl (by kernel_rfl) (by kernel_rfl) (by kernel_rfl) (fun _ _ _ h => h) (Or.inl ⟨by rfl, ?y711⟩) (by assumption) ?r711
          case y711 => ((intro w hSw; (try dsimp only at hSw); go_simp); try with_reducible rfl)
          try simp only [Act.put, List.getElem_toArray, List.getElem_cons_succ, List.getElem_cons_zero, List.setIfInBounds_toArray, List.set_cons_zero, List.set_cons_succ]
          refine wpAnyH_take (i := 11) (v := ?v712) rfl (by kernel_rfl) (by kernel_rfl) (by kernel_rfl) (fun _ _ _ h => h) (Or.inl ⟨by rfl, ?y712⟩) (by assumption) ?r712
          case y712 => ((intro w hSw; (try dsimp only at hSw); go_simp); try with_reducible rfl)
          try simp only [Act.put, List.getElem_toArray, List.getElem_cons_succ, List.getElem_cons_zero, List.setIfInBounds_toArray, List.set_cons_zero, List.set_cons_succ]
          refine wpAnyH_take (i := 12) (v := ?v713) rfl (by kernel_rfl) (by kernel_rfl) (by kernel_rfl) (fun _ _ _ h => h) (Or.inl ⟨by rfl, ?y713⟩) (by assumption) ?r713
          case y713 => ((intro w hSw; (try dsimp only at hSw); go_simp); try with_reducible rfl)
          try simp only [Act.put, List.getElem_toArray, List.getElem_cons_succ, List.getElem_cons_zero, List.setIfInBounds_toArray, List.set_cons_zero, List.set_cons_succ]
          refine wpAnyH_take (i := 13) (v := ?v714) rfl (by kernel_rfl) (by kernel_rfl) (by kernel_rfl) (fun _ _ _ h => h) (Or.inl ⟨by rfl, ?y714⟩) (by assumption) ?r714
          case y714 => ((intro w hSw; (try dsimp only at hSw); go_simp); try with_reducible rfl)
          try simp only [Act.put, List.getElem_toArray, List.getElem_cons_succ, List.getElem_cons_zero, List.setIfInBounds_toArray, List.set_cons_zero, List.set_cons_succ]
          refine wpAnyH_take (i := 14) (v := ?v715) rfl (by kernel_rfl) (by kernel_rfl) (by kernel_rfl) (fun _ _ _ h => h) (Or.inl ⟨by rfl, ?y715⟩) (by assumption) ?r715
          case y715 => ((intro w hSw; (try dsimp only at hSw); go_simp); try with_reducible rfl)
          try simp only [Act.put, List.getElem_toArray, List.getElem_cons_succ, List.getElem_cons_zero, List.setIfInBounds_toArray, List.set_cons_zero, List.set_cons_succ]
          refine wpAnyH_take (i := 15) (v := ?v716) rfl (by kernel_rfl) (by kernel_rfl) (by kernel_rfl) (fun _ _ _ h => h) (Or.inl ⟨by rfl, ?y716⟩) (by assumption) ?r716
          case y716 => ((intro w hSw; (try dsimp only at hSw); go_simp); try with_reducible rfl)
          try simp only [Act.put, List.getElem_toArray, List.getElem_cons_succ, List.getElem_cons_zero, List.setIfInBounds_toArray, List.set_cons_zero, List.set_cons_succ]
          refine wpAnyH_take (i := 16) (v := ?v717) rfl (by kernel_rfl) (by kernel_rfl) (by kernel_rfl) (fun _ _ _ h => h) (Or.inl ⟨by rfl, ?y717⟩) (by assumption) ?r717
          case y717 => ((intro w hSw; (try dsimp only at hSw); go_simp); try with_reducible rfl)
          try simp only [Act.put, List.getElem_toArray, List.getElem_cons_succ, List.getElem_cons_zero, List.setIfInBounds_toArray, List.set_cons_zero, List.set_cons_succ]
          refine wpAnyH_take (i := 17) (v := ?v718) rfl (by kernel_rfl) (by kernel_rfl) (by kernel_rfl) (fun _ _ _ h => h) (Or.inl ⟨by rfl, ?y718⟩) (by assumption) ?r718
          case y718 => ((intro w hSw; (try dsimp only at hSw); go_simp); try with_reducible rfl)
          try simp only [Act.put, List.getElem_toArray, List.getElem_cons_succ, List.getElem_cons_zero, List.setIfInBounds_toArray, List.set_cons_zero, List.set_cons_succ]
          refine wpAnyH_take (i := 18) (v := ?v719) rfl (by kernel_rfl) (by kernel_rfl) (by kernel_rfl) (fun _ _ _ h => h) (Or.inl ⟨by rfl, ?y719⟩) (by assumption) ?r719
          case y719 => ((intro w hSw; (try dsimp only at hSw); go_simp); try with_reducible rfl)
          try simp only [Act.put, List.getElem_toArray, List.getElem_cons_succ, List.getElem_cons_zero, List.setIfInBounds_toArray, List.set_cons_zero, List.set_cons_succ]
          refine wpAnyH_take (i := 19) (v := ?v720) rfl (by kernel_rfl) (by kernel_rfl) (by kernel_rfl) (fun _ _ _ h => h) (Or.inl ⟨by rfl, ?y720⟩) (by assumption) ?r720
          case y720 => ((intro w hSw; (try dsimp only at hSw); go_simp); try with_reducible rfl)
          try simp only [Act.put, List.getElem_toArray, List.getElem_cons_succ, List.getElem_cons_zero, List.setIfInBounds_toArray, List.set_cons_zero, List.set_cons_succ]
          refine wpAnyH_take (i := 20) (v := ?v721) rfl (by kernel_rfl) (by kernel_rfl) (by kernel_rfl) (fun _ _ _ h => h) (Or.inl ⟨by rfl, ?y721⟩) (by assumption) ?r721
          case y721 => ((intro w hSw; (try dsimp only at hSw); go_simp); try with_reducible rfl)
          try simp only [Act.put, List.getElem_toArray, List.getElem_cons_succ, List.getElem_cons_zero, List.setIfInBounds_toArray, List.set_cons_zero, List.set_cons_succ]
          refine wpAnyH_take (i := 21) (v := ?v722) rfl (by kernel_rfl) (by kernel_rfl) (by kernel_rfl) (fun _ _ _ h => h) (Or.inl ⟨by rfl, ?y722⟩) (by assumption) ?r722
          case y722 => ((intro w hSw; (try dsimp only at hSw); go_simp); try with_reducible rfl)
          try simp only [Act.put, List.getElem_toArray, List.getElem_cons_succ, List.getElem_cons_zero, List.setIfInBounds_toArray, List.set_cons_zero, List.set_cons_succ]
          refine wpAnyH_take (i := 22) (v := ?v723) rfl (by kernel_rfl) (by kernel_rfl) (by kernel_rfl) (fun _ _ _ h => h) (Or.inl ⟨by rfl, ?y723⟩) (by assumption) ?r723
          case y723 => ((intro w hSw; (try dsimp only at hSw); go_simp); try with_reducible rfl)
          try simp only [Act.put, List.getElem_toArray, List.getElem_cons_succ, List.getElem_cons_zero, List.setIfInBounds_toArray, List.set_cons_zero, List.set_cons_succ]
          refine wpAnyH_take (i := 23) (v := ?v724) rfl (by kernel_rfl) (by kernel_rfl) (by kernel_rfl) (fun _ _ _ h => h) (Or.inl ⟨by rfl, ?y724⟩) (by assumption) ?r724
          case y724 => ((intro w hSw; (try dsimp only at hSw); go_simp); try with_reducible rfl)
          try simp only [Act.put, List.getElem_toArray, List.getElem_cons_succ, List.getElem_cons_zero, List.setIfInBounds_toArray, List.set_cons_zero, List.set_cons_succ]
          refine wpAnyH_take (i := 24) (v := ?v725) rfl (by kernel_rfl) (by kernel_rfl) (by kernel_rfl) (fun _ _ _ h => h) (Or.inl ⟨by rfl, ?y725⟩) (by assumption) ?r725
          case y725 => ((intro w hSw; (try dsimp only at hSw); go_simp); try with_reducible rfl)
          try simp only [Act.put, List.getElem_toArray, List.getElem_cons_succ, List.getElem_cons_zero, List.setIfInBounds_toArray, List.set_cons_zero, List.set_cons_succ]
          refine wpAnyH_take (i := 25) (v := ?v726) rfl (by kernel_rfl) (by kernel_rfl) (by kernel_rfl) (fun _ _ _ h => h) (Or.inl ⟨by rfl, ?y726⟩) (by assumption) ?r726
          case y726 => ((intro w hSw; (try dsimp only at hSw); go_simp); try with_reducible rfl)
          try simp only [Act.put, List.getElem_toArray, List.getElem_cons_succ, List.getElem_cons_zero, List.setIfInBounds_toArray, List.set_cons_zero, List.set_cons_succ]
          refine wpAnyH_take (i := 26) (v := ?v727) rfl (by kernel_rfl) (by kernel_rfl) (by kernel_rfl) (fun _ _ _ h => h) (Or.inl ⟨by rfl, ?y727⟩) (by assumption) ?r727
          case y727 => ((intro w hSw; (try dsimp only at hSw); go_simp); try with_reducible rfl)
          try simp only [Act.put, List.getElem_toArray, List.getElem_cons_succ, List.getElem_cons_zero, List.setIfInBounds_toArray, List.set_cons_zero, List.set_cons_succ]
          refine wpAnyH_take (i := 27) (v := ?v728) rfl (by kernel_rfl) (by kernel_rfl) (by kernel_rfl) (fun _ _ _ h => h) (Or.inl ⟨by rfl, ?y728⟩) (by assumption) ?r728
          case y728 => ((intro w hSw; (try dsimp only at hSw); go_simp); try with_reducible rfl)
          try simp only [Act.put, List.getElem_toArray, List.getElem_cons_succ, List.getElem_cons_zero, List.setIfInBounds_toArray, List.set_cons_zero, List.set_cons_succ]
          refine wpAnyH_take (i := 28) (v := ?v729) rfl (by kernel_rfl) (by kernel_rfl) (by kernel_rfl) (fun _ _ _ h => h) (Or.inl ⟨by rfl, ?y729⟩) (by assumption) ?r729
          case y729 => ((intro w hSw; (try dsimp only at hSw); go_simp); try with_reducible rfl)
          try simp only [Act.put, List.getElem_toArray, List.getElem_cons_succ, List.getElem_cons_zero, List.setIfInBounds_toArray, List.set_cons_zero, List.set_cons_succ]
          refine wpAnyH_take (i := 29) (v := ?v730) rfl (by kernel_rfl) (by kernel_rfl) (by kernel_rfl) (fun _ _ _ h => h) (Or.inl ⟨by rfl, ?y730⟩) (by assumption) ?r730
          case y730 => ((intro w hSw; (try dsimp only at hSw); go_simp); try with_reducible rfl)
          try simp only [Act.put, List.getElem_toArray, List.getElem_cons_succ, List.getElem_cons_zero, List.setIfInBounds_toArray, List.set_cons_zero, List.set_cons_succ]
          refine wpAnyH_take (i := 30) (v := ?v731) rfl (by kernel_rfl) (by kernel_rfl) (by kernel_rfl) (fun _ _ _ h => h) (Or.inl ⟨by rfl, ?y731⟩) (by assumption) ?r731
          case y731 => ((intro w hSw; (try dsimp only at hSw); go_simp); try with_reducible rfl)
          try simp only [Act.put, List.getElem_toArray, List.getElem_cons_succ, List.getElem_cons_zero, List.setIfInBounds_toArray, List.set_cons_zero, List.set_cons_succ]
          refine wpAnyH_take (i := 31) (v := ?v732) rfl (by kernel_rfl) (by kernel_rfl) (by kernel_rfl) (fun _ _ _ h => h) (Or.inl ⟨by rfl, ?y732⟩) (by assumption) ?r732
          case y732 => ((intro w hSw; (try dsimp only at hSw); go_simp); try with_reducible rfl)
          try simp only [Act.put, List.getElem_toArray, List.getElem_cons_succ, List.getElem_cons_zero, List.setIfInBounds_toArray, List.set_cons_zero, List.set_cons_succ]
          refine wpAnyH_ready (rs := [32]) (by kernel_rfl) (by simp) ?_
          refine AllReadyH.cons rfl (fun K hK => ?_) ?_
          · go_simp
            have nl := new_val w6 (.cells #[.int .i64 (m0 : Int), .int .i64 (m1 : Int), .int .i64 (m2 : Int), .int .i64 (m3 : Int), .int .i64 (m4 : Int)] 31)
            have CL : Hid (∀ j u, (opC (L.drop (6 * i))).toList[j]? = some u → (w6.alloc (.cells #[.int .i64 (m0 : Int), .int .i64 (m1 : Int), .int .i64 (m2 : Int), .int .i64 (m3 : Int), .int .i64 (m4 : Int)] 31)).cell? ((⟨w6.heap.size, 0, none⟩ : Addr).add j) = some u) := Lib.hid (by rw [← EQ.out]; exact lit_op w6 _ _)
            have O7 := Lib.hid (O3.out.alloc (.cells #[.int .i64 (m0 : Int), .int .i64 (m1 : Int), .int .i64 (m2 : Int), .int .i64 (m3 : Int), .int .i64 (m4 : Int)] 31))
            have B7 := Lib.hid (B3.out.trans (nl.mono B3.out.size))
            have hz6 : Hid (w4.heap.size ≤ (w6.alloc (.cells #[.int .i64 (m0 : Int), .int .i64 (m1 : Int), .int .i64 (m2 : Int), .int .i64 (m3 : Int), .int .i64 (m4 : Int)] 31)).heap.size) := Lib.hid B7.out.size
            have KC : ∀ x v, w6.cell? ⟨g, x, none⟩ = some v → (w6.alloc (.cells #[.int .i64 (m0 : Int), .int .i64 (m1 : Int), .int .i64 (m2 : Int), .int .i64 (m3 : Int), .int .i64 (m4 : Int)] 31)).cell? ⟨g, x, none⟩ = some v := fun x v h => (nl.cell (p := ⟨g, x, none⟩) (World.block_lt_of_cell? w6 _ h)).trans h
            refine hK.out _ _ (⟨KC _ _ hHeld.1, KC _ _ hHeld.2.1, KC _ _ hHeld.2.2.1, KC _ _ hHeld.2.2.2.1, KC _ _ hHeld.2.2.2.2.1, KC _ _ hHeld.2.2.2.2.2⟩) (fun hHeld' => ?_)
            clear hHeld
            have hHeld := hHeld'
            clear hHeld'
            clear nl KC
            generalize w6.alloc (.cells #[.int .i64 (m0 : Int), .int .i64 (m1 : Int), .int .i64 (m2 : Int), .int .i64 (m3 : Int), .int .i64 (m4 : Int)] 31) = w7 at hHeld CL O7 B7 hz6 ⊢
            generalize w6.heap.size = gl at CL ⊢
            clear hK K
            try simp only [Act.put, List.getElem_toArray, List.getElem_cons_succ, List.getElem_cons_zero, List.setIfInBounds_toArray, List.set_cons_zero, List.set_cons_succ]
            refine wpAnyH_ready (rs := [33]) (by kernel_rfl) (by simp) ?_
            refine AllReadyH.cons rfl (fun K hK => ?_) ?_
            · refine pushO_step (t := 27) (e := 31) Try.underlying27 info_rop rfl (.tmp 19) (.tmp 51) rfl w7 w4.heap.size _ i _ ⟨gl, 0, none⟩ (L.drop (6 * i)) rfl (by rfl) O7.out CL.out hz6.out (by omega) ?_
              intro v8 w8 h1 h2
              have O8 := Lib.hid h1
              have B8 := Lib.hid (B7.out.grown h2 hz6.out (fun k hk => (World.ownsRow.lt O7.out k hk).1))
              obtain ⟨g8, cap8, rfl⟩ := ownsRow_succ h1
              have KC : ∀ x v, w7.cell? ⟨g, x, none⟩ = some v → w8.cell? ⟨g, x, none⟩ = some v := fun x v h => (World.cell?_of_block (a := ⟨g, x, none⟩) (h2.block g (World.block_lt_of_cell? w7 _ h) (fun e => by have h3 := (World.ownsRow.lt O7.out g e.symm).1; have h4 := GB.out; omega))).trans h
              refine hK.out _ _ (⟨KC _ _ hHeld.1, KC _ _ hHeld.2.1, KC _ _ hHeld.2.2.1, KC _ _ hHeld.2.2.2.1, KC _ _ hHeld.2.2.2.2.1, KC _ _ hHeld.2.2.2.2.2⟩) (fun hHeld' => ?_)
              clear hHeld
              have hHeld := hHeld'
              clear hHeld'
              clear h1 h2 KC
              clear hK K
              try simp only [Act.put, List.getElem_toArray, List.getElem_cons_succ, List.getElem_cons_zero, List.setIfInBounds_toArray, List.set_cons_zero, List.set_cons_succ]
              refine wpAnyH_take (i := 34) (v := ?v733) rfl (by kernel_rfl) (by kernel_rfl) (by kernel_rfl) (fun _ _ _ h => h) (Or.inl ⟨by rfl, ?y733⟩) (by assumption) ?r733
              case y733 => ((intro w hSw; (try dsimp only at hSw); go_simp); try with_reducible rfl)
              try simp only [Act.put, List.getElem_toArray, List.getElem_cons_succ, List.getElem_cons_zero, List.setIfInBounds_toArray, List.set_cons_zero, List.set_cons_succ]
              refine wpAnyH_done (by kernel_rfl) ?_ _
              refine NoPanic.normal ?_
              clear hHeld
              go_wp2_with fail
              have e6 : 6 * (q - (i + 1)) = d - 6 := by have := HD.out; omega
              refine ⟨⟨i + 1, hlt, ⟨_, _, by rw [e6], by rw [e6]; omega, fun h => ?_⟩, ?_, B8.out⟩, ?_⟩
              · have h9 := HD.out
                have h8 := HA.out
                rw [if_neg (by omega), show o + 6 * (i + 1) = a + 6 by omega]
              · rw [firstL_succ, List.map_append, List.map_cons, List.map_nil, cellsO_snoc]
                exact O8.out
              · show d - 6 < d
                omega
            exact AllReadyH.nil
          exact AllReadyH.nil
        · have d0 : d = 0 := by have := HD.out; omega
          subst d0
          go_wp2_with fail
          go_ret
          obtain rfl : i = q := by have := HD.out; omega
          have e : (piecesL L).length = i := by rw [piecesL, List.length_map, firstL_len, HL.out]; exact HQ.out
          refine ⟨_, rfl, ?_, B2.out.trans (B3.out.mono hbz)⟩
          rw [e]
          have h := row_less O3.out hbz
          rw [piecesL, HL.out, HQ.out]
          exact h
end Go.Proofs.Ytjflablcoljdeaa
