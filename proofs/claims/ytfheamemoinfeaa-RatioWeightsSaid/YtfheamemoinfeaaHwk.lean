/- RatioWeights: the walk (no statement of its own). -/
import Derived.Test.YtfheamemoinfeaaHwj
import Derived.Test.YtfheamemoinfeaaHwl
import Derived.Deep.CutBlock
import Derived.Deep.OwnRows
namespace Go.Proofs.Ytfheamemoinfeaa
open Go.RowKit
open RtA
set_option linter.unusedVariables false
theorem madeF (n : Nat) (hn : n ≤ 100000) (W : World) : (Instr.makeSlice 22 (.int .i64 (n : Int)) (.int .i64 (n : Int))).run Try.prog W = .ok (.slice (some ⟨W.heap.size, 0, none⟩) n n) (W.alloc (.cells (madeCells #[.float .f64 0] n) 24)) :=
  run_make_row' 22 24 (.float .f64 0) 8 Try.underlying22 info_f64 rfl .i64 .i64 n (by omega) (by omega) W
theorem made_zeros (n : Nat) : (madeCells #[.float .f64 0] n).toList = FL (List.replicate n 0) := by
  refine List.ext_getElem (by simp [madeCells, FL]) fun i h1 h2 => ?_
  simp [madeCells, FL, Nat.mod_one]
theorem made_own (w : World) (n B : Nat) (hn : n ≤ 100000) (hB : B ≤ w.heap.size) : OwnF (w.alloc (.cells (madeCells #[.float .f64 0] n) 24)) B (.slice (some ⟨w.heap.size, 0, none⟩) n n) (List.replicate n 0) := by
  have hs : (madeCells #[.float .f64 0] n).toList.length = n := by rw [made_zeros, FL_len, List.length_replicate]
  unfold OwnF
  rw [List.length_replicate]
  refine ⟨by rw [FL_len, List.length_replicate, Nat.mul_one], .inr ⟨w.heap.size, n, _, rfl, hB, heap_alloc_new w _, Nat.le_refl _, by unfold maxLen; omega, by rw [← Array.length_toList, hs, Nat.mul_one], ?_⟩⟩
  rw [made_zeros, List.take_of_length_le (by rw [FL_len, List.length_replicate]; omega)]
/-- The first j are one. -/
def Ones (n j : Nat) (x : List Nat) : Prop := x.length = n ∧ ∀ q, q < j → nthF x q = oneF
theorem Ones.next {n j : Nat} {x : List Nat} (h : Ones n j x) (hj : j < n) : Ones n (j + 1) (x.set j oneF) := by
  refine ⟨by rw [List.length_set]; exact h.1, fun q hq => ?_⟩
  rw [nthF_set _ _ _ _ (by rw [h.1]; exact hj)]
  by_cases e : q = j
  · rw [if_pos e]
  · rw [if_neg e]; exact h.2 q (by omega)
theorem Ones.done {n : Nat} {x : List Nat} (h : Ones n n x) : EqL (growX [] (n : Int)) x := by
  have hl : (growX [] (n : Int)).length = n := by have := growX_len [] (n : Int); simp at this; omega
  refine ⟨by rw [hl, h.1], fun j hj => ?_⟩
  rw [hl] at hj
  rw [h.2 j hj]
  unfold growX
  rw [List.nil_append, nthF_rep _ _ _ (by simp; omega)]
  exact Eqv.refl _
theorem own_emptyN (w : World) : OwnN (w.alloc (.cells #[] 3)) w.heap.size (.slice (some ⟨w.heap.size, 0, none⟩) 0 0) [] := World.ownsRow_made w #[] 0 (Nat.le_refl _) (by simp [maxLen]) rfl
theorem own_takenN {w1 w2 : World} {v2 : Value} {l : List Int} {k : Nat} (hO2 : OwnN w2 w1.heap.size v2 ([] ++ l)) (hg2 : (w1.alloc (.cells #[] 3)).grownBy w2 (some w1.heap.size)) (hk : l.length = k) :
    ∃ A2 c2, v2 = .slice A2 k c2 ∧ Hid (SrcN w2 A2 l) ∧ w1.grownBy w2 none := by
  rw [List.nil_append] at hO2
  obtain ⟨A2, c2, rfl, h1, _⟩ := hO2.form
  have hs := hO2.src rfl
  subst hk
  exact ⟨A2, c2, rfl, Lib.hid hs, own_same hg2⟩
theorem srcN_take {w : World} {A : Option Addr} {l : List Int} (h : SrcN w A l) (k : Nat) : SrcN w A (l.take k) := by
  rcases h with rfl | ⟨ad, rfl, h1, h2⟩
  · exact .inl (by simp)
  · refine .inr ⟨ad, rfl, h1, fun j hj => ?_⟩
    rw [List.length_take] at hj
    rw [h2 j (by omega)]
    unfold nthN
    rw [List.getD_eq_getElem?_getD, List.getD_eq_getElem?_getD, List.getElem?_take, if_pos (by omega)]
theorem ofX_lt {W0 W : World} {b K : Nat} {vx : Value} {X x : List Nat} {B : Option (Nat × Obj)} {j : Int} (h : TR W0 W b K vx X x B) : ofX X j < 18446744073709551616 := by
  unfold ofX
  cases hj : isIn j X.length
  · rw [if_neg (by decide)]; decide
  · obtain ⟨q, rfl, hq⟩ := isIn_nat hj
    rw [if_pos rfl, Int.toNat_natCast]
    obtain ⟨Q, ⟨v1, m, v3, R, f, Bm, _, _, _, _, h5, _⟩, _⟩ := h
    exact h5.sml _ (nthF_mem hq)
def sliceLen' : Value → Nat
  | .slice _ n _ => n
  | _ => 0
theorem push_one {W0 W w6 : World} {b K n n' q c : Nat} {A : Option Addr} {v6 : Value} {X x : List Nat} (hn : x.length = n) (hnq : n' = n + q) (hT : TR W0 W b K (.slice A n' c) X (x ++ List.replicate q oneF) none)
    (hO : OwnF w6 W0.heap.size v6 (x ++ List.replicate q oneF ++ [4607182418800017408])) (hg : (W.alloc (.cells #[.float .f64 4607182418800017408] 24)).grownBy w6 (Value.slice A n' c).ownBlock) (hb : v6.ownBlock = (Value.slice A n' c).ownBlock ∨ v6.ownBlock = some (W.alloc (.cells #[.float .f64 4607182418800017408] 24)).heap.size) :
    ∃ A6 c6, v6 = .slice A6 (n' + 1) c6 ∧ Hid (TR W0 w6 b K (.slice A6 (n' + 1) c6) X (x ++ List.replicate (q + 1) oneF) none) := by
  have e : x ++ List.replicate q oneF ++ [4607182418800017408] = x ++ List.replicate (q + 1) oneF := by
    rw [List.append_assoc, show List.replicate q oneF ++ [4607182418800017408] = List.replicate (q + 1) oneF from by rw [List.replicate_succ']; rfl]
  rw [e] at hO
  have hT2 := (hT.grown (World.grownBy_alloc W _ none)).push hO hg hb
  obtain ⟨A6, c6, rfl, _⟩ := hO.form
  have hl : (x ++ List.replicate (q + 1) oneF).length = n' + 1 := by simp; omega
  rw [hl] at hT2 ⊢
  exact ⟨A6, c6, rfl, Lib.hid hT2⟩
set_option maxRecDepth 100000 in
set_option maxHeartbeats 8000000 in
theorem weights_walk (a na ca : Nat) (Aa : Option Addr) (Al : Option Addr) (nl cl : Nat) (l : List Int) (w : World) (ha : a ≤ 255) (hA : InA w Aa na ca) (hI : InI w Al nl cl l) : Calls Try.prog 5 #[.int .u8 (a : Int), .slice Aa na ca, .slice Al nl cl] w fun e w' => e = .returned (.bool true) ∧ Below w.heap.size w w' := by
  have hsf := run_store_float Try.prog
  obtain ⟨k, hk⟩ : ∃ k, a % 12 = k := ⟨_, rfl⟩
  have hk12 : k < 12 := by omega
  have hrem : (a : Int) % 12 = (k : Int) := by omega
  have HAA := Lib.hid awake_any
  have HNN := Lib.hid wnew_any
  have HMF := Lib.hid (madeF k (by omega))
  have hmf := madeF k (by omega)
  have HA := Lib.hid hA
  have HI := Lib.hid hI
  have hna : (na : Int) ≤ 9223372036854775807 := by have := hA.1; have := hA.2.1; unfold maxLen at *; omega
  clear hA hI hk
  go_enter Try.func5, Try.ntmps5
  go_upto_block 0 with (first
    | (go_at_call 9; refine (HAA.out _).mono ?_; rintro e w1 ⟨rfl, hg1⟩; have G1 := Lib.hid hg1; clear hg1)
    | (go_at_call 18; refine (HNN.out _ _).mono ?_; rintro e w2 ⟨rfl, hw2, hg2⟩; have W2 := Lib.hid hw2; have G2 := Lib.hid hg2; clear hw2 hg2)
    | fail)
  have T0 : Hid (TR w (w2.alloc (.cells (madeCells #[.float .f64 0] k) 24)) (w1.heap.size + 1) 1 (.slice (some ⟨w2.heap.size, 0, none⟩) k k) (growX [] (k : Int)) (List.replicate k 0) none) := Lib.hid
    (TR.start W2.out (fun q hq => by have := G1.out.size; omega) ((below_of_grown (G1.out.trans G2.out))) (World.grownBy_alloc w2 _ none) (made_own w2 k _ (by omega) (Nat.le_refl _)))
  generalize w1.heap.size + 1 = b at *
  clear hmf HMF hrem W2 G2 HNN HAA
  generalize w2.alloc (.cells (madeCells #[.float .f64 0] k) 24) = w3 at *
  generalize w2.heap.size = g0 at *
  clear G1
  go_cut [9, 10, 32] from 33 to 38 (fun v9 _ _ wc => v9 = .slice (some ⟨g0, 0, none⟩) k k ∧ ∃ x, Hid (TR w wc b 1 (.slice (some ⟨g0, 0, none⟩) k k) (growX [] (k : Int)) x none ∧ Ones k k x))
  case first =>
    --[fill
    go_wp2_with fail
    go_loopw [32] (fun i wr => ∃ (j : Nat) (x : List Nat), j ≤ k ∧ i = .int .i64 (j : Int) ∧ TR w wr b 1 (.slice (some ⟨g0, 0, none⟩) k k) (growX [] (k : Int)) x none ∧ Ones k j x) (fun i _ => k - (intOf i).toNat)
    case atStart => exact ⟨0, _, Nat.zero_le _, rfl, T0.out, by simp, fun q hq => by omega⟩
    case round =>
      obtain ⟨j, x, hj, rfl, hT, hO⟩ := hrel
      by_cases hlt : j < k
      · have ho := hT.own
        rw [← hO.1] at ho
        have d0 := ho.cell j (by rw [hO.1]; exact hlt)
        have f0 := ho.frozen j
        have TN := Lib.hid (hT.setx hO.1 j oneF)
        have ON := Lib.hid (hO.next hlt)
        clear hT hO ho
        go_wp2_with fail
        go_roundw
        case rel => exact ⟨j + 1, _, by omega, by go_num, TN.out, ON.out⟩
        case measure => simp [intOf]; omega
      · have : j = k := by omega
        subst this
        have TN := Lib.hid (And.intro hT hO)
        clear hT hO
        go_wp2_with fail
        go_meet
        case rel => exact ⟨rfl, _, TN⟩
    --]
  obtain ⟨rfl, x0, TX⟩ := hcut
  have hX0 : (growX [] (k : Int)).length = k := by have := growX_len [] (k : Int); simp at this; omega
  have START : Hid (∃ X x : List Nat, TR w wc b 1 (.slice (some ⟨g0, 0, none⟩) k k) X x none ∧ EqL X x ∧ X.length ≤ 30 ∧ x.length = k) := Lib.hid ⟨_, x0, TX.out.1, TX.out.2.done, by omega, TX.out.2.1⟩
  clear TX T0 hX0
  go_upto_block 2 with fail
  go_cut [9, 11, 12, 13, 14, 15, 41] from 42 to 124 (fun v9 _ _ _ _ _ _ wc => ∃ (A : Option Addr) (n c : Nat), v9 = .slice A n c ∧ Hid (∃ X x : List Nat, TR w wc b 60 (.slice A n c) X x none ∧ EqL X x ∧ X.length ≤ 30 ∧ x.length = n))
  case first =>
    --[acts
    go_wp2_with fail
    go_loopw [9, 41] (fun v9 i wr => ∃ (j : Nat) (A : Option Addr) (n c : Nat) (X x : List Nat), j ≤ na ∧ j ≤ 40 ∧ i = .int .i64 (j : Int) ∧ v9 = .slice A n c ∧ TR w wr b (j + 1) (.slice A n c) X x none ∧ EqL X x ∧ X.length ≤ 30 ∧ x.length = n) (fun _ i _ => 41 - (intOf i).toNat)
    case atStart =>
      obtain ⟨X, x, h1, h2, h3, h4⟩ := START.out
      exact ⟨0, _, _, _, X, x, Nat.zero_le _, by omega, rfl, rfl, h1, h2, h3, h4⟩
    case round =>
      obtain ⟨j, A, n, c, X, x, hja, hj40, rfl, rfl, hT, hE, hX, hn⟩ := hrel
      obtain ⟨wa, ewa⟩ : ∃ W, W = wr := ⟨wr, rfl⟩
      subst ewa
      have HT := Lib.hid hT
      have HE := Lib.hid hE
      have HX := Lib.hid hX
      have HN := Lib.hid hn
      have hn30 : n ≤ 30 := by have := hE.len; omega
      by_cases hlt : j < na
      · obtain ⟨p, d, y, z, rfl, hp, a0, a1, a2, hd, hy, hz⟩ := HA.out.2.2 j hlt
        have ab : ∀ {q : Addr} {v : Value}, q.block < w.heap.size → w.cell? q = some v → wa.cell? q = some v := fun hq hc => (HT.out.below.cell hq).trans hc
        have b0 := ab (by rw [add_block]; exact hp) a0
        have b1 := ab (by show (p.add (j * 3)).block < _; rw [add_block]; exact hp) a1
        have b2 := ab (by show (p.add (j * 3)).block < _; rw [add_block]; exact hp) a2
        clear hT hE hX hn a0 a1 a2 ab
        by_cases h40 : j < 40
        · have i40 : ¬ (40 : Int) ≤ (j : Int) := by omega
          have T4 := Lib.hid (HT.out.withbox #[.int .u8 d, .int .i64 y, .float .f64 z] 38)
          have r4 := heap_alloc_new wa (.cells #[.int .u8 d, .int .i64 y, .float .f64 z] 38)
          have k0 : (wa.alloc (.cells #[.int .u8 d, .int .i64 y, .float .f64 z] 38)).cell? ⟨wa.heap.size, 0, none⟩ = some (.int .u8 d) := by rw [cell_of_row _ _ _ _ _ _ r4]; rfl
          have k1 : (wa.alloc (.cells #[.int .u8 d, .int .i64 y, .float .f64 z] 38)).cell? ⟨wa.heap.size, 1, none⟩ = some (.int .i64 y) := by rw [cell_of_row _ _ _ _ _ _ r4]; rfl
          have k2 : (wa.alloc (.cells #[.int .u8 d, .int .i64 y, .float .f64 z] 38)).cell? ⟨wa.heap.size, 2, none⟩ = some (.float .f64 z) := by rw [cell_of_row _ _ _ _ _ _ r4]; rfl
          clear r4
          go_upto_region 15 with fail
          generalize wa.alloc (.cells #[.int .u8 d, .int .i64 y, .float .f64 z] 38) = w4 at *
          generalize wa.heap.size = bx at *
          clear HT b0 b1 b2
          obtain ⟨r, hr, hr4⟩ : ∃ r : Int, d % 4 = r ∧ 0 ≤ r ∧ r < 4 := ⟨_, rfl, by omega, by omega⟩
          have hz9 := Lib.hid hz
          have hy9 := Lib.hid hy
          have hK9 : j + 1 ≤ 90000 := by omega
          by_cases h2 : r = 2
          · subst h2
            --[decay
            have CD := Lib.hid (tr_decay z T4.out hK9)
            clear T4 hr4 hz hy
            go_wp2_with (go_at_call 19; refine CD.out.mono ?_; rintro e w5 ⟨rfl, X', hl', hf', hT5⟩; have HL' := Lib.hid hl'; have HF' := Lib.hid hf'; have T5 := Lib.hid hT5; clear hl' hf' hT5)
            go_loopw [97] (fun i wr => ∃ (q : Nat) (x' : List Nat), q ≤ n ∧ i = .int .i64 (q : Int) ∧ DecB x x' q z ∧ TR w wr b (j + 1) (.slice A n c) X' x' (some (bx, .cells #[.int .u8 d, .int .i64 y, .float .f64 z] 38 (0, 0)))) (fun i _ => n - (intOf i).toNat)
            case atStart => exact ⟨0, x, Nat.zero_le _, rfl, DecB.zero x z, T5.out⟩
            case round =>
              obtain ⟨q, x', hq, rfl, hDB, hT⟩ := hrel
              have HDB := Lib.hid hDB
              by_cases hqn : q < n
              · have hlen : x'.length = n := by rw [hDB.1]; exact HN.out
                have HLEN := Lib.hid hlen
                obtain ⟨g, c', e', -, -, hgl⟩ := ownF_some hT.own hlen (by omega)
                injection e' with e1 _ e2
                subst e1
                subst e2
                have hOw := hT.own
                rw [← hlen] at hOw
                have cb : wr.cell? ⟨bx, 2, none⟩ = some (.float .f64 z) := by rw [cell_of_row _ _ _ _ _ _ hT.box]; rfl
                have d5' := hOw.cell q (by omega)
                have fz5' := hOw.frozen q
                obtain ⟨v, hv⟩ : ∃ v, nthF x' q = v := ⟨_, rfl⟩
                have hv2 : nthF x q = v := by rw [← hv, (hDB.2 q (by rw [HN.out]; exact hqn)).2 (Nat.le_refl _)]
                rw [hv] at d5'
                have HV2 := Lib.hid hv2
                obtain ⟨ff, fd, hfd⟩ := float_run .mul rfl 24 v z
                have f1 := fun W => (hfd W).1
                have F2 : Hid (∀ W, FR .mul v z (ff W)) := Lib.hid fun W => (hfd W).2
                have hgb : g ≠ bx := by obtain ⟨Q, _, _, _, _, _, _, _, h⟩ := hT; exact fun e => h (by rw [e]; rfl)
                have T5b := Lib.hid (hT.grown (grown_drewN (grown_refl wr) 1))
                clear hDB hOw hlen hv hv2 hfd hT k0 k1 k2 T5
                go_upto_region 31 with fail
                refine wp_region_noPanic ?_
                refine wp_region_held_drew (S := fun W => W.cell? ⟨bx, 2, none⟩ = some (.float .f64 z)) (by kernel_rfl) cb (fun hHeld => ?_)
                have d5 : wr.drew.cell? ⟨g, q, none⟩ = some (.float .f64 v) := d5'
                have fz5 : wr.drew.frozen? ⟨g, q, none⟩ = false := fz5'
                have T5 : Hid (TR w wr.drew b (j + 1) (.slice (some ⟨g, 0, none⟩) n c) X' x' (some (bx, .cells #[.int .u8 d, .int .i64 y, .float .f64 z] 38 (0, 0)))) := Lib.hid T5b.out
                have DRW : Hid (∀ {W : World} (m : Nat), W.cell? ⟨bx, 2, none⟩ = some (.float .f64 z) → (W.drewN m).cell? ⟨bx, 2, none⟩ = some (.float .f64 z)) := Lib.hid fun m h => h
                have CELL7 : ∀ {W W' : World}, W.cell? ⟨bx, 2, none⟩ = some (.float .f64 z) → W.grownBy W' (some g) → W'.cell? ⟨bx, 2, none⟩ = some (.float .f64 z) := fun hc hgg => (World.cell?_of_block (a := ⟨bx, 2, none⟩) (hgg.block bx (World.block_lt_of_cell? _ _ hc) (by simp; omega))).trans hc
                clear cb d5' fz5' T5b
                generalize wr.drew = w5 at *
                refine wpAnyH_take (i := 0) (v := ?v1) rfl (by kernel_rfl) (by kernel_rfl) (by kernel_rfl) (fun _ _ _ h => h) (Or.inl ⟨by rfl, ?y1⟩) (by assumption) ?r1
                case y1 => ((intro w hSw; (try dsimp only at hSw); go_simp); try with_reducible rfl)
                try simp only [Act.put, List.getElem_toArray, List.getElem_cons_zero, List.setIfInBounds_toArray, List.set_cons_zero, List.set_cons_succ]
                refine wpAnyH_take (i := 1) (v := ?v2) rfl (by kernel_rfl) (by kernel_rfl) (by kernel_rfl) (fun _ _ _ h => h) (Or.inl ⟨by rfl, ?y2⟩) (by assumption) ?r2
                case y2 => ((intro w hSw; (try dsimp only at hSw); go_simp); try with_reducible rfl)
                try simp only [Act.put, List.getElem_toArray, List.getElem_cons_succ, List.getElem_cons_zero, List.setIfInBounds_toArray, List.set_cons_zero, List.set_cons_succ]
                refine wpAnyH_take (i := 2) (v := ?v3) rfl (by kernel_rfl) (by kernel_rfl) (by kernel_rfl) (fun _ _ _ h => h) (Or.inl ⟨by rfl, ?y3⟩) (by assumption) ?r3
                case y3 => ((intro w hSw; (try dsimp only at hSw); go_simp); try with_reducible rfl)
                try simp only [Act.put, List.getElem_toArray, List.getElem_cons_succ, List.getElem_cons_zero, List.setIfInBounds_toArray, List.set_cons_zero, List.set_cons_succ]
                refine wpAnyH_take (i := 4) (v := ?v4) rfl (by kernel_rfl) (by kernel_rfl) (by kernel_rfl) (fun _ _ _ h => h) (Or.inl ⟨by rfl, ?y4⟩) (by assumption) ?r4
                case y4 => ((intro w hSw; (try dsimp only at hSw); go_simp); try with_reducible rfl)
                try simp only [Act.put, List.getElem_toArray, List.getElem_cons_succ, List.getElem_cons_zero, List.setIfInBounds_toArray, List.set_cons_zero, List.set_cons_succ]
                refine wpAnyH_take (i := 5) (v := ?v5) rfl (by kernel_rfl) (by kernel_rfl) (by kernel_rfl) (fun _ _ _ h => h) (Or.inl ⟨by rfl, ?y5⟩) (by assumption) ?r5
                case y5 => ((intro w hSw; (try dsimp only at hSw); go_simp); try with_reducible rfl)
                try simp only [Act.put, List.getElem_toArray, List.getElem_cons_succ, List.getElem_cons_zero, List.setIfInBounds_toArray, List.set_cons_zero, List.set_cons_succ]
                refine wpAnyH_ready (rs := [3]) (by kernel_rfl) (by simp) ?_
                refine AllReadyH.cons rfl (fun K hK => ?_) ?_
                · go_simp
                  refine hK.out _ _ hHeld (fun hHeld' => ?_)
                  clear hHeld'
                  clear hK K
                  try simp only [Act.put, List.getElem_toArray, List.getElem_cons_succ, List.getElem_cons_zero, List.setIfInBounds_toArray, List.set_cons_zero, List.set_cons_succ]
                  refine wpAnyH_ready (rs := [6]) (by kernel_rfl) (by simp) ?_
                  refine AllReadyH.cons rfl (fun K hK => ?_) ?_
                  · go_simp
                    refine hK.out _ _ (DRW.out (fd w5) hHeld) (fun hHeld' => ?_)
                    clear hHeld
                    have hHeld := hHeld'
                    clear hHeld'
                    have FRX := Lib.hid (F2.out w5)
                    have D6 : (w5.drewN (fd w5)).cell? ⟨g, q, none⟩ = some (.float .f64 v) := d5
                    have FZ6 : (w5.drewN (fd w5)).frozen? ⟨g, q, none⟩ = false := fz5
                    have T6 := Lib.hid (T5.out.grown (grown_drewN (grown_refl w5) (fd w5)))
                    clear d5 fz5 f1 F2 T5 DRW
                    generalize w5.drewN (fd w5) = w6 at *
                    generalize ff w5 = u at *
                    clear hK K
                    try simp only [Act.put, List.getElem_toArray, List.getElem_cons_succ, List.getElem_cons_zero, List.setIfInBounds_toArray, List.set_cons_zero, List.set_cons_succ]
                    refine wpAnyH_take (i := 7) (v := ?v6) rfl (by kernel_rfl) (by kernel_rfl) (by kernel_rfl) (fun _ _ _ h => h) (Or.inl ⟨by rfl, ?y6⟩) (by assumption) ?r6
                    case y6 => ((intro w hSw; (try dsimp only at hSw); go_simp); try with_reducible rfl)
                    try simp only [Act.put, List.getElem_toArray, List.getElem_cons_succ, List.getElem_cons_zero, List.setIfInBounds_toArray, List.set_cons_zero, List.set_cons_succ]
                    refine wpAnyH_ready (rs := [8]) (by kernel_rfl) (by simp) ?_
                    refine AllReadyH.cons rfl (fun K hK => ?_) ?_
                    · go_simp
                      have gr7 := grown_set w6 g q (.float .f64 u)
                      refine hK.out _ _ (CELL7 hHeld gr7) (fun hHeld' => ?_)
                      clear hHeld hHeld' D6 FZ6 gr7
                      clear hK K
                      try simp only [Act.put, List.getElem_toArray, List.getElem_cons_succ, List.getElem_cons_zero, List.setIfInBounds_toArray, List.set_cons_zero, List.set_cons_succ]
                      refine wpAnyH_done (by kernel_rfl) ?_ _
                      refine NoPanic.normal ?_
                      have HDN := Lib.hid (HDB.out.next (by rw [HN.out]; exact hqn) (by rw [HV2.out]; exact FRX.out))
                      have TN := Lib.hid (T6.out.setx HLEN.out q u)
                      clear FRX T6 HDB HLEN HV2
                      go_wp2_with fail
                      go_roundw
                      case rel => exact ⟨q + 1, _, by omega, by go_num, HDN.out, TN.out⟩
                      case measure => simp [intOf]; omega
                    exact AllReadyH.nil
                  exact AllReadyH.nil
                exact AllReadyH.nil
              · have : q = n := by omega
                subst this
                have EN := Lib.hid (EqL.mul HE.out HL'.out HF'.out (by rw [HN.out]; exact hDB))
                have TN := Lib.hid (hT.nobox.more (show j + 1 ≤ j + 1 + 1 by omega))
                have HN' : Hid (x'.length = q) := Lib.hid (by rw [hDB.1]; exact HN.out)
                have HX' : Hid (X'.length ≤ 30) := Lib.hid (by rw [HL'.out]; exact HX.out)
                clear hDB hT k0 k1 k2 T5 HDB HL' HF'
                go_wp2_with fail
                go_roundw
                case rel => exact ⟨j + 1, _, _, _, X', x', by omega, by omega, by go_num, rfl, TN.out, EN.out, HX'.out, HN'.out⟩
                case measure => simp [intOf]; omega
            --]
          · by_cases h3 : r = 3
            · subst h3
              --[grow
              obtain ⟨mm, hmm, hm30⟩ : ∃ mm : Int, (if (30 : Int) < y then (30 : Int) else y) = mm ∧ mm ≤ 30 := ⟨_, rfl, by split <;> omega⟩
              have CG := Lib.hid (tr_grow mm T4.out hK9 (by have := HX.out; omega))
              have hmlo : -9223372036854775808 ≤ mm := by rw [← hmm]; split <;> omega
              clear T4 hr4 hz hy
              go_wp2_with (go_at_call 20; refine CG.out.mono ?_; rintro e w5 ⟨rfl, hT5⟩; have T5 := Lib.hid hT5; clear hT5)
              go_loopw [9] (fun v9 wr => ∃ (q : Nat) (A' : Option Addr) (n' c' : Nat), v9 = .slice A' n' c' ∧ n' = n + q ∧ (q = 0 ∨ (n' : Int) ≤ mm) ∧ TR w wr b (j + 1 + 1) (.slice A' n' c') (growX X mm) (x ++ List.replicate q oneF) none) (fun v9 _ => mm.toNat - sliceLen' v9)
              case atStart => exact ⟨0, A, n, c, rfl, rfl, .inl rfl, by simpa using T5.out.nobox⟩
              case round =>
                obtain ⟨q, A', n', c', rfl, hnq, hq, hT⟩ := hrel
                have HNQ := Lib.hid hnq
                have hn9 : n' ≤ 60 := by omega
                clear hnq
                by_cases hlt9 : (n' : Int) < mm
                · have TQ := Lib.hid hT
                  have OA := Lib.hid (hT.own.kept0 (World.grownBy_alloc wr (.cells #[.float .f64 4607182418800017408] 24) none))
                  have SX : Hid (SrcF (wr.alloc (.cells #[.float .f64 4607182418800017408] 24)) (some ⟨wr.heap.size, 0, none⟩) [4607182418800017408]) := by
                    apply Lib.hid
                    refine .inr ⟨_, rfl, by simp, fun j hj => ?_⟩
                    have : j = 0 := by simp at hj; omega
                    subst this
                    rw [add_zero_off, cell_of_row _ _ _ _ _ _ (heap_alloc_new wr _)]
                    rfl
                  have BSZ : Hid (w.heap.size ≤ (wr.alloc (.cells #[.float .f64 4607182418800017408] 24)).heap.size) := Lib.hid (by have := hT.below.size; simp; omega)
                  have LXX : Hid ((x ++ List.replicate q oneF).length ≤ 100000) := Lib.hid (by simp; have := HN.out; have := HNQ.out; omega)
                  clear hT hq k0 k1 k2
                  go_wp2_with (at_builtin; refine appF_own rfl (.tmp 121) (.tmp 122) rfl _ w.heap.size 1 1 _ (x ++ List.replicate q oneF) [4607182418800017408] (some ⟨wr.heap.size, 0, none⟩) rfl (by rfl) (by rfl) OA.out SX.out (by intro h; cases h) BSZ.out LXX.out (by omega) ?_; rintro v6 w6 hO6 hg6 hb6; obtain ⟨A6, c6, rfl, T6⟩ := push_one HN.out HNQ.out TQ.out hO6 hg6 hb6; clear hO6 hg6 hb6)
                  go_roundw
                  case rel => exact ⟨q + 1, A6, n' + 1, c6, rfl, by have := HNQ.out; omega, .inr (by omega), T6.out⟩
                  case measure => simp [sliceLen']; omega
                · have HQ : Hid (q = (mm - (X.length : Int)).toNat) := Lib.hid (by have := HNQ.out; have := HN.out; have := HE.out.len; omega)
                  have TN := Lib.hid hT
                  have EN : Hid (EqL (growX X mm) (x ++ List.replicate q oneF)) := Lib.hid (by rw [HQ.out]; exact HE.out.app _)
                  have HX' : Hid ((growX X mm).length ≤ 30) := Lib.hid (by have := growX_len X mm; have := HX.out; omega)
                  have HN' : Hid ((x ++ List.replicate q oneF).length = n') := Lib.hid (by simp; have := HN.out; have := HNQ.out; omega)
                  clear hT hq HQ k0 k1 k2 HNQ
                  go_wp2_with fail
                  go_roundw
                  case rel => exact ⟨j + 1, _, _, _, growX X mm, x ++ List.replicate q oneF, by omega, by omega, by go_num, rfl, TN.out, EN.out, HX'.out, HN'.out⟩
                  case measure => simp [intOf]; omega
              --]
            · have r2 : (r == 2) = false := by simpa using h2
              have r3 : (r == 3) = false := by simpa using h3
              have CB := Lib.hid (tr_bump y z T4.out hK9 (by have := HX.out; omega))
              have nz := ne_self z
              have HO4 := Lib.hid T4.out.own
              clear T4 h2 h3
              cases hnz : nan z
              · rw [hnz] at nz
                cases hin : isIn y X.length
                · have CB2 : Hid (Calls Try.prog 21 #[.pointer (some ⟨b, 0, none⟩), .int .i64 y, .float .f64 z] w4 fun e w' => e = .returned (.int .i64 3) ∧ TR w w' b (j + 1 + 1) (.slice A n c) X x (some (bx, .cells #[.int .u8 d, .int .i64 y, .float .f64 z] 38 (0, 0)))) := Lib.hid (CB.out.mono fun e w' h => by
                    rcases h with ⟨h, _⟩ | ⟨_, _, h1, h2⟩ | ⟨_, q, _, e1, h, _⟩
                    · rw [hnz] at h; cases h
                    · exact ⟨h1, h2⟩
                    · rw [e1, isIn_of h] at hin; cases hin)
                  have hout : y < 0 ∨ (0 ≤ y ∧ (n : Int) ≤ y) := by
                    have hl := HE.out.len
                    have := HN.out
                    simp [isIn] at hin
                    omega
                  clear CB hnz hin
                  --[bump1
                  rcases hout with h | ⟨h, hh⟩
                  · go_wp2_with (go_at_call 21; refine CB2.out.mono ?_; rintro e w5 ⟨rfl, hT5⟩; have T5 := Lib.hid hT5; have q0 : w5.cell? ⟨bx, 1, none⟩ = some (.int .i64 y) := (by rw [cell_of_row _ _ _ _ _ _ hT5.box]; rfl); have q1 : w5.cell? ⟨bx, 2, none⟩ = some (.float .f64 z) := (by rw [cell_of_row _ _ _ _ _ _ hT5.box]; rfl); clear hT5)
                    go_roundw
                    case rel => exact ⟨j + 1, _, _, _, X, x, by omega, by omega, by go_num, rfl, T5.out.nobox, HE.out, HX.out, HN.out⟩
                    case measure => simp [intOf]; omega
                  · go_wp2_with (go_at_call 21; refine CB2.out.mono ?_; rintro e w5 ⟨rfl, hT5⟩; have T5 := Lib.hid hT5; have q0 : w5.cell? ⟨bx, 1, none⟩ = some (.int .i64 y) := (by rw [cell_of_row _ _ _ _ _ _ hT5.box]; rfl); have q1 : w5.cell? ⟨bx, 2, none⟩ = some (.float .f64 z) := (by rw [cell_of_row _ _ _ _ _ _ hT5.box]; rfl); clear hT5)
                    go_roundw
                    case rel => exact ⟨j + 1, _, _, _, X, x, by omega, by omega, by go_num, rfl, T5.out.nobox, HE.out, HX.out, HN.out⟩
                    case measure => simp [intOf]; omega
                  --]
                · obtain ⟨q, rfl, hq⟩ := isIn_nat hin
                  --[bump2
                  have CB2 : Hid (Calls Try.prog 21 #[.pointer (some ⟨b, 0, none⟩), .int .i64 (q : Int), .float .f64 z] w4 fun e w' => e = .returned (.int .i64 0) ∧ ∃ s, FR .add (nthF X q) z s ∧ TR w w' b (j + 1 + 1) (.slice A n c) (X.set q s) x (some (bx, .cells #[.int .u8 d, .int .i64 (q : Int), .float .f64 z] 38 (0, 0)))) := Lib.hid (CB.out.mono fun e w' h => by
                    rcases h with ⟨h, _⟩ | ⟨_, h, _⟩ | ⟨_, q', s, e1, h, h1, h2, h3⟩
                    · rw [hnz] at h; cases h
                    · rw [hin] at h; cases h
                    · have : q' = q := by omega
                      subst this
                      exact ⟨h2, s, h1, h3⟩)
                  have hqn : q < n := by have := HE.out.len; have := HN.out; omega
                  obtain ⟨g, c', e', -, -, -⟩ := ownF_some HO4.out HN.out (by omega)
                  injection e' with e1 _ e2
                  subst e1
                  subst e2
                  obtain ⟨v, hv⟩ : ∃ v, nthF x q = v := ⟨_, rfl⟩
                  have HV := Lib.hid hv
                  have HQX := Lib.hid hq
                  obtain ⟨ff, fd, hfd⟩ := float_run .add rfl 24 v z
                  have f1 := fun W => (hfd W).1
                  have F2 : Hid (∀ W, FR .add v z (ff W)) := Lib.hid fun W => (hfd W).2
                  have OWN5 : Hid (∀ {W : World} {X' : List Nat} {B : Option (Nat × Obj)}, TR w W b (j + 1 + 1) (.slice (some ⟨g, 0, none⟩) n c) X' x B → W.cell? ⟨g, q, none⟩ = some (.float .f64 v) ∧ W.frozen? ⟨g, q, none⟩ = false) := Lib.hid fun h => by
                    have ho := h.own
                    rw [← HN.out] at ho
                    rw [← HV.out]
                    exact ⟨ho.cell q (by rw [HN.out]; exact hqn), ho.frozen q⟩
                  clear CB hnz hin hq hv hfd HO4
                  go_upto_region 17 with (go_at_call 21; refine CB2.out.mono ?_; rintro e w5 ⟨rfl, s, hs, hT5⟩; have T5a := Lib.hid hT5; have HS := Lib.hid hs; have q0 : w5.cell? ⟨bx, 1, none⟩ = some (.int .i64 (q : Int)) := (by rw [cell_of_row _ _ _ _ _ _ hT5.box]; rfl); have q1 : w5.cell? ⟨bx, 2, none⟩ = some (.float .f64 z) := (by rw [cell_of_row _ _ _ _ _ _ hT5.box]; rfl); have d5' := (OWN5.out hT5).1; have fz5' := (OWN5.out hT5).2; have hgb : g ≠ bx := (by obtain ⟨Q, _, _, _, _, _, _, _, h⟩ := hT5; exact fun e => h (by rw [e]; rfl)); have T5b := Lib.hid (hT5.grown (grown_drewN (grown_refl w5) 1)); clear hT5 hs)
                  refine wp_region_noPanic ?_
                  refine wp_region_held_drew (S := fun W => W.cell? ⟨bx, 1, none⟩ = some (.int .i64 (q : Int)) ∧ W.cell? ⟨bx, 2, none⟩ = some (.float .f64 z)) (by kernel_rfl) ⟨q0, q1⟩ (fun hHeld => ?_)
                  have d5 : w5.drew.cell? ⟨g, q, none⟩ = some (.float .f64 v) := d5'
                  have fz5 : w5.drew.frozen? ⟨g, q, none⟩ = false := fz5'
                  have T5 : Hid (TR w w5.drew b (j + 1 + 1) (.slice (some ⟨g, 0, none⟩) n c) (X.set q s) x (some (bx, .cells #[.int .u8 d, .int .i64 (q : Int), .float .f64 z] 38 (0, 0)))) := Lib.hid T5b.out
                  have DRW : Hid (∀ {W : World} (m : Nat), (W.cell? ⟨bx, 1, none⟩ = some (.int .i64 (q : Int)) ∧ W.cell? ⟨bx, 2, none⟩ = some (.float .f64 z)) → ((W.drewN m).cell? ⟨bx, 1, none⟩ = some (.int .i64 (q : Int)) ∧ (W.drewN m).cell? ⟨bx, 2, none⟩ = some (.float .f64 z))) := Lib.hid fun m h => h
                  have CELL7 : ∀ {W W' : World}, (W.cell? ⟨bx, 1, none⟩ = some (.int .i64 (q : Int)) ∧ W.cell? ⟨bx, 2, none⟩ = some (.float .f64 z)) → W.grownBy W' (some g) → (W'.cell? ⟨bx, 1, none⟩ = some (.int .i64 (q : Int)) ∧ W'.cell? ⟨bx, 2, none⟩ = some (.float .f64 z)) := fun hc hgg => ⟨(World.cell?_of_block (a := ⟨bx, 1, none⟩) (hgg.block bx (World.block_lt_of_cell? _ _ hc.1) (by simp; omega))).trans hc.1, (World.cell?_of_block (a := ⟨bx, 2, none⟩) (hgg.block bx (World.block_lt_of_cell? _ _ hc.2) (by simp; omega))).trans hc.2⟩
                  clear q0 q1 d5' fz5' T5b T5a CB2 OWN5
                  generalize w5.drew = w5 at *
                  refine wpAnyH_take (i := 0) (v := ?v101) rfl (by kernel_rfl) (by kernel_rfl) (by kernel_rfl) (fun _ _ _ h => h) (Or.inl ⟨by rfl, ?y101⟩) (by assumption) ?r101
                  case y101 => ((intro w hSw; (try dsimp only at hSw); go_simp); try with_reducible rfl)
                  try simp only [Act.put, List.getElem_toArray, List.getElem_cons_zero, List.setIfInBounds_toArray, List.set_cons_zero, List.set_cons_succ]
                  refine wpAnyH_take (i := 1) (v := ?v102) rfl (by kernel_rfl) (by kernel_rfl) (by kernel_rfl) (fun _ _ _ h => h) (Or.inl ⟨by rfl, ?y102⟩) (by assumption) ?r102
                  case y102 => ((intro w hSw; (try dsimp only at hSw); go_simp); try with_reducible rfl)
                  try simp only [Act.put, List.getElem_toArray, List.getElem_cons_succ, List.getElem_cons_zero, List.setIfInBounds_toArray, List.set_cons_zero, List.set_cons_succ]
                  refine wpAnyH_take (i := 2) (v := ?v103) rfl (by kernel_rfl) (by kernel_rfl) (by kernel_rfl) (fun _ _ _ h => h) (Or.inl ⟨by rfl, ?y103⟩) (by assumption) ?r103
                  case y103 => ((intro w hSw; (try dsimp only at hSw); go_simp); try with_reducible rfl)
                  try simp only [Act.put, List.getElem_toArray, List.getElem_cons_succ, List.getElem_cons_zero, List.setIfInBounds_toArray, List.set_cons_zero, List.set_cons_succ]
                  refine wpAnyH_take (i := 3) (v := ?v104) rfl (by kernel_rfl) (by kernel_rfl) (by kernel_rfl) (fun _ _ _ h => h) (Or.inl ⟨by rfl, ?y104⟩) (by assumption) ?r104
                  case y104 => ((intro w hSw; (try dsimp only at hSw); go_simp); try with_reducible rfl)
                  try simp only [Act.put, List.getElem_toArray, List.getElem_cons_succ, List.getElem_cons_zero, List.setIfInBounds_toArray, List.set_cons_zero, List.set_cons_succ]
                  refine wpAnyH_take (i := 5) (v := ?v105) rfl (by kernel_rfl) (by kernel_rfl) (by kernel_rfl) (fun _ _ _ h => h) (Or.inl ⟨by rfl, ?y105⟩) (by assumption) ?r105
                  case y105 => ((intro w hSw; (try dsimp only at hSw); go_simp); try with_reducible rfl)
                  try simp only [Act.put, List.getElem_toArray, List.getElem_cons_succ, List.getElem_cons_zero, List.setIfInBounds_toArray, List.set_cons_zero, List.set_cons_succ]
                  refine wpAnyH_take (i := 6) (v := ?v106) rfl (by kernel_rfl) (by kernel_rfl) (by kernel_rfl) (fun _ _ _ h => h) (Or.inl ⟨by rfl, ?y106⟩) (by assumption) ?r106
                  case y106 => ((intro w hSw; (try dsimp only at hSw); go_simp); try with_reducible rfl)
                  try simp only [Act.put, List.getElem_toArray, List.getElem_cons_succ, List.getElem_cons_zero, List.setIfInBounds_toArray, List.set_cons_zero, List.set_cons_succ]
                  refine wpAnyH_ready (rs := [4]) (by kernel_rfl) (by simp) ?_
                  refine AllReadyH.cons rfl (fun K hK => ?_) ?_
                  · go_simp
                    refine hK.out _ _ hHeld (fun hHeld' => ?_)
                    clear hHeld'
                    clear hK K
                    try simp only [Act.put, List.getElem_toArray, List.getElem_cons_succ, List.getElem_cons_zero, List.setIfInBounds_toArray, List.set_cons_zero, List.set_cons_succ]
                    refine wpAnyH_ready (rs := [7]) (by kernel_rfl) (by simp) ?_
                    refine AllReadyH.cons rfl (fun K hK => ?_) ?_
                    · go_simp
                      refine hK.out _ _ (DRW.out (fd w5) hHeld) (fun hHeld' => ?_)
                      clear hHeld
                      have hHeld := hHeld'
                      clear hHeld'
                      have FRX := Lib.hid (F2.out w5)
                      have D6 : (w5.drewN (fd w5)).cell? ⟨g, q, none⟩ = some (.float .f64 v) := d5
                      have FZ6 : (w5.drewN (fd w5)).frozen? ⟨g, q, none⟩ = false := fz5
                      have T6 := Lib.hid (T5.out.grown (grown_drewN (grown_refl w5) (fd w5)))
                      clear d5 fz5 f1 F2 T5 DRW
                      generalize w5.drewN (fd w5) = w6 at *
                      generalize ff w5 = u at *
                      clear hK K
                      try simp only [Act.put, List.getElem_toArray, List.getElem_cons_succ, List.getElem_cons_zero, List.setIfInBounds_toArray, List.set_cons_zero, List.set_cons_succ]
                      refine wpAnyH_take (i := 8) (v := ?v107) rfl (by kernel_rfl) (by kernel_rfl) (by kernel_rfl) (fun _ _ _ h => h) (Or.inl ⟨by rfl, ?y107⟩) (by assumption) ?r107
                      case y107 => ((intro w hSw; (try dsimp only at hSw); go_simp); try with_reducible rfl)
                      try simp only [Act.put, List.getElem_toArray, List.getElem_cons_succ, List.getElem_cons_zero, List.setIfInBounds_toArray, List.set_cons_zero, List.set_cons_succ]
                      refine wpAnyH_ready (rs := [9]) (by kernel_rfl) (by simp) ?_
                      refine AllReadyH.cons rfl (fun K hK => ?_) ?_
                      · go_simp
                        have gr7 := grown_set w6 g q (.float .f64 u)
                        refine hK.out _ _ (CELL7 hHeld gr7) (fun hHeld' => ?_)
                        clear hHeld hHeld' D6 FZ6 gr7
                        clear hK K
                        try simp only [Act.put, List.getElem_toArray, List.getElem_cons_succ, List.getElem_cons_zero, List.setIfInBounds_toArray, List.set_cons_zero, List.set_cons_succ]
                        refine wpAnyH_done (by kernel_rfl) ?_ _
                        refine NoPanic.normal ?_
                        have EN := Lib.hid (HE.out.set HQX.out HS.out (by rw [HV.out]; exact FRX.out))
                        have TN := Lib.hid (T6.out.setx HN.out q u)
                        have HX' : Hid ((X.set q s).length ≤ 30) := Lib.hid (by rw [List.length_set]; exact HX.out)
                        have HN' : Hid ((x.set q u).length = n) := Lib.hid (by rw [List.length_set]; exact HN.out)
                        clear FRX T6
                        go_wp2_with fail
                        go_roundw
                        case rel => exact ⟨j + 1, _, _, _, X.set q s, x.set q u, by omega, by omega, by go_num, rfl, TN.out.nobox, EN.out, HX'.out, HN'.out⟩
                        case measure => simp [intOf]; omega
                      exact AllReadyH.nil
                    exact AllReadyH.nil
                  exact AllReadyH.nil
                  --]
              · rw [hnz] at nz
                have CB2 : Hid (Calls Try.prog 21 #[.pointer (some ⟨b, 0, none⟩), .int .i64 y, .float .f64 z] w4 fun e w' => e = .returned (.int .i64 1) ∧ TR w w' b (j + 1 + 1) (.slice A n c) X x (some (bx, .cells #[.int .u8 d, .int .i64 y, .float .f64 z] 38 (0, 0)))) := Lib.hid (CB.out.mono fun e w' h => by
                  rcases h with ⟨_, h1, h2⟩ | ⟨h, _⟩ | ⟨h, _⟩
                  · exact ⟨h1, h2⟩
                  · rw [hnz] at h; cases h
                  · rw [hnz] at h; cases h)
                clear CB hnz
                --[bump3
                go_wp2_with (go_at_call 21; refine CB2.out.mono ?_; rintro e w5 ⟨rfl, hT5⟩; have T5 := Lib.hid hT5; have q0 : w5.cell? ⟨bx, 1, none⟩ = some (.int .i64 y) := (by rw [cell_of_row _ _ _ _ _ _ hT5.box]; rfl); have q1 : w5.cell? ⟨bx, 2, none⟩ = some (.float .f64 z) := (by rw [cell_of_row _ _ _ _ _ _ hT5.box]; rfl); clear hT5)
                go_roundw
                case rel => exact ⟨j + 1, _, _, _, X, x, by omega, by omega, by go_num, rfl, T5.out.nobox, HE.out, HX.out, HN.out⟩
                case measure => simp [intOf]; omega
                --]
        · --[exit40
          have i40 : (40 : Int) ≤ (j : Int) := by omega
          have TN : Hid (∃ X x : List Nat, TR w (wa.alloc (.cells #[.int .u8 d, .int .i64 y, .float .f64 z] 38)) b 60 (.slice A n c) X x none ∧ EqL X x ∧ X.length ≤ 30 ∧ x.length = n) := Lib.hid ⟨X, x, (HT.out.grown (World.grownBy_alloc wa _ none)).more (by omega), HE.out, HX.out, HN.out⟩
          clear HT
          go_wp2_with fail
          go_meet
          case rel => exact ⟨_, _, _, rfl, TN⟩
          --]
      · --[exitn
        have TN : Hid (∃ X x : List Nat, TR w wa b 60 (.slice A n c) X x none ∧ EqL X x ∧ X.length ≤ 30 ∧ x.length = n) := Lib.hid ⟨X, x, HT.out.more (by omega), HE.out, HX.out, HN.out⟩
        clear HT hT
        go_wp2_with fail
        go_meet
        case rel => exact ⟨_, _, _, rfl, TN⟩
        --]
    --]
  obtain ⟨A9, n9, c9, rfl, TX⟩ := hcut
  obtain ⟨X, x, hT, hE, hX, hn⟩ := TX.out
  obtain ⟨wd, ewd⟩ : ∃ W, W = wc := ⟨wc, rfl⟩
  subst ewd
  obtain ⟨kk, hk1, hk2, hk3⟩ : ∃ kk : Nat, (if (20 : Int) < (nl : Int) then (20 : Int) else (nl : Int)) = (kk : Int) ∧ kk ≤ nl ∧ kk ≤ 20 := ⟨min nl 20, by split <;> omega, by omega, by omega⟩
  obtain ⟨i1, i2, i3, i4, i5, i6⟩ := HI.out
  have hkl : (l.take kk).length = kk := by rw [List.length_take]; omega
  have HKL := Lib.hid hkl
  have HSL := Lib.hid (srcN_take (i2.below (hT.below) (Nat.le_refl _)) kk)
  have HLB := Lib.hid i3
  have hn30 : n9 ≤ 30 := by have := hE.len; omega
  have HT := Lib.hid hT
  have HE := Lib.hid hE
  have HX := Lib.hid hX
  have HN := Lib.hid hn
  have hcl : (cl : Int) ≤ 9223372036854775807 := by unfold maxLen at i5; omega
  have hnlc : (nl : Int) ≤ (cl : Int) := by omega
  clear hkl i1 i2 i3 i4 i5 i6 hT hE hX hn TX START HA HI hna
  generalize l.take kk = l1 at *
  have OE := Lib.hid (own_emptyN wd)
  have SE := Lib.hid (HSL.out.grown (World.grownBy_alloc wd (.cells #[] 3) none))
  go_upto_block 10 with (at_builtin; refine appN_own rfl (.tmp 125) (.tmp 130) rfl _ wd.heap.size kk cl _ [] l1 Al HKL.out (by rfl) (by rfl) OE.out SE.out HLB.out (by simp) (by simp) (by omega) ?_; rintro v5 w6 hO5 hg5 -; obtain ⟨A5, c5, rfl, S5, hg6⟩ := own_takenN hO5 hg5 HKL.out; clear hO5 hg5)
  have T6 := Lib.hid (HT.out.grown hg6)
  clear OE SE HSL HLB hg6 HT
  go_cut [16, 18, 134] from 135 to 154 (fun v16 _ _ wc => ∃ s, v16 = .float .f64 s ∧ Hid (SumT x l1 kk s ∧ ∃ m, wc = w6.drewN m))
  case first =>
    --[sum
    go_wp2_with fail
    go_loopw [16, 134] (fun v16 i wr => ∃ (q s : Nat), q ≤ kk ∧ i = .int .i64 (q : Int) ∧ v16 = .float .f64 s ∧ SumT x l1 q s ∧ ∃ m, wr = w6.drewN m) (fun _ i _ => kk - (intOf i).toNat)
    case atStart => exact ⟨0, 0, Nat.zero_le _, rfl, rfl, rfl, 0, rfl⟩
    case round =>
      obtain ⟨q, s, hq, rfl, rfl, hs, m, rfl⟩ := hrel
      have HS := Lib.hid hs
      clear hs
      by_cases hlt : q < kk
      · obtain ⟨ad, rfl, ck⟩ := S5.out.at_ (k := q) (by rw [HKL.out]; exact hlt)
        obtain ⟨v, hv⟩ : ∃ v, ofX x (nthN l1 q) = v := ⟨_, rfl⟩
        obtain ⟨ff, fd, hfd⟩ := float_run .add rfl 24 s v
        have f1 := fun W => (hfd W).1
        have HST : Hid (∀ W, SumT x l1 (q + 1) (ff W)) := Lib.hid fun W => ⟨s, HS.out, by rw [hv]; exact (hfd W).2⟩
        obtain ⟨j, hj⟩ : ∃ j, nthN l1 q = j := ⟨_, rfl⟩
        rw [hj] at ck hv
        cases hin : isIn j n9
        · have hv0 : v = 0 := by rw [← hv]; unfold ofX; rw [HN.out, hin]; rfl
          subst hv0
          have hout : j < 0 ∨ (0 ≤ j ∧ (n9 : Int) ≤ j) := by
            simp [isIn] at hin
            omega
          clear hv hfd hj hin
          rcases hout with h | ⟨h, hh⟩
          · go_wp2_with fail
            go_roundw
            case rel => exact ⟨q + 1, _, by omega, by go_num, rfl, HST.out _, _, rfl⟩
            case measure => simp [intOf]; omega
          · go_wp2_with fail
            go_roundw
            case rel => exact ⟨q + 1, _, by omega, by go_num, rfl, HST.out _, _, rfl⟩
            case measure => simp [intOf]; omega
        · obtain ⟨r, rfl, hr⟩ := isIn_nat hin
          obtain ⟨g, c', e', -, -, -⟩ := ownF_some T6.out.own HN.out (by omega)
          injection e' with e1 _ e2
          subst e1
          subst e2
          have ho := T6.out.own
          rw [← HN.out] at ho
          have d0 := ho.cell r (by rw [HN.out]; exact hr)
          have hv2 : nthF x r = v := by rw [← hv]; unfold ofX; rw [HN.out, hin, if_pos rfl, Int.toNat_natCast]
          rw [hv2] at d0
          clear hv hfd hj hin hv2 ho
          go_wp2_with fail
          go_roundw
          case rel => exact ⟨q + 1, _, by omega, by go_num, rfl, HST.out _, _, rfl⟩
          case measure => simp [intOf]; omega
      · have : q = kk := by omega
        subst this
        go_wp2_with fail
        go_meet
        case rel => exact ⟨_, rfl, Lib.hid ⟨HS.out, m, rfl⟩⟩
    --]
  obtain ⟨s, rfl, hSS⟩ := hcut
  obtain ⟨hs, m, rfl⟩ := hSS.out
  have HS := Lib.hid hs
  have HLN : Hid (X.length = n9) := Lib.hid (by rw [HE.out.len]; exact HN.out)
  have CL : Hid (Calls Try.prog 22 #[.pointer (some ⟨b, 0, none⟩)] (w6.drewN m) (RetN (w6.drewN m) (.int .i64 (n9 : Int)))) := Lib.hid (by
    have := tr_len (T6.out.grown (grown_drewN (grown_refl w6) m)) (by omega)
    rw [HLN.out] at this
    exact this)
  have CSM : Hid (∀ q, Calls Try.prog 23 #[.pointer (some ⟨b, 0, none⟩), .slice A5 kk c5] (w6.drewN q) (SumP X l1 (w6.drewN q))) := Lib.hid fun q => wsum_of (tr_of (T6.out.grown (grown_drewN (grown_refl w6) q)) (by omega) (by have := HX.out; omega)) A5 kk c5 l1 HKL.out (by omega) (S5.out.grown (grown_drewN (grown_refl w6) q))
  have hnn : ((n9 : Int) != (n9 : Int)) = false := by simp
  clear hs hSS
  go_upto_region 50 with (first
    | (go_at_call 22; refine CL.out.mono ?_; rintro e w7 ⟨rfl, m2, rfl⟩)
    | (go_at_call 23; refine (CSM.out _).mono ?_; rintro e w8 ⟨s8, rfl, hs8, hg8⟩; have HS8 := Lib.hid hs8; have G8 := Lib.hid hg8; clear hs8 hg8)
    | (go_at_call 17; refine (same_yes (sum_lt HS8.out) (sum_eqv HE.out l1 _ _ _ HS8.out (by rw [HKL.out]; exact HS.out)) _).mono ?_; rintro e w' ⟨rfl, rfl⟩))
  have T8 := Lib.hid (T6.out.grown ((grown_drewN (grown_refl w6) _).trans G8.out))
  clear T6 G8 HS8 HS CL CSM S5 HKL
  --[last
  obtain ⟨w8', e8⟩ : ∃ W, W = w8 := ⟨w8, rfl⟩
  subst e8
  go_wp2_with fail
  go_loopw [19] (fun v wr => ∃ j : Int, v = .int .i64 j ∧ -1 ≤ j ∧ j ≤ (n9 : Int) + 1 ∧ w8'.grownBy wr none) (fun v _ => ((n9 : Int) + 1 - intOf v).toNat)
  case atStart => exact ⟨-1, rfl, by omega, by omega, grown_refl _⟩
  case round =>
    obtain ⟨j, rfl, hj1, hj2, hg⟩ := hrel
    have HG := Lib.hid hg
    have TN := Lib.hid (T8.out.grown hg)
    have CO := Lib.hid (tr_of TN.out (by omega) (by have := HX.out; omega) wr (grown_refl wr) j)
    clear hg
    by_cases hlt : j ≤ (n9 : Int)
    · obtain ⟨v, hv⟩ : ∃ v, ofX x j = v := ⟨_, rfl⟩
      have EV := Lib.hid (HE.out.ofX j)
      rw [hv] at EV
      have OL := Lib.hid (ofX_lt (X := X) (j := j) TN.out)
      generalize ofX X j = u at *
      cases hin : isIn j n9
      · have hv0 : v = 0 := by rw [← hv]; unfold ofX; rw [HN.out, hin]; rfl
        subst hv0
        have hout : j < 0 ∨ (0 ≤ j ∧ (n9 : Int) ≤ j) := by
          simp [isIn] at hin
          omega
        clear hv hin
        rcases hout with h | ⟨h, hh⟩
        · go_wp2_with (first | (go_at_call 24; refine CO.out.mono ?_; rintro e w9 ⟨rfl, hg9⟩; have G9 := Lib.hid (HG.out.trans hg9); clear hg9) | (go_at_call 17; refine (same_yes OL.out EV.out _).mono ?_; rintro e w' ⟨rfl, rfl⟩))
          go_roundw
          case rel => exact ⟨j + 1, rfl, by omega, by omega, G9.out⟩
          case measure => simp [intOf]; omega
        · go_wp2_with (first | (go_at_call 24; refine CO.out.mono ?_; rintro e w9 ⟨rfl, hg9⟩; have G9 := Lib.hid (HG.out.trans hg9); clear hg9) | (go_at_call 17; refine (same_yes OL.out EV.out _).mono ?_; rintro e w' ⟨rfl, rfl⟩))
          go_roundw
          case rel => exact ⟨j + 1, rfl, by omega, by omega, G9.out⟩
          case measure => simp [intOf]; omega
      · obtain ⟨r, rfl, hr⟩ := isIn_nat hin
        obtain ⟨g, c', e', -, -, -⟩ := ownF_some TN.out.own HN.out (by omega)
        injection e' with e1 _ e2
        subst e1
        subst e2
        have ho := TN.out.own
        rw [← HN.out] at ho
        have d0 := ho.cell r (by rw [HN.out]; exact hr)
        have hv2 : nthF x r = v := by rw [← hv]; unfold ofX; rw [HN.out, hin, if_pos rfl, Int.toNat_natCast]
        rw [hv2] at d0
        clear hv hin hv2 ho
        go_wp2_with (first | (go_at_call 24; refine CO.out.mono ?_; rintro e w9 ⟨rfl, hg9⟩; have G9 := Lib.hid (HG.out.trans hg9); clear hg9) | (go_at_call 17; refine (same_yes OL.out EV.out _).mono ?_; rintro e w' ⟨rfl, rfl⟩))
        go_roundw
        case rel => exact ⟨(r : Int) + 1, rfl, by omega, by omega, G9.out⟩
        case measure => simp [intOf]; omega
    · go_wp2_with fail
      go_ret
      exact ⟨rfl, TN.out.below⟩
  --]
end Go.Proofs.Ytfheamemoinfeaa
