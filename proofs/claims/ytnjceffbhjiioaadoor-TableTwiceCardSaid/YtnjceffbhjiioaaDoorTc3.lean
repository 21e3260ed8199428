/- The walk of TableTwice (no statement of its own). Condition: the library's table reads as its initialiser lays it. -/
import Derived.Test.YtnjceffbhjiioaaDoorTc1
import Derived.Test.YtnjceffbhjiioaaDoorTc2
namespace Go.Proofs.YtnjceffbhjiioaaDoor
open Go.RowKit
set_option linter.unusedVariables false
open Dm (Mem mem setV setO Tab)
/-- What the law holds of what was made. -/
structure TwS (w : World) (bx g h : Nat) (As : Option Addr) (cs : Nat) (Ac : Option Addr) (cc P : Nat) (l : List Nat) (k : Int) (z : Nat → Int) (W : World) : Prop where
  x : W.heap[bx]? = some (.cells #[.slice As l.length cs, .int .i64 k, .slice Ac P cc] 31 (0, 0))
  t : TabAt W g h l k z
  i : Ints W As l
  c : Zs W Ac P z
  tab : Tab W
  bel : Below w.heap.size w W
theorem TwS.next {w W W' : World} {bx g h : Nat} {As : Option Addr} {cs : Nat} {Ac : Option Addr} {cc P : Nat} {l : List Nat} {k : Int} {z : Nat → Int} (H : TwS w bx g h As cs Ac cc P l k z W) (hb : Below W.heap.size W W') : TwS w bx g h As cs Ac cc P l k z W' :=
  ⟨(hb.block _ (Array.getElem?_eq_some_iff.1 H.x).1).trans H.x, H.t.below hb, H.i.below hb (Nat.le_refl _), H.c.below hb (Nat.le_refl _), H.tab.next hb, then_ H.bel hb⟩
theorem TwS.c0 {w W : World} {bx g h : Nat} {As : Option Addr} {cs : Nat} {Ac : Option Addr} {cc P : Nat} {l : List Nat} {k : Int} {z : Nat → Int} (H : TwS w bx g h As cs Ac cc P l k z W) : W.cell? ⟨bx, 0, none⟩ = some (.slice As l.length cs) := by rw [cell_of_row _ _ _ _ _ _ H.x]; rfl
theorem TwS.c1 {w W : World} {bx g h : Nat} {As : Option Addr} {cs : Nat} {Ac : Option Addr} {cc P : Nat} {l : List Nat} {k : Int} {z : Nat → Int} (H : TwS w bx g h As cs Ac cc P l k z W) : W.cell? ⟨bx, 1, none⟩ = some (.int .i64 k) := by rw [cell_of_row _ _ _ _ _ _ H.x]; rfl
theorem TwS.c2 {w W : World} {bx g h : Nat} {As : Option Addr} {cs : Nat} {Ac : Option Addr} {cc P : Nat} {l : List Nat} {k : Int} {z : Nat → Int} (H : TwS w bx g h As cs Ac cc P l k z W) : W.cell? ⟨bx, 2, none⟩ = some (.slice Ac P cc) := by rw [cell_of_row _ _ _ _ _ _ H.x]; rfl
theorem new_full (n B : Nat) (w : World) (h1 : 1 ≤ n) (h : n ≤ 32) (hB : 2 ^ n - 1 = B) : Calls Tryd.prog 22 #[.int .i64 (n : Int)] w fun e w' => e = .returned (.tuple #[setV n B, .int .i64 0]) ∧ Below w.heap.size w w' := by
  subst hB
  exact Dm.new_yes n w h1 h
theorem full_lt {n B : Nat} (hB : 2 ^ n - 1 = B) : B < 2 ^ n := by have := Nat.two_pow_pos n; omega
theorem full_mem {n B : Nat} (hB : 2 ^ n - 1 = B) : mem n B = List.range n := by subst hB; exact mem_full n
theorem set_next {W W' : World} {b : Nat} {o : Obj} (h : W.heap[b]? = some o) (hb : Below W.heap.size W W') : W'.heap[b]? = some o := (hb.block _ (Array.getElem?_eq_some_iff.1 h).1).trans h
theorem set_cells {W : World} {b n B : Nat} (h : W.heap[b]? = some (setO n B)) : W.cell? ⟨b, 0, none⟩ = some (.int .i64 (n : Int)) ∧ W.cell? ⟨b, 1, none⟩ = some (.int .u32 (B : Int)) := by
  constructor <;> (rw [cell_of_row _ _ _ _ _ _ h]; rfl)
set_option maxRecDepth 100000 in
set_option maxHeartbeats 16000000 in
theorem twice_walk (A L : Option Addr) (n c m mc : Nat) (z y : Nat → Int) (a : Int) (w : World) (hT : Tab w) (hn : (n : Int) ≤ 9223372036854775807) (hz : Bytes w A n z) (ha0 : 0 ≤ a) (ha1 : a ≤ 65535) (hm : (m : Int) ≤ 9223372036854775807) (hL : Words w L m y) :
    Calls Tryd.prog 6 #[.slice A n c, .int .u16 a, .slice L m mc] w fun e w' => e = .returned (.bool true) ∧ Below w.heap.size w w' := by
  have HTab := Lib.hid hT
  have HZ := Lib.hid hz
  have HL := Lib.hid hL
  clear hT hz hL
  go_enter Tryd.func6, Tryd.ntmps6
  go_wp2_with fail
  refine (awake4_true w HTab.out).mono ?_
  rintro e w1 ⟨rfl, b1⟩
  have B1 := Lib.hid b1
  clear b1
  go_wp2_with fail
  refine (top_any a w1 ha0 ha1).mono ?_
  rintro e w' ⟨rfl, rfl⟩
  obtain ⟨k, hk⟩ : ∃ k, 1 + a % 200 = k := ⟨_, rfl⟩
  have hk1 : 1 ≤ k := by omega
  have hk2 : k ≤ 200 := by omega
  rw [hk]
  clear hk
  obtain ⟨l, hl⟩ : ∃ l, smL z (min n 3) = l := ⟨_, rfl⟩
  obtain ⟨P, hP⟩ : ∃ P, prodL l = P := ⟨_, rfl⟩
  have hP64 : 1 ≤ P ∧ P ≤ 64 := by rw [← hP, ← hl]; exact smL_prod z _ (by omega)
  have hl3 : l.length ≤ 3 := by rw [← hl, smL_len]; omega
  have hls : ∀ x ∈ l, 1 ≤ x ∧ x ≤ 32 := fun x hx => by rw [← hl] at hx; have := smL_small z _ x hx; omega
  have MD := Lib.hid (made_any A L n c m mc P l z y k w1 hn (HZ.out.below B1.out) hm (HL.out.below B1.out) hk1 (by omega) hl hP)
  have HP := Lib.hid hP
  have HLS := Lib.hid hls
  clear hl hP hls
  obtain ⟨hP1, hP4⟩ := hP64
  go_wp2_with fail
  refine MD.out.mono ?_
  rintro e w2 ⟨g, h, As, cs, Ac, cc, rfl, hTb, hI, hcs, hZc, hg, hh, b2⟩
  clear MD
  have n3 := new_val w2 (.cells #[.slice As l.length cs, .int .i64 k, .slice Ac P cc] 31)
  have S3 : Hid (TwS w w2.heap.size g h As cs Ac cc P l k (mkC k y m) (w2.alloc (.cells #[.slice As l.length cs, .int .i64 k, .slice Ac P cc] 31))) :=
    Lib.hid ⟨heap_alloc_new w2 _, hTb.below n3, hI.below n3 (Nat.le_refl _), hZc.below n3 (Nat.le_refl _), (HTab.out.below B1.out HTab.out.pos).below ((b2.trans (n3.mono b2.size))) (Nat.lt_of_lt_of_le HTab.out.pos B1.out.size), then_ (then_ B1.out b2) n3⟩
  generalize mkC k y m = zt at S3
  clear hTb hI hZc hg hh b2 n3
  go_upto_region 4 with fail
  generalize w2.alloc (.cells #[.slice As l.length cs, .int .i64 k, .slice Ac P cc] 31) = w3 at S3 ⊢
  have x0 := S3.out.c0
  have x2 := S3.out.c2
  by_cases hlen : l.length < 2
  · have i1 : ((l.length : Nat) : Int) < 2 := by omega
    have i2 : (0 : Int) < (P : Int) := by omega
    go_wp2_with fail
    go_ret
    exact ⟨ret_bool (by first | rfl | (simp <;> omega)), S3.out.bel⟩
  · obtain ⟨p0, p1, r, rfl⟩ : ∃ p0 p1 r, l = p0 :: p1 :: r := by
      rcases l with _ | ⟨p0, _ | ⟨p1, r⟩⟩
      · exact absurd (by decide) hlen
      · exact absurd (by simp) hlen
      · exact ⟨p0, p1, r, rfl⟩
    have hp0 := HLS.out p0 (by simp)
    have hp1 := HLS.out p1 (by simp)
    have HR : Hid (∀ x ∈ r, 1 ≤ x ∧ x ≤ 32) := Lib.hid fun x hx => HLS.out x (by simp [hx])
    have hr1 : r.length ≤ 1 := by simp at hl3; omega
    obtain ⟨nl, hnl⟩ : ∃ nl, (p0 :: p1 :: r).length = nl := ⟨_, rfl⟩
    have hnl2 : nl = r.length + 2 := by rw [← hnl]; rfl
    have HNL := Lib.hid hnl
    have i1 : ¬ ((nl : Nat) : Int) < 2 := by omega
    have i0 : (0 : Int) < (nl : Int) := by omega
    have i01 : (1 : Int) < (nl : Int) := by omega
    rw [hnl] at x0
    obtain ⟨gs, os, rfl, hi0⟩ := S3.out.i.at_ (i := 0) (by simp)
    obtain ⟨gs', os', e', hi1⟩ := S3.out.i.at_ (i := 1) (by simp)
    obtain ⟨rfl, rfl⟩ : gs = gs' ∧ os = os' := by injection e' with e'; injection e' with a b; exact ⟨a, b⟩
    have hi0 : w3.cell? ⟨gs, os, none⟩ = some (.int .i64 (p0 : Int)) := hi0
    clear e'
    obtain ⟨B0, hB0⟩ : ∃ B, 2 ^ p0 - 1 = B := ⟨_, rfl⟩
    obtain ⟨B1', hB1⟩ : ∃ B, 2 ^ p1 - 1 = B := ⟨_, rfl⟩
    have HB0 := Lib.hid hB0
    have HB1 := Lib.hid hB1
    have P0 : Hid (prodL (p1 :: r) ≤ 64 ∧ prodL (p0 :: r) ≤ 64 ∧ prodL r ≤ 64) := Lib.hid (by
      have h1 : p0 * (p1 * prodL r) = P := HP.out
      have h2 : 1 * (p1 * prodL r) ≤ p0 * (p1 * prodL r) := Nat.mul_le_mul_right _ hp0.1
      have h3 : p0 * (1 * prodL r) ≤ p0 * (p1 * prodL r) := Nat.mul_le_mul_left _ (Nat.mul_le_mul_right _ hp1.1)
      have h4 : 1 * prodL r ≤ p1 * prodL r := Nat.mul_le_mul_right _ hp1.1
      refine ⟨?_, ?_, ?_⟩
      · show p1 * prodL r ≤ 64; omega
      · show p0 * prodL r ≤ 64; rw [Nat.one_mul] at h3; omega
      · omega)
    clear hB0 hB1 hnl hlen
    go_wp2_with fail
    refine (new_full p0 B0 w3 hp0.1 hp0.2 HB0.out).mono ?_
    rintro e w4 ⟨rfl, b4⟩
    have S4 := Lib.hid (S3.out.next b4)
    clear x0 x2 hi0 hi1 b4
    have n5 := new_val w4 (setO p0 B0)
    have S5 := Lib.hid (S4.out.next n5)
    have D5 := Lib.hid (heap_alloc_new w4 (setO p0 B0))
    clear n5
    go_upto_region 7 with fail
    generalize w4.alloc (setO p0 B0) = w5 at S5 D5 ⊢
    have x0 := S5.out.c0
    rw [HNL.out] at x0
    obtain ⟨gs', os', e', hi1⟩ := S5.out.i.at_ (i := 1) (by simp)
    obtain ⟨rfl, rfl⟩ : gs = gs' ∧ os = os' := by injection e' with e'; injection e' with a b; exact ⟨a, b⟩
    have hi1 : w5.cell? ⟨gs, os + 1, none⟩ = some (.int .i64 (p1 : Int)) := hi1
    clear e'
    go_wp2_with fail
    refine (new_full p1 B1' w5 hp1.1 hp1.2 HB1.out).mono ?_
    rintro e w6 ⟨rfl, b6⟩
    have S6 := Lib.hid (S5.out.next b6)
    have D6 := Lib.hid (set_next D5.out b6)
    clear x0 hi1 b6
    have n7 := new_val w6 (setO p1 B1')
    have S7 := Lib.hid (S6.out.next n7)
    have D7 := Lib.hid (set_next D6.out n7)
    have E7 := Lib.hid (heap_alloc_new w6 (setO p1 B1'))
    clear n7
    go_upto_region 8 with fail
    generalize w6.alloc (setO p1 B1') = w7 at S7 D7 E7 ⊢
    obtain ⟨da, db⟩ := set_cells D7.out
    go_wp2_with fail
    refine (out_ok g h 0 p0 B0 (prodL (p1 :: r)) (p0 :: p1 :: r) k 0 zt w7 S7.out.t S7.out.tab (by simp; omega) HLS.out (by rw [HP.out]; omega) (by simp) rfl rfl (full_lt HB0.out) hk1 (by omega) rfl).mono ?_
    rintro e w8 ⟨ga, ha, gba, rfl, hT, -, -, -, -, b⟩
    rw [full_mem HB0.out] at hT
    have Ta := Lib.hid (show TabAt w8 ga ha (p1 :: r) k (fun i => (outL (p0 :: p1 :: r) zt k 0 (List.range p0) i).1) from hT)
    have S8 := Lib.hid (S7.out.next b)
    have D7 := Lib.hid (set_next D7.out b)
    have E7 := Lib.hid (set_next E7.out b)
    clear da db b hT
    obtain ⟨da, db⟩ := set_cells E7.out
    go_wp2_with fail
    refine (out_ok ga ha 0 p1 B1' (prodL r) (p1 :: r) k 0 (fun i => (outL (p0 :: p1 :: r) zt k 0 (List.range p0) i).1) w8 Ta.out S8.out.tab (by simp; omega) (fun x hx => HLS.out x (by rcases List.mem_cons.1 hx with h | h <;> simp [h])) (by have := P0.out.1; omega) (by simp) rfl rfl (full_lt HB1.out) hk1 (by omega) rfl).mono ?_
    rintro e w9 ⟨gb, hb, gbb, rfl, hT, -, -, -, -, b⟩
    rw [full_mem HB1.out] at hT
    have Tb := Lib.hid (show TabAt w9 gb hb (r) k (fun i => (outL (p1 :: r) (fun i => (outL (p0 :: p1 :: r) zt k 0 (List.range p0) i).1) k 0 (List.range p1) i).1) from hT)
    have S9 := Lib.hid (S8.out.next b)
    have D7 := Lib.hid (set_next D7.out b)
    have E7 := Lib.hid (set_next E7.out b)
    clear da db b hT
    obtain ⟨da, db⟩ := set_cells E7.out
    go_wp2_with fail
    refine (out_ok g h 1 p1 B1' (prodL (p0 :: r)) (p0 :: p1 :: r) k 1 zt w9 S9.out.t S9.out.tab (by simp; omega) HLS.out (by rw [HP.out]; omega) (by simp) rfl rfl (full_lt HB1.out) hk1 (by omega) rfl).mono ?_
    rintro e w10 ⟨gc, hc, gbc, rfl, hT, -, -, -, -, b⟩
    rw [full_mem HB1.out] at hT
    have Tc := Lib.hid (show TabAt w10 gc hc (p0 :: r) k (fun i => (outL (p0 :: p1 :: r) zt k 1 (List.range p1) i).1) from hT)
    have S10 := Lib.hid (S9.out.next b)
    have D7 := Lib.hid (set_next D7.out b)
    have E7 := Lib.hid (set_next E7.out b)
    have Tb := Lib.hid (Tb.out.below b)
    clear da db b hT
    obtain ⟨da, db⟩ := set_cells D7.out
    go_wp2_with fail
    refine (out_ok gc hc 0 p0 B0 (prodL r) (p0 :: r) k 0 (fun i => (outL (p0 :: p1 :: r) zt k 1 (List.range p1) i).1) w10 Tc.out S10.out.tab (by simp; omega) (fun x hx => HLS.out x (by rcases List.mem_cons.1 hx with h | h <;> simp [h])) (by have := P0.out.2.1; omega) (by simp) rfl rfl (full_lt HB0.out) hk1 (by omega) rfl).mono ?_
    rintro e w11 ⟨gd, hd, gbd, rfl, hT, -, -, -, -, b⟩
    rw [full_mem HB0.out] at hT
    have Td := Lib.hid (show TabAt w11 gd hd (r) k (fun i => (outL (p0 :: r) (fun i => (outL (p0 :: p1 :: r) zt k 1 (List.range p1) i).1) k 0 (List.range p0) i).1) from hT)
    have S11 := Lib.hid (S10.out.next b)
    have D7 := Lib.hid (set_next D7.out b)
    have E7 := Lib.hid (set_next E7.out b)
    have Tb := Lib.hid (Tb.out.below b)
    clear da db b hT
    have HS : Hid (∀ i, i < prodL r → (fun i => (outL (p1 :: r) (fun i => (outL (p0 :: p1 :: r) zt k 0 (List.range p0) i).1) k 0 (List.range p1) i).1) i = (fun i => (outL (p0 :: r) (fun i => (outL (p0 :: p1 :: r) zt k 1 (List.range p1) i).1) k 0 (List.range p0) i).1) i) := Lib.hid fun i hi => twice_same p0 p1 r zt k (fun x hx => (HLS.out x hx).1) i hi
    have Td' := Lib.hid (Td.out.congr (z' := (fun i => (outL (p1 :: r) (fun i => (outL (p0 :: p1 :: r) zt k 0 (List.range p0) i).1) k 0 (List.range p1) i).1)) fun i hi => (HS.out i hi).symm)
    have x2 := S11.out.c2
    have x0 := S11.out.c0
    rw [HNL.out] at x0
    obtain ⟨P', hPm⟩ : ∃ P', P = P' + 1 := ⟨P - 1, by omega⟩
    have HPM := Lib.hid hPm
    clear hPm
    go_wp2_with fail
    refine (min_any Ac P' P cc zt w11 (by omega) HPM.out S11.out.c).mono ?_
    rintro e w' ⟨rfl, rfl⟩
    rcases r with _ | ⟨p2, _ | ⟨p3, r⟩⟩
    · have i3 : ((nl : Int) == 3) = false := by rw [beq_eq_false_iff_ne]; simp at hnl2; omega
      have hmin : (fun i => (outL (p1 :: []) (fun i => (outL (p0 :: p1 :: []) zt k 0 (List.range p0) i).1) k 0 (List.range p1) i).1) 0 = minZ zt P' := least_all2 p0 p1 zt k (fun x hx => (HLS.out x hx).1) P' (by rw [HP.out]; exact HPM.out)
      have HMIN := Lib.hid hmin
      clear hmin
      have G : Calls Tryd.prog 16 #[.pointer (some ⟨gb, 0, none⟩), .slice none 0 0] w11 fun e w' => e = .returned (.tuple #[.int .i64 (minZ zt P'), .int .i64 0]) ∧ Below w11.heap.size w11 w' := by
        rw [← HMIN.out]
        exact tget_ok gb hb none 0 0 0 [] [] k (fun i => (outL (p1 :: []) (fun i => (outL (p0 :: p1 :: []) zt k 0 (List.range p0) i).1) k 0 (List.range p1) i).1) w11 Tb.out rfl (by decide) (by simp) (.inl rfl) trivial rfl (by decide)
      go_wp2_with fail
      refine G.mono ?_
      clear G
      rintro e wg ⟨rfl, b⟩
      have Tb' := Lib.hid (Tb.out.below b)
      have Td'' := Lib.hid (Td'.out.below b)
      have BG := Lib.hid (then_ S11.out.bel b)
      clear b
      go_wp2_with fail
      refine (tsame_yes gb hb gd hd (prodL []) [] k (fun i => (outL (p1 :: []) (fun i => (outL (p0 :: p1 :: []) zt k 0 (List.range p0) i).1) k 0 (List.range p1) i).1) wg Tb'.out Td''.out rfl (by have := P0.out.2.2; omega)).mono ?_
      rintro e wh ⟨rfl, b⟩
      have BH := Lib.hid (then_ BG.out b)
      clear b
      go_wp2_with fail
      go_ret
      exact ⟨rfl, BH.out⟩
    · have i3 : ((nl : Int) == 3) = true := by rw [beq_iff_eq]; simp at hnl2; omega
      have hp2 := HLS.out p2 (by simp)
      obtain ⟨B2, hB2⟩ : ∃ B, 2 ^ p2 - 1 = B := ⟨_, rfl⟩
      have HB2 := Lib.hid hB2
      have i4 : (2 : Int) < (nl : Int) := by simp at hnl2; omega
      obtain ⟨gs', os', e', hi2⟩ := S11.out.i.at_ (i := 2) (by simp)
      obtain ⟨rfl, rfl⟩ : gs = gs' ∧ os = os' := by injection e' with e'; injection e' with a b; exact ⟨a, b⟩
      have hi2 : w11.cell? ⟨gs, os + 2, none⟩ = some (.int .i64 (p2 : Int)) := hi2
      have hmin : (outL [p2] (fun i => (outL (p1 :: [p2]) (fun i => (outL (p0 :: p1 :: [p2]) zt k 0 (List.range p0) i).1) k 0 (List.range p1) i).1) k 0 (List.range p2) 0).1 = minZ zt P' := least_all3 p0 p1 p2 zt k (fun x hx => (HLS.out x hx).1) P' (by rw [HP.out]; exact HPM.out)
      have HMIN := Lib.hid hmin
      clear hmin e' hB2
      go_wp2_with fail
      refine (new_full p2 B2 w11 hp2.1 hp2.2 HB2.out).mono ?_
      rintro e w12 ⟨rfl, b⟩
      have S12 := Lib.hid (S11.out.next b)
      have Tb := Lib.hid (Tb.out.below b)
      have Td' := Lib.hid (Td'.out.below b)
      clear x0 x2 hi2 b
      have n13 := new_val w12 (setO p2 B2)
      have S13 := Lib.hid (S12.out.next n13)
      have Tb := Lib.hid (Tb.out.below n13)
      have Td' := Lib.hid (Td'.out.below n13)
      have F13 := Lib.hid (heap_alloc_new w12 (setO p2 B2))
      clear n13
      go_upto_region 16 with fail
      generalize w12.alloc (setO p2 B2) = w13 at S13 Tb Td' F13 ⊢
      obtain ⟨da, db⟩ := set_cells F13.out
      go_wp2_with fail
      refine (out_ok gb hb 0 p2 B2 1 [p2] k 0 (fun i => (outL (p1 :: [p2]) (fun i => (outL (p0 :: p1 :: [p2]) zt k 0 (List.range p0) i).1) k 0 (List.range p1) i).1) w13 Tb.out S13.out.tab (by simp) (fun x hx => HLS.out x (by simp at hx; simp [hx])) (by have := P0.out.2.2; omega) (by simp) rfl rfl (full_lt HB2.out) hk1 (by omega) rfl).mono ?_
      rintro e w14 ⟨ge, he, gbe, rfl, hT, -, -, -, -, b⟩
      rw [full_mem HB2.out] at hT
      have Te := Lib.hid (show TabAt w14 ge he [] k (fun i => (outL [p2] (fun i => (outL (p1 :: [p2]) (fun i => (outL (p0 :: p1 :: [p2]) zt k 0 (List.range p0) i).1) k 0 (List.range p1) i).1) k 0 (List.range p2) i).1) from hT)
      have S14 := Lib.hid (S13.out.next b)
      have Tb := Lib.hid (Tb.out.below b)
      have Td' := Lib.hid (Td'.out.below b)
      clear da db b hT
      have G : Calls Tryd.prog 16 #[.pointer (some ⟨ge, 0, none⟩), .slice none 0 0] w14 fun e w' => e = .returned (.tuple #[.int .i64 (minZ zt P'), .int .i64 0]) ∧ Below w14.heap.size w14 w' := by
        rw [← HMIN.out]
        exact tget_ok ge he none 0 0 0 [] [] k (fun i => (outL [p2] (fun i => (outL (p1 :: [p2]) (fun i => (outL (p0 :: p1 :: [p2]) zt k 0 (List.range p0) i).1) k 0 (List.range p1) i).1) k 0 (List.range p2) i).1) w14 Te.out rfl (by decide) (by simp) (.inl rfl) trivial rfl (by decide)
      go_wp2_with fail
      refine G.mono ?_
      clear G
      rintro e wg ⟨rfl, b⟩
      have Tb' := Lib.hid (Tb.out.below b)
      have Td'' := Lib.hid (Td'.out.below b)
      have BG := Lib.hid (then_ S14.out.bel b)
      clear b
      go_wp2_with fail
      refine (tsame_yes gb hb gd hd (prodL [p2]) [p2] k (fun i => (outL (p1 :: [p2]) (fun i => (outL (p0 :: p1 :: [p2]) zt k 0 (List.range p0) i).1) k 0 (List.range p1) i).1) wg Tb'.out Td''.out rfl (by have := P0.out.2.2; omega)).mono ?_
      rintro e wh ⟨rfl, b⟩
      have BH := Lib.hid (then_ BG.out b)
      clear b
      go_wp2_with fail
      go_ret
      exact ⟨rfl, BH.out⟩
    · exfalso
      simp at hr1
end Go.Proofs.YtnjceffbhjiioaaDoor
