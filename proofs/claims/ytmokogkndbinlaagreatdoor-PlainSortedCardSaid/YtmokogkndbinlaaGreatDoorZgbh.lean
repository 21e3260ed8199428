import Derived.Test.YtmokogkndbinlaaGreatDoorZgbf
set_option linter.all false
namespace Go.Proofs.YtmokogkndbinlaaGreatDoor
open Go.Lib (hid)
attribute [local go_sem] Oper.semAt_some
open Go.RowKit Go.Shelf Go.Sort
def joinZ (J ap bp l1 l2 : List Nat) (z1 z2 : Nat → Int) (k : Int) (i : Nat) : Int := capA (z1 (numL l1 (pickL (tupL J i) ap))) (z2 (numL l2 (pickL (tupL J i) bp))) k
def JoinPost (w : World) (V ap bp l1 l2 : List Nat) (k : Int) (z1 z2 : Nat → Int) (e : Ending) (w' : World) : Prop :=
 ∃ g' h' A c, e = .returned (.tuple #[.pointer (some ⟨g', 0, none⟩), .slice A V.length c, .int .i64 0]) ∧ TabAt w' g' h' (joinL V.length ap l1 bp l2) k (joinZ (joinL V.length ap l1 bp l2) ap bp l1 l2 z1 z2 k) ∧ Ints w' A V ∧ w.heap.size ≤ g' ∧ w.heap.size ≤ h' ∧ Below w.heap.size w w'
abbrev HoldJ (wb : World) (N1 N2 B1 B2 g1 g2 : Nat) (s1 s2 : Value) (k : Int) (W : World) : Prop :=
 W.cell? ⟨N1, 0, none⟩ = some (.pointer (some ⟨g1, 0, none⟩)) ∧ W.cell? ⟨N2, 0, none⟩ = some (.pointer (some ⟨g2, 0, none⟩)) ∧ W.cell? ⟨B1, 0, none⟩ = some s1 ∧ W.cell? ⟨B2, 0, none⟩ = some s2 ∧ W.cell? ⟨g1, 7, none⟩ = some (.int .i64 k) ∧ W.cell? ⟨g2, 7, none⟩ = some (.int .i64 k) ∧ Below wb.heap.size wb W
theorem HoldJ.below {wb W : World} {N1 N2 B1 B2 g1 g2 : Nat} {s1 s2 : Value} {k : Int} (H : HoldJ wb N1 N2 B1 B2 g1 g2 s1 s2 k W) : Below wb.heap.size wb W := H.2.2.2.2.2.2
theorem HoldJ.to {wb W : World} {N1 N2 B1 B2 g1 g2 : Nat} {s1 s2 : Value} {k : Int} (H : HoldJ wb N1 N2 B1 B2 g1 g2 s1 s2 k wb) (hb : Below wb.heap.size wb W) : HoldJ wb N1 N2 B1 B2 g1 g2 s1 s2 k W := by
 obtain ⟨a0, a1, a2, a3, a4, a5, h8⟩ := H
 have K : ∀ b i v, wb.cell? ⟨b, i, none⟩ = some v → W.cell? ⟨b, i, none⟩ = some v := fun b i v h => (hb.cell (p := ⟨b, i, none⟩) (World.block_lt_of_cell? wb _ h)).trans h
 exact ⟨K _ _ _ a0, K _ _ _ a1, K _ _ _ a2, K _ _ _ a3, K _ _ _ a4, K _ _ _ a5, hb⟩
abbrev HoldK (wb : World) (N1 N2 B1 B2 g1 g2 : Nat) (s1 s2 : Value) (k : Int) (ba g' h' P : Nat) (W : World) : Prop :=
 W.cell? ⟨N1, 0, none⟩ = some (.pointer (some ⟨g1, 0, none⟩)) ∧ W.cell? ⟨N2, 0, none⟩ = some (.pointer (some ⟨g2, 0, none⟩)) ∧ W.cell? ⟨B1, 0, none⟩ = some s1 ∧ W.cell? ⟨B2, 0, none⟩ = some s2 ∧
 W.cell? ⟨ba, 0, none⟩ = some (.pointer (some ⟨g', 0, none⟩)) ∧ W.cell? ⟨g', 7, none⟩ = some (.int .i64 k) ∧ W.cell? ⟨g', 8, none⟩ = some (.slice (some ⟨h', 0, none⟩) P P) ∧ Below wb.heap.size wb W
theorem HoldK.below {wb W : World} {N1 N2 B1 B2 g1 g2 : Nat} {s1 s2 : Value} {k : Int} {ba g' h' P : Nat} (H : HoldK wb N1 N2 B1 B2 g1 g2 s1 s2 k ba g' h' P W) : Below wb.heap.size wb W := H.2.2.2.2.2.2.2
theorem HoldK.mk {wb W : World} {N1 N2 B1 B2 g1 g2 : Nat} {s1 s2 : Value} {k : Int} {ba g' h' P : Nat} (H : HoldJ wb N1 N2 B1 B2 g1 g2 s1 s2 k wb) (hb : Below wb.heap.size wb W)
  (h1 : W.cell? ⟨ba, 0, none⟩ = some (.pointer (some ⟨g', 0, none⟩))) (h2 : W.cell? ⟨g', 7, none⟩ = some (.int .i64 k)) (h3 : W.cell? ⟨g', 8, none⟩ = some (.slice (some ⟨h', 0, none⟩) P P)) : HoldK wb N1 N2 B1 B2 g1 g2 s1 s2 k ba g' h' P W := by
 obtain ⟨a0, a1, a2, a3, a4, a5, h8⟩ := H.to hb
 exact ⟨a0, a1, a2, a3, h1, h2, h3, h8⟩
theorem holdK {wb W W' : World} {N1 N2 B1 B2 g1 g2 : Nat} {s1 s2 : Value} {k : Int} {ba g' h' P : Nat} (H : HoldK wb N1 N2 B1 B2 g1 g2 s1 s2 k ba g' h' P W) (hb : Below W.heap.size W W') : HoldK wb N1 N2 B1 B2 g1 g2 s1 s2 k ba g' h' P W' := by
 obtain ⟨a0, a1, a2, a3, a4, a5, a6, h8⟩ := H
 have K : ∀ b i v, W.cell? ⟨b, i, none⟩ = some v → W'.cell? ⟨b, i, none⟩ = some v := fun b i v h => (hb.cell (p := ⟨b, i, none⟩) (World.block_lt_of_cell? W _ h)).trans h
 exact ⟨K _ _ _ a0, K _ _ _ a1, K _ _ _ a2, K _ _ _ a3, K _ _ _ a4, K _ _ _ a5, K _ _ _ a6, h8.trans (hb.mono h8.size)⟩
theorem holdK_set {wb W : World} {N1 N2 B1 B2 g1 g2 : Nat} {s1 s2 : Value} {k : Int} {ba g' h' P : Nat} (H0 : HoldJ wb N1 N2 B1 B2 g1 g2 s1 s2 k wb) (h : HoldK wb N1 N2 B1 B2 g1 g2 s1 s2 k ba g' h' P W) (hh : wb.heap.size ≤ h') (n1 : ba ≠ h') (n2 : g' ≠ h') (i : Nat) (u : Value) :
  HoldK wb N1 N2 B1 B2 g1 g2 s1 s2 k ba g' h' P (W.setCell ⟨h', i, none⟩ u) := by
 obtain ⟨a0, a1, a2, a3, a4, a5, a6, h8⟩ := h
 have K : ∀ c j v, c ≠ h' → W.cell? ⟨c, j, none⟩ = some v → (W.setCell ⟨h', i, none⟩ u).cell? ⟨c, j, none⟩ = some v := fun c j v hc h => by
  rw [World.cell?_setCell_other _ _ _ _ (by intro e; injection e with e1; exact hc (by first | exact e1 | exact e1.symm))]; exact h
 exact HoldK.mk H0 (h8.setCell (p := ⟨h', i, none⟩) hh u) (K _ _ _ n1 a4) (K _ _ _ n2 a5) (K _ _ _ n2 a6)
theorem HoldK.of {wb W0 W : World} {N1 N2 B1 B2 g1 g2 : Nat} {s1 s2 : Value} {k : Int} {ba g' h' P : Nat} (H0 : HoldJ wb N1 N2 B1 B2 g1 g2 s1 s2 k wb) (h : HoldK wb N1 N2 B1 B2 g1 g2 s1 s2 k ba g' h' P W0) (hK : Kept2 W0 h' h' W) (hh : wb.heap.size ≤ h') (n1 : ba ≠ h') (n2 : g' ≠ h') :
  HoldK wb N1 N2 B1 B2 g1 g2 s1 s2 k ba g' h' P W := by
 obtain ⟨a0, a1, a2, a3, a4, a5, a6, h8⟩ := h
 have K : ∀ c j v, c ≠ h' → W0.cell? ⟨c, j, none⟩ = some v → W.cell? ⟨c, j, none⟩ = some v := fun c j v h1 h => (World.cell?_of_block (a := ⟨c, j, none⟩) (hK.block c (World.block_lt_of_cell? W0 _ h) h1 h1)).trans h
 exact HoldK.mk H0 (hK.below h8 (Nat.le_refl _) hh hh) (K _ _ _ n1 a4) (K _ _ _ n2 a5) (K _ _ _ n2 a6)
set_option maxRecDepth 100000 in
set_option maxHeartbeats 8000000 in
theorem join_ok (g1 h1 n1 c1 g2 h2 n2 c2 P : Nat) (A1 A2 : Option Addr) (l1 l2 a b V : List Nat) (k : Int) (z1 z2 : Nat → Int) (w : World) (T1 : TabAt w g1 h1 l1 k z1) (T2 : TabAt w g2 h2 l2 k z2)
  (hl1 : l1.length = n1) (hl2 : l2.length = n2) (ha : a.length = n1) (hb : b.length = n2) (i1 : Ints w A1 a) (i2 : Ints w A2 b) (h61 : n1 ≤ 6) (h62 : n2 ≤ 6) (e1 : A1 = none → c1 = 0) (e2 : A2 = none → c2 = 0)
  (r1 : Rises a) (r2 : Rises b) (hag : AgB a b l1 l2 = true) (hV : Lib.compact (sortI (a ++ b)) = V.map fun i : Nat => (i : Int)) (hV6 : V.length ≤ 6) (hVs : V.Pairwise (· ≤ ·))
  (p1 : pickL (joinL V.length (plcL V a) l1 (plcL V b) l2) (plcL V a) = l1) (p2 : pickL (joinL V.length (plcL V a) l1 (plcL V b) l2) (plcL V b) = l2)
  (q1 : ∀ i, i < n1 → nth (plcL V a) i < V.length) (q2 : ∀ i, i < n2 → nth (plcL V b) i < V.length)
  (hJ : ∀ n ∈ joinL V.length (plcL V a) l1 (plcL V b) l2, 1 ≤ n ∧ n ≤ 32) (hL1 : ∀ n ∈ l1, n ≤ 32) (hL2 : ∀ n ∈ l2, n ≤ 32) (hP : prodL (joinL V.length (plcL V a) l1 (plcL V b) l2) = P) (hP4 : P ≤ 4096)
  (hk1 : 1 ≤ k) (hk2 : k ≤ 2147483648) (hz1 : ∀ i, i < prodL l1 → 0 ≤ z1 i ∧ z1 i ≤ k) (hz2 : ∀ i, i < prodL l2 → 0 ≤ z2 i ∧ z2 i ≤ k) :
  Calls Tryz.prog 140 #[.pointer (some ⟨g1, 0, none⟩), .slice A1 n1 c1, .pointer (some ⟨g2, 0, none⟩), .slice A2 n2 c2] w (JoinPost w V (plcL V a) (plcL V b) l1 l2 k z1 z2) := by
 have HL1 := hid hl1
 have HL2 := hid hl2
 have HA := hid ha
 have HB := hid hb
 have E1 := hid e1
 have E2 := hid e2
 have HR1 := hid r1
 have HR2 := hid r2
 have HAG := hid hag
 have HV := hid hV
 have HVS := hid hVs
 have P1 := hid p1
 have P2 := hid p2
 have Q1 := hid q1
 have Q2 := hid q2
 have HJ := hid hJ
 have H31 := hid hL1
 have H32 := hid hL2
 have HP := hid hP
 have HZ1 := hid hz1
 have HZ2 := hid hz2
 have n1' := new_val w (.cells #[.pointer (some ⟨g1, 0, none⟩)] 58)
 have n2' := new_val (w.alloc (.cells #[.pointer (some ⟨g1, 0, none⟩)] 58)) (.cells #[.pointer (some ⟨g2, 0, none⟩)] 58)
 have B2 := hid (then_ n1' n2')
 have TA2 := hid (T1.below (then_ n1' n2'))
 have TB2 := hid (T2.below (then_ n1' n2'))
 have IA2 := hid (i1.below (then_ n1' n2') (Nat.le_refl _))
 have IB2 := hid (i2.below (then_ n1' n2') (Nat.le_refl _))
 have X2 : Hid (Boxed _ w.heap.size 58 (.pointer (some ⟨g1, 0, none⟩))) := hid (box_below (Boxed.new w 58 (.pointer (some ⟨g1, 0, none⟩))) n2')
 have Y2' := Boxed.new (w.alloc (.cells #[.pointer (some ⟨g1, 0, none⟩)] 58)) 58 (.pointer (some ⟨g2, 0, none⟩))
 have hN2 : (w.alloc (.cells #[.pointer (some ⟨g1, 0, none⟩)] 58)).heap.size = w.heap.size + 1 := by simp
 rw [hN2] at Y2'
 have Y2 := hid Y2'
 clear hl1 hl2 ha hb e1 e2 r1 r2 hag hV hVs p1 p2 q1 q2 hJ hL1 hL2 hP hz1 hz2 T1 T2 i1 i2 n1' n2' Y2' hN2
 refine (callsIn_wide (n := 3)).1 (callsIn_of_wp_marks Tryz.func140 rfl trivial ?_ rfl)
 simp only [Tryz.ntmps140, List.size_toArray, List.length_cons, List.length_nil, Nat.reduceAdd, Nat.reduceSub, Array.replicate_succ, Array.replicate_zero, List.push_toArray, List.append_toArray, List.nil_append, List.cons_append]
 refine wpIn_wide.2 ?_
 go_upto_region 1 with fail
 generalize (w.alloc (.cells #[.pointer (some ⟨g1, 0, none⟩)] 58)).alloc (.cells #[.pointer (some ⟨g2, 0, none⟩)] 58) = w2 at B2 TA2 TB2 IA2 IB2 X2 Y2 ⊢
 have x1 := X2.out.cell
 have x2 := Y2.out.cell
 go_wp2_with fail
 refine (stands_yes g1 h1 n1 c1 A1 l1 a k z1 w2 TA2.out HA.out HL1.out HR1.out IA2.out h61).mono ?_
 rintro e w3 ⟨rfl, b3⟩
 have B3 := hid (then_ B2.out b3)
 have TA3 := hid (TA2.out.below b3)
 have TB3 := hid (TB2.out.below b3)
 have IA3 := hid (IA2.out.below b3 (Nat.le_refl _))
 have IB3 := hid (IB2.out.below b3 (Nat.le_refl _))
 have X3 : Hid (Boxed _ _ _ _) := hid (box_below X2.out b3)
 have Y3 : Hid (Boxed _ _ _ _) := hid (box_below Y2.out b3)
 clear x1 x2 b3 B2 TA2 TB2 IA2 IB2 X2 Y2
 have x1 := X3.out.cell
 have x2 := Y3.out.cell
 go_wp2_with fail
 refine (stands_yes g2 h2 n2 c2 A2 l2 b k z2 w3 TB3.out HB.out HL2.out HR2.out IB3.out h62).mono ?_
 rintro e w4 ⟨rfl, b4⟩
 have B4 := hid (then_ B3.out b4)
 have TA4 := hid (TA3.out.below b4)
 have TB4 := hid (TB3.out.below b4)
 have IA4 := hid (IA3.out.below b4 (Nat.le_refl _))
 have IB4 := hid (IB3.out.below b4 (Nat.le_refl _))
 have X4 : Hid (Boxed _ _ _ _) := hid (box_below X3.out b4)
 have Y4 : Hid (Boxed _ _ _ _) := hid (box_below Y3.out b4)
 clear x1 x2 b4 B3 TA3 TB3 IA3 IB3 X3 Y3
 have x1 := X4.out.cell
 have x2 := Y4.out.cell
 go_wp2_with fail
 refine (agree_any g1 h1 n1 c1 g2 h2 n2 c2 A1 A2 l1 l2 a b k k z1 z2 w4 TA4.out TB4.out HL1.out HL2.out HA.out HB.out IA4.out IB4.out h61 h62 (rises_sorted HR2.out)).mono ?_
 rintro e w5 ⟨rfl, b5⟩
 rw [HAG.out]
 have B5 := hid (then_ B4.out b5)
 have TA5 := hid (TA4.out.below b5)
 have TB5 := hid (TB4.out.below b5)
 have IA5 := hid (IA4.out.below b5 (Nat.le_refl _))
 have IB5 := hid (IB4.out.below b5 (Nat.le_refl _))
 have X5 : Hid (Boxed _ _ _ _) := hid (box_below X4.out b5)
 have Y5 : Hid (Boxed _ _ _ _) := hid (box_below Y4.out b5)
 clear x1 x2 b5 B4 TA4 TB4 IA4 IB4 X4 Y4
 have x1 := X5.out.cell
 have x2 := Y5.out.cell
 obtain ⟨c0, c1', c2', c3, c4, c5, c6, c7, c8⟩ := TA5.out.cells
 obtain ⟨d0, d1, d2, d3, d4, d5, d6, d7, d8⟩ := TB5.out.cells
 have HH : Hid (HoldJ w5 w.heap.size (w.heap.size + 1) w.heap.size (w.heap.size + 1) g1 g2 (.pointer (some ⟨g1, 0, none⟩)) (.pointer (some ⟨g2, 0, none⟩)) k w5) := hid ⟨x1, x2, x1, x2, c7, d7, Below.refl _ _⟩
 clear x1 x2 c0 c1' c2' c3 c4 c5 c6 c7 c8 d0 d1 d2 d3 d4 d5 d6 d7 d8
 go_upto_region 5 with fail
 go_region_held3 (fun W => HoldJ w5 w.heap.size (w.heap.size + 1) w.heap.size (w.heap.size + 1) g1 g2 (.pointer (some ⟨g1, 0, none⟩)) (.pointer (some ⟨g2, 0, none⟩)) k W) (exact HH.out.to ((Below.refl _ _).drew)) (fail)
 have nd := (Below.refl w5.heap.size w5).drew
 have B6 := hid (then_ B5.out nd)
 have TA6 := hid (TA5.out.below nd)
 have TB6 := hid (TB5.out.below nd)
 have IA6 := hid (IA5.out.below nd (Nat.le_refl _))
 have IB6 := hid (IB5.out.below nd (Nat.le_refl _))
 have X6 : Hid (Boxed _ _ _ _) := hid (box_below X5.out nd)
 have Y6 : Hid (Boxed _ _ _ _) := hid (box_below Y5.out nd)
 clear nd HH B5 TA5 TB5 IA5 IB5 X5 Y5
 generalize w5.drew = w6 at *
 have dk : ((k : Int) != k) = false := by simp
 go_wp2_with fail
 have n7 := new_val w6 (.cells #[.slice A1 n1 c1, .slice A2 n2 c2] 41)
 have B7 := hid (then_ B6.out n7)
 have TA7 := hid (TA6.out.below n7)
 have TB7 := hid (TB6.out.below n7)
 have IA7 := hid (IA6.out.below n7 (Nat.le_refl _))
 have IB7 := hid (IB6.out.below n7 (Nat.le_refl _))
 have X7 : Hid (Boxed _ _ _ _) := hid (box_below X6.out n7)
 have Y7 : Hid (Boxed _ _ _ _) := hid (box_below Y6.out n7)
 have K0 : Hid ((w6.alloc (.cells #[.slice A1 n1 c1, .slice A2 n2 c2] 41)).cell? ⟨w6.heap.size, 0, none⟩ = some (.slice A1 n1 c1)) := hid (by rw [cell_of_row _ _ _ _ _ _ (heap_alloc_new _ _)]; rfl)
 have K1 : Hid ((w6.alloc (.cells #[.slice A1 n1 c1, .slice A2 n2 c2] 41)).cell? ⟨w6.heap.size, 1, none⟩ = some (.slice A2 n2 c2)) := hid (by rw [cell_of_row _ _ _ _ _ _ (heap_alloc_new _ _)]; rfl)
 have KL : Hid (w6.heap.size < (w6.alloc (.cells #[.slice A1 n1 c1, .slice A2 n2 c2] 41)).heap.size) := hid (by simp)
 clear n7 B6 TA6 TB6 IA6 IB6 X6 Y6
 generalize w6.alloc (.cells #[.slice A1 n1 c1, .slice A2 n2 c2] 41) = w7 at *
 generalize w6.heap.size = gL at *
 refine (concat_any gL n1 c1 n2 c2 2 A1 A2 a b w7 HA.out HB.out (by omega) (by omega) KL.out K0.out K1.out IA7.out IB7.out E1.out E2.out).mono ?_
 rintro e w8 ⟨⟨v8, rfl, hO⟩, b8⟩
 obtain ⟨Ac, cc, rfl, hI⟩ := hO.form
 obtain ⟨N, hN⟩ : ∃ N, (a ++ b).length = N := ⟨_, rfl⟩
 rw [hN]
 have HN := hid hN
 have hN12 : N ≤ 12 := by have h1 := HA.out; have h2 := HB.out; rw [List.length_append] at hN; omega
 have B8 := hid (then_ B7.out b8)
 have TA8 := hid (TA7.out.below b8)
 have TB8 := hid (TB7.out.below b8)
 have IA8 := hid (IA7.out.below b8 (Nat.le_refl _))
 have IB8 := hid (IB7.out.below b8 (Nat.le_refl _))
 have X8 : Hid (Boxed _ _ _ _) := hid (box_below X7.out b8)
 have Y8 : Hid (Boxed _ _ _ _) := hid (box_below Y7.out b8)
 have I8 := hid hI
 clear hN hO hI b8 B7 TA7 TB7 IA7 IB7 X7 Y7 K0 K1 KL
 go_wp2_with fail
 refine (values_any Ac N cc w8).mono ?_
 rintro e w9 ⟨rfl, rfl⟩
 have n9 := new_val w8 (.cells #[.slice Ac N cc] 41)
 have SR := hid (sorted_any w8.heap.size N cc Ac (a ++ b) (w8.alloc (.cells #[.slice Ac N cc] 41)) HN.out (by omega) (by simp) (lit_new _ _ _) (I8.out.below n9 (Nat.le_refl _)))
 have B9 := hid (then_ B8.out n9)
 have TA9 := hid (TA8.out.below n9)
 have TB9 := hid (TB8.out.below n9)
 have IA9 := hid (IA8.out.below n9 (Nat.le_refl _))
 have IB9 := hid (IB8.out.below n9 (Nat.le_refl _))
 have X9 : Hid (Boxed _ _ _ _) := hid (box_below X8.out n9)
 have Y9 : Hid (Boxed _ _ _ _) := hid (box_below Y8.out n9)
 clear n9 B8 TA8 TB8 IA8 IB8 X8 Y8 I8
 generalize w8.alloc (.cells #[.slice Ac N cc] 41) = w9 at *
 go_wp2_with fail
 refine SR.out.mono ?_
 rintro e wA ⟨⟨vA, rfl, hR⟩, bA⟩
 have CP := hid (compact_any w9.heap.size N vA (a ++ b) V wA hR bA.size HN.out HV.out (by omega))
 have BA := hid bA
 clear hR bA SR
 go_wp2_with fail
 refine CP.out.mono ?_
 rintro e wB ⟨⟨Av, cv, rfl, hIV⟩, b11⟩
 have bB : Below w9.heap.size w9 wB := BA.out.trans b11
 have B11 := hid (then_ B9.out bB)
 have TA11 := hid (TA9.out.below bB)
 have TB11 := hid (TB9.out.below bB)
 have IA11 := hid (IA9.out.below bB (Nat.le_refl _))
 have IB11 := hid (IB9.out.below bB (Nat.le_refl _))
 have IV11 := hid hIV
 have X11 : Hid (Boxed _ _ _ _) := hid (box_below X9.out bB)
 have Y11 : Hid (Boxed _ _ _ _) := hid (box_below Y9.out bB)
 clear b11 bB CP BA hIV B9 TA9 TB9 IA9 IB9 X9 Y9 HV HN
 obtain ⟨m, hm⟩ : ∃ m, V.length = m := ⟨_, rfl⟩
 have HM := hid hm
 rw [hm] at hV6 P1 P2 Q1 Q2 HJ HP ⊢
 clear hm
 go_wp2_with fail
 refine (places_any_Tj5 A1 Av n1 c1 m cv a V wB HA.out HM.out IA11.out IV11.out HVS.out (by omega) (by omega)).mono ?_
 rintro e wC ⟨rfl, hI1, bC⟩
 have B12 := hid (then_ B11.out bC)
 have TA12 := hid (TA11.out.below bC)
 have TB12 := hid (TB11.out.below bC)
 have IB12 := hid (IB11.out.below bC (Nat.le_refl _))
 have IV12 := hid (IV11.out.below bC (Nat.le_refl _))
 have X12 : Hid (Boxed _ _ _ _) := hid (box_below X11.out bC)
 have Y12 : Hid (Boxed _ _ _ _) := hid (box_below Y11.out bC)
 have J12 := hid hI1
 generalize wB.heap.size = gA at *
 clear bC hI1 B11 TA11 TB11 IA11 IB11 IV11 X11 Y11
 go_wp2_with fail
 refine (places_any_Tj5 A2 Av n2 c2 m cv b V wC HB.out HM.out IB12.out IV12.out HVS.out (by omega) (by omega)).mono ?_
 rintro e wD ⟨rfl, hI2, bD⟩
 have B13 := hid (then_ B12.out bD)
 have TA13 := hid (TA12.out.below bD)
 have TB13 := hid (TB12.out.below bD)
 have IV13 := hid (IV12.out.below bD (Nat.le_refl _))
 have X13 : Hid (Boxed _ _ _ _) := hid (box_below X12.out bD)
 have Y13 : Hid (Boxed _ _ _ _) := hid (box_below Y12.out bD)
 have J13 := hid (J12.out.below bD (Nat.le_refl _))
 have M13 := hid hI2
 generalize wC.heap.size = gB at *
 clear bD hI2 B12 TA12 TB12 IB12 IV12 X12 Y12 J12
 go_upto_region 9 with fail
 have n14 := new_val wD (.cells #[.slice (some ⟨gA, 0, none⟩) n1 n1] 41)
 have n15 := new_val (wD.alloc (.cells #[.slice (some ⟨gA, 0, none⟩) n1 n1] 41)) (.cells #[.slice (some ⟨gB, 0, none⟩) n2 n2] 41)
 have nn := then_ n14 n15
 have B15 := hid (then_ B13.out nn)
 have TA := hid (TA13.out.below nn)
 have TB := hid (TB13.out.below nn)
 have IV := hid (IV13.out.below nn (Nat.le_refl _))
 have X15 : Hid (Boxed _ _ _ _) := hid (box_below X13.out nn)
 have Y15 : Hid (Boxed _ _ _ _) := hid (box_below Y13.out nn)
 have JA := hid (J13.out.below nn (Nat.le_refl _))
 have JB := hid (M13.out.below nn (Nat.le_refl _))
 have U15 : Hid (Boxed _ wD.heap.size 41 (.slice (some ⟨gA, 0, none⟩) n1 n1)) := hid (box_below (Boxed.new wD 41 (.slice (some ⟨gA, 0, none⟩) n1 n1)) n15)
 have V15' := Boxed.new (wD.alloc (.cells #[.slice (some ⟨gA, 0, none⟩) n1 n1] 41)) 41 (.slice (some ⟨gB, 0, none⟩) n2 n2)
 have hN2 : (wD.alloc (.cells #[.slice (some ⟨gA, 0, none⟩) n1 n1] 41)).heap.size = wD.heap.size + 1 := by simp
 rw [hN2] at V15'
 have V15 := hid V15'
 clear n14 n15 nn B13 TA13 TB13 IV13 X13 Y13 J13 M13 V15' hN2
 generalize (wD.alloc (.cells #[.slice (some ⟨gA, 0, none⟩) n1 n1] 41)).alloc (.cells #[.slice (some ⟨gB, 0, none⟩) n2 n2] 41) = wb at *
 generalize wD.heap.size = b1 at *
 have HH : Hid (HoldJ wb w.heap.size (w.heap.size + 1) b1 (b1 + 1) g1 g2 (.slice (some ⟨gA, 0, none⟩) n1 n1) (.slice (some ⟨gB, 0, none⟩) n2 n2) k wb) := hid ⟨X15.out.cell, Y15.out.cell, U15.out.cell, V15.out.cell, TA.out.cells.2.2.2.2.2.2.2.1, TB.out.cells.2.2.2.2.2.2.2.1, Below.refl _ _⟩
 have hwz : w.heap.size ≤ wb.heap.size := B15.out.size
 clear X15 Y15 U15 V15
 have LP1 : Hid ((plcL V a).length = n1) := hid (by rw [plcL_len, HA.out])
 have LP2 : Hid ((plcL V b).length = n2) := hid (by rw [plcL_len, HB.out])
 go_cut [14, 15] from 68 to 82 (fun v14 v15 wx => v15 = .int .i64 0 ∧ ∃ ba g' h', v14 = .pointer (some ⟨ba, 0, none⟩) ∧ Boxed wx ba 58 (.pointer (some ⟨g', 0, none⟩)) ∧ TabAt wx g' h' (joinL m (plcL V a) l1 (plcL V b) l2) k (fun _ => 0) ∧ wb.heap.size ≤ ba ∧ wb.heap.size ≤ g' ∧ wb.heap.size ≤ h' ∧ Below wb.heap.size wb wx)
 case first =>
  refine wp_region_noPanic ?_
  refine wp_region_held_drew (S := fun W => HoldJ wb w.heap.size (w.heap.size + 1) b1 (b1 + 1) g1 g2 (.slice (some ⟨gA, 0, none⟩) n1 n1) (.slice (some ⟨gB, 0, none⟩) n2 n2) k W) (by kernel_rfl) (HH.out.to ((Below.refl _ _).drew)) (fun hHeld => ?_)
  generalize wb.drew = w6 at hHeld ⊢
  refine wt 0 ?r101
  refine wt 1 ?r102
  refine wt 2 ?r103
  refine wt 3 ?r104
  refine wt 4 ?r105
  refine wt 5 ?r106
  refine wt 7 ?r107
  refine wt 8 ?r108
  refine wt 9 ?r109
  refine wt 10 ?r110
  refine wpAnyH_ready (rs := [6, 15]) (by kernel_rfl) (by simp) ?_
  refine AllReadyH.cons rfl (fun K hK => ?_) ?_
  ·go_simp
   refine (joined_any m g1 h1 n1 n1 g2 h2 n2 n2 (some ⟨gA, 0, none⟩) (some ⟨gB, 0, none⟩) l1 l2 (plcL V a) (plcL V b) k k z1 z2 _ (TA.out.below hHeld.below) (TB.out.below hHeld.below) HL1.out HL2.out LP1.out LP2.out (JA.out.below hHeld.below (Nat.le_refl _)) (JB.out.below hHeld.below (Nat.le_refl _)) h61 h62 (by omega) Q1.out Q2.out).mono ?_
   rintro e wS ⟨rfl, hI, hb⟩
   have IN := hid hI
   have HB := hid hb
   clear hI hb
   refine hK.out _ _ (HH.out.to (hHeld.below.trans (HB.out.mono hHeld.below.size))) (fun hHeld' => ?_)
   replace hHeld := hHeld'
   clear hHeld'
   clear hK K
   try simp only [Act.put, pa, pb, pc, pd, pe, pf]
   refine wpAnyH_ready (rs := [11, 15]) (by kernel_rfl) (by simp) ?_
   refine AllReadyH.cons rfl (fun K hK => ?_) ?_
   ·go_simp
    refine (tnew_ok _ m m (joinL m (plcL V a) l1 (plcL V b) l2) k 0 _ (joinL_len _ _ _ _ _).symm (by rw [joinL_len]; exact hV6) IN.out HJ.out (by rw [HP.out]; omega) hk1 hk2 (Int.le_refl _) (by omega)).mono ?_
    rintro e wN ⟨g', h', rfl, hTab, hg', hh', hb⟩
    have TN := hid hTab
    have G1 : wb.heap.size ≤ g' := Nat.le_trans hHeld.below.size hg'
    have G2 : wb.heap.size ≤ h' := Nat.le_trans hHeld.below.size hh'
    have HB := hid hb
    clear hTab hb hg' hh'
    refine hK.out _ _ (HH.out.to (hHeld.below.trans (HB.out.mono hHeld.below.size))) (fun hHeld' => ?_)
    replace hHeld := hHeld'
    clear hHeld'
    clear hK K
    try simp only [Act.put, pa, pb, pc, pd, pe, pf]
    refine wt 12 ?r111
    refine wt 13 ?r112
    refine wt 14 ?r113
    refine wr1 15 (fun K hK => ?_)
    go_simp
    obtain ⟨ba, hba⟩ : ∃ b, wN.heap.size = b := ⟨_, rfl⟩
    have na := new_val wN (.cells #[.pointer none] 58)
    have AL := hid (Boxed.new wN 58 (.pointer none))
    have LB := hHeld.below.size
    have TN := hid (TN.out.below na)
    have HB := hid na
    clear na
    refine hK.out _ _ (HH.out.to (hHeld.below.trans (HB.out.mono hHeld.below.size))) (fun hHeld' => ?_)
    replace hHeld := hHeld'
    clear hHeld'
    rw [hba] at AL LB
    try rw [hba]
    generalize wN.alloc (.cells #[.pointer none] 58) = wA at AL hHeld TN ⊢
    clear hK K
    try simp only [Act.put, pa, pb, pc, pd, pe, pf]
    refine wr1 16 (fun K hK => ?_)
    have ac := AL.out.cell
    have af := AL.out.frozen
    go_simp
    clear ac af
    have HB := hid (hHeld.below.setCell (p := ⟨ba, 0, none⟩) LB (.pointer (some ⟨g', 0, none⟩)))
    have AF := hid (Boxed.set (.pointer (some ⟨g', 0, none⟩)) AL.out)
    have TF := hid (tab_other TN.out AL.out (.pointer (some ⟨g', 0, none⟩)))
    refine hK.out _ _ (HH.out.to HB.out) (fun hHeld' => ?_)
    replace hHeld := hHeld'
    clear hHeld'
    clear hK K
    try simp only [Act.put, pa, pb, pc, pd, pe, pf]
    refine wt 17 ?r114
    refine wpAnyH_done (by kernel_rfl) ?_ _
    refine NoPanic.normal ?_
    go_wp2_with fail
    go_meet
    case rel => exact ⟨rfl, ba, g', h', rfl, AF.out, TF.out, LB, G1, G2, hHeld.below⟩
   refine AllReadyH.cons rfl (fun K hK => ?_) AllReadyH.nil
   go_simp
   obtain ⟨ba, hba⟩ : ∃ b, wS.heap.size = b := ⟨_, rfl⟩
   have na := new_val wS (.cells #[.pointer none] 58)
   have AL := hid (Boxed.new wS 58 (.pointer none))
   have LB := hHeld.below.size
   have IN := hid (IN.out.below na (Nat.le_refl _))
   have HB := hid na
   clear na
   refine hK.out _ _ (HH.out.to (hHeld.below.trans (HB.out.mono hHeld.below.size))) (fun hHeld' => ?_)
   replace hHeld := hHeld'
   clear hHeld'
   rw [hba] at AL LB
   try rw [hba]
   generalize wS.alloc (.cells #[.pointer none] 58) = wA at AL hHeld IN ⊢
   clear hK K
   try simp only [Act.put, pa, pb, pc, pd, pe, pf]
   refine wr1 11 (fun K hK => ?_)
   go_simp
   refine (tnew_ok _ m m (joinL m (plcL V a) l1 (plcL V b) l2) k 0 _ (joinL_len _ _ _ _ _).symm (by rw [joinL_len]; exact hV6) IN.out HJ.out (by rw [HP.out]; omega) hk1 hk2 (Int.le_refl _) (by omega)).mono ?_
   rintro e wN ⟨g', h', rfl, hTab, hg', hh', hb⟩
   have AL : Hid (Boxed _ ba _ _) := hid ((hb.block _ AL.out.lt).trans AL.out)
   have TN := hid hTab
   have G1 : wb.heap.size ≤ g' := Nat.le_trans hHeld.below.size hg'
   have G2 : wb.heap.size ≤ h' := Nat.le_trans hHeld.below.size hh'
   have HB := hid hb
   clear hTab hb hg' hh'
   refine hK.out _ _ (HH.out.to (hHeld.below.trans (HB.out.mono hHeld.below.size))) (fun hHeld' => ?_)
   replace hHeld := hHeld'
   clear hHeld'
   clear hK K
   try simp only [Act.put, pa, pb, pc, pd, pe, pf]
   refine wt 12 ?r115
   refine wt 13 ?r116
   refine wt 14 ?r117
   refine wr1 16 (fun K hK => ?_)
   have ac := AL.out.cell
   have af := AL.out.frozen
   go_simp
   clear ac af
   have HB := hid (hHeld.below.setCell (p := ⟨ba, 0, none⟩) LB (.pointer (some ⟨g', 0, none⟩)))
   have AF := hid (Boxed.set (.pointer (some ⟨g', 0, none⟩)) AL.out)
   have TF := hid (tab_other TN.out AL.out (.pointer (some ⟨g', 0, none⟩)))
   refine hK.out _ _ (HH.out.to HB.out) (fun hHeld' => ?_)
   replace hHeld := hHeld'
   clear hHeld'
   clear hK K
   try simp only [Act.put, pa, pb, pc, pd, pe, pf]
   refine wt 17 ?r118
   refine wpAnyH_done (by kernel_rfl) ?_ _
   refine NoPanic.normal ?_
   go_wp2_with fail
   go_meet
   case rel => exact ⟨rfl, ba, g', h', rfl, AF.out, TF.out, LB, G1, G2, hHeld.below⟩
  refine AllReadyH.cons rfl (fun K hK => ?_) AllReadyH.nil
  go_simp
  obtain ⟨ba, hba⟩ : ∃ b, w6.heap.size = b := ⟨_, rfl⟩
  have na := new_val w6 (.cells #[.pointer none] 58)
  have AL := hid (Boxed.new w6 58 (.pointer none))
  have LB := hHeld.below.size
  have HB := hid na
  clear na
  refine hK.out _ _ (HH.out.to (hHeld.below.trans (HB.out.mono hHeld.below.size))) (fun hHeld' => ?_)
  replace hHeld := hHeld'
  clear hHeld'
  rw [hba] at AL LB
  try rw [hba]
  generalize w6.alloc (.cells #[.pointer none] 58) = wA at AL hHeld ⊢
  clear hK K
  try simp only [Act.put, pa, pb, pc, pd, pe, pf]
  refine wr1 6 (fun K hK => ?_)
  go_simp
  refine (joined_any m g1 h1 n1 n1 g2 h2 n2 n2 (some ⟨gA, 0, none⟩) (some ⟨gB, 0, none⟩) l1 l2 (plcL V a) (plcL V b) k k z1 z2 _ (TA.out.below hHeld.below) (TB.out.below hHeld.below) HL1.out HL2.out LP1.out LP2.out (JA.out.below hHeld.below (Nat.le_refl _)) (JB.out.below hHeld.below (Nat.le_refl _)) h61 h62 (by omega) Q1.out Q2.out).mono ?_
  rintro e wS ⟨rfl, hI, hb⟩
  have AL : Hid (Boxed _ ba _ _) := hid ((hb.block _ AL.out.lt).trans AL.out)
  have IN := hid hI
  have HB := hid hb
  clear hI hb
  refine hK.out _ _ (HH.out.to (hHeld.below.trans (HB.out.mono hHeld.below.size))) (fun hHeld' => ?_)
  replace hHeld := hHeld'
  clear hHeld'
  clear hK K
  try simp only [Act.put, pa, pb, pc, pd, pe, pf]
  refine wr1 11 (fun K hK => ?_)
  go_simp
  refine (tnew_ok _ m m (joinL m (plcL V a) l1 (plcL V b) l2) k 0 _ (joinL_len _ _ _ _ _).symm (by rw [joinL_len]; exact hV6) IN.out HJ.out (by rw [HP.out]; omega) hk1 hk2 (Int.le_refl _) (by omega)).mono ?_
  rintro e wN ⟨g', h', rfl, hTab, hg', hh', hb⟩
  have AL : Hid (Boxed _ ba _ _) := hid ((hb.block _ AL.out.lt).trans AL.out)
  have TN := hid hTab
  have G1 : wb.heap.size ≤ g' := Nat.le_trans hHeld.below.size hg'
  have G2 : wb.heap.size ≤ h' := Nat.le_trans hHeld.below.size hh'
  have HB := hid hb
  clear hTab hb hg' hh'
  refine hK.out _ _ (HH.out.to (hHeld.below.trans (HB.out.mono hHeld.below.size))) (fun hHeld' => ?_)
  replace hHeld := hHeld'
  clear hHeld'
  clear hK K
  try simp only [Act.put, pa, pb, pc, pd, pe, pf]
  refine wt 12 ?r119
  refine wt 13 ?r120
  refine wt 14 ?r121
  refine wr1 16 (fun K hK => ?_)
  have ac := AL.out.cell
  have af := AL.out.frozen
  go_simp
  clear ac af
  have HB := hid (hHeld.below.setCell (p := ⟨ba, 0, none⟩) LB (.pointer (some ⟨g', 0, none⟩)))
  have AF := hid (Boxed.set (.pointer (some ⟨g', 0, none⟩)) AL.out)
  have TF := hid (tab_other TN.out AL.out (.pointer (some ⟨g', 0, none⟩)))
  refine hK.out _ _ (HH.out.to HB.out) (fun hHeld' => ?_)
  replace hHeld := hHeld'
  clear hHeld'
  clear hK K
  try simp only [Act.put, pa, pb, pc, pd, pe, pf]
  refine wt 17 ?r122
  refine wpAnyH_done (by kernel_rfl) ?_ _
  refine NoPanic.normal ?_
  go_wp2_with fail
  go_meet
  case rel => exact ⟨rfl, ba, g', h', rfl, AF.out, TF.out, LB, G1, G2, hHeld.below⟩
 case rest =>
  obtain ⟨rfl, ba, g', h', rfl, hba, hta, LB, G1, G2, hbel⟩ := hcut
  have BX := hid hba
  have TX := hid hta
  have BC := hid hbel
  have n1' : ba ≠ h' := fun e => by
   subst e
   obtain ⟨cur, hc, _⟩ := hta.costs
   have := hc.symm.trans hba
   simp at this
  have n3 : g' ≠ h' := hta.apart
  have ac := hba.cell
  obtain ⟨c0, c1', c2', c3, c4, c5, c6, c7, c8⟩ := hta.cells
  clear hba hta hbel
  go_wp2_with (go_at_call 143; refine (all_call (joinL m (plcL V a) l1 (plcL V b) l2) wc).mono ?_; rintro e wq ⟨rfl, rfl⟩)
  have nb := new_val wc (shO (joinL m (plcL V a) l1 (plcL V b) l2))
  have SB := hid (ShAt.new wc (joinL m (plcL V a) l1 (plcL V b) l2))
  have hz0 : wc.heap.size < (wc.alloc (shO (joinL m (plcL V a) l1 (plcL V b) l2))).heap.size := by simp
  have TZ' := hid (TX.out.below nb)
  have AZ' : Hid (Boxed _ _ _ _) := hid (box_below BX.out nb)
  have BW := hid (BC.out.trans (nb.mono BC.out.size))
  have hba : ba < wc.heap.size := BX.out.lt
  have hg' : g' < wc.heap.size := World.block_lt_of_cell? wc _ c0
  have hh' : h' < wc.heap.size := by obtain ⟨cur, hc, _⟩ := TX.out.costs; exact (Array.getElem?_eq_some_iff.1 hc).1
  clear c0 c1' c2' c3 c4 c5 c6 c7 c8 ac nb
  generalize wc.alloc (shO (joinL m (plcL V a) l1 (plcL V b) l2)) = W0 at SB TZ' AZ' BW hz0 ⊢
  have c8 := TZ'.out.cells.2.2.2.2.2.2.2.2
  have c7 := TZ'.out.cells.2.2.2.2.2.2.2.1
  rw [HP.out] at c8
  have HQ : Hid (HoldK wb w.heap.size (w.heap.size + 1) b1 (b1 + 1) g1 g2 (.slice (some ⟨gA, 0, none⟩) n1 n1) (.slice (some ⟨gB, 0, none⟩) n2 n2) k ba g' h' P W0) := hid (HoldK.mk HH.out BW.out AZ'.out.cell c7 c8)
  have I0 : Hid (TrnI W0 h' P (joinZ (joinL m (plcL V a) l1 (plcL V b) l2) (plcL V a) (plcL V b) l1 l2 z1 z2 k) 0 W0) := by
   obtain ⟨cur, hc, hcs, hcz⟩ := TZ'.out.costs
   rw [HP.out] at hcs hcz
   exact hid ⟨Kept2.refl _ _ _, ⟨cur, hc, hcs, fun j hj => (hcz j hj).trans (by simp)⟩⟩
  clear c8 c7
  refine (wpIn_wide (n := 3)).1 (range_good (by omega) (gf := 186) (lb := #[.pointer (some ⟨wc.heap.size, 0, none⟩)]) rfl (enters_of Tryz.func186 (by kernel_rfl) rfl)
   (all_goodx 2 (by omega) (joinL m (plcL V a) l1 (plcL V b) l2) P wc.heap.size (by rw [joinL_len]; exact hV6) HJ.out HP.out hP4 W0 SB.out) (by omega) (fun _ => rfl) (fun B pre x => goodX_own (joinL m (plcL V a) l1 (plcL V b) l2) B _ pre x)
   (fun pre W => TrnI W0 h' P (joinZ (joinL m (plcL V a) l1 (plcL V b) l2) (plcL V a) (plcL V b) l1 l2 z1 z2 k) pre.length W) trnI_from I0.out ?a1 ?assign ?body ?done)
  case assign =>
   intro y x W K hK
   gi_wp2
   exact hK
  case body =>
   rintro y pre ⟨i, v⟩ Wp W hy hloop hIp hI heq ⟨hi, hiP, hO, bt, hv⟩
   obtain rfl : i = pre.length := hi
   have hiP : pre.length < prodL (joinL m (plcL V a) l1 (plcL V b) l2) := hiP
   have hv : v = .slice (some ⟨bt, 0, none⟩) (joinL m (plcL V a) l1 (plcL V b) l2).length (joinL m (plcL V a) l1 (plcL V b) l2).length := hv
   have hO : Own W Wp.heap.size v (tupL (joinL m (plcL V a) l1 (plcL V b) l2) pre.length) := hO
   subst hv
   obtain ⟨At, ct, hv', hT⟩ := hO.form
   rw [tupL_length] at hv'
   obtain ⟨rfl, rfl⟩ : some ⟨bt, 0, none⟩ = At ∧ (joinL m (plcL V a) l1 (plcL V b) l2).length = ct := by injection hv' with a b c; exact ⟨a, c⟩
   rw [joinL_len]
   obtain ⟨j, hj⟩ : ∃ j, pre.length = j := ⟨_, rfl⟩
   have HN := hid hj
   rw [hj] at hiP hI hT
   have hjP : j < P := by rw [← HP.out]; exact hiP
   have hsz : W0.heap.size ≤ W.heap.size := by obtain ⟨r, hr⟩ := hloop; have := (Array.getElem?_eq_some_iff.1 hr).1; omega
   have hBsW : wc.heap.size < W.heap.size := by omega
   have TUP : Hid (InL (joinL m (plcL V a) l1 (plcL V b) l2) (tupL (joinL m (plcL V a) l1 (plcL V b) l2) j)) := hid (tupL_in (fun n hn => (HJ.out n hn).1) j)
   have TI1 : Hid (InL l1 (pickL (tupL (joinL m (plcL V a) l1 (plcL V b) l2) j) (plcL V a))) := hid (by have h := inL_pick_Tt2 (s := plcL V a) TUP.out (fun i hi => by rw [joinL_len]; exact Q1.out i (by rw [← LP1.out]; exact hi)); rw [P1.out] at h; exact h)
   have TI2 : Hid (InL l2 (pickL (tupL (joinL m (plcL V a) l1 (plcL V b) l2) j) (plcL V b))) := hid (by have h := inL_pick_Tt2 (s := plcL V b) TUP.out (fun i hi => by rw [joinL_len]; exact Q2.out i (by rw [← LP2.out]; exact hi)); rw [P2.out] at h; exact h)
   have q0 : (0 : Int) ≤ (j : Int) := by omega
   have q1 : (j : Int) < (P : Int) := by omega
   have IT := hid hT
   have HR0 := hid (HoldK.of HH.out HQ.out hI.kept G2 n1' n3)
   have OR : Hid (TrnR W0 h' P (joinZ (joinL m (plcL V a) l1 (plcL V b) l2) (plcL V a) (plcL V b) l1 l2 z1 z2 k) j wc.heap.size W W) := hid ⟨hI, KeepsFrom.refl _ _, Keep1.refl _ _⟩
   clear hI hIp hO hT heq hloop hv' hiP TUP
   rw [hj]
   clear hj
   gi_wp2
   refine region_round_held (S := fun W => HoldK wb w.heap.size (w.heap.size + 1) b1 (b1 + 1) g1 g2 (.slice (some ⟨gA, 0, none⟩) n1 n1) (.slice (some ⟨gB, 0, none⟩) n2 n2) k ba g' h' P W) y (by kernel_rfl) (by kernel_rfl) ?hq1 (holdK HR0.out ((Below.refl _ _).drew)) (fun hHeld => ?_)
   case hq1 => rintro ⟨a', w', h⟩; exact h
   have IT := hid (IT.out.below ((Below.refl W.heap.size W).drew) (Nat.le_refl _))
   have OR := hid (OR.out.next hBsW ((Below.refl W.heap.size W).drew))
   clear HR0
   generalize W.drew = w6 at hHeld IT OR ⊢
   refine wt 0 ?r501
   refine wt 1 ?r502
   refine wt 2 ?r503
   refine wr1 3 (fun K hK => ?_)
   go_simp
   refine (picked_any (some ⟨bt, 0, none⟩) (some ⟨gA, 0, none⟩) m m n1 n1 (tupL (joinL m (plcL V a) l1 (plcL V b) l2) j) (plcL V a) w6 (by rw [tupL_length, joinL_len]) LP1.out IT.out (JA.out.below hHeld.below (Nat.le_refl _)) Q1.out (by omega)).mono ?_
   rintro e wI ⟨rfl, hI2, hb1⟩
   have IX := hid hI2
   have IT := hid (IT.out.below hb1 (Nat.le_refl _))
   have OR := hid (OR.out.next hBsW hb1)
   have HB := hid hb1
   clear hI2 hb1
   refine hK.out _ _ (holdK hHeld HB.out) (fun hHeld' => ?_)
   replace hHeld := hHeld'
   clear hHeld'
   clear hK K
   try simp only [Act.put, pa, pb, pc, pd, pe, pf]
   refine wr1 4 (fun K hK => ?_)
   go_simp
   refine (tget_ok g1 h1 _ n1 n1 (numL l1 (pickL (tupL (joinL m (plcL V a) l1 (plcL V b) l2) j) (plcL V a))) l1 (pickL (tupL (joinL m (plcL V a) l1 (plcL V b) l2) j) (plcL V a)) k z1 wI (TA.out.below hHeld.below) (by rw [pickL_len, LP1.out]) (by rw [HL1.out]; omega) H31.out IX.out TI1.out rfl TI1.out.num_lt).mono ?_
   rintro e wJ ⟨rfl, hb1⟩
   have IT := hid (IT.out.below hb1 (Nat.le_refl _))
   have OR := hid (OR.out.next hBsW hb1)
   have HB := hid hb1
   clear hb1 IX
   refine hK.out _ _ (holdK hHeld HB.out) (fun hHeld' => ?_)
   replace hHeld := hHeld'
   clear hHeld'
   clear hK K
   try simp only [Act.put, pa, pb, pc, pd, pe, pf]
   refine wt 5 ?r504
   refine wt 6 ?r505
   refine wt 7 ?r506
   refine wt 8 ?r507
   refine wt 9 ?r508
   refine wpAnyH_done (by kernel_rfl) ?_ _
   gi_wp2
   refine region_round_held (S := fun W => HoldK wb w.heap.size (w.heap.size + 1) b1 (b1 + 1) g1 g2 (.slice (some ⟨gA, 0, none⟩) n1 n1) (.slice (some ⟨gB, 0, none⟩) n2 n2) k ba g' h' P W) y (by kernel_rfl) (by kernel_rfl) ?hq2 (holdK hHeld ((Below.refl _ _).drew)) (fun hHeld' => ?_)
   case hq2 => rintro ⟨a', w', h⟩; exact h
   replace hHeld := hHeld'
   clear hHeld'
   have IT := hid (IT.out.below ((Below.refl wJ.heap.size wJ).drew) (Nat.le_refl _))
   have OR := hid (OR.out.next hBsW ((Below.refl wJ.heap.size wJ).drew))
   generalize wJ.drew = w7 at hHeld IT OR ⊢
   refine wt 0 ?r601
   refine wt 1 ?r602
   refine wt 2 ?r603
   refine wr1 3 (fun K hK => ?_)
   go_simp
   refine (picked_any (some ⟨bt, 0, none⟩) (some ⟨gB, 0, none⟩) m m n2 n2 (tupL (joinL m (plcL V a) l1 (plcL V b) l2) j) (plcL V b) w7 (by rw [tupL_length, joinL_len]) LP2.out IT.out (JB.out.below hHeld.below (Nat.le_refl _)) Q2.out (by omega)).mono ?_
   rintro e wK ⟨rfl, hI2, hb1⟩
   have IX := hid hI2
   have IT := hid (IT.out.below hb1 (Nat.le_refl _))
   have OR := hid (OR.out.next hBsW hb1)
   have HB := hid hb1
   clear hI2 hb1
   refine hK.out _ _ (holdK hHeld HB.out) (fun hHeld' => ?_)
   replace hHeld := hHeld'
   clear hHeld'
   clear hK K
   try simp only [Act.put, pa, pb, pc, pd, pe, pf]
   refine wr1 4 (fun K hK => ?_)
   go_simp
   refine (tget_ok g2 h2 _ n2 n2 (numL l2 (pickL (tupL (joinL m (plcL V a) l1 (plcL V b) l2) j) (plcL V b))) l2 (pickL (tupL (joinL m (plcL V a) l1 (plcL V b) l2) j) (plcL V b)) k z2 wK (TB.out.below hHeld.below) (by rw [pickL_len, LP2.out]) (by rw [HL2.out]; omega) H32.out IX.out TI2.out rfl TI2.out.num_lt).mono ?_
   rintro e wL ⟨rfl, hb1⟩
   have IT := hid (IT.out.below hb1 (Nat.le_refl _))
   have OR := hid (OR.out.next hBsW hb1)
   have HB := hid hb1
   clear hb1 IX
   refine hK.out _ _ (holdK hHeld HB.out) (fun hHeld' => ?_)
   replace hHeld := hHeld'
   clear hHeld'
   clear hK K
   try simp only [Act.put, pa, pb, pc, pd, pe, pf]
   refine wt 5 ?r604
   refine wt 6 ?r605
   refine wt 7 ?r606
   refine wt 8 ?r607
   refine wt 9 ?r608
   refine wpAnyH_done (by kernel_rfl) ?_ _
   gi_wp2
   refine region_round_held (S := fun W => HoldK wb w.heap.size (w.heap.size + 1) b1 (b1 + 1) g1 g2 (.slice (some ⟨gA, 0, none⟩) n1 n1) (.slice (some ⟨gB, 0, none⟩) n2 n2) k ba g' h' P W) y (by kernel_rfl) (by kernel_rfl) ?hq3 (holdK hHeld ((Below.refl _ _).drew)) (fun hHeld' => ?_)
   case hq3 => rintro ⟨a', w', h⟩; exact h
   replace hHeld := hHeld'
   clear hHeld'
   have IT := hid (IT.out.below ((Below.refl wL.heap.size wL).drew) (Nat.le_refl _))
   have OR := hid (OR.out.next hBsW ((Below.refl wL.heap.size wL).drew))
   generalize wL.drew = w8 at hHeld IT OR ⊢
   refine wt 0 ?r701
   refine wt 1 ?r702
   refine wt 2 ?r703
   refine wt 3 ?r704
   refine wt 4 ?r705
   refine wt 5 ?r706
   refine wt 6 ?r707
   refine wt 7 ?r708
   refine wt 8 ?r709
   refine wt 9 ?r710
   refine wt 10 ?r711
   refine wr1 11 (fun K hK => ?_)
   go_simp
   refine (add_yes _ _ k w8 hk1 hk2 (HZ1.out _ TI1.out.num_lt).1 (HZ1.out _ TI1.out.num_lt).2 (HZ2.out _ TI2.out.num_lt).1 (HZ2.out _ TI2.out.num_lt).2).mono ?_
   rintro e wZ ⟨rfl, rfl⟩
   refine hK.out _ _ (hHeld) (fun hHeld' => ?_)
   replace hHeld := hHeld'
   clear hHeld'
   clear hK K
   try simp only [Act.put, pa, pb, pc, pd, pe, pf]
   refine wt 12 ?r712
   refine wt 13 ?r713
   refine wt 14 ?r714
   refine wt 15 ?r715
   refine wr1 16 (fun K hK => ?_)
   have kc := OR.out.inv.costs.cell hjP
   have kf := OR.out.inv.costs.frozen j
   go_simp
   clear kc kf
   refine hK.out _ _ (holdK_set HH.out hHeld G2 n1' n3 j _) (fun hHeld' => ?_)
   replace hHeld := hHeld'
   clear hHeld'
   clear hK K
   try simp only [Act.put, pa, pb, pc, pd, pe, pf]
   refine wpAnyH_done (by kernel_rfl) ?_ _
   gi_wp2_with fail
   have FIN := OR.out.fin (x := capA (z1 (numL l1 (pickL (tupL (joinL m (plcL V a) l1 (plcL V b) l2) j) (plcL V a)))) (z2 (numL l2 (pickL (tupL (joinL m (plcL V a) l1 (plcL V b) l2) j) (plcL V b)))) k) (by omega) rfl
   exact ⟨FIN.kf, FIN.k1, by show TrnI W0 h' P (joinZ (joinL m (plcL V a) l1 (plcL V b) l2) (plcL V a) (plcL V b) l1 l2 z1 z2 k) (pre ++ [_]).length _; rw [List.length_append, HN.out]; exact FIN.inv⟩
  case done =>
   rintro D xs W hD hS hI hK
   have hS : xs.length = P := hS
   rw [hS] at hI
   have SZ : Hid (w.heap.size ≤ g' ∧ w.heap.size ≤ h') := hid ⟨by omega, by omega⟩
   have k1 : W.cell? ⟨ba, 0, none⟩ = some (.pointer (some ⟨g', 0, none⟩)) := (World.cell?_of_block (a := ⟨ba, 0, none⟩) (hI.kept.block ba (by omega) n1' n1')).trans AZ'.out.cell
   have HI := hid hI
   have HKD := hid hK
   clear hI hK hS
   go_wp2_with fail
   refine ⟨by simp, .inl ⟨_, _, rfl, run_takeDeferred HKD.out, ?_⟩⟩
   have em := HM.out
   subst em
   have bW : Below wb.heap.size wb W := HI.out.kept.below BW.out (Nat.le_refl _) (by omega) (by omega)
   refine ⟨_, results_tmp3 rfl _ _ _, g', h', Av, cv, rfl, ?_, IV.out.below (bW.trans (belowK_b (w := wb) (Nat.le_refl _) W D _ _ (by omega) HKD.out rfl rfl)) (Nat.le_refl _), SZ.out.1, SZ.out.2, ?_⟩
   ·obtain ⟨cur, hc, hcs, hcz⟩ := HI.out.costs
    refine ⟨(World.putObj_heap_other (by omega)).trans ((HI.out.kept.block g' (by omega) n3 n3).trans TZ'.out.row), cur, (World.putObj_heap_other (by omega)).trans hc, by rw [HP.out]; exact hcs, fun i hi => ?_⟩
    rw [HP.out] at hi
    exact (hcz i hi).trans (congrArg some (congrArg (Value.int .i64) (if_pos hi)))
   exact (B15.out.trans (bW.mono hwz)).trans (belowK_b (w := w) (Nat.le_refl _) W D _ _ (by omega) HKD.out rfl rfl)
end Go.Proofs.YtmokogkndbinlaaGreatDoor
