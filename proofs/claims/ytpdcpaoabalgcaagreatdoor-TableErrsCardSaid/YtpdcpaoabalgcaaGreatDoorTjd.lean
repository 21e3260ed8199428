/- Contract of Join where a variable has two sizes, and of Join of any two rising lists (no statement of its own). -/
import Derived.Test.YtpdcpaoabalgcaaGreatDoorTj8
import Derived.Test.YtpdcpaoabalgcaaGreatDoorTjB
namespace Go.Proofs.YtpdcpaoabalgcaaGreatDoor
open Go.RowKit Go.Shelf Go.Sort
set_option linter.unusedVariables false
attribute [local go_sem] Oper.semAt_some
theorem agB_iff {a b l1 l2 : List Nat} (hb : Rises b) : AgB a b l1 l2 = true ↔ ∀ i j, i < a.length → j < b.length → nth a i = nth b j → nth l1 i = nth l2 j := by
  have sb := rises_lt hb
  rw [AgB, List.all_eq_true]
  constructor
  · intro h i j hi hj e
    have hg := h i (List.mem_range.2 hi)
    have hc : b.contains (nth a i) = true := by rw [e]; exact List.contains_iff_mem.2 (nth_mem hj)
    rw [AgAt, hc, e, cnt_nth sb hj] at hg
    simpa using hg
  · intro h i hi
    have hi := List.mem_range.1 hi
    rw [AgAt]
    by_cases hc : b.contains (nth a i) = true
    · have hm := nth_cnt sb (List.contains_iff_mem.1 hc)
      rw [hc, h i _ hi hm.1 hm.2.symm]
      simp
    · simp at hc
      simp [hc]
theorem agB_swap {a b l1 l2 : List Nat} (ha : Rises a) (hb : Rises b) (h : AgB a b l1 l2 = true) : AgB b a l2 l1 = true :=
  (agB_iff ha).2 fun i j hi hj e => ((agB_iff hb).1 h j i hj hi e.symm).symm
theorem Uni.swap {V a b : List Nat} (H : Uni V a b) : Uni V b a := ⟨H.lt, fun x => by rw [H.mem]; exact or_comm⟩
theorem joinL_swap {V a b l1 l2 : List Nat} (H : Uni V a b) (ha : Rises a) (hb : Rises b) (hl1 : l1.length = a.length) (hl2 : l2.length = b.length) (hag : AgB a b l1 l2 = true) :
    joinL V.length (plcL V b) l2 (plcL V a) l1 = joinL V.length (plcL V a) l1 (plcL V b) l2 := by
  have p1 := H.pa ha hb hl1 hl2 hag
  have p2 := H.pb (l1 := l1) hb hl2
  have p3 := H.swap.pa hb ha hl2 hl1 (agB_swap ha hb hag)
  have p4 := H.swap.pb (l1 := l2) ha hl1
  refine ext_nth (by rw [joinL_len, joinL_len]) fun p hp => ?_
  rw [joinL_len] at hp
  have hc := cnt_nth H.lt hp
  rcases (H.mem _).1 (nth_mem hp) with hx | hx
  · obtain ⟨i, hi, e⟩ := List.getElem_of_mem hx
    rw [← nth_get hi] at e
    have hpi : nth (plcL V a) i = p := by rw [plcL_nth hi, e, hc]
    have h3 := congrArg (fun t => nth t i) (p1.trans p4.symm)
    rw [pickL_nth (by rw [plcL_len]; exact hi), pickL_nth (by rw [plcL_len]; exact hi), hpi] at h3
    exact h3.symm
  · obtain ⟨i, hi, e⟩ := List.getElem_of_mem hx
    rw [← nth_get hi] at e
    have hpi : nth (plcL V b) i = p := by rw [plcL_nth hi, e, hc]
    have h3 := congrArg (fun t => nth t i) (p2.trans p3.symm)
    rw [pickL_nth (by rw [plcL_len]; exact hi), pickL_nth (by rw [plcL_len]; exact hi), hpi] at h3
    exact h3.symm
theorem capA_comm (a b k : Int) : capA a b k = capA b a k := by unfold capA; rw [Int.add_comm]
theorem joinZ_swap (J ap bp l1 l2 : List Nat) (z1 z2 : Nat → Int) (k : Int) (i : Nat) : joinZ J bp ap l2 l1 z2 z1 k i = joinZ J ap bp l1 l2 z1 z2 k i := capA_comm _ _ _
set_option maxRecDepth 100000 in
set_option maxHeartbeats 8000000 in
theorem join_no (g1 h1 n1 c1 g2 h2 n2 c2 : Nat) (A1 A2 : Option Addr) (l1 l2 a b : List Nat) (k1 k2 : Int) (z1 z2 : Nat → Int) (w : World) (T1 : TabAt w g1 h1 l1 k1 z1) (T2 : TabAt w g2 h2 l2 k2 z2)
    (hl1 : l1.length = n1) (hl2 : l2.length = n2) (ha : a.length = n1) (hb : b.length = n2) (i1 : Ints w A1 a) (i2 : Ints w A2 b) (h61 : n1 ≤ 6) (h62 : n2 ≤ 6)
    (r1 : Rises a) (r2 : Rises b) (hag : AgB a b l1 l2 = false) :
    Calls Tryz.prog 10 #[.pointer (some ⟨g1, 0, none⟩), .slice A1 n1 c1, .pointer (some ⟨g2, 0, none⟩), .slice A2 n2 c2] w fun e w' => e = .returned (.tuple #[.pointer none, .slice none 0 0, .int .i64 1]) ∧ Below w.heap.size w w' := by
  have HL1 := Lib.hid hl1
  have HL2 := Lib.hid hl2
  have HA := Lib.hid ha
  have HB := Lib.hid hb
  have HR1 := Lib.hid r1
  have HR2 := Lib.hid r2
  have HAG := Lib.hid hag
  have n1' := new_val w (.cells #[.pointer (some ⟨g1, 0, none⟩)] 26)
  have n2' := new_val (w.alloc (.cells #[.pointer (some ⟨g1, 0, none⟩)] 26)) (.cells #[.pointer (some ⟨g2, 0, none⟩)] 26)
  have B2 := Lib.hid (then_ n1' n2')
  have TA2 := Lib.hid (T1.below (then_ n1' n2'))
  have TB2 := Lib.hid (T2.below (then_ n1' n2'))
  have IA2 := Lib.hid (i1.below (then_ n1' n2') (Nat.le_refl _))
  have IB2 := Lib.hid (i2.below (then_ n1' n2') (Nat.le_refl _))
  have X2 : Hid (Boxed _ w.heap.size 26 (.pointer (some ⟨g1, 0, none⟩))) := Lib.hid (box_below (Boxed.new w 26 (.pointer (some ⟨g1, 0, none⟩))) n2')
  have Y2' := Boxed.new (w.alloc (.cells #[.pointer (some ⟨g1, 0, none⟩)] 26)) 26 (.pointer (some ⟨g2, 0, none⟩))
  have hN2 : (w.alloc (.cells #[.pointer (some ⟨g1, 0, none⟩)] 26)).heap.size = w.heap.size + 1 := by simp
  rw [hN2] at Y2'
  have Y2 := Lib.hid Y2'
  clear hl1 hl2 ha hb r1 r2 hag T1 T2 i1 i2 n1' n2' Y2' hN2
  refine (callsIn_wide (n := 3)).1 (callsIn_of_wp_marks Tryz.func10 rfl trivial ?_ rfl)
  simp only [Tryz.ntmps10, List.size_toArray, List.length_cons, List.length_nil, Nat.reduceAdd, Nat.reduceSub, Array.replicate_succ, Array.replicate_zero, List.push_toArray, List.append_toArray, List.nil_append, List.cons_append]
  refine wpIn_wide.2 ?_
  go_upto_region 1 with fail
  generalize (w.alloc (.cells #[.pointer (some ⟨g1, 0, none⟩)] 26)).alloc (.cells #[.pointer (some ⟨g2, 0, none⟩)] 26) = w2 at B2 TA2 TB2 IA2 IB2 X2 Y2 ⊢
  have x1 := X2.out.cell
  have x2 := Y2.out.cell
  go_wp2_with fail
  refine (stands_yes g1 h1 n1 c1 A1 l1 a k1 z1 w2 TA2.out HA.out HL1.out HR1.out IA2.out h61).mono ?_
  rintro e w3 ⟨rfl, b3⟩
  have B3 := Lib.hid (then_ B2.out b3)
  have TA3 := Lib.hid (TA2.out.below b3)
  have TB3 := Lib.hid (TB2.out.below b3)
  have IA3 := Lib.hid (IA2.out.below b3 (Nat.le_refl _))
  have IB3 := Lib.hid (IB2.out.below b3 (Nat.le_refl _))
  have X3 : Hid (Boxed _ _ _ _) := Lib.hid (box_below X2.out b3)
  have Y3 : Hid (Boxed _ _ _ _) := Lib.hid (box_below Y2.out b3)
  clear x1 x2 b3 B2 TA2 TB2 IA2 IB2 X2 Y2
  have x1 := X3.out.cell
  have x2 := Y3.out.cell
  go_wp2_with fail
  refine (stands_yes g2 h2 n2 c2 A2 l2 b k2 z2 w3 TB3.out HB.out HL2.out HR2.out IB3.out h62).mono ?_
  rintro e w4 ⟨rfl, b4⟩
  have B4 := Lib.hid (then_ B3.out b4)
  have TA4 := Lib.hid (TA3.out.below b4)
  have TB4 := Lib.hid (TB3.out.below b4)
  have IA4 := Lib.hid (IA3.out.below b4 (Nat.le_refl _))
  have IB4 := Lib.hid (IB3.out.below b4 (Nat.le_refl _))
  have X4 : Hid (Boxed _ _ _ _) := Lib.hid (box_below X3.out b4)
  have Y4 : Hid (Boxed _ _ _ _) := Lib.hid (box_below Y3.out b4)
  clear x1 x2 b4 B3 TA3 TB3 IA3 IB3 X3 Y3
  have x1 := X4.out.cell
  have x2 := Y4.out.cell
  go_wp2_with fail
  refine (agree_any g1 h1 n1 c1 g2 h2 n2 c2 A1 A2 l1 l2 a b k1 k2 z1 z2 w4 TA4.out TB4.out HL1.out HL2.out HA.out HB.out IA4.out IB4.out h61 h62 (rises_sorted HR2.out)).mono ?_
  rintro e w5 ⟨rfl, b5⟩
  rw [HAG.out]
  have B5 := Lib.hid (then_ B4.out b5)
  clear x1 x2 b5
  go_wp2_with fail
  exact ⟨_, results_tmp3 rfl _ _ _, rfl, B5.out⟩
/-- Join of two tables over rising variables that agree. -/
theorem join_uni (g1 h1 n1 c1 g2 h2 n2 c2 P : Nat) (A1 A2 : Option Addr) (l1 l2 a b V : List Nat) (k : Int) (z1 z2 : Nat → Int) (w : World) (T1 : TabAt w g1 h1 l1 k z1) (T2 : TabAt w g2 h2 l2 k z2)
    (hl1 : l1.length = n1) (hl2 : l2.length = n2) (ha : a.length = n1) (hb : b.length = n2) (i1 : Ints w A1 a) (i2 : Ints w A2 b) (h61 : n1 ≤ 6) (h62 : n2 ≤ 6) (e1 : A1 = none → c1 = 0) (e2 : A2 = none → c2 = 0)
    (r1 : Rises a) (r2 : Rises b) (hag : AgB a b l1 l2 = true) (HU : Uni V a b) (hV6 : V.length ≤ 6) (hs1 : ∀ n ∈ l1, 1 ≤ n ∧ n ≤ 32) (hs2 : ∀ n ∈ l2, 1 ≤ n ∧ n ≤ 32)
    (hP : prodL (joinL V.length (plcL V a) l1 (plcL V b) l2) = P) (hP4 : P ≤ 4096)
    (hk1 : 1 ≤ k) (hk2 : k ≤ 2147483648) (hz1 : ∀ i, i < prodL l1 → 0 ≤ z1 i ∧ z1 i ≤ k) (hz2 : ∀ i, i < prodL l2 → 0 ≤ z2 i ∧ z2 i ≤ k) :
    Calls Tryz.prog 10 #[.pointer (some ⟨g1, 0, none⟩), .slice A1 n1 c1, .pointer (some ⟨g2, 0, none⟩), .slice A2 n2 c2] w (JoinPost w V (plcL V a) (plcL V b) l1 l2 k z1 z2) := by
  obtain ⟨V', hV', HU'⟩ := uni_ex a b
  obtain rfl : V' = V := rise_uniq HU'.lt HU.lt fun x => by rw [HU'.mem, HU.mem]
  exact join_ok g1 h1 n1 c1 g2 h2 n2 c2 P A1 A2 l1 l2 a b V' k z1 z2 w T1 T2 hl1 hl2 ha hb i1 i2 h61 h62 e1 e2 r1 r2 hag hV' hV6 (lt_le HU.lt) (HU.pa r1 r2 (hl1.trans ha.symm) (hl2.trans hb.symm) hag) (HU.pb r2 (hl2.trans hb.symm))
    (fun i hi => HU.qa (by rw [ha]; exact hi)) (fun i hi => HU.qb (by rw [hb]; exact hi)) (HU.sizes r1 r2 (hl1.trans ha.symm) (hl2.trans hb.symm) hag hs1 hs2) (fun x hx => (hs1 x hx).2) (fun x hx => (hs2 x hx).2) hP hP4 hk1 hk2 hz1 hz2
end Go.Proofs.YtpdcpaoabalgcaaGreatDoor
