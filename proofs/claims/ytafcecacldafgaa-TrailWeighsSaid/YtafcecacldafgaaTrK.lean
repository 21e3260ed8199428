/- The contract of trail's shrink (no statement of its own). -/
import Derived.Test.YtafcecacldafgaaTrJ
namespace Go.Proofs.Ytafcecacldafgaa
open Go.RowKit
open Go.Maps (Keyed)
set_option linter.unusedVariables false
def Tr.shrink (T : Tr) (n : Nat) : Tr := if n = T.size then T else { T with size := n, fs := T.fs.take n }
theorem row2_cut {w : World} {g c n : Nat} {l : List Cl} (h : Row2 w (.slice (some ⟨g, 0, none⟩) l.length c) l) (hn : n ≤ l.length) : Row2 w (.slice (some ⟨g, 0, none⟩) n c) (l.take n) ∧ n ≤ c := by
  rcases h.2 with ⟨h', _⟩ | ⟨g', cap, cur, h', hb, hg, hnc, hcm, hcs, htake⟩
  · simp at h'
  · simp only [Value.slice.injEq, Option.some.injEq, Addr.mk.injEq, and_true, true_and] at h'
    obtain ⟨rfl, rfl⟩ := h'
    have hl : (l.take n).length = n := by rw [List.length_take]; omega
    refine ⟨⟨flat2_len _, .inr ⟨g, c, cur, by rw [hl], hb, hg, by omega, hcm, hcs, ?_⟩⟩, by omega⟩
    rw [hl, ← flat2_take, ← htake, List.take_take]
    congr 1
    omega
theorem row3_cut {w : World} {e g c n : Nat} {l : List Tri} (h : w.ownsRow 0 e 3 (.slice (some ⟨g, 0, none⟩) l.length c) l.length (flat3 l)) (hn : n ≤ l.length) : w.ownsRow 0 e 3 (.slice (some ⟨g, 0, none⟩) n c) (l.take n).length (flat3 (l.take n)) ∧ n ≤ c := by
  rcases h.2 with ⟨h', _⟩ | ⟨g', cap, cur, h', hb, hg, hnc, hcm, hcs, htake⟩
  · simp at h'
  · simp only [Value.slice.injEq, Option.some.injEq, Addr.mk.injEq, and_true, true_and] at h'
    obtain ⟨rfl, rfl⟩ := h'
    have hl : (l.take n).length = n := by rw [List.length_take]; omega
    refine ⟨⟨flat3_len _, .inr ⟨g, c, cur, by rw [hl], hb, hg, by omega, hcm, hcs, ?_⟩⟩, by omega⟩
    rw [hl, ← flat3_take, ← htake, List.take_take]
    congr 1
    omega
theorem shrink_same {P : Nat → Prop} {w : World} {b n : Nat} {T : Tr} (h : TA P w b T) (hn : n = T.size) :
    Calls Try.prog 34 #[.pointer (some ⟨b, 0, none⟩), .int .i64 (n : Int)] w (AndT P w b T (.tuple #[])) := by
  have HT := Lib.hid h
  obtain ⟨v1, v2, v3, m, h1, h2⟩ := h.parts
  have hga := World.grownBy_alloc w (.cells #[.int .i64 (n : Int)] 3) none
  have c0 := (h1.kept hga (by simp)).c0
  have k0 : (w.alloc (.cells #[.int .i64 (n : Int)] 3)).cell? ⟨w.heap.size, 0, none⟩ = some (.int .i64 (n : Int)) := by rw [cell_of_row _ _ _ _ _ _ (heap_alloc_new w _)]; rfl
  have HG := Lib.hid hga
  rw [← hn] at c0
  clear h h1 h2 hn hga
  go_enter Try.func34, Try.ntmps34
  go_upto_region 1 with fail
  generalize w.alloc (.cells #[.int .i64 (n : Int)] 3) = w1 at *
  go_quiet (fail)
  go_wp2_with fail
  refine bodyPost_ret (results_none rfl _ _ _) rfl ?_
  exact ⟨rfl, HT.out.grown (grown_drewN HG.out _), Kp.none (grown_drewN HG.out _)⟩
set_option maxRecDepth 100000 in
set_option maxHeartbeats 1000000 in
theorem shrink_some {P : Nat → Prop} {w : World} {b m n q g c : Nat} {v2 v3 : Value} {T : Tr} (h1 : Hd w b T.size T.era (.slice (some ⟨g, 0, none⟩) T.fs.length c) v2 v3 m) (h2 : Parts P w b m (.slice (some ⟨g, 0, none⟩) T.fs.length c) v2 v3 T.fs T.marks T.kept) (hn : n ≠ T.size) (hq : min n T.fs.length = q) :
    Calls Try.prog 34 #[.pointer (some ⟨b, 0, none⟩), .int .i64 (n : Int)] w (AndT P w b (T.shrink n) (.tuple #[])) := by
  have hsh : T.shrink n = { T with size := n, fs := T.fs.take q } := by
    unfold Tr.shrink
    rw [if_neg hn]
    congr 1
    subst hq
    by_cases hle : n ≤ T.fs.length
    · rw [Nat.min_eq_left hle]
    · rw [Nat.min_eq_right (by omega), List.take_of_length_le (by omega), List.take_of_length_le (Nat.le_refl _)]
  rw [hsh]
  have hga := World.grownBy_alloc w (.cells #[.int .i64 (n : Int)] 3) none
  have h1a := h1.kept hga (by simp)
  have h2a := h2.grown hga
  have c0 := h1a.c0
  have f0 := h1a.frozen 0
  have k0 : (w.alloc (.cells #[.int .i64 (n : Int)] 3)).cell? ⟨w.heap.size, 0, none⟩ = some (.int .i64 (n : Int)) := by rw [cell_of_row _ _ _ _ _ _ (heap_alloc_new w _)]; rfl
  have HK : Hid (Kp P w (w.alloc (.cells #[.int .i64 (n : Int)] 3))) := Lib.hid (Kp.none hga)
  have HH := Lib.hid h1a
  have HP := Lib.hid h2a
  have hne : ((n : Int) == (T.size : Int)) = false := by simp; omega
  have HBL := Lib.hid h1.lt
  have HQ := Lib.hid hq
  clear h1 h2 hga h1a h2a hsh hq hn
  go_enter Try.func34, Try.ntmps34
  go_upto_region 1 with fail
  generalize w.alloc (.cells #[.int .i64 (n : Int)] 3) = w1 at *
  go_quiet (fail)
  have HH1 : Hid (Hd (w1.drewN nq) b T.size T.era (.slice (some ⟨g, 0, none⟩) T.fs.length c) v2 v3 m) := HH
  have HP1 := Lib.hid (HP.out.grown (grown_drewN (World.grownBy_refl w1) nq))
  have HK1 : Hid (Kp P w (w1.drewN nq)) := Lib.hid (HK.out.trans (Kp.none (grown_drewN (World.grownBy_refl _) nq)))
  have c0' : (w1.drewN nq).cell? ⟨b, 0, none⟩ = some (.int .i64 (T.size : Int)) := c0
  have f0' : (w1.drewN nq).frozen? ⟨b, 0, none⟩ = false := f0
  have k0' : (w1.drewN nq).cell? ⟨w.heap.size, 0, none⟩ = some (.int .i64 (n : Int)) := k0
  clear HH HP HK c0 f0 k0
  generalize w1.drewN nq = w2 at *
  go_upto_region 3 with fail
  obtain ⟨hH3, hg3⟩ := HH1.out.set0 n
  have HP3 := Lib.hid (HP1.out.keptB HH1.out hg3)
  have k03 := hg3.cell k0' (by have := HBL.out; simp; omega)
  have HK3 : Hid (Kp P w (w2.setCell ⟨b, 0, none⟩ (.int .i64 (n : Int)))) := Lib.hid (HK1.out.trans (Kp.one hg3 HP1.out.pb))
  have c1 := hH3.c1
  have f1 := hH3.frozen 1
  have HH3 := Lib.hid hH3
  clear hH3 hg3 HH1 HP1 HK1 c0' f0' k0'
  generalize w2.setCell ⟨b, 0, none⟩ (.int .i64 (n : Int)) = w3 at *
  have c1d : w3.drew.cell? ⟨b, 1, none⟩ = some (.slice (some ⟨g, 0, none⟩) T.fs.length c) := c1
  have f1d : w3.drew.frozen? ⟨b, 1, none⟩ = false := f1
  have k0d : w3.drew.cell? ⟨w.heap.size, 0, none⟩ = some (.int .i64 (n : Int)) := k03
  clear c1 f1 k03
  have hmin : min (n : Int) (T.fs.length : Int) = (q : Int) := by have := HQ.out; omega
  obtain ⟨hcut, hqc⟩ := row2_cut (n := q) HP3.out.r1 (by have := HQ.out; omega)
  have hqn : q ≤ T.fs.length := by have := HQ.out; omega
  have HCUT := Lib.hid hcut
  clear hcut
  go_region
  all_goals (
    have hif : (if T.fs.length < n then (T.fs.length : Int) else (n : Int)) = (q : Int) := by have := HQ.out; split <;> omega
    simp only [hif, Int.toNat_natCast]
    clear hif
    obtain ⟨hH4, hg4⟩ := HH3.out.set1 (.slice (some ⟨g, 0, none⟩) q c)
    have hP4 : Parts P w3 b m (.slice (some ⟨g, 0, none⟩) q c) v2 v3 (T.fs.take q) T.marks T.kept := ⟨HCUT.out, HP3.out.r2, HP3.out.r3, HP3.out.e, HP3.out.pb, HP3.out.pm, HP3.out.p1, HP3.out.p2, HP3.out.p3⟩
    have hP5 := hP4.keptB HH3.out hg4
    have hgd := grown_drew (World.grownBy_refl (w3.setCell ⟨b, 1, none⟩ (.slice (some ⟨g, 0, none⟩) q c)))
    have HH5 : Hid (Hd (w3.setCell ⟨b, 1, none⟩ (.slice (some ⟨g, 0, none⟩) q c)).drew b n T.era (.slice (some ⟨g, 0, none⟩) q c) v2 v3 m) := Lib.hid (hH4.kept hgd (by simp))
    have HP5 := Lib.hid (hP5.grown hgd)
    have HK5 : Hid (Kp P w (w3.setCell ⟨b, 1, none⟩ (.slice (some ⟨g, 0, none⟩) q c)).drew) := Lib.hid ((HK3.out.trans (Kp.one hg4 HP3.out.pb)).trans (Kp.none hgd))
    clear hH4 hg4 hP4 hP5 hgd HCUT c1d f1d k0d HH3 HP3 HK3
    generalize (w3.setCell ⟨b, 1, none⟩ (.slice (some ⟨g, 0, none⟩) q c)).drew = w5 at *
    have c2 := HH5.out.c2
    have CD := Lib.hid (fun f => delete_emp f HP5.out.e)
    go_wp2_with (go_at_call 36; refine (CD.out _).mono ?_; rintro e w6 ⟨rfl, hg6⟩)
    go_end0
    exact ⟨rfl, Parts.ta (T := { T with size := n, fs := T.fs.take q }) (HP5.out.grown hg6) (HH5.out.kept hg6 (by simp)), HK5.out.trans (Kp.none hg6)⟩)
set_option maxRecDepth 100000 in
set_option maxHeartbeats 1000000 in
theorem shrink_none {P : Nat → Prop} {w : World} {b m n : Nat} {v2 v3 : Value} {T : Tr} (h1 : Hd w b T.size T.era (.slice none 0 0) v2 v3 m) (h2 : Parts P w b m (.slice none 0 0) v2 v3 T.fs T.marks T.kept) (hn : n ≠ T.size) (hl : T.fs.length = 0) :
    Calls Try.prog 34 #[.pointer (some ⟨b, 0, none⟩), .int .i64 (n : Int)] w (AndT P w b (T.shrink n) (.tuple #[])) := by
  have hsh : T.shrink n = { T with size := n, fs := T.fs.take 0 } := by
    unfold Tr.shrink
    rw [if_neg hn]
    congr 1
    rw [List.eq_nil_of_length_eq_zero hl]; simp
  rw [hsh]
  have hga := World.grownBy_alloc w (.cells #[.int .i64 (n : Int)] 3) none
  have h1a := h1.kept hga (by simp)
  have h2a := h2.grown hga
  have c0 := h1a.c0
  have f0 := h1a.frozen 0
  have k0 : (w.alloc (.cells #[.int .i64 (n : Int)] 3)).cell? ⟨w.heap.size, 0, none⟩ = some (.int .i64 (n : Int)) := by rw [cell_of_row _ _ _ _ _ _ (heap_alloc_new w _)]; rfl
  have HK : Hid (Kp P w (w.alloc (.cells #[.int .i64 (n : Int)] 3))) := Lib.hid (Kp.none hga)
  have HH := Lib.hid h1a
  have HP := Lib.hid h2a
  have hne : ((n : Int) == (T.size : Int)) = false := by simp; omega
  have HBL := Lib.hid h1.lt
  have HQ := Lib.hid hl
  clear h1 h2 hga h1a h2a hsh hl hn
  go_enter Try.func34, Try.ntmps34
  go_upto_region 1 with fail
  generalize w.alloc (.cells #[.int .i64 (n : Int)] 3) = w1 at *
  go_quiet (fail)
  have HH1 : Hid (Hd (w1.drewN nq) b T.size T.era (.slice none 0 0) v2 v3 m) := HH
  have HP1 := Lib.hid (HP.out.grown (grown_drewN (World.grownBy_refl w1) nq))
  have HK1 : Hid (Kp P w (w1.drewN nq)) := Lib.hid (HK.out.trans (Kp.none (grown_drewN (World.grownBy_refl _) nq)))
  have c0' : (w1.drewN nq).cell? ⟨b, 0, none⟩ = some (.int .i64 (T.size : Int)) := c0
  have f0' : (w1.drewN nq).frozen? ⟨b, 0, none⟩ = false := f0
  have k0' : (w1.drewN nq).cell? ⟨w.heap.size, 0, none⟩ = some (.int .i64 (n : Int)) := k0
  clear HH HP HK c0 f0 k0
  generalize w1.drewN nq = w2 at *
  go_upto_region 3 with fail
  obtain ⟨hH3, hg3⟩ := HH1.out.set0 n
  have HP3 := Lib.hid (HP1.out.keptB HH1.out hg3)
  have k03 := hg3.cell k0' (by have := HBL.out; simp; omega)
  have HK3 : Hid (Kp P w (w2.setCell ⟨b, 0, none⟩ (.int .i64 (n : Int)))) := Lib.hid (HK1.out.trans (Kp.one hg3 HP1.out.pb))
  have c1 := hH3.c1
  have f1 := hH3.frozen 1
  have HH3 := Lib.hid hH3
  clear hH3 hg3 HH1 HP1 HK1 c0' f0' k0'
  generalize w2.setCell ⟨b, 0, none⟩ (.int .i64 (n : Int)) = w3 at *
  have c1d : w3.drew.cell? ⟨b, 1, none⟩ = some (.slice none 0 0) := c1
  have f1d : w3.drew.frozen? ⟨b, 1, none⟩ = false := f1
  have k0d : w3.drew.cell? ⟨w.heap.size, 0, none⟩ = some (.int .i64 (n : Int)) := k03
  clear c1 f1 k03
  have hcut : Row2 w3 (.slice none 0 0) (T.fs.take 0) := World.ownsRow_nil _ _ _ _
  have HCUT := Lib.hid hcut
  clear hcut
  go_region
  all_goals (
    have hif : (if 0 < n then (0 : Int) else (n : Int)) = (0 : Int) := by split <;> omega
    simp only [hif, Int.toNat_zero]
    clear hif
    obtain ⟨hH4, hg4⟩ := HH3.out.set1 (.slice none 0 0)
    have hP4 : Parts P w3 b m (.slice none 0 0) v2 v3 (T.fs.take 0) T.marks T.kept := ⟨HCUT.out, HP3.out.r2, HP3.out.r3, HP3.out.e, HP3.out.pb, HP3.out.pm, HP3.out.p1, HP3.out.p2, HP3.out.p3⟩
    have hP5 := hP4.keptB HH3.out hg4
    have hgd := grown_drew (World.grownBy_refl (w3.setCell ⟨b, 1, none⟩ (.slice none 0 0)))
    have HH5 : Hid (Hd (w3.setCell ⟨b, 1, none⟩ (.slice none 0 0)).drew b n T.era (.slice none 0 0) v2 v3 m) := Lib.hid (hH4.kept hgd (by simp))
    have HP5 := Lib.hid (hP5.grown hgd)
    have HK5 : Hid (Kp P w (w3.setCell ⟨b, 1, none⟩ (.slice none 0 0)).drew) := Lib.hid ((HK3.out.trans (Kp.one hg4 HP3.out.pb)).trans (Kp.none hgd))
    clear hH4 hg4 hP4 hP5 hgd HCUT c1d f1d k0d HH3 HP3 HK3
    generalize (w3.setCell ⟨b, 1, none⟩ (.slice none 0 0)).drew = w5 at *
    have c2 := HH5.out.c2
    have CD := Lib.hid (fun f => delete_emp f HP5.out.e)
    go_wp2_with (go_at_call 36; refine (CD.out _).mono ?_; rintro e w6 ⟨rfl, hg6⟩)
    go_end0
    exact ⟨rfl, Parts.ta (T := { T with size := n, fs := T.fs.take 0 }) (HP5.out.grown hg6) (HH5.out.kept hg6 (by simp)), HK5.out.trans (Kp.none hg6)⟩)
theorem take_all {l : List Cl} {n : Nat} (h : l.length ≤ n) : l.take n = l := List.take_of_length_le h
/-- shrink, whatever there is. -/
theorem shrink_any {P : Nat → Prop} {w : World} {b n : Nat} {T : Tr} (h : TA P w b T) :
    Calls Try.prog 34 #[.pointer (some ⟨b, 0, none⟩), .int .i64 (n : Int)] w (AndT P w b (T.shrink n) (.tuple #[])) := by
  by_cases hn : n = T.size
  · have e : T.shrink n = T := by unfold Tr.shrink; rw [if_pos hn]
    rw [e]
    exact shrink_same h hn
  · obtain ⟨v1, v2, v3, m, h1, h2⟩ := h.parts
    rcases h2.r1.2 with ⟨rfl, h0⟩ | ⟨g, c, cur, rfl, _⟩
    · exact shrink_none h1 h2 hn h0
    · exact shrink_some h1 h2 hn rfl
end Go.Proofs.Ytafcecacldafgaa
