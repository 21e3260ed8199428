/- Contract of the law's awake (no statement of its own). Condition: the library's table reads as its initialiser lays it. -/
import Derived.Test.YtpdcpaoabalgcaaGreatDoorTbW
import Derived.Test.YtpdcpaoabalgcaaGreatDoorTbU
namespace Go.Proofs.YtpdcpaoabalgcaaGreatDoor
open Go.RowKit
set_option linter.unusedVariables false
open Dm (Mem mem setV setO Tab)
def czL (i : Nat) : Int := if i = 0 then 3 else if i = 1 then 5 else if i = 2 then 4 else if i = 3 then 1 else 0
def czT (i : Nat) : Int := if i < 4 then czL i else 0
theorem out_a0 : (outL [2, 2] czT 10 1 (mem 2 3) 0) = (3, 0) := by decide
theorem out_a1 : (outL [2, 2] czT 10 1 (mem 2 3) 1) = (1, 1) := by decide
theorem zs_two (w : World) (t : TypeId) (z : Nat → Int) (a b : Int) (ha : z 0 = a) (hb : z 1 = b) : Zs (w.alloc (.cells #[.int .i64 a, .int .i64 b] t)) (some ⟨w.heap.size, 0, none⟩) 2 z := by
  refine .inr ⟨w.heap.size, 0, rfl, by simp, fun i hi => ?_⟩
  rw [cell_of_row _ _ _ _ _ _ (heap_alloc_new w _)]
  rcases (by omega : i = 0 ∨ i = 1) with rfl | rfl
  · rw [ha]; rfl
  · rw [hb]; rfl
theorem lit_four (w : World) : Zs (w.alloc (.cells #[.int .i64 3, .int .i64 5, .int .i64 4, .int .i64 1] 2)) (some ⟨w.heap.size, 0, none⟩) 4 czL := by
  refine .inr ⟨w.heap.size, 0, rfl, by simp, fun i hi => ?_⟩
  rw [cell_of_row _ _ _ _ _ _ (heap_alloc_new w _)]
  rcases (by omega : i = 0 ∨ i = 1 ∨ i = 2 ∨ i = 3) with rfl | rfl | rfl | rfl <;> rfl
theorem put_four (g h a b j : Nat) (k : Int) (f : Nat → Int) (W2 W : World) (hM : MdI W2 g h [2, 2] k f j W) (hk1 : 1 ≤ k) (hk2 : k ≤ 2147483648) (ha : a < 2) (hb : b < 2) (hj : a * 2 + b = j) (h0 : 0 ≤ f j) (h1 : f j ≤ k) (hh : h < W2.heap.size) :
    Calls Tryz.prog 19 #[.pointer (some ⟨g, 0, none⟩), .slice (some ⟨W.heap.size, 0, none⟩) 2 2, .int .i64 (f j)] (W.alloc (.cells #[.int .i64 (a : Int), .int .i64 (b : Int)] 3)) fun e w' => e = .returned (.int .i64 0) ∧ MdI W2 g h [2, 2] k f (j + 1) w' := by
  have n0 := new_val W (.cells #[.int .i64 (a : Int), .int .i64 (b : Int)] 3)
  have hM' : MdI W2 g h [2, 2] k f j (W.alloc (.cells #[.int .i64 (a : Int), .int .i64 (b : Int)] 3)) := ⟨hM.tab.below n0, grown_then hM.gr (World.grownBy_alloc W _ _)⟩
  refine (tput_ok g h (some ⟨W.heap.size, 0, none⟩) 2 2 j [2, 2] [a, b] k (f j) _ _ hM'.tab rfl (by decide) (by decide) (lit_two W a b) ⟨ha, hb, trivial⟩ (by show a * (2 * 1) + (b * 1 + 0) = j; omega) (by show j < 2 * (2 * 1); omega) hk1 hk2 h0 h1).mono ?_
  rintro e w' ⟨rfl, ht, hg⟩
  exact ⟨rfl, hM'.put ht hg⟩
set_option maxRecDepth 100000 in
set_option maxHeartbeats 8000000 in
theorem awake4_true (w : World) (hT : Tab w) : Calls Tryz.prog 6 #[] w fun e w' => e = .returned (.bool true) ∧ Below w.heap.size w w' := by
  have HTab := Lib.hid hT
  have hl : ∀ n ∈ [2, 2], 1 ≤ n ∧ n ≤ 32 := by intro n hn; simp at hn; omega
  have HL := Lib.hid hl
  clear hT hl
  go_enter Tryz.func6, Tryz.ntmps6
  go_wp2_with fail
  have nl := new_val w (.cells #[.int .i64 2, .int .i64 2] 3)
  refine (tnew_ok (some ⟨w.heap.size, 0, none⟩) 2 2 [2, 2] 10 0 _ rfl (by decide) (lit_two w 2 2) HL.out (by decide) (by decide) (by decide) (by decide) (by decide)).mono ?_
  rintro e w1 ⟨g, h, rfl, hTb, hg, hh, b1⟩
  have T1 := Lib.hid hTb
  have B1 := Lib.hid (nl.trans (b1.mono nl.size))
  have S1 : Hid (w.heap.size ≤ g ∧ w.heap.size ≤ h) := Lib.hid ⟨Nat.le_trans nl.size hg, Nat.le_trans nl.size hh⟩
  have hh1 : h < w1.heap.size := by obtain ⟨cur, hc, _⟩ := hTb.costs; exact (Array.getElem?_eq_some_iff.1 hc).1
  clear hTb nl b1 hg hh
  go_upto_region 5 with fail
  have n2 := new_val w1 (.cells #[.int .i64 3, .int .i64 5, .int .i64 4, .int .i64 1] 2)
  have T2 := Lib.hid (T1.out.below n2)
  have B2 := Lib.hid (then_ B1.out n2)
  have Z2 := Lib.hid (lit_four w1)
  have hz2 : w1.heap.size < (w1.alloc (.cells #[.int .i64 3, .int .i64 5, .int .i64 4, .int .i64 1] 2)).heap.size := by simp
  clear n2
  generalize w1.alloc (.cells #[.int .i64 3, .int .i64 5, .int .i64 4, .int .i64 1] 2) = w2 at T2 B2 Z2 hz2 ⊢
  have M2 : Hid (MdI w2 g h [2, 2] 10 czL 0 w2) := Lib.hid ⟨T2.out.congr fun i _ => by simp, ⟨rfl, rfl, rfl, Nat.le_refl _, fun _ _ _ => rfl⟩⟩
  go_loopw [22] (fun i wr => ∃ j : Nat, j ≤ 4 ∧ i = .int .i64 (j : Int) ∧ MdI w2 g h [2, 2] 10 czL j wr) (fun i _ => 4 - (intOf i).toNat)
  case atStart => exact ⟨0, by omega, rfl, M2.out⟩
  case round =>
    obtain ⟨j, hj, rfl, hM⟩ := hrel
    have HM := Lib.hid hM
    have hcz : ∀ i, i < 4 → wr.cell? ⟨w1.heap.size, 0 + i, none⟩ = some (.int .i64 (czL i)) := fun i hi => by
      rcases Z2.out with h0 | ⟨g', o', e', hlt, hc⟩
      · cases h0
      · injection e' with e'
        injection e' with e1 e2
        subst e1 e2
        exact (grown_cell HM.out.gr hlt (by omega) _).trans (hc i hi)
    have HCZ := Lib.hid hcz
    clear hM hcz
    rcases (by omega : j = 0 ∨ j = 1 ∨ j = 2 ∨ j = 3 ∨ j = 4) with rfl | rfl | rfl | rfl | rfl
    · have hc := HCZ.out 0 (by omega)
      rw [Nat.zero_add, show czL 0 = 3 from rfl] at hc
      have P0 := Lib.hid (put_four g h 0 0 0 10 czL w2 wr HM.out (by decide) (by decide) (by decide) (by decide) rfl (by decide) (by decide) (by omega))
      rw [show czL 0 = 3 from rfl] at P0
      go_wp2_with (go_at_call 19; refine P0.out.mono ?_; rintro e w' ⟨rfl, hM1⟩; have HM1 := Lib.hid hM1; clear hM1)
      go_roundw
      case rel => exact ⟨1, by omega, by go_num, HM1.out⟩
      case measure => simp [intOf]
    · have hc := HCZ.out 1 (by omega)
      rw [Nat.zero_add, show czL 1 = 5 from rfl] at hc
      have P0 := Lib.hid (put_four g h 0 1 1 10 czL w2 wr HM.out (by decide) (by decide) (by decide) (by decide) rfl (by decide) (by decide) (by omega))
      rw [show czL 1 = 5 from rfl] at P0
      go_wp2_with (go_at_call 19; refine P0.out.mono ?_; rintro e w' ⟨rfl, hM1⟩; have HM1 := Lib.hid hM1; clear hM1)
      go_roundw
      case rel => exact ⟨2, by omega, by go_num, HM1.out⟩
      case measure => simp [intOf]
    · have hc := HCZ.out 2 (by omega)
      rw [Nat.zero_add, show czL 2 = 4 from rfl] at hc
      have P0 := Lib.hid (put_four g h 1 0 2 10 czL w2 wr HM.out (by decide) (by decide) (by decide) (by decide) rfl (by decide) (by decide) (by omega))
      rw [show czL 2 = 4 from rfl] at P0
      go_wp2_with (go_at_call 19; refine P0.out.mono ?_; rintro e w' ⟨rfl, hM1⟩; have HM1 := Lib.hid hM1; clear hM1)
      go_roundw
      case rel => exact ⟨3, by omega, by go_num, HM1.out⟩
      case measure => simp [intOf]
    · have hc := HCZ.out 3 (by omega)
      rw [Nat.zero_add, show czL 3 = 1 from rfl] at hc
      have P0 := Lib.hid (put_four g h 1 1 3 10 czL w2 wr HM.out (by decide) (by decide) (by decide) (by decide) rfl (by decide) (by decide) (by omega))
      rw [show czL 3 = 1 from rfl] at P0
      go_wp2_with (go_at_call 19; refine P0.out.mono ?_; rintro e w' ⟨rfl, hM1⟩; have HM1 := Lib.hid hM1; clear hM1)
      go_roundw
      case rel => exact ⟨4, by omega, by go_num, HM1.out⟩
      case measure => simp [intOf]
    · have BR := Lib.hid (B2.out.grown HM.out.gr B2.out.size (fun b e => by injection e; have := S1.out.2; omega))
      have TR := Lib.hid HM.out.tab
      have TabR := Lib.hid (HTab.out.below BR.out HTab.out.pos)
      have hzr : w.heap.size ≤ wr.heap.size := BR.out.size
      go_wp2_with fail
      have ND : Calls Tryz.prog 29 #[.int .i64 2] wr fun e w' => e = .returned (.tuple #[setV 2 3, .int .i64 0]) ∧ Below wr.heap.size wr w' := Dm.new_yes 2 wr (by omega) (by omega)
      refine ND.mono ?_
      clear ND
      rintro e w3 ⟨rfl, b3⟩
      have T3 := Lib.hid (TR.out.below b3)
      have B3 := Lib.hid (then_ BR.out b3)
      have Tab3 := Lib.hid (TabR.out.next b3)
      clear b3
      have n4 := new_val w3 (setO 2 3)
      have T4 := Lib.hid (T3.out.below n4)
      have B4 := Lib.hid (then_ B3.out n4)
      have Tab4 := Lib.hid (Tab3.out.next n4)
      have D4 := Lib.hid (heap_alloc_new w3 (setO 2 3))
      clear n4
      go_upto_region 11 with fail
      generalize w3.alloc (setO 2 3) = w4 at T4 B4 Tab4 D4 ⊢
      have d0 : w4.cell? ⟨w3.heap.size, 0, none⟩ = some (.int .i64 2) := by rw [cell_of_row _ _ _ _ _ _ D4.out]; rfl
      have d1 : w4.cell? ⟨w3.heap.size, 1, none⟩ = some (.int .u32 3) := by rw [cell_of_row _ _ _ _ _ _ D4.out]; rfl
      have CO := Lib.hid (out_ok g h 1 2 3 2 [2, 2] 10 1 czT w4 (T4.out.congr fun i _ => rfl) Tab4.out (by decide) HL.out (by decide) (by decide) rfl rfl (by decide) (by decide) (by decide) rfl)
      go_wp2_with fail
      refine (show Calls Tryz.prog 22 _ w4 _ from CO.out).mono ?_
      rintro e w5 ⟨g', h', gb, rfl, hT5, hZ5, -, -, -, b5⟩
      have T5 := Lib.hid hT5
      have Z5 := Lib.hid hZ5
      have B5 := Lib.hid (then_ B4.out b5)
      clear hT5 hZ5 b5 d0 d1
      have ent := Lib.hid (entries_any g' h' ([2, 2].eraseIdx 1) 10 _ w5 T5.out (by decide))
      have e2 : prodL ([2, 2].eraseIdx 1) = 2 := by decide
      rw [e2] at ent
      clear e2
      go_wp2_with fail
      refine ent.out.mono ?_
      rintro e w6 ⟨⟨v, rfl, hO⟩, b6⟩
      obtain ⟨Ae, ce, rfl⟩ := row_form hO
      have n7 := new_val w6 (.cells #[.int .i64 3, .int .i64 1] 2)
      have ZE := Lib.hid ((zs_row64 hO).below n7 (Nat.le_refl _))
      have Z7 := Lib.hid ((Z5.out.below b6 (Nat.le_refl _)).below n7 (Nat.le_refl _))
      have B7 := Lib.hid (then_ (then_ B5.out b6) n7)
      have ZL := Lib.hid (zs_two w6 2 (fun i => (outL [2, 2] czT 10 1 (mem 2 3) i).1) 3 1 (congrArg Prod.fst out_a0) (congrArg Prod.fst out_a1))
      clear hO b6 n7
      go_wp2_with fail
      refine (eq64_yes _ _ 2 _ _ (fun i => (outL [2, 2] czT 10 1 (mem 2 3) i).1) _ (by decide) ZE.out ZL.out).mono ?_
      rintro e w8 ⟨rfl, b8⟩
      have n9 := new_val w8 (.cells #[.int .i64 0, .int .i64 1] 3)
      have Z9 := Lib.hid ((Z7.out.below b8 (Nat.le_refl _)).below n9 (Nat.le_refl _))
      have B9 := Lib.hid (then_ (then_ B7.out b8) n9)
      have ZM := Lib.hid (zs_two w8 3 (fun i => (outL [2, 2] czT 10 1 (mem 2 3) i).2) 0 1 (congrArg Prod.snd out_a0) (congrArg Prod.snd out_a1))
      clear b8 n9
      go_wp2_with fail
      refine (eqz_yes _ _ 2 _ _ (fun i => (outL [2, 2] czT 10 1 (mem 2 3) i).2) _ (by decide) Z9.out ZM.out).mono ?_
      rintro e w10 ⟨rfl, b10⟩
      have B10 := Lib.hid (then_ B9.out b10)
      clear b10
      go_wp2_with fail
      go_ret
      exact ⟨rfl, B10.out⟩
end Go.Proofs.YtpdcpaoabalgcaaGreatDoor
