/- Slices of any integers; what is no assignment (no statement of its own). -/
import Derived.Test.YteocbgcgfllieaaGreatDoorMgT
import Derived.Test.YteocbgcgfllieaaGreatDoorMgD
namespace Go.Proofs.YteocbgcgfllieaaGreatDoor
open Go.RowKit
set_option linter.unusedVariables false
def Ext (w : World) (A : Option Addr) (n : Nat) (z : Nat → Int) : Prop := (A = none ∧ n = 0) ∨ ∃ x : Addr, A = some x ∧ ∀ j, j < n → x.block < w.heap.size ∧ w.cell? (x.add j) = some (.int .i64 (z j))
theorem Ext.below {w w' : World} {A : Option Addr} {n : Nat} {z : Nat → Int} (h : Ext w A n z) (hb : Below w.heap.size w w') : Ext w' A n z := by
  rcases h with h | ⟨x, rfl, hc⟩
  · exact .inl h
  · exact .inr ⟨x, rfl, fun j hj => ⟨Nat.lt_of_lt_of_le (hc j hj).1 hb.size, (hb.cell (p := x.add j) (by rw [block_add]; exact (hc j hj).1)).trans (hc j hj).2⟩⟩
theorem Ext.less {w : World} {A : Option Addr} {n m : Nat} {z : Nat → Int} (h : Ext w A n z) (hm : m ≤ n) : Ext w A m z := by
  rcases h with ⟨rfl, rfl⟩ | ⟨x, rfl, hc⟩
  · exact .inl ⟨rfl, by omega⟩
  · exact .inr ⟨x, rfl, fun j hj => hc j (by omega)⟩
abbrev zC (n : Nat) (z : Nat → Int) : List Value := (List.range n).map fun i => Value.int .i64 (z i)
theorem zC_get {n : Nat} {z : Nat → Int} {j : Nat} {v : Value} (h : (zC n z)[j]? = some v) : j < n ∧ v = .int .i64 (z j) := by
  simp only [zC, List.getElem?_map, Option.map_eq_some_iff] at h
  obtain ⟨x, hx, rfl⟩ := h
  have hj : j < n := by have := (List.getElem?_eq_some_iff.1 hx).1; simpa using this
  rw [List.getElem?_range hj] at hx
  injection hx with hx
  subst hx
  exact ⟨hj, rfl⟩
theorem zs_of_row {w : World} {base n : Nat} {v : Value} {z : Nat → Int} (h : w.ownsRow base 3 1 v n (zC n z)) : ∃ A c, v = .slice A n c ∧ Zs w A n z := by
  obtain ⟨_, ⟨rfl, hn⟩ | ⟨g, cap, cur, rfl, hb, hh, hm, _, hs, ht⟩⟩ := h
  · subst hn
    exact ⟨none, 0, rfl, .inl rfl⟩
  · refine ⟨_, cap, rfl, .inr ⟨g, 0, rfl, (Array.getElem?_eq_some_iff.1 hh).1, fun i hi => ?_⟩⟩
    rw [Nat.zero_add, cell_of_row w g i cur 3 (0, 0) hh]
    have e : (cur.toList.take (n * 1))[i]? = some (.int .i64 (z i)) := by rw [ht]; simp [zC, hi]
    rw [List.getElem?_take] at e
    simpa [hi] using e
theorem clone_ext (A : Option Addr) (n c : Nat) (z : Nat → Int) (w : World) (hl : n ≤ 1000000) (hw : Ext w A n z) :
    Calls Tryz.prog 13 #[.slice A n c] w fun e w' => (∃ A' c', e = .returned (.slice A' n c') ∧ Zs w' A' n z) ∧ Below w.heap.size w w' := by
  rcases hw with ⟨rfl, rfl⟩ | ⟨ad, rfl, hc⟩
  · have hq : ∀ W, (binOp .eql 23 (.slice none 0 c) (.slice none 0 0)).run Tryz.prog W = .ok (.bool true) W := fun W => Lib.run_eql_slice_nil W 23 3 none 0 c 0 0 Tryz.underlying23
    go_enter Tryz.func13, Tryz.ntmps13
    go_wp2
    go_ret
    exact ⟨⟨none, 0, rfl, .inl rfl⟩, Below.refl _ _⟩
  · obtain ⟨i0, hi, hz0, hz1, hz2⟩ := info_parts info_int
    have HI := Lib.hid hi
    have HZ0 := Lib.hid hz0
    have HZ1 := Lib.hid hz1
    have HZ2 := Lib.hid hz2
    have hb0 : Below w.heap.size w (w.alloc (.cells #[] 3)) := (Below.refl _ _).alloc (Nat.le_refl _) _
    have HN : Hid (∀ j u, (zC n z)[j]? = some u → (w.alloc (.cells #[] 3)).cell? (ad.add j) = some u) := by
      refine Lib.hid fun j u hu => ?_
      obtain ⟨hj, rfl⟩ := zC_get hu
      exact (hb0.cell (p := ad.add j) (by rw [block_add]; exact (hc j hj).1)).trans (hc j hj).2
    have H1 : Hid (∀ u ∈ zC n z, u.oneCell' = true) := Lib.hid fun u hu => by
      simp only [zC, List.mem_map] at hu
      obtain ⟨x, _, rfl⟩ := hu
      rfl
    have hq : ∀ W, (binOp .eql 23 (.slice (some ad) n c) (.slice none 0 0)).run Tryz.prog W = .ok (.bool false) W := fun W => Lib.run_eql_slice_nil W 23 3 (some ad) n c 0 0 Tryz.underlying23
    clear hc hi hz0 hz1 hz2 hb0
    go_enter Tryz.func13, Tryz.ntmps13
    go_wp2_with (at_builtin; refine wpList_append_own _ rfl (.tmp 5) (.tmp 6) 23 rfl w.heap.size 3 i0 (.int .i64 0) 1 8 Tryz.underlying23 HI.out HZ0.out HZ1.out HZ2.out rfl (by decide) (.slice (some ⟨w.heap.size, 0, none⟩) 0 0) 0 [] rfl (World.ownsRow_made w #[] 0 (Nat.le_refl _) (by simp [maxLen]) rfl) ad n c (zC n z) rfl (by simp [zC]) HN.out H1.out (by unfold maxLen; omega) (by omega) (by simp) ?_; intro v' w1 h1 h2 _; have K1 := Lib.hid h1; have K2 := Lib.hid h2; clear h1 h2)
    go_ret
    have h := K1.out
    rw [Nat.zero_add, List.nil_append] at h
    obtain ⟨A', c', e, hz⟩ := zs_of_row h
    refine ⟨⟨A', c', congrArg Ending.returned e, hz⟩, ?_⟩
    exact ((Below.refl _ _).alloc (Nat.le_refl _) _).grown K2.out (by simp) (fun k hk => by simp [Value.ownBlock] at hk; omega)
theorem ints_of_zs {w : World} {A : Option Addr} {n : Nat} {z : Nat → Int} (h : Zs w A n z) (hz : ∀ i, i < n → 0 ≤ z i) : ∃ a : List Nat, a.length = n ∧ Ints w A a ∧ ∀ i, i < n → (nth a i : Int) = z i := by
  have hl : ((List.range n).map fun i => (z i).toNat).length = n := by simp
  have hn : ∀ i, i < n → (nth ((List.range n).map fun i => (z i).toNat) i : Int) = z i := fun i hi => by
    have := hz i hi
    simp [nth, List.getD, hi]
    omega
  refine ⟨_, hl, ?_, hn⟩
  rcases h with rfl | ⟨g, o, rfl, hg, hc⟩
  · exact .inl (by simp)
  · exact .inr ⟨g, o, rfl, hg, fun i hi => by rw [hl] at hi; rw [hn i hi]; exact hc i hi⟩
/-- Numbers that are an assignment. -/
def InZ (sizes : List Nat) (m : Nat) (z : Nat → Int) : Prop := m = sizes.length ∧ ∀ i, i < m → 0 ≤ z i ∧ z i < (nth sizes i : Int)
theorem assigned_no (fb cs cf c : Nat) (X : ByteArray) (k : Int) (sizes : List Nat) (m : Nat) (z : Nat → Int) (fs : List FunM) (As Af A : Option Addr) (w : World) (H : FileR w fb X k sizes fs As Af cs cf) (hI : Zs w A m z) (ha : ¬ InZ sizes m z) (hl : sizes.length ≤ 64) (hm : m ≤ 1000) :
    Calls Tryz.prog 39 #[.pointer (some ⟨fb, 0, none⟩), .slice A m c] w fun e w' => e = .returned (.bool false) ∧ w = w' := by
  have c2 := H.cells.2.2.1
  by_cases hms : m = sizes.length
  · have HS := Lib.hid H.szs
    have HI := Lib.hid hI
    have HA := Lib.hid ha
    have HL : Hid (m ≤ 64) := Lib.hid (by omega)
    rw [← hms] at c2
    have HM := Lib.hid hms
    clear H hI ha hl hms
    go_enter Tryz.func39, Tryz.ntmps39
    go_wp2_with fail
    go_loopw [5, 6, 17] (fun _ _ i wr => ∃ j : Nat, i = .int .i64 (j : Int) ∧ j ≤ m ∧ wr = w ∧ ∀ i, i < j → 0 ≤ z i ∧ z i < (nth sizes i : Int)) (fun _ _ i _ => m - (intOf i).toNat)
    case atStart => exact ⟨0, rfl, Nat.zero_le _, rfl, fun i h => absurd h (Nat.not_lt_zero _)⟩
    case round =>
      obtain ⟨j, rfl, hj, rfl, hv⟩ := hrel
      have HV := Lib.hid hv
      clear hv
      by_cases hlt : j < m
      · have d1 : decide ((j : Int) < (m : Int)) = true := decide_eq_true (by omega)
        obtain ⟨ga, oa, rfl, hca⟩ := HI.out.at_ hlt
        obtain ⟨gs, os, rfl, hcs⟩ := HS.out.at_ (i := j) (by rw [← HM.out]; exact hlt)
        have j2 : (0 : Int) ≤ (j : Int) := by omega
        have j3 : (j : Int) ≤ 64 := by have := HL.out; omega
        by_cases h0 : z j < 0
        · have d2 : decide (z j < 0) = true := decide_eq_true h0
          clear h0
          go_wp2_with fail
          go_ret
          first | exact ⟨rfl, rfl⟩ | exact ⟨rfl, trivial⟩
        · have d2 : decide (z j < 0) = false := decide_eq_false h0
          by_cases h1 : (nth sizes j : Int) ≤ z j
          · have d3 : decide ((nth sizes j : Int) ≤ z j) = true := decide_eq_true h1
            clear h1 h0
            go_wp2_with fail
            go_ret
            first | exact ⟨rfl, rfl⟩ | exact ⟨rfl, trivial⟩
          · have d3 : decide ((nth sizes j : Int) ≤ z j) = false := decide_eq_false h1
            have HN : Hid (∀ i, i < j + 1 → 0 ≤ z i ∧ z i < (nth sizes i : Int)) := Lib.hid (fun i hi => by
              rcases Nat.lt_or_ge i j with h | h
              · exact HV.out i h
              · rw [show i = j by omega]; omega)
            clear h1 h0
            go_wp2_with fail
            exact ⟨⟨j + 1, by simp, by omega, trivial, HN.out⟩, by simp [intOf]; omega⟩
      · exact absurd ⟨HM.out, fun i hi => HV.out i (by omega)⟩ HA.out
  · have d0 : ((m : Int) != (sizes.length : Int)) = true := by simp; omega
    clear H hI ha hl hms
    go_enter Tryz.func39, Tryz.ntmps39
    go_wp2_with fail
    go_ret
    exact ⟨rfl, rfl⟩
theorem valNo (fb cs cf c : Nat) (X : ByteArray) (k : Int) (sizes : List Nat) (m : Nat) (z : Nat → Int) (fs : List FunM) (As Af A : Option Addr) (w : World) (H : FileR w fb X k sizes fs As Af cs cf) (hr : RightF X k sizes fs) (hI : Zs w A m z) (ha : ¬ InZ sizes m z) (hm : m ≤ 1000) :
    Calls Tryz.prog 14 #[.pointer (some ⟨fb, 0, none⟩), .slice A m c] w fun e w' => e = .returned (.tuple #[.int .i64 0, .int .i64 3]) ∧ Below w.heap.size w w' := by
  have RF := Lib.hid (rightF fb cs cf X k sizes fs As Af w H hr)
  have AS := Lib.hid (fun W (hb : Below w.heap.size w W) => assigned_no fb cs cf c X k sizes m z fs As Af A W (H.below hb) (hI.below hb (Nat.le_refl _)) ha hr.n.2 hm)
  clear H hr hI ha hm
  go_enter Tryz.func14, Tryz.ntmps14
  go_wp2_with (first
    | (go_at_call 23; refine RF.out.mono ?_; rintro e w2 ⟨rfl, hb2⟩; have B2 := Lib.hid hb2; clear hb2)
    | (go_at_call 39; refine (AS.out _ B2.out).mono ?_; rintro e w' ⟨rfl, rfl⟩)
    | fail)
  go_ret2
  exact ⟨rfl, B2.out⟩
end Go.Proofs.YteocbgcgfllieaaGreatDoor
