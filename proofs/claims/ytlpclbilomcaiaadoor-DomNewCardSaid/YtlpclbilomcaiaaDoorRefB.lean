/- Contracts of the document's answers for layer 2: Put, Both; and of slices.Equal (no statement of its own). Condition: at most 1000 values. -/
import Derived.Test.YtlpclbilomcaiaaDoorRef
namespace Go.Proofs.YtlpclbilomcaiaaDoor
open Go.RowKit
set_option linter.unusedVariables false
def putB (l : List Nat) (v y : Nat) : Bool := memI l (y : Int) || decide (y = v)
def inB (l : List Nat) (y : Nat) : Bool := memI l (y : Int)
theorem range_filter (q : Nat → Bool) (j : Nat) : (List.range (j + 1)).filter q = if q j then (List.range j).filter q ++ [j] else (List.range j).filter q := by
  rw [List.range_succ, List.filter_append]
  by_cases h : q j = true
  · rw [if_pos h]; simp [h]
  · rw [if_neg h]; simp [h]
theorem range_filter_len (q : Nat → Bool) (j : Nat) (h : j ≤ 1000) : ((List.range j).filter q).length ≤ 1000 := by
  have h1 := List.length_filter_le q (List.range j)
  simp only [List.length_range] at h1
  omega
set_option maxRecDepth 100000 in
theorem rput_any (A : Option Addr) (n c k v : Nat) (l : List Nat) (w : World) (hn : n = l.length) (hl : n ≤ 1000) (hw : Lst w A l) (hk : k ≤ 32) :
    Calls Tryd.prog 11 #[.slice A n c, .int .i64 (k : Int), .int .i64 (v : Int)] w fun e w' => (∃ u, e = .returned u ∧ Own w' w.heap.size u ((List.range k).filter (putB l v))) ∧ Below w.heap.size w w' := by
  have HN := Lib.hid hn
  have HW := Lib.hid hw
  clear hn hw
  go_enter Tryd.func11, Tryd.ntmps11
  go_wp2_with fail
  go_loopw [7, 8] (fun u i wr => ∃ j : Nat, j ≤ k ∧ i = .int .i64 j ∧ Own wr w.heap.size u ((List.range j).filter (putB l v)) ∧ Below w.heap.size w wr) (fun _ i _ => k - (intOf i).toNat)
  case atStart => exact ⟨0, Nat.zero_le _, rfl, own_nil _ _, Below.refl _ _⟩
  case round =>
    obtain ⟨j, hj, rfl, hown, hb⟩ := hrel
    have HO := Lib.hid hown
    have HB := Lib.hid hb
    have hsz := hb.size
    clear hown hb
    by_cases hlt : j < k
    · have HF := Lib.hid (rhas_any A n c l (j : Int) wr HN.out hl (HW.out.below HB.out (Nat.le_refl _)))
      have HT := Lib.hid (range_filter (putB l v) j)
      have HL := Lib.hid (range_filter_len (putB l v) j (by omega))
      by_cases e : putB l v j = true
      · have HT' : Hid ((List.range (j + 1)).filter (putB l v) = (List.range j).filter (putB l v) ++ [j]) := Lib.hid (by rw [HT.out, if_pos e])
        cases hm : memI l (j : Int) with
        | true =>
          rw [hm] at HF
          clear hm e
          go_wp2_with (first | (go_at_call 14; refine HF.out.mono ?_; rintro e w' ⟨rfl, rfl⟩) | (at_builtin; refine push_own rfl (.tmp 22) (.tmp 24) rfl wr w.heap.size u7 _ j rfl rfl HO.out hsz HL.out ?_; intro v' w1 h1 h2; have H1 := Lib.hid h1; have H2 := Lib.hid h2; clear h1 h2))
          go_roundw
          case rel => exact ⟨j + 1, by omega, by go_num, by rw [HT'.out]; exact H1.out, HB.out.trans H2.out⟩
          case measure => simp [intOf]; omega
        | false =>
          have hv : j = v := by
            unfold putB at e
            rw [hm] at e
            simpa using e
          rw [hm] at HF
          have e1 : ((j : Int) == (v : Int)) = true := by rw [hv]; simp
          clear hm e hv
          go_wp2_with (first | (go_at_call 14; refine HF.out.mono ?_; rintro e w' ⟨rfl, rfl⟩) | (at_builtin; refine push_own rfl (.tmp 22) (.tmp 24) rfl wr w.heap.size u7 _ j rfl rfl HO.out hsz HL.out ?_; intro v' w1 h1 h2; have H1 := Lib.hid h1; have H2 := Lib.hid h2; clear h1 h2))
          go_roundw
          case rel => exact ⟨j + 1, by omega, by go_num, by rw [HT'.out]; exact H1.out, HB.out.trans H2.out⟩
          case measure => simp [intOf]; omega
      · have HT' : Hid ((List.range (j + 1)).filter (putB l v) = (List.range j).filter (putB l v)) := Lib.hid (by rw [HT.out, if_neg e])
        have hm : memI l (j : Int) = false := by
          unfold putB at e
          cases h : memI l (j : Int) with
          | false => rfl
          | true => rw [h] at e; simp at e
        have hv : ¬ j = v := by
          unfold putB at e
          rw [hm] at e
          simpa using e
        rw [hm] at HF
        have e1 : ((j : Int) == (v : Int)) = false := by rw [beq_eq_false_iff_ne]; omega
        clear hm e hv
        go_wp2_with (go_at_call 14; refine HF.out.mono ?_; rintro e w' ⟨rfl, rfl⟩)
        go_roundw
        case rel => exact ⟨j + 1, by omega, by go_num, by rw [HT'.out]; exact HO.out, HB.out⟩
        case measure => simp [intOf]; omega
    · obtain rfl : j = k := by omega
      go_wp2
      go_ret
      exact ⟨⟨_, rfl, HO.out⟩, HB.out⟩
set_option maxRecDepth 100000 in
theorem rboth_any (A A2 : Option Addr) (n c n2 c2 : Nat) (l l2 : List Nat) (w : World) (hn : n = l.length) (hl : n ≤ 1000) (hw : Lst w A l) (hn2 : n2 = l2.length) (hl2 : n2 ≤ 1000) (hw2 : Lst w A2 l2) :
    Calls Tryd.prog 21 #[.slice A n c, .slice A2 n2 c2] w fun e w' => (∃ v, e = .returned v ∧ Own w' w.heap.size v (l.filter (inB l2))) ∧ Below w.heap.size w w' := by
  have HN := Lib.hid hn
  have HW := Lib.hid hw
  have HW2 := Lib.hid hw2
  have HN2 := Lib.hid hn2
  clear hn hw hn2 hw2
  go_enter Tryd.func21, Tryd.ntmps21
  go_wp2_with fail
  go_loopw [5, 7, 10] (fun v _ i wr => ∃ j : Nat, j ≤ n ∧ i = .int .i64 j ∧ Own wr w.heap.size v ((l.take j).filter (inB l2)) ∧ Below w.heap.size w wr) (fun _ _ i _ => n - (intOf i).toNat)
  case atStart => exact ⟨0, Nat.zero_le _, rfl, own_nil _ _, Below.refl _ _⟩
  case round =>
    obtain ⟨j, hj, rfl, hown, hb⟩ := hrel
    have HO := Lib.hid hown
    have HB := Lib.hid hb
    have hsz := hb.size
    clear hown hb
    by_cases hlt : j < n
    · have hjl : j < l.length := by have := HN.out; omega
      obtain ⟨g, rfl, hcell⟩ := (HW.out.below HB.out (Nat.le_refl _)).at_ hjl
      obtain ⟨y, hy⟩ : ∃ y, l.getD j 0 = y := ⟨_, rfl⟩
      have HT := Lib.hid (take_filter l (inB l2) j y hjl hy)
      have HL := Lib.hid (filter_len l (inB l2) j (by have := HN.out; omega))
      have HF := Lib.hid (rhas_any A2 n2 c2 l2 (y : Int) wr HN2.out hl2 (HW2.out.below HB.out (Nat.le_refl _)))
      rw [hy] at hcell
      clear hy hjl
      unfold inB at HT
      cases hm : memI l2 (y : Int) with
      | false =>
        have HT' : Hid ((l.take (j + 1)).filter (inB l2) = (l.take j).filter (inB l2)) := Lib.hid (by have := HT.out; rw [hm, if_neg (by simp)] at this; exact this)
        rw [hm] at HF
        clear hm HT
        go_wp2_with (go_at_call 14; refine HF.out.mono ?_; rintro e w' ⟨rfl, rfl⟩)
        go_roundw
        case rel => exact ⟨j + 1, by omega, by go_num, by rw [HT'.out]; exact HO.out, HB.out⟩
        case measure => simp [intOf]; omega
      | true =>
        have HT' : Hid ((l.take (j + 1)).filter (inB l2) = (l.take j).filter (inB l2) ++ [y]) := Lib.hid (by have := HT.out; rw [hm, if_pos rfl] at this; exact this)
        rw [hm] at HF
        clear hm HT
        go_wp2_with (first | (go_at_call 14; refine HF.out.mono ?_; rintro e w' ⟨rfl, rfl⟩) | (at_builtin; refine push_own rfl (.tmp 17) (.tmp 19) rfl wr w.heap.size u5 _ y rfl rfl HO.out hsz HL.out ?_; intro v' w1 h1 h2; have H1 := Lib.hid h1; have H2 := Lib.hid h2; clear h1 h2))
        go_roundw
        case rel => exact ⟨j + 1, by omega, by go_num, by rw [HT'.out]; exact H1.out, HB.out.trans H2.out⟩
        case measure => simp [intOf]; omega
    · obtain rfl : j = n := by omega
      go_wp2
      go_ret
      have ht : l.take j = l := List.take_of_length_le (by have := HN.out; omega)
      have ho := HO.out
      rw [ht] at ho
      exact ⟨⟨_, rfl, ho⟩, HB.out⟩
end Go.Proofs.YtlpclbilomcaiaaDoor
