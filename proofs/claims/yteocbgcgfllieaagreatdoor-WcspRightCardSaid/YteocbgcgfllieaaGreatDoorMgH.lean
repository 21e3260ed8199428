/- Texts of this seat laid together (no statement of its own). -/
import Derived.Test.YteocbgcgfllieaaGreatDoorMgG
import Derived.Laws.OwnMore
import Derived.Test.YteocbgcgfllieaaGreatDoorMgV
namespace Go.Proofs.YteocbgcgfllieaaGreatDoor
open Go.RowKit
set_option linter.unusedVariables false
theorem Own.put {W : World} {base c n : Nat} {A : Option Addr} {l : List Nat} (h : Own W base (.slice A n c) l) {j : Nat} (hj : j < l.length) (hn : l.length = n) (y : Nat) :
    ∃ g, A = some ⟨g, 0, none⟩ ∧ base ≤ g ∧ g < W.heap.size ∧ W.cell? ⟨g, j, none⟩ = some (.int .i64 (nth l j : Int)) ∧ W.frozen? ⟨g, j, none⟩ = false ∧
      Own (W.setCell ⟨g, j, none⟩ (.int .i64 (y : Int))) base (.slice A n c) (l.set j y) ∧ W.grownBy (W.setCell ⟨g, j, none⟩ (.int .i64 (y : Int))) (some g) := by
  subst hn
  obtain ⟨A', c', e, hI⟩ := h.form
  obtain ⟨rfl, rfl⟩ : A = A' ∧ c = c' := by injection e with e1 e2 e3; exact ⟨e1, e3⟩
  have h' := h
  obtain ⟨h1, ⟨h2, hn⟩ | ⟨g, cap, cur, h2, hb, hh, hm, hx, hs, ht⟩⟩ := h
  · omega
  · injection h2 with e1 e2 e3
    subst e1 e3
    obtain ⟨g', o', e4, hc⟩ := hI.at_ hj
    injection e4 with e4
    injection e4 with e5 e6
    subst e5 e6
    rw [Nat.zero_add] at hc
    have hst := World.ownsRow.stored (h' : W.ownsRow base 3 1 _ l.length _) j (.int .i64 (y : Int))
    have hset : (intC l).set j (.int .i64 (y : Int)) = intC (l.set j y) := by simp [intC, List.map_set]
    rw [hset] at hst
    exact ⟨g, rfl, hb, (Array.getElem?_eq_some_iff.1 hh).1, hc, World.ownsRow.frozenAt (h' : W.ownsRow base 3 1 _ l.length _) j, by unfold Own; rw [List.length_set]; exact hst.1, hst.2⟩
def pickP (l at_ : List Nat) (j : Nat) : List Nat := (List.range at_.length).map fun i => if i < j then nth l (nth at_ i) else 0
theorem pickP_len (l at_ : List Nat) (j : Nat) : (pickP l at_ j).length = at_.length := by simp [pickP]
theorem pickP_nth (l at_ : List Nat) (j i : Nat) (h : i < at_.length) : nth (pickP l at_ j) i = if i < j then nth l (nth at_ i) else 0 := by simp [nth, pickP, List.getD, h]
theorem pickP_zero (l at_ : List Nat) : pickP l at_ 0 = List.replicate at_.length 0 := by simp [pickP, List.map_const']
theorem pickP_set (l at_ : List Nat) (j : Nat) (h : j < at_.length) : (pickP l at_ j).set j (nth l (nth at_ j)) = pickP l at_ (j + 1) := by
  refine nth_eq (by simp [pickP_len]) fun i hi => ?_
  rw [List.length_set, pickP_len] at hi
  rw [pickP_nth _ _ _ _ hi]
  unfold nth
  rw [List.getD_eq_getElem?_getD, List.getElem?_set]
  by_cases e : j = i
  · subst e; simp [pickP_len, h]
  · rw [if_neg e, ← List.getD_eq_getElem?_getD]
    show nth (pickP l at_ j) i = _
    rw [pickP_nth _ _ _ _ hi]
    by_cases h1 : i < j
    · rw [if_pos h1, if_pos (by omega)]; rfl
    · rw [if_neg h1, if_neg (by omega)]
theorem pickP_all (l at_ : List Nat) : pickP l at_ at_.length = pickN l at_ := by
  refine nth_eq (by simp [pickP_len, pickN]) fun i hi => ?_
  rw [pickP_len] at hi
  rw [pickP_nth _ _ _ _ hi, if_pos hi]
  simp [nth, pickN, List.getD, hi]
theorem own_zero {W : World} {base g n c : Nat} (h : W.ownsRow base 3 1 (.slice (some ⟨g, 0, none⟩) n c) n (madeCells #[.int .i64 0] n).toList) : Own W base (.slice (some ⟨g, 0, none⟩) n c) (List.replicate n 0) := by
  unfold Own
  rw [List.length_replicate]
  have e : (madeCells #[.int .i64 0] n).toList = intC (List.replicate n 0) := by
    refine List.ext_getElem (by simp [madeCells, intC]) fun i h1 h2 => ?_
    simp [madeCells, intC, Nat.mod_one]
  rw [← e]
  exact h
set_option maxRecDepth 100000 in
set_option maxHeartbeats 4000000 in
theorem pickedR (c1 c2 : Nat) (A1 A2 : Option Addr) (l at_ : List Nat) (w : World) (hl : l.length ≤ 100000) (hat : at_.length ≤ 100001) (hin : ∀ x ∈ at_, x < l.length) (h1 : Ints w A1 l) (h2 : Ints w A2 at_) :
    Calls Tryz.prog 41 #[.slice A1 l.length c1, .slice A2 at_.length c2] w fun e w' => (∃ A, e = .returned (.slice A at_.length at_.length) ∧ Own w' w.heap.size (.slice A at_.length at_.length) (pickN l at_)) ∧ Below w.heap.size w w' := by
  obtain ⟨i0, hi, hz0, hz1, hz2⟩ := info_parts info_int
  obtain ⟨w0, hm, how, hgw⟩ := run_makeSlice_full (P := Tryz.prog) w w.heap.size 23 3 i0 (.int .i64 0) 1 Tryz.underlying23 hi hz0 hz1 .i64 .i64 at_.length (by omega) (by rw [hz2]; omega) (by unfold maxLen; omega) (Nat.le_refl _)
  have hbw : Below w.heap.size w w0 := ⟨hgw.os, hgw.tape, hgw.output, hgw.size, fun k hk => hgw.block k hk (by simp)⟩
  rw [Nat.mul_one] at how
  have HOW := Lib.hid (show Own w0 w.heap.size _ (pickP l at_ 0) by rw [pickP_zero]; exact own_zero how)
  have HW := Lib.hid hbw
  have HIN := Lib.hid hin
  have H1 := Lib.hid h1
  have H2 := Lib.hid h2
  clear hbw how hgw hi hz0 hz1 hz2 hin h1 h2
  go_enter Tryz.func41, Tryz.ntmps41
  go_wp2_with fail
  clear hm
  go_loopw [6, 7, 13] (fun _ _ i wr => ∃ (j : Nat), i = .int .i64 (j : Int) ∧ j ≤ at_.length ∧ Own wr w.heap.size (.slice (some ⟨w.heap.size, 0, none⟩) at_.length at_.length) (pickP l at_ j) ∧ Below w.heap.size w wr) (fun _ _ i _ => at_.length - (intOf i).toNat)
  case atStart => exact ⟨0, rfl, Nat.zero_le _, HOW.out, HW.out⟩
  case round =>
    obtain ⟨j, rfl, hj, hO, hB⟩ := hrel
    have HO := Lib.hid hO
    have HB := Lib.hid hB
    by_cases hlt : j < at_.length
    · have d1 : decide ((j : Int) < (at_.length : Int)) = true := decide_eq_true (by omega)
      obtain ⟨gc, oc, rfl, hcc⟩ := (H2.out.below hB (Nat.le_refl _)).at_ hlt
      have hx := HIN.out (nth at_ j) (nth_mem hlt)
      obtain ⟨gs, os, rfl, hss⟩ := (H1.out.below hB (Nat.le_refl _)).at_ hx
      obtain ⟨g, e, hg1, hg2, hc, hf, hO', hg⟩ := hO.put (j := j) (by rw [pickP_len]; exact hlt) (pickP_len _ _ _) (nth l (nth at_ j))
      injection e with e
      injection e with e _ _
      subst e
      rw [pickP_set l at_ j hlt] at hO'
      have HO' := Lib.hid hO'
      have HG := Lib.hid hg
      clear hO hB hg hO'
      generalize nth at_ j = x at hcc hx hss HO' HG
      generalize nth l x = z at hss HO' HG
      generalize nth (pickP l at_ j) j = q at hc
      go_wp2_with fail
      refine ⟨⟨j + 1, by simp, by omega, HO'.out, HB.out.grown HG.out HB.out.size (by intro k hk; simp at hk; omega)⟩, by simp [intOf]; omega⟩
    · have d1 : decide ((j : Int) < (at_.length : Int)) = false := decide_eq_false (by omega)
      obtain rfl : j = at_.length := by omega
      clear hO hB hlt
      go_wp2_with fail
      go_ret
      exact ⟨⟨_, rfl, by have := HO.out; rwa [pickP_all] at this⟩, HB.out⟩
end Go.Proofs.YteocbgcgfllieaaGreatDoor

namespace Go.Proofs.YteocbgcgfllieaaGreatDoor
open Go.RowKit
set_option linter.unusedVariables false
theorem cntM_cons (k : Nat) (r : List Nat) (n : Nat) : cntM (k :: r) n = cntM r (min (n * min k 4097) 4097) := rfl
set_option maxRecDepth 100000 in
set_option maxHeartbeats 4000000 in
theorem countR (c : Nat) (A : Option Addr) (l : List Nat) (w : World) (hl : l.length ≤ 100001) (hsm : ∀ x ∈ l, x ≤ 4611686018427387904) (h : Ints w A l) :
    Calls Tryz.prog 78 #[.slice A l.length c] w fun e w' => e = .returned (.int .i64 (cntM l 1 : Nat)) ∧ w = w' := by
  have H := Lib.hid h
  have HSM := Lib.hid hsm
  clear h hsm
  go_enter Tryz.func78, Tryz.ntmps78
  go_wp2_with fail
  go_loopw [3, 5, 8] (fun n _ i wr => ∃ (j m : Nat), i = .int .i64 (j : Int) ∧ n = .int .i64 (m : Int) ∧ j ≤ l.length ∧ m ≤ 4097 ∧ cntM l 1 = cntM (l.drop j) m ∧ wr = w) (fun _ _ i _ => l.length - (intOf i).toNat)
  case atStart => exact ⟨0, 1, rfl, rfl, Nat.zero_le _, by decide, rfl, rfl⟩
  case round =>
    obtain ⟨j, m, rfl, rfl, hj, hm, hE, rfl⟩ := hrel
    by_cases hlt : j < l.length
    · have d1 : decide ((j : Int) < (l.length : Int)) = true := decide_eq_true (by omega)
      obtain ⟨g, o, rfl, hcc⟩ := H.out.at_ hlt
      have hx := HSM.out (nth l j) (nth_mem hlt)
      have hdr : l.drop j = nth l j :: l.drop (j + 1) := by rw [List.drop_eq_getElem_cons hlt]; simp [nth, List.getD, hlt]
      rw [hdr, cntM_cons] at hE
      generalize nth l j = x at hcc hx hE
      have hmul : m * min x 4097 ≤ 4097 * 4097 := Nat.mul_le_mul hm (Nat.min_le_right _ _)
      have hq : ((m : Int) * min (x : Int) 4097) = ((m * min x 4097 : Nat) : Int) := by
        rw [Int.natCast_mul]; congr 1; omega
      have HE := Lib.hid hE
      clear hE hdr
      go_wp2_with fail
      refine ⟨⟨j + 1, min (m * min x 4097) 4097, by simp, ?_, by omega, Nat.min_le_right _ _, HE.out, trivial⟩, by simp [intOf]; omega⟩
      congr 1
      rw [← Int.natCast_mul]
      omega
    · have d1 : decide ((j : Int) < (l.length : Int)) = false := decide_eq_false (by omega)
      obtain rfl : j = l.length := by omega
      clear hlt
      rw [List.drop_length] at hE
      go_wp2_with fail
      go_ret
      refine ⟨?_, rfl⟩
      rw [hE]
      rfl
end Go.Proofs.YteocbgcgfllieaaGreatDoor

namespace Go.Proofs.YteocbgcgfllieaaGreatDoor
open Go.RowKit
set_option linter.unusedVariables false
def strC (l : List ByteArray) : List Value := l.map .string
def OwnT (w : World) (base : Nat) (v : Value) (l : List ByteArray) : Prop := w.ownsRow base 9 1 v l.length (strC l)
theorem OwnT.below {w w' : World} {base B : Nat} {v : Value} {l : List ByteArray} (h : OwnT w base v l) (hb : Below B w w') (hB : w.heap.size ≤ B) : OwnT w' base v l := by
  obtain ⟨h1, ⟨rfl, hn⟩ | ⟨g, cap, cur, rfl, hb', hh, hm, hx, hs, ht⟩⟩ := h
  · exact ⟨h1, .inl ⟨rfl, hn⟩⟩
  · refine ⟨h1, .inr ⟨g, cap, cur, rfl, hb', ?_, hm, hx, hs, ht⟩⟩
    rw [hb.block g (by have := (Array.getElem?_eq_some_iff.1 hh).1; omega)]
    exact hh
theorem OwnT.put {W : World} {base g c n : Nat} {l : List ByteArray} (h : OwnT W base (.slice (some ⟨g, 0, none⟩) n c) l) (j : Nat) (hj : j < l.length) (hn : l.length = n) (y : ByteArray) :
    (∃ u, W.cell? ⟨g, j, none⟩ = some (.string u)) ∧ W.frozen? ⟨g, j, none⟩ = false ∧ OwnT (W.setCell ⟨g, j, none⟩ (.string y)) base (.slice (some ⟨g, 0, none⟩) n c) (l.set j y) ∧ W.grownBy (W.setCell ⟨g, j, none⟩ (.string y)) (some g) := by
  subst hn
  obtain ⟨h1, h2⟩ := World.ownsRow.stored (h : W.ownsRow base 9 1 _ l.length _) j (.string y)
  have hset : (strC l).set j (.string y) = strC (l.set j y) := by simp [strC, List.map_set]
  rw [hset] at h1
  refine ⟨⟨l[j], ?_⟩, World.ownsRow.frozenAt (h : W.ownsRow base 9 1 _ l.length _) j, by unfold OwnT; rw [List.length_set]; exact h1, h2⟩
  rw [World.ownsRow.cellAt (h : W.ownsRow base 9 1 _ l.length _) j (by omega)]
  simp [strC, hj]
def wordS (n : Nat) : ByteArray := ⟨(Lib.itoa (n : Int)).toArray⟩
def textP (l : List Nat) (j : Nat) : List ByteArray := (List.range l.length).map fun i => if i < j then wordS (nth l i) else ⟨#[]⟩
theorem textP_len (l : List Nat) (j : Nat) : (textP l j).length = l.length := by simp [textP]
theorem textP_set (l : List Nat) (j : Nat) (h : j < l.length) : (textP l j).set j (wordS (nth l j)) = textP l (j + 1) := by
  refine List.ext_getElem (by simp [textP]) fun i h1 h2 => ?_
  simp only [List.getElem_set, textP, List.getElem_map, List.getElem_range]
  by_cases e : j = i
  · subst e; simp
  · rw [if_neg e]
    by_cases h3 : i < j
    · rw [if_pos h3, if_pos (by omega)]
    · rw [if_neg h3, if_neg (by omega)]
theorem textP_all (l : List Nat) : textP l l.length = l.map wordS := by
  refine List.ext_getElem (by simp [textP]) fun i h1 h2 => ?_
  have hi : i < l.length := by simpa [textP] using h1
  simp [textP, hi, nth, List.getD]
theorem info_str : (Tryz.prog.info? 9).map (fun i => (i.zero, i.size, i.bytes)) = some (some (.string ⟨#[]⟩), 1, 16) := by kernel_rfl
def textL (l : List Nat) : List UInt8 := Lib.join (l.map fun n : Nat => Lib.itoa (n : Int)) [32]
theorem textL_of (l : List Nat) : Lib.join ((l.map wordS).map (·.data.toList)) (⟨#[32]⟩ : ByteArray).data.toList = textL l := by
  simp [textL, wordS, List.map_map, Function.comp_def]
set_option maxRecDepth 100000 in
set_option maxHeartbeats 4000000 in
theorem textR (c : Nat) (A : Option Addr) (l : List Nat) (w : World) (hl : l.length ≤ 100001) (hsm : ∀ x ∈ l, x ≤ 4611686018427387904) (hj : (textL l).length ≤ 140737488355328) (h : Ints w A l) (hT : TabP w) :
    Calls Tryz.prog 99 #[.slice A l.length c] w fun e w' => e = .returned (.string ⟨(textL l).toArray⟩) ∧ Below w.heap.size w w' := by
  obtain ⟨i0, hi, hz0, hz1, hz2⟩ := info_parts info_str
  obtain ⟨w0, hm, how, hgw⟩ := run_makeSlice_full (P := Tryz.prog) w w.heap.size 65 9 i0 (.string ⟨#[]⟩) 1 Tryz.underlying65 hi hz0 hz1 .i64 .i64 l.length (by omega) (by rw [hz2]; omega) (by unfold maxLen; omega) (Nat.le_refl _)
  have hbw : Below w.heap.size w w0 := ⟨hgw.os, hgw.tape, hgw.output, hgw.size, fun k hk => hgw.block k hk (by simp)⟩
  rw [Nat.mul_one] at how
  have HOW := Lib.hid (show OwnT w0 w.heap.size (.slice (some ⟨w.heap.size, 0, none⟩) l.length l.length) (textP l 0) by
    unfold OwnT
    rw [textP_len]
    have e : strC (textP l 0) = (madeCells (Value.string ⟨#[]⟩).cells l.length).toList := by
      refine List.ext_getElem (by simp [madeCells, strC, textP]) fun i h1 h2 => ?_
      simp [madeCells, strC, textP, Value.cells, Nat.mod_one]
    rw [e]
    exact how)
  have HW := Lib.hid hbw
  have HSM := Lib.hid hsm
  have H := Lib.hid h
  have HT := Lib.hid hT
  have HJ := Lib.hid hj
  clear hbw how hgw hi hz0 hz1 hz2 hsm h hT hj
  go_enter Tryz.func99, Tryz.ntmps99
  go_wp2_with fail
  clear hm
  go_loopw [4, 5, 11] (fun _ _ i wr => ∃ (j : Nat), i = .int .i64 (j : Int) ∧ j ≤ l.length ∧ OwnT wr w.heap.size (.slice (some ⟨w.heap.size, 0, none⟩) l.length l.length) (textP l j) ∧ Below w.heap.size w wr) (fun _ _ i _ => l.length - (intOf i).toNat)
  case atStart => exact ⟨0, rfl, Nat.zero_le _, HOW.out, HW.out⟩
  case round =>
    obtain ⟨j, rfl, hj, hO, hB⟩ := hrel
    have HO := Lib.hid hO
    have HB := Lib.hid hB
    by_cases hlt : j < l.length
    · have d1 : decide ((j : Int) < (l.length : Int)) = true := decide_eq_true (by omega)
      obtain ⟨gc, oc, rfl, hcc⟩ := (H.out.below hB (Nat.le_refl _)).at_ hlt
      have hx := HSM.out (nth l j) (nth_mem hlt)
      have WR := Lib.hid (write_any (nth l j : Int) wr (by omega) (by omega) (tab_below HT.out hB))
      have HS := Lib.hid (textP_set l j hlt)
      have HL := Lib.hid (show j < (textP l j).length by rw [textP_len]; exact hlt)
      clear hO hB
      generalize hq : nth l j = x at hcc hx WR HS
      clear hq
      go_wp2_with (first | (go_at_call 114; refine WR.out.mono ?_; rintro e w2 ⟨rfl, hb⟩; obtain ⟨⟨u, hc⟩, hf, hO', hg⟩ := (HO.out.below hb (Nat.le_refl _)).put j HL.out (textP_len _ _) (wordS x); rw [HS.out] at hO'; replace hO' := Lib.hid hO'; replace hg := Lib.hid hg; replace hb := Lib.hid hb) | fail)
      refine ⟨⟨j + 1, by simp, by omega, hO'.out, (HB.out.trans (hb.out.mono HB.out.size)).grown hg.out (Nat.le_trans HB.out.size hb.out.size) (by intro k hk; simp at hk; omega)⟩, by simp [intOf]; omega⟩
    · have d1 : decide ((j : Int) < (l.length : Int)) = false := decide_eq_false (by omega)
      obtain rfl : j = l.length := by omega
      rw [textP_all] at hO
      have hR : wr.ownsRow w.heap.size 9 1 (.slice (some ⟨w.heap.size, 0, none⟩) l.length l.length) l.length (strC (l.map wordS)) := by
        have := hO
        unfold OwnT at this
        rwa [List.length_map] at this
      have hne : ∀ (k : Nat) x, (l.map wordS)[k]? = some x → wr.cell? ⟨w.heap.size, 0 + k, none⟩ = some (.string x) := fun k x hk => by
        have hk' : k < l.length := by have := (List.getElem?_eq_some_iff.1 hk).1; simpa using this
        rw [Nat.zero_add, World.ownsRow.cellAt hR k (by simpa using hk')]
        rw [strC, List.getElem?_map, hk]; rfl
      have JN := Lib.hid (Tryz.strings_Join w.heap.size 0 l.length (l.map wordS) ⟨#[32]⟩ wr hne (World.ownsRow.lt hR w.heap.size rfl).2 (by simp; omega) (by simp) (by rw [textL_of]; exact HJ.out))
      rw [textL_of, List.length_map] at JN
      clear hO hB hlt hne hR
      go_wp2_with (first | (go_at_call 115; refine JN.out.mono ?_; rintro e w2 ⟨rfl, hb⟩; replace hb := Lib.hid hb) | fail)
      go_ret
      exact ⟨rfl, HB.out.trans (hb.out.mono HB.out.size)⟩
end Go.Proofs.YteocbgcgfllieaaGreatDoor

namespace Go.Proofs.YteocbgcgfllieaaGreatDoor
open Go.RowKit
set_option linter.unusedVariables false
theorem itoa_no_space (n : Int) : ∀ c ∈ Lib.itoa n, c ≠ 32 := by
  intro c hc e
  subst e
  have h := (read_itoa n).2
  unfold readE at h
  have hk : okD (digs (Lib.itoa n)) = true := by
    cases hd : okD (digs (Lib.itoa n)) with
    | true => rfl
    | false => rw [hd] at h; simp at h
  have hall := ((okD_iff _).1 hk).2
  have hm : (32 : UInt8) ∈ digs (Lib.itoa n) := by
    unfold digs
    split
    · rename_i h45
      cases hl : Lib.itoa n with
      | nil => rw [hl] at hc; simp at hc
      | cons x r =>
        rw [hl] at hc h45
        simp at h45
        subst h45
        rcases List.mem_cons.1 hc with h | h
        · exact absurd h (by decide)
        · exact h
    · exact hc
  have := (hall 32 hm).1
  exact absurd this (by decide)
theorem itoa_one {a b : Nat} (ha : a ≤ 4611686018427387904) (hb : b ≤ 4611686018427387904) (h : Lib.itoa (a : Int) = Lib.itoa (b : Int)) : a = b := by
  have h1 := (read_itoa (a : Int)).1
  have h2 := (read_itoa (b : Int)).1
  rw [h] at h1
  omega
theorem tail_word (x : List UInt8) (r : List (List UInt8)) (hx : ∀ c ∈ x, c ≠ 32) : (x ++ Lib.joinTail [32] r).takeWhile (· != 32) = x := by
  rw [List.takeWhile_append_of_pos (by intro c hc; simpa using hx c hc)]
  cases r with
  | nil => simp [Lib.joinTail]
  | cons y q => simp [Lib.joinTail]
theorem tail_one : ∀ (l m : List Nat), l.length = m.length → (∀ x ∈ l, x ≤ 4611686018427387904) → (∀ x ∈ m, x ≤ 4611686018427387904) →
    Lib.joinTail [32] (l.map fun n : Nat => Lib.itoa (n : Int)) = Lib.joinTail [32] (m.map fun n : Nat => Lib.itoa (n : Int)) → l = m
  | [], [], _, _, _, _ => rfl
  | [], _ :: _, h, _, _, _ => by simp at h
  | _ :: _, [], h, _, _, _ => by simp at h
  | a :: r, b :: q, h, hl, hm, e => by
    have e' : Lib.itoa (a : Int) ++ Lib.joinTail [32] (r.map fun n : Nat => Lib.itoa (n : Int)) = Lib.itoa (b : Int) ++ Lib.joinTail [32] (q.map fun n : Nat => Lib.itoa (n : Int)) := by
      simpa [Lib.joinTail] using e
    have t := congrArg (List.takeWhile (· != 32)) e'
    rw [tail_word _ _ (itoa_no_space _), tail_word _ _ (itoa_no_space _)] at t
    rw [t] at e'
    have hab := itoa_one (hl a (by simp)) (hm b (by simp)) t
    rw [hab, tail_one r q (by simpa using h) (fun x hx => hl x (by simp [hx])) (fun x hx => hm x (by simp [hx])) (List.append_cancel_left e')]
theorem textL_one (l m : List Nat) (h : l.length = m.length) (hl : ∀ x ∈ l, x ≤ 4611686018427387904) (hm : ∀ x ∈ m, x ≤ 4611686018427387904) (e : textL l = textL m) : l = m := by
  cases l with
  | nil => cases m with
    | nil => rfl
    | cons b q => simp at h
  | cons a r => cases m with
    | nil => simp at h
    | cons b q =>
      refine tail_one _ _ h hl hm ?_
      simp only [textL, List.map_cons, Lib.join_cons] at e
      simpa [Lib.joinTail] using e
end Go.Proofs.YteocbgcgfllieaaGreatDoor
