import Derived.Laws.OwnMore
import Derived.Maps.OwnOps
import Derived.Maps.OwnSet
import Derived.Maps.Views
import Derived.Test.YtmokogkndbinlaaGreatDoorZgah
import Derived.Test.YtmokogkndbinlaaGreatDoorZgai
set_option linter.all false
namespace Go.Proofs.YtmokogkndbinlaaGreatDoor
open Go.Lib (hid)
open Go.RowKit
theorem Own.put {W : World} {base c n : Nat} {A : Option Addr} {l : List Nat} (h : Own W base (.slice A n c) l) {j : Nat} (hj : j < l.length) (hn : l.length = n) (y : Nat) :
  ∃ g, A = some ⟨g, 0, none⟩ ∧ base ≤ g ∧ g < W.heap.size ∧ W.cell? ⟨g, j, none⟩ = some (.int .i64 (nth l j : Int)) ∧ W.frozen? ⟨g, j, none⟩ = false ∧
   Own (W.setCell ⟨g, j, none⟩ (.int .i64 (y : Int))) base (.slice A n c) (l.set j y) ∧ W.grownBy (W.setCell ⟨g, j, none⟩ (.int .i64 (y : Int))) (some g) := by
 subst hn
 obtain ⟨A', c', e, hI⟩ := h.form
 obtain ⟨rfl, rfl⟩ : A = A' ∧ c = c' := by injection e with e1 e2 e3; exact ⟨e1, e3⟩
 have h' := h
 obtain ⟨h1, ⟨h2, hn⟩ | ⟨g, cap, cur, h2, hb, hh, hm, hx, hs, ht⟩⟩ := h
 ·omega
 injection h2 with e1 e2 e3
 subst e1 e3
 obtain ⟨g', o', e4, hc⟩ := hI.at_ hj
 injection e4 with e4
 injection e4 with e5 e6
 subst e5 e6
 rw [Nat.zero_add] at hc
 have hst := World.ownsRow.stored (h' : W.ownsRow base 3 1 _ l.length _) j (.int .i64 (y : Int))
 have hset : (intC l).set j (.int .i64 (y : Int)) = intC (l.set j y) := by simp [intC, List.map_set]
 rw [hset] at hst
 exact ⟨g, rfl, hb, (Array.getElem?_eq_some_iff.1 hh).1, hc, World.ownsRow.frozenAt (h' : W.ownsRow base 3 1 _ l.length _) j, by unfold Own; rw [List.length_set]; exact hst.1, hst.2⟩
def pickP (l at_ : List Nat) (j : Nat) : List Nat := (List.range at_.length).map fun i => if i < j then nth l (nth at_ i) else 0
theorem pickP_len (l at_ : List Nat) (j : Nat) : (pickP l at_ j).length = at_.length := by simp [pickP]
theorem pickP_nth (l at_ : List Nat) (j i : Nat) (h : i < at_.length) : nth (pickP l at_ j) i = if i < j then nth l (nth at_ i) else 0 := by simp [nth, pickP, List.getD, h]
theorem pickP_zero (l at_ : List Nat) : pickP l at_ 0 = List.replicate at_.length 0 := by simp [pickP, List.map_const']
theorem pickP_set (l at_ : List Nat) (j : Nat) (h : j < at_.length) : (pickP l at_ j).set j (nth l (nth at_ j)) = pickP l at_ (j + 1) := by
 refine nth_eq (by simp [pickP_len]) fun i hi => ?_
 rw [List.length_set, pickP_len] at hi
 rw [pickP_nth _ _ _ _ hi]
 unfold nth
 rw [List.getD_eq_getElem?_getD, List.getElem?_set]
 by_cases e : j = i
 ·subst e; simp [pickP_len, h]
 rw [if_neg e, ← List.getD_eq_getElem?_getD]
 show nth (pickP l at_ j) i = _
 rw [pickP_nth _ _ _ _ hi]
 by_cases h1 : i < j
 ·rw [if_pos h1, if_pos (by omega)]; rfl
 rw [if_neg h1, if_neg (by omega)]
theorem pickP_all (l at_ : List Nat) : pickP l at_ at_.length = pickN l at_ := by
 refine nth_eq (by simp [pickP_len, pickN]) fun i hi => ?_
 rw [pickP_len] at hi
 rw [pickP_nth _ _ _ _ hi, if_pos hi]
 simp [nth, pickN, List.getD, hi]
theorem own_zero {W : World} {base g n c : Nat} (h : W.ownsRow base 3 1 (.slice (some ⟨g, 0, none⟩) n c) n (madeCells #[.int .i64 0] n).toList) : Own W base (.slice (some ⟨g, 0, none⟩) n c) (List.replicate n 0) := by
 unfold Own
 rw [List.length_replicate]
 have e : (madeCells #[.int .i64 0] n).toList = intC (List.replicate n 0) := by
  refine List.ext_getElem (by simp [madeCells, intC]) fun i h1 h2 => ?_
  simp [madeCells, intC, Nat.mod_one]
 rw [← e]
 exact h
set_option maxRecDepth 100000 in
set_option maxHeartbeats 4000000 in
theorem pickedR (c1 c2 : Nat) (A1 A2 : Option Addr) (l at_ : List Nat) (w : World) (hl : l.length ≤ 100000) (hat : at_.length ≤ 100001) (hin : ∀ x ∈ at_, x < l.length) (h1 : Ints w A1 l) (h2 : Ints w A2 at_) :
  Calls Tryz.prog 88 #[.slice A1 l.length c1, .slice A2 at_.length c2] w fun e w' => (∃ A, e = .returned (.slice A at_.length at_.length) ∧ Own w' w.heap.size (.slice A at_.length at_.length) (pickN l at_)) ∧ Below w.heap.size w w' := by
 obtain ⟨i0, hi, hz0, hz1, hz2⟩ := info_parts info_int
 obtain ⟨w0, hm, how, hgw⟩ := run_makeSlice_full (P := Tryz.prog) w w.heap.size 41 3 i0 (.int .i64 0) 1 Tryz.underlying41 hi hz0 hz1 .i64 .i64 at_.length (by omega) (by rw [hz2]; omega) (by unfold maxLen; omega) (Nat.le_refl _)
 have hbw : Below w.heap.size w w0 := ⟨hgw.os, hgw.tape, hgw.output, hgw.size, fun k hk => hgw.block k hk (by simp)⟩
 rw [Nat.mul_one] at how
 have HOW := hid (show Own w0 w.heap.size _ (pickP l at_ 0) by rw [pickP_zero]; exact own_zero how)
 have HW := hid hbw
 have HIN := hid hin
 have H1 := hid h1
 have H2 := hid h2
 clear hbw how hgw hi hz0 hz1 hz2 hin h1 h2
 go_enter Tryz.func88, Tryz.ntmps88
 go_wp2_with fail
 clear hm
 go_loopw [6, 7, 13] (fun _ _ i wr => ∃ (j : Nat), i = .int .i64 (j : Int) ∧ j ≤ at_.length ∧ Own wr w.heap.size (.slice (some ⟨w.heap.size, 0, none⟩) at_.length at_.length) (pickP l at_ j) ∧ Below w.heap.size w wr) (fun _ _ i _ => at_.length - (intOf i).toNat)
 case atStart => exact ⟨0, rfl, Nat.zero_le _, HOW.out, HW.out⟩
 case round =>
  obtain ⟨j, rfl, hj, hO, hB⟩ := hrel
  have HO := hid hO
  have HB := hid hB
  by_cases hlt : j < at_.length
  rotate_left
  ·have d1 : decide ((j : Int) < (at_.length : Int)) = false := decide_eq_false (by omega)
   obtain rfl : j = at_.length := by omega
   clear hO hB hlt
   go_wp2_with fail
   go_ret
   exact ⟨⟨_, rfl, by have := HO.out; rwa [pickP_all] at this⟩, HB.out⟩
  have d1 : decide ((j : Int) < (at_.length : Int)) = true := decide_eq_true (by omega)
  obtain ⟨gc, oc, rfl, hcc⟩ := (H2.out.below hB (Nat.le_refl _)).at_ hlt
  have hx := HIN.out (nth at_ j) (nth_mem hlt)
  obtain ⟨gs, os, rfl, hss⟩ := (H1.out.below hB (Nat.le_refl _)).at_ hx
  obtain ⟨g, e, hg1, hg2, hc, hf, hO', hg⟩ := hO.put (j := j) (by rw [pickP_len]; exact hlt) (pickP_len _ _ _) (nth l (nth at_ j))
  injection e with e
  injection e with e _ _
  subst e
  rw [pickP_set l at_ j hlt] at hO'
  have HO' := hid hO'
  have HG := hid hg
  clear hO hB hg hO'
  generalize nth at_ j = x at hcc hx hss HO' HG
  generalize nth l x = z at hss HO' HG
  generalize nth (pickP l at_ j) j = q at hc
  go_wp2_with fail
  refine ⟨⟨j + 1, by simp, by omega, HO'.out, HB.out.grown HG.out HB.out.size (by intro k hk; simp at hk; omega)⟩, by simp [intOf]; omega⟩
end Go.Proofs.YtmokogkndbinlaaGreatDoor
namespace Go.Proofs.YtmokogkndbinlaaGreatDoor
open Go.RowKit
theorem cntM_cons (k : Nat) (r : List Nat) (n : Nat) : cntM (k :: r) n = cntM r (min (n * min k 4097) 4097) := rfl
set_option maxRecDepth 100000 in
set_option maxHeartbeats 4000000 in
theorem countR (c : Nat) (A : Option Addr) (l : List Nat) (w : World) (hl : l.length ≤ 100001) (hsm : ∀ x ∈ l, x ≤ 4611686018427387904) (h : Ints w A l) :
  Calls Tryz.prog 161 #[.slice A l.length c] w fun e w' => e = .returned (.int .i64 (cntM l 1 : Nat)) ∧ w = w' := by
 have H := hid h
 have HSM := hid hsm
 clear h hsm
 go_enter Tryz.func161, Tryz.ntmps161
 go_wp2_with fail
 go_loopw [3, 5, 8] (fun n _ i wr => ∃ (j m : Nat), i = .int .i64 (j : Int) ∧ n = .int .i64 (m : Int) ∧ j ≤ l.length ∧ m ≤ 4097 ∧ cntM l 1 = cntM (l.drop j) m ∧ wr = w) (fun _ _ i _ => l.length - (intOf i).toNat)
 case atStart => exact ⟨0, 1, rfl, rfl, Nat.zero_le _, by decide, rfl, rfl⟩
 case round =>
  obtain ⟨j, m, rfl, rfl, hj, hm, hE, rfl⟩ := hrel
  by_cases hlt : j < l.length
  ·have d1 : decide ((j : Int) < (l.length : Int)) = true := decide_eq_true (by omega)
   obtain ⟨g, o, rfl, hcc⟩ := H.out.at_ hlt
   have hx := HSM.out (nth l j) (nth_mem hlt)
   have hdr : l.drop j = nth l j :: l.drop (j + 1) := by rw [List.drop_eq_getElem_cons hlt]; simp [nth, List.getD, hlt]
   rw [hdr, cntM_cons] at hE
   generalize nth l j = x at hcc hx hE
   have hmul : m * min x 4097 ≤ 4097 * 4097 := Nat.mul_le_mul hm (Nat.min_le_right _ _)
   have hq : ((m : Int) * min (x : Int) 4097) = ((m * min x 4097 : Nat) : Int) := by
    rw [Int.natCast_mul]; congr 1; omega
   have HE := hid hE
   clear hE hdr
   go_wp2_with fail
   refine ⟨⟨j + 1, min (m * min x 4097) 4097, by simp, ?_, by omega, Nat.min_le_right _ _, HE.out, trivial⟩, by simp [intOf]; omega⟩
   congr 1
   rw [← Int.natCast_mul]
   omega
  have d1 : decide ((j : Int) < (l.length : Int)) = false := decide_eq_false (by omega)
  obtain rfl : j = l.length := by omega
  clear hlt
  rw [List.drop_length] at hE
  go_wp2_with fail
  go_ret
  refine ⟨?_, rfl⟩
  rw [hE]
  rfl
end Go.Proofs.YtmokogkndbinlaaGreatDoor
namespace Go.Proofs.YtmokogkndbinlaaGreatDoor
open Go.RowKit
def strC (l : List ByteArray) : List Value := l.map .string
def OwnT (w : World) (base : Nat) (v : Value) (l : List ByteArray) : Prop := w.ownsRow base 9 1 v l.length (strC l)
theorem OwnT.below {w w' : World} {base B : Nat} {v : Value} {l : List ByteArray} (h : OwnT w base v l) (hb : Below B w w') (hB : w.heap.size ≤ B) : OwnT w' base v l := by
 obtain ⟨h1, ⟨rfl, hn⟩ | ⟨g, cap, cur, rfl, hb', hh, hm, hx, hs, ht⟩⟩ := h
 ·exact ⟨h1, .inl ⟨rfl, hn⟩⟩
 refine ⟨h1, .inr ⟨g, cap, cur, rfl, hb', ?_, hm, hx, hs, ht⟩⟩
 rw [hb.block g (by have := (Array.getElem?_eq_some_iff.1 hh).1; omega)]
 exact hh
theorem OwnT.put {W : World} {base g c n : Nat} {l : List ByteArray} (h : OwnT W base (.slice (some ⟨g, 0, none⟩) n c) l) (j : Nat) (hj : j < l.length) (hn : l.length = n) (y : ByteArray) :
  (∃ u, W.cell? ⟨g, j, none⟩ = some (.string u)) ∧ W.frozen? ⟨g, j, none⟩ = false ∧ OwnT (W.setCell ⟨g, j, none⟩ (.string y)) base (.slice (some ⟨g, 0, none⟩) n c) (l.set j y) ∧ W.grownBy (W.setCell ⟨g, j, none⟩ (.string y)) (some g) := by
 subst hn
 obtain ⟨h1, h2⟩ := World.ownsRow.stored (h : W.ownsRow base 9 1 _ l.length _) j (.string y)
 have hset : (strC l).set j (.string y) = strC (l.set j y) := by simp [strC, List.map_set]
 rw [hset] at h1
 refine ⟨⟨l[j], ?_⟩, World.ownsRow.frozenAt (h : W.ownsRow base 9 1 _ l.length _) j, by unfold OwnT; rw [List.length_set]; exact h1, h2⟩
 rw [World.ownsRow.cellAt (h : W.ownsRow base 9 1 _ l.length _) j (by omega)]
 simp [strC, hj]
def wordS (n : Nat) : ByteArray := ⟨(Lib.itoa (n : Int)).toArray⟩
def textP (l : List Nat) (j : Nat) : List ByteArray := (List.range l.length).map fun i => if i < j then wordS (nth l i) else ⟨#[]⟩
theorem textP_len (l : List Nat) (j : Nat) : (textP l j).length = l.length := by simp [textP]
theorem textP_set (l : List Nat) (j : Nat) (h : j < l.length) : (textP l j).set j (wordS (nth l j)) = textP l (j + 1) := by
 refine List.ext_getElem (by simp [textP]) fun i h1 h2 => ?_
 simp only [List.getElem_set, textP, List.getElem_map, List.getElem_range]
 by_cases e : j = i
 ·subst e; simp
 rw [if_neg e]
 by_cases h3 : i < j
 ·rw [if_pos h3, if_pos (by omega)]
 rw [if_neg h3, if_neg (by omega)]
theorem textP_all (l : List Nat) : textP l l.length = l.map wordS := by
 refine List.ext_getElem (by simp [textP]) fun i h1 h2 => ?_
 have hi : i < l.length := by simpa [textP] using h1
 simp [textP, hi, nth, List.getD]
theorem info_str : (Tryz.prog.info? 9).map (fun i => (i.zero, i.size, i.bytes)) = some (some (.string ⟨#[]⟩), 1, 16) := by kernel_rfl
def textL (l : List Nat) : List UInt8 := Lib.join (l.map fun n : Nat => Lib.itoa (n : Int)) [32]
theorem textL_of (l : List Nat) : Lib.join ((l.map wordS).map (·.data.toList)) (⟨#[32]⟩ : ByteArray).data.toList = textL l := by
 simp [textL, wordS, List.map_map, Function.comp_def]
set_option maxRecDepth 100000 in
set_option maxHeartbeats 4000000 in
theorem textR (c : Nat) (A : Option Addr) (l : List Nat) (w : World) (hl : l.length ≤ 100001) (hsm : ∀ x ∈ l, x ≤ 4611686018427387904) (hj : (textL l).length ≤ 140737488355328) (h : Ints w A l) (hT : TabP w) :
  Calls Tryz.prog 215 #[.slice A l.length c] w fun e w' => e = .returned (.string ⟨(textL l).toArray⟩) ∧ Below w.heap.size w w' := by
 obtain ⟨i0, hi, hz0, hz1, hz2⟩ := info_parts info_str
 obtain ⟨w0, hm, how, hgw⟩ := run_makeSlice_full (P := Tryz.prog) w w.heap.size 191 9 i0 (.string ⟨#[]⟩) 1 Tryz.underlying191 hi hz0 hz1 .i64 .i64 l.length (by omega) (by rw [hz2]; omega) (by unfold maxLen; omega) (Nat.le_refl _)
 have hbw : Below w.heap.size w w0 := ⟨hgw.os, hgw.tape, hgw.output, hgw.size, fun k hk => hgw.block k hk (by simp)⟩
 rw [Nat.mul_one] at how
 have HOW := hid (show OwnT w0 w.heap.size (.slice (some ⟨w.heap.size, 0, none⟩) l.length l.length) (textP l 0) by
  unfold OwnT
  rw [textP_len]
  have e : strC (textP l 0) = (madeCells (Value.string ⟨#[]⟩).cells l.length).toList := by
   refine List.ext_getElem (by simp [madeCells, strC, textP]) fun i h1 h2 => ?_
   simp [madeCells, strC, textP, Value.cells, Nat.mod_one]
  rw [e]
  exact how)
 have HW := hid hbw
 have HSM := hid hsm
 have H := hid h
 have HT := hid hT
 have HJ := hid hj
 clear hbw how hgw hi hz0 hz1 hz2 hsm h hT hj
 go_enter Tryz.func215, Tryz.ntmps215
 go_wp2_with fail
 clear hm
 go_loopw [4, 5, 11] (fun _ _ i wr => ∃ (j : Nat), i = .int .i64 (j : Int) ∧ j ≤ l.length ∧ OwnT wr w.heap.size (.slice (some ⟨w.heap.size, 0, none⟩) l.length l.length) (textP l j) ∧ Below w.heap.size w wr) (fun _ _ i _ => l.length - (intOf i).toNat)
 case atStart => exact ⟨0, rfl, Nat.zero_le _, HOW.out, HW.out⟩
 case round =>
  obtain ⟨j, rfl, hj, hO, hB⟩ := hrel
  have HO := hid hO
  have HB := hid hB
  by_cases hlt : j < l.length
  ·have d1 : decide ((j : Int) < (l.length : Int)) = true := decide_eq_true (by omega)
   obtain ⟨gc, oc, rfl, hcc⟩ := (H.out.below hB (Nat.le_refl _)).at_ hlt
   have hx := HSM.out (nth l j) (nth_mem hlt)
   have WR := hid (write_any (nth l j : Int) wr (by omega) (by omega) (tab_below HT.out hB))
   have HS := hid (textP_set l j hlt)
   have HL := hid (show j < (textP l j).length by rw [textP_len]; exact hlt)
   clear hO hB
   generalize hq : nth l j = x at hcc hx WR HS
   clear hq
   go_wp2_with (first | (go_at_call 129; refine WR.out.mono ?_; rintro e w2 ⟨rfl, hb⟩; obtain ⟨⟨u, hc⟩, hf, hO', hg⟩ := (HO.out.below hb (Nat.le_refl _)).put j HL.out (textP_len _ _) (wordS x); rw [HS.out] at hO'; replace hO' := hid hO'; replace hg := hid hg; replace hb := hid hb) | fail)
   refine ⟨⟨j + 1, by simp, by omega, hO'.out, (HB.out.trans (hb.out.mono HB.out.size)).grown hg.out (Nat.le_trans HB.out.size hb.out.size) (by intro k hk; simp at hk; omega)⟩, by simp [intOf]; omega⟩
  have d1 : decide ((j : Int) < (l.length : Int)) = false := decide_eq_false (by omega)
  obtain rfl : j = l.length := by omega
  rw [textP_all] at hO
  have hR : wr.ownsRow w.heap.size 9 1 (.slice (some ⟨w.heap.size, 0, none⟩) l.length l.length) l.length (strC (l.map wordS)) := by
   have := hO
   unfold OwnT at this
   rwa [List.length_map] at this
  have hne : ∀ (k : Nat) x, (l.map wordS)[k]? = some x → wr.cell? ⟨w.heap.size, 0 + k, none⟩ = some (.string x) := fun k x hk => by
   have hk' : k < l.length := by have := (List.getElem?_eq_some_iff.1 hk).1; simpa using this
   rw [Nat.zero_add, World.ownsRow.cellAt hR k (by simpa using hk')]
   rw [strC, List.getElem?_map, hk]; rfl
  have JN := hid (Tryz.strings_Join w.heap.size 0 l.length (l.map wordS) ⟨#[32]⟩ wr hne (World.ownsRow.lt hR w.heap.size rfl).2 (by simp; omega) (by simp) (by rw [textL_of]; exact HJ.out))
  rw [textL_of, List.length_map] at JN
  clear hO hB hlt hne hR
  go_wp2_with (first | (go_at_call 130; refine JN.out.mono ?_; rintro e w2 ⟨rfl, hb⟩; replace hb := hid hb) | fail)
  go_ret
  exact ⟨rfl, HB.out.trans (hb.out.mono HB.out.size)⟩
end Go.Proofs.YtmokogkndbinlaaGreatDoor
namespace Go.Proofs.YtmokogkndbinlaaGreatDoor
open Go.RowKit
theorem itoa_no_space (n : Int) : ∀ c ∈ Lib.itoa n, c ≠ 32 := by
 intro c hc e
 subst e
 have h := (read_itoa n).2
 unfold readE at h
 have hk : okD (digs (Lib.itoa n)) = true := by
  cases hd : okD (digs (Lib.itoa n)) with
  | true => rfl
  | false => rw [hd] at h; simp at h
 have hall := ((okD_iff _).1 hk).2
 have hm : (32 : UInt8) ∈ digs (Lib.itoa n) := by
  unfold digs
  split
  rotate_left
  ·exact hc
  rename_i h45
  cases hl : Lib.itoa n with
  | nil => rw [hl] at hc; simp at hc
  | cons x r =>
   rw [hl] at hc h45
   simp at h45
   subst h45
   rcases List.mem_cons.1 hc with h | h
   ·exact absurd h (by decide)
   exact h
 have := (hall 32 hm).1
 exact absurd this (by decide)
theorem itoa_one {a b : Nat} (ha : a ≤ 4611686018427387904) (hb : b ≤ 4611686018427387904) (h : Lib.itoa (a : Int) = Lib.itoa (b : Int)) : a = b := by
 have h1 := (read_itoa (a : Int)).1
 have h2 := (read_itoa (b : Int)).1
 rw [h] at h1
 omega
theorem tail_word (x : List UInt8) (r : List (List UInt8)) (hx : ∀ c ∈ x, c ≠ 32) : (x ++ Lib.joinTail [32] r).takeWhile (· != 32) = x := by
 rw [List.takeWhile_append_of_pos (by intro c hc; simpa using hx c hc)]
 cases r with
 | nil => simp [Lib.joinTail]
 | cons y q => simp [Lib.joinTail]
theorem tail_one : ∀ (l m : List Nat), l.length = m.length → (∀ x ∈ l, x ≤ 4611686018427387904) → (∀ x ∈ m, x ≤ 4611686018427387904) →
  Lib.joinTail [32] (l.map fun n : Nat => Lib.itoa (n : Int)) = Lib.joinTail [32] (m.map fun n : Nat => Lib.itoa (n : Int)) → l = m
 | [], [], _, _, _, _ => rfl
 | [], _ :: _, h, _, _, _ => by simp at h
 | _ :: _, [], h, _, _, _ => by simp at h
 | a :: r, b :: q, h, hl, hm, e => by
  have e' : Lib.itoa (a : Int) ++ Lib.joinTail [32] (r.map fun n : Nat => Lib.itoa (n : Int)) = Lib.itoa (b : Int) ++ Lib.joinTail [32] (q.map fun n : Nat => Lib.itoa (n : Int)) := by
   simpa [Lib.joinTail] using e
  have t := congrArg (List.takeWhile (· != 32)) e'
  rw [tail_word _ _ (itoa_no_space _), tail_word _ _ (itoa_no_space _)] at t
  rw [t] at e'
  have hab := itoa_one (hl a (by simp)) (hm b (by simp)) t
  rw [hab, tail_one r q (by simpa using h) (fun x hx => hl x (by simp [hx])) (fun x hx => hm x (by simp [hx])) (List.append_cancel_left e')]
theorem textL_one (l m : List Nat) (h : l.length = m.length) (hl : ∀ x ∈ l, x ≤ 4611686018427387904) (hm : ∀ x ∈ m, x ≤ 4611686018427387904) (e : textL l = textL m) : l = m := by
 cases l with
 | nil => cases m with
  | nil => rfl
  | cons b q => simp at h
 | cons a r => cases m with
  | nil => simp at h
  | cons b q =>
   refine tail_one _ _ h hl hm ?_
   simp only [textL, List.map_cons, Lib.join_cons] at e
   simpa [Lib.joinTail] using e
def IntsT (W : World) (b sc : Nat) (A : Option Addr) (l : List Nat) : Prop :=
 l = [] ∨ ∃ g o cur fr, A = some ⟨g, o, none⟩ ∧ W.heap[g]? = some (.cells cur 3 fr) ∧ g ≠ b ∧ g ≠ sc ∧ ∀ i, i < l.length → W.cell? ⟨g, o + i, none⟩ = some (.int .i64 (nth l i : Int))
theorem IntsT.k {W : World} {b sc : Nat} {A : Option Addr} {l : List Nat} (h : IntsT W b sc A l) : IntsK W b sc A l := by
 rcases h with rfl | ⟨g, o, cur, fr, rfl, hg, h1, h2, hc⟩
 ·exact .inl rfl
 exact .inr ⟨g, o, rfl, (Array.getElem?_eq_some_iff.1 hg).1, h1, h2, hc⟩
theorem IntsT.keep {W W' : World} {b sc : Nat} {A : Option Addr} {l : List Nat} (h : IntsT W b sc A l) (hk : ∀ g cur fr, W.heap[g]? = some (.cells cur 3 fr) → g ≠ b → g ≠ sc → W'.heap[g]? = W.heap[g]?) : IntsT W' b sc A l := by
 rcases h with rfl | ⟨g, o, cur, fr, rfl, hg, h1, h2, hc⟩
 ·exact .inl rfl
 have e := hk g cur fr hg h1 h2
 exact .inr ⟨g, o, cur, fr, rfl, e.trans hg, h1, h2, fun i hi => (World.cell?_of_block (a := ⟨g, o + i, none⟩) e).trans (hc i hi)⟩
theorem IntsT.own {W : World} {b sc base c : Nat} {A : Option Addr} {l : List Nat} (h : Own W base (.slice A l.length c) l) (h1 : b < base) (h2 : sc < base) : IntsT W b sc A l := by
 have h' := h
 obtain ⟨_, ⟨e, hn⟩ | ⟨g, cap, cur, e, hb, hh, _⟩⟩ := h'
 ·exact .inl (List.eq_nil_of_length_eq_zero hn)
 injection e with e1 e2 e3
 subst e1
 rcases IntsK.own h h1 h2 with rfl | ⟨g', o', e4, _, h3, h4, hc⟩
 ·exact .inl rfl
 injection e4 with e4
 injection e4 with e5 e6
 subst e5 e6
 exact .inr ⟨g, 0, cur, (0, 0), rfl, hh, h3, h4, hc⟩
theorem keep_rk {W W' : World} {b sc : Nat} (hk : RK W b sc W') : ∀ g cur fr, W.heap[g]? = some (.cells cur 3 fr) → g ≠ b → g ≠ sc → W'.heap[g]? = W.heap[g]? := fun g cur fr h h1 h2 => hk.block g (Array.getElem?_eq_some_iff.1 h).1 h1 h2
structure KeepT (W W' : World) (b sc : Nat) : Prop where
 ints : ∀ g cur fr, W.heap[g]? = some (.cells cur 3 fr) → g ≠ b → g ≠ sc → W'.heap[g]? = W.heap[g]?
 lines : ∀ g cur fr, W.heap[g]? = some (.cells cur 185 fr) → g ≠ b → g ≠ sc → W'.heap[g]? = W.heap[g]?
theorem KeepT.rk {W W' : World} {b sc : Nat} (hk : RK W b sc W') : KeepT W W' b sc :=
 ⟨keep_rk hk, fun g cur fr h h1 h2 => hk.block g (Array.getElem?_eq_some_iff.1 h).1 h1 h2⟩
theorem KeepT.trans {W W' W'' : World} {b sc : Nat} (h : KeepT W W' b sc) (k : KeepT W' W'' b sc) : KeepT W W'' b sc :=
 ⟨fun g cur fr h0 h1 h2 => (k.ints g cur fr ((h.ints g cur fr h0 h1 h2).trans h0) h1 h2).trans (h.ints g cur fr h0 h1 h2), fun g cur fr h0 h1 h2 => (k.lines g cur fr ((h.lines g cur fr h0 h1 h2).trans h0) h1 h2).trans (h.lines g cur fr h0 h1 h2)⟩
theorem IntsT.rk {W W' : World} {b sc : Nat} {A : Option Addr} {l : List Nat} (h : IntsT W b sc A l) (hk : RK W b sc W') : IntsT W' b sc A l := h.keep (keep_rk hk)
def LinesK (W : World) (b sc : Nat) (A : Option Addr) (ls : List LineM) : Prop :=
 ls = [] ∨ ∃ g o cur fr, A = some ⟨g, o, none⟩ ∧ W.heap[g]? = some (.cells cur 185 fr) ∧ g ≠ b ∧ g ≠ sc ∧ ∀ i x, ls[i]? = some x → W.cell? ⟨g, o + i * 2 + 1, none⟩ = some (.int .i64 x.2) ∧ ∃ At ct, W.cell? ⟨g, o + i * 2, none⟩ = some (.slice At x.1.length ct) ∧ IntsT W b sc At x.1
theorem LinesK.keep {W W' : World} {b sc : Nat} {A : Option Addr} {ls : List LineM} (h : LinesK W b sc A ls) (hk : KeepT W W' b sc) : LinesK W' b sc A ls := by
 rcases h with rfl | ⟨g, o, cur, fr, rfl, hg, h1, h2, hc⟩
 ·exact .inl rfl
 have e := hk.lines g cur fr hg h1 h2
 refine .inr ⟨g, o, cur, fr, rfl, e.trans hg, h1, h2, fun i x hx => ?_⟩
 obtain ⟨k1, At, ct, k2, k3⟩ := hc i x hx
 exact ⟨(World.cell?_of_block e).trans k1, At, ct, (World.cell?_of_block e).trans k2, k3.keep hk.ints⟩
theorem LinesK.rk {W W' : World} {b sc : Nat} {A : Option Addr} {ls : List LineM} (h : LinesK W b sc A ls) (hk : RK W b sc W') : LinesK W' b sc A ls := h.keep (KeepT.rk hk)
def FunC (W : World) (b sc : Nat) (sv lv : Value) (f : FunM) : Prop :=
 (∃ A c, sv = .slice A f.scope.length c ∧ f.scope.length ≤ c ∧ IntsT W b sc A f.scope) ∧ ∃ A c, lv = .slice A f.lines.length c ∧ LinesK W b sc A f.lines
theorem FunC.keep {W W' : World} {b sc : Nat} {sv lv : Value} {f : FunM} (h : FunC W b sc sv lv f) (hk : KeepT W W' b sc) : FunC W' b sc sv lv f := by
 obtain ⟨⟨A, c, h1, h0, h2⟩, A', c', h3, h4⟩ := h
 exact ⟨⟨A, c, h1, h0, h2.keep hk.ints⟩, A', c', h3, h4.keep hk⟩
theorem FunC.rk {W W' : World} {b sc : Nat} {sv lv : Value} {f : FunM} (h : FunC W b sc sv lv f) (hk : RK W b sc W') : FunC W' b sc sv lv f := h.keep (KeepT.rk hk)
def FunsK (W : World) (b sc : Nat) (A : Option Addr) (fs : List FunM) : Prop :=
 fs = [] ∨ ∃ g o, A = some ⟨g, o, none⟩ ∧ g < W.heap.size ∧ g ≠ b ∧ g ≠ sc ∧ ∀ i f, fs[i]? = some f → ∃ sv lv, W.cell? ⟨g, o + i * 3, none⟩ = some sv ∧ W.cell? ⟨g, o + i * 3 + 1, none⟩ = some (.int .i64 f.other) ∧ W.cell? ⟨g, o + i * 3 + 2, none⟩ = some lv ∧ FunC W b sc sv lv f
theorem FunsK.rk {W W' : World} {b sc : Nat} {A : Option Addr} {fs : List FunM} (h : FunsK W b sc A fs) (hk : RK W b sc W') : FunsK W' b sc A fs := by
 rcases h with rfl | ⟨g, o, rfl, hg, h1, h2, hc⟩
 ·exact .inl rfl
 refine .inr ⟨g, o, rfl, Nat.lt_of_lt_of_le hg hk.size, h1, h2, fun i f hf => ?_⟩
 obtain ⟨sv, lv, k1, k2, k3, k4⟩ := hc i f hf
 exact ⟨sv, lv, (World.cell?_of_block (hk.block g hg h1 h2)).trans k1, (World.cell?_of_block (hk.block g hg h1 h2)).trans k2, (World.cell?_of_block (hk.block g hg h1 h2)).trans k3, k4.rk hk⟩
theorem IntsK.ints {W : World} {b sc : Nat} {A : Option Addr} {l : List Nat} (h : IntsK W b sc A l) : Ints W A l := by
 rcases h with rfl | ⟨g, o, rfl, hg, h1, h2, hc⟩
 ·exact .inl rfl
 exact .inr ⟨g, o, rfl, hg, hc⟩
theorem IntsT.ints {W : World} {b sc : Nat} {A : Option Addr} {l : List Nat} (h : IntsT W b sc A l) : Ints W A l := h.k.ints
theorem linesOf_far (b sc : Nat) (s : ByteArray) (st : RdS) (v : RdV) (Ash : Option Addr) (n c i p : Nat) (sv : Value) (w : World) (hi : n ≤ i) (hsm : i ≤ 4611686018427387904) (h : RdOk w b sc s st v) (hv : v.shared = .slice Ash n c) :
  Calls Tryz.prog 213 #[.pointer (some ⟨b, 0, none⟩), .int .i64 ((i : Int) + 1), sv, .int .i64 (p : Int)] w fun e w' => e = .returned (.slice none 0 0) ∧ RK w b sc w' ∧ RdBad w' b 4 p { v with fp := (p : Int), fe := 4 } := by
 have c9 : w.cell? ⟨b, 9, none⟩ = some (.slice Ash n c) := hv ▸ h.at_.cell (i := 9) rfl
 have NT := hid (note_new b 1 (p : Int) 4 w _ _ h.at_ (Or.inr ⟨v.fp, rfl⟩) (h.fine ▸ rfl))
 have HH := hid h
 have d1 : decide ((n : Int) < (i : Int) + 1) = true := decide_eq_true (by omega)
 clear h hv hi
 go_enter Tryz.func213, Tryz.ntmps213
 go_wp2_with (first | (go_at_call 166; refine NT.out.mono ?_; rintro e w' ⟨⟨_, rfl⟩, h1, h2⟩) | fail)
 go_ret
 exact ⟨rfl, RK.grown1 h2, HH.out.told (by decide) h1 h2⟩
end Go.Proofs.YtmokogkndbinlaaGreatDoor
namespace Go.Proofs.YtmokogkndbinlaaGreatDoor
open Go.RowKit
theorem pickedI (c1 c2 : Nat) (A1 A2 : Option Addr) (l at_ : List Nat) (w : World) (hl : l.length ≤ 100000) (hat : at_.length ≤ 100001) (hin : ∀ x ∈ at_, x < l.length) (h1 : Ints w A1 l) (h2 : Ints w A2 at_) :
  Calls Tryz.prog 88 #[.slice A1 l.length c1, .slice A2 at_.length c2] w fun e w' => (∃ A c, e = .returned (.slice A (pickN l at_).length c) ∧ Ints w' A (pickN l at_)) ∧ Below w.heap.size w w' := by
 refine (pickedR c1 c2 A1 A2 l at_ w hl hat hin h1 h2).mono ?_
 rintro e w' ⟨⟨A, rfl, hO⟩, hb⟩
 obtain ⟨A', c', e', hI⟩ := hO.form
 injection e' with e1 e2 e3
 subst e1 e3
 exact ⟨⟨A, _, by rw [← e2], hI⟩, hb⟩
abbrev HoldM (wb : World) (b bx nz cs n1 q1 n2 q2 : Nat) (oth : Int) (As A1 A2 : Option Addr) (W : World) : Prop :=
 W.cell? ⟨b, 7, none⟩ = some (.slice As nz cs) ∧ W.cell? ⟨bx, 0, none⟩ = some (.slice A1 n1 q1) ∧ W.cell? ⟨bx, 2, none⟩ = some (.slice A2 n2 q2) ∧ Below wb.heap.size wb W
theorem holdM {wb W W' : World} {b bx nz cs n1 q1 n2 q2 : Nat} {oth : Int} {As A1 A2 : Option Addr} (H : HoldM wb b bx nz cs n1 q1 n2 q2 oth As A1 A2 W) (hb : Below W.heap.size W W') : HoldM wb b bx nz cs n1 q1 n2 q2 oth As A1 A2 W' := by
 obtain ⟨a0, a1, a2, h9⟩ := H
 have K : ∀ b i v, W.cell? ⟨b, i, none⟩ = some v → W'.cell? ⟨b, i, none⟩ = some v := fun b i v h => (hb.cell (p := ⟨b, i, none⟩) (World.block_lt_of_cell? W _ h)).trans h
 exact ⟨K _ _ _ a0, K _ _ _ a1, K _ _ _ a2, h9.trans (hb.mono h9.size)⟩
theorem HoldM.below {wb W : World} {b bx nz cs n1 q1 n2 q2 : Nat} {oth : Int} {As A1 A2 : Option Addr} (H : HoldM wb b bx nz cs n1 q1 n2 q2 oth As A1 A2 W) : Below wb.heap.size wb W := H.2.2.2
theorem HoldM.c2 {wb W W' : World} {b bx nz cs n1 q1 n2 q2 : Nat} {oth : Int} {As A1 A2 : Option Addr} (H : HoldM wb b bx nz cs n1 q1 n2 q2 oth As A1 A2 W) (hg : W.grownBy W' (some b)) (hne : bx ≠ b) : W'.cell? ⟨bx, 2, none⟩ = some (.slice A2 n2 q2) :=
 (World.cell?_of_block (a := ⟨bx, 2, none⟩) (hg.block bx (World.block_lt_of_cell? W _ H.2.2.1) (fun e => hne (Option.some.inj e)))).trans H.2.2.1
set_option maxRecDepth 100000 in
set_option maxHeartbeats 4000000 in
theorem linesOf_ok (b sc : Nat) (s : ByteArray) (st : RdS) (v : RdV) (Ash As Ac : Option Addr) (n c cs cc i p : Nat) (sizes scope : List Nat) (shared : List FunM) (f : FunM) (w : World) (hi : shared[i]? = some f) (hsm : i ≤ 4611686018427387904) (h : RdOk w b sc s st v) (hv : v.shared = .slice Ash shared.length c) (hvs : v.sizes = .slice As sizes.length cs)
  (hnv : sizes.length ≤ 100000) (hlen : scope.length ≤ 100001) (hin : ∀ x ∈ scope, x < sizes.length) (hlf : f.scope.length ≤ 100001) (hif : ∀ x ∈ f.scope, x < sizes.length) (hF : FunsK w b sc Ash shared) (hS : IntsK w b sc As sizes) (hC : IntsK w b sc Ac scope) :
  Calls Tryz.prog 213 #[.pointer (some ⟨b, 0, none⟩), .int .i64 ((i : Int) + 1), .slice Ac scope.length cc, .int .i64 (p : Int)] w fun e w' => (∃ A c, e = .returned (.slice A f.lines.length c) ∧ LinesK w' b sc A f.lines) ∧ RK w b sc w' ∧
   if pickN sizes f.scope = pickN sizes scope then RdOk w' b sc s st v else RdBad w' b 4 p { v with fp := (p : Int), fe := 4 } := by
 have hlt : i < shared.length := (List.getElem?_eq_some_iff.1 hi).1
 have c9 : w.cell? ⟨b, 9, none⟩ = some (.slice Ash shared.length c) := hv ▸ h.at_.cell (i := 9) rfl
 have c7 : w.cell? ⟨b, 7, none⟩ = some (.slice As sizes.length cs) := hvs ▸ h.at_.cell (i := 7) rfl
 have d1 : decide ((shared.length : Int) < (i : Int) + 1) = false := decide_eq_false (by omega)
 obtain rfl | ⟨g, o, rfl, hg, hg1, hg2, hc⟩ := hF
 ·simp at hlt
 obtain ⟨sv, lv, k1, k2, k3, k4⟩ := hc i f hi
 obtain ⟨⟨A1, q1, rfl, -, k5⟩, A2, q2, rfl, k6⟩ := k4
 have hx := heap_alloc_new w (.cells #[.slice A1 f.scope.length q1, .int .i64 f.other, .slice A2 f.lines.length q2] 202)
 have n1 := hid (new_val w (.cells #[.slice A1 f.scope.length q1, .int .i64 f.other, .slice A2 f.lines.length q2] 202))
 have HM : Hid (HoldM (w.alloc (.cells #[.slice A1 f.scope.length q1, .int .i64 f.other, .slice A2 f.lines.length q2] 202)) b w.heap.size sizes.length cs f.scope.length q1 f.lines.length q2 f.other As A1 A2 (w.alloc (.cells #[.slice A1 f.scope.length q1, .int .i64 f.other, .slice A2 f.lines.length q2] 202))) :=
  hid ⟨(n1.out.cell (p := ⟨b, 7, none⟩) h.lt).trans c7, by rw [cell_of_row _ _ _ _ _ _ hx]; rfl, by rw [cell_of_row _ _ _ _ _ _ hx]; rfl, Below.refl _ _⟩
 have P1 := hid (fun W (hb : Below w.heap.size w W) => pickedI cs q1 As A1 sizes f.scope W hnv hlf hif (hS.ints.below hb (Nat.le_refl _)) (k5.ints.below hb (Nat.le_refl _)))
 have P2 := hid (fun W (hb : Below w.heap.size w W) => pickedI cs cc As Ac sizes scope W hnv hlen hin (hS.ints.below hb (Nat.le_refl _)) (hC.ints.below hb (Nat.le_refl _)))
 have L1 := hid (show (pickN sizes f.scope).length ≤ 1000000 by simp [pickN]; omega)
 generalize pickN sizes f.scope = l1 at P1 L1 ⊢
 generalize pickN sizes scope = l2 at P2 ⊢
 have EQ := hid (fun W Aa Ab ca cb (ha : Ints W Aa l1) (hb : Ints W Ab l2) => equal_any Aa Ab ca cb l1 l2 W L1.out ha hb)
 have HH := hid h
 have K6 := hid k6
 clear h hv hvs hi hc k5 k6 hS hC hin hif hlen hlf hnv hg hg1 hg2 L1 hx
 by_cases he : l1 = l2
 ·simp only [if_pos he]
  rw [decide_eq_true he] at EQ
  clear he
  go_enter Tryz.func213, Tryz.ntmps213
  go_upto_region 5 with fail
  generalize hw1 : w.alloc (.cells #[.slice A1 f.scope.length q1, .int .i64 f.other, .slice A2 f.lines.length q2] 202) = w1 at HM n1 ⊢
  clear c7 c9 k1 k2 k3
  generalize hbx : w.heap.size = bx at HM ⊢
  clear hbx
  go_region_held3 (fun W => HoldM w1 b bx sizes.length cs f.scope.length q1 f.lines.length q2 f.other As A1 A2 W) (first | exact holdM HM.out ((Below.refl _ _).drew) | exact holdM (by assumption) (by assumption))
   ((first | (go_at_call 88; with_reducible refine (P1.out _ (then_ n1.out (HoldM.below (by assumption)))).mono ?_; rintro e w' ⟨⟨A9, c9, rfl, hI9⟩, hb⟩; have HI9 := hid hI9; clear hI9) | (go_at_call 88; with_reducible refine (P2.out _ (then_ n1.out (HoldM.below (by assumption)))).mono ?_; rintro e w' ⟨⟨A8, c8, rfl, hI8⟩, hb⟩; have HI8 := hid (And.intro (HI9.out.below hb (Nat.le_refl _)) hI8); clear hI8) | (go_at_call 25; refine (EQ.out _ _ _ _ _ HI8.out.1 HI8.out.2).mono ?_; rintro e w' ⟨rfl, hb⟩)))
  go_wp2_with fail
  go_ret
  have hB := then_ n1.out (HoldM.below (by assumption))
  exact ⟨⟨A2, q2, rfl, K6.out.rk (RK.below hB)⟩, RK.below hB, HH.out.below hB⟩
 simp only [if_neg he]
 rw [decide_eq_false he] at EQ
 clear he
 have NT := hid (fun W (hb : Below w.heap.size w W) => note_new b 1 (p : Int) 4 W _ _ (HH.out.below hb).at_ (Or.inr ⟨v.fp, rfl⟩) (HH.out.fine ▸ rfl))
 have BX := hid (show w.heap.size ≠ b by have := HH.out.lt; omega)
 go_enter Tryz.func213, Tryz.ntmps213
 go_upto_region 5 with fail
 generalize hw1 : w.alloc (.cells #[.slice A1 f.scope.length q1, .int .i64 f.other, .slice A2 f.lines.length q2] 202) = w1 at HM n1 ⊢
 clear c7 c9 k1 k2 k3
 generalize hbx : w.heap.size = bx at HM BX ⊢
 clear hbx
 go_region_held3 (fun W => HoldM w1 b bx sizes.length cs f.scope.length q1 f.lines.length q2 f.other As A1 A2 W) (first | exact holdM HM.out ((Below.refl _ _).drew) | exact holdM (by assumption) (by assumption))
  ((first | (go_at_call 88; with_reducible refine (P1.out _ (then_ n1.out (HoldM.below (by assumption)))).mono ?_; rintro e w' ⟨⟨A9, c9, rfl, hI9⟩, hb⟩; have HI9 := hid hI9; clear hI9) | (go_at_call 88; with_reducible refine (P2.out _ (then_ n1.out (HoldM.below (by assumption)))).mono ?_; rintro e w' ⟨⟨A8, c8, rfl, hI8⟩, hb⟩; have HI8 := hid (And.intro (HI9.out.below hb (Nat.le_refl _)) hI8); clear hI8) | (go_at_call 25; refine (EQ.out _ _ _ _ _ HI8.out.1 HI8.out.2).mono ?_; rintro e w' ⟨rfl, hb⟩)))
 go_wp2_with (first | (go_at_call 166; refine (NT.out _ (then_ n1.out (HoldM.below (by assumption)))).mono ?_; rintro e w3 ⟨⟨_, rfl⟩, z1, z2⟩; have z3 := HoldM.c2 (by assumption) z2 BX.out; have hB := hid (then_ n1.out (HoldM.below (by assumption))); replace z1 := hid z1; replace z2 := hid z2) | fail)
 go_ret
 have hk := (RK.below (p := b) (q := sc) hB.out).trans (RK.grown1 (q := sc) z2.out)
 exact ⟨⟨A2, q2, rfl, K6.out.rk hk⟩, hk, (HH.out.below hB.out).told (by decide) z1.out z2.out⟩
end Go.Proofs.YtmokogkndbinlaaGreatDoor
namespace Go.Proofs.YtmokogkndbinlaaGreatDoor
open Go.RowKit
theorem zeroI (w : World) : (zeroValue 3).run Tryz.prog w = .ok (.int .i64 0) w := by kernel_rfl
theorem lawS : Maps.Keyed Tryz.prog 9 := Maps.string_keyed Tryz.underlying9
structure Seen (w : World) (mb q : Nat) (D : DataW Unit) (f : List UInt8 → Int) : Prop where
 own : w.ownsMap Tryz.prog 9 (plainElem Tryz.prog 3) mb q D
 at_ : ∀ x, D.atKey (.string x) (.lit (.int .i64 0)) = .lit (.int .i64 (f x))
theorem seen_made (w : World) : Seen (w.alloc (.map #[] 0)) w.heap.size 0 (.map []) (fun _ => 0) := ⟨World.ownsMap_made _ _ _ _, fun x => rfl⟩
theorem Seen.block {w w' : World} {mb q : Nat} {D : DataW Unit} {f : List UInt8 → Int} (h : Seen w mb q D f) (hb : w'.heap[mb]? = w.heap[mb]?) : Seen w' mb q D f := by
 obtain ⟨⟨es, clock, h1, h2⟩, h3⟩ := h
 exact ⟨⟨es, clock, hb.trans h1, h2⟩, h3⟩
theorem Seen.put {w w' : World} {mb q : Nat} {D : DataW Unit} {f : List UInt8 → Int} (h : Seen w mb q D f) (x : List UInt8) (c : Int)
  (ho : w'.ownsMap Tryz.prog 9 (plainElem Tryz.prog 3) mb (q + 1) (D.put (.string x) (.lit (.int .i64 c)))) :
  Seen w' mb (q + 1) (D.put (.string x) (.lit (.int .i64 c))) (fun y => if y = x then c else f y) := by
 have ht := h.own.tidy lawS
 refine ⟨ho, fun y => ?_⟩
 by_cases e : y = x
 ·subst e
  rw [if_pos rfl]
  exact Maps.atKey_put_same ht.isMap (by trivial) _ _
 rw [if_neg e, Maps.atKey_put_other (by intro hq; injection hq with hq; exact e hq)]
 exact h.at_ y
end Go.Proofs.YtmokogkndbinlaaGreatDoor
