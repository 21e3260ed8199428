/- Texts of this seat laid together (no statement of its own). -/
import Derived.Test.YteocbgcgfllieaaGreatDoorMgE
import Derived.Test.YteocbgcgfllieaaGreatDoorMgD
namespace Go.Proofs.YteocbgcgfllieaaGreatDoor
open Go.RowKit
set_option linter.unusedVariables false
/-- Nothing changed but two blocks and what is new. -/
structure RK (W0 : World) (p q : Nat) (W : World) : Prop where
  os : W.os = W0.os
  tape : W.tape = W0.tape
  output : W.output = W0.output
  size : W0.heap.size ≤ W.heap.size
  block : ∀ k, k < W0.heap.size → k ≠ p → k ≠ q → W.heap[k]? = W0.heap[k]?
theorem RK.refl (W : World) (p q : Nat) : RK W p q W := ⟨rfl, rfl, rfl, Nat.le_refl _, fun _ _ _ _ => rfl⟩
theorem RK.trans {X Y Z : World} {p q : Nat} (h : RK X p q Y) (k : RK Y p q Z) : RK X p q Z :=
  ⟨k.os.trans h.os, k.tape.trans h.tape, k.output.trans h.output, Nat.le_trans h.size k.size, fun j hj hp hq => (k.block j (Nat.lt_of_lt_of_le hj h.size) hp hq).trans (h.block j hj hp hq)⟩
theorem RK.grown1 {X Y : World} {p q : Nat} (h : X.grownBy Y (some p)) : RK X p q Y := ⟨h.os, h.tape, h.output, h.size, fun j hj hp _ => h.block j hj (fun e => hp (Option.some.inj e))⟩
theorem RK.grown2 {X Y : World} {p q : Nat} (h : X.grownBy Y (some q)) : RK X p q Y := ⟨h.os, h.tape, h.output, h.size, fun j hj _ hq => h.block j hj (fun e => hq (Option.some.inj e))⟩
theorem RK.below {X Y : World} {p q : Nat} (h : Below X.heap.size X Y) : RK X p q Y := ⟨h.os, h.tape, h.output, h.size, fun j hj _ _ => h.block j hj⟩
theorem RK.drewN {X Y : World} {p q : Nat} (h : RK X p q Y) (n : Nat) : RK X p q (Y.drewN n) := ⟨h.os, h.tape, h.output, h.size, h.block⟩
/-- What a reader's limit says. -/
def BigIs (v : RdV) : Option Nat → Prop
  | none => v.le = 0
  | some p => v.le = 5 ∧ v.lp = (p : Int)
/-- The reader, with nothing malformed so far. -/
structure RdOk (W : World) (b sc : Nat) (s : ByteArray) (st : RdS) (v : RdV) : Prop where
  at_ : RdAt W b v
  vsc : v.sc = sc
  scan : ScanAt W sc s st.k
  ne : b ≠ sc
  le : st.k ≤ s.size
  fits : s.size ≤ 100000
  fine : v.fe = 0
  big : BigIs v st.big
  glob : GlobR W
  gb : 1 ≠ b
  gs : 1 ≠ sc
/-- The reader, once something was malformed. -/
structure RdBad (W : World) (b : Nat) (e p : Nat) (v : RdV) : Prop where
  at_ : RdAt W b v
  fe : v.fe = (e : Int)
  fp : v.fp = (p : Int)
  ne : e ≠ 0
  glob : GlobR W
  gb : 1 ≠ b
theorem GlobR.rk {W W' : World} {p q : Nat} (h : GlobR W) (hk : RK W p q W') (hp : 1 ≠ p) (hq : 1 ≠ q) : GlobR W' := by
  obtain ⟨ev, h1, h2⟩ := h
  have hlt := World.block_lt_of_cell? W _ h1
  refine ⟨ev, ?_, h2⟩
  rw [← h1]
  exact World.cell?_of_block (hk.block _ hlt hp hq)
theorem RdOk.lt {W : World} {b sc : Nat} {s : ByteArray} {st : RdS} {v : RdV} (h : RdOk W b sc s st v) : b < W.heap.size := h.at_.lt
theorem extract_sub (s : ByteArray) (f t : Nat) : (s.extract f t).data.toList = subL s.data.toList f t := by
  simp [subL, ByteArray.data_extract]
set_option maxHeartbeats 1000000 in
/-- The next word, where nothing is malformed. -/
theorem wordR_ok (b sc : Nat) (s : ByteArray) (st : RdS) (v : RdV) (f t : Nat) (w : World) (h : RdOk w b sc s st v) (hr : stepW s.data.toList st.k = .word f t) :
    Calls Tryz.prog 60 #[.pointer (some ⟨b, 0, none⟩)] w fun e w' => e = .returned (.tuple #[.string (s.extract f t), .int .i64 (f : Int)]) ∧ RK w b sc w' ∧ RdOk w' b sc s ⟨t, st.big⟩ v := by
  have C0 := Lib.hid (show w.cell? ⟨b, 0, none⟩ = some (.pointer (some ⟨sc, 0, none⟩)) from h.vsc ▸ h.at_.cell (i := 0) rfl)
  have RT := Lib.hid (right_at b 1 0 w (h.fine ▸ h.at_.cell (i := 2) rfl))
  have WD := Lib.hid (word_ok sc s st.k f t w (Nat.le_trans h.fits (by decide)) h.le h.scan hr)
  have HH := Lib.hid h
  have HR := Lib.hid hr
  have c0 := C0.out
  clear h hr C0
  go_enter Tryz.func60, Tryz.ntmps60
  go_wp2_with (first | (go_at_call 31; refine RT.out.mono ?_; rintro e w' ⟨rfl, rfl⟩) | (go_at_call 72; refine WD.out.mono ?_; rintro e w' ⟨rfl, hg, hs⟩) | fail)

  go_ret2
  have hh := HH.out
  have hb := (stepW_word (by rw [size_list]; exact hh.le) HR.out).2.2.1
  refine ⟨rfl, RK.grown2 hg, ⟨hh.at_.next hg (fun e => hh.ne (Option.some.inj e)), hh.vsc, hs, hh.ne, ?_, hh.fits, hh.fine, hh.big, hh.glob.rk (RK.grown2 hg) hh.gb hh.gs, hh.gb, hh.gs⟩⟩
  rw [← size_list]; exact hb
theorem RdAt.set2 {W : World} {b : Nat} {v : RdV} {p e : Int} {cs : Array Value} (h : W.heap[b]? = some (.cells ((cs.setIfInBounds 1 (.int .i64 p)).setIfInBounds 2 (.int .i64 e)) 76 (0, 0))) (hc : cs = rdC v) : RdAt W b { v with fp := p, fe := e } := by
  subst hc; exact h
set_option maxHeartbeats 1000000 in
/-- No word more: it is malformed at the text's end. -/
theorem wordR_none (b sc : Nat) (s : ByteArray) (st : RdS) (v : RdV) (w : World) (h : RdOk w b sc s st v) (hr : stepW s.data.toList st.k = .none) :
    Calls Tryz.prog 60 #[.pointer (some ⟨b, 0, none⟩)] w fun e w' => e = .returned (.tuple #[.string ⟨#[]⟩, .int .i64 (s.size : Int)]) ∧ RK w b sc w' ∧ RdBad w' b 4 s.size { v with fp := (s.size : Int), fe := 4 } := by
  have RT := Lib.hid (right_at b 1 0 w (h.fine ▸ h.at_.cell (i := 2) rfl))
  have WD := Lib.hid (word_none sc s st.k w (Nat.le_trans h.fits (by decide)) h.le h.scan hr)
  have NT := Lib.hid (fun (W : World) (hg : w.grownBy W (some sc)) => note_new b 1 (s.size : Int) 4 W _ _ (h.at_.next hg (fun e => h.ne (Option.some.inj e))) (Or.inr ⟨v.fp, rfl⟩) (h.fine ▸ rfl))
  have HH := Lib.hid h
  have c0 : w.cell? ⟨b, 0, none⟩ = some (.pointer (some ⟨sc, 0, none⟩)) := h.vsc ▸ h.at_.cell (i := 0) rfl
  clear h hr
  go_enter Tryz.func60, Tryz.ntmps60
  go_wp2_with (first | (go_at_call 31; refine RT.out.mono ?_; rintro e w' ⟨rfl, rfl⟩) | (go_at_call 72; refine WD.out.mono ?_; rintro e w1 ⟨rfl, hg, hs⟩; replace hg := Lib.hid hg) | (go_at_call 81; refine (NT.out _ hg.out).mono ?_; rintro e w' ⟨⟨_, rfl⟩, h1, h2⟩) | fail)
  go_ret2
  have hh := HH.out
  have hg' := hg.out
  have hk : RK w b sc w' := (RK.grown2 hg').trans (RK.grown1 h2)
  exact ⟨rfl, hk, ⟨RdAt.set2 h1 rfl, rfl, rfl, by decide, hh.glob.rk hk hh.gb hh.gs, hh.gb⟩⟩
set_option maxHeartbeats 1000000 in
/-- A byte that no text holds. -/
theorem wordR_bad (b sc : Nat) (s : ByteArray) (st : RdS) (v : RdV) (t : Nat) (w : World) (h : RdOk w b sc s st v) (hr : stepW s.data.toList st.k = .bad t) :
    Calls Tryz.prog 60 #[.pointer (some ⟨b, 0, none⟩)] w fun e w' => e = .returned (.tuple #[.string ⟨#[]⟩, .int .i64 (t : Int)]) ∧ RK w b sc w' ∧ RdBad w' b 11 t { v with fp := (t : Int), fe := 11 } := by
  have RT := Lib.hid (right_at b 1 0 w (h.fine ▸ h.at_.cell (i := 2) rfl))
  have WD := Lib.hid (word_bad sc s st.k t w (Nat.le_trans h.fits (by decide)) h.le h.scan hr)
  have NT := Lib.hid (fun (W : World) (hg : w.grownBy W (some sc)) => note_new b 1 (t : Int) 11 W _ _ (h.at_.next hg (fun e => h.ne (Option.some.inj e))) (Or.inr ⟨v.fp, rfl⟩) (h.fine ▸ rfl))
  have HH := Lib.hid h
  have c0 : w.cell? ⟨b, 0, none⟩ = some (.pointer (some ⟨sc, 0, none⟩)) := h.vsc ▸ h.at_.cell (i := 0) rfl
  clear h hr
  go_enter Tryz.func60, Tryz.ntmps60
  go_wp2_with (first | (go_at_call 31; refine RT.out.mono ?_; rintro e w' ⟨rfl, rfl⟩) | (go_at_call 72; refine WD.out.mono ?_; rintro e w1 ⟨rfl, hg, hs⟩; replace hg := Lib.hid hg) | (go_at_call 81; refine (NT.out _ hg.out).mono ?_; rintro e w' ⟨⟨_, rfl⟩, h1, h2⟩) | fail)
  go_ret2
  have hh := HH.out
  have hg' := hg.out
  have hk : RK w b sc w' := (RK.grown2 hg').trans (RK.grown1 h2)
  exact ⟨rfl, hk, ⟨RdAt.set2 h1 rfl, rfl, rfl, by decide, hh.glob.rk hk hh.gb hh.gs, hh.gb⟩⟩
/-- Once malformed, no word more. -/
theorem wordR_still (b e p : Nat) (v : RdV) (w : World) (h : RdBad w b e p v) :
    Calls Tryz.prog 60 #[.pointer (some ⟨b, 0, none⟩)] w fun e' w' => e' = .returned (.tuple #[.string ⟨#[]⟩, .int .i64 (p : Int)]) ∧ ∃ n, w' = w.drewN n := by
  have RT := Lib.hid (right_at b 1 (e : Int) w (h.fe ▸ h.at_.cell (i := 2) rfl))
  have d : ((e : Int) == 0) = false := by have := h.ne; simpa using (by omega : ¬ (e : Int) = 0)
  rw [d] at RT
  have c1 : w.cell? ⟨b, 1, none⟩ = some (.int .i64 (p : Int)) := h.fp ▸ h.at_.cell (i := 1) rfl
  clear h d
  go_enter Tryz.func60, Tryz.ntmps60
  go_wp2_with (first | (go_at_call 31; refine RT.out.mono ?_; rintro e w' ⟨rfl, rfl⟩) | fail)
  go_quiet (fail)
  go_wp2_with fail
  go_ret2
  exact ⟨rfl, _, rfl⟩
/-- What is too large is told once. -/
theorem limit_no (b : Nat) (n m at_ : Int) (w : World) (h : n ≤ m) : Calls Tryz.prog 62 #[.pointer (some ⟨b, 0, none⟩), .int .i64 n, .int .i64 m, .int .i64 at_] w fun e w' => (∃ v, e = .returned v) ∧ w = w' := by
  have d : (decide (m < n)) = false := decide_eq_false (by omega)
  clear h
  go_enter Tryz.func62, Tryz.ntmps62
  go_wp2_with fail
  go_end0
  exact ⟨⟨_, rfl⟩, rfl⟩
end Go.Proofs.YteocbgcgfllieaaGreatDoor

namespace Go.Proofs.YteocbgcgfllieaaGreatDoor
open Go.RowKit
set_option linter.unusedVariables false
theorem grown_id (w : World) (row : Option Nat) : w.grownBy w row := ⟨rfl, rfl, rfl, Nat.le_refl _, fun _ _ _ => rfl⟩
def limV (is : Bool) (p : Int) (v : RdV) : RdV := if is && (v.le == 0) then { v with lp := p, le := 5 } else v
theorem limit_any (b : Nat) (n m p : Int) (v : RdV) (w : World) (h : RdAt w b v) :
    Calls Tryz.prog 62 #[.pointer (some ⟨b, 0, none⟩), .int .i64 n, .int .i64 m, .int .i64 p] w fun e w' => (∃ u, e = .returned u) ∧ RdAt w' b (limV (decide (m < n)) p v) ∧ w.grownBy w' (some b) := by
  cases hd : decide (m < n) with
  | false =>
    refine (limit_no b n m p w (by have := of_decide_eq_false hd; omega)).mono ?_
    rintro e w' ⟨h1, rfl⟩
    exact ⟨h1, h, grown_id w _⟩
  | true =>
    by_cases h0 : v.le = 0
    · have NT := Lib.hid (note_new b 3 p 5 w _ _ h (Or.inr ⟨v.lp, rfl⟩) (h0 ▸ rfl))
      have hl : limV true p v = { v with lp := p, le := 5 } := by simp [limV, h0]
      rw [hl]
      clear hl h0 h
      go_enter Tryz.func62, Tryz.ntmps62
      go_wp2_with (first | (go_at_call 81; refine NT.out.mono ?_; rintro e w' ⟨⟨_, rfl⟩, h1, h2⟩) | fail)
      go_end0
      exact ⟨⟨_, rfl⟩, h1, h2⟩
    · have NT := Lib.hid (note_old b 3 p 5 v.le w (h.cell (i := 4) rfl) h0)
      have hl : limV true p v = v := by simp [limV, h0]
      rw [hl]
      have HH := Lib.hid h
      clear hl h0 h
      go_enter Tryz.func62, Tryz.ntmps62
      go_wp2_with (first | (go_at_call 81; refine NT.out.mono ?_; rintro e w' ⟨⟨_, rfl⟩, rfl⟩) | fail)
      go_end0
      exact ⟨⟨_, rfl⟩, HH.out, grown_id _ _⟩
theorem RdOk.lim {W W' : World} {b sc p : Nat} {s : ByteArray} {st : RdS} {v : RdV} {is : Bool} (h : RdOk W b sc s st v) (ha : RdAt W' b (limV is p v)) (hg : W.grownBy W' (some b)) : RdOk W' b sc s (limS is p st) (limV is p v) := by
  have hk : RK W b sc W' := RK.grown1 hg
  have hs : ScanAt W' sc s st.k := (hg.block sc h.scan.lt (fun e => h.ne (Option.some.inj e).symm)).trans h.scan
  have h1 : (limS is p st).k = st.k := by unfold limS; split <;> rfl
  have h2 : (limV is p v).sc = sc := by unfold limV; split <;> exact h.vsc
  have h3 : (limV is p v).fe = 0 := by unfold limV; split <;> exact h.fine
  refine ⟨ha, h2, h1 ▸ hs, h.ne, h1 ▸ h.le, h.fits, h3, ?_, h.glob.rk hk h.gb h.gs, h.gb, h.gs⟩
  have hb := h.big
  cases is with
  | false => exact hb
  | true =>
    cases hq : st.big with
    | none =>
      rw [hq] at hb
      have e1 : limV true p v = { v with lp := (p : Int), le := 5 } := by simp [limV, show v.le = 0 from hb]
      have e2 : limS true p st = ⟨st.k, some p⟩ := by simp [limS, hq]
      rw [e1, e2]
      exact ⟨rfl, rfl⟩
    | some q =>
      rw [hq] at hb
      have e1 : limV true p v = v := by
        have : v.le = 5 := hb.1
        simp [limV, this]
      have e2 : limS true p st = st := by simp [limS, hq]
      rw [e1, e2, hq]
      exact hb
theorem RdBad.lim {W W' : World} {b e q : Nat} {p : Int} {v : RdV} {is : Bool} (h : RdBad W b e q v) (ha : RdAt W' b (limV is p v)) (hg : W.grownBy W' (some b)) : RdBad W' b e q (limV is p v) := by
  have h3 : (limV is p v).fe = v.fe := by unfold limV; split <;> rfl
  have h4 : (limV is p v).fp = v.fp := by unfold limV; split <;> rfl
  exact ⟨ha, h3.trans h.fe, h4.trans h.fp, h.ne, h.glob.rk (RK.grown1 (q := b) hg) h.gb h.gb, h.gb⟩
theorem RdOk.below {W W' : World} {b sc : Nat} {s : ByteArray} {st : RdS} {v : RdV} (h : RdOk W b sc s st v) (hb : Below W.heap.size W W') : RdOk W' b sc s st v :=
  ⟨(hb.block b h.lt).trans h.at_, h.vsc, h.scan.below hb (Nat.le_refl _), h.ne, h.le, h.fits, h.fine, h.big, h.glob.below hb, h.gb, h.gs⟩
theorem RdBad.below {W W' : World} {b e p : Nat} {v : RdV} (h : RdBad W b e p v) (hb : Below W.heap.size W W') : RdBad W' b e p v :=
  ⟨(hb.block b h.at_.lt).trans h.at_, h.fe, h.fp, h.ne, h.glob.below hb, h.gb⟩
theorem readE_two (l : List UInt8) : readE l = 0 ∨ readE l = 4 := by unfold readE; split <;> simp
theorem readE_nil : readE [] = 4 := by rfl
theorem readV_nil : readV [] = 0 := by rfl
set_option maxHeartbeats 1000000 in
theorem numR_ok (b sc : Nat) (s : ByteArray) (st st' : RdS) (v : RdV) (lo hi n : Int) (p : Nat) (w : World) (h : RdOk w b sc s st v) (hr : numM s.data.toList lo hi st = .ok (n, p) st') :
    Calls Tryz.prog 63 #[.pointer (some ⟨b, 0, none⟩), .int .i64 lo, .int .i64 hi] w fun e w' => e = .returned (.tuple #[.int .i64 n, .int .i64 (p : Int)]) ∧ RK w b sc w' ∧ RdOk w' b sc s st' v := by
  obtain ⟨t, h1, h2, h3, h4, h5, h6⟩ := numM_ok.1 hr
  simp only at h1 h2 h3 h4 h5 h6
  have WR := Lib.hid (wordR_ok b sc s st v p t w h h1)
  have RD := Lib.hid (fun (W : World) (hG : GlobR W) => read_any (s.extract p t) W (by have := h.fits; rw [ByteArray.size_extract]; omega) hG)
  rw [extract_sub, h3, ← h4] at RD
  rw [← h2] at WR
  have d1 : (decide (n < lo)) = false := decide_eq_false (by omega)
  have d2 : (decide (hi < n)) = false := decide_eq_false (by omega)
  clear h1 h2 h3 h4 h5 h6 hr h
  go_enter Tryz.func63, Tryz.ntmps63
  go_wp2_with (first | (go_at_call 60; refine WR.out.mono ?_; rintro e w1 ⟨rfl, hk, ho⟩; replace hk := Lib.hid hk; replace ho := Lib.hid ho) | (go_at_call 83; refine (RD.out _ ho.out.glob).mono ?_; rintro e w2 ⟨rfl, hb⟩) | fail)
  go_ret2
  exact ⟨rfl, hk.out.trans (RK.below hb), ho.out.below hb⟩
/-- Any word which can't be read, or isn't in its bounds: told where nothing was wrong. -/
theorem numR_not (b sc : Nat) (x : ByteArray) (lo hi p : Int) (w : World) (P : World → Prop) (hx : x.size ≤ 100000)
    (WR : Calls Tryz.prog 60 #[.pointer (some ⟨b, 0, none⟩)] w fun e w' => e = .returned (.tuple #[.string x, .int .i64 p]) ∧ P w' ∧ GlobR w')
    (Q : World → Prop) (NT : ∀ W W', P W → Below W.heap.size W W' → Calls Tryz.prog 81 #[.pointer (some ⟨b, 1, none⟩), .int .i64 p, .int .i64 4] W' fun e w' => (∃ u, e = .returned u) ∧ Q w')
    (hbad : ¬ (readE x.data.toList = 0 ∧ lo ≤ readV x.data.toList ∧ readV x.data.toList ≤ hi)) :
    Calls Tryz.prog 63 #[.pointer (some ⟨b, 0, none⟩), .int .i64 lo, .int .i64 hi] w fun e w' => e = .returned (.tuple #[.int .i64 0, .int .i64 p]) ∧ Q w' := by
  have RD := Lib.hid (fun (W : World) (hG : GlobR W) => read_any x W (by omega) hG)
  replace WR := Lib.hid WR
  replace NT := Lib.hid NT
  have h4 := readE_two x.data.toList
  generalize readE x.data.toList = E at RD hbad h4
  generalize readV x.data.toList = n at RD hbad
  clear hx
  rcases h4 with h1 | h1
  · subst h1
    by_cases h2 : n < lo
    · have d1 : (decide (n < lo)) = true := decide_eq_true h2
      clear hbad h2
      go_enter Tryz.func63, Tryz.ntmps63
      go_wp2_with (first | (go_at_call 60; refine WR.out.mono ?_; rintro e w1 ⟨rfl, hk, ho⟩; replace hk := Lib.hid hk; replace ho := Lib.hid ho) | (go_at_call 83; refine (RD.out _ ho.out).mono ?_; rintro e w2 ⟨rfl, hb⟩; replace hb := Lib.hid hb) | (go_at_call 81; refine (NT.out _ _ hk.out hb.out).mono ?_; rintro e w3 ⟨⟨_, rfl⟩, hq⟩) | fail)
      go_ret2
      exact ⟨rfl, hq⟩
    · have d1 : (decide (n < lo)) = false := decide_eq_false h2
      have d2 : (decide (hi < n)) = true := decide_eq_true (by omega)
      clear hbad h2
      go_enter Tryz.func63, Tryz.ntmps63
      go_wp2_with (first | (go_at_call 60; refine WR.out.mono ?_; rintro e w1 ⟨rfl, hk, ho⟩; replace hk := Lib.hid hk; replace ho := Lib.hid ho) | (go_at_call 83; refine (RD.out _ ho.out).mono ?_; rintro e w2 ⟨rfl, hb⟩; replace hb := Lib.hid hb) | (go_at_call 81; refine (NT.out _ _ hk.out hb.out).mono ?_; rintro e w3 ⟨⟨_, rfl⟩, hq⟩) | fail)
      go_ret2
      exact ⟨rfl, hq⟩
  · subst h1
    clear hbad
    go_enter Tryz.func63, Tryz.ntmps63
    go_wp2_with (first | (go_at_call 60; refine WR.out.mono ?_; rintro e w1 ⟨rfl, hk, ho⟩; replace hk := Lib.hid hk; replace ho := Lib.hid ho) | (go_at_call 83; refine (RD.out _ ho.out).mono ?_; rintro e w2 ⟨rfl, hb⟩; replace hb := Lib.hid hb) | (go_at_call 81; refine (NT.out _ _ hk.out hb.out).mono ?_; rintro e w3 ⟨⟨_, rfl⟩, hq⟩) | fail)
    go_ret2
    exact ⟨rfl, hq⟩
theorem RdOk.told {W W' : World} {b sc e p : Nat} {s : ByteArray} {st : RdS} {v : RdV} (h : RdOk W b sc s st v) (he : e ≠ 0) (ha : W'.heap[b]? = some (.cells (((rdC v).setIfInBounds 1 (.int .i64 (p : Int))).setIfInBounds 2 (.int .i64 (e : Int))) 76 (0, 0))) (hg : W.grownBy W' (some b)) :
    RdBad W' b e p { v with fp := (p : Int), fe := (e : Int) } := ⟨RdAt.set2 ha rfl, rfl, rfl, he, h.glob.rk (RK.grown1 hg) h.gb h.gs, h.gb⟩
/-- Malformed now. -/
theorem numR_bad (b sc : Nat) (s : ByteArray) (st : RdS) (v : RdV) (lo hi : Int) (e p : Nat) (w : World) (h : RdOk w b sc s st v) (hr : numM s.data.toList lo hi st = .bad e p) :
    Calls Tryz.prog 63 #[.pointer (some ⟨b, 0, none⟩), .int .i64 lo, .int .i64 hi] w fun e' w' => e' = .returned (.tuple #[.int .i64 0, .int .i64 (p : Int)]) ∧ RK w b sc w' ∧ RdBad w' b e p { v with fp := (p : Int), fe := (e : Int) } := by
  unfold numM wordM at hr
  cases hst : stepW s.data.toList st.k with
  | none =>
    rw [hst] at hr
    simp only [RdR.bind_bad, RdR.bad.injEq] at hr
    obtain ⟨rfl, rfl⟩ := hr
    rw [size_list]
    refine (numR_not b sc ⟨#[]⟩ lo hi s.size w (fun W => RK w b sc W ∧ RdBad W b 4 s.size { v with fp := (s.size : Int), fe := 4 }) (by decide) ?_ (fun W => RK w b sc W ∧ RdBad W b 4 s.size { v with fp := (s.size : Int), fe := 4 }) ?_ ?_).mono fun e w' hh => hh
    · exact (wordR_none b sc s st v w h hst).mono fun e w' hh => ⟨hh.1, hh.2, hh.2.2.glob⟩
    · intro W W' hW hb
      refine (note_old b 1 _ 4 4 W' ((hW.2.below hb).at_.cell (i := 2) rfl) (by decide)).mono ?_
      rintro e w' ⟨hu, rfl⟩
      exact ⟨hu, hW.1.trans (RK.below hb), hW.2.below hb⟩
    · intro hc; exact absurd hc.1 (by decide)
  | bad t =>
    rw [hst] at hr
    simp only [RdR.bind_bad, RdR.bad.injEq] at hr
    obtain ⟨rfl, rfl⟩ := hr
    refine (numR_not b sc ⟨#[]⟩ lo hi t w (fun W => RK w b sc W ∧ RdBad W b 11 t { v with fp := (t : Int), fe := 11 }) (by decide) ?_ (fun W => RK w b sc W ∧ RdBad W b 11 t { v with fp := (t : Int), fe := 11 }) ?_ ?_).mono fun e w' hh => hh
    · exact (wordR_bad b sc s st v t w h hst).mono fun e w' hh => ⟨hh.1, hh.2, hh.2.2.glob⟩
    · intro W W' hW hb
      refine (note_old b 1 _ 4 11 W' ((hW.2.below hb).at_.cell (i := 2) rfl) (by decide)).mono ?_
      rintro e w' ⟨hu, rfl⟩
      exact ⟨hu, hW.1.trans (RK.below hb), hW.2.below hb⟩
    · intro hc; exact absurd hc.1 (by decide)
  | word f t =>
    rw [hst] at hr
    simp only [RdR.bind_ok] at hr
    split at hr
    · exact absurd hr (by simp)
    · rename_i hc
      simp only [RdR.bad.injEq] at hr
      obtain ⟨rfl, rfl⟩ := hr
      rw [← extract_sub] at hc
      refine (numR_not b sc (s.extract f t) lo hi f w (fun W => RK w b sc W ∧ RdOk W b sc s ⟨t, st.big⟩ v) (by have := h.fits; rw [ByteArray.size_extract]; omega) ?_ (fun W => RK w b sc W ∧ RdBad W b 4 f { v with fp := (f : Int), fe := 4 }) ?_ hc).mono fun e w' hh => hh
      · exact (wordR_ok b sc s st v f t w h hst).mono fun e w' hh => ⟨hh.1, hh.2, hh.2.2.glob⟩
      · intro W W' hW hb
        have ho := hW.2.below hb
        refine (note_new b 1 f 4 W' _ _ ho.at_ (Or.inr ⟨v.fp, rfl⟩) (ho.fine ▸ rfl)).mono ?_
        rintro e w' ⟨hu, h1, h2⟩
        exact ⟨hu, (hW.1.trans (RK.below hb)).trans (RK.grown1 h2), ho.told (by decide) h1 h2⟩
/-- Malformed before: nothing is read. -/
theorem numR_still (b e p : Nat) (v : RdV) (lo hi : Int) (w : World) (h : RdBad w b e p v) :
    Calls Tryz.prog 63 #[.pointer (some ⟨b, 0, none⟩), .int .i64 lo, .int .i64 hi] w fun e' w' => e' = .returned (.tuple #[.int .i64 0, .int .i64 (p : Int)]) ∧ Below w.heap.size w w' ∧ RdBad w' b e p v := by
  refine (numR_not b 0 ⟨#[]⟩ lo hi p w (fun W => Below w.heap.size w W ∧ RdBad W b e p v) (by decide) ?_ (fun W => Below w.heap.size w W ∧ RdBad W b e p v) ?_ ?_).mono fun e w' hh => hh
  · refine (wordR_still b e p v w h).mono ?_
    rintro e' w' ⟨h1, n, rfl⟩
    exact ⟨h1, ⟨below_drewN (Below.refl _ _) n, h.below (below_drewN (Below.refl _ _) n)⟩, h.glob.below (below_drewN (Below.refl _ _) n)⟩
  · intro W W' hW hb
    have ho := hW.2.below hb
    refine (note_old b 1 _ 4 e W' (ho.fe ▸ ho.at_.cell (i := 2) rfl) (by have := ho.ne; omega)).mono ?_
    rintro e' w' ⟨hu, rfl⟩
    exact ⟨hu, hW.1.trans (hb.mono hW.1.size), ho⟩
  · intro hc; exact absurd hc.1 (by decide)
end Go.Proofs.YteocbgcgfllieaaGreatDoor
