/- Right of a file of one function, case by case (no statement of its own). -/
import Derived.Test.YteocbgcgfllieaaGreatDoorGd
import Derived.Test.YteocbgcgfllieaaGreatDoorMgS
namespace Go.Proofs.YteocbgcgfllieaaGreatDoor
open Go.RowKit
set_option linter.unusedVariables false
theorem RF6.fcells {W : World} {fb gf : Nat} {X : ByteArray} {k : Int} {As : Option Addr} {m cs : Nat} {zs : Nat → Int} {Asc : Option Addr} {q csc : Nat} {ys : Nat → Int} {tv : Value} (h : RF6 W fb gf X k As m cs zs Asc q csc ys tv) :
    W.cell? ⟨gf, 0, none⟩ = some (.slice Asc q csc) ∧ W.cell? ⟨gf, 1, none⟩ = some tv := by
  refine ⟨?_, ?_⟩ <;> (rw [cell_of_row _ _ _ _ _ _ h.fn]; rfl)
theorem rnil (w : World) : Calls Tryz.prog 23 #[.pointer none] w fun e w' => e = .returned (.int .i64 2) ∧ w = w' := by
  go_enter Tryz.func23, Tryz.ntmps23
  go_wp2_with fail
  go_ret
  exact ⟨rfl, rfl⟩
theorem right_word (fb gf : Nat) (X : ByteArray) (k : Int) (As : Option Addr) (m cs : Nat) (zs : Nat → Int) (Asc : Option Addr) (q csc : Nat) (ys : Nat → Int) (tv : Value) (w : World) (H : RF6 w fb gf X k As m cs zs Asc q csc ys tv) (hx : X.size ≤ 80) (hm : m ≤ 70) (hw : ¬ WordX X) :
    Calls Tryz.prog 23 #[.pointer (some ⟨fb, 0, none⟩)] w fun e w' => e = .returned (.int .i64 1) ∧ Below w.heap.size w w' := by
  have HR := Lib.hid H
  have cells : Hid (∀ W, Below w.heap.size w W → W.cell? ⟨fb, 0, none⟩ = some (.string X) ∧ W.cell? ⟨fb, 1, none⟩ = some (.int .i64 k) ∧ W.cell? ⟨fb, 2, none⟩ = some (.slice As m cs) ∧ W.cell? ⟨fb, 3, none⟩ = some (.slice (some ⟨gf, 0, none⟩) 1 1)) := Lib.hid (fun W hb => (HR.out.below hb).cells)
  obtain ⟨c0, c1, c2, c3⟩ := H.cells
  have IW := Lib.hid (isword_no X w (by omega) hw)
  clear H hx hm hw
  go_enter Tryz.func23, Tryz.ntmps23
  go_wp2_with (first
    | (go_at_call 52; refine IW.out.mono ?_; rintro e w2 ⟨rfl, hb2⟩; clear c0 c1 c2 c3; obtain ⟨c0, c1, c2, c3⟩ := cells.out _ hb2; have B2 := Lib.hid hb2; clear hb2)
    | fail)
  go_ret
  exact ⟨rfl, B2.out⟩
theorem right_top (fb gf : Nat) (X : ByteArray) (k : Int) (As : Option Addr) (m cs : Nat) (zs : Nat → Int) (Asc : Option Addr) (q csc : Nat) (ys : Nat → Int) (tv : Value) (w : World) (H : RF6 w fb gf X k As m cs zs Asc q csc ys tv) (hx : X.size ≤ 80) (hm : m ≤ 70) (hw : WordX X) (hk : k < 1 ∨ 2147483648 < k) :
    Calls Tryz.prog 23 #[.pointer (some ⟨fb, 0, none⟩)] w fun e w' => e = .returned (.int .i64 1) ∧ Below w.heap.size w w' := by
  have HR := Lib.hid H
  have cells : Hid (∀ W, Below w.heap.size w W → W.cell? ⟨fb, 0, none⟩ = some (.string X) ∧ W.cell? ⟨fb, 1, none⟩ = some (.int .i64 k) ∧ W.cell? ⟨fb, 2, none⟩ = some (.slice As m cs) ∧ W.cell? ⟨fb, 3, none⟩ = some (.slice (some ⟨gf, 0, none⟩) 1 1)) := Lib.hid (fun W hb => (HR.out.below hb).cells)
  obtain ⟨c0, c1, c2, c3⟩ := H.cells
  have IW := Lib.hid (isword_yes X w (by omega) hw)
  have CR := Lib.hid (fun W => right_no k W hk)
  clear H hx hm hw hk
  go_enter Tryz.func23, Tryz.ntmps23
  go_wp2_with (first
    | (go_at_call 52; refine IW.out.mono ?_; rintro e w2 ⟨rfl, hb2⟩; clear c0 c1 c2 c3; obtain ⟨c0, c1, c2, c3⟩ := cells.out _ hb2; have B2 := Lib.hid hb2; clear hb2)
    | (go_at_call 53; refine (CR.out _).mono ?_; rintro e w' ⟨rfl, rfl⟩)
    | fail)
  go_ret
  exact ⟨rfl, B2.out⟩
theorem right_none (fb gf : Nat) (X : ByteArray) (k : Int) (As : Option Addr) (m cs : Nat) (zs : Nat → Int) (Asc : Option Addr) (q csc : Nat) (ys : Nat → Int) (tv : Value) (w : World) (H : RF6 w fb gf X k As m cs zs Asc q csc ys tv) (hx : X.size ≤ 80) (hm : m ≤ 70) (hw : WordX X) (hk : 1 ≤ k ∧ k ≤ 2147483648) (h0 : m = 0) :
    Calls Tryz.prog 23 #[.pointer (some ⟨fb, 0, none⟩)] w fun e w' => e = .returned (.int .i64 1) ∧ Below w.heap.size w w' := by
  have HR := Lib.hid H
  have cells : Hid (∀ W, Below w.heap.size w W → W.cell? ⟨fb, 0, none⟩ = some (.string X) ∧ W.cell? ⟨fb, 1, none⟩ = some (.int .i64 k) ∧ W.cell? ⟨fb, 2, none⟩ = some (.slice As m cs) ∧ W.cell? ⟨fb, 3, none⟩ = some (.slice (some ⟨gf, 0, none⟩) 1 1)) := Lib.hid (fun W hb => (HR.out.below hb).cells)
  obtain ⟨c0, c1, c2, c3⟩ := H.cells
  have IW := Lib.hid (isword_yes X w (by omega) hw)
  have CR := Lib.hid (fun W => right_yes k W hk.1 hk.2)
  have d1 : ((m : Int) == 0) = true := by rw [h0]; rfl
  clear H hx hm hw hk h0
  go_enter Tryz.func23, Tryz.ntmps23
  go_wp2_with (first
    | (go_at_call 52; refine IW.out.mono ?_; rintro e w2 ⟨rfl, hb2⟩; clear c0 c1 c2 c3; obtain ⟨c0, c1, c2, c3⟩ := cells.out _ hb2; have B2 := Lib.hid hb2; clear hb2)
    | (go_at_call 53; refine (CR.out _).mono ?_; rintro e w' ⟨rfl, rfl⟩)
    | fail)
  go_ret
  exact ⟨rfl, B2.out⟩
theorem right_size (fb gf : Nat) (X : ByteArray) (k : Int) (As : Option Addr) (m cs : Nat) (zs : Nat → Int) (Asc : Option Addr) (q csc : Nat) (ys : Nat → Int) (tv : Value) (w : World) (H : RF6 w fb gf X k As m cs zs Asc q csc ys tv) (hx : X.size ≤ 80) (hm : m ≤ 70) (hw : WordX X) (hk : 1 ≤ k ∧ k ≤ 2147483648) (h0 : 0 < m) (hz : ¬ ∀ i, i < m → 1 ≤ zs i ∧ zs i ≤ 32) :
    Calls Tryz.prog 23 #[.pointer (some ⟨fb, 0, none⟩)] w fun e w' => e = .returned (.int .i64 1) ∧ Below w.heap.size w w' := by
  have HR := Lib.hid H
  have cells : Hid (∀ W, Below w.heap.size w W → W.cell? ⟨fb, 0, none⟩ = some (.string X) ∧ W.cell? ⟨fb, 1, none⟩ = some (.int .i64 k) ∧ W.cell? ⟨fb, 2, none⟩ = some (.slice As m cs) ∧ W.cell? ⟨fb, 3, none⟩ = some (.slice (some ⟨gf, 0, none⟩) 1 1)) := Lib.hid (fun W hb => (HR.out.below hb).cells)
  obtain ⟨c0, c1, c2, c3⟩ := H.cells
  have IW := Lib.hid (isword_yes X w (by omega) hw)
  have CR := Lib.hid (fun W => right_yes k W hk.1 hk.2)
  have d1 : ((m : Int) == 0) = false := by rw [beq_eq_false_iff_ne]; omega
  have CW := Lib.hid (fun W (hb : Below w.heap.size w W) => contains_yesW As m cs zs W (by omega) ((HR.out.below hb).szs) hz)
  clear H hx hm hw hk h0 hz
  go_enter Tryz.func23, Tryz.ntmps23
  go_wp2_with (first
    | (go_at_call 52; refine IW.out.mono ?_; rintro e w2 ⟨rfl, hb2⟩; clear c0 c1 c2 c3; obtain ⟨c0, c1, c2, c3⟩ := cells.out _ hb2; have B2 := Lib.hid hb2; clear hb2)
    | (go_at_call 53; refine (CR.out _).mono ?_; rintro e w' ⟨rfl, rfl⟩)
    | (go_at_call 50; refine (CW.out _ B2.out).mono ?_; rintro e w' ⟨rfl, rfl⟩)
    | fail)
  go_ret
  exact ⟨rfl, B2.out⟩
theorem right_mis (fb gf : Nat) (X : ByteArray) (k : Int) (As : Option Addr) (m cs : Nat) (zs : Nat → Int) (Asc : Option Addr) (q csc : Nat) (ys : Nat → Int) (tv : Value) (w : World) (H : RF6 w fb gf X k As m cs zs Asc q csc ys tv) (hx : X.size ≤ 80) (hm : m ≤ 70) (hw : WordX X) (hk : 1 ≤ k ∧ k ≤ 2147483648) (h0 : 0 < m) (hz : ∀ i, i < m → 1 ≤ zs i ∧ zs i ≤ 32) (hM : ∀ W, Below w.heap.size w W → Calls Tryz.prog 56 #[.pointer (some ⟨fb, 0, none⟩), .agg #[.slice Asc q csc, tv]] W fun e w' => e = .returned (.bool true) ∧ Below W.heap.size W w') :
    Calls Tryz.prog 23 #[.pointer (some ⟨fb, 0, none⟩)] w fun e w' => e = .returned (.int .i64 1) ∧ Below w.heap.size w w' := by
  have HR := Lib.hid H
  have cells : Hid (∀ W, Below w.heap.size w W → W.cell? ⟨fb, 0, none⟩ = some (.string X) ∧ W.cell? ⟨fb, 1, none⟩ = some (.int .i64 k) ∧ W.cell? ⟨fb, 2, none⟩ = some (.slice As m cs) ∧ W.cell? ⟨fb, 3, none⟩ = some (.slice (some ⟨gf, 0, none⟩) 1 1)) := Lib.hid (fun W hb => (HR.out.below hb).cells)
  obtain ⟨c0, c1, c2, c3⟩ := H.cells
  have IW := Lib.hid (isword_yes X w (by omega) hw)
  have CR := Lib.hid (fun W => right_yes k W hk.1 hk.2)
  have d1 : ((m : Int) == 0) = false := by rw [beq_eq_false_iff_ne]; omega
  have CW := Lib.hid (fun W (hb : Below w.heap.size w W) => contains_noW As m cs zs W (by omega) ((HR.out.below hb).szs) hz)
  have CM := Lib.hid (fun W (hb : Below w.heap.size w W) => contains_mis true fb gf 1 (.slice Asc q csc) tv W ((HR.out.below hb).fcells).1 ((HR.out.below hb).fcells).2 (hM W hb))
  clear H hx hm hw hk h0 hz hM
  go_enter Tryz.func23, Tryz.ntmps23
  go_wp2_with (first
    | (go_at_call 52; refine IW.out.mono ?_; rintro e w2 ⟨rfl, hb2⟩; clear c0 c1 c2 c3; obtain ⟨c0, c1, c2, c3⟩ := cells.out _ hb2; have B2 := Lib.hid hb2; clear hb2)
    | (go_at_call 53; refine (CR.out _).mono ?_; rintro e w' ⟨rfl, rfl⟩)
    | (go_at_call 50; refine (CW.out _ B2.out).mono ?_; rintro e w' ⟨rfl, rfl⟩)
    | (go_at_call 55; with_reducible refine (CM.out _ B2.out).mono ?_; rintro e w3 ⟨rfl, hb3⟩; have B3 := Lib.hid (B2.out.trans (hb3.mono B2.out.size)); clear hb3 c0 c1 c2 c3; obtain ⟨c0, c1, c2, c3⟩ := cells.out _ B3.out)
    | fail)
  go_ret
  exact ⟨rfl, B3.out⟩
theorem right_long (fb gf : Nat) (X : ByteArray) (k : Int) (As : Option Addr) (m cs : Nat) (zs : Nat → Int) (Asc : Option Addr) (q csc : Nat) (ys : Nat → Int) (tv : Value) (w : World) (H : RF6 w fb gf X k As m cs zs Asc q csc ys tv) (hx : X.size ≤ 80) (hm : m ≤ 70) (hw : WordX X) (hk : 1 ≤ k ∧ k ≤ 2147483648) (h0 : 0 < m) (hz : ∀ i, i < m → 1 ≤ zs i ∧ zs i ≤ 32) (hM : ∀ W, Below w.heap.size w W → Calls Tryz.prog 56 #[.pointer (some ⟨fb, 0, none⟩), .agg #[.slice Asc q csc, tv]] W fun e w' => e = .returned (.bool false) ∧ Below W.heap.size W w') (hl : 64 < X.size) :
    Calls Tryz.prog 23 #[.pointer (some ⟨fb, 0, none⟩)] w fun e w' => e = .returned (.int .i64 5) ∧ Below w.heap.size w w' := by
  have HR := Lib.hid H
  have cells : Hid (∀ W, Below w.heap.size w W → W.cell? ⟨fb, 0, none⟩ = some (.string X) ∧ W.cell? ⟨fb, 1, none⟩ = some (.int .i64 k) ∧ W.cell? ⟨fb, 2, none⟩ = some (.slice As m cs) ∧ W.cell? ⟨fb, 3, none⟩ = some (.slice (some ⟨gf, 0, none⟩) 1 1)) := Lib.hid (fun W hb => (HR.out.below hb).cells)
  obtain ⟨c0, c1, c2, c3⟩ := H.cells
  have IW := Lib.hid (isword_yes X w (by omega) hw)
  have CR := Lib.hid (fun W => right_yes k W hk.1 hk.2)
  have d1 : ((m : Int) == 0) = false := by rw [beq_eq_false_iff_ne]; omega
  have CW := Lib.hid (fun W (hb : Below w.heap.size w W) => contains_noW As m cs zs W (by omega) ((HR.out.below hb).szs) hz)
  have CM := Lib.hid (fun W (hb : Below w.heap.size w W) => contains_mis false fb gf 1 (.slice Asc q csc) tv W ((HR.out.below hb).fcells).1 ((HR.out.below hb).fcells).2 (hM W hb))
  have d2 : decide ((64 : Int) < (X.size : Int)) = true := decide_eq_true (by omega)
  clear H hx hm hw hk h0 hz hM hl
  go_enter Tryz.func23, Tryz.ntmps23
  go_wp2_with (first
    | (go_at_call 52; refine IW.out.mono ?_; rintro e w2 ⟨rfl, hb2⟩; clear c0 c1 c2 c3; obtain ⟨c0, c1, c2, c3⟩ := cells.out _ hb2; have B2 := Lib.hid hb2; clear hb2)
    | (go_at_call 53; refine (CR.out _).mono ?_; rintro e w' ⟨rfl, rfl⟩)
    | (go_at_call 50; refine (CW.out _ B2.out).mono ?_; rintro e w' ⟨rfl, rfl⟩)
    | (go_at_call 55; with_reducible refine (CM.out _ B2.out).mono ?_; rintro e w3 ⟨rfl, hb3⟩; have B3 := Lib.hid (B2.out.trans (hb3.mono B2.out.size)); clear hb3 c0 c1 c2 c3; obtain ⟨c0, c1, c2, c3⟩ := cells.out _ B3.out)
    | fail)
  go_ret
  exact ⟨rfl, B3.out⟩
theorem right_many (fb gf : Nat) (X : ByteArray) (k : Int) (As : Option Addr) (m cs : Nat) (zs : Nat → Int) (Asc : Option Addr) (q csc : Nat) (ys : Nat → Int) (tv : Value) (w : World) (H : RF6 w fb gf X k As m cs zs Asc q csc ys tv) (hx : X.size ≤ 80) (hm : m ≤ 70) (hw : WordX X) (hk : 1 ≤ k ∧ k ≤ 2147483648) (h0 : 0 < m) (hz : ∀ i, i < m → 1 ≤ zs i ∧ zs i ≤ 32) (hM : ∀ W, Below w.heap.size w W → Calls Tryz.prog 56 #[.pointer (some ⟨fb, 0, none⟩), .agg #[.slice Asc q csc, tv]] W fun e w' => e = .returned (.bool false) ∧ Below W.heap.size W w') (hl : X.size ≤ 64) (hn : 64 < m) :
    Calls Tryz.prog 23 #[.pointer (some ⟨fb, 0, none⟩)] w fun e w' => e = .returned (.int .i64 5) ∧ Below w.heap.size w w' := by
  have HR := Lib.hid H
  have cells : Hid (∀ W, Below w.heap.size w W → W.cell? ⟨fb, 0, none⟩ = some (.string X) ∧ W.cell? ⟨fb, 1, none⟩ = some (.int .i64 k) ∧ W.cell? ⟨fb, 2, none⟩ = some (.slice As m cs) ∧ W.cell? ⟨fb, 3, none⟩ = some (.slice (some ⟨gf, 0, none⟩) 1 1)) := Lib.hid (fun W hb => (HR.out.below hb).cells)
  obtain ⟨c0, c1, c2, c3⟩ := H.cells
  have IW := Lib.hid (isword_yes X w (by omega) hw)
  have CR := Lib.hid (fun W => right_yes k W hk.1 hk.2)
  have d1 : ((m : Int) == 0) = false := by rw [beq_eq_false_iff_ne]; omega
  have CW := Lib.hid (fun W (hb : Below w.heap.size w W) => contains_noW As m cs zs W (by omega) ((HR.out.below hb).szs) hz)
  have CM := Lib.hid (fun W (hb : Below w.heap.size w W) => contains_mis false fb gf 1 (.slice Asc q csc) tv W ((HR.out.below hb).fcells).1 ((HR.out.below hb).fcells).2 (hM W hb))
  have d2 : decide ((64 : Int) < (X.size : Int)) = false := decide_eq_false (by omega)
  have d3 : decide ((64 : Int) < (m : Int)) = true := decide_eq_true (by omega)
  clear H hx hm hw hk h0 hz hM hl hn
  go_enter Tryz.func23, Tryz.ntmps23
  go_wp2_with (first
    | (go_at_call 52; refine IW.out.mono ?_; rintro e w2 ⟨rfl, hb2⟩; clear c0 c1 c2 c3; obtain ⟨c0, c1, c2, c3⟩ := cells.out _ hb2; have B2 := Lib.hid hb2; clear hb2)
    | (go_at_call 53; refine (CR.out _).mono ?_; rintro e w' ⟨rfl, rfl⟩)
    | (go_at_call 50; refine (CW.out _ B2.out).mono ?_; rintro e w' ⟨rfl, rfl⟩)
    | (go_at_call 55; with_reducible refine (CM.out _ B2.out).mono ?_; rintro e w3 ⟨rfl, hb3⟩; have B3 := Lib.hid (B2.out.trans (hb3.mono B2.out.size)); clear hb3 c0 c1 c2 c3; obtain ⟨c0, c1, c2, c3⟩ := cells.out _ B3.out)
    | fail)
  go_ret
  exact ⟨rfl, B3.out⟩
theorem right_great (fb gf : Nat) (X : ByteArray) (k : Int) (As : Option Addr) (m cs : Nat) (zs : Nat → Int) (Asc : Option Addr) (q csc : Nat) (ys : Nat → Int) (tv : Value) (w : World) (H : RF6 w fb gf X k As m cs zs Asc q csc ys tv) (hx : X.size ≤ 80) (hm : m ≤ 70) (hw : WordX X) (hk : 1 ≤ k ∧ k ≤ 2147483648) (h0 : 0 < m) (hz : ∀ i, i < m → 1 ≤ zs i ∧ zs i ≤ 32) (hM : ∀ W, Below w.heap.size w W → Calls Tryz.prog 56 #[.pointer (some ⟨fb, 0, none⟩), .agg #[.slice Asc q csc, tv]] W fun e w' => e = .returned (.bool false) ∧ Below W.heap.size W w') (hG : ∀ W, Below w.heap.size w W → Calls Tryz.prog 57 #[.agg #[.slice Asc q csc, tv]] W fun e w' => e = .returned (.bool true) ∧ Below W.heap.size W w') (hl : X.size ≤ 64) (hn : m ≤ 64) :
    Calls Tryz.prog 23 #[.pointer (some ⟨fb, 0, none⟩)] w fun e w' => e = .returned (.int .i64 5) ∧ Below w.heap.size w w' := by
  have HR := Lib.hid H
  have cells : Hid (∀ W, Below w.heap.size w W → W.cell? ⟨fb, 0, none⟩ = some (.string X) ∧ W.cell? ⟨fb, 1, none⟩ = some (.int .i64 k) ∧ W.cell? ⟨fb, 2, none⟩ = some (.slice As m cs) ∧ W.cell? ⟨fb, 3, none⟩ = some (.slice (some ⟨gf, 0, none⟩) 1 1)) := Lib.hid (fun W hb => (HR.out.below hb).cells)
  obtain ⟨c0, c1, c2, c3⟩ := H.cells
  have IW := Lib.hid (isword_yes X w (by omega) hw)
  have CR := Lib.hid (fun W => right_yes k W hk.1 hk.2)
  have d1 : ((m : Int) == 0) = false := by rw [beq_eq_false_iff_ne]; omega
  have CW := Lib.hid (fun W (hb : Below w.heap.size w W) => contains_noW As m cs zs W (by omega) ((HR.out.below hb).szs) hz)
  have CM := Lib.hid (fun W (hb : Below w.heap.size w W) => contains_mis false fb gf 1 (.slice Asc q csc) tv W ((HR.out.below hb).fcells).1 ((HR.out.below hb).fcells).2 (hM W hb))
  have CG := Lib.hid (fun W (hb : Below w.heap.size w W) => contains_gryes gf 1 (.slice Asc q csc) tv W ((HR.out.below hb).fcells).1 ((HR.out.below hb).fcells).2 (hG W hb))
  have d2 : decide ((64 : Int) < (X.size : Int)) = false := decide_eq_false (by omega)
  have d3 : decide ((64 : Int) < (m : Int)) = false := decide_eq_false (by omega)
  clear H hx hm hw hk h0 hz hM hG hl hn
  go_enter Tryz.func23, Tryz.ntmps23
  go_wp2_with (first
    | (go_at_call 52; refine IW.out.mono ?_; rintro e w2 ⟨rfl, hb2⟩; clear c0 c1 c2 c3; obtain ⟨c0, c1, c2, c3⟩ := cells.out _ hb2; have B2 := Lib.hid hb2; clear hb2)
    | (go_at_call 53; refine (CR.out _).mono ?_; rintro e w' ⟨rfl, rfl⟩)
    | (go_at_call 50; refine (CW.out _ B2.out).mono ?_; rintro e w' ⟨rfl, rfl⟩)
    | (go_at_call 55; with_reducible refine (CM.out _ B2.out).mono ?_; rintro e w3 ⟨rfl, hb3⟩; have B3 := Lib.hid (B2.out.trans (hb3.mono B2.out.size)); clear hb3 c0 c1 c2 c3; obtain ⟨c0, c1, c2, c3⟩ := cells.out _ B3.out)
    | (go_at_call 55; with_reducible refine (CG.out _ B3.out).mono ?_; rintro e w4 ⟨rfl, hb4⟩; have B4 := Lib.hid (B3.out.trans (hb4.mono B3.out.size)); clear hb4 c0 c1 c2 c3)
    | fail)
  go_ret
  exact ⟨rfl, B4.out⟩
end Go.Proofs.YteocbgcgfllieaaGreatDoor
