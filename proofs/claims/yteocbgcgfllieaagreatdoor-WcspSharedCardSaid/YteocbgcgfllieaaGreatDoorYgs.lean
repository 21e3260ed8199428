/- Read: a file whose functions lie apart (no statement of its own). -/
import Derived.Test.YteocbgcgfllieaaGreatDoorYfs
namespace Go.Proofs.YteocbgcgfllieaaGreatDoor
open Go.RowKit
set_option linter.unusedVariables false
def ReadResS (s : ByteArray) (w : World) (r : RdR FileM) (e : Ending) (w' : World) : Prop :=
  match r with
  | .bad n p => e = .returned (.tuple #[.pointer none, .int .i64 (p : Int), .int .i64 (n : Int)])
  | .ok F st => match st.big with
    | some p => e = .returned (.tuple #[.pointer none, .int .i64 (p : Int), .int .i64 5])
    | none => ∃ fb fv us As cs base, w.heap.size ≤ base ∧ e = .returned (.tuple #[.pointer (some ⟨fb, 0, none⟩), .int .i64 (s.size : Int), .int .i64 0]) ∧ FileOk s.data.toList F ∧
        FileAt w' fb base (s.extract F.name.1 F.name.2) F.top F.sizes F.funs As cs fv us (PF w' fb fv) ∧ base ≤ fb ∧ SepU w.heap.size w' us
def ReadPostS (s : ByteArray) (w : World) (e : Ending) (w' : World) : Prop := ReadResS s w (fileM s.data.toList (-4611686018427387904)) e w' ∧ Below w.heap.size w w'
set_option maxRecDepth 100000 in
set_option maxHeartbeats 4000000 in
theorem readRS (s : ByteArray) (A : Option Addr) (c : Nat) (w : World) (hs : s.size ≤ 65536) (h : BS w A s) (hG : GlobR w) (hT : TabP w) :
    Calls Tryz.prog 11 #[.slice A s.size c] w (ReadPostS s w) := by
  have d0 : decide ((65536 : Int) < (s.size : Int)) = false := decide_eq_false (by omega)
  have SN := Lib.hid (snew_any (.slice A s.size c) s w (conv_bytes h))
  have HG := Lib.hid hG
  have HT := Lib.hid hT
  have HS := Lib.hid hs
  clear h hG hT
  go_enter Tryz.func11, Tryz.ntmps11
  go_upto_region 3 with fail
  clear d0 hs
  go_upto_region 4 with (first
    | (go_at_call 29; refine SN.out.mono ?_; rintro e w1 ⟨rfl, hw1⟩; have HW1 := Lib.hid hw1; clear hw1)
    | ((with_reducible show wpList _ _ _ (Oper.mk none (.store 76 _ _) _ _ _ _ :: _) _ _); refine wpList_store_row rfl 76 (.tmp 5) (.tmp 11) rfl w1.heap.size (rdC (rd0 w.heap.size)) rfl rfl 76 (rdC { rd0 0 with sc := 0 }) (heap_alloc_new _ _) (by kernel_rfl) rfl (by simp [rdC, rd0, Value.oneCell']) ?_; rw [World.setRow_alloc_new])
    | fail)
  have N1 := new_val w (.cells #[.string s, .int .i64 0] 117)
  have S1 : ScanAt (w.alloc (.cells #[.string s, .int .i64 0] 117)) w.heap.size s 0 := ScanAt.new w s
  have Z1 : (w.alloc (.cells #[.string s, .int .i64 0] 117)).heap.size = w.heap.size + 1 := World.size_alloc _ _
  rw [← HW1.out] at N1 S1 Z1
  have n2 := new_val w1 (.cells (rdC (rd0 w.heap.size)) 76)
  have A2 : RdAt (w1.alloc (.cells (rdC (rd0 w.heap.size)) 76)) w1.heap.size (rd0 w.heap.size) := heap_alloc_new w1 _
  have B2 : Below w.heap.size w (w1.alloc (.cells (rdC (rd0 w.heap.size)) 76)) := then_ N1 n2
  have ER := HG.out.blk
  have O2 := Lib.hid (show RdOk (w1.alloc (.cells (rdC (rd0 w.heap.size)) 76)) w1.heap.size w.heap.size s ⟨0, none⟩ (rd0 w.heap.size) from
    ⟨A2, rfl, S1.below n2 (Nat.le_refl _), by omega, Nat.zero_le _, by have := HS.out; omega, rfl, rfl, HG.out.below B2, by omega, by omega⟩)
  have TK := Lib.hid (show TabK (w1.alloc (.cells (rdC (rd0 w.heap.size)) 76)) w1.heap.size w.heap.size from
    ⟨tab_below HT.out B2, fun g hg => by have := tabP_lt HT.out g hg; omega⟩)
  have BB := Lib.hid B2
  have ZZ : Hid (w.heap.size < w1.heap.size ∧ w1.heap.size < (w1.alloc (.cells (rdC (rd0 w.heap.size)) 76)).heap.size) := Lib.hid ⟨by omega, A2.lt⟩
  clear N1 S1 Z1 n2 A2 B2 ER SN HW1
  change Code.wp _ _ _ _ (w1.alloc (.cells (rdC (rd0 w.heap.size)) 76))
  generalize w1.alloc (.cells (rdC (rd0 w.heap.size)) 76) = w2 at O2 TK BB ZZ ⊢
  generalize w1.heap.size = b at O2 TK ZZ ⊢
  obtain ⟨sc, hsc⟩ : ∃ sc, w.heap.size = sc := ⟨_, rfl⟩
  have HSC := Lib.hid hsc
  rw [hsc] at O2 TK ZZ ⊢
  clear hsc
  have RA := Lib.hid (readAllR b sc s (rd0 sc) w2 O2.out rfl rfl rfl rfl TK.out)
  clear O2 TK
  go_upto_region 5 with (first | (go_at_call 30; refine RA.out.mono ?_; rintro e w3 ⟨⟨_, rfl⟩, hk3, v3, hr3⟩; replace hk3 := Lib.hid hk3; replace hr3 := Lib.hid hr3) | fail)
  have B3 := Lib.hid (rk_below BB.out hk3.out (by have := ZZ.out; have := HSC.out; omega) (by have := HSC.out; omega))
  clear RA
  rcases hr3.out with ⟨F, st, vs, As, cs, e1, e2, e3, e4, e5, e6, e7, e8⟩ | ⟨e, p, e1, e2⟩
  · have E1 := Lib.hid e1
    have O3 := Lib.hid e2
    have D3 := Lib.hid (And.intro e3 (And.intro e4 (And.intro e5 (And.intro e6 (And.intro e7 e8)))))
    have R1 := Lib.hid (right_at b 1 0 w3 e2.fault)
    have R2 := Lib.hid (right_at b 3 v3.le w3 (e2.at_.cell (i := 4) rfl))
    clear e1 e2 e3 e4 e5 e6 e7 e8 hr3
    cases hbig : st.big with
    | some q =>
      have hb := O3.out.big
      rw [hbig] at hb
      have hle : (v3.le == 0) = false := by rw [hb.1]; rfl
      rw [hle] at R2
      have c3 : w3.cell? ⟨b, 3, none⟩ = some (.int .i64 (q : Int)) := hb.2 ▸ O3.out.at_.cell (i := 3) rfl
      have c4 : w3.cell? ⟨b, 4, none⟩ = some (.int .i64 5) := hb.1 ▸ O3.out.at_.cell (i := 4) rfl
      have HBG := Lib.hid hbig
      clear hb hle hbig
      go_upto_region 8 with (first | (go_at_call 31; with_reducible refine R1.out.mono ?_; rintro e w' ⟨rfl, rfl⟩) | (go_at_call 31; with_reducible refine R2.out.mono ?_; rintro e w' ⟨rfl, rfl⟩) | fail)
      go_quiet (fail)
      go_wp2_with fail
      go_ret3
      refine ⟨?_, below_drewN B3.out _⟩
      unfold ReadResS
      rw [E1.out]
      simp only [HBG.out]
      rfl
    | none =>
      have hb := O3.out.big
      rw [hbig] at hb
      have hle : (v3.le == 0) = true := by rw [show v3.le = 0 from hb]; rfl
      rw [hle] at R2
      have FO := Lib.hid (fileM_ok E1.out hbig)
      have HBG := Lib.hid hbig
      have FR := Lib.hid (by
        obtain ⟨e3, e4, e5, e6, e7, e8⟩ := D3.out
        obtain ⟨Af, cf, e9, hFK⟩ := e7.funs (b := b) (sc := sc) e8 (by have := ZZ.out; omega) (by have := ZZ.out; omega)
        have e9' : v3.funs = .slice Af F.funs.length cf := by rw [e9]; simp
        exact fileRS b sc cs cf As Af s.data.toList v3 F (s.extract F.name.1 F.name.2) w3 (by rw [size_list]; have := HS.out; omega) O3.out.at_ FO.out.1 e3 e4 e5 e6 e9' hFK)
      clear hb hle hbig
      go_wp2_with (first | (go_at_call 31; with_reducible refine R1.out.mono ?_; rintro e w' ⟨rfl, rfl⟩) | (go_at_call 31; with_reducible refine R2.out.mono ?_; rintro e w' ⟨rfl, rfl⟩) | (go_at_call 32; refine FR.out.mono ?_; rintro e w4 ⟨fb, fv, us, rfl, hfa, hfb, hb4, hsp⟩; replace hfa := Lib.hid hfa; replace hfb := Lib.hid hfb; replace hsp := Lib.hid hsp; replace hb4 := Lib.hid hb4) | fail)
      go_ret3
      refine ⟨?_, B3.out.trans (hb4.out.mono B3.out.size)⟩
      unfold ReadResS
      rw [E1.out]
      simp only [HBG.out]
      exact ⟨fb, fv, us, As, cs, w3.heap.size, B3.out.size, rfl, FO.out.1, hfa.out, hfb.out, hsp.out.less B3.out.size⟩
  · have E1 := Lib.hid e1
    have R1 := Lib.hid (right_at b 1 (e : Int) w3 e2.fault)
    have d : ((e : Int) == 0) = false := by have := e2.ne; simpa using this
    rw [d] at R1
    have c1 : w3.cell? ⟨b, 1, none⟩ = some (.int .i64 (p : Int)) := e2.fp ▸ e2.at_.cell (i := 1) rfl
    have c2 : w3.cell? ⟨b, 2, none⟩ = some (.int .i64 (e : Int)) := e2.fe ▸ e2.at_.cell (i := 2) rfl
    clear e1 e2 hr3 d
    go_upto_region 6 with (first | (go_at_call 31; refine R1.out.mono ?_; rintro e w' ⟨rfl, rfl⟩) | fail)
    go_quiet (fail)
    go_wp2_with fail
    go_ret3
    refine ⟨?_, below_drewN B3.out _⟩
    unfold ReadResS
    rw [E1.out]
    rfl
end Go.Proofs.YteocbgcgfllieaaGreatDoor
