/- The walk of ScanNumbers. Conditions: the library's ErrRange holds an error; its table of powers stands. -/
import Derived.Test.YtcfendilaogjlaaDoorSe1
namespace Go.Proofs.YtcfendilaogjlaaDoor
open Go.RowKit
set_option linter.unusedVariables false
set_option maxRecDepth 100000 in
set_option maxHeartbeats 4000000 in
theorem numbers_walk (s : ByteArray) (n : Int) (w : World) (hG : GlobR w) (hT : TabP w) (hs : (s.size : Int) ≤ 9223372036854775807) (hn0 : -9223372036854775808 ≤ n) (hn1 : n ≤ 9223372036854775807) :
    Calls Tryd.prog 5 #[.string s, .int .i64 n] w fun e w' => e = .returned (.bool true) ∧ Below w.heap.size w w' := by
  obtain ⟨u, hu⟩ : ∃ u, s.extract 0 (min s.size 60) = u := ⟨_, rfl⟩
  have hus : u.size ≤ 60 := by rw [← hu, ByteArray.size_extract]; omega
  have hsl : ∀ W, (Instr.slice 9 (.string s) none (some (.int .i64 (min (s.size : Int) 60))) none).run Tryd.prog W = .ok (.string u) W := by
    intro W
    rw [run_slice_string_to_if (w := W) (P := Tryd.prog) 9 s .i64 _ Tryd.underlying9, if_pos (by omega), ← hu]
    congr 3
    omega
  have HR := Lib.hid (fun W h => read_any u W (by omega) h)
  have HQ := Lib.hid (fun W => rread_any u W (by omega))
  obtain ⟨V, hV⟩ : ∃ x, readV u.data.toList = x := ⟨_, rfl⟩
  obtain ⟨E, hE⟩ : ∃ x, readE u.data.toList = x := ⟨_, rfl⟩
  rw [hV, hE] at HR HQ
  obtain ⟨t, ht⟩ : ∃ t : ByteArray, ⟨(Lib.itoa n).toArray⟩ = t := ⟨_, rfl⟩
  have hts : t.size ≤ 21 := by rw [← ht]; have h := itoa_len n hn0 hn1; show (Lib.itoa n).toArray.size ≤ 21; rw [List.size_toArray]; exact h
  have HW := Lib.hid (fun W h => write_any n W hn0 hn1 h)
  have HD := Lib.hid (fun W => dec_any n W hn0 hn1)
  have HB := Lib.hid (fun W h => read_any t W (by omega) h)
  have e1 : t.data.toList = Lib.itoa n := by rw [← ht]
  obtain ⟨r1, r2⟩ := read_itoa n
  have r3 : min (max n (-4611686018427387904)) 4611686018427387904 = max (min n 4611686018427387904) (-4611686018427387904) := by omega
  rw [e1, r1, r2, r3] at HB
  rw [ht] at HW HD
  have HG := Lib.hid hG
  have HT := Lib.hid hT
  clear hu hV hE ht e1 r1 r2 r3 hG hT
  go_enter Tryd.func5, Tryd.ntmps5
  go_wp2_with fail
  refine (awake6_true _).mono ?_
  rintro e w1 ⟨rfl, b1⟩
  have B1 := Lib.hid b1
  clear b1
  go_wp2_with fail
  refine (HR.out _ (HG.out.below B1.out)).mono ?_
  rintro e w2 ⟨rfl, b2⟩
  have B2 := Lib.hid (then_ B1.out b2)
  clear b2
  go_wp2_with fail
  refine (HQ.out _).mono ?_
  rintro e w3 ⟨rfl, rfl⟩
  go_wp2_with fail
  refine (HW.out _ (tab_below HT.out B2.out)).mono ?_
  rintro e w3 ⟨rfl, b3⟩
  have B3 := Lib.hid (then_ B2.out b3)
  clear b3
  go_wp2_with fail
  refine (HB.out _ (HG.out.below B3.out)).mono ?_
  rintro e w4 ⟨rfl, b4⟩
  have B4 := Lib.hid (then_ B3.out b4)
  clear b4
  go_wp2_with (go_at_call 21; refine (HD.out _).mono ?_; rintro e w5 ⟨rfl, rfl⟩)
  go_ret
  exact ⟨rfl, B4.out⟩
