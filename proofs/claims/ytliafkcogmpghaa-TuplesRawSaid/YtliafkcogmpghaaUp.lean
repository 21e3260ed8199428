/- Contracts of what tuples tell of themselves, and of nil ones (no statement of its own). No condition. -/
import Derived.Test.YtliafkcogmpghaaUo
namespace Go.Proofs.Ytliafkcogmpghaa
open Go.RowKit Go.Maps
set_option linter.unusedVariables false
theorem tplen_ok (g b N c : Nat) (A : Option Addr) (l : List Nat) (k o : Int) (f : List Nat → Int) (w : World) (H : TpAt w g b A c N l k o f) (h6 : l.length ≤ 6) (h32 : ∀ n ∈ l, 1 ≤ n ∧ n ≤ 32) :
    Calls Try.prog 23 #[.pointer (some ⟨g, 0, none⟩)] w fun e w' => e = .returned (.int .i64 ((linesT l o f).length : Int)) ∧ w = w' := by
  obtain ⟨D, hown, hrep⟩ := H.map
  have HS := Lib.hid (size_lines hown hrep h6 h32)
  have HO := Lib.hid hown
  obtain ⟨a0, a1, a2, a3⟩ := H.cells
  clear H hown hrep h32
  generalize (linesT l o f).length = n at HS ⊢
  go_enter Try.func23, Try.ntmps23
  go_wp2_with (at_len; refine wpList_len_own _ rfl _ 69 rfl 74 2 Try.underlying69 _ b N D rfl HO.out ?_; rw [HS.out])
  go_ret
  exact ⟨rfl, rfl⟩
theorem tplen_nil (w : World) : Calls Try.prog 23 #[.pointer none] w fun e w' => e = .returned (.int .i64 0) ∧ w = w' := by
  go_enter Try.func23, Try.ntmps23
  go_wp2_with fail
  go_ret
  exact ⟨rfl, rfl⟩
theorem tparity_ok (g b N c : Nat) (A : Option Addr) (l : List Nat) (k o : Int) (f : List Nat → Int) (w : World) (H : TpAt w g b A c N l k o f) :
    Calls Try.prog 24 #[.pointer (some ⟨g, 0, none⟩)] w fun e w' => e = .returned (.int .i64 (l.length : Int)) ∧ w = w' := by
  obtain ⟨a0, a1, a2, a3⟩ := H.cells
  clear H
  go_enter Try.func24, Try.ntmps24
  go_wp2_with fail
  go_ret
  exact ⟨rfl, rfl⟩
theorem tparity_nil (w : World) : Calls Try.prog 24 #[.pointer none] w fun e w' => e = .returned (.int .i64 0) ∧ w = w' := by
  go_enter Try.func24, Try.ntmps24
  go_wp2_with fail
  go_ret
  exact ⟨rfl, rfl⟩
theorem tpk_ok (g b N c : Nat) (A : Option Addr) (l : List Nat) (k o : Int) (f : List Nat → Int) (w : World) (H : TpAt w g b A c N l k o f) :
    Calls Try.prog 27 #[.pointer (some ⟨g, 0, none⟩)] w fun e w' => e = .returned (.int .i64 k) ∧ w = w' := by
  obtain ⟨a0, a1, a2, a3⟩ := H.cells
  clear H
  go_enter Try.func27, Try.ntmps27
  go_wp2_with fail
  go_ret
  exact ⟨rfl, rfl⟩
theorem tpk_nil (w : World) : Calls Try.prog 27 #[.pointer none] w fun e w' => e = .returned (.int .i64 0) ∧ w = w' := by
  go_enter Try.func27, Try.ntmps27
  go_wp2_with fail
  go_ret
  exact ⟨rfl, rfl⟩
theorem tpother_ok (g b N c : Nat) (A : Option Addr) (l : List Nat) (k o : Int) (f : List Nat → Int) (w : World) (H : TpAt w g b A c N l k o f) :
    Calls Try.prog 28 #[.pointer (some ⟨g, 0, none⟩)] w fun e w' => e = .returned (.int .i64 o) ∧ w = w' := by
  obtain ⟨a0, a1, a2, a3⟩ := H.cells
  clear H
  go_enter Try.func28, Try.ntmps28
  go_wp2_with fail
  go_ret
  exact ⟨rfl, rfl⟩
theorem tpother_nil (w : World) : Calls Try.prog 28 #[.pointer none] w fun e w' => e = .returned (.int .i64 0) ∧ w = w' := by
  go_enter Try.func28, Try.ntmps28
  go_wp2_with fail
  go_ret
  exact ⟨rfl, rfl⟩
theorem tpsizes_ok (g b N c : Nat) (A : Option Addr) (l : List Nat) (k o : Int) (f : List Nat → Int) (w : World) (H : TpAt w g b A c N l k o f) (h6 : l.length ≤ 6) :
    Calls Try.prog 26 #[.pointer (some ⟨g, 0, none⟩)] w fun e w' => (∃ v, e = .returned v ∧ Own w' w.heap.size v l) ∧ Below w.heap.size w w' := by
  obtain ⟨a0, a1, a2, a3⟩ := H.cells
  have HC := Lib.hid (clone_any A c l w (by omega) H.ints)
  clear H
  go_enter Try.func26, Try.ntmps26
  go_wp2_with fail
  refine HC.out.mono ?_
  rintro e w1 ⟨⟨v, rfl, hv⟩, hb⟩
  have HV := Lib.hid hv
  have HB := Lib.hid hb
  clear hv hb
  go_wp2_with fail
  go_ret
  exact ⟨⟨_, rfl, HV.out⟩, HB.out⟩
theorem tpsizes_nil (w : World) : Calls Try.prog 26 #[.pointer none] w fun e w' => e = .returned (.slice none 0 0) ∧ w = w' := by
  go_enter Try.func26, Try.ntmps26
  go_wp2_with fail
  go_ret
  exact ⟨rfl, rfl⟩
set_option maxRecDepth 100000 in
theorem tplines_nil (w : World) : Calls Try.prog 25 #[.pointer none] w fun e w' => e = .returned (.slice none 0 0) ∧ w = w' := by
  go_enter Try.func25, Try.ntmps25
  go_wp2_with fail
  go_ret
  exact ⟨rfl, rfl⟩
set_option maxRecDepth 100000 in
theorem tpget_nil (A : Option Addr) (n c : Nat) (w : World) : Calls Try.prog 15 #[.pointer none, .slice A n c] w fun e w' => e = .returned (.tuple #[.int .i64 0, .int .i64 2]) ∧ w = w' := by
  go_enter Try.func15, Try.ntmps15
  go_wp2_with fail
  go_ret2
  exact ⟨rfl, rfl⟩
set_option maxRecDepth 100000 in
theorem tpput_nil (A : Option Addr) (n c : Nat) (x : Int) (w : World) : Calls Try.prog 14 #[.pointer none, .slice A n c, .int .i64 x] w fun e w' => e = .returned (.int .i64 2) ∧ w = w' := by
  go_enter Try.func14, Try.ntmps14
  go_wp2_with fail
  go_ret
  exact ⟨rfl, rfl⟩
set_option maxRecDepth 100000 in
theorem tpsame_nn (w : World) : Calls Try.prog 21 #[.pointer none, .pointer none] w fun e w' => e = .returned (.bool true) ∧ w = w' := by
  go_enter Try.func21, Try.ntmps21
  go_wp2_with fail
  go_ret
  exact ⟨rfl, rfl⟩
theorem eql_nil_ptr (g : Nat) (w : World) : (binOp .eql 28 (.pointer none) (.pointer (some ⟨g, 0, none⟩))).run Try.prog w = .ok (.bool false) w := by
  have h : Try.prog.underlying 28 = some (.pointer (Try.prog.pointee 28)) := by kernel_rfl
  have h1 : ∀ d : Nat, (Op.equalIn (d + 1) 28 (.pointer none) (.pointer (some ⟨g, 0, none⟩))).run Try.prog w = .ok false w := fun d => by simp [Op.equalIn, run_underlying h]
  simp only [binOp]
  simp [Op.equal, Op.maxDepth, h1 9999]
set_option maxRecDepth 100000 in
theorem tpsame_nu (g : Nat) (w : World) : Calls Try.prog 21 #[.pointer none, .pointer (some ⟨g, 0, none⟩)] w fun e w' => e = .returned (.bool false) ∧ w = w' := by
  have hq := eql_nil_ptr g
  go_enter Try.func21, Try.ntmps21
  go_wp2_with fail
  go_ret
  exact ⟨rfl, rfl⟩
end Go.Proofs.Ytliafkcogmpghaa
