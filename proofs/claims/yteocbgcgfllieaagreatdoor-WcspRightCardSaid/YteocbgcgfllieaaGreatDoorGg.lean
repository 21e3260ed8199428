/- Copies of lists and of a function's tuples (no statement of its own). -/
import Derived.Test.YteocbgcgfllieaaGreatDoorGf
import Derived.Test.YteocbgcgfllieaaGreatDoorGa
import Derived.Test.YteocbgcgfllieaaGreatDoorEc
namespace Go.Proofs.YteocbgcgfllieaaGreatDoor
open Go.RowKit
set_option linter.unusedVariables false
theorem clone_own (A : Option Addr) (n c : Nat) (z : Nat → Int) (w : World) (hl : n ≤ 1000000) (hw : Ext w A n z) :
    Calls Tryz.prog 13 #[.slice A n c] w fun e w' => (∃ A' c', e = .returned (.slice A' n c') ∧ w'.ownsRow w.heap.size 3 1 (.slice A' n c') n (zC n z)) ∧ Below w.heap.size w w' := by
  rcases hw with ⟨rfl, rfl⟩ | ⟨ad, rfl, hc⟩
  · have hq : ∀ W, (binOp .eql 23 (.slice none 0 c) (.slice none 0 0)).run Tryz.prog W = .ok (.bool true) W := fun W => Lib.run_eql_slice_nil W 23 3 none 0 c 0 0 Tryz.underlying23
    go_enter Tryz.func13, Tryz.ntmps13
    go_wp2
    go_ret
    exact ⟨⟨none, 0, rfl, World.ownsRow_nil _ _ _ _⟩, Below.refl _ _⟩
  · obtain ⟨i0, hi, hz0, hz1, hz2⟩ := info_parts info_int
    have HI := Lib.hid hi
    have HZ0 := Lib.hid hz0
    have HZ1 := Lib.hid hz1
    have HZ2 := Lib.hid hz2
    have hb0 : Below w.heap.size w (w.alloc (.cells #[] 3)) := (Below.refl _ _).alloc (Nat.le_refl _) _
    have HN : Hid (∀ j u, (zC n z)[j]? = some u → (w.alloc (.cells #[] 3)).cell? (ad.add j) = some u) := by
      refine Lib.hid fun j u hu => ?_
      obtain ⟨hj, rfl⟩ := zC_get hu
      exact (hb0.cell (p := ad.add j) (by rw [block_add]; exact (hc j hj).1)).trans (hc j hj).2
    have H1 : Hid (∀ u ∈ zC n z, u.oneCell' = true) := Lib.hid fun u hu => by
      simp only [zC, List.mem_map] at hu
      obtain ⟨x, _, rfl⟩ := hu
      rfl
    have hq : ∀ W, (binOp .eql 23 (.slice (some ad) n c) (.slice none 0 0)).run Tryz.prog W = .ok (.bool false) W := fun W => Lib.run_eql_slice_nil W 23 3 (some ad) n c 0 0 Tryz.underlying23
    clear hc hi hz0 hz1 hz2 hb0
    go_enter Tryz.func13, Tryz.ntmps13
    go_wp2_with (at_builtin; refine wpList_append_own _ rfl (.tmp 5) (.tmp 6) 23 rfl w.heap.size 3 i0 (.int .i64 0) 1 8 Tryz.underlying23 HI.out HZ0.out HZ1.out HZ2.out rfl (by decide) (.slice (some ⟨w.heap.size, 0, none⟩) 0 0) 0 [] rfl (World.ownsRow_made w #[] 0 (Nat.le_refl _) (by simp [maxLen]) rfl) ad n c (zC n z) rfl (by simp [zC]) HN.out H1.out (by unfold maxLen; omega) (by omega) (by simp) ?_; intro v' w1 h1 h2 _; have K1 := Lib.hid h1; have K2 := Lib.hid h2; clear h1 h2)
    go_ret
    have h := K1.out
    rw [Nat.zero_add, List.nil_append] at h
    obtain ⟨A', c', e, -⟩ := zs_of_row h
    rw [e] at h
    refine ⟨⟨A', c', congrArg Ending.returned e, h⟩, ?_⟩
    exact ((Below.refl _ _).alloc (Nat.le_refl _) _).grown K2.out (by simp) (fun k hk => by simp [Value.ownBlock] at hk; omega)
theorem equal_zs (A A2 : Option Addr) (n c c2 : Nat) (z : Nat → Int) (w : World) (hl : n ≤ 1000000) (hw : Zs w A n z) (hw2 : Zs w A2 n z) :
    Calls Tryz.prog 18 #[.slice A n c, .slice A2 n c2] w fun e w' => e = .returned (.bool true) ∧ Below w.heap.size w w' := by
  have HW := Lib.hid hw
  have HW2 := Lib.hid hw2
  clear hw hw2
  go_enter Tryz.func18, Tryz.ntmps18
  go_wp2_with fail
  go_loopw [5, 13] (fun _ i wr => ∃ j : Nat, j ≤ n ∧ i = .int .i64 j ∧ Below w.heap.size w wr) (fun _ i _ => n - (intOf i).toNat)
  case atStart => exact ⟨0, Nat.zero_le _, rfl, Below.refl _ _⟩
  case round =>
    obtain ⟨j, hj, rfl, hb⟩ := hrel
    have HB := Lib.hid hb
    clear hb
    by_cases hlt : j < n
    · have hjl : j < n := hlt
      obtain ⟨g, o, rfl, hcell⟩ := (HW.out.below HB.out (Nat.le_refl _)).at_ hjl
      obtain ⟨g2, o2, rfl, hcell2⟩ := (HW2.out.below HB.out (Nat.le_refl _)).at_ hjl
      clear hjl
      generalize z j = y at hcell hcell2
      have i1 : (j : Int) < (n : Int) := by omega
      have i2 : (0 : Int) ≤ (j : Int) := by omega
      go_wp2_with fail
      go_quiet (fail)
      go_wp2
      go_roundw
      case rel => exact ⟨j + 1, by omega, by go_num, next_drewN HB.out _⟩
      case measure => simp [intOf]; omega
    · go_wp2
      go_ret
      exact ⟨rfl, HB.out⟩

theorem linesT_none (l : List Nat) (o : Int) : linesT l o (fun _ => o) = [] := by simp [linesT]
/-- A copy of a function's tuples of no line. -/
def CopyT (B : Nat) (W : World) (l : List Nat) (k o : Int) (tv tv' : Value) : Prop :=
  (tv = .pointer none ∧ tv' = .pointer none) ∨ ((∃ g, tv = .pointer (some ⟨g, 0, none⟩)) ∧ ∃ g b A c, tv' = .pointer (some ⟨g, 0, none⟩) ∧ TpAt W g b A c 0 l k o (fun _ => o) ∧ B ≤ g ∧ B ≤ b ∧ ∀ a : Addr, A = some a → B ≤ a.block)
theorem CopyT.below {B : Nat} {W W' : World} {l : List Nat} {k o : Int} {tv tv' : Value} (h : CopyT B W l k o tv tv') (hb : Below W.heap.size W W') : CopyT B W' l k o tv tv' := by
  rcases h with h | ⟨h0, g, b, A, c, h1, h2, h3⟩
  · exact .inl h
  · exact .inr ⟨h0, g, b, A, c, h1, h2.below hb, h3⟩
/-- A function's tuples, if any. -/
def TupV (W : World) (l : List Nat) (k o : Int) (tv : Value) : Prop :=
  tv = .pointer none ∨ (InK o k ∧ l.length ≤ 6 ∧ (∀ n ∈ l, 1 ≤ n ∧ n ≤ 32) ∧ ∃ g b A c, tv = .pointer (some ⟨g, 0, none⟩) ∧ TpAt W g b A c 0 l k o (fun _ => o) ∧ ∀ a : Addr, A = some a → a.block < W.heap.size)
theorem TupV.below {W W' : World} {l : List Nat} {k o : Int} {tv : Value} (h : TupV W l k o tv) (hb : Below W.heap.size W W') : TupV W' l k o tv := by
  rcases h with h | ⟨h0, h1, h2, g, b, A, c, h3, h4, h5⟩
  · exact .inl h
  · exact .inr ⟨h0, h1, h2, g, b, A, c, h3, h4.below hb, fun a e => Nat.lt_of_lt_of_le (h5 a e) hb.size⟩
theorem copied6 (l : List Nat) (k o : Int) (tv : Value) (w : World) (h : TupV w l k o tv) :
    Calls Tryz.prog 59 #[tv] w fun e w' => (∃ tv', e = .returned tv' ∧ CopyT w.heap.size w' l k o tv tv') ∧ Below w.heap.size w w' := by
  rcases h with rfl | ⟨ho, h6, h32, g, b, A, c, rfl, hT, -⟩
  · refine (copied_nil w).mono ?_
    rintro e w' ⟨rfl, hb⟩
    exact ⟨⟨_, rfl, .inl ⟨rfl, rfl⟩⟩, hb⟩
  · refine (copied_ok g b 0 c A l k o (fun _ => o) w hT h6 h32 (by omega) ho (fun t ht => ho) (by rw [linesT_none]; simp)).mono ?_
    rintro e w' ⟨⟨g', b', A', c', rfl, h1, h2, h3, h4⟩, hb⟩
    rw [linesT_none] at h1
    exact ⟨⟨_, rfl, .inr ⟨⟨_, rfl⟩, g', b', A', c', rfl, h1, h2, h3, h4⟩⟩, hb⟩
end Go.Proofs.YteocbgcgfllieaaGreatDoor
