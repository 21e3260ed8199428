/- Contract of a shape's All, as a range over a function (no statement of its own). Conditions: at most six sizes, each of 1 to 32. -/
import Derived.Test.YtdmldnlgamnkeaaGreatSh2
import Derived.Test.YtdmldnlgamnkeaaGreatGood
namespace Go.Proofs.YtdmldnlgamnkeaaGreat
open Go.RowKit Go.Shelf
set_option linter.unusedVariables false
attribute [local go_sem] Oper.semAt_some
theorem all_call (l : List Nat) (w : World) :
    Calls Tryz.prog 30 #[shV l] w fun e w' => e = .returned (.func (.func 54) #[] #[.pointer (some ⟨w.heap.size, 0, none⟩)]) ∧ w' = w.alloc (shO l) := by
  go_enter Tryz.func30, Tryz.ntmps30
  go_wp2
  go_ret
  exact ⟨rfl, rfl⟩
/-- What is yielded: a number, and a slice that holds the tuple of that number, in a block from base on. -/
def GoodT (l : List Nat) (base : Nat) (pre : List (Nat × Value)) (x : Nat × Value) (W : World) : Prop := x.1 = pre.length ∧ x.1 < prodL l ∧ Own W base x.2 (tupL l x.1)
theorem goodT_own (l : List Nat) (base B : Nat) (pre : List (Nat × Value)) (x : Nat × Value) : OwnFrom B (fun (_ : Unit) W => GoodT l base pre x W) := by
  intro s X Y row hs hg hr
  refine ⟨hs.1, hs.2.1, World.ownsRow.kept hs.2.2 hg ?_⟩
  obtain ⟨h1, ⟨h2, hn⟩ | ⟨g, cap, cur, h2, hb, hh, _⟩⟩ := hs.2.2
  · rw [h2]
    exact .inl rfl
  · refine .inr fun e => ?_
    rw [h2] at e
    obtain ⟨_, o, ho, hc⟩ := hr g e.symm
    rw [hh] at ho
    cases ho
    cases hc
theorem ShAt.keep {X Y : World} {b : Nat} {l : List Nat} (h : ShAt X b l) (k : Keep1 b X Y) : ShAt Y b l := by
  have c : ∀ i, Y.cell? ⟨b, i, none⟩ = X.cell? ⟨b, i, none⟩ := fun i => World.cell?_of_block (a := ⟨b, i, none⟩) k.2
  exact ⟨(c 0).trans h.c0, (c 1).trans h.c1, (c 2).trans h.c2, (c 3).trans h.c3, (c 4).trans h.c4, (c 5).trans h.c5, (c 6).trans h.c6, Nat.lt_of_lt_of_le h.lt k.1, fun i => (World.frozen?_of_block (a := ⟨b, i, none⟩) k.2).trans (h.fz i)⟩
abbrev encT (x : Nat × Value) : Array Value := #[.int .i64 (x.1 : Int), x.2]
set_option maxRecDepth 100000 in
set_option maxHeartbeats 2000000 in
theorem all_good (n : Nat) (hn : 1 ≤ n) (l : List Nat) (P Bs : Nat) (h6 : l.length ≤ 6) (h32 : ∀ n ∈ l, 1 ≤ n ∧ n ≤ 32) (hP : prodL l = P) (hP2 : P ≤ 4096) (w0 : World) (hB : ShAt w0 Bs l) :
    GoodSeq n Tryz.prog 54 #[.pointer (some ⟨Bs, 0, none⟩)] encT Bs (fun B => GoodT l B) (fun xs => xs.length = P) w0 := by
  intro y J W hW hJ hY h0
  have K := Lib.hid (fun W => count_below l W h6 (fun n hn => (h32 n hn).2) P hP)
  have T := Lib.hid (fun W i (hi : i < P) => tuple_ok l i W h6 h32 (by rw [hP]; exact hi))
  have HP := Lib.hid hP
  have HY := Lib.hid hY
  have HJ := Lib.hid hJ
  have H0 := Lib.hid h0
  have HS := Lib.hid (hB.below hW hB.lt)
  clear hY hJ h0 hP hB hW h32
  refine callsIn_of_wp Tryz.func54 rfl trivial ?_ rfl
  simp only [Tryz.ntmps54, List.size_toArray, List.length_cons, List.length_nil, Nat.reduceAdd, Nat.reduceSub, Array.replicate_succ, Array.replicate_zero, List.push_toArray, List.append_toArray, List.nil_append, List.cons_append]
  obtain ⟨c0, c1, c2, c3, c4, c5, c6, hlt, hfz⟩ := HS.out
  gi_wp2_with (refine ⟨trivial, ?_⟩; gi_at_call 23; refine (callsIn_wide.2 (K.out _)).mono ?_; rintro e W1 ⟨rfl, hb⟩)
  have J1 := Lib.hid (HJ.out _ _ _ _ H0.out (grown_of_below hb) (fun r e => by cases e))
  have B1 := Lib.hid (Keep1.of_below hb HS.out.lt)
  have hz1 := hb.size
  clear hb c0 c1 c2 c3 c4 c5 c6 hlt hfz
  gi_loopw [3, 4, 5, 8] (fun _ _ _ i wr => ∃ pre : List (Nat × Value), pre.length ≤ P ∧ i = .int .i64 (pre.length : Int) ∧ J pre wr ∧ Keep1 Bs W wr) (fun _ _ _ i _ => P - (intOf i).toNat)
  case atStart => exact ⟨[], Nat.zero_le _, rfl, J1.out, B1.out⟩
  case round =>
    obtain ⟨pre, hp, rfl, hJr, hBr⟩ := hrel
    have JR := Lib.hid hJr
    have BR := Lib.hid hBr
    have hzr := hBr.1
    clear hJr hBr
    obtain ⟨k, hk⟩ : ∃ k, pre.length = k := ⟨_, rfl⟩
    have HK := Lib.hid hk
    rw [hk] at hp ⊢
    clear hk
    by_cases hlt : k < P
    · obtain ⟨c0, c1, c2, c3, c4, c5, c6, hlt', hfz⟩ := HS.out.keep BR.out
      gi_wp2_with fail
      refine ⟨trivial, ?_⟩
      refine (callsIn_wide.2 (T.out _ k hlt)).mono ?_
      rintro e W2 ⟨⟨v, rfl, hO⟩, hb2⟩
      have J2 := Lib.hid hb2
      have G2 : Hid (GoodT l wr.heap.size pre (k, v) W2) := Lib.hid ⟨HK.out.symm, by rw [HP.out]; exact hlt, hO⟩
      have B2 := Lib.hid (BR.out.trans (Keep1.of_below hb2 (HS.out.keep BR.out).lt))
      have hz2 := hb2.size
      obtain ⟨fn, tmps, assign, body, hy, hR⟩ := HY.out pre (k, v) wr W2 JR.out J2.out G2.out
      simp only [encT] at hy
      clear hO hb2 c0 c1 c2 c3 c4 c5 c6 hlt' hfz
      gi_wp2
      refine hR.mono ?_
      rintro e W3 ⟨rfl, hJ3, hk3⟩
      have J3 := Lib.hid hJ3
      have B3 := Lib.hid (B2.out.trans hk3)
      clear hJ3 hk3 hy hR
      gi_wp2
      go_roundw
      case rel => exact ⟨pre ++ [(k, v)], by rw [List.length_append, HK.out]; show k + 1 ≤ P; omega, by rw [List.length_append, HK.out]; go_num, J3.out, B3.out⟩
      case measure => simp [intOf]; omega
    · gi_wp2
      go_end0
      exact ⟨⟨_, rfl⟩, pre, by have := HK.out; omega, JR.out⟩
end Go.Proofs.YtdmldnlgamnkeaaGreat
