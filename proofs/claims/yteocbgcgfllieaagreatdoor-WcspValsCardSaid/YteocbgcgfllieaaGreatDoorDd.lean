/- The document's reader, right so far or malformed (no statement of its own). -/
import Derived.Test.YteocbgcgfllieaaGreatDoorDc
namespace Go.Proofs.YteocbgcgfllieaaGreatDoor
open Go.RowKit
set_option linter.unusedVariables false
theorem wordsL_cases {l : List UInt8} {k : Nat} (hk : k ≤ l.length) : ((wordsL l k).1 = [] ∧ (stepW l k = .none ∧ (wordsL l k).2 = none ∨ ∃ t, stepW l k = .bad t ∧ (wordsL l k).2 = some t)) ∨ ∃ f t, stepW l k = .word f t ∧ (wordsL l k).1 = (f, t) :: (wordsL l t).1 ∧ (wordsL l k).2 = (wordsL l t).2 := by
  cases h : stepW l k with
  | none => exact .inl (by rw [wordsL_none h]; exact ⟨rfl, .inl ⟨rfl, rfl⟩⟩)
  | bad t => exact .inl (by rw [wordsL_bad h]; exact ⟨rfl, .inr ⟨t, rfl, rfl⟩⟩)
  | word f t => exact .inr ⟨f, t, rfl, by rw [wordsL_word hk h], by rw [wordsL_word hk h]⟩
/-- The length that a slice tells. -/
def lenS : Value → Nat
  | .slice _ n _ => n
  | _ => 0
theorem wordsN_few {l : List UInt8} : ∀ (n k : Nat), k ≤ l.length → (wordsN n l k).1.length ≤ l.length - k
  | 0, k, _ => Nat.zero_le _
  | n + 1, k, hk => by
    unfold wordsN
    cases h : stepW l k with
    | none => exact Nat.zero_le _
    | bad t => exact Nat.zero_le _
    | word f t =>
      have h1 := stepW_word hk h
      have := wordsN_few n t h1.2.2.1
      simp only [List.length_cons]
      omega
theorem DrOk.lenS {W : World} {b : Nat} {s : ByteArray} {st : RdS} {v : DrV} (h : DrOk W b s st v) : lenS v.l = (wordsL s.data.toList st.k).1.length ∧ lenS v.l ≤ 100000 := by
  obtain ⟨A, c, e, _⟩ := h.words
  have h1 := wordsN_few (s.data.toList.length + 1) st.k (by rw [size_list]; exact h.le)
  have h2 := h.fits
  rw [size_list] at h1
  rw [e]
  refine ⟨rfl, ?_⟩
  show (wordsL s.data.toList st.k).1.length ≤ _
  unfold wordsL
  rw [size_list]
  omega
theorem numM_len {l : List UInt8} {lo hi : Int} {st st' : RdS} {n : Int × Nat} (hk : st.k ≤ l.length) (h : numM l lo hi st = .ok n st') : (wordsL l st.k).1.length = (wordsL l st'.k).1.length + 1 := by
  obtain ⟨t, h1, h2, _⟩ := numM_ok.1 h
  rw [wordsL_word hk h1, h2]
  rfl
theorem DrBad.keepAt {W W' : World} {b e p : Nat} {v v' : DrV} (h : DrBad W b e p v) (ha : DrAt W' b v') (h1 : v'.bad = v.bad) (h2 : v'.badAt = v.badAt) : DrBad W' b e p v' := ⟨ha, h1.trans h.fe, h2.trans h.fp, h.ne⟩
theorem DrOk.keepAt {W W' : World} {b : Nat} {s : ByteArray} {st : RdS} {v : DrV} (h : DrOk W b s st v) (ha : DrAt W' b v) (hk : KeepD W W') : DrOk W' b s st v := ⟨ha, h.fine, h.le, h.fits, h.big, h.words.keep hk, h.fin⟩
/-- A number, right so far. -/
theorem num7_ok (b : Nat) (s : ByteArray) (st : RdS) (v : DrV) (lo hi : Int) (w : World) (h : DrOk w b s st v) :
    Calls Tryz.prog 36 #[.pointer (some ⟨b, 0, none⟩), .int .i64 lo, .int .i64 hi] w fun e' w' => ∃ n p v', e' = .returned (.tuple #[.int .i64 n, .int .i64 ((p : Nat) : Int)]) ∧ ((lo ≤ n ∧ n ≤ hi) ∨ (n = 0 ∧ ¬ v'.bad = 0)) ∧ Gr w w' b ∧ DrNear v v' ∧ NumD s b lo hi st v' n p w' := by
  have hle : st.k ≤ s.data.toList.length := by rw [size_list]; exact h.le
  rcases wordsL_cases hle with ⟨h1, h2⟩ | ⟨f, t, h1, h2, h3⟩
  · have hw := h.words
    rw [h1] at hw
    have key := num7_still b ⟨#[]⟩ 0 lo hi { v with bad := v.ee, badAt := v.en } w h.at_.lt (by decide) (word7_none b s v w h.at_ h.fine hw)
    have hf := h.fin
    rcases h2 with ⟨h2, h3⟩ | ⟨t, h2, h3⟩
    · rw [h3] at hf
      obtain ⟨e1, e2⟩ := hf
      refine (key (by show ¬ v.ee = 0; omega)).mono ?_
      rintro e' w' ⟨rfl, ha, hg⟩
      refine ⟨0, 0, { v with bad := v.ee, badAt := v.en }, rfl, .inr ⟨rfl, by show ¬ v.ee = 0; omega⟩, hg, ⟨rfl, rfl⟩, .inr ⟨4, s.size, ?_, ⟨ha, by show v.ee = _; omega, by show v.en = _; omega, by decide⟩, rfl⟩⟩
      unfold numM wordM
      rw [h2]
      simp only [RdR.bind_bad]
      rw [size_list]
    · rw [h3] at hf
      obtain ⟨e1, e2⟩ := hf
      refine (key (by show ¬ v.ee = 0; omega)).mono ?_
      rintro e' w' ⟨rfl, ha, hg⟩
      refine ⟨0, 0, { v with bad := v.ee, badAt := v.en }, rfl, .inr ⟨rfl, by show ¬ v.ee = 0; omega⟩, hg, ⟨rfl, rfl⟩, .inr ⟨11, t, ?_, ⟨ha, by show v.ee = _; omega, by show v.en = _; omega, by decide⟩, rfl⟩⟩
      unfold numM wordM
      rw [h2]
      rfl
  · have hw := h.words
    rw [h2] at hw
    have hsw := stepW_word hle h1
    have hsz : (s.extract f t).size ≤ 1000000 := by rw [ByteArray.size_extract]; have := h.fits; omega
    obtain ⟨lv, hwl, WD⟩ := word7_some b s v w (f, t) _ h.at_ h.fine hw
    have hnum : numM s.data.toList lo hi st = if readE (subL s.data.toList f t) = 0 ∧ lo ≤ readV (subL s.data.toList f t) ∧ readV (subL s.data.toList f t) ≤ hi then .ok (readV (subL s.data.toList f t), f) ⟨t, st.big⟩ else .bad 4 f := by
      unfold numM wordM
      rw [h1]
      rfl
    rw [← extract_sub] at hnum
    by_cases hc : readE (s.extract f t).data.toList = 0 ∧ lo ≤ readV (s.extract f t).data.toList ∧ readV (s.extract f t).data.toList ≤ hi
    · rw [if_pos hc] at hnum
      refine (num7_good b (s.extract f t) f lo hi { v with l := lv } w h.at_.lt hsz (fun _ => True) (fun _ _ _ _ _ => trivial) (WD.mono fun e' w' hh => ⟨hh.1, hh.2.1, hh.2.2, trivial⟩) h.fine hc.1 hc.2.1 hc.2.2).mono ?_
      rintro e' w' ⟨rfl, ha, hg, -⟩
      refine ⟨_, f, { v with l := lv }, rfl, .inl hc.2, hg, ⟨rfl, rfl⟩, .inl ⟨_, hnum, ⟨ha, h.fine, by show t ≤ s.size; rw [← size_list]; exact hsw.2.2.1, h.fits, h.big, hwl.keep (KeepD.dr h.at_ hg), ?_⟩⟩⟩
      have := h.fin
      rw [h3] at this
      exact this
    · rw [if_neg hc] at hnum
      refine (num7_bad b (s.extract f t) f lo hi { v with l := lv } w h.at_.lt hsz WD h.fine hc).mono ?_
      rintro e' w' ⟨rfl, ha, hg⟩
      exact ⟨0, 0, { v with l := lv, bad := 4, badAt := (f : Int) }, rfl, .inr ⟨rfl, by show ¬ (4 : Int) = 0; decide⟩, hg, ⟨rfl, rfl⟩, .inr ⟨4, f, hnum, ⟨ha, rfl, rfl, by decide⟩, rfl⟩⟩
theorem num7_done (b e p : Nat) (v : DrV) (lo hi : Int) (w : World) (h : DrBad w b e p v) :
    Calls Tryz.prog 36 #[.pointer (some ⟨b, 0, none⟩), .int .i64 lo, .int .i64 hi] w fun e' w' => e' = .returned (.tuple #[.int .i64 0, .int .i64 0]) ∧ DrAt w' b v ∧ Gr w w' b := by
  refine num7_still b ⟨#[]⟩ 0 lo hi v w h.at_.lt (by decide) ((word7_still b e p v w h).mono ?_) h.bad
  rintro e' w' ⟨rfl, hb⟩
  exact ⟨rfl, (hb.block b h.at_.lt).trans h.at_, Gr.below hb⟩
/-- Right so far, with C still to be read; or malformed, and so is the whole. -/
def DrIn {β : Type} (W : World) (b : Nat) (s : ByteArray) (v v' : DrV) (E : RdR β) (C : RdS → RdR β) : Prop :=
  DrNear v v' ∧ ((∃ st, DrOk W b s st v' ∧ E = C st) ∨ ∃ e p, DrBad W b e p v' ∧ E = .bad e p)
theorem DrIn.conv {β : Type} {W : World} {b : Nat} {s : ByteArray} {v v' : DrV} {E : RdR β} {C C' : RdS → RdR β} (h : DrIn W b s v v' E C) (hC : ∀ st, C st = C' st) : DrIn W b s v v' E C' := by
  rwa [show C = C' from funext hC] at h
theorem DrIn.at_ {β : Type} {W : World} {b : Nat} {s : ByteArray} {v v' : DrV} {E : RdR β} {C : RdS → RdR β} (h : DrIn W b s v v' E C) : DrAt W b v' := by
  rcases h.2 with ⟨st, h, _⟩ | ⟨e, p, h, _⟩
  · exact h.at_
  · exact h.at_
theorem DrIn.keep {β : Type} {W W' : World} {b : Nat} {s : ByteArray} {v v' : DrV} {E : RdR β} {C : RdS → RdR β} (h : DrIn W b s v v' E C) (hb : W'.heap[b]? = W.heap[b]?) (hk : ∀ (g : Nat) (cur : Array Value) (fr : Nat × Nat), W.heap[g]? = some (.cells cur 84 fr) → W'.heap[g]? = W.heap[g]?) : DrIn W' b s v v' E C := by
  refine ⟨h.1, ?_⟩
  rcases h.2 with ⟨st, h, hE⟩ | ⟨e, p, h, hE⟩
  · refine .inl ⟨st, ⟨hb.trans h.at_, h.fine, h.le, h.fits, h.big, ?_, h.fin⟩, hE⟩
    obtain ⟨A, c, e, hc, hh⟩ := h.words
    refine ⟨A, c, e, hc, ?_⟩
    rcases hh with hh | ⟨g, o, cur, fr, e2, h1, h2, h3⟩
    · exact .inl hh
    · have := hk g cur fr h1
      exact .inr ⟨g, o, cur, fr, e2, this.trans h1, h2, fun j x hx => ⟨(World.cell?_of_block (a := ⟨g, o + j * 2, none⟩) this).trans (h3 j x hx).1, (World.cell?_of_block (a := ⟨g, o + j * 2 + 1, none⟩) this).trans (h3 j x hx).2⟩⟩
  · exact .inr ⟨e, p, ⟨hb.trans h.at_, h.fe, h.fp, h.ne⟩, hE⟩
theorem DrIn.below {β : Type} {W W' : World} {b : Nat} {s : ByteArray} {v v' : DrV} {E : RdR β} {C : RdS → RdR β} (h : DrIn W b s v v' E C) (hb : Below W.heap.size W W') : DrIn W' b s v v' E C :=
  h.keep (hb.block b h.at_.lt) fun g cur fr hg => hb.block g (Array.getElem?_eq_some_iff.1 hg).1
/-- A change of a block of another kind. -/
theorem DrIn.typed {β : Type} {W W' : World} {b : Nat} {s : ByteArray} {v v' : DrV} {E : RdR β} {C : RdS → RdR β} {p : Option Nat} {t : TypeId} (h : DrIn W b s v v' E C) (hg : W.grownBy W' p) (hp : ∀ g, p = some g → ∃ cur fr, W.heap[g]? = some (.cells cur t fr)) (h1 : t ≠ 84) (h2 : t ≠ 82) : DrIn W' b s v v' E C := by
  have key : ∀ (g : Nat) (cur : Array Value) (t' : TypeId) (fr : Nat × Nat), t ≠ t' → W.heap[g]? = some (.cells cur t' fr) → W'.heap[g]? = W.heap[g]? := fun g cur t' fr hne h => by
    refine hg.block g (Array.getElem?_eq_some_iff.1 h).1 (fun e => ?_)
    obtain ⟨cur', fr', h3⟩ := hp g e.symm
    rw [h] at h3
    injection h3 with h3
    injection h3 with _ h4
    exact hne h4.symm
  exact h.keep (key b _ _ _ h2 h.at_) fun g cur fr hg => key g cur _ fr h1 hg
theorem num7 {β : Type} {W : World} {b : Nat} {s : ByteArray} {v v' : DrV} {E : RdR β} {lo hi : Int} {C : Int × Nat → RdS → RdR β} (h : DrIn W b s v v' E (fun st => (numM s.data.toList lo hi st).bind C)) :
    Calls Tryz.prog 36 #[.pointer (some ⟨b, 0, none⟩), .int .i64 lo, .int .i64 hi] W fun e w' => ∃ n p v'', e = .returned (.tuple #[.int .i64 n, .int .i64 ((p : Nat) : Int)]) ∧ ((lo ≤ n ∧ n ≤ hi) ∨ (n = 0 ∧ ¬ v''.bad = 0)) ∧ (¬ v''.bad = 0 → n = 0) ∧ (¬ v'.bad = 0 → ¬ v''.bad = 0) ∧ (v''.bad = 0 → lenS v''.l + 1 = lenS v'.l) ∧ Gr W w' b ∧ DrIn w' b s v v'' E (C (n, p)) := by
  obtain ⟨hn, ⟨st, ho, hE⟩ | ⟨e, p, hb, hE⟩⟩ := h
  · dsimp only at hE
    refine (num7_ok b s st v' lo hi W ho).mono ?_
    rintro e w' ⟨n, p, v'', rfl, h1, hg, hr, ⟨st', h2, h3⟩ | ⟨e', q, h2, h3, h4⟩⟩
    · exact ⟨n, p, v'', rfl, h1, fun h => absurd h3.fine h, fun h => absurd ho.fine h, fun _ => by rw [h3.lenS.1, ho.lenS.1, numM_len (by rw [size_list]; exact ho.le) h2], hg, hn.trans hr, .inl ⟨st', h3, by rw [hE, h2]; rfl⟩⟩
    · exact ⟨n, p, v'', rfl, h1, fun _ => h4, fun h => absurd ho.fine h, fun h => absurd h h3.bad, hg, hn.trans hr, .inr ⟨e', q, h3, by rw [hE, h2]; rfl⟩⟩
  · refine (num7_done b e p v' lo hi W hb).mono ?_
    rintro e' w' ⟨rfl, ha, hg⟩
    exact ⟨0, 0, v', rfl, .inr ⟨rfl, hb.bad⟩, fun _ => rfl, fun h => h, fun h => absurd h hb.bad, hg, hn, .inr ⟨e, p, ⟨ha, hb.fe, hb.fp, hb.ne⟩, hE⟩⟩
theorem BigD.lg {v : DrV} {st : RdS} (h : BigD v st.big) (hf : v.bad = 0) (is : Bool) (p : Nat) : BigD (lgV is (p : Int) v) (limS is p st).big := by
  unfold lgV limS
  cases hb : st.big with
  | none =>
    rw [hb] at h
    cases is with
    | false => simpa [hb] using h
    | true =>
      rw [if_pos ⟨rfl, h, hf⟩]
      simp [BigD]
  | some q =>
    rw [hb] at h
    have h1 : ¬ v.big = 0 := by have := h.1; omega
    rw [if_neg (by simp [h1])]
    simp [hb]
    exact h
theorem lgV_same (is : Bool) (p : Int) (v : DrV) : (lgV is p v).l = v.l ∧ (lgV is p v).bad = v.bad ∧ (lgV is p v).badAt = v.badAt ∧ (lgV is p v).en = v.en ∧ (lgV is p v).ee = v.ee := by
  unfold lgV; split <;> exact ⟨rfl, rfl, rfl, rfl, rfl⟩
theorem lim7 {β : Type} {W : World} {b : Nat} {s : ByteArray} {v v' : DrV} {E : RdR β} {is : Bool} {p : Nat} {C : RdS → RdR β} (h : DrIn W b s v v' E (fun st => C (limS is p st))) :
    Calls Tryz.prog 35 #[.pointer (some ⟨b, 0, none⟩), .bool is, .int .i64 (p : Int)] W fun e w' => ∃ v'', (∃ u, e = .returned u) ∧ Gr W w' b ∧ (v''.bad = v'.bad ∧ v''.l = v'.l) ∧ DrIn w' b s v v'' E C := by
  refine (large7 b is p v' W h.at_).mono ?_
  rintro e w' ⟨hu, ha, hg⟩
  obtain ⟨k1, k2, k3, k4, k5⟩ := lgV_same is p v'
  refine ⟨_, hu, hg, ⟨k2, k1⟩, h.1.trans (DrNear.lg _ _ _), ?_⟩
  rcases h.2 with ⟨st, ho, hE⟩ | ⟨e, q, hb, hE⟩
  · refine .inl ⟨_, ⟨ha, k2.trans ho.fine, by rw [limS_k]; exact ho.le, ho.fits, ho.big.lg ho.fine is p, ?_, ?_⟩, hE⟩
    · rw [k1, limS_k]
      exact ho.words.keep (KeepD.dr ho.at_ hg)
    · rw [limS_k]
      have := ho.fin
      unfold EndD at this ⊢
      rw [k4, k5]
      exact this
  · exact .inr ⟨e, q, hb.keepAt ha k2 k3, hE⟩
/-- Something is malformed now. -/
theorem bad7 {β : Type} {W : World} {b : Nat} {s : ByteArray} {v v' : DrV} {E : RdR β} {e p : Nat} (hne : e ≠ 0) (h : DrIn W b s v v' E (fun st => .bad e p)) :
    Calls Tryz.prog 38 #[.pointer (some ⟨b, 0, none⟩), .int .i64 (e : Int), .int .i64 (p : Int)] W fun e' w' => ∃ v'' e'' p'', (∃ u, e' = .returned u) ∧ Gr W w' b ∧ DrNear v v'' ∧ DrBad w' b e'' p'' v'' ∧ E = .bad e'' p'' := by
  refine (wrong7 b e p v' W h.at_).mono ?_
  rintro e' w' ⟨hu, ha, hg⟩
  rcases h.2 with ⟨st, ho, hE⟩ | ⟨e1, q, hb, hE⟩
  · rw [wrV_fine ho.fine] at ha
    exact ⟨{ v' with bad := (e : Int), badAt := (p : Int) }, e, p, hu, hg, h.1.trans ⟨rfl, rfl⟩, ⟨ha, rfl, rfl, hne⟩, hE⟩
  · rw [wrV_bad hb.bad] at ha
    exact ⟨_, e1, q, hu, hg, h.1, hb.keepAt ha rfl rfl, hE⟩
end Go.Proofs.YteocbgcgfllieaaGreatDoor
