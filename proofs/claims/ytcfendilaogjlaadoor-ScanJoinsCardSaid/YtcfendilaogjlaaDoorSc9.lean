/- Lemmas of the walks over a scan's words (no statement of its own). -/
import Derived.Test.YtcfendilaogjlaaDoorSc8
namespace Go.Proofs.YtcfendilaogjlaaDoor
open Go.RowKit
set_option linter.unusedVariables false
theorem wordsL_head {l : List UInt8} {q : Nat} {x : Nat × Nat} {r : List (Nat × Nat)} {b : Option Nat} (hq : q ≤ l.length) (h : wordsL l q = (x :: r, b)) : stepW l q = .word x.1 x.2 ∧ wordsL l x.2 = (r, b) ∧ x.1 < x.2 ∧ x.2 ≤ l.length := by
  cases hs : stepW l q with
  | none => rw [wordsL_none hs] at h; cases h
  | bad b => rw [wordsL_bad hs] at h; cases h
  | word f t =>
    have hw := stepW_word hq hs
    rw [wordsL_word hq hs] at h
    injection h with h1 h2
    injection h1 with h3 h4
    subst h3
    exact ⟨rfl, by rw [← h4, ← h2], hw.2.1, hw.2.2.1⟩
theorem wordsL_stop {l : List UInt8} {q : Nat} {b : Option Nat} (hq : q ≤ l.length) (h : wordsL l q = ([], b)) : (b = none ∧ stepW l q = .none) ∨ ∃ t, b = some t ∧ stepW l q = .bad t := by
  cases hs : stepW l q with
  | none => rw [wordsL_none hs] at h; injection h with _ h; exact .inl ⟨h.symm, rfl⟩
  | bad t => rw [wordsL_bad hs] at h; injection h with _ h; exact .inr ⟨t, h.symm, rfl⟩
  | word f t => rw [wordsL_word hq hs] at h; injection h with h1 _; cases h1
def byteZ (s : ByteArray) (j : Nat) : Int := ((s.data.toList[j]?.getD 0).toNat : Int)
theorem byteZ_bd (s : ByteArray) (j : Nat) : 0 ≤ byteZ s j ∧ byteZ s j ≤ 255 := by
  have := (s.data.toList[j]?.getD 0).toNat_lt
  unfold byteZ
  omega
theorem byteZ_at (s : ByteArray) (j : Nat) (h : j < s.size) : byteZ s j = (s[j].toNat : Int) := by
  have hj' : j < s.data.toList.length := by rw [size_list]; exact h
  unfold byteZ
  rw [List.getElem?_eq_getElem hj']
  rfl
theorem strZ_of (s : ByteArray) : strZ (byteZ s) s.size = s := by
  apply ByteArray.ext
  apply Array.toList_inj.1
  unfold strZ
  apply List.ext_getElem
  · (simp; try rfl)
  · intro i h1 h2
    have h3 : i < s.data.toList.length := h2
    simp only [List.getElem_map, List.getElem_range]
    unfold byteZ
    rw [List.getElem?_eq_getElem h3]
    simp
theorem BS.bytes {w : World} {A : Option Addr} {s : ByteArray} (h : BS w A s) : Bytes w A s.size (byteZ s) := by
  intro j hj
  rcases h with ⟨_, h0⟩ | ⟨g, o, rfl, hg, hb⟩
  · omega
  · refine ⟨_, rfl, hg, ?_, byteZ_bd s j⟩
    have h1 := hb j hj
    have e : (⟨g, o, none⟩ : Addr).add j = ⟨g, o + j, none⟩ := by unfold Addr.add; split <;> simp_all
    rw [e, h1, byteZ_at s j hj]
/-- cut of bytes that are not too many. -/
theorem cut_own (A : Option Addr) (c : Nat) (s : ByteArray) (w : World) (hs : s.size ≤ 200) (hc : s.size ≤ c) (hA : A = none → c = 0) (h : BS w A s) :
    Calls Tryd.prog 10 #[.slice A s.size c] w fun e w' => (∃ v, e = .returned v ∧ OwnB w' w.heap.size v s) ∧ Below w.heap.size w w' := by
  have k := cut_any A s.size c _ w hc (by omega) (fun e => ⟨by have := hA e; omega, hA e⟩) h.bytes
  have e : min s.size 200 = s.size := by omega
  rw [e, strZ_of] at k
  exact k
theorem OwnB.cap {w : World} {base n c : Nat} {A : Option Addr} {s : ByteArray} (h : OwnB w base (.slice A n c) s) : s.size ≤ c ∧ (A = none → c = 0) := by
  obtain ⟨hl, ⟨e, hn⟩ | ⟨g, cap, cur, e, hb, hh, hm, _⟩⟩ := h
  · injection e with e1 e2 e3
    subst e1
    exact ⟨by omega, fun _ => e3⟩
  · injection e with e1 e2 e3
    subst e1
    exact ⟨by omega, fun h => by cases h⟩
theorem wordsN_len {l : List UInt8} : ∀ (n k : Nat), k ≤ l.length → (wordsN n l k).1.length + k ≤ l.length := by
  intro n
  induction n with
  | zero => intro k hk; simpa [wordsN] using hk
  | succ n ih =>
    intro k hk
    unfold wordsN
    cases hs : stepW l k with
    | none => simpa using hk
    | bad b => simpa using hk
    | word f t =>
      have h1 := stepW_word hk hs
      have h2 := ih t h1.2.2.1
      simp
      omega
theorem wordsL_len (s : ByteArray) : (wordsL s.data.toList 0).1.length ≤ s.size := by
  have := wordsN_len (l := s.data.toList) (s.data.toList.length + 1) 0 (Nat.zero_le _)
  rw [size_list] at this
  unfold wordsL
  rw [size_list]
  omega
theorem below_grownO {w X Y : World} {B : Nat} {row : Option Nat} (h : Below B w X) (hg : X.grownBy Y row) (hB : B ≤ w.heap.size) (hr : ∀ g, row = some g → B ≤ g) : Below B w Y :=
  ⟨hg.os.trans h.os, hg.tape.trans h.tape, hg.output.trans h.output, Nat.le_trans h.size hg.size, fun k hk =>
    (hg.block k (by have := h.size; omega) (fun e => by have := hr k e.symm; omega)).trans (h.block k hk)⟩
theorem own_block {A : Option Addr} {n c g : Nat} (h : Value.ownBlock (.slice A n c) = some g) : ∃ a, A = some a ∧ a.block = g := by
  cases A with
  | none => cases h
  | some a => injection h with h; exact ⟨a, rfl, h⟩
theorem BS.lt {w : World} {A : Option Addr} {s : ByteArray} (h : BS w A s) {a : Addr} (e : A = some a) : a.block < w.heap.size := by
  rcases h with ⟨h, _⟩ | ⟨g, o, h, hg, _⟩
  · rw [h] at e; cases e
  · rw [h] at e
    injection e with e
    subst e
    exact hg
end Go.Proofs.YtcfendilaogjlaaDoor
