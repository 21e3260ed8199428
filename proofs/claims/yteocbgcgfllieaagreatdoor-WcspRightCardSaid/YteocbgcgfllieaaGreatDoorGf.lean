/- Right of a file of one function that fits (no statement of its own). -/
import Derived.Test.YteocbgcgfllieaaGreatDoorGe
namespace Go.Proofs.YteocbgcgfllieaaGreatDoor
open Go.RowKit
set_option linter.unusedVariables false
theorem ints_zs {w : World} {A : Option Addr} {l : List Nat} (h : Zs w A l.length (fun i => (nth l i : Int))) : Ints w A l := by
  rcases h with h | h
  · exact .inl (List.length_eq_zero_iff.1 h)
  · exact .inr h
theorem zs_block {w : World} {A : Option Addr} {l : List Nat} (h : Ints w A l) : l ≠ [] → ∀ a : Addr, A = some a → a.block < w.heap.size := by
  intro hn a e
  rcases h with h | ⟨g, o, rfl, hg, -⟩
  · exact absurd h hn
  · injection e with e
    subst e
    exact hg
theorem fun6 {k o : Int} {sizes sc : List Nat} (hb : ∀ v ∈ sc, v < sizes.length) (hp : sc.Pairwise (· ≠ ·)) (ho : InK o k) : FunOk sizes ⟨sc, o, []⟩ :=
  ⟨hb, hp, ⟨ho.2.2.1, by show o ≤ farZ; have := ho.2.2.2; have := ho.2.1; unfold farZ; omega⟩, linesOk_nil _⟩
theorem right_fit (fb gf : Nat) (X : ByteArray) (k : Int) (As : Option Addr) (sizes : List Nat) (cs : Nat) (Asc : Option Addr) (sc : List Nat) (csc : Nat) (g mb : Nat) (A : Option Addr) (c : Nat) (o : Int) (w : World)
    (H : RF6 w fb gf X k As sizes.length cs (fun i => (nth sizes i : Int)) Asc sc.length csc (fun i => (nth sc i : Int)) (.pointer (some ⟨g, 0, none⟩)))
    (hT : TpAt w g mb A c 0 (pickN sizes sc) k o (fun _ => o)) (hA : ∀ a : Addr, A = some a → a.block < w.heap.size) (ho : InK o k) (hcap : sc.length ≤ csc) (hx : X.size ≤ 80) (hm : sizes.length ≤ 70) (h0 : 0 < sizes.length) (hs : ∀ x ∈ sizes, 1 ≤ x ∧ x ≤ 32) (hw : WordX X) (hb : ∀ v ∈ sc, v < sizes.length) (hp : sc.Pairwise (· ≠ ·)) (h5 : sc.length ≤ 5) :
    Calls Tryz.prog 23 #[.pointer (some ⟨fb, 0, none⟩)] w fun e w' => e = .returned (.int .i64 (if X.size ≤ 64 ∧ sizes.length ≤ 64 ∧ cntM (pickN sizes sc) 1 ≤ 4096 then 0 else 5)) ∧ Below w.heap.size w w' := by
  have hk : 1 ≤ k ∧ k ≤ 2147483648 := ⟨ho.1, ho.2.1⟩
  have FE : ∀ W, Below w.heap.size w W → FunE W k sizes ⟨sc, o, []⟩ (fun j => j < W.heap.size) (.slice Asc sc.length csc) (.pointer (some ⟨g, 0, none⟩)) := fun W hW => by
    have hTW := hT.below hW
    have hmin : min o k = o := by have := ho.2.2.2; omega
    have hf : funF k ⟨sc, o, []⟩ = fun _ => o := by unfold funF; rw [hmin]; rfl
    refine ⟨Asc, csc, g, mb, A, c, 0, rfl, hcap, rfl, ints_zs (H.scs.below hW (Nat.le_refl _)), ?_, Nat.zero_le _, (Array.getElem?_eq_some_iff.1 hTW.row).1, hTW.lt, fun a e => Nat.lt_of_lt_of_le (hA a e) hW.size, zs_block (ints_zs (H.scs.below hW (Nat.le_refl _)))⟩
    show TpAt W g mb A c 0 (pickN sizes sc) k (min o k) (funF k ⟨sc, o, []⟩)
    rw [hmin, hf]
    exact hTW
  have FR : ∀ W, Below w.heap.size w W → FileR W fb X k sizes [⟨sc, o, []⟩] As (some ⟨gf, 0, none⟩) cs 1 := fun W hW => by
    have HW := H.below hW
    refine ⟨HW.row, ints_zs HW.szs, fun i f hf => ?_⟩
    rcases i with _ | i
    · simp at hf
      subst hf
      exact ⟨gf, _, _, rfl, (Array.getElem?_eq_some_iff.1 HW.fn).1, HW.fcells.1, HW.fcells.2, FE W hW⟩
    · simp at hf
  have FO := fun6 hb hp ho
  have hM : ∀ W, Below w.heap.size w W → Calls Tryz.prog 56 #[.pointer (some ⟨fb, 0, none⟩), .agg #[.slice Asc sc.length csc, .pointer (some ⟨g, 0, none⟩)]] W fun e w' => e = .returned (.bool false) ∧ Below W.heap.size W w' := fun W hW =>
    misfitS fb cs 1 X k sizes _ As _ ⟨sc, o, []⟩ _ _ W (FR W hW) (FE W hW) hs (by omega) FO ⟨(by show sc.length ≤ 6; omega), trivial⟩
  have hz : ∀ i, i < sizes.length → 1 ≤ (nth sizes i : Int) ∧ (nth sizes i : Int) ≤ 32 := fun i hi => by have := hs _ (nth_mem hi); omega
  by_cases hl : X.size ≤ 64
  · by_cases hn : sizes.length ≤ 64
    · by_cases hc : cntM (pickN sizes sc) 1 ≤ 4096
      · rw [if_pos ⟨hl, hn, hc⟩]
        refine rightF fb cs 1 X k sizes _ As _ w (FR w (Below.refl _ _)) ⟨hw, hl, hk, hs, ⟨h0, hn⟩, by simp, fun f hf => ?_, by simp⟩
        rw [List.mem_singleton] at hf
        subst hf
        exact ⟨FO, (by show sc.length ≤ 6; omega), hc⟩
      · rw [if_neg (fun h => hc h.2.2)]
        exact right_great fb gf X k As _ cs _ Asc _ csc _ _ w H hx hm hw hk h0 hz hM (fun W hW => great_yes k sizes ⟨sc, o, []⟩ _ _ W (FE W hW) hs FO ⟨(by show sc.length ≤ 6; omega), by show 4096 < cntM (pickN sizes sc) 1; omega⟩) hl hn
    · rw [if_neg (fun h => hn h.2.1)]
      exact right_many fb gf X k As _ cs _ Asc _ csc _ _ w H hx hm hw hk h0 hz hM hl (by omega)
  · rw [if_neg (fun h => hl h.1)]
    exact right_long fb gf X k As _ cs _ Asc _ csc _ _ w H hx hm hw hk h0 hz hM (by omega)
end Go.Proofs.YteocbgcgfllieaaGreatDoor
