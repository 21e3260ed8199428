/- Words joined with blanks: the maths, and the appends, of ScanJoins (no statement of its own). -/
import Derived.Test.YtcfendilaogjlaaDoorSc9
import Derived.Lib.AppendStr
namespace Go.Proofs.YtcfendilaogjlaaDoor
open Go.RowKit
set_option linter.unusedVariables false
theorem OwnB.apart {w : World} {b b' : Nat} {p v : Value} {s s' : ByteArray} {ws : List (Nat × Nat)} (hB : OwnB w b p s) (hW : OwnW w b' v s' ws) : p.ownBlock = none ∨ p.ownBlock ≠ v.ownBlock := by
  rcases hB.2 with ⟨rfl, _⟩ | ⟨g, cap, cur, rfl, _, hg, _⟩
  · exact .inl rfl
  · rcases hW.2 with ⟨rfl, _⟩ | ⟨g', cap', cur', rfl, _, hg', _⟩
    · right; intro e; cases e
    · right
      intro e
      have e : g = g' := by simpa [Value.ownBlock] using e
      subst e
      rw [hg] at hg'
      have := Option.some.inj hg'
      injection this with _ h
      revert h
      decide
theorem OwnB.keptW {w w' : World} {b b' : Nat} {p v : Value} {s s' : ByteArray} {ws : List (Nat × Nat)} (hB : OwnB w b p s) (hW : OwnW w b' v s' ws) (hg : w.grownBy w' v.ownBlock) : OwnB w' b p s :=
  World.ownsRow.kept hB hg (hB.apart hW)
theorem OwnW.keptB {w w' : World} {b b' : Nat} {p v : Value} {s s' : ByteArray} {ws : List (Nat × Nat)} (hW : OwnW w b' v s' ws) (hB : OwnB w b p s) (hg : w.grownBy w' p.ownBlock) : OwnW w' b' v s' ws := by
  refine World.ownsRow.kept hW hg ?_
  rcases hB.apart hW with h | h
  · cases hv : v.ownBlock with
    | none => exact .inl rfl
    | some k => right; rw [h]; intro e; cases e
  · exact .inr fun e => h e.symm
theorem app_list (s x : ByteArray) : (s ++ x).data.toList = s.data.toList ++ x.data.toList := by simp
theorem app_size (s x : ByteArray) : (s ++ x).size = s.size + x.size := by rw [← size_list, app_list, List.length_append, size_list, size_list]
theorem extract_in (s x : ByteArray) (f t : Nat) (h : t ≤ s.size) : (s ++ x).extract f t = s.extract f t := by
  apply ByteArray.ext
  apply Array.toList_inj.1
  simp
  left
  omega
theorem extract_new (s x : ByteArray) : (s ++ x).extract s.size (s.size + x.size) = x := by
  apply ByteArray.ext
  apply Array.toList_inj.1
  have hs := size_list s
  have hx := size_list x
  simp
  rw [List.drop_eq_nil_of_le (by omega), ← hx, List.take_length, List.take_nil, List.nil_append]
theorem wC_app (s x : ByteArray) (ws : List (Nat × Nat)) (h : ∀ y ∈ ws, y.2 ≤ s.size) : wC (s ++ x) ws = wC s ws := by
  unfold wC
  induction ws with
  | nil => rfl
  | cons y ws ih =>
    rw [List.flatMap_cons, List.flatMap_cons, ih (fun z hz => h z (List.mem_cons_of_mem _ hz))]
    congr 1
    unfold encW
    rw [extract_in _ _ _ _ (h y (List.mem_cons_self ..))]
/-- Whatever follows, these are the words so far. -/
def INV (s : ByteArray) (ws : List (Nat × Nat)) : Prop := ∀ x : List UInt8, wordsL (s.data.toList ++ x) 0 = (ws ++ (wordsL (s.data.toList ++ x) s.size).1, (wordsL (s.data.toList ++ x) s.size).2)
theorem INV.nil : INV ⟨#[]⟩ [] := fun x => rfl
theorem INV.done {s : ByteArray} {ws : List (Nat × Nat)} (h : INV s ws) : wordsL s.data.toList 0 = (ws, none) := by
  have h1 := h []
  rw [List.append_nil, ← size_list, wordsL_end, List.append_nil] at h1
  exact h1
theorem INV.blank {s : ByteArray} {ws : List (Nat × Nat)} (h : INV s ws) (b : UInt8) (hb : isB b.toNat = true) : INV (s ++ ⟨#[b]⟩) ws := by
  intro x
  have h1 := h (b :: x)
  have e : (s ++ ⟨#[b]⟩).data.toList ++ x = s.data.toList ++ b :: x := by rw [app_list]; simp
  have hk : s.size < (s.data.toList ++ b :: x).length := by rw [List.length_append, size_list]; simp
  have hg : (s.data.toList ++ b :: x)[s.size] = b := by
    rw [List.getElem_append_right (by rw [size_list]; exact Nat.le_refl _)]
    simp
  rw [e, h1, wordsL_skip hk (by rw [hg]; exact hb), app_size]
  rfl
theorem INV.word {s E : ByteArray} {ws : List (Nat × Nat)} (h : INV s ws) (b : UInt8) (hb : isB b.toNat = true) (hE : 0 < E.size) (hp : E.data.toList.all (fun c => isW c.toNat) = true) :
    INV (s ++ E ++ ⟨#[b]⟩) (ws ++ [(s.size, s.size + E.size)]) := by
  intro x
  have h1 := h (E.data.toList ++ b :: x)
  have e : (s ++ E ++ ⟨#[b]⟩).data.toList ++ x = s.data.toList ++ (E.data.toList ++ b :: x) := by rw [app_list, app_list]; simp
  have hk : s.size + E.size < (s.data.toList ++ (E.data.toList ++ b :: x)).length := by rw [List.length_append, List.length_append, size_list, size_list]; simp
  have hg : (s.data.toList ++ (E.data.toList ++ b :: x))[s.size + E.size] = b := by
    rw [List.getElem_append_right (by rw [size_list]; omega), List.getElem_append_right (by simp)]
    simp
  have ho : OpenW (s.data.toList ++ (E.data.toList ++ b :: x)) s.size (s.size + E.size) := by
    refine ⟨by omega, by omega, fun j hj a b' => ?_⟩
    rw [List.getElem_append_right (by rw [size_list]; omega), List.getElem_append_left (by simp; omega)]
    exact List.all_eq_true.1 hp _ (List.getElem_mem _)
  rw [e, h1, ho.close hk (by rw [hg]; exact hb), app_size, app_size, show (⟨#[b]⟩ : ByteArray).size = 1 from rfl]
  simp
end Go.Proofs.YtcfendilaogjlaaDoor
