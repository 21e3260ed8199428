/- A trail in memory that was made since a world: its calls, and its cells laid from a list (no statement of its own). -/
import Derived.Test.YtafcecacldafgaaTrX
import Derived.Deep.Cut
import Derived.Deep.CutRange
namespace Go.Proofs.Ytafcecacldafgaa
open Go.RowKit
set_option linter.unusedVariables false
/-- A trail all of whose blocks are newer than the world w0; older ones are as they were. -/
structure On (w0 w : World) (b n : Nat) (C : List Int) (M : List (List Int)) : Prop where
  st : St w b n (fun k => w0.heap.size ≤ k) C M
  kp : Kp (fun k => w0.heap.size ≤ k) w0 w
theorem On.below {w0 w : World} {b n : Nat} {C : List Int} {M : List (List Int)} (h : On w0 w b n C M) : Below w0.heap.size w0 w := h.kp.below (fun _ _ q => q) (Nat.le_refl _)
theorem On.more {w0 w : World} {b n k : Nat} {C : List Int} {M : List (List Int)} (h : On w0 w b n C M) (hk : n ≤ k) : On w0 w b k C M := ⟨h.st.more hk, h.kp⟩
theorem On.grown {w0 w w' : World} {b n : Nat} {C : List Int} {M : List (List Int)} (h : On w0 w b n C M) (hg : w.grownBy w' none) : On w0 w' b n C M := ⟨h.st.grown hg, h.kp.trans (Kp.none hg)⟩
def AndOn (w0 : World) (b n : Nat) (C : List Int) (M : List (List Int)) (v : Value) (e : Ending) (w' : World) : Prop := e = .returned v ∧ On w0 w' b n C M
theorem AndS.on {w0 w w' : World} {b n m : Nat} {C D : List Int} {M L : List (List Int)} {v : Value} {e : Ending} (h : AndS (fun k => w0.heap.size ≤ k) w b n C M v e w') (ho : On w0 w b m D L) : AndOn w0 b n C M v e w' :=
  have hs := h.step ho.kp (fun _ _ q => q) (fun k q => Nat.le_trans ho.kp.size q)
  ⟨h.e, hs.1, hs.2⟩
theorem new_on (n : Int) (N : Nat) (w : World) (hN : max n 0 = (N : Int)) :
    Calls Try.prog 10 #[.int .i64 n] w (AndOn w (w.heap.size + 1) 0 (List.replicate N 0) [] (.pointer (some ⟨w.heap.size + 1, 0, none⟩))) :=
  (new_st n N w hN).mono fun e w' h => ⟨h.e, h.st.mono fun k _ q => q.elim False.elim id, h.kp.mono fun k _ q => q.elim⟩
theorem set_on {w0 w : World} {b n i : Nat} {C : List Int} {M : List (List Int)} (h : On w0 w b n C M) (v : Int) (hi : i < C.length) (hn : n < 1000000) (hC : C.length ≤ 2097152) :
    Calls Try.prog 17 #[.pointer (some ⟨b, 0, none⟩), .int .i64 (i : Int), .int .i64 v] w (AndOn w0 b (n + 1) (C.set i v) M (.int .i64 0)) :=
  (set_st h.st v hi hn hC).mono fun e w' q => q.on h
theorem mark_on {w0 w : World} {b n : Nat} {C : List Int} {M : List (List Int)} (h : On w0 w b n C M) (hn : n < 1000000) :
    Calls Try.prog 16 #[.pointer (some ⟨b, 0, none⟩)] w (AndOn w0 b (n + 1) C (M ++ [C]) (.int .i64 (M.length : Int))) :=
  (mark_st h.st hn).mono fun e w' q => q.on h
theorem grow_on {w0 w : World} {b n k : Nat} {i : Int} {C : List Int} {M : List (List Int)} (h : On w0 w b n C M) (hk : max i 0 = (k : Int)) (hk2 : k < 1000000) (hC : C.length < 1000000) :
    Calls Try.prog 24 #[.pointer (some ⟨b, 0, none⟩), .int .i64 i] w (AndOn w0 b n (C ++ List.replicate k 0) M (.int .i64 (C.length : Int))) :=
  (grow_st h.st hk hk2 hC).mono fun e w' q => q.on h
theorem undo_on {w0 w : World} {b n m : Nat} {C : List Int} {M : List (List Int)} (h : On w0 w b n C M) (hm : m < M.length) (hn : n < 1000000) (hC : C.length ≤ 2097152) :
    Calls Try.prog 19 #[.pointer (some ⟨b, 0, none⟩), .int .i64 (m : Int)] w (AndOn w0 b n M[m] (M.take m) (.int .i64 0)) :=
  (undo_st h.st hm hn hC).mono fun e w' q => q.on h
/-- What the cells are while they are laid from a list. -/
def laid (l : List Int) (k : Nat) : List Int := l.take k ++ List.replicate (l.length - k) 0
theorem laid_len (l : List Int) (k : Nat) (h : k ≤ l.length) : (laid l k).length = l.length := by simp [laid]; omega
theorem laid_zero (l : List Int) (n : Nat) (h : l.length = n) : laid l 0 = List.replicate n 0 := by simp [laid, h]
theorem laid_all (l : List Int) : laid l l.length = l := by simp [laid]
theorem laid_succ (l : List Int) (k : Nat) (h : k < l.length) : (laid l k).set k (nthI l k) = laid l (k + 1) := by
  refine List.ext_getElem (by rw [List.length_set, laid_len _ _ (by omega), laid_len _ _ h]) fun i h1 h2 => ?_
  rw [List.getElem_set]
  simp only [laid, List.getElem_append, List.getElem_take, List.length_take, List.getElem_replicate]
  by_cases e : k = i
  · subst e
    simp only [if_true]
    rw [dif_pos (by omega), nthI_get l k h]
  · rw [if_neg e]
    by_cases hl : i < k
    · rw [dif_pos (by omega), dif_pos (by omega)]
    · rw [dif_neg (by omega), dif_neg (by omega)]
theorem OwnL.belowL {w w' : World} {B : Nat} {v : Value} {l : List Int} (h : OwnL w B v l) (hb : Below w.heap.size w w') : OwnL w' B v l := h.block fun g hg => hb.block g (World.ownsRow.lt h g hg).2
theorem OwnL.srcL {w : World} {B n c : Nat} {A : Option Addr} {l : List Int} (h : OwnL w B (.slice A n c) l) : SrcL w A l := h.src.1
end Go.Proofs.Ytafcecacldafgaa
