/- Forget, for the laws' walks (no statement of its own). -/
import Derived.Test.YtafcecacldafgaaTnB
import Derived.Test.YtafcecacldafgaaTrZ
namespace Go.Proofs.Ytafcecacldafgaa
open Go.RowKit
set_option linter.unusedVariables false
theorem forget_any {P : Nat → Prop} {w : World} {b n m : Nat} {T : Tr} {C : List Int} {S : List (List Cl)} (h : TA P w b T) (hr : Rel n T C S) (hP : ∀ k, w.heap.size ≤ k → P k) (hn : n < 1000000) (hm : m < S.length) :
    Calls Try.prog 23 #[.pointer (some ⟨b, 0, none⟩), .int .i64 (m : Int)] w (AndT P w b (T.forget m) (.int .i64 0)) := by
  obtain ⟨v1, v2, v3, mm, h1, h2⟩ := h.parts
  have hkp := hr.inv.kp m hm
  have hml := hr.mlen
  have hnm := hr.nmk
  have hnk := hr.nkp
  obtain ⟨kp, hkp'⟩ : ∃ kp : Nat, (nth3 T.marks m).2.2 = (kp : Int) := ⟨(nth3 T.marks m).2.2.toNat, by omega⟩
  rcases h2.r3.2 with ⟨rfl, h0⟩ | ⟨g, cap, cur, rfl, _⟩
  · have hke : T.kept = [] := List.eq_nil_of_length_eq_zero h0
    have h00 : kp = 0 := by rw [hke] at hkp; simp at hkp; omega
    subst h00
    exact forget_none h1 h2 hP (by omega) (by omega) (by omega) hkp' hke
  · exact forget_some h1 h2 hP (by omega) (by omega) (by omega) hkp' (by omega)
theorem forget_st {w : World} {b n m : Nat} {Q : Nat → Prop} {C : List Int} {M : List (List Int)} (h : St w b n Q C M) (hm : m < M.length) (hn : n < 1000000) :
    Calls Try.prog 23 #[.pointer (some ⟨b, 0, none⟩), .int .i64 (m : Int)] w (AndS Q w b n C (M.take m) (.int .i64 0)) := by
  obtain ⟨T, S, h1, h2, h4, rfl⟩ := h
  have hm' : m < S.length := by simpa using hm
  have e : (S.map (List.map Prod.fst)).take m = (S.take m).map (List.map Prod.fst) := List.map_take.symm
  rw [e]
  exact (forget_any (h1.mono (Q := Plus Q w) fun k _ q => .inl q) h2 (fun k hk => .inr hk) hn hm').mono fun e w' q => AndS.of (h2.forget hm') (h4.forget h2 hm') q
theorem forget_on {w0 w : World} {b n m : Nat} {C : List Int} {M : List (List Int)} (h : On w0 w b n C M) (hm : m < M.length) (hn : n < 1000000) :
    Calls Try.prog 23 #[.pointer (some ⟨b, 0, none⟩), .int .i64 (m : Int)] w (AndOn w0 b n C (M.take m) (.int .i64 0)) :=
  (forget_st h.st hm hn).mono fun e w' q => q.on h
end Go.Proofs.Ytafcecacldafgaa
