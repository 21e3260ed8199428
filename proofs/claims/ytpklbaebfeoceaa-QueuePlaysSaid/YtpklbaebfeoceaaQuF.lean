/- Contracts of ContainsFunc, of queue's Clear, and a queue beside a list of the document's (no statement of its own). -/
import Derived.Test.YtpklbaebfeoceaaQuE
namespace Go.Proofs.Ytpklbaebfeoceaa
open Go.RowKit
open Go.Maps (Keyed)
set_option linter.unusedVariables false
theorem clos_any (a p x : Int) (q : Addr) (w : World) (hq : w.cell? q = some (.int .i64 x)) (hlt : q.block < w.heap.size) :
    Calls Try.prog 20 #[.agg #[.int .i64 a, .int .i64 p], .pointer (some q)] w fun e w' => e = .returned (.bool (a == x)) ∧ w.grownBy w' none := by
  have c0 : (w.alloc (.cells #[.int .i64 a, .int .i64 p] 33)).cell? q = some (.int .i64 x) := by
    rw [World.cell?_of_block (w := w) (Below.heap_alloc _ _ _ hlt)]; exact hq
  have HG := Lib.hid (World.grownBy_alloc w (.cells #[.int .i64 a, .int .i64 p] 33) none)
  clear hq
  go_enter Try.func20, Try.ntmps20
  go_wp2_with fail
  go_ret
  exact ⟨rfl, HG.out⟩
def IdxP (L : List It) (x : Int) (w : World) (e : Ending) (w' : World) : Prop := w.grownBy w' none ∧ ∃ r : Int, e = .returned (.int .i64 r) ∧ decide (0 ≤ r) = hasK L x
theorem hasK_nth {L : List It} {x : Int} {k : Nat} (hk : k < L.length) (e : (nth L k).1 = x) : hasK L x = true := hasK_iff.2 ⟨nth L k, mem_nth.2 ⟨k, hk, rfl⟩, e⟩
set_option maxRecDepth 100000 in
set_option maxHeartbeats 4000000 in
theorem idx_any {B : Nat} {v : Value} {L : List It} {x : Int} {w : World} (q : Addr) (h : LI w B v L) (hl : L.length < 100000) (hq : w.cell? q = some (.int .i64 x)) (hqb : q.block < w.heap.size) :
    Calls Try.prog 24 #[v, .func (.func 20) #[] #[.pointer (some q)]] w (IdxP L x w) := by
  obtain ⟨A, c, rfl, hA⟩ := h.form
  have HI := Lib.hid h
  have HA := Lib.hid hA
  have HQ := Lib.hid hq
  clear h hA hq
  go_enter Try.func24, Try.ntmps24
  go_wp2_with fail
  go_loopw [8] (fun i wr => ∃ k : Nat, k ≤ L.length ∧ i = .int .i64 (k : Int) ∧ w.grownBy wr none ∧ ∀ t, t < k → (nth L t).1 ≠ x) (fun i _ => L.length - (intOf i).toNat)
  case atStart => exact ⟨0, Nat.zero_le _, rfl, World.grownBy_alloc_refl w, fun t ht => absurd ht (Nat.not_lt_zero t)⟩
  case round =>
    obtain ⟨k, hk, rfl, hg, hst⟩ := hrel
    have HG := Lib.hid hg
    have HST := Lib.hid hst
    clear hst
    by_cases hlt : k < L.length
    · obtain ⟨g, hAe, hg1, hg2⟩ := HA.out (by omega)
      have hLI := (show LI wr B (.slice (some ⟨g, 0, none⟩) L.length c) L from by rw [← hAe]; exact HI.out.kept0 hg)
      have d0 := hLI.at0 k hlt
      have d1 := hLI.at1 k hlt
      have hqw : wr.cell? q = some (.int .i64 x) := (World.cell?_of_block (w := w) (hg.block q.block hqb (by simp))).trans HQ.out
      have C1 := Lib.hid (clos_any (nth L k).1 (nth L k).2 x q wr hqw (Nat.lt_of_lt_of_le hqb hg.size))
      have HK := Lib.hid (fun e => hasK_nth hlt (x := x) e)
      have HS2 : Hid ((nth L k).1 ≠ x → ∀ t, t < k + 1 → (nth L t).1 ≠ x) := Lib.hid fun e t ht => by
        by_cases q : t = k
        · rw [q]; exact e
        · exact HST.out t (by omega)
      generalize hx1 : (nth L k).1 = x1 at *
      generalize hp1 : (nth L k).2 = p1 at *
      subst hAe
      clear hLI hg hg1 hg2 hx1 hp1 hqw
      by_cases e : x1 = x
      · have hE := Lib.hid (HK.out e)
        have e1 : (x1 == x) = true := by simp [e]
        rw [e1] at C1
        clear e e1 HK
        go_wp2_with (go_at_call 20; refine C1.out.mono ?_; rintro e w' ⟨rfl, hg⟩)
        go_ret
        exact ⟨HG.out.trans hg, _, rfl, by rw [hE.out]; simp⟩
      · have hE := Lib.hid (HS2.out e)
        have e1 : (x1 == x) = false := by simp [e]
        rw [e1] at C1
        clear e e1 HK
        go_wp2_with (go_at_call 20; refine C1.out.mono ?_; rintro e w' ⟨rfl, hg⟩)
        have HG2 := Lib.hid (HG.out.trans hg)
        clear hg
        go_roundw
        case rel => exact ⟨k + 1, by omega, by go_num, HG2.out, hE.out⟩
        case measure => simp [intOf]; omega
    · have e : k = L.length := by omega
      have HE : Hid (hasK L x = false) := by
        refine Lib.hid ?_
        cases hh : hasK L x with
        | false => rfl
        | true =>
          obtain ⟨y, hy, q⟩ := hasK_iff.1 hh
          obtain ⟨t, ht, r⟩ := mem_nth.1 hy
          exact absurd (by rw [r]; exact q) (HST.out t (by omega))
      clear e hg
      go_wp2_with fail
      go_ret
      exact ⟨HG.out, _, rfl, by rw [HE.out]; rfl⟩
def ConP (r : Bool) (w : World) (e : Ending) (w' : World) : Prop := e = .returned (.bool r) ∧ w.grownBy w' none
theorem con_any {B : Nat} {v : Value} {L : List It} {x : Int} {w : World} (q : Addr) (h : LI w B v L) (hl : L.length < 100000) (hq : w.cell? q = some (.int .i64 x)) (hqb : q.block < w.heap.size) :
    Calls Try.prog 19 #[v, .func (.func 20) #[] #[.pointer (some q)]] w (ConP (hasK L x) w) := by
  have C := Lib.hid (idx_any q h hl hq hqb)
  clear h hq
  go_enter Try.func19, Try.ntmps19
  go_wp2_with (go_at_call 24; refine C.out.mono ?_)
  rintro e w' ⟨hg, r, rfl, hr⟩
  have HG := Lib.hid hg
  have HR := Lib.hid hr
  clear hg hr C
  go_wp2_with fail
  go_ret
  exact ⟨sret_bool HR.out, HG.out⟩
end Go.Proofs.Ytpklbaebfeoceaa
