/- Contract of Of of nil (no statement of its own). No condition. -/
import Derived.Test.YtliafkcogmpghaaUs
namespace Go.Proofs.Ytliafkcogmpghaa
open Go.RowKit Go.Maps
set_option linter.unusedVariables false
attribute [local go_sem] Oper.semAt_some
theorem HoldOf.below {wb W : World} {B : Nat} (H : HoldOf wb B W) : Below wb.heap.size wb W := H.2
set_option maxRecDepth 100000 in
set_option maxHeartbeats 1000000 in
theorem tpof_nil (w : World) : Calls Try.prog 29 #[.pointer none] w fun e w' => e = .returned (.pointer none) ∧ Below w.heap.size w w' := by
  have n1 := Lib.hid (new_val w (.cells #[.slice none 0 0] 32))
  have hc : (w.alloc (.cells #[.slice none 0 0] 32)).cell? ⟨w.heap.size, 0, none⟩ = some (.slice none 0 0) := lit_new _ _ _
  refine (callsIn_wide (n := 3)).1 (callsIn_of_wp_marks Try.func29 rfl trivial ?_ rfl)
  simp only [Try.ntmps29, List.size_toArray, List.length_cons, List.length_nil, Nat.reduceAdd, Nat.reduceSub, Array.replicate_succ, Array.replicate_zero, List.push_toArray, List.append_toArray, List.nil_append, List.cons_append]
  refine wpIn_wide.2 ?_
  go_upto_region 2 with (go_at_call 38; refine (tentries_nil _).mono ?_; rintro e w' ⟨rfl, rfl⟩)
  have HH : Hid (HoldOf w w.heap.size ((w.alloc (.cells #[.slice none 0 0] 32)).drew)) := Lib.hid ⟨hc, n1.out.drew⟩
  have hsz : ((w.alloc (.cells #[.slice none 0 0] 32)).drew).heap.size = w.heap.size + 1 := by show (w.alloc _).heap.size = _; simp
  go_region_held3 (fun W => HoldOf w w.heap.size W) (first | exact HH.out | assumption | exact HoldOf.next (by assumption) (by assumption) | exact HoldOf.next (by assumption) (new_val _ _) | exact HoldOf.set (by assumption) (by assumption) _)
    ((first
      | (go_at_call 45; refine (tshape_nil _).mono ?_; rintro e w1 ⟨rfl, hb1⟩; (first | (have k4 : KB w w1 (w.heap.size + 1) := hsz ▸ KB.new (W := (w.alloc (.cells #[.slice none 0 0] 32)).drew) (by assumption) hb1) | skip))
      | (go_at_call 46; refine (sizes_any [] _ (by simp)).mono ?_; rintro e w2 ⟨⟨v2, rfl, hO2⟩, hb2⟩; obtain ⟨A2, c2, rfl, hI2⟩ := hO2.form; (first | (have k4 := KB.new (by assumption) hb2) | (have k4 := KB.next (by assumption) hb2) | skip))
      | (go_at_call 47; refine (tk_nil _).mono ?_; rintro e w' ⟨rfl, rfl⟩)
      | (go_at_call 48; refine (most_nil _).mono ?_; rintro e w3 ⟨rfl, hb3⟩; (first | (have k4 := KB.new (by assumption) hb3) | (have k4 := KB.next (by assumption) hb3) | skip))
      | (go_at_call 9; refine (tpnew_nil _ _ _).mono ?_; rintro e w4 ⟨rfl, hb4⟩; (first | (have k4 := KB.new (by assumption) hb4) | (have k4 := KB.next (by assumption) hb4) | skip); (first | (have c4 := k4.1.cell; have f4 := k4.1.frozen) | skip))))
  all_goals
    go_wp2_with fail
    exact ⟨_, results_tmp rfl _ _ _, rfl, HoldOf.below (by assumption)⟩
end Go.Proofs.Ytliafkcogmpghaa
