/- The contracts of maps.DeleteFunc on a map of nothing and of trail's shrink (no statement of its own). -/
import Derived.Test.YtafcecacldafgaaTrI
import Derived.Maps.RangeWalk
namespace Go.Proofs.Ytafcecacldafgaa
open Go.RowKit
open Go.Maps (Keyed)
set_option linter.unusedVariables false
theorem noElem_inv (v : Value) (y : DataW Unit × List MemPlace) (h : noElem v = some y) : ∃ c : Unit, v = (fun _ : Unit => Value.agg #[.int .i64 0, .int .i64 0]) c := by
  unfold noElem at h
  split at h
  · rename_i e; exact ⟨(), e⟩
  · cases h
/-- A range over a map of nothing has no round. -/
theorem next_emp {ops : Array Oper} {rest : List Oper} {o : Oper} {a : Act} {Q : Exit → Act → World → Prop} (w : World) (hg : o.guard = none) (it : Operand) (hop : o.op = Op.next it false) (b r : Nat) (left : Lit → Bool)
    (hit : a.eval it = .pointer (some ⟨r, 0, none⟩)) (h : w.ranges Try.prog 3 noElem b r 0 (.map []) left 0)
    (hDone : wpList Try.prog ops Q rest (a.put o.dst (.tuple #[.bool false])) w) : wpList Try.prog ops Q (o :: rest) a w :=
  wpList_next_ranges w hg it hop 3 law noElem (Value.int .i64) (fun _ : Unit => Value.agg #[.int .i64 0, .int .i64 0]) (fun key kl hkey => by obtain ⟨x, rfl, _⟩ := Maps.keyOf_int_inv Try.underlying3 hkey; exact ⟨x, rfl⟩) noElem_inv b r 0 (.map []) left 0 hit h (fun _ _ => hDone)
    (fun x c kl y w' cnt' _ _ _ _ _ hlt => absurd hlt (Nat.not_lt_zero _))
set_option maxRecDepth 100000 in
theorem delete_emp {w : World} {m : Nat} (f : Value) (h : Emp w m) : Calls Try.prog 36 #[.map (some m), f] w (AndG w (.tuple #[])) := by
  have hown := Lib.hid (h.owns noElem)
  clear h
  go_enter Try.func36, Try.ntmps36
  go_wp2_with (first | (at_range; refine wpList_range_own _ rfl _ 54 rfl 3 66 law Try.underlying54 _ m 0 (.map []) rfl hown.out ?_; intro w0 hrg0 hg0 hs0) | go_in)
  go_frame
  have HR := Lib.hid hrg0
  have HG := Lib.hid hg0
  clear hrg0 hg0 hs0
  go_loopw [8] (fun _ wr => Hid (wr.ranges Try.prog 3 noElem m w.heap.size 0 (.map []) (Maps.has (.map [] : DataW Unit)) 0) ∧ Hid (w.grownBy wr none)) (fun _ _ => 0)
  case atStart => exact ⟨HR, HG⟩
  case round =>
    obtain ⟨HR2, HG2⟩ := hrel
    go_wp2_with (first | (at_next; refine next_emp _ rfl _ rfl m w.heap.size _ rfl HR2.out ?_) | go_in)
    go_end0
    exact ⟨rfl, HG2.out⟩
end Go.Proofs.Ytafcecacldafgaa
