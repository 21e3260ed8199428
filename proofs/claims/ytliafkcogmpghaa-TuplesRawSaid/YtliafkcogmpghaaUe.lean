/- Contracts of Put, Get and cost of tuples (no statement of its own). No condition. -/
import Derived.Test.YtliafkcogmpghaaUd
import Derived.StillTailTactics
namespace Go.Proofs.Ytliafkcogmpghaa
open Go.RowKit Go.Maps
set_option linter.unusedVariables false
/-- The list's block is not the map's. -/
theorem TpAt.list_apart {w : World} {g b : Nat} {A : Option Addr} {c N : Nat} {l : List Nat} {k o : Int} {f : List Nat → Int} (H : TpAt w g b A c N l k o f) (hl : l ≠ []) : ∀ a : Addr, A = some a → a.block ≠ b := by
  rintro a rfl rfl
  rcases H.ints with h | ⟨g', o', e, hlt, hc⟩
  · exact hl h
  · injection e with e
    subst e
    obtain ⟨D, ⟨es, clock, hm, _⟩, hr⟩ := H.map
    have := hc 0 (by rcases l with _ | ⟨x, l⟩; exact absurd rfl hl; simp)
    simp [World.cell?, hm] at this
theorem TpAt.map_cells {w : World} {g b : Nat} {A : Option Addr} {c N : Nat} {l : List Nat} {k o : Int} {f : List Nat → Int} (H : TpAt w g b A c N l k o f) {w' : World} {N' : Nat} {f' : List Nat → Int} (hg : w.grownBy w' (some b))
    (hm : ∃ D : DataW Unit, w'.ownsMap Try.prog 74 (plainElem Try.prog 2) b N' D ∧ RepF D l o f') : TpAt w' g b A c N' l k o f' :=
  ⟨(hg.block g (Array.getElem?_eq_some_iff.1 H.row).1 (fun e => H.apart (by injection e))).trans H.row, by
    by_cases hl : l = []
    · exact .inl hl
    · exact ints_grown H.ints hg (H.list_apart hl), H.cap, hm⟩
theorem ky_cells {w : World} {g : Nat} {t : List Nat} (h : w.heap[g]? = some (.cells (kyC t) 74 (0, 0))) :
    w.cell? ⟨g, 0, none⟩ = some (szV t 0) ∧ w.cell? ⟨g, 1, none⟩ = some (szV t 1) ∧ w.cell? ⟨g, 2, none⟩ = some (szV t 2) ∧ w.cell? ⟨g, 3, none⟩ = some (szV t 3) ∧ w.cell? ⟨g, 4, none⟩ = some (szV t 4) ∧ w.cell? ⟨g, 5, none⟩ = some (szV t 5) := by
  refine ⟨?_, ?_, ?_, ?_, ?_, ?_⟩ <;> (rw [cell_of_row _ _ _ _ _ _ h]; rfl)
/-- A look-up of a tuple. -/
theorem TpAt.look {w : World} {g b : Nat} {A : Option Addr} {c N : Nat} {l t : List Nat} {k o : Int} {f : List Nat → Int} (H : TpAt w g b A c N l k o f) (h32 : ∀ n ∈ l, n ≤ 32) (hin : InL l t) :
    (Instr.lookup 69 (.map (some b)) (keyV t) true).run Try.prog w = .ok (.tuple #[.int .i64 (if f t = o then 0 else f t), .bool (decide (f t ≠ o))]) w := by
  obtain ⟨D, hown, hrep⟩ := H.map
  obtain ⟨v, ps, hrun, hv⟩ := hown.look_ok keyed Try.underlying69 (zeroI64 w) (plainElem_int Try.underlying2 (by decide)) (keyOf_key (hin.small h32))
  obtain ⟨q, rfl, hc, hwc⟩ := plainElem_int_inv Try.underlying2 hv
  simp only [Prod.mk.injEq] at hc
  rw [hrun, (hrep.1 t hin).1]
  by_cases e : f t = o
  · have hh : Maps.has D (keyL t) = false := by rw [(hrep.1 t hin).1]; simp [e]
    have := hc.1
    rw [atKey_of_not_has hh] at this
    rw [if_pos e, ← (Lit.int.inj (DataW.lit.inj this)).2]
  · have := hc.1
    rw [(hrep.1 t hin).2 e] at this
    rw [if_neg e, (Lit.int.inj (DataW.lit.inj this)).2]
abbrev HoldCo (wb : World) (g b B1 : Nat) (t : List Nat) (x : Int) (r : Bool) (W : World) : Prop :=
  W.cell? ⟨g, 3, none⟩ = some (.map (some b)) ∧ W.cell? ⟨B1, 0, none⟩ = some (szV t 0) ∧ W.cell? ⟨B1, 1, none⟩ = some (szV t 1) ∧ W.cell? ⟨B1, 2, none⟩ = some (szV t 2) ∧ W.cell? ⟨B1, 3, none⟩ = some (szV t 3) ∧ W.cell? ⟨B1, 4, none⟩ = some (szV t 4) ∧ W.cell? ⟨B1, 5, none⟩ = some (szV t 5) ∧
  (Instr.lookup 69 (.map (some b)) (.agg #[.int .i64 (nth t 0 : Int), .int .i64 (nth t 1 : Int), .int .i64 (nth t 2 : Int), .int .i64 (nth t 3 : Int), .int .i64 (nth t 4 : Int), .int .i64 (nth t 5 : Int)]) true).run Try.prog W = .ok (.tuple #[.int .i64 x, .bool r]) W ∧ Below wb.heap.size wb W
set_option maxRecDepth 100000 in
set_option maxHeartbeats 4000000 in
theorem tpcost_ok (g b N c : Nat) (A : Option Addr) (l t : List Nat) (k o : Int) (f : List Nat → Int) (w : World) (H : TpAt w g b A c N l k o f) (h32 : ∀ n ∈ l, n ≤ 32) (hin : InL l t) :
    Calls Try.prog 36 #[.pointer (some ⟨g, 0, none⟩), keyV t] w fun e w' => e = .returned (.int .i64 (f t)) ∧ Below w.heap.size w w' := by
  have nb := new_val w (.cells (kyC t) 74)
  have B1 := Lib.hid nb
  have HT := Lib.hid (H.below nb)
  obtain ⟨y0, y1, y2, y3, y4, y5⟩ := ky_cells (heap_alloc_new w (.cells (kyC t) 74))
  have HY := Lib.hid (And.intro y0 (And.intro y1 (And.intro y2 (And.intro y3 (And.intro y4 y5)))))
  have HL : Hid (∀ W, TpAt W g b A c N l k o f → (Instr.lookup 69 (.map (some b)) (keyV t) true).run Try.prog W = .ok (.tuple #[.int .i64 (if f t = o then 0 else f t), .bool (decide (f t ≠ o))]) W) := Lib.hid fun W h => h.look h32 hin
  clear H nb hin h32 y0 y1 y2 y3 y4 y5
  obtain ⟨x, hx⟩ : ∃ x, f t = x := ⟨_, rfl⟩
  rw [hx] at HL ⊢
  clear hx
  go_enter Try.func36, Try.ntmps36
  go_upto_region 1 with fail
  generalize w.alloc (.cells (kyC t) 74) = w1 at *
  by_cases hf : x = o
  · subst hf
    have HH : Hid (HoldCo w1 g b w.heap.size t 0 false w1.drew) := by
      have h2 := HT.out.below ((Below.refl _ _).drew)
      have hl := HL.out _ h2
      rw [if_pos rfl, show decide (x ≠ x) = false from decide_eq_false (by simp)] at hl
      obtain ⟨y0, y1, y2, y3, y4, y5⟩ := HY.out
      exact Lib.hid ⟨h2.cells.2.2.2, y0, y1, y2, y3, y4, y5, hl, (Below.refl _ _).drew⟩
    go_region_held3 (fun W => HoldCo w1 g b w.heap.size t 0 false W) (exact HH.out) (fail)
    have c2 : w1.drew.cell? ⟨g, 2, none⟩ = some (.int .i64 x) := (HT.out.below ((Below.refl _ _).drew)).cells.2.2.1
    go_wp2_with fail
    go_ret
    exact ⟨rfl, B1.out.drew⟩
  · have HH : Hid (HoldCo w1 g b w.heap.size t x true w1.drew) := by
      have h2 := HT.out.below ((Below.refl _ _).drew)
      have hl := HL.out _ h2
      rw [if_neg hf, show decide (x ≠ o) = true from decide_eq_true hf] at hl
      obtain ⟨y0, y1, y2, y3, y4, y5⟩ := HY.out
      exact Lib.hid ⟨h2.cells.2.2.2, y0, y1, y2, y3, y4, y5, hl, (Below.refl _ _).drew⟩
    go_region_held3 (fun W => HoldCo w1 g b w.heap.size t x true W) (exact HH.out) (fail)
    go_wp2_with fail
    go_ret
    exact ⟨rfl, B1.out.drew⟩
end Go.Proofs.Ytliafkcogmpghaa
