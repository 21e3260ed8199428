/- Contract of the law's made (no statement of its own). -/
import Derived.Test.YtdmldnlgamnkeaaGreatTbZ
import Derived.StillTailTactics
namespace Go.Proofs.YtdmldnlgamnkeaaGreat
open Go.RowKit
set_option linter.unusedVariables false
theorem TabAt.congr {w : World} {g h : Nat} {l : List Nat} {k : Int} {z z' : Nat → Int} (H : TabAt w g h l k z) (hz : ∀ i, i < prodL l → z i = z' i) : TabAt w g h l k z' := by
  obtain ⟨cur, hc, h1, h2⟩ := H.costs
  exact ⟨H.row, cur, hc, h1, fun i hi => by rw [← hz i hi]; exact h2 i hi⟩
/-- A table under way, in a world that has grown by its costs alone. -/
structure MdI (W2 : World) (g h : Nat) (l : List Nat) (k : Int) (f : Nat → Int) (j : Nat) (W : World) : Prop where
  tab : TabAt W g h l k (fun i => if i < j then f i else 0)
  gr : W2.grownBy W (some h)
theorem grown_cell {W2 W : World} {h c : Nat} (hg : W2.grownBy W (some h)) (hc : c < W2.heap.size) (hne : c ≠ h) (i : Nat) : W.cell? ⟨c, i, none⟩ = W2.cell? ⟨c, i, none⟩ :=
  World.cell?_of_block (a := ⟨c, i, none⟩) (hg.block c hc (fun e => hne (by injection e)))
theorem MdI.put {W2 W W' : World} {g h : Nat} {l : List Nat} {k : Int} {f : Nat → Int} {j : Nat} (H : MdI W2 g h l k f j W) (ht : TabAt W' g h l k (fun i => if i = j then f j else if i < j then f i else 0)) (hg : W.grownBy W' (some h)) : MdI W2 g h l k f (j + 1) W' :=
  ⟨ht.congr fun i _ => by
    by_cases e : i = j
    · subst e; rw [if_pos rfl, if_pos (by omega)]
    · rw [if_neg e]
      by_cases e2 : i < j
      · rw [if_pos e2, if_pos (by omega)]
      · rw [if_neg e2, if_neg (by omega)], grown_then H.gr hg⟩
theorem smL_prod (z : Nat → Int) (n : Nat) (h : n ≤ 3) : 1 ≤ prodL (smL z n) ∧ prodL (smL z n) ≤ 64 := by
  refine ⟨prodL_pos fun x hx => (smL_small z n x hx).1, ?_⟩
  have h1 := prodL_le (c := 4) fun x hx => (smL_small z n x hx).2
  rw [smL_len] at h1
  have h2 : 4 ^ n ≤ 4 ^ 3 := Nat.pow_le_pow_right (by omega) h
  omega
theorem rall_any4 (A : Option Addr) (n c P : Nat) (l : List Nat) (w : World) (hn : n = l.length) (h6 : l.length ≤ 6) (hc : n ≤ c) (hl : ∀ n ∈ l, 1 ≤ n ∧ n ≤ 32) (hP : prodL l = P) (hP4 : P ≤ 4096) (hI : Ints w A l) :
    Calls Tryz.prog 8 #[.slice A n c] w fun e w' => (∃ A' c', e = .returned (.slice A' P c') ∧ RowsT w' w.heap.size (.slice A' P c') (allL l)) ∧ Below w.heap.size w w' := by
  subst hn hP
  refine (rall_any l A c w h6 hc hl hP4 hI).mono ?_
  rintro e w' ⟨⟨v, rfl, hR⟩, hb⟩
  obtain ⟨A', c', rfl, _⟩ := hR.form
  rw [allL_length] at hR
  exact ⟨⟨A', c', by rw [allL_length], hR⟩, hb⟩
theorem zs_row64 {w : World} {base n : Nat} {A : Option Addr} {c : Nat} {z : Nat → Int} (h : w.ownsRow base 2 1 (.slice A n c) n (costL z n)) : Zs w A n z := by
  obtain ⟨_, ⟨e, hn⟩ | ⟨g, cap, cur, e, hb, hh, hm, _, hs, ht⟩⟩ := h
  · exact .inl hn
  · injection e with e1 e2 e3
    subst e1
    refine .inr ⟨g, 0, rfl, (Array.getElem?_eq_some_iff.1 hh).1, fun i hi => ?_⟩
    rw [Nat.zero_add, cell_of_row w g i cur 2 (0, 0) hh]
    have e : (cur.toList.take (n * 1))[i]? = some (.int .i64 (z i)) := by rw [ht]; simp [costL, hi]
    rw [List.getElem?_take] at e
    simpa [hi] using e
theorem own_cap {w : World} {base n c : Nat} {A : Option Addr} {l : List Nat} (h : Own w base (.slice A n c) l) : n ≤ c := by
  obtain ⟨_, ⟨e, hn⟩ | ⟨g, cap, cur, e, _, _, hm, _⟩⟩ := h
  · injection e with e1 e2 e3
    omega
  · injection e with e1 e2 e3
    omega
/-- What made answers. -/
def MadePost (w : World) (l : List Nat) (k : Int) (P : Nat) (f : Nat → Int) (e : Ending) (w' : World) : Prop :=
  ∃ g h As cs Ac cc, e = .returned (.tuple #[.pointer (some ⟨g, 0, none⟩), .agg #[.slice As l.length cs, .int .i64 k, .slice Ac P cc]]) ∧
      TabAt w' g h l k f ∧ Ints w' As l ∧ l.length ≤ cs ∧ Zs w' Ac P f ∧ w.heap.size ≤ g ∧ w.heap.size ≤ h ∧ Below w.heap.size w w'
theorem results_tr {fn : Func} {p q : Tmp} (h : fn.results = #[.tmp q, .cell p 29]) (tmps : Array Value) (w : World) (g : Nat) (a b c : Value) (hp : tmps.getD p undef = .pointer (some ⟨g, 0, none⟩))
    (hg : w.heap[g]? = some (.cells #[a, b, c] 29 (0, 0))) : (results fn tmps).run Tryz.prog w = .ok (.tuple #[tmps.getD q undef, .agg #[a, b, c]]) w := by
  have c0 : w.cell? ⟨g, 0, none⟩ = some a := by rw [cell_of_row _ _ _ _ _ _ hg]; rfl
  have c1 : w.cell? ⟨g, 1, none⟩ = some b := by rw [cell_of_row _ _ _ _ _ _ hg]; rfl
  have c2 : w.cell? ⟨g, 2, none⟩ = some c := by rw [cell_of_row _ _ _ _ _ _ hg]; rfl
  have hp' : tmps[p]?.getD undef = .pointer (some ⟨g, 0, none⟩) := by simpa using hp
  simp [results, h, hp', go_sem, c0, c1, c2]
/-- A slice of a world that was, behind growth of one row and a store of another. -/
theorem zs_fin {w3 w6 wr : World} {A : Option Addr} {n h b : Nat} {z : Nat → Int} {cs : Array Value} (H : Zs w3 A n z) (hb : Below w3.heap.size w3 w6) (hg : w6.grownBy wr (some h)) (hh : w3.heap.size ≤ h) (hb' : ∀ a : Addr, A = some a → b < a.block) : Zs (wr.drew.setRow b cs) A n z := by
  rcases H with h0 | ⟨g, o, rfl, hlt, hc⟩
  · exact .inl h0
  · have hz := hb.size
    refine .inr ⟨g, o, rfl, by rw [size_setRow]; exact Nat.lt_of_lt_of_le (Nat.lt_of_lt_of_le hlt hz) hg.size, fun i hi => ?_⟩
    refine (World.cell?_of_block (a := ⟨g, o + i, none⟩) (setRow_other wr.drew b g cs (by have : b < g := hb' _ rfl; omega))).trans ?_
    exact (grown_cell hg (Nat.lt_of_lt_of_le hlt hz) (by omega) (o + i)).trans ((hb.cell (p := ⟨g, o + i, none⟩) hlt).trans (hc i hi))
theorem ints_zs {w : World} {A : Option Addr} {l : List Nat} (h : Zs w A l.length (fun i => (nth l i : Int))) : Ints w A l := by
  rcases h with h0 | h
  · exact .inl (List.eq_nil_of_length_eq_zero h0)
  · exact .inr h
end Go.Proofs.YtdmldnlgamnkeaaGreat
