/- A list of lists of int64 in memory, apart from a trail (no statement of its own). -/
import Derived.Test.YtafcecacldafgaaTnB
namespace Go.Proofs.Ytafcecacldafgaa
open Go.RowKit
set_option linter.unusedVariables false
theorem ownsRow_zero {w : World} {B e size n : Nat} {v : Value} {xs : List Value} (h : w.ownsRow B e size v n xs) : w.ownsRow 0 e size v n xs := by
  rcases h with ⟨h1, h2 | ⟨g, cap, cur, h3, h4, h5⟩⟩
  · exact ⟨h1, .inl h2⟩
  · exact ⟨h1, .inr ⟨g, cap, cur, h3, Nat.zero_le _, h5⟩⟩
/-- Lists, one behind the other, none of whose blocks is in Q. -/
structure LLs (w : World) (Q : Nat → Prop) (v : Value) (Ms : List (List Int)) (xs : List Value) : Prop where
  own : w.ownsRow 0 27 1 v Ms.length xs
  far : ∀ g, v.ownBlock = some g → ¬ Q g
  each : ∀ k (h : k < Ms.length), ∃ A c, xs[k]? = some (.slice A Ms[k].length c) ∧ OwnL w 0 (.slice A Ms[k].length c) Ms[k] ∧ ∀ g, (Value.slice A Ms[k].length c).ownBlock = some g → ¬ Q g
def LL (w : World) (Q : Nat → Prop) (v : Value) (Ms : List (List Int)) : Prop := ∃ xs, LLs w Q v Ms xs
theorem LLs.len {w : World} {Q : Nat → Prop} {v : Value} {Ms : List (List Int)} {xs : List Value} (h : LLs w Q v Ms xs) : xs.length = Ms.length := by
  have := h.own.1; omega
theorem LL.nil (w : World) (Q : Nat → Prop) : LL w Q (.slice none 0 0) [] := ⟨[], World.ownsRow_nil _ _ _ _, fun g hg => by simp [Value.ownBlock] at hg, fun k h => absurd h (Nat.not_lt_zero _)⟩
theorem ownsRow_block {w w' : World} {B e size n : Nat} {v : Value} {xs : List Value} (h : w.ownsRow B e size v n xs) (hb : ∀ g, v.ownBlock = some g → w'.heap[g]? = w.heap[g]?) : w'.ownsRow B e size v n xs := by
  obtain ⟨h1, ⟨rfl, hn⟩ | ⟨g, cap, cur, rfl, hb', hh, hr⟩⟩ := h
  · exact ⟨h1, .inl ⟨rfl, hn⟩⟩
  · exact ⟨h1, .inr ⟨g, cap, cur, rfl, hb', (hb g rfl).trans hh, hr⟩⟩
theorem LL.kept {w w' : World} {Q R : Nat → Prop} {v : Value} {Ms : List (List Int)} (h : LL w Q v Ms) (hk : Kp Q w w') (hR : ∀ k, k < w.heap.size → R k → Q k) : LL w' R v Ms := by
  obtain ⟨xs, h1, h2, h3⟩ := h
  have hlt : ∀ {e size n : Nat} {v : Value} {ys : List Value}, w.ownsRow 0 e size v n ys → ∀ g, v.ownBlock = some g → g < w.heap.size := fun h g hg => (World.ownsRow.lt h g hg).2
  refine ⟨xs, ownsRow_block h1 fun g hg => hk.block g (hlt h1 g hg) (h2 g hg), fun g hg q => h2 g hg (hR g (hlt h1 g hg) q), fun k hk' => ?_⟩
  obtain ⟨A, c, e, ho, hf⟩ := h3 k hk'
  exact ⟨A, c, e, ho.block fun g hg => hk.block g (hlt ho g hg) (hf g hg), fun g hg q => hf g hg (hR g (hlt ho g hg) q)⟩
theorem LL.grown {w w' : World} {Q : Nat → Prop} {v : Value} {Ms : List (List Int)} (h : LL w Q v Ms) (hg : w.grownBy w' none) : LL w' Q v Ms := h.kept (Kp.none hg) fun _ _ q => q
theorem LL.form {w : World} {Q : Nat → Prop} {v : Value} {Ms : List (List Int)} (h : LL w Q v Ms) : ∃ A c, v = .slice A Ms.length c ∧ (0 < Ms.length → ∃ g, A = some ⟨g, 0, none⟩ ∧ g < w.heap.size ∧ ¬ Q g) := by
  obtain ⟨xs, h1, h2, h3⟩ := h
  rcases h1.2 with ⟨rfl, h0⟩ | ⟨g, cap, cur, rfl, hb, hh, hn, _⟩
  · exact ⟨none, 0, by rw [h0], fun q => by omega⟩
  · exact ⟨_, cap, rfl, fun _ => ⟨g, rfl, (Array.getElem?_eq_some_iff.1 hh).1, h2 g rfl⟩⟩
/-- One of the lists. -/
theorem LL.at {w : World} {Q : Nat → Prop} {g c : Nat} {Ms : List (List Int)} (h : LL w Q (.slice (some ⟨g, 0, none⟩) Ms.length c) Ms) (k : Nat) (hk : k < Ms.length) :
    ∃ A' c', w.cell? ⟨g, k, none⟩ = some (.slice A' Ms[k].length c') ∧ OwnL w 0 (.slice A' Ms[k].length c') Ms[k] ∧ ∀ q, (Value.slice A' Ms[k].length c').ownBlock = some q → ¬ Q q := by
  obtain ⟨xs, h1, h2, h3⟩ := h
  obtain ⟨A', c', e, ho, hf⟩ := h3 k hk
  refine ⟨A', c', ?_, ho, hf⟩
  have := World.ownsRow.cellAt h1 k (by omega)
  rw [this]
  exact e
theorem info_ll : (Try.prog.info? 27).map (fun i => (i.zero, i.size, i.bytes)) = some (some (.slice none 0 0), 1, 24) := by kernel_rfl
theorem ne_types : (27 : Nat) ≠ 2 := by decide
/-- Append of one list. -/
theorem push_ll {ops : Array Oper} {rest : List Oper} {o : Oper} {a : Act} {K : Exit → Act → World → Prop} (hgd : o.guard = none) (s x : Operand)
    (ho : o.op = .call { callee := .builtin .append, args := #[s, x], argTypes := #[28, 28] }) (hot : o.type = 28) (w : World) (v : Value) (Q : Nat → Prop) (Ms : List (List Int)) (l : List Int) (A : Option Addr) (c B : Nat)
    (hs : a.eval s = v) (hx : a.eval x = .slice (some ⟨B, 0, none⟩) 1 1) (hB : w.heap[B]? = some (.cells #[.slice A l.length c] 27 (0, 0))) (h : LL w Q v Ms) (hl : OwnL w 0 (.slice A l.length c) l)
    (hf : ∀ g, (Value.slice A l.length c).ownBlock = some g → ¬ Q g) (hQ : ∀ k, Q k → k < w.heap.size) (hlen : Ms.length < 100000)
    (hK : ∀ v' w', LL w' Q v' (Ms ++ [l]) → w.grownBy w' v.ownBlock → (∀ g, v.ownBlock = some g → ¬ Q g ∧ g < w.heap.size) → (∀ g, v'.ownBlock = some g → v.ownBlock = some g ∨ w.heap.size ≤ g) → wpList Try.prog ops K rest (a.put o.dst v') w') : wpList Try.prog ops K (o :: rest) a w := by
  obtain ⟨xs, h1, h2, h3⟩ := h
  obtain ⟨i0, hi, hz0, hz1, hz2⟩ := info_parts info_ll
  refine wpList_append_lies w hgd s x 28 ho 0 27 i0 (.slice none 0 0) 1 24 Try.underlying28 hi hz0 hz1 hz2 rfl (by decide) v Ms.length xs hs h1 ⟨B, 0, none⟩ 1 1 [.slice A l.length c] hx rfl (World.news_of_block hB) (by simp [Value.oneCell']) (by decide) (by unfold maxLen; omega) (by omega) (Nat.zero_le _) w.heap.size rfl ?_
  intro g cap w' hO hG hL hlt
  have hlt0 : ∀ {e size n : Nat} {v : Value} {ys : List Value}, w.ownsRow 0 e size v n ys → ∀ g, v.ownBlock = some g → g < w.heap.size := fun h g hg => (World.ownsRow.lt h g hg).2
  have hlen' : xs.length = Ms.length := by have := h1.1; omega
  have hkeep : ∀ {u : Value} {m : List Int}, OwnL w 0 u m → OwnL w' 0 u m := fun {u m} hu => hu.kept hG (by
    cases hv : u.ownBlock with
    | none => exact .inl rfl
    | some q =>
      refine .inr fun e => ?_
      exact row_ne2 (v := v) (v' := u) h1 hu ne_types (by rw [← e]) hv)
  refine hK _ w' ⟨xs ++ [.slice A l.length c], by simpa using hO, fun q hq => ?_, fun k hk => ?_⟩ hG (fun q hq => ⟨h2 q hq, hlt0 h1 q hq⟩) (fun q hq => by
    simp only [Value.ownBlock, Option.some.injEq] at hq
    subst hq
    rcases hL with hL | hL
    · exact .inl hL
    · exact .inr (by omega))
  · simp only [Value.ownBlock, Option.some.injEq] at hq
    subst hq
    rcases hL with hL | hL
    · exact h2 _ hL
    · intro q; have := hQ _ q; omega
  · rw [List.length_append, List.length_singleton] at hk
    by_cases hk2 : k < Ms.length
    · obtain ⟨A', c', e, ho', hf'⟩ := h3 k hk2
      rw [List.getElem_append_left hk2]
      exact ⟨A', c', by rw [List.getElem?_append_left (by omega)]; exact e, hkeep ho', hf'⟩
    · obtain rfl : k = Ms.length := by omega
      rw [List.getElem_append_right (Nat.le_refl _)]
      simp only [Nat.sub_self, List.getElem_cons_zero]
      exact ⟨A, c, by rw [List.getElem?_append_right (by omega), hlen']; simp, hkeep hl, hf⟩
end Go.Proofs.Ytafcecacldafgaa
