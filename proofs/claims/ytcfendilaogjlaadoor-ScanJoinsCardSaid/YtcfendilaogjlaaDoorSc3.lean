/- Contracts of scan's New, Count, and of the law's cut (no statement of its own). -/
import Derived.Test.YtcfendilaogjlaaDoorSc2
import Derived.Lib.SlBytesRow
import Derived.Laws.AppendOwnNone
namespace Go.Proofs.YtcfendilaogjlaaDoor
open Go.RowKit
set_option linter.unusedVariables false
/-- A slice that begins at A holds the bytes s. -/
def BS (w : World) (A : Option Addr) (s : ByteArray) : Prop :=
  (A = none ∧ s.size = 0) ∨ ∃ g o, A = some ⟨g, o, none⟩ ∧ g < w.heap.size ∧ Lib.Bytes w g o s
theorem BS.below {w w' : World} {A : Option Addr} {s : ByteArray} {B : Nat} (h : BS w A s) (hb : Below B w w') (hB : w.heap.size ≤ B) : BS w' A s := by
  rcases h with h | ⟨g, o, rfl, hg, hc⟩
  · exact .inl h
  · exact .inr ⟨g, o, rfl, by have := hb.size; omega, fun i hi => (hb.cell (p := ⟨g, o + i, none⟩) (by show g < B; omega)).trans (hc i hi)⟩
theorem BS.grown {w w' : World} {A : Option Addr} {s : ByteArray} {row : Option Nat} (h : BS w A s) (hg : w.grownBy w' row) (hne : ∀ a : Addr, A = some a → some a.block ≠ row) : BS w' A s := by
  rcases h with h | ⟨g, o, rfl, hlt, hc⟩
  · exact .inl h
  · have e : some g ≠ row := hne ⟨g, o, none⟩ rfl
    exact .inr ⟨g, o, rfl, Nat.lt_of_lt_of_le hlt hg.size, fun i hi => World.grownBy.cell hg (hc i hi) e⟩
theorem empty_of {s : ByteArray} (h : s.size = 0) : s = ByteArray.empty := by
  apply ByteArray.ext
  apply Array.toList_inj.1
  exact List.eq_nil_of_length_eq_zero (by rw [size_list]; exact h)
theorem conv_bytes {w : World} {A : Option Addr} {c : Nat} {s : ByteArray} (h : BS w A s) : (convert 22 9 (.slice A s.size c)).run Tryd.prog w = .ok (.string s) w := by
  rcases h with ⟨rfl, h0⟩ | ⟨g, o, rfl, _, hb⟩
  · have e := empty_of h0
    subst e
    exact run_convert_bytes_nil w 22 5 Tryd.underlying22 Tryd.underlying5 0 c 9 Tryd.underlying9
  · exact Lib.run_convert_whole w 22 5 9 Tryd.underlying22 Tryd.underlying5 Tryd.underlying9 g o s hb c
abbrev byC (s : ByteArray) : List Value := s.data.toList.map fun c : UInt8 => Value.int .u8 (c.toNat : Int)
/-- A slice of bytes that the call has made. -/
def OwnB (w : World) (base : Nat) (v : Value) (s : ByteArray) : Prop := w.ownsRow base 5 1 v s.size (byC s)
theorem OwnB.form {w : World} {base : Nat} {v : Value} {s : ByteArray} (h : OwnB w base v s) : ∃ A c, v = .slice A s.size c ∧ BS w A s ∧ ∀ a : Addr, A = some a → base ≤ a.block := by
  obtain ⟨hl, ⟨rfl, hn⟩ | ⟨g, cap, cur, rfl, hb, hh, hm, _, hs, ht⟩⟩ := h
  · exact ⟨none, 0, by rw [hn], .inl ⟨rfl, hn⟩, fun a e => by cases e⟩
  · refine ⟨_, cap, rfl, .inr ⟨g, 0, rfl, (Array.getElem?_eq_some_iff.1 hh).1, fun i hi => ?_⟩, fun a e => by injection e with e; subst e; exact hb⟩
    rw [Nat.zero_add, cell_of_row w g i cur 5 (0, 0) hh]
    have hx : (byC s)[i]? = some (.int .u8 (s[i].toNat : Int)) := by
      rw [List.getElem?_map, List.getElem?_eq_getElem (by rw [size_list]; exact hi)]
      rfl
    have e : (cur.toList.take (s.size * 1))[i]? = some (.int .u8 (s[i].toNat : Int)) := by rw [ht]; exact hx
    rw [List.getElem?_take] at e
    exact (by simpa using e : i < s.size ∧ cur[i]? = some (.int .u8 (s[i].toNat : Int))).2
theorem OwnB.below {w w' : World} {base B : Nat} {v : Value} {s : ByteArray} (h : OwnB w base v s) (hb : Below B w w') (hB : w.heap.size ≤ B) : OwnB w' base v s := by
  obtain ⟨h1, ⟨rfl, hn⟩ | ⟨g, cap, cur, rfl, hb', hh, hm, hx, hs, ht⟩⟩ := h
  · exact ⟨h1, .inl ⟨rfl, hn⟩⟩
  · refine ⟨h1, .inr ⟨g, cap, cur, rfl, hb', ?_, hm, hx, hs, ht⟩⟩
    rw [hb.block g (by have := (Array.getElem?_eq_some_iff.1 hh).1; omega)]
    exact hh
theorem info_u8 : (Tryd.prog.info? 5).map (fun i => (i.zero, i.size, i.bytes)) = some (some (.int .u8 0), 1, 1) := by kernel_rfl
/-- Bytes that came in. -/
def Bytes (w : World) (A : Option Addr) (n : Nat) (z : Nat → Int) : Prop := ∀ j, j < n → ∃ p : Addr, A = some p ∧ p.block < w.heap.size ∧ w.cell? (p.add j) = some (.int .u8 (z j)) ∧ 0 ≤ z j ∧ z j ≤ 255
theorem block_add (a : Addr) (n : Nat) : (a.add n).block = a.block := by unfold Addr.add; split <;> rfl
theorem Bytes.below {w w' : World} {A : Option Addr} {n : Nat} {z : Nat → Int} (h : Bytes w A n z) (hb : Below w.heap.size w w') : Bytes w' A n z := fun j hj => by
  obtain ⟨p, rfl, hp, hc, h1, h2⟩ := h j hj
  exact ⟨p, rfl, Nat.lt_of_lt_of_le hp hb.size, (hb.cell (p := p.add j) (by rw [block_add]; exact hp)).trans hc, h1, h2⟩
/-- The first m of them, as a string. -/
def strZ (z : Nat → Int) (m : Nat) : ByteArray := ⟨((List.range m).map fun j => UInt8.ofNat (z j).toNat).toArray⟩
theorem strZ_size (z : Nat → Int) (m : Nat) : (strZ z m).size = m := by simp [strZ, ByteArray.size]
theorem strZ_cells {w : World} {p : Addr} {n m : Nat} {z : Nat → Int} (h : Bytes w (some p) n z) (hm : m ≤ n) : ∀ j u, (byC (strZ z m))[j]? = some u → w.cell? (p.add j) = some u := by
  intro j u hu
  have hj : j < m := by
    have := (List.getElem?_eq_some_iff.1 hu).1
    simpa [byC, strZ] using this
  obtain ⟨p', e, _, hc, h1, h2⟩ := h j (by omega)
  injection e with e
  subst e
  rw [hc]
  simp only [byC, strZ, List.getElem?_map, List.getElem?_range hj, Option.map_some, Option.some.injEq] at hu
  rw [← hu]
  congr 2
  have e1 : (UInt8.ofNat (z j).toNat).toNat = (z j).toNat := by
    rw [UInt8.toNat_ofNat']
    exact Nat.mod_eq_of_lt (by omega)
  rw [e1]
  omega
theorem byC_one (s : ByteArray) : ∀ v ∈ byC s, v.oneCell' = true := by
  intro v hv
  simp only [byC, List.mem_map] at hv
  obtain ⟨c, _, rfl⟩ := hv
  rfl
theorem byC_len (s : ByteArray) : (byC s).length = s.size := by rw [List.length_map, size_list]
set_option maxRecDepth 100000 in
theorem cut_any (A : Option Addr) (n c : Nat) (z : Nat → Int) (w : World) (hnc : n ≤ c) (hn : (n : Int) ≤ 9223372036854775807) (hA : A = none → n = 0 ∧ c = 0) (hz : Bytes w A n z) :
    Calls Tryd.prog 10 #[.slice A n c] w fun e w' => (∃ v, e = .returned v ∧ OwnB w' w.heap.size v (strZ z (min n 200))) ∧ Below w.heap.size w w' := by
  obtain ⟨i0, hi, hz0, hz1, hz2⟩ := info_parts info_u8
  have HI := Lib.hid hi
  have HZ0 := Lib.hid hz0
  have HZ1 := Lib.hid hz1
  have HZ2 := Lib.hid hz2
  have n0 : Below w.heap.size w (w.alloc (.cells #[] 5)) := (Below.refl _ _).alloc (Nat.le_refl _) _
  have N0 := Lib.hid n0
  clear hi hz0 hz1 hz2 n0
  cases A with
  | none =>
    obtain ⟨rfl, rfl⟩ := hA rfl
    clear hA hz
    go_enter Tryd.func10, Tryd.ntmps10
    go_wp2_with (at_builtin; refine wpList_append_own_none rfl (.tmp 3) (.tmp 8) 22 rfl w.heap.size 5 i0 1 Tryd.underlying22 HI.out (.slice (some ⟨w.heap.size, 0, none⟩) 0 0) 0 [] rfl (World.ownsRow_made w #[] 0 (Nat.le_refl _) (by simp [maxLen]) rfl) rfl ?_)
    go_ret
    exact ⟨⟨_, rfl, World.ownsRow_made w #[] 0 (Nat.le_refl _) (by simp [maxLen]) rfl⟩, N0.out⟩
  | some ad =>
    obtain ⟨m, hm⟩ : ∃ m, min n 200 = m := ⟨_, rfl⟩
    rw [hm]
    have hmn : m ≤ n := by omega
    have hm2 : m ≤ 200 := by omega
    have HC := Lib.hid (strZ_cells (hz.below N0.out) hmn)
    have hmi : min (n : Int) 200 = (m : Int) := by omega
    clear hz hA hm
    go_enter Tryd.func10, Tryd.ntmps10
    go_wp2_with (at_builtin; refine wpList_append_own _ rfl (.tmp 3) (.tmp 8) 22 rfl w.heap.size 5 i0 (.int .u8 0) 1 1 Tryd.underlying22 HI.out HZ0.out HZ1.out HZ2.out rfl (by decide) (.slice (some ⟨w.heap.size, 0, none⟩) 0 0) 0 [] rfl (World.ownsRow_made w #[] 0 (Nat.le_refl _) (by simp [maxLen]) rfl) ad m c (byC (strZ z m)) rfl (by rw [byC_len, strZ_size, Nat.mul_one]) HC.out (byC_one _) (by unfold maxLen; omega) (by omega) (by simp) ?_; intro v' w1 h1 h2 _; have H1 := Lib.hid h1; have H2 := Lib.hid h2; clear h1 h2)
    go_ret
    refine ⟨⟨_, rfl, ?_⟩, N0.out.grown H2.out (by simp) (fun k hk => by simp [Value.ownBlock] at hk; omega)⟩
    have h := H1.out
    rw [Nat.zero_add, List.nil_append] at h
    unfold OwnB
    rw [strZ_size]
    exact h
theorem snew_any (v : Value) (s : ByteArray) (w : World) (hq : (convert 22 9 v).run Tryd.prog w = .ok (.string s) w) :
    Calls Tryd.prog 11 #[v] w fun e w' => e = .returned (.pointer (some ⟨w.heap.size, 0, none⟩)) ∧ w' = w.alloc (.cells #[.string s, .int .i64 0] 53) := by
  go_enter Tryd.func11, Tryd.ntmps11
  go_wp2
  go_ret
  exact ⟨rfl, rfl⟩
end Go.Proofs.YtcfendilaogjlaaDoor
