/- Two files of two functions, side by side; a Put into the first function of one (no statement of its own). -/
import Derived.Test.YteocbgcgfllieaaGreatDoorSb
import Derived.Test.YteocbgcgfllieaaGreatDoorYgs
import Derived.Test.YteocbgcgfllieaaGreatDoorMgT
import Derived.Test.YteocbgcgfllieaaGreatDoorMgAd
namespace Go.Proofs.YteocbgcgfllieaaGreatDoor
open Go.RowKit
set_option linter.unusedVariables false
/-- A function in memory, its parts named. -/
structure FuE (W : World) (k : Int) (sizes : List Nat) (f : FunM) (gf i : Nat) (As : Option Addr) (cs g mb : Nat) (A : Option Addr) (c N : Nat) : Prop where
  k0 : W.cell? ⟨gf, i * 2, none⟩ = some (.slice As f.scope.length cs)
  k1 : W.cell? ⟨gf, i * 2 + 1, none⟩ = some (.pointer (some ⟨g, 0, none⟩))
  sc : Ints W As f.scope
  tp : TpAt W g mb A c N (pickN sizes f.scope) k (min f.other k) (funF k f)
  few : N ≤ f.lines.length
theorem FuE.below {W W' : World} {k : Int} {sizes : List Nat} {f : FunM} {gf i : Nat} {As : Option Addr} {cs g mb : Nat} {A : Option Addr} {c N : Nat} (h : FuE W k sizes f gf i As cs g mb A c N) (hb : Below W.heap.size W W') : FuE W' k sizes f gf i As cs g mb A c N :=
  ⟨(hb.cell (p := ⟨gf, i * 2, none⟩) (World.block_lt_of_cell? W _ h.k0)).trans h.k0, (hb.cell (p := ⟨gf, i * 2 + 1, none⟩) (World.block_lt_of_cell? W _ h.k1)).trans h.k1, h.sc.below hb (Nat.le_refl _), h.tp.below hb, h.few⟩
/-- What is changed is a map: what isn't that map stays. -/
theorem map_ne {W : World} {m b : Nat} {i : Nat} {n : Nat} {D : DataW Unit} {v : Value} (hm : W.ownsMap Tryz.prog 103 (plainElem Tryz.prog 2) m n D) (hc : W.cell? ⟨b, i, none⟩ = some v) : some b ≠ some m := fun e => by
  injection e with e
  subst e
  obtain ⟨es, clock, h1, -⟩ := hm
  unfold World.cell? at hc
  rw [h1] at hc
  cases hc
/-- A pair of functions in memory. -/
structure Two2 (W : World) (fb : Nat) (X : ByteArray) (k : Int) (sizes : List Nat) (f0 f1 : FunM) (cs : Nat) (As : Option Addr) (cf gf : Nat) (A0 : Option Addr) (c0 g0 m0 : Nat) (B0 : Option Addr) (d0 N0 : Nat) (A1 : Option Addr) (c1 g1 m1 : Nat) (B1 : Option Addr) (d1 N1 : Nat) : Prop where
  row : W.heap[fb]? = some (.cells #[.string X, .int .i64 k, .slice As sizes.length cs, .slice (some ⟨gf, 0, none⟩) 2 cf] 50 (0, 0))
  e0 : FuE W k sizes f0 gf 0 A0 c0 g0 m0 B0 d0 N0
  e1 : FuE W k sizes f1 gf 1 A1 c1 g1 m1 B1 d1 N1
  ne : m0 ≠ m1
theorem Two2.below {W W' : World} {fb : Nat} {X : ByteArray} {k : Int} {sizes : List Nat} {f0 f1 : FunM} {cs : Nat} {As : Option Addr} {cf gf : Nat} {A0 : Option Addr} {c0 g0 m0 : Nat} {B0 : Option Addr} {d0 N0 : Nat} {A1 : Option Addr} {c1 g1 m1 : Nat} {B1 : Option Addr} {d1 N1 : Nat}
    (h : Two2 W fb X k sizes f0 f1 cs As cf gf A0 c0 g0 m0 B0 d0 N0 A1 c1 g1 m1 B1 d1 N1) (hb : Below W.heap.size W W') : Two2 W' fb X k sizes f0 f1 cs As cf gf A0 c0 g0 m0 B0 d0 N0 A1 c1 g1 m1 B1 d1 N1 :=
  ⟨(hb.block fb (Array.getElem?_eq_some_iff.1 h.row).1).trans h.row, h.e0.below hb, h.e1.below hb, h.ne⟩
theorem Two2.cell3 {W : World} {fb : Nat} {X : ByteArray} {k : Int} {sizes : List Nat} {f0 f1 : FunM} {cs : Nat} {As : Option Addr} {cf gf : Nat} {A0 : Option Addr} {c0 g0 m0 : Nat} {B0 : Option Addr} {d0 N0 : Nat} {A1 : Option Addr} {c1 g1 m1 : Nat} {B1 : Option Addr} {d1 N1 : Nat}
    (h : Two2 W fb X k sizes f0 f1 cs As cf gf A0 c0 g0 m0 B0 d0 N0 A1 c1 g1 m1 B1 d1 N1) : W.cell? ⟨fb, 3, none⟩ = some (.slice (some ⟨gf, 0, none⟩) 2 cf) := by rw [cell_of_row _ _ _ _ _ _ h.row]; rfl
theorem FileAt.two {W : World} {fb base lo : Nat} {X : ByteArray} {k : Int} {sizes : List Nat} {f0 f1 : FunM} {As : Option Addr} {cs : Nat} {fv : Value} {us : List (Value × Value)} {P : Nat → Prop} (h : FileAt W fb base X k sizes [f0, f1] As cs fv us P) (hs : SepU lo W us) :
    ∃ cf gf A0 c0 g0 m0 B0 d0 N0 A1 c1 g1 m1 B1 d1 N1, Two2 W fb X k sizes f0 f1 cs As cf gf A0 c0 g0 m0 B0 d0 N0 A1 c1 g1 m1 B1 d1 N1 ∧ lo ≤ m0 ∧ lo ≤ m1 := by
  obtain ⟨Af, cf, hfv⟩ := h.own.form
  have hl : us.length = 2 := h.funs.1
  obtain ⟨sv0, tv0, u0, A0, c0, g0, m0, B0, d0, N0, rfl, -, rfl, s0, t0, n0, -⟩ := h.funs.2 0 f0 rfl
  obtain ⟨sv1, tv1, u1, A1, c1, g1, m1, B1, d1, N1, rfl, -, rfl, s1, t1, n1, -⟩ := h.funs.2 1 f1 rfl
  have ho := h.own
  rw [hfv] at ho
  have ho' := ho
  obtain ⟨_, ⟨e, hn⟩ | ⟨g, cap, cur, e, hb, hh, _⟩⟩ := ho'
  · omega
  · injection e with e1 e2 e3
    subst e1
    have cc := fun (i : Nat) (hi : i < us.length * 2) => World.ownsRow.cellAt (ho : W.ownsRow base 54 2 _ us.length _) i hi
    obtain ⟨p0, p1⟩ := fuC_at us 0 _ u0
    obtain ⟨p2, p3⟩ := fuC_at us 1 _ u1
    obtain ⟨q0, r0, q1, r1, e4, e5, e6, e7, e8⟩ := hs.2 0 1 _ _ (by decide) u0 u1
    obtain ⟨q2, r2, e9, e10, e11⟩ := hs.1 0 _ u0
    obtain ⟨q3, r3, e12, e13, e14⟩ := hs.1 1 _ u1
    simp only at e4 e6 e9 e12
    injection e4 with e4
    injection e4 with e4
    injection e4 with e4
    subst e4
    injection e6 with e6
    injection e6 with e6
    injection e6 with e6
    subst e6
    injection e9 with e9
    injection e9 with e9
    injection e9 with e9
    subst e9
    injection e12 with e12
    injection e12 with e12
    injection e12 with e12
    subst e12
    have x0 : W.cell? ⟨g0, 3, none⟩ = some (.map (some m0)) := by rw [cell_of_row _ _ _ _ _ _ t0.row]; rfl
    have x1 : W.cell? ⟨g1, 3, none⟩ = some (.map (some m1)) := by rw [cell_of_row _ _ _ _ _ _ t1.row]; rfl
    rw [x0] at e5 e10
    rw [x1] at e7 e13
    injection e10 with e10
    injection e10 with e10
    injection e10 with e10
    injection e13 with e13
    injection e13 with e13
    injection e13 with e13
    injection e5 with e5
    injection e5 with e5
    injection e5 with e5
    injection e7 with e7
    injection e7 with e7
    injection e7 with e7
    exact ⟨cf, g, A0, c0, g0, m0, B0, d0, N0, A1, c1, g1, m1, B1, d1, N1, ⟨by rw [h.row, hfv, hl], ⟨(cc (0 * 2) (by omega)).trans p0, (cc (0 * 2 + 1) (by omega)).trans p1, s0, t0, n0⟩, ⟨(cc (1 * 2) (by omega)).trans p2, (cc (1 * 2 + 1) (by omega)).trans p3, s1, t1, n1⟩, by rw [e5, e7]; exact e8⟩, by rw [e10]; exact e11, by rw [e13]; exact e14⟩
/-- Read of a text that tells two functions. -/
theorem read_two {s : ByteArray} {A : Option Addr} {c : Nat} {w : World} (hs : s.size ≤ 65536) (h : BS w A s) (hG : GlobR w) (hT : TabP w) {X : Nat × Nat} {k : Int} {sizes : List Nat} {f0 f1 : FunM} {st : RdS} (hf : fileM s.data.toList (-4611686018427387904) = .ok ⟨X, k, sizes, [f0, f1]⟩ st) (hb : st.big = none) :
    Calls Tryz.prog 11 #[.slice A s.size c] w fun e w' => (∃ fb cs As cf gf A0 c0 g0 m0 B0 d0 N0 A1 c1 g1 m1 B1 d1 N1, e = .returned (.tuple #[.pointer (some ⟨fb, 0, none⟩), .int .i64 (s.size : Int), .int .i64 0]) ∧ Two2 w' fb (s.extract X.1 X.2) k sizes f0 f1 cs As cf gf A0 c0 g0 m0 B0 d0 N0 A1 c1 g1 m1 B1 d1 N1 ∧ w.heap.size ≤ m0 ∧ w.heap.size ≤ m1) ∧ Below w.heap.size w w' := by
  refine (readRS s A c w hs h hG hT).mono ?_
  rintro e w' ⟨hr, hb'⟩
  rw [hf] at hr
  unfold ReadResS at hr
  simp only [hb] at hr
  obtain ⟨fb, fv, us, As, cs, base, _, h1, h2, h3, _, h4⟩ := hr
  obtain ⟨cf, gf, A0, c0, g0, m0, B0, d0, N0, A1, c1, g1, m1, B1, d1, N1, h5⟩ := h3.two h4
  exact ⟨⟨fb, cs, As, cf, gf, A0, c0, g0, m0, B0, d0, N0, A1, c1, g1, m1, B1, d1, N1, h1, h5⟩, hb'⟩
/-- Same of the functions of two files, one and the same. -/
theorem same_two {W : World} {k : Int} {sizes : List Nat} {f : FunM} {gf i gf' i' : Nat} {As As' : Option Addr} {cs g mb cs' g' mb' : Nat} {A A' : Option Addr} {c N c' N' : Nat} (h : FuE W k sizes f gf i As cs g mb A c N) (h' : FuE W k sizes f gf' i' As' cs' g' mb' A' c' N') (hp : pickN sizes f.scope = [2, 3]) :
    Calls Tryz.prog 19 #[.pointer (some ⟨g, 0, none⟩), .pointer (some ⟨g', 0, none⟩)] W fun e w' => e = .returned (.bool true) ∧ Below W.heap.size W w' := by
  refine (tpsame_ok g mb N c g' mb' N' c' 6 A A' (pickN sizes f.scope) k _ _ (funF k f) (funF k f) W h.tp h'.tp (by rw [hp]; decide) (by rw [hp]; decide) (by rw [hp]; rfl) (by decide)).mono ?_
  rintro e w4 ⟨r, rfl, hr, hb⟩
  obtain rfl : r = true := hr.2 ⟨rfl, fun _ _ => rfl⟩
  exact ⟨rfl, hb⟩
/-- A function whose map isn't the one that is changed. -/
theorem FuE.put {W W' : World} {k : Int} {sizes : List Nat} {f : FunM} {gf i : Nat} {As : Option Addr} {cs g mb m n : Nat} {A : Option Addr} {c N : Nat} {D : DataW Unit} (h : FuE W k sizes f gf i As cs g mb A c N) (hm : W.ownsMap Tryz.prog 103 (plainElem Tryz.prog 2) m n D) (hg : W.grownBy W' (some m)) (hne : m ≠ mb) : FuE W' k sizes f gf i As cs g mb A c N := by
  have keep : ∀ (b i : Nat) (v : Value), W.cell? ⟨b, i, none⟩ = some v → W'.heap[b]? = W.heap[b]? := fun b i v hc => hg.block b (World.block_lt_of_cell? W ⟨b, i, none⟩ hc) (fun e => map_ne hm hc e)
  have c3 : W.cell? ⟨g, 3, none⟩ = some (.map (some mb)) := by rw [cell_of_row _ _ _ _ _ _ h.tp.row]; rfl
  have ints : ∀ (B : Option Addr) (l : List Nat), Ints W B l → Ints W' B l := by
    intro B l hl
    rcases hl with h | ⟨g', o', e, hg', hc⟩
    · exact .inl h
    · by_cases hn : l = []
      · exact .inl hn
      · have h0 : 0 < l.length := List.length_pos_iff.2 hn
        exact .inr ⟨g', o', e, Nat.lt_of_lt_of_le hg' hg.size, fun i hi => (World.cell?_of_block (a := ⟨g', o' + i, none⟩) (keep g' _ _ (hc 0 h0))).trans (hc i hi)⟩
  obtain ⟨D', hmap, hr⟩ := h.tp.map
  refine ⟨(World.cell?_of_block (a := ⟨gf, i * 2, none⟩) (keep _ _ _ h.k0)).trans h.k0, (World.cell?_of_block (a := ⟨gf, i * 2 + 1, none⟩) (keep _ _ _ h.k1)).trans h.k1, ints _ _ h.sc, ⟨(keep _ _ _ c3).trans h.tp.row, ints _ _ h.tp.ints, h.tp.cap, D', ?_, hr⟩, h.few⟩
  exact hmap.kept hg (fun e => hne (Option.some.inj e).symm)
end Go.Proofs.YteocbgcgfllieaaGreatDoor
