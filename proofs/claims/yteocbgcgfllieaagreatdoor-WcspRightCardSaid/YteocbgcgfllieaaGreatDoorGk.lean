/- What tuples.New tells the law, and what Right says (no statement of its own). -/
import Derived.Test.YteocbgcgfllieaaGreatDoorGi
namespace Go.Proofs.YteocbgcgfllieaaGreatDoor
open Go.RowKit
set_option linter.unusedVariables false
/-- A function's tuples as New made them, all behind B; or none. -/
def NewT (B : Nat) (W : World) (l : List Nat) (k o : Int) (tv : Value) : Prop :=
  tv = .pointer none ∨ (InK o k ∧ l.length ≤ 6 ∧ (∀ n ∈ l, 1 ≤ n ∧ n ≤ 32) ∧ ∃ g b A c, tv = .pointer (some ⟨g, 0, none⟩) ∧ TpAt W g b A c 0 l k o (fun _ => o) ∧ B ≤ g ∧ B ≤ b ∧ ∀ a : Addr, A = some a → B ≤ a.block ∧ a.block < W.heap.size)
theorem NewT.below {B : Nat} {W W' : World} {l : List Nat} {k o : Int} {tv : Value} (h : NewT B W l k o tv) (hb : Below W.heap.size W W') : NewT B W' l k o tv := by
  rcases h with h | ⟨h0, h1, h2, g, b, A, c, h3, h4, h5, h6, h7⟩
  · exact .inl h
  · exact .inr ⟨h0, h1, h2, g, b, A, c, h3, h4.below hb, h5, h6, fun a e => ⟨(h7 a e).1, Nat.lt_of_lt_of_le (h7 a e).2 hb.size⟩⟩
theorem NewT.tup {B : Nat} {W : World} {l : List Nat} {k o : Int} {tv : Value} (h : NewT B W l k o tv) : TupV W l k o tv := by
  rcases h with h | ⟨h0, h1, h2, g, b, A, c, h3, h4, h5, h6, h7⟩
  · exact .inl h
  · exact .inr ⟨h0, h1, h2, g, b, A, c, h3, h4, fun a e => (h7 a e).2⟩
theorem NewT.put {B : Nat} {W : World} {l : List Nat} {k o : Int} {tv : Value} {C i : Nat} (v : Value) (h : NewT B W l k o tv) (hC : C < B) : NewT B (W.setCell ⟨C, i, none⟩ v) l k o tv := by
  rcases h with h | ⟨h0, h1, h2, g, b, A, c, h3, h4, h5, h6, h7⟩
  · exact .inl h
  · have hg := grown_put W C i v
    have K : ∀ j, C < j → j < W.heap.size → (W.setCell ⟨C, i, none⟩ v).heap[j]? = W.heap[j]? := fun j h1 h2 => hg.block j h2 (fun e => by injection e; omega)
    exact .inr ⟨h0, h1, h2, g, b, A, c, h3, h4.blocks hg.size (K g (by omega) (Array.getElem?_eq_some_iff.1 h4.row).1) (K b (by omega) h4.lt) (fun a e => K _ (by have := (h7 a e).1; omega) (h7 a e).2), h5, h6, fun a e => ⟨(h7 a e).1, Nat.lt_of_lt_of_le (h7 a e).2 hg.size⟩⟩
theorem new6 (A : Option Addr) (c : Nat) (l : List Int) (k o : Int) (w : World) (h5 : l.length ≤ 5) (hZ : Zs w A l.length (fun i => l.getD i 0)) :
    Calls Tryz.prog 22 #[.slice A l.length c, .int .i64 k, .int .i64 o] w fun e w' => (∃ tv er, ∃ ln : List Nat, e = .returned (.tuple #[tv, .int .i64 er]) ∧ (er ≠ 0 → tv = .pointer none) ∧ NewT w.heap.size w' ln k o tv ∧ (tv ≠ .pointer none → l = ln.map Int.ofNat)) ∧ Below w.heap.size w w' := by
  rcases first_at (fun i => l.getD i 0 < 1 ∨ 32 < l.getD i 0) l.length with h | ⟨p, hp, h1, h2⟩
  · obtain ⟨ln, hl, hI, hn⟩ := ints_of_zs hZ (fun i hi => by have := h i hi; omega)
    have hmap : l = ln.map Int.ofNat := by
      refine List.ext_getElem (by simp [hl]) (fun i h1 h2 => ?_)
      have h3 := hn i h1
      have h4 : i < ln.length := by omega
      simp only [nth, List.getD_eq_getElem?_getD, List.getElem?_eq_getElem h1, List.getElem?_eq_getElem h4, Option.getD_some] at h3
      rw [List.getElem_map, ← h3]
      rfl
    have h32 : ∀ n ∈ ln, 1 ≤ n ∧ n ≤ 32 := fun n hm => by
      obtain ⟨i, hi, rfl⟩ := List.getElem_of_mem hm
      have h3 := hn i (by omega)
      have h4 := h i (by omega)
      rw [← h3] at h4
      simp only [nth, List.getD_eq_getElem?_getD, List.getElem?_eq_getElem hi, Option.getD_some] at h4
      omega
    by_cases hk : InK o k
    · refine (tpnew_fresh A l.length c ln k o w hl.symm (by omega) hI h32 hk).mono ?_
      rintro e w' ⟨⟨g, b, A', c', rfl, h1, h2, h3, h4⟩, hb⟩
      exact ⟨⟨_, _, ln, rfl, fun h => absurd rfl h, .inr ⟨hk, by omega, h32, g, b, A', c', rfl, h1, h2, h3, h4⟩, fun _ => hmap⟩, hb⟩
    · refine (tpnew_range A l.length c ln k o w hl.symm (by omega) hI h32 hk).mono ?_
      rintro e w' ⟨rfl, hb⟩
      exact ⟨⟨_, _, [], rfl, fun _ => rfl, .inl rfl, fun h => absurd rfl h⟩, hb⟩
  · refine (tpnew_arg A l.length c p _ k o w hZ (by omega) (.inr ⟨by omega, hp, fun i hi => by
      have h3 : ¬ (l.getD i 0 < 1 ∨ 32 < l.getD i 0) := h1 i hi
      show 1 ≤ l.getD i 0 ∧ l.getD i 0 ≤ 32
      omega, h2⟩)).mono ?_
    rintro e w' ⟨rfl, hb⟩
    exact ⟨⟨_, _, [], rfl, fun _ => rfl, .inl rfl, fun h => absurd rfl h⟩, hb⟩
theorem word_bytes {X : ByteArray} : WordX X ↔ X ≠ ⟨#[]⟩ ∧ ∀ i, i < X.size → 32 < nthB X i ∧ nthB X i < 127 := by
  rw [word_iff]
  have hs : X.size = X.data.toList.length := by rw [size_list]
  have hn : ∀ i (h : i < X.data.toList.length), nthB X i = (X.data.toList[i]).toNat := fun i h => by
    have h2 : i < X.data.size := h
    unfold nthB
    rw [Array.getD_eq_getD_getElem?, Array.getElem?_eq_getElem h2]
    rfl
  constructor
  · rintro ⟨h1, h2⟩
    refine ⟨fun e => h1 (by rw [e]), fun i hi => ?_⟩
    rw [hs] at hi
    have h3 := h2 _ (List.getElem_mem hi)
    rw [hn i hi]
    generalize X.data.toList[i] = c at h3 ⊢
    simp [isW] at h3
    omega
  · rintro ⟨h1, h2⟩
    refine ⟨fun e => h1 (ByteArray.ext (Array.toList_inj.1 e)), fun c hc => ?_⟩
    obtain ⟨i, hi, rfl⟩ := List.getElem_of_mem hc
    have h3 := h2 i (by rw [hs]; exact hi)
    rw [hn i hi] at h3
    generalize X.data.toList[i] = c at h3 ⊢
    simp [isW]
    omega
theorem cnt_same : ∀ (l : List Nat) (c : Nat) (d : Int), (∀ n ∈ l, 1 ≤ n ∧ n ≤ 32) → (1 ≤ c ∧ (d ≤ 4096 ↔ c ≤ 4096) ∧ (c ≤ 4096 → d = c) ∧ 1 ≤ d) →
    ((l.map Int.ofNat).foldl (fun c s => c * max (min s 33) 0) d ≤ 4096 ↔ cntM l c ≤ 4096)
  | [], c, d, _, h => h.2.1
  | n :: l, c, d, hl, ⟨h0, h1, h2, h3⟩ => by
    obtain ⟨n1, n2⟩ := hl n (by simp)
    rw [List.map_cons, List.foldl_cons, cntM]
    refine cnt_same l _ _ (fun x hx => hl x (by simp [hx])) ?_
    have e1 : max (min (Int.ofNat n) 33) 0 = (n : Int) := by show max (min (n : Int) 33) 0 = _; omega
    have e2 : min n 4097 = n := by omega
    rw [e1, e2]
    by_cases hc : c ≤ 4096
    · have hd := h2 hc
      subst hd
      have hp : (c : Int) * (n : Int) = ((c * n : Nat) : Int) := by rw [Int.natCast_mul]
      rw [hp]
      have hge : 1 ≤ c * n := Nat.mul_pos h0 n1
      refine ⟨by omega, by omega, by omega, by omega⟩
    · have hd : 4097 ≤ d := by have := mt h1.1 hc; omega
      have h5 : d * 1 ≤ d * (n : Int) := Int.mul_le_mul_of_nonneg_left (by omega) (by omega)
      have h6 : c * 1 ≤ c * n := Nat.mul_le_mul_left _ n1
      refine ⟨by omega, by omega, by omega, by omega⟩
theorem cnt_eq {l : List Nat} (hl : ∀ n ∈ l, 1 ≤ n ∧ n ≤ 32) : cntI (l.map Int.ofNat) ≤ 4096 ↔ cntM l 1 ≤ 4096 :=
  cnt_same l 1 1 hl ⟨by omega, by omega, by omega, by omega⟩
theorem clone_cap (A : Option Addr) (n c : Nat) (z : Nat → Int) (w : World) (hl : n ≤ 1000000) (hw : Ext w A n z) :
    Calls Tryz.prog 13 #[.slice A n c] w fun e w' => (∃ A' c', e = .returned (.slice A' n c') ∧ Zs w' A' n z ∧ n ≤ c') ∧ Below w.heap.size w w' := by
  refine (clone_own A n c z w hl hw).mono ?_
  rintro e w' ⟨⟨A', c', rfl, h⟩, hb⟩
  obtain ⟨A2, c2, e2, hz⟩ := zs_of_row h
  injection e2 with e3 e4 e5
  subst e3 e5
  refine ⟨⟨_, _, rfl, hz, ?_⟩, hb⟩
  obtain ⟨_, ⟨e, hn⟩ | ⟨g, cap, cur, e, hb, hh, hm, _⟩⟩ := h
  · injection e; omega
  · injection e with _ _ e; subst e; omega
/-- What Right ought to say. -/
def wantV (ok : Bool) (n m : Nat) (l : List Int) : Int := if ok = true then (if n ≤ 64 ∧ m ≤ 64 ∧ cntI l ≤ 4096 then 0 else 5) else 1
theorem right6 (fb gf : Nat) (X : ByteArray) (k : Int) (A2 : Option Addr) (m q2 : Nat) (z2 : Nat → Int) (A3 : Option Addr) (q q3 : Nat) (z3 : Nat → Int) (tv : Value) (ln : List Nat) (o : Int) (l : List Int) (b fi ok : Bool) (W : World)
    (H : RF6 W fb gf X k A2 m q2 z2 A3 q q3 z3 tv) (hT : TupV W ln k o tv) (hm : m ≤ 70) (hq : q ≤ 5) (hcap : q ≤ q3) (hX : X.size ≤ 80) (hl : tv ≠ .pointer none → l = ln.map Int.ofNat)
    (hF : (fi = true ∧ FitS z3 m q ∧ l = pickI z2 z3 q) ∨ (fi = false ∧ ¬ FitS z3 m q ∧ l.length < q))
    (hB : b = true ↔ ((X ≠ ⟨#[]⟩ ∧ 0 < m ∧ 1 ≤ k ∧ k ≤ 2147483648) ∧ ∀ i, i < X.size → 32 < nthB X i ∧ nthB X i < 127) ∧ ∀ i, i < m → 1 ≤ z2 i ∧ z2 i ≤ 32)
    (hok : ok = true ↔ (b = true ∧ fi = true ∧ tv ≠ .pointer none)) :
    Calls Tryz.prog 23 #[.pointer (some ⟨fb, 0, none⟩)] W fun e w' => e = .returned (.int .i64 (wantV ok X.size m l)) ∧ Below W.heap.size W w' := by
  by_cases hw : WordX X
  · by_cases hk : 1 ≤ k ∧ k ≤ 2147483648
    · by_cases h0 : 0 < m
      · by_cases hz : ∀ i, i < m → 1 ≤ z2 i ∧ z2 i ≤ 32
        · have hb : b = true := hB.2 ⟨⟨⟨(word_bytes.1 hw).1, h0, hk.1, hk.2⟩, (word_bytes.1 hw).2⟩, hz⟩
          rcases hT with rfl | ⟨hko, h6, h32, g, mb, A, c, rfl, hT, hA⟩
          · have hf : ok = false := by cases ok with | false => rfl | true => exact absurd rfl (hok.1 rfl).2.2
            rw [hf]
            exact right_mis fb gf X k A2 m q2 z2 A3 q q3 z3 _ W H hX hm hw hk h0 hz (fun W' hb' => misfit_nil fb q q3 A3 W')
          · have hl := hl (by simp)
            rcases hF with ⟨rfl, hfit, hp⟩ | ⟨rfl, hnf, hlt⟩
            · have ht : ok = true := hok.2 ⟨hb, rfl, by simp⟩
              rw [ht]
              obtain ⟨sizes, hsl, hsI, hsn⟩ := ints_of_zs H.szs (fun i hi => by have := hz i hi; omega)
              obtain ⟨sc, hcl, hcI, hcn⟩ := ints_of_zs H.scs (fun i hi => (hfit i hi).1.1)
              subst hsl hcl
              have hpk : pickN sizes sc = ln := by
                have e : (ln.map Int.ofNat).length = (pickI z2 z3 sc.length).length := by rw [← hl, hp]
                rw [List.length_map, pickI_len] at e
                refine List.ext_getElem (by simp [pickN, e]) (fun i h1 h2 => ?_)
                have h3 : i < sc.length := by omega
                have e1 : (ln.map Int.ofNat)[i]? = (pickI z2 z3 sc.length)[i]? := by rw [← hl, hp]
                have e2 := hcn i h3
                have e3 : sc[i] < sizes.length := by
                  have := (hfit i h3).1.2
                  rw [← e2] at this
                  simp only [nth, List.getD_eq_getElem?_getD, List.getElem?_eq_getElem h3, Option.getD_some] at this
                  omega
                have e4 := hsn _ e3
                simp only [nth, List.getD_eq_getElem?_getD, List.getElem?_eq_getElem h3, List.getElem?_eq_getElem e3, Option.getD_some] at e2 e4
                rw [List.getElem?_map, List.getElem?_eq_getElem h2] at e1
                simp only [pickI, List.getElem?_map, List.getElem?_range h3, Option.map_some, Option.some.injEq] at e1
                rw [← e2, Int.toNat_natCast, ← e4] at e1
                have e5 : ln[i] = sizes[sc[i]] := Int.ofNat.inj e1
                simp only [pickN, List.getElem_map, List.getD_eq_getElem?_getD, List.getElem?_eq_getElem e3, Option.getD_some]
                exact e5.symm
              have hzs : ∀ {A : Option Addr} {a : List Nat} {z : Nat → Int}, Zs W A a.length z → (∀ i, i < a.length → (nth a i : Int) = z i) → Zs W A a.length (fun i => (nth a i : Int)) := fun h he => by
                rcases h with h | ⟨g', o', e, hg, hc⟩
                · exact .inl h
                · exact .inr ⟨g', o', e, hg, fun i hi => (hc i hi).trans (congrArg (fun x => some (Value.int .i64 x)) (he i hi).symm)⟩
              have hH : RF6 W fb gf X k A2 sizes.length q2 (fun i => (nth sizes i : Int)) A3 sc.length q3 (fun i => (nth sc i : Int)) (.pointer (some ⟨g, 0, none⟩)) := ⟨H.row, H.fn, hzs H.szs hsn, hzs H.scs hcn⟩
              have hs : ∀ x ∈ sizes, 1 ≤ x ∧ x ≤ 32 := fun x hx => by
                obtain ⟨i, hi, rfl⟩ := List.getElem_of_mem hx
                have h1 := hsn i hi
                have h2 := hz i hi
                simp only [nth, List.getD_eq_getElem?_getD, List.getElem?_eq_getElem hi, Option.getD_some] at h1
                omega
              have hnth : ∀ i (hi : i < sc.length), (sc[i] : Int) = z3 i := fun i hi => by
                have h1 := hcn i hi
                simpa only [nth, List.getD_eq_getElem?_getD, List.getElem?_eq_getElem hi, Option.getD_some] using h1
              have hbl : ∀ v ∈ sc, v < sizes.length := fun v hv => by
                obtain ⟨i, hi, rfl⟩ := List.getElem_of_mem hv
                have h1 := hnth i hi
                have h2 := (hfit i hi).1.2
                omega
              have hpw : sc.Pairwise (· ≠ ·) := by
                rw [List.pairwise_iff_getElem]
                intro i j hi hj hij e
                refine (hfit j hj).2 i hij ?_
                rw [← hnth i hi, ← hnth j hj, e]
              rw [← hpk] at hT
              refine (right_fit fb gf X k A2 sizes q2 A3 sc q3 g mb A c o W hH hT hA hko hcap hX hm h0 hs hw hbl hpw hq).mono ?_
              rintro e w' ⟨rfl, hb'⟩
              refine ⟨?_, hb'⟩
              unfold wantV
              rw [if_pos rfl, hl, hpk]
              have hce := cnt_eq h32
              by_cases hc : cntM ln 1 ≤ 4096
              · by_cases h64 : X.size ≤ 64 ∧ sizes.length ≤ 64
                · rw [if_pos ⟨h64.1, h64.2, hc⟩, if_pos ⟨h64.1, h64.2, hce.2 hc⟩]
                · rw [if_neg (fun h => h64 ⟨h.1, h.2.1⟩), if_neg (fun h => h64 ⟨h.1, h.2.1⟩)]
              · rw [if_neg (fun h => hc h.2.2), if_neg (fun h => hc (hce.1 h.2.2))]
            · have hf : ok = false := by cases ok with | false => rfl | true => exact absurd (hok.1 rfl).2.1 (by decide)
              rw [hf]
              refine right_mis fb gf X k A2 m q2 z2 A3 q q3 z3 _ W H hX hm hw hk h0 hz (fun W' hb' => misfit_arity fb gf X k A2 m q2 z2 A3 q q3 z3 g mb A c 0 ln o _ _ W' (H.below hb') (hT.below hb') ?_)
              have : l.length = ln.length := by rw [hl]; simp
              omega
        · have hf : ok = false := by cases ok with | false => rfl | true => exact absurd (hB.1 (hok.1 rfl).1).2 hz
          rw [hf]
          exact right_size fb gf X k A2 m q2 z2 A3 q q3 z3 _ W H hX hm hw hk h0 hz
      · have hf : ok = false := by cases ok with | false => rfl | true => exact absurd (hB.1 (hok.1 rfl).1).1.1.2.1 h0
        rw [hf]
        exact right_none fb gf X k A2 m q2 z2 A3 q q3 z3 _ W H hX hm hw hk (by omega)
    · have hf : ok = false := by cases ok with | false => rfl | true => exact absurd (hB.1 (hok.1 rfl).1).1.1.2.2 hk
      rw [hf]
      exact right_top fb gf X k A2 m q2 z2 A3 q q3 z3 _ W H hX hm hw (by omega)
  · have hf : ok = false := by
      cases ok with
      | false => rfl
      | true =>
        have h := (hB.1 (hok.1 rfl).1).1
        exact absurd (word_bytes.2 ⟨h.1.1, h.2⟩) hw
    rw [hf]
    exact right_word fb gf X k A2 m q2 z2 A3 q q3 z3 _ W H hX hm hw
end Go.Proofs.YteocbgcgfllieaaGreatDoor
