import Derived.Test.YtmokogkndbinlaaGreatDoorZgau
set_option linter.all false
namespace Go.Proofs.YtmokogkndbinlaaGreatDoor
open Go.Lib (hid)
open Go.RowKit Go.Maps
def mn2 (x y : Int) : Int := min x y
theorem run_mn2 {P : Program} (w : World) (ts : Array TypeId) (t : TypeId) (k k' : IntKind) (x y : Int) :
  (Builtin.min_ ts t #[.int k x, .int k' y]).run P w = .ok (.int k (mn2 x y)) w := by
 have e : (if y < x then y else x) = mn2 x y := by
  unfold mn2; split <;> omega
 simp [Builtin.min_, Builtin.min2, e]
theorem tparity_ok (g b N c : Nat) (A : Option Addr) (l : List Nat) (k o : Int) (f : List Nat → Int) (w : World) (H : TpAt w g b A c N l k o f) :
  Calls Tryz.prog 160 #[.pointer (some ⟨g, 0, none⟩)] w fun e w' => e = .returned (.int .i64 (l.length : Int)) ∧ w = w' := by
 obtain ⟨a0, a1, a2, a3⟩ := H.cells
 clear H
 go_enter Tryz.func160, Tryz.ntmps160
 go_wp2_with fail
 go_ret
 exact ⟨rfl, rfl⟩
theorem tpk_ok (g b N c : Nat) (A : Option Addr) (l : List Nat) (k o : Int) (f : List Nat → Int) (w : World) (H : TpAt w g b A c N l k o f) :
  Calls Tryz.prog 118 #[.pointer (some ⟨g, 0, none⟩)] w fun e w' => e = .returned (.int .i64 k) ∧ w = w' := by
 obtain ⟨a0, a1, a2, a3⟩ := H.cells
 clear H
 go_enter Tryz.func118, Tryz.ntmps118
 go_wp2_with fail
 go_ret
 exact ⟨rfl, rfl⟩
theorem tpother_ok (g b N c : Nat) (A : Option Addr) (l : List Nat) (k o : Int) (f : List Nat → Int) (w : World) (H : TpAt w g b A c N l k o f) :
  Calls Tryz.prog 29 #[.pointer (some ⟨g, 0, none⟩)] w fun e w' => e = .returned (.int .i64 o) ∧ w = w' := by
 obtain ⟨a0, a1, a2, a3⟩ := H.cells
 clear H
 go_enter Tryz.func29, Tryz.ntmps29
 go_wp2_with fail
 go_ret
 exact ⟨rfl, rfl⟩
theorem tpsizes_ok (g b N c : Nat) (A : Option Addr) (l : List Nat) (k o : Int) (f : List Nat → Int) (w : World) (H : TpAt w g b A c N l k o f) (h6 : l.length ≤ 6) :
  Calls Tryz.prog 117 #[.pointer (some ⟨g, 0, none⟩)] w fun e w' => (∃ v, e = .returned v ∧ Own w' w.heap.size v l) ∧ Below w.heap.size w w' := by
 obtain ⟨a0, a1, a2, a3⟩ := H.cells
 have HC := hid (clone_any A c l w (by omega) H.ints)
 clear H
 go_enter Tryz.func117, Tryz.ntmps117
 go_wp2_with fail
 refine HC.out.mono ?_
 rintro e w1 ⟨⟨v, rfl, hv⟩, hb⟩
 have HV := hid hv
 have HB := hid hb
 clear hv hb
 go_wp2_with fail
 go_ret
 exact ⟨⟨_, rfl, HV.out⟩, HB.out⟩
def capA (a b k : Int) : Int := if a + b > k then k else a + b
attribute [local go_sem ↓] run_mn2
theorem capped_any (a b k : Int) (w : World) (ha0 : 0 ≤ a) (ha1 : a ≤ 2147483648) (hb0 : 0 ≤ b) (hb1 : b ≤ 2147483648) :
  Calls Tryz.prog 149 #[.int .i64 a, .int .i64 b, .int .i64 k] w fun e w' => e = .returned (.int .i64 (capA a b k)) ∧ w = w' := by
 have e : mn2 (a + b) k = capA a b k := by unfold mn2 capA; split <;> omega
 go_enter Tryz.func149, Tryz.ntmps149
 go_wp2_with fail
 go_ret
 exact ⟨rfl, rfl⟩
set_option maxRecDepth 100000 in
theorem add_yes (a b k : Int) (w : World) (h1 : 1 ≤ k) (h2 : k ≤ 2147483648) (ha0 : 0 ≤ a) (ha1 : a ≤ k) (hb0 : 0 ≤ b) (hb1 : b ≤ k) :
  Calls Tryz.prog 89 #[.int .i64 a, .int .i64 b, .int .i64 k] w fun e w' => e = .returned (.tuple #[.int .i64 (capA a b k), .int .i64 0]) ∧ w = w' := by
 go_enter Tryz.func89, Tryz.ntmps89
 have CP := hid (capped_any a b k w ha0 (by omega) hb0 (by omega))
 go_wp2_with fail
 refine (in_yes a _ _ h1 h2 ha0 ha1).mono ?_
 rintro e w' ⟨rfl, rfl⟩
 go_wp2_with fail
 refine (in_yes b _ _ h1 h2 hb0 hb1).mono ?_
 rintro e w' ⟨rfl, rfl⟩
 go_wp2_with fail
 refine CP.out.mono ?_
 rintro e w' ⟨rfl, rfl⟩
 go_wp2_with fail
 go_ret2
 exact ⟨rfl, rfl⟩
theorem tplen_le (g b N c : Nat) (A : Option Addr) (l : List Nat) (k o : Int) (f : List Nat → Int) (w : World) (H : TpAt w g b A c N l k o f) :
  Calls Tryz.prog 36 #[.pointer (some ⟨g, 0, none⟩)] w fun e w' => (∃ n : Nat, e = .returned (.int .i64 (n : Int)) ∧ n ≤ N) ∧ w = w' := by
 obtain ⟨D, hown, hrep⟩ := H.map
 have HO := hid hown
 have HL := hid hown.size_le
 obtain ⟨a0, a1, a2, a3⟩ := H.cells
 clear H hown hrep
 go_enter Tryz.func36, Tryz.ntmps36
 go_wp2_with (at_len; refine wpList_len_own _ rfl _ 136 rfl 139 2 Tryz.underlying136 _ b N D rfl HO.out ?_)
 go_ret
 exact ⟨⟨_, rfl, HL.out⟩, rfl⟩
theorem wcwrong_no (x : Int) (w : World) (h1 : 1 ≤ x) (h2 : x ≤ 32) : Calls Tryz.prog 124 #[.int .i64 x] w fun e w' => e = .returned (.bool false) ∧ w = w' := by
 go_enter Tryz.func124, Tryz.ntmps124
 go_wp2
 go_ret
 exact ⟨ret_bool (by simp <;> omega), rfl⟩
theorem index_noneW (A : Option Addr) (n c : Nat) (z : Nat → Int) (w : World) (hn : n ≤ 1000000) (hr : Zs w A n z) (hz : ∀ i, i < n → 1 ≤ z i ∧ z i ≤ 32) :
  Calls Tryz.prog 153 #[.slice A n c, .func (.func 124) #[] #[]] w fun e w' => e = .returned (.int .i64 (-1)) ∧ w = w' := by
 have HZ := hid hz
 have HR := hid hr
 clear hz hr
 go_enter Tryz.func153, Tryz.ntmps153
 go_wp2_with fail
 go_loop [5, 8] (fun _ i => ∃ j : Nat, j ≤ n ∧ i = .int .i64 j) (fun _ i => n - (intOf i).toNat)
 case atStart => exact ⟨0, Nat.zero_le _, rfl⟩
 case round =>
  obtain ⟨j, hj, rfl⟩ := hrel
  by_cases hlt : j < n
  rotate_left
  ·go_wp2
   go_ret
   exact ⟨rfl, rfl⟩
  obtain ⟨g, o, rfl, hcell⟩ := HR.out.at_ hlt
  have hz := HZ.out j hlt
  generalize z j = x at hcell hz
  obtain ⟨hz1, hz2⟩ := hz
  go_wp2_with (go_at_call 124; refine (wcwrong_no _ _ hz1 hz2).mono ?_; rintro e w' ⟨rfl, rfl⟩)
  go_round
  case rel => exact ⟨j + 1, by omega, by go_num⟩
  case measure => simp [intOf]; omega
theorem contains_noW (A : Option Addr) (n c : Nat) (z : Nat → Int) (w : World) (hn : n ≤ 1000000) (hr : Zs w A n z) (hz : ∀ i, i < n → 1 ≤ z i ∧ z i ≤ 32) :
  Calls Tryz.prog 123 #[.slice A n c, .func (.func 124) #[] #[]] w fun e w' => e = .returned (.bool false) ∧ w = w' := by
 have H := hid (index_noneW A n c z w hn hr hz)
 clear hr hz
 go_enter Tryz.func123, Tryz.ntmps123
 go_wp2_with (go_at_call 153; refine H.out.mono ?_; rintro e w' ⟨rfl, rfl⟩)
 go_ret
 exact ⟨rfl, rfl⟩
end Go.Proofs.YtmokogkndbinlaaGreatDoor
namespace Go.Proofs.YtmokogkndbinlaaGreatDoor
open Go.RowKit
structure FileR (W : World) (fb : Nat) (X : ByteArray) (k : Int) (sizes : List Nat) (fs : List FunM) (As Af : Option Addr) (cs cf : Nat) : Prop where
 row : W.heap[fb]? = some (.cells #[.string X, .int .i64 k, .slice As sizes.length cs, .slice Af fs.length cf] 54 (0, 0))
 szs : Ints W As sizes
 funs : ∀ i f, fs[i]? = some f → ∃ gf sv tv, Af = some ⟨gf, 0, none⟩ ∧ gf < W.heap.size ∧ W.cell? ⟨gf, i * 2, none⟩ = some sv ∧ W.cell? ⟨gf, i * 2 + 1, none⟩ = some tv ∧ FunE W k sizes f (fun j => j < W.heap.size) sv tv
theorem FunE.below {W W' : World} {k : Int} {sizes : List Nat} {f : FunM} {sv tv : Value} (h : FunE W k sizes f (fun j => j < W.heap.size) sv tv) (hb : Below W.heap.size W W') : FunE W' k sizes f (fun j => j < W'.heap.size) sv tv :=
 h.keep hb.size (fun j hj => hb.block j hj) (fun j hj => Nat.lt_of_lt_of_le hj hb.size)
theorem FileR.below {W W' : World} {fb : Nat} {X : ByteArray} {k : Int} {sizes : List Nat} {fs : List FunM} {As Af : Option Addr} {cs cf : Nat} (h : FileR W fb X k sizes fs As Af cs cf) (hb : Below W.heap.size W W') : FileR W' fb X k sizes fs As Af cs cf := by
 refine ⟨(hb.block fb (Array.getElem?_eq_some_iff.1 h.row).1).trans h.row, h.szs.below hb (Nat.le_refl _), fun i f hf => ?_⟩
 obtain ⟨gf, sv, tv, h1, h2, h3, h4, h5⟩ := h.funs i f hf
 exact ⟨gf, sv, tv, h1, Nat.lt_of_lt_of_le h2 hb.size, (hb.cell (p := ⟨gf, i * 2, none⟩) h2).trans h3, (hb.cell (p := ⟨gf, i * 2 + 1, none⟩) h2).trans h4, h5.below hb⟩
theorem FileAt.r {W : World} {fb base : Nat} {X : ByteArray} {k : Int} {sizes : List Nat} {fs : List FunM} {As : Option Addr} {cs : Nat} {fv : Value} {us : List (Value × Value)} (h : FileAt W fb base X k sizes fs As cs fv us (PF W fb fv)) : ∃ Af cf, FileR W fb X k sizes fs As Af cs cf := by
 obtain ⟨Af, cf, hfv⟩ := h.own.form
 have hl := h.funs.1
 refine ⟨Af, cf, by rw [h.row, hfv, hl], h.szs, fun i f hf => ?_⟩
 obtain ⟨sv, tv, h1, h2⟩ := h.funs.2 i f hf
 obtain ⟨a1, a2⟩ := fuC_at us i _ h1
 have hi : i < us.length := (List.getElem?_eq_some_iff.1 h1).1
 have ho := h.own
 rw [hfv] at ho
 have ho' := ho
 obtain ⟨_, ⟨e, hn⟩ | ⟨g, cap, cur, e, hb, hh, _⟩⟩ := ho'
 ·omega
 injection e with e1 e2 e3
 subst e1
 have c1 := World.ownsRow.cellAt (ho : W.ownsRow base 62 2 _ us.length _) (i * 2) (by omega)
 have c2 := World.ownsRow.cellAt (ho : W.ownsRow base 62 2 _ us.length _) (i * 2 + 1) (by omega)
 exact ⟨g, sv, tv, rfl, (Array.getElem?_eq_some_iff.1 hh).1, c1.trans a1, c2.trans a2, h2.keep (Nat.le_refl _) (fun _ _ => rfl) (fun j hj => hj.1)⟩
theorem FileR.cells {W : World} {fb : Nat} {X : ByteArray} {k : Int} {sizes : List Nat} {fs : List FunM} {As Af : Option Addr} {cs cf : Nat} (h : FileR W fb X k sizes fs As Af cs cf) :
  W.cell? ⟨fb, 0, none⟩ = some (.string X) ∧ W.cell? ⟨fb, 1, none⟩ = some (.int .i64 k) ∧ W.cell? ⟨fb, 2, none⟩ = some (.slice As sizes.length cs) ∧ W.cell? ⟨fb, 3, none⟩ = some (.slice Af fs.length cf) := by
 refine ⟨?_, ?_, ?_, ?_⟩ <;> (rw [cell_of_row _ _ _ _ _ _ h.row]; rfl)
theorem pick_ok {sizes scope : List Nat} (hs : ∀ x ∈ sizes, 1 ≤ x ∧ x ≤ 32) (hb : ∀ v ∈ scope, v < sizes.length) : ∀ n ∈ pickN sizes scope, 1 ≤ n ∧ n ≤ 32 := by
 intro n hn
 obtain ⟨i, hi, rfl⟩ := List.mem_map.1 hn
 exact hs _ (nth_mem (l := sizes) (hb i hi))
set_option maxHeartbeats 1000000 in
theorem great_no (k : Int) (sizes : List Nat) (f : FunM) (sv tv : Value) (w : World) (h : FunE w k sizes f (fun j => j < w.heap.size) sv tv) (hs : ∀ x ∈ sizes, 1 ≤ x ∧ x ≤ 32) (hf : FunOk sizes f) (hl : FunLim sizes f) :
  Calls Tryz.prog 127 #[.agg #[sv, tv]] w fun e w' => e = .returned (.bool false) ∧ Below w.heap.size w w' := by
 obtain ⟨Asc, csc, g, mb, A, c, N, rfl, -, rfl, h3, h4, h5, -⟩ := h
 have L6 : (pickN sizes f.scope).length ≤ 6 := by simp [pickN]; exact hl.1
 have n1 := new_val w (.cells #[.slice Asc f.scope.length csc, .pointer (some ⟨g, 0, none⟩)] 62)
 have SZ := hid (tpsizes_ok g mb N c A (pickN sizes f.scope) k _ _ _ (h4.below n1) L6)
 have CT := hid (fun A2 c2 W (h : Ints W A2 (pickN sizes f.scope)) => countR c2 A2 (pickN sizes f.scope) W (by omega) (fun x hx => by have := (pick_ok hs hf.below x hx).2; omega) h)
 have HL := hid hl.2
 have N1 := hid n1
 have d : decide ((4096 : Int) < (cntM (pickN sizes f.scope) 1 : Nat)) = false := decide_eq_false (by have := hl.2; omega)
 clear h3 h4 h5 hs hf hl L6 n1
 generalize pickN sizes f.scope = l1 at SZ CT HL d
 generalize cntM l1 1 = q at CT HL d
 go_enter Tryz.func127, Tryz.ntmps127
 go_wp2_with (first | (go_at_call 117; refine SZ.out.mono ?_; rintro e w2 ⟨⟨v, rfl, hO⟩, hb⟩; obtain ⟨A2, c2, rfl, hI⟩ := hO.form; have HI := hid hI; replace hb := hid hb; clear hO hI) | (go_at_call 161; refine (CT.out _ _ _ HI.out).mono ?_; rintro e w' ⟨rfl, rfl⟩) | fail)
 go_ret
 exact ⟨rfl, then_ N1.out hb.out⟩
theorem containsI_take (W : World) (c : Nat) (A : Option Addr) (l : List Nat) (j x : Nat) (h : Ints W A l) (hj : j ≤ l.length) (hl : l.length ≤ 200000) :
  Calls Tryz.prog 49 #[.slice A j c, .int .i64 (x : Int)] W fun e w' => e = .returned (.bool ((l.take j).contains x)) ∧ W = w' := by
 rcases h with rfl | ⟨g, o, rfl, hg, hc⟩
 ·obtain rfl : j = 0 := by simpa using hj
  exact (Tryz.slices_Contains_int_empty A c x W).mono fun e w' hh => ⟨by simpa using hh.1, hh.2.symm⟩
 refine (Tryz.slices_Contains_int g o j c (l.map Int.ofNat) x W (by simpa using hj) (by omega) (fun q hq => ?_)).mono fun e w' hh => ⟨?_, hh.2.symm⟩
 ·rw [List.length_map] at hq
  rw [hc q hq]
  simp [nth, List.getD, hq]
 rw [hh.1, ← List.map_take]
 congr 2
 rw [Bool.eq_iff_iff]
 simp only [List.contains_iff_mem, List.mem_map]
 exact ⟨fun ⟨a, h, e⟩ => by rwa [← Int.ofNat_inj.1 e], fun h => ⟨x, h, rfl⟩⟩
theorem take_once {l : List Nat} (h : l.Pairwise (· ≠ ·)) {j : Nat} (hj : j < l.length) : (l.take j).contains (nth l j) = false := by
 have e : nth l j = l[j] := by simp [nth, List.getD, hj]
 rw [e]
 cases hc : (l.take j).contains l[j] with
 | false => rfl
 | true =>
  exfalso
  have hm : l[j] ∈ l.take j := by simpa using hc
  obtain ⟨i, hi, he⟩ := List.getElem_of_mem hm
  rw [List.length_take] at hi
  rw [List.getElem_take] at he
  exact (List.pairwise_iff_getElem.1 h i j (by omega) hj (by omega)) he
end Go.Proofs.YtmokogkndbinlaaGreatDoor
namespace Go.Proofs.YtmokogkndbinlaaGreatDoor
open Go.RowKit
abbrev HoldQ (wb : World) (B fb g n1 c1 n2 c2 : Nat) (A1 A2 : Option Addr) (W : World) : Prop :=
 W.cell? ⟨B, 1, none⟩ = some (.pointer (some ⟨g, 0, none⟩)) ∧ W.cell? ⟨fb, 2, none⟩ = some (.slice A1 n1 c1) ∧ W.cell? ⟨B, 0, none⟩ = some (.slice A2 n2 c2) ∧ Below wb.heap.size wb W
theorem holdQ {wb W W' : World} {B fb g n1 c1 n2 c2 : Nat} {A1 A2 : Option Addr} (H : HoldQ wb B fb g n1 c1 n2 c2 A1 A2 W) (hb : Below W.heap.size W W') : HoldQ wb B fb g n1 c1 n2 c2 A1 A2 W' := by
 obtain ⟨a0, a1, a2, h9⟩ := H
 have K : ∀ b i v, W.cell? ⟨b, i, none⟩ = some v → W'.cell? ⟨b, i, none⟩ = some v := fun b i v h => (hb.cell (p := ⟨b, i, none⟩) (World.block_lt_of_cell? W _ h)).trans h
 exact ⟨K _ _ _ a0, K _ _ _ a1, K _ _ _ a2, h9.trans (hb.mono h9.size)⟩
theorem HoldQ.below {wb W : World} {B fb g n1 c1 n2 c2 : Nat} {A1 A2 : Option Addr} (H : HoldQ wb B fb g n1 c1 n2 c2 A1 A2 W) : Below wb.heap.size wb W := H.2.2.2
abbrev HoldQ2 (wb : World) (B fb g : Nat) (k : Int) (n2 c2 : Nat) (A2 : Option Addr) (W : World) : Prop :=
 W.cell? ⟨B, 1, none⟩ = some (.pointer (some ⟨g, 0, none⟩)) ∧ W.cell? ⟨fb, 1, none⟩ = some (.int .i64 k) ∧ W.cell? ⟨B, 0, none⟩ = some (.slice A2 n2 c2) ∧ Below wb.heap.size wb W
theorem holdQ2 {wb W W' : World} {B fb g n2 c2 : Nat} {k : Int} {A2 : Option Addr} (H : HoldQ2 wb B fb g k n2 c2 A2 W) (hb : Below W.heap.size W W') : HoldQ2 wb B fb g k n2 c2 A2 W' := by
 obtain ⟨a0, a1, a2, h9⟩ := H
 have K : ∀ b i v, W.cell? ⟨b, i, none⟩ = some v → W'.cell? ⟨b, i, none⟩ = some v := fun b i v h => (hb.cell (p := ⟨b, i, none⟩) (World.block_lt_of_cell? W _ h)).trans h
 exact ⟨K _ _ _ a0, K _ _ _ a1, K _ _ _ a2, h9.trans (hb.mono h9.size)⟩
theorem HoldQ2.below {wb W : World} {B fb g n2 c2 : Nat} {k : Int} {A2 : Option Addr} (H : HoldQ2 wb B fb g k n2 c2 A2 W) : Below wb.heap.size wb W := H.2.2.2
set_option maxRecDepth 100000 in
set_option maxHeartbeats 4000000 in
theorem misfit_no (fb cs cf : Nat) (X : ByteArray) (k : Int) (sizes : List Nat) (fs : List FunM) (As Af : Option Addr) (f : FunM) (sv tv : Value) (w : World) (H : FileR w fb X k sizes fs As Af cs cf) (h : FunE w k sizes f (fun j => j < w.heap.size) sv tv) (hs : ∀ x ∈ sizes, 1 ≤ x ∧ x ≤ 32) (hsl : sizes.length ≤ 64) (hf : FunOk sizes f) (hl : FunLim sizes f) :
  Calls Tryz.prog 126 #[.pointer (some ⟨fb, 0, none⟩), .agg #[sv, tv]] w fun e w' => e = .returned (.bool false) ∧ Below w.heap.size w w' := by
 obtain ⟨Asc, csc, g, mb, A, c, N, rfl, hcap, rfl, h3, h4, h5, -⟩ := h
 have L6 : (pickN sizes f.scope).length ≤ 6 := by simp [pickN]; exact hl.1
 have LE : (pickN sizes f.scope).length = f.scope.length := by simp [pickN]
 have HF := hid hf
 have HL := hid hl
 have HSL := hid hsl
 have HR := hid H
 have HI := hid h3
 have HT := hid h4
 have HP6 := hid L6
 have HLE := hid LE
 have hsc6 : f.scope.length ≤ 6 := hl.1
 clear H h3 h4 h5 hs hsl hf hl L6 LE
 go_enter Tryz.func126, Tryz.ntmps126
 go_upto_region 1 with fail
 have n1 := new_val w (.cells #[.slice Asc f.scope.length csc, .pointer (some ⟨g, 0, none⟩)] 62)
 have X1 := hid (heap_alloc_new w (.cells #[.slice Asc f.scope.length csc, .pointer (some ⟨g, 0, none⟩)] 62))
 have N1 := hid n1
 have HR1 := hid (HR.out.below n1)
 have HT1 := hid (HT.out.below n1)
 have HI1 := hid (HI.out.below n1 (Nat.le_refl _))
 clear n1
 generalize w.alloc (.cells #[.slice Asc f.scope.length csc, .pointer (some ⟨g, 0, none⟩)] 62) = w1 at X1 N1 HR1 HT1 HI1 ⊢
 obtain ⟨B, hB0⟩ : ∃ B, w.heap.size = B := ⟨_, rfl⟩
 rw [hB0] at X1
 simp only [hB0]
 have HB0 := hid hB0
 clear hB0
 have b0 : w1.cell? ⟨B, 0, none⟩ = some (.slice Asc f.scope.length csc) := by rw [cell_of_row _ _ _ _ _ _ X1.out]; rfl
 have b1 : w1.cell? ⟨B, 1, none⟩ = some (.pointer (some ⟨g, 0, none⟩)) := by rw [cell_of_row _ _ _ _ _ _ X1.out]; rfl
 have f1 := HR1.out.cells.2.1
 have TK := hid (fun W (hb : Below w1.heap.size w1 W) => tpk_ok g mb N c A (pickN sizes f.scope) k _ _ W (HT1.out.below hb))
 have TA := hid (fun W (hb : Below w1.heap.size w1 W) => tparity_ok g mb N c A (pickN sizes f.scope) k _ _ W (HT1.out.below hb))
 rw [HLE.out] at TA
 have H0 : Hid (HoldQ2 w1 B fb g k f.scope.length csc Asc w1) := hid ⟨b1, f1, b0, Below.refl _ _⟩
 clear b0 b1 f1
 go_region_held3 (fun W => HoldQ2 w1 B fb g k f.scope.length csc Asc W) (first | exact holdQ2 H0.out ((Below.refl _ _).drew) | exact holdQ2 (by assumption) (by assumption) | assumption)
  ((first | (go_at_call 118; with_reducible refine (TK.out _ (HoldQ2.below (by assumption))).mono ?_; rintro e w' ⟨rfl, rfl⟩) | (go_at_call 160; with_reducible refine (TA.out _ (HoldQ2.below (by assumption))).mono ?_; rintro e w' ⟨rfl, rfl⟩)))
 have b0 : w1.cell? ⟨B, 0, none⟩ = some (.slice Asc f.scope.length csc) := H0.out.2.2.1
 clear TK TA H0
 go_upto_block 0 with fail
 go_cut [5, 6] from 29 to 56 (fun _ _ wc => Hid (Below w1.heap.size w1 wc))
 case first =>
  go_wp2_with fail
  go_loopw [5, 6, 32] (fun _ _ i wr => ∃ j : Nat, i = .int .i64 (j : Int) ∧ j ≤ f.scope.length ∧ Below w1.heap.size w1 wr) (fun _ _ i _ => f.scope.length - (intOf i).toNat)
  case atStart => exact ⟨0, rfl, Nat.zero_le _, by first | exact (Below.refl _ _).drew | exact Below.refl _ _ | exact HoldQ2.below (by assumption)⟩
  case round =>
   clear b0
   obtain ⟨j, rfl, hj, hB⟩ := hrel
   have HBB := hid hB
   clear hB
   have b0 : wr.cell? ⟨B, 0, none⟩ = some (.slice Asc f.scope.length csc) := by rw [(HBB.out.cell (p := ⟨B, 0, none⟩) (Array.getElem?_eq_some_iff.1 X1.out).1), cell_of_row _ _ _ _ _ _ X1.out]; rfl
   by_cases hlt : j < f.scope.length
   ·have d1 : decide ((j : Int) < (f.scope.length : Int)) = true := decide_eq_true (by omega)
    have IW := HI1.out.below HBB.out (Nat.le_refl _)
    obtain ⟨gs, os, rfl, hc⟩ := IW.at_ hlt
    have CI := hid (containsI_take wr csc (some ⟨gs, os, none⟩) f.scope j (nth f.scope j) IW hj (by omega))
    rw [take_once HF.out.once hlt] at CI
    have hv : nth f.scope j < sizes.length := HF.out.below _ (nth_mem hlt)
    have f2 := (HR1.out.below HBB.out).cells.2.2.1
    generalize nth f.scope j = x at hc CI hv
    have d2 : decide ((x : Int) < 0) = false := decide_eq_false (by omega)
    have d3 : decide ((sizes.length : Int) ≤ (x : Int)) = false := decide_eq_false (by omega)
    have j2 : (0 : Int) ≤ (j : Int) := by omega
    have j3 : (j : Int) ≤ 6 := by omega
    have j4 : (j : Int) ≤ (csc : Int) := by omega
    clear IW
    go_wp2_with (first | (go_at_call 49; refine CI.out.mono ?_; rintro e w' ⟨rfl, rfl⟩) | fail)
    exact ⟨⟨j + 1, by simp, by omega, HBB.out⟩, by simp [intOf]; omega⟩
   have d1 : decide ((j : Int) < (f.scope.length : Int)) = false := decide_eq_false (by omega)
   go_wp2_with fail
   go_meet
   case rel => exact HBB
 have B3 := hcut
 clear hcut b0
 have S3 : Hid (HoldQ w1 B fb g sizes.length cs f.scope.length csc As Asc wc) := hid (by
  have hc := (HR1.out.below B3.out).cells
  have hX := (B3.out.block B (Array.getElem?_eq_some_iff.1 X1.out).1).trans X1.out
  exact ⟨by rw [cell_of_row _ _ _ _ _ _ hX]; rfl, hc.2.2.1, by rw [cell_of_row _ _ _ _ _ _ hX]; rfl, B3.out⟩)
 have PI := hid (fun W (hb : Below w1.heap.size w1 W) => pickedI cs csc As Asc sizes f.scope W (by have := HSL.out; omega) (by omega) HF.out.below ((HR1.out.below hb).szs) (HI1.out.below hb (Nat.le_refl _)))
 have SZ := hid (fun W (hb : Below w1.heap.size w1 W) => tpsizes_ok g mb N c A (pickN sizes f.scope) k _ _ W (HT1.out.below hb) HP6.out)
 generalize hl1 : pickN sizes f.scope = l1 at PI SZ
 have L1 := hid (show l1.length ≤ 6 by rw [← hl1]; exact HP6.out)
 clear hl1
 have EQ := hid (fun W Aa Ab ca cb (ha : Ints W Aa l1) (hb : Ints W Ab l1) => equal_any Aa Ab ca cb l1 l1 W (by have := L1.out; omega) ha hb)
 rw [decide_eq_true (rfl : l1 = l1)] at EQ
 go_upto_region 9 with fail
 go_region_held3 (fun W => HoldQ w1 B fb g sizes.length cs f.scope.length csc As Asc W) (first | exact holdQ S3.out ((Below.refl _ _).drew) | exact holdQ (by assumption) (by assumption))
  ((first | (go_at_call 117; with_reducible refine (SZ.out _ (HoldQ.below (by assumption))).mono ?_; rintro e w' ⟨⟨v9, rfl, hO9⟩, hb⟩; obtain ⟨A9, c9, rfl, hI9⟩ := hO9.form; have HI9 := hid hI9; clear hI9 hO9) | (go_at_call 88; with_reducible refine (PI.out _ (HoldQ.below (by assumption))).mono ?_; rintro e w' ⟨⟨A8, c8, rfl, hI8⟩, hb⟩; have HI8 := hid (And.intro (HI9.out.below hb (Nat.le_refl _)) hI8); clear hI8) | (go_at_call 25; refine (EQ.out _ _ _ _ _ HI8.out.1 HI8.out.2).mono ?_; rintro e w' ⟨rfl, hb⟩)))
 have BE := hid (HoldQ.below (by assumption))
 go_wp2_with fail
 go_ret
 have hfin := then_ N1.out BE.out
 exact ⟨rfl, by first | exact hfin | exact hfin.drew | (rw [← HB0.out]; first | exact hfin | exact hfin.drew)⟩
end Go.Proofs.YtmokogkndbinlaaGreatDoor
