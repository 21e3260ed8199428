/- Texts of this seat laid together (no statement of its own). -/
import Derived.Test.YteocbgcgfllieaaGreatDoorMgAc
import Derived.Deep.RegionWith
namespace Go.Proofs.YteocbgcgfllieaaGreatDoor
open Go.RowKit Go.Maps
set_option linter.unusedVariables false
/-- What a region of two tuples reads. -/
abbrev HoldOo (wb : World) (g1 g2 : Nat) (x1 x2 : Value) (k1 k2 o1 o2 : Int) (W : World) : Prop :=
  W.cell? ⟨g1, 0, none⟩ = some x1 ∧ W.cell? ⟨g2, 0, none⟩ = some x2 ∧ W.cell? ⟨g1, 1, none⟩ = some (.int .i64 k1) ∧ W.cell? ⟨g2, 1, none⟩ = some (.int .i64 k2) ∧ W.cell? ⟨g1, 2, none⟩ = some (.int .i64 o1) ∧ W.cell? ⟨g2, 2, none⟩ = some (.int .i64 o2) ∧ Below wb.heap.size wb W
theorem HoldOo.below {wb W : World} {g1 g2 : Nat} {x1 x2 : Value} {k1 k2 o1 o2 : Int} (H : HoldOo wb g1 g2 x1 x2 k1 k2 o1 o2 W) : Below wb.heap.size wb W := H.2.2.2.2.2.2
theorem HoldOo.next {wb W W' : World} {g1 g2 : Nat} {x1 x2 : Value} {k1 k2 o1 o2 : Int} (H : HoldOo wb g1 g2 x1 x2 k1 k2 o1 o2 W) (hb : Below W.heap.size W W') : HoldOo wb g1 g2 x1 x2 k1 k2 o1 o2 W' := by
  obtain ⟨a0, a1, a2, a3, a4, a5, h9⟩ := H
  have K : ∀ b i v, W.cell? ⟨b, i, none⟩ = some v → W'.cell? ⟨b, i, none⟩ = some v := fun b i v h => (hb.cell (p := ⟨b, i, none⟩) (World.block_lt_of_cell? W _ h)).trans h
  exact ⟨K _ _ _ a0, K _ _ _ a1, K _ _ _ a2, K _ _ _ a3, K _ _ _ a4, K _ _ _ a5, h9.trans (hb.mono h9.size)⟩
theorem TpAt.both {w : World} {g b N c g' b' N' c' : Nat} {A A' : Option Addr} {l l' : List Nat} {k o k' o' : Int} {f f' : List Nat → Int} (H : TpAt w g b A c N l k o f) (H' : TpAt w g' b' A' c' N' l' k' o' f') :
    HoldOo w g g' (.slice A l.length c) (.slice A' l'.length c') k k' o o' w := by
  obtain ⟨a0, a1, a2, a3⟩ := H.cells
  obtain ⟨b0, b1, b2, b3⟩ := H'.cells
  exact ⟨a0, b0, a1, b1, a2, b2, Below.refl _ _⟩
theorem eql_ptr_nil (g : Nat) (w : World) : (binOp .eql 52 (.pointer (some ⟨g, 0, none⟩)) (.pointer none)).run Tryz.prog w = .ok (.bool false) w := by
  have h : Tryz.prog.underlying 52 = some (.pointer (Tryz.prog.pointee 52)) := by kernel_rfl
  have h1 : ∀ d : Nat, (Op.equalIn (d + 1) 52 (.pointer (some ⟨g, 0, none⟩)) (.pointer none)).run Tryz.prog w = .ok false w := fun d => by simp [Op.equalIn, run_underlying h]
  simp only [binOp]
  simp [Op.equal, Op.maxDepth, h1 9999]
theorem walks_below {W W' : World} (hb : Below W.heap.size W W') : KeepsWalks W W' := ⟨hb.size, fun k o hk _ => (hb.block k (Array.getElem?_eq_some_iff.1 hk).1).trans hk⟩
/-- A bool says whether. -/
def IsB (r : Bool) (p : Prop) : Prop := r = true ↔ p
/-- What Same answers. -/
def SmPost (w : World) (l l' : List Nat) (f f' : List Nat → Int) (e : Ending) (w' : World) : Prop :=
  ∃ r : Bool, e = .returned (.bool r) ∧ (r = true ↔ l = l' ∧ SameF l f f') ∧ Below w.heap.size w w'
set_option maxRecDepth 100000 in
set_option maxHeartbeats 4000000 in
theorem tpsame_sizes (g b N c g' b' N' c' : Nat) (A A' : Option Addr) (l l' : List Nat) (k o o' : Int) (f f' : List Nat → Int) (w : World) (H : TpAt w g b A c N l k o f) (H' : TpAt w g' b' A' c' N' l' k o' f') (h6 : l.length ≤ 6) (hne : l ≠ l') :
    Calls Tryz.prog 19 #[.pointer (some ⟨g, 0, none⟩), .pointer (some ⟨g', 0, none⟩)] w (SmPost w l l' f f') := by
  have q1 := eql_ptr_nil g w
  have q2 := eql_ptr_nil g' w
  have HH := Lib.hid (H.both H')
  have HE : Hid (∀ W, Below w.heap.size w W → Calls Tryz.prog 18 #[.slice A l.length c, .slice A' l'.length c'] W fun e w' => e = .returned (.bool false) ∧ Below W.heap.size W w') := Lib.hid fun W hb =>
    (equal_any A A' c c' l l' W (by omega) (H.below hb).ints (H'.below hb).ints).mono (by
      rintro e w' ⟨h1, h2⟩
      refine ⟨?_, h2⟩
      rw [h1, decide_eq_false hne])
  have HN := Lib.hid hne
  clear H H' hne
  go_enter Tryz.func19, Tryz.ntmps19
  go_upto_region 3 with fail
  refine wp_region_noPanic ?_
  refine wp_region_held_drew (S := fun W => HoldOo w g g' (.slice A l.length c) (.slice A' l'.length c') k k o o' W) (by kernel_rfl) (HoldOo.next HH.out ((Below.refl _ _).drew)) (fun hHeld => ?_)
  generalize w.drew = w6 at hHeld ⊢
  refine wpAnyH_take (i := 0) (v := ?v301) rfl (by kernel_rfl) (by kernel_rfl) (by kernel_rfl) (fun _ _ _ h => h) (Or.inl ⟨by rfl, ?y301⟩) (by assumption) ?r301
  case y301 => ((intro w hSw; (try dsimp only at hSw); go_simp); try with_reducible rfl)
  try simp only [Act.put, List.getElem_toArray, List.getElem_cons_zero, List.setIfInBounds_toArray, List.set_cons_zero, List.set_cons_succ]
  refine wpAnyH_take (i := 1) (v := ?v302) rfl (by kernel_rfl) (by kernel_rfl) (by kernel_rfl) (fun _ _ _ h => h) (Or.inl ⟨by rfl, ?y302⟩) (by assumption) ?r302
  case y302 => ((intro w hSw; (try dsimp only at hSw); go_simp); try with_reducible rfl)
  try simp only [Act.put, List.getElem_toArray, List.getElem_cons_succ, List.getElem_cons_zero, List.setIfInBounds_toArray, List.set_cons_zero, List.set_cons_succ]
  refine wpAnyH_take (i := 2) (v := ?v303) rfl (by kernel_rfl) (by kernel_rfl) (by kernel_rfl) (fun _ _ _ h => h) (Or.inl ⟨by rfl, ?y303⟩) (by assumption) ?r303
  case y303 => ((intro w hSw; (try dsimp only at hSw); go_simp); try with_reducible rfl)
  try simp only [Act.put, List.getElem_toArray, List.getElem_cons_succ, List.getElem_cons_zero, List.setIfInBounds_toArray, List.set_cons_zero, List.set_cons_succ]
  refine wpAnyH_take (i := 3) (v := ?v304) rfl (by kernel_rfl) (by kernel_rfl) (by kernel_rfl) (fun _ _ _ h => h) (Or.inl ⟨by rfl, ?y304⟩) (by assumption) ?r304
  case y304 => ((intro w hSw; (try dsimp only at hSw); go_simp); try with_reducible rfl)
  try simp only [Act.put, List.getElem_toArray, List.getElem_cons_succ, List.getElem_cons_zero, List.setIfInBounds_toArray, List.set_cons_zero, List.set_cons_succ]
  refine wpAnyH_take (i := 4) (v := ?v305) rfl (by kernel_rfl) (by kernel_rfl) (by kernel_rfl) (fun _ _ _ h => h) (Or.inl ⟨by rfl, ?y305⟩) (by assumption) ?r305
  case y305 => ((intro w hSw; (try dsimp only at hSw); go_simp); try with_reducible rfl)
  try simp only [Act.put, List.getElem_toArray, List.getElem_cons_succ, List.getElem_cons_zero, List.setIfInBounds_toArray, List.set_cons_zero, List.set_cons_succ]
  refine wpAnyH_take (i := 5) (v := ?v306) rfl (by kernel_rfl) (by kernel_rfl) (by kernel_rfl) (fun _ _ _ h => h) (Or.inl ⟨by rfl, ?y306⟩) (by assumption) ?r306
  case y306 => ((intro w hSw; (try dsimp only at hSw); go_simp); try with_reducible rfl)
  try simp only [Act.put, List.getElem_toArray, List.getElem_cons_succ, List.getElem_cons_zero, List.setIfInBounds_toArray, List.set_cons_zero, List.set_cons_succ]
  refine wpAnyH_take (i := 6) (v := ?v307) rfl (by kernel_rfl) (by kernel_rfl) (by kernel_rfl) (fun _ _ _ h => h) (Or.inl ⟨by rfl, ?y307⟩) (by assumption) ?r307
  case y307 => ((intro w hSw; (try dsimp only at hSw); go_simp); try with_reducible rfl)
  try simp only [Act.put, List.getElem_toArray, List.getElem_cons_succ, List.getElem_cons_zero, List.setIfInBounds_toArray, List.set_cons_zero, List.set_cons_succ]
  refine wpAnyH_take (i := 7) (v := ?v308) rfl (by kernel_rfl) (by kernel_rfl) (by kernel_rfl) (fun _ _ _ h => h) (Or.inl ⟨by rfl, ?y308⟩) (by assumption) ?r308
  case y308 => ((intro w hSw; (try dsimp only at hSw); go_simp); try with_reducible rfl)
  try simp only [Act.put, List.getElem_toArray, List.getElem_cons_succ, List.getElem_cons_zero, List.setIfInBounds_toArray, List.set_cons_zero, List.set_cons_succ]
  refine wpAnyH_ready (rs := [8]) (by kernel_rfl) (by simp) ?_
  refine AllReadyH.cons rfl (fun K hK => ?_) ?_
  · go_simp
    refine (HE.out _ (HoldOo.below hHeld)).mono ?_
    rintro e wS ⟨rfl, hb⟩
    refine hK.out _ _ (HoldOo.next hHeld hb) (fun hHeld' => ?_)
    clear hHeld
    have hHeld := hHeld'
    clear hHeld'
    clear hb
    clear hK K
    try simp only [Act.put, List.getElem_toArray, List.getElem_cons_succ, List.getElem_cons_zero, List.setIfInBounds_toArray, List.set_cons_zero, List.set_cons_succ]
    refine wpAnyH_take (i := 9) (v := ?v309) rfl (by kernel_rfl) (by kernel_rfl) (by kernel_rfl) (fun _ _ _ h => h) (Or.inl ⟨by rfl, ?y309⟩) (by assumption) ?r309
    case y309 => ((intro w hSw; (try dsimp only at hSw); go_simp); try with_reducible rfl)
    try simp only [Act.put, List.getElem_toArray, List.getElem_cons_succ, List.getElem_cons_zero, List.setIfInBounds_toArray, List.set_cons_zero, List.set_cons_succ]
    refine wpAnyH_take (i := 10) (v := ?v310) rfl (by kernel_rfl) (by kernel_rfl) (by kernel_rfl) (fun _ _ _ h => h) (Or.inl ⟨by rfl, ?y310⟩) (by assumption) ?r310
    case y310 => ((intro w hSw; (try dsimp only at hSw); go_simp); try with_reducible rfl)
    try simp only [Act.put, List.getElem_toArray, List.getElem_cons_succ, List.getElem_cons_zero, List.setIfInBounds_toArray, List.set_cons_zero, List.set_cons_succ]
    refine wpAnyH_take (i := 11) (v := undef) rfl (by kernel_rfl) (by kernel_rfl) (by kernel_rfl) (fun _ _ _ h => h) (Or.inr ⟨by rfl, rfl⟩) (by assumption) ?r311
    try simp only [Act.put, List.getElem_toArray, List.getElem_cons_succ, List.getElem_cons_zero, List.setIfInBounds_toArray, List.set_cons_zero, List.set_cons_succ]
    refine wpAnyH_take (i := 12) (v := undef) rfl (by kernel_rfl) (by kernel_rfl) (by kernel_rfl) (fun _ _ _ h => h) (Or.inr ⟨by rfl, rfl⟩) (by assumption) ?r312
    try simp only [Act.put, List.getElem_toArray, List.getElem_cons_succ, List.getElem_cons_zero, List.setIfInBounds_toArray, List.set_cons_zero, List.set_cons_succ]
    refine wpAnyH_take (i := 13) (v := undef) rfl (by kernel_rfl) (by kernel_rfl) (by kernel_rfl) (fun _ _ _ h => h) (Or.inr ⟨by rfl, rfl⟩) (by assumption) ?r313
    try simp only [Act.put, List.getElem_toArray, List.getElem_cons_succ, List.getElem_cons_zero, List.setIfInBounds_toArray, List.set_cons_zero, List.set_cons_succ]
    refine wpAnyH_take (i := 14) (v := undef) rfl (by kernel_rfl) (by kernel_rfl) (by kernel_rfl) (fun _ _ _ h => h) (Or.inr ⟨by rfl, rfl⟩) (by assumption) ?r314
    try simp only [Act.put, List.getElem_toArray, List.getElem_cons_succ, List.getElem_cons_zero, List.setIfInBounds_toArray, List.set_cons_zero, List.set_cons_succ]
    refine wpAnyH_take (i := 15) (v := undef) rfl (by kernel_rfl) (by kernel_rfl) (by kernel_rfl) (fun _ _ _ h => h) (Or.inr ⟨by rfl, rfl⟩) (by assumption) ?r315
    try simp only [Act.put, List.getElem_toArray, List.getElem_cons_succ, List.getElem_cons_zero, List.setIfInBounds_toArray, List.set_cons_zero, List.set_cons_succ]
    refine wpAnyH_take (i := 16) (v := undef) rfl (by kernel_rfl) (by kernel_rfl) (by kernel_rfl) (fun _ _ _ h => h) (Or.inr ⟨by rfl, rfl⟩) (by assumption) ?r316
    try simp only [Act.put, List.getElem_toArray, List.getElem_cons_succ, List.getElem_cons_zero, List.setIfInBounds_toArray, List.set_cons_zero, List.set_cons_succ]
    refine wpAnyH_take (i := 17) (v := undef) rfl (by kernel_rfl) (by kernel_rfl) (by kernel_rfl) (fun _ _ _ h => h) (Or.inr ⟨by rfl, rfl⟩) (by assumption) ?r317
    try simp only [Act.put, List.getElem_toArray, List.getElem_cons_succ, List.getElem_cons_zero, List.setIfInBounds_toArray, List.set_cons_zero, List.set_cons_succ]
    refine wpAnyH_take (i := 18) (v := undef) rfl (by kernel_rfl) (by kernel_rfl) (by kernel_rfl) (fun _ _ _ h => h) (Or.inr ⟨by rfl, rfl⟩) (by assumption) ?r318
    try simp only [Act.put, List.getElem_toArray, List.getElem_cons_succ, List.getElem_cons_zero, List.setIfInBounds_toArray, List.set_cons_zero, List.set_cons_succ]
    refine wpAnyH_take (i := 19) (v := undef) rfl (by kernel_rfl) (by kernel_rfl) (by kernel_rfl) (fun _ _ _ h => h) (Or.inr ⟨by rfl, rfl⟩) (by assumption) ?r319
    try simp only [Act.put, List.getElem_toArray, List.getElem_cons_succ, List.getElem_cons_zero, List.setIfInBounds_toArray, List.set_cons_zero, List.set_cons_succ]
    refine wpAnyH_take (i := 20) (v := ?v320) rfl (by kernel_rfl) (by kernel_rfl) (by kernel_rfl) (fun _ _ _ h => h) (Or.inl ⟨by rfl, ?y320⟩) (by assumption) ?r320
    case y320 => ((intro w hSw; (try dsimp only at hSw); go_simp); try with_reducible rfl)
    try simp only [Act.put, List.getElem_toArray, List.getElem_cons_succ, List.getElem_cons_zero, List.setIfInBounds_toArray, List.set_cons_zero, List.set_cons_succ]
    refine wpAnyH_done (by kernel_rfl) ?_ _
    refine NoPanic.normal ?_
    have FB := Lib.hid (HoldOo.below hHeld)
    clear hHeld
    go_wp2_with fail
    go_ret
    exact ⟨false, rfl, ⟨fun h => (by cases h), fun h => absurd h.1 HN.out⟩, FB.out⟩
  exact AllReadyH.nil
set_option maxRecDepth 100000 in
set_option maxHeartbeats 4000000 in
theorem tpsame_ok (g b N c g' b' N' c' P : Nat) (A A' : Option Addr) (l : List Nat) (k o o' : Int) (f f' : List Nat → Int) (w : World) (H : TpAt w g b A c N l k o f) (H' : TpAt w g' b' A' c' N' l k o' f') (h6 : l.length ≤ 6) (h32 : ∀ n ∈ l, 1 ≤ n ∧ n ≤ 32) (hP : prodL l = P) (hP4 : P ≤ 1073741824) :
    Calls Tryz.prog 19 #[.pointer (some ⟨g, 0, none⟩), .pointer (some ⟨g', 0, none⟩)] w (SmPost w l l f f') := by
  have q1 := eql_ptr_nil g w
  have q2 := eql_ptr_nil g' w
  have HH := Lib.hid (H.both H')
  have HE : Hid (∀ W, Below w.heap.size w W → Calls Tryz.prog 18 #[.slice A l.length c, .slice A' l.length c'] W fun e w' => e = .returned (.bool true) ∧ Below W.heap.size W w') := Lib.hid fun W hb =>
    equal_yes A A' l.length c c' l W rfl (by omega) (H.below hb).ints (H'.below hb).ints
  have HA := Lib.hid H
  have HB := Lib.hid H'
  have H32 := Lib.hid h32
  have HP := Lib.hid hP
  have DS : ∀ r : Bool, Hid (IsB r (SameF l f f')) → ∀ w', Below w.heap.size w w' → SmPost w l l f f' (.returned (.bool r)) w' := fun r h w' hb => ⟨r, rfl, ⟨fun hr => ⟨rfl, h.out.1 hr⟩, fun hr => h.out.2 hr.2⟩, hb⟩
  have DH := Lib.hid DS
  clear H H' h32 hP DS
  go_enter Tryz.func19, Tryz.ntmps19
  go_upto_region 3 with fail
  clear q1 q2
  go_region_held3 (fun W => HoldOo w g g' (.slice A l.length c) (.slice A' l.length c') k k o o' W) (first | exact HoldOo.next HH.out ((Below.refl _ _).drew) | exact HoldOo.next (by assumption) (by assumption))
    ((go_at_call 18; refine (HE.out _ (HoldOo.below (by assumption))).mono ?_; rintro e w1 ⟨rfl, b1⟩))
  have B1 : Hid (Below w.heap.size w w1) := Lib.hid (HoldOo.below (by assumption))
  clear HE HH
  have A1 := Lib.hid (HA.out.below B1.out)
  have B1' := Lib.hid (HB.out.below B1.out)
  obtain ⟨DA, ownA, repA⟩ := A1.out.map
  obtain ⟨DB, ownB, repB⟩ := B1'.out.map
  have RA := Lib.hid repA
  have RB := Lib.hid repB
  have OA := Lib.hid ownA
  have OB := Lib.hid ownB
  have SZ := Lib.hid (size_lines ownA repA h6 H32.out)
  clear ownA repA ownB repB
  obtain ⟨L, hL⟩ : ∃ L, (linesT l o f).length = L := ⟨_, rfl⟩
  have HL := Lib.hid hL
  rw [hL] at SZ
  clear hL
  have hbB : b' < w1.heap.size := B1'.out.lt
  obtain ⟨x0, x1, x2, a3⟩ := A1.out.cells
  obtain ⟨y0, y1, y2, b3⟩ := B1'.out.cells
  clear x0 x1 x2 y0 y1 y2
  go_wp2_with (first
    | (at_len; refine wpList_len_own _ rfl _ 99 rfl 103 2 Tryz.underlying99 _ b N DA rfl OA.out ?_; rw [SZ.out])
    | (at_range; refine wpList_range_own _ rfl _ 99 rfl 103 2 keyed Tryz.underlying99 _ b' N' DB rfl OB.out ?_; intro w0 hrg0 hg0 hs0) | go_in)
  have B0 : Hid (Below w.heap.size w w0) := Lib.hid (B1.out.grown hg0 B1.out.size (fun k hk => by cases hk))
  have hwr : w.heap.size ≤ w1.heap.size := B1.out.size
  clear hg0 hs0 a3 b3 OA OB SZ A1 B1'
  go_frame
  go_loopw [5, 52] (fun told _ wr => ∃ (left : Lit → Bool) (cnt : Nat) (ts : List (List Nat)) (n : Nat), wr.ranges Tryz.prog 103 (plainElem Tryz.prog 2) b' w1.heap.size N' DB left cnt ∧ told = .int .i64 (n : Int) ∧ SeenT left l o o' f f' ts n ∧ Below w.heap.size w wr)
    (fun _ _ wr => wr.rangeLeft b' w1.heap.size)
  case atStart => exact ⟨_, _, [], L, hrg0, rfl, by rw [← HL.out]; exact SeenT.start RB.out, B0.out⟩
  case round =>
    obtain ⟨left, cnt, ts, n, hrg, rfl, hS, hB⟩ := hrel
    have HS := Lib.hid hS
    have BR := Lib.hid hB
    clear hS hB B0 hrg0
    go_wp2_with (first
      | (at_next; refine wpList_next_ranges _ rfl _ rfl 103 keyed (plainElem Tryz.prog 2) id (Value.int .i64) (fun key kl hk => ⟨key, rfl⟩) (fun v y hv => by obtain ⟨c, rfl, _⟩ := plainElem_int_inv Tryz.underlying2 hv; exact ⟨c, rfl⟩) b' w1.heap.size N' DB left cnt rfl hrg ?_ ?_)
      | go_in)
    · intro hc0 hl0
      have HL0 := Lib.hid hl0
      have AX := Lib.hid (HA.out.below BR.out)
      obtain ⟨DC, ownC, repC⟩ := AX.out.map
      have RC := Lib.hid repC
      have OC := Lib.hid ownC
      clear ownC repC hl0 hc0 hrg
      obtain ⟨wx, hwx⟩ : ∃ W : World, W = wr := ⟨wr, rfl⟩
      subst hwx
      have hbA : b < wx.heap.size := AX.out.lt
      have hww : w.heap.size ≤ wx.heap.size := BR.out.size
      obtain ⟨x0, x1, x2, a3⟩ := AX.out.cells
      clear x0 x1 x2 AX
      go_wp2_with (first
        | (at_range; refine wpList_range_own _ rfl _ 99 rfl 103 2 keyed Tryz.underlying99 _ b N DC rfl OC.out ?_; intro w0 hrg0 hg0 hs0) | go_in)
      have B0 : Hid (Below w.heap.size w w0) := Lib.hid (BR.out.grown hg0 BR.out.size (fun k hk => by cases hk))
      clear hg0 hs0 a3 OC
      go_frame
      go_loopw [80] (fun _ wr => ∃ (left2 : Lit → Bool) (cnt2 : Nat), wr.ranges Tryz.prog 103 (plainElem Tryz.prog 2) b wx.heap.size N DC left2 cnt2 ∧ Went left2 l o f f' ∧ Below w.heap.size w wr)
        (fun _ wr => wr.rangeLeft b wx.heap.size)
      case atStart => exact ⟨_, _, hrg0, Went.start RC.out, B0.out⟩
      case round =>
        obtain ⟨left2, cnt2, hrg2, hW, hB⟩ := hrel
        have HW := Lib.hid hW
        have BQ := Lib.hid hB
        clear hW hB B0 hrg0
        go_wp2_with (first
          | (at_next; refine wpList_next_ranges _ rfl _ rfl 103 keyed (plainElem Tryz.prog 2) id (Value.int .i64) (fun key kl hk => ⟨key, rfl⟩) (fun v y hv => by obtain ⟨c, rfl, _⟩ := plainElem_int_inv Tryz.underlying2 hv; exact ⟨c, rfl⟩) b wx.heap.size N DC left2 cnt2 rfl hrg2 ?_ ?_)
          | go_in)
        · intro hc0 hl2
          have SA := Lib.hid (same_all HS.out HW.out (fun n hn => (H32.out n hn).1) HL0.out hl2)
          rw [HP.out] at SA
          clear hc0 hl2 HL0 hrg2
          have A4 := Lib.hid (HA.out.below BQ.out)
          have B4' := Lib.hid (HB.out.below BQ.out)
          obtain ⟨w4, hw4⟩ : ∃ W : World, W = wr := ⟨wr, rfl⟩
          subst hw4
          have HH := Lib.hid (A4.out.both B4'.out)
          have COU := Lib.hid (fun W (hb : Below w4.heap.size w4 W) => tpcount_any g b N c P A l k o f W (A4.out.below hb) h6 (fun n hn => (H32.out n hn).2) HP.out)
          clear A4 B4' RC
          by_cases ho : o = o'
          · have hoo : (o == o') = true := by simp [ho]
            have RT : Hid (IsB true (SameF l f f')) := Lib.hid ⟨fun _ => SA.out.2 (.inl ho), fun _ => rfl⟩
            clear ho
            go_upto_region 19 with fail
            refine wp_region_noPanic ?_
            refine wp_region_held_drew (S := fun W => HoldOo w4 g g' (.slice A l.length c) (.slice A' l.length c') k k o o' W) (by kernel_rfl) (HoldOo.next HH.out ((Below.refl _ _).drew)) (fun hHeld => ?_)
            generalize w4.drew = w6 at hHeld ⊢
            refine wpAnyH_take (i := 0) (v := ?v801) rfl (by kernel_rfl) (by kernel_rfl) (by kernel_rfl) (fun _ _ _ h => h) (Or.inl ⟨by rfl, ?y801⟩) (by assumption) ?r801
            case y801 => ((intro w hSw; (try dsimp only at hSw); go_simp); try with_reducible rfl)
            try simp only [Act.put, List.getElem_toArray, List.getElem_cons_zero, List.setIfInBounds_toArray, List.set_cons_zero, List.set_cons_succ]
            refine wpAnyH_take (i := 1) (v := ?v802) rfl (by kernel_rfl) (by kernel_rfl) (by kernel_rfl) (fun _ _ _ h => h) (Or.inl ⟨by rfl, ?y802⟩) (by assumption) ?r802
            case y802 => ((intro w hSw; (try dsimp only at hSw); go_simp); try with_reducible rfl)
            try simp only [Act.put, List.getElem_toArray, List.getElem_cons_succ, List.getElem_cons_zero, List.setIfInBounds_toArray, List.set_cons_zero, List.set_cons_succ]
            refine wpAnyH_take (i := 2) (v := ?v803) rfl (by kernel_rfl) (by kernel_rfl) (by kernel_rfl) (fun _ _ _ h => h) (Or.inl ⟨by rfl, ?y803⟩) (by assumption) ?r803
            case y803 => ((intro w hSw; (try dsimp only at hSw); go_simp); try with_reducible rfl)
            try simp only [Act.put, List.getElem_toArray, List.getElem_cons_succ, List.getElem_cons_zero, List.setIfInBounds_toArray, List.set_cons_zero, List.set_cons_succ]
            refine wpAnyH_take (i := 3) (v := ?v804) rfl (by kernel_rfl) (by kernel_rfl) (by kernel_rfl) (fun _ _ _ h => h) (Or.inl ⟨by rfl, ?y804⟩) (by assumption) ?r804
            case y804 => ((intro w hSw; (try dsimp only at hSw); go_simp); try with_reducible rfl)
            try simp only [Act.put, List.getElem_toArray, List.getElem_cons_succ, List.getElem_cons_zero, List.setIfInBounds_toArray, List.set_cons_zero, List.set_cons_succ]
            refine wpAnyH_take (i := 4) (v := ?v805) rfl (by kernel_rfl) (by kernel_rfl) (by kernel_rfl) (fun _ _ _ h => h) (Or.inl ⟨by rfl, ?y805⟩) (by assumption) ?r805
            case y805 => ((intro w hSw; (try dsimp only at hSw); go_simp); try with_reducible rfl)
            try simp only [Act.put, List.getElem_toArray, List.getElem_cons_succ, List.getElem_cons_zero, List.setIfInBounds_toArray, List.set_cons_zero, List.set_cons_succ]
            refine wpAnyH_take (i := 5) (v := ?v806) rfl (by kernel_rfl) (by kernel_rfl) (by kernel_rfl) (fun _ _ _ h => h) (Or.inl ⟨by rfl, ?y806⟩) (by assumption) ?r806
            case y806 => ((intro w hSw; (try dsimp only at hSw); go_simp); try with_reducible rfl)
            try simp only [Act.put, List.getElem_toArray, List.getElem_cons_succ, List.getElem_cons_zero, List.setIfInBounds_toArray, List.set_cons_zero, List.set_cons_succ]
            refine wpAnyH_take (i := 6) (v := ?v807) rfl (by kernel_rfl) (by kernel_rfl) (by kernel_rfl) (fun _ _ _ h => h) (Or.inl ⟨by rfl, ?y807⟩) (by assumption) ?r807
            case y807 => ((intro w hSw; (try dsimp only at hSw); go_simp); try with_reducible rfl)
            try simp only [Act.put, List.getElem_toArray, List.getElem_cons_succ, List.getElem_cons_zero, List.setIfInBounds_toArray, List.set_cons_zero, List.set_cons_succ]
            refine wpAnyH_take (i := 7) (v := ?v808) rfl (by kernel_rfl) (by kernel_rfl) (by kernel_rfl) (fun _ _ _ h => h) (Or.inl ⟨by rfl, ?y808⟩) (by assumption) ?r808
            case y808 => ((intro w hSw; (try dsimp only at hSw); go_simp); try with_reducible rfl)
            try simp only [Act.put, List.getElem_toArray, List.getElem_cons_succ, List.getElem_cons_zero, List.setIfInBounds_toArray, List.set_cons_zero, List.set_cons_succ]
            refine wpAnyH_take (i := 8) (v := ?v809) rfl (by kernel_rfl) (by kernel_rfl) (by kernel_rfl) (fun _ _ _ h => h) (Or.inl ⟨by rfl, ?y809⟩) (by assumption) ?r809
            case y809 => ((intro w hSw; (try dsimp only at hSw); go_simp); try with_reducible rfl)
            try simp only [Act.put, List.getElem_toArray, List.getElem_cons_succ, List.getElem_cons_zero, List.setIfInBounds_toArray, List.set_cons_zero, List.set_cons_succ]
            refine wpAnyH_take (i := 9) (v := ?v810) rfl (by kernel_rfl) (by kernel_rfl) (by kernel_rfl) (fun _ _ _ h => h) (Or.inl ⟨by rfl, ?y810⟩) (by assumption) ?r810
            case y810 => ((intro w hSw; (try dsimp only at hSw); go_simp); try with_reducible rfl)
            try simp only [Act.put, List.getElem_toArray, List.getElem_cons_succ, List.getElem_cons_zero, List.setIfInBounds_toArray, List.set_cons_zero, List.set_cons_succ]
            refine wpAnyH_take (i := 10) (v := undef) rfl (by kernel_rfl) (by kernel_rfl) (by kernel_rfl) (fun _ _ _ h => h) (Or.inr ⟨by rfl, rfl⟩) (by assumption) ?r811
            try simp only [Act.put, List.getElem_toArray, List.getElem_cons_succ, List.getElem_cons_zero, List.setIfInBounds_toArray, List.set_cons_zero, List.set_cons_succ]
            refine wpAnyH_take (i := 11) (v := undef) rfl (by kernel_rfl) (by kernel_rfl) (by kernel_rfl) (fun _ _ _ h => h) (Or.inr ⟨by rfl, rfl⟩) (by assumption) ?r812
            try simp only [Act.put, List.getElem_toArray, List.getElem_cons_succ, List.getElem_cons_zero, List.setIfInBounds_toArray, List.set_cons_zero, List.set_cons_succ]
            refine wpAnyH_take (i := 12) (v := undef) rfl (by kernel_rfl) (by kernel_rfl) (by kernel_rfl) (fun _ _ _ h => h) (Or.inr ⟨by rfl, rfl⟩) (by assumption) ?r813
            try simp only [Act.put, List.getElem_toArray, List.getElem_cons_succ, List.getElem_cons_zero, List.setIfInBounds_toArray, List.set_cons_zero, List.set_cons_succ]
            refine wpAnyH_take (i := 13) (v := undef) rfl (by kernel_rfl) (by kernel_rfl) (by kernel_rfl) (fun _ _ _ h => h) (Or.inr ⟨by rfl, rfl⟩) (by assumption) ?r814
            try simp only [Act.put, List.getElem_toArray, List.getElem_cons_succ, List.getElem_cons_zero, List.setIfInBounds_toArray, List.set_cons_zero, List.set_cons_succ]
            refine wpAnyH_take (i := 14) (v := ?v815) rfl (by kernel_rfl) (by kernel_rfl) (by kernel_rfl) (fun _ _ _ h => h) (Or.inl ⟨by rfl, ?y815⟩) (by assumption) ?r815
            case y815 => ((intro w hSw; (try dsimp only at hSw); go_simp); try with_reducible rfl)
            try simp only [Act.put, List.getElem_toArray, List.getElem_cons_succ, List.getElem_cons_zero, List.setIfInBounds_toArray, List.set_cons_zero, List.set_cons_succ]
            refine wpAnyH_take (i := 15) (v := ?v816) rfl (by kernel_rfl) (by kernel_rfl) (by kernel_rfl) (fun _ _ _ h => h) (Or.inl ⟨by rfl, ?y816⟩) (by assumption) ?r816
            case y816 => ((intro w hSw; (try dsimp only at hSw); go_simp); try with_reducible rfl)
            try simp only [Act.put, List.getElem_toArray, List.getElem_cons_succ, List.getElem_cons_zero, List.setIfInBounds_toArray, List.set_cons_zero, List.set_cons_succ]
            refine wpAnyH_done (by kernel_rfl) ?_ _
            refine NoPanic.normal ?_
            have FB := Lib.hid (HoldOo.below hHeld)
            clear hHeld
            go_wp2_with fail
            go_ret
            exact DH.out _ RT _ (BQ.out.trans (FB.out.mono BQ.out.size))
          · have hoo : (o == o') = false := by simpa using ho
            have RT : Hid (IsB (decide (n = P)) (SameF l f f')) := Lib.hid ⟨fun h => SA.out.2 (.inr (of_decide_eq_true h)), fun h => decide_eq_true ((SA.out.1 h).resolve_left ho)⟩
            have de : ((n : Int) == (P : Int)) = decide (n = P) := by
              by_cases e : n = P
              · rw [e]; simp
              · rw [decide_eq_false e, beq_eq_false_iff_ne]; omega
            clear ho
            go_upto_region 19 with fail
            go_region_held3 (fun W => HoldOo w4 g g' (.slice A l.length c) (.slice A' l.length c') k k o o' W) (first | exact HoldOo.next HH.out ((Below.refl _ _).drew) | exact HoldOo.next (by assumption) (by assumption))
              ((go_at_call 47; refine (COU.out _ (HoldOo.below (by assumption))).mono ?_; rintro e w9 ⟨rfl, rfl⟩))
            have FB : Hid (Below w4.heap.size w4 _) := Lib.hid (HoldOo.below (by assumption))
            go_wp2_with fail
            go_ret
            exact DH.out _ RT _ (BQ.out.trans (FB.out.mono BQ.out.size))
        · intro x cc kl yd yp w2 cnt3 hkey hlk hv hat hrg3 hlt hg2 hs2 hen
          have hhas : Maps.has DC kl = true := has_true_of_atKey hat
          obtain ⟨t, hin, rfl⟩ := RC.out.2 kl hhas
          obtain rfl : x = keyV t := keyed.inj hkey (keyOf_key (hin.small fun n hn => (H32.out n hn).2))
          obtain ⟨c9, e1, hc1, _⟩ := plainElem_int_inv Tryz.underlying2 hv
          have hfo : f t ≠ o := by
            have := (RC.out.1 t hin).1
            rw [hhas] at this
            exact of_decide_eq_true this.symm
          obtain rfl : cc = f t := by
            injection e1 with _ e1
            have h1 := hat (.lit (.int .i64 0))
            rw [(RC.out.1 t hin).2 hfo, (Prod.mk.inj hc1).1] at h1
            have := (Lit.int.inj (DataW.lit.inj h1)).2
            omega
          have HIN := Lib.hid hin
          have B2 : Hid (Below w.heap.size w w2) := Lib.hid (BQ.out.grown hg2 BQ.out.size (fun k hk => by injection hk; omega))
          have n3 := new_val w2 (.cells (kyC t) 103)
          have B3 := Lib.hid (B2.out.trans (n3.mono B2.out.size))
          have hrg4 := hrg3.alloc (.cells (kyC t) 103)
          obtain ⟨y0, y1, y2, y3, y4, y5⟩ := ky_cells (heap_alloc_new w2 (.cells (kyC t) 103))
          have COST := Lib.hid (tpcost_ok g' b' N' c' A' l t k o' f' _ (HB.out.below B3.out) (fun n hn => (H32.out n hn).2) HIN.out)
          clear hs2 hg2 hat hc1 e1 hv hkey hhas hfo hlk hin n3 B2 BQ
          go_upto_region 17 with ((with_reducible show wpList _ _ _ (Oper.mk none (.store 103 _ _) _ _ _ _ :: _) _ _); refine wpList_store_row rfl 103 (.tmp 10) (.tmp 83) rfl w2.heap.size (kyC t) rfl rfl 103 kyZ (heap_alloc_new _ _) (by kernel_rfl) rfl (ky_one t) ?_; rw [World.setRow_alloc_new])
          generalize w2.alloc (.cells (kyC t) 103) = w3 at *
          generalize w2.heap.size = bk at *
          by_cases he : f' t = f t
          · have d : (f' t != f t) = false := by simp [he]
            have STEP := Lib.hid (HW.out.step h6 H32.out HIN.out he)
            clear he
            go_wp2_with (go_at_call 46; refine COST.out.mono ?_; rintro e w4 ⟨rfl, b4⟩; have B4 := Lib.hid (then_ B3.out b4); have hrg5 := Lib.hid (hrg4.of_walks (walks_below b4)); clear b4)
            go_roundw
            case rel => exact ⟨_, cnt3, hrg5.out, STEP.out, B4.out⟩
            case measure => rw [hrg5.out.left_eq, hrg2.left_eq]; exact hlt
          · have d : (f' t != f t) = true := by simpa using he
            have NS : Hid (IsB false (SameF l f f')) := Lib.hid ⟨fun h => (by cases h), fun h => absurd (h t HIN.out).symm he⟩
            clear he
            go_upto_region 18 with (go_at_call 46; refine COST.out.mono ?_; rintro e w4 ⟨rfl, b4⟩)
            have B4 := Lib.hid (then_ B3.out b4)
            clear b4 COST hrg4 hrg3 hrg2 hen
            go_wp2_with fail
            go_ret
            exact DH.out false NS _ B4.out
    · intro x cc kl yd yp w2 cnt2 hkey hlk hv hat hrg2 hlt hg2 hs2 hen
      have hhas : Maps.has DB kl = true := has_true_of_atKey hat
      obtain ⟨t, hin, rfl⟩ := RB.out.2 kl hhas
      obtain rfl : x = keyV t := keyed.inj hkey (keyOf_key (hin.small fun n hn => (H32.out n hn).2))
      obtain ⟨c9, e1, hc1, _⟩ := plainElem_int_inv Tryz.underlying2 hv
      have hfo : f' t ≠ o' := by
        have := (RB.out.1 t hin).1
        rw [hhas] at this
        exact of_decide_eq_true this.symm
      obtain rfl : cc = f' t := by
        injection e1 with _ e1
        have h1 := hat (.lit (.int .i64 0))
        rw [(RB.out.1 t hin).2 hfo, (Prod.mk.inj hc1).1] at h1
        have := (Lit.int.inj (DataW.lit.inj h1)).2
        omega
      have HFO := Lib.hid hfo
      have HIN := Lib.hid hin
      have HLK := Lib.hid hlk
      have B2 : Hid (Below w.heap.size w w2) := Lib.hid (BR.out.grown hg2 BR.out.size (fun k hk => by injection hk; omega))
      have n3 := new_val w2 (.cells (kyC t) 103)
      have B3 := Lib.hid (B2.out.trans (n3.mono B2.out.size))
      have hrg3 := hrg2.alloc (.cells (kyC t) 103)
      obtain ⟨y0, y1, y2, y3, y4, y5⟩ := ky_cells (heap_alloc_new w2 (.cells (kyC t) 103))
      have COST := Lib.hid (tpcost_ok g b N c A l t k o f _ (HA.out.below B3.out) (fun n hn => (H32.out n hn).2) HIN.out)
      clear hs2 hg2 hat hc1 e1 hv hkey hhas hfo hlk hin n3 B2 BR
      go_upto_region 9 with ((with_reducible show wpList _ _ _ (Oper.mk none (.store 103 _ _) _ _ _ _ :: _) _ _); refine wpList_store_row rfl 103 (.tmp 6) (.tmp 55) rfl w2.heap.size (kyC t) rfl rfl 103 kyZ (heap_alloc_new _ _) (by kernel_rfl) rfl (ky_one t) ?_; rw [World.setRow_alloc_new])
      generalize w2.alloc (.cells (kyC t) 103) = w3 at *
      generalize w2.heap.size = bk at *
      have hn := HS.out.le (fun n hn => (H32.out n hn).1)
      rw [HP.out] at hn
      by_cases he : f t = f' t
      · have d : (f t != f' t) = false := by simp [he]
        have HEQ := Lib.hid he
        clear he
        go_upto_region 11 with (go_at_call 46; refine COST.out.mono ?_; rintro e w4 ⟨rfl, b4⟩)
        have B4 := Lib.hid (then_ B3.out b4)
        have T4 := Lib.hid (HA.out.below B4.out)
        have hrg4 := hrg3.of_walks (walks_below b4)
        have hrg5 := hrg4.of_walks (walks_below ((Below.refl w4.heap.size w4).drew))
        have CY : Hid (w4.cell? ⟨bk, 0, none⟩ = some (szV t 0) ∧ w4.cell? ⟨bk, 1, none⟩ = some (szV t 1) ∧ w4.cell? ⟨bk, 2, none⟩ = some (szV t 2) ∧ w4.cell? ⟨bk, 3, none⟩ = some (szV t 3) ∧ w4.cell? ⟨bk, 4, none⟩ = some (szV t 4) ∧ w4.cell? ⟨bk, 5, none⟩ = some (szV t 5)) := Lib.hid
          ⟨(b4.cell (p := ⟨bk, 0, none⟩) (World.block_lt_of_cell? _ _ y0)).trans y0, (b4.cell (p := ⟨bk, 1, none⟩) (World.block_lt_of_cell? _ _ y1)).trans y1, (b4.cell (p := ⟨bk, 2, none⟩) (World.block_lt_of_cell? _ _ y2)).trans y2, (b4.cell (p := ⟨bk, 3, none⟩) (World.block_lt_of_cell? _ _ y3)).trans y3, (b4.cell (p := ⟨bk, 4, none⟩) (World.block_lt_of_cell? _ _ y4)).trans y4, (b4.cell (p := ⟨bk, 5, none⟩) (World.block_lt_of_cell? _ _ y5)).trans y5⟩
        have STEP := Lib.hid (HS.out.step h6 H32.out HIN.out HFO.out HLK.out HEQ.out)
        clear y0 y1 y2 y3 y4 y5 b4 COST hrg3 hrg4 B3 d
        by_cases ho : f t = o
        · have HH : Hid (HoldCo w4 g b bk t 0 false w4.drew) := by
            have h2 := T4.out.below ((Below.refl _ _).drew)
            have hl := h2.look (fun n hn => (H32.out n hn).2) HIN.out
            rw [if_pos ho, show decide (f t ≠ o) = false from decide_eq_false (by simp [ho])] at hl
            obtain ⟨y0, y1, y2, y3, y4, y5⟩ := CY.out
            exact Lib.hid ⟨h2.cells.2.2.2, y0, y1, y2, y3, y4, y5, hl, (Below.refl _ _).drew⟩
          rw [if_pos ho] at STEP
          clear ho
          go_region_held3 (fun W => HoldCo w4 g b bk t 0 false W) (exact HH.out) (fail)
          go_wp2_with fail
          go_roundw
          case rel => exact ⟨_, cnt2, t :: ts, n + 1, hrg5, by go_num, STEP.out, B4.out.drew⟩
          case measure => rw [hrg5.left_eq, hrg.left_eq]; exact hlt
        · have HH : Hid (HoldCo w4 g b bk t (f t) true w4.drew) := by
            have h2 := T4.out.below ((Below.refl _ _).drew)
            have hl := h2.look (fun n hn => (H32.out n hn).2) HIN.out
            rw [if_neg ho, show decide (f t ≠ o) = true from decide_eq_true ho] at hl
            obtain ⟨y0, y1, y2, y3, y4, y5⟩ := CY.out
            exact Lib.hid ⟨h2.cells.2.2.2, y0, y1, y2, y3, y4, y5, hl, (Below.refl _ _).drew⟩
          rw [if_neg ho] at STEP
          clear ho
          go_region_held3 (fun W => HoldCo w4 g b bk t (f t) true W) (exact HH.out) (fail)
          go_wp2_with fail
          go_roundw
          case rel => exact ⟨_, cnt2, t :: ts, n, hrg5, rfl, STEP.out, B4.out.drew⟩
          case measure => rw [hrg5.left_eq, hrg.left_eq]; exact hlt
      · have d : (f t != f' t) = true := by simpa using he
        have NS : Hid (IsB false (SameF l f f')) := Lib.hid ⟨fun h => (by cases h), fun h => absurd (h t HIN.out) he⟩
        clear he
        go_upto_region 10 with (go_at_call 46; refine COST.out.mono ?_; rintro e w4 ⟨rfl, b4⟩)
        have B4 := Lib.hid (then_ B3.out b4)
        clear b4 COST hrg3 hrg2 hrg hen
        go_wp2_with fail
        go_ret
        exact DH.out false NS _ B4.out
end Go.Proofs.YteocbgcgfllieaaGreatDoor
