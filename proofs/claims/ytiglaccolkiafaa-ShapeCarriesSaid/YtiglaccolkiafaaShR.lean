/- The walk of ShapeCarries. No condition. -/
import Derived.Test.YtiglaccolkiafaaShQ
import Derived.Test.YtiglaccolkiafaaShM
import Derived.Test.YtiglaccolkiafaaCarry
import Derived.Laws.ResultCell
import Derived.Test.YtiglaccolkiafaaQrd
namespace Go.Proofs.Ytiglaccolkiafaa
open Go.RowKit Go.Shelf
set_option linter.unusedVariables false
attribute [local go_sem] Oper.semAt_some
def lastT (l : List Nat) (k : Nat) : List Nat := if k = 0 then [] else tupL l (k - 1)
/-- Between two rounds of the law's loop. -/
structure CI (w : World) (R gs gl B0 : Nat) (A : Option Addr) (c : Nat) (l : List Nat) (pre : List (Nat × Value)) (W : World) : Prop where
  res : Boxed W R 4 (.bool false)
  siz : Boxed W gs 24 (.slice A l.length c)
  ints : Ints W A l
  last : ∃ v, Boxed W gl 24 v ∧ Own W B0 v (lastT l pre.length)
  below : Below w.heap.size w W
theorem ints_from {β : Type} (B : Nat) (A : Option Addr) (l : List Nat) : OwnFrom B (fun (_ : β) W => Ints W A l) := by
  intro s X Y row hs hg hr
  rcases hs with h | ⟨g, o, rfl, hlt, hc⟩
  · exact .inl h
  · exact .inr ⟨g, o, rfl, Nat.lt_of_lt_of_le hlt hg.size, fun i hi => cell_kept (hc i hi) hg (fun r e => (hr r e).2)⟩
theorem ci_from {w : World} {R gs gl B0 : Nat} {A : Option Addr} {c : Nat} {l : List Nat} {B : Nat} (hB : w.heap.size ≤ B) : OwnFrom B (fun pre W => CI w R gs gl B0 A c l pre W) := by
  intro s X Y row hs hg hr
  refine ⟨Own.from (boxed_own R _ (fun _ : Unit => _)) B () X Y row hs.res hg hr, Own.from (boxed_own gs _ (fun _ : Unit => _)) B () X Y row hs.siz hg hr, ints_from B A l () X Y row hs.ints hg hr, ?_, ownFrom_below (Nat.le_refl _) hB () X Y row hs.below hg hr⟩
  obtain ⟨v, h1, h2⟩ := hs.last
  obtain ⟨v', h3, h4, _⟩ := Own.from (holdsRow_own B0 gl 24 3 1 (fun _ : Unit => (lastT l s.length).length) (fun _ => intC (lastT l s.length)) (fun _ _ => True)) B () X Y row ⟨v, h1, h2, trivial⟩ hg hr
  exact ⟨v', h3, h4⟩
theorem ints_set {W : World} {A : Option Addr} {l : List Nat} {g n c : Nat} {a : Option Addr} {t : TypeId} (h : Ints W A l) (hb : Boxed W g t (.slice a n c)) (u : Value) : Ints (W.setCell ⟨g, 0, none⟩ u) A l := by
  rcases h with h | ⟨g', o, rfl, hlt, hc⟩
  · exact .inl h
  · by_cases e : g' = g
    · subst e
      rcases Nat.eq_zero_or_pos l.length with h0 | h0
      · exact .inl (List.eq_nil_of_length_eq_zero h0)
      · have h1 := hc 0 h0
        rw [Nat.add_zero, cell_of_row _ _ _ _ _ _ hb] at h1
        rcases o with _ | o
        · simp at h1
        · simp at h1
    · exact .inr ⟨g', o, rfl, by simpa [World.setCell] using hlt, fun i hi => by rw [World.cell?_setCell_other _ _ _ _ (by intro e'; injection e'; omega)]; exact hc i hi⟩
theorem keep1_set {W : World} {b g : Nat} (h : b ≠ g) (i : Nat) (u : Value) : Keep1 b W (W.setCell ⟨g, i, none⟩ u) := ⟨by simp [World.setCell], Below.heap_setCell W ⟨g, i, none⟩ u b h⟩
theorem lastT_snoc (l : List Nat) (pre : List (Nat × Value)) (x : Nat × Value) : lastT l (pre ++ [x]).length = tupL l pre.length := by
  unfold lastT
  rw [List.length_append, if_neg (by simp)]
  rfl
theorem ci_fin {w W W' W2 : World} {R gs gl B0 b n' c' c : Nat} {A a : Option Addr} {l : List Nat} {pre : List (Nat × Value)} {cv : Value} (x : Nat × Value) (hK : KeepsFrom B0 W W') (hk : Keep1 b W W')
    (hres : Boxed W' R 4 (.bool false)) (hsiz : Boxed W' gs 24 (.slice A l.length c)) (hints : Ints W' A l) (hbox : Boxed W' gl 24 (.slice a n' c')) (hbelow : Below w.heap.size w W')
    (hb : Below W'.heap.size W' W2) (hO : Own W2 W'.heap.size cv (tupL l pre.length)) (d1 : R ≠ gl) (d2 : gs ≠ gl) (d3 : b ≠ gl) (hgl : w.heap.size ≤ gl) (hB : B0 ≤ W'.heap.size) (hbl : b < W'.heap.size) :
    KeepsFrom B0 W (W2.setCell ⟨gl, 0, none⟩ cv) ∧ Keep1 b W (W2.setCell ⟨gl, 0, none⟩ cv) ∧ CI w R gs gl B0 A c l (pre ++ [x]) (W2.setCell ⟨gl, 0, none⟩ cv) := by
  have hgg : W'.grownBy W2 none := ⟨hb.os, hb.tape, hb.output, hb.size, fun k hk _ => hb.block k hk⟩
  have k1 : KeepsFrom B0 W' W2 := KeepsFrom.of_grownBy hgg (fun j e => by cases e)
  have bx2 := (hb.block gl hbox.lt).trans hbox
  refine ⟨(hK.trans k1).trans ((KeepsOthers.setCell _ _ _).from _), (hk.trans (Keep1.of_below hb hbl)).trans (keep1_set d3 0 cv), ?_⟩
  refine ⟨Boxed.other ((hb.block R hres.lt).trans hres) d1 cv, Boxed.other ((hb.block gs hsiz.lt).trans hsiz) d2 cv, ints_set (hints.below hb (Nat.le_refl _)) bx2 cv, ⟨cv, Boxed.set cv bx2, ?_⟩, (then_ hbelow hb).setCell (p := ⟨gl, 0, none⟩) hgl _⟩
  rw [lastT_snoc]
  exact (Own.less (ownsRow_setCell_below hO (show (⟨gl, 0, none⟩ : Addr).block < W'.heap.size from hbox.lt) cv) hB)
theorem box_below {W W' : World} {b : Nat} {t : TypeId} {v : Value} (h : Boxed W b t v) (hb : Below W.heap.size W W') : Boxed W' b t v := (hb.block b h.lt).trans h
theorem clone_any' (A : Option Addr) (n c : Nat) (l : List Nat) (w : World) (hn : n = l.length) (hl : l.length ≤ 1000000) (hw : Ints w A l) :
    Calls Try.prog 20 #[.slice A n c] w fun e w' => (∃ v, e = .returned v ∧ Own w' w.heap.size v l) ∧ Below w.heap.size w w' := by
  subst hn
  exact clone_any A c l w hl hw
theorem ints_grown {X Y : World} {g : Nat} {A : Option Addr} {l : List Nat} (h : Ints X A l) (hg : X.grownBy Y (some g)) (hne : ∀ a : Addr, A = some a → a.block ≠ g) : Ints Y A l := by
  rcases h with h | ⟨g', o, rfl, hlt, hc⟩
  · exact .inl h
  · exact .inr ⟨g', o, rfl, Nat.lt_of_lt_of_le hlt hg.size, fun i hi => World.grownBy.cell hg (hc i hi) (fun e => hne _ rfl (by injection e))⟩
theorem below_grown {w X Y : World} {B g : Nat} (h : Below B w X) (hg : X.grownBy Y (some g)) (hB : B ≤ w.heap.size) (hBg : B ≤ g) : Below B w Y :=
  ⟨hg.os.trans h.os, hg.tape.trans h.tape, hg.output.trans h.output, Nat.le_trans h.size hg.size, fun k hk =>
    (hg.block k (by have := h.size; omega) (fun e => by injection e; omega)).trans (h.block k hk)⟩
theorem keep_grown {X Y : World} {B b g k : Nat} {v : Value} (hg : X.grownBy Y (some g)) (hc : X.cell? ⟨g, k, none⟩ = some v) (hBg : B ≤ g) (hb : b < B) (hX : b < X.heap.size) : KeepsFrom B X Y ∧ Keep1 b X Y :=
  ⟨⟨hg.size, fun j o hB hj ho => by
    by_cases e : j = g
    · subst e
      simp only [World.cell?, hj] at hc
      cases o <;> simp_all [Obj.isCells]
    · exact (hg.block j (Array.getElem?_eq_some_iff.1 hj).1 (fun e' => e (by injection e'))).trans hj⟩, hg.size, hg.block b hX (fun e => by injection e; omega)⟩
theorem grown_drew {X Y : World} {row : Option Nat} (h : X.grownBy Y row) (n : Nat) : X.grownBy (Y.drewN n) row := ⟨h.os, h.tape, h.output, h.size, h.block⟩
set_option maxRecDepth 100000 in
set_option maxHeartbeats 4000000 in
theorem carries_walk (A : Option Addr) (n c : Nat) (z : Nat → Int) (w : World) (hn : (n : Int) ≤ 9223372036854775807) (hz : Bytes w A n z) :
    Calls Try.prog 7 #[.slice A n c] w fun e w' => e = .returned (.bool true) ∧ Below w.heap.size w w' := by
  have HZ := Lib.hid hz
  have HM := Lib.hid (fun W (h : Bytes W A n z) => small_any A n c z W hn h)
  have hl := smL_small z (min n 3)
  have hlen : (smL z (min n 3)).length ≤ 3 := by rw [smL_len]; omega
  generalize smL z (min n 3) = l at HM hl hlen
  clear hz hn
  have h6 : l.length ≤ 6 := by omega
  have H32 : Hid (∀ n ∈ l, 1 ≤ n ∧ n ≤ 32) := Lib.hid fun n hn => by have := hl n hn; omega
  obtain ⟨P, hP⟩ : ∃ P, prodL l = P := ⟨_, rfl⟩
  have hP2 : P ≤ 64 := by have := (prodL_small hl hlen).2; omega
  have hP1 : 1 ≤ P := by have := (prodL_small hl hlen).1; omega
  have HP := Lib.hid hP
  have HL := Lib.hid hl
  clear hl hP
  have B0 := Lib.hid (new_val w (.cells #[.bool false] 4))
  have R0 : Hid (Boxed (w.alloc (.cells #[.bool false] 4)) w.heap.size 4 (.bool false)) := Lib.hid (Boxed.new w _ _)
  refine (callsIn_wide (n := 3)).1 (callsIn_of_wp_marks Try.func7 rfl trivial ?_ rfl)
  simp only [Try.ntmps7, List.size_toArray, List.length_cons, List.length_nil, Nat.reduceAdd, Nat.reduceSub, Array.replicate_succ, Array.replicate_zero, List.push_toArray, List.append_toArray, List.nil_append, List.cons_append]
  refine wpIn_wide.2 ?_
  go_wp2_with fail
  refine (awake_true _).mono ?_
  rintro e w1 ⟨rfl, b1⟩
  have B1 := Lib.hid (then_ B0.out b1)
  have R1 := Lib.hid (box_below R0.out b1)
  clear b1
  go_wp2_with fail
  refine (HM.out _ (HZ.out.below B1.out)).mono ?_
  rintro e w2 ⟨⟨v, rfl, hO⟩, b2⟩
  obtain ⟨A2, c2, rfl, hI2⟩ := hO.form
  have B2 := Lib.hid (then_ B1.out b2)
  have R2 := Lib.hid (box_below R1.out b2)
  have I2 := Lib.hid hI2
  clear hO hI2 b2
  go_upto_region 4 with fail
  have n3 := new_val w2 (.cells #[.slice A2 l.length c2] 24)
  have B3 := Lib.hid (then_ B2.out n3)
  have R3 := Lib.hid (box_below R2.out n3)
  have I3 := Lib.hid (I2.out.below n3 (Nat.le_refl _))
  have S3 := Lib.hid (Boxed.new w2 24 (.slice A2 l.length c2))
  clear n3
  generalize w2.alloc (.cells #[.slice A2 l.length c2] 24) = w3 at B3 R3 I3 S3 ⊢
  have k3 := S3.out.cell
  go_wp2_with fail
  refine (new_mid' A2 l.length c2 l w3 rfl h6 I3.out H32.out (by rw [HP.out]; omega)).mono ?_
  rintro e w4 ⟨rfl, b4⟩
  have B4 := Lib.hid (then_ B3.out b4)
  have R4 := Lib.hid (box_below R3.out b4)
  have I4 := Lib.hid (I3.out.below b4 (Nat.le_refl _))
  have S4 := Lib.hid (box_below S3.out b4)
  clear b4 k3
  go_upto_region 5 with ((with_reducible show wpList _ _ _ (Oper.mk none (.store 28 _ _) _ _ _ _ :: _) _ _)
                         refine wpList_store_row rfl 28 (.tmp 4) (.tmp 19) rfl w4.heap.size (shC l) rfl rfl 28 (shC0 0) (heap_alloc_new _ _) (by kernel_rfl) rfl (sh_one l) ?_
                         rw [World.setRow_alloc_new])
  have n5 := new_val w4 (shO l)
  have H5 := Lib.hid (ShAt.new w4 l)
  have B5 := Lib.hid (then_ B4.out n5)
  have R5 := Lib.hid (box_below R4.out n5)
  have I5 := Lib.hid (I4.out.below n5 (Nat.le_refl _))
  have S5 := Lib.hid (box_below S4.out n5)
  clear n5
  generalize w4.alloc (.cells (shC l) 28) = w5 at H5 B5 R5 I5 S5 ⊢
  go_upto_region 6 with fail
  have n6 := new_val w5 (.cells #[.slice none 0 0] 24)
  have H6 := Lib.hid (H5.out.next n6)
  have B6 := Lib.hid (then_ B5.out n6)
  have R6 := Lib.hid (box_below R5.out n6)
  have I6 := Lib.hid (I5.out.below n6 (Nat.le_refl _))
  have S6 := Lib.hid (box_below S5.out n6)
  have L6 := Lib.hid (Boxed.new w5 24 (.slice none 0 0))
  clear n6
  generalize w5.alloc (.cells #[.slice none 0 0] 24) = w6 at H6 B6 R6 I6 S6 L6 ⊢
  obtain ⟨d0, d1, d2, d3, d4, d5, d6, dlt, dfz⟩ := H6.out
  go_wp2_with fail
  refine (all_call l w6).mono ?_
  rintro e w7 ⟨rfl, rfl⟩
  clear d0 d1 d2 d3 d4 d5 d6 dfz
  have n7 := new_val w6 (shO l)
  have H7 := Lib.hid (ShAt.new w6 l)
  have C7 : Hid (CI w w.heap.size w2.heap.size w5.heap.size (w6.alloc (shO l)).heap.size A2 c2 l [] (w6.alloc (shO l))) :=
    Lib.hid ⟨box_below R6.out n7, box_below S6.out n7, I6.out.below n7 (Nat.le_refl _), ⟨_, box_below L6.out n7, own_nil _ _⟩, then_ B6.out n7⟩
  have q2 : w2.heap.size < w6.heap.size := S6.out.lt
  have q5 : w5.heap.size < w6.heap.size := L6.out.lt
  have qr : w.heap.size < w6.heap.size := R6.out.lt
  have q6 : (w6.alloc (shO l)).heap.size = w6.heap.size + 1 := by simp
  have qd1 : w.heap.size ≠ w5.heap.size := fun e => by
    have h := R5.out.lt
    omega
  have qd2 : w2.heap.size ≠ w5.heap.size := fun e => by
    have h := S5.out.lt
    omega
  have qw := B6.out.size
  have qw5 := B5.out.size
  clear n7
  go_wp2_with fail
  generalize w6.alloc (.cells (shC l) 28) = W0 at H7 C7 q6 ⊢
  refine (wpIn_wide (n := 3)).1 (range_good (by omega) (gf := 26) (lb := #[.pointer (some ⟨w6.heap.size, 0, none⟩)]) rfl (enters_of Try.func26 (by kernel_rfl) rfl)
    (all_good 2 (by omega) l P w6.heap.size h6 H32.out HP.out (by omega) W0 H7.out) (by omega) (fun _ => rfl) (fun B pre x => goodT_own l B _ pre x)
    (fun pre W => CI w w.heap.size w2.heap.size w5.heap.size W0.heap.size A2 c2 l pre W) (ci_from (by omega)) C7.out
    (fun x => { tmps := #[Value.slice A n c, undef, Value.pointer (some ⟨w.heap.size, 0, none⟩), Value.pointer (some ⟨w2.heap.size, 0, none⟩), Value.pointer (some ⟨w4.heap.size, 0, none⟩), Value.int .i64 0, Value.pointer (some ⟨w5.heap.size, 0, none⟩), .int .i64 (x.1 : Int), x.2, undef, undef, undef, Value.bool true, Value.bool false, Value.slice A n c, Value.slice A2 l.length c2, Value.tuple #[shV l, Value.int .i64 0], Value.slice A2 l.length c2, Value.tuple #[shV l, Value.int .i64 0], shV l, Value.int .i64 0, Value.agg #[Value.int .i64 (l.length : Int), szV l 0, szV l 1, szV l 2, szV l 3, szV l 4, szV l 5], Value.func (.func 26) #[] #[Value.pointer (some ⟨w6.heap.size, 0, none⟩)], .int .i64 (x.1 : Int), x.2, undef, undef, undef, undef, undef, undef, undef, undef, undef, undef, undef, undef, undef, undef, undef, undef, undef, undef, undef, undef, undef, undef, undef, undef, undef, undef, undef, undef, undef, undef, undef, undef, undef, undef, undef, undef, undef, undef, undef, undef, undef, undef, undef, undef, undef, undef, undef, undef, undef, undef, undef, undef, undef], defers := [] }) ?assign ?body ?done)
  case assign =>
    intro y x W K hK
    gi_wp2
    exact hK
  case body =>
    rintro y pre ⟨i, v⟩ Wp W hy hloop hIp hI heq ⟨hi, hiP, hO⟩
    obtain rfl : i = pre.length := hi
    have hiP : pre.length < prodL l := hiP
    have hO : Own W Wp.heap.size v (tupL l pre.length) := hO
    obtain ⟨At, ct, hv, hT⟩ := hO.form
    rw [tupL_length] at hv
    subst hv
    obtain ⟨lv, hbx, hLo⟩ := hI.last
    obtain ⟨lv', hbx', hLo'⟩ := hIp.last
    have hlv : lv = lv' := by
      have h1 : W.heap[w5.heap.size]? = some (.cells #[lv] 24 (0, 0)) := hbx
      have h2 : Wp.heap[w5.heap.size]? = some (.cells #[lv'] 24 (0, 0)) := hbx'
      rw [heq w5.heap.size (by omega), h2] at h1
      injection h1 with h1
      injection h1 with h1
      simpa using h1.symm
    subst hlv
    have hLB := hLo'.lt
    have hW := (World.grownBy.refl W none).size
    obtain ⟨Ag, cg, hlvs, hIl⟩ := hLo.form
    have HCI := Lib.hid hI
    have HO := Lib.hid hO
    have HT := Lib.hid hT
    have HLo := Lib.hid hLo
    have HBX := Lib.hid hbx
    have HLB := Lib.hid hLB
    have HIP := Lib.hid hiP
    have hWsz : W0.heap.size ≤ W.heap.size := by obtain ⟨r, hr⟩ := hloop; have := (Array.getElem?_eq_some_iff.1 hr).1; omega
    clear hIp hI heq hO hT hLo hLo' hbx hbx' hLB hiP hloop
    obtain ⟨k, hk⟩ : ∃ k, pre.length = k := ⟨_, rfl⟩
    have HK := Lib.hid hk
    cases k with
    | zero =>
      have hl0 : lastT l pre.length = [] := by rw [hk]; rfl
      rw [hl0] at hlvs
      subst hlvs
      have kb := HBX.out.cell
      have kf := HBX.out.frozen
      have kl := HBX.out.lt
      show Code.wpIn _ _ _ _ _ _ _
      rw [hk]
      clear hk hl0 hIl
      gi_wp2_with fail
      refine ⟨trivial, ?_⟩
      refine (CallsIn.inRound y (callsIn_wide.2 (clone_any' At l.length ct (tupL l pre.length) W (tupL_length _ _).symm (by rw [tupL_length]; omega) HT.out))).mono ?_
      rintro e W2 ⟨⟨cv, rfl, hCO⟩, hb⟩
      obtain ⟨Ac, cc, hcv, _⟩ := hCO.form
      rw [tupL_length] at hcv
      subst hcv
      have k2 := (box_below HBX.out hb).cell
      have f2 := (box_below HBX.out hb).frozen
      have FIN := Lib.hid (ci_fin (x := (0, .slice At l.length ct)) (b := w6.heap.size) (KeepsFrom.refl W0.heap.size W) (Keep1.refl _ W) HCI.out.res HCI.out.siz HCI.out.ints HBX.out HCI.out.below hb hCO qd1 qd2 (by omega) (by omega) hWsz (by omega))
      clear hb hCO kb kf
      gi_wp2
      exact FIN.out
    | succ i =>
      have hl0 : lastT l pre.length = tupL l i := by rw [hk]; rfl
      rw [hl0] at hlvs hIl
      rw [tupL_length] at hlvs
      subst hlvs
      have HLo2 : Hid (Own W W0.heap.size (.slice Ag l.length cg) (tupL l i)) := Lib.hid (by rw [← hl0]; exact HLo.out)
      have HiP : Hid (i + 1 < prodL l) := Lib.hid (by have := HIP.out; omega)
      have kb := HBX.out.cell
      have kf := HBX.out.frozen
      have kl := HBX.out.lt
      have ks := HCI.out.siz.cell
      have hi0 : 0 < (i : Int) + 1 := by omega
      have hl3 : (l.length : Int) ≤ 3 := by omega
      rw [hk]
      clear hk hl0 hIl HLo
      gi_wp2_with fail
      gi_loopw [9] (fun p wr => ∃ m : Nat, m ≤ l.length ∧ p = .int .i64 ((m : Int) - 1) ∧ Own wr W0.heap.size (.slice Ag l.length cg) (zb (tupL l i) m) ∧ W.grownBy wr (Value.ownBlock (.slice Ag l.length cg)) ∧ ∀ q, m ≤ q → q < l.length → nth (tupL l i) q + 1 = nth l q) (fun p _ => ((intOf p) + 1).toNat)
      case atStart => exact ⟨l.length, Nat.le_refl _, rfl, by have h := zb_all (tupL l i); rw [tupL_length] at h; rw [h]; exact HLo2.out, World.grownBy.refl _ _, fun q a b => by omega⟩
      case round =>
        obtain ⟨m, hm, rfl, hOm, hGm, hq⟩ := hrel
        have HOm := Lib.hid hOm
        have HGm := Lib.hid hGm
        have HQm := Lib.hid hq
        clear hOm hGm hq
        rcases m with _ | p
        · exfalso
          have := last_max (fun n hn => (H32.out n hn).1) (by have := HiP.out; omega) (fun q hq => HQm.out q (Nat.zero_le _) hq)
          have := HiP.out
          omega
        · have e1 : ((p + 1 : Nat) : Int) - 1 = (p : Int) := by omega
          rw [e1]
          clear e1
          have hp : p < l.length := hm
          obtain ⟨g, rfl, hbg, hgs, hcell, hfr, hO', hg'⟩ := HOm.out.store' (j := p) (by rw [zb_len, tupL_length]; exact hp) (by rw [zb_len, tupL_length]) 0
          obtain ⟨gA, oA, rfl, hltA, _⟩ : ∃ gA oA, A2 = some ⟨gA, oA, none⟩ ∧ gA < w6.heap.size ∧ True := by
            rcases I6.out with h | ⟨gA, oA, e, hlt, _⟩
            · rw [h] at hp
              exact absurd hp (by simp)
            · exact ⟨gA, oA, e, hlt, trivial⟩
          have hcs : wr.cell? ⟨gA, oA + p, none⟩ = some (.int .i64 (nth l p : Int)) := by
            obtain ⟨g1, o1, e, hc⟩ := HCI.out.ints.at_ hp
            injection e with e
            injection e with e1 e2
            subst e1 e2
            exact World.grownBy.cell HGm.out hc (by show some gA ≠ some g; intro e; injection e; omega)
          have bL : Boxed wr w5.heap.size 24 (.slice (some ⟨g, 0, none⟩) l.length cg) := HBX.out.kept HGm.out (by show some w5.heap.size ≠ some g; intro e; injection e; omega)
          have bS : Boxed wr w2.heap.size 24 (.slice (some ⟨gA, oA, none⟩) l.length c2) := HCI.out.siz.kept HGm.out (by show some w2.heap.size ≠ some g; intro e; injection e; omega)
          have cL := bL.cell
          have cS := bS.cell
          have hv := (inL_iff.1 (tupL_in (fun n hn => (H32.out n hn).1) (l := l) i)).2 p hp
          have hnl := HL.out _ (nth_mem hp)
          rw [nth_zb _ _ _ (by rw [tupL_length]; exact hp), if_pos (by omega)] at hcell
          have HO' := Lib.hid hO'
          have HG' := Lib.hid (grown_then HGm.out (show wr.grownBy _ (Value.ownBlock (.slice (some ⟨g, 0, none⟩) l.length cg)) from hg'))
          have BL := Lib.hid bL
          have BS := Lib.hid bS
          clear hO' hg' bL bS hO hiP
          have HV := Lib.hid (show nth (tupL l i) p = nth (tupL l i) p from rfl)
          have hp0 : ((0 : Int) ≤ (p : Int)) := by omega
          have hpl : (p : Int) < (l.length : Int) := by omega
          by_cases hc : (nth (tupL l i) p : Int) = (nth l p : Int) - 1
          · have hr1 : (nth l p : Int) - 1 ≤ 31 := by omega
            gi_wp2
            refine quiet_round _ (by kernel_rfl) (by kernel_rfl) (by kernel_rfl) ?_
            repeat (gi_big_quiet_step (fail))
            refine wpQuietIn_nil ?_
            intro _ hw'
            obtain ⟨nq, hw''⟩ := hw'
            subst hw''
            gi_wp2
            have hp2 : nth (tupL l i) p + 1 = nth l p := by omega
            refine ⟨⟨p, Nat.le_of_lt hp, rfl, ?_, grown_drew HG'.out nq, fun q a b => ?_⟩, ?_⟩
            · have h := HO'.out
              rw [zb_set _ _ (by rw [tupL_length]; exact hp)] at h
              exact h
            · rcases Nat.lt_or_ge p q with h | h
              · exact HQm.out q h b
              · obtain rfl : q = p := by omega
                exact hp2
            · show ((p : Int) - 1 + 1).toNat < ((p : Int) + 1).toNat
              omega
          · obtain ⟨g2, e2, _, _, _, _, hO2, hg2⟩ := HOm.out.store' (j := p) (by rw [zb_len, tupL_length]; exact hp) (by rw [zb_len, tupL_length]) (nth (tupL l i) p + 1)
            obtain rfl : g = g2 := by injection e2 with e2; injection e2
            rw [carry (fun n hn => (H32.out n hn).1) HiP.out hp (by omega) HQm.out] at hO2
            have HO2 := Lib.hid hO2
            have HG2 := Lib.hid (grown_then HGm.out (show wr.grownBy _ (Value.ownBlock (.slice (some ⟨g, 0, none⟩) l.length cg)) from hg2))
            clear hO2 hg2 e2
            gi_wp2
            refine quiet_round _ (by kernel_rfl) (by kernel_rfl) (by kernel_rfl) ?_
            repeat (gi_big_quiet_step (fail))
            refine wpQuietIn_nil ?_
            intro _ hw'
            obtain ⟨nq, hw''⟩ := hw'
            subst hw''
            gi_wp2_with fail
            have O3 : Own ((wr.drewN nq).setCell ⟨g, p, none⟩ (.int .i64 ((nth (tupL l i) p : Int) + 1))) W0.heap.size (.slice (some ⟨g, 0, none⟩) l.length cg) (tupL l (i + 1)) := HO2.out
            have G3 : W.grownBy ((wr.drewN nq).setCell ⟨g, p, none⟩ (.int .i64 ((nth (tupL l i) p : Int) + 1))) (some g) := grown_drew HG2.out nq
            generalize (wr.drewN nq).setCell ⟨g, p, none⟩ (.int .i64 ((nth (tupL l i) p : Int) + 1)) = W3 at O3 G3 ⊢
            have T3 := ints_grown HT.out G3 (fun a e => by
              have h1 := (HO.out.lt a.block (by rw [e]; rfl)).1
              have h2 := (HLB.out g rfl).2
              omega)
            have I3' : Ints W3 (some ⟨g, 0, none⟩) (tupL l (i + 1)) := by
              obtain ⟨_, _, e3, I3'⟩ := O3.form
              injection e3 with e3
              subst e3
              exact I3'
            rw [HK.out] at T3
            refine ⟨trivial, ?_⟩
            refine (CallsIn.inRound y (callsIn_wide.2 (equal_yes _ _ _ _ _ (tupL l (i + 1)) W3 (tupL_length _ _).symm (by omega) I3' T3))).mono ?_
            rintro e W4 ⟨rfl, b4⟩
            obtain ⟨g9, e9, _, _, hc9, _, _, _⟩ := HLo2.out.store' (j := p) (by rw [tupL_length]; exact hp) (tupL_length _ _) 0
            obtain rfl : g = g9 := by injection e9 with e9; injection e9
            obtain ⟨K3, J3⟩ := keep_grown (B := W0.heap.size) (b := w6.heap.size) G3 hc9 (by omega) (by omega) (by omega)
            have T4 := T3.below b4 (Nat.le_refl _)
            have G4 : W3.grownBy W4 none := ⟨b4.os, b4.tape, b4.output, b4.size, fun k hk _ => b4.block k hk⟩
            have K4 := Lib.hid (K3.trans (KeepsFrom.of_grownBy (B := W0.heap.size) G4 (fun j e => by cases e)))
            have J4 := Lib.hid (J3.trans (Keep1.of_below b4 (show w6.heap.size < W3.heap.size by have := G3.size; omega)))
            have R4' := Lib.hid (box_below (HCI.out.res.kept G3 (by show some w.heap.size ≠ some g; intro e; injection e; omega)) b4)
            have S4' := Lib.hid (box_below (HCI.out.siz.kept G3 (by show some w2.heap.size ≠ some g; intro e; injection e; omega)) b4)
            have I4' := Lib.hid ((ints_grown HCI.out.ints G3 (fun a e => by injection e with e; subst e; show gA ≠ g; omega)).below b4 (Nat.le_refl _))
            have L4' := Lib.hid (box_below (HBX.out.kept G3 (by show some w5.heap.size ≠ some g; intro e; injection e; omega)) b4)
            have B4' := Lib.hid (then_ (below_grown HCI.out.below G3 (by omega) (by omega)) b4)
            have hW4 : W0.heap.size ≤ W4.heap.size := by have := G3.size; have := b4.size; omega
            clear b4 G4 G3 O3 T3 K3 J3 I3' hc9
            gi_wp2_with fail
            refine ⟨trivial, ?_⟩
            refine (CallsIn.inRound y (callsIn_wide.2 (clone_any' At l.length ct (tupL l (i + 1)) W4 (tupL_length _ _).symm (by rw [tupL_length]; omega) T4))).mono ?_
            rintro e W5 ⟨⟨cv, rfl, hCO⟩, hb⟩
            obtain ⟨Ac, cc, hcv, _⟩ := hCO.form
            rw [tupL_length] at hcv
            subst hcv
            have k5 := (box_below L4'.out hb).cell
            have f5 := (box_below L4'.out hb).frozen
            have FIN := Lib.hid (ci_fin (pre := pre) (x := (i + 1, .slice At l.length ct)) (b := w6.heap.size) K4.out J4.out R4'.out S4'.out I4'.out L4'.out B4'.out hb (by rw [HK.out]; exact hCO) qd1 qd2 (by omega) (by omega) hW4 (by omega))
            clear hb hCO T4
            gi_wp2
            have h := FIN.out
            exact h
  case done =>
    rintro D xs W hD hS hI hK
    have hS : xs.length = P := hS
    obtain ⟨lv, hbx, hLo⟩ := hI.last
    have hl0 : lastT l xs.length = tupL l (P - 1) := by unfold lastT; rw [if_neg (by omega), hS]
    rw [hl0] at hLo
    obtain ⟨Ag, cg, hlv, hIl⟩ := hLo.form
    rw [tupL_length] at hlv
    subst hlv
    have cL := hbx.cell
    have cS := hI.siz.cell
    have cR := hI.res.cell
    have fR := hI.res.frozen
    have HI := Lib.hid hI
    have HIl := Lib.hid hIl
    have HK := Lib.hid hK
    have hl3 : (l.length : Int) ≤ 3 := by omega
    clear hI hIl hLo hbx hK hS hl0
    go_wp2
    go_loopw [65] (fun p wr => ∃ q : Nat, q ≤ l.length ∧ p = .int .i64 (q : Int) ∧ wr = W) (fun p _ => l.length - (intOf p).toNat)
    case atStart => exact ⟨0, Nat.zero_le _, rfl, rfl⟩
    case round =>
      obtain ⟨q, hq, rfl, rfl⟩ := hrel
      by_cases e : q < l.length
      · obtain ⟨g1, o1, rfl, hc1⟩ := HIl.out.at_ (i := q) (by rw [tupL_length]; exact e)
        obtain ⟨g2, o2, rfl, hc2⟩ := HI.out.ints.at_ e
        have hm := max_last (fun n hn => (H32.out n hn).1) e
        rw [HP.out] at hm
        have hnl := HL.out _ (nth_mem e)
        have h0 : (0 : Int) ≤ (q : Int) := by omega
        have h1 : (q : Int) < (l.length : Int) := by omega
        have h2 : (nth (tupL l (P - 1)) q : Int) = (nth l q : Int) - 1 := by omega
        have h3 : (1 : Int) ≤ (nth l q : Int) := by omega
        have h4 : (nth l q : Int) ≤ 4 := by omega
        go_wp2
        go_roundw
        · exact ⟨q + 1, e, rfl, trivial⟩
        · show l.length - ((q : Int) + 1).toNat < l.length - (q : Int).toNat
          omega
      · have h1 : ¬ ((q : Int) < (l.length : Int)) := by omega
        go_wp2
        have hD' := (Below.heap_setCell wr ⟨w.heap.size, 0, none⟩ (.bool true) D (by show D ≠ w.heap.size; omega)).trans HK.out
        have bR := Boxed.set (.bool true) HI.out.res
        have bW := HI.out.below.setCell (p := ⟨w.heap.size, 0, none⟩) (Nat.le_refl _) (.bool true)
        refine ⟨by simp, .inl ⟨_, _, rfl, run_takeDeferred hD', ?_⟩⟩
        generalize wr.setCell ⟨w.heap.size, 0, none⟩ (.bool true) = Wz at hD' bR bW ⊢
        have hc5 := cell_kept bR.cell (grownBy_putObj' _ D (.deferred none)) (fun r e => by cases e; exact ⟨_, hD', rfl⟩)
        refine ⟨.bool true, ?_, rfl, ?_⟩
        · simp [results, Try.f7, go_sem, hc5]
        · have hg := grownBy_putObj' Wz D (.deferred none)
          exact below_grown bW hg (Nat.le_refl _) (by omega)
end Go.Proofs.Ytiglaccolkiafaa
