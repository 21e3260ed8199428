/- Texts of this seat laid together (no statement of its own). -/
import Derived.Test.YtpdcpaoabalgcaaGreatDoorTbA
import Derived.Test.YtpdcpaoabalgcaaGreatDoorTbN
import Derived.Test.YtpdcpaoabalgcaaGreatDoorTbM
import Derived.Test.YtpdcpaoabalgcaaGreatDoorTbV
import Derived.Test.YtpdcpaoabalgcaaGreatDoorTbO
import Derived.Test.YtpdcpaoabalgcaaGreatDoorTbQ
namespace Go.Proofs.YtpdcpaoabalgcaaGreatDoor
open Go.RowKit
set_option linter.unusedVariables false
def RepAtI (W : World) (h : Nat) (x : Int) (j n : Nat) : Prop := W.heap[h]? = some (.cells (RepL x j n).toArray 3 (0, 0))
set_option maxRecDepth 100000 in
set_option maxHeartbeats 4000000 in
theorem repeat_oneI (g c n : Nat) (x : Int) (w : World) (hc : w.cell? ⟨g, 0, none⟩ = some (.int .i64 x)) (hg : g < w.heap.size) (hn1 : 1 ≤ n) (hn : n ≤ 4096)
    (hM : ∀ W, Calls Tryz.prog 77 #[.int .u64 1, .int .u64 (n : Int)] W fun e w' => e = .returned (.tuple #[.int .u64 0, .int .u64 (n : Int)]) ∧ W = w') :
    Calls Tryz.prog 79 #[.slice (some ⟨g, 0, none⟩) 1 c, .int .i64 (n : Int)] w fun e w' => e = .returned (.slice (some ⟨w.heap.size, 0, none⟩) n n) ∧ RepAtI w' w.heap.size x n n ∧ Below w.heap.size w w' := by
  have HM := Lib.hid hM
  have hm : ∀ W, (Instr.makeSlice 27 (.int .i64 (n : Int)) (.int .i64 (n : Int))).run Tryz.prog W = .ok (.slice (some ⟨W.heap.size, 0, none⟩) n n) (W.alloc (.cells (madeCells #[.int .i64 0] n) 3)) :=
    fun W => run_make_row' 27 3 (.int .i64 0) 8 Tryz.underlying27 info_int rfl .i64 .i64 n (by omega) (by omega) W
  have hc1 : (w.alloc (.cells (RepL 0 0 n).toArray 3)).cell? ⟨g, 0, none⟩ = some (.int .i64 x) := ((new_val w (.cells (RepL 0 0 n).toArray 3)).cell (p := ⟨g, 0, none⟩) hg).trans hc
  have hrow := heap_alloc_new w (.cells (RepL 0 0 n).toArray 3)
  have hnew := new_val w (.cells (RepL 0 0 n).toArray 3)
  rw [made_list] at hm
  have HROW := Lib.hid hrow
  have HNEW := Lib.hid hnew
  have HC1 := Lib.hid hc1
  have e1 : IntKind.u64.wrap (n : Int) = (n : Int) := by show (n : Int) % 18446744073709551616 = _; omega
  have e2 : IntKind.i64.wrap (n : Int) = (n : Int) := IntWalk.i64_in _ (by omega)
  clear hM hrow hnew hc1 hc
  have hsz : (Tryz.prog.info? 3).map (·.size) = some 1 := by kernel_rfl
  go_enter Tryz.func79, Tryz.ntmps79
  go_upto_region 7 with (go_at_call 77; refine (HM.out _).mono ?_; rintro e w' ⟨rfl, rfl⟩)
  go_wp2_with (refine wpList_copy_splice rfl (.tmp 31) (.tmp 32) 27 27 rfl 3 Tryz.underlying27 hsz (some ⟨w.heap.size, 0, none⟩) (some ⟨g, 0, none⟩) n n 1 c rfl rfl w.heap.size 0 (RepL 0 0 n) 3 HROW.out (List.replicate 1 (.int .i64 x)) (by show 1 = min 1 n; omega) (fun _ => ⟨rfl, _, rfl, fun j v hj => by rcases j with _ | j; (simp at hj; subst hj; exact HC1.out); simp at hj⟩) (by rw [rep_len _ _ _ (Nat.zero_le _)]; simp; omega) (fun v hv => by simp at hv; subst hv; rfl) w.heap.size w HNEW.out (Nat.le_refl _) ?_; intro w1 hr1 hb1; have R1 : Hid (RepAtI w1 w.heap.size x 1 n) := Lib.hid (by have h := hr1.out; rw [show RepL 0 0 n = RepL x 0 n from rfl, rep_splice x 0 1 n (by omega)] at h; exact h); have B1 := Lib.hid hb1; clear hr1 hb1)
  go_loopw [8] (fun i wr => ∃ j : Nat, 1 ≤ j ∧ j ≤ n ∧ i = .int .i64 (j : Int) ∧ RepAtI wr w.heap.size x j n ∧ Below w.heap.size w wr) (fun i _ => n - (intOf i).toNat)
  case atStart => exact ⟨1, Nat.le_refl _, hn1, rfl, R1.out, B1.out⟩
  case round =>
    obtain ⟨j, hj1, hj, rfl, hr, hb⟩ := hrel
    have RJ := Lib.hid hr
    have BJ := Lib.hid hb
    clear hr hb
    by_cases hlt : j < n
    · have i1 : (j : Int) < (n : Int) := by omega
      have HCELL : Hid (∀ i v, (List.replicate (min j (n - j)) (Value.int .i64 x))[i]? = some v → wr.cell? ((⟨w.heap.size, 0, none⟩ : Addr).add i) = some v) := by
        refine Lib.hid fun i v hi => ?_
        have hl := (List.getElem?_eq_some_iff.1 hi).1
        rw [List.length_replicate] at hl
        rw [List.getElem?_replicate, if_pos hl] at hi
        obtain rfl := Option.some.inj hi
        rw [show ((⟨w.heap.size, 0, none⟩ : Addr).add i) = ⟨w.heap.size, i, none⟩ by (simp [Addr.add]; omega), cell_of_row _ _ _ _ _ _ RJ.out]
        simp only [RepL, List.getElem?_toArray]
        rw [List.getElem?_append_left (by rw [List.length_replicate]; omega), List.getElem?_replicate, if_pos (by omega)]
      have hN : Hid ((List.replicate (min j (n - j)) (Value.int .i64 x)).length = Nat.min j (n - j)) := Lib.hid (by rw [List.length_replicate])
      have hF : Hid (j + (List.replicate (min j (n - j)) (Value.int .i64 x)).length ≤ (RepL x j n).length) := Lib.hid (by rw [rep_len _ _ _ hj, List.length_replicate]; omega)
      have hO : Hid (∀ v ∈ List.replicate (min j (n - j)) (Value.int .i64 x), v.oneCell' = true) := Lib.hid (fun v hv => by obtain ⟨_, rfl⟩ := List.mem_replicate.1 hv; rfl)
      have i2 : (0 : Int) ≤ (j : Int) := by omega
      have hnj : ¬ n = j := by omega
      have i3 : (j : Int) ≤ (n : Int) := by omega
      go_wp2_with fail
      go_region_law (refine step_copy_splice rfl (.tmp 41) (.tmp 44) 27 27 rfl 3 Tryz.underlying27 hsz (some ⟨w.heap.size, j, none⟩) (some ⟨w.heap.size, 0, none⟩) (n - j) (n - j) j n (by simp [Act.eval, Act.put]) (by simp [Act.eval, Act.put]) w.heap.size j (RepL x j n) 3 RJ.out (List.replicate (min j (n - j)) (.int .i64 x)) hN.out (fun _ => ⟨rfl, _, rfl, HCELL.out⟩) hF.out hO.out w.heap.size w (by first | exact BJ.out.drew | exact next_drewN BJ.out _ | exact BJ.out) (Nat.le_refl _) ?_; intro w2 hr2 hb2; have R2 : Hid (RepAtI w2 w.heap.size x (j + min j (n - j)) n) := Lib.hid (by have h := hr2.out; rw [rep_splice x j _ n (by omega)] at h; exact h); have B2 := Lib.hid hb2; clear hr2 hb2)
      all_goals
        obtain ⟨M, hM⟩ : ∃ M, min j (n - j) = M := ⟨_, rfl⟩
        rw [hM] at R2
        simp [Act.put, hM]
        have i4 : IntKind.i64.wrap ((j : Int) + (M : Int)) = (j : Int) + (M : Int) := IntWalk.i64_in _ (by omega)
        go_wp2_with fail
        go_roundw
        case rel => exact ⟨j + M, by omega, by omega, by go_num, R2.out, B2.out⟩
        case measure => simp [intOf]; omega
    · obtain rfl : j = n := by omega
      have i1 : ¬ ((j : Int) < (j : Int)) := by omega
      go_wp2_with fail
      go_ret
      exact ⟨rfl, RJ.out, BJ.out⟩
set_option maxRecDepth 100000 in
set_option maxHeartbeats 4000000 in
theorem repeat_zeroI (g c : Nat) (x : Int) (w : World) (hc : w.cell? ⟨g, 0, none⟩ = some (.int .i64 x)) (hg : g < w.heap.size) :
    Calls Tryz.prog 79 #[.slice (some ⟨g, 0, none⟩) 1 c, .int .i64 0] w fun e w' => e = .returned (.slice (some ⟨w.heap.size, 0, none⟩) 0 0) ∧ RepAtI w' w.heap.size x 0 0 ∧ Below w.heap.size w w' := by
  have HM : ∀ W, Calls Tryz.prog 77 #[.int .u64 1, .int .u64 0] W fun e w' => e = .returned (.tuple #[.int .u64 0, .int .u64 0]) ∧ W = w' := fun W => mul_one' 0 (by omega) W
  have HMM := Lib.hid HM
  have hm : ∀ W, (Instr.makeSlice 27 (.int .i64 0) (.int .i64 0)).run Tryz.prog W = .ok (.slice (some ⟨W.heap.size, 0, none⟩) 0 0) (W.alloc (.cells (madeCells #[.int .i64 0] 0) 3)) :=
    fun W => run_make_row' 27 3 (.int .i64 0) 8 Tryz.underlying27 info_int rfl .i64 .i64 0 (by omega) (by omega) W
  have hc1 : (w.alloc (.cells (RepL 0 0 0).toArray 3)).cell? ⟨g, 0, none⟩ = some (.int .i64 x) := ((new_val w (.cells (RepL 0 0 0).toArray 3)).cell (p := ⟨g, 0, none⟩) hg).trans hc
  have hrow := heap_alloc_new w (.cells (RepL 0 0 0).toArray 3)
  have hnew := new_val w (.cells (RepL 0 0 0).toArray 3)
  rw [made_list] at hm
  have HROW := Lib.hid hrow
  have HNEW := Lib.hid hnew
  have HC1 := Lib.hid hc1
  clear HM hrow hnew hc1 hc
  have hsz : (Tryz.prog.info? 3).map (·.size) = some 1 := by kernel_rfl
  go_enter Tryz.func79, Tryz.ntmps79
  go_upto_region 7 with (go_at_call 77; refine (HMM.out _).mono ?_; rintro e w' ⟨rfl, rfl⟩)
  go_wp2_with (refine wpList_copy_splice rfl (.tmp 31) (.tmp 32) 27 27 rfl 3 Tryz.underlying27 hsz (some ⟨w.heap.size, 0, none⟩) (some ⟨g, 0, none⟩) 0 0 1 c rfl rfl w.heap.size 0 (RepL 0 0 0) 3 HROW.out [] rfl (fun h => absurd h (by simp)) (by simp [RepL]) (fun v hv => by simp at hv) w.heap.size w HNEW.out (Nat.le_refl _) ?_; intro w1 hr1 hb1; have R1 : Hid (RepAtI w1 w.heap.size x 0 0) := Lib.hid (by have h := hr1.out; exact h); have B1 := Lib.hid hb1; clear hr1 hb1)
  go_loopw [8] (fun i wr => i = .int .i64 0 ∧ RepAtI wr w.heap.size x 0 0 ∧ Below w.heap.size w wr) (fun _ _ => 0)
  case atStart => exact ⟨rfl, R1.out, B1.out⟩
  case round =>
    obtain ⟨rfl, hr, hb⟩ := hrel
    have RJ := Lib.hid hr
    have BJ := Lib.hid hb
    clear hr hb
    go_wp2_with fail
    go_ret
    exact ⟨rfl, RJ.out, BJ.out⟩
theorem repeat_anyI (g c n : Nat) (x : Int) (w : World) (hc : w.cell? ⟨g, 0, none⟩ = some (.int .i64 x)) (hg : g < w.heap.size) (hn : n ≤ 4096) :
    Calls Tryz.prog 79 #[.slice (some ⟨g, 0, none⟩) 1 c, .int .i64 (n : Int)] w fun e w' => e = .returned (.slice (some ⟨w.heap.size, 0, none⟩) n n) ∧ RepAtI w' w.heap.size x n n ∧ Below w.heap.size w w' := by
  by_cases h : n = 0
  · subst h
    exact repeat_zeroI g c x w hc hg
  · exact repeat_oneI g c n x w hc hg (by omega) hn (fun W => mul_one' n hn W)
end Go.Proofs.YtpdcpaoabalgcaaGreatDoor

namespace Go.Proofs.YtpdcpaoabalgcaaGreatDoor
open Go.RowKit
set_option linter.unusedVariables false
/-- The values of some places. -/
def pickL (t s : List Nat) : List Nat := s.map (nth t)
theorem pickL_len (t s : List Nat) : (pickL t s).length = s.length := by simp [pickL]
theorem nth_map {s : List Nat} {f : Nat → Nat} {i : Nat} (h : i < s.length) : nth (s.map f) i = f (nth s i) := by
  simp [nth, List.getD_eq_getElem?_getD, h]
theorem pickL_nth {t s : List Nat} {i : Nat} (h : i < s.length) : nth (pickL t s) i = nth t (nth s i) := nth_map h
theorem nth_range {n i : Nat} {f : Nat → Nat} (h : i < n) : nth ((List.range n).map f) i = f i := by
  simp [nth, List.getD_eq_getElem?_getD, h]
/-- Where a number stands among the first j, the last of several; below 0: nowhere. -/
def invF (o : Nat → Int) : Nat → Nat → Int
  | 0, _ => -1
  | j + 1, v => if o j = (v : Int) then (j : Int) else invF o j v
theorem invF_neg (o : Nat → Int) (v : Nat) : ∀ j, (∀ i, i < j → o i ≠ (v : Int)) → invF o j v = -1
  | 0, _ => rfl
  | j + 1, h => by
    show (if o j = (v : Int) then (j : Int) else invF o j v) = -1
    rw [if_neg (h j (by omega))]
    exact invF_neg o v j fun i hi => h i (by omega)
theorem invF_ge (o : Nat → Int) (v : Nat) : ∀ j, -1 ≤ invF o j v
  | 0 => by show (-1 : Int) ≤ -1; omega
  | j + 1 => by
    have ih := invF_ge o v j
    show -1 ≤ (if o j = (v : Int) then (j : Int) else invF o j v)
    split <;> omega
theorem invF_lt (o : Nat → Int) (v : Nat) : ∀ j, invF o j v < j
  | 0 => by show (-1 : Int) < 0; omega
  | j + 1 => by
    have ih := invF_lt o v j
    show (if o j = (v : Int) then (j : Int) else invF o j v) < ((j + 1 : Nat) : Int)
    split <;> omega
theorem invF_some {o : Nat → Int} {v : Nat} : ∀ {j : Nat}, 0 ≤ invF o j v → ∃ i, i < j ∧ o i = (v : Int)
  | 0, h => by have h : (0 : Int) ≤ -1 := h; omega
  | j + 1, h => by
    by_cases e : o j = (v : Int)
    · exact ⟨j, by omega, e⟩
    · have h : 0 ≤ (if o j = (v : Int) then (j : Int) else invF o j v) := h
      rw [if_neg e] at h
      obtain ⟨i, hi, hv⟩ := invF_some h
      exact ⟨i, by omega, hv⟩
theorem invF_pos {o : Nat → Int} {v i : Nat} : ∀ {j : Nat}, i < j → o i = (v : Int) → 0 ≤ invF o j v
  | 0, h, _ => by omega
  | j + 1, h, hv => by
    show 0 ≤ (if o j = (v : Int) then (j : Int) else invF o j v)
    by_cases e : o j = (v : Int)
    · rw [if_pos e]; omega
    · rw [if_neg e]
      have : i ≠ j := fun h' => e (by rw [← h']; exact hv)
      exact invF_pos (by omega) hv
/-- An order of places: each is one, and none comes twice. -/
def OrdB (o : Nat → Int) (N j : Nat) : Prop := ∀ i, i < j → 0 ≤ o i ∧ o i < (N : Int) ∧ ∀ i', i' < i → o i' ≠ o i
theorem ordB_inv {o : Nat → Int} {N j i : Nat} (h : OrdB o N j) (hi : i < j) : invF o j (o i).toNat = (i : Int) := by
  induction j with
  | zero => omega
  | succ j ih =>
    have hi0 := (h i hi).1
    show (if o j = ((o i).toNat : Int) then (j : Int) else invF o j (o i).toNat) = i
    rw [Int.toNat_of_nonneg hi0]
    by_cases e : i = j
    · subst e; rw [if_pos rfl]
    · rw [if_neg (fun e' => (h j (by omega)).2.2 i (by omega) e'.symm)]
      exact ih (fun k hk => h k (by omega)) (by omega)
/-- Each place comes, if there are at most three. -/
theorem ordB_all {o : Nat → Int} {N : Nat} (hN : N ≤ 3) (h : OrdB o N N) {v : Nat} (hv : v < N) : ∃ i, i < N ∧ o i = (v : Int) := by
  rcases (by omega : N = 0 ∨ N = 1 ∨ N = 2 ∨ N = 3) with rfl | rfl | rfl | rfl
  · omega
  · have h0 := h 0 (by omega)
    exact ⟨0, by omega, by omega⟩
  · have h0 := h 0 (by omega)
    have h1 := h 1 (by omega)
    have d := h1.2.2 0 (by omega)
    by_cases e0 : o 0 = (v : Int)
    · exact ⟨0, by omega, e0⟩
    · exact ⟨1, by omega, by omega⟩
  · have h0 := h 0 (by omega)
    have h1 := h 1 (by omega)
    have h2 := h 2 (by omega)
    have d1 := h1.2.2 0 (by omega)
    have d2 := h2.2.2 0 (by omega)
    have d3 := h2.2.2 1 (by omega)
    by_cases e0 : o 0 = (v : Int)
    · exact ⟨0, by omega, e0⟩
    · by_cases e1 : o 1 = (v : Int)
      · exact ⟨1, by omega, e1⟩
      · exact ⟨2, by omega, by omega⟩
/-- Two orders that undo each other. -/
structure PermL (N : Nat) (s r : List Nat) : Prop where
  ls : s.length = N
  lr : r.length = N
  bs : ∀ i, i < N → nth s i < N
  br : ∀ i, i < N → nth r i < N
  sr : ∀ i, i < N → nth s (nth r i) = i
  rs : ∀ i, i < N → nth r (nth s i) = i
theorem PermL.symm {N : Nat} {s r : List Nat} (h : PermL N s r) : PermL N r s := ⟨h.lr, h.ls, h.br, h.bs, h.rs, h.sr⟩
theorem permL_of {o : Nat → Int} {N : Nat} (hN : N ≤ 3) (h : OrdB o N N) : PermL N ((List.range N).map fun i => (o i).toNat) ((List.range N).map fun v => (invF o N v).toNat) := by
  have key : ∀ v, v < N → ∃ i, i < N ∧ o i = (v : Int) ∧ invF o N v = (i : Int) := fun v hv => by
    obtain ⟨i, hi, he⟩ := ordB_all hN h hv
    have := ordB_inv h hi
    rw [he] at this
    exact ⟨i, hi, he, by simpa using this⟩
  refine ⟨by simp, by simp, fun i hi => ?_, fun v hv => ?_, fun v hv => ?_, fun i hi => ?_⟩
  · rw [nth_range hi]; have := h i hi; omega
  · rw [nth_range hv]; obtain ⟨i, hi, _, e⟩ := key v hv; omega
  · obtain ⟨i, hi, ho, e⟩ := key v hv
    rw [nth_range (f := fun v => (invF o N v).toNat) hv]
    have e' : (invF o N v).toNat = i := by omega
    rw [e', nth_range hi]
    omega
  · have hb := h i hi
    rw [nth_range (f := fun i => (o i).toNat) hi, nth_range (by omega), ordB_inv h hi]
    omega
theorem PermL.lens {N : Nat} {s r : List Nat} (h : PermL N s r) : s.length = N := h.ls
theorem PermL.pick2 {N : Nat} {s r t : List Nat} (h : PermL N s r) (ht : t.length = N) : pickL (pickL t s) r = t := by
  apply nth_eq (by rw [pickL_len, h.lr, ht])
  intro i hi
  rw [pickL_len, h.lr] at hi
  rw [pickL_nth (by rw [h.lr]; exact hi), pickL_nth (by rw [h.ls]; exact h.br i hi), h.sr i hi]
theorem inL_pick {l t s : List Nat} (h : InL l t) (hs : ∀ i, i < s.length → nth s i < l.length) : InL (pickL l s) (pickL t s) := by
  rw [inL_iff] at h ⊢
  refine ⟨by rw [pickL_len, pickL_len], fun p hp => ?_⟩
  rw [pickL_len] at hp
  rw [pickL_nth hp, pickL_nth hp]
  exact h.2 _ (hs p hp)
theorem pickL_mem {l s : List Nat} {x : Nat} (hs : ∀ i, i < s.length → nth s i < l.length) (hx : x ∈ pickL l s) : x ∈ l := by
  simp only [pickL, List.mem_map] at hx
  obtain ⟨a, ha, rfl⟩ := hx
  obtain ⟨i, hi, rfl⟩ := List.getElem_of_mem ha
  have := hs i hi
  rw [show nth s i = s[i] by simp [nth, List.getD_eq_getElem?_getD, hi]] at this
  exact nth_mem this
/-- The costs of a turned table. -/
def turnZ (l : List Nat) (z : Nat → Int) (s r : List Nat) (i : Nat) : Int := z (numL l (pickL (tupL (pickL l s) i) r))
theorem turn_in {l s r : List Nat} {N i : Nat} (h : PermL N s r) (hl : l.length = N) (h1 : ∀ n ∈ l, 1 ≤ n) : InL l (pickL (tupL (pickL l s) i) r) := by
  have hs : ∀ i, i < s.length → nth s i < l.length := fun i hi => by rw [hl]; exact h.bs i (by rw [← h.ls]; exact hi)
  have h2 : InL (pickL l s) (tupL (pickL l s) i) := tupL_in (fun n hn => h1 n (pickL_mem hs hn)) i
  have h3 := inL_pick (s := r) h2 (fun i hi => by rw [pickL_len, h.ls]; exact h.br i (by rw [← h.lr]; exact hi))
  rw [h.pick2 hl] at h3
  exact h3
theorem turn_back {l s r : List Nat} {N i : Nat} {z : Nat → Int} (h : PermL N s r) (hl : l.length = N) (h1 : ∀ n ∈ l, 1 ≤ n) (hi : i < prodL l) : turnZ (pickL l s) (turnZ l z s r) r s i = z i := by
  unfold turnZ
  rw [h.pick2 hl]
  have hs : ∀ i, i < s.length → nth s i < l.length := fun i hi => by rw [hl]; exact h.bs i (by rw [← h.ls]; exact hi)
  have hin := inL_pick (s := s) (tupL_in h1 i) hs
  rw [hin.tup, h.pick2 (by rw [tupL_length]; exact hl), num_tup hi]
theorem turn_prod {l s r : List Nat} {N : Nat} (h : PermL N s r) (hl : l.length = N) (hN : N ≤ 3) (h4 : ∀ n ∈ l, n ≤ 4) : prodL (pickL l s) ≤ 64 := by
  have h1 : prodL (pickL l s) ≤ 4 ^ (pickL l s).length := prodL_le fun n hn => h4 n (pickL_mem (fun i hi => by rw [hl]; exact h.bs i (by rw [← h.ls]; exact hi)) hn)
  rw [pickL_len, h.ls] at h1
  have h2 : 4 ^ N ≤ 4 ^ 3 := Nat.pow_le_pow_right (by omega) hN
  omega
end Go.Proofs.YtpdcpaoabalgcaaGreatDoor

namespace Go.Proofs.YtpdcpaoabalgcaaGreatDoor
open Go.RowKit
set_option linter.unusedVariables false
theorem madeI (n : Nat) (hn : n ≤ 4096) (W : World) : (Instr.makeSlice 27 (.int .i64 (n : Int)) (.int .i64 (n : Int))).run Tryz.prog W = .ok (.slice (some ⟨W.heap.size, 0, none⟩) n n) (W.alloc (.cells (madeCells #[.int .i64 0] n) 3)) :=
  run_make_row' 27 3 (.int .i64 0) 8 Tryz.underlying27 info_int rfl .i64 .i64 n (by omega) (by omega) W
theorem rowIs_ints {w : World} {b n : Nat} {l : List Nat} {f : Nat → Value} (h : w.rowIs b 3 n f) (hn : l.length = n) (hf : ∀ i, i < n → f i = .int .i64 (nth l i : Int)) : Ints w (some ⟨b, 0, none⟩) l :=
  .inr ⟨b, 0, rfl, h.lt, fun i hi => by rw [Nat.zero_add, h.cell (by omega), hf i (by omega)]⟩
theorem rowIs_zs {w : World} {b n : Nat} {z : Nat → Int} {f : Nat → Value} (h : w.rowIs b 3 n f) (hf : ∀ i, i < n → f i = .int .i64 (z i)) : Zs w (some ⟨b, 0, none⟩) n z :=
  .inr ⟨b, 0, rfl, h.lt, fun i hi => by rw [Nat.zero_add, h.cell hi, hf i hi]⟩
set_option maxRecDepth 100000 in
theorem picked_any (A B : Option Addr) (n c m cb : Nat) (l s : List Nat) (w : World) (hn : l.length = n) (hm : s.length = m) (hl : Ints w A l) (hs : Ints w B s) (hr : ∀ i, i < m → nth s i < n) (hm4 : m ≤ 4096) :
    Calls Tryz.prog 43 #[.slice A n c, .slice B m cb] w fun e w' => e = .returned (.slice (some ⟨w.heap.size, 0, none⟩) m m) ∧ Ints w' (some ⟨w.heap.size, 0, none⟩) (pickL l s) ∧ Below w.heap.size w w' := by
  have HLN := Lib.hid hn
  have HSM := Lib.hid hm
  have HL := Lib.hid hl
  have HS := Lib.hid hs
  have HR := Lib.hid hr
  have hmk := madeI m hm4
  have R1 := Lib.hid (World.rowIs_made w (.int .i64 0) m 3)
  have B1 := Lib.hid (new_val w (.cells (madeCells #[.int .i64 0] m) 3))
  clear hn hm hl hs hr
  go_enter Tryz.func43, Tryz.ntmps43
  go_upto_region 3 with fail
  generalize w.alloc (.cells (madeCells #[.int .i64 0] m) 3) = w1 at R1 B1 ⊢
  clear hmk
  go_loopw [13] (fun i wr => ∃ j : Nat, j ≤ m ∧ i = .int .i64 (j : Int) ∧ wr.rowIs w.heap.size 3 m (fun i => .int .i64 (if i < j then (nth (pickL l s) i : Int) else 0)) ∧ Below w.heap.size w wr) (fun i _ => m - (intOf i).toNat)
  case atStart => exact ⟨0, Nat.zero_le _, rfl, R1.out.congr fun i _ => by simp, B1.out⟩
  case round =>
    obtain ⟨j, hj, rfl, hrow, hb⟩ := hrel
    have HRW := Lib.hid hrow
    have HB := Lib.hid hb
    clear hrow hb
    by_cases hlt : j < m
    · obtain ⟨gs, os, rfl, hcs⟩ := (HS.out.below HB.out (Nat.le_refl _)).at_ (i := j) (by rw [HSM.out]; exact hlt)
      have hrj := HR.out j hlt
      have hpk : nth (pickL l s) j = nth l (nth s j) := pickL_nth (by rw [HSM.out]; exact hlt)
      have HPK := Lib.hid hpk
      generalize nth s j = v at hcs hrj HPK
      obtain ⟨gl, ol, rfl, hcl⟩ := (HL.out.below HB.out (Nat.le_refl _)).at_ (i := v) (by rw [HLN.out]; exact hrj)
      generalize nth l v = x at hcl HPK
      have kc := HRW.out.cell hlt
      have kf := HRW.out.frozen j
      have i1 : (j : Int) < (m : Int) := by omega
      have i2 : (0 : Int) ≤ (j : Int) := by omega
      have i3 : (v : Int) < (n : Int) := by omega
      have i4 : (0 : Int) ≤ (v : Int) := by omega
      have HN : Hid ((wr.setCell ⟨w.heap.size, j, none⟩ (.int .i64 (x : Int))).rowIs w.heap.size 3 m (fun i => .int .i64 (if i < j + 1 then (nth (pickL l s) i : Int) else 0))) := Lib.hid ((HRW.out.set j (.int .i64 (x : Int))).congr fun i hi => by
        show (if i = j then _ else _) = _
        by_cases e : i = j
        · subst e; rw [if_pos rfl, if_pos (by omega), HPK.out]
        · rw [if_neg e]
          by_cases e2 : i < j
          · rw [if_pos e2, if_pos (by omega)]
          · rw [if_neg e2, if_neg (by omega)])
      have BN := Lib.hid (HB.out.setCell (p := ⟨w.heap.size, j, none⟩) (Nat.le_refl _) (.int .i64 (x : Int)))
      clear hpk
      go_wp2_with fail
      go_roundw
      case rel => exact ⟨j + 1, by omega, by go_num, HN.out, BN.out⟩
      case measure => simp [intOf]; omega
    · have i1 : ¬ (j : Int) < (m : Int) := by omega
      go_wp2_with fail
      go_ret
      obtain rfl : j = m := by omega
      exact ⟨rfl, rowIs_ints HRW.out (by rw [pickL_len, HSM.out]) (fun i hi => by rw [if_pos hi]), HB.out⟩
end Go.Proofs.YtpdcpaoabalgcaaGreatDoor

namespace Go.Proofs.YtpdcpaoabalgcaaGreatDoor
open Go.RowKit
set_option linter.unusedVariables false
theorem repI_row {W : World} {h n : Nat} {x : Int} (H : RepAtI W h x n n) : W.rowIs h 3 n (fun _ => .int .i64 x) := by
  refine ⟨_, H, by simp [RepL], fun i hi => ?_⟩
  simp [RepL, hi]
/-- What inverse answers: of the first b numbers all are places, each once; the next one isn't, or there is none. -/
def InvPost (w : World) (o : Nat → Int) (n b : Nat) (e : Ending) (w' : World) : Prop :=
  (b = n → ∃ h, e = .returned (.tuple #[.slice (some ⟨h, 0, none⟩) n n, .bool true]) ∧ Zs w' (some ⟨h, 0, none⟩) n (fun v => invF o n v)) ∧ (b < n → e = .returned (.tuple #[.slice none 0 0, .bool false])) ∧ Below w.heap.size w w'
theorem inverse_len (A : Option Addr) (n c N : Nat) (w : World) (h : n ≠ N) :
    Calls Tryz.prog 56 #[.slice A n c, .int .i64 (N : Int)] w fun e w' => e = .returned (.tuple #[.slice none 0 0, .bool false]) ∧ w = w' := by
  have d : ((n : Int) != (N : Int)) = true := by rw [bne_iff_ne]; omega
  go_enter Tryz.func56, Tryz.ntmps56
  go_wp2_with fail
  go_ret2
  exact ⟨rfl, rfl⟩
set_option maxRecDepth 100000 in
set_option maxHeartbeats 4000000 in
theorem inverse_any (A : Option Addr) (n c b : Nat) (o : Nat → Int) (w : World) (hn : n ≤ 6) (hw : Zs w A n o) (hbn : b ≤ n) (hG : OrdB o n b) (hB : b < n → o b < 0 ∨ (n : Int) ≤ o b ∨ ∃ i, i < b ∧ o i = o b) :
    Calls Tryz.prog 56 #[.slice A n c, .int .i64 (n : Int)] w (InvPost w o n b) := by
  have HW := Lib.hid hw
  have HG := Lib.hid hG
  have HB := Lib.hid hB
  clear hw hG hB
  have d : ((n : Int) != (n : Int)) = false := by simp
  have n1 := new_val w (.cells #[.int .i64 (-1)] 3)
  have HR := Lib.hid (repeat_anyI w.heap.size 1 n (-1) (w.alloc (.cells #[.int .i64 (-1)] 3)) (lit_new w _ _) (by simp) (by omega))
  have B1 := Lib.hid n1
  clear n1
  go_enter Tryz.func56, Tryz.ntmps56
  go_wp2_with fail
  refine HR.out.mono ?_
  rintro e w2 ⟨rfl, hrep, hb2⟩
  have B2 := Lib.hid (then_ B1.out hb2)
  have R2 := Lib.hid (repI_row hrep)
  have hz : w.heap.size ≤ (w.alloc (.cells #[.int .i64 (-1)] 3)).heap.size := B1.out.size
  clear hrep hb2 HR B1
  generalize (w.alloc (.cells #[.int .i64 (-1)] 3)).heap.size = h at R2 hz ⊢
  go_upto_region 5 with fail
  go_loopw [18] (fun i wr => ∃ j : Nat, j ≤ b ∧ i = .int .i64 (j : Int) ∧ wr.rowIs h 3 n (fun v => .int .i64 (invF o j v)) ∧ Below w.heap.size w wr) (fun i _ => n - (intOf i).toNat)
  case atStart => exact ⟨0, Nat.zero_le _, rfl, R2.out, B2.out⟩
  case round =>
    obtain ⟨j, hj, rfl, hrow, hb⟩ := hrel
    have HRW := Lib.hid hrow
    have HBL := Lib.hid hb
    clear hrow hb
    by_cases hlt : j < n
    · obtain ⟨g, os, rfl, hcs⟩ := (HW.out.below HBL.out (Nat.le_refl _)).at_ hlt
      have i1 : (j : Int) < (n : Int) := by omega
      have i2 : (0 : Int) ≤ (j : Int) := by omega
      by_cases hjb : j < b
      · obtain ⟨g0, g1, g2⟩ := HG.out j hjb
        obtain ⟨v, hv⟩ : ∃ v : Nat, o j = (v : Int) := ⟨(o j).toNat, by omega⟩
        have hvn : v < n := by omega
        have HV := Lib.hid hv
        have kc := HRW.out.cell hvn
        rw [invF_neg o v j (fun i hi => by rw [← hv]; exact g2 i hi)] at kc
        have kf := HRW.out.frozen v
        rw [hv] at hcs
        have HN : Hid ((wr.setCell ⟨h, v, none⟩ (.int .i64 (j : Int))).rowIs h 3 n (fun v => .int .i64 (invF o (j + 1) v))) := Lib.hid ((HRW.out.set v (.int .i64 (j : Int))).congr fun i hi => by
          show (if i = v then _ else _) = Value.int .i64 (if o j = (i : Int) then (j : Int) else invF o j i)
          by_cases e : i = v
          · subst e; rw [if_pos rfl, if_pos HV.out]
          · rw [if_neg e, if_neg (by rw [HV.out]; omega)])
        have BN := Lib.hid (HBL.out.setCell (p := ⟨h, v, none⟩) hz (.int .i64 (j : Int)))
        have d1 : decide ((v : Int) < 0) = false := by simp
        have d2 : decide (n ≤ v) = false := by simp; omega
        have d3 : decide ((n : Int) ≤ (v : Int)) = false := by simp; omega
        have d4 : (v : Int) < (n : Int) := by omega
        have d5 : (0 : Int) ≤ (v : Int) := by omega
        clear g0 g1 g2 hv
        go_wp2_with fail
        go_roundw
        case rel => exact ⟨j + 1, by omega, by go_num, HN.out, BN.out⟩
        case measure => simp [intOf]; omega
      · obtain rfl : b = j := by omega
        obtain ⟨y, hy⟩ : ∃ y, o b = y := ⟨_, rfl⟩
        have hbad := HB.out hlt
        rw [hy] at hcs hbad
        have fin : ∀ W, Below w.heap.size w W → InvPost w o n b (.returned (.tuple #[.slice none 0 0, .bool false])) W := fun W hW => ⟨fun e => by omega, fun _ => rfl, hW⟩
        have FIN := Lib.hid fin
        have HY := Lib.hid hy
        clear fin hy hjb
        by_cases h0 : y < 0
        · clear hbad
          go_wp2_with fail
          go_ret2
          exact FIN.out _ HBL.out
        · by_cases h1 : (n : Int) ≤ y
          · have d1 : decide (y < 0) = false := by simpa using h0
            have d2 : decide ((n : Int) ≤ y) = true := by simpa using h1
            clear hbad
            go_wp2_with fail
            go_ret2
            exact FIN.out _ HBL.out
          · have hex : ∃ i, i < b ∧ o i = y := by rcases hbad with h | h | h; exact absurd h h0; exact absurd h h1; exact h
            obtain ⟨v, hv⟩ : ∃ v : Nat, y = (v : Int) := ⟨y.toNat, by omega⟩
            subst hv
            have hvn : v < n := by omega
            have kc := HRW.out.cell hvn
            obtain ⟨i, hi, hiv⟩ := hex
            have hq := invF_pos (j := b) hi hiv
            generalize invF o b v = q at kc hq
            have d1 : decide ((v : Int) < 0) = false := by simp
            have d2 : decide (n ≤ v) = false := by simp; omega
            have d3 : decide ((n : Int) ≤ (v : Int)) = false := by simp; omega
            have d4 : (v : Int) < (n : Int) := by omega
            have d5 : (0 : Int) ≤ (v : Int) := by omega
            have d6 : decide (0 ≤ q) = true := by simpa using hq
            clear hbad hiv h0 h1
            go_wp2_with fail
            go_ret2
            exact FIN.out _ HBL.out
    · have i1 : ¬ (j : Int) < (n : Int) := by omega
      have hbj : b = j := by omega
      have hjn : j = n := by omega
      subst hbj
      subst hjn
      have FIN : Hid (∀ W, Below w.heap.size w W → W.rowIs h 3 b (fun v => .int .i64 (invF o b v)) → InvPost w o b b (.returned (.tuple #[.slice (some ⟨h, 0, none⟩) b b, .bool true])) W) := Lib.hid fun W hW hr => ⟨fun _ => ⟨h, rfl, rowIs_zs hr (fun i _ => rfl)⟩, fun h => by omega, hW⟩
      go_wp2_with fail
      go_ret2
      exact FIN.out _ HBL.out HRW.out
end Go.Proofs.YtpdcpaoabalgcaaGreatDoor

namespace Go.Proofs.YtpdcpaoabalgcaaGreatDoor
open Go.RowKit Go.Shelf
set_option linter.unusedVariables false
attribute [local go_sem] Oper.semAt_some
theorem permL_ordB {n : Nat} {s r : List Nat} (h : PermL n s r) : OrdB (fun i => (nth s i : Int)) n n := fun i hi => by
  refine ⟨by show (0 : Int) ≤ (nth s i : Int); omega, by show (nth s i : Int) < (n : Int); have := h.bs i hi; omega, fun i' hi' e => ?_⟩
  have e : (nth s i' : Int) = (nth s i : Int) := e
  have e : nth s i' = nth s i := by omega
  have h1 := h.rs i hi
  have h2 := h.rs i' (by omega)
  rw [e] at h2
  omega
theorem permL_inv {n v : Nat} {s r : List Nat} (h : PermL n s r) (hv : v < n) : invF (fun i => (nth s i : Int)) n v = (nth r v : Int) := by
  have h1 := ordB_inv (permL_ordB h) (h.br v hv)
  rw [h.sr v hv] at h1
  simpa using h1
theorem inverse_perm (A : Option Addr) (n c : Nat) (s r : List Nat) (w : World) (hn : n ≤ 6) (h : PermL n s r) (hw : Ints w A s) :
    Calls Tryz.prog 56 #[.slice A n c, .int .i64 (n : Int)] w fun e w' => (∃ h, e = .returned (.tuple #[.slice (some ⟨h, 0, none⟩) n n, .bool true]) ∧ Ints w' (some ⟨h, 0, none⟩) r) ∧ Below w.heap.size w w' := by
  have hz := hw.zs
  rw [h.ls] at hz
  refine (inverse_any A n c n (fun i => (nth s i : Int)) w hn hz (Nat.le_refl _) (permL_ordB h) (fun h => by omega)).mono ?_
  rintro e w' ⟨h1, _, h3⟩
  obtain ⟨b, e1, hzr⟩ := h1 rfl
  refine ⟨⟨b, e1, ?_⟩, h3⟩
  rcases hzr with h0 | ⟨g, o, e2, hlt, hc⟩
  · exact .inl (List.eq_nil_of_length_eq_zero (by rw [h.lr]; exact h0))
  · exact .inr ⟨g, o, e2, hlt, fun i hi => by rw [h.lr] at hi; rw [hc i hi]; exact congrArg some (congrArg (Value.int .i64) (permL_inv h hi))⟩
/-- Between two rounds. -/
structure TrnI (W0 : World) (h P : Nat) (f : Nat → Int) (n : Nat) (W : World) : Prop where
  kept : Kept2 W0 h h W
  costs : W.rowIs h 2 P (fun i => .int .i64 (if i < n then f i else 0))
theorem trnI_from {W0 : World} {h P : Nat} {f : Nat → Int} : OwnFrom W0.heap.size (fun (pre : List (Nat × Value)) W => TrnI W0 h P f pre.length W) := by
  intro s X Y row hs hg hr
  exact ⟨kept2_own (Nat.le_refl _) () X Y row hs.kept hg hr, Own.from (rowIs_own h 2 P (fun (n : Nat) i => .int .i64 (if i < n then f i else 0))) _ s.length X Y row hs.costs hg hr⟩
/-- Within a round. -/
structure TrnR (W0 : World) (h P : Nat) (f : Nat → Int) (n Bs : Nat) (W W' : World) : Prop where
  inv : TrnI W0 h P f n W'
  kf : KeepsFrom W0.heap.size W W'
  k1 : Keep1 Bs W W'
theorem TrnR.next {W0 W W' W2 : World} {h P : Nat} {f : Nat → Int} {n Bs : Nat} (H : TrnR W0 h P f n Bs W W') (hBs : Bs < W.heap.size) (hb : Below W'.heap.size W' W2) : TrnR W0 h P f n Bs W W2 :=
  ⟨⟨H.inv.kept.next hb, rowIs_next H.inv.costs hb⟩, H.kf.trans (KeepsFrom.of_grownBy (grown_of_below hb) (fun j e => by cases e)), H.k1.trans (Keep1.of_below hb (Nat.lt_of_lt_of_le hBs H.k1.1))⟩
theorem TrnR.fin {W0 W W' : World} {h P : Nat} {f : Nat → Int} {x : Int} {n Bs : Nat} (H : TrnR W0 h P f n Bs W W') (hb : Bs ≠ h) (h1 : f n = x) :
    TrnR W0 h P f (n + 1) Bs W (W'.setCell ⟨h, n, none⟩ (.int .i64 x)) := by
  refine ⟨⟨H.inv.kept.set (.inl rfl) n _, ?_⟩, H.kf.trans ((KeepsOthers.setCell _ _ _).from _), H.k1.trans (keep1_set hb n _)⟩
  refine (H.inv.costs.set n (.int .i64 x)).congr fun j hj => ?_
  show (if j = n then _ else _) = Value.int .i64 (if j < n + 1 then f j else 0)
  by_cases e : j = n
  · subst e; rw [if_pos rfl, if_pos (by omega), h1]
  · rw [if_neg e]
    by_cases e2 : j < n
    · rw [if_pos e2, if_pos (by omega)]
    · rw [if_neg e2, if_neg (by omega)]
/-- The box of a call of Turn, and its table's shape and top, are as they were. -/
abbrev HoldU (wb : World) (N g : Nat) (l : List Nat) (k : Int) (W : World) : Prop :=
  W.cell? ⟨N, 0, none⟩ = some (.pointer (some ⟨g, 0, none⟩)) ∧ W.cell? ⟨g, 0, none⟩ = some (.int .i64 (l.length : Int)) ∧ W.cell? ⟨g, 1, none⟩ = some (szV l 0) ∧ W.cell? ⟨g, 2, none⟩ = some (szV l 1) ∧ W.cell? ⟨g, 3, none⟩ = some (szV l 2) ∧
  W.cell? ⟨g, 4, none⟩ = some (szV l 3) ∧ W.cell? ⟨g, 5, none⟩ = some (szV l 4) ∧ W.cell? ⟨g, 6, none⟩ = some (szV l 5) ∧ W.cell? ⟨g, 7, none⟩ = some (.int .i64 k) ∧ Below wb.heap.size wb W
theorem HoldU.of {wb : World} {N g h : Nat} {l : List Nat} {k : Int} {z : Nat → Int} (T : TabAt wb g h l k z) (b0 : wb.cell? ⟨N, 0, none⟩ = some (.pointer (some ⟨g, 0, none⟩))) : HoldU wb N g l k wb := by
  obtain ⟨c0, c1, c2, c3, c4, c5, c6, c7, c8⟩ := T.cells
  exact ⟨b0, c0, c1, c2, c3, c4, c5, c6, c7, Below.refl _ _⟩
theorem holdU {wb W W' : World} {N g : Nat} {l : List Nat} {k : Int} (h : HoldU wb N g l k W) (hb : Below W.heap.size W W') : HoldU wb N g l k W' := by
  obtain ⟨a0, c0, c1, c2, c3, c4, c5, c6, c7, h8⟩ := h
  have K : ∀ b i v, W.cell? ⟨b, i, none⟩ = some v → W'.cell? ⟨b, i, none⟩ = some v := fun b i v h => (hb.cell (p := ⟨b, i, none⟩) (World.block_lt_of_cell? W _ h)).trans h
  exact ⟨K _ _ _ a0, K _ _ _ c0, K _ _ _ c1, K _ _ _ c2, K _ _ _ c3, K _ _ _ c4, K _ _ _ c5, K _ _ _ c6, K _ _ _ c7, h8.trans (hb.mono h8.size)⟩
theorem holdU_base {wb W W' : World} {N g : Nat} {l : List Nat} {k : Int} (h : HoldU wb N g l k W) (hN : N < wb.heap.size) (hg : g < wb.heap.size) (hb : Below wb.heap.size W W') : HoldU wb N g l k W' := by
  obtain ⟨a0, c0, c1, c2, c3, c4, c5, c6, c7, h8⟩ := h
  have K : ∀ b i v, b < wb.heap.size → W.cell? ⟨b, i, none⟩ = some v → W'.cell? ⟨b, i, none⟩ = some v := fun b i v hb' h => (hb.cell (p := ⟨b, i, none⟩) hb').trans h
  exact ⟨K _ _ _ hN a0, K _ _ _ hg c0, K _ _ _ hg c1, K _ _ _ hg c2, K _ _ _ hg c3, K _ _ _ hg c4, K _ _ _ hg c5, K _ _ _ hg c6, K _ _ _ hg c7, h8.trans hb⟩
theorem HoldU.below {wb W : World} {N g : Nat} {l : List Nat} {k : Int} (h : HoldU wb N g l k W) : Below wb.heap.size wb W := h.2.2.2.2.2.2.2.2.2
/-- What a round reads. -/
abbrev HoldQ (wb : World) (N g b6 hb n ba g' h' P : Nat) (W : World) : Prop :=
  W.cell? ⟨N, 0, none⟩ = some (.pointer (some ⟨g, 0, none⟩)) ∧ W.cell? ⟨b6, 0, none⟩ = some (.slice (some ⟨hb, 0, none⟩) n n) ∧ W.cell? ⟨ba, 0, none⟩ = some (.pointer (some ⟨g', 0, none⟩)) ∧ W.cell? ⟨g', 8, none⟩ = some (.slice (some ⟨h', 0, none⟩) P P) ∧ Below wb.heap.size wb W
theorem holdQ {wb W W' : World} {N g b6 hb n ba g' h' P : Nat} (h : HoldQ wb N g b6 hb n ba g' h' P W) (hb1 : Below W.heap.size W W') : HoldQ wb N g b6 hb n ba g' h' P W' := by
  obtain ⟨a0, a1, a2, a3, h8⟩ := h
  have K : ∀ b i v, W.cell? ⟨b, i, none⟩ = some v → W'.cell? ⟨b, i, none⟩ = some v := fun b i v h => (hb1.cell (p := ⟨b, i, none⟩) (World.block_lt_of_cell? W _ h)).trans h
  exact ⟨K _ _ _ a0, K _ _ _ a1, K _ _ _ a2, K _ _ _ a3, h8.trans (hb1.mono h8.size)⟩
theorem holdQ_set {wb W : World} {N g b6 hb n ba g' h' P : Nat} (h : HoldQ wb N g b6 hb n ba g' h' P W) (hN : N < wb.heap.size) (h6 : b6 < wb.heap.size) (hh : wb.heap.size ≤ h') (n1 : ba ≠ h') (n2 : g' ≠ h') (i : Nat) (u : Value) : HoldQ wb N g b6 hb n ba g' h' P (W.setCell ⟨h', i, none⟩ u) := by
  obtain ⟨a0, a1, a2, a3, h8⟩ := h
  have K : ∀ c j v, c ≠ h' → W.cell? ⟨c, j, none⟩ = some v → (W.setCell ⟨h', i, none⟩ u).cell? ⟨c, j, none⟩ = some v := fun c j v hc h => by
    rw [World.cell?_setCell_other _ _ _ _ (by intro e; injection e with e1; exact hc (by first | exact e1 | exact e1.symm))]; exact h
  exact ⟨K _ _ _ (by omega) a0, K _ _ _ (by omega) a1, K _ _ _ n1 a2, K _ _ _ n2 a3, h8.setCell (p := ⟨h', i, none⟩) hh u⟩
theorem HoldQ.below {wb W : World} {N g b6 hb n ba g' h' P : Nat} (h : HoldQ wb N g b6 hb n ba g' h' P W) : Below wb.heap.size wb W := h.2.2.2.2
theorem HoldQ.of {wb W0 W : World} {N g b6 hb n ba g' h' P : Nat} (h : HoldQ wb N g b6 hb n ba g' h' P W0) (hK : Kept2 W0 h' h' W) (hN : N < wb.heap.size) (h6 : b6 < wb.heap.size) (hh : wb.heap.size ≤ h') (n1 : ba ≠ h') (n2 : g' ≠ h') : HoldQ wb N g b6 hb n ba g' h' P W := by
  obtain ⟨a0, a1, a2, a3, h8⟩ := h
  have K : ∀ c j v, c ≠ h' → W0.cell? ⟨c, j, none⟩ = some v → W.cell? ⟨c, j, none⟩ = some v := fun c j v h1 h => (World.cell?_of_block (a := ⟨c, j, none⟩) (hK.block c (World.block_lt_of_cell? W0 _ h) h1 h1)).trans h
  exact ⟨K _ _ _ (by omega) a0, K _ _ _ (by omega) a1, K _ _ _ n1 a2, K _ _ _ n2 a3, hK.below h8 (Nat.le_refl _) hh hh⟩
set_option maxRecDepth 100000 in
set_option maxHeartbeats 4000000 in
theorem turn_err (g h n c : Nat) (A : Option Addr) (l : List Nat) (k : Int) (z : Nat → Int) (w : World) (H : TabAt w g h l k z)
    (hI : ∀ W, Below w.heap.size w W → Calls Tryz.prog 56 #[.slice A n c, .int .i64 (l.length : Int)] W fun e w' => e = .returned (.tuple #[.slice none 0 0, .bool false]) ∧ Below W.heap.size W w') :
    Calls Tryz.prog 21 #[.pointer (some ⟨g, 0, none⟩), .slice A n c] w fun e w' => e = .returned (.tuple #[.pointer none, .int .i64 1]) ∧ Below w.heap.size w w' := by
  have HI := Lib.hid hI
  have n1 := new_val w (.cells #[.pointer (some ⟨g, 0, none⟩)] 26)
  have T1 := Lib.hid (H.below n1)
  have X1 := Lib.hid (Boxed.new w 26 (.pointer (some ⟨g, 0, none⟩)))
  have B1 := Lib.hid n1
  clear H hI n1
  refine (callsIn_wide (n := 3)).1 (callsIn_of_wp_marks Tryz.func21 rfl trivial ?_ rfl)
  simp only [Tryz.ntmps21, List.size_toArray, List.length_cons, List.length_nil, Nat.reduceAdd, Nat.reduceSub, Array.replicate_succ, Array.replicate_zero, List.push_toArray, List.append_toArray, List.nil_append, List.cons_append]
  refine wpIn_wide.2 ?_
  go_upto_region 1 with fail
  generalize w.alloc (.cells #[.pointer (some ⟨g, 0, none⟩)] 26) = w1 at T1 X1 B1 ⊢
  have x1 := X1.out.cell
  obtain ⟨c0, c1, c2, c3, c4, c5, c6, c7, c8⟩ := T1.out.cells
  go_wp2_with fail
  refine (arity_any l w1).mono ?_
  rintro e w2 ⟨rfl, rfl⟩
  have B2 := Lib.hid (then_ B1.out (new_val w1 (shO l)))
  clear x1 c0 c1 c2 c3 c4 c5 c6 c7 c8
  generalize w1.alloc (shO l) = w2 at B2 ⊢
  go_wp2_with fail
  refine (HI.out _ B2.out).mono ?_
  rintro e w3 ⟨rfl, hb⟩
  have B3 := Lib.hid (then_ B2.out hb)
  clear hb
  go_wp2_with fail
  refine ⟨_, results_tmp2 rfl _ _ _, rfl, ?_⟩
  exact then_ B3.out (new_val _ _)
end Go.Proofs.YtpdcpaoabalgcaaGreatDoor
