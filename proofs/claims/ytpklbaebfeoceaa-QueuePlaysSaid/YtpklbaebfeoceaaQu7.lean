/- The contract of queue's Push (no statement of its own). -/
import Derived.Test.YtpklbaebfeoceaaQu6
namespace Go.Proofs.Ytpklbaebfeoceaa
open Go.RowKit
open Go.Maps (Keyed)
set_option linter.unusedVariables false
/-- What a call on a queue may have turned, and where its items lie then. -/
def KQ (w : World) (b m : Nat) (v : Value) (w' : World) (v' : Value) : Prop :=
  Kp (fun j => j = b ∨ j = m ∨ v.ownBlock = some j) w w' ∧ (v'.ownBlock = v.ownBlock ∨ v'.ownBlock = none ∨ ∃ g, v'.ownBlock = some g ∧ w.heap.size ≤ g)
def less (L : List It) (x : Int) : List It := L.filter fun y => !(y.1 == x)
theorem mem_less {L : List It} {x : Int} {y : It} : y ∈ less L x ↔ y ∈ L ∧ y.1 ≠ x := by simp [less]
theorem less_nodup {L : List It} (h : L.Nodup) (x : Int) : (less L x).Nodup := h.filter _
theorem push_perm {l' L : List It} {x p : Int} (hn : l'.Nodup) (hL : L.Nodup) (h : ∀ y, y ∈ l' ↔ y = (x, p) ∨ (y ∈ L ∧ y.1 ≠ x)) : l'.Perm ((x, p) :: less L x) := by
  refine perm_of_get hn (List.nodup_cons.2 ⟨fun q => (mem_less.1 q).2 rfl, less_nodup hL x⟩) fun y => ?_
  rw [h y, List.mem_cons, mem_less]
def PushP (B b m : Nat) (N x p : Int) (v : Value) (L : List It) (w : World) (e : Ending) (w' : World) : Prop :=
  e = .returned (.int .i64 0) ∧ ∃ v', QA w' B b m N v' ((x, p) :: less L x) ∧ KQ w b m v w' v'
theorem put_q {B b m s a : Nat} {N x p : Int} {v : Value} {l : List It} {f : Int → Option Nat} {w : World} (hH : Hd w b N v m) (hI : Its w B v l) (hP : Pls w B m f s)
    (hat : a < l.length) (hs : s < 1000000) (hl : l.length < 1000000) (hx : -9223372036854775808 ≤ x ∧ x ≤ 9223372036854775807) :
    Calls Try.prog 22 #[.pointer (some ⟨b, 0, none⟩), .int .i64 (a : Int), .agg #[.int .i64 x, .int .i64 p]] w (PutP B b m a s N x p v l f w) := put_any B b m a s N x p v l f w hH hI hP hat hs hl hx
set_option maxRecDepth 100000 in
set_option maxHeartbeats 1000000 in
theorem push_old {B b m a : Nat} {N x p : Int} {v : Value} {l L : List It} {f : Int → Option Nat} {w : World} (h : QC w B b m l.length N v l f) (hh : Heap l) (hp : l.Perm L) (hf : f x = some a) (hl : l.length < 100000)
    (h0 : 0 ≤ x) (h1 : x < N) (hN : N ≤ 9223372036854775807) :
    Calls Try.prog 16 #[.pointer (some ⟨b, 0, none⟩), .int .i64 x, .int .i64 p] w (PushP B b m N x p v L w) := by
  obtain ⟨hH, hI, hP, hC, hB⟩ := h
  obtain ⟨ha, hxa⟩ := (hC x a).1 hf
  have c0 := hH.c0
  have c2 := hH.c2
  have hlk := look_pls hP (x := x) (by omega)
  rw [hf] at hlk
  simp only [Option.getD_some, Option.isSome_some] at hlk
  have C1 := Lib.hid (put_q (p := p) hH hI hP ha (by omega) (by omega) (x := x) (by omega))
  have HC := Lib.hid hC
  have HHp := Lib.hid hh
  have HPm := Lib.hid hp
  have HB := Lib.hid hB
  have HF := Lib.hid hf
  have HA := Lib.hid ha
  have HL := Lib.hid hl
  have HX := Lib.hid (show -9223372036854775808 ≤ x ∧ x ≤ 9223372036854775807 from by omega)
  have hx1 : ¬ (N ≤ x) := by omega
  have hx0 : ¬ (x < 0) := by omega
  clear hH hI hP hC hB hh hp hf hxa ha hl hN
  go_enter Try.func16, Try.ntmps16
  go_wp2_with (go_at_call 22; refine C1.out.mono ?_)
  rintro e w1 ⟨rfl, hH1, hI1, hP1, hK1⟩
  rw [cnt_some HF.out] at hP1
  have hq1 : QC w1 B b m (l.set a (x, p)).length N v (l.set a (x, p)) (upd f x a) := ⟨hH1, hI1, by rw [List.length_set]; exact hP1, HC.out.again HF.out, fun y hy => by
    rcases (mem_again HC.out HF.out y).1 hy with rfl | ⟨hy, _⟩
    · exact HX.out
    · exact HB.out y hy⟩
  have C2 := Lib.hid (settle_any B b m (l.set a (x, p)).length a N v _ _ w1 hq1 (by rw [List.length_set]; exact HA.out) (by rw [List.length_set]; have := HL.out; omega) (by rw [List.length_set]; have := HL.out; omega) (heap_set HHp.out a (x, p) HA.out))
  have HK1 := Lib.hid hK1
  clear hH1 hI1 hP1 hK1 hq1
  go_wp2_with (go_at_call 23; refine C2.out.mono ?_)
  rintro e w2 ⟨rfl, l', f', hl', hm', hh', hq', hk'⟩
  go_wp2_with fail
  go_ret
  have hk2 := HK1.out.trans hk'
  refine ⟨rfl, v, ⟨l', f', by rw [hl']; exact hq', hh', push_perm (nodup_of_keys hq'.2.2.2.1.keys) (HPm.out.nodup_iff.1 (nodup_of_keys HC.out.keys)) fun y => ?_⟩, hk2.mono (fun k _ q => Or.inr q), .inl rfl⟩
  rw [hm' y, mem_again HC.out HF.out y, HPm.out.mem_iff]
theorem info_item : (Try.prog.info? 59).map (fun i => (i.zero, i.size, i.bytes)) = some (some (.agg #[.int .i64 0, .int .i64 0]), 2, 16) := by kernel_rfl
theorem cell_two_new (w : World) (x y : Value) (t : TypeId) : ∀ j u, [x, y][j]? = some u → (w.alloc (.cells #[x, y] t)).cell? ((⟨w.heap.size, 0, none⟩ : Addr).add j) = some u := by
  intro j u hj
  have e : (⟨w.heap.size, 0, none⟩ : Addr).add j = ⟨w.heap.size, j, none⟩ := by unfold Addr.add; split <;> simp_all
  rw [e, cell_of_row _ _ _ _ _ _ (heap_alloc_new w _)]
  rw [← hj]; simp
/-- The queue's items are others. -/
theorem Hd.store {w : World} {b m : Nat} {N : Int} {v : Value} (h : Hd w b N v m) (u : Value) : Hd (w.setCell ⟨b, 1, none⟩ u) b N u m ∧ w.grownBy (w.setCell ⟨b, 1, none⟩ u) (some b) := by
  have h' : w.heap[b]? = some (.cells #[.int .i64 N, v, .map (some m)] 57 (0, 0)) := h
  obtain ⟨hlt, hk⟩ := Array.getElem?_eq_some_iff.1 h'
  refine ⟨?_, ⟨rfl, rfl, rfl, (KeepsWalks.setCell w _ _).size, fun j hj hne => Below.heap_setCell w ⟨b, 1, none⟩ _ j (fun e => hne (by rw [e]))⟩⟩
  show (w.heap.modify b _)[b]? = _
  rw [Array.getElem?_eq_getElem (by rw [Array.size_modify]; exact hlt), Array.getElem_modify_self, hk]
  rfl
set_option maxRecDepth 100000 in
set_option maxHeartbeats 1000000 in
theorem push_new {B b m : Nat} {N x p : Int} {v : Value} {l L : List It} {f : Int → Option Nat} {w : World} (h : QC w B b m l.length N v l f) (hh : Heap l) (hp : l.Perm L) (hf : f x = none) (hl : l.length < 100000)
    (h0 : 0 ≤ x) (h1 : x < N) (hN : N ≤ 9223372036854775807) (hBw : B ≤ w.heap.size) :
    Calls Try.prog 16 #[.pointer (some ⟨b, 0, none⟩), .int .i64 x, .int .i64 p] w (PushP B b m N x p v L w) := by
  obtain ⟨hH, hI, hP, hC, hB⟩ := h
  have c0 := hH.c0
  have c1 := hH.c1
  have c2 := hH.c2
  have hlk := look_pls hP (x := x) (by omega)
  rw [hf] at hlk
  simp only [Option.getD_none, Option.isSome_none] at hlk
  have HH := Lib.hid hH
  have HI := Lib.hid hI
  have HP := Lib.hid hP
  have HC := Lib.hid hC
  have HHp := Lib.hid hh
  have HPm := Lib.hid hp
  have HB := Lib.hid hB
  have HF := Lib.hid hf
  have HL := Lib.hid hl
  have HBw := Lib.hid hBw
  have HX := Lib.hid (show -9223372036854775808 ≤ x ∧ x ≤ 9223372036854775807 from by omega)
  have hx1 : ¬ (N ≤ x) := by omega
  have hx0 : ¬ (x < 0) := by omega
  obtain ⟨i0, hi, hz0, hz1, hz2⟩ := info_parts info_item
  have I0 := Lib.hid hi
  have Z0 := Lib.hid hz0
  have Z1 := Lib.hid hz1
  have Z2 := Lib.hid hz2
  obtain ⟨A, C, hv⟩ : ∃ A C, v = .slice A l.length C := by
    rcases hI.2 with ⟨e, h0⟩ | ⟨g, cap, cur, e, _⟩
    · exact ⟨none, 0, by rw [e, h0]⟩
    · exact ⟨_, cap, e⟩
  rw [hv] at c1
  have HV := Lib.hid hv
  clear hH hI hP hC hB hh hp hf hl hN hi hz0 hz1 hz2 hBw hv
  go_enter Try.func16, Try.ntmps16
  go_wp2_with (at_builtin; refine wpList_append_own_at _ rfl _ _ 55 rfl B 59 i0 (.agg #[.int .i64 0, .int .i64 0]) 2 16 Try.underlying55 I0.out Z0.out Z1.out Z2.out rfl (by decide) v l.length (flat l) HV.out.symm (World.ownsRow.alloc HI.out _) ⟨w.heap.size, 0, none⟩ 1 1 [.int .i64 0, .int .i64 0] rfl rfl (cell_two_new w _ _ _) (by simp [Value.oneCell']) (by have := HL.out; unfold maxLen; omega) (by have := HL.out; omega) (by have := HBw.out; simp; omega) ?_)
  intro v2 w2 hO hG _ hloc
  obtain ⟨A2, c2', hv2⟩ : ∃ A C, v2 = .slice A (l.length + 1) C := by
    rcases hO.2 with ⟨e, h0⟩ | ⟨g, cap, cur, e, _⟩
    · omega
    · exact ⟨_, cap, e⟩
  have HV2 := Lib.hid hv2
  have hgw : w.grownBy w2 v.ownBlock := (World.grownBy_alloc w _ _).trans hG
  have hvb : some b ≠ v.ownBlock := fun e => Its.ne_hd HI.out e.symm HH.out rfl
  have hvm : some m ≠ v.ownBlock := fun e => Its.ne_map HI.out e.symm HP.out rfl
  have hbl := HH.out.lt
  have hml : m < w.heap.size := by obtain ⟨_, D, ho, _⟩ := HP.out; exact ho.lt
  have hH2 := HH.out.kept hgw hvb
  have hP2 := HP.out.kept hgw hvm
  have hI2 : Its w2 B v2 (l ++ [(0, 0)]) := by unfold Its; rw [List.length_append, List.length_singleton, flat_append]; exact hO
  have hv2b : v2.ownBlock = none ∨ v2.ownBlock ≠ some b := by
    right
    rcases hloc with e | e
    · rw [e]; exact fun q => hvb q.symm
    · rw [e]; intro q; injection q with q; omega
  obtain ⟨hH3, hg3⟩ := hH2.store v2
  have hP3 := hP2.kept hg3 (fun q => by injection q with q; exact Pls.ne_hd HP.out HH.out q)
  have hI3 := hI2.kept hg3 hv2b
  have hlen : (l ++ [((0 : Int), (0 : Int))]).length = l.length + 1 := by simp
  have hset : (l ++ [((0 : Int), (0 : Int))]).set l.length (x, p) = l ++ [(x, p)] := by simp
  have hcn : cnt f x l.length = l.length + 1 := by simp [cnt, HF.out]
  have C1 := Lib.hid (put_q (p := p) hH3 hI3 hP3 (a := l.length) (by rw [hlen]; omega) (by have := HL.out; omega) (by rw [hlen]; have := HL.out; omega) HX.out)
  have d1 := hH2.c1
  have d1f := hH2.frozen 1
  have HG := Lib.hid hgw
  have HG3 := Lib.hid hg3
  have HLOC := Lib.hid hloc
  have HSET := Lib.hid hset
  have HCN := Lib.hid hcn
  have HBL := Lib.hid hbl
  have HML := Lib.hid hml
  clear hgw hvb hvm hH2 hP2 hI2 hv2b hH3 hg3 hP3 hI3 hlen hset hcn hO hG hloc c0 c1 c2 hlk hbl hml
  subst hv2
  go_wp2_with (go_at_call 22; refine C1.out.mono ?_)
  rintro e w4 ⟨rfl, hH4, hI4, hP4, hK4⟩
  rw [HSET.out] at hI4
  rw [HCN.out] at hP4
  have hq4 : QC w4 B b m (l ++ [(x, p)]).length N (.slice A2 (l.length + 1) c2') (l ++ [(x, p)]) (upd f x l.length) := ⟨hH4, hI4, by rw [List.length_append, List.length_singleton]; exact hP4, HC.out.push HF.out, fun y hy => by
    rcases List.mem_append.1 hy with hy | hy
    · exact HB.out y hy
    · rw [List.mem_singleton] at hy; subst hy; exact HX.out⟩
  have C2 := Lib.hid (settle_any B b m (l ++ [(x, p)]).length l.length N (.slice A2 (l.length + 1) c2') _ _ w4 hq4 (by simp) (by rw [List.length_append, List.length_singleton]; have := HL.out; omega) (by rw [List.length_append, List.length_singleton]; have := HL.out; omega) (heap_push HHp.out (x, p)))
  have HK4 := Lib.hid hK4
  clear hH4 hI4 hP4 hK4 hq4
  go_wp2_with (go_at_call 23; refine C2.out.mono ?_)
  rintro e w5 ⟨rfl, l', f', hl', hm', hh', hq', hk'⟩
  go_wp2_with fail
  go_ret
  have hk2 := HK4.out.trans hk'
  have hk3 : Kp (fun j => j = b ∨ j = m ∨ v.ownBlock = some j) w (w2.setCell ⟨b, 1, none⟩ (.slice A2 (l.length + 1) c2')) := (Kp.of_grown HG.out (fun k hk => Or.inr (Or.inr hk))).trans (Kp.of_grown HG3.out (fun k hk => Or.inl (by injection hk with hk; exact hk.symm)))
  refine ⟨rfl, (.slice A2 (l.length + 1) c2'), ⟨l', f', by rw [hl']; exact hq', hh', push_perm (nodup_of_keys hq'.2.2.2.1.keys) (HPm.out.nodup_iff.1 (nodup_of_keys HC.out.keys)) fun y => ?_⟩, hk3.andThen hk2 (fun j hj q => ?_), ?_⟩
  · rw [hm' y, List.mem_append, List.mem_singleton, HPm.out.mem_iff]
    constructor
    · rintro (h | h)
      · refine .inr ⟨h, fun q => ?_⟩
        obtain ⟨i, hi, e⟩ := mem_nth.1 (HPm.out.mem_iff.2 h)
        have h2 := (HC.out x i).2 ⟨hi, by rw [e, q]⟩
        rw [HF.out] at h2
        cases h2
      · exact .inl h
    · rintro (h | ⟨h, _⟩)
      · exact .inr h
      · exact .inl h
  · rcases q with q | q
    · exact .inr (.inl q)
    · rcases HLOC.out with e | e
      · rw [e] at q; exact .inr (.inr q)
      · rw [e] at q; injection q with q; omega
  · rcases HLOC.out with e | e
    · exact .inl e
    · exact .inr (.inr ⟨_, e, by omega⟩)
/-- Push, whatever waits. -/
theorem push_any {B b m : Nat} {N x p : Int} {v : Value} {L : List It} {w : World} (h : QA w B b m N v L) (hl : L.length < 100000)
    (h0 : 0 ≤ x) (h1 : x < N) (hN : N ≤ 9223372036854775807) (hBw : B ≤ w.heap.size) :
    Calls Try.prog 16 #[.pointer (some ⟨b, 0, none⟩), .int .i64 x, .int .i64 p] w (PushP B b m N x p v L w) := by
  obtain ⟨l, f, h2, h3, h4⟩ := h
  cases hf : f x with
  | none => exact push_new h2 h3 h4 hf (by rw [h4.length_eq]; exact hl) h0 h1 hN hBw
  | some a => exact push_old h2 h3 h4 hf (by rw [h4.length_eq]; exact hl) h0 h1 hN
theorem push_range {b m : Nat} {N x p : Int} {v : Value} {w : World} (h : Hd w b N v m) (h0 : x < 0 ∨ N ≤ x) :
    Calls Try.prog 16 #[.pointer (some ⟨b, 0, none⟩), .int .i64 x, .int .i64 p] w fun e w' => e = .returned (.int .i64 3) ∧ w = w' := by
  have c0 := h.c0
  clear h
  by_cases hx : x < 0
  · clear h0
    go_enter Try.func16, Try.ntmps16
    go_wp2_with fail
    go_ret
    exact ⟨rfl, rfl⟩
  · have h1 : N ≤ x := by omega
    clear h0
    go_enter Try.func16, Try.ntmps16
    go_wp2_with fail
    go_ret
    exact ⟨rfl, rfl⟩
theorem push_nil (x p : Int) (w : World) : Calls Try.prog 16 #[.pointer none, .int .i64 x, .int .i64 p] w fun e w' => e = .returned (.int .i64 2) ∧ w = w' := by
  go_enter Try.func16, Try.ntmps16
  go_wp2_with fail
  go_ret
  exact ⟨rfl, rfl⟩
end Go.Proofs.Ytpklbaebfeoceaa
