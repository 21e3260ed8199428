/- The contracts of queue's Drop and Pop (no statement of its own). -/
import Derived.Test.YtpklbaebfeoceaaQu7
namespace Go.Proofs.Ytpklbaebfeoceaa
open Go.RowKit
open Go.Maps (Keyed)
set_option linter.unusedVariables false
theorem look_plsF {w : World} {B m s i : Nat} {f : Int → Option Nat} (h : Pls w B m f s) {x : Int} (hx : -9223372036854775808 ≤ x ∧ x ≤ 9223372036854775807) (hf : f x = some i) :
    (Instr.lookup 54 (.map (some m)) (.int .i64 x) false).run Try.prog w = .ok (.int .i64 (i : Int)) w := by
  obtain ⟨hB, D, ho, h1, h2, h3⟩ := h
  have hw := wf_int hx.1 hx.2
  obtain ⟨c, hrun, hc, _⟩ := ho.lookup_int law Try.underlying54 Try.underlying3 (zeroI w) (Maps.keyOf_int_mk (P := Try.prog) Try.underlying3 hw)
  rw [hrun]
  rw [h3 x i hw hf] at hc
  simp only [DataW.lit.injEq, Lit.int.injEq, true_and] at hc
  rw [hc]
theorem Its.cut {w : World} {B g c n : Nat} {l : List It} (h : Its w B (.slice (some ⟨g, 0, none⟩) l.length c) l) (hn : n ≤ l.length) : Its w B (.slice (some ⟨g, 0, none⟩) n c) (l.take n) ∧ n ≤ c := by
  rcases h.2 with ⟨h', _⟩ | ⟨g', cap, cur, h', hb, hg, hnc, hcm, hcs, htake⟩
  · simp at h'
  · simp only [Value.slice.injEq, Option.some.injEq, Addr.mk.injEq, and_true, true_and] at h'
    obtain ⟨rfl, rfl⟩ := h'
    have hl : (l.take n).length = n := by rw [List.length_take]; omega
    refine ⟨⟨flat_len _, .inr ⟨g, c, cur, by rw [hl], hb, hg, by omega, hcm, hcs, ?_⟩⟩, by omega⟩
    rw [hl, ← flat_take, ← htake, List.take_take]
    congr 1
    omega
theorem Pls.deleted {w w' : World} {B m s i : Nat} {x : Int} {f : Int → Option Nat} {D : DataW Unit} (hw : (Lit.int .i64 x).wf = true) (hB : B ≤ m)
    (h0 : w.ownsMap Try.prog 3 (plainElem Try.prog 3) m s D) (hs : Maps.size D ≤ s)
    (h1 : ∀ x : Int, (Lit.int .i64 x).wf = true → Maps.has D (.int .i64 x) = (f x).isSome)
    (h2 : ∀ (x : Int) (i : Nat), (Lit.int .i64 x).wf = true → f x = some i → ∀ z, D.atKey (.int .i64 x) z = .lit (.int .i64 (i : Int))) (hf : f x = some i)
    (h : w'.ownsMap Try.prog 3 (plainElem Try.prog 3) m s (D.del (.int .i64 x))) : Pls w' B m (del f x) (s - 1) := by
  have hsz : Maps.size (D.del (.int .i64 x)) ≤ s - 1 := by
    have := Maps.size_del (k := .int .i64 x) (h0.tidy law)
    rw [h1 x hw, hf] at this
    simp at this
    omega
  refine ⟨hB, _, (tight h).mono hsz, hsz, fun y hy => ?_, fun y j hy hj z => ?_⟩
  · by_cases e : y = x
    · subst e
      rw [Maps.has_del_same]
      simp [del]
    · rw [Maps.has_del_other (key_ne e), h1 y hy]
      simp [del, e]
  · by_cases e : y = x
    · subst e
      simp [del] at hj
    · rw [Maps.atKey_del_other (key_ne e)]
      simp only [del, if_neg e] at hj
      exact h2 y j hy hj z
def DropP (B b m : Nat) (N x : Int) (v : Value) (L : List It) (w : World) (e : Ending) (w' : World) : Prop :=
  e = .returned (.bool (hasK L x)) ∧ ∃ v', QA w' B b m N v' (less L x) ∧ KQ w b m v w' v'
theorem less_no {L : List It} {x : Int} (h : hasK L x = false) : less L x = L := by
  unfold less
  rw [List.filter_eq_self]
  intro y hy
  cases e : y.1 == x with
  | false => rfl
  | true =>
    have := hasK_iff.2 ⟨y, hy, by simpa using e⟩
    rw [h] at this
    cases this
theorem KQ.refl (w : World) (b m : Nat) (v : Value) : KQ w b m v w v := ⟨Kp.refl _ _, .inl rfl⟩
theorem drop_no {B b m : Nat} {N x : Int} {v : Value} {L : List It} {w : World} (h : QA w B b m N v L) (hx : -9223372036854775808 ≤ x ∧ x ≤ 9223372036854775807) (hk : hasK L x = false) :
    Calls Try.prog 14 #[.pointer (some ⟨b, 0, none⟩), .int .i64 x] w (DropP B b m N x v L w) := by
  have C := Lib.hid (has_any h hx)
  have HQ := Lib.hid h
  rw [hk] at C
  have HK := Lib.hid hk
  clear h hk hx
  go_enter Try.func14, Try.ntmps14
  go_wp2_with (go_at_call 18; refine C.out.mono ?_; rintro e w' ⟨rfl, rfl⟩)
  go_ret
  exact ⟨sret_bool HK.out.symm, v, by rw [less_no HK.out]; exact HQ.out, KQ.refl _ _ _ _⟩
theorem drop_perm {l' L : List It} {x : Int} (hn : l'.Nodup) (hL : L.Nodup) (h : ∀ y, y ∈ l' ↔ (y ∈ L ∧ y.1 ≠ x)) : l'.Perm (less L x) := by
  refine perm_of_get hn (less_nodup hL x) fun y => ?_
  rw [h y, mem_less]
set_option maxRecDepth 100000 in
set_option maxHeartbeats 2000000 in
theorem drop_yes {B b m a n : Nat} {N x : Int} {v : Value} {l L : List It} {f : Int → Option Nat} {w : World} (h : QC w B b m l.length N v l f) (hh : Heap l) (hp : l.Perm L) (hf : f x = some a) (hl : l.length < 100000) (hn : l.length = n + 1)
    (hx : -9223372036854775808 ≤ x ∧ x ≤ 9223372036854775807) :
    Calls Try.prog 14 #[.pointer (some ⟨b, 0, none⟩), .int .i64 x] w (DropP B b m N x v L w) := by
  have CH := Lib.hid (has_any ⟨l, f, h, hh, hp⟩ hx)
  have hk : hasK L x = true := by rw [hasK_f h.2.2.2.1 hp, hf]; rfl
  rw [hk] at CH
  obtain ⟨hH, hI, hP, hC, hB⟩ := h
  obtain ⟨ha, hxa⟩ := (hC x a).1 hf
  obtain ⟨g, c, rfl, hBg, hgl⟩ := hI.form (by omega)
  have hlk : ∀ k, (Instr.lookup 54 (.map (some m)) (.int .i64 x) false).run Try.prog (w.drewN k) = .ok (.int .i64 (a : Int)) (w.drewN k) := fun k => look_plsF (hP.kept (grown_drewN (World.grownBy_alloc_refl w) k) (by simp)) hx hf
  have c1 := hH.c1
  have c2 := hH.c2
  have d0 := hI.at0 n (by omega)
  have d1 := hI.at1 n (by omega)
  rw [nth_get l n (by omega)] at d0 d1
  rw [hn] at c1
  have eN : ((n + 1 : Nat) : Int) - 1 = (n : Int) := by omega
  have HK := Lib.hid hk
  have HH := Lib.hid hH
  have HI := Lib.hid hI
  have HP := Lib.hid hP
  have HC := Lib.hid hC
  have HHp := Lib.hid hh
  have HPm := Lib.hid hp
  have HB := Lib.hid hB
  have HF := Lib.hid hf
  have HA := Lib.hid ha
  have HL := Lib.hid hl
  have HN := Lib.hid hn
  have HX := Lib.hid hx
  have hnl : n < 100000 := by omega
  clear hH hI hP hC hB hh hp hf hxa ha hl hn hk hx
  go_enter Try.func14, Try.ntmps14
  go_wp2_with (go_at_call 18; refine CH.out.mono ?_; rintro e w' ⟨rfl, rfl⟩)
  go_quiet (fail)
  have hg1 : w.grownBy (w.drewN nq) none := grown_drewN (World.grownBy_alloc_refl w) nq
  have d0' : (w.drewN nq).cell? ⟨g, n * 2, none⟩ = some (.int .i64 (nth l n).1) := d0
  have d1' : (w.drewN nq).cell? ⟨g, n * 2 + 1, none⟩ = some (.int .i64 (nth l n).2) := d1
  generalize w.drewN nq = w1 at *
  have hH1 := HH.out.kept hg1 (by simp)
  have hI1 := HI.out.kept hg1 (Or.inr (by simp [Value.ownBlock]))
  have hP1 := HP.out.kept hg1 (by simp)
  have c1' := hH1.c1
  rw [HN.out] at c1'
  have hnb := HB.out (nth l n) (mem_nth.2 ⟨n, by rw [HN.out]; omega, rfl⟩)
  have C1 := Lib.hid (put_q (p := (nth l n).2) hH1 hI1 hP1 HA.out (by have := HL.out; omega) (by have := HL.out; omega) hnb)
  have hcn : cnt f (nth l n).1 l.length = l.length := cnt_some ((HC.out _ n).2 ⟨by rw [HN.out]; omega, rfl⟩) _
  have HCN := Lib.hid hcn
  have HG1 := Lib.hid hg1
  clear hg1 hH1 hI1 hP1 hnb hcn c1 c2 d0 d1 hlk
  generalize hx2 : (nth l n).1 = x2 at *
  generalize hp2 : (nth l n).2 = p2 at *
  have HX2 := Lib.hid hx2
  have HP2 := Lib.hid hp2
  clear hx2 hp2
  go_wp2_with (go_at_call 22; refine C1.out.mono ?_)
  rintro e w2 ⟨rfl, hH2, hI2, hP2, hK2⟩
  rw [HCN.out] at hP2
  have hI2' : Its w2 B (.slice (some ⟨g, 0, none⟩) (l.set a (x2, p2)).length c) (l.set a (x2, p2)) := by rw [List.length_set]; exact hI2
  obtain ⟨hcut, hnc⟩ := Its.cut (n := n) hI2' (by rw [List.length_set, HN.out]; omega)
  have hgb := Its.ne_hd hI2 rfl hH2
  have hgm := Its.ne_map hI2 rfl hP2
  have hmb := Pls.ne_hd hP2 hH2
  have e1 := hH2.c1
  rw [HN.out] at e1
  have e1f := hH2.frozen 1
  obtain ⟨hH3, hg3⟩ := hH2.store (.slice (some ⟨g, 0, none⟩) n c)
  have hI3 := hcut.kept hg3 (Or.inr (by simp [Value.ownBlock]; omega))
  have hP3 := hP2.kept hg3 (by simp; omega)
  have e2 := hH3.c2
  have HH3 := Lib.hid hH3
  have HI3 := Lib.hid hI3
  have HP3 := Lib.hid hP3
  have HG3 := Lib.hid hg3
  have HK2 := Lib.hid hK2
  clear c1' d0' d1' hH2 hI2 hP2 hK2 hI2' hcut hH3 hg3 hI3 hP3
  have hnc' : (n : Int) ≤ (c : Int) := by omega
  obtain ⟨hB3, D, ho, q1, q2, q3⟩ := HP3.out
  have HO := Lib.hid ho
  have Q1 := Lib.hid q1
  have Q2 := Lib.hid q2
  have Q3 := Lib.hid q3
  have hfx : ∃ j, upd f x2 a x = some j := by
    unfold upd
    by_cases q : x = x2
    · rw [if_pos q]; exact ⟨_, rfl⟩
    · rw [if_neg q, HF.out]; exact ⟨_, rfl⟩
  have HFX := Lib.hid hfx
  have HKY := Lib.hid (Maps.keyOf_int_mk (P := Try.prog) Try.underlying3 (wf_int HX.out.1 HX.out.2))
  clear ho q1 q2 q3 hfx
  go_wp2_with (at_delete; refine wpList_delete_own _ rfl _ _ 54 3 rfl 3 law Try.underlying54 _ m l.length D rfl HO.out _ _ rfl HKY.out ?_)
  intro w4 ho4 hturn
  have hg4 := hturn.grown
  have hnx : nth l n = (x2, p2) := by rw [← HX2.out, ← HP2.out]
  have hlen : ((l.set a (x2, p2)).take n).length = n := by rw [List.length_take, List.length_set, HN.out]; omega
  obtain ⟨j, hj⟩ := HFX.out
  have hP4 := Pls.deleted (wf_int HX.out.1 HX.out.2) hB3 HO.out (by have := HO.out.size_le; exact this) Q2.out Q3.out hj ho4
  have hq4 : QC w4 B b m ((l.set a (x2, p2)).take n).length N (.slice (some ⟨g, 0, none⟩) n c) ((l.set a (x2, p2)).take n) (del (upd f x2 a) x) := by
    refine ⟨HH3.out.kept hg4 (by simp; omega), HI3.out.kept hg4 (Or.inr (by simp [Value.ownBlock]; omega)), ?_, ?_, fun y hy => ?_⟩
    · rw [hlen]
      have e : l.length - 1 = n := by rw [HN.out]; omega
      rw [e] at hP4
      exact hP4
    · have := HC.out.drop HF.out HN.out
      rw [hnx] at this
      exact this
    · have := mem_drop HC.out HF.out HN.out y
      rw [hnx] at this
      exact HB.out y (this.1 hy).1
  have hkq : Kp (fun j => j = b ∨ j = m ∨ (Value.slice (some ⟨g, 0, none⟩) l.length c).ownBlock = some j) w w4 := by
    refine (((Kp.of_grown HG1.out (fun k hk => by cases hk)).trans (HK2.out.mono fun k _ q => Or.inr q)).trans (Kp.of_grown HG3.out fun k hk => ?_)).trans (Kp.of_grown hg4 fun k hk => ?_)
    · injection hk with hk; exact Or.inl hk.symm
    · injection hk with hk; exact Or.inr (Or.inl hk.symm)
  have HQ4 := Lib.hid hq4
  have HKQ := Lib.hid hkq
  have HLN := Lib.hid hlen
  have HNX := Lib.hid hnx
  have hmem : ∀ y, y ∈ (l.set a (x2, p2)).take n ↔ y ∈ l ∧ y.1 ≠ x := by
    have := mem_drop HC.out HF.out HN.out
    rw [hnx] at this
    exact this
  have HM := Lib.hid hmem
  clear hg4 hnx hlen hj hP4 hq4 hkq hmem ho4 hturn e1 e1f e2
  by_cases han : a < n
  · have C2 := Lib.hid (settle_any B b m _ a N _ _ _ w4 HQ4.out (by rw [HLN.out]; exact han) (by rw [HLN.out]; omega) (by rw [HLN.out]; omega) (heapX_take (heap_set HHp.out a (x2, p2) HA.out) n))
    go_wp2_with (go_at_call 23; refine C2.out.mono ?_)
    rintro e w5 ⟨rfl, l', f', hl', hm', hh', hq', hk'⟩
    go_wp2_with fail
    go_ret
    refine ⟨sret_bool HK.out.symm, .slice (some ⟨g, 0, none⟩) n c, ⟨l', f', by rw [hl']; exact hq', hh', drop_perm (nodup_of_keys hq'.2.2.2.1.keys) (HPm.out.nodup_iff.1 (nodup_of_keys HC.out.keys)) fun y => ?_⟩, HKQ.out.trans (hk'.mono fun k _ q => Or.inr q), .inl rfl⟩
    rw [hm' y, HM.out y, HPm.out.mem_iff]
  · have han' : a = n := by have := HA.out; have := HN.out; omega
    have hd : decide (a < n) = false := by simpa using han
    have HAN := Lib.hid han'
    clear han han'
    go_wp2_with fail
    go_ret
    refine ⟨sret_bool HK.out.symm, .slice (some ⟨g, 0, none⟩) n c, ⟨_, _, HQ4.out, ?_, drop_perm (nodup_of_keys HQ4.out.2.2.2.1.keys) (HPm.out.nodup_iff.1 (nodup_of_keys HC.out.keys)) fun y => ?_⟩, HKQ.out, .inl rfl⟩
    · have e : (l.set a (x2, p2)).take n = l.take n := by rw [HAN.out, List.take_set_of_le (Nat.le_refl n)]
      rw [e]
      exact heap_take HHp.out n
    · rw [HM.out y, HPm.out.mem_iff]
theorem drop_any {B b m : Nat} {N x : Int} {v : Value} {L : List It} {w : World} (h : QA w B b m N v L) (hl : L.length < 100000) (hx : -9223372036854775808 ≤ x ∧ x ≤ 9223372036854775807) :
    Calls Try.prog 14 #[.pointer (some ⟨b, 0, none⟩), .int .i64 x] w (DropP B b m N x v L w) := by
  have hA := h
  obtain ⟨l, f, h1, h2, h3⟩ := h
  have hk := hasK_f h1.2.2.2.1 h3 x
  cases hf : f x with
  | none => rw [hf] at hk; exact drop_no hA hx hk
  | some a =>
    obtain ⟨ha, _⟩ := (h1.2.2.2.1 x a).1 hf
    exact drop_yes (n := l.length - 1) h1 h2 h3 hf (by rw [h3.length_eq]; exact hl) (by omega) hx
theorem drop_nil (x : Int) (w : World) : Calls Try.prog 14 #[.pointer none, .int .i64 x] w fun e w' => e = .returned (.bool false) ∧ w = w' := by
  have C := Lib.hid (has_nil x w)
  go_enter Try.func14, Try.ntmps14
  go_wp2_with (go_at_call 18; refine C.out.mono ?_; rintro e w' ⟨rfl, rfl⟩)
  go_ret
  exact ⟨rfl, rfl⟩
end Go.Proofs.Ytpklbaebfeoceaa
