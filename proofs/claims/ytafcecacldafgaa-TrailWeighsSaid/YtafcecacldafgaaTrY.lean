/- The contract of trail's keep, and which cells of a block of what is kept it leaves alone (no statement of its own). -/
import Derived.Test.YtafcecacldafgaaTrF
namespace Go.Proofs.Ytafcecacldafgaa
open Go.RowKit
open Go.Maps (Keyed)
set_option linter.unusedVariables false
/-- append onto an own slice: behind the new elements all of any block of that kind is as it was. -/
theorem run_append_far {P : Program} (w : World) (t ty : TypeId) (base : Nat) (e : TypeId) (i : TypeInfo) (z : Value) (size bytes : Nat) (ht : P.underlying t = some (.slice e)) (hi : P.info? e = some i) (hz : i.zero = some z)
    (hsize : i.size = size) (hby : i.bytes = bytes) (hzs : z.cells.size = size) (hsz : 0 < size)
    (v : Value) (n : Nat) (xs : List Value) (hown : w.ownsRow base e size v n xs)
    (ad : Addr) (m c : Nat) (news : List Value) (hl : news.length = m * size) (hnews : ∀ j u, news[j]? = some u → w.cell? (ad.add j) = some u) (h1 : ∀ u ∈ news, u.oneCell' = true)
    (hm : 0 < m) (h63 : n + m ≤ maxLen) (hbytes : (n + m) * bytes ≤ 140737488355328) (hbase : base ≤ w.heap.size) (H : Nat) (hH : w.heap.size = H) :
    ∃ g cap w', (Builtin.append_ #[t, t] ty #[v, .slice (some ad) m c]).run P w = .ok (.slice (some ⟨g, 0, none⟩) (n + m) cap) w' ∧
      w'.ownsRow base e size (.slice (some ⟨g, 0, none⟩) (n + m) cap) (n + m) (xs ++ news) ∧ w.grownBy w' v.ownBlock ∧ (v.ownBlock = some g ∨ g = H) ∧ g < w'.heap.size ∧
      ∀ q cur, w.heap[q]? = some (.cells cur e (0, 0)) → (∃ cur', w'.heap[q]? = some (.cells cur' e (0, 0))) ∧ ∀ o, (n + m) * size ≤ o → w'.cell? ⟨q, o, none⟩ = w.cell? ⟨q, o, none⟩ := by
  obtain ⟨g, cap, w', hr, h2, h3, h4, h5⟩ := run_append_lies (P := P) w t ty base e i z size bytes ht hi hz hsize hby hzs hsz v n xs hown ad m c news hl hnews h1 hm h63 hbytes hbase H hH
  refine ⟨g, cap, w', hr, h2, h3, h4, h5, fun q cur hq => ?_⟩
  have hlt : q < w.heap.size := (Array.getElem?_eq_some_iff.1 hq).1
  by_cases hv : v.ownBlock = some q
  · rcases hown.2 with ⟨rfl, _⟩ | ⟨g0, cap0, cur0, rfl, hbg, hg, hnc, hcm, hcs, htake⟩
    · simp [Value.ownBlock] at hv
    · simp only [Value.ownBlock, Option.some.injEq] at hv
      subst hv
      rw [hg] at hq
      injection hq with hq
      injection hq with hq
      subst hq
      subst hsize
      subst hby
      by_cases hroom : n + m ≤ cap0
      · have hfit : n * i.size + news.length ≤ cur0.size := by rw [hl, hcs, ← Nat.add_mul]; exact Nat.mul_le_mul_right _ hroom
        have hr2 := run_append_room (P := P) w t ty e i ht hi g0 n cap0 cur0 hg ad m c news hl hnews h1 hroom hfit
        rw [hr2] at hr
        injection hr with _ hw
        subst hw
        have hs := setRow_heap w g0 cur0 (cur0.toList.take (n * i.size) ++ news ++ cur0.toList.drop (n * i.size + news.length)).toArray e _ hg
        refine ⟨⟨_, hs⟩, fun o ho => ?_⟩
        rw [cell_of_row _ _ _ _ _ _ hs, cell_of_row _ _ _ _ _ _ hg]
        have hno : n * i.size + news.length ≤ o := by rw [hl, ← Nat.add_mul]; exact ho
        rw [List.getElem?_toArray, List.getElem?_append_right (by simp only [List.length_append, List.length_take, Array.length_toList]; omega), List.getElem?_drop, Array.getElem?_toList]
        congr 1
        simp only [List.length_append, List.length_take, Array.length_toList]
        omega
      · have holds : ∀ j u, xs[j]? = some u → w.cell? ((⟨g0, 0, none⟩ : Addr).add j) = some u := hown.cells (g := g0) rfl
        have hr2 := run_append_grow (P := P) w t ty e i z ht hi hz ⟨g0, 0, none⟩ n cap0 xs hown.1 holds ad m c news hl hnews (by omega) (by unfold maxLen at h63; omega) (growslice_fits (by omega) hbytes)
        rw [hr2] at hr
        injection hr with _ hw
        have hb : w'.heap[g0]? = w.heap[g0]? := by rw [← hw]; exact heap_alloc_old w.drew _ hlt
        exact ⟨⟨_, hb.trans hg⟩, fun o _ => World.cell?_of_block (a := ⟨g0, o, none⟩) hb⟩
  · have hb : w'.heap[q]? = w.heap[q]? := h3.block q hlt (fun e => hv e.symm)
    exact ⟨⟨_, hb.trans hq⟩, fun o _ => World.cell?_of_block (a := ⟨q, o, none⟩) hb⟩
theorem step_append_far {P : Program} (w : World) {ops : Array Oper} {o : Oper} {a : Act} {K : Act → World → Prop} {Q : Exit → Act → World → Prop} {E : Prop} (hgd : o.guard = none) (s x : Operand) (t : TypeId)
    (ho : o.op = .call { callee := .builtin .append, args := #[s, x], argTypes := #[t, t] })
    (base : Nat) (e : TypeId) (i : TypeInfo) (z : Value) (size bytes : Nat) (ht : P.underlying t = some (.slice e)) (hi : P.info? e = some i) (hz : i.zero = some z)
    (hsize : i.size = size) (hby : i.bytes = bytes) (hzs : z.cells.size = size) (hsz : 0 < size)
    (v : Value) (n : Nat) (xs : List Value) (hs : a.eval s = v) (hown : w.ownsRow base e size v n xs)
    (ad : Addr) (m c : Nat) (news : List Value) (hx : a.eval x = .slice (some ad) m c) (hl : news.length = m * size) (hnews : ∀ j u, news[j]? = some u → w.cell? (ad.add j) = some u) (h1 : ∀ u ∈ news, u.oneCell' = true)
    (hm : 0 < m) (h63 : n + m ≤ maxLen) (hbytes : (n + m) * bytes ≤ 140737488355328) (hbase : base ≤ w.heap.size) (H : Nat) (hH : w.heap.size = H)
    (h : ∀ g cap w', w'.ownsRow base e size (.slice (some ⟨g, 0, none⟩) (n + m) cap) (n + m) (xs ++ news) → w.grownBy w' v.ownBlock → (v.ownBlock = some g ∨ g = H) → g < w'.heap.size →
      (∀ q cur, w.heap[q]? = some (.cells cur e (0, 0)) → (∃ cur', w'.heap[q]? = some (.cells cur' e (0, 0))) ∧ ∀ o, (n + m) * size ≤ o → w'.cell? ⟨q, o, none⟩ = w.cell? ⟨q, o, none⟩) → K (a.put o.dst (.slice (some ⟨g, 0, none⟩) (n + m) cap)) w') :
    if Region.wanted o (yielded ops a.tmps) = true then Oper.wp P o a w K Q else E := by
  have hw : Region.wanted o (yielded ops a.tmps) = true := by simp [Region.wanted, hgd]
  rw [if_pos hw]
  obtain ⟨g, cap, w', hr, h2, h3, h4, h5, h6⟩ := run_append_far (P := P) w t o.type base e i z size bytes ht hi hz hsize hby hzs hsz v n xs hown ad m c news hl hnews h1 hm h63 hbytes hbase H hH
  unfold Oper.wp execOp
  simp only [ho, resolve, invoke, builtin, Sem.run_bind, Sem.run_pure, Result.andThen_ok, List.map_toArray, List.map_cons, List.map_nil, hs, hx, hr]
  exact h g cap w' h2 h3 h4 h5 h6
/-- What of block q, of what is kept, was left alone: all behind n + 1 elements. -/
def FarQ (q n : Nat) (w w' : World) : Prop := ∀ cur, w.heap[q]? = some (.cells cur 70 (0, 0)) → (∃ cur', w'.heap[q]? = some (.cells cur' 70 (0, 0))) ∧ ∀ o, (n + 1) * 3 ≤ o → w'.cell? ⟨q, o, none⟩ = w.cell? ⟨q, o, none⟩
theorem FarQ.trans {q n : Nat} {a b c : World} (h : FarQ q n a b) (k : FarQ q n b c) : FarQ q n a c := fun cur hc => by
  obtain ⟨⟨cur', h1⟩, h2⟩ := h cur hc
  obtain ⟨h3, h4⟩ := k cur' h1
  exact ⟨h3, fun o ho => (h4 o ho).trans (h2 o ho)⟩
theorem FarQ.same {q n : Nat} {w w' : World} (hg : w.grownBy w' none) : FarQ q n w w' := fun cur hc => by
  have hb := hg.block q (Array.getElem?_eq_some_iff.1 hc).1 (by simp)
  exact ⟨⟨cur, hb.trans hc⟩, fun o _ => World.cell?_of_block (a := ⟨q, o, none⟩) hb⟩
theorem FarQ.of {q n : Nat} {w w' : World} (h : ∀ q cur, w.heap[q]? = some (.cells cur 70 (0, 0)) → (∃ cur', w'.heap[q]? = some (.cells cur' 70 (0, 0))) ∧ ∀ o, (n + 1) * 3 ≤ o → w'.cell? ⟨q, o, none⟩ = w.cell? ⟨q, o, none⟩) : FarQ q n w w' := h q
theorem FarQ.set {q n b m sz era : Nat} {v1 v2 v3 : Value} {w w' : World} (h : Hd w b sz era v1 v2 v3 m) (hg : w.grownBy w' (some b)) : FarQ q n w w' := fun cur hc => by
  have hne : q ≠ b := fun e => by
    subst e
    have h' : w.heap[q]? = some _ := h
    rw [h'] at hc
    injection hc with hc
    injection hc with _ hc _
    exact absurd hc (by decide)
  have hb := hg.block q (Array.getElem?_eq_some_iff.1 hc).1 (by simp; exact hne)
  exact ⟨⟨cur, hb.trans hc⟩, fun o _ => World.cell?_of_block (a := ⟨q, o, none⟩) hb⟩
def AndQ (P : Nat → Prop) (w : World) (b : Nat) (T : Tr) (q n : Nat) (e : Ending) (w' : World) : Prop := AndT P w b T (.tuple #[]) e w' ∧ FarQ q n w w'
set_option maxRecDepth 100000 in
set_option maxHeartbeats 1000000 in
theorem keep_noneq {P : Nat → Prop} {w : World} {b q : Nat} {x e a : Int} {T : Tr} (h : TA P w b T) (hm : T.marks = []) :
    Calls Try.prog 30 #[.pointer (some ⟨b, 0, none⟩), .agg #[.int .i64 x, .int .i64 e, .int .i64 a]] w (AndQ P w b T q T.kept.length) := by
  have HT := Lib.hid h
  obtain ⟨v1, v2, v3, m, h1, h2⟩ := h.parts
  have hga := World.grownBy_alloc w (.cells #[.int .i64 x, .int .i64 e, .int .i64 a] 70) none
  obtain ⟨A, c, rfl, _⟩ := row_form h2.r2
  have c4 := (h1.kept hga (by simp)).c4
  rw [hm] at c4
  simp only [List.length_nil] at c4
  clear h h1 h2 hga hm
  go_enter Try.func30, Try.ntmps30
  go_wp2_with fail
  refine bodyPost_ret (results_none rfl _ _ _) rfl ?_
  exact ⟨⟨rfl, HT.out.grown (World.grownBy_alloc _ _ _), Kp.none (World.grownBy_alloc _ _ _)⟩, FarQ.same (World.grownBy_alloc _ _ _)⟩
set_option maxRecDepth 100000 in
set_option maxHeartbeats 1000000 in
theorem keep_someq {P : Nat → Prop} {w : World} {b n q : Nat} {x e a : Int} {T : Tr} (h : TA P w b T) (hm : T.marks.length = n + 1) (hn : n < 1000000) (hk : T.kept.length < 1000000) (hP : ∀ k, w.heap.size ≤ k → P k) :
    Calls Try.prog 30 #[.pointer (some ⟨b, 0, none⟩), .agg #[.int .i64 x, .int .i64 e, .int .i64 a]] w (AndQ P w b (T.keep (x, e, a)) q T.kept.length) := by
  have HT := Lib.hid h
  obtain ⟨v1, v2, v3, m, h1, h2⟩ := h.parts
  have hga := World.grownBy_alloc w (.cells #[.int .i64 x, .int .i64 e, .int .i64 a] 70) none
  obtain ⟨A, c, rfl, _, _, hA⟩ := row_form h2.r2
  obtain ⟨g, rfl, hg⟩ := hA (by omega)
  have h2a := h2.grown hga
  have h1a := h1.kept hga (by simp)
  have d0 := h2a.r2.at0 n (by omega)
  have d1 := h2a.r2.at1 n (by omega)
  have d2 := h2a.r2.at2 n (by omega)
  have hlast : T.last = nth3 T.marks n := by unfold Tr.last; rw [hm]; rfl
  rw [← hlast] at d0 d1 d2
  have hnm : T.marks ≠ [] := fun q => by rw [q] at hm; simp at hm
  have hke : T.keep (x, e, a) = if a < T.last.2.1 ∧ e < T.last.1 then { T with kept := T.kept ++ [(x, e, a)] } else T := by unfold Tr.keep; rw [if_neg hnm]
  rw [hke]
  have c4 := h1a.c4
  have HH := Lib.hid h1a
  have HPa := Lib.hid h2a
  have HKL := Lib.hid hk
  have HPP := Lib.hid hP
  have HS1 : Hid ((w.alloc (.cells #[.int .i64 x, .int .i64 e, .int .i64 a] 70)).heap.size = w.heap.size + 1) := Lib.hid (by simp)
  have hsub : IntKind.i64.wrap ((T.marks.length : Int) - 1) = (n : Int) := by rw [IntWalk.i64_in _ (by omega)]; omega
  have hnz : ¬ ((T.marks.length : Int) = 0) := by omega
  have hnl : (n : Int) < (T.marks.length : Int) := by omega
  have HM : Hid (HoldM b g T.marks.length c n T.last (w.alloc (.cells #[.int .i64 x, .int .i64 e, .int .i64 a] 70))) := Lib.hid ⟨c4, d0, d1, d2⟩
  have HA := Lib.hid hga
  have HB := Lib.hid (heap_alloc_new w (.cells #[.int .i64 x, .int .i64 e, .int .i64 a] 70))
  obtain ⟨y, hy⟩ : ∃ y, T.last = y := ⟨_, rfl⟩
  rw [hy] at HM
  rw [hy]
  generalize hN : T.marks.length = N at *
  clear h h1 h2 hga h1a h2a hA hk hP hlast hnm hke d0 d1 d2 hy hm hN
  go_enter Try.func30, Try.ntmps30
  go_upto_region 2 with fail
  generalize w.alloc (.cells #[.int .i64 x, .int .i64 e, .int .i64 a] 70) = w1 at *
  go_region_held3 (fun W => HoldM b g N c n y W) (first | exact HM.out.grown (grown_drew (World.grownBy_refl _)) | exact holdM_alloc (by assumption) | assumption) (fail)
  have HA2 : Hid (w.grownBy (w1.alloc (.cells #[.int .i64 y.1, .int .i64 y.2.1, .int .i64 y.2.2] 63)).drew none) := Lib.hid (grown_drew (World.grownBy.trans HA.out (World.grownBy_alloc _ _ _)))
  have HG1 : Hid (w1.grownBy (w1.alloc (.cells #[.int .i64 y.1, .int .i64 y.2.1, .int .i64 y.2.2] 63)).drew none) := Lib.hid (grown_drew (World.grownBy_alloc _ _ _))
  have hb1 : (w1.alloc (.cells #[.int .i64 y.1, .int .i64 y.2.1, .int .i64 y.2.2] 63)).drew.heap[w1.heap.size]? = some (.cells #[.int .i64 y.1, .int .i64 y.2.1, .int .i64 y.2.2] 63 (0, 0)) := heap_alloc_new w1 _
  have HH2 := Lib.hid (HH.out.kept HG1.out (by simp))
  have HP2 := Lib.hid (HPa.out.grown HG1.out)
  have hb0 := (HG1.out.block w.heap.size (Array.getElem?_eq_some_iff.1 HB.out).1 (by simp)).trans HB.out
  have hsz2 : w.heap.size + 2 = (w1.alloc (.cells #[.int .i64 y.1, .int .i64 y.2.1, .int .i64 y.2.2] 63)).drew.heap.size := by have := HS1.out; simp; omega
  have HSZ := Lib.hid hsz2
  have hw1 := HS1.out
  clear HA HG1 HH HPa HB HM c4 hsz2
  rename_i hHeld
  clear hHeld
  generalize (w1.alloc (.cells #[.int .i64 y.1, .int .i64 y.2.1, .int .i64 y.2.2] 63)).drew = w2 at *
  obtain ⟨q0, q1, q2⟩ := cells3 hb1
  obtain ⟨k0, k1, k2⟩ := cells3 hb0
  have HB0 := Lib.hid hb0
  clear hb1 hb0
  rw [hw1] at q0 q1 q2 ⊢
  clear hw1 HS1
  by_cases ha : a < y.2.1
  · by_cases he : e < y.1
    · rw [if_pos ⟨ha, he⟩]
      obtain ⟨i0, hi, hz0, hz1, hz2⟩ := info_parts info_kept
      have I0 := Lib.hid hi
      have Z0 := Lib.hid hz0
      have Z1 := Lib.hid hz1
      have Z2 := Lib.hid hz2
      obtain ⟨A3, c3, hv3, _⟩ := row_form HP2.out.r3
      have HV3 := Lib.hid hv3
      have HHd : Hid (Hd w2.drew b T.size T.era (.slice (some ⟨g, 0, none⟩) N c) v1 v3 m) ∨ True := .inr trivial
      clear HHd
      have hbn := HB0.out
      have c5 : w2.drew.cell? ⟨b, 5, none⟩ = some v3 := HH2.out.c5
      have c5a : (w2.alloc (.cells #[.int .i64 x, .int .i64 e, .int .i64 a] 70)).cell? ⟨b, 5, none⟩ = some v3 := cell_grown HH2.out.c5 (World.grownBy_alloc _ _ _)
      have k0' : w2.drew.cell? ⟨w.heap.size, 0, none⟩ = some (.int .i64 x) := k0
      have k1' : w2.drew.cell? ⟨w.heap.size, 1, none⟩ = some (.int .i64 e) := k1
      have k2' : w2.drew.cell? ⟨w.heap.size, 2, none⟩ = some (.int .i64 a) := k2
      have hdn : w2.grownBy (w2.alloc (.cells #[.int .i64 x, .int .i64 e, .int .i64 a] 70)).drew none := grown_drew (World.grownBy_alloc _ _ _)
      have HH3 := Lib.hid (HH2.out.kept hdn (by simp))
      have HP3 := Lib.hid (HP2.out.grown hdn)
      have hbk : (w2.alloc (.cells #[.int .i64 x, .int .i64 e, .int .i64 a] 70)).drew.heap[w2.heap.size]? = some (.cells #[.int .i64 x, .int .i64 e, .int .i64 a] 70 (0, 0)) := heap_alloc_new w2 _
      have HN3 := Lib.hid (World.news_of_block hbk)
      have HA3 := Lib.hid (World.grownBy.trans HA2.out hdn)
      clear hdn hbn hbk hi hz0 hz1 hz2
      rw [hv3] at c5 c5a
      clear hv3
      go_upto_region 4 with fail
      clear q0 q1 q2 k0 k1 k2
      go_region_law (refine step_append_far _ rfl (.tmp 40) (.tmp 42) 57 rfl 0 70 i0 (.agg #[.int .i64 0, .int .i64 0, .int .i64 0]) 3 24 Try.underlying57 I0.out Z0.out Z1.out Z2.out rfl (by decide) v3 T.kept.length (flat3 T.kept) HV3.out.symm HP3.out.r3 ⟨w2.heap.size, 0, none⟩ 1 1 [.int .i64 x, .int .i64 e, .int .i64 a] rfl rfl HN3.out (by simp [Value.oneCell']) (by decide) (by have := HKL.out; unfold maxLen; omega) (by have := HKL.out; omega) (Nat.zero_le _) (w2.heap.size + 1) (by simp) ?_; intro g' cap' w' hO hG hL hlt hF; have e5 := (hd_row HH3.out HP3.out.r3 (by decide) hG).c5; have e5f := (hd_row HH3.out HP3.out.r3 (by decide) hG).frozen 5)
      all_goals (
        have hp3 : ∀ k, (Value.slice (some ⟨g', 0, none⟩) (T.kept.length + 1) cap').ownBlock = some k → P k := fun k hk => by
          simp only [Value.ownBlock, Option.some.injEq] at hk
          subst hk
          rcases hL with hL | hL
          · exact HP3.out.p3 _ hL
          · exact HPP.out _ (by have := HSZ.out; omega)
        have hrow : RowK w' (.slice (some ⟨g', 0, none⟩) (T.kept.length + 1) cap') (T.kept ++ [(x, e, a)]) := by
          unfold RowK
          rw [List.length_append, List.length_singleton, flat3_append]
          exact hO
        have hP4 := HP3.out.kept3 hG hrow hp3
        have hH4 := hd_row HH3.out HP3.out.r3 (by decide) hG
        obtain ⟨hH5, hg5⟩ := hH4.set5 (.slice (some ⟨g', 0, none⟩) (T.kept.length + 1) cap')
        have hP5 := hP4.keptB hH4 hg5
        have hK5 : Kp P w (w'.setCell ⟨b, 5, none⟩ (.slice (some ⟨g', 0, none⟩) (T.kept.length + 1) cap')) := ((Kp.none HA3.out).trans (Kp.row hG HP3.out.p3)).trans (Kp.one hg5 HP3.out.pb)
        rw [if_pos ⟨ha, he⟩]
        go_end0
        exact ⟨⟨rfl, Parts.ta (T := { T with kept := T.kept ++ [(x, e, a)] }) hP5 hH5, hK5⟩, ((FarQ.same HA3.out).trans (FarQ.of hF)).trans (FarQ.set hH4 hg5)⟩)
    · rw [if_neg (fun q => he q.2)]
      go_wp2_with fail
      go_end0
      exact ⟨⟨rfl, HT.out.grown HA2.out, Kp.none HA2.out⟩, FarQ.same HA2.out⟩
  · rw [if_neg (fun q => ha q.1)]
    go_wp2_with fail
    go_end0
    exact ⟨⟨rfl, HT.out.grown HA2.out, Kp.none HA2.out⟩, FarQ.same HA2.out⟩
/-- keep, whatever marks there are. -/
theorem keep_anyq {P : Nat → Prop} {w : World} {b q : Nat} {x e a : Int} {T : Tr} (h : TA P w b T) (hP : ∀ k, w.heap.size ≤ k → P k) (hm : T.marks.length < 1000000) (hk : T.kept.length < 1000000) :
    Calls Try.prog 30 #[.pointer (some ⟨b, 0, none⟩), .agg #[.int .i64 x, .int .i64 e, .int .i64 a]] w (AndQ P w b (T.keep (x, e, a)) q T.kept.length) := by
  cases hl : T.marks.length with
  | zero =>
    have h0 := List.eq_nil_of_length_eq_zero hl
    have e1 : T.keep (x, e, a) = T := by unfold Tr.keep; rw [if_pos h0]
    rw [e1]
    exact keep_noneq h h0
  | succ n => exact keep_someq h hl (by omega) hk hP
end Go.Proofs.Ytafcecacldafgaa
