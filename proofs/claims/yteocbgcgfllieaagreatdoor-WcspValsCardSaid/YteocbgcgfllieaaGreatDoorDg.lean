/- The document's function, read (no statement of its own). -/
import Derived.Test.YteocbgcgfllieaaGreatDoorDff
namespace Go.Proofs.YteocbgcgfllieaaGreatDoor
open Go.RowKit
set_option linter.unusedVariables false
theorem wr_small (q : Nat) (h : q ≤ 4611686018427387903) : wrap64 ((q : Int) + 1) = (q : Int) + 1 ∧ wrap64 (q : Int) = (q : Int) ∧ IntKind.i64.wrap ((q : Int) + 1) = (q : Int) + 1 ∧ IntKind.i64.wrap ((q : Int) + 1 - 1) = (q : Int) ∧ IntKind.i64.wrap (q : Int) = (q : Int) := by
  have h2 : IntKind.i64.wrap (q : Int) = (q : Int) := IntWalk.i64_in _ (by omega)
  refine ⟨IntWalk.wrap64_in _ (by omega), IntWalk.wrap64_in _ (by omega), IntWalk.i64_in _ (by omega), ?_, h2⟩
  rw [show (q : Int) + 1 - 1 = q by omega]
  exact h2
theorem wr_add (t : Int) (M : Nat) (h : 0 ≤ t ∧ t ≤ 100000) (hM : M ≤ 4611686018427387904) : wrap64 (t + (M : Int)) = t + (M : Int) ∧ IntKind.i64.wrap (t + (M : Int)) = t + (M : Int) :=
  ⟨IntWalk.wrap64_in _ (by omega), IntWalk.i64_in _ (by omega)⟩
theorem wr_pred (z : Nat) (h : z ≤ 4611686018427387904) : wrap64 ((z : Int) - 1) = (z : Int) - 1 ∧ IntKind.i64.wrap ((z : Int) - 1) = (z : Int) - 1 :=
  ⟨IntWalk.wrap64_in _ (by omega), IntWalk.i64_in _ (by omega)⟩
theorem dec_far (S : Int) : decide ((16384 : Int) < (if 4611686018427387904 < S then 4611686018427387904 else S)) = decide ((16384 : Int) < S) := by
  split
  · rw [decide_eq_true (by decide), decide_eq_true (by omega)]
  · rfl
/-- A function's lines, behind their number. -/
def dL (l : List UInt8) (sizes sc : List Nat) (a : AccM) (m : Int × Nat) (s' : RdS) : RdR (List LineM × Int) :=
  if m.1 < 0 then
    match a.shared[(-m.1).toNat - 1]? with
    | some g => if pickN sizes g.scope = pickN sizes sc then .ok (g.lines, a.told) s' else .bad 4 m.2
    | none => .bad 4 m.2
  else (linesM l sizes sc m.1.toNat [] (limS (decide (16384 < a.told + m.1)) m.2 s')).bind fun ls s'' => .ok (ls, a.told + m.1) s''
theorem funLines_eq (l : List UInt8) (sizes sc : List Nat) (a : AccM) (s : RdS) : funLines l sizes sc a s = (numM l (-farZ) farZ s).bind (dL l sizes sc a) := rfl
theorem cF3_eq (l : List UInt8) (sizes : List Nat) (a : AccM) (ar : Int × Nat) (sc : List Nat) (o : Int × Nat) (s : RdS) : cF3 l sizes a ar sc o s = (numM l (-4611686018427387904) 4611686018427387904 s).bind fun m s' => (dL l sizes sc a m s').bind (cF4 sizes a ar sc o) := by
  unfold cF3
  rw [funLines_eq, RdR.bind_assoc]
theorem cnt_snoc : ∀ (l : List Nat) (k n : Nat), cntM (l ++ [k]) n = min (cntM l n * min k 4097) 4097
  | [], k, n => rfl
  | x :: l, k, n => cnt_snoc l k _
theorem cnt_le : ∀ (l : List Nat) (n : Nat), n ≤ 4097 → cntM l n ≤ 4097
  | [], n, h => h
  | x :: l, n, h => cnt_le l _ (by omega)
set_option maxRecDepth 100000 in
set_option maxHeartbeats 8000000 in
theorem fun7 (b base cs : Nat) (As : Option Addr) (sizes : List Nat) (s : ByteArray) (st : RdS) (v : DrV) (a : AccM) (us : List (Value × Value × Int × Value)) (w : World) (hnv : sizes.length ≤ 100000) (hsm : ∀ x ∈ sizes, x ≤ 4611686018427387904)
    (h : DrOk w b s st v) (ha : AccOk sizes a st) (ht : v.lines = a.told) (hO : OwnFd w base v.shared us) (hU : FdIs w sizes us a.shared) (hS : I6 w As sizes) (hb : b < base) (hbase : base ≤ w.heap.size) :
    Calls Tryz.prog 37 #[.pointer (some ⟨b, 0, none⟩), .slice As sizes.length cs] w (FunPost7 s b base sizes v a (funM s.data.toList sizes a st) w) := by
  have HO := Lib.hid hO
  have HU := Lib.hid hU
  have HA := Lib.hid ha
  have HT := Lib.hid ht
  have HS := Lib.hid hS
  have HB := Lib.hid (And.intro hb hbase)
  have HSM := Lib.hid hsm
  have HK := Lib.hid h
  have HNV := Lib.hid hnv
  obtain ⟨E, hE⟩ : ∃ E, funM s.data.toList sizes a st = E := ⟨_, rfl⟩
  rw [hE]
  have I0 : Hid (DrIn w b s v v E (fun st => (numM s.data.toList (-4611686018427387904) 4611686018427387904 st).bind (cF1 s.data.toList sizes a))) := Lib.hid ⟨DrNear.refl v, .inl ⟨st, h, hE ▸ funM_cps _ _ _ _⟩⟩
  clear h ha ht hO hU hS hb hbase hsm hE
  go_enter Tryz.func37, Tryz.ntmps37
  go_upto_region 2 with fail
  have n1 := new_val w (.cells #[.slice none 0 0, .slice none 0 0, .int .i64 0, .slice none 0 0] 91)
  have n2 := new_val (w.alloc (.cells #[.slice none 0 0, .slice none 0 0, .int .i64 0, .slice none 0 0] 91)) (.cells #[.slice none 0 0, .slice none 0 0, .int .i64 0, .slice none 0 0] 91)
  have r1 := heap_alloc_new w (.cells #[.slice none 0 0, .slice none 0 0, .int .i64 0, .slice none 0 0] 91)
  have r2 := heap_alloc_new (w.alloc (.cells #[.slice none 0 0, .slice none 0 0, .int .i64 0, .slice none 0 0] 91)) (.cells #[.slice none 0 0, .slice none 0 0, .int .i64 0, .slice none 0 0] 91)
  have z1 : (w.alloc (.cells #[.slice none 0 0, .slice none 0 0, .int .i64 0, .slice none 0 0] 91)).heap.size = w.heap.size + 1 := World.size_alloc _ _
  rw [z1] at r2 n2
  have B2 : Below w.heap.size w ((w.alloc (.cells #[.slice none 0 0, .slice none 0 0, .int .i64 0, .slice none 0 0] 91)).alloc (.cells #[.slice none 0 0, .slice none 0 0, .int .i64 0, .slice none 0 0] 91)) := n1.trans (n2.mono (by omega))
  have F2 : Hid (FG w ((w.alloc (.cells #[.slice none 0 0, .slice none 0 0, .int .i64 0, .slice none 0 0] 91)).alloc (.cells #[.slice none 0 0, .slice none 0 0, .int .i64 0, .slice none 0 0] 91)) b (w.heap.size + 1) w.heap.size (.slice none 0 0) (.slice none 0 0) 0 (.slice none 0 0)) :=
    Lib.hid ⟨r2, (n2.block w.heap.size (by omega)).trans r1, Gr.below B2, Nat.le_refl _, Nat.lt_succ_self _, HK.out.at_.lt⟩
  have I2 := Lib.hid (I0.out.below B2)
  clear n1 n2 r1 r2 z1 B2 I0
  change Code.wp _ _ _ _ ((w.alloc (.cells #[.slice none 0 0, .slice none 0 0, .int .i64 0, .slice none 0 0] 91)).alloc (.cells #[.slice none 0 0, .slice none 0 0, .int .i64 0, .slice none 0 0] 91))
  generalize (w.alloc (.cells #[.slice none 0 0, .slice none 0 0, .int .i64 0, .slice none 0 0] 91)).alloc (.cells #[.slice none 0 0, .slice none 0 0, .int .i64 0, .slice none 0 0] 91) = w2 at F2 I2 ⊢
  have N2 := Lib.hid (num7 I2.out)
  go_upto_region 3 with (first
    | (go_at_call 36; refine N2.out.mono ?_; rintro e w3 ⟨ar, arP, v3, rfl, hr3, hz3, -, -, hg3, hi3⟩; replace hr3 := Lib.hid (And.intro hr3 hz3); clear hz3; replace hg3 := Lib.hid hg3; replace hi3 := Lib.hid hi3)
    | fail)
  have F3 := Lib.hid (F2.out.gr hg3.out)
  clear N2 I2 F2 hg3
  have HAR : Hid (ar.natAbs ≤ 4611686018427387904 ∧ (v3.bad = 0 ∨ ar.natAbs = 0)) := Lib.hid (by
    obtain ⟨h1, h2⟩ := hr3.out
    refine ⟨by rcases h1 with h | h <;> omega, ?_⟩
    by_cases hb : v3.bad = 0
    · exact .inl hb
    · exact .inr (by rw [h2 hb]; rfl))
  clear hr3
  go_upto_if 35 with fail
  go_cut [6, 8] from 34 to 37 (fun v6 v8 wc => Hid (v6 = .int .i64 (ar.natAbs : Int) ∧ v8 = .bool (decide (ar < 0)) ∧ wc = w3))
  case first =>
    by_cases hn : ar < 0
    · have d1 : decide (ar < 0) = true := decide_eq_true hn
      have e1 : -ar = (ar.natAbs : Int) := by omega
      have e2 : IntKind.i64.wrap (-ar) = (ar.natAbs : Int) := by rw [e1]; exact IntWalk.i64_in _ (by have := HAR.out.1; omega)
      go_wp2_with fail
      go_meet
      case rel => exact Lib.hid ⟨by rw [show wrap64 (ar.natAbs : Int) = (ar.natAbs : Int) from IntWalk.wrap64_in _ (by have := HAR.out.1; omega)], by rw [d1], rfl⟩
    · have d1 : decide (ar < 0) = false := decide_eq_false hn
      go_wp2_with fail
      go_meet
      case rel => exact Lib.hid ⟨congrArg (Value.int .i64) (by omega), by rw [d1], rfl⟩
  obtain ⟨rfl, rfl, hwc⟩ := hcut.out
  rw [hwc]
  clear hcut hwc
  obtain ⟨N, hN⟩ : ∃ N, ar.natAbs = N := ⟨_, rfl⟩
  have HN := Lib.hid hN
  rw [hN] at HAR ⊢
  have S0 : Hid (ScD w b (w.heap.size + 1) w.heap.size s sizes N v E (cF2 s.data.toList sizes a (ar, arP)) 0 [] (.slice none 0 0) (.slice none 0 0) v3 w3) := Lib.hid
    ⟨F3.out, ⟨own6_nil _ _, own6_nil _ _, .inl rfl⟩, hN ▸ hi3.out, HAR.out.2, rfl, Nat.zero_le _, List.Pairwise.nil, fun x h => absurd h (by simp)⟩
  clear hN hi3 F3
  obtain ⟨R, hR⟩ : ∃ R, w.heap.size = R := ⟨_, rfl⟩
  obtain ⟨G, hG⟩ : ∃ G, w.heap.size + 1 = G := ⟨_, rfl⟩
  rw [hG] at S0 ⊢
  rw [hR] at S0 ⊢
  have HRG := Lib.hid (And.intro hR hG)
  clear hR hG
  have HLE := Lib.hid HAR.out.1
  clear HAR
  go_wp2_with fail
  go_loopw [9, 10, 11, 13] (fun i _ _ _ wr => ∃ (j : Nat) (acc : List Nat) (sv zv : Value) (v' : DrV), i = .int .i64 (j : Int) ∧ j ≤ N ∧ ScD w b G R s sizes N v E (cF2 s.data.toList sizes a (ar, arP)) j acc sv zv v' wr) (fun i _ _ _ _ => N - (intOf i).toNat)
  case atStart => exact ⟨0, [], _, _, v3, rfl, Nat.zero_le _, S0.out⟩
  case round =>
    obtain ⟨j, acc, sv, zv, v', rfl, hj, hsc⟩ := hrel
    have SC := Lib.hid hsc
    clear hsc S0
    have c3 : wr.cell? ⟨b, 3, none⟩ = some (.int .i64 v'.bad) := SC.out.rd.at_.cell (i := 3) rfl
    by_cases hlt : j < N
    · --[arity
      have hbad : v'.bad = 0 := by
        rcases SC.out.ok with h | h
        · exact h
        · omega
      rw [hbad] at c3
      have d1 : decide ((j : Int) < (N : Int)) = true := decide_eq_true (by omega)
      have NM := Lib.hid (num7 (SC.out.rd.conv (fun st => by rw [scopeM_next (by omega), RdR.bind_assoc])))
      go_upto_region 10 with (first
        | (go_at_call 36; refine NM.out.mono ?_; rintro e w4 ⟨n, p, v4, rfl, hr4, hz4, -, -, hg4, hi4⟩; replace hr4 := Lib.hid (And.intro hr4 hz4); clear hz4; replace hg4 := Lib.hid hg4; replace hi4 := Lib.hid hi4)
        | fail)
      have F4 := Lib.hid (SC.out.f.gr hg4.out)
      have T4 := Lib.hid (SC.out.two.keep hg4.out (fun g e => by injection e with e; subst e; exact ⟨_, _, SC.out.rd.at_⟩) (by decide))
      obtain ⟨A1, q1, rfl, hc1, hI1⟩ := T4.out.a.form
      obtain ⟨A2, q2, rfl, hc2, hI2⟩ := T4.out.b.form
      have hpl : (pickN sizes acc).length = acc.length := by simp [pickN]
      rw [hpl] at T4 F4 SC
      have HI1 := Lib.hid hI1
      have HC1 := Lib.hid hc1
      clear hI1 hI2 hc1 hc2 hpl
      obtain ⟨k0, k1, k2, k3⟩ := F4.out.cells
      have c4 : w4.cell? ⟨b, 3, none⟩ = some (.int .i64 v4.bad) := hi4.out.at_.cell (i := 3) rfl
      have R4 := Lib.hid F4.out.r
      clear c3
      by_cases hb4 : v4.bad = 0
      · rw [hb4] at c4
        obtain ⟨hn0, hn1⟩ : 0 ≤ n ∧ n ≤ (sizes.length : Int) - 1 := by
          rcases hr4.out.1 with h | h
          · exact h
          · exact absurd hb4 h.2
        obtain ⟨y, rfl⟩ := Int.eq_ofNat_of_zero_le hn0
        have HY := Lib.hid (show y < sizes.length by omega)
        have HB4 := Lib.hid hb4
        clear hn0 hn1 hb4
        obtain ⟨L, hL⟩ : ∃ L, acc.length = L := ⟨_, rfl⟩
        rw [hL] at T4 F4 SC k0 k1 HC1
        have HLN := Lib.hid hL
        have hL9 : L ≤ 100000 := by rw [← hL]; exact SC.out.few
        have HL9 := Lib.hid hL9
        clear hL
        go_wp2_with fail
        go_loop [13, 67] (fun _ i => ∃ q : Nat, i = .int .i64 (q : Int) ∧ q ≤ L ∧ ∀ x, x < q → ¬ nth acc x = y) (fun _ i => L - (intOf i).toNat)
        case atStart => exact ⟨0, rfl, Nat.zero_le _, fun x h => absurd h (Nat.not_lt_zero _)⟩
        case round =>
          obtain ⟨q, rfl, hq, hno⟩ := hrel
          have HNO := Lib.hid hno
          clear hno
          by_cases hql : q < L
          · have d2 : decide ((q : Int) < (L : Int)) = true := decide_eq_true (by omega)
            obtain ⟨g, o, rfl, cc⟩ := HI1.out.at_ (show q < acc.length by rw [HLN.out]; exact hql)
            by_cases he : nth acc q = y
            · --[found
              rw [he] at cc
              have d3 : ((y : Int) == (y : Int)) = true := by simp
              have HIN := Lib.hid (show acc.contains y = true by
                have : nth acc q ∈ acc := nth_mem (by rw [HLN.out]; exact hql)
                rw [he] at this
                simpa using this)
              have BD := Lib.hid (bad7 (e := 4) (p := p) (by decide) (hi4.out.conv (fun st => by simp only [Int.toNat_natCast]; rw [HIN.out]; rfl)))
              go_upto_region 17 with (first
                | (go_at_call 38; refine BD.out.mono ?_; rintro e w5 ⟨v5, e5, p5, ⟨_, rfl⟩, hg5, hn5, hb5, hE5⟩; replace hg5 := Lib.hid hg5; replace hn5 := Lib.hid hn5; replace hb5 := Lib.hid hb5; replace hE5 := Lib.hid hE5)
                | fail)
              have F5 := Lib.hid (F4.out.gr hg5.out)
              clear k0 k1 k2 k3 c4 cc
              obtain ⟨k0, k1, k2, k3⟩ := F5.out.cells
              go_wp2_with (first
                | ((with_reducible show wpList _ _ _ (Oper.mk none (.store 91 _ _) _ _ _ _ :: _) _ _); refine wpList_store_row rfl 91 (.tmp 4) (.tmp 77) rfl R #[.slice (some ⟨g, o, none⟩) L q1, .slice A2 L q2, .int .i64 0, .slice none 0 0] rfl rfl 91 #[.slice none 0 0, .slice none 0 0, .int .i64 0, .slice none 0 0] F5.out.r (by kernel_rfl) rfl (by simp [Value.oneCell']) ?_)
                | fail)
              exact bodyPost_ret (results_fd rfl _ _ R _ _ _ _ rfl (setRow_heap _ R _ _ _ _ F5.out.r)) rfl (fun7_bad F5.out.r (FrD.of F5.out.k) ⟨F5.out.far.1, by have := F5.out.far; omega⟩ hn5.out hb5.out hE5.out _)
              --]
            · --[next
              have FIN : Hid (∀ x, x < q + 1 → ¬ nth acc x = y) := Lib.hid (fun x hx => by
                rcases Nat.lt_or_ge x q with h | h
                · exact HNO.out x h
                · rw [show x = q by omega]; exact he)
              generalize nth acc q = z at cc he
              have d3 : ((z : Int) == (y : Int)) = false := by simp; omega
              clear he HNO
              have hq5 : q ≤ 100000 := by have := HL9.out; omega
              go_wp2_with fail
              go_round
              case rel => exact ⟨q + 1, by go_num, by omega, FIN.out⟩
              case measure => simp [intOf]; omega
              --]
          · have d2 : decide ((q : Int) < (L : Int)) = false := decide_eq_false (by omega)
            have HNI := Lib.hid (show acc.contains y = false by
              rw [List.contains_eq_mem, decide_eq_false_iff_not]
              intro hm
              obtain ⟨i, hi, he⟩ := List.mem_iff_getElem.1 hm
              refine HNO.out i (by have := HLN.out; omega) ?_
              simp [nth, List.getD, hi, he])
            have I4 := Lib.hid (hi4.out.conv (C' := fun st => (scopeM s.data.toList sizes.length (N - (j + 1)) (acc ++ [y]) st).bind (cF2 s.data.toList sizes a (ar, arP))) (fun st => by simp only [Int.toNat_natCast]; rw [HNI.out]; rfl))
            clear HNO d2 c4
            go_upto_region 19 with fail
            have na := new_val w4 (.cells #[.int .i64 (y : Int)] 2)
            have cy : (w4.alloc (.cells #[.int .i64 (y : Int)] 2)).cell? ((⟨w4.heap.size, 0, none⟩ : Addr).add 0) = some (.int .i64 (y : Int)) := by
              show (w4.alloc _).cell? ⟨w4.heap.size, 0, none⟩ = _
              rw [cell_of_row _ _ _ _ _ _ (heap_alloc_new w4 _)]; rfl
            have T5 := Lib.hid (T4.out.below na)
            have F5 := Lib.hid (F4.out.below na)
            have I5 := Lib.hid (I4.out.below na)
            have k05 : (w4.alloc (.cells #[.int .i64 (y : Int)] 2)).cell? ⟨G, 0, none⟩ = some (.slice A1 L q1) := F5.out.cells.1
            have BZ := Lib.hid (show w.heap.size ≤ (w4.alloc (.cells #[.int .i64 (y : Int)] 2)).heap.size from F5.out.k.size)
            have CY := Lib.hid cy
            clear na cy k1 k2 k3
            go_upto_region 20 with (first
              | (at_builtin; refine push6 rfl (.tmp 80) (.tmp 82) rfl _ w.heap.size y _ acc ⟨w4.heap.size, 0, none⟩ rfl rfl T5.out.a CY.out BZ.out (by rw [HLN.out]; have := HL9.out; omega) ?_; intro v6 w6 h1 h2 h3; obtain ⟨A6, q6, rfl⟩ := h1.formN (m := L + 1) (by simp [HLN.out]); have T6 := Lib.hid (T5.out.push h1 h2 h3); have F6 := Lib.hid (F5.out.own6 T5.out.a h2); have I6 := Lib.hid (I5.out.own6 T5.out.a h2); have fz := F6.out.frozen 0; have k06 := F6.out.cells.1; clear h1 h2 h3)
              | fail)
            have F7 := Lib.hid (F6.out.put 0 (.slice A6 (L + 1) q6) rfl)
            have T7 := Lib.hid (T6.out.keep (grown_put w6 G 0 (.slice A6 (L + 1) q6)) (fun g e => by injection e with e; subst e; exact ⟨_, _, F6.out.g⟩) (by decide))
            have I7 := Lib.hid (I6.out.fun_ (i := 0) (u := .slice A6 (L + 1) q6) F6.out)
            clear k05 k06 fz
            change Code.wp _ _ _ _ (w6.setCell ⟨G, 0, none⟩ (.slice A6 (L + 1) q6))
            generalize w6.setCell ⟨G, 0, none⟩ (.slice A6 (L + 1) q6) = w7 at F7 T7 I7 ⊢
            clear T6 F6 I6 T5 F5 I5 BZ CY
            obtain ⟨gs, os, rfl, cS⟩ := (HS.out.keep (F7.out.keepD HK.out.at_)).at_ HY.out
            have k17 := F7.out.cells.2.1
            have HZ := Lib.hid (HSM.out (nth sizes y) (nth_mem HY.out))
            have HPS := Lib.hid (pick_snoc sizes acc y)
            generalize nth sizes y = z at cS HZ HPS
            have hyl : y < sizes.length := HY.out
            have hyl' : (y : Int) < (sizes.length : Int) := by omega
            have GSL := Lib.hid (HS.out.lt (by omega))
            have Fd := Lib.hid (F7.out.below ((Below.refl w7.heap.size w7).drew))
            have Td := Lib.hid (T7.out.below ((Below.refl w7.heap.size w7).drew))
            have Id := Lib.hid (I7.out.below ((Below.refl w7.heap.size w7).drew))
            refine wp_region_noPanic ?_
            refine wp_region_held_drew (S := fun W => W.cell? ⟨gs, os + y, none⟩ = some (.int .i64 (z : Int))) (by kernel_rfl) cS (fun hHeld => ?_)
            generalize w7.drew = wd at hHeld Fd Td Id ⊢
            clear cS k17 F7 T7 I7
            refine wpAnyH_take (i := 0) (v := ?v201) rfl (by kernel_rfl) (by kernel_rfl) (by kernel_rfl) (fun _ _ _ h => h) (Or.inl ⟨by rfl, ?y201⟩) (by assumption) ?r201
            case y201 => ((intro w hSw; (try dsimp only at hSw); go_simp); try with_reducible rfl)
            try simp only [Act.put, List.getElem_toArray, List.getElem_cons_zero, List.setIfInBounds_toArray, List.set_cons_zero, List.set_cons_succ]
            refine wpAnyH_take (i := 2) (v := ?v202) rfl (by kernel_rfl) (by kernel_rfl) (by kernel_rfl) (fun _ _ _ h => h) (Or.inl ⟨by rfl, ?y202⟩) (by assumption) ?r202
            case y202 => ((intro w hSw; (try dsimp only at hSw); go_simp); try with_reducible rfl)
            try simp only [Act.put, List.getElem_toArray, List.getElem_cons_succ, List.getElem_cons_zero, List.setIfInBounds_toArray, List.set_cons_zero, List.set_cons_succ]
            refine wpAnyH_take (i := 3) (v := ?v203) rfl (by kernel_rfl) (by kernel_rfl) (by kernel_rfl) (fun _ _ _ h => h) (Or.inl ⟨by rfl, ?y203⟩) (by assumption) ?r203
            case y203 => ((intro w hSw; (try dsimp only at hSw); go_simp); try with_reducible rfl)
            try simp only [Act.put, List.getElem_toArray, List.getElem_cons_succ, List.getElem_cons_zero, List.setIfInBounds_toArray, List.set_cons_zero, List.set_cons_succ]
            refine wpAnyH_take (i := 4) (v := ?v204) rfl (by kernel_rfl) (by kernel_rfl) (by kernel_rfl) (fun _ _ _ h => h) (Or.inl ⟨by rfl, ?y204⟩) (by assumption) ?r204
            case y204 => ((intro w hSw; (try dsimp only at hSw); go_simp); try with_reducible rfl)
            try simp only [Act.put, List.getElem_toArray, List.getElem_cons_succ, List.getElem_cons_zero, List.setIfInBounds_toArray, List.set_cons_zero, List.set_cons_succ]
            refine wpAnyH_take (i := 5) (v := ?v205) rfl (by kernel_rfl) (by kernel_rfl) (by kernel_rfl) (fun _ _ _ h => h) (Or.inl ⟨by rfl, ?y205⟩) (by assumption) ?r205
            case y205 => ((intro w hSw; (try dsimp only at hSw); go_simp); try with_reducible rfl)
            try simp only [Act.put, List.getElem_toArray, List.getElem_cons_succ, List.getElem_cons_zero, List.setIfInBounds_toArray, List.set_cons_zero, List.set_cons_succ]
            refine wpAnyH_ready (rs := [1, 6]) (by kernel_rfl) (by simp) ?_
            refine AllReadyH.cons rfl (fun K hK => ?_) ?_
            · have ac : wd.cell? ⟨G, 1, none⟩ = some (.slice A2 L q2) := Fd.out.cells.2.1
              go_simp
              clear ac
              refine hK.out _ _ (hHeld) (fun hHeld' => ?_)
              clear hHeld
              have hHeld := hHeld'
              clear hHeld'
              clear hK K
              try simp only [Act.put, List.getElem_toArray, List.getElem_cons_succ, List.getElem_cons_zero, List.setIfInBounds_toArray, List.set_cons_zero, List.set_cons_succ]
              refine wpAnyH_ready (rs := [6]) (by kernel_rfl) (by simp) ?_
              refine AllReadyH.cons rfl (fun K hK => ?_) ?_
              · go_simp
                have na := new_val wd (.cells #[.int .i64 (z : Int)] 2)
                have CZ : Hid ((wd.alloc (.cells #[.int .i64 (z : Int)] 2)).cell? ((⟨wd.heap.size, 0, none⟩ : Addr).add 0) = some (.int .i64 (z : Int))) := Lib.hid (by
                  show (wd.alloc _).cell? ⟨wd.heap.size, 0, none⟩ = _
                  rw [cell_of_row _ _ _ _ _ _ (heap_alloc_new wd _)]; rfl)
                have T8 := Lib.hid (Td.out.below na)
                have F8 := Lib.hid (Fd.out.below na)
                have I8 := Lib.hid (Id.out.below na)
                refine hK.out _ _ ((na.cell (p := ⟨gs, os + y, none⟩) (World.block_lt_of_cell? wd _ hHeld)).trans hHeld) (fun hHeld' => ?_)
                clear hHeld
                have hHeld := hHeld'
                clear hHeld'
                clear na
                generalize wd.alloc (.cells #[.int .i64 (z : Int)] 2) = w8 at hHeld CZ T8 F8 I8 ⊢
                generalize wd.heap.size = gl at CZ ⊢
                clear hK K
                try simp only [Act.put, List.getElem_toArray, List.getElem_cons_succ, List.getElem_cons_zero, List.setIfInBounds_toArray, List.set_cons_zero, List.set_cons_succ]
                refine wpAnyH_ready (rs := [7]) (by kernel_rfl) (by simp) ?_
                refine AllReadyH.cons rfl (fun K hK => ?_) ?_
                · refine push6_step rfl (.tmp 86) (.tmp 91) rfl w8 w.heap.size z _ (pickN sizes acc) ⟨gl, 0, none⟩ rfl (by rfl) T8.out.b CZ.out F8.out.k.size (by have := HL9.out; have := HLN.out; simp [pickN]; omega) ?_
                  intro v9 w9 h1 h2 h3
                  obtain ⟨A9, q9, rfl⟩ := h1.formN (m := L + 1) (by have := HLN.out; simp [pickN]; omega)
                  have T9 := Lib.hid (T8.out.swap.push h1 h2 h3)
                  have F9 := Lib.hid (F8.out.own6 T8.out.b h2)
                  have I9 := Lib.hid (I8.out.own6 T8.out.b h2)
                  refine hK.out _ _ ((World.cell?_of_block (a := ⟨gs, os + y, none⟩) (h2.block gs (World.block_lt_of_cell? w8 _ hHeld) (fun e => by have := (T8.out.b.lt gs e.symm).1; have := GSL.out; omega))).trans hHeld) (fun hHeld' => ?_)
                  clear hHeld
                  have hHeld := hHeld'
                  clear hHeld'
                  clear h1 h2 h3
                  clear hK K
                  try simp only [Act.put, List.getElem_toArray, List.getElem_cons_succ, List.getElem_cons_zero, List.setIfInBounds_toArray, List.set_cons_zero, List.set_cons_succ]
                  refine wpAnyH_take (i := 8) (v := ?v206) rfl (by kernel_rfl) (by kernel_rfl) (by kernel_rfl) (fun _ _ _ h => h) (Or.inl ⟨by rfl, ?y206⟩) (by assumption) ?r206
                  case y206 => ((intro w hSw; (try dsimp only at hSw); go_simp); try with_reducible rfl)
                  try simp only [Act.put, List.getElem_toArray, List.getElem_cons_succ, List.getElem_cons_zero, List.setIfInBounds_toArray, List.set_cons_zero, List.set_cons_succ]
                  refine wpAnyH_ready (rs := [9]) (by kernel_rfl) (by simp) ?_
                  refine AllReadyH.cons rfl (fun K hK => ?_) ?_
                  · have af : w9.frozen? ⟨G, 1, none⟩ = false := F9.out.frozen 1
                    have ac : w9.cell? ⟨G, 1, none⟩ = some (.slice A2 L q2) := F9.out.cells.2.1
                    go_simp
                    clear ac af
                    refine hK.out _ _ ((World.cell?_of_block (a := ⟨gs, os + y, none⟩) ((grown_put w9 G 1 (.slice A9 (L + 1) q9)).block gs (World.block_lt_of_cell? w9 _ hHeld) (fun e => by injection e with e; have := GSL.out; have := F9.out.far; omega))).trans hHeld) (fun hHeld' => ?_)
                    clear hHeld
                    have hHeld := hHeld'
                    clear hHeld'
                    clear hK K
                    try simp only [Act.put, List.getElem_toArray, List.getElem_cons_succ, List.getElem_cons_zero, List.setIfInBounds_toArray, List.set_cons_zero, List.set_cons_succ]
                    refine wpAnyH_done (by kernel_rfl) ?_ _
                    refine NoPanic.normal ?_
                    clear hHeld
                    have F10 := Lib.hid (F9.out.put 1 (.slice A9 (L + 1) q9) rfl)
                    have T10 := Lib.hid (T9.out.swap.keep (grown_put w9 G 1 (.slice A9 (L + 1) q9)) (fun g e => by injection e with e; subst e; exact ⟨_, _, F9.out.g⟩) (by decide))
                    have I10 := Lib.hid (I9.out.fun_ (i := 1) (u := .slice A9 (L + 1) q9) F9.out)
                    have SC10 : Hid (ScD w b G R s sizes N v E (cF2 s.data.toList sizes a (ar, arP)) (j + 1) (acc ++ [y]) (.slice A6 (L + 1) q6) (.slice A9 (L + 1) q9) v4 (w9.setCell ⟨G, 1, none⟩ (.slice A9 (L + 1) q9))) := Lib.hid (by
                      have hbl : ∀ x ∈ acc ++ [y], x < sizes.length := fun x hx => by
                        rcases List.mem_append.1 hx with hx | hx
                        · exact SC.out.below x hx
                        · simp at hx
                          rw [hx]
                          exact HY.out
                      have hpw : (acc ++ [y]).Pairwise (· ≠ ·) := List.pairwise_append.2 ⟨SC.out.once, by simp, fun p hp q hq => by
                        simp at hq
                        subst hq
                        intro e
                        subst e
                        have := HNI.out
                        simp [hp] at this⟩
                      refine ⟨F10.out, ?_, I10.out, .inl HB4.out, by rw [List.length_append, SC.out.len]; rfl, Nat.le_trans (nodup_len _ _ hpw hbl) HNV.out, hpw, hbl⟩
                      rw [HPS.out]
                      exact T10.out)
                    clear F10 T10 I10 F9 T9 I9
                    have hj5 : j ≤ 100000 := by have := SC.out.len; have := SC.out.few; omega
                    go_wp2_with fail
                    go_roundw
                    case rel => exact ⟨j + 1, acc ++ [y], _, _, v4, by go_num, by omega, SC10.out⟩
                    case measure => simp [intOf]; omega
                  exact AllReadyH.nil
                exact AllReadyH.nil
              exact AllReadyH.nil
            refine AllReadyH.cons rfl (fun K hK => ?_) ?_
            · go_simp
              have na := new_val wd (.cells #[.int .i64 (z : Int)] 2)
              have CZ : Hid ((wd.alloc (.cells #[.int .i64 (z : Int)] 2)).cell? ((⟨wd.heap.size, 0, none⟩ : Addr).add 0) = some (.int .i64 (z : Int))) := Lib.hid (by
                show (wd.alloc _).cell? ⟨wd.heap.size, 0, none⟩ = _
                rw [cell_of_row _ _ _ _ _ _ (heap_alloc_new wd _)]; rfl)
              have T8 := Lib.hid (Td.out.below na)
              have F8 := Lib.hid (Fd.out.below na)
              have I8 := Lib.hid (Id.out.below na)
              refine hK.out _ _ ((na.cell (p := ⟨gs, os + y, none⟩) (World.block_lt_of_cell? wd _ hHeld)).trans hHeld) (fun hHeld' => ?_)
              clear hHeld
              have hHeld := hHeld'
              clear hHeld'
              clear na
              generalize wd.alloc (.cells #[.int .i64 (z : Int)] 2) = w8 at hHeld CZ T8 F8 I8 ⊢
              generalize wd.heap.size = gl at CZ ⊢
              clear hK K
              try simp only [Act.put, List.getElem_toArray, List.getElem_cons_succ, List.getElem_cons_zero, List.setIfInBounds_toArray, List.set_cons_zero, List.set_cons_succ]
              refine wpAnyH_ready (rs := [1]) (by kernel_rfl) (by simp) ?_
              refine AllReadyH.cons rfl (fun K hK => ?_) ?_
              · have ac : w8.cell? ⟨G, 1, none⟩ = some (.slice A2 L q2) := F8.out.cells.2.1
                go_simp
                clear ac
                refine hK.out _ _ (hHeld) (fun hHeld' => ?_)
                clear hHeld
                have hHeld := hHeld'
                clear hHeld'
                clear hK K
                try simp only [Act.put, List.getElem_toArray, List.getElem_cons_succ, List.getElem_cons_zero, List.setIfInBounds_toArray, List.set_cons_zero, List.set_cons_succ]
                refine wpAnyH_ready (rs := [7]) (by kernel_rfl) (by simp) ?_
                refine AllReadyH.cons rfl (fun K hK => ?_) ?_
                · refine push6_step rfl (.tmp 86) (.tmp 91) rfl w8 w.heap.size z _ (pickN sizes acc) ⟨gl, 0, none⟩ rfl (by rfl) T8.out.b CZ.out F8.out.k.size (by have := HL9.out; have := HLN.out; simp [pickN]; omega) ?_
                  intro v9 w9 h1 h2 h3
                  obtain ⟨A9, q9, rfl⟩ := h1.formN (m := L + 1) (by have := HLN.out; simp [pickN]; omega)
                  have T9 := Lib.hid (T8.out.swap.push h1 h2 h3)
                  have F9 := Lib.hid (F8.out.own6 T8.out.b h2)
                  have I9 := Lib.hid (I8.out.own6 T8.out.b h2)
                  refine hK.out _ _ ((World.cell?_of_block (a := ⟨gs, os + y, none⟩) (h2.block gs (World.block_lt_of_cell? w8 _ hHeld) (fun e => by have := (T8.out.b.lt gs e.symm).1; have := GSL.out; omega))).trans hHeld) (fun hHeld' => ?_)
                  clear hHeld
                  have hHeld := hHeld'
                  clear hHeld'
                  clear h1 h2 h3
                  clear hK K
                  try simp only [Act.put, List.getElem_toArray, List.getElem_cons_succ, List.getElem_cons_zero, List.setIfInBounds_toArray, List.set_cons_zero, List.set_cons_succ]
                  refine wpAnyH_take (i := 8) (v := ?v207) rfl (by kernel_rfl) (by kernel_rfl) (by kernel_rfl) (fun _ _ _ h => h) (Or.inl ⟨by rfl, ?y207⟩) (by assumption) ?r207
                  case y207 => ((intro w hSw; (try dsimp only at hSw); go_simp); try with_reducible rfl)
                  try simp only [Act.put, List.getElem_toArray, List.getElem_cons_succ, List.getElem_cons_zero, List.setIfInBounds_toArray, List.set_cons_zero, List.set_cons_succ]
                  refine wpAnyH_ready (rs := [9]) (by kernel_rfl) (by simp) ?_
                  refine AllReadyH.cons rfl (fun K hK => ?_) ?_
                  · have af : w9.frozen? ⟨G, 1, none⟩ = false := F9.out.frozen 1
                    have ac : w9.cell? ⟨G, 1, none⟩ = some (.slice A2 L q2) := F9.out.cells.2.1
                    go_simp
                    clear ac af
                    refine hK.out _ _ ((World.cell?_of_block (a := ⟨gs, os + y, none⟩) ((grown_put w9 G 1 (.slice A9 (L + 1) q9)).block gs (World.block_lt_of_cell? w9 _ hHeld) (fun e => by injection e with e; have := GSL.out; have := F9.out.far; omega))).trans hHeld) (fun hHeld' => ?_)
                    clear hHeld
                    have hHeld := hHeld'
                    clear hHeld'
                    clear hK K
                    try simp only [Act.put, List.getElem_toArray, List.getElem_cons_succ, List.getElem_cons_zero, List.setIfInBounds_toArray, List.set_cons_zero, List.set_cons_succ]
                    refine wpAnyH_done (by kernel_rfl) ?_ _
                    refine NoPanic.normal ?_
                    clear hHeld
                    have F10 := Lib.hid (F9.out.put 1 (.slice A9 (L + 1) q9) rfl)
                    have T10 := Lib.hid (T9.out.swap.keep (grown_put w9 G 1 (.slice A9 (L + 1) q9)) (fun g e => by injection e with e; subst e; exact ⟨_, _, F9.out.g⟩) (by decide))
                    have I10 := Lib.hid (I9.out.fun_ (i := 1) (u := .slice A9 (L + 1) q9) F9.out)
                    have SC10 : Hid (ScD w b G R s sizes N v E (cF2 s.data.toList sizes a (ar, arP)) (j + 1) (acc ++ [y]) (.slice A6 (L + 1) q6) (.slice A9 (L + 1) q9) v4 (w9.setCell ⟨G, 1, none⟩ (.slice A9 (L + 1) q9))) := Lib.hid (by
                      have hbl : ∀ x ∈ acc ++ [y], x < sizes.length := fun x hx => by
                        rcases List.mem_append.1 hx with hx | hx
                        · exact SC.out.below x hx
                        · simp at hx
                          rw [hx]
                          exact HY.out
                      have hpw : (acc ++ [y]).Pairwise (· ≠ ·) := List.pairwise_append.2 ⟨SC.out.once, by simp, fun p hp q hq => by
                        simp at hq
                        subst hq
                        intro e
                        subst e
                        have := HNI.out
                        simp [hp] at this⟩
                      refine ⟨F10.out, ?_, I10.out, .inl HB4.out, by rw [List.length_append, SC.out.len]; rfl, Nat.le_trans (nodup_len _ _ hpw hbl) HNV.out, hpw, hbl⟩
                      rw [HPS.out]
                      exact T10.out)
                    clear F10 T10 I10 F9 T9 I9
                    have hj5 : j ≤ 100000 := by have := SC.out.len; have := SC.out.few; omega
                    go_wp2_with fail
                    go_roundw
                    case rel => exact ⟨j + 1, acc ++ [y], _, _, v4, by go_num, by omega, SC10.out⟩
                    case measure => simp [intOf]; omega
                  exact AllReadyH.nil
                exact AllReadyH.nil
              exact AllReadyH.nil
            exact AllReadyH.nil
      · --[bad4
        have d3 : (v4.bad != 0) = true := by simpa using hb4
        obtain ⟨e4, p4, hb4', hE4⟩ : ∃ e p, DrBad w4 b e p v4 ∧ E = .bad e p := by
          rcases hi4.out.2 with ⟨st, h1, _⟩ | h
          · exact absurd h1.fine hb4
          · exact h
        have HB4 := Lib.hid hb4'
        have HE4 := Lib.hid hE4
        clear hb4 hb4' hE4
        go_wp2_with (first
          | ((with_reducible show wpList _ _ _ (Oper.mk none (.store 91 _ _) _ _ _ _ :: _) _ _); refine wpList_store_row rfl 91 (.tmp 4) (.tmp 63) rfl R #[.slice A1 acc.length q1, .slice A2 acc.length q2, .int .i64 0, .slice none 0 0] rfl rfl 91 #[.slice none 0 0, .slice none 0 0, .int .i64 0, .slice none 0 0] R4.out (by kernel_rfl) rfl (by simp [Value.oneCell']) ?_)
          | fail)
        exact bodyPost_ret (results_fd rfl _ _ R _ _ _ _ rfl (setRow_heap _ R _ _ _ _ R4.out)) rfl (fun7_bad R4.out (FrD.of F4.out.k) ⟨F4.out.far.1, by have := F4.out.far; omega⟩ hi4.out.1 HB4.out HE4.out _)
        --]
      --]
    · have d1 : decide ((j : Int) < (N : Int)) = false := decide_eq_false (by omega)
      obtain rfl : j = N := by omega
      have J0 := Lib.hid (SC.out.rd.conv (C' := cF2 s.data.toList sizes a (ar, arP) acc) (fun st => by rw [Nat.sub_self]; rfl))
      obtain ⟨A1, q1, rfl, hc1, hI1⟩ := SC.out.two.a.form
      obtain ⟨A2, q2, rfl, hc2, hI2⟩ := SC.out.two.b.form
      obtain ⟨P, hP⟩ : ∃ P, pickN sizes acc = P := ⟨_, rfl⟩
      have hpl : P.length = acc.length := by rw [← hP]; simp [pickN]
      have HPL := Lib.hid hpl
      have HPE := Lib.hid hP
      have F0 := Lib.hid SC.out.f
      have TW := Lib.hid SC.out.two
      have BL := Lib.hid SC.out.below
      have ON := Lib.hid SC.out.once
      have LN := Lib.hid SC.out.len
      have FW := Lib.hid SC.out.few
      have OK := Lib.hid SC.out.ok
      have HC1 := Lib.hid hc1
      have HC2 := Lib.hid hc2
      have HI1 := Lib.hid hI1
      rw [hP] at hI2 TW F0
      have HI2 := Lib.hid hI2
      have hp5 : P.length ≤ 100000 := by rw [hpl]; exact FW.out
      have HP5 := Lib.hid hp5
      rw [hP] at HC2
      obtain ⟨k0, k1, k2, k3⟩ := F0.out.cells
      have HPM : Hid (∀ x ∈ P, x ≤ 4611686018427387904) := Lib.hid (by rw [← hP]; exact pickN_le HSM.out)
      clear hlt hj SC hI1 hI2 hc1 hc2 hP hpl
      go_wp2_with fail
      go_loop [14, 16, 97] (fun c _ i => ∃ q : Nat, i = .int .i64 (q : Int) ∧ q ≤ P.length ∧ c = .int .i64 (cntM (P.take q) 1 : Int)) (fun _ _ i => P.length - (intOf i).toNat)
      case atStart => exact ⟨0, rfl, Nat.zero_le _, rfl⟩
      case round =>
        obtain ⟨q, rfl, hq, rfl⟩ := hrel
        obtain ⟨m, hm⟩ : ∃ m, cntM (P.take q) 1 = m := ⟨_, rfl⟩
        have hm9 : m ≤ 4097 := by rw [← hm]; exact cnt_le _ _ (by decide)
        by_cases hql : q < P.length
        · --[cnt
          have d2 : decide ((q : Int) < (P.length : Int)) = true := decide_eq_true (by omega)
          obtain ⟨g, o, rfl, cc⟩ := HI2.out.at_ hql
          have SN := Lib.hid (show cntM (P.take (q + 1)) 1 = min (m * min (nth P q) 4097) 4097 by
            rw [List.take_succ_eq_append_getElem hql, cnt_snoc, hm]
            simp [nth, List.getD, hql])
          have hx9 := HPM.out _ (nth_mem hql)
          rw [hm]
          generalize nth P q = x at cc SN hx9
          clear hm
          by_cases hx : 4096 < x
          · have d3 : decide ((4096 : Int) < (x : Int)) = true := decide_eq_true (by omega)
            have e1 : (m : Int) * 4097 ≤ 16785409 := by omega
            have e0 : 0 ≤ (m : Int) * 4097 := by omega
            have SN3 := Lib.hid (show cntM (P.take (q + 1)) 1 = min (m * 4097) 4097 by rw [SN.out, Nat.min_eq_right (show 4097 ≤ x by omega)])
            have w1 : IntKind.i64.wrap ((m : Int) * 4097) = (m : Int) * 4097 := IntWalk.i64_in _ (by omega)
            by_cases hmx : 4096 < m * 4097
            · have d4 : decide ((4096 : Int) < (m : Int) * 4097) = true := decide_eq_true (by omega)
              have FIN : Hid ((4097 : Int) = (cntM (P.take (q + 1)) 1 : Int)) := Lib.hid (by rw [SN3.out]; omega)
              clear hx hmx SN SN3 hx9
              go_wp2_with fail
              go_round
              case rel => exact ⟨q + 1, by go_num, by omega, by rw [← FIN.out]⟩
              case measure => simp [intOf]; omega
            · have d4 : decide ((4096 : Int) < (m : Int) * 4097) = false := decide_eq_false (by omega)
              have FIN : Hid ((m : Int) * 4097 = (cntM (P.take (q + 1)) 1 : Int)) := Lib.hid (by rw [SN3.out]; omega)
              clear hx hmx SN SN3 hx9
              go_wp2_with fail
              go_round
              case rel => exact ⟨q + 1, by go_num, by omega, by rw [← FIN.out]⟩
              case measure => simp [intOf]; omega
          · have d3 : decide ((4096 : Int) < (x : Int)) = false := decide_eq_false (by omega)
            have e0 : m * x ≤ 4097 * 4096 := Nat.mul_le_mul hm9 (by omega)
            obtain ⟨y, hy⟩ : ∃ y, m * x = y := ⟨_, rfl⟩
            have hyi : (m : Int) * (x : Int) = (y : Int) := by rw [← hy]; simp
            have w1 : IntKind.i64.wrap ((m : Int) * (x : Int)) = (y : Int) := by rw [hyi]; exact IntWalk.i64_in _ (by omega)
            have SN2 := Lib.hid (show cntM (P.take (q + 1)) 1 = min y 4097 by rw [SN.out, Nat.min_eq_left (show x ≤ 4097 by omega), hy])
            by_cases hmx : 4096 < y
            · have d4 : decide ((4096 : Int) < (y : Int)) = true := decide_eq_true (by omega)
              have FIN : Hid ((4097 : Int) = (cntM (P.take (q + 1)) 1 : Int)) := Lib.hid (by rw [SN2.out]; omega)
              have hy9 : y ≤ 4097 * 4096 := by omega
              clear hx hmx SN SN2 hx9 e0 hy
              go_wp2_with fail
              go_round
              case rel => exact ⟨q + 1, by go_num, by omega, by rw [← FIN.out]⟩
              case measure => simp [intOf]; omega
            · have d4 : decide ((4096 : Int) < (y : Int)) = false := decide_eq_false (by omega)
              have FIN : Hid ((y : Int) = (cntM (P.take (q + 1)) 1 : Int)) := Lib.hid (by rw [SN2.out]; omega)
              have hy9 : y ≤ 4097 * 4096 := by omega
              clear hx hmx SN SN2 hx9 e0 hy
              go_wp2_with fail
              go_round
              case rel => exact ⟨q + 1, by go_num, by omega, by rw [← FIN.out]⟩
              case measure => simp [intOf]; omega
          --]
        · have d2 : decide ((q : Int) < (P.length : Int)) = false := decide_eq_false (by omega)
          obtain rfl : q = P.length := by omega
          clear hq hql
          rw [List.take_of_length_le (Nat.le_refl _)] at hm
          rw [List.take_of_length_le (Nat.le_refl _), hm]
          have HM := Lib.hid hm
          have HM9 := Lib.hid hm9
          have LM := Lib.hid (fun is (hC : ∀ st, cF2 s.data.toList sizes a (ar, arP) acc st = (fun st => (numM s.data.toList 0 farZ st).bind (cF3 s.data.toList sizes a (ar, arP) acc)) (limS is arP st)) => lim7 (is := is) (p := arP) (C := fun st => (numM s.data.toList 0 farZ st).bind (cF3 s.data.toList sizes a (ar, arP) acc)) (J0.out.conv hC))
          clear hm hm9 d1 d2
          go_upto_region 31 with fail
          go_cut [14] from 109 to 117 (fun v14 wc => Hid (∃ v5, v14 = .int .i64 (m : Int) ∧ Gr wr wc b ∧ v5.bad = v'.bad ∧ DrIn wc b s v v5 E (fun st => (numM s.data.toList 0 farZ st).bind (cF3 s.data.toList sizes a (ar, arP) acc))))
          case first =>
            by_cases h6 : 6 < j
            · have d1 : decide ((6 : Int) < (j : Int)) = true := decide_eq_true (by omega)
              have LX := Lib.hid (LM.out true (fun st => by
                show (numM _ 0 farZ (limS (decide (6 < ar.natAbs) || _) arP st)).bind _ = _
                rw [HN.out, decide_eq_true h6]
                rfl))
              clear h6
              go_wp2_with (first
                | (go_at_call 35; refine LX.out.mono ?_; rintro e w5 ⟨v5, ⟨_, rfl⟩, hg5, ⟨hbd, -⟩, hi5⟩; have FIN := Lib.hid (And.intro hg5 (And.intro hbd hi5)); clear hg5 hbd hi5)
                | fail)
              go_meet
              case rel => exact Lib.hid ⟨v5, rfl, FIN.out⟩
            · have d1 : decide ((6 : Int) < (j : Int)) = false := decide_eq_false (by omega)
              have LX := Lib.hid (LM.out (decide ((4096 : Int) < (m : Int))) (fun st => by
                show (numM _ 0 farZ (limS (decide (6 < ar.natAbs) || decide (4096 < cntM (pickN sizes acc) 1)) arP st)).bind _ = _
                rw [HN.out, decide_eq_false h6, HPE.out, HM.out, Bool.false_or]
                have : decide ((4096 : Int) < (m : Int)) = decide (4096 < m) := by
                  by_cases h : 4096 < m
                  · rw [decide_eq_true h, decide_eq_true (by omega)]
                  · rw [decide_eq_false h, decide_eq_false (by omega)]
                rw [this]))
              clear h6
              go_wp2_with (first
                | (go_at_call 35; refine LX.out.mono ?_; rintro e w5 ⟨v5, ⟨_, rfl⟩, hg5, ⟨hbd, -⟩, hi5⟩; have FIN := Lib.hid (And.intro hg5 (And.intro hbd hi5)); clear hg5 hbd hi5)
                | fail)
              go_meet
              case rel => exact Lib.hid ⟨v5, rfl, FIN.out⟩
          obtain ⟨v5, rfl, hg5, hbd5, hi5⟩ := hcut.out
          have F5 := Lib.hid (F0.out.gr hg5)
          have TW5 := Lib.hid (TW.out.keep hg5 (fun g e => by injection e with e; subst e; exact ⟨_, _, J0.out.at_⟩) (by decide))
          have N5 := Lib.hid (num7 hi5)
          have N5OK := Lib.hid hi5.at_
          have BD5 := Lib.hid hbd5
          have fz2 := F5.out.frozen 2
          clear hcut hg5 hi5 hbd5 J0 F0 TW LM k0 k1 k2 k3
          go_upto_region 33 with (first
            | (go_at_call 36; refine N5.out.mono ?_; rintro e w6 ⟨o, oP, v6, rfl, hr6, hz6, hk6, -, hg6, hi6⟩; have F6 := Lib.hid (F5.out.gr hg6); have fz := F6.out.frozen 2; have kk2 := F6.out.cells.2.2.1; have HR6 := Lib.hid (And.intro hr6 (And.intro hz6 hk6)); have I6 := Lib.hid hi6; have HG6 := Lib.hid hg6; clear hr6 hz6 hk6 hi6 hg6)
            | fail)
          have F7 := Lib.hid (F6.out.put 2 (.int .i64 o) (o' := o) rfl)
          have TW6 := Lib.hid (TW5.out.keep HG6.out (fun g e => by injection e with e; subst e; exact ⟨_, _, (N5OK.out)⟩) (by decide))
          have TW7 := Lib.hid (TW6.out.keep (grown_put w6 G 2 (.int .i64 o)) (fun g e => by injection e with e; subst e; exact ⟨_, _, F6.out.g⟩) (by decide))
          have I7 := Lib.hid (I6.out.fun_ (i := 2) (u := .int .i64 o) F6.out)
          clear TW5 TW6 F5 I6 HG6 fz fz2 kk2 N5 N5OK
          change Code.wp _ _ _ _ (w6.setCell ⟨G, 2, none⟩ (.int .i64 o))
          generalize w6.setCell ⟨G, 2, none⟩ (.int .i64 o) = w7 at F7 TW7 I7 ⊢
          clear F6
          have N7 := Lib.hid (num7 (I7.out.conv (fun st => cF3_eq _ _ _ _ _ _ st)))
          have A7 := Lib.hid I7.out.at_
          go_upto_region 34 with (first
            | (go_at_call 36; refine N7.out.mono ?_; rintro e w8 ⟨n, p, v8, rfl, hr8, hz8, hk8, -, hg8, hi8⟩; have HR8 := Lib.hid (And.intro hr8 (And.intro hz8 hk8)); have I8 := Lib.hid hi8; have HG8 := Lib.hid hg8; clear hr8 hz8 hk8 hi8 hg8)
            | fail)
          have F8 := Lib.hid (F7.out.gr HG8.out)
          have T8 := Lib.hid (TW7.out.keep HG8.out (fun g e => by injection e with e; subst e; exact ⟨_, _, A7.out⟩) (by decide))
          clear F7 TW7 I7 HG8 N7 A7
          obtain ⟨k0, k1, k2, k3⟩ := F8.out.cells
          have c8 : w8.cell? ⟨b, 3, none⟩ = some (.int .i64 v8.bad) := I8.out.at_.cell (i := 3) rfl
          have R8 := Lib.hid F8.out.r
          by_cases hb8 : v8.bad = 0
          · rw [hb8] at c8
            obtain ⟨st8, ho8, hE8⟩ := drIn_few I8.out hb8
            have O8 := Lib.hid ho8
            have E8 := Lib.hid hE8
            have SH8 := Lib.hid I8.out.1.shared
            have LI8 := Lib.hid I8.out.1.lines
            have TL := Lib.hid (show 0 ≤ a.told ∧ a.told ≤ 100000 by have := HA.out.told0; have := HA.out.told1; have := HK.out.le; have := HK.out.fits; omega)
            have OW8 := Lib.hid (HO.out.keepB (fun g e h5 h6 => F8.out.k.block g h5 (fun e => by injection e with e; have := HB.out; omega)))
            have U8 := Lib.hid (HU.out.keep (F8.out.keepD HK.out.at_))
            have KD8 := Lib.hid (F8.out.keepD HK.out.at_)
            have HR8' := Lib.hid (show (-4611686018427387904 ≤ n ∧ n ≤ 4611686018427387904) by
              rcases HR8.out.1 with h | h
              · exact h
              · exact absurd hb8 h.2)
            obtain ⟨Ash, csh, hsv, hcsh⟩ := OW8.out.form
            have SV := Lib.hid hsv
            have HI2' := Lib.hid (T8.out.b.viewN.2.2)
            have HCS := Lib.hid hcsh
            have c18 : w8.cell? ⟨b, 8, none⟩ = some (.slice Ash us.length csh) := by rw [← hsv, ← SH8.out]; exact O8.out.at_.cell (i := 8) rfl
            rw [HPL.out] at k1
            have HB8 := Lib.hid hb8
            clear ho8 hE8 hsv hcsh hb8 HR8 I8
            by_cases hn : n < 0
            · --[neg
              obtain ⟨q, hq⟩ : ∃ q : Nat, -n = (q : Int) + 1 := ⟨(-n - 1).toNat, by omega⟩
              have hq9 : q ≤ 4611686018427387903 := by have := HR8'.out; omega
              have d1 : decide (n < 0) = true := decide_eq_true hn
              have e2 := (wr_small q hq9).1
              have HQ9 := Lib.hid hq9
              clear hq9
              have HDL : Hid (dL s.data.toList sizes acc a (n, p) st8 = match a.shared[q]? with
                | some g => if pickN sizes g.scope = pickN sizes acc then .ok (g.lines, a.told) st8 else .bad 4 p
                | none => .bad 4 p) := Lib.hid (by
                unfold dL
                rw [if_pos hn]
                simp only [hq, show ((q : Int) + 1).toNat - 1 = q by omega])
              have HN0 := Lib.hid hn
              have HQ := Lib.hid hq
              by_cases hqu : us.length ≤ q
              · --[far
                have d4 : decide ((us.length : Int) < (q : Int) + 1) = true := decide_eq_true (by omega)
                have HBD : Hid (E = .bad 4 p) := Lib.hid (by
                  rw [E8.out, HDL.out, List.getElem?_eq_none (by rw [← HU.out.1]; exact hqu)]
                  rfl)
                go_upto_region 37 with fail
                go_quiet (fail)
                have Bq := Lib.hid (below_drewN (Below.refl w8.heap.size w8) nq)
                have F9 := Lib.hid (F8.out.below Bq.out)
                have BD := Lib.hid (bad7 (W := w8.drewN nq) (b := b) (s := s) (v := v8) (v' := v8) (E := E) (e := 4) (p := p) (by decide) ⟨DrNear.refl _, .inl ⟨st8, O8.out.keepAt ((Bq.out.block b O8.out.at_.lt).trans O8.out.at_) (KeepD.below Bq.out), HBD.out⟩⟩)
                clear k0 k1 k2 k3 c8 c18
                generalize w8.drewN nq = w9 at Bq F9 BD ⊢
                go_upto_region 39 with (first
                  | (go_at_call 38; refine BD.out.mono ?_; rintro e w10 ⟨v10, e10, p10, ⟨_, rfl⟩, hg10, hn10, hb10, hE10⟩; have G10 := Lib.hid hg10; have N10 := Lib.hid hn10; have B10 := Lib.hid hb10; have E10 := Lib.hid hE10; clear hg10 hn10 hb10 hE10)
                  | fail)
                have F10 := Lib.hid (F9.out.gr G10.out)
                obtain ⟨k0, k1, k2, k3⟩ := F10.out.cells
                rw [HPL.out] at k1
                have NN := Lib.hid (show DrNear v v10 from ⟨N10.out.shared.trans SH8.out, N10.out.lines.trans LI8.out⟩)
                go_wp2_with (first
                  | ((with_reducible show wpList _ _ _ (Oper.mk none (.store 91 _ _) _ _ _ _ :: _) _ _); refine wpList_store_row rfl 91 (.tmp 4) (.tmp 164) rfl R #[.slice A1 acc.length q1, .slice A2 acc.length q2, .int .i64 o, .slice none 0 0] rfl rfl 91 #[.slice none 0 0, .slice none 0 0, .int .i64 0, .slice none 0 0] F10.out.r (by kernel_rfl) rfl (by simp [Value.oneCell']) ?_)
                  | fail)
                exact bodyPost_ret (results_fd rfl _ _ R _ _ _ _ rfl (setRow_heap _ R _ _ _ _ F10.out.r)) rfl (fun7_bad F10.out.r (FrD.of F10.out.k) ⟨F10.out.far.1, by have := F10.out.far; omega⟩ NN.out B10.out E10.out _)
                --]
              · have d4 : decide ((us.length : Int) < (q : Int) + 1) = false := decide_eq_false (by omega)
                obtain ⟨f, hf⟩ : ∃ f, a.shared[q]? = some f := ⟨_, List.getElem?_eq_getElem (by rw [← HU.out.1]; omega)⟩
                obtain ⟨svq, zvq, lvq, hx, hv⟩ := U8.out.2 q f hf
                obtain ⟨gq, hAq, hgb, hgl, -, cq1, -, cq3⟩ := OwnFd.cells4 (SV.out ▸ OW8.out) hx
                have c18q : w8.cell? ⟨b, 8, none⟩ = some (.slice (some ⟨gq, 0, none⟩) us.length csh) := by rw [← hAq]; exact c18
                obtain ⟨-, ⟨Az, cz, rfl, hcz, iz⟩, Al, cl, rfl, hcl, il⟩ := hv
                have HIL := Lib.hid il
                have HF := Lib.hid hf
                have CQ3 := Lib.hid cq3
                have C18 := Lib.hid c18q
                have HCL := Lib.hid hcl
                obtain ⟨-, e3, f1, f2, f3⟩ := wr_small q HQ9.out
                have hlp : f.scope.length = (pickN sizes f.scope).length := by simp [pickN]
                rw [hlp] at cq1
                have SM := Lib.hid (fun W (hb : Below w8.heap.size w8 W) => same7 Az A2 cz q2 (pickN sizes f.scope) P W (iz.keep (KeepD.below hb)) (HI2'.out.keep (KeepD.below hb)) (by rw [← hlp]; have := (HA.out.shared f (List.mem_of_getElem? hf)); have := nodup_len _ _ this.once this.below; omega))
                have hqs : (q : Int) < (us.length : Int) := Int.ofNat_lt.2 (Nat.lt_of_not_le hqu)
                rw [← HPL.out] at k1
                have HS8 : Hid (HoldS w8 b gq G q us.length csh P.length q2 (some ⟨gq, 0, none⟩) A2 (.slice Az (pickN sizes f.scope).length cz) w8) := Lib.hid ⟨c18q, cq1, k1, Below.refl _ _⟩
                clear k0 k1 k2 k3 hx iz il hcl hcz hlp c18 c18q hAq
                go_upto_region 37 with fail
                refine wp_region_noPanic ?_
                refine wp_region_held_drew (S := fun W => HoldS w8 b gq G q us.length csh P.length q2 (some ⟨gq, 0, none⟩) A2 (.slice Az (pickN sizes f.scope).length cz) W) (by kernel_rfl) (holdS HS8.out ((Below.refl _ _).drew)) (fun hHeld => ?_)
                generalize w8.drew = wd at hHeld ⊢
                refine wpAnyH_take (i := 0) (v := ?v301) rfl (by kernel_rfl) (by kernel_rfl) (by kernel_rfl) (fun _ _ _ h => h) (Or.inl ⟨by rfl, ?y301⟩) (by assumption) ?r301
                case y301 => ((intro w hSw; (try dsimp only at hSw); go_simp); try with_reducible rfl)
                try simp only [Act.put, List.getElem_toArray, List.getElem_cons_zero, List.setIfInBounds_toArray, List.set_cons_zero, List.set_cons_succ]
                refine wpAnyH_take (i := 1) (v := ?v302) rfl (by kernel_rfl) (by kernel_rfl) (by kernel_rfl) (fun _ _ _ h => h) (Or.inl ⟨by rfl, ?y302⟩) (by assumption) ?r302
                case y302 => ((intro w hSw; (try dsimp only at hSw); go_simp); try with_reducible rfl)
                try simp only [Act.put, List.getElem_toArray, List.getElem_cons_succ, List.getElem_cons_zero, List.setIfInBounds_toArray, List.set_cons_zero, List.set_cons_succ]
                refine wpAnyH_take (i := 2) (v := ?v303) rfl (by kernel_rfl) (by kernel_rfl) (by kernel_rfl) (fun _ _ _ h => h) (Or.inl ⟨by rfl, ?y303⟩) (by assumption) ?r303
                case y303 => ((intro w hSw; (try dsimp only at hSw); go_simp); try with_reducible rfl)
                try simp only [Act.put, List.getElem_toArray, List.getElem_cons_succ, List.getElem_cons_zero, List.setIfInBounds_toArray, List.set_cons_zero, List.set_cons_succ]
                refine wpAnyH_take (i := 3) (v := ?v304) rfl (by kernel_rfl) (by kernel_rfl) (by kernel_rfl) (fun _ _ _ h => h) (Or.inl ⟨by rfl, ?y304⟩) (by assumption) ?r304
                case y304 => ((intro w hSw; (try dsimp only at hSw); go_simp); try with_reducible rfl)
                try simp only [Act.put, List.getElem_toArray, List.getElem_cons_succ, List.getElem_cons_zero, List.setIfInBounds_toArray, List.set_cons_zero, List.set_cons_succ]
                refine wpAnyH_take (i := 4) (v := ?v305) rfl (by kernel_rfl) (by kernel_rfl) (by kernel_rfl) (fun _ _ _ h => h) (Or.inl ⟨by rfl, ?y305⟩) (by assumption) ?r305
                case y305 => ((intro w hSw; (try dsimp only at hSw); go_simp); try with_reducible rfl)
                try simp only [Act.put, List.getElem_toArray, List.getElem_cons_succ, List.getElem_cons_zero, List.setIfInBounds_toArray, List.set_cons_zero, List.set_cons_succ]
                refine wpAnyH_take (i := 5) (v := ?v306) rfl (by kernel_rfl) (by kernel_rfl) (by kernel_rfl) (fun _ _ _ h => h) (Or.inl ⟨by rfl, ?y306⟩) (by assumption) ?r306
                case y306 => ((intro w hSw; (try dsimp only at hSw); go_simp); try with_reducible rfl)
                try simp only [Act.put, List.getElem_toArray, List.getElem_cons_succ, List.getElem_cons_zero, List.setIfInBounds_toArray, List.set_cons_zero, List.set_cons_succ]
                refine wpAnyH_take (i := 6) (v := ?v307) rfl (by kernel_rfl) (by kernel_rfl) (by kernel_rfl) (fun _ _ _ h => h) (Or.inl ⟨by rfl, ?y307⟩) (by assumption) ?r307
                case y307 => ((intro w hSw; (try dsimp only at hSw); go_simp); try with_reducible rfl)
                try simp only [Act.put, List.getElem_toArray, List.getElem_cons_succ, List.getElem_cons_zero, List.setIfInBounds_toArray, List.set_cons_zero, List.set_cons_succ]
                refine wpAnyH_take (i := 7) (v := ?v308) rfl (by kernel_rfl) (by kernel_rfl) (by kernel_rfl) (fun _ _ _ h => h) (Or.inl ⟨by rfl, ?y308⟩) (by assumption) ?r308
                case y308 => ((intro w hSw; (try dsimp only at hSw); go_simp); try with_reducible rfl)
                try simp only [Act.put, List.getElem_toArray, List.getElem_cons_succ, List.getElem_cons_zero, List.setIfInBounds_toArray, List.set_cons_zero, List.set_cons_succ]
                refine wpAnyH_take (i := 8) (v := ?v309) rfl (by kernel_rfl) (by kernel_rfl) (by kernel_rfl) (fun _ _ _ h => h) (Or.inl ⟨by rfl, ?y309⟩) (by assumption) ?r309
                case y309 => ((intro w hSw; (try dsimp only at hSw); go_simp); try with_reducible rfl)
                try simp only [Act.put, List.getElem_toArray, List.getElem_cons_succ, List.getElem_cons_zero, List.setIfInBounds_toArray, List.set_cons_zero, List.set_cons_succ]
                refine wpAnyH_take (i := 9) (v := ?v310) rfl (by kernel_rfl) (by kernel_rfl) (by kernel_rfl) (fun _ _ _ h => h) (Or.inl ⟨by rfl, ?y310⟩) (by assumption) ?r310
                case y310 => ((intro w hSw; (try dsimp only at hSw); go_simp); try with_reducible rfl)
                try simp only [Act.put, List.getElem_toArray, List.getElem_cons_succ, List.getElem_cons_zero, List.setIfInBounds_toArray, List.set_cons_zero, List.set_cons_succ]
                refine wpAnyH_take (i := 10) (v := ?v311) rfl (by kernel_rfl) (by kernel_rfl) (by kernel_rfl) (fun _ _ _ h => h) (Or.inl ⟨by rfl, ?y311⟩) (by assumption) ?r311
                case y311 => ((intro w hSw; (try dsimp only at hSw); go_simp); try with_reducible rfl)
                try simp only [Act.put, List.getElem_toArray, List.getElem_cons_succ, List.getElem_cons_zero, List.setIfInBounds_toArray, List.set_cons_zero, List.set_cons_succ]
                refine wpAnyH_take (i := 11) (v := ?v312) rfl (by kernel_rfl) (by kernel_rfl) (by kernel_rfl) (fun _ _ _ h => h) (Or.inl ⟨by rfl, ?y312⟩) (by assumption) ?r312
                case y312 => ((intro w hSw; (try dsimp only at hSw); go_simp); try with_reducible rfl)
                try simp only [Act.put, List.getElem_toArray, List.getElem_cons_succ, List.getElem_cons_zero, List.setIfInBounds_toArray, List.set_cons_zero, List.set_cons_succ]
                refine wpAnyH_take (i := 12) (v := ?v313) rfl (by kernel_rfl) (by kernel_rfl) (by kernel_rfl) (fun _ _ _ h => h) (Or.inl ⟨by rfl, ?y313⟩) (by assumption) ?r313
                case y313 => ((intro w hSw; (try dsimp only at hSw); go_simp); try with_reducible rfl)
                try simp only [Act.put, List.getElem_toArray, List.getElem_cons_succ, List.getElem_cons_zero, List.setIfInBounds_toArray, List.set_cons_zero, List.set_cons_succ]
                refine wpAnyH_take (i := 13) (v := ?v314) rfl (by kernel_rfl) (by kernel_rfl) (by kernel_rfl) (fun _ _ _ h => h) (Or.inl ⟨by rfl, ?y314⟩) (by assumption) ?r314
                case y314 => ((intro w hSw; (try dsimp only at hSw); go_simp); try with_reducible rfl)
                try simp only [Act.put, List.getElem_toArray, List.getElem_cons_succ, List.getElem_cons_zero, List.setIfInBounds_toArray, List.set_cons_zero, List.set_cons_succ]
                refine wpAnyH_take (i := 14) (v := ?v315) rfl (by kernel_rfl) (by kernel_rfl) (by kernel_rfl) (fun _ _ _ h => h) (Or.inl ⟨by rfl, ?y315⟩) (by assumption) ?r315
                case y315 => ((intro w hSw; (try dsimp only at hSw); go_simp); try with_reducible rfl)
                try simp only [Act.put, List.getElem_toArray, List.getElem_cons_succ, List.getElem_cons_zero, List.setIfInBounds_toArray, List.set_cons_zero, List.set_cons_succ]
                refine wpAnyH_take (i := 15) (v := ?v316) rfl (by kernel_rfl) (by kernel_rfl) (by kernel_rfl) (fun _ _ _ h => h) (Or.inl ⟨by rfl, ?y316⟩) (by assumption) ?r316
                case y316 => ((intro w hSw; (try dsimp only at hSw); go_simp); try with_reducible rfl)
                try simp only [Act.put, List.getElem_toArray, List.getElem_cons_succ, List.getElem_cons_zero, List.setIfInBounds_toArray, List.set_cons_zero, List.set_cons_succ]
                refine wpAnyH_take (i := 16) (v := ?v317) rfl (by kernel_rfl) (by kernel_rfl) (by kernel_rfl) (fun _ _ _ h => h) (Or.inl ⟨by rfl, ?y317⟩) (by assumption) ?r317
                case y317 => ((intro w hSw; (try dsimp only at hSw); go_simp); try with_reducible rfl)
                try simp only [Act.put, List.getElem_toArray, List.getElem_cons_succ, List.getElem_cons_zero, List.setIfInBounds_toArray, List.set_cons_zero, List.set_cons_succ]
                refine wpAnyH_take (i := 17) (v := ?v318) rfl (by kernel_rfl) (by kernel_rfl) (by kernel_rfl) (fun _ _ _ h => h) (Or.inl ⟨by rfl, ?y318⟩) (by assumption) ?r318
                case y318 => ((intro w hSw; (try dsimp only at hSw); go_simp); try with_reducible rfl)
                try simp only [Act.put, List.getElem_toArray, List.getElem_cons_succ, List.getElem_cons_zero, List.setIfInBounds_toArray, List.set_cons_zero, List.set_cons_succ]
                refine wpAnyH_take (i := 18) (v := ?v319) rfl (by kernel_rfl) (by kernel_rfl) (by kernel_rfl) (fun _ _ _ h => h) (Or.inl ⟨by rfl, ?y319⟩) (by assumption) ?r319
                case y319 => ((intro w hSw; (try dsimp only at hSw); go_simp); try with_reducible rfl)
                try simp only [Act.put, List.getElem_toArray, List.getElem_cons_succ, List.getElem_cons_zero, List.setIfInBounds_toArray, List.set_cons_zero, List.set_cons_succ]
                refine wpAnyH_take (i := 19) (v := ?v320) rfl (by kernel_rfl) (by kernel_rfl) (by kernel_rfl) (fun _ _ _ h => h) (Or.inl ⟨by rfl, ?y320⟩) (by assumption) ?r320
                case y320 => ((intro w hSw; (try dsimp only at hSw); go_simp); try with_reducible rfl)
                try simp only [Act.put, List.getElem_toArray, List.getElem_cons_succ, List.getElem_cons_zero, List.setIfInBounds_toArray, List.set_cons_zero, List.set_cons_succ]
                refine wpAnyH_take (i := 20) (v := ?v321) rfl (by kernel_rfl) (by kernel_rfl) (by kernel_rfl) (fun _ _ _ h => h) (Or.inl ⟨by rfl, ?y321⟩) (by assumption) ?r321
                case y321 => ((intro w hSw; (try dsimp only at hSw); go_simp); try with_reducible rfl)
                try simp only [Act.put, List.getElem_toArray, List.getElem_cons_succ, List.getElem_cons_zero, List.setIfInBounds_toArray, List.set_cons_zero, List.set_cons_succ]
                refine wpAnyH_ready (rs := [21]) (by kernel_rfl) (by simp) ?_
                refine AllReadyH.cons rfl (fun K hK => ?_) ?_
                · go_simp
                  refine (SM.out _ (HoldS.below hHeld)).mono ?_
                  rintro e w9 ⟨rfl, hb9⟩
                  refine hK.out _ _ (holdS hHeld hb9) (fun hHeld' => ?_)
                  clear hHeld
                  have hHeld := hHeld'
                  clear hHeld'
                  clear hK K
                  try simp only [Act.put, List.getElem_toArray, List.getElem_cons_succ, List.getElem_cons_zero, List.setIfInBounds_toArray, List.set_cons_zero, List.set_cons_succ]
                  refine wpAnyH_take (i := 22) (v := ?v322) rfl (by kernel_rfl) (by kernel_rfl) (by kernel_rfl) (fun _ _ _ h => h) (Or.inl ⟨by rfl, ?y322⟩) (by assumption) ?r322
                  case y322 => ((intro w hSw; (try dsimp only at hSw); go_simp); try with_reducible rfl)
                  try simp only [Act.put, List.getElem_toArray, List.getElem_cons_succ, List.getElem_cons_zero, List.setIfInBounds_toArray, List.set_cons_zero, List.set_cons_succ]
                  refine wpAnyH_take (i := 23) (v := ?v323) rfl (by kernel_rfl) (by kernel_rfl) (by kernel_rfl) (fun _ _ _ h => h) (Or.inl ⟨by rfl, ?y323⟩) (by assumption) ?r323
                  case y323 => ((intro w hSw; (try dsimp only at hSw); go_simp); try with_reducible rfl)
                  try simp only [Act.put, List.getElem_toArray, List.getElem_cons_succ, List.getElem_cons_zero, List.setIfInBounds_toArray, List.set_cons_zero, List.set_cons_succ]
                  refine wpAnyH_done (by kernel_rfl) ?_ _
                  refine NoPanic.normal ?_
                  have HSE := Lib.hid (HoldS.below hHeld)
                  clear hHeld
                  have F9 := Lib.hid (F8.out.below HSE.out)
                  have T9 := Lib.hid (T8.out.below HSE.out)
                  have A9 : Hid (DrAt w9 b v8) := Lib.hid ((HSE.out.block b O8.out.at_.lt).trans O8.out.at_)
                  have O9 := Lib.hid (O8.out.keepAt A9.out (KeepD.below HSE.out))
                  cases hsm : (pickN sizes f.scope == P) with
                  | false =>
                    --[diff
                    clear e2 e3 f1 f2 f3
                    have HBD : Hid (E = .bad 4 p) := Lib.hid (by
                      rw [E8.out, HDL.out, HF.out]
                      have : ¬ pickN sizes f.scope = pickN sizes acc := by rw [HPE.out]; simpa using hsm
                      simp only [if_neg this]
                      rfl)
                    have BD := Lib.hid (bad7 (W := w9) (b := b) (s := s) (v := v8) (v' := v8) (E := E) (e := 4) (p := p) (by decide) ⟨DrNear.refl _, .inl ⟨st8, O9.out, HBD.out⟩⟩)
                    go_upto_region 39 with (first
                      | (go_at_call 38; refine BD.out.mono ?_; rintro e w10 ⟨v10, e10, p10, ⟨_, rfl⟩, hg10, hn10, hb10, hE10⟩; have G10 := Lib.hid hg10; have N10 := Lib.hid hn10; have B10 := Lib.hid hb10; have E10 := Lib.hid hE10; clear hg10 hn10 hb10 hE10)
                      | fail)
                    have F10 := Lib.hid (F9.out.gr G10.out)
                    obtain ⟨k0, k1, k2, k3⟩ := F10.out.cells
                    rw [HPL.out] at k1
                    have NN := Lib.hid (show DrNear v v10 from ⟨N10.out.shared.trans SH8.out, N10.out.lines.trans LI8.out⟩)
                    go_wp2_with (first
                      | ((with_reducible show wpList _ _ _ (Oper.mk none (.store 91 _ _) _ _ _ _ :: _) _ _); refine wpList_store_row rfl 91 (.tmp 4) (.tmp 164) rfl R #[.slice A1 acc.length q1, .slice A2 acc.length q2, .int .i64 o, .slice none 0 0] rfl rfl 91 #[.slice none 0 0, .slice none 0 0, .int .i64 0, .slice none 0 0] F10.out.r (by kernel_rfl) rfl (by simp [Value.oneCell']) ?_)
                      | fail)
                    exact bodyPost_ret (results_fd rfl _ _ R _ _ _ _ rfl (setRow_heap _ R _ _ _ _ F10.out.r)) rfl (fun7_bad F10.out.r (FrD.of F10.out.k) ⟨F10.out.far.1, by have := F10.out.far; omega⟩ NN.out B10.out E10.out _)
                    --]
                  | true =>
                    --[like
                    have HEQ : Hid (E = cF4 sizes a (ar, arP) acc (o, oP) (f.lines, a.told) st8) := Lib.hid (by
                      rw [E8.out, HDL.out, HF.out]
                      have : pickN sizes f.scope = pickN sizes acc := by rw [HPE.out]; simpa using hsm
                      simp only [if_pos this]
                      rfl)
                    have cb : w9.cell? ⟨b, 8, none⟩ = some (.slice (some ⟨gq, 0, none⟩) us.length csh) := (HSE.out.cell (p := ⟨b, 8, none⟩) O8.out.at_.lt).trans C18.out
                    have cl3 : w9.cell? ⟨gq, q * 4 + 3, none⟩ = some (.slice Al f.lines.length cl) := (HSE.out.cell (p := ⟨gq, q * 4 + 3, none⟩) (World.block_lt_of_cell? w8 _ CQ3.out)).trans CQ3.out
                    have fz3 := F9.out.frozen 3
                    have k3 := F9.out.cells.2.2.2
                    clear hsm
                    go_upto_region 45 with fail
                    clear e2 e3 f1 f2 f3
                    have F := Lib.hid (F9.out.put 3 (.slice Al f.lines.length cl) (lv' := .slice Al f.lines.length cl) rfl)
                    have hgG := grown_put w9 G 3 (.slice Al f.lines.length cl)
                    have KG : KeepD w9 (w9.setCell ⟨G, 3, none⟩ (.slice Al f.lines.length cl)) := keep_fun F9.out.g hgG
                    have T := Lib.hid (HPE.out ▸ T9.out.keep hgG (fun g e => by injection e with e; subst e; exact ⟨_, _, F9.out.g⟩) (by decide))
                    have LV := Lib.hid ((HIL.out.keep (KeepD.below HSE.out)).keep KG)
                    have hbG : (w9.setCell ⟨G, 3, none⟩ (.slice Al f.lines.length cl)).heap[b]? = w9.heap[b]? := hgG.block b A9.out.lt (fun e => by injection e with e; have := F9.out.far; omega)
                    have K : Hid (LnK7 s b (w9.setCell ⟨G, 3, none⟩ (.slice Al f.lines.length cl)) f.lines v8 E (cF4 sizes a (ar, arP) acc (o, oP))) := Lib.hid (.inl ⟨a.told, st8, O9.out.keepAt (hbG.trans A9.out) KG, LI8.out.trans HT.out, HEQ.out⟩)
                    have NS := SH8
                    have H3 := Lib.hid HCL.out
                    clear cb cl3 fz3 k3 hgG KG hbG F9 T9 A9 O9
                    rw [HPL.out] at F
                    rw [show (pickN sizes acc).length = acc.length by simp [pickN]] at T
                    change Code.wp _ _ _ _ (w9.setCell ⟨G, 3, none⟩ (.slice Al f.lines.length cl))
                    generalize w9.setCell ⟨G, 3, none⟩ (.slice Al f.lines.length cl) = w10 at F T LV K ⊢
                    have dn : decide (0 < n) = false := decide_eq_false (by have := HN0.out; omega)
                    go_wp2_with fail
                    go_loopw [18, 19, 21, 22, 23, 24, 25, 27] (fun i _ _ _ _ _ _ _ wr => i = .int .i64 0 ∧ wr = w10) (fun _ _ _ _ _ _ _ _ _ => 0)
                    case atStart => exact ⟨rfl, rfl⟩
                    case round =>
                      obtain ⟨rfl, hwr⟩ := hrel
                      rw [hwr]
                      clear hwr
                      have OWc : Hid (OwnFd w10 base (.slice Ash us.length csh) us) := Lib.hid (by
                        rw [← SV.out]
                        exact HO.out.keepB (fun g e h5 h6 => F.out.k.block g h5 (fun e => by injection e with e; have := HB.out; omega)))
                      have UL := Lib.hid (show us.length ≤ 1000000 by rw [HU.out.1]; have := HA.out.sfew; have := HK.out.le; have := HK.out.fits; omega)
                      have OWw : Hid (OwnFd w base (.slice Ash us.length csh) us) := Lib.hid (SV.out ▸ HO.out)
                      by_cases hs : ar < 0
                      · have d1 : decide (ar < 0) = true := decide_eq_true hs
                        have HSG := Lib.hid hs
                        have CC := Lib.hid F.out.cells
                        go_upto_region 65 with fail
                        clear hs
                        have Fd := Lib.hid (F.out.below ((Below.refl w10.heap.size w10).drew))
                        have Td := Lib.hid (T.out.below ((Below.refl w10.heap.size w10).drew))
                        have LVd := Lib.hid (LV.out.keep (KeepD.below ((Below.refl w10.heap.size w10).drew)))
                        have Kd := Lib.hid (K.out.keep (W' := w10.drew) rfl (KeepD.below ((Below.refl w10.heap.size w10).drew)))
                        have OWd := Lib.hid (OWc.out.keepB (w' := w10.drew) (fun g _ _ _ => rfl))
                        have CCd : Hid (w10.drew.cell? ⟨G, 0, none⟩ = some (.slice A1 acc.length q1) ∧ w10.drew.cell? ⟨G, 1, none⟩ = some (.slice A2 acc.length q2) ∧ w10.drew.cell? ⟨G, 2, none⟩ = some (.int .i64 o) ∧ w10.drew.cell? ⟨G, 3, none⟩ = some (.slice Al f.lines.length cl)) := Lib.hid CC.out
                        refine wp_region_noPanic ?_
                        refine wp_region_held_drew (S := fun W => W.cell? ⟨G, 0, none⟩ = some (.slice A1 acc.length q1) ∧ W.cell? ⟨G, 1, none⟩ = some (.slice A2 acc.length q2) ∧ W.cell? ⟨G, 2, none⟩ = some (.int .i64 o) ∧ W.cell? ⟨G, 3, none⟩ = some (.slice Al f.lines.length cl)) (by kernel_rfl) CCd.out (fun hHeld => ?_)
                        generalize w10.drew = wd at hHeld Fd Td LVd Kd OWd CCd ⊢
                        have Ad := Lib.hid Kd.out.at_
                        clear F T LV K OWc CC CCd
                        refine wpAnyH_take (i := 0) (v := ?v501) rfl (by kernel_rfl) (by kernel_rfl) (by kernel_rfl) (fun _ _ _ h => h) (Or.inl ⟨by rfl, ?y501⟩) (by assumption) ?r501
                        case y501 => ((intro w hSw; (try dsimp only at hSw); go_simp); try with_reducible rfl)
                        try simp only [Act.put, List.getElem_toArray, List.getElem_cons_zero, List.setIfInBounds_toArray, List.set_cons_zero, List.set_cons_succ]
                        refine wpAnyH_take (i := 1) (v := ?v502) rfl (by kernel_rfl) (by kernel_rfl) (by kernel_rfl) (fun _ _ _ h => h) (Or.inl ⟨by rfl, ?y502⟩) (by assumption) ?r502
                        case y502 => ((intro w hSw; (try dsimp only at hSw); go_simp); try with_reducible rfl)
                        try simp only [Act.put, List.getElem_toArray, List.getElem_cons_succ, List.getElem_cons_zero, List.setIfInBounds_toArray, List.set_cons_zero, List.set_cons_succ]
                        refine wpAnyH_take (i := 2) (v := ?v503) rfl (by kernel_rfl) (by kernel_rfl) (by kernel_rfl) (fun _ _ _ h => h) (Or.inl ⟨by rfl, ?y503⟩) (by assumption) ?r503
                        case y503 => ((intro w hSw; (try dsimp only at hSw); go_simp); try with_reducible rfl)
                        try simp only [Act.put, List.getElem_toArray, List.getElem_cons_succ, List.getElem_cons_zero, List.setIfInBounds_toArray, List.set_cons_zero, List.set_cons_succ]
                        refine wpAnyH_take (i := 3) (v := ?v504) rfl (by kernel_rfl) (by kernel_rfl) (by kernel_rfl) (fun _ _ _ h => h) (Or.inl ⟨by rfl, ?y504⟩) (by assumption) ?r504
                        case y504 => ((intro w hSw; (try dsimp only at hSw); go_simp); try with_reducible rfl)
                        try simp only [Act.put, List.getElem_toArray, List.getElem_cons_succ, List.getElem_cons_zero, List.setIfInBounds_toArray, List.set_cons_zero, List.set_cons_succ]
                        refine wpAnyH_take (i := 5) (v := ?v505) rfl (by kernel_rfl) (by kernel_rfl) (by kernel_rfl) (fun _ _ _ h => h) (Or.inl ⟨by rfl, ?y505⟩) (by assumption) ?r505
                        case y505 => ((intro w hSw; (try dsimp only at hSw); go_simp); try with_reducible rfl)
                        try simp only [Act.put, List.getElem_toArray, List.getElem_cons_succ, List.getElem_cons_zero, List.setIfInBounds_toArray, List.set_cons_zero, List.set_cons_succ]
                        refine wpAnyH_ready (rs := [4, 6]) (by kernel_rfl) (by simp) ?_
                        refine AllReadyH.cons rfl (fun K hK => ?_) ?_
                        · have ac : wd.cell? ⟨b, 8, none⟩ = some (.slice Ash us.length csh) := by rw [← SV.out, ← NS.out]; exact Ad.out.cell (i := 8) rfl
                          go_simp
                          clear ac
                          refine hK.out _ _ (hHeld) (fun hHeld' => ?_)
                          clear hHeld
                          have hHeld := hHeld'
                          clear hHeld'
                          clear hK K
                          try simp only [Act.put, List.getElem_toArray, List.getElem_cons_succ, List.getElem_cons_zero, List.setIfInBounds_toArray, List.set_cons_zero, List.set_cons_succ]
                          refine wpAnyH_ready (rs := [6]) (by kernel_rfl) (by simp) ?_
                          refine AllReadyH.cons rfl (fun K hK => ?_) ?_
                          · go_simp
                            have na := new_val wd (.cells #[.slice A1 acc.length q1, .slice A2 acc.length q2, .int .i64 o, .slice Al f.lines.length cl] 91)
                            have NA := Lib.hid na
                            have NW := Lib.hid (heap_alloc_new wd (.cells #[.slice A1 acc.length q1, .slice A2 acc.length q2, .int .i64 o, .slice Al f.lines.length cl] 91))
                            have A12 : Hid (DrAt (wd.alloc (.cells #[.slice A1 acc.length q1, .slice A2 acc.length q2, .int .i64 o, .slice Al f.lines.length cl] 91)) b v8) := Lib.hid ((na.block b Ad.out.lt).trans Ad.out)
                            refine hK.out _ _ (hold4 hHeld na) (fun hHeld' => ?_)
                            clear hHeld
                            have hHeld := hHeld'
                            clear hHeld'
                            clear na
                            generalize wd.alloc (.cells #[.slice A1 acc.length q1, .slice A2 acc.length q2, .int .i64 o, .slice Al f.lines.length cl] 91) = w12 at hHeld NA NW A12 ⊢
                            have OW : Hid (OwnFd w12 base (.slice Ash us.length csh) us) := Lib.hid (OWd.out.keepB (fun g _ h1 _ => NA.out.block g h1))
                            generalize wd.heap.size = gl at NW ⊢
                            clear hK K
                            try simp only [Act.put, List.getElem_toArray, List.getElem_cons_succ, List.getElem_cons_zero, List.setIfInBounds_toArray, List.set_cons_zero, List.set_cons_succ]
                            refine wpAnyH_ready (rs := [7]) (by kernel_rfl) (by simp) ?_
                            refine AllReadyH.cons rfl (fun K hK => ?_) ?_
                            · refine pushFd_step rfl (.tmp 274) (.tmp 276) rfl w12 base gl (.slice Ash us.length csh) us A1 A2 Al acc.length acc.length f.lines.length q1 q2 cl o rfl (by rfl) OW.out NW.out (by have := NA.out.size; have := Fd.out.k.size; have := HB.out; omega) UL.out ?_
                              intro v14 w13 hOx hgx hat
                              obtain ⟨A14, n14, c14, rfl⟩ : ∃ A n c, v14 = .slice A n c := by obtain ⟨A, c, e, -⟩ := hOx.form; exact ⟨A, _, c, e⟩
                              have OX := Lib.hid hOx
                              have GX := Lib.hid hgx
                              have AT := Lib.hid hat
                              have A13 : Hid (DrAt w13 b v8) := Lib.hid ((hgx.block b A12.out.lt (fun e => by obtain ⟨h1, _⟩ := OW.out.obj b e.symm; have := HB.out.1; omega)).trans A12.out)
                              refine hK.out _ _ (hold4_o hHeld hgx (fun e => by obtain ⟨_, h1, _⟩ := OWw.out.obj _ e; have := Fd.out.far; omega)) (fun hHeld' => ?_)
                              clear hHeld
                              have hHeld := hHeld'
                              clear hHeld'
                              clear hOx hgx hat
                              clear hK K
                              try simp only [Act.put, List.getElem_toArray, List.getElem_cons_succ, List.getElem_cons_zero, List.setIfInBounds_toArray, List.set_cons_zero, List.set_cons_succ]
                              refine wpAnyH_take (i := 8) (v := ?v506) rfl (by kernel_rfl) (by kernel_rfl) (by kernel_rfl) (fun _ _ _ h => h) (Or.inl ⟨by rfl, ?y506⟩) (by assumption) ?r506
                              case y506 => ((intro w hSw; (try dsimp only at hSw); go_simp); try with_reducible rfl)
                              try simp only [Act.put, List.getElem_toArray, List.getElem_cons_succ, List.getElem_cons_zero, List.setIfInBounds_toArray, List.set_cons_zero, List.set_cons_succ]
                              refine wpAnyH_take (i := 9) (v := ?v507) rfl (by kernel_rfl) (by kernel_rfl) (by kernel_rfl) (fun _ _ _ h => h) (Or.inl ⟨by rfl, ?y507⟩) (by assumption) ?r507
                              case y507 => ((intro w hSw; (try dsimp only at hSw); go_simp); try with_reducible rfl)
                              try simp only [Act.put, List.getElem_toArray, List.getElem_cons_succ, List.getElem_cons_zero, List.setIfInBounds_toArray, List.set_cons_zero, List.set_cons_succ]
                              refine wpAnyH_ready (rs := [10]) (by kernel_rfl) (by simp) ?_
                              refine AllReadyH.cons rfl (fun K hK => ?_) ?_
                              · have ac : w13.cell? ⟨b, 8, none⟩ = some v8.shared := A13.out.cell (i := 8) rfl
                                have af : w13.frozen? ⟨b, 8, none⟩ = false := A13.out.frozen 8
                                go_simp
                                clear ac af
                                refine hK.out _ _ (hold4_o hHeld (grown_put w13 b 8 _) (fun e => by injection e with e; have := Fd.out.far; omega)) (fun hHeld' => ?_)
                                clear hHeld
                                have hHeld := hHeld'
                                clear hHeld'
                                clear hK K
                                try simp only [Act.put, List.getElem_toArray, List.getElem_cons_succ, List.getElem_cons_zero, List.setIfInBounds_toArray, List.set_cons_zero, List.set_cons_succ]
                                refine wpAnyH_done (by kernel_rfl) ?_ _
                                refine NoPanic.normal ?_
                                obtain ⟨k0, k1, k2, k3⟩ := hHeld
                                have R15 := Lib.hid (fd_row Fd.out OWw.out NA.out GX.out (.slice A14 n14 c14))
                                have r15 := R15.out
                                clear r15
                                go_wp2_with (first
                                  | ((with_reducible show wpList _ _ _ (Oper.mk none (.store 91 _ _) _ _ _ _ :: _) _ _); refine wpList_store_row rfl 91 (.tmp 4) (.tmp 280) rfl R #[.slice A1 acc.length q1, .slice A2 acc.length q2, .int .i64 o, .slice Al f.lines.length cl] rfl rfl 91 #[.slice none 0 0, .slice none 0 0, .int .i64 0, .slice none 0 0] R15.out (by kernel_rfl) rfl (by simp [Value.oneCell']) ?_; change (Exit.then _ _) _ _ _; simp only [Exit.then]; apply_assumption; refine wp_ret ?_; exact bodyPost_ret (results_fd rfl _ _ R _ _ _ _ rfl (setRow_heap _ R _ _ _ _ R15.out)) rfl (fun7_neg Fd.out Td.out rfl H3.out LVd.out NS.out Kd.out HSG.out HK.out.at_ HO.out HU.out HB.out.1 HB.out.2 NA.out (SV.out ▸ OW.out) OX.out (SV.out ▸ GX.out) (SV.out ▸ AT.out) _))
                                  | fail)
                              exact AllReadyH.nil
                            exact AllReadyH.nil
                          exact AllReadyH.nil
                        refine AllReadyH.cons rfl (fun K hK => ?_) ?_
                        · go_simp
                          have na := new_val wd (.cells #[.slice A1 acc.length q1, .slice A2 acc.length q2, .int .i64 o, .slice Al f.lines.length cl] 91)
                          have NA := Lib.hid na
                          have NW := Lib.hid (heap_alloc_new wd (.cells #[.slice A1 acc.length q1, .slice A2 acc.length q2, .int .i64 o, .slice Al f.lines.length cl] 91))
                          have A12 : Hid (DrAt (wd.alloc (.cells #[.slice A1 acc.length q1, .slice A2 acc.length q2, .int .i64 o, .slice Al f.lines.length cl] 91)) b v8) := Lib.hid ((na.block b Ad.out.lt).trans Ad.out)
                          refine hK.out _ _ (hold4 hHeld na) (fun hHeld' => ?_)
                          clear hHeld
                          have hHeld := hHeld'
                          clear hHeld'
                          clear na
                          generalize wd.alloc (.cells #[.slice A1 acc.length q1, .slice A2 acc.length q2, .int .i64 o, .slice Al f.lines.length cl] 91) = w12 at hHeld NA NW A12 ⊢
                          have OW : Hid (OwnFd w12 base (.slice Ash us.length csh) us) := Lib.hid (OWd.out.keepB (fun g _ h1 _ => NA.out.block g h1))
                          generalize wd.heap.size = gl at NW ⊢
                          clear hK K
                          try simp only [Act.put, List.getElem_toArray, List.getElem_cons_succ, List.getElem_cons_zero, List.setIfInBounds_toArray, List.set_cons_zero, List.set_cons_succ]
                          refine wpAnyH_ready (rs := [4]) (by kernel_rfl) (by simp) ?_
                          refine AllReadyH.cons rfl (fun K hK => ?_) ?_
                          · have ac : w12.cell? ⟨b, 8, none⟩ = some (.slice Ash us.length csh) := by rw [← SV.out, ← NS.out]; exact A12.out.cell (i := 8) rfl
                            go_simp
                            clear ac
                            refine hK.out _ _ (hHeld) (fun hHeld' => ?_)
                            clear hHeld
                            have hHeld := hHeld'
                            clear hHeld'
                            clear hK K
                            try simp only [Act.put, List.getElem_toArray, List.getElem_cons_succ, List.getElem_cons_zero, List.setIfInBounds_toArray, List.set_cons_zero, List.set_cons_succ]
                            refine wpAnyH_ready (rs := [7]) (by kernel_rfl) (by simp) ?_
                            refine AllReadyH.cons rfl (fun K hK => ?_) ?_
                            · refine pushFd_step rfl (.tmp 274) (.tmp 276) rfl w12 base gl (.slice Ash us.length csh) us A1 A2 Al acc.length acc.length f.lines.length q1 q2 cl o rfl (by rfl) OW.out NW.out (by have := NA.out.size; have := Fd.out.k.size; have := HB.out; omega) UL.out ?_
                              intro v14 w13 hOx hgx hat
                              obtain ⟨A14, n14, c14, rfl⟩ : ∃ A n c, v14 = .slice A n c := by obtain ⟨A, c, e, -⟩ := hOx.form; exact ⟨A, _, c, e⟩
                              have OX := Lib.hid hOx
                              have GX := Lib.hid hgx
                              have AT := Lib.hid hat
                              have A13 : Hid (DrAt w13 b v8) := Lib.hid ((hgx.block b A12.out.lt (fun e => by obtain ⟨h1, _⟩ := OW.out.obj b e.symm; have := HB.out.1; omega)).trans A12.out)
                              refine hK.out _ _ (hold4_o hHeld hgx (fun e => by obtain ⟨_, h1, _⟩ := OWw.out.obj _ e; have := Fd.out.far; omega)) (fun hHeld' => ?_)
                              clear hHeld
                              have hHeld := hHeld'
                              clear hHeld'
                              clear hOx hgx hat
                              clear hK K
                              try simp only [Act.put, List.getElem_toArray, List.getElem_cons_succ, List.getElem_cons_zero, List.setIfInBounds_toArray, List.set_cons_zero, List.set_cons_succ]
                              refine wpAnyH_take (i := 8) (v := ?v508) rfl (by kernel_rfl) (by kernel_rfl) (by kernel_rfl) (fun _ _ _ h => h) (Or.inl ⟨by rfl, ?y508⟩) (by assumption) ?r508
                              case y508 => ((intro w hSw; (try dsimp only at hSw); go_simp); try with_reducible rfl)
                              try simp only [Act.put, List.getElem_toArray, List.getElem_cons_succ, List.getElem_cons_zero, List.setIfInBounds_toArray, List.set_cons_zero, List.set_cons_succ]
                              refine wpAnyH_take (i := 9) (v := ?v509) rfl (by kernel_rfl) (by kernel_rfl) (by kernel_rfl) (fun _ _ _ h => h) (Or.inl ⟨by rfl, ?y509⟩) (by assumption) ?r509
                              case y509 => ((intro w hSw; (try dsimp only at hSw); go_simp); try with_reducible rfl)
                              try simp only [Act.put, List.getElem_toArray, List.getElem_cons_succ, List.getElem_cons_zero, List.setIfInBounds_toArray, List.set_cons_zero, List.set_cons_succ]
                              refine wpAnyH_ready (rs := [10]) (by kernel_rfl) (by simp) ?_
                              refine AllReadyH.cons rfl (fun K hK => ?_) ?_
                              · have ac : w13.cell? ⟨b, 8, none⟩ = some v8.shared := A13.out.cell (i := 8) rfl
                                have af : w13.frozen? ⟨b, 8, none⟩ = false := A13.out.frozen 8
                                go_simp
                                clear ac af
                                refine hK.out _ _ (hold4_o hHeld (grown_put w13 b 8 _) (fun e => by injection e with e; have := Fd.out.far; omega)) (fun hHeld' => ?_)
                                clear hHeld
                                have hHeld := hHeld'
                                clear hHeld'
                                clear hK K
                                try simp only [Act.put, List.getElem_toArray, List.getElem_cons_succ, List.getElem_cons_zero, List.setIfInBounds_toArray, List.set_cons_zero, List.set_cons_succ]
                                refine wpAnyH_done (by kernel_rfl) ?_ _
                                refine NoPanic.normal ?_
                                obtain ⟨k0, k1, k2, k3⟩ := hHeld
                                have R15 := Lib.hid (fd_row Fd.out OWw.out NA.out GX.out (.slice A14 n14 c14))
                                have r15 := R15.out
                                clear r15
                                go_wp2_with (first
                                  | ((with_reducible show wpList _ _ _ (Oper.mk none (.store 91 _ _) _ _ _ _ :: _) _ _); refine wpList_store_row rfl 91 (.tmp 4) (.tmp 280) rfl R #[.slice A1 acc.length q1, .slice A2 acc.length q2, .int .i64 o, .slice Al f.lines.length cl] rfl rfl 91 #[.slice none 0 0, .slice none 0 0, .int .i64 0, .slice none 0 0] R15.out (by kernel_rfl) rfl (by simp [Value.oneCell']) ?_; change (Exit.then _ _) _ _ _; simp only [Exit.then]; apply_assumption; refine wp_ret ?_; exact bodyPost_ret (results_fd rfl _ _ R _ _ _ _ rfl (setRow_heap _ R _ _ _ _ R15.out)) rfl (fun7_neg Fd.out Td.out rfl H3.out LVd.out NS.out Kd.out HSG.out HK.out.at_ HO.out HU.out HB.out.1 HB.out.2 NA.out (SV.out ▸ OW.out) OX.out (SV.out ▸ GX.out) (SV.out ▸ AT.out) _))
                                  | fail)
                              exact AllReadyH.nil
                            exact AllReadyH.nil
                          exact AllReadyH.nil
                        exact AllReadyH.nil
                      · have d1 : decide (ar < 0) = false := decide_eq_false hs
                        have HSN := Lib.hid hs
                        obtain ⟨k0, k1, k2, k3⟩ := F.out.cells
                        go_wp2_with (first
                          | ((with_reducible show wpList _ _ _ (Oper.mk none (.store 91 _ _) _ _ _ _ :: _) _ _); refine wpList_store_row rfl 91 (.tmp 4) (.tmp 280) rfl R #[.slice A1 acc.length q1, .slice A2 acc.length q2, .int .i64 o, .slice Al f.lines.length cl] rfl rfl 91 #[.slice none 0 0, .slice none 0 0, .int .i64 0, .slice none 0 0] F.out.r (by kernel_rfl) rfl (by simp [Value.oneCell']) ?_; change (Exit.then _ _) _ _ _; simp only [Exit.then]; apply_assumption; refine wp_ret ?_; exact bodyPost_ret (results_fd rfl _ _ R _ _ _ _ rfl (setRow_heap _ R _ _ _ _ F.out.r)) rfl (fun7_pos F.out T.out rfl H3.out LV.out NS.out K.out HSN.out HK.out.at_ HO.out HU.out HB.out.1 HB.out.2 _))
                          | fail)
                    --]
                exact AllReadyH.nil
              --]
            · --[pos
              have d1 : decide (n < 0) = false := decide_eq_false hn
              obtain ⟨M, rfl⟩ := Int.eq_ofNat_of_zero_le (by omega : 0 ≤ n)
              have HDL : Hid (dL s.data.toList sizes acc a ((M : Int), p) st8 = (linesM s.data.toList sizes acc M [] (limS (decide (16384 < a.told + (M : Int))) p st8)).bind fun ls s'' => .ok (ls, a.told + (M : Int)) s'') := Lib.hid (by
                unfold dL
                rw [if_neg hn]
                simp only [Int.toNat_natCast])
              have c7 : w8.cell? ⟨b, 7, none⟩ = some (.int .i64 a.told) := by rw [← HT.out, ← LI8.out]; exact O8.out.at_.cell (i := 7) rfl
              have fz7 := O8.out.at_.frozen 7
              obtain ⟨e1, e2⟩ := wr_add a.told M TL.out (by have := HR8'.out; omega)
              obtain ⟨S, hS⟩ : ∃ S, a.told + (M : Int) = S := ⟨_, rfl⟩
              rw [hS] at HDL
              replace e1 := e1.trans hS
              replace e2 := e2.trans hS
              have HSE := Lib.hid hS
              clear hS hn
              have D7 := Lib.hid (dec_far S)
              go_upto_if 188 with fail
              clear e1 e2
              go_cut [17] from 184 to 191 (fun v17 wc => Hid (v17 = .int .i64 (M : Int) ∧ DrAt wc b { v8 with lines := if 4611686018427387904 < S then 4611686018427387904 else S } ∧ Gr w8 wc b))
              case first =>
                have g1 : Gr w8 (w8.setCell ⟨b, 7, none⟩ (.int .i64 S)) b := grown_put w8 b 7 (.int .i64 S)
                have a1 : DrAt (w8.setCell ⟨b, 7, none⟩ (.int .i64 S)) b { v8 with lines := S } := O8.out.at_.put 7 (.int .i64 S) rfl
                by_cases hb : 4611686018427387904 < S
                · have d5 : decide ((4611686018427387904 : Int) < S) = true := decide_eq_true hb
                  have FIN : Hid (DrAt ((w8.setCell ⟨b, 7, none⟩ (.int .i64 S)).setCell ⟨b, 7, none⟩ (.int .i64 4611686018427387904)) b { v8 with lines := if 4611686018427387904 < S then 4611686018427387904 else S } ∧ Gr w8 ((w8.setCell ⟨b, 7, none⟩ (.int .i64 S)).setCell ⟨b, 7, none⟩ (.int .i64 4611686018427387904)) b) := Lib.hid (by
                    rw [if_pos hb]
                    exact ⟨a1.put 7 (.int .i64 4611686018427387904) rfl, g1.trans (grown_put _ b 7 _)⟩)
                  have c71 : (w8.setCell ⟨b, 7, none⟩ (.int .i64 S)).cell? ⟨b, 7, none⟩ = some (.int .i64 S) := a1.cell (i := 7) rfl
                  have fz71 := a1.frozen 7
                  have hb' : ¬ S ≤ 4611686018427387904 := Int.not_le.2 hb
                  clear g1 a1 c7 fz7
                  generalize w8.setCell ⟨b, 7, none⟩ (.int .i64 S) = w9 at c71 fz71 FIN ⊢
                  go_wp2_with fail
                  go_meet
                  case rel => exact Lib.hid ⟨rfl, FIN.out⟩
                · have d5 : decide ((4611686018427387904 : Int) < S) = false := decide_eq_false hb
                  have FIN : Hid (DrAt (w8.setCell ⟨b, 7, none⟩ (.int .i64 S)) b { v8 with lines := if 4611686018427387904 < S then 4611686018427387904 else S } ∧ Gr w8 (w8.setCell ⟨b, 7, none⟩ (.int .i64 S)) b) := Lib.hid (by
                    rw [if_neg hb]
                    exact ⟨a1, g1⟩)
                  have c71 : (w8.setCell ⟨b, 7, none⟩ (.int .i64 S)).cell? ⟨b, 7, none⟩ = some (.int .i64 S) := a1.cell (i := 7) rfl
                  have hb' : S ≤ 4611686018427387904 := Int.not_lt.1 hb
                  clear g1 a1 c7 fz7
                  generalize w8.setCell ⟨b, 7, none⟩ (.int .i64 S) = w9 at c71 FIN ⊢
                  go_wp2_with fail
                  go_meet
                  case rel => exact Lib.hid ⟨rfl, FIN.out⟩
              obtain ⟨rfl, ha9, hg9⟩ := hcut.out
              obtain ⟨L7, hL7⟩ : ∃ L7, (if 4611686018427387904 < S then 4611686018427387904 else S) = L7 := ⟨_, rfl⟩
              rw [hL7] at ha9 D7
              have HL7 := Lib.hid hL7
              have F9 := Lib.hid (F8.out.gr hg9)
              have T9 := Lib.hid (T8.out.keep hg9 (fun g e => by injection e with e; subst e; exact ⟨_, _, O8.out.at_⟩) (by decide))
              have c7n : wc.cell? ⟨b, 7, none⟩ = some (.int .i64 L7) := ha9.cell (i := 7) rfl
              have dd := D7.out
              have I9 : Hid (DrIn wc b s { v8 with lines := L7 } { v8 with lines := L7 } E (fun st => (fun st => (linesM s.data.toList sizes acc M [] st).bind (fun ls => cF4 sizes a (ar, arP) acc (o, oP) (ls, S))) (limS (decide (16384 < S)) p st))) := Lib.hid ⟨DrNear.refl _, .inl ⟨st8, ⟨ha9, O8.out.fine, O8.out.le, O8.out.fits, O8.out.big, O8.out.words.keep (KeepD.dr O8.out.at_ hg9), O8.out.fin⟩, by
                rw [E8.out, HDL.out, RdR.bind_assoc]
                rfl⟩⟩
              have LX := Lib.hid (lim7 (C := fun st => (linesM s.data.toList sizes acc M [] st).bind (fun ls => cF4 sizes a (ar, arP) acc (o, oP) (ls, S))) I9.out)
              have LS8 := Lib.hid O8.out.lenS.2
              clear hcut ha9 hg9 hL7 k0 k1 k2 k3 c8 c18 F8 T8
              go_upto_region 45 with (first
                | (go_at_call 35; refine LX.out.mono ?_; rintro e w10 ⟨v10, ⟨_, rfl⟩, hg10, ⟨hbd, hll⟩, hi10⟩; have G10 := Lib.hid hg10; have I10 := Lib.hid hi10; have B10 := Lib.hid (And.intro hbd hll); clear hg10 hbd hll hi10)
                | fail)
              have GI0 : Hid (LnG w w10 b G R s sizes acc A1 A2 q1 q2 o { v8 with lines := L7 } E (fun ls => cF4 sizes a (ar, arP) acc (o, oP) (ls, S)) M 0 [] [] (.slice none 0 0) v10) := Lib.hid
                ⟨by have := F9.out.gr G10.out; rw [HPL.out] at this; exact this, by have := T9.out.keep G10.out (fun g e => by injection e with e; subst e; exact ⟨_, _, I9.out.at_⟩) (by decide); rw [HPL.out, ← HPE.out] at this; exact this, ownL6_nil _ _, lnD_nil _, I10.out, rfl, fun _ => by rw [B10.out.2]; have := LS8.out; show 0 + lenS v8.l ≤ 100000; omega, by decide⟩
              clear F9 T9 I9 LX c7n dd D7 G10 I10
              have HMB := Lib.hid (show (M : Int) ≤ 4611686018427387904 from HR8'.out.2)
              have AP := Lib.hid (show acc.length ≤ 100000 by have := HPL.out; have := HP5.out; omega)
              go_wp2_with fail
              go_loopw [18, 19, 21, 22, 23, 24, 25, 27] (fun i _ _ _ _ _ _ _ wr => ∃ (j' : Nat) (ls : List LineM) (vs : List (Value × Int)) (lv : Value) (v' : DrV), i = .int .i64 (j' : Int) ∧ j' ≤ M ∧ LnG w wr b G R s sizes acc A1 A2 q1 q2 o { v8 with lines := L7 } E (fun ls => cF4 sizes a (ar, arP) acc (o, oP) (ls, S)) M j' ls vs lv v') (fun i _ _ _ _ _ _ _ _ => M - (intOf i).toNat)
              case atStart => exact ⟨0, [], [], _, v10, rfl, Nat.zero_le _, GI0.out⟩
              case round =>
                obtain ⟨t, ls, vs, lv, v', rfl, ht, hg⟩ := hrel
                have LG := Lib.hid hg
                have HTM := Lib.hid ht
                clear hg GI0 ht
                have c3 : wr.cell? ⟨b, 3, none⟩ = some (.int .i64 v'.bad) := LG.out.rd.at_.cell (i := 3) rfl
                obtain ⟨A3, c3', rfl, hcv⟩ := LG.out.own.form
                have HCV := Lib.hid hcv
                have HVL := Lib.hid LG.out.lis.1
                clear hcv
                by_cases hlt : t < M
                · have d5 : decide ((t : Int) < (M : Int)) = true := decide_eq_true (Int.ofNat_lt.2 hlt)
                  by_cases hb : v'.bad = 0
                  · --[round
                    rw [hb] at c3
                    have HB0 := Lib.hid hb
                    have HLT := Lib.hid hlt
                    have CNT := Lib.hid (LG.out.cnt hb)
                    clear hb hlt
                    obtain ⟨wq, ewq⟩ : ∃ W, W = wr := ⟨wr, rfl⟩
                    rw [← ewq] at LG c3 ⊢
                    clear ewq
                    obtain ⟨k0, k1, k2, k3⟩ := LG.out.f.cells
                    have hap : acc.length ≤ 100000 := AP.out
                    have X0 := Lib.hid (heap_alloc_new wq (.cells #[.slice none 0 0, .int .i64 0] 134))
                    have N0 := Lib.hid (new_val wq (.cells #[.slice none 0 0, .int .i64 0] 134))
                    have TP0 : Hid (TpD wq (wq.alloc (.cells #[.slice none 0 0, .int .i64 0] 134)) b wq.heap.size s sizes acc v' E (fun x s' => ((numM s.data.toList 0 4611686018427387904 s').bind fun c s'' => if ls.any (fun y => y.1 == x) then .bad 4 c.2 else linesM s.data.toList sizes acc (M - (t + 1)) (ls ++ [(x, c.1)]) s'').bind (fun ls => cF4 sizes a (ar, arP) acc (o, oP) (ls, S))) 0 [] (.slice none 0 0) v') := Lib.hid
                      ⟨X0.out, own6_nil _ _, Gr.below N0.out, ((DrIn.conv ⟨DrNear.refl _, LG.out.rd.2⟩ (fun st => by rw [linesM_next (by have := HLT.out; omega), RdR.bind_assoc]; rfl)).below N0.out), rfl, fun _ => Nat.le_refl _, Nat.le_refl _, LG.out.rd.at_.lt⟩
                    go_upto_region 49 with fail
                    clear c3
                    have k1' : (wq.alloc (.cells #[.slice none 0 0, .int .i64 0] 134)).cell? ⟨G, 1, none⟩ = some (.slice A2 acc.length q2) := (LG.out.f.below N0.out).cells.2.1
                    clear k0 k1 k2 k3 X0 N0
                    change Code.wp _ _ _ _ (wq.alloc (.cells #[.slice none 0 0, .int .i64 0] 134))
                    generalize wq.alloc (.cells #[.slice none 0 0, .int .i64 0] 134) = w11 at k1' TP0 ⊢
                    obtain ⟨X, hX⟩ : ∃ X, wq.heap.size = X := ⟨_, rfl⟩
                    rw [hX] at TP0 ⊢
                    have HXE := Lib.hid hX
                    clear hX
                    go_wp2_with fail
                    go_loopw [21, 22, 23, 215] (fun _ _ _ i wr => ∃ (q : Nat) (tup : List Nat) (tv : Value) (vt : DrV), i = .int .i64 (q : Int) ∧ q ≤ acc.length ∧ TpD wq wr b X s sizes acc v' E (fun x s' => ((numM s.data.toList 0 4611686018427387904 s').bind fun c s'' => if ls.any (fun y => y.1 == x) then .bad 4 c.2 else linesM s.data.toList sizes acc (M - (t + 1)) (ls ++ [(x, c.1)]) s'').bind (fun ls => cF4 sizes a (ar, arP) acc (o, oP) (ls, S))) q tup tv vt) (fun _ _ _ i _ => acc.length - (intOf i).toNat)
                    case atStart => exact ⟨0, [], _, _, rfl, Nat.zero_le _, TP0.out⟩
                    case round =>
                      obtain ⟨q, tup, tv, vt, rfl, hq, htp⟩ := hrel
                      have TP := Lib.hid htp
                      clear htp TP0 k1'
                      obtain ⟨At, ct, rfl, hct⟩ := TP.out.own.form
                      by_cases hqa : q < acc.length
                      · --[tup
                        have d6 : decide ((q : Int) < (acc.length : Int)) = true := decide_eq_true (Int.ofNat_lt.2 hqa)
                        have I6q := Lib.hid ((LG.out.two.b.viewN.2.2).keep (KeepD.dr LG.out.rd.at_ TP.out.gr))
                        obtain ⟨gz, oz, rfl, cz⟩ := I6q.out.at_ (show q < (pickN sizes acc).length by rw [HPE.out, HPL.out]; exact hqa)
                        have NUM := Lib.hid (num7 (TP.out.rd.conv (fun st => by rw [tupleM_drop hqa, RdR.bind_assoc])))
                        have hz9 := HPM.out (nth (pickN sizes acc) q) (by rw [HPE.out]; exact nth_mem (by rw [HPL.out]; exact hqa))
                        generalize nth (pickN sizes acc) q = z at cz NUM hz9
                        obtain ⟨z1, z2⟩ := wr_pred z hz9
                        clear hz9
                        have HTL := Lib.hid TP.out.len
                        go_upto_region 53 with (first
                          | (go_at_call 36; refine NUM.out.mono ?_; rintro e w12 ⟨n', p', v12, rfl, hr, -, hk, hcn, hg, hi⟩; have HR := Lib.hid hr; have HKC := Lib.hid (And.intro hk hcn); have G12 := Lib.hid hg; have I12 := Lib.hid hi; clear hr hk hcn hg hi)
                          | fail)
                        clear z1 z2
                        obtain ⟨y, rfl⟩ := Int.eq_ofNat_of_zero_le (show 0 ≤ n' by rcases HR.out with h | h; exact h.1; exact Int.le_of_eq h.1.symm)
                        have J12 := Lib.hid (I12.out.conv (C' := fun st => (tupleM s.data.toList sizes (acc.drop (q + 1)) (tup ++ [y]) st).bind (fun x s' => ((numM s.data.toList 0 4611686018427387904 s').bind fun c s'' => if ls.any (fun y => y.1 == x) then .bad 4 c.2 else linesM s.data.toList sizes acc (M - (t + 1)) (ls ++ [(x, c.1)]) s'').bind (fun ls => cF4 sizes a (ar, arP) acc (o, oP) (ls, S)))) (fun st => by simp only [Int.toNat_natCast]))
                        have CN := Lib.hid (show v12.bad = 0 → lenS v12.l ≤ lenS v'.l from fun h => by
                          have h1 := HKC.out.2 h
                          have h2 := TP.out.cnt (Classical.byContradiction fun h3 => HKC.out.1 h3 h)
                          omega)
                        obtain ⟨kx, ko, -⟩ := TP.out.keepW G12.out
                        have na := new_val w12 (.cells #[.int .i64 (y : Int)] 2)
                        have NA := Lib.hid na
                        have CY : Hid ((w12.alloc (.cells #[.int .i64 (y : Int)] 2)).cell? ((⟨w12.heap.size, 0, none⟩ : Addr).add 0) = some (.int .i64 (y : Int))) := Lib.hid (by
                          show (w12.alloc _).cell? ⟨w12.heap.size, 0, none⟩ = _
                          rw [cell_of_row _ _ _ _ _ _ (heap_alloc_new w12 _)]; rfl)
                        have OA := Lib.hid (ko.keepB (fun g _ h _ => na.block g h))
                        have kx0 : (w12.alloc (.cells #[.int .i64 (y : Int)] 2)).cell? ⟨X, 0, none⟩ = some (.slice At tup.length ct) := by
                          rw [cell_of_row _ _ _ _ _ _ ((na.block X (Array.getElem?_eq_some_iff.1 kx).1).trans kx)]; rfl
                        have XA := Lib.hid ((na.block X (Array.getElem?_eq_some_iff.1 kx).1).trans kx)
                        have BZ := Lib.hid (show wq.heap.size ≤ (w12.alloc (.cells #[.int .i64 (y : Int)] 2)).heap.size from Nat.le_trans (TP.out.gr.trans G12.out).size na.size)
                        have TL9 := Lib.hid (show tup.length ≤ 1000000 by rw [HTL.out]; have := AP.out; omega)
                        have kx' : w12.cell? ⟨X, 0, none⟩ = some (.slice At tup.length ct) := by rw [cell_of_row _ _ _ _ _ _ kx]; rfl
                        clear na kx ko I12 NUM
                        go_upto_region 54 with (first
                          | (at_builtin; refine push6 rfl (.tmp 227) (.tmp 229) rfl _ wq.heap.size y _ tup ⟨w12.heap.size, 0, none⟩ rfl rfl OA.out CY.out BZ.out TL9.out ?_; intro v6 w13 h1 h2 h3; obtain ⟨A6, q6, rfl⟩ := h1.formN (m := tup.length + 1) (by simp); have fx := frozen_of_row w13 X 0 _ _ (xrow OA.out XA.out h2); have kx2 : w13.cell? ⟨X, 0, none⟩ = some (.slice At tup.length ct) := (by rw [cell_of_row _ _ _ _ _ _ (xrow OA.out XA.out h2)]; rfl); have TN := Lib.hid (TP.out.next G12.out J12.out CN.out NA.out OA.out h1 h2); clear h1 h2 h3)
                          | fail)
                        clear kx0 kx' kx2 fx
                        have hq5 : q ≤ 100000 := by have := AP.out; omega
                        change Code.wp _ _ _ _ (w13.setCell ⟨X, 0, none⟩ (.slice A6 (tup.length + 1) q6))
                        generalize w13.setCell ⟨X, 0, none⟩ (.slice A6 (tup.length + 1) q6) = w14 at TN ⊢
                        go_wp2_with fail
                        go_roundw
                        case rel => exact ⟨q + 1, tup ++ [y], _, v12, by go_num, by omega, TN.out⟩
                        case measure => simp [intOf]; omega
                        --]
                      · --[line
                        have d6 : decide ((q : Int) < (acc.length : Int)) = false := decide_eq_false (by omega)
                        have HQ : Hid (q = acc.length) := Lib.hid (by omega)
                        have RD5 := Lib.hid (TP.out.rd.conv (C' := fun s' => (numM s.data.toList 0 4611686018427387904 s').bind fun c s'' => if ls.any (fun y => y.1 == tup) then .bad 4 c.2 else (linesM s.data.toList sizes acc (M - (t + 1)) (ls ++ [(tup, c.1)]) s'').bind (fun ls => cF4 sizes a (ar, arP) acc (o, oP) (ls, S))) (fun st => by
                          rw [HQ.out, List.drop_length]
                          show ((numM _ 0 _ st).bind _).bind _ = _
                          rw [RdR.bind_assoc]
                          congr 1
                          funext c s''
                          split <;> rfl))
                        have NUM := Lib.hid (num7 RD5.out)
                        go_upto_region 56 with (first
                          | (go_at_call 36; refine NUM.out.mono ?_; rintro e w12 ⟨c, cp, v12, rfl, hr, -, hk, hcn, hg, hi⟩; have HR := Lib.hid hr; have HKC := Lib.hid (And.intro hk hcn); have G12 := Lib.hid hg; have I12 := Lib.hid hi; clear hr hk hcn hg hi)
                          | fail)
                        have HQ2 := HQ
                        have GQ := Lib.hid (TP.out.gr.trans G12.out)
                        have M0 : Hid (MtD wq w12 b X s tup (.slice At tup.length ct) ls cp v' E (fun s'' => (linesM s.data.toList sizes acc (M - (t + 1)) (ls ++ [(tup, c)]) s'').bind (fun ls => cF4 sizes a (ar, arP) acc (o, oP) (ls, S))) 0 v12) := Lib.hid
                          ⟨(TP.out.keepW G12.out).1, (TP.out.keepW G12.out).2.1, GQ.out, I12.out, fun _ i y _ h => absurd h (Nat.not_lt_zero _), fun h => by
                            have h1 := HKC.out.2 h
                            have h2 := TP.out.cnt (Classical.byContradiction fun h3 => HKC.out.1 h3 h)
                            omega, TP.out.far⟩
                        have k3 : w12.cell? ⟨G, 3, none⟩ = some (.slice A3 vs.length c3') := (LG.out.f.gr GQ.out).cells.2.2.2
                        have LV0 : Hid (LnV wq A3 ls) := Lib.hid (by
                          obtain ⟨A, c, e, -, h⟩ := LG.out.own.view LG.out.lis
                          injection e with e1
                          subst e1
                          exact h)
                        have hv9 : vs.length ≤ 200000 := by rw [HVL.out, LG.out.len]; have := LG.out.few; omega
                        have HV9 := Lib.hid hv9
                        have TL9 := Lib.hid (show tup.length ≤ 1000000 by rw [TP.out.len]; have := AP.out; omega)
                        clear d6 NUM I12 G12 RD5 HQ2 hqa hq
                        go_wp2_with fail
                        go_loopw [27, 241] (fun _ i wr => ∃ (q : Nat) (vm : DrV), i = .int .i64 (q : Int) ∧ q ≤ vs.length ∧ MtD wq wr b X s tup (.slice At tup.length ct) ls cp v' E (fun s'' => (linesM s.data.toList sizes acc (M - (t + 1)) (ls ++ [(tup, c)]) s'').bind (fun ls => cF4 sizes a (ar, arP) acc (o, oP) (ls, S))) q vm) (fun _ i _ => vs.length - (intOf i).toNat)
                        case atStart => exact ⟨0, v12, rfl, Nat.zero_le _, M0.out⟩
                        case round =>
                          obtain ⟨u, vm, rfl, hu, hmt⟩ := hrel
                          have MT := Lib.hid hmt
                          clear hmt M0 k3
                          by_cases hul : u < vs.length
                          · --[look
                            have d7 : decide ((u : Int) < (vs.length : Int)) = true := decide_eq_true (Int.ofNat_lt.2 hul)
                            obtain ⟨yl, hyl⟩ : ∃ y, ls[u]? = some y := ⟨_, List.getElem?_eq_getElem (by rw [← HVL.out]; exact hul)⟩
                            have HYL := Lib.hid hyl
                            rcases LV0.out.keep (KeepD.dr LG.out.rd.at_ MT.out.gr) with h0 | ⟨gl, ol, cur, fr, rfl, hgl, hcell⟩
                            · rw [h0] at hyl
                              simp at hyl
                            obtain ⟨cy1, Ay, cty, cy0, iy⟩ := hcell u yl hyl
                            clear hcell hgl hyl
                            obtain ⟨wm, ewm⟩ : ∃ W, W = wr := ⟨wr, rfl⟩
                            rw [← ewm] at MT cy1 cy0 iy ⊢
                            clear ewm
                            have na := new_val wm (.cells #[.slice Ay yl.1.length cty, .int .i64 yl.2] 134)
                            have GY : Hid (Gr wm (wm.alloc (.cells #[.slice Ay yl.1.length cty, .int .i64 yl.2] 134)) b) := Lib.hid (Gr.below na)
                            have RY := Lib.hid (MT.out.rd.below na)
                            have XY := Lib.hid ((na.block X (Array.getElem?_eq_some_iff.1 MT.out.x).1).trans MT.out.x)
                            have IX := Lib.hid ((MT.out.own.keepB (fun g _ h _ => na.block g h)).viewN.2.2)
                            have IY := Lib.hid (iy.keep (KeepD.below na))
                            have cb : (wm.alloc (.cells #[.slice Ay yl.1.length cty, .int .i64 yl.2] 134)).cell? ⟨b, 3, none⟩ = some (.int .i64 vm.bad) := RY.out.at_.cell (i := 3) rfl
                            have cx : (wm.alloc (.cells #[.slice Ay yl.1.length cty, .int .i64 yl.2] 134)).cell? ⟨X, 0, none⟩ = some (.slice At tup.length ct) := by rw [cell_of_row _ _ _ _ _ _ XY.out]; rfl
                            have cyy : (wm.alloc (.cells #[.slice Ay yl.1.length cty, .int .i64 yl.2] 134)).cell? ⟨wm.heap.size, 0, none⟩ = some (.slice Ay yl.1.length cty) := by rw [cell_of_row _ _ _ _ _ _ (heap_alloc_new wm _)]; rfl
                            clear na iy
                            go_upto_region 59 with fail
                            clear cy1 cy0
                            change Code.wp _ _ _ _ (wm.alloc (.cells #[.slice Ay yl.1.length cty, .int .i64 yl.2] 134))
                            generalize wm.alloc (.cells #[.slice Ay yl.1.length cty, .int .i64 yl.2] 134) = wy at GY RY XY IX IY cb cx cyy ⊢
                            generalize wm.heap.size = Y at cyy ⊢
                            have hu5 : u ≤ 200000 := by have := HV9.out; omega
                            by_cases hb : vm.bad = 0
                            · rw [hb] at cb
                              have SM := Lib.hid (same7 At Ay ct cty tup yl.1 wy IX.out IY.out TL9.out)
                              by_cases he : yl.1 = tup
                              · --[hit
                                have ht : (tup == yl.1) = true := by simp [he]
                                rw [ht] at SM
                                have HANY := Lib.hid (show ls.any (fun y => y.1 == tup) = true from List.any_eq_true.2 ⟨yl, List.mem_of_getElem? HYL.out, by simp [he]⟩)
                                clear ht hb he
                                go_wp2_with (first
                                  | (go_at_call 67; refine SM.out.mono ?_; rintro e w20 ⟨rfl, hb20⟩; have BD := Lib.hid (bad7 (e := 4) (p := cp) (by decide) ((RY.out.below hb20).conv (fun st => by rw [if_pos HANY.out]))); have GB := Lib.hid (Gr.below (b := b) hb20); clear hb20)
                                  | (go_at_call 38; refine BD.out.mono ?_; rintro e w21 ⟨v21, e21, p21, ⟨_, rfl⟩, hg, hn, hbd, hE⟩; have MN := Lib.hid (MT.out.gr' ((GY.out.trans GB.out).trans hg) ⟨hn, .inr ⟨e21, p21, hbd, hE⟩⟩ (fun h => absurd h hbd.bad) (fun h => absurd h hbd.bad)); clear hg hn hbd hE)
                                  | fail)
                                go_roundw
                                case rel => exact ⟨u + 1, v21, by go_num, by omega, MN.out⟩
                                case measure => simp [intOf]; omega
                                --]
                              · --[miss
                                have ht : (tup == yl.1) = false := by simpa using fun h => he h.symm
                                rw [ht] at SM
                                have NO : Hid (vm.bad = 0 → ∀ i y, ls[i]? = some y → i < u + 1 → ¬ y.1 = tup) := Lib.hid (fun h i y hy hi => by
                                  rcases Nat.lt_or_ge i u with h1 | h1
                                  · exact MT.out.no h i y hy h1
                                  · have : i = u := by omega
                                    subst this
                                    rw [HYL.out] at hy
                                    injection hy with hy
                                    subst hy
                                    exact he)
                                clear ht he hb
                                go_wp2_with (first
                                  | (go_at_call 67; refine SM.out.mono ?_; rintro e w20 ⟨rfl, hb20⟩; have MN := Lib.hid (MT.out.gr' (GY.out.trans (Gr.below hb20)) (RY.out.below hb20) NO.out MT.out.cnt); clear hb20)
                                  | fail)
                                go_roundw
                                case rel => exact ⟨u + 1, vm, by go_num, by omega, MN.out⟩
                                case measure => simp [intOf]; omega
                                --]
                            · --[past
                              have d8 : (vm.bad == 0) = false := by simpa using hb
                              have MN := Lib.hid (MT.out.gr' GY.out RY.out (fun h => absurd h hb) MT.out.cnt)
                              clear hb
                              go_wp2_with fail
                              go_roundw
                              case rel => exact ⟨u + 1, vm, by go_num, by omega, MN.out⟩
                              case measure => simp [intOf]; omega
                              --]
                            --]
                          · --[put
                            have d7 : decide ((u : Int) < (vs.length : Int)) = false := decide_eq_false (by omega)
                            have HU9 : Hid (u = ls.length) := Lib.hid (by have := HVL.out; omega)
                            have RX : Hid (DrIn wr b s { v8 with lines := L7 } vm E (fun s'' => (linesM s.data.toList sizes acc (M - (t + 1)) (ls ++ [(tup, c)]) s'').bind (fun ls => cF4 sizes a (ar, arP) acc (o, oP) (ls, S)))) := Lib.hid (by
                              refine ⟨LG.out.rd.1.trans MT.out.rd.1, ?_⟩
                              rcases MT.out.rd.2 with ⟨st, h1, h2⟩ | h
                              · refine .inl ⟨st, h1, ?_⟩
                                refine h2.trans (if_neg ?_)
                                intro hany
                                obtain ⟨y, hy, hyt⟩ := List.any_eq_true.1 hany
                                obtain ⟨i, hi, hie⟩ := List.mem_iff_getElem.1 hy
                                exact MT.out.no h1.fine i y (by rw [← hie]; exact List.getElem?_eq_getElem hi) (by have := HU9.out; omega) (by simpa using hyt)
                              · exact .inr h)
                            have CX := Lib.hid (show vm.bad = 0 → t + 1 + lenS vm.l ≤ 100000 from fun h => by
                              have h1 := MT.out.cnt h
                              have h2 := CNT.out
                              omega)
                            have cx1 : wr.cell? ⟨X, 1, none⟩ = some (.int .i64 0) := by rw [cell_of_row _ _ _ _ _ _ MT.out.x]; rfl
                            have fx1 : wr.frozen? ⟨X, 1, none⟩ = false := frozen_of_row _ _ _ _ _ MT.out.x
                            have XX := Lib.hid (heap_setCell_same wr X 1 _ _ (.int .i64 c) MT.out.x)
                            have gX := grown_put wr X 1 (.int .i64 c)
                            have GX := Lib.hid (MT.out.gr.fresh gX MT.out.far.1)
                            have OX := Lib.hid (MT.out.own.keepB (w' := wr.setCell ⟨X, 1, none⟩ (.int .i64 c)) (fun g e h5 h6 => gX.block g h5 (fun e2 => by
                              obtain ⟨_, _, cur, h3⟩ := MT.out.own.obj g e
                              injection e2 with e2
                              subst e2
                              rw [MT.out.x] at h3
                              injection h3 with h3
                              injection h3 with _ h4
                              exact absurd h4 (by decide))))
                            have RX2 := Lib.hid (RX.out.typed (t := 134) gX (fun g e => by injection e with e; subst e; exact ⟨_, _, MT.out.x⟩) (by decide) (by decide))
                            clear gX RX
                            go_upto_region 63 with fail
                            clear cx1 fx1 d7 hul hu
                            change Code.wp _ _ _ _ (wr.setCell ⟨X, 1, none⟩ (.int .i64 c))
                            generalize wr.setCell ⟨X, 1, none⟩ (.int .i64 c) = wx at XX GX OX RX2 ⊢
                            have FX := Lib.hid (LG.out.f.gr GX.out)
                            have k3 := FX.out.cells.2.2.2
                            have cx0 : wx.cell? ⟨X, 0, none⟩ = some (.slice At tup.length ct) := by rw [cell_of_row _ _ _ _ _ _ XX.out]; rfl
                            have cx1 : wx.cell? ⟨X, 1, none⟩ = some (.int .i64 c) := by rw [cell_of_row _ _ _ _ _ _ XX.out]; rfl
                            have na := new_val wx (.cells #[.slice At tup.length ct, .int .i64 c] 134)
                            have NA := Lib.hid na
                            have NW := Lib.hid (heap_alloc_new wx (.cells #[.slice At tup.length ct, .int .i64 c] 134))
                            have OLx : Hid (OwnL6 (wx.alloc (.cells #[.slice At tup.length ct, .int .i64 c] 134)) w.heap.size (.slice A3 vs.length c3') vs) := Lib.hid ((LG.out.own.keepB (w' := wx) (fun g e h5 h6 => GX.out.block g h5 (fun e2 => by injection e2 with e2; have := LG.out.f.far; omega))).keepB (fun g _ h _ => na.block g h))
                            have BZ := Lib.hid (show w.heap.size ≤ (wx.alloc (.cells #[.slice At tup.length ct, .int .i64 c] 134)).heap.size from Nat.le_trans FX.out.k.size na.size)
                            have VL9 := Lib.hid (show vs.length ≤ 1000000 by have := HV9.out; omega)
                            have T5 := Lib.hid (show t ≤ 100000 by have := CNT.out; omega)
                            have fxa := (FX.out.below na).frozen 3
                            clear na
                            go_upto_region 47 with (first
                              | (at_builtin; refine pushL6 rfl (.tmp 264) (.tmp 266) rfl (wx.alloc (.cells #[.slice At tup.length ct, .int .i64 c] 134)) w.heap.size wx.heap.size (.slice A3 vs.length c3') vs At tup.length ct c rfl rfl OLx.out NW.out BZ.out VL9.out ?_; intro v30 w30 h1 h2 h3; obtain ⟨A30, n30, c30, rfl⟩ := h1.form3; have fg := (fgl FX.out NA.out OLx.out h2).1; have cg := (fgl FX.out NA.out OLx.out h2).2; have H30 := Lib.hid (And.intro h1 h2); clear h1 h2 h3)
                              | fail)
                            have KG3 := Lib.hid (LG.out.next GX.out OX.out RX2.out CX.out T5.out NA.out OLx.out H30.out.1 H30.out.2)
                            have ht5 : t ≤ 100000 := T5.out
                            have hlt9 : t < M := HLT.out
                            clear fg cg H30 k3 cx0 cx1 fxa FX NW OLx BZ NA RX2 OX GX XX CX
                            change Code.wp _ _ _ _ (w30.setCell ⟨G, 3, none⟩ (.slice A30 n30 c30))
                            generalize w30.setCell ⟨G, 3, none⟩ (.slice A30 n30 c30) = w31 at KG3 ⊢
                            go_wp2_with fail
                            go_roundw
                            case rel => exact ⟨t + 1, ls ++ [(tup, c)], vs ++ [(.slice At tup.length ct, c)], _, vm, by go_num, by omega, KG3.out⟩
                            case measure => simp [intOf]; omega
                            --]
                        --]
                    --]
                  · --[outa
                    have d8 : (v'.bad == 0) = false := by simpa using hb
                    obtain ⟨e8, p8, hb8', hE8⟩ : ∃ e p, DrBad wr b e p v' ∧ E = .bad e p := by
                      rcases LG.out.rd.2 with ⟨st, h1, _⟩ | h
                      · exact absurd h1.fine hb
                      · exact h
                    have F := Lib.hid LG.out.f
                    have T := Lib.hid LG.out.two
                    have LV : Hid (LnV wr A3 ls) := Lib.hid (by
                      obtain ⟨A, c, e, -, h⟩ := LG.out.own.view LG.out.lis
                      injection e with e1
                      subst e1
                      exact h)
                    have K : Hid (LnK7 s b wr ls v' E (cF4 sizes a (ar, arP) acc (o, oP))) := Lib.hid (.inr ⟨e8, p8, hb8', hE8⟩)
                    have NS := Lib.hid (LG.out.rd.1.shared.trans SH8.out)
                    have H3 := Lib.hid (And.intro HVL.out (show ls.length ≤ c3' by have := HVL.out; have := HCV.out; omega))
                    clear LG hb hb8' hE8 c7 fz7
                    have OWc : Hid (OwnFd wr base (.slice Ash us.length csh) us) := Lib.hid (by
                      rw [← SV.out]
                      exact HO.out.keepB (fun g e h5 h6 => F.out.k.block g h5 (fun e => by injection e with e; have := HB.out; omega)))
                    have UL := Lib.hid (show us.length ≤ 1000000 by rw [HU.out.1]; have := HA.out.sfew; have := HK.out.le; have := HK.out.fits; omega)
                    have OWw : Hid (OwnFd w base (.slice Ash us.length csh) us) := Lib.hid (SV.out ▸ HO.out)
                    by_cases hs : ar < 0
                    · have d1 : decide (ar < 0) = true := decide_eq_true hs
                      have HSG := Lib.hid hs
                      have CC := Lib.hid F.out.cells
                      go_upto_region 65 with fail
                      clear hs
                      have Fd := Lib.hid (F.out.below ((Below.refl wr.heap.size wr).drew))
                      have Td := Lib.hid (T.out.below ((Below.refl wr.heap.size wr).drew))
                      have LVd := Lib.hid (LV.out.keep (KeepD.below ((Below.refl wr.heap.size wr).drew)))
                      have Kd := Lib.hid (K.out.keep (W' := wr.drew) rfl (KeepD.below ((Below.refl wr.heap.size wr).drew)))
                      have OWd := Lib.hid (OWc.out.keepB (w' := wr.drew) (fun g _ _ _ => rfl))
                      have CCd : Hid (wr.drew.cell? ⟨G, 0, none⟩ = some (.slice A1 acc.length q1) ∧ wr.drew.cell? ⟨G, 1, none⟩ = some (.slice A2 acc.length q2) ∧ wr.drew.cell? ⟨G, 2, none⟩ = some (.int .i64 o) ∧ wr.drew.cell? ⟨G, 3, none⟩ = some (.slice A3 vs.length c3')) := Lib.hid CC.out
                      refine wp_region_noPanic ?_
                      refine wp_region_held_drew (S := fun W => W.cell? ⟨G, 0, none⟩ = some (.slice A1 acc.length q1) ∧ W.cell? ⟨G, 1, none⟩ = some (.slice A2 acc.length q2) ∧ W.cell? ⟨G, 2, none⟩ = some (.int .i64 o) ∧ W.cell? ⟨G, 3, none⟩ = some (.slice A3 vs.length c3')) (by kernel_rfl) CCd.out (fun hHeld => ?_)
                      generalize wr.drew = wd at hHeld Fd Td LVd Kd OWd CCd ⊢
                      have Ad := Lib.hid Kd.out.at_
                      clear F T LV K OWc CC CCd
                      refine wpAnyH_take (i := 0) (v := ?v601) rfl (by kernel_rfl) (by kernel_rfl) (by kernel_rfl) (fun _ _ _ h => h) (Or.inl ⟨by rfl, ?y601⟩) (by assumption) ?r601
                      case y601 => ((intro w hSw; (try dsimp only at hSw); go_simp); try with_reducible rfl)
                      try simp only [Act.put, List.getElem_toArray, List.getElem_cons_zero, List.setIfInBounds_toArray, List.set_cons_zero, List.set_cons_succ]
                      refine wpAnyH_take (i := 1) (v := ?v602) rfl (by kernel_rfl) (by kernel_rfl) (by kernel_rfl) (fun _ _ _ h => h) (Or.inl ⟨by rfl, ?y602⟩) (by assumption) ?r602
                      case y602 => ((intro w hSw; (try dsimp only at hSw); go_simp); try with_reducible rfl)
                      try simp only [Act.put, List.getElem_toArray, List.getElem_cons_succ, List.getElem_cons_zero, List.setIfInBounds_toArray, List.set_cons_zero, List.set_cons_succ]
                      refine wpAnyH_take (i := 2) (v := ?v603) rfl (by kernel_rfl) (by kernel_rfl) (by kernel_rfl) (fun _ _ _ h => h) (Or.inl ⟨by rfl, ?y603⟩) (by assumption) ?r603
                      case y603 => ((intro w hSw; (try dsimp only at hSw); go_simp); try with_reducible rfl)
                      try simp only [Act.put, List.getElem_toArray, List.getElem_cons_succ, List.getElem_cons_zero, List.setIfInBounds_toArray, List.set_cons_zero, List.set_cons_succ]
                      refine wpAnyH_take (i := 3) (v := ?v604) rfl (by kernel_rfl) (by kernel_rfl) (by kernel_rfl) (fun _ _ _ h => h) (Or.inl ⟨by rfl, ?y604⟩) (by assumption) ?r604
                      case y604 => ((intro w hSw; (try dsimp only at hSw); go_simp); try with_reducible rfl)
                      try simp only [Act.put, List.getElem_toArray, List.getElem_cons_succ, List.getElem_cons_zero, List.setIfInBounds_toArray, List.set_cons_zero, List.set_cons_succ]
                      refine wpAnyH_take (i := 5) (v := ?v605) rfl (by kernel_rfl) (by kernel_rfl) (by kernel_rfl) (fun _ _ _ h => h) (Or.inl ⟨by rfl, ?y605⟩) (by assumption) ?r605
                      case y605 => ((intro w hSw; (try dsimp only at hSw); go_simp); try with_reducible rfl)
                      try simp only [Act.put, List.getElem_toArray, List.getElem_cons_succ, List.getElem_cons_zero, List.setIfInBounds_toArray, List.set_cons_zero, List.set_cons_succ]
                      refine wpAnyH_ready (rs := [4, 6]) (by kernel_rfl) (by simp) ?_
                      refine AllReadyH.cons rfl (fun K hK => ?_) ?_
                      · have ac : wd.cell? ⟨b, 8, none⟩ = some (.slice Ash us.length csh) := by rw [← SV.out, ← NS.out]; exact Ad.out.cell (i := 8) rfl
                        go_simp
                        clear ac
                        refine hK.out _ _ (hHeld) (fun hHeld' => ?_)
                        clear hHeld
                        have hHeld := hHeld'
                        clear hHeld'
                        clear hK K
                        try simp only [Act.put, List.getElem_toArray, List.getElem_cons_succ, List.getElem_cons_zero, List.setIfInBounds_toArray, List.set_cons_zero, List.set_cons_succ]
                        refine wpAnyH_ready (rs := [6]) (by kernel_rfl) (by simp) ?_
                        refine AllReadyH.cons rfl (fun K hK => ?_) ?_
                        · go_simp
                          have na := new_val wd (.cells #[.slice A1 acc.length q1, .slice A2 acc.length q2, .int .i64 o, .slice A3 vs.length c3'] 91)
                          have NA := Lib.hid na
                          have NW := Lib.hid (heap_alloc_new wd (.cells #[.slice A1 acc.length q1, .slice A2 acc.length q2, .int .i64 o, .slice A3 vs.length c3'] 91))
                          have A12 : Hid (DrAt (wd.alloc (.cells #[.slice A1 acc.length q1, .slice A2 acc.length q2, .int .i64 o, .slice A3 vs.length c3'] 91)) b v') := Lib.hid ((na.block b Ad.out.lt).trans Ad.out)
                          refine hK.out _ _ (hold4 hHeld na) (fun hHeld' => ?_)
                          clear hHeld
                          have hHeld := hHeld'
                          clear hHeld'
                          clear na
                          generalize wd.alloc (.cells #[.slice A1 acc.length q1, .slice A2 acc.length q2, .int .i64 o, .slice A3 vs.length c3'] 91) = w12 at hHeld NA NW A12 ⊢
                          have OW : Hid (OwnFd w12 base (.slice Ash us.length csh) us) := Lib.hid (OWd.out.keepB (fun g _ h1 _ => NA.out.block g h1))
                          generalize wd.heap.size = gl at NW ⊢
                          clear hK K
                          try simp only [Act.put, List.getElem_toArray, List.getElem_cons_succ, List.getElem_cons_zero, List.setIfInBounds_toArray, List.set_cons_zero, List.set_cons_succ]
                          refine wpAnyH_ready (rs := [7]) (by kernel_rfl) (by simp) ?_
                          refine AllReadyH.cons rfl (fun K hK => ?_) ?_
                          · refine pushFd_step rfl (.tmp 274) (.tmp 276) rfl w12 base gl (.slice Ash us.length csh) us A1 A2 A3 acc.length acc.length vs.length q1 q2 c3' o rfl (by rfl) OW.out NW.out (by have := NA.out.size; have := Fd.out.k.size; have := HB.out; omega) UL.out ?_
                            intro v14 w13 hOx hgx hat
                            obtain ⟨A14, n14, c14, rfl⟩ : ∃ A n c, v14 = .slice A n c := by obtain ⟨A, c, e, -⟩ := hOx.form; exact ⟨A, _, c, e⟩
                            have OX := Lib.hid hOx
                            have GX := Lib.hid hgx
                            have AT := Lib.hid hat
                            have A13 : Hid (DrAt w13 b v') := Lib.hid ((hgx.block b A12.out.lt (fun e => by obtain ⟨h1, _⟩ := OW.out.obj b e.symm; have := HB.out.1; omega)).trans A12.out)
                            refine hK.out _ _ (hold4_o hHeld hgx (fun e => by obtain ⟨_, h1, _⟩ := OWw.out.obj _ e; have := Fd.out.far; omega)) (fun hHeld' => ?_)
                            clear hHeld
                            have hHeld := hHeld'
                            clear hHeld'
                            clear hOx hgx hat
                            clear hK K
                            try simp only [Act.put, List.getElem_toArray, List.getElem_cons_succ, List.getElem_cons_zero, List.setIfInBounds_toArray, List.set_cons_zero, List.set_cons_succ]
                            refine wpAnyH_take (i := 8) (v := ?v606) rfl (by kernel_rfl) (by kernel_rfl) (by kernel_rfl) (fun _ _ _ h => h) (Or.inl ⟨by rfl, ?y606⟩) (by assumption) ?r606
                            case y606 => ((intro w hSw; (try dsimp only at hSw); go_simp); try with_reducible rfl)
                            try simp only [Act.put, List.getElem_toArray, List.getElem_cons_succ, List.getElem_cons_zero, List.setIfInBounds_toArray, List.set_cons_zero, List.set_cons_succ]
                            refine wpAnyH_take (i := 9) (v := ?v607) rfl (by kernel_rfl) (by kernel_rfl) (by kernel_rfl) (fun _ _ _ h => h) (Or.inl ⟨by rfl, ?y607⟩) (by assumption) ?r607
                            case y607 => ((intro w hSw; (try dsimp only at hSw); go_simp); try with_reducible rfl)
                            try simp only [Act.put, List.getElem_toArray, List.getElem_cons_succ, List.getElem_cons_zero, List.setIfInBounds_toArray, List.set_cons_zero, List.set_cons_succ]
                            refine wpAnyH_ready (rs := [10]) (by kernel_rfl) (by simp) ?_
                            refine AllReadyH.cons rfl (fun K hK => ?_) ?_
                            · have ac : w13.cell? ⟨b, 8, none⟩ = some v'.shared := A13.out.cell (i := 8) rfl
                              have af : w13.frozen? ⟨b, 8, none⟩ = false := A13.out.frozen 8
                              go_simp
                              clear ac af
                              refine hK.out _ _ (hold4_o hHeld (grown_put w13 b 8 _) (fun e => by injection e with e; have := Fd.out.far; omega)) (fun hHeld' => ?_)
                              clear hHeld
                              have hHeld := hHeld'
                              clear hHeld'
                              clear hK K
                              try simp only [Act.put, List.getElem_toArray, List.getElem_cons_succ, List.getElem_cons_zero, List.setIfInBounds_toArray, List.set_cons_zero, List.set_cons_succ]
                              refine wpAnyH_done (by kernel_rfl) ?_ _
                              refine NoPanic.normal ?_
                              obtain ⟨k0, k1, k2, k3⟩ := hHeld
                              have R15 := Lib.hid (fd_row Fd.out OWw.out NA.out GX.out (.slice A14 n14 c14))
                              have r15 := R15.out
                              clear r15
                              go_wp2_with (first
                                | ((with_reducible show wpList _ _ _ (Oper.mk none (.store 91 _ _) _ _ _ _ :: _) _ _); refine wpList_store_row rfl 91 (.tmp 4) (.tmp 280) rfl R #[.slice A1 acc.length q1, .slice A2 acc.length q2, .int .i64 o, .slice A3 vs.length c3'] rfl rfl 91 #[.slice none 0 0, .slice none 0 0, .int .i64 0, .slice none 0 0] R15.out (by kernel_rfl) rfl (by simp [Value.oneCell']) ?_; change (Exit.then _ _) _ _ _; simp only [Exit.then]; apply_assumption; refine wp_ret ?_; exact bodyPost_ret (results_fd rfl _ _ R _ _ _ _ rfl (setRow_heap _ R _ _ _ _ R15.out)) rfl (fun7_neg Fd.out Td.out H3.out.1 H3.out.2 LVd.out NS.out Kd.out HSG.out HK.out.at_ HO.out HU.out HB.out.1 HB.out.2 NA.out (SV.out ▸ OW.out) OX.out (SV.out ▸ GX.out) (SV.out ▸ AT.out) _))
                                | fail)
                            exact AllReadyH.nil
                          exact AllReadyH.nil
                        exact AllReadyH.nil
                      refine AllReadyH.cons rfl (fun K hK => ?_) ?_
                      · go_simp
                        have na := new_val wd (.cells #[.slice A1 acc.length q1, .slice A2 acc.length q2, .int .i64 o, .slice A3 vs.length c3'] 91)
                        have NA := Lib.hid na
                        have NW := Lib.hid (heap_alloc_new wd (.cells #[.slice A1 acc.length q1, .slice A2 acc.length q2, .int .i64 o, .slice A3 vs.length c3'] 91))
                        have A12 : Hid (DrAt (wd.alloc (.cells #[.slice A1 acc.length q1, .slice A2 acc.length q2, .int .i64 o, .slice A3 vs.length c3'] 91)) b v') := Lib.hid ((na.block b Ad.out.lt).trans Ad.out)
                        refine hK.out _ _ (hold4 hHeld na) (fun hHeld' => ?_)
                        clear hHeld
                        have hHeld := hHeld'
                        clear hHeld'
                        clear na
                        generalize wd.alloc (.cells #[.slice A1 acc.length q1, .slice A2 acc.length q2, .int .i64 o, .slice A3 vs.length c3'] 91) = w12 at hHeld NA NW A12 ⊢
                        have OW : Hid (OwnFd w12 base (.slice Ash us.length csh) us) := Lib.hid (OWd.out.keepB (fun g _ h1 _ => NA.out.block g h1))
                        generalize wd.heap.size = gl at NW ⊢
                        clear hK K
                        try simp only [Act.put, List.getElem_toArray, List.getElem_cons_succ, List.getElem_cons_zero, List.setIfInBounds_toArray, List.set_cons_zero, List.set_cons_succ]
                        refine wpAnyH_ready (rs := [4]) (by kernel_rfl) (by simp) ?_
                        refine AllReadyH.cons rfl (fun K hK => ?_) ?_
                        · have ac : w12.cell? ⟨b, 8, none⟩ = some (.slice Ash us.length csh) := by rw [← SV.out, ← NS.out]; exact A12.out.cell (i := 8) rfl
                          go_simp
                          clear ac
                          refine hK.out _ _ (hHeld) (fun hHeld' => ?_)
                          clear hHeld
                          have hHeld := hHeld'
                          clear hHeld'
                          clear hK K
                          try simp only [Act.put, List.getElem_toArray, List.getElem_cons_succ, List.getElem_cons_zero, List.setIfInBounds_toArray, List.set_cons_zero, List.set_cons_succ]
                          refine wpAnyH_ready (rs := [7]) (by kernel_rfl) (by simp) ?_
                          refine AllReadyH.cons rfl (fun K hK => ?_) ?_
                          · refine pushFd_step rfl (.tmp 274) (.tmp 276) rfl w12 base gl (.slice Ash us.length csh) us A1 A2 A3 acc.length acc.length vs.length q1 q2 c3' o rfl (by rfl) OW.out NW.out (by have := NA.out.size; have := Fd.out.k.size; have := HB.out; omega) UL.out ?_
                            intro v14 w13 hOx hgx hat
                            obtain ⟨A14, n14, c14, rfl⟩ : ∃ A n c, v14 = .slice A n c := by obtain ⟨A, c, e, -⟩ := hOx.form; exact ⟨A, _, c, e⟩
                            have OX := Lib.hid hOx
                            have GX := Lib.hid hgx
                            have AT := Lib.hid hat
                            have A13 : Hid (DrAt w13 b v') := Lib.hid ((hgx.block b A12.out.lt (fun e => by obtain ⟨h1, _⟩ := OW.out.obj b e.symm; have := HB.out.1; omega)).trans A12.out)
                            refine hK.out _ _ (hold4_o hHeld hgx (fun e => by obtain ⟨_, h1, _⟩ := OWw.out.obj _ e; have := Fd.out.far; omega)) (fun hHeld' => ?_)
                            clear hHeld
                            have hHeld := hHeld'
                            clear hHeld'
                            clear hOx hgx hat
                            clear hK K
                            try simp only [Act.put, List.getElem_toArray, List.getElem_cons_succ, List.getElem_cons_zero, List.setIfInBounds_toArray, List.set_cons_zero, List.set_cons_succ]
                            refine wpAnyH_take (i := 8) (v := ?v608) rfl (by kernel_rfl) (by kernel_rfl) (by kernel_rfl) (fun _ _ _ h => h) (Or.inl ⟨by rfl, ?y608⟩) (by assumption) ?r608
                            case y608 => ((intro w hSw; (try dsimp only at hSw); go_simp); try with_reducible rfl)
                            try simp only [Act.put, List.getElem_toArray, List.getElem_cons_succ, List.getElem_cons_zero, List.setIfInBounds_toArray, List.set_cons_zero, List.set_cons_succ]
                            refine wpAnyH_take (i := 9) (v := ?v609) rfl (by kernel_rfl) (by kernel_rfl) (by kernel_rfl) (fun _ _ _ h => h) (Or.inl ⟨by rfl, ?y609⟩) (by assumption) ?r609
                            case y609 => ((intro w hSw; (try dsimp only at hSw); go_simp); try with_reducible rfl)
                            try simp only [Act.put, List.getElem_toArray, List.getElem_cons_succ, List.getElem_cons_zero, List.setIfInBounds_toArray, List.set_cons_zero, List.set_cons_succ]
                            refine wpAnyH_ready (rs := [10]) (by kernel_rfl) (by simp) ?_
                            refine AllReadyH.cons rfl (fun K hK => ?_) ?_
                            · have ac : w13.cell? ⟨b, 8, none⟩ = some v'.shared := A13.out.cell (i := 8) rfl
                              have af : w13.frozen? ⟨b, 8, none⟩ = false := A13.out.frozen 8
                              go_simp
                              clear ac af
                              refine hK.out _ _ (hold4_o hHeld (grown_put w13 b 8 _) (fun e => by injection e with e; have := Fd.out.far; omega)) (fun hHeld' => ?_)
                              clear hHeld
                              have hHeld := hHeld'
                              clear hHeld'
                              clear hK K
                              try simp only [Act.put, List.getElem_toArray, List.getElem_cons_succ, List.getElem_cons_zero, List.setIfInBounds_toArray, List.set_cons_zero, List.set_cons_succ]
                              refine wpAnyH_done (by kernel_rfl) ?_ _
                              refine NoPanic.normal ?_
                              obtain ⟨k0, k1, k2, k3⟩ := hHeld
                              have R15 := Lib.hid (fd_row Fd.out OWw.out NA.out GX.out (.slice A14 n14 c14))
                              have r15 := R15.out
                              clear r15
                              go_wp2_with (first
                                | ((with_reducible show wpList _ _ _ (Oper.mk none (.store 91 _ _) _ _ _ _ :: _) _ _); refine wpList_store_row rfl 91 (.tmp 4) (.tmp 280) rfl R #[.slice A1 acc.length q1, .slice A2 acc.length q2, .int .i64 o, .slice A3 vs.length c3'] rfl rfl 91 #[.slice none 0 0, .slice none 0 0, .int .i64 0, .slice none 0 0] R15.out (by kernel_rfl) rfl (by simp [Value.oneCell']) ?_; change (Exit.then _ _) _ _ _; simp only [Exit.then]; apply_assumption; refine wp_ret ?_; exact bodyPost_ret (results_fd rfl _ _ R _ _ _ _ rfl (setRow_heap _ R _ _ _ _ R15.out)) rfl (fun7_neg Fd.out Td.out H3.out.1 H3.out.2 LVd.out NS.out Kd.out HSG.out HK.out.at_ HO.out HU.out HB.out.1 HB.out.2 NA.out (SV.out ▸ OW.out) OX.out (SV.out ▸ GX.out) (SV.out ▸ AT.out) _))
                                | fail)
                            exact AllReadyH.nil
                          exact AllReadyH.nil
                        exact AllReadyH.nil
                      exact AllReadyH.nil
                    · have d1 : decide (ar < 0) = false := decide_eq_false hs
                      have HSN := Lib.hid hs
                      obtain ⟨k0, k1, k2, k3⟩ := F.out.cells
                      go_wp2_with (first
                        | ((with_reducible show wpList _ _ _ (Oper.mk none (.store 91 _ _) _ _ _ _ :: _) _ _); refine wpList_store_row rfl 91 (.tmp 4) (.tmp 280) rfl R #[.slice A1 acc.length q1, .slice A2 acc.length q2, .int .i64 o, .slice A3 vs.length c3'] rfl rfl 91 #[.slice none 0 0, .slice none 0 0, .int .i64 0, .slice none 0 0] F.out.r (by kernel_rfl) rfl (by simp [Value.oneCell']) ?_; change (Exit.then _ _) _ _ _; simp only [Exit.then]; apply_assumption; refine wp_ret ?_; exact bodyPost_ret (results_fd rfl _ _ R _ _ _ _ rfl (setRow_heap _ R _ _ _ _ F.out.r)) rfl (fun7_pos F.out T.out H3.out.1 H3.out.2 LV.out NS.out K.out HSN.out HK.out.at_ HO.out HU.out HB.out.1 HB.out.2 _))
                        | fail)
                    --]
                · --[outb
                  have d5 : decide ((t : Int) < (M : Int)) = false := decide_eq_false (by omega)
                  have HTE : Hid (t = M) := Lib.hid (by have := HTM.out; omega)
                  have F := Lib.hid LG.out.f
                  have T := Lib.hid LG.out.two
                  have LV : Hid (LnV wr A3 ls) := Lib.hid (by
                    obtain ⟨A, c, e, -, h⟩ := LG.out.own.view LG.out.lis
                    injection e with e1
                    subst e1
                    exact h)
                  have K : Hid (LnK7 s b wr ls v' E (cF4 sizes a (ar, arP) acc (o, oP))) := Lib.hid (by
                    rcases LG.out.rd.2 with ⟨st, h1, h2⟩ | h
                    · refine .inl ⟨S, st, h1, ?_, ?_⟩
                      · rw [LG.out.rd.1.lines]
                        show L7 = S
                        have h3 := LG.out.cnt h1.fine
                        have h4 := TL.out
                        have h5 := HSE.out
                        have h6 := HTE.out
                        rw [← HL7.out, if_neg]
                        omega
                      · rw [h2, HTE.out, Nat.sub_self]
                        rfl
                    · exact .inr h)
                  have NS := Lib.hid (LG.out.rd.1.shared.trans SH8.out)
                  have H3 := Lib.hid (And.intro HVL.out (show ls.length ≤ c3' by have := HVL.out; have := HCV.out; omega))
                  clear LG c7 fz7
                  have OWc : Hid (OwnFd wr base (.slice Ash us.length csh) us) := Lib.hid (by
                    rw [← SV.out]
                    exact HO.out.keepB (fun g e h5 h6 => F.out.k.block g h5 (fun e => by injection e with e; have := HB.out; omega)))
                  have UL := Lib.hid (show us.length ≤ 1000000 by rw [HU.out.1]; have := HA.out.sfew; have := HK.out.le; have := HK.out.fits; omega)
                  have OWw : Hid (OwnFd w base (.slice Ash us.length csh) us) := Lib.hid (SV.out ▸ HO.out)
                  by_cases hs : ar < 0
                  · have d1 : decide (ar < 0) = true := decide_eq_true hs
                    have HSG := Lib.hid hs
                    have CC := Lib.hid F.out.cells
                    go_upto_region 65 with fail
                    clear hs
                    have Fd := Lib.hid (F.out.below ((Below.refl wr.heap.size wr).drew))
                    have Td := Lib.hid (T.out.below ((Below.refl wr.heap.size wr).drew))
                    have LVd := Lib.hid (LV.out.keep (KeepD.below ((Below.refl wr.heap.size wr).drew)))
                    have Kd := Lib.hid (K.out.keep (W' := wr.drew) rfl (KeepD.below ((Below.refl wr.heap.size wr).drew)))
                    have OWd := Lib.hid (OWc.out.keepB (w' := wr.drew) (fun g _ _ _ => rfl))
                    have CCd : Hid (wr.drew.cell? ⟨G, 0, none⟩ = some (.slice A1 acc.length q1) ∧ wr.drew.cell? ⟨G, 1, none⟩ = some (.slice A2 acc.length q2) ∧ wr.drew.cell? ⟨G, 2, none⟩ = some (.int .i64 o) ∧ wr.drew.cell? ⟨G, 3, none⟩ = some (.slice A3 vs.length c3')) := Lib.hid CC.out
                    refine wp_region_noPanic ?_
                    refine wp_region_held_drew (S := fun W => W.cell? ⟨G, 0, none⟩ = some (.slice A1 acc.length q1) ∧ W.cell? ⟨G, 1, none⟩ = some (.slice A2 acc.length q2) ∧ W.cell? ⟨G, 2, none⟩ = some (.int .i64 o) ∧ W.cell? ⟨G, 3, none⟩ = some (.slice A3 vs.length c3')) (by kernel_rfl) CCd.out (fun hHeld => ?_)
                    generalize wr.drew = wd at hHeld Fd Td LVd Kd OWd CCd ⊢
                    have Ad := Lib.hid Kd.out.at_
                    clear F T LV K OWc CC CCd
                    refine wpAnyH_take (i := 0) (v := ?v701) rfl (by kernel_rfl) (by kernel_rfl) (by kernel_rfl) (fun _ _ _ h => h) (Or.inl ⟨by rfl, ?y701⟩) (by assumption) ?r701
                    case y701 => ((intro w hSw; (try dsimp only at hSw); go_simp); try with_reducible rfl)
                    try simp only [Act.put, List.getElem_toArray, List.getElem_cons_zero, List.setIfInBounds_toArray, List.set_cons_zero, List.set_cons_succ]
                    refine wpAnyH_take (i := 1) (v := ?v702) rfl (by kernel_rfl) (by kernel_rfl) (by kernel_rfl) (fun _ _ _ h => h) (Or.inl ⟨by rfl, ?y702⟩) (by assumption) ?r702
                    case y702 => ((intro w hSw; (try dsimp only at hSw); go_simp); try with_reducible rfl)
                    try simp only [Act.put, List.getElem_toArray, List.getElem_cons_succ, List.getElem_cons_zero, List.setIfInBounds_toArray, List.set_cons_zero, List.set_cons_succ]
                    refine wpAnyH_take (i := 2) (v := ?v703) rfl (by kernel_rfl) (by kernel_rfl) (by kernel_rfl) (fun _ _ _ h => h) (Or.inl ⟨by rfl, ?y703⟩) (by assumption) ?r703
                    case y703 => ((intro w hSw; (try dsimp only at hSw); go_simp); try with_reducible rfl)
                    try simp only [Act.put, List.getElem_toArray, List.getElem_cons_succ, List.getElem_cons_zero, List.setIfInBounds_toArray, List.set_cons_zero, List.set_cons_succ]
                    refine wpAnyH_take (i := 3) (v := ?v704) rfl (by kernel_rfl) (by kernel_rfl) (by kernel_rfl) (fun _ _ _ h => h) (Or.inl ⟨by rfl, ?y704⟩) (by assumption) ?r704
                    case y704 => ((intro w hSw; (try dsimp only at hSw); go_simp); try with_reducible rfl)
                    try simp only [Act.put, List.getElem_toArray, List.getElem_cons_succ, List.getElem_cons_zero, List.setIfInBounds_toArray, List.set_cons_zero, List.set_cons_succ]
                    refine wpAnyH_take (i := 5) (v := ?v705) rfl (by kernel_rfl) (by kernel_rfl) (by kernel_rfl) (fun _ _ _ h => h) (Or.inl ⟨by rfl, ?y705⟩) (by assumption) ?r705
                    case y705 => ((intro w hSw; (try dsimp only at hSw); go_simp); try with_reducible rfl)
                    try simp only [Act.put, List.getElem_toArray, List.getElem_cons_succ, List.getElem_cons_zero, List.setIfInBounds_toArray, List.set_cons_zero, List.set_cons_succ]
                    refine wpAnyH_ready (rs := [4, 6]) (by kernel_rfl) (by simp) ?_
                    refine AllReadyH.cons rfl (fun K hK => ?_) ?_
                    · have ac : wd.cell? ⟨b, 8, none⟩ = some (.slice Ash us.length csh) := by rw [← SV.out, ← NS.out]; exact Ad.out.cell (i := 8) rfl
                      go_simp
                      clear ac
                      refine hK.out _ _ (hHeld) (fun hHeld' => ?_)
                      clear hHeld
                      have hHeld := hHeld'
                      clear hHeld'
                      clear hK K
                      try simp only [Act.put, List.getElem_toArray, List.getElem_cons_succ, List.getElem_cons_zero, List.setIfInBounds_toArray, List.set_cons_zero, List.set_cons_succ]
                      refine wpAnyH_ready (rs := [6]) (by kernel_rfl) (by simp) ?_
                      refine AllReadyH.cons rfl (fun K hK => ?_) ?_
                      · go_simp
                        have na := new_val wd (.cells #[.slice A1 acc.length q1, .slice A2 acc.length q2, .int .i64 o, .slice A3 vs.length c3'] 91)
                        have NA := Lib.hid na
                        have NW := Lib.hid (heap_alloc_new wd (.cells #[.slice A1 acc.length q1, .slice A2 acc.length q2, .int .i64 o, .slice A3 vs.length c3'] 91))
                        have A12 : Hid (DrAt (wd.alloc (.cells #[.slice A1 acc.length q1, .slice A2 acc.length q2, .int .i64 o, .slice A3 vs.length c3'] 91)) b v') := Lib.hid ((na.block b Ad.out.lt).trans Ad.out)
                        refine hK.out _ _ (hold4 hHeld na) (fun hHeld' => ?_)
                        clear hHeld
                        have hHeld := hHeld'
                        clear hHeld'
                        clear na
                        generalize wd.alloc (.cells #[.slice A1 acc.length q1, .slice A2 acc.length q2, .int .i64 o, .slice A3 vs.length c3'] 91) = w12 at hHeld NA NW A12 ⊢
                        have OW : Hid (OwnFd w12 base (.slice Ash us.length csh) us) := Lib.hid (OWd.out.keepB (fun g _ h1 _ => NA.out.block g h1))
                        generalize wd.heap.size = gl at NW ⊢
                        clear hK K
                        try simp only [Act.put, List.getElem_toArray, List.getElem_cons_succ, List.getElem_cons_zero, List.setIfInBounds_toArray, List.set_cons_zero, List.set_cons_succ]
                        refine wpAnyH_ready (rs := [7]) (by kernel_rfl) (by simp) ?_
                        refine AllReadyH.cons rfl (fun K hK => ?_) ?_
                        · refine pushFd_step rfl (.tmp 274) (.tmp 276) rfl w12 base gl (.slice Ash us.length csh) us A1 A2 A3 acc.length acc.length vs.length q1 q2 c3' o rfl (by rfl) OW.out NW.out (by have := NA.out.size; have := Fd.out.k.size; have := HB.out; omega) UL.out ?_
                          intro v14 w13 hOx hgx hat
                          obtain ⟨A14, n14, c14, rfl⟩ : ∃ A n c, v14 = .slice A n c := by obtain ⟨A, c, e, -⟩ := hOx.form; exact ⟨A, _, c, e⟩
                          have OX := Lib.hid hOx
                          have GX := Lib.hid hgx
                          have AT := Lib.hid hat
                          have A13 : Hid (DrAt w13 b v') := Lib.hid ((hgx.block b A12.out.lt (fun e => by obtain ⟨h1, _⟩ := OW.out.obj b e.symm; have := HB.out.1; omega)).trans A12.out)
                          refine hK.out _ _ (hold4_o hHeld hgx (fun e => by obtain ⟨_, h1, _⟩ := OWw.out.obj _ e; have := Fd.out.far; omega)) (fun hHeld' => ?_)
                          clear hHeld
                          have hHeld := hHeld'
                          clear hHeld'
                          clear hOx hgx hat
                          clear hK K
                          try simp only [Act.put, List.getElem_toArray, List.getElem_cons_succ, List.getElem_cons_zero, List.setIfInBounds_toArray, List.set_cons_zero, List.set_cons_succ]
                          refine wpAnyH_take (i := 8) (v := ?v706) rfl (by kernel_rfl) (by kernel_rfl) (by kernel_rfl) (fun _ _ _ h => h) (Or.inl ⟨by rfl, ?y706⟩) (by assumption) ?r706
                          case y706 => ((intro w hSw; (try dsimp only at hSw); go_simp); try with_reducible rfl)
                          try simp only [Act.put, List.getElem_toArray, List.getElem_cons_succ, List.getElem_cons_zero, List.setIfInBounds_toArray, List.set_cons_zero, List.set_cons_succ]
                          refine wpAnyH_take (i := 9) (v := ?v707) rfl (by kernel_rfl) (by kernel_rfl) (by kernel_rfl) (fun _ _ _ h => h) (Or.inl ⟨by rfl, ?y707⟩) (by assumption) ?r707
                          case y707 => ((intro w hSw; (try dsimp only at hSw); go_simp); try with_reducible rfl)
                          try simp only [Act.put, List.getElem_toArray, List.getElem_cons_succ, List.getElem_cons_zero, List.setIfInBounds_toArray, List.set_cons_zero, List.set_cons_succ]
                          refine wpAnyH_ready (rs := [10]) (by kernel_rfl) (by simp) ?_
                          refine AllReadyH.cons rfl (fun K hK => ?_) ?_
                          · have ac : w13.cell? ⟨b, 8, none⟩ = some v'.shared := A13.out.cell (i := 8) rfl
                            have af : w13.frozen? ⟨b, 8, none⟩ = false := A13.out.frozen 8
                            go_simp
                            clear ac af
                            refine hK.out _ _ (hold4_o hHeld (grown_put w13 b 8 _) (fun e => by injection e with e; have := Fd.out.far; omega)) (fun hHeld' => ?_)
                            clear hHeld
                            have hHeld := hHeld'
                            clear hHeld'
                            clear hK K
                            try simp only [Act.put, List.getElem_toArray, List.getElem_cons_succ, List.getElem_cons_zero, List.setIfInBounds_toArray, List.set_cons_zero, List.set_cons_succ]
                            refine wpAnyH_done (by kernel_rfl) ?_ _
                            refine NoPanic.normal ?_
                            obtain ⟨k0, k1, k2, k3⟩ := hHeld
                            have R15 := Lib.hid (fd_row Fd.out OWw.out NA.out GX.out (.slice A14 n14 c14))
                            have r15 := R15.out
                            clear r15
                            go_wp2_with (first
                              | ((with_reducible show wpList _ _ _ (Oper.mk none (.store 91 _ _) _ _ _ _ :: _) _ _); refine wpList_store_row rfl 91 (.tmp 4) (.tmp 280) rfl R #[.slice A1 acc.length q1, .slice A2 acc.length q2, .int .i64 o, .slice A3 vs.length c3'] rfl rfl 91 #[.slice none 0 0, .slice none 0 0, .int .i64 0, .slice none 0 0] R15.out (by kernel_rfl) rfl (by simp [Value.oneCell']) ?_; change (Exit.then _ _) _ _ _; simp only [Exit.then]; apply_assumption; refine wp_ret ?_; exact bodyPost_ret (results_fd rfl _ _ R _ _ _ _ rfl (setRow_heap _ R _ _ _ _ R15.out)) rfl (fun7_neg Fd.out Td.out H3.out.1 H3.out.2 LVd.out NS.out Kd.out HSG.out HK.out.at_ HO.out HU.out HB.out.1 HB.out.2 NA.out (SV.out ▸ OW.out) OX.out (SV.out ▸ GX.out) (SV.out ▸ AT.out) _))
                              | fail)
                          exact AllReadyH.nil
                        exact AllReadyH.nil
                      exact AllReadyH.nil
                    refine AllReadyH.cons rfl (fun K hK => ?_) ?_
                    · go_simp
                      have na := new_val wd (.cells #[.slice A1 acc.length q1, .slice A2 acc.length q2, .int .i64 o, .slice A3 vs.length c3'] 91)
                      have NA := Lib.hid na
                      have NW := Lib.hid (heap_alloc_new wd (.cells #[.slice A1 acc.length q1, .slice A2 acc.length q2, .int .i64 o, .slice A3 vs.length c3'] 91))
                      have A12 : Hid (DrAt (wd.alloc (.cells #[.slice A1 acc.length q1, .slice A2 acc.length q2, .int .i64 o, .slice A3 vs.length c3'] 91)) b v') := Lib.hid ((na.block b Ad.out.lt).trans Ad.out)
                      refine hK.out _ _ (hold4 hHeld na) (fun hHeld' => ?_)
                      clear hHeld
                      have hHeld := hHeld'
                      clear hHeld'
                      clear na
                      generalize wd.alloc (.cells #[.slice A1 acc.length q1, .slice A2 acc.length q2, .int .i64 o, .slice A3 vs.length c3'] 91) = w12 at hHeld NA NW A12 ⊢
                      have OW : Hid (OwnFd w12 base (.slice Ash us.length csh) us) := Lib.hid (OWd.out.keepB (fun g _ h1 _ => NA.out.block g h1))
                      generalize wd.heap.size = gl at NW ⊢
                      clear hK K
                      try simp only [Act.put, List.getElem_toArray, List.getElem_cons_succ, List.getElem_cons_zero, List.setIfInBounds_toArray, List.set_cons_zero, List.set_cons_succ]
                      refine wpAnyH_ready (rs := [4]) (by kernel_rfl) (by simp) ?_
                      refine AllReadyH.cons rfl (fun K hK => ?_) ?_
                      · have ac : w12.cell? ⟨b, 8, none⟩ = some (.slice Ash us.length csh) := by rw [← SV.out, ← NS.out]; exact A12.out.cell (i := 8) rfl
                        go_simp
                        clear ac
                        refine hK.out _ _ (hHeld) (fun hHeld' => ?_)
                        clear hHeld
                        have hHeld := hHeld'
                        clear hHeld'
                        clear hK K
                        try simp only [Act.put, List.getElem_toArray, List.getElem_cons_succ, List.getElem_cons_zero, List.setIfInBounds_toArray, List.set_cons_zero, List.set_cons_succ]
                        refine wpAnyH_ready (rs := [7]) (by kernel_rfl) (by simp) ?_
                        refine AllReadyH.cons rfl (fun K hK => ?_) ?_
                        · refine pushFd_step rfl (.tmp 274) (.tmp 276) rfl w12 base gl (.slice Ash us.length csh) us A1 A2 A3 acc.length acc.length vs.length q1 q2 c3' o rfl (by rfl) OW.out NW.out (by have := NA.out.size; have := Fd.out.k.size; have := HB.out; omega) UL.out ?_
                          intro v14 w13 hOx hgx hat
                          obtain ⟨A14, n14, c14, rfl⟩ : ∃ A n c, v14 = .slice A n c := by obtain ⟨A, c, e, -⟩ := hOx.form; exact ⟨A, _, c, e⟩
                          have OX := Lib.hid hOx
                          have GX := Lib.hid hgx
                          have AT := Lib.hid hat
                          have A13 : Hid (DrAt w13 b v') := Lib.hid ((hgx.block b A12.out.lt (fun e => by obtain ⟨h1, _⟩ := OW.out.obj b e.symm; have := HB.out.1; omega)).trans A12.out)
                          refine hK.out _ _ (hold4_o hHeld hgx (fun e => by obtain ⟨_, h1, _⟩ := OWw.out.obj _ e; have := Fd.out.far; omega)) (fun hHeld' => ?_)
                          clear hHeld
                          have hHeld := hHeld'
                          clear hHeld'
                          clear hOx hgx hat
                          clear hK K
                          try simp only [Act.put, List.getElem_toArray, List.getElem_cons_succ, List.getElem_cons_zero, List.setIfInBounds_toArray, List.set_cons_zero, List.set_cons_succ]
                          refine wpAnyH_take (i := 8) (v := ?v708) rfl (by kernel_rfl) (by kernel_rfl) (by kernel_rfl) (fun _ _ _ h => h) (Or.inl ⟨by rfl, ?y708⟩) (by assumption) ?r708
                          case y708 => ((intro w hSw; (try dsimp only at hSw); go_simp); try with_reducible rfl)
                          try simp only [Act.put, List.getElem_toArray, List.getElem_cons_succ, List.getElem_cons_zero, List.setIfInBounds_toArray, List.set_cons_zero, List.set_cons_succ]
                          refine wpAnyH_take (i := 9) (v := ?v709) rfl (by kernel_rfl) (by kernel_rfl) (by kernel_rfl) (fun _ _ _ h => h) (Or.inl ⟨by rfl, ?y709⟩) (by assumption) ?r709
                          case y709 => ((intro w hSw; (try dsimp only at hSw); go_simp); try with_reducible rfl)
                          try simp only [Act.put, List.getElem_toArray, List.getElem_cons_succ, List.getElem_cons_zero, List.setIfInBounds_toArray, List.set_cons_zero, List.set_cons_succ]
                          refine wpAnyH_ready (rs := [10]) (by kernel_rfl) (by simp) ?_
                          refine AllReadyH.cons rfl (fun K hK => ?_) ?_
                          · have ac : w13.cell? ⟨b, 8, none⟩ = some v'.shared := A13.out.cell (i := 8) rfl
                            have af : w13.frozen? ⟨b, 8, none⟩ = false := A13.out.frozen 8
                            go_simp
                            clear ac af
                            refine hK.out _ _ (hold4_o hHeld (grown_put w13 b 8 _) (fun e => by injection e with e; have := Fd.out.far; omega)) (fun hHeld' => ?_)
                            clear hHeld
                            have hHeld := hHeld'
                            clear hHeld'
                            clear hK K
                            try simp only [Act.put, List.getElem_toArray, List.getElem_cons_succ, List.getElem_cons_zero, List.setIfInBounds_toArray, List.set_cons_zero, List.set_cons_succ]
                            refine wpAnyH_done (by kernel_rfl) ?_ _
                            refine NoPanic.normal ?_
                            obtain ⟨k0, k1, k2, k3⟩ := hHeld
                            have R15 := Lib.hid (fd_row Fd.out OWw.out NA.out GX.out (.slice A14 n14 c14))
                            have r15 := R15.out
                            clear r15
                            go_wp2_with (first
                              | ((with_reducible show wpList _ _ _ (Oper.mk none (.store 91 _ _) _ _ _ _ :: _) _ _); refine wpList_store_row rfl 91 (.tmp 4) (.tmp 280) rfl R #[.slice A1 acc.length q1, .slice A2 acc.length q2, .int .i64 o, .slice A3 vs.length c3'] rfl rfl 91 #[.slice none 0 0, .slice none 0 0, .int .i64 0, .slice none 0 0] R15.out (by kernel_rfl) rfl (by simp [Value.oneCell']) ?_; change (Exit.then _ _) _ _ _; simp only [Exit.then]; apply_assumption; refine wp_ret ?_; exact bodyPost_ret (results_fd rfl _ _ R _ _ _ _ rfl (setRow_heap _ R _ _ _ _ R15.out)) rfl (fun7_neg Fd.out Td.out H3.out.1 H3.out.2 LVd.out NS.out Kd.out HSG.out HK.out.at_ HO.out HU.out HB.out.1 HB.out.2 NA.out (SV.out ▸ OW.out) OX.out (SV.out ▸ GX.out) (SV.out ▸ AT.out) _))
                              | fail)
                          exact AllReadyH.nil
                        exact AllReadyH.nil
                      exact AllReadyH.nil
                    exact AllReadyH.nil
                  · have d1 : decide (ar < 0) = false := decide_eq_false hs
                    have HSN := Lib.hid hs
                    obtain ⟨k0, k1, k2, k3⟩ := F.out.cells
                    go_wp2_with (first
                      | ((with_reducible show wpList _ _ _ (Oper.mk none (.store 91 _ _) _ _ _ _ :: _) _ _); refine wpList_store_row rfl 91 (.tmp 4) (.tmp 280) rfl R #[.slice A1 acc.length q1, .slice A2 acc.length q2, .int .i64 o, .slice A3 vs.length c3'] rfl rfl 91 #[.slice none 0 0, .slice none 0 0, .int .i64 0, .slice none 0 0] F.out.r (by kernel_rfl) rfl (by simp [Value.oneCell']) ?_; change (Exit.then _ _) _ _ _; simp only [Exit.then]; apply_assumption; refine wp_ret ?_; exact bodyPost_ret (results_fd rfl _ _ R _ _ _ _ rfl (setRow_heap _ R _ _ _ _ F.out.r)) rfl (fun7_pos F.out T.out H3.out.1 H3.out.2 LV.out NS.out K.out HSN.out HK.out.at_ HO.out HU.out HB.out.1 HB.out.2 _))
                      | fail)
                  --]
              --]
          · --[bad8
            have d3 : (v8.bad != 0) = true := by simpa using hb8
            obtain ⟨e8, p8, hb8', hE8⟩ : ∃ e p, DrBad w8 b e p v8 ∧ E = .bad e p := by
              rcases I8.out.2 with ⟨st, h1, _⟩ | h
              · exact absurd h1.fine hb8
              · exact h
            have HB8 := Lib.hid hb8'
            have HE8 := Lib.hid hE8
            rw [HPL.out] at k1
            clear hb8 hb8' hE8
            go_wp2_with (first
              | ((with_reducible show wpList _ _ _ (Oper.mk none (.store 91 _ _) _ _ _ _ :: _) _ _); refine wpList_store_row rfl 91 (.tmp 4) (.tmp 134) rfl R #[.slice A1 acc.length q1, .slice A2 acc.length q2, .int .i64 o, .slice none 0 0] rfl rfl 91 #[.slice none 0 0, .slice none 0 0, .int .i64 0, .slice none 0 0] R8.out (by kernel_rfl) rfl (by simp [Value.oneCell']) ?_)
              | fail)
            exact bodyPost_ret (results_fd rfl _ _ R _ _ _ _ rfl (setRow_heap _ R _ _ _ _ R8.out)) rfl (fun7_bad R8.out (FrD.of F8.out.k) ⟨F8.out.far.1, by have := F8.out.far; omega⟩ I8.out.1 HB8.out HE8.out _)
            --]
end Go.Proofs.YteocbgcgfllieaaGreatDoor
