/- The walk of TableTurns (no statement of its own). Condition: the library's table reads as its initialiser lays it. -/
import Derived.Test.YtamodeglpkgiaaaDoorTwS
import Derived.Test.YtamodeglpkgiaaaDoorTt6
import Derived.Test.YtamodeglpkgiaaaDoorTt8
namespace Go.Proofs.YtamodeglpkgiaaaDoor
open Go.RowKit
set_option linter.unusedVariables false
open Dm (Mem mem setV setO Tab)
attribute [local go_sem ↓] run_mn2
theorem ordB_less {o : Nat → Int} {N i j : Nat} (h : OrdB o N j) (hi : i ≤ j) : OrdB o N i := fun k hk => h k (by omega)
theorem ordB_bad {o : Nat → Int} {N : Nat} : ∀ {j : Nat}, ¬ OrdB o N j → ∃ b, b < j ∧ OrdB o N b ∧ (o b < 0 ∨ (N : Int) ≤ o b ∨ ∃ i, i < b ∧ o i = o b)
  | 0, h => absurd (fun i hi => by omega) h
  | j + 1, h => by
    by_cases h1 : OrdB o N j
    · refine ⟨j, by omega, h1, ?_⟩
      by_cases c1 : o j < 0
      · exact .inl c1
      · by_cases c2 : (N : Int) ≤ o j
        · exact .inr (.inl c2)
        · refine .inr (.inr ?_)
          by_cases c3 : ∃ i, i < j ∧ o i = o j
          · exact c3
          · refine absurd (fun k hk => ?_) h
            by_cases e : k = j
            · subst e
              exact ⟨by omega, by omega, fun i hi he => c3 ⟨i, hi, he⟩⟩
            · exact h1 k (by omega)
    · obtain ⟨b, hb, h2⟩ := ordB_bad h1
      exact ⟨b, by omega, h2⟩
theorem ordB_snoc {o : Nat → Int} {N j : Nat} (h : OrdB o N j) (h0 : 0 ≤ o j) (h1 : o j < (N : Int)) (h2 : ∀ i, i < j → o i ≠ o j) : OrdB o N (j + 1) := fun k hk => by
  by_cases e : k = j
  · subst e; exact ⟨h0, h1, h2⟩
  · exact h k (by omega)
/-- What back holds behind j rounds. -/
def bckV (o : Nat → Int) (j v : Nat) : Value := .int .i64 (if invF o j v < 0 then 0 else invF o j v)
theorem bck_step {o : Nat → Int} {j v i : Nat} (h : o j = (v : Int)) : (if i = v then Value.int .i64 (j : Int) else bckV o j i) = bckV o (j + 1) i := by
  unfold bckV
  have e : invF o (j + 1) i = if o j = (i : Int) then (j : Int) else invF o j i := rfl
  rw [e]
  by_cases hi : i = v
  · subst hi
    rw [if_pos rfl, if_pos h, if_neg (by omega)]
  · rw [if_neg hi, show (if o j = (i : Int) then (j : Int) else invF o j i) = invF o j i from if_neg (by rw [h]; omega)]
theorem zs_perm {w : World} {A : Option Addr} {n : Nat} {o : Nat → Int} (h : Zs w A n o) (hG : OrdB o n n) : Ints w A ((List.range n).map fun i => (o i).toNat) := by
  rcases h with h0 | ⟨g, a, e, hlt, hc⟩
  · exact .inl (by rw [h0]; rfl)
  · refine .inr ⟨g, a, e, hlt, fun i hi => ?_⟩
    have hi' : i < n := by simpa using hi
    rw [hc i hi', nth_range hi']
    have := hG i hi'
    rw [Int.toNat_of_nonneg (by omega)]
theorem row_back {w : World} {h n : Nat} {o : Nat → Int} (H : w.rowIs h 3 n (bckV o n)) (hn : n ≤ 3) (hG : OrdB o n n) : Ints w (some ⟨h, 0, none⟩) ((List.range n).map fun v => (invF o n v).toNat) := by
  refine rowIs_ints H (by simp) fun v hv => ?_
  obtain ⟨i, hi, he⟩ := ordB_all hn hG hv
  have hp := invF_pos (j := n) hi he
  rw [nth_range (f := fun v => (invF o n v).toNat) hv]
  unfold bckV
  rw [if_neg (by omega), Int.toNat_of_nonneg hp]
/-- Between two places of the order. -/
structure TnL (w4 : World) (o : Nat → Int) (mo nl j : Nat) (t : Bool) (W : World) : Prop where
  ok : t = true ↔ mo = nl ∧ OrdB o mo j
  bel : Below w4.heap.size w4 W
  row : t = true → W.rowIs w4.heap.size 3 mo (bckV o j)
theorem TnL.no {w4 : World} {o : Nat → Int} {mo nl j : Nat} {t : Bool} {W W' : World} (H : TnL w4 o mo nl j t W) (hb : Below w4.heap.size w4 W') (h : ¬ (mo = nl ∧ OrdB o mo (j + 1))) : TnL w4 o mo nl (j + 1) false W' :=
  ⟨⟨(fun e => by cases e), (fun e => absurd e h)⟩, hb, (fun e => by cases e)⟩
theorem TnL.yes {w4 : World} {o : Nat → Int} {mo nl j v : Nat} {W : World} (H : TnL w4 o mo nl j true W) (hv : o j = (v : Int)) (hvn : v < mo) (hd : ∀ i, i < j → o i ≠ o j) : TnL w4 o mo nl (j + 1) true (W.setCell ⟨w4.heap.size, v, none⟩ (.int .i64 (j : Int))) := by
  have h := H.ok.1 rfl
  refine ⟨⟨fun _ => ⟨h.1, ordB_snoc h.2 (by omega) (by omega) hd⟩, fun _ => rfl⟩, H.bel.setCell (p := ⟨w4.heap.size, v, none⟩) (Nat.le_refl _) _, fun _ => ((H.row rfl).set v (.int .i64 (j : Int))).congr fun i hi => ?_⟩
  exact bck_step hv
set_option maxRecDepth 100000 in
set_option maxHeartbeats 16000000 in
theorem turns_walk (A L : Option Addr) (n c m mc : Nat) (z y : Nat → Int) (a : Int) (A' : Option Addr) (no co mo : Nat) (o : Nat → Int) (w : World) (hT : Tab w) (hn : (n : Int) ≤ 9223372036854775807) (hz : Bytes w A n z) (ha0 : 0 ≤ a) (ha1 : a ≤ 65535) (hm : (m : Int) ≤ 9223372036854775807) (hL : Words w L m y)
    (hO : Ext w A' no o) (hmo : mo ≤ no) (hmo5 : mo ≤ 5) (hmn : mn2 no 5 = mo) (hco : no ≤ co) :
    Calls Tryd.prog 4 #[.slice A n c, .int .u16 a, .slice L m mc, .slice A' no co] w fun e w' => e = .returned (.bool true) ∧ Below w.heap.size w w' := by
  have HTab := Lib.hid hT
  have HZ := Lib.hid hz
  have HL := Lib.hid hL
  have HO := Lib.hid (hO.less hmo)
  have hmi : (mo : Int) ≤ (co : Int) := by omega
  have hm0 : 0 ≤ (mo : Int) := by omega
  clear hT hz hL hO
  go_enter Tryd.func4, Tryd.ntmps4
  go_wp2_with fail
  refine (awake4_true w HTab.out).mono ?_
  rintro e w1 ⟨rfl, b1⟩
  have B1 := Lib.hid b1
  clear b1
  go_wp2_with fail
  refine (top_any a w1 ha0 ha1).mono ?_
  rintro e w' ⟨rfl, rfl⟩
  obtain ⟨k, hk⟩ : ∃ k, 1 + a % 200 = k := ⟨_, rfl⟩
  have hk1 : 1 ≤ k := by omega
  have hk2 : k ≤ 200 := by omega
  rw [hk]
  clear hk
  obtain ⟨l, hl⟩ : ∃ l, smL z (min n 3) = l := ⟨_, rfl⟩
  obtain ⟨P, hP⟩ : ∃ P, prodL l = P := ⟨_, rfl⟩
  have hP64 : 1 ≤ P ∧ P ≤ 64 := by rw [← hP, ← hl]; exact smL_prod z _ (by omega)
  have hl3 : l.length ≤ 3 := by rw [← hl, smL_len]; omega
  have hl4 : ∀ x ∈ l, x ≤ 4 := fun x hx => by rw [← hl] at hx; have := smL_small z _ x hx; omega
  have hls : ∀ x ∈ l, 1 ≤ x ∧ x ≤ 32 := fun x hx => by rw [← hl] at hx; have := smL_small z _ x hx; omega
  have MD := Lib.hid (made_any A L n c m mc P l z y k w1 hn (HZ.out.below B1.out) hm (HL.out.below B1.out) hk1 (by omega) hl hP)
  have HP := Lib.hid hP
  have HLS := Lib.hid hls
  have HL4 := Lib.hid hl4
  clear hl hP hls hl4
  obtain ⟨hP1, hP4⟩ := hP64
  go_wp2_with fail
  refine MD.out.mono ?_
  rintro e w2 ⟨g, h, As, cs, Ac, cc, rfl, hTb, hI, hcs, hZc, hg, hh, b2⟩
  clear MD
  have n3 := new_val w2 (.cells #[.slice As l.length cs, .int .i64 k, .slice Ac P cc] 31)
  have S3 : Hid (TwS w w2.heap.size g h As cs Ac cc P l k (mkC k y m) (w2.alloc (.cells #[.slice As l.length cs, .int .i64 k, .slice Ac P cc] 31))) :=
    Lib.hid ⟨heap_alloc_new w2 _, hTb.below n3, hI.below n3 (Nat.le_refl _), hZc.below n3 (Nat.le_refl _), (HTab.out.below B1.out HTab.out.pos).below ((b2.trans (n3.mono b2.size))) (Nat.lt_of_lt_of_le HTab.out.pos B1.out.size), then_ (then_ B1.out b2) n3⟩
  have HO3 := Lib.hid (((HO.out.below (B1.out)).below b2).below n3)
  generalize mkC k y m = zt at S3
  clear hTb hI hZc hg hh b2 n3
  go_upto_region 4 with fail
  generalize w2.alloc (.cells #[.slice As l.length cs, .int .i64 k, .slice Ac P cc] 31) = w3 at S3 HO3 ⊢
  generalize w2.heap.size = bx at S3 ⊢
  obtain ⟨nl, hnl⟩ : ∃ nl, l.length = nl := ⟨_, rfl⟩
  have HNL := Lib.hid hnl
  rw [hnl] at hl3 hcs
  clear hnl
  go_wp2_with fail
  refine (clone_ext A' mo co o w3 (by omega) HO3.out).mono ?_
  rintro e w4 ⟨⟨Ao, c4, rfl, hzo⟩, b4⟩
  have S4 := Lib.hid (S3.out.next b4)
  have ZO := Lib.hid hzo
  clear b4 hzo hmn hmi HO3
  have x0 := S4.out.c0
  rw [HNL.out] at x0
  obtain ⟨t0, ht0⟩ : ∃ t0 : Bool, ((mo : Int) == (nl : Int)) = t0 := ⟨_, rfl⟩
  have hT0 : t0 = true ↔ mo = nl := by rw [← ht0, beq_iff_eq]; omega
  have HT0 := Lib.hid hT0
  have hmk := madeI mo (by omega)
  have R5 := Lib.hid (World.rowIs_made w4 (.int .i64 0) mo 3)
  have n5 := new_val w4 (.cells (madeCells #[.int .i64 0] mo) 3)
  have B5 := Lib.hid n5
  clear hT0 n5
  go_upto_region 8 with fail
  generalize w4.alloc (.cells (madeCells #[.int .i64 0] mo) 3) = w5 at R5 B5 ⊢
  clear hmk ht0 x0
  have V5 : Hid (TnL w4 o mo nl 0 t0 w5) := Lib.hid ⟨⟨fun e => ⟨HT0.out.1 e, fun i hi => by omega⟩, fun e => HT0.out.2 e.1⟩, B5.out, fun _ => R5.out.congr fun i _ => rfl⟩
  go_loopw [11, 46] (fun v11 i wr => ∃ (j : Nat) (t : Bool), j ≤ mo ∧ i = .int .i64 (j : Int) ∧ v11 = .bool t ∧ TnL w4 o mo nl j t wr) (fun _ i _ => mo - (intOf i).toNat)
  case atStart => exact ⟨0, t0, Nat.zero_le _, rfl, rfl, V5.out⟩
  case round =>
    obtain ⟨j, t, hj, rfl, rfl, hV⟩ := hrel
    have HV := Lib.hid hV
    clear hV
    by_cases hlt : j < mo
    · have j1 : (j : Int) < (mo : Int) := by omega
      have j2 : (0 : Int) ≤ (j : Int) := by omega
      have ZR := Lib.hid (ZO.out.below HV.out.bel (Nat.le_refl _))
      obtain ⟨go, oo, rfl, hcell⟩ := ZR.out.at_ hlt
      cases t with
      | false =>
        generalize o j = yo at hcell
        have HN := Lib.hid (HV.out.no HV.out.bel (fun e => by have := HV.out.ok.2 ⟨e.1, ordB_less e.2 (by omega)⟩; cases this))
        go_wp2_with fail
        go_roundw
        case rel => exact ⟨j + 1, false, by omega, by go_num, rfl, HN.out⟩
        case measure => simp [intOf]; omega
      | true =>
        obtain ⟨yo, hyo⟩ : ∃ yo, o j = yo := ⟨_, rfl⟩
        have HYO := Lib.hid hyo
        rw [hyo] at hcell
        clear hyo
        by_cases h0 : yo < 0
        · have d0 : decide (0 ≤ yo) = false := by simp; omega
          have HN := Lib.hid (HV.out.no HV.out.bel (fun e => by have := (e.2 j (by omega)).1; rw [HYO.out] at this; omega))
          clear h0
          go_wp2_with fail
          go_roundw
          case rel => exact ⟨j + 1, false, by omega, by go_num, rfl, HN.out⟩
          case measure => simp [intOf]; omega
        · by_cases h1 : (mo : Int) ≤ yo
          · have d0 : decide (0 ≤ yo) = true := by simp; omega
            have d1 : decide (yo < (mo : Int)) = false := by simp; omega
            have HN := Lib.hid (HV.out.no HV.out.bel (fun e => by have := (e.2 j (by omega)).2.1; rw [HYO.out] at this; omega))
            clear h0 h1
            go_wp2_with fail
            go_roundw
            case rel => exact ⟨j + 1, false, by omega, by go_num, rfl, HN.out⟩
            case measure => simp [intOf]; omega
          · obtain ⟨v, rfl⟩ : ∃ v : Nat, yo = v := ⟨yo.toNat, by omega⟩
            have hvn : v < mo := by omega
            have d0 : decide (0 ≤ (v : Int)) = true := by simp
            have d1 : decide ((v : Int) < (mo : Int)) = true := by simp; omega
            have d2 : decide (v < mo) = true := by simp; omega
            clear h0 h1
            rcases first_at (fun i => o i = (v : Int)) j with hno | ⟨p, hp, hpm, hpv⟩
            · have IX := Lib.hid (index_first (some ⟨go, oo, none⟩) mo c4 j o (v : Int) wr (by omega) ZR.out hlt HYO.out.symm (fun i hi e => hno i hi e.symm))
              have kf := (HV.out.row rfl).frozen v
              have kc := (HV.out.row rfl).cell hvn
              have HN := Lib.hid (HV.out.yes HYO.out hvn (fun i hi => by rw [HYO.out]; exact hno i hi))
              have d3 : ((j : Int) == (j : Int)) = true := by simp
              have v1 : (v : Int) < (mo : Int) := by omega
              have v2 : (0 : Int) ≤ (v : Int) := by omega
              generalize bckV o j v = vb at kc
              clear hno
              go_wp2_with (go_at_call 18; refine IX.out.mono ?_; rintro e w' ⟨rfl, rfl⟩)
              go_roundw
              case rel => exact ⟨j + 1, true, by omega, by go_num, rfl, HN.out⟩
              case measure => simp [intOf]; omega
            · have IX := Lib.hid (index_first (some ⟨go, oo, none⟩) mo c4 p o (v : Int) wr (by omega) ZR.out (by omega) hpv.symm (fun i hi e => hpm i hi e.symm))
              have HN := Lib.hid (HV.out.no HV.out.bel (fun e => (e.2 j (by omega)).2.2 p hp (by rw [hpv, HYO.out])))
              have d3 : ((p : Int) == (j : Int)) = false := by rw [beq_eq_false_iff_ne]; omega
              clear hpm hpv
              go_wp2_with (go_at_call 18; refine IX.out.mono ?_; rintro e w' ⟨rfl, rfl⟩)
              go_roundw
              case rel => exact ⟨j + 1, false, by omega, by go_num, rfl, HN.out⟩
              case measure => simp [intOf]; omega
    · have j1 : ¬ ((j : Int) < (mo : Int)) := by omega
      obtain rfl : mo = j := by omega
      have SR := Lib.hid (S4.out.next HV.out.bel)
      have ZR := Lib.hid (ZO.out.below HV.out.bel (Nat.le_refl _))
      clear j1 hlt hj V5 R5 B5 HT0
      cases t with
      | false =>
        have hnot : ¬ (mo = nl ∧ OrdB o mo mo) := fun e => by have := HV.out.ok.2 e; cases this
        have TE := Lib.hid (turn_err g h mo c4 Ao l k zt wr SR.out.t (fun W hW => by
          rw [HNL.out]
          by_cases e : mo = nl
          · obtain ⟨b, hb, hG, hbad⟩ := ordB_bad (fun h => hnot ⟨e, h⟩)
            rw [← e]
            refine (inverse_any Ao mo c4 b o W (by omega) (ZR.out.below hW (Nat.le_refl _)) (by omega) hG (fun _ => hbad)).mono ?_
            rintro e w' ⟨_, h2, h3⟩
            exact ⟨h2 hb, h3⟩
          · refine (inverse_len Ao mo c4 nl W e).mono ?_
            rintro e w' ⟨rfl, rfl⟩
            exact ⟨rfl, Below.refl _ _⟩))
        clear hnot
        go_wp2_with fail
        refine TE.out.mono ?_
        rintro e w7 ⟨rfl, b7⟩
        have S7 := Lib.hid (SR.out.next b7)
        clear b7 TE
        have LX := Lib.hid (like_yes g h cs cc P As Ac l k _ w7 S7.out.t S7.out.i S7.out.c HP.out (by omega) (by rw [HNL.out]; omega))
        rw [HNL.out] at LX
        have x0 := S7.out.c0
        have x1 := S7.out.c1
        have x2 := S7.out.c2
        rw [HNL.out] at x0
        go_wp2_with fail
        refine LX.out.mono ?_
        rintro e w8 ⟨rfl, b8⟩
        have S8 := Lib.hid (S7.out.next b8)
        clear b8 x0 x1 x2 LX
        go_wp2_with fail
        go_ret
        exact ⟨rfl, S8.out.bel⟩
      | true =>
        obtain ⟨hmn, hG⟩ := HV.out.ok.1 rfl
        subst hmn
        have pm := permL_of hl3 hG
        have io := zs_perm ZR.out hG
        have ib := row_back (HV.out.row rfl) hl3 hG
        generalize ((List.range mo).map fun i => (o i).toNat) = s at pm io
        generalize ((List.range mo).map fun v => (invF o mo v).toNat) = r at pm ib
        have PM := Lib.hid pm
        have IO := Lib.hid io
        have IB := Lib.hid ib
        obtain ⟨P1, hP1e⟩ : ∃ P1, prodL (pickL l s) = P1 := ⟨_, rfl⟩
        have hP64 : P1 ≤ 64 := by rw [← hP1e]; exact turn_prod pm HNL.out hl3 HL4.out
        have HP1 := Lib.hid hP1e
        have HPK : Hid ((pickL l s).length = mo) := Lib.hid (by rw [pickL_len, pm.ls])
        have HPL : Hid (∀ n ∈ pickL l s, 1 ≤ n ∧ n ≤ 32) := Lib.hid fun x hx => HLS.out x (pickL_mem (fun i hi => by rw [HNL.out]; exact pm.bs i (by rw [← pm.ls]; exact hi)) hx)
        have TO := Lib.hid (turn_ok g h mo c4 P1 Ao l s r k zt wr SR.out.t (by rw [HNL.out]; omega) HLS.out HNL.out PM.out IO.out hk1 (by omega) HP1.out (by omega))
        clear pm io ib hP1e hG HV
        go_wp2_with fail
        refine TO.out.mono ?_
        rintro e w7 ⟨g', h', rfl, hT7, -, -, b7⟩
        have S7 := Lib.hid (SR.out.next b7)
        have T7 := Lib.hid hT7
        have IO7 := Lib.hid (IO.out.below b7 (Nat.le_refl _))
        have IB7 := Lib.hid (IB.out.below b7 (Nat.le_refl _))
        have TB := Lib.hid (turn_ok g' h' mo mo P (some ⟨w4.heap.size, 0, none⟩) (pickL l s) r s k (turnZ l zt s r) w7 T7.out (by rw [HPK.out]; omega) HPL.out HPK.out PM.out.symm IB7.out hk1 (by omega) (by rw [PM.out.pick2 HNL.out]; exact HP.out) (by omega))
        clear b7 hT7 TO
        go_wp2_with fail
        refine TB.out.mono ?_
        rintro e w8 ⟨g2, h2, rfl, hT8, -, -, b8⟩
        rw [PM.out.pick2 HNL.out] at hT8
        have T8 : Hid (TabAt w8 g2 h2 l k zt) := Lib.hid (hT8.congr (fun i hi => turn_back PM.out HNL.out (fun n hn => (HLS.out n hn).1) hi))
        have S8 := Lib.hid (S7.out.next b8)
        have U8 := Lib.hid (T7.out.below b8)
        have IO8 := Lib.hid (IO7.out.below b8 (Nat.le_refl _))
        have RT := Lib.hid (rturn_any As Ac Ao cs cc c4 mo P1 P l s r k zt w8 (by omega) HNL.out hcs HLS.out HP.out (by omega) PM.out HP1.out (by omega) S8.out.i S8.out.c IO8.out)
        have x0 := S8.out.c0
        have x1 := S8.out.c1
        have x2 := S8.out.c2
        rw [HNL.out] at x0
        clear b8 hT8 TB
        go_wp2_with fail
        refine RT.out.mono ?_
        rintro e w9 ⟨⟨A1, c1, A2, c2, rfl, hI1, hZ1⟩, b9⟩
        have S9 := Lib.hid (S8.out.next b9)
        have T9 := Lib.hid (T8.out.below b9)
        have LY := Lib.hid (like_yes g' h' c1 c2 P1 A1 A2 (pickL l s) k _ w9 (U8.out.below b9) hI1 hZ1 HP1.out (by omega) (by rw [HPK.out]; omega))
        rw [HPK.out] at LY
        clear b9 hI1 hZ1 x0 x1 x2 RT
        go_wp2_with fail
        refine LY.out.mono ?_
        rintro e w10 ⟨rfl, b10⟩
        have S10 := Lib.hid (S9.out.next b10)
        have T10 := Lib.hid (T9.out.below b10)
        clear b10 LY
        go_wp2_with fail
        refine (tsame_yes g2 h2 g h P l k _ w10 T10.out S10.out.t HP.out (by omega)).mono ?_
        rintro e w11 ⟨rfl, b11⟩
        have S11 := Lib.hid (S10.out.next b11)
        clear b11
        go_wp2_with fail
        go_ret
        exact ⟨rfl, S11.out.bel⟩
end Go.Proofs.YtamodeglpkgiaaaDoor
