/- The walk of ScanJoins. No condition. -/
import Derived.Test.YtcfendilaogjlaaDoorSf2
namespace Go.Proofs.YtcfendilaogjlaaDoor
open Go.RowKit
set_option linter.unusedVariables false
/-- A slice of strings that came in. -/
def Strs (w : World) (A : Option Addr) (n : Nat) (S : Nat → ByteArray) : Prop := ∀ j, j < n → ∃ p : Addr, A = some p ∧ p.block < w.heap.size ∧ w.cell? (p.add j) = some (.string (S j)) ∧ (S j).size ≤ maxLen
theorem Strs.below {w w' : World} {A : Option Addr} {n : Nat} {S : Nat → ByteArray} (h : Strs w A n S) (hb : Below w.heap.size w w') : Strs w' A n S := fun j hj => by
  obtain ⟨p, rfl, hp, hc, hs⟩ := h j hj
  exact ⟨p, rfl, Nat.lt_of_lt_of_le hp hb.size, (hb.cell (p := p.add j) (by rw [block_add]; exact hp)).trans hc, hs⟩
/-- What holds between the appends: the bytes so far and the words in them, N and M at most. -/
def JC (w wr : World) (p v : Value) (N M : Nat) : Prop :=
  Below w.heap.size w wr ∧ ∃ s ws, OwnB wr w.heap.size p s ∧ OwnW wr w.heap.size v s ws ∧ INV s ws ∧ (∀ y ∈ ws, y.2 ≤ s.size) ∧ s.size ≤ N ∧ ws.length ≤ M
def JR (w wr : World) (p v : Value) (k : Nat) : Prop := JC w wr p v (23 * min k 12) (min k 12)
theorem OwnW.ext {w : World} {b : Nat} {v : Value} {s : ByteArray} {ws : List (Nat × Nat)} (h : OwnW w b v s ws) (hin : ∀ y ∈ ws, y.2 ≤ s.size) (x : ByteArray) : OwnW w b v (s ++ x) ws := by
  unfold OwnW
  rw [wC_app _ _ _ hin]
  exact h
theorem JC.word {w w4 : World} {p v : Value} {s E : ByteArray} {ws : List (Nat × Nat)} {N M : Nat} (b : UInt8) (hb : isB b.toNat = true) (hB : Below w.heap.size w w4) (hP : OwnB w4 w.heap.size p (s ++ E ++ ⟨#[b]⟩))
    (hO : OwnW w4 w.heap.size v (s ++ E) (ws ++ [(s.size, s.size + E.size)])) (hI : INV s ws) (hin : ∀ y ∈ ws, y.2 ≤ s.size) (hE : 0 < E.size) (hp : E.data.toList.all (fun c => isW c.toNat) = true)
    (hN : s.size + E.size + 1 ≤ N) (hM : ws.length + 1 ≤ M) : JC w w4 p v N M := by
  have hin2 : ∀ y ∈ ws ++ [(s.size, s.size + E.size)], y.2 ≤ (s ++ E).size := by
    intro y hy
    rw [app_size]
    rcases List.mem_append.1 hy with h | h
    · have := hin y h
      omega
    · simp at h
      subst h
      exact Nat.le_refl _
  refine ⟨hB, _, _, hP, hO.ext hin2 _, hI.word b hb hE hp, ?_, ?_, ?_⟩
  · intro y hy
    have := hin2 y hy
    rw [app_size]
    omega
  · rw [app_size, app_size]
    exact hN
  · rw [List.length_append]
    exact hM
theorem JC.blank {w wr w4 : World} {p q v : Value} {s : ByteArray} {ws : List (Nat × Nat)} {N M : Nat} (hB : Below w.heap.size w w4) (hP : OwnB w4 w.heap.size q (s ++ ⟨#[32]⟩))
    (hO : OwnW w4 w.heap.size v s ws) (hI : INV s ws) (hin : ∀ y ∈ ws, y.2 ≤ s.size) (hN : s.size ≤ N) (hM : ws.length ≤ M) : JC w w4 q v (N + 1) M := by
  refine ⟨hB, _, _, hP, hO.ext hin _, hI.blank 32 rfl, ?_, ?_, hM⟩
  · intro y hy
    have := hin y hy
    rw [app_size]
    omega
  · rw [app_size]
    exact Nat.add_le_add_right hN 1
theorem JC.more {w wr : World} {p v : Value} {N M N' M' : Nat} (h : JC w wr p v N M) (h1 : N ≤ N') (h2 : M ≤ M') : JC w wr p v N' M' := by
  obtain ⟨h3, s, ws, h4, h5, h6, h7, h8, h9⟩ := h
  exact ⟨h3, s, ws, h4, h5, h6, h7, by omega, by omega⟩
def plainL (E : ByteArray) (j : Nat) : Bool := decide (0 < E.size) && (E.data.toList.take j).all fun c => isW c.toNat
theorem plainL_step (E : ByteArray) (j : Nat) (h : j < E.size) : plainL E (j + 1) = (plainL E j && isW E[j].toNat) := by
  unfold plainL
  have hl : j < E.data.toList.length := by rw [size_list]; exact h
  rw [List.take_succ_eq_append_getElem hl, List.all_append, ← Bool.and_assoc]
  simp
  rfl
theorem plainL_end (E : ByteArray) : plainL E E.size = true → 0 < E.size ∧ E.data.toList.all (fun c => isW c.toNat) = true := by
  unfold plainL
  rw [← size_list, List.take_length]
  intro h
  simp only [Bool.and_eq_true, decide_eq_true_eq] at h
  exact h
set_option maxRecDepth 100000 in
set_option maxHeartbeats 4000000 in
theorem joins_walk (A : Option Addr) (n c : Nat) (S : Nat → ByteArray) (A2 : Option Addr) (m c2 : Nat) (z : Nat → Int) (w : World) (hn : (n : Int) ≤ 9223372036854775807) (hS : Strs w A n S) (hm : (m : Int) ≤ 9223372036854775807) (hz : Bytes w A2 m z) :
    Calls Tryd.prog 7 #[.slice A n c, .slice A2 m c2] w fun e w' => e = .returned (.bool true) ∧ Below w.heap.size w w' := by
  have HS := Lib.hid hS
  have HZ := Lib.hid hz
  have HN := Lib.hid hn
  have HM := Lib.hid hm
  clear hS hz hn hm
  go_enter Tryd.func7, Tryd.ntmps7
  go_wp2_with fail
  refine (awake6_true _).mono ?_
  rintro e w1 ⟨rfl, b1⟩
  have B1 := Lib.hid b1
  clear b1
  go_wp2_with fail
  go_loopw [5, 6, 28] (fun p v i wr => ∃ k : Nat, k ≤ n ∧ i = .int .i64 (k : Int) ∧ JR w wr p v k) (fun _ _ i _ => n - (intOf i).toNat)
  case atStart => exact ⟨0, Nat.zero_le _, rfl, B1.out, ⟨#[]⟩, [], World.ownsRow_nil _ _ _ _, OwnW.nil _ _ _, INV.nil, by simp, by decide, by decide⟩
  case round =>
    obtain ⟨k, hk, rfl, hb, s, ws, hB, hW, hI, hin, hsz, hwl⟩ := hrel
    have BE := Lib.hid hb
    have OB := Lib.hid hB
    have OW := Lib.hid hW
    have HI := Lib.hid hI
    have HIN := Lib.hid hin
    clear hb hB hW hI hin
    obtain ⟨P, cp, rfl, hP, hPb⟩ := OB.out.form
    have BSP := Lib.hid hP
    clear hP hPb
    by_cases hlt : k < n
    · obtain ⟨a, rfl, ha, hcell, hsk⟩ := (HS.out.below (BE.out)) k hlt
      obtain ⟨T, hT⟩ : ∃ T, S k = T := ⟨_, rfl⟩
      rw [hT] at hcell hsk
      obtain ⟨E, hE⟩ : ∃ E, T.extract 0 (min T.size 20) = E := ⟨_, rfl⟩
      have hEs : E.size ≤ 20 := by rw [← hE, ByteArray.size_extract]; omega
      have hsl : ∀ W, (Instr.slice 9 (.string T) none (some (.int .i64 (min (T.size : Int) 20))) none).run Tryd.prog W = .ok (.string E) W := by
        intro W
        rw [run_slice_string_to_if (w := W) (P := Tryd.prog) 9 T .i64 _ Tryd.underlying9, if_pos (by omega), ← hE]
        congr 3
        omega
      clear hT hE
      have i1 : (k : Int) < (n : Int) := by omega
      have i2 : (0 : Int) ≤ (k : Int) := by omega
      go_wp2_with fail
      go_loop [9, 43] (fun q i => ∃ j : Nat, j ≤ E.size ∧ i = .int .i64 (j : Int) ∧ q = .bool (plainL E j)) (fun _ i => E.size - (intOf i).toNat)
      case atStart =>
        refine ⟨0, Nat.zero_le _, rfl, ?_⟩
        unfold plainL
        simp
      case round =>
        obtain ⟨j, hj, rfl, rfl⟩ := hrel
        by_cases hjl : j < E.size
        · have PS := Lib.hid (plainL_step E j hjl)
          obtain ⟨x, hx⟩ : ∃ x, E[j].toNat = x := ⟨_, rfl⟩
          have PS := PS.out
          rw [hx] at PS
          cases hp : plainL E j with
          | false =>
            rw [hp] at PS
            have PS := Lib.hid PS
            clear hp
            go_wp2_with fail
            go_round
            case rel => exact ⟨j + 1, hjl, by go_num, by rw [PS.out]; rfl⟩
            case measure => simp [intOf]; omega
          | true =>
            rw [hp] at PS
            have PS := Lib.hid PS
            clear hp
            have hx3 : ((x : Int) ≤ 32 ∧ isW x = false) ∨ (((32 : Int) < x ∧ (127 : Int) ≤ x) ∧ isW x = false) ∨ (((32 : Int) < x ∧ (x : Int) < 127) ∧ isW x = true) := by
              rcases (by omega : x ≤ 32 ∨ (32 < x ∧ 127 ≤ x) ∨ (32 < x ∧ x < 127)) with h | h | h
              · exact .inl ⟨by omega, by simp [isW]; omega⟩
              · exact .inr (.inl ⟨by omega, by simp [isW]; omega⟩)
              · exact .inr (.inr ⟨by omega, by simp [isW]; omega⟩)
            rcases hx3 with ⟨h1, h3⟩ | ⟨⟨h1, h2⟩, h3⟩ | ⟨⟨h1, h2⟩, h3⟩
            all_goals
              have HB3 := Lib.hid h3
              clear h3
              go_wp2_with fail
              go_round
              case rel => exact ⟨j + 1, hjl, by go_num, by rw [PS.out, HB3.out]; first | rfl | (congr 1; simp; omega)⟩
              case measure => simp [intOf]; omega
        · obtain rfl : j = E.size := by omega
          have i3 : ¬ ((E.size : Int) < (E.size : Int)) := by omega
          obtain ⟨Wr, eW⟩ : ∃ W, W = wr := ⟨wr, rfl⟩
          subst eW
          rcases (by omega : 12 ≤ k ∨ k < 12) with h12 | h12
          · have i4 : (12 : Int) ≤ (k : Int) := by omega
            have i5 : IntKind.i64.wrap ((k : Int) + 1) = (k : Int) + 1 := IntWalk.i64_in _ (by have := HN.out; omega)
            go_wp2_with fail
            go_roundw
            case rel => exact ⟨k + 1, by omega, by go_num, BE.out, s, ws, OB.out, OW.out, HI.out, HIN.out, by omega, by omega⟩
            case measure => simp [intOf]; omega
          · have i4 : ¬ ((12 : Int) ≤ (k : Int)) := by omega
            cases hp : plainL E E.size with
            | false =>
              go_wp2_with fail
              go_roundw
              case rel => exact ⟨k + 1, by omega, by go_num, BE.out, s, ws, OB.out, OW.out, HI.out, HIN.out, by omega, by omega⟩
              case measure => simp [intOf]; omega
            | true =>
              obtain ⟨hE0, hEp⟩ := plainL_end E hp
              have HEP := Lib.hid hEp
              clear hp hEp
              have hl9 : ws.length ≤ 1000000 := by omega
              have hs9 : s.size + E.size ≤ 1000000 := by omega
              have HL9 := Lib.hid hl9
              have HS9 := Lib.hid hs9
              clear hl9 hs9
              have hdiff : (m ≤ k) ∨ ∃ (a2 : Addr) (y : Int), A2 = some a2 ∧ k < m ∧ a2.block < w.heap.size ∧ w.cell? (a2.add k) = some (.int .u8 y) ∧ 0 ≤ y ∧ y ≤ 255 := by
                rcases Nat.lt_or_ge k m with h | h
                · obtain ⟨a2, e2, g1, g2, g3, g4⟩ := HZ.out k h
                  exact .inr ⟨a2, _, e2, h, g1, g2, g3, g4⟩
                · exact .inl h
              have HE0 := Lib.hid hE0
              have HS8 : Hid ((s ++ E).size ≤ 1000000) := Lib.hid (by rw [app_size]; omega)
              have HS7 : Hid (s.size + E.size + 1 ≤ 23 * k + 21) := Lib.hid (by omega)
              have HM7 : Hid (ws.length + 1 ≤ k + 1) := Lib.hid (by omega)
              clear hE0
              rcases hdiff with hkm | ⟨a2, y, rfl, hkm, ha2, hc2, hy0, hy1⟩
              · have i6 : ¬ ((k : Int) < (m : Int)) := by omega
                obtain ⟨R, hR⟩ : ∃ R : Nat, R = 0 := ⟨0, rfl⟩
                have hR2 : R ≤ 2 := by omega
                go_wp2_with (first | (at_builtin; refine push_w rfl (.tmp 66) (.tmp 71) rfl Wr w.heap.size _ s E ws rfl rfl OW.out HIN.out BE.out.size HL9.out ?_; intro v2 w2 h1 h2; have O2 := Lib.hid h1; have P2 := Lib.hid (OB.out.keptW OW.out h2); have B2 := Lib.hid (below_grownO BE.out h2 (Nat.le_refl _) (fun g e => (World.ownsRow.lt OW.out g e).1)); clear h1 h2) | (at_builtin; refine push_s rfl (.tmp 73) (.tmp 74) rfl w2 w.heap.size _ s E rfl rfl P2.out B2.out.size HS9.out ?_; intro p3 w3 h1 h2; have P3 := Lib.hid h1; have O3 := Lib.hid (O2.out.keptB P2.out h2); have B3 := Lib.hid (below_grownO B2.out h2 (Nat.le_refl _) (fun g e => (World.ownsRow.lt P2.out g e).1)); clear h1 h2) | (at_builtin; refine push_b rfl (.tmp 84) (.tmp 88) rfl w3 w.heap.size _ (s ++ E) 32 _ rfl rfl rfl P3.out B3.out.size HS8.out ?_; intro p4 w4 h1 h2; have J4 := Lib.hid (JC.word (N := 23 * k + 21) (M := k + 1) 32 rfl (below_grownO B3.out h2 (Nat.le_refl _) (fun g e => (World.ownsRow.lt P3.out g e).1)) h1 (O3.out.keptB P3.out h2) HI.out HIN.out HE0.out HEP.out HS7.out HM7.out); clear h1 h2))
                go_loopw [5, 93] (fun p i wr => ∃ j : Nat, j ≤ 0 ∧ i = .int .u8 (j : Int) ∧ JC w wr p v2 (23 * k + 21 + j) (k + 1)) (fun _ i _ => 0 - (intOf i).toNat)
                case atStart => exact ⟨0, Nat.zero_le _, rfl, J4.out⟩
                case round =>
                  obtain ⟨j, hj, rfl, hjb, s5, ws5, hB5, hW5, hI5, hin5, hs5, hw5⟩ := hrel
                  have BE5 := Lib.hid hjb
                  have OB5 := Lib.hid hB5
                  have OW5 := Lib.hid hW5
                  have HI5 := Lib.hid hI5
                  have HIN5 := Lib.hid hin5
                  have HSZ5 := Lib.hid hs5
                  have HWL5 := Lib.hid hw5
                  have HS5 : Hid (s5.size ≤ 1000000) := Lib.hid (by omega)
                  clear hjb hB5 hW5 hI5 hin5 hs5 hw5
                  obtain rfl : j = 0 := by omega
                  obtain ⟨We, eW⟩ : ∃ W, W = wr := ⟨wr, rfl⟩
                  subst eW
                  go_wp2_with fail
                  go_roundw
                  case rel => exact ⟨k + 1, by omega, by go_num, (show JC w We _ _ _ _ from ⟨BE5.out, s5, ws5, OB5.out, OW5.out, HI5.out, HIN5.out, HSZ5.out, HWL5.out⟩).more (by omega) (by omega)⟩
                  case measure => simp [intOf]; omega
              · obtain ⟨Q, hQ⟩ : ∃ Q : Nat, y / 4 = (Q : Int) := ⟨(y / 4).toNat, by omega⟩
                obtain ⟨R, hR⟩ : ∃ R : Nat, (Q : Int) % 3 = (R : Int) := ⟨((Q : Int) % 3).toNat, by omega⟩
                have hR2 : R ≤ 2 := by omega
                have i6 : (k : Int) < (m : Int) := by omega
                rcases (by omega : y % 4 = 0 ∨ y % 4 = 1 ∨ y % 4 = 2 ∨ y % 4 = 3) with hr | hr | hr | hr
                · go_wp2_with (first | (at_builtin; refine push_w rfl (.tmp 66) (.tmp 71) rfl Wr w.heap.size _ s E ws rfl rfl OW.out HIN.out BE.out.size HL9.out ?_; intro v2 w2 h1 h2; have O2 := Lib.hid h1; have P2 := Lib.hid (OB.out.keptW OW.out h2); have B2 := Lib.hid (below_grownO BE.out h2 (Nat.le_refl _) (fun g e => (World.ownsRow.lt OW.out g e).1)); clear h1 h2) | (at_builtin; refine push_s rfl (.tmp 73) (.tmp 74) rfl w2 w.heap.size _ s E rfl rfl P2.out B2.out.size HS9.out ?_; intro p3 w3 h1 h2; have P3 := Lib.hid h1; have O3 := Lib.hid (O2.out.keptB P2.out h2); have B3 := Lib.hid (below_grownO B2.out h2 (Nat.le_refl _) (fun g e => (World.ownsRow.lt P2.out g e).1)); have hc3 := (B3.out.cell (p := a2.add k) (by rw [block_add]; exact ha2)).trans hc2; clear h1 h2) | (at_builtin; refine push_b rfl (.tmp 84) (.tmp 88) rfl w3 w.heap.size _ (s ++ E) 32 _ rfl rfl rfl P3.out B3.out.size HS8.out ?_; intro p4 w4 h1 h2; have J4 := Lib.hid (JC.word (N := 23 * k + 21) (M := k + 1) 32 rfl (below_grownO B3.out h2 (Nat.le_refl _) (fun g e => (World.ownsRow.lt P3.out g e).1)) h1 (O3.out.keptB P3.out h2) HI.out HIN.out HE0.out HEP.out HS7.out HM7.out); clear h1 h2))
                  go_loopw [5, 93] (fun p i wr => ∃ j : Nat, j ≤ R ∧ i = .int .u8 (j : Int) ∧ JC w wr p v2 (23 * k + 21 + j) (k + 1)) (fun _ i _ => R - (intOf i).toNat)
                  case atStart => exact ⟨0, Nat.zero_le _, rfl, J4.out⟩
                  case round =>
                    obtain ⟨j, hj, rfl, hjb, s5, ws5, hB5, hW5, hI5, hin5, hs5, hw5⟩ := hrel
                    have BE5 := Lib.hid hjb
                    have OB5 := Lib.hid hB5
                    have OW5 := Lib.hid hW5
                    have HI5 := Lib.hid hI5
                    have HIN5 := Lib.hid hin5
                    have HSZ5 := Lib.hid hs5
                    have HWL5 := Lib.hid hw5
                    have HS5 : Hid (s5.size ≤ 1000000) := Lib.hid (by omega)
                    clear hjb hB5 hW5 hI5 hin5 hs5 hw5
                    by_cases hjr : j < R
                    · have i7 : (j : Int) < (R : Int) := by omega
                      have i8 : IntKind.u8.wrap ((j : Int) + 1) = (j : Int) + 1 := by show ((j : Int) + 1) % 256 = _; omega
                      go_wp2_with (at_builtin; refine push_b rfl (.tmp 95) (.tmp 96) rfl wr w.heap.size _ s5 32 _ rfl rfl rfl OB5.out BE5.out.size HS5.out ?_; intro p6 w6 h1 h2; have J6 := Lib.hid (JC.blank (wr := wr) (p := .bool true) (below_grownO BE5.out h2 (Nat.le_refl _) (fun g e => (World.ownsRow.lt OB5.out g e).1)) h1 (OW5.out.keptB OB5.out h2) HI5.out HIN5.out HSZ5.out HWL5.out); clear h1 h2)
                      go_roundw
                      case rel => exact ⟨j + 1, by omega, by go_num, J6.out.more (by omega) (Nat.le_refl _)⟩
                      case measure => simp [intOf]; omega
                    · obtain rfl : j = R := by omega
                      have i7 : ¬ ((j : Int) < (j : Int)) := by omega
                      obtain ⟨We, eW⟩ : ∃ W, W = wr := ⟨wr, rfl⟩
                      subst eW
                      go_wp2_with fail
                      go_roundw
                      case rel => exact ⟨k + 1, by omega, by go_num, (show JC w We _ _ _ _ from ⟨BE5.out, s5, ws5, OB5.out, OW5.out, HI5.out, HIN5.out, HSZ5.out, HWL5.out⟩).more (by omega) (by omega)⟩
                      case measure => simp [intOf]; omega
                · go_wp2_with (first | (at_builtin; refine push_w rfl (.tmp 66) (.tmp 71) rfl Wr w.heap.size _ s E ws rfl rfl OW.out HIN.out BE.out.size HL9.out ?_; intro v2 w2 h1 h2; have O2 := Lib.hid h1; have P2 := Lib.hid (OB.out.keptW OW.out h2); have B2 := Lib.hid (below_grownO BE.out h2 (Nat.le_refl _) (fun g e => (World.ownsRow.lt OW.out g e).1)); clear h1 h2) | (at_builtin; refine push_s rfl (.tmp 73) (.tmp 74) rfl w2 w.heap.size _ s E rfl rfl P2.out B2.out.size HS9.out ?_; intro p3 w3 h1 h2; have P3 := Lib.hid h1; have O3 := Lib.hid (O2.out.keptB P2.out h2); have B3 := Lib.hid (below_grownO B2.out h2 (Nat.le_refl _) (fun g e => (World.ownsRow.lt P2.out g e).1)); have hc3 := (B3.out.cell (p := a2.add k) (by rw [block_add]; exact ha2)).trans hc2; clear h1 h2) | (at_builtin; refine push_b rfl (.tmp 84) (.tmp 88) rfl w3 w.heap.size _ (s ++ E) 9 _ rfl rfl rfl P3.out B3.out.size HS8.out ?_; intro p4 w4 h1 h2; have J4 := Lib.hid (JC.word (N := 23 * k + 21) (M := k + 1) 9 rfl (below_grownO B3.out h2 (Nat.le_refl _) (fun g e => (World.ownsRow.lt P3.out g e).1)) h1 (O3.out.keptB P3.out h2) HI.out HIN.out HE0.out HEP.out HS7.out HM7.out); clear h1 h2))
                  go_loopw [5, 93] (fun p i wr => ∃ j : Nat, j ≤ R ∧ i = .int .u8 (j : Int) ∧ JC w wr p v2 (23 * k + 21 + j) (k + 1)) (fun _ i _ => R - (intOf i).toNat)
                  case atStart => exact ⟨0, Nat.zero_le _, rfl, J4.out⟩
                  case round =>
                    obtain ⟨j, hj, rfl, hjb, s5, ws5, hB5, hW5, hI5, hin5, hs5, hw5⟩ := hrel
                    have BE5 := Lib.hid hjb
                    have OB5 := Lib.hid hB5
                    have OW5 := Lib.hid hW5
                    have HI5 := Lib.hid hI5
                    have HIN5 := Lib.hid hin5
                    have HSZ5 := Lib.hid hs5
                    have HWL5 := Lib.hid hw5
                    have HS5 : Hid (s5.size ≤ 1000000) := Lib.hid (by omega)
                    clear hjb hB5 hW5 hI5 hin5 hs5 hw5
                    by_cases hjr : j < R
                    · have i7 : (j : Int) < (R : Int) := by omega
                      have i8 : IntKind.u8.wrap ((j : Int) + 1) = (j : Int) + 1 := by show ((j : Int) + 1) % 256 = _; omega
                      go_wp2_with (at_builtin; refine push_b rfl (.tmp 95) (.tmp 96) rfl wr w.heap.size _ s5 32 _ rfl rfl rfl OB5.out BE5.out.size HS5.out ?_; intro p6 w6 h1 h2; have J6 := Lib.hid (JC.blank (wr := wr) (p := .bool true) (below_grownO BE5.out h2 (Nat.le_refl _) (fun g e => (World.ownsRow.lt OB5.out g e).1)) h1 (OW5.out.keptB OB5.out h2) HI5.out HIN5.out HSZ5.out HWL5.out); clear h1 h2)
                      go_roundw
                      case rel => exact ⟨j + 1, by omega, by go_num, J6.out.more (by omega) (Nat.le_refl _)⟩
                      case measure => simp [intOf]; omega
                    · obtain rfl : j = R := by omega
                      have i7 : ¬ ((j : Int) < (j : Int)) := by omega
                      obtain ⟨We, eW⟩ : ∃ W, W = wr := ⟨wr, rfl⟩
                      subst eW
                      go_wp2_with fail
                      go_roundw
                      case rel => exact ⟨k + 1, by omega, by go_num, (show JC w We _ _ _ _ from ⟨BE5.out, s5, ws5, OB5.out, OW5.out, HI5.out, HIN5.out, HSZ5.out, HWL5.out⟩).more (by omega) (by omega)⟩
                      case measure => simp [intOf]; omega
                · go_wp2_with (first | (at_builtin; refine push_w rfl (.tmp 66) (.tmp 71) rfl Wr w.heap.size _ s E ws rfl rfl OW.out HIN.out BE.out.size HL9.out ?_; intro v2 w2 h1 h2; have O2 := Lib.hid h1; have P2 := Lib.hid (OB.out.keptW OW.out h2); have B2 := Lib.hid (below_grownO BE.out h2 (Nat.le_refl _) (fun g e => (World.ownsRow.lt OW.out g e).1)); clear h1 h2) | (at_builtin; refine push_s rfl (.tmp 73) (.tmp 74) rfl w2 w.heap.size _ s E rfl rfl P2.out B2.out.size HS9.out ?_; intro p3 w3 h1 h2; have P3 := Lib.hid h1; have O3 := Lib.hid (O2.out.keptB P2.out h2); have B3 := Lib.hid (below_grownO B2.out h2 (Nat.le_refl _) (fun g e => (World.ownsRow.lt P2.out g e).1)); have hc3 := (B3.out.cell (p := a2.add k) (by rw [block_add]; exact ha2)).trans hc2; clear h1 h2) | (at_builtin; refine push_b rfl (.tmp 84) (.tmp 88) rfl w3 w.heap.size _ (s ++ E) 10 _ rfl rfl rfl P3.out B3.out.size HS8.out ?_; intro p4 w4 h1 h2; have J4 := Lib.hid (JC.word (N := 23 * k + 21) (M := k + 1) 10 rfl (below_grownO B3.out h2 (Nat.le_refl _) (fun g e => (World.ownsRow.lt P3.out g e).1)) h1 (O3.out.keptB P3.out h2) HI.out HIN.out HE0.out HEP.out HS7.out HM7.out); clear h1 h2))
                  go_loopw [5, 93] (fun p i wr => ∃ j : Nat, j ≤ R ∧ i = .int .u8 (j : Int) ∧ JC w wr p v2 (23 * k + 21 + j) (k + 1)) (fun _ i _ => R - (intOf i).toNat)
                  case atStart => exact ⟨0, Nat.zero_le _, rfl, J4.out⟩
                  case round =>
                    obtain ⟨j, hj, rfl, hjb, s5, ws5, hB5, hW5, hI5, hin5, hs5, hw5⟩ := hrel
                    have BE5 := Lib.hid hjb
                    have OB5 := Lib.hid hB5
                    have OW5 := Lib.hid hW5
                    have HI5 := Lib.hid hI5
                    have HIN5 := Lib.hid hin5
                    have HSZ5 := Lib.hid hs5
                    have HWL5 := Lib.hid hw5
                    have HS5 : Hid (s5.size ≤ 1000000) := Lib.hid (by omega)
                    clear hjb hB5 hW5 hI5 hin5 hs5 hw5
                    by_cases hjr : j < R
                    · have i7 : (j : Int) < (R : Int) := by omega
                      have i8 : IntKind.u8.wrap ((j : Int) + 1) = (j : Int) + 1 := by show ((j : Int) + 1) % 256 = _; omega
                      go_wp2_with (at_builtin; refine push_b rfl (.tmp 95) (.tmp 96) rfl wr w.heap.size _ s5 32 _ rfl rfl rfl OB5.out BE5.out.size HS5.out ?_; intro p6 w6 h1 h2; have J6 := Lib.hid (JC.blank (wr := wr) (p := .bool true) (below_grownO BE5.out h2 (Nat.le_refl _) (fun g e => (World.ownsRow.lt OB5.out g e).1)) h1 (OW5.out.keptB OB5.out h2) HI5.out HIN5.out HSZ5.out HWL5.out); clear h1 h2)
                      go_roundw
                      case rel => exact ⟨j + 1, by omega, by go_num, J6.out.more (by omega) (Nat.le_refl _)⟩
                      case measure => simp [intOf]; omega
                    · obtain rfl : j = R := by omega
                      have i7 : ¬ ((j : Int) < (j : Int)) := by omega
                      obtain ⟨We, eW⟩ : ∃ W, W = wr := ⟨wr, rfl⟩
                      subst eW
                      go_wp2_with fail
                      go_roundw
                      case rel => exact ⟨k + 1, by omega, by go_num, (show JC w We _ _ _ _ from ⟨BE5.out, s5, ws5, OB5.out, OW5.out, HI5.out, HIN5.out, HSZ5.out, HWL5.out⟩).more (by omega) (by omega)⟩
                      case measure => simp [intOf]; omega
                · go_wp2_with (first | (at_builtin; refine push_w rfl (.tmp 66) (.tmp 71) rfl Wr w.heap.size _ s E ws rfl rfl OW.out HIN.out BE.out.size HL9.out ?_; intro v2 w2 h1 h2; have O2 := Lib.hid h1; have P2 := Lib.hid (OB.out.keptW OW.out h2); have B2 := Lib.hid (below_grownO BE.out h2 (Nat.le_refl _) (fun g e => (World.ownsRow.lt OW.out g e).1)); clear h1 h2) | (at_builtin; refine push_s rfl (.tmp 73) (.tmp 74) rfl w2 w.heap.size _ s E rfl rfl P2.out B2.out.size HS9.out ?_; intro p3 w3 h1 h2; have P3 := Lib.hid h1; have O3 := Lib.hid (O2.out.keptB P2.out h2); have B3 := Lib.hid (below_grownO B2.out h2 (Nat.le_refl _) (fun g e => (World.ownsRow.lt P2.out g e).1)); have hc3 := (B3.out.cell (p := a2.add k) (by rw [block_add]; exact ha2)).trans hc2; clear h1 h2) | (at_builtin; refine push_b rfl (.tmp 84) (.tmp 88) rfl w3 w.heap.size _ (s ++ E) 13 _ rfl rfl rfl P3.out B3.out.size HS8.out ?_; intro p4 w4 h1 h2; have J4 := Lib.hid (JC.word (N := 23 * k + 21) (M := k + 1) 13 rfl (below_grownO B3.out h2 (Nat.le_refl _) (fun g e => (World.ownsRow.lt P3.out g e).1)) h1 (O3.out.keptB P3.out h2) HI.out HIN.out HE0.out HEP.out HS7.out HM7.out); clear h1 h2))
                  go_loopw [5, 93] (fun p i wr => ∃ j : Nat, j ≤ R ∧ i = .int .u8 (j : Int) ∧ JC w wr p v2 (23 * k + 21 + j) (k + 1)) (fun _ i _ => R - (intOf i).toNat)
                  case atStart => exact ⟨0, Nat.zero_le _, rfl, J4.out⟩
                  case round =>
                    obtain ⟨j, hj, rfl, hjb, s5, ws5, hB5, hW5, hI5, hin5, hs5, hw5⟩ := hrel
                    have BE5 := Lib.hid hjb
                    have OB5 := Lib.hid hB5
                    have OW5 := Lib.hid hW5
                    have HI5 := Lib.hid hI5
                    have HIN5 := Lib.hid hin5
                    have HSZ5 := Lib.hid hs5
                    have HWL5 := Lib.hid hw5
                    have HS5 : Hid (s5.size ≤ 1000000) := Lib.hid (by omega)
                    clear hjb hB5 hW5 hI5 hin5 hs5 hw5
                    by_cases hjr : j < R
                    · have i7 : (j : Int) < (R : Int) := by omega
                      have i8 : IntKind.u8.wrap ((j : Int) + 1) = (j : Int) + 1 := by show ((j : Int) + 1) % 256 = _; omega
                      go_wp2_with (at_builtin; refine push_b rfl (.tmp 95) (.tmp 96) rfl wr w.heap.size _ s5 32 _ rfl rfl rfl OB5.out BE5.out.size HS5.out ?_; intro p6 w6 h1 h2; have J6 := Lib.hid (JC.blank (wr := wr) (p := .bool true) (below_grownO BE5.out h2 (Nat.le_refl _) (fun g e => (World.ownsRow.lt OB5.out g e).1)) h1 (OW5.out.keptB OB5.out h2) HI5.out HIN5.out HSZ5.out HWL5.out); clear h1 h2)
                      go_roundw
                      case rel => exact ⟨j + 1, by omega, by go_num, J6.out.more (by omega) (Nat.le_refl _)⟩
                      case measure => simp [intOf]; omega
                    · obtain rfl : j = R := by omega
                      have i7 : ¬ ((j : Int) < (j : Int)) := by omega
                      obtain ⟨We, eW⟩ : ∃ W, W = wr := ⟨wr, rfl⟩
                      subst eW
                      go_wp2_with fail
                      go_roundw
                      case rel => exact ⟨k + 1, by omega, by go_num, (show JC w We _ _ _ _ from ⟨BE5.out, s5, ws5, OB5.out, OW5.out, HI5.out, HIN5.out, HSZ5.out, HWL5.out⟩).more (by omega) (by omega)⟩
                      case measure => simp [intOf]; omega
    · obtain rfl : k = n := by omega
      have i1 : ¬ ((k : Int) < (k : Int)) := by omega
      have hsz2 : s.size ≤ 300 := by omega
      have hwl2 : ws.length ≤ 12 := by omega
      obtain ⟨Wj, eW⟩ : ∃ W, W = wr := ⟨wr, rfl⟩
      subst eW
      have HWB := Lib.hid HI.out.done
      have HCA := Lib.hid (fun W h => count_any P cp s W (by omega) h)
      rw [HWB.out] at HCA
      simp only [endI, errI] at HCA
      obtain ⟨K, hK⟩ : ∃ K, ws.length = K := ⟨_, rfl⟩
      obtain ⟨A6, c6, rfl, hKc, hgK⟩ := OwnW.formN OW.out hK
      simp only [hK] at HCA
      have HK := Lib.hid hK
      have hK12 : K ≤ 12 := by omega
      clear hK hgK hsz hwl
      go_wp2_with fail
      refine (snew_any _ s Wj (conv_bytes BSP.out)).mono ?_
      rintro e w4 ⟨rfl, rfl⟩
      have n4 := new_val Wj (.cells #[.string s, .int .i64 0] 53)
      have B4 := Lib.hid (then_ BE.out n4)
      have S4 := Lib.hid (BSP.out.below n4 (Nat.le_refl _))
      have OW4 := Lib.hid (OW.out.below n4 (Nat.le_refl _))
      have N4 := Lib.hid (ScanAt.new Wj s)
      have hbase := BE.out.size
      have HBASE := Lib.hid hbase
      clear n4 hbase
      generalize Wj.alloc (.cells #[.string s, .int .i64 0] 53) = w4 at B4 S4 OW4 N4 ⊢
      go_wp2_with fail
      go_loopw [104] (fun i wr => ∃ k q : Nat, i = .int .i64 (k : Int) ∧ k ≤ K ∧ q ≤ s.size ∧ w4.grownBy wr (some Wj.heap.size) ∧ ScanAt wr Wj.heap.size s q ∧ wordsL s.data.toList q = (ws.drop k, none)) (fun i _ => K - (intOf i).toNat)
      case atStart => exact ⟨0, 0, rfl, Nat.zero_le _, Nat.zero_le _, ⟨rfl, rfl, rfl, Nat.le_refl _, fun _ _ _ => rfl⟩, N4.out, HWB.out⟩
      case round =>
        obtain ⟨k, q, rfl, hk, hq, hg2, hS2, hl2⟩ := hrel
        by_cases hlt : k < K
        · have hkw : k < ws.length := by have := HK.out; omega
          rw [List.drop_eq_getElem_cons hkw] at hl2
          obtain ⟨f1, f2, f3, f4⟩ := wordsL_head (by rw [size_list]; exact hq) hl2
          obtain ⟨A7, c7, e6, hf6⟩ := OwnW.form (w := wr) (World.ownsRow.kept OW4.out hg2 (Classical.or_iff_not_imp_left.2 fun _ h => by have h1 := (World.ownsRow.lt OW.out _ h).2; omega))
          obtain rfl : A6 = A7 := by injection e6
          clear e6
          obtain ⟨g6, rfl, hg6, hgb, hc1, hc2', hfz⟩ := hf6 k hkw
          clear hf6
          obtain ⟨⟨f, t⟩, hx⟩ : ∃ x, ws[k] = x := ⟨_, rfl⟩
          rw [hx] at f1 f2 f3 f4 hc1 hc2'
          simp only at f1 f2 f3 f4 hc1 hc2'
          rw [size_list] at f4
          have F1 := Lib.hid f1
          have F2 := Lib.hid f2
          have S2' := Lib.hid hS2
          have G2 := Lib.hid hg2
          clear f1 f2 hx hl2 hS2 hg2
          obtain ⟨E, hE⟩ : ∃ E, s.extract f t = E := ⟨_, rfl⟩
          rw [hE] at hc1
          have HE := Lib.hid hE
          clear hE
          have n7 := new_val wr (.cells #[.string E, .int .i64 (f : Int)] 31)
          have H7 := heap_alloc_new wr (.cells #[.string E, .int .i64 (f : Int)] 31)
          have S7 := S2'.out.below n7 (Nat.le_refl _)
          have G7 := Lib.hid (sgrown_then G2.out (grown_any n7 _))
          have z7 : Wj.heap.size < wr.heap.size := S2'.out.lt
          have HWD := word_ok Wj.heap.size s q f t _ (by unfold maxLen; omega) hq S7 F1.out
          rw [HE.out] at HWD
          have HWD := Lib.hid HWD
          have H7 := Lib.hid H7
          clear n7 S7
          go_wp2_with fail
          refine HWD.out.mono ?_
          rintro e w8 ⟨rfl, hg8, hS8⟩
          have h8 := (hg8.block wr.heap.size (by simp) (by intro e; injection e with e; omega)).trans H7.out
          have hd0 : w8.cell? ⟨wr.heap.size, 0, none⟩ = some (.string E) := by rw [cell_of_row _ _ _ _ _ _ h8]; rfl
          have hd1 : w8.cell? ⟨wr.heap.size, 1, none⟩ = some (.int .i64 (f : Int)) := by rw [cell_of_row _ _ _ _ _ _ h8]; rfl
          have S8 := Lib.hid hS8
          have G8 := Lib.hid (sgrown_then G7.out hg8)
          clear hg8 hS8 h8 hc1 hc2' hfz HWD
          go_wp2_with fail
          go_roundw
          case rel => exact ⟨k + 1, t, by go_num, by omega, by omega, G8.out, S8.out, F2.out⟩
          case measure => simp [intOf]; omega
        · obtain rfl : k = K := by omega
          have hd : ws.drop k = [] := List.drop_eq_nil_of_le (by have := HK.out; omega)
          rw [hd] at hl2
          obtain ⟨Wq, eW⟩ : ∃ W, W = wr := ⟨wr, rfl⟩
          subst eW
          have HQ := Lib.hid hl2
          have S7 := Lib.hid hS2
          have G7 := Lib.hid hg2
          have B7 : Hid (BS Wq P s) := Lib.hid (S4.out.grown hg2 (fun a e h => by injection h with h; have h6 := BSP.out.lt e; omega))
          have D7 : Hid (Below w.heap.size w Wq) := Lib.hid (below_grown B4.out hg2 (Nat.le_refl _) HBASE.out)
          have hkl : ¬ ((k : Int) < (k : Int)) := by omega
          clear hd hl2 hS2 hg2
          go_wp2_with fail
          refine (HCA.out _ B7.out).mono ?_
          rintro e w8 ⟨rfl, b8⟩
          have S8 := Lib.hid (S7.out.below b8 (Nat.le_refl _))
          have D8 := Lib.hid (then_ D7.out b8)
          clear b8
          have hs63 : s.size ≤ maxLen := by unfold maxLen; omega
          have hql : q ≤ s.data.toList.length := by rw [size_list]; exact hq
          obtain ⟨_, hst⟩ | ⟨t, ht, _⟩ := wordsL_stop hql HQ.out
          · have MO := Lib.hid (fun W h => more_any Wj.heap.size s q W hs63 hq h)
            have e := (stepW_none hql hst).1
            rw [size_list] at e
            rw [e, show decide (s.size < s.size) = false by simp] at MO
            have WN := Lib.hid (fun W h => word_none Wj.heap.size s q W hs63 hq h hst)
            clear hst hs63 e
            go_wp2_with fail
            refine (WN.out _ S8.out).mono ?_
            rintro e w10 ⟨rfl, hg, hS⟩
            have G10 := Lib.hid hg
            have S10 := Lib.hid hS
            clear hg hS
            go_wp2_with (go_at_call 16; refine (MO.out _ S10.out).mono ?_; rintro e w11 ⟨rfl, hg⟩; have G11 := Lib.hid hg; clear hg)
            go_ret
            exact ⟨sret_bool (by simp), below_grownO (below_grown D8.out G10.out (Nat.le_refl _) HBASE.out) G11.out (Nat.le_refl _) (by intro g e; cases e)⟩
          · cases ht
end Go.Proofs.YtcfendilaogjlaaDoor
