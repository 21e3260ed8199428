/- Contracts of scan's Read and of the document's Read at any word (no statement of its own). Condition: at most 1000000 bytes; the library's ErrRange holds an error. -/
import Derived.Test.YtcfendilaogjlaaDoorSd0
namespace Go.Proofs.YtcfendilaogjlaaDoor
open Go.RowKit
set_option linter.unusedVariables false
/-- The variable strconv.ErrRange holds an error. -/
def GlobR (W : World) : Prop := ∃ ev, W.cell? ⟨1, 0, none⟩ = some ev ∧ (ev = .nilIface ∨ ∃ te pe, ev = .iface te pe)
theorem GlobR.below {W W' : World} (h : GlobR W) (hb : Below W.heap.size W W') : GlobR W' := by
  obtain ⟨ev, h1, h2⟩ := h
  exact ⟨ev, (hb.cell (p := ⟨1, 0, none⟩) (World.block_lt_of_cell? W _ h1)).trans h1, h2⟩
/-- A word of digits that no int64 holds. -/
theorem read_far (s : ByteArray) (w : World) (hs : s.size ≤ 1000000) (d : List UInt8) (hd : Lib.trimPrefix s.data.toList [45] = d) (hne : d ≠ []) (h : ∀ b ∈ d, tenL.contains b = true) (hv : Lib.parseIntB 64 s.data.toList = .range) (hG : GlobR w) :
    Calls Tryd.prog 19 #[.string s] w fun e w' => e = .returned (.tuple #[.int .i64 (min (max (Lib.intSat 64 s.data.toList) (-4611686018427387904)) 4611686018427387904), .int .i64 0]) ∧ Below w.heap.size w w' := by
  have hdl := trim_len _ _ hd
  rw [size_list] at hdl
  have HP := Lib.hid (fun W => Tryd.strings_TrimPrefix s ⟨#[45]⟩ W)
  have hd' : Lib.trimPrefix s.data.toList (⟨#[45]⟩ : ByteArray).data.toList = d := hd
  rw [hd'] at HP
  have he : (!d.isEmpty) = true := by cases d with
    | nil => exact absurd rfl hne
    | cons => rfl
  have he2 : d.isEmpty = false := by cases d with
    | nil => exact absurd rfl hne
    | cons => rfl
  have ht := trimS_nil d tenL h
  have HT := Lib.hid (fun W => Tryd.strings_Trim_laid ⟨d.toArray⟩ ⟨#[48, 49, 50, 51, 52, 53, 54, 55, 56, 57]⟩ W (by show d.toArray.size ≤ _; rw [List.size_toArray]; omega) (by decide) ten_ascii)
  have ht' : Lib.trimS (⟨d.toArray⟩ : ByteArray).data.toList (⟨#[48, 49, 50, 51, 52, 53, 54, 55, 56, 57]⟩ : ByteArray).data.toList = [] := ht
  rw [ht'] at HT
  have HV := Lib.hid (fun ev W h1 h2 => Tryd.strconv_ParseInt_10_at64_range s (by omega) hv ev W h1 h2)
  have HG := Lib.hid hG
  generalize Lib.intSat 64 s.data.toList = v at HV ⊢
  clear hd hd' h ht ht' hv hG
  go_enter Tryd.func19, Tryd.ntmps19
  go_wp2_with (first | (go_at_call 25; refine (HP.out _).mono ?_; rintro e w' ⟨rfl, rfl⟩) | (go_at_call 26; refine (HT.out _).mono ?_; rintro e w2 ⟨rfl, hb⟩; have HB := Lib.hid hb; clear hb))
  obtain ⟨ev, g1, g2⟩ := HG.out.below HB.out
  have HV2 := Lib.hid (HV.out ev _ g1 g2)
  clear g1 g2
  refine HV2.out.mono ?_
  rintro e w3 ⟨N, rfl, hN, _, hb⟩
  have HB2 := Lib.hid hb
  clear hb
  go_wp2_with fail
  go_ret2
  exact ⟨rfl, then_ HB.out HB2.out⟩
/-- Read at any word. -/
theorem read_any (s : ByteArray) (w : World) (hs : s.size ≤ 1000000) (hG : GlobR w) :
    Calls Tryd.prog 19 #[.string s] w fun e w' => e = .returned (.tuple #[.int .i64 (readV s.data.toList), .int .i64 (readE s.data.toList)]) ∧ Below w.heap.size w w' := by
  have ten : ∀ b : UInt8, (48 ≤ b.toNat ∧ b.toNat ≤ 57) → tenL.contains b = true := by
    intro b ⟨h1, h2⟩
    have : b.toNat = 48 ∨ b.toNat = 49 ∨ b.toNat = 50 ∨ b.toNat = 51 ∨ b.toNat = 52 ∨ b.toNat = 53 ∨ b.toNat = 54 ∨ b.toNat = 55 ∨ b.toNat = 56 ∨ b.toNat = 57 := by omega
    have e : ∀ k : UInt8, b.toNat = k.toNat → b = k := fun k h => UInt8.toNat_inj.1 h
    rcases this with h | h | h | h | h | h | h | h | h | h
    · rw [e 48 h]; rfl
    · rw [e 49 h]; rfl
    · rw [e 50 h]; rfl
    · rw [e 51 h]; rfl
    · rw [e 52 h]; rfl
    · rw [e 53 h]; rfl
    · rw [e 54 h]; rfl
    · rw [e 55 h]; rfl
    · rw [e 56 h]; rfl
    · rw [e 57 h]; rfl
  have net : ∀ b : UInt8, ¬ (48 ≤ b.toNat ∧ b.toNat ≤ 57) → tenL.contains b = false := by
    intro b h
    cases hc : tenL.contains b with
    | false => rfl
    | true =>
      exfalso
      apply h
      simp at hc
      rcases hc with rfl | rfl | rfl | rfl | rfl | rfl | rfl | rfl | rfl | rfl <;> decide
  have hd := trim_digs s.data.toList
  cases ho : okD (digs s.data.toList) with
  | true =>
    have hp := (okD_iff _).1 ho
    have e : readE s.data.toList = 0 := by unfold readE; rw [if_pos ho]
    rw [e]
    rcases parse_digs s.data.toList ho with ⟨v, h1, h2⟩ | ⟨h1, h2⟩
    · rw [← h2]
      exact read_ok s w hs _ v hd hp.1 (fun b hb => ten b (hp.2 b hb)) h1
    · rw [← h2]
      exact read_far s w hs _ hd hp.1 (fun b hb => ten b (hp.2 b hb)) h1 hG
  | false =>
    have e : readE s.data.toList = 4 := by unfold readE; rw [if_neg (by simp [ho])]
    have e2 : readV s.data.toList = 0 := by unfold readV; rw [if_neg (by simp [ho])]
    rw [e, e2]
    refine read_form s w hs _ hd ?_
    by_cases hn : digs s.data.toList = []
    · exact .inl hn
    · refine .inr (Classical.byContradiction fun hc => ?_)
      have : okD (digs s.data.toList) = true := (okD_iff _).2 ⟨hn, fun c hcm => Classical.byContradiction fun h => hc ⟨c, hcm, net c h⟩⟩
      rw [ho] at this
      cases this
end Go.Proofs.YtcfendilaogjlaaDoor
