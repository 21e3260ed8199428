/- Contract of the sorted keys (no statement of its own). No condition. -/
import Derived.Test.YteocbgcgfllieaaGreatDoorUjw
import Derived.Shelf.SlSortCmp.NoneTotal
namespace Go.Proofs.YteocbgcgfllieaaGreatDoor
open Go.RowKit Go.Shelf Go.Maps Go.Sort
set_option linter.unusedVariables false
attribute [local go_sem] Oper.semAt_some
theorem cellsK_get : ∀ (ts : List (List Nat)) (j : Nat), j < ts.length * 6 → (cellsK ts)[j]? = (encK (ts.getD (j / 6) []))[j % 6]?
  | [], j, h => by simp at h
  | t :: ts, j, h => by
    rw [cellsK_cons]
    by_cases hj : j < 6
    · rw [List.getElem?_append_left (by simpa [encK] using hj), Nat.div_eq_of_lt hj, Nat.mod_eq_of_lt hj]
      rfl
    · have h' : j - 6 < ts.length * 6 := by simp at h; omega
      rw [List.getElem?_append_right (by simp [encK]; omega), show (encK t).length = 6 from rfl, cellsK_get ts (j - 6) h']
      have e1 : j / 6 = (j - 6) / 6 + 1 := by omega
      have e2 : j % 6 = (j - 6) % 6 := by omega
      rw [e1, e2]
      rfl
theorem flat_get (d : List (List Nat)) (j : Nat) (h : j < d.length * 6) : (cellsK d)[j]? = some ((Go.Sort.flatK encK 6 d.toArray)[j]!) := by
  rw [cellsK_get d j h, get_flatK encK 6 d.toArray j (by simpa using h)]
  have h6 : j % 6 < (encK (d.getD (j / 6) [])).length := by show j % 6 < 6; omega
  rw [List.getElem?_eq_getElem h6]
  have hd : j / 6 < d.length := by omega
  have e : d.toArray[j / 6]! = d.getD (j / 6) [] := by
    rw [getElem!_pos d.toArray (j / 6) (by simpa using hd)]
    simp [List.getD_eq_getElem?_getD, hd]
  rw [e, getElem!_pos (encK (d.getD (j / 6) [])) (j % 6) h6]
theorem holds_keys {w : World} {g cap : Nat} {cur : Array Value} {e : TypeId} {d : List (List Nat)} (hb : w.heap[g]? = some (.cells cur e (0, 0))) (ht : cur.toList.take (d.length * 6) = cellsK d) : HoldsK encK 6 w g 0 d.toArray := by
  intro j hj
  have hj' : j < d.length * 6 := by simpa using hj
  refine ⟨?_, by simp [World.frozen?, hb]⟩
  have h1 : (cur.toList.take (d.length * 6))[j]? = (cellsK d)[j]? := by rw [ht]
  rw [List.getElem?_take_of_lt hj', flat_get d j hj'] at h1
  rw [Nat.zero_add, cell_of_row w g j cur e (0, 0) hb, ← Array.getElem?_toList, h1]
  rfl
theorem heap_sortedK {w : World} {g n : Nat} {os : Array Obj} {cur : Array Value} {e : TypeId} {fr : Nat × Nat} (d : Array (List Nat)) (hb : w.heap[g]? = some (.cells cur e fr)) :
    (sortWorldK encK 6 w g 0 n d os).heap[g]? = some (.cells (putCells id 0 (Go.Sort.flatK encK 6 d) cur) e fr) := by
  have hg : g < w.heap.size := (Array.getElem?_eq_some_iff.1 hb).1
  unfold sortWorldK putRowK
  rw [heap_grow_old _ _ (by simpa using hg)]
  simp [putRow, mapBlock, Sort.ahead, Array.getElem?_modify, hb]
  rfl
theorem grownBy_sortedK {w : World} {g n : Nat} {os : Array Obj} (d : Array (List Nat)) : w.grownBy (sortWorldK encK 6 w g 0 n d os) (some g) := by
  unfold sortWorldK putRowK
  refine ⟨rfl, rfl, rfl, by simp, fun k hk hne => ?_⟩
  rw [heap_grow_old _ _ (by simpa using hk)]
  have : g ≠ k := fun e => hne (by rw [e])
  simp [putRow, mapBlock, Sort.ahead, Array.getElem?_modify, this]
theorem take_putK (cur : Array Value) (d : List (List Nat)) (h : d.length * 6 ≤ cur.size) : (putCells id 0 (Go.Sort.flatK encK 6 d.toArray) cur).toList.take (d.length * 6) = cellsK d := by
  apply List.ext_getElem?
  intro j
  by_cases hj : j < d.length * 6
  · rw [List.getElem?_take_of_lt hj, Array.getElem?_toList, flat_get d j hj]
    simp [putCells, hj, show j < cur.size by omega]
  · rw [List.getElem?_take_eq_none (by omega), List.getElem?_eq_none (by rw [cellsK_len]; omega)]
theorem ownsRow_sortedK {w : World} {base g cap n : Nat} {e : TypeId} {os : Array Obj} {cur : Array Value} {d d' : List (List Nat)} (hl : d'.length = d.length) (hbase : base ≤ g) (hb : w.heap[g]? = some (.cells cur e (0, 0)))
    (h1 : d.length ≤ cap) (h2 : cap ≤ maxLen) (h3 : cur.size = cap * 6) :
    (sortWorldK encK 6 w g 0 n d'.toArray os).ownsRow base e 6 (.slice (some ⟨g, 0, none⟩) d.length cap) d.length (cellsK d') :=
  ⟨by rw [cellsK_len, hl], .inr ⟨g, cap, _, rfl, hbase, heap_sortedK _ hb, h1, h2, by simp [putCells, h3], by rw [← hl]; exact take_putK cur d' (by omega)⟩⟩
theorem rise_uniqU {l t : List Nat} (h1 : l.Pairwise (· < ·)) (h2 : t.Pairwise (· < ·)) (h : ∀ x, x ∈ l ↔ x ∈ t) : l = t := by
  induction l generalizing t with
  | nil =>
    cases t with
    | nil => rfl
    | cons b t => exact absurd ((h b).2 (by simp)) (by simp)
  | cons a l ih =>
    cases t with
    | nil => exact absurd ((h a).1 (by simp)) (by simp)
    | cons b t =>
      have p1 := List.pairwise_cons.1 h1
      have p2 := List.pairwise_cons.1 h2
      have hab : a = b := by
        rcases List.mem_cons.1 ((h a).1 (by simp)) with e | e
        · exact e
        · rcases List.mem_cons.1 ((h b).2 (by simp)) with e2 | e2
          · exact e2.symm
          · have := p1.1 b e2
            have := p2.1 a e
            omega
      subst hab
      refine congrArg _ (ih p1.2 p2.2 fun x => ⟨fun hx => ?_, fun hx => ?_⟩)
      · rcases List.mem_cons.1 ((h x).1 (List.mem_cons_of_mem _ hx)) with e | e
        · have := p1.1 x hx; omega
        · exact e
      · rcases List.mem_cons.1 ((h x).2 (List.mem_cons_of_mem _ hx)) with e | e
        · have := p2.1 x hx; omega
        · exact e
/-- What is sorted, and has just these tuples, is these tuples in their order. -/
theorem sorted_lines {l : List Nat} {o : Int} {f : List Nat → Int} (hl : ∀ n ∈ l, 1 ≤ n) (h6 : l.length ≤ 6) {ks : List (List Nat)} (hnd : ks.Nodup) (hm : ∀ t, t ∈ ks ↔ InL l t ∧ f t ≠ o) (hs : SortedIn (ltOf cmpK) 0 ks.length ks.toArray) : ks = linesT l o f := by
  have hp : (ks.map (numL l)).Pairwise (· < ·) := by
    rw [List.pairwise_map, List.pairwise_iff_getElem]
    intro i j hi hj hij
    have h1 := hs i j (Nat.zero_le _) hij hj
    rw [getElem!_pos ks.toArray i (by simpa using hi), getElem!_pos ks.toArray j (by simpa using hj)] at h1
    simp only [List.getElem_toArray] at h1
    rw [ltOf_cmpK] at h1
    have mi := ((hm ks[i]).1 (List.getElem_mem hi)).1
    have mj := ((hm ks[j]).1 (List.getElem_mem hj)).1
    have h2 := of_decide_eq_false h1
    rw [cmp_num 6 h6 mj mi] at h2
    have h3 : numL l ks[i] ≠ numL l ks[j] := fun e => by
      have e' : ks[i] = ks[j] := by rw [← mi.tup, ← mj.tup, e]
      have := (List.nodup_iff_pairwise_ne.1 hnd)
      rw [List.pairwise_iff_getElem] at this
      exact this i j hi hj hij e'
    omega
  have hq : ((linesT l o f).map (numL l)).Pairwise (· < ·) := by
    rw [linesT_num]
    exact List.pairwise_lt_range.filter _
  have he := rise_uniqU hp hq fun x => by
    simp only [List.mem_map]
    constructor
    · rintro ⟨t, ht, rfl⟩
      exact ⟨t, (linesT_mem hl t).2 ((hm t).1 ht), rfl⟩
    · rintro ⟨t, ht, rfl⟩
      exact ⟨t, (hm t).2 ((linesT_mem hl t).1 ht), rfl⟩
  have back : ∀ xs : List (List Nat), (∀ t ∈ xs, InL l t) → (xs.map (numL l)).map (tupL l) = xs := fun xs hx => by
    rw [List.map_map]
    conv => rhs; rw [← List.map_id xs]
    exact List.map_congr_left fun t ht => (hx t ht).tup
  rw [← back ks (fun t ht => ((hm t).1 ht).1), he, back _ (fun t ht => ((linesT_mem hl t).1 ht).1)]
theorem nodup_lenU : ∀ {V L : List Nat}, V.Pairwise (· ≠ ·) → (∀ x ∈ V, x ∈ L) → V.length ≤ L.length
  | [], L, _, _ => Nat.zero_le _
  | x :: V, L, h, hs => by
    have hx := hs x (List.mem_cons_self ..)
    have h2 := List.pairwise_cons.1 h
    have ih := nodup_lenU (L := L.erase x) h2.2 fun y hy => (List.mem_erase_of_ne (fun e => h2.1 y hy e.symm)).2 (hs y (List.mem_cons_of_mem _ hy))
    rw [List.length_erase_of_mem hx] at ih
    have : 0 < L.length := List.length_pos_of_mem hx
    show V.length + 1 ≤ L.length
    omega
theorem tuples_len {l : List Nat} (h6 : l.length ≤ 6) (h32 : ∀ n ∈ l, n ≤ 32) {d : List (List Nat)} (hnd : d.Nodup) (hm : ∀ t ∈ d, InL l t) : d.length ≤ 1073741824 := by
  have h1 : (d.map (numL l)).Pairwise (· ≠ ·) := by
    rw [List.pairwise_map]
    have h := List.nodup_iff_pairwise_ne.1 hnd
    rw [List.pairwise_iff_getElem] at h ⊢
    intro i j hi hj hij e
    exact h i j hi hj hij (by rw [← (hm _ (List.getElem_mem hi)).tup, ← (hm _ (List.getElem_mem hj)).tup, e])
  have h2 := nodup_lenU (L := List.range (prodL l)) h1 fun x hx => by
    obtain ⟨t, ht, rfl⟩ := List.mem_map.1 hx
    exact List.mem_range.2 (hm t ht).num_lt
  rw [List.length_map, List.length_range] at h2
  have h3 := prodL_le h32
  have h4 : 32 ^ l.length ≤ 32 ^ 6 := Nat.pow_le_pow_right (by omega) h6
  have h5 : (32 : Nat) ^ 6 = 1073741824 := by decide
  omega
theorem collectK_any (Bm b nn : Nat) (l : List Nat) (o : Int) (f : List Nat → Int) (D0 : DataW Unit) (hrep : RepF D0 l o f) (h6 : l.length ≤ 6) (h32 : ∀ n ∈ l, n ≤ 32) (w : World) (hBm : Bm < w.heap.size)
    (hm : w.cell? ⟨Bm, 0, none⟩ = some (.map (some b))) (hown : w.ownsMap Tryz.prog 103 (plainElem Tryz.prog 2) b nn D0) (hsz : Maps.size D0 ≤ 1000000) :
    Calls Tryz.prog 100 #[.func (.func 102) #[] #[.pointer (some ⟨Bm, 0, none⟩)]] w fun e W' => ∃ v, e = .returned v ∧ (∃ ts : List (TT l), Coll D0 l (fun _ => false) ts ∧ W'.ownsRow w.heap.size 103 6 v ts.length (cellsK (valsT ts))) ∧ Below w.heap.size w W' := by
  have C := Lib.hid (callsIn_wide.1 (appendK_in 3 (Nat.le_refl _) Bm b nn l o f D0 hrep h6 h32 w hBm hm hown hsz))
  clear hm hown hrep
  go_enter Tryz.func100, Tryz.ntmps100
  go_wp2_with (go_at_call 116; refine C.out.mono ?_; rintro e w' ⟨v, rfl, h1, h2⟩)
  go_ret
  exact ⟨_, rfl, h1, h2⟩
theorem isAggK : ∀ w, (isAgg 103).run Tryz.prog w = .ok true w := fun w => by kernel_rfl
theorem sizeOfK : ∀ w, (Go.sizeOf 103).run Tryz.prog w = .ok 6 w := fun w => by kernel_rfl
set_option maxHeartbeats 1000000 in
theorem sortedK_any (Bm b nn : Nat) (l : List Nat) (o : Int) (f : List Nat → Int) (D0 : DataW Unit) (hrep : RepF D0 l o f) (h6 : l.length ≤ 6) (h32 : ∀ n ∈ l, 1 ≤ n ∧ n ≤ 32) (w : World) (hBm : Bm < w.heap.size)
    (hm : w.cell? ⟨Bm, 0, none⟩ = some (.map (some b))) (hown : w.ownsMap Tryz.prog 103 (plainElem Tryz.prog 2) b nn D0) (hsz : Maps.size D0 ≤ 1000000) :
    Calls Tryz.prog 91 #[.func (.func 102) #[] #[.pointer (some ⟨Bm, 0, none⟩)], .func (.func 93) #[] #[]] w fun e W' => (∃ v, e = .returned v ∧ W'.ownsRow w.heap.size 103 6 v (linesT l o f).length (cellsK (linesT l o f))) ∧ Below w.heap.size w W' := by
  have C := Lib.hid (collectK_any Bm b nn l o f D0 hrep h6 (fun n hn => (h32 n hn).2) w hBm hm hown hsz)
  have HRep := Lib.hid hrep
  have H1 : Hid (∀ n ∈ l, 1 ≤ n) := Lib.hid fun n hn => (h32 n hn).1
  have HU : Hid (∀ n ∈ l, n ≤ 32) := Lib.hid fun n hn => (h32 n hn).2
  clear hm hown hrep h32
  go_enter Tryz.func91, Tryz.ntmps91
  go_wp2_with fail
  refine C.out.mono ?_
  rintro e w1 ⟨v, rfl, ⟨ts, hC, hO⟩, hb⟩
  have HM : ∀ t, t ∈ valsT ts ↔ InL l t ∧ f t ≠ o := fun t => by
    rw [hC.mem t]
    constructor
    · rintro ⟨h1, h2, _⟩
      rw [(HRep.out.1 t h1).1] at h2
      exact ⟨h1, of_decide_eq_true h2⟩
    · rintro ⟨h1, h2⟩
      exact ⟨h1, by rw [(HRep.out.1 t h1).1]; exact decide_eq_true h2, rfl⟩
  obtain ⟨hl, ⟨rfl, h0⟩ | ⟨gb, cap, cur, rfl, hbase, hgb, r1, r2, r3, r4⟩⟩ := hO
  · have hts : ts = [] := List.eq_nil_of_length_eq_zero h0
    have hlines : linesT l o f = [] := by
      refine List.eq_nil_iff_forall_not_mem.2 fun t ht => ?_
      have := (HM t).2 ((linesT_mem H1.out t).1 ht)
      rw [hts] at this
      simp at this
    have HL := Lib.hid hlines
    have HB := Lib.hid hb
    have SN : Hid (Calls Tryz.prog 101 #[.slice none 0 0, .func (.func 93) #[] #[]] w1 _) := Lib.hid (AnyF.slices_SortFunc_none Tryz.sortK none 0 (.func (.func 93) #[] #[]) w1)
    clear hl h0 hts hlines hb HM hC
    go_wp2_with (go_at_call 101; refine SN.out.mono ?_; rintro e w' ⟨rfl, rfl⟩)
    go_ret
    exact ⟨⟨_, rfl, by rw [HL.out]; exact World.ownsRow_nil _ _ _ _⟩, HB.out⟩
  · obtain ⟨d, hd⟩ : ∃ d, valsT ts = d := ⟨_, rfl⟩
    have hn : ts.length = d.length := by rw [← hd, List.length_map]
    rw [hd] at HM r4
    have hnd : d.Nodup := by rw [← hd]; exact hC.nd
    rw [hn] at r1 r4 ⊢
    have HH := holds_keys (cap := cap) hgb r4
    have hgl : gb < w1.heap.size := (Array.getElem?_eq_some_iff.1 hgb).1
    have eg : ∀ args w, (callFunc 93 args).run Tryz.prog w = .ok (.enter 93 args) w := enters_of Tryz.func93 (by kernel_rfl) rfl
    have SS := AnyQ.slices_SortFunc Tryz.sortK 6 isAggK sizeOfK encK (fun _ => rfl) encK_one cmpK swoK 93 #[] gb 0 cap d.toArray w1 eg (cmpLaysK gb 0 _ w1) HH hgl (by rw [List.size_toArray]; have := tuples_len h6 HU.out hnd (fun t ht => ((HM t).1 ht).1); omega)
    rw [List.size_toArray] at SS
    have FIN : Hid (∀ (d' : Array (List Nat)) (nn : Nat) (os : Array Obj), PermIn 0 d.length d.toArray d' → SortedIn (ltOf cmpK) 0 d.length d' →
        (sortWorldK encK 6 w1 gb 0 nn d' os).ownsRow w.heap.size 103 6 (.slice (some ⟨gb, 0, none⟩) d.length cap) (linesT l o f).length (cellsK (linesT l o f)) ∧ Below w.heap.size w (sortWorldK encK 6 w1 gb 0 nn d' os)) := Lib.hid fun d' nn os hp hs => by
      have hsz' : d'.size = d.length := by have h := hp.1; rw [List.size_toArray] at h; exact h
      have hperm : d'.toList.Perm d := by
        have h := hp.2.2
        have e1 : d'.extract 0 d.length = d' := by rw [← hsz']; exact Array.extract_size
        have e2 : d.toArray.extract 0 d.length = d.toArray := by simp
        rw [e1, e2] at h
        exact h
      have hk : d'.toList = linesT l o f := sorted_lines H1.out h6 (hperm.nodup_iff.2 hnd) (fun t => by rw [hperm.mem_iff]; exact HM t) (by rw [Array.length_toList, hsz']; simpa using hs)
      have hlen : (linesT l o f).length = d.length := by rw [← hk, Array.length_toList, hsz']
      have h := ownsRow_sortedK (base := w.heap.size) (n := nn) (os := os) (d := d) (d' := d'.toList) (by rw [Array.length_toList, hsz']) hbase hgb r1 r2 r3
      rw [hk] at h
      have e3 : (linesT l o f).toArray = d' := by rw [← hk]
      rw [e3] at h
      rw [hlen]
      exact ⟨h, hb.grown (grownBy_sortedK _) hb.size (fun j hj => by cases hj; exact hbase)⟩
    have SS' := Lib.hid (show Calls Tryz.prog 101 #[.slice (some ⟨gb, 0, none⟩) d.length cap, .func (.func 93) #[] #[]] w1 _ from SS)
    clear hl hb hgb r1 r2 r3 r4 HH hgl eg SS hnd HM hC hd hn
    go_wp2_with (go_at_call 101; refine SS'.out.mono ?_; rintro e w' ⟨rfl, d', nn, os, hp, hs, rfl⟩)
    have F2 := Lib.hid (FIN.out d' nn os hp hs)
    clear FIN SS' hp hs
    go_ret
    exact ⟨⟨_, rfl, F2.out.1⟩, F2.out.2⟩
end Go.Proofs.YteocbgcgfllieaaGreatDoor
