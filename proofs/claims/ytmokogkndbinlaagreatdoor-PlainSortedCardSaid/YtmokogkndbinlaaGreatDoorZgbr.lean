import Derived.Test.YtmokogkndbinlaaGreatDoorZgbq
set_option linter.all false
namespace Go.Proofs.YtmokogkndbinlaaGreatDoor
open Go.Lib (hid)
open Go.RowKit
def RW {α : Type} (l : List UInt8) (k : Nat) : RdR α → Prop
 | .bad e t => e = 11 → (wordsL l k).2 = some t
 | .ok _ s' => s'.k ≤ l.length ∧ (wordsL l s'.k).2 = (wordsL l k).2
theorem RW.bind {α β : Type} {l : List UInt8} {k : Nat} {x : RdR α} {f : α → RdS → RdR β} (h : RW l k x) (hf : ∀ a s', s'.k ≤ l.length → RW l s'.k (f a s')) : RW l k (x.bind f) := by
 cases x with
 | bad e t => exact h
 | ok a s' =>
  have h2 := hf a s' h.1
  show RW l k (f a s')
  cases hx : f a s' with
  | bad e t => rw [hx] at h2; intro he; exact h.2 ▸ h2 he
  | ok b s'' => rw [hx] at h2; exact ⟨h2.1, h2.2.trans h.2⟩
theorem wordM_rw {l : List UInt8} {s : RdS} (hk : s.k ≤ l.length) : RW l s.k (wordM l s) := by
 unfold wordM
 rcases wordsL_cases hk with ⟨h1, ⟨h2, h3⟩ | ⟨t, h2, h3⟩⟩ | ⟨f, t, h1, h2, h3⟩
 ·rw [h2]; intro h; cases h
 ·rw [h2]; exact fun _ => h3
 rw [h1]; exact ⟨(stepW_word hk h1).2.2.1, h3.symm⟩
theorem RW.bad4 {α : Type} {l : List UInt8} {k p : Nat} : RW l k (.bad 4 p : RdR α) := fun h => by cases h
theorem RW.ok {α : Type} {l : List UInt8} {s : RdS} (hk : s.k ≤ l.length) (a : α) : RW l s.k (.ok a s : RdR α) := ⟨hk, rfl⟩
theorem numM_rw {l : List UInt8} {lo hi : Int} {s : RdS} (hk : s.k ≤ l.length) : RW l s.k (numM l lo hi s) :=
 (wordM_rw hk).bind fun w s' h => by
  split
  ·exact RW.ok h _
  exact RW.bad4
theorem scopeM_rw {l : List UInt8} {nv : Nat} : ∀ {n : Nat} {acc : List Nat} {s : RdS}, s.k ≤ l.length → RW l s.k (scopeM l nv n acc s)
 | 0, acc, s, h => RW.ok h _
 | n + 1, acc, s, h => (numM_rw h).bind fun v s' h' => by
  split
  ·exact RW.bad4
  exact scopeM_rw h'
theorem tupleM_rw {l : List UInt8} {sizes : List Nat} : ∀ {sc acc : List Nat} {s : RdS}, s.k ≤ l.length → RW l s.k (tupleM l sizes sc acc s)
 | [], acc, s, h => RW.ok h _
 | v :: r, acc, s, h => (numM_rw h).bind fun c s' h' => tupleM_rw h'
theorem linesM_rw {l : List UInt8} {sizes sc : List Nat} : ∀ {n : Nat} {acc : List LineM} {s : RdS}, s.k ≤ l.length → RW l s.k (linesM l sizes sc n acc s)
 | 0, acc, s, h => RW.ok h _
 | n + 1, acc, s, h => (tupleM_rw h).bind fun x s' h' => (numM_rw h').bind fun c s'' h'' => by
  split
  ·exact RW.bad4
  exact linesM_rw h''
theorem RW.lim {α : Type} {l : List UInt8} {s : RdS} {b : Bool} {p : Nat} {r : RdR α} (h : RW l (limS b p s).k r) : RW l s.k r := by rw [limS_k] at h; exact h
theorem lim_le {l : List UInt8} {s : RdS} {b : Bool} {p : Nat} (h : s.k ≤ l.length) : (limS b p s).k ≤ l.length := by rw [limS_k]; exact h
theorem funLines_rw {l : List UInt8} {sizes sc : List Nat} {a : AccM} {s : RdS} (h : s.k ≤ l.length) : RW l s.k (funLines l sizes sc a s) :=
 (numM_rw h).bind fun m s' h' => by
  split
  ·split
   ·split
    ·exact RW.ok h' _
    exact RW.bad4
   exact RW.bad4
  exact RW.lim ((linesM_rw (lim_le h')).bind fun ls s'' h'' => RW.ok h'' _)
theorem funM_rw {l : List UInt8} {sizes : List Nat} {a : AccM} {s : RdS} (h : s.k ≤ l.length) : RW l s.k (funM l sizes a s) :=
 (numM_rw h).bind fun ar s1 h1 => (scopeM_rw h1).bind fun sc s2 h2 => RW.lim ((numM_rw (lim_le h2)).bind fun o s3 h3 => (funLines_rw h3).bind fun ls s4 h4 => RW.ok h4 _)
theorem funsM_rw {l : List UInt8} {sizes : List Nat} : ∀ {n : Nat} {a : AccM} {s : RdS}, s.k ≤ l.length → RW l s.k (funsM l sizes n a s)
 | 0, a, s, h => RW.ok h _
 | n + 1, a, s, h => (funM_rw h).bind fun a' s' h' => funsM_rw h'
theorem sizesM_rw {l : List UInt8} {most : Int} : ∀ {n : Nat} {acc : List Nat} {s : RdS}, s.k ≤ l.length → RW l s.k (sizesM l most n acc s)
 | 0, acc, s, h => RW.ok h _
 | n + 1, acc, s, h => (numM_rw h).bind fun v s' h' => RW.lim (sizesM_rw (lim_le h'))
theorem fileM_rw {l : List UInt8} {lo : Int} : RW l 0 (fileM l lo) :=
 (wordM_rw (s := ⟨0, none⟩) (Nat.zero_le _)).bind fun w s1 h1 => RW.lim ((numM_rw (lim_le h1)).bind fun n s2 h2 => RW.lim ((numM_rw (lim_le h2)).bind fun g s3 h3 => (numM_rw h3).bind fun c s4 h4 =>
  RW.lim ((numM_rw (lim_le h4)).bind fun k s5 h5 => RW.lim ((sizesM_rw (lim_le h5)).bind fun sz s6 h6 => (funsM_rw h6).bind fun a s7 h7 => by
   rcases wordsL_cases h7 with ⟨h1, ⟨h2, h3⟩ | ⟨t, h2, h3⟩⟩ | ⟨f, t, h1, h2, h3⟩
   ·rw [h2]; exact RW.ok h7 _
   ·rw [h2]; exact fun _ => h3
   ·rw [h1]; exact RW.bad4))))
structure SzE (w W : World) (b fb : Nat) (nm kv : Value) (s : ByteArray) (v0 : DrV) (E : RdR FileM) (C : List Nat → RdS → RdR FileM) (acc : List Nat) (Az : Option Addr) (cz : Nat) (v' : DrV) : Prop where
 f : RS w W b fb nm kv (.slice Az acc.length cz) (.slice none 0 0)
 own : Own6 W w.heap.size (.slice Az acc.length cz) acc
 rd : DrIn W b s v0 v' E (C acc)
 few : v'.bad = 0 → acc.length ≤ 100000
 small : ∀ x ∈ acc, x ≤ 4611686018427387904
theorem FrD.keepD {W W' : World} {b base : Nat} {v : DrV} {sh : Value} {us : List (Value × Value × Int × Value)} (h : FrD W b sh.ownBlock W') (ha : DrAt W b v) (ho : OwnFd W base sh us) : KeepD W W' := by
 have key : ∀ (t : TypeId) (g : Nat) (cur : Array Value) (fr : Nat × Nat), t ≠ 171 → t ≠ 40 → W.heap[g]? = some (.cells cur t fr) → W'.heap[g]? = W.heap[g]? := fun t g cur fr h1 h2 hc =>
  h.block g (Array.getElem?_eq_some_iff.1 hc).1 (fun e => by
   subst e
   have ha' : W.heap[g]? = some (.cells (drC v) 171 (0, 0)) := ha
   rw [hc] at ha'
   injection ha' with ha'
   injection ha' with _ e
   exact h1 e) (fun e => by
   obtain ⟨_, _, cur', hc'⟩ := ho.obj g e
   rw [hc] at hc'
   injection hc' with hc'
   injection hc' with _ e
   exact h2 e)
 exact ⟨fun g cur fr h => key _ g cur fr (by decide) (by decide) h, fun g cur fr h => key _ g cur fr (by decide) (by decide) h, fun g cur fr h => key _ g cur fr (by decide) (by decide) h⟩
def FsK (W : World) (b fb : Nat) (s : ByteArray) (sizes : List Nat) (fv : Value) (us : List (Value × Value × Int × Value)) (v' : DrV) (E : RdR FileM) (C : AccM → RdS → RdR FileM) : Prop :=
 (∃ a st us', DrOk W b s st v' ∧ AccOk sizes a st ∧ v'.lines = a.told ∧ OwnFd W (fb + 1) v'.shared us' ∧ FdIs W sizes us' a.shared ∧ FdIs W sizes us a.funs ∧ (v'.shared.ownBlock = none ∨ v'.shared.ownBlock ≠ fv.ownBlock) ∧ E = C a st) ∨ (∃ e p, DrBad W b e p v' ∧ E = .bad e p)
theorem FsK.conv {W : World} {b fb : Nat} {s : ByteArray} {sizes : List Nat} {fv : Value} {us : List (Value × Value × Int × Value)} {v' : DrV} {E : RdR FileM} {C C' : AccM → RdS → RdR FileM} (h : FsK W b fb s sizes fv us v' E C) (hC : v'.bad = 0 → ∀ a st, C a st = C' a st) : FsK W b fb s sizes fv us v' E C' := by
 rcases h with ⟨a, st, us', h1, h2, h3, h4, h5, h6, h7, h8⟩ | h
 ·exact .inl ⟨a, st, us', h1, h2, h3, h4, h5, h6, h7, h8.trans (hC h1.fine a st)⟩
 exact .inr h
theorem FsK.at_ {W : World} {b fb : Nat} {s : ByteArray} {sizes : List Nat} {fv : Value} {us : List (Value × Value × Int × Value)} {v' : DrV} {E : RdR FileM} {C : AccM → RdS → RdR FileM} (h : FsK W b fb s sizes fv us v' E C) : DrAt W b v' := by
 rcases h with ⟨a, st, us', h1, _⟩ | ⟨e, p, h, _⟩
 ·exact h1.at_
 exact h.at_
structure FsD (w W : World) (b fb : Nat) (nm kv : Value) (Az : Option Addr) (cz : Nat) (s : ByteArray) (sizes : List Nat) (E : RdR FileM) (C : AccM → RdS → RdR FileM) (j : Nat) (us : List (Value × Value × Int × Value)) (fv : Value) (v' : DrV) : Prop where
 f : RS w W b fb nm kv (.slice Az sizes.length cz) fv
 szs : I6 W Az sizes
 own : OwnFd W w.heap.size fv us
 k : FsK W b fb s sizes fv us v' E C
 len : us.length = j
 few : j ≤ 100001
 nv : v'.bad = 0 → sizes.length ≤ 100000
theorem FsD.below {w W W' : World} {b fb : Nat} {nm kv : Value} {Az : Option Addr} {cz : Nat} {s : ByteArray} {sizes : List Nat} {E : RdR FileM} {C : AccM → RdS → RdR FileM} {j : Nat} {us : List (Value × Value × Int × Value)} {fv : Value} {v' : DrV} (h : FsD w W b fb nm kv Az cz s sizes E C j us fv v') (hb : Below W.heap.size W W') : FsD w W' b fb nm kv Az cz s sizes E C j us fv v' := by
 have K := KeepD.below hb
 refine ⟨h.f.below hb, h.szs.keep K, h.own.keepB (fun g _ h5 _ => hb.block g h5), ?_, h.len, h.few, h.nv⟩
 have ha : DrAt W' b v' := (hb.block b h.k.at_.lt).trans h.k.at_
 rcases h.k with ⟨a, st, us', h1, h2, h3, h4, h5, h6, h7, h8⟩ | ⟨e, p, h1, h2⟩
 ·exact .inl ⟨a, st, us', h1.keepAt ha K, h2, h3, h4.keepB (fun g _ h5 _ => hb.block g h5), h5.keep K, h6.keep K, h7, h8⟩
 exact .inr ⟨e, p, h1.keepAt ha rfl rfl, h2⟩
def FunRes (s : ByteArray) (b base : Nat) (sizes : List Nat) (v : DrV) (a : AccM) (E : RdR AccM) (w : World) (A1 : Option Addr) (n1 c1 : Nat) (A2 : Option Addr) (n2 c2 : Nat) (o : Int) (A3 : Option Addr) (n3 c3 : Nat) (v'' : DrV) (w' : World) : Prop :=
 FrD w b v.shared.ownBlock w' ∧ (v''.shared.ownBlock = v.shared.ownBlock ∨ ∃ k, v''.shared.ownBlock = some k ∧ w.heap.size ≤ k) ∧
  ((∃ f a' st' us', E = .ok a' st' ∧ a'.funs = a.funs ++ [f] ∧ f.other = o ∧ FnV w' sizes (.slice A1 n1 c1) (.slice A2 n2 c2) (.slice A3 n3 c3) f ∧ DrOk w' b s st' v'' ∧ v''.lines = a'.told ∧ OwnFd w' base v''.shared us' ∧ FdIs w' sizes us' a'.shared) ∨ ∃ e' p, DrBad w' b e' p v'' ∧ E = .bad e' p)
theorem FunRes.at_ {s : ByteArray} {b base : Nat} {sizes : List Nat} {v : DrV} {a : AccM} {E : RdR AccM} {w : World} {A1 : Option Addr} {n1 c1 : Nat} {A2 : Option Addr} {n2 c2 : Nat} {o : Int} {A3 : Option Addr} {n3 c3 : Nat} {v'' : DrV} {w' : World} (h : FunRes s b base sizes v a E w A1 n1 c1 A2 n2 c2 o A3 n3 c3 v'' w') : DrAt w' b v'' := by
 rcases h.2.2 with ⟨_, _, _, _, _, _, _, _, h, _⟩ | ⟨_, _, h, _⟩
 ·exact h.at_
 exact h.at_
theorem Own_fd_file {W : World} {base fb : Nat} {v : Value} {us : List (Value × Value × Int × Value)} {cs : Array Value} (h : OwnFd W base v us) (hr : W.heap[fb]? = some (.cells cs 37 (0, 0))) : v.ownBlock ≠ some fb := fun e => by
 obtain ⟨_, _, cur, h3⟩ := h.obj fb e
 rw [hr] at h3
 injection h3 with h3
 injection h3 with _ h4
 exact absurd h4 (by decide)
theorem Own_fd_dr {W : World} {base b : Nat} {v : Value} {us : List (Value × Value × Int × Value)} {d : DrV} (h : OwnFd W base v us) (hr : DrAt W b d) : v.ownBlock ≠ some b := fun e => by
 obtain ⟨_, _, cur, h3⟩ := h.obj b e
 have hr' : W.heap[b]? = some (.cells (drC d) 171 (0, 0)) := hr
 rw [hr'] at h3
 injection h3 with h3
 injection h3 with _ h4
 exact absurd h4 (by decide)
theorem own_frd {W W' : World} {base b : Nat} {v : DrV} {fv : Value} {us : List (Value × Value × Int × Value)} (ho : OwnFd W base fv us) (hf : FrD W b v.shared.ownBlock W') (ha : DrAt W b v) (hap : v.shared.ownBlock = none ∨ v.shared.ownBlock ≠ fv.ownBlock) : OwnFd W' base fv us :=
 ho.keepB fun g e h5 _ => hf.block g h5 (fun e2 => Own_fd_dr ho ha (by rw [e, e2])) (fun e2 => by
  rcases hap with h | h
  ·rw [h] at e2; cases e2
  ·exact h (e2.trans e.symm))
theorem row_frd {w W W' : World} {b fb : Nat} {nm kv sz fv : Value} {v : DrV} {us' : List (Value × Value × Int × Value)} (h : RS w W b fb nm kv sz fv) (ho : OwnFd W (fb + 1) v.shared us') (hf : FrD W b v.shared.ownBlock W') : W'.heap[fb]? = some (.cells #[nm, kv, sz, fv] 37 (0, 0)) :=
 (hf.block fb (Array.getElem?_eq_some_iff.1 h.row).1 (by have := h.far; omega) (fun e => by have := (ho.obj fb e).1; omega)).trans h.row
theorem FsD.next {w W w12 w13 w14 : World} {b fb : Nat} {nm kv : Value} {Az : Option Addr} {cz N : Nat} {s : ByteArray} {sizes : List Nat} {E : RdR FileM} {G : AccM → RdS → RdR FileM} {j : Nat} {us : List (Value × Value × Int × Value)} {fv v14 : Value} {v' v'' : DrV}
  {A1 : Option Addr} {n1 c1 : Nat} {A2 : Option Addr} {n2 c2 : Nat} {o : Int} {A3 : Option Addr} {n3 c3 : Nat} {a : AccM} {st : RdS} {us' : List (Value × Value × Int × Value)}
  (h : FsD w W b fb nm kv Az cz s sizes E (fun a st => (funsM s.data.toList sizes (N - j) a st).bind G) j us fv v') (hj : j < N)
  (hd : DrOk W b s st v') (hacc : AccOk sizes a st) (hsh : OwnFd W (fb + 1) v'.shared us') (hfs : FdIs W sizes us a.funs) (hap : v'.shared.ownBlock = none ∨ v'.shared.ownBlock ≠ fv.ownBlock) (hE : E = (funsM s.data.toList sizes (N - j) a st).bind G)
  (hr : FunRes s b (fb + 1) sizes v' a (funM s.data.toList sizes a st) W A1 n1 c1 A2 n2 c2 o A3 n3 c3 v'' w12) (na : Below w12.heap.size w12 w13) (OW : OwnFd w13 w.heap.size fv us) (OX : OwnFd w14 w.heap.size v14 (us ++ [(.slice A1 n1 c1, .slice A2 n2 c2, o, .slice A3 n3 c3)])) (GX : w13.grownBy w14 fv.ownBlock) (AT : v14.ownBlock = fv.ownBlock ∨ v14.ownBlock = some w13.heap.size) :
  FsD w (w14.setCell ⟨fb, 3, none⟩ v14) b fb nm kv Az cz s sizes E (fun a st => (funsM s.data.toList sizes (N - (j + 1)) a st).bind G) (j + 1) (us ++ [(.slice A1 n1 c1, .slice A2 n2 c2, o, .slice A3 n3 c3)]) v14 v'' := by
 have hfar := h.f.far
 have hFr := hr.1
 have hob : ∀ g, v'.shared.ownBlock = some g → fb + 1 ≤ g ∧ g < W.heap.size := fun g e => ⟨(hsh.obj g e).1, (hsh.obj g e).2.1⟩
 have hof : ∀ g, fv.ownBlock = some g → w.heap.size ≤ g ∧ g < W.heap.size := fun g e => ⟨(h.own.obj g e).1, (h.own.obj g e).2.1⟩
 have hfbW : fb < W.heap.size := (Array.getElem?_eq_some_iff.1 h.f.row).1
 have z12 := hFr.size
 have z13 := na.size
 have z14 := GX.size
 have gZ := grown_put w14 fb 3 v14
 have zZ := gZ.size
 have r12 : w12.heap[fb]? = W.heap[fb]? := hFr.block fb hfbW (by omega) (fun e => by have := hob fb e; omega)
 have r13 : w13.heap[fb]? = w12.heap[fb]? := na.block fb (by omega)
 have row13 := r13.trans (r12.trans h.f.row)
 have nfb : fv.ownBlock ≠ some fb := Own_fd_file OW row13
 have r14 : w14.heap[fb]? = w13.heap[fb]? := GX.block fb (by omega) (fun e => nfb e.symm)
 have row14 := r14.trans row13
 have bel12 : Below w.heap.size w w12 := ⟨hFr.os.trans h.f.bel.os, hFr.tape.trans h.f.bel.tape, hFr.output.trans h.f.bel.output, Nat.le_trans h.f.bel.size z12, fun k hk => (hFr.block k (Nat.lt_of_lt_of_le hk h.f.bel.size) (by omega) (fun e => by have := hob k e; omega)).trans (h.f.bel.block k hk)⟩
 have bel13 : Below w.heap.size w w13 := then_ bel12 na
 have bel14 : Below w.heap.size w w14 := ⟨GX.os.trans bel13.os, GX.tape.trans bel13.tape, GX.output.trans bel13.output, Nat.le_trans bel13.size z14, fun k hk => (GX.block k (Nat.lt_of_lt_of_le hk bel13.size) (fun e => by have := hof k e.symm; omega)).trans (bel13.block k hk)⟩
 have F14 : RS w w14 b fb nm kv (.slice Az sizes.length cz) fv := ⟨row14, bel14, hfar⟩
 have K1 : KeepD W w12 := hFr.keepD hd.at_ hsh
 have K2 : KeepD w12 w13 := KeepD.below na
 have K3 : KeepD w13 w14 := keep_fd OW GX
 have K4 : KeepD w14 (w14.setCell ⟨fb, 3, none⟩ v14) := KeepD.typed gZ (fun g e => by injection e with e; subst e; exact ⟨_, _, row14⟩) (by decide) (by decide) (by decide)
 have K234 := K2.trans (K3.trans K4)
 have a12 := hr.at_
 have a13 : DrAt w13 b v'' := (na.block b a12.lt).trans a12
 have a14 : DrAt w14 b v'' := (GX.block b a13.lt (fun e => Own_fd_dr OW a13 e.symm)).trans a13
 have aZ : DrAt (w14.setCell ⟨fb, 3, none⟩ v14) b v'' := (gZ.block b a14.lt (fun e => by injection e with e; omega)).trans a14
 have oZ : OwnFd (w14.setCell ⟨fb, 3, none⟩ v14) w.heap.size v14 (us ++ [(.slice A1 n1 c1, .slice A2 n2 c2, o, .slice A3 n3 c3)]) := OX.keepB fun g e h5 _ => gZ.block g h5 (fun e2 => Own_fd_file OX row14 (by rw [e, e2]))
 have hfew : us.length ≤ 100000 := by
  have := hacc.few
  have := hd.le
  have := hd.fits
  have := hfs.1
  omega
 have hnext : (funsM s.data.toList sizes (N - j) a st).bind G = (funM s.data.toList sizes a st).bind fun a' s' => (funsM s.data.toList sizes (N - (j + 1)) a' s').bind G := by
  rw [show N - j = (N - (j + 1)) + 1 by omega]
  exact RdR.bind_assoc _ _ _
 refine ⟨F14.put 3 v14 rfl, h.szs.keep (K1.trans K234), oZ, ?_, by rw [List.length_append, h.len]; rfl, by have := h.len; omega, fun _ => h.nv hd.fine⟩
 rcases hr.2.2 with ⟨f, a', st', us2, e1, e2, e3, e4, e5, e6, e7, e8⟩ | ⟨e', p, e1, e2⟩
 rotate_left
 ·refine .inr ⟨e', p, e1.keepAt aZ rfl rfl, ?_⟩
  rw [hE, hnext, e2]
  rfl
 refine .inl ⟨a', st', us2, e5.keepAt aZ K234, (funM_ok hacc (by rw [size_list]; exact hd.le) e1).1, e6, ?_, e8.keep K234, ?_, ?_, ?_⟩
 ·refine e7.keepB fun g e h5 h6 => ?_
  have hne : fv.ownBlock ≠ some g := fun e9 => by
   rcases hr.2.1 with h1 | ⟨k, h1, h2⟩
   ·rcases hap with h3 | h3
    ·rw [h1, h3] at e; cases e
    exact h3 (by rw [← h1, e, e9])
   rw [h1] at e
   injection e with e
   have := hof g e9
   omega
  exact (gZ.block g (by omega) (fun e9 => by injection e9 with e9; omega)).trans ((GX.block g (by omega) (fun e9 => hne e9.symm)).trans (na.block g h5))
 ·rw [e2, ← e3]
  exact (hfs.keep (K1.trans K234)).snoc (e4.keep K234)
 ·cases hs9 : v''.shared.ownBlock with
  | none => exact .inl rfl
  | some g =>
   right
   have hg12 := (e7.obj g hs9).2.1
   intro e9
   rcases AT with h1 | h1
   rotate_left
   ·rw [h1] at e9
    injection e9 with e9
    omega
   rw [h1] at e9
   rcases hr.2.1 with h2 | ⟨k, h2, h3⟩
   ·rcases hap with h4 | h4
    ·rw [h2, h4] at hs9; cases hs9
    exact h4 (by rw [← h2, hs9, e9])
   rw [h2] at hs9
   injection hs9 with hs9
   have := hof g e9.symm
   omega
 rw [hE, hnext, e1]
 rfl
end Go.Proofs.YtmokogkndbinlaaGreatDoor
