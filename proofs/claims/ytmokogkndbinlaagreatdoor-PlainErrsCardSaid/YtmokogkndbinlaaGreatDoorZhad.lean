import Derived.Lib.UnsafeStr
import Derived.Lib.SlBytesConst
import Derived.Test.YtmokogkndbinlaaGreatDoorZhab
import Derived.Test.YtmokogkndbinlaaGreatDoorZhac
set_option linter.all false
namespace Go.Proofs.YtmokogkndbinlaaGreatDoor
open Go.Lib (hid)
open Go.RowKit
abbrev tenL:List UInt8:=[48,49,50,51,52,53,54,55,56,57]
theorem drop_all (P:UInt8→Bool):∀ (d:List UInt8),(∀ b∈d,P b=true)→d.dropWhile P=[]
 | [],_=>rfl
 | b::d,h=>by rw [List.dropWhile_cons_of_pos (h b (by simp))];exact drop_all P d fun x hx=>h x (by simp [hx])
theorem drop_some (P:UInt8→Bool):∀ (d:List UInt8),(∃ b∈d,P b=false)→∃ b∈d.dropWhile P,P b=false
 | [],h=>by obtain⟨b,hb,_⟩:=h;simp at hb
 | b::d,h=>by
  cases hp:P b with
  | true =>
   rw [List.dropWhile_cons_of_pos hp];obtain⟨x,hx,hx2⟩:=h;rcases List.mem_cons.1 hx with rfl | hx
   ·rw [hp] at hx2;cases hx2
   exact drop_some P d ⟨x,hx,hx2⟩
  | false =>
   rw [List.dropWhile_cons_of_neg (by simp [hp])];exact⟨b,by simp,hp⟩
theorem trimS_nil (d cs:List UInt8) (h:∀ b∈d,cs.contains b=true):Lib.trimS d cs=[]:=by
 have e:Lib.trimRightS d cs=[]:=by
  unfold Lib.trimRightS;rw [drop_all _ _ (fun b hb=>h b (List.mem_reverse.1 hb))];rfl
 unfold Lib.trimS;rw [e];rfl
theorem trimS_ne (d cs:List UInt8) (h:∃ b∈d,cs.contains b=false):∃ x r,Lib.trimS d cs=x::r:=by
 obtain⟨b,hb,hc⟩:=h;obtain⟨b2,hb2,hc2⟩:=drop_some (cs.contains ·) d.reverse ⟨b,List.mem_reverse.2 hb,hc⟩;obtain⟨b3,hb3,hc3⟩:=drop_some (cs.contains ·) (Lib.trimRightS d cs) ⟨b2,List.mem_reverse.2 hb2,hc2⟩;cases hl:Lib.trimS d cs with
 | nil =>
  have:b3∈Lib.trimS d cs:=hb3;rw [hl] at this;simp at this
 | cons x r=>exact⟨x,r,rfl⟩
theorem ten_ascii:∀ (j:Nat) b,(⟨#[48,49,50,51,52,53,54,55,56,57]⟩:ByteArray).data.toList[j]? = some b→b.toNat < 128:=by
 intro j b h;have hm:=List.mem_of_getElem? h;simp at hm
 rcases hm with rfl | rfl | rfl | rfl | rfl | rfl | rfl | rfl | rfl | rfl <;> decide
theorem bytesWorld_below (w:World) (e:TypeId) (s:ByteArray):Below w.heap.size w (Lib.bytesWorld w e s) :=
 Lib.below_freeze (((Below.refl _ _).drew).alloc (Nat.le_refl _) _) (Nat.le_refl _) _
theorem trim_len (l d:List UInt8) (h:Lib.trimPrefix l [45]=d):d.length≤l.length:=by
 subst h;unfold Lib.trimPrefix;split
 ·rw [List.length_drop]
  omega
 exact Nat.le_refl _
theorem read_form (s:ByteArray) (w:World) (hs:s.size≤1000000) (d:List UInt8) (hd:Lib.trimPrefix s.data.toList [45]=d) (h:d=[]∨∃ b∈d,tenL.contains b=false) :
  Calls Tryz.prog 168 #[.string s] w fun e w'=>e = .returned (.tuple #[.int .i64 0,.int .i64 4])∧Below w.heap.size w w':=by
 have hdl:=trim_len _ _ hd;rw [size_list] at hdl;have HP:=hid (fun W=>Tryz.strings_TrimPrefix s ⟨#[45]⟩ W);have hd':Lib.trimPrefix s.data.toList (⟨#[45]⟩:ByteArray).data.toList=d:=hd;rw [hd'] at HP;clear hd hd';rcases h with rfl | h
 ·go_enter Tryz.func168,Tryz.ntmps168
  go_wp2_with (go_at_call 210;refine (HP.out _).mono ?_;rintro e w' ⟨rfl,rfl⟩)
  go_ret2;exact⟨rfl,Below.refl _ _⟩
 have hne:d≠[]:=by
  rintro rfl;obtain⟨b,hb,_⟩:=h;simp at hb
 have he:(!d.isEmpty)=true:=by cases d with
  | nil=>exact absurd rfl hne
  | cons=>rfl
 obtain⟨x,r,ht⟩:=trimS_ne d tenL h;have HT:=hid (fun W=>Tryz.strings_Trim_laid ⟨d.toArray⟩ ⟨#[48,49,50,51,52,53,54,55,56,57]⟩ W (by show d.toArray.size≤_;rw [List.size_toArray];omega) (by decide) ten_ascii);have ht':Lib.trimS (⟨d.toArray⟩:ByteArray).data.toList (⟨#[48,49,50,51,52,53,54,55,56,57]⟩:ByteArray).data.toList=x::r:=ht;rw [ht'] at HT;clear h ht ht';go_enter Tryz.func168,Tryz.ntmps168
 go_wp2_with (first | (go_at_call 210;refine (HP.out _).mono ?_;rintro e w' ⟨rfl,rfl⟩) | (go_at_call 211;refine (HT.out _).mono ?_;rintro e w' ⟨rfl,hb⟩;have HB:=hid hb;clear hb))
 go_ret2;exact⟨rfl,HB.out⟩
theorem read_ok (s:ByteArray) (w:World) (hs:s.size≤1000000) (d:List UInt8) (v:Int) (hd:Lib.trimPrefix s.data.toList [45]=d) (hne:d≠[]) (h:∀ b∈d,tenL.contains b=true) (hv:Lib.parseIntB 64 s.data.toList = .ok v) :
  Calls Tryz.prog 168 #[.string s] w fun e w'=>e = .returned (.tuple #[.int .i64 (min (max v (-4611686018427387904)) 4611686018427387904),.int .i64 0])∧Below w.heap.size w w':=by
 have hdl:=trim_len _ _ hd;rw [size_list] at hdl;have HP:=hid (fun W=>Tryz.strings_TrimPrefix s ⟨#[45]⟩ W);have hd':Lib.trimPrefix s.data.toList (⟨#[45]⟩:ByteArray).data.toList=d:=hd;rw [hd'] at HP;have he:(!d.isEmpty)=true:=by cases d with
  | nil=>exact absurd rfl hne
  | cons=>rfl
 have he2:d.isEmpty=false:=by cases d with
  | nil=>exact absurd rfl hne
  | cons=>rfl
 have ht:=trimS_nil d tenL h;have HT:=hid (fun W=>Tryz.strings_Trim_laid ⟨d.toArray⟩ ⟨#[48,49,50,51,52,53,54,55,56,57]⟩ W (by show d.toArray.size≤_;rw [List.size_toArray];omega) (by decide) ten_ascii);have ht':Lib.trimS (⟨d.toArray⟩:ByteArray).data.toList (⟨#[48,49,50,51,52,53,54,55,56,57]⟩:ByteArray).data.toList=[]:=ht;rw [ht'] at HT;have HV:=hid (fun W=>Tryz.strconv_ParseInt_10_at64_ok s (by omega) v hv W);clear hd hd' h ht ht' hv;go_enter Tryz.func168,Tryz.ntmps168
 go_wp2_with (first | (go_at_call 210;refine (HP.out _).mono ?_;rintro e w' ⟨rfl,rfl⟩) | (go_at_call 211;refine (HT.out _).mono ?_;rintro e w2 ⟨rfl,hb⟩;have HB:=hid hb;clear hb) | (go_at_call 212;refine (HV.out _).mono ?_;rintro e w3 ⟨rfl,hb⟩;have HB2:Hid (Below w2.heap.size w2 w3):=hid (by rcases hb with rfl | ⟨t,rfl⟩;exact Below.refl _ _;exact bytesWorld_below _ _ _);clear hb))
 go_ret2;exact⟨rfl,then_ HB.out HB2.out⟩
end Go.Proofs.YtmokogkndbinlaaGreatDoor
namespace Go.Proofs.YtmokogkndbinlaaGreatDoor
open Go.RowKit
theorem grown_any {W W':World}(h:Below W.heap.size W W') (row:Option Nat):W.grownBy W' row:=⟨h.os,h.tape,h.output,h.size,fun k hk _=>h.block k hk⟩
end Go.Proofs.YtmokogkndbinlaaGreatDoor
namespace Go.Proofs.YtmokogkndbinlaaGreatDoor
open Go.RowKit
end Go.Proofs.YtmokogkndbinlaaGreatDoor
namespace Go.Proofs.YtmokogkndbinlaaGreatDoor
open Go.RowKit
def digs (l:List UInt8):List UInt8:=if l.head? = some 45 then l.tail else l
def okD (d:List UInt8):Bool:=!d.isEmpty && d.all fun c=>decide (48≤c.toNat) && decide (c.toNat≤57)
def stepD (n:Nat) (c:UInt8):Nat:=n * 10+(c.toNat - 48)
def numD (d:List UInt8):Nat:=d.foldl stepD 0
def readV (l:List UInt8):Int:=if okD (digs l) then (if l.head? = some 45 then -((min (numD (digs l)) 4611686018427387904:Nat):Int) else ((min (numD (digs l)) 4611686018427387904:Nat):Int)) else 0
def readE (l:List UInt8):Int:=if okD (digs l) then 0 else 4
theorem okD_iff (d:List UInt8):okD d=true↔d≠[]∧∀ c∈d,48≤c.toNat∧c.toNat≤57:=by
 unfold okD;cases d with
 | nil=>simp
 | cons c d=>simp
theorem fold_ge (d:List UInt8) (a:Nat):a≤d.foldl stepD a:=by
 induction d generalizing a with
 | nil=>exact Nat.le_refl _
 | cons c d ih =>
  have:=ih (stepD a c);unfold stepD at this;show a≤d.foldl stepD (stepD a c);unfold stepD;omega
theorem parseM (r:List UInt8):∀ acc,(∀ c∈r,48≤c.toNat∧c.toNat≤57)→acc < 18446744073709551616 →
  Lib.parseUintM 18446744073709551615 acc r=if 18446744073709551616≤r.foldl stepD acc then .range else .ok (r.foldl stepD acc):=by
 induction r with
 | nil =>
  intro acc _ h;show Lib.NumEnd.ok acc=if 18446744073709551616≤acc then .range else .ok acc
  rw [if_neg (by omega)]
 | cons c r ih =>
  intro acc hd h;have hc:=hd c (by simp);have hg:=fold_ge r (stepD acc c);have e:stepD acc c=acc * 10+(c.toNat - 48):=rfl;show _=if 18446744073709551616≤r.foldl stepD (stepD acc c) then _ else Lib.NumEnd.ok (r.foldl stepD (stepD acc c))
  unfold Lib.parseUintM;rw [if_pos hc];by_cases h1:1844674407370955162≤acc
  ·rw [if_pos h1,if_pos (by omega)]
  rw [if_neg h1];by_cases h2:18446744073709551615 < acc * 10+(c.toNat - 48)
  ·rw [if_pos h2,if_pos (by omega)]
  rw [if_neg h2];exact ih _ (fun x hx=>hd x (by simp [hx])) (by omega)
theorem trim_digs (l:List UInt8):Lib.trimPrefix l [45]=digs l:=by
 cases l with
 | nil=>rfl
 | cons c l =>
  unfold digs Lib.trimPrefix Lib.hasPrefix;by_cases h:c=45
  ·subst h
   simp
  have h':¬ (45:UInt8)=c:=fun e=>h e.symm;simp [h,h']
theorem parse_digs (l:List UInt8) (h:okD (digs l)=true) :
  (∃ v,Lib.parseIntB 64 l = .ok v∧min (max v (-4611686018427387904)) 4611686018427387904=readV l) ∨
  (Lib.parseIntB 64 l = .range∧min (max (Lib.intSat 64 l) (-4611686018427387904)) 4611686018427387904=readV l):=by
 have ho:=(okD_iff _).1 h;have hv:readV l=if l.head? = some 45 then -((min (numD (digs l)) 4611686018427387904:Nat):Int) else ((min (numD (digs l)) 4611686018427387904:Nat):Int):=by unfold readV;rw [if_pos h]
 cases l with
 | nil=>exact absurd rfl ho.1
 | cons c r =>
  have hp:∀ d,d≠[]→(∀ c∈d,48≤c.toNat∧c.toNat≤57)→Lib.parseUintB 64 d=if 18446744073709551616≤numD d then .range else .ok (numD d):=by
   intro d hne hd;unfold Lib.parseUintB;rw [if_neg hne];exact parseM d 0 hd (by decide)
  by_cases hc:c=45
  ·subst hc
   have e1:digs (45::r)=r:=rfl;rw [e1] at ho hv;have hq:=hp r ho.1 ho.2;have e3:Lib.intSat 64 (45::r) = -9223372036854775808:=by simp [Lib.intSat]
   rw [e3,hv];simp only [List.head?_cons,if_true];by_cases h1:18446744073709551616≤numD r
   ·rw [if_pos h1] at hq
    exact .inr ⟨by simp [Lib.parseIntB,hq],by omega⟩
   rw [if_neg h1] at hq;by_cases h2:9223372036854775808 < numD r
   ·exact .inr ⟨by simp [Lib.parseIntB,hq,h2],by omega⟩
   exact .inl ⟨-(numD r:Int),by simp [Lib.parseIntB,hq,h2],by omega⟩
  have e1:digs (c::r)=c::r:=by unfold digs;simp [hc]
  rw [e1] at ho hv;have hq:=hp (c::r) ho.1 ho.2;have hd:=ho.2 c (by simp);have hne:¬ ((c::r).head? = some 45):=by simp [hc]
  rw [if_neg hne] at hv;have h43:¬ c.toNat=43:=by omega
  have h45:¬ c.toNat=45:=by omega
  have e3:Lib.intSat 64 (c::r)=9223372036854775807:=by
   unfold Lib.intSat;simp [h45]
  rw [e3,hv];by_cases h1:18446744073709551616≤numD (c::r)
  ·rw [if_pos h1] at hq
   exact .inr ⟨by simp [Lib.parseIntB,h43,h45,hq],by omega⟩
  rw [if_neg h1] at hq;by_cases h2:9223372036854775808≤numD (c::r)
  ·exact .inr ⟨by simp [Lib.parseIntB,h43,h45,hq,h2],by omega⟩
  exact .inl ⟨(numD (c::r):Int),by simp [Lib.parseIntB,h43,h45,hq,h2],by omega⟩
end Go.Proofs.YtmokogkndbinlaaGreatDoor
