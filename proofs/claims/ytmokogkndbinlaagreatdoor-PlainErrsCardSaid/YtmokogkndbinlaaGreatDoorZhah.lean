import Derived.Laws.Strings3
import Derived.Lib.LaidTab
import Derived.Lib.AppendIntMem
import Derived.Laws.Concat
import Derived.Laws.OwnMore
import Derived.Test.YtmokogkndbinlaaGreatDoorZhag
set_option linter.all false
namespace Go.Proofs.YtmokogkndbinlaaGreatDoor
open Go.Lib (hid)
open Go.RowKit
theorem numD_snoc (d:List UInt8) (c:UInt8):numD (d++[c])=numD d * 10+(c.toNat - 48):=by
 unfold numD;rw [List.foldl_append];rfl
def RR (D:ByteArray) (n far:Value) (k:Nat):Prop :=
 (∀ j (h:j < D.data.toList.length),j < k→48≤D.data.toList[j].toNat∧D.data.toList[j].toNat≤57) ∧
 ((far = .bool false∧n = .int .u64 ((numD (D.data.toList.take k):Nat):Int)∧numD (D.data.toList.take k)≤4611686018427387909) ∨
  (far = .bool true∧(∃ m:Nat,n = .int .u64 (m:Int)∧461168601842738790 < m∧m≤4611686018427387909)∧4611686018427387904 < numD (D.data.toList.take k)))
theorem take_next (D:ByteArray) {k:Nat}(h:k < D.data.toList.length):numD (D.data.toList.take (k+1))=numD (D.data.toList.take k) * 10+(D.data.toList[k].toNat - 48):=by
 rw [List.take_succ_eq_append_getElem h,numD_snoc]
theorem all_below (D:ByteArray) (h:∀ j (h:j < D.data.toList.length),j < D.size→48≤D.data.toList[j].toNat∧D.data.toList[j].toNat≤57):∀ c∈D.data.toList,48≤c.toNat∧c.toNat≤57:=by
 intro c hc;obtain⟨j,hj,rfl⟩:=List.mem_iff_getElem.1 hc;exact h j hj (by rw [← size_list];exact hj)
def ansV (sg:Int) (D:ByteArray):Int:=if okD D.data.toList then sg * ((min (numD D.data.toList) 4611686018427387904:Nat):Int) else 0
def ansE (D:ByteArray):Int:=if okD D.data.toList then 0 else 4
theorem ans_bad (sg:Int) (D:ByteArray) {k:Nat}(h:k < D.data.toList.length) (hx:D.data.toList[k].toNat < 48∨57 < D.data.toList[k].toNat):ansV sg D=0∧ansE D=4:=by
 have:¬ okD D.data.toList=true:=by
  rw [okD_iff];rintro⟨_,h2⟩;have:=h2 _ (List.getElem_mem h);omega
 unfold ansV ansE;rw [if_neg this,if_neg this];exact⟨rfl,rfl⟩
theorem ans_none (sg:Int) (D:ByteArray) (h:D.size=0):ansV sg D=0∧ansE D=4:=by
 have e:D.data.toList=[]:=List.eq_nil_of_length_eq_zero (by rw [size_list];exact h);unfold ansV ansE;rw [e];exact⟨rfl,rfl⟩
theorem ans_ok (sg:Int) (D:ByteArray) (h0:0 < D.size) (h:∀ j (h:j < D.data.toList.length),j < D.size→48≤D.data.toList[j].toNat∧D.data.toList[j].toNat≤57):ansV sg D=sg * ((min (numD D.data.toList) 4611686018427387904:Nat):Int)∧ansE D=0:=by
 have:okD D.data.toList=true:=(okD_iff _).2 ⟨fun e=>by have:=size_list D;rw [e] at this;simp at this;omega,all_below D h⟩;unfold ansV ansE;rw [if_pos this,if_pos this];exact⟨rfl,rfl⟩
set_option maxRecDepth 100000 in
set_option maxHeartbeats 2000000 in
theorem rread_plus (s:ByteArray) (w:World) (hs:s.size≤1000000) (h0:0 < s.size) (hne:¬ s[0].toNat=45) :
  Calls Tryz.prog 154 #[.string s] w fun e w'=>e = .returned (.tuple #[.int .i64 (ansV 1 s),.int .i64 (ansE s)])∧w=w':=by
 obtain⟨y,hy⟩:∃ y,s[0].toNat=y:=⟨_,rfl⟩
 rw [hy] at hne;have e1:((y:Int) == 45)=false:=by rw [beq_eq_false_iff_ne];omega
 have hs0:(0:Int) < (s.size:Int):=by omega
 have e2:((s.size:Int) == 0)=false:=by rw [beq_eq_false_iff_ne];omega
 go_enter Tryz.func154,Tryz.ntmps154
 go_wp2_with fail
 go_loop [5,6,7] (fun n far i=>∃ k:Nat,k≤s.size∧i = .int .i64 (k:Int)∧RR s n far k) (fun _ _ i=>s.size - (intOf i).toNat)
 case atStart=>exact⟨0,Nat.zero_le _,rfl,fun j _ h=>by omega,.inl ⟨rfl,rfl,Nat.zero_le _⟩⟩
 case round =>
  obtain⟨k,hk,rfl,hd,hst⟩:=hrel;have HD:=hid hd;clear hd;by_cases hlt:k < s.size
  ·have hl:k < s.data.toList.length:=by rw [size_list];exact hlt
   have hkl:(k:Int) < (s.size:Int):=by omega
   obtain⟨x,hx⟩:∃ x,s[k].toNat=x:=⟨_,rfl⟩
   have hxl:s.data.toList[k].toNat=x:=hx;have hx2:x≤255:=by rw [← hx];have:=s[k].toNat_lt;omega
   have HX:=hid hx;have HXL:=hid hxl;have TN:=hid (take_next s hl);rw [hxl] at TN;have hxi:=hx;clear hx hxl;by_cases hdig:48≤x∧x≤57
   ·have q1:(48:Int)≤(x:Int):=by omega
    have q2:(x:Int)≤57:=by omega
    have u1:IntKind.u8.wrap ((x:Int) - 48)=(x:Int) - 48:=by show ((x:Int) - 48) % 256=_;omega
    have HD2:Hid (∀ j (h:j < s.data.toList.length),j < k+1→48≤s.data.toList[j].toNat∧s.data.toList[j].toNat≤57):=hid (by
     intro j hj hjk;rcases (by omega:j < k∨j=k) with h | rfl
     ·exact HD.out j hj h
     ·rw [HXL.out]
      exact hdig)
    rcases hst with ⟨rfl,rfl,hb⟩ | ⟨rfl,⟨m,rfl,hm1,hm2⟩,hb⟩
    ·obtain⟨a,ha⟩:∃ a,numD (s.data.toList.take k)=a:=⟨_,rfl⟩
     rw [ha] at hb TN ⊢;clear ha;by_cases hbig:461168601842738790 < a
     ·have p1:(461168601842738790:Int) < (a:Int):=by omega
      go_wp2_with fail
      go_round
      case rel=>exact⟨k+1,by omega,by go_num,HD2.out,.inr ⟨rfl,⟨a,rfl,hbig,hb⟩,by rw [TN.out];omega⟩⟩
      case measure=>simp [intOf];omega
     have p1:¬ (461168601842738790:Int) < (a:Int):=by omega
     have p2:(a:Int)≤461168601842738790:=by omega
     have p3:0≤(a:Int):=by omega
     go_wp2_with fail
     go_round
     case rel=>exact⟨k+1,by omega,by go_num,HD2.out,.inl ⟨rfl,by rw [TN.out];exact congrArg (Value.int .u64) (by omega),by rw [TN.out];omega⟩⟩
     case measure=>simp [intOf];omega
    have p1:(461168601842738790:Int) < (m:Int):=by omega
    go_wp2_with fail
    go_round
    case rel=>exact⟨k+1,by omega,by go_num,HD2.out,.inr ⟨rfl,⟨m,rfl,hm1,hm2⟩,by rw [TN.out];omega⟩⟩
    case measure=>simp [intOf];omega
   have hb:=ans_bad 1 s hl (by rw [HXL.out];omega);have hb1:=hid hb.1;have hb2:=hid hb.2;clear hb;rcases (by omega:(x:Int) < 48∨(48≤(x:Int)∧57 < (x:Int))) with q | ⟨q1,q2⟩
   all_goals
    go_wp2_with fail
    go_ret2;exact⟨by rw [hb1.out,hb2.out];rfl,rfl⟩
  obtain rfl:k=s.size:=by omega
  have hall:s.data.toList.take s.size=s.data.toList:=List.take_of_length_le (by rw [size_list];exact Nat.le_refl _);rw [hall] at hst;obtain⟨a1,a2⟩:=ans_ok 1 s h0 HD.out;have A1:=hid a1;have A2:=hid a2;have hkl:¬ ((s.size:Int) < (s.size:Int)):=by omega
  clear hall a1 a2;rcases hst with ⟨rfl,rfl,hb⟩ | ⟨rfl,⟨m,rfl,hm1,hm2⟩,hb⟩
  rotate_left
  ·have hmin:min (numD s.data.toList) 4611686018427387904=4611686018427387904:=by omega
   rw [hmin] at A1;clear hmin hb;go_wp2_with fail
   go_ret2;exact⟨by rw [A1.out,A2.out];rfl,rfl⟩
  obtain⟨a,ha⟩:∃ a,numD s.data.toList=a:=⟨_,rfl⟩
  rw [ha] at hb A1 ⊢;clear ha;by_cases hbig:4611686018427387904 < a
  ·have p1:(4611686018427387904:Int) < (a:Int):=by omega
   have hmin:min a 4611686018427387904=4611686018427387904:=by omega
   rw [hmin] at A1;clear hmin;go_wp2_with fail
   go_ret2;exact⟨by rw [A1.out,A2.out];rfl,rfl⟩
  have p1:¬ (4611686018427387904:Int) < (a:Int):=by omega
  have p2:(a:Int)≤4611686018427387904:=by omega
  have p3:0≤(a:Int):=by omega
  have hmin:min a 4611686018427387904=a:=by omega
  rw [hmin] at A1;have A3:=hid (A1.out.trans (Int.one_mul _));clear hmin A1;go_wp2_with fail
  all_goals
   go_ret2;exact⟨by rw [A3.out,A2.out];rfl,rfl⟩
set_option maxRecDepth 100000 in
set_option maxHeartbeats 2000000 in
theorem rread_minus (s D:ByteArray) (w:World) (hs:s.size≤1000000) (h0:0 < s.size) (he:s[0].toNat=45) (hD:s.extract 1 s.size=D) (hDs:D.size+1=s.size) :
  Calls Tryz.prog 154 #[.string s] w fun e w'=>e = .returned (.tuple #[.int .i64 (ansV (-1) D),.int .i64 (ansE D)])∧w=w':=by
 have hs0:(0:Int) < (s.size:Int):=by omega
 have hs1:(1:Int)≤(s.size:Int):=by omega
 have HD0:=hid hD;have HDs:=hid hDs;have hDs9:D.size≤1000000:=by omega
 have hsl:∀ W,(Instr.slice 9 (.string s) (some (.int .i64 1)) none none).run Tryz.prog W = .ok (.string D) W:=by
  intro W;rw [run_slice_string_from_if (w:=W) (P:=Tryz.prog) 9 s .i64 1 Tryz.underlying9,if_pos (by omega),← hD];rfl
 clear hD hDs;rcases Nat.eq_zero_or_pos D.size with hz | hz
 ·have e2:((D.size:Int) == 0)=true:=by rw [beq_iff_eq];omega
  have hb:=ans_none (-1) D hz;have hb1:=hid hb.1;have hb2:=hid hb.2;clear hb hz;go_enter Tryz.func154,Tryz.ntmps154
  go_wp2_with fail
  go_ret2;exact⟨by rw [hb1.out,hb2.out];rfl,rfl⟩
 have e2:((D.size:Int) == 0)=false:=by rw [beq_eq_false_iff_ne];omega
 go_enter Tryz.func154,Tryz.ntmps154
 go_wp2_with fail
 go_loop [5,6,7] (fun n far i=>∃ k:Nat,k≤D.size∧i = .int .i64 (k:Int)∧RR D n far k) (fun _ _ i=>D.size - (intOf i).toNat)
 case atStart=>exact⟨0,Nat.zero_le _,rfl,fun j _ h=>by omega,.inl ⟨rfl,rfl,Nat.zero_le _⟩⟩
 case round =>
  obtain⟨k,hk,rfl,hd,hst⟩:=hrel;have HD:=hid hd;clear hd;by_cases hlt:k < D.size
  ·have hl:k < D.data.toList.length:=by rw [size_list];exact hlt
   have hkl:(k:Int) < (D.size:Int):=by omega
   obtain⟨x,hx⟩:∃ x,D[k].toNat=x:=⟨_,rfl⟩
   have hxl:D.data.toList[k].toNat=x:=hx;have hx2:x≤255:=by rw [← hx];have:=D[k].toNat_lt;omega
   have HX:=hid hx;have HXL:=hid hxl;have TN:=hid (take_next D hl);rw [hxl] at TN;have hxi:=hx;clear hx hxl;by_cases hdig:48≤x∧x≤57
   ·have q1:(48:Int)≤(x:Int):=by omega
    have q2:(x:Int)≤57:=by omega
    have u1:IntKind.u8.wrap ((x:Int) - 48)=(x:Int) - 48:=by show ((x:Int) - 48) % 256=_;omega
    have HD2:Hid (∀ j (h:j < D.data.toList.length),j < k+1→48≤D.data.toList[j].toNat∧D.data.toList[j].toNat≤57):=hid (by
     intro j hj hjk;rcases (by omega:j < k∨j=k) with h | rfl
     ·exact HD.out j hj h
     ·rw [HXL.out]
      exact hdig)
    rcases hst with ⟨rfl,rfl,hb⟩ | ⟨rfl,⟨m,rfl,hm1,hm2⟩,hb⟩
    ·obtain⟨a,ha⟩:∃ a,numD (D.data.toList.take k)=a:=⟨_,rfl⟩
     rw [ha] at hb TN ⊢;clear ha;by_cases hbig:461168601842738790 < a
     ·have p1:(461168601842738790:Int) < (a:Int):=by omega
      go_wp2_with fail
      go_round
      case rel=>exact⟨k+1,by omega,by go_num,HD2.out,.inr ⟨rfl,⟨a,rfl,hbig,hb⟩,by rw [TN.out];omega⟩⟩
      case measure=>simp [intOf];omega
     have p1:¬ (461168601842738790:Int) < (a:Int):=by omega
     have p2:(a:Int)≤461168601842738790:=by omega
     have p3:0≤(a:Int):=by omega
     go_wp2_with fail
     go_round
     case rel=>exact⟨k+1,by omega,by go_num,HD2.out,.inl ⟨rfl,by rw [TN.out];exact congrArg (Value.int .u64) (by omega),by rw [TN.out];omega⟩⟩
     case measure=>simp [intOf];omega
    have p1:(461168601842738790:Int) < (m:Int):=by omega
    go_wp2_with fail
    go_round
    case rel=>exact⟨k+1,by omega,by go_num,HD2.out,.inr ⟨rfl,⟨m,rfl,hm1,hm2⟩,by rw [TN.out];omega⟩⟩
    case measure=>simp [intOf];omega
   have hb:=ans_bad (-1) D hl (by rw [HXL.out];omega);have hb1:=hid hb.1;have hb2:=hid hb.2;clear hb;rcases (by omega:(x:Int) < 48∨(48≤(x:Int)∧57 < (x:Int))) with q | ⟨q1,q2⟩
   all_goals
    go_wp2_with fail
    go_ret2;exact⟨by rw [hb1.out,hb2.out];rfl,rfl⟩
  obtain rfl:k=D.size:=by omega
  have hall:D.data.toList.take D.size=D.data.toList:=List.take_of_length_le (by rw [size_list];exact Nat.le_refl _);rw [hall] at hst;obtain⟨a1,a2⟩:=ans_ok (-1) D hz HD.out;have A1:=hid a1;have A2:=hid a2;have hkl:¬ ((D.size:Int) < (D.size:Int)):=by omega
  clear hall a1 a2;rcases hst with ⟨rfl,rfl,hb⟩ | ⟨rfl,⟨m,rfl,hm1,hm2⟩,hb⟩
  rotate_left
  ·have hmin:min (numD D.data.toList) 4611686018427387904=4611686018427387904:=by omega
   rw [hmin] at A1;clear hmin hb;go_wp2_with fail
   go_ret2;exact⟨by rw [A1.out,A2.out];rfl,rfl⟩
  obtain⟨a,ha⟩:∃ a,numD D.data.toList=a:=⟨_,rfl⟩
  rw [ha] at hb A1 ⊢;clear ha;by_cases hbig:4611686018427387904 < a
  ·have p1:(4611686018427387904:Int) < (a:Int):=by omega
   have hmin:min a 4611686018427387904=4611686018427387904:=by omega
   rw [hmin] at A1;clear hmin;go_wp2_with fail
   go_ret2;exact⟨by rw [A1.out,A2.out];rfl,rfl⟩
  have p1:¬ (4611686018427387904:Int) < (a:Int):=by omega
  have p2:(a:Int)≤4611686018427387904:=by omega
  have p3:0≤(a:Int):=by omega
  have hmin:min a 4611686018427387904=a:=by omega
  rw [hmin] at A1;have A3:=hid (A1.out.trans (Int.neg_one_mul _));clear hmin A1;go_wp2_with fail
  all_goals
   go_ret2;exact⟨by rw [A3.out,A2.out];rfl,rfl⟩
theorem rread_any (s:ByteArray) (w:World) (hs:s.size≤1000000) :
  Calls Tryz.prog 154 #[.string s] w fun e w'=>e = .returned (.tuple #[.int .i64 (readV s.data.toList),.int .i64 (readE s.data.toList)])∧w=w':=by
 rcases Nat.eq_zero_or_pos s.size with h0 | h0
 ·have e:=empty_of h0
  subst e;go_enter Tryz.func154,Tryz.ntmps154
  go_wp2_with fail
  go_ret2;exact⟨rfl,rfl⟩
 have hcons:s.data.toList=s[0]::s.data.toList.tail:=by
  have h:0 < s.data.toList.length:=by rw [size_list];exact h0
  have:=List.drop_eq_getElem_cons (l:=s.data.toList) (i:=0) h;have e0:s.data.toList=s.data.toList[0]::s.data.toList.tail:=by simpa using this
  exact e0
 by_cases hc:s[0].toNat=45
 ·have hc':s[0]=45:=UInt8.toNat_inj.1 hc
  obtain⟨D,hD⟩:∃ D,s.extract 1 s.size=D:=⟨_,rfl⟩
  have hDl:D.data.toList=s.data.toList.tail:=by
   rw [← hD];have e:=Lib.extract_toList s 1 s.size;have e2:(s.extract 1 s.size).data.toList=(s.data.toList.drop 1).take (s.size - 1):=by simp
   rw [e2,List.take_of_length_le (by rw [List.length_drop,size_list];omega)];simp
  have hDs:D.size+1=s.size:=by
   have h1:=size_list D;have h2:=size_list s;rw [hDl,List.length_tail] at h1;omega
  have k:=rread_minus s D w hs h0 hc hD hDs;have hh:s.data.toList.head? = some 45:=by rw [hcons,hc'];rfl
  have hg:digs s.data.toList=D.data.toList:=by unfold digs;rw [if_pos hh,hDl]
  have e1:readV s.data.toList=ansV (-1) D:=by
   unfold readV ansV;rw [hg,if_pos hh];split
   ·exact (Int.neg_one_mul _).symm
   rfl
  have e2:readE s.data.toList=ansE D:=by unfold readE ansE;rw [hg]
  rw [e1,e2];exact k
 have k:=rread_plus s w hs h0 hc;have hh:¬ s.data.toList.head? = some 45:=by
  rw [hcons];intro e;injection e with e;apply hc;rw [e];rfl
 have hg:digs s.data.toList=s.data.toList:=by unfold digs;rw [if_neg hh]
 have e1:readV s.data.toList=ansV 1 s:=by
  unfold readV ansV;rw [hg,if_neg hh];split
  ·exact (Int.one_mul _).symm
  rfl
 have e2:readE s.data.toList=ansE s:=by unfold readE ansE;rw [hg]
 rw [e1,e2];exact k
end Go.Proofs.YtmokogkndbinlaaGreatDoor
namespace Go.Proofs.YtmokogkndbinlaaGreatDoor
open Go.RowKit
end Go.Proofs.YtmokogkndbinlaaGreatDoor
namespace Go.Proofs.YtmokogkndbinlaaGreatDoor
open Go.RowKit
abbrev TabP (W:World):Prop:=Lib.TabIs Tryz.prog W "internal/strconv.uint64pow10" .u64 Lib.pow10Tab
theorem tab_below {W W':World}(h:TabP W) (hb:Below W.heap.size W W'):TabP W':=by
 unfold TabP Lib.TabIs World.var? at h ⊢;cases hg:Tryz.prog.globalNamed "internal/strconv.uint64pow10" with
 | none=>simp [hg] at h
 | some g =>
  simp only [hg,Option.bind_some] at h ⊢;have hlt:g < W.heap.size:=by
   rcases Nat.lt_or_ge g W.heap.size with h' | h'
   ·exact h'
   simp [Array.getElem?_eq_none h'] at h
  rw [hb.block g hlt];exact h
theorem dec_digs (u:Nat):Lib.decDigits u≠[]∧(∀ c∈Lib.decDigits u,48≤c.toNat∧c.toNat≤57)∧numD (Lib.decDigits u)=u:=by
 induction u using Nat.strongRecOn with
 | _ u ih =>
  rw [Lib.decDigits];have hc:∀ k,k < 10→(UInt8.ofNat (48+k)).toNat=48+k:=fun k hk=>by
   rw [UInt8.toNat_ofNat'];exact Nat.mod_eq_of_lt (by omega)
  split
  ·rename_i h
   refine⟨by simp,?_,?_⟩
   ·intro c hm
    rw [List.mem_singleton.1 hm,hc u h];omega
   show stepD 0 _=u;unfold stepD;rw [hc u h];omega
  rename_i h;obtain⟨h1,h2,h3⟩:=ih (u / 10) (by omega);refine⟨by simp,?_,?_⟩
  ·intro c hm
   rw [List.mem_append] at hm;rcases hm with hm | hm
   ·exact h2 c hm
   rw [List.mem_singleton.1 hm,hc _ (by omega)];omega
  unfold numD at h3 ⊢;rw [List.foldl_append,h3];show stepD (u / 10) _=u;unfold stepD;rw [hc _ (by omega)];omega
theorem dec_len (u:Nat) (h:u < 18446744073709551616):(Lib.decDigits u).length≤20:=by
 have key:∀ k u,u < 10 ^ (k+1)→(Lib.decDigits u).length≤k+1:=by
  intro k;induction k with
  | zero =>
   intro u hu;rw [Lib.decDigits,dif_pos (by omega)];exact Nat.le_refl _
  | succ k ih =>
   intro u hu;rw [Lib.decDigits];split
   ·simp
   rw [List.length_append];have:=ih (u / 10) (by rw [Nat.pow_succ] at hu;omega);simp
   omega
 exact key 19 u (by omega)
theorem read_itoa (n:Int):readV (Lib.itoa n)=min (max n (-4611686018427387904)) 4611686018427387904∧readE (Lib.itoa n)=0:=by
 unfold Lib.itoa;split
 ·rename_i h
  obtain⟨h1,h2,h3⟩:=dec_digs n.natAbs;have hg:digs (45::Lib.decDigits n.natAbs)=Lib.decDigits n.natAbs:=rfl;have ho:okD (digs (45::Lib.decDigits n.natAbs))=true:=by rw [hg];exact (okD_iff _).2 ⟨h1,h2⟩
  unfold readV readE;rw [if_pos ho,if_pos ho,hg,h3];refine⟨?_,rfl⟩;simp only [List.head?_cons,if_true];omega
 rename_i h;obtain⟨h1,h2,h3⟩:=dec_digs n.toNat;have hh:¬ (Lib.decDigits n.toNat).head? = some 45:=by
  intro e;have hm:=List.mem_of_mem_head? (Option.mem_def.2 e);have:=h2 45 hm;exact absurd this (by decide)
 have hg:digs (Lib.decDigits n.toNat)=Lib.decDigits n.toNat:=by unfold digs;rw [if_neg hh]
 have ho:okD (digs (Lib.decDigits n.toNat))=true:=by rw [hg];exact (okD_iff _).2 ⟨h1,h2⟩
 unfold readV readE;rw [if_pos ho,if_pos ho,hg,h3,if_neg hh];refine⟨?_,rfl⟩;omega
theorem itoa_len (n:Int) (h1:-9223372036854775808≤n) (h2:n≤9223372036854775807):(Lib.itoa n).length≤21:=by
 unfold Lib.itoa;split
 ·have:=dec_len n.natAbs (by omega)
  simp
  omega
 have:=dec_len n.toNat (by omega);omega
theorem write_any (n:Int) (w:World) (h0:-9223372036854775808≤n) (h1:n≤9223372036854775807) (hT:TabP w) :
  Calls Tryz.prog 129 #[.int .i64 n] w fun e w'=>e = .returned (.string ⟨(Lib.itoa n).toArray⟩)∧Below w.heap.size w w':=by
 have HF:=hid (Tryz.strconv_FormatInt_10 n h0 h1 w hT);clear h0 h1 hT;go_enter Tryz.func129,Tryz.ntmps129
 go_wp2_with (go_at_call 162;refine HF.out.mono ?_;rintro e w' ⟨rfl,k,os,rfl⟩)
 go_ret;exact⟨rfl,Lib.below_grow _ _ (Nat.le_refl _) _ _⟩
theorem Own.put {W:World}{base c n:Nat}{A:Option Addr}{l:List Nat}(h:Own W base (.slice A n c) l) {j:Nat}(hj:j < l.length) (hn:l.length=n) (y:Nat) :
  ∃ g,A=some ⟨g,0,none⟩∧base≤g∧g < W.heap.size∧W.cell? ⟨g,j,none⟩=some (.int .i64 (nth l j:Int))∧W.frozen? ⟨g,j,none⟩=false ∧
   Own (W.setCell ⟨g,j,none⟩ (.int .i64 (y:Int))) base (.slice A n c) (l.set j y)∧W.grownBy (W.setCell ⟨g,j,none⟩ (.int .i64 (y:Int))) (some g):=by
 subst hn;obtain⟨A',c',e,hI⟩:=h.form;obtain⟨rfl,rfl⟩:A=A'∧c=c':=by injection e with e1 e2 e3;exact⟨e1,e3⟩
 have h':=h;obtain⟨h1,⟨h2,hn⟩ | ⟨g,cap,cur,h2,hb,hh,hm,hx,hs,ht⟩⟩:=h
 ·omega
 injection h2 with e1 e2 e3;subst e1 e3;obtain⟨g',o',e4,hc⟩:=hI.at_ hj;injection e4 with e4;injection e4 with e5 e6;subst e5 e6;rw [Nat.zero_add] at hc;have hst:=World.ownsRow.stored (h':W.ownsRow base 3 1 _ l.length _) j (.int .i64 (y:Int));have hset:(intC l).set j (.int .i64 (y:Int))=intC (l.set j y):=by simp [intC,List.map_set]
 rw [hset] at hst;exact⟨g,rfl,hb,(Array.getElem?_eq_some_iff.1 hh).1,hc,World.ownsRow.frozenAt (h':W.ownsRow base 3 1 _ l.length _) j,by unfold Own;rw [List.length_set];exact hst.1,hst.2⟩
def pickP (l at_:List Nat) (j:Nat):List Nat:=(List.range at_.length).map fun i=>if i < j then nth l (nth at_ i) else 0
theorem pickP_len (l at_:List Nat) (j:Nat):(pickP l at_ j).length=at_.length:=by simp [pickP]
theorem pickP_nth (l at_:List Nat) (j i:Nat) (h:i < at_.length):nth (pickP l at_ j) i=if i < j then nth l (nth at_ i) else 0:=by simp [nth,pickP,List.getD,h]
theorem pickP_zero (l at_:List Nat):pickP l at_ 0=List.replicate at_.length 0:=by simp [pickP,List.map_const']
theorem pickP_set (l at_:List Nat) (j:Nat) (h:j < at_.length):(pickP l at_ j).set j (nth l (nth at_ j))=pickP l at_ (j+1):=by
 refine nth_eq (by simp [pickP_len]) fun i hi=>?_;rw [List.length_set,pickP_len] at hi;rw [pickP_nth _ _ _ _ hi];unfold nth;rw [List.getD_eq_getElem?_getD,List.getElem?_set];by_cases e:j=i
 ·subst e;simp [pickP_len,h]
 rw [if_neg e,← List.getD_eq_getElem?_getD];show nth (pickP l at_ j) i=_;rw [pickP_nth _ _ _ _ hi];by_cases h1:i < j
 ·rw [if_pos h1,if_pos (by omega)];rfl
 rw [if_neg h1,if_neg (by omega)]
theorem pickP_all (l at_:List Nat):pickP l at_ at_.length=pickN l at_:=by
 refine nth_eq (by simp [pickP_len,pickN]) fun i hi=>?_;rw [pickP_len] at hi;rw [pickP_nth _ _ _ _ hi,if_pos hi];simp [nth,pickN,List.getD,hi]
theorem own_zero {W:World}{base g n c:Nat}(h:W.ownsRow base 3 1 (.slice (some ⟨g,0,none⟩) n c) n (madeCells #[.int .i64 0] n).toList):Own W base (.slice (some ⟨g,0,none⟩) n c) (List.replicate n 0):=by
 unfold Own;rw [List.length_replicate];have e:(madeCells #[.int .i64 0] n).toList=intC (List.replicate n 0):=by
  refine List.ext_getElem (by simp [madeCells,intC]) fun i h1 h2=>?_;simp [madeCells,intC,Nat.mod_one]
 rw [← e];exact h
set_option maxRecDepth 100000 in
set_option maxHeartbeats 4000000 in
theorem pickedR (c1 c2:Nat) (A1 A2:Option Addr) (l at_:List Nat) (w:World) (hl:l.length≤100000) (hat:at_.length≤100001) (hin:∀ x∈at_,x < l.length) (h1:Ints w A1 l) (h2:Ints w A2 at_) :
  Calls Tryz.prog 88 #[.slice A1 l.length c1,.slice A2 at_.length c2] w fun e w'=>(∃ A,e = .returned (.slice A at_.length at_.length)∧Own w' w.heap.size (.slice A at_.length at_.length) (pickN l at_))∧Below w.heap.size w w':=by
 obtain⟨i0,hi,hz0,hz1,hz2⟩:=info_parts info_int;obtain⟨w0,hm,how,hgw⟩:=run_makeSlice_full (P:=Tryz.prog) w w.heap.size 41 3 i0 (.int .i64 0) 1 Tryz.underlying41 hi hz0 hz1 .i64 .i64 at_.length (by omega) (by rw [hz2];omega) (by unfold maxLen;omega) (Nat.le_refl _);have hbw:Below w.heap.size w w0:=⟨hgw.os,hgw.tape,hgw.output,hgw.size,fun k hk=>hgw.block k hk (by simp)⟩
 rw [Nat.mul_one] at how;have HOW:=hid (show Own w0 w.heap.size _ (pickP l at_ 0) by rw [pickP_zero];exact own_zero how);have HW:=hid hbw;have HIN:=hid hin;have H1:=hid h1;have H2:=hid h2;clear hbw how hgw hi hz0 hz1 hz2 hin h1 h2;go_enter Tryz.func88,Tryz.ntmps88
 go_wp2_with fail
 clear hm;go_loopw [6,7,13] (fun _ _ i wr=>∃ (j:Nat),i = .int .i64 (j:Int)∧j≤at_.length∧Own wr w.heap.size (.slice (some ⟨w.heap.size,0,none⟩) at_.length at_.length) (pickP l at_ j)∧Below w.heap.size w wr) (fun _ _ i _=>at_.length - (intOf i).toNat)
 case atStart=>exact⟨0,rfl,Nat.zero_le _,HOW.out,HW.out⟩
 case round =>
  obtain⟨j,rfl,hj,hO,hB⟩:=hrel;have HO:=hid hO;have HB:=hid hB;by_cases hlt:j < at_.length
  rotate_left
  ·have d1:decide ((j:Int) < (at_.length:Int))=false:=decide_eq_false (by omega)
   obtain rfl:j=at_.length:=by omega
   clear hO hB hlt;go_wp2_with fail
   go_ret;exact⟨⟨_,rfl,by have:=HO.out;rwa [pickP_all] at this⟩,HB.out⟩
  have d1:decide ((j:Int) < (at_.length:Int))=true:=decide_eq_true (by omega);obtain⟨gc,oc,rfl,hcc⟩:=(H2.out.below hB (Nat.le_refl _)).at_ hlt;have hx:=HIN.out (nth at_ j) (nth_mem hlt);obtain⟨gs,os,rfl,hss⟩:=(H1.out.below hB (Nat.le_refl _)).at_ hx;obtain⟨g,e,hg1,hg2,hc,hf,hO',hg⟩:=hO.put (j:=j) (by rw [pickP_len];exact hlt) (pickP_len _ _ _) (nth l (nth at_ j));injection e with e;injection e with e _ _;subst e;rw [pickP_set l at_ j hlt] at hO';have HO':=hid hO';have HG:=hid hg;clear hO hB hg hO';generalize nth at_ j=x at hcc hx hss HO' HG;generalize nth l x=z at hss HO' HG;generalize nth (pickP l at_ j) j=q at hc;go_wp2_with fail
  refine⟨⟨j+1,by simp,by omega,HO'.out,HB.out.grown HG.out HB.out.size (by intro k hk;simp at hk;omega)⟩,by simp [intOf];omega⟩
end Go.Proofs.YtmokogkndbinlaaGreatDoor
namespace Go.Proofs.YtmokogkndbinlaaGreatDoor
open Go.RowKit
theorem cntM_cons (k:Nat) (r:List Nat) (n:Nat):cntM (k::r) n=cntM r (min (n * min k 4097) 4097):=rfl
set_option maxRecDepth 100000 in
set_option maxHeartbeats 4000000 in
theorem countR (c:Nat) (A:Option Addr) (l:List Nat) (w:World) (hl:l.length≤100001) (hsm:∀ x∈l,x≤4611686018427387904) (h:Ints w A l) :
  Calls Tryz.prog 161 #[.slice A l.length c] w fun e w'=>e = .returned (.int .i64 (cntM l 1:Nat))∧w=w':=by
 have H:=hid h;have HSM:=hid hsm;clear h hsm;go_enter Tryz.func161,Tryz.ntmps161
 go_wp2_with fail
 go_loopw [3,5,8] (fun n _ i wr=>∃ (j m:Nat),i = .int .i64 (j:Int)∧n = .int .i64 (m:Int)∧j≤l.length∧m≤4097∧cntM l 1=cntM (l.drop j) m∧wr=w) (fun _ _ i _=>l.length - (intOf i).toNat)
 case atStart=>exact⟨0,1,rfl,rfl,Nat.zero_le _,by decide,rfl,rfl⟩
 case round =>
  obtain⟨j,m,rfl,rfl,hj,hm,hE,rfl⟩:=hrel;by_cases hlt:j < l.length
  ·have d1:decide ((j:Int) < (l.length:Int))=true:=decide_eq_true (by omega)
   obtain⟨g,o,rfl,hcc⟩:=H.out.at_ hlt;have hx:=HSM.out (nth l j) (nth_mem hlt);have hdr:l.drop j=nth l j::l.drop (j+1):=by rw [List.drop_eq_getElem_cons hlt];simp [nth,List.getD,hlt]
   rw [hdr,cntM_cons] at hE;generalize nth l j=x at hcc hx hE;have hmul:m * min x 4097≤4097 * 4097:=Nat.mul_le_mul hm (Nat.min_le_right _ _);have hq:((m:Int) * min (x:Int) 4097)=((m * min x 4097:Nat):Int):=by
    rw [Int.natCast_mul];congr 1;omega
   have HE:=hid hE;clear hE hdr;go_wp2_with fail
   refine⟨⟨j+1,min (m * min x 4097) 4097,by simp,?_,by omega,Nat.min_le_right _ _,HE.out,trivial⟩,by simp [intOf];omega⟩;congr 1
   rw [← Int.natCast_mul];omega
  have d1:decide ((j:Int) < (l.length:Int))=false:=decide_eq_false (by omega);obtain rfl:j=l.length:=by omega
  clear hlt;rw [List.drop_length] at hE;go_wp2_with fail
  go_ret;refine⟨?_,rfl⟩;rw [hE];rfl
end Go.Proofs.YtmokogkndbinlaaGreatDoor
namespace Go.Proofs.YtmokogkndbinlaaGreatDoor
open Go.RowKit
def strC (l:List ByteArray):List Value:=l.map .string
def OwnT (w:World) (base:Nat) (v:Value) (l:List ByteArray):Prop:=w.ownsRow base 9 1 v l.length (strC l)
theorem OwnT.below {w w':World}{base B:Nat}{v:Value}{l:List ByteArray}(h:OwnT w base v l) (hb:Below B w w') (hB:w.heap.size≤B):OwnT w' base v l:=by
 obtain⟨h1,⟨rfl,hn⟩ | ⟨g,cap,cur,rfl,hb',hh,hm,hx,hs,ht⟩⟩:=h
 ·exact⟨h1,.inl ⟨rfl,hn⟩⟩
 refine⟨h1,.inr ⟨g,cap,cur,rfl,hb',?_,hm,hx,hs,ht⟩⟩;rw [hb.block g (by have:=(Array.getElem?_eq_some_iff.1 hh).1;omega)];exact hh
theorem OwnT.put {W:World}{base g c n:Nat}{l:List ByteArray}(h:OwnT W base (.slice (some ⟨g,0,none⟩) n c) l) (j:Nat) (hj:j < l.length) (hn:l.length=n) (y:ByteArray) :
  (∃ u,W.cell? ⟨g,j,none⟩=some (.string u))∧W.frozen? ⟨g,j,none⟩=false∧OwnT (W.setCell ⟨g,j,none⟩ (.string y)) base (.slice (some ⟨g,0,none⟩) n c) (l.set j y)∧W.grownBy (W.setCell ⟨g,j,none⟩ (.string y)) (some g):=by
 subst hn;obtain⟨h1,h2⟩:=World.ownsRow.stored (h:W.ownsRow base 9 1 _ l.length _) j (.string y);have hset:(strC l).set j (.string y)=strC (l.set j y):=by simp [strC,List.map_set]
 rw [hset] at h1;refine⟨⟨l[j],?_⟩,World.ownsRow.frozenAt (h:W.ownsRow base 9 1 _ l.length _) j,by unfold OwnT;rw [List.length_set];exact h1,h2⟩;rw [World.ownsRow.cellAt (h:W.ownsRow base 9 1 _ l.length _) j (by omega)];simp [strC,hj]
def wordS (n:Nat):ByteArray:=⟨(Lib.itoa (n:Int)).toArray⟩
def textP (l:List Nat) (j:Nat):List ByteArray:=(List.range l.length).map fun i=>if i < j then wordS (nth l i) else ⟨#[]⟩
theorem textP_len (l:List Nat) (j:Nat):(textP l j).length=l.length:=by simp [textP]
theorem textP_set (l:List Nat) (j:Nat) (h:j < l.length):(textP l j).set j (wordS (nth l j))=textP l (j+1):=by
 refine List.ext_getElem (by simp [textP]) fun i h1 h2=>?_;simp only [List.getElem_set,textP,List.getElem_map,List.getElem_range];by_cases e:j=i
 ·subst e;simp
 rw [if_neg e];by_cases h3:i < j
 ·rw [if_pos h3,if_pos (by omega)]
 rw [if_neg h3,if_neg (by omega)]
theorem textP_all (l:List Nat):textP l l.length=l.map wordS:=by
 refine List.ext_getElem (by simp [textP]) fun i h1 h2=>?_;have hi:i < l.length:=by simpa [textP] using h1
 simp [textP,hi,nth,List.getD]
theorem info_str:(Tryz.prog.info? 9).map (fun i=>(i.zero,i.size,i.bytes))=some (some (.string ⟨#[]⟩),1,16):=by kernel_rfl
def textL (l:List Nat):List UInt8:=Lib.join (l.map fun n:Nat=>Lib.itoa (n:Int)) [32]
theorem textL_of (l:List Nat):Lib.join ((l.map wordS).map (·.data.toList)) (⟨#[32]⟩:ByteArray).data.toList=textL l:=by
 simp [textL,wordS,List.map_map,Function.comp_def]
set_option maxRecDepth 100000 in
set_option maxHeartbeats 4000000 in
theorem textR (c:Nat) (A:Option Addr) (l:List Nat) (w:World) (hl:l.length≤100001) (hsm:∀ x∈l,x≤4611686018427387904) (hj:(textL l).length≤140737488355328) (h:Ints w A l) (hT:TabP w) :
  Calls Tryz.prog 215 #[.slice A l.length c] w fun e w'=>e = .returned (.string ⟨(textL l).toArray⟩)∧Below w.heap.size w w':=by
 obtain⟨i0,hi,hz0,hz1,hz2⟩:=info_parts info_str;obtain⟨w0,hm,how,hgw⟩:=run_makeSlice_full (P:=Tryz.prog) w w.heap.size 191 9 i0 (.string ⟨#[]⟩) 1 Tryz.underlying191 hi hz0 hz1 .i64 .i64 l.length (by omega) (by rw [hz2];omega) (by unfold maxLen;omega) (Nat.le_refl _);have hbw:Below w.heap.size w w0:=⟨hgw.os,hgw.tape,hgw.output,hgw.size,fun k hk=>hgw.block k hk (by simp)⟩
 rw [Nat.mul_one] at how;have HOW:=hid (show OwnT w0 w.heap.size (.slice (some ⟨w.heap.size,0,none⟩) l.length l.length) (textP l 0) by
  unfold OwnT;rw [textP_len];have e:strC (textP l 0)=(madeCells (Value.string ⟨#[]⟩).cells l.length).toList:=by
   refine List.ext_getElem (by simp [madeCells,strC,textP]) fun i h1 h2=>?_;simp [madeCells,strC,textP,Value.cells,Nat.mod_one]
  rw [e];exact how)
 have HW:=hid hbw;have HSM:=hid hsm;have H:=hid h;have HT:=hid hT;have HJ:=hid hj;clear hbw how hgw hi hz0 hz1 hz2 hsm h hT hj;go_enter Tryz.func215,Tryz.ntmps215
 go_wp2_with fail
 clear hm;go_loopw [4,5,11] (fun _ _ i wr=>∃ (j:Nat),i = .int .i64 (j:Int)∧j≤l.length∧OwnT wr w.heap.size (.slice (some ⟨w.heap.size,0,none⟩) l.length l.length) (textP l j)∧Below w.heap.size w wr) (fun _ _ i _=>l.length - (intOf i).toNat)
 case atStart=>exact⟨0,rfl,Nat.zero_le _,HOW.out,HW.out⟩
 case round =>
  obtain⟨j,rfl,hj,hO,hB⟩:=hrel;have HO:=hid hO;have HB:=hid hB;by_cases hlt:j < l.length
  ·have d1:decide ((j:Int) < (l.length:Int))=true:=decide_eq_true (by omega)
   obtain⟨gc,oc,rfl,hcc⟩:=(H.out.below hB (Nat.le_refl _)).at_ hlt;have hx:=HSM.out (nth l j) (nth_mem hlt);have WR:=hid (write_any (nth l j:Int) wr (by omega) (by omega) (tab_below HT.out hB));have HS:=hid (textP_set l j hlt);have HL:=hid (show j < (textP l j).length by rw [textP_len];exact hlt);clear hO hB;generalize hq:nth l j=x at hcc hx WR HS;clear hq;go_wp2_with (first | (go_at_call 129;refine WR.out.mono ?_;rintro e w2 ⟨rfl,hb⟩;obtain⟨⟨u,hc⟩,hf,hO',hg⟩:=(HO.out.below hb (Nat.le_refl _)).put j HL.out (textP_len _ _) (wordS x);rw [HS.out] at hO';replace hO':=hid hO';replace hg:=hid hg;replace hb:=hid hb) | fail)
   refine⟨⟨j+1,by simp,by omega,hO'.out,(HB.out.trans (hb.out.mono HB.out.size)).grown hg.out (Nat.le_trans HB.out.size hb.out.size) (by intro k hk;simp at hk;omega)⟩,by simp [intOf];omega⟩
  have d1:decide ((j:Int) < (l.length:Int))=false:=decide_eq_false (by omega);obtain rfl:j=l.length:=by omega
  rw [textP_all] at hO;have hR:wr.ownsRow w.heap.size 9 1 (.slice (some ⟨w.heap.size,0,none⟩) l.length l.length) l.length (strC (l.map wordS)):=by
   have:=hO;unfold OwnT at this;rwa [List.length_map] at this
  have hne:∀ (k:Nat) x,(l.map wordS)[k]? = some x→wr.cell? ⟨w.heap.size,0+k,none⟩=some (.string x):=fun k x hk=>by
   have hk':k < l.length:=by have:=(List.getElem?_eq_some_iff.1 hk).1;simpa using this
   rw [Nat.zero_add,World.ownsRow.cellAt hR k (by simpa using hk')];rw [strC,List.getElem?_map,hk];rfl
  have JN:=hid (Tryz.strings_Join w.heap.size 0 l.length (l.map wordS) ⟨#[32]⟩ wr hne (World.ownsRow.lt hR w.heap.size rfl).2 (by simp;omega) (by simp) (by rw [textL_of];exact HJ.out));rw [textL_of,List.length_map] at JN;clear hO hB hlt hne hR;go_wp2_with (first | (go_at_call 130;refine JN.out.mono ?_;rintro e w2 ⟨rfl,hb⟩;replace hb:=hid hb) | fail)
  go_ret;exact⟨rfl,HB.out.trans (hb.out.mono HB.out.size)⟩
end Go.Proofs.YtmokogkndbinlaaGreatDoor
namespace Go.Proofs.YtmokogkndbinlaaGreatDoor
open Go.RowKit
theorem itoa_no_space (n:Int):∀ c∈Lib.itoa n,c≠32:=by
 intro c hc e;subst e;have h:=(read_itoa n).2;unfold readE at h;have hk:okD (digs (Lib.itoa n))=true:=by
  cases hd:okD (digs (Lib.itoa n)) with
  | true=>rfl
  | false=>rw [hd] at h;simp at h
 have hall:=((okD_iff _).1 hk).2;have hm:(32:UInt8)∈digs (Lib.itoa n):=by
  unfold digs;split
  rotate_left
  ·exact hc
  rename_i h45;cases hl:Lib.itoa n with
  | nil=>rw [hl] at hc;simp at hc
  | cons x r =>
   rw [hl] at hc h45;simp at h45
   subst h45;rcases List.mem_cons.1 hc with h | h
   ·exact absurd h (by decide)
   exact h
 have:=(hall 32 hm).1;exact absurd this (by decide)
theorem itoa_one {a b:Nat}(ha:a≤4611686018427387904) (hb:b≤4611686018427387904) (h:Lib.itoa (a:Int)=Lib.itoa (b:Int)):a=b:=by
 have h1:=(read_itoa (a:Int)).1;have h2:=(read_itoa (b:Int)).1;rw [h] at h1;omega
theorem tail_word (x:List UInt8) (r:List (List UInt8)) (hx:∀ c∈x,c≠32):(x++Lib.joinTail [32] r).takeWhile (· != 32)=x:=by
 rw [List.takeWhile_append_of_pos (by intro c hc;simpa using hx c hc)];cases r with
 | nil=>simp [Lib.joinTail]
 | cons y q=>simp [Lib.joinTail]
theorem tail_one:∀ (l m:List Nat),l.length=m.length→(∀ x∈l,x≤4611686018427387904)→(∀ x∈m,x≤4611686018427387904) →
  Lib.joinTail [32] (l.map fun n:Nat=>Lib.itoa (n:Int))=Lib.joinTail [32] (m.map fun n:Nat=>Lib.itoa (n:Int))→l=m
 | [],[],_,_,_,_=>rfl
 | [],_::_,h,_,_,_=>by simp at h
 | _::_,[],h,_,_,_=>by simp at h
 | a::r,b::q,h,hl,hm,e=>by
  have e':Lib.itoa (a:Int)++Lib.joinTail [32] (r.map fun n:Nat=>Lib.itoa (n:Int))=Lib.itoa (b:Int)++Lib.joinTail [32] (q.map fun n:Nat=>Lib.itoa (n:Int)):=by
   simpa [Lib.joinTail] using e
  have t:=congrArg (List.takeWhile (· != 32)) e';rw [tail_word _ _ (itoa_no_space _),tail_word _ _ (itoa_no_space _)] at t;rw [t] at e';have hab:=itoa_one (hl a (by simp)) (hm b (by simp)) t;rw [hab,tail_one r q (by simpa using h) (fun x hx=>hl x (by simp [hx])) (fun x hx=>hm x (by simp [hx])) (List.append_cancel_left e')]
theorem textL_one (l m:List Nat) (h:l.length=m.length) (hl:∀ x∈l,x≤4611686018427387904) (hm:∀ x∈m,x≤4611686018427387904) (e:textL l=textL m):l=m:=by
 cases l with
 | nil=>cases m with
  | nil=>rfl
  | cons b q=>simp at h
 | cons a r=>cases m with
  | nil=>simp at h
  | cons b q =>
   refine tail_one _ _ h hl hm ?_;simp only [textL,List.map_cons,Lib.join_cons] at e;simpa [Lib.joinTail] using e
end Go.Proofs.YtmokogkndbinlaaGreatDoor
