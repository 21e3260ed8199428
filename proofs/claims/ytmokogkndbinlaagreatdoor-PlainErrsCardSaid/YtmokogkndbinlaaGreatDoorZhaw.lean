import Derived.ChangeKeysEq
import Derived.Sort.OwnSortedInts
import Derived.Shelf.SlSortCmp.NoneTotal
import Derived.Deep.RegionHeldLaw
import Derived.Test.YtmokogkndbinlaaGreatDoorZhav
set_option linter.all false
namespace Go.Proofs.YtmokogkndbinlaaGreatDoor
open Go.Lib (hid)
open Go.RowKit
def Cel (w:World) (A:Option Addr) (s:ByteArray):Prop:=(A=none→s.size=0)∧∀ p:Addr,A=some p→∀ j u,(byC s)[j]? = some u→p.block < w.heap.size∧w.cell? (p.add j)=some u
theorem Cel.below {w w':World}{A:Option Addr}{s:ByteArray}(h:Cel w A s) (hb:Below w.heap.size w w'):Cel w' A s:=by
 refine⟨h.1,fun p e j u hj=>?_⟩;obtain⟨h1,h2⟩:=h.2 p e j u hj;exact⟨Nat.lt_of_lt_of_le h1 hb.size,(hb.cell (p:=p.add j) (by rw [block_add];exact h1)).trans h2⟩
theorem Bytes.cel {w:World}{A:Option Addr}{n m:Nat}{z:Nat→Int}(h:Bytes w A n z) (hm:m≤n) (hA:A=none→m=0):Cel w A (strZ z m):=by
 refine⟨fun e=>by rw [strZ_size];exact hA e,fun p e j u hj=>?_⟩;subst e;refine⟨?_,strZ_cells h hm j u hj⟩;have hj':j < m:=by
  have:=(List.getElem?_eq_some_iff.1 hj).1;rwa [byC_len,strZ_size] at this
 obtain⟨p',e,hp,_⟩:=h j (by omega);injection e with e;subst e;exact hp
set_option maxRecDepth 100000 in
theorem bclone_any (A:Option Addr) (n c:Nat) (s:ByteArray) (w:World) (hn:s.size=n) (hs:n≤1000000) (hA:Cel w A s) :
  Calls Tryz.prog 61 #[.slice A n c] w fun e w'=>(∃ v,e = .returned v∧OwnB w' w.heap.size v s)∧Below w.heap.size w w':=by
 cases A with
 | none =>
  have h0:=hA.1 rfl;have e:=empty_of h0;subst e;obtain rfl:n=0:=by rw [← hn];rfl
  have hq:∀ W,(binOp .eql 22 (.slice none 0 c) (.slice none 0 0)).run Tryz.prog W = .ok (.bool true) W:=fun W=>Lib.run_eql_slice_nil W 22 5 none 0 c 0 0 Tryz.underlying22;clear hA hn hs h0;go_enter Tryz.func61,Tryz.ntmps61
  go_wp2
  go_ret;exact⟨⟨_,rfl,World.ownsRow_nil _ _ _ _⟩,Below.refl _ _⟩
 | some ad =>
  subst hn;have hq:∀ W,(binOp .eql 22 (.slice (some ad) s.size c) (.slice none 0 0)).run Tryz.prog W = .ok (.bool false) W:=fun W=>Lib.run_eql_slice_nil W 22 5 (some ad) s.size c 0 0 Tryz.underlying22;obtain⟨i0,hi,hz0,hz1,hz2⟩:=info_parts info_u8;have HI:=hid hi;have HZ0:=hid hz0;have HZ1:=hid hz1;have HZ2:=hid hz2;have n0:Below w.heap.size w (w.alloc (.cells #[] 5)):=(Below.refl _ _).alloc (Nat.le_refl _) _;have N0:=hid n0;have HC:=hid (fun j u hj=>((hA.below n0).2 ad rfl j u hj).2);clear hi hz0 hz1 hz2 n0 hA;go_enter Tryz.func61,Tryz.ntmps61
  go_wp2_with (at_builtin;refine wpList_append_own _ rfl (.tmp 5) (.tmp 6) 22 rfl w.heap.size 5 i0 (.int .u8 0) 1 1 Tryz.underlying22 HI.out HZ0.out HZ1.out HZ2.out rfl (by decide) (.slice (some ⟨w.heap.size,0,none⟩) 0 0) 0 [] rfl (World.ownsRow_made w #[] 0 (Nat.le_refl _) (by simp [maxLen]) rfl) ad s.size c (byC s) rfl (by rw [byC_len,Nat.mul_one]) HC.out (byC_one _) (by unfold maxLen;omega) (by omega) (by simp) ?_;intro v' w1 h1 h2 _;have H1:=hid h1;have H2:=hid h2;clear h1 h2)
  go_ret;refine⟨⟨_,rfl,?_⟩,N0.out.grown H2.out (by simp) (fun k hk=>by simp [Value.ownBlock] at hk;omega)⟩;have h:=H1.out;rw [Nat.zero_add,List.nil_append] at h;exact h
end Go.Proofs.YtmokogkndbinlaaGreatDoor
namespace Go.Proofs.YtmokogkndbinlaaGreatDoor
open Go.RowKit
set_option maxRecDepth 100000 in
theorem slice_head (A:Option Addr) (n m c:Nat) (hm:m≤c) (W:World):(Instr.slice 22 (.slice A n c) none (some (.int .i64 (m:Int))) none).run Tryz.prog W = .ok (.slice A m c) W:=by
 rw [run_slice_h (P:=Tryz.prog) (w:=W) 22 A n c Tryz.underlying22 .i64 (m:Int) (by omega) (by omega)];have hs:(sizeOf (Tryz.prog.elem 22)).run Tryz.prog W = .ok 1 W:=size_u8 W;rw [hs];show Result.ok (sliced A 0 (m:Int).toNat c 1) W=_;have e:A.map (fun a:Addr=>a.add (0 * 1))=A:=by
  cases A with
  | none=>rfl
  | some a=>simp [Addr.add]
 unfold sliced;simp [Addr.add]
end Go.Proofs.YtmokogkndbinlaaGreatDoor
namespace Go.Proofs.YtmokogkndbinlaaGreatDoor
open Go.RowKit
end Go.Proofs.YtmokogkndbinlaaGreatDoor
namespace Go.Proofs.YtmokogkndbinlaaGreatDoor
open Go.RowKit
theorem wf_u8 {a:Int}(h:(Lit.int .u8 a).wf=true):0≤a∧a≤255:=by
 have h1:(decide (IntKind.u8.min≤a) && decide (a≤IntKind.u8.max))=true:=h;have e1:IntKind.u8.min=0:=by decide
 have e2:IntKind.u8.max=255:=by decide
 rw [e1,e2] at h1;simpa using h1
theorem wf_i64 {a:Int}(h:(Lit.int .i64 a).wf=true):-9223372036854775808≤a∧a≤9223372036854775807:=by
 have h1:(decide (IntKind.i64.min≤a) && decide (a≤IntKind.i64.max))=true:=h;have e1:IntKind.i64.min = -9223372036854775808:=by decide
 have e2:IntKind.i64.max=9223372036854775807:=by decide
 rw [e1,e2] at h1;simpa using h1
theorem bytes_came {w:World}{a:Option Addr}{len cap:Nat}{zs:List Int}
  (h:(a=none∧len=0∧cap=0∧zs=[])∨∃ x,a=some x∧len≤cap∧cap≤maxLen∧zs.length=cap∧(∀ i,i < zs.length→w.cell? (x.add i)=some (.int .u8 (zs.getD i 0)))∧∀ n∈zs,(Lit.int .u8 n).wf=true) :
  Bytes w a len (fun i=>zs.getD i 0)∧(len:Int)≤9223372036854775807:=by
 rcases h with ⟨_,rfl,_,_⟩ | ⟨x,rfl,h1,h2,h3,h4,h5⟩
 ·exact⟨fun j hj=>absurd hj (Nat.not_lt_zero _),by omega⟩
 refine⟨fun j hj=>?_,by unfold maxLen at h2;omega⟩;have hj':j < zs.length:=by omega
 have hc:=h4 j hj';have hb:=World.block_lt_of_cell? w _ hc;rw [block_add] at hb;have hw:=wf_u8 (h5 (zs.getD j 0) (by rw [List.getD_eq_getElem?_getD,List.getElem?_eq_getElem hj'];exact List.getElem_mem hj'));exact⟨x,rfl,hb,hc,hw.1,hw.2⟩
def Ext (w:World) (A:Option Addr) (n:Nat) (z:Nat→Int):Prop:=(A=none∧n=0)∨∃ x:Addr,A=some x∧∀ j,j < n→x.block < w.heap.size∧w.cell? (x.add j)=some (.int .i64 (z j))
theorem eq64_yes (A A2:Option Addr) (n c c2:Nat) (z:Nat→Int) (w:World) (hl:n≤1000000) (hw:Zs w A n z) (hw2:Zs w A2 n z) :
  Calls Tryz.prog 27 #[.slice A n c,.slice A2 n c2] w fun e w'=>e = .returned (.bool true)∧Below w.heap.size w w':=by
 have HW:=hid hw;have HW2:=hid hw2;clear hw hw2;go_enter Tryz.func27,Tryz.ntmps27
 go_wp2_with fail
 go_loopw [5,13] (fun _ i wr=>∃ j:Nat,j≤n∧i = .int .i64 j∧Below w.heap.size w wr) (fun _ i _=>n - (intOf i).toNat)
 case atStart=>exact⟨0,Nat.zero_le _,rfl,Below.refl _ _⟩
 case round =>
  obtain⟨j,hj,rfl,hb⟩:=hrel;have HB:=hid hb;clear hb;by_cases hlt:j < n
  rotate_left
  ·go_wp2
   go_ret;exact⟨rfl,HB.out⟩
  obtain⟨g,o,rfl,hcell⟩:=(HW.out.below HB.out (Nat.le_refl _)).at_ hlt;obtain⟨g2,o2,rfl,hcell2⟩:=(HW2.out.below HB.out (Nat.le_refl _)).at_ hlt;generalize z j=y at hcell hcell2;have i1:(j:Int) < (n:Int):=by omega
  have i2:(0:Int)≤(j:Int):=by omega
  go_wp2_with fail
  go_quiet (fail)
  go_wp2
  go_roundw
  case rel=>exact⟨j+1,by omega,by go_num,next_drewN HB.out _⟩
  case measure=>simp [intOf];omega
theorem eqz_yes (A A2:Option Addr) (n c c2:Nat) (z:Nat→Int) (w:World) (hl:n≤1000000) (hw:Zs w A n z) (hw2:Zs w A2 n z) :
  Calls Tryz.prog 25 #[.slice A n c,.slice A2 n c2] w fun e w'=>e = .returned (.bool true)∧Below w.heap.size w w':=by
 have HW:=hid hw;have HW2:=hid hw2;clear hw hw2;go_enter Tryz.func25,Tryz.ntmps25
 go_wp2_with fail
 go_loopw [5,13] (fun _ i wr=>∃ j:Nat,j≤n∧i = .int .i64 j∧Below w.heap.size w wr) (fun _ i _=>n - (intOf i).toNat)
 case atStart=>exact⟨0,Nat.zero_le _,rfl,Below.refl _ _⟩
 case round =>
  obtain⟨j,hj,rfl,hb⟩:=hrel;have HB:=hid hb;clear hb;by_cases hlt:j < n
  rotate_left
  ·go_wp2
   go_ret;exact⟨rfl,HB.out⟩
  obtain⟨g,o,rfl,hcell⟩:=(HW.out.below HB.out (Nat.le_refl _)).at_ hlt;obtain⟨g2,o2,rfl,hcell2⟩:=(HW2.out.below HB.out (Nat.le_refl _)).at_ hlt;generalize z j=y at hcell hcell2;have i1:(j:Int) < (n:Int):=by omega
  have i2:(0:Int)≤(j:Int):=by omega
  go_wp2_with fail
  go_quiet (fail)
  go_wp2
  go_roundw
  case rel=>exact⟨j+1,by omega,by go_num,next_drewN HB.out _⟩
  case measure=>simp [intOf];omega
attribute [local go_sem ↓] run_mn2
def nthT (ts:List (List Nat)) (j:Nat):List Nat:=ts.getD j []
theorem Own.kind {w:World}{base:Nat}{v:Value}{l:List Nat}(h:Own w base v l):∀ g,v.ownBlock=some g→∃ c fz,w.heap[g]? = some (.cells c 3 fz):=Lib.ownsRow_kind h
def Words (w:World) (A:Option Addr) (n:Nat) (z:Nat→Int):Prop:=∀ j,j < n→∃ p:Addr,A=some p∧p.block < w.heap.size∧w.cell? (p.add j)=some (.int .u16 (z j))∧0≤z j∧z j≤65535
theorem grown_set (W:World) (b i:Nat) (u:Value):W.grownBy (W.setCell ⟨b,i,none⟩ u) (some b):=⟨rfl,rfl,rfl,by simp [World.setCell],fun k _ hk=>Below.heap_setCell W ⟨b,i,none⟩ u k (fun e=>hk (by rw [show k=b from e]))⟩
structure MkAt (w:World) (b base n:Nat) (sv:Value) (k:Int) (z:Nat→Int) (v:Value) (W:World):Prop where
 row:W.heap[b]? = some (.cells #[sv,.int .i64 k,v] 69 (0,0))
 own:W.ownsRow base 2 1 v n (costL_Tb3 z n)
 bel:Below w.heap.size w W
 res:W.heap[w.heap.size]? = some (.cells #[.slice none 0 0,.int .i64 0,.slice none 0 0] 69 (0,0))
end Go.Proofs.YtmokogkndbinlaaGreatDoor
namespace Go.Proofs.YtmokogkndbinlaaGreatDoor
open Go.Lib (hid)
attribute [local go_sem] Oper.semAt_some
open Go.RowKit Go.Shelf
theorem info_i64z:(Tryz.prog.info? 2).map (fun i=>(i.zero,i.size,i.bytes))=some (some (.int .i64 0),1,8):=by kernel_rfl
def zL (z:Nat→Int) (m:Nat):List Int:=(List.range m).map z
theorem zL_len (z:Nat→Int) (m:Nat):(zL z m).length=m:=by simp [zL]
theorem zL_take (z:Nat→Int) {m j:Nat}(h:j < m):(zL z m).take (j+1)=(zL z m).take j++[z j]:=by
 rw [List.take_add_one,List.getElem?_eq_getElem (by rw [zL_len];exact h)];simp [zL]
theorem zL_costs (z:Nat→Int) (m:Nat):(zL z m).map (Value.int .i64)=costL_Tb3 z m:=by simp [zL,costL_Tb3]
theorem row_zL {W:World}{B m:Nat}{v:Value}{z:Nat→Int}(h:W.ownsRow B 2 1 v (zL z m).length ((zL z m).map fun y:Int=>Value.int .i64 y)):W.ownsRow B 2 1 v m (costL_Tb3 z m):=by
 rw [zL_len] at h;rw [← zL_costs];exact h
def Vals64Post (l:List Int) (J Jx:List Int→World→Prop) (e:Ending) (W':World):Prop:=(∃ v,e = .returned v)∧((∃ ys,ys=l∧J ys W')∨(∃ pre,pre <+: l∧Jx pre W'))
set_option maxRecDepth 100000 in
set_option maxHeartbeats 1000000 in
theorem vals64_in (n:Nat) (hn:1≤n) (y Bn n₀ m c:Nat) (A:Option Addr) (z:Nat→Int) (J Jx:List Int→World→Prop) (W:World) (hm4:m≤100000)
  (hJ:AbidesFrom W.heap.size J)
  (hY:∀ pre x W1,J pre W1→pre.length < (zL z m).length→YieldAt Fence.wide (n - 1) Tryz.prog y #[.int .i64 x] W1 fun e W' =>
   (e = .returned (.bool true)∧J (pre++[x]) W'∧Below n₀ W1 W')∨(e = .returned (.bool false)∧Jx (pre++[x]) W'))
  (hBn:Bn < n₀) (hn₀:n₀≤W.heap.size) (hc0:W.cell? ⟨Bn,0,none⟩=some (.slice A m c)) (hA:∀ W',Below n₀ W W'→Zs W' A m z) (h0:J [] W) :
  CallsIn Fence.wide n Tryz.prog 233 #[.func (.yield y) #[] #[],.pointer (some ⟨Bn,0,none⟩)] W (Vals64Post (zL z m) J Jx):=by
 have HM:=hid (zL_len z m);obtain⟨l,hl⟩:∃ l,zL z m=l:=⟨_,rfl⟩
 have HL:=hid hl;rw [hl] at HM hY ⊢;clear hl;have HA:=hid hA;have HY:=hid hY;have HJ:=hid hJ;have HJ0:=hid h0;clear hA hY hJ h0;refine callsIn_of_wp Tryz.func233 rfl trivial ?_ rfl;simp only [Tryz.ntmps233,List.size_toArray,List.length_cons,List.length_nil,Nat.reduceAdd,Nat.reduceSub,Array.replicate_succ,Array.replicate_zero,List.push_toArray,List.append_toArray,List.nil_append,List.cons_append]
 gi_wp2_with fail
 gi_loopw [7] (fun i wr=>∃ j:Nat,j≤m∧i = .int .i64 (j:Int)∧J (l.take j) wr∧Below n₀ W wr) (fun i _=>m - (intOf i).toNat)
 case atStart=>exact⟨0,Nat.zero_le _,rfl,HJ0.out,Below.refl _ _⟩
 case round =>
  obtain⟨j,hj,rfl,hJs,hBs⟩:=hrel;have HJs:=hid hJs;have HBs:=hid hBs;clear hJs hBs;by_cases hlt:j < m
  rotate_left
  ·have i1:¬ ((j:Int) < (m:Int)):=by omega
   have ht:l.take j=l:=List.take_of_length_le (by rw [HM.out];omega);have hJ:=HJs.out;rw [ht] at hJ
   gi_wp2
   go_end0
   exact (show Vals64Post l J Jx _ _ from ⟨⟨_,rfl⟩,.inl ⟨l,rfl,hJ⟩⟩)
  obtain⟨g,o,rfl,hcell⟩:=(HA.out _ HBs.out).at_ hlt;have ht:l.take (j+1)=l.take j++[z j]:=by
   rw [← HL.out];exact zL_take z hlt
  obtain⟨x,hx⟩:∃ x,z j=x:=⟨_,rfl⟩
  rw [hx] at hcell ht;clear hx;obtain⟨fn,tmps,assign,body,hy,hR⟩:=HY.out (l.take j) x wr HJs.out (by rw [List.length_take,HM.out];omega);have i1:(j:Int) < (m:Int):=by omega
  have i2:(0:Int)≤(j:Int):=by omega
  have HTT:=hid ht;clear ht
  gi_wp2
  refine hR.mono ?_;rintro e W3 (⟨rfl,hJ3,hk3⟩ | ⟨rfl,hJx3⟩)
  ·rw [← HTT.out] at hJ3
   have HJ3:=hid hJ3;have HB3:=hid (HBs.out.trans hk3);clear hJ3 hk3 hy hR hcell
   gi_wp2
   go_roundw
   case rel=>exact⟨j+1,by omega,by go_num,HJ3.out,HB3.out⟩
   case measure=>simp [intOf];omega
  rw [← HTT.out] at hJx3
  gi_wp2
  refine bodyPost_ret (results_none rfl _ _ _) rfl ?_;exact (show Vals64Post l J Jx _ _ from ⟨⟨_,rfl⟩,.inr ⟨l.take (j+1),List.take_prefix _ _,hJx3⟩⟩)
theorem vals64_stops (n:Nat) (hn:1≤n) (Bn n₀ m c:Nat) (A:Option Addr) (z:Nat→Int) (w:World) (hm4:m≤100000) (hBn:Bn < n₀) (hn₀:n₀≤w.heap.size)
  (hc0:w.cell? ⟨Bn,0,none⟩=some (.slice A m c)) (hA:∀ W',Below n₀ w W'→Zs W' A m z) :
  SeqStopsK Fence.wide n Tryz.prog 233 #[.pointer (some ⟨Bn,0,none⟩)] (fun x:Int=>#[Value.int .i64 x]) (Below n₀) (fun ys=>ys=zL z m) (fun pre=>pre <+: zL z m) (zL z m).length w:=fun y J Jx W hW hJ _ hY h0 =>
 vals64_in n hn y Bn n₀ m c A z J Jx W hm4 hJ hY hBn (by have:=hW.size;omega) ((hW.cell (p:=⟨Bn,0,none⟩) (by show Bn < w.heap.size;omega)).trans hc0) (fun W' h=>hA W' ((hW.mono hn₀).trans h)) h0
set_option maxRecDepth 100000 in
set_option maxHeartbeats 2000000 in
theorem append64_in (n:Nat) (hn:3≤n) (Bn m c:Nat) (A:Option Addr) (z:Nat→Int) (w:World) (hm4:m≤100000) (hBn:Bn < w.heap.size) (hc0:w.cell? ⟨Bn,0,none⟩=some (.slice A m c)) (hA:Zs w A m z) :
  CallsIn Fence.wide n Tryz.prog 267 #[.slice none 0 0,.func (.func 233) #[] #[.pointer (some ⟨Bn,0,none⟩)]] w fun e W'=>∃ v,e = .returned v∧W'.ownsRow w.heap.size 2 1 v m (costL_Tb3 z m)∧Below w.heap.size w W':=by
 have h1:1≤n:=by omega
 obtain⟨i0,hi,hz0,hz1,hz2⟩:=info_parts info_i64z;refine callsIn_of_wp_marks Tryz.func267 rfl trivial ?_ rfl;simp only [Tryz.ntmps267,List.size_toArray,List.length_cons,List.length_nil,Nat.reduceAdd,Nat.reduceSub,Array.replicate_succ,Array.replicate_zero,List.push_toArray,List.append_toArray,List.nil_append,List.cons_append]
 gi_wp2_with fail
 have bO:=Boxed.new w 34 (.slice none 0 0);have hB0:Below w.heap.size w (w.alloc (.cells #[.slice none 0 0] 34)):=(Below.refl _ w).alloc (Nat.le_refl _) _;have hlen:(zL z m).length≤100000:=by rw [zL_len];exact hm4
 refine wpIn_rangeFunc_ownG rfl h1 (gf:=233) (lb:=#[.pointer (some ⟨Bn,0,none⟩)]) rfl trivial (enters_of Tryz.func233 (by kernel_rfl) rfl)
  (vals64_stops (n - 1) (by omega) Bn w.heap.size m c A z _ hm4 hBn (by simp) ((hB0.cell (p:=⟨Bn,0,none⟩) hBn).trans hc0) (fun W' h=>hA.below (hB0.trans h) (Nat.le_refl _))) belowK_t (belowK_b (by simp)) (Below.refl _ _) (fun _=>rfl)
  (fun pre W=>(∃ v,Boxed W w.heap.size 34 v∧W.ownsRow w.heap.size 2 1 v pre.length (pre.map fun y:Int=>Value.int .i64 y)∧True)∧Below w.heap.size w W)
  (fun _ _ _=>False)
  (OwnFrom.and (_root_.Go.Own.from (holdsRow_own w.heap.size w.heap.size 34 2 1 (fun pre:List Int=>pre.length) (fun pre=>pre.map fun y:Int=>Value.int .i64 y) (fun _ _=>True)) _) (ownFrom_below (Nat.le_refl _) (by simp)))
  (fun _ _ _ _ _ hs _ _=>hs)
  ⟨⟨_,bO,World.ownsRow_nil _ _ _ _,trivial⟩,hB0⟩
  (fun x:Int=>{ tmps:=#[.slice none 0 0,.func (.func 233) #[] #[.pointer (some ⟨Bn,0,none⟩)],.pointer (some ⟨w.heap.size,0,none⟩),undef,.slice none 0 0,.int .i64 x,.func (.func 233) #[] #[.pointer (some ⟨Bn,0,none⟩)],.int .i64 x,undef,undef,undef,undef,undef],defers:=[] }) ?assign ?body ?done ?stop
 case assign =>
  intro y x W K hK
  gi_wp2
  exact hK
 case body =>
  rintro y pre x W ⟨⟨v,hv,hrow,_⟩,hBW⟩ hlt;have hc:=hv.cell
  gi_wp2_with (gi_at_builtin;refine wpListIn_append_own _ rfl _ _ 34 rfl w.heap.size 2 i0 (.int .i64 0) 1 8 Tryz.underlying34 hi hz0 hz1 hz2 rfl (by decide) _ _ _ rfl (hrow.alloc _) ⟨W.heap.size,0,none⟩ 1 1 [.int .i64 x] rfl rfl (cell_one_new _ _ _) (by simp [Value.oneCell']) (by unfold maxLen;omega) (by omega) (by have:=hBW.size;simp;omega) ?_;intro v' w1 hown' hgrow _;obtain⟨g',cap',rfl⟩:=ownsRow_succ hown';obtain⟨hv1,hv2,hr2,hk2,hb2⟩:=hv.appended (by decide) hrow hBW.size (Nat.le_refl _) hown' hgrow;have hc1:=hv1.cell;have hf1:=hv1.frozen)
  exact⟨hk2.from _,hb2,⟨_,hv2,by simpa using hr2,trivial⟩,hBW.trans hb2⟩
 case done =>
  rintro D ys W hD rfl ⟨⟨v,hv,hrow,_⟩,hBW⟩ hK;have hc:=hv.cell
  gi_wp2
  refine⟨by simp,.inl ⟨_,_,rfl,run_takeDeferred hK,?_⟩⟩;exact⟨_,results_tmp rfl _ _ _,v,rfl,row_zL (ownsRow_putObj hrow _ hK rfl),hBW.trans (belowK_b (w:=w) (Nat.le_refl _) W D _ _ (by simp at hD;omega) hK rfl rfl)⟩
 case stop =>
  rintro D c pre W _ _ h _;exact h.elim
theorem values64_any (A:Option Addr) (m c:Nat) (w:World):Calls Tryz.prog 185 #[.slice A m c] w fun e w'=>e = .returned (.func (.func 233) #[] #[.pointer (some ⟨w.heap.size,0,none⟩)])∧w'=w.alloc (.cells #[.slice A m c] 34):=by
 go_enter Tryz.func185,Tryz.ntmps185
 go_wp2_with fail
 go_ret;exact⟨rfl,rfl⟩
theorem collect64_any (Bn m c:Nat) (A:Option Addr) (z:Nat→Int) (w:World) (hm4:m≤100000) (hBn:Bn < w.heap.size) (hc0:w.cell? ⟨Bn,0,none⟩=some (.slice A m c)) (hA:Zs w A m z) :
  Calls Tryz.prog 231 #[.func (.func 233) #[] #[.pointer (some ⟨Bn,0,none⟩)]] w fun e w'=>(∃ v,e = .returned v∧w'.ownsRow w.heap.size 2 1 v m (costL_Tb3 z m))∧Below w.heap.size w w':=by
 have C:=hid (callsIn_wide.1 (append64_in 3 (Nat.le_refl _) Bn m c A z w hm4 hBn hc0 hA));clear hc0 hA;go_enter Tryz.func231,Tryz.ntmps231
 go_wp2_with (go_at_call 267;refine C.out.mono ?_;rintro e w' ⟨v,rfl,h1,h2⟩)
 go_ret;exact⟨⟨_,rfl,h1⟩,h2⟩
end Go.Proofs.YtmokogkndbinlaaGreatDoor
namespace Go.Proofs.YtmokogkndbinlaaGreatDoor
open Go.Lib (hid)
open Go.RowKit Go.Shelf Go.Sort
def sortZ (z:Nat→Int) (m:Nat):List Int:=(zL z m).mergeSort fun x y=>decide (x≤y)
theorem sortZ_len (z:Nat→Int) (m:Nat):(sortZ z m).length=m:=by simp [sortZ,zL_len]
set_option maxHeartbeats 1000000 in
theorem sorted64_any (Bn m c:Nat) (A:Option Addr) (z:Nat→Int) (w:World) (hm1:1≤m) (hm4:m≤100000) (hBn:Bn < w.heap.size) (hc0:w.cell? ⟨Bn,0,none⟩=some (.slice A m c)) (hA:Zs w A m z) :
  Calls Tryz.prog 184 #[.func (.func 233) #[] #[.pointer (some ⟨Bn,0,none⟩)]] w fun e w'=>(∃ v,e = .returned v∧w'.ownsRow w.heap.size 2 1 v m ((sortZ z m).map (Value.int .i64)))∧Below w.heap.size w w':=by
 have C:=hid (collect64_any Bn m c A z w hm4 hBn hc0 hA);clear hc0 hA;go_enter Tryz.func184,Tryz.ntmps184
 go_wp2_with fail
 refine C.out.mono ?_;rintro e w1 ⟨⟨v,rfl,hO⟩,hb⟩;rw [← zL_costs] at hO;obtain⟨hl,⟨rfl,h0⟩ | ⟨gb,cap,cur,rfl,hbase,hgb,r1,r2,r3,r4⟩⟩:=hO
 ·omega
 have HH:Hid (Holds (Value.int .i64) w1 gb 0 (zL z m).toArray):=hid (holds_of_blockI hgb (by rw [zL_len];rw [Nat.mul_one] at r4;exact r4));have hgl:gb < w1.heap.size:=(Array.getElem?_eq_some_iff.1 hgb).1;have SS:Hid (Calls Tryz.prog 232 #[.slice (some ⟨gb,0,none⟩) (zL z m).length cap] w1 fun e w'=>e = .returned (.tuple #[])∧∃ n os,w'=grow (putRow (Value.int .i64) (Sort.ahead w1 n) gb 0 ((zL z m).mergeSort fun x y=>decide (x≤y)).toArray) os):=hid (AnyM.slices_Sort_int Tryz.sort64 gb 0 cap (zL z m) w1 HH.out hgl (by rw [zL_len];omega));have FIN:Hid (∀ (nn:Nat) (os:Array Obj),(grow (putRow (Value.int .i64) (Sort.ahead w1 nn) gb 0 (sortZ z m).toArray) os).ownsRow w.heap.size 2 1 (.slice (some ⟨gb,0,none⟩) m cap) m ((sortZ z m).map (Value.int .i64))∧Below w.heap.size w (grow (putRow (Value.int .i64) (Sort.ahead w1 nn) gb 0 (sortZ z m).toArray) os)):=hid fun nn os=>by
  have h:=ownsRow_sortedI (base:=w.heap.size) (n:=nn) (os:=os) (ss:=zL z m) (ts:=sortZ z m) (by rw [sortZ_len,zL_len]) hbase hgb (by rw [zL_len];omega) r2 r3;rw [zL_len] at h;exact⟨h,hb.grown (grownBy_sortedI _) hb.size (fun j hj=>by cases hj;exact hbase)⟩
 rw [zL_len] at SS;clear hb hl hgb r1 r2 r3 r4;go_wp2_with (go_at_call 232;refine SS.out.mono ?_;rintro e w' ⟨rfl,nn,os,rfl⟩)
 have F2:=hid (FIN.out nn os);clear FIN SS;go_ret;exact⟨⟨_,rfl,F2.out.1⟩,F2.out.2⟩
end Go.Proofs.YtmokogkndbinlaaGreatDoor
namespace Go.Proofs.YtmokogkndbinlaaGreatDoor
open Go.Lib (hid)
attribute [local go_sem] Oper.semAt_some
open Go.RowKit Go.Shelf Go.Maps Go.Sort
theorem cellsK_get:∀ (ts:List (List Nat)) (j:Nat),j < ts.length * 6→(cellsK ts)[j]? = (encK (ts.getD (j / 6) []))[j % 6]?
 | [],j,h=>by simp at h
 | t::ts,j,h=>by
  rw [cellsK_cons];by_cases hj:j < 6
  ·rw [List.getElem?_append_left (by simpa [encK] using hj),Nat.div_eq_of_lt hj,Nat.mod_eq_of_lt hj]
   rfl
  have h':j - 6 < ts.length * 6:=by simp at h;omega
  rw [List.getElem?_append_right (by simp [encK];omega),show (encK t).length=6 from rfl,cellsK_get ts (j - 6) h'];have e1:j / 6=(j - 6) / 6+1:=by omega
  have e2:j % 6=(j - 6) % 6:=by omega
  rw [e1,e2];rfl
theorem flat_get (d:List (List Nat)) (j:Nat) (h:j < d.length * 6):(cellsK d)[j]? = some ((Go.Sort.flatK encK 6 d.toArray)[j]!):=by
 rw [cellsK_get d j h,get_flatK encK 6 d.toArray j (by simpa using h)];have h6:j % 6 < (encK (d.getD (j / 6) [])).length:=by show j % 6 < 6;omega
 rw [List.getElem?_eq_getElem h6];have hd:j / 6 < d.length:=by omega
 have e:d.toArray[j / 6]! = d.getD (j / 6) []:=by
  rw [getElem!_pos d.toArray (j / 6) (by simpa using hd)];simp [List.getD_eq_getElem?_getD,hd]
 rw [e,getElem!_pos (encK (d.getD (j / 6) [])) (j % 6) h6]
theorem holds_keys {w:World}{g cap:Nat}{cur:Array Value}{e:TypeId}{d:List (List Nat)} (hb:w.heap[g]? = some (.cells cur e (0,0))) (ht:cur.toList.take (d.length * 6)=cellsK d):HoldsK encK 6 w g 0 d.toArray:=by
 intro j hj;have hj':j < d.length * 6:=by simpa using hj
 refine⟨?_,by simp [World.frozen?,hb]⟩;have h1:(cur.toList.take (d.length * 6))[j]? = (cellsK d)[j]?:=by rw [ht]
 rw [List.getElem?_take_of_lt hj',flat_get d j hj'] at h1;rw [Nat.zero_add,cell_of_row w g j cur e (0,0) hb,← Array.getElem?_toList,h1];rfl
theorem heap_sortedK {w:World}{g n:Nat}{os:Array Obj}{cur:Array Value}{e:TypeId}{fr:Nat × Nat}(d:Array (List Nat)) (hb:w.heap[g]? = some (.cells cur e fr)) :
  (sortWorldK encK 6 w g 0 n d os).heap[g]? = some (.cells (putCells id 0 (Go.Sort.flatK encK 6 d) cur) e fr):=by
 have hg:g < w.heap.size:=(Array.getElem?_eq_some_iff.1 hb).1;unfold sortWorldK putRowK;rw [heap_grow_old _ _ (by simpa using hg)];simp [putRow,mapBlock,Sort.ahead,Array.getElem?_modify,hb]
 rfl
theorem grownBy_sortedK {w:World}{g n:Nat}{os:Array Obj}(d:Array (List Nat)):w.grownBy (sortWorldK encK 6 w g 0 n d os) (some g):=by
 unfold sortWorldK putRowK;refine⟨rfl,rfl,rfl,by simp,fun k hk hne=>?_⟩;rw [heap_grow_old _ _ (by simpa using hk)];have:g≠k:=fun e=>hne (by rw [e]);simp [putRow,mapBlock,Sort.ahead,Array.getElem?_modify,this]
theorem take_putK (cur:Array Value) (d:List (List Nat)) (h:d.length * 6≤cur.size):(putCells id 0 (Go.Sort.flatK encK 6 d.toArray) cur).toList.take (d.length * 6)=cellsK d:=by
 apply List.ext_getElem?;intro j;by_cases hj:j < d.length * 6
 ·rw [List.getElem?_take_of_lt hj,Array.getElem?_toList,flat_get d j hj]
  simp [putCells,hj,show j < cur.size by omega]
 rw [List.getElem?_take_eq_none (by omega),List.getElem?_eq_none (by rw [cellsK_len];omega)]
theorem ownsRow_sortedK {w:World}{base g cap n:Nat}{e:TypeId}{os:Array Obj}{cur:Array Value}{d d':List (List Nat)} (hl:d'.length=d.length) (hbase:base≤g) (hb:w.heap[g]? = some (.cells cur e (0,0)))
  (h1:d.length≤cap) (h2:cap≤maxLen) (h3:cur.size=cap * 6) :
  (sortWorldK encK 6 w g 0 n d'.toArray os).ownsRow base e 6 (.slice (some ⟨g,0,none⟩) d.length cap) d.length (cellsK d') :=
 ⟨by rw [cellsK_len,hl],.inr ⟨g,cap,_,rfl,hbase,heap_sortedK _ hb,h1,h2,by simp [putCells,h3],by rw [← hl];exact take_putK cur d' (by omega)⟩⟩
theorem rise_uniqU {l t:List Nat}(h1:l.Pairwise (· < ·)) (h2:t.Pairwise (· < ·)) (h:∀ x,x∈l↔x∈t):l=t:=by
 induction l generalizing t with
 | nil =>
  cases t with
  | nil=>rfl
  | cons b t=>exact absurd ((h b).2 (by simp)) (by simp)
 | cons a l ih =>
  cases t with
  | nil=>exact absurd ((h a).1 (by simp)) (by simp)
  | cons b t =>
   have p1:=List.pairwise_cons.1 h1;have p2:=List.pairwise_cons.1 h2;have hab:a=b:=by
    rcases List.mem_cons.1 ((h a).1 (by simp)) with e | e
    ·exact e
    rcases List.mem_cons.1 ((h b).2 (by simp)) with e2 | e2
    ·exact e2.symm
    have:=p1.1 b e2;have:=p2.1 a e;omega
   subst hab;refine congrArg _ (ih p1.2 p2.2 fun x=>⟨fun hx=>?_,fun hx=>?_⟩)
   ·rcases List.mem_cons.1 ((h x).1 (List.mem_cons_of_mem _ hx)) with e | e
    ·have:=p1.1 x hx;omega
    exact e
   rcases List.mem_cons.1 ((h x).2 (List.mem_cons_of_mem _ hx)) with e | e
   ·have:=p2.1 x hx;omega
   exact e
theorem sorted_lines {l:List Nat}{o:Int}{f:List Nat→Int}(hl:∀ n∈l,1≤n) (h6:l.length≤6) {ks:List (List Nat)} (hnd:ks.Nodup) (hm:∀ t,t∈ks↔InL l t∧f t≠o) (hs:SortedIn (ltOf cmpK) 0 ks.length ks.toArray):ks=linesT l o f:=by
 have hp:(ks.map (numL l)).Pairwise (· < ·):=by
  rw [List.pairwise_map,List.pairwise_iff_getElem];intro i j hi hj hij;have h1:=hs i j (Nat.zero_le _) hij hj;rw [getElem!_pos ks.toArray i (by simpa using hi),getElem!_pos ks.toArray j (by simpa using hj)] at h1;simp only [List.getElem_toArray] at h1;rw [ltOf_cmpK] at h1;have mi:=((hm ks[i]).1 (List.getElem_mem hi)).1;have mj:=((hm ks[j]).1 (List.getElem_mem hj)).1;have h2:=of_decide_eq_false h1;rw [cmp_num 6 h6 mj mi] at h2;have h3:numL l ks[i]≠numL l ks[j]:=fun e=>by
   have e':ks[i]=ks[j]:=by rw [← mi.tup,← mj.tup,e]
   have:=(List.nodup_iff_pairwise_ne.1 hnd)
   rw [List.pairwise_iff_getElem] at this;exact this i j hi hj hij e'
  omega
 have hq:((linesT l o f).map (numL l)).Pairwise (· < ·):=by
  rw [linesT_num];exact List.pairwise_lt_range.filter _
 have he:=rise_uniqU hp hq fun x=>by
  simp only [List.mem_map];constructor
  ·rintro⟨t,ht,rfl⟩
   exact⟨t,(linesT_mem hl t).2 ((hm t).1 ht),rfl⟩
  rintro⟨t,ht,rfl⟩;exact⟨t,(hm t).2 ((linesT_mem hl t).1 ht),rfl⟩
 have back:∀ xs:List (List Nat),(∀ t∈xs,InL l t)→(xs.map (numL l)).map (tupL l)=xs:=fun xs hx=>by
  rw [List.map_map];conv=>rhs;rw [← List.map_id xs]
  exact List.map_congr_left fun t ht=>(hx t ht).tup
 rw [← back ks (fun t ht=>((hm t).1 ht).1),he,back _ (fun t ht=>((linesT_mem hl t).1 ht).1)]
theorem nodup_lenU:∀ {V L:List Nat},V.Pairwise (·≠·)→(∀ x∈V,x∈L)→V.length≤L.length
 | [],L,_,_=>Nat.zero_le _
 | x::V,L,h,hs=>by
  have hx:=hs x (List.mem_cons_self ..);have h2:=List.pairwise_cons.1 h;have ih:=nodup_lenU (L:=L.erase x) h2.2 fun y hy=>(List.mem_erase_of_ne (fun e=>h2.1 y hy e.symm)).2 (hs y (List.mem_cons_of_mem _ hy));rw [List.length_erase_of_mem hx] at ih;have:0 < L.length:=List.length_pos_of_mem hx;show V.length+1≤L.length;omega
theorem tuples_len {l:List Nat}(h6:l.length≤6) (h32:∀ n∈l,n≤32) {d:List (List Nat)} (hnd:d.Nodup) (hm:∀ t∈d,InL l t):d.length≤1073741824:=by
 have h1:(d.map (numL l)).Pairwise (·≠·):=by
  rw [List.pairwise_map];have h:=List.nodup_iff_pairwise_ne.1 hnd;rw [List.pairwise_iff_getElem] at h ⊢;intro i j hi hj hij e;exact h i j hi hj hij (by rw [← (hm _ (List.getElem_mem hi)).tup,← (hm _ (List.getElem_mem hj)).tup,e])
 have h2:=nodup_lenU (L:=List.range (prodL l)) h1 fun x hx=>by
  obtain⟨t,ht,rfl⟩:=List.mem_map.1 hx;exact List.mem_range.2 (hm t ht).num_lt
 rw [List.length_map,List.length_range] at h2;have h3:=prodL_le h32;have h4:32 ^ l.length≤32 ^ 6:=Nat.pow_le_pow_right (by omega) h6;have h5:(32:Nat) ^ 6=1073741824:=by decide
 omega
theorem collectK_any (Bm b nn:Nat) (l:List Nat) (o:Int) (f:List Nat→Int) (D0:DataW Unit) (hrep:RepF D0 l o f) (h6:l.length≤6) (h32:∀ n∈l,n≤32) (w:World) (hBm:Bm < w.heap.size)
  (hm:w.cell? ⟨Bm,0,none⟩=some (.map (some b))) (hown:w.ownsMap Tryz.prog 139 (plainElem Tryz.prog 2) b nn D0) (hsz:Maps.size D0≤1000000) :
  Calls Tryz.prog 201 #[.func (.func 203) #[] #[.pointer (some ⟨Bm,0,none⟩)]] w fun e W'=>∃ v,e = .returned v∧(∃ ts:List (TT l),Coll D0 l (fun _=>false) ts∧W'.ownsRow w.heap.size 139 6 v ts.length (cellsK (valsT ts)))∧Below w.heap.size w W':=by
 have C:=hid (callsIn_wide.1 (appendK_in 3 (Nat.le_refl _) Bm b nn l o f D0 hrep h6 h32 w hBm hm hown hsz));clear hm hown hrep;go_enter Tryz.func201,Tryz.ntmps201
 go_wp2_with (go_at_call 242;refine C.out.mono ?_;rintro e w' ⟨v,rfl,h1,h2⟩)
 go_ret;exact⟨_,rfl,h1,h2⟩
theorem isAggK:∀ w,(isAgg 139).run Tryz.prog w = .ok true w:=fun w=>by kernel_rfl
theorem sizeOfK:∀ w,(Go.sizeOf 139).run Tryz.prog w = .ok 6 w:=fun w=>by kernel_rfl
set_option maxHeartbeats 1000000 in
theorem sortedK_any (Bm b nn:Nat) (l:List Nat) (o:Int) (f:List Nat→Int) (D0:DataW Unit) (hrep:RepF D0 l o f) (h6:l.length≤6) (h32:∀ n∈l,1≤n∧n≤32) (w:World) (hBm:Bm < w.heap.size)
  (hm:w.cell? ⟨Bm,0,none⟩=some (.map (some b))) (hown:w.ownsMap Tryz.prog 139 (plainElem Tryz.prog 2) b nn D0) (hsz:Maps.size D0≤1000000) :
  Calls Tryz.prog 156 #[.func (.func 203) #[] #[.pointer (some ⟨Bm,0,none⟩)],.func (.func 158) #[] #[]] w fun e W'=>(∃ v,e = .returned v∧W'.ownsRow w.heap.size 139 6 v (linesT l o f).length (cellsK (linesT l o f)))∧Below w.heap.size w W':=by
 have C:=hid (collectK_any Bm b nn l o f D0 hrep h6 (fun n hn=>(h32 n hn).2) w hBm hm hown hsz);have HRep:=hid hrep;have H1:Hid (∀ n∈l,1≤n):=hid fun n hn=>(h32 n hn).1;have HU:Hid (∀ n∈l,n≤32):=hid fun n hn=>(h32 n hn).2;clear hm hown hrep h32;go_enter Tryz.func156,Tryz.ntmps156
 go_wp2_with fail
 refine C.out.mono ?_;rintro e w1 ⟨v,rfl,⟨ts,hC,hO⟩,hb⟩;have HM:∀ t,t∈valsT ts↔InL l t∧f t≠o:=fun t=>by
  rw [hC.mem t];constructor
  ·rintro⟨h1,h2,_⟩
   rw [(HRep.out.1 t h1).1] at h2;exact⟨h1,of_decide_eq_true h2⟩
  rintro⟨h1,h2⟩;exact⟨h1,by rw [(HRep.out.1 t h1).1];exact decide_eq_true h2,rfl⟩
 obtain⟨hl,⟨rfl,h0⟩ | ⟨gb,cap,cur,rfl,hbase,hgb,r1,r2,r3,r4⟩⟩:=hO
 ·have hts:ts=[]:=List.eq_nil_of_length_eq_zero h0
  have hlines:linesT l o f=[]:=by
   refine List.eq_nil_iff_forall_not_mem.2 fun t ht=>?_;have:=(HM t).2 ((linesT_mem H1.out t).1 ht);rw [hts] at this;simp at this
  have HL:=hid hlines;have HB:=hid hb;have SN:Hid (Calls Tryz.prog 202 #[.slice none 0 0,.func (.func 158) #[] #[]] w1 _):=hid (AnyF.slices_SortFunc_none Tryz.sortK none 0 (.func (.func 158) #[] #[]) w1);clear hl h0 hts hlines hb HM hC;go_wp2_with (go_at_call 202;refine SN.out.mono ?_;rintro e w' ⟨rfl,rfl⟩)
  go_ret;exact⟨⟨_,rfl,by rw [HL.out];exact World.ownsRow_nil _ _ _ _⟩,HB.out⟩
 obtain⟨d,hd⟩:∃ d,valsT ts=d:=⟨_,rfl⟩
 have hn:ts.length=d.length:=by rw [← hd,List.length_map]
 rw [hd] at HM r4;have hnd:d.Nodup:=by rw [← hd];exact hC.nd
 rw [hn] at r1 r4 ⊢;have HH:=holds_keys (cap:=cap) hgb r4;have hgl:gb < w1.heap.size:=(Array.getElem?_eq_some_iff.1 hgb).1;have eg:∀ args w,(callFunc 158 args).run Tryz.prog w = .ok (.enter 158 args) w:=enters_of Tryz.func158 (by kernel_rfl) rfl;have SS:=AnyQ.slices_SortFunc Tryz.sortK 6 isAggK sizeOfK encK (fun _=>rfl) encK_one cmpK swoK 158 #[] gb 0 cap d.toArray w1 eg (cmpLaysK gb 0 _ w1) HH hgl (by rw [List.size_toArray];have:=tuples_len h6 HU.out hnd (fun t ht=>((HM t).1 ht).1);omega);rw [List.size_toArray] at SS;have FIN:Hid (∀ (d':Array (List Nat)) (nn:Nat) (os:Array Obj),PermIn 0 d.length d.toArray d'→SortedIn (ltOf cmpK) 0 d.length d' →
   (sortWorldK encK 6 w1 gb 0 nn d' os).ownsRow w.heap.size 139 6 (.slice (some ⟨gb,0,none⟩) d.length cap) (linesT l o f).length (cellsK (linesT l o f))∧Below w.heap.size w (sortWorldK encK 6 w1 gb 0 nn d' os)):=hid fun d' nn os hp hs=>by
  have hsz':d'.size=d.length:=by have h:=hp.1;rw [List.size_toArray] at h;exact h
  have hperm:d'.toList.Perm d:=by
   have h:=hp.2.2;have e1:d'.extract 0 d.length=d':=by rw [← hsz'];exact Array.extract_size
   have e2:d.toArray.extract 0 d.length=d.toArray:=by simp
   rw [e1,e2] at h;exact h
  have hk:d'.toList=linesT l o f:=sorted_lines H1.out h6 (hperm.nodup_iff.2 hnd) (fun t=>by rw [hperm.mem_iff];exact HM t) (by rw [Array.length_toList,hsz'];simpa using hs);have hlen:(linesT l o f).length=d.length:=by rw [← hk,Array.length_toList,hsz']
  have h:=ownsRow_sortedK (base:=w.heap.size) (n:=nn) (os:=os) (d:=d) (d':=d'.toList) (by rw [Array.length_toList,hsz']) hbase hgb r1 r2 r3;rw [hk] at h;have e3:(linesT l o f).toArray=d':=by rw [← hk]
  rw [e3] at h;rw [hlen];exact⟨h,hb.grown (grownBy_sortedK _) hb.size (fun j hj=>by cases hj;exact hbase)⟩
 have SS':=hid (show Calls Tryz.prog 202 #[.slice (some ⟨gb,0,none⟩) d.length cap,.func (.func 158) #[] #[]] w1 _ from SS);clear hl hb hgb r1 r2 r3 r4 HH hgl eg SS hnd HM hC hd hn;go_wp2_with (go_at_call 202;refine SS'.out.mono ?_;rintro e w' ⟨rfl,d',nn,os,hp,hs,rfl⟩)
 have F2:=hid (FIN.out d' nn os hp hs);clear FIN SS' hp hs;go_ret;exact⟨⟨_,rfl,F2.out.1⟩,F2.out.2⟩
end Go.Proofs.YtmokogkndbinlaaGreatDoor
namespace Go.Proofs.YtmokogkndbinlaaGreatDoor
open Go.Lib (hid)
open Go.RowKit Go.Maps
def lineC (f:List Nat→Int) (ps:List (Value × List Nat)):List Value:=ps.flatMap fun p=>[p.1,.int .i64 (f p.2)]
theorem lineC_snoc (f:List Nat→Int) (ps:List (Value × List Nat)) (p:Value × List Nat):lineC f (ps++[p])=lineC f ps++[p.1,.int .i64 (f p.2)]:=by simp [lineC]
theorem lineC_get (f:List Nat→Int):∀ (ps:List (Value × List Nat)) (j:Nat) (h:j < ps.length),(lineC f ps)[2 * j]? = some (ps[j]'h).1∧(lineC f ps)[2 * j+1]? = some (.int .i64 (f (ps[j]'h).2))
 | p::ps,0,h=>⟨rfl,rfl⟩
 | p::ps,j+1,h=>by
  have e:lineC f (p::ps)=[p.1,.int .i64 (f p.2)]++lineC f ps:=rfl;have h':j < ps.length:=by simpa using h
  have:=lineC_get f ps j h';rw [e,List.getElem?_append_right (by simp;omega),List.getElem?_append_right (by simp;omega)];rw [show 2 * (j+1) - [p.1,Value.int .i64 (f p.2)].length=2 * j by simp;omega,show 2 * (j+1)+1 - [p.1,Value.int .i64 (f p.2)].length=2 * j+1 by simp;omega];exact this
theorem row_belowL {w w':World}{base B sz:Nat}{e:TypeId}{v:Value}{n:Nat}{xs:List Value}(h:w.ownsRow base e sz v n xs) (hb:Below B w w') (hB:w.heap.size≤B):w'.ownsRow base e sz v n xs:=by
 obtain⟨h1,⟨rfl,hn⟩ | ⟨g,cap,cur,rfl,hb',hh,hm,hx,hs,ht⟩⟩:=h
 ·exact⟨h1,.inl ⟨rfl,hn⟩⟩
 refine⟨h1,.inr ⟨g,cap,cur,rfl,hb',?_,hm,hx,hs,ht⟩⟩;rw [hb.block g (by have:=(Array.getElem?_eq_some_iff.1 hh).1;omega)];exact hh
def LinesAt (W:World) (base:Nat) (v:Value) (f:List Nat→Int) (ts:List (List Nat)):Prop :=
 ∃ ps:List (Value × List Nat),ps.map (·.2)=ts∧W.ownsRow base 185 2 v ts.length (lineC f ps)∧∀ p∈ps,Own W base p.1 p.2
theorem LinesAt.form {w:World}{base:Nat}{v:Value}{f:List Nat→Int}{ts:List (List Nat)} (h:LinesAt w base v f ts) :
  ∃ A c,v = .slice A ts.length c∧∀ j,j < ts.length→∃ g x,A=some ⟨g,0,none⟩∧g < w.heap.size∧w.cell? ⟨g,2 * j,none⟩=some x∧w.cell? ⟨g,2 * j+1,none⟩=some (.int .i64 (f (nthT ts j)))∧Own w base x (nthT ts j):=by
 obtain⟨ps,rfl,h1,h2⟩:=h;have hl:=h1.1;obtain⟨_,⟨rfl,hn⟩ | ⟨g,cap,cur,rfl,hb,hh,hm,_,hs,ht⟩⟩:=h1
 ·exact⟨none,0,by rw [hn],fun j hj=>by omega⟩
 refine⟨_,cap,rfl,fun j hj=>?_⟩;have hj':j < ps.length:=by simpa using hj
 obtain⟨e1,e2⟩:=lineC_get f ps j hj';have en:nthT (ps.map (·.2)) j=ps[j].2:=by simp [nthT,List.getD_eq_getElem?_getD,hj']
 refine⟨g,ps[j].1,rfl,(Array.getElem?_eq_some_iff.1 hh).1,?_,?_,by rw [en];exact h2 _ (List.getElem_mem hj')⟩
 ·rw [cell_of_row w g _ cur _ (0,0) hh]
  rw [← ht,List.getElem?_take_of_lt (by rw [List.length_map] at *;omega)] at e1;simpa using e1
 rw [cell_of_row w g _ cur _ (0,0) hh,en];rw [← ht,List.getElem?_take_of_lt (by rw [List.length_map] at *;omega)] at e2;simpa using e2
theorem Own.apart2 {w:World}{base b2:Nat}{v u:Value}{l:List Nat}{n:Nat}{xs:List Value}(h:Own w base v l) (k:w.ownsRow b2 185 2 u n xs):v.ownBlock=none∨v.ownBlock≠u.ownBlock:=by
 cases hv:v.ownBlock with
 | none=>exact .inl rfl
 | some g =>
  refine .inr fun e=>?_;obtain⟨c,fz,hc⟩:=h.kind g hv;obtain⟨c',fz',hc'⟩:=Lib.ownsRow_kind k g e.symm;rw [hc] at hc';cases hc'
theorem LinesAt.push {w w':World}{base:Nat}{v v':Value}{f:List Nat→Int}{ts:List (List Nat)} {t:List Nat}{u:Value}{ps:List (Value × List Nat)} (h0:ps.map (·.2)=ts) (h1:w.ownsRow base 185 2 v ts.length (lineC f ps)) (h2:∀ p∈ps,Own w base p.1 p.2)
  (hu:Own w base u t) (hr:w'.ownsRow base 185 2 v' (ts.length+1) (lineC f ps++[u,.int .i64 (f t)])) (hg:w.grownBy w' v.ownBlock):LinesAt w' base v' f (ts++[t]):=by
 refine⟨ps++[(u,t)],by rw [List.map_append,h0];rfl,by rw [lineC_snoc,List.length_append];exact hr,fun p hp=>?_⟩;rcases List.mem_append.1 hp with hp | hp
 ·exact (h2 p hp).grown hg ((h2 p hp).apart2 h1)
 simp at hp
 subst hp;exact hu.grown hg (hu.apart2 h1)
end Go.Proofs.YtmokogkndbinlaaGreatDoor
