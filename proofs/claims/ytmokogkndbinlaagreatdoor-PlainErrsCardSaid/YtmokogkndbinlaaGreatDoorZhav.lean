import Derived.Deep.RegionLaw
import Derived.Laws.BitsAllLaws
import Derived.Laws.BitsLemmas
import Derived.Laws.MathBits
import Derived.Deep.Strs
import Derived.Deep.DeepCutAuto
import Derived.Test.YtmokogkndbinlaaGreatDoorZhau
set_option linter.all false
namespace Go.Proofs.YtmokogkndbinlaaGreatDoor
open Go.Lib (hid)
attribute [local go_sem] Oper.semAt_some
open Go.RowKit Go.Shelf Go.Maps Go.Sort
theorem info_key:(Tryz.prog.info? 139).map (fun i=>(i.zero,i.size,i.bytes))=some (some (.agg kyZ),6,48):=by kernel_rfl
def cellsK (ts:List (List Nat)):List Value:=ts.flatMap encK
theorem cellsK_cons (t:List Nat) (ts:List (List Nat)):cellsK (t::ts)=encK t++cellsK ts:=rfl
theorem cellsK_snoc (ts:List (List Nat)) (t:List Nat):cellsK (ts++[t])=cellsK ts++encK t:=by simp [cellsK]
theorem cellsK_len:∀ ts:List (List Nat),(cellsK ts).length=ts.length * 6
 | []=>rfl
 | t::ts=>by rw [cellsK_cons,List.length_append,cellsK_len ts];simp [encK];omega
abbrev valsT {l:List Nat}(ts:List (TT l)):List (List Nat):=ts.map Subtype.val
def AxK {l:List Nat}(B0 Bs b:Nat) (sv:Value) (x:TT l) (a':Act) (W:World):Prop :=
 ∃ B5,B0≤B5∧a' = { tmps:=#[.slice none 0 0,sv,.pointer (some ⟨Bs,0,none⟩),undef,.slice none 0 0,.pointer (some ⟨B5,0,none⟩),sv,keyV x.val,undef,undef,undef,undef,undef],defers:=[] }∧W.heap[B5]? = some (.cells (kyC x.val) 139 (0,0))
theorem cell_six_new (W:World) (t:List Nat) (ty:TypeId):∀ j u,(encK t)[j]? = some u→(W.alloc (.cells (kyC t) ty)).cell? ((⟨W.heap.size,0,none⟩:Addr).add j)=some u:=by
 intro j u hu;have hj:j < 6:=(List.getElem?_eq_some_iff.1 hu).1;have hr:=heap_alloc_new W (.cells (kyC t) ty);rw [show ((⟨W.heap.size,0,none⟩:Addr).add j)=⟨W.heap.size,j,none⟩ by (simp [Addr.add];omega)];rw [cell_of_row _ _ _ _ _ _ hr];rcases (by omega:j=0∨j=1∨j=2∨j=3∨j=4∨j=5) with rfl | rfl | rfl | rfl | rfl | rfl <;> exact hu
theorem encK_one (t:List Nat):∀ v∈encK t,v.oneCell'=true:=by
 intro v hv;simp [encK] at hv
 rcases hv with rfl | rfl | rfl | rfl | rfl | rfl <;> rfl
theorem walks_of_others {W W':World}(h:KeepsOthers W W'):KeepsWalks W W' :=
 ⟨h.size,fun k o hk ho=>h.same k o hk (by cases o <;> first | rfl | (simp [Obj.isWalk] at ho))⟩
theorem axK_own {l:List Nat}(B B0 Bs b:Nat) (sv:Value) (x:TT l) (a':Act):OwnFrom B (fun (_:Unit) W=>AxK B0 Bs b sv x a' W):=by
 rintro s W W' row ⟨B5,h1,h2,h3⟩ hg hr;refine⟨B5,h1,h2,(hg.block B5 (Array.getElem?_eq_some_iff.1 h3).1 fun e=>?_).trans h3⟩;obtain⟨o,ho,hc⟩:=(hr B5 e.symm).2;rw [h3] at ho;cases ho;cases hc
set_option maxRecDepth 100000 in
set_option maxHeartbeats 4000000 in
theorem appendK_in (n:Nat) (hn:3≤n) (Bm b nn:Nat) (l:List Nat) (o:Int) (f:List Nat→Int) (D0:DataW Unit) (hrep:RepF D0 l o f) (h6:l.length≤6) (h32:∀ n∈l,n≤32) (w:World) (hBm:Bm < w.heap.size)
  (hm:w.cell? ⟨Bm,0,none⟩=some (.map (some b))) (hown:w.ownsMap Tryz.prog 139 (plainElem Tryz.prog 2) b nn D0) (hsz:Maps.size D0≤1000000) :
  CallsIn Fence.wide n Tryz.prog 242 #[.slice none 0 0,.func (.func 203) #[] #[.pointer (some ⟨Bm,0,none⟩)]] w fun e W'=>∃ v,e = .returned v∧(∃ ts:List (TT l),Coll D0 l (fun _=>false) ts∧W'.ownsRow w.heap.size 139 6 v ts.length (cellsK (valsT ts)))∧Below w.heap.size w W':=by
 have h1:1≤n:=by omega
 obtain⟨i0,hi,hz0,hz1,hz2⟩:=info_parts info_key;refine callsIn_of_wp_marks Tryz.func242 rfl trivial ?_ rfl;simp only [Tryz.ntmps242,List.size_toArray,List.length_cons,List.length_nil,Nat.reduceAdd,Nat.reduceSub,Array.replicate_succ,Array.replicate_zero,List.push_toArray,List.append_toArray,List.nil_append,List.cons_append]
 gi_wp2_with fail
 have bO:=Boxed.new w 224 (.slice none 0 0);have hB0:Below w.heap.size w (w.alloc (.cells #[.slice none 0 0] 224)):=(Below.refl _ w).alloc (Nat.le_refl _) _;refine wpIn_rangeFunc_ownH rfl h1 (gf:=203) (lb:=#[.pointer (some ⟨Bm,0,none⟩)]) rfl trivial (enters_of Tryz.func203 (by kernel_rfl) rfl)
  (keys_stops (n - 1) (by omega) Bm b nn l o f D0 hrep h6 h32 _ (by simp;omega) ((hB0.cell (p:=⟨Bm,0,none⟩) hBm).trans hm) (hown.alloc _)) walksK_t walksK_b (Below.refl _ _) (fun _=>rfl)
  (fun pre W=>(∃ v,Boxed W w.heap.size 224 v∧W.ownsRow w.heap.size 139 6 v pre.length (cellsK (valsT pre))∧True)∧Below w.heap.size w W)
  (fun _ _ _=>False)
  (OwnFrom.and (_root_.Go.Own.from (holdsRow_own w.heap.size w.heap.size 224 139 6 (fun pre:List (TT l)=>pre.length) (fun pre=>cellsK (valsT pre)) (fun _ _=>True)) _) (ownFrom_below (Nat.le_refl _) (by simp)))
  (fun _ _ _ _ _ hs _ _=>hs)
  ⟨⟨_,bO,World.ownsRow_nil _ _ _ _,trivial⟩,hB0⟩
  (AxK (w.heap.size+1) w.heap.size b (.func (.func 203) #[] #[.pointer (some ⟨Bm,0,none⟩)]))
  ?ax ?assign ?body ?done ?stop
 case ax=>exact fun x a'=>axK_own _ _ _ _ _ x a'
 case assign =>
  rintro y pre x W K ⟨⟨v,hv,hrow,_⟩,hBW⟩ hK;have hlt:=World.block_lt_of_cell? W _ hv.cell
  gi_wp2_with (first
   | ((with_reducible show wpListIn _ _ _ _ _ (Oper.mk none (.store 139 _ _) _ _ _ _::_) _ _);refine wpListIn_store_rowK rfl 139 (.tmp 5) (.tmp 7) rfl W.heap.size (kyC x.val) rfl rfl 139 kyZ (heap_alloc_new _ _) (by kernel_rfl) rfl (ky_one x.val) ?_;rw [World.setRow_alloc_new])
   | gi_in)
  exact hK _ _ (KeepsFrom.of_grownBy (World.grownBy_alloc W _ none) (fun j e=>by cases e)) (KeepsWalks.alloc W _) ⟨⟨v,box_below hv (new_val W _),hrow.alloc _,trivial⟩,then_ hBW (new_val W _)⟩ ⟨W.heap.size,hlt,rfl,heap_alloc_new _ _⟩
 case body =>
  rintro y pre x a' W hl hloop ⟨⟨v,hv,hrow,_⟩,hBW⟩ ⟨B5,h5,rfl,hr5⟩ hlt;obtain⟨y0,y1,y2,y3,y4,y5⟩:=ky_cells hr5;have hc:=hv.cell
  gi_wp2_with (gi_at_builtin;refine wpListIn_append_own _ rfl _ _ 224 rfl w.heap.size 139 i0 (.agg kyZ) 6 48 Tryz.underlying224 hi hz0 hz1 hz2 rfl (by decide) _ _ _ rfl (hrow.alloc _) ⟨W.heap.size,0,none⟩ 1 1 (encK x.val) rfl rfl (cell_six_new _ _ _) (encK_one _) (by unfold maxLen;omega) (by omega) (by have:=hBW.size;simp;omega) ?_;intro v' w1 hown' hgrow _;obtain⟨g',cap',rfl⟩:=ownsRow_succ hown';obtain⟨hv1,hv2,hr2,hk2,hb2⟩:=hv.appended (by decide) hrow hBW.size (Nat.le_refl _) hown' hgrow;have hc1:=hv1.cell;have hf1:=hv1.frozen)
  exact⟨hk2.from _,walks_of_others hk2,⟨_,hv2,by simpa [valsT,cellsK_snoc] using hr2,trivial⟩,hBW.trans hb2⟩
 case done =>
  rintro D ts W hD hS ⟨⟨v,hv,hrow,_⟩,hBW⟩ hK;have hc:=hv.cell
  gi_wp2
  refine⟨by simp,.inl ⟨_,_,rfl,run_takeDeferred hK,?_⟩⟩;exact⟨_,results_tmp rfl _ _ _,v,rfl,⟨ts,hS,ownsRow_putObj hrow _ hK rfl⟩,hBW.trans (belowK_b (w:=w) (Nat.le_refl _) W D _ _ (by simp at hD;omega) hK rfl rfl)⟩
 case stop =>
  rintro D c pre W _ _ h _;exact h.elim
end Go.Proofs.YtmokogkndbinlaaGreatDoor
namespace Go.Proofs.YtmokogkndbinlaaGreatDoor
open Go.Lib (hid)
open Go.RowKit
structure TabAt (w:World) (g h:Nat) (l:List Nat) (k:Int) (z:Nat→Int):Prop where
 row:w.heap[g]? = some (.cells #[.int .i64 (l.length:Int),szV l 0,szV l 1,szV l 2,szV l 3,szV l 4,szV l 5,.int .i64 k,.slice (some ⟨h,0,none⟩) (prodL l) (prodL l)] 142 (0,0))
 costs:∃ cur,w.heap[h]? = some (.cells cur 2 (0,0))∧cur.size=prodL l∧∀ i,i < prodL l→cur[i]? = some (.int .i64 (z i))
theorem TabAt.apart {w:World}{g h:Nat}{l:List Nat}{k:Int}{z:Nat→Int}(H:TabAt w g h l k z):g≠h:=by
 rintro rfl;obtain⟨cur,hc,_⟩:=H.costs;have:=H.row.symm.trans hc;simp at this
theorem TabAt.below {w w':World}{g h:Nat}{l:List Nat}{k:Int}{z:Nat→Int}(H:TabAt w g h l k z) (hb:Below w.heap.size w w'):TabAt w' g h l k z:=by
 obtain⟨cur,hc,h1,h2⟩:=H.costs;refine⟨?_,cur,?_,h1,h2⟩
 ·rw [hb.block g (Array.getElem?_eq_some_iff.1 H.row).1];exact H.row
 rw [hb.block h (Array.getElem?_eq_some_iff.1 hc).1];exact hc
theorem TabAt.cells {w:World}{g h:Nat}{l:List Nat}{k:Int}{z:Nat→Int}(H:TabAt w g h l k z) :
  w.cell? ⟨g,0,none⟩=some (.int .i64 (l.length:Int))∧w.cell? ⟨g,1,none⟩=some (szV l 0)∧w.cell? ⟨g,2,none⟩=some (szV l 1)∧w.cell? ⟨g,3,none⟩=some (szV l 2)∧w.cell? ⟨g,4,none⟩=some (szV l 3) ∧
  w.cell? ⟨g,5,none⟩=some (szV l 4)∧w.cell? ⟨g,6,none⟩=some (szV l 5)∧w.cell? ⟨g,7,none⟩=some (.int .i64 k)∧w.cell? ⟨g,8,none⟩=some (.slice (some ⟨h,0,none⟩) (prodL l) (prodL l)):=by
 refine⟨?_,?_,?_,?_,?_,?_,?_,?_,?_⟩ <;> (rw [cell_of_row _ _ _ _ _ _ H.row];rfl)
theorem TabAt.set {w:World}{g h:Nat}{l:List Nat}{k:Int}{z:Nat→Int}(H:TabAt w g h l k z) (N:Nat) (x:Int) :
  TabAt (w.setCell ⟨h,N,none⟩ (.int .i64 x)) g h l k (fun i=>if i=N then x else z i)∧w.grownBy (w.setCell ⟨h,N,none⟩ (.int .i64 x)) (some h):=by
 obtain⟨cur,hc,h1,h2⟩:=H.costs;refine⟨⟨(heap_setCell_other w ⟨h,N,none⟩ g _ H.apart).trans H.row,_,heap_setCell_same w h N cur 2 _ hc,by simpa using h1,fun i hi=>?_⟩,⟨rfl,rfl,rfl,by simp,fun k _ hk=>heap_setCell_other w ⟨h,N,none⟩ k _ (fun e=>hk (by simp [e]))⟩⟩;rw [Array.getElem?_setIfInBounds];by_cases e:N=i
 ·subst e
  rw [if_pos rfl,if_pos (by omega),if_pos rfl]
 rw [if_neg e,if_neg (fun h=>e h.symm)];exact h2 i hi
set_option maxRecDepth 100000 in
set_option maxHeartbeats 4000000 in
theorem tput_ok (g h:Nat) (A:Option Addr) (n c N:Nat) (l t:List Nat) (k x:Int) (z:Nat→Int) (w:World) (H:TabAt w g h l k z) (hn:n=t.length) (h6:l.length≤6) (h32:∀ n∈l,n≤32) (hr:Ints w A t) (hin:InL l t) (hN:numL l t=N) (hNP:N < prodL l)
  (hk1:1≤k) (hk2:k≤2147483648) (hx0:0≤x) (hx1:x≤k) :
  Calls Tryz.prog 58 #[.pointer (some ⟨g,0,none⟩),.slice A n c,.int .i64 x] w fun e w'=>e = .returned (.int .i64 0)∧TabAt w' g h l k (fun i=>if i=N then x else z i)∧w.grownBy w' (some h):=by
 have HX:=hid (fun W (hr:Ints W A t)=>index_ok' A n c N l t W hn h6 h32 hr hin hN);have HT:=hid H;have HR:=hid hr;obtain⟨c0,c1,c2,c3,c4,c5,c6,c7,c8⟩:=H.cells;have i0:(0:Int)≤(N:Int):=by omega
 have i1:(N:Int) < (prodL l:Int):=by omega
 clear H hr hin hN h32 hn;go_enter Tryz.func58,Tryz.ntmps58
 go_wp2_with fail
 refine (HX.out _ HR.out).mono ?_;rintro e w1 ⟨rfl,b1⟩;have T1:=hid (HT.out.below b1);have B1:=hid b1;obtain⟨d0,d1,d2,d3,d4,d5,d6,d7,d8⟩:=T1.out.cells;obtain⟨cur,hc,hcs,hcz⟩:=T1.out.costs;have hst:w1.cell? ⟨h,N,none⟩=some (.int .i64 (z N)):=by rw [cell_of_row _ _ _ _ _ _ hc];exact hcz N hNP
 have hfr:w1.frozen? ⟨h,N,none⟩=false:=frozen_of_row w1 h N cur 2 hc;have HC:=hid hc;have HCS:=hid hcs;have HCZ:=hid hcz;clear b1 c0 c1 c2 c3 c4 c5 c6 c7 c8 hc hcs hcz;go_wp2_with (go_at_call 108;refine (in_yes _ _ _ hk1 hk2 hx0 hx1).mono ?_;rintro e w' ⟨rfl,rfl⟩)
 go_ret;obtain⟨q1,q2⟩:=T1.out.set N x;exact⟨rfl,q1,⟨q2.os.trans B1.out.os,q2.tape.trans B1.out.tape,q2.output.trans B1.out.output,Nat.le_trans B1.out.size q2.size,fun i hi hne=>(q2.block i (Nat.lt_of_lt_of_le hi B1.out.size) hne).trans (B1.out.block i hi)⟩⟩
theorem tk_any (g h:Nat) (l:List Nat) (k:Int) (z:Nat→Int) (w:World) (H:TabAt w g h l k z):Calls Tryz.prog 141 #[.pointer (some ⟨g,0,none⟩)] w fun e w'=>e = .returned (.int .i64 k)∧w=w':=by
 obtain⟨c0,c1,c2,c3,c4,c5,c6,c7,c8⟩:=H.cells;clear H;go_enter Tryz.func141,Tryz.ntmps141
 go_wp2_with fail
 go_ret;exact⟨rfl,rfl⟩
theorem info_i64:(Tryz.prog.info? 2).map (fun i=>(i.zero,i.size,i.bytes))=some (some (.int .i64 0),1,8):=by kernel_rfl
def RepL (x:Int) (j n:Nat):List Value:=List.replicate j (.int .i64 x)++List.replicate (n - j) (.int .i64 0)
def RepAt (W:World) (h:Nat) (x:Int) (j n:Nat):Prop:=W.heap[h]? = some (.cells (RepL x j n).toArray 2 (0,0))
theorem made_list (n:Nat):madeCells #[.int .i64 0] n=(RepL 0 0 n).toArray:=by
 apply Array.ext
 ·simp [RepL,madeCells]
 intro i h1 h2;simp [RepL,madeCells,Nat.mod_one]
theorem rep_splice (x:Int) (j m n:Nat) (h:j+m≤n):splice (RepL x j n) j (List.replicate m (.int .i64 x))=RepL x (j+m) n:=by
 unfold splice RepL;have e1:(List.replicate j (Value.int .i64 x)++List.replicate (n - j) (Value.int .i64 0)).take j=List.replicate j (.int .i64 x):=by simp
 have e2:(List.replicate j (Value.int .i64 x)++List.replicate (n - j) (Value.int .i64 0)).drop (j+m)=List.replicate (n - (j+m)) (.int .i64 0):=by
  simp [List.drop_append,Nat.sub_sub]
 rw [e1,List.length_replicate,e2,← List.append_assoc,List.replicate_append_replicate]
theorem rep_len (x:Int) (j n:Nat) (h:j≤n):(RepL x j n).length=n:=by simp [RepL];omega
set_option maxRecDepth 100000 in
set_option maxHeartbeats 4000000 in
theorem repeat_one (g c n:Nat) (x:Int) (w:World) (hc:w.cell? ⟨g,0,none⟩=some (.int .i64 x)) (hg:g < w.heap.size) (hn1:1≤n) (hn:n≤4096)
  (hM:∀ W,Calls Tryz.prog 189 #[.int .u64 1,.int .u64 (n:Int)] W fun e w'=>e = .returned (.tuple #[.int .u64 0,.int .u64 (n:Int)])∧W=w') :
  Calls Tryz.prog 146 #[.slice (some ⟨g,0,none⟩) 1 c,.int .i64 (n:Int)] w fun e w'=>e = .returned (.slice (some ⟨w.heap.size,0,none⟩) n n)∧RepAt w' w.heap.size x n n∧Below w.heap.size w w':=by
 have HM:=hid hM;have hm:∀ W,(Instr.makeSlice 34 (.int .i64 (n:Int)) (.int .i64 (n:Int))).run Tryz.prog W = .ok (.slice (some ⟨W.heap.size,0,none⟩) n n) (W.alloc (.cells (madeCells #[.int .i64 0] n) 2)) :=
  fun W=>run_make_row' 34 2 (.int .i64 0) 8 Tryz.underlying34 info_i64 rfl .i64 .i64 n (by omega) (by omega) W
 have hc1:(w.alloc (.cells (RepL 0 0 n).toArray 2)).cell? ⟨g,0,none⟩=some (.int .i64 x):=((new_val w (.cells (RepL 0 0 n).toArray 2)).cell (p:=⟨g,0,none⟩) hg).trans hc;have hrow:=heap_alloc_new w (.cells (RepL 0 0 n).toArray 2);have hnew:=new_val w (.cells (RepL 0 0 n).toArray 2);rw [made_list] at hm;have HROW:=hid hrow;have HNEW:=hid hnew;have HC1:=hid hc1;have e1:IntKind.u64.wrap (n:Int)=(n:Int):=by show (n:Int) % 18446744073709551616=_;omega
 have e2:IntKind.i64.wrap (n:Int)=(n:Int):=IntWalk.i64_in _ (by omega);clear hM hrow hnew hc1 hc;have hsz:(Tryz.prog.info? 2).map (·.size)=some 1:=by kernel_rfl
 go_enter Tryz.func146,Tryz.ntmps146
 go_upto_region 7 with (go_at_call 189;refine (HM.out _).mono ?_;rintro e w' ⟨rfl,rfl⟩)
 go_wp2_with (refine wpList_copy_splice rfl (.tmp 31) (.tmp 32) 34 34 rfl 2 Tryz.underlying34 hsz (some ⟨w.heap.size,0,none⟩) (some ⟨g,0,none⟩) n n 1 c rfl rfl w.heap.size 0 (RepL 0 0 n) 2 HROW.out (List.replicate 1 (.int .i64 x)) (by show 1=min 1 n;omega) (fun _=>⟨rfl,_,rfl,fun j v hj=>by rcases j with _ | j;(simp at hj;subst hj;exact HC1.out);simp at hj⟩) (by rw [rep_len _ _ _ (Nat.zero_le _)];simp;omega) (fun v hv=>by simp at hv;subst hv;rfl) w.heap.size w HNEW.out (Nat.le_refl _) ?_;intro w1 hr1 hb1;have R1:Hid (RepAt w1 w.heap.size x 1 n):=hid (by have h:=hr1.out;rw [show RepL 0 0 n=RepL x 0 n from rfl,rep_splice x 0 1 n (by omega)] at h;exact h);have B1:=hid hb1;clear hr1 hb1)
 go_loopw [8] (fun i wr=>∃ j:Nat,1≤j∧j≤n∧i = .int .i64 (j:Int)∧RepAt wr w.heap.size x j n∧Below w.heap.size w wr) (fun i _=>n - (intOf i).toNat)
 case atStart=>exact⟨1,Nat.le_refl _,hn1,rfl,R1.out,B1.out⟩
 case round =>
  obtain⟨j,hj1,hj,rfl,hr,hb⟩:=hrel;have RJ:=hid hr;have BJ:=hid hb;clear hr hb;by_cases hlt:j < n
  rotate_left
  ·obtain rfl:j=n:=by omega
   have i1:¬ ((j:Int) < (j:Int)):=by omega
   go_wp2_with fail
   go_ret;exact⟨rfl,RJ.out,BJ.out⟩
  have i1:(j:Int) < (n:Int):=by omega
  have HCELL:Hid (∀ i v,(List.replicate (min j (n - j)) (Value.int .i64 x))[i]? = some v→wr.cell? ((⟨w.heap.size,0,none⟩:Addr).add i)=some v):=by
   refine hid fun i v hi=>?_;have hl:=(List.getElem?_eq_some_iff.1 hi).1;rw [List.length_replicate] at hl;rw [List.getElem?_replicate,if_pos hl] at hi;obtain rfl:=Option.some.inj hi;rw [show ((⟨w.heap.size,0,none⟩:Addr).add i)=⟨w.heap.size,i,none⟩ by (simp [Addr.add];omega),cell_of_row _ _ _ _ _ _ RJ.out];simp only [RepL,List.getElem?_toArray];rw [List.getElem?_append_left (by rw [List.length_replicate];omega),List.getElem?_replicate,if_pos (by omega)]
  have hN:Hid ((List.replicate (min j (n - j)) (Value.int .i64 x)).length=Nat.min j (n - j)):=hid (by rw [List.length_replicate]);have hF:Hid (j+(List.replicate (min j (n - j)) (Value.int .i64 x)).length≤(RepL x j n).length):=hid (by rw [rep_len _ _ _ hj,List.length_replicate];omega);have hO:Hid (∀ v∈List.replicate (min j (n - j)) (Value.int .i64 x),v.oneCell'=true):=hid (fun v hv=>by obtain⟨_,rfl⟩:=List.mem_replicate.1 hv;rfl);have i2:(0:Int)≤(j:Int):=by omega
  have hnj:¬ n=j:=by omega
  have i3:(j:Int)≤(n:Int):=by omega
  go_wp2_with fail
  go_region_law (refine step_copy_splice rfl (.tmp 41) (.tmp 44) 34 34 rfl 2 Tryz.underlying34 hsz (some ⟨w.heap.size,j,none⟩) (some ⟨w.heap.size,0,none⟩) (n - j) (n - j) j n (by simp [Act.eval,Act.put]) (by simp [Act.eval,Act.put]) w.heap.size j (RepL x j n) 2 RJ.out (List.replicate (min j (n - j)) (.int .i64 x)) hN.out (fun _=>⟨rfl,_,rfl,HCELL.out⟩) hF.out hO.out w.heap.size w (by first | exact BJ.out.drew | exact next_drewN BJ.out _ | exact BJ.out) (Nat.le_refl _) ?_;intro w2 hr2 hb2;have R2:Hid (RepAt w2 w.heap.size x (j+min j (n - j)) n):=hid (by have h:=hr2.out;rw [rep_splice x j _ n (by omega)] at h;exact h);have B2:=hid hb2;clear hr2 hb2)
  all_goals
   obtain⟨M,hM⟩:∃ M,min j (n - j)=M:=⟨_,rfl⟩
   rw [hM] at R2;simp [Act.put,hM]
   have i4:IntKind.i64.wrap ((j:Int)+(M:Int))=(j:Int)+(M:Int):=IntWalk.i64_in _ (by omega);go_wp2_with fail
   go_roundw
   case rel=>exact⟨j+M,by omega,by omega,by go_num,R2.out,B2.out⟩
   case measure=>simp [intOf];omega
def costL_Tb3 (z:Nat→Int) (n:Nat):List Value:=(List.range n).map fun i=>.int .i64 (z i)
theorem costL_len (z:Nat→Int) (n:Nat):(costL_Tb3 z n).length=n:=by simp [costL_Tb3]
theorem costL_one (z:Nat→Int) (n:Nat):∀ v∈costL_Tb3 z n,v.oneCell'=true:=by
 intro v hv;simp only [costL_Tb3,List.mem_map] at hv;obtain⟨i,_,rfl⟩:=hv;rfl
theorem costL_get {z:Nat→Int}{n j:Nat}{u:Value}(h:(costL_Tb3 z n)[j]? = some u):j < n∧u = .int .i64 (z j):=by
 have hj:=(List.getElem?_eq_some_iff.1 h).1;rw [costL_len] at hj;simp [costL_Tb3,List.getElem?_range hj] at h
 exact⟨hj,h.symm⟩
theorem TabAt.cost {w:World}{g h:Nat}{l:List Nat}{k:Int}{z:Nat→Int}(H:TabAt w g h l k z):∀ j u,(costL_Tb3 z (prodL l))[j]? = some u→w.cell? ((⟨h,0,none⟩:Addr).add j)=some u:=by
 intro j u hu;obtain⟨hj,rfl⟩:=costL_get hu;obtain⟨cur,hc,h1,h2⟩:=H.costs;rw [show ((⟨h,0,none⟩:Addr).add j)=⟨h,j,none⟩ by (simp [Addr.add];omega),cell_of_row _ _ _ _ _ _ hc];exact h2 j hj
set_option maxRecDepth 100000 in
set_option maxHeartbeats 4000000 in
theorem clone64 (h n:Nat) (z:Nat→Int) (w:World) (hh:h < w.heap.size) (hn:n≤1000000) (hc:∀ j u,(costL_Tb3 z n)[j]? = some u→w.cell? ((⟨h,0,none⟩:Addr).add j)=some u) :
  Calls Tryz.prog 85 #[.slice (some ⟨h,0,none⟩) n n] w fun e w'=>(∃ v,e = .returned v∧w'.ownsRow w.heap.size 2 1 v n (costL_Tb3 z n))∧Below w.heap.size w w':=by
 obtain⟨i0,hi,hz0,hz1,hz2⟩:=info_parts info_i64;have HI:=hid hi;have HZ0:=hid hz0;have HZ1:=hid hz1;have HZ2:=hid hz2;have HN:Hid (∀ j u,(costL_Tb3 z n)[j]? = some u→(w.alloc (.cells #[] 2)).cell? ((⟨h,0,none⟩:Addr).add j)=some u) :=
  hid fun j u hu=>((new_val w (.cells #[] 2)).cell (p:=(⟨h,0,none⟩:Addr).add j) (by rw [block_add];exact hh)).trans (hc j u hu)
 have hq:∀ W,(binOp .eql 34 (.slice (some ⟨h,0,none⟩) n n) (.slice none 0 0)).run Tryz.prog W = .ok (.bool false) W:=fun W=>Lib.run_eql_slice_nil W 34 2 (some ⟨h,0,none⟩) n n 0 0 Tryz.underlying34;clear hc hi hz0 hz1 hz2;go_enter Tryz.func85,Tryz.ntmps85
 go_wp2_with (at_builtin;refine wpList_append_own _ rfl (.tmp 5) (.tmp 6) 34 rfl w.heap.size 2 i0 (.int .i64 0) 1 8 Tryz.underlying34 HI.out HZ0.out HZ1.out HZ2.out rfl (by decide) (.slice (some ⟨w.heap.size,0,none⟩) 0 0) 0 [] rfl (World.ownsRow_made w #[] 0 (Nat.le_refl _) (by simp [maxLen]) rfl) ⟨h,0,none⟩ n n (costL_Tb3 z n) rfl (by rw [costL_len,Nat.mul_one]) HN.out (costL_one z n) (by unfold maxLen;omega) (by omega) (by simp) ?_;intro v' w1 h1 h2 _;have H1:=hid h1;have H2:=hid h2;clear h1 h2)
 go_ret;refine⟨⟨_,rfl,by have:=H1.out;rwa [Nat.zero_add,List.nil_append] at this⟩,?_⟩;exact ((Below.refl _ _).alloc (Nat.le_refl _) _).grown H2.out (by simp) (fun k hk=>by simp [Value.ownBlock] at hk;omega)
theorem entries_any (g h:Nat) (l:List Nat) (k:Int) (z:Nat→Int) (w:World) (H:TabAt w g h l k z) (hn:prodL l≤1000000) :
  Calls Tryz.prog 28 #[.pointer (some ⟨g,0,none⟩)] w fun e w'=>(∃ v,e = .returned v∧w'.ownsRow w.heap.size 2 1 v (prodL l) (costL_Tb3 z (prodL l)))∧Below w.heap.size w w':=by
 obtain⟨c0,c1,c2,c3,c4,c5,c6,c7,c8⟩:=H.cells;have hh:h < w.heap.size:=by obtain⟨cur,hc,_⟩:=H.costs;exact (Array.getElem?_eq_some_iff.1 hc).1
 have HC:=hid (clone64 h (prodL l) z w hh hn H.cost);clear H hh hn;go_enter Tryz.func28,Tryz.ntmps28
 go_wp2_with (go_at_call 85;refine HC.out.mono ?_;rintro e w' ⟨⟨v,rfl,h1⟩,h2⟩;have H1:=hid h1;have H2:=hid h2;clear h1 h2)
 go_ret;exact⟨⟨_,rfl,H1.out⟩,H2.out⟩
theorem mul_one' (n:Nat) (h:n≤4096) (W:World):Calls Tryz.prog 189 #[.int .u64 1,.int .u64 (n:Int)] W fun e w'=>e = .returned (.tuple #[.int .u64 0,.int .u64 (n:Int)])∧W=w':=by
 refine (Tryz.bits_Mul 1 n (by omega) (by omega) W).mono ?_;rintro e w' ⟨rfl,rfl⟩;rw [Nat.one_mul,Nat.div_eq_of_lt (by omega),Nat.mod_eq_of_lt (by omega)];exact⟨rfl,rfl⟩
theorem lit_new (w:World) (v:Value) (t:TypeId):(w.alloc (.cells #[v] t)).cell? ⟨w.heap.size,0,none⟩=some v:=by
 rw [cell_of_row _ _ _ _ _ _ (heap_alloc_new w _)];rfl
theorem lit_old (w:World) (v:Value) (t:TypeId) (o:Obj):((w.alloc (.cells #[v] t)).alloc o).cell? ⟨w.heap.size,0,none⟩=some v :=
 ((new_val (w.alloc (.cells #[v] t)) o).cell (p:=⟨w.heap.size,0,none⟩) (by simp)).trans (lit_new w v t)
theorem lit_newD (w:World) (v:Value) (t:TypeId) (g:Nat) (hg:g=w.heap.size):(w.alloc (.cells #[v] t)).drew.cell? ⟨g,0,none⟩=some v:=by
 subst hg;exact lit_new w v t
theorem lit_oldD (w:World) (v:Value) (t:TypeId) (o:Obj) (g:Nat) (hg:g=w.heap.size):((w.alloc (.cells #[v] t)).alloc o).drew.cell? ⟨g,0,none⟩=some v:=by
 subst hg;exact lit_old w v t o
theorem RepAt.costs {W:World}{h:Nat}{x:Int}{n:Nat}(H:RepAt W h x n n):∃ cur,W.heap[h]? = some (.cells cur 2 (0,0))∧cur.size=n∧∀ i,i < n→cur[i]? = some (.int .i64 x) :=
 ⟨_,H,by simp [RepL],fun i hi=>by simp [RepL,hi]⟩
theorem count_exact (l:List Nat) (w:World) (P:Nat) (h6:l.length≤6) (h32:∀ n∈l,n≤32) (hP:prodL l=P) :
  Calls Tryz.prog 147 #[shV l] w fun e w'=>e = .returned (.int .i64 (P:Int))∧w'=w.alloc (shO l):=by
 subst hP;exact count_any_ShA l w h6 h32
abbrev HoldN (w:World) (b:Nat) (l:List Nat) (W:World):Prop :=
 W.cell? ⟨b,0,none⟩=some (.int .i64 (l.length:Int))∧W.cell? ⟨b,1,none⟩=some (szV l 0)∧W.cell? ⟨b,2,none⟩=some (szV l 1)∧W.cell? ⟨b,3,none⟩=some (szV l 2) ∧
 W.cell? ⟨b,4,none⟩=some (szV l 3)∧W.cell? ⟨b,5,none⟩=some (szV l 4)∧W.cell? ⟨b,6,none⟩=some (szV l 5)∧Below w.heap.size w W
theorem holdN {w W W':World}{b:Nat}{l:List Nat}(h:HoldN w b l W) (hb:Below W.heap.size W W'):HoldN w b l W':=by
 obtain⟨h0,h1,h2,h3,h4,h5,h6,h8⟩:=h;have l0:b < W.heap.size:=World.block_lt_of_cell? W _ h0;exact⟨(hb.cell (p:=⟨_,0,none⟩) l0).trans h0,(hb.cell (p:=⟨_,1,none⟩) l0).trans h1,(hb.cell (p:=⟨_,2,none⟩) l0).trans h2,(hb.cell (p:=⟨_,3,none⟩) l0).trans h3,(hb.cell (p:=⟨_,4,none⟩) l0).trans h4,
  (hb.cell (p:=⟨_,5,none⟩) l0).trans h5,(hb.cell (p:=⟨_,6,none⟩) l0).trans h6,h8.trans (hb.mono h8.size)⟩
theorem HoldN.of {w:World}{b:Nat}{l:List Nat}(H:ShAt w b l):HoldN w b l w:=⟨H.c0,H.c1,H.c2,H.c3,H.c4,H.c5,H.c6,Below.refl _ _⟩
theorem holdN_below {w W:World}{b:Nat}{l:List Nat}(h:HoldN w b l W):Below w.heap.size w W:=h.2.2.2.2.2.2.2
theorem tab_new {w:World}{h P:Nat}{l:List Nat}{k x:Int}(H:RepAt w h x P P) (hP:prodL l=P) :
  TabAt (w.alloc (.cells #[.int .i64 (l.length:Int),szV l 0,szV l 1,szV l 2,szV l 3,szV l 4,szV l 5,.int .i64 k,.slice (some ⟨h,0,none⟩) P P] 142)) w.heap.size h l k (fun _=>x):=by
 subst hP;obtain⟨cur,hc,h1,h2⟩:=H.costs;exact⟨heap_alloc_new w _,cur,((new_val w _).block h (Array.getElem?_eq_some_iff.1 hc).1).trans hc,h1,h2⟩
set_option maxRecDepth 100000 in
set_option maxHeartbeats 4000000 in
theorem tnew_ok (A:Option Addr) (n c:Nat) (l:List Nat) (k x:Int) (w:World) (hn:n=l.length) (h6:l.length≤6) (hr:Ints w A l) (hl:∀ n∈l,1≤n∧n≤32) (hp:prodL l≤4096)
  (hk1:1≤k) (hk2:k≤2147483648) (hx0:0≤x) (hx1:x≤k) :
  Calls Tryz.prog 84 #[.slice A n c,.int .i64 k,.int .i64 x] w fun e w'=>∃ g h,e = .returned (.tuple #[.pointer (some ⟨g,0,none⟩),.int .i64 0])∧TabAt w' g h l k (fun _=>x)∧w.heap.size≤g∧w.heap.size≤h∧Below w.heap.size w w':=by
 have HC:=hid (new_mid' A n c l w hn h6 hr hl hp);have H32:Hid (∀ n∈l,n≤32):=hid fun n hn=>(hl n hn).2;obtain⟨P,hP⟩:∃ P,prodL l=P:=⟨_,rfl⟩
 have hP4:P≤4096:=by omega
 have hP1:1≤P:=by rw [← hP];exact prodL_pos fun n hn=>(hl n hn).1
 have HP:=hid hP;clear hn hr hl hp hP;go_enter Tryz.func84,Tryz.ntmps84
 go_wp2_with fail
 refine HC.out.mono ?_;rintro e w1 ⟨rfl,b1⟩;have B1:=hid b1;clear b1;go_upto_region 4 with ((with_reducible show wpList _ _ _ (Oper.mk none (.store 90 _ _) _ _ _ _::_) _ _);refine wpList_store_row rfl 90 (.tmp 8) (.tmp 13) rfl w1.heap.size (shC l) rfl rfl 90 (shC0 0) (heap_alloc_new _ _) (by kernel_rfl) rfl (sh_one l) ?_;rw [World.setRow_alloc_new])
 have n2:=new_val w1 (shO l);have H2:=hid (ShAt.new w1 l);have B2:=hid (then_ B1.out n2);have hz2:w1.heap.size < (w1.alloc (shO l)).heap.size:=by simp
 clear n2;generalize w1.alloc (.cells (shC l) 90)=w2 at H2 B2 hz2 ⊢;go_upto_region 6 with (go_at_call 108;refine (in_yes _ _ _ hk1 hk2 hx0 hx1).mono ?_;rintro e w' ⟨rfl,rfl⟩)
 have HN:=hid (HoldN.of H2.out);go_region_held3 (fun W=>HoldN w2 w1.heap.size l W) (first | exact holdN HN.out ((Below.refl _ _).drew) | exact holdN (by assumption) (new_val _ _) | exact holdN (by assumption) (by assumption))
  ((first | (go_at_call 147;refine (count_exact l _ P h6 H32.out HP.out).mono ?_;rintro e w' ⟨rfl,rfl⟩) | (go_at_call 146;refine (repeat_one _ _ _ x _ (by first | exact lit_newD _ _ _ _ (by simp) | exact lit_oldD _ _ _ _ _ (by simp)) (by simp <;> omega) hP1 hP4 (mul_one' P hP4)).mono ?_;rintro e w' ⟨rfl,hr,hb⟩;have HR:=hid hr;have HB:=hid hb)))
 all_goals
  go_wp2_with fail
  go_ret2;have hfin:=holdN_below (by assumption);refine⟨w'.heap.size,w2.heap.size+1+1,rfl,?_,?_,?_,then_ B2.out hfin⟩
  ·exact tab_new (by have h:=HR.out;simpa using h) HP.out
  ·have h1:=B2.out.size
   have h2:=HB.out.size;simp at h2
   omega
  have h1:=B2.out.size;omega
end Go.Proofs.YtmokogkndbinlaaGreatDoor
namespace Go.Proofs.YtmokogkndbinlaaGreatDoor
open Go.Lib (hid)
attribute [local go_sem] Oper.semAt_some
open Go.RowKit Go.Shelf
set_option maxRecDepth 100000 in
set_option maxHeartbeats 4000000 in
theorem tget_ok (g h:Nat) (A:Option Addr) (n c N:Nat) (l t:List Nat) (k:Int) (z:Nat→Int) (w:World) (H:TabAt w g h l k z) (hn:n=t.length) (h6:l.length≤6) (h32:∀ n∈l,n≤32) (hr:Ints w A t) (hin:InL l t) (hN:numL l t=N) (hNP:N < prodL l) :
  Calls Tryz.prog 103 #[.pointer (some ⟨g,0,none⟩),.slice A n c] w fun e w'=>e = .returned (.tuple #[.int .i64 (z N),.int .i64 0])∧Below w.heap.size w w':=by
 have HX:=hid (index_ok' A n c N l t w hn h6 h32 hr hin hN);have HT:=hid H;obtain⟨c0,c1,c2,c3,c4,c5,c6,c7,c8⟩:=H.cells;have i0:(0:Int)≤(N:Int):=by omega
 have i1:(N:Int) < (prodL l:Int):=by omega
 clear H hr hin hN h32 hn;go_enter Tryz.func103,Tryz.ntmps103
 go_wp2_with fail
 refine HX.out.mono ?_;rintro e w1 ⟨rfl,b1⟩;have T1:=hid (HT.out.below b1);have B1:=hid b1;obtain⟨d0,d1,d2,d3,d4,d5,d6,d7,d8⟩:=T1.out.cells;obtain⟨cur,hc,hcs,hcz⟩:=T1.out.costs;have hst:w1.cell? ⟨h,N,none⟩=some (.int .i64 (z N)):=by rw [cell_of_row _ _ _ _ _ _ hc];exact hcz N hNP
 clear b1 c0 c1 c2 c3 c4 c5 c6 c7 c8 hc hcs hcz;go_wp2_with fail
 go_ret2;exact⟨rfl,B1.out⟩
set_option maxRecDepth 100000 in
set_option maxHeartbeats 4000000 in
theorem tshape_any (g h:Nat) (l:List Nat) (k:Int) (z:Nat→Int) (w:World) (H:TabAt w g h l k z):Calls Tryz.prog 47 #[.pointer (some ⟨g,0,none⟩)] w fun e w'=>e = .returned (shV l)∧Below w.heap.size w w':=by
 obtain⟨c0,c1,c2,c3,c4,c5,c6,c7,c8⟩:=(H.below (new_val w (.cells (shC0 0) 90))).cells;clear H c7 c8;go_enter Tryz.func47,Tryz.ntmps47
 go_wp2_with ((with_reducible show wpList _ _ _ (Oper.mk none (.store 90 _ _) _ _ _ _::_) _ _);refine wpList_store_row rfl 90 (.tmp 2) (.tmp 9) rfl w.heap.size (shC l) rfl rfl 90 (shC0 0) (heap_alloc_new _ _) (by kernel_rfl) rfl (sh_one l) ?_;rw [World.setRow_alloc_new])
 exact bodyPost_ret (v:=shV l) (by simp [results,Tryz.results47,go_sem,(ShAt.new w l).c0,(ShAt.new w l).c1,(ShAt.new w l).c2,(ShAt.new w l).c3,(ShAt.new w l).c4,(ShAt.new w l).c5,(ShAt.new w l).c6]) rfl ⟨rfl,new_val _ _⟩
end Go.Proofs.YtmokogkndbinlaaGreatDoor
namespace Go.Proofs.YtmokogkndbinlaaGreatDoor
open Go.Lib (hid)
open Go.RowKit
theorem rows_wide {n:Nat}{P:Program}{row:String}{args:Array Value}{w:World}{R:Value→World→Prop}(h:Rows P row args w R):RowsIn Fence.wide n P row args w R :=
 fun c cs _=>let ⟨v,w',r,s⟩:=h c cs;⟨v,w',r,stepsIn_wide.2 s⟩
theorem oper_wide {n:Nat}{P:Program}{o:Oper}{a:Act}{w:World}{K:Act→World→Prop}{Q:Exit→Act→World→Prop}(h:o.wp P a w K Q):o.wpIn Fence.wide n P a w K Q:=by
 refine⟨fun _ _=>trivial,?_⟩;unfold Oper.wp at h;show o.uponIn Fence.wide n P a K Q ((execOp a.eval o).run P w);cases hr:(execOp a.eval o).run P w with
 | ok x w' =>
  rw [hr] at h;cases x <;> first | exact h | exact⟨(fun e=>by cases e),callsIn_wide.2 h⟩ | exact⟨(fun e=>by cases e),rows_wide h⟩ | exact False.elim h
 | halt x w' =>
  rw [hr] at h;cases x <;> exact h
theorem any_wide {n:Nat}{P:Program}{md:Region.Mode}{ops:Array Oper}{Q:Exit→Act→World→Prop}(hQ:¬ LetsOut Q) :
  ∀ (fuel:Nat) (listed:Array Bool) (a:Act) (w:World),wpAny P md ops Q fuel listed a w→wpAnyIn Fence.wide n P md ops Q fuel listed a w:=by
 intro fuel;induction fuel with
 | zero=>intro listed a w h;exact h
 | succ fuel ih =>
  intro listed a w h;refine⟨h.1,fun i hi=>?_⟩;have h2:=wpOp_mono (fun a' w'=>ih (listed.setIfInBounds i true) a' w') (h.2 i hi);unfold wpOp at h2;unfold wpOpIn;split
  ·rename_i ho
   simpa only [ho] using h2
  rename_i o ho;simp only [ho] at h2;split
  ·rename_i hw
   simp only [hw,if_true] at h2;rcases h2 with h2 | ⟨_,h2⟩
   ·exact oper_wide h2
   exact absurd h2 hQ
  rename_i hw;simp only [hw] at h2;exact⟨fun _ _=>trivial,h2⟩
theorem region_round_held {n:Nat}{P:Program}{id:Nat}{ops:Array Oper}{Q:Exit→Act→World→Prop}{S:World→Prop}{a:Act}{w:World}(l:Nat) (hm:P.follows .mixedOrders=true)
  (hnd:ops.all (fun o=>match o.op with | .defer _=>false | _=>true)=true) (hQ:¬ LetsOut Q) (hS:S w.drew)
  (h:S w.drew→wpAnyH P .any ops Q S ops.size (Array.replicate ops.size false) a w.drew):(Code.region id ops true).wpIn (Fence.wide.inRound l) n P Q a w :=
 region_round l hm hnd (any_wide hQ _ _ _ _ (wpAny_of_held _ _ _ _ (h hS)))
end Go.Proofs.YtmokogkndbinlaaGreatDoor
namespace Go.Proofs.YtmokogkndbinlaaGreatDoor
open Go.Lib (hid)
attribute [local go_sem] Oper.semAt_some
open Go.RowKit Go.Shelf
theorem tab_other {w:World}{g h b:Nat}{l:List Nat}{k:Int}{z:Nat→Int}{v:Value}(T:TabAt w g h l k z) (hb:Boxed w b 58 v) (u:Value):TabAt (w.setCell ⟨b,0,none⟩ u) g h l k z:=by
 obtain⟨cur,hc,h1,h2⟩:=T.costs;refine⟨(Below.heap_setCell _ _ _ _ (fun e=>?_)).trans T.row,cur,(Below.heap_setCell _ _ _ _ (fun e=>?_)).trans hc,h1,h2⟩
 ·have e':g=b:=e
  subst e';have:=T.row.symm.trans hb;simp at this
 have e':h=b:=e;subst e';have:=hc.symm.trans hb;simp at this
structure Kept2 (W0:World) (p q:Nat) (W:World):Prop where
 os:W.os=W0.os
 tape:W.tape=W0.tape
 output:W.output=W0.output
 size:W0.heap.size≤W.heap.size
 block:∀ b,b < W0.heap.size→b≠p→b≠q→W.heap[b]? = W0.heap[b]?
theorem Kept2.refl (W0:World) (p q:Nat):Kept2 W0 p q W0:=⟨rfl,rfl,rfl,Nat.le_refl _,fun _ _ _ _=>rfl⟩
theorem Kept2.next {W0 W W':World}{p q:Nat}(h:Kept2 W0 p q W) (hb:Below W.heap.size W W'):Kept2 W0 p q W' :=
 ⟨hb.os.trans h.os,hb.tape.trans h.tape,hb.output.trans h.output,Nat.le_trans h.size hb.size,fun b h1 h2 h3=>(hb.block b (Nat.lt_of_lt_of_le h1 h.size)).trans (h.block b h1 h2 h3)⟩
theorem Kept2.set {W0 W:World}{p q b:Nat}(h:Kept2 W0 p q W) (hb:b=p∨b=q) (i:Nat) (u:Value):Kept2 W0 p q (W.setCell ⟨b,i,none⟩ u) :=
 ⟨h.os,h.tape,h.output,by simpa [World.setCell] using h.size,fun c h1 h2 h3=>(Below.heap_setCell W ⟨b,i,none⟩ u c (fun e=>by have e':c=b:=e;omega)).trans (h.block c h1 h2 h3)⟩
theorem Kept2.below {W0 W w:World}{p q B:Nat}(h:Kept2 W0 p q W) (hB:Below B w W0) (hle:B≤w.heap.size) (hp:B≤p) (hq:B≤q):Below B w W :=
 ⟨h.os.trans hB.os,h.tape.trans hB.tape,h.output.trans hB.output,Nat.le_trans hB.size h.size,fun k hk=>(h.block k (by have:=hB.size;omega) (by omega) (by omega)).trans (hB.block k hk)⟩
theorem kept2_own {β:Type}{W0:World}{p q B:Nat}(hB:W0.heap.size≤B):OwnFrom B (fun (_:β) W=>Kept2 W0 p q W):=by
 intro s X Y row hs hg hr;refine⟨hg.os.trans hs.os,hg.tape.trans hs.tape,hg.output.trans hs.output,Nat.le_trans hs.size hg.size,fun b h1 h2 h3=>(hg.block b (Nat.lt_of_lt_of_le h1 hs.size) (fun e=>?_)).trans (hs.block b h1 h2 h3)⟩;have:=(hr b e.symm).1;omega
structure OutI (W0:World) (h gb P:Nat) (f1 f2:Nat→Int) (k:Int) (n:Nat) (W:World):Prop where
 kept:Kept2 W0 h gb W
 costs:W.rowIs h 2 P (fun i=>.int .i64 (if i < n then f1 i else k))
 best:W.rowIs gb 3 P (fun i=>.int .i64 (if i < n then f2 i else 0))
theorem rowIs_next {W W':World}{b:Nat}{t:TypeId}{n:Nat}{f:Nat→Value}(h:W.rowIs b t n f) (hb:Below W.heap.size W W'):W'.rowIs b t n f:=by
 obtain⟨c,hc,h1,h2⟩:=h;exact⟨c,(hb.block b (Array.getElem?_eq_some_iff.1 hc).1).trans hc,h1,h2⟩
structure OutR (W0:World) (h gb P:Nat) (f1 f2:Nat→Int) (k:Int) (n:Nat) (Bs:Nat) (W W':World):Prop where
 inv:OutI W0 h gb P f1 f2 k n W'
 kf:KeepsFrom W0.heap.size W W'
 k1:Keep1 Bs W W'
end Go.Proofs.YtmokogkndbinlaaGreatDoor
