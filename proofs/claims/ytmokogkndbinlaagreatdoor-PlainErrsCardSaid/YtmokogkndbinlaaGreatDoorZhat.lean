import Derived.RangeFuncStops
import Derived.RangeFuncKeeps
import Derived.RangeFuncNested
import Derived.Sort.MapsRangeIn
import Derived.RegionIn
import Derived.OrdersIn
import Derived.Test.YtmokogkndbinlaaGreatDoorZhas
set_option linter.all false
namespace Go.Proofs.YtmokogkndbinlaaGreatDoor
open Go.Lib (hid)
open Go.RowKit Go.Maps
abbrev HoldOo (wb:World) (g1 g2:Nat) (x1 x2:Value) (k1 k2 o1 o2:Int) (W:World):Prop :=
 W.cell? ⟨g1,0,none⟩=some x1∧W.cell? ⟨g2,0,none⟩=some x2∧W.cell? ⟨g1,1,none⟩=some (.int .i64 k1)∧W.cell? ⟨g2,1,none⟩=some (.int .i64 k2)∧W.cell? ⟨g1,2,none⟩=some (.int .i64 o1)∧W.cell? ⟨g2,2,none⟩=some (.int .i64 o2)∧Below wb.heap.size wb W
theorem HoldOo.below {wb W:World}{g1 g2:Nat}{x1 x2:Value}{k1 k2 o1 o2:Int}(H:HoldOo wb g1 g2 x1 x2 k1 k2 o1 o2 W):Below wb.heap.size wb W:=H.2.2.2.2.2.2
theorem HoldOo.next {wb W W':World}{g1 g2:Nat}{x1 x2:Value}{k1 k2 o1 o2:Int}(H:HoldOo wb g1 g2 x1 x2 k1 k2 o1 o2 W) (hb:Below W.heap.size W W'):HoldOo wb g1 g2 x1 x2 k1 k2 o1 o2 W':=by
 obtain⟨a0,a1,a2,a3,a4,a5,h9⟩:=H;have K:∀ b i v,W.cell? ⟨b,i,none⟩=some v→W'.cell? ⟨b,i,none⟩=some v:=fun b i v h=>(hb.cell (p:=⟨b,i,none⟩) (World.block_lt_of_cell? W _ h)).trans h;exact⟨K _ _ _ a0,K _ _ _ a1,K _ _ _ a2,K _ _ _ a3,K _ _ _ a4,K _ _ _ a5,h9.trans (hb.mono h9.size)⟩
theorem TpAt.both {w:World}{g b N c g' b' N' c':Nat}{A A':Option Addr}{l l':List Nat}{k o k' o':Int}{f f':List Nat→Int}(H:TpAt w g b A c N l k o f) (H':TpAt w g' b' A' c' N' l' k' o' f') :
  HoldOo w g g' (.slice A l.length c) (.slice A' l'.length c') k k' o o' w:=by
 obtain⟨a0,a1,a2,a3⟩:=H.cells;obtain⟨b0,b1,b2,b3⟩:=H'.cells;exact⟨a0,b0,a1,b1,a2,b2,Below.refl _ _⟩
theorem eql_ptr_nil (g:Nat) (w:World):(binOp .eql 60 (.pointer (some ⟨g,0,none⟩)) (.pointer none)).run Tryz.prog w = .ok (.bool false) w:=by
 have h:Tryz.prog.underlying 60=some (.pointer (Tryz.prog.pointee 60)):=by kernel_rfl
 have h1:∀ d:Nat,(Op.equalIn (d+1) 60 (.pointer (some ⟨g,0,none⟩)) (.pointer none)).run Tryz.prog w = .ok false w:=fun d=>by simp [Op.equalIn,run_underlying h]
 simp only [binOp];simp [Op.equal,Op.maxDepth,h1 9999]
theorem walks_below {W W':World}(hb:Below W.heap.size W W'):KeepsWalks W W':=⟨hb.size,fun k o hk _=>(hb.block k (Array.getElem?_eq_some_iff.1 hk).1).trans hk⟩
def IsB (r:Bool) (p:Prop):Prop:=r=true↔p
def SmPost (w:World) (l l':List Nat) (f f':List Nat→Int) (e:Ending) (w':World):Prop :=
 ∃ r:Bool,e = .returned (.bool r)∧(r=true↔l=l'∧SameF l f f')∧Below w.heap.size w w'
set_option maxRecDepth 100000 in
set_option maxHeartbeats 4000000 in
theorem tpsame_ok (g b N c g' b' N' c' P:Nat) (A A':Option Addr) (l:List Nat) (k o o':Int) (f f':List Nat→Int) (w:World) (H:TpAt w g b A c N l k o f) (H':TpAt w g' b' A' c' N' l k o' f') (h6:l.length≤6) (h32:∀ n∈l,1≤n∧n≤32) (hP:prodL l=P) (hP4:P≤1073741824) :
  Calls Tryz.prog 32 #[.pointer (some ⟨g,0,none⟩),.pointer (some ⟨g',0,none⟩)] w (SmPost w l l f f'):=by
 have q1:=eql_ptr_nil g w;have q2:=eql_ptr_nil g' w;have HH:=hid (H.both H');have HE:Hid (∀ W,Below w.heap.size w W→Calls Tryz.prog 25 #[.slice A l.length c,.slice A' l.length c'] W fun e w'=>e = .returned (.bool true)∧Below W.heap.size W w'):=hid fun W hb =>
  equal_yes A A' l.length c c' l W rfl (by omega) (H.below hb).ints (H'.below hb).ints
 have HA:=hid H;have HB:=hid H';have H32:=hid h32;have HP:=hid hP;have DS:∀ r:Bool,Hid (IsB r (SameF l f f'))→∀ w',Below w.heap.size w w'→SmPost w l l f f' (.returned (.bool r)) w':=fun r h w' hb=>⟨r,rfl,⟨fun hr=>⟨rfl,h.out.1 hr⟩,fun hr=>h.out.2 hr.2⟩,hb⟩
 have DH:=hid DS;clear H H' h32 hP DS;go_enter Tryz.func32,Tryz.ntmps32
 go_upto_region 3 with fail
 clear q1 q2;go_region_held3 (fun W=>HoldOo w g g' (.slice A l.length c) (.slice A' l.length c') k k o o' W) (first | exact HoldOo.next HH.out ((Below.refl _ _).drew) | exact HoldOo.next (by assumption) (by assumption))
  ((go_at_call 25;refine (HE.out _ (HoldOo.below (by assumption))).mono ?_;rintro e w1 ⟨rfl,b1⟩))
 have B1:Hid (Below w.heap.size w w1):=hid (HoldOo.below (by assumption));clear HE HH;have A1:=hid (HA.out.below B1.out);have B1':=hid (HB.out.below B1.out);obtain⟨DA,ownA,repA⟩:=A1.out.map;obtain⟨DB,ownB,repB⟩:=B1'.out.map;have RA:=hid repA;have RB:=hid repB;have OA:=hid ownA;have OB:=hid ownB;have SZ:=hid (size_lines ownA repA h6 H32.out);clear ownA repA ownB repB;obtain⟨L,hL⟩:∃ L,(linesT l o f).length=L:=⟨_,rfl⟩
 have HL:=hid hL;rw [hL] at SZ;clear hL;have hbB:b' < w1.heap.size:=B1'.out.lt;obtain⟨x0,x1,x2,a3⟩:=A1.out.cells;obtain⟨y0,y1,y2,b3⟩:=B1'.out.cells;clear x0 x1 x2 y0 y1 y2;go_wp2_with (first
  | (at_len;refine wpList_len_own _ rfl _ 136 rfl 139 2 Tryz.underlying136 _ b N DA rfl OA.out ?_;rw [SZ.out])
  | (at_range;refine wpList_range_own _ rfl _ 136 rfl 139 2 keyed Tryz.underlying136 _ b' N' DB rfl OB.out ?_;intro w0 hrg0 hg0 hs0) | go_in)
 have B0:Hid (Below w.heap.size w w0):=hid (B1.out.grown hg0 B1.out.size (fun k hk=>by cases hk));have hwr:w.heap.size≤w1.heap.size:=B1.out.size;clear hg0 hs0 a3 b3 OA OB SZ A1 B1';go_frame
 go_loopw [5,52] (fun told _ wr=>∃ (left:Lit→Bool) (cnt:Nat) (ts:List (List Nat)) (n:Nat),wr.ranges Tryz.prog 139 (plainElem Tryz.prog 2) b' w1.heap.size N' DB left cnt∧told = .int .i64 (n:Int)∧SeenT left l o o' f f' ts n∧Below w.heap.size w wr)
  (fun _ _ wr=>wr.rangeLeft b' w1.heap.size)
 case atStart=>exact⟨_,_,[],L,hrg0,rfl,by rw [← HL.out];exact SeenT.start RB.out,B0.out⟩
 case round =>
  obtain⟨left,cnt,ts,n,hrg,rfl,hS,hB⟩:=hrel;have HS:=hid hS;have BR:=hid hB;clear hS hB B0 hrg0;go_wp2_with (first
   | (at_next;refine wpList_next_ranges _ rfl _ rfl 139 keyed (plainElem Tryz.prog 2) id (Value.int .i64) (fun key kl hk=>⟨key,rfl⟩) (fun v y hv=>by obtain⟨c,rfl,_⟩:=plainElem_int_inv Tryz.underlying2 hv;exact⟨c,rfl⟩) b' w1.heap.size N' DB left cnt rfl hrg ?_ ?_)
   | go_in)
  ·intro hc0 hl0
   have HL0:=hid hl0;have AX:=hid (HA.out.below BR.out);obtain⟨DC,ownC,repC⟩:=AX.out.map;have RC:=hid repC;have OC:=hid ownC;clear ownC repC hl0 hc0 hrg;obtain⟨wx,hwx⟩:∃ W:World,W=wr:=⟨wr,rfl⟩
   subst hwx;have hbA:b < wx.heap.size:=AX.out.lt;have hww:w.heap.size≤wx.heap.size:=BR.out.size;obtain⟨x0,x1,x2,a3⟩:=AX.out.cells;clear x0 x1 x2 AX;go_wp2_with (first
    | (at_range;refine wpList_range_own _ rfl _ 136 rfl 139 2 keyed Tryz.underlying136 _ b N DC rfl OC.out ?_;intro w0 hrg0 hg0 hs0) | go_in)
   have B0:Hid (Below w.heap.size w w0):=hid (BR.out.grown hg0 BR.out.size (fun k hk=>by cases hk));clear hg0 hs0 a3 OC;go_frame
   go_loopw [80] (fun _ wr=>∃ (left2:Lit→Bool) (cnt2:Nat),wr.ranges Tryz.prog 139 (plainElem Tryz.prog 2) b wx.heap.size N DC left2 cnt2∧Went left2 l o f f'∧Below w.heap.size w wr)
    (fun _ wr=>wr.rangeLeft b wx.heap.size)
   case atStart=>exact⟨_,_,hrg0,Went.start RC.out,B0.out⟩
   case round =>
    obtain⟨left2,cnt2,hrg2,hW,hB⟩:=hrel;have HW:=hid hW;have BQ:=hid hB;clear hW hB B0 hrg0;go_wp2_with (first
     | (at_next;refine wpList_next_ranges _ rfl _ rfl 139 keyed (plainElem Tryz.prog 2) id (Value.int .i64) (fun key kl hk=>⟨key,rfl⟩) (fun v y hv=>by obtain⟨c,rfl,_⟩:=plainElem_int_inv Tryz.underlying2 hv;exact⟨c,rfl⟩) b wx.heap.size N DC left2 cnt2 rfl hrg2 ?_ ?_)
     | go_in)
    ·intro hc0 hl2
     have SA:=hid (same_all HS.out HW.out (fun n hn=>(H32.out n hn).1) HL0.out hl2);rw [HP.out] at SA;clear hc0 hl2 HL0 hrg2;have A4:=hid (HA.out.below BQ.out);have B4':=hid (HB.out.below BQ.out);obtain⟨w4,hw4⟩:∃ W:World,W=wr:=⟨wr,rfl⟩
     subst hw4;have HH:=hid (A4.out.both B4'.out);have COU:=hid (fun W (hb:Below w4.heap.size w4 W)=>tpcount_any g b N c P A l k o f W (A4.out.below hb) h6 (fun n hn=>(H32.out n hn).2) HP.out);clear A4 B4' RC;by_cases ho:o=o'
     ·have hoo:(o == o')=true:=by simp [ho]
      have RT:Hid (IsB true (SameF l f f')):=hid ⟨fun _=>SA.out.2 (.inl ho),fun _=>rfl⟩;clear ho;go_upto_region 19 with fail
      refine wp_region_noPanic ?_;refine wp_region_held_drew (S:=fun W=>HoldOo w4 g g' (.slice A l.length c) (.slice A' l.length c') k k o o' W) (by kernel_rfl) (HoldOo.next HH.out ((Below.refl _ _).drew)) (fun hHeld=>?_);generalize w4.drew=w6 at hHeld ⊢;refine wt 0 ?r801;refine wt 1 ?r802;refine wt 2 ?r803;refine wt 3 ?r804;refine wt 4 ?r805;refine wt 5 ?r806;refine wt 6 ?r807;refine wt 7 ?r808;refine wt 8 ?r809;refine wt 9 ?r810;refine wu 10 ?r811;refine wu 11 ?r812;refine wu 12 ?r813;refine wu 13 ?r814;refine wt 14 ?r815;refine wt 15 ?r816;refine wpAnyH_done (by kernel_rfl) ?_ _;refine NoPanic.normal ?_;have FB:=hid (HoldOo.below hHeld);clear hHeld;go_wp2_with fail
      go_ret;exact DH.out _ RT _ (BQ.out.trans (FB.out.mono BQ.out.size))
     have hoo:(o == o')=false:=by simpa using ho
     have RT:Hid (IsB (decide (n=P)) (SameF l f f')):=hid ⟨fun h=>SA.out.2 (.inr (of_decide_eq_true h)),fun h=>decide_eq_true ((SA.out.1 h).resolve_left ho)⟩;have de:((n:Int) == (P:Int))=decide (n=P):=by
      by_cases e:n=P
      ·rw [e];simp
      rw [decide_eq_false e,beq_eq_false_iff_ne];omega
     clear ho;go_upto_region 19 with fail
     go_region_held3 (fun W=>HoldOo w4 g g' (.slice A l.length c) (.slice A' l.length c') k k o o' W) (first | exact HoldOo.next HH.out ((Below.refl _ _).drew) | exact HoldOo.next (by assumption) (by assumption))
      ((go_at_call 91;refine (COU.out _ (HoldOo.below (by assumption))).mono ?_;rintro e w9 ⟨rfl,rfl⟩))
     have FB:Hid (Below w4.heap.size w4 _):=hid (HoldOo.below (by assumption));go_wp2_with fail
     go_ret;exact DH.out _ RT _ (BQ.out.trans (FB.out.mono BQ.out.size))
    intro x cc kl yd yp w2 cnt3 hkey hlk hv hat hrg3 hlt hg2 hs2 hen;have hhas:Maps.has DC kl=true:=has_true_of_atKey hat;obtain⟨t,hin,rfl⟩:=RC.out.2 kl hhas;obtain rfl:x=keyV t:=keyed.inj hkey (keyOf_key (hin.small fun n hn=>(H32.out n hn).2));obtain⟨c9,e1,hc1,_⟩:=plainElem_int_inv Tryz.underlying2 hv;have hfo:f t≠o:=by
     have:=(RC.out.1 t hin).1;rw [hhas] at this;exact of_decide_eq_true this.symm
    obtain rfl:cc=f t:=by
     injection e1 with _ e1;have h1:=hat (.lit (.int .i64 0));rw [(RC.out.1 t hin).2 hfo,(Prod.mk.inj hc1).1] at h1;have:=(Lit.int.inj (DataW.lit.inj h1)).2;omega
    have HIN:=hid hin;have B2:Hid (Below w.heap.size w w2):=hid (BQ.out.grown hg2 BQ.out.size (fun k hk=>by injection hk;omega));have n3:=new_val w2 (.cells (kyC t) 139);have B3:=hid (B2.out.trans (n3.mono B2.out.size));have hrg4:=hrg3.alloc (.cells (kyC t) 139);obtain⟨y0,y1,y2,y3,y4,y5⟩:=ky_cells (heap_alloc_new w2 (.cells (kyC t) 139));have COST:=hid (tpcost_ok g' b' N' c' A' l t k o' f' _ (HB.out.below B3.out) (fun n hn=>(H32.out n hn).2) HIN.out);clear hs2 hg2 hat hc1 e1 hv hkey hhas hfo hlk hin n3 B2 BQ;go_upto_region 17 with ((with_reducible show wpList _ _ _ (Oper.mk none (.store 139 _ _) _ _ _ _::_) _ _);refine wpList_store_row rfl 139 (.tmp 10) (.tmp 83) rfl w2.heap.size (kyC t) rfl rfl 139 kyZ (heap_alloc_new _ _) (by kernel_rfl) rfl (ky_one t) ?_;rw [World.setRow_alloc_new])
    generalize w2.alloc (.cells (kyC t) 139)=w3 at *;generalize w2.heap.size=bk at *;by_cases he:f' t=f t
    ·have d:(f' t != f t)=false:=by simp [he]
     have STEP:=hid (HW.out.step h6 H32.out HIN.out he);clear he;go_wp2_with (go_at_call 90;refine COST.out.mono ?_;rintro e w4 ⟨rfl,b4⟩;have B4:=hid (then_ B3.out b4);have hrg5:=hid (hrg4.of_walks (walks_below b4));clear b4)
     go_roundw
     case rel=>exact⟨_,cnt3,hrg5.out,STEP.out,B4.out⟩
     case measure=>rw [hrg5.out.left_eq,hrg2.left_eq];exact hlt
    have d:(f' t != f t)=true:=by simpa using he
    have NS:Hid (IsB false (SameF l f f')):=hid ⟨fun h=>(by cases h),fun h=>absurd (h t HIN.out).symm he⟩;clear he;go_upto_region 18 with (go_at_call 90;refine COST.out.mono ?_;rintro e w4 ⟨rfl,b4⟩)
    have B4:=hid (then_ B3.out b4);clear b4 COST hrg4 hrg3 hrg2 hen;go_wp2_with fail
    go_ret;exact DH.out false NS _ B4.out
  intro x cc kl yd yp w2 cnt2 hkey hlk hv hat hrg2 hlt hg2 hs2 hen;have hhas:Maps.has DB kl=true:=has_true_of_atKey hat;obtain⟨t,hin,rfl⟩:=RB.out.2 kl hhas;obtain rfl:x=keyV t:=keyed.inj hkey (keyOf_key (hin.small fun n hn=>(H32.out n hn).2));obtain⟨c9,e1,hc1,_⟩:=plainElem_int_inv Tryz.underlying2 hv;have hfo:f' t≠o':=by
   have:=(RB.out.1 t hin).1;rw [hhas] at this;exact of_decide_eq_true this.symm
  obtain rfl:cc=f' t:=by
   injection e1 with _ e1;have h1:=hat (.lit (.int .i64 0));rw [(RB.out.1 t hin).2 hfo,(Prod.mk.inj hc1).1] at h1;have:=(Lit.int.inj (DataW.lit.inj h1)).2;omega
  have HFO:=hid hfo;have HIN:=hid hin;have HLK:=hid hlk;have B2:Hid (Below w.heap.size w w2):=hid (BR.out.grown hg2 BR.out.size (fun k hk=>by injection hk;omega));have n3:=new_val w2 (.cells (kyC t) 139);have B3:=hid (B2.out.trans (n3.mono B2.out.size));have hrg3:=hrg2.alloc (.cells (kyC t) 139);obtain⟨y0,y1,y2,y3,y4,y5⟩:=ky_cells (heap_alloc_new w2 (.cells (kyC t) 139));have COST:=hid (tpcost_ok g b N c A l t k o f _ (HA.out.below B3.out) (fun n hn=>(H32.out n hn).2) HIN.out);clear hs2 hg2 hat hc1 e1 hv hkey hhas hfo hlk hin n3 B2 BR;go_upto_region 9 with ((with_reducible show wpList _ _ _ (Oper.mk none (.store 139 _ _) _ _ _ _::_) _ _);refine wpList_store_row rfl 139 (.tmp 6) (.tmp 55) rfl w2.heap.size (kyC t) rfl rfl 139 kyZ (heap_alloc_new _ _) (by kernel_rfl) rfl (ky_one t) ?_;rw [World.setRow_alloc_new])
  generalize w2.alloc (.cells (kyC t) 139)=w3 at *;generalize w2.heap.size=bk at *;have hn:=HS.out.le (fun n hn=>(H32.out n hn).1);rw [HP.out] at hn;by_cases he:f t=f' t
  ·have d:(f t != f' t)=false:=by simp [he]
   have HEQ:=hid he;clear he;go_upto_region 11 with (go_at_call 90;refine COST.out.mono ?_;rintro e w4 ⟨rfl,b4⟩)
   have B4:=hid (then_ B3.out b4);have T4:=hid (HA.out.below B4.out);have hrg4:=hrg3.of_walks (walks_below b4);have hrg5:=hrg4.of_walks (walks_below ((Below.refl w4.heap.size w4).drew));have CY:Hid (w4.cell? ⟨bk,0,none⟩=some (szV t 0)∧w4.cell? ⟨bk,1,none⟩=some (szV t 1)∧w4.cell? ⟨bk,2,none⟩=some (szV t 2)∧w4.cell? ⟨bk,3,none⟩=some (szV t 3)∧w4.cell? ⟨bk,4,none⟩=some (szV t 4)∧w4.cell? ⟨bk,5,none⟩=some (szV t 5)):=hid
    ⟨(b4.cell (p:=⟨bk,0,none⟩) (World.block_lt_of_cell? _ _ y0)).trans y0,(b4.cell (p:=⟨bk,1,none⟩) (World.block_lt_of_cell? _ _ y1)).trans y1,(b4.cell (p:=⟨bk,2,none⟩) (World.block_lt_of_cell? _ _ y2)).trans y2,(b4.cell (p:=⟨bk,3,none⟩) (World.block_lt_of_cell? _ _ y3)).trans y3,(b4.cell (p:=⟨bk,4,none⟩) (World.block_lt_of_cell? _ _ y4)).trans y4,(b4.cell (p:=⟨bk,5,none⟩) (World.block_lt_of_cell? _ _ y5)).trans y5⟩
   have STEP:=hid (HS.out.step h6 H32.out HIN.out HFO.out HLK.out HEQ.out);clear y0 y1 y2 y3 y4 y5 b4 COST hrg3 hrg4 B3 d;by_cases ho:f t=o
   ·have HH:Hid (HoldCo w4 g b bk t 0 false w4.drew):=by
     have h2:=T4.out.below ((Below.refl _ _).drew);have hl:=h2.look (fun n hn=>(H32.out n hn).2) HIN.out;rw [if_pos ho,show decide (f t≠o)=false from decide_eq_false (by simp [ho])] at hl;obtain⟨y0,y1,y2,y3,y4,y5⟩:=CY.out;exact hid ⟨h2.cells.2.2.2,y0,y1,y2,y3,y4,y5,hl,(Below.refl _ _).drew⟩
    rw [if_pos ho] at STEP;clear ho;go_region_held3 (fun W=>HoldCo w4 g b bk t 0 false W) (exact HH.out) (fail)
    go_wp2_with fail
    go_roundw
    case rel=>exact⟨_,cnt2,t::ts,n+1,hrg5,by go_num,STEP.out,B4.out.drew⟩
    case measure=>rw [hrg5.left_eq,hrg.left_eq];exact hlt
   have HH:Hid (HoldCo w4 g b bk t (f t) true w4.drew):=by
    have h2:=T4.out.below ((Below.refl _ _).drew);have hl:=h2.look (fun n hn=>(H32.out n hn).2) HIN.out;rw [if_neg ho,show decide (f t≠o)=true from decide_eq_true ho] at hl;obtain⟨y0,y1,y2,y3,y4,y5⟩:=CY.out;exact hid ⟨h2.cells.2.2.2,y0,y1,y2,y3,y4,y5,hl,(Below.refl _ _).drew⟩
   rw [if_neg ho] at STEP;clear ho;go_region_held3 (fun W=>HoldCo w4 g b bk t (f t) true W) (exact HH.out) (fail)
   go_wp2_with fail
   go_roundw
   case rel=>exact⟨_,cnt2,t::ts,n,hrg5,rfl,STEP.out,B4.out.drew⟩
   case measure=>rw [hrg5.left_eq,hrg.left_eq];exact hlt
  have d:(f t != f' t)=true:=by simpa using he
  have NS:Hid (IsB false (SameF l f f')):=hid ⟨fun h=>(by cases h),fun h=>absurd (h t HIN.out) he⟩;clear he;go_upto_region 10 with (go_at_call 90;refine COST.out.mono ?_;rintro e w4 ⟨rfl,b4⟩)
  have B4:=hid (then_ B3.out b4);clear b4 COST hrg3 hrg2 hrg hen;go_wp2_with fail
  go_ret;exact DH.out false NS _ B4.out
open Go.RowKit Go.Shelf Go.Maps Go.Sort
theorem wpListIn_store_rowK {F:Fence}{n:Nat}{P:Program}{ops:Array Oper}{rest:List Oper}{o:Oper}{a:Act}{w:World}{Q:Exit→Act→World→Prop}(hgd:o.guard=none) (ty:TypeId) (x y:Operand) (ho:o.op = .store ty x y)
  (g:Nat) (cells:Array Value) (hx:a.eval x = .pointer (some ⟨g,0,none⟩)) (hy:a.eval y = .agg cells)
  (t:TypeId) (old:Array Value) (hg:w.heap[g]? = some (.cells old t (0,0))) (hi:(P.info? ty).map (·.size)=some cells.size)
  (hold:old.size=cells.size) (h1:cells.all (·.oneCell')=true)
  (h:wpListIn F n P ops Q rest (a.put o.dst undef) (w.setRow g cells)):wpListIn F n P ops Q (o::rest) a w:=by
 refine wpListIn_plain hgd fun K' hK'=>?_;unfold Oper.wpIn;refine⟨by simp [Oper.about,ho],?_⟩;rw [Oper.semAt_plain F _ _ (by rw [ho];intro c hc';cases hc')];unfold execOp;simp only [ho,hx,hy,Instr.storeAt,Instr.sureAddr,Sem.run_bind,Sem.run_pure,Result.andThen_ok,run_storeVar_row w g t ty old cells hg hi hold h1];exact hK' _ _ h
structure Coll (D:DataW Unit) (l:List Nat) (left:Lit→Bool) (ts:List { t:List Nat // InL l t }):Prop where
 nd:(ts.map Subtype.val).Nodup
 mem:∀ t,t∈ts.map Subtype.val↔InL l t∧Maps.has D (keyL t)=true∧left (keyL t)=false
theorem Coll.start (D:DataW Unit) (l:List Nat):Coll D l (Maps.has D) [] :=
 ⟨List.nodup_nil,fun t=>⟨fun h=>by simp at h,fun ⟨_,h1,h2⟩=>by rw [h1] at h2;cases h2⟩⟩
theorem Coll.step {D:DataW Unit}{l:List Nat}{left:Lit→Bool}{ts:List { t:List Nat // InL l t }} (H:Coll D l left ts) (h6:l.length≤6) (h32:∀ n∈l,n≤32) (x:{ t:List Nat // InL l t }) (hl:left (keyL x.val)=true) (hh:Maps.has D (keyL x.val)=true) :
  Coll D l (fun z=>left z && !z.sameKey (keyL x.val)) (ts++[x]):=by
 refine⟨?_,fun t=>?_⟩
 ·rw [List.map_append]
  refine List.nodup_append.2 ⟨H.nd,by simp,fun a ha b hb=>?_⟩;simp at hb
  subst hb;rintro rfl;have:=((H.mem _).1 ha).2.2;rw [hl] at this;cases this
 rw [List.map_append,List.mem_append,H.mem];simp only [List.map_cons,List.map_nil,List.mem_singleton];constructor
 ·rintro (⟨h1,h2,h3⟩ | rfl)
  ·exact⟨h1,h2,by rw [h3];rfl⟩
  exact⟨x.property,hh,by rw [hl,WideAt.sameKey_self (keyL_isKey _)];rfl⟩
 rintro⟨h1,h2,h3⟩;by_cases e:left (keyL t)=false
 ·exact .inl ⟨h1,h2,e⟩
 right
 have e':left (keyL t)=true:=by cases h:left (keyL t);exact absurd h e;rfl
 rw [e'] at h3;have h4:(keyL t).sameKey (keyL x.val)=true:=by simpa using h3
 exact keyL_inj h6 h32 h1 x.property (WideAt.sameKey_eq h4)
abbrev TT (l:List Nat):={ t:List Nat // InL l t }
set_option maxRecDepth 100000 in
set_option maxHeartbeats 2000000 in
theorem keys1_in (n:Nat) (hn:1≤n) (y Bm b nn:Nat) (l:List Nat) (o:Int) (f:List Nat→Int) (D0:DataW Unit) (hrep:RepF D0 l o f) (h6:l.length≤6) (h32:∀ n∈l,n≤32) (J Jx:List (TT l)→World→Prop)
  (hY:∀ pre (x:TT l) W,J pre W→pre.length < Maps.size D0→YieldAt Fence.wide (n - 1) Tryz.prog y #[keyV x.val] W fun e W' =>
   (e = .returned (.bool true)∧J (pre++[x]) W'∧KeepsWalks W W')∨(e = .returned (.bool false)∧Jx (pre++[x]) W'))
  (W:World) (hJ:AbidesFrom W.heap.size J) (hm:W.cell? ⟨Bm,0,none⟩=some (.map (some b))) (hown:W.ownsMap Tryz.prog 139 (plainElem Tryz.prog 2) b nn D0) (h0:J [] W) :
  CallsIn Fence.wide n Tryz.prog 203 #[.func (.yield y) #[] #[],.pointer (some ⟨Bm,0,none⟩)] W fun e W'=>(∃ v,e = .returned v) ∧
   ((∃ ts:List (TT l),Coll D0 l (fun _=>false) ts∧J ts W')∨(∃ pre,True∧Jx pre W')):=by
 refine callsIn_of_wp Tryz.func203 rfl trivial ?_ rfl;simp only [Tryz.ntmps203,List.size_toArray,List.length_cons,List.length_nil,Nat.reduceAdd,Nat.reduceSub,Array.replicate_succ,Array.replicate_zero,List.push_toArray,List.append_toArray,List.nil_append,List.cons_append]
 gi_wp2_with (first
  | (gi_at_range;refine wpListIn_range_own _ rfl _ 136 rfl 139 2 keyed Tryz.underlying136 _ b nn _ rfl hown ?_;intro w0 hrg0 hg0 hs0)
  | gi_in)
 go_frame
 gi_loopw [3] (fun _ wr=>∃ (left:Lit→Bool) (cnt:Nat) (ts:List (TT l)),wr.ranges Tryz.prog 139 (plainElem Tryz.prog 2) b W.heap.size nn D0 left cnt∧ts.length+cnt≤Maps.size D0∧Coll D0 l left ts∧J ts wr)
  (fun _ wr=>wr.rangeLeft b W.heap.size)
 case atStart =>
  exact⟨_,_,[],hrg0,by simp,Coll.start D0 l,hJ [] W w0 none h0 hg0 (fun r e=>by cases e)⟩
 case round =>
  obtain⟨left,cnt,ts,hrg,hcs,hC,hJs⟩:=hrel
  gi_wp2_with (first
   | (gi_at_next;refine wpListIn_next_ranges _ rfl _ rfl 139 keyed (plainElem Tryz.prog 2) id id (fun key kl hk=>⟨key,rfl⟩) (fun v _ _=>⟨v,rfl⟩) b W.heap.size nn _ _ _ rfl hrg ?_ ?_)
   | gi_in)
  ·intro hc0 hl0
   gi_wp2
   go_end0
   refine⟨⟨_,rfl⟩,.inl ⟨ts,⟨hC.nd,fun t=>?_⟩,hJs⟩⟩;rw [hC.mem t,hl0]
  intro x c kl yd yp w2 cnt2 hkey hlk hv hat hrg2 hlt hg2 hs2 hen;have hhas:Maps.has D0 kl=true:=has_true_of_atKey hat;obtain⟨t,ht,rfl⟩:=hrep.2 kl hhas;obtain rfl:x=keyV t:=keyed.inj hkey (keyOf_key (ht.small h32));have hJ2:J ts w2:=hJ ts wr w2 (some W.heap.size) hJs hg2 (fun r e=>by cases e;exact⟨Nat.le_refl _,hrg.iter_walk⟩);have hC2:=hC.step h6 h32 ⟨t,ht⟩ hlk hhas;have hJ3:J ts (w2.alloc (.cells (kyC t) 139)):=hJ ts w2 _ none hJ2 (World.grownBy_alloc _ _ _) (fun r e=>by cases e);have hrg3:=hrg2.alloc (.cells (kyC t) 139);obtain⟨fn,tmps,assign,body,hy,hR⟩:=hY ts ⟨t,ht⟩ _ hJ3 (by omega);clear hs2;have hrow:=heap_alloc_new w2 (.cells (kyC t) 139);obtain⟨y0,y1,y2,y3,y4,y5⟩:=ky_cells hrow
  gi_wp2_with (first
   | ((with_reducible show wpListIn _ _ _ _ _ (Oper.mk none (.store 139 _ _) _ _ _ _::_) _ _);refine wpListIn_store_rowK rfl 139 (.tmp 3) (.tmp 9) rfl w2.heap.size (kyC t) rfl rfl 139 kyZ (heap_alloc_new _ _) (by kernel_rfl) rfl (ky_one t) ?_;rw [World.setRow_alloc_new])
   | gi_in)
  refine hR.mono ?_;rintro e W3 (⟨rfl,hJ4,hk3⟩ | ⟨rfl,hJx3⟩)
  ·gi_wp2
   have hrg4:=hrg3.of_walks hk3;go_roundw
   case rel=>exact⟨_,cnt2,ts++[⟨t,ht⟩],hrg4,by simp;omega,hC2,hJ4⟩
   case measure=>rw [hrg4.left_eq,hrg.left_eq];exact hlt
  gi_wp2
  refine bodyPost_ret (results_none rfl _ _ _) rfl ?_;exact⟨⟨_,rfl⟩,.inr ⟨ts++[⟨t,ht⟩],trivial,hJx3⟩⟩
theorem keys_stops (n:Nat) (hn:1≤n) (Bm b nn:Nat) (l:List Nat) (o:Int) (f:List Nat→Int) (D0:DataW Unit) (hrep:RepF D0 l o f) (h6:l.length≤6) (h32:∀ n∈l,n≤32) (w:World) (hBm:Bm < w.heap.size)
  (hm:w.cell? ⟨Bm,0,none⟩=some (.map (some b))) (hown:w.ownsMap Tryz.prog 139 (plainElem Tryz.prog 2) b nn D0) :
  SeqStopsK Fence.wide n Tryz.prog 203 #[.pointer (some ⟨Bm,0,none⟩)] (fun x:TT l=>#[keyV x.val]) KeepsWalks (fun ts=>Coll D0 l (fun _=>false) ts) (fun _=>True) (Maps.size D0) w:=fun y J Jx W hW hJ _ hY h0=>by
 have hown':W.ownsMap Tryz.prog 139 (plainElem Tryz.prog 2) b nn D0:=hown.kept (grown_of_below hW) (by simp);exact keys1_in n hn y Bm b nn l o f D0 hrep h6 h32 J Jx hY W hJ ((hW.cell (p:=⟨Bm,0,none⟩) hBm).trans hm) hown' h0
theorem keys_any (b:Nat) (w:World):Calls Tryz.prog 157 #[.map (some b)] w fun e w'=>e = .returned (.func (.func 203) #[] #[.pointer (some ⟨w.heap.size,0,none⟩)])∧w'=w.alloc (.cells #[.map (some b)] 136):=by
 go_enter Tryz.func157,Tryz.ntmps157
 go_wp2_with fail
 go_ret;exact⟨rfl,rfl⟩
open Go.RowKit
theorem oper_round {n:Nat}{P:Program}{o:Oper}{a:Act}{w:World}{K:Act→World→Prop}{Q:Exit→Act→World→Prop}(l:Nat) (hnd:∀ c,o.op≠.defer c)
  (h:o.wpIn Fence.wide n P a w K Q):o.wpIn (Fence.wide.inRound l) n P a w K Q:=by
 have e:o.semAt (Fence.wide.inRound l).round a.eval=o.semAt Fence.wide.round a.eval:=by
  show o.semAt (some l) a.eval=o.semAt none a.eval;rw [Oper.semAt_some l _ _ hnd];rfl
 unfold Oper.wpIn at *;rw [e];exact h
theorem any_round {n:Nat}{P:Program}{md:Region.Mode}{ops:Array Oper}{Q:Exit→Act→World→Prop}(l:Nat) (hnd:∀ (i:Nat) o,ops[i]? = some o→∀ c,o.op≠.defer c) :
  ∀ (fuel:Nat) (listed:Array Bool) (a:Act) (w:World),wpAnyIn Fence.wide n P md ops Q fuel listed a w→wpAnyIn (Fence.wide.inRound l) n P md ops Q fuel listed a w:=by
 intro fuel;induction fuel with
 | zero=>intro listed a w h;exact h
 | succ fuel ih =>
  intro listed a w h;refine⟨h.1,fun i hi=>?_⟩;have h2:=wpOpIn_mono (fun a' w'=>ih (listed.setIfInBounds i true) a' w') (h.2 i hi);unfold wpOpIn at h2 ⊢;split
  ·rename_i ho
   simpa only [ho] using h2
  rename_i o ho;simp only [ho] at h2;split
  ·rename_i hw
   simp only [hw,if_true] at h2;exact oper_round l (hnd i o ho) h2
  rename_i hw;simp only [hw] at h2;exact h2
theorem region_round {n:Nat}{P:Program}{id:Nat}{ops:Array Oper}{Q:Exit→Act→World→Prop}{a:Act}{w:World}(l:Nat) (hm:P.follows .mixedOrders=true)
  (hnd:ops.all (fun o=>match o.op with | .defer _=>false | _=>true)=true)
  (h:wpAnyIn Fence.wide n P .any ops Q ops.size (Array.replicate ops.size false) a w.drew):(Code.region id ops true).wpIn (Fence.wide.inRound l) n P Q a w :=
 wpIn_region_any hm (any_round l (fun i o ho c hc=>by
  obtain⟨hi,rfl⟩:=Array.getElem?_eq_some_iff.1 ho;have:=Array.all_eq_true.1 hnd i hi;rw [hc] at this;cases this) _ _ _ _ h)
end Go.Proofs.YtmokogkndbinlaaGreatDoor
