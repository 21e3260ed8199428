import Derived.Lib.RowBridge
import Derived.Test.YtmokogkndbinlaaGreatDoorZhaz
set_option linter.all false
namespace Go.Proofs.YtmokogkndbinlaaGreatDoor
open Go.Lib (hid)
open Go.RowKit Go.Shelf Go.Sort
theorem grow_nil (w:World):grow w #[]=w:=by simp [grow]
theorem compact_any (base n:Nat) (v:Value) (l V:List Nat) (w:World) (h:w.ownsRow base 3 1 v n ((sortI l).map (Value.int .i64))) (hb:base≤w.heap.size) (hn:l.length=n) (hV:Lib.compact (sortI l)=V.map fun i:Nat=>(i:Int)) (hn4:n≤100000) :
  Calls Tryz.prog 34 #[v] w fun e w'=>(∃ A c,e = .returned (.slice A V.length c)∧Ints w' A V)∧Below base w w':=by
 have hVl:(Lib.compact (sortI l)).length=V.length:=by rw [hV];simp
 have hsl:(sortI l).length=n:=by rw [sortI_len,hn]
 have hle:=Lib.compact_length_le (sortI l);obtain⟨hl,⟨rfl,h0⟩ | ⟨gb,cap,cur,rfl,hbase,hgb,r1,r2,r3,r4⟩⟩:=h
 ·subst h0
  have hV0:V=[]:=List.eq_nil_of_length_eq_zero (by omega);subst hV0;refine (Tryz.slices_Compact_int_empty none 0 w).mono ?_;rintro e w' ⟨rfl,rfl⟩;exact⟨⟨none,0,rfl,.inl rfl⟩,Below.refl _ _⟩
 have HH:Holds (Value.int .i64) w gb 0 (sortI l).toArray:=holds_of_blockI hgb (by rw [hsl,Nat.mul_one] at *;exact r4);have hC:=Tryz.slices_Compact_int gb 0 cap (sortI l) w HH (by omega) (by omega);rw [hsl] at hC;refine hC.mono ?_;rintro e w' ⟨rfl,q,rfl⟩;have hrow:=ownsRow_sortedI (base:=base) (n:=q) (os:=#[]) (ss:=sortI l) (ts:=Lib.compact (sortI l)++List.replicate (n - (Lib.compact (sortI l)).length) 0) (by simp;omega) hbase hgb (by omega) r2 r3;rw [grow_nil] at hrow;have hgr:=grownBy_sortedI (w:=w) (g:=gb) (n:=q) (os:=#[]) (Lib.compact (sortI l)++List.replicate (n - (Lib.compact (sortI l)).length) 0).toArray;rw [grow_nil] at hgr;refine⟨⟨some ⟨gb,0,none⟩,cap,by rw [hVl],?_⟩,(Below.refl _ _).grown hgr hb (fun j hj=>by cases hj;exact hbase)⟩;obtain⟨_,⟨h1,_⟩ | ⟨g2,cap2,cur2,h1,_,hh,_,_,_,ht⟩⟩:=hrow
 ·cases h1
 cases h1;refine .inr ⟨gb,0,rfl,(Array.getElem?_eq_some_iff.1 hh).1,fun i hi=>?_⟩;rw [Nat.zero_add,cell_of_row _ gb i cur2 3 (0,0) hh];have e:(cur2.toList.take ((sortI l).length * 1))[i]? = some (.int .i64 (nth V i:Int)):=by
  rw [ht,List.getElem?_map,List.getElem?_append_left (by omega),hV,List.getElem?_map,List.getElem?_eq_getElem hi];simp [nth,List.getD_eq_getElem?_getD,hi]
 rw [List.getElem?_take] at e;have e2:i < (sortI l).length∧cur2[i]? = some (Value.int .i64 (nth V i:Int)):=by simpa using e
 exact e2.2
def plcL (V l:List Nat):List Nat:=l.map fun v=>V.countP (· < v)
theorem plcL_len (V l:List Nat):(plcL V l).length=l.length:=by simp [plcL]
set_option maxRecDepth 100000 in
theorem places_any_Tj5 (A B:Option Addr) (n c m cb:Nat) (l V:List Nat) (w:World) (hn:l.length=n) (hm:V.length=m) (hl:Ints w A l) (hV:Ints w B V) (hr:V.Pairwise (·≤·)) (hn4:n≤4096) (hm4:m≤4096) :
  Calls Tryz.prog 181 #[.slice A n c,.slice B m cb] w fun e w'=>e = .returned (.slice (some ⟨w.heap.size,0,none⟩) n n)∧Ints w' (some ⟨w.heap.size,0,none⟩) (plcL V l)∧Below w.heap.size w w':=by
 have HLN:=hid hn;have HSM:=hid hm;have HL:=hid hl;have HV:=hid hV;have HR:=hid hr;have hmk:=madeI n hn4;have R1:=hid (World.rowIs_made w (.int .i64 0) n 3);have B1:=hid (new_val w (.cells (madeCells #[.int .i64 0] n) 3));clear hn hm hl hV hr;go_enter Tryz.func181,Tryz.ntmps181
 go_upto_region 3 with fail
 generalize w.alloc (.cells (madeCells #[.int .i64 0] n) 3)=w1 at R1 B1 ⊢;clear hmk;go_loopw [13] (fun i wr=>∃ j:Nat,j≤n∧i = .int .i64 (j:Int)∧wr.rowIs w.heap.size 3 n (fun i=>.int .i64 (if i < j then (nth (plcL V l) i:Int) else 0))∧Below w.heap.size w wr) (fun i _=>n - (intOf i).toNat)
 case atStart=>exact⟨0,Nat.zero_le _,rfl,R1.out.congr fun i _=>by simp,B1.out⟩
 case round =>
  obtain⟨j,hj,rfl,hrow,hb⟩:=hrel;have HRW:=hid hrow;have HB:=hid hb;clear hrow hb;by_cases hlt:j < n
  rotate_left
  ·have i1:¬ (j:Int) < (n:Int):=by omega
   go_wp2_with fail
   go_ret;obtain rfl:j=n:=by omega
   exact⟨rfl,rowIs_ints HRW.out (by rw [plcL_len,HLN.out]) (fun i hi=>by rw [if_pos hi]),HB.out⟩
  obtain⟨gs,os,rfl,hcs⟩:=(HL.out.below HB.out (Nat.le_refl _)).at_ (i:=j) (by rw [HLN.out];exact hlt);have hpk:nth (plcL V l) j=V.countP (· < nth l j):=nth_map (by rw [HLN.out];exact hlt);have HPK:=hid hpk;clear hpk;generalize nth l j=v at hcs HPK;have BS:=hid (bsearch_any B m cb v V wr HSM.out HR.out (HV.out.below HB.out (Nat.le_refl _)) (by omega));have i1:(j:Int) < (n:Int):=by omega
  have i2:(0:Int)≤(j:Int):=by omega
  have hwr:=HB.out.size;have HLT:=hid HRW.out.lt;go_wp2_with fail
  refine BS.out.mono ?_;rintro e w2 ⟨rfl,hb2⟩;have B2:=hid (HB.out.trans (hb2.mono hwr));have RW2:=hid (rowIs_next HRW.out hb2);clear hb2 hcs hwr;have kc:=RW2.out.cell hlt;have kf:=RW2.out.frozen j;obtain⟨x,hx⟩:∃ x,V.countP (· < v)=x:=⟨_,rfl⟩
  have HX:=hid hx;rw [hx];clear hx;generalize V.contains v=bb;have HN:Hid ((w2.setCell ⟨w.heap.size,j,none⟩ (.int .i64 (x:Int))).rowIs w.heap.size 3 n (fun i=>.int .i64 (if i < j+1 then (nth (plcL V l) i:Int) else 0))):=hid ((RW2.out.set j (.int .i64 (x:Int))).congr fun i hi=>by
   show (if i=j then _ else _)=_;by_cases e:i=j
   ·subst e;rw [if_pos rfl,if_pos (by omega),HPK.out,HX.out]
   ·rw [if_neg e]
    by_cases e2:i < j
    ·rw [if_pos e2,if_pos (by omega)]
    ·rw [if_neg e2,if_neg (by omega)])
  have BN:=hid (B2.out.setCell (p:=⟨w.heap.size,j,none⟩) (Nat.le_refl _) (.int .i64 (x:Int)));go_wp2_with fail
  go_roundw
  case rel=>exact⟨j+1,by omega,by go_num,HN.out,BN.out⟩
  case measure=>simp [intOf];omega
def jn (ap l:List Nat) (d:Nat→Nat):Nat→Nat→Nat
 | 0,p=>d p
 | j+1,p=>if p=nth ap j then nth l j else jn ap l d j p
def joinF (ap l1 bp l2:List Nat):Nat→Nat:=jn bp l2 (jn ap l1 (fun _=>0) ap.length) bp.length
def joinL (m:Nat) (ap l1 bp l2:List Nat):List Nat:=(List.range m).map (joinF ap l1 bp l2)
theorem joinL_len (m:Nat) (ap l1 bp l2:List Nat):(joinL m ap l1 bp l2).length=m:=by simp [joinL]
set_option maxRecDepth 100000 in
set_option maxHeartbeats 1000000 in
theorem joined_any (m g1 h1 n1 c1 g2 h2 n2 c2:Nat) (A1 A2:Option Addr) (l1 l2 ap bp:List Nat) (k1 k2:Int) (z1 z2:Nat→Int) (w:World) (T1:TabAt w g1 h1 l1 k1 z1) (T2:TabAt w g2 h2 l2 k2 z2)
  (hl1:l1.length=n1) (hl2:l2.length=n2) (ha:ap.length=n1) (hb:bp.length=n2) (i1:Ints w A1 ap) (i2:Ints w A2 bp) (h61:n1≤6) (h62:n2≤6) (hm:m≤4096) (ha1:∀ i,i < n1→nth ap i < m) (hb1:∀ i,i < n2→nth bp i < m) :
  Calls Tryz.prog 182 #[.int .i64 (m:Int),.pointer (some ⟨g1,0,none⟩),.slice A1 n1 c1,.pointer (some ⟨g2,0,none⟩),.slice A2 n2 c2] w fun e w'=>e = .returned (.slice (some ⟨w.heap.size,0,none⟩) m m)∧Ints w' (some ⟨w.heap.size,0,none⟩) (joinL m ap l1 bp l2)∧Below w.heap.size w w':=by
 have HT1:=hid T1;have HT2:=hid T2;have HL1:=hid hl1;have HL2:=hid hl2;have HA:=hid ha;have HB:=hid hb;have I1:=hid i1;have I2:=hid i2;have HA1:=hid ha1;have HBB:=hid hb1;have hmk:=madeI m hm;have R1:=hid (World.rowIs_made w (.int .i64 0) m 3);have B1:=hid (new_val w (.cells (madeCells #[.int .i64 0] m) 3));clear T1 T2 hl1 hl2 ha hb i1 i2 ha1 hb1;go_enter Tryz.func182,Tryz.ntmps182
 go_upto_region 3 with fail
 generalize w.alloc (.cells (madeCells #[.int .i64 0] m) 3)=w1 at R1 B1 ⊢;clear hmk;go_loopw [20] (fun i wr=>∃ j:Nat,j≤n1∧i = .int .i64 (j:Int)∧wr.rowIs w.heap.size 3 m (fun i=>.int .i64 (jn ap l1 (fun _=>0) j i:Int))∧Below w.heap.size w wr) (fun i _=>n1 - (intOf i).toNat)
 case atStart=>exact⟨0,Nat.zero_le _,rfl,R1.out.congr fun i _=>rfl,B1.out⟩
 case round =>
  obtain⟨j,hj,rfl,hrow,hb⟩:=hrel;have HRW:=hid hrow;have HB1:=hid hb;clear hrow hb;by_cases hlt:j < n1
  ·obtain⟨gs,os,rfl,hcs⟩:=(I1.out.below HB1.out (Nat.le_refl _)).at_ (i:=j) (by rw [HA.out];exact hlt)
   have hrj:=HA1.out j hlt;obtain⟨p,hp⟩:∃ p,nth ap j=p:=⟨_,rfl⟩
   have HP:=hid hp;rw [hp] at hcs hrj;clear hp;have TT:=hid (HT1.out.below (Below.refl _ _) |>.below (HB1.out.mono (Nat.le_refl _)));have SZ:=hid (fun W=>size_yes l1 j W (by rw [HL1.out];omega) (by rw [HL1.out];exact hlt));obtain⟨c0,c1,c2,c3,c4,c5,c6,c7,c8⟩:=TT.out.cells;have i1:(j:Int) < (n1:Int):=by omega
   have i2:(0:Int)≤(j:Int):=by omega
   have i3:(p:Int) < (m:Int):=by omega
   have i4:(0:Int)≤(p:Int):=by omega
   have hwr:=HB1.out.size;go_wp2_with fail
   refine (SZ.out _).mono ?_;rintro e w2 ⟨rfl,hb2⟩;have B2:=hid (HB1.out.trans (hb2.mono hwr));have RW2:=hid (rowIs_next HRW.out hb2);clear hb2 hcs hwr c0 c1 c2 c3 c4 c5 c6 c7 c8;have kc:=RW2.out.cell hrj;have kf:=RW2.out.frozen p;obtain⟨x,hx⟩:∃ x,nth l1 j=x:=⟨_,rfl⟩
   have HX:=hid hx;rw [hx];clear hx;have HN:Hid ((w2.setCell ⟨w.heap.size,p,none⟩ (.int .i64 (x:Int))).rowIs w.heap.size 3 m (fun i=>.int .i64 (jn ap l1 (fun _=>0) (j+1) i:Int))):=hid ((RW2.out.set p (.int .i64 (x:Int))).congr fun i hi=>by
    show (if i=p then _ else _)=Value.int .i64 (((if i=nth ap j then nth l1 j else jn ap l1 (fun _=>0) j i):Nat):Int);by_cases e:i=p
    ·rw [if_pos e,if_pos (by rw [HP.out];exact e),HX.out]
    ·rw [if_neg e,if_neg (by rw [HP.out];exact e)])
   have BN:=hid (B2.out.setCell (p:=⟨w.heap.size,p,none⟩) (Nat.le_refl _) (.int .i64 (x:Int)));go_wp2_with fail
   go_roundw
   case rel=>exact⟨j+1,by omega,by go_num,HN.out,BN.out⟩
   case measure=>simp [intOf];omega
  have i1:¬ (j:Int) < (n1:Int):=by omega
  obtain rfl:j=n1:=by omega
  clear hlt hj;go_upto_region 8 with fail
  go_loopw [37] (fun i wr=>∃ i2:Nat,i2≤n2∧i = .int .i64 (i2:Int)∧wr.rowIs w.heap.size 3 m (fun i=>.int .i64 (jn bp l2 (jn ap l1 (fun _=>0) j) i2 i:Int))∧Below w.heap.size w wr) (fun i _=>n2 - (intOf i).toNat)
  case atStart=>exact⟨0,Nat.zero_le _,rfl,HRW.out,HB1.out⟩
  case round =>
   obtain⟨q,hq,rfl,hrow,hb⟩:=hrel;have HRX:=hid hrow;have HB2:=hid hb;clear hrow hb;by_cases hlt:q < n2
   rotate_left
   ·have i1:¬ (q:Int) < (n2:Int):=by omega
    obtain rfl:q=n2:=by omega
    go_wp2_with fail
    go_ret;exact⟨rfl,rowIs_ints HRX.out (joinL_len _ _ _ _ _) (fun i hi=>by rw [joinL,nth_range hi,joinF,HA.out,HB.out]),HB2.out⟩
   obtain⟨gs,os,rfl,hcs⟩:=(I2.out.below HB2.out (Nat.le_refl _)).at_ (i:=q) (by rw [HB.out];exact hlt);have hrj:=HBB.out q hlt;obtain⟨p,hp⟩:∃ p,nth bp q=p:=⟨_,rfl⟩
   have HP:=hid hp;rw [hp] at hcs hrj;clear hp;have TT:=hid (HT2.out.below (Below.refl _ _) |>.below (HB2.out.mono (Nat.le_refl _)));have SZ:=hid (fun W=>size_yes l2 q W (by rw [HL2.out];omega) (by rw [HL2.out];exact hlt));obtain⟨c0,c1,c2,c3,c4,c5,c6,c7,c8⟩:=TT.out.cells;have i1:(q:Int) < (n2:Int):=by omega
   have i2:(0:Int)≤(q:Int):=by omega
   have i3:(p:Int) < (m:Int):=by omega
   have i4:(0:Int)≤(p:Int):=by omega
   have hwr:=HB2.out.size;go_wp2_with fail
   refine (SZ.out _).mono ?_;rintro e w2 ⟨rfl,hb2⟩;have B2:=hid (HB2.out.trans (hb2.mono hwr));have RW2:=hid (rowIs_next HRX.out hb2);clear hb2 hcs hwr c0 c1 c2 c3 c4 c5 c6 c7 c8;have kc:=RW2.out.cell hrj;have kf:=RW2.out.frozen p;obtain⟨x,hx⟩:∃ x,nth l2 q=x:=⟨_,rfl⟩
   have HX:=hid hx;rw [hx];clear hx;have HN:Hid ((w2.setCell ⟨w.heap.size,p,none⟩ (.int .i64 (x:Int))).rowIs w.heap.size 3 m (fun i=>.int .i64 (jn bp l2 (jn ap l1 (fun _=>0) j) (q+1) i:Int))):=hid ((RW2.out.set p (.int .i64 (x:Int))).congr fun i hi=>by
    show (if i=p then _ else _)=Value.int .i64 (((if i=nth bp q then nth l2 q else jn bp l2 (jn ap l1 (fun _=>0) j) q i):Nat):Int);by_cases e:i=p
    ·rw [if_pos e,if_pos (by rw [HP.out];exact e),HX.out]
    ·rw [if_neg e,if_neg (by rw [HP.out];exact e)])
   have BN:=hid (B2.out.setCell (p:=⟨w.heap.size,p,none⟩) (Nat.le_refl _) (.int .i64 (x:Int)));go_wp2_with fail
   go_roundw
   case rel=>exact⟨q+1,by omega,by go_num,HN.out,BN.out⟩
   case measure=>simp [intOf];omega
def AgAt (a b l1 l2:List Nat) (i:Nat):Bool:=!(b.contains (nth a i)) || nth l1 i == nth l2 (b.countP (· < nth a i))
def AgB (a b l1 l2:List Nat):Bool:=(List.range a.length).all (AgAt a b l1 l2)
theorem agB_no {a b l1 l2:List Nat}{j:Nat}(hj:j < a.length) (h:AgAt a b l1 l2 j=false):AgB a b l1 l2=false:=by
 rw [AgB,List.all_eq_false];exact⟨j,List.mem_range.2 hj,by simp [h]⟩
theorem cntP_lt {b:List Nat}{v:Nat}(h:b.contains v=true):b.countP (· < v) < b.length:=by
 rw [List.contains_iff_mem] at h;rcases Nat.lt_or_ge (b.countP (· < v)) b.length with h1 | h1
 ·exact h1
 have:=List.countP_eq_length.1 (Nat.le_antisymm List.countP_le_length h1) v h;simp at this
abbrev HoldA_Tj7 (wb:World) (g1 g2:Nat) (l1 l2:List Nat) (W:World):Prop :=
 W.cell? ⟨g1,0,none⟩=some (.int .i64 (l1.length:Int))∧W.cell? ⟨g1,1,none⟩=some (szV l1 0)∧W.cell? ⟨g1,2,none⟩=some (szV l1 1)∧W.cell? ⟨g1,3,none⟩=some (szV l1 2)∧W.cell? ⟨g1,4,none⟩=some (szV l1 3)∧W.cell? ⟨g1,5,none⟩=some (szV l1 4)∧W.cell? ⟨g1,6,none⟩=some (szV l1 5)∧W.cell? ⟨g2,0,none⟩=some (.int .i64 (l2.length:Int))∧W.cell? ⟨g2,1,none⟩=some (szV l2 0)∧W.cell? ⟨g2,2,none⟩=some (szV l2 1)∧W.cell? ⟨g2,3,none⟩=some (szV l2 2)∧W.cell? ⟨g2,4,none⟩=some (szV l2 3)∧W.cell? ⟨g2,5,none⟩=some (szV l2 4)∧W.cell? ⟨g2,6,none⟩=some (szV l2 5)∧Below wb.heap.size wb W
theorem holdA_Tj7 {wb W W':World}{g1 g2:Nat}{l1 l2:List Nat}(H:HoldA_Tj7 wb g1 g2 l1 l2 W) (hb:Below W.heap.size W W'):HoldA_Tj7 wb g1 g2 l1 l2 W':=by
 obtain⟨a0,a1,a2,a3,a4,a5,a6,b0,b1,b2,b3,b4,b5,b6,h9⟩:=H;have K:∀ b i v,W.cell? ⟨b,i,none⟩=some v→W'.cell? ⟨b,i,none⟩=some v:=fun b i v h=>(hb.cell (p:=⟨b,i,none⟩) (World.block_lt_of_cell? W _ h)).trans h;exact⟨K _ _ _ a0,K _ _ _ a1,K _ _ _ a2,K _ _ _ a3,K _ _ _ a4,K _ _ _ a5,K _ _ _ a6,K _ _ _ b0,K _ _ _ b1,K _ _ _ b2,K _ _ _ b3,K _ _ _ b4,K _ _ _ b5,K _ _ _ b6,h9.trans (hb.mono h9.size)⟩
theorem HoldA_Tj7.below {wb W:World}{g1 g2:Nat}{l1 l2:List Nat}(H:HoldA_Tj7 wb g1 g2 l1 l2 W):Below wb.heap.size wb W:=H.2.2.2.2.2.2.2.2.2.2.2.2.2.2
theorem HoldA_Tj7.of {w:World}{g1 h1 g2 h2:Nat}{l1 l2:List Nat}{k1 k2:Int}{z1 z2:Nat→Int}(T1:TabAt w g1 h1 l1 k1 z1) (T2:TabAt w g2 h2 l2 k2 z2):HoldA_Tj7 w g1 g2 l1 l2 w:=by
 obtain⟨a0,a1,a2,a3,a4,a5,a6,a7,a8⟩:=T1.cells;obtain⟨b0,b1,b2,b3,b4,b5,b6,b7,b8⟩:=T2.cells;exact⟨a0,a1,a2,a3,a4,a5,a6,b0,b1,b2,b3,b4,b5,b6,Below.refl _ _⟩
set_option maxRecDepth 100000 in
set_option maxHeartbeats 1000000 in
theorem agree_any (g1 h1 n1 c1 g2 h2 n2 c2:Nat) (A1 A2:Option Addr) (l1 l2 a b:List Nat) (k1 k2:Int) (z1 z2:Nat→Int) (w:World) (T1:TabAt w g1 h1 l1 k1 z1) (T2:TabAt w g2 h2 l2 k2 z2)
  (hl1:l1.length=n1) (hl2:l2.length=n2) (ha:a.length=n1) (hb:b.length=n2) (i1:Ints w A1 a) (i2:Ints w A2 b) (h61:n1≤6) (h62:n2≤6) (hs:b.Pairwise (·≤·)) :
  Calls Tryz.prog 179 #[.pointer (some ⟨g1,0,none⟩),.slice A1 n1 c1,.pointer (some ⟨g2,0,none⟩),.slice A2 n2 c2] w fun e w'=>e = .returned (.bool (AgB a b l1 l2))∧Below w.heap.size w w':=by
 have HT1:=hid T1;have HT2:=hid T2;have HL1:=hid hl1;have HL2:=hid hl2;have HA:=hid ha;have HB:=hid hb;have I1:=hid i1;have I2:=hid i2;have HS:=hid hs;clear T1 T2 hl1 hl2 ha hb i1 i2 hs;go_enter Tryz.func179,Tryz.ntmps179
 go_upto_region 2 with fail
 go_loopw [15] (fun i wr=>∃ j:Nat,j≤n1∧i = .int .i64 (j:Int)∧(∀ i,i < j→AgAt a b l1 l2 i=true)∧Below w.heap.size w wr) (fun i _=>n1 - (intOf i).toNat)
 case atStart=>exact⟨0,Nat.zero_le _,rfl,fun i hi=>absurd hi (by omega),Below.refl _ _⟩
 case round =>
  obtain⟨j,hj,rfl,hag,hbl⟩:=hrel;have HG:=hid hag;have HBL:=hid hbl;clear hag hbl;by_cases hlt:j < n1
  rotate_left
  ·have i1:¬ (j:Int) < (n1:Int):=by omega
   obtain rfl:j=n1:=by omega
   clear hlt hj;go_wp2_with fail
   go_ret;exact⟨by rw [show AgB a b l1 l2=true from List.all_eq_true.2 fun i hi=>HG.out i (by have:=List.mem_range.1 hi;rw [HA.out] at this;exact this)];rfl,HBL.out⟩
  obtain⟨gs,os,rfl,hcs⟩:=(I1.out.below HBL.out (Nat.le_refl _)).at_ (i:=j) (by rw [HA.out];exact hlt);obtain⟨v,hv⟩:∃ v,nth a j=v:=⟨_,rfl⟩
  have HV:=hid hv;rw [hv] at hcs;clear hv;have i1:(j:Int) < (n1:Int):=by omega
  have i2:(0:Int)≤(j:Int):=by omega
  have hwr:=HBL.out.size;have BS:=hid (bsearch_any A2 n2 c2 v b wr HB.out HS.out (I2.out.below HBL.out (Nat.le_refl _)) (by omega));go_wp2_with fail
  refine BS.out.mono ?_;rintro e w2 ⟨rfl,hb2⟩;have B2:=hid (HBL.out.trans (hb2.mono hwr));have TT1:=hid (HT1.out.below (B2.out));have TT2:=hid (HT2.out.below (B2.out));have HAG:Hid (AgAt a b l1 l2 j=(!(b.contains v) || nth l1 j == nth l2 (b.countP (· < v)))):=hid (by rw [AgAt,HV.out]);have CL:Hid (b.contains v=true→b.countP (· < v) < n2):=hid (by intro h;have:=cntP_lt h;rw [HB.out] at this;exact this);clear hb2 hcs hwr BS;generalize b.countP (· < v)=x at HAG CL ⊢;generalize b.contains v=bb at HAG CL ⊢;have HH:=hid (HoldA_Tj7.of TT1.out TT2.out);have SZ1:=hid (fun W=>size_yes l1 j W (by rw [HL1.out];omega) (by rw [HL1.out];exact hlt));have SZ2:Hid (bb=true→∀ W,Calls Tryz.prog 229 #[shV l2,.int .i64 (x:Int)] W fun e w'=>e = .returned (.int .i64 (nth l2 x:Int))∧Below W.heap.size W w'):=hid (fun h W=>size_yes l2 x W (by rw [HL2.out];omega) (by rw [HL2.out];exact CL.out h));obtain⟨y1,hy1⟩:∃ y,nth l1 j=y:=⟨_,rfl⟩
  obtain⟨y2,hy2⟩:∃ y,nth l2 x=y:=⟨_,rfl⟩
  rw [hy1] at SZ1 HAG;rw [hy2] at SZ2 HAG;clear hy1 hy2 TT1 TT2;cases bb with
  | false =>
   have HA1:Hid (AgAt a b l1 l2 j=true):=hid (by rw [HAG.out];rfl);clear SZ1 SZ2 HAG CL;go_upto_region 5 with fail
   refine wp_region_noPanic ?_;refine wp_region_held_drew (S:=fun W=>HoldA_Tj7 w2 g1 g2 l1 l2 W) (by kernel_rfl) (holdA_Tj7 HH.out ((Below.refl _ _).drew)) (fun hHeld=>?_);generalize w2.drew=w6 at hHeld ⊢;refine wt 0 ?r801;refine wt 1 ?r802;refine wu 2 ?r803;refine wu 3 ?r804;refine wu 4 ?r805;refine wu 5 ?r806;refine wu 6 ?r807;refine wu 7 ?r808;refine wu 8 ?r809;refine wu 9 ?r810;refine wu 10 ?r811;refine wu 11 ?r812;refine wu 12 ?r813;refine wu 13 ?r814;refine wu 14 ?r815;refine wt 15 ?r816;refine wpAnyH_done (by kernel_rfl) ?_ _;refine NoPanic.normal ?_;have BL:=hid (B2.out.trans ((HoldA_Tj7.below hHeld).mono B2.out.size));go_wp2_with fail
   go_roundw
   case rel=>exact⟨j+1,by omega,by go_num,fun i hi=>by
    rcases Nat.lt_or_ge i j with h | h
    ·exact HG.out i h
    ·obtain rfl:i=j:=by omega
     exact HA1.out,BL.out⟩
   case measure=>simp [intOf];omega
  | true =>
   have SZ3:=hid (SZ2.out rfl);clear SZ2;go_upto_region 5 with fail
   refine wp_region_noPanic ?_;refine wp_region_held_drew (S:=fun W=>HoldA_Tj7 w2 g1 g2 l1 l2 W) (by kernel_rfl) (holdA_Tj7 HH.out ((Below.refl _ _).drew)) (fun hHeld=>?_);generalize w2.drew=w6 at hHeld ⊢;refine wt 0 ?r701;refine wt 1 ?r702;refine wt 2 ?r703;refine wt 3 ?r704;refine wt 4 ?r705;refine wt 5 ?r706;refine wt 6 ?r707;refine wt 8 ?r708;refine wt 9 ?r709;refine wt 10 ?r710;refine wt 11 ?r711;refine wt 12 ?r712;refine wr1 7 (fun K hK=>?_);go_simp;refine (SZ1.out _).mono ?_;rintro e wS ⟨rfl,hb⟩;refine hK.out _ _ (holdA_Tj7 hHeld hb) (fun hHeld'=>?_);replace hHeld:=hHeld';clear hHeld';clear hb;clear hK K;try simp only [Act.put,pa,pb,pc,pd,pe,pf]
   refine wr1 13 (fun K hK=>?_);go_simp;refine (SZ3.out _).mono ?_;rintro e wS ⟨rfl,hb⟩;refine hK.out _ _ (holdA_Tj7 hHeld hb) (fun hHeld'=>?_);replace hHeld:=hHeld';clear hHeld';clear hb;clear hK K;try simp only [Act.put,pa,pb,pc,pd,pe,pf]
   refine wt 14 ?r713;refine wt 15 ?r714;refine wpAnyH_done (by kernel_rfl) ?_ _;refine NoPanic.normal ?_;have BL:=hid (B2.out.trans ((HoldA_Tj7.below hHeld).mono B2.out.size));by_cases he:y1=y2
   rotate_left
   ·have HA1:Hid (AgAt a b l1 l2 j=false):=hid (by rw [HAG.out];simpa using he)
    have d:((y1:Int) != (y2:Int))=true:=by simp;omega
    go_wp2_with fail
    go_ret;exact⟨by rw [agB_no (by rw [HA.out];exact hlt) HA1.out];rfl,BL.out⟩
   subst he;have HA1:Hid (AgAt a b l1 l2 j=true):=hid (by rw [HAG.out];simp);have d:((y1:Int) != (y1:Int))=false:=by simp
   go_wp2_with fail
   go_roundw
   case rel=>exact⟨j+1,by omega,by go_num,fun i hi=>by
    rcases Nat.lt_or_ge i j with h | h
    ·exact HG.out i h
    ·obtain rfl:i=j:=by omega
     exact HA1.out,BL.out⟩
   case measure=>simp [intOf];omega
theorem nth_get {l:List Nat}{i:Nat}(h:i < l.length):nth l i=l[i]:=by simp [nth,List.getD_eq_getElem?_getD,h]
theorem rises_lt {l:List Nat}(h:Rises l):l.Pairwise (· < ·):=by
 induction l with
 | nil=>exact .nil
 | cons a l ih =>
  have h2:Rises l:=fun i hi=>h (i+1) (by simpa using hi);have hs:=ih h2;refine .cons (fun b hb=>?_) hs;cases l with
  | nil=>cases hb
  | cons c r =>
   have h1:=h 0 (by simp);have h1:a < c:=h1;rcases List.mem_cons.1 hb with rfl | hb
   ·exact h1
   have:=(List.pairwise_cons.1 hs).1 b hb;omega
theorem lt_rises {l:List Nat}(h:l.Pairwise (· < ·)):Rises l:=fun i hi=>by
 rw [nth_get hi,nth_get (by omega)];exact List.pairwise_iff_getElem.1 h i (i+1) (by omega) hi (by omega)
theorem lt_le {l:List Nat}(h:l.Pairwise (· < ·)):l.Pairwise (·≤·):=h.imp fun h=>by omega
theorem cnt_nth {l:List Nat}(h:l.Pairwise (· < ·)):∀ {p:Nat},p < l.length→l.countP (· < nth l p)=p:=by
 induction l with
 | nil=>intro p hp;simp at hp
 | cons a l ih =>
  intro p hp;have hs:=List.pairwise_cons.1 h;cases p with
  | zero =>
   show (a::l).countP (· < a)=0;rw [List.countP_eq_zero];intro x hx;rcases List.mem_cons.1 hx with rfl | hx
   ·simp
   have:=hs.1 x hx;simp;omega
  | succ p =>
   have hp':p < l.length:=by simpa using hp
   show (a::l).countP (· < nth l p)=p+1;rw [List.countP_cons,ih hs.2 hp'];have:a < nth l p:=hs.1 _ (by rw [nth_get hp'];exact List.getElem_mem hp');simp [this]
theorem nth_cnt {l:List Nat}(h:l.Pairwise (· < ·)) {v:Nat}(hv:v∈l):l.countP (· < v) < l.length∧nth l (l.countP (· < v))=v:=by
 obtain⟨p,hp,e⟩:=List.getElem_of_mem hv;have h1:nth l p=v:=by rw [nth_get hp];exact e
 have h2:=cnt_nth h hp;rw [h1] at h2;rw [h2];exact⟨hp,h1⟩
theorem jn_no {ap l:List Nat}{d:Nat→Nat}{p:Nat}:∀ j,(∀ i,i < j→nth ap i≠p)→jn ap l d j p=d p
 | 0,_=>rfl
 | j+1,h=>by
  show (if p=nth ap j then nth l j else jn ap l d j p)=d p;rw [if_neg (fun e=>h j (by omega) e.symm)];exact jn_no j fun i hi=>h i (by omega)
theorem jn_yes {ap l:List Nat}{d:Nat→Nat}{n:Nat}(hinj:∀ i j,i < n→j < n→nth ap i=nth ap j→i=j):∀ j,j≤n→∀ i,i < j→jn ap l d j (nth ap i)=nth l i
 | 0,_,i,hi=>by omega
 | j+1,hj,i,hi=>by
  show (if nth ap i=nth ap j then nth l j else jn ap l d j (nth ap i))=nth l i;by_cases e:nth ap i=nth ap j
  ·rw [if_pos e,hinj i j (by omega) (by omega) e]
  rw [if_neg e];refine jn_yes hinj j (by omega) i ?_;rcases Nat.lt_or_ge i j with h | h
  ·exact h
  exact absurd (by rw [show i=j by omega]) e
theorem plcL_nth {V a:List Nat}{i:Nat}(h:i < a.length):nth (plcL V a) i=V.countP (· < nth a i):=nth_map h
theorem plc_inj {V a:List Nat}(hV:V.Pairwise (· < ·)) (ha:a.Pairwise (· < ·)) (hs:∀ x∈a,x∈V):∀ i j,i < a.length→j < a.length→nth (plcL V a) i=nth (plcL V a) j→i=j:=by
 intro i j hi hj e;rw [plcL_nth hi,plcL_nth hj] at e;have h1:=(nth_cnt hV (hs _ (nth_mem hi))).2;have h2:=(nth_cnt hV (hs _ (nth_mem hj))).2;rw [e,h2] at h1;have h3:=cnt_nth ha hi;have h4:=cnt_nth ha hj;rw [h1] at h4;omega
theorem ext_nth {l t:List Nat}(h:l.length=t.length) (he:∀ i,i < l.length→nth l i=nth t i):l=t:=by
 refine List.ext_getElem h fun i h1 h2=>?_;have:=he i h1;rwa [nth_get h1,nth_get h2] at this
structure Uni (V a b:List Nat):Prop where
 lt:V.Pairwise (· < ·)
 mem:∀ x,x∈V↔x∈a∨x∈b
theorem Uni.pa {V a b l1 l2:List Nat}(H:Uni V a b) (ha:Rises a) (hb:Rises b) (hl1:l1.length=a.length) (hl2:l2.length=b.length) (hag:AgB a b l1 l2=true):pickL (joinL V.length (plcL V a) l1 (plcL V b) l2) (plcL V a)=l1:=by
 have sa:=rises_lt ha;have sb:=rises_lt hb;have ia:=plc_inj H.lt sa (fun x hx=>(H.mem x).2 (.inl hx));have ib:=plc_inj H.lt sb (fun x hx=>(H.mem x).2 (.inr hx));refine ext_nth (by rw [pickL_len,plcL_len,hl1]) fun i hi=>?_;rw [pickL_len,plcL_len] at hi;have hm:=(nth_cnt H.lt ((H.mem _).2 (.inl (nth_mem hi))))
 rw [pickL_nth (by rw [plcL_len];exact hi)];have hp:=plcL_nth (V:=V) hi;rw [joinL,nth_range (by rw [hp];exact hm.1),joinF,plcL_len,plcL_len];by_cases h:∃ j,j < b.length∧nth (plcL V b) j=nth (plcL V a) i
 rotate_left
 ·rw [jn_no b.length (fun j hj e=>h ⟨j,hj,e⟩),jn_yes (n:=a.length) ia a.length (Nat.le_refl _) i hi]
 obtain⟨j,hj,e⟩:=h;rw [← e,jn_yes (n:=b.length) ib b.length (Nat.le_refl _) j hj];have hab:nth b j=nth a i:=by
  rw [hp,plcL_nth hj] at e;have h1:=(nth_cnt H.lt ((H.mem _).2 (.inr (nth_mem hj)))).2;rw [e,hm.2] at h1;exact h1.symm
 have hg:=List.all_eq_true.1 hag i (List.mem_range.2 hi);have hc:b.contains (nth a i)=true:=by rw [← hab];exact List.contains_iff_mem.2 (nth_mem hj)
 rw [AgAt,hc,← hab,cnt_nth sb hj] at hg;simpa using (by simpa using hg:nth l1 i=nth l2 j).symm
theorem sortI_mem {l:List Nat}{x:Int}:x∈sortI l↔∃ n∈l,(n:Int)=x:=by
 rw [sortI,List.mem_mergeSort,List.mem_map]
theorem sortI_sorted (l:List Nat):(sortI l).Pairwise (·≤·):=by
 have h:=List.pairwise_mergeSort (le:=fun x y:Int=>decide (x≤y)) (by intro a b c h1 h2;simp at *;omega) (by intro a b;simp;omega) (l.map fun i:Nat=>(i:Int));exact h.imp fun h=>by simpa using h
theorem comp_eq (zs:List Int):Lib.compact zs=((List.range zs.length).filter (Lib.keeps zs.toArray)).map (zs.getD · 0):=by
 rw [Lib.compact,Lib.compactUpTo];refine List.map_congr_left fun i hi=>?_;have:i < zs.length:=by have:=(List.mem_filter.1 hi).1;simpa using this
 simp [List.getD_eq_getElem?_getD,this]
theorem keeps_iff {zs:List Int}{j:Nat}(h:j < zs.length):Lib.keeps zs.toArray j=true↔j=0∨zs.getD j 0≠zs.getD (j - 1) 0:=by
 have h2:j - 1 < zs.length:=by omega
 simp [Lib.keeps,List.getD_eq_getElem?_getD,h,h2]
theorem comp_lt {zs:List Int}(h:zs.Pairwise (·≤·)):(Lib.compact zs).Pairwise (· < ·):=by
 rw [comp_eq,List.pairwise_map];have hg:∀ i j,i≤j→j < zs.length→zs.getD i 0≤zs.getD j 0:=by
  intro i j hij hj;rcases Nat.lt_or_ge i j with h1 | h1
  ·have:=List.pairwise_iff_getElem.1 h i j (by omega) hj h1
   simpa [List.getD_eq_getElem?_getD,hj,show i < zs.length by omega] using this
  rw [show i=j by omega];exact Int.le_refl _
 have hp:((List.range zs.length).filter (Lib.keeps zs.toArray)).Pairwise (· < ·):=List.Pairwise.filter _ List.pairwise_lt_range;refine hp.imp_of_mem fun {i j} hi hj hij=>?_;have hj':=List.mem_filter.1 hj;have hjl:j < zs.length:=by simpa using hj'.1
 have hk:=(keeps_iff hjl).1 hj'.2;have h1:=hg i (j - 1) (by omega) (by omega);have h2:=hg (j - 1) j (by omega) hjl;rcases hk with hk | hk
 ·omega
 omega
theorem comp_mem {zs:List Int}{x:Int}:x∈Lib.compact zs↔x∈zs:=by
 rw [comp_eq,List.mem_map];constructor
 ·rintro⟨i,hi,rfl⟩
  have hl:i < zs.length:=by have:=(List.mem_filter.1 hi).1;simpa using this
  rw [List.getD_eq_getElem?_getD,List.getElem?_eq_getElem hl];exact List.getElem_mem hl
 intro hx;have:∃ j,j < zs.length∧zs.getD j 0=x:=by
  obtain⟨j,hj,e⟩:=List.getElem_of_mem hx;exact⟨j,hj,by rw [List.getD_eq_getElem?_getD,List.getElem?_eq_getElem hj];exact e⟩
 obtain⟨j,hj,e⟩:=this;induction j with
 | zero=>exact⟨0,List.mem_filter.2 ⟨by simpa using hj,(keeps_iff hj).2 (.inl rfl)⟩,e⟩
 | succ j ih =>
  by_cases hk:zs.getD (j+1) 0=zs.getD j 0
  ·exact ih (by omega) (hk.symm.trans e)
  exact⟨j+1,List.mem_filter.2 ⟨by simpa using hj,(keeps_iff hj).2 (.inr hk)⟩,e⟩
theorem uni_ex (a b:List Nat):∃ V,Lib.compact (sortI (a++b))=V.map (fun i:Nat=>(i:Int))∧Uni V a b:=by
 have hm:∀ x:Int,x∈Lib.compact (sortI (a++b))↔∃ n∈a++b,(n:Int)=x:=fun x=>by rw [comp_mem,sortI_mem]
 have hlt:=comp_lt (sortI_sorted (a++b));generalize Lib.compact (sortI (a++b))=C at hm hlt;have hc:C=(C.map Int.toNat).map fun i:Nat=>(i:Int):=by
  rw [List.map_map];refine (List.map_id' C).symm.trans (List.map_congr_left fun x hx=>?_);obtain⟨n,_,e⟩:=(hm x).1 hx;subst e;simp
 refine⟨C.map Int.toNat,hc,?_,fun x=>?_⟩
 ·rw [List.pairwise_map]
  refine hlt.imp_of_mem fun {x y} hx hy hxy=>?_;obtain⟨n,_,e⟩:=(hm x).1 hx;obtain⟨m,_,e2⟩:=(hm y).1 hy;subst e;subst e2;simp;omega
 rw [List.mem_map];constructor
 ·rintro⟨y,hy,rfl⟩
  obtain⟨n,hn,e⟩:=(hm y).1 hy;subst e;simpa using hn
 intro h;exact⟨(x:Int),(hm _).2 ⟨x,List.mem_append.2 h,rfl⟩,by simp⟩
theorem rise_uniq {l t:List Nat}(h1:l.Pairwise (· < ·)) (h2:t.Pairwise (· < ·)) (h:∀ x,x∈l↔x∈t):l=t:=by
 induction l generalizing t with
 | nil =>
  cases t with
  | nil=>rfl
  | cons b t=>exact absurd ((h b).2 (by simp)) (by simp)
 | cons a l ih =>
  cases t with
  | nil=>exact absurd ((h a).1 (by simp)) (by simp)
  | cons b t =>
   have p1:=List.pairwise_cons.1 h1;have p2:=List.pairwise_cons.1 h2;have hab:a=b:=by
    rcases List.mem_cons.1 ((h a).1 (by simp)) with e | e
    ·exact e
    rcases List.mem_cons.1 ((h b).2 (by simp)) with e2 | e2
    ·exact e2.symm
    have:=p1.1 b e2;have:=p2.1 a e;omega
   subst hab;refine congrArg _ (ih p1.2 p2.2 fun x=>⟨fun hx=>?_,fun hx=>?_⟩)
   ·rcases List.mem_cons.1 ((h x).1 (List.mem_cons_of_mem _ hx)) with e | e
    ·have:=p1.1 x hx;omega
    exact e
   rcases List.mem_cons.1 ((h x).2 (List.mem_cons_of_mem _ hx)) with e | e
   ·have:=p2.1 x hx;omega
   exact e
def lexL:List Nat→List Nat→Bool
 | a::s,b::t=>decide (a < b) || (decide (a=b) && lexL s t)
 | _,_=>false
def ltS (a b:List Nat):Prop:=a.length < b.length∨(a.length=b.length∧lexL a b=true)
theorem lexL_cons (a b:Nat) (s t:List Nat):lexL (a::s) (b::t)=true↔a < b∨(a=b∧lexL s t=true):=by simp [lexL]
theorem lexL_irr:∀ a:List Nat,¬ lexL a a=true
 | [],h=>by cases h
 | a::s,h=>by
  rw [lexL_cons] at h;rcases h with h | ⟨_,h⟩
  ·omega
  exact lexL_irr s h
theorem lexL_trans:∀ {a b c:List Nat},lexL a b=true→lexL b c=true→lexL a c=true
 | a::s,b::t,c::u,h,h2=>by
  rw [lexL_cons] at *;rcases h with h | ⟨e,h⟩
  ·rcases h2 with h2 | ⟨e2,h2⟩
   ·left;omega
   left;omega
  rcases h2 with h2 | ⟨e2,h2⟩
  ·left;omega
  exact .inr ⟨by omega,lexL_trans h h2⟩
 | [],_,_,h,_=>by cases h
 | _::_,[],_,h,_=>by cases h
 | _::_,_::_,[],_,h=>by cases h
theorem lexL_tri:∀ {a b:List Nat},a.length=b.length→lexL a b=true∨a=b∨lexL b a=true
 | [],[],_=>.inr (.inl rfl)
 | a::s,b::t,h=>by
  rw [lexL_cons,lexL_cons];rcases Nat.lt_trichotomy a b with h1 | h1 | h1
  ·exact .inl (.inl h1)
  ·subst h1
   rcases lexL_tri (a:=s) (b:=t) (by simpa using h) with h2 | h2 | h2
   ·exact .inl (.inr ⟨rfl,h2⟩)
   ·exact .inr (.inl (by rw [h2]))
   exact .inr (.inr (.inr ⟨rfl,h2⟩))
  exact .inr (.inr (.inl h1))
 | [],_::_,h=>by simp at h
 | _::_,[],h=>by simp at h
theorem ltS_irr (a:List Nat):¬ ltS a a:=by
 rintro (h | ⟨_,h⟩)
 ·omega
 exact lexL_irr a h
theorem ltS_trans {a b c:List Nat}(h:ltS a b) (h2:ltS b c):ltS a c:=by
 rcases h with h | ⟨e,h⟩
 ·rcases h2 with h2 | ⟨e2,h2⟩
  ·left;omega
  left;omega
 rcases h2 with h2 | ⟨e2,h2⟩
 ·left;omega
 exact .inr ⟨by omega,lexL_trans h h2⟩
theorem ltS_tri (a b:List Nat):ltS a b∨a=b∨ltS b a:=by
 rcases Nat.lt_trichotomy a.length b.length with h | h | h
 ·exact .inl (.inl h)
 ·rcases lexL_tri h with h1 | h1 | h1
  ·exact .inl (.inr ⟨h,h1⟩)
  ·exact .inr (.inl h1)
  exact .inr (.inr (.inr ⟨h.symm,h1⟩))
 exact .inr (.inr (.inl h))
theorem ltS_asym {a b:List Nat}(h:ltS a b):¬ ltS b a:=fun h2=>ltS_irr a (ltS_trans h h2)
structure PartM where
 scope:List Nat
 z:Nat→Int
def grpS (ps:List PartM) (S:List Nat) (i:Nat):Int:=((ps.filter fun p=>p.scope == S).map fun p=>p.z i).sum
def grpM (k:Int) (ps:List PartM) (S:List Nat) (i:Nat):Int:=min k (grpS ps S i)
theorem grpS_nil (S:List Nat) (i:Nat):grpS [] S i=0:=rfl
theorem grpS_snoc_same (ps:List PartM) (p:PartM) (i:Nat):grpS (ps++[p]) p.scope i=grpS ps p.scope i+p.z i:=by
 simp [grpS,List.filter_append]
theorem grpS_snoc_other (ps:List PartM) (p:PartM) {S:List Nat}(h:p.scope≠S) (i:Nat):grpS (ps++[p]) S i=grpS ps S i:=by
 simp [grpS,List.filter_append,h]
theorem grpS_cons (ps:List PartM) (p:PartM) (S:List Nat) (i:Nat):grpS (p::ps) S i=(if p.scope=S then p.z i else 0)+grpS ps S i:=by
 unfold grpS;by_cases h:p.scope=S
 ·simp [h]
 simp [h]
theorem sum_perm {l m:List Int}(h:l.Perm m):l.sum=m.sum:=by
 induction h with
 | nil=>rfl
 | cons a _ ih=>simp [ih]
 | swap a b l=>simp;omega
 | trans _ _ ih1 ih2=>exact ih1.trans ih2
theorem grpS_perm {ps qs:List PartM}(h:ps.Perm qs) (S:List Nat) (i:Nat):grpS ps S i=grpS qs S i:=sum_perm ((h.filter _).map _)
theorem sum_nonneg:∀ {l:List Int},(∀ x∈l,0≤x)→0≤l.sum
 | [],_=>Int.le_refl _
 | a::l,h=>by
  have h1:=h a (by simp);have h2:=sum_nonneg (l:=l) (fun x hx=>h x (List.mem_cons_of_mem _ hx));simp;omega
theorem grpS_nonneg {ps:List PartM}{S:List Nat}{i:Nat}(h:∀ p∈ps,p.scope=S→0≤p.z i):0≤grpS ps S i:=by
 refine sum_nonneg fun x hx=>?_;rw [List.mem_map] at hx;obtain⟨p,hp,rfl⟩:=hx;rw [List.mem_filter] at hp;exact h p hp.1 (by simpa using hp.2)
structure GrpI (N:List Nat→Nat) (k:Int) (pre l:List PartM):Prop where
 ris:(l.map (·.scope)).Pairwise ltS
 has:∀ p∈pre,p.scope∈l.map (·.scope)
 frm:∀ e∈l,∃ p∈pre,p.scope=e.scope
 sum:∀ e∈l,∀ i,i < N e.scope→e.z i=grpM k pre e.scope i
theorem GrpI.nil (N:List Nat→Nat) (k:Int):GrpI N k [] []:=⟨List.Pairwise.nil,(fun p h=>by cases h),(fun p h=>by cases h),(fun p h=>by cases h)⟩
theorem scopes_snoc (l:List PartM) (e:PartM):(l++[e]).map (·.scope)=l.map (·.scope)++[e.scope]:=by simp
theorem GrpI.next {N:List Nat→Nat}{k:Int}{pre l:List PartM}(h:GrpI N k pre l) {p e:PartM}(hs:e.scope=p.scope) (hl:∀ S∈l.map (·.scope),ltS S p.scope) (hz:∀ i,i < N p.scope→0≤p.z i∧p.z i≤k) (he:∀ i,i < N p.scope→e.z i=p.z i):GrpI N k (pre++[p]) (l++[e]):=by
 have hno:∀ q∈pre,q.scope≠p.scope:=fun q hq e=>ltS_irr p.scope (by have:=hl _ (h.has q hq);rw [e] at this;exact this);refine⟨?_,fun q hq=>?_,fun q hq=>?_,fun q hq i hi=>?_⟩
 ·rw [scopes_snoc,hs]
  exact List.pairwise_append.2 ⟨h.ris,List.pairwise_singleton _ _,fun a ha b hb=>by simp at hb;subst hb;exact hl a ha⟩
 ·rw [scopes_snoc]
  rcases List.mem_append.1 hq with hq | hq
  ·exact List.mem_append_left _ (h.has q hq)
  simp at hq;subst hq;simp [hs]
 ·rcases List.mem_append.1 hq with hq | hq
  ·obtain⟨p',hp',e'⟩:=h.frm q hq
   exact⟨p',List.mem_append_left _ hp',e'⟩
  simp at hq;subst hq
  exact⟨p,by simp,hs.symm⟩
 rcases List.mem_append.1 hq with hq | hq
 ·have hne:p.scope≠q.scope:=fun e=>ltS_irr p.scope (by have:=hl q.scope (List.mem_map_of_mem hq);rw [← e] at this;exact this)
  rw [h.sum q hq i hi];unfold grpM;rw [grpS_snoc_other _ _ hne]
 simp at hq;subst hq
 rw [hs] at hi;rw [he i hi,hs];unfold grpM;rw [grpS_snoc_same];have:grpS pre p.scope i=0:=by
  unfold grpS;rw [List.filter_eq_nil_iff.2 fun q hq=>by simpa using hno q hq];rfl
 have:=hz i hi;omega
theorem GrpI.join {N:List Nat→Nat}{k:Int}{pre l:List PartM}{e e' p:PartM}(h:GrpI N k pre (l++[e])) (hs:e.scope=p.scope) (hs':e'.scope=e.scope) (h0:∀ q∈pre,∀ i,i < N q.scope→0≤q.z i) (hz:∀ i,i < N p.scope→0≤p.z i) (he:∀ i,i < N p.scope→e'.z i=min k (e.z i+p.z i)):GrpI N k (pre++[p]) (l++[e']):=by
 have hr:=h.ris;rw [scopes_snoc] at hr;obtain⟨r1,_,r3⟩:=List.pairwise_append.1 hr;refine⟨by rw [scopes_snoc,hs'];exact hr,fun q hq=>?_,fun q hq=>?_,fun q hq i hi=>?_⟩
 ·rw [scopes_snoc,hs',← scopes_snoc]
  rcases List.mem_append.1 hq with hq | hq
  ·exact h.has q hq
  simp at hq;subst hq;simp [hs]
 ·rcases List.mem_append.1 hq with hq | hq
  ·obtain⟨p',hp',e1⟩:=h.frm q (List.mem_append_left _ hq)
   exact⟨p',List.mem_append_left _ hp',e1⟩
  simp at hq;subst hq
  exact⟨p,by simp,by rw [hs',hs]⟩
 rcases List.mem_append.1 hq with hq | hq
 ·have hne:p.scope≠q.scope:=fun e1=>ltS_irr p.scope (by have:=r3 q.scope (List.mem_map_of_mem hq) e.scope (by simp);rw [← e1,hs] at this;exact this)
  rw [h.sum q (List.mem_append_left _ hq) i hi];unfold grpM;rw [grpS_snoc_other _ _ hne]
 simp at hq;subst hq
 rw [hs',hs] at hi;rw [he i hi,h.sum e (by simp) i (by rw [hs];exact hi),hs',hs];unfold grpM;rw [grpS_snoc_same];have h1:=grpS_nonneg (ps:=pre) (S:=p.scope) (i:=i) (fun q hq e1=>h0 q hq i (by rw [e1];exact hi));have h2:=hz i hi;omega
theorem GrpI.perm {N:List Nat→Nat}{k:Int}{pre qs l:List PartM}(h:GrpI N k pre l) (hp:pre.Perm qs):GrpI N k qs l :=
 ⟨h.ris,fun p hq=>h.has p (hp.mem_iff.2 hq),fun e he=>by obtain⟨p,h1,h2⟩:=h.frm e he;exact⟨p,hp.mem_iff.1 h1,h2⟩,fun e he i hi=>by rw [h.sum e he i hi];unfold grpM;rw [grpS_perm hp]⟩
structure CanI (N:List Nat→Nat) (k:Int) (ps L:List PartM):Prop where
 ris:(L.map (·.scope)).Pairwise ltS
 mem:∀ S,S∈L.map (·.scope)↔(∃ p∈ps,p.scope=S)∧∃ i,i < N S∧0 < grpM k ps S i
 sum:∀ e∈L,∀ i,i < N e.scope→e.z i=grpM k ps e.scope i
theorem GrpI.canon {N:List Nat→Nat}{k:Int}{ps l:List PartM}(h:GrpI N k ps l) (keep:PartM→Bool) (hk:∀ e∈l,keep e=true↔∃ i,i < N e.scope∧0 < e.z i):CanI N k ps (l.filter keep):=by
 refine⟨?_,fun S=>?_,fun e he=>h.sum e (List.mem_filter.1 he).1⟩
 ·exact List.Pairwise.sublist (List.filter_sublist.map _) h.ris
 constructor
 ·intro hS
  obtain⟨e,he,rfl⟩:=List.mem_map.1 hS;obtain⟨h1,h2⟩:=List.mem_filter.1 he;obtain⟨i,hi,hz⟩:=(hk e h1).1 h2;exact⟨h.frm e h1,i,hi,by rw [← h.sum e h1 i hi];exact hz⟩
 rintro⟨⟨p,hp,rfl⟩,i,hi,hz⟩;obtain⟨e,he,hs⟩:=List.mem_map.1 (h.has p hp);have hs':e.scope=p.scope:=hs;refine List.mem_map.2 ⟨e,List.mem_filter.2 ⟨he,(hk e he).2 ⟨i,by rw [hs'];exact hi,?_⟩⟩,hs⟩;rw [h.sum e he i (by rw [hs'];exact hi),hs'];exact hz
end Go.Proofs.YtmokogkndbinlaaGreatDoor
