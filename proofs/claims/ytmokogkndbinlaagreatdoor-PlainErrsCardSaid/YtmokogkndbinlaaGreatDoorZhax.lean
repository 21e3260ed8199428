import Derived.Test.YtmokogkndbinlaaGreatDoorZhaw
set_option linter.all false
namespace Go.Proofs.YtmokogkndbinlaaGreatDoor
open Go.Lib (hid)
open Go.RowKit Go.Maps
theorem made_lines (n:Nat) (hn:n≤1000000) (W:World):∃ M:Array Value,M.size=n * 2∧(Instr.makeSlice 182 (.int .i64 0) (.int .i64 (n:Int))).run Tryz.prog W = .ok (.slice (some ⟨W.heap.size,0,none⟩) 0 n) (W.alloc (.cells M 185)):=by
 obtain⟨i0,hi,hz0,hz1,hz2⟩:=info_parts info_line;have h:=run_make (P:=Tryz.prog) W 182 185 i0 _ Tryz.underlying182 hi hz0 .i64 .i64 0 (n:Int) (by omega) (by omega) (by rw [hz2];omega) (by omega);rw [hz1] at h;exact⟨_,size_madeCells _ _,h⟩
theorem TpAt.lookF {w:World}{g b:Nat}{A:Option Addr}{c N:Nat}{l t:List Nat}{k o:Int}{f:List Nat→Int}(H:TpAt w g b A c N l k o f) (h32:∀ n∈l,n≤32) (hin:InL l t) (hf:f t≠o) :
  (Instr.lookup 136 (.map (some b)) (keyV t) false).run Tryz.prog w = .ok (.int .i64 (f t)) w:=by
 obtain⟨D,hown,hrep⟩:=H.map;obtain⟨c,hrun,hc,_⟩:=hown.lookup_int keyed Tryz.underlying136 Tryz.underlying2 (zeroI64 w) (keyOf_key (hin.small h32));rw [(hrep.1 t hin).2 hf] at hc;rw [hrun,(Lit.int.inj (DataW.lit.inj hc)).2]
theorem key_apart {w:World}{b2 B n:Nat}{u:Value}{xs:List Value}{cs:Array Value}{fz:Nat × Nat}(h:w.heap[B]? = some (.cells cs 139 fz)) (k:w.ownsRow b2 185 2 u n xs):some B≠u.ownBlock:=fun e=>by
 obtain⟨c',fz',hc'⟩:=Lib.ownsRow_kind k B e.symm;rw [h] at hc';cases hc'
abbrev HoldLn (w0:World) (g b B5 nl c:Nat) (A:Option Addr) (t:List Nat) (x:Int) (W:World):Prop :=
 W.cell? ⟨g,0,none⟩=some (.slice A nl c)∧W.cell? ⟨g,3,none⟩=some (.map (some b))∧W.cell? ⟨B5,0,none⟩=some (szV t 0)∧W.cell? ⟨B5,1,none⟩=some (szV t 1)∧W.cell? ⟨B5,2,none⟩=some (szV t 2)∧W.cell? ⟨B5,3,none⟩=some (szV t 3)∧W.cell? ⟨B5,4,none⟩=some (szV t 4)∧W.cell? ⟨B5,5,none⟩=some (szV t 5) ∧
 (Instr.lookup 136 (.map (some b)) (.agg #[.int .i64 (nth t 0:Int),.int .i64 (nth t 1:Int),.int .i64 (nth t 2:Int),.int .i64 (nth t 3:Int),.int .i64 (nth t 4:Int),.int .i64 (nth t 5:Int)]) false).run Tryz.prog W = .ok (.int .i64 x) W ∧
 W.heap[B5]? = some (.cells (kyC t) 139 (0,0))∧Below w0.heap.size w0 W
theorem HoldLn.row {w0 W:World}{g b B5 nl c:Nat}{A:Option Addr}{t:List Nat}{x:Int}(H:HoldLn w0 g b B5 nl c A t x W):W.heap[B5]? = some (.cells (kyC t) 139 (0,0)):=H.2.2.2.2.2.2.2.2.2.1
theorem HoldLn.below {w0 W:World}{g b B5 nl c:Nat}{A:Option Addr}{t:List Nat}{x:Int}(H:HoldLn w0 g b B5 nl c A t x W):Below w0.heap.size w0 W:=H.2.2.2.2.2.2.2.2.2.2
abbrev HoldsLn (w0:World) (g b B5 nl c:Nat) (A:Option Addr) (t:List Nat) (x:Int):Prop:=∀ W,W.heap[B5]? = some (.cells (kyC t) 139 (0,0))→Below w0.heap.size w0 W→HoldLn w0 g b B5 nl c A t x W
theorem HoldLn.next {w0 W W':World}{g b B5 nl c:Nat}{A:Option Addr}{t:List Nat}{x:Int}(HF:Hid (HoldsLn w0 g b B5 nl c A t x)) (H:HoldLn w0 g b B5 nl c A t x W) (hb:Below W.heap.size W W'):HoldLn w0 g b B5 nl c A t x W' :=
 HF.out _ ((hb.block B5 (Array.getElem?_eq_some_iff.1 H.row).1).trans H.row) (H.below.trans (hb.mono H.below.size))
theorem HoldLn.app {w0 W W':World}{g b B5 nl c n:Nat}{A:Option Addr}{t:List Nat}{x:Int}{v:Value}{xs:List Value}(HF:Hid (HoldsLn w0 g b B5 nl c A t x)) (H:HoldLn w0 g b B5 nl c A t x W) (hr:W.ownsRow w0.heap.size 185 2 v n xs) (hg:W.grownBy W' v.ownBlock):HoldLn w0 g b B5 nl c A t x W' :=
 HF.out _ ((hg.block B5 (Array.getElem?_eq_some_iff.1 H.row).1 (key_apart H.row hr)).trans H.row) (H.below.grown hg H.below.size (fun k hk=>(World.ownsRow.lt hr k hk).1))
theorem keysrow_apart {w:World}{b1 b2 n m:Nat}{v u:Value}{xs ys:List Value}(h:w.ownsRow b1 139 6 v m ys) (k:w.ownsRow b2 185 2 u n xs):v.ownBlock=none∨v.ownBlock≠u.ownBlock:=by
 cases hv:v.ownBlock with
 | none=>exact .inl rfl
 | some g =>
  refine .inr fun e=>?_;obtain⟨c,fz,hc⟩:=Lib.ownsRow_kind h g hv;exact key_apart hc k e
theorem keys_form {w:World}{base n:Nat}{v:Value}{ts:List (List Nat)} (hn:ts.length=n) (h:w.ownsRow base 139 6 v n (cellsK ts)) :
  ∃ A c,v = .slice A n c∧∀ j,j < n→∃ gk,A=some ⟨gk,0,none⟩∧gk < w.heap.size∧∀ i,i < 6→w.cell? ⟨gk,j * 6+i,none⟩=some (szV (nthT ts j) i):=by
 obtain⟨_,⟨rfl,h0⟩ | ⟨g,cap,cur,rfl,hb,hh,hm,_,hs,ht⟩⟩:=h
 ·exact⟨none,0,by rw [h0],fun j hj=>by omega⟩
 refine⟨_,cap,rfl,fun j hj=>⟨g,rfl,(Array.getElem?_eq_some_iff.1 hh).1,fun i hi=>?_⟩⟩;rw [cell_of_row w g _ cur _ (0,0) hh];have e:=cellsK_get ts (j * 6+i) (by omega);rw [← ht,List.getElem?_take_of_lt (by omega),Array.getElem?_toList] at e;rw [e,show (j * 6+i) / 6=j by omega,show (j * 6+i) % 6=i by omega];have:nthT ts j=ts.getD j []:=rfl;rw [← this];rcases (by omega:i=0∨i=1∨i=2∨i=3∨i=4∨i=5) with rfl | rfl | rfl | rfl | rfl | rfl <;> rfl
theorem row_lessK {w:World}{base base' sz:Nat}{e:TypeId}{v:Value}{n:Nat}{xs:List Value}(h:w.ownsRow base e sz v n xs) (hb:base'≤base):w.ownsRow base' e sz v n xs:=by
 obtain⟨h1,⟨rfl,hn⟩ | ⟨g,cap,cur,rfl,hg,hh,hm,hx,hs,ht⟩⟩:=h
 ·exact⟨h1,.inl ⟨rfl,hn⟩⟩
 exact⟨h1,.inr ⟨g,cap,cur,rfl,by omega,hh,hm,hx,hs,ht⟩⟩
set_option maxRecDepth 100000 in
set_option maxHeartbeats 400000 in
theorem tplines_any (g b N c:Nat) (A:Option Addr) (l:List Nat) (k o:Int) (f:List Nat→Int) (w:World) (H:TpAt w g b A c N l k o f) (h6:l.length≤6) (h32:∀ n∈l,1≤n∧n≤32) (hN:N≤1000000) :
  Calls Tryz.prog 119 #[.pointer (some ⟨g,0,none⟩)] w fun e w'=>(∃ v,e = .returned v∧LinesAt w' w.heap.size v f (linesT l o f))∧Below w.heap.size w w':=by
 obtain⟨D,hown,hrep⟩:=H.map;have hsz:=size_lines hown hrep h6 h32;have hle:=hown.size_le;obtain⟨n,hn⟩:∃ n,(linesT l o f).length=n:=⟨_,rfl⟩
 rw [hn] at hsz;have hn6:n≤1000000:=by omega
 obtain⟨M,hM,hm⟩:=made_lines n hn6 w;have HT:=hid H;have HO:=hid hown;have HR:=hid hrep;have HS:=hid hsz;have HM:=hid hM;have H32:=hid h32;obtain⟨a0,a1,a2,a3⟩:=H.cells;clear H hown hrep hsz hle h32 a0 a1 a2;go_enter Tryz.func119,Tryz.ntmps119
 go_upto_region 3 with fail
 go_upto_region 4 with (at_len;refine wpList_len_own _ rfl _ 136 rfl 139 2 Tryz.underlying136 _ b N D rfl HO.out ?_;rw [HS.out])
 have n1:=new_val w (.cells M 185);have R0:Hid ((w.alloc (.cells M 185)).ownsRow w.heap.size 185 2 (.slice (some ⟨w.heap.size,0,none⟩) 0 n) 0 []):=hid (World.ownsRow_made w _ n (Nat.le_refl _) (by unfold maxLen;omega) HM.out);have T1:=hid (HT.out.below n1);have B1:=hid n1;have c1:=T1.out.cells.2.2.2;obtain⟨w1,hw1⟩:∃ w1,w.alloc (.cells M 185)=w1:=⟨_,rfl⟩
 have hz1:w1.heap.size=w.heap.size+1:=by rw [← hw1];simp
 rw [hw1] at R0 T1 B1 c1 ⊢;clear n1 hw1 hm a3;have O1:=hid ((HO.out.kept (grown_of_below B1.out) (by simp)));clear HO;have SK:Hid (Calls Tryz.prog 156 #[.func (.func 203) #[] #[.pointer (some ⟨w1.heap.size,0,none⟩)],.func (.func 158) #[] #[]] (w1.alloc (.cells #[.map (some b)] 136)) fun e W'=>(∃ v,e = .returned v∧W'.ownsRow w.heap.size 139 6 v n (cellsK (linesT l o f)))∧Below w1.heap.size w1 W') :=
  hid ((sortedK_any w1.heap.size b N l o f D HR.out h6 H32.out (w1.alloc (.cells #[.map (some b)] 136)) (by simp) (by rw [cell_of_row _ _ _ _ _ _ (heap_alloc_new w1 _)];rfl) (O1.out.alloc _) (by rw [HS.out];exact hn6)).mono fun e w2 h=>by
   obtain⟨⟨v,e1,hrow⟩,hb2⟩:=h;rw [hn] at hrow;exact⟨⟨v,e1,row_lessK hrow (by simp;omega)⟩,then_ (new_val w1 _) hb2⟩)
 have HZ1:=hid hz1;clear O1 HR HS hz1;go_upto_region 5 with (first
  | (go_at_call 157;refine (keys_any b _).mono ?_;rintro e w' ⟨rfl,rfl⟩)
  | (go_at_call 156;refine SK.out.mono ?_;rintro e w2 ⟨⟨v,rfl,hrow⟩,hb2⟩;obtain⟨AK,cK,rfl,_⟩:=keys_form hn hrow;have R2:=hid hrow;have B2:=hid hb2;clear hrow hb2))
 have L2:Hid (LinesAt w2 w.heap.size (.slice (some ⟨w.heap.size,0,none⟩) 0 n) f ((linesT l o f).take 0)):=hid ⟨[],by simp,by simpa [lineC] using (row_belowL R0.out B2.out (Nat.le_refl _)),fun p hp=>by simp at hp⟩;have BW:=hid (B1.out.trans (B2.out.mono (by rw [HZ1.out];omega)));clear R0 B1 B2 SK T1 c1;generalize w1.heap.size=bk;go_loopw [3,21] (fun v i wr=>∃ j:Nat,j≤n∧i = .int .i64 (j:Int)∧(∃ A' c',v = .slice A' j c'∧LinesAt wr w.heap.size (.slice A' j c') f ((linesT l o f).take j))∧wr.ownsRow w.heap.size 139 6 (.slice AK n cK) n (cellsK (linesT l o f))∧Below w.heap.size w wr) (fun _ i _=>n - (intOf i).toNat)
 case atStart=>exact⟨0,Nat.zero_le _,rfl,⟨_,_,rfl,L2.out⟩,R2.out,BW.out⟩
 case round =>
  obtain⟨j,hj,rfl,⟨A',c',rfl,hL⟩,hK,hB⟩:=hrel;have LR:=hid hL;have KR:=hid hK;have BR:=hid hB;have TR:=hid (HT.out.below hB);clear hL hK hB L2 BW;by_cases hlt:j < n
  rotate_left
  ·obtain rfl:n=j:=by omega
   have j1:¬ ((n:Int) < (n:Int)):=by omega
   have hfull:(linesT l o f).take n=linesT l o f:=List.take_of_length_le (by omega);rw [hfull] at LR;go_wp2_with fail
   go_ret;exact⟨⟨_,rfl,LR.out⟩,BR.out⟩
  obtain⟨AK',cK',e,hcells⟩:=keys_form hn KR.out;injection e with e1 e2 e3;subst e1 e3;obtain⟨gk,rfl,hgk,hc⟩:=hcells j hlt;obtain⟨t,ht⟩:∃ t,nthT (linesT l o f) j=t:=⟨_,rfl⟩
  rw [ht] at hc;have k0:wr.cell? ⟨gk,j * 6,none⟩=some (szV t 0):=hc 0 (by omega);have k1:=hc 1 (by omega);have k2:=hc 2 (by omega);have k3:=hc 3 (by omega);have k4:=hc 4 (by omega);have k5:=hc 5 (by omega);have HTT:=hid ht;clear hc hcells ht e2;have j1:(j:Int) < (n:Int):=by omega
  have j2:(0:Int)≤(j:Int):=by omega
  go_upto_region 7 with fail
  have hmem:InL l t∧f t≠o:=(linesT_mem (fun n hn=>(H32.out n hn).1) t).1 (by
   rw [← HTT.out];unfold nthT;rw [List.getD_eq_getElem?_getD,List.getElem?_eq_getElem (by omega)];exact List.getElem_mem _)
  have hu32:∀ n∈l,n≤32:=fun n hn=>(H32.out n hn).2;obtain⟨x,hx⟩:∃ x,f t=x:=⟨_,rfl⟩
  have n3:=new_val wr (.cells (kyC t) 139);have r3:=heap_alloc_new wr (.cells (kyC t) 139);have HF:Hid (HoldsLn w g b wr.heap.size l.length c A t x):=hid fun W hr hb=>by
   have TW:=HT.out.below hb;obtain⟨a0,a1,a2,a3⟩:=TW.cells;obtain⟨y0,y1,y2,y3,y4,y5⟩:=ky_cells hr;have hl:=TW.lookF hu32 hmem.1 hmem.2;rw [hx] at hl;exact⟨a0,a3,y0,y1,y2,y3,y4,y5,hl,hr,hb⟩
  obtain⟨ps,p0,p1,p2⟩:=LR.out;have hlen:((linesT l o f).take j).length=j:=by rw [List.length_take];omega
  rw [hlen] at p1;have W3:=hid (And.intro r3 (BR.out.trans (n3.mono BR.out.size)));have P1:=hid p1;have P2:=hid (And.intro p0 (And.intro p2 hx));have N3:=hid n3;have hl6:(l.length:Int)≤6:=by omega
  have hl0:(0:Int)≤(l.length:Int):=by omega
  have HL3:Hid (HoldLn w g b wr.heap.size l.length c A t x ((wr.alloc (.cells (kyC t) 139)).drew)):=hid (HF.out _ W3.out.1 W3.out.2.drew);have R3:Hid ((wr.alloc (.cells (kyC t) 139)).drew.ownsRow w.heap.size 185 2 (.slice A' j c') j (lineC f ps)):=hid (row_belowL (B:=wr.heap.size) P1.out n3.drew (Nat.le_refl _));have K3:Hid ((wr.alloc (.cells (kyC t) 139)).drew.ownsRow w.heap.size 139 6 (.slice (some ⟨gk,0,none⟩) n cK) n (cellsK (linesT l o f))):=hid (row_belowL (B:=wr.heap.size) KR.out n3.drew (Nat.le_refl _));have P3:Hid (∀ p∈ps,Own ((wr.alloc (.cells (kyC t) 139)).drew) w.heap.size p.1 p.2):=hid fun p hp=>(P2.out.2.1 p hp).below (B:=wr.heap.size) n3.drew (Nat.le_refl _);have HC:Hid (Calls Tryz.prog 35 #[.slice (some ⟨wr.heap.size,0,none⟩) l.length 6] ((wr.alloc (.cells (kyC t) 139)).drew) fun e w'=>∃ u,e = .returned u∧Own w' w.heap.size u t∧Below (wr.alloc (.cells (kyC t) 139)).drew.heap.size (wr.alloc (.cells (kyC t) 139)).drew w'):=hid (by
   refine (clone_any' _ l.length 6 t _ hmem.1.length.symm (by rw [hmem.1.length];omega) (.inr ⟨_,0,rfl,by show wr.heap.size < (wr.alloc _).heap.size;simp,fun i hi=>?_⟩)).mono ?_
   ·rw [hmem.1.length] at hi
    obtain⟨y0,y1,y2,y3,y4,y5⟩:=ky_cells W3.out.1;rcases (by omega:i=0∨i=1∨i=2∨i=3∨i=4∨i=5) with rfl | rfl | rfl | rfl | rfl | rfl <;> assumption
   ·rintro e w' ⟨⟨u,rfl,hu⟩,hb⟩
    exact⟨u,rfl,hu.less (by have:=BR.out.size;show w.heap.size≤(wr.alloc _).heap.size;simp;omega),hb⟩)
  have HMEM:=hid hmem;have hj6:j≤1000000:=by omega
  obtain⟨i0,hi0,hz0,hz1,hz2⟩:=info_parts info_line;clear n3 r3 p1 p2 hx hmem hu32 k0 k1 k2 k3 k4 k5 P1 LR KR;go_region_held_law (fun W=>HoldLn w g b wr.heap.size l.length c A t x W)
   (first | exact HL3.out | assumption | exact HoldLn.next HF (by assumption) hb4 | exact HoldLn.next HF (by assumption) (new_val _ _) | exact HoldLn.app HF (by assumption) ((row_belowL R3.out hb4 (Nat.le_refl _)).alloc _) hgrow)
   ((first
    | (go_at_call 35;refine HC.out.mono ?_;rintro e w4 ⟨u,rfl,hu4,hb4⟩;obtain⟨A4,c4,rfl,_⟩:=hu4.form)
    | (refine step_append_lies _ (by rfl) _ _ _ (by rfl) w.heap.size 185 i0 _ 2 32 Tryz.underlying182 hi0 hz0 hz1 hz2 rfl (by omega) (.slice A' j c') j (lineC f ps) (by rfl) ((row_belowL R3.out hb4 (Nat.le_refl _)).alloc _) ⟨w4.heap.size,0,none⟩ 1 1 [.slice A4 t.length c4,.int .i64 x] (by rfl) (by rfl) (World.news_of_block (cs:=#[.slice A4 t.length c4,.int .i64 x]) (t:=185) (fr:=(0,0)) (heap_alloc_new w4 _)) (by intro y hy;simp at hy;rcases hy with rfl | rfl <;> rfl) (by omega) (by unfold maxLen;omega) (by omega) (by have:=BR.out.size;have:=hb4.size;simp at *;omega) (w4.heap.size+1) (by simp) ?_;intro gg cap w5 hown5 hgrow hat hlt5)))
  all_goals
   have hnw:Below w4.heap.size w4 (w4.alloc (.cells #[.slice A4 t.length c4,.int .i64 x] 185)):=new_val w4 _;have FIN:Hid (LinesAt w5 w.heap.size (.slice (some ⟨gg,0,none⟩) (j+1) cap) f ((linesT l o f).take (j+1))∧w5.ownsRow w.heap.size 139 6 (.slice (some ⟨gk,0,none⟩) n cK) n (cellsK (linesT l o f))∧Below w.heap.size w w5):=by
    have hr4:=(row_belowL R3.out hb4 (Nat.le_refl _)).alloc (.cells #[.slice A4 t.length c4,.int .i64 x] 185);have hk4:=row_belowL (row_belowL K3.out hb4 (Nat.le_refl _)) hnw (Nat.le_refl _);obtain⟨p0,p2,hx⟩:=P2.out;have et:(linesT l o f).take (j+1)=(linesT l o f).take j++[t]:=by
     have hjl:j < (linesT l o f).length:=by omega
     rw [List.take_succ_eq_append_getElem hjl];congr 2
     rw [← HTT.out];simp [nthT,List.getD_eq_getElem?_getD,hjl]
    rw [et];rw [← hx] at hown5;refine hid ⟨LinesAt.push p0 (by rw [hlen];exact hr4) (fun p hp=>((P3.out p hp).below hb4 (Nat.le_refl _)).below hnw (Nat.le_refl _)) (hu4.below hnw (Nat.le_refl _)) (by rw [hlen];exact hown5) hgrow,World.ownsRow.kept hk4 hgrow (keysrow_apart hk4 hr4),?_⟩;have b4:Below w.heap.size w (w4.alloc (.cells #[.slice A4 t.length c4,.int .i64 x] 185)):=(W3.out.2.drew.trans (hb4.mono (W3.out.2.drew.size))).trans (hnw.mono (W3.out.2.drew.trans (hb4.mono (W3.out.2.drew.size))).size);exact b4.grown hgrow b4.size (fun k hk=>(World.ownsRow.lt hr4 k hk).1)
   clear hown5 hgrow hat hlt5 hb4 hu4 hnw P3 K3 R3 HC HL3 HF P2 N3 W3 TR BR;go_wp2_with fail
   go_roundw
   case rel=>exact⟨j+1,by omega,by go_num,⟨_,_,rfl,FIN.out.1⟩,FIN.out.2⟩
   case measure=>simp [intOf];omega
open Go.RowKit
def linesTo (l:List Nat) (o:Int) (f:List Nat→Int) (i:Nat):List (List Nat):=((List.range i).filter fun i=>decide (f (tupL l i)≠o)).map (tupL l)
theorem TabAt.congr {w:World}{g h:Nat}{l:List Nat}{k:Int}{z z':Nat→Int}(H:TabAt w g h l k z) (hz:∀ i,i < prodL l→z i=z' i):TabAt w g h l k z':=by
 obtain⟨cur,hc,h1,h2⟩:=H.costs;exact⟨H.row,cur,hc,h1,fun i hi=>by rw [← hz i hi];exact h2 i hi⟩
structure MdI (W2:World) (g h:Nat) (l:List Nat) (k:Int) (f:Nat→Int) (j:Nat) (W:World):Prop where
 tab:TabAt W g h l k (fun i=>if i < j then f i else 0)
 gr:W2.grownBy W (some h)
theorem zs_row64 {w:World}{base n:Nat}{A:Option Addr}{c:Nat}{z:Nat→Int}(h:w.ownsRow base 2 1 (.slice A n c) n (costL_Tb3 z n)):Zs w A n z:=by
 obtain⟨_,⟨e,hn⟩ | ⟨g,cap,cur,e,hb,hh,hm,_,hs,ht⟩⟩:=h
 ·exact .inl hn
 injection e with e1 e2 e3;subst e1;refine .inr ⟨g,0,rfl,(Array.getElem?_eq_some_iff.1 hh).1,fun i hi=>?_⟩;rw [Nat.zero_add,cell_of_row w g i cur 2 (0,0) hh];have e:(cur.toList.take (n * 1))[i]? = some (.int .i64 (z i)):=by rw [ht];simp [costL_Tb3,hi]
 rw [List.getElem?_take] at e;simpa [hi] using e
theorem row64_form {w:World}{base n:Nat}{v:Value}{xs:List Value}(h:w.ownsRow base 2 1 v n xs):∃ A c,v = .slice A n c:=by
 obtain⟨_,⟨rfl,hn⟩ | ⟨g,cap,cur,rfl,_,_,_,_,_,_⟩⟩:=h
 ·exact⟨none,0,by rw [hn]⟩
 exact⟨_,cap,rfl⟩
theorem entries_zs (g h P:Nat) (l:List Nat) (k:Int) (z:Nat→Int) (w:World) (H:TabAt w g h l k z) (hP:prodL l=P) (hn:P≤4096) :
  Calls Tryz.prog 28 #[.pointer (some ⟨g,0,none⟩)] w fun e w'=>(∃ A c,e = .returned (.slice A P c)∧Zs w' A P z)∧Below w.heap.size w w':=by
 subst hP;refine (entries_any g h l k z w H (by omega)).mono ?_;rintro e w' ⟨⟨v,rfl,hO⟩,hb⟩;obtain⟨A,c,rfl⟩:=row64_form hO;exact⟨⟨A,c,rfl,zs_row64 hO⟩,hb⟩
theorem sizes_ints (l:List Nat) (w:World) (h6:l.length≤6) :
  Calls Tryz.prog 48 #[shV l] w fun e w'=>(∃ A c,e = .returned (.slice A l.length c)∧Ints w' A l)∧Below w.heap.size w w':=by
 refine (sizes_any l w h6).mono ?_;rintro e w' ⟨⟨v,rfl,hO⟩,hb⟩;obtain⟨A,c,rfl,hI⟩:=hO.form;exact⟨⟨A,c,rfl,hI⟩,hb⟩
def RowsU (W:World) (b1 b2:Nat) (v:Value) (ts:List (List Nat)):Prop :=
 ∃ xs,W.ownsRow b1 41 1 v ts.length xs∧∀ j x,xs[j]? = some x→Own W b2 x (nthT ts j)
structure RlAt (l:List Nat) (o:Int) (f:List Nat→Int) (b:Nat) (w1:World) (base i:Nat) (v u:Value) (W:World):Prop where
 rows:RowsU W w1.heap.size base v (linesTo l o f i)
 costs:W.ownsRow w1.heap.size 2 1 u (linesTo l o f i).length (costL_Tb3 (fun j=>f (nthT (linesT l o f) j)) (linesTo l o f i).length)
 bel:Below w1.heap.size w1 W
end Go.Proofs.YtmokogkndbinlaaGreatDoor
namespace Go.Proofs.YtmokogkndbinlaaGreatDoor
open Go.Lib (hid)
attribute [local go_sem ↓] run_mn2
open Go.RowKit
end Go.Proofs.YtmokogkndbinlaaGreatDoor
namespace Go.Proofs.YtmokogkndbinlaaGreatDoor
open Go.Lib (hid)
open Go.RowKit Go.Maps
abbrev HoldTb (w0:World) (g nl c:Nat) (A:Option Addr) (k o:Int) (W:World):Prop :=
 W.cell? ⟨g,0,none⟩=some (.slice A nl c)∧W.cell? ⟨g,1,none⟩=some (.int .i64 k)∧W.cell? ⟨g,2,none⟩=some (.int .i64 o)∧Below w0.heap.size w0 W
theorem HoldTb.below {w0 W:World}{g nl c:Nat}{A:Option Addr}{k o:Int}(H:HoldTb w0 g nl c A k o W):Below w0.heap.size w0 W:=H.2.2.2
abbrev HoldsTb (w0:World) (g nl c:Nat) (A:Option Addr) (k o:Int):Prop:=∀ W,Below w0.heap.size w0 W→HoldTb w0 g nl c A k o W
theorem HoldTb.next {w0 W W':World}{g nl c:Nat}{A:Option Addr}{k o:Int}(HF:Hid (HoldsTb w0 g nl c A k o)) (H:HoldTb w0 g nl c A k o W) (hb:Below W.heap.size W W'):HoldTb w0 g nl c A k o W' :=
 HF.out _ (H.below.trans (hb.mono H.below.size))
theorem TpAt.holds {w:World}{g b:Nat}{A:Option Addr}{c N:Nat}{l:List Nat}{k o:Int}{f:List Nat→Int}(H:TpAt w g b A c N l k o f):Hid (HoldsTb w g l.length c A k o):=hid fun W hb=>by
 obtain⟨a0,a1,a2,a3⟩:=(H.below hb).cells;exact⟨a0,a1,a2,hb⟩
theorem walks_grown {W W':World}{h:Nat}{cur:Array Value}{e:TypeId}{fz:Nat × Nat}(hc:W.heap[h]? = some (.cells cur e fz)) (hg:W.grownBy W' (some h)):KeepsWalks W W' :=
 ⟨hg.size,fun k o hk ho=>(hg.block k (Array.getElem?_eq_some_iff.1 hk).1 (fun e=>by
  injection e with e;subst e;rw [hc] at hk;cases hk;cases ho)).trans hk⟩
def Come (left:Lit→Bool) (l:List Nat) (o:Int) (f:List Nat→Int) (z:Nat→Int):Prop:=∀ i,i < prodL l→z i=f (tupL l i)∨(z i=o∧left (keyL (tupL l i))=true)
theorem Come.start {D:DataW Unit}{l:List Nat}{o:Int}{f:List Nat→Int}(hrep:RepF D l o f) (hl:∀ n∈l,1≤n):Come (Maps.has D) l o f (fun _=>o):=fun i hi=>by
 rw [(hrep.1 _ (tupL_in hl i)).1];by_cases e:f (tupL l i)=o
 ·exact .inl e.symm
 exact .inr ⟨rfl,decide_eq_true e⟩
theorem Come.step {left:Lit→Bool}{l t:List Nat}{o:Int}{f:List Nat→Int}{z:Nat→Int}(H:Come left l o f z) (h6:l.length≤6) (h32:∀ n∈l,1≤n∧n≤32) (ht:InL l t):Come (fun y=>left y && !y.sameKey (keyL t)) l o f (fun i=>if i=numL l t then f t else z i):=fun i hi=>by
 by_cases e:i=numL l t
 ·left
  show (if i=numL l t then f t else z i)=_;rw [if_pos e,e,ht.tup]
 show (if i=numL l t then f t else z i)=_∨(if i=numL l t then f t else z i)=_∧_;rw [if_neg e];rcases H i hi with h | ⟨h1,h2⟩
 ·exact .inl h
 by_cases e2:keyL (tupL l i)=keyL t
 ·have h7:=keyL_inj h6 (fun n hn=>(h32 n hn).2) (tupL_in (fun n hn=>(h32 n hn).1) i) ht e2
  exact absurd (by rw [← h7,num_tup hi]) e
 refine .inr ⟨h1,?_⟩;show (left (keyL (tupL l i)) && !(keyL (tupL l i)).sameKey (keyL t))=true;rw [h2,sameKey_ne e2];rfl
theorem Come.done {left:Lit→Bool}{l:List Nat}{o:Int}{f:List Nat→Int}{z:Nat→Int}(H:Come left l o f z) (h0:∀ y,left y=false):∀ i,i < prodL l→z i=f (tupL l i):=fun i hi=>by
 rcases H i hi with h | ⟨h1,h2⟩
 ·exact h
 rw [h0] at h2;cases h2
theorem tab_congr {w:World}{g h:Nat}{l:List Nat}{k:Int}{z z':Nat→Int}(H:TabAt w g h l k z) (he:∀ i,i < prodL l→z i=z' i):TabAt w g h l k z':=by
 obtain⟨cur,h1,h2,h3⟩:=H.costs;exact⟨H.row,cur,h1,h2,fun i hi=>by rw [h3 i hi,he i hi]⟩
set_option maxRecDepth 100000 in
set_option maxHeartbeats 1000000 in
theorem tptable_ok (g b N c:Nat) (A:Option Addr) (l:List Nat) (k o:Int) (f:List Nat→Int) (w:World) (H:TpAt w g b A c N l k o f) (h6:l.length≤6) (h32:∀ n∈l,1≤n∧n≤32) (hp:prodL l≤4096) (ho:InK o k) (hfk:∀ t,InL l t→InK (f t) k) :
  Calls Tryz.prog 26 #[.pointer (some ⟨g,0,none⟩)] w fun e w'=>(∃ g' h',e = .returned (.tuple #[.pointer (some ⟨g',0,none⟩),.int .i64 0])∧TabAt w' g' h' l k (fun i=>f (tupL l i)))∧Below w.heap.size w w':=by
 have HF:=H.holds;have HT:=hid H;have HN:Hid (∀ W,Below w.heap.size w W→Calls Tryz.prog 84 #[.slice A l.length c,.int .i64 k,.int .i64 o] W fun e w'=>∃ g h,e = .returned (.tuple #[.pointer (some ⟨g,0,none⟩),.int .i64 0])∧TabAt w' g h l k (fun _=>o)∧W.heap.size≤g∧W.heap.size≤h∧Below W.heap.size W w') :=
  hid fun W hb=>tnew_ok A l.length c l k o W rfl h6 (H.below hb).ints h32 hp ho.1 ho.2.1 ho.2.2.1 ho.2.2.2
 have H32:=hid h32;have HFK:=hid hfk;have HO:=hid ho;clear H h32 hfk ho hp;go_enter Tryz.func26,Tryz.ntmps26
 go_upto_region 3 with fail
 go_region_held3 (fun W=>HoldTb w g l.length c A k o W) (first | exact HF.out _ ((Below.refl _ _).drew) | assumption | exact HoldTb.next HF (by assumption) (by assumption))
  ((go_at_call 84;refine (HN.out _ (HoldTb.below (by assumption))).mono ?_;rintro e w1 ⟨gt,ht,rfl,hT1,hg1,hh1,b1⟩))
 have B1:Hid (Below w.heap.size w w1):=hid (HoldTb.below (by assumption));have T1:=hid hT1;have P1:=hid (HT.out.below B1.out);have hh1':w.heap.size≤ht:=hh1;have hg1':w.heap.size≤gt:=hg1;obtain⟨D,hown,hrep⟩:=P1.out.map;have HR:=hid hrep;have HO1:=hid hown;have a3:=P1.out.cells.2.2.2;clear hT1 hg1 hh1 hown hrep HN;go_wp2_with (first | (at_range;refine wpList_range_own _ rfl _ 136 rfl 139 2 keyed Tryz.underlying136 _ b N D rfl HO1.out ?_;intro w0 hrg0 hg0 hs0) | go_in)
 have hT0:=T1.out;have B0:Hid (Below w.heap.size w w0):=hid (B1.out.grown hg0 B1.out.size (fun k hk=>by cases hk));have T0:Hid (TabAt w0 gt ht l k (fun _=>o)):=by
  obtain⟨cur,c1,c2,c3⟩:=hT0.costs;exact hid ⟨(hg0.block gt (Array.getElem?_eq_some_iff.1 hT0.row).1 (by simp)).trans hT0.row,cur,(hg0.block ht (Array.getElem?_eq_some_iff.1 c1).1 (by simp)).trans c1,c2,c3⟩
 have hbr:b < w1.heap.size:=P1.out.lt;have hgt:gt < w1.heap.size:=(Array.getElem?_eq_some_iff.1 hT0.row).1;have hht:ht < w1.heap.size:=by obtain⟨cur,c1,_⟩:=hT0.costs;exact (Array.getElem?_eq_some_iff.1 c1).1
 have hwr:w.heap.size≤w1.heap.size:=B1.out.size;clear hT0 T1 hg0 hs0 a3 HO1;go_frame
 go_loopw [34] (fun _ wr=>∃ (left:Lit→Bool) (cnt:Nat) (z:Nat→Int),wr.ranges Tryz.prog 139 (plainElem Tryz.prog 2) b w1.heap.size N D left cnt∧Come left l o f z∧TabAt wr gt ht l k z∧Below w.heap.size w wr)
  (fun _ wr=>wr.rangeLeft b w1.heap.size)
 case atStart=>exact⟨_,_,_,hrg0,Come.start HR.out (fun n hn=>(H32.out n hn).1),T0.out,B0.out⟩
 case round =>
  obtain⟨left,cnt,z,hrg,hC,hT,hB⟩:=hrel;have HC:=hid hC;have TR:=hid hT;have BR:=hid hB;clear hC hT hB T0 B0 hrg0;go_wp2_with (first
   | (at_next;refine wpList_next_ranges _ rfl _ rfl 139 keyed (plainElem Tryz.prog 2) id (Value.int .i64) (fun key kl hk=>⟨key,rfl⟩) (fun v y hv=>by obtain⟨c,rfl,_⟩:=plainElem_int_inv Tryz.underlying2 hv;exact⟨c,rfl⟩) b w1.heap.size N D left cnt rfl hrg ?_ ?_)
   | go_in)
  ·intro hc0 hl0
   have TF:=hid (tab_congr TR.out (HC.out.done hl0));go_wp2_with fail
   go_ret2;exact⟨⟨_,_,rfl,TF.out⟩,BR.out⟩
  intro x cc kl yd yp w2 cnt2 hkey hlk hv hat hrg2 hlt hg2 hs2 hen;have hhas:Maps.has D kl=true:=has_true_of_atKey hat;obtain⟨t,hin,rfl⟩:=HR.out.2 kl hhas;obtain rfl:x=keyV t:=keyed.inj hkey (keyOf_key (hin.small fun n hn=>(H32.out n hn).2));obtain⟨c',e1,hc1,_⟩:=plainElem_int_inv Tryz.underlying2 hv;have hfo:f t≠o:=by
   have:=(HR.out.1 t hin).1;rw [hhas] at this;exact of_decide_eq_true this.symm
  obtain rfl:cc=f t:=by
   injection e1 with _ e1;have h1:=hat (.lit (.int .i64 0));rw [(HR.out.1 t hin).2 hfo,(Prod.mk.inj hc1).1] at h1;have:=(Lit.int.inj (DataW.lit.inj h1)).2;omega
  have TR2:Hid (TabAt w2 gt ht l k z):=by
   obtain⟨cur,c1,c2,c3⟩:=TR.out.costs;exact hid ⟨(hg2.block gt (Array.getElem?_eq_some_iff.1 TR.out.row).1 (fun e=>by injection e;omega)).trans TR.out.row,cur,(hg2.block ht (Array.getElem?_eq_some_iff.1 c1).1 (fun e=>by injection e;omega)).trans c1,c2,c3⟩
  have B2:Hid (Below w.heap.size w w2):=hid (BR.out.grown hg2 BR.out.size (fun k hk=>by injection hk;omega));have n3:=new_val w2 (.cells (kyC t) 139);have T3:=hid (TR2.out.below n3);have B3:=hid (B2.out.trans (n3.mono B2.out.size));have hrg3:=hrg2.alloc (.cells (kyC t) 139);obtain⟨y0,y1,y2,y3,y4,y5⟩:=ky_cells (heap_alloc_new w2 (.cells (kyC t) 139));have hlen:=hin.length;have PUT:Hid (Calls Tryz.prog 58 #[.pointer (some ⟨gt,0,none⟩),.slice (some ⟨w2.heap.size,0,none⟩) l.length 6,.int .i64 (f t)] (w2.alloc (.cells (kyC t) 139)) fun e w'=>e = .returned (.int .i64 0)∧TabAt w' gt ht l k (fun i=>if i=numL l t then f t else z i)∧(w2.alloc (.cells (kyC t) 139)).grownBy w' (some ht)) :=
   hid (tput_ok gt ht (some ⟨w2.heap.size,0,none⟩) l.length 6 (numL l t) l t k (f t) z _ T3.out hlen.symm h6 (fun n hn=>(H32.out n hn).2) (.inr ⟨_,0,rfl,by simp,fun i hi=>by
    rw [hlen] at hi;rcases (by omega:i=0∨i=1∨i=2∨i=3∨i=4∨i=5) with rfl | rfl | rfl | rfl | rfl | rfl <;> assumption⟩) hin rfl hin.num_lt HO.out.1 HO.out.2.1 (HFK.out t hin).2.2.1 (HFK.out t hin).2.2.2)
  have C2:=hid (HC.out.step h6 H32.out hin);have a0:=(HF.out _ B3.out).1;have hl6:(l.length:Int)≤6:=by omega
  have hl0:(0:Int)≤(l.length:Int):=by omega
  obtain⟨cur,hcur,_⟩:=T3.out.costs;have HCU:=hid hcur;clear hs2 hg2 hat hc1 e1 hv hkey hhas hfo hlen hin n3 y0 y1 y2 y3 y4 y5 TR TR2 BR B2 hlk hcur hgt hht;go_upto_region 9 with ((with_reducible show wpList _ _ _ (Oper.mk none (.store 139 _ _) _ _ _ _::_) _ _);refine wpList_store_row rfl 139 (.tmp 6) (.tmp 37) rfl w2.heap.size (kyC t) rfl rfl 139 kyZ (heap_alloc_new _ _) (by kernel_rfl) rfl (ky_one t) ?_;rw [World.setRow_alloc_new])
  go_wp2_with fail
  refine PUT.out.mono ?_;rintro e w4 ⟨rfl,hT4,hg4⟩;have T4:=hid hT4;have hrg4:=hrg3.of_walks (walks_grown HCU.out hg4);have B4:=hid (B3.out.grown hg4 B3.out.size (fun k hk=>by injection hk;omega));clear hT4 hg4 PUT;go_wp2_with fail
  go_roundw
  case rel=>exact⟨_,cnt2,_,hrg4,C2.out,T4.out,B4.out⟩
  case measure=>rw [hrg4.left_eq,hrg.left_eq];exact hlt
open Go.RowKit Go.Shelf
def cntZ (z:Nat→Int) (m:Nat) (c:Int):Nat:=(zL z m).count c
theorem cntZ_succ (z:Nat→Int) (m:Nat) (c:Int):cntZ z (m+1) c=cntZ z m c+if z m=c then 1 else 0:=by
 unfold cntZ zL;rw [List.range_succ,List.map_append,List.count_append];simp [List.count_cons]
theorem cntZ_le (z:Nat→Int) (m:Nat) (c:Int):cntZ z m c≤m:=by
 have:=List.count_le_length (a:=c) (l:=zL z m);rw [zL_len] at this;exact this
theorem cntZ_pos {z:Nat→Int}:∀ {m:Nat}{c:Int},0 < cntZ z m c→∃ i,i < m∧z i=c
 | 0,c,h=>absurd h (Nat.lt_irrefl _)
 | m+1,c,h=>by
  rw [cntZ_succ] at h;by_cases e:z m=c
  ·exact⟨m,by omega,e⟩
  rw [if_neg e] at h;obtain⟨i,hi,hz⟩:=cntZ_pos (m:=m) (c:=c) (by omega);exact⟨i,by omega,hz⟩
def IsMost (z:Nat→Int) (m:Nat) (b:Int):Prop:=0 < cntZ z m b∧(∀ c,cntZ z m c≤cntZ z m b)∧∀ c,cntZ z m c=cntZ z m b→b≤c
def sZ (z:Nat→Int) (m i:Nat):Int:=(sortZ z m).getD i 0
theorem sZ_list (z:Nat→Int) (m:Nat):zL (sZ z m) m=sortZ z m:=by
 refine List.ext_getElem (by rw [zL_len,sortZ_len]) fun i h1 h2=>?_;simp [zL,sZ,List.getD_eq_getElem?_getD,List.getElem?_eq_getElem h2]
theorem sZ_cnt (z:Nat→Int) (m:Nat) (c:Int):cntZ (sZ z m) m c=cntZ z m c:=by
 unfold cntZ;rw [sZ_list];exact (List.mergeSort_perm _ _).count_eq c
theorem sZ_rise (z:Nat→Int) (m:Nat) {i j:Nat}(h:i≤j) (hj:j < m):sZ z m i≤sZ z m j:=by
 have hs:(sortZ z m).Pairwise fun x y=>decide (x≤y)=true:=List.pairwise_mergeSort (fun a b c h1 h2=>by simp at *;omega) (fun a b=>by simp;omega) _;by_cases e:i=j
 ·subst e;exact Int.le_refl _
 have hl:=sortZ_len z m;have:=List.pairwise_iff_getElem.1 hs i j (by omega) (by omega) (by omega);unfold sZ;rw [List.getD_eq_getElem?_getD,List.getD_eq_getElem?_getD,List.getElem?_eq_getElem (by omega),List.getElem?_eq_getElem (by omega)];simpa using this
structure MostI (s:Nat→Int) (i:Nat) (best:Int) (longest run:Nat):Prop where
 frun:∀ j,j+1=i→run=cntZ s i (s j)
 zero:i=0→run=0∧longest=0∧best=0
 le:∀ c,cntZ s i c≤longest
 has:0 < i→0 < longest∧cntZ s i best=longest
 least:∀ c,0 < i→cntZ s i c=longest→best≤c
theorem mostI_zero (s:Nat→Int):MostI s 0 0 0 0:=⟨fun j h=>by omega,fun _=>⟨rfl,rfl,rfl⟩,fun c=>Nat.le_refl _,fun h=>absurd h (Nat.lt_irrefl _),fun c h=>absurd h (Nat.lt_irrefl _)⟩
theorem MostI.runs {s:Nat→Int}{i m:Nat}{best:Int}{longest run:Nat}(H:MostI s i best longest run) (hs:∀ a b,a≤b→b < m→s a≤s b) (hi:i < m) :
  (i=0→cntZ s i (s i)=0)∧(∀ j,j+1=i→s j=s i→run=cntZ s i (s i))∧(∀ j,j+1=i→s j≠s i→cntZ s i (s i)=0):=by
 refine⟨fun e=>by subst e;rfl,fun j hj e=>by rw [← e];exact H.frun j hj,fun j hj e=>?_⟩;rcases Nat.eq_zero_or_pos (cntZ s i (s i)) with h | h
 ·exact h
 obtain⟨q,hq,e2⟩:=cntZ_pos h;have h1:=hs q j (by omega) (by omega);have h2:=hs j i (by omega) hi;omega
theorem MostI.step {s:Nat→Int}{i m:Nat}{best:Int}{longest run:Nat}(H:MostI s i best longest run) (hs:∀ a b,a≤b→b < m→s a≤s b) (hi:i < m) {r:Nat}(hr:r=cntZ s i (s i)+1) :
  (longest < r→MostI s (i+1) (s i) r r)∧(¬ longest < r→MostI s (i+1) best longest r):=by
 have hc:∀ c,cntZ s (i+1) c=cntZ s i c+if s i=c then 1 else 0:=cntZ_succ s i
 have hci:cntZ s (i+1) (s i)=r:=by rw [hc,if_pos rfl,hr]
 constructor
 ·intro h
  refine⟨fun j hj=>(by
   have e:j=i:=(by omega)
   rw [e];exact hci.symm),fun e=>(by omega),fun c=>?_,fun _=>⟨by omega,hci⟩,fun c _ he=>?_⟩
  ·by_cases e:s i=c
   ·subst e;omega
   rw [hc,if_neg e];have:=H.le c;omega
  by_cases e:s i=c
  ·omega
  rw [hc,if_neg e] at he;have:=H.le c;omega
 intro h;have hi0:0 < i:=by
  rcases Nat.eq_zero_or_pos i with e | e
  ·have:=(H.zero e).2.1
   omega
  exact e
 have hb:=H.has hi0;have hne:s i≠best:=fun e=>by
  have:=hb.2;rw [← e] at this;omega
 refine⟨fun j hj=>(by
  have e:j=i:=(by omega)
  rw [e];exact hci.symm),fun e=>(by omega),fun c=>?_,fun _=>⟨hb.1,by rw [hc,if_neg hne];exact hb.2⟩,fun c _ he=>?_⟩
 ·by_cases e:s i=c
  ·subst e;omega
  rw [hc,if_neg e];exact H.le c
 by_cases e:s i=c
 ·obtain⟨q,hq,e2⟩:=cntZ_pos (z:=s) (m:=i) (c:=best) (by omega)
  have:=hs q i (by omega) hi;omega
 rw [hc,if_neg e] at he;exact H.least c hi0 he
theorem MostI.done {z:Nat→Int}{m:Nat}{best:Int}{longest run:Nat}(H:MostI (sZ z m) m best longest run) (hm:0 < m):IsMost z m best:=by
 have hb:=H.has hm;have e1:=sZ_cnt z m best;refine⟨by omega,fun c=>(by have e2:=sZ_cnt z m c;have:=H.le c;omega),fun c he=>H.least c hm (by have e2:=sZ_cnt z m c;omega)⟩
set_option maxRecDepth 100000 in
set_option maxHeartbeats 1000000 in
theorem tpmost_any (A:Option Addr) (m c:Nat) (z:Nat→Int) (w:World) (hm1:1≤m) (hm4:m≤100000) (hA:Zs w A m z) :
  Calls Tryz.prog 142 #[.slice A m c] w fun e w'=>(∃ b,e = .returned (.int .i64 b)∧IsMost z m b)∧Below w.heap.size w w':=by
 have C:=hid (sorted64_any w.heap.size m c A z (w.alloc (.cells #[.slice A m c] 34)) hm1 hm4 (by simp) (lit_new _ _ _) (hA.below (new_val w _) (Nat.le_refl _)));clear hA;go_enter Tryz.func142,Tryz.ntmps142
 go_wp2_with fail
 refine (values64_any A m c w).mono ?_;rintro e w' ⟨rfl,rfl⟩;go_wp2_with fail
 refine C.out.mono ?_;rintro e w' ⟨⟨v,rfl,hO⟩,hb⟩;have B:=hid (then_ (new_val w _) hb);have hO':w'.ownsRow (w.alloc (.cells #[.slice A m c] 34)).heap.size 2 1 v m (costL_Tb3 (sZ z m) m):=by rw [← zL_costs,sZ_list];exact hO
 obtain⟨A1,c1,rfl⟩:=row64_form hO';have ZS:=hid (zs_row64 hO');have RS:=hid (fun a b (h:a≤b) (hb:b < m)=>sZ_rise z m h hb);have DN:=hid (fun best longest run (H:MostI (sZ z m) m best longest run)=>H.done (by omega));clear hb hO hO' C;generalize sZ z m=s at ZS RS DN;go_wp2_with fail
 go_loopw [3,4,5,7,8,14] (fun best longest run _ _ i wr=>∃ (j L R:Nat) (b:Int),j≤m∧i = .int .i64 (j:Int)∧best = .int .i64 b∧longest = .int .i64 (L:Int)∧run = .int .i64 (R:Int)∧MostI s j b L R∧wr=w') (fun _ _ _ _ _ i _=>m - (intOf i).toNat)
 case atStart=>exact⟨0,0,0,0,Nat.zero_le _,rfl,rfl,rfl,rfl,mostI_zero s,rfl⟩
 case round =>
  obtain⟨j,L,R,b,hj,rfl,rfl,rfl,rfl,hM,rfl⟩:=hrel;have HM:=hid hM;clear hM;by_cases hlt:j < m
  rotate_left
  ·have i1:¬ ((j:Int) < (m:Int)):=by omega
   obtain rfl:m=j:=by omega
   have F:=hid (DN.out _ _ _ HM.out);go_wp2_with fail
   go_ret;exact⟨⟨b,rfl,F.out⟩,B.out⟩
  have i1:(j:Int) < (m:Int):=by omega
  have i2:(0:Int)≤(j:Int):=by omega
  obtain⟨r1,r2,r3⟩:=HM.out.runs RS.out hlt;obtain⟨r,hr⟩:∃ r,cntZ s j (s j)+1=r:=⟨_,rfl⟩
  obtain⟨s1,s2⟩:=HM.out.step RS.out hlt hr.symm;have S1:=hid s1;have S2:=hid s2;have hrb:r≤m:=by have:=cntZ_le s j (s j);omega
  obtain⟨g,o,rfl,hc⟩:=ZS.out.at_ hlt;have hgo:Hid (∀ i,i < m→wr.cell? ⟨g,o+i,none⟩=some (.int .i64 (s i))):=hid fun i hi=>by
   obtain⟨g',o',e,hc'⟩:=ZS.out.at_ hi;injection e with e;injection e with e1 e2 _;subst e1 e2;exact hc'
  have FIN:Hid (∀ (R0:Nat),(R0:Int)+1=(r:Int)→True):=hid fun _ _=>trivial;rcases Nat.eq_zero_or_pos j with h0 | hpos
  ·have hR:R=0:=(HM.out.zero h0).1
   have hr1:r=1:=by have:=r1 h0;omega
   have hL:L=0:=(HM.out.zero h0).2.1;subst h0 hR hr1 hL;have S:=hid (S1.out (by omega));clear r1 r2 r3 s1 s2 S1 S2 hr HM FIN;rw [Nat.add_zero] at hc;generalize s 0=x at hc S;go_wp2_with fail
   go_roundw
   case rel=>exact⟨1,1,1,x,by omega,by go_num,rfl,by go_num,by go_num,S.out,by first | rfl | trivial⟩
   case measure=>simp [intOf];omega
  obtain⟨p,hp⟩:∃ p,j=p+1:=⟨j - 1,by omega⟩
  have cp:=hgo.out p (by omega);have e1:IntKind.i64.wrap ((j:Int) - 1)=(p:Int):=by rw [IntWalk.i64_in _ (by omega)];omega
  have i3:(0:Int) < (j:Int):=by omega
  have i4:(p:Int) < (m:Int):=by omega
  have i5:(0:Int)≤(p:Int):=by omega
  have HPJ:=hid hp.symm;clear hp hpos;by_cases he:s p=s j
  ·have d:(s p != s j)=false:=by simp [he]
   have hR:R+1=r:=by have:=r2 p HPJ.out he;omega
   have d2:IntKind.i64.wrap ((R:Int)+1)=(r:Int):=by rw [IntWalk.i64_in _ (by omega)];omega
   generalize s p=xp at cp d;generalize s j=x at hc S1 d;clear r1 r2 r3 s1 s2 he hr HM FIN hgo;by_cases hL:L < r
   ·have i6:(L:Int) < (r:Int):=by omega
    have S:=hid (S1.out hL);go_wp2_with fail
    go_roundw
    case rel=>exact⟨j+1,r,r,x,by omega,by go_num,rfl,rfl,rfl,S.out,by first | rfl | trivial⟩
    case measure=>simp [intOf];omega
   have i6:¬ (L:Int) < (r:Int):=by omega
   have S:=hid (S2.out hL);go_wp2_with fail
   go_roundw
   case rel=>exact⟨j+1,L,r,b,by omega,by go_num,rfl,rfl,rfl,S.out,by first | rfl | trivial⟩
   case measure=>simp [intOf];omega
  have d:(s p != s j)=true:=by simpa using he
  have hr1:r=1:=by have:=r3 p HPJ.out he;omega
  subst hr1;generalize s p=xp at cp d;generalize s j=x at hc S1 d;clear r1 r2 r3 s1 s2 he hr HM FIN hgo;by_cases hL:L < 1
  ·have i6:(L:Int) < 1:=by omega
   have S:=hid (S1.out hL);go_wp2_with fail
   go_roundw
   case rel=>exact⟨j+1,1,1,x,by omega,by go_num,rfl,by go_num,by go_num,S.out,by first | rfl | trivial⟩
   case measure=>simp [intOf];omega
  have i6:¬ (L:Int) < 1:=by omega
  have S:=hid (S2.out hL);go_wp2_with fail
  go_roundw
  case rel=>exact⟨j+1,L,1,b,by omega,by go_num,rfl,rfl,by go_num,S.out,by first | rfl | trivial⟩
  case measure=>simp [intOf];omega
structure BestI (z:Nat→Int) (m j:Nat) (b:Int) (T:Nat):Prop where
 zero:j=0→T=0∧b=0
 le:∀ i,i < j→cntZ z m (z i)≤T
 has:0 < j→0 < T∧cntZ z m b=T
 least:∀ i,i < j→cntZ z m (z i)=T→b≤z i
end Go.Proofs.YtmokogkndbinlaaGreatDoor
