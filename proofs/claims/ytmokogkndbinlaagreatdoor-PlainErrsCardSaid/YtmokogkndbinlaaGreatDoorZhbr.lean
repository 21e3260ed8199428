import Derived.Test.YtmokogkndbinlaaGreatDoorZhbq
set_option linter.all false
namespace Go.Proofs.YtmokogkndbinlaaGreatDoor
open Go.Lib (hid)
attribute [local go_sem] Oper.semAt_some
open Go.RowKit Go.Shelf
theorem plsame_any (fb cs cf fb' cs' cf':Nat) (X X':ByteArray) (k k':Int) (sizes sizes':List Nat) (fs gs:List FunM) (As Af As' Af':Option Addr) (w:World) (H:FileR w fb X k sizes fs As Af cs cf) (H':FileR w fb' X' k' sizes' gs As' Af' cs' cf') (hr:RightF X k sizes fs) (hr':RightF X' k' sizes' gs) :
  Calls Tryz.prog 17 #[.pointer (some ⟨fb,0,none⟩),.pointer (some ⟨fb',0,none⟩)] w fun e w'=>∃ b:Bool,e = .returned (.bool b)∧(b=true↔(X=X'∧k=k'∧sizes=sizes')∧SmL k sizes fs gs)∧Below w.heap.size w w':=by
 by_cases hx:X=X'
 rotate_left
 ·refine (plsame_name fb cs cf fb' cs' cf' X X' k k' sizes sizes' fs gs As Af As' Af' w H H' hx).mono ?_
  rintro e w' ⟨rfl,h⟩;exact⟨false,rfl,⟨fun h=>absurd h (by decide),fun h=>absurd h.1.1 hx⟩,h⟩
 by_cases hk:k=k'
 rotate_left
 ·refine (plsame_top fb cs cf fb' cs' cf' X X' k k' sizes sizes' fs gs As Af As' Af' w H H' hx hk).mono ?_
  rintro e w' ⟨rfl,h⟩;exact⟨false,rfl,⟨fun h=>absurd h (by decide),fun h=>absurd h.1.2.1 hk⟩,h⟩
 by_cases hs:sizes=sizes'
 ·subst hx hk hs
  refine (plsame_funs fb cs cf fb' cs' cf' X k sizes fs gs As Af As' Af' w H H' hr hr').mono ?_;rintro e w' ⟨b,rfl,hb,h⟩;exact⟨b,rfl,hb.trans ⟨fun h=>⟨⟨rfl,rfl,rfl⟩,h⟩,fun h=>h.2⟩,h⟩
 refine (plsame_size fb cs cf fb' cs' cf' X X' k k' sizes sizes' fs gs As Af As' Af' w H H' hx hk hs (by have:=hr.n;omega)).mono ?_;rintro e w' ⟨rfl,h⟩;exact⟨false,rfl,⟨fun h=>absurd h (by decide),fun h=>absurd h.1.2.2 hs⟩,h⟩
theorem I6.zs {W:World}{A:Option Addr}{l:List Nat}(h:I6 W A l):Zs W A l.length (fun i=>(nth l i:Int)):=by
 rcases h with rfl | ⟨g,o,cur,fr,rfl,hg,hc⟩
 ·exact .inl rfl
 exact .inr ⟨g,o,rfl,(Array.getElem?_eq_some_iff.1 hg).1,hc⟩
theorem eq64_len (A A2:Option Addr) (n c n2 c2:Nat) (w:World) (h:n≠n2) :
  Calls Tryz.prog 27 #[.slice A n c,.slice A2 n2 c2] w fun e w'=>e = .returned (.bool false)∧Below w.heap.size w w':=by
 have e1:((n:Int) != (n2:Int))=true:=by rw [bne_iff_ne];omega
 go_enter Tryz.func27,Tryz.ntmps27
 go_wp2
 go_ret;exact⟨rfl,Below.refl _ _⟩
theorem eq6_any (A A2:Option Addr) (c c2:Nat) (l l2:List Nat) (w:World) (hl:l.length≤1000000) (hw:I6 w A l) (hw2:I6 w A2 l2) :
  Calls Tryz.prog 27 #[.slice A l.length c,.slice A2 l2.length c2] w fun e w'=>e = .returned (.bool (decide (l=l2)))∧Below w.heap.size w w':=by
 by_cases hlen:l.length=l2.length
 rotate_left
 ·refine (eq64_len A A2 _ c _ c2 w hlen).mono ?_
  rintro e w' ⟨rfl,hb⟩;rw [decide_eq_false (fun h=>hlen (by rw [h]))];exact⟨rfl,hb⟩
 have h2:=hw2.zs;rw [← hlen] at h2 ⊢;refine (eq64_any A A2 l.length c c2 _ _ w hl hw.zs h2).mono ?_;rintro e w' ⟨⟨r,rfl,hr⟩,hb⟩;refine⟨?_,hb⟩;have:r=decide (l=l2):=by
  rw [Bool.eq_iff_iff,decide_eq_true_iff];refine hr.trans ⟨fun h=>nth_eq hlen fun i hi=>by have:=h i hi;simp only at this;omega,fun h=>by subst h;exact fun i _=>rfl⟩
 rw [this]
theorem FileD.bits {W:World}{xb base:Nat}{s:ByteArray}{F:FileM}(h:FileD W xb base s F):∃ Az cz Ax cx,W.heap[xb]? = some (.cells #[.string (s.extract F.name.1 F.name.2),.int .i64 F.top,.slice Az F.sizes.length cz,.slice Ax F.funs.length cx] 37 (0,0))∧I6 W Az F.sizes:=by
 obtain⟨Az,cz,fv,us,h1,-,h2,h3,h4⟩:=h;obtain⟨Ax,cx,rfl,-⟩:=h3.form;rw [h4.1] at h1;exact⟨Az,cz,Ax,cx,h1,h2⟩
theorem I6.below {W W':World}{A:Option Addr}{l:List Nat}(h:I6 W A l) (hb:Below W.heap.size W W'):I6 W' A l :=
 h.keepG fun g _ _ hg=>hb.block g (Array.getElem?_eq_some_iff.1 hg).1
theorem holdPl_rows {W:World}{xb yb n m n' m':Nat}{X Y:ByteArray}{k k':Int}{As As' Af Af':Option Addr}{cs cs' cf cf':Nat}(h:W.heap[xb]? = some (.cells #[.string X,.int .i64 k,.slice As n cs,.slice Af m cf] 37 (0,0))) (h':W.heap[yb]? = some (.cells #[.string Y,.int .i64 k',.slice As' n' cs',.slice Af' m' cf'] 37 (0,0))) :
  HoldPl W xb yb X Y k k' n m n' m' As As' Af Af' cs cs' cf cf' W:=by
 refine⟨?_,?_,?_,?_,?_,?_,?_,?_,Below.refl _ _⟩ <;> first | (rw [cell_of_row _ _ _ _ _ _ h];rfl) | (rw [cell_of_row _ _ _ _ _ _ h'];rfl)
def SmP (k:Int) (sizes:List Nat) (fs gs:List FunM) (j:Nat):Prop:=∀ (i:Nat) f g,i < j→fs[i]? = some f→gs[i]? = some g→SmF k sizes f g
theorem smP_succ {k:Int}{sizes:List Nat}{fs gs:List FunM}{j:Nat}{f g:FunM}(hf:fs[j]? = some f) (hg:gs[j]? = some g):SmP k sizes fs gs (j+1)↔SmP k sizes fs gs j∧SmF k sizes f g:=by
 refine⟨fun h=>⟨fun i f g hi=>h i f g (by omega),h j f g (by omega) hf hg⟩,fun h i f' g' hi hf' hg'=>?_⟩;by_cases e:i=j
 rotate_left
 ·exact h.1 i f' g' (by omega) hf' hg'
 subst e;rw [hf] at hf';rw [hg] at hg';injection hf' with hf';injection hg' with hg';subst hf' hg';exact h.2
def AlkP (X Y:ByteArray) (k l:Int) (sizes sizes':List Nat) (m m':Nat):Prop:=X=Y∧k=l∧sizes=sizes'∧m=m'
theorem smP_all {X Y:ByteArray}{k l:Int}{sizes sizes':List Nat}{fs gs:List FunM}:(AlkP X Y k l sizes sizes' fs.length gs.length∧SmP k sizes fs gs fs.length)↔((X=Y∧k=l∧sizes=sizes')∧SmL k sizes fs gs):=by
 refine⟨fun h=>⟨⟨h.1.1,h.1.2.1,h.1.2.2.1⟩,h.1.2.2.2,fun i f g hf hg=>h.2 i f g (List.getElem?_eq_some_iff.1 hf).1 hf hg⟩,fun h=>⟨⟨h.1.1,h.1.2.1,h.1.2.2,h.2.1⟩,fun i f g _ hf hg=>h.2.2 i f g hf hg⟩⟩
abbrev HoldE (fb gb gf gg j:Nat) (V V' sv tv sv' tv':Value) (w W:World):Prop :=
 W.cell? ⟨fb,3,none⟩=some V∧W.cell? ⟨gb,3,none⟩=some V'∧W.cell? ⟨gf,j * 2,none⟩=some sv∧W.cell? ⟨gf,j * 2+1,none⟩=some tv∧W.cell? ⟨gg,j * 2,none⟩=some sv'∧W.cell? ⟨gg,j * 2+1,none⟩=some tv'∧Below w.heap.size w W
theorem holdE {fb gb gf gg j:Nat}{V V' sv tv sv' tv':Value}{w W W':World}(h:HoldE fb gb gf gg j V V' sv tv sv' tv' w W) (hb:Below W.heap.size W W'):HoldE fb gb gf gg j V V' sv tv sv' tv' w W':=by
 obtain⟨a,b,c,d,e,f,hB⟩:=h;have K:∀ b i v,W.cell? ⟨b,i,none⟩=some v→W'.cell? ⟨b,i,none⟩=some v:=fun b i v h=>(hb.cell (p:=⟨b,i,none⟩) (World.block_lt_of_cell? W _ h)).trans h;exact⟨K _ _ _ a,K _ _ _ b,K _ _ _ c,K _ _ _ d,K _ _ _ e,K _ _ _ f,hB.trans (hb.mono hB.size)⟩
theorem HoldE.below {fb gb gf gg j:Nat}{V V' sv tv sv' tv':Value}{w W:World}(h:HoldE fb gb gf gg j V V' sv tv sv' tv' w W):Below w.heap.size w W:=h.2.2.2.2.2.2
set_option maxRecDepth 100000 in
set_option maxHeartbeats 16000000 in
theorem errs_walk (a0 a1:Option Addr) (n0 c0 n1 c1:Nat) (z0 z1:Nat→Int) (X0:ByteArray) (same:Bool) (w:World) (hG:GlobR w) (hT:TabP w) (h0:n0≤c0) (hm0:(n0:Int)≤9223372036854775807) (hA0:a0=none→n0=0) (hz0:Bytes w a0 n0 z0)
  (h1:n1≤c1) (hm1:(n1:Int)≤9223372036854775807) (hA1:a1=none→n1=0) (hz1:Bytes w a1 n1 z1) (hX:(X0.size:Int)≤9223372036854775807) :
  Calls Tryz.prog 6 #[.slice a0 n0 c0,.slice a1 n1 c1,.string X0,.bool same] w fun e w'=>e = .returned (.bool true)∧Below w.heap.size w w':=by
 have AW:=hid (awake8_ok w hG hT);have RP:=hid (fun W (hb:Below w.heap.size w W)=>read8_any a0 n0 c0 z0 W (hG.below hb) (tab_below hT hb) h0 hm0 hA0 (hz0.below hb));have RQ:=hid (fun W (hb:Below w.heap.size w W)=>read8_any a1 n1 c1 z1 W (hG.below hb) (tab_below hT hb) h1 hm1 hA1 (hz1.below hb));clear hG hT h0 hm0 hA0 hz0 h1 hm1 hA1 hz1;go_enter Tryz.func6,Tryz.ntmps6
 go_upto_region 3 with (first | (go_at_call 13;refine AW.out.mono ?_;rintro e w1 ⟨rfl,hb⟩;have B1:=hid hb;clear hb) | fail)
 go_upto_if 26 with fail
 go_cut [1] from 26 to 27 (fun v1 wc=>wc=w1∧∃ aq nq cq,v1 = .slice aq nq cq∧Hid (∀ W,Below w.heap.size w W→Calls Tryz.prog 14 #[.slice aq nq cq] W (Read8 W)))
 case first =>
  cases same
  ·go_wp2_with fail
   go_meet
   case rel=>exact⟨rfl,a1,n1,c1,rfl,RQ⟩
  go_wp2_with fail
  go_meet
  case rel=>exact⟨rfl,a0,n0,c0,rfl,RP⟩
 obtain⟨rfl,aq,nq,cq,rfl,RR⟩:=hcut;clear RQ AW;have NIL:∀ W:World,Calls Tryz.prog 17 #[.pointer none,.pointer none] W fun e w'=>e = .returned (.bool true)∧W=w':=plsame_none;have NN:=hid NIL;clear NIL;go_upto_region 6 with (first | (go_at_call 14;refine (RP.out _ B1.out).mono ?_;rintro e w2 ⟨hr,hb⟩;have B2:=hid (B1.out.trans (hb.mono B1.out.size));clear hb;rcases hr with rfl | ⟨s,F,st,fb,As,Af,cs,cf,xb,base,hs4,hF1,hF2,rfl,hFR,hRR,hFD,hbx⟩) | fail)
 ·go_upto_region 7 with (first | (go_at_call 14;refine (RR.out _ B2.out).mono ?_;rintro e w3 ⟨hr,hb⟩;have B3:=hid (B2.out.trans (hb.mono B2.out.size));clear hb;rcases hr with rfl | ⟨s,F,st,fb,As,Af,cs,cf,xb,base,hs4,hF1,hF2,rfl,hFR,hRR,hFD,hbx⟩) | fail)
  ·go_wp2_with (first
    | (go_at_call 17;with_reducible refine (plsame_none _).mono ?_;rintro e w' ⟨rfl,rfl⟩)
    | (go_at_call 17;with_reducible refine (plsame_half _ _).mono ?_;rintro e w' ⟨rfl,rfl⟩)
    | fail)
   go_ret;exact⟨rfl,then_ B3.out (new_val _ _)⟩
  clear hs4 hF1 hF2 hFR hRR hFD hbx;go_wp2_with (first
   | (go_at_call 17;with_reducible refine (plsame_none _).mono ?_;rintro e w' ⟨rfl,rfl⟩)
   | (go_at_call 17;with_reducible refine (plsame_half _ _).mono ?_;rintro e w' ⟨rfl,rfl⟩)
   | fail)
  go_ret;exact⟨rfl,then_ B3.out (new_val _ _)⟩
 have F2:=hid hFR;have R2:=hid hRR;have D2:=hid hFD;clear hs4 hF1 hF2 hFR hRR hFD hbx;go_upto_region 7 with (first | (go_at_call 14;refine (RR.out _ B2.out).mono ?_;rintro e w3 ⟨hr,hb⟩;have B3:=hid (B2.out.trans (hb.mono B2.out.size));have N3:=hid hb;clear hb;rcases hr with rfl | ⟨s',G,st',fb',As',Af',cs',cf',xb',base',hs4,hF1,hF2,rfl,hFR,hRR,hFD,hbx⟩) | fail)
 ·clear F2 R2 D2
  go_wp2_with (first
   | (go_at_call 17;with_reducible refine (plsame_none _).mono ?_;rintro e w' ⟨rfl,rfl⟩)
   | (go_at_call 17;with_reducible refine (plsame_half _ _).mono ?_;rintro e w' ⟨rfl,rfl⟩)
   | fail)
  go_ret;exact⟨rfl,then_ B3.out (new_val _ _)⟩
 obtain⟨Az,cz,Ax,cx,hrow,hI⟩:=D2.out.bits;obtain⟨Az',cz',Ax',cx',hrow',hI'⟩:=hFD.bits;replace hrow:=(N3.out.block xb (Array.getElem?_eq_some_iff.1 hrow).1).trans hrow;replace hI:=hI.below N3.out;have hF3:=F2.out.below N3.out;have hR3:=R2.out;clear hs4 hF1 hF2 hFD hbx D2 F2 R2 N3;obtain⟨X,hX1⟩:∃ X,s.extract F.name.1 F.name.2=X:=⟨_,rfl⟩
 obtain⟨K,hK1⟩:∃ K,F.top=K:=⟨_,rfl⟩
 obtain⟨sz,hsz1⟩:∃ sz,F.sizes=sz:=⟨_,rfl⟩
 obtain⟨fs,hfs1⟩:∃ fs,F.funs=fs:=⟨_,rfl⟩
 obtain⟨Y,hX2⟩:∃ X,s'.extract G.name.1 G.name.2=X:=⟨_,rfl⟩
 obtain⟨L,hK2⟩:∃ K,G.top=K:=⟨_,rfl⟩
 obtain⟨tz,hsz2⟩:∃ sz,G.sizes=sz:=⟨_,rfl⟩
 obtain⟨gs,hfs2⟩:∃ fs,G.funs=fs:=⟨_,rfl⟩
 rw [hX1,hK1,hsz1,hfs1] at hrow hF3 hR3;rw [hsz1] at hI;rw [hX2,hK2,hsz2,hfs2] at hrow' hFR hRR;rw [hsz2] at hI';clear hX1 hK1 hsz1 hfs1 hX2 hK2 hsz2 hfs2;have FF:=hid hF3;have FG:=hid hFR;have RF:=hid hR3;have RG:=hid hRR;have H0:=hid (holdPl_rows hrow hrow');have EQ:=hid (fun W (hb:Below w3.heap.size w3 W)=>eq6_any Az Az' cz cz' sz tz W (by have:=hR3.n;omega) (hI.below hb) (hI'.below hb));clear hF3 hFR hR3 hRR hrow hrow' hI hI' B2 B1 RP RR;obtain⟨m,hm⟩:∃ m,fs.length=m:=⟨_,rfl⟩
 obtain⟨m',hm'⟩:∃ m,gs.length=m:=⟨_,rfl⟩
 obtain⟨n,hn⟩:∃ m,sz.length=m:=⟨_,rfl⟩
 obtain⟨n',hn'⟩:∃ m,tz.length=m:=⟨_,rfl⟩
 have HM:=hid hm;have HM':=hid hm';rw [hm,hm',hn,hn'] at H0;rw [hn,hn'] at EQ;have hm256:m≤256:=by have:=RF.out.nf;omega
 clear hn hn' hm hm';go_upto_region 9 with fail
 go_cut [13] from 59 to 102 (fun v13 wc=>∃ b:Bool,v13 = .bool b∧Hid (b=true↔AlkP X Y K L sz tz m m')∧Hid (Below w3.heap.size w3 wc))
 case first =>
  clear FF FG RF RG;refine wp_region_noPanic ?_;refine wp_region_held_drew (S:=HoldPl w3 xb xb' X Y K L n m n' m' Az Az' Ax Ax' cz cz' cx cx') (by kernel_rfl) (holdPl H0.out (Below.refl _ _).drew) (fun hHeld=>?_);clear H0;generalize w3.drew=wd at hHeld ⊢;by_cases hx:X=Y
  ·by_cases hk:K=L
   ·by_cases hs:sz=tz
    ·have dS:decide (sz=tz)=true:=decide_eq_true hs
     rw [dS] at EQ;by_cases hmm:m=m'
     ·have AA:Hid (AlkP X Y K L sz tz m m'):=hid ⟨hx,hk,hs,hmm⟩
      subst hx hk hmm;clear hs dS;refine wt 0 ?r101;refine wt 1 ?r102;refine wt 2 ?r103;refine wt 3 ?r104;refine wt 4 ?r105;refine wt 5 ?r106;refine wt 6 ?r107;refine wt 7 ?r108;refine wt 8 ?r109;refine wt 9 ?r110;refine wt 10 ?r111;refine wt 11 ?r112;refine wt 12 ?r113;refine wt 13 ?r114;refine wt 14 ?r115;refine wt 15 ?r116;refine wt 16 ?r117;refine wt 17 ?r118;refine wt 18 ?r119;refine wt 19 ?r120;refine wt 20 ?r121;refine wt 21 ?r122;refine wt 22 ?r123;refine wt 23 ?r124;refine wt 24 ?r125;refine wt 25 ?r126;refine wt 26 ?r127;refine wt 27 ?r128;refine wt 28 ?r129;refine wr1 29 (fun K hK=>?_);go_simp;refine (EQ.out _ (HoldPl.below hHeld)).mono ?_;rintro e wS ⟨rfl,hb⟩;refine hK.out _ _ (holdPl hHeld hb) (fun hHeld'=>?_);replace hHeld:=hHeld';clear hHeld';clear hb;clear hK K;try simp only [Act.put,pa,pb,pc,pd,pe,pf]
      refine wt 30 ?r130;refine wt 31 ?r131;refine wt 32 ?r132;refine wt 33 ?r133;refine wt 34 ?r134;refine wt 35 ?r135;refine wt 36 ?r136;refine wt 37 ?r137;refine wt 38 ?r138;refine wt 39 ?r139;refine wt 40 ?r140;refine wt 41 ?r141;refine wt 42 ?r142;refine wt 43 ?r143;refine wt 44 ?r144;refine wpAnyH_done (by kernel_rfl) ?_ _;refine NoPanic.normal ?_;have FB:=hid (HoldPl.below hHeld);clear hHeld;go_wp2_with fail
      go_meet
      case rel=>exact⟨true,rfl,hid ⟨fun _=>AA.out,fun _=>rfl⟩,FB⟩
     have AA:Hid (¬ AlkP X Y K L sz tz m m'):=hid fun h=>hmm h.2.2.2;have i1:¬ ((m:Int)=(m':Int)):=by omega
     have i2:((m:Int) == (m':Int))=false:=by simpa using i1
     have i3:decide ((m:Int)=(m':Int))=false:=decide_eq_false i1;subst hx hk;clear hs hmm dS;refine wt 0 ?r201;refine wt 1 ?r202;refine wt 2 ?r203;refine wt 3 ?r204;refine wt 4 ?r205;refine wt 5 ?r206;refine wt 6 ?r207;refine wt 7 ?r208;refine wt 8 ?r209;refine wt 9 ?r210;refine wt 10 ?r211;refine wt 11 ?r212;refine wt 12 ?r213;refine wt 13 ?r214;refine wt 14 ?r215;refine wt 15 ?r216;refine wt 16 ?r217;refine wt 17 ?r218;refine wt 18 ?r219;refine wt 19 ?r220;refine wt 20 ?r221;refine wt 21 ?r222;refine wt 22 ?r223;refine wt 23 ?r224;refine wt 24 ?r225;refine wt 25 ?r226;refine wt 26 ?r227;refine wt 27 ?r228;refine wt 28 ?r229;refine wr1 29 (fun K hK=>?_);go_simp;refine (EQ.out _ (HoldPl.below hHeld)).mono ?_;rintro e wS ⟨rfl,hb⟩;refine hK.out _ _ (holdPl hHeld hb) (fun hHeld'=>?_);replace hHeld:=hHeld';clear hHeld';clear hb;clear hK K;try simp only [Act.put,pa,pb,pc,pd,pe,pf]
     refine wt 30 ?r230;refine wt 31 ?r231;refine wt 32 ?r232;refine wt 33 ?r233;refine wt 34 ?r234;refine wt 35 ?r235;refine wt 36 ?r236;refine wt 37 ?r237;refine wt 38 ?r238;refine wt 39 ?r239;refine wt 40 ?r240;refine wt 41 ?r241;refine wt 42 ?r242;refine wt 43 ?r243;refine wt 44 ?r244;refine wpAnyH_done (by kernel_rfl) ?_ _;refine NoPanic.normal ?_;have FB:=hid (HoldPl.below hHeld);clear hHeld;go_wp2_with fail
     go_meet
     case rel=>exact⟨false,rfl,hid ⟨fun h=>absurd h (by decide),fun h=>absurd h AA.out⟩,FB⟩
    have dS:decide (sz=tz)=false:=decide_eq_false hs;rw [dS] at EQ;have AA:Hid (¬ AlkP X Y K L sz tz m m'):=hid fun h=>hs h.2.2.1;subst hx hk;clear hs dS;refine wt 0 ?r301;refine wt 1 ?r302;refine wt 2 ?r303;refine wt 3 ?r304;refine wt 4 ?r305;refine wt 5 ?r306;refine wt 6 ?r307;refine wt 7 ?r308;refine wt 8 ?r309;refine wt 9 ?r310;refine wt 10 ?r311;refine wt 11 ?r312;refine wt 12 ?r313;refine wt 13 ?r314;refine wt 14 ?r315;refine wt 15 ?r316;refine wt 16 ?r317;refine wt 17 ?r318;refine wt 18 ?r319;refine wt 19 ?r320;refine wt 20 ?r321;refine wt 21 ?r322;refine wt 22 ?r323;refine wt 23 ?r324;refine wt 24 ?r325;refine wt 25 ?r326;refine wt 26 ?r327;refine wt 27 ?r328;refine wt 28 ?r329;refine wr1 29 (fun K hK=>?_);go_simp;refine (EQ.out _ (HoldPl.below hHeld)).mono ?_;rintro e wS ⟨rfl,hb⟩;refine hK.out _ _ (holdPl hHeld hb) (fun hHeld'=>?_);replace hHeld:=hHeld';clear hHeld';clear hb;clear hK K;try simp only [Act.put,pa,pb,pc,pd,pe,pf]
    refine wt 30 ?r330;refine wt 31 ?r331;refine wu 32 ?r332;refine wu 33 ?r333;refine wu 34 ?r334;refine wu 35 ?r335;refine wu 36 ?r336;refine wu 37 ?r337;refine wu 38 ?r338;refine wu 39 ?r339;refine wu 40 ?r340;refine wu 41 ?r341;refine wu 42 ?r342;refine wt 43 ?r343;refine wt 44 ?r344;refine wpAnyH_done (by kernel_rfl) ?_ _;refine NoPanic.normal ?_;have FB:=hid (HoldPl.below hHeld);clear hHeld;go_wp2_with fail
    go_meet
    case rel=>exact⟨false,rfl,hid ⟨fun h=>absurd h (by decide),fun h=>absurd h AA.out⟩,FB⟩
   have AA:Hid (¬ AlkP X Y K L sz tz m m'):=hid fun h=>hk h.2.1;have i1:¬ (K=L):=hk;have i2:(K == L)=false:=by simpa using hk
   have i3:decide (K=L)=false:=decide_eq_false hk;subst hx;clear hk;refine wt 0 ?r401;refine wt 1 ?r402;refine wt 2 ?r403;refine wt 3 ?r404;refine wt 4 ?r405;refine wt 5 ?r406;refine wt 6 ?r407;refine wt 7 ?r408;refine wt 8 ?r409;refine wt 9 ?r410;refine wt 10 ?r411;refine wt 11 ?r412;refine wt 12 ?r413;refine wt 13 ?r414;refine wt 14 ?r415;refine wt 15 ?r416;refine wt 16 ?r417;refine wt 17 ?r418;refine wt 18 ?r419;refine wt 19 ?r420;refine wt 20 ?r421;refine wu 21 ?r422;refine wu 22 ?r423;refine wu 23 ?r424;refine wu 24 ?r425;refine wu 25 ?r426;refine wu 26 ?r427;refine wu 27 ?r428;refine wu 28 ?r429;refine wu 29 ?r430;refine wt 30 ?r431;refine wt 31 ?r432;refine wu 32 ?r433;refine wu 33 ?r434;refine wu 34 ?r435;refine wu 35 ?r436;refine wu 36 ?r437;refine wu 37 ?r438;refine wu 38 ?r439;refine wu 39 ?r440;refine wu 40 ?r441;refine wu 41 ?r442;refine wu 42 ?r443;refine wt 43 ?r444;refine wt 44 ?r445;refine wpAnyH_done (by kernel_rfl) ?_ _;refine NoPanic.normal ?_;have FB:=hid (HoldPl.below hHeld);clear hHeld;go_wp2_with fail
   go_meet
   case rel=>exact⟨false,rfl,hid ⟨fun h=>absurd h (by decide),fun h=>absurd h AA.out⟩,FB⟩
  have AA:Hid (¬ AlkP X Y K L sz tz m m'):=hid fun h=>hx h.1;have d1:(X.toList == Y.toList)=false:=str_ne hx;clear hx;refine wt 0 ?r501;refine wt 1 ?r502;refine wt 2 ?r503;refine wt 3 ?r504;refine wt 4 ?r505;refine wt 5 ?r506;refine wt 6 ?r507;refine wt 7 ?r508;refine wt 8 ?r509;refine wt 9 ?r510;refine wu 10 ?r511;refine wu 11 ?r512;refine wu 12 ?r513;refine wu 13 ?r514;refine wu 14 ?r515;refine wu 15 ?r516;refine wu 16 ?r517;refine wu 17 ?r518;refine wu 18 ?r519;refine wt 19 ?r520;refine wt 20 ?r521;refine wu 21 ?r522;refine wu 22 ?r523;refine wu 23 ?r524;refine wu 24 ?r525;refine wu 25 ?r526;refine wu 26 ?r527;refine wu 27 ?r528;refine wu 28 ?r529;refine wu 29 ?r530;refine wt 30 ?r531;refine wt 31 ?r532;refine wu 32 ?r533;refine wu 33 ?r534;refine wu 34 ?r535;refine wu 35 ?r536;refine wu 36 ?r537;refine wu 37 ?r538;refine wu 38 ?r539;refine wu 39 ?r540;refine wu 40 ?r541;refine wu 41 ?r542;refine wu 42 ?r543;refine wt 43 ?r544;refine wt 44 ?r545;refine wpAnyH_done (by kernel_rfl) ?_ _;refine NoPanic.normal ?_;have FB:=hid (HoldPl.below hHeld);clear hHeld;go_wp2_with fail
  go_meet
  case rel=>exact⟨false,rfl,hid ⟨fun h=>absurd h (by decide),fun h=>absurd h AA.out⟩,FB⟩
 obtain⟨b0,rfl,HB0,B4⟩:=hcut;clear H0 EQ;obtain⟨w4,hw4⟩:∃ w4,w4=wc:=⟨wc,rfl⟩
 subst hw4;have F4:=hid (FF.out.below B4.out);have G4:=hid (FG.out.below B4.out);have B5:=hid (B3.out.trans (B4.out.mono B3.out.size));clear FF FG B3 B4;have c3:=F4.out.cells.2.2.2;rw [HM.out] at c3;go_upto_block 0 with fail
 clear c3;go_wp2_with fail
 go_loopw [13,14,108] (fun al _ i wr=>∃ (j:Nat) (c:Bool),j≤m∧i = .int .i64 (j:Int)∧al = .bool c∧(c=true↔AlkP X Y K L sz tz m m'∧SmP K sz fs gs j)∧Below w4.heap.size w4 wr) (fun _ _ i _=>m - (intOf i).toNat)
 case atStart=>exact⟨0,b0,Nat.zero_le _,rfl,rfl,HB0.out.trans ⟨fun h=>⟨h,fun i f g hi=>absurd hi (Nat.not_lt_zero _)⟩,fun h=>h.1⟩,Below.refl _ _⟩
 case round =>
  obtain⟨j,c,hj,rfl,rfl,hC,hB⟩:=hrel;have BR:=hid hB;have HC:=hid hC;clear hB hC;by_cases hlt:j < m
  ·have i1:(j:Int) < (m:Int):=by omega
   have i2:(0:Int)≤(j:Int):=by omega
   cases c with
   | false =>
    obtain⟨f,hf⟩:∃ f,fs[j]? = some f:=⟨_,List.getElem?_eq_getElem (by rw [HM.out];exact hlt)⟩
    have HCN:Hid (¬ (AlkP X Y K L sz tz m m'∧SmP K sz fs gs (j+1))):=hid fun h=>absurd (HC.out.2 ⟨h.1,fun i f g hi=>h.2 i f g (by omega)⟩) (by decide);clear hf;go_upto_region 13 with fail
    refine wp_region_noPanic ?_;refine wp_region_held_drew (S:=fun W=>Below w4.heap.size w4 W) (by kernel_rfl) BR.out.drew (fun hHeld=>?_);generalize wr.drew=wd at hHeld ⊢;refine wt 0 ?r601;refine wt 1 ?r602;refine wu 2 ?r603;refine wu 3 ?r604;refine wu 4 ?r605;refine wu 5 ?r606;refine wu 6 ?r607;refine wu 7 ?r608;refine wu 8 ?r609;refine wu 9 ?r610;refine wu 10 ?r611;refine wu 11 ?r612;refine wu 12 ?r613;refine wu 13 ?r614;refine wu 14 ?r615;refine wu 15 ?r616;refine wu 16 ?r617;refine wu 17 ?r618;refine wu 18 ?r619;refine wt 19 ?r620;refine wt 20 ?r621;refine wu 21 ?r622;refine wu 22 ?r623;refine wu 23 ?r624;refine wu 24 ?r625;refine wu 25 ?r626;refine wu 26 ?r627;refine wu 27 ?r628;refine wu 28 ?r629;refine wu 29 ?r630;refine wu 30 ?r631;refine wu 31 ?r632;refine wu 32 ?r633;refine wu 33 ?r634;refine wu 34 ?r635;refine wu 35 ?r636;refine wu 36 ?r637;refine wu 37 ?r638;refine wt 38 ?r639;refine wt 39 ?r640;refine wpAnyH_done (by kernel_rfl) ?_ _;refine NoPanic.normal ?_;have FB:=hid hHeld;clear hHeld;go_wp2_with fail
    exact⟨⟨j+1,false,by omega,by go_num,rfl,⟨fun h=>absurd h (by decide),fun h=>absurd h HCN.out⟩,FB.out⟩,by simp [intOf];omega⟩
   | true =>
    obtain⟨⟨eX,eK,eS,eM⟩,hP⟩:=HC.out.1 rfl;subst eX eK eS eM;have HP:=hid hP;clear HC hP;obtain⟨f,hf⟩:∃ f,fs[j]? = some f:=⟨_,List.getElem?_eq_getElem (by rw [HM.out];exact hlt)⟩
    obtain⟨g,hg⟩:∃ g,gs[j]? = some g:=⟨_,List.getElem?_eq_getElem (by rw [HM'.out];exact hlt)⟩
    have HRR:=F4.out.below BR.out;have HRR':=G4.out.below BR.out;have e3:=HRR.cells.2.2.2;have e3':=HRR'.cells.2.2.2;rw [HM.out] at e3;rw [HM'.out] at e3';obtain⟨gf,sv,tv,hAf,hgf,k0,k1,he⟩:=HRR.funs j f hf;obtain⟨gg,sv',tv',hAf',hgg,k0',k1',he'⟩:=HRR'.funs j g hg;obtain⟨Asc,csc,gt,mb,At,ct,N,hsv,-,htv,hI,hT,-⟩:=id he;obtain⟨Asc',csc',gt',mb',At',ct',N',hsv',-,htv',hI',hT',-⟩:=id he';subst hsv htv hsv' htv';rw [hAf] at e3;rw [hAf'] at e3';have H13:Hid (HoldE fb fb' gf gg j (.slice (some ⟨gf,0,none⟩) m cf) (.slice (some ⟨gg,0,none⟩) m cf') (.slice Asc f.scope.length csc) (.pointer (some ⟨gt,0,none⟩)) (.slice Asc' g.scope.length csc') (.pointer (some ⟨gt',0,none⟩)) wr wr):=hid ⟨e3,e3',k0,k1,k0',k1',Below.refl _ _⟩;obtain⟨l1,l2,l3⟩:=fun_lims RF.out (List.mem_of_getElem? hf);have EQ:=hid (fun W (hb:Below wr.heap.size wr W)=>equal_any Asc Asc' csc csc' f.scope g.scope W (by omega) (hI.below hb (Nat.le_refl _)) (hI'.below hb (Nat.le_refl _)));have SF:=hid (smP_succ (k:=K) (sizes:=sz) hf hg);by_cases hsc:f.scope=g.scope
    ·rw [← hsc] at hT'
     have TS:=hid (fun W (hb:Below wr.heap.size wr W)=>tpsame_ok gt mb N ct gt' mb' N' ct' _ At At' (pickN sz f.scope) K (min f.other K) (min g.other K) (funF K f) (funF K g) W (hT.below hb) (hT'.below hb) (by rw [pickN_len];exact l1) l2 rfl (by omega));have dS:decide (f.scope=g.scope)=true:=decide_eq_true hsc;rw [dS] at EQ;have HSC:=hid hsc;clear hAf hAf' hgf hgg k0 k1 k0' k1' he he' hI hI' hT hT' l1 l2 l3 e3 e3' HRR HRR' hf hg dS hsc;generalize f.scope.length=p at EQ H13;generalize g.scope.length=p' at EQ H13;go_upto_region 13 with fail
     refine wp_region_noPanic ?_;refine wp_region_held_drew (S:=HoldE fb fb' gf gg j (.slice (some ⟨gf,0,none⟩) m cf) (.slice (some ⟨gg,0,none⟩) m cf') (.slice Asc p csc) (.pointer (some ⟨gt,0,none⟩)) (.slice Asc' p' csc') (.pointer (some ⟨gt',0,none⟩)) wr) (by kernel_rfl) (holdE H13.out (Below.refl _ _).drew) (fun hHeld=>?_);clear H13;generalize wr.drew=wd at hHeld ⊢;refine wt 0 ?r701;refine wt 1 ?r702;refine wt 2 ?r703;refine wt 3 ?r704;refine wt 4 ?r705;refine wt 5 ?r706;refine wt 6 ?r707;refine wt 7 ?r708;refine wt 8 ?r709;refine wt 9 ?r710;refine wt 10 ?r711;refine wt 11 ?r712;refine wt 12 ?r713;refine wt 13 ?r714;refine wt 14 ?r715;refine wt 15 ?r716;refine wt 16 ?r717;refine wt 17 ?r718;refine wr1 18 (fun K hK=>?_);go_simp;refine (EQ.out _ (HoldE.below hHeld)).mono ?_;rintro e wS ⟨rfl,hb⟩;refine hK.out _ _ (holdE hHeld hb) (fun hHeld'=>?_);replace hHeld:=hHeld';clear hHeld';clear hb;clear hK K;try simp only [Act.put,pa,pb,pc,pd,pe,pf]
     refine wt 19 ?r719;refine wt 20 ?r720;refine wt 21 ?r721;refine wt 22 ?r722;refine wt 23 ?r723;refine wt 24 ?r724;refine wt 25 ?r725;refine wt 26 ?r726;refine wt 27 ?r727;refine wt 28 ?r728;refine wt 29 ?r729;refine wt 30 ?r730;refine wt 31 ?r731;refine wt 32 ?r732;refine wt 33 ?r733;refine wt 34 ?r734;refine wt 35 ?r735;refine wt 36 ?r736;refine wr1 37 (fun K hK=>?_);go_simp;refine (TS.out _ (HoldE.below hHeld)).mono ?_;rintro e wT ⟨r,rfl,hr,hb⟩;have HR:=hid hr;refine hK.out _ _ (holdE hHeld hb) (fun hHeld'=>?_);replace hHeld:=hHeld';clear hHeld';clear hb hr;clear hK K;try simp only [Act.put,pa,pb,pc,pd,pe,pf]
     refine wt 38 ?r737;refine wt 39 ?r738;refine wpAnyH_done (by kernel_rfl) ?_ _;refine NoPanic.normal ?_;have FB:=hid (BR.out.trans ((HoldE.below hHeld).mono BR.out.size));clear hHeld;go_wp2_with fail
     exact⟨⟨j+1,r,by omega,by go_num,rfl,⟨fun h=>⟨⟨rfl,rfl,rfl,rfl⟩,SF.out.2 ⟨HP.out,HSC.out,(HR.out.1 h).2⟩⟩,fun h=>HR.out.2 ⟨by first | rfl | trivial,(SF.out.1 h.2).2.2⟩⟩,FB.out⟩,by simp [intOf];omega⟩
    have dS:decide (f.scope=g.scope)=false:=decide_eq_false hsc;rw [dS] at EQ;have HSC:=hid hsc;clear hAf hAf' hgf hgg k0 k1 k0' k1' he he' hI hI' hT hT' l1 l2 l3 e3 e3' HRR HRR' hf hg dS hsc;generalize f.scope.length=p at EQ H13;generalize g.scope.length=p' at EQ H13;go_upto_region 13 with fail
    refine wp_region_noPanic ?_;refine wp_region_held_drew (S:=HoldE fb fb' gf gg j (.slice (some ⟨gf,0,none⟩) m cf) (.slice (some ⟨gg,0,none⟩) m cf') (.slice Asc p csc) (.pointer (some ⟨gt,0,none⟩)) (.slice Asc' p' csc') (.pointer (some ⟨gt',0,none⟩)) wr) (by kernel_rfl) (holdE H13.out (Below.refl _ _).drew) (fun hHeld=>?_);clear H13;generalize wr.drew=wd at hHeld ⊢;refine wt 0 ?r801;refine wt 1 ?r802;refine wt 2 ?r803;refine wt 3 ?r804;refine wt 4 ?r805;refine wt 5 ?r806;refine wt 6 ?r807;refine wt 7 ?r808;refine wt 8 ?r809;refine wt 9 ?r810;refine wt 10 ?r811;refine wt 11 ?r812;refine wt 12 ?r813;refine wt 13 ?r814;refine wt 14 ?r815;refine wt 15 ?r816;refine wt 16 ?r817;refine wt 17 ?r818;refine wr1 18 (fun K hK=>?_);go_simp;refine (EQ.out _ (HoldE.below hHeld)).mono ?_;rintro e wS ⟨rfl,hb⟩;refine hK.out _ _ (holdE hHeld hb) (fun hHeld'=>?_);replace hHeld:=hHeld';clear hHeld';clear hb;clear hK K;try simp only [Act.put,pa,pb,pc,pd,pe,pf]
    refine wt 19 ?r819;refine wt 20 ?r820;refine wu 21 ?r821;refine wu 22 ?r822;refine wu 23 ?r823;refine wu 24 ?r824;refine wu 25 ?r825;refine wu 26 ?r826;refine wu 27 ?r827;refine wu 28 ?r828;refine wu 29 ?r829;refine wu 30 ?r830;refine wu 31 ?r831;refine wu 32 ?r832;refine wu 33 ?r833;refine wu 34 ?r834;refine wu 35 ?r835;refine wu 36 ?r836;refine wu 37 ?r837;refine wt 38 ?r838;refine wt 39 ?r839;refine wpAnyH_done (by kernel_rfl) ?_ _;refine NoPanic.normal ?_;have FB:=hid (BR.out.trans ((HoldE.below hHeld).mono BR.out.size));clear hHeld;go_wp2_with fail
    exact⟨⟨j+1,false,by omega,by go_num,rfl,⟨fun h=>absurd h (by decide),fun h=>absurd (SF.out.1 h.2).2.1 HSC.out⟩,FB.out⟩,by simp [intOf];omega⟩
  obtain rfl:j=m:=by omega
  have i1:¬ ((j:Int) < (j:Int)):=by omega
  have SM:=hid (fun W (hb:Below wr.heap.size wr W)=>(plsame_any fb cs cf fb' cs' cf' X Y K L sz tz fs gs As Af As' Af' W ((F4.out.below BR.out).below hb) ((G4.out.below BR.out).below hb) RF.out RG.out).mono (fun e w' h=>by
   obtain⟨b,e1,hb1,h1⟩:=h;have h2:=(smP_all (X:=X) (Y:=Y) (k:=K) (l:=L) (sizes:=sz) (sizes':=tz) (fs:=fs) (gs:=gs))
   rw [HM.out,HM'.out] at h2;have h3:b=c:=by rw [Bool.eq_iff_iff];exact hb1.trans (h2.symm.trans HC.out.symm)
   subst h3;exact (And.intro e1 h1:e = .returned (.bool b)∧Below W.heap.size W w')))
  have CP:=hid (copy_any fb cs cf X K sz fs As Af wr (F4.out.below BR.out) RF.out);have BW:=hid (B5.out.trans (BR.out.mono B5.out.size));clear F4 G4 BR B5 HC HB0 RF RG HM HM';obtain⟨p,hp⟩:∃ m,min X0.size 20=m:=⟨_,rfl⟩
  have j1:min (X0.size:Int) 20=(p:Int):=by omega
  have S1:∀ W,(Instr.slice 9 (.string X0) none (some (.int .i64 (p:Int))) none).run Tryz.prog W = .ok (.string (X0.extract 0 p)) W:=fun W=>str_head X0 p (by omega) W;have HXS:Hid ((X0.extract 0 p++⟨#[32]⟩:ByteArray).size≤100000):=hid (by rw [ByteArray.size_append,ByteArray.size_extract];show _+1≤_;omega);have HXW:=hid (space_noword (X0.extract 0 p));clear hp;go_upto_region 16 with (first | (go_at_call 15;refine CP.out.mono ?_;rintro e w6 ⟨⟨cb,A,cc,fv,us,rfl,hCA⟩,hb⟩;have CA:=hid hCA;have B6:=hid hb;clear hCA hb) | fail)
  have ac:w6.cell? ⟨cb,0,none⟩=some (.string X):=by rw [cell_of_row _ _ _ _ _ _ CA.out.row];rfl
  have af:w6.frozen? ⟨cb,0,none⟩=false:=frozen_of_row _ _ _ _ _ CA.out.row;go_upto_region 17 with fail
  clear ac af S1 j1;generalize X0.extract 0 p++⟨#[32]⟩=XB at HXS HXW ⊢;have R7:=hid (heap_setCell_same w6 cb 0 _ _ (.string XB) CA.out.row);have B7:Hid (Below wr.heap.size wr (w6.setCell ⟨cb,0,none⟩ (.string XB))):=hid (B6.out.grown (grown_put w6 cb 0 (.string XB)) B6.out.size (fun q hq=>by injection hq with hq;rw [← hq];exact CA.out.ge));generalize w6.setCell ⟨cb,0,none⟩ (.string XB)=w7 at R7 B7 ⊢;go_upto_region 18 with (first | (go_at_call 16;refine (print_badname cb XB K _ _ _ _ w7 R7.out HXS.out HXW.out).mono ?_;rintro e w8 ⟨rfl,hb⟩;have R8:=hid ((hb.block cb (Array.getElem?_eq_some_iff.1 R7.out).1).trans R7.out);have B8:=hid (B7.out.trans (hb.mono B7.out.size));clear hb) | fail)
  go_upto_region 19 with (first | (go_at_call 23;refine (canon_badname cb XB K _ _ _ _ w8 R8.out HXS.out HXW.out).mono ?_;rintro e w9 ⟨rfl,hb⟩;have B9:=hid (B8.out.trans (hb.mono B8.out.size));clear hb) | fail)
  go_upto_region 21 with (first
   | (go_at_call 16;with_reducible refine (print_none _).mono ?_;rintro e w' ⟨rfl,rfl⟩)
   | (go_at_call 23;with_reducible refine (canon_none _).mono ?_;rintro e w' ⟨rfl,rfl⟩)
   | fail)
  cases c <;>
   (go_wp2_with (first | (go_at_call 17;refine (SM.out _ B9.out).mono ?_;rintro e wE ⟨rfl,hb⟩;have BE:=hid (B9.out.trans (hb.mono B9.out.size));clear hb) | fail);go_ret;exact⟨rfl,BW.out.trans (BE.out.mono BW.out.size)⟩)
end Go.Proofs.YtmokogkndbinlaaGreatDoor
