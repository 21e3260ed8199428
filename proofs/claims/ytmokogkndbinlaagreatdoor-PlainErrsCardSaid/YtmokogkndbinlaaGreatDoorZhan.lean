import Derived.Deep.CutBlock
import Derived.Test.YtmokogkndbinlaaGreatDoorZham
set_option linter.all false
namespace Go.Proofs.YtmokogkndbinlaaGreatDoor
open Go.Lib (hid)
open Go.RowKit
theorem sclone (x:ByteArray) (w:World) (h:x.size≤281474976710656):Calls Tryz.prog 132 #[.string x] w fun e w'=>e = .returned (.string x)∧Below w.heap.size w w':=by
 have H:=hid (Tryz.stringslite_Clone x w h);clear h;go_enter Tryz.func132,Tryz.ntmps132
 go_wp2_with (first | (go_at_call 167;refine H.out.mono ?_;rintro e w' ⟨rfl,hb⟩;replace hb:=hid hb) | fail)
 go_ret;exact⟨rfl,hb.out⟩
theorem Own.slice3 {w:World}{base:Nat}{v:Value}{l:List Nat}(h:Own w base v l):∃ A n c,v = .slice A n c:=by
 obtain⟨A,c,e,_⟩:=h.form;exact⟨A,_,c,e⟩
theorem FnRes.at_ {s:ByteArray}{b sc base:Nat}{k:Int}{W:World}{sv:Value}{o:Int}{lv:Value}{v':RdV}{a:AccM}{E:RdR AccM}(h:FnRes s b sc base k W sv o lv v' a E):RdAt W b v':=by
 rcases h with ⟨f,a',st',us',_,_,_,_,h,_⟩ | ⟨e,p,_,h⟩
 ·exact h.at_
 exact h.at_
theorem own_rf {W W':World}{base b sc:Nat}{v:Value}{vs:List (Value × Int × Value)} {ob:Option Nat}(h:OwnFn W base v vs) (hr:RF W b sc ob W') (hb:b < base) (hs:sc < base) (hf:∀ g,v.ownBlock=some g→ob≠some g):OwnFn W' base v vs :=
 h.keepB fun g e h1 h2=>hr.block g h1 (by omega) (by omega) (hf g e)
def RaRes (s:ByteArray) (b sc base:Nat) (E:RdR FileM) (W:World) (v':RdV):Prop :=
 (∃ F st vs As cs,E = .ok F st∧RdOk W b sc s st v'∧v'.name = .string (s.extract F.name.1 F.name.2)∧v'.top=F.top∧v'.sizes = .slice As F.sizes.length cs∧IntsT W b sc As F.sizes∧OwnFn W base v'.funs vs∧FnIs W b sc vs (F.funs.map (topF F.top)))∨∃ e p,E = .bad e p∧RdBad W b e p v'
def RaPost (s:ByteArray) (b sc base:Nat) (E:RdR FileM) (w:World) (e:Ending) (w':World):Prop:=(∃ u,e = .returned u)∧RK w b sc w'∧∃ v',RaRes s b sc base E w' v'
def SzEnd (s:ByteArray) (b sc:Nat) (E:RdR FileM) (C:List Nat→RdS→RdR FileM) (acc:List Nat) (v':RdV) (W:World):Prop :=
 (∃ st,RdOk W b sc s st v'∧acc.length≤st.k∧1≤acc.length∧E=C acc st)∨∃ e p,RdBad W b e p v'∧E = .bad e p
def FnEnd (s:ByteArray) (b sc:Nat) (w:Nat × Nat) (k:Int × Nat) (sz:List Nat) (vs:List (Value × Int × Value)) (v':RdV) (E:RdR FileM) (W:World):Prop :=
 (∃ a st,RdOk W b sc s st v'∧E=gF7 s.data.toList w k sz a st∧FnIs W b sc vs (a.funs.map (topF k.1)))∨∃ e p,RdBad W b e p v'∧E = .bad e p
theorem endAll {s:ByteArray}{b sc base cs f t:Nat}{k:Int × Nat}{As:Option Addr}{sz:List Nat}{vs:List (Value × Int × Value)} {v':RdV}{E:RdR FileM}{W:World}{X:ByteArray}
  (h1:v'.name = .string X) (h2:v'.top=k.1) (h3:v'.sizes = .slice As sz.length cs) (hX:s.extract f t=X) (hI:IntsT W b sc As sz) (hO:OwnFn W base v'.funs vs) (hb:b < base) (hs:sc < base) (h:FnEnd s b sc (f,t) k sz vs v' E W) :
  Calls Tryz.prog 136 #[.pointer (some ⟨b,0,none⟩)] W fun e w'=>(∃ u,e = .returned u)∧RK W b sc w'∧∃ v'',RaRes s b sc base E w' v'':=by
 rcases h with ⟨a,st,ho,hE,hF⟩ | ⟨e,p,hR,hE⟩
 ·refine (endIn (a:=(⟨(f,t),k.1,sz,a.funs⟩:FileM)) (v:=v') (v':=v') (E:=E) ⟨RdNear.refl _,.inl ⟨st,ho,hE⟩⟩).mono ?_
  rintro e w' ⟨v'',hu,hk,hn,hr⟩;refine⟨hu,hk,v'',?_⟩;rcases hr with ⟨st',h4,h5⟩ | ⟨e,p,h4,h5⟩
  ·refine .inl ⟨_,st',vs,As,cs,h5,h4,by rw [hn.same.name,h1,hX],by rw [hn.same.top,h2],by rw [hn.same.sizes,h3],hI.rk hk,by rw [hn.same.funs];exact hO.rk hk hb hs,hF.keep (KeepT.rk hk)⟩
  exact .inr ⟨e,p,h5,h4⟩
 refine (endR_still b e p v' W hR).mono ?_;rintro e' w' ⟨hu,rfl⟩;exact⟨hu,RK.refl _ _ _,v',.inr ⟨e,p,hE,hR⟩⟩
theorem FnAt.rk {s:ByteArray}{b sc base:Nat}{sizes:List Nat}{M j:Nat}{vs:List (Value × Int × Value)} {v':RdV}{E:RdR FileM}{C:AccM→RdS→RdR FileM}{W W':World}{a:AccM}{st:RdS}{us:List (Value × Int × Value)}
  (h:FnAt s b sc base sizes M j vs v' E C W a st us) (hk:RK W b sc W') (ho:RdOk W' b sc s st v') (hb:b < base) (hs:sc < base):FnAt s b sc base sizes M j vs v' E C W' a st us :=
 ⟨ho,h.acc,h.told,h.sh.rk hk hb hs,h.shIs.keep (KeepT.rk hk),h.fnIs.keep (KeepT.rk hk),h.far,h.E⟩
set_option maxRecDepth 100000 in
set_option maxHeartbeats 4000000 in
theorem readAllR (b sc:Nat) (s:ByteArray) (v0:RdV) (w:World) (h:RdOk w b sc s ⟨0,none⟩ v0) (h0:v0.sizes = .slice none 0 0) (h1:v0.funs = .slice none 0 0) (h2:v0.shared = .slice none 0 0) (h3:v0.told=0) (hT:TabK w b sc) :
  Calls Tryz.prog 74 #[.pointer (some ⟨b,0,none⟩)] w (RaPost s b sc w.heap.size (fileM s.data.toList (-4611686018427387904)) w):=by
 obtain⟨E,hE⟩:∃ E,fileM s.data.toList (-4611686018427387904)=E:=⟨_,rfl⟩
 rw [hE];rw [fileM_cps] at hE;have I0:Hid (RdIn w b sc s v0 v0 E (fun st=>(wordM s.data.toList st).bind (gF1 s.data.toList (-4611686018427387904)))):=hid ⟨RdNear.refl v0,.inl ⟨_,h,hE.symm⟩⟩;have HB:=hid (And.intro h.lt (And.intro h.scan.lt h.glob.blk));have V0:=hid (And.intro h0 (And.intro h1 (And.intro h2 h3)));have HT:=hid hT;have FT:=hid h.fits;clear hE h h0 h1 h2 h3 hT;have WI:=hid (wordIn I0.out);go_enter Tryz.func74,Tryz.ntmps74
 go_upto_region 1 with (first | (go_at_call 131;refine WI.out.mono ?_;rintro e w1 ⟨f,t,v1,rfl,hft,hsz,hsm,hk1,hI1⟩;replace hft:=hid hft;replace hsz:=hid hsz;replace hsm:=hid hsm;replace hk1:=hid hk1;replace hI1:=hid hI1) | fail)
 obtain⟨X,hX⟩:∃ X,s.extract f t=X:=⟨_,rfl⟩
 rw [hX] at hsz ⊢;have HX:=hid hX;have SC:=hid (sclone X w1 (by have:=hsz.out;have:=hsm.out;omega));clear hX WI;go_upto_region 2 with (first | (go_at_call 132;refine SC.out.mono ?_;rintro e w2 ⟨rfl,hb2⟩;have hI2:=hid (hI1.out.below hb2);have hk2:=hid (hk1.out.trans (RK.below hb2));clear hb2;have c5:w2.cell? ⟨b,5,none⟩=some v1.name:=hI2.out.at_.cell (i:=5) rfl;have f5:w2.frozen? ⟨b,5,none⟩=false:=hI2.out.at_.frozen 5) | fail)
 have I3:=hid (hI2.out.setName (.string X));have K3:=hid (hk2.out.trans (RK.grown1 (q:=sc) (grown_put w2 b 5 (.string X))));clear c5 f5 hI1 hk1 SC hk2 hI2;generalize w2.setCell ⟨b,5,none⟩ (.string X)=w3 at I3 K3 ⊢;have LI:=hid (limIn (n:=(X.size:Nat)) (m:=64) (p:=f) (C:=fun s1=>(numM s.data.toList 1 4611686018427387904 s1).bind (gF2 s.data.toList (-4611686018427387904) (f,t))) (I3.out.conv (fun st=>by
  show (numM _ 1 farZ (limS (decide (64 < t - f)) f st)).bind _=_;have e1:decide ((64:Int) < (X.size:Nat))=decide (64 < t - f):=by rw [decide_eq_decide,hsz.out];omega
  rw [e1])))
 go_upto_region 3 with (first | (go_at_call 133;refine LI.out.mono ?_;rintro e w4 ⟨v4,⟨_,rfl⟩,hg4,hI4⟩;have K4:=hid (K3.out.trans (RK.grown1 (q:=sc) hg4));replace hI4:=hid hI4;clear hg4) | fail)
 have NI:=hid (numIn2 hI4.out);clear LI I3 K3;go_upto_region 4 with (first | (go_at_call 134;refine NI.out.mono ?_;rintro e w5 ⟨n,pn,v5,rfl,hbn,_,hk5,hI5⟩;have K5:=hid (K4.out.trans hk5);have NZ5:Hid (1≤n∨v5.fe≠0):=hid (hbn.imp (fun h=>h.1) (fun h=>h.2));replace hbn:=hid hbn;replace hI5:=hid hI5;clear hk5) | fail)
 have LI2:=hid (limIn2 (n:=n) (m:=64) (p:=pn) (C:=fun s1=>(numM s.data.toList (-4611686018427387904) 4611686018427387904 s1).bind (gF3 s.data.toList (f,t) (n,pn))) (hI5.out.conv (fun st=>rfl)));clear NI K4 hI4;go_upto_region 5 with (first | (go_at_call 133;refine LI2.out.mono ?_;rintro e w6 ⟨v6,⟨_,rfl⟩,hg6,hfe6,hI6⟩;have NZ6:=hid (NZ5.out.imp id hfe6);clear hfe6 NZ5;have K6:=hid (K5.out.trans (RK.grown1 (q:=sc) hg6));replace hI6:=hid hI6;clear hg6) | fail)
 have NI2:=hid (numIn2 hI6.out);clear LI2 K5 hI5;go_upto_region 6 with (first | (go_at_call 134;refine NI2.out.mono ?_;rintro e w7 ⟨g,pg,v7,rfl,hbg,hfe7,hk7,hI7⟩;have NZ7:=hid (NZ6.out.imp id hfe7);clear hfe7 NZ6;have K7:=hid (K6.out.trans hk7);replace hbg:=hid hbg;replace hI7:=hid hI7;clear hk7) | fail)
 have NI3:=hid (numIn2 (lo:=0) (hi:=4611686018427387904) (C:=gF4 s.data.toList (f,t) (n,pn) (g,pg)) (hI7.out.conv (fun st=>rfl)));clear NI2 K6 hI6;go_upto_region 7 with (first | (go_at_call 134;refine NI3.out.mono ?_;rintro e w8 ⟨c,pc,v8,rfl,hbc,hfe8,hk8,hI8⟩;have NZ8:=hid (NZ7.out.imp id hfe8);clear hfe8 NZ7;have K8:=hid (K7.out.trans hk8);replace hbc:=hid hbc;replace hI8:=hid hI8;clear hk8) | fail)
 have LI3:=hid (limIn2 (n:=c) (m:=256) (p:=pc) (C:=fun s1=>(numM s.data.toList 1 4611686018427387904 s1).bind (gF5 s.data.toList (f,t) (n,pn) (g,pg) (c,pc))) (hI8.out.conv (fun st=>rfl)));clear NI3 K7 hI7;go_upto_region 8 with (first | (go_at_call 133;refine LI3.out.mono ?_;rintro e w9 ⟨v9,⟨_,rfl⟩,hg9,hfe9,hI9⟩;have NZ9:=hid (NZ8.out.imp id hfe9);clear hfe9 NZ8;have K9:=hid (K8.out.trans (RK.grown1 (q:=sc) hg9));replace hI9:=hid hI9;clear hg9) | fail)
 have NI4:=hid (numIn2 hI9.out);clear LI3 K8 hI8;go_upto_region 9 with (first | (go_at_call 134;refine NI4.out.mono ?_;rintro e w10 ⟨k,pk,v10,rfl,hbk,hfe10,hk10,hI10⟩;have NZ10:=hid (NZ9.out.imp id hfe10);clear hfe10 NZ9;have K10:=hid (K9.out.trans hk10);replace hbk:=hid hbk;replace hI10:=hid hI10;clear hk10;have c6:w10.cell? ⟨b,6,none⟩=some (.int .i64 v10.top):=hI10.out.at_.cell (i:=6) rfl;have f6:w10.frozen? ⟨b,6,none⟩=false:=hI10.out.at_.frozen 6) | fail)
 have I11:=hid (hI10.out.setTop k);have K11:=hid (K10.out.trans (RK.grown1 (q:=sc) (grown_put w10 b 6 (.int .i64 k))));clear c6 f6 hI10 K10 NI4 K9 hI9;generalize w10.setCell ⟨b,6,none⟩ (.int .i64 k)=w11 at I11 K11 ⊢;have c6:w11.cell? ⟨b,6,none⟩=some (.int .i64 k):=I11.out.at_.cell (i:=6) rfl;have LI4:=hid (limIn2 (n:=k) (m:=2147483648) (p:=pk) (C:=fun s1=>(sizesM s.data.toList g n.toNat [] s1).bind (gF6 s.data.toList (f,t) (c,pc) (k,pk))) (I11.out.conv (fun st=>rfl)));go_upto_region 10 with (first | (go_at_call 133;refine LI4.out.mono ?_;rintro e w12 ⟨v12,⟨_,rfl⟩,hg12,hfe12,hI12⟩;have NZ12:Hid (1≤n∨v12.fe≠0):=hid (NZ10.out.imp id hfe12);clear hfe12 NZ10;have K12:=hid (K11.out.trans (RK.grown1 (q:=sc) hg12));replace hI12:=hid hI12;clear hg12) | fail)
 clear c6 LI4 I11 K11;obtain⟨vA,hvA⟩:∃ vA:RdV,({ v0 with name:=.string X,top:=k }:RdV)=vA:=⟨_,rfl⟩
 have I12:Hid (RdIn w12 b sc s vA v12 E (fun s1=>(sizesM s.data.toList g n.toNat [] s1).bind (gF6 s.data.toList (f,t) (c,pc) (k,pk)))):=hid (by rw [← hvA];exact hI12.out);have VA:Hid (vA.name = .string X∧vA.top=k∧vA.sizes = .slice none 0 0∧vA.funs = .slice none 0 0∧vA.shared = .slice none 0 0∧vA.told=0):=hid (by rw [← hvA];exact⟨rfl,rfl,V0.out.1,V0.out.2.1,V0.out.2.2.1,V0.out.2.2.2⟩);clear hvA hI12;obtain⟨N,hN⟩:∃ N:Nat,n=(N:Int):=⟨n.toNat,by have:=hbn.out;omega⟩
 subst hN;have NZ:Hid (1≤N∨v12.fe≠0):=hid (NZ12.out.imp (fun h=>by omega) id);clear NZ12;have hN2:N≤4611686018427387904:=by have:=hbn.out;omega
 obtain⟨M,hM⟩:∃ M:Nat,c=(M:Int):=⟨c.toNat,by have:=hbc.out;omega⟩
 subst hM;have hM2:M≤4611686018427387904:=by have:=hbc.out;omega
 have hg1:-4611686018427387904≤g:=by have:=hbg.out;omega
 have hg2:g≤4611686018427387904:=by have:=hbg.out;omega
 have S0:Hid (SzGo s b sc g N 0 [] v12 E (gF6 s.data.toList (f,t) ((M:Int),pc) (k,pk)) w12):=hid (by
  rcases I12.out.2 with ⟨st,h1,h2⟩ | ⟨e,p,h1,h2⟩
  ·exact .inl ⟨st,h1,Nat.zero_le _,h2⟩
  ·exact .inr ⟨e,p,h1,h2⟩)
 have NR0:Hid (RdNear { vA with sizes:=.slice none 0 0 } v12):=hid (by
  have h:=I12.out.1;refine⟨⟨h.same.sc,h.same.name,h.same.top,h.same.sizes.trans VA.out.2.2.1,h.same.funs,h.same.shared⟩,h.told⟩)
 clear I12 hbn hbg hbc hbk;go_upto_block 0 with fail
 go_cut [8,9,10] from 65 to 95 (fun _ _ _ wc=>∃ (acc:List Nat) (u:Value) (v':RdV),Hid (Own wc w.heap.size u acc)∧Hid (RK w b sc wc)∧Hid (RdNear { vA with sizes:=u } v')∧Hid (∀ x∈acc,x≤4611686018427387904)∧Hid (SzEnd s b sc E (gF6 s.data.toList (f,t) ((M:Int),pc) (k,pk)) acc v' wc))
 case first =>
  go_wp2_with fail
  go_loopw [8,9,10] (fun i _ _ wr=>∃ (j:Nat) (acc:List Nat) (u:Value) (v':RdV),i = .int .i64 (j:Int)∧j≤N∧Own wr w.heap.size u acc∧RK w b sc wr∧RdNear { vA with sizes:=u } v'∧(∀ x∈acc,x≤4611686018427387904)∧acc.length=j∧(1≤N∨v'.fe≠0)∧SzGo s b sc g N j acc v' E (gF6 s.data.toList (f,t) ((M:Int),pc) (k,pk)) wr) (fun i _ _ _=>N - (intOf i).toNat)
  case atStart=>exact⟨0,[],_,v12,rfl,Nat.zero_le _,own_nil _ _,K12.out,NR0.out,fun x hx=>absurd hx (by simp),rfl,NZ.out,S0.out⟩
  case round =>
   obtain⟨j,acc,u,v',rfl,hj,hO,hK,hNR,hle,hlen,hnz,hS⟩:=hrel;have HNZ:=hid hnz;clear hnz;have HO:=hid hO;have HK:=hid hK;have HNR:=hid hNR;have HLE:=hid hle;have HLN:=hid hlen;obtain⟨A,ca,rfl,_⟩:=hO.form;clear hO hK hNR hle hlen;by_cases hlt:j < N
   ·have d1:decide ((j:Int) < (N:Int))=true:=decide_eq_true (by omega)
    rcases hS with ⟨st,hR,hal,hE⟩ | ⟨e,p,hR,hE⟩
    ·have HR:=hid hR
     have HAL:=hid hal;have HE:=hid hE;have R0:=hid (right_at b 1 0 wr hR.fault);have NC:=hid (numC b sc s st v' 1 g wr hR);have LT:=hid hlt;clear hR hal hE;go_upto_region 14 with (first | (go_at_call 75;refine R0.out.mono ?_;rintro e w' ⟨rfl,rfl⟩) | (go_at_call 134;refine NC.out.mono ?_;rintro e wa ⟨z,pz,va,rfl,hbz,hka,hna,hca⟩;replace hbz:=hid hbz;replace hka:=hid hka;replace hna:=hid hna;replace hca:=hid hca) | fail)
     obtain⟨y,hy⟩:∃ y:Nat,z=(y:Int):=⟨z.toNat,by have:=hbz.out;omega⟩
     subst hy;have hy2:y≤4611686018427387904:=by have:=hbz.out;omega
     have LC:=hid (limC (m:=32) hca.out hna.out);clear NC R0;go_upto_region 15 with (first | (go_at_call 133;refine LC.out.mono ?_;rintro e wb ⟨vb,⟨_,rfl⟩,hgb,hnb,hlb⟩;replace hgb:=hid hgb;replace hnb:=hid hnb;replace hlb:=hid hlb) | fail)
     have KB:=hid ((HK.out.trans hka.out).trans (RK.grown1 (q:=sc) hgb.out));have OB:=hid ((HO.out.rk hka.out HB.out.1 HB.out.2.1).rk (RK.grown1 (q:=sc) hgb.out) HB.out.1 HB.out.2.1);have c7:wb.cell? ⟨b,7,none⟩=some (.slice A acc.length ca):=(hlb.out.at_.cell (i:=7) (u:=vb.sizes) rfl).trans (by rw [hnb.out.same.sizes,HNR.out.same.sizes]);have AL:=hid (show acc.length≤100000 by have:=HAL.out;have:=HR.out.le;have:=HR.out.fits;omega);clear LC hka hgb hca hna;go_wp2_with (first | (at_builtin;refine push_nat rfl (.tmp 90) (.tmp 92) rfl wb w.heap.size (.slice A acc.length ca) acc y y rfl rfl rfl OB.out KB.out.size AL.out ?_;intro u' wx h1 h2 _;obtain⟨A2,n2,c2,rfl⟩:∃ A n c,u' = .slice A n c:=h1.slice3;have at2:Hid (RdAt wx b vb):=hid ((h2.block b HB.out.1).trans hlb.out.at_);have c7x:wx.cell? ⟨b,7,none⟩=some vb.sizes:=at2.out.cell (i:=7) rfl;have f7x:wx.frozen? ⟨b,7,none⟩=false:=at2.out.frozen 7;replace h1:=hid h1;replace h2:=hid h2) | fail)
     have g7:=grown_put wx b 7 (.slice A2 n2 c2);refine⟨⟨j+1,acc++[y],.slice A2 n2 c2,{ vb with sizes:=.slice A2 n2 c2 },by simp,by have:=LT.out;omega,h1.out.rk (RK.grown1 (q:=sc) g7) HB.out.1 HB.out.2.1,(KB.out.thenB h2.out).trans (RK.grown1 (q:=sc) g7),?_,acc_le HLE.out hy2,by have:=HLN.out;simp;exact this,.inl (HNZ.out.resolve_right (fun h=>h HR.out.fine)),SzGo.next HR.out HAL.out HE.out LT.out hlb.out h2.out HB.out.1 HB.out.2.1 HB.out.2.2 _⟩,by simp [intOf];have:=LT.out;omega⟩;have ha:=HNR.out;have hb:=hnb.out;exact⟨⟨hb.same.sc.trans ha.same.sc,hb.same.name.trans ha.same.name,hb.same.top.trans ha.same.top,rfl,hb.same.funs.trans ha.same.funs,hb.same.shared.trans ha.same.shared⟩,hb.told.trans ha.told⟩
    have R0:=hid (right_at b 1 e wr hR.fault);have d2:((e:Int) == 0)=false:=by have:=hR.ne;simpa using this
    rw [d2] at R0;have HR:=hid hR;have HE2:=hid hE;clear hR hE d2;go_wp2_with (first | (go_at_call 75;refine R0.out.mono ?_;rintro e w' ⟨rfl,rfl⟩) | fail)
    go_meet
    case rel=>exact⟨acc,_,v',HO,HK,HNR,HLE,hid (.inr ⟨e,p,HR.out,HE2.out⟩)⟩
   have d1:decide ((j:Int) < (N:Int))=false:=decide_eq_false (by omega);have HS:=hid hS;have HJ:=hid (show N - j=0∧j=N by omega);clear hS hj;go_wp2_with fail
   go_meet
   case rel =>
    refine⟨acc,_,v',HO,HK,HNR,HLE,hid ?_⟩;rcases HS.out with ⟨st,h1,h2,h3⟩ | h
    ·exact .inl ⟨st,h1,h2,by have:=HNZ.out.resolve_right (fun h=>h h1.fine);have:=HLN.out;have:=HJ.out;omega,by rw [h3,HJ.out.1];rfl⟩
    exact .inr h
 obtain⟨acc,u,v',HO,HK,HNR,HLE,HSE⟩:=hcut;clear S0 NR0 K12 NZ;obtain⟨As,cs,rfl,_⟩:=HO.out.form;have VN:Hid (v'.name = .string X∧v'.top=k∧v'.sizes = .slice As acc.length cs):=hid ⟨HNR.out.same.name.trans VA.out.1,HNR.out.same.top.trans VA.out.2.1,HNR.out.same.sizes⟩;have VF:Hid (v'.funs = .slice none 0 0∧v'.shared = .slice none 0 0∧v'.told=0):=hid ⟨HNR.out.same.funs.trans VA.out.2.2.2.1,HNR.out.same.shared.trans VA.out.2.2.2.2.1,HNR.out.told.trans VA.out.2.2.2.2.2⟩;have SZ:=hid (IntsT.own HO.out HB.out.1 HB.out.2.1);have SG:Hid ((acc.length≤100000∧1≤acc.length)∨v'.fe≠0):=hid (by
  rcases HSE.out with ⟨st,h1,h2,h3,h4⟩ | ⟨e,p,h1,h2⟩
  ·exact .inl ⟨by have:=h1.le;have:=h1.fits;omega,h3⟩
  ·exact .inr (by rw [h1.fe];have:=h1.ne;omega))
 have F0:Hid (FnGo s b sc w.heap.size acc M 0 [] v' E (gF7 s.data.toList (f,t) (k,pk) acc) wc):=hid (by
  rcases HSE.out with ⟨st,h1,h2,h3,h4⟩ | ⟨e,p,h1,h2⟩
  ·refine .inl ⟨⟨[],[],0⟩,st,[],h1,AccOk.start _ _,VF.out.2.2,by rw [VF.out.2.1];exact ownFn_nil _ _,fnIs_nil _ _ _,fnIs_nil _ _ _,fun g hg=>by rw [VF.out.1] at hg;simp [Value.ownBlock] at hg,?_⟩
   rw [h4];show (funsM _ _ ((M:Int)).toNat _ _).bind _=_;rw [Int.toNat_natCast];rfl
  ·exact .inr ⟨e,p,h1,h2⟩)
 clear HSE HNR HO;generalize v'=vq at VN VF SG F0;obtain⟨w13',hw13⟩:∃ W,W=wc:=⟨wc,rfl⟩
 subst hw13;go_upto_block 2 with fail
 go_cut [11] from 96 to 117 (fun _ wc=>∃ (vs:List (Value × Int × Value)) (v':RdV),Hid (RK w b sc wc)∧Hid (OwnFn wc w.heap.size v'.funs vs)∧Hid (IntsT wc b sc As acc)∧Hid (v'.name = .string X∧v'.top=k∧v'.sizes = .slice As acc.length cs)∧Hid (FnEnd s b sc (f,t) (k,pk) acc vs v' E wc))
 case first =>
  go_wp2_with fail
  go_loopw [11] (fun i wr=>∃ (j:Nat) (vs:List (Value × Int × Value)) (v':RdV),i = .int .i64 (j:Int)∧j≤M∧RK w b sc wr∧OwnFn wr w.heap.size v'.funs vs∧IntsT wr b sc As acc∧(v'.name = .string X∧v'.top=k∧v'.sizes = .slice As acc.length cs)∧((acc.length≤100000∧1≤acc.length)∨v'.fe≠0)∧FnGo s b sc w.heap.size acc M j vs v' E (gF7 s.data.toList (f,t) (k,pk) acc) wr) (fun i _=>M - (intOf i).toNat)
  case atStart=>exact⟨0,[],vq,rfl,Nat.zero_le _,HK.out,by rw [VF.out.1];exact ownFn_nil _ _,SZ.out,VN.out,SG.out,F0.out⟩
  case round =>
   clear F0 SZ HK SG VF VN;obtain⟨j,vs,v',rfl,hj,hK,hO,hI,hN,hsg,hF⟩:=hrel;have HK:=hid hK;have HO:=hid hO;have HI:=hid hI;have VN:=hid hN;have HSG:=hid hsg;clear hK hO hI hN hsg;by_cases hlt:j < M
   ·have d1:decide ((j:Int) < (M:Int))=true:=decide_eq_true (by omega)
    rcases hF with ⟨a,st,us,hFA⟩ | ⟨e,p,hR,hE⟩
    ·have R0:=hid (right_at b 1 0 wr hFA.ok.fault)
     have HFA:=hid hFA;have LT:=hid hlt;clear hFA;go_upto_region 19 with (first | (go_at_call 75;refine R0.out.mono ?_;rintro e w' ⟨rfl,rfl⟩) | fail)
     have bd:=(Below.refl wr.heap.size wr).drew;obtain⟨Af,cf,hfv⟩:=HO.out.form;have HFV:=hid hfv;have SL:=HSG.out.resolve_right (fun h=>h HFA.out.ok.fine);have HFd:Hid (FnAt s b sc w.heap.size acc M j vs v' E (gF7 s.data.toList (f,t) (k,pk) acc) wr.drew a st us):=hid (HFA.out.rk (RK.below bd) (HFA.out.ok.below bd) HB.out.1 HB.out.2.1);have KD:=hid (HK.out.trans (RK.below (p:=b) (q:=sc) bd));have OSd:Hid (OwnFn wr.drew w.heap.size (.slice Af vs.length cf) vs):=hid (hfv ▸ HO.out.rk (RK.below bd) HB.out.1 HB.out.2.1);have SZd:=hid (HI.out.rk (RK.below bd));refine wp_region_noPanic ?_;refine wp_region_held_drew (S:=fun W=>True) (by kernel_rfl) trivial (fun hHeld=>?_);generalize wr.drew=wd at HFd KD OSd SZd ⊢;have FR:=hid (functionR b sc w.heap.size cs As acc s st v' a us wd SL.1 SL.2 HLE.out HFd.out.ok VN.out.2.2 SZd.out (HT.out.rk KD.out) HFd.out.acc HFd.out.told HFd.out.sh HFd.out.shIs HB.out.1 HB.out.2.1 HB.out.2.2 KD.out.size);have SG1:=hid SL;have RDd:Hid (RdAt wd b v'):=hid HFd.out.ok.at_;have VL:Hid (vs.length≤1000000):=hid (by have h1:=HFd.out.fnIs.1;have h2:=HFd.out.acc.few;have h3:=HFd.out.ok.le;have h4:=HFd.out.ok.fits;simp at h1;omega);have FAR:Hid (∀ g,(Value.slice Af vs.length cf).ownBlock=some g→v'.shared.ownBlock≠some g):=hid (hfv ▸ HFd.out.far);have SB:Hid (∀ g,v'.shared.ownBlock=some g→w.heap.size≤g):=hid (fun g e=>(HFd.out.sh.obj g e).1);have FB:Hid (∀ g,(Value.slice Af vs.length cf).ownBlock=some g→w.heap.size≤g):=hid (fun g e=>(OSd.out.obj g e).1);clear hfv SL bd R0 HFA HK HO HI hlt d1;refine wt 0 ?r701;refine wt 1 ?r702;refine wt 2 ?r703;refine wt 3 ?r704;refine wt 5 ?r705;refine wpAnyH_ready (rs:=[4,6]) (by kernel_rfl) (by simp) ?_;refine AllReadyH.cons rfl (fun K hK=>?_) ?_
     ·have ac:wd.cell? ⟨b,8,none⟩=some (.slice Af vs.length cf):=(RDd.out.cell (i:=8) (u:=v'.funs) rfl).trans (by rw [HFV.out])
      go_simp;clear ac;refine hK.out _ _ (trivial) (fun hHeld'=>?_);replace hHeld:=hHeld';clear hHeld';clear hK K;try simp only [Act.put,pa,pb,pc,pd,pe,pf]
      refine wr1 6 (fun K hK=>?_);go_simp;refine FR.out.mono ?_;rintro e w12 ⟨A12,n12,c12,o12,B12,m12,d12,v12,rfl,hrf,hsf,hat,hfr⟩;have RF12:=hid hrf;have SF12:=hid hsf;have AT12:=hid hat;have FR12:=hid hfr;have R12:Hid (RdAt w12 b v12):=hid (FnRes.at_ hfr);clear hrf hsf hat hfr;refine hK.out _ _ (trivial) (fun hHeld'=>?_);replace hHeld:=hHeld';clear hHeld';clear hK K;try simp only [Act.put,pa,pb,pc,pd,pe,pf]
      refine wr1 7 (fun K hK=>?_);go_simp;have na:=new_val w12 (.cells #[.slice A12 n12 c12,.int .i64 o12,.slice B12 m12 d12] 202);have NA:=hid na;have NW:=hid (heap_alloc_new w12 (.cells #[.slice A12 n12 c12,.int .i64 o12,.slice B12 m12 d12] 202));have R13:Hid (RdAt (w12.alloc (.cells #[.slice A12 n12 c12,.int .i64 o12,.slice B12 m12 d12] 202)) b v12):=hid ((na.block b R12.out.lt).trans R12.out);refine hK.out _ _ (trivial) (fun hHeld'=>?_);replace hHeld:=hHeld';clear hHeld';clear na;generalize w12.alloc (.cells #[.slice A12 n12 c12,.int .i64 o12,.slice B12 m12 d12] 202)=w13 at NA NW R13 ⊢;have OW:Hid (OwnFn w13 w.heap.size (.slice Af vs.length cf) vs):=hid ((own_rf OSd.out RF12.out HB.out.1 HB.out.2.1 FAR.out).keepB (fun g _ h1 _=>NA.out.block g h1));generalize w12.heap.size=gl at NW ⊢;clear hK K;try simp only [Act.put,pa,pb,pc,pd,pe,pf]
      refine wr1 8 (fun K hK=>?_);refine push_fn_step rfl (.tmp 111) (.tmp 114) rfl w13 w.heap.size gl (.slice Af vs.length cf) vs A12 B12 n12 m12 c12 d12 o12 rfl (by rfl) OW.out NW.out (by have:=NA.out.size;have:=RF12.out.size;have:=KD.out.size;omega) VL.out ?_;intro v14 w14 hO hg hat;obtain⟨A14,n14,c14,rfl⟩:∃ A n c,v14 = .slice A n c:=by obtain⟨A,c,e⟩:=hO.form;exact⟨A,_,c,e⟩
      have OX:=hid hO;have GX:=hid hg;have AT:=hid hat;have R14:Hid (RdAt w14 b v12):=hid ((hg.block b (Array.getElem?_eq_some_iff.1 R13.out).1 (fun e=>by obtain⟨h1,_⟩:=OW.out.obj b e.symm;have:=HB.out.1;omega)).trans R13.out);refine hK.out _ _ (trivial) (fun hHeld'=>?_);replace hHeld:=hHeld';clear hHeld';clear hO hg hat;clear hK K;try simp only [Act.put,pa,pb,pc,pd,pe,pf]
      refine wt 9 ?r706;refine wt 10 ?r707;refine wr1 11 (fun K hK=>?_);have ac:w14.cell? ⟨b,8,none⟩=some v12.funs:=R14.out.cell (i:=8) rfl;have af:w14.frozen? ⟨b,8,none⟩=false:=frozen_of_row _ _ _ _ _ R14.out;go_simp;clear ac af;refine hK.out _ _ (trivial) (fun hHeld'=>?_);replace hHeld:=hHeld';clear hHeld';clear hK K;try simp only [Act.put,pa,pb,pc,pd,pe,pf]
      refine wpAnyH_done (by kernel_rfl) ?_ _;refine NoPanic.normal ?_;clear hHeld;obtain⟨m,hm⟩:∃ m,M - j=m+1:=⟨M - j - 1,by have:=LT.out;omega⟩
      obtain⟨z1,z2,z3⟩:=FnAt.next HFd.out hm HB.out.1 HB.out.2.1 HB.out.2.2 (HFV.out ▸ OSd.out) KD.out.size RF12.out SF12.out AT12.out FR12.out NA.out (HFV.out ▸ OW.out) OX.out (HFV.out ▸ GX.out) (HFV.out ▸ AT.out) R14.out;have KN:=hid (((((KD.out.rf RF12.out SB.out).trans (RK.below NA.out)).own GX.out FB.out).trans (RK.grown1 (q:=sc) (grown_put w14 b 8 (.slice A14 n14 c14)))));have Z1:=hid z1;have Z2:=hid z2;have SZN:=hid (SZd.out.keep z3.ints);clear hm z1 z2 z3;generalize w14.setCell ⟨b,8,none⟩ (.slice A14 n14 c14)=wn at KN Z1 Z2 SZN ⊢;go_wp2_with fail
      refine⟨⟨j+1,vs++[(.slice A12 n12 c12,o12,.slice B12 m12 d12)],{ v12 with funs:=.slice A14 n14 c14 },by simp,by have:=LT.out;omega,KN.out,Z2.out,SZN.out,⟨SF12.out.name.trans VN.out.1,SF12.out.top.trans VN.out.2.1,SF12.out.sizes.trans VN.out.2.2⟩,.inl SG1.out,Z1.out⟩,by simp [intOf];have:=LT.out;omega⟩
     refine AllReadyH.cons rfl (fun K hK=>?_) AllReadyH.nil;go_simp;refine FR.out.mono ?_;rintro e w12 ⟨A12,n12,c12,o12,B12,m12,d12,v12,rfl,hrf,hsf,hat,hfr⟩;have RF12:=hid hrf;have SF12:=hid hsf;have AT12:=hid hat;have FR12:=hid hfr;have R12:Hid (RdAt w12 b v12):=hid (FnRes.at_ hfr);clear hrf hsf hat hfr;refine hK.out _ _ (trivial) (fun hHeld'=>?_);replace hHeld:=hHeld';clear hHeld';clear hK K;try simp only [Act.put,pa,pb,pc,pd,pe,pf]
     refine wpAnyH_ready (rs:=[4,7]) (by kernel_rfl) (by simp) ?_;refine AllReadyH.cons rfl (fun K hK=>?_) ?_
     ·have ac:w12.cell? ⟨b,8,none⟩=some (.slice Af vs.length cf):=(R12.out.cell (i:=8) (u:=v12.funs) rfl).trans (by rw [SF12.out.funs,HFV.out])
      go_simp;clear ac;refine hK.out _ _ (trivial) (fun hHeld'=>?_);replace hHeld:=hHeld';clear hHeld';clear hK K;try simp only [Act.put,pa,pb,pc,pd,pe,pf]
      refine wr1 7 (fun K hK=>?_);go_simp;have na:=new_val w12 (.cells #[.slice A12 n12 c12,.int .i64 o12,.slice B12 m12 d12] 202);have NA:=hid na;have NW:=hid (heap_alloc_new w12 (.cells #[.slice A12 n12 c12,.int .i64 o12,.slice B12 m12 d12] 202));have R13:Hid (RdAt (w12.alloc (.cells #[.slice A12 n12 c12,.int .i64 o12,.slice B12 m12 d12] 202)) b v12):=hid ((na.block b R12.out.lt).trans R12.out);refine hK.out _ _ (trivial) (fun hHeld'=>?_);replace hHeld:=hHeld';clear hHeld';clear na;generalize w12.alloc (.cells #[.slice A12 n12 c12,.int .i64 o12,.slice B12 m12 d12] 202)=w13 at NA NW R13 ⊢;have OW:Hid (OwnFn w13 w.heap.size (.slice Af vs.length cf) vs):=hid ((own_rf OSd.out RF12.out HB.out.1 HB.out.2.1 FAR.out).keepB (fun g _ h1 _=>NA.out.block g h1));generalize w12.heap.size=gl at NW ⊢;clear hK K;try simp only [Act.put,pa,pb,pc,pd,pe,pf]
      refine wr1 8 (fun K hK=>?_);refine push_fn_step rfl (.tmp 111) (.tmp 114) rfl w13 w.heap.size gl (.slice Af vs.length cf) vs A12 B12 n12 m12 c12 d12 o12 rfl (by rfl) OW.out NW.out (by have:=NA.out.size;have:=RF12.out.size;have:=KD.out.size;omega) VL.out ?_;intro v14 w14 hO hg hat;obtain⟨A14,n14,c14,rfl⟩:∃ A n c,v14 = .slice A n c:=by obtain⟨A,c,e⟩:=hO.form;exact⟨A,_,c,e⟩
      have OX:=hid hO;have GX:=hid hg;have AT:=hid hat;have R14:Hid (RdAt w14 b v12):=hid ((hg.block b (Array.getElem?_eq_some_iff.1 R13.out).1 (fun e=>by obtain⟨h1,_⟩:=OW.out.obj b e.symm;have:=HB.out.1;omega)).trans R13.out);refine hK.out _ _ (trivial) (fun hHeld'=>?_);replace hHeld:=hHeld';clear hHeld';clear hO hg hat;clear hK K;try simp only [Act.put,pa,pb,pc,pd,pe,pf]
      refine wt 9 ?r708;refine wt 10 ?r709;refine wr1 11 (fun K hK=>?_);have ac:w14.cell? ⟨b,8,none⟩=some v12.funs:=R14.out.cell (i:=8) rfl;have af:w14.frozen? ⟨b,8,none⟩=false:=frozen_of_row _ _ _ _ _ R14.out;go_simp;clear ac af;refine hK.out _ _ (trivial) (fun hHeld'=>?_);replace hHeld:=hHeld';clear hHeld';clear hK K;try simp only [Act.put,pa,pb,pc,pd,pe,pf]
      refine wpAnyH_done (by kernel_rfl) ?_ _;refine NoPanic.normal ?_;clear hHeld;obtain⟨m,hm⟩:∃ m,M - j=m+1:=⟨M - j - 1,by have:=LT.out;omega⟩
      obtain⟨z1,z2,z3⟩:=FnAt.next HFd.out hm HB.out.1 HB.out.2.1 HB.out.2.2 (HFV.out ▸ OSd.out) KD.out.size RF12.out SF12.out AT12.out FR12.out NA.out (HFV.out ▸ OW.out) OX.out (HFV.out ▸ GX.out) (HFV.out ▸ AT.out) R14.out;have KN:=hid (((((KD.out.rf RF12.out SB.out).trans (RK.below NA.out)).own GX.out FB.out).trans (RK.grown1 (q:=sc) (grown_put w14 b 8 (.slice A14 n14 c14)))));have Z1:=hid z1;have Z2:=hid z2;have SZN:=hid (SZd.out.keep z3.ints);clear hm z1 z2 z3;generalize w14.setCell ⟨b,8,none⟩ (.slice A14 n14 c14)=wn at KN Z1 Z2 SZN ⊢;go_wp2_with fail
      refine⟨⟨j+1,vs++[(.slice A12 n12 c12,o12,.slice B12 m12 d12)],{ v12 with funs:=.slice A14 n14 c14 },by simp,by have:=LT.out;omega,KN.out,Z2.out,SZN.out,⟨SF12.out.name.trans VN.out.1,SF12.out.top.trans VN.out.2.1,SF12.out.sizes.trans VN.out.2.2⟩,.inl SG1.out,Z1.out⟩,by simp [intOf];have:=LT.out;omega⟩
     refine AllReadyH.cons rfl (fun K hK=>?_) AllReadyH.nil;go_simp;have na:=new_val w12 (.cells #[.slice A12 n12 c12,.int .i64 o12,.slice B12 m12 d12] 202);have NA:=hid na;have NW:=hid (heap_alloc_new w12 (.cells #[.slice A12 n12 c12,.int .i64 o12,.slice B12 m12 d12] 202));have R13:Hid (RdAt (w12.alloc (.cells #[.slice A12 n12 c12,.int .i64 o12,.slice B12 m12 d12] 202)) b v12):=hid ((na.block b R12.out.lt).trans R12.out);refine hK.out _ _ (trivial) (fun hHeld'=>?_);replace hHeld:=hHeld';clear hHeld';clear na;generalize w12.alloc (.cells #[.slice A12 n12 c12,.int .i64 o12,.slice B12 m12 d12] 202)=w13 at NA NW R13 ⊢;have OW:Hid (OwnFn w13 w.heap.size (.slice Af vs.length cf) vs):=hid ((own_rf OSd.out RF12.out HB.out.1 HB.out.2.1 FAR.out).keepB (fun g _ h1 _=>NA.out.block g h1));generalize w12.heap.size=gl at NW ⊢;clear hK K;try simp only [Act.put,pa,pb,pc,pd,pe,pf]
     refine wr1 4 (fun K hK=>?_);have ac:w13.cell? ⟨b,8,none⟩=some (.slice Af vs.length cf):=(R13.out.cell (i:=8) (u:=v12.funs) rfl).trans (by rw [SF12.out.funs,HFV.out]);go_simp;clear ac;refine hK.out _ _ (trivial) (fun hHeld'=>?_);replace hHeld:=hHeld';clear hHeld';clear hK K;try simp only [Act.put,pa,pb,pc,pd,pe,pf]
     refine wr1 8 (fun K hK=>?_);refine push_fn_step rfl (.tmp 111) (.tmp 114) rfl w13 w.heap.size gl (.slice Af vs.length cf) vs A12 B12 n12 m12 c12 d12 o12 rfl (by rfl) OW.out NW.out (by have:=NA.out.size;have:=RF12.out.size;have:=KD.out.size;omega) VL.out ?_;intro v14 w14 hO hg hat;obtain⟨A14,n14,c14,rfl⟩:∃ A n c,v14 = .slice A n c:=by obtain⟨A,c,e⟩:=hO.form;exact⟨A,_,c,e⟩
     have OX:=hid hO;have GX:=hid hg;have AT:=hid hat;have R14:Hid (RdAt w14 b v12):=hid ((hg.block b (Array.getElem?_eq_some_iff.1 R13.out).1 (fun e=>by obtain⟨h1,_⟩:=OW.out.obj b e.symm;have:=HB.out.1;omega)).trans R13.out);refine hK.out _ _ (trivial) (fun hHeld'=>?_);replace hHeld:=hHeld';clear hHeld';clear hO hg hat;clear hK K;try simp only [Act.put,pa,pb,pc,pd,pe,pf]
     refine wt 9 ?r710;refine wt 10 ?r711;refine wr1 11 (fun K hK=>?_);have ac:w14.cell? ⟨b,8,none⟩=some v12.funs:=R14.out.cell (i:=8) rfl;have af:w14.frozen? ⟨b,8,none⟩=false:=frozen_of_row _ _ _ _ _ R14.out;go_simp;clear ac af;refine hK.out _ _ (trivial) (fun hHeld'=>?_);replace hHeld:=hHeld';clear hHeld';clear hK K;try simp only [Act.put,pa,pb,pc,pd,pe,pf]
     refine wpAnyH_done (by kernel_rfl) ?_ _;refine NoPanic.normal ?_;clear hHeld;obtain⟨m,hm⟩:∃ m,M - j=m+1:=⟨M - j - 1,by have:=LT.out;omega⟩
     obtain⟨z1,z2,z3⟩:=FnAt.next HFd.out hm HB.out.1 HB.out.2.1 HB.out.2.2 (HFV.out ▸ OSd.out) KD.out.size RF12.out SF12.out AT12.out FR12.out NA.out (HFV.out ▸ OW.out) OX.out (HFV.out ▸ GX.out) (HFV.out ▸ AT.out) R14.out;have KN:=hid (((((KD.out.rf RF12.out SB.out).trans (RK.below NA.out)).own GX.out FB.out).trans (RK.grown1 (q:=sc) (grown_put w14 b 8 (.slice A14 n14 c14)))));have Z1:=hid z1;have Z2:=hid z2;have SZN:=hid (SZd.out.keep z3.ints);clear hm z1 z2 z3;generalize w14.setCell ⟨b,8,none⟩ (.slice A14 n14 c14)=wn at KN Z1 Z2 SZN ⊢;go_wp2_with fail
     refine⟨⟨j+1,vs++[(.slice A12 n12 c12,o12,.slice B12 m12 d12)],{ v12 with funs:=.slice A14 n14 c14 },by simp,by have:=LT.out;omega,KN.out,Z2.out,SZN.out,⟨SF12.out.name.trans VN.out.1,SF12.out.top.trans VN.out.2.1,SF12.out.sizes.trans VN.out.2.2⟩,.inl SG1.out,Z1.out⟩,by simp [intOf];have:=LT.out;omega⟩
    have R0:=hid (right_at b 1 e wr hR.fault);have d2:((e:Int) == 0)=false:=by have:=hR.ne;simpa using this
    rw [d2] at R0;have HR:=hid hR;have HE2:=hid hE;clear hR hE d2;go_wp2_with (first | (go_at_call 75;refine R0.out.mono ?_;rintro e w' ⟨rfl,rfl⟩) | fail)
    go_meet
    case rel=>exact⟨vs,v',HK,HO,HI,VN,hid (.inr ⟨e,p,HR.out,HE2.out⟩)⟩
   have d1:decide ((j:Int) < (M:Int))=false:=decide_eq_false (by omega);have HF:=hid hF;have HJ:=hid (show M - j=0 by omega);clear hF hj;go_wp2_with fail
   go_meet
   case rel =>
    refine⟨vs,v',HK,HO,HI,VN,hid ?_⟩;rcases HF.out with ⟨a,st,us,h⟩ | h
    ·exact .inl ⟨a,st,h.ok,by rw [h.E,HJ.out];rfl,VN.out.2.1 ▸ h.fnIs⟩
    exact .inr h
 obtain⟨vs,v',K1,O1,I1,N1,E1⟩:=hcut;have EA:=hid (endAll N1.out.1 N1.out.2.1 N1.out.2.2 HX.out I1.out O1.out HB.out.1 HB.out.2.1 E1.out);go_wp2_with (first | (go_at_call 136;refine EA.out.mono ?_;rintro e we ⟨⟨_,rfl⟩,hke,hra⟩;replace hke:=hid hke;replace hra:=hid hra) | fail)
 go_end0
 exact⟨⟨_,rfl⟩,K1.out.trans hke.out,hra.out⟩
end Go.Proofs.YtmokogkndbinlaaGreatDoor
