import Derived.Test.YtmokogkndbinlaaGreatDoorZhbo
set_option linter.all false
namespace Go.Proofs.YtmokogkndbinlaaGreatDoor
open Go.Lib (hid)
open Go.RowKit
def dr0 (l:Value) (n:Int):DrV:=⟨l,n,4,0,0,0,0,0,.slice none 0 0⟩
theorem belN {w W:World}{n:Nat}(h:Below n w W) (m:Nat):Below n w (W.drewN m):=⟨h.os,h.tape,h.output,h.size,h.block⟩
set_option maxRecDepth 100000 in
set_option maxHeartbeats 8000000 in
theorem read7 (s:ByteArray) (A:Option Addr) (c:Nat) (w:World) (hs:s.size≤65536) (hsc:s.size≤c) (h:BS w A s) :
  Calls Tryz.prog 62 #[.slice A s.size c] w (ReadPost7 s w):=by
 have d0:decide ((65536:Int) < (s.size:Int))=false:=decide_eq_false (by omega);have WA:=hid (words_any A c s w (by omega) hsc h);have HS:=hid hs;clear h hsc hs;go_enter Tryz.func62,Tryz.ntmps62
 go_upto_region 4 with (first
  | (go_at_call 110;refine WA.out.mono ?_;rintro e w1 ⟨⟨wv,rfl,hO⟩,hb⟩;have HO:=hid hO;have HB1:=hid hb;clear hO hb)
  | fail)
 clear d0 WA;obtain⟨Aw,cw,rfl,-,-⟩:=HO.out.formN rfl;obtain⟨nw,hnw⟩:∃ n,(wordsL s.data.toList 0).1.length=n:=⟨_,rfl⟩
 rw [hnw] at HO ⊢;have HNW:=hid hnw;clear hnw;have BV:Hid (∀ g,(Value.slice Aw nw cw).ownBlock=some g→w.heap.size≤g∧g < w1.heap.size):=hid (fun g e=>World.ownsRow.lt HO.out g e);have na:=new_val w1 (.cells (drC (dr0 (.slice Aw nw cw) (s.size:Int))) 171);have A2:Hid (DrAt (w1.alloc (.cells (drC (dr0 (.slice Aw nw cw) (s.size:Int))) 171)) w1.heap.size (dr0 (.slice Aw nw cw) (s.size:Int))):=hid (heap_alloc_new w1 _);have O2:Hid (OwnW (w1.alloc (.cells (drC (dr0 (.slice Aw nw cw) (s.size:Int))) 171)) w.heap.size (.slice Aw nw cw) s (wordsL s.data.toList 0).1):=hid (HO.out.below na (Nat.le_refl _));have B2:Hid (Below w.heap.size w (w1.alloc (.cells (drC (dr0 (.slice Aw nw cw) (s.size:Int))) 171))):=hid (then_ HB1.out na);have Z2:Hid (w.heap.size≤w1.heap.size):=hid HB1.out.size;clear na;go_upto_if 34 with fail
 change Code.wp _ _ _ _ (w1.alloc (.cells (drC (dr0 (.slice Aw nw cw) (s.size:Int))) 171))
 generalize w1.alloc (.cells (drC (dr0 (.slice Aw nw cw) (s.size:Int))) 171)=w2 at A2 O2 B2 ⊢;obtain⟨b,hbe⟩:∃ b,w1.heap.size=b:=⟨_,rfl⟩
 rw [hbe] at A2 BV Z2 ⊢;clear hbe HO HB1;have WB:Hid (∀ g,(Value.slice Aw nw cw).ownBlock=some g→g≠b):=hid (fun g e=>by have:=(BV.out g e).2;omega);obtain⟨bw,hbw⟩:∃ bw,(wordsL s.data.toList 0).2=bw:=⟨_,rfl⟩
 have HBW:=hid hbw;rw [hbw] at ⊢;go_cut [6] from 34 to 41 (fun v6 wc=>Hid (v6 = .int .i64 (badI bw)∧∃ v,DrOk wc b s ⟨0,none⟩ v∧Below w.heap.size w wc∧v.lines=0∧v.shared = .slice none 0 0))
 case first =>
  cases bw with
  | none =>
   have FIN:Hid (∃ v,DrOk w2 b s ⟨0,none⟩ v∧Below w.heap.size w w2∧v.lines=0∧v.shared = .slice none 0 0):=hid ⟨_,⟨A2.out,rfl,Nat.zero_le _,by have:=HS.out;omega,rfl,O2.out.wl WB.out,by rw [HBW.out];exact⟨rfl,rfl⟩⟩,B2.out,rfl,rfl⟩;have db:decide ((0:Int)≤badI none)=false:=rfl;clear hbw;go_wp2_with fail
   go_meet
   case rel=>exact hid ⟨rfl,FIN.out⟩
  | some t =>
   have db:decide ((0:Int)≤badI (some t))=true:=decide_eq_true (Int.natCast_nonneg t);have g1:=grown_put w2 b 1 (.int .i64 (badI (some t)));have g2:=grown_put (w2.setCell ⟨b,1,none⟩ (.int .i64 (badI (some t)))) b 2 (.int .i64 11);have a1:DrAt (w2.setCell ⟨b,1,none⟩ (.int .i64 (badI (some t)))) b { dr0 (.slice Aw nw cw) (s.size:Int) with en:=badI (some t) }:=A2.out.put 1 (.int .i64 (badI (some t))) rfl;have a2:DrAt ((w2.setCell ⟨b,1,none⟩ (.int .i64 (badI (some t)))).setCell ⟨b,2,none⟩ (.int .i64 11)) b { dr0 (.slice Aw nw cw) (s.size:Int) with en:=badI (some t),ee:=11 }:=a1.put 2 (.int .i64 11) rfl;have FIN:Hid (∃ v,DrOk ((w2.setCell ⟨b,1,none⟩ (.int .i64 (badI (some t)))).setCell ⟨b,2,none⟩ (.int .i64 11)) b s ⟨0,none⟩ v∧Below w.heap.size w ((w2.setCell ⟨b,1,none⟩ (.int .i64 (badI (some t)))).setCell ⟨b,2,none⟩ (.int .i64 11))∧v.lines=0∧v.shared = .slice none 0 0):=hid
    ⟨_,⟨a2,rfl,Nat.zero_le _,by have:=HS.out;omega,rfl,(O2.out.wl WB.out).keep (KeepD.dr A2.out (g1.trans g2)),by rw [HBW.out];exact⟨rfl,rfl⟩⟩,below_grown (below_grown B2.out g1 (Nat.le_refl _) Z2.out) g2 (Nat.le_refl _) Z2.out,rfl,rfl⟩
   have f1:=A2.out.frozen 1;have f2:=a1.frozen 2;have k1:w2.cell? ⟨b,1,none⟩=some (.int .i64 (s.size:Int)):=A2.out.cell (i:=1) rfl;have k2:(w2.setCell ⟨b,1,none⟩ (.int .i64 (badI (some t)))).cell? ⟨b,2,none⟩=some (.int .i64 4):=a1.cell (i:=2) rfl;clear hbw g1 g2 a1 a2;go_wp2_with fail
   go_meet
   case rel=>exact hid ⟨rfl,FIN.out⟩
 obtain⟨rfl,v2,ho,hb,hl0,hs0⟩:=hcut.out;have OK2:=hid ho;have B3:=hid hb;have L0:=hid (And.intro hl0 hs0);clear hcut ho hb hl0 hs0 A2 O2 B2 hbw;obtain⟨E,hE⟩:∃ E,fileM s.data.toList 1=E:=⟨_,rfl⟩
 have HE:=hid hE;have R0:Hid (DrIn wc b s v2 v2 E (fun st=>(wordM s.data.toList st).bind (gF1 s.data.toList 1))):=hid ⟨DrNear.refl _,.inl ⟨⟨0,none⟩,OK2.out,hE ▸ fileM_cps _ _⟩⟩;clear hE;have na:=new_val wc (.cells #[.string ⟨#[]⟩,.int .i64 0,.slice none 0 0,.slice none 0 0] 37);have S0:Hid (RS w (wc.alloc (.cells #[.string ⟨#[]⟩,.int .i64 0,.slice none 0 0,.slice none 0 0] 37)) b wc.heap.size (.string ⟨#[]⟩) (.int .i64 0) (.slice none 0 0) (.slice none 0 0)):=hid ⟨heap_alloc_new wc _,then_ B3.out na,Z2.out,OK2.out.at_.lt⟩;have R1:=hid (R0.out.below na);clear na R0;go_upto_region 8 with fail
 change Code.wp _ _ _ _ (wc.alloc (.cells #[.string ⟨#[]⟩,.int .i64 0,.slice none 0 0,.slice none 0 0] 37))
 generalize wc.alloc (.cells #[.string ⟨#[]⟩,.int .i64 0,.slice none 0 0,.slice none 0 0] 37)=w4 at S0 R1 ⊢;obtain⟨fb,hfb⟩:∃ fb,wc.heap.size=fb:=⟨_,rfl⟩
 rw [hfb] at S0 ⊢;clear hfb;have WD:=hid (word7 R1.out);go_upto_region 9 with (first
  | (go_at_call 111;refine WD.out.mono ?_;rintro e w5 ⟨f,t,p,v5,rfl,hsz,hcase,hg,hi⟩;have HSZ:=hid hsz;have HCS:=hid hcase;have G5:=hid hg;have I5:=hid hi;clear hsz hcase hg hi)
  | fail)
 have na:=new_val w5 (.cells #[.string (s.extract f t),.int .i64 (p:Int)] 173);have NR:=hid (heap_alloc_new w5 (.cells #[.string (s.extract f t),.int .i64 (p:Int)] 173));have S6:=hid ((S0.out.gr G5.out).below na);have I6':=hid (I5.out.below na);clear na S0 R1 G5 I5 WD
 change Code.wp _ _ _ _ (w5.alloc (.cells #[.string (s.extract f t),.int .i64 (p:Int)] 173))
 generalize w5.alloc (.cells #[.string (s.extract f t),.int .i64 (p:Int)] 173)=w6 at NR S6 I6' ⊢;obtain⟨wd,hwd⟩:∃ wd,w5.heap.size=wd:=⟨_,rfl⟩
 rw [hwd] at NR ⊢;clear hwd;obtain⟨X,hX⟩:∃ X,s.extract f t=X:=⟨_,rfl⟩
 have HX:=hid hX;rw [hX] at NR HSZ HCS ⊢;clear hX;have q0:w6.cell? ⟨wd,0,none⟩=some (.string X):=by rw [cell_of_row _ _ _ _ _ _ NR.out];rfl
 have z0:=S6.out.frozen 0;have k0:=S6.out.cells.1;have hx9:X.size≤100000:=HSZ.out;go_upto_region 10 with fail
 have S7:=hid (S6.out.put 0 (.string X) rfl);have I7:=hid (I6'.out.file (i:=0) (u:=.string X) S6.out);have NR7:Hid ((w6.setCell ⟨fb,0,none⟩ (.string X)).heap[wd]? = some (.cells #[.string X,.int .i64 (p:Int)] 173 (0,0))):=hid (((grown_put w6 fb 0 (.string X)).block wd (Array.getElem?_eq_some_iff.1 NR.out).1 (fun e=>by
  injection e with e;subst e;have h1:=S6.out.row;rw [NR.out] at h1;injection h1 with h1;injection h1 with _ h1;exact absurd h1 (by decide))).trans NR.out)
 clear q0 z0 k0 S6 I6' NR
 change Code.wp _ _ _ _ (w6.setCell ⟨fb,0,none⟩ (.string X))
 generalize w6.setCell ⟨fb,0,none⟩ (.string X)=w7 at S7 I7 NR7 ⊢;have q0:w7.cell? ⟨wd,0,none⟩=some (.string X):=by rw [cell_of_row _ _ _ _ _ _ NR7.out];rfl
 have q1:w7.cell? ⟨wd,1,none⟩=some (.int .i64 (p:Int)):=by rw [cell_of_row _ _ _ _ _ _ NR7.out];rfl
 have L1:=hid (lim7 (is:=decide ((64:Int) < (X.size:Int))) (p:=p) (C:=fun s1=>(numM s.data.toList 1 farZ s1).bind (gF2 s.data.toList 1 (f,t))) (I7.out.convB (fun hb st=>by
  rcases HCS.out with ⟨-,h1,h2⟩ | h
  ·subst h1
   show (numM _ 1 farZ (limS (decide (64 < t - p)) p st)).bind _=_;rw [h2,show decide ((64:Int) < ((t - p:Nat):Int))=decide (64 < t - p) from dec_nat 64 (t - p)]
  ·exact absurd hb h)))
 go_upto_region 11 with (first
  | (go_at_call 112;refine L1.out.mono ?_;rintro e w8 ⟨v8,⟨_,rfl⟩,hg,-,hi⟩;have S8:=hid (S7.out.gr hg);have I8:=hid hi;clear hg hi)
  | fail)
 clear q0 q1 S7 I7 NR7 L1 hx9;have M1:=hid (num7 (lo:=1) (hi:=4611686018427387904) I8.out);go_upto_region 12 with (first
  | (go_at_call 113;refine M1.out.mono ?_;rintro e w9 ⟨n,np,v9,rfl,hr,hz,-,hl,hg,hi⟩;have NB:=hid (And.intro hr (And.intro hz hl));have S9:=hid (S8.out.gr hg);have I9:=hid hi;clear hr hz hl hg hi)
  | fail)
 clear M1 S8 I8;have L2:=hid (lim7 (is:=decide ((64:Int) < n)) (p:=np) (C:=fun s2=>(numM s.data.toList 1 farZ s2).bind (gF3 s.data.toList (f,t) (n,np))) (I9.out.conv (fun st=>rfl)));go_upto_region 13 with (first
  | (go_at_call 112;refine L2.out.mono ?_;rintro e w10 ⟨v10,⟨_,rfl⟩,hg,hbl,hi⟩;have BL10:=hid hbl;have S10:=hid (S9.out.gr hg);have I10:=hid hi;clear hg hi hbl)
  | fail)
 clear L2 S9 I9;have M2:=hid (num7 (lo:=1) (hi:=4611686018427387904) I10.out);go_upto_region 14 with (first
  | (go_at_call 113;refine M2.out.mono ?_;rintro e w11 ⟨g,gp,v11,rfl,hr,hz,hk,hl,hg,hi⟩;have GB:=hid (And.intro hr (And.intro hz (And.intro hk hl)));have S11:=hid (S10.out.gr hg);have I11:=hid hi;clear hr hz hk hl hg hi)
  | fail)
 clear M2 S10 I10;have M3:=hid (num7 (lo:=0) (hi:=4611686018427387904) (C:=gF4 s.data.toList (f,t) (n,np) (g,gp)) I11.out);go_upto_region 15 with (first
  | (go_at_call 113;refine M3.out.mono ?_;rintro e w12 ⟨c',cp,v12,rfl,hr,hz,hk,hl,hg,hi⟩;have CB:=hid (And.intro hr (And.intro hz (And.intro hk hl)));have S12:=hid (S11.out.gr hg);have I12:=hid hi;clear hr hz hk hl hg hi)
  | fail)
 clear M3 S11 I11;have L4:=hid (lim7 (is:=decide ((256:Int) < c')) (p:=cp) (C:=fun s4=>(numM s.data.toList 1 farZ s4).bind (gF5 s.data.toList (f,t) (n,np) (g,gp) (c',cp))) (I12.out.conv (fun st=>rfl)));go_upto_region 16 with (first
  | (go_at_call 112;refine L4.out.mono ?_;rintro e w13 ⟨v13,⟨_,rfl⟩,hg,hbl,hi⟩;have BL13:=hid hbl;have S13:=hid (S12.out.gr hg);have I13:=hid hi;clear hg hi hbl)
  | fail)
 clear L4 S12 I12;have M5:=hid (num7 (lo:=1) (hi:=4611686018427387904) I13.out);go_upto_region 17 with (first
  | (go_at_call 113;refine M5.out.mono ?_;rintro e w14 ⟨k,kp,v14,rfl,hr,hz,hk,hl,hg,hi⟩;have KB:=hid (And.intro hr (And.intro hz (And.intro hk hl)));have S14:=hid (S13.out.gr hg);have I14:=hid hi;clear hr hz hk hl hg hi)
  | fail)
 clear M5 S13 I13;have L6:=hid (lim7 (is:=decide ((2147483648:Int) < k)) (p:=kp) (C:=fun s5=>(sizesM s.data.toList g n.toNat [] s5).bind (gF6 s.data.toList (f,t) (c',cp) (k,kp))) (I14.out.conv (fun st=>rfl)));go_upto_region 18 with (first
  | (go_at_call 112;refine L6.out.mono ?_;rintro e w15 ⟨v15,⟨_,rfl⟩,hg,hbl,hi⟩;have BL15:=hid hbl;have S15:=hid (S14.out.gr hg);have I15:=hid hi;clear hg hi hbl)
  | fail)
 clear L6 S14 I14;have z1:=S15.out.frozen 1;have k1:=S15.out.cells.2.1;go_upto_region 19 with fail
 have S16:=hid (S15.out.put 1 (.int .i64 k) rfl);have I16:=hid (I15.out.file (i:=1) (u:=.int .i64 k) S15.out);clear z1 k1 S15 I15
 change Code.wp _ _ _ _ (w15.setCell ⟨fb,1,none⟩ (.int .i64 k))
 generalize w15.setCell ⟨fb,1,none⟩ (.int .i64 k)=w16 at S16 I16 ⊢;obtain⟨N,hN⟩:∃ N,n.toNat=N:=⟨_,rfl⟩
 have LN:Hid (v15.bad=0→lenS v15.l≤100000):=hid (fun h=>(drIn_few7 I16.out h));have NB':Hid (n=(N:Int)∧(N:Int)≤4611686018427387904):=hid (by rcases NB.out.1 with h | h <;> omega);rw [hN] at I16;have SZ0:Hid (SzD w w16 b fb (.string X) (.int .i64 k) s g N v2 E (gF6 s.data.toList (f,t) (c',cp) (k,kp)) 0 [] (.slice none 0 0) v15):=hid ⟨S16.out,own6_nil _ _,I16.out,rfl,fun h=>by have:=LN.out h;omega,Nat.zero_le _,fun x h=>absurd h (by simp)⟩;have hne:=NB'.out.1;rw [hne];have HNE:=NB';clear S16 I16 hN hne NB';go_upto_block 0 with fail
 go_cut [16,17,18] from 98 to 130 (fun _ _ _ wc=>Hid (∃ acc Az cz v',SzE w wc b fb (.string X) (.int .i64 k) s v2 E (gF6 s.data.toList (f,t) (c',cp) (k,kp)) acc Az cz v'))
 case first =>
  go_wp2_with fail
  go_loopw [16,17,18] (fun i _ _ wr=>∃ (j:Nat) (acc:List Nat) (szv:Value) (v':DrV),i = .int .i64 (j:Int)∧j≤N∧SzD w wr b fb (.string X) (.int .i64 k) s g N v2 E (gF6 s.data.toList (f,t) (c',cp) (k,kp)) j acc szv v') (fun i _ _ _=>N - (intOf i).toNat)
  case atStart=>exact⟨0,[],_,v15,rfl,Nat.zero_le _,SZ0.out⟩
  case round =>
   obtain⟨j,acc,szv,v',rfl,hj,hsz⟩:=hrel;have SZ:=hid hsz;clear hsz SZ0;have c3:wr.cell? ⟨b,3,none⟩=some (.int .i64 v'.bad):=SZ.out.rd.at_.cell (i:=3) rfl;by_cases hlt:j < N
   ·have d5:decide ((j:Int) < (N:Int))=true:=decide_eq_true (Int.ofNat_lt.2 hlt)
    by_cases hb:v'.bad=0
    ·
     rw [hb] at c3;have CNT:=hid (SZ.out.cnt hb);have HB0:=hid hb;clear hb;have NUM:=hid (num7 (SZ.out.rd.conv (fun st=>by rw [sizesM_next (by omega),RdR.bind_assoc])));have T5:=hid (show j≤100000 by have:=CNT.out;omega);obtain⟨Az,cz,rfl,hcz⟩:=SZ.out.own.form;go_upto_region 23 with (first
      | (go_at_call 113;refine NUM.out.mono ?_;rintro e w17 ⟨yi,yp,v17,rfl,hr,-,hk,hl,hg,hi⟩;have YB:=hid (And.intro hr (And.intro hk hl));have G17:=hid hg;have I17:=hid hi;clear hr hk hl hg hi)
      | fail)
     obtain⟨y,rfl⟩:=Int.eq_ofNat_of_zero_le (show 0≤yi by rcases YB.out.1 with h | h;exact Int.le_trans (by decide) h.1;exact Int.le_of_eq h.1.symm);have LX:=hid (lim7 (is:=decide ((32:Int) < (y:Int))) (p:=yp) (C:=fun st=>(sizesM s.data.toList g (N - (j+1)) (acc++[y]) st).bind (gF6 s.data.toList (f,t) (c',cp) (k,kp))) (I17.out.conv (fun st=>by simp only [Int.toNat_natCast];rfl)));have YS:=hid (show y≤4611686018427387904 by rcases YB.out.1 with h | h <;> rcases GB.out.1 with h' | h' <;> omega);clear NUM;go_upto_region 24 with (first
      | (go_at_call 112;refine LX.out.mono ?_;rintro e w18 ⟨v18,⟨_,rfl⟩,hg,hbl,hi⟩;have G18:=hid (G17.out.trans hg);have I18:=hid hi;have BL:=hid hbl;clear hg hbl hi)
      | fail)
     have CN:=hid (show v18.bad=0→j+1+lenS v18.l≤100000 from fun h=>by
      have h1:=YB.out.2.2 (BL.out.1.symm.trans h);have h2:=CNT.out;have h3:lenS v18.l=lenS v17.l:=by rw [BL.out.2]
      omega)
     have S18:=hid (SZ.out.f.gr G18.out);have O18:=hid (SZ.out.own.dr SZ.out.rd.at_ G18.out);have na:=new_val w18 (.cells #[.int .i64 (y:Int)] 2);have NA:=hid na;have CY:Hid ((w18.alloc (.cells #[.int .i64 (y:Int)] 2)).cell? ((⟨w18.heap.size,0,none⟩:Addr).add 0)=some (.int .i64 (y:Int))):=hid (by
      show (w18.alloc _).cell? ⟨w18.heap.size,0,none⟩=_;rw [cell_of_row _ _ _ _ _ _ (heap_alloc_new w18 _)];rfl)
     have OA:=hid (O18.out.keepB (fun g _ h _=>na.block g h));have SA:=hid (S18.out.below na);have k2:w18.cell? ⟨fb,2,none⟩=some (.slice Az acc.length cz):=S18.out.cells.2.2.1;have BZ:=hid (SA.out.bel.size);have AL9:=hid (show acc.length≤1000000 by rw [SZ.out.len];have:=T5.out;omega);clear na c3 LX I17 S18 O18;go_upto_region 21 with (first
      | (at_builtin;refine push6 rfl (.tmp 125) (.tmp 127) rfl (w18.alloc (.cells #[.int .i64 (y:Int)] 2)) w.heap.size y (.slice Az acc.length cz) acc ⟨w18.heap.size,0,none⟩ rfl rfl OA.out CY.out BZ.out AL9.out ?_;intro v6 w19 h1 h2 h3;obtain⟨A6,q6,rfl⟩:=h1.formN (m:=acc.length+1) (by simp);have rx:=frow OA.out SA.out.row h2;have fx:=frozen_of_row w19 fb 2 _ _ rx;have kx2:w19.cell? ⟨fb,2,none⟩=some (.slice Az acc.length cz):=(by rw [cell_of_row _ _ _ _ _ _ rx];rfl);have H6:=hid (And.intro h1 h2);clear h1 h2 h3 rx)
      | fail)
     have SN:=hid (SZ.out.next G18.out I18.out CN.out T5.out YS.out NA.out OA.out H6.out.1 H6.out.2);have hj5:j≤100000:=T5.out;clear fx kx2 k2 H6
     change Code.wp _ _ _ _ (w19.setCell ⟨fb,2,none⟩ (.slice A6 (acc.length+1) q6))
     generalize w19.setCell ⟨fb,2,none⟩ (.slice A6 (acc.length+1) q6)=w20 at SN ⊢;go_wp2_with fail
     go_roundw
     case rel=>exact⟨j+1,acc++[y],_,v18,by go_num,by omega,SN.out⟩
     case measure=>simp [intOf];omega
    have HBN:=hid hb;have d6:(v'.bad == 0)=false:=by simpa using hb
    obtain⟨Az,cz,rfl,hcz⟩:=SZ.out.own.form;clear hb hcz;go_wp2_with fail
    go_meet
    case rel=>exact hid ⟨acc,Az,cz,v',SZ.out.f,SZ.out.own,SZ.out.rd.convB (fun h=>absurd h HBN.out),fun h=>absurd h HBN.out,SZ.out.small⟩
   have d5:decide ((j:Int) < (N:Int))=false:=decide_eq_false (by omega);have HJN:=hid (show N - j=0 by omega);obtain⟨Az,cz,rfl,hcz⟩:=SZ.out.own.form;clear hcz;go_wp2_with fail
   go_meet
   case rel=>exact hid ⟨acc,Az,cz,v',SZ.out.f,SZ.out.own,SZ.out.rd.conv (fun st=>by rw [HJN.out];rfl),fun h=>by have h1:=SZ.out.cnt h;have h2:=SZ.out.len;omega,SZ.out.small⟩
 obtain⟨sz,Az,cz,v20,hse⟩:=hcut.out;have SE:=hid hse;clear hcut hse SZ0;obtain⟨M,hM⟩:∃ M,c'.toNat=M:=⟨_,rfl⟩
 have CM:Hid (c'=(M:Int)∧(M:Int)≤4611686018427387904):=hid (by rcases CB.out.1 with h | h <;> omega);have FS0:Hid (FsD w wc b fb (.string X) (.int .i64 k) Az cz s sz E (fun a st=>(funsM s.data.toList sz (M - 0) a st).bind (gF7 s.data.toList (f,t) (k,kp) sz)) 0 [] (.slice none 0 0) v20):=hid (by
  refine⟨SE.out.f,SE.out.own.viewN.2.2,ownFd_nil _ _,?_,rfl,Nat.zero_le _,SE.out.few⟩;have hn:=SE.out.rd.1;have hsh:v20.shared = .slice none 0 0:=hn.shared.trans L0.out.2;have hli:v20.lines=0:=hn.lines.trans L0.out.1;rcases SE.out.rd.2 with ⟨st,h1,h2⟩ | h
  ·refine .inl ⟨⟨[],[],0⟩,st,[],h1,AccOk.start _ _,hli,by rw [hsh];exact ownFd_nil _ _,fdIs_nil _ _,fdIs_nil _ _,.inl (by rw [hsh];rfl),?_⟩
   rw [h2,Nat.sub_zero,← hM];rfl
  ·exact .inr h)
 have SML:=hid SE.out.small;have SZC:=hid SE.out.own.viewN.2.1;have hce:=CM.out.1;rw [hce];clear hce hM SE;go_upto_block 2 with fail
 go_cut [19] from 131 to 157 (fun _ wx=>Hid (∃ us fv v' j,FsD w wx b fb (.string X) (.int .i64 k) Az cz s sz E (gF7 s.data.toList (f,t) (k,kp) sz) j us fv v'))
 case first =>
  go_wp2_with fail
  go_loopw [19] (fun i wr=>∃ (j:Nat) (us:List (Value × Value × Int × Value)) (fv:Value) (v':DrV),i = .int .i64 (j:Int)∧j≤M∧FsD w wr b fb (.string X) (.int .i64 k) Az cz s sz E (fun a st=>(funsM s.data.toList sz (M - j) a st).bind (gF7 s.data.toList (f,t) (k,kp) sz)) j us fv v') (fun i _=>M - (intOf i).toNat)
  case atStart=>exact⟨0,[],_,v20,rfl,Nat.zero_le _,FS0.out⟩
  case round =>
   clear FS0;obtain⟨j,us,fv,v',rfl,hj,hfs⟩:=hrel;have FS:=hid hfs;clear hfs;have c3:wr.cell? ⟨b,3,none⟩=some (.int .i64 v'.bad):=FS.out.k.at_.cell (i:=3) rfl;by_cases hlt:j < M
   ·have d5:decide ((j:Int) < (M:Int))=true:=decide_eq_true (Int.ofNat_lt.2 hlt)
    by_cases hb:v'.bad=0
    ·
     rw [hb] at c3;have LTJ:=hid hlt;obtain⟨Af,cf,rfl,hcf⟩:=FS.out.own.form;clear hcf;have UL:=hid (show us.length≤1000000 by rw [FS.out.len];have:=FS.out.few;omega);go_upto_region 28 with fail
     clear c3 d5 hlt;have FSd:=hid (FS.out.below ((Below.refl wr.heap.size wr).drew));have CCd:Hid (wr.drew.cell? ⟨fb,2,none⟩=some (.slice Az sz.length cz)):=hid FSd.out.f.cells.2.2.1;refine wp_region_noPanic ?_;refine wp_region_held_drew (S:=fun W=>W.cell? ⟨fb,2,none⟩=some (.slice Az sz.length cz)) (by kernel_rfl) CCd.out (fun hHeld=>?_);generalize wr.drew=wd at hHeld FSd CCd ⊢;clear FS CCd;obtain⟨a,st,us',k1,k2,k3,k4,k5,k6,k7,k8⟩:∃ a st us',DrOk wd b s st v'∧AccOk sz a st∧v'.lines=a.told∧OwnFd wd (fb+1) v'.shared us'∧FdIs wd sz us' a.shared∧FdIs wd sz us a.funs∧(v'.shared.ownBlock=none∨v'.shared.ownBlock≠(Value.slice Af us.length cf).ownBlock)∧E=(funsM s.data.toList sz (M - j) a st).bind (gF7 s.data.toList (f,t) (k,kp) sz):=by
      rcases FSd.out.k with h | ⟨e,p,h,_⟩
      ·exact h
      exact absurd hb h.bad
     have FR:=hid (fun7 b (fb+1) cz Az sz s st v' a us' wd (FSd.out.nv hb) SML.out k1 k2 k3 k4 k5 FSd.out.szs (by have:=FSd.out.f.far;omega) (Array.getElem?_eq_some_iff.1 FSd.out.f.row).1);have T5:=hid (show j≤100000 by
      have h1:=k2.few;have h2:=k1.le;have h3:=k1.fits;have h4:=k6.1;have h5:=FSd.out.len;omega)
     have K1:=hid k1;have K2:=hid k2;have K4:=hid k4;have K6:=hid k6;have K7:=hid k7;have K8:=hid k8;clear k1 k2 k3 k4 k5 k6 k7 k8 hb hj;refine wt 0 ?r901;refine wt 1 ?r902;refine wt 2 ?r903;refine wt 3 ?r904;refine wt 5 ?r905;refine wt 6 ?r906;refine wt 7 ?r907;refine wt 8 ?r908;refine wt 9 ?r909;refine wpAnyH_ready (rs:=[4,10]) (by kernel_rfl) (by simp) ?_;refine AllReadyH.cons rfl (fun K hK=>?_) ?_
     ·have ac:wd.cell? ⟨fb,3,none⟩=some (.slice Af us.length cf):=FSd.out.f.cells.2.2.2
      go_simp;clear ac;refine hK.out _ _ (hHeld) (fun hHeld'=>?_);replace hHeld:=hHeld';clear hHeld';clear hK K;try simp only [Act.put,pa,pb,pc,pd,pe,pf]
      refine wr1 10 (fun K hK=>?_);go_simp;refine FR.out.mono ?_;rintro e w12 ⟨A1,n1,c1,A2,n2,c2,o,A3,n3,c3,v12,rfl,hres⟩;have RES:Hid (FunRes s b (fb+1) sz v' a (funM s.data.toList sz a st) wd A1 n1 c1 A2 n2 c2 o A3 n3 c3 v12 w12):=hid hres;have R12:=hid (row_frd FSd.out.f K4.out RES.out.1);clear hres;refine hK.out _ _ (by show w12.cell? ⟨fb,2,none⟩=_;rw [cell_of_row _ _ _ _ _ _ R12.out];rfl) (fun hHeld'=>?_);replace hHeld:=hHeld';clear hHeld';clear hK K;try simp only [Act.put,pa,pb,pc,pd,pe,pf]
      refine wr1 11 (fun K hK=>?_);go_simp;have na:=new_val w12 (.cells #[.slice A1 n1 c1,.slice A2 n2 c2,.int .i64 o,.slice A3 n3 c3] 40);have NA:=hid na;have NW:=hid (heap_alloc_new w12 (.cells #[.slice A1 n1 c1,.slice A2 n2 c2,.int .i64 o,.slice A3 n3 c3] 40));have R13:=hid ((na.block fb (Array.getElem?_eq_some_iff.1 R12.out).1).trans R12.out);refine hK.out _ _ (by show (w12.alloc _).cell? ⟨fb,2,none⟩=_;rw [cell_of_row _ _ _ _ _ _ R13.out];rfl) (fun hHeld'=>?_);replace hHeld:=hHeld';clear hHeld';clear na;generalize w12.alloc (.cells #[.slice A1 n1 c1,.slice A2 n2 c2,.int .i64 o,.slice A3 n3 c3] 40)=w13 at hHeld NA NW R13 ⊢;have OW:Hid (OwnFd w13 w.heap.size (.slice Af us.length cf) us):=hid ((own_frd FSd.out.own RES.out.1 K1.out.at_ K7.out).keepB (fun g _ h1 _=>NA.out.block g h1));generalize w12.heap.size=gl at NW ⊢;clear hK K;try simp only [Act.put,pa,pb,pc,pd,pe,pf]
      refine wr1 12 (fun K hK=>?_);refine pushFd_step rfl (.tmp 147) (.tmp 154) rfl w13 w.heap.size gl (.slice Af us.length cf) us A1 A2 A3 n1 n2 n3 c1 c2 c3 o rfl (by rfl) OW.out NW.out (by have:=NA.out.size;have:=RES.out.1.size;have:=FSd.out.f.bel.size;omega) UL.out ?_;intro v14 w14 hOx hgx hat;obtain⟨A14,n14,c14,rfl⟩:∃ A n c,v14 = .slice A n c:=by obtain⟨A,c,e,-⟩:=hOx.form;exact⟨A,_,c,e⟩
      have OX:=hid hOx;have GX:=hid hgx;have AT:=hid hat;have R14:=hid ((hgx.block fb (Array.getElem?_eq_some_iff.1 R13.out).1 (fun e=>Own_fd_file OW.out R13.out e.symm)).trans R13.out);refine hK.out _ _ (by show w14.cell? ⟨fb,2,none⟩=_;rw [cell_of_row _ _ _ _ _ _ R14.out];rfl) (fun hHeld'=>?_);replace hHeld:=hHeld';clear hHeld';clear hOx hgx hat;clear hK K;try simp only [Act.put,pa,pb,pc,pd,pe,pf]
      refine wt 13 ?r910;refine wt 14 ?r911;refine wr1 15 (fun K hK=>?_);have ac:w14.cell? ⟨fb,3,none⟩=some (.slice Af us.length cf):=by rw [cell_of_row _ _ _ _ _ _ R14.out];rfl
      have af:w14.frozen? ⟨fb,3,none⟩=false:=frozen_of_row _ _ _ _ _ R14.out;go_simp;clear ac af;refine hK.out _ _ (by show (w14.setCell ⟨fb,3,none⟩ (.slice A14 n14 c14)).cell? ⟨fb,2,none⟩=_;rw [cell_of_row _ _ _ _ _ _ (heap_setCell_same w14 fb 3 _ _ _ R14.out)];rfl) (fun hHeld'=>?_);replace hHeld:=hHeld';clear hHeld';clear hK K;try simp only [Act.put,pa,pb,pc,pd,pe,pf]
      refine wpAnyH_done (by kernel_rfl) ?_ _;refine NoPanic.normal ?_;clear hHeld;have NX:=hid (FSd.out.next LTJ.out K1.out K2.out K4.out K6.out K7.out K8.out RES.out NA.out OW.out OX.out GX.out AT.out);have hj5:j≤100000:=T5.out;clear R12 R13 R14 RES NA OW OX GX AT NW FR FSd
      change Exit.inBlock _ _ _ _ (w14.setCell ⟨fb,3,none⟩ (.slice A14 n14 c14))
      generalize w14.setCell ⟨fb,3,none⟩ (.slice A14 n14 c14)=w15 at NX ⊢;go_wp2_with fail
      go_roundw
      case rel=>exact⟨j+1,_,_,v12,by go_num,by have:=LTJ.out;omega,NX.out⟩
      case measure=>simp [intOf];have:=LTJ.out;omega
     refine AllReadyH.cons rfl (fun K hK=>?_) AllReadyH.nil;go_simp;refine FR.out.mono ?_;rintro e w12 ⟨A1,n1,c1,A2,n2,c2,o,A3,n3,c3,v12,rfl,hres⟩;have RES:Hid (FunRes s b (fb+1) sz v' a (funM s.data.toList sz a st) wd A1 n1 c1 A2 n2 c2 o A3 n3 c3 v12 w12):=hid hres;have R12:=hid (row_frd FSd.out.f K4.out RES.out.1);clear hres;refine hK.out _ _ (by show w12.cell? ⟨fb,2,none⟩=_;rw [cell_of_row _ _ _ _ _ _ R12.out];rfl) (fun hHeld'=>?_);replace hHeld:=hHeld';clear hHeld';clear hK K;try simp only [Act.put,pa,pb,pc,pd,pe,pf]
     refine wpAnyH_ready (rs:=[4,11]) (by kernel_rfl) (by simp) ?_;refine AllReadyH.cons rfl (fun K hK=>?_) ?_
     ·have ac:w12.cell? ⟨fb,3,none⟩=some (.slice Af us.length cf):=by rw [cell_of_row _ _ _ _ _ _ R12.out];rfl
      go_simp;clear ac;refine hK.out _ _ (hHeld) (fun hHeld'=>?_);replace hHeld:=hHeld';clear hHeld';clear hK K;try simp only [Act.put,pa,pb,pc,pd,pe,pf]
      refine wr1 11 (fun K hK=>?_);go_simp;have na:=new_val w12 (.cells #[.slice A1 n1 c1,.slice A2 n2 c2,.int .i64 o,.slice A3 n3 c3] 40);have NA:=hid na;have NW:=hid (heap_alloc_new w12 (.cells #[.slice A1 n1 c1,.slice A2 n2 c2,.int .i64 o,.slice A3 n3 c3] 40));have R13:=hid ((na.block fb (Array.getElem?_eq_some_iff.1 R12.out).1).trans R12.out);refine hK.out _ _ (by show (w12.alloc _).cell? ⟨fb,2,none⟩=_;rw [cell_of_row _ _ _ _ _ _ R13.out];rfl) (fun hHeld'=>?_);replace hHeld:=hHeld';clear hHeld';clear na;generalize w12.alloc (.cells #[.slice A1 n1 c1,.slice A2 n2 c2,.int .i64 o,.slice A3 n3 c3] 40)=w13 at hHeld NA NW R13 ⊢;have OW:Hid (OwnFd w13 w.heap.size (.slice Af us.length cf) us):=hid ((own_frd FSd.out.own RES.out.1 K1.out.at_ K7.out).keepB (fun g _ h1 _=>NA.out.block g h1));generalize w12.heap.size=gl at NW ⊢;clear hK K;try simp only [Act.put,pa,pb,pc,pd,pe,pf]
      refine wr1 12 (fun K hK=>?_);refine pushFd_step rfl (.tmp 147) (.tmp 154) rfl w13 w.heap.size gl (.slice Af us.length cf) us A1 A2 A3 n1 n2 n3 c1 c2 c3 o rfl (by rfl) OW.out NW.out (by have:=NA.out.size;have:=RES.out.1.size;have:=FSd.out.f.bel.size;omega) UL.out ?_;intro v14 w14 hOx hgx hat;obtain⟨A14,n14,c14,rfl⟩:∃ A n c,v14 = .slice A n c:=by obtain⟨A,c,e,-⟩:=hOx.form;exact⟨A,_,c,e⟩
      have OX:=hid hOx;have GX:=hid hgx;have AT:=hid hat;have R14:=hid ((hgx.block fb (Array.getElem?_eq_some_iff.1 R13.out).1 (fun e=>Own_fd_file OW.out R13.out e.symm)).trans R13.out);refine hK.out _ _ (by show w14.cell? ⟨fb,2,none⟩=_;rw [cell_of_row _ _ _ _ _ _ R14.out];rfl) (fun hHeld'=>?_);replace hHeld:=hHeld';clear hHeld';clear hOx hgx hat;clear hK K;try simp only [Act.put,pa,pb,pc,pd,pe,pf]
      refine wt 13 ?r912;refine wt 14 ?r913;refine wr1 15 (fun K hK=>?_);have ac:w14.cell? ⟨fb,3,none⟩=some (.slice Af us.length cf):=by rw [cell_of_row _ _ _ _ _ _ R14.out];rfl
      have af:w14.frozen? ⟨fb,3,none⟩=false:=frozen_of_row _ _ _ _ _ R14.out;go_simp;clear ac af;refine hK.out _ _ (by show (w14.setCell ⟨fb,3,none⟩ (.slice A14 n14 c14)).cell? ⟨fb,2,none⟩=_;rw [cell_of_row _ _ _ _ _ _ (heap_setCell_same w14 fb 3 _ _ _ R14.out)];rfl) (fun hHeld'=>?_);replace hHeld:=hHeld';clear hHeld';clear hK K;try simp only [Act.put,pa,pb,pc,pd,pe,pf]
      refine wpAnyH_done (by kernel_rfl) ?_ _;refine NoPanic.normal ?_;clear hHeld;have NX:=hid (FSd.out.next LTJ.out K1.out K2.out K4.out K6.out K7.out K8.out RES.out NA.out OW.out OX.out GX.out AT.out);have hj5:j≤100000:=T5.out;clear R12 R13 R14 RES NA OW OX GX AT NW FR FSd
      change Exit.inBlock _ _ _ _ (w14.setCell ⟨fb,3,none⟩ (.slice A14 n14 c14))
      generalize w14.setCell ⟨fb,3,none⟩ (.slice A14 n14 c14)=w15 at NX ⊢;go_wp2_with fail
      go_roundw
      case rel=>exact⟨j+1,_,_,v12,by go_num,by have:=LTJ.out;omega,NX.out⟩
      case measure=>simp [intOf];have:=LTJ.out;omega
     refine AllReadyH.cons rfl (fun K hK=>?_) AllReadyH.nil;go_simp;have na:=new_val w12 (.cells #[.slice A1 n1 c1,.slice A2 n2 c2,.int .i64 o,.slice A3 n3 c3] 40);have NA:=hid na;have NW:=hid (heap_alloc_new w12 (.cells #[.slice A1 n1 c1,.slice A2 n2 c2,.int .i64 o,.slice A3 n3 c3] 40));have R13:=hid ((na.block fb (Array.getElem?_eq_some_iff.1 R12.out).1).trans R12.out);refine hK.out _ _ (by show (w12.alloc _).cell? ⟨fb,2,none⟩=_;rw [cell_of_row _ _ _ _ _ _ R13.out];rfl) (fun hHeld'=>?_);replace hHeld:=hHeld';clear hHeld';clear na;generalize w12.alloc (.cells #[.slice A1 n1 c1,.slice A2 n2 c2,.int .i64 o,.slice A3 n3 c3] 40)=w13 at hHeld NA NW R13 ⊢;have OW:Hid (OwnFd w13 w.heap.size (.slice Af us.length cf) us):=hid ((own_frd FSd.out.own RES.out.1 K1.out.at_ K7.out).keepB (fun g _ h1 _=>NA.out.block g h1));generalize w12.heap.size=gl at NW ⊢;clear hK K;try simp only [Act.put,pa,pb,pc,pd,pe,pf]
     refine wr1 4 (fun K hK=>?_);have ac:w13.cell? ⟨fb,3,none⟩=some (.slice Af us.length cf):=by rw [cell_of_row _ _ _ _ _ _ R13.out];rfl
     go_simp;clear ac;refine hK.out _ _ (hHeld) (fun hHeld'=>?_);replace hHeld:=hHeld';clear hHeld';clear hK K;try simp only [Act.put,pa,pb,pc,pd,pe,pf]
     refine wr1 12 (fun K hK=>?_);refine pushFd_step rfl (.tmp 147) (.tmp 154) rfl w13 w.heap.size gl (.slice Af us.length cf) us A1 A2 A3 n1 n2 n3 c1 c2 c3 o rfl (by rfl) OW.out NW.out (by have:=NA.out.size;have:=RES.out.1.size;have:=FSd.out.f.bel.size;omega) UL.out ?_;intro v14 w14 hOx hgx hat;obtain⟨A14,n14,c14,rfl⟩:∃ A n c,v14 = .slice A n c:=by obtain⟨A,c,e,-⟩:=hOx.form;exact⟨A,_,c,e⟩
     have OX:=hid hOx;have GX:=hid hgx;have AT:=hid hat;have R14:=hid ((hgx.block fb (Array.getElem?_eq_some_iff.1 R13.out).1 (fun e=>Own_fd_file OW.out R13.out e.symm)).trans R13.out);refine hK.out _ _ (by show w14.cell? ⟨fb,2,none⟩=_;rw [cell_of_row _ _ _ _ _ _ R14.out];rfl) (fun hHeld'=>?_);replace hHeld:=hHeld';clear hHeld';clear hOx hgx hat;clear hK K;try simp only [Act.put,pa,pb,pc,pd,pe,pf]
     refine wt 13 ?r914;refine wt 14 ?r915;refine wr1 15 (fun K hK=>?_);have ac:w14.cell? ⟨fb,3,none⟩=some (.slice Af us.length cf):=by rw [cell_of_row _ _ _ _ _ _ R14.out];rfl
     have af:w14.frozen? ⟨fb,3,none⟩=false:=frozen_of_row _ _ _ _ _ R14.out;go_simp;clear ac af;refine hK.out _ _ (by show (w14.setCell ⟨fb,3,none⟩ (.slice A14 n14 c14)).cell? ⟨fb,2,none⟩=_;rw [cell_of_row _ _ _ _ _ _ (heap_setCell_same w14 fb 3 _ _ _ R14.out)];rfl) (fun hHeld'=>?_);replace hHeld:=hHeld';clear hHeld';clear hK K;try simp only [Act.put,pa,pb,pc,pd,pe,pf]
     refine wpAnyH_done (by kernel_rfl) ?_ _;refine NoPanic.normal ?_;clear hHeld;have NX:=hid (FSd.out.next LTJ.out K1.out K2.out K4.out K6.out K7.out K8.out RES.out NA.out OW.out OX.out GX.out AT.out);have hj5:j≤100000:=T5.out;clear R12 R13 R14 RES NA OW OX GX AT NW FR FSd
     change Exit.inBlock _ _ _ _ (w14.setCell ⟨fb,3,none⟩ (.slice A14 n14 c14))
     generalize w14.setCell ⟨fb,3,none⟩ (.slice A14 n14 c14)=w15 at NX ⊢;go_wp2_with fail
     go_roundw
     case rel=>exact⟨j+1,_,_,v12,by go_num,by have:=LTJ.out;omega,NX.out⟩
     case measure=>simp [intOf];have:=LTJ.out;omega
    have HBN:=hid hb;have d6:(v'.bad == 0)=false:=by simpa using hb
    clear hb;go_wp2_with fail
    go_meet
    case rel=>exact hid ⟨us,fv,v',j,FS.out.f,FS.out.szs,FS.out.own,FS.out.k.conv (fun h=>absurd h HBN.out),FS.out.len,FS.out.few,FS.out.nv⟩
   have d5:decide ((j:Int) < (M:Int))=false:=decide_eq_false (by omega);have HJN:=hid (show M - j=0 by omega);go_wp2_with fail
   go_meet
   case rel=>exact hid ⟨us,fv,v',j,FS.out.f,FS.out.szs,FS.out.own,FS.out.k.conv (fun _ a st=>by rw [HJN.out];rfl),FS.out.len,FS.out.few,FS.out.nv⟩
 obtain⟨us,fv,v',j,hfs⟩:=hcut.out;have FS:=hid hfs;clear hcut hfs FS0;have c3:wc.cell? ⟨b,3,none⟩=some (.int .i64 v'.bad):=FS.out.k.at_.cell (i:=3) rfl;have HRW:Hid (RW s.data.toList 0 E):=hid (HE.out ▸ fileM_rw (l:=s.data.toList) (lo:=1));have BL9:=hid FS.out.f.bel;have FAR:=hid FS.out.f.far;rcases FS.out.k with ⟨a,st,us',k1,-,-,-,-,k6,-,k8⟩ | ⟨e9,p9,hb9,hE9⟩
 ·have hle:st.k≤s.data.toList.length:=by rw [size_list];exact k1.le
  rw [k1.fine] at c3;have K1:=hid k1;have K6:=hid k6;have K8:=hid k8;obtain⟨Al,cl,hl,hcl,hwl⟩:=k1.words;have c0:wc.cell? ⟨b,0,none⟩=some v'.l:=k1.at_.cell (i:=0) rfl;rw [hl] at c0;rcases wordsL_cases hle with ⟨h1,⟨h2,h3⟩ | ⟨tt,h2,h3⟩⟩ | ⟨f',t',h1,h2,h3⟩
  ·
   rw [h1] at c0;have hE:E = .ok ⟨(f,t),k,sz,a.funs⟩ st:=by rw [k8];unfold gF7;rw [h2]
   have hbw:bw=none:=by
    have h9:=HRW.out;rw [hE] at h9;rw [← HBW.out,← h9.2,h3]
   subst hbw;have db:decide ((0:Int)≤badI none)=false:=rfl;have HEE:=hid hE;clear hE k1 k6 k8 hl hcl hwl h1 h2 h3 hle;cases hbg:st.big with
   | none =>
    have c5:wc.cell? ⟨b,5,none⟩=some (.int .i64 0):=by
     have h9:=K1.out.big;rw [hbg] at h9;have h9':v'.big=0:=h9;rw [← h9'];exact K1.out.at_.cell (i:=5) rfl
    have FD:Hid (FileD wc fb w.heap.size s ⟨(f,t),k,sz,a.funs⟩):=hid ⟨Az,cz,fv,us,by rw [HX.out];exact FS.out.f.row,SZC.out,FS.out.szs,FS.out.own,K6.out⟩;have HBG:=hid hbg;clear hbg;go_wp2_with fail
    go_ret3;refine⟨?_,BL9.out⟩;rw [HE.out,HEE.out];unfold ReadRes7;simp only [HBG.out];exact⟨fb,rfl,FD.out,by have:=FAR.out;omega⟩
   | some p =>
    have c5:wc.cell? ⟨b,5,none⟩=some (.int .i64 5):=by
     have h9:=K1.out.big;rw [hbg] at h9;have h9':v'.big=5:=h9.1;rw [← h9'];exact K1.out.at_.cell (i:=5) rfl
    have c6:wc.cell? ⟨b,6,none⟩=some (.int .i64 (p:Int)):=by
     have h9:=K1.out.big;rw [hbg] at h9;have h9':v'.bigAt=p:=h9.2;rw [← h9'];exact K1.out.at_.cell (i:=6) rfl
    have HBG:=hid hbg;clear hbg;go_upto_region 36 with fail
    go_quiet (fail)
    go_wp2_with fail
    go_ret3;refine⟨?_,by first | exact BL9.out | exact BL9.out.drew | exact belN BL9.out _⟩;rw [HE.out,HEE.out];unfold ReadRes7;simp only [HBG.out];exact rfl
  ·
   rw [h1] at c0;have hE:E = .bad 11 tt:=by rw [k8];unfold gF7;rw [h2]
   have hbw:bw=some tt:=by
    have h9:=HRW.out;rw [hE] at h9;rw [← HBW.out];exact h9 rfl
   subst hbw;have db:decide ((0:Int)≤badI (some tt))=true:=decide_eq_true (Int.natCast_nonneg tt);have HEE:=hid hE;have BD:=hid (bad7 (W:=wc) (b:=b) (s:=s) (v:=v') (v':=v') (E:=E) (e:=11) (p:=tt) (by decide) ⟨DrNear.refl _,.inl ⟨st,k1,hE⟩⟩);clear hE k1 k6 k8 hl hcl hwl h1 h2 h3 hle;go_upto_region 33 with (first
    | (go_at_call 115;refine BD.out.mono ?_;rintro e w30 ⟨v30,e30,p30,⟨_,rfl⟩,hg30,hn30,hb30,hE30⟩;have B30:=hid (below_grown BL9.out hg30 (Nat.le_refl _) FAR.out.1);have D30:=hid hb30;have E30:=hid hE30;clear hg30 hn30 hb30 hE30)
    | fail)
   clear c3 c0;have d30:((e30:Int) == 0)=false:=by have:=D30.out.ne;simp;omega
   have d31:((e30:Int) != 0)=true:=by have:=D30.out.ne;simp;omega
   have c3:w30.cell? ⟨b,3,none⟩=some (.int .i64 (e30:Int)):=by rw [← D30.out.fe];exact D30.out.at_.cell (i:=3) rfl
   have c4:w30.cell? ⟨b,4,none⟩=some (.int .i64 (p30:Int)):=by rw [← D30.out.fp];exact D30.out.at_.cell (i:=4) rfl
   go_upto_region 34 with fail
   go_quiet (fail)
   go_wp2_with fail
   go_ret3;refine⟨?_,by first | exact B30.out | exact B30.out.drew | exact belN B30.out _⟩;rw [HE.out,E30.out];exact rfl
  ·
   rw [h2] at c0 hwl;have hE:E = .bad 4 f':=by rw [k8];unfold gF7;rw [h1]
   have HEE:=hid hE;obtain⟨g,o,cur,fr,rfl,-,-,hw9⟩:∃ g o cur fr,Al=some ⟨g,o,none⟩∧wc.heap[g]? = some (.cells cur 173 fr)∧g≠b∧∀ (j:Nat) (x:Nat × Nat),((f',t')::(wordsL s.data.toList t').1)[j]? = some x→wc.cell? ⟨g,o+j * 2,none⟩=some (.string (s.extract x.1 x.2))∧wc.cell? ⟨g,o+j * 2+1,none⟩=some (.int .i64 (x.1:Int)):=by
    rcases hwl with h | h
    ·cases h
    exact h
   have cw:=(hw9 0 _ rfl).2;dsimp only at cw;rw [Nat.zero_mul,Nat.add_zero] at cw;obtain⟨m9,hm9⟩:∃ m,((f',t')::(wordsL s.data.toList t').1).length=m+1:=⟨_,rfl⟩
   rw [hm9] at c0;have dm:decide ((0:Int) < ((m9+1:Nat):Int))=true:=decide_eq_true (by omega);have BD:=hid (bad7 (W:=wc) (b:=b) (s:=s) (v:=v') (v':=v') (E:=E) (e:=4) (p:=f') (by decide) ⟨DrNear.refl _,.inl ⟨st,k1,hE⟩⟩);clear hE k1 k6 k8 hl hcl hwl h1 h2 h3 hle hw9 hm9;go_upto_region 31 with (first
    | (go_at_call 115;refine BD.out.mono ?_;rintro e w30 ⟨v30,e30,p30,⟨_,rfl⟩,hg30,hn30,hb30,hE30⟩;have B30:=hid (below_grown BL9.out hg30 (Nat.le_refl _) FAR.out.1);have D30:=hid hb30;have E30:=hid hE30;clear hg30 hn30 hb30 hE30)
    | fail)
   clear c3 c0 cw dm;have d30:((e30:Int) == 0)=false:=by have:=D30.out.ne;simp;omega
   have d31:((e30:Int) != 0)=true:=by have:=D30.out.ne;simp;omega
   have c3:w30.cell? ⟨b,3,none⟩=some (.int .i64 (e30:Int)):=by rw [← D30.out.fe];exact D30.out.at_.cell (i:=3) rfl
   have c4:w30.cell? ⟨b,4,none⟩=some (.int .i64 (p30:Int)):=by rw [← D30.out.fp];exact D30.out.at_.cell (i:=4) rfl
   go_upto_region 34 with fail
   go_quiet (fail)
   go_wp2_with fail
   go_ret3;refine⟨?_,by first | exact B30.out | exact B30.out.drew | exact belN B30.out _⟩;rw [HE.out,E30.out];exact rfl
 ·
  have B30:=BL9;have D30:=hid hb9;have E30:=hid hE9;clear c3 hb9 hE9;have d30:((e9:Int) == 0)=false:=by have:=D30.out.ne;simp;omega
  have d31:((e9:Int) != 0)=true:=by have:=D30.out.ne;simp;omega
  have c3:wc.cell? ⟨b,3,none⟩=some (.int .i64 (e9:Int)):=by rw [← D30.out.fe];exact D30.out.at_.cell (i:=3) rfl
  have c4:wc.cell? ⟨b,4,none⟩=some (.int .i64 (p9:Int)):=by rw [← D30.out.fp];exact D30.out.at_.cell (i:=4) rfl
  go_upto_region 34 with fail
  go_quiet (fail)
  go_wp2_with fail
  go_ret3;refine⟨?_,by first | exact B30.out | exact B30.out.drew | exact belN B30.out _⟩;rw [HE.out,E30.out];exact rfl
end Go.Proofs.YtmokogkndbinlaaGreatDoor
