import Derived.Test.YtmokogkndbinlaaGreatDoorZhbb
set_option linter.all false
namespace Go.Proofs.YtmokogkndbinlaaGreatDoor
open Go.Lib (hid)
def BigP (P:Nat→Nat→Prop):Option Nat→Option Nat→Prop
 | none,none=>True
 | some p,some p'=>P p p'
 | _,_=>False
structure StP (R P:Nat→Nat→Prop) (s s':RdS):Prop where
 k:R s.k s'.k
 big:BigP P s.big s'.big
structure AlW (l l':List UInt8) (R P E:Nat→Nat→Prop):Prop where
 step:∀ k k',R k k'→(stepW l k = .none∧stepW l' k' = .none)∨∃ f t f' t',stepW l k = .word f t∧stepW l' k' = .word f' t'∧subL l f t=subL l' f' t'∧t - f=t' - f'∧P f f'∧R t t'
 start:R 0 0
 ends:E l.length l'.length
 pl:∀ f f',P f f'→E f f'
section
variable {l l':List UInt8} {R P E:Nat→Nat→Prop}(H:AlW l l' R P E)
include H
omit H in
end
structure GoodP (p:List UInt8 × List UInt8):Prop where
 b0:p.1≠[]
 b:∀ c∈p.1,isB c.toNat=true
 w0:p.2≠[]
 w:∀ c∈p.2,isW c.toNat=true
end Go.Proofs.YtmokogkndbinlaaGreatDoor
namespace Go.Proofs.YtmokogkndbinlaaGreatDoor
open Go.RowKit
open Go.RowKit
theorem loop_len (bs:ByteArray):∀ (n i:Nat) (r:List UInt8),i≤bs.size→bs.size - i=n→ByteArray.toList.loop bs i r=r.reverse++bs.data.toList.drop i:=by
 intro n;induction n with
 | zero =>
  intro i r hi h;rw [ByteArray.toList.loop,if_neg (by omega)];have:bs.data.toList.length≤i:=by have:bs.data.toList.length=bs.size:=rfl;omega
  rw [List.drop_eq_nil_of_le this,List.append_nil]
 | succ n ih =>
  intro i r hi h;have hlt:i < bs.size:=by omega
  rw [ByteArray.toList.loop,if_pos hlt,ih (i+1) _ (by omega) (by omega)];have hl:i < bs.data.toList.length:=hlt;rw [List.drop_eq_getElem_cons hl];have h2:i < bs.data.size:=hlt;have:bs.get! i=bs.data.toList[i]:=by
   show bs.data[i]! = _;rw [getElem!_pos bs.data i h2];rfl
  rw [this];simp
theorem toList_data (bs:ByteArray):bs.toList=bs.data.toList:=by
 unfold ByteArray.toList;rw [loop_len bs _ 0 [] (Nat.zero_le _) rfl];simp
theorem str_ne {X Y:ByteArray}(h:Y≠X):(Y.toList == X.toList)=false:=by
 rw [beq_eq_false_iff_ne];intro e;rw [toList_data,toList_data] at e;exact h (ByteArray.ext (Array.toList_inj.1 e))
def WordX (X:ByteArray):Prop:=stepW X.data.toList 0 = .word 0 X.size
set_option maxRecDepth 100000 in
theorem isword_no (X:ByteArray) (w:World) (hs:X.size≤100000) (hr:¬ WordX X) :
  Calls Tryz.prog 121 #[.string X] w fun e w'=>e = .returned (.bool false)∧Below w.heap.size w w':=by
 have CV:=Lib.run_convert_string_bytes (P:=Tryz.prog) w 9 22 5 X Tryz.underlying9 Tryz.underlying22 Tryz.underlying5;have B1:Below w.heap.size w (Lib.bytesWorld w 5 X):=⟨rfl,rfl,rfl,by rw [Lib.bytesWorld_size];omega,fun j hj=>Lib.bytesWorld_at_old w 5 X j hj⟩
 have BY:BS (Lib.bytesWorld w 5 X) (some ⟨w.heap.size,0,none⟩) X:=.inr ⟨_,0,rfl,by rw [Lib.bytesWorld_size];omega,fun i hi=>by
  rw [Nat.zero_add,Lib.bytesWorld_cell w 5 X i hi];simp [ByteArray.getElem_eq_getElem_data,List.getD_eq_getElem?_getD,hi]
  ⟩
 have SN:=hid (fun W (hW:W=Lib.bytesWorld w 5 X)=>snew_any (.slice (some ⟨w.heap.size,0,none⟩) X.size (grownCap w X.size 0 5)) X W (conv_bytes (by rw [hW];exact BY)));have B1:=hid B1;have HS:=hid hs;clear hs BY;generalize grownCap w X.size 0 5=cap at CV SN;obtain⟨wb,hwb⟩:∃ wb,Lib.bytesWorld w 5 X=wb:=⟨_,rfl⟩
 rw [hwb] at CV B1;have HWB:=hid hwb.symm;clear hwb;have FIN:Hid (∀ (w2 w3:World),Below w.heap.size w w2→w2.heap.size=wb.heap.size+1→w2.grownBy w3 (some wb.heap.size)→Below w.heap.size w w3):=hid (fun w2 w3 h2 z2 hg=>h2.grown hg h2.size (fun q hq=>by
  injection hq with hq;have:=B1.out.size;omega))
 have main:∀ (e0:Value) (n:Int),(n≠0∨∃ Y,e0 = .string Y∧Y≠X)→(∃ Y,e0 = .string Y)→∀ p:Int,(∀ w2,ScanAt w2 wb.heap.size X 0→Calls Tryz.prog 159 #[.pointer (some ⟨wb.heap.size,0,none⟩)] w2 fun e w'=>e = .returned (.tuple #[e0,.int .i64 p,.int .i64 n])∧w2.grownBy w' (some wb.heap.size)) →
   Calls Tryz.prog 121 #[.string X] w fun e w'=>e = .returned (.bool false)∧Below w.heap.size w w':=by
  rintro e0 n hn ⟨Y,rfl⟩ p WD;have WD:=hid WD;rcases hn with hn | ⟨Y',e,hne⟩
  ·have d1:(n == 0)=false:=by simpa using hn
   have d2:¬ n=0:=hn;go_enter Tryz.func121,Tryz.ntmps121
   go_wp2_with (first
    | (go_at_call 73;refine (SN.out _ HWB.out).mono ?_;rintro e w2 ⟨rfl,hw2⟩;have W2:=hid (WD.out w2 (by rw [hw2];exact ScanAt.new wb X));have B2:=hid (by have:=B1.out.trans ((new_val wb (.cells #[.string X,.int .i64 0] 194)).mono B1.out.size);rw [← hw2] at this;exact this);have Z2:=hid (by have:=World.size_alloc wb (.cells #[.string X,.int .i64 0] 194);rw [← hw2] at this;exact this);clear hw2)
    | (go_at_call 159;refine W2.out.mono ?_;rintro e w3 ⟨rfl,hg3⟩;replace hg3:=hid hg3)
    | fail)
   go_ret;exact⟨rfl,FIN.out _ _ B2.out Z2.out hg3.out⟩
  injection e with e;subst e;by_cases hn0:n=0
  ·subst hn0
   have d1:=str_ne hne;go_enter Tryz.func121,Tryz.ntmps121
   go_wp2_with (first
    | (go_at_call 73;refine (SN.out _ HWB.out).mono ?_;rintro e w2 ⟨rfl,hw2⟩;have W2:=hid (WD.out w2 (by rw [hw2];exact ScanAt.new wb X));have B2:=hid (by have:=B1.out.trans ((new_val wb (.cells #[.string X,.int .i64 0] 194)).mono B1.out.size);rw [← hw2] at this;exact this);have Z2:=hid (by have:=World.size_alloc wb (.cells #[.string X,.int .i64 0] 194);rw [← hw2] at this;exact this);clear hw2)
    | (go_at_call 159;refine W2.out.mono ?_;rintro e w3 ⟨rfl,hg3⟩;replace hg3:=hid hg3)
    | fail)
   go_ret;exact⟨rfl,FIN.out _ _ B2.out Z2.out hg3.out⟩
  have d1:(n == 0)=false:=by simpa using hn0
  go_enter Tryz.func121,Tryz.ntmps121
  go_wp2_with (first
   | (go_at_call 73;refine (SN.out _ HWB.out).mono ?_;rintro e w2 ⟨rfl,hw2⟩;have W2:=hid (WD.out w2 (by rw [hw2];exact ScanAt.new wb X));have B2:=hid (by have:=B1.out.trans ((new_val wb (.cells #[.string X,.int .i64 0] 194)).mono B1.out.size);rw [← hw2] at this;exact this);have Z2:=hid (by have:=World.size_alloc wb (.cells #[.string X,.int .i64 0] 194);rw [← hw2] at this;exact this);clear hw2)
   | (go_at_call 159;refine W2.out.mono ?_;rintro e w3 ⟨rfl,hg3⟩;replace hg3:=hid hg3)
   | fail)
  go_ret;exact⟨rfl,FIN.out _ _ B2.out Z2.out hg3.out⟩
 have hmx:X.size≤maxLen:=by have:=HS.out;unfold maxLen;omega
 cases hst:stepW X.data.toList 0 with
 | none=>exact main _ 2 (.inl (by decide)) ⟨_,rfl⟩ _ (fun w2 h2=>(word_none wb.heap.size X 0 w2 hmx (Nat.zero_le _) h2 hst).mono fun e w' hh=>⟨hh.1,hh.2.1⟩)
 | bad t=>exact main _ 11 (.inl (by decide)) ⟨_,rfl⟩ _ (fun w2 h2=>(word_bad wb.heap.size X 0 t w2 hmx (Nat.zero_le _) h2 hst).mono fun e w' hh=>⟨hh.1,hh.2.1⟩)
 | word f t =>
  refine main (.string (X.extract f t)) 0 (.inr ⟨_,rfl,fun e=>?_⟩) ⟨_,rfl⟩ _ (fun w2 h2=>(word_ok wb.heap.size X 0 f t w2 hmx (Nat.zero_le _) h2 hst).mono fun e w' hh=>⟨hh.1,hh.2.1⟩);obtain⟨k1,k2,k3,-,-⟩:=stepW_word (Nat.zero_le _) hst;rw [size_list] at k3;have hsz:=congrArg ByteArray.size e;rw [ByteArray.size_extract] at hsz;have hf:f=0:=by omega
  have ht:t=X.size:=by omega
  subst hf ht;exact hr hst
theorem rnil (w:World):Calls Tryz.prog 64 #[.pointer none] w fun e w'=>e = .returned (.int .i64 2)∧w=w':=by
 go_enter Tryz.func64,Tryz.ntmps64
 go_wp2_with fail
 go_ret;exact⟨rfl,rfl⟩
def putT (o:Int) (f:List Nat→Int) (ts:List (List Nat)):List Nat→Int:=ts.foldl (fun g t=>updF g t (f t)) (fun _=>o)
theorem putT_snoc (o:Int) (f:List Nat→Int) (ts:List (List Nat)) (t:List Nat):putT o f (ts++[t])=updF (putT o f ts) t (f t):=by simp [putT,List.foldl_append]
theorem map_neG {W:World}{m b:Nat}{i:Nat}{n:Nat}{D:DataW Unit}{v:Value}(hm:W.ownsMap Tryz.prog 139 (plainElem Tryz.prog 2) m n D) (hc:W.cell? ⟨b,i,none⟩=some v):some b≠some m:=fun e=>by
 injection e with e;subst e;obtain⟨es,clock,h1,-⟩:=hm;unfold World.cell? at hc;rw [h1] at hc;cases hc
theorem ints_map {W W':World}{m n:Nat}{D:DataW Unit}{A:Option Addr}{l:List Nat}(h:Ints W A l) (hm:W.ownsMap Tryz.prog 139 (plainElem Tryz.prog 2) m n D) (hg:W.grownBy W' (some m)):Ints W' A l:=by
 rcases h with h | ⟨g',o',e,hg',hc⟩
 ·exact .inl h
 by_cases hn:l=[]
 ·exact .inl hn
 have h0:0 < l.length:=List.length_pos_iff.2 hn;have hk:=hg.block g' hg' (fun e=>map_neG hm (hc 0 h0) e);exact .inr ⟨g',o',e,Nat.lt_of_lt_of_le hg' hg.size,fun i hi=>(World.cell?_of_block (a:=⟨g',o'+i,none⟩) hk).trans (hc i hi)⟩
set_option maxRecDepth 100000 in
set_option maxHeartbeats 4000000 in
theorem copied_ok (g b N c:Nat) (A:Option Addr) (l:List Nat) (k o:Int) (f:List Nat→Int) (w:World) (H:TpAt w g b A c N l k o f) (h6:l.length≤6) (h32:∀ n∈l,1≤n∧n≤32) (hN:N≤1000000) (hko:InK o k) (hf:∀ t,InL l t→InK (f t) k) (hln:(linesT l o f).length≤100000) :
  Calls Tryz.prog 63 #[.pointer (some ⟨g,0,none⟩)] w fun e w'=>(∃ g' b' A' c',e = .returned (.pointer (some ⟨g',0,none⟩))∧TpAt w' g' b' A' c' (linesT l o f).length l k o (putT o f (linesT l o f))∧w.heap.size≤g'∧w.heap.size≤b'∧∀ a:Addr,A'=some a→w.heap.size≤a.block)∧Below w.heap.size w w':=by
 have HT:=hid H;have S:=hid (tpsizes_ok g b N c A l k o f w H h6);have KK:=hid (fun W (hb:Below w.heap.size w W)=>tpk_ok g b N c A l k o f W (H.below hb));have OO:=hid (fun W (hb:Below w.heap.size w W)=>tpother_ok g b N c A l k o f W (H.below hb));have LL:=hid (fun W (hb:Below w.heap.size w W)=>tplines_any g b N c A l k o f W (H.below hb) h6 h32 hN);have NW:=hid (fun A c W (h:Ints W A l)=>tpnew_fresh A l.length c l k o W rfl h6 h h32 hko);have H6:=hid h6;have H32:=hid h32;have HF:=hid hf;have HLN:=hid hln;clear H h6 h32 hN hko hf hln;go_enter Tryz.func63,Tryz.ntmps63
 go_upto_block 0 with (first
  | (go_at_call 117;refine S.out.mono ?_;rintro e w1 ⟨⟨v1,rfl,hO⟩,hb⟩;have B1:=hid hb;obtain⟨A1,c1,rfl,hI⟩:=hO.form;have I1:=hid hI;clear hO hI hb)
  | (go_at_call 118;refine (KK.out _ B1.out).mono ?_;rintro e w' ⟨rfl,rfl⟩)
  | (go_at_call 29;refine (OO.out _ B1.out).mono ?_;rintro e w' ⟨rfl,rfl⟩)
  | (go_at_call 116;refine (NW.out _ _ _ I1.out).mono ?_;rintro e w2 ⟨⟨g2,b2,A2,c2,rfl,hT,hg2,hb2,hA2⟩,hb⟩;have GA:=hid (fun a e=>Nat.le_trans B1.out.size (hA2 a e).1);clear hA2;have B2:=hid (then_ B1.out hb);have T2:=hid hT;have G2:=hid (And.intro (Nat.le_trans B1.out.size hg2) (Nat.le_trans B1.out.size hb2));clear hT hb hg2 hb2)
  | (go_at_call 119;refine (LL.out _ B2.out).mono ?_;rintro e w3 ⟨⟨v3,rfl,h3⟩,hb⟩;have B3:=hid (then_ B2.out hb);have T3:=hid (T2.out.below hb);obtain⟨A3,c3,rfl,hf3⟩:=h3.form;have R3:=hid hf3;clear h3 hb hf3)
  | fail)
 clear S KK OO LL NW I1 T2 HT;obtain⟨ts,hts⟩:∃ ts,linesT l o f=ts:=⟨_,rfl⟩
 have HM:Hid (∀ t∈ts,InL l t):=hid (fun t ht=>by rw [← hts,linesT_mem (fun n hn=>(H32.out n hn).1)] at ht;exact ht.1);rw [hts] at R3 HLN ⊢;have HTS:=hid hts;clear hts;obtain⟨n,hn⟩:∃ n,ts.length=n:=⟨_,rfl⟩
 have HN:=hid hn;rw [hn] at R3 HLN ⊢;clear hn;go_wp2_with fail
 go_loopw [6,20] (fun _ i wr=>∃ j:Nat,i = .int .i64 (j:Int)∧j≤n∧TpAt wr g2 b2 A2 c2 j l k o (putT o f (ts.take j))∧w3.grownBy wr (some b2)) (fun _ i _=>n - (intOf i).toNat)
 case atStart=>exact⟨0,rfl,Nat.zero_le _,by
  obtain⟨a,b,c,D,h1,h2⟩:=T3.out;exact⟨a,b,c,D,h1,h2⟩,⟨rfl,rfl,rfl,Nat.le_refl _,fun _ _ _=>rfl⟩⟩
 case round =>
  obtain⟨j,rfl,hj,hT,hg⟩:=hrel;have TR:=hid hT;have GR:=hid hg;clear hT hg;by_cases hlt:j < n
  ·have d1:decide ((j:Int) < (n:Int))=true:=decide_eq_true (by omega)
   obtain⟨g3,x,rfl,hg3,hx,hy,hO⟩:=R3.out j hlt;obtain⟨At,ct,rfl,hI⟩:=hO.form;obtain⟨D3,hm3,-⟩:=T3.out.map;have hb3:=GR.out.block g3 hg3 (fun e=>map_neG hm3 hx e);have k0:wr.cell? ⟨g3,j * 2,none⟩=some (.slice At (nthT ts j).length ct):=by rw [Nat.mul_comm];exact (World.cell?_of_block (a:=⟨g3,2 * j,none⟩) hb3).trans hx
   have k1:wr.cell? ⟨g3,j * 2+1,none⟩=some (.int .i64 (f (nthT ts j))):=by rw [Nat.mul_comm];exact (World.cell?_of_block (a:=⟨g3,2 * j+1,none⟩) hb3).trans hy
   have IW:=ints_map hI hm3 GR.out;have htm:nthT ts j∈ts:=by
    have hjl:j < ts.length:=by rw [HN.out];exact hlt
    simp only [nthT,List.getD_eq_getElem?_getD,List.getElem?_eq_getElem hjl,Option.getD_some];exact List.getElem_mem hjl
   have HIN:=hid (HM.out _ htm);have HTK:Hid (ts.take (j+1)=ts.take j++[nthT ts j]):=hid (by
    have hjl:j < ts.length:=by rw [HN.out];exact hlt
    rw [List.take_succ_eq_append_getElem hjl];simp [nthT,List.getD_eq_getElem?_getD,List.getElem?_eq_getElem hjl])
   have HFK:=hid (HF.out _ HIN.out);generalize nthT ts j=t at k0 k1 IW HIN HTK HFK;have n1:=new_val wr (.cells #[.slice At t.length ct,.int .i64 (f t)] 185);have TX:=hid (TR.out.below n1);have IX:=hid (IW.below n1 (Nat.le_refl _));have NX:=hid n1;have J6:=hid (show j≤1000000 by have:=HLN.out;omega);have hj5:(j:Int)≤100000:=by have:=HLN.out;omega
   have LTJ:=hid hlt;clear hx hy hO hI hm3 hb3 IW n1 htm hg3;go_upto_region 5 with (first
    | ((with_reducible show wpList _ _ _ (Oper.mk none (.store 185 _ _) _ _ _ _::_) _ _);refine wpList_store_row rfl 185 (.tmp 6) (.tmp 23) rfl wr.heap.size #[.slice At t.length ct,.int .i64 (f t)] rfl rfl 185 #[.slice none 0 0,.int .i64 0] (heap_alloc_new _ _) (by kernel_rfl) rfl (by simp [Value.oneCell']) ?_;rw [World.setRow_alloc_new])
    | fail)
   have X1:=hid (heap_alloc_new wr (.cells #[.slice At t.length ct,.int .i64 (f t)] 185));clear k0 k1;generalize wr.alloc (.cells #[.slice At t.length ct,.int .i64 (f t)] 185)=w5 at X1 TX IX NX ⊢;generalize wr.heap.size=B at X1 ⊢;have b0:w5.cell? ⟨B,0,none⟩=some (.slice At t.length ct):=by rw [cell_of_row _ _ _ _ _ _ X1.out];rfl
   have b1:w5.cell? ⟨B,1,none⟩=some (.int .i64 (f t)):=by rw [cell_of_row _ _ _ _ _ _ X1.out];rfl
   have PU:=hid (tpput_ok g2 b2 j c2 t.length ct A2 At l t k o (f t) (putT o f (ts.take j)) w5 TX.out rfl H6.out (fun n hn=>(H32.out n hn).2) IX.out HIN.out HFK.out J6.out);go_wp2_with (first | (go_at_call 120;refine PU.out.mono ?_;rintro e w6 ⟨rfl,hT6,hg6⟩;have T6:=hid hT6;have G6:=hid (show w3.grownBy w6 (some b2) from ⟨hg6.os.trans (NX.out.os.trans GR.out.os),hg6.tape.trans (NX.out.tape.trans GR.out.tape),hg6.output.trans (NX.out.output.trans GR.out.output),Nat.le_trans GR.out.size (Nat.le_trans NX.out.size hg6.size),fun q h1 h2=>(hg6.block q (Nat.lt_of_lt_of_le h1 (Nat.le_trans GR.out.size NX.out.size)) h2).trans ((NX.out.block q (Nat.lt_of_lt_of_le h1 GR.out.size)).trans (GR.out.block q h1 h2))⟩);clear hT6 hg6) | fail)
   exact⟨⟨j+1,by simp,by have:=LTJ.out;omega,by rw [HTK.out,putT_snoc];exact T6.out,G6.out⟩,by simp [intOf];have:=LTJ.out;omega⟩
  have d1:decide ((j:Int) < (n:Int))=false:=decide_eq_false (by omega);have HJ:=hid (show j=n by omega);go_wp2_with fail
  go_ret;refine⟨⟨g2,b2,A2,c2,rfl,?_,G2.out.1,G2.out.2,GA.out⟩,?_⟩
  ·have h:=TR.out
   rw [HJ.out,← HN.out,List.take_length] at h;rw [HTS.out];exact h
  exact B3.out.grown GR.out B3.out.size (fun q hq=>by injection hq with hq;have:=G2.out.2;omega)
theorem own_keep {W W':World}{B:Nat}{t s:Nat}{v:Value}{n:Nat}{l:List Value}(h:W.ownsRow B t s v n l) (hk:∀ g cur,v.ownBlock=some g→W.heap[g]? = some (.cells cur t (0,0))→W'.heap[g]? = W.heap[g]?):W'.ownsRow B t s v n l:=by
 obtain⟨h1,⟨rfl,hn⟩ | ⟨g,cap,cur,rfl,hb',hh,hm,hx,hs,ht⟩⟩:=h
 ·exact⟨h1,.inl ⟨rfl,hn⟩⟩
 exact⟨h1,.inr ⟨g,cap,cur,rfl,hb',(hk g cur rfl hh).trans hh,hm,hx,hs,ht⟩⟩
abbrev HoldG5 (G:Nat) (sv tv:Value) (W:World):Prop:=W.cell? ⟨G,0,none⟩=some sv∧W.cell? ⟨G,1,none⟩=some tv
theorem holdG5 {W W':World}{G:Nat}{sv tv:Value}(H:HoldG5 G sv tv W) (hb:Below W.heap.size W W'):HoldG5 G sv tv W':=by
 obtain⟨a0,a1⟩:=H;have K:∀ b i v,W.cell? ⟨b,i,none⟩=some v→W'.cell? ⟨b,i,none⟩=some v:=fun b i v h=>(hb.cell (p:=⟨b,i,none⟩) (World.block_lt_of_cell? W _ h)).trans h;exact⟨K _ _ _ a0,K _ _ _ a1⟩
theorem holdG5_put {W:World}{G C i:Nat}{sv tv v:Value}(H:HoldG5 G sv tv W) (hn:G≠C):HoldG5 G sv tv (W.setCell ⟨C,i,none⟩ v) :=
 ⟨(World.cell?_setCell_far W ⟨C,i,none⟩ ⟨G,0,none⟩ v (fun e=>hn e.symm)).trans H.1,(World.cell?_setCell_far W ⟨C,i,none⟩ ⟨G,1,none⟩ v (fun e=>hn e.symm)).trans H.2⟩
end Go.Proofs.YtmokogkndbinlaaGreatDoor
namespace Go.Proofs.YtmokogkndbinlaaGreatDoor
open Go.Lib (hid)
attribute [local go_sem] Oper.semAt_some
open Go.RowKit Go.Shelf
theorem prodL_perm {l m:List Nat}(h:l.Perm m):prodL l=prodL m:=by
 induction h with
 | nil=>rfl
 | cons a _ ih=>show a * prodL _=a * prodL _;rw [ih]
 | swap a b l=>show b * (a * prodL l)=a * (b * prodL l);rw [← Nat.mul_assoc,← Nat.mul_assoc,Nat.mul_comm b a]
 | trans _ _ h1 h2=>exact h1.trans h2
theorem prod_ris (sizes s:List Nat):prodL (pickN sizes (risL s))=prodL (pickN sizes s):=prodL_perm ((risL_perm s).map _)
theorem own_sorted {w:World}{base:Nat}{v:Value}{n:Nat}{s:List Nat}(hn:s.length=n) (h:w.ownsRow base 3 1 v n ((sortI s).map (Value.int .i64))):Own w base v (risL s):=by
 rw [risL_cast,List.map_map] at h;show w.ownsRow base 3 1 v (risL s).length (intC (risL s));rw [risL_len,hn];exact h
theorem sorted_own (A:Option Addr) (n c:Nat) (s:List Nat) (w:World) (hn:s.length=n) (hn4:n≤100000) (hA:Ints w A s) :
  Calls Tryz.prog 173 #[.func (.func 217) #[] #[.pointer (some ⟨w.heap.size,0,none⟩)]] (w.alloc (.cells #[.slice A n c] 41)) fun e w'=>(∃ v,e = .returned v∧Own w' w.heap.size v (risL s))∧Below w.heap.size w w':=by
 have nv:=new_val w (.cells #[.slice A n c] 41);have hc:(w.alloc (.cells #[.slice A n c] 41)).cell? ⟨w.heap.size,0,none⟩=some (.slice A n c):=by
  rw [cell_of_row _ _ _ _ _ _ (heap_alloc_new w (.cells #[.slice A n c] 41))];rfl
 refine (sorted_any w.heap.size n c A s _ hn hn4 (by simp) hc (hA.below nv (Nat.le_refl _))).mono ?_;rintro e w' ⟨⟨v,rfl,ho⟩,hb⟩;have hs:=nv.size;exact⟨⟨v,rfl,(own_sorted hn ho).less hs⟩,nv.trans (hb.mono hs)⟩
theorem results_pt {fn:Func}{p:Tmp}(h:fn.results=#[.cell p 129]) (tmps:Array Value) (w:World) (g:Nat) (a b:Value) (hp:tmps.getD p undef = .pointer (some ⟨g,0,none⟩))
  (c0:w.cell? ⟨g,0,none⟩=some a) (c1:w.cell? ⟨g,1,none⟩=some b):(results fn tmps).run Tryz.prog w = .ok (.agg #[a,b]) w:=by
 have hp':tmps[p]?.getD undef = .pointer (some ⟨g,0,none⟩):=by simpa using hp
 simp [results,h,hp',go_sem,c0,c1]
theorem tab_keep {w w':World}{g h:Nat}{l:List Nat}{k:Int}{z:Nat→Int}(T:TabAt w g h l k z) (e1:w'.heap[g]? = w.heap[g]?) (e2:w'.heap[h]? = w.heap[h]?):TabAt w' g h l k z:=by
 obtain⟨cur,hc,r⟩:=T.costs;exact⟨e1.trans T.row,cur,e2.trans hc,r⟩
def RisPost (w:World) (sizes s:List Nat) (k:Int) (f:List Nat→Int) (e:Ending) (w':World):Prop :=
 (∃ sv g h,e = .returned (.agg #[sv,.pointer (some ⟨g,0,none⟩)])∧Own w' w.heap.size sv (risL s)∧TabAt w' g h (pickN sizes (risL s)) k (risM sizes s f).z∧w.heap.size≤g∧w.heap.size≤h)∧Below w.heap.size w w'
theorem sorted_form (A:Option Addr) (n c:Nat) (s:List Nat) (w:World) (hn:s.length=n) (hn4:n≤100000) (hA:Ints w A s) :
  Calls Tryz.prog 173 #[.func (.func 217) #[] #[.pointer (some ⟨w.heap.size,0,none⟩)]] (w.alloc (.cells #[.slice A n c] 41)) fun e w'=>(∃ A3 c3,e = .returned (.slice A3 n c3)∧Own w' w.heap.size (.slice A3 n c3) (risL s)∧Ints w' A3 (risL s))∧Below w.heap.size w w':=by
 refine (sorted_own A n c s w hn hn4 hA).mono ?_;rintro e w' ⟨⟨v,rfl,ho⟩,hb⟩;obtain⟨A3,c3,rfl,hi⟩:=ho.form;rw [risL_len,hn] at ho ⊢;exact⟨⟨A3,c3,rfl,ho,hi⟩,hb⟩
set_option maxHeartbeats 1000000 in
theorem risen_ok (A TA:Option Addr) (n c tg tb N tc:Nat) (sizes s:List Nat) (k o:Int) (f:List Nat→Int) (w:World) (hn:s.length=n) (hn6:n≤6) (hnd:s.Nodup) (hA:Ints w A s) (hT:TpAt w tg tb TA tc N (pickN sizes s) k o f)
  (h32:∀ x∈pickN sizes s,1≤x∧x≤32) (hp:prodL (pickN sizes s)≤4096) (ho:InK o k) (hf:∀ t,InL (pickN sizes s) t→InK (f t) k) :
  Calls Tryz.prog 137 #[.agg #[.slice A n c,.pointer (some ⟨tg,0,none⟩)]] w (RisPost w sizes s k f):=by
 have hl:(pickN sizes s).length=n:=by rw [pickN_len,hn]
 have n1:=new_val w (.cells #[.slice A n c,.pointer (some ⟨tg,0,none⟩)] 62);have n2:=new_val (w.alloc (.cells #[.slice A n c,.pointer (some ⟨tg,0,none⟩)] 62)) (.cells #[.slice none 0 0,.pointer none] 129);have z1:(w.alloc (.cells #[.slice A n c,.pointer (some ⟨tg,0,none⟩)] 62)).heap.size=w.heap.size+1:=World.size_alloc _ _;have a1:=heap_alloc_new w (.cells #[.slice A n c,.pointer (some ⟨tg,0,none⟩)] 62);have a2:=heap_alloc_new (w.alloc (.cells #[.slice A n c,.pointer (some ⟨tg,0,none⟩)] 62)) (.cells #[.slice none 0 0,.pointer none] 129);rw [z1] at a2;have r1:=(n2.block w.heap.size (by rw [z1];omega)).trans a1;have hb:=n1.trans (n2.mono (by rw [z1];omega));have hz2:((w.alloc (.cells #[.slice A n c,.pointer (some ⟨tg,0,none⟩)] 62)).alloc (.cells #[.slice none 0 0,.pointer none] 129)).heap.size=w.heap.size+2:=by rw [World.size_alloc,z1]
 go_enter Tryz.func137,Tryz.ntmps137
 go_upto_region 1 with fail
 generalize (w.alloc (.cells #[.slice A n c,.pointer (some ⟨tg,0,none⟩)] 62)).alloc (.cells #[.slice none 0 0,.pointer none] 129)=w2 at r1 a2 hb hz2 ⊢;have c0:w2.cell? ⟨w.heap.size,0,none⟩=some (.slice A n c):=by rw [cell_of_row _ _ _ _ _ _ r1];rfl
 have c1:w2.cell? ⟨w.heap.size,1,none⟩=some (.pointer (some ⟨tg,0,none⟩)):=by rw [cell_of_row _ _ _ _ _ _ r1];rfl
 have SRT:=hid (sorted_form A n c s w2 hn (by omega) (hA.below hb (Nat.le_refl _)));have C1:=hid c1;have C0:=hid c0;have RP:=hid a2;have HB:=hid hb;have HZ:=hid hz2;have HA:=hid hA;have HT:=hid hT;have H32:=hid h32;have HO:=hid ho;have HF:=hid hf;clear r1 a2 hb hz2 hA hT h32 hf c1 n1 n2 a1 z1 ho;go_upto_region 2 with (first | (go_at_call 174;refine (values_any A n c _).mono ?_;rintro e w' ⟨rfl,rfl⟩) | (go_at_call 173;refine SRT.out.mono ?_;rintro e w3 ⟨⟨A3,c3,rfl,hO3,hI3⟩,hb3⟩))
 have RP3:=hid ((hb3.block _ (by have:=HZ.out;omega)).trans RP.out);have C13:=hid ((hb3.cell (p:=⟨w.heap.size,1,none⟩) (by have:=HZ.out;show w.heap.size < _;omega)).trans C1.out);have C03:=hid ((hb3.cell (p:=⟨w.heap.size,0,none⟩) (by have:=HZ.out;show w.heap.size < _;omega)).trans C0.out);have hb03:=HB.out.trans (hb3.mono (by have:=HZ.out;omega));have HB3:=hid hb03;have hs3:=hb3.size;have HS3:=hid (show w.heap.size+2≤w3.heap.size by have:=HZ.out;omega);have O3:=hid hO3;have I3:=hid hI3;have hmk:=madeI n (by omega) w3;have R3:=hid (World.rowIs_made w3 (.int .i64 0) n 3);have N3:=hid (new_val w3 (.cells (madeCells #[.int .i64 0] n) 3));have HL:=hid hl;have HN:=hid hn;clear hb3 hO3 hI3 hb03 hs3 c0 SRT C1 C0 RP HB hl;go_upto_region 4 with fail
 generalize w3.alloc (.cells (madeCells #[.int .i64 0] n) 3)=w4 at R3 N3 ⊢;clear hmk;go_loopw [5,6,18] (fun _ _ i wr=>∃ j:Nat,j≤n∧i = .int .i64 (j:Int)∧wr.rowIs w3.heap.size 3 n (fun i=>.int .i64 (if i < j then (nth (ordL s) i:Int) else 0))∧Below w3.heap.size w3 wr) (fun _ _ i _=>n - (intOf i).toNat)
 case atStart=>exact⟨0,Nat.zero_le _,rfl,R3.out.congr fun i _=>by simp,N3.out⟩
 case round =>
  obtain⟨j,hj,rfl,hrow,hb⟩:=hrel;have HRW:=hid hrow;have HB:=hid hb;have hbs:=hb.size;clear hrow hb;by_cases hlt:j < n
  ·obtain⟨g3,o3,rfl,hcs⟩:=(I3.out.below HB.out (Nat.le_refl _)).at_ (i:=j) (by rw [risL_len,hn];exact hlt)
   have c0:=(HB.out.cell (p:=⟨w.heap.size,0,none⟩) (by have:=HS3.out;show w.heap.size < _;omega)).trans C03.out;have hsp:=idxN_spec (risL_mem.1 (nth_mem (l:=risL s) (i:=j) (by rw [risL_len,hn];exact hlt)));have hord:nth (ordL s) j=idxN s (nth (risL s) j):=nth_ord (by rw [hn];exact hlt);have hzs:Zs wr A n (fun i=>(nth s i:Int)):=by
    have h:=((HA.out.below HB3.out (Nat.le_refl _)).below HB.out (Nat.le_refl _)).zs;rwa [hn] at h
   have HIX:=hid (index_first A n c (idxN s (nth (risL s) j)) (fun i=>(nth s i:Int)) (nth (risL s) j:Int) wr (by omega) hzs (by rw [← hn];exact hsp.1) (by show _=((nth s _:Nat):Int);rw [hsp.2.1]) (fun i hi e=>hsp.2.2 i hi (by have e':((nth (risL s) j:Nat):Int)=((nth s i:Nat):Int):=e;omega)));have HOR:=hid hord;clear hzs hord hsp;generalize idxN s (nth (risL s) j)=x at HIX HOR;generalize nth (risL s) j=v at hcs HIX;have kc:=HRW.out.cell hlt;have kf:=HRW.out.frozen j;have i1:(j:Int) < (n:Int):=by omega
   have i2:(0:Int)≤(j:Int):=by omega
   have HNX:Hid ((wr.setCell ⟨w3.heap.size,j,none⟩ (.int .i64 (x:Int))).rowIs w3.heap.size 3 n (fun i=>.int .i64 (if i < j+1 then (nth (ordL s) i:Int) else 0))):=hid ((HRW.out.set j (.int .i64 (x:Int))).congr fun i hi=>by
    show (if i=j then _ else _)=_;by_cases e:i=j
    ·subst e;rw [if_pos rfl,if_pos (by omega),HOR.out]
    ·rw [if_neg e]
     by_cases e2:i < j
     ·rw [if_pos e2,if_pos (by omega)]
     ·rw [if_neg e2,if_neg (by omega)])
   have BN:=hid (HB.out.setCell (p:=⟨w3.heap.size,j,none⟩) (Nat.le_refl _) (.int .i64 (x:Int)));go_wp2_with (go_at_call 97;refine HIX.out.mono ?_;rintro e w' ⟨rfl,rfl⟩)
   go_roundw
   case rel=>exact⟨j+1,by omega,by go_num,HNX.out,BN.out⟩
   case measure=>simp [intOf];omega
  have i1:¬ (j:Int) < (n:Int):=by omega
  have hjn:j=n:=by omega
  have hI4:Ints wr (some ⟨w3.heap.size,0,none⟩) (ordL s):=rowIs_ints HRW.out (by rw [ordL_len,hn]) (fun i hi=>by rw [if_pos (by omega)]);have c1:=(HB.out.cell (p:=⟨w.heap.size,1,none⟩) (by have:=HS3.out;show w.heap.size < _;omega)).trans C13.out;have hbw:=HB3.out.trans (HB.out.mono (by have:=HS3.out;omega));have TT:=hid (tptable_ok tg tb N tc TA (pickN sizes s) k o f wr (HT.out.below hbw) (by rw [pickN_len,hn];exact hn6) H32.out hp HO.out HF.out);have RP4:=hid ((HB.out.block _ (by have:=HS3.out;omega)).trans RP3.out);have O4:=hid (O3.out.below HB.out (Nat.le_refl _));have I4:=hid hI4;have HBW:=hid hbw;clear hI4 hbw;go_upto_region 9 with (go_at_call 26;refine TT.out.mono ?_;rintro e w5 ⟨⟨g5,h5,rfl,hT5⟩,hb5⟩)
  have TU:=hid (turn_ok g5 h5 n n (prodL (pickN sizes s)) (some ⟨w3.heap.size,0,none⟩) (pickN sizes s) (ordL s) (invL s) k (fun i=>f (tupL (pickN sizes s) i)) w5 hT5 (by rw [pickN_len,hn];exact hn6) H32.out HL.out (by have h:=perm_ris hnd;rwa [hn] at h) (I4.out.below hb5 (Nat.le_refl _)) HO.out.1 HO.out.2.1 (by rw [pick_ord,prod_ris]) hp);have RP5:=hid ((hb5.block _ (by have:=HS3.out;omega)).trans RP4.out);have O5:=hid (O4.out.below hb5 (Nat.le_refl _));have hs5:=hb5.size;have HBS:=hid (show w.heap.size+2≤w5.heap.size by have:=HS3.out;have:=HBW.out.size;omega);have HB5:=hid (HBW.out.trans (hb5.mono (by have:=HS3.out;omega)));clear hT5 hb5 TT c1;go_upto_region 10 with (go_at_call 175;refine TU.out.mono ?_;rintro e w6 ⟨g6,h6,rfl,hT6,hg6,hh6,hb6⟩)
  have hp6:=(hb6.block _ (by have:=HS3.out;omega)).trans RP5.out;have O6:=hid (O5.out.below hb6 (Nat.le_refl _));have HB6:=hid (HB5.out.trans (hb6.mono (by have:=HS3.out;omega)));have kp0:w6.cell? ⟨w.heap.size+1,0,none⟩=some (.slice none 0 0):=by rw [cell_of_row _ _ _ _ _ _ hp6];rfl
  have kp1:w6.cell? ⟨w.heap.size+1,1,none⟩=some (.pointer none):=by rw [cell_of_row _ _ _ _ _ _ hp6];rfl
  have kf0:w6.frozen? ⟨w.heap.size+1,0,none⟩=false:=by simp [World.frozen?,hp6]
  have kf1:w6.frozen? ⟨w.heap.size+1,1,none⟩=false:=by simp [World.frozen?,hp6]
  have T6:=hid hT6;clear hT6 hb6 TU;go_wp2_with fail
  obtain⟨F,hF⟩:∃ F,(w6.setCell ⟨w.heap.size+1,0,none⟩ (.slice A3 n c3)).setCell ⟨w.heap.size+1,1,none⟩ (.pointer (some ⟨g6,0,none⟩))=F:=⟨_,rfl⟩
  have f0:F.cell? ⟨w.heap.size+1,0,none⟩=some (.slice A3 n c3):=by
   rw [← hF,World.cell?_setCell_other _ _ _ _ (by intro e;injection e with _ e2;cases e2)];exact World.cell?_setCell_same _ _ _ kp0
  have f1:F.cell? ⟨w.heap.size+1,1,none⟩=some (.pointer (some ⟨g6,0,none⟩)):=by
   rw [← hF];exact World.cell?_setCell_same _ _ _ ((World.cell?_setCell_other _ _ _ _ (by intro e;injection e with _ e2;cases e2)).trans kp1)
  have fk:∀ q,q≠w.heap.size+1→F.heap[q]? = w6.heap[q]?:=fun q hq=>by
   rw [← hF];exact (Below.heap_setCell _ _ _ q hq).trans (Below.heap_setCell _ _ _ q hq)
  have fs:Below w.heap.size w F:=by
   rw [← hF];exact (HB6.out.setCell (p:=⟨w.heap.size+1,0,none⟩) (show w.heap.size≤w.heap.size+1 by omega) _).setCell (p:=⟨w.heap.size+1,1,none⟩) (show w.heap.size≤w.heap.size+1 by omega) _
  have hz:=HZ.out;have h3:=HS3.out;have h4:=HBS.out;have t6:=(pick_ord sizes s) ▸ T6.out;rw [hF];refine bodyPost_ret (results_pt rfl _ _ _ _ _ rfl f0 f1) rfl ⟨⟨_,g6,h6,rfl,?_,?_,by omega,by omega⟩,fs⟩
  ·refine Own.less (base:=w2.heap.size) (own_keep O6.out fun g cur hg _=>fk g ?_) (by omega)
   have:=(O6.out.lt g hg).1;omega
  exact (tab_keep t6 (fk g6 (by omega)) (fk h6 (by omega))).congr fun i hi=>turn_ris hnd (fun n hn=>(H32.out n hn).1) f i
end Go.Proofs.YtmokogkndbinlaaGreatDoor
namespace Go.Proofs.YtmokogkndbinlaaGreatDoor
open Go.Lib (hid)
open Go.RowKit Go.Shelf Go.Sort Go.Lib
def cmpL:List Nat→List Nat→Int
 | [],[]=>0
 | [],_::_=>-1
 | _::_,[]=>1
 | a::s,b::t=>if cmp2 a b≠0 then cmp2 a b else cmpL s t
theorem cmp2_lt (a b:Nat):cmp2 a b < 0↔a < b:=by
 unfold cmp2;split
 ·omega
 split <;> omega
theorem cmp2_zero (a b:Nat):cmp2 a b=0↔a=b:=by
 unfold cmp2;split
 ·omega
 split <;> omega
theorem cmpL_lt:∀ {s t:List Nat},s.length=t.length→(cmpL s t < 0↔lexL s t=true)
 | [],[],_=>by simp [cmpL,lexL]
 | [],_::_,h=>by simp at h
 | _::_,[],h=>by simp at h
 | a::s,b::t,h=>by
  rw [lexL_cons,← cmpL_lt (s:=s) (t:=t) (by simpa using h)];show (if cmp2 a b≠0 then cmp2 a b else cmpL s t) < 0↔_;by_cases hz:cmp2 a b=0
  ·rw [if_neg (by simp [hz])]
   have:=(cmp2_zero a b).1 hz;subst this;exact⟨fun h=>.inr ⟨rfl,h⟩,fun h=>h.elim (fun h=>absurd h (Nat.lt_irrefl _)) (·.2)⟩
  rw [if_pos hz,cmp2_lt];have:a≠b:=fun e=>hz ((cmp2_zero a b).2 e);exact⟨.inl,fun h=>h.elim id (fun h=>absurd h.1 this)⟩
def cmpP (s t:List Nat):Int:=if cmp2 s.length t.length≠0 then cmp2 s.length t.length else cmpL s t
theorem cmpP_lt (s t:List Nat):cmpP s t < 0↔ltS s t:=by
 unfold cmpP ltS;by_cases hz:cmp2 s.length t.length=0
 ·have he:=(cmp2_zero _ _).1 hz
  rw [if_neg (by simp [hz]),cmpL_lt he];exact⟨fun h=>.inr ⟨he,h⟩,fun h=>h.elim (fun h=>by omega) (·.2)⟩
 have he:s.length≠t.length:=fun e=>hz ((cmp2_zero _ _).2 e);rw [if_pos hz,cmp2_lt];exact⟨.inl,fun h=>h.elim id (fun h=>absurd h.1 he)⟩
theorem swoP {α:Type}(sc:α→List Nat):SWO (ltOf fun x y=>cmpP (sc x) (sc y)) where
 irrefl x:=by
  show decide (cmpP (sc x) (sc x) < 0)=false;exact decide_eq_false fun h=>ltS_irr _ ((cmpP_lt _ _).1 h)
 trans x y z h1 h2:=by
  have h1:=(cmpP_lt _ _).1 (of_decide_eq_true h1);have h2:=(cmpP_lt _ _).1 (of_decide_eq_true h2);exact decide_eq_true ((cmpP_lt _ _).2 (ltS_trans h1 h2))
 ntrans x y z h1 h2:=by
  have h1:¬ ltS (sc x) (sc y):=fun h=>of_decide_eq_false h1 ((cmpP_lt _ _).2 h);have h2:¬ ltS (sc y) (sc z):=fun h=>of_decide_eq_false h2 ((cmpP_lt _ _).2 h);refine decide_eq_false fun h=>?_;have h:=(cmpP_lt _ _).1 h;rcases ltS_tri (sc x) (sc y) with e | e | e
  ·exact h1 e
  ·rw [e] at h;exact h2 h
  rcases ltS_tri (sc y) (sc z) with e' | e' | e'
  ·exact h2 e'
  ·rw [e'] at e;exact ltS_asym e h
  exact ltS_asym (ltS_trans e' e) h
theorem drop_consN {s:List Nat}{j:Nat}(h:j < s.length):s.drop j=nth s j::s.drop (j+1):=by
 rw [List.drop_eq_getElem_cons h];congr 1
 simp [nth,List.getD_eq_getElem?_getD,h]
theorem compare_ints (A B:Option Addr) (m n c d:Nat) (s t:List Nat) (w:World) (hm:s.length=m) (hn:t.length=n) (hm6:m≤1000000) (hs:Ints w A s) (ht:Ints w B t) :
  Calls Tryz.prog 37 #[.slice A m c,.slice B n d] w fun e w'=>e = .returned (.int .i64 (cmpL s t))∧w=w':=by
 have HS:=hid hs;have HT:=hid ht;have HM:=hid hm;have HN:=hid hn;clear hs ht;go_enter Tryz.func37,Tryz.ntmps37
 go_wp2_with fail
 go_loop [5,6,7,8,11] (fun _ _ _ _ i=>∃ j:Nat,j≤m∧j≤n∧i = .int .i64 (j:Int)∧Hid (cmpL (s.drop j) (t.drop j)=cmpL s t)) (fun _ _ _ _ i=>m - (intOf i).toNat)
 case atStart=>exact⟨0,by omega,by omega,rfl,hid rfl⟩
 case round =>
  obtain⟨j,hj,hjn,rfl,HC⟩:=hrel;by_cases hlt:j < m
  ·have ji:(j:Int) < (m:Int):=by omega
   have j0:(0:Int)≤(j:Int):=by omega
   have dj:decide ((j:Int) < (m:Int))=true:=decide_eq_true ji;have hdS:=drop_consN (s:=s) (j:=j) (by omega);obtain⟨gs,os,rfl,hgs,hc⟩:∃ g o,A=some ⟨g,o,none⟩∧g < w.heap.size∧w.cell? ⟨g,o+j,none⟩=some (.int .i64 (nth s j:Int)):=by
    rcases HS.out with h | ⟨g,o,e,hg,h⟩
    ·rw [h] at hm;simp at hm;omega
    exact⟨g,o,e,hg,h j (by omega)⟩
   by_cases hjt:j < n
   ·obtain⟨gt,ot,rfl,hgt,hd⟩:∃ g o,B=some ⟨g,o,none⟩∧g < w.heap.size∧w.cell? ⟨g,o+j,none⟩=some (.int .i64 (nth t j:Int)):=by
     rcases HT.out with h | ⟨g,o,e,hg,h⟩
     ·rw [h] at hn;simp at hn;omega
     exact⟨g,o,e,hg,h j (by omega)⟩
    have hdT:=drop_consN (s:=t) (j:=j) (by omega);have HN:Hid ((if cmp2 (nth s j) (nth t j)≠0 then cmp2 (nth s j) (nth t j) else cmpL (s.drop (j+1)) (t.drop (j+1)))=cmpL s t):=hid (by
     have h:=HC.out;rw [hdS,hdT] at h;exact h)
    clear hdS hdT;generalize nth s j=x at hc HN;generalize nth t j=y at hd HN;have jt:(j:Int) < (n:Int):=by omega
    have jn:¬ ((n:Int)≤(j:Int)):=by omega
    have hcj:decide ((n:Int)≤(j:Int))=false:=decide_eq_false jn;go_wp2_with fail
    refine (compare_int _ _ _).mono ?_;rintro e w' ⟨rfl,rfl⟩;by_cases hz:cmp2 x y=0
    ·have dz:(cmp2 x y != 0)=false:=by simp [hz]
     have HN2:Hid (cmpL (s.drop (j+1)) (t.drop (j+1))=cmpL s t):=hid (by have h:=HN.out;rwa [if_neg (by simp [hz])] at h);go_wp2_with fail
     go_round
     case rel=>exact⟨j+1,by omega,by omega,by go_num,HN2⟩
     case measure=>simp [intOf];omega
    have dz:(cmp2 x y != 0)=true:=by rw [bne_iff_ne];exact hz
    have HN2:Hid (cmp2 x y=cmpL s t):=hid (by have h:=HN.out;rwa [if_pos hz] at h);go_wp2_with fail
    go_ret;exact⟨congrArg (fun x=>Ending.returned (.int .i64 x)) HN2.out,rfl⟩
   have HZ:Hid ((1:Int)=cmpL s t):=hid (by
    have h:=HC.out;rw [hdS,List.drop_eq_nil_of_le (by omega:t.length≤j)] at h;exact h)
   have jn:(n:Int)≤(j:Int):=by omega
   have hcj:decide ((n:Int)≤(j:Int))=true:=decide_eq_true jn;clear hdS;go_wp2_with fail
   go_ret;exact⟨congrArg (fun x=>Ending.returned (.int .i64 x)) HZ.out,rfl⟩
  obtain rfl:j=m:=by omega
  have dj:decide ((j:Int) < (j:Int))=false:=by simp
  rcases Nat.lt_or_ge j n with hjt | hjt
  ·have HZ:Hid ((-1:Int)=cmpL s t):=hid (by
    have h:=HC.out;rw [List.drop_eq_nil_of_le (by omega:s.length≤j),drop_consN (s:=t) (j:=j) (by omega)] at h;exact h)
   have dl:decide ((j:Int) < (n:Int))=true:=decide_eq_true (by omega);clear hlt hj;go_wp2_with fail
   go_ret;exact⟨congrArg (fun x=>Ending.returned (.int .i64 x)) HZ.out,rfl⟩
  have HZ:Hid ((0:Int)=cmpL s t):=hid (by
   have h:=HC.out;rw [List.drop_eq_nil_of_le (by omega:s.length≤j),List.drop_eq_nil_of_le (by omega:t.length≤j)] at h;exact h)
  have dl:decide ((j:Int) < (n:Int))=false:=decide_eq_false (by omega);clear hlt hj;go_wp2_with fail
  go_ret;exact⟨congrArg (fun x=>Ending.returned (.int .i64 x)) HZ.out,rfl⟩
theorem grow_of_below {W W':World}(hb:Below W.heap.size W W') (hd:W.drawn≤W'.drawn):∃ q os',W'=grow (W.drewN q) os':=by
 refine⟨W'.drawn - W.drawn,W'.heap.extract W.heap.size W'.heap.size,?_⟩;have e:W.heap++W'.heap.extract W.heap.size W'.heap.size=W'.heap:=by
  apply Array.ext_getElem?;intro i;by_cases hi:i < W.heap.size
  ·rw [Array.getElem?_append_left hi]
   exact (hb.block i hi).symm
  rw [Array.getElem?_append_right (by omega),Array.getElem?_extract];split
  ·rw [show W.heap.size+(i - W.heap.size)=i by omega]
  rw [Array.getElem?_eq_none (by omega)]
 obtain⟨h1,h2,h3,h4,h5⟩:=W;obtain⟨k1,k2,k3,k4,k5⟩:=W';have e1:=hb.os;have e2:=hb.tape;have e3:=hb.output;simp only [grow,World.drewN] at *;subst e1;subst e2;subst e3;rw [e];congr 1
 omega
theorem or_two (g:Nat) (x y:Int) (w:World) (h0:w.cell? ⟨g,0,none⟩=some (.int .i64 x)) (h1:w.cell? ⟨g,1,none⟩=some (.int .i64 y)) :
  Calls Tryz.prog 177 #[.slice (some ⟨g,0,none⟩) 2 2] w fun e w'=>e = .returned (.int .i64 (if x≠0 then x else y))∧w=w':=by
 have H0:=hid h0;have H1:=hid h1;clear h0 h1;generalize hr:(if x≠0 then x else y)=r;have HR:=hid hr;clear hr;go_enter Tryz.func177,Tryz.ntmps177
 go_wp2_with fail
 go_loop [5,8] (fun _ i=>∃ j:Nat,j≤2∧i = .int .i64 (j:Int)∧Hid (0 < j→x=0)∧Hid (1 < j→y=0)) (fun _ i=>2 - (intOf i).toNat)
 case atStart=>exact⟨0,by omega,rfl,hid fun h=>by omega,hid fun h=>by omega⟩
 case round =>
  obtain⟨j,hj,rfl,HX,HY⟩:=hrel;rcases (by omega:j=0∨j=1∨j=2) with rfl | rfl | rfl
  ·have c0:=H0.out
   by_cases hx:x=0
   ·have dx:(x != 0)=false:=by simp [hx]
    go_wp2_with fail
    go_round
    case rel=>exact⟨1,by omega,by go_num,hid fun _=>hx,hid fun h=>by omega⟩
    case measure=>simp [intOf]
   have dx:(x != 0)=true:=by rw [bne_iff_ne];exact hx
   have E:Hid (r=x):=hid (HR.out.symm.trans (if_pos hx));go_wp2_with fail
   go_ret;exact⟨congrArg (fun x=>Ending.returned (.int .i64 x)) E.out.symm,rfl⟩
  ·have c1:=H1.out
   have hx:Hid (x=0):=hid (HX.out (by omega));by_cases hy:y=0
   ·have dy:(y != 0)=false:=by simp [hy]
    go_wp2_with fail
    go_round
    case rel=>exact⟨2,by omega,by go_num,hid fun _=>hx.out,hid fun _=>hy⟩
    case measure=>simp [intOf]
   have dy:(y != 0)=true:=by rw [bne_iff_ne];exact hy
   have E:Hid (r=y):=hid (HR.out.symm.trans (if_neg (by simp [hx.out])));go_wp2_with fail
   go_ret;exact⟨congrArg (fun x=>Ending.returned (.int .i64 x)) E.out.symm,rfl⟩
  have E:Hid (r=0):=hid (by rw [← HR.out,if_neg (by simp [HX.out (by omega)]),HY.out (by omega)]);go_wp2_with fail
  go_ret;exact⟨congrArg (fun x=>Ending.returned (.int .i64 x)) E.out.symm,rfl⟩
end Go.Proofs.YtmokogkndbinlaaGreatDoor
