import Derived.Test.YtmokogkndbinlaaGreatDoorZhbl
set_option linter.all false
namespace Go.Proofs.YtmokogkndbinlaaGreatDoor
open Go.Lib (hid)
open Go.RowKit
theorem wordsL_cases {l:List UInt8} {k:Nat}(hk:k≤l.length):((wordsL l k).1=[]∧(stepW l k = .none∧(wordsL l k).2=none∨∃ t,stepW l k = .bad t∧(wordsL l k).2=some t))∨∃ f t,stepW l k = .word f t∧(wordsL l k).1=(f,t)::(wordsL l t).1∧(wordsL l k).2=(wordsL l t).2:=by
 cases h:stepW l k with
 | none=>exact .inl (by rw [wordsL_none h];exact⟨rfl,.inl ⟨rfl,rfl⟩⟩)
 | bad t=>exact .inl (by rw [wordsL_bad h];exact⟨rfl,.inr ⟨t,rfl,rfl⟩⟩)
 | word f t=>exact .inr ⟨f,t,rfl,by rw [wordsL_word hk h],by rw [wordsL_word hk h]⟩
def lenS:Value→Nat
 | .slice _ n _=>n
 | _=>0
theorem wordsN_few {l:List UInt8}:∀ (n k:Nat),k≤l.length→(wordsN n l k).1.length≤l.length - k
 | 0,k,_=>Nat.zero_le _
 | n+1,k,hk=>by
  unfold wordsN;cases h:stepW l k with
  | none=>exact Nat.zero_le _
  | bad t=>exact Nat.zero_le _
  | word f t =>
   have h1:=stepW_word hk h;have:=wordsN_few n t h1.2.2.1;simp only [List.length_cons];omega
theorem DrOk.lenS {W:World}{b:Nat}{s:ByteArray}{st:RdS}{v:DrV}(h:DrOk W b s st v):lenS v.l=(wordsL s.data.toList st.k).1.length∧lenS v.l≤100000:=by
 obtain⟨A,c,e,_⟩:=h.words;have h1:=wordsN_few (s.data.toList.length+1) st.k (by rw [size_list];exact h.le);have h2:=h.fits;rw [size_list] at h1;rw [e];refine⟨rfl,?_⟩;show (wordsL s.data.toList st.k).1.length≤_;unfold wordsL;rw [size_list];omega
theorem numM_len {l:List UInt8} {lo hi:Int}{st st':RdS}{n:Int × Nat}(hk:st.k≤l.length) (h:numM l lo hi st = .ok n st'):(wordsL l st.k).1.length=(wordsL l st'.k).1.length+1:=by
 obtain⟨t,h1,h2,_⟩:=numM_ok.1 h;rw [wordsL_word hk h1,h2];rfl
theorem DrBad.keepAt {W W':World}{b e p:Nat}{v v':DrV}(h:DrBad W b e p v) (ha:DrAt W' b v') (h1:v'.bad=v.bad) (h2:v'.badAt=v.badAt):DrBad W' b e p v':=⟨ha,h1.trans h.fe,h2.trans h.fp,h.ne⟩
theorem DrOk.keepAt {W W':World}{b:Nat}{s:ByteArray}{st:RdS}{v:DrV}(h:DrOk W b s st v) (ha:DrAt W' b v) (hk:KeepD W W'):DrOk W' b s st v:=⟨ha,h.fine,h.le,h.fits,h.big,h.words.keep hk,h.fin⟩
theorem num7_ok (b:Nat) (s:ByteArray) (st:RdS) (v:DrV) (lo hi:Int) (w:World) (h:DrOk w b s st v) :
  Calls Tryz.prog 113 #[.pointer (some ⟨b,0,none⟩),.int .i64 lo,.int .i64 hi] w fun e' w'=>∃ n p v',e' = .returned (.tuple #[.int .i64 n,.int .i64 ((p:Nat):Int)])∧((lo≤n∧n≤hi)∨(n=0∧¬ v'.bad=0))∧Gr w w' b∧DrNear v v'∧NumD s b lo hi st v' n p w':=by
 have hle:st.k≤s.data.toList.length:=by rw [size_list];exact h.le
 rcases wordsL_cases hle with ⟨h1,h2⟩ | ⟨f,t,h1,h2,h3⟩
 ·have hw:=h.words
  rw [h1] at hw;have key:=num7_still b ⟨#[]⟩ 0 lo hi { v with bad:=v.ee,badAt:=v.en } w h.at_.lt (by decide) (word7_none b s v w h.at_ h.fine hw);have hf:=h.fin;rcases h2 with ⟨h2,h3⟩ | ⟨t,h2,h3⟩
  ·rw [h3] at hf
   obtain⟨e1,e2⟩:=hf;refine (key (by show ¬ v.ee=0;omega)).mono ?_;rintro e' w' ⟨rfl,ha,hg⟩;refine⟨0,0,{ v with bad:=v.ee,badAt:=v.en },rfl,.inr ⟨rfl,by show ¬ v.ee=0;omega⟩,hg,⟨rfl,rfl⟩,.inr ⟨4,s.size,?_,⟨ha,by show v.ee=_;omega,by show v.en=_;omega,by decide⟩,rfl⟩⟩;unfold numM wordM;rw [h2];simp only [RdR.bind_bad];rw [size_list]
  rw [h3] at hf;obtain⟨e1,e2⟩:=hf;refine (key (by show ¬ v.ee=0;omega)).mono ?_;rintro e' w' ⟨rfl,ha,hg⟩;refine⟨0,0,{ v with bad:=v.ee,badAt:=v.en },rfl,.inr ⟨rfl,by show ¬ v.ee=0;omega⟩,hg,⟨rfl,rfl⟩,.inr ⟨11,t,?_,⟨ha,by show v.ee=_;omega,by show v.en=_;omega,by decide⟩,rfl⟩⟩;unfold numM wordM;rw [h2];rfl
 have hw:=h.words;rw [h2] at hw;have hsw:=stepW_word hle h1;have hsz:(s.extract f t).size≤1000000:=by rw [ByteArray.size_extract];have:=h.fits;omega
 obtain⟨lv,hwl,WD⟩:=word7_some b s v w (f,t) _ h.at_ h.fine hw;have hnum:numM s.data.toList lo hi st=if readE (subL s.data.toList f t)=0∧lo≤readV (subL s.data.toList f t)∧readV (subL s.data.toList f t)≤hi then .ok (readV (subL s.data.toList f t),f) ⟨t,st.big⟩ else .bad 4 f:=by
  unfold numM wordM;rw [h1];rfl
 rw [← extract_sub] at hnum;by_cases hc:readE (s.extract f t).data.toList=0∧lo≤readV (s.extract f t).data.toList∧readV (s.extract f t).data.toList≤hi
 ·rw [if_pos hc] at hnum
  refine (num7_good b (s.extract f t) f lo hi { v with l:=lv } w h.at_.lt hsz (fun _=>True) (fun _ _ _ _ _=>trivial) (WD.mono fun e' w' hh=>⟨hh.1,hh.2.1,hh.2.2,trivial⟩) h.fine hc.1 hc.2.1 hc.2.2).mono ?_;rintro e' w' ⟨rfl,ha,hg,-⟩;refine⟨_,f,{ v with l:=lv },rfl,.inl hc.2,hg,⟨rfl,rfl⟩,.inl ⟨_,hnum,⟨ha,h.fine,by show t≤s.size;rw [← size_list];exact hsw.2.2.1,h.fits,h.big,hwl.keep (KeepD.dr h.at_ hg),?_⟩⟩⟩;have:=h.fin;rw [h3] at this;exact this
 rw [if_neg hc] at hnum;refine (num7_bad b (s.extract f t) f lo hi { v with l:=lv } w h.at_.lt hsz WD h.fine hc).mono ?_;rintro e' w' ⟨rfl,ha,hg⟩;exact⟨0,0,{ v with l:=lv,bad:=4,badAt:=(f:Int) },rfl,.inr ⟨rfl,by show ¬ (4:Int)=0;decide⟩,hg,⟨rfl,rfl⟩,.inr ⟨4,f,hnum,⟨ha,rfl,rfl,by decide⟩,rfl⟩⟩
theorem num7_done (b e p:Nat) (v:DrV) (lo hi:Int) (w:World) (h:DrBad w b e p v) :
  Calls Tryz.prog 113 #[.pointer (some ⟨b,0,none⟩),.int .i64 lo,.int .i64 hi] w fun e' w'=>e' = .returned (.tuple #[.int .i64 0,.int .i64 0])∧DrAt w' b v∧Gr w w' b:=by
 refine num7_still b ⟨#[]⟩ 0 lo hi v w h.at_.lt (by decide) ((word7_still b e p v w h).mono ?_) h.bad;rintro e' w' ⟨rfl,hb⟩;exact⟨rfl,(hb.block b h.at_.lt).trans h.at_,Gr.below hb⟩
def DrIn {β:Type}(W:World) (b:Nat) (s:ByteArray) (v v':DrV) (E:RdR β) (C:RdS→RdR β):Prop :=
 DrNear v v'∧((∃ st,DrOk W b s st v'∧E=C st)∨∃ e p,DrBad W b e p v'∧E = .bad e p)
theorem DrIn.conv {β:Type}{W:World}{b:Nat}{s:ByteArray}{v v':DrV}{E:RdR β} {C C':RdS→RdR β} (h:DrIn W b s v v' E C) (hC:∀ st,C st=C' st):DrIn W b s v v' E C':=by
 rwa [show C=C' from funext hC] at h
theorem DrIn.at_ {β:Type}{W:World}{b:Nat}{s:ByteArray}{v v':DrV}{E:RdR β} {C:RdS→RdR β} (h:DrIn W b s v v' E C):DrAt W b v':=by
 rcases h.2 with ⟨st,h,_⟩ | ⟨e,p,h,_⟩
 ·exact h.at_
 exact h.at_
theorem DrIn.keep {β:Type}{W W':World}{b:Nat}{s:ByteArray}{v v':DrV}{E:RdR β} {C:RdS→RdR β} (h:DrIn W b s v v' E C) (hb:W'.heap[b]? = W.heap[b]?) (hk:∀ (g:Nat) (cur:Array Value) (fr:Nat × Nat),W.heap[g]? = some (.cells cur 173 fr)→W'.heap[g]? = W.heap[g]?):DrIn W' b s v v' E C:=by
 refine⟨h.1,?_⟩;rcases h.2 with ⟨st,h,hE⟩ | ⟨e,p,h,hE⟩
 rotate_left
 ·exact .inr ⟨e,p,⟨hb.trans h.at_,h.fe,h.fp,h.ne⟩,hE⟩
 refine .inl ⟨st,⟨hb.trans h.at_,h.fine,h.le,h.fits,h.big,?_,h.fin⟩,hE⟩;obtain⟨A,c,e,hc,hh⟩:=h.words;refine⟨A,c,e,hc,?_⟩;rcases hh with hh | ⟨g,o,cur,fr,e2,h1,h2,h3⟩
 ·exact .inl hh
 have:=hk g cur fr h1;exact .inr ⟨g,o,cur,fr,e2,this.trans h1,h2,fun j x hx=>⟨(World.cell?_of_block (a:=⟨g,o+j * 2,none⟩) this).trans (h3 j x hx).1,(World.cell?_of_block (a:=⟨g,o+j * 2+1,none⟩) this).trans (h3 j x hx).2⟩⟩
theorem DrIn.below {β:Type}{W W':World}{b:Nat}{s:ByteArray}{v v':DrV}{E:RdR β} {C:RdS→RdR β} (h:DrIn W b s v v' E C) (hb:Below W.heap.size W W'):DrIn W' b s v v' E C :=
 h.keep (hb.block b h.at_.lt) fun g cur fr hg=>hb.block g (Array.getElem?_eq_some_iff.1 hg).1
theorem DrIn.typed {β:Type}{W W':World}{b:Nat}{s:ByteArray}{v v':DrV}{E:RdR β} {C:RdS→RdR β} {p:Option Nat}{t:TypeId}(h:DrIn W b s v v' E C) (hg:W.grownBy W' p) (hp:∀ g,p=some g→∃ cur fr,W.heap[g]? = some (.cells cur t fr)) (h1:t≠173) (h2:t≠171):DrIn W' b s v v' E C:=by
 have key:∀ (g:Nat) (cur:Array Value) (t':TypeId) (fr:Nat × Nat),t≠t'→W.heap[g]? = some (.cells cur t' fr)→W'.heap[g]? = W.heap[g]?:=fun g cur t' fr hne h=>by
  refine hg.block g (Array.getElem?_eq_some_iff.1 h).1 (fun e=>?_);obtain⟨cur',fr',h3⟩:=hp g e.symm;rw [h] at h3;injection h3 with h3;injection h3 with _ h4;exact hne h4.symm
 exact h.keep (key b _ _ _ h2 h.at_) fun g cur fr hg=>key g cur _ fr h1 hg
theorem num7 {β:Type}{W:World}{b:Nat}{s:ByteArray}{v v':DrV}{E:RdR β} {lo hi:Int}{C:Int × Nat→RdS→RdR β} (h:DrIn W b s v v' E (fun st=>(numM s.data.toList lo hi st).bind C)) :
  Calls Tryz.prog 113 #[.pointer (some ⟨b,0,none⟩),.int .i64 lo,.int .i64 hi] W fun e w'=>∃ n p v'',e = .returned (.tuple #[.int .i64 n,.int .i64 ((p:Nat):Int)])∧((lo≤n∧n≤hi)∨(n=0∧¬ v''.bad=0))∧(¬ v''.bad=0→n=0)∧(¬ v'.bad=0→¬ v''.bad=0)∧(v''.bad=0→lenS v''.l+1=lenS v'.l)∧Gr W w' b∧DrIn w' b s v v'' E (C (n,p)):=by
 obtain⟨hn,⟨st,ho,hE⟩ | ⟨e,p,hb,hE⟩⟩:=h
 ·dsimp only at hE
  refine (num7_ok b s st v' lo hi W ho).mono ?_;rintro e w' ⟨n,p,v'',rfl,h1,hg,hr,⟨st',h2,h3⟩ | ⟨e',q,h2,h3,h4⟩⟩
  ·exact⟨n,p,v'',rfl,h1,fun h=>absurd h3.fine h,fun h=>absurd ho.fine h,fun _=>by rw [h3.lenS.1,ho.lenS.1,numM_len (by rw [size_list];exact ho.le) h2],hg,hn.trans hr,.inl ⟨st',h3,by rw [hE,h2];rfl⟩⟩
  exact⟨n,p,v'',rfl,h1,fun _=>h4,fun h=>absurd ho.fine h,fun h=>absurd h h3.bad,hg,hn.trans hr,.inr ⟨e',q,h3,by rw [hE,h2];rfl⟩⟩
 refine (num7_done b e p v' lo hi W hb).mono ?_;rintro e' w' ⟨rfl,ha,hg⟩;exact⟨0,0,v',rfl,.inr ⟨rfl,hb.bad⟩,fun _=>rfl,fun h=>h,fun h=>absurd h hb.bad,hg,hn,.inr ⟨e,p,⟨ha,hb.fe,hb.fp,hb.ne⟩,hE⟩⟩
theorem BigD.lg {v:DrV}{st:RdS}(h:BigD v st.big) (hf:v.bad=0) (is:Bool) (p:Nat):BigD (lgV is (p:Int) v) (limS is p st).big:=by
 unfold lgV limS;cases hb:st.big with
 | none =>
  rw [hb] at h;cases is with
  | false=>simpa [hb] using h
  | true =>
   rw [if_pos ⟨rfl,h,hf⟩];simp [BigD]
 | some q =>
  rw [hb] at h;have h1:¬ v.big=0:=by have:=h.1;omega
  rw [if_neg (by simp [h1])];simp [hb]
  exact h
theorem lgV_same (is:Bool) (p:Int) (v:DrV):(lgV is p v).l=v.l∧(lgV is p v).bad=v.bad∧(lgV is p v).badAt=v.badAt∧(lgV is p v).en=v.en∧(lgV is p v).ee=v.ee:=by
 unfold lgV;split <;> exact⟨rfl,rfl,rfl,rfl,rfl⟩
theorem lim7 {β:Type}{W:World}{b:Nat}{s:ByteArray}{v v':DrV}{E:RdR β} {is:Bool}{p:Nat}{C:RdS→RdR β} (h:DrIn W b s v v' E (fun st=>C (limS is p st))) :
  Calls Tryz.prog 112 #[.pointer (some ⟨b,0,none⟩),.bool is,.int .i64 (p:Int)] W fun e w'=>∃ v'',(∃ u,e = .returned u)∧Gr W w' b∧(v''.bad=v'.bad∧v''.l=v'.l)∧DrIn w' b s v v'' E C:=by
 refine (large7 b is p v' W h.at_).mono ?_;rintro e w' ⟨hu,ha,hg⟩;obtain⟨k1,k2,k3,k4,k5⟩:=lgV_same is p v';refine⟨_,hu,hg,⟨k2,k1⟩,h.1.trans (DrNear.lg _ _ _),?_⟩;rcases h.2 with ⟨st,ho,hE⟩ | ⟨e,q,hb,hE⟩
 rotate_left
 ·exact .inr ⟨e,q,hb.keepAt ha k2 k3,hE⟩
 refine .inl ⟨_,⟨ha,k2.trans ho.fine,by rw [limS_k];exact ho.le,ho.fits,ho.big.lg ho.fine is p,?_,?_⟩,hE⟩
 ·rw [k1,limS_k]
  exact ho.words.keep (KeepD.dr ho.at_ hg)
 rw [limS_k];have:=ho.fin;unfold EndD at this ⊢;rw [k4,k5];exact this
theorem bad7 {β:Type}{W:World}{b:Nat}{s:ByteArray}{v v':DrV}{E:RdR β} {e p:Nat}(hne:e≠0) (h:DrIn W b s v v' E (fun st=>.bad e p)) :
  Calls Tryz.prog 115 #[.pointer (some ⟨b,0,none⟩),.int .i64 (e:Int),.int .i64 (p:Int)] W fun e' w'=>∃ v'' e'' p'',(∃ u,e' = .returned u)∧Gr W w' b∧DrNear v v''∧DrBad w' b e'' p'' v''∧E = .bad e'' p'':=by
 refine (wrong7 b e p v' W h.at_).mono ?_;rintro e' w' ⟨hu,ha,hg⟩;rcases h.2 with ⟨st,ho,hE⟩ | ⟨e1,q,hb,hE⟩
 ·rw [wrV_fine ho.fine] at ha
  exact⟨{ v' with bad:=(e:Int),badAt:=(p:Int) },e,p,hu,hg,h.1.trans ⟨rfl,rfl⟩,⟨ha,rfl,rfl,hne⟩,hE⟩
 rw [wrV_bad hb.bad] at ha;exact⟨_,e1,q,hu,hg,h.1,hb.keepAt ha rfl rfl,hE⟩
theorem beq_of_nth {l l':List Nat}(hn:l.length=l'.length) (h:∀ j,j < l.length→nth l j=nth l' j):(l == l')=true:=by
 rw [beq_iff_eq];apply List.ext_getElem hn;intro i h1 h2;have:=h i h1;simpa [nth,List.getD,h1,h2] using this
theorem beq_not {l l':List Nat}{j:Nat}(hj:j < l.length) (h:¬ nth l j=nth l' j):(l == l')=false:=by
 rw [beq_eq_false_iff_ne];intro e;exact h (by rw [e])
set_option maxRecDepth 100000 in
set_option maxHeartbeats 2000000 in
theorem same7 (A A':Option Addr) (c c':Nat) (l l':List Nat) (w:World) (h:I6 w A l) (h':I6 w A' l') (hl:l.length≤1000000) :
  Calls Tryz.prog 71 #[.slice A l.length c,.slice A' l'.length c'] w fun e w'=>e = .returned (.bool (l == l'))∧Below w.heap.size w w':=by
 have H1:=hid h;have H2:=hid h';clear h h';by_cases hn:l.length=l'.length
 rotate_left
 ·have FIN:Hid ((l == l')=false):=hid (by rw [beq_eq_false_iff_ne];exact fun e=>hn (by rw [e]))
  have d:(((l.length:Nat):Int) != ((l'.length:Nat):Int))=true:=by simp;omega
  clear hn;go_enter Tryz.func71,Tryz.ntmps71
  go_wp2_with fail
  go_ret;exact⟨by rw [FIN.out];rfl,Below.refl _ _⟩
 rw [← hn];have HN:=hid hn;clear hn;go_enter Tryz.func71,Tryz.ntmps71
 go_wp2_with fail
 go_loopw [5,13] (fun _ i wr=>∃ j:Nat,i = .int .i64 (j:Int)∧j≤l.length∧(∀ q,q < j→nth l q=nth l' q)∧Below w.heap.size w wr) (fun _ i _=>l.length - (intOf i).toNat)
 case atStart=>exact⟨0,rfl,Nat.zero_le _,fun q hq=>absurd hq (Nat.not_lt_zero _),Below.refl _ _⟩
 case round =>
  obtain⟨j,rfl,hj,hq,hb⟩:=hrel;have HQ:=hid hq;have HB:=hid hb;clear hq hb;by_cases hlt:j < l.length
  rotate_left
  ·have d1:decide ((j:Int) < (l.length:Int))=false:=decide_eq_false (by omega)
   obtain rfl:j=l.length:=by omega
   have FIN:=hid (beq_of_nth HN.out HQ.out);go_wp2_with fail
   go_ret;exact⟨by rw [FIN.out];rfl,HB.out⟩
  have d1:decide ((j:Int) < (l.length:Int))=true:=decide_eq_true (by omega);have K:KeepD w wr:=KeepD.below HB.out;obtain⟨g,o,rfl,c1⟩:=(H1.out.keep K).at_ hlt;obtain⟨g',o',rfl,c2⟩:=(H2.out.keep K).at_ (show j < l'.length by have:=HN.out;omega);clear K;by_cases he:nth l j=nth l' j
  ·have FIN:Hid (∀ q,q < j+1→nth l q=nth l' q):=hid (fun q hq=>by
    rcases Nat.lt_or_ge q j with h | h
    ·exact HQ.out q h
    ·rw [show q=j by omega];exact he)
   rw [← he] at c2;clear he HQ;generalize nth l j=x at c1 c2;have d2:((x:Int) != (x:Int))=false:=by simp
   go_upto_region 6 with fail
   go_quiet (fail)
   go_wp2_with fail
   go_roundw
   case rel=>exact⟨j+1,by go_num,by omega,FIN.out,below_drewN HB.out _⟩
   case measure=>simp [intOf];omega
  have FIN:=hid (beq_not hlt he);generalize nth l j=x at c1 he;generalize nth l' j=y at c2 he;have d2:((x:Int) != (y:Int))=true:=by simp;omega
  clear he;go_upto_region 6 with fail
  go_quiet (fail)
  go_wp2_with fail
  go_ret;exact⟨by rw [FIN.out];rfl,below_drewN HB.out _⟩
theorem results_fd {fn:Func}{p:Tmp}(h:fn.results=#[.cell p 40]) (tmps:Array Value) (w:World) (g:Nat) (a b c d:Value) (hp:tmps.getD p undef = .pointer (some ⟨g,0,none⟩))
  (hg:w.heap[g]? = some (.cells #[a,b,c,d] 40 (0,0))):(results fn tmps).run Tryz.prog w = .ok (.agg #[a,b,c,d]) w:=by
 have c0:w.cell? ⟨g,0,none⟩=some a:=by rw [cell_of_row _ _ _ _ _ _ hg];rfl
 have c1:w.cell? ⟨g,1,none⟩=some b:=by rw [cell_of_row _ _ _ _ _ _ hg];rfl
 have c2:w.cell? ⟨g,2,none⟩=some c:=by rw [cell_of_row _ _ _ _ _ _ hg];rfl
 have c3:w.cell? ⟨g,3,none⟩=some d:=by rw [cell_of_row _ _ _ _ _ _ hg];rfl
 have hp':tmps[p]?.getD undef = .pointer (some ⟨g,0,none⟩):=by simpa using hp
 simp [results,h,hp',go_sem,c0,c1,c2,c3]
structure FG (w W:World) (b G R:Nat) (sv zv:Value) (o:Int) (lv:Value):Prop where
 g:W.heap[G]? = some (.cells #[sv,zv,.int .i64 o,lv] 40 (0,0))
 r:W.heap[R]? = some (.cells #[.slice none 0 0,.slice none 0 0,.int .i64 0,.slice none 0 0] 40 (0,0))
 k:Gr w W b
 far:w.heap.size≤R∧R < G∧b < w.heap.size
theorem FG.cells {w W:World}{b G R:Nat}{sv zv lv:Value}{o:Int}(h:FG w W b G R sv zv o lv):W.cell? ⟨G,0,none⟩=some sv∧W.cell? ⟨G,1,none⟩=some zv∧W.cell? ⟨G,2,none⟩=some (.int .i64 o)∧W.cell? ⟨G,3,none⟩=some lv:=by
 refine⟨?_,?_,?_,?_⟩ <;> (rw [cell_of_row _ _ _ _ _ _ h.g];rfl)
theorem FG.frozen {w W:World}{b G R:Nat}{sv zv lv:Value}{o:Int}(h:FG w W b G R sv zv o lv) (i:Nat):W.frozen? ⟨G,i,none⟩=false:=frozen_of_row _ _ _ _ _ h.g
theorem FG.next {w W W':World}{b G R:Nat}{sv zv lv:Value}{o:Int}{p:Option Nat}(h:FG w W b G R sv zv o lv) (hg:W.grownBy W' p) (h1:p≠some G) (h2:p≠some R) (h3:∀ g,p=some g→g=b∨w.heap.size≤g):FG w W' b G R sv zv o lv:=by
 have hf:=h.far;refine⟨(hg.block G (Array.getElem?_eq_some_iff.1 h.g).1 (fun e=>h1 e.symm)).trans h.g,(hg.block R (Array.getElem?_eq_some_iff.1 h.r).1 (fun e=>h2 e.symm)).trans h.r,?_,h.far⟩;exact⟨hg.os.trans h.k.os,hg.tape.trans h.k.tape,hg.output.trans h.k.output,Nat.le_trans h.k.size hg.size,fun j hj hne=>(hg.block j (Nat.lt_of_lt_of_le hj h.k.size) (fun e=>by rcases h3 j e.symm with h | h;exact hne (by rw [h]);omega)).trans (h.k.block j hj hne)⟩
theorem FG.gr {w W W':World}{b G R:Nat}{sv zv lv:Value}{o:Int}(h:FG w W b G R sv zv o lv) (hg:Gr W W' b):FG w W' b G R sv zv o lv :=
 h.next hg (fun e=>by injection e with e;have:=h.far;omega) (fun e=>by injection e with e;have:=h.far;omega) (fun g e=>by injection e with e;exact .inl e.symm)
theorem FG.below {w W W':World}{b G R:Nat}{sv zv lv:Value}{o:Int}(h:FG w W b G R sv zv o lv) (hb:Below W.heap.size W W'):FG w W' b G R sv zv o lv :=
 h.next (p:=none) ⟨hb.os,hb.tape,hb.output,hb.size,fun k hk _=>hb.block k hk⟩ (by simp) (by simp) (fun g e=>by cases e)
theorem FG.own {w W W':World}{b G R:Nat}{sv zv lv:Value}{o:Int}{p:Option Nat}{t:TypeId}(h:FG w W b G R sv zv o lv) (hg:W.grownBy W' p) (hp:∀ g,p=some g→w.heap.size≤g∧∃ cur fr,W.heap[g]? = some (.cells cur t fr)) (ht:t≠40):FG w W' b G R sv zv o lv:=by
 have key:∀ (g:Nat) (cur:Array Value) (fr:Nat × Nat),W.heap[g]? = some (.cells cur 40 fr)→p≠some g:=fun g cur fr h1 e=>by
  obtain⟨_,cur',fr',h3⟩:=hp g e;rw [h1] at h3;injection h3 with h3;injection h3 with _ h4;exact ht h4.symm
 exact h.next hg (key G _ _ h.g) (key R _ _ h.r) (fun g e=>.inr (hp g e).1)
theorem FG.put {w W:World}{b G R:Nat}{sv zv lv sv' zv' lv':Value}{o o':Int}(h:FG w W b G R sv zv o lv) (i:Nat) (u:Value) (e:(#[sv,zv,.int .i64 o,lv]:Array Value).setIfInBounds i u=#[sv',zv',.int .i64 o',lv']):FG w (W.setCell ⟨G,i,none⟩ u) b G R sv' zv' o' lv':=by
 have hf:=h.far;have hg:=grown_put W G i u;have h1:=heap_setCell_same W G i _ _ u h.g;rw [e] at h1;exact⟨h1,(hg.block R (Array.getElem?_eq_some_iff.1 h.r).1 (fun e=>by injection e with e;omega)).trans h.r,h.k.fresh hg (by omega),h.far⟩
theorem FG.keepD {w W:World}{b G R:Nat}{sv zv lv:Value}{o:Int}{v:DrV}(h:FG w W b G R sv zv o lv) (ha:DrAt w b v):KeepD w W:=KeepD.dr ha h.k
theorem DrIn.fun_ {β:Type}{w W:World}{b G R i:Nat}{sv zv lv u:Value}{o:Int}{s:ByteArray}{v v':DrV}{E:RdR β} {C:RdS→RdR β} (h:DrIn W b s v v' E C) (hf:FG w W b G R sv zv o lv):DrIn (W.setCell ⟨G,i,none⟩ u) b s v v' E C :=
 h.typed (t:=40) (grown_put W G i u) (fun g e=>by injection e with e;subst e;exact⟨_,_,hf.g⟩) (by decide) (by decide)
structure Two6 (W:World) (base:Nat) (v u:Value) (l t:List Nat):Prop where
 a:Own6 W base v l
 b:Own6 W base u t
 far:v.ownBlock=none∨v.ownBlock≠u.ownBlock
theorem Two6.swap {W:World}{base:Nat}{v u:Value}{l t:List Nat}(H:Two6 W base v u l t):Two6 W base u v t l :=
 ⟨H.b,H.a,by
  rcases H.far with h | h
  ·cases hu:u.ownBlock with
   | none=>exact .inl rfl
   | some g=>exact .inr (by rw [h];exact fun e=>by cases e)
  ·exact .inr fun e=>h e.symm⟩
theorem Two6.keep {W W':World}{base:Nat}{v u:Value}{l t:List Nat}{p:Option Nat}{ty:TypeId}(H:Two6 W base v u l t) (hg:W.grownBy W' p) (hp:∀ g,p=some g→∃ cur fr,W.heap[g]? = some (.cells cur ty fr)) (ht:ty≠2):Two6 W' base v u l t:=by
 have key:∀ {v:Value}{l:List Nat},Own6 W base v l→Own6 W' base v l:=fun {v l} h=>h.keepB fun g e h1 _=>hg.block g h1 (fun e2=>by
  obtain⟨_,_,cur,h3⟩:=h.obj g e;obtain⟨cur',fr',h4⟩:=hp g e2.symm;rw [h3] at h4;injection h4 with h4;injection h4 with _ h5;exact ht h5.symm)
 exact⟨key H.a,key H.b,H.far⟩
theorem Two6.below {W W':World}{base:Nat}{v u:Value}{l t:List Nat}(H:Two6 W base v u l t) (hb:Below W.heap.size W W'):Two6 W' base v u l t :=
 ⟨H.a.keepB fun g _ h _=>hb.block g h,H.b.keepB fun g _ h _=>hb.block g h,H.far⟩
theorem Own6.formN {W:World}{base:Nat}{v:Value}{l:List Nat}(h:Own6 W base v l) {m:Nat}(hm:l.length=m):∃ A c,v = .slice A m c:=by
 obtain⟨A,c,e,_⟩:=h.form;exact⟨A,c,by rw [e,hm]⟩
theorem Two6.push {W W':World}{base:Nat}{v v' u:Value}{l l' t:List Nat}(H:Two6 W base v u l t) (ha:Own6 W' base v' l') (hg:W.grownBy W' v.ownBlock) (hat:v'.ownBlock=v.ownBlock∨v'.ownBlock=some W.heap.size):Two6 W' base v' u l' t:=by
 refine⟨ha,H.b.grown hg H.swap.far,?_⟩;rcases hat with e | e
 ·rw [e];exact H.far
 refine .inr fun e2=>?_;rw [e] at e2;have:=(H.b.lt _ e2.symm).2;omega
theorem DrIn.own6 {β:Type}{W W':World}{b base:Nat}{u:Value}{l:List Nat}{s:ByteArray}{v v':DrV}{E:RdR β} {C:RdS→RdR β} (h:DrIn W b s v v' E C) (ho:Own6 W base u l) (hg:W.grownBy W' u.ownBlock):DrIn W' b s v v' E C :=
 h.typed (t:=2) hg (fun g e=>by obtain⟨_,_,cur,h⟩:=ho.obj g e;exact⟨cur,_,h⟩) (by decide) (by decide)
theorem FG.own6 {w W W':World}{b G R:Nat}{sv zv lv u:Value}{o:Int}{l:List Nat}(h:FG w W b G R sv zv o lv) (ho:Own6 W w.heap.size u l) (hg:W.grownBy W' u.ownBlock):FG w W' b G R sv zv o lv :=
 h.own (t:=2) hg (fun g e=>by obtain⟨h1,_,cur,h⟩:=ho.obj g e;exact⟨h1,cur,_,h⟩) (by decide)
theorem scopeM_next {l:List UInt8} {nv n:Nat}{acc:List Nat}{s:RdS}(hn:0 < n):scopeM l nv n acc s=(numM l 0 ((nv:Int) - 1) s).bind fun v s'=>if acc.contains v.1.toNat then .bad 4 v.2 else scopeM l nv (n - 1) (acc++[v.1.toNat]) s':=by
 obtain⟨m,rfl⟩:∃ m,n=m+1:=⟨n - 1,by omega⟩
 rfl
theorem nodup_len:∀ (n:Nat) (l:List Nat),l.Pairwise (·≠·)→(∀ x∈l,x < n)→l.length≤n
 | 0,l,_,h=>by
  cases l with
  | nil=>exact Nat.le_refl _
  | cons x l=>exact absurd (h x (by simp)) (Nat.not_lt_zero _)
 | n+1,l,hp,h=>by
  by_cases hm:n∈l
  ·have hnd:l.Nodup:=hp
   have h1:=nodup_len n (l.erase n) (hnd.erase n) (fun x hx=>by
    have:=(List.Nodup.mem_erase_iff hnd).1 hx;have:=h x this.2;omega)
   have:=List.length_erase_of_mem hm;omega
  have:=nodup_len n l hp (fun x hx=>by
   have:=h x hx;have:x≠n:=fun e=>hm (e ▸ hx);omega)
  omega
theorem pick_snoc (sizes acc:List Nat) (y:Nat):pickN sizes (acc++[y])=pickN sizes acc++[nth sizes y]:=by simp [pickN,nth]
structure ScD (w:World) (b G R:Nat) (s:ByteArray) (sizes:List Nat) (ar:Nat) (v:DrV) (E:RdR AccM) (C:List Nat→RdS→RdR AccM) (j:Nat) (acc:List Nat) (sv zv:Value) (v':DrV) (W:World):Prop where
 f:FG w W b G R sv zv 0 (.slice none 0 0)
 two:Two6 W w.heap.size sv zv acc (pickN sizes acc)
 rd:DrIn W b s v v' E (fun st=>(scopeM s.data.toList sizes.length (ar - j) acc st).bind C)
 ok:v'.bad=0∨ar=0
 len:acc.length=j
 few:acc.length≤100000
 once:acc.Pairwise (·≠·)
 below:∀ x∈acc,x < sizes.length
theorem drIn_few {β:Type}{W:World}{b:Nat}{s:ByteArray}{v v':DrV}{E:RdR β} {C:RdS→RdR β} (h:DrIn W b s v v' E C) (hf:v'.bad=0):∃ st,DrOk W b s st v'∧E=C st:=by
 rcases h.2 with ⟨st,h1,h2⟩ | ⟨e,p,h1,_⟩
 ·exact⟨st,h1,h2⟩
 exact absurd hf h1.bad
structure FrD (W0:World) (b:Nat) (ob:Option Nat) (W:World):Prop where
 os:W.os=W0.os
 tape:W.tape=W0.tape
 output:W.output=W0.output
 size:W0.heap.size≤W.heap.size
 block:∀ k,k < W0.heap.size→k≠b→ob≠some k→W.heap[k]? = W0.heap[k]?
theorem FrD.of {W0 W:World}{b:Nat}{ob:Option Nat}(h:Gr W0 W b):FrD W0 b ob W:=⟨h.os,h.tape,h.output,h.size,fun k h1 h2 _=>h.block k h1 (fun e=>h2 (Option.some.inj e))⟩
theorem FrD.gr {W0 W W':World}{b:Nat}{ob:Option Nat}(h:FrD W0 b ob W) (k:Gr W W' b):FrD W0 b ob W' :=
 ⟨k.os.trans h.os,k.tape.trans h.tape,k.output.trans h.output,Nat.le_trans h.size k.size,fun j h1 h2 h3=>(k.block j (Nat.lt_of_lt_of_le h1 h.size) (fun e=>h2 (Option.some.inj e))).trans (h.block j h1 h2 h3)⟩
theorem FrD.put {W0 W W':World}{b:Nat}{ob:Option Nat}(h:FrD W0 b ob W) (k:W.grownBy W' ob):FrD W0 b ob W' :=
 ⟨k.os.trans h.os,k.tape.trans h.tape,k.output.trans h.output,Nat.le_trans h.size k.size,fun j h1 h2 h3=>(k.block j (Nat.lt_of_lt_of_le h1 h.size) (fun e=>h3 e.symm)).trans (h.block j h1 h2 h3)⟩
theorem FrD.fresh {W0 W W':World}{b g:Nat}{ob:Option Nat}(h:FrD W0 b ob W) (k:Gr W W' g) (hg:W0.heap.size≤g):FrD W0 b ob W' :=
 ⟨k.os.trans h.os,k.tape.trans h.tape,k.output.trans h.output,Nat.le_trans h.size k.size,fun j h1 h2 h3=>(k.block j (Nat.lt_of_lt_of_le h1 h.size) (fun e=>by injection e with e;omega)).trans (h.block j h1 h2 h3)⟩
def FunPost7 (s:ByteArray) (b base:Nat) (sizes:List Nat) (v:DrV) (a:AccM) (E:RdR AccM) (w:World) (e:Ending) (w':World):Prop :=
 ∃ A1 n1 c1 A2 n2 c2 o A3 n3 c3 v'',e = .returned (.agg #[.slice A1 n1 c1,.slice A2 n2 c2,.int .i64 o,.slice A3 n3 c3])∧FrD w b v.shared.ownBlock w'∧(v''.shared.ownBlock=v.shared.ownBlock∨∃ k,v''.shared.ownBlock=some k∧w.heap.size≤k) ∧
  ((∃ f a' st' us',E = .ok a' st'∧a'.funs=a.funs++[f]∧f.other=o∧FnV w' sizes (.slice A1 n1 c1) (.slice A2 n2 c2) (.slice A3 n3 c3) f∧DrOk w' b s st' v''∧v''.lines=a'.told∧OwnFd w' base v''.shared us'∧FdIs w' sizes us' a'.shared)∨∃ e' p,DrBad w' b e' p v''∧E = .bad e' p)
theorem fun7_bad {w W:World}{b base R:Nat}{s:ByteArray}{sizes:List Nat}{v v':DrV}{a:AccM}{E:RdR AccM}{A1 A2 A3:Option Addr}{n1 n2 n3 c1 c2 c3 e p:Nat}{o:Int}(hR:W.heap[R]? = some (.cells #[.slice none 0 0,.slice none 0 0,.int .i64 0,.slice none 0 0] 40 (0,0))) (hf:FrD w b v.shared.ownBlock W) (hr:w.heap.size≤R∧b≠R)
  (hn:DrNear v v') (hb:DrBad W b e p v') (hE:E = .bad e p) (cs:Array Value):FunPost7 s b base sizes v a E w (.returned (.agg #[.slice A1 n1 c1,.slice A2 n2 c2,.int .i64 o,.slice A3 n3 c3])) (W.setRow R cs):=by
 have hg:=growRow W R cs;exact⟨A1,n1,c1,A2,n2,c2,o,A3,n3,c3,v',rfl,hf.fresh hg hr.1,.inl (by rw [hn.shared]),.inr ⟨e,p,hb.keepAt ((hg.block b hb.at_.lt (fun e=>hr.2 (Option.some.inj e))).trans hb.at_) rfl rfl,hE⟩⟩
def LnK7 (s:ByteArray) (b:Nat) (W:World) (ls:List LineM) (v':DrV) (E:RdR AccM) (C:List LineM × Int→RdS→RdR AccM):Prop :=
 (∃ told st',DrOk W b s st' v'∧v'.lines=told∧E=C (ls,told) st')∨∃ e p,DrBad W b e p v'∧E = .bad e p
theorem LnK7.at_ {s:ByteArray}{b:Nat}{W:World}{ls:List LineM}{v':DrV}{E:RdR AccM}{C:List LineM × Int→RdS→RdR AccM}(h:LnK7 s b W ls v' E C):DrAt W b v':=by
 rcases h with ⟨t,st',h,_⟩ | ⟨e,p,h,_⟩
 ·exact h.at_
 exact h.at_
theorem LnK7.keep {s:ByteArray}{b:Nat}{W W':World}{ls:List LineM}{v':DrV}{E:RdR AccM}{C:List LineM × Int→RdS→RdR AccM}(h:LnK7 s b W ls v' E C) (hb:W'.heap[b]? = W.heap[b]?) (hk:KeepD W W'):LnK7 s b W' ls v' E C:=by
 rcases h with ⟨t,st',h,h2,h3⟩ | ⟨e,p,h,h2⟩
 ·exact .inl ⟨t,st',h.keepAt (hb.trans h.at_) hk,h2,h3⟩
 exact .inr ⟨e,p,h.keepAt (hb.trans h.at_) rfl rfl,h2⟩
theorem Own6.viewN {W:World}{base n c:Nat}{A:Option Addr}{l:List Nat}(h:Own6 W base (.slice A n c) l):l.length=n∧n≤c∧I6 W A l:=by
 obtain⟨A',c',e,h1,h2⟩:=h.form;injection e with e1 e2 e3;subst e1 e2 e3;exact⟨rfl,h1,h2⟩
theorem keep_fun {W W':World}{g:Nat}{cs:Array Value}{fr:Nat × Nat}(hc:W.heap[g]? = some (.cells cs 40 fr)) (hg:W.grownBy W' (some g)):KeepD W W' :=
 KeepD.typed hg (fun g' e=>by injection e with e;subst e;exact⟨_,_,hc⟩) (by decide) (by decide) (by decide)
theorem keep_fd {W W':World}{base:Nat}{v:Value}{us:List (Value × Value × Int × Value)} (ho:OwnFd W base v us) (hg:W.grownBy W' v.ownBlock):KeepD W W' :=
 KeepD.typed hg (fun g' e=>by obtain⟨_,_,cur,h⟩:=ho.obj g' e;exact⟨cur,_,h⟩) (by decide) (by decide) (by decide)
theorem OwnFd.cells4 {W:World}{base n c:Nat}{A:Option Addr}{us:List (Value × Value × Int × Value)} (h:OwnFd W base (.slice A n c) us) {i:Nat}{x:Value × Value × Int × Value}(hx:us[i]? = some x) :
  ∃ g,A=some ⟨g,0,none⟩∧base≤g∧g < W.heap.size∧W.cell? ⟨g,i * 4,none⟩=some x.1∧W.cell? ⟨g,i * 4+1,none⟩=some x.2.1∧W.cell? ⟨g,i * 4+2,none⟩=some (.int .i64 x.2.2.1)∧W.cell? ⟨g,i * 4+3,none⟩=some x.2.2.2:=by
 have h':=h;have hi:i < us.length:=(List.getElem?_eq_some_iff.1 hx).1;obtain⟨k1,⟨e,hn⟩ | ⟨g,cap,cur,e,hb',hh,hm,hx',hs,ht⟩⟩:=h
 ·omega
 injection e with e1 e2 e3;subst e1 e2 e3;obtain⟨a1,a2,a3,a4⟩:=fdC_at us i x hx;have key:=fun j (hj:j < us.length * 4)=>World.ownsRow.cellAt (h':W.ownsRow base 40 4 _ us.length _) j hj;exact⟨g,rfl,hb',(Array.getElem?_eq_some_iff.1 hh).1,(key (i * 4) (by omega)).trans a1,(key (i * 4+1) (by omega)).trans a2,(key (i * 4+2) (by omega)).trans a3,(key (i * 4+3) (by omega)).trans a4⟩
abbrev HoldS_Dfe (wb:World) (b g G i n c n2 c2:Nat) (A A2:Option Addr) (zq:Value) (W:World):Prop :=
 W.cell? ⟨b,8,none⟩=some (.slice A n c)∧W.cell? ⟨g,i * 4+1,none⟩=some zq∧W.cell? ⟨G,1,none⟩=some (.slice A2 n2 c2)∧Below wb.heap.size wb W
theorem holdS_Dfe {wb W W':World}{b g G i n c n2 c2:Nat}{A A2:Option Addr}{zq:Value}(H:HoldS_Dfe wb b g G i n c n2 c2 A A2 zq W) (hb:Below W.heap.size W W'):HoldS_Dfe wb b g G i n c n2 c2 A A2 zq W':=by
 obtain⟨a0,a1,a2,h9⟩:=H;have K:∀ b i v,W.cell? ⟨b,i,none⟩=some v→W'.cell? ⟨b,i,none⟩=some v:=fun b i v h=>(hb.cell (p:=⟨b,i,none⟩) (World.block_lt_of_cell? W _ h)).trans h;exact⟨K _ _ _ a0,K _ _ _ a1,K _ _ _ a2,h9.trans (hb.mono h9.size)⟩
theorem HoldS_Dfe.below {wb W:World}{b g G i n c n2 c2:Nat}{A A2:Option Addr}{zq:Value}(H:HoldS_Dfe wb b g G i n c n2 c2 A A2 zq W):Below wb.heap.size wb W:=H.2.2.2
theorem hold4 {W W':World}{G:Nat}{a b c d:Value}(h:W.cell? ⟨G,0,none⟩=some a∧W.cell? ⟨G,1,none⟩=some b∧W.cell? ⟨G,2,none⟩=some c∧W.cell? ⟨G,3,none⟩=some d) (hb:Below W.heap.size W W'):W'.cell? ⟨G,0,none⟩=some a∧W'.cell? ⟨G,1,none⟩=some b∧W'.cell? ⟨G,2,none⟩=some c∧W'.cell? ⟨G,3,none⟩=some d:=by
 have hl:G < W.heap.size:=World.block_lt_of_cell? W ⟨G,0,none⟩ h.1;have e:=fun i=>hb.cell (p:=⟨G,i,none⟩) hl;exact⟨(e 0).trans h.1,(e 1).trans h.2.1,(e 2).trans h.2.2.1,(e 3).trans h.2.2.2⟩
theorem hold4_o {W W':World}{G:Nat}{a b c d:Value}{p:Option Nat}(h:W.cell? ⟨G,0,none⟩=some a∧W.cell? ⟨G,1,none⟩=some b∧W.cell? ⟨G,2,none⟩=some c∧W.cell? ⟨G,3,none⟩=some d) (hg:W.grownBy W' p) (hne:p≠some G):W'.cell? ⟨G,0,none⟩=some a∧W'.cell? ⟨G,1,none⟩=some b∧W'.cell? ⟨G,2,none⟩=some c∧W'.cell? ⟨G,3,none⟩=some d:=by
 have hl:G < W.heap.size:=World.block_lt_of_cell? W ⟨G,0,none⟩ h.1;have e:=fun i=>World.cell?_of_block (a:=⟨G,i,none⟩) (hg.block G hl (fun e=>hne e.symm));exact⟨(e 0).trans h.1,(e 1).trans h.2.1,(e 2).trans h.2.2.1,(e 3).trans h.2.2.2⟩
theorem fd_row {w W X Y:World}{b base G R:Nat}{sv zv lv u:Value}{o:Int}{us:List (Value × Value × Int × Value)} (hF:FG w W b G R sv zv o lv) (hO:OwnFd w base u us) (na:Below W.heap.size W X) (GX:X.grownBy Y u.ownBlock) (v14:Value) :
  (Y.setCell ⟨b,8,none⟩ v14).heap[R]? = some (.cells #[.slice none 0 0,.slice none 0 0,.int .i64 0,.slice none 0 0] 40 (0,0)):=by
 have hf:=hF.far;have hRW:R < W.heap.size:=(Array.getElem?_eq_some_iff.1 hF.r).1;have zX:=na.size;have zY:=GX.size;have rX:X.heap[R]? = W.heap[R]?:=na.block R hRW;have rY:Y.heap[R]? = X.heap[R]?:=GX.block R (by omega) (fun e=>by obtain⟨_,h1,_⟩:=hO.obj R e.symm;omega);exact ((grown_put Y b 8 v14).block R (by omega) (fun e=>by injection e with e;omega)).trans (rY.trans (rX.trans hF.r))
theorem fun7_view {W:World}{base n3 c3:Nat}{sv zv:Value}{A3:Option Addr}{acc sizes:List Nat}{o:Int}{ls:List LineM}(hT:Two6 W base sv zv acc (pickN sizes acc)) (h3:n3=ls.length) (hc3:ls.length≤c3) (hl:LnV W A3 ls):FnV W sizes sv zv (.slice A3 n3 c3) ⟨acc,o,ls⟩:=by
 obtain⟨A1,c1,e1,h1,i1⟩:=hT.a.form;obtain⟨A2,c2,e2,h2,i2⟩:=hT.b.form;have hp:(pickN sizes acc).length=acc.length:=by simp [pickN]
 rw [hp] at e2 h2;exact⟨⟨A1,c1,e1,h1,i1⟩,⟨A2,c2,e2,h2,i2⟩,A3,c3,by rw [h3],hc3,hl⟩
theorem fun7_pos {w W:World}{b base G R:Nat}{s:ByteArray}{sizes acc:List Nat}{v v':DrV}{a:AccM}{E:RdR AccM}{A1 A2 A3:Option Addr}{n1 n2 n3 c1 c2 c3 arP oP:Nat}{ar o:Int}{ls:List LineM}{us:List (Value × Value × Int × Value)}
  (hF:FG w W b G R (.slice A1 n1 c1) (.slice A2 n2 c2) o (.slice A3 n3 c3)) (hT:Two6 W w.heap.size (.slice A1 n1 c1) (.slice A2 n2 c2) acc (pickN sizes acc)) (h3:n3=ls.length) (hc3:ls.length≤c3) (hl:LnV W A3 ls) (hn:v'.shared=v.shared)
  (hk:LnK7 s b W ls v' E (cF4 sizes a (ar,arP) acc (o,oP))) (hs:¬ ar < 0) (hat:DrAt w b v) (hO:OwnFd w base v.shared us) (hU:FdIs w sizes us a.shared) (hb:b < base) (hbase:base≤w.heap.size) (cs:Array Value) :
  FunPost7 s b base sizes v a E w (.returned (.agg #[.slice A1 n1 c1,.slice A2 n2 c2,.int .i64 o,.slice A3 n3 c3])) (W.setRow R cs):=by
 have hg:=growRow W R cs;have hf:=hF.far;have K:KeepD W (W.setRow R cs):=keep_fun hF.r hg;have hbl:(W.setRow R cs).heap[b]? = W.heap[b]?:=hg.block b hk.at_.lt (fun e=>by injection e with e;omega);refine⟨A1,n1,c1,A2,n2,c2,o,A3,n3,c3,v',rfl,(FrD.of hF.k).fresh hg hf.1,.inl (by rw [hn]),?_⟩;rcases hk.keep hbl K with ⟨t,st',h1,h2,h4⟩ | ⟨e,p,h1,h2⟩
 rotate_left
 ·exact .inr ⟨e,p,h1,h2⟩
 refine .inl ⟨⟨acc,o,ls⟩,_,st',us,h4,rfl,rfl,(fun7_view hT h3 hc3 hl).keep K,h1,h2,?_,?_⟩
 ·rw [hn]
  exact hO.keepB fun g e h5 h6=>(hg.block g (Nat.lt_of_lt_of_le h5 hF.k.size) (fun e=>by injection e with e;omega)).trans (hF.k.block g h5 (fun e=>by injection e with e;omega))
 show FdIs _ sizes us (if ar < 0 then _ else a.shared);rw [if_neg hs];exact hU.keep ((hF.keepD hat).trans K)
theorem fun7_neg {w W X Y:World}{b base G R:Nat}{s:ByteArray}{sizes acc:List Nat}{v v':DrV}{a:AccM}{E:RdR AccM}{A1 A2 A3:Option Addr}{n1 n2 n3 c1 c2 c3 arP oP:Nat}{ar o:Int}{ls:List LineM}{us:List (Value × Value × Int × Value)} {u:Value}
  (hF:FG w W b G R (.slice A1 n1 c1) (.slice A2 n2 c2) o (.slice A3 n3 c3)) (hT:Two6 W w.heap.size (.slice A1 n1 c1) (.slice A2 n2 c2) acc (pickN sizes acc)) (h3:n3=ls.length) (hc3:ls.length≤c3) (hl:LnV W A3 ls) (hn:v'.shared=v.shared)
  (hk:LnK7 s b W ls v' E (cF4 sizes a (ar,arP) acc (o,oP))) (hs:ar < 0) (hat:DrAt w b v) (hO:OwnFd w base v.shared us) (hU:FdIs w sizes us a.shared) (hb:b < base) (hbase:base≤w.heap.size)
  (na:Below W.heap.size W X) (OW:OwnFd X base v.shared us) (OX:OwnFd Y base u (us++[(.slice A1 n1 c1,.slice A2 n2 c2,o,.slice A3 n3 c3)])) (GX:X.grownBy Y v.shared.ownBlock) (AT:u.ownBlock=v.shared.ownBlock∨u.ownBlock=some X.heap.size) (cs:Array Value) :
  FunPost7 s b base sizes v a E w (.returned (.agg #[.slice A1 n1 c1,.slice A2 n2 c2,.int .i64 o,.slice A3 n3 c3])) ((Y.setCell ⟨b,8,none⟩ u).setRow R cs):=by
 have hf:=hF.far;have hob:∀ g,v.shared.ownBlock=some g→base≤g∧g < w.heap.size:=fun g e=>⟨(hO.obj g e).1,(hO.obj g e).2.1⟩
 have g15:=grown_put Y b 8 u;have g16:=growRow (Y.setCell ⟨b,8,none⟩ u) R cs;have hRW:R < W.heap.size:=(Array.getElem?_eq_some_iff.1 hF.r).1;have zX:=na.size;have zY:=GX.size;have zS:=g15.size;have rX:X.heap[R]? = W.heap[R]?:=na.block R hRW;have rY:Y.heap[R]? = X.heap[R]?:=GX.block R (by omega) (fun e=>by have:=hob R e.symm;omega);have rS:(Y.setCell ⟨b,8,none⟩ u).heap[R]? = Y.heap[R]?:=g15.block R (by omega) (fun e=>by injection e with e;omega);have hRS:=rS.trans (rY.trans (rX.trans hF.r));have aY:DrAt Y b v':=(GX.block b (Nat.lt_of_lt_of_le hk.at_.lt zX) (fun e=>by have:=hob b e.symm;omega)).trans ((na.block b hk.at_.lt).trans hk.at_);have KWX:KeepD W X:=KeepD.below na;have KXY:KeepD X Y:=keep_fd OW GX;have KYS:KeepD Y (Y.setCell ⟨b,8,none⟩ u):=KeepD.dr aY g15;have KSZ:KeepD (Y.setCell ⟨b,8,none⟩ u) ((Y.setCell ⟨b,8,none⟩ u).setRow R cs):=keep_fun hRS g16;have K:=KWX.trans (KXY.trans (KYS.trans KSZ));have aS:DrAt (Y.setCell ⟨b,8,none⟩ u) b { v' with shared:=u }:=aY.put 8 u rfl;have aZ:DrAt ((Y.setCell ⟨b,8,none⟩ u).setRow R cs) b { v' with shared:=u }:=(g16.block b aS.lt (fun e=>by injection e with e;omega)).trans aS;have fr:FrD w b v.shared.ownBlock ((Y.setCell ⟨b,8,none⟩ u).setRow R cs):=((((FrD.of hF.k).gr (Gr.below na)).put GX).gr g15).fresh g16 hf.1;refine⟨A1,n1,c1,A2,n2,c2,o,A3,n3,c3,{ v' with shared:=u },rfl,fr,?_,?_⟩
 ·rcases AT with e | e
  ·exact .inl e
  exact .inr ⟨_,e,by have:=hF.k.size;omega⟩
 rcases hk with ⟨t,st',h1,h2,h4⟩ | ⟨e,p,h1,h2⟩
 rotate_left
 ·exact .inr ⟨e,p,⟨aZ,h1.fe,h1.fp,h1.ne⟩,h2⟩
 have hv:=(fun7_view (o:=o) hT h3 hc3 hl).keep K;refine .inl ⟨⟨acc,o,ls⟩,_,st',us++[(.slice A1 n1 c1,.slice A2 n2 c2,o,.slice A3 n3 c3)],h4,rfl,rfl,hv,⟨aZ,h1.fine,h1.le,h1.fits,h1.big,h1.words.keep K,h1.fin⟩,h2,?_,?_⟩;rotate_left
 ·show FdIs _ sizes _ (if ar < 0 then a.shared++[_] else a.shared)
  rw [if_pos hs];exact (hU.keep ((hF.keepD hat).trans K)).snoc hv
 refine OX.keepB fun g e h5 h6=>?_;have hgR:g≠R:=by
  rcases AT with e' | e'
  ·rw [e'] at e
   have:=hob g e;omega
  rw [e'] at e;injection e with e;omega
 exact (g16.block g (by omega) (fun e=>hgR (Option.some.inj e))).trans (g15.block g h5 (fun e=>by injection e with e;omega))
end Go.Proofs.YtmokogkndbinlaaGreatDoor
