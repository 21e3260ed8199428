import Derived.Test.YtmokogkndbinlaaGreatDoorZhbm
set_option linter.all false
namespace Go.Proofs.YtmokogkndbinlaaGreatDoor
open Go.Lib (hid)
open Go.RowKit
theorem Own6.gr {W W':World}{base b:Nat}{v:Value}{l:List Nat}(h:Own6 W base v l) (hg:Gr W W' b) (hb:b < base):Own6 W' base v l :=
 h.keepB fun g e h1 h2=>hg.block g h1 (fun e=>by injection e with e;omega)
theorem OwnL6.keepB {w w':World}{base:Nat}{v:Value}{l:List (Value × Int)} (h:OwnL6 w base v l) (hk:∀ g,v.ownBlock=some g→g < w.heap.size→base≤g→w'.heap[g]? = w.heap[g]?):OwnL6 w' base v l:=by
 obtain⟨h1,⟨rfl,hn⟩ | ⟨g,cap,cur,rfl,hb',hh,hm,hx,hs,ht⟩⟩:=h
 ·exact⟨h1,.inl ⟨rfl,hn⟩⟩
 exact⟨h1,.inr ⟨g,cap,cur,rfl,hb',(hk g rfl (Array.getElem?_eq_some_iff.1 hh).1 hb').trans hh,hm,hx,hs,ht⟩⟩
structure TpD (wr W:World) (b X:Nat) (s:ByteArray) (sizes acc:List Nat) (v0:DrV) (E:RdR AccM) (C:List Nat→RdS→RdR AccM) (q:Nat) (tup:List Nat) (tv:Value) (v':DrV):Prop where
 x:W.heap[X]? = some (.cells #[tv,.int .i64 0] 117 (0,0))
 own:Own6 W wr.heap.size tv tup
 gr:Gr wr W b
 rd:DrIn W b s v0 v' E (fun st=>(tupleM s.data.toList sizes (acc.drop q) tup st).bind C)
 len:tup.length=q
 cnt:v'.bad=0→lenS v'.l≤lenS v0.l
 far:wr.heap.size≤X∧b < wr.heap.size
theorem TpD.keepW {wr W W1:World}{b X q:Nat}{s:ByteArray}{sizes acc tup:List Nat}{v0 v':DrV}{E:RdR AccM}{C:List Nat→RdS→RdR AccM}{tv:Value}(h:TpD wr W b X s sizes acc v0 E C q tup tv v') (hg:Gr W W1 b) :
  W1.heap[X]? = some (.cells #[tv,.int .i64 0] 117 (0,0))∧Own6 W1 wr.heap.size tv tup∧Gr wr W1 b:=by
 have hf:=h.far;exact⟨(hg.block X (Array.getElem?_eq_some_iff.1 h.x).1 (fun e=>by injection e with e;omega)).trans h.x,h.own.gr hg hf.2,h.gr.trans hg⟩
theorem TpD.next {wr W W1 Wa W2:World}{b X q y:Nat}{s:ByteArray}{sizes acc tup:List Nat}{v0 v' v1:DrV}{E:RdR AccM}{C:List Nat→RdS→RdR AccM}{tv tv':Value}(h:TpD wr W b X s sizes acc v0 E C q tup tv v') (hg:Gr W W1 b)
  (hi:DrIn W1 b s v0 v1 E (fun st=>(tupleM s.data.toList sizes (acc.drop (q+1)) (tup++[y]) st).bind C)) (hc:v1.bad=0→lenS v1.l≤lenS v0.l) (na:Below W1.heap.size W1 Wa) (hO:Own6 Wa wr.heap.size tv tup) (h1:Own6 W2 wr.heap.size tv' (tup++[y])) (h2:Wa.grownBy W2 tv.ownBlock) :
  TpD wr (W2.setCell ⟨X,0,none⟩ tv') b X s sizes acc v0 E C (q+1) (tup++[y]) tv' v1:=by
 obtain⟨k1,k2,k3⟩:=h.keepW hg;have hf:=h.far;have hXa:=(na.block X (Array.getElem?_eq_some_iff.1 k1).1).trans k1;have hX2:W2.heap[X]? = some (.cells #[tv,.int .i64 0] 117 (0,0)):=(h2.block X (Array.getElem?_eq_some_iff.1 hXa).1 (fun e=>by
  obtain⟨_,_,cur,h3⟩:=hO.obj X e.symm;rw [hXa] at h3;injection h3 with h3;injection h3 with _ h4;exact absurd h4 (by decide))).trans hXa
 have hX3:=heap_setCell_same W2 X 0 _ _ tv' hX2;have hgX:=grown_put W2 X 0 tv';have g2:Gr wr W2 b:=⟨h2.os.trans (k3.trans (Gr.below na)).os,h2.tape.trans (k3.trans (Gr.below na)).tape,h2.output.trans (k3.trans (Gr.below na)).output,Nat.le_trans (k3.trans (Gr.below na)).size h2.size,fun j hj hne=>(h2.block j (Nat.lt_of_lt_of_le hj (k3.trans (Gr.below na)).size) (fun e=>by have:=(hO.lt j e.symm).1;omega)).trans ((k3.trans (Gr.below na)).block j hj hne)⟩
 refine⟨hX3,?_,g2.fresh hgX hf.1,?_,by rw [List.length_append,h.len];rfl,hc,hf⟩;rotate_left
 ·exact ((hi.below na).own6 hO h2).typed (t:=117) hgX (fun g e=>by injection e with e;subst e;exact⟨_,_,hX2⟩) (by decide) (by decide)
 exact h1.keepB fun g e h5 h6=>hgX.block g h5 (fun e2=>by
  obtain⟨_,_,cur,h3⟩:=h1.obj g e;injection e2 with e2;subst e2;rw [hX2] at h3;injection h3 with h3;injection h3 with _ h4;exact absurd h4 (by decide))
theorem xrow {W W':World}{base X:Nat}{v:Value}{l:List Nat}{cs:Array Value}(ho:Own6 W base v l) (hX:W.heap[X]? = some (.cells cs 117 (0,0))) (hg:W.grownBy W' v.ownBlock):W'.heap[X]? = some (.cells cs 117 (0,0)) :=
 (hg.block X (Array.getElem?_eq_some_iff.1 hX).1 (fun e=>by
  obtain⟨_,_,cur,h3⟩:=ho.obj X e.symm;rw [hX] at h3;injection h3 with h3;injection h3 with _ h4;exact absurd h4 (by decide))).trans hX
theorem tupleM_drop {l:List UInt8} {sizes acc tup:List Nat}{q:Nat}{s:RdS}(hq:q < acc.length):tupleM l sizes (acc.drop q) tup s=(numM l 0 ((nth (pickN sizes acc) q:Nat) - 1:Int) s).bind fun c s'=>tupleM l sizes (acc.drop (q+1)) (tup++[c.1.toNat]) s':=by
 rw [List.drop_eq_getElem_cons hq];have e:nth (pickN sizes acc) q=sizes.getD acc[q] 0:=by simp [nth,pickN,List.getD,hq]
 rw [e];rfl
structure MtD (wr W:World) (b X:Nat) (s:ByteArray) (tup:List Nat) (tv:Value) (ls:List LineM) (p:Nat) (v0:DrV) (E:RdR AccM) (C:RdS→RdR AccM) (q:Nat) (v':DrV):Prop where
 x:W.heap[X]? = some (.cells #[tv,.int .i64 0] 117 (0,0))
 own:Own6 W wr.heap.size tv tup
 gr:Gr wr W b
 rd:DrIn W b s v0 v' E (fun st=>if ls.any (fun y=>y.1 == tup) then .bad 4 p else C st)
 no:v'.bad=0→∀ i y,ls[i]? = some y→i < q→¬ y.1=tup
 cnt:v'.bad=0→lenS v'.l+1≤lenS v0.l
 far:wr.heap.size≤X∧b < wr.heap.size
theorem MtD.gr' {wr W W1:World}{b X q p:Nat}{s:ByteArray}{tup:List Nat}{v0 v' v1:DrV}{E:RdR AccM}{C:RdS→RdR AccM}{tv:Value}{ls:List LineM}(h:MtD wr W b X s tup tv ls p v0 E C q v') (hg:Gr W W1 b)
  (hi:DrIn W1 b s v0 v1 E (fun st=>if ls.any (fun y=>y.1 == tup) then .bad 4 p else C st)) (hn:v1.bad=0→∀ i y,ls[i]? = some y→i < q+1→¬ y.1=tup) (hc:v1.bad=0→lenS v1.l+1≤lenS v0.l):MtD wr W1 b X s tup tv ls p v0 E C (q+1) v1:=by
 have hf:=h.far;exact⟨(hg.block X (Array.getElem?_eq_some_iff.1 h.x).1 (fun e=>by injection e with e;omega)).trans h.x,h.own.gr hg hf.2,h.gr.trans hg,hi,hn,hc,hf⟩
structure LnG (w W:World) (b G R:Nat) (s:ByteArray) (sizes acc:List Nat) (A1 A2:Option Addr) (q1 q2:Nat) (o:Int) (v0:DrV) (E:RdR AccM) (C:List LineM→RdS→RdR AccM) (N j:Nat) (ls:List LineM) (vs:List (Value × Int)) (lv:Value) (v':DrV):Prop where
 f:FG w W b G R (.slice A1 acc.length q1) (.slice A2 acc.length q2) o lv
 two:Two6 W w.heap.size (.slice A1 acc.length q1) (.slice A2 acc.length q2) acc (pickN sizes acc)
 own:OwnL6 W w.heap.size lv vs
 lis:LnD W vs ls
 rd:DrIn W b s v0 v' E (fun st=>(linesM s.data.toList sizes acc (N - j) ls st).bind C)
 len:ls.length=j
 cnt:v'.bad=0→j+lenS v'.l≤100000
 few:j≤100001
theorem linesM_next {l:List UInt8} {sizes acc:List Nat}{n:Nat}{ls:List LineM}{s:RdS}(hn:0 < n):linesM l sizes acc n ls s=(tupleM l sizes acc [] s).bind fun x s'=>(numM l 0 4611686018427387904 s').bind fun c s'' =>
   if ls.any (fun y=>y.1 == x) then .bad 4 c.2 else linesM l sizes acc (n - 1) (ls++[(x,c.1)]) s'':=by
 obtain⟨m,rfl⟩:∃ m,n=m+1:=⟨n - 1,by omega⟩
 rfl
theorem OwnL6.form3 {W:World}{base:Nat}{v:Value}{vs:List (Value × Int)} (h:OwnL6 W base v vs):∃ A n c,v = .slice A n c:=by
 obtain⟨A,c,e,_⟩:=h.form;exact⟨A,_,c,e⟩
theorem fgl {w Wx Wa W2:World}{b G R:Nat}{sv zv lv:Value}{o:Int}{vs:List (Value × Int)} (h:FG w Wx b G R sv zv o lv) (na:Below Wx.heap.size Wx Wa) (ho:OwnL6 Wa w.heap.size lv vs) (h2:Wa.grownBy W2 lv.ownBlock):W2.frozen? ⟨G,3,none⟩=false∧W2.cell? ⟨G,3,none⟩=some lv:=by
 have f2:FG w W2 b G R sv zv o lv:=(h.below na).own (t:=117) h2 (fun g e=>by obtain⟨k1,_,cur,k2⟩:=ho.obj g e;exact⟨k1,cur,_,k2⟩) (by decide);exact⟨f2.frozen 3,f2.cells.2.2.2⟩
theorem LnG.next {w wr Wx Wa W2:World}{b G R q1 q2 N j n' c':Nat}{s:ByteArray}{sizes acc tup:List Nat}{A1 A2 A':Option Addr}{o c:Int}{v0 v' v1:DrV}{E:RdR AccM}{C:List LineM→RdS→RdR AccM}{ls:List LineM}{vs:List (Value × Int)} {lv lv':Value}
  (h:LnG w wr b G R s sizes acc A1 A2 q1 q2 o v0 E C N j ls vs lv v') (hg:Gr wr Wx b) (hO:Own6 Wx wr.heap.size (.slice A' n' c') tup) (hi:DrIn Wx b s v0 v1 E (fun st=>(linesM s.data.toList sizes acc (N - (j+1)) (ls++[(tup,c)]) st).bind C)) (hc:v1.bad=0→j+1+lenS v1.l≤100000) (hj:j≤100000)
  (na:Below Wx.heap.size Wx Wa) (ho:OwnL6 Wa w.heap.size lv vs) (h1:OwnL6 W2 w.heap.size lv' (vs++[(.slice A' n' c',c)])) (h2:Wa.grownBy W2 lv.ownBlock) :
  LnG w (W2.setCell ⟨G,3,none⟩ lv') b G R s sizes acc A1 A2 q1 q2 o v0 E C N (j+1) (ls++[(tup,c)]) (vs++[(.slice A' n' c',c)]) lv' v1:=by
 have hA:=h.rd.at_;have hf:=h.f.far;have fa:FG w Wa b G R (.slice A1 acc.length q1) (.slice A2 acc.length q2) o lv:=(h.f.gr hg).below na;have f2:FG w W2 b G R (.slice A1 acc.length q1) (.slice A2 acc.length q2) o lv:=fa.own (t:=117) h2 (fun g e=>by obtain⟨k1,_,cur,k2⟩:=ho.obj g e;exact⟨k1,cur,_,k2⟩) (by decide);have hgG:=grown_put W2 G 3 lv';have tyL:∀ g,lv.ownBlock=some g→∃ cur fr,Wa.heap[g]? = some (.cells cur 117 fr):=fun g e=>by obtain⟨_,_,cur,k2⟩:=ho.obj g e;exact⟨cur,_,k2⟩
 have tyG:∀ g,some G=some g→∃ cur fr,W2.heap[g]? = some (.cells cur 40 fr):=fun g e=>by injection e with e;subst e;exact⟨_,_,f2.g⟩
 have tyB:∀ g,some b=some g→∃ cur fr,wr.heap[g]? = some (.cells cur 171 fr):=fun g e=>by injection e with e;subst e;exact⟨_,_,hA⟩
 have keyI:∀ (g:Nat) (cur:Array Value) (fr:Nat × Nat),wr.heap[g]? = some (.cells cur 2 fr)→(W2.setCell ⟨G,3,none⟩ lv').heap[g]? = wr.heap[g]?:=fun g cur fr e=>by
  have e1:=(KeepD.dr hA hg).ints g cur fr e;have e2:=(KeepD.below na).ints g cur fr (e1.trans e);have e3:W2.heap[g]? = Wa.heap[g]?:=h2.block g (Array.getElem?_eq_some_iff.1 (e2.trans (e1.trans e))).1 (fun e4=>by
   obtain⟨cur',fr',k⟩:=tyL g e4.symm;rw [e2.trans (e1.trans e)] at k;injection k with k;injection k with _ k;exact absurd k (by decide))
  have e5:=(keep_fun f2.g hgG).ints g cur fr (e3.trans (e2.trans (e1.trans e)));exact e5.trans (e3.trans (e2.trans e1))
 have keyX:∀ (g:Nat) (cur:Array Value) (fr:Nat × Nat),Wx.heap[g]? = some (.cells cur 2 fr)→(W2.setCell ⟨G,3,none⟩ lv').heap[g]? = Wx.heap[g]?:=fun g cur fr e=>by
  have e2:=(KeepD.below na).ints g cur fr e;have e3:W2.heap[g]? = Wa.heap[g]?:=h2.block g (Array.getElem?_eq_some_iff.1 (e2.trans e)).1 (fun e4=>by
   obtain⟨cur',fr',k⟩:=tyL g e4.symm;rw [e2.trans e] at k;injection k with k;injection k with _ k;exact absurd k (by decide))
  have e5:=(keep_fun f2.g hgG).ints g cur fr (e3.trans (e2.trans e));exact e5.trans (e3.trans e2)
 obtain⟨hl,hcap,hI⟩:=hO.viewN;refine⟨f2.put 3 lv' rfl,?_,?_,?_,?_,by rw [List.length_append,h.len];rfl,hc,by omega⟩
 ·exact (((h.two.keep hg tyB (by decide)).below na).keep h2 tyL (by decide)).keep hgG tyG (by decide)
 ·exact h1.keepB fun g e h5 h6=>hgG.block g h5 (fun e2=>by
   obtain⟨_,_,cur,k⟩:=h1.obj g e;obtain⟨cur',fr',k'⟩:=tyG g e2.symm;rw [k] at k';injection k' with k';injection k' with _ k';exact absurd k' (by decide))
 ·have:=(h.lis.keepG keyI).snoc (ct:=c') (x:=(tup,c)) (hI.keepG keyX)
  rw [show ((tup,c):LineM).1.length=n' from hl] at this;exact this
 exact ((hi.below na).typed (t:=117) h2 tyL (by decide) (by decide)).typed hgG tyG (by decide) (by decide)
theorem word7 {β:Type}{W:World}{b:Nat}{s:ByteArray}{v v':DrV}{E:RdR β} {C:Nat × Nat→RdS→RdR β} (h:DrIn W b s v v' E (fun st=>(wordM s.data.toList st).bind C)) :
  Calls Tryz.prog 111 #[.pointer (some ⟨b,0,none⟩)] W fun e w'=>∃ f t p v'',e = .returned (.agg #[.string (s.extract f t),.int .i64 ((p:Nat):Int)])∧(s.extract f t).size≤100000∧((v''.bad=0∧p=f∧(s.extract f t).size=t - f)∨¬ v''.bad=0)∧Gr W w' b∧DrIn w' b s v v'' E (C (f,t)):=by
 have hsz:∀ f t,s.size≤100000→(s.extract f t).size≤100000:=fun f t h=>by rw [ByteArray.size_extract];omega
 obtain⟨hn,⟨st,ho,hE⟩ | ⟨e,p,hb,hE⟩⟩:=h;rotate_left
 ·refine (word7_still b e p v' W hb).mono ?_
  rintro e' w' ⟨rfl,hB⟩;have ha:DrAt w' b v':=(hB.block b hb.at_.lt).trans hb.at_;exact⟨0,0,0,v',by rw [extract_none];rfl,(by rw [extract_none];decide),.inr hb.bad,Gr.below hB,hn,.inr ⟨e,p,hb.keepAt ha rfl rfl,hE⟩⟩
 dsimp only at hE;have hle:st.k≤s.data.toList.length:=by rw [size_list];exact ho.le
 rcases wordsL_cases hle with ⟨h1,h2⟩ | ⟨f,t,h1,h2,h3⟩
 ·have hw:=ho.words
  rw [h1] at hw;have hf:=ho.fin;rcases h2 with ⟨h2,h3⟩ | ⟨t,h2,h3⟩
  ·rw [h3] at hf
   obtain⟨e1,e2⟩:=hf;refine (word7_none b s v' W ho.at_ ho.fine hw).mono ?_;rintro e' w' ⟨rfl,ha,hg⟩;refine⟨0,0,0,{ v' with bad:=v'.ee,badAt:=v'.en },by rw [extract_none];rfl,hsz _ _ ho.fits,.inr (by show ¬ v'.ee=0;omega),hg,hn.trans ⟨rfl,rfl⟩,.inr ⟨4,s.size,⟨ha,by show v'.ee=_;omega,by show v'.en=_;omega,by decide⟩,?_⟩⟩;rw [hE];unfold wordM;rw [h2];simp only [RdR.bind_bad];rw [size_list]
  rw [h3] at hf;obtain⟨e1,e2⟩:=hf;refine (word7_none b s v' W ho.at_ ho.fine hw).mono ?_;rintro e' w' ⟨rfl,ha,hg⟩;refine⟨0,0,0,{ v' with bad:=v'.ee,badAt:=v'.en },by rw [extract_none];rfl,hsz _ _ ho.fits,.inr (by show ¬ v'.ee=0;omega),hg,hn.trans ⟨rfl,rfl⟩,.inr ⟨11,t,⟨ha,by show v'.ee=_;omega,by show v'.en=_;omega,by decide⟩,?_⟩⟩;rw [hE];unfold wordM;rw [h2];rfl
 have hw:=ho.words;rw [h2] at hw;have hsw:=stepW_word hle h1;rw [size_list] at hsw;obtain⟨lv,hwl,WD⟩:=word7_some b s v' W (f,t) _ ho.at_ ho.fine hw;refine WD.mono ?_;rintro e' w' ⟨rfl,ha,hg⟩;refine⟨f,t,f,{ v' with l:=lv },rfl,hsz _ _ ho.fits,.inl ⟨ho.fine,rfl,by rw [ByteArray.size_extract];omega⟩,hg,hn.trans ⟨rfl,rfl⟩,.inl ⟨⟨t,st.big⟩,⟨ha,ho.fine,hsw.2.2.1,ho.fits,ho.big,hwl.keep (KeepD.dr ho.at_ hg),?_⟩,?_⟩⟩
 ·have:=ho.fin
  rw [h3] at this;exact this
 rw [hE];unfold wordM;rw [h1];rfl
theorem OwnW.wl {W:World}{base b:Nat}{v:Value}{s:ByteArray}{ws:List (Nat × Nat)} (h:OwnW W base v s ws) (hb:∀ g,v.ownBlock=some g→g≠b):WL W b v s ws:=by
 have h0:=h;obtain⟨hl,⟨rfl,hn⟩ | ⟨g,cap,cur,rfl,hb',hh,hm,hcm,hs,ht⟩⟩:=h
 ·have:ws=[]:=List.eq_nil_of_length_eq_zero hn
  subst this;exact⟨none,0,rfl,Nat.le_refl _,.inl rfl⟩
 refine⟨_,cap,rfl,hm,.inr ⟨g,0,cur,(0,0),rfl,hh,hb g rfl,fun j x hx=>?_⟩⟩;have hj:j < ws.length:=(List.getElem?_eq_some_iff.1 hx).1;have hxe:ws[j]=x:=(List.getElem?_eq_some_iff.1 hx).2;obtain⟨A,c,e,hf⟩:=h0.form;injection e with e1 e2 e3;obtain⟨g',e4,_,_,k1,k2,_⟩:=hf j hj;rw [← e1] at e4;injection e4 with e4;injection e4 with e5;subst e5;rw [hxe] at k1 k2;simp only [Nat.zero_add];exact⟨k1,k2⟩
def FileD (W:World) (fb base:Nat) (s:ByteArray) (F:FileM):Prop :=
 ∃ Az cz fv us,W.heap[fb]? = some (.cells #[.string (s.extract F.name.1 F.name.2),.int .i64 F.top,.slice Az F.sizes.length cz,fv] 37 (0,0))∧F.sizes.length≤cz∧I6 W Az F.sizes∧OwnFd W base fv us∧FdIs W F.sizes us F.funs
theorem DrIn.convB {β:Type}{W:World}{b:Nat}{s:ByteArray}{v v':DrV}{E:RdR β} {C C':RdS→RdR β} (h:DrIn W b s v v' E C) (hC:v'.bad=0→∀ st,C st=C' st):DrIn W b s v v' E C':=by
 refine⟨h.1,?_⟩;rcases h.2 with ⟨st,h1,h2⟩ | h
 ·exact .inl ⟨st,h1,h2.trans (hC h1.fine st)⟩
 exact .inr h
theorem dec_nat (a n:Nat):decide ((a:Int) < (n:Int))=decide (a < n):=by
 by_cases h:a < n
 ·rw [decide_eq_true h,decide_eq_true (by omega)]
 rw [decide_eq_false h,decide_eq_false (by omega)]
theorem drIn_few7 {β:Type}{W:World}{b:Nat}{s:ByteArray}{v v':DrV}{E:RdR β} {C:RdS→RdR β} (h:DrIn W b s v v' E C) (hf:v'.bad=0):lenS v'.l≤100000:=by
 rcases h.2 with ⟨st,h1,h2⟩ | ⟨e,p,h1,_⟩
 ·exact h1.lenS.2
 exact absurd hf h1.bad
theorem Own6.dr {W W':World}{b base:Nat}{u:Value}{l:List Nat}{v:DrV}(h:Own6 W base u l) (ha:DrAt W b v) (hg:Gr W W' b):Own6 W' base u l :=
 h.keepB fun g e h1 _=>hg.block g h1 (fun e2=>by
  obtain⟨_,_,cur,h3⟩:=h.obj g e;injection e2 with e2;subst e2;have ha':W.heap[g]? = some (.cells (drC v) 171 (0,0)):=ha;rw [ha'] at h3;injection h3 with h3;injection h3 with _ h4;exact absurd h4 (by decide))
structure RS (w W:World) (b fb:Nat) (nm kv sz fv:Value):Prop where
 row:W.heap[fb]? = some (.cells #[nm,kv,sz,fv] 37 (0,0))
 bel:Below w.heap.size w W
 far:w.heap.size≤b∧b < fb
theorem RS.gr {w W W':World}{b fb:Nat}{nm kv sz fv:Value}(h:RS w W b fb nm kv sz fv) (hg:Gr W W' b):RS w W' b fb nm kv sz fv :=
 ⟨(hg.block fb (Array.getElem?_eq_some_iff.1 h.row).1 (fun e=>by injection e with e;have:=h.far;omega)).trans h.row,below_grown h.bel hg (Nat.le_refl _) h.far.1,h.far⟩
theorem RS.below {w W W':World}{b fb:Nat}{nm kv sz fv:Value}(h:RS w W b fb nm kv sz fv) (hb:Below W.heap.size W W'):RS w W' b fb nm kv sz fv :=
 ⟨(hb.block fb (Array.getElem?_eq_some_iff.1 h.row).1).trans h.row,then_ h.bel hb,h.far⟩
theorem RS.cells {w W:World}{b fb:Nat}{nm kv sz fv:Value}(h:RS w W b fb nm kv sz fv):W.cell? ⟨fb,0,none⟩=some nm∧W.cell? ⟨fb,1,none⟩=some kv∧W.cell? ⟨fb,2,none⟩=some sz∧W.cell? ⟨fb,3,none⟩=some fv:=by
 refine⟨?_,?_,?_,?_⟩ <;> (rw [cell_of_row _ _ _ _ _ _ h.row];rfl)
theorem RS.frozen {w W:World}{b fb:Nat}{nm kv sz fv:Value}(h:RS w W b fb nm kv sz fv) (i:Nat):W.frozen? ⟨fb,i,none⟩=false:=frozen_of_row _ _ _ _ _ h.row
theorem RS.put {w W:World}{b fb:Nat}{nm kv sz fv nm' kv' sz' fv':Value}(h:RS w W b fb nm kv sz fv) (i:Nat) (u:Value) (e:(#[nm,kv,sz,fv]:Array Value).setIfInBounds i u=#[nm',kv',sz',fv']):RS w (W.setCell ⟨fb,i,none⟩ u) b fb nm' kv' sz' fv':=by
 have h1:=heap_setCell_same W fb i _ _ u h.row;rw [e] at h1;exact⟨h1,below_grown h.bel (grown_put W fb i u) (Nat.le_refl _) (by have:=h.far;omega),h.far⟩
theorem DrIn.file {β:Type}{w W:World}{b fb i:Nat}{nm kv sz fv u:Value}{s:ByteArray}{v v':DrV}{E:RdR β} {C:RdS→RdR β} (h:DrIn W b s v v' E C) (hf:RS w W b fb nm kv sz fv):DrIn (W.setCell ⟨fb,i,none⟩ u) b s v v' E C :=
 h.typed (t:=37) (grown_put W fb i u) (fun g e=>by injection e with e;subst e;exact⟨_,_,hf.row⟩) (by decide) (by decide)
theorem sizesM_next {l:List UInt8} {g:Int}{n:Nat}{acc:List Nat}{s:RdS}(hn:0 < n):sizesM l g n acc s=(numM l 1 g s).bind fun v s'=>sizesM l g (n - 1) (acc++[v.1.toNat]) (limS (decide (32 < v.1)) v.2 s'):=by
 obtain⟨m,rfl⟩:∃ m,n=m+1:=⟨n - 1,by omega⟩
 rfl
structure SzD (w W:World) (b fb:Nat) (nm kv:Value) (s:ByteArray) (g:Int) (N:Nat) (v0:DrV) (E:RdR FileM) (C:List Nat→RdS→RdR FileM) (j:Nat) (acc:List Nat) (szv:Value) (v':DrV):Prop where
 f:RS w W b fb nm kv szv (.slice none 0 0)
 own:Own6 W w.heap.size szv acc
 rd:DrIn W b s v0 v' E (fun st=>(sizesM s.data.toList g (N - j) acc st).bind C)
 len:acc.length=j
 cnt:v'.bad=0→j+lenS v'.l≤100000
 few:j≤100001
 small:∀ x∈acc,x≤4611686018427387904
theorem SzD.next {w W W1 Wa W2:World}{b fb N j y:Nat}{nm kv szv szv':Value}{s:ByteArray}{g:Int}{v0 v' v1:DrV}{E:RdR FileM}{C:List Nat→RdS→RdR FileM}{acc:List Nat}(h:SzD w W b fb nm kv s g N v0 E C j acc szv v') (hg:Gr W W1 b)
  (hi:DrIn W1 b s v0 v1 E (fun st=>(sizesM s.data.toList g (N - (j+1)) (acc++[y]) st).bind C)) (hc:v1.bad=0→j+1+lenS v1.l≤100000) (hj:j≤100000) (hy:y≤4611686018427387904) (na:Below W1.heap.size W1 Wa) (hO:Own6 Wa w.heap.size szv acc) (h1:Own6 W2 w.heap.size szv' (acc++[y])) (h2:Wa.grownBy W2 szv.ownBlock) :
  SzD w (W2.setCell ⟨fb,2,none⟩ szv') b fb nm kv s g N v0 E C (j+1) (acc++[y]) szv' v1:=by
 have fa:=(h.f.gr hg).below na;have hfl:=fa.far;have f2:RS w W2 b fb nm kv szv (.slice none 0 0):=by
  refine⟨(h2.block fb (Array.getElem?_eq_some_iff.1 fa.row).1 (fun e=>by
   obtain⟨_,_,cur,h3⟩:=hO.obj fb e.symm;rw [fa.row] at h3;injection h3 with h3;injection h3 with _ h4;exact absurd h4 (by decide))).trans fa.row,?_,fa.far⟩
  exact⟨h2.os.trans fa.bel.os,h2.tape.trans fa.bel.tape,h2.output.trans fa.bel.output,Nat.le_trans fa.bel.size h2.size,fun k hk=>(h2.block k (Nat.lt_of_lt_of_le hk fa.bel.size) (fun e=>by have:=(hO.lt k e.symm).1;omega)).trans (fa.bel.block k hk)⟩
 have hgF:=grown_put W2 fb 2 szv';refine⟨f2.put 2 szv' rfl,?_,?_,by rw [List.length_append,h.len];rfl,hc,by omega,fun x hx=>?_⟩
 ·exact h1.keepB fun g e h5 h6=>hgF.block g h5 (fun e2=>by
   obtain⟨_,_,cur,h3⟩:=h1.obj g e;injection e2 with e2;subst e2;rw [f2.row] at h3;injection h3 with h3;injection h3 with _ h4;exact absurd h4 (by decide))
 ·exact ((hi.below na).own6 hO h2).file f2
 rcases List.mem_append.1 hx with hx | hx
 ·exact h.small x hx
 simp at hx
 rw [hx];exact hy
theorem frow {W W':World}{base X:Nat}{v:Value}{l:List Nat}{cs:Array Value}(ho:Own6 W base v l) (hX:W.heap[X]? = some (.cells cs 37 (0,0))) (hg:W.grownBy W' v.ownBlock):W'.heap[X]? = some (.cells cs 37 (0,0)) :=
 (hg.block X (Array.getElem?_eq_some_iff.1 hX).1 (fun e=>by
  obtain⟨_,_,cur,h3⟩:=ho.obj X e.symm;rw [hX] at h3;injection h3 with h3;injection h3 with _ h4;exact absurd h4 (by decide))).trans hX
def ReadRes7 (s:ByteArray) (w:World) (r:RdR FileM) (e:Ending) (w':World):Prop :=
 match r with
 | .bad n p=>e = .returned (.tuple #[.pointer none,.int .i64 (p:Int),.int .i64 (n:Int)])
 | .ok F st=>match st.big with
  | some p=>e = .returned (.tuple #[.pointer none,.int .i64 (p:Int),.int .i64 5])
  | none=>∃ fb,e = .returned (.tuple #[.pointer (some ⟨fb,0,none⟩),.int .i64 (s.size:Int),.int .i64 0])∧FileD w' fb w.heap.size s F∧w.heap.size≤fb
def ReadPost7 (s:ByteArray) (w:World) (e:Ending) (w':World):Prop:=ReadRes7 s w (fileM s.data.toList 1) e w'∧Below w.heap.size w w'
def RW {α:Type}(l:List UInt8) (k:Nat):RdR α→Prop
 | .bad e t=>e=11→(wordsL l k).2=some t
 | .ok _ s'=>s'.k≤l.length∧(wordsL l s'.k).2=(wordsL l k).2
theorem RW.bind {α β:Type}{l:List UInt8} {k:Nat}{x:RdR α} {f:α→RdS→RdR β} (h:RW l k x) (hf:∀ a s',s'.k≤l.length→RW l s'.k (f a s')):RW l k (x.bind f):=by
 cases x with
 | bad e t=>exact h
 | ok a s' =>
  have h2:=hf a s' h.1;show RW l k (f a s');cases hx:f a s' with
  | bad e t=>rw [hx] at h2;intro he;exact h.2 ▸ h2 he
  | ok b s''=>rw [hx] at h2;exact⟨h2.1,h2.2.trans h.2⟩
theorem wordM_rw {l:List UInt8} {s:RdS}(hk:s.k≤l.length):RW l s.k (wordM l s):=by
 unfold wordM;rcases wordsL_cases hk with ⟨h1,⟨h2,h3⟩ | ⟨t,h2,h3⟩⟩ | ⟨f,t,h1,h2,h3⟩
 ·rw [h2];intro h;cases h
 ·rw [h2];exact fun _=>h3
 rw [h1];exact⟨(stepW_word hk h1).2.2.1,h3.symm⟩
theorem RW.bad4 {α:Type}{l:List UInt8} {k p:Nat}:RW l k (.bad 4 p:RdR α):=fun h=>by cases h
theorem RW.ok {α:Type}{l:List UInt8} {s:RdS}(hk:s.k≤l.length) (a:α):RW l s.k (.ok a s:RdR α):=⟨hk,rfl⟩
theorem numM_rw {l:List UInt8} {lo hi:Int}{s:RdS}(hk:s.k≤l.length):RW l s.k (numM l lo hi s) :=
 (wordM_rw hk).bind fun w s' h=>by
  split
  ·exact RW.ok h _
  exact RW.bad4
theorem scopeM_rw {l:List UInt8} {nv:Nat}:∀ {n:Nat}{acc:List Nat}{s:RdS},s.k≤l.length→RW l s.k (scopeM l nv n acc s)
 | 0,acc,s,h=>RW.ok h _
 | n+1,acc,s,h=>(numM_rw h).bind fun v s' h'=>by
  split
  ·exact RW.bad4
  exact scopeM_rw h'
theorem tupleM_rw {l:List UInt8} {sizes:List Nat}:∀ {sc acc:List Nat}{s:RdS},s.k≤l.length→RW l s.k (tupleM l sizes sc acc s)
 | [],acc,s,h=>RW.ok h _
 | v::r,acc,s,h=>(numM_rw h).bind fun c s' h'=>tupleM_rw h'
theorem linesM_rw {l:List UInt8} {sizes sc:List Nat}:∀ {n:Nat}{acc:List LineM}{s:RdS},s.k≤l.length→RW l s.k (linesM l sizes sc n acc s)
 | 0,acc,s,h=>RW.ok h _
 | n+1,acc,s,h=>(tupleM_rw h).bind fun x s' h'=>(numM_rw h').bind fun c s'' h''=>by
  split
  ·exact RW.bad4
  exact linesM_rw h''
theorem RW.lim {α:Type}{l:List UInt8} {s:RdS}{b:Bool}{p:Nat}{r:RdR α} (h:RW l (limS b p s).k r):RW l s.k r:=by rw [limS_k] at h;exact h
theorem lim_le {l:List UInt8} {s:RdS}{b:Bool}{p:Nat}(h:s.k≤l.length):(limS b p s).k≤l.length:=by rw [limS_k];exact h
theorem funLines_rw {l:List UInt8} {sizes sc:List Nat}{a:AccM}{s:RdS}(h:s.k≤l.length):RW l s.k (funLines l sizes sc a s) :=
 (numM_rw h).bind fun m s' h'=>by
  split
  ·split
   ·split
    ·exact RW.ok h' _
    exact RW.bad4
   exact RW.bad4
  exact RW.lim ((linesM_rw (lim_le h')).bind fun ls s'' h''=>RW.ok h'' _)
theorem funM_rw {l:List UInt8} {sizes:List Nat}{a:AccM}{s:RdS}(h:s.k≤l.length):RW l s.k (funM l sizes a s) :=
 (numM_rw h).bind fun ar s1 h1=>(scopeM_rw h1).bind fun sc s2 h2=>RW.lim ((numM_rw (lim_le h2)).bind fun o s3 h3=>(funLines_rw h3).bind fun ls s4 h4=>RW.ok h4 _)
theorem funsM_rw {l:List UInt8} {sizes:List Nat}:∀ {n:Nat}{a:AccM}{s:RdS},s.k≤l.length→RW l s.k (funsM l sizes n a s)
 | 0,a,s,h=>RW.ok h _
 | n+1,a,s,h=>(funM_rw h).bind fun a' s' h'=>funsM_rw h'
theorem sizesM_rw {l:List UInt8} {most:Int}:∀ {n:Nat}{acc:List Nat}{s:RdS},s.k≤l.length→RW l s.k (sizesM l most n acc s)
 | 0,acc,s,h=>RW.ok h _
 | n+1,acc,s,h=>(numM_rw h).bind fun v s' h'=>RW.lim (sizesM_rw (lim_le h'))
theorem fileM_rw {l:List UInt8} {lo:Int}:RW l 0 (fileM l lo) :=
 (wordM_rw (s:=⟨0,none⟩) (Nat.zero_le _)).bind fun w s1 h1=>RW.lim ((numM_rw (lim_le h1)).bind fun n s2 h2=>RW.lim ((numM_rw (lim_le h2)).bind fun g s3 h3=>(numM_rw h3).bind fun c s4 h4 =>
  RW.lim ((numM_rw (lim_le h4)).bind fun k s5 h5=>RW.lim ((sizesM_rw (lim_le h5)).bind fun sz s6 h6=>(funsM_rw h6).bind fun a s7 h7=>by
   rcases wordsL_cases h7 with ⟨h1,⟨h2,h3⟩ | ⟨t,h2,h3⟩⟩ | ⟨f,t,h1,h2,h3⟩
   ·rw [h2];exact RW.ok h7 _
   ·rw [h2];exact fun _=>h3
   ·rw [h1];exact RW.bad4))))
structure SzE (w W:World) (b fb:Nat) (nm kv:Value) (s:ByteArray) (v0:DrV) (E:RdR FileM) (C:List Nat→RdS→RdR FileM) (acc:List Nat) (Az:Option Addr) (cz:Nat) (v':DrV):Prop where
 f:RS w W b fb nm kv (.slice Az acc.length cz) (.slice none 0 0)
 own:Own6 W w.heap.size (.slice Az acc.length cz) acc
 rd:DrIn W b s v0 v' E (C acc)
 few:v'.bad=0→acc.length≤100000
 small:∀ x∈acc,x≤4611686018427387904
theorem FrD.keepD {W W':World}{b base:Nat}{v:DrV}{sh:Value}{us:List (Value × Value × Int × Value)} (h:FrD W b sh.ownBlock W') (ha:DrAt W b v) (ho:OwnFd W base sh us):KeepD W W':=by
 have key:∀ (t:TypeId) (g:Nat) (cur:Array Value) (fr:Nat × Nat),t≠171→t≠40→W.heap[g]? = some (.cells cur t fr)→W'.heap[g]? = W.heap[g]?:=fun t g cur fr h1 h2 hc =>
  h.block g (Array.getElem?_eq_some_iff.1 hc).1 (fun e=>by
   subst e;have ha':W.heap[g]? = some (.cells (drC v) 171 (0,0)):=ha;rw [hc] at ha';injection ha' with ha';injection ha' with _ e;exact h1 e) (fun e=>by
   obtain⟨_,_,cur',hc'⟩:=ho.obj g e;rw [hc] at hc';injection hc' with hc';injection hc' with _ e;exact h2 e)
 exact⟨fun g cur fr h=>key _ g cur fr (by decide) (by decide) h,fun g cur fr h=>key _ g cur fr (by decide) (by decide) h,fun g cur fr h=>key _ g cur fr (by decide) (by decide) h⟩
def FsK (W:World) (b fb:Nat) (s:ByteArray) (sizes:List Nat) (fv:Value) (us:List (Value × Value × Int × Value)) (v':DrV) (E:RdR FileM) (C:AccM→RdS→RdR FileM):Prop :=
 (∃ a st us',DrOk W b s st v'∧AccOk sizes a st∧v'.lines=a.told∧OwnFd W (fb+1) v'.shared us'∧FdIs W sizes us' a.shared∧FdIs W sizes us a.funs∧(v'.shared.ownBlock=none∨v'.shared.ownBlock≠fv.ownBlock)∧E=C a st)∨(∃ e p,DrBad W b e p v'∧E = .bad e p)
theorem FsK.conv {W:World}{b fb:Nat}{s:ByteArray}{sizes:List Nat}{fv:Value}{us:List (Value × Value × Int × Value)} {v':DrV}{E:RdR FileM}{C C':AccM→RdS→RdR FileM}(h:FsK W b fb s sizes fv us v' E C) (hC:v'.bad=0→∀ a st,C a st=C' a st):FsK W b fb s sizes fv us v' E C':=by
 rcases h with ⟨a,st,us',h1,h2,h3,h4,h5,h6,h7,h8⟩ | h
 ·exact .inl ⟨a,st,us',h1,h2,h3,h4,h5,h6,h7,h8.trans (hC h1.fine a st)⟩
 exact .inr h
theorem FsK.at_ {W:World}{b fb:Nat}{s:ByteArray}{sizes:List Nat}{fv:Value}{us:List (Value × Value × Int × Value)} {v':DrV}{E:RdR FileM}{C:AccM→RdS→RdR FileM}(h:FsK W b fb s sizes fv us v' E C):DrAt W b v':=by
 rcases h with ⟨a,st,us',h1,_⟩ | ⟨e,p,h,_⟩
 ·exact h1.at_
 exact h.at_
structure FsD (w W:World) (b fb:Nat) (nm kv:Value) (Az:Option Addr) (cz:Nat) (s:ByteArray) (sizes:List Nat) (E:RdR FileM) (C:AccM→RdS→RdR FileM) (j:Nat) (us:List (Value × Value × Int × Value)) (fv:Value) (v':DrV):Prop where
 f:RS w W b fb nm kv (.slice Az sizes.length cz) fv
 szs:I6 W Az sizes
 own:OwnFd W w.heap.size fv us
 k:FsK W b fb s sizes fv us v' E C
 len:us.length=j
 few:j≤100001
 nv:v'.bad=0→sizes.length≤100000
theorem FsD.below {w W W':World}{b fb:Nat}{nm kv:Value}{Az:Option Addr}{cz:Nat}{s:ByteArray}{sizes:List Nat}{E:RdR FileM}{C:AccM→RdS→RdR FileM}{j:Nat}{us:List (Value × Value × Int × Value)} {fv:Value}{v':DrV}(h:FsD w W b fb nm kv Az cz s sizes E C j us fv v') (hb:Below W.heap.size W W'):FsD w W' b fb nm kv Az cz s sizes E C j us fv v':=by
 have K:=KeepD.below hb;refine⟨h.f.below hb,h.szs.keep K,h.own.keepB (fun g _ h5 _=>hb.block g h5),?_,h.len,h.few,h.nv⟩;have ha:DrAt W' b v':=(hb.block b h.k.at_.lt).trans h.k.at_;rcases h.k with ⟨a,st,us',h1,h2,h3,h4,h5,h6,h7,h8⟩ | ⟨e,p,h1,h2⟩
 ·exact .inl ⟨a,st,us',h1.keepAt ha K,h2,h3,h4.keepB (fun g _ h5 _=>hb.block g h5),h5.keep K,h6.keep K,h7,h8⟩
 exact .inr ⟨e,p,h1.keepAt ha rfl rfl,h2⟩
def FunRes (s:ByteArray) (b base:Nat) (sizes:List Nat) (v:DrV) (a:AccM) (E:RdR AccM) (w:World) (A1:Option Addr) (n1 c1:Nat) (A2:Option Addr) (n2 c2:Nat) (o:Int) (A3:Option Addr) (n3 c3:Nat) (v'':DrV) (w':World):Prop :=
 FrD w b v.shared.ownBlock w'∧(v''.shared.ownBlock=v.shared.ownBlock∨∃ k,v''.shared.ownBlock=some k∧w.heap.size≤k) ∧
  ((∃ f a' st' us',E = .ok a' st'∧a'.funs=a.funs++[f]∧f.other=o∧FnV w' sizes (.slice A1 n1 c1) (.slice A2 n2 c2) (.slice A3 n3 c3) f∧DrOk w' b s st' v''∧v''.lines=a'.told∧OwnFd w' base v''.shared us'∧FdIs w' sizes us' a'.shared)∨∃ e' p,DrBad w' b e' p v''∧E = .bad e' p)
theorem FunRes.at_ {s:ByteArray}{b base:Nat}{sizes:List Nat}{v:DrV}{a:AccM}{E:RdR AccM}{w:World}{A1:Option Addr}{n1 c1:Nat}{A2:Option Addr}{n2 c2:Nat}{o:Int}{A3:Option Addr}{n3 c3:Nat}{v'':DrV}{w':World}(h:FunRes s b base sizes v a E w A1 n1 c1 A2 n2 c2 o A3 n3 c3 v'' w'):DrAt w' b v'':=by
 rcases h.2.2 with ⟨_,_,_,_,_,_,_,_,h,_⟩ | ⟨_,_,h,_⟩
 ·exact h.at_
 exact h.at_
theorem Own_fd_file {W:World}{base fb:Nat}{v:Value}{us:List (Value × Value × Int × Value)} {cs:Array Value}(h:OwnFd W base v us) (hr:W.heap[fb]? = some (.cells cs 37 (0,0))):v.ownBlock≠some fb:=fun e=>by
 obtain⟨_,_,cur,h3⟩:=h.obj fb e;rw [hr] at h3;injection h3 with h3;injection h3 with _ h4;exact absurd h4 (by decide)
theorem Own_fd_dr {W:World}{base b:Nat}{v:Value}{us:List (Value × Value × Int × Value)} {d:DrV}(h:OwnFd W base v us) (hr:DrAt W b d):v.ownBlock≠some b:=fun e=>by
 obtain⟨_,_,cur,h3⟩:=h.obj b e;have hr':W.heap[b]? = some (.cells (drC d) 171 (0,0)):=hr;rw [hr'] at h3;injection h3 with h3;injection h3 with _ h4;exact absurd h4 (by decide)
theorem own_frd {W W':World}{base b:Nat}{v:DrV}{fv:Value}{us:List (Value × Value × Int × Value)} (ho:OwnFd W base fv us) (hf:FrD W b v.shared.ownBlock W') (ha:DrAt W b v) (hap:v.shared.ownBlock=none∨v.shared.ownBlock≠fv.ownBlock):OwnFd W' base fv us :=
 ho.keepB fun g e h5 _=>hf.block g h5 (fun e2=>Own_fd_dr ho ha (by rw [e,e2])) (fun e2=>by
  rcases hap with h | h
  ·rw [h] at e2;cases e2
  ·exact h (e2.trans e.symm))
theorem row_frd {w W W':World}{b fb:Nat}{nm kv sz fv:Value}{v:DrV}{us':List (Value × Value × Int × Value)} (h:RS w W b fb nm kv sz fv) (ho:OwnFd W (fb+1) v.shared us') (hf:FrD W b v.shared.ownBlock W'):W'.heap[fb]? = some (.cells #[nm,kv,sz,fv] 37 (0,0)) :=
 (hf.block fb (Array.getElem?_eq_some_iff.1 h.row).1 (by have:=h.far;omega) (fun e=>by have:=(ho.obj fb e).1;omega)).trans h.row
theorem FsD.next {w W w12 w13 w14:World}{b fb:Nat}{nm kv:Value}{Az:Option Addr}{cz N:Nat}{s:ByteArray}{sizes:List Nat}{E:RdR FileM}{G:AccM→RdS→RdR FileM}{j:Nat}{us:List (Value × Value × Int × Value)} {fv v14:Value}{v' v'':DrV}
  {A1:Option Addr}{n1 c1:Nat}{A2:Option Addr}{n2 c2:Nat}{o:Int}{A3:Option Addr}{n3 c3:Nat}{a:AccM}{st:RdS}{us':List (Value × Value × Int × Value)}
  (h:FsD w W b fb nm kv Az cz s sizes E (fun a st=>(funsM s.data.toList sizes (N - j) a st).bind G) j us fv v') (hj:j < N)
  (hd:DrOk W b s st v') (hacc:AccOk sizes a st) (hsh:OwnFd W (fb+1) v'.shared us') (hfs:FdIs W sizes us a.funs) (hap:v'.shared.ownBlock=none∨v'.shared.ownBlock≠fv.ownBlock) (hE:E=(funsM s.data.toList sizes (N - j) a st).bind G)
  (hr:FunRes s b (fb+1) sizes v' a (funM s.data.toList sizes a st) W A1 n1 c1 A2 n2 c2 o A3 n3 c3 v'' w12) (na:Below w12.heap.size w12 w13) (OW:OwnFd w13 w.heap.size fv us) (OX:OwnFd w14 w.heap.size v14 (us++[(.slice A1 n1 c1,.slice A2 n2 c2,o,.slice A3 n3 c3)])) (GX:w13.grownBy w14 fv.ownBlock) (AT:v14.ownBlock=fv.ownBlock∨v14.ownBlock=some w13.heap.size) :
  FsD w (w14.setCell ⟨fb,3,none⟩ v14) b fb nm kv Az cz s sizes E (fun a st=>(funsM s.data.toList sizes (N - (j+1)) a st).bind G) (j+1) (us++[(.slice A1 n1 c1,.slice A2 n2 c2,o,.slice A3 n3 c3)]) v14 v'':=by
 have hfar:=h.f.far;have hFr:=hr.1;have hob:∀ g,v'.shared.ownBlock=some g→fb+1≤g∧g < W.heap.size:=fun g e=>⟨(hsh.obj g e).1,(hsh.obj g e).2.1⟩
 have hof:∀ g,fv.ownBlock=some g→w.heap.size≤g∧g < W.heap.size:=fun g e=>⟨(h.own.obj g e).1,(h.own.obj g e).2.1⟩
 have hfbW:fb < W.heap.size:=(Array.getElem?_eq_some_iff.1 h.f.row).1;have z12:=hFr.size;have z13:=na.size;have z14:=GX.size;have gZ:=grown_put w14 fb 3 v14;have zZ:=gZ.size;have r12:w12.heap[fb]? = W.heap[fb]?:=hFr.block fb hfbW (by omega) (fun e=>by have:=hob fb e;omega);have r13:w13.heap[fb]? = w12.heap[fb]?:=na.block fb (by omega);have row13:=r13.trans (r12.trans h.f.row);have nfb:fv.ownBlock≠some fb:=Own_fd_file OW row13;have r14:w14.heap[fb]? = w13.heap[fb]?:=GX.block fb (by omega) (fun e=>nfb e.symm);have row14:=r14.trans row13;have bel12:Below w.heap.size w w12:=⟨hFr.os.trans h.f.bel.os,hFr.tape.trans h.f.bel.tape,hFr.output.trans h.f.bel.output,Nat.le_trans h.f.bel.size z12,fun k hk=>(hFr.block k (Nat.lt_of_lt_of_le hk h.f.bel.size) (by omega) (fun e=>by have:=hob k e;omega)).trans (h.f.bel.block k hk)⟩
 have bel13:Below w.heap.size w w13:=then_ bel12 na;have bel14:Below w.heap.size w w14:=⟨GX.os.trans bel13.os,GX.tape.trans bel13.tape,GX.output.trans bel13.output,Nat.le_trans bel13.size z14,fun k hk=>(GX.block k (Nat.lt_of_lt_of_le hk bel13.size) (fun e=>by have:=hof k e.symm;omega)).trans (bel13.block k hk)⟩
 have F14:RS w w14 b fb nm kv (.slice Az sizes.length cz) fv:=⟨row14,bel14,hfar⟩
 have K1:KeepD W w12:=hFr.keepD hd.at_ hsh;have K2:KeepD w12 w13:=KeepD.below na;have K3:KeepD w13 w14:=keep_fd OW GX;have K4:KeepD w14 (w14.setCell ⟨fb,3,none⟩ v14):=KeepD.typed gZ (fun g e=>by injection e with e;subst e;exact⟨_,_,row14⟩) (by decide) (by decide) (by decide);have K234:=K2.trans (K3.trans K4);have a12:=hr.at_;have a13:DrAt w13 b v'':=(na.block b a12.lt).trans a12;have a14:DrAt w14 b v'':=(GX.block b a13.lt (fun e=>Own_fd_dr OW a13 e.symm)).trans a13;have aZ:DrAt (w14.setCell ⟨fb,3,none⟩ v14) b v'':=(gZ.block b a14.lt (fun e=>by injection e with e;omega)).trans a14;have oZ:OwnFd (w14.setCell ⟨fb,3,none⟩ v14) w.heap.size v14 (us++[(.slice A1 n1 c1,.slice A2 n2 c2,o,.slice A3 n3 c3)]):=OX.keepB fun g e h5 _=>gZ.block g h5 (fun e2=>Own_fd_file OX row14 (by rw [e,e2]));have hfew:us.length≤100000:=by
  have:=hacc.few;have:=hd.le;have:=hd.fits;have:=hfs.1;omega
 have hnext:(funsM s.data.toList sizes (N - j) a st).bind G=(funM s.data.toList sizes a st).bind fun a' s'=>(funsM s.data.toList sizes (N - (j+1)) a' s').bind G:=by
  rw [show N - j=(N - (j+1))+1 by omega];exact RdR.bind_assoc _ _ _
 refine⟨F14.put 3 v14 rfl,h.szs.keep (K1.trans K234),oZ,?_,by rw [List.length_append,h.len];rfl,by have:=h.len;omega,fun _=>h.nv hd.fine⟩;rcases hr.2.2 with ⟨f,a',st',us2,e1,e2,e3,e4,e5,e6,e7,e8⟩ | ⟨e',p,e1,e2⟩
 rotate_left
 ·refine .inr ⟨e',p,e1.keepAt aZ rfl rfl,?_⟩
  rw [hE,hnext,e2];rfl
 refine .inl ⟨a',st',us2,e5.keepAt aZ K234,(funM_ok hacc (by rw [size_list];exact hd.le) e1).1,e6,?_,e8.keep K234,?_,?_,?_⟩
 ·refine e7.keepB fun g e h5 h6=>?_
  have hne:fv.ownBlock≠some g:=fun e9=>by
   rcases hr.2.1 with h1 | ⟨k,h1,h2⟩
   ·rcases hap with h3 | h3
    ·rw [h1,h3] at e;cases e
    exact h3 (by rw [← h1,e,e9])
   rw [h1] at e;injection e with e;have:=hof g e9;omega
  exact (gZ.block g (by omega) (fun e9=>by injection e9 with e9;omega)).trans ((GX.block g (by omega) (fun e9=>hne e9.symm)).trans (na.block g h5))
 ·rw [e2,← e3]
  exact (hfs.keep (K1.trans K234)).snoc (e4.keep K234)
 ·cases hs9:v''.shared.ownBlock with
  | none=>exact .inl rfl
  | some g =>
   right
   have hg12:=(e7.obj g hs9).2.1;intro e9;rcases AT with h1 | h1
   rotate_left
   ·rw [h1] at e9
    injection e9 with e9;omega
   rw [h1] at e9;rcases hr.2.1 with h2 | ⟨k,h2,h3⟩
   ·rcases hap with h4 | h4
    ·rw [h2,h4] at hs9;cases hs9
    exact h4 (by rw [← h2,hs9,e9])
   rw [h2] at hs9;injection hs9 with hs9;have:=hof g e9.symm;omega
 rw [hE,hnext,e1];rfl
end Go.Proofs.YtmokogkndbinlaaGreatDoor
