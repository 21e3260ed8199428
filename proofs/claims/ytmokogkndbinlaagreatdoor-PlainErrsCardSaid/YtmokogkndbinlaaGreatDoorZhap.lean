import Derived.Test.YtmokogkndbinlaaGreatDoorZhao
set_option linter.all false
namespace Go.Proofs.YtmokogkndbinlaaGreatDoor
open Go.Lib (hid)
open Go.RowKit
def putF (o:Int) (ls:List LineM):List Nat→Int:=ls.foldl (fun g y=>updF g y.1 y.2) (fun _=>o)
theorem putF_snoc (o:Int) (ls:List LineM) (x:LineM):putF o (ls++[x])=updF (putF o ls) x.1 x.2:=by simp [putF,List.foldl_append]
def funF (k:Int) (f:FunM):List Nat→Int:=putF (min f.other k) (topL k f.lines)
theorem TpAt.blocks {w w':World}{g b:Nat}{A:Option Addr}{c N:Nat}{l:List Nat}{k o:Int}{f:List Nat→Int}(H:TpAt w g b A c N l k o f) (hs:w.heap.size≤w'.heap.size) (h1:w'.heap[g]? = w.heap[g]?) (h2:w'.heap[b]? = w.heap[b]?) (h3:∀ a:Addr,A=some a→w'.heap[a.block]? = w.heap[a.block]?):TpAt w' g b A c N l k o f:=by
 obtain⟨D,⟨es,clock,m1,m2⟩,hr⟩:=H.map;refine⟨h1.trans H.row,?_,H.cap,D,⟨es,clock,h2.trans m1,m2⟩,hr⟩;rcases H.ints with h | ⟨g',o',e,hg,hc⟩
 ·exact .inl h
 subst e;exact .inr ⟨g',o',rfl,Nat.lt_of_lt_of_le hg hs,fun i hi=>(World.cell?_of_block (a:=⟨g',o'+i,none⟩) (h3 ⟨g',o',none⟩ rfl)).trans (hc i hi)⟩
def FunE (W:World) (k:Int) (sizes:List Nat) (f:FunM) (P:Nat→Prop) (sv tv:Value):Prop :=
 ∃ As cs g mb A c N,sv = .slice As f.scope.length cs∧f.scope.length≤cs∧tv = .pointer (some ⟨g,0,none⟩)∧Ints W As f.scope∧TpAt W g mb A c N (pickN sizes f.scope) k (min f.other k) (funF k f)∧N≤f.lines.length∧P g∧P mb∧(∀ a:Addr,A=some a→P a.block)∧(f.scope≠[]→∀ a:Addr,As=some a→P a.block)
theorem FunE.keep {W W':World}{k:Int}{sizes:List Nat}{f:FunM}{P P':Nat→Prop}{sv tv:Value}(h:FunE W k sizes f P sv tv) (hs:W.heap.size≤W'.heap.size) (hk:∀ j,P j→W'.heap[j]? = W.heap[j]?) (hp:∀ j,P j→P' j):FunE W' k sizes f P' sv tv:=by
 obtain⟨As,cs,g,mb,A,c,N,h1,h0,h2,h3,h4,h5,p1,p2,p3,p4⟩:=h;refine⟨As,cs,g,mb,A,c,N,h1,h0,h2,?_,h4.blocks hs (hk _ p1) (hk _ p2) (fun a e=>hk _ (p3 a e)),h5,hp _ p1,hp _ p2,fun a e=>hp _ (p3 a e),fun h a e=>hp _ (p4 h a e)⟩;rcases h3 with h | ⟨g',o',e,hg,hc⟩
 ·exact .inl h
 by_cases hn:f.scope=[]
 ·exact .inl hn
 subst e;exact .inr ⟨g',o',rfl,Nat.lt_of_lt_of_le hg hs,fun i hi=>(World.cell?_of_block (a:=⟨g',o'+i,none⟩) (hk _ (p4 hn ⟨g',o',none⟩ rfl))).trans (hc i hi)⟩
def fuC (us:List (Value × Value)):List Value:=us.flatMap fun x=>[x.1,x.2]
theorem fuC_snoc (us:List (Value × Value)) (x:Value × Value):fuC (us++[x])=fuC us++[x.1,x.2]:=by simp [fuC,List.flatMap_append]
theorem fuC_at:∀ (us:List (Value × Value)) (i:Nat) (x:Value × Value),us[i]? = some x→(fuC us)[i * 2]? = some x.1∧(fuC us)[i * 2+1]? = some x.2
 | [],i,x,h=>by simp at h
 | y::r,0,x,h=>by
  simp at h
  subst h;exact⟨rfl,rfl⟩
 | y::r,i+1,x,h=>by
  have:=fuC_at r i x (by simpa using h);have e:fuC (y::r)=y.1::y.2::fuC r:=rfl;rw [e,show (i+1) * 2=i * 2+1+1 by omega];exact this
def OwnFu (W:World) (base:Nat) (v:Value) (us:List (Value × Value)):Prop:=W.ownsRow base 62 2 v us.length (fuC us)
theorem ownFu_nil (W:World) (base:Nat):OwnFu W base (.slice none 0 0) []:=World.ownsRow_nil W base 62 2
theorem OwnFu.keepB {w w':World}{base:Nat}{v:Value}{l:List (Value × Value)} (h:OwnFu w base v l) (hk:∀ g,v.ownBlock=some g→g < w.heap.size→base≤g→w'.heap[g]? = w.heap[g]?):OwnFu w' base v l:=by
 obtain⟨h1,⟨rfl,hn⟩ | ⟨g,cap,cur,rfl,hb',hh,hm,hx,hs,ht⟩⟩:=h
 ·exact⟨h1,.inl ⟨rfl,hn⟩⟩
 exact⟨h1,.inr ⟨g,cap,cur,rfl,hb',(hk g rfl (Array.getElem?_eq_some_iff.1 hh).1 hb').trans hh,hm,hx,hs,ht⟩⟩
theorem OwnFu.obj {W:World}{base:Nat}{v:Value}{vs:List (Value × Value)} (h:OwnFu W base v vs):∀ g,v.ownBlock=some g→base≤g∧g < W.heap.size∧∃ cur,W.heap[g]? = some (.cells cur 62 (0,0)):=by
 intro g hg;obtain⟨_,⟨rfl,hn⟩ | ⟨g',cap,cur,rfl,hb,hh,_⟩⟩:=h
 ·simp [Value.ownBlock] at hg
 simp [Value.ownBlock] at hg
 subst hg;exact⟨hb,(Array.getElem?_eq_some_iff.1 hh).1,cur,hh⟩
theorem OwnFu.form {W:World}{base:Nat}{v:Value}{vs:List (Value × Value)} (h:OwnFu W base v vs):∃ A c,v = .slice A vs.length c:=by
 obtain⟨_,⟨rfl,hn⟩ | ⟨g',cap,cur,rfl,hb,hh,_⟩⟩:=h
 ·exact⟨none,0,by rw [hn]⟩
 exact⟨_,_,rfl⟩
theorem info_fu:(Tryz.prog.info? 62).map (fun i=>(i.zero,i.size,i.bytes))=some (some (.agg #[.slice none 0 0,.pointer none]),2,32):=by kernel_rfl
theorem fu_cells {W:World}{sv tv:Value}{g:Nat}(h:W.heap[g]? = some (.cells #[sv,tv] 62 (0,0))):∀ j u,([sv,tv]:List Value)[j]? = some u→W.cell? ((⟨g,0,none⟩:Addr).add j)=some u:=by
 intro j u hj;rcases j with _ | _ | j
 ·simp at hj
  subst hj;show W.cell? ⟨g,0,none⟩=_;rw [cell_of_row _ _ _ _ _ _ h];rfl
 ·simp at hj
  subst hj;show W.cell? ⟨g,1,none⟩=_;rw [cell_of_row _ _ _ _ _ _ h];rfl
 simp at hj
theorem push_fu_step {ops:Array Oper}{o:Oper}{a:Act}{K:Act→World→Prop}{Q:Exit→Act→World→Prop}{E:Prop}(hgd:o.guard=none) (sl x:Operand)
  (ho:o.op = .call { callee:=.builtin .append,args:=#[sl,x],argTypes:=#[52,52] })
  (W:World) (base g:Nat) (v:Value) (vs:List (Value × Value)) (A:Option Addr) (n c:Nat) (p:Option Addr) (hs:a.eval sl=v) (hx:a.eval x = .slice (some ⟨g,0,none⟩) 1 1)
  (hown:OwnFu W base v vs) (hc:W.heap[g]? = some (.cells #[.slice A n c,.pointer p] 62 (0,0))) (hbase:base≤W.heap.size) (hl:vs.length≤1000000)
  (h:∀ v' w',OwnFu w' base v' (vs++[(.slice A n c,.pointer p)])→W.grownBy w' v.ownBlock→(v'.ownBlock=v.ownBlock∨v'.ownBlock=some W.heap.size)→K (a.put o.dst v') w') :
  if Region.wanted o (yielded ops a.tmps)=true then Oper.wp Tryz.prog o a W K Q else E:=by
 have hw:Region.wanted o (yielded ops a.tmps)=true:=by simp [Region.wanted,hgd]
 rw [if_pos hw];obtain⟨i0,hi,hz0,hz1,hz2⟩:=info_parts info_fu;obtain⟨v',w',hr,h2,h3,h4,h5⟩:=run_append_own_at (P:=Tryz.prog) W base 52 o.type 62 i0 (.agg #[.slice none 0 0,.pointer none]) 2 32 Tryz.underlying52 hi hz0 hz1 hz2 rfl (by decide) v vs.length _ hown ⟨g,0,none⟩ 1 1 [.slice A n c,.pointer p] rfl (fu_cells hc) (by intro u hu;simp at hu;rcases hu with rfl | rfl <;> rfl) (by unfold maxLen;omega) (by omega) hbase;unfold Oper.wp execOp;simp only [ho,resolve,invoke,builtin,Sem.run_bind,Sem.run_pure,Result.andThen_ok,List.map_toArray,List.map_cons,List.map_nil,hs,hx,hr];refine h v' w' ?_ h3 h5;unfold OwnFu;rw [List.length_append,fuC_snoc];exact h2
def FusIs (W:World) (k:Int) (sizes:List Nat) (P:Nat→Prop) (us:List (Value × Value)) (fs:List FunM):Prop :=
 us.length=fs.length∧∀ (i:Nat) (f:FunM),fs[i]? = some f→∃ sv tv,us[i]? = some (sv,tv)∧FunE W k sizes f P sv tv
theorem FusIs.keep {W W':World}{k:Int}{sizes:List Nat}{P P':Nat→Prop}{us:List (Value × Value)} {fs:List FunM}(h:FusIs W k sizes P us fs) (hs:W.heap.size≤W'.heap.size) (hk:∀ j,P j→W'.heap[j]? = W.heap[j]?) (hp:∀ j,P j→P' j):FusIs W' k sizes P' us fs :=
 ⟨h.1,fun i f hf=>by obtain⟨sv,tv,h1,h2⟩:=h.2 i f hf;exact⟨sv,tv,h1,h2.keep hs hk hp⟩⟩
theorem FusIs.snoc {W:World}{k:Int}{sizes:List Nat}{P:Nat→Prop}{us:List (Value × Value)} {fs:List FunM}(h:FusIs W k sizes P us fs) {sv tv:Value}{f:FunM}(hx:FunE W k sizes f P sv tv):FusIs W k sizes P (us++[(sv,tv)]) (fs++[f]):=by
 refine⟨by simp [h.1],fun i y hy=>?_⟩;by_cases hi:i < fs.length
 ·rw [List.getElem?_append_left hi] at hy
  obtain⟨sv',tv',h1,h2⟩:=h.2 i y hy;exact⟨sv',tv',by rw [List.getElem?_append_left (by rw [h.1];exact hi)];exact h1,h2⟩
 have hi':i=fs.length:=by have:=(List.getElem?_eq_some_iff.1 hy).1;simp at this;omega
 subst hi';simp at hy
 subst hy;exact⟨sv,tv,by rw [← h.1];simp,hx⟩
structure FileAt (W:World) (fb base:Nat) (X:ByteArray) (k:Int) (sizes:List Nat) (fs:List FunM) (As:Option Addr) (cs:Nat) (fv:Value) (us:List (Value × Value)) (P:Nat→Prop):Prop where
 row:W.heap[fb]? = some (.cells #[.string X,.int .i64 k,.slice As sizes.length cs,fv] 54 (0,0))
 szs:Ints W As sizes
 own:OwnFu W base fv us
 funs:FusIs W k sizes P us fs
end Go.Proofs.YtmokogkndbinlaaGreatDoor
namespace Go.Proofs.YtmokogkndbinlaaGreatDoor
open Go.RowKit
def PF (W:World) (fb:Nat) (fv:Value) (q:Nat):Prop:=q < W.heap.size∧q≠fb∧fv.ownBlock≠some q
def PN (W:World) (base lo q:Nat):Prop:=q < W.heap.size∧(lo≤q∨q < base)
theorem file_next {w wr wd w9 w10:World}{fb j cs:Nat}{X:ByteArray}{k:Int}{sizes:List Nat}{fs:List FunM}{f:FunM}{As:Option Addr}{fv v10 sv tv:Value}{us:List (Value × Value)}
  (h:FileAt wr fb w.heap.size X k sizes (fs.take j) As cs fv us (PF wr fb fv)) (hf:fs[j]? = some f) (hI:Ints w As sizes) (hw:Below w.heap.size w wr) (hfb:w.heap.size≤fb)
  (hd:Below wr.heap.size wr wd) (he:FunE wd k sizes f (PN wd w.heap.size wr.heap.size) sv tv)
  (h9:Below wd.heap.size wd w9) (OX:OwnFu w10 w.heap.size v10 (us++[(sv,tv)])) (GX:w9.grownBy w10 fv.ownBlock) (AT:v10.ownBlock=fv.ownBlock∨v10.ownBlock=some w9.heap.size)
  (R10:w10.heap[fb]? = some (.cells #[.string X,.int .i64 k,.slice As sizes.length cs,fv] 54 (0,0))) :
  FileAt (w10.setCell ⟨fb,3,none⟩ v10) fb w.heap.size X k sizes (fs.take (j+1)) As cs v10 (us++[(sv,tv)]) (PF (w10.setCell ⟨fb,3,none⟩ v10) fb v10)∧Below w.heap.size w (w10.setCell ⟨fb,3,none⟩ v10):=by
 have g:=grown_put w10 fb 3 v10;have z1:=hw.size;have z2:=hd.size;have z3:=h9.size;have z4:=GX.size;have z5:=g.size;have hfr:fb < wr.heap.size:=(Array.getElem?_eq_some_iff.1 h.row).1;have hob:∀ q,fv.ownBlock=some q→w.heap.size≤q∧q < wr.heap.size:=fun q e=>⟨(h.own.obj q e).1,(h.own.obj q e).2.1⟩
 have hall:Below w.heap.size w (w10.setCell ⟨fb,3,none⟩ v10):=by
  have b1:Below w.heap.size w w9:=(hw.trans (hd.mono z1)).trans (h9.mono (by omega));have b2:Below w.heap.size w w10:=b1.grown GX b1.size (fun q e=>(hob q e).1);exact b2.setCell (p:=⟨fb,3,none⟩) hfb v10
 have keep:∀ q,q < wd.heap.size→q≠fb→fv.ownBlock≠some q→(w10.setCell ⟨fb,3,none⟩ v10).heap[q]? = wd.heap[q]?:=fun q h1 h2 h3 =>
  (g.block q (by omega) (fun e=>h2 (Option.some.inj e))).trans ((GX.block q (by omega) (fun e=>h3 e.symm)).trans (h9.block q h1))
 have far:∀ q,q < wd.heap.size→fv.ownBlock≠some q→v10.ownBlock≠some q:=fun q h1 h2 e=>by
  rcases AT with a | a
  ·exact h2 (a.symm.trans e)
  rw [a] at e;injection e with e;omega
 refine⟨⟨?_,hI.below hall (Nat.le_refl _),?_,?_⟩,hall⟩
 ·exact heap_setCell_same w10 fb 3 _ _ v10 R10
 ·refine OX.keepB fun q e h1 h2=>g.block q h1 (fun e'=>?_)
  injection e' with e';subst e';obtain⟨_,_,cur,hc⟩:=OX.obj _ e;rw [R10] at hc;injection hc with hc;injection hc with _ h4;exact absurd h4 (by decide)
 have hlen:(fs.take (j+1))=fs.take j++[f]:=by
  have hj:j < fs.length:=(List.getElem?_eq_some_iff.1 hf).1;rw [List.take_succ_eq_append_getElem hj];congr 2
  exact (List.getElem?_eq_some_iff.1 hf).2
 rw [hlen];refine FusIs.snoc (h.funs.keep (by omega) (fun q hq=>?_) (fun q hq=>?_)) (he.keep (by omega) (fun q hq=>?_) (fun q hq=>?_))
 ·exact (keep q (by have:=hq.1;omega) hq.2.1 hq.2.2).trans (hd.block q hq.1)
 ·exact⟨by have:=hq.1;omega,hq.2.1,far q (by have:=hq.1;omega) hq.2.2⟩
 ·exact keep q hq.1 (by have:=hq.2;omega) (fun e=>by have:=hob q e;have:=hq.2;omega)
 exact⟨by have:=hq.1;omega,by have:=hq.2;omega,far q hq.1 (fun e=>by have:=hob q e;have:=hq.2;omega)⟩
theorem tpnew_fresh (A:Option Addr) (n c:Nat) (l:List Nat) (k o:Int) (w:World) (hn:n=l.length) (h6:l.length≤6) (hr:Ints w A l) (hl:∀ n∈l,1≤n∧n≤32) (hx:InK o k) :
  Calls Tryz.prog 116 #[.slice A n c,.int .i64 k,.int .i64 o] w fun e w'=>(∃ g b A' c',e = .returned (.tuple #[.pointer (some ⟨g,0,none⟩),.int .i64 0])∧TpAt w' g b A' c' 0 l k o (fun _=>o)∧w.heap.size≤g∧w.heap.size≤b∧∀ a:Addr,A'=some a→w.heap.size≤a.block∧a.block < w'.heap.size)∧Below w.heap.size w w':=by
 have i1:¬ ((6:Int) < (n:Int)):=by omega
 have HC:=hid (contains_noU A n c _ w (by omega) (by rw [hn];exact hr.zs) (fun i hi=>by have:=hl _ (nth_mem (l:=l) (i:=i) (by omega));omega));have HK:=hid (clone_any' A n c l w hn (by omega) hr);have HX:=hid hx;have HN:=hid hn;have hmm:=@run_makeMap Tryz.prog;clear hn hr hl hx;go_enter Tryz.func116,Tryz.ntmps116
 go_wp2_with fail
 refine HC.out.mono ?_;rintro e w' ⟨rfl,rfl⟩;go_wp2_with fail
 refine (in_yes _ _ _ HX.out.1 HX.out.2.1 HX.out.2.2.1 HX.out.2.2.2).mono ?_;rintro e w' ⟨rfl,rfl⟩;go_wp2_with fail
 refine HK.out.mono ?_;rintro e w1 ⟨⟨v,rfl,hO⟩,b1⟩;obtain⟨A',c',rfl,hI⟩:=hO.form;have hcap:=own_cap hO;have HF:Hid (∀ a:Addr,A'=some a→w.heap.size≤a.block∧a.block < w1.heap.size):=hid (fun a e=>by
  subst e;exact hO.at_lt a.block rfl)
 rw [← HN.out];have H1:=hid hI;have B1:=hid b1;clear hO hI b1;go_wp2_with fail
 go_ret2;have e:=HN.out;subst e;have r:=heap_alloc_new (w1.alloc (.map #[] 0)) (.cells #[.slice A' l.length c',.int .i64 k,.int .i64 o,.map (some w1.heap.size)] 138);rw [World.size_alloc] at r;have n1:=new_val w1 (.map #[] 0);have n2:=new_val (w1.alloc (.map #[] 0)) (.cells #[.slice A' l.length c',.int .i64 k,.int .i64 o,.map (some w1.heap.size)] 138);have hs:=B1.out.size;exact⟨⟨w1.heap.size+1,w1.heap.size,A',c',rfl,⟨r,(H1.out.below n1 (Nat.le_refl _)).below n2 (Nat.le_refl _),hcap,.map [],(World.ownsMap_made w1 _ _ _).kept (grown_of_below n2) (by simp),repF_empty l o⟩,by omega,hs,fun a e=>⟨(HF.out a e).1,by have:=(HF.out a e).2;simp;omega⟩⟩,then_ (then_ B1.out n1) n2⟩
end Go.Proofs.YtmokogkndbinlaaGreatDoor
