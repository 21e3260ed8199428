import Derived.Test.YtmokogkndbinlaaGreatDoorZhal
set_option linter.all false
namespace Go.Proofs.YtmokogkndbinlaaGreatDoor
open Go.Lib (hid)
open Go.RowKit
def gF7 (l:List UInt8) (w:Nat × Nat) (k:Int × Nat) (sz:List Nat) (a:AccM) (s7:RdS):RdR FileM :=
 match stepW l s7.k with
 | .word f _=>.bad 4 f
 | .bad b=>.bad 11 b
 | .none=>.ok ⟨w,k.1,sz,a.funs⟩ s7
def gF6 (l:List UInt8) (w:Nat × Nat) (c k:Int × Nat) (sz:List Nat) (s6:RdS):RdR FileM:=(funsM l sz c.1.toNat ⟨[],[],0⟩ s6).bind (gF7 l w k sz)
def gF5 (l:List UInt8) (w:Nat × Nat) (n g c k:Int × Nat) (s5:RdS):RdR FileM:=(sizesM l g.1 n.1.toNat [] (limS (decide (2147483648 < k.1)) k.2 s5)).bind (gF6 l w c k)
def gF4 (l:List UInt8) (w:Nat × Nat) (n g c:Int × Nat) (s4:RdS):RdR FileM:=(numM l 1 farZ (limS (decide (256 < c.1)) c.2 s4)).bind (gF5 l w n g c)
def gF3 (l:List UInt8) (w:Nat × Nat) (n g:Int × Nat) (s3:RdS):RdR FileM:=(numM l 0 farZ s3).bind (gF4 l w n g)
def gF2 (l:List UInt8) (lo:Int) (w:Nat × Nat) (n:Int × Nat) (s2:RdS):RdR FileM:=(numM l lo farZ (limS (decide (64 < n.1)) n.2 s2)).bind (gF3 l w n)
def gF1 (l:List UInt8) (lo:Int) (w:Nat × Nat) (s1:RdS):RdR FileM:=(numM l 1 farZ (limS (decide (64 < w.2 - w.1)) w.1 s1)).bind (gF2 l lo w)
theorem fileM_cps (l:List UInt8) (lo:Int):fileM l lo=(wordM l ⟨0,none⟩).bind (gF1 l lo):=rfl
theorem RdIn.setName {β:Type}{W:World}{b sc:Nat}{s:ByteArray}{v v':RdV}{E:RdR β} {C:RdS→RdR β} (h:RdIn W b sc s v v' E C) (x:Value) :
  RdIn (W.setCell ⟨b,5,none⟩ x) b sc s { v with name:=x } { v' with name:=x } E C:=by
 have hg:=grown_put W b 5 x;have ha:RdAt (W.setCell ⟨b,5,none⟩ x) b { v' with name:=x }:=heap_setCell_same W b 5 _ _ x h.at_;refine⟨⟨⟨h.1.same.sc,rfl,h.1.same.top,h.1.same.sizes,h.1.same.funs,h.1.same.shared⟩,h.1.told⟩,?_⟩;rcases h.2 with ⟨st,ho,hE⟩ | ⟨e,p,hb,hE⟩
 ·exact .inl ⟨st,ho.upd ha hg rfl rfl rfl rfl,hE⟩
 exact .inr ⟨e,p,⟨ha,hb.fe,hb.fp,hb.ne,hb.glob.rk (RK.grown1 (q:=b) hg) hb.gb hb.gb,hb.gb⟩,hE⟩
theorem RdIn.setTop {β:Type}{W:World}{b sc:Nat}{s:ByteArray}{v v':RdV}{E:RdR β} {C:RdS→RdR β} (h:RdIn W b sc s v v' E C) (x:Int) :
  RdIn (W.setCell ⟨b,6,none⟩ (.int .i64 x)) b sc s { v with top:=x } { v' with top:=x } E C:=by
 have hg:=grown_put W b 6 (.int .i64 x);have ha:RdAt (W.setCell ⟨b,6,none⟩ (.int .i64 x)) b { v' with top:=x }:=heap_setCell_same W b 6 _ _ (.int .i64 x) h.at_;refine⟨⟨⟨h.1.same.sc,h.1.same.name,rfl,h.1.same.sizes,h.1.same.funs,h.1.same.shared⟩,h.1.told⟩,?_⟩;rcases h.2 with ⟨st,ho,hE⟩ | ⟨e,p,hb,hE⟩
 ·exact .inl ⟨st,ho.upd ha hg rfl rfl rfl rfl,hE⟩
 exact .inr ⟨e,p,⟨ha,hb.fe,hb.fp,hb.ne,hb.glob.rk (RK.grown1 (q:=b) hg) hb.gb hb.gb,hb.gb⟩,hE⟩
theorem RdOk.setSizes {W:World}{b sc:Nat}{s:ByteArray}{st:RdS}{v:RdV}(h:RdOk W b sc s st v) (x:Value):RdOk (W.setCell ⟨b,7,none⟩ x) b sc s st { v with sizes:=x } :=
 h.upd (v':={ v with sizes:=x }) (heap_setCell_same W b 7 _ _ x h.at_) (grown_put W b 7 x) rfl rfl rfl rfl
theorem RdBad.setSizes {W:World}{b e p:Nat}{v:RdV}(h:RdBad W b e p v) (x:Value):RdBad (W.setCell ⟨b,7,none⟩ x) b e p { v with sizes:=x } :=
 ⟨heap_setCell_same W b 7 _ _ x h.at_,h.fe,h.fp,h.ne,h.glob.rk (RK.grown1 (q:=b) (grown_put W b 7 x)) h.gb h.gb,h.gb⟩
theorem RdOk.setFuns {W:World}{b sc:Nat}{s:ByteArray}{st:RdS}{v:RdV}(h:RdOk W b sc s st v) (x:Value):RdOk (W.setCell ⟨b,8,none⟩ x) b sc s st { v with funs:=x } :=
 h.upd (v':={ v with funs:=x }) (heap_setCell_same W b 8 _ _ x h.at_) (grown_put W b 8 x) rfl rfl rfl rfl
theorem RdBad.setFuns {W:World}{b e p:Nat}{v:RdV}(h:RdBad W b e p v) (x:Value):RdBad (W.setCell ⟨b,8,none⟩ x) b e p { v with funs:=x } :=
 ⟨heap_setCell_same W b 8 _ _ x h.at_,h.fe,h.fp,h.ne,h.glob.rk (RK.grown1 (q:=b) (grown_put W b 8 x)) h.gb h.gb,h.gb⟩
def NumC (s:ByteArray) (b sc:Nat) (lo hi:Int) (st:RdS) (v v':RdV) (n:Int) (p:Nat) (W:World):Prop :=
 (∃ st',numM s.data.toList lo hi st = .ok (n,p) st'∧RdOk W b sc s st' v')∨∃ e q,numM s.data.toList lo hi st = .bad e q∧RdBad W b e q v'∧n=0
theorem numC (b sc:Nat) (s:ByteArray) (st:RdS) (v:RdV) (lo hi:Int) (W:World) (ho:RdOk W b sc s st v) :
  Calls Tryz.prog 134 #[.pointer (some ⟨b,0,none⟩),.int .i64 lo,.int .i64 hi] W fun e w'=>∃ n p v',e = .returned (.tuple #[.int .i64 n,.int .i64 ((p:Nat):Int)])∧((lo≤n∧n≤hi)∨n=0)∧RK W b sc w'∧RdNear v v'∧NumC s b sc lo hi st v v' n p w':=by
 cases hq:numM s.data.toList lo hi st with
 | ok np st' =>
  obtain⟨n,p⟩:=np;obtain⟨_,_,_,_,_,h5,h6⟩:=numM_ok.1 hq;refine (numR_ok b sc s st st' v lo hi n p W ho hq).mono ?_;rintro e w' ⟨rfl,hk,ho'⟩;exact⟨n,p,v,rfl,.inl ⟨h5,h6⟩,hk,RdNear.refl v,.inl ⟨st',hq,ho'⟩⟩
 | bad e p =>
  refine (numR_bad b sc s st v lo hi e p W ho hq).mono ?_;rintro e' w' ⟨rfl,hk,hb⟩;exact⟨0,p,_,rfl,.inr rfl,hk,RdNear.fault _ _ _,.inr ⟨e,p,hq,hb,rfl⟩⟩
def LimC (s:ByteArray) (b sc:Nat) (lo hi m:Int) (st:RdS) (n:Int) (p:Nat) (v':RdV) (W:World):Prop :=
 (∃ st',numM s.data.toList lo hi st = .ok (n,p) st'∧RdOk W b sc s (limS (decide (m < n)) p st') v')∨∃ e q,numM s.data.toList lo hi st = .bad e q∧RdBad W b e q v'∧n=0
theorem NumC.at_ {s:ByteArray}{b sc:Nat}{lo hi:Int}{st:RdS}{v v':RdV}{n:Int}{p:Nat}{W:World}(h:NumC s b sc lo hi st v v' n p W):RdAt W b v':=by
 rcases h with ⟨st',_,h⟩ | ⟨e,q,_,h,_⟩
 ·exact h.at_
 exact h.at_
theorem LimC.at_ {s:ByteArray}{b sc:Nat}{lo hi m:Int}{st:RdS}{v':RdV}{n:Int}{p:Nat}{W:World}(h:LimC s b sc lo hi m st n p v' W):RdAt W b v':=by
 rcases h with ⟨st',_,h⟩ | ⟨e,q,_,h,_⟩
 ·exact h.at_
 exact h.at_
theorem limC {b sc:Nat}{s:ByteArray}{st:RdS}{v v':RdV}{lo hi:Int}{n m:Int}{p:Nat}{W:World}(h:NumC s b sc lo hi st v v' n p W) (hn:RdNear v v') :
  Calls Tryz.prog 133 #[.pointer (some ⟨b,0,none⟩),.int .i64 n,.int .i64 m,.int .i64 (p:Int)] W fun e w'=>∃ v'',(∃ u,e = .returned u)∧W.grownBy w' (some b)∧RdNear v v''∧LimC s b sc lo hi m st n p v'' w':=by
 refine (limit_any b n m p v' W h.at_).mono ?_;rintro e w' ⟨hu,ha,hg⟩;refine⟨limV (decide (m < n)) (p:Int) v',hu,hg,hn.trans (RdNear.lim _ _ _),?_⟩;rcases h with ⟨st',h1,h2⟩ | ⟨e',q,h1,h2,h3⟩
 ·exact .inl ⟨st',h1,h2.lim ha hg⟩
 exact .inr ⟨e',q,h1,h2.lim ha hg,h3⟩
def SzGo (s:ByteArray) (b sc:Nat) (most:Int) (N j:Nat) (acc:List Nat) (v':RdV) (E:RdR FileM) (C:List Nat→RdS→RdR FileM) (W:World):Prop :=
 (∃ st,RdOk W b sc s st v'∧acc.length≤st.k∧E=(sizesM s.data.toList most (N - j) acc st).bind C)∨∃ e p,RdBad W b e p v'∧E = .bad e p
theorem numIn2 {β:Type}{W:World}{b sc:Nat}{s:ByteArray}{v v':RdV}{E:RdR β} {lo hi:Int}{C:Int × Nat→RdS→RdR β} (h:RdIn W b sc s v v' E (fun st=>(numM s.data.toList lo hi st).bind C)) :
  Calls Tryz.prog 134 #[.pointer (some ⟨b,0,none⟩),.int .i64 lo,.int .i64 hi] W fun e w'=>∃ n p v'',e = .returned (.tuple #[.int .i64 n,.int .i64 ((p:Nat):Int)])∧((lo≤n∧n≤hi)∨(n=0∧v''.fe≠0))∧(v'.fe≠0→v''.fe≠0)∧RK W b sc w'∧RdIn w' b sc s v v'' E (C (n,p)):=by
 obtain⟨hn,⟨st,ho,hE⟩ | ⟨e,p,hb,hE⟩⟩:=h;rotate_left
 ·refine (numR_still b e p v' lo hi W hb).mono ?_
  rintro e' w' ⟨rfl,hk,hb'⟩;have hfe:v'.fe≠0:=by rw [hb.fe];have:=hb.ne;omega
  exact⟨0,p,v',rfl,.inr ⟨rfl,hfe⟩,(fun h=>h),RK.below hk,hn,.inr ⟨e,p,hb',hE⟩⟩
 dsimp only at hE;cases hq:numM s.data.toList lo hi st with
 | ok np st' =>
  obtain⟨n,p⟩:=np;obtain⟨_,_,_,_,_,h5,h6⟩:=numM_ok.1 hq;refine (numR_ok b sc s st st' v' lo hi n p W ho hq).mono ?_;rintro e w' ⟨rfl,hk,ho'⟩;exact⟨n,p,v',rfl,.inl ⟨h5,h6⟩,(fun h=>h),hk,hn,.inl ⟨st',ho',by rw [hE,hq];rfl⟩⟩
 | bad e p =>
  refine (numR_bad b sc s st v' lo hi e p W ho hq).mono ?_;rintro e' w' ⟨rfl,hk,hb⟩;exact⟨0,p,{ v' with fp:=(p:Int),fe:=(e:Int) },rfl,.inr ⟨rfl,by have:=hb.ne;show (e:Int)≠0;omega⟩,(fun _=>by have:=hb.ne;show (e:Int)≠0;omega),hk,hn.trans (RdNear.fault _ _ _),.inr ⟨e,p,hb,by rw [hE,hq];rfl⟩⟩
theorem limIn2 {β:Type}{W:World}{b sc:Nat}{s:ByteArray}{v v':RdV}{E:RdR β} {n m:Int}{p:Nat}{C:RdS→RdR β} (h:RdIn W b sc s v v' E (fun st=>C (limS (decide (m < n)) p st))) :
  Calls Tryz.prog 133 #[.pointer (some ⟨b,0,none⟩),.int .i64 n,.int .i64 m,.int .i64 (p:Int)] W fun e w'=>∃ v'',(∃ u,e = .returned u)∧W.grownBy w' (some b)∧(v'.fe≠0→v''.fe≠0)∧RdIn w' b sc s v v'' E C:=by
 refine (limit_any b n m p v' W h.at_).mono ?_;rintro e w' ⟨hu,ha,hg⟩;refine⟨limV (decide (m < n)) (p:Int) v',hu,hg,(fun h=>by unfold limV;split <;> exact h),h.1.trans (RdNear.lim _ _ _),?_⟩;rcases h.2 with ⟨st,ho,hE⟩ | ⟨e,q,hb,hE⟩
 ·exact .inl ⟨_,ho.lim ha hg,hE⟩
 exact .inr ⟨e,q,hb.lim ha hg,hE⟩
theorem SzGo.next {s:ByteArray}{b sc B:Nat}{g:Int}{N j y p:Nat}{acc:List Nat}{v' vb:RdV}{E:RdR FileM}{C:List Nat→RdS→RdR FileM}{wr wb wx:World}{st:RdS}
  (hR:RdOk wr b sc s st v') (hal:acc.length≤st.k) (hE:E=(sizesM s.data.toList g (N - j) acc st).bind C) (hlt:j < N) (hl:LimC s b sc 1 g 32 st (y:Int) p vb wb) (h2:Below B wb wx) (hb:b < B) (hs:sc < B) (hg:3 < B) (u:Value) :
  SzGo s b sc g N (j+1) (acc++[y]) { vb with sizes:=u } E C (wx.setCell ⟨b,7,none⟩ u):=by
 obtain⟨m,hm⟩:∃ m,N - j=m+1:=⟨N - j - 1,by omega⟩
 rw [hm] at hE;have hE2:E=((numM s.data.toList 1 g st).bind fun v s'=>sizesM s.data.toList g m (acc++[v.1.toNat]) (limS (decide (32 < v.1)) v.2 s')).bind C:=hE;rcases hl with ⟨st',h1,h3⟩ | ⟨e,q,h1,h3,_⟩
 rotate_left
 ·exact .inr ⟨e,q,(h3.belowB h2 hb hg).setSizes u,by rw [hE2,h1];rfl⟩
 have hk:=(numM_k (by rw [size_list];exact hR.le) h1).1;refine .inl ⟨_,(h3.belowB h2 hb hs hg).setSizes u,?_,?_⟩
 ·rw [limS_k,List.length_append,List.length_singleton]
  omega
 rw [hE2,h1,RdR.bind_ok,show N - (j+1)=m by omega];simp only [Int.toNat_natCast]
theorem keep_rf {W W':World}{b sc base:Nat}{v:Value}{vs:List (Value × Int × Value)} (ho:OwnFn W base v vs) (hr:RF W b sc v.ownBlock W'):KeepT W W' b sc:=by
 have key:∀ (g:Nat) (cur:Array Value) (t:TypeId) (fr:Nat × Nat),W.heap[g]? = some (.cells cur t fr)→t≠202→g≠b→g≠sc→W'.heap[g]? = W.heap[g]?:=fun g cur t fr h ht h1 h2=>by
  refine hr.block g (Array.getElem?_eq_some_iff.1 h).1 h1 h2 (fun e=>?_);obtain⟨_,_,cur',h3⟩:=ho.obj g e;rw [h] at h3;injection h3 with h3;injection h3 with _ h4;exact ht h4
 exact⟨fun g cur fr h h1 h2=>key g cur _ fr h (by decide) h1 h2,fun g cur fr h h1 h2=>key g cur _ fr h (by decide) h1 h2⟩
theorem RK.rf {w W W':World}{b sc:Nat}{ob:Option Nat}(h:RK w b sc W) (hr:RF W b sc ob W') (hob:∀ g,ob=some g→w.heap.size≤g):RK w b sc W' :=
 ⟨hr.os.trans h.os,hr.tape.trans h.tape,hr.output.trans h.output,Nat.le_trans h.size hr.size,fun k h1 h2 h3=>(hr.block k (Nat.lt_of_lt_of_le h1 h.size) h2 h3 (fun e=>by have:=hob k e;omega)).trans (h.block k h1 h2 h3)⟩
theorem RK.own {w W W':World}{b sc:Nat}{ob:Option Nat}(h:RK w b sc W) (hg:W.grownBy W' ob) (hob:∀ g,ob=some g→w.heap.size≤g):RK w b sc W' :=
 ⟨hg.os.trans h.os,hg.tape.trans h.tape,hg.output.trans h.output,Nat.le_trans h.size hg.size,fun k h1 h2 h3=>(hg.block k (Nat.lt_of_lt_of_le h1 h.size) (fun e=>by have:=hob k e.symm;omega)).trans (h.block k h1 h2 h3)⟩
structure FnAt (s:ByteArray) (b sc base:Nat) (sizes:List Nat) (M j:Nat) (vs:List (Value × Int × Value)) (v':RdV) (E:RdR FileM) (C:AccM→RdS→RdR FileM) (W:World) (a:AccM) (st:RdS) (us:List (Value × Int × Value)):Prop where
 ok:RdOk W b sc s st v'
 acc:AccOk sizes a st
 told:v'.told=a.told
 sh:OwnFn W base v'.shared us
 shIs:FnIs W b sc us (a.shared.map (topF v'.top))
 fnIs:FnIs W b sc vs (a.funs.map (topF v'.top))
 far:∀ g,v'.funs.ownBlock=some g→v'.shared.ownBlock≠some g
 E:E=(funsM s.data.toList sizes (M - j) a st).bind C
def FnGo (s:ByteArray) (b sc base:Nat) (sizes:List Nat) (M j:Nat) (vs:List (Value × Int × Value)) (v':RdV) (E:RdR FileM) (C:AccM→RdS→RdR FileM) (W:World):Prop :=
 (∃ a st us,FnAt s b sc base sizes M j vs v' E C W a st us)∨∃ e p,RdBad W b e p v'∧E = .bad e p
theorem FnAt.next {s:ByteArray}{b sc base:Nat}{sizes:List Nat}{M j m:Nat}{vs:List (Value × Int × Value)} {v v12:RdV}{E:RdR FileM}{C:AccM→RdS→RdR FileM}{W w12 w13 w14:World}{a:AccM}{st:RdS}{us:List (Value × Int × Value)}
  {A A':Option Addr}{n n' c c':Nat}{o:Int}{v14:Value}
  (h:FnAt s b sc base sizes M j vs v E C W a st us) (hm:M - j=m+1) (hb:b < base) (hsc:sc < base) (hgb:3 < base) (hv:OwnFn W base v.funs vs) (hbase:base≤W.heap.size)
  (hr:RF W b sc v.shared.ownBlock w12) (hs:RdSameF v v12) (hat:v12.shared.ownBlock=v.shared.ownBlock∨∃ g,v12.shared.ownBlock=some g∧W.heap.size≤g)
  (hf:FnRes s b sc base v.top w12 (.slice A n c) o (.slice A' n' c') v12 a (funM s.data.toList sizes a st))
  (na:Below w12.heap.size w12 w13) (OW:OwnFn w13 base v.funs vs) (OX:OwnFn w14 base v14 (vs++[(.slice A n c,o,.slice A' n' c')])) (GX:w13.grownBy w14 v.funs.ownBlock) (AT:v14.ownBlock=v.funs.ownBlock∨v14.ownBlock=some w13.heap.size) (R14:RdAt w14 b v12) :
  FnGo s b sc base sizes M (j+1) (vs++[(.slice A n c,o,.slice A' n' c')]) { v12 with funs:=v14 } E C (w14.setCell ⟨b,8,none⟩ v14)∧OwnFn (w14.setCell ⟨b,8,none⟩ v14) base v14 (vs++[(.slice A n c,o,.slice A' n' c')])∧KeepT W (w14.setCell ⟨b,8,none⟩ v14) b sc:=by
 have g15:=grown_put w14 b 8 v14;have hz12:=hr.size;have hz13:=na.size;have hz14:=GX.size;have hob:∀ g,v.funs.ownBlock=some g→base≤g∧g < W.heap.size:=fun g e=>⟨(hv.obj g e).1,(hv.obj g e).2.1⟩
 have keepO:∀ k,k < w13.heap.size→(∀ g,v.funs.ownBlock=some g→k≠g)→w14.heap[k]? = w13.heap[k]?:=fun k h1 h2=>GX.block k h1 (fun e=>h2 k e.symm rfl);have lowO:∀ k,k < base→∀ g,v.funs.ownBlock=some g→k≠g:=fun k hk g e=>by have:=hob g e;omega
 have K0:KeepT W w12 b sc:=keep_rf h.sh hr;have K1:KeepT w12 (w14.setCell ⟨b,8,none⟩ v14) b sc:=((KeepT.rk (RK.below na)).trans (keep_fn OW GX)).trans (KeepT.rk (RK.grown1 g15));have K:=K0.trans K1;have OX':OwnFn (w14.setCell ⟨b,8,none⟩ v14) base v14 (vs++[(.slice A n c,o,.slice A' n' c')]):=OX.keepB fun g e h1 h2=>g15.block g h1 (fun e=>by injection e with e;omega);refine⟨?_,OX',K⟩;have hE:=h.E;rw [hm] at hE;have hE2:E=((funM s.data.toList sizes a st).bind fun a' s'=>funsM s.data.toList sizes m a' s').bind C:=hE;rcases hf with ⟨f,a',st',us',e1,e2,e3,e4,e5,e6,e7,e8⟩ | ⟨e,q,e1,e2⟩
 ·refine .inl ⟨a',st',us',?_⟩
  have o13:=e5.below na;have o14:RdOk w14 b sc s st' v12:=o13.blocks (keepO b o13.lt (lowO b hb)) (keepO sc o13.scan.lt (lowO sc hsc)) (keepO _ (by omega) (lowO _ hgb));have hfar:∀ g,v.funs.ownBlock=some g→v12.shared.ownBlock≠some g:=fun g e=>by
   rcases hat with h' | ⟨g',h',h2⟩
   ·rw [h'];exact h.far g e
   rw [h'];intro e';injection e' with e';have:=(hob g e).2;omega
  have hso:∀ g,v12.shared.ownBlock=some g→g < w12.heap.size:=fun g e=>(e7.obj g e).2.1;refine⟨o14.setFuns v14,(funM_ok h.acc (by rw [size_list];exact h.ok.le) e1).1,e6,?_,?_,?_,?_,?_⟩
  ·show OwnFn _ base v12.shared us'
   refine e7.keepB fun g e h1 h2=>?_;have s13:=na.block g h1;have s14:=keepO g (by omega) (fun g' e'=>by intro e'';subst e'';exact hfar g e' e);exact (g15.block g (by omega) (fun e=>by injection e with e;omega)).trans (s14.trans s13)
  ·show FnIs _ b sc us' (a'.shared.map (topF v12.top))
   rw [hs.top];exact e8.keep K1
  ·show FnIs _ b sc _ (a'.funs.map (topF v12.top))
   rw [hs.top,e2,List.map_append,e3];exact (h.fnIs.keep K).snoc (e4.keep K1)
  ·intro g e
   rcases AT with e' | e'
   ·exact hfar g (e'.symm.trans e)
   intro e'';have:=hso g e'';rw [show ({ v12 with funs:=v14 }:RdV).funs=v14 from rfl,e'] at e;injection e with e;omega
  rw [hE2,e1,RdR.bind_ok,show M - (j+1)=m by omega]
 refine .inr ⟨e,q,?_,?_⟩
 ·have o13:=e2.below na
  have o14:RdBad w14 b e q v12:=o13.blocks (keepO b o13.at_.lt (lowO b hb)) (keepO _ (by omega) (lowO _ hgb));exact o14.setFuns v14
 rw [hE2,e1,RdR.bind_bad,RdR.bind_bad]
end Go.Proofs.YtmokogkndbinlaaGreatDoor
