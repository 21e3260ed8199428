import Derived.Test.YtmokogkndbinlaaGreatDoorZhak
set_option linter.all false
namespace Go.Proofs.YtmokogkndbinlaaGreatDoor
open Go.Lib (hid)
open Go.RowKit
theorem own_capX {w:World}{base n c:Nat}{A:Option Addr}{l:List Nat}(h:Own w base (.slice A n c) l):n≤c:=by
 obtain⟨_,⟨e,hn⟩ | ⟨g,cap,cur,e,_,_,hm,_⟩⟩:=h
 ·injection e with e1 e2 e3
  omega
 injection e with e1 e2 e3;omega
theorem holdF {W W':World}{b G ns cs na ca:Nat}{As A:Option Addr}(h:W.cell? ⟨b,7,none⟩=some (.slice As ns cs)∧W.cell? ⟨G,0,none⟩=some (.slice A na ca)) (hb:Below W.heap.size W W'):W'.cell? ⟨b,7,none⟩=some (.slice As ns cs)∧W'.cell? ⟨G,0,none⟩=some (.slice A na ca) :=
 ⟨(hb.cell (p:=⟨b,7,none⟩) (World.block_lt_of_cell? W _ h.1)).trans h.1,(hb.cell (p:=⟨G,0,none⟩) (World.block_lt_of_cell? W _ h.2)).trans h.2⟩
theorem holdF_b {W W':World}{b G ns cs na ca:Nat}{As A:Option Addr}(h:W.cell? ⟨b,7,none⟩=some (.slice As ns cs)∧W.cell? ⟨G,0,none⟩=some (.slice A na ca)) (hg:W.grownBy W' (some b)) (hne:b < G) (h7:W'.cell? ⟨b,7,none⟩=some (.slice As ns cs)):W'.cell? ⟨b,7,none⟩=some (.slice As ns cs)∧W'.cell? ⟨G,0,none⟩=some (.slice A na ca) :=
 ⟨h7,(World.cell?_of_block (a:=⟨G,0,none⟩) (hg.block G (World.block_lt_of_cell? W _ h.2) (fun e=>by injection e with e;omega))).trans h.2⟩
theorem holdG {W W':World}{G:Nat}{sv ov lv:Value}(h:W.cell? ⟨G,0,none⟩=some sv∧W.cell? ⟨G,1,none⟩=some ov∧W.cell? ⟨G,2,none⟩=some lv) (hb:Below W.heap.size W W'):W'.cell? ⟨G,0,none⟩=some sv∧W'.cell? ⟨G,1,none⟩=some ov∧W'.cell? ⟨G,2,none⟩=some lv:=by
 have hl:G < W.heap.size:=World.block_lt_of_cell? W ⟨G,0,none⟩ h.1;have e:=fun i=>hb.cell (p:=⟨G,i,none⟩) hl;exact⟨(e 0).trans h.1,(e 1).trans h.2.1,(e 2).trans h.2.2⟩
theorem holdG_o {W W':World}{G:Nat}{sv ov lv:Value}{ob:Option Nat}(h:W.cell? ⟨G,0,none⟩=some sv∧W.cell? ⟨G,1,none⟩=some ov∧W.cell? ⟨G,2,none⟩=some lv) (hg:W.grownBy W' ob) (hne:ob≠some G) (hl:G < W.heap.size):W'.cell? ⟨G,0,none⟩=some sv∧W'.cell? ⟨G,1,none⟩=some ov∧W'.cell? ⟨G,2,none⟩=some lv:=by
 have e:=fun i=>World.cell?_of_block (a:=⟨G,i,none⟩) (hg.block G hl (fun e=>hne e.symm));exact⟨(e 0).trans h.1,(e 1).trans h.2.1,(e 2).trans h.2.2⟩
theorem holdG_s {W:World}{G b i:Nat}{u:Value}{sv ov lv:Value}(h:W.cell? ⟨G,0,none⟩=some sv∧W.cell? ⟨G,1,none⟩=some ov∧W.cell? ⟨G,2,none⟩=some lv) (hne:G≠b):(W.setCell ⟨b,i,none⟩ u).cell? ⟨G,0,none⟩=some sv∧(W.setCell ⟨b,i,none⟩ u).cell? ⟨G,1,none⟩=some ov∧(W.setCell ⟨b,i,none⟩ u).cell? ⟨G,2,none⟩=some lv :=
 holdG_o h (grown_put W b i u) (fun e=>hne (Option.some.inj e).symm) (World.block_lt_of_cell? W _ h.1)
structure GSt (w0 W:World) (b sc G R:Nat) (A:Option Addr) (acc:List Nat) (sv:Value) (o:Int) (lv:Value):Prop where
 g:W.heap[G]? = some (.cells #[sv,.int .i64 o,lv] 202 (0,0))
 r:W.heap[R]? = some (.cells #[.slice none 0 0,.int .i64 0,.slice none 0 0] 202 (0,0))
 k:RK w0 b sc W
 acc:IntsT W b sc A acc
 far:w0.heap.size≤R∧R < G∧b < w0.heap.size∧sc < w0.heap.size
theorem GSt.rk {w0 W W':World}{b sc G R:Nat}{A:Option Addr}{acc:List Nat}{sv lv:Value}{o:Int}(h:GSt w0 W b sc G R A acc sv o lv) (hk:RK W b sc W'):GSt w0 W' b sc G R A acc sv o lv:=by
 have:=h.far;exact⟨(hk.block G (Array.getElem?_eq_some_iff.1 h.g).1 (by omega) (by omega)).trans h.g,(hk.block R (Array.getElem?_eq_some_iff.1 h.r).1 (by omega) (by omega)).trans h.r,h.k.trans hk,h.acc.rk hk,h.far⟩
theorem RK.fresh {w0 W W':World}{b sc G:Nat}(h:RK w0 b sc W) (hg:W.grownBy W' (some G)) (hG:w0.heap.size≤G):RK w0 b sc W' :=
 ⟨hg.os.trans h.os,hg.tape.trans h.tape,hg.output.trans h.output,Nat.le_trans h.size hg.size,fun k h1 h2 h3=>(hg.block k (Nat.lt_of_lt_of_le h1 h.size) (fun e=>by injection e with e;omega)).trans (h.block k h1 h2 h3)⟩
theorem keep_g {W W':World}{b sc G:Nat}{cur:Array Value}{fr:Nat × Nat}(hc:W.heap[G]? = some (.cells cur 202 fr)) (hg:W.grownBy W' (some G)):KeepT W W' b sc:=by
 have key:∀ (g:Nat) (cur:Array Value) (t:TypeId) (fr:Nat × Nat),W.heap[g]? = some (.cells cur t fr)→t≠202→W'.heap[g]? = W.heap[g]?:=fun g cur' t fr' h ht=>by
  refine hg.block g (Array.getElem?_eq_some_iff.1 h).1 (fun e=>?_);injection e with e;subst e;rw [h] at hc;injection hc with hc;injection hc with _ h4;exact ht h4
 exact⟨fun g cur fr h _ _=>key g cur _ fr h (by decide),fun g cur fr h _ _=>key g cur _ fr h (by decide)⟩
theorem GSt.o {w0 W:World}{b sc G R:Nat}{A:Option Addr}{acc:List Nat}{sv lv:Value}{o:Int}(h:GSt w0 W b sc G R A acc sv o lv) (x:Int):GSt w0 (W.setCell ⟨G,1,none⟩ (.int .i64 x)) b sc G R A acc sv x lv:=by
 have hg:=grown_put W G 1 (.int .i64 x);have:=h.far;exact⟨heap_setCell_same W G 1 _ _ (.int .i64 x) h.g,(hg.block R (Array.getElem?_eq_some_iff.1 h.r).1 (fun e=>by injection e with e;omega)).trans h.r,h.k.fresh hg (by omega),h.acc.keep (keep_g h.g hg).ints,h.far⟩
theorem GSt.l {w0 W:World}{b sc G R:Nat}{A:Option Addr}{acc:List Nat}{sv lv:Value}{o:Int}(h:GSt w0 W b sc G R A acc sv o lv) (x:Value):GSt w0 (W.setCell ⟨G,2,none⟩ x) b sc G R A acc sv o x:=by
 have hg:=grown_put W G 2 x;have:=h.far;exact⟨heap_setCell_same W G 2 _ _ x h.g,(hg.block R (Array.getElem?_eq_some_iff.1 h.r).1 (fun e=>by injection e with e;omega)).trans h.r,h.k.fresh hg (by omega),h.acc.keep (keep_g h.g hg).ints,h.far⟩
theorem GSt.cells {w0 W:World}{b sc G R:Nat}{A:Option Addr}{acc:List Nat}{sv lv:Value}{o:Int}(h:GSt w0 W b sc G R A acc sv o lv):W.cell? ⟨G,0,none⟩=some sv∧W.cell? ⟨G,1,none⟩=some (.int .i64 o)∧W.cell? ⟨G,2,none⟩=some lv:=by
 refine⟨?_,?_,?_⟩ <;> (rw [cell_of_row _ _ _ _ _ _ h.g];rfl)
theorem RdIn.other {β:Type}{W W':World}{b sc mb:Nat}{s:ByteArray}{v v':RdV}{E:RdR β} {C:RdS→RdR β} (h:RdIn W b sc s v v' E C) (hg:W.grownBy W' (some mb)) (h1:b≠mb) (h2:sc≠mb) (h3:3≠mb):RdIn W' b sc s v v' E C:=by
 refine⟨h.1,?_⟩;rcases h.2 with ⟨st,h,hE⟩ | ⟨e,p,h,hE⟩
 ·exact .inl ⟨st,h.other hg h1 h2 h3,hE⟩
 exact .inr ⟨e,p,h.other hg h1 h3,hE⟩
theorem RdIn.c7 {β:Type}{W:World}{b sc:Nat}{s:ByteArray}{v v':RdV}{E:RdR β} {C:RdS→RdR β} (h:RdIn W b sc s v v' E C):W.cell? ⟨b,7,none⟩=some v.sizes :=
 (h.at_.cell (i:=7) (u:=v'.sizes) rfl).trans (by rw [h.1.same.sizes])
theorem pickN_le {sizes acc:List Nat}{N:Nat}(h:∀ x∈sizes,x≤N):∀ x∈pickN sizes acc,x≤N:=by
 intro x hx;obtain⟨i,_,rfl⟩:=List.mem_map.1 hx;by_cases hi:i < sizes.length
 ·exact h _ (nth_mem hi)
 rw [List.getD_eq_getElem?_getD,List.getElem?_eq_none (by omega)];exact Nat.zero_le _
def LnKnown (s:ByteArray) (b sc:Nat) (k:Int) (W:World) (ls:List LineM) (v4:RdV) (E:RdR AccM) (C:List LineM × Int→RdS→RdR AccM):Prop :=
 (∃ a st',ls=topL k a.1∧v4.told=a.2∧RdOk W b sc s st' v4∧E=C a st')∨∃ e p,RdBad W b e p v4∧E = .bad e p
theorem RF.fresh {w0 W W':World}{b sc G:Nat}{ob:Option Nat}(h:RF w0 b sc ob W) (hg:W.grownBy W' (some G)) (hG:w0.heap.size≤G):RF w0 b sc ob W' :=
 ⟨hg.os.trans h.os,hg.tape.trans h.tape,hg.output.trans h.output,Nat.le_trans h.size hg.size,fun k h1 h2 h3 h4=>(hg.block k (Nat.lt_of_lt_of_le h1 h.size) (fun e=>by injection e with e;omega)).trans (h.block k h1 h2 h3 h4)⟩
theorem RdSameF.shared {v v':RdV}(h:RdSameF v v') (u:Value):RdSameF v { v' with shared:=u }:=⟨h.sc,h.name,h.top,h.sizes,h.funs⟩
theorem grown_row (W:World) (b:Nat) (cs:Array Value):W.grownBy (W.setRow b cs) (some b):=⟨rfl,rfl,rfl,by simp,fun k _ hk=>setRow_other W b k cs (fun e=>hk (by rw [e]))⟩
theorem fn_end_pos {w w12:World}{b sc base G R ca c4 po p:Nat}{A A4:Option Addr}{acc:List Nat}{o o0 n:Int}{ls:List LineM}{v v4:RdV}{s:ByteArray}{sizes:List Nat}{a:AccM}{E:RdR AccM}{us:List (Value × Int × Value)}
  (hG:GSt w w12 b sc G R A acc (.slice A acc.length ca) o (.slice A4 ls.length c4)) (hs:RdSame v v4) (hl:LinesK w12 b sc A4 ls) (hr:LnKnown s b sc v.top w12 ls v4 E (cF4 sizes a (n,p) acc (o0,po))) (hn:¬ n < 0) (ho:o=min o0 v.top)
  (hO:OwnFn w base v.shared us) (hU:FnIs w b sc us (a.shared.map (topF v.top))) (hb:b < base) (hsc:sc < base) (hgb:3 < base) (hbase:base≤w.heap.size) (cs:Array Value) (hcap:acc.length≤ca) :
  FnPost s b sc base v a E w (.returned (.agg #[.slice A acc.length ca,.int .i64 o,.slice A4 ls.length c4])) (w12.setRow R cs):=by
 have hg:=grown_row w12 R cs;have hf:=hG.far;have K:KeepT w12 (w12.setRow R cs) b sc:=keep_g hG.r hg;have hk:=hG.k.fresh hg hf.1;refine⟨A,acc.length,ca,o,A4,ls.length,c4,v4,rfl,RF.of hk,hs.f,.inl (by rw [hs.shared]),?_⟩;rcases hr with ⟨x,st',h1,h2,h3,h4⟩ | ⟨e,q,h1,h2⟩
 rotate_left
 ·exact .inr ⟨e,q,h2,h1.other hg (by omega) (by omega)⟩
 refine .inl ⟨⟨acc,o0,x.1⟩,_,st',us,h4,rfl,ho,⟨⟨A,ca,rfl,hcap,hG.acc.keep K.ints⟩,A4,c4,by rw [h1];rfl,by show LinesK _ b sc A4 (topL v.top x.1);rw [← h1];exact hl.keep K⟩,h3.other hg (by omega) (by omega) (by omega),h2,?_,?_⟩
 ·rw [hs.shared]
  exact hO.rk hk hb hsc
 show FnIs _ b sc us (List.map _ (if n < 0 then _ else a.shared));rw [if_neg hn];exact hU.keep (KeepT.rk hk)
theorem fn_end_neg {w w12 w13 w14:World}{b sc base G R ca c4 po p:Nat}{A A4:Option Addr}{acc:List Nat}{o o0 n:Int}{ls:List LineM}{v v4:RdV}{v14:Value}{s:ByteArray}{sizes:List Nat}{a:AccM}{E:RdR AccM}{us:List (Value × Int × Value)}
  (hG:GSt w w12 b sc G R A acc (.slice A acc.length ca) o (.slice A4 ls.length c4)) (hs:RdSame v v4) (hl:LinesK w12 b sc A4 ls) (hr:LnKnown s b sc v.top w12 ls v4 E (cF4 sizes a (n,p) acc (o0,po))) (hn:n < 0) (ho:o=min o0 v.top)
  (hO:OwnFn w base v.shared us) (hU:FnIs w b sc us (a.shared.map (topF v.top))) (hb:b < base) (hsc:sc < base) (hgb:3 < base) (hbase:base≤w.heap.size)
  (na:Below w12.heap.size w12 w13) (OW:OwnFn w13 base v.shared us) (OX:OwnFn w14 base v14 (us++[(.slice A acc.length ca,o,.slice A4 ls.length c4)])) (GX:w13.grownBy w14 v.shared.ownBlock) (AT:v14.ownBlock=v.shared.ownBlock∨v14.ownBlock=some w13.heap.size) (R14:RdAt w14 b v4) (cs:Array Value) (hcap:acc.length≤ca) :
  FnPost s b sc base v a E w (.returned (.agg #[.slice A acc.length ca,.int .i64 o,.slice A4 ls.length c4])) ((w14.setCell ⟨b,9,none⟩ v14).setRow R cs):=by
 have hf:=hG.far;have g15:=grown_put w14 b 9 v14;have g16:=grown_row (w14.setCell ⟨b,9,none⟩ v14) R cs;have hR12:R < w12.heap.size:=(Array.getElem?_eq_some_iff.1 hG.r).1;have hz12:=hG.k.size;have hz13:=na.size;have hz14:=GX.size;have hob:∀ g,v.shared.ownBlock=some g→base≤g∧g < w.heap.size:=fun g e=>⟨(hO.obj g e).1,(hO.obj g e).2.1⟩
 have keepO:∀ k,k < w13.heap.size→(k < base∨w.heap.size≤k)→w14.heap[k]? = w13.heap[k]?:=fun k h1 h2=>GX.block k h1 (fun e=>by have:=hob k e.symm;omega);have r14:w14.heap[R]? = _:=(keepO R (by omega) (.inr hf.1)).trans ((na.block R hR12).trans hG.r);have r15:(w14.setCell ⟨b,9,none⟩ v14).heap[R]? = _:=(g15.block R (Array.getElem?_eq_some_iff.1 r14).1 (fun e=>by injection e with e;omega)).trans r14;have K:KeepT w12 ((w14.setCell ⟨b,9,none⟩ v14).setRow R cs) b sc:=(((KeepT.rk (RK.below na)).trans (keep_fn OW GX)).trans (KeepT.rk (RK.grown1 g15))).trans (keep_g r15 g16);have K0:KeepT w ((w14.setCell ⟨b,9,none⟩ v14).setRow R cs) b sc:=(KeepT.rk hG.k).trans K;refine⟨A,acc.length,ca,o,A4,ls.length,c4,{ v4 with shared:=v14 },rfl,((((RF.of hG.k).rk (RK.below na)).put GX).rk (RK.grown1 g15)).fresh g16 hf.1,hs.f.shared v14,?_,?_⟩
 ·rcases AT with e | e
  ·exact .inl e
  exact .inr ⟨_,e,by omega⟩
 have a15:RdAt (w14.setCell ⟨b,9,none⟩ v14) b { v4 with shared:=v14 }:=heap_setCell_same w14 b 9 _ _ v14 R14;rcases hr with ⟨x,st',h1,h2,h3,h4⟩ | ⟨e,q,h1,h2⟩
 rotate_left
 ·have o13:=h1.below na
  have o14:RdBad w14 b e q v4:=o13.blocks (keepO b o13.at_.lt (.inl hb)) (keepO _ (by omega) (.inl hgb));have o15:RdBad (w14.setCell ⟨b,9,none⟩ v14) b e q { v4 with shared:=v14 }:=⟨a15,o14.fe,o14.fp,o14.ne,o14.glob.rk (RK.grown1 (q:=b) g15) o14.gb o14.gb,o14.gb⟩
  exact .inr ⟨e,q,h2,o15.other g16 (by omega) (by omega)⟩
 have o13:=h3.below na;have o14:RdOk w14 b sc s st' v4:=o13.blocks (keepO b o13.lt (.inl hb)) (keepO sc o13.scan.lt (.inl hsc)) (keepO _ (by omega) (.inl hgb));have o15:=o14.upd a15 g15 rfl rfl rfl rfl;have hfun:FunC ((w14.setCell ⟨b,9,none⟩ v14).setRow R cs) b sc (.slice A acc.length ca) (.slice A4 ls.length c4) (topF v.top ⟨acc,o0,x.1⟩) :=
  ⟨⟨A,ca,rfl,hcap,hG.acc.keep K.ints⟩,A4,c4,by rw [h1];rfl,by show LinesK _ b sc A4 (topL v.top x.1);rw [← h1];exact hl.keep K⟩
 refine .inl ⟨⟨acc,o0,x.1⟩,_,st',us++[(.slice A acc.length ca,o,.slice A4 ls.length c4)],h4,rfl,ho,hfun,o15.other g16 (by omega) (by omega) (by omega),h2,?_,?_⟩;rotate_left
 ·show FnIs _ b sc _ (List.map _ (if n < 0 then a.shared++[_] else a.shared))
  rw [if_pos hn,List.map_append];have:=(hU.keep K0).snoc hfun;rw [show (topF v.top ⟨acc,o0,x.1⟩).other=o from ho.symm] at this;exact this
 refine OX.keepB fun g e h1 h2=>?_;have hgR:g≠R:=by
  rcases AT with e' | e'
  ·rw [e'] at e
   have:=hob g e;omega
  rw [e'] at e;injection e with e;omega
 have hg15:=g15.block g h1 (fun e=>by injection e with e;omega);exact (g16.block g (by have:=g15.size;omega) (fun e=>hgR (Option.some.inj e))).trans hg15
theorem fn_row {w w12 w13 w14:World}{b sc base G R:Nat}{A:Option Addr}{acc:List Nat}{sv lv:Value}{o:Int}{us:List (Value × Int × Value)} {u:Value}(hG:GSt w w12 b sc G R A acc sv o lv) (hO:OwnFn w base u us) (na:Below w12.heap.size w12 w13) (GX:w13.grownBy w14 u.ownBlock) (v14:Value) :
  (w14.setCell ⟨b,9,none⟩ v14).heap[R]? = some (.cells #[.slice none 0 0,.int .i64 0,.slice none 0 0] 202 (0,0)):=by
 have hf:=hG.far;have hR12:R < w12.heap.size:=(Array.getElem?_eq_some_iff.1 hG.r).1;have hz13:=na.size;have r14:=(GX.block R (by omega) (fun e=>by have:=(hO.obj R e.symm).2.1;omega)).trans ((na.block R hR12).trans hG.r);exact ((grown_put w14 b 9 v14).block R (Array.getElem?_eq_some_iff.1 r14).1 (fun e=>by injection e with e;omega)).trans r14
theorem LnKnown.at_ {s:ByteArray}{b sc:Nat}{k:Int}{W:World}{ls:List LineM}{v4:RdV}{E:RdR AccM}{C:List LineM × Int→RdS→RdR AccM}(h:LnKnown s b sc k W ls v4 E C):RdAt W b v4:=by
 rcases h with ⟨x,st',h1,h2,h3,h4⟩ | ⟨e,q,h1,h2⟩
 ·exact h3.at_
 exact h1.at_
theorem LnKnown.below {s:ByteArray}{b sc:Nat}{k:Int}{W W':World}{ls:List LineM}{v4:RdV}{E:RdR AccM}{C:List LineM × Int→RdS→RdR AccM}(h:LnKnown s b sc k W ls v4 E C) (hb:Below W.heap.size W W'):LnKnown s b sc k W' ls v4 E C:=by
 rcases h with ⟨x,st',h1,h2,h3,h4⟩ | ⟨e,q,h1,h2⟩
 ·exact .inl ⟨x,st',h1,h2,h3.below hb,h4⟩
 exact .inr ⟨e,q,h1.below hb,h2⟩
end Go.Proofs.YtmokogkndbinlaaGreatDoor
namespace Go.Proofs.YtmokogkndbinlaaGreatDoor
open Go.Lib (hid)
attribute [local go_sem ↓] run_mx2
open Go.RowKit
set_option maxRecDepth 100000 in
set_option maxHeartbeats 4000000 in
theorem functionR (b sc base cs:Nat) (As:Option Addr) (sizes:List Nat) (s:ByteArray) (st:RdS) (v:RdV) (a:AccM) (us:List (Value × Int × Value)) (w:World)
  (hnv:sizes.length≤100000) (hn1:1≤sizes.length) (hsm:∀ x∈sizes,x≤4611686018427387904) (h:RdOk w b sc s st v) (hv:v.sizes = .slice As sizes.length cs) (hS:IntsT w b sc As sizes) (hT:TabK w b sc) (hA:AccOk sizes a st) (htd:v.told=a.told)
  (hO:OwnFn w base v.shared us) (hU:FnIs w b sc us (a.shared.map (topF v.top))) (hb:b < base) (hs:sc < base) (hgb:3 < base) (hbase:base≤w.heap.size) :
  Calls Tryz.prog 135 #[.pointer (some ⟨b,0,none⟩)] w (FnPost s b sc base v a (funM s.data.toList sizes a st) w):=by
 obtain⟨E,hE⟩:∃ E,funM s.data.toList sizes a st=E:=⟨_,rfl⟩
 rw [hE];rw [funM_cps] at hE;have I0:Hid (RdIn w b sc s v v E (fun st=>(numM s.data.toList (-4611686018427387904) 4611686018427387904 st).bind (cF1 s.data.toList sizes a))):=hid ⟨RdNear.refl v,.inl ⟨st,h,hE.symm⟩⟩;have hk:=h.le;have hft:=h.fits;have HV:=hid hv;have HSM:=hid hsm;have HS:=hid hS;have HT:=hid hT;have HTD:=hid htd;have HO:=hid hO;have HU:=hid hU;have HB:=hid (And.intro hb (And.intro hs hgb));have BS:=hid hbase;have HW:=hid (show b < w.heap.size∧sc < w.heap.size∧3 < w.heap.size from ⟨by omega,by omega,by omega⟩);have TD:=hid (show 0≤v.told∧v.told≤100000 from ⟨by rw [htd];exact hA.told0,by have:=hA.told1;omega⟩);have AF:=hid (show (∀ f∈a.shared,f.scope.length≤100001∧∀ x∈f.scope,x < sizes.length)∧a.shared.length≤100000 from ⟨fun f hf=>⟨by have:=hA.far f hf;omega,(hA.shared f hf).below⟩,by have:=hA.sfew;omega⟩);have UL:Hid (us.length≤1000000):=hid (by have h1:=hU.1;have h2:=hA.sfew;simp at h1;omega);clear hE h hv hsm hS hT hA htd hO hU hb hs hgb hbase hk hft;go_enter Tryz.func135,Tryz.ntmps135
 have N1:=hid (new_val w (.cells #[.slice none 0 0,.int .i64 0,.slice none 0 0] 202));have X1:=hid (heap_alloc_new w (.cells #[.slice none 0 0,.int .i64 0,.slice none 0 0] 202));have NI:=hid (numIn (I0.out.below N1.out));go_upto_region 2 with (first | (go_at_call 134;refine NI.out.mono ?_;rintro e w2 ⟨n,p,v1,rfl,hbd,hk1,hI1⟩;replace hbd:=hid hbd;replace hk1:=hid hk1;replace hI1:=hid hI1) | fail)
 obtain⟨ar,har⟩:∃ ar:Nat,n.natAbs=ar:=⟨_,rfl⟩
 have b1:-4611686018427387904≤n:=by have:=hbd.out;omega
 have b2:n≤4611686018427387904:=by have:=hbd.out;omega
 have hmx:mx2 n (-n)=(ar:Int):=by unfold mx2;omega
 have HAR:=hid har;have SI:=hid (scopeIn (W:=w2) (ar:=ar) (C:=cF2 s.data.toList sizes a (n,p)) (by omega) hnv HV.out (hI1.out.conv (fun st=>by rw [← HAR.out];rfl)));have K2:=hid ((RK.below (p:=b) (q:=sc) N1.out).trans hk1.out);have R2:=hid ((hk1.out.block w.heap.size (Array.getElem?_eq_some_iff.1 X1.out).1 (by have:=HW.out;omega) (by have:=HW.out;omega)).trans X1.out);clear har NI hk1 hI1 hbd;go_upto_region 3 with (first
  | (go_at_call 169;refine SI.out.mono ?_;rintro e w3 ⟨val,acc,v2,rfl,hO3,hk3,hA3,hI3,hL3⟩;obtain⟨A,ca,rfl,_⟩:=hO3.form;have CAP:=hid (own_capX hO3);replace hO3:=hid hO3;replace hk3:=hid hk3;replace hA3:=hid hA3;replace hI3:=hid hI3;replace hL3:=hid hL3)
  | ((with_reducible show wpList _ _ _ (Oper.mk none (.store 202 _ _) _ _ _ _::_) _ _);refine wpList_store_row rfl 202 (.tmp 5) (.tmp 17) rfl w3.heap.size #[.slice A acc.length ca,.int .i64 0,.slice none 0 0] rfl rfl 202 #[.slice none 0 0,.int .i64 0,.slice none 0 0] (heap_alloc_new _ _) (by kernel_rfl) rfl (by simp [Value.oneCell']) ?_;rw [World.setRow_alloc_new])
  | fail)
 clear hmx SI;have HA:=hA3;have n4:=new_val w3 (.cells #[.slice A acc.length ca,.int .i64 0,.slice none 0 0] 202);have GB:Hid (b < w3.heap.size):=hid (by have:=HW.out.1;have:=K2.out.size;have:=hk3.out.size;omega);have G4:Hid (GSt w (w3.alloc (.cells #[.slice A acc.length ca,.int .i64 0,.slice none 0 0] 202)) b sc w3.heap.size w.heap.size A acc (.slice A acc.length ca) 0 (.slice none 0 0)):=hid (by
  have hz2:w.heap.size < w2.heap.size:=(Array.getElem?_eq_some_iff.1 R2.out).1;have hz3:=hk3.out.size;have hw:=HW.out;have r3:=(hk3.out.block w.heap.size hz2 (by omega) (by omega)).trans R2.out;refine⟨heap_alloc_new w3 _,(n4.block _ (by omega)).trans r3,(K2.out.trans hk3.out).trans (RK.below n4),(IntsT.own hO3.out (by omega) (by omega)).rk (RK.below n4),by omega⟩)
 have I4:=hid (hI3.out.below n4);have L4:=hid (show acc.length=ar∨∃ e p,RdBad (w3.alloc (.cells #[.slice A acc.length ca,.int .i64 0,.slice none 0 0] 202)) b e p v2∧E = .bad e p from by
  rcases hL3.out with h | ⟨e,p,h1,h2⟩
  ·exact .inl h
  ·exact .inr ⟨e,p,h1.below n4,h2⟩)
 have HGE:Hid (w3.heap.size=w3.heap.size):=hid rfl;obtain⟨c0,-,-⟩:=G4.out.cells;generalize w3.alloc (.cells #[.slice A acc.length ca,.int .i64 0,.slice none 0 0] 202)=w4 at n4 G4 I4 L4 c0 ⊢;clear n4 hO3 hI3 hL3 hk3 K2 R2 N1 X1 hA3 HGE;generalize w3.heap.size=G at G4 GB c0 ⊢;have I4':Hid (RdIn w4 b sc s v v2 E (fun st=>(fun s'=>(numM s.data.toList 0 farZ (limS (decide ((4096:Int) < (cntM (pickN sizes acc) 1:Nat))) p s')).bind (cF3 s.data.toList sizes a (n,p) acc)) (limS (decide ((6:Int) < (acc.length:Nat))) p st))):=hid (by
  rcases L4.out with h | ⟨e,q,h1,h2⟩
  ·refine I4.out.conv (fun st=>?_)
   show (numM _ _ _ (limS (decide (6 < n.natAbs) || decide (4096 < cntM (pickN sizes acc) 1)) p st)).bind _=_;rw [limS_or,HAR.out,← h];have e1:decide ((6:Int) < (acc.length:Nat))=decide (6 < acc.length):=by rw [decide_eq_decide];omega
   have e2:decide ((4096:Int) < (cntM (pickN sizes acc) 1:Nat))=decide (4096 < cntM (pickN sizes acc) 1):=by rw [decide_eq_decide];omega
   rw [e1,e2]
  ·exact⟨I4.out.1,.inr ⟨e,q,h1,h2⟩⟩)
 have LI:=hid (limIn (n:=(acc.length:Nat)) (m:=6) (p:=p) (C:=fun s'=>(numM s.data.toList 0 farZ (limS (decide ((4096:Int) < (cntM (pickN sizes acc) 1:Nat))) p s')).bind (cF3 s.data.toList sizes a (n,p) acc)) I4'.out);clear I4 L4 I4';go_upto_region 4 with (first | (go_at_call 133;refine LI.out.mono ?_;rintro e w5 ⟨v2',⟨_,rfl⟩,hg5,hI5⟩;replace hg5:=hid hg5;replace hI5:=hid hI5) | fail)
 have G5:=hid (G4.out.rk (RK.grown1 hg5.out));clear c0 LI G4 hg5;have G6:=hid (G5.out.rk (RK.below ((Below.refl w5.heap.size w5).drew)));have HR6:=hid (hI5.out.below ((Below.refl w5.heap.size w5).drew));refine wp_region_noPanic ?_;refine wp_region_held_drew (S:=fun W=>W.cell? ⟨b,7,none⟩=some (.slice As sizes.length cs)∧W.cell? ⟨G,0,none⟩=some (.slice A acc.length ca)) (by kernel_rfl) ⟨by rw [HR6.out.c7,HV.out],G6.out.cells.1⟩ (fun hHeld=>?_);generalize w5.drew=w6 at hHeld G6 HR6 ⊢;have SZ6:=hid (HS.out.rk G6.out.k);have AC6:=hid G6.out.acc;have PL:Hid ((pickN sizes acc).length≤100001):=hid (by simp [pickN];exact HA.out.few);have PS:=hid (pickN_le (acc:=acc) HSM.out);clear hI5 G5;refine wt 0 ?r401;refine wt 1 ?r402;refine wt 2 ?r403;refine wt 3 ?r404;refine wt 4 ?r405;refine wt 5 ?r406;refine wt 6 ?r407;refine wt 9 ?r408;refine wr1 7 (fun K hK=>?_);go_simp;refine (pickedI cs ca As A sizes acc w6 hnv HA.out.few (HA.out.lt hn1) SZ6.out.ints AC6.out.ints).mono ?_;rintro e w7 ⟨⟨A7,c7,rfl,hI7⟩,hb7⟩;have B7:=hid hb7;have I7:=hid hI7;refine hK.out _ _ (holdF hHeld hb7) (fun hHeld'=>?_);replace hHeld:=hHeld';clear hHeld';clear hb7 hI7;clear hK K;try simp only [Act.put,pa,pb,pc,pd,pe,pf]
 refine wr1 8 (fun K hK=>?_);go_simp;refine (countR c7 A7 (pickN sizes acc) w7 PL.out (PS.out) I7.out).mono ?_;rintro e w' ⟨rfl,rfl⟩;refine hK.out _ _ (hHeld) (fun hHeld'=>?_);replace hHeld:=hHeld';clear hHeld';clear hK K;try simp only [Act.put,pa,pb,pc,pd,pe,pf]
 refine wr1 10 (fun K hK=>?_);go_simp;refine (limIn (n:=(cntM (pickN sizes acc) 1:Nat)) (m:=4096) (p:=p) (C:=fun s'=>(numM s.data.toList 0 farZ s').bind (cF3 s.data.toList sizes a (n,p) acc)) (HR6.out.below B7.out)).mono ?_;rintro e w8 ⟨v3,⟨_,rfl⟩,hg8,hI8⟩;have HR8:=hid hI8;have HG8:=hid hg8;refine hK.out _ _ (holdF_b hHeld hg8 GB.out (by rw [hI8.c7,HV.out])) (fun hHeld'=>?_);replace hHeld:=hHeld';clear hHeld';clear hg8 hI8;clear hK K;try simp only [Act.put,pa,pb,pc,pd,pe,pf]
 refine wpAnyH_done (by kernel_rfl) ?_ _;refine NoPanic.normal ?_;clear hHeld;have G8:=hid ((G6.out.rk (RK.below B7.out)).rk (RK.grown1 HG8.out));clear B7 I7 HG8 SZ6 AC6 HR6 G6 PL PS;have CI:=hid (costIn (W:=w8) (C:=cF3 s.data.toList sizes a (n,p) acc) HR8.out);have fz8:w8.frozen? ⟨G,1,none⟩=false:=frozen_of_row _ _ _ _ _ G8.out.g;go_upto_region 6 with (first | (go_at_call 170;refine CI.out.mono ?_;rintro e w9 ⟨o0,po,v5,rfl,hk9,hI9⟩;have G9:=hid (G8.out.rk hk9);replace hI9:=hid hI9;clear hk9;obtain⟨-,c9,-⟩:=G9.out.cells;have f9:w9.frozen? ⟨G,1,none⟩=false:=frozen_of_row _ _ _ _ _ G9.out.g) | fail)
 have G10:=hid (G9.out.o (min o0 v.top));have HW9:=HW.out;have HGW:w.heap.size≤G:=by have:=G9.out.far;omega
 have I10:=hid (hI9.out.other (grown_put w9 G 1 (.int .i64 (min o0 v.top))) (by omega) (by omega) (by omega));obtain⟨o,ho⟩:∃ o,min o0 v.top=o:=⟨_,rfl⟩
 have HOO:=hid ho;rw [ho] at G10 I10 ⊢;generalize w9.setCell ⟨G,1,none⟩ (.int .i64 o)=w10 at G10 I10 ⊢;have GW:=hid HGW;clear ho c9 f9 fz8 CI HW9 HGW;clear hI9 G9 G8 HR8;obtain⟨Ash,csh,hsh⟩:=HO.out.form;have hul:us.length=a.shared.length:=by have:=HU.out.1;simpa using this
 have SH:=hid hsh;have FK:Hid (FunsK w10 b sc Ash (a.shared.map (topF v.top))):=hid (by
  obtain⟨A',c',e,hF⟩:=(HO.out.rk G10.out.k HB.out.1 HB.out.2.1).funs (HU.out.keep (KeepT.rk G10.out.k)) HB.out.1 HB.out.2.1;rw [SH.out] at e;injection e with e1 e2 e3;rw [e1];exact hF)
 have LNI:=hid (linesIn (cc:=ca) (cs:=cs) (csh:=csh) (As:=As) (Ac:=A) (Ash:=Ash) (sizes:=sizes) (scope:=acc) (fs:=a.funs) (shared:=a.shared) (C:=cF4 sizes a (n,p) acc (o0,po)) hnv HSM.out HA.out.few (HA.out.lt hn1) HV.out (by rw [SH.out,hul]) (HS.out.rk G10.out.k).k G10.out.acc.k (HT.out.rk G10.out.k) TD.out.1 TD.out.2 FK.out AF.out.1 (I10.out.conv (fun st=>by rw [HTD.out];rfl)));clear hsh hul;obtain⟨c9,-,-⟩:=G10.out.cells;go_upto_region 7 with (first | (go_at_call 171;refine LNI.out.mono ?_;rintro e w11 ⟨A4,c4,ls,v4,rfl,hl11,hk11,hs11,hr11⟩;have G11:=hid (G10.out.rk hk11);replace hl11:=hid hl11;replace hs11:=hid hs11;replace hr11:=hid hr11;clear hk11;obtain⟨-,-,c11⟩:=G11.out.cells;have f11:w11.frozen? ⟨G,2,none⟩=false:=frozen_of_row _ _ _ _ _ G11.out.g) | fail)
 have g11:=grown_put w11 G 2 (.slice A4 ls.length c4);have HW9:=HW.out;have GWO:=GW.out;have G12:=hid (G11.out.l (.slice A4 ls.length c4));have L12:=hid (hl11.out.keep (keep_g G11.out.g g11));have R12':Hid (LnKnown s b sc v.top (w11.setCell ⟨G,2,none⟩ (.slice A4 ls.length c4)) ls v4 E (cF4 sizes a (n,p) acc (o0,po))):=hid (by
  rcases hr11.out with ⟨x,st',h1,h2,h3,h4⟩ | ⟨e,q,h1,h2⟩
  ·exact .inl ⟨x,st',h1,h2,h3.other g11 (by omega) (by omega) (by omega),h4⟩
  ·exact .inr ⟨e,q,h1.other g11 (by omega) (by omega),h2⟩)
 generalize w11.setCell ⟨G,2,none⟩ (.slice A4 ls.length c4)=w12 at G12 L12 R12' ⊢;clear c9 c11 f11 g11 HW9 GWO LNI FK;clear hl11 hr11 G11 G10 I10;by_cases hn0:n < 0
 rotate_left
 ·have d0:decide (n < 0)=false:=decide_eq_false hn0
  have HN0:=hid hn0;clear hn0;obtain⟨k0,k1,k2⟩:=G12.out.cells;go_wp2_with (first
   | ((with_reducible show wpList _ _ _ (Oper.mk none (.store 202 _ _) _ _ _ _::_) _ _);refine wpList_store_row rfl 202 (.tmp 2) (.tmp 58) rfl w.heap.size #[.slice A acc.length ca,.int .i64 o,.slice A4 ls.length c4] rfl rfl 202 #[.slice none 0 0,.int .i64 0,.slice none 0 0] G12.out.r (by kernel_rfl) rfl (by simp [Value.oneCell']) ?_)
   | fail)
  exact bodyPost_ret (results_fn rfl _ _ w.heap.size _ _ _ rfl (setRow_heap w12 w.heap.size _ _ _ _ G12.out.r)) rfl (fn_end_pos G12.out hs11.out L12.out R12'.out (by have:=HN0.out;omega) HOO.out.symm HO.out HU.out HB.out.1 HB.out.2.1 HB.out.2.2 BS.out _ CAP.out)
 have d0:decide (n < 0)=true:=decide_eq_true hn0;go_upto_region 8 with fail
 clear d0;have HN0:=hid hn0;clear hn0;have bd:=(Below.refl w12.heap.size w12).drew;have GD:=hid (G12.out.rk (RK.below bd));have LD:=hid (L12.out.rk (RK.below bd));have KD:=hid (R12'.out.below bd);refine wp_region_noPanic ?_;refine wp_region_held_drew (S:=fun W=>W.cell? ⟨G,0,none⟩=some (.slice A acc.length ca)∧W.cell? ⟨G,1,none⟩=some (.int .i64 o)∧W.cell? ⟨G,2,none⟩=some (.slice A4 ls.length c4)) (by kernel_rfl) GD.out.cells (fun hHeld=>?_);generalize w12.drew=wd at hHeld GD LD KD ⊢;clear bd R12' L12 G12;have RD:=hid KD.out.at_;have SH4:Hid (v4.shared = .slice Ash us.length csh):=hid (hs11.out.shared.trans SH.out);have OSw:Hid (OwnFn w base (.slice Ash us.length csh) us):=hid (SH.out ▸ HO.out);have OSD:Hid (OwnFn wd base (.slice Ash us.length csh) us):=hid (OSw.out.rk GD.out.k HB.out.1 HB.out.2.1);have BSD:Hid (base≤wd.heap.size):=hid (by have:=BS.out;have:=GD.out.k.size;omega);have GLT2:Hid (G < wd.heap.size):=hid ((Array.getElem?_eq_some_iff.1 GD.out.g).1);refine wt 0 ?r601;refine wt 1 ?r602;refine wt 2 ?r603;refine wt 3 ?r604;refine wt 5 ?r605;refine wpAnyH_ready (rs:=[4,6]) (by kernel_rfl) (by simp) ?_;refine AllReadyH.cons rfl (fun K hK=>?_) ?_
 ·have ac:wd.cell? ⟨b,9,none⟩=some (.slice Ash us.length csh):=(RD.out.cell (i:=9) (u:=v4.shared) rfl).trans (by rw [SH4.out])
  go_simp;clear ac;refine hK.out _ _ (hHeld) (fun hHeld'=>?_);replace hHeld:=hHeld';clear hHeld';clear hK K;try simp only [Act.put,pa,pb,pc,pd,pe,pf]
  refine wr1 6 (fun K hK=>?_);go_simp;have na:=new_val wd (.cells #[.slice A acc.length ca,.int .i64 o,.slice A4 ls.length c4] 202);have NA:=hid na;have NW:=hid (heap_alloc_new wd (.cells #[.slice A acc.length ca,.int .i64 o,.slice A4 ls.length c4] 202));have R13:Hid (RdAt (wd.alloc (.cells #[.slice A acc.length ca,.int .i64 o,.slice A4 ls.length c4] 202)) b v4):=hid ((na.block b RD.out.lt).trans RD.out);refine hK.out _ _ (holdG hHeld na) (fun hHeld'=>?_);replace hHeld:=hHeld';clear hHeld';clear na;generalize wd.alloc (.cells #[.slice A acc.length ca,.int .i64 o,.slice A4 ls.length c4] 202)=w13 at hHeld NA NW R13 ⊢;have OW:=hid ((OSD.out.keepB (fun g _ h1 _=>NA.out.block g h1)));generalize wd.heap.size=gl at NW ⊢;clear hK K;try simp only [Act.put,pa,pb,pc,pd,pe,pf]
  refine wr1 7 (fun K hK=>?_);refine push_fn_step rfl (.tmp 52) (.tmp 54) rfl w13 base gl (.slice Ash us.length csh) us A A4 acc.length ls.length ca c4 o rfl (by rfl) OW.out NW.out (by have:=NA.out.size;have:=BSD.out;omega) UL.out ?_;intro v14 w14 hO hg hat;obtain⟨A14,n14,c14,rfl⟩:∃ A n c,v14 = .slice A n c:=by obtain⟨A,c,e⟩:=hO.form;exact⟨A,_,c,e⟩
  have OX:=hid hO;have GX:=hid hg;have AT:=hid hat;have R14:Hid (RdAt w14 b v4):=hid ((hg.block b (Array.getElem?_eq_some_iff.1 R13.out).1 (fun e=>by obtain⟨h1,_⟩:=OW.out.obj b e.symm;have:=HB.out.1;omega)).trans R13.out);refine hK.out _ _ (holdG_o hHeld hg (fun e=>by obtain⟨_,h1,_⟩:=OSw.out.obj _ e;have:=GW.out;omega) (by have:=NA.out.size;have:=GLT2.out;omega)) (fun hHeld'=>?_);replace hHeld:=hHeld';clear hHeld';clear hO hg hat;clear hK K;try simp only [Act.put,pa,pb,pc,pd,pe,pf]
  refine wt 8 ?r606;refine wt 9 ?r607;refine wr1 10 (fun K hK=>?_);have ac:w14.cell? ⟨b,9,none⟩=some v4.shared:=R14.out.cell (i:=9) rfl;have af:w14.frozen? ⟨b,9,none⟩=false:=frozen_of_row _ _ _ _ _ R14.out;go_simp;clear ac af;refine hK.out _ _ (holdG_s hHeld (by have:=GB.out;omega)) (fun hHeld'=>?_);replace hHeld:=hHeld';clear hHeld';clear hK K;try simp only [Act.put,pa,pb,pc,pd,pe,pf]
  refine wpAnyH_done (by kernel_rfl) ?_ _;refine NoPanic.normal ?_;obtain⟨k0,k1,k2⟩:=hHeld;have R15:=hid (fn_row GD.out OSw.out NA.out GX.out (.slice A14 n14 c14));go_wp2_with (first
   | ((with_reducible show wpList _ _ _ (Oper.mk none (.store 202 _ _) _ _ _ _::_) _ _);refine wpList_store_row rfl 202 (.tmp 2) (.tmp 58) rfl w.heap.size #[.slice A acc.length ca,.int .i64 o,.slice A4 ls.length c4] rfl rfl 202 #[.slice none 0 0,.int .i64 0,.slice none 0 0] R15.out (by kernel_rfl) rfl (by simp [Value.oneCell']) ?_)
   | fail)
  exact bodyPost_ret (results_fn rfl _ _ w.heap.size _ _ _ rfl (setRow_heap _ w.heap.size _ _ _ _ R15.out)) rfl (fn_end_neg GD.out hs11.out LD.out KD.out HN0.out HOO.out.symm HO.out HU.out HB.out.1 HB.out.2.1 HB.out.2.2 BS.out NA.out (SH.out ▸ OW.out) OX.out (SH.out ▸ GX.out) (SH.out ▸ AT.out) R14.out _ CAP.out)
 refine AllReadyH.cons rfl (fun K hK=>?_) AllReadyH.nil;go_simp;have na:=new_val wd (.cells #[.slice A acc.length ca,.int .i64 o,.slice A4 ls.length c4] 202);have NA:=hid na;have NW:=hid (heap_alloc_new wd (.cells #[.slice A acc.length ca,.int .i64 o,.slice A4 ls.length c4] 202));have R13:Hid (RdAt (wd.alloc (.cells #[.slice A acc.length ca,.int .i64 o,.slice A4 ls.length c4] 202)) b v4):=hid ((na.block b RD.out.lt).trans RD.out);refine hK.out _ _ (holdG hHeld na) (fun hHeld'=>?_);replace hHeld:=hHeld';clear hHeld';clear na;generalize wd.alloc (.cells #[.slice A acc.length ca,.int .i64 o,.slice A4 ls.length c4] 202)=w13 at hHeld NA NW R13 ⊢;have OW:=hid ((OSD.out.keepB (fun g _ h1 _=>NA.out.block g h1)));generalize wd.heap.size=gl at NW ⊢;clear hK K;try simp only [Act.put,pa,pb,pc,pd,pe,pf]
 refine wr1 4 (fun K hK=>?_);have ac:w13.cell? ⟨b,9,none⟩=some (.slice Ash us.length csh):=(R13.out.cell (i:=9) (u:=v4.shared) rfl).trans (by rw [SH4.out]);go_simp;clear ac;refine hK.out _ _ (hHeld) (fun hHeld'=>?_);replace hHeld:=hHeld';clear hHeld';clear hK K;try simp only [Act.put,pa,pb,pc,pd,pe,pf]
 refine wr1 7 (fun K hK=>?_);refine push_fn_step rfl (.tmp 52) (.tmp 54) rfl w13 base gl (.slice Ash us.length csh) us A A4 acc.length ls.length ca c4 o rfl (by rfl) OW.out NW.out (by have:=NA.out.size;have:=BSD.out;omega) UL.out ?_;intro v14 w14 hO hg hat;obtain⟨A14,n14,c14,rfl⟩:∃ A n c,v14 = .slice A n c:=by obtain⟨A,c,e⟩:=hO.form;exact⟨A,_,c,e⟩
 have OX:=hid hO;have GX:=hid hg;have AT:=hid hat;have R14:Hid (RdAt w14 b v4):=hid ((hg.block b (Array.getElem?_eq_some_iff.1 R13.out).1 (fun e=>by obtain⟨h1,_⟩:=OW.out.obj b e.symm;have:=HB.out.1;omega)).trans R13.out);refine hK.out _ _ (holdG_o hHeld hg (fun e=>by obtain⟨_,h1,_⟩:=OSw.out.obj _ e;have:=GW.out;omega) (by have:=NA.out.size;have:=GLT2.out;omega)) (fun hHeld'=>?_);replace hHeld:=hHeld';clear hHeld';clear hO hg hat;clear hK K;try simp only [Act.put,pa,pb,pc,pd,pe,pf]
 refine wt 8 ?r608;refine wt 9 ?r609;refine wr1 10 (fun K hK=>?_);have ac:w14.cell? ⟨b,9,none⟩=some v4.shared:=R14.out.cell (i:=9) rfl;have af:w14.frozen? ⟨b,9,none⟩=false:=frozen_of_row _ _ _ _ _ R14.out;go_simp;clear ac af;refine hK.out _ _ (holdG_s hHeld (by have:=GB.out;omega)) (fun hHeld'=>?_);replace hHeld:=hHeld';clear hHeld';clear hK K;try simp only [Act.put,pa,pb,pc,pd,pe,pf]
 refine wpAnyH_done (by kernel_rfl) ?_ _;refine NoPanic.normal ?_;obtain⟨k0,k1,k2⟩:=hHeld;have R15:=hid (fn_row GD.out OSw.out NA.out GX.out (.slice A14 n14 c14));go_wp2_with (first
  | ((with_reducible show wpList _ _ _ (Oper.mk none (.store 202 _ _) _ _ _ _::_) _ _);refine wpList_store_row rfl 202 (.tmp 2) (.tmp 58) rfl w.heap.size #[.slice A acc.length ca,.int .i64 o,.slice A4 ls.length c4] rfl rfl 202 #[.slice none 0 0,.int .i64 0,.slice none 0 0] R15.out (by kernel_rfl) rfl (by simp [Value.oneCell']) ?_)
  | fail)
 exact bodyPost_ret (results_fn rfl _ _ w.heap.size _ _ _ rfl (setRow_heap _ w.heap.size _ _ _ _ R15.out)) rfl (fn_end_neg GD.out hs11.out LD.out KD.out HN0.out HOO.out.symm HO.out HU.out HB.out.1 HB.out.2.1 HB.out.2.2 BS.out NA.out (SH.out ▸ OW.out) OX.out (SH.out ▸ GX.out) (SH.out ▸ AT.out) R14.out _ CAP.out)
end Go.Proofs.YtmokogkndbinlaaGreatDoor
