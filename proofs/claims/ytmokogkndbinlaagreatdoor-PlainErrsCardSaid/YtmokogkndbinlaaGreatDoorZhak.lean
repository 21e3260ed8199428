import Derived.Maps.AppendAt
import Derived.Test.YtmokogkndbinlaaGreatDoorZhaj
set_option linter.all false
namespace Go.Proofs.YtmokogkndbinlaaGreatDoor
open Go.Lib (hid)
theorem limS_k (is:Bool) (p:Nat) (s:RdS):(limS is p s).k=s.k:=by unfold limS;split <;> rfl
theorem limS_none {is:Bool}{p:Nat}{s:RdS}(h:(limS is p s).big=none):is=false∧s.big=none:=by
 unfold limS at h;split at h
 ·cases h
 rename_i hc;refine⟨?_,h⟩;rw [h] at hc;simpa using hc
theorem numM_k {l:List UInt8} {lo hi:Int}{s s':RdS}{v:Int × Nat}(hs:s.k≤l.length) (h:numM l lo hi s = .ok v s'):s.k < s'.k∧s'.k≤l.length∧s'.big=s.big∧lo≤v.1∧v.1≤hi:=by
 obtain⟨t,h1,h2,-,-,h5,h6⟩:=numM_ok.1 h;have hw:=stepW_word hs h1;have hk:s'.k=t:=by rw [h2]
 have hb:s'.big=s.big:=by rw [h2]
 exact⟨by omega,by omega,hb,h5,h6⟩
theorem scopeM_k {l:List UInt8} {nv:Nat}:∀ {n:Nat}{acc a:List Nat}{s t:RdS},s.k≤l.length→scopeM l nv n acc s = .ok a t→s.k+n≤t.k∧t.k≤l.length∧t.big=s.big
 | 0,acc,a,s,t,hs,h=>by cases h;exact⟨Nat.le_refl _,hs,rfl⟩
 | n+1,acc,a,s,t,hs,h=>by
  obtain⟨v,s1,h1,h2⟩:=bind_ok_iff.1 h;obtain⟨a1,a2,a3,-,-⟩:=numM_k hs h1;split at h2
  ·cases h2
  obtain⟨b1,b2,b3⟩:=scopeM_k a2 h2;exact⟨by omega,b2,b3.trans a3⟩
theorem tupleM_k {l:List UInt8} {sizes:List Nat}:∀ {sc acc a:List Nat}{s t:RdS},s.k≤l.length→tupleM l sizes sc acc s = .ok a t→s.k≤t.k∧t.k≤l.length∧t.big=s.big
 | [],acc,a,s,t,hs,h=>by cases h;exact⟨Nat.le_refl _,hs,rfl⟩
 | v::r,acc,a,s,t,hs,h=>by
  obtain⟨c,s1,h1,h2⟩:=bind_ok_iff.1 h;obtain⟨a1,a2,a3,-,-⟩:=numM_k hs h1;obtain⟨b1,b2,b3⟩:=tupleM_k a2 h2;exact⟨by omega,b2,b3.trans a3⟩
theorem linesM_k {l:List UInt8} {sizes sc:List Nat}:∀ {n:Nat}{acc a:List LineM}{s t:RdS},s.k≤l.length→linesM l sizes sc n acc s = .ok a t→s.k+n≤t.k∧t.k≤l.length∧t.big=s.big
 | 0,acc,a,s,t,hs,h=>by cases h;exact⟨Nat.le_refl _,hs,rfl⟩
 | n+1,acc,a,s,t,hs,h=>by
  obtain⟨x,s1,h1,h2⟩:=bind_ok_iff.1 h;obtain⟨c,s2,h3,h4⟩:=bind_ok_iff.1 h2;obtain⟨a1,a2,a3⟩:=tupleM_k hs h1;obtain⟨b1,b2,b3,-,-⟩:=numM_k a2 h3;split at h4
  ·cases h4
  obtain⟨c1,c2,c3⟩:=linesM_k b2 h4;exact⟨by omega,c2,c3.trans (b3.trans a3)⟩
theorem sizesM_k {l:List UInt8} {most:Int}:∀ {n:Nat}{acc a:List Nat}{s t:RdS},s.k≤l.length→sizesM l most n acc s = .ok a t→s.k+n≤t.k∧t.k≤l.length∧a.length=acc.length+n∧((∀ x∈acc,1≤x∧(x:Int)≤most)→∀ x∈a,1≤x∧(x:Int)≤most)∧(t.big=none→s.big=none∧((∀ x∈acc,x≤32)→∀ x∈a,x≤32))
 | 0,acc,a,s,t,hs,h=>by cases h;exact⟨Nat.le_refl _,hs,rfl,fun h=>h,fun h=>⟨h,fun h=>h⟩⟩
 | n+1,acc,a,s,t,hs,h=>by
  obtain⟨v,s1,h1,h2⟩:=bind_ok_iff.1 h;obtain⟨a1,a2,a3,a4,a5⟩:=numM_k hs h1;obtain⟨b1,b2,b3,b4,b5⟩:=sizesM_k (by rw [limS_k];exact a2) h2;rw [limS_k] at b1;refine⟨by omega,b2,by simp at b3;omega,fun hx=>b4 fun x hx'=>?_,fun hb=>?_⟩
  ·rcases List.mem_append.1 hx' with hx' | hx'
   ·exact hx x hx'
   simp at hx'
   omega
  obtain⟨c1,c2⟩:=b5 hb;obtain⟨d1,d2⟩:=limS_none c1;refine⟨a3 ▸ d2,fun hx=>c2 fun x hx'=>?_⟩;rcases List.mem_append.1 hx' with hx' | hx'
  ·exact hx x hx'
  simp at hx'
  have:=of_decide_eq_false d1;omega
structure AccOk (sizes:List Nat) (a:AccM) (s:RdS):Prop where
 told0:0≤a.told
 told1:a.told≤s.k
 funs:∀ f∈a.funs,FunOk sizes f
 shared:∀ f∈a.shared,FunOk sizes f
 few:a.funs.length≤s.k
 sfew:a.shared.length≤s.k
 far:∀ f∈a.shared,f.scope.length≤s.k
 sub:∀ f∈a.shared,f∈a.funs
 lfew:∀ f∈a.funs,f.lines.length≤s.k
def FunLim (sizes:List Nat) (f:FunM):Prop:=f.scope.length≤6∧cntM (pickN sizes f.scope) 1≤4096
theorem AccOk.start (sizes:List Nat) (s:RdS):AccOk sizes ⟨[],[],0⟩ s :=
 ⟨Int.le_refl _,Int.natCast_nonneg _,fun f h=>absurd h (by simp),fun f h=>absurd h (by simp),Nat.zero_le _,Nat.zero_le _,fun f h=>absurd h (by simp),fun f h=>absurd h (by simp),fun f h=>absurd h (by simp)⟩
theorem linesOk_nil (ts:List Nat):LinesOk ts []:=⟨fun y h=>absurd h (by simp),fun y h=>absurd h (by simp),fun y h=>absurd h (by simp),List.Pairwise.nil⟩
theorem funLines_ok {l:List UInt8} {sizes sc:List Nat}{a:AccM}{s t:RdS}{r:List LineM × Int}(ha:AccOk sizes a s) (hs:s.k≤l.length) (h:funLines l sizes sc a s = .ok r t) :
  LinesOk (pickN sizes sc) r.1∧r.1.length≤t.k∧s.k < t.k∧t.k≤l.length∧0≤r.2∧r.2≤t.k∧(t.big=none→s.big=none∧(a.told≤16384→r.2≤16384)):=by
 obtain⟨m,s1,h1,h2⟩:=bind_ok_iff.1 h;obtain⟨a1,a2,a3,a4,a5⟩:=numM_k hs h1;have t0:=ha.told0;have t1:=ha.told1;split at h2
 ·split at h2
  ·rename_i g hg
   split at h2
   ·rename_i hp
    cases h2;have:=(ha.shared g (List.mem_of_getElem? hg)).lines;rw [hp] at this;exact⟨this,by have:=ha.lfew g (ha.sub g (List.mem_of_getElem? hg));show g.lines.length≤_;omega,a1,a2,t0,by show a.told≤_;omega,fun hb=>⟨a3 ▸ hb,fun h=>h⟩⟩
   cases h2
  cases h2
 rename_i hm;obtain⟨ls,s2,h3,h4⟩:=bind_ok_iff.1 h2;cases h4;obtain⟨b1,b2,b3⟩:=linesM_k (by rw [limS_k];exact a2) h3;rw [limS_k] at b1;obtain⟨c1,c2⟩:=linesM_ok h3 (linesOk_nil _);refine⟨c1,by show ls.length≤_;simp at c2;omega,by omega,b2,by show 0≤a.told+m.1;omega,by show a.told+m.1≤_;omega,fun hb=>?_⟩;rw [b3] at hb;obtain⟨d1,d2⟩:=limS_none hb;have:=of_decide_eq_false d1;exact⟨a3 ▸ d2,fun _=>by show a.told+m.1≤_;omega⟩
theorem funM_ok {l:List UInt8} {sizes:List Nat}{a a':AccM}{s t:RdS}(ha:AccOk sizes a s) (hs:s.k≤l.length) (h:funM l sizes a s = .ok a' t) :
  AccOk sizes a' t∧s.k < t.k∧t.k≤l.length∧a'.funs.length=a.funs.length+1∧(t.big=none→s.big=none∧((∀ f∈a.funs,FunLim sizes f)→∀ f∈a'.funs,FunLim sizes f)∧(a.told≤16384→a'.told≤16384)):=by
 obtain⟨ar,s1,h1,h⟩:=bind_ok_iff.1 h;obtain⟨sc,s2,h2,h⟩:=bind_ok_iff.1 h;obtain⟨o,s3,h3,h⟩:=bind_ok_iff.1 h;obtain⟨ls,s4,h4,h⟩:=bind_ok_iff.1 h;obtain⟨a1,a2,a3,a4,a5⟩:=numM_k hs h1;obtain⟨b1,b2,b3⟩:=scopeM_k a2 h2;obtain⟨b4,b5,b6⟩:=scopeM_ok h2 (fun v hv=>absurd hv (by simp)) List.Pairwise.nil;obtain⟨c1,c2,c3,c4,c5⟩:=numM_k (by rw [limS_k];exact b2) h3;rw [limS_k] at c1;have t1:=ha.told1;have hac:AccOk sizes a s3:=⟨ha.told0,by omega,ha.funs,ha.shared,by have:=ha.few;omega,by have:=ha.sfew;omega,fun f hf=>by have:=ha.far f hf;omega,ha.sub,fun f hf=>by have:=ha.lfew f hf;omega⟩
 obtain⟨d1,d0,d2,d3,d4,d5,d6⟩:=funLines_ok hac c2 h4;have hb6:sc.length=ar.1.natAbs:=by simpa using b6
 have hfn:FunOk sizes ⟨sc,o.1,ls.1⟩:=⟨b4,b5,⟨c4,c5⟩,d1⟩
 have hmem:∀ {fs:List FunM}{P:FunM→Prop},(∀ f∈fs,P f)→P ⟨sc,o.1,ls.1⟩→∀ f∈fs++[⟨sc,o.1,ls.1⟩],P f:=fun h1 h2 f hf=>by
  rcases List.mem_append.1 hf with hf | hf
  ·exact h1 f hf
  simp at hf;subst hf;exact h2
 simp only [RdR.ok.injEq] at h;obtain⟨rfl,rfl⟩:=h;refine⟨⟨d4,d5,hmem ha.funs hfn,?_,?_,?_,?_,?_,hmem (fun f hf=>by have:=ha.lfew f hf;omega) d0⟩,by omega,d3,by simp,fun hb=>?_⟩
 ·show ∀ f∈(if ar.1 < 0 then a.shared++[_] else a.shared),_
  split
  ·exact hmem ha.shared hfn
  exact ha.shared
 ·have:=ha.few
  simp
  omega
 ·have:=ha.sfew
  show (if ar.1 < 0 then a.shared++[_] else a.shared).length≤_;split
  ·simp;omega
  omega
 ·show ∀ f∈(if ar.1 < 0 then a.shared++[_] else a.shared),_
  have h0:∀ f∈a.shared,f.scope.length≤s4.k:=fun f hf=>by have:=ha.far f hf;omega
  split
  ·exact hmem h0 (by show sc.length≤_;omega)
  exact h0
 ·show ∀ f∈(if ar.1 < 0 then a.shared++[_] else a.shared),_
  have h0:∀ f∈a.shared,f∈a.funs++[⟨sc,o.1,ls.1⟩]:=fun f hf=>List.mem_append_left _ (ha.sub f hf);split
  ·exact hmem h0 (by simp)
  exact h0
 obtain⟨e1,e2⟩:=d6 hb;rw [c3] at e1;obtain⟨f1,f2⟩:=limS_none e1;simp only [Bool.or_eq_false_iff,decide_eq_false_iff_not] at f1;refine⟨a3 ▸ b3 ▸ f2,fun hf=>hmem hf ⟨by show sc.length≤6;omega,Nat.le_of_not_lt f1.2⟩,e2⟩
theorem funsM_ok {l:List UInt8} {sizes:List Nat}:∀ {n:Nat}{a a':AccM}{s t:RdS},AccOk sizes a s→s.k≤l.length→funsM l sizes n a s = .ok a' t →
  AccOk sizes a' t∧s.k+n≤t.k∧t.k≤l.length∧a'.funs.length=a.funs.length+n∧(t.big=none→s.big=none∧((∀ f∈a.funs,FunLim sizes f)→∀ f∈a'.funs,FunLim sizes f)∧(a.told≤16384→a'.told≤16384))
 | 0,a,a',s,t,ha,hs,h=>by cases h;exact⟨ha,Nat.le_refl _,hs,rfl,fun h=>⟨h,fun h=>h,fun h=>h⟩⟩
 | n+1,a,a',s,t,ha,hs,h=>by
  obtain⟨a1,s1,h1,h2⟩:=bind_ok_iff.1 h;obtain⟨b1,b2,b3,b4,b5⟩:=funM_ok ha hs h1;obtain⟨c1,c2,c3,c4,c5⟩:=funsM_ok b1 b3 h2;refine⟨c1,by omega,c3,by omega,fun hb=>?_⟩;obtain⟨d1,d2,d3⟩:=c5 hb;obtain⟨e1,e2,e3⟩:=b5 d1;exact⟨e1,fun h=>d2 (e2 h),fun h=>d3 (e3 h)⟩
structure FileOk (l:List UInt8) (f:FileM):Prop where
 name:f.name.1 < f.name.2∧f.name.2≤l.length
 long:f.name.2 - f.name.1≤64
 top:1≤f.top∧f.top≤2147483648
 sizes:∀ x∈f.sizes,1≤x∧x≤32
 n:1≤f.sizes.length∧f.sizes.length≤64
 nf:f.funs.length≤256
 funs:∀ g∈f.funs,FunOk f.sizes g∧FunLim f.sizes g
 lfew:∀ g∈f.funs,g.lines.length≤l.length
theorem fileM_ok {l:List UInt8} {lo:Int}{f:FileM}{s:RdS}(h:fileM l lo = .ok f s) (hb:s.big=none):FileOk l f∧s.k≤l.length:=by
 unfold fileM at h;obtain⟨w,s1,h1,h⟩:=bind_ok_iff.1 h;obtain⟨n,s2,h2,h⟩:=bind_ok_iff.1 h;obtain⟨g,s3,h3,h⟩:=bind_ok_iff.1 h;obtain⟨c,s4,h4,h⟩:=bind_ok_iff.1 h;obtain⟨k,s5,h5,h⟩:=bind_ok_iff.1 h;obtain⟨sz,s6,h6,h⟩:=bind_ok_iff.1 h;obtain⟨a,s7,h7,h⟩:=bind_ok_iff.1 h;obtain⟨w1,w2⟩:=wordM_ok.1 h1;have hw:=stepW_word (l:=l) (k:=0) (Nat.zero_le _) w1;have hk1:s1.k=w.2:=by rw [w2]
 have hb1:s1.big=none:=by rw [w2]
 obtain⟨a1,a2,a3,a4,a5⟩:=numM_k (by rw [limS_k,hk1];omega) h2;rw [limS_k] at a1;obtain⟨b1,b2,b3,b4,b5⟩:=numM_k (by rw [limS_k];exact a2) h3;obtain⟨c1,c2,c3,c4,c5⟩:=numM_k b2 h4;obtain⟨d1,d2,d3,d4,d5⟩:=numM_k (by rw [limS_k];exact c2) h5;obtain⟨e1,e2,e3,e4,e5⟩:=sizesM_k (by rw [limS_k];exact d2) h6;obtain⟨f1,f2,f3,f4,f5⟩:=funsM_ok (AccOk.start sz s6) e2 h7;split at h
 ·cases h
 ·cases h
 cases h;obtain⟨g1,g2,g3⟩:=f5 hb;obtain⟨i1,i2⟩:=e5 g1;obtain⟨j1,j2⟩:=limS_none i1;rw [d3] at j2;obtain⟨k1,k2⟩:=limS_none j2;rw [c3,b3] at k2;obtain⟨m1,m2⟩:=limS_none k2;rw [a3] at m2;obtain⟨n1,n2⟩:=limS_none m2;have q1:=of_decide_eq_false j1;have q2:=of_decide_eq_false k1;have q3:=of_decide_eq_false m1;have q4:=of_decide_eq_false n1;refine⟨⟨⟨by show w.1 < w.2;omega,by show w.2≤_;omega⟩,by show w.2 - w.1≤64;omega,⟨d4,by show k.1≤_;omega⟩,fun x hx=>⟨(e4 (fun x h=>absurd h (by simp)) x hx).1,i2 (fun x h=>absurd h (by simp)) x hx⟩,?_,?_,fun g hg=>⟨f1.funs g hg,g2 (fun x h=>absurd h (by simp)) g hg⟩,fun g hg=>by have:=f1.lfew g hg;omega⟩,f3⟩
 ·show 1≤sz.length∧sz.length≤64
  simp at e3
  omega
 show a.funs.length≤256;simp at f4
 omega
end Go.Proofs.YtmokogkndbinlaaGreatDoor
namespace Go.Proofs.YtmokogkndbinlaaGreatDoor
open Go.RowKit
structure RdNear (v v':RdV):Prop where
 same:RdSame v v'
 told:v'.told=v.told
theorem RdNear.refl (v:RdV):RdNear v v:=⟨RdSame.refl v,rfl⟩
theorem RdNear.trans {v v' v'':RdV}(h:RdNear v v') (k:RdNear v' v''):RdNear v v'':=⟨h.same.trans k.same,k.told.trans h.told⟩
theorem RdNear.fault (v:RdV) (p e:Int):RdNear v { v with fp:=p,fe:=e }:=⟨⟨rfl,rfl,rfl,rfl,rfl,rfl⟩,rfl⟩
theorem RdNear.lim (v:RdV) (is:Bool) (p:Int):RdNear v (limV is p v):=⟨RdSame.lim v is p,limV_told v is p⟩
def RdIn {β:Type}(W:World) (b sc:Nat) (s:ByteArray) (v v':RdV) (E:RdR β) (C:RdS→RdR β):Prop :=
 RdNear v v'∧((∃ st,RdOk W b sc s st v'∧E=C st)∨∃ e p,RdBad W b e p v'∧E = .bad e p)
theorem RdIn.at_ {β:Type}{W:World}{b sc:Nat}{s:ByteArray}{v v':RdV}{E:RdR β} {C:RdS→RdR β} (h:RdIn W b sc s v v' E C):RdAt W b v':=by
 rcases h.2 with ⟨st,h,_⟩ | ⟨e,p,h,_⟩
 ·exact h.at_
 exact h.at_
theorem RdIn.below {β:Type}{W W':World}{b sc:Nat}{s:ByteArray}{v v':RdV}{E:RdR β} {C:RdS→RdR β} (h:RdIn W b sc s v v' E C) (hb:Below W.heap.size W W'):RdIn W' b sc s v v' E C:=by
 refine⟨h.1,?_⟩;rcases h.2 with ⟨st,h,hE⟩ | ⟨e,p,h,hE⟩
 ·exact .inl ⟨st,h.below hb,hE⟩
 exact .inr ⟨e,p,h.below hb,hE⟩
theorem numIn {β:Type}{W:World}{b sc:Nat}{s:ByteArray}{v v':RdV}{E:RdR β} {lo hi:Int}{C:Int × Nat→RdS→RdR β} (h:RdIn W b sc s v v' E (fun st=>(numM s.data.toList lo hi st).bind C)) :
  Calls Tryz.prog 134 #[.pointer (some ⟨b,0,none⟩),.int .i64 lo,.int .i64 hi] W fun e w'=>∃ n p v'',e = .returned (.tuple #[.int .i64 n,.int .i64 ((p:Nat):Int)])∧((lo≤n∧n≤hi)∨n=0)∧RK W b sc w'∧RdIn w' b sc s v v'' E (C (n,p)):=by
 obtain⟨hn,⟨st,ho,hE⟩ | ⟨e,p,hb,hE⟩⟩:=h;rotate_left
 ·refine (numR_still b e p v' lo hi W hb).mono ?_
  rintro e' w' ⟨rfl,hk,hb'⟩;exact⟨0,p,v',rfl,.inr rfl,RK.below hk,hn,.inr ⟨e,p,hb',hE⟩⟩
 dsimp only at hE;cases hq:numM s.data.toList lo hi st with
 | ok np st' =>
  obtain⟨n,p⟩:=np;obtain⟨_,_,_,_,_,h5,h6⟩:=numM_ok.1 hq;refine (numR_ok b sc s st st' v' lo hi n p W ho hq).mono ?_;rintro e w' ⟨rfl,hk,ho'⟩;exact⟨n,p,v',rfl,.inl ⟨h5,h6⟩,hk,hn,.inl ⟨st',ho',by rw [hE,hq];rfl⟩⟩
 | bad e p =>
  refine (numR_bad b sc s st v' lo hi e p W ho hq).mono ?_;rintro e' w' ⟨rfl,hk,hb⟩;exact⟨0,p,_,rfl,.inr rfl,hk,hn.trans (RdNear.fault _ _ _),.inr ⟨e,p,hb,by rw [hE,hq];rfl⟩⟩
theorem costIn {β:Type}{W:World}{b sc:Nat}{s:ByteArray}{v v':RdV}{E:RdR β} {C:Int × Nat→RdS→RdR β} (h:RdIn W b sc s v v' E (fun st=>(numM s.data.toList 0 farZ st).bind C)) :
  Calls Tryz.prog 170 #[.pointer (some ⟨b,0,none⟩)] W fun e w'=>∃ n p v'',e = .returned (.tuple #[.int .i64 (min n v.top),.int .i64 ((p:Nat):Int)])∧RK W b sc w'∧RdIn w' b sc s v v'' E (C (n,p)):=by
 obtain⟨hn,⟨st,ho,hE⟩ | ⟨e,p,hb,hE⟩⟩:=h;rotate_left
 ·refine (costR_still b e p v' W hb).mono ?_
  rintro e' w' ⟨rfl,hk,hb'⟩;exact⟨0,p,v',by rw [hn.same.top],RK.below hk,hn,.inr ⟨e,p,hb',hE⟩⟩
 dsimp only at hE;cases hq:numM s.data.toList 0 farZ st with
 | ok np st' =>
  obtain⟨n,p⟩:=np;refine (costR_ok b sc s st st' v' n p W ho hq).mono ?_;rintro e w' ⟨rfl,hk,ho'⟩;exact⟨n,p,v',by rw [hn.same.top],hk,hn,.inl ⟨st',ho',by rw [hE,hq];rfl⟩⟩
 | bad e p =>
  refine (costR_bad b sc s st v' e p W ho hq).mono ?_;rintro e' w' ⟨rfl,hk,hb⟩;exact⟨0,p,_,by rw [hn.same.top],hk,hn.trans (RdNear.fault _ _ _),.inr ⟨e,p,hb,by rw [hE,hq];rfl⟩⟩
theorem limIn {β:Type}{W:World}{b sc:Nat}{s:ByteArray}{v v':RdV}{E:RdR β} {n m:Int}{p:Nat}{C:RdS→RdR β} (h:RdIn W b sc s v v' E (fun st=>C (limS (decide (m < n)) p st))) :
  Calls Tryz.prog 133 #[.pointer (some ⟨b,0,none⟩),.int .i64 n,.int .i64 m,.int .i64 (p:Int)] W fun e w'=>∃ v'',(∃ u,e = .returned u)∧W.grownBy w' (some b)∧RdIn w' b sc s v v'' E C:=by
 refine (limit_any b n m p v' W h.at_).mono ?_;rintro e w' ⟨hu,ha,hg⟩;refine⟨limV (decide (m < n)) (p:Int) v',hu,hg,h.1.trans (RdNear.lim _ _ _),?_⟩;rcases h.2 with ⟨st,ho,hE⟩ | ⟨e,q,hb,hE⟩
 ·exact .inl ⟨_,ho.lim ha hg,hE⟩
 exact .inr ⟨e,q,hb.lim ha hg,hE⟩
theorem wordIn {β:Type}{W:World}{b sc:Nat}{s:ByteArray}{v v':RdV}{E:RdR β} {C:Nat × Nat→RdS→RdR β} (h:RdIn W b sc s v v' E (fun st=>(wordM s.data.toList st).bind C)) :
  Calls Tryz.prog 131 #[.pointer (some ⟨b,0,none⟩)] W fun e w'=>∃ f t v'',e = .returned (.tuple #[.string (s.extract f t),.int .i64 ((f:Nat):Int)])∧f≤t∧(s.extract f t).size=t - f∧t - f≤100000∧RK W b sc w'∧RdIn w' b sc s v v'' E (C (f,t)):=by
 obtain⟨hn,⟨st,ho,hE⟩ | ⟨e,p,hb,hE⟩⟩:=h;rotate_left
 ·refine (wordR_still b e p v' W hb).mono ?_
  rintro e' w' ⟨rfl,n,rfl⟩;have hB:Below W.heap.size W (W.drewN n):=below_drewN (Below.refl _ _) n;exact⟨p,p,v',by rw [extract_none],by omega,by rw [ByteArray.size_extract];omega,by omega,RK.below hB,hn,.inr ⟨e,p,hb.below hB,hE⟩⟩
 dsimp only at hE;cases hq:stepW s.data.toList st.k with
 | word f t =>
  obtain⟨h1,h2,h3,-,-⟩:=stepW_word (by rw [size_list];exact ho.le) hq;rw [size_list] at h3;refine (wordR_ok b sc s st v' f t W ho hq).mono ?_;rintro e w' ⟨rfl,hk,ho'⟩;exact⟨f,t,v',rfl,by omega,by rw [ByteArray.size_extract];omega,by have:=ho.fits;omega,hk,hn,.inl ⟨_,ho',by rw [hE];unfold wordM;rw [hq];rfl⟩⟩
 | none =>
  refine (wordR_none b sc s st v' W ho hq).mono ?_;rintro e w' ⟨rfl,hk,hb⟩;exact⟨s.size,s.size,_,by rw [extract_none],by omega,by rw [ByteArray.size_extract];omega,by omega,hk,hn.trans (RdNear.fault _ _ _),.inr ⟨4,s.size,hb,by rw [hE];unfold wordM;rw [hq];simp only [RdR.bind_bad];rw [size_list]⟩⟩
 | bad t =>
  refine (wordR_bad b sc s st v' t W ho hq).mono ?_;rintro e w' ⟨rfl,hk,hb⟩;exact⟨t,t,_,by rw [extract_none],by omega,by rw [ByteArray.size_extract];omega,by omega,hk,hn.trans (RdNear.fault _ _ _),.inr ⟨11,t,hb,by rw [hE];unfold wordM;rw [hq];rfl⟩⟩
theorem endIn {W:World}{b sc:Nat}{s:ByteArray}{v v':RdV} {α:Type}{E:RdR α} {a:α} (h:RdIn W b sc s v v' E (fun st=>match stepW s.data.toList st.k with
     | .word f _=>.bad 4 f
     | .bad b=>.bad 11 b
     | .none=>.ok a st)) :
  Calls Tryz.prog 136 #[.pointer (some ⟨b,0,none⟩)] W fun e w'=>∃ v'',(∃ u,e = .returned u)∧RK W b sc w'∧RdIn w' b sc s v v'' E (fun st=>.ok a st):=by
 obtain⟨hn,⟨st,ho,hE⟩ | ⟨e,p,hb,hE⟩⟩:=h;rotate_left
 ·refine (endR_still b e p v' W hb).mono ?_
  rintro e' w' ⟨hu,rfl⟩;exact⟨v',hu,RK.refl _ _ _,hn,.inr ⟨e,p,hb,hE⟩⟩
 dsimp only at hE;cases hq:stepW s.data.toList st.k with
 | word f t =>
  refine (endR_word b sc s st v' f t W ho hq).mono ?_;rintro e w' ⟨hu,hk,hb⟩;exact⟨_,hu,hk,hn.trans (RdNear.fault _ _ _),.inr ⟨4,f,hb,by rw [hE,hq]⟩⟩
 | none =>
  refine (endR_none b sc s st v' W ho hq).mono ?_;rintro e w' ⟨hu,hk,ho'⟩;exact⟨v',hu,hk,hn,.inl ⟨st,ho',by rw [hE,hq]⟩⟩
 | bad t =>
  refine (endR_bad b sc s st v' t W ho hq).mono ?_;rintro e w' ⟨hu,hk,hb⟩;exact⟨_,hu,hk,hn.trans (RdNear.fault _ _ _),.inr ⟨11,t,hb,by rw [hE,hq]⟩⟩
set_option maxRecDepth 100000 in
set_option maxHeartbeats 1000000 in
theorem scopeR_still (b ar e p:Nat) (v:RdV) (w:World) (h:RdBad w b e p v) (har:ar≤4611686018427387904) :
  Calls Tryz.prog 169 #[.pointer (some ⟨b,0,none⟩),.int .i64 (ar:Int)] w fun e' w'=>e' = .returned (.slice none 0 0)∧w=w':=by
 have RT:=hid (right_at b 1 (e:Int) w h.fault);have d:((e:Int) == 0)=false:=by have:=h.ne;simpa using this
 rw [d] at RT;clear h d;go_enter Tryz.func169,Tryz.ntmps169
 go_wp2_with fail
 go_loopw [5,6,7,8] (fun val i _ _ wr=>∃ j:Nat,val = .slice none 0 0∧i = .int .i64 (j:Int)∧j≤4611686018427387904∧wr=w) (fun _ _ _ _ _=>0)
 case atStart=>exact⟨0,rfl,rfl,by omega,rfl⟩
 case round =>
  obtain⟨j,rfl,rfl,hj,rfl⟩:=hrel;by_cases hlt:j < ar
  ·have d1:decide ((j:Int) < (ar:Int))=true:=decide_eq_true (by omega)
   go_wp2_with (first | (go_at_call 75;refine RT.out.mono ?_;rintro e w' ⟨rfl,rfl⟩) | fail)
   go_ret;exact⟨rfl,rfl⟩
  have d1:decide ((j:Int) < (ar:Int))=false:=decide_eq_false (by omega);go_wp2_with fail
  go_ret;exact⟨rfl,rfl⟩
theorem scopeIn {β:Type}{W:World}{b sc nv cs ar:Nat}{As:Option Addr}{s:ByteArray}{v v':RdV}{E:RdR β} {C:List Nat→RdS→RdR β} (har:ar≤4611686018427387904) (hnv:nv≤100000) (hv:v.sizes = .slice As nv cs) (h:RdIn W b sc s v v' E (fun st=>(scopeM s.data.toList nv ar [] st).bind C)) :
  Calls Tryz.prog 169 #[.pointer (some ⟨b,0,none⟩),.int .i64 (ar:Int)] W fun e w'=>∃ val acc v'',e = .returned val∧Own w' W.heap.size val acc∧RK W b sc w'∧AccIn nv ar acc∧RdIn w' b sc s v v'' E (C acc)∧(acc.length=ar∨∃ e p,RdBad w' b e p v''∧E = .bad e p):=by
 obtain⟨hn,⟨st,ho,hE⟩ | ⟨e,p,hb,hE⟩⟩:=h;rotate_left
 ·refine (scopeR_still b ar e p v' W hb har).mono ?_
  rintro e' w' ⟨rfl,rfl⟩;exact⟨_,[],v',rfl,own_nil _ _,RK.refl _ _ _,⟨fun _ _ h=>absurd h (by simp),by decide,Nat.zero_le _⟩,⟨hn,.inr ⟨e,p,hb,hE⟩⟩,.inr ⟨e,p,hb,hE⟩⟩
 dsimp only at hE;refine (scopeR b sc nv cs ar As s st v' W har hnv ho (hn.same.sizes.trans hv)).mono ?_;rintro e w' ⟨val,acc,rfl,hO,hk,hA,hI⟩;cases hq:scopeM s.data.toList nv ar [] st with
 | ok x st' =>
  rw [hq] at hI;obtain⟨rfl,hI⟩:=hI;exact⟨val,x,v',rfl,hO,hk,hA,⟨hn,.inl ⟨st',hI,by rw [hE,hq];rfl⟩⟩,.inl (by simpa using (scopeM_ok hq (fun v hv=>absurd hv (by simp)) List.Pairwise.nil).2.2)⟩
 | bad e p =>
  rw [hq] at hI;have hE':E = .bad e p:=by rw [hE,hq];rfl
  exact⟨val,acc,_,rfl,hO,hk,hA,⟨hn.trans (RdNear.fault _ _ _),.inr ⟨e,p,hI,hE'⟩⟩,.inr ⟨e,p,hI,hE'⟩⟩
theorem linesIn {β:Type}{W:World}{b sc cs cc csh:Nat}{As Ac Ash:Option Addr}{sizes scope:List Nat}{fs shared:List FunM}{s:ByteArray}{v v':RdV}{E:RdR β} {C:List LineM × Int→RdS→RdR β} (hnv:sizes.length≤100000) (hsm:∀ x∈sizes,x≤4611686018427387904) (hlen:scope.length≤100001) (hin:∀ x∈scope,x < sizes.length)
  (hv:v.sizes = .slice As sizes.length cs) (hsh:v.shared = .slice Ash shared.length csh) (hS:IntsK W b sc As sizes) (hC:IntsK W b sc Ac scope) (hT:TabK W b sc) (ht0:0≤v.told) (ht1:v.told≤100000)
  (hF:FunsK W b sc Ash (shared.map (topF v.top))) (hfs:∀ f∈shared,f.scope.length≤100001∧∀ x∈f.scope,x < sizes.length)
  (h:RdIn W b sc s v v' E (fun st=>(funLines s.data.toList sizes scope ⟨fs,shared,v.told⟩ st).bind C)) :
  Calls Tryz.prog 171 #[.pointer (some ⟨b,0,none⟩),.slice Ac scope.length cc] W fun e w'=>∃ A c ls v'',e = .returned (.slice A ls.length c)∧LinesK w' b sc A ls∧RK W b sc w'∧RdSame v v'' ∧
   ((∃ a st',ls=topL v.top a.1∧v''.told=a.2∧RdOk w' b sc s st' v''∧E=C a st')∨∃ e p,RdBad w' b e p v''∧E = .bad e p):=by
 obtain⟨hn,⟨st,ho,hE⟩ | ⟨e,p,hb,hE⟩⟩:=h;rotate_left
 ·refine (linesR_bad b sc e p v' W Ac scope.length cc ((numR_still b e p v' _ _ W hb).mono fun e w' hh=>⟨hh.1,RK.below hh.2.1,hh.2.2⟩) (by rw [hn.told];exact ht0) (by rw [hn.told];omega)).mono ?_
  rintro e' w' ⟨rfl,hk,v'',hs,ht,hb'⟩;exact⟨none,0,[],v'',rfl,.inl rfl,hk,hn.same.trans hs,.inr ⟨e,p,hb',hE⟩⟩
 dsimp only at hE;refine (linesR b sc cs cc csh As Ac Ash sizes scope fs shared s st v' W hnv hsm hlen hin ho (hn.same.sizes.trans hv) (hn.same.shared.trans hsh) hS hC hT (by rw [hn.told];exact ht0) (by rw [hn.told];exact ht1) (by rw [hn.same.top];exact hF) hfs).mono ?_;rintro e w' ⟨A,c,ls,v'',rfl,hl,hk,hs,hR⟩;rw [hn.told] at hR;refine⟨A,c,ls,v'',rfl,hl,hk,hn.same.trans hs,?_⟩;cases hq:funLines s.data.toList sizes scope ⟨fs,shared,v.told⟩ st with
 | ok a st' =>
  rw [hq] at hR;obtain⟨h1,h2,h3⟩:=hR;exact .inl ⟨a,st',by rw [h1,hn.same.top],h2,h3,by rw [hE,hq];rfl⟩
 | bad e p =>
  rw [hq] at hR;exact .inr ⟨e,p,hR,by rw [hE,hq];rfl⟩
end Go.Proofs.YtmokogkndbinlaaGreatDoor
namespace Go.Proofs.YtmokogkndbinlaaGreatDoor
open Go.RowKit
def fnC (vs:List (Value × Int × Value)):List Value:=vs.flatMap fun x=>[x.1,.int .i64 x.2.1,x.2.2]
theorem fnC_snoc (vs:List (Value × Int × Value)) (x:Value × Int × Value):fnC (vs++[x])=fnC vs++[x.1,.int .i64 x.2.1,x.2.2]:=by simp [fnC,List.flatMap_append]
theorem fnC_at:∀ (vs:List (Value × Int × Value)) (i:Nat) (x:Value × Int × Value),vs[i]? = some x→(fnC vs)[i * 3]? = some x.1∧(fnC vs)[i * 3+1]? = some (.int .i64 x.2.1)∧(fnC vs)[i * 3+2]? = some x.2.2
 | [],i,x,h=>by simp at h
 | y::r,0,x,h=>by
  simp at h
  subst h;exact⟨rfl,rfl,rfl⟩
 | y::r,i+1,x,h=>by
  have:=fnC_at r i x (by simpa using h);have e:fnC (y::r)=y.1::.int .i64 y.2.1::y.2.2::fnC r:=rfl;rw [e,show (i+1) * 3=i * 3+1+1+1 by omega];exact this
def OwnFn (W:World) (base:Nat) (v:Value) (vs:List (Value × Int × Value)):Prop:=W.ownsRow base 202 3 v vs.length (fnC vs)
theorem ownFn_nil (W:World) (base:Nat):OwnFn W base (.slice none 0 0) []:=World.ownsRow_nil W base 202 3
theorem OwnFn.keepB {w w':World}{base:Nat}{v:Value}{l:List (Value × Int × Value)} (h:OwnFn w base v l) (hk:∀ g,v.ownBlock=some g→g < w.heap.size→base≤g→w'.heap[g]? = w.heap[g]?):OwnFn w' base v l:=by
 obtain⟨h1,⟨rfl,hn⟩ | ⟨g,cap,cur,rfl,hb',hh,hm,hx,hs,ht⟩⟩:=h
 ·exact⟨h1,.inl ⟨rfl,hn⟩⟩
 exact⟨h1,.inr ⟨g,cap,cur,rfl,hb',(hk g rfl (Array.getElem?_eq_some_iff.1 hh).1 hb').trans hh,hm,hx,hs,ht⟩⟩
theorem OwnFn.rk {w w':World}{p q base:Nat}{v:Value}{l:List (Value × Int × Value)} (h:OwnFn w base v l) (hk:RK w p q w') (hp:p < base) (hq:q < base):OwnFn w' base v l :=
 h.keepB fun g _ h1 h2=>hk.block g h1 (by omega) (by omega)
theorem OwnFn.obj {W:World}{base:Nat}{v:Value}{vs:List (Value × Int × Value)} (h:OwnFn W base v vs):∀ g,v.ownBlock=some g→base≤g∧g < W.heap.size∧∃ cur,W.heap[g]? = some (.cells cur 202 (0,0)):=by
 intro g hg;obtain⟨_,⟨rfl,hn⟩ | ⟨g',cap,cur,rfl,hb,hh,_⟩⟩:=h
 ·simp [Value.ownBlock] at hg
 simp [Value.ownBlock] at hg
 subst hg;exact⟨hb,(Array.getElem?_eq_some_iff.1 hh).1,cur,hh⟩
theorem OwnFn.form {W:World}{base:Nat}{v:Value}{vs:List (Value × Int × Value)} (h:OwnFn W base v vs):∃ A c,v = .slice A vs.length c:=by
 obtain⟨_,⟨rfl,hn⟩ | ⟨g',cap,cur,rfl,hb,hh,_⟩⟩:=h
 ·exact⟨none,0,by rw [hn]⟩
 exact⟨_,_,rfl⟩
theorem info_fn:(Tryz.prog.info? 202).map (fun i=>(i.zero,i.size,i.bytes))=some (some (.agg #[.slice none 0 0,.int .i64 0,.slice none 0 0]),3,56):=by kernel_rfl
theorem fn_cells {W:World}{y:Int}{sv lv:Value}{g:Nat}(h:W.heap[g]? = some (.cells #[sv,.int .i64 y,lv] 202 (0,0))):∀ j u,([sv,Value.int .i64 y,lv]:List Value)[j]? = some u→W.cell? ((⟨g,0,none⟩:Addr).add j)=some u:=by
 intro j u hj;rcases j with _ | _ | _ | j
 ·simp at hj
  subst hj;show W.cell? ⟨g,0,none⟩=_;rw [cell_of_row _ _ _ _ _ _ h];rfl
 ·simp at hj
  subst hj;show W.cell? ⟨g,1,none⟩=_;rw [cell_of_row _ _ _ _ _ _ h];rfl
 ·simp at hj
  subst hj;show W.cell? ⟨g,2,none⟩=_;rw [cell_of_row _ _ _ _ _ _ h];rfl
 simp at hj
theorem push_fn_wp {o:Oper}{a:Act}{K:Act→World→Prop}{Q:Exit→Act→World→Prop}(sl x:Operand)
  (ho:o.op = .call { callee:=.builtin .append,args:=#[sl,x],argTypes:=#[123,123] })
  (W:World) (base g:Nat) (v:Value) (vs:List (Value × Int × Value)) (A A':Option Addr) (n n' c c':Nat) (y:Int) (hs:a.eval sl=v) (hx:a.eval x = .slice (some ⟨g,0,none⟩) 1 1)
  (hown:OwnFn W base v vs) (hc:W.heap[g]? = some (.cells #[.slice A n c,.int .i64 y,.slice A' n' c'] 202 (0,0))) (hbase:base≤W.heap.size) (hl:vs.length≤1000000)
  (h:∀ v' w',OwnFn w' base v' (vs++[(.slice A n c,y,.slice A' n' c')])→W.grownBy w' v.ownBlock→(v'.ownBlock=v.ownBlock∨v'.ownBlock=some W.heap.size)→K (a.put o.dst v') w') :
  o.wp Tryz.prog a W K Q:=by
 obtain⟨i0,hi,hz0,hz1,hz2⟩:=info_parts info_fn;obtain⟨v',w',hr,h2,h3,h4,h5⟩:=run_append_own_at (P:=Tryz.prog) W base 123 o.type 202 i0 (.agg #[.slice none 0 0,.int .i64 0,.slice none 0 0]) 3 56 Tryz.underlying123 hi hz0 hz1 hz2 rfl (by decide) v vs.length _ hown ⟨g,0,none⟩ 1 1 [.slice A n c,.int .i64 y,.slice A' n' c'] rfl (fn_cells hc) (by intro u hu;simp at hu;rcases hu with rfl | rfl | rfl <;> rfl) (by unfold maxLen;omega) (by omega) hbase;unfold Oper.wp execOp;simp only [ho,resolve,invoke,builtin,Sem.run_bind,Sem.run_pure,Result.andThen_ok,List.map_toArray,List.map_cons,List.map_nil,hs,hx,hr];refine h v' w' ?_ h3 h5;unfold OwnFn;rw [List.length_append,fnC_snoc];exact h2
theorem push_fn_step {ops:Array Oper}{o:Oper}{a:Act}{K:Act→World→Prop}{Q:Exit→Act→World→Prop}{E:Prop}(hgd:o.guard=none) (sl x:Operand)
  (ho:o.op = .call { callee:=.builtin .append,args:=#[sl,x],argTypes:=#[123,123] })
  (W:World) (base g:Nat) (v:Value) (vs:List (Value × Int × Value)) (A A':Option Addr) (n n' c c':Nat) (y:Int) (hs:a.eval sl=v) (hx:a.eval x = .slice (some ⟨g,0,none⟩) 1 1)
  (hown:OwnFn W base v vs) (hc:W.heap[g]? = some (.cells #[.slice A n c,.int .i64 y,.slice A' n' c'] 202 (0,0))) (hbase:base≤W.heap.size) (hl:vs.length≤1000000)
  (h:∀ v' w',OwnFn w' base v' (vs++[(.slice A n c,y,.slice A' n' c')])→W.grownBy w' v.ownBlock→(v'.ownBlock=v.ownBlock∨v'.ownBlock=some W.heap.size)→K (a.put o.dst v') w') :
  if Region.wanted o (yielded ops a.tmps)=true then Oper.wp Tryz.prog o a W K Q else E:=by
 have hw:Region.wanted o (yielded ops a.tmps)=true:=by simp [Region.wanted,hgd]
 rw [if_pos hw];exact push_fn_wp sl x ho W base g v vs A A' n n' c c' y hs hx hown hc hbase hl h
def FnIs (W:World) (b sc:Nat) (vs:List (Value × Int × Value)) (fs:List FunM):Prop :=
 vs.length=fs.length∧∀ (i:Nat) (f:FunM),fs[i]? = some f→∃ sv lv,vs[i]? = some (sv,f.other,lv)∧FunC W b sc sv lv f
theorem fnIs_nil (W:World) (b sc:Nat):FnIs W b sc [] []:=⟨rfl,fun i x h=>by simp at h⟩
theorem FnIs.keep {W W':World}{b sc:Nat}{vs:List (Value × Int × Value)} {fs:List FunM}(h:FnIs W b sc vs fs) (hk:KeepT W W' b sc):FnIs W' b sc vs fs :=
 ⟨h.1,fun i x hx=>by obtain⟨sv,lv,h1,h2⟩:=h.2 i x hx;exact⟨sv,lv,h1,h2.keep hk⟩⟩
theorem FnIs.snoc {W:World}{b sc:Nat}{vs:List (Value × Int × Value)} {fs:List FunM}(h:FnIs W b sc vs fs) {sv lv:Value}{f:FunM}(hx:FunC W b sc sv lv f):FnIs W b sc (vs++[(sv,f.other,lv)]) (fs++[f]):=by
 refine⟨by simp [h.1],fun i y hy=>?_⟩;by_cases hi:i < fs.length
 ·rw [List.getElem?_append_left hi] at hy
  obtain⟨sv',lv',h1,h2⟩:=h.2 i y hy;exact⟨sv',lv',by rw [List.getElem?_append_left (by rw [h.1];exact hi)];exact h1,h2⟩
 have hi':i=fs.length:=by have:=(List.getElem?_eq_some_iff.1 hy).1;simp at this;omega
 subst hi';simp at hy
 subst hy;exact⟨sv,lv,by rw [← h.1];simp,hx⟩
theorem OwnFn.funs {W:World}{b sc base:Nat}{v:Value}{vs:List (Value × Int × Value)} {fs:List FunM}(h:OwnFn W base v vs) (hl:FnIs W b sc vs fs) (h1:b < base) (h2:sc < base):∃ A c,v = .slice A fs.length c∧FunsK W b sc A fs:=by
 have h':=h;obtain⟨k1,⟨rfl,hn⟩ | ⟨g,cap,cur,rfl,hb',hh,hm,hx,hs,ht⟩⟩:=h
 ·have:fs=[]:=List.eq_nil_of_length_eq_zero (by rw [← hl.1];exact hn)
  subst this;exact⟨none,0,rfl,.inl rfl⟩
 refine⟨_,cap,by rw [hl.1],.inr ⟨g,0,rfl,(Array.getElem?_eq_some_iff.1 hh).1,by omega,by omega,fun i f hf=>?_⟩⟩;obtain⟨sv,lv,e1,e2⟩:=hl.2 i f hf;obtain⟨a1,a2,a3⟩:=fnC_at vs i _ e1;have hi:i < vs.length:=(List.getElem?_eq_some_iff.1 e1).1;have c1:=World.ownsRow.cellAt (h':W.ownsRow base 202 3 _ vs.length _) (i * 3) (by omega);have c2:=World.ownsRow.cellAt (h':W.ownsRow base 202 3 _ vs.length _) (i * 3+1) (by omega);have c3:=World.ownsRow.cellAt (h':W.ownsRow base 202 3 _ vs.length _) (i * 3+2) (by omega);simp only [Nat.zero_add];exact⟨sv,lv,c1.trans a1,c2.trans a2,c3.trans a3,e2⟩
theorem keep_fn {W W':World}{b sc base:Nat}{v:Value}{vs:List (Value × Int × Value)} (ho:OwnFn W base v vs) (hg:W.grownBy W' v.ownBlock):KeepT W W' b sc:=by
 have key:∀ (g:Nat) (cur:Array Value) (t:TypeId) (fr:Nat × Nat),W.heap[g]? = some (.cells cur t fr)→t≠202→W'.heap[g]? = W.heap[g]?:=fun g cur t fr h ht=>by
  refine hg.block g (Array.getElem?_eq_some_iff.1 h).1 (fun e=>?_);obtain⟨_,_,cur',h3⟩:=ho.obj g e.symm;rw [h] at h3;injection h3 with h3;injection h3 with _ h4;exact ht h4
 exact⟨fun g cur fr h _ _=>key g cur _ fr h (by decide),fun g cur fr h _ _=>key g cur _ fr h (by decide)⟩
end Go.Proofs.YtmokogkndbinlaaGreatDoor
namespace Go.Proofs.YtmokogkndbinlaaGreatDoor
open Go.RowKit
def cF4 (sizes:List Nat) (a:AccM) (ar:Int × Nat) (sc:List Nat) (o:Int × Nat) (ls:List LineM × Int) (s4:RdS):RdR AccM :=
 .ok ⟨a.funs++[⟨sc,o.1,ls.1⟩],if ar.1 < 0 then a.shared++[⟨sc,o.1,ls.1⟩] else a.shared,ls.2⟩ s4
def cF3 (l:List UInt8) (sizes:List Nat) (a:AccM) (ar:Int × Nat) (sc:List Nat) (o:Int × Nat) (s3:RdS):RdR AccM:=(funLines l sizes sc a s3).bind (cF4 sizes a ar sc o)
def cF2 (l:List UInt8) (sizes:List Nat) (a:AccM) (ar:Int × Nat) (sc:List Nat) (s2:RdS):RdR AccM :=
 (numM l 0 farZ (limS (decide (6 < ar.1.natAbs) || decide (4096 < cntM (pickN sizes sc) 1)) ar.2 s2)).bind (cF3 l sizes a ar sc)
def cF1 (l:List UInt8) (sizes:List Nat) (a:AccM) (ar:Int × Nat) (s1:RdS):RdR AccM:=(scopeM l sizes.length ar.1.natAbs [] s1).bind (cF2 l sizes a ar)
theorem funM_cps (l:List UInt8) (sizes:List Nat) (a:AccM) (s:RdS):funM l sizes a s=(numM l (-4611686018427387904) 4611686018427387904 s).bind (cF1 l sizes a):=rfl
theorem limS_or (x y:Bool) (p:Nat) (s:RdS):limS (x || y) p s=limS y p (limS x p s):=by
 unfold limS;cases x <;> cases y <;> cases h:s.big <;> simp [h]
theorem RdIn.conv {β:Type}{W:World}{b sc:Nat}{s:ByteArray}{v v':RdV}{E:RdR β} {C C':RdS→RdR β} (h:RdIn W b sc s v v' E C) (hC:∀ st,C st=C' st):RdIn W b sc s v v' E C':=by
 rwa [show C=C' from funext hC] at h
theorem RdOk.blocks {W W':World}{b sc:Nat}{s:ByteArray}{st:RdS}{v:RdV}(h:RdOk W b sc s st v) (h1:W'.heap[b]? = W.heap[b]?) (h2:W'.heap[sc]? = W.heap[sc]?) (h3:W'.heap[3]? = W.heap[3]?):RdOk W' b sc s st v:=by
 refine⟨h1.trans h.at_,h.vsc,h2.trans h.scan,h.ne,h.le,h.fits,h.fine,h.big,?_,h.gb,h.gs⟩;obtain⟨ev,k1,k2⟩:=h.glob;exact⟨ev,(World.cell?_of_block (a:=⟨3,0,none⟩) h3).trans k1,k2⟩
theorem RdBad.blocks {W W':World}{b e p:Nat}{v:RdV}(h:RdBad W b e p v) (h1:W'.heap[b]? = W.heap[b]?) (h3:W'.heap[3]? = W.heap[3]?):RdBad W' b e p v:=by
 refine⟨h1.trans h.at_,h.fe,h.fp,h.ne,?_,h.gb⟩;obtain⟨ev,k1,k2⟩:=h.glob;exact⟨ev,(World.cell?_of_block (a:=⟨3,0,none⟩) h3).trans k1,k2⟩
structure RF (W0:World) (b sc:Nat) (ob:Option Nat) (W:World):Prop where
 os:W.os=W0.os
 tape:W.tape=W0.tape
 output:W.output=W0.output
 size:W0.heap.size≤W.heap.size
 block:∀ k,k < W0.heap.size→k≠b→k≠sc→ob≠some k→W.heap[k]? = W0.heap[k]?
theorem RF.of {W0 W:World}{b sc:Nat}{ob:Option Nat}(h:RK W0 b sc W):RF W0 b sc ob W:=⟨h.os,h.tape,h.output,h.size,fun k h1 h2 h3 _=>h.block k h1 h2 h3⟩
theorem RF.rk {W0 W W':World}{b sc:Nat}{ob:Option Nat}(h:RF W0 b sc ob W) (k:RK W b sc W'):RF W0 b sc ob W' :=
 ⟨k.os.trans h.os,k.tape.trans h.tape,k.output.trans h.output,Nat.le_trans h.size k.size,fun j h1 h2 h3 h4=>(k.block j (Nat.lt_of_lt_of_le h1 h.size) h2 h3).trans (h.block j h1 h2 h3 h4)⟩
theorem RF.put {W0 W W':World}{b sc:Nat}{ob:Option Nat}(h:RF W0 b sc ob W) (k:W.grownBy W' ob):RF W0 b sc ob W' :=
 ⟨k.os.trans h.os,k.tape.trans h.tape,k.output.trans h.output,Nat.le_trans h.size k.size,fun j h1 h2 h3 h4=>(k.block j (Nat.lt_of_lt_of_le h1 h.size) (fun e=>h4 e.symm)).trans (h.block j h1 h2 h3 h4)⟩
theorem results_fn {fn:Func}{p:Tmp}(h:fn.results=#[.cell p 202]) (tmps:Array Value) (w:World) (g:Nat) (a b c:Value) (hp:tmps.getD p undef = .pointer (some ⟨g,0,none⟩))
  (hg:w.heap[g]? = some (.cells #[a,b,c] 202 (0,0))):(results fn tmps).run Tryz.prog w = .ok (.agg #[a,b,c]) w:=by
 have c0:w.cell? ⟨g,0,none⟩=some a:=by rw [cell_of_row _ _ _ _ _ _ hg];rfl
 have c1:w.cell? ⟨g,1,none⟩=some b:=by rw [cell_of_row _ _ _ _ _ _ hg];rfl
 have c2:w.cell? ⟨g,2,none⟩=some c:=by rw [cell_of_row _ _ _ _ _ _ hg];rfl
 have hp':tmps[p]?.getD undef = .pointer (some ⟨g,0,none⟩):=by simpa using hp
 simp [results,h,hp',go_sem,c0,c1,c2]
def mx2 (x y:Int):Int:=max x y
theorem run_mx2 {P:Program}(w:World) (ts:Array TypeId) (t:TypeId) (k k':IntKind) (x y:Int) :
  (Builtin.max_ ts t #[.int k x,.int k' y]).run P w = .ok (.int k (mx2 x y)) w:=by
 have e:(if x < y then y else x)=mx2 x y:=by
  unfold mx2;split <;> omega
 simp [Builtin.max_,Builtin.max2,e]
structure RdSameF (v v':RdV):Prop where
 sc:v'.sc=v.sc
 name:v'.name=v.name
 top:v'.top=v.top
 sizes:v'.sizes=v.sizes
 funs:v'.funs=v.funs
theorem RdSame.f {v v':RdV}(h:RdSame v v'):RdSameF v v':=⟨h.sc,h.name,h.top,h.sizes,h.funs⟩
def FnRes (s:ByteArray) (b sc base:Nat) (k:Int) (W:World) (sv:Value) (o:Int) (lv:Value) (v':RdV) (a:AccM) (E:RdR AccM):Prop :=
 (∃ f a' st' us',E = .ok a' st'∧a'.funs=a.funs++[f]∧o=(topF k f).other∧FunC W b sc sv lv (topF k f)∧RdOk W b sc s st' v'∧v'.told=a'.told∧OwnFn W base v'.shared us'∧FnIs W b sc us' (a'.shared.map (topF k)))∨∃ e p,E = .bad e p∧RdBad W b e p v'
def FnPost (s:ByteArray) (b sc base:Nat) (v:RdV) (a:AccM) (E:RdR AccM) (w:World) (e:Ending) (w':World):Prop :=
 ∃ A n c o A' n' c' v',e = .returned (.agg #[.slice A n c,.int .i64 o,.slice A' n' c'])∧RF w b sc v.shared.ownBlock w'∧RdSameF v v'∧(v'.shared.ownBlock=v.shared.ownBlock∨∃ g,v'.shared.ownBlock=some g∧w.heap.size≤g)∧FnRes s b sc base v.top w' (.slice A n c) o (.slice A' n' c') v' a E
end Go.Proofs.YtmokogkndbinlaaGreatDoor
