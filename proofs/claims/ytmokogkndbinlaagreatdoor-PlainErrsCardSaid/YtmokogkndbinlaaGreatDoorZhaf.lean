import Derived.Test.YtmokogkndbinlaaGreatDoorZhae
set_option linter.all false
namespace Go.Proofs.YtmokogkndbinlaaGreatDoor
open Go.Lib (hid)
structure RdS where
 k:Nat
 big:Option Nat
inductive RdR (α:Type) where
 | bad (e p:Nat)
 | ok (a:α) (s:RdS)
def RdR.bind {α β:Type}:RdR α→(α→RdS→RdR β)→RdR β
 | .bad e p,_=>.bad e p
 | .ok a s,f=>f a s
@[simp] theorem RdR.bind_bad {α β:Type}(e p:Nat) (f:α→RdS→RdR β):(RdR.bad e p).bind f = .bad e p:=rfl
@[simp] theorem RdR.bind_ok {α β:Type}(a:α) (s:RdS) (f:α→RdS→RdR β):(RdR.ok a s).bind f=f a s:=rfl
theorem RdR.bind_assoc {α β γ:Type}(x:RdR α) (f:α→RdS→RdR β) (g:β→RdS→RdR γ):(x.bind f).bind g=x.bind fun a s=>(f a s).bind g:=by cases x <;> rfl
def subL (l:List UInt8) (f t:Nat):List UInt8:=(l.drop f).take (t - f)
def wordM (l:List UInt8) (s:RdS):RdR (Nat × Nat) :=
 match stepW l s.k with
 | .word f t=>.ok (f,t) ⟨t,s.big⟩
 | .none=>.bad 4 l.length
 | .bad b=>.bad 11 b
def numM (l:List UInt8) (lo hi:Int) (s:RdS):RdR (Int × Nat) :=
 (wordM l s).bind fun w s' =>
  if readE (subL l w.1 w.2)=0∧lo≤readV (subL l w.1 w.2)∧readV (subL l w.1 w.2)≤hi then .ok (readV (subL l w.1 w.2),w.1) s' else .bad 4 w.1
def limS (is:Bool) (p:Nat) (s:RdS):RdS:=if is && s.big.isNone then ⟨s.k,some p⟩ else s
abbrev farZ:Int:=4611686018427387904
def cntM:List Nat→Nat→Nat
 | [],n=>n
 | k::r,n=>cntM r (min (n * min k 4097) 4097)
def pickN (sizes:List Nat) (scope:List Nat):List Nat:=scope.map fun v=>sizes.getD v 0
def scopeM (l:List UInt8) (nv:Nat):Nat→List Nat→RdS→RdR (List Nat)
 | 0,acc,s=>.ok acc s
 | n+1,acc,s=>(numM l 0 ((nv:Int) - 1) s).bind fun v s'=>if acc.contains v.1.toNat then .bad 4 v.2 else scopeM l nv n (acc++[v.1.toNat]) s'
def tupleM (l:List UInt8) (sizes:List Nat):List Nat→List Nat→RdS→RdR (List Nat)
 | [],acc,s=>.ok acc s
 | v::r,acc,s=>(numM l 0 ((sizes.getD v 0:Nat) - 1:Int) s).bind fun c s'=>tupleM l sizes r (acc++[c.1.toNat]) s'
abbrev LineM:=List Nat × Int
def linesM (l:List UInt8) (sizes scope:List Nat):Nat→List LineM→RdS→RdR (List LineM)
 | 0,acc,s=>.ok acc s
 | n+1,acc,s=>(tupleM l sizes scope [] s).bind fun x s'=>(numM l 0 farZ s').bind fun c s'' =>
   if acc.any (fun y=>y.1 == x) then .bad 4 c.2 else linesM l sizes scope n (acc++[(x,c.1)]) s''
structure FunM where
 scope:List Nat
 other:Int
 lines:List LineM
structure AccM where
 funs:List FunM
 shared:List FunM
 told:Int
def funLines (l:List UInt8) (sizes scope:List Nat) (a:AccM) (s:RdS):RdR (List LineM × Int) :=
 (numM l (-farZ) farZ s).bind fun m s' =>
  if m.1 < 0 then
   match a.shared[(-m.1).toNat - 1]? with
   | some g=>if pickN sizes g.scope=pickN sizes scope then .ok (g.lines,a.told) s' else .bad 4 m.2
   | none=>.bad 4 m.2
  else (linesM l sizes scope m.1.toNat [] (limS (decide (16384 < a.told+m.1)) m.2 s')).bind fun ls s''=>.ok (ls,a.told+m.1) s''
def funM (l:List UInt8) (sizes:List Nat) (a:AccM) (s:RdS):RdR AccM :=
 (numM l (-farZ) farZ s).bind fun ar s1=>(scopeM l sizes.length ar.1.natAbs [] s1).bind fun sc s2 =>
  (numM l 0 farZ (limS (decide (6 < ar.1.natAbs) || decide (4096 < cntM (pickN sizes sc) 1)) ar.2 s2)).bind fun o s3 =>
   (funLines l sizes sc a s3).bind fun ls s4 =>
    .ok ⟨a.funs++[⟨sc,o.1,ls.1⟩],if ar.1 < 0 then a.shared++[⟨sc,o.1,ls.1⟩] else a.shared,ls.2⟩ s4
def funsM (l:List UInt8) (sizes:List Nat):Nat→AccM→RdS→RdR AccM
 | 0,a,s=>.ok a s
 | n+1,a,s=>(funM l sizes a s).bind fun a' s'=>funsM l sizes n a' s'
def sizesM (l:List UInt8) (most:Int):Nat→List Nat→RdS→RdR (List Nat)
 | 0,acc,s=>.ok acc s
 | n+1,acc,s=>(numM l 1 most s).bind fun v s'=>sizesM l most n (acc++[v.1.toNat]) (limS (decide (32 < v.1)) v.2 s')
structure FileM where
 name:Nat × Nat
 top:Int
 sizes:List Nat
 funs:List FunM
def fileM (l:List UInt8) (lo:Int):RdR FileM :=
 (wordM l ⟨0,none⟩).bind fun w s1=>(numM l 1 farZ (limS (decide (64 < w.2 - w.1)) w.1 s1)).bind fun n s2 =>
  (numM l lo farZ (limS (decide (64 < n.1)) n.2 s2)).bind fun g s3=>(numM l 0 farZ s3).bind fun c s4 =>
   (numM l 1 farZ (limS (decide (256 < c.1)) c.2 s4)).bind fun k s5=>(sizesM l g.1 n.1.toNat [] (limS (decide (2147483648 < k.1)) k.2 s5)).bind fun sz s6 =>
    (funsM l sz c.1.toNat ⟨[],[],0⟩ s6).bind fun a s7 =>
     match stepW l s7.k with
     | .word f _=>.bad 4 f
     | .bad b=>.bad 11 b
     | .none=>.ok ⟨w,k.1,sz,a.funs⟩ s7
end Go.Proofs.YtmokogkndbinlaaGreatDoor
namespace Go.Proofs.YtmokogkndbinlaaGreatDoor
theorem bind_ok_iff {α β:Type}{x:RdR α} {f:α→RdS→RdR β} {b:β} {t:RdS}:x.bind f = .ok b t↔∃ a s,x = .ok a s∧f a s = .ok b t:=by
 cases x with
 | bad e p=>simp
 | ok a s=>exact⟨fun h=>⟨a,s,rfl,h⟩,fun ⟨a',s',h1,h2⟩=>by cases h1;exact h2⟩
theorem wordM_ok {l:List UInt8} {s s':RdS}{w:Nat × Nat}:wordM l s = .ok w s'↔stepW l s.k = .word w.1 w.2∧s'=⟨w.2,s.big⟩:=by
 unfold wordM;split
 ·rename_i f t h
  rw [h];constructor
  ·intro e
   cases e;exact⟨rfl,rfl⟩
  rintro⟨e,rfl⟩;cases e;rfl
 ·rename_i h
  rw [h];constructor
  ·intro e;cases e
  rintro⟨e,_⟩;cases e
 rename_i b h;rw [h];constructor
 ·intro e;cases e
 rintro⟨e,_⟩;cases e
theorem numM_ok {l:List UInt8} {lo hi:Int}{s s':RdS}{v:Int × Nat}:numM l lo hi s = .ok v s'↔∃ t,stepW l s.k = .word v.2 t∧s'=⟨t,s.big⟩∧readE (subL l v.2 t)=0∧v.1=readV (subL l v.2 t)∧lo≤v.1∧v.1≤hi:=by
 unfold numM;rw [bind_ok_iff];constructor
 ·rintro⟨w,s1,h1,h2⟩
  obtain⟨h3,rfl⟩:=wordM_ok.1 h1;split at h2
  ·rename_i hc
   cases h2;exact⟨w.2,h3,rfl,hc.1,rfl,hc.2.1,hc.2.2⟩
  cases h2
 rintro⟨t,h1,rfl,h3,h4,h5,h6⟩;refine⟨(v.2,t),_,wordM_ok.2 ⟨h1,rfl⟩,?_⟩;rw [if_pos ⟨h3,by rw [← h4];exact h5,by rw [← h4];exact h6⟩];obtain⟨a,b⟩:=v;have h4:a=readV (subL l b t):=h4;show RdR.ok (readV (subL l b t),b) _=_;rw [← h4]
theorem numM_lo {l:List UInt8} {lo lo' hi:Int}{s s':RdS}{v:Int × Nat}(h:lo≤lo'):numM l lo' hi s = .ok v s'↔numM l lo hi s = .ok v s'∧lo'≤v.1:=by
 rw [numM_ok,numM_ok];constructor
 ·rintro⟨t,h1,h2,h3,h4,h5,h6⟩
  exact⟨⟨t,h1,h2,h3,h4,by omega,h6⟩,h5⟩
 rintro⟨⟨t,h1,h2,h3,h4,h5,h6⟩,h7⟩;exact⟨t,h1,h2,h3,h4,h7,h6⟩
theorem sizesM_low {l:List UInt8} {most:Int}{n:Nat}{acc a:List Nat}{s t:RdS}(hn:1≤n) (h:sizesM l most n acc s = .ok a t):1≤most:=by
 rcases n with _ | n
 ·omega
 obtain⟨v,s1,h1,_⟩:=bind_ok_iff.1 h;obtain⟨_,_,_,_,_,h5,h6⟩:=numM_ok.1 h1;omega
theorem fileM_lo {l:List UInt8} {f:FileM}{s:RdS}:fileM l (-farZ) = .ok f s↔fileM l 1 = .ok f s:=by
 unfold fileM;constructor
 ·intro h
  obtain⟨w,s1,h1,h⟩:=bind_ok_iff.1 h;obtain⟨n,s2,h2,h⟩:=bind_ok_iff.1 h;obtain⟨g,s3,h3,h⟩:=bind_ok_iff.1 h;refine bind_ok_iff.2 ⟨w,s1,h1,bind_ok_iff.2 ⟨n,s2,h2,bind_ok_iff.2 ⟨g,s3,(numM_lo (by decide)).2 ⟨h3,?_⟩,h⟩⟩⟩;obtain⟨c,s4,h4,h⟩:=bind_ok_iff.1 h;obtain⟨k,s5,h5,h⟩:=bind_ok_iff.1 h;obtain⟨z,s6,h6,h⟩:=bind_ok_iff.1 h;obtain⟨_,_,_,_,_,hn,_⟩:=numM_ok.1 h2;exact sizesM_low (by omega) h6
 intro h;obtain⟨w,s1,h1,h⟩:=bind_ok_iff.1 h;obtain⟨n,s2,h2,h⟩:=bind_ok_iff.1 h;obtain⟨g,s3,h3,h⟩:=bind_ok_iff.1 h;exact bind_ok_iff.2 ⟨w,s1,h1,bind_ok_iff.2 ⟨n,s2,h2,bind_ok_iff.2 ⟨g,s3,((numM_lo (by decide)).1 h3).1,h⟩⟩⟩
structure LinesOk (ts:List Nat) (ls:List LineM):Prop where
 len:∀ y∈ls,y.1.length=ts.length
 val:∀ y∈ls,∀ i,i < ts.length→y.1.getD i 0 < ts.getD i 0
 cost:∀ y∈ls,0≤y.2∧y.2≤farZ
 once:(ls.map (·.1)).Pairwise (·≠·)
structure FunOk (sizes:List Nat) (g:FunM):Prop where
 below:∀ v∈g.scope,v < sizes.length
 once:g.scope.Pairwise (·≠·)
 other:0≤g.other∧g.other≤farZ
 lines:LinesOk (pickN sizes g.scope) g.lines
theorem scopeM_ok {l:List UInt8} {nv:Nat}:∀ {n:Nat}{acc a:List Nat}{s t:RdS},scopeM l nv n acc s = .ok a t→(∀ v∈acc,v < nv)→acc.Pairwise (·≠·)→(∀ v∈a,v < nv)∧a.Pairwise (·≠·)∧a.length=acc.length+n
 | 0,acc,a,s,t,h,h1,h2=>by cases h;exact⟨h1,h2,rfl⟩
 | n+1,acc,a,s,t,h,h1,h2=>by
  obtain⟨v,s1,h3,h4⟩:=bind_ok_iff.1 h;split at h4
  ·cases h4
  rename_i hc;obtain⟨_,_,_,_,_,hv0,hv1⟩:=numM_ok.1 h3;have hnc:v.1.toNat ∉ acc:=by simpa using hc
  obtain⟨q1,q2,q3⟩:=scopeM_ok h4 (fun u hu=>by
   rcases List.mem_append.1 hu with hu | hu
   ·exact h1 u hu
   ·simp at hu;omega) (List.pairwise_append.2 ⟨h2,by simp,fun a ha b hb=>by simp at hb;subst hb;exact fun e=>hnc (e ▸ ha)⟩)
  exact⟨q1,q2,by simp at q3;omega⟩
theorem tupleM_ok {l:List UInt8} {sizes:List Nat}:∀ {sc acc a:List Nat}{s t:RdS},tupleM l sizes sc acc s = .ok a t→a.length=acc.length+sc.length∧(∀ i,i < acc.length→a.getD i 0=acc.getD i 0)∧∀ i,i < sc.length→a.getD (acc.length+i) 0 < (pickN sizes sc).getD i 0
 | [],acc,a,s,t,h=>by cases h;exact⟨rfl,fun _ _=>rfl,fun i hi=>absurd hi (Nat.not_lt_zero _)⟩
 | v::sc,acc,a,s,t,h=>by
  obtain⟨c,s1,h3,h4⟩:=bind_ok_iff.1 h;obtain⟨_,_,_,_,_,hv0,hv1⟩:=numM_ok.1 h3;obtain⟨q1,q2,q3⟩:=tupleM_ok h4;rw [List.length_append,List.length_singleton] at q1 q2 q3;refine⟨by rw [List.length_cons];omega,fun i hi=>?_,fun i hi=>?_⟩
  ·rw [q2 i (by omega),List.getD_eq_getElem?_getD,List.getD_eq_getElem?_getD,List.getElem?_append_left hi]
  rcases i with _ | i
  ·have:=q2 acc.length (by omega)
   rw [Nat.add_zero,this];have e1:(acc++[c.1.toNat]).getD acc.length 0=c.1.toNat:=by simp [List.getD_eq_getElem?_getD]
   have e2:(pickN sizes (v::sc)).getD 0 0=sizes.getD v 0:=rfl;rw [e1,e2];omega
  have:=q3 i (by simp at hi;omega);rw [show acc.length+(i+1)=acc.length+1+i by omega];have e2:(pickN sizes (v::sc)).getD (i+1) 0=(pickN sizes sc).getD i 0:=rfl;rw [e2];exact this
theorem linesM_ok {l:List UInt8} {sizes sc:List Nat}:∀ {n:Nat}{acc a:List LineM}{s t:RdS},linesM l sizes sc n acc s = .ok a t→LinesOk (pickN sizes sc) acc→LinesOk (pickN sizes sc) a∧a.length=acc.length+n
 | 0,acc,a,s,t,h,h1=>by cases h;exact⟨h1,rfl⟩
 | n+1,acc,a,s,t,h,h1=>by
  obtain⟨x,s1,h3,h4⟩:=bind_ok_iff.1 h;obtain⟨c,s2,h5,h6⟩:=bind_ok_iff.1 h4;split at h6
  ·cases h6
  rename_i hc;obtain⟨p1,_,p3⟩:=tupleM_ok h3;obtain⟨_,_,_,_,_,hv0,hv1⟩:=numM_ok.1 h5;have hnc:∀ y∈acc,y.1≠x:=fun y hy e=>hc (List.any_eq_true.2 ⟨y,hy,by simp [e]⟩);have hl:(pickN sizes sc).length=sc.length:=by simp [pickN]
  obtain⟨q1,q2⟩:=linesM_ok h6 ⟨fun y hy=>by
    rcases List.mem_append.1 hy with hy | hy
    ·exact h1.len y hy
    simp at hy;subst hy;rw [hl];simpa using p1,
   fun y hy i hi=>by
    rcases List.mem_append.1 hy with hy | hy
    ·exact h1.val y hy i hi
    simp at hy;subst hy;have:=p3 i (by omega);simpa using this,
   fun y hy=>by
    rcases List.mem_append.1 hy with hy | hy
    ·exact h1.cost y hy
    simp at hy;subst hy;exact⟨hv0,hv1⟩,
   by
    rw [List.map_append];refine List.pairwise_append.2 ⟨h1.once,by simp,fun a ha b hb=>?_⟩;simp at hb
    obtain⟨y,hy,rfl⟩:=List.mem_map.1 ha;subst hb;exact hnc y hy⟩
  exact⟨q1,by simp at q2;omega⟩
open Go.RowKit
structure RK (W0:World) (p q:Nat) (W:World):Prop where
 os:W.os=W0.os
 tape:W.tape=W0.tape
 output:W.output=W0.output
 size:W0.heap.size≤W.heap.size
 block:∀ k,k < W0.heap.size→k≠p→k≠q→W.heap[k]? = W0.heap[k]?
theorem RK.refl (W:World) (p q:Nat):RK W p q W:=⟨rfl,rfl,rfl,Nat.le_refl _,fun _ _ _ _=>rfl⟩
theorem RK.trans {X Y Z:World}{p q:Nat}(h:RK X p q Y) (k:RK Y p q Z):RK X p q Z :=
 ⟨k.os.trans h.os,k.tape.trans h.tape,k.output.trans h.output,Nat.le_trans h.size k.size,fun j hj hp hq=>(k.block j (Nat.lt_of_lt_of_le hj h.size) hp hq).trans (h.block j hj hp hq)⟩
theorem RK.grown1 {X Y:World}{p q:Nat}(h:X.grownBy Y (some p)):RK X p q Y:=⟨h.os,h.tape,h.output,h.size,fun j hj hp _=>h.block j hj (fun e=>hp (Option.some.inj e))⟩
theorem RK.grown2 {X Y:World}{p q:Nat}(h:X.grownBy Y (some q)):RK X p q Y:=⟨h.os,h.tape,h.output,h.size,fun j hj _ hq=>h.block j hj (fun e=>hq (Option.some.inj e))⟩
theorem RK.below {X Y:World}{p q:Nat}(h:Below X.heap.size X Y):RK X p q Y:=⟨h.os,h.tape,h.output,h.size,fun j hj _ _=>h.block j hj⟩
def BigIs (v:RdV):Option Nat→Prop
 | none=>v.le=0
 | some p=>v.le=5∧v.lp=(p:Int)
structure RdOk (W:World) (b sc:Nat) (s:ByteArray) (st:RdS) (v:RdV):Prop where
 at_:RdAt W b v
 vsc:v.sc=sc
 scan:ScanAt W sc s st.k
 ne:b≠sc
 le:st.k≤s.size
 fits:s.size≤100000
 fine:v.fe=0
 big:BigIs v st.big
 glob:GlobR W
 gb:3≠b
 gs:3≠sc
structure RdBad (W:World) (b:Nat) (e p:Nat) (v:RdV):Prop where
 at_:RdAt W b v
 fe:v.fe=(e:Int)
 fp:v.fp=(p:Int)
 ne:e≠0
 glob:GlobR W
 gb:3≠b
theorem GlobR.rk {W W':World}{p q:Nat}(h:GlobR W) (hk:RK W p q W') (hp:3≠p) (hq:3≠q):GlobR W':=by
 obtain⟨ev,h1,h2⟩:=h;have hlt:=World.block_lt_of_cell? W _ h1;refine⟨ev,?_,h2⟩;rw [← h1];exact World.cell?_of_block (hk.block _ hlt hp hq)
theorem RdOk.lt {W:World}{b sc:Nat}{s:ByteArray}{st:RdS}{v:RdV}(h:RdOk W b sc s st v):b < W.heap.size:=h.at_.lt
theorem extract_sub (s:ByteArray) (f t:Nat):(s.extract f t).data.toList=subL s.data.toList f t:=by
 simp [subL,ByteArray.data_extract]
set_option maxHeartbeats 1000000 in
theorem wordR_ok (b sc:Nat) (s:ByteArray) (st:RdS) (v:RdV) (f t:Nat) (w:World) (h:RdOk w b sc s st v) (hr:stepW s.data.toList st.k = .word f t) :
  Calls Tryz.prog 131 #[.pointer (some ⟨b,0,none⟩)] w fun e w'=>e = .returned (.tuple #[.string (s.extract f t),.int .i64 (f:Int)])∧RK w b sc w'∧RdOk w' b sc s ⟨t,st.big⟩ v:=by
 have C0:=hid (show w.cell? ⟨b,0,none⟩=some (.pointer (some ⟨sc,0,none⟩)) from h.vsc ▸ h.at_.cell (i:=0) rfl);have RT:=hid (right_at b 1 0 w (h.fine ▸ h.at_.cell (i:=2) rfl));have WD:=hid (word_ok sc s st.k f t w (Nat.le_trans h.fits (by decide)) h.le h.scan hr);have HH:=hid h;have HR:=hid hr;have c0:=C0.out;clear h hr C0;go_enter Tryz.func131,Tryz.ntmps131
 go_wp2_with (first | (go_at_call 75;refine RT.out.mono ?_;rintro e w' ⟨rfl,rfl⟩) | (go_at_call 159;refine WD.out.mono ?_;rintro e w' ⟨rfl,hg,hs⟩) | fail)
 go_ret2;have hh:=HH.out;have hb:=(stepW_word (by rw [size_list];exact hh.le) HR.out).2.2.1;refine⟨rfl,RK.grown2 hg,⟨hh.at_.next hg (fun e=>hh.ne (Option.some.inj e)),hh.vsc,hs,hh.ne,?_,hh.fits,hh.fine,hh.big,hh.glob.rk (RK.grown2 hg) hh.gb hh.gs,hh.gb,hh.gs⟩⟩;rw [← size_list];exact hb
theorem RdAt.set2 {W:World}{b:Nat}{v:RdV}{p e:Int}{cs:Array Value}(h:W.heap[b]? = some (.cells ((cs.setIfInBounds 1 (.int .i64 p)).setIfInBounds 2 (.int .i64 e)) 125 (0,0))) (hc:cs=rdC v):RdAt W b { v with fp:=p,fe:=e }:=by
 subst hc;exact h
set_option maxHeartbeats 1000000 in
theorem wordR_none (b sc:Nat) (s:ByteArray) (st:RdS) (v:RdV) (w:World) (h:RdOk w b sc s st v) (hr:stepW s.data.toList st.k = .none) :
  Calls Tryz.prog 131 #[.pointer (some ⟨b,0,none⟩)] w fun e w'=>e = .returned (.tuple #[.string ⟨#[]⟩,.int .i64 (s.size:Int)])∧RK w b sc w'∧RdBad w' b 4 s.size { v with fp:=(s.size:Int),fe:=4 }:=by
 have RT:=hid (right_at b 1 0 w (h.fine ▸ h.at_.cell (i:=2) rfl));have WD:=hid (word_none sc s st.k w (Nat.le_trans h.fits (by decide)) h.le h.scan hr);have NT:=hid (fun (W:World) (hg:w.grownBy W (some sc))=>note_new b 1 (s.size:Int) 4 W _ _ (h.at_.next hg (fun e=>h.ne (Option.some.inj e))) (Or.inr ⟨v.fp,rfl⟩) (h.fine ▸ rfl));have HH:=hid h;have c0:w.cell? ⟨b,0,none⟩=some (.pointer (some ⟨sc,0,none⟩)):=h.vsc ▸ h.at_.cell (i:=0) rfl;clear h hr;go_enter Tryz.func131,Tryz.ntmps131
 go_wp2_with (first | (go_at_call 75;refine RT.out.mono ?_;rintro e w' ⟨rfl,rfl⟩) | (go_at_call 159;refine WD.out.mono ?_;rintro e w1 ⟨rfl,hg,hs⟩;replace hg:=hid hg) | (go_at_call 166;refine (NT.out _ hg.out).mono ?_;rintro e w' ⟨⟨_,rfl⟩,h1,h2⟩) | fail)
 go_ret2;have hh:=HH.out;have hg':=hg.out;have hk:RK w b sc w':=(RK.grown2 hg').trans (RK.grown1 h2);exact⟨rfl,hk,⟨RdAt.set2 h1 rfl,rfl,rfl,by decide,hh.glob.rk hk hh.gb hh.gs,hh.gb⟩⟩
set_option maxHeartbeats 1000000 in
theorem wordR_bad (b sc:Nat) (s:ByteArray) (st:RdS) (v:RdV) (t:Nat) (w:World) (h:RdOk w b sc s st v) (hr:stepW s.data.toList st.k = .bad t) :
  Calls Tryz.prog 131 #[.pointer (some ⟨b,0,none⟩)] w fun e w'=>e = .returned (.tuple #[.string ⟨#[]⟩,.int .i64 (t:Int)])∧RK w b sc w'∧RdBad w' b 11 t { v with fp:=(t:Int),fe:=11 }:=by
 have RT:=hid (right_at b 1 0 w (h.fine ▸ h.at_.cell (i:=2) rfl));have WD:=hid (word_bad sc s st.k t w (Nat.le_trans h.fits (by decide)) h.le h.scan hr);have NT:=hid (fun (W:World) (hg:w.grownBy W (some sc))=>note_new b 1 (t:Int) 11 W _ _ (h.at_.next hg (fun e=>h.ne (Option.some.inj e))) (Or.inr ⟨v.fp,rfl⟩) (h.fine ▸ rfl));have HH:=hid h;have c0:w.cell? ⟨b,0,none⟩=some (.pointer (some ⟨sc,0,none⟩)):=h.vsc ▸ h.at_.cell (i:=0) rfl;clear h hr;go_enter Tryz.func131,Tryz.ntmps131
 go_wp2_with (first | (go_at_call 75;refine RT.out.mono ?_;rintro e w' ⟨rfl,rfl⟩) | (go_at_call 159;refine WD.out.mono ?_;rintro e w1 ⟨rfl,hg,hs⟩;replace hg:=hid hg) | (go_at_call 166;refine (NT.out _ hg.out).mono ?_;rintro e w' ⟨⟨_,rfl⟩,h1,h2⟩) | fail)
 go_ret2;have hh:=HH.out;have hg':=hg.out;have hk:RK w b sc w':=(RK.grown2 hg').trans (RK.grown1 h2);exact⟨rfl,hk,⟨RdAt.set2 h1 rfl,rfl,rfl,by decide,hh.glob.rk hk hh.gb hh.gs,hh.gb⟩⟩
theorem wordR_still (b e p:Nat) (v:RdV) (w:World) (h:RdBad w b e p v) :
  Calls Tryz.prog 131 #[.pointer (some ⟨b,0,none⟩)] w fun e' w'=>e' = .returned (.tuple #[.string ⟨#[]⟩,.int .i64 (p:Int)])∧∃ n,w'=w.drewN n:=by
 have RT:=hid (right_at b 1 (e:Int) w (h.fe ▸ h.at_.cell (i:=2) rfl));have d:((e:Int) == 0)=false:=by have:=h.ne;simpa using (by omega:¬ (e:Int)=0)
 rw [d] at RT;have c1:w.cell? ⟨b,1,none⟩=some (.int .i64 (p:Int)):=h.fp ▸ h.at_.cell (i:=1) rfl;clear h d;go_enter Tryz.func131,Tryz.ntmps131
 go_wp2_with (first | (go_at_call 75;refine RT.out.mono ?_;rintro e w' ⟨rfl,rfl⟩) | fail)
 go_quiet (fail)
 go_wp2_with fail
 go_ret2;exact⟨rfl,_,rfl⟩
theorem limit_no (b:Nat) (n m at_:Int) (w:World) (h:n≤m):Calls Tryz.prog 133 #[.pointer (some ⟨b,0,none⟩),.int .i64 n,.int .i64 m,.int .i64 at_] w fun e w'=>(∃ v,e = .returned v)∧w=w':=by
 have d:(decide (m < n))=false:=decide_eq_false (by omega);clear h;go_enter Tryz.func133,Tryz.ntmps133
 go_wp2_with fail
 go_end0
 exact⟨⟨_,rfl⟩,rfl⟩
end Go.Proofs.YtmokogkndbinlaaGreatDoor
namespace Go.Proofs.YtmokogkndbinlaaGreatDoor
open Go.RowKit
theorem grown_id (w:World) (row:Option Nat):w.grownBy w row:=⟨rfl,rfl,rfl,Nat.le_refl _,fun _ _ _=>rfl⟩
def limV (is:Bool) (p:Int) (v:RdV):RdV:=if is && (v.le == 0) then { v with lp:=p,le:=5 } else v
theorem limit_any (b:Nat) (n m p:Int) (v:RdV) (w:World) (h:RdAt w b v) :
  Calls Tryz.prog 133 #[.pointer (some ⟨b,0,none⟩),.int .i64 n,.int .i64 m,.int .i64 p] w fun e w'=>(∃ u,e = .returned u)∧RdAt w' b (limV (decide (m < n)) p v)∧w.grownBy w' (some b):=by
 cases hd:decide (m < n) with
 | false =>
  refine (limit_no b n m p w (by have:=of_decide_eq_false hd;omega)).mono ?_;rintro e w' ⟨h1,rfl⟩;exact⟨h1,h,grown_id w _⟩
 | true =>
  by_cases h0:v.le=0
  ·have NT:=hid (note_new b 3 p 5 w _ _ h (Or.inr ⟨v.lp,rfl⟩) (h0 ▸ rfl))
   have hl:limV true p v = { v with lp:=p,le:=5 }:=by simp [limV,h0]
   rw [hl];clear hl h0 h;go_enter Tryz.func133,Tryz.ntmps133
   go_wp2_with (first | (go_at_call 166;refine NT.out.mono ?_;rintro e w' ⟨⟨_,rfl⟩,h1,h2⟩) | fail)
   go_end0
   exact⟨⟨_,rfl⟩,h1,h2⟩
  have NT:=hid (note_old b 3 p 5 v.le w (h.cell (i:=4) rfl) h0);have hl:limV true p v=v:=by simp [limV,h0]
  rw [hl];have HH:=hid h;clear hl h0 h;go_enter Tryz.func133,Tryz.ntmps133
  go_wp2_with (first | (go_at_call 166;refine NT.out.mono ?_;rintro e w' ⟨⟨_,rfl⟩,rfl⟩) | fail)
  go_end0
  exact⟨⟨_,rfl⟩,HH.out,grown_id _ _⟩
theorem RdOk.lim {W W':World}{b sc p:Nat}{s:ByteArray}{st:RdS}{v:RdV}{is:Bool}(h:RdOk W b sc s st v) (ha:RdAt W' b (limV is p v)) (hg:W.grownBy W' (some b)):RdOk W' b sc s (limS is p st) (limV is p v):=by
 have hk:RK W b sc W':=RK.grown1 hg;have hs:ScanAt W' sc s st.k:=(hg.block sc h.scan.lt (fun e=>h.ne (Option.some.inj e).symm)).trans h.scan;have h1:(limS is p st).k=st.k:=by unfold limS;split <;> rfl
 have h2:(limV is p v).sc=sc:=by unfold limV;split <;> exact h.vsc
 have h3:(limV is p v).fe=0:=by unfold limV;split <;> exact h.fine
 refine⟨ha,h2,h1 ▸ hs,h.ne,h1 ▸ h.le,h.fits,h3,?_,h.glob.rk hk h.gb h.gs,h.gb,h.gs⟩;have hb:=h.big;cases is with
 | false=>exact hb
 | true =>
  cases hq:st.big with
  | none =>
   rw [hq] at hb;have e1:limV true p v = { v with lp:=(p:Int),le:=5 }:=by simp [limV,show v.le=0 from hb]
   have e2:limS true p st=⟨st.k,some p⟩:=by simp [limS,hq]
   rw [e1,e2];exact⟨rfl,rfl⟩
  | some q =>
   rw [hq] at hb;have e1:limV true p v=v:=by
    have:v.le=5:=hb.1;simp [limV,this]
   have e2:limS true p st=st:=by simp [limS,hq]
   rw [e1,e2,hq];exact hb
theorem RdBad.lim {W W':World}{b e q:Nat}{p:Int}{v:RdV}{is:Bool}(h:RdBad W b e q v) (ha:RdAt W' b (limV is p v)) (hg:W.grownBy W' (some b)):RdBad W' b e q (limV is p v):=by
 have h3:(limV is p v).fe=v.fe:=by unfold limV;split <;> rfl
 have h4:(limV is p v).fp=v.fp:=by unfold limV;split <;> rfl
 exact⟨ha,h3.trans h.fe,h4.trans h.fp,h.ne,h.glob.rk (RK.grown1 (q:=b) hg) h.gb h.gb,h.gb⟩
theorem RdOk.below {W W':World}{b sc:Nat}{s:ByteArray}{st:RdS}{v:RdV}(h:RdOk W b sc s st v) (hb:Below W.heap.size W W'):RdOk W' b sc s st v :=
 ⟨(hb.block b h.lt).trans h.at_,h.vsc,h.scan.below hb (Nat.le_refl _),h.ne,h.le,h.fits,h.fine,h.big,h.glob.below hb,h.gb,h.gs⟩
theorem RdBad.below {W W':World}{b e p:Nat}{v:RdV}(h:RdBad W b e p v) (hb:Below W.heap.size W W'):RdBad W' b e p v :=
 ⟨(hb.block b h.at_.lt).trans h.at_,h.fe,h.fp,h.ne,h.glob.below hb,h.gb⟩
theorem readE_two (l:List UInt8):readE l=0∨readE l=4:=by unfold readE;split <;> simp
set_option maxHeartbeats 1000000 in
theorem numR_ok (b sc:Nat) (s:ByteArray) (st st':RdS) (v:RdV) (lo hi n:Int) (p:Nat) (w:World) (h:RdOk w b sc s st v) (hr:numM s.data.toList lo hi st = .ok (n,p) st') :
  Calls Tryz.prog 134 #[.pointer (some ⟨b,0,none⟩),.int .i64 lo,.int .i64 hi] w fun e w'=>e = .returned (.tuple #[.int .i64 n,.int .i64 (p:Int)])∧RK w b sc w'∧RdOk w' b sc s st' v:=by
 obtain⟨t,h1,h2,h3,h4,h5,h6⟩:=numM_ok.1 hr;simp only at h1 h2 h3 h4 h5 h6;have WR:=hid (wordR_ok b sc s st v p t w h h1);have RD:=hid (fun (W:World) (hG:GlobR W)=>read_any (s.extract p t) W (by have:=h.fits;rw [ByteArray.size_extract];omega) hG);rw [extract_sub,h3,← h4] at RD;rw [← h2] at WR;have d1:(decide (n < lo))=false:=decide_eq_false (by omega);have d2:(decide (hi < n))=false:=decide_eq_false (by omega);clear h1 h2 h3 h4 h5 h6 hr h;go_enter Tryz.func134,Tryz.ntmps134
 go_wp2_with (first | (go_at_call 131;refine WR.out.mono ?_;rintro e w1 ⟨rfl,hk,ho⟩;replace hk:=hid hk;replace ho:=hid ho) | (go_at_call 168;refine (RD.out _ ho.out.glob).mono ?_;rintro e w2 ⟨rfl,hb⟩) | fail)
 go_ret2;exact⟨rfl,hk.out.trans (RK.below hb),ho.out.below hb⟩
theorem numR_not (b sc:Nat) (x:ByteArray) (lo hi p:Int) (w:World) (P:World→Prop) (hx:x.size≤100000)
  (WR:Calls Tryz.prog 131 #[.pointer (some ⟨b,0,none⟩)] w fun e w'=>e = .returned (.tuple #[.string x,.int .i64 p])∧P w'∧GlobR w')
  (Q:World→Prop) (NT:∀ W W',P W→Below W.heap.size W W'→Calls Tryz.prog 166 #[.pointer (some ⟨b,1,none⟩),.int .i64 p,.int .i64 4] W' fun e w'=>(∃ u,e = .returned u)∧Q w')
  (hbad:¬ (readE x.data.toList=0∧lo≤readV x.data.toList∧readV x.data.toList≤hi)) :
  Calls Tryz.prog 134 #[.pointer (some ⟨b,0,none⟩),.int .i64 lo,.int .i64 hi] w fun e w'=>e = .returned (.tuple #[.int .i64 0,.int .i64 p])∧Q w':=by
 have RD:=hid (fun (W:World) (hG:GlobR W)=>read_any x W (by omega) hG);replace WR:=hid WR;replace NT:=hid NT;have h4:=readE_two x.data.toList;generalize readE x.data.toList=E at RD hbad h4;generalize readV x.data.toList=n at RD hbad;clear hx;rcases h4 with h1 | h1
 rotate_left
 ·subst h1
  clear hbad;go_enter Tryz.func134,Tryz.ntmps134
  go_wp2_with (first | (go_at_call 131;refine WR.out.mono ?_;rintro e w1 ⟨rfl,hk,ho⟩;replace hk:=hid hk;replace ho:=hid ho) | (go_at_call 168;refine (RD.out _ ho.out).mono ?_;rintro e w2 ⟨rfl,hb⟩;replace hb:=hid hb) | (go_at_call 166;refine (NT.out _ _ hk.out hb.out).mono ?_;rintro e w3 ⟨⟨_,rfl⟩,hq⟩) | fail)
  go_ret2;exact⟨rfl,hq⟩
 subst h1;by_cases h2:n < lo
 ·have d1:(decide (n < lo))=true:=decide_eq_true h2
  clear hbad h2;go_enter Tryz.func134,Tryz.ntmps134
  go_wp2_with (first | (go_at_call 131;refine WR.out.mono ?_;rintro e w1 ⟨rfl,hk,ho⟩;replace hk:=hid hk;replace ho:=hid ho) | (go_at_call 168;refine (RD.out _ ho.out).mono ?_;rintro e w2 ⟨rfl,hb⟩;replace hb:=hid hb) | (go_at_call 166;refine (NT.out _ _ hk.out hb.out).mono ?_;rintro e w3 ⟨⟨_,rfl⟩,hq⟩) | fail)
  go_ret2;exact⟨rfl,hq⟩
 have d1:(decide (n < lo))=false:=decide_eq_false h2;have d2:(decide (hi < n))=true:=decide_eq_true (by omega);clear hbad h2;go_enter Tryz.func134,Tryz.ntmps134
 go_wp2_with (first | (go_at_call 131;refine WR.out.mono ?_;rintro e w1 ⟨rfl,hk,ho⟩;replace hk:=hid hk;replace ho:=hid ho) | (go_at_call 168;refine (RD.out _ ho.out).mono ?_;rintro e w2 ⟨rfl,hb⟩;replace hb:=hid hb) | (go_at_call 166;refine (NT.out _ _ hk.out hb.out).mono ?_;rintro e w3 ⟨⟨_,rfl⟩,hq⟩) | fail)
 go_ret2;exact⟨rfl,hq⟩
theorem RdOk.told {W W':World}{b sc e p:Nat}{s:ByteArray}{st:RdS}{v:RdV}(h:RdOk W b sc s st v) (he:e≠0) (ha:W'.heap[b]? = some (.cells (((rdC v).setIfInBounds 1 (.int .i64 (p:Int))).setIfInBounds 2 (.int .i64 (e:Int))) 125 (0,0))) (hg:W.grownBy W' (some b)) :
  RdBad W' b e p { v with fp:=(p:Int),fe:=(e:Int) }:=⟨RdAt.set2 ha rfl,rfl,rfl,he,h.glob.rk (RK.grown1 hg) h.gb h.gs,h.gb⟩
theorem numR_bad (b sc:Nat) (s:ByteArray) (st:RdS) (v:RdV) (lo hi:Int) (e p:Nat) (w:World) (h:RdOk w b sc s st v) (hr:numM s.data.toList lo hi st = .bad e p) :
  Calls Tryz.prog 134 #[.pointer (some ⟨b,0,none⟩),.int .i64 lo,.int .i64 hi] w fun e' w'=>e' = .returned (.tuple #[.int .i64 0,.int .i64 (p:Int)])∧RK w b sc w'∧RdBad w' b e p { v with fp:=(p:Int),fe:=(e:Int) }:=by
 unfold numM wordM at hr;cases hst:stepW s.data.toList st.k with
 | none =>
  rw [hst] at hr;simp only [RdR.bind_bad,RdR.bad.injEq] at hr;obtain⟨rfl,rfl⟩:=hr;rw [size_list];refine (numR_not b sc ⟨#[]⟩ lo hi s.size w (fun W=>RK w b sc W∧RdBad W b 4 s.size { v with fp:=(s.size:Int),fe:=4 }) (by decide) ?_ (fun W=>RK w b sc W∧RdBad W b 4 s.size { v with fp:=(s.size:Int),fe:=4 }) ?_ ?_).mono fun e w' hh=>hh
  ·exact (wordR_none b sc s st v w h hst).mono fun e w' hh=>⟨hh.1,hh.2,hh.2.2.glob⟩
  ·intro W W' hW hb
   refine (note_old b 1 _ 4 4 W' ((hW.2.below hb).at_.cell (i:=2) rfl) (by decide)).mono ?_;rintro e w' ⟨hu,rfl⟩;exact⟨hu,hW.1.trans (RK.below hb),hW.2.below hb⟩
  intro hc;exact absurd hc.1 (by decide)
 | bad t =>
  rw [hst] at hr;simp only [RdR.bind_bad,RdR.bad.injEq] at hr;obtain⟨rfl,rfl⟩:=hr;refine (numR_not b sc ⟨#[]⟩ lo hi t w (fun W=>RK w b sc W∧RdBad W b 11 t { v with fp:=(t:Int),fe:=11 }) (by decide) ?_ (fun W=>RK w b sc W∧RdBad W b 11 t { v with fp:=(t:Int),fe:=11 }) ?_ ?_).mono fun e w' hh=>hh
  ·exact (wordR_bad b sc s st v t w h hst).mono fun e w' hh=>⟨hh.1,hh.2,hh.2.2.glob⟩
  ·intro W W' hW hb
   refine (note_old b 1 _ 4 11 W' ((hW.2.below hb).at_.cell (i:=2) rfl) (by decide)).mono ?_;rintro e w' ⟨hu,rfl⟩;exact⟨hu,hW.1.trans (RK.below hb),hW.2.below hb⟩
  intro hc;exact absurd hc.1 (by decide)
 | word f t =>
  rw [hst] at hr;simp only [RdR.bind_ok] at hr;split at hr
  ·exact absurd hr (by simp)
  rename_i hc;simp only [RdR.bad.injEq] at hr;obtain⟨rfl,rfl⟩:=hr;rw [← extract_sub] at hc;refine (numR_not b sc (s.extract f t) lo hi f w (fun W=>RK w b sc W∧RdOk W b sc s ⟨t,st.big⟩ v) (by have:=h.fits;rw [ByteArray.size_extract];omega) ?_ (fun W=>RK w b sc W∧RdBad W b 4 f { v with fp:=(f:Int),fe:=4 }) ?_ hc).mono fun e w' hh=>hh
  ·exact (wordR_ok b sc s st v f t w h hst).mono fun e w' hh=>⟨hh.1,hh.2,hh.2.2.glob⟩
  intro W W' hW hb;have ho:=hW.2.below hb;refine (note_new b 1 f 4 W' _ _ ho.at_ (Or.inr ⟨v.fp,rfl⟩) (ho.fine ▸ rfl)).mono ?_;rintro e w' ⟨hu,h1,h2⟩;exact⟨hu,(hW.1.trans (RK.below hb)).trans (RK.grown1 h2),ho.told (by decide) h1 h2⟩
theorem numR_still (b e p:Nat) (v:RdV) (lo hi:Int) (w:World) (h:RdBad w b e p v) :
  Calls Tryz.prog 134 #[.pointer (some ⟨b,0,none⟩),.int .i64 lo,.int .i64 hi] w fun e' w'=>e' = .returned (.tuple #[.int .i64 0,.int .i64 (p:Int)])∧Below w.heap.size w w'∧RdBad w' b e p v:=by
 refine (numR_not b 0 ⟨#[]⟩ lo hi p w (fun W=>Below w.heap.size w W∧RdBad W b e p v) (by decide) ?_ (fun W=>Below w.heap.size w W∧RdBad W b e p v) ?_ ?_).mono fun e w' hh=>hh
 ·refine (wordR_still b e p v w h).mono ?_
  rintro e' w' ⟨h1,n,rfl⟩;exact⟨h1,⟨below_drewN (Below.refl _ _) n,h.below (below_drewN (Below.refl _ _) n)⟩,h.glob.below (below_drewN (Below.refl _ _) n)⟩
 ·intro W W' hW hb
  have ho:=hW.2.below hb;refine (note_old b 1 _ 4 e W' (ho.fe ▸ ho.at_.cell (i:=2) rfl) (by have:=ho.ne;omega)).mono ?_;rintro e' w' ⟨hu,rfl⟩;exact⟨hu,hW.1.trans (hb.mono hW.1.size),ho⟩
 intro hc;exact absurd hc.1 (by decide)
end Go.Proofs.YtmokogkndbinlaaGreatDoor
