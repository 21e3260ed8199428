import Derived.Laws.MakeOwn
import Derived.Test.YtmokogkndbinlaaGreatDoorZhaf
set_option linter.all false
namespace Go.Proofs.YtmokogkndbinlaaGreatDoor
open Go.Lib (hid)
open Go.RowKit
theorem Own.rk {w w':World}{p q base:Nat}{v:Value}{l:List Nat}(h:Own w base v l) (hk:RK w p q w') (hp:p < base) (hq:q < base):Own w' base v l:=by
 obtain⟨h1,⟨rfl,hn⟩ | ⟨g,cap,cur,rfl,hb',hh,hm,hx,hs,ht⟩⟩:=h
 ·exact⟨h1,.inl ⟨rfl,hn⟩⟩
 refine⟨h1,.inr ⟨g,cap,cur,rfl,hb',?_,hm,hx,hs,ht⟩⟩;rw [hk.block g (Array.getElem?_eq_some_iff.1 hh).1 (by omega) (by omega)];exact hh
theorem Own.at_lt {w:World}{base:Nat}{v:Value}{l:List Nat}(h:Own w base v l):∀ k,v.ownBlock=some k→base≤k∧k < w.heap.size:=World.ownsRow.lt h
theorem push_nat {ops:Array Oper}{rest:List Oper}{o:Oper}{a:Act}{Q:Exit→Act→World→Prop}(hgd:o.guard=none) (s x:Operand)
  (ho:o.op = .call { callee:=.builtin .append,args:=#[s,x],argTypes:=#[41,41] })
  (W:World) (base:Nat) (v:Value) (l:List Nat) (u:Int) (y:Nat) (hu:u=(y:Int)) (hs:a.eval s=v) (hx:a.eval x = .slice (some ⟨W.heap.size,0,none⟩) 1 1)
  (hown:Own W base v l) (hbase:base≤W.heap.size) (hl:l.length≤100000)
  (h:∀ v' w',Own w' base v' (l++[y])→Below base W w'→(∀ g,g < W.heap.size→v.ownBlock≠some g→w'.heap[g]? = W.heap[g]?)→wpList Tryz.prog ops Q rest (a.put o.dst v') w') :
  wpList Tryz.prog ops Q (o::rest) a (W.alloc (.cells #[.int .i64 u] 3)):=by
 subst hu;obtain⟨i0,hi,hz0,hz1,hz2⟩:=info_parts info_int;have hb:Below base W (W.alloc (.cells #[.int .i64 (y:Int)] 3)):=(Below.refl _ _).alloc hbase _;have hb':Below W.heap.size W (W.alloc (.cells #[.int .i64 (y:Int)] 3)):=(Below.refl W.heap.size W).alloc (Nat.le_refl _) _;have hown':Own (W.alloc (.cells #[.int .i64 (y:Int)] 3)) base v l:=hown.below hb' (Nat.le_refl _);have hc:=heap_alloc_new W (.cells #[.int .i64 (y:Int)] 3);refine wpList_append_own _ hgd s x 41 ho base 3 i0 (.int .i64 0) 1 8 Tryz.underlying41 hi hz0 hz1 hz2 rfl (by decide) v l.length _ hs hown' ⟨W.heap.size,0,none⟩ 1 1 [.int .i64 (y:Int)] hx rfl ?_ ?_ (by unfold maxLen;omega) (by omega) (by simp;omega) ?_
 ·intro j u hj
  rcases j with _ | j
  ·simp at hj
   subst hj;show (W.alloc _).cell? ⟨W.heap.size,0,none⟩=_;rw [cell_of_row _ _ _ _ _ _ hc];rfl
  simp at hj
 ·intro u hu
  simp at hu
  subst hu;rfl
 intro v' w' h1 h2 _;refine h v' w' (by unfold Own;rw [List.length_append,intC,List.map_append];exact h1) (hb.grown h2 (by simp;omega) (fun k hk=>?_)) (fun g hg hne=>?_)
 ·exact (hown.at_lt k hk).1
 exact (h2.block g (Nat.lt_of_lt_of_le hg hb'.size) (fun e=>hne e.symm)).trans (hb'.block g hg)
theorem contains_own (W:World) (base c:Nat) (A:Option Addr) (l:List Nat) (x:Nat) (h:Own W base (.slice A l.length c) l) (hl:l.length≤200000) :
  Calls Tryz.prog 49 #[.slice A l.length c,.int .i64 (x:Int)] W fun e w'=>e = .returned (.bool (l.contains x))∧W=w':=by
 obtain⟨A',c',e,hI⟩:=h.form;obtain⟨rfl,rfl⟩:A=A'∧c=c':=by injection e with e1 e2 e3;exact⟨e1,e3⟩
 rcases hI with rfl | ⟨g,o,rfl,hg,hc⟩
 ·exact (Tryz.slices_Contains_int_empty A c x W).mono fun e w' hh=>⟨by simpa using hh.1,hh.2.symm⟩
 refine (Tryz.slices_Contains_int g o l.length c (l.map Int.ofNat) x W (by simp) (by omega) (fun j hj=>?_)).mono fun e w' hh=>⟨?_,hh.2.symm⟩
 ·rw [List.length_map] at hj
  rw [hc j hj];simp [nth,List.getD,hj]
 rw [hh.1,show (List.map Int.ofNat l).take l.length=List.map Int.ofNat l from List.take_of_length_le (by simp)];congr 2
 rw [Bool.eq_iff_iff];simp
 exact⟨fun ⟨a,h,e⟩=>by rwa [← Int.ofNat_inj.1 e],fun h=>⟨x,h,rfl⟩⟩
theorem costR_of (b:Nat) (v0:RdV) (n p:Int) (w:World) (P:World→Prop)
  (NR:Calls Tryz.prog 134 #[.pointer (some ⟨b,0,none⟩),.int .i64 0,.int .i64 4611686018427387904] w fun e w'=>e = .returned (.tuple #[.int .i64 n,.int .i64 p])∧P w'∧w'.cell? ⟨b,6,none⟩=some (.int .i64 v0.top)) :
  Calls Tryz.prog 170 #[.pointer (some ⟨b,0,none⟩)] w fun e w'=>e = .returned (.tuple #[.int .i64 (min n v0.top),.int .i64 p])∧P w':=by
 replace NR:=hid NR;go_enter Tryz.func170,Tryz.ntmps170
 go_wp2_with (first | (go_at_call 134;refine NR.out.mono ?_;rintro e w1 ⟨rfl,hk,hc⟩;replace hk:=hid hk) | fail)
 go_ret2;refine⟨?_,hk.out⟩;congr 3
end Go.Proofs.YtmokogkndbinlaaGreatDoor
namespace Go.Proofs.YtmokogkndbinlaaGreatDoor
open Go.RowKit
def RdIs (W:World) (b sc:Nat) (s:ByteArray) (v:RdV) {α:Type}(a:α) (r:RdR α):Prop :=
 match r with
 | .ok x st'=>x=a∧RdOk W b sc s st' v
 | .bad e p=>RdBad W b e p { v with fp:=(p:Int),fe:=(e:Int) }
theorem GlobR.blk {W:World}(h:GlobR W):3 < W.heap.size:=by
 obtain⟨ev,h1,_⟩:=h;exact World.block_lt_of_cell? W _ h1
theorem GlobR.belowB {W W':World}{B:Nat}(h:GlobR W) (hb:Below B W W') (hB:3 < B):GlobR W':=by
 obtain⟨ev,h1,h2⟩:=h;exact⟨ev,(hb.cell (p:=⟨3,0,none⟩) hB).trans h1,h2⟩
theorem RdOk.belowB {W W':World}{b sc B:Nat}{s:ByteArray}{st:RdS}{v:RdV}(h:RdOk W b sc s st v) (hb:Below B W W') (h1:b < B) (h2:sc < B) (h3:3 < B):RdOk W' b sc s st v :=
 ⟨(hb.block b h1).trans h.at_,h.vsc,(hb.block sc h2).trans h.scan,h.ne,h.le,h.fits,h.fine,h.big,h.glob.belowB hb h3,h.gb,h.gs⟩
theorem RdBad.belowB {W W':World}{b e p B:Nat}{v:RdV}(h:RdBad W b e p v) (hb:Below B W W') (h1:b < B) (h3:3 < B):RdBad W' b e p v :=
 ⟨(hb.block b h1).trans h.at_,h.fe,h.fp,h.ne,h.glob.belowB hb h3,h.gb⟩
theorem RK.thenB {X Y Z:World}{p q:Nat}(h:RK X p q Y) (hb:Below X.heap.size Y Z):RK X p q Z :=
 ⟨hb.os.trans h.os,hb.tape.trans h.tape,hb.output.trans h.output,Nat.le_trans h.size hb.size,fun k hk hp hq=>(hb.block k hk).trans (h.block k hk hp hq)⟩
theorem RdBad.fault {W:World}{b e p:Nat}{v:RdV}(h:RdBad W b e p v):W.cell? ⟨b,1+1,none⟩=some (.int .i64 (e:Int)):=h.fe ▸ h.at_.cell (i:=2) rfl
theorem RdOk.fault {W:World}{b sc:Nat}{s:ByteArray}{st:RdS}{v:RdV}(h:RdOk W b sc s st v):W.cell? ⟨b,1+1,none⟩=some (.int .i64 0):=h.fine ▸ h.at_.cell (i:=2) rfl
def ScGo (s:ByteArray) (nv ar b sc:Nat) (v:RdV) (st:RdS) (wr:World) (j:Nat) (acc:List Nat):Prop :=
 (∃ st',RdOk wr b sc s st' v∧acc.length≤st'.k∧scopeM s.data.toList nv ar [] st=scopeM s.data.toList nv (ar - j) acc st') ∨
  ∃ e p,RdBad wr b e p { v with fp:=(p:Int),fe:=(e:Int) }∧scopeM s.data.toList nv ar [] st = .bad e p∧acc.length≤100001
structure AccIn (nv j:Nat) (acc:List Nat):Prop where
 lt:1≤nv→∀ x∈acc,x < nv
 few:acc.length≤100001
 len:acc.length≤j
theorem AccIn.mono {nv j j':Nat}{acc:List Nat}(h:AccIn nv j acc) (hj:j≤j'):AccIn nv j' acc:=⟨h.lt,h.few,Nat.le_trans h.len hj⟩
theorem AccIn.snoc {nv j y:Nat}{acc:List Nat}(h:AccIn nv j acc) (hl:acc.length≤100000) (hy:1≤nv→y < nv):AccIn nv (j+1) (acc++[y]):=by
 refine⟨fun h1 x hx=>?_,by simp;omega,by have:=h.len;simp;omega⟩;rcases List.mem_append.1 hx with hx | hx
 ·exact h.lt h1 x hx
 simp at hx
 rw [hx];exact hy h1
theorem scopeM_step {l:List UInt8} {nv m:Nat}{acc:List Nat}{s:RdS}:scopeM l nv (m+1) acc s=(numM l 0 ((nv:Int) - 1) s).bind fun v s'=>if acc.contains v.1.toNat then .bad 4 v.2 else scopeM l nv m (acc++[v.1.toNat]) s':=rfl
set_option maxRecDepth 100000 in
set_option maxHeartbeats 4000000 in
theorem scopeR (b sc nv cs ar:Nat) (As:Option Addr) (s:ByteArray) (st:RdS) (v:RdV) (w:World) (har:ar≤4611686018427387904) (hnv:nv≤100000) (h:RdOk w b sc s st v) (hv:v.sizes = .slice As nv cs) :
  Calls Tryz.prog 169 #[.pointer (some ⟨b,0,none⟩),.int .i64 (ar:Int)] w fun e w'=>∃ val acc,e = .returned val∧Own w' w.heap.size val acc∧RK w b sc w'∧AccIn nv ar acc∧RdIs w' b sc s v acc (scopeM s.data.toList nv ar [] st):=by
 have hb:b < w.heap.size:=h.lt;have hsc:sc < w.heap.size:=h.scan.lt;have HV:=hid hv;have HB:=hid (And.intro hb hsc);have HG:=hid h.glob.blk;have H0:=hid (show ScGo s nv ar b sc v st w 0 [] from .inl ⟨st,h,Nat.zero_le _,rfl⟩);have RT:=hid (fun W x (hc:W.cell? ⟨b,1+1,none⟩=some (.int .i64 x))=>right_at b 1 x W hc);clear h hv hb hsc;go_enter Tryz.func169,Tryz.ntmps169
 go_wp2_with fail
 go_loopw [5,6,7,8] (fun val i _ _ wr=>∃ (j:Nat) (acc:List Nat),i = .int .i64 (j:Int)∧j≤ar∧Own wr w.heap.size val acc∧RK w b sc wr∧AccIn nv j acc∧ScGo s nv ar b sc v st wr j acc) (fun _ i _ _ _=>ar - (intOf i).toNat)
 case atStart=>exact⟨0,[],rfl,Nat.zero_le _,own_nil _ _,RK.refl _ _ _,⟨fun _ _ h=>absurd h (by simp),by decide,Nat.le_refl _⟩,H0.out⟩
 case round =>
  obtain⟨j,acc,rfl,hj,hO,hK,hI,hS⟩:=hrel;have HI:=hid hI;clear hI;have HO:=hid hO;have HK:=hid hK;clear hO hK;obtain⟨A,c,rfl,_⟩:=HO.out.form;by_cases hlt:j < ar
  ·have d1:decide ((j:Int) < (ar:Int))=true:=decide_eq_true (by omega)
   rcases hS with ⟨st',hR,hal,hE⟩ | ⟨e,p,hR,hE,hal⟩
   ·have HR:=hid hR
    have HAL:=hid (show acc.length≤100000 from Nat.le_trans hal (Nat.le_trans hR.le hR.fits));have HAL':=hid hal;have R0:=hid (RT.out wr 0 hR.fault);have cS:wr.cell? ⟨b,7,none⟩=some (.slice As nv cs):=HV.out ▸ hR.at_.cell (i:=7) rfl;obtain⟨m,hm⟩:∃ m,ar - j=m+1:=⟨ar - j - 1,by omega⟩
    rw [hm,scopeM_step] at hE;have HM:=hid hm;have LT:=hid hlt;have hB1:=HB.out.1;have hB2:=HB.out.2;cases hq:numM s.data.toList 0 ((nv:Int) - 1) st' with
    | bad e p =>
     have HI':=hid (HI.out.snoc (y:=0) HAL.out (fun h=>by omega));have NB:=hid (numR_bad b sc s st' v 0 ((nv:Int) - 1) e p wr hR hq);rw [hq,RdR.bind_bad] at hE;have HE:=hid hE;have CT:=hid (fun W (ho:Own W w.heap.size (.slice A acc.length c) acc)=>contains_own W _ c A acc 0 ho (by have:=HAL.out;omega));have NT:=hid (fun W (hh:RdBad W b e p { v with fp:=(p:Int),fe:=(e:Int) })=>note_old b 1 (p:Int) 4 (e:Int) W hh.fault (by have:=hh.ne;omega));clear hE hq hm hR hal hlt;cases hc:acc.contains 0 with
     | true =>
      rw [hc] at CT;clear hc;go_wp2_with (first | (go_at_call 75;refine R0.out.mono ?_;rintro e w' ⟨rfl,rfl⟩) | (go_at_call 134;refine NB.out.mono ?_;rintro e w1 ⟨rfl,hk,ho⟩;have OW:=hid (HO.out.rk hk hB1 hB2);replace hk:=hid hk;replace ho:=hid ho) | (go_at_call 49;refine (CT.out _ OW.out).mono ?_;rintro e w' ⟨rfl,rfl⟩) | (go_at_call 166;refine (NT.out _ ho.out).mono ?_;rintro e w' ⟨⟨_,rfl⟩,rfl⟩) | (at_builtin;refine push_nat rfl (.tmp 39) (.tmp 41) rfl w1 w.heap.size (.slice A acc.length c) acc 0 0 rfl rfl rfl OW.out (HK.out.trans hk.out).size HAL.out ?_;intro v' w2 h1 h2 _;replace h1:=hid h1;replace h2:=hid h2) | fail)
      refine⟨⟨j+1,acc++[0],by simp,by have:=LT.out;omega,h1.out,(HK.out.trans hk.out).thenB h2.out,HI'.out,.inr ⟨e,p,ho.out.belowB h2.out hB1 HG.out,HE.out,by simp;have:=HAL.out;omega⟩⟩,by simp [intOf];have:=LT.out;omega⟩
     | false =>
      rw [hc] at CT;clear hc;go_wp2_with (first | (go_at_call 75;refine R0.out.mono ?_;rintro e w' ⟨rfl,rfl⟩) | (go_at_call 134;refine NB.out.mono ?_;rintro e w1 ⟨rfl,hk,ho⟩;have OW:=hid (HO.out.rk hk hB1 hB2);replace hk:=hid hk;replace ho:=hid ho) | (go_at_call 49;refine (CT.out _ OW.out).mono ?_;rintro e w' ⟨rfl,rfl⟩) | (at_builtin;refine push_nat rfl (.tmp 39) (.tmp 41) rfl w1 w.heap.size (.slice A acc.length c) acc 0 0 rfl rfl rfl OW.out (HK.out.trans hk.out).size HAL.out ?_;intro v' w2 h1 h2 _;replace h1:=hid h1;replace h2:=hid h2) | fail)
      refine⟨⟨j+1,acc++[0],by simp,by have:=LT.out;omega,h1.out,(HK.out.trans hk.out).thenB h2.out,HI'.out,.inr ⟨e,p,ho.out.belowB h2.out hB1 HG.out,HE.out,by simp;have:=HAL.out;omega⟩⟩,by simp [intOf];have:=LT.out;omega⟩
    | ok np st2 =>
     obtain⟨n,p⟩:=np;obtain⟨t,k1,k2,-,-,k3,k4⟩:=numM_ok.1 hq;simp only at k1 k2 k3 k4;obtain⟨y,rfl⟩:=Int.eq_ofNat_of_zero_le k3;have HI':=hid (HI.out.snoc (y:=y) HAL.out (fun h=>by omega));have HLT:=hid (show st'.k < st2.k by
      have h1:=stepW_word (by rw [size_list];exact hR.le) k1;rw [k2];show st'.k < t;omega)
     have NB:=hid (numR_ok b sc s st' st2 v 0 ((nv:Int) - 1) y p wr hR hq);rw [hq,RdR.bind_ok] at hE;simp only [Int.toNat_natCast] at hE;have CT:=hid (fun W (ho:Own W w.heap.size (.slice A acc.length c) acc)=>contains_own W _ c A acc y ho (by have:=HAL.out;omega));cases hc:acc.contains y with
     | true =>
      rw [hc] at CT hE;have HE:=hid (show scopeM s.data.toList nv ar [] st = .bad 4 p from hE);have NT:=hid (fun W (hh:RdOk W b sc s st2 v)=>note_new b 1 (p:Int) 4 W _ _ hh.at_ (Or.inr ⟨v.fp,rfl⟩) (hh.fine ▸ rfl));clear hE hq hm hR hal hlt k1 k2 k3 k4 hc;go_wp2_with (first | (go_at_call 75;refine R0.out.mono ?_;rintro e w' ⟨rfl,rfl⟩) | (go_at_call 134;refine NB.out.mono ?_;rintro e w1 ⟨rfl,hk,ho⟩;have OW:=hid (HO.out.rk hk hB1 hB2);replace hk:=hid hk;replace ho:=hid ho) | (go_at_call 49;refine (CT.out _ OW.out).mono ?_;rintro e w' ⟨rfl,rfl⟩) | (go_at_call 166;refine (NT.out _ ho.out).mono ?_;rintro e w3 ⟨⟨_,rfl⟩,q1,q2⟩;have OW3:=hid (OW.out.rk (RK.grown1 (q:=sc) q2) hB1 hB2);have HB3:=hid (ho.out.told (e:=4) (p:=p) (by decide) q1 q2);replace q2:=hid (hk.out.trans (RK.grown1 (q:=sc) q2));clear q1) | (at_builtin;refine push_nat rfl (.tmp 39) (.tmp 41) rfl w3 w.heap.size (.slice A acc.length c) acc y y rfl rfl rfl OW3.out (HK.out.trans q2.out).size HAL.out ?_;intro v' w2 h1 h2 _;replace h1:=hid h1;replace h2:=hid h2) | fail)
      refine⟨⟨j+1,acc++[y],by simp,by have:=LT.out;omega,h1.out,(HK.out.trans q2.out).thenB h2.out,HI'.out,.inr ⟨4,p,HB3.out.belowB h2.out hB1 HG.out,HE.out,by simp;have:=HAL.out;omega⟩⟩,by simp [intOf];have:=LT.out;omega⟩
     | false =>
      rw [hc] at CT hE;have HE:=hid (show scopeM s.data.toList nv ar [] st=scopeM s.data.toList nv (ar - (j+1)) (acc++[y]) st2 by
       rw [show ar - (j+1)=m by have:=HM.out;omega];exact hE)
      clear hE hq hm hR hal hlt k1 k2 k3 k4 hc;go_wp2_with (first | (go_at_call 75;refine R0.out.mono ?_;rintro e w' ⟨rfl,rfl⟩) | (go_at_call 134;refine NB.out.mono ?_;rintro e w1 ⟨rfl,hk,ho⟩;have OW:=hid (HO.out.rk hk hB1 hB2);replace hk:=hid hk;replace ho:=hid ho) | (go_at_call 49;refine (CT.out _ OW.out).mono ?_;rintro e w' ⟨rfl,rfl⟩) | (at_builtin;refine push_nat rfl (.tmp 39) (.tmp 41) rfl w1 w.heap.size (.slice A acc.length c) acc y y rfl rfl rfl OW.out (HK.out.trans hk.out).size HAL.out ?_;intro v' w2 h1 h2 _;replace h1:=hid h1;replace h2:=hid h2) | fail)
      refine⟨⟨j+1,acc++[y],by simp,by have:=LT.out;omega,h1.out,(HK.out.trans hk.out).thenB h2.out,HI'.out,.inl ⟨st2,ho.out.belowB h2.out hB1 hB2 HG.out,by simp;have:=HAL'.out;have:=HLT.out;omega,HE.out⟩⟩,by simp [intOf];have:=LT.out;omega⟩
   have R0:=hid (RT.out wr e hR.fault);have d2:((e:Int) == 0)=false:=by have:=hR.ne;simpa using this
   rw [d2] at R0;have HR:=hid hR;have HE:=hid hE;clear hR hE d2;go_wp2_with (first | (go_at_call 75;refine R0.out.mono ?_;rintro e w' ⟨rfl,rfl⟩) | fail)
   go_ret;refine⟨_,acc,rfl,HO.out,HK.out,HI.out.mono hj,?_⟩;rw [HE.out];exact HR.out
  have d1:decide ((j:Int) < (ar:Int))=false:=decide_eq_false (by omega);have HS:=hid hS;have HJ:=hid hlt;clear hS hlt;go_wp2_with fail
  go_ret;refine⟨_,acc,rfl,HO.out,HK.out,HI.out.mono hj,?_⟩;rcases HS.out with ⟨st',hR,hal,hE⟩ | ⟨e,p,hR,hE,hal⟩
  ·rw [hE,show ar - j=0 by have:=HJ.out;omega]
   exact⟨rfl,hR⟩
  rw [hE];exact hR
end Go.Proofs.YtmokogkndbinlaaGreatDoor
namespace Go.Proofs.YtmokogkndbinlaaGreatDoor
open Go.RowKit
def IntsK (W:World) (b sc:Nat) (A:Option Addr) (l:List Nat):Prop :=
 l=[]∨∃ g o,A=some ⟨g,o,none⟩∧g < W.heap.size∧g≠b∧g≠sc∧∀ i,i < l.length→W.cell? ⟨g,o+i,none⟩=some (.int .i64 (nth l i:Int))
theorem IntsK.rk {W W':World}{b sc:Nat}{A:Option Addr}{l:List Nat}(h:IntsK W b sc A l) (hk:RK W b sc W'):IntsK W' b sc A l:=by
 rcases h with rfl | ⟨g,o,rfl,hg,h1,h2,hc⟩
 ·exact .inl rfl
 exact .inr ⟨g,o,rfl,Nat.lt_of_lt_of_le hg hk.size,h1,h2,fun i hi=>(World.cell?_of_block (hk.block g hg h1 h2)).trans (hc i hi)⟩
theorem IntsK.at_ {W:World}{b sc:Nat}{A:Option Addr}{l:List Nat}(h:IntsK W b sc A l) {i:Nat}(hi:i < l.length):∃ g o,A=some ⟨g,o,none⟩∧W.cell? ⟨g,o+i,none⟩=some (.int .i64 (nth l i:Int)):=by
 rcases h with rfl | ⟨g,o,rfl,hg,h1,h2,hc⟩
 ·exact absurd hi (by simp)
 exact⟨g,o,rfl,hc i hi⟩
theorem IntsK.own {W:World}{b sc base c:Nat}{A:Option Addr}{l:List Nat}(h:Own W base (.slice A l.length c) l) (h1:b < base) (h2:sc < base):IntsK W b sc A l:=by
 obtain⟨A',c',e,hI⟩:=h.form;obtain⟨rfl,rfl⟩:A=A'∧c=c':=by injection e with e1 e2 e3;exact⟨e1,e3⟩
 rcases hI with rfl | ⟨g,o,rfl,hg,hc⟩
 ·exact .inl rfl
 have:=(h.at_lt g rfl).1;exact .inr ⟨g,o,rfl,hg,by omega,by omega,hc⟩
theorem acc_le {acc:List Nat}{y N:Nat}(h:∀ x∈acc,x≤N) (hy:y≤N):∀ x∈acc++[y],x≤N:=by
 intro x hx;rcases List.mem_append.1 hx with hx | hx
 ·exact h x hx
 simp at hx
 omega
def TpGo (s:ByteArray) (sizes scope:List Nat) (b sc:Nat) (v:RdV) (st:RdS) (wr:World) (j:Nat) (acc:List Nat):Prop :=
 (∃ st',RdOk wr b sc s st' v∧tupleM s.data.toList sizes scope [] st=tupleM s.data.toList sizes (scope.drop j) acc st') ∨
  ∃ e p,RdBad wr b e p { v with fp:=(p:Int),fe:=(e:Int) }∧tupleM s.data.toList sizes scope [] st = .bad e p
theorem tupleM_step {l:List UInt8} {sizes:List Nat}{v:Nat}{r acc:List Nat}{s:RdS}:tupleM l sizes (v::r) acc s=(numM l 0 ((sizes.getD v 0:Nat) - 1:Int) s).bind fun c s'=>tupleM l sizes r (acc++[c.1.toNat]) s':=rfl
set_option maxRecDepth 100000 in
set_option maxHeartbeats 4000000 in
theorem tupleR (b sc cs cc:Nat) (As Ac:Option Addr) (sizes scope:List Nat) (s:ByteArray) (st:RdS) (v:RdV) (w:World) (hnv:sizes.length≤100000) (hsm:∀ x∈sizes,x≤4611686018427387904) (hlen:scope.length≤100001) (hin:∀ x∈scope,x < sizes.length)
  (h:RdOk w b sc s st v) (hv:v.sizes = .slice As sizes.length cs) (hS:IntsK w b sc As sizes) (hC:IntsK w b sc Ac scope) :
  Calls Tryz.prog 214 #[.pointer (some ⟨b,0,none⟩),.slice Ac scope.length cc] w fun e w'=>∃ A c acc,e = .returned (.slice A scope.length c)∧acc.length=scope.length∧(∀ x∈acc,x≤4611686018427387904)∧Own w' w.heap.size (.slice A scope.length c) acc∧RK w b sc w'∧RdIs w' b sc s v acc (tupleM s.data.toList sizes scope [] st):=by
 obtain⟨i0,hi,hz0,hz1,hz2⟩:=info_parts info_int;obtain⟨w0,hm,how,hgw⟩:=run_make_own w w.heap.size 41 3 i0 (.int .i64 0) 1 Tryz.underlying41 hi hz0 hz1 .i64 .i64 scope.length (by rw [hz2];omega) (by unfold maxLen;omega) (Nat.le_refl _);have hb:b < w.heap.size:=h.lt;have hsc:sc < w.heap.size:=h.scan.lt;have HV:=hid hv;have HB:=hid (And.intro hb hsc);have HG:=hid h.glob.blk;have HSM:=hid hsm;have HIN:=hid hin;have HLN:=hid (And.intro hlen hnv);have HS:=hid hS;have HC:=hid hC;have hbw:Below w.heap.size w w0:=⟨hgw.os,hgw.tape,hgw.output,hgw.size,fun k hk=>hgw.block k hk (by simp)⟩
 have HW:=hid hbw;have HOW:=hid (show Own w0 w.heap.size _ [] from how);have H0:=hid (show TpGo s sizes scope b sc v st w0 0 [] from .inl ⟨st,h.below hbw,rfl⟩);clear h hv hb hsc hS hC hbw how hgw hsm hin hi hz0 hz1 hz2 hlen hnv;go_enter Tryz.func214,Tryz.ntmps214
 go_wp2_with fail
 clear hm;go_loopw [5,7,8,9,15] (fun val _ _ _ i wr=>∃ (j:Nat) (acc:List Nat),i = .int .i64 (j:Int)∧j≤scope.length∧acc.length=j∧(∀ x∈acc,x≤4611686018427387904)∧Own wr w.heap.size val acc∧RK w b sc wr∧TpGo s sizes scope b sc v st wr j acc) (fun _ _ _ _ i _=>scope.length - (intOf i).toNat)
 case atStart=>exact⟨0,[],rfl,Nat.zero_le _,rfl,fun x hx=>absurd hx (by simp),HOW.out,RK.below HW.out,H0.out⟩
 case round =>
  obtain⟨j,acc,rfl,hj,ha,hle,hO,hK,hG⟩:=hrel;have HLE:=hid hle;clear hle;have HO:=hid hO;have HK:=hid hK;have HA:=hid ha;have HJ:=hid hj;clear hO hK ha hj;obtain⟨A,c,rfl,_⟩:=HO.out.form;by_cases hlt:j < scope.length
  ·have d1:decide ((j:Int) < (scope.length:Int))=true:=decide_eq_true (by omega)
   obtain⟨gc,oc,rfl,hcc⟩:=(HC.out.rk HK.out).at_ hlt;have hx:=HIN.out (nth scope j) (nth_mem hlt);obtain⟨gs,os,rfl,hss⟩:=(HS.out.rk HK.out).at_ hx;have hsz:=HSM.out (nth sizes (nth scope j)) (nth_mem hx);have hdr:scope.drop j=nth scope j::scope.drop (j+1):=by rw [List.drop_eq_getElem_cons hlt];simp [nth,List.getD,hlt]
   have HDR:=hid hdr;have hj5:j≤100001:=by have:=HLN.out.1;omega
   have LT:=hid hlt;have HAL:=hid (show acc.length≤100000 by have:=HLN.out.1;have:=HA.out;omega);have hB1:=HB.out.1;have hB2:=HB.out.2;have HZ:=hid (show (sizes.getD (nth scope j) 0:Nat)=nth sizes (nth scope j) from rfl);clear hdr;generalize nth scope j=x at hcc hx hss hsz HDR HZ;generalize nth sizes x=z at hss hsz HZ;rcases hG with ⟨st',hR,hE⟩ | ⟨e,p,hR,hE⟩
   rotate_left
   ·have c7:wr.cell? ⟨b,7,none⟩=some (.slice (some ⟨gs,os,none⟩) sizes.length cs):=HV.out ▸ hR.at_.cell (i:=7) rfl
    have HY:=hid (show 0≤4611686018427387904 by omega);have NB:=hid (numR_still b e p _ 0 ((z:Int) - 1) wr hR);have HE:=hid hE;clear hE hR;go_wp2_with (first | (go_at_call 134;refine NB.out.mono ?_;rintro e w1 ⟨rfl,hb0,ho⟩;have OW:=hid (HO.out.below hb0 (Nat.le_refl _));have hk:=hid (RK.below (p:=b) (q:=sc) hb0);clear hb0;replace ho:=hid ho) | (at_builtin;refine push_nat rfl (.tmp 32) (.tmp 34) rfl w1 w.heap.size (.slice A acc.length c) acc 0 0 rfl rfl rfl OW.out (HK.out.trans hk.out).size HAL.out ?_;intro v' w2 h1 h2 _;replace h1:=hid h1;replace h2:=hid h2) | fail)
    refine⟨⟨j+1,acc++[0],by simp,by have:=LT.out;omega,by simp;exact HA.out,acc_le HLE.out (HY.out),h1.out,(HK.out.trans hk.out).thenB h2.out,.inr ⟨e,p,ho.out.belowB h2.out hB1 HG.out,HE.out⟩⟩,by simp [intOf];have:=LT.out;omega⟩
   have c7:wr.cell? ⟨b,7,none⟩=some (.slice (some ⟨gs,os,none⟩) sizes.length cs):=HV.out ▸ hR.at_.cell (i:=7) rfl;rw [HDR.out,tupleM_step,HZ.out] at hE;cases hq:numM s.data.toList 0 ((z:Int) - 1) st' with
   | bad e p =>
    have HY:=hid (show 0≤4611686018427387904 by omega);have NB:=hid (numR_bad b sc s st' v 0 ((z:Int) - 1) e p wr hR hq);rw [hq,RdR.bind_bad] at hE;have HE:=hid hE;clear hE hq hR;go_wp2_with (first | (go_at_call 134;refine NB.out.mono ?_;rintro e w1 ⟨rfl,hk,ho⟩;have OW:=hid (HO.out.rk hk hB1 hB2);replace hk:=hid hk;replace ho:=hid ho) | (at_builtin;refine push_nat rfl (.tmp 32) (.tmp 34) rfl w1 w.heap.size (.slice A acc.length c) acc 0 0 rfl rfl rfl OW.out (HK.out.trans hk.out).size HAL.out ?_;intro v' w2 h1 h2 _;replace h1:=hid h1;replace h2:=hid h2) | fail)
    refine⟨⟨j+1,acc++[0],by simp,by have:=LT.out;omega,by simp;exact HA.out,acc_le HLE.out (HY.out),h1.out,(HK.out.trans hk.out).thenB h2.out,.inr ⟨e,p,ho.out.belowB h2.out hB1 HG.out,HE.out⟩⟩,by simp [intOf];have:=LT.out;omega⟩
   | ok np st2 =>
    obtain⟨n,p⟩:=np;obtain⟨t,k1,k2,-,-,k3,k4⟩:=numM_ok.1 hq;simp only at k1 k2 k3 k4;obtain⟨y,rfl⟩:=Int.eq_ofNat_of_zero_le k3;have HY:=hid (show y≤4611686018427387904 by omega);have NB:=hid (numR_ok b sc s st' st2 v 0 ((z:Int) - 1) y p wr hR hq);rw [hq,RdR.bind_ok] at hE;simp only [Int.toNat_natCast] at hE;have HE:=hid hE;clear hE hq hR k1 k2 k3 k4;go_wp2_with (first | (go_at_call 134;refine NB.out.mono ?_;rintro e w1 ⟨rfl,hk,ho⟩;have OW:=hid (HO.out.rk hk hB1 hB2);replace hk:=hid hk;replace ho:=hid ho) | (at_builtin;refine push_nat rfl (.tmp 32) (.tmp 34) rfl w1 w.heap.size (.slice A acc.length c) acc y y rfl rfl rfl OW.out (HK.out.trans hk.out).size HAL.out ?_;intro v' w2 h1 h2 _;replace h1:=hid h1;replace h2:=hid h2) | fail)
    refine⟨⟨j+1,acc++[y],by simp,by have:=LT.out;omega,by simp;exact HA.out,acc_le HLE.out (HY.out),h1.out,(HK.out.trans hk.out).thenB h2.out,.inl ⟨st2,ho.out.belowB h2.out hB1 hB2 HG.out,HE.out⟩⟩,by simp [intOf];have:=LT.out;omega⟩
  have d1:decide ((j:Int) < (scope.length:Int))=false:=decide_eq_false (by omega);obtain rfl:j=scope.length:=by have:=HJ.out;omega
  have HG':=hid hG;clear hG;go_wp2_with fail
  go_ret;refine⟨A,c,acc,by first | rfl | (show Ending.returned (.slice A acc.length c)=_;rw [HA.out]),HA.out,HLE.out,by first | exact HO.out | (rw [← HA.out];exact HO.out),HK.out,?_⟩;rcases HG'.out with ⟨st',hR,hE⟩ | ⟨e,p,hR,hE⟩
  ·rw [hE,List.drop_length]
   exact⟨rfl,hR⟩
  rw [hE];exact hR
end Go.Proofs.YtmokogkndbinlaaGreatDoor
