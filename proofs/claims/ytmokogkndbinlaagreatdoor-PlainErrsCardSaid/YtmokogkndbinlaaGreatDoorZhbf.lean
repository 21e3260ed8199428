import Derived.Test.YtmokogkndbinlaaGreatDoorZhbe
import Derived.Test.YtmokogkndbinlaaGreatDoorZhbd
set_option linter.all false
namespace Go.Proofs.YtmokogkndbinlaaGreatDoor
open Go.Lib (hid)
open Go.RowKit
theorem plc_rise {s:List Nat}(hs:Rises s):plcL s s=List.range s.length:=by
 refine ext_nth (by simp [plcL]) fun i hi=>?_;have hi':i < s.length:=by simpa [plcL] using hi
 rw [plcL_nth hi',cnt_nth (rises_lt hs) hi',nth_rangeL hi']
theorem join_rise (g1 h1 g2 h2 n c1 c2 P:Nat) (A1 A2:Option Addr) (s l:List Nat) (k:Int) (z1 z2:Nat→Int) (w:World) (T1:TabAt w g1 h1 l k z1) (T2:TabAt w g2 h2 l k z2) (hl:l.length=n) (hsn:s.length=n) (hs:Rises s) (hn:n≤6)
  (hA1:Ints w A1 s) (hA2:Ints w A2 s) (e1:A1=none→c1=0) (e2:A2=none→c2=0)
  (hls:∀ n∈l,1≤n∧n≤32) (hP:prodL l=P) (hP4:P≤4096) (hk1:1≤k) (hk2:k≤2147483648) (hz1:∀ i,i < P→0≤z1 i∧z1 i≤k) (hz2:∀ i,i < P→0≤z2 i∧z2 i≤k) :
  Calls Tryz.prog 140 #[.pointer (some ⟨g1,0,none⟩),.slice A1 n c1,.pointer (some ⟨g2,0,none⟩),.slice A2 n c2] w fun e w'=>∃ g' h' A' c',e = .returned (.tuple #[.pointer (some ⟨g',0,none⟩),.slice A' n c',.int .i64 0])∧TabAt w' g' h' l k (fun i=>capA (z1 i) (z2 i) k)∧w.heap.size≤g'∧w.heap.size≤h'∧Below w.heap.size w w':=by
 obtain⟨V,hV,HU⟩:=uni_ex s s;obtain rfl:=uni_self HU hs;have ag:=ag_self (l:=l) hs;have js:=join_self hl;have ps:plcL V V=List.range n:=by rw [plc_rise hs,hsn]
 have J:=join_ok g1 h1 n c1 g2 h2 n c2 P A1 A2 l l V V V k z1 z2 w T1 T2 hl hl hsn hsn hA1 hA2 hn hn e1 e2 hs hs ag hV (by rw [hsn];exact hn) (lt_le (rises_lt hs))
  (by rw [ps,hsn,js,pick_range hl]) (by rw [ps,hsn,js,pick_range hl]) (fun i hi=>by rw [ps,nth_rangeL hi,hsn];exact hi) (fun i hi=>by rw [ps,nth_rangeL hi,hsn];exact hi)
  (by rw [ps,hsn,js];exact hls) (fun x hx=>(hls x hx).2) (fun x hx=>(hls x hx).2) (by rw [ps,hsn,js];exact hP) hP4 hk1 hk2 (by rw [hP];exact hz1) (by rw [hP];exact hz2)
 refine J.mono ?_;rintro e w' ⟨g',h',A',c',rfl,hT,_,hg,hh,hb⟩;rw [ps,hsn,js] at hT;rw [hsn];refine⟨g',h',A',c',rfl,hT.congr fun i hi=>?_,hg,hh,hb⟩;unfold joinZ;rw [pick_range (by rw [tupL_length,hl]),num_tup hi]
end Go.Proofs.YtmokogkndbinlaaGreatDoor
namespace Go.Proofs.YtmokogkndbinlaaGreatDoor
open Go.Lib (hid)
attribute [local go_sem] Oper.semAt_some
open Go.RowKit Go.Shelf
theorem info_part:(Tryz.prog.info? 129).map (fun i=>(i.zero,i.size,i.bytes))=some (some (.agg #[.slice none 0 0,.pointer none]),2,32):=by kernel_rfl
theorem madeP (n:Nat) (hn:n≤100000) (W:World):(Instr.makeSlice 126 (.int .i64 (n:Int)) (.int .i64 (n:Int))).run Tryz.prog W = .ok (.slice (some ⟨W.heap.size,0,none⟩) n n) (W.alloc (.cells (madeCells #[.slice none 0 0,.pointer none] (n * 2)) 129)):=by
 obtain⟨i,hi,hz⟩:=Option.map_eq_some_iff.1 info_part;simp only [Prod.mk.injEq] at hz;obtain⟨h0,h1,h2⟩:=hz;have h:=run_makeSlice (P:=Tryz.prog) W 126 129 i (.agg #[.slice none 0 0,.pointer none]) Tryz.underlying126 hi h0 .i64 .i64 (n:Int) (n:Int) (by omega) (by omega) (by rw [h1];simp;omega) (by rw [h2];omega) (by omega);have hc:(Value.agg #[.slice none 0 0,.pointer none]).cells=#[.slice none 0 0,.pointer none]:=rfl;rw [h1,hc] at h;simpa using h
def parF (us:List (Value × Value)) (q:Nat):Value :=
 match us[q / 2]? with
 | some x=>if q % 2=0 then x.1 else x.2
 | none=>if q % 2=0 then .slice none 0 0 else .pointer none
theorem rowIs_madeP (n:Nat) (W:World):(W.alloc (.cells (madeCells #[.slice none 0 0,.pointer none] (n * 2)) 129)).rowIs W.heap.size 129 (n * 2) (parF []):=by
 refine⟨_,heap_alloc_new _ _,size_madeCells _ _,fun i hi=>?_⟩;rcases Nat.mod_two_eq_zero_or_one i with e | e <;> simp [madeCells,hi,parF,e]
theorem parF_snoc (us:List (Value × Value)) (x:Value × Value) (q:Nat):(if q=us.length * 2+1 then x.2 else if q=us.length * 2 then x.1 else parF us q)=parF (us++[x]) q:=by
 by_cases e:q=us.length * 2+1
 ·rw [if_pos e]
  have h1:q / 2=us.length:=by omega
  have h2:q % 2=1:=by omega
  simp [parF,h1,h2]
 rw [if_neg e];by_cases e2:q=us.length * 2
 ·rw [if_pos e2]
  have h1:q / 2=us.length:=by omega
  have h2:q % 2=0:=by omega
  simp [parF,h1,h2]
 rw [if_neg e2];unfold parF;rcases Nat.lt_or_ge (q / 2) us.length with h | h
 ·rw [List.getElem?_append_left h]
 rw [List.getElem?_eq_none (by omega),List.getElem?_eq_none (by simp;omega)]
def KeepP (W W':World):Prop:=∀ (q:Nat) (c:Array Value) (e:TypeId),W.heap[q]? = some (.cells c e (0,0))→e≠129→W'.heap[q]? = W.heap[q]?
theorem KeepP.refl (W:World):KeepP W W:=fun _ _ _ _ _=>rfl
theorem KeepP.trans {W W' W2:World}(h:KeepP W W') (k:KeepP W' W2):KeepP W W2:=fun q c e hq he=>(k q c e ((h q c e hq he).trans hq) he).trans (h q c e hq he)
theorem KeepP.below {W W':World}(h:Below W.heap.size W W'):KeepP W W':=fun q _ _ hq _=>h.block q (Array.getElem?_eq_some_iff.1 hq).1
theorem KeepP.grown {W W':World}{g:Nat}{c:Array Value}{fr:Nat × Nat}(h:W.grownBy W' (some g)) (hg:W.heap[g]? = some (.cells c 129 fr)):KeepP W W':=fun q c' e hq he=>h.block q (Array.getElem?_eq_some_iff.1 hq).1 (fun e'=>by
 obtain rfl:q=g:=Option.some.inj e';rw [hg] at hq;injection hq with hq;injection hq with _ h2 _;exact he h2.symm)
theorem KeepP.set {W:World}{g i:Nat}{c:Array Value}{fr:Nat × Nat}(hg:W.heap[g]? = some (.cells c 129 fr)) (v:Value):KeepP W (W.setCell ⟨g,i,none⟩ v):=fun q c' e hq he=>Below.heap_setCell W ⟨g,i,none⟩ v q (fun e'=>by
 have e':q=g:=e';subst e';rw [hg] at hq;injection hq with hq;injection hq with _ h2 _;exact he h2.symm)
def PartA (W:World) (base:Nat) (k:Int) (sizes:List Nat) (x:Value × Value) (p:PartM):Prop :=
 Own W base x.1 p.scope∧∃ g h,x.2 = .pointer (some ⟨g,0,none⟩)∧TabAt W g h (pickN sizes p.scope) k p.z∧base≤g∧base≤h
theorem PartA.keep {W W':World}{base:Nat}{k:Int}{sizes:List Nat}{x:Value × Value}{p:PartM}(h:PartA W base k sizes x p) (hk:KeepP W W'):PartA W' base k sizes x p:=by
 obtain⟨ho,g,hh,e,ht,h1,h2⟩:=h;refine⟨own_keep ho fun q cur _ hq=>hk q cur _ hq (by decide),g,hh,e,tab_keep ht (hk g _ _ ht.row (by decide)) ?_,h1,h2⟩;obtain⟨cur,hc,_⟩:=ht.costs;exact hk hh _ _ hc (by decide)
theorem PartA.one {W:World}{base:Nat}{k:Int}{sizes:List Nat}{x:Value × Value}{p:PartM}(h:PartA W base k sizes x p):x.1.oneCell'=true∧x.2.oneCell'=true:=by
 obtain⟨ho,g,hh,e,_⟩:=h;obtain⟨A,c,e1,_⟩:=ho.form;rw [e,e1];exact⟨rfl,rfl⟩
def partsM (k:Int) (sizes:List Nat) (fs:List FunM):List PartM:=fs.map fun f=>risM sizes f.scope (funF k f)
end Go.Proofs.YtmokogkndbinlaaGreatDoor
namespace Go.Proofs.YtmokogkndbinlaaGreatDoor
open Go.Lib (hid)
open Go.RowKit Go.Shelf Go.Maps Go.Sort
theorem get_of {α:Type}{l:List α} {n:Nat}(h:l.length=n) (i:Fin n):l[i.val]? = some (l[i.val]'(by rw [h];exact i.isLt)):=List.getElem?_eq_getElem _
theorem map_ofFn {α:Type}{l:List α} {n:Nat}(h:l.length=n):(Array.ofFn (id:Fin n→Fin n)).toList.map (fun i=>l[i.val]'(by rw [h];exact i.isLt))=l:=by
 apply List.ext_getElem
 ·simp [h]
 intro i h1 h2;simp
theorem parF_at {us:List (Value × Value)} {n:Nat}(hu:us.length=n) {q:Nat}(hq:q < n * 2):parF us q=if q % 2=0 then (us[q / 2]'(by omega)).1 else (us[q / 2]'(by omega)).2:=by
 unfold parF;rw [List.getElem?_eq_getElem (by omega)]
theorem sortP_list (gb n cap base:Nat) (k:Int) (sizes:List Nat) (us:List (Value × Value)) (ps:List PartM) (w:World) (hu:us.length=n) (hp:ps.length=n) (hn:n≤1000000) (hrow:w.rowIs gb 129 (n * 2) (parF us))
  (hpa:∀ (i:Nat) x p,us[i]? = some x→ps[i]? = some p→PartA w base k sizes x p) (hsc:∀ p∈ps,p.scope.length≤1000000) :
  Calls Tryz.prog 138 #[.slice (some ⟨gb,0,none⟩) n cap,.func (.func 139) #[] #[]] w fun e w'=>e = .returned (.tuple #[])∧(∃ (vs:List (Value × Value)) (qs:List PartM),vs.length=n∧qs.length=n∧qs.Perm ps∧qs.Pairwise (fun p q=>¬ ltS q.scope p.scope)∧w'.rowIs gb 129 (n * 2) (parF vs)∧∀ (i:Nat) x p,vs[i]? = some x→qs[i]? = some p→PartA w' base k sizes x p)∧w.grownBy w' (some gb):=by
 obtain⟨cur,hc,hcs,hcv⟩:=hrow;by_cases h0:n=0
 ·subst h0
  obtain rfl:us=[]:=List.eq_nil_of_length_eq_zero hu;obtain rfl:ps=[]:=List.eq_nil_of_length_eq_zero hp;refine (AnyF.slices_SortFunc_none Tryz.sortP (some ⟨gb,0,none⟩) cap (.func (.func 139) #[] #[]) w).mono ?_;rintro e w' ⟨rfl,rfl⟩;exact⟨rfl,⟨[],[],rfl,rfl,List.Perm.refl _,List.Pairwise.nil,⟨cur,hc,hcs,hcv⟩,fun i x p h=>by simp at h⟩,⟨rfl,rfl,rfl,Nat.le_refl _,fun _ _ _=>rfl⟩⟩
 haveI:Inhabited (Fin n):=⟨⟨0,by omega⟩⟩
 let uf:Fin n→Value × Value:=fun i=>us[i.val]'(by rw [hu];exact i.isLt)
 let pf:Fin n→PartM:=fun i=>ps[i.val]'(by rw [hp];exact i.isLt)
 have hA:∀ i,PartA w base k sizes (uf i) (pf i):=fun i=>hpa i.val _ _ (get_of hu i) (get_of hp i);have hgb:gb < w.heap.size:=(Array.getElem?_eq_some_iff.1 hc).1;have hof:(Array.ofFn (id:Fin n→Fin n)).size=n:=Array.size_ofFn;have hH:HoldsK (encP uf) 2 w gb 0 (Array.ofFn id):=by
  intro j hj;have hj:j < n * 2:=by simpa [hof] using hj
  refine⟨?_,by simp [World.frozen?,hc]⟩;rw [Nat.zero_add,cell_of_row w gb j cur _ (0,0) hc,hcv j hj,parF_at hu hj,get_flatK (encP uf) 2 _ j (by rw [hof];exact hj)];have e:(Array.ofFn (id:Fin n→Fin n))[j / 2]! = ⟨j / 2,by omega⟩:=by
   rw [getElem!_pos _ (j / 2) (by rw [hof];omega)];simp
  rw [e];rcases Nat.mod_two_eq_zero_or_one j with e2 | e2 <;> simp [encP,uf,e2]
 have S:=sortP_any n gb cap uf (fun i=>(pf i).scope) w hgb hn hH (fun i=>(hA i).one) (fun i=>by
  obtain⟨ho,g,hh,e1,ht,_,_⟩:=hA i;obtain⟨A,c,e2,hi⟩:=ho.form;refine⟨A,c,e2,hsc _ (List.getElem_mem _),hi,fun a ha=>?_⟩;rintro rfl;subst ha;obtain⟨c',fz,hk⟩:=ho.kind a.block (by rw [e2];rfl);rw [hc] at hk;injection hk with hk;injection hk with _ h2 _;exact absurd h2 (by decide))
 refine S.mono ?_;rintro e w' ⟨rfl,d',hpm,hsd,hheap,hg⟩;have hds:d'.size=n:=by have h:=hpm.1;rwa [hof] at h
 have hperm:d'.toList.Perm (Array.ofFn (id:Fin n→Fin n)).toList:=by
  have h:=hpm.2.2;have e1:d'.extract 0 n=d':=Array.extract_eq_self_of_le (by omega);have e2:(Array.ofFn (id:Fin n→Fin n)).extract 0 n=Array.ofFn id:=Array.extract_eq_self_of_le (by omega);rw [e1,e2] at h;exact h
 have hkp:KeepP w w':=KeepP.grown hg hc;refine⟨rfl,⟨d'.toList.map uf,d'.toList.map pf,by simp [hds],by simp [hds],?_,?_,?_,fun i x p hx hp'=>?_⟩,hg⟩
 ·have h:=hperm.map pf
  rwa [map_ofFn hp] at h
 ·rw [List.pairwise_map,List.pairwise_iff_getElem]
  intro i j hi hj hij;have h:=hsd i j (Nat.zero_le _) hij (by simpa [hds] using hj);have h:=of_decide_eq_false h;rw [cmpP_lt] at h;rw [getElem!_pos d' i (by simpa using hi),getElem!_pos d' j (by simpa using hj)] at h;simpa using h
 ·refine⟨_,hheap cur _ _ hc,by simp [putCells,hcs],fun q hq=>?_⟩
  have hl:(d'.toList.map uf).length=n:=by simp [hds]
  rw [parF_at hl hq];have hf:(putCells id 0 (Go.Sort.flatK (encP uf) 2 d') cur)[q]? = some ((Go.Sort.flatK (encP uf) 2 d')[q]!):=by
   simp [putCells,hds,hq,hcs]
  rw [hf,get_flatK (encP uf) 2 d' q (by rw [hds];exact hq)];have e:d'[q / 2]! = d'[q / 2]'(by omega):=getElem!_pos d' (q / 2) (by omega);rw [e];rcases Nat.mod_two_eq_zero_or_one q with e2 | e2 <;> simp [encP,e2]
 rw [List.getElem?_map] at hx hp';cases hd:d'.toList[i]? with
 | none=>rw [hd] at hx;cases hx
 | some y =>
  rw [hd] at hx hp';cases hx;cases hp';exact (hA y).keep hkp
open Go.RowKit
theorem row_obj {W:World}{base e size n:Nat}{v:Value}{xs:List Value}(h:W.ownsRow base e size v n xs):∀ g,v.ownBlock=some g→base≤g∧g < W.heap.size∧∃ cur,W.heap[g]? = some (.cells cur e (0,0)):=by
 intro g hg;obtain⟨_,⟨rfl,hn⟩ | ⟨g',cap,cur,rfl,hb,hh,_⟩⟩:=h
 ·simp [Value.ownBlock] at hg
 simp [Value.ownBlock] at hg
 subst hg;exact⟨hb,(Array.getElem?_eq_some_iff.1 hh).1,cur,hh⟩
theorem row_keep {w w':World}{base e size n:Nat}{v:Value}{xs:List Value}(h:w.ownsRow base e size v n xs) (hk:∀ g,v.ownBlock=some g→w'.heap[g]? = w.heap[g]?):w'.ownsRow base e size v n xs:=by
 obtain⟨h1,⟨rfl,hn⟩ | ⟨g,cap,cur,rfl,hb',hh,rest⟩⟩:=h
 ·exact⟨h1,.inl ⟨rfl,hn⟩⟩
 exact⟨h1,.inr ⟨g,cap,cur,rfl,hb',(hk g rfl).trans hh,rest⟩⟩
theorem row_below {w w':World}{base e size n:Nat}{v:Value}{xs:List Value}(h:w.ownsRow base e size v n xs) (hb:Below w.heap.size w w'):w'.ownsRow base e size v n xs :=
 row_keep h fun g hv=>hb.block g (row_obj h g hv).2.1
end Go.Proofs.YtmokogkndbinlaaGreatDoor
namespace Go.Proofs.YtmokogkndbinlaaGreatDoor
open Go.RowKit
end Go.Proofs.YtmokogkndbinlaaGreatDoor
namespace Go.Proofs.YtmokogkndbinlaaGreatDoor
open Go.RowKit
theorem sub_good {l:List UInt8} {k f t:Nat}(hk:k≤l.length) (h:stepW l k = .word f t):(∀ c∈subL l f t,isW c.toNat=true)∧subL l f t≠[]∧(subL l f t).length≤l.length:=by
 obtain⟨h1,h2,h3,-,h5⟩:=stepW_word hk h;have he:subL l f t=(l.drop f).takeWhile fun c=>isW c.toNat:=by
  unfold subL;rw [h5];unfold pastP;rw [Nat.add_sub_cancel_left];exact (List.prefix_iff_eq_take.1 (List.takeWhile_prefix _)).symm
 have hl:(subL l f t).length=t - f:=by
  unfold subL;rw [List.length_take,List.length_drop];omega
 refine⟨fun c hc=>?_,fun e=>?_,by omega⟩
 ·rw [he] at hc
  exact tw_all hc
 rw [e] at hl;simp at hl
 omega
theorem OwnB.form1 {w:World}{base:Nat}{v:Value}{s:ByteArray}(h:OwnB w base v s):∃ A c,v = .slice A s.size c∧s.size≤c∧BS w A s:=by
 have h':=h;obtain⟨hl,⟨rfl,hn⟩ | ⟨g,cap,cur,rfl,hb,hh,hm,_,hs,ht⟩⟩:=h
 ·exact⟨none,0,by rw [hn],by omega,.inl ⟨rfl,hn⟩⟩
 obtain⟨A,c,e,hbs,_⟩:=h'.form;injection e with e1 e2 e3;subst e1;exact⟨_,cap,rfl,hm,hbs⟩
end Go.Proofs.YtmokogkndbinlaaGreatDoor
namespace Go.Proofs.YtmokogkndbinlaaGreatDoor
open Go.RowKit
open Go.RowKit Go.Shelf
def OwnPt (W:World) (base:Nat) (v:Value) (us:List (Value × Value)):Prop:=W.ownsRow base 129 2 v us.length (fuC us)
theorem ownPt_nil (W:World) (base:Nat):OwnPt W base (.slice none 0 0) []:=World.ownsRow_nil W base 129 2
theorem OwnPt.below {w w':World}{base:Nat}{v:Value}{l:List (Value × Value)} (h:OwnPt w base v l) (hb:Below w.heap.size w w'):OwnPt w' base v l:=row_below h hb
theorem pt_cells {W:World}{sv tv:Value}{g:Nat}(h:W.heap[g]? = some (.cells #[sv,tv] 129 (0,0))):∀ j u,([sv,tv]:List Value)[j]? = some u→W.cell? ((⟨g,0,none⟩:Addr).add j)=some u:=by
 intro j u hj;rcases j with _ | _ | j
 ·simp at hj
  subst hj;show W.cell? ⟨g,0,none⟩=_;rw [cell_of_row _ _ _ _ _ _ h];rfl
 ·simp at hj
  subst hj;show W.cell? ⟨g,1,none⟩=_;rw [cell_of_row _ _ _ _ _ _ h];rfl
 simp at hj
theorem push_pt {ops:Array Oper}{rest:List Oper}{o:Oper}{a:Act}{Q:Exit→Act→World→Prop}(hgd:o.guard=none) (s x:Operand)
  (ho:o.op = .call { callee:=.builtin .append,args:=#[s,x],argTypes:=#[126,126] })
  (W:World) (base:Nat) (v:Value) (l:List (Value × Value)) (sv tv:Value) (h1:sv.oneCell'=true) (h2:tv.oneCell'=true) (hs:a.eval s=v) (hx:a.eval x = .slice (some ⟨W.heap.size,0,none⟩) 1 1)
  (hown:OwnPt W base v l) (hbase:base≤W.heap.size) (hl:l.length≤100000)
  (h:∀ v' w',OwnPt w' base v' (l++[(sv,tv)])→W.grownBy w' v.ownBlock→(v'.ownBlock=v.ownBlock∨v'.ownBlock=some (W.heap.size+1))→wpList Tryz.prog ops Q rest (a.put o.dst v') w') :
  wpList Tryz.prog ops Q (o::rest) a (W.alloc (.cells #[sv,tv] 129)):=by
 obtain⟨i0,hi,hz0,hz1,hz2⟩:=info_parts info_part;have hown':=row_below hown (new_val W (.cells #[sv,tv] 129));refine wpList_append_own_at _ hgd s x 126 ho base 129 i0 (.agg #[.slice none 0 0,.pointer none]) 2 32 Tryz.underlying126 hi hz0 hz1 hz2 rfl (by decide) v l.length _ hs hown' ⟨W.heap.size,0,none⟩ 1 1 [sv,tv] hx rfl (pt_cells (heap_alloc_new W _)) (fun u hu=>by simp at hu;rcases hu with rfl | rfl <;> assumption) (by unfold maxLen;omega) (by omega) (by simp;omega) ?_;intro v' w' k1 k2 _ k4;refine h v' w' ?_ (sgrown_then (grown_any (new_val W _) _) k2) (by simpa using k4);unfold OwnPt;rw [List.length_append,fuC_snoc];exact k1
theorem fuC_at2 {us:List (Value × Value)} {j:Nat}{x:Value × Value}(h:us[j]? = some x):(fuC us)[j * 2]? = some x.1∧(fuC us)[j * 2+1]? = some x.2:=by
 induction us generalizing j with
 | nil=>simp at h
 | cons y us ih =>
  have e:fuC (y::us)=y.1::y.2::fuC us:=by simp [fuC]
  rw [e];cases j with
  | zero=>simp at h;subst h;simp
  | succ j =>
   have:=ih (j:=j) (by simpa using h);rw [show (j+1) * 2=j * 2+1+1 by omega];exact this
theorem OwnPt.form {w:World}{base:Nat}{v:Value}{us:List (Value × Value)} (h:OwnPt w base v us):∃ A c,v = .slice A us.length c∧∀ (j:Nat) x,us[j]? = some x→∃ g,A=some ⟨g,0,none⟩∧base≤g∧(∃ cur,w.heap[g]? = some (.cells cur 129 (0,0)))∧w.cell? ⟨g,j * 2,none⟩=some x.1∧w.cell? ⟨g,j * 2+1,none⟩=some x.2:=by
 obtain⟨h1,⟨rfl,h0⟩ | ⟨g,cap,cur,rfl,hb,hh,hm,_,hs,ht⟩⟩:=h
 ·refine⟨none,0,by rw [h0],fun j x hx=>?_⟩
  rw [List.eq_nil_of_length_eq_zero h0] at hx;simp at hx
 refine⟨_,cap,rfl,fun j x hx=>⟨g,rfl,hb,⟨cur,hh⟩,?_,?_⟩⟩
 ·have hj:=(List.getElem?_eq_some_iff.1 hx).1
  have e:=(fuC_at2 hx).1;rw [← ht,List.getElem?_take_of_lt (by omega),Array.getElem?_toList] at e;rw [cell_of_row w g _ cur _ (0,0) hh,e]
 have hj:=(List.getElem?_eq_some_iff.1 hx).1;have e:=(fuC_at2 hx).2;rw [← ht,List.getElem?_take_of_lt (by omega),Array.getElem?_toList] at e;rw [cell_of_row w g _ cur _ (0,0) hh,e]
theorem rowIs_heap {W W':World}{b:Nat}{t:TypeId}{n:Nat}{f:Nat→Value}(h:W.rowIs b t n f) (e:W'.heap[b]? = W.heap[b]?):W'.rowIs b t n f:=by
 obtain⟨c,hc,h1,h2⟩:=h;exact⟨c,e.trans hc,h1,h2⟩
theorem parts_in {k:Int}{sizes:List Nat}{fs:List FunM}(hk:1≤k) (hf:∀ f∈fs,FunOk sizes f):∀ p∈partsM k sizes fs,(∀ i,0≤p.z i∧p.z i≤k):=by
 intro p hp i;obtain⟨f,hf',rfl⟩:=List.mem_map.1 hp;exact funF_in hk (hf f hf') _
theorem parts_arity {k:Int}{sizes:List Nat}{fs:List FunM}(hf:∀ f∈fs,f.scope.length≤6):∀ p∈partsM k sizes fs,p.scope.length≤6:=by
 intro p hp;obtain⟨f,hf',rfl⟩:=List.mem_map.1 hp;show (risL f.scope).length≤6;rw [risL_len];exact hf f hf'
theorem parts_rise {k:Int}{sizes:List Nat}{fs:List FunM}(hf:∀ f∈fs,FunOk sizes f):∀ p∈partsM k sizes fs,Rises p.scope:=by
 intro p hp;obtain⟨f,hf',rfl⟩:=List.mem_map.1 hp;exact lt_rises (risL_lt (List.nodup_iff_pairwise_ne.2 (hf f hf').once))
theorem take_nextP {α:Type}{l:List α} {j:Nat}{x:α} (h:l[j]? = some x):l.take (j+1)=l.take j++[x]:=by
 have hj:=(List.getElem?_eq_some_iff.1 h).1;rw [List.take_succ_eq_append_getElem hj];congr 2
 exact (List.getElem?_eq_some_iff.1 h).2
theorem not_behind {qs:List PartM}{j:Nat}{p:PartM}(hs:qs.Pairwise fun p q=>¬ ltS q.scope p.scope) (hp:qs[j]? = some p):∀ q∈qs.take j,¬ ltS p.scope q.scope:=by
 intro q hq;obtain⟨i,hi,rfl⟩:=List.getElem_of_mem hq;rw [List.length_take] at hi;rw [List.pairwise_iff_getElem] at hs;have hj:=(List.getElem?_eq_some_iff.1 hp).1;have e:qs[j]=p:=(List.getElem?_eq_some_iff.1 hp).2;have h:=hs i j (by omega) hj (by omega);rw [e] at h;rw [List.getElem_take];exact h
theorem all_before {N:List Nat→Nat}{k:Int}{qs es:List PartM}{j:Nat}{p:PartM}(hg:GrpI N k (qs.take j) es) (hs:qs.Pairwise fun p q=>¬ ltS q.scope p.scope) (hp:qs[j]? = some p)
  (hl:∀ m e,es[m]? = some e→es.length=m+1→e.scope≠p.scope):∀ S∈es.map (·.scope),ltS S p.scope:=by
 intro S hS;obtain⟨e,he,rfl⟩:=List.mem_map.1 hS;have hnb:∀ e∈es,¬ ltS p.scope e.scope:=fun e he h=>by
  obtain⟨q,hq,e1⟩:=hg.frm e he;exact not_behind hs hp q hq (by rw [e1];exact h)
 have hpos:0 < es.length:=List.length_pos_of_mem he;obtain⟨m,hm⟩:∃ m,es.length=m+1:=⟨es.length - 1,by omega⟩
 have hlast:es[m]? = some (es[m]'(by omega)):=List.getElem?_eq_getElem (by omega);have h1:ltS (es[m]'(by omega)).scope p.scope:=by
  rcases ltS_tri (es[m]'(by omega)).scope p.scope with h | h | h
  ·exact h
  ·exact absurd h (hl m _ hlast hm)
  exact absurd h (hnb _ (List.getElem_mem _))
 obtain⟨i,hi,rfl⟩:=List.getElem_of_mem he;rcases Nat.lt_or_ge i m with h | h
 ·have hr:=hg.ris
  rw [List.pairwise_map,List.pairwise_iff_getElem] at hr;exact ltS_trans (hr i m hi (by omega) h) h1
 obtain rfl:i=m:=by omega
 exact h1
theorem fuC_set {v:Value}:∀ {us:List (Value × Value)} {m:Nat}{x:Value × Value},us[m]? = some x→(fuC us).set (m * 2+1) v=fuC (us.set m (x.1,v))
 | [],m,x,h=>by simp at h
 | y::us,0,x,h=>by
  simp at h
  subst h;simp [fuC]
 | y::us,m+1,x,h=>by
  have ih:=fuC_set (v:=v) (us:=us) (m:=m) (x:=x) (by simpa using h);have e:fuC (y::us)=y.1::y.2::fuC us:=by simp [fuC]
  have e2:fuC ((y::us).set (m+1) (x.1,v))=y.1::y.2::fuC (us.set m (x.1,v)):=by simp [fuC]
  rw [e,e2,← ih,show (m+1) * 2+1=m * 2+1+1+1 by omega];rfl
theorem OwnPt.set {W:World}{base g c m:Nat}{us:List (Value × Value)} {x:Value × Value}(h:OwnPt W base (.slice (some ⟨g,0,none⟩) us.length c) us) (hx:us[m]? = some x) (v:Value) :
  OwnPt (W.setCell ⟨g,m * 2+1,none⟩ v) base (.slice (some ⟨g,0,none⟩) us.length c) (us.set m (x.1,v))∧W.grownBy (W.setCell ⟨g,m * 2+1,none⟩ v) (some g):=by
 have hst:=World.ownsRow.stored (h:W.ownsRow base 129 2 _ us.length _) (m * 2+1) v;rw [fuC_set hx] at hst;exact⟨by unfold OwnPt;rw [List.length_set];exact hst.1,hst.2⟩
theorem own_none {W:World}{base n c:Nat}{A:Option Addr}{l:List Nat}(h:Own W base (.slice A n c) l) (e:A=none):c=0:=by
 subst e;obtain⟨_,⟨h1,_⟩ | ⟨g,cap,cur,h1,_⟩⟩:=h
 ·injection h1
 injection h1 with h1;cases h1
theorem parts_sizes {k:Int}{sizes:List Nat}{fs:List FunM}(hs:∀ x∈sizes,1≤x∧x≤32) (hf:∀ f∈fs,FunOk sizes f):∀ p∈partsM k sizes fs,∀ x∈pickN sizes p.scope,1≤x∧x≤32:=by
 intro p hp;obtain⟨f,hf',rfl⟩:=List.mem_map.1 hp;exact pick_ok hs (fun v hv=>(hf f hf').below v (risL_mem.1 hv))
theorem grp_in {N:List Nat→Nat}{k:Int}{qs es:List PartM}(hg:GrpI N k qs es) (hk:0≤k) (hz:∀ q∈qs,∀ i,0≤q.z i):∀ e∈es,∀ i,i < N e.scope→0≤e.z i∧e.z i≤k:=by
 intro e he i hi;rw [hg.sum e he i hi];unfold grpM;have:=grpS_nonneg (ps:=qs) (S:=e.scope) (i:=i) (fun q hq _=>hz q hq i);omega
theorem cap_min {a b k:Int}(h1:0≤a∧a≤k) (h2:0≤b∧b≤k):capA a b k=min k (a+b):=by
 unfold capA;split <;> omega
end Go.Proofs.YtmokogkndbinlaaGreatDoor
