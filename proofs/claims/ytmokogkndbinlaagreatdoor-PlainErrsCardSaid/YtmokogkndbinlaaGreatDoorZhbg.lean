import Derived.Test.YtmokogkndbinlaaGreatDoorZhbf
set_option linter.all false
namespace Go.Proofs.YtmokogkndbinlaaGreatDoor
open Go.Lib (hid)
attribute [local go_sem] Oper.semAt_some
open Go.RowKit Go.Shelf
theorem cnt_prod:∀ {l:List Nat}{n:Nat},(∀ x∈l,1≤x)→1≤n→cntM l n≤4096→n * prodL l≤4096
 | [],n,_,_,h=>by simpa [cntM,prodL] using h
 | k::r,n,h,hn,hc=>by
  have hk:=h k (by simp);have hr:∀ x∈r,1≤x:=fun x hx=>h x (List.mem_cons_of_mem _ hx);have hp:=prodL_pos hr;rw [cntM_cons] at hc;have h1:1≤n * min k 4097:=Nat.mul_le_mul hn (by omega:1≤min k 4097);have ih:=cnt_prod hr (by omega) hc;have h2:min (n * min k 4097) 4097≤4096:=Nat.le_trans (Nat.le_mul_of_pos_right _ hp) ih;have h3:n * min k 4097≤4096:=by omega
  have h4:min k 4097≤n * min k 4097:=Nat.le_mul_of_pos_left _ hn;have h5:min k 4097=k:=by omega
  rw [h5] at ih h3;have h6:min (n * k) 4097=n * k:=by omega
  rw [h6] at ih;show n * (k * prodL r)≤4096;rw [← Nat.mul_assoc];exact ih
theorem parts_prod {k:Int}{sizes:List Nat}{fs:List FunM}(hs:∀ x∈sizes,1≤x∧x≤32) (hf:∀ f∈fs,FunOk sizes f∧FunLim sizes f):∀ p∈partsM k sizes fs,prodL (pickN sizes p.scope)≤4096:=by
 intro p hp;obtain⟨f,hf',rfl⟩:=List.mem_map.1 hp;show prodL (pickN sizes (risL f.scope))≤4096;rw [prod_ris];have h:=cnt_prod (fun x hx=>(pick_ok hs (hf f hf').1.below x hx).1) (Nat.le_refl 1) (hf f hf').2.2;rwa [Nat.one_mul] at h
theorem row_less2 {w:World}{base base' sz:Nat}{e:TypeId}{v:Value}{n:Nat}{xs:List Value}(h:w.ownsRow base e sz v n xs) (hb:base'≤base):w.ownsRow base' e sz v n xs:=by
 obtain⟨h1,⟨rfl,hn⟩ | ⟨g,cap,cur,rfl,hg,hh,hm,hx,hs,ht⟩⟩:=h
 ·exact⟨h1,.inl ⟨rfl,hn⟩⟩
 exact⟨h1,.inr ⟨g,cap,cur,rfl,by omega,hh,hm,hx,hs,ht⟩⟩
theorem parF_two {vs:List (Value × Value)} {j:Nat}{x:Value × Value}(h:vs[j]? = some x):parF vs (j * 2)=x.1∧parF vs (j * 2+1)=x.2:=by
 have h1:j * 2 / 2=j:=by omega
 have h2:(j * 2+1) / 2=j:=by omega
 have h3:j * 2 % 2=0:=by omega
 have h4:(j * 2+1) % 2=1:=by omega
 simp [parF,h1,h2,h3,h4,h]
theorem keep_own {W W':World}{base:Nat}{v:Value}{us:List (Value × Value)} (h:OwnPt W base v us) (hg:W.grownBy W' v.ownBlock):KeepP W W':=fun q c e hq he=>hg.block q (Array.getElem?_eq_some_iff.1 hq).1 (fun e'=>by
 obtain⟨c',fz,hk⟩:=Lib.ownsRow_kind h q e'.symm;rw [hk] at hq;injection hq with hq;injection hq with _ h2 _;exact he h2.symm)
abbrev HoldSc (wb:World) (B gl i n c n' c':Nat) (A A':Option Addr) (s s':List Nat) (W:World):Prop :=
 W.cell? ⟨B,0,none⟩=some (.slice A n c)∧W.cell? ⟨gl,i,none⟩=some (.slice A' n' c')∧Ints W A s∧Ints W A' s'∧Below wb.heap.size wb W
theorem HoldSc.next {wb W W':World}{B gl i n c n' c':Nat}{A A':Option Addr}{s s':List Nat}(h:HoldSc wb B gl i n c n' c' A A' s s' W) (hb:Below W.heap.size W W'):HoldSc wb B gl i n c n' c' A A' s s' W':=by
 obtain⟨h0,h1,h2,h3,h4⟩:=h;exact⟨(hb.cell (p:=⟨B,0,none⟩) (World.block_lt_of_cell? W _ h0)).trans h0,(hb.cell (p:=⟨gl,i,none⟩) (World.block_lt_of_cell? W _ h1)).trans h1,h2.below hb (Nat.le_refl _),h3.below hb (Nat.le_refl _),h4.trans (hb.mono h4.size)⟩
theorem HoldSc.ia {wb W:World}{B gl i n c n' c':Nat}{A A':Option Addr}{s s':List Nat}(h:HoldSc wb B gl i n c n' c' A A' s s' W):Ints W A s:=h.2.2.1
theorem HoldSc.ib {wb W:World}{B gl i n c n' c':Nat}{A A':Option Addr}{s s':List Nat}(h:HoldSc wb B gl i n c n' c' A A' s s' W):Ints W A' s':=h.2.2.2.1
theorem HoldSc.bel {wb W:World}{B gl i n c n' c':Nat}{A A':Option Addr}{s s':List Nat}(h:HoldSc wb B gl i n c n' c' A A' s s' W):Below wb.heap.size wb W:=h.2.2.2.2
def SumPost (w:World) (k:Int) (sizes:List Nat) (fs:List FunM) (e:Ending) (w':World):Prop :=
 (∃ v us l,e = .returned v∧w'.ownsRow w.heap.size 129 2 v us.length (fuC us)∧us.length=l.length∧(∀ (i:Nat) x p,us[i]? = some x→l[i]? = some p→PartA w' w.heap.size k sizes x p)∧GrpI (fun S=>prodL (pickN sizes S)) k (partsM k sizes fs) l)∧Below w.heap.size w w'
set_option maxHeartbeats 1000000 in
theorem sums_ok (fb cs cf:Nat) (X:ByteArray) (k:Int) (sizes:List Nat) (fs:List FunM) (As Af:Option Addr) (w:World) (H:FileR w fb X k sizes fs As Af cs cf) (hr:RightF X k sizes fs) :
  Calls Tryz.prog 77 #[.slice Af fs.length cf] w (SumPost w k sizes fs):=by
 obtain⟨n,hn⟩:∃ n,fs.length=n:=⟨_,rfl⟩
 have hn4:n≤256:=by rw [← hn];exact hr.nf
 have hmk:=madeP n (by omega) w;have R1:=hid (rowIs_madeP n w);have B1:=hid (new_val w (.cells (madeCells #[.slice none 0 0,.pointer none] (n * 2)) 129));have HR:=hid H;have HH:=hid hr;have HN:=hid hn;rw [hn];clear H hr;go_enter Tryz.func77,Tryz.ntmps77
 go_upto_region 3 with fail
 generalize w.alloc (.cells (madeCells #[.slice none 0 0,.pointer none] (n * 2)) 129)=w1 at R1 B1 ⊢;clear hmk;go_loopw [4,5,15] (fun _ _ i wr=>∃ (j:Nat) (us:List (Value × Value)),j≤n∧i = .int .i64 (j:Int)∧us.length=j∧wr.rowIs w.heap.size 129 (n * 2) (parF us)∧(∀ (i:Nat) x p,us[i]? = some x→(partsM k sizes fs)[i]? = some p→PartA wr w.heap.size k sizes x p)∧Below w.heap.size w wr) (fun _ _ i _=>n - (intOf i).toNat)
 case atStart=>exact⟨0,[],Nat.zero_le _,rfl,rfl,R1.out,fun i x p h=>by simp at h,B1.out⟩
 case round =>
  obtain⟨j,us,hj,rfl,hul,hrow,hpa,hb⟩:=hrel;have HRW:=hid hrow;have HB:=hid hb;have HPA:=hid hpa;have HU:=hid hul;have hbs:=hb.size;clear hrow hb hpa hul;by_cases hlt:j < n
  ·have i1:(j:Int) < (n:Int):=by omega
   have i2:(0:Int)≤(j:Int):=by omega
   obtain⟨f,hfj⟩:∃ f,fs[j]? = some f:=⟨_,List.getElem?_eq_getElem (by rw [hn];exact hlt)⟩
   have HRR:=HR.out.below HB.out;obtain⟨gf,sv,tv,rfl,hgf,k0,k1,he⟩:=HRR.funs j f hfj;obtain⟨Asc,csc,g,mb,Am,cm,N,rfl,hcap,rfl,h3,h4,h5,-⟩:=he;have FJ:=hid hfj;have HM:=hid (HH.out.funs f (List.mem_of_getElem? hfj));have n1:=new_val wr (.cells #[.slice Asc f.scope.length csc,.pointer (some ⟨g,0,none⟩)] 62);have NB:=hid n1;have HT:=hid (h4.below n1);have HSC:=hid (h3.below n1 (Nat.le_refl _));clear HRR hfj h3 h4 h5 n1 hcap hgf;go_upto_region 5 with (first
    | ((with_reducible show wpList _ _ _ (Oper.mk none (.store 62 _ _) _ _ _ _::_) _ _);refine wpList_store_row rfl 62 (.tmp 5) (.tmp 19) rfl wr.heap.size #[.slice Asc f.scope.length csc,.pointer (some ⟨g,0,none⟩)] rfl rfl 62 #[.slice none 0 0,.pointer none] (heap_alloc_new _ _) (by kernel_rfl) rfl (by simp [Value.oneCell']) ?_;rw [World.setRow_alloc_new])
    | fail)
   have X1:=hid (heap_alloc_new wr (.cells #[.slice Asc f.scope.length csc,.pointer (some ⟨g,0,none⟩)] 62));clear k0 k1;have hnd:f.scope.Nodup:=List.nodup_iff_pairwise_ne.2 HM.out.1.once;have hpk:=pick_ok HH.out.szs HM.out.1.below;have hp:prodL (pickN sizes f.scope)≤4096:=by
    have h:=cnt_prod (fun x hx=>(hpk x hx).1) (Nat.le_refl 1) HM.out.2.2;rwa [Nat.one_mul] at h
   obtain⟨w2,hw2⟩:∃ w2,wr.alloc (.cells #[.slice Asc f.scope.length csc,.pointer (some ⟨g,0,none⟩)] 62)=w2:=⟨_,rfl⟩
   rw [hw2] at X1 NB HT HSC ⊢;have z2:w2.heap.size=wr.heap.size+1:=by rw [← hw2,World.size_alloc]
   clear hw2;have RI:=hid (risen_ok Asc Am f.scope.length csc g mb N cm sizes f.scope k (min f.other k) (funF k f) w2 rfl HM.out.2.1 hnd HSC.out HT.out hpk hp
    ⟨HH.out.top.1,HH.out.top.2,by have:=HM.out.1.other;have:=HH.out.top;omega,by omega⟩ (fun t _=>⟨HH.out.top.1,HH.out.top.2,(funF_in HH.out.top.1 HM.out.1 t).1,(funF_in HH.out.top.1 HM.out.1 t).2⟩))
   have KP:Hid (∀ W,Below w2.heap.size w2 W→W.rowIs w.heap.size 129 (n * 2) (parF us)):=hid fun W hb=>rowIs_next (rowIs_next HRW.out NB.out) hb;have y0:w2.cell? ⟨wr.heap.size,0,none⟩=some (.slice Asc f.scope.length csc):=by rw [cell_of_row _ _ _ _ _ _ X1.out];rfl
   have y1:w2.cell? ⟨wr.heap.size,1,none⟩=some (.pointer (some ⟨g,0,none⟩)):=by rw [cell_of_row _ _ _ _ _ _ X1.out];rfl
   go_wp2_with (go_at_call 137;refine RI.out.mono ?_;rintro e w3 ⟨⟨sv3,g3,h3,rfl,hO3,hT3,hg3,hh3⟩,hb3⟩;obtain⟨A3,c3,rfl,hI3⟩:=hO3.form;have R3:=hid (KP.out w3 hb3);have kp0:=R3.out.cell (i:=j * 2) (by omega);have kp1:=R3.out.cell (i:=j * 2+1) (by omega);have kf0:=R3.out.frozen (j * 2);have kf1:=R3.out.frozen (j * 2+1);have HO3:=hid hO3;have HT3:=hid hT3;have HB3:=hid hb3;clear hO3 hT3 hb3)
   go_roundw
   case rel =>
    obtain⟨c0,hc0,_,_⟩:=id R3.out;have hul:=HU.out;have r4:=R3.out.set (j * 2) (.slice A3 (risL f.scope).length c3);obtain⟨c4,hc4,_,_⟩:=id r4;have kk:=(KeepP.set (i:=j * 2) hc0 (.slice A3 (risL f.scope).length c3)).trans (KeepP.set (i:=j * 2+1) hc4 (.pointer (some ⟨g3,0,none⟩)));have kw:=((KeepP.below NB.out).trans (KeepP.below HB3.out)).trans kk;have hz:=HB.out.size;refine⟨j+1,us++[(.slice A3 (risL f.scope).length c3,.pointer (some ⟨g3,0,none⟩))],by omega,by go_num,by simp [hul],(r4.set (j * 2+1) (.pointer (some ⟨g3,0,none⟩))).congr (fun q _=>by have h:=parF_snoc us (.slice A3 (risL f.scope).length c3,.pointer (some ⟨g3,0,none⟩)) q;rw [hul] at h;exact h),fun i x p hx hp=>?_,?_⟩;rotate_left
    ·exact (((HB.out.trans (NB.out.mono hz)).trans (HB3.out.mono (by omega))).setCell (p:=⟨w.heap.size,j * 2,none⟩) (Nat.le_refl _) _).setCell (p:=⟨w.heap.size,j * 2+1,none⟩) (Nat.le_refl _) _
    rcases Nat.lt_or_ge i us.length with hi | hi
    ·rw [List.getElem?_append_left hi] at hx
     exact (HPA.out i x p hx hp).keep kw
    obtain rfl:i=us.length:=by
     have:=(List.getElem?_eq_some_iff.1 hx).1;simp at this
     omega
    have e1:(us++[((.slice A3 (risL f.scope).length c3:Value),(.pointer (some ⟨g3,0,none⟩):Value))])[us.length]? = some (.slice A3 (risL f.scope).length c3,.pointer (some ⟨g3,0,none⟩)):=by simp
    have e2:(partsM k sizes fs)[us.length]? = some (risM sizes f.scope (funF k f)):=by rw [hul];simp [partsM,FJ.out]
    rw [e1] at hx;rw [e2] at hp;cases hx;cases hp;exact PartA.keep ⟨HO3.out.less (by omega),g3,h3,rfl,HT3.out,by omega,by omega⟩ kk
   case measure=>simp [intOf];omega
  have i1:¬ (j:Int) < (n:Int):=by omega
  have hjn:j=n:=by omega
  have hpl:(partsM k sizes fs).length=n:=by rw [partsM,List.length_map,hn]
  have SP:=hid (sortP_list w.heap.size n n w.heap.size k sizes us (partsM k sizes fs) wr (by rw [HU.out,hjn]) hpl (by omega) HRW.out HPA.out (fun p hp=>by
   obtain⟨f,hf,rfl⟩:=List.mem_map.1 hp;show (risL f.scope).length≤1000000;rw [risL_len];have:=(HH.out.funs f hf).2.1;omega))
  have HPL:=hid hpl;go_upto_region 8 with (go_at_call 138;refine SP.out.mono ?_;rintro e w5 ⟨rfl,⟨vs,qs,hvl,hql,hperm,hsrt,hrow5,hpa5⟩,hg5⟩)
  have B5:=hid (HB.out.grown hg5 hbs (fun q hq=>by cases hq;exact Nat.le_refl _));have R5:=hid hrow5;have P5:=hid hpa5;have VL:=hid hvl;have QL:=hid hql;have QP:=hid hperm;have QS:=hid hsrt;have ARI:Hid (∀ p∈qs,p.scope.length≤6):=hid fun p hp=>parts_arity (k:=k) (sizes:=sizes) (fun f hf=>(HH.out.funs f hf).2.1) p (hperm.mem_iff.1 hp);have ZIN:Hid (∀ p∈qs,∀ i,0≤p.z i∧p.z i≤k):=hid fun p hp=>parts_in (sizes:=sizes) HH.out.top.1 (fun f hf=>(HH.out.funs f hf).1) p (hperm.mem_iff.1 hp);have SIZ:Hid (∀ p∈qs,∀ x∈pickN sizes p.scope,1≤x∧x≤32):=hid fun p hp=>parts_sizes (k:=k) HH.out.szs (fun f hf=>(HH.out.funs f hf).1) p (hperm.mem_iff.1 hp);have PRO:Hid (∀ p∈qs,prodL (pickN sizes p.scope)≤4096):=hid fun p hp=>parts_prod (k:=k) HH.out.szs HH.out.funs p (hperm.mem_iff.1 hp);have RIS:Hid (∀ p∈qs,Rises p.scope):=hid fun p hp=>parts_rise (k:=k) (sizes:=sizes) (fun f hf=>(HH.out.funs f hf).1) p (hperm.mem_iff.1 hp);clear hrow5 hpa5 hvl hql hperm hsrt hg5 SP HRW HPA hpl;go_upto_region 10 with fail
  go_loopw [6,8,9,30] (fun l _ _ i wr=>∃ (j:Nat) (ls:List (Value × Value)) (es:List PartM),j≤n∧i = .int .i64 (j:Int)∧OwnPt wr (w.heap.size+1) l ls∧ls.length=es.length∧ls.length≤j∧(∀ (i:Nat) x p,ls[i]? = some x→es[i]? = some p→PartA wr w.heap.size k sizes x p)∧GrpI (fun S=>prodL (pickN sizes S)) k (qs.take j) es∧KeepP w5 wr∧wr.rowIs w.heap.size 129 (n * 2) (parF vs)∧Below w.heap.size w wr) (fun _ _ _ i _=>n - (intOf i).toNat)
  case atStart=>exact⟨0,[],[],Nat.zero_le _,rfl,ownPt_nil _ _,rfl,Nat.zero_le _,(fun i x p h=>by simp at h),GrpI.nil _ _,KeepP.refl _,R5.out,B5.out⟩
  case round =>
   obtain⟨j2,ls,es,hj2,rfl,hown,hle,hlj,hpl2,hgr,hkp,hrow,hb2⟩:=hrel;have HOW:=hid hown;have HLE:=hid hle;have HLP:=hid hpl2;have HGR:=hid hgr;have HKP:=hid hkp;have HRW2:=hid hrow;have HB2:=hid hb2;have hbs2:=hb2.size;clear hown hle hpl2 hgr hkp hrow hb2;by_cases hlt2:j2 < n
   ·have i3:(j2:Int) < (n:Int):=by omega
    have i4:(0:Int)≤(j2:Int):=by omega
    obtain⟨x,hxj⟩:∃ x,vs[j2]? = some x:=⟨_,List.getElem?_eq_getElem (by rw [VL.out];exact hlt2)⟩
    obtain⟨p,hpj⟩:∃ p,qs[j2]? = some p:=⟨_,List.getElem?_eq_getElem (by rw [QL.out];exact hlt2)⟩
    have PA:=(P5.out j2 x p hxj hpj).keep HKP.out;have PAX:=hid PA;obtain⟨x1,x2⟩:=x;obtain⟨ho,g,hh,rfl,ht,hg1,hg2⟩:=PA;obtain⟨A,c,rfl,hi⟩:=ho.form;obtain⟨Al,cl,rfl,hlc⟩:=HOW.out.form;have kp0:=HRW2.out.cell (i:=j2 * 2) (by omega);have kp1:=HRW2.out.cell (i:=j2 * 2+1) (by omega);rw [(parF_two hxj).1] at kp0;rw [(parF_two hxj).2] at kp1;have QJ:=hid hpj;have HLC:=hid hlc;have HI:=hid hi;have HTT:=hid ht;have n1:=new_val wr (.cells #[.slice A p.scope.length c,.pointer (some ⟨g,0,none⟩)] 129);have NB:=hid n1;have m3:(ls.length:Int)≤256:=by omega
    have m4:(0:Int)≤(ls.length:Int):=by omega
    clear hlc hi ht n1 hpj hxj ho;go_upto_region 12 with (first
     | ((with_reducible show wpList _ _ _ (Oper.mk none (.store 129 _ _) _ _ _ _::_) _ _);refine wpList_store_row rfl 129 (.tmp 8) (.tmp 33) rfl wr.heap.size #[.slice A p.scope.length c,.pointer (some ⟨g,0,none⟩)] rfl rfl 129 #[.slice none 0 0,.pointer none] (heap_alloc_new _ _) (by kernel_rfl) rfl (by simp [Value.oneCell']) ?_;rw [World.setRow_alloc_new])
     | fail)
    have X1:=hid (heap_alloc_new wr (.cells #[.slice A p.scope.length c,.pointer (some ⟨g,0,none⟩)] 129));clear kp0 kp1;obtain⟨w2,hw2⟩:∃ w2,wr.alloc (.cells #[.slice A p.scope.length c,.pointer (some ⟨g,0,none⟩)] 129)=w2:=⟨_,rfl⟩
    rw [hw2] at X1 NB ⊢;have z2:w2.heap.size=wr.heap.size+1:=by rw [← hw2,World.size_alloc]
    clear hw2;have y0:w2.cell? ⟨wr.heap.size,0,none⟩=some (.slice A p.scope.length c):=by rw [cell_of_row _ _ _ _ _ _ X1.out];rfl
    have y1:w2.cell? ⟨wr.heap.size,1,none⟩=some (.pointer (some ⟨g,0,none⟩)):=by rw [cell_of_row _ _ _ _ _ _ X1.out];rfl
    go_upto_region 13 with fail
    rcases Nat.eq_zero_or_pos ls.length with hm0 | hm0
    ·obtain rfl:ls=[]:=List.eq_nil_of_length_eq_zero hm0
     obtain rfl:es=[]:=List.eq_nil_of_length_eq_zero (by rw [← HLE.out];rfl);have gq:((0:Int) - 1 ≥ 0)=False:=by simp
     refine wp_region_noPanic ?_;refine wp_region_held_drew (S:=fun W=>W=w2.drew) (by kernel_rfl) rfl (fun hHeld=>?_);refine wt 0 ?r701;refine wt 1 ?r702;refine wt 2 ?r703;refine wu 3 ?r704;refine wu 4 ?r705;refine wu 5 ?r706;refine wu 6 ?r707;refine wu 7 ?r708;refine wu 8 ?r709;refine wu 9 ?r710;refine wu 10 ?r711;refine wt 11 ?r712;refine wpAnyH_done (by kernel_rfl) ?_ _;refine NoPanic.normal ?_;clear hHeld;have B8:=hid (NB.out.drew);have k0:w2.drew.cell? ⟨wr.heap.size,0,none⟩=some (.slice A p.scope.length c):=y0;have k1:w2.drew.cell? ⟨wr.heap.size,1,none⟩=some (.pointer (some ⟨g,0,none⟩)):=y1;have OW8:Hid (OwnPt w2.drew (w.heap.size+1) (.slice Al 0 cl) []):=hid (HOW.out.below B8.out);have GN:=hid (HGR.out.next (p:=p) (e:=p) rfl (fun S hS=>by simp at hS) (fun i _=>ZIN.out p (List.mem_of_getElem? QJ.out) i) (fun _ _=>rfl));have hb8z:w.heap.size+1≤w2.drew.heap.size:=by have:=HRW2.out.lt;show _≤w2.heap.size;omega
     have hs8:=B8.out.size;generalize w2.drew=w8 at B8 k0 k1 OW8 hb8z hs8 ⊢;go_wp2_with (at_builtin;refine push_pt rfl (.tmp 69) (.tmp 71) rfl w8 (w.heap.size+1) (.slice Al 0 cl) [] (.slice A p.scope.length c) (.pointer (some ⟨g,0,none⟩)) rfl rfl rfl rfl OW8.out hb8z (by simp) ?_;intro v9 w9 hO9 hg9 hv9)
     go_roundw
     case rel =>
      have kw:=(KeepP.below B8.out).trans (keep_own OW8.out hg9);refine⟨j2+1,[(.slice A p.scope.length c,.pointer (some ⟨g,0,none⟩))],[p],by omega,by go_num,hO9,rfl,by simp,fun i x q hx hq=>?_,?_,HKP.out.trans kw,?_,?_⟩
      ·cases i with
       | zero=>simp at hx hq;subst hx;subst hq;exact PAX.out.keep kw
       | succ i=>simp at hx
      ·rw [take_nextP QJ.out]
       exact GN.out
      ·exact rowIs_heap (rowIs_next HRW2.out B8.out) (hg9.block _ (by omega) (fun e'=>by have:=(World.ownsRow.lt OW8.out _ e'.symm).1;omega))
      exact (HB2.out.trans (B8.out.mono hbs2)).grown hg9 (by omega) (fun q hq=>by have:=(World.ownsRow.lt OW8.out q hq).1;omega)
     case measure=>simp [intOf];omega
    obtain⟨m,hm⟩:∃ m,ls.length=m+1:=⟨ls.length - 1,by omega⟩
    have em:(ls.length:Int) - 1=(m:Int):=by omega
    have m5:(m:Int) < (ls.length:Int):=by omega
    have m6:(0:Int)≤(m:Int):=by omega
    have m7:(m:Int) < (m:Int)+1:=by omega
    rw [em];obtain⟨y,hy⟩:∃ y,ls[m]? = some y:=⟨_,List.getElem?_eq_getElem (by omega)⟩
    obtain⟨e,he⟩:∃ e,es[m]? = some e:=⟨_,List.getElem?_eq_getElem (by have:=HLE.out;omega)⟩
    have PB:=HLP.out m y e hy he;have PBX:=hid PB;obtain⟨y1',y2'⟩:=y;obtain⟨hoe,ge,hhe,rfl,hte,_,_⟩:=PB;obtain⟨A',c',rfl,hi'⟩:=hoe.form;obtain⟨gl,rfl,hgl,⟨cur,hcur⟩,q0,q1⟩:=HLC.out m _ hy;have S0:Hid (HoldSc w2 wr.heap.size gl (m * 2) p.scope.length c e.scope.length c' A A' p.scope e.scope w2):=hid ⟨y0,(NB.out.cell (p:=⟨gl,m * 2,none⟩) (World.block_lt_of_cell? wr _ q0)).trans q0,HI.out.below NB.out (Nat.le_refl _),hi'.below NB.out (Nat.le_refl _),Below.refl _ _⟩;have HQ1:=hid q1;have HCU:=hid hcur;have HY:=hid hy;have HE:=hid he;have HTE:=hid hte;clear q0 q1 hcur hy he hte hi' hoe y0;have hsl:p.scope.length≤1000000∧e.scope.length≤1000000:=⟨by have:=ARI.out p (List.mem_of_getElem? QJ.out);omega,by have:=(HGR.out.frm e (List.mem_of_getElem? HE.out));obtain⟨q,hq,e1⟩:=this;have:=ARI.out q (List.mem_of_mem_take hq);rw [← e1];omega⟩
    go_region_held3 (fun W=>HoldSc w2 wr.heap.size gl (m * 2) p.scope.length c e.scope.length c' A A' p.scope e.scope W) (first | exact S0.out.next ((Below.refl _ _).drew) | assumption | exact HoldSc.next (by assumption) (by assumption))
     ((first | (go_at_call 25;refine (equal_any A' A c' c e.scope p.scope _ (by omega) (HoldSc.ib (by assumption)) (HoldSc.ia (by assumption))).mono ?_;rintro e8 w8 ⟨rfl,hb8⟩)))
    rename_i hHd;have B8:=hid (NB.out.trans ((HoldSc.bel hHd).mono (by rw [z2];omega)));have k0:=hHd.1;have hs8:=B8.out.size;have k1:=((HoldSc.bel hHd).cell (p:=⟨wr.heap.size,1,none⟩) (by show wr.heap.size < w2.heap.size;omega)).trans y1;clear hHd hb8;by_cases hsc:e.scope=p.scope
    ·have dsc:decide (e.scope=p.scope)=true:=decide_eq_true hsc
     have q1:=(B8.out.cell (p:=⟨gl,m * 2+1,none⟩) (World.block_lt_of_cell? wr _ HQ1.out)).trans HQ1.out;have hcu8:=(B8.out.block gl (Array.getElem?_eq_some_iff.1 HCU.out).1).trans HCU.out;have HC8:=hid hcu8;have Q1:=hid q1;have hng:wr.heap.size≠gl:=by have:=(Array.getElem?_eq_some_iff.1 HCU.out).1;omega
     have JR:Hid (Calls Tryz.prog 140 #[.pointer (some ⟨ge,0,none⟩),.slice A p.scope.length c,.pointer (some ⟨g,0,none⟩),.slice A p.scope.length c] w8.drew fun e9 w9=>∃ g' h' A9 c9,e9 = .returned (.tuple #[.pointer (some ⟨g',0,none⟩),.slice A9 p.scope.length c9,.int .i64 0])∧TabAt w9 g' h' (pickN sizes p.scope) k (fun i=>capA (e.z i) (p.z i) k)∧w8.drew.heap.size≤g'∧w8.drew.heap.size≤h'∧Below w8.drew.heap.size w8.drew w9):=by
      have hpm:=List.mem_of_getElem? QJ.out;have b9:=B8.out.drew;have te:=HTE.out.below b9;rw [hsc] at te;have gi:=grp_in HGR.out (by have:=HH.out.top;omega) (fun q hq i=>(ZIN.out q (List.mem_of_mem_take hq) i).1) e (List.mem_of_getElem? HE.out);rw [hsc] at gi;exact hid (join_rise ge hhe g hh p.scope.length c c (prodL (pickN sizes p.scope)) A A p.scope (pickN sizes p.scope) k e.z p.z w8.drew te (HTT.out.below b9) (pickN_len _ _) rfl (RIS.out p hpm) (ARI.out p hpm) (HI.out.below b9 (Nat.le_refl _)) (HI.out.below b9 (Nat.le_refl _)) (own_none PAX.out.1) (own_none PAX.out.1) (SIZ.out p hpm) rfl (PRO.out p hpm) HH.out.top.1 HH.out.top.2 gi (fun i _=>ZIN.out p hpm i))
     clear hcu8;go_upto_region 14 with fail
     refine wp_region_noPanic ?_;refine wp_region_held_drew (S:=fun W=>W.cell? ⟨wr.heap.size,0,none⟩=some (.slice A p.scope.length c)∧W.cell? ⟨wr.heap.size,1,none⟩=some (.pointer (some ⟨g,0,none⟩))) (by kernel_rfl) ⟨k0,k1⟩ (fun hHeld=>?_);refine wt 0 ?r901;refine wt 1 ?r902;refine wt 2 ?r903;refine wt 3 ?r904;refine wt 4 ?r905;refine wt 5 ?r906;refine wt 7 ?r907;refine wt 8 ?r908;refine wt 9 ?r909;refine wt 10 ?r910;refine wt 11 ?r911;refine wt 12 ?r912;refine wr1 6 (fun K hK=>?_);have q1c:=Q1.out;go_simp;clear q1c;refine hK.out _ _ (hHeld) (fun hHeld'=>?_);replace hHeld:=hHeld';clear hHeld';clear hK K;try simp only [Act.put,pa,pb,pc,pd,pe,pf]
     refine wr1 13 (fun K hK=>?_);go_simp;refine JR.out.mono ?_;rintro e9 w9 ⟨g',h',A9,c9,rfl,hT9,hg9,hh9,hb9⟩;have q9:=(hb9.cell (p:=⟨gl,m * 2+1,none⟩) (World.block_lt_of_cell? w8 _ Q1.out)).trans Q1.out;have r9:=(hb9.block gl (Array.getElem?_eq_some_iff.1 HC8.out).1).trans HC8.out;have f9:w9.frozen? ⟨gl,m * 2+1,none⟩=false:=by simp [World.frozen?,r9]
     refine hK.out _ _ (⟨(hb9.cell (p:=⟨wr.heap.size,0,none⟩) (World.block_lt_of_cell? w8 _ k0)).trans k0,(hb9.cell (p:=⟨wr.heap.size,1,none⟩) (World.block_lt_of_cell? w8 _ k1)).trans k1⟩) (fun hHeld'=>?_);replace hHeld:=hHeld';clear hHeld';clear hK K;try simp only [Act.put,pa,pb,pc,pd,pe,pf]
     refine wt 14 ?r913;refine wt 15 ?r914;refine wt 16 ?r915;refine wt 17 ?r916;refine wt 18 ?r917;refine wt 19 ?r918;refine wr1 20 (fun K hK=>?_);go_simp;refine hK.out _ _ (⟨(World.cell?_setCell_far _ _ _ _ (fun e'=>hng (by first | exact e' | exact e'.symm))).trans hHeld.1,(World.cell?_setCell_far _ _ _ _ (fun e'=>hng (by first | exact e' | exact e'.symm))).trans hHeld.2⟩) (fun hHeld'=>?_);replace hHeld:=hHeld';clear hHeld';clear hK K;try simp only [Act.put,pa,pb,pc,pd,pe,pf]
     refine wpAnyH_done (by kernel_rfl) ?_ _;refine NoPanic.normal ?_;clear hHeld;clear q1 k0 k1;have ow:=(HOW.out.below B8.out.drew)
     have ow9:=ow.below hb9;have os:=ow9.set HY.out (.pointer (some ⟨g',0,none⟩));rw [hm] at os;have OS:=hid os;have r9':=hid r9;have T9:=hid hT9;have B9:=hid (B8.out.drew.trans (hb9.mono B8.out.drew.size));have SE:=hid hsc;have G9:Hid (w.heap.size≤g'∧w.heap.size≤h'):=hid ⟨by have h1:w8.heap.size≤g':=hg9;omega,by have h1:w8.heap.size≤h':=hh9;omega⟩;clear ow ow9 os r9 hT9 hg9 hh9 hb9 hsc q9 f9;go_wp2_with fail
     go_roundw
     case rel =>
      have hz9:=B9.out.size;have k1:=KeepP.set (i:=m * 2+1) r9'.out (.pointer (some ⟨g',0,none⟩));have kw:=(KeepP.below B9.out).trans k1;have hsE:=SE.out;have hme:es.length=m+1:=by rw [← HLE.out];exact hm
      refine⟨j2+1,_,es.take m++[⟨e.scope,fun i=>capA (e.z i) (p.z i) k⟩],by omega,by go_num,OS.out.1,by simp [hme,hm],by simp;omega,fun i x q hx hq=>?_,?_,HKP.out.trans kw,?_,?_⟩
      ·rcases Nat.lt_trichotomy i m with h | h | h
       ·rw [List.getElem?_set_ne (by omega)] at hx
        rw [List.getElem?_append_left (by rw [List.length_take];omega),List.getElem?_take_of_lt h] at hq;exact (HLP.out i x q hx hq).keep kw
       ·subst h
        rw [List.getElem?_set_self (by omega)] at hx;have e2:(es.take i++[(⟨e.scope,fun i=>capA (e.z i) (p.z i) k⟩:PartM)])[i]? = some ⟨e.scope,fun i=>capA (e.z i) (p.z i) k⟩:=by
         rw [List.getElem?_append_right (by rw [List.length_take];omega),List.length_take,show i - min i es.length=0 by omega];rfl
        rw [e2] at hq;cases hx;cases hq;have t9:=T9.out;rw [← hsE] at t9;exact PartA.keep ⟨(PBX.out.keep (KeepP.below B9.out)).1,g',h',rfl,t9,G9.out.1,G9.out.2⟩ k1
       have:=(List.getElem?_eq_some_iff.1 hx).1;simp at this
       omega
      ·rw [take_nextP QJ.out]
       have hes:es=es.take m++[e]:=by
        rw [← take_nextP HE.out,List.take_of_length_le (by omega)]
       have hg:=HGR.out;rw [hes] at hg;exact hg.join hsE rfl (fun q hq i _=>(ZIN.out q (List.mem_of_mem_take hq) i).1) (fun i _=>(ZIN.out p (List.mem_of_getElem? QJ.out) i).1) (fun i hi=>cap_min (grp_in HGR.out (by have:=HH.out.top;omega) (fun q hq i=>(ZIN.out q (List.mem_of_mem_take hq) i).1) e (List.mem_of_getElem? HE.out) i (by rw [hsE];exact hi)) (ZIN.out p (List.mem_of_getElem? QJ.out) i))
      ·exact rowIs_heap (rowIs_next HRW2.out B9.out) (OS.out.2.block _ (by have:=HRW2.out.lt;omega) (fun e'=>by have e':=Option.some.inj e';omega))
      exact (HB2.out.trans (B9.out.mono hbs2)).grown OS.out.2 (by omega) (fun q hq=>by have hq:=Option.some.inj hq;omega)
     case measure=>simp [intOf];omega
    have dsc:decide (e.scope=p.scope)=false:=decide_eq_false hsc;have ow:=HOW.out.below B8.out;rw [hm] at ow;have OW8:=hid ow;clear ow;have hb8z:w.heap.size+1≤w8.heap.size:=by have:=HRW2.out.lt;omega
    have hl5:ls.length≤100000:=by omega
    have GN:=hid (HGR.out.next (p:=p) (e:=p) rfl (all_before HGR.out QS.out QJ.out (fun m' e' he' hm'=>by
     obtain rfl:m'=m:=by have:=HLE.out;omega
     rw [HE.out] at he';cases he';exact hsc)) (fun i _=>ZIN.out p (List.mem_of_getElem? QJ.out) i) (fun _ _=>rfl))
    go_wp2_with (at_builtin;refine push_pt rfl (.tmp 69) (.tmp 71) rfl w8 (w.heap.size+1) (.slice (some ⟨gl,0,none⟩) (m+1) cl) ls (.slice A p.scope.length c) (.pointer (some ⟨g,0,none⟩)) rfl rfl rfl rfl OW8.out hb8z hl5 ?_;intro v9 w9 hO9 hg9 hv9)
    go_roundw
    case rel =>
     have hcu8:=(B8.out.block gl (Array.getElem?_eq_some_iff.1 HCU.out).1).trans HCU.out;have kw:=(KeepP.below B8.out).trans (KeepP.grown (g:=gl) hg9 hcu8);refine⟨j2+1,ls++[(.slice A p.scope.length c,.pointer (some ⟨g,0,none⟩))],es++[p],by omega,by go_num,hO9,by simp [HLE.out],by simp;omega,fun i x q hx hq=>?_,?_,HKP.out.trans kw,?_,?_⟩
     ·rcases Nat.lt_or_ge i ls.length with hi | hi
      ·rw [List.getElem?_append_left hi] at hx
       rw [List.getElem?_append_left (by rw [← HLE.out];exact hi)] at hq;exact (HLP.out i x q hx hq).keep kw
      obtain rfl:i=ls.length:=by
       have:=(List.getElem?_eq_some_iff.1 hx).1;simp at this
       omega
      have e1:(ls++[((.slice A p.scope.length c:Value),(.pointer (some ⟨g,0,none⟩):Value))])[ls.length]? = some (.slice A p.scope.length c,.pointer (some ⟨g,0,none⟩)):=by simp
      have e2:(es++[p])[ls.length]? = some p:=by rw [HLE.out];simp
      rw [e1] at hx;rw [e2] at hq;cases hx;cases hq;exact PAX.out.keep kw
     ·rw [take_nextP QJ.out]
      exact GN.out
     ·exact rowIs_heap (rowIs_next HRW2.out B8.out) (hg9.block _ (by omega) (fun e'=>by have e':=Option.some.inj e';have e':w.heap.size=gl:=e';omega))
     exact (HB2.out.trans (B8.out.mono hbs2)).grown hg9 (by omega) (fun q hq=>by have hq:=Option.some.inj hq;have hq:gl=q:=hq;omega)
    case measure=>simp [intOf];omega
   have i3:¬ (j2:Int) < (n:Int):=by omega
   have hjn2:j2=n:=by omega
   have FIN:Hid (∀ e,e = .returned u6→SumPost w k sizes fs e wr):=hid fun e he=>by
    refine⟨⟨u6,ls,es,he,?_,HLE.out,HLP.out,?_⟩,HB2.out⟩
    ·exact row_less2 HOW.out (by omega)
    have h:=HGR.out;rw [hjn2,List.take_of_length_le (by rw [QL.out];exact Nat.le_refl _)] at h;exact h.perm QP.out
   go_wp2_with fail
   go_ret;exact FIN.out _ rfl
end Go.Proofs.YtmokogkndbinlaaGreatDoor
namespace Go.Proofs.YtmokogkndbinlaaGreatDoor
open Go.Lib (hid)
open Go.RowKit
theorem foldl_not {t:List Nat}:∀ {ls:List LineM}{g:List Nat→Int},(∀ y∈ls,y.1≠t)→ls.foldl (fun g y=>updF g y.1 y.2) g t=g t
 | [],g,_=>rfl
 | y::ls,g,h=>by
  rw [List.foldl_cons,foldl_not fun z hz=>h z (List.mem_cons_of_mem _ hz)];exact if_neg fun e=>h y (by simp) e.symm
theorem foldl_mem {t:List Nat}{c:Int}:∀ {ls:List LineM}{g:List Nat→Int},(ls.map (·.1)).Pairwise (·≠·)→(t,c)∈ls→ls.foldl (fun g y=>updF g y.1 y.2) g t=c
 | [],g,_,h=>by cases h
 | y::ls,g,hp,h=>by
  rw [List.map_cons,List.pairwise_cons] at hp;rw [List.foldl_cons];rcases List.mem_cons.1 h with e | h
  ·subst e
   rw [foldl_not fun z hz e=>hp.1 z.1 (List.mem_map_of_mem hz) e.symm];exact if_pos rfl
  exact foldl_mem hp.2 h
theorem putF_not {o:Int}{t:List Nat}{ls:List LineM}(h:∀ y∈ls,y.1≠t):putF o ls t=o:=foldl_not h
theorem putF_mem {o c:Int}{t:List Nat}{ls:List LineM}(hp:(ls.map (·.1)).Pairwise (·≠·)) (h:(t,c)∈ls):putF o ls t=c:=foldl_mem hp h
def canF (sizes S:List Nat) (z:Nat→Int) (o:Int):FunM :=
 ⟨S,o,(linesT (pickN sizes S) o (fillF (pickN sizes S) o z (prodL (pickN sizes S)))).map fun t=>(t,fillF (pickN sizes S) o z (prodL (pickN sizes S)) t)⟩
theorem canF_fst (sizes S:List Nat) (z:Nat→Int) (o:Int):(canF sizes S z o).lines.map (·.1)=linesT (pickN sizes S) o (fillF (pickN sizes S) o z (prodL (pickN sizes S))):=by
 show List.map _ (List.map _ _)=_;rw [List.map_map];exact List.map_id' _
theorem canF_once (sizes S:List Nat) (z:Nat→Int) (o:Int):((canF sizes S z o).lines.map (·.1)).Pairwise (·≠·):=by
 rw [canF_fst];exact linesT_nodup _ _ _
theorem canF_top {sizes S:List Nat}{k:Int}{z:Nat→Int}{o:Int}(hl:∀ n∈pickN sizes S,1≤n) (hz:∀ i,i < prodL (pickN sizes S)→InK (z i) k) (ho:InK o k):topL k (canF sizes S z o).lines=(canF sizes S z o).lines:=by
 unfold topL;refine (List.map_congr_left fun y hy=>?_).trans (List.map_id' _);obtain⟨t,ht,rfl⟩:=List.mem_map.1 hy;have:=(fillF_in ho hz t ((linesT_mem hl t).1 ht).1).2.2.2;show (_,min _ k)=_;rw [Int.min_eq_left this]
theorem canF_fun {sizes S:List Nat}{k:Int}{z:Nat→Int}{o:Int}(hl:∀ n∈pickN sizes S,1≤n) (hz:∀ i,i < prodL (pickN sizes S)→InK (z i) k) (ho:InK o k) {t:List Nat}(ht:InL (pickN sizes S) t) :
  funF k (canF sizes S z o) t=fillF (pickN sizes S) o z (prodL (pickN sizes S)) t:=by
 unfold funF;rw [canF_top hl hz ho];have e:min (canF sizes S z o).other k=o:=Int.min_eq_left ho.2.2.2;rw [e];by_cases h:fillF (pickN sizes S) o z (prodL (pickN sizes S)) t=o
 rotate_left
 ·exact putF_mem (canF_once sizes S z o) (List.mem_map.2 ⟨t,(linesT_mem hl t).2 ⟨ht,h⟩,rfl⟩)
 rw [h];refine putF_not fun y hy e1=>?_;obtain⟨u,hu,rfl⟩:=List.mem_map.1 hy;have e2:u=t:=e1;subst e2;exact ((linesT_mem hl u).1 hu).2 h
theorem inj_len {α β:Type} [DecidableEq β] (f:α→β):∀ {xs:List α} {ys:List β},xs.Pairwise (fun a b=>f a≠f b)→(∀ x∈xs,f x∈ys)→xs.length≤ys.length
 | [],ys,_,_=>Nat.zero_le _
 | x::xs,ys,hp,hm=>by
  rw [List.pairwise_cons] at hp;have h1:=hm x (by simp);have h2:=inj_len f (xs:=xs) (ys:=ys.erase (f x)) hp.2 fun y hy=>(List.mem_erase_of_ne (fun e=>hp.1 y hy e.symm)).2 (hm y (List.mem_cons_of_mem _ hy));rw [List.length_erase_of_mem h1] at h2;have h3:=List.length_pos_of_mem h1;simp only [List.length_cons];omega
def asP (k:Int) (sizes:List Nat) (c:FunM):PartM:=⟨c.scope,fun i=>funF k c (tupL (pickN sizes c.scope) i)⟩
structure CanF (k:Int) (sizes:List Nat) (ps:List PartM) (cfs:List FunM):Prop where
 can:CanI (fun S=>prodL (pickN sizes S)) k ps (cfs.map (asP k sizes))
 frm:∀ c∈cfs,∃ z o,c=canF sizes c.scope z o∧(∀ i,i < prodL (pickN sizes c.scope)→InK (z i) k)∧IsMost z (prodL (pickN sizes c.scope)) o∧∀ n∈pickN sizes c.scope,1≤n
theorem most_in {z:Nat→Int}{P:Nat}{o k:Int}(hz:∀ i,i < P→InK (z i) k) (h:IsMost z P o):InK o k:=by
 obtain⟨i,hi,e⟩:=cntZ_pos h.1;rw [← e];exact hz i hi
theorem canF_z {sizes S:List Nat}{k:Int}{z:Nat→Int}{o:Int}(hl:∀ n∈pickN sizes S,1≤n) (hz:∀ i,i < prodL (pickN sizes S)→InK (z i) k) (ho:InK o k) {i:Nat}(hi:i < prodL (pickN sizes S)) :
  (asP k sizes (canF sizes S z o)).z i=z i:=by
 show funF k (canF sizes S z o) (tupL (pickN sizes S) i)=z i;rw [canF_fun hl hz ho (tupL_in hl i),fillF_all hi]
theorem ltS_ne {a b:List Nat}(h:ltS a b):a≠b:=fun e=>by subst e;exact ltS_irr a h
theorem CanF.scopes {k:Int}{sizes:List Nat}{ps:List PartM}{cfs:List FunM}(h:CanF k sizes ps cfs):(cfs.map (·.scope)).Pairwise (·≠·):=by
 have h1:=h.can.ris;rw [List.map_map] at h1;exact h1.imp fun h=>ltS_ne h
inductive All2 (R:PartM→PartM→Prop):List PartM→List PartM→Prop where
 | nil:All2 R [] []
 | cons {a b:PartM}{l m:List PartM}(h:R a b) (t:All2 R l m):All2 R (a::l) (b::m)
theorem forall2_right {R:PartM→PartM→Prop}:∀ {ps qs:List PartM},All2 R ps qs→∀ q∈qs,∃ p∈ps,R p q
 | [],[],_,p,hp=>by cases hp
 | a::ps,b::qs,h,q,hq=>by
  cases h with
  | cons h1 h2 =>
   rcases List.mem_cons.1 hq with rfl | hq
   ·exact⟨a,by simp,h1⟩
   obtain⟨p,hp,hr⟩:=forall2_right h2 q hq;exact⟨p,List.mem_cons_of_mem _ hp,hr⟩
end Go.Proofs.YtmokogkndbinlaaGreatDoor
