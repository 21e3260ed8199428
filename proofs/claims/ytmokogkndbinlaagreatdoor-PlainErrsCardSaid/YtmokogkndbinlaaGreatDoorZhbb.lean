import Derived.Test.YtmokogkndbinlaaGreatDoorZhba
set_option linter.all false
namespace Go.Proofs.YtmokogkndbinlaaGreatDoor
open Go.Lib (hid)
def risL (s:List Nat):List Nat:=(sortI s).map Int.toNat
theorem risL_cast (s:List Nat):sortI s=(risL s).map fun i:Nat=>(i:Int):=by
 rw [risL,List.map_map];refine (List.map_id' (sortI s)).symm.trans (List.map_congr_left fun x hx=>?_);obtain⟨n,_,e⟩:=sortI_mem.1 hx;subst e;simp
theorem risL_len (s:List Nat):(risL s).length=s.length:=by rw [risL,List.length_map,sortI_len]
theorem risL_perm (s:List Nat):(risL s).Perm s:=by
 have h:((sortI s).map Int.toNat).Perm ((s.map fun i:Nat=>(i:Int)).map Int.toNat):=List.Perm.map Int.toNat (List.mergeSort_perm _ _);have e:(s.map fun i:Nat=>(i:Int)).map Int.toNat=s:=by
  rw [List.map_map];exact (List.map_congr_left fun x _=>by simp).trans (List.map_id' s)
 rw [e] at h;exact h
theorem risL_mem {s:List Nat}{x:Nat}:x∈risL s↔x∈s:=(risL_perm s).mem_iff
theorem risL_lt {s:List Nat}(h:s.Nodup):(risL s).Pairwise (· < ·):=by
 have h1:(risL s).Pairwise (·≤·):=by
  rw [risL,List.pairwise_map];exact (sortI_sorted s).imp fun h=>by omega
 have h2:(risL s).Pairwise (·≠·):=List.nodup_iff_pairwise_ne.1 ((risL_perm s).nodup_iff.2 h);exact (h1.and h2).imp fun ⟨a,b⟩=>by omega
def idxN:List Nat→Nat→Nat
 | [],_=>0
 | a::s,v=>if a=v then 0 else idxN s v+1
theorem idxN_spec:∀ {s:List Nat}{v:Nat},v∈s→idxN s v < s.length∧nth s (idxN s v)=v∧∀ i,i < idxN s v→nth s i≠v
 | a::s,v,h=>by
  by_cases e:a=v
  ·have:idxN (a::s) v=0:=by simp [idxN,e]
   rw [this];exact⟨by simp,e,fun i hi=>absurd hi (Nat.not_lt_zero i)⟩
  have e1:idxN (a::s) v=idxN s v+1:=by simp [idxN,e]
  have hm:v∈s:=by
   rcases List.mem_cons.1 h with h | h
   ·exact absurd h.symm e
   exact h
  obtain⟨h1,h2,h3⟩:=idxN_spec hm;rw [e1];refine⟨by simp;exact h1,h2,fun i hi=>?_⟩
  match i with
  | 0=>exact e
  | i+1=>exact h3 i (by omega)
theorem nth_inj {s:List Nat}(h:s.Nodup) {i j:Nat}(hi:i < s.length) (hj:j < s.length) (e:nth s i=nth s j):i=j:=by
 have hp:=List.nodup_iff_pairwise_ne.1 h;rw [List.pairwise_iff_getElem] at hp;rw [nth_get hi,nth_get hj] at e;rcases Nat.lt_trichotomy i j with h1 | h1 | h1
 ·exact absurd e (hp i j hi hj h1)
 ·exact h1
 exact absurd e.symm (hp j i hj hi h1)
theorem idxN_nth {s:List Nat}(h:s.Nodup) {i:Nat}(hi:i < s.length):idxN s (nth s i)=i:=by
 obtain⟨h1,h2,_⟩:=idxN_spec (nth_mem hi);exact nth_inj h h1 hi h2
def ordL (s:List Nat):List Nat:=(risL s).map (idxN s)
def invL (s:List Nat):List Nat:=s.map fun v=>(risL s).countP (· < v)
theorem ordL_len (s:List Nat):(ordL s).length=s.length:=by rw [ordL,List.length_map,risL_len]
theorem invL_len (s:List Nat):(invL s).length=s.length:=by rw [invL,List.length_map]
theorem nth_ord {s:List Nat}{i:Nat}(hi:i < s.length):nth (ordL s) i=idxN s (nth (risL s) i):=nth_map (by rw [risL_len];exact hi)
theorem nth_inv {s:List Nat}{i:Nat}(hi:i < s.length):nth (invL s) i=(risL s).countP (· < nth s i):=nth_map hi
theorem perm_ris {s:List Nat}(h:s.Nodup):PermL s.length (ordL s) (invL s) where
 ls:=ordL_len s
 lr:=invL_len s
 bs i hi:=by
  rw [nth_ord hi];exact (idxN_spec (risL_mem.1 (nth_mem (by rw [risL_len];exact hi)))).1
 br i hi:=by
  rw [nth_inv hi,← risL_len s];exact (nth_cnt (risL_lt h) (risL_mem.2 (nth_mem hi))).1
 sr i hi:=by
  have h1:=nth_cnt (risL_lt h) (risL_mem.2 (nth_mem hi));rw [nth_inv hi,nth_ord (by rw [← risL_len s];exact h1.1),h1.2,idxN_nth h hi]
 rs i hi:=by
  have h1:=idxN_spec (risL_mem.1 (nth_mem (l:=risL s) (i:=i) (by rw [risL_len];exact hi)));rw [nth_ord hi,nth_inv h1.1,h1.2.1,cnt_nth (risL_lt h) (by rw [risL_len];exact hi)]
theorem nth_pickN {sizes s:List Nat}{i:Nat}(hi:i < s.length):nth (pickN sizes s) i=sizes.getD (nth s i) 0:=nth_map hi
theorem pickN_len (sizes s:List Nat):(pickN sizes s).length=s.length:=by simp [pickN]
theorem pick_ord (sizes s:List Nat):pickL (pickN sizes s) (ordL s)=pickN sizes (risL s):=by
 rw [pickL,ordL,pickN,pickN,List.map_map];refine List.map_congr_left fun v hv=>?_;have h:=idxN_spec (risL_mem.1 hv);show nth (pickN sizes s) (idxN s v)=_;rw [nth_pickN h.1,h.2.1]
def risM (sizes s:List Nat) (f:List Nat→Int):PartM:=⟨risL s,fun i=>f (pickL (tupL (pickN sizes (risL s)) i) (invL s))⟩
theorem turn_ris {sizes s:List Nat}(h:s.Nodup) (h1:∀ n∈pickN sizes s,1≤n) (f:List Nat→Int) (i:Nat):turnZ (pickN sizes s) (fun i=>f (tupL (pickN sizes s) i)) (ordL s) (invL s) i=(risM sizes s f).z i:=by
 have hx:=turn_in (i:=i) (perm_ris h) (pickN_len sizes s) h1;show f (tupL (pickN sizes s) (numL (pickN sizes s) (pickL (tupL (pickL (pickN sizes s) (ordL s)) i) (invL s))))=_;rw [hx.tup,pick_ord];rfl
open Go.RowKit
theorem repI_row {W:World}{h n:Nat}{x:Int}(H:RepAtI W h x n n):W.rowIs h 3 n (fun _=>.int .i64 x):=by
 refine⟨_,H,by simp [RepL],fun i hi=>?_⟩;simp [RepL,hi]
def InvPost (w:World) (o:Nat→Int) (n b:Nat) (e:Ending) (w':World):Prop :=
 (b=n→∃ h,e = .returned (.tuple #[.slice (some ⟨h,0,none⟩) n n,.bool true])∧Zs w' (some ⟨h,0,none⟩) n (fun v=>invF o n v))∧(b < n→e = .returned (.tuple #[.slice none 0 0,.bool false]))∧Below w.heap.size w w'
set_option maxRecDepth 100000 in
set_option maxHeartbeats 4000000 in
theorem inverse_any (A:Option Addr) (n c b:Nat) (o:Nat→Int) (w:World) (hn:n≤6) (hw:Zs w A n o) (hbn:b≤n) (hG:OrdB o n b) (hB:b < n→o b < 0∨(n:Int)≤o b∨∃ i,i < b∧o i=o b) :
  Calls Tryz.prog 218 #[.slice A n c,.int .i64 (n:Int)] w (InvPost w o n b):=by
 have HW:=hid hw;have HG:=hid hG;have HB:=hid hB;clear hw hG hB;have d:((n:Int) != (n:Int))=false:=by simp
 have n1:=new_val w (.cells #[.int .i64 (-1)] 3);have HR:=hid (repeat_anyI w.heap.size 1 n (-1) (w.alloc (.cells #[.int .i64 (-1)] 3)) (lit_new w _ _) (by simp) (by omega));have B1:=hid n1;clear n1;go_enter Tryz.func218,Tryz.ntmps218
 go_wp2_with fail
 refine HR.out.mono ?_;rintro e w2 ⟨rfl,hrep,hb2⟩;have B2:=hid (then_ B1.out hb2);have R2:=hid (repI_row hrep);have hz:w.heap.size≤(w.alloc (.cells #[.int .i64 (-1)] 3)).heap.size:=B1.out.size;clear hrep hb2 HR B1;generalize (w.alloc (.cells #[.int .i64 (-1)] 3)).heap.size=h at R2 hz ⊢;go_upto_region 5 with fail
 go_loopw [18] (fun i wr=>∃ j:Nat,j≤b∧i = .int .i64 (j:Int)∧wr.rowIs h 3 n (fun v=>.int .i64 (invF o j v))∧Below w.heap.size w wr) (fun i _=>n - (intOf i).toNat)
 case atStart=>exact⟨0,Nat.zero_le _,rfl,R2.out,B2.out⟩
 case round =>
  obtain⟨j,hj,rfl,hrow,hb⟩:=hrel;have HRW:=hid hrow;have HBL:=hid hb;clear hrow hb;by_cases hlt:j < n
  ·obtain⟨g,os,rfl,hcs⟩:=(HW.out.below HBL.out (Nat.le_refl _)).at_ hlt
   have i1:(j:Int) < (n:Int):=by omega
   have i2:(0:Int)≤(j:Int):=by omega
   by_cases hjb:j < b
   ·obtain⟨g0,g1,g2⟩:=HG.out j hjb
    obtain⟨v,hv⟩:∃ v:Nat,o j=(v:Int):=⟨(o j).toNat,by omega⟩
    have hvn:v < n:=by omega
    have HV:=hid hv;have kc:=HRW.out.cell hvn;rw [invF_neg o v j (fun i hi=>by rw [← hv];exact g2 i hi)] at kc;have kf:=HRW.out.frozen v;rw [hv] at hcs;have HN:Hid ((wr.setCell ⟨h,v,none⟩ (.int .i64 (j:Int))).rowIs h 3 n (fun v=>.int .i64 (invF o (j+1) v))):=hid ((HRW.out.set v (.int .i64 (j:Int))).congr fun i hi=>by
     show (if i=v then _ else _)=Value.int .i64 (if o j=(i:Int) then (j:Int) else invF o j i);by_cases e:i=v
     ·subst e;rw [if_pos rfl,if_pos HV.out]
     ·rw [if_neg e,if_neg (by rw [HV.out];omega)])
    have BN:=hid (HBL.out.setCell (p:=⟨h,v,none⟩) hz (.int .i64 (j:Int)));have d1:decide ((v:Int) < 0)=false:=by simp
    have d2:decide (n≤v)=false:=by simp;omega
    have d3:decide ((n:Int)≤(v:Int))=false:=by simp;omega
    have d4:(v:Int) < (n:Int):=by omega
    have d5:(0:Int)≤(v:Int):=by omega
    clear g0 g1 g2 hv;go_wp2_with fail
    go_roundw
    case rel=>exact⟨j+1,by omega,by go_num,HN.out,BN.out⟩
    case measure=>simp [intOf];omega
   obtain rfl:b=j:=by omega
   obtain⟨y,hy⟩:∃ y,o b=y:=⟨_,rfl⟩
   have hbad:=HB.out hlt;rw [hy] at hcs hbad;have fin:∀ W,Below w.heap.size w W→InvPost w o n b (.returned (.tuple #[.slice none 0 0,.bool false])) W:=fun W hW=>⟨fun e=>by omega,fun _=>rfl,hW⟩
   have FIN:=hid fin;have HY:=hid hy;clear fin hy hjb;by_cases h0:y < 0
   ·clear hbad
    go_wp2_with fail
    go_ret2;exact FIN.out _ HBL.out
   by_cases h1:(n:Int)≤y
   ·have d1:decide (y < 0)=false:=by simpa using h0
    have d2:decide ((n:Int)≤y)=true:=by simpa using h1
    clear hbad;go_wp2_with fail
    go_ret2;exact FIN.out _ HBL.out
   have hex:∃ i,i < b∧o i=y:=by rcases hbad with h | h | h;exact absurd h h0;exact absurd h h1;exact h
   obtain⟨v,hv⟩:∃ v:Nat,y=(v:Int):=⟨y.toNat,by omega⟩
   subst hv;have hvn:v < n:=by omega
   have kc:=HRW.out.cell hvn;obtain⟨i,hi,hiv⟩:=hex;have hq:=invF_pos (j:=b) hi hiv;generalize invF o b v=q at kc hq;have d1:decide ((v:Int) < 0)=false:=by simp
   have d2:decide (n≤v)=false:=by simp;omega
   have d3:decide ((n:Int)≤(v:Int))=false:=by simp;omega
   have d4:(v:Int) < (n:Int):=by omega
   have d5:(0:Int)≤(v:Int):=by omega
   have d6:decide (0≤q)=true:=by simpa using hq
   clear hbad hiv h0 h1;go_wp2_with fail
   go_ret2;exact FIN.out _ HBL.out
  have i1:¬ (j:Int) < (n:Int):=by omega
  have hbj:b=j:=by omega
  have hjn:j=n:=by omega
  subst hbj;subst hjn;have FIN:Hid (∀ W,Below w.heap.size w W→W.rowIs h 3 b (fun v=>.int .i64 (invF o b v))→InvPost w o b b (.returned (.tuple #[.slice (some ⟨h,0,none⟩) b b,.bool true])) W):=hid fun W hW hr=>⟨fun _=>⟨h,rfl,rowIs_zs hr (fun i _=>rfl)⟩,fun h=>by omega,hW⟩
  go_wp2_with fail
  go_ret2;exact FIN.out _ HBL.out HRW.out
end Go.Proofs.YtmokogkndbinlaaGreatDoor
namespace Go.Proofs.YtmokogkndbinlaaGreatDoor
open Go.Lib (hid)
attribute [local go_sem] Oper.semAt_some
open Go.RowKit Go.Shelf
theorem permL_ordB {n:Nat}{s r:List Nat}(h:PermL n s r):OrdB (fun i=>(nth s i:Int)) n n:=fun i hi=>by
 refine⟨by show (0:Int)≤(nth s i:Int);omega,by show (nth s i:Int) < (n:Int);have:=h.bs i hi;omega,fun i' hi' e=>?_⟩;have e:(nth s i':Int)=(nth s i:Int):=e;have e:nth s i'=nth s i:=by omega
 have h1:=h.rs i hi;have h2:=h.rs i' (by omega);rw [e] at h2;omega
theorem permL_inv {n v:Nat}{s r:List Nat}(h:PermL n s r) (hv:v < n):invF (fun i=>(nth s i:Int)) n v=(nth r v:Int):=by
 have h1:=ordB_inv (permL_ordB h) (h.br v hv);rw [h.sr v hv] at h1;simpa using h1
theorem inverse_perm (A:Option Addr) (n c:Nat) (s r:List Nat) (w:World) (hn:n≤6) (h:PermL n s r) (hw:Ints w A s) :
  Calls Tryz.prog 218 #[.slice A n c,.int .i64 (n:Int)] w fun e w'=>(∃ h,e = .returned (.tuple #[.slice (some ⟨h,0,none⟩) n n,.bool true])∧Ints w' (some ⟨h,0,none⟩) r)∧Below w.heap.size w w':=by
 have hz:=hw.zs;rw [h.ls] at hz;refine (inverse_any A n c n (fun i=>(nth s i:Int)) w hn hz (Nat.le_refl _) (permL_ordB h) (fun h=>by omega)).mono ?_;rintro e w' ⟨h1,_,h3⟩;obtain⟨b,e1,hzr⟩:=h1 rfl;refine⟨⟨b,e1,?_⟩,h3⟩;rcases hzr with h0 | ⟨g,o,e2,hlt,hc⟩
 ·exact .inl (List.eq_nil_of_length_eq_zero (by rw [h.lr];exact h0))
 exact .inr ⟨g,o,e2,hlt,fun i hi=>by rw [h.lr] at hi;rw [hc i hi];exact congrArg some (congrArg (Value.int .i64) (permL_inv h hi))⟩
structure TrnI (W0:World) (h P:Nat) (f:Nat→Int) (n:Nat) (W:World):Prop where
 kept:Kept2 W0 h h W
 costs:W.rowIs h 2 P (fun i=>.int .i64 (if i < n then f i else 0))
theorem trnI_from {W0:World}{h P:Nat}{f:Nat→Int}:OwnFrom W0.heap.size (fun (pre:List (Nat × Value)) W=>TrnI W0 h P f pre.length W):=by
 intro s X Y row hs hg hr;exact⟨kept2_own (Nat.le_refl _) () X Y row hs.kept hg hr,Own.from (rowIs_own h 2 P (fun (n:Nat) i=>.int .i64 (if i < n then f i else 0))) _ s.length X Y row hs.costs hg hr⟩
structure TrnR (W0:World) (h P:Nat) (f:Nat→Int) (n Bs:Nat) (W W':World):Prop where
 inv:TrnI W0 h P f n W'
 kf:KeepsFrom W0.heap.size W W'
 k1:Keep1 Bs W W'
theorem TrnR.next {W0 W W' W2:World}{h P:Nat}{f:Nat→Int}{n Bs:Nat}(H:TrnR W0 h P f n Bs W W') (hBs:Bs < W.heap.size) (hb:Below W'.heap.size W' W2):TrnR W0 h P f n Bs W W2 :=
 ⟨⟨H.inv.kept.next hb,rowIs_next H.inv.costs hb⟩,H.kf.trans (KeepsFrom.of_grownBy (grown_of_below hb) (fun j e=>by cases e)),H.k1.trans (Keep1.of_below hb (Nat.lt_of_lt_of_le hBs H.k1.1))⟩
theorem TrnR.fin {W0 W W':World}{h P:Nat}{f:Nat→Int}{x:Int}{n Bs:Nat}(H:TrnR W0 h P f n Bs W W') (hb:Bs≠h) (h1:f n=x) :
  TrnR W0 h P f (n+1) Bs W (W'.setCell ⟨h,n,none⟩ (.int .i64 x)):=by
 refine⟨⟨H.inv.kept.set (.inl rfl) n _,?_⟩,H.kf.trans ((KeepsOthers.setCell _ _ _).from _),H.k1.trans (keep1_set hb n _)⟩;refine (H.inv.costs.set n (.int .i64 x)).congr fun j hj=>?_;show (if j=n then _ else _)=Value.int .i64 (if j < n+1 then f j else 0);by_cases e:j=n
 ·subst e;rw [if_pos rfl,if_pos (by omega),h1]
 rw [if_neg e];by_cases e2:j < n
 ·rw [if_pos e2,if_pos (by omega)]
 rw [if_neg e2,if_neg (by omega)]
abbrev HoldU (wb:World) (N g:Nat) (l:List Nat) (k:Int) (W:World):Prop :=
 W.cell? ⟨N,0,none⟩=some (.pointer (some ⟨g,0,none⟩))∧W.cell? ⟨g,0,none⟩=some (.int .i64 (l.length:Int))∧W.cell? ⟨g,1,none⟩=some (szV l 0)∧W.cell? ⟨g,2,none⟩=some (szV l 1)∧W.cell? ⟨g,3,none⟩=some (szV l 2) ∧
 W.cell? ⟨g,4,none⟩=some (szV l 3)∧W.cell? ⟨g,5,none⟩=some (szV l 4)∧W.cell? ⟨g,6,none⟩=some (szV l 5)∧W.cell? ⟨g,7,none⟩=some (.int .i64 k)∧Below wb.heap.size wb W
theorem HoldU.of {wb:World}{N g h:Nat}{l:List Nat}{k:Int}{z:Nat→Int}(T:TabAt wb g h l k z) (b0:wb.cell? ⟨N,0,none⟩=some (.pointer (some ⟨g,0,none⟩))):HoldU wb N g l k wb:=by
 obtain⟨c0,c1,c2,c3,c4,c5,c6,c7,c8⟩:=T.cells;exact⟨b0,c0,c1,c2,c3,c4,c5,c6,c7,Below.refl _ _⟩
theorem holdU {wb W W':World}{N g:Nat}{l:List Nat}{k:Int}(h:HoldU wb N g l k W) (hb:Below W.heap.size W W'):HoldU wb N g l k W':=by
 obtain⟨a0,c0,c1,c2,c3,c4,c5,c6,c7,h8⟩:=h;have K:∀ b i v,W.cell? ⟨b,i,none⟩=some v→W'.cell? ⟨b,i,none⟩=some v:=fun b i v h=>(hb.cell (p:=⟨b,i,none⟩) (World.block_lt_of_cell? W _ h)).trans h;exact⟨K _ _ _ a0,K _ _ _ c0,K _ _ _ c1,K _ _ _ c2,K _ _ _ c3,K _ _ _ c4,K _ _ _ c5,K _ _ _ c6,K _ _ _ c7,h8.trans (hb.mono h8.size)⟩
theorem holdU_base {wb W W':World}{N g:Nat}{l:List Nat}{k:Int}(h:HoldU wb N g l k W) (hN:N < wb.heap.size) (hg:g < wb.heap.size) (hb:Below wb.heap.size W W'):HoldU wb N g l k W':=by
 obtain⟨a0,c0,c1,c2,c3,c4,c5,c6,c7,h8⟩:=h;have K:∀ b i v,b < wb.heap.size→W.cell? ⟨b,i,none⟩=some v→W'.cell? ⟨b,i,none⟩=some v:=fun b i v hb' h=>(hb.cell (p:=⟨b,i,none⟩) hb').trans h;exact⟨K _ _ _ hN a0,K _ _ _ hg c0,K _ _ _ hg c1,K _ _ _ hg c2,K _ _ _ hg c3,K _ _ _ hg c4,K _ _ _ hg c5,K _ _ _ hg c6,K _ _ _ hg c7,h8.trans hb⟩
theorem HoldU.below {wb W:World}{N g:Nat}{l:List Nat}{k:Int}(h:HoldU wb N g l k W):Below wb.heap.size wb W:=h.2.2.2.2.2.2.2.2.2
abbrev HoldQ_Tt5 (wb:World) (N g b6 hb n ba g' h' P:Nat) (W:World):Prop :=
 W.cell? ⟨N,0,none⟩=some (.pointer (some ⟨g,0,none⟩))∧W.cell? ⟨b6,0,none⟩=some (.slice (some ⟨hb,0,none⟩) n n)∧W.cell? ⟨ba,0,none⟩=some (.pointer (some ⟨g',0,none⟩))∧W.cell? ⟨g',8,none⟩=some (.slice (some ⟨h',0,none⟩) P P)∧Below wb.heap.size wb W
theorem holdQ_Tt5 {wb W W':World}{N g b6 hb n ba g' h' P:Nat}(h:HoldQ_Tt5 wb N g b6 hb n ba g' h' P W) (hb1:Below W.heap.size W W'):HoldQ_Tt5 wb N g b6 hb n ba g' h' P W':=by
 obtain⟨a0,a1,a2,a3,h8⟩:=h;have K:∀ b i v,W.cell? ⟨b,i,none⟩=some v→W'.cell? ⟨b,i,none⟩=some v:=fun b i v h=>(hb1.cell (p:=⟨b,i,none⟩) (World.block_lt_of_cell? W _ h)).trans h;exact⟨K _ _ _ a0,K _ _ _ a1,K _ _ _ a2,K _ _ _ a3,h8.trans (hb1.mono h8.size)⟩
theorem holdQ_set {wb W:World}{N g b6 hb n ba g' h' P:Nat}(h:HoldQ_Tt5 wb N g b6 hb n ba g' h' P W) (hN:N < wb.heap.size) (h6:b6 < wb.heap.size) (hh:wb.heap.size≤h') (n1:ba≠h') (n2:g'≠h') (i:Nat) (u:Value):HoldQ_Tt5 wb N g b6 hb n ba g' h' P (W.setCell ⟨h',i,none⟩ u):=by
 obtain⟨a0,a1,a2,a3,h8⟩:=h;have K:∀ c j v,c≠h'→W.cell? ⟨c,j,none⟩=some v→(W.setCell ⟨h',i,none⟩ u).cell? ⟨c,j,none⟩=some v:=fun c j v hc h=>by
  rw [World.cell?_setCell_other _ _ _ _ (by intro e;injection e with e1;exact hc (by first | exact e1 | exact e1.symm))];exact h
 exact⟨K _ _ _ (by omega) a0,K _ _ _ (by omega) a1,K _ _ _ n1 a2,K _ _ _ n2 a3,h8.setCell (p:=⟨h',i,none⟩) hh u⟩
theorem HoldQ_Tt5.below {wb W:World}{N g b6 hb n ba g' h' P:Nat}(h:HoldQ_Tt5 wb N g b6 hb n ba g' h' P W):Below wb.heap.size wb W:=h.2.2.2.2
theorem HoldQ_Tt5.of {wb W0 W:World}{N g b6 hb n ba g' h' P:Nat}(h:HoldQ_Tt5 wb N g b6 hb n ba g' h' P W0) (hK:Kept2 W0 h' h' W) (hN:N < wb.heap.size) (h6:b6 < wb.heap.size) (hh:wb.heap.size≤h') (n1:ba≠h') (n2:g'≠h'):HoldQ_Tt5 wb N g b6 hb n ba g' h' P W:=by
 obtain⟨a0,a1,a2,a3,h8⟩:=h;have K:∀ c j v,c≠h'→W0.cell? ⟨c,j,none⟩=some v→W.cell? ⟨c,j,none⟩=some v:=fun c j v h1 h=>(World.cell?_of_block (a:=⟨c,j,none⟩) (hK.block c (World.block_lt_of_cell? W0 _ h) h1 h1)).trans h;exact⟨K _ _ _ (by omega) a0,K _ _ _ (by omega) a1,K _ _ _ n1 a2,K _ _ _ n2 a3,hK.below h8 (Nat.le_refl _) hh hh⟩
def TurnPost (w:World) (l s r:List Nat) (k:Int) (z:Nat→Int) (e:Ending) (w':World):Prop :=
 ∃ g' h',e = .returned (.tuple #[.pointer (some ⟨g',0,none⟩),.int .i64 0])∧TabAt w' g' h' (pickL l s) k (turnZ l z s r)∧w.heap.size≤g'∧w.heap.size≤h'∧Below w.heap.size w w'
set_option maxRecDepth 100000 in
set_option maxHeartbeats 8000000 in
theorem turn_ok (g h n c P:Nat) (A:Option Addr) (l s r:List Nat) (k:Int) (z:Nat→Int) (w:World) (H:TabAt w g h l k z) (h6:l.length≤6) (hl:∀ n∈l,1≤n∧n≤32) (hln:l.length=n) (hpm:PermL n s r) (hA:Ints w A s)
  (hk1:1≤k) (hk2:k≤2147483648) (hP:prodL (pickL l s)=P) (hP4:P≤4096) :
  Calls Tryz.prog 175 #[.pointer (some ⟨g,0,none⟩),.slice A n c] w (TurnPost w l s r k z):=by
 have HL:=hid hl;have HHN:=hid hln;have HPM:=hid hpm;have HPP:=hid hP;have hn6:n≤6:=by omega
 have n1:=new_val w (.cells #[.pointer (some ⟨g,0,none⟩)] 58);have T1:=hid (H.below n1);have A1:=hid (hA.below n1 (Nat.le_refl _));have X1:=hid (Boxed.new w 58 (.pointer (some ⟨g,0,none⟩)));have B1:=hid n1;have HPL:Hid (∀ n∈pickL l s,1≤n∧n≤32):=hid fun x hx=>hl x (pickL_mem (fun i hi=>by rw [hln];exact hpm.bs i (by rw [← hpm.ls];exact hi)) hx);have HLP:Hid ((pickL l s).length=n):=hid (by rw [pickL_len,hpm.ls]);clear H hl n1 hpm hA hP hln;refine (callsIn_wide (n:=3)).1 (callsIn_of_wp_marks Tryz.func175 rfl trivial ?_ rfl);simp only [Tryz.ntmps175,List.size_toArray,List.length_cons,List.length_nil,Nat.reduceAdd,Nat.reduceSub,Array.replicate_succ,Array.replicate_zero,List.push_toArray,List.append_toArray,List.nil_append,List.cons_append];refine wpIn_wide.2 ?_;go_upto_region 1 with fail
 generalize w.alloc (.cells #[.pointer (some ⟨g,0,none⟩)] 58)=w1 at T1 A1 X1 B1 ⊢;have x1:=X1.out.cell;obtain⟨c0,c1,c2,c3,c4,c5,c6,c7,c8⟩:=T1.out.cells;go_wp2_with fail
 refine (arity_any l w1).mono ?_;rintro e w2 ⟨rfl,rfl⟩;have nb:=new_val w1 (shO l);have B2:=hid (then_ B1.out nb);have T2:=hid (T1.out.below nb);have A2:=hid (A1.out.below nb (Nat.le_refl _));have X2:Hid (Boxed _ _ _ _):=hid (box_below X1.out nb);clear x1 c0 c1 c2 c3 c4 c5 c6 c7 c8 nb;generalize w1.alloc (shO l)=w2 at B2 T2 A2 X2 ⊢;rw [HHN.out];go_wp2_with fail
 refine (inverse_perm A n c s r w2 hn6 HPM.out A2.out).mono ?_;rintro e wo ⟨⟨hb,rfl,hR⟩,b3⟩;have n4:=new_val wo (.cells #[.slice (some ⟨hb,0,none⟩) n n] 41);have B4:=hid (then_ (then_ B2.out b3) n4);have T4:=hid ((T2.out.below b3).below n4);have HA4:=hid ((A2.out.below b3 (Nat.le_refl _)).below n4 (Nat.le_refl _));have X4:Hid (Boxed _ _ _ _):=hid (box_below (box_below X2.out b3) n4);have RB4:=hid (hR.below n4 (Nat.le_refl _));have Y4:=hid (Boxed.new wo 41 (.slice (some ⟨hb,0,none⟩) n n));clear hR b3 n4;go_upto_region 4 with fail
 generalize wo.alloc (.cells #[.slice (some ⟨hb,0,none⟩) n n] 41)=w3 at B4 T4 HA4 X4 RB4 Y4 ⊢;generalize wo.heap.size=b6 at Y4 ⊢;have T3:=T4;have HA:=HA4;have RB:=RB4;have HU:=hid (HoldU.of T3.out X4.out.cell);have hN3:w.heap.size < w3.heap.size:=X4.out.lt;have hb63:b6 < w3.heap.size:=Y4.out.lt;have hg3:g < w3.heap.size:=World.block_lt_of_cell? w3 _ HU.out.2.1;have hwz:w.heap.size≤w3.heap.size:=B4.out.size;clear T4 HA4 RB4;go_upto_region 6 with fail
 go_cut [8,9] from 26 to 40 (fun v8 v9 wx=>v9 = .int .i64 0∧∃ ba g' h',v8 = .pointer (some ⟨ba,0,none⟩)∧Boxed wx ba 58 (.pointer (some ⟨g',0,none⟩))∧TabAt wx g' h' (pickL l s) k (fun _=>0)∧w3.heap.size≤ba∧w3.heap.size≤g'∧w3.heap.size≤h'∧Below w3.heap.size w3 wx)
 case first =>
  refine wp_region_noPanic ?_;refine wp_region_held_drew (S:=fun W=>HoldU w3 w.heap.size g l k W) (by kernel_rfl) (holdU HU.out ((Below.refl _ _).drew)) (fun hHeld=>?_);generalize w3.drew=w6 at hHeld ⊢;refine wt 0 ?r1;refine wt 1 ?r2;refine wt 2 ?r3;refine wt 3 ?r4;refine wt 5 ?r5;refine wt 7 ?r6;refine wt 8 ?r7;refine wt 9 ?r8;refine wt 10 ?r9;refine wpAnyH_ready (rs:=[4,15]) (by kernel_rfl) (by simp) ?_;refine AllReadyH.cons rfl (fun K hK=>?_) ?_
  ·go_simp
   refine (sizes_ints l _ h6).mono ?_;rintro e wS ⟨⟨AS,cS,rfl,hO⟩,hb⟩;have OW:=hid hO;have HB:=hid hb;clear hO hb;refine hK.out _ _ (holdU hHeld HB.out) (fun hHeld'=>?_);replace hHeld:=hHeld';clear hHeld';clear hK K;try simp only [Act.put,pa,pb,pc,pd,pe,pf]
   refine wpAnyH_ready (rs:=[6,15]) (by kernel_rfl) (by simp) ?_;refine AllReadyH.cons rfl (fun K hK=>?_) ?_
   ·go_simp
    refine (picked_any AS A l.length cS n c l s _ rfl HPM.out.ls OW.out (HA.out.below (hHeld.below) (Nat.le_refl _)) (fun i hi=>by rw [HHN.out];exact HPM.out.bs i hi) (by omega)).mono ?_;rintro e wD ⟨rfl,hI,hb⟩;have IN:=hid hI;have HB:=hid hb;clear hI hb;refine hK.out _ _ (holdU hHeld HB.out) (fun hHeld'=>?_);replace hHeld:=hHeld';clear hHeld';clear hK K;try simp only [Act.put,pa,pb,pc,pd,pe,pf]
    refine wpAnyH_ready (rs:=[11,15]) (by kernel_rfl) (by simp) ?_;refine AllReadyH.cons rfl (fun K hK=>?_) ?_
    ·go_simp
     refine (tnew_ok _ n n (pickL l s) k 0 _ (by rw [pickL_len,HPM.out.ls]) (by rw [pickL_len,HPM.out.ls];omega) IN.out HPL.out (by rw [HPP.out];omega) hk1 hk2 (Int.le_refl _) (by omega)).mono ?_;rintro e wN ⟨g',h',rfl,hTab,hg',hh',hb⟩;have TA:=hid hTab;have G1:w3.heap.size≤g':=Nat.le_trans hHeld.below.size hg';have G2:w3.heap.size≤h':=Nat.le_trans hHeld.below.size hh';have HB:=hid hb;clear hTab hb hg' hh';refine hK.out _ _ (holdU hHeld HB.out) (fun hHeld'=>?_);replace hHeld:=hHeld';clear hHeld';clear hK K;try simp only [Act.put,pa,pb,pc,pd,pe,pf]
     refine wt 12 ?r10;refine wt 13 ?r11;refine wt 14 ?r12;refine wr1 15 (fun K hK=>?_);go_simp;obtain⟨ba,hba⟩:∃ b,wN.heap.size=b:=⟨_,rfl⟩
     have na:=new_val wN (.cells #[.pointer none] 58);have AL:=hid (Boxed.new wN 58 (.pointer none));have LB:=hHeld.below.size;have TA:=hid (TA.out.below na);have HB:=hid na;clear na;refine hK.out _ _ (holdU hHeld HB.out) (fun hHeld'=>?_);replace hHeld:=hHeld';clear hHeld';rw [hba] at AL LB;try rw [hba]
     generalize wN.alloc (.cells #[.pointer none] 58)=wA at AL hHeld TA ⊢;clear hK K;try simp only [Act.put,pa,pb,pc,pd,pe,pf]
     refine wr1 16 (fun K hK=>?_);have ac:=AL.out.cell;have af:=AL.out.frozen;go_simp;clear ac af;have HB:=hid ((Below.refl w3.heap.size wA).setCell (p:=⟨ba,0,none⟩) LB (.pointer (some ⟨g',0,none⟩)));have AF:=hid (Boxed.set (.pointer (some ⟨g',0,none⟩)) AL.out);have TF:=hid (tab_other TA.out AL.out (.pointer (some ⟨g',0,none⟩)));refine hK.out _ _ (holdU_base hHeld (by omega) hg3 HB.out) (fun hHeld'=>?_);replace hHeld:=hHeld';clear hHeld';clear hK K;try simp only [Act.put,pa,pb,pc,pd,pe,pf]
     refine wt 17 ?r13;refine wpAnyH_done (by kernel_rfl) ?_ _;refine NoPanic.normal ?_;go_wp2_with fail
     go_meet
     case rel=>exact⟨rfl,ba,g',h',rfl,AF.out,TF.out,LB,G1,G2,hHeld.below⟩
    refine AllReadyH.cons rfl (fun K hK=>?_) AllReadyH.nil;go_simp;obtain⟨ba,hba⟩:∃ b,wD.heap.size=b:=⟨_,rfl⟩
    have na:=new_val wD (.cells #[.pointer none] 58);have AL:=hid (Boxed.new wD 58 (.pointer none));have LB:=hHeld.below.size;have IN:=hid (IN.out.below na (Nat.le_refl _));have HB:=hid na;clear na;refine hK.out _ _ (holdU hHeld HB.out) (fun hHeld'=>?_);replace hHeld:=hHeld';clear hHeld';rw [hba] at AL LB;try rw [hba]
    generalize wD.alloc (.cells #[.pointer none] 58)=wA at AL hHeld IN ⊢;clear hK K;try simp only [Act.put,pa,pb,pc,pd,pe,pf]
    refine wr1 11 (fun K hK=>?_);go_simp;refine (tnew_ok _ n n (pickL l s) k 0 _ (by rw [pickL_len,HPM.out.ls]) (by rw [pickL_len,HPM.out.ls];omega) IN.out HPL.out (by rw [HPP.out];omega) hk1 hk2 (Int.le_refl _) (by omega)).mono ?_;rintro e wN ⟨g',h',rfl,hTab,hg',hh',hb⟩;have AL:Hid (Boxed _ ba _ _):=hid ((hb.block _ AL.out.lt).trans AL.out);have TA:=hid hTab;have G1:w3.heap.size≤g':=Nat.le_trans hHeld.below.size hg';have G2:w3.heap.size≤h':=Nat.le_trans hHeld.below.size hh';have HB:=hid hb;clear hTab hb hg' hh';refine hK.out _ _ (holdU hHeld HB.out) (fun hHeld'=>?_);replace hHeld:=hHeld';clear hHeld';clear hK K;try simp only [Act.put,pa,pb,pc,pd,pe,pf]
    refine wt 12 ?r14;refine wt 13 ?r15;refine wt 14 ?r16;refine wr1 16 (fun K hK=>?_);have ac:=AL.out.cell;have af:=AL.out.frozen;go_simp;clear ac af;have HB:=hid ((Below.refl w3.heap.size wN).setCell (p:=⟨ba,0,none⟩) LB (.pointer (some ⟨g',0,none⟩)));have AF:=hid (Boxed.set (.pointer (some ⟨g',0,none⟩)) AL.out);have TF:=hid (tab_other TA.out AL.out (.pointer (some ⟨g',0,none⟩)));refine hK.out _ _ (holdU_base hHeld (by omega) hg3 HB.out) (fun hHeld'=>?_);replace hHeld:=hHeld';clear hHeld';clear hK K;try simp only [Act.put,pa,pb,pc,pd,pe,pf]
    refine wt 17 ?r17;refine wpAnyH_done (by kernel_rfl) ?_ _;refine NoPanic.normal ?_;go_wp2_with fail
    go_meet
    case rel=>exact⟨rfl,ba,g',h',rfl,AF.out,TF.out,LB,G1,G2,hHeld.below⟩
   refine AllReadyH.cons rfl (fun K hK=>?_) AllReadyH.nil;go_simp;obtain⟨ba,hba⟩:∃ b,wS.heap.size=b:=⟨_,rfl⟩
   have na:=new_val wS (.cells #[.pointer none] 58);have AL:=hid (Boxed.new wS 58 (.pointer none));have LB:=hHeld.below.size;have OW:=hid (OW.out.below na (Nat.le_refl _));have HB:=hid na;clear na;refine hK.out _ _ (holdU hHeld HB.out) (fun hHeld'=>?_);replace hHeld:=hHeld';clear hHeld';rw [hba] at AL LB;try rw [hba]
   generalize wS.alloc (.cells #[.pointer none] 58)=wA at AL hHeld OW ⊢;clear hK K;try simp only [Act.put,pa,pb,pc,pd,pe,pf]
   refine wr1 6 (fun K hK=>?_);go_simp;refine (picked_any AS A l.length cS n c l s _ rfl HPM.out.ls OW.out (HA.out.below (hHeld.below) (Nat.le_refl _)) (fun i hi=>by rw [HHN.out];exact HPM.out.bs i hi) (by omega)).mono ?_;rintro e wD ⟨rfl,hI,hb⟩;have AL:Hid (Boxed _ ba _ _):=hid ((hb.block _ AL.out.lt).trans AL.out);have IN:=hid hI;have HB:=hid hb;clear hI hb;refine hK.out _ _ (holdU hHeld HB.out) (fun hHeld'=>?_);replace hHeld:=hHeld';clear hHeld';clear hK K;try simp only [Act.put,pa,pb,pc,pd,pe,pf]
   refine wr1 11 (fun K hK=>?_);go_simp;refine (tnew_ok _ n n (pickL l s) k 0 _ (by rw [pickL_len,HPM.out.ls]) (by rw [pickL_len,HPM.out.ls];omega) IN.out HPL.out (by rw [HPP.out];omega) hk1 hk2 (Int.le_refl _) (by omega)).mono ?_;rintro e wN ⟨g',h',rfl,hTab,hg',hh',hb⟩;have AL:Hid (Boxed _ ba _ _):=hid ((hb.block _ AL.out.lt).trans AL.out);have TA:=hid hTab;have G1:w3.heap.size≤g':=Nat.le_trans hHeld.below.size hg';have G2:w3.heap.size≤h':=Nat.le_trans hHeld.below.size hh';have HB:=hid hb;clear hTab hb hg' hh';refine hK.out _ _ (holdU hHeld HB.out) (fun hHeld'=>?_);replace hHeld:=hHeld';clear hHeld';clear hK K;try simp only [Act.put,pa,pb,pc,pd,pe,pf]
   refine wt 12 ?r18;refine wt 13 ?r19;refine wt 14 ?r20;refine wr1 16 (fun K hK=>?_);have ac:=AL.out.cell;have af:=AL.out.frozen;go_simp;clear ac af;have HB:=hid ((Below.refl w3.heap.size wN).setCell (p:=⟨ba,0,none⟩) LB (.pointer (some ⟨g',0,none⟩)));have AF:=hid (Boxed.set (.pointer (some ⟨g',0,none⟩)) AL.out);have TF:=hid (tab_other TA.out AL.out (.pointer (some ⟨g',0,none⟩)));refine hK.out _ _ (holdU_base hHeld (by omega) hg3 HB.out) (fun hHeld'=>?_);replace hHeld:=hHeld';clear hHeld';clear hK K;try simp only [Act.put,pa,pb,pc,pd,pe,pf]
   refine wt 17 ?r21;refine wpAnyH_done (by kernel_rfl) ?_ _;refine NoPanic.normal ?_;go_wp2_with fail
   go_meet
   case rel=>exact⟨rfl,ba,g',h',rfl,AF.out,TF.out,LB,G1,G2,hHeld.below⟩
  refine AllReadyH.cons rfl (fun K hK=>?_) AllReadyH.nil;go_simp;obtain⟨ba,hba⟩:∃ b,w6.heap.size=b:=⟨_,rfl⟩
  have na:=new_val w6 (.cells #[.pointer none] 58);have AL:=hid (Boxed.new w6 58 (.pointer none));have LB:=hHeld.below.size;have HB:=hid na;clear na;refine hK.out _ _ (holdU hHeld HB.out) (fun hHeld'=>?_);replace hHeld:=hHeld';clear hHeld';rw [hba] at AL LB;try rw [hba]
  generalize w6.alloc (.cells #[.pointer none] 58)=wA at AL hHeld ⊢;clear hK K;try simp only [Act.put,pa,pb,pc,pd,pe,pf]
  refine wr1 4 (fun K hK=>?_);go_simp;refine (sizes_ints l _ h6).mono ?_;rintro e wS ⟨⟨AS,cS,rfl,hO⟩,hb⟩;have AL:Hid (Boxed _ ba _ _):=hid ((hb.block _ AL.out.lt).trans AL.out);have OW:=hid hO;have HB:=hid hb;clear hO hb;refine hK.out _ _ (holdU hHeld HB.out) (fun hHeld'=>?_);replace hHeld:=hHeld';clear hHeld';clear hK K;try simp only [Act.put,pa,pb,pc,pd,pe,pf]
  refine wr1 6 (fun K hK=>?_);go_simp;refine (picked_any AS A l.length cS n c l s _ rfl HPM.out.ls OW.out (HA.out.below (hHeld.below) (Nat.le_refl _)) (fun i hi=>by rw [HHN.out];exact HPM.out.bs i hi) (by omega)).mono ?_;rintro e wD ⟨rfl,hI,hb⟩;have AL:Hid (Boxed _ ba _ _):=hid ((hb.block _ AL.out.lt).trans AL.out);have IN:=hid hI;have HB:=hid hb;clear hI hb;refine hK.out _ _ (holdU hHeld HB.out) (fun hHeld'=>?_);replace hHeld:=hHeld';clear hHeld';clear hK K;try simp only [Act.put,pa,pb,pc,pd,pe,pf]
  refine wr1 11 (fun K hK=>?_);go_simp;refine (tnew_ok _ n n (pickL l s) k 0 _ (by rw [pickL_len,HPM.out.ls]) (by rw [pickL_len,HPM.out.ls];omega) IN.out HPL.out (by rw [HPP.out];omega) hk1 hk2 (Int.le_refl _) (by omega)).mono ?_;rintro e wN ⟨g',h',rfl,hTab,hg',hh',hb⟩;have AL:Hid (Boxed _ ba _ _):=hid ((hb.block _ AL.out.lt).trans AL.out);have TA:=hid hTab;have G1:w3.heap.size≤g':=Nat.le_trans hHeld.below.size hg';have G2:w3.heap.size≤h':=Nat.le_trans hHeld.below.size hh';have HB:=hid hb;clear hTab hb hg' hh';refine hK.out _ _ (holdU hHeld HB.out) (fun hHeld'=>?_);replace hHeld:=hHeld';clear hHeld';clear hK K;try simp only [Act.put,pa,pb,pc,pd,pe,pf]
  refine wt 12 ?r22;refine wt 13 ?r23;refine wt 14 ?r24;refine wr1 16 (fun K hK=>?_);have ac:=AL.out.cell;have af:=AL.out.frozen;go_simp;clear ac af;have HB:=hid ((Below.refl w3.heap.size wN).setCell (p:=⟨ba,0,none⟩) LB (.pointer (some ⟨g',0,none⟩)));have AF:=hid (Boxed.set (.pointer (some ⟨g',0,none⟩)) AL.out);have TF:=hid (tab_other TA.out AL.out (.pointer (some ⟨g',0,none⟩)));refine hK.out _ _ (holdU_base hHeld (by omega) hg3 HB.out) (fun hHeld'=>?_);replace hHeld:=hHeld';clear hHeld';clear hK K;try simp only [Act.put,pa,pb,pc,pd,pe,pf]
  refine wt 17 ?r25;refine wpAnyH_done (by kernel_rfl) ?_ _;refine NoPanic.normal ?_;go_wp2_with fail
  go_meet
  case rel=>exact⟨rfl,ba,g',h',rfl,AF.out,TF.out,LB,G1,G2,hHeld.below⟩
 case rest =>
  obtain⟨rfl,ba,g',h',rfl,hba,hta,LB,G1,G2,hbel⟩:=hcut;have BA:=hid hba;have TA:=hid hta;have BC:=hid hbel;have n1:ba≠h':=fun e=>by
   subst e;obtain⟨cur,hc,_⟩:=hta.costs;have:=hc.symm.trans hba;simp at this
  have n3:g'≠h':=hta.apart;have ac:=hba.cell;obtain⟨c0,c1,c2,c3,c4,c5,c6,c7,c8⟩:=hta.cells;clear hba hta hbel;go_wp2_with (go_at_call 143;refine (all_call (pickL l s) wc).mono ?_;rintro e wq ⟨rfl,rfl⟩)
  have nb:=new_val wc (shO (pickL l s));have SB:=hid (ShAt.new wc (pickL l s));have hz0:wc.heap.size < (wc.alloc (shO (pickL l s))).heap.size:=by simp
  have TZ':=hid (TA.out.below nb);have AZ':Hid (Boxed _ _ _ _):=hid (box_below BA.out nb);have BW:=hid (BC.out.trans (nb.mono BC.out.size));have hba:ba < wc.heap.size:=BA.out.lt;have hg':g' < wc.heap.size:=World.block_lt_of_cell? wc _ c0;have hh':h' < wc.heap.size:=by obtain⟨cur,hc,_⟩:=TA.out.costs;exact (Array.getElem?_eq_some_iff.1 hc).1
  clear c0 c1 c2 c3 c4 c5 c6 c7 c8 ac nb;generalize wc.alloc (shO (pickL l s))=W0 at SB TZ' AZ' BW hz0 ⊢;have c8:=TZ'.out.cells.2.2.2.2.2.2.2.2;rw [HPP.out] at c8;have X0:W0.cell? ⟨w.heap.size,0,none⟩=some (.pointer (some ⟨g,0,none⟩)):=(BW.out.cell (p:=⟨w.heap.size,0,none⟩) hN3).trans X4.out.cell;have Y0:W0.cell? ⟨b6,0,none⟩=some (.slice (some ⟨hb,0,none⟩) n n):=(BW.out.cell (p:=⟨b6,0,none⟩) hb63).trans Y4.out.cell;have HQ:Hid (HoldQ_Tt5 w3 w.heap.size g b6 hb n ba g' h' P W0):=hid ⟨X0,Y0,AZ'.out.cell,c8,BW.out⟩;have I0:Hid (TrnI W0 h' P (turnZ l z s r) 0 W0):=by
   obtain⟨cur,hc,hcs,hcz⟩:=TZ'.out.costs;rw [HPP.out] at hcs hcz;exact hid ⟨Kept2.refl _ _ _,⟨cur,hc,hcs,fun j hj=>(hcz j hj).trans (by simp)⟩⟩
  clear c8 X0 Y0;refine (wpIn_wide (n:=3)).1 (range_good (by omega) (gf:=186) (lb:=#[.pointer (some ⟨wc.heap.size,0,none⟩)]) rfl (enters_of Tryz.func186 (by kernel_rfl) rfl)
   (all_goodx 2 (by omega) (pickL l s) P wc.heap.size (by rw [HLP.out];exact hn6) HPL.out HPP.out hP4 W0 SB.out) (by omega) (fun _=>rfl) (fun B pre x=>goodX_own (pickL l s) B _ pre x)
   (fun pre W=>TrnI W0 h' P (turnZ l z s r) pre.length W) trnI_from I0.out ?a1 ?assign ?body ?done)
  case assign =>
   intro y x W K hK
   gi_wp2
   exact hK
  case body =>
   rintro y pre ⟨i,v⟩ Wp W hy hloop hIp hI heq ⟨hi,hiP,hO,bt,hv⟩;obtain rfl:i=pre.length:=hi;have hiP:pre.length < prodL (pickL l s):=hiP;have hv:v = .slice (some ⟨bt,0,none⟩) (pickL l s).length (pickL l s).length:=hv;have hO:Own W Wp.heap.size v (tupL (pickL l s) pre.length):=hO;subst hv;obtain⟨At,ct,hv',hT⟩:=hO.form;rw [tupL_length] at hv';obtain⟨rfl,rfl⟩:some ⟨bt,0,none⟩=At∧(pickL l s).length=ct:=by injection hv' with a b c;exact⟨a,c⟩
   obtain⟨j,hj⟩:∃ j,pre.length=j:=⟨_,rfl⟩
   have HN:=hid hj;rw [hj] at hiP hI hT;have hjP:j < P:=by rw [← HPP.out];exact hiP
   have hsz:W0.heap.size≤W.heap.size:=by obtain⟨r,hr⟩:=hloop;have:=(Array.getElem?_eq_some_iff.1 hr).1;omega
   have hBsW:wc.heap.size < W.heap.size:=by omega
   have TIN:Hid (InL l (pickL (tupL (pickL l s) j) r)):=hid (turn_in HPM.out HHN.out (fun n hn=>(HL.out n hn).1));have q0:(0:Int)≤(j:Int):=by omega
   have q1:(j:Int) < (P:Int):=by omega
   have IT:=hid hT;have HR0:=hid (HoldQ_Tt5.of HQ.out hI.kept hN3 hb63 G2 n1 n3);have OR:Hid (TrnR W0 h' P (turnZ l z s r) j wc.heap.size W W):=hid ⟨hI,KeepsFrom.refl _ _,Keep1.refl _ _⟩;clear hI hIp hO hT heq hloop hv' hiP;rw [hj];clear hj
   gi_wp2
   refine region_round_held (S:=fun W=>HoldQ_Tt5 w3 w.heap.size g b6 hb n ba g' h' P W) y (by kernel_rfl) (by kernel_rfl) ?hq1 (holdQ_Tt5 HR0.out ((Below.refl _ _).drew)) (fun hHeld=>?_)
   case hq1=>rintro⟨a',w',h⟩;exact h
   have IT:=hid (IT.out.below ((Below.refl W.heap.size W).drew) (Nat.le_refl _));have OR:=hid (OR.out.next hBsW ((Below.refl W.heap.size W).drew));generalize W.drew=w6 at hHeld IT OR ⊢;refine wt 0 ?r101;refine wt 1 ?r102;refine wt 2 ?r103;refine wt 3 ?r104;refine wt 4 ?r105;refine wt 5 ?r106;refine wt 6 ?r107;refine wt 7 ?r108;refine wr1 8 (fun K hK=>?_);go_simp;refine (picked_any (some ⟨bt,0,none⟩) (some ⟨hb,0,none⟩) (pickL l s).length (pickL l s).length n n (tupL (pickL l s) j) r w6 (tupL_length _ _) HPM.out.lr IT.out (RB.out.below hHeld.below (Nat.le_refl _)) (fun i hi=>by rw [HLP.out];exact HPM.out.br i hi) (by omega)).mono ?_;rintro e wI ⟨rfl,hI2,hb1⟩;have IX:=hid hI2;have OR:=hid (OR.out.next hBsW hb1);have HB:=hid hb1;clear hI2 hb1;refine hK.out _ _ (holdQ_Tt5 hHeld HB.out) (fun hHeld'=>?_);replace hHeld:=hHeld';clear hHeld';clear hK K;try simp only [Act.put,pa,pb,pc,pd,pe,pf]
   refine wr1 9 (fun K hK=>?_);go_simp;refine (tget_ok g h _ n n (numL l (pickL (tupL (pickL l s) j) r)) l (pickL (tupL (pickL l s) j) r) k z wI (T3.out.below hHeld.below) (by rw [pickL_len,HPM.out.lr]) h6 (fun n hn=>(HL.out n hn).2) IX.out TIN.out rfl TIN.out.num_lt).mono ?_;rintro e wJ ⟨rfl,hb1⟩;have OR:=hid (OR.out.next hBsW hb1);have HB:=hid hb1;clear hb1;refine hK.out _ _ (holdQ_Tt5 hHeld HB.out) (fun hHeld'=>?_);replace hHeld:=hHeld';clear hHeld';clear hK K;try simp only [Act.put,pa,pb,pc,pd,pe,pf]
   refine wt 10 ?r109;refine wt 11 ?r110;refine wt 12 ?r111;refine wt 13 ?r112;refine wr1 14 (fun K hK=>?_);have kc:=OR.out.inv.costs.cell hjP;have kf:=OR.out.inv.costs.frozen j;go_simp;clear kc kf;refine hK.out _ _ (holdQ_set hHeld (by omega) (by omega) G2 n1 n3 j _) (fun hHeld'=>?_);replace hHeld:=hHeld';clear hHeld';clear hK K;try simp only [Act.put,pa,pb,pc,pd,pe,pf]
   refine wpAnyH_done (by kernel_rfl) ?_ _
   gi_wp2_with fail
   have FIN:=OR.out.fin (x:=z (numL l (pickL (tupL (pickL l s) j) r))) (by omega) rfl;exact⟨FIN.kf,FIN.k1,by show TrnI W0 h' P (turnZ l z s r) (pre++[_]).length _;rw [List.length_append,HN.out];exact FIN.inv⟩
  case done =>
   rintro D xs W hD hS hI hK;have hS:xs.length=P:=hS;rw [hS] at hI;have SZ:Hid (w.heap.size≤g'∧w.heap.size≤h'):=hid ⟨by omega,by omega⟩;have k1:W.cell? ⟨ba,0,none⟩=some (.pointer (some ⟨g',0,none⟩)):=(World.cell?_of_block (a:=⟨ba,0,none⟩) (hI.kept.block ba (by omega) n1 n1)).trans AZ'.out.cell;have HI:=hid hI;have HKD:=hid hK;clear hI hK hS;go_wp2_with fail
   refine⟨by simp,.inl ⟨_,_,rfl,run_takeDeferred HKD.out,?_⟩⟩;refine⟨_,results_tmp2 rfl _ _ _,g',h',rfl,?_,SZ.out.1,SZ.out.2,?_⟩
   ·obtain⟨cur,hc,hcs,hcz⟩:=HI.out.costs
    refine⟨(World.putObj_heap_other (by omega)).trans ((HI.out.kept.block g' (by omega) n3 n3).trans TZ'.out.row),cur,(World.putObj_heap_other (by omega)).trans hc,by rw [HPP.out];exact hcs,fun i hi=>?_⟩;rw [HPP.out] at hi;exact (hcz i hi).trans (congrArg some (congrArg (Value.int .i64) (if_pos hi)))
   have h1:Below w.heap.size w W:=HI.out.kept.below (B4.out.trans (BW.out.mono (by omega))) (Nat.le_refl _) (by omega) (by omega);exact h1.trans (belowK_b (w:=w) (Nat.le_refl _) _ D _ _ (by omega) HKD.out rfl rfl)
end Go.Proofs.YtmokogkndbinlaaGreatDoor
