import Derived.Test.YtmokogkndbinlaaGreatDoorZhay
set_option linter.all false
namespace Go.Proofs.YtmokogkndbinlaaGreatDoor
open Go.Lib (hid)
open Go.RowKit
def RepAtI (W:World) (h:Nat) (x:Int) (j n:Nat):Prop:=W.heap[h]? = some (.cells (RepL x j n).toArray 3 (0,0))
set_option maxRecDepth 100000 in
set_option maxHeartbeats 4000000 in
theorem repeat_oneI (g c n:Nat) (x:Int) (w:World) (hc:w.cell? ⟨g,0,none⟩=some (.int .i64 x)) (hg:g < w.heap.size) (hn1:1≤n) (hn:n≤4096)
  (hM:∀ W,Calls Tryz.prog 189 #[.int .u64 1,.int .u64 (n:Int)] W fun e w'=>e = .returned (.tuple #[.int .u64 0,.int .u64 (n:Int)])∧W=w') :
  Calls Tryz.prog 261 #[.slice (some ⟨g,0,none⟩) 1 c,.int .i64 (n:Int)] w fun e w'=>e = .returned (.slice (some ⟨w.heap.size,0,none⟩) n n)∧RepAtI w' w.heap.size x n n∧Below w.heap.size w w':=by
 have HM:=hid hM;have hm:∀ W,(Instr.makeSlice 41 (.int .i64 (n:Int)) (.int .i64 (n:Int))).run Tryz.prog W = .ok (.slice (some ⟨W.heap.size,0,none⟩) n n) (W.alloc (.cells (madeCells #[.int .i64 0] n) 3)) :=
  fun W=>run_make_row' 41 3 (.int .i64 0) 8 Tryz.underlying41 info_int rfl .i64 .i64 n (by omega) (by omega) W
 have hc1:(w.alloc (.cells (RepL 0 0 n).toArray 3)).cell? ⟨g,0,none⟩=some (.int .i64 x):=((new_val w (.cells (RepL 0 0 n).toArray 3)).cell (p:=⟨g,0,none⟩) hg).trans hc;have hrow:=heap_alloc_new w (.cells (RepL 0 0 n).toArray 3);have hnew:=new_val w (.cells (RepL 0 0 n).toArray 3);rw [made_list] at hm;have HROW:=hid hrow;have HNEW:=hid hnew;have HC1:=hid hc1;have e1:IntKind.u64.wrap (n:Int)=(n:Int):=by show (n:Int) % 18446744073709551616=_;omega
 have e2:IntKind.i64.wrap (n:Int)=(n:Int):=IntWalk.i64_in _ (by omega);clear hM hrow hnew hc1 hc;have hsz:(Tryz.prog.info? 3).map (·.size)=some 1:=by kernel_rfl
 go_enter Tryz.func261,Tryz.ntmps261
 go_upto_region 7 with (go_at_call 189;refine (HM.out _).mono ?_;rintro e w' ⟨rfl,rfl⟩)
 go_wp2_with (refine wpList_copy_splice rfl (.tmp 31) (.tmp 32) 41 41 rfl 3 Tryz.underlying41 hsz (some ⟨w.heap.size,0,none⟩) (some ⟨g,0,none⟩) n n 1 c rfl rfl w.heap.size 0 (RepL 0 0 n) 3 HROW.out (List.replicate 1 (.int .i64 x)) (by show 1=min 1 n;omega) (fun _=>⟨rfl,_,rfl,fun j v hj=>by rcases j with _ | j;(simp at hj;subst hj;exact HC1.out);simp at hj⟩) (by rw [rep_len _ _ _ (Nat.zero_le _)];simp;omega) (fun v hv=>by simp at hv;subst hv;rfl) w.heap.size w HNEW.out (Nat.le_refl _) ?_;intro w1 hr1 hb1;have R1:Hid (RepAtI w1 w.heap.size x 1 n):=hid (by have h:=hr1.out;rw [show RepL 0 0 n=RepL x 0 n from rfl,rep_splice x 0 1 n (by omega)] at h;exact h);have B1:=hid hb1;clear hr1 hb1)
 go_loopw [8] (fun i wr=>∃ j:Nat,1≤j∧j≤n∧i = .int .i64 (j:Int)∧RepAtI wr w.heap.size x j n∧Below w.heap.size w wr) (fun i _=>n - (intOf i).toNat)
 case atStart=>exact⟨1,Nat.le_refl _,hn1,rfl,R1.out,B1.out⟩
 case round =>
  obtain⟨j,hj1,hj,rfl,hr,hb⟩:=hrel;have RJ:=hid hr;have BJ:=hid hb;clear hr hb;by_cases hlt:j < n
  rotate_left
  ·obtain rfl:j=n:=by omega
   have i1:¬ ((j:Int) < (j:Int)):=by omega
   go_wp2_with fail
   go_ret;exact⟨rfl,RJ.out,BJ.out⟩
  have i1:(j:Int) < (n:Int):=by omega
  have HCELL:Hid (∀ i v,(List.replicate (min j (n - j)) (Value.int .i64 x))[i]? = some v→wr.cell? ((⟨w.heap.size,0,none⟩:Addr).add i)=some v):=by
   refine hid fun i v hi=>?_;have hl:=(List.getElem?_eq_some_iff.1 hi).1;rw [List.length_replicate] at hl;rw [List.getElem?_replicate,if_pos hl] at hi;obtain rfl:=Option.some.inj hi;rw [show ((⟨w.heap.size,0,none⟩:Addr).add i)=⟨w.heap.size,i,none⟩ by (simp [Addr.add];omega),cell_of_row _ _ _ _ _ _ RJ.out];simp only [RepL,List.getElem?_toArray];rw [List.getElem?_append_left (by rw [List.length_replicate];omega),List.getElem?_replicate,if_pos (by omega)]
  have hN:Hid ((List.replicate (min j (n - j)) (Value.int .i64 x)).length=Nat.min j (n - j)):=hid (by rw [List.length_replicate]);have hF:Hid (j+(List.replicate (min j (n - j)) (Value.int .i64 x)).length≤(RepL x j n).length):=hid (by rw [rep_len _ _ _ hj,List.length_replicate];omega);have hO:Hid (∀ v∈List.replicate (min j (n - j)) (Value.int .i64 x),v.oneCell'=true):=hid (fun v hv=>by obtain⟨_,rfl⟩:=List.mem_replicate.1 hv;rfl);have i2:(0:Int)≤(j:Int):=by omega
  have hnj:¬ n=j:=by omega
  have i3:(j:Int)≤(n:Int):=by omega
  go_wp2_with fail
  go_region_law (refine step_copy_splice rfl (.tmp 41) (.tmp 44) 41 41 rfl 3 Tryz.underlying41 hsz (some ⟨w.heap.size,j,none⟩) (some ⟨w.heap.size,0,none⟩) (n - j) (n - j) j n (by simp [Act.eval,Act.put]) (by simp [Act.eval,Act.put]) w.heap.size j (RepL x j n) 3 RJ.out (List.replicate (min j (n - j)) (.int .i64 x)) hN.out (fun _=>⟨rfl,_,rfl,HCELL.out⟩) hF.out hO.out w.heap.size w (by first | exact BJ.out.drew | exact next_drewN BJ.out _ | exact BJ.out) (Nat.le_refl _) ?_;intro w2 hr2 hb2;have R2:Hid (RepAtI w2 w.heap.size x (j+min j (n - j)) n):=hid (by have h:=hr2.out;rw [rep_splice x j _ n (by omega)] at h;exact h);have B2:=hid hb2;clear hr2 hb2)
  all_goals
   obtain⟨M,hM⟩:∃ M,min j (n - j)=M:=⟨_,rfl⟩
   rw [hM] at R2;simp [Act.put,hM]
   have i4:IntKind.i64.wrap ((j:Int)+(M:Int))=(j:Int)+(M:Int):=IntWalk.i64_in _ (by omega);go_wp2_with fail
   go_roundw
   case rel=>exact⟨j+M,by omega,by omega,by go_num,R2.out,B2.out⟩
   case measure=>simp [intOf];omega
set_option maxRecDepth 100000 in
set_option maxHeartbeats 4000000 in
theorem repeat_zeroI (g c:Nat) (x:Int) (w:World) (hc:w.cell? ⟨g,0,none⟩=some (.int .i64 x)) (hg:g < w.heap.size) :
  Calls Tryz.prog 261 #[.slice (some ⟨g,0,none⟩) 1 c,.int .i64 0] w fun e w'=>e = .returned (.slice (some ⟨w.heap.size,0,none⟩) 0 0)∧RepAtI w' w.heap.size x 0 0∧Below w.heap.size w w':=by
 have HM:∀ W,Calls Tryz.prog 189 #[.int .u64 1,.int .u64 0] W fun e w'=>e = .returned (.tuple #[.int .u64 0,.int .u64 0])∧W=w':=fun W=>mul_one' 0 (by omega) W;have HMM:=hid HM;have hm:∀ W,(Instr.makeSlice 41 (.int .i64 0) (.int .i64 0)).run Tryz.prog W = .ok (.slice (some ⟨W.heap.size,0,none⟩) 0 0) (W.alloc (.cells (madeCells #[.int .i64 0] 0) 3)) :=
  fun W=>run_make_row' 41 3 (.int .i64 0) 8 Tryz.underlying41 info_int rfl .i64 .i64 0 (by omega) (by omega) W
 have hc1:(w.alloc (.cells (RepL 0 0 0).toArray 3)).cell? ⟨g,0,none⟩=some (.int .i64 x):=((new_val w (.cells (RepL 0 0 0).toArray 3)).cell (p:=⟨g,0,none⟩) hg).trans hc;have hrow:=heap_alloc_new w (.cells (RepL 0 0 0).toArray 3);have hnew:=new_val w (.cells (RepL 0 0 0).toArray 3);rw [made_list] at hm;have HROW:=hid hrow;have HNEW:=hid hnew;have HC1:=hid hc1;clear HM hrow hnew hc1 hc;have hsz:(Tryz.prog.info? 3).map (·.size)=some 1:=by kernel_rfl
 go_enter Tryz.func261,Tryz.ntmps261
 go_upto_region 7 with (go_at_call 189;refine (HMM.out _).mono ?_;rintro e w' ⟨rfl,rfl⟩)
 go_wp2_with (refine wpList_copy_splice rfl (.tmp 31) (.tmp 32) 41 41 rfl 3 Tryz.underlying41 hsz (some ⟨w.heap.size,0,none⟩) (some ⟨g,0,none⟩) 0 0 1 c rfl rfl w.heap.size 0 (RepL 0 0 0) 3 HROW.out [] rfl (fun h=>absurd h (by simp)) (by simp [RepL]) (fun v hv=>by simp at hv) w.heap.size w HNEW.out (Nat.le_refl _) ?_;intro w1 hr1 hb1;have R1:Hid (RepAtI w1 w.heap.size x 0 0):=hid (by have h:=hr1.out;exact h);have B1:=hid hb1;clear hr1 hb1)
 go_loopw [8] (fun i wr=>i = .int .i64 0∧RepAtI wr w.heap.size x 0 0∧Below w.heap.size w wr) (fun _ _=>0)
 case atStart=>exact⟨rfl,R1.out,B1.out⟩
 case round =>
  obtain⟨rfl,hr,hb⟩:=hrel;have RJ:=hid hr;have BJ:=hid hb;clear hr hb;go_wp2_with fail
  go_ret;exact⟨rfl,RJ.out,BJ.out⟩
theorem repeat_anyI (g c n:Nat) (x:Int) (w:World) (hc:w.cell? ⟨g,0,none⟩=some (.int .i64 x)) (hg:g < w.heap.size) (hn:n≤4096) :
  Calls Tryz.prog 261 #[.slice (some ⟨g,0,none⟩) 1 c,.int .i64 (n:Int)] w fun e w'=>e = .returned (.slice (some ⟨w.heap.size,0,none⟩) n n)∧RepAtI w' w.heap.size x n n∧Below w.heap.size w w':=by
 by_cases h:n=0
 ·subst h
  exact repeat_zeroI g c x w hc hg
 exact repeat_oneI g c n x w hc hg (by omega) hn (fun W=>mul_one' n hn W)
theorem index_first (A:Option Addr) (n c p:Nat) (z:Nat→Int) (v:Int) (w:World) (hl:n≤1000000) (hw:Zs w A n z) (hp:p < n) (hv:v=z p) (hb:∀ i,i < p→v≠z i) :
  Calls Tryz.prog 97 #[.slice A n c,.int .i64 v] w fun e w'=>e = .returned (.int .i64 (p:Int))∧w=w':=by
 have HW:=hid hw;have HV:=hid hv;have HB:=hid hb;clear hw hv hb;go_enter Tryz.func97,Tryz.ntmps97
 go_wp2_with fail
 go_loop [8] (fun i=>∃ j:Nat,j≤p∧i = .int .i64 (j:Int)) (fun i=>n - (intOf i).toNat)
 case atStart=>exact⟨0,Nat.zero_le _,rfl⟩
 case round =>
  obtain⟨j,hj,rfl⟩:=hrel;obtain⟨g,o,rfl,hcell⟩:=HW.out.at_ (i:=j) (by omega);have i1:(j:Int) < (n:Int):=by omega
  have i2:(0:Int)≤(j:Int):=by omega
  by_cases e:j=p
  ·subst e
   have hx:(v == z j)=true:=by rw [beq_iff_eq];exact HV.out
   generalize z j=y at hcell hx;go_wp2_with fail
   go_ret;exact⟨rfl,rfl⟩
  have hx:(v == z j)=false:=by rw [beq_eq_false_iff_ne];exact HB.out j (by omega)
  have hjp:j+1≤p:=by omega
  clear e;generalize z j=y at hcell hx;go_wp2_with fail
  go_round
  case rel=>exact⟨j+1,by omega,by go_num⟩
  case measure=>simp [intOf];omega
theorem madeI (n:Nat) (hn:n≤4096) (W:World):(Instr.makeSlice 41 (.int .i64 (n:Int)) (.int .i64 (n:Int))).run Tryz.prog W = .ok (.slice (some ⟨W.heap.size,0,none⟩) n n) (W.alloc (.cells (madeCells #[.int .i64 0] n) 3)) :=
 run_make_row' 41 3 (.int .i64 0) 8 Tryz.underlying41 info_int rfl .i64 .i64 n (by omega) (by omega) W
theorem rowIs_ints {w:World}{b n:Nat}{l:List Nat}{f:Nat→Value}(h:w.rowIs b 3 n f) (hn:l.length=n) (hf:∀ i,i < n→f i = .int .i64 (nth l i:Int)):Ints w (some ⟨b,0,none⟩) l :=
 .inr ⟨b,0,rfl,h.lt,fun i hi=>by rw [Nat.zero_add,h.cell (by omega),hf i (by omega)]⟩
theorem rowIs_zs {w:World}{b n:Nat}{z:Nat→Int}{f:Nat→Value}(h:w.rowIs b 3 n f) (hf:∀ i,i < n→f i = .int .i64 (z i)):Zs w (some ⟨b,0,none⟩) n z :=
 .inr ⟨b,0,rfl,h.lt,fun i hi=>by rw [Nat.zero_add,h.cell hi,hf i hi]⟩
set_option maxRecDepth 100000 in
theorem picked_any (A B:Option Addr) (n c m cb:Nat) (l s:List Nat) (w:World) (hn:l.length=n) (hm:s.length=m) (hl:Ints w A l) (hs:Ints w B s) (hr:∀ i,i < m→nth s i < n) (hm4:m≤4096) :
  Calls Tryz.prog 183 #[.slice A n c,.slice B m cb] w fun e w'=>e = .returned (.slice (some ⟨w.heap.size,0,none⟩) m m)∧Ints w' (some ⟨w.heap.size,0,none⟩) (pickL l s)∧Below w.heap.size w w':=by
 have HLN:=hid hn;have HSM:=hid hm;have HL:=hid hl;have HS:=hid hs;have HR:=hid hr;have hmk:=madeI m hm4;have R1:=hid (World.rowIs_made w (.int .i64 0) m 3);have B1:=hid (new_val w (.cells (madeCells #[.int .i64 0] m) 3));clear hn hm hl hs hr;go_enter Tryz.func183,Tryz.ntmps183
 go_upto_region 3 with fail
 generalize w.alloc (.cells (madeCells #[.int .i64 0] m) 3)=w1 at R1 B1 ⊢;clear hmk;go_loopw [13] (fun i wr=>∃ j:Nat,j≤m∧i = .int .i64 (j:Int)∧wr.rowIs w.heap.size 3 m (fun i=>.int .i64 (if i < j then (nth (pickL l s) i:Int) else 0))∧Below w.heap.size w wr) (fun i _=>m - (intOf i).toNat)
 case atStart=>exact⟨0,Nat.zero_le _,rfl,R1.out.congr fun i _=>by simp,B1.out⟩
 case round =>
  obtain⟨j,hj,rfl,hrow,hb⟩:=hrel;have HRW:=hid hrow;have HB:=hid hb;clear hrow hb;by_cases hlt:j < m
  rotate_left
  ·have i1:¬ (j:Int) < (m:Int):=by omega
   go_wp2_with fail
   go_ret;obtain rfl:j=m:=by omega
   exact⟨rfl,rowIs_ints HRW.out (by rw [pickL_len,HSM.out]) (fun i hi=>by rw [if_pos hi]),HB.out⟩
  obtain⟨gs,os,rfl,hcs⟩:=(HS.out.below HB.out (Nat.le_refl _)).at_ (i:=j) (by rw [HSM.out];exact hlt);have hrj:=HR.out j hlt;have hpk:nth (pickL l s) j=nth l (nth s j):=pickL_nth (by rw [HSM.out];exact hlt);have HPK:=hid hpk;generalize nth s j=v at hcs hrj HPK;obtain⟨gl,ol,rfl,hcl⟩:=(HL.out.below HB.out (Nat.le_refl _)).at_ (i:=v) (by rw [HLN.out];exact hrj);generalize nth l v=x at hcl HPK;have kc:=HRW.out.cell hlt;have kf:=HRW.out.frozen j;have i1:(j:Int) < (m:Int):=by omega
  have i2:(0:Int)≤(j:Int):=by omega
  have i3:(v:Int) < (n:Int):=by omega
  have i4:(0:Int)≤(v:Int):=by omega
  have HN:Hid ((wr.setCell ⟨w.heap.size,j,none⟩ (.int .i64 (x:Int))).rowIs w.heap.size 3 m (fun i=>.int .i64 (if i < j+1 then (nth (pickL l s) i:Int) else 0))):=hid ((HRW.out.set j (.int .i64 (x:Int))).congr fun i hi=>by
   show (if i=j then _ else _)=_;by_cases e:i=j
   ·subst e;rw [if_pos rfl,if_pos (by omega),HPK.out]
   ·rw [if_neg e]
    by_cases e2:i < j
    ·rw [if_pos e2,if_pos (by omega)]
    ·rw [if_neg e2,if_neg (by omega)])
  have BN:=hid (HB.out.setCell (p:=⟨w.heap.size,j,none⟩) (Nat.le_refl _) (.int .i64 (x:Int)));clear hpk;go_wp2_with fail
  go_roundw
  case rel=>exact⟨j+1,by omega,by go_num,HN.out,BN.out⟩
  case measure=>simp [intOf];omega
def Rises (l:List Nat):Prop:=∀ i,i+1 < l.length→nth l i < nth l (i+1)
theorem stands_yes (g h n c:Nat) (A:Option Addr) (l v:List Nat) (k:Int) (z:Nat→Int) (w:World) (H:TabAt w g h l k z) (hn:v.length=n) (hl:l.length=n) (hv:Rises v) (hA:Ints w A v) (hn6:n≤6) :
  Calls Tryz.prog 178 #[.pointer (some ⟨g,0,none⟩),.slice A n c] w fun e w'=>e = .returned (.bool true)∧Below w.heap.size w w':=by
 have HT:=hid H;have HN:=hid hn;have HL:=hid hl;have HV:=hid hv;have HA:=hid hA;clear H hn hl hv hA;go_enter Tryz.func178,Tryz.ntmps178
 go_upto_region 3 with fail
 go_loop [5,10] (fun v5 i=>∃ j:Nat,j≤n∧i = .int .i64 (j:Int)∧∃ x:Int,v5 = .int .i64 x∧-1≤x∧(j < n→x < (nth v j:Int))) (fun _ i=>n - (intOf i).toNat)
 case atStart=>exact⟨0,Nat.zero_le _,rfl,-1,rfl,by omega,fun _=>by omega⟩
 case round =>
  obtain⟨j,hj,rfl,x,rfl,hx0,hx⟩:=hrel;by_cases hlt:j < n
  ·obtain⟨ga,oa,rfl,hcell⟩:=HA.out.at_ (i:=j) (by rw [HN.out];exact hlt)
   have i1:(j:Int) < (n:Int):=by omega
   have i2:(0:Int)≤(j:Int):=by omega
   have hxj:=hx hlt;have HR:Hid (j+1 < n→nth v j < nth v (j+1)):=hid fun h=>HV.out j (by rw [HN.out];exact h);generalize nth v j=y at hcell hxj HR;have d:¬ ((y:Int)≤x):=by omega
   clear hx;go_wp2_with fail
   go_round
   case rel=>exact⟨j+1,by omega,by go_num,(y:Int),rfl,by omega,fun h=>by have:=HR.out h;omega⟩
   case measure=>simp [intOf];omega
  have i1:¬ ((j:Int) < (n:Int)):=by omega
  obtain⟨c0,c1,c2,c3,c4,c5,c6,c7,c8⟩:=HT.out.cells;have d:((n:Int) == (n:Int))=true:=by simp
  go_wp2_with fail
  refine (arity_any l w).mono ?_;rintro e w' ⟨rfl,rfl⟩;have nb:=hid (new_val w (shO l));rw [HL.out];clear c0 c1 c2 c3 c4 c5 c6 c7 c8;go_wp2_with fail
  go_ret;exact⟨rfl,nb.out⟩
end Go.Proofs.YtmokogkndbinlaaGreatDoor
namespace Go.Proofs.YtmokogkndbinlaaGreatDoor
open Go.Lib (hid)
attribute [local go_sem] Oper.semAt_some
open Go.RowKit Go.Shelf
theorem values_any (A:Option Addr) (n c:Nat) (w:World) :
  Calls Tryz.prog 174 #[.slice A n c] w fun e w'=>e = .returned (.func (.func 217) #[] #[.pointer (some ⟨w.heap.size,0,none⟩)])∧w'=w.alloc (.cells #[.slice A n c] 41):=by
 go_enter Tryz.func174,Tryz.ntmps174
 go_wp2
 go_ret;exact⟨rfl,rfl⟩
theorem cnt_cast (l:List Nat) (x:Nat):(l.map fun i:Nat=>(i:Int)).countP (· < (x:Int))=l.countP (· < x):=by
 induction l with
 | nil=>rfl
 | cons a l ih=>simp [List.countP_cons,ih]
theorem has_cast (l:List Nat) (x:Nat):(l.map fun i:Nat=>(i:Int)).contains (x:Int)=l.contains x:=by
 rw [Bool.eq_iff_iff,List.contains_iff_mem,List.contains_iff_mem,List.mem_map];constructor
 ·rintro⟨a,ha,h⟩
  obtain rfl:a=x:=by omega
  exact ha
 exact fun h=>⟨x,h,rfl⟩
theorem rises_sorted {l:List Nat}(h:Rises l):l.Pairwise (·≤·):=by
 induction l with
 | nil=>exact .nil
 | cons a l ih =>
  have h2:Rises l:=fun i hi=>h (i+1) (by simpa using hi);have hs:=ih h2;refine .cons (fun b hb=>?_) hs;cases l with
  | nil=>cases hb
  | cons c r =>
   have h1:=h 0 (by simp);have h1:a < c:=h1;rcases List.mem_cons.1 hb with rfl | hb
   ·omega
   have:=(List.pairwise_cons.1 hs).1 b hb;omega
theorem bsearch_any (A:Option Addr) (n c x:Nat) (l:List Nat) (w:World) (hn:l.length=n) (hs:l.Pairwise (·≤·)) (hA:Ints w A l) (hbig:n≤1000000) :
  Calls Tryz.prog 228 #[.slice A n c,.int .i64 (x:Int)] w fun e w'=>e = .returned (.tuple #[.int .i64 ((l.countP (· < x):Nat):Int),.bool (l.contains x)])∧Below w.heap.size w w':=by
 subst hn;rcases hA with h0 | ⟨g,o,rfl,hlt,hc⟩
 ·subst h0
  refine (Tryz.slices_BinarySearch_int_empty A c (x:Int) w).mono ?_;rintro e w' ⟨he,hw⟩;refine⟨by rw [he];rfl,?_⟩;first | (obtain⟨q,rfl⟩:=hw;exact next_drewN (Below.refl _ _) q) | (subst hw;exact Below.refl _ _) | (rw [hw];exact Below.refl _ _)
 have hl:(l.map fun i:Nat=>(i:Int)).length=l.length:=by simp
 refine (Tryz.slices_BinarySearch_int g o l.length c (l.map fun i:Nat=>(i:Int)) (x:Int) w (by simp) (by omega) (fun j hj=>?_) ?_).mono ?_
 ·have hj':j < l.length:=by simpa using hj
  rw [hc j hj'];simp [nth,List.getD_eq_getElem?_getD,hj']
 ·rw [List.take_of_length_le (by simp),List.pairwise_map]
  exact hs.imp fun h=>by omega
 rintro e w' ⟨he,q,rfl⟩;rw [List.take_of_length_le (by simp),cnt_cast,has_cast] at he;exact⟨he,next_drewN (Below.refl _ _) q⟩
def ValsPost (l:List Nat) (J Jx:List Nat→World→Prop) (e:Ending) (W':World):Prop:=(∃ v,e = .returned v)∧((∃ ys,ys=l∧J ys W')∨(∃ pre,pre <+: l∧Jx pre W'))
set_option maxRecDepth 100000 in
set_option maxHeartbeats 1000000 in
theorem vals_in (n:Nat) (hn:1≤n) (y Bn n₀ m c:Nat) (A:Option Addr) (l:List Nat) (J Jx:List Nat→World→Prop) (W:World) (hm:l.length=m) (hm4:m≤100000)
  (hJ:AbidesFrom W.heap.size J)
  (hY:∀ pre x W1,J pre W1→pre.length < l.length→YieldAt Fence.wide (n - 1) Tryz.prog y #[.int .i64 ((x:Nat):Int)] W1 fun e W' =>
   (e = .returned (.bool true)∧J (pre++[x]) W'∧Below n₀ W1 W')∨(e = .returned (.bool false)∧Jx (pre++[x]) W'))
  (hBn:Bn < n₀) (hn₀:n₀≤W.heap.size) (hc0:W.cell? ⟨Bn,0,none⟩=some (.slice A m c)) (hA:∀ W',Below n₀ W W'→Ints W' A l) (h0:J [] W) :
  CallsIn Fence.wide n Tryz.prog 217 #[.func (.yield y) #[] #[],.pointer (some ⟨Bn,0,none⟩)] W (ValsPost l J Jx):=by
 have HM:=hid hm;have HA:=hid hA;have HY:=hid hY;have HJ:=hid hJ;have HJ0:=hid h0;clear hm hA hY hJ h0;refine callsIn_of_wp Tryz.func217 rfl trivial ?_ rfl;simp only [Tryz.ntmps217,List.size_toArray,List.length_cons,List.length_nil,Nat.reduceAdd,Nat.reduceSub,Array.replicate_succ,Array.replicate_zero,List.push_toArray,List.append_toArray,List.nil_append,List.cons_append]
 gi_wp2_with fail
 gi_loopw [7] (fun i wr=>∃ j:Nat,j≤m∧i = .int .i64 (j:Int)∧J (l.take j) wr∧Below n₀ W wr) (fun i _=>m - (intOf i).toNat)
 case atStart=>exact⟨0,Nat.zero_le _,rfl,HJ0.out,Below.refl _ _⟩
 case round =>
  obtain⟨j,hj,rfl,hJs,hBs⟩:=hrel;have HJs:=hid hJs;have HBs:=hid hBs;clear hJs hBs;by_cases hlt:j < m
  rotate_left
  ·have i1:¬ ((j:Int) < (m:Int)):=by omega
   have ht:l.take j=l:=List.take_of_length_le (by rw [HM.out];omega);have hJ:=HJs.out;rw [ht] at hJ
   gi_wp2
   go_end0
   exact (show ValsPost l J Jx _ _ from ⟨⟨_,rfl⟩,.inl ⟨l,rfl,hJ⟩⟩)
  obtain⟨g,o,rfl,hcell⟩:=(HA.out _ HBs.out).at_ (i:=j) (by rw [HM.out];exact hlt);have ht:l.take (j+1)=l.take j++[nth l j]:=by
   have hj':j < l.length:=by rw [HM.out];exact hlt
   rw [List.take_add_one,List.getElem?_eq_getElem hj'];simp [nth,List.getD_eq_getElem?_getD,hj']
  obtain⟨x,hx⟩:∃ x,nth l j=x:=⟨_,rfl⟩
  rw [hx] at hcell ht;clear hx;obtain⟨fn,tmps,assign,body,hy,hR⟩:=HY.out (l.take j) x wr HJs.out (by rw [List.length_take,HM.out];omega);have i1:(j:Int) < (m:Int):=by omega
  have i2:(0:Int)≤(j:Int):=by omega
  have HTT:=hid ht;clear ht
  gi_wp2
  refine hR.mono ?_;rintro e W3 (⟨rfl,hJ3,hk3⟩ | ⟨rfl,hJx3⟩)
  ·rw [← HTT.out] at hJ3
   have HJ3:=hid hJ3;have HB3:=hid (HBs.out.trans hk3);clear hJ3 hk3 hy hR hcell
   gi_wp2
   go_roundw
   case rel=>exact⟨j+1,by omega,by go_num,HJ3.out,HB3.out⟩
   case measure=>simp [intOf];omega
  rw [← HTT.out] at hJx3
  gi_wp2
  refine bodyPost_ret (results_none rfl _ _ _) rfl ?_;exact (show ValsPost l J Jx _ _ from ⟨⟨_,rfl⟩,.inr ⟨l.take (j+1),List.take_prefix _ _,hJx3⟩⟩)
theorem vals_stops (n:Nat) (hn:1≤n) (Bn n₀ m c:Nat) (A:Option Addr) (l:List Nat) (w:World) (hm:l.length=m) (hm4:m≤100000) (hBn:Bn < n₀) (hn₀:n₀≤w.heap.size)
  (hc0:w.cell? ⟨Bn,0,none⟩=some (.slice A m c)) (hA:∀ W',Below n₀ w W'→Ints W' A l) :
  SeqStopsK Fence.wide n Tryz.prog 217 #[.pointer (some ⟨Bn,0,none⟩)] (fun x:Nat=>#[Value.int .i64 (x:Int)]) (Below n₀) (fun ys=>ys=l) (fun pre=>pre <+: l) l.length w:=fun y J Jx W hW hJ _ hY h0 =>
 vals_in n hn y Bn n₀ m c A l J Jx W hm hm4 hJ hY hBn (by have:=hW.size;omega) ((hW.cell (p:=⟨Bn,0,none⟩) (by show Bn < w.heap.size;omega)).trans hc0) (fun W' h=>hA W' ((hW.mono hn₀).trans h)) h0
set_option maxRecDepth 100000 in
set_option maxHeartbeats 2000000 in
theorem append_in (n:Nat) (hn:3≤n) (Bn m c:Nat) (A:Option Addr) (l:List Nat) (w:World) (hm:l.length=m) (hm4:m≤100000) (hBn:Bn < w.heap.size) (hc0:w.cell? ⟨Bn,0,none⟩=some (.slice A m c)) (hA:Ints w A l) :
  CallsIn Fence.wide n Tryz.prog 260 #[.slice none 0 0,.func (.func 217) #[] #[.pointer (some ⟨Bn,0,none⟩)]] w fun e W'=>∃ v,e = .returned v∧Go.Proofs.YtmokogkndbinlaaGreatDoor.Own W' w.heap.size v l∧Below w.heap.size w W':=by
 have h1:1≤n:=by omega
 obtain⟨i0,hi,hz0,hz1,hz2⟩:=info_parts info_int;refine callsIn_of_wp_marks Tryz.func260 rfl trivial ?_ rfl;simp only [Tryz.ntmps260,List.size_toArray,List.length_cons,List.length_nil,Nat.reduceAdd,Nat.reduceSub,Array.replicate_succ,Array.replicate_zero,List.push_toArray,List.append_toArray,List.nil_append,List.cons_append]
 gi_wp2_with fail
 have bO:=Boxed.new w 41 (.slice none 0 0);have hB0:Below w.heap.size w (w.alloc (.cells #[.slice none 0 0] 41)):=(Below.refl _ w).alloc (Nat.le_refl _) _;have hlen:l.length≤100000:=by omega
 refine wpIn_rangeFunc_ownG rfl h1 (gf:=217) (lb:=#[.pointer (some ⟨Bn,0,none⟩)]) rfl trivial (enters_of Tryz.func217 (by kernel_rfl) rfl)
  (vals_stops (n - 1) (by omega) Bn w.heap.size m c A l _ hm hm4 hBn (by simp) ((hB0.cell (p:=⟨Bn,0,none⟩) hBn).trans hc0) (fun W' h=>hA.below (hB0.trans h) (Nat.le_refl _))) belowK_t (belowK_b (by simp)) (Below.refl _ _) (fun _=>rfl)
  (fun pre W=>(∃ v,Boxed W w.heap.size 41 v∧W.ownsRow w.heap.size 3 1 v pre.length (pre.map fun y:Nat=>Value.int .i64 (y:Int))∧True)∧Below w.heap.size w W)
  (fun _ _ _=>False)
  (OwnFrom.and (_root_.Go.Own.from (holdsRow_own w.heap.size w.heap.size 41 3 1 (fun pre:List Nat=>pre.length) (fun pre=>pre.map fun y:Nat=>Value.int .i64 (y:Int)) (fun _ _=>True)) _) (ownFrom_below (Nat.le_refl _) (by simp)))
  (fun _ _ _ _ _ hs _ _=>hs)
  ⟨⟨_,bO,World.ownsRow_nil _ _ _ _,trivial⟩,hB0⟩
  (fun x:Nat=>{ tmps:=#[.slice none 0 0,.func (.func 217) #[] #[.pointer (some ⟨Bn,0,none⟩)],.pointer (some ⟨w.heap.size,0,none⟩),undef,.slice none 0 0,.int .i64 (x:Int),.func (.func 217) #[] #[.pointer (some ⟨Bn,0,none⟩)],.int .i64 (x:Int),undef,undef,undef,undef,undef],defers:=[] }) ?assign ?body ?done ?stop
 case assign =>
  intro y x W K hK
  gi_wp2
  exact hK
 case body =>
  rintro y pre x W ⟨⟨v,hv,hrow,_⟩,hBW⟩ hlt;have hc:=hv.cell
  gi_wp2_with (gi_at_builtin;refine wpListIn_append_own _ rfl _ _ 41 rfl w.heap.size 3 i0 (.int .i64 0) 1 8 Tryz.underlying41 hi hz0 hz1 hz2 rfl (by decide) _ _ _ rfl (hrow.alloc _) ⟨W.heap.size,0,none⟩ 1 1 [.int .i64 (x:Int)] rfl rfl (cell_one_new _ _ _) (by simp [Value.oneCell']) (by unfold maxLen;omega) (by omega) (by have:=hBW.size;simp;omega) ?_;intro v' w1 hown' hgrow _;obtain⟨g',cap',rfl⟩:=ownsRow_succ hown';obtain⟨hv1,hv2,hr2,hk2,hb2⟩:=hv.appended (by decide) hrow hBW.size (Nat.le_refl _) hown' hgrow;have hc1:=hv1.cell;have hf1:=hv1.frozen)
  exact⟨hk2.from _,hb2,⟨_,hv2,by simpa using hr2,trivial⟩,hBW.trans hb2⟩
 case done =>
  rintro D ys W hD rfl ⟨⟨v,hv,hrow,_⟩,hBW⟩ hK;have hc:=hv.cell
  gi_wp2
  refine⟨by simp,.inl ⟨_,_,rfl,run_takeDeferred hK,?_⟩⟩;exact⟨_,results_tmp rfl _ _ _,v,rfl,ownsRow_putObj hrow _ hK rfl,hBW.trans (belowK_b (w:=w) (Nat.le_refl _) W D _ _ (by simp at hD;omega) hK rfl rfl)⟩
 case stop =>
  rintro D c pre W _ _ h _;exact h.elim
end Go.Proofs.YtmokogkndbinlaaGreatDoor
namespace Go.Proofs.YtmokogkndbinlaaGreatDoor
open Go.Lib (hid)
open Go.RowKit
set_option maxRecDepth 100000 in
theorem app_wp {o:Oper}{a:Act}{K:Act→World→Prop}{Q:Exit→Act→World→Prop}(s x:Operand)
  (ho:o.op = .call { callee:=.builtin .append,args:=#[s,x],argTypes:=#[41,41] })
  (W:World) (base m cx:Nat) (v:Value) (l l2:List Nat) (Ax:Option Addr) (hm:l2.length=m) (hs:a.eval s=v) (hx:a.eval x = .slice Ax m cx)
  (hown:Own W base v l) (hI:Ints W Ax l2) (hc:Ax=none→cx=0) (hbase:base≤W.heap.size) (hl:l.length≤100000) (hl2:m≤100000)
  (h:∀ v' w',Own w' base v' (l++l2)→W.grownBy w' v.ownBlock→K (a.put o.dst v') w') :
  o.wp Tryz.prog a W K Q:=by
 subst hm;obtain⟨i0,hi,hz0,hz1,hz2⟩:=info_parts info_int;cases Ax with
 | none =>
  have hn:l2=[]:=by
   rcases hI with h | ⟨g,o,e,_⟩
   ·exact h
   cases e
  subst hn;have hc0:=hc rfl;subst hc0;have hrun:=run_append_owned_none (P:=Tryz.prog) (w:=W) base 41 o.type 3 i0 1 Tryz.underlying41 hi v l.length _ hown;unfold Oper.wp;simp [execOp,ho,resolve,invoke,builtin,hs,hx,hrun,Result.andThen]
  exact h v W (by rw [List.append_nil];exact hown) ⟨rfl,rfl,rfl,Nat.le_refl _,fun k _ _=>rfl⟩
 | some ad =>
  refine wp_append_own W s x 41 ho base 3 i0 (.int .i64 0) 1 8 Tryz.underlying41 hi hz0 hz1 hz2 rfl (by decide) v l.length _ hs hown ad l2.length cx (intC l2) hx (by rw [intC_len,Nat.mul_one]) ?_ (intC_one l2) (by unfold maxLen;omega) (by omega) hbase ?_
  ·intro j u hu
   obtain⟨ad',e,hcc⟩:=hI.src (by have:=(List.getElem?_eq_some_iff.1 hu).1;omega);injection e with e;subst e;exact hcc j u hu
  intro v' w' h1 h2 _;refine h v' w' ?_ h2;unfold Own;rw [List.length_append,intC,List.map_append];exact h1
theorem app_own {ops:Array Oper}{rest:List Oper}{o:Oper}{a:Act}{Q:Exit→Act→World→Prop}(hgd:o.guard=none) (s x:Operand)
  (ho:o.op = .call { callee:=.builtin .append,args:=#[s,x],argTypes:=#[41,41] })
  (W:World) (base m cx:Nat) (v:Value) (l l2:List Nat) (Ax:Option Addr) (hm:l2.length=m) (hs:a.eval s=v) (hx:a.eval x = .slice Ax m cx)
  (hown:Own W base v l) (hI:Ints W Ax l2) (hc:Ax=none→cx=0) (hbase:base≤W.heap.size) (hl:l.length≤100000) (hl2:m≤100000)
  (h:∀ v' w',Own w' base v' (l++l2)→W.grownBy w' v.ownBlock→wpList Tryz.prog ops Q rest (a.put o.dst v') w') :
  wpList Tryz.prog ops Q (o::rest) a W :=
 wpList_plain hgd fun _ hK=>app_wp s x ho W base m cx v l l2 Ax hm hs hx hown hI hc hbase hl hl2 fun v' w' h1 h2=>hK _ _ (h v' w' h1 h2)
open Go.RowKit Go.Shelf Go.Sort
theorem grow_any (n:Nat) (w:World) (hn:n≤1000) :
  Calls Tryz.prog 230 #[.slice none 0 0,.int .i64 (n:Int)] w fun e w'=>(∃ v,e = .returned v∧Own w' w.heap.size v [])∧Below w.heap.size w w':=by
 obtain⟨i0,hi,hz0,hz1,hz2⟩:=info_parts info_int;by_cases h:n=0
 ·subst h
  refine (Any8.slices_Grow_room Tryz.growI none 0 0 0 w (Nat.le_refl _) (by omega) (by omega) (Nat.le_refl _)).mono ?_;rintro e w' ⟨rfl,hw⟩;refine⟨⟨_,rfl,own_nil _ _⟩,?_⟩;first | (subst hw;exact Below.refl _ _) | (rw [hw];exact Below.refl _ _)
 refine (Any8.slices_Grow_grow Tryz.growI i0 (.int .i64 0) hi hz0 (by rw [hz1];omega) none 0 0 n [] w (Nat.le_refl _) (by omega) (by rw [hz2];omega) (by omega) (by simp) (fun _=>rfl) (fun a e=>by cases e)).mono ?_;rintro e w' ⟨rfl,rfl⟩;have hge:=grownCap_ge w (0+n) 0 3;have hle:=grownCap_le_maxLen w (0+n) 0 3 (by unfold maxLen;omega);refine⟨⟨_,rfl,?_⟩,?_⟩
 ·have h:=World.ownsRow_made (base:=w.heap.size) (e:=3) (size:=1) w.drew (([]:List Value).toArray++Builtin.zeroCells (Value.int .i64 0).cells (0+n - 0)++Builtin.zeroCells (Value.int .i64 0).cells (grownCap w (0+n) 0 3 - (0+n))) (grownCap w (0+n) 0 3) (Nat.le_refl _) hle (by simp [Builtin.zeroCells,Value.cells,-Nat.zero_add];omega)
  exact h
 exact ((Below.refl w.heap.size w).drew).alloc (Nat.le_refl _) _
set_option maxRecDepth 100000 in
set_option maxHeartbeats 4000000 in
theorem concat_any (g n1 c1 n2 c2 cL:Nat) (A1 A2:Option Addr) (l1 l2:List Nat) (w:World) (hn1:l1.length=n1) (hn2:l2.length=n2) (h1:n1≤100) (h2:n2≤100) (hg:g < w.heap.size)
  (x0:w.cell? ⟨g,0,none⟩=some (.slice A1 n1 c1)) (x1:w.cell? ⟨g,1,none⟩=some (.slice A2 n2 c2)) (i1:Ints w A1 l1) (i2:Ints w A2 l2) (e1:A1=none→c1=0) (e2:A2=none→c2=0) :
  Calls Tryz.prog 180 #[.slice (some ⟨g,0,none⟩) 2 cL] w fun e w'=>(∃ v,e = .returned v∧Own w' w.heap.size v (l1++l2))∧Below w.heap.size w w':=by
 have HN1:=hid hn1;have HN2:=hid hn2;have I1:=hid i1;have I2:=hid i2;have E1:=hid e1;have E2:=hid e2;have X0:=hid x0;have X1:=hid x1;clear hn1 hn2 i1 i2 e1 e2;go_enter Tryz.func180,Tryz.ntmps180
 go_upto_region 3 with fail
 go_loop [3,11] (fun v3 i=>(i = .int .i64 0∧v3 = .int .i64 0)∨(i = .int .i64 1∧v3 = .int .i64 (n1:Int))∨(i = .int .i64 2∧v3 = .int .i64 ((n1+n2:Nat):Int))) (fun _ i=>2 - (intOf i).toNat)
 case atStart=>exact .inl ⟨rfl,rfl⟩
 case round =>
  rcases hrel with ⟨rfl,rfl⟩ | ⟨rfl,rfl⟩ | ⟨rfl,rfl⟩
  ·go_wp2_with fail
   go_round
   case rel=>exact .inr (.inl ⟨rfl,by go_num⟩)
   case measure=>simp [intOf]
  ·have d:¬ ((n1:Int)+(n2:Int) < 0):=by omega
   go_wp2_with fail
   go_round
   case rel=>exact .inr (.inr ⟨rfl,by go_num⟩)
   case measure=>simp [intOf]
  clear x0 x1;have GR:=hid (grow_any (n1+n2) w (by omega));go_wp2_with fail
  refine GR.out.mono ?_;rintro e w1 ⟨⟨v,rfl,hO⟩,hb⟩;have O1:=hid hO;have B1:=hid hb;clear hO hb GR;go_upto_region 11 with fail
  go_loopw [6,27] (fun v6 i wr=>Below w.heap.size w wr∧((i = .int .i64 0∧Own wr w.heap.size v6 [])∨(i = .int .i64 1∧Own wr w.heap.size v6 l1)∨(i = .int .i64 2∧Own wr w.heap.size v6 (l1++l2)))) (fun _ i _=>2 - (intOf i).toNat)
  case atStart=>exact⟨B1.out,.inl ⟨rfl,O1.out⟩⟩
  case round =>
   obtain⟨hb,⟨rfl,hO⟩ | ⟨rfl,hO⟩ | ⟨rfl,hO⟩⟩:=hrel
   ·have BR:=hid hb
    have OR:=hid hO;have y0:wr.cell? ⟨g,0,none⟩=some (.slice A1 n1 c1):=(hb.cell (p:=⟨g,0,none⟩) hg).trans X0.out;have J1:=hid (I1.out.below hb (Nat.le_refl _));clear hb hO;go_wp2_with (at_builtin;refine app_own rfl (.tmp 31) (.tmp 32) rfl wr w.heap.size n1 c1 u6 [] l1 A1 HN1.out rfl rfl OR.out J1.out E1.out BR.out.size (by simp) (by omega) ?_;intro v' w' hO hg';have BN:=hid (BR.out.grown hg' BR.out.size (fun b hb'=>(World.ownsRow.lt OR.out b hb').1));have ON:=hid hO;clear hO hg')
    go_roundw
    case rel=>exact⟨BN.out,.inr (.inl ⟨rfl,ON.out⟩)⟩
    case measure=>simp [intOf]
   ·have BR:=hid hb
    have OR:=hid hO;have y1:wr.cell? ⟨g,1,none⟩=some (.slice A2 n2 c2):=(hb.cell (p:=⟨g,1,none⟩) hg).trans X1.out;have J2:=hid (I2.out.below hb (Nat.le_refl _));clear hb hO;go_wp2_with (at_builtin;refine app_own rfl (.tmp 31) (.tmp 32) rfl wr w.heap.size n2 c2 u6 l1 l2 A2 HN2.out rfl rfl OR.out J2.out E2.out BR.out.size (by rw [HN1.out];omega) (by omega) ?_;intro v' w' hO hg';have BN:=hid (BR.out.grown hg' BR.out.size (fun b hb'=>(World.ownsRow.lt OR.out b hb').1));have ON:=hid hO;clear hO hg')
    go_roundw
    case rel=>exact⟨BN.out,.inr (.inr ⟨rfl,ON.out⟩)⟩
    case measure=>simp [intOf]
   have BR:=hid hb;have OR:=hid hO;clear hb hO;go_wp2_with fail
   go_ret;exact⟨⟨_,rfl,OR.out⟩,BR.out⟩
def sortI (l:List Nat):List Int:=(l.map fun i:Nat=>(i:Int)).mergeSort fun x y=>decide (x≤y)
theorem sortI_len (l:List Nat):(sortI l).length=l.length:=by simp [sortI]
theorem sortI_nil:sortI []=[]:=by simp [sortI]
theorem collect_any (Bn m c:Nat) (A:Option Addr) (l:List Nat) (w:World) (hm:l.length=m) (hm4:m≤100000) (hBn:Bn < w.heap.size) (hc0:w.cell? ⟨Bn,0,none⟩=some (.slice A m c)) (hA:Ints w A l) :
  Calls Tryz.prog 216 #[.func (.func 217) #[] #[.pointer (some ⟨Bn,0,none⟩)]] w fun e w'=>(∃ v,e = .returned v∧Own w' w.heap.size v l)∧Below w.heap.size w w':=by
 have C:=hid (callsIn_wide.1 (append_in 3 (Nat.le_refl _) Bn m c A l w hm hm4 hBn hc0 hA));clear hc0 hA;go_enter Tryz.func216,Tryz.ntmps216
 go_wp2_with (go_at_call 260;refine C.out.mono ?_;rintro e w' ⟨v,rfl,h1,h2⟩)
 go_ret;exact⟨⟨_,rfl,h1⟩,h2⟩
set_option maxHeartbeats 1000000 in
theorem sorted_any (Bn m c:Nat) (A:Option Addr) (l:List Nat) (w:World) (hm:l.length=m) (hm4:m≤100000) (hBn:Bn < w.heap.size) (hc0:w.cell? ⟨Bn,0,none⟩=some (.slice A m c)) (hA:Ints w A l) :
  Calls Tryz.prog 173 #[.func (.func 217) #[] #[.pointer (some ⟨Bn,0,none⟩)]] w fun e w'=>(∃ v,e = .returned v∧w'.ownsRow w.heap.size 3 1 v m ((sortI l).map (Value.int .i64)))∧Below w.heap.size w w':=by
 have C:=hid (collect_any Bn m c A l w hm hm4 hBn hc0 hA);have HM:=hid hm;clear hc0 hA hm;go_enter Tryz.func173,Tryz.ntmps173
 go_wp2_with fail
 refine C.out.mono ?_;rintro e w1 ⟨⟨v,rfl,hO⟩,hb⟩;have hO':=hO;obtain⟨hl,⟨rfl,h0⟩ | ⟨gb,cap,cur,rfl,hbase,hgb,r1,r2,r3,r4⟩⟩:=hO'
 ·have hss:l=[]:=List.eq_nil_of_length_eq_zero h0
  have hm0:m=0:=by rw [← HM.out,hss];rfl
  have HSS:=hid hss;have HB:=hid hb;clear hO hb h0 hl hss;subst hm0;go_wp2_with (go_at_call 99;refine (Tryz.slices_Sort_int_none none 0 w1).mono ?_;rintro e w' ⟨rfl,rfl⟩)
  go_ret;exact⟨⟨_,rfl,by rw [HSS.out,sortI_nil];exact World.ownsRow_nil _ _ _ _⟩,HB.out⟩
 have HH:Hid (Holds (Value.int .i64) w1 gb 0 (l.map fun i:Nat=>(i:Int)).toArray):=hid (holds_of_blockI hgb (by rw [List.length_map,List.map_map];rw [Nat.mul_one] at r4;exact r4));have hgl:gb < w1.heap.size:=(Array.getElem?_eq_some_iff.1 hgb).1;have SS:=hid (Tryz.slices_Sort_int gb 0 cap (l.map fun i:Nat=>(i:Int)) w1 HH.out hgl (by rw [List.length_map,HM.out];omega));have FIN:Hid (∀ (nn:Nat) (os:Array Obj),(grow (putRow (Value.int .i64) (Sort.ahead w1 nn) gb 0 (sortI l).toArray) os).ownsRow w.heap.size 3 1 (.slice (some ⟨gb,0,none⟩) m cap) m ((sortI l).map (Value.int .i64))∧Below w.heap.size w (grow (putRow (Value.int .i64) (Sort.ahead w1 nn) gb 0 (sortI l).toArray) os)):=hid fun nn os=>by
  have h:=ownsRow_sortedI (base:=w.heap.size) (n:=nn) (os:=os) (ss:=l.map fun i:Nat=>(i:Int)) (ts:=sortI l) (by rw [sortI_len,List.length_map]) hbase hgb (by rw [List.length_map];omega) r2 r3;rw [List.length_map,HM.out] at h;exact⟨h,hb.grown (grownBy_sortedI _) hb.size (fun j hj=>by cases hj;exact hbase)⟩
 rw [List.length_map] at SS;have hml:=HM.out;rw [hml] at SS ⊢;clear hO hb hl hgb r1 r2 r3 r4 hml;go_wp2_with (go_at_call 99;refine SS.out.mono ?_;rintro e w' ⟨rfl,nn,os,rfl⟩)
 have F2:=hid (FIN.out nn os);clear FIN SS;go_ret;exact⟨⟨_,rfl,F2.out.1⟩,F2.out.2⟩
end Go.Proofs.YtmokogkndbinlaaGreatDoor
