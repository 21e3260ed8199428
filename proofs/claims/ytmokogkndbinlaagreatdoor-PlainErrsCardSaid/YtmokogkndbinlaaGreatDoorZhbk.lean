import Derived.Test.YtmokogkndbinlaaGreatDoorZhbj
set_option linter.all false
namespace Go.Proofs.YtmokogkndbinlaaGreatDoor
open Go.Lib (hid)
attribute [local go_sem] Oper.semAt_some
open Go.RowKit Go.Shelf
abbrev HoldPl (w:World) (fb fb':Nat) (X X':ByteArray) (k k':Int) (n m n' m':Nat) (As As' Af Af':Option Addr) (cs cs' cf cf':Nat) (W:World):Prop :=
 W.cell? ⟨fb,0,none⟩=some (.string X)∧W.cell? ⟨fb,1,none⟩=some (.int .i64 k)∧W.cell? ⟨fb,2,none⟩=some (.slice As n cs)∧W.cell? ⟨fb,3,none⟩=some (.slice Af m cf) ∧
 W.cell? ⟨fb',0,none⟩=some (.string X')∧W.cell? ⟨fb',1,none⟩=some (.int .i64 k')∧W.cell? ⟨fb',2,none⟩=some (.slice As' n' cs')∧W.cell? ⟨fb',3,none⟩=some (.slice Af' m' cf')∧Below w.heap.size w W
theorem HoldPl.below {w W:World}{fb fb':Nat}{X X':ByteArray}{k k':Int}{n m n' m':Nat}{As As' Af Af':Option Addr}{cs cs' cf cf':Nat}(h:HoldPl w fb fb' X X' k k' n m n' m' As As' Af Af' cs cs' cf cf' W):Below w.heap.size w W:=h.2.2.2.2.2.2.2.2
theorem holdPl {w W W':World}{fb fb':Nat}{X X':ByteArray}{k k':Int}{n m n' m':Nat}{As As' Af Af':Option Addr}{cs cs' cf cf':Nat}(h:HoldPl w fb fb' X X' k k' n m n' m' As As' Af Af' cs cs' cf cf' W) (hb:Below W.heap.size W W'):HoldPl w fb fb' X X' k k' n m n' m' As As' Af Af' cs cs' cf cf' W':=by
 obtain⟨a0,a1,a2,a3,b0,b1,b2,b3,hB⟩:=h;have K:∀ b i v,W.cell? ⟨b,i,none⟩=some v→W'.cell? ⟨b,i,none⟩=some v:=fun b i v h=>(hb.cell (p:=⟨b,i,none⟩) (World.block_lt_of_cell? W _ h)).trans h;exact⟨K _ _ _ a0,K _ _ _ a1,K _ _ _ a2,K _ _ _ a3,K _ _ _ b0,K _ _ _ b1,K _ _ _ b2,K _ _ _ b3,hB.trans (hb.mono hB.size)⟩
theorem holdPl_of {w:World}{fb fb':Nat}{X X':ByteArray}{k k':Int}{sizes sizes':List Nat}{fs fs':List FunM}{As As' Af Af':Option Addr}{cs cs' cf cf':Nat}(h:FileR w fb X k sizes fs As Af cs cf) (h':FileR w fb' X' k' sizes' fs' As' Af' cs' cf'):HoldPl w fb fb' X X' k k' sizes.length fs.length sizes'.length fs'.length As As' Af Af' cs cs' cf cf' w:=by
 obtain⟨a0,a1,a2,a3⟩:=h.cells;obtain⟨b0,b1,b2,b3⟩:=h'.cells;exact⟨a0,a1,a2,a3,b0,b1,b2,b3,Below.refl _ _⟩
set_option maxRecDepth 100000 in
set_option maxHeartbeats 4000000 in
theorem plsame_funs (fb cs cf fb' cs' cf':Nat) (X:ByteArray) (k:Int) (sizes:List Nat) (fs gs:List FunM) (As Af As' Af':Option Addr) (w:World) (H:FileR w fb X k sizes fs As Af cs cf) (H':FileR w fb' X k sizes gs As' Af' cs' cf') (hr:RightF X k sizes fs) (hr':RightF X k sizes gs) :
  Calls Tryz.prog 17 #[.pointer (some ⟨fb,0,none⟩),.pointer (some ⟨fb',0,none⟩)] w fun e w'=>∃ b:Bool,e = .returned (.bool b)∧(b=true↔SmL k sizes fs gs)∧Below w.heap.size w w':=by
 have H0:=hid (holdPl_of H H');have EQ:=hid (fun W (hb:Below w.heap.size w W)=>equal_yes As As' sizes.length cs cs' sizes W rfl (by have:=hr.n;omega) (H.below hb).szs (H'.below hb).szs);have EF:=hid (fun W (hb:Below w.heap.size w W)=>pequalfunc_ok fb cs cf fb' cs' cf' X X X X k sizes fs gs As Af As' Af' W (H.below hb) (H'.below hb) hr hr');obtain⟨n,en⟩:∃ n,sizes.length=n:=⟨_,rfl⟩
 obtain⟨m,em⟩:∃ m,fs.length=m:=⟨_,rfl⟩
 obtain⟨m',em'⟩:∃ m',gs.length=m':=⟨_,rfl⟩
 rw [en,em,em'] at H0;rw [en] at EQ;rw [em,em'] at EF;clear H H' hr hr' en em em';have q1:=eql_ptr_nil fb w;have q2:=eql_ptr_nil fb' w;go_enter Tryz.func17,Tryz.ntmps17
 go_upto_region 3 with fail
 clear q1 q2;go_region_held3 (fun W=>HoldPl w fb fb' X X k k n m n m' As As' Af Af' cs cs' cf cf' W) (first | exact holdPl H0.out ((Below.refl _ _).drew) | exact holdPl (by assumption) (by assumption) | assumption)
  ((first
   | (go_at_call 25;with_reducible refine (EQ.out _ (HoldPl.below (by assumption))).mono ?_;rintro e w2 ⟨rfl,hb⟩)
   | (go_at_call 68;with_reducible refine (EF.out _ (HoldPl.below (by assumption))).mono ?_;rintro e w3 ⟨r,rfl,hr,hb⟩;have HRES:=hid hr;clear hr)))
 have HB:=hid (HoldPl.below (by assumption:HoldPl w fb fb' X X k k n m n m' As As' Af Af' cs cs' cf cf' w3));go_wp2_with fail
 go_ret;first | exact⟨r,rfl,HRES.out,HB.out⟩ | exact⟨HRES.out,HB.out⟩
set_option maxRecDepth 100000 in
set_option maxHeartbeats 4000000 in
theorem plsame_name (fb cs cf fb' cs' cf':Nat) (X X':ByteArray) (k k':Int) (sizes sizes':List Nat) (fs gs:List FunM) (As Af As' Af':Option Addr) (w:World) (H:FileR w fb X k sizes fs As Af cs cf) (H':FileR w fb' X' k' sizes' gs As' Af' cs' cf') (hx:X≠X') :
  Calls Tryz.prog 17 #[.pointer (some ⟨fb,0,none⟩),.pointer (some ⟨fb',0,none⟩)] w fun e w'=>e = .returned (.bool false)∧Below w.heap.size w w':=by
 have d1:(X.toList == X'.toList)=false:=str_ne hx;clear hx;have H0:=hid (holdPl_of H H');obtain⟨n,en⟩:∃ n,sizes.length=n:=⟨_,rfl⟩
 obtain⟨n',en'⟩:∃ n',sizes'.length=n':=⟨_,rfl⟩
 obtain⟨m,em⟩:∃ m,fs.length=m:=⟨_,rfl⟩
 obtain⟨m',em'⟩:∃ m',gs.length=m':=⟨_,rfl⟩
 rw [en,en',em,em'] at H0
 skip
 clear H H' en em en' em';have q1:=eql_ptr_nil fb w;have q2:=eql_ptr_nil fb' w;go_enter Tryz.func17,Tryz.ntmps17
 go_upto_region 3 with fail
 clear q1 q2;refine wp_region_noPanic ?_;refine wp_region_held_drew (S:=HoldPl w fb fb' X X' k k' n m n' m' As As' Af Af' cs cs' cf cf') (by kernel_rfl) (holdPl H0.out (Below.refl _ _).drew) (fun hHeld=>?_);generalize w.drew=wd at hHeld ⊢;refine wt 0 ?r301;refine wt 1 ?r302;refine wt 2 ?r303;refine wt 3 ?r304;refine wt 4 ?r305;refine wt 5 ?r306;refine wt 6 ?r307;refine wt 7 ?r308;refine wt 8 ?r309;refine wt 9 ?r310;refine wu 10 ?r311;refine wu 11 ?r312;refine wu 12 ?r313;refine wu 13 ?r314;refine wu 14 ?r315;refine wu 15 ?r316;refine wu 16 ?r317;refine wu 17 ?r318;refine wu 18 ?r319;refine wt 19 ?r320;refine wt 20 ?r321;refine wu 21 ?r322;refine wu 22 ?r323;refine wu 23 ?r324;refine wu 24 ?r325;refine wu 25 ?r326;refine wu 26 ?r327;refine wu 27 ?r328;refine wu 28 ?r329;refine wu 29 ?r330;refine wt 30 ?r331;refine wt 31 ?r332;refine wu 32 ?r333;refine wu 33 ?r334;refine wu 34 ?r335;refine wu 35 ?r336;refine wu 36 ?r337;refine wu 37 ?r338;refine wu 38 ?r339;refine wu 39 ?r340;refine wu 40 ?r341;refine wt 41 ?r342;refine wt 42 ?r343;refine wpAnyH_done (by kernel_rfl) ?_ _;refine NoPanic.normal ?_;have FB:=hid (HoldPl.below hHeld);clear hHeld;go_wp2_with fail
 go_ret;first | exact⟨rfl,FB.out⟩ | exact FB.out
set_option maxRecDepth 100000 in
set_option maxHeartbeats 4000000 in
theorem plsame_top (fb cs cf fb' cs' cf':Nat) (X X':ByteArray) (k k':Int) (sizes sizes':List Nat) (fs gs:List FunM) (As Af As' Af':Option Addr) (w:World) (H:FileR w fb X k sizes fs As Af cs cf) (H':FileR w fb' X' k' sizes' gs As' Af' cs' cf') (hx:X=X') (hk:k≠k') :
  Calls Tryz.prog 17 #[.pointer (some ⟨fb,0,none⟩),.pointer (some ⟨fb',0,none⟩)] w fun e w'=>e = .returned (.bool false)∧Below w.heap.size w w':=by
 subst hx;have i1:¬ (k=k'):=hk;have i2:(k == k')=false:=by simpa using hk
 have i3:decide (k=k')=false:=decide_eq_false hk;clear hk;have H0:=hid (holdPl_of H H');obtain⟨n,en⟩:∃ n,sizes.length=n:=⟨_,rfl⟩
 obtain⟨n',en'⟩:∃ n',sizes'.length=n':=⟨_,rfl⟩
 obtain⟨m,em⟩:∃ m,fs.length=m:=⟨_,rfl⟩
 obtain⟨m',em'⟩:∃ m',gs.length=m':=⟨_,rfl⟩
 rw [en,en',em,em'] at H0
 skip
 clear H H' en em en' em';have q1:=eql_ptr_nil fb w;have q2:=eql_ptr_nil fb' w;go_enter Tryz.func17,Tryz.ntmps17
 go_upto_region 3 with fail
 clear q1 q2;refine wp_region_noPanic ?_;refine wp_region_held_drew (S:=HoldPl w fb fb' X X k k' n m n' m' As As' Af Af' cs cs' cf cf') (by kernel_rfl) (holdPl H0.out (Below.refl _ _).drew) (fun hHeld=>?_);generalize w.drew=wd at hHeld ⊢;refine wt 0 ?r501;refine wt 1 ?r502;refine wt 2 ?r503;refine wt 3 ?r504;refine wt 4 ?r505;refine wt 5 ?r506;refine wt 6 ?r507;refine wt 7 ?r508;refine wt 8 ?r509;refine wt 9 ?r510;refine wt 10 ?r511;refine wt 11 ?r512;refine wt 12 ?r513;refine wt 13 ?r514;refine wt 14 ?r515;refine wt 15 ?r516;refine wt 16 ?r517;refine wt 17 ?r518;refine wt 18 ?r519;refine wt 19 ?r520;refine wt 20 ?r521;refine wu 21 ?r522;refine wu 22 ?r523;refine wu 23 ?r524;refine wu 24 ?r525;refine wu 25 ?r526;refine wu 26 ?r527;refine wu 27 ?r528;refine wu 28 ?r529;refine wu 29 ?r530;refine wt 30 ?r531;refine wt 31 ?r532;refine wu 32 ?r533;refine wu 33 ?r534;refine wu 34 ?r535;refine wu 35 ?r536;refine wu 36 ?r537;refine wu 37 ?r538;refine wu 38 ?r539;refine wu 39 ?r540;refine wu 40 ?r541;refine wt 41 ?r542;refine wt 42 ?r543;refine wpAnyH_done (by kernel_rfl) ?_ _;refine NoPanic.normal ?_;have FB:=hid (HoldPl.below hHeld);clear hHeld;go_wp2_with fail
 go_ret;first | exact⟨rfl,FB.out⟩ | exact FB.out
set_option maxRecDepth 100000 in
set_option maxHeartbeats 4000000 in
theorem plsame_size (fb cs cf fb' cs' cf':Nat) (X X':ByteArray) (k k':Int) (sizes sizes':List Nat) (fs gs:List FunM) (As Af As' Af':Option Addr) (w:World) (H:FileR w fb X k sizes fs As Af cs cf) (H':FileR w fb' X' k' sizes' gs As' Af' cs' cf') (hx:X=X') (hk:k=k') (hs:sizes≠sizes') (hn:sizes.length≤1000000) :
  Calls Tryz.prog 17 #[.pointer (some ⟨fb,0,none⟩),.pointer (some ⟨fb',0,none⟩)] w fun e w'=>e = .returned (.bool false)∧Below w.heap.size w w':=by
 subst hx hk;have H0:=hid (holdPl_of H H');have EQ:=hid (fun W (hb:Below w.heap.size w W)=>by
  have h:=equal_any As As' cs cs' sizes sizes' W hn (H.below hb).szs (H'.below hb).szs;rw [decide_eq_false hs] at h;exact h)
 clear hs hn;obtain⟨n,en⟩:∃ n,sizes.length=n:=⟨_,rfl⟩
 obtain⟨n',en'⟩:∃ n',sizes'.length=n':=⟨_,rfl⟩
 obtain⟨m,em⟩:∃ m,fs.length=m:=⟨_,rfl⟩
 obtain⟨m',em'⟩:∃ m',gs.length=m':=⟨_,rfl⟩
 rw [en,en',em,em'] at H0;rw [en,en'] at EQ;clear H H' en em en' em';have q1:=eql_ptr_nil fb w;have q2:=eql_ptr_nil fb' w;go_enter Tryz.func17,Tryz.ntmps17
 go_upto_region 3 with fail
 clear q1 q2;refine wp_region_noPanic ?_;refine wp_region_held_drew (S:=HoldPl w fb fb' X X k k n m n' m' As As' Af Af' cs cs' cf cf') (by kernel_rfl) (holdPl H0.out (Below.refl _ _).drew) (fun hHeld=>?_);generalize w.drew=wd at hHeld ⊢;refine wt 0 ?r701;refine wt 1 ?r702;refine wt 2 ?r703;refine wt 3 ?r704;refine wt 4 ?r705;refine wt 5 ?r706;refine wt 6 ?r707;refine wt 7 ?r708;refine wt 8 ?r709;refine wt 9 ?r710;refine wt 10 ?r711;refine wt 11 ?r712;refine wt 12 ?r713;refine wt 13 ?r714;refine wt 14 ?r715;refine wt 15 ?r716;refine wt 16 ?r717;refine wt 17 ?r718;refine wt 18 ?r719;refine wt 19 ?r720;refine wt 20 ?r721;refine wt 21 ?r722;refine wt 22 ?r723;refine wt 23 ?r724;refine wt 24 ?r725;refine wt 25 ?r726;refine wt 26 ?r727;refine wt 27 ?r728;refine wt 28 ?r729;refine wr1 29 (fun K hK=>?_);go_simp;refine (EQ.out _ (HoldPl.below hHeld)).mono ?_;rintro e wS ⟨rfl,hb⟩;refine hK.out _ _ (holdPl hHeld hb) (fun hHeld'=>?_);replace hHeld:=hHeld';clear hHeld';clear hb;clear hK K;try simp only [Act.put,pa,pb,pc,pd,pe,pf]
 refine wt 30 ?r730;refine wt 31 ?r731;refine wu 32 ?r732;refine wu 33 ?r733;refine wu 34 ?r734;refine wu 35 ?r735;refine wu 36 ?r736;refine wu 37 ?r737;refine wu 38 ?r738;refine wu 39 ?r739;refine wu 40 ?r740;refine wt 41 ?r741;refine wt 42 ?r742;refine wpAnyH_done (by kernel_rfl) ?_ _;refine NoPanic.normal ?_;have FB:=hid (HoldPl.below hHeld);clear hHeld;go_wp2_with fail
 go_ret;first | exact⟨rfl,FB.out⟩ | exact FB.out
end Go.Proofs.YtmokogkndbinlaaGreatDoor
namespace Go.Proofs.YtmokogkndbinlaaGreatDoor
open Go.Lib (hid)
open Go.RowKit Go.Shelf
theorem space_noword (Y:ByteArray):¬ WordX (Y++⟨#[32]⟩):=by
 intro h;have hl:(Y++⟨#[32]⟩:ByteArray).data.toList=Y.data.toList++[32]:=by simp
 have hs:(Y++⟨#[32]⟩:ByteArray).size=(Y.data.toList++[32]).length:=by rw [← hl];rfl
 unfold WordX at h;rw [hs,hl] at h;have hg:=(sub_good (Nat.zero_le _) h).1 32 (by
  unfold subL;rw [List.drop_zero,Nat.sub_zero,List.take_length];simp)
 exact absurd hg (by decide)
def awake8L:List UInt8:=[116,32,50,32,50,32,50,32,57,32,50,32,50,32,50,32,49,32,48,32,49,32,48,32,50,32,48,32,49,32,48,32,48]
def awake8F:FileM:=⟨(0,1),9,[2,2],[⟨[1,0],1,[]⟩,⟨[0,1],0,[]⟩]⟩
def awake8S:ByteArray:=⟨awake8L.toArray⟩
theorem awake8_file:fileM awake8L (-4611686018427387904) = .ok awake8F ⟨33,none⟩:=by kernel_rfl
theorem ris_two {s:List Nat}(h:s.Nodup) (hm:∀ x,x∈s↔x∈[0,1]):risL s=[0,1] :=
 rise_uniq (risL_lt h) (by simp) fun x=>by rw [risL_mem,hm]
theorem one_scope {l:List (List Nat)} (hp:l.Pairwise (·≠·)) {S:List Nat}(hm:∀ x,x∈l↔x=S):l=[S]:=by
 cases l with
 | nil=>exact absurd ((hm S).2 rfl) (by simp)
 | cons a l =>
  have ha:a=S:=(hm a).1 (by simp);subst ha;cases l with
  | nil=>rfl
  | cons b l =>
   have hb:b=a:=(hm b).1 (by simp);rw [List.pairwise_cons] at hp;exact absurd hb.symm (hp.1 b (by simp))
theorem awake8_can {cfs:List FunM}(h:CanF 9 [2,2] (partsM 9 [2,2] awake8F.funs) cfs):∃ c,cfs=[c]∧c.scope=[0,1]:=by
 have e0:risL [1,0]=[0,1]:=ris_two (by decide) (by intro x;simp;omega);have e1:risL [0,1]=[0,1]:=ris_two (by decide) (by intro x;simp);have hs:cfs.map (·.scope)=[[0,1]]:=by
  refine one_scope h.scopes fun S=>?_;have hm:=h.can.mem S;rw [List.map_map] at hm;constructor
  ·intro hS
   obtain⟨⟨p,hp,e⟩,_⟩:=hm.1 hS;obtain⟨f,hf,rfl⟩:=List.mem_map.1 hp;have hf:f=⟨[1,0],1,[]⟩∨f=⟨[0,1],0,[]⟩:=by simpa [awake8F] using hf
   rcases hf with rfl | rfl
   ·rw [← e];exact e0
   rw [← e];exact e1
  rintro rfl;refine hm.2 ⟨⟨risM [2,2] [0,1] (funF 9 ⟨[0,1],0,[]⟩),List.mem_map.2 ⟨⟨[0,1],0,[]⟩,by simp [awake8F],rfl⟩,e1⟩,0,by show 0 < prodL [2,2];decide,?_⟩;unfold grpM;have e2:partsM 9 [2,2] awake8F.funs=[risM [2,2] [1,0] (funF 9 ⟨[1,0],1,[]⟩),risM [2,2] [0,1] (funF 9 ⟨[0,1],0,[]⟩)]:=rfl;rw [e2,grpS_cons,grpS_cons,grpS_nil,if_pos (show (risM [2,2] [1,0] (funF 9 ⟨[1,0],1,[]⟩)).scope=[0,1] from e0),if_pos (show (risM [2,2] [0,1] (funF 9 ⟨[0,1],0,[]⟩)).scope=[0,1] from e1)];have z0:∀ i,(risM [2,2] [1,0] (funF 9 ⟨[1,0],1,[]⟩)).z i=1:=fun i=>rfl;have z1:∀ i,(risM [2,2] [0,1] (funF 9 ⟨[0,1],0,[]⟩)).z i=0:=fun i=>rfl;rw [z0,z1];decide
 cases cfs with
 | nil=>simp at hs
 | cons c cfs =>
  cases cfs with
  | nil=>exact⟨c,rfl,by simpa using hs⟩
  | cons d cfs=>simp at hs
set_option maxRecDepth 100000 in
set_option maxHeartbeats 4000000 in
theorem awake8_ok (w:World) (hG:GlobR w) (hT:TabP w):Calls Tryz.prog 13 #[] w fun e w'=>e = .returned (.bool true)∧Below w.heap.size w w':=by
 have hcs:=Lib.run_convert_bytes_const (P:=Tryz.prog) w 22 5 #[.int .u8 116,.int .u8 32,.int .u8 50,.int .u8 32,.int .u8 50,.int .u8 32,.int .u8 50,.int .u8 32,.int .u8 57,.int .u8 32,.int .u8 50,.int .u8 32,.int .u8 50,.int .u8 32,.int .u8 50,.int .u8 32,.int .u8 49,.int .u8 32,.int .u8 48,.int .u8 32,.int .u8 49,.int .u8 32,.int .u8 48,.int .u8 32,.int .u8 50,.int .u8 32,.int .u8 48,.int .u8 32,.int .u8 49,.int .u8 32,.int .u8 48,.int .u8 32,.int .u8 48] 33 33 Tryz.underlying22 Tryz.underlying5;have n0:=hid (new_val w (.cells (awake8L.map fun c=>Value.int .u8 (c.toNat:Int)).toArray 5 (33,34)));have BY:Hid (BS (w.alloc (.cells (awake8L.map fun c=>Value.int .u8 (c.toNat:Int)).toArray 5 (33,34))) (some ⟨w.heap.size,0,none⟩) awake8S):=hid (.inr ⟨_,0,rfl,by simp,fun i hi=>by
  rw [cell_of_row _ _ _ _ _ _ (heap_alloc_new w _)];have hi':i < awake8L.length:=hi;rw [Nat.zero_add];show ((awake8L.map fun c=>Value.int .u8 (c.toNat:Int)).toArray)[i]? = some (.int .u8 ((awake8L.toArray[i]'(by simpa using hi')).toNat:Int));simp [hi']⟩)
 have RD:=hid (readR_ok (c:=33) (by decide) BY.out (hG.below n0.out) (tab_below hT n0.out) (F:=awake8F) awake8_file rfl);have RR:Hid (RightF (awake8S.extract awake8F.name.1 awake8F.name.2) awake8F.top awake8F.sizes awake8F.funs):=hid (rightF_of (s:=awake8S) awake8_file rfl (by decide));rw [show awake8S.size=33 from rfl] at RD;have RD:Hid (Calls Tryz.prog 22 #[.slice (some ⟨w.heap.size,0,none⟩) 33 33] (w.alloc (.cells (awake8L.map fun c=>Value.int .u8 (c.toNat:Int)).toArray 5 (33,34))) fun e w'=>∃ fb As Af cs cf,e = .returned (.tuple #[.pointer (some ⟨fb,0,none⟩),.int .i64 33,.int .i64 0])∧FileR w' fb (awake8S.extract awake8F.name.1 awake8F.name.2) awake8F.top awake8F.sizes awake8F.funs As Af cs cf∧Below (w.alloc (.cells (awake8L.map fun c=>Value.int .u8 (c.toNat:Int)).toArray 5 (33,34))).heap.size (w.alloc (.cells (awake8L.map fun c=>Value.int .u8 (c.toNat:Int)).toArray 5 (33,34))) w'):=RD;have eL:(awake8L.map fun c=>Value.int .u8 (c.toNat:Int)).toArray=#[.int .u8 116,.int .u8 32,.int .u8 50,.int .u8 32,.int .u8 50,.int .u8 32,.int .u8 50,.int .u8 32,.int .u8 57,.int .u8 32,.int .u8 50,.int .u8 32,.int .u8 50,.int .u8 32,.int .u8 50,.int .u8 32,.int .u8 49,.int .u8 32,.int .u8 48,.int .u8 32,.int .u8 49,.int .u8 32,.int .u8 48,.int .u8 32,.int .u8 50,.int .u8 32,.int .u8 48,.int .u8 32,.int .u8 49,.int .u8 32,.int .u8 48,.int .u8 32,.int .u8 48]:=by rfl
 rw [eL] at n0 RD;clear hG hT BY eL;go_enter Tryz.func13,Tryz.ntmps13
 go_upto_region 2 with (first | (go_at_call 22;refine RD.out.mono ?_;rintro e w2 ⟨fb,As,Af,cs,cf,rfl,hf2,hb2⟩;have B2:=hid (then_ n0.out hb2);have F2:=hid hf2;clear hf2 hb2) | fail)
 clear hcs;go_upto_region 5 with (first | (go_at_call 23;refine (canon_ok fb cs cf _ _ _ _ As Af w2 F2.out RR.out).mono ?_;rintro e w3 ⟨⟨cb,A,c,fv,us,cfs,rfl,hCA,hCF⟩,hb3⟩;have B3:=hid (B2.out.trans (hb3.mono B2.out.size));have CA:=hid hCA;have CF:=hid hCF;clear hb3 hCA hCF) | fail)
 obtain⟨d,rfl,hsc⟩:=awake8_can CF.out;obtain⟨Ag,cg,hFR⟩:=CA.out.r;obtain⟨-,-,-,c3⟩:=hFR.cells;obtain⟨gf,sv,tv,rfl,hgf,k0,k1,hFE⟩:=hFR.funs 0 d rfl;obtain⟨A8,c8,g8,b8,A9,c9,N9,rfl,hcap,rfl,hI,-⟩:=hFE;rw [hsc] at hI hcap k0;have EQ:=hid (fun W A2 c2 (h1:Below w3.heap.size w3 W) (h2:Ints W A2 [0,1])=>eqz_yes A8 A2 2 c8 c2 (fun i=>((nth [0,1] i:Nat):Int)) W (by omega) (hI.below h1 (Nat.le_refl _)).zs h2.zs);have I2:=hid (ints_two w3 0 1);have n3:=new_val w3 (.cells #[.int .i64 0,.int .i64 1] 3);have N3:=hid n3;clear hFR hI hgf k1 n3 hcap;have c3:w3.cell? ⟨cb,3,none⟩=some (.slice (some ⟨gf,0,none⟩) 1 cg):=c3;have k0:w3.cell? ⟨gf,0,none⟩=some (.slice A8 2 c8):=k0;go_wp2_with (first | (go_at_call 25;refine (EQ.out _ _ _ N3.out I2.out).mono ?_;rintro e w5 ⟨rfl,hb5⟩) | fail)
 go_ret;exact⟨rfl,B3.out.trans ((then_ N3.out hb5).mono B3.out.size)⟩
open Go.RowKit
structure DrV where
 l:Value
 en:Int
 ee:Int
 bad:Int
 badAt:Int
 big:Int
 bigAt:Int
 lines:Int
 shared:Value
def drC (v:DrV):Array Value:=#[v.l,.int .i64 v.en,.int .i64 v.ee,.int .i64 v.bad,.int .i64 v.badAt,.int .i64 v.big,.int .i64 v.bigAt,.int .i64 v.lines,v.shared]
def DrAt (W:World) (b:Nat) (v:DrV):Prop:=W.heap[b]? = some (.cells (drC v) 171 (0,0))
theorem DrAt.lt {W:World}{b:Nat}{v:DrV}(h:DrAt W b v):b < W.heap.size:=(Array.getElem?_eq_some_iff.1 h).1
theorem DrAt.cell {W:World}{b:Nat}{v:DrV}(h:DrAt W b v) {i:Nat}{u:Value}(hi:(drC v)[i]? = some u):W.cell? ⟨b,i,none⟩=some u:=by rw [cell_of_row _ _ _ _ _ _ h];exact hi
theorem DrAt.frozen {W:World}{b:Nat}{v:DrV}(h:DrAt W b v) (i:Nat):W.frozen? ⟨b,i,none⟩=false:=frozen_of_row _ _ _ _ _ h
abbrev Gr (W W':World) (b:Nat):Prop:=W.grownBy W' (some b)
theorem Gr.refl (W:World) (b:Nat):Gr W W b:=⟨rfl,rfl,rfl,Nat.le_refl _,fun _ _ _=>rfl⟩
theorem Gr.trans {X Y Z:World}{b:Nat}(h:Gr X Y b) (k:Gr Y Z b):Gr X Z b:=sgrown_then h k
def wrV (e p:Int) (v:DrV):DrV:=if v.bad=0 then { v with bad:=e,badAt:=p } else v
def lgV (is:Bool) (p:Int) (v:DrV):DrV:=if is=true∧v.big=0∧v.bad=0 then { v with big:=5,bigAt:=p } else v
theorem wrong7 (b:Nat) (e p:Int) (v:DrV) (w:World) (h:DrAt w b v) :
  Calls Tryz.prog 115 #[.pointer (some ⟨b,0,none⟩),.int .i64 e,.int .i64 p] w fun e' w'=>(∃ u,e' = .returned u)∧DrAt w' b (wrV e p v)∧Gr w w' b:=by
 have HH:=hid h;have c3:w.cell? ⟨b,3,none⟩=some (.int .i64 v.bad):=h.cell (i:=3) rfl;have c4:w.cell? ⟨b,4,none⟩=some (.int .i64 v.badAt):=h.cell (i:=4) rfl;have f3:=h.frozen 3;have f4:=h.frozen 4;clear h;by_cases hb:v.bad=0
 ·have d:(v.bad == 0)=true:=by simpa using hb
  have HB:=hid hb;clear hb;go_enter Tryz.func115,Tryz.ntmps115
  go_wp2_with fail
  go_end0
  refine⟨⟨_,rfl⟩,?_,(grown_put w b 3 (.int .i64 e)).trans (grown_put (w.setCell ⟨b,3,none⟩ (.int .i64 e)) b 4 (.int .i64 p))⟩;have r1:=heap_setCell_same w b 3 _ _ (.int .i64 e) HH.out;have r2:=heap_setCell_same (w.setCell ⟨b,3,none⟩ (.int .i64 e)) b 4 _ _ (.int .i64 p) r1;unfold wrV;rw [if_pos HB.out];exact r2
 have d:(v.bad == 0)=false:=by simpa using hb
 have HB:=hid hb;clear hb;go_enter Tryz.func115,Tryz.ntmps115
 go_wp2_with fail
 go_end0
 refine⟨⟨_,rfl⟩,?_,Gr.refl _ _⟩;unfold wrV;rw [if_neg HB.out];exact HH.out
theorem large7 (b:Nat) (is:Bool) (p:Int) (v:DrV) (w:World) (h:DrAt w b v) :
  Calls Tryz.prog 112 #[.pointer (some ⟨b,0,none⟩),.bool is,.int .i64 p] w fun e' w'=>(∃ u,e' = .returned u)∧DrAt w' b (lgV is p v)∧Gr w w' b:=by
 have HH:=hid h;have c3:w.cell? ⟨b,3,none⟩=some (.int .i64 v.bad):=h.cell (i:=3) rfl;have c5:w.cell? ⟨b,5,none⟩=some (.int .i64 v.big):=h.cell (i:=5) rfl;have f5:=h.frozen 5;have f6:=h.frozen 6;have c6:w.cell? ⟨b,6,none⟩=some (.int .i64 v.bigAt):=h.cell (i:=6) rfl;clear h;cases is with
 | false =>
  go_enter Tryz.func112,Tryz.ntmps112
  go_wp2_with fail
  go_end0
  refine⟨⟨_,rfl⟩,?_,Gr.refl _ _⟩;unfold lgV;rw [if_neg (by simp)];exact HH.out
 | true =>
  by_cases hg:v.big=0
  ·have d:(v.big == 0)=true:=by simpa using hg
   have HG:=hid hg;clear hg;by_cases hb:v.bad=0
   ·have d:(v.bad == 0)=true:=by simpa using hb
    have HB:=hid hb;clear hb;go_enter Tryz.func112,Tryz.ntmps112
    go_wp2_with fail
    go_end0
    refine⟨⟨_,rfl⟩,?_,(grown_put w b 5 (.int .i64 5)).trans (grown_put (w.setCell ⟨b,5,none⟩ (.int .i64 5)) b 6 (.int .i64 p))⟩;have r1:=heap_setCell_same w b 5 _ _ (.int .i64 5) HH.out;have r2:=heap_setCell_same (w.setCell ⟨b,5,none⟩ (.int .i64 5)) b 6 _ _ (.int .i64 p) r1;unfold lgV;rw [if_pos ⟨rfl,HG.out,HB.out⟩];exact r2
   have d:(v.bad == 0)=false:=by simpa using hb
   have HB:=hid hb;clear hb;go_enter Tryz.func112,Tryz.ntmps112
   go_wp2_with fail
   go_end0
   refine⟨⟨_,rfl⟩,?_,Gr.refl _ _⟩;unfold lgV;rw [if_neg (by have:=HB.out;simp [this])];exact HH.out
  have d:(v.big == 0)=false:=by simpa using hg
  have HG:=hid hg;clear hg;go_enter Tryz.func112,Tryz.ntmps112
  go_wp2_with fail
  go_end0
  refine⟨⟨_,rfl⟩,?_,Gr.refl _ _⟩;unfold lgV;rw [if_neg (by have:=HG.out;simp [this])];exact HH.out
def WL (W:World) (b:Nat) (v:Value) (s:ByteArray) (ws:List (Nat × Nat)):Prop :=
 ∃ A c,v = .slice A ws.length c∧ws.length≤c∧(ws=[]∨∃ g o cur fr,A=some ⟨g,o,none⟩∧W.heap[g]? = some (.cells cur 173 fr)∧g≠b ∧
  ∀ j x,ws[j]? = some x→W.cell? ⟨g,o+j * 2,none⟩=some (.string (s.extract x.1 x.2))∧W.cell? ⟨g,o+j * 2+1,none⟩=some (.int .i64 (x.1:Int)))
structure KeepD (W W':World):Prop where
 word:∀ (g:Nat) (cur:Array Value) (fr:Nat × Nat),W.heap[g]? = some (.cells cur 173 fr)→W'.heap[g]? = W.heap[g]?
 ints:∀ (g:Nat) (cur:Array Value) (fr:Nat × Nat),W.heap[g]? = some (.cells cur 2 fr)→W'.heap[g]? = W.heap[g]?
 line:∀ (g:Nat) (cur:Array Value) (fr:Nat × Nat),W.heap[g]? = some (.cells cur 117 fr)→W'.heap[g]? = W.heap[g]?
theorem KeepD.trans {X Y Z:World}(h:KeepD X Y) (k:KeepD Y Z):KeepD X Z :=
 ⟨fun g cur fr e=>(k.word g cur fr ((h.word g cur fr e).trans e)).trans (h.word g cur fr e),fun g cur fr e=>(k.ints g cur fr ((h.ints g cur fr e).trans e)).trans (h.ints g cur fr e),fun g cur fr e=>(k.line g cur fr ((h.line g cur fr e).trans e)).trans (h.line g cur fr e)⟩
theorem KeepD.below {W W':World}(h:Below W.heap.size W W'):KeepD W W' :=
 ⟨fun g _ _ e=>h.block g (Array.getElem?_eq_some_iff.1 e).1,fun g _ _ e=>h.block g (Array.getElem?_eq_some_iff.1 e).1,fun g _ _ e=>h.block g (Array.getElem?_eq_some_iff.1 e).1⟩
theorem KeepD.typed {W W':World}{p:Option Nat}{t:TypeId}(hg:W.grownBy W' p) (hp:∀ g,p=some g→∃ cur fr,W.heap[g]? = some (.cells cur t fr)) (h1:t≠173) (h2:t≠2) (h3:t≠117):KeepD W W':=by
 have key:∀ (g:Nat) (cur:Array Value) (t':TypeId) (fr:Nat × Nat),t≠t'→W.heap[g]? = some (.cells cur t' fr)→W'.heap[g]? = W.heap[g]?:=fun g cur t' fr hne h=>by
  refine hg.block g (Array.getElem?_eq_some_iff.1 h).1 (fun e=>?_);obtain⟨cur',fr',h3⟩:=hp g e.symm;rw [h] at h3;injection h3 with h3;injection h3 with _ h4;exact hne h4.symm
 exact⟨fun g cur fr=>key g cur _ fr h1,fun g cur fr=>key g cur _ fr h2,fun g cur fr=>key g cur _ fr h3⟩
theorem KeepD.dr {W W':World}{b:Nat}{v:DrV}(h:DrAt W b v) (hg:Gr W W' b):KeepD W W' :=
 KeepD.typed hg (fun g e=>by injection e with e;subst e;exact⟨_,_,h⟩) (by decide) (by decide) (by decide)
theorem WL.keep {W W':World}{b:Nat}{v:Value}{s:ByteArray}{ws:List (Nat × Nat)} (h:WL W b v s ws) (hk:KeepD W W'):WL W' b v s ws:=by
 obtain⟨A,c,e,hc,h⟩:=h;refine⟨A,c,e,hc,?_⟩;rcases h with h | ⟨g,o,cur,fr,e2,h1,h2,h3⟩
 ·exact .inl h
 have:=hk.word g cur fr h1;exact .inr ⟨g,o,cur,fr,e2,this.trans h1,h2,fun j x hx=>⟨(World.cell?_of_block (a:=⟨g,o+j * 2,none⟩) this).trans (h3 j x hx).1,(World.cell?_of_block (a:=⟨g,o+j * 2+1,none⟩) this).trans (h3 j x hx).2⟩⟩
def BigD (v:DrV):Option Nat→Prop
 | none=>v.big=0
 | some p=>v.big=5∧v.bigAt=(p:Int)
def EndD (v:DrV) (n:Nat):Option Nat→Prop
 | none=>v.en=(n:Int)∧v.ee=4
 | some p=>v.en=(p:Int)∧v.ee=11
structure DrOk (W:World) (b:Nat) (s:ByteArray) (st:RdS) (v:DrV):Prop where
 at_:DrAt W b v
 fine:v.bad=0
 le:st.k≤s.size
 fits:s.size≤100000
 big:BigD v st.big
 words:WL W b v.l s (wordsL s.data.toList st.k).1
 fin:EndD v s.size (wordsL s.data.toList st.k).2
structure DrBad (W:World) (b:Nat) (e p:Nat) (v:DrV):Prop where
 at_:DrAt W b v
 fe:v.bad=(e:Int)
 fp:v.badAt=(p:Int)
 ne:e≠0
theorem DrBad.bad {W:World}{b e p:Nat}{v:DrV}(h:DrBad W b e p v):¬ v.bad=0:=by have:=h.fe;have:=h.ne;omega
end Go.Proofs.YtmokogkndbinlaaGreatDoor
