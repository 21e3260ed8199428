import Derived.Maps.RangeWalk
import Derived.Maps.Ext
import Derived.DeepKeys4
import Derived.WideKeyArr2
import Derived.Laws.ResultCell
import Derived.Lib.OwnKind
import Derived.Test.YtmokogkndbinlaaGreatDoorZhan
set_option linter.all false
namespace Go.Proofs.YtmokogkndbinlaaGreatDoor
open Go.Lib (hid)
open Go.RowKit Go.Maps Go.WideMaps Go.ChangeShapes
theorem laidOutU:laidOutB Tryz.prog=true:=by kernel_rfl
theorem rowKey:(139:TypeId) < Tryz.prog.types.size:=of_decide_eq_true (by kernel_rfl)
theorem wideKey:(match Tryz.prog.underlying 139 with | some (.array _ _) | some (.struct _)=>true | _=>false)=true:=by kernel_rfl
set_option maxRecDepth 100000 in
theorem keyLaw:KeyLaw Tryz.prog 139:=deep_law_laid laidOutU (m:=2) (by omega) rowKey (by kernel_rfl) wideKey
theorem keyed:Keyed Tryz.prog 139:=Keyed.of_law keyLaw
theorem zeroI64 (w:World):(zeroValue 2).run Tryz.prog w = .ok (.int .i64 0) w:=by kernel_rfl
abbrev keyV (t:List Nat):Value:=.agg #[szV t 0,szV t 1,szV t 2,szV t 3,szV t 4,szV t 5]
def keyLits (t:List Nat):List Lit:=[.int .i64 (nth t 0:Int),.int .i64 (nth t 1:Int),.int .i64 (nth t 2:Int),.int .i64 (nth t 3:Int),.int .i64 (nth t 4:Int),.int .i64 (nth t 5:Int)]
def keyL (t:List Nat):Lit:=.string (keyBytes (keyLits t))
theorem wf_small {n:Nat}(h:n≤1000):(Lit.int .i64 (n:Int)).wf=true:=WalkArith.wf_i64 (by omega)
theorem cellsKey:Tryz.prog.cellsOf 139=6:=by kernel_rfl
theorem cellsInt:Tryz.prog.cellsOf 3=1:=by kernel_rfl
theorem keyTypeKey:Tryz.prog.keyType 139=true:=by kernel_rfl
theorem typesKey:Tryz.prog.types.size=(Tryz.prog.types.size - 2)+2:=by kernel_rfl
theorem keyOf_key {t:List Nat}(h:∀ i,nth t i≤1000):keyOf Tryz.prog 139 (keyV t)=some (keyL t):=by
 have hw:∀ i,(Lit.int .i64 (nth t i:Int)).wf=true:=fun i=>wf_small (h i);have hl:Tryz.prog.keyLits (Tryz.prog.types.size+1) 139 [szV t 0,szV t 1,szV t 2,szV t 3,szV t 4,szV t 5]=some (keyLits t):=by
  rw [typesKey];generalize Tryz.prog.types.size - 2=m;unfold Program.keyLits;rw [Tryz.underlying139];simp only [cellsKey,cellsInt];unfold Program.keyLits;rw [Tryz.underlying3];simp [List.range_succ,hw,keyLits]
 unfold keyOf;rw [Tryz.underlying139];simp only [keyTypeKey,Value.formed,Tryz.underlying139,cellsKey,Value.cells];rw [hl];rfl
end Go.Proofs.YtmokogkndbinlaaGreatDoor
namespace Go.Proofs.YtmokogkndbinlaaGreatDoor
open Go.RowKit Go.Maps Go.WideMaps Go.ChangeShapes
theorem InL.small {l t:List Nat}(h:InL l t) (h32:∀ n∈l,n≤32):∀ i,nth t i≤1000:=by
 intro i;by_cases hi:i < t.length
 ·have h2:=(inL_iff.1 h).2 i (by rw [← h.length];exact hi)
  have:=h32 _ (nth_mem (l:=l) (i:=i) (by rw [← h.length];exact hi));omega
 rw [nth_far (by omega)];omega
theorem keyV_inj {s t:List Nat}(hl:s.length=t.length) (h6:s.length≤6) (h:keyV s=keyV t):s=t:=by
 have h':=h;simp only [keyV,szV,Value.agg.injEq,Array.mk.injEq,List.cons.injEq,Value.int.injEq,true_and,and_true] at h';obtain⟨h0,h1,h2,h3,h4,h5⟩:=h';refine nth_eq hl fun i hi=>?_;rcases (by omega:i=0∨i=1∨i=2∨i=3∨i=4∨i=5) with rfl | rfl | rfl | rfl | rfl | rfl <;> omega
theorem keyL_inj {l s t:List Nat}(h6:l.length≤6) (h32:∀ n∈l,n≤32) (hs:InL l s) (ht:InL l t) (h:keyL s=keyL t):s=t :=
 keyV_inj (by rw [hs.length,ht.length]) (by rw [hs.length];exact h6) (keyed.inj (keyOf_key (hs.small h32)) (h ▸ keyOf_key (ht.small h32)))
theorem keyL_isKey (t:List Nat):WideAt.IsKeyLit (keyL t):=trivial
def RepF (D:DataW Unit) (l:List Nat) (o:Int) (f:List Nat→Int):Prop :=
 (∀ t,InL l t→Maps.has D (keyL t)=decide (f t≠o)∧(f t≠o→∀ z,D.atKey (keyL t) z = .lit (.int .i64 (f t))))∧∀ k,Maps.has D k=true→∃ t,InL l t∧k=keyL t
def updF (f:List Nat→Int) (t:List Nat) (c:Int):List Nat→Int:=fun s=>if s=t then c else f s
theorem repF_empty (l:List Nat) (o:Int):RepF (.map []) l o (fun _=>o) :=
 ⟨fun t ht=>⟨by simp [Maps.has],fun h=>absurd rfl h⟩,fun k h=>by simp [Maps.has] at h⟩
theorem RepF.put {D:DataW Unit}{l t:List Nat}{o c:Int}{f:List Nat→Int}(H:RepF D l o f) (hD:IsMap D) (h6:l.length≤6) (h32:∀ n∈l,n≤32) (ht:InL l t) (hc:c≠o):RepF (D.put (keyL t) (.lit (.int .i64 c))) l o (updF f t c):=by
 refine⟨fun s hs=>?_,fun k hk=>?_⟩
 ·by_cases e:s=t
  ·subst e
   have eu:updF f s c s=c:=if_pos rfl;rw [eu];exact⟨by rw [has_put_same hD (keyL_isKey s)];simp [hc],fun _ z=>atKey_put_same hD (keyL_isKey s) _ _⟩
  have eu:updF f t c s=f s:=if_neg e;have hne:keyL s≠keyL t:=fun h=>e (keyL_inj h6 h32 hs ht h);rw [eu,has_put_other hne];exact⟨(H.1 s hs).1,fun h z=>by rw [atKey_put_other hne];exact (H.1 s hs).2 h z⟩
 by_cases e:k=keyL t
 ·exact⟨t,ht,e⟩
 rw [has_put_other e] at hk;exact H.2 k hk
theorem RepF.del {D:DataW Unit}{l t:List Nat}{o:Int}{f:List Nat→Int}(H:RepF D l o f) (hD:IsMap D) (h6:l.length≤6) (h32:∀ n∈l,n≤32) (ht:InL l t):RepF (D.del (keyL t)) l o (updF f t o):=by
 refine⟨fun s hs=>?_,fun k hk=>?_⟩
 ·by_cases e:s=t
  ·subst e
   have eu:updF f s o s=o:=if_pos rfl;rw [eu];exact⟨by rw [has_del_same];simp,fun h=>absurd rfl h⟩
  have eu:updF f t o s=f s:=if_neg e;have hne:keyL s≠keyL t:=fun h=>e (keyL_inj h6 h32 hs ht h);rw [eu,has_del_other hne];exact⟨(H.1 s hs).1,fun h z=>by rw [atKey_del_other hne];exact (H.1 s hs).2 h z⟩
 by_cases e:k=keyL t
 ·rw [e,has_del_same] at hk
  cases hk
 rw [has_del_other e] at hk;exact H.2 k hk
structure TpAt (w:World) (g b:Nat) (A:Option Addr) (c N:Nat) (l:List Nat) (k o:Int) (f:List Nat→Int):Prop where
 row:w.heap[g]? = some (.cells #[.slice A l.length c,.int .i64 k,.int .i64 o,.map (some b)] 138 (0,0))
 ints:Ints w A l
 cap:l.length≤c
 map:∃ D:DataW Unit,w.ownsMap Tryz.prog 139 (plainElem Tryz.prog 2) b N D∧RepF D l o f
theorem TpAt.below {w w':World}{g b:Nat}{A:Option Addr}{c N:Nat}{l:List Nat}{k o:Int}{f:List Nat→Int}(H:TpAt w g b A c N l k o f) (hb:Below w.heap.size w w'):TpAt w' g b A c N l k o f:=by
 obtain⟨D,hm,hr⟩:=H.map;refine⟨(hb.block g (Array.getElem?_eq_some_iff.1 H.row).1).trans H.row,H.ints.below hb (Nat.le_refl _),H.cap,D,hm.kept (grown_of_below hb) (by simp),hr⟩
theorem TpAt.cells {w:World}{g b:Nat}{A:Option Addr}{c N:Nat}{l:List Nat}{k o:Int}{f:List Nat→Int}(H:TpAt w g b A c N l k o f) :
  w.cell? ⟨g,0,none⟩=some (.slice A l.length c)∧w.cell? ⟨g,1,none⟩=some (.int .i64 k)∧w.cell? ⟨g,2,none⟩=some (.int .i64 o)∧w.cell? ⟨g,3,none⟩=some (.map (some b)):=by
 refine⟨?_,?_,?_,?_⟩ <;> (rw [cell_of_row _ _ _ _ _ _ H.row];rfl)
theorem TpAt.lt {w:World}{g b:Nat}{A:Option Addr}{c N:Nat}{l:List Nat}{k o:Int}{f:List Nat→Int}(H:TpAt w g b A c N l k o f):b < w.heap.size:=by
 obtain⟨D,hm,hr⟩:=H.map;exact hm.lt
theorem TpAt.apart {w:World}{g b:Nat}{A:Option Addr}{c N:Nat}{l:List Nat}{k o:Int}{f:List Nat→Int}(H:TpAt w g b A c N l k o f):g≠b:=by
 rintro rfl;obtain⟨D,⟨es,clock,hm,_⟩,hr⟩:=H.map;have:=H.row.symm.trans hm;simp at this
end Go.Proofs.YtmokogkndbinlaaGreatDoor
namespace Go.Proofs.YtmokogkndbinlaaGreatDoor
open Go.RowKit Go.Maps
theorem Own.grown {w w':World}{base:Nat}{v:Value}{l:List Nat}{row:Option Nat}(h:Own w base v l) (hg:w.grownBy w' row) (hne:v.ownBlock=none∨v.ownBlock≠row):Own w' base v l:=World.ownsRow.kept h hg hne
theorem clone_any' (A:Option Addr) (n c:Nat) (l:List Nat) (w:World) (hn:n=l.length) (hl:l.length≤1000000) (hw:Ints w A l) :
  Calls Tryz.prog 35 #[.slice A n c] w fun e w'=>(∃ v,e = .returned v∧Own w' w.heap.size v l)∧Below w.heap.size w w':=by
 subst hn;exact clone_any A c l w hl hw
theorem ints_grown {X Y:World}{g:Nat}{A:Option Addr}{l:List Nat}(h:Ints X A l) (hg:X.grownBy Y (some g)) (hne:∀ a:Addr,A=some a→a.block≠g):Ints Y A l:=by
 rcases h with h | ⟨g',o,rfl,hlt,hc⟩
 ·exact .inl h
 exact .inr ⟨g',o,rfl,Nat.lt_of_lt_of_le hlt hg.size,fun i hi=>World.grownBy.cell hg (hc i hi) (fun e=>hne _ rfl (by injection e))⟩
theorem right_yes (k:Int) (w:World) (h1:1≤k) (h2:k≤2147483648) :
  Calls Tryz.prog 122 #[.int .i64 k] w fun e w'=>e = .returned (.bool true)∧w=w':=by
 go_enter Tryz.func122,Tryz.ntmps122
 go_wp2
 go_ret;exact⟨rfl,rfl⟩
theorem in_yes (a k:Int) (w:World) (h1:1≤k) (h2:k≤2147483648) (h3:0≤a) (h4:a≤k) :
  Calls Tryz.prog 108 #[.int .i64 a,.int .i64 k] w fun e w'=>e = .returned (.bool true)∧w=w':=by
 go_enter Tryz.func108,Tryz.ntmps108
 go_wp2_with (go_at_call 122;refine (right_yes _ _ (by omega) (by omega)).mono ?_;rintro e w' ⟨rfl,rfl⟩)
 go_ret;exact⟨rfl,rfl⟩
theorem own_cap {w:World}{base n c:Nat}{A:Option Addr}{l:List Nat}(h:Own w base (.slice A n c) l):n≤c:=by
 obtain⟨_,⟨e,hn⟩ | ⟨g,cap,cur,e,_,_,hm,_⟩⟩:=h
 ·injection e with e1 e2 e3
  omega
 injection e with e1 e2 e3;omega
def InK (a k:Int):Prop:=1≤k∧k≤2147483648∧0≤a∧a≤k
open Go.RowKit
theorem wrong_noU (x:Int) (w:World) (h1:1≤x) (h2:x≤32):Calls Tryz.prog 155 #[.int .i64 x] w fun e w'=>e = .returned (.bool false)∧w=w':=by
 go_enter Tryz.func155,Tryz.ntmps155
 go_wp2
 go_ret;exact⟨ret_bool (by simp <;> omega),rfl⟩
theorem index_noneU (A:Option Addr) (n c:Nat) (z:Nat→Int) (w:World) (hn:n≤1000000) (hr:Zs w A n z) (hz:∀ i,i < n→1≤z i∧z i≤32) :
  Calls Tryz.prog 153 #[.slice A n c,.func (.func 155) #[] #[]] w fun e w'=>e = .returned (.int .i64 (-1))∧w=w':=by
 have HZ:=hid hz;have HR:=hid hr;clear hz hr;go_enter Tryz.func153,Tryz.ntmps153
 go_wp2_with fail
 go_loop [5,8] (fun _ i=>∃ j:Nat,j≤n∧i = .int .i64 j) (fun _ i=>n - (intOf i).toNat)
 case atStart=>exact⟨0,Nat.zero_le _,rfl⟩
 case round =>
  obtain⟨j,hj,rfl⟩:=hrel;by_cases hlt:j < n
  rotate_left
  ·go_wp2
   go_ret;exact⟨rfl,rfl⟩
  obtain⟨g,o,rfl,hcell⟩:=HR.out.at_ hlt;have hz:=HZ.out j hlt;generalize z j=x at hcell hz;obtain⟨hz1,hz2⟩:=hz;go_wp2_with (go_at_call 155;refine (wrong_noU _ _ hz1 hz2).mono ?_;rintro e w' ⟨rfl,rfl⟩)
  go_round
  case rel=>exact⟨j+1,by omega,by go_num⟩
  case measure=>simp [intOf];omega
theorem contains_noU (A:Option Addr) (n c:Nat) (z:Nat→Int) (w:World) (hn:n≤1000000) (hr:Zs w A n z) (hz:∀ i,i < n→1≤z i∧z i≤32) :
  Calls Tryz.prog 123 #[.slice A n c,.func (.func 155) #[] #[]] w fun e w'=>e = .returned (.bool false)∧w=w':=by
 have H:=hid (index_noneU A n c z w hn hr hz);clear hr hz;go_enter Tryz.func123,Tryz.ntmps123
 go_wp2_with (go_at_call 153;refine H.out.mono ?_;rintro e w' ⟨rfl,rfl⟩)
 go_ret;exact⟨rfl,rfl⟩
end Go.Proofs.YtmokogkndbinlaaGreatDoor
namespace Go.Proofs.YtmokogkndbinlaaGreatDoor
open Go.RowKit
abbrev kyC (t:List Nat):Array Value:=#[szV t 0,szV t 1,szV t 2,szV t 3,szV t 4,szV t 5]
abbrev kyZ:Array Value:=#[.int .i64 0,.int .i64 0,.int .i64 0,.int .i64 0,.int .i64 0,.int .i64 0]
theorem nth_take (t:List Nat) (j i:Nat):nth (t.take j) i=if i < j then nth t i else 0:=by
 unfold nth;simp only [List.getD_eq_getElem?_getD,List.getElem?_take];split <;> rfl
theorem kyC_set (t:List Nat) (j:Nat) (hj:j < 6):(kyC (t.take j)).setIfInBounds j (szV t j)=kyC (t.take (j+1)):=by
 simp only [kyC,szV,nth_take];rcases (by omega:j=0∨j=1∨j=2∨j=3∨j=4∨j=5) with rfl | rfl | rfl | rfl | rfl | rfl <;> simp
theorem ky_one (t:List Nat):(kyC t).all (·.oneCell')=true:=by simp [Value.oneCell']
theorem results_ky {fn:Func}{p q:Tmp}(h:fn.results=#[.cell p 139,.tmp q]) (tmps:Array Value) (w:World) (g:Nat) (t:List Nat)
  (hp:tmps.getD p undef = .pointer (some ⟨g,0,none⟩)) (hg:w.heap[g]? = some (.cells (kyC t) 139 (0,0))) :
  (results fn tmps).run Tryz.prog w = .ok (.tuple #[keyV t,tmps.getD q undef]) w:=by
 have c0:w.cell? ⟨g,0,none⟩=some (szV t 0):=by rw [cell_of_row _ _ _ _ _ _ hg];rfl
 have c1:w.cell? ⟨g,1,none⟩=some (szV t 1):=by rw [cell_of_row _ _ _ _ _ _ hg];rfl
 have c2:w.cell? ⟨g,2,none⟩=some (szV t 2):=by rw [cell_of_row _ _ _ _ _ _ hg];rfl
 have c3:w.cell? ⟨g,3,none⟩=some (szV t 3):=by rw [cell_of_row _ _ _ _ _ _ hg];rfl
 have c4:w.cell? ⟨g,4,none⟩=some (szV t 4):=by rw [cell_of_row _ _ _ _ _ _ hg];rfl
 have c5:w.cell? ⟨g,5,none⟩=some (szV t 5):=by rw [cell_of_row _ _ _ _ _ _ hg];rfl
 have hp':tmps[p]?.getD undef = .pointer (some ⟨g,0,none⟩):=by simpa using hp
 simp [results,h,hp',go_sem,c0,c1,c2,c3,c4,c5]
structure KeyI (w:World) (t:List Nat) (j:Nat) (W:World):Prop where
 res:W.heap[w.heap.size]? = some (.cells (kyC []) 139 (0,0))
 row:W.heap[w.heap.size+1]? = some (.cells (kyC (t.take j)) 139 (0,0))
 bel:Below w.heap.size w W
theorem KeyI.start (w:World) (t:List Nat):KeyI w t 0 ((w.alloc (.cells (kyC []) 139)).alloc (.cells (kyC []) 139)) :=
 ⟨((new_val (w.alloc (.cells (kyC []) 139)) (.cells (kyC []) 139)).block _ (by simp)).trans (heap_alloc_new w _),alloc_two w _ _,then_ (new_val w _) (new_val _ _)⟩
theorem KeyI.store {w W:World}{t:List Nat}{j:Nat}(H:KeyI w t j W) (hj:j < 6) :
  W.cell? ⟨w.heap.size+1,j,none⟩=some (szV (t.take j) j)∧W.frozen? ⟨w.heap.size+1,j,none⟩=false∧KeyI w t (j+1) (W.setCell ⟨w.heap.size+1,j,none⟩ (szV t j)):=by
 refine⟨?_,frozen_of_row W _ j _ 139 H.row,(heap_setCell_other W ⟨w.heap.size+1,j,none⟩ w.heap.size _ (by show w.heap.size≠w.heap.size+1;omega)).trans H.res,?_,?_⟩
 ·rw [cell_of_row _ _ _ _ _ _ H.row]
  rcases (by omega:j=0∨j=1∨j=2∨j=3∨j=4∨j=5) with rfl | rfl | rfl | rfl | rfl | rfl <;> rfl
 ·rw [heap_setCell_same W (w.heap.size+1) j _ 139 _ H.row,kyC_set t j hj]
 exact H.bel.grown (row:=some (w.heap.size+1)) (World.grownBy.mk rfl rfl rfl (by simp) (fun k _ hk=>heap_setCell_other W ⟨w.heap.size+1,j,none⟩ k _ (fun e=>hk (by simp [e])))) H.bel.size (fun b e=>by injection e with e;omega)
set_option maxRecDepth 100000 in
set_option maxHeartbeats 4000000 in
theorem keyof_any (g b N c n cb:Nat) (A B:Option Addr) (l:List Nat) (z:Nat→Int) (k o:Int) (f:List Nat→Int) (w:World) (H:TpAt w g b A c N l k o f) (hn:n=l.length) (h6:l.length≤6) (hr:Zs w B n z) (q:Nat) (hq:q≤n) (t:List Nat) (ht:t.length=n) (hz:∀ i,i < q→z i=(nth t i:Int)∧nth t i < nth l i) (hbad:q < n→z q < 0∨(nth l q:Int)≤z q) :
  Calls Tryz.prog 148 #[.pointer (some ⟨g,0,none⟩),.slice B n cb] w fun e w'=>e = .returned (.tuple #[if q < n then keyV [] else keyV t,.bool (decide (q=n))])∧Below w.heap.size w w':=by
 have n1:=new_val w (.cells kyZ 139);have HT:=hid H;have HR:=hid hr;have HZ:=hid hz;have HB:=hid hbad;have HTL:=hid ht;obtain⟨c0,c1,c2,c3⟩:=(H.below n1).cells;rw [← hn] at c0;have HN:=hid hn;have hn6:n≤6:=by omega
 have dn:((n:Int) != (n:Int))=false:=by simp
 clear H hr hz hbad ht c1 c2 c3 n1 h6;go_enter Tryz.func148,Tryz.ntmps148
 go_wp2_with fail
 have K0:=KeyI.start w t;go_loopw [7,8,20] (fun _ _ i wr=>∃ j:Nat,j≤q∧i = .int .i64 (j:Int)∧KeyI w t j wr) (fun _ _ i _=>n - (intOf i).toNat)
 case atStart=>exact⟨0,Nat.zero_le _,rfl,K0⟩
 case round =>
  obtain⟨j,hj,rfl,hK⟩:=hrel;have HK:=hid hK;clear hK;obtain⟨c0,c1,c2,c3⟩:=(HT.out.below HK.out.bel).cells;rw [← HN.out] at c0;clear c1 c2 c3;by_cases hlt:j < n
  ·obtain⟨gz,oz,rfl,hcell⟩:=(HR.out.below HK.out.bel (Nat.le_refl _)).at_ hlt
   obtain⟨gs,os,rfl,hsz⟩:=(HT.out.ints.below HK.out.bel (Nat.le_refl _)).at_ (i:=j) (by rw [← HN.out];exact hlt);have ji:(j:Int) < (n:Int):=by omega
   have j0:(0:Int)≤(j:Int):=by omega
   have j6:(j:Int) < 6:=by omega
   by_cases hjq:j < q
   ·obtain⟨e1,e2⟩:=HZ.out j hjq
    obtain⟨s1,s2,s3⟩:=HK.out.store (by omega:j < 6);have HS:=hid s3;rw [e1] at hcell;simp only [szV] at s1 HS;generalize nth t j=x at hcell e2 HS;generalize nth l j=y at hsz e2;generalize nth (t.take j) j=v at s1;have x0:¬ ((x:Int) < 0):=by omega
    have x1:¬ ((y:Int)≤(x:Int)):=by omega
    clear s3 e1;go_wp2_with fail
    go_roundw
    case rel=>exact⟨j+1,by omega,by go_num,HS.out⟩
    case measure=>simp [intOf];omega
   obtain rfl:j=q:=by omega
   have hb:=HB.out hlt;generalize z j=x at hcell hb;generalize nth l j=y at hsz hb;rcases (by omega:x < 0∨(0≤x∧(y:Int)≤x)) with x0 | ⟨x0,x1⟩
   ·clear hb
    go_wp2_with ((with_reducible show wpList _ _ _ (Oper.mk none (.store 139 _ _) _ _ _ _::_) _ _);refine wpList_store_row rfl 139 (.tmp 4) (.tmp 38) rfl w.heap.size kyZ rfl rfl 139 (kyC []) HK.out.res (by kernel_rfl) rfl (ky_one []) ?_)
    exact bodyPost_ret (results_ky rfl _ _ w.heap.size [] rfl (setRow_heap _ _ _ _ _ _ HK.out.res)) rfl ⟨by rw [show decide (j=l.length)=false from decide_eq_false (by have:=HN.out;omega)];rfl,below_setRow HK.out.bel (Nat.le_refl _) _⟩
   have x2:¬ (x < 0):=by omega
   clear hb;go_wp2_with ((with_reducible show wpList _ _ _ (Oper.mk none (.store 139 _ _) _ _ _ _::_) _ _);refine wpList_store_row rfl 139 (.tmp 4) (.tmp 38) rfl w.heap.size kyZ rfl rfl 139 (kyC []) HK.out.res (by kernel_rfl) rfl (ky_one []) ?_)
   exact bodyPost_ret (results_ky rfl _ _ w.heap.size [] rfl (setRow_heap _ _ _ _ _ _ HK.out.res)) rfl ⟨by rw [show decide (j=l.length)=false from decide_eq_false (by have:=HN.out;omega)];rfl,below_setRow HK.out.bel (Nat.le_refl _) _⟩
  obtain rfl:j=q:=by omega
  obtain rfl:j=n:=by omega
  have ji:¬ ((j:Int) < (j:Int)):=by omega
  have htk:t.take j=t:=List.take_of_length_le (by rw [HTL.out];omega);have hrow:=HK.out.row;rw [htk] at hrow;have y0:wr.cell? ⟨w.heap.size+1,0,none⟩=some (szV t 0):=by rw [cell_of_row _ _ _ _ _ _ hrow];rfl
  have y1:wr.cell? ⟨w.heap.size+1,1,none⟩=some (szV t 1):=by rw [cell_of_row _ _ _ _ _ _ hrow];rfl
  have y2:wr.cell? ⟨w.heap.size+1,2,none⟩=some (szV t 2):=by rw [cell_of_row _ _ _ _ _ _ hrow];rfl
  have y3:wr.cell? ⟨w.heap.size+1,3,none⟩=some (szV t 3):=by rw [cell_of_row _ _ _ _ _ _ hrow];rfl
  have y4:wr.cell? ⟨w.heap.size+1,4,none⟩=some (szV t 4):=by rw [cell_of_row _ _ _ _ _ _ hrow];rfl
  have y5:wr.cell? ⟨w.heap.size+1,5,none⟩=some (szV t 5):=by rw [cell_of_row _ _ _ _ _ _ hrow];rfl
  clear hrow htk;go_wp2_with ((with_reducible show wpList _ _ _ (Oper.mk none (.store 139 _ _) _ _ _ _::_) _ _);refine wpList_store_row rfl 139 (.tmp 4) (.tmp 43) rfl w.heap.size (kyC t) rfl rfl 139 (kyC []) HK.out.res (by kernel_rfl) rfl (ky_one t) ?_)
  exact bodyPost_ret (results_ky rfl _ _ w.heap.size t rfl (setRow_heap _ _ _ _ _ _ HK.out.res)) rfl ⟨by first | rfl | (rw [if_neg (by omega),decide_eq_true rfl];rfl),below_setRow HK.out.bel (Nat.le_refl _) _⟩
theorem keyof_ok (g b N c n cb:Nat) (A B:Option Addr) (l t:List Nat) (k o:Int) (f:List Nat→Int) (w:World) (H:TpAt w g b A c N l k o f) (hn:n=t.length) (h6:l.length≤6) (hr:Ints w B t) (hin:InL l t) :
  Calls Tryz.prog 148 #[.pointer (some ⟨g,0,none⟩),.slice B n cb] w fun e w'=>e = .returned (.tuple #[keyV t,.bool true])∧Below w.heap.size w w':=by
 have hl:=hin.length;have h:=keyof_any g b N c n cb A B l (fun i=>(nth t i:Int)) k o f w H (by omega) h6 (by rw [hn];exact hr.zs) n (Nat.le_refl _) t hn.symm (fun i hi=>⟨rfl,(inL_iff.1 hin).2 i (by omega)⟩) (fun h=>absurd h (Nat.lt_irrefl _));rw [if_neg (Nat.lt_irrefl _),decide_eq_true rfl] at h;exact h
open Go.RowKit Go.Maps
theorem TpAt.list_apart {w:World}{g b:Nat}{A:Option Addr}{c N:Nat}{l:List Nat}{k o:Int}{f:List Nat→Int}(H:TpAt w g b A c N l k o f) (hl:l≠[]):∀ a:Addr,A=some a→a.block≠b:=by
 rintro a rfl rfl;rcases H.ints with h | ⟨g',o',e,hlt,hc⟩
 ·exact hl h
 injection e with e;subst e;obtain⟨D,⟨es,clock,hm,_⟩,hr⟩:=H.map;have:=hc 0 (by rcases l with _ | ⟨x,l⟩;exact absurd rfl hl;simp);simp [World.cell?,hm] at this
theorem TpAt.map_cells {w:World}{g b:Nat}{A:Option Addr}{c N:Nat}{l:List Nat}{k o:Int}{f:List Nat→Int}(H:TpAt w g b A c N l k o f) {w':World}{N':Nat}{f':List Nat→Int}(hg:w.grownBy w' (some b))
  (hm:∃ D:DataW Unit,w'.ownsMap Tryz.prog 139 (plainElem Tryz.prog 2) b N' D∧RepF D l o f'):TpAt w' g b A c N' l k o f' :=
 ⟨(hg.block g (Array.getElem?_eq_some_iff.1 H.row).1 (fun e=>H.apart (by injection e))).trans H.row,by
  by_cases hl:l=[]
  ·exact .inl hl
  ·exact ints_grown H.ints hg (H.list_apart hl),H.cap,hm⟩
theorem ky_cells {w:World}{g:Nat}{t:List Nat}(h:w.heap[g]? = some (.cells (kyC t) 139 (0,0))) :
  w.cell? ⟨g,0,none⟩=some (szV t 0)∧w.cell? ⟨g,1,none⟩=some (szV t 1)∧w.cell? ⟨g,2,none⟩=some (szV t 2)∧w.cell? ⟨g,3,none⟩=some (szV t 3)∧w.cell? ⟨g,4,none⟩=some (szV t 4)∧w.cell? ⟨g,5,none⟩=some (szV t 5):=by
 refine⟨?_,?_,?_,?_,?_,?_⟩ <;> (rw [cell_of_row _ _ _ _ _ _ h];rfl)
theorem TpAt.look {w:World}{g b:Nat}{A:Option Addr}{c N:Nat}{l t:List Nat}{k o:Int}{f:List Nat→Int}(H:TpAt w g b A c N l k o f) (h32:∀ n∈l,n≤32) (hin:InL l t) :
  (Instr.lookup 136 (.map (some b)) (keyV t) true).run Tryz.prog w = .ok (.tuple #[.int .i64 (if f t=o then 0 else f t),.bool (decide (f t≠o))]) w:=by
 obtain⟨D,hown,hrep⟩:=H.map;obtain⟨v,ps,hrun,hv⟩:=hown.look_ok keyed Tryz.underlying136 (zeroI64 w) (plainElem_int Tryz.underlying2 (by decide)) (keyOf_key (hin.small h32));obtain⟨q,rfl,hc,hwc⟩:=plainElem_int_inv Tryz.underlying2 hv;simp only [Prod.mk.injEq] at hc;rw [hrun,(hrep.1 t hin).1];by_cases e:f t=o
 ·have hh:Maps.has D (keyL t)=false:=by rw [(hrep.1 t hin).1];simp [e]
  have:=hc.1;rw [atKey_of_not_has hh] at this;rw [if_pos e,← (Lit.int.inj (DataW.lit.inj this)).2]
 have:=hc.1;rw [(hrep.1 t hin).2 e] at this;rw [if_neg e,(Lit.int.inj (DataW.lit.inj this)).2]
abbrev HoldCo (wb:World) (g b B1:Nat) (t:List Nat) (x:Int) (r:Bool) (W:World):Prop :=
 W.cell? ⟨g,3,none⟩=some (.map (some b))∧W.cell? ⟨B1,0,none⟩=some (szV t 0)∧W.cell? ⟨B1,1,none⟩=some (szV t 1)∧W.cell? ⟨B1,2,none⟩=some (szV t 2)∧W.cell? ⟨B1,3,none⟩=some (szV t 3)∧W.cell? ⟨B1,4,none⟩=some (szV t 4)∧W.cell? ⟨B1,5,none⟩=some (szV t 5) ∧
 (Instr.lookup 136 (.map (some b)) (.agg #[.int .i64 (nth t 0:Int),.int .i64 (nth t 1:Int),.int .i64 (nth t 2:Int),.int .i64 (nth t 3:Int),.int .i64 (nth t 4:Int),.int .i64 (nth t 5:Int)]) true).run Tryz.prog W = .ok (.tuple #[.int .i64 x,.bool r]) W∧Below wb.heap.size wb W
set_option maxRecDepth 100000 in
set_option maxHeartbeats 4000000 in
theorem tpcost_ok (g b N c:Nat) (A:Option Addr) (l t:List Nat) (k o:Int) (f:List Nat→Int) (w:World) (H:TpAt w g b A c N l k o f) (h32:∀ n∈l,n≤32) (hin:InL l t) :
  Calls Tryz.prog 90 #[.pointer (some ⟨g,0,none⟩),keyV t] w fun e w'=>e = .returned (.int .i64 (f t))∧Below w.heap.size w w':=by
 have nb:=new_val w (.cells (kyC t) 139);have B1:=hid nb;have HT:=hid (H.below nb);obtain⟨y0,y1,y2,y3,y4,y5⟩:=ky_cells (heap_alloc_new w (.cells (kyC t) 139));have HY:=hid (And.intro y0 (And.intro y1 (And.intro y2 (And.intro y3 (And.intro y4 y5)))));have HL:Hid (∀ W,TpAt W g b A c N l k o f→(Instr.lookup 136 (.map (some b)) (keyV t) true).run Tryz.prog W = .ok (.tuple #[.int .i64 (if f t=o then 0 else f t),.bool (decide (f t≠o))]) W):=hid fun W h=>h.look h32 hin;clear H nb hin h32 y0 y1 y2 y3 y4 y5;obtain⟨x,hx⟩:∃ x,f t=x:=⟨_,rfl⟩
 rw [hx] at HL ⊢;clear hx;go_enter Tryz.func90,Tryz.ntmps90
 go_upto_region 1 with fail
 generalize w.alloc (.cells (kyC t) 139)=w1 at *;by_cases hf:x=o
 ·subst hf
  have HH:Hid (HoldCo w1 g b w.heap.size t 0 false w1.drew):=by
   have h2:=HT.out.below ((Below.refl _ _).drew);have hl:=HL.out _ h2;rw [if_pos rfl,show decide (x≠x)=false from decide_eq_false (by simp)] at hl;obtain⟨y0,y1,y2,y3,y4,y5⟩:=HY.out;exact hid ⟨h2.cells.2.2.2,y0,y1,y2,y3,y4,y5,hl,(Below.refl _ _).drew⟩
  go_region_held3 (fun W=>HoldCo w1 g b w.heap.size t 0 false W) (exact HH.out) (fail)
  have c2:w1.drew.cell? ⟨g,2,none⟩=some (.int .i64 x):=(HT.out.below ((Below.refl _ _).drew)).cells.2.2.1;go_wp2_with fail
  go_ret;exact⟨rfl,B1.out.drew⟩
 have HH:Hid (HoldCo w1 g b w.heap.size t x true w1.drew):=by
  have h2:=HT.out.below ((Below.refl _ _).drew);have hl:=HL.out _ h2;rw [if_neg hf,show decide (x≠o)=true from decide_eq_true hf] at hl;obtain⟨y0,y1,y2,y3,y4,y5⟩:=HY.out;exact hid ⟨h2.cells.2.2.2,y0,y1,y2,y3,y4,y5,hl,(Below.refl _ _).drew⟩
 go_region_held3 (fun W=>HoldCo w1 g b w.heap.size t x true W) (exact HH.out) (fail)
 go_wp2_with fail
 go_ret;exact⟨rfl,B1.out.drew⟩
end Go.Proofs.YtmokogkndbinlaaGreatDoor
namespace Go.Proofs.YtmokogkndbinlaaGreatDoor
open Go.RowKit Go.Maps
theorem grown_after {w w2 w3:World}{row:Option Nat}(B:Below w.heap.size w w2) (g:w2.grownBy w3 row):w.grownBy w3 row :=
 ⟨g.os.trans B.os,g.tape.trans B.tape,g.output.trans B.output,Nat.le_trans B.size g.size,fun i hi hne=>(g.block i (Nat.lt_of_lt_of_le hi B.size) hne).trans (B.block i hi)⟩
set_option maxRecDepth 100000 in
set_option maxHeartbeats 4000000 in
theorem tpput_ok (g b N c n cb:Nat) (A B:Option Addr) (l t:List Nat) (k o x:Int) (f:List Nat→Int) (w:World) (H:TpAt w g b A c N l k o f) (hn:n=t.length) (h6:l.length≤6) (h32:∀ n∈l,n≤32) (hr:Ints w B t) (hin:InL l t) (hx:InK x k) (hN:N≤1000000) :
  Calls Tryz.prog 120 #[.pointer (some ⟨g,0,none⟩),.slice B n cb,.int .i64 x] w fun e w'=>e = .returned (.int .i64 0)∧TpAt w' g b A c (N+1) l k o (updF f t x)∧w.grownBy w' (some b):=by
 have HKF:=hid (keyof_ok g b N c n cb A B l t k o f w H hn h6 hr hin);have HT:=hid H;have HX:=hid hx;have HI:=hid hin;have H32:=hid h32;have HK:=hid (keyOf_key (hin.small h32));clear H hr hin hn hx h32;go_enter Tryz.func120,Tryz.ntmps120
 go_wp2_with fail
 refine HKF.out.mono ?_;rintro e w1 ⟨rfl,b1⟩;have B1:=hid b1;clear b1;go_upto_region 4 with ((with_reducible show wpList _ _ _ (Oper.mk none (.store 139 _ _) _ _ _ _::_) _ _);refine wpList_store_row rfl 139 (.tmp 7) (.tmp 15) rfl w1.heap.size (kyC t) rfl rfl 139 kyZ (heap_alloc_new _ _) (by kernel_rfl) rfl (ky_one t) ?_;rw [World.setRow_alloc_new])
 have nb:=new_val w1 (.cells (kyC t) 139);have T2:=hid ((HT.out.below B1.out).below nb);have B2:=hid (then_ B1.out nb);have HY:=hid (ky_cells (heap_alloc_new w1 (.cells (kyC t) 139)));clear nb;generalize w1.alloc (.cells (kyC t) 139)=w2 at *;generalize w1.heap.size=B7 at *;obtain⟨c0,c1,c2,c3⟩:=T2.out.cells;clear c0;by_cases e:x=o
 ·subst e
  go_upto_region 7 with (go_at_call 108;refine (in_yes _ _ _ HX.out.1 HX.out.2.1 HX.out.2.2.1 HX.out.2.2.2).mono ?_;rintro e w' ⟨rfl,rfl⟩)
  obtain⟨y0,y1,y2,y3,y4,y5⟩:=HY.out;obtain⟨D,hown,hrep⟩:=T2.out.map;have HO:=hid hown.drew;have HR:=hid hrep;clear hown hrep c1 c2;go_still_tail 5,(by kernel_rfl)
  change wpList _ _ _ _ _ w2.drew
  have B3:=hid B2.out.drew;have T3:=hid (T2.out.below ((Below.refl _ _).drew));clear c3 y0 y1 y2 y3 y4 y5;generalize w2.drew=w3 at HO B3 T3 ⊢;go_wp2_with (at_delete;refine wpList_delete_own _ rfl _ _ 136 139 rfl 2 keyed Tryz.underlying136 _ b N D rfl HO.out _ _ rfl HK.out ?_;intro w4 hown1 hturn1;have HO1:=hid hown1;have HG1:=hid hturn1.grown;clear hown1 hturn1)
  go_ret;exact⟨rfl,T3.out.map_cells HG1.out ⟨_,HO1.out.mono (Nat.le_succ _),HR.out.del HO.out.isMap h6 H32.out HI.out⟩,grown_after B3.out HG1.out⟩
 have d:(x == o)=false:=by rw [beq_eq_false_iff_ne];exact e
 have HE:=hid e;clear e;go_upto_region 8 with (go_at_call 108;refine (in_yes _ _ _ HX.out.1 HX.out.2.1 HX.out.2.2.1 HX.out.2.2.2).mono ?_;rintro e w' ⟨rfl,rfl⟩)
 obtain⟨y0,y1,y2,y3,y4,y5⟩:=HY.out;obtain⟨D,hown,hrep⟩:=T2.out.map;have HO:=hid hown.drew;have HR:=hid hrep;clear hown hrep c1 c2;go_still_tail 6,(by kernel_rfl)
 change wpList _ _ _ _ _ w2.drew
 have B3:=hid B2.out.drew;have T3:=hid (T2.out.below ((Below.refl _ _).drew));clear c3 y0 y1 y2 y3 y4 y5;generalize w2.drew=w3 at HO B3 T3 ⊢;have WF:(Lit.int .i64 x).wf=true:=WalkArith.wf_i64 (by have:=HX.out;unfold InK at this;omega);go_wp2_with (at_mapUpdate;refine wpList_mapUpdate_own _ rfl _ _ _ 136 rfl 139 2 keyed Tryz.underlying136 _ b N _ rfl HO.out (by unfold maxLen;omega) _ _ _ rfl rfl HK.out _ [] (plainElem_int Tryz.underlying2 WF) ?_;intro w4 hown1 hgrow1;have HO1:=hid hown1;have HG1:=hid hgrow1;clear hown1 hgrow1)
 go_ret;exact⟨rfl,T3.out.map_cells HG1.out ⟨_,HO1.out,HR.out.put HO.out.isMap h6 H32.out HI.out HE.out⟩,grown_after B3.out HG1.out⟩
end Go.Proofs.YtmokogkndbinlaaGreatDoor
