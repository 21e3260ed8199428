import Derived.Laws.CopyOwn
import Derived.Deep.CutRange
import Derived.OwnWalk
import Derived.Laws.StructEq
import Derived.Lib.SliceRun
import Derived.RangeFuncLeaves
import Derived.RangeFuncCalls
import Derived.Shelf.Abstract
import Derived.OwnWalkIn
import Derived.TacticsInMore
import Derived.LoopNIn
import Derived.LoopIn
import Derived.RangeFuncWrites
import Derived.Deep.RegionHeld3
import Derived.Test.YtmokogkndbinlaaGreatDoorZhad
set_option linter.all false
namespace Go.Proofs.YtmokogkndbinlaaGreatDoor
open Go.Lib (hid)
open Go.RowKit
theorem ret_bool {a b:Bool}(h:a=b):Ending.returned (.bool a) = .returned (.bool b):=by rw [h]
theorem ret_int {t:IntKind}{a b:Int}(h:a=b):Ending.returned (.int t a) = .returned (.int t b):=by rw [h]
abbrev szV (l:List Nat) (i:Nat):Value:=.int .i64 (nth l i:Int)
abbrev shC (l:List Nat):Array Value:=#[.int .i64 (l.length:Int),szV l 0,szV l 1,szV l 2,szV l 3,szV l 4,szV l 5]
abbrev shV (l:List Nat):Value:=.agg (shC l)
abbrev shO (l:List Nat):Obj:=.cells (shC l) 90
def Ints (w:World) (A:Option Addr) (l:List Nat):Prop :=
 l=[]∨∃ g o,A=some ⟨g,o,none⟩∧g < w.heap.size∧∀ i,i < l.length→w.cell? ⟨g,o+i,none⟩=some (.int .i64 (nth l i:Int))
theorem Ints.below {w w':World}{A:Option Addr}{l:List Nat}{B:Nat}(h:Ints w A l) (hb:Below B w w') (hB:w.heap.size≤B):Ints w' A l:=by
 rcases h with rfl | ⟨g,o,rfl,hg,hc⟩
 ·exact .inl rfl
 exact .inr ⟨g,o,rfl,by have:=hb.size;omega,fun i hi=>(hb.cell (p:=⟨g,o+i,none⟩) (by show g < B;omega)).trans (hc i hi)⟩
theorem Ints.at_ {w:World}{A:Option Addr}{l:List Nat}(h:Ints w A l) {i:Nat}(hi:i < l.length):∃ g o,A=some ⟨g,o,none⟩∧w.cell? ⟨g,o+i,none⟩=some (.int .i64 (nth l i:Int)):=by
 rcases h with rfl | ⟨g,o,rfl,hg,hc⟩
 ·exact absurd hi (by simp)
 exact⟨g,o,rfl,hc i hi⟩
theorem product_any (A:Option Addr) (n c:Nat) (l:List Nat) (w:World) (hn:n=l.length) (h6:l.length≤6) (h32:∀ n∈l,n≤32) (hw:Ints w A l) :
  Calls Tryz.prog 190 #[.slice A n c] w fun e w'=>e = .returned (.int .i64 (prodL l:Nat))∧w=w':=by
 have HN:=hid hn;have HW:=hid hw;have H6:=hid h6;have H32:=hid h32;have hn6:n≤6:=by omega
 clear hn hw h6 h32;go_enter Tryz.func190,Tryz.ntmps190
 go_wp2_with fail
 go_loop [3,5,8] (fun p _ i=>∃ j:Nat,j≤n∧i = .int .i64 j∧p = .int .i64 (prodL (l.take j):Nat)) (fun _ _ i=>n - (intOf i).toNat)
 case atStart=>exact⟨0,Nat.zero_le _,rfl,rfl⟩
 case round =>
  obtain⟨j,hj,rfl,rfl⟩:=hrel;by_cases hlt:j < n
  rotate_left
  ·go_wp2
   go_ret;obtain rfl:j=n:=by omega
   exact⟨ret_int (by rw [HN.out,List.take_length]),rfl⟩
  have hjl:j < l.length:=by have:=HN.out;omega
  obtain⟨g,o,rfl,hcell⟩:=HW.out.at_ hjl;have hb:=take_le H6.out H32.out j;have hx:=nth_le H32.out j;have HP:=hid (prod_take l hjl);have hm:prodL (l.take j) * nth l j≤1073741824:=by rw [← HP.out];exact take_le H6.out H32.out (j+1)
  have hmi:((prodL (l.take j):Nat):Int) * (nth l j:Int)≤1073741824:=by rw [← Int.natCast_mul];omega
  have hm0:0≤((prodL (l.take j):Nat):Int) * (nth l j:Int):=by rw [← Int.natCast_mul];omega
  clear hjl hm;generalize nth l j=x at hcell hx HP hmi hm0;generalize prodL (l.take j)=p at hb HP hmi hm0;go_wp2
  go_round
  case rel=>exact⟨j+1,by omega,by go_num,by rw [HP.out,Int.natCast_mul]⟩
  case measure=>simp [intOf];omega
theorem new_sh (w:World) (l:List Nat) (h6:l.length≤6):Ints (w.alloc (shO l)) (some ⟨w.heap.size,1,none⟩) l:=by
 refine .inr ⟨_,_,rfl,by simp,fun i hi=>?_⟩;rw [World.cell?_alloc_at _ _ _ _ rfl];rcases (by omega:i=0∨i=1∨i=2∨i=3∨i=4∨i=5) with rfl | rfl | rfl | rfl | rfl | rfl <;> rfl
theorem arity_any (l:List Nat) (w:World):Calls Tryz.prog 219 #[shV l] w fun e w'=>e = .returned (.int .i64 (l.length:Int))∧w'=w.alloc (shO l):=by
 go_enter Tryz.func219,Tryz.ntmps219
 go_wp2
 go_ret;exact⟨rfl,rfl⟩
theorem count_any_ShA (l:List Nat) (w:World) (h6:l.length≤6) (h32:∀ n∈l,n≤32) :
  Calls Tryz.prog 147 #[shV l] w fun e w'=>e = .returned (.int .i64 (prodL l:Nat))∧w'=w.alloc (shO l):=by
 have H:=hid (product_any (some ⟨w.heap.size,1,none⟩) l.length 6 l (w.alloc (shO l)) rfl h6 h32 (new_sh w l h6));have hl:(l.length:Int)≤6:=by omega
 clear h32 h6;go_enter Tryz.func147,Tryz.ntmps147
 go_wp2_with (go_at_call 190;refine H.out.mono ?_;rintro e w' ⟨rfl,rfl⟩)
 go_ret;exact⟨rfl,rfl⟩
end Go.Proofs.YtmokogkndbinlaaGreatDoor
namespace Go.Proofs.YtmokogkndbinlaaGreatDoor
open Go.RowKit
theorem has_yes (l:List Nat) (i:Int) (w:World) (h0:0≤i) (h:i < (l.length:Int)) :
  Calls Tryz.prog 266 #[shV l,.int .i64 i] w fun e w'=>e = .returned (.bool true)∧w'=w.alloc (shO l):=by
 go_enter Tryz.func266,Tryz.ntmps266
 go_wp2
 go_ret;exact⟨ret_bool (by simp <;> omega),rfl⟩
theorem size_yes (l:List Nat) (i:Nat) (w:World) (h6:l.length≤6) (hi:i < l.length) :
  Calls Tryz.prog 229 #[shV l,.int .i64 (i:Int)] w fun e w'=>e = .returned (.int .i64 (nth l i:Int))∧Below w.heap.size w w':=by
 have H:=hid (fun W=>has_yes l i W (by omega) (by omega));have hb:Below (w.heap.size+1) (w.alloc (shO l)) ((w.alloc (shO l)).alloc (shO l)):=(Below.refl _ _).alloc (by simp) _;obtain⟨g,o,e,hc⟩:=((new_sh w l h6).below hb (by simp)).at_ hi;obtain⟨rfl,rfl⟩:w.heap.size=g∧1=o:=by injection e with e;injection e with e1 e2;exact⟨e1,e2⟩
 have hi6:i < 6:=by omega
 clear hb e hi h6;generalize nth l i=x at hc;go_enter Tryz.func229,Tryz.ntmps229
 go_wp2_with (go_at_call 266;refine (H.out _).mono ?_;rintro e w' ⟨rfl,rfl⟩)
 go_ret;exact⟨rfl,((Below.refl _ _).alloc (Nat.le_refl _) _).alloc (by simp) _⟩
end Go.Proofs.YtmokogkndbinlaaGreatDoor
namespace Go.Proofs.YtmokogkndbinlaaGreatDoor
open Go.RowKit
def Zs (w:World) (A:Option Addr) (n:Nat) (z:Nat→Int):Prop :=
 n=0∨∃ g o,A=some ⟨g,o,none⟩∧g < w.heap.size∧∀ i,i < n→w.cell? ⟨g,o+i,none⟩=some (.int .i64 (z i))
theorem Zs.below {w w':World}{A:Option Addr}{n:Nat}{z:Nat→Int}{B:Nat}(h:Zs w A n z) (hb:Below B w w') (hB:w.heap.size≤B):Zs w' A n z:=by
 rcases h with rfl | ⟨g,o,rfl,hg,hc⟩
 ·exact .inl rfl
 exact .inr ⟨g,o,rfl,by have:=hb.size;omega,fun i hi=>(hb.cell (p:=⟨g,o+i,none⟩) (by show g < B;omega)).trans (hc i hi)⟩
theorem Zs.at_ {w:World}{A:Option Addr}{n:Nat}{z:Nat→Int}(h:Zs w A n z) {i:Nat}(hi:i < n):∃ g o,A=some ⟨g,o,none⟩∧w.cell? ⟨g,o+i,none⟩=some (.int .i64 (z i)):=by
 rcases h with rfl | ⟨g,o,rfl,hg,hc⟩
 ·exact absurd hi (by simp)
 exact⟨g,o,rfl,hc i hi⟩
theorem Ints.zs {w:World}{A:Option Addr}{l:List Nat}(h:Ints w A l):Zs w A l.length (fun i=>(nth l i:Int)):=by
 rcases h with rfl | ⟨g,o,rfl,hg,hc⟩
 ·exact .inl rfl
 exact .inr ⟨g,o,rfl,hg,hc⟩
theorem wrong_yes (x:Int) (w:World) (h:x < 1∨32 < x):Calls Tryz.prog 188 #[.int .i64 x] w fun e w'=>e = .returned (.bool true)∧w=w':=by
 rcases (by omega:x < 1∨(1≤x∧32 < x)) with h | ⟨h,h'⟩
 ·go_enter Tryz.func188,Tryz.ntmps188
  go_wp2
  go_ret;exact⟨rfl,rfl⟩
 go_enter Tryz.func188,Tryz.ntmps188
 go_wp2
 go_ret;exact⟨ret_bool (by simp <;> omega),rfl⟩
theorem wrong_no (x:Int) (w:World) (h1:1≤x) (h2:x≤32):Calls Tryz.prog 188 #[.int .i64 x] w fun e w'=>e = .returned (.bool false)∧w=w':=by
 go_enter Tryz.func188,Tryz.ntmps188
 go_wp2
 go_ret;exact⟨ret_bool (by simp <;> omega),rfl⟩
theorem first_at (q:Nat→Prop) (m:Nat):(∀ i,i < m→¬ q i)∨∃ p,p < m∧(∀ i,i < p→¬ q i)∧q p:=by
 induction m with
 | zero=>exact .inl fun i hi=>absurd hi (by omega)
 | succ m ih =>
  rcases ih with h | ⟨p,hp,h1,h2⟩
  rotate_left
  ·exact .inr ⟨p,by omega,h1,h2⟩
  by_cases hb:q m
  ·exact .inr ⟨m,by omega,h,hb⟩
  refine .inl fun i hi=>?_;by_cases e:i=m
  ·subst e;exact hb
  exact h i (by omega)
theorem index_none (A:Option Addr) (n c:Nat) (z:Nat→Int) (w:World) (hn:n≤1000000) (hr:Zs w A n z) (hz:∀ i,i < n→1≤z i∧z i≤32) :
  Calls Tryz.prog 153 #[.slice A n c,.func (.func 188) #[] #[]] w fun e w'=>e = .returned (.int .i64 (-1))∧w=w':=by
 have HZ:=hid hz;have HR:=hid hr;clear hz hr;go_enter Tryz.func153,Tryz.ntmps153
 go_wp2_with fail
 go_loop [5,8] (fun _ i=>∃ j:Nat,j≤n∧i = .int .i64 j) (fun _ i=>n - (intOf i).toNat)
 case atStart=>exact⟨0,Nat.zero_le _,rfl⟩
 case round =>
  obtain⟨j,hj,rfl⟩:=hrel;by_cases hlt:j < n
  rotate_left
  ·go_wp2
   go_ret;exact⟨rfl,rfl⟩
  obtain⟨g,o,rfl,hcell⟩:=HR.out.at_ hlt;have hz:=HZ.out j hlt;generalize z j=x at hcell hz;obtain⟨hz1,hz2⟩:=hz;go_wp2_with (go_at_call 188;refine (wrong_no _ _ hz1 hz2).mono ?_;rintro e w' ⟨rfl,rfl⟩)
  go_round
  case rel=>exact⟨j+1,by omega,by go_num⟩
  case measure=>simp [intOf];omega
theorem index_some (A:Option Addr) (n c p:Nat) (z:Nat→Int) (w:World) (hn:n≤1000000) (hr:Zs w A n z) (hp:p < n) (hq:∀ i,i < p→1≤z i∧z i≤32) (hz:z p < 1∨32 < z p) :
  Calls Tryz.prog 153 #[.slice A n c,.func (.func 188) #[] #[]] w fun e w'=>e = .returned (.int .i64 p)∧w=w':=by
 have HZ:=hid hz;have HQ:=hid hq;have HR:=hid hr;clear hz hq hr;go_enter Tryz.func153,Tryz.ntmps153
 go_wp2_with fail
 go_loop [5,8] (fun _ i=>∃ j:Nat,j≤p∧i = .int .i64 j) (fun _ i=>n - (intOf i).toNat)
 case atStart=>exact⟨0,Nat.zero_le _,rfl⟩
 case round =>
  obtain⟨j,hj,rfl⟩:=hrel;have hlt:j < n:=by omega
  obtain⟨g,o,rfl,hcell⟩:=HR.out.at_ hlt;by_cases e:j=p
  ·have HX:Hid (z j < 1∨32 < z j):=hid (by rw [e];exact HZ.out)
   have HE:=hid e;clear e;generalize z j=x at hcell HX;go_wp2_with (go_at_call 188;refine (wrong_yes _ _ HX.out).mono ?_;rintro e w' ⟨rfl,rfl⟩)
   go_ret;exact⟨ret_int (by rw [HE.out]),rfl⟩
  have hz:=HQ.out j (by omega);have hjp:j+1≤p:=by omega
  clear e;generalize z j=x at hcell hz;obtain⟨hz1,hz2⟩:=hz;go_wp2_with (go_at_call 188;refine (wrong_no _ _ hz1 hz2).mono ?_;rintro e w' ⟨rfl,rfl⟩)
  go_round
  case rel=>exact⟨j+1,by omega,by go_num⟩
  case measure=>simp [intOf];omega
theorem contains_no (A:Option Addr) (n c:Nat) (z:Nat→Int) (w:World) (hn:n≤1000000) (hr:Zs w A n z) (hz:∀ i,i < n→1≤z i∧z i≤32) :
  Calls Tryz.prog 123 #[.slice A n c,.func (.func 188) #[] #[]] w fun e w'=>e = .returned (.bool false)∧w=w':=by
 have H:=hid (index_none A n c z w hn hr hz);clear hr hz;go_enter Tryz.func123,Tryz.ntmps123
 go_wp2_with (go_at_call 153;refine H.out.mono ?_;rintro e w' ⟨rfl,rfl⟩)
 go_ret;exact⟨rfl,rfl⟩
theorem contains_yes (A:Option Addr) (n c p:Nat) (z:Nat→Int) (w:World) (hn:n≤1000000) (hr:Zs w A n z) (hp:p < n) (hz:z p < 1∨32 < z p) :
  Calls Tryz.prog 123 #[.slice A n c,.func (.func 188) #[] #[]] w fun e w'=>e = .returned (.bool true)∧w=w':=by
 have H:Hid (∃ q:Nat,Calls Tryz.prog 153 #[.slice A n c,.func (.func 188) #[] #[]] w fun e w'=>e = .returned (.int .i64 q)∧w=w'):=by
  rcases first_at (fun i=>z i < 1∨32 < z i) n with h | ⟨q,h1,h2,h3⟩
  ·exact absurd hz (h p hp)
  exact hid ⟨q,index_some A n c q z w hn hr h1 (fun i hi=>by have:=h2 i hi;omega) h3⟩
 clear hr hz;obtain⟨q,hq⟩:=H.out;have HQ:=hid hq;clear hq H;have h0:0≤(q:Int):=by omega
 go_enter Tryz.func123,Tryz.ntmps123
 go_wp2_with (go_at_call 153;refine HQ.out.mono ?_;rintro e w' ⟨rfl,rfl⟩)
 go_ret;exact⟨ret_bool (by simp <;> omega),rfl⟩
end Go.Proofs.YtmokogkndbinlaaGreatDoor
namespace Go.Proofs.YtmokogkndbinlaaGreatDoor
open Go.RowKit
abbrev intC (l:List Nat):List Value:=l.map fun x:Nat=>Value.int .i64 (x:Int)
theorem sh_splice (l:List Nat) (h:l.length≤6) (n:Int) (hn:n=l.length):splice [.int .i64 n,.int .i64 0,.int .i64 0,.int .i64 0,.int .i64 0,.int .i64 0,.int .i64 0] 1 (intC l)=(shC l).toList:=by
 subst hn;rcases l with _ | ⟨a,_ | ⟨b,_ | ⟨c,_ | ⟨d,_ | ⟨e,_ | ⟨f,_ | ⟨g,r⟩⟩⟩⟩⟩⟩⟩
 all_goals first | rfl | (exfalso;simp at h;done) | (exfalso;simp at h;omega)
theorem intC_get {l:List Nat}{j:Nat}{v:Value}(h:(intC l)[j]? = some v):j < l.length∧v = .int .i64 (nth l j:Int):=by
 simp only [intC,List.getElem?_map,Option.map_eq_some_iff] at h;obtain⟨x,hx,rfl⟩:=h;have hj:j < l.length:=(List.getElem?_eq_some_iff.1 hx).1;refine⟨hj,?_⟩;unfold nth;rw [List.getD_eq_getElem?_getD,hx];rfl
theorem intC_one (l:List Nat):∀ v∈intC l,v.oneCell'=true:=by
 intro v hv;simp only [intC,List.mem_map] at hv;obtain⟨x,_,rfl⟩:=hv;rfl
theorem Ints.src {w:World}{A:Option Addr}{l:List Nat}(h:Ints w A l) (h0:0 < (intC l).length):∃ ad,A=some ad∧∀ j v,(intC l)[j]? = some v→w.cell? (ad.add j)=some v:=by
 rcases h with rfl | ⟨g,o,rfl,hg,hc⟩
 ·exact absurd h0 (by simp [intC])
 refine⟨_,rfl,fun j v hv=>?_⟩;obtain⟨hj,rfl⟩:=intC_get hv;have e:(⟨g,o,none⟩:Addr).add j=⟨g,o+j,none⟩:=by
  unfold Addr.add;split
  ·rename_i h;subst h;rfl
  rfl
 rw [e];exact hc j hj
structure ShAt (w:World) (g:Nat) (l:List Nat):Prop where
 c0:w.cell? ⟨g,0,none⟩=some (.int .i64 (l.length:Int))
 c1:w.cell? ⟨g,1,none⟩=some (szV l 0)
 c2:w.cell? ⟨g,2,none⟩=some (szV l 1)
 c3:w.cell? ⟨g,3,none⟩=some (szV l 2)
 c4:w.cell? ⟨g,4,none⟩=some (szV l 3)
 c5:w.cell? ⟨g,5,none⟩=some (szV l 4)
 c6:w.cell? ⟨g,6,none⟩=some (szV l 5)
 lt:g < w.heap.size
 fz:∀ i,w.frozen? ⟨g,i,none⟩=false
theorem ShAt.of_heap {w:World}{g:Nat}{l:List Nat}(h:w.heap[g]? = some (.cells (shC l) 90 (0,0))):ShAt w g l:=by
 have k:∀ i,w.cell? ⟨g,i,none⟩=(shC l)[i]?:=fun i=>cell_of_row w g i _ _ _ h;have hlt:g < w.heap.size:=(Array.getElem?_eq_some_iff.1 h).1;exact⟨k 0,k 1,k 2,k 3,k 4,k 5,k 6,hlt,fun i=>by simp [World.frozen?,h]⟩
theorem ShAt.new (w:World) (l:List Nat):ShAt (w.alloc (shO l)) w.heap.size l:=ShAt.of_heap (heap_alloc_new w _)
theorem ShAt.below {w w':World}{g B:Nat}{l:List Nat}(h:ShAt w g l) (hb:Below B w w') (hB:g < B):ShAt w' g l :=
 ⟨(hb.cell (p:=⟨g,0,none⟩) hB).trans h.c0,(hb.cell (p:=⟨g,1,none⟩) hB).trans h.c1,(hb.cell (p:=⟨g,2,none⟩) hB).trans h.c2,(hb.cell (p:=⟨g,3,none⟩) hB).trans h.c3,
  (hb.cell (p:=⟨g,4,none⟩) hB).trans h.c4,(hb.cell (p:=⟨g,5,none⟩) hB).trans h.c5,(hb.cell (p:=⟨g,6,none⟩) hB).trans h.c6,Nat.lt_of_lt_of_le h.lt hb.size,fun i=>(hb.frozen (p:=⟨g,i,none⟩) hB).trans (h.fz i)⟩
theorem alloc_two (w:World) (a o:Obj):((w.alloc a).alloc o).heap[w.heap.size+1]? = some o:=by
 have:=heap_alloc_new (w.alloc a) o;rwa [World.size_alloc] at this
abbrev shC0 (n:Int):Array Value:=#[.int .i64 n,.int .i64 0,.int .i64 0,.int .i64 0,.int .i64 0,.int .i64 0,.int .i64 0]
theorem zero_row (w:World):(w.alloc (.cells (shC0 0) 90)).heap[w.heap.size]? = some (.cells (shC0 0) 90 (0,0)):=heap_alloc_new w _
structure Copied (w:World) (l:List Nat) (w1:World):Prop where
 row:w1.heap[w.heap.size+1]? = some (.cells (shC l) 90 (0,0))
 zero:w1.heap[w.heap.size]? = some (.cells (shC0 0) 90 (0,0))
 below:Below w.heap.size w w1
theorem copied (w w1:World) (l:List Nat) (hE:splice [.int .i64 (l.length:Int),.int .i64 0,.int .i64 0,.int .i64 0,.int .i64 0,.int .i64 0,.int .i64 0] 1 (intC l)=(shC l).toList)
  (H:w1.heap[w.heap.size+1]? = some (.cells (splice [.int .i64 (l.length:Int),.int .i64 0,.int .i64 0,.int .i64 0,.int .i64 0,.int .i64 0,.int .i64 0] 1 (intC l)).toArray 90 (0,0)))
  (hb:Below (w.heap.size+1) ((w.alloc (.cells (shC0 0) 90)).alloc (.cells (shC0 (l.length:Int)) 90)) w1):Copied w l w1:=by
 rw [hE] at H;have h1:((w.alloc (.cells (shC0 0) 90)).alloc (.cells (shC0 (l.length:Int)) 90)).heap[w.heap.size]? = some (.cells (shC0 0) 90 (0,0)) :=
  (Below.heap_alloc _ _ _ (by simp)).trans (zero_row w)
 refine⟨H,(hb.block w.heap.size (by omega)).trans h1,?_⟩;exact (((Below.refl _ _).alloc (Nat.le_refl _) _).alloc (by simp) _).trans (hb.mono (by omega))
theorem sh_one (l:List Nat):(shC l).all (·.oneCell')=true:=by simp [Value.oneCell']
theorem results_sh {fn:Func}{p q:Tmp}(h:fn.results=#[.cell p 90,.tmp q]) (tmps:Array Value) (w:World) (g:Nat) (l:List Nat)
  (hp:tmps.getD p undef = .pointer (some ⟨g,0,none⟩)) (hg:w.heap[g]? = some (.cells (shC l) 90 (0,0))) :
  (results fn tmps).run Tryz.prog w = .ok (.tuple #[shV l,tmps.getD q undef]) w:=by
 have hp':tmps[p]?.getD undef = .pointer (some ⟨g,0,none⟩):=by simpa using hp
 simp [results,h,hp',asAddr,run_loadVar_row (P:=Tryz.prog) w g 90 90 (shC l) (0,0) _ hg Tryz.underlying90 rfl (by kernel_rfl)]
set_option maxHeartbeats 1000000 in
theorem new_mid (A:Option Addr) (c:Nat) (l:List Nat) (w:World) (h:l.length≤6) (hr:Ints w A l) (hl:∀ n∈l,1≤n∧n≤32) (hp:prodL l≤4096) :
  Calls Tryz.prog 145 #[.slice A l.length c] w fun e w'=>e = .returned (.tuple #[shV l,.int .i64 0])∧Below w.heap.size w w':=by
 have h6:(l.length:Int)≤6:=by omega
 have hp':((prodL l:Nat):Int)≤4096:=by omega
 have C:=hid (fun W hb=>contains_no A l.length c (fun i=>(nth l i:Int)) W (by omega) ((hr.below (B:=w.heap.size) hb (Nat.le_refl _)).zs) (fun i hi=>by have:=hl _ (nth_mem hi);omega));have S:=hid (fun W hb=>(hr.below (B:=w.heap.size) (w':=W) hb (Nat.le_refl _)).src);have K:=hid (fun W=>count_any_ShA l W h (fun n hn=>(hl n hn).2));have E:=hid (sh_splice l h l.length rfl);have hcs:=hid (show (intC l).length=Nat.min l.length 6 by rw [show (intC l).length=l.length by simp [intC]];exact (Nat.min_eq_left h).symm);have hfit:1+(intC l).length≤7:=by simp [intC];omega
 have hone:=hid (intC_one l);clear hr hl hp;generalize prodL l=p at K hp';have hd:decide ((4096:Int) < (p:Int))=false:=by simp;omega
 go_enter Tryz.func145,Tryz.ntmps145
 go_upto_region 5 with (first
  | (go_at_call 123;refine (C.out _ (by exact (Below.refl _ _).alloc (Nat.le_refl _) _)).mono ?_;rintro e w' ⟨rfl,rfl⟩)
  | ((with_reducible show wpList _ _ _ (Oper.mk (some 19) _ _ _ _ _::_) _ _);refine wpList_copy_splice rfl (.tmp 17) (.tmp 18) _ _ rfl 3 Tryz.underlying41 (by kernel_rfl) (some ⟨w.heap.size+1,1,none⟩) A 6 6 l.length c rfl rfl (w.heap.size+1) 1 [.int .i64 (l.length:Int),.int .i64 0,.int .i64 0,.int .i64 0,.int .i64 0,.int .i64 0,.int .i64 0] 90 (alloc_two _ _ _) (intC l) hcs.out (fun h0=>⟨rfl,S.out _ (((Below.refl _ _).alloc (Nat.le_refl _) _).alloc (by simp) _) h0⟩) hfit hone.out (w.heap.size+1) _ (Below.refl _ _) (Nat.le_refl _) ?_;intro w1 H1 hb1;have HC:=hid (copied w w1 l E.out H1.out hb1);clear H1 hb1))
 have HR:=hid HC.out.row;have HZ:=hid HC.out.zero;have HB:=hid HC.out.below;clear HC;go_upto_region 7 with (first
  | ((with_reducible show wpList _ _ _ (Oper.mk (some 20) _ _ _ _ _::_) _ _);refine wpList_load_row rfl 90 (.tmp 4) rfl (w.heap.size+1) rfl 90 _ _ _ HR.out Tryz.underlying90 rfl (by kernel_rfl) ?_)
  | (go_at_call 147;refine (K.out _).mono ?_;rintro e w2 ⟨rfl,rfl⟩))
 have b2:Below w1.heap.size w1 (w1.alloc (shO l)):=(Below.refl _ _).alloc (Nat.le_refl _) _;have l1:w.heap.size+1 < w1.heap.size:=(Array.getElem?_eq_some_iff.1 HR.out).1;have HR2:=hid ((b2.block _ l1).trans HR.out);have HZ2:=hid ((b2.block w.heap.size (by omega)).trans HZ.out);have HB2:=hid (HB.out.trans (b2.mono (by omega)));clear HR HZ HB b2;go_wp2_with (first
  | ((with_reducible show wpList _ _ _ (Oper.mk (some 24) _ _ _ _ _::_) _ _);refine wpList_load_row rfl 90 (.tmp 4) rfl (w.heap.size+1) rfl 90 _ _ _ HR2.out Tryz.underlying90 rfl (by kernel_rfl) ?_)
  | ((with_reducible show wpList _ _ _ (Oper.mk none (.store 90 _ _) _ _ _ _::_) _ _);refine wpList_store_row rfl 90 (.tmp 2) (.tmp 24) rfl w.heap.size (shC l) rfl rfl 90 _ HZ2.out (by kernel_rfl) rfl (sh_one l) ?_))
 refine bodyPost_ret (results_sh rfl _ _ w.heap.size l rfl (setRow_heap _ _ _ _ _ _ HZ2.out)) rfl ⟨rfl,below_setRow HB2.out (Nat.le_refl _) _⟩
end Go.Proofs.YtmokogkndbinlaaGreatDoor
namespace Go.Proofs.YtmokogkndbinlaaGreatDoor
open Go.RowKit
theorem step_bound {N v:Int}{P n:Nat}(h0:0≤N) (h1:N < P) (h2:0≤v) (h3:v < n):0≤N * n∧0≤N * n+v∧N * n+v < ((P * n:Nat):Int):=by
 have a:0≤N * (n:Int):=Int.mul_nonneg h0 (by omega);have b:(N+1) * (n:Int)≤(P:Int) * (n:Int):=Int.mul_le_mul_of_nonneg_right (by omega) (by omega);rw [Int.add_mul,Int.one_mul] at b;rw [Int.natCast_mul];omega
theorem index_ok (A:Option Addr) (c:Nat) (l t:List Nat) (w:World) (h6:l.length≤6) (h32:∀ n∈l,n≤32) (hr:Ints w A t) (hin:InL l t) :
  Calls Tryz.prog 107 #[shV l,.slice A t.length c] w fun e w'=>e = .returned (.tuple #[.int .i64 (numL l t:Nat),.int .i64 0])∧Below w.heap.size w w':=by
 have hlen:=hin.length;have hb0:Below w.heap.size w (w.alloc (shO l)):=(Below.refl _ _).alloc (Nat.le_refl _) _;have HR:=hid (hr.below hb0 (Nat.le_refl _));have HS:=hid (new_sh w l h6);have HI:=hid hin;have H6:=hid h6;have H32:=hid h32;have HM:=hid hlen;have hm6:t.length≤6:=by omega
 have hd:((t.length:Int) != (l.length:Int))=false:=by rw [bne_eq_false_iff_eq];omega
 clear hr hin h6 h32 hlen hb0;go_enter Tryz.func107,Tryz.ntmps107
 go_wp2_with fail
 clear hd;go_loop [6,7,8,16] (fun N _ _ i=>∃ (j:Nat),j≤t.length∧i = .int .i64 j∧N = .int .i64 (numTo l t j:Nat)∧numTo l t j < prodL (l.take j)) (fun _ _ _ i=>t.length - (intOf i).toNat)
 case atStart=>exact⟨0,Nat.zero_le _,rfl,rfl,by simp [numTo,numL,prodL]⟩
 case round =>
  obtain⟨j,hj,rfl,rfl,hN1⟩:=hrel;by_cases hlt:j < t.length
  rotate_left
  ·go_wp2
   go_ret2;obtain rfl:j=t.length:=by omega
   exact⟨by rw [HM.out,numTo_all HM.out];rfl,by go_grown⟩
  have hjl:j < l.length:=by have:=HM.out;omega
  obtain⟨g,o,rfl,hcell⟩:=HR.out.at_ hlt;obtain⟨g2,o2,e2,hs⟩:=HS.out.at_ hjl;obtain⟨rfl,rfl⟩:w.heap.size=g2∧1=o2:=by injection e2 with e;injection e with e1 e2;exact⟨e1,e2⟩
  have hx:=nth_le H32.out j;have hq:=(inL_iff.1 HI.out).2 j hjl;have HB:=hid (step_bound (N:=(numTo l t j:Nat)) (v:=(nth t j:Int)) (n:=nth l j) (Int.natCast_nonneg _) (Int.ofNat_lt.2 hN1) (Int.natCast_nonneg _) (Int.ofNat_lt.2 hq));have hP:=take_le H6.out H32.out (j+1);rw [prod_take l hjl] at hP;have hb:=HB.out;have HP:=hid (prod_take l hjl);have HN:=hid (numTo_succ HM.out hjl);clear e2 hjl;generalize nth t j=v at hcell hq HB hb HN;generalize nth l j=n at hs hx hq HB hb hP HP HN;generalize prodL (l.take j)=P at hN1 HB hb hP HP;generalize numTo l t j=N at hN1 HB hb HN;have hT:(N:Int) * (n:Int)+v≤1073741824:=by omega
  have hT0:0≤(N:Int) * (n:Int):=hb.1;have hT1:0≤(N:Int) * (n:Int)+v:=hb.2.1;have hT2:(N:Int) * (n:Int)≤1073741824:=by omega
  have hq':(v:Int) < (n:Int):=by omega
  clear hb hP hN1;go_wp2
  go_round
  case rel=>exact⟨j+1,by omega,by go_num,by rw [HN.out,Int.natCast_add,Int.natCast_mul],by rw [HP.out,HN.out];have:=HB.out.2.2;rw [← Int.natCast_mul,← Int.natCast_add] at this;exact Int.ofNat_lt.1 this⟩
  case measure=>simp [intOf];omega
end Go.Proofs.YtmokogkndbinlaaGreatDoor
namespace Go.Proofs.YtmokogkndbinlaaGreatDoor
open Go.RowKit
def Own (w:World) (base:Nat) (v:Value) (l:List Nat):Prop:=w.ownsRow base 3 1 v l.length (intC l)
theorem intC_len (l:List Nat):(intC l).length=l.length:=by simp [intC]
theorem intC_at {l:List Nat}{j:Nat}(h:j < l.length):(intC l)[j]? = some (.int .i64 (nth l j:Int)):=by
 have h':j < (intC l).length:=by rw [intC_len];exact h
 rw [List.getElem?_eq_getElem h'];exact congrArg some (intC_get (List.getElem?_eq_getElem h')).2
theorem Own.form {w:World}{base:Nat}{v:Value}{l:List Nat}(h:Own w base v l):∃ A c,v = .slice A l.length c∧Ints w A l:=by
 obtain⟨_,⟨rfl,hn⟩ | ⟨g,cap,cur,rfl,hb,hh,hm,_,hs,ht⟩⟩:=h
 ·exact⟨none,0,by rw [hn],.inl (List.eq_nil_of_length_eq_zero hn)⟩
 refine⟨_,cap,rfl,.inr ⟨g,0,rfl,(Array.getElem?_eq_some_iff.1 hh).1,fun i hi=>?_⟩⟩;rw [Nat.zero_add,cell_of_row w g i cur 3 (0,0) hh];have e:(cur.toList.take (l.length * 1))[i]? = some (.int .i64 (nth l i:Int)):=by rw [ht,intC_at hi]
 rw [List.getElem?_take] at e;simpa [hi] using e
theorem Own.below {w w':World}{base B:Nat}{v:Value}{l:List Nat}(h:Own w base v l) (hb:Below B w w') (hB:w.heap.size≤B):Own w' base v l:=by
 obtain⟨h1,⟨rfl,hn⟩ | ⟨g,cap,cur,rfl,hb',hh,hm,hx,hs,ht⟩⟩:=h
 ·exact⟨h1,.inl ⟨rfl,hn⟩⟩
 refine⟨h1,.inr ⟨g,cap,cur,rfl,hb',?_,hm,hx,hs,ht⟩⟩;rw [hb.block g (by have:=(Array.getElem?_eq_some_iff.1 hh).1;omega)];exact hh
theorem Own.less {w:World}{base base':Nat}{v:Value}{l:List Nat}(h:Own w base v l) (hb:base'≤base):Own w base' v l:=by
 obtain⟨h1,⟨rfl,hn⟩ | ⟨g,cap,cur,rfl,hg,hh,hm,hx,hs,ht⟩⟩:=h
 ·exact⟨h1,.inl ⟨rfl,hn⟩⟩
 exact⟨h1,.inr ⟨g,cap,cur,rfl,by omega,hh,hm,hx,hs,ht⟩⟩
theorem own_nil (w:World) (base:Nat):Own w base (.slice none 0 0) []:=World.ownsRow_nil w base 3 1
theorem info_int:(Tryz.prog.info? 3).map (fun i=>(i.zero,i.size,i.bytes))=some (some (.int .i64 0),1,8):=by kernel_rfl
set_option maxRecDepth 100000 in
theorem clone_any (A:Option Addr) (c:Nat) (l:List Nat) (w:World) (hl:l.length≤1000000) (hw:Ints w A l) :
  Calls Tryz.prog 35 #[.slice A l.length c] w fun e w'=>(∃ v,e = .returned v∧Own w' w.heap.size v l)∧Below w.heap.size w w':=by
 cases A with
 | none =>
  have hn:l=[]:=by
   rcases hw with h | ⟨g,o,e,_⟩
   ·exact h
   cases e
  subst hn;have hq:∀ W,(binOp .eql 41 (.slice none 0 c) (.slice none 0 0)).run Tryz.prog W = .ok (.bool true) W:=fun W=>Lib.run_eql_slice_nil W 41 3 none 0 c 0 0 Tryz.underlying41;go_enter Tryz.func35,Tryz.ntmps35
  go_wp2
  go_ret;exact⟨⟨_,rfl,own_nil _ _⟩,Below.refl _ _⟩
 | some ad =>
  obtain⟨i0,hi,hz0,hz1,hz2⟩:=info_parts info_int;have HI:=hid hi;have HZ0:=hid hz0;have HZ1:=hid hz1;have HZ2:=hid hz2;have hb0:Below w.heap.size w (w.alloc (.cells #[] 3)):=(Below.refl _ _).alloc (Nat.le_refl _) _;have HN:Hid (∀ j u,(intC l)[j]? = some u→(w.alloc (.cells #[] 3)).cell? (ad.add j)=some u):=by
   refine hid fun j u hu=>?_;obtain⟨ad',e,hc⟩:=(hw.below hb0 (Nat.le_refl _)).src (by have:=(List.getElem?_eq_some_iff.1 hu).1;omega);injection e with e;subst e;exact hc j u hu
  have hlen:l.length≤1000000:=hl;have hq:∀ W,(binOp .eql 41 (.slice (some ad) l.length c) (.slice none 0 0)).run Tryz.prog W = .ok (.bool false) W:=fun W=>Lib.run_eql_slice_nil W 41 3 (some ad) l.length c 0 0 Tryz.underlying41;clear hw hi hz0 hz1 hz2 hb0;go_enter Tryz.func35,Tryz.ntmps35
  go_wp2_with (at_builtin;refine wpList_append_own _ rfl (.tmp 5) (.tmp 6) 41 rfl w.heap.size 3 i0 (.int .i64 0) 1 8 Tryz.underlying41 HI.out HZ0.out HZ1.out HZ2.out rfl (by decide) (.slice (some ⟨w.heap.size,0,none⟩) 0 0) 0 [] rfl (World.ownsRow_made w #[] 0 (Nat.le_refl _) (by simp [maxLen]) rfl) ad l.length c (intC l) rfl (by rw [intC_len,Nat.mul_one]) HN.out (intC_one l) (by unfold maxLen;omega) (by omega) (by simp) ?_;intro v' w1 h1 h2 _;have H1:=hid h1;have H2:=hid h2;clear h1 h2)
  go_ret;refine⟨⟨_,rfl,by have:=H1.out;rwa [Nat.zero_add,List.nil_append] at this⟩,?_⟩;exact ((Below.refl _ _).alloc (Nat.le_refl _) _).grown H2.out (by simp) (fun k hk=>by simp [Value.ownBlock] at hk;omega)
theorem sizes_any (l:List Nat) (w:World) (h6:l.length≤6) :
  Calls Tryz.prog 48 #[shV l] w fun e w'=>(∃ v,e = .returned v∧Own w' w.heap.size v l)∧Below w.heap.size w w':=by
 have H:=hid (clone_any (some ⟨w.heap.size,1,none⟩) 6 l (w.alloc (shO l)) (by omega) (new_sh w l h6));have hl:(l.length:Int)≤6:=by omega
 clear h6;go_enter Tryz.func48,Tryz.ntmps48
 go_wp2_with (go_at_call 35;refine H.out.mono ?_;rintro e w' ⟨⟨v,rfl,h1⟩,h2⟩)
 go_ret;exact⟨⟨_,rfl,h1.less (by simp)⟩,((Below.refl _ _).alloc (Nat.le_refl _) _).trans (h2.mono (by simp))⟩
theorem next_drewN {B:Nat}{a w:World}(h:Below B a w) (n:Nat):Below B a (w.drewN n):=⟨h.os,h.tape,h.output,h.size,h.block⟩
theorem equal_len (A A2:Option Addr) (n c n2 c2:Nat) (w:World) (h:n≠n2) :
  Calls Tryz.prog 25 #[.slice A n c,.slice A2 n2 c2] w fun e w'=>e = .returned (.bool false)∧Below w.heap.size w w':=by
 have e1:((n:Int) != (n2:Int))=true:=by rw [bne_iff_ne];omega
 go_enter Tryz.func25,Tryz.ntmps25
 go_wp2
 go_ret;exact⟨rfl,Below.refl _ _⟩
theorem equal_yes (A A2:Option Addr) (n c c2:Nat) (l:List Nat) (w:World) (hn:n=l.length) (hl:n≤1000000) (hw:Ints w A l) (hw2:Ints w A2 l) :
  Calls Tryz.prog 25 #[.slice A n c,.slice A2 n c2] w fun e w'=>e = .returned (.bool true)∧Below w.heap.size w w':=by
 have HN:=hid hn;have HW:=hid hw;have HW2:=hid hw2;clear hn hw hw2;go_enter Tryz.func25,Tryz.ntmps25
 go_wp2_with fail
 go_loopw [5,13] (fun _ i wr=>∃ j:Nat,j≤n∧i = .int .i64 j∧Below w.heap.size w wr) (fun _ i _=>n - (intOf i).toNat)
 case atStart=>exact⟨0,Nat.zero_le _,rfl,Below.refl _ _⟩
 case round =>
  obtain⟨j,hj,rfl,hb⟩:=hrel;have HB:=hid hb;clear hb;by_cases hlt:j < n
  rotate_left
  ·go_wp2
   go_ret;exact⟨rfl,HB.out⟩
  have hjl:j < l.length:=by have:=HN.out;omega
  obtain⟨g,o,rfl,hcell⟩:=(HW.out.below HB.out (Nat.le_refl _)).at_ hjl;obtain⟨g2,o2,rfl,hcell2⟩:=(HW2.out.below HB.out (Nat.le_refl _)).at_ hjl;clear hjl;generalize (nth l j:Int)=y at hcell hcell2;have i1:(j:Int) < (n:Int):=by omega
  have i2:(0:Int)≤(j:Int):=by omega
  go_wp2_with fail
  go_quiet (fail)
  go_wp2
  go_roundw
  case rel=>exact⟨j+1,by omega,by go_num,next_drewN HB.out _⟩
  case measure=>simp [intOf];omega
theorem equal_no (A A2:Option Addr) (n c c2 p:Nat) (l l2:List Nat) (w:World) (hn:n=l.length) (hn2:n=l2.length) (hl:n≤1000000) (hw:Ints w A l) (hw2:Ints w A2 l2) (hp:p < n)
  (hq:∀ i,i < p→nth l i=nth l2 i) (h:nth l p≠nth l2 p) :
  Calls Tryz.prog 25 #[.slice A n c,.slice A2 n c2] w fun e w'=>e = .returned (.bool false)∧Below w.heap.size w w':=by
 have HN:=hid hn;have HN2:=hid hn2;have HW:=hid hw;have HW2:=hid hw2;have HQ:=hid hq;have HX:=hid h;clear hn hw hw2 hn2 hq h;go_enter Tryz.func25,Tryz.ntmps25
 go_wp2_with fail
 go_loopw [5,13] (fun _ i wr=>∃ j:Nat,j≤p∧i = .int .i64 j∧Below w.heap.size w wr) (fun _ i _=>n - (intOf i).toNat)
 case atStart=>exact⟨0,Nat.zero_le _,rfl,Below.refl _ _⟩
 case round =>
  obtain⟨j,hj,rfl,hb⟩:=hrel;have HB:=hid hb;clear hb;have hlt:j < n:=by omega
  have hjl:j < l.length:=by have:=HN.out;omega
  have hjl2:j < l2.length:=by have:=HN2.out;omega
  obtain⟨g,o,rfl,hcell⟩:=(HW.out.below HB.out (Nat.le_refl _)).at_ hjl;obtain⟨g2,o2,rfl,hcell2⟩:=(HW2.out.below HB.out (Nat.le_refl _)).at_ hjl2;clear hjl hjl2;have i1:(j:Int) < (n:Int):=by omega
  have i2:(0:Int)≤(j:Int):=by omega
  by_cases e:j=p
  ·have hx:((nth l j:Int) != (nth l2 j:Int))=true:=by rw [e,bne_iff_ne];have:=HX.out;omega
   generalize (nth l j:Int)=y at hcell hx;generalize (nth l2 j:Int)=y2 at hcell2 hx;clear e;go_wp2_with fail
   go_quiet (fail)
   go_wp2
   go_ret;exact⟨rfl,next_drewN HB.out _⟩
  have hjp:j+1≤p:=by omega
  have hq:=HQ.out j (by omega);rw [← hq] at hcell2;generalize (nth l j:Int)=y at hcell hcell2;clear e hq;go_wp2_with fail
  go_quiet (fail)
  go_wp2
  go_roundw
  case rel=>exact⟨j+1,by omega,by go_num,next_drewN HB.out _⟩
  case measure=>simp [intOf];omega
theorem equal_any (A A2:Option Addr) (c c2:Nat) (l l2:List Nat) (w:World) (hl:l.length≤1000000) (hw:Ints w A l) (hw2:Ints w A2 l2) :
  Calls Tryz.prog 25 #[.slice A l.length c,.slice A2 l2.length c2] w fun e w'=>e = .returned (.bool (decide (l=l2)))∧Below w.heap.size w w':=by
 by_cases e:l=l2
 ·subst e
  rw [decide_eq_true rfl];exact equal_yes A A2 l.length c c2 l w rfl hl hw hw2
 rw [decide_eq_false e];by_cases hlen:l.length=l2.length
 ·rcases first_at (fun i=>nth l i≠nth l2 i) l.length with h | ⟨p,hp,h1,h2⟩
  ·exact absurd (nth_eq hlen (fun i hi=>by have:=h i hi;simpa using this)) e
  rw [← hlen];exact equal_no A A2 l.length c c2 p l l2 w rfl hlen hl hw hw2 hp (fun i hi=>by have:=h1 i hi;simpa using this) h2
 exact equal_len A A2 _ c _ c2 w hlen
end Go.Proofs.YtmokogkndbinlaaGreatDoor
namespace Go.Proofs.YtmokogkndbinlaaGreatDoor
open Go.RowKit Go.Shelf
attribute [local go_sem] Oper.semAt_some
abbrev Place (l:List Nat):={ p:Nat // p < l.length }
def lastPlaces (l:List Nat):(m:Nat)→m≤l.length→List (Place l)
 | 0,_=>[]
 | m+1,h=>lastPlaces l m (by omega)++[⟨l.length - 1 - m,by omega⟩]
theorem lastPlaces_len (l:List Nat) (m:Nat) (h:m≤l.length):(lastPlaces l m h).length=m:=by
 induction m with
 | zero=>rfl
 | succ m ih=>simp [lastPlaces,ih]
theorem grown_of_below {W W':World}(h:Below W.heap.size W W'):W.grownBy W' none:=⟨h.os,h.tape,h.output,h.size,fun k hk _=>h.block k hk⟩
def Same2 (b g:Nat) (W W':World):Prop:=W.heap.size≤W'.heap.size∧W'.heap[b]? = W.heap[b]?∧W'.heap[g]? = W.heap[g]?
theorem Same2.refl (b g:Nat) (W:World):Same2 b g W W:=⟨Nat.le_refl _,rfl,rfl⟩
theorem Same2.trans {b g:Nat}{X Y Z:World}(h:Same2 b g X Y) (k:Same2 b g Y Z):Same2 b g X Z:=⟨Nat.le_trans h.1 k.1,k.2.1.trans h.2.1,k.2.2.trans h.2.2⟩
theorem Same2.cell {b g:Nat}{X Y:World}(h:Same2 b g X Y) (i:Nat):Y.cell? ⟨b,i,none⟩=X.cell? ⟨b,i,none⟩∧Y.cell? ⟨g,i,none⟩=X.cell? ⟨g,i,none⟩ :=
 ⟨World.cell?_of_block (a:=⟨b,i,none⟩) h.2.1,World.cell?_of_block (a:=⟨g,i,none⟩) h.2.2⟩
set_option maxRecDepth 100000 in
set_option maxHeartbeats 2000000 in
theorem back_in (n:Nat) (hn:1≤n) (y Bs g o c:Nat) (l:List Nat) (h6:l.length≤6) (J Jx:List (Place l)→World→Prop) (W:World) (Kp:World→World→Prop)
  (hKp:∀ A B,Kp A B→Same2 Bs g A B)
  (hY:∀ pre x W1,J pre W1→pre.length < l.length→YieldAt Fence.wide (n - 1) Tryz.prog y #[.int .i64 ((x.val:Nat):Int),.int .i64 (nth l x.val:Int)] W1 fun e W' =>
   (e = .returned (.bool true)∧J (pre++[x]) W'∧Kp W1 W')∨(e = .returned (.bool false)∧Jx (pre++[x]) W'))
  (hs:W.cell? ⟨Bs,0,none⟩=some (.slice (some ⟨g,o,none⟩) l.length c)) (hc:∀ i,i < l.length→W.cell? ⟨g,o+i,none⟩=some (.int .i64 (nth l i:Int))) (h0:J [] W) :
  CallsIn Fence.wide n Tryz.prog 269 #[.func (.yield y) #[] #[],.pointer (some ⟨Bs,0,none⟩)] W fun e W'=>(∃ v,e = .returned v) ∧
   ((∃ ys,ys=lastPlaces l l.length (Nat.le_refl _)∧J ys W')∨(∃ pre,True∧Jx pre W')):=by
 have HY:=hid hY;have HC:=hid hc;have HK:=hid hKp;have HS:=hid hs;clear hY hc hKp;have hl6:(l.length:Int)≤6:=by omega
 have hw:IntKind.i64.wrap ((l.length:Int) - 1)=(l.length:Int) - 1:=IntWalk.i64_in _ (by omega);refine callsIn_of_wp Tryz.func269 rfl trivial ?_ rfl;simp only [Tryz.ntmps269,List.size_toArray,List.length_cons,List.length_nil,Nat.reduceAdd,Nat.reduceSub,Array.replicate_succ,Array.replicate_zero,List.push_toArray,List.append_toArray,List.nil_append,List.cons_append]
 gi_wp2
 clear hs hw
 gi_loopw [3] (fun i wr=>∃ (m:Nat) (hm:m≤l.length),i = .int .i64 ((l.length:Int) - 1 - (m:Int))∧J (lastPlaces l m hm) wr∧Same2 Bs g W wr)
  (fun i _=>((intOf i)+1).toNat)
 case atStart=>exact⟨0,Nat.zero_le _,by simp,h0,Same2.refl _ _ _⟩
 case round =>
  obtain⟨m,hm,rfl,hJ,hsame⟩:=hrel;have HJ:=hid hJ;have HSm:=hid hsame;clear hJ hsame h0;by_cases hlt:m < l.length
  rotate_left
  ·obtain rfl:m=l.length:=by omega
   have e1:(l.length:Int) - 1 - (l.length:Int) = -1:=by omega
   rw [e1];clear e1
   gi_wp2
   go_end0
   exact⟨⟨_,rfl⟩,.inl ⟨_,rfl,HJ.out⟩⟩
  have hp:l.length - 1 - m < l.length:=by omega
  obtain⟨p,hpe⟩:∃ p,l.length - 1 - m=p:=⟨_,rfl⟩
  have e1:(l.length:Int) - 1 - (m:Int)=(p:Int):=by omega
  have hcs:wr.cell? ⟨Bs,0,none⟩=some (.slice (some ⟨g,o,none⟩) l.length c):=(HSm.out.cell 0).1.trans HS.out;have hcell:wr.cell? ⟨g,o+p,none⟩=some (.int .i64 (nth l p:Int)):=(HSm.out.cell (o+p)).2.trans (HC.out p (by omega));have hpl:p < l.length:=by omega
  obtain⟨fn,tmps,assign,body,hy,hR⟩:=HY.out _ ⟨p,hpl⟩ wr HJ.out (by rw [lastPlaces_len];exact hlt);have HE:Hid (lastPlaces l (m+1) hlt=lastPlaces l m hm++[⟨p,hpl⟩]):=hid (by subst hpe;rfl);have HP:=hid hpe;rw [e1];clear hp e1 hpe;dsimp only at hy
  gi_wp2
  refine hR.mono ?_;rintro e W3 (⟨rfl,hJ3,hk3⟩ | ⟨rfl,hJx3⟩);rotate_left
  ·gi_wp2
   refine bodyPost_ret (results_none rfl _ _ _) rfl ?_;exact⟨⟨_,rfl⟩,.inr ⟨_,trivial,hJx3⟩⟩
  have HJ3:=hid hJ3;have HS3:=hid (HSm.out.trans (HK.out _ _ hk3));clear hJ3 hk3 hy hR
  gi_wp2
  go_roundw
  case rel=>exact⟨m+1,hlt,by have:=HP.out;exact congrArg _ (by omega),by rw [HE.out];exact HJ3.out,HS3.out⟩
  case measure=>simp [intOf] <;> omega
theorem back_stops (n:Nat) (hn:1≤n) (Bs g o c:Nat) (l:List Nat) (h6:l.length≤6) (w:World) (hBs:Bs < w.heap.size) (hg:g < w.heap.size)
  (hs:w.cell? ⟨Bs,0,none⟩=some (.slice (some ⟨g,o,none⟩) l.length c)) (hc:∀ i,i < l.length→w.cell? ⟨g,o+i,none⟩=some (.int .i64 (nth l i:Int))) :
  SeqStopsK Fence.wide n Tryz.prog 269 #[.pointer (some ⟨Bs,0,none⟩)] (fun x:Place l=>#[Value.int .i64 ((x.val:Nat):Int),.int .i64 (nth l x.val:Int)]) (Same2 Bs g)
   (fun ys=>ys=lastPlaces l l.length (Nat.le_refl _)) (fun _=>True) l.length w:=fun y J Jx W hW _ _ hY h0 =>
 back_in n hn y Bs g o c l h6 J Jx W (Same2 Bs g) (fun _ _ h=>h) hY ((hW.cell (p:=⟨Bs,0,none⟩) hBs).trans hs) (fun i hi=>(hW.cell (p:=⟨g,o+i,none⟩) hg).trans (hc i hi)) h0
end Go.Proofs.YtmokogkndbinlaaGreatDoor
namespace Go.Proofs.YtmokogkndbinlaaGreatDoor
open Go.RowKit Go.Shelf
abbrev HoldT (w:World) (l:List Nat) (i:Int) (W:World):Prop :=
 W.cell? ⟨w.heap.size,0,none⟩=some (.int .i64 (l.length:Int))∧W.cell? ⟨w.heap.size,1,none⟩=some (szV l 0)∧W.cell? ⟨w.heap.size,2,none⟩=some (szV l 1)∧W.cell? ⟨w.heap.size,3,none⟩=some (szV l 2) ∧
 W.cell? ⟨w.heap.size,4,none⟩=some (szV l 3)∧W.cell? ⟨w.heap.size,5,none⟩=some (szV l 4)∧W.cell? ⟨w.heap.size,6,none⟩=some (szV l 5)∧W.cell? ⟨w.heap.size+1,0,none⟩=some (.int .i64 i)∧W.heap[w.heap.size]? = some (shO l)∧W.heap[w.heap.size+1]? = some (.cells #[.int .i64 i] 3)∧Below w.heap.size w W
theorem holdT {w W W':World}{l:List Nat}{i:Int}(h:HoldT w l i W) (hb:Below W.heap.size W W'):HoldT w l i W':=by
 obtain⟨h0,h1,h2,h3,h4,h5,h6,h7,g0,g1,h8⟩:=h;have l0:w.heap.size < W.heap.size:=World.block_lt_of_cell? W _ h0;have l1:w.heap.size+1 < W.heap.size:=World.block_lt_of_cell? W _ h7;exact⟨(hb.cell (p:=⟨_,0,none⟩) l0).trans h0,(hb.cell (p:=⟨_,1,none⟩) l0).trans h1,(hb.cell (p:=⟨_,2,none⟩) l0).trans h2,(hb.cell (p:=⟨_,3,none⟩) l0).trans h3,(hb.cell (p:=⟨_,4,none⟩) l0).trans h4,
  (hb.cell (p:=⟨_,5,none⟩) l0).trans h5,(hb.cell (p:=⟨_,6,none⟩) l0).trans h6,(hb.cell (p:=⟨_,0,none⟩) l1).trans h7,(hb.block _ l0).trans g0,(hb.block _ l1).trans g1,h8.trans (hb.mono h8.size)⟩
theorem holdT_lt {w W:World}{l:List Nat}{i:Int}(h:HoldT w l i W):w.heap.size+1 < W.heap.size:=World.block_lt_of_cell? W _ h.2.2.2.2.2.2.2.1
theorem holdT_new (w:World) (l:List Nat) (i:Int):HoldT w l i ((w.alloc (shO l)).alloc (.cells #[.int .i64 i] 3)):=by
 have a:=ShAt.new w l;have b:Below (w.heap.size+1) (w.alloc (shO l)) ((w.alloc (shO l)).alloc (.cells #[.int .i64 i] 3)):=(Below.refl _ _).alloc (by simp) _;have c:=a.below b (by omega);have g1:=alloc_two w (shO l) (.cells #[.int .i64 i] 3);have g0:((w.alloc (shO l)).alloc (.cells #[.int .i64 i] 3)).heap[w.heap.size]? = some (shO l):=(b.block w.heap.size (by omega)).trans (heap_alloc_new w _);exact⟨c.c0,c.c1,c.c2,c.c3,c.c4,c.c5,c.c6,by rw [cell_of_row _ _ _ _ _ _ g1];rfl,g0,g1,((Below.refl _ _).alloc (Nat.le_refl _) _).alloc (by simp) _⟩
theorem count_below (l:List Nat) (w:World) (h6:l.length≤6) (h32:∀ n∈l,n≤32) (P:Nat) (hP:prodL l=P) :
  Calls Tryz.prog 147 #[shV l] w fun e w'=>e = .returned (.int .i64 (P:Int))∧Below w.heap.size w w':=by
 subst hP;exact (count_any_ShA l w h6 h32).mono fun e w' ⟨he,hw⟩=>⟨he,by subst hw;exact (Below.refl _ _).alloc (Nat.le_refl _) _⟩
end Go.Proofs.YtmokogkndbinlaaGreatDoor
namespace Go.Proofs.YtmokogkndbinlaaGreatDoor
end Go.Proofs.YtmokogkndbinlaaGreatDoor
namespace Go.Proofs.YtmokogkndbinlaaGreatDoor
open Go.RowKit
structure RdV where
 sc:Nat
 fp:Int
 fe:Int
 lp:Int
 le:Int
 name:Value
 top:Int
 sizes:Value
 funs:Value
 shared:Value
 told:Int
def rdC (v:RdV):Array Value:=#[.pointer (some ⟨v.sc,0,none⟩),.int .i64 v.fp,.int .i64 v.fe,.int .i64 v.lp,.int .i64 v.le,v.name,.int .i64 v.top,v.sizes,v.funs,v.shared,.int .i64 v.told]
def RdAt (W:World) (b:Nat) (v:RdV):Prop:=W.heap[b]? = some (.cells (rdC v) 125 (0,0))
theorem RdAt.lt {W:World}{b:Nat}{v:RdV}(h:RdAt W b v):b < W.heap.size:=(Array.getElem?_eq_some_iff.1 h).1
theorem RdAt.cell {W:World}{b:Nat}{v:RdV}(h:RdAt W b v) {i:Nat}{u:Value}(hi:(rdC v)[i]? = some u):W.cell? ⟨b,i,none⟩=some u:=by rw [cell_of_row _ _ _ _ _ _ h];exact hi
theorem RdAt.frozen {W:World}{b:Nat}{v:RdV}(h:RdAt W b v) (i:Nat):W.frozen? ⟨b,i,none⟩=false:=frozen_of_row _ _ _ _ _ h
theorem RdAt.next {W W':World}{b:Nat}{v:RdV}(h:RdAt W b v) {row:Option Nat}(hg:W.grownBy W' row) (hne:some b≠row):RdAt W' b v:=(hg.block b h.lt hne).trans h
theorem grown_put (w:World) (b i:Nat) (v:Value):w.grownBy (w.setCell ⟨b,i,none⟩ v) (some b):=⟨rfl,rfl,rfl,(KeepsWalks.setCell w _ _).size,fun j _ hne=>Below.heap_setCell w ⟨b,i,none⟩ _ j (fun e=>hne (by rw [e]))⟩
theorem right_at (b i:Nat) (x:Int) (w:World) (h:w.cell? ⟨b,i+1,none⟩=some (.int .i64 x)) :
  Calls Tryz.prog 75 #[.pointer (some ⟨b,i,none⟩)] w fun e w'=>e = .returned (.bool (x == 0))∧w=w':=by
 go_enter Tryz.func75,Tryz.ntmps75
 go_wp2_with fail
 go_ret;exact⟨rfl,rfl⟩
theorem note_new (b i:Nat) (p e:Int) (w:World) (cs:Array Value) (t:TypeId) (hr:w.heap[b]? = some (.cells cs t (0,0))) (h0:cs[i]? = some (.int .i64 0)∨∃ q,cs[i]? = some (.int .i64 q)) (h1:cs[i+1]? = some (.int .i64 0)) :
  Calls Tryz.prog 166 #[.pointer (some ⟨b,i,none⟩),.int .i64 p,.int .i64 e] w fun e' w'=>(∃ v,e' = .returned v)∧w'.heap[b]? = some (.cells ((cs.setIfInBounds i (.int .i64 p)).setIfInBounds (i+1) (.int .i64 e)) t (0,0))∧w.grownBy w' (some b):=by
 obtain⟨q,hq⟩:∃ q,cs[i]? = some (.int .i64 q):=by
  rcases h0 with h | h
  ·exact⟨0,h⟩
  exact h
 have c0:w.cell? ⟨b,i,none⟩=some (.int .i64 q):=by rw [cell_of_row _ _ _ _ _ _ hr];exact hq
 have c1:w.cell? ⟨b,i+1,none⟩=some (.int .i64 0):=by rw [cell_of_row _ _ _ _ _ _ hr];exact h1
 have f0:w.frozen? ⟨b,i,none⟩=false:=frozen_of_row _ _ _ _ _ hr;have f1:w.frozen? ⟨b,i+1,none⟩=false:=frozen_of_row _ _ _ _ _ hr;have RT:=hid (right_at b i 0 w c1);have HR:=hid hr;clear hr h0 h1 hq;go_enter Tryz.func166,Tryz.ntmps166
 go_wp2_with fail
 refine RT.out.mono ?_;rintro e' w' ⟨rfl,rfl⟩;go_wp2_with fail
 go_end0
 have r1:=heap_setCell_same w b i _ _ (.int .i64 p) HR.out;have r2:=heap_setCell_same (w.setCell ⟨b,i,none⟩ (.int .i64 p)) b (i+1) _ _ (.int .i64 e) r1;exact⟨⟨_,rfl⟩,r2,sgrown_then (grown_put w b i (.int .i64 p)) (grown_put (w.setCell ⟨b,i,none⟩ (.int .i64 p)) b (i+1) (.int .i64 e))⟩
theorem note_old (b i:Nat) (p e x:Int) (w:World) (h1:w.cell? ⟨b,i+1,none⟩=some (.int .i64 x)) (hx:x≠0) :
  Calls Tryz.prog 166 #[.pointer (some ⟨b,i,none⟩),.int .i64 p,.int .i64 e] w fun e' w'=>(∃ v,e' = .returned v)∧w=w':=by
 have RT:=hid (right_at b i x w h1);have d:(x == 0)=false:=by simpa using hx
 rw [d] at RT;clear h1 hx d;go_enter Tryz.func166,Tryz.ntmps166
 go_wp2_with fail
 refine RT.out.mono ?_;rintro e' w' ⟨rfl,rfl⟩;go_wp2_with fail
 go_end0
 exact⟨⟨_,rfl⟩,rfl⟩
end Go.Proofs.YtmokogkndbinlaaGreatDoor
namespace Go.Proofs.YtmokogkndbinlaaGreatDoor
open Go.RowKit
def GlobR (W:World):Prop:=∃ ev,W.cell? ⟨3,0,none⟩=some ev∧(ev = .nilIface∨∃ te pe,ev = .iface te pe)
theorem GlobR.below {W W':World}(h:GlobR W) (hb:Below W.heap.size W W'):GlobR W':=by
 obtain⟨ev,h1,h2⟩:=h;exact⟨ev,(hb.cell (p:=⟨3,0,none⟩) (World.block_lt_of_cell? W _ h1)).trans h1,h2⟩
theorem read_far (s:ByteArray) (w:World) (hs:s.size≤1000000) (d:List UInt8) (hd:Lib.trimPrefix s.data.toList [45]=d) (hne:d≠[]) (h:∀ b∈d,tenL.contains b=true) (hv:Lib.parseIntB 64 s.data.toList = .range) (hG:GlobR w) :
  Calls Tryz.prog 168 #[.string s] w fun e w'=>e = .returned (.tuple #[.int .i64 (min (max (Lib.intSat 64 s.data.toList) (-4611686018427387904)) 4611686018427387904),.int .i64 0])∧Below w.heap.size w w':=by
 have hdl:=trim_len _ _ hd;rw [size_list] at hdl;have HP:=hid (fun W=>Tryz.strings_TrimPrefix s ⟨#[45]⟩ W);have hd':Lib.trimPrefix s.data.toList (⟨#[45]⟩:ByteArray).data.toList=d:=hd;rw [hd'] at HP;have he:(!d.isEmpty)=true:=by cases d with
  | nil=>exact absurd rfl hne
  | cons=>rfl
 have he2:d.isEmpty=false:=by cases d with
  | nil=>exact absurd rfl hne
  | cons=>rfl
 have ht:=trimS_nil d tenL h;have HT:=hid (fun W=>Tryz.strings_Trim_laid ⟨d.toArray⟩ ⟨#[48,49,50,51,52,53,54,55,56,57]⟩ W (by show d.toArray.size≤_;rw [List.size_toArray];omega) (by decide) ten_ascii);have ht':Lib.trimS (⟨d.toArray⟩:ByteArray).data.toList (⟨#[48,49,50,51,52,53,54,55,56,57]⟩:ByteArray).data.toList=[]:=ht;rw [ht'] at HT;have HV:=hid (fun ev W h1 h2=>Tryz.strconv_ParseInt_10_at64_range s (by omega) hv ev W h1 h2);have HG:=hid hG;generalize Lib.intSat 64 s.data.toList=v at HV ⊢;clear hd hd' h ht ht' hv hG;go_enter Tryz.func168,Tryz.ntmps168
 go_wp2_with (first | (go_at_call 210;refine (HP.out _).mono ?_;rintro e w' ⟨rfl,rfl⟩) | (go_at_call 211;refine (HT.out _).mono ?_;rintro e w2 ⟨rfl,hb⟩;have HB:=hid hb;clear hb))
 obtain⟨ev,g1,g2⟩:=HG.out.below HB.out;have HV2:=hid (HV.out ev _ g1 g2);clear g1 g2;refine HV2.out.mono ?_;rintro e w3 ⟨N,rfl,hN,_,hb⟩;have HB2:=hid hb;clear hb;go_wp2_with fail
 go_ret2;exact⟨rfl,then_ HB.out HB2.out⟩
theorem read_any (s:ByteArray) (w:World) (hs:s.size≤1000000) (hG:GlobR w) :
  Calls Tryz.prog 168 #[.string s] w fun e w'=>e = .returned (.tuple #[.int .i64 (readV s.data.toList),.int .i64 (readE s.data.toList)])∧Below w.heap.size w w':=by
 have ten:∀ b:UInt8,(48≤b.toNat∧b.toNat≤57)→tenL.contains b=true:=by
  intro b ⟨h1,h2⟩;have:b.toNat=48∨b.toNat=49∨b.toNat=50∨b.toNat=51∨b.toNat=52∨b.toNat=53∨b.toNat=54∨b.toNat=55∨b.toNat=56∨b.toNat=57:=by omega
  have e:∀ k:UInt8,b.toNat=k.toNat→b=k:=fun k h=>UInt8.toNat_inj.1 h;rcases this with h | h | h | h | h | h | h | h | h | h
  ·rw [e 48 h];rfl
  ·rw [e 49 h];rfl
  ·rw [e 50 h];rfl
  ·rw [e 51 h];rfl
  ·rw [e 52 h];rfl
  ·rw [e 53 h];rfl
  ·rw [e 54 h];rfl
  ·rw [e 55 h];rfl
  ·rw [e 56 h];rfl
  rw [e 57 h];rfl
 have net:∀ b:UInt8,¬ (48≤b.toNat∧b.toNat≤57)→tenL.contains b=false:=by
  intro b h;cases hc:tenL.contains b with
  | false=>rfl
  | true =>
   exfalso
   apply h;simp at hc
   rcases hc with rfl | rfl | rfl | rfl | rfl | rfl | rfl | rfl | rfl | rfl <;> decide
 have hd:=trim_digs s.data.toList;cases ho:okD (digs s.data.toList) with
 | true =>
  have hp:=(okD_iff _).1 ho;have e:readE s.data.toList=0:=by unfold readE;rw [if_pos ho]
  rw [e];rcases parse_digs s.data.toList ho with ⟨v,h1,h2⟩ | ⟨h1,h2⟩
  ·rw [← h2]
   exact read_ok s w hs _ v hd hp.1 (fun b hb=>ten b (hp.2 b hb)) h1
  rw [← h2];exact read_far s w hs _ hd hp.1 (fun b hb=>ten b (hp.2 b hb)) h1 hG
 | false =>
  have e:readE s.data.toList=4:=by unfold readE;rw [if_neg (by simp [ho])]
  have e2:readV s.data.toList=0:=by unfold readV;rw [if_neg (by simp [ho])]
  rw [e,e2];refine read_form s w hs _ hd ?_;by_cases hn:digs s.data.toList=[]
  ·exact .inl hn
  refine .inr (Classical.byContradiction fun hc=>?_);have:okD (digs s.data.toList)=true:=(okD_iff _).2 ⟨hn,fun c hcm=>Classical.byContradiction fun h=>hc ⟨c,hcm,net c h⟩⟩;rw [ho] at this;cases this
end Go.Proofs.YtmokogkndbinlaaGreatDoor
