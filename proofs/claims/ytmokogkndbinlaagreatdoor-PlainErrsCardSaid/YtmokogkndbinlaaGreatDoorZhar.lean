import Derived.Lib.ConvBytes
import Derived.Test.YtmokogkndbinlaaGreatDoorZhaq
set_option linter.all false
namespace Go.Proofs.YtmokogkndbinlaaGreatDoor
open Go.Lib (hid)
open Go.RowKit Go.Maps
def mn2 (x y:Int):Int:=min x y
theorem run_mn2 {P:Program}(w:World) (ts:Array TypeId) (t:TypeId) (k k':IntKind) (x y:Int) :
  (Builtin.min_ ts t #[.int k x,.int k' y]).run P w = .ok (.int k (mn2 x y)) w:=by
 have e:(if y < x then y else x)=mn2 x y:=by
  unfold mn2;split <;> omega
 simp [Builtin.min_,Builtin.min2,e]
theorem tparity_ok (g b N c:Nat) (A:Option Addr) (l:List Nat) (k o:Int) (f:List Nat→Int) (w:World) (H:TpAt w g b A c N l k o f) :
  Calls Tryz.prog 160 #[.pointer (some ⟨g,0,none⟩)] w fun e w'=>e = .returned (.int .i64 (l.length:Int))∧w=w':=by
 obtain⟨a0,a1,a2,a3⟩:=H.cells;clear H;go_enter Tryz.func160,Tryz.ntmps160
 go_wp2_with fail
 go_ret;exact⟨rfl,rfl⟩
theorem tpk_ok (g b N c:Nat) (A:Option Addr) (l:List Nat) (k o:Int) (f:List Nat→Int) (w:World) (H:TpAt w g b A c N l k o f) :
  Calls Tryz.prog 118 #[.pointer (some ⟨g,0,none⟩)] w fun e w'=>e = .returned (.int .i64 k)∧w=w':=by
 obtain⟨a0,a1,a2,a3⟩:=H.cells;clear H;go_enter Tryz.func118,Tryz.ntmps118
 go_wp2_with fail
 go_ret;exact⟨rfl,rfl⟩
theorem tpother_ok (g b N c:Nat) (A:Option Addr) (l:List Nat) (k o:Int) (f:List Nat→Int) (w:World) (H:TpAt w g b A c N l k o f) :
  Calls Tryz.prog 29 #[.pointer (some ⟨g,0,none⟩)] w fun e w'=>e = .returned (.int .i64 o)∧w=w':=by
 obtain⟨a0,a1,a2,a3⟩:=H.cells;clear H;go_enter Tryz.func29,Tryz.ntmps29
 go_wp2_with fail
 go_ret;exact⟨rfl,rfl⟩
theorem tpsizes_ok (g b N c:Nat) (A:Option Addr) (l:List Nat) (k o:Int) (f:List Nat→Int) (w:World) (H:TpAt w g b A c N l k o f) (h6:l.length≤6) :
  Calls Tryz.prog 117 #[.pointer (some ⟨g,0,none⟩)] w fun e w'=>(∃ v,e = .returned v∧Own w' w.heap.size v l)∧Below w.heap.size w w':=by
 obtain⟨a0,a1,a2,a3⟩:=H.cells;have HC:=hid (clone_any A c l w (by omega) H.ints);clear H;go_enter Tryz.func117,Tryz.ntmps117
 go_wp2_with fail
 refine HC.out.mono ?_;rintro e w1 ⟨⟨v,rfl,hv⟩,hb⟩;have HV:=hid hv;have HB:=hid hb;clear hv hb;go_wp2_with fail
 go_ret;exact⟨⟨_,rfl,HV.out⟩,HB.out⟩
def capA (a b k:Int):Int:=if a+b > k then k else a+b
attribute [local go_sem ↓] run_mn2
theorem capped_any (a b k:Int) (w:World) (ha0:0≤a) (ha1:a≤2147483648) (hb0:0≤b) (hb1:b≤2147483648) :
  Calls Tryz.prog 149 #[.int .i64 a,.int .i64 b,.int .i64 k] w fun e w'=>e = .returned (.int .i64 (capA a b k))∧w=w':=by
 have e:mn2 (a+b) k=capA a b k:=by unfold mn2 capA;split <;> omega
 go_enter Tryz.func149,Tryz.ntmps149
 go_wp2_with fail
 go_ret;exact⟨rfl,rfl⟩
set_option maxRecDepth 100000 in
theorem add_yes (a b k:Int) (w:World) (h1:1≤k) (h2:k≤2147483648) (ha0:0≤a) (ha1:a≤k) (hb0:0≤b) (hb1:b≤k) :
  Calls Tryz.prog 89 #[.int .i64 a,.int .i64 b,.int .i64 k] w fun e w'=>e = .returned (.tuple #[.int .i64 (capA a b k),.int .i64 0])∧w=w':=by
 go_enter Tryz.func89,Tryz.ntmps89
 have CP:=hid (capped_any a b k w ha0 (by omega) hb0 (by omega));go_wp2_with fail
 refine (in_yes a _ _ h1 h2 ha0 ha1).mono ?_;rintro e w' ⟨rfl,rfl⟩;go_wp2_with fail
 refine (in_yes b _ _ h1 h2 hb0 hb1).mono ?_;rintro e w' ⟨rfl,rfl⟩;go_wp2_with fail
 refine CP.out.mono ?_;rintro e w' ⟨rfl,rfl⟩;go_wp2_with fail
 go_ret2;exact⟨rfl,rfl⟩
theorem tplen_le (g b N c:Nat) (A:Option Addr) (l:List Nat) (k o:Int) (f:List Nat→Int) (w:World) (H:TpAt w g b A c N l k o f) :
  Calls Tryz.prog 36 #[.pointer (some ⟨g,0,none⟩)] w fun e w'=>(∃ n:Nat,e = .returned (.int .i64 (n:Int))∧n≤N)∧w=w':=by
 obtain⟨D,hown,hrep⟩:=H.map;have HO:=hid hown;have HL:=hid hown.size_le;obtain⟨a0,a1,a2,a3⟩:=H.cells;clear H hown hrep;go_enter Tryz.func36,Tryz.ntmps36
 go_wp2_with (at_len;refine wpList_len_own _ rfl _ 136 rfl 139 2 Tryz.underlying136 _ b N D rfl HO.out ?_)
 go_ret;exact⟨⟨_,rfl,HL.out⟩,rfl⟩
theorem wcwrong_no (x:Int) (w:World) (h1:1≤x) (h2:x≤32):Calls Tryz.prog 124 #[.int .i64 x] w fun e w'=>e = .returned (.bool false)∧w=w':=by
 go_enter Tryz.func124,Tryz.ntmps124
 go_wp2
 go_ret;exact⟨ret_bool (by simp <;> omega),rfl⟩
theorem index_noneW (A:Option Addr) (n c:Nat) (z:Nat→Int) (w:World) (hn:n≤1000000) (hr:Zs w A n z) (hz:∀ i,i < n→1≤z i∧z i≤32) :
  Calls Tryz.prog 153 #[.slice A n c,.func (.func 124) #[] #[]] w fun e w'=>e = .returned (.int .i64 (-1))∧w=w':=by
 have HZ:=hid hz;have HR:=hid hr;clear hz hr;go_enter Tryz.func153,Tryz.ntmps153
 go_wp2_with fail
 go_loop [5,8] (fun _ i=>∃ j:Nat,j≤n∧i = .int .i64 j) (fun _ i=>n - (intOf i).toNat)
 case atStart=>exact⟨0,Nat.zero_le _,rfl⟩
 case round =>
  obtain⟨j,hj,rfl⟩:=hrel;by_cases hlt:j < n
  rotate_left
  ·go_wp2
   go_ret;exact⟨rfl,rfl⟩
  obtain⟨g,o,rfl,hcell⟩:=HR.out.at_ hlt;have hz:=HZ.out j hlt;generalize z j=x at hcell hz;obtain⟨hz1,hz2⟩:=hz;go_wp2_with (go_at_call 124;refine (wcwrong_no _ _ hz1 hz2).mono ?_;rintro e w' ⟨rfl,rfl⟩)
  go_round
  case rel=>exact⟨j+1,by omega,by go_num⟩
  case measure=>simp [intOf];omega
theorem contains_noW (A:Option Addr) (n c:Nat) (z:Nat→Int) (w:World) (hn:n≤1000000) (hr:Zs w A n z) (hz:∀ i,i < n→1≤z i∧z i≤32) :
  Calls Tryz.prog 123 #[.slice A n c,.func (.func 124) #[] #[]] w fun e w'=>e = .returned (.bool false)∧w=w':=by
 have H:=hid (index_noneW A n c z w hn hr hz);clear hr hz;go_enter Tryz.func123,Tryz.ntmps123
 go_wp2_with (go_at_call 153;refine H.out.mono ?_;rintro e w' ⟨rfl,rfl⟩)
 go_ret;exact⟨rfl,rfl⟩
end Go.Proofs.YtmokogkndbinlaaGreatDoor
namespace Go.Proofs.YtmokogkndbinlaaGreatDoor
open Go.RowKit
structure FileR (W:World) (fb:Nat) (X:ByteArray) (k:Int) (sizes:List Nat) (fs:List FunM) (As Af:Option Addr) (cs cf:Nat):Prop where
 row:W.heap[fb]? = some (.cells #[.string X,.int .i64 k,.slice As sizes.length cs,.slice Af fs.length cf] 54 (0,0))
 szs:Ints W As sizes
 funs:∀ i f,fs[i]? = some f→∃ gf sv tv,Af=some ⟨gf,0,none⟩∧gf < W.heap.size∧W.cell? ⟨gf,i * 2,none⟩=some sv∧W.cell? ⟨gf,i * 2+1,none⟩=some tv∧FunE W k sizes f (fun j=>j < W.heap.size) sv tv
theorem FunE.below {W W':World}{k:Int}{sizes:List Nat}{f:FunM}{sv tv:Value}(h:FunE W k sizes f (fun j=>j < W.heap.size) sv tv) (hb:Below W.heap.size W W'):FunE W' k sizes f (fun j=>j < W'.heap.size) sv tv :=
 h.keep hb.size (fun j hj=>hb.block j hj) (fun j hj=>Nat.lt_of_lt_of_le hj hb.size)
theorem FileR.below {W W':World}{fb:Nat}{X:ByteArray}{k:Int}{sizes:List Nat}{fs:List FunM}{As Af:Option Addr}{cs cf:Nat}(h:FileR W fb X k sizes fs As Af cs cf) (hb:Below W.heap.size W W'):FileR W' fb X k sizes fs As Af cs cf:=by
 refine⟨(hb.block fb (Array.getElem?_eq_some_iff.1 h.row).1).trans h.row,h.szs.below hb (Nat.le_refl _),fun i f hf=>?_⟩;obtain⟨gf,sv,tv,h1,h2,h3,h4,h5⟩:=h.funs i f hf;exact⟨gf,sv,tv,h1,Nat.lt_of_lt_of_le h2 hb.size,(hb.cell (p:=⟨gf,i * 2,none⟩) h2).trans h3,(hb.cell (p:=⟨gf,i * 2+1,none⟩) h2).trans h4,h5.below hb⟩
theorem FileAt.r {W:World}{fb base:Nat}{X:ByteArray}{k:Int}{sizes:List Nat}{fs:List FunM}{As:Option Addr}{cs:Nat}{fv:Value}{us:List (Value × Value)} (h:FileAt W fb base X k sizes fs As cs fv us (PF W fb fv)):∃ Af cf,FileR W fb X k sizes fs As Af cs cf:=by
 obtain⟨Af,cf,hfv⟩:=h.own.form;have hl:=h.funs.1;refine⟨Af,cf,by rw [h.row,hfv,hl],h.szs,fun i f hf=>?_⟩;obtain⟨sv,tv,h1,h2⟩:=h.funs.2 i f hf;obtain⟨a1,a2⟩:=fuC_at us i _ h1;have hi:i < us.length:=(List.getElem?_eq_some_iff.1 h1).1;have ho:=h.own;rw [hfv] at ho;have ho':=ho;obtain⟨_,⟨e,hn⟩ | ⟨g,cap,cur,e,hb,hh,_⟩⟩:=ho'
 ·omega
 injection e with e1 e2 e3;subst e1;have c1:=World.ownsRow.cellAt (ho:W.ownsRow base 62 2 _ us.length _) (i * 2) (by omega);have c2:=World.ownsRow.cellAt (ho:W.ownsRow base 62 2 _ us.length _) (i * 2+1) (by omega);exact⟨g,sv,tv,rfl,(Array.getElem?_eq_some_iff.1 hh).1,c1.trans a1,c2.trans a2,h2.keep (Nat.le_refl _) (fun _ _=>rfl) (fun j hj=>hj.1)⟩
theorem FileR.cells {W:World}{fb:Nat}{X:ByteArray}{k:Int}{sizes:List Nat}{fs:List FunM}{As Af:Option Addr}{cs cf:Nat}(h:FileR W fb X k sizes fs As Af cs cf) :
  W.cell? ⟨fb,0,none⟩=some (.string X)∧W.cell? ⟨fb,1,none⟩=some (.int .i64 k)∧W.cell? ⟨fb,2,none⟩=some (.slice As sizes.length cs)∧W.cell? ⟨fb,3,none⟩=some (.slice Af fs.length cf):=by
 refine⟨?_,?_,?_,?_⟩ <;> (rw [cell_of_row _ _ _ _ _ _ h.row];rfl)
theorem pick_ok {sizes scope:List Nat}(hs:∀ x∈sizes,1≤x∧x≤32) (hb:∀ v∈scope,v < sizes.length):∀ n∈pickN sizes scope,1≤n∧n≤32:=by
 intro n hn;obtain⟨i,hi,rfl⟩:=List.mem_map.1 hn;exact hs _ (nth_mem (l:=sizes) (hb i hi))
set_option maxHeartbeats 1000000 in
theorem great_no (k:Int) (sizes:List Nat) (f:FunM) (sv tv:Value) (w:World) (h:FunE w k sizes f (fun j=>j < w.heap.size) sv tv) (hs:∀ x∈sizes,1≤x∧x≤32) (hf:FunOk sizes f) (hl:FunLim sizes f) :
  Calls Tryz.prog 127 #[.agg #[sv,tv]] w fun e w'=>e = .returned (.bool false)∧Below w.heap.size w w':=by
 obtain⟨Asc,csc,g,mb,A,c,N,rfl,-,rfl,h3,h4,h5,-⟩:=h;have L6:(pickN sizes f.scope).length≤6:=by simp [pickN];exact hl.1
 have n1:=new_val w (.cells #[.slice Asc f.scope.length csc,.pointer (some ⟨g,0,none⟩)] 62);have SZ:=hid (tpsizes_ok g mb N c A (pickN sizes f.scope) k _ _ _ (h4.below n1) L6);have CT:=hid (fun A2 c2 W (h:Ints W A2 (pickN sizes f.scope))=>countR c2 A2 (pickN sizes f.scope) W (by omega) (fun x hx=>by have:=(pick_ok hs hf.below x hx).2;omega) h);have HL:=hid hl.2;have N1:=hid n1;have d:decide ((4096:Int) < (cntM (pickN sizes f.scope) 1:Nat))=false:=decide_eq_false (by have:=hl.2;omega);clear h3 h4 h5 hs hf hl L6 n1;generalize pickN sizes f.scope=l1 at SZ CT HL d;generalize cntM l1 1=q at CT HL d;go_enter Tryz.func127,Tryz.ntmps127
 go_wp2_with (first | (go_at_call 117;refine SZ.out.mono ?_;rintro e w2 ⟨⟨v,rfl,hO⟩,hb⟩;obtain⟨A2,c2,rfl,hI⟩:=hO.form;have HI:=hid hI;replace hb:=hid hb;clear hO hI) | (go_at_call 161;refine (CT.out _ _ _ HI.out).mono ?_;rintro e w' ⟨rfl,rfl⟩) | fail)
 go_ret;exact⟨rfl,then_ N1.out hb.out⟩
theorem containsI_take (W:World) (c:Nat) (A:Option Addr) (l:List Nat) (j x:Nat) (h:Ints W A l) (hj:j≤l.length) (hl:l.length≤200000) :
  Calls Tryz.prog 49 #[.slice A j c,.int .i64 (x:Int)] W fun e w'=>e = .returned (.bool ((l.take j).contains x))∧W=w':=by
 rcases h with rfl | ⟨g,o,rfl,hg,hc⟩
 ·obtain rfl:j=0:=by simpa using hj
  exact (Tryz.slices_Contains_int_empty A c x W).mono fun e w' hh=>⟨by simpa using hh.1,hh.2.symm⟩
 refine (Tryz.slices_Contains_int g o j c (l.map Int.ofNat) x W (by simpa using hj) (by omega) (fun q hq=>?_)).mono fun e w' hh=>⟨?_,hh.2.symm⟩
 ·rw [List.length_map] at hq
  rw [hc q hq];simp [nth,List.getD,hq]
 rw [hh.1,← List.map_take];congr 2
 rw [Bool.eq_iff_iff];simp only [List.contains_iff_mem,List.mem_map];exact⟨fun ⟨a,h,e⟩=>by rwa [← Int.ofNat_inj.1 e],fun h=>⟨x,h,rfl⟩⟩
theorem take_once {l:List Nat}(h:l.Pairwise (·≠·)) {j:Nat}(hj:j < l.length):(l.take j).contains (nth l j)=false:=by
 have e:nth l j=l[j]:=by simp [nth,List.getD,hj]
 rw [e];cases hc:(l.take j).contains l[j] with
 | false=>rfl
 | true =>
  exfalso
  have hm:l[j]∈l.take j:=by simpa using hc
  obtain⟨i,hi,he⟩:=List.getElem_of_mem hm;rw [List.length_take] at hi;rw [List.getElem_take] at he;exact (List.pairwise_iff_getElem.1 h i j (by omega) hj (by omega)) he
end Go.Proofs.YtmokogkndbinlaaGreatDoor
namespace Go.Proofs.YtmokogkndbinlaaGreatDoor
open Go.RowKit
abbrev HoldQ (wb:World) (B fb g n1 c1 n2 c2:Nat) (A1 A2:Option Addr) (W:World):Prop :=
 W.cell? ⟨B,1,none⟩=some (.pointer (some ⟨g,0,none⟩))∧W.cell? ⟨fb,2,none⟩=some (.slice A1 n1 c1)∧W.cell? ⟨B,0,none⟩=some (.slice A2 n2 c2)∧Below wb.heap.size wb W
theorem holdQ {wb W W':World}{B fb g n1 c1 n2 c2:Nat}{A1 A2:Option Addr}(H:HoldQ wb B fb g n1 c1 n2 c2 A1 A2 W) (hb:Below W.heap.size W W'):HoldQ wb B fb g n1 c1 n2 c2 A1 A2 W':=by
 obtain⟨a0,a1,a2,h9⟩:=H;have K:∀ b i v,W.cell? ⟨b,i,none⟩=some v→W'.cell? ⟨b,i,none⟩=some v:=fun b i v h=>(hb.cell (p:=⟨b,i,none⟩) (World.block_lt_of_cell? W _ h)).trans h;exact⟨K _ _ _ a0,K _ _ _ a1,K _ _ _ a2,h9.trans (hb.mono h9.size)⟩
theorem HoldQ.below {wb W:World}{B fb g n1 c1 n2 c2:Nat}{A1 A2:Option Addr}(H:HoldQ wb B fb g n1 c1 n2 c2 A1 A2 W):Below wb.heap.size wb W:=H.2.2.2
abbrev HoldQ2 (wb:World) (B fb g:Nat) (k:Int) (n2 c2:Nat) (A2:Option Addr) (W:World):Prop :=
 W.cell? ⟨B,1,none⟩=some (.pointer (some ⟨g,0,none⟩))∧W.cell? ⟨fb,1,none⟩=some (.int .i64 k)∧W.cell? ⟨B,0,none⟩=some (.slice A2 n2 c2)∧Below wb.heap.size wb W
theorem holdQ2 {wb W W':World}{B fb g n2 c2:Nat}{k:Int}{A2:Option Addr}(H:HoldQ2 wb B fb g k n2 c2 A2 W) (hb:Below W.heap.size W W'):HoldQ2 wb B fb g k n2 c2 A2 W':=by
 obtain⟨a0,a1,a2,h9⟩:=H;have K:∀ b i v,W.cell? ⟨b,i,none⟩=some v→W'.cell? ⟨b,i,none⟩=some v:=fun b i v h=>(hb.cell (p:=⟨b,i,none⟩) (World.block_lt_of_cell? W _ h)).trans h;exact⟨K _ _ _ a0,K _ _ _ a1,K _ _ _ a2,h9.trans (hb.mono h9.size)⟩
theorem HoldQ2.below {wb W:World}{B fb g n2 c2:Nat}{k:Int}{A2:Option Addr}(H:HoldQ2 wb B fb g k n2 c2 A2 W):Below wb.heap.size wb W:=H.2.2.2
set_option maxRecDepth 100000 in
set_option maxHeartbeats 4000000 in
theorem misfit_no (fb cs cf:Nat) (X:ByteArray) (k:Int) (sizes:List Nat) (fs:List FunM) (As Af:Option Addr) (f:FunM) (sv tv:Value) (w:World) (H:FileR w fb X k sizes fs As Af cs cf) (h:FunE w k sizes f (fun j=>j < w.heap.size) sv tv) (hs:∀ x∈sizes,1≤x∧x≤32) (hsl:sizes.length≤64) (hf:FunOk sizes f) (hl:FunLim sizes f) :
  Calls Tryz.prog 126 #[.pointer (some ⟨fb,0,none⟩),.agg #[sv,tv]] w fun e w'=>e = .returned (.bool false)∧Below w.heap.size w w':=by
 obtain⟨Asc,csc,g,mb,A,c,N,rfl,hcap,rfl,h3,h4,h5,-⟩:=h;have L6:(pickN sizes f.scope).length≤6:=by simp [pickN];exact hl.1
 have LE:(pickN sizes f.scope).length=f.scope.length:=by simp [pickN]
 have HF:=hid hf;have HL:=hid hl;have HSL:=hid hsl;have HR:=hid H;have HI:=hid h3;have HT:=hid h4;have HP6:=hid L6;have HLE:=hid LE;have hsc6:f.scope.length≤6:=hl.1;clear H h3 h4 h5 hs hsl hf hl L6 LE;go_enter Tryz.func126,Tryz.ntmps126
 go_upto_region 1 with fail
 have n1:=new_val w (.cells #[.slice Asc f.scope.length csc,.pointer (some ⟨g,0,none⟩)] 62);have X1:=hid (heap_alloc_new w (.cells #[.slice Asc f.scope.length csc,.pointer (some ⟨g,0,none⟩)] 62));have N1:=hid n1;have HR1:=hid (HR.out.below n1);have HT1:=hid (HT.out.below n1);have HI1:=hid (HI.out.below n1 (Nat.le_refl _));clear n1;generalize w.alloc (.cells #[.slice Asc f.scope.length csc,.pointer (some ⟨g,0,none⟩)] 62)=w1 at X1 N1 HR1 HT1 HI1 ⊢;obtain⟨B,hB0⟩:∃ B,w.heap.size=B:=⟨_,rfl⟩
 rw [hB0] at X1;simp only [hB0];have HB0:=hid hB0;clear hB0;have b0:w1.cell? ⟨B,0,none⟩=some (.slice Asc f.scope.length csc):=by rw [cell_of_row _ _ _ _ _ _ X1.out];rfl
 have b1:w1.cell? ⟨B,1,none⟩=some (.pointer (some ⟨g,0,none⟩)):=by rw [cell_of_row _ _ _ _ _ _ X1.out];rfl
 have f1:=HR1.out.cells.2.1;have TK:=hid (fun W (hb:Below w1.heap.size w1 W)=>tpk_ok g mb N c A (pickN sizes f.scope) k _ _ W (HT1.out.below hb));have TA:=hid (fun W (hb:Below w1.heap.size w1 W)=>tparity_ok g mb N c A (pickN sizes f.scope) k _ _ W (HT1.out.below hb));rw [HLE.out] at TA;have H0:Hid (HoldQ2 w1 B fb g k f.scope.length csc Asc w1):=hid ⟨b1,f1,b0,Below.refl _ _⟩;clear b0 b1 f1;go_region_held3 (fun W=>HoldQ2 w1 B fb g k f.scope.length csc Asc W) (first | exact holdQ2 H0.out ((Below.refl _ _).drew) | exact holdQ2 (by assumption) (by assumption) | assumption)
  ((first | (go_at_call 118;with_reducible refine (TK.out _ (HoldQ2.below (by assumption))).mono ?_;rintro e w' ⟨rfl,rfl⟩) | (go_at_call 160;with_reducible refine (TA.out _ (HoldQ2.below (by assumption))).mono ?_;rintro e w' ⟨rfl,rfl⟩)))
 have b0:w1.cell? ⟨B,0,none⟩=some (.slice Asc f.scope.length csc):=H0.out.2.2.1;clear TK TA H0;go_upto_block 0 with fail
 go_cut [5,6] from 29 to 56 (fun _ _ wc=>Hid (Below w1.heap.size w1 wc))
 case first =>
  go_wp2_with fail
  go_loopw [5,6,32] (fun _ _ i wr=>∃ j:Nat,i = .int .i64 (j:Int)∧j≤f.scope.length∧Below w1.heap.size w1 wr) (fun _ _ i _=>f.scope.length - (intOf i).toNat)
  case atStart=>exact⟨0,rfl,Nat.zero_le _,by first | exact (Below.refl _ _).drew | exact Below.refl _ _ | exact HoldQ2.below (by assumption)⟩
  case round =>
   clear b0;obtain⟨j,rfl,hj,hB⟩:=hrel;have HBB:=hid hB;clear hB;have b0:wr.cell? ⟨B,0,none⟩=some (.slice Asc f.scope.length csc):=by rw [(HBB.out.cell (p:=⟨B,0,none⟩) (Array.getElem?_eq_some_iff.1 X1.out).1),cell_of_row _ _ _ _ _ _ X1.out];rfl
   by_cases hlt:j < f.scope.length
   ·have d1:decide ((j:Int) < (f.scope.length:Int))=true:=decide_eq_true (by omega)
    have IW:=HI1.out.below HBB.out (Nat.le_refl _);obtain⟨gs,os,rfl,hc⟩:=IW.at_ hlt;have CI:=hid (containsI_take wr csc (some ⟨gs,os,none⟩) f.scope j (nth f.scope j) IW hj (by omega));rw [take_once HF.out.once hlt] at CI;have hv:nth f.scope j < sizes.length:=HF.out.below _ (nth_mem hlt);have f2:=(HR1.out.below HBB.out).cells.2.2.1;generalize nth f.scope j=x at hc CI hv;have d2:decide ((x:Int) < 0)=false:=decide_eq_false (by omega);have d3:decide ((sizes.length:Int)≤(x:Int))=false:=decide_eq_false (by omega);have j2:(0:Int)≤(j:Int):=by omega
    have j3:(j:Int)≤6:=by omega
    have j4:(j:Int)≤(csc:Int):=by omega
    clear IW;go_wp2_with (first | (go_at_call 49;refine CI.out.mono ?_;rintro e w' ⟨rfl,rfl⟩) | fail)
    exact⟨⟨j+1,by simp,by omega,HBB.out⟩,by simp [intOf];omega⟩
   have d1:decide ((j:Int) < (f.scope.length:Int))=false:=decide_eq_false (by omega);go_wp2_with fail
   go_meet
   case rel=>exact HBB
 have B3:=hcut;clear hcut b0;have S3:Hid (HoldQ w1 B fb g sizes.length cs f.scope.length csc As Asc wc):=hid (by
  have hc:=(HR1.out.below B3.out).cells;have hX:=(B3.out.block B (Array.getElem?_eq_some_iff.1 X1.out).1).trans X1.out;exact⟨by rw [cell_of_row _ _ _ _ _ _ hX];rfl,hc.2.2.1,by rw [cell_of_row _ _ _ _ _ _ hX];rfl,B3.out⟩)
 have PI:=hid (fun W (hb:Below w1.heap.size w1 W)=>pickedI cs csc As Asc sizes f.scope W (by have:=HSL.out;omega) (by omega) HF.out.below ((HR1.out.below hb).szs) (HI1.out.below hb (Nat.le_refl _)));have SZ:=hid (fun W (hb:Below w1.heap.size w1 W)=>tpsizes_ok g mb N c A (pickN sizes f.scope) k _ _ W (HT1.out.below hb) HP6.out);generalize hl1:pickN sizes f.scope=l1 at PI SZ;have L1:=hid (show l1.length≤6 by rw [← hl1];exact HP6.out);clear hl1;have EQ:=hid (fun W Aa Ab ca cb (ha:Ints W Aa l1) (hb:Ints W Ab l1)=>equal_any Aa Ab ca cb l1 l1 W (by have:=L1.out;omega) ha hb);rw [decide_eq_true (rfl:l1=l1)] at EQ;go_upto_region 9 with fail
 go_region_held3 (fun W=>HoldQ w1 B fb g sizes.length cs f.scope.length csc As Asc W) (first | exact holdQ S3.out ((Below.refl _ _).drew) | exact holdQ (by assumption) (by assumption))
  ((first | (go_at_call 117;with_reducible refine (SZ.out _ (HoldQ.below (by assumption))).mono ?_;rintro e w' ⟨⟨v9,rfl,hO9⟩,hb⟩;obtain⟨A9,c9,rfl,hI9⟩:=hO9.form;have HI9:=hid hI9;clear hI9 hO9) | (go_at_call 88;with_reducible refine (PI.out _ (HoldQ.below (by assumption))).mono ?_;rintro e w' ⟨⟨A8,c8,rfl,hI8⟩,hb⟩;have HI8:=hid (And.intro (HI9.out.below hb (Nat.le_refl _)) hI8);clear hI8) | (go_at_call 25;refine (EQ.out _ _ _ _ _ HI8.out.1 HI8.out.2).mono ?_;rintro e w' ⟨rfl,hb⟩)))
 have BE:=hid (HoldQ.below (by assumption));go_wp2_with fail
 go_ret;have hfin:=then_ N1.out BE.out;exact⟨rfl,by first | exact hfin | exact hfin.drew | (rw [← HB0.out];first | exact hfin | exact hfin.drew)⟩
open Go.RowKit
theorem isword_yes (X:ByteArray) (w:World) (hs:X.size≤100000) (hr:stepW X.data.toList 0 = .word 0 X.size) :
  Calls Tryz.prog 121 #[.string X] w fun e w'=>e = .returned (.bool true)∧Below w.heap.size w w':=by
 have CV:=Lib.run_convert_string_bytes (P:=Tryz.prog) w 9 22 5 X Tryz.underlying9 Tryz.underlying22 Tryz.underlying5;have B1:Below w.heap.size w (Lib.bytesWorld w 5 X):=⟨rfl,rfl,rfl,by rw [Lib.bytesWorld_size];omega,fun j hj=>Lib.bytesWorld_at_old w 5 X j hj⟩
 have BY:BS (Lib.bytesWorld w 5 X) (some ⟨w.heap.size,0,none⟩) X:=.inr ⟨_,0,rfl,by rw [Lib.bytesWorld_size];omega,fun i hi=>by
  rw [Nat.zero_add,Lib.bytesWorld_cell w 5 X i hi];simp [ByteArray.getElem_eq_getElem_data,List.getD_eq_getElem?_getD,hi]
  ⟩
 have SN:=hid (fun W (hW:W=Lib.bytesWorld w 5 X)=>snew_any (.slice (some ⟨w.heap.size,0,none⟩) X.size (grownCap w X.size 0 5)) X W (conv_bytes (by rw [hW];exact BY)));have B1:=hid B1;have HR:=hid hr;have HS:=hid hs;clear hr hs BY;generalize grownCap w X.size 0 5=cap at CV SN;obtain⟨wb,hwb⟩:∃ wb,Lib.bytesWorld w 5 X=wb:=⟨_,rfl⟩
 rw [hwb] at CV B1;have HWB:=hid hwb.symm;clear hwb;go_enter Tryz.func121,Tryz.ntmps121
 go_wp2_with (first
  | (go_at_call 73;refine (SN.out _ HWB.out).mono ?_;rintro e w2 ⟨rfl,hw2⟩;have WD:=hid (word_ok wb.heap.size X 0 0 X.size w2 (by have:=HS.out;unfold maxLen;omega) (Nat.zero_le _) (by rw [hw2];exact ScanAt.new wb X) HR.out);have B2:=hid (by have:=B1.out.trans ((new_val wb (.cells #[.string X,.int .i64 0] 194)).mono B1.out.size);rw [← hw2] at this;exact this);have Z2:=hid (by have:=World.size_alloc wb (.cells #[.string X,.int .i64 0] 194);rw [← hw2] at this;exact this);clear hw2)
  | (go_at_call 159;refine WD.out.mono ?_;rintro e w3 ⟨rfl,hg3,hs3⟩;replace hg3:=hid hg3;clear hs3;have EX:X.extract 0 X.size=X:=(by exact ByteArray.extract_zero_size);rw [EX];clear EX)
  | fail)
 go_ret;refine⟨rfl,B2.out.grown hg3.out B2.out.size (fun q hq=>?_)⟩;injection hq with hq;have:=B1.out.size;omega
theorem le_sum {fs:List FunM}{j:Nat}{f:FunM}(h:fs[j]? = some f):f.lines.length≤(fs.map fun f=>f.lines.length).sum:=by
 have hj:j < fs.length:=(List.getElem?_eq_some_iff.1 h).1;have e:fs=fs.take j++f::fs.drop (j+1):=by
  rw [← (List.getElem?_eq_some_iff.1 h).2,List.getElem_cons_drop,List.take_append_drop]
 conv=>rhs;rw [e]
 simp
 omega
theorem take_sum (fs:List FunM) (j:Nat):((fs.take j).map fun f=>f.lines.length).sum≤(fs.map fun f=>f.lines.length).sum:=by
 conv=>rhs;rw [← List.take_append_drop j fs]
 rw [List.map_append,List.sum_append];exact Nat.le_add_right _ _
set_option maxRecDepth 100000 in
set_option maxHeartbeats 4000000 in
theorem lines_le (fb cs cf:Nat) (X:ByteArray) (k:Int) (sizes:List Nat) (fs:List FunM) (As Af:Option Addr) (w:World) (H:FileR w fb X k sizes fs As Af cs cf) (hn:fs.length≤256) (hall:(fs.map fun f=>f.lines.length).sum≤16384) :
  Calls Tryz.prog 128 #[.pointer (some ⟨fb,0,none⟩)] w fun e w'=>(∃ n:Nat,e = .returned (.int .i64 (n:Int))∧n≤16384)∧Below w.heap.size w w':=by
 have c3:=H.cells.2.2.2;have HR:=hid H;have HN:=hid hn;have HALL:=hid hall;clear H hn hall;go_enter Tryz.func128,Tryz.ntmps128
 go_upto_block 0 with fail
 clear c3;go_cut [3] from 12 to 26 (fun v3 wc=>∃ n:Nat,v3 = .int .i64 (n:Int)∧n≤16384∧Hid (Below w.heap.size w wc))
 case first =>
  go_wp2_with fail
  go_loopw [3,5,17] (fun v3 _ i wr=>∃ (j n:Nat),i = .int .i64 (j:Int)∧v3 = .int .i64 (n:Int)∧j≤fs.length∧n≤((fs.take j).map fun f=>f.lines.length).sum∧Below w.heap.size w wr) (fun _ _ i _=>fs.length - (intOf i).toNat)
  case atStart=>exact⟨0,0,rfl,rfl,Nat.zero_le _,Nat.zero_le _,Below.refl _ _⟩
  case round =>
   obtain⟨j,n,rfl,rfl,hj,hs,hB⟩:=hrel;have HB:=hid hB;have HS:=hid hs;clear hB hs;have NB:Hid (n≤16384):=hid (Nat.le_trans HS.out (Nat.le_trans (take_sum _ _) HALL.out));by_cases hlt:j < fs.length
   ·have d1:decide ((j:Int) < (fs.length:Int))=true:=decide_eq_true (by omega)
    obtain⟨f,hfj⟩:∃ f,fs[j]? = some f:=⟨_,List.getElem?_eq_getElem hlt⟩
    have HRR:=HR.out.below HB.out;obtain⟨gf,sv,tv,rfl,hgf,k0,k1,he⟩:=HRR.funs j f hfj;obtain⟨Asc,csc,g,mb,A,c,N,rfl,hcap,rfl,h3,h4,h5,-⟩:=he;have FJ:=hid hfj;have LT:=hid hlt;have N5:=hid h5;have n1:=new_val wr (.cells #[.slice Asc f.scope.length csc,.pointer (some ⟨g,0,none⟩)] 62);have LN:=hid (tplen_le g mb N c A (pickN sizes f.scope) k _ _ _ (h4.below n1));have B1:=hid (HB.out.trans (n1.mono HB.out.size));have j2:(0:Int)≤(j:Int):=by omega
    have j3:(j:Int)≤256:=by have:=HN.out;omega
    have n3:(n:Int)≤16384:=by have:=NB.out;omega
    clear HRR hfj h3 h4 h5 n1 hcap hgf;go_upto_region 5 with (first
     | ((with_reducible show wpList _ _ _ (Oper.mk none (.store 62 _ _) _ _ _ _::_) _ _);refine wpList_store_row rfl 62 (.tmp 5) (.tmp 20) rfl wr.heap.size #[.slice Asc f.scope.length csc,.pointer (some ⟨g,0,none⟩)] rfl rfl 62 #[.slice none 0 0,.pointer none] (heap_alloc_new _ _) (by kernel_rfl) rfl (by simp [Value.oneCell']) ?_;rw [World.setRow_alloc_new])
     | fail)
    have X1:=hid (heap_alloc_new wr (.cells #[.slice Asc f.scope.length csc,.pointer (some ⟨g,0,none⟩)] 62));clear k0 k1;generalize wr.alloc (.cells #[.slice Asc f.scope.length csc,.pointer (some ⟨g,0,none⟩)] 62)=w1 at X1 LN B1 ⊢;generalize wr.heap.size=B at X1 ⊢;have b1:w1.cell? ⟨B,1,none⟩=some (.pointer (some ⟨g,0,none⟩)):=by rw [cell_of_row _ _ _ _ _ _ X1.out];rfl
    go_wp2_with (first | (go_at_call 36;refine LN.out.mono ?_;rintro e w' ⟨⟨m,rfl,hm⟩,rfl⟩;have HM:=hid (Nat.le_trans hm N5.out);have m3:(m:Int)≤100000:=(by have:=Nat.le_trans hm N5.out;have:=le_sum FJ.out;have:=HALL.out;omega);clear hm) | fail)
    refine⟨⟨j+1,n+m,by simp,by simp,by have:=LT.out;omega,?_,B1.out⟩,by simp [intOf];have:=LT.out;omega⟩;have e:fs.take (j+1)=fs.take j++[f]:=by
     have h:=LT.out;rw [List.take_succ_eq_append_getElem h];congr 2
     exact (List.getElem?_eq_some_iff.1 FJ.out).2
    rw [e,List.map_append,List.sum_append];have h1:=HS.out;have h2:=HM.out;simp only [List.map_cons,List.map_nil,List.sum_cons,List.sum_nil];omega
   have d1:decide ((j:Int) < (fs.length:Int))=false:=decide_eq_false (by omega);go_wp2_with fail
   go_meet
   case rel=>exact⟨n,rfl,NB.out,HB⟩
 obtain⟨n,rfl,hn,HB⟩:=hcut;have d3:decide ((n:Int)≤16384)=true:=decide_eq_true (by omega);go_wp2_with fail
 go_ret;exact⟨⟨n,rfl,hn⟩,HB.out⟩
end Go.Proofs.YtmokogkndbinlaaGreatDoor
namespace Go.Proofs.YtmokogkndbinlaaGreatDoor
open Go.RowKit
set_option maxHeartbeats 1000000 in
theorem index_great (fb cs cf:Nat) (X:ByteArray) (k:Int) (sizes:List Nat) (fs:List FunM) (As Af:Option Addr) (w:World) (H:FileR w fb X k sizes fs As Af cs cf) (hn:fs.length≤256) (hs:∀ x∈sizes,1≤x∧x≤32) (hsl:sizes.length≤64) (hf:∀ f∈fs,FunOk sizes f∧FunLim sizes f) :
  Calls Tryz.prog 109 #[.slice Af fs.length cf,.func (.func 127) #[] #[]] w fun e w'=>e = .returned (.int .i64 (-1))∧Below w.heap.size w w':=by
 have HR:=hid H;have HS:=hid (And.intro hs hsl);have HF:=hid hf;clear H hs hsl hf;go_enter Tryz.func109,Tryz.ntmps109
 go_wp2_with fail
 go_loopw [5,8] (fun _ i wr=>∃ j:Nat,j≤fs.length∧i = .int .i64 j∧Below w.heap.size w wr) (fun _ i _=>fs.length - (intOf i).toNat)
 case atStart=>exact⟨0,Nat.zero_le _,rfl,Below.refl _ _⟩
 case round =>
  obtain⟨j,hj,rfl,hB⟩:=hrel;have HB:=hid hB;clear hB;by_cases hlt:j < fs.length
  rotate_left
  ·go_wp2
   go_ret;exact⟨rfl,HB.out⟩
  obtain⟨f,hfj⟩:∃ f,fs[j]? = some f:=⟨_,List.getElem?_eq_getElem hlt⟩
  have HRR:=HR.out.below HB.out;obtain⟨gf,sv,tv,rfl,hgf,k0,k1,he⟩:=HRR.funs j f hfj;have hm:=HF.out f (List.mem_of_getElem? hfj);have MC:=hid (great_no k sizes f sv tv wr he HS.out.1 hm.1 hm.2);have j2:(0:Int)≤(j:Int):=by omega
  clear hfj HRR he hm hgf;go_wp2_with (first | (go_at_call 127;refine MC.out.mono ?_;rintro e w2 ⟨rfl,hb⟩;replace hb:=hid (HB.out.trans (hb.mono HB.out.size))) | fail)
  go_roundw
  case rel=>exact⟨j+1,by omega,by go_num,hb.out⟩
  case measure=>simp [intOf];omega
theorem contains_great (fb cs cf:Nat) (X:ByteArray) (k:Int) (sizes:List Nat) (fs:List FunM) (As Af:Option Addr) (w:World) (H:FileR w fb X k sizes fs As Af cs cf) (hn:fs.length≤256) (hs:∀ x∈sizes,1≤x∧x≤32) (hsl:sizes.length≤64) (hf:∀ f∈fs,FunOk sizes f∧FunLim sizes f) :
  Calls Tryz.prog 125 #[.slice Af fs.length cf,.func (.func 127) #[] #[]] w fun e w'=>e = .returned (.bool false)∧Below w.heap.size w w':=by
 have HI:=hid (index_great fb cs cf X k sizes fs As Af w H hn hs hsl hf);clear H hn hs hsl hf;go_enter Tryz.func125,Tryz.ntmps125
 go_wp2_with (first | (go_at_call 109;refine HI.out.mono ?_;rintro e w2 ⟨rfl,hb⟩;replace hb:=hid hb) | fail)
 go_ret;exact⟨rfl,hb.out⟩
set_option maxHeartbeats 1000000 in
theorem index_misfit (fb cs cf:Nat) (X:ByteArray) (k:Int) (sizes:List Nat) (fs:List FunM) (As Af:Option Addr) (w:World) (H:FileR w fb X k sizes fs As Af cs cf) (hn:fs.length≤256) (hs:∀ x∈sizes,1≤x∧x≤32) (hsl:sizes.length≤64) (hf:∀ f∈fs,FunOk sizes f∧FunLim sizes f) :
  Calls Tryz.prog 109 #[.slice Af fs.length cf,.func (.func 126) #[.pointer (some ⟨fb,0,none⟩)] #[]] w fun e w'=>e = .returned (.int .i64 (-1))∧Below w.heap.size w w':=by
 have HR:=hid H;have HS:=hid (And.intro hs hsl);have HF:=hid hf;clear H hs hsl hf;go_enter Tryz.func109,Tryz.ntmps109
 go_wp2_with fail
 go_loopw [5,8] (fun _ i wr=>∃ j:Nat,j≤fs.length∧i = .int .i64 j∧Below w.heap.size w wr) (fun _ i _=>fs.length - (intOf i).toNat)
 case atStart=>exact⟨0,Nat.zero_le _,rfl,Below.refl _ _⟩
 case round =>
  obtain⟨j,hj,rfl,hB⟩:=hrel;have HB:=hid hB;clear hB;by_cases hlt:j < fs.length
  rotate_left
  ·go_wp2
   go_ret;exact⟨rfl,HB.out⟩
  obtain⟨f,hfj⟩:∃ f,fs[j]? = some f:=⟨_,List.getElem?_eq_getElem hlt⟩
  have HRR:=HR.out.below HB.out;obtain⟨gf,sv,tv,rfl,hgf,k0,k1,he⟩:=HRR.funs j f hfj;have hm:=HF.out f (List.mem_of_getElem? hfj);have MC:=hid (misfit_no fb cs cf X k sizes fs As _ f sv tv wr HRR he HS.out.1 HS.out.2 hm.1 hm.2);have j2:(0:Int)≤(j:Int):=by omega
  clear hfj HRR he hm hgf;go_wp2_with (first | (go_at_call 126;refine MC.out.mono ?_;rintro e w2 ⟨rfl,hb⟩;replace hb:=hid (HB.out.trans (hb.mono HB.out.size))) | fail)
  go_roundw
  case rel=>exact⟨j+1,by omega,by go_num,hb.out⟩
  case measure=>simp [intOf];omega
theorem contains_misfit (fb cs cf:Nat) (X:ByteArray) (k:Int) (sizes:List Nat) (fs:List FunM) (As Af:Option Addr) (w:World) (H:FileR w fb X k sizes fs As Af cs cf) (hn:fs.length≤256) (hs:∀ x∈sizes,1≤x∧x≤32) (hsl:sizes.length≤64) (hf:∀ f∈fs,FunOk sizes f∧FunLim sizes f) :
  Calls Tryz.prog 125 #[.slice Af fs.length cf,.func (.func 126) #[.pointer (some ⟨fb,0,none⟩)] #[]] w fun e w'=>e = .returned (.bool false)∧Below w.heap.size w w':=by
 have HI:=hid (index_misfit fb cs cf X k sizes fs As Af w H hn hs hsl hf);clear H hn hs hsl hf;go_enter Tryz.func125,Tryz.ntmps125
 go_wp2_with (first | (go_at_call 109;refine HI.out.mono ?_;rintro e w2 ⟨rfl,hb⟩;replace hb:=hid hb) | fail)
 go_ret;exact⟨rfl,hb.out⟩
structure RightF (X:ByteArray) (k:Int) (sizes:List Nat) (fs:List FunM):Prop where
 word:stepW X.data.toList 0 = .word 0 X.size
 long:X.size≤64
 top:1≤k∧k≤2147483648
 szs:∀ x∈sizes,1≤x∧x≤32
 n:1≤sizes.length∧sizes.length≤64
 nf:fs.length≤256
 funs:∀ g∈fs,FunOk sizes g∧FunLim sizes g
 all:(fs.map fun f=>f.lines.length).sum≤16384
set_option maxRecDepth 100000 in
set_option maxHeartbeats 4000000 in
theorem rightF (fb cs cf:Nat) (X:ByteArray) (k:Int) (sizes:List Nat) (fs:List FunM) (As Af:Option Addr) (w:World) (H:FileR w fb X k sizes fs As Af cs cf) (hr:RightF X k sizes fs) :
  Calls Tryz.prog 64 #[.pointer (some ⟨fb,0,none⟩)] w fun e w'=>e = .returned (.int .i64 0)∧Below w.heap.size w w':=by
 obtain⟨c0,c1,c2,c3⟩:=H.cells;have HR:=hid H;have HH:=hid hr;have IW:=hid (isword_yes X w (by have:=hr.long;omega) hr.word);have CR:=hid (fun W=>right_yes k W hr.top.1 hr.top.2);have CW:=hid (fun W (hb:Below w.heap.size w W)=>contains_noW As sizes.length cs (fun i=>(nth sizes i:Int)) W (by have:=hr.n.2;omega) ((H.below hb).szs.zs) (fun i hi=>by have:=hr.szs _ (nth_mem hi);omega));have CM:=hid (fun W (hb:Below w.heap.size w W)=>contains_misfit fb cs cf X k sizes fs As Af W (H.below hb) hr.nf hr.szs hr.n.2 hr.funs);have CG:=hid (fun W (hb:Below w.heap.size w W)=>contains_great fb cs cf X k sizes fs As Af W (H.below hb) hr.nf hr.szs hr.n.2 hr.funs);have LL:=hid (fun W (hb:Below w.heap.size w W)=>lines_le fb cs cf X k sizes fs As Af W (H.below hb) hr.nf hr.all);have d1:((sizes.length:Int) == 0)=false:=by have:=hr.n.1;rw [beq_eq_false_iff_ne];omega
 have d2:decide ((64:Int) < (X.size:Int))=false:=decide_eq_false (by have:=hr.long;omega);have d3:decide ((64:Int) < (sizes.length:Int))=false:=decide_eq_false (by have:=hr.n.2;omega);have d4:decide ((256:Int) < (fs.length:Int))=false:=decide_eq_false (by have:=hr.nf;omega);clear H hr;have cells:Hid (∀ W,Below w.heap.size w W→W.cell? ⟨fb,0,none⟩=some (.string X)∧W.cell? ⟨fb,1,none⟩=some (.int .i64 k)∧W.cell? ⟨fb,2,none⟩=some (.slice As sizes.length cs)∧W.cell? ⟨fb,3,none⟩=some (.slice Af fs.length cf)):=hid (fun W hb=>(HR.out.below hb).cells);go_enter Tryz.func64,Tryz.ntmps64
 go_wp2_with (first
  | (go_at_call 121;refine IW.out.mono ?_;rintro e w2 ⟨rfl,hb2⟩;clear c0 c1 c2 c3;obtain⟨c0,c1,c2,c3⟩:=cells.out _ hb2;have B2:=hid hb2;clear hb2)
  | (go_at_call 122;refine (CR.out _).mono ?_;rintro e w' ⟨rfl,rfl⟩)
  | (go_at_call 123;refine (CW.out _ B2.out).mono ?_;rintro e w' ⟨rfl,rfl⟩)
  | (go_at_call 125;with_reducible refine (CM.out _ B2.out).mono ?_;rintro e w3 ⟨rfl,hb3⟩;have B3:=hid (B2.out.trans (hb3.mono B2.out.size));clear hb3 c0 c1 c2 c3;obtain⟨c0,c1,c2,c3⟩:=cells.out _ B3.out)
  | (go_at_call 125;with_reducible refine (CG.out _ B3.out).mono ?_;rintro e w4 ⟨rfl,hb4⟩;have B4:=hid (B3.out.trans (hb4.mono B3.out.size));clear hb4 c0 c1 c2 c3)
  | (go_at_call 128;refine (LL.out _ B4.out).mono ?_;rintro e w5 ⟨⟨n,rfl,hn⟩,hb5⟩;have B5:=hid (B4.out.trans (hb5.mono B4.out.size));have d5:decide ((16384:Int) < (n:Int))=false:=(by exact decide_eq_false (by omega));clear hb5 hn)
  | fail)
 go_ret;exact⟨rfl,B5.out⟩
end Go.Proofs.YtmokogkndbinlaaGreatDoor
