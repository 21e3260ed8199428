import Derived.Deep.OwnRows
import Derived.Deep.Heap
import Derived.Deep.WholeRow
import Derived.Sort.QuietIn
import Derived.Test.YtmokogkndbinlaaGreatDoorZhat
set_option linter.all false
namespace Go.Proofs.YtmokogkndbinlaaGreatDoor
open Go.Lib (hid)
attribute [local go_sem] Oper.semAt_some
open Go.RowKit Go.Shelf
theorem back_call (A:Option Addr) (n c:Nat) (w:World) :
  Calls Tryz.prog 234 #[.slice A n c] w fun e w'=>e = .returned (.func (.func 269) #[] #[.pointer (some ⟨w.heap.size,0,none⟩)])∧w'=w.alloc (.cells #[.slice A n c] 41):=by
 go_enter Tryz.func234,Tryz.ntmps234
 go_wp2
 go_ret;exact⟨rfl,rfl⟩
theorem nth_set (t:List Nat) (p v j:Nat) (hp:p < t.length):nth (t.set p v) j=if j=p then v else nth t j:=by
 unfold nth;by_cases e:j=p
 ·subst e
  simp [List.getD_eq_getElem?_getD,hp]
 rw [if_neg e,List.getD_eq_getElem?_getD,List.getD_eq_getElem?_getD,List.getElem?_set_ne (fun h=>e h.symm)]
def stepB (l:List Nat) (s:List Nat × Nat) (x:Place l):List Nat × Nat:=(s.1.set x.val (s.2 % nth l x.val),s.2 / nth l x.val)
def foldB (l:List Nat) (i:Nat) (pre:List (Place l)):List Nat × Nat:=pre.foldl (stepB l) (List.replicate l.length 0,i)
theorem foldB_snoc (l:List Nat) (i:Nat) (pre:List (Place l)) (x:Place l):foldB l i (pre++[x])=stepB l (foldB l i pre) x:=by simp [foldB]
theorem foldB_len (l:List Nat) (i:Nat) (pre:List (Place l)):(foldB l i pre).1.length=l.length:=by
 have h:∀ (pre:List (Place l)) (s:List Nat × Nat),s.1.length=l.length→(pre.foldl (stepB l) s).1.length=l.length:=by
  intro pre;induction pre with
  | nil=>intro s hs;exact hs
  | cons x r ih=>intro s hs;exact ih _ (by simp [stepB,hs])
 exact h pre _ (by simp)
theorem foldB_le (l:List Nat) (i:Nat) (pre:List (Place l)):(foldB l i pre).2≤i:=by
 have h:∀ (pre:List (Place l)) (s:List Nat × Nat),s.2≤i→(pre.foldl (stepB l) s).2≤i:=by
  intro pre;induction pre with
  | nil=>intro s hs;exact hs
  | cons x r ih=>intro s hs;exact ih _ (Nat.le_trans (Nat.div_le_self _ _) hs)
 exact h pre _ (Nat.le_refl _)
theorem sh_get (l:List Nat) (h6:l.length≤6) {j:Nat}(hj:j < l.length):(shC l)[1+j]? = some (.int .i64 (nth l j:Int)):=by
 rcases (by omega:j=0∨j=1∨j=2∨j=3∨j=4∨j=5) with rfl | rfl | rfl | rfl | rfl | rfl <;> rfl
theorem foldB_all (l:List Nat) (i:Nat) (m:Nat) (h:m≤l.length) :
  (foldB l i (lastPlaces l m h)).2=i / prodL (l.drop (l.length - m))∧∀ j,l.length - m≤j→j < l.length→nth (foldB l i (lastPlaces l m h)).1 j=i / prodL (l.drop (j+1)) % nth l j:=by
 induction m with
 | zero=>exact⟨by simp [lastPlaces,foldB,prodL],fun j h1 h2=>by omega⟩
 | succ m ih =>
  obtain⟨h1,h2⟩:=ih (by omega);have hp:l.length - 1 - m < l.length:=by omega
  have e:l.length - m=l.length - 1 - m+1:=by omega
  have e':l.length - (m+1)=l.length - 1 - m:=by omega
  simp only [lastPlaces,foldB_snoc];simp only [stepB];refine⟨?_,fun j hj hjl=>?_⟩
  ·rw [h1,e',prodL_drop l _ hp,e,Nat.div_div_eq_div_mul,Nat.mul_comm]
  rw [nth_set _ _ _ _ (by rw [foldB_len];exact hp)];by_cases ej:j=l.length - 1 - m
  ·rw [if_pos ej,h1,e,← ej]
  rw [if_neg ej];exact h2 j (by omega) hjl
theorem foldB_tup (l:List Nat) (i:Nat):(foldB l i (lastPlaces l l.length (Nat.le_refl _))).1=tupL l i:=by
 refine nth_eq (by rw [foldB_len,tupL_length]) fun j hj=>?_;rw [foldB_len] at hj;rw [(foldB_all l i l.length (Nat.le_refl _)).2 j (by omega) hj,tupL_getD l i j hj]
structure LoopT (w w1:World) (l:List Nat) (i:Nat) (W:World):Prop where
 num:W.heap[w.heap.size+1]? = some (.cells #[.int .i64 (i:Int)] 3)
 shp:W.heap[w.heap.size]? = some (shO l)
 row:W.rowIs w1.heap.size 3 l.length (fun _=>.int .i64 0)
 box:W.heap[w1.heap.size+1]? = some (.cells #[.slice (some ⟨w1.heap.size,0,none⟩) l.length l.length] 41)
 src:W.heap[w1.heap.size+1+1]? = some (.cells #[.slice (some ⟨w.heap.size,1,none⟩) l.length 6] 41)
 below:Below w.heap.size w W
 size:W.heap.size=w1.heap.size+3
 lt:w.heap.size+1 < w1.heap.size
theorem loopT_new {w w1:World}{l:List Nat}{i:Nat}(h:HoldT w l (i:Int) w1):LoopT w w1 l i
  (((w1.alloc (.cells (madeCells #[.int .i64 0] l.length) 3)).alloc (.cells #[.slice (some ⟨w1.heap.size,0,none⟩) l.length l.length] 41)).alloc (.cells #[.slice (some ⟨w.heap.size,1,none⟩) l.length 6] 41)):=by
 have hl:=holdT_lt h;obtain⟨_,_,_,_,_,_,_,_,g0,g1,h8⟩:=h;have b1:Below w1.heap.size w1 (((w1.alloc (.cells (madeCells #[.int .i64 0] l.length) 3)).alloc (.cells #[.slice (some ⟨w1.heap.size,0,none⟩) l.length l.length] 41)).alloc (.cells #[.slice (some ⟨w.heap.size,1,none⟩) l.length 6] 41)) :=
  (((Below.refl _ _).alloc (Nat.le_refl _) _).alloc (by simp) _).alloc (by simp;omega) _
 have r0:=World.rowIs_made w1 (.int .i64 0) l.length 3;refine⟨(b1.block _ hl).trans g1,(b1.block _ (by omega)).trans g0,(r0.alloc _).alloc _,?_,?_,h8.trans (b1.mono h8.size),by simp,hl⟩
 ·have:=alloc_two w1 (.cells (madeCells #[.int .i64 0] l.length) 3) (.cells #[.slice (some ⟨w1.heap.size,0,none⟩) l.length l.length] 41)
  exact (Below.heap_alloc _ _ _ (by simp)).trans this
 have:=alloc_two (w1.alloc (.cells (madeCells #[.int .i64 0] l.length) 3)) (.cells #[.slice (some ⟨w1.heap.size,0,none⟩) l.length l.length] 41) (.cells #[.slice (some ⟨w.heap.size,1,none⟩) l.length 6] 41);rwa [World.size_alloc] at this
theorem rowIs_own {β:Type}(b:Nat) (t:TypeId) (n:Nat) (f:β→Nat→Value):_root_.Go.Own (fun (s:β) W=>W.rowIs b t n (f s)):=fun s X Y row hs hg hr=>by
 obtain⟨c,hb,h1,h2⟩:=hs;refine⟨c,(hg.block b (Array.getElem?_eq_some_iff.1 hb).1 (fun e=>?_)).trans hb,h1,h2⟩;obtain⟨o,ho,hc⟩:=hr b e.symm;rw [hb] at ho;cases ho;cases hc
theorem same2_put {W0 W:World}{b g l:Nat}{o o':Obj}(hb:b < W0.heap.size) (hg:g < W0.heap.size) (hl:W0.heap.size≤l):Same2 b g W (W.putObj l o') :=
 ⟨by simp [World.putObj],World.putObj_heap_other (by omega),World.putObj_heap_other (by omega)⟩
theorem own_row {w W:World}{b D:Nat}{l t:List Nat}{o:Obj}(hb:w.heap.size≤b) (hl:t.length=l.length) (h6:l.length≤6) (hD:b < D) (h:W.rowIs b 3 l.length (fun j=>.int .i64 (nth t j:Int))) :
  Own (W.putObj D o) w.heap.size (.slice (some ⟨b,0,none⟩) l.length l.length) t:=by
 obtain⟨c,hc,hn,hx⟩:=h;refine⟨by rw [intC_len,Nat.mul_one],.inr ⟨b,l.length,c,by rw [hl],hb,(World.putObj_heap_other (by omega)).trans hc,by omega,by unfold maxLen;omega,by omega,?_⟩⟩;apply List.ext_getElem?;intro j;rw [Nat.mul_one,List.getElem?_take];by_cases hj:j < t.length
 ·rw [if_pos hj,intC_at hj,Array.getElem?_toList,hx j (by omega)]
 rw [if_neg hj,List.getElem?_eq_none (by rw [intC_len];omega)]
set_option maxRecDepth 100000 in
set_option maxHeartbeats 4000000 in
theorem tuple_okx (l:List Nat) (i:Nat) (w:World) (h6:l.length≤6) (h32:∀ n∈l,1≤n∧n≤32) (h:i < prodL l) :
  Calls Tryz.prog 187 #[shV l,.int .i64 (i:Int)] w fun e w'=>(∃ b,e = .returned (.tuple #[.slice (some ⟨b,0,none⟩) l.length l.length,.int .i64 0])∧Own w' w.heap.size (.slice (some ⟨b,0,none⟩) l.length l.length) (tupL l i))∧Below w.heap.size w w':=by
 obtain⟨P,hP⟩:∃ P,prodL l=P:=⟨_,rfl⟩
 have K:=hid (fun W=>count_below l W h6 (fun n hn=>(h32 n hn).2) P hP);have hd:decide ((i:Int) < 0)=false:=by simp <;> omega
 have hd2:decide ((P:Int)≤(i:Int))=false:=by simp <;> omega
 have hd3:decide (P≤i)=false:=by simp <;> omega
 have hi30:i≤1073741824:=by have:=take_le h6 (fun n hn=>(h32 n hn).2) l.length;rw [List.take_length] at this;omega
 have HT:=hid (holdT_new w l i);have H32:=hid h32;have hl6:(l.length:Int)≤6:=by omega
 have hm:∀ W,(Instr.makeSlice 41 (.int .i64 (l.length:Int)) (.int .i64 (l.length:Int))).run Tryz.prog W = .ok (.slice (some ⟨W.heap.size,0,none⟩) l.length l.length) (W.alloc (.cells (madeCells #[.int .i64 0] l.length) 3)) :=
  fun W=>run_make_row' 41 3 (.int .i64 0) 8 Tryz.underlying41 info_int rfl .i64 .i64 l.length (by omega) (by omega) W
 clear hP h h32;refine (callsIn_wide (n:=3)).1 (callsIn_of_wp_marks Tryz.func187 rfl trivial ?_ rfl);simp only [Tryz.ntmps187,List.size_toArray,List.length_cons,List.length_nil,Nat.reduceAdd,Nat.reduceSub,Array.replicate_succ,Array.replicate_zero,List.push_toArray,List.append_toArray,List.nil_append,List.cons_append];refine wpIn_wide.2 ?_;go_upto_region 1 with fail
 go_region_held3 (fun W=>HoldT w l i W) (first | exact holdT HT.out ((Below.refl _ _).drew) | exact holdT (by assumption) (by assumption))
  ((go_at_call 147;refine (K.out _).mono ?_;rintro e w1 ⟨rfl,hb⟩))
 obtain⟨HH,hz1⟩:Hid (HoldT w l (i:Int) w1)∧w.heap.size+1 < w1.heap.size:=⟨hid (by assumption),holdT_lt (by assumption)⟩
 have hz0:w.heap.size < w1.heap.size:=by omega
 have hz2:w.heap.size < w1.heap.size+1:=by omega
 go_wp2_with (go_at_call 234;refine (back_call _ _ _ _).mono ?_;rintro e w2 ⟨rfl,rfl⟩)
 have L:=hid (loopT_new HH.out);generalize (((w1.alloc (.cells (madeCells #[.int .i64 0] l.length) 3)).alloc (.cells #[.slice (some ⟨w1.heap.size,0,none⟩) l.length l.length] 41)).alloc (.cells #[.slice (some ⟨w.heap.size,1,none⟩) l.length 6] 41))=W0 at L ⊢;have hz:=L.out.size;refine (wpIn_wide (n:=3)).1 (wpIn_rangeFunc_ownG rfl (by omega) (gf:=269) (lb:=#[.pointer (some ⟨w1.heap.size+1+1,0,none⟩)]) rfl trivial (enters_of Tryz.func269 (by kernel_rfl) rfl)
  (back_stops 2 (by omega) (w1.heap.size+1+1) w.heap.size 1 6 l h6 W0 (by omega) (by omega) (by rw [cell_of_row _ _ _ _ _ _ L.out.src];rfl) (fun j hj=>?srcs)) (fun h k=>h.trans k) (fun W l o o' h1 _ _ _=>same2_put (W0:=W0) (o:=o) (by omega) (by omega) h1) (Below.refl _ _) (fun _=>rfl)
  (fun pre W=>Boxed W (w.heap.size+1) 3 (.int .i64 ((foldB l i pre).2:Int))∧W.rowIs w1.heap.size 3 l.length (fun j=>.int .i64 (nth (foldB l i pre).1 j:Int))∧Boxed W (w1.heap.size+1) 41 (.slice (some ⟨w1.heap.size,0,none⟩) l.length l.length)∧Below w.heap.size w W)
  (fun _ _ _=>False)
  (OwnFrom.and (Own.from (boxed_own _ _ _) _) (OwnFrom.and (Own.from (rowIs_own _ _ _ _) _) (OwnFrom.and (Own.from (boxed_own _ _ _) _) (ownFrom_below (Nat.le_refl _) (by omega)))))
  (fun _ _ _ _ _ hs _ _=>hs)
  ⟨L.out.num,L.out.row.congr (fun j hj=>by simp [foldB,nth,hj]),L.out.box,L.out.below⟩
  (fun x:Place l=>{ tmps:=#[shV l,.int .i64 (i:Int),.pointer (some ⟨w.heap.size,0,none⟩),.pointer (some ⟨w.heap.size+1,0,none⟩),.slice none 0 0,.int .i64 0,.pointer (some ⟨w1.heap.size+1,0,none⟩),.int .i64 ((x.val:Nat):Int),.int .i64 (nth l x.val:Int),.int .i64 (i:Int),.bool false,.bool false,.int .i64 (i:Int),shV l,.int .i64 (P:Int),.bool false,.bool false,.pointer (some ⟨w.heap.size,0,none⟩),.int .i64 (l.length:Int),.slice (some ⟨w1.heap.size,0,none⟩) l.length l.length,.pointer (some ⟨w.heap.size,1,none⟩),.pointer (some ⟨w.heap.size,0,none⟩),.int .i64 (l.length:Int),.slice (some ⟨w.heap.size,1,none⟩) l.length 6,.func (.func 269) #[] #[.pointer (some ⟨w1.heap.size+1+1,0,none⟩)],.int .i64 ((x.val:Nat):Int),.int .i64 (nth l x.val:Int),undef,undef,undef,undef,undef,undef,undef,undef,undef,undef],defers:=[] }) ?assign ?body ?done ?stop)
 case srcs=>rw [cell_of_row _ _ _ _ _ _ L.out.shp];exact sh_get l h6 hj
 case assign =>
  intro y x W K hK
  gi_wp2
  exact hK
 case body =>
  rintro y pre ⟨p,hp⟩ W ⟨hi,hr,hbx,hB⟩ hlt;have HF:=hid (foldB_snoc l i pre ⟨p,hp⟩);have hN:=foldB_le l i pre;have hn:=H32.out _ (nth_mem hp);have hlen:=hid (foldB_len l i pre);simp only [stepB] at HF;generalize (foldB l i pre).2=N at hi HF hN;generalize (foldB l i pre).1=t at hr HF hlen;generalize hnn:nth l p=n at hn HF;have HNN:=hid hnn;have c1:=hi.cell;have f1:=hi.frozen;have c2:=hbx.cell;have c3:=hr.cell hp;have f3:=hr.frozen p;have hNn:N / n≤N:=Nat.div_le_self _ _;have m2:IntKind.i64.wrap ((N:Int) / (n:Int))=((N / n:Nat):Int):=by
   rw [← Int.natCast_ediv];generalize N / n=q at hNn;exact IntWalk.i64_in _ (by omega)
  have n1:n≠0:=by omega
  have n0:(n:Int)≠0:=by omega
  have HI:=hid hi;have HR:=hid hr;have HX:=hid hbx;have HB:=hid hB;have FIN:Hid (KeepsFrom W0.heap.size W (((W.setCell ⟨w1.heap.size,p,none⟩ (.int .i64 ((N:Int).tmod (n:Int)))).setCell ⟨w.heap.size+1,0,none⟩ (.int .i64 ((N:Int) / (n:Int)))).drew) ∧
    Same2 (w1.heap.size+1+1) w.heap.size W (((W.setCell ⟨w1.heap.size,p,none⟩ (.int .i64 ((N:Int).tmod (n:Int)))).setCell ⟨w.heap.size+1,0,none⟩ (.int .i64 ((N:Int) / (n:Int)))).drew) ∧
    Boxed (((W.setCell ⟨w1.heap.size,p,none⟩ (.int .i64 ((N:Int).tmod (n:Int)))).setCell ⟨w.heap.size+1,0,none⟩ (.int .i64 ((N:Int) / (n:Int)))).drew) (w.heap.size+1) 3 (.int .i64 ((foldB l i (pre++[⟨p,hp⟩])).2:Int)) ∧
    (((W.setCell ⟨w1.heap.size,p,none⟩ (.int .i64 ((N:Int).tmod (n:Int)))).setCell ⟨w.heap.size+1,0,none⟩ (.int .i64 ((N:Int) / (n:Int)))).drew).rowIs w1.heap.size 3 l.length (fun j=>.int .i64 (nth (foldB l i (pre++[⟨p,hp⟩])).1 j:Int)) ∧
    Boxed (((W.setCell ⟨w1.heap.size,p,none⟩ (.int .i64 ((N:Int).tmod (n:Int)))).setCell ⟨w.heap.size+1,0,none⟩ (.int .i64 ((N:Int) / (n:Int)))).drew) (w1.heap.size+1) 41 (.slice (some ⟨w1.heap.size,0,none⟩) l.length l.length) ∧
    Below w.heap.size w (((W.setCell ⟨w1.heap.size,p,none⟩ (.int .i64 ((N:Int).tmod (n:Int)))).setCell ⟨w.heap.size+1,0,none⟩ (.int .i64 ((N:Int) / (n:Int)))).drew)):=by
   refine hid ⟨?_,?_,?_,?_,?_,?_⟩
   ·exact (((KeepsOthers.setCell _ _ _).trans (KeepsOthers.setCell _ _ _)).trans (KeepsOthers.drew _)).from _
   ·exact⟨by simp [World.setCell],by show ((W.setCell _ _).setCell _ _).heap[_]? = _;rw [_root_.Go.Deep.blk_setCell_other _ _ _ _ (by show w1.heap.size+1+1≠w.heap.size+1;omega),_root_.Go.Deep.blk_setCell_other _ _ _ _ (by show w1.heap.size+1+1≠w1.heap.size;omega)],
     by show ((W.setCell _ _).setCell _ _).heap[_]? = _;rw [_root_.Go.Deep.blk_setCell_other _ _ _ _ (by show w.heap.size≠w.heap.size+1;omega),_root_.Go.Deep.blk_setCell_other _ _ _ _ (by show w.heap.size≠w1.heap.size;omega)]⟩
   ·have h1:Boxed (W.setCell ⟨w1.heap.size,p,none⟩ (.int .i64 ((N:Int).tmod (n:Int)))) (w.heap.size+1) 3 (.int .i64 (N:Int)):=(_root_.Go.Deep.blk_setCell_other _ _ _ _ (by show w.heap.size+1≠w1.heap.size;omega)).trans hi
    have h2:=h1.set (.int .i64 ((N:Int) / (n:Int)));rw [HF.out];show Boxed _ _ _ (.int .i64 (((N / n:Nat):Int)));rw [Int.natCast_ediv];exact h2
   ·have h1:=(hr.set p (.int .i64 ((N:Int).tmod (n:Int)))).setOther (a:=⟨w.heap.size+1,0,none⟩) (by show w1.heap.size≠w.heap.size+1;omega) (.int .i64 ((N:Int) / (n:Int)))
    refine h1.drew.congr fun j hj=>?_;rw [HF.out];show (if j=p then _ else _)=Value.int .i64 (nth (t.set p (N % n)) j:Int);rw [nth_set t p _ j (by rw [hlen.out];exact hp)];by_cases e:j=p
    ·rw [if_pos e,if_pos e,Int.tmod_eq_emod_of_nonneg (by omega),Int.natCast_emod]
    rw [if_neg e,if_neg e]
   ·exact (_root_.Go.Deep.blk_setCell_other _ _ _ _ (by show w1.heap.size+1≠w.heap.size+1;omega)).trans ((_root_.Go.Deep.blk_setCell_other _ _ _ _ (by show w1.heap.size+1≠w1.heap.size;omega)).trans hbx)
   exact ((hB.setCell (p:=⟨w1.heap.size,p,none⟩) (by show w.heap.size≤w1.heap.size;omega) _).setCell (p:=⟨w.heap.size+1,0,none⟩) (by show w.heap.size≤w.heap.size+1;omega) _).drew
  clear hi hr hbx hB hnn
  gi_wp2
  refine region_round y (by kernel_rfl) (by kernel_rfl) ?_;refine wpAnyIn_take (i:=1) (v:=?v1) rfl rfl (by kernel_rfl) (by kernel_rfl) (by kernel_rfl) (fun _ _ _ h=>h) ⟨Or.inl ⟨by rfl,?y1⟩,fun _=>rfl⟩ ?r1
  case y1=>((intro w;go_simp);try with_reducible rfl)
  refine wpAnyIn_take (i:=3) (v:=?v2) rfl rfl (by kernel_rfl) (by kernel_rfl) (by kernel_rfl) (fun _ _ _ h=>h) ⟨Or.inl ⟨by rfl,?y2⟩,fun _=>rfl⟩ ?r2
  case y2=>((intro w;go_simp);try with_reducible rfl)
  refine wpAnyIn_take (i:=6) (v:=?v3) rfl rfl (by kernel_rfl) (by kernel_rfl) (by kernel_rfl) (fun _ _ _ h=>h) ⟨Or.inl ⟨by rfl,?y3⟩,fun _=>rfl⟩ ?r3
  case y3=>((intro w;go_simp);try with_reducible rfl)
  refine wpAnyIn_ready (rs:=[0,2,5]) (by kernel_rfl) (by simp) ?_;refine AllReadyIn.cons rfl (fun K hK=>?_) ?_
  ·go_simp
   refine hK _ _ ?_;clear hK K;refine wpAnyIn_ready (rs:=[2,5]) (by kernel_rfl) (by simp) ?_;refine AllReadyIn.cons rfl (fun K hK=>?_) ?_
   ·go_simp
    refine hK _ _ ?_;clear hK K;refine wpAnyIn_take (i:=4) (v:=?v4) rfl rfl (by kernel_rfl) (by kernel_rfl) (by kernel_rfl) (fun _ _ _ h=>h) ⟨Or.inl ⟨by rfl,?y4⟩,fun _=>rfl⟩ ?r4
    case y4=>((intro w;go_simp);try with_reducible rfl)
    refine wpAnyIn_take (i:=8) (v:=?v5) rfl rfl (by kernel_rfl) (by kernel_rfl) (by kernel_rfl) (fun _ _ _ h=>h) ⟨Or.inl ⟨by rfl,?y5⟩,fun _=>rfl⟩ ?r5
    case y5=>((intro w;go_simp);try with_reducible rfl)
    refine wpAnyIn_ready (rs:=[5,9]) (by kernel_rfl) (by simp) ?_;refine AllReadyIn.cons rfl (fun K hK=>?_) ?_
    ·go_simp
     refine hK _ _ ?_;clear hK K;refine wpAnyIn_take (i:=7) (v:=?v6) rfl rfl (by kernel_rfl) (by kernel_rfl) (by kernel_rfl) (fun _ _ _ h=>h) ⟨Or.inl ⟨by rfl,?y6⟩,fun _=>rfl⟩ ?r6
     case y6=>((intro w;go_simp);try with_reducible rfl)
     refine wpAnyIn_ready (rs:=[9]) (by kernel_rfl) (by simp) ?_;refine AllReadyIn.cons rfl (fun K hK=>?_) AllReadyIn.nil;go_simp;refine hK _ _ ?_;clear hK K;refine wpAnyIn_ready (rs:=[10]) (by kernel_rfl) (by simp) ?_;refine AllReadyIn.cons rfl (fun K hK=>?_) AllReadyIn.nil;go_simp;refine hK _ _ ?_;clear hK K;refine wpAnyIn_done (by kernel_rfl) ?_ _;exact FIN.out
    refine AllReadyIn.cons rfl (fun K hK=>?_) AllReadyIn.nil;go_simp;refine hK _ _ ?_;clear hK K;refine wpAnyIn_ready (rs:=[5]) (by kernel_rfl) (by simp) ?_;refine AllReadyIn.cons rfl (fun K hK=>?_) AllReadyIn.nil;go_simp;refine hK _ _ ?_;clear hK K;refine wpAnyIn_take (i:=7) (v:=?v7) rfl rfl (by kernel_rfl) (by kernel_rfl) (by kernel_rfl) (fun _ _ _ h=>h) ⟨Or.inl ⟨by rfl,?y7⟩,fun _=>rfl⟩ ?r7
    case y7=>((intro w;go_simp);try with_reducible rfl)
    refine wpAnyIn_ready (rs:=[10]) (by kernel_rfl) (by simp) ?_;refine AllReadyIn.cons rfl (fun K hK=>?_) AllReadyIn.nil;go_simp;refine hK _ _ ?_;clear hK K;refine wpAnyIn_done (by kernel_rfl) ?_ _;exact FIN.out
   refine AllReadyIn.cons rfl (fun K hK=>?_) AllReadyIn.nil;go_simp;refine hK _ _ ?_;clear hK K;refine wpAnyIn_take (i:=7) (v:=?v8) rfl rfl (by kernel_rfl) (by kernel_rfl) (by kernel_rfl) (fun _ _ _ h=>h) ⟨Or.inl ⟨by rfl,?y8⟩,fun _=>rfl⟩ ?r8
   case y8=>((intro w;go_simp);try with_reducible rfl)
   refine wpAnyIn_ready (rs:=[2]) (by kernel_rfl) (by simp) ?_;refine AllReadyIn.cons rfl (fun K hK=>?_) AllReadyIn.nil;go_simp;refine hK _ _ ?_;clear hK K;refine wpAnyIn_take (i:=4) (v:=?v9) rfl rfl (by kernel_rfl) (by kernel_rfl) (by kernel_rfl) (fun _ _ _ h=>h) ⟨Or.inl ⟨by rfl,?y9⟩,fun _=>rfl⟩ ?r9
   case y9=>((intro w;go_simp);try with_reducible rfl)
   refine wpAnyIn_take (i:=8) (v:=?v10) rfl rfl (by kernel_rfl) (by kernel_rfl) (by kernel_rfl) (fun _ _ _ h=>h) ⟨Or.inl ⟨by rfl,?y10⟩,fun _=>rfl⟩ ?r10
   case y10=>((intro w;go_simp);try with_reducible rfl)
   refine wpAnyIn_ready (rs:=[9]) (by kernel_rfl) (by simp) ?_;refine AllReadyIn.cons rfl (fun K hK=>?_) AllReadyIn.nil;go_simp;refine hK _ _ ?_;clear hK K;refine wpAnyIn_ready (rs:=[10]) (by kernel_rfl) (by simp) ?_;refine AllReadyIn.cons rfl (fun K hK=>?_) AllReadyIn.nil;go_simp;refine hK _ _ ?_;clear hK K;refine wpAnyIn_done (by kernel_rfl) ?_ _;exact FIN.out
  refine AllReadyIn.cons rfl (fun K hK=>?_) ?_
  ·go_simp
   refine hK _ _ ?_;clear hK K;refine wpAnyIn_take (i:=4) (v:=?v11) rfl rfl (by kernel_rfl) (by kernel_rfl) (by kernel_rfl) (fun _ _ _ h=>h) ⟨Or.inl ⟨by rfl,?y11⟩,fun _=>rfl⟩ ?r11
   case y11=>((intro w;go_simp);try with_reducible rfl)
   refine wpAnyIn_ready (rs:=[0,5]) (by kernel_rfl) (by simp) ?_;refine AllReadyIn.cons rfl (fun K hK=>?_) ?_
   ·go_simp
    refine hK _ _ ?_;clear hK K;refine wpAnyIn_take (i:=8) (v:=?v12) rfl rfl (by kernel_rfl) (by kernel_rfl) (by kernel_rfl) (fun _ _ _ h=>h) ⟨Or.inl ⟨by rfl,?y12⟩,fun _=>rfl⟩ ?r12
    case y12=>((intro w;go_simp);try with_reducible rfl)
    refine wpAnyIn_ready (rs:=[5,9]) (by kernel_rfl) (by simp) ?_;refine AllReadyIn.cons rfl (fun K hK=>?_) ?_
    ·go_simp
     refine hK _ _ ?_;clear hK K;refine wpAnyIn_take (i:=7) (v:=?v13) rfl rfl (by kernel_rfl) (by kernel_rfl) (by kernel_rfl) (fun _ _ _ h=>h) ⟨Or.inl ⟨by rfl,?y13⟩,fun _=>rfl⟩ ?r13
     case y13=>((intro w;go_simp);try with_reducible rfl)
     refine wpAnyIn_ready (rs:=[9]) (by kernel_rfl) (by simp) ?_;refine AllReadyIn.cons rfl (fun K hK=>?_) AllReadyIn.nil;go_simp;refine hK _ _ ?_;clear hK K;refine wpAnyIn_ready (rs:=[10]) (by kernel_rfl) (by simp) ?_;refine AllReadyIn.cons rfl (fun K hK=>?_) AllReadyIn.nil;go_simp;refine hK _ _ ?_;clear hK K;refine wpAnyIn_done (by kernel_rfl) ?_ _;exact FIN.out
    refine AllReadyIn.cons rfl (fun K hK=>?_) AllReadyIn.nil;go_simp;refine hK _ _ ?_;clear hK K;refine wpAnyIn_ready (rs:=[5]) (by kernel_rfl) (by simp) ?_;refine AllReadyIn.cons rfl (fun K hK=>?_) AllReadyIn.nil;go_simp;refine hK _ _ ?_;clear hK K;refine wpAnyIn_take (i:=7) (v:=?v14) rfl rfl (by kernel_rfl) (by kernel_rfl) (by kernel_rfl) (fun _ _ _ h=>h) ⟨Or.inl ⟨by rfl,?y14⟩,fun _=>rfl⟩ ?r14
    case y14=>((intro w;go_simp);try with_reducible rfl)
    refine wpAnyIn_ready (rs:=[10]) (by kernel_rfl) (by simp) ?_;refine AllReadyIn.cons rfl (fun K hK=>?_) AllReadyIn.nil;go_simp;refine hK _ _ ?_;clear hK K;refine wpAnyIn_done (by kernel_rfl) ?_ _;exact FIN.out
   refine AllReadyIn.cons rfl (fun K hK=>?_) AllReadyIn.nil;go_simp;refine hK _ _ ?_;clear hK K;refine wpAnyIn_take (i:=7) (v:=?v15) rfl rfl (by kernel_rfl) (by kernel_rfl) (by kernel_rfl) (fun _ _ _ h=>h) ⟨Or.inl ⟨by rfl,?y15⟩,fun _=>rfl⟩ ?r15
   case y15=>((intro w;go_simp);try with_reducible rfl)
   refine wpAnyIn_ready (rs:=[0]) (by kernel_rfl) (by simp) ?_;refine AllReadyIn.cons rfl (fun K hK=>?_) AllReadyIn.nil;go_simp;refine hK _ _ ?_;clear hK K;refine wpAnyIn_take (i:=8) (v:=?v16) rfl rfl (by kernel_rfl) (by kernel_rfl) (by kernel_rfl) (fun _ _ _ h=>h) ⟨Or.inl ⟨by rfl,?y16⟩,fun _=>rfl⟩ ?r16
   case y16=>((intro w;go_simp);try with_reducible rfl)
   refine wpAnyIn_ready (rs:=[9]) (by kernel_rfl) (by simp) ?_;refine AllReadyIn.cons rfl (fun K hK=>?_) AllReadyIn.nil;go_simp;refine hK _ _ ?_;clear hK K;refine wpAnyIn_ready (rs:=[10]) (by kernel_rfl) (by simp) ?_;refine AllReadyIn.cons rfl (fun K hK=>?_) AllReadyIn.nil;go_simp;refine hK _ _ ?_;clear hK K;refine wpAnyIn_done (by kernel_rfl) ?_ _;exact FIN.out
  refine AllReadyIn.cons rfl (fun K hK=>?_) AllReadyIn.nil;go_simp;refine hK _ _ ?_;clear hK K;refine wpAnyIn_take (i:=7) (v:=?v17) rfl rfl (by kernel_rfl) (by kernel_rfl) (by kernel_rfl) (fun _ _ _ h=>h) ⟨Or.inl ⟨by rfl,?y17⟩,fun _=>rfl⟩ ?r17
  case y17=>((intro w;go_simp);try with_reducible rfl)
  refine wpAnyIn_ready (rs:=[0,2]) (by kernel_rfl) (by simp) ?_;refine AllReadyIn.cons rfl (fun K hK=>?_) ?_
  ·go_simp
   refine hK _ _ ?_;clear hK K;refine wpAnyIn_ready (rs:=[2]) (by kernel_rfl) (by simp) ?_;refine AllReadyIn.cons rfl (fun K hK=>?_) AllReadyIn.nil;go_simp;refine hK _ _ ?_;clear hK K;refine wpAnyIn_take (i:=4) (v:=?v18) rfl rfl (by kernel_rfl) (by kernel_rfl) (by kernel_rfl) (fun _ _ _ h=>h) ⟨Or.inl ⟨by rfl,?y18⟩,fun _=>rfl⟩ ?r18
   case y18=>((intro w;go_simp);try with_reducible rfl)
   refine wpAnyIn_take (i:=8) (v:=?v19) rfl rfl (by kernel_rfl) (by kernel_rfl) (by kernel_rfl) (fun _ _ _ h=>h) ⟨Or.inl ⟨by rfl,?y19⟩,fun _=>rfl⟩ ?r19
   case y19=>((intro w;go_simp);try with_reducible rfl)
   refine wpAnyIn_ready (rs:=[9]) (by kernel_rfl) (by simp) ?_;refine AllReadyIn.cons rfl (fun K hK=>?_) AllReadyIn.nil;go_simp;refine hK _ _ ?_;clear hK K;refine wpAnyIn_ready (rs:=[10]) (by kernel_rfl) (by simp) ?_;refine AllReadyIn.cons rfl (fun K hK=>?_) AllReadyIn.nil;go_simp;refine hK _ _ ?_;clear hK K;refine wpAnyIn_done (by kernel_rfl) ?_ _;exact FIN.out
  refine AllReadyIn.cons rfl (fun K hK=>?_) AllReadyIn.nil;go_simp;refine hK _ _ ?_;clear hK K;refine wpAnyIn_take (i:=4) (v:=?v20) rfl rfl (by kernel_rfl) (by kernel_rfl) (by kernel_rfl) (fun _ _ _ h=>h) ⟨Or.inl ⟨by rfl,?y20⟩,fun _=>rfl⟩ ?r20
  case y20=>((intro w;go_simp);try with_reducible rfl)
  refine wpAnyIn_ready (rs:=[0]) (by kernel_rfl) (by simp) ?_;refine AllReadyIn.cons rfl (fun K hK=>?_) AllReadyIn.nil;go_simp;refine hK _ _ ?_;clear hK K;refine wpAnyIn_take (i:=8) (v:=?v21) rfl rfl (by kernel_rfl) (by kernel_rfl) (by kernel_rfl) (fun _ _ _ h=>h) ⟨Or.inl ⟨by rfl,?y21⟩,fun _=>rfl⟩ ?r21
  case y21=>((intro w;go_simp);try with_reducible rfl)
  refine wpAnyIn_ready (rs:=[9]) (by kernel_rfl) (by simp) ?_;refine AllReadyIn.cons rfl (fun K hK=>?_) AllReadyIn.nil;go_simp;refine hK _ _ ?_;clear hK K;refine wpAnyIn_ready (rs:=[10]) (by kernel_rfl) (by simp) ?_;refine AllReadyIn.cons rfl (fun K hK=>?_) AllReadyIn.nil;go_simp;refine hK _ _ ?_;clear hK K;refine wpAnyIn_done (by kernel_rfl) ?_ _;exact FIN.out
 case done =>
  rintro D ys W hD rfl ⟨hi,hr,hbx,hB⟩ hK;have c2:=hbx.cell;rw [foldB_tup] at hr;have HR:=hid hr;have HB:=hid hB;have HK:=hid hK;clear hi hr hbx hB hK;go_wp2
  trace_state
  refine⟨by simp,.inl ⟨_,_,rfl,run_takeDeferred HK.out,?_⟩⟩;refine⟨_,results_tmp2 rfl _ _ _,⟨_,rfl,own_row (by omega) (tupL_length l i) h6 (by omega) HR.out⟩,HB.out.trans (belowK_b (w:=w) (Nat.le_refl _) W D _ _ (by omega) HK.out rfl rfl)⟩
 case stop =>
  rintro D c pre W _ _ h _;exact h.elim
theorem tuple_ok (l:List Nat) (i:Nat) (w:World) (h6:l.length≤6) (h32:∀ n∈l,1≤n∧n≤32) (h:i < prodL l) :
  Calls Tryz.prog 187 #[shV l,.int .i64 (i:Int)] w fun e w'=>(∃ v,e = .returned (.tuple #[v,.int .i64 0])∧Own w' w.heap.size v (tupL l i))∧Below w.heap.size w w' :=
 (tuple_okx l i w h6 h32 h).mono fun e w' ⟨⟨b,he,hO⟩,hb⟩=>⟨⟨_,he,hO⟩,hb⟩
end Go.Proofs.YtmokogkndbinlaaGreatDoor
namespace Go.Proofs.YtmokogkndbinlaaGreatDoor
open Go.Lib (hid)
open Go.RowKit
theorem new_mid' (A:Option Addr) (n c:Nat) (l:List Nat) (w:World) (hn:n=l.length) (h:l.length≤6) (hr:Ints w A l) (hl:∀ n∈l,1≤n∧n≤32) (hp:prodL l≤4096) :
  Calls Tryz.prog 145 #[.slice A n c] w fun e w'=>e = .returned (.tuple #[shV l,.int .i64 0])∧Below w.heap.size w w':=by
 subst hn;exact new_mid A c l w h hr hl hp
theorem index_ok' (A:Option Addr) (n c N:Nat) (l t:List Nat) (w:World) (hn:n=t.length) (h6:l.length≤6) (h32:∀ n∈l,n≤32) (hr:Ints w A t) (hin:InL l t) (hN:numL l t=N) :
  Calls Tryz.prog 107 #[shV l,.slice A n c] w fun e w'=>e = .returned (.tuple #[.int .i64 (N:Int),.int .i64 0])∧Below w.heap.size w w':=by
 subst hn hN;exact index_ok A c l t w h6 h32 hr hin
def Keep1 (b:Nat) (W W':World):Prop:=W.heap.size≤W'.heap.size∧W'.heap[b]? = W.heap[b]?
theorem Keep1.refl (b:Nat) (W:World):Keep1 b W W:=⟨Nat.le_refl _,rfl⟩
theorem Keep1.trans {b:Nat}{X Y Z:World}(h:Keep1 b X Y) (k:Keep1 b Y Z):Keep1 b X Z:=⟨Nat.le_trans h.1 k.1,k.2.trans h.2⟩
theorem Keep1.put {b l:Nat}{W:World}{o:Obj}(hb:b≠l):Keep1 b W (W.putObj l o):=⟨by simp [World.putObj],World.putObj_heap_other hb⟩
theorem Keep1.of_below {b B:Nat}{X Y:World}(h:Below B X Y) (hb:b < B):Keep1 b X Y:=⟨h.size,h.block b hb⟩
def GoodSeq {α:Type}(n:Nat) (P:Program) (gf:Nat) (lb:Array Value) (encs:α→Array Value) (b:Nat) (Good:Nat→List α→α→World→Prop) (S:List α→Prop) (w0:World):Prop :=
 ∀ (y:Nat) (J:List α→World→Prop) (W:World),Below w0.heap.size w0 W→AbidesFrom W.heap.size J →
  (∀ pre x Wp W1,J pre Wp→Below Wp.heap.size Wp W1→Good Wp.heap.size pre x W1→YieldAt Fence.wide (n - 1) P y (encs x) W1 fun e W'=>e = .returned (.bool true)∧J (pre++[x]) W'∧Keep1 b W1 W') →
  J [] W→CallsIn Fence.wide n P gf (#[.func (.yield y) #[] #[]]++lb) W fun e W'=>(∃ v,e = .returned v)∧∃ xs,S xs∧J xs W'
def goodPost {α:Type}(B b:Nat) (I:List α→World→Prop) (xs:List α) (W:World):Exit→Act→World→Prop
 | .normal,_,W'=>KeepsFrom B W W'∧Keep1 b W W'∧I xs W'
 | _,_,_=>False
theorem range_good {α:Type}{P:Program}{n:Nat}{g:Operand}{ps:Array Tmp}{assign body:Code}{Q:Exit→Act→World→Prop}{a:Act}{w:World}
  (h1:1≤n) {gf:Nat}{lb:Array Value}(hg:a.eval g = .func (.func gf) #[] lb) (eg:∀ args w,(callFunc gf args).run P w = .ok (.enter gf args) w)
  {encs:α→Array Value}{b:Nat}{Good:Nat→List α→α→World→Prop}{S:List α→Prop}(hseq:GoodSeq (n - 1) P gf lb encs b Good S w) (hb₀:b < w.heap.size) (hps:∀ x,(encs x).size=ps.size)
  (hGood:∀ B pre x,OwnFrom w.heap.size (fun (_:Unit) W=>Good B pre x W)) (I:List α→World→Prop) (hI:OwnFrom w.heap.size I) (h0:I [] w) (a₁:α→Act)
  (hassign:∀ (y:Nat) (x:α) (W:World) (K:Act→World→Prop),K (a₁ x) W →
   assign.wpIn (Fence.wide.inRound y) (n - 1 - 1) P (Exit.then K (fun _ _ _=>False)) { tmps:=(ps.zip (encs x)).foldl (fun t (p,v)=>t.setIfInBounds p v) a.tmps,defers:=[] } W)
  (hbody:∀ (y:Nat) (pre:List α) (x:α) (Wp W:World),w.heap.size≤y→(∃ r,W.heap[y]? = some (.loop r))→I pre Wp→I pre W→(∀ k,k < w.heap.size→W.heap[k]? = Wp.heap[k]?)→Good Wp.heap.size pre x W→body.wpIn (Fence.wide.inRound y) (n - 1 - 1) P (goodPost w.heap.size b I (pre++[x]) W) (a₁ x) W)
  (hdone:∀ (D:Nat) (xs:List α) (W:World),w.heap.size≤D→S xs→I xs W→W.heap[D]? = some (.deferred (some []))→Q .normal { a with defers:={ target:=.collected D,args:=#[] }::a.defers } W) :
  (Code.rangeFunc g ps assign body).wpIn Fence.wide n P Q a w:=by
 refine wpIn_rangeFunc fun fn hfn=>?_
 let rec0:LoopState→Loop:=fun st=>{ state:=st,pending:=none,fn:=fn,tmps:=a.tmps,params:=ps,assign:=assign,body:=body,defers:=w.heap.size }
 let W1:=(w.alloc (.deferred (some []))).alloc (.loop (rec0 .ready))
 have e1:w.heap.size+1=(w.alloc (.deferred (some []))).heap.size:=by simp
 have hL:W1.heap[w.heap.size+1]? = some (.loop (rec0 .ready)):=by rw [e1];exact World.alloc_heap_new _ _
 have hD:W1.heap[w.heap.size]? = some (.deferred (some [])):=(Below.heap_alloc _ _ _ (by simp)).trans (World.alloc_heap_new w _);have hB:Below w.heap.size w W1:=((Below.refl _ w).alloc (Nat.le_refl _) _).alloc (by simp) _;have hsz:W1.heap.size=w.heap.size+2:=by simp [W1]
 refine⟨w.heap.size+1,[{ target:=.collected w.heap.size,args:=#[] }],W1,{ target:=.fn (.func gf) lb,args:=#[.func (.yield (w.heap.size+1)) #[] #[]] },W1,gf,
  #[.func (.yield (w.heap.size+1)) #[] #[]]++lb,W1,run_enterLoop_outer _ _ _ _ _,?_,fun _ _=>trivial,?_,fun _=>h1,?_⟩
 ·simp only [resolve,hg]
  simp [go_sem]
 ·simp [invoke,go_sem,eg]
 have hab:AbidesFrom W1.heap.size (fun pre W=>I pre W∧W.heap[w.heap.size+1]? = some (.loop (rec0 .ready))∧W.heap[w.heap.size]? = some (.deferred (some []))):=by
  intro s A B row hs hgr hr;have keep:∀ (k:Nat) (o:Obj),k < W1.heap.size→A.heap[k]? = some o→B.heap[k]? = some o:=fun k o hk ho =>
   (hgr.block k (Array.getElem?_eq_some_iff.1 ho).1 (fun e=>by have:=(hr k e.symm).1;omega)).trans ho
  exact⟨hI s A B row hs.1 hgr (fun r e=>⟨by have:=(hr r e).1;omega,by obtain⟨_,o,ho,hw⟩:=hr r e;exact⟨o,ho,Obj.not_cells_of_walk hw⟩⟩),keep _ _ (by omega) hs.2.1,keep _ _ (by omega) hs.2.2⟩
 refine (hseq (w.heap.size+1) _ W1 hB hab ?_ ⟨hI.alloc _ (hI.alloc _ h0),hL,hD⟩).mono ?_;rotate_left
 ·rintro e W2 ⟨⟨v,rfl⟩,xs,hS,hi,hl,hd⟩
  refine⟨none,_,run_endLoop (P:=P) hl (by simp [rec0]),hdone _ xs _ (Nat.le_refl _) hS (hI.putObj _ hi (by omega) hl rfl) ((World.putObj_heap_other (by omega)).trans hd)⟩
 rintro pre x Wp W ⟨hip,hlp,hdp⟩ hbp hgood;have hltp:w.heap.size+1 < Wp.heap.size:=(Array.getElem?_eq_some_iff.1 hlp).1;have hi:I pre W:=hI _ _ _ none hip ⟨hbp.os,hbp.tape,hbp.output,hbp.size,fun k hk _=>hbp.block k hk⟩ (fun r e=>by cases e);have hl:=(hbp.block _ hltp).trans hlp;have hd:=(hbp.block w.heap.size (by omega)).trans hdp;have hy:=run_yield (P:=P) (args:=encs x) hl (hps x);refine⟨fn,_,assign,body,hy,roundIn_of_wpIn hfn (hassign _ x W _ ⟨_,run_beginRound hl rfl,?_⟩)⟩;have hlt:w.heap.size+1 < W.heap.size:=(Array.getElem?_eq_some_iff.1 hl).1;have hl2:(W.putObj (w.heap.size+1) (.loop (rec0 .busy))).heap[w.heap.size+1]? = some (.loop (rec0 .busy)):=World.putObj_heap_same hlt;have hd2:(W.putObj (w.heap.size+1) (.loop (rec0 .busy))).heap[w.heap.size]? = some (.deferred (some [])):=(World.putObj_heap_other (by omega)).trans hd;have hb2:Keep1 b W (W.putObj (w.heap.size+1) (.loop (rec0 .busy))):=Keep1.put (by omega);refine wpIn_mono (hbody _ pre x Wp _ (by omega) ⟨_,hl2⟩ hip (hI.putObj _ hi (by omega) hl rfl) (fun k hk=>(World.putObj_heap_other (by omega)).trans (hbp.block k (by omega))) ((hGood _ pre x).putObj (s:=()) _ hgood (by omega) hl rfl)) ?_;rintro e a3 W3 hp;cases e with
 | normal =>
  obtain⟨hk,hb,hi3⟩:=hp;have hl3:=hk.same _ _ (by omega) hl2 rfl;have hd3:=hk.same _ _ (Nat.le_refl _) hd2 rfl;have hlt3:w.heap.size+1 < W3.heap.size:=(Array.getElem?_eq_some_iff.1 hl3).1;exact⟨_,_,run_endRound (P:=P) none hl3,rfl,⟨hI.putObj _ hi3 (by omega) hl3 rfl,World.putObj_heap_same hlt3,(World.putObj_heap_other (by omega)).trans hd3⟩,hb2.trans (hb.trans (Keep1.put (by omega)))⟩
 | ret=>exact hp.elim
 | exit id=>exact hp.elim
 | goto t=>exact hp.elim
 | panic c=>exact hp.elim
 | outgrown=>exact hp.elim
end Go.Proofs.YtmokogkndbinlaaGreatDoor
namespace Go.Proofs.YtmokogkndbinlaaGreatDoor
open Go.Lib (hid)
attribute [local go_sem] Oper.semAt_some
open Go.RowKit Go.Shelf
theorem all_call (l:List Nat) (w:World) :
  Calls Tryz.prog 143 #[shV l] w fun e w'=>e = .returned (.func (.func 186) #[] #[.pointer (some ⟨w.heap.size,0,none⟩)])∧w'=w.alloc (shO l):=by
 go_enter Tryz.func143,Tryz.ntmps143
 go_wp2
 go_ret;exact⟨rfl,rfl⟩
def GoodT (l:List Nat) (base:Nat) (pre:List (Nat × Value)) (x:Nat × Value) (W:World):Prop:=x.1=pre.length∧x.1 < prodL l∧Own W base x.2 (tupL l x.1)
theorem goodT_own (l:List Nat) (base B:Nat) (pre:List (Nat × Value)) (x:Nat × Value):OwnFrom B (fun (_:Unit) W=>GoodT l base pre x W):=by
 intro s X Y row hs hg hr;refine⟨hs.1,hs.2.1,World.ownsRow.kept hs.2.2 hg ?_⟩;obtain⟨h1,⟨h2,hn⟩ | ⟨g,cap,cur,h2,hb,hh,_⟩⟩:=hs.2.2
 ·rw [h2]
  exact .inl rfl
 refine .inr fun e=>?_;rw [h2] at e;obtain⟨_,o,ho,hc⟩:=hr g e.symm;rw [hh] at ho;cases ho;cases hc
theorem ShAt.keep {X Y:World}{b:Nat}{l:List Nat}(h:ShAt X b l) (k:Keep1 b X Y):ShAt Y b l:=by
 have c:∀ i,Y.cell? ⟨b,i,none⟩=X.cell? ⟨b,i,none⟩:=fun i=>World.cell?_of_block (a:=⟨b,i,none⟩) k.2;exact⟨(c 0).trans h.c0,(c 1).trans h.c1,(c 2).trans h.c2,(c 3).trans h.c3,(c 4).trans h.c4,(c 5).trans h.c5,(c 6).trans h.c6,Nat.lt_of_lt_of_le h.lt k.1,fun i=>(World.frozen?_of_block (a:=⟨b,i,none⟩) k.2).trans (h.fz i)⟩
abbrev encT (x:Nat × Value):Array Value:=#[.int .i64 (x.1:Int),x.2]
set_option maxRecDepth 100000 in
set_option maxHeartbeats 2000000 in
theorem all_good (n:Nat) (hn:1≤n) (l:List Nat) (P Bs:Nat) (h6:l.length≤6) (h32:∀ n∈l,1≤n∧n≤32) (hP:prodL l=P) (hP2:P≤4096) (w0:World) (hB:ShAt w0 Bs l) :
  GoodSeq n Tryz.prog 186 #[.pointer (some ⟨Bs,0,none⟩)] encT Bs (fun B=>GoodT l B) (fun xs=>xs.length=P) w0:=by
 intro y J W hW hJ hY h0;have K:=hid (fun W=>count_below l W h6 (fun n hn=>(h32 n hn).2) P hP);have T:=hid (fun W i (hi:i < P)=>tuple_ok l i W h6 h32 (by rw [hP];exact hi));have HP:=hid hP;have HY:=hid hY;have HJ:=hid hJ;have H0:=hid h0;have HS:=hid (hB.below hW hB.lt);clear hY hJ h0 hP hB hW h32;refine callsIn_of_wp Tryz.func186 rfl trivial ?_ rfl;simp only [Tryz.ntmps186,List.size_toArray,List.length_cons,List.length_nil,Nat.reduceAdd,Nat.reduceSub,Array.replicate_succ,Array.replicate_zero,List.push_toArray,List.append_toArray,List.nil_append,List.cons_append];obtain⟨c0,c1,c2,c3,c4,c5,c6,hlt,hfz⟩:=HS.out
 gi_wp2_with (refine⟨trivial,?_⟩;gi_at_call 147;refine (callsIn_wide.2 (K.out _)).mono ?_;rintro e W1 ⟨rfl,hb⟩)
 have J1:=hid (HJ.out _ _ _ _ H0.out (grown_of_below hb) (fun r e=>by cases e));have B1:=hid (Keep1.of_below hb HS.out.lt);have hz1:=hb.size;clear hb c0 c1 c2 c3 c4 c5 c6 hlt hfz
 gi_loopw [3,4,5,8] (fun _ _ _ i wr=>∃ pre:List (Nat × Value),pre.length≤P∧i = .int .i64 (pre.length:Int)∧J pre wr∧Keep1 Bs W wr) (fun _ _ _ i _=>P - (intOf i).toNat)
 case atStart=>exact⟨[],Nat.zero_le _,rfl,J1.out,B1.out⟩
 case round =>
  obtain⟨pre,hp,rfl,hJr,hBr⟩:=hrel;have JR:=hid hJr;have BR:=hid hBr;have hzr:=hBr.1;clear hJr hBr;obtain⟨k,hk⟩:∃ k,pre.length=k:=⟨_,rfl⟩
  have HK:=hid hk;rw [hk] at hp ⊢;clear hk;by_cases hlt:k < P
  rotate_left
  ·gi_wp2
   go_end0
   exact⟨⟨_,rfl⟩,pre,by have:=HK.out;omega,JR.out⟩
  obtain⟨c0,c1,c2,c3,c4,c5,c6,hlt',hfz⟩:=HS.out.keep BR.out
  gi_wp2_with fail
  refine⟨trivial,?_⟩;refine (callsIn_wide.2 (T.out _ k hlt)).mono ?_;rintro e W2 ⟨⟨v,rfl,hO⟩,hb2⟩;have J2:=hid hb2;have G2:Hid (GoodT l wr.heap.size pre (k,v) W2):=hid ⟨HK.out.symm,by rw [HP.out];exact hlt,hO⟩;have B2:=hid (BR.out.trans (Keep1.of_below hb2 (HS.out.keep BR.out).lt));have hz2:=hb2.size;obtain⟨fn,tmps,assign,body,hy,hR⟩:=HY.out pre (k,v) wr W2 JR.out J2.out G2.out;simp only [encT] at hy;clear hO hb2 c0 c1 c2 c3 c4 c5 c6 hlt' hfz
  gi_wp2
  refine hR.mono ?_;rintro e W3 ⟨rfl,hJ3,hk3⟩;have J3:=hid hJ3;have B3:=hid (B2.out.trans hk3);clear hJ3 hk3 hy hR
  gi_wp2
  go_roundw
  case rel=>exact⟨pre++[(k,v)],by rw [List.length_append,HK.out];show k+1≤P;omega,by rw [List.length_append,HK.out];go_num,J3.out,B3.out⟩
  case measure=>simp [intOf];omega
theorem keep1_set {W:World}{b g:Nat}(h:b≠g) (i:Nat) (u:Value):Keep1 b W (W.setCell ⟨g,i,none⟩ u):=⟨by simp [World.setCell],Below.heap_setCell W ⟨g,i,none⟩ u b h⟩
theorem box_below {W W':World}{b:Nat}{t:TypeId}{v:Value}(h:Boxed W b t v) (hb:Below W.heap.size W W'):Boxed W' b t v:=(hb.block b h.lt).trans h
end Go.Proofs.YtmokogkndbinlaaGreatDoor
