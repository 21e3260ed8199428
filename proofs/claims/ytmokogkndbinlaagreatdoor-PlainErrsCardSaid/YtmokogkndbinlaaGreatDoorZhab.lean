import Derived.Deep.AppendLies
import Derived.StillTailTactics
import Derived.WalkSmall
import Derived.Test.YtmokogkndbinlaaGreatDoorZhaa
set_option linter.all false
namespace Go.Proofs.YtmokogkndbinlaaGreatDoor
open Go.Lib (hid)
open Go.RowKit
abbrev encW (s:ByteArray) (x:Nat × Nat):List Value:=[.string (s.extract x.1 x.2),.int .i64 (x.1:Int)]
def wC (s:ByteArray) (ws:List (Nat × Nat)):List Value:=ws.flatMap (encW s)
theorem wC_snoc (s:ByteArray) (ws:List (Nat × Nat)) (x:Nat × Nat):wC s (ws++[x])=wC s ws++encW s x:=by simp [wC,List.flatMap_append]
theorem wC_len (s:ByteArray) (ws:List (Nat × Nat)):(wC s ws).length=ws.length * 2:=by
 induction ws with
 | nil=>rfl
 | cons x ws ih=>simp [wC,List.flatMap_cons] at ih ⊢;omega
def OwnW (W:World) (base:Nat) (v:Value) (s:ByteArray) (ws:List (Nat × Nat)):Prop:=W.ownsRow base 173 2 v ws.length (wC s ws)
theorem info_word:(Tryz.prog.info? 173).map (fun i=>(i.zero,i.size,i.bytes))=some (some (.agg #[.string ⟨#[]⟩,.int .i64 0]),2,24):=by kernel_rfl
theorem size_u8:∀ w,(Go.sizeOf 5).run Tryz.prog w = .ok 1 w:=by
 intro w;simp [Go.sizeOf]
 rfl
theorem OwnW.nil (W:World) (base:Nat) (s:ByteArray):OwnW W base (.slice none 0 0) s []:=World.ownsRow_nil W base 173 2
theorem OwnW.below {w w':World}{base B:Nat}{v:Value}{s:ByteArray}{ws:List (Nat × Nat)} (h:OwnW w base v s ws) (hb:Below B w w') (hB:w.heap.size≤B):OwnW w' base v s ws:=by
 obtain⟨h1,⟨rfl,hn⟩ | ⟨g,cap,cur,rfl,hb',hh,hm,hx,hs,ht⟩⟩:=h
 ·exact⟨h1,.inl ⟨rfl,hn⟩⟩
 refine⟨h1,.inr ⟨g,cap,cur,rfl,hb',?_,hm,hx,hs,ht⟩⟩;rw [hb.block g (by have:=(Array.getElem?_eq_some_iff.1 hh).1;omega)];exact hh
theorem OwnW.form {w:World}{base:Nat}{v:Value}{s:ByteArray}{ws:List (Nat × Nat)} (h:OwnW w base v s ws):∃ A c,v = .slice A ws.length c∧∀ j (hj:j < ws.length),∃ g,A=some ⟨g,0,none⟩∧g < w.heap.size∧base≤g∧w.cell? ⟨g,j * 2,none⟩=some (.string (s.extract ws[j].1 ws[j].2))∧w.cell? ⟨g,j * 2+1,none⟩=some (.int .i64 (ws[j].1:Int))∧(∀ i,w.frozen? ⟨g,i,none⟩=false):=by
 have h0:=h;obtain⟨hl,⟨rfl,hn⟩ | ⟨g,cap,cur,rfl,hb,hh,hm,hcm,hs,ht⟩⟩:=h
 ·exact⟨none,0,by rw [hn],fun j hj=>by omega⟩
 refine⟨_,cap,rfl,fun j hj=>⟨g,rfl,(Array.getElem?_eq_some_iff.1 hh).1,hb,?_,?_,fun i=>frozen_of_row w g i cur 173 hh⟩⟩
 all_goals
  have hget:∀ (ws:List (Nat × Nat)) (j:Nat) (hj:j < ws.length),(wC s ws)[j * 2]? = some (.string (s.extract ws[j].1 ws[j].2))∧(wC s ws)[j * 2+1]? = some (.int .i64 (ws[j].1:Int)):=by
   intro ws;induction ws with
   | nil=>intro j hj;simp at hj
   | cons x ws ih =>
    intro j hj;cases j with
    | zero=>exact⟨rfl,rfl⟩
    | succ j =>
     have:=ih j (by simpa using hj);rw [show (j+1) * 2=j * 2+2 by omega,show j * 2+2+1=j * 2+1+2 by omega];exact this
  have:=hget ws j hj
 ·have e:(cur.toList.take (ws.length * 2))[j * 2]? = some (.string (s.extract ws[j].1 ws[j].2)):=by rw [ht];exact this.1
  rw [cell_of_row w g (j * 2) cur 173 (0,0) hh];rw [List.getElem?_take,if_pos (by omega)] at e;simpa using e
 have e:(cur.toList.take (ws.length * 2))[j * 2+1]? = some (.int .i64 (ws[j].1:Int)):=by rw [ht];exact this.2
 rw [cell_of_row w g (j * 2+1) cur 173 (0,0) hh];rw [List.getElem?_take,if_pos (by omega)] at e;simpa using e
theorem OwnW.formN {w:World}{base:Nat}{v:Value}{s:ByteArray}{ws:List (Nat × Nat)} (h:OwnW w base v s ws) {m:Nat}(hm:ws.length=m):∃ A c,v = .slice A m c∧m≤c∧(0 < m→∃ g,A=some ⟨g,0,none⟩∧g < w.heap.size∧base≤g):=by
 subst hm;obtain⟨hl,⟨rfl,hn⟩ | ⟨g,cap,cur,rfl,hb,hh,hm,hcm,hs,ht⟩⟩:=h
 ·exact⟨none,0,by rw [hn],by omega,fun h=>by omega⟩
 exact⟨_,cap,rfl,hm,fun _=>⟨g,rfl,(Array.getElem?_eq_some_iff.1 hh).1,hb⟩⟩
theorem OwnW.pop {w:World}{base g m c:Nat}{s:ByteArray}{ws:List (Nat × Nat)} {x:Nat × Nat}(h:OwnW w base (.slice (some ⟨g,0,none⟩) (m+1) c) s (ws++[x])) (hm:ws.length=m):OwnW w base (.slice (some ⟨g,0,none⟩) m c) s ws:=by
 subst hm;unfold OwnW at h ⊢;rw [List.length_append,wC_snoc] at h;exact ownsRow_pop (wC_len s ws) h
theorem OwnW.last {w:World}{base g n c m:Nat}{s:ByteArray}{ws:List (Nat × Nat)} {f i:Nat}(h:OwnW w base (.slice (some ⟨g,0,none⟩) n c) s (ws++[(f,i)])) (hm:ws.length=m) :
  w.cell? ⟨g,m * 2,none⟩=some (.string (s.extract f i))∧∀ j,w.frozen? ⟨g,j,none⟩=false:=by
 subst hm;obtain⟨A',c',e,hf⟩:=h.form;injection e with e1;subst e1;obtain⟨g',e2,_,_,h1,_,h3⟩:=hf ws.length (by simp);injection e2 with e2;injection e2 with e2;subst e2;refine⟨?_,h3⟩;rw [h1];simp
theorem one_byte (w:World) (g o c k:Nat) (s:ByteArray) (hc:k < c) (hk:k < s.size) (hb:Lib.Bytes w g o s) :
  (∀ W,(Instr.slice 22 (.slice (some ⟨g,o,none⟩) s.size c) (some (.int .i64 (k:Int))) (some (.int .i64 ((k:Int)+1))) none).run Tryz.prog W = .ok (.slice (some ⟨g,o+k,none⟩) 1 (c - k)) W) ∧
  (convert 22 9 (.slice (some ⟨g,o+k,none⟩) 1 (c - k))).run Tryz.prog w = .ok (.string (s.extract k (k+1))) w:=by
 refine⟨fun W=>?_,Lib.run_convert_window w 22 5 9 Tryz.underlying22 Tryz.underlying5 Tryz.underlying9 g o s hb k 1 (c - k) (by omega)⟩;have h:=Lib.run_slice_window (P:=Tryz.prog) W 22 5 Tryz.underlying22 size_u8 g o s.size c k (k+1) (by omega) (by omega);rw [show k+1 - k=1 by omega] at h;exact h
theorem small_wraps (k:Nat) (h:k≤1000000):IntKind.i64.wrap (k:Int)=(k:Int)∧IntKind.i64.wrap ((k:Int)+1)=(k:Int)+1∧IntKind.i64.wrap ((k:Int)+1 - 1)=(k:Int):=by
 refine⟨IntWalk.i64_in _ (by omega),IntWalk.i64_in _ (by omega),?_⟩;rw [show (k:Int)+1 - 1=(k:Int) by omega];exact IntWalk.i64_in _ (by omega)
theorem bytes_below {w w':World}{g o B:Nat}{s:ByteArray}(h:Lib.Bytes w g o s) (hb:Below B w w') (hg:g < B):Lib.Bytes w' g o s:=fun i hi=>(hb.cell (p:=⟨g,o+i,none⟩) hg).trans (h i hi)
theorem extract_none (s:ByteArray) (i:Nat):s.extract i i=⟨#[]⟩:=by
 apply ByteArray.ext;apply Array.toList_inj.1;simp
theorem extract_more (s:ByteArray) {f i:Nat}(h:f≤i):s.extract f i++s.extract i (i+1)=s.extract f (i+1):=by
 apply ByteArray.ext;apply Array.toList_inj.1;simp [Nat.min_eq_left h]
theorem extract_sizes (s:ByteArray) (f i:Nat) (hs:s.size≤100000):¬ 9223372036854775807 < (s.extract f i).size+(s.extract i (i+1)).size:=by
 rw [ByteArray.size_extract,ByteArray.size_extract];omega
theorem push_word {ops:Array Oper}{rest:List Oper}{o:Oper}{a:Act}{Q:Exit→Act→World→Prop}(hgd:o.guard=none) (sl x:Operand)
  (ho:o.op = .call { callee:=.builtin .append,args:=#[sl,x],argTypes:=#[166,166] })
  (W:World) (base:Nat) (v:Value) (s:ByteArray) (ws:List (Nat × Nat)) (i:Nat) (hs:a.eval sl=v) (hx:a.eval x = .slice (some ⟨W.heap.size,0,none⟩) 1 1)
  (hown:OwnW W base v s ws) (hbase:base≤W.heap.size) (hl:ws.length≤1000000)
  (h:∀ v' w',OwnW w' base v' s (ws++[(i,i)])→Below base W w'→wpList Tryz.prog ops Q rest (a.put o.dst v') w') :
  wpList Tryz.prog ops Q (o::rest) a (W.alloc (.cells #[.string ⟨#[]⟩,.int .i64 (i:Int)] 173)):=by
 obtain⟨i0,hi,hz0,hz1,hz2⟩:=info_parts info_word;have hb:Below base W (W.alloc (.cells #[.string ⟨#[]⟩,.int .i64 (i:Int)] 173)):=(Below.refl _ _).alloc hbase _;have hown':=hown.below (new_val W (.cells #[.string ⟨#[]⟩,.int .i64 (i:Int)] 173)) (Nat.le_refl _);have hc:=heap_alloc_new W (.cells #[.string ⟨#[]⟩,.int .i64 (i:Int)] 173);refine wpList_append_own _ hgd sl x 166 ho base 173 i0 (.agg #[.string ⟨#[]⟩,.int .i64 0]) 2 24 Tryz.underlying166 hi hz0 hz1 hz2 rfl (by decide) v ws.length _ hs hown' ⟨W.heap.size,0,none⟩ 1 1 [.string ⟨#[]⟩,.int .i64 (i:Int)] hx rfl ?_ ?_ (by unfold maxLen;omega) (by omega) (by simp;omega) ?_
 ·intro j u hj
  rcases j with _ | _ | j
  ·simp at hj
   subst hj;show (W.alloc _).cell? ⟨W.heap.size,0,none⟩=_;rw [cell_of_row _ _ _ _ _ _ hc];rfl
  ·simp at hj
   subst hj;show (W.alloc _).cell? ⟨W.heap.size,1,none⟩=_;rw [cell_of_row _ _ _ _ _ _ hc];rfl
  simp at hj
 ·intro u hu
  simp at hu
  rcases hu with rfl | rfl <;> rfl
 intro v' w' k1 k2 _;refine h v' w' ?_ (hb.grown k2 (by simp;omega) (fun k hk=>(World.ownsRow.lt hown k hk).1));unfold OwnW;rw [List.length_append,wC_snoc];have e:encW s (i,i)=[.string ⟨#[]⟩,.int .i64 (i:Int)]:=by
  show [Value.string (s.extract i i),Value.int .i64 (i:Int)]=_;rw [extract_none]
 rw [e];exact k1
theorem OwnW.more {w:World}{base g n c:Nat}{s:ByteArray}{ws:List (Nat × Nat)} {f i:Nat}(h:OwnW w base (.slice (some ⟨g,0,none⟩) n c) s (ws++[(f,i)])) :
  OwnW (w.setCell ⟨g,ws.length * 2,none⟩ (.string (s.extract f (i+1)))) base (.slice (some ⟨g,0,none⟩) n c) s (ws++[(f,i+1)])∧w.grownBy (w.setCell ⟨g,ws.length * 2,none⟩ (.string (s.extract f (i+1)))) (some g):=by
 have hn:n=(ws++[(f,i)]).length:=by
  obtain⟨A',c',e,_⟩:=h.form;injection e
 subst hn;have h2:=World.ownsRow.stored (show w.ownsRow base 173 2 (.slice (some ⟨g,0,none⟩) (ws++[(f,i)]).length c) (ws++[(f,i)]).length (wC s (ws++[(f,i)])) from h) (ws.length * 2) (.string (s.extract f (i+1)));refine⟨?_,h2.2⟩;have e:(wC s (ws++[(f,i)])).set (ws.length * 2) (.string (s.extract f (i+1)))=wC s (ws++[(f,i+1)]):=by
  rw [wC_snoc,wC_snoc,List.set_append_right _ _ (by rw [wC_len];omega),wC_len,Nat.sub_self];rfl
 have h3:=h2.1;rw [e] at h3;unfold OwnW;have el:(ws++[(f,i+1)]).length=(ws++[(f,i)]).length:=by simp
 rw [el];exact h3
end Go.Proofs.YtmokogkndbinlaaGreatDoor
namespace Go.Proofs.YtmokogkndbinlaaGreatDoor
open Go.RowKit
def WordsR (w:World) (s:ByteArray) (v o:Value) (i:Nat) (wr:World):Prop :=
 i≤s.size∧Below w.heap.size w wr∧∃ ws:List (Nat × Nat),ws.length≤i∧OwnW wr w.heap.size v s ws ∧
  ((o = .bool false∧wordsL s.data.toList 0=(ws++(wordsL s.data.toList i).1,(wordsL s.data.toList i).2)) ∨
   ∃ ws' f,o = .bool true∧ws=ws'++[(f,i)]∧OpenW s.data.toList f i∧wordsL s.data.toList 0=(ws'++(wordsL s.data.toList f).1,(wordsL s.data.toList f).2))
def WordsP (w:World) (s:ByteArray) (e:Ending) (w':World):Prop :=
 (∃ v,e = .returned (.tuple #[v,.int .i64 (badI (wordsL s.data.toList 0).2)])∧OwnW w' w.heap.size v s (wordsL s.data.toList 0).1)∧Below w.heap.size w w'
set_option maxRecDepth 100000 in
set_option maxHeartbeats 2000000 in
theorem words_any (A:Option Addr) (c:Nat) (s:ByteArray) (w:World) (hs:s.size≤100000) (hsc:s.size≤c) (h:BS w A s) :
  Calls Tryz.prog 110 #[.slice A s.size c] w (WordsP w s):=by
 have HB:=hid h;clear h;go_enter Tryz.func110,Tryz.ntmps110
 go_wp2_with fail
 go_loopw [4,5,10] (fun v o i wr=>∃ k:Nat,i = .int .i64 (k:Int)∧WordsR w s v o k wr) (fun _ _ i _=>s.size - (intOf i).toNat)
 case atStart=>exact⟨0,rfl,Nat.zero_le _,Below.refl _ _,[],Nat.le_refl _,OwnW.nil _ _ _,.inl ⟨rfl,by simp⟩⟩
 case round =>
  obtain⟨k,rfl,hk,hbe,ws,hwl,hO,hst⟩:=hrel;have BE:=hid hbe;have OW:=hid hO;clear hbe hO;by_cases hlt:k < s.size
  ·have hl:k < s.data.toList.length:=by rw [size_list];exact hlt
   rcases HB.out with ⟨rfl,h0⟩ | ⟨g,o,rfl,hg,hby⟩
   ·omega
   have hc:=bytes_below hby BE.out hg k hlt;have HY:=hid hby;clear hby;obtain⟨x,hx⟩:∃ x,s[k].toNat=x:=⟨_,rfl⟩
   have hx2:x≤255:=by rw [← hx];have:=s[k].toNat_lt;omega
   have hxl:s.data.toList[k].toNat=x:=hx;rw [hx] at hc;have HX:=hid hxl;clear hx hxl;have hkl:(k:Int) < (s.size:Int):=by omega
   have hk1:IntKind.i64.wrap ((k:Int)+1)=(k:Int)+1:=IntWalk.i64_in _ (by omega);obtain⟨N,hN⟩:∃ N,ws.length=N:=⟨_,rfl⟩
   obtain⟨A4,c4,rfl,hNc,hNg⟩:=OW.out.formN hN;have HN:=hid hN;have HG:=hid hNg;clear hN hNg hk1;cases hB:isB x with
   | true =>
    have FIN:Hid (∃ ws:List (Nat × Nat),ws.length≤k+1∧OwnW wr w.heap.size (.slice A4 N c4) s ws ∧
      (((Value.bool false:Value) = .bool false∧wordsL s.data.toList 0=(ws++(wordsL s.data.toList (k+1)).1,(wordsL s.data.toList (k+1)).2)) ∨
       ∃ ws' f,(Value.bool false:Value) = .bool true∧ws=ws'++[(f,k+1)]∧OpenW s.data.toList f (k+1)∧wordsL s.data.toList 0=(ws'++(wordsL s.data.toList f).1,(wordsL s.data.toList f).2))):=by
     refine hid ⟨ws,by omega,OW.out,.inl ⟨rfl,?_⟩⟩;have hb:isB s.data.toList[k].toNat=true:=by rw [HX.out];exact hB
     rcases hst with ⟨_,e⟩ | ⟨ws',f,_,rfl,ho,e⟩
     ·rw [e,wordsL_skip hl hb]
     rw [e,ho.close hl hb];simp
    clear hst;have hx4:x=32∨x=9∨x=10∨x=13:=by simpa [isB,or_assoc] using hB
    clear hB HX;rcases hx4 with rfl | rfl | rfl | rfl
    all_goals
     go_wp2_with fail
     go_roundw
     case rel=>exact⟨k+1,by go_num,by omega,BE.out,FIN.out⟩
     case measure=>simp [intOf];omega
   | false =>
    obtain⟨n1,n2,n3,n4⟩:x≠32∧x≠9∧x≠10∧x≠13:=by
     simp only [isB,Bool.or_eq_false_iff,beq_eq_false_iff_ne] at hB;exact⟨hB.1.1.1,hB.1.1.2,hB.1.2,hB.2⟩
    have e1:((x:Int) == 32)=false:=by rw [beq_eq_false_iff_ne];omega
    have e2:((x:Int) == 9)=false:=by rw [beq_eq_false_iff_ne];omega
    have e3:((x:Int) == 10)=false:=by rw [beq_eq_false_iff_ne];omega
    have e4:((x:Int) == 13)=false:=by rw [beq_eq_false_iff_ne];omega
    clear n1 n2 n3 n4;have hnb:isB s.data.toList[k].toNat=false:=by rw [HX.out];exact hB
    have HNB:=hid hnb;clear hB hnb;cases hW:isW x with
    | false =>
     have hnw:isW s.data.toList[k].toNat=false:=by rw [HX.out];exact hW
     have HNW:=hid hnw;have hr:(x:Int) < 33∨((33:Int)≤(x:Int)∧(126:Int) < (x:Int)):=by
      simp [isW] at hW
      omega
     clear hW hnw HX;rcases hst with ⟨rfl,e⟩ | ⟨ws',f,rfl,rfl,ho,e⟩
     ·have FIN:Hid (wordsL s.data.toList 0=(ws,some k)):=hid (by rw [e,wordsL_wrong hl HNB.out HNW.out,List.append_nil])
      clear e;rcases hr with hr | ⟨hr1,hr2⟩
      all_goals
       go_wp2_with fail
       go_ret2;refine⟨⟨_,by rw [FIN.out];rfl,by rw [FIN.out];exact OW.out⟩,BE.out⟩
     have FIN:Hid (wordsL s.data.toList 0=(ws',some k)):=hid (by rw [e,ho.wrong hl HNB.out HNW.out,List.append_nil]);obtain⟨m,rfl⟩:∃ m,N=m+1:=⟨N - 1,by have:=HN.out;simp at this;omega⟩
     have HM:Hid (ws'.length=m):=hid (by have:=HN.out;simpa using this);obtain⟨g4,rfl,hg4,hb4⟩:=HG.out (by omega);have PO:=hid (OW.out.pop HM.out);have hm9:(m:Int)≤100000:=by have:=HM.out;have:=HN.out;omega
     have hm8:(m:Int)≤(c4:Int):=by omega
     clear e ho hwl;rcases hr with hr | ⟨hr1,hr2⟩
     all_goals
      go_wp2_with fail
      go_ret2;refine⟨⟨_,by rw [FIN.out];rfl,by rw [FIN.out];exact PO.out⟩,BE.out⟩
    | true =>
     have hnw:isW s.data.toList[k].toNat=true:=by rw [HX.out];exact hW
     have HNW:=hid hnw;obtain⟨hr1,hr2⟩:(33:Int)≤(x:Int)∧(x:Int)≤126:=by
      simp [isW] at hW
      omega
     clear hW hnw HX;rcases hst with ⟨rfl,e⟩ | ⟨ws',f,rfl,rfl,ho,e⟩
     ·have FIN:Hid (wordsL s.data.toList 0=(ws++(wordsL s.data.toList k).1,(wordsL s.data.toList k).2)):=hid e
      have OP:=hid (OpenW.new hl HNW.out);have hw9:ws.length≤1000000:=by omega
      have HW9:=hid hw9;clear e hw9;go_wp2_with (at_builtin;refine push_word rfl (.tmp 45) (.tmp 48) rfl wr w.heap.size _ s ws k rfl rfl OW.out BE.out.size HW9.out ?_;intro v' w4 h1 h2;obtain⟨A5,c5,rfl,_,hg5⟩:=h1.formN (m:=N+1) (by rw [List.length_append,HN.out];rfl);obtain⟨g5,rfl,hg5,hb5⟩:=hg5 (by omega);have O4:=hid h1;have B4:=hid h2;clear h1 h2)
      have HY4:Hid (Lib.Bytes w4.drew g o s):=hid (fun i hi=>bytes_below HY.out (BE.out.trans B4.out) hg i hi);obtain⟨hcell,hfr⟩:w4.drew.cell? ⟨g5,N * 2,none⟩=some (.string (s.extract k k))∧∀ j,w4.drew.frozen? ⟨g5,j,none⟩=false:=O4.out.last HN.out;have hfr:=hfr (N * 2);obtain⟨hsl,hcv⟩:=one_byte w4.drew g o c k s (by omega) hlt HY4.out;have MO:=hid (OwnW.more (w:=w4.drew) O4.out);rw [HN.out,← extract_more s (Nat.le_refl k)] at MO;have hsz:=extract_sizes s k k hs;generalize s.extract k k=E at hcell MO hsz;generalize s.extract k (k+1)=D at hcv MO hsz;have hN9:N≤100000:=by have:=HN.out;omega
      obtain⟨hN1,_,hN2⟩:=small_wraps N (by omega);obtain⟨hk1,hk2,_⟩:=small_wraps k (by omega);have hNl:(N:Int) < (N:Int)+1:=by omega
      have HWL:Hid (ws.length≤k):=hid (by omega);clear hc hwl hNc;go_still_tail 16,(by kernel_rfl)
      change wpList _ _ _ _ _ w4.drew
      clear hsl hcv hN1 hN2 hk1 hk2 hNl;have MO2:Hid (OwnW (w4.drew.setCell ⟨g5,N * 2,none⟩ (.string (E++D))) w.heap.size (.slice (some ⟨g5,0,none⟩) (N+1) c5) s (ws++[(k,k+1)])∧Below w.heap.size w (w4.drew.setCell ⟨g5,N * 2,none⟩ (.string (E++D)))) :=
       hid ⟨MO.out.1,below_grown (BE.out.trans B4.out).drew (show w4.drew.grownBy (w4.drew.setCell ⟨g5,N * 2,none⟩ (.string (E++D))) (some g5) from MO.out.2) (Nat.le_refl _) hb5⟩
      generalize w4.drew=w5 at hcell hfr MO2 ⊢;go_wp2_with fail
      go_roundw
      case rel =>
       refine⟨k+1,by go_num,by omega,MO2.out.2,ws++[(k,k+1)],by rw [List.length_append];have:=HWL.out;simp;omega,MO2.out.1,.inr ⟨ws,k,rfl,rfl,OP.out,FIN.out⟩⟩
      case measure=>simp [intOf];omega
     obtain⟨m,rfl⟩:∃ m,N=m+1:=⟨N - 1,by have:=HN.out;simp at this;omega⟩
     have HM:Hid (ws'.length=m):=hid (by have:=HN.out;simpa using this);obtain⟨g5,rfl,hg5,hb5⟩:=HG.out (by omega);have HO1:=hid ho.1;have OP:=hid (ho.more hl HNW.out);have FIN:=hid e;have HY4:Hid (Lib.Bytes wr.drew g o s):=hid (fun i hi=>bytes_below HY.out BE.out hg i hi);have hwl':ws'.length≤k:=by simp at hwl;omega
     clear e ho;go_wp2_with fail
     obtain⟨hcell,hfr⟩:wr.drew.cell? ⟨g5,m * 2,none⟩=some (.string (s.extract f k))∧∀ j,wr.drew.frozen? ⟨g5,j,none⟩=false:=OW.out.last HM.out;have hfr:=hfr (m * 2);obtain⟨hsl,hcv⟩:=one_byte wr.drew g o c k s (by omega) hlt HY4.out;have MO:=hid (OwnW.more (w:=wr.drew) OW.out);rw [HM.out,← extract_more s (Nat.le_of_lt HO1.out)] at MO;have hsz:=extract_sizes s f k hs;generalize s.extract f k=E at hcell MO hsz;generalize s.extract k (k+1)=D at hcv MO hsz;have hm9:m≤100000:=by have:=HM.out;omega
     obtain⟨hm1,_,hm2⟩:=small_wraps m (by omega);obtain⟨hk1,hk2,_⟩:=small_wraps k (by omega);have hml:(m:Int) < (m:Int)+1:=by omega
     have HWL:Hid (ws'.length≤k):=hid (by omega);clear hc hwl hNc;go_still_tail 16,(by kernel_rfl)
     change wpList _ _ _ _ _ wr.drew
     clear hsl hcv hm1 hm2 hk1 hk2 hml;have MO2:Hid (OwnW (wr.drew.setCell ⟨g5,m * 2,none⟩ (.string (E++D))) w.heap.size (.slice (some ⟨g5,0,none⟩) (m+1) c4) s (ws'++[(f,k+1)])∧Below w.heap.size w (wr.drew.setCell ⟨g5,m * 2,none⟩ (.string (E++D)))) :=
      hid ⟨MO.out.1,below_grown BE.out.drew (show wr.drew.grownBy (wr.drew.setCell ⟨g5,m * 2,none⟩ (.string (E++D))) (some g5) from MO.out.2) (Nat.le_refl _) hb5⟩
     generalize wr.drew=w5 at hcell hfr MO2 ⊢;go_wp2_with fail
     go_roundw
     case rel =>
      refine⟨k+1,by go_num,by omega,MO2.out.2,ws'++[(f,k+1)],by rw [List.length_append];have:=HWL.out;simp;omega,MO2.out.1,.inr ⟨ws',f,rfl,rfl,OP.out,FIN.out⟩⟩
     case measure=>simp [intOf];omega
  obtain rfl:k=s.size:=by omega
  have hlt':¬ ((s.size:Int) < (s.size:Int)):=by omega
  rcases hst with ⟨rfl,e⟩ | ⟨ws',f,rfl,rfl,ho,e⟩
  ·have HE:=hid e
   clear e;obtain⟨N,hN⟩:∃ N,ws.length=N:=⟨_,rfl⟩
   obtain⟨A4,c4,rfl,_,_⟩:=OW.out.formN hN;clear hN;go_wp2_with fail
   go_ret2;have e:=HE.out;rw [← size_list,wordsL_end,List.append_nil] at e;refine⟨⟨_,by rw [e];rfl,by rw [e];exact OW.out⟩,BE.out⟩
  have HE:=hid e;have HO:=hid ho;clear e ho;obtain⟨N,hN⟩:∃ N,(ws'++[(f,s.size)]).length=N:=⟨_,rfl⟩
  obtain⟨A4,c4,rfl,_,_⟩:=OW.out.formN hN;clear hN;go_wp2_with fail
  go_ret2;have e:=HE.out;have ho:=HO.out;rw [← size_list] at ho;rw [ho.done] at e;refine⟨⟨_,by rw [e];rfl,by rw [e,size_list];exact OW.out⟩,BE.out⟩
end Go.Proofs.YtmokogkndbinlaaGreatDoor
