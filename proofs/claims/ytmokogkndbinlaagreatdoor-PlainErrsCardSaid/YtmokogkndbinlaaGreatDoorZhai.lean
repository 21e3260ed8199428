import Derived.Maps.OwnOps
import Derived.Maps.OwnSet
import Derived.Maps.Views
import Derived.Test.YtmokogkndbinlaaGreatDoorZhah
set_option linter.all false
namespace Go.Proofs.YtmokogkndbinlaaGreatDoor
open Go.Lib (hid)
open Go.RowKit
def IntsT (W:World) (b sc:Nat) (A:Option Addr) (l:List Nat):Prop :=
 l=[]∨∃ g o cur fr,A=some ⟨g,o,none⟩∧W.heap[g]? = some (.cells cur 3 fr)∧g≠b∧g≠sc∧∀ i,i < l.length→W.cell? ⟨g,o+i,none⟩=some (.int .i64 (nth l i:Int))
theorem IntsT.k {W:World}{b sc:Nat}{A:Option Addr}{l:List Nat}(h:IntsT W b sc A l):IntsK W b sc A l:=by
 rcases h with rfl | ⟨g,o,cur,fr,rfl,hg,h1,h2,hc⟩
 ·exact .inl rfl
 exact .inr ⟨g,o,rfl,(Array.getElem?_eq_some_iff.1 hg).1,h1,h2,hc⟩
theorem IntsT.keep {W W':World}{b sc:Nat}{A:Option Addr}{l:List Nat}(h:IntsT W b sc A l) (hk:∀ g cur fr,W.heap[g]? = some (.cells cur 3 fr)→g≠b→g≠sc→W'.heap[g]? = W.heap[g]?):IntsT W' b sc A l:=by
 rcases h with rfl | ⟨g,o,cur,fr,rfl,hg,h1,h2,hc⟩
 ·exact .inl rfl
 have e:=hk g cur fr hg h1 h2;exact .inr ⟨g,o,cur,fr,rfl,e.trans hg,h1,h2,fun i hi=>(World.cell?_of_block (a:=⟨g,o+i,none⟩) e).trans (hc i hi)⟩
theorem IntsT.own {W:World}{b sc base c:Nat}{A:Option Addr}{l:List Nat}(h:Own W base (.slice A l.length c) l) (h1:b < base) (h2:sc < base):IntsT W b sc A l:=by
 have h':=h;obtain⟨_,⟨e,hn⟩ | ⟨g,cap,cur,e,hb,hh,_⟩⟩:=h'
 ·exact .inl (List.eq_nil_of_length_eq_zero hn)
 injection e with e1 e2 e3;subst e1;rcases IntsK.own h h1 h2 with rfl | ⟨g',o',e4,_,h3,h4,hc⟩
 ·exact .inl rfl
 injection e4 with e4;injection e4 with e5 e6;subst e5 e6;exact .inr ⟨g,0,cur,(0,0),rfl,hh,h3,h4,hc⟩
theorem keep_rk {W W':World}{b sc:Nat}(hk:RK W b sc W'):∀ g cur fr,W.heap[g]? = some (.cells cur 3 fr)→g≠b→g≠sc→W'.heap[g]? = W.heap[g]?:=fun g cur fr h h1 h2=>hk.block g (Array.getElem?_eq_some_iff.1 h).1 h1 h2
structure KeepT (W W':World) (b sc:Nat):Prop where
 ints:∀ g cur fr,W.heap[g]? = some (.cells cur 3 fr)→g≠b→g≠sc→W'.heap[g]? = W.heap[g]?
 lines:∀ g cur fr,W.heap[g]? = some (.cells cur 185 fr)→g≠b→g≠sc→W'.heap[g]? = W.heap[g]?
theorem KeepT.rk {W W':World}{b sc:Nat}(hk:RK W b sc W'):KeepT W W' b sc :=
 ⟨keep_rk hk,fun g cur fr h h1 h2=>hk.block g (Array.getElem?_eq_some_iff.1 h).1 h1 h2⟩
theorem KeepT.trans {W W' W'':World}{b sc:Nat}(h:KeepT W W' b sc) (k:KeepT W' W'' b sc):KeepT W W'' b sc :=
 ⟨fun g cur fr h0 h1 h2=>(k.ints g cur fr ((h.ints g cur fr h0 h1 h2).trans h0) h1 h2).trans (h.ints g cur fr h0 h1 h2),fun g cur fr h0 h1 h2=>(k.lines g cur fr ((h.lines g cur fr h0 h1 h2).trans h0) h1 h2).trans (h.lines g cur fr h0 h1 h2)⟩
theorem IntsT.rk {W W':World}{b sc:Nat}{A:Option Addr}{l:List Nat}(h:IntsT W b sc A l) (hk:RK W b sc W'):IntsT W' b sc A l:=h.keep (keep_rk hk)
def LinesK (W:World) (b sc:Nat) (A:Option Addr) (ls:List LineM):Prop :=
 ls=[]∨∃ g o cur fr,A=some ⟨g,o,none⟩∧W.heap[g]? = some (.cells cur 185 fr)∧g≠b∧g≠sc∧∀ i x,ls[i]? = some x→W.cell? ⟨g,o+i * 2+1,none⟩=some (.int .i64 x.2)∧∃ At ct,W.cell? ⟨g,o+i * 2,none⟩=some (.slice At x.1.length ct)∧IntsT W b sc At x.1
theorem LinesK.keep {W W':World}{b sc:Nat}{A:Option Addr}{ls:List LineM}(h:LinesK W b sc A ls) (hk:KeepT W W' b sc):LinesK W' b sc A ls:=by
 rcases h with rfl | ⟨g,o,cur,fr,rfl,hg,h1,h2,hc⟩
 ·exact .inl rfl
 have e:=hk.lines g cur fr hg h1 h2;refine .inr ⟨g,o,cur,fr,rfl,e.trans hg,h1,h2,fun i x hx=>?_⟩;obtain⟨k1,At,ct,k2,k3⟩:=hc i x hx;exact⟨(World.cell?_of_block e).trans k1,At,ct,(World.cell?_of_block e).trans k2,k3.keep hk.ints⟩
theorem LinesK.rk {W W':World}{b sc:Nat}{A:Option Addr}{ls:List LineM}(h:LinesK W b sc A ls) (hk:RK W b sc W'):LinesK W' b sc A ls:=h.keep (KeepT.rk hk)
def FunC (W:World) (b sc:Nat) (sv lv:Value) (f:FunM):Prop :=
 (∃ A c,sv = .slice A f.scope.length c∧f.scope.length≤c∧IntsT W b sc A f.scope)∧∃ A c,lv = .slice A f.lines.length c∧LinesK W b sc A f.lines
theorem FunC.keep {W W':World}{b sc:Nat}{sv lv:Value}{f:FunM}(h:FunC W b sc sv lv f) (hk:KeepT W W' b sc):FunC W' b sc sv lv f:=by
 obtain⟨⟨A,c,h1,h0,h2⟩,A',c',h3,h4⟩:=h;exact⟨⟨A,c,h1,h0,h2.keep hk.ints⟩,A',c',h3,h4.keep hk⟩
theorem FunC.rk {W W':World}{b sc:Nat}{sv lv:Value}{f:FunM}(h:FunC W b sc sv lv f) (hk:RK W b sc W'):FunC W' b sc sv lv f:=h.keep (KeepT.rk hk)
def FunsK (W:World) (b sc:Nat) (A:Option Addr) (fs:List FunM):Prop :=
 fs=[]∨∃ g o,A=some ⟨g,o,none⟩∧g < W.heap.size∧g≠b∧g≠sc∧∀ i f,fs[i]? = some f→∃ sv lv,W.cell? ⟨g,o+i * 3,none⟩=some sv∧W.cell? ⟨g,o+i * 3+1,none⟩=some (.int .i64 f.other)∧W.cell? ⟨g,o+i * 3+2,none⟩=some lv∧FunC W b sc sv lv f
theorem FunsK.rk {W W':World}{b sc:Nat}{A:Option Addr}{fs:List FunM}(h:FunsK W b sc A fs) (hk:RK W b sc W'):FunsK W' b sc A fs:=by
 rcases h with rfl | ⟨g,o,rfl,hg,h1,h2,hc⟩
 ·exact .inl rfl
 refine .inr ⟨g,o,rfl,Nat.lt_of_lt_of_le hg hk.size,h1,h2,fun i f hf=>?_⟩;obtain⟨sv,lv,k1,k2,k3,k4⟩:=hc i f hf;exact⟨sv,lv,(World.cell?_of_block (hk.block g hg h1 h2)).trans k1,(World.cell?_of_block (hk.block g hg h1 h2)).trans k2,(World.cell?_of_block (hk.block g hg h1 h2)).trans k3,k4.rk hk⟩
theorem IntsK.ints {W:World}{b sc:Nat}{A:Option Addr}{l:List Nat}(h:IntsK W b sc A l):Ints W A l:=by
 rcases h with rfl | ⟨g,o,rfl,hg,h1,h2,hc⟩
 ·exact .inl rfl
 exact .inr ⟨g,o,rfl,hg,hc⟩
theorem IntsT.ints {W:World}{b sc:Nat}{A:Option Addr}{l:List Nat}(h:IntsT W b sc A l):Ints W A l:=h.k.ints
theorem linesOf_far (b sc:Nat) (s:ByteArray) (st:RdS) (v:RdV) (Ash:Option Addr) (n c i p:Nat) (sv:Value) (w:World) (hi:n≤i) (hsm:i≤4611686018427387904) (h:RdOk w b sc s st v) (hv:v.shared = .slice Ash n c) :
  Calls Tryz.prog 213 #[.pointer (some ⟨b,0,none⟩),.int .i64 ((i:Int)+1),sv,.int .i64 (p:Int)] w fun e w'=>e = .returned (.slice none 0 0)∧RK w b sc w'∧RdBad w' b 4 p { v with fp:=(p:Int),fe:=4 }:=by
 have c9:w.cell? ⟨b,9,none⟩=some (.slice Ash n c):=hv ▸ h.at_.cell (i:=9) rfl;have NT:=hid (note_new b 1 (p:Int) 4 w _ _ h.at_ (Or.inr ⟨v.fp,rfl⟩) (h.fine ▸ rfl));have HH:=hid h;have d1:decide ((n:Int) < (i:Int)+1)=true:=decide_eq_true (by omega);clear h hv hi;go_enter Tryz.func213,Tryz.ntmps213
 go_wp2_with (first | (go_at_call 166;refine NT.out.mono ?_;rintro e w' ⟨⟨_,rfl⟩,h1,h2⟩) | fail)
 go_ret;exact⟨rfl,RK.grown1 h2,HH.out.told (by decide) h1 h2⟩
end Go.Proofs.YtmokogkndbinlaaGreatDoor
namespace Go.Proofs.YtmokogkndbinlaaGreatDoor
open Go.RowKit
theorem pickedI (c1 c2:Nat) (A1 A2:Option Addr) (l at_:List Nat) (w:World) (hl:l.length≤100000) (hat:at_.length≤100001) (hin:∀ x∈at_,x < l.length) (h1:Ints w A1 l) (h2:Ints w A2 at_) :
  Calls Tryz.prog 88 #[.slice A1 l.length c1,.slice A2 at_.length c2] w fun e w'=>(∃ A c,e = .returned (.slice A (pickN l at_).length c)∧Ints w' A (pickN l at_))∧Below w.heap.size w w':=by
 refine (pickedR c1 c2 A1 A2 l at_ w hl hat hin h1 h2).mono ?_;rintro e w' ⟨⟨A,rfl,hO⟩,hb⟩;obtain⟨A',c',e',hI⟩:=hO.form;injection e' with e1 e2 e3;subst e1 e3;exact⟨⟨A,_,by rw [← e2],hI⟩,hb⟩
abbrev HoldM (wb:World) (b bx nz cs n1 q1 n2 q2:Nat) (oth:Int) (As A1 A2:Option Addr) (W:World):Prop :=
 W.cell? ⟨b,7,none⟩=some (.slice As nz cs)∧W.cell? ⟨bx,0,none⟩=some (.slice A1 n1 q1)∧W.cell? ⟨bx,2,none⟩=some (.slice A2 n2 q2)∧Below wb.heap.size wb W
theorem holdM {wb W W':World}{b bx nz cs n1 q1 n2 q2:Nat}{oth:Int}{As A1 A2:Option Addr}(H:HoldM wb b bx nz cs n1 q1 n2 q2 oth As A1 A2 W) (hb:Below W.heap.size W W'):HoldM wb b bx nz cs n1 q1 n2 q2 oth As A1 A2 W':=by
 obtain⟨a0,a1,a2,h9⟩:=H;have K:∀ b i v,W.cell? ⟨b,i,none⟩=some v→W'.cell? ⟨b,i,none⟩=some v:=fun b i v h=>(hb.cell (p:=⟨b,i,none⟩) (World.block_lt_of_cell? W _ h)).trans h;exact⟨K _ _ _ a0,K _ _ _ a1,K _ _ _ a2,h9.trans (hb.mono h9.size)⟩
theorem HoldM.below {wb W:World}{b bx nz cs n1 q1 n2 q2:Nat}{oth:Int}{As A1 A2:Option Addr}(H:HoldM wb b bx nz cs n1 q1 n2 q2 oth As A1 A2 W):Below wb.heap.size wb W:=H.2.2.2
theorem HoldM.c2 {wb W W':World}{b bx nz cs n1 q1 n2 q2:Nat}{oth:Int}{As A1 A2:Option Addr}(H:HoldM wb b bx nz cs n1 q1 n2 q2 oth As A1 A2 W) (hg:W.grownBy W' (some b)) (hne:bx≠b):W'.cell? ⟨bx,2,none⟩=some (.slice A2 n2 q2) :=
 (World.cell?_of_block (a:=⟨bx,2,none⟩) (hg.block bx (World.block_lt_of_cell? W _ H.2.2.1) (fun e=>hne (Option.some.inj e)))).trans H.2.2.1
set_option maxRecDepth 100000 in
set_option maxHeartbeats 4000000 in
theorem linesOf_ok (b sc:Nat) (s:ByteArray) (st:RdS) (v:RdV) (Ash As Ac:Option Addr) (n c cs cc i p:Nat) (sizes scope:List Nat) (shared:List FunM) (f:FunM) (w:World) (hi:shared[i]? = some f) (hsm:i≤4611686018427387904) (h:RdOk w b sc s st v) (hv:v.shared = .slice Ash shared.length c) (hvs:v.sizes = .slice As sizes.length cs)
  (hnv:sizes.length≤100000) (hlen:scope.length≤100001) (hin:∀ x∈scope,x < sizes.length) (hlf:f.scope.length≤100001) (hif:∀ x∈f.scope,x < sizes.length) (hF:FunsK w b sc Ash shared) (hS:IntsK w b sc As sizes) (hC:IntsK w b sc Ac scope) :
  Calls Tryz.prog 213 #[.pointer (some ⟨b,0,none⟩),.int .i64 ((i:Int)+1),.slice Ac scope.length cc,.int .i64 (p:Int)] w fun e w'=>(∃ A c,e = .returned (.slice A f.lines.length c)∧LinesK w' b sc A f.lines)∧RK w b sc w' ∧
   if pickN sizes f.scope=pickN sizes scope then RdOk w' b sc s st v else RdBad w' b 4 p { v with fp:=(p:Int),fe:=4 }:=by
 have hlt:i < shared.length:=(List.getElem?_eq_some_iff.1 hi).1;have c9:w.cell? ⟨b,9,none⟩=some (.slice Ash shared.length c):=hv ▸ h.at_.cell (i:=9) rfl;have c7:w.cell? ⟨b,7,none⟩=some (.slice As sizes.length cs):=hvs ▸ h.at_.cell (i:=7) rfl;have d1:decide ((shared.length:Int) < (i:Int)+1)=false:=decide_eq_false (by omega);obtain rfl | ⟨g,o,rfl,hg,hg1,hg2,hc⟩:=hF
 ·simp at hlt
 obtain⟨sv,lv,k1,k2,k3,k4⟩:=hc i f hi;obtain⟨⟨A1,q1,rfl,-,k5⟩,A2,q2,rfl,k6⟩:=k4;have hx:=heap_alloc_new w (.cells #[.slice A1 f.scope.length q1,.int .i64 f.other,.slice A2 f.lines.length q2] 202);have n1:=hid (new_val w (.cells #[.slice A1 f.scope.length q1,.int .i64 f.other,.slice A2 f.lines.length q2] 202));have HM:Hid (HoldM (w.alloc (.cells #[.slice A1 f.scope.length q1,.int .i64 f.other,.slice A2 f.lines.length q2] 202)) b w.heap.size sizes.length cs f.scope.length q1 f.lines.length q2 f.other As A1 A2 (w.alloc (.cells #[.slice A1 f.scope.length q1,.int .i64 f.other,.slice A2 f.lines.length q2] 202))) :=
  hid ⟨(n1.out.cell (p:=⟨b,7,none⟩) h.lt).trans c7,by rw [cell_of_row _ _ _ _ _ _ hx];rfl,by rw [cell_of_row _ _ _ _ _ _ hx];rfl,Below.refl _ _⟩
 have P1:=hid (fun W (hb:Below w.heap.size w W)=>pickedI cs q1 As A1 sizes f.scope W hnv hlf hif (hS.ints.below hb (Nat.le_refl _)) (k5.ints.below hb (Nat.le_refl _)));have P2:=hid (fun W (hb:Below w.heap.size w W)=>pickedI cs cc As Ac sizes scope W hnv hlen hin (hS.ints.below hb (Nat.le_refl _)) (hC.ints.below hb (Nat.le_refl _)));have L1:=hid (show (pickN sizes f.scope).length≤1000000 by simp [pickN];omega);generalize pickN sizes f.scope=l1 at P1 L1 ⊢;generalize pickN sizes scope=l2 at P2 ⊢;have EQ:=hid (fun W Aa Ab ca cb (ha:Ints W Aa l1) (hb:Ints W Ab l2)=>equal_any Aa Ab ca cb l1 l2 W L1.out ha hb);have HH:=hid h;have K6:=hid k6;clear h hv hvs hi hc k5 k6 hS hC hin hif hlen hlf hnv hg hg1 hg2 L1 hx;by_cases he:l1=l2
 ·simp only [if_pos he]
  rw [decide_eq_true he] at EQ;clear he;go_enter Tryz.func213,Tryz.ntmps213
  go_upto_region 5 with fail
  generalize hw1:w.alloc (.cells #[.slice A1 f.scope.length q1,.int .i64 f.other,.slice A2 f.lines.length q2] 202)=w1 at HM n1 ⊢;clear c7 c9 k1 k2 k3;generalize hbx:w.heap.size=bx at HM ⊢;clear hbx;go_region_held3 (fun W=>HoldM w1 b bx sizes.length cs f.scope.length q1 f.lines.length q2 f.other As A1 A2 W) (first | exact holdM HM.out ((Below.refl _ _).drew) | exact holdM (by assumption) (by assumption))
   ((first | (go_at_call 88;with_reducible refine (P1.out _ (then_ n1.out (HoldM.below (by assumption)))).mono ?_;rintro e w' ⟨⟨A9,c9,rfl,hI9⟩,hb⟩;have HI9:=hid hI9;clear hI9) | (go_at_call 88;with_reducible refine (P2.out _ (then_ n1.out (HoldM.below (by assumption)))).mono ?_;rintro e w' ⟨⟨A8,c8,rfl,hI8⟩,hb⟩;have HI8:=hid (And.intro (HI9.out.below hb (Nat.le_refl _)) hI8);clear hI8) | (go_at_call 25;refine (EQ.out _ _ _ _ _ HI8.out.1 HI8.out.2).mono ?_;rintro e w' ⟨rfl,hb⟩)))
  go_wp2_with fail
  go_ret;have hB:=then_ n1.out (HoldM.below (by assumption));exact⟨⟨A2,q2,rfl,K6.out.rk (RK.below hB)⟩,RK.below hB,HH.out.below hB⟩
 simp only [if_neg he];rw [decide_eq_false he] at EQ;clear he;have NT:=hid (fun W (hb:Below w.heap.size w W)=>note_new b 1 (p:Int) 4 W _ _ (HH.out.below hb).at_ (Or.inr ⟨v.fp,rfl⟩) (HH.out.fine ▸ rfl));have BX:=hid (show w.heap.size≠b by have:=HH.out.lt;omega);go_enter Tryz.func213,Tryz.ntmps213
 go_upto_region 5 with fail
 generalize hw1:w.alloc (.cells #[.slice A1 f.scope.length q1,.int .i64 f.other,.slice A2 f.lines.length q2] 202)=w1 at HM n1 ⊢;clear c7 c9 k1 k2 k3;generalize hbx:w.heap.size=bx at HM BX ⊢;clear hbx;go_region_held3 (fun W=>HoldM w1 b bx sizes.length cs f.scope.length q1 f.lines.length q2 f.other As A1 A2 W) (first | exact holdM HM.out ((Below.refl _ _).drew) | exact holdM (by assumption) (by assumption))
  ((first | (go_at_call 88;with_reducible refine (P1.out _ (then_ n1.out (HoldM.below (by assumption)))).mono ?_;rintro e w' ⟨⟨A9,c9,rfl,hI9⟩,hb⟩;have HI9:=hid hI9;clear hI9) | (go_at_call 88;with_reducible refine (P2.out _ (then_ n1.out (HoldM.below (by assumption)))).mono ?_;rintro e w' ⟨⟨A8,c8,rfl,hI8⟩,hb⟩;have HI8:=hid (And.intro (HI9.out.below hb (Nat.le_refl _)) hI8);clear hI8) | (go_at_call 25;refine (EQ.out _ _ _ _ _ HI8.out.1 HI8.out.2).mono ?_;rintro e w' ⟨rfl,hb⟩)))
 go_wp2_with (first | (go_at_call 166;refine (NT.out _ (then_ n1.out (HoldM.below (by assumption)))).mono ?_;rintro e w3 ⟨⟨_,rfl⟩,z1,z2⟩;have z3:=HoldM.c2 (by assumption) z2 BX.out;have hB:=hid (then_ n1.out (HoldM.below (by assumption)));replace z1:=hid z1;replace z2:=hid z2) | fail)
 go_ret;have hk:=(RK.below (p:=b) (q:=sc) hB.out).trans (RK.grown1 (q:=sc) z2.out);exact⟨⟨A2,q2,rfl,K6.out.rk hk⟩,hk,(HH.out.below hB.out).told (by decide) z1.out z2.out⟩
end Go.Proofs.YtmokogkndbinlaaGreatDoor
namespace Go.Proofs.YtmokogkndbinlaaGreatDoor
open Go.RowKit
theorem zeroI (w:World):(zeroValue 3).run Tryz.prog w = .ok (.int .i64 0) w:=by kernel_rfl
theorem lawS:Maps.Keyed Tryz.prog 9:=Maps.string_keyed Tryz.underlying9
structure Seen (w:World) (mb q:Nat) (D:DataW Unit) (f:List UInt8→Int):Prop where
 own:w.ownsMap Tryz.prog 9 (plainElem Tryz.prog 3) mb q D
 at_:∀ x,D.atKey (.string x) (.lit (.int .i64 0)) = .lit (.int .i64 (f x))
theorem seen_made (w:World):Seen (w.alloc (.map #[] 0)) w.heap.size 0 (.map []) (fun _=>0):=⟨World.ownsMap_made _ _ _ _,fun x=>rfl⟩
theorem Seen.block {w w':World}{mb q:Nat}{D:DataW Unit}{f:List UInt8→Int}(h:Seen w mb q D f) (hb:w'.heap[mb]? = w.heap[mb]?):Seen w' mb q D f:=by
 obtain⟨⟨es,clock,h1,h2⟩,h3⟩:=h;exact⟨⟨es,clock,hb.trans h1,h2⟩,h3⟩
theorem Seen.put {w w':World}{mb q:Nat}{D:DataW Unit}{f:List UInt8→Int}(h:Seen w mb q D f) (x:List UInt8) (c:Int)
  (ho:w'.ownsMap Tryz.prog 9 (plainElem Tryz.prog 3) mb (q+1) (D.put (.string x) (.lit (.int .i64 c)))) :
  Seen w' mb (q+1) (D.put (.string x) (.lit (.int .i64 c))) (fun y=>if y=x then c else f y):=by
 have ht:=h.own.tidy lawS;refine⟨ho,fun y=>?_⟩;by_cases e:y=x
 ·subst e
  rw [if_pos rfl];exact Maps.atKey_put_same ht.isMap (by trivial) _ _
 rw [if_neg e,Maps.atKey_put_other (by intro hq;injection hq with hq;exact e hq)];exact h.at_ y
def lnC (vs:List (Value × Int)):List Value:=vs.flatMap fun x=>[x.1,.int .i64 x.2]
theorem lnC_snoc (vs:List (Value × Int)) (x:Value × Int):lnC (vs++[x])=lnC vs++[x.1,.int .i64 x.2]:=by simp [lnC,List.flatMap_append]
theorem lnC_at:∀ (vs:List (Value × Int)) (i:Nat) (x:Value × Int),vs[i]? = some x→(lnC vs)[i * 2]? = some x.1∧(lnC vs)[i * 2+1]? = some (.int .i64 x.2)
 | [],i,x,h=>by simp at h
 | y::r,0,x,h=>by
  simp at h
  subst h;exact⟨rfl,rfl⟩
 | y::r,i+1,x,h=>by
  have:=lnC_at r i x (by simpa using h);have e:lnC (y::r)=y.1::.int .i64 y.2::lnC r:=rfl;rw [e,show (i+1) * 2=i * 2+1+1 by omega];exact this
def OwnLn (W:World) (base:Nat) (v:Value) (vs:List (Value × Int)):Prop:=W.ownsRow base 185 2 v vs.length (lnC vs)
theorem ownLn_nil (W:World) (base:Nat):OwnLn W base (.slice none 0 0) []:=World.ownsRow_nil W base 185 2
theorem OwnLn.below {w w':World}{base B:Nat}{v:Value}{l:List (Value × Int)} (h:OwnLn w base v l) (hb:Below B w w') (hB:w.heap.size≤B):OwnLn w' base v l:=by
 obtain⟨h1,⟨rfl,hn⟩ | ⟨g,cap,cur,rfl,hb',hh,hm,hx,hs,ht⟩⟩:=h
 ·exact⟨h1,.inl ⟨rfl,hn⟩⟩
 refine⟨h1,.inr ⟨g,cap,cur,rfl,hb',?_,hm,hx,hs,ht⟩⟩;rw [hb.block g (by have:=(Array.getElem?_eq_some_iff.1 hh).1;omega)];exact hh
theorem OwnLn.rk {w w':World}{p q base:Nat}{v:Value}{l:List (Value × Int)} (h:OwnLn w base v l) (hk:RK w p q w') (hp:p < base) (hq:q < base):OwnLn w' base v l:=by
 obtain⟨h1,⟨rfl,hn⟩ | ⟨g,cap,cur,rfl,hb',hh,hm,hx,hs,ht⟩⟩:=h
 ·exact⟨h1,.inl ⟨rfl,hn⟩⟩
 refine⟨h1,.inr ⟨g,cap,cur,rfl,hb',?_,hm,hx,hs,ht⟩⟩;rw [hk.block g (Array.getElem?_eq_some_iff.1 hh).1 (by omega) (by omega)];exact hh
theorem info_line:(Tryz.prog.info? 185).map (fun i=>(i.zero,i.size,i.bytes))=some (some (.agg #[.slice none 0 0,.int .i64 0]),2,32):=by kernel_rfl
theorem push_line {ops:Array Oper}{rest:List Oper}{o:Oper}{a:Act}{Q:Exit→Act→World→Prop}(hgd:o.guard=none) (sl x:Operand)
  (ho:o.op = .call { callee:=.builtin .append,args:=#[sl,x],argTypes:=#[182,182] })
  (W:World) (base:Nat) (v:Value) (vs:List (Value × Int)) (A:Option Addr) (n c:Nat) (y:Int) (hs:a.eval sl=v) (hx:a.eval x = .slice (some ⟨W.heap.size,0,none⟩) 1 1)
  (hown:OwnLn W base v vs) (hbase:base≤W.heap.size) (hl:vs.length≤1000000)
  (h:∀ v' w',OwnLn w' base v' (vs++[(.slice A n c,y)])→Below base W w'→(∀ g,g < W.heap.size→v.ownBlock≠some g→w'.heap[g]? = W.heap[g]?)→wpList Tryz.prog ops Q rest (a.put o.dst v') w') :
  wpList Tryz.prog ops Q (o::rest) a (W.alloc (.cells #[.slice A n c,.int .i64 y] 185)):=by
 obtain⟨i0,hi,hz0,hz1,hz2⟩:=info_parts info_line;have hb:Below base W (W.alloc (.cells #[.slice A n c,.int .i64 y] 185)):=(Below.refl _ _).alloc hbase _;have hb':=new_val W (.cells #[.slice A n c,.int .i64 y] 185);have hown':=hown.below hb' (Nat.le_refl _);have hc:=heap_alloc_new W (.cells #[.slice A n c,.int .i64 y] 185);refine wpList_append_own _ hgd sl x 182 ho base 185 i0 (.agg #[.slice none 0 0,.int .i64 0]) 2 32 Tryz.underlying182 hi hz0 hz1 hz2 rfl (by decide) v vs.length _ hs hown' ⟨W.heap.size,0,none⟩ 1 1 [.slice A n c,.int .i64 y] hx rfl ?_ ?_ (by unfold maxLen;omega) (by omega) (by simp;omega) ?_
 ·intro j u hj
  rcases j with _ | _ | j
  ·simp at hj
   subst hj;show (W.alloc _).cell? ⟨W.heap.size,0,none⟩=_;rw [cell_of_row _ _ _ _ _ _ hc];rfl
  ·simp at hj
   subst hj;show (W.alloc _).cell? ⟨W.heap.size,1,none⟩=_;rw [cell_of_row _ _ _ _ _ _ hc];rfl
  simp at hj
 ·intro u hu
  simp at hu
  rcases hu with rfl | rfl <;> rfl
 intro v' w' k1 k2 _;refine h v' w' ?_ (hb.grown k2 (by simp;omega) (fun k hk=>(World.ownsRow.lt hown k hk).1)) (fun g hg hne=>?_)
 ·unfold OwnLn
  rw [List.length_append,lnC_snoc];exact k1
 exact (k2.block g (Nat.lt_of_lt_of_le hg hb'.size) (fun e=>hne e.symm)).trans (hb'.block g hg)
theorem OwnLn.obj {W:World}{base:Nat}{v:Value}{vs:List (Value × Int)} (h:OwnLn W base v vs):∀ g,v.ownBlock=some g→base≤g∧∃ cur,W.heap[g]? = some (.cells cur 185 (0,0)):=by
 intro g hg;obtain⟨_,⟨rfl,hn⟩ | ⟨g',cap,cur,rfl,hb,hh,_⟩⟩:=h
 ·simp [Value.ownBlock] at hg
 simp [Value.ownBlock] at hg
 subst hg;exact⟨hb,cur,hh⟩
def LnIs (W:World) (b sc:Nat) (vs:List (Value × Int)) (ls:List LineM):Prop :=
 vs.length=ls.length∧∀ (i:Nat) (x:LineM),ls[i]? = some x→∃ (At:Option Addr) (ct:Nat),vs[i]? = some (Value.slice At x.1.length ct,x.2)∧IntsT W b sc At x.1
theorem lnIs_nil (W:World) (b sc:Nat):LnIs W b sc [] []:=⟨rfl,fun i x h=>by simp at h⟩
theorem LnIs.keep {W W':World}{b sc:Nat}{vs:List (Value × Int)} {ls:List LineM}(h:LnIs W b sc vs ls) (hk:∀ g cur fr,W.heap[g]? = some (.cells cur 3 fr)→g≠b→g≠sc→W'.heap[g]? = W.heap[g]?):LnIs W' b sc vs ls :=
 ⟨h.1,fun i x hx=>by obtain⟨At,ct,h1,h2⟩:=h.2 i x hx;exact⟨At,ct,h1,h2.keep hk⟩⟩
theorem keep_map {W W':World}{b sc mb:Nat}(hm:∃ es c,W.heap[mb]? = some (.map es c)) (hg:W.grownBy W' (some mb)):∀ g cur fr,W.heap[g]? = some (.cells cur 3 fr)→g≠b→g≠sc→W'.heap[g]? = W.heap[g]?:=fun g cur fr h h1 h2=>by
 obtain⟨es,c,hm⟩:=hm;refine hg.block g (Array.getElem?_eq_some_iff.1 h).1 (fun e=>?_);injection e with e;subst e;rw [h] at hm;cases hm
theorem keep_line {W W':World}{b sc base:Nat}{v:Value}{vs:List (Value × Int)} (ho:OwnLn W base v vs) (hg:∀ g,g < W.heap.size→v.ownBlock≠some g→W'.heap[g]? = W.heap[g]?):∀ g cur fr,W.heap[g]? = some (.cells cur 3 fr)→g≠b→g≠sc→W'.heap[g]? = W.heap[g]?:=fun g cur fr h h1 h2=>by
 refine hg g (Array.getElem?_eq_some_iff.1 h).1 (fun e=>?_);obtain⟨_,cur',h3⟩:=ho.obj g e;rw [h] at h3;injection h3 with h3;injection h3 with _ h4;exact absurd h4 (by decide)
theorem LnIs.snoc {W:World}{b sc:Nat}{vs:List (Value × Int)} {ls:List LineM}(h:LnIs W b sc vs ls) {At:Option Addr}{ct:Nat}{x:LineM}(hx:IntsT W b sc At x.1):LnIs W b sc (vs++[(.slice At x.1.length ct,x.2)]) (ls++[x]):=by
 refine⟨by simp [h.1],fun i y hy=>?_⟩;by_cases hi:i < ls.length
 ·rw [List.getElem?_append_left hi] at hy
  obtain⟨A',c',h1,h2⟩:=h.2 i y hy;exact⟨A',c',by rw [List.getElem?_append_left (by rw [h.1];exact hi)];exact h1,h2⟩
 have hi':i=ls.length:=by have:=(List.getElem?_eq_some_iff.1 hy).1;simp at this;omega
 subst hi';simp at hy
 subst hy;exact⟨At,ct,by rw [← h.1];simp,hx⟩
theorem OwnLn.lines {W:World}{b sc base:Nat}{v:Value}{vs:List (Value × Int)} {ls:List LineM}(h:OwnLn W base v vs) (hl:LnIs W b sc vs ls) (h1:b < base) (h2:sc < base):∃ A c,v = .slice A ls.length c∧LinesK W b sc A ls:=by
 have h':=h;obtain⟨k1,⟨rfl,hn⟩ | ⟨g,cap,cur,rfl,hb',hh,hm,hx,hs,ht⟩⟩:=h
 ·have:ls=[]:=List.eq_nil_of_length_eq_zero (by rw [← hl.1];exact hn)
  subst this;exact⟨none,0,rfl,.inl rfl⟩
 refine⟨_,cap,by rw [hl.1],.inr ⟨g,0,cur,(0,0),rfl,hh,by omega,by omega,fun i x hx=>?_⟩⟩;obtain⟨At,ct,e1,e2⟩:=hl.2 i x hx;obtain⟨a1,a2⟩:=lnC_at vs i _ e1;have hi:i < vs.length:=(List.getElem?_eq_some_iff.1 e1).1;have c1:=World.ownsRow.cellAt (h':W.ownsRow base 185 2 _ vs.length _) (i * 2) (by omega);have c2:=World.ownsRow.cellAt (h':W.ownsRow base 185 2 _ vs.length _) (i * 2+1) (by omega);simp only [Nat.zero_add];exact⟨c2.trans a2,At,ct,c1.trans a1,e2⟩
end Go.Proofs.YtmokogkndbinlaaGreatDoor
namespace Go.Proofs.YtmokogkndbinlaaGreatDoor
open Go.RowKit
def TabK (W:World) (b sc:Nat):Prop:=TabP W∧∀ g,Tryz.prog.globalNamed "internal/strconv.uint64pow10" = some g→g≠b∧g≠sc
theorem TabK.rk {W W':World}{b sc:Nat}(h:TabK W b sc) (hk:RK W b sc W'):TabK W' b sc:=by
 refine⟨?_,h.2⟩;obtain⟨h,hne⟩:=h;unfold TabP Lib.TabIs World.var? at h ⊢;cases hg:Tryz.prog.globalNamed "internal/strconv.uint64pow10" with
 | none=>simp [hg] at h
 | some g =>
  simp only [hg,Option.bind_some] at h ⊢;have hlt:g < W.heap.size:=by
   rcases Nat.lt_or_ge g W.heap.size with h' | h'
   ·exact h'
   simp [Array.getElem?_eq_none h'] at h
  rw [hk.block g hlt (hne g hg).1 (hne g hg).2];exact h
theorem costR_ok (b sc:Nat) (s:ByteArray) (st st':RdS) (v:RdV) (n:Int) (p:Nat) (w:World) (h:RdOk w b sc s st v) (hr:numM s.data.toList 0 farZ st = .ok (n,p) st') :
  Calls Tryz.prog 170 #[.pointer (some ⟨b,0,none⟩)] w fun e w'=>e = .returned (.tuple #[.int .i64 (min n v.top),.int .i64 (p:Int)])∧RK w b sc w'∧RdOk w' b sc s st' v :=
 costR_of b v n p w (fun W=>RK w b sc W∧RdOk W b sc s st' v) ((numR_ok b sc s st st' v 0 _ n p w h hr).mono fun e w' hh=>⟨hh.1,hh.2,hh.2.2.at_.cell (i:=6) rfl⟩)
theorem costR_bad (b sc:Nat) (s:ByteArray) (st:RdS) (v:RdV) (e p:Nat) (w:World) (h:RdOk w b sc s st v) (hr:numM s.data.toList 0 farZ st = .bad e p) :
  Calls Tryz.prog 170 #[.pointer (some ⟨b,0,none⟩)] w fun e' w'=>e' = .returned (.tuple #[.int .i64 (min 0 v.top),.int .i64 (p:Int)])∧RK w b sc w'∧RdBad w' b e p { v with fp:=(p:Int),fe:=(e:Int) } :=
 costR_of b v 0 p w (fun W=>RK w b sc W∧RdBad W b e p { v with fp:=(p:Int),fe:=(e:Int) }) ((numR_bad b sc s st v 0 _ e p w h hr).mono fun e w' hh=>⟨hh.1,hh.2,hh.2.2.at_.cell (i:=6) rfl⟩)
theorem costR_still (b e p:Nat) (v:RdV) (w:World) (h:RdBad w b e p v) :
  Calls Tryz.prog 170 #[.pointer (some ⟨b,0,none⟩)] w fun e' w'=>e' = .returned (.tuple #[.int .i64 (min 0 v.top),.int .i64 (p:Int)])∧Below w.heap.size w w'∧RdBad w' b e p v :=
 costR_of b v 0 p w (fun W=>Below w.heap.size w W∧RdBad W b e p v) ((numR_still b e p v 0 _ w h).mono fun e w' hh=>⟨hh.1,hh.2,hh.2.2.at_.cell (i:=6) rfl⟩)
end Go.Proofs.YtmokogkndbinlaaGreatDoor
namespace Go.Proofs.YtmokogkndbinlaaGreatDoor
open Go.RowKit
def topL (k:Int) (ls:List LineM):List LineM:=ls.map fun x=>(x.1,min x.2 k)
theorem linesM_step {l:List UInt8} {sizes scope:List Nat}{n:Nat}{acc:List LineM}{s:RdS}:linesM l sizes scope (n+1) acc s=(tupleM l sizes scope [] s).bind fun x s'=>(numM l 0 farZ s').bind fun c s'' =>
   if acc.any (fun y=>y.1 == x) then .bad 4 c.2 else linesM l sizes scope n (acc++[(x,c.1)]) s'':=rfl
def seenF (acc:List LineM) (x:List UInt8):Int:=if acc.any (fun y=>textL y.1 == x) then 1 else 0
theorem seenF_at {n:Nat}{acc:List LineM}{x:List Nat}(hl:∀ y∈acc,y.1.length=n∧∀ z∈y.1,z≤4611686018427387904) (hx:x.length=n) (hz:∀ z∈x,z≤4611686018427387904):seenF acc (textL x)=if acc.any (fun y=>y.1 == x) then 1 else 0:=by
 have e:acc.any (fun y=>textL y.1 == textL x)=acc.any (fun y=>y.1 == x):=by
  rw [Bool.eq_iff_iff,List.any_eq_true,List.any_eq_true];constructor
  ·rintro⟨y,h1,h2⟩
   refine⟨y,h1,?_⟩;have h3:textL y.1=textL x:=by simpa using h2
   simpa using textL_one y.1 x ((hl y h1).1.trans hx.symm) (hl y h1).2 hz h3
  rintro⟨y,h1,h2⟩;refine⟨y,h1,?_⟩;have h3:y.1=x:=by simpa using h2
  simp [h3]
 unfold seenF;rw [e]
theorem seenF_snoc (acc:List LineM) (x:List Nat) (c:Int):seenF (acc++[(x,c)])=fun y=>if y=textL x then 1 else seenF acc y:=by
 funext y
 unfold seenF;rw [List.any_append];by_cases h:y=textL x
 ·subst h;simp
 rw [show ([(x,c)].any fun z:LineM=>textL z.1 == y)=false by simpa using fun e=>h e.symm,Bool.or_false,if_neg h]
structure LnAt (wb W:World) (b sc mb q n:Nat) (k:Int) (val:Value) (D:DataW Unit) (f:List UInt8→Int) (vs:List (Value × Int)):Prop where
 seen:Seen W mb q D f
 own:OwnLn W wb.heap.size val vs
 mbig:wb.heap.size≤mb
 kept:RK wb b sc W
 hb:b < wb.heap.size
 hs:sc < wb.heap.size
end Go.Proofs.YtmokogkndbinlaaGreatDoor
namespace Go.Proofs.YtmokogkndbinlaaGreatDoor
open Go.RowKit
theorem RdOk.upd {W W':World}{b sc:Nat}{s:ByteArray}{st:RdS}{v v':RdV}(h:RdOk W b sc s st v) (ha:RdAt W' b v') (hg:W.grownBy W' (some b)) (h1:v'.sc=v.sc) (h2:v'.fe=v.fe) (h3:v'.le=v.le) (h4:v'.lp=v.lp):RdOk W' b sc s st v':=by
 have hk:RK W b sc W':=RK.grown1 hg;refine⟨ha,h1.trans h.vsc,(hg.block sc h.scan.lt (fun e=>h.ne (Option.some.inj e).symm)).trans h.scan,h.ne,h.le,h.fits,h2.trans h.fine,?_,h.glob.rk hk h.gb h.gs,h.gb,h.gs⟩;have hb:=h.big;cases hq:st.big with
 | none=>rw [hq] at hb;exact h3.trans hb
 | some q=>rw [hq] at hb;exact⟨h3.trans hb.1,h4.trans hb.2⟩
theorem RdOk.told_put {W:World}{b sc:Nat}{s:ByteArray}{st:RdS}{v:RdV}(h:RdOk W b sc s st v) (x:Int):RdOk (W.setCell ⟨b,10,none⟩ (.int .i64 x)) b sc s st { v with told:=x }∧W.grownBy (W.setCell ⟨b,10,none⟩ (.int .i64 x)) (some b):=by
 have hg:=grown_put W b 10 (.int .i64 x);have ha:=heap_setCell_same W b 10 _ _ (.int .i64 x) h.at_;exact⟨h.upd (v':={ v with told:=x }) ha hg rfl rfl rfl rfl,hg⟩
theorem tupleM_le {l:List UInt8} {sizes:List Nat}:∀ {sc acc a:List Nat}{s t:RdS},s.k≤l.length→tupleM l sizes sc acc s = .ok a t→s.k≤t.k∧t.k≤l.length
 | [],acc,a,s,t,hs,h=>by
  simp only [tupleM,RdR.ok.injEq] at h;rw [← h.2];exact⟨Nat.le_refl _,hs⟩
 | v::r,acc,a,s,t,hs,h=>by
  rw [tupleM_step] at h;obtain⟨c,s',h1,h2⟩:=bind_ok_iff.1 h;obtain⟨e,k1,k2,-,-,-,-⟩:=numM_ok.1 h1;have hw:=stepW_word hs k1;have hk:s'.k=e:=by rw [k2]
  have:=tupleM_le (by rw [hk];exact hw.2.2.1) h2;omega
end Go.Proofs.YtmokogkndbinlaaGreatDoor
