import Derived.Test.YtmokogkndbinlaaGreatDoorZhai
set_option linter.all false
namespace Go.Proofs.YtmokogkndbinlaaGreatDoor
open Go.Lib (hid)
open Go.RowKit
def LT1 (s:ByteArray) (sizes scope:List Nat) (b sc:Nat) (v:RdV) (st:RdS) (E:RdR (List LineM)) (x:List Nat) (W:World):Prop :=
 (∃ st3,tupleM s.data.toList sizes scope [] st = .ok x st3∧RdOk W b sc s st3 v)∨∃ e p,RdBad W b e p { v with fp:=(p:Int),fe:=(e:Int) }∧E = .bad e p
def LC1 (s:ByteArray) (sizes scope:List Nat) (b sc:Nat) (v:RdV) (st:RdS) (E:RdR (List LineM)) (x:List Nat) (n pc:Int) (W:World):Prop :=
 (∃ st3 st4 n0 p0,tupleM s.data.toList sizes scope [] st = .ok x st3∧numM s.data.toList 0 farZ st3 = .ok (n0,p0) st4∧n=min n0 v.top∧pc=(p0:Nat)∧RdOk W b sc s st4 v)∨∃ e p,RdBad W b e p { v with fp:=(p:Int),fe:=(e:Int) }∧E = .bad e p
def LN1 (s:ByteArray) (sizes scope:List Nat) (b sc:Nat) (v:RdV) (st:RdS) (E:RdR (List LineM)) (x:List Nat) (W:World):Prop :=
 (∃ st3 st4 n0 p0,tupleM s.data.toList sizes scope [] st = .ok x st3∧numM s.data.toList 0 farZ st3 = .ok (n0,p0) st4∧RdBad W b 4 p0 { v with fp:=(p0:Int),fe:=4 })∨∃ e p,RdBad W b e p { v with fp:=(p:Int),fe:=(e:Int) }∧E = .bad e p
theorem costL {b sc:Nat}{s:ByteArray}{sizes scope:List Nat}{v:RdV}{st:RdS}{E:RdR (List LineM)} {x:List Nat}{W:World}(hE:∀ x st3 e p,tupleM s.data.toList sizes scope [] st = .ok x st3→numM s.data.toList 0 farZ st3 = .bad e p→E = .bad e p)
  (h:LT1 s sizes scope b sc v st E x W):Calls Tryz.prog 170 #[.pointer (some ⟨b,0,none⟩)] W fun e w'=>∃ n pc,e = .returned (.tuple #[.int .i64 n,.int .i64 pc])∧RK W b sc w'∧LC1 s sizes scope b sc v st E x n pc w':=by
 rcases h with ⟨st3,h1,h2⟩ | ⟨e,p,h1,h2⟩
 rotate_left
 ·exact (costR_still b e p _ W h1).mono fun e' w' hh=>⟨_,_,hh.1,RK.below hh.2.1,.inr ⟨e,p,hh.2.2,h2⟩⟩
 cases hq:numM s.data.toList 0 farZ st3 with
 | ok np st4 =>
  obtain⟨n0,p0⟩:=np;exact (costR_ok b sc s st3 st4 v n0 p0 W h2 hq).mono fun e w' hh=>⟨_,_,hh.1,hh.2.1,.inl ⟨st3,st4,n0,p0,h1,hq,rfl,rfl,hh.2.2⟩⟩
 | bad e p =>
  exact (costR_bad b sc s st3 v e p W h2 hq).mono fun e' w' hh=>⟨_,_,hh.1,hh.2.1,.inr ⟨e,p,hh.2.2,hE x st3 e p h1 hq⟩⟩
theorem noteL {b sc:Nat}{s:ByteArray}{sizes scope:List Nat}{v:RdV}{st:RdS}{E:RdR (List LineM)} {x:List Nat}{n pc:Int}{W:World}(h:LC1 s sizes scope b sc v st E x n pc W) :
  Calls Tryz.prog 166 #[.pointer (some ⟨b,1,none⟩),.int .i64 pc,.int .i64 4] W fun e w'=>(∃ u,e = .returned u)∧RK W b sc w'∧LN1 s sizes scope b sc v st E x w':=by
 rcases h with ⟨st3,st4,n0,p0,h1,h2,-,rfl,h5⟩ | ⟨e,p,h1,h2⟩
 ·refine (note_new b 1 (p0:Int) 4 W _ _ h5.at_ (Or.inr ⟨v.fp,rfl⟩) (h5.fine ▸ rfl)).mono ?_
  rintro e w' ⟨hu,q1,q2⟩;exact⟨hu,RK.grown1 q2,.inl ⟨st3,st4,n0,p0,h1,h2,h5.told (by decide) q1 q2⟩⟩
 refine (note_old b 1 pc 4 e W h1.fault (by have:=h1.ne;omega)).mono ?_;rintro e' w' ⟨hu,rfl⟩;exact⟨hu,RK.refl _ _ _,.inr ⟨e,p,h1,h2⟩⟩
theorem tupleL {b sc cs cc:Nat}{As Ac:Option Addr}{sizes scope:List Nat}{s:ByteArray}{st:RdS}{v:RdV}{E:RdR (List LineM)} {W:World}(hE:∀ e p,tupleM s.data.toList sizes scope [] st = .bad e p→E = .bad e p) (hnv:sizes.length≤100000) (hsm:∀ x∈sizes,x≤4611686018427387904) (hlen:scope.length≤100001) (hin:∀ x∈scope,x < sizes.length)
  (h:RdOk W b sc s st v) (hv:v.sizes = .slice As sizes.length cs) (hS:IntsK W b sc As sizes) (hC:IntsK W b sc Ac scope) :
  Calls Tryz.prog 214 #[.pointer (some ⟨b,0,none⟩),.slice Ac scope.length cc] W fun e w'=>∃ A c x,e = .returned (.slice A x.length c)∧x.length=scope.length∧(∀ z∈x,z≤4611686018427387904)∧IntsT w' b sc A x∧RK W b sc w'∧LT1 s sizes scope b sc v st E x w':=by
 refine (tupleR b sc cs cc As Ac sizes scope s st v W hnv hsm hlen hin h hv hS hC).mono ?_;rintro e w' ⟨A,c,x,rfl,h1,h2,h3,h4,h5⟩;rw [← h1] at h3 ⊢;refine⟨A,c,x,rfl,rfl,h2,IntsT.own h3 h.lt h.scan.lt,h4,?_⟩;cases hq:tupleM s.data.toList sizes scope [] st with
 | ok a st3 =>
  rw [hq] at h5;obtain⟨rfl,h6⟩:=h5;exact .inl ⟨st3,hq,h6⟩
 | bad e p =>
  rw [hq] at h5;exact .inr ⟨e,p,h5,hE e p hq⟩
theorem textL_len (l:List Nat) (h:∀ z∈l,z≤4611686018427387904):(textL l).length≤22 * l.length:=by
 have t:∀ r:List Nat,(∀ z∈r,z≤4611686018427387904)→(Lib.joinTail [32] (r.map fun n:Nat=>Lib.itoa (n:Int))).length≤22 * r.length:=by
  intro r;induction r with
  | nil=>intro _;simp [Lib.joinTail]
  | cons a q ih =>
   intro hr;have h1:=ih (fun z hz=>hr z (by simp [hz]));have h2:=itoa_len (a:Int) (by omega) (by have:=hr a (by simp);omega);simp [Lib.joinTail] at h1 ⊢
   omega
 cases l with
 | nil=>simp [textL,Lib.join]
 | cons a r =>
  have h1:=t r (fun z hz=>h z (by simp [hz]));have h2:=itoa_len (a:Int) (by omega) (by have:=h a (by simp);omega);simp only [textL,List.map_cons,Lib.join_cons,List.length_append,List.length_cons];omega
theorem textRK {b sc c:Nat}{A:Option Addr}{x:List Nat}{W:World}(hl:x.length≤100001) (hz:∀ z∈x,z≤4611686018427387904) (h:IntsK W b sc A x) (hT:TabK W b sc) :
  Calls Tryz.prog 215 #[.slice A x.length c] W fun e w'=>e = .returned (.string ⟨(textL x).toArray⟩)∧Below W.heap.size W w' :=
 textR c A x W hl hz (by have:=textL_len x hz;omega) h.ints hT.1
theorem LC1.below {b sc:Nat}{s:ByteArray}{sizes scope:List Nat}{v:RdV}{st:RdS}{E:RdR (List LineM)} {x:List Nat}{n pc:Int}{W W':World}(h:LC1 s sizes scope b sc v st E x n pc W) (hb:Below W.heap.size W W'):LC1 s sizes scope b sc v st E x n pc W':=by
 rcases h with ⟨st3,st4,n0,p0,h1,h2,h3,h4,h5⟩ | ⟨e,p,h1,h2⟩
 ·exact .inl ⟨st3,st4,n0,p0,h1,h2,h3,h4,h5.below hb⟩
 exact .inr ⟨e,p,h1.below hb,h2⟩
theorem RdOk.other {W W':World}{b sc mb:Nat}{s:ByteArray}{st:RdS}{v:RdV}(h:RdOk W b sc s st v) (hg:W.grownBy W' (some mb)) (h1:b≠mb) (h2:sc≠mb) (h3:3≠mb):RdOk W' b sc s st v:=by
 refine⟨h.at_.next hg (fun e=>h1 (Option.some.inj e)),h.vsc,(hg.block sc h.scan.lt (fun e=>h2 (Option.some.inj e))).trans h.scan,h.ne,h.le,h.fits,h.fine,h.big,?_,h.gb,h.gs⟩;exact h.glob.rk (RK.grown1 (q:=mb) hg) h3 h3
theorem RdBad.other {W W':World}{b mb e p:Nat}{v:RdV}(h:RdBad W b e p v) (hg:W.grownBy W' (some mb)) (h1:b≠mb) (h3:3≠mb):RdBad W' b e p v :=
 ⟨h.at_.next hg (fun e=>h1 (Option.some.inj e)),h.fe,h.fp,h.ne,h.glob.rk (RK.grown1 (q:=mb) hg) h3 h3,h.gb⟩
theorem LC1.other {b sc mb:Nat}{s:ByteArray}{sizes scope:List Nat}{v:RdV}{st:RdS}{E:RdR (List LineM)} {x:List Nat}{n pc:Int}{W W':World}(h:LC1 s sizes scope b sc v st E x n pc W) (hg:W.grownBy W' (some mb)) (h1:b≠mb) (h2:sc≠mb) (h3:3≠mb):LC1 s sizes scope b sc v st E x n pc W':=by
 rcases h with ⟨st3,st4,n0,p0,k1,k2,k3,k4,k5⟩ | ⟨e,p,k1,k2⟩
 ·exact .inl ⟨st3,st4,n0,p0,k1,k2,k3,k4,k5.other hg h1 h2 h3⟩
 exact .inr ⟨e,p,k1.other hg h1 h3,k2⟩
end Go.Proofs.YtmokogkndbinlaaGreatDoor
namespace Go.Proofs.YtmokogkndbinlaaGreatDoor
open Go.RowKit
theorem RdOk.quiet {W W':World}{b sc:Nat}{s:ByteArray}{st:RdS}{v:RdV}(h:RdOk W b sc s st v) (hg:W.grownBy W' none):RdOk W' b sc s st v:=by
 have hb:Below W.heap.size W W':=⟨hg.os,hg.tape,hg.output,hg.size,fun k hk=>hg.block k hk (by simp)⟩
 exact h.below hb
theorem past_end {l:List UInt8} {k:Nat}(hk:k≤l.length):stepW l k = .none↔pastP isB l k=l.length:=by
 constructor
 ·intro h;exact (stepW_none hk h).1
 intro h;cases hq:stepW l k with
 | none=>rfl
 | word f t =>
  have:=stepW_word hk hq;omega
 | bad b =>
  have:=stepW_bad hk hq;have h2:=pastP_le isW l (k:=l.length) (Nat.le_refl _);obtain⟨h3,h4,_⟩:=this;rw [h] at h3;have h5:=pastP_ge isW l (k:=l.length);omega
theorem RdOk.fault0 {W:World}{b sc:Nat}{s:ByteArray}{st:RdS}{v:RdV}(h:RdOk W b sc s st v):W.cell? ⟨b,1+1,none⟩=some (.int .i64 0):=h.fine ▸ h.at_.cell (i:=2) rfl
theorem past_no {s:ByteArray}{k:Nat}(hk:k≤s.size) (hr:stepW s.data.toList k = .none):decide (pastP isB s.data.toList k < s.size)=false:=by
 have h:=(past_end (l:=s.data.toList) (k:=k) (by rw [size_list];exact hk)).1 hr;rw [size_list] at h;exact decide_eq_false (by omega)
theorem past_yes {s:ByteArray}{k:Nat}(hk:k≤s.size) (hr:stepW s.data.toList k≠.none):decide (pastP isB s.data.toList k < s.size)=true:=by
 have h:¬ pastP isB s.data.toList k=s.data.toList.length:=fun h=>hr ((past_end (by rw [size_list];exact hk)).2 h);have h2:=pastP_le isB s.data.toList (k:=k) (by rw [size_list];exact hk);rw [size_list] at h h2;exact decide_eq_true (by omega)
theorem endR_none (b sc:Nat) (s:ByteArray) (st:RdS) (v:RdV) (w:World) (h:RdOk w b sc s st v) (hr:stepW s.data.toList st.k = .none) :
  Calls Tryz.prog 136 #[.pointer (some ⟨b,0,none⟩)] w fun e w'=>(∃ u,e = .returned u)∧RK w b sc w'∧RdOk w' b sc s st v:=by
 have RT:=hid (right_at b 1 0 w h.fault0);have MO:=hid (more_any sc s st.k w (Nat.le_trans h.fits (by decide)) h.le h.scan);have c0:w.cell? ⟨b,0,none⟩=some (.pointer (some ⟨sc,0,none⟩)):=h.vsc ▸ h.at_.cell (i:=0) rfl;rw [past_no h.le hr] at MO;have HH:=hid h;clear h hr;go_enter Tryz.func136,Tryz.ntmps136
 go_wp2_with (first | (go_at_call 75;refine RT.out.mono ?_;rintro e w' ⟨rfl,rfl⟩) | (go_at_call 172;refine MO.out.mono ?_;rintro e w1 ⟨rfl,hg⟩;replace hg:=hid hg) | fail)
 go_end0
 have hB:Below w.heap.size w w1:=⟨hg.out.os,hg.out.tape,hg.out.output,hg.out.size,fun k hk=>hg.out.block k hk (by simp)⟩
 exact⟨⟨_,rfl⟩,RK.below hB,HH.out.below hB⟩
theorem endR_word (b sc:Nat) (s:ByteArray) (st:RdS) (v:RdV) (f t:Nat) (w:World) (h:RdOk w b sc s st v) (hr:stepW s.data.toList st.k = .word f t) :
  Calls Tryz.prog 136 #[.pointer (some ⟨b,0,none⟩)] w fun e w'=>(∃ u,e = .returned u)∧RK w b sc w'∧RdBad w' b 4 f { v with fp:=(f:Int),fe:=4 }:=by
 have RT:=hid (right_at b 1 0 w h.fault0);have MO:=hid (more_any sc s st.k w (Nat.le_trans h.fits (by decide)) h.le h.scan);have c0:w.cell? ⟨b,0,none⟩=some (.pointer (some ⟨sc,0,none⟩)):=h.vsc ▸ h.at_.cell (i:=0) rfl;rw [past_yes h.le (by rw [hr];intro hc;cases hc)] at MO;have WD:=hid (fun W (hg:w.grownBy W none)=>wordR_ok b sc s st v f t W (h.quiet hg) hr);have NT:=hid (fun W (ho:RdOk W b sc s ⟨t,st.big⟩ v)=>note_new b 1 (f:Int) 4 W _ _ ho.at_ (Or.inr ⟨v.fp,rfl⟩) (ho.fine ▸ rfl));have HH:=hid h;clear h hr;go_enter Tryz.func136,Tryz.ntmps136
 go_wp2_with (first | (go_at_call 75;refine RT.out.mono ?_;rintro e w' ⟨rfl,rfl⟩) | (go_at_call 172;refine MO.out.mono ?_;rintro e w1 ⟨rfl,hg⟩;replace hg:=hid hg) | (go_at_call 131;refine (WD.out _ hg.out).mono ?_;rintro e w2 ⟨rfl,hk,ho⟩;replace hk:=hid hk;replace ho:=hid ho) | (go_at_call 166;refine (NT.out _ ho.out).mono ?_;rintro e w3 ⟨⟨_,rfl⟩,z1,z2⟩) | fail)
 go_end0
 have hB:Below w.heap.size w w1:=⟨hg.out.os,hg.out.tape,hg.out.output,hg.out.size,fun k hk=>hg.out.block k hk (by simp)⟩
 exact⟨⟨_,rfl⟩,((RK.below hB).trans hk.out).trans (RK.grown1 z2),ho.out.told (by decide) z1 z2⟩
theorem endR_bad (b sc:Nat) (s:ByteArray) (st:RdS) (v:RdV) (t:Nat) (w:World) (h:RdOk w b sc s st v) (hr:stepW s.data.toList st.k = .bad t) :
  Calls Tryz.prog 136 #[.pointer (some ⟨b,0,none⟩)] w fun e w'=>(∃ u,e = .returned u)∧RK w b sc w'∧RdBad w' b 11 t { v with fp:=(t:Int),fe:=11 }:=by
 have RT:=hid (right_at b 1 0 w h.fault0);have MO:=hid (more_any sc s st.k w (Nat.le_trans h.fits (by decide)) h.le h.scan);have c0:w.cell? ⟨b,0,none⟩=some (.pointer (some ⟨sc,0,none⟩)):=h.vsc ▸ h.at_.cell (i:=0) rfl;rw [past_yes h.le (by rw [hr];intro hc;cases hc)] at MO;have WD:=hid (fun W (hg:w.grownBy W none)=>wordR_bad b sc s st v t W (h.quiet hg) hr);have NT:=hid (fun W (ho:RdBad W b 11 t { v with fp:=(t:Int),fe:=11 })=>note_old b 1 (t:Int) 4 11 W (ho.at_.cell (i:=2) rfl) (by decide));have HH:=hid h;clear h hr;go_enter Tryz.func136,Tryz.ntmps136
 go_wp2_with (first | (go_at_call 75;refine RT.out.mono ?_;rintro e w' ⟨rfl,rfl⟩) | (go_at_call 172;refine MO.out.mono ?_;rintro e w1 ⟨rfl,hg⟩;replace hg:=hid hg) | (go_at_call 131;refine (WD.out _ hg.out).mono ?_;rintro e w2 ⟨rfl,hk,ho⟩;replace hk:=hid hk;replace ho:=hid ho) | (go_at_call 166;refine (NT.out _ ho.out).mono ?_;rintro e w3 ⟨⟨_,rfl⟩,rfl⟩) | fail)
 go_end0
 have hB:Below w.heap.size w w1:=⟨hg.out.os,hg.out.tape,hg.out.output,hg.out.size,fun k hk=>hg.out.block k hk (by simp)⟩
 exact⟨⟨_,rfl⟩,(RK.below hB).trans hk.out,ho.out⟩
theorem endR_still (b e p:Nat) (v:RdV) (w:World) (h:RdBad w b e p v) :
  Calls Tryz.prog 136 #[.pointer (some ⟨b,0,none⟩)] w fun e' w'=>(∃ u,e' = .returned u)∧w=w':=by
 have RT:=hid (right_at b 1 (e:Int) w (h.fe ▸ h.at_.cell (i:=2) rfl));have d:((e:Int) == 0)=false:=by have:=h.ne;simpa using this
 rw [d] at RT;clear h d;go_enter Tryz.func136,Tryz.ntmps136
 go_wp2_with (first | (go_at_call 75;refine RT.out.mono ?_;rintro e w' ⟨rfl,rfl⟩) | fail)
 go_end0
 exact⟨⟨_,rfl⟩,rfl⟩
def LnGo (s:ByteArray) (sizes scope:List Nat) (M b sc:Nat) (v:RdV) (st:RdS) (E:RdR (List LineM)) (wr:World) (j:Nat) (ls:List LineM) (f:List UInt8→Int) (q:Nat):Prop :=
 (∃ acc st',ls=topL v.top acc∧f=seenF acc∧(∀ y∈acc,y.1.length=scope.length∧∀ z∈y.1,z≤4611686018427387904)∧RdOk wr b sc s st' v∧acc.length≤st'.k∧q=acc.length∧E=linesM s.data.toList sizes scope (M - j) acc st') ∨
  ∃ e p,RdBad wr b e p { v with fp:=(p:Int),fe:=(e:Int) }∧E = .bad e p
def LnEnd (s:ByteArray) (k:Int) (b sc:Nat) (v:RdV) (W:World) (ls:List LineM) (r:RdR (List LineM)):Prop :=
 match r with
 | .ok a st'=>ls=topL k a∧RdOk W b sc s st' v
 | .bad e p=>RdBad W b e p { v with fp:=(p:Int),fe:=(e:Int) }
theorem keyS (x:List UInt8) (h:x.length≤100000000):keyOf Tryz.prog 9 (.string ⟨x.toArray⟩)=some (.string x):=by
 simp [keyOf,mapKey,Tryz.underlying9]
 show x.toArray.size≤maxLen;simp [maxLen]
 omega
theorem OwnLn.keepB {w w':World}{base:Nat}{v:Value}{l:List (Value × Int)} (h:OwnLn w base v l) (hk:∀ g,v.ownBlock=some g→w'.heap[g]? = w.heap[g]?):OwnLn w' base v l:=by
 obtain⟨h1,⟨rfl,hn⟩ | ⟨g,cap,cur,rfl,hb',hh,hm,hx,hs,ht⟩⟩:=h
 ·exact⟨h1,.inl ⟨rfl,hn⟩⟩
 exact⟨h1,.inr ⟨g,cap,cur,rfl,hb',(hk g rfl).trans hh,hm,hx,hs,ht⟩⟩
theorem Seen.obj {w:World}{mb q:Nat}{D:DataW Unit}{f:List UInt8→Int}(h:Seen w mb q D f):∃ es c,w.heap[mb]? = some (.map es c):=by
 obtain⟨⟨es,clock,h1,_⟩,_⟩:=h;exact⟨es,clock,h1⟩
theorem own_ne_map {w:World}{base mb:Nat}{v:Value}{l:List (Value × Int)} (h:OwnLn w base v l) (hm:∃ es c,w.heap[mb]? = some (.map es c)):v.ownBlock≠some mb:=by
 intro e;obtain⟨_,cur,h1⟩:=h.obj mb e;obtain⟨es,c,h2⟩:=hm;rw [h1] at h2;cases h2
theorem OwnLn.map {w w':World}{base mb:Nat}{v:Value}{l:List (Value × Int)} (h:OwnLn w base v l) (hm:∃ es c,w.heap[mb]? = some (.map es c)) (hg:w.grownBy w' (some mb)):OwnLn w' base v l :=
 h.keepB fun g hv=>by
  obtain⟨_,cur,h1⟩:=h.obj g hv;refine hg.block g (Array.getElem?_eq_some_iff.1 h1).1 (fun e=>?_);injection e with e;subst e;exact own_ne_map h hm hv
theorem LC1.belowB {b sc B:Nat}{s:ByteArray}{sizes scope:List Nat}{v:RdV}{st:RdS}{E:RdR (List LineM)} {x:List Nat}{n pc:Int}{W W':World}(h:LC1 s sizes scope b sc v st E x n pc W) (hb:Below B W W') (h1:b < B) (h2:sc < B) (h3:3 < B):LC1 s sizes scope b sc v st E x n pc W':=by
 rcases h with ⟨st3,st4,n0,p0,k1,k2,k3,k4,k5⟩ | ⟨e,p,k1,k2⟩
 ·exact .inl ⟨st3,st4,n0,p0,k1,k2,k3,k4,k5.belowB hb h1 h2 h3⟩
 exact .inr ⟨e,p,k1.belowB hb h1 h3,k2⟩
theorem seenF_01 (acc:List LineM) (x:List UInt8):seenF acc x=0∨seenF acc x=1:=by
 unfold seenF;split <;> simp
theorem LN1.belowB {b sc B:Nat}{s:ByteArray}{sizes scope:List Nat}{v:RdV}{st:RdS}{E:RdR (List LineM)} {x:List Nat}{W W':World}(h:LN1 s sizes scope b sc v st E x W) (hb:Below B W W') (h1:b < B) (h3:3 < B):LN1 s sizes scope b sc v st E x W':=by
 rcases h with ⟨st3,st4,n0,p0,k1,k2,k5⟩ | ⟨e,p,k1,k2⟩
 ·exact .inl ⟨st3,st4,n0,p0,k1,k2,k5.belowB hb h1 h3⟩
 exact .inr ⟨e,p,k1.belowB hb h1 h3,k2⟩
set_option maxRecDepth 100000 in
set_option maxHeartbeats 4000000 in
theorem linesR_own (b sc cs cc M p:Nat) (As Ac:Option Addr) (sizes scope:List Nat) (s:ByteArray) (st st1:RdS) (v:RdV) (w:World) (hnv:sizes.length≤100000) (hsm:∀ x∈sizes,x≤4611686018427387904) (hlen:scope.length≤100001) (hin:∀ x∈scope,x < sizes.length)
  (h:RdOk w b sc s st v) (hv:v.sizes = .slice As sizes.length cs) (hS:IntsK w b sc As sizes) (hC:IntsK w b sc Ac scope) (hT:TabK w b sc) (ht0:0≤v.told) (ht1:v.told≤100000) (hM:M≤4611686018427387904)
  (hq:numM s.data.toList (-4611686018427387904) 4611686018427387904 st = .ok ((M:Int),p) st1) :
  Calls Tryz.prog 171 #[.pointer (some ⟨b,0,none⟩),.slice Ac scope.length cc] w fun e w'=>∃ A c ls,e = .returned (.slice A ls.length c)∧LinesK w' b sc A ls∧RK w b sc w' ∧
   ∃ v',v'=limV (decide (16384 < v.told+M)) p { v with told:=v.told+M }∧LnEnd s v.top b sc v' w' ls (linesM s.data.toList sizes scope M [] (limS (decide (16384 < v.told+M)) p st1)):=by
 have hmm:=@run_makeMap Tryz.prog;have HN:=hid (numR_ok b sc s st st1 v _ _ (M:Int) p w h hq);have HB:=hid (And.intro h.lt h.scan.lt);have HG:=hid h.glob.blk;have LM:=hid (fun W (ha:RdAt W b { v with told:=v.told+M })=>limit_any b (v.told+M) 16384 p _ W ha);have d0:decide ((M:Int) < 0)=false:=decide_eq_false (by omega);have HS:=hid hS;have HC:=hid hC;have HT:=hid hT;have HV:=hid hv;have HSM:=hid (And.intro hsm hin);have HL:=hid (And.intro hlen hnv);clear h hv hS hC hT hsm hin hlen hnv hq;generalize hX:v.told+(M:Int)=X at LM ⊢;have HX:=hid hX;have V2:Hid ((limV (decide (16384 < X)) (p:Int) { v with told:=X }).sizes=v.sizes∧(limV (decide (16384 < X)) (p:Int) { v with told:=X }).top=v.top):=by
  refine hid ⟨?_,?_⟩ <;> (unfold limV;split <;> rfl)
 generalize hv2:limV (decide (16384 < X)) (p:Int) { v with told:=X } = v2 at LM V2 ⊢;generalize hst2:limS (decide (16384 < X)) p st1=st2;generalize hE:linesM s.data.toList sizes scope M [] st2=E;have V2E:=hid hv2;have ST2E:=hid hst2;have HE:=hid hE;clear hv2 hst2 hE;have hX1:0≤X:=by omega
 have hX2:X≤4611686018427487904:=by omega
 go_enter Tryz.func171,Tryz.ntmps171
 go_wp2_with (first | (go_at_call 134;refine HN.out.mono ?_;rintro e w1 ⟨rfl,hk,ho⟩;have c10:w1.cell? ⟨b,10,none⟩=some (.int .i64 v.told):=ho.at_.cell (i:=10) rfl;have hfz:=ho.at_.frozen 10;have TP:=hid (ho.told_put X);replace hk:=hid hk;clear ho) | (go_at_call 133;refine (LM.out _ TP.out.1.at_).mono ?_;rintro e w2 ⟨⟨_,rfl⟩,ha,hg2⟩;replace ha:=hid ha;replace hg2:=hid hg2) | fail)
 have O2:Hid (RdOk w2 b sc s st2 v2):=hid (by
  have:=TP.out.1.lim (is:=decide (16384 < X)) (p:=p) (by rw [V2E.out];exact ha.out) hg2.out;rwa [V2E.out,ST2E.out] at this)
 have K2:=hid ((hk.out.trans (RK.grown1 TP.out.2)).trans (RK.grown1 (q:=sc) hg2.out));clear ha hg2 hfz c10;clear hk TP LM HN hX HX V2E ST2E;have B3:=hid (new_val w2 (.map #[] 0));have S3:=hid (seen_made w2);have MB:=hid (show w.heap.size≤w2.heap.size from K2.out.size);generalize hmb:w2.heap.size=mb at S3 MB ⊢;have HMB:=hid hmb;have G0:=hid (show LnGo s sizes scope M b sc v2 st2 E (w2.alloc (.map #[] 0)) 0 [] (fun _=>0) 0 from .inl ⟨[],st2,rfl,rfl,fun y hy=>absurd hy (by simp),O2.out.below B3.out,Nat.zero_le _,rfl,HE.out.symm⟩);clear hmb;go_loopw [7,9,10,11,12,13] (fun val i _ _ _ _ wr=>∃ (j:Nat) (ls:List LineM) (vs:List (Value × Int)) (D:DataW Unit) (q:Nat) (f:List UInt8→Int),i = .int .i64 (j:Int)∧j≤M∧Seen wr mb q D f∧OwnLn wr w.heap.size val vs∧RK w b sc wr∧LnIs wr b sc vs ls∧LnGo s sizes scope M b sc v2 st2 E wr j ls f q) (fun _ i _ _ _ _ _=>M - (intOf i).toNat)
 case atStart=>exact⟨0,[],[],_,_,_,rfl,Nat.zero_le _,S3.out,ownLn_nil _ _,K2.out.trans (RK.below B3.out),lnIs_nil _ _ _,G0.out⟩
 case round =>
  obtain⟨j,ls,vs,D,q,f,rfl,hj,hSn,hO,hK,hI,hG⟩:=hrel;have SN:=hid hSn;have HO:=hid hO;have HK:=hid hK;have HI:=hid hI;have hm1:mb≠b:=by have:=MB.out;have:=HB.out.1;omega
  have hm2:mb≠sc:=by have:=MB.out;have:=HB.out.2;omega
  have hm3:3≠mb:=by have:=MB.out;have:=HG.out;omega
  have HMM:=hid (And.intro hm1 (And.intro hm2 hm3));clear hSn hO hK hI hm1 hm2 hm3;by_cases hlt:j < M
  ·have d1:decide ((j:Int) < (M:Int))=true:=decide_eq_true (by omega)
   rcases hG with ⟨acc,st',hls,hf,hacc,hR,hal,hqq,hE2⟩ | ⟨e,p',hR,hE2⟩
   ·obtain⟨m,hm⟩:∃ m,M - j=m+1:=⟨M - j - 1,by omega⟩
    rw [hm,linesM_step] at hE2;have R0:=hid (right_at b 1 0 wr hR.fault);have TL:=hid (tupleL (E:=E) (cs:=cs) (cc:=cc) (As:=As) (Ac:=Ac) (fun e p hq=>by rw [hE2,hq];rfl) HL.out.2 HSM.out.1 HL.out.1 HSM.out.2 hR (V2.out.1.trans HV.out) (HS.out.rk HK.out) (HC.out.rk HK.out));have CL:=hid (fun x W (hh:LT1 s sizes scope b sc v2 st' E x W)=>costL (fun x st3 e p h1 h2=>by rw [hE2,h1,RdR.bind_ok,h2];rfl) hh);have TX:=hid (fun x A c W (hl:x.length=scope.length) (hz:∀ z∈x,z≤4611686018427387904) (hh:IntsK W b sc A x) (hT:TabK W b sc)=>textRK (c:=c) (by have:=HL.out.1;omega) hz hh hT);have NT:=hid (fun x n pc W (hh:LC1 s sizes scope b sc v2 st' E x n pc W)=>noteL hh);have HR:=hid hR;have HE2:=hid hE2;have HF:=hid hf;have HLS:=hid hls;have HAC:=hid hacc;have HAL:=hid hal;have HQQ:=hid hqq;have HMJ:=hid hm;have TB:=hid (HT.out.rk HK.out);have HQ:=hid (show q < maxLen by have:=hR.le;have:=hR.fits;unfold maxLen;omega);clear hls hf hacc hR hal hqq hE2 hm;go_upto_region 14 with (first
     | (go_at_call 75;refine R0.out.mono ?_;rintro e w' ⟨rfl,rfl⟩)
     | (go_at_call 214;refine TL.out.mono ?_;rintro e w4 ⟨A1,c1,x,rfl,hx1,hx2,hx3,hk4,hl4⟩;replace hx1:=hid hx1;replace hx2:=hid hx2;replace hx3:=hid hx3;replace hk4:=hid hk4;replace hl4:=hid hl4)
     | (go_at_call 170;refine (CL.out _ _ hl4.out).mono ?_;rintro e w5 ⟨n,pc,rfl,hk5,hl5⟩;replace hk5:=hid hk5;replace hl5:=hid hl5)
     | (go_at_call 215;refine (TX.out _ _ _ _ hx1.out hx2.out (hx3.out.k.rk hk5.out) ((TB.out.rk hk4.out).rk hk5.out)).mono ?_;rintro e w6 ⟨rfl,hb6⟩;replace hb6:=hid hb6)
     | fail)
    have hk6:=hid ((hk4.out.trans hk5.out).trans (RK.below hb6.out));have S6:=hid (SN.out.block (hk6.out.block mb SN.out.own.lt HMM.out.1 HMM.out.2.1));have KEY:=hid (keyS (textL x) (by have:=textL_len x hx2.out;have:=hx1.out;have:=HL.out.1;omega));have OL6:=hid (HO.out.rk hk6.out HB.out.1 HB.out.2);have VL:=hid (show vs.length≤1000000 by have h1:=HI.out.1;have h2:=HAL.out;have h3:=HR.out.le;have h4:=HR.out.fits;rw [HLS.out] at h1;simp [topL] at h1;omega);rcases seenF_01 acc (textL x) with h0 | h0
    ·have H01:=hid h0
     clear h0;go_upto_region 17 with (first
      | (at_lookup;refine wpList_lookup_own_int _ rfl _ _ 289 rfl 9 3 .i64 lawS Tryz.underlying289 Tryz.underlying3 (zeroI _) mb q D rfl S6.out.own _ _ rfl KEY.out ?_;intro c hat hwc;rw [S6.out.at_,HF.out,H01.out] at hat;injection hat with hat;injection hat with _ hat;subst hat;clear hwc)
      | (at_mapUpdate;refine wpList_mapUpdate_own _ rfl _ _ _ 289 rfl 9 3 lawS Tryz.underlying289 _ mb q D rfl S6.out.own HQ.out _ _ _ rfl rfl KEY.out _ [] (plainElem_int Tryz.underlying3 (by decide)) ?_;intro w7 hown7 hg7;have S7:=hid (S6.out.put (textL x) 1 hown7);replace hg7:=hid hg7;clear hown7)
      | (at_lookup;refine wpList_lookup_own_int _ rfl _ _ 289 rfl 9 3 .i64 lawS Tryz.underlying289 Tryz.underlying3 (zeroI _) mb (q+1) _ rfl S7.out.own _ _ rfl KEY.out ?_;intro c hat hwc;rw [S7.out.at_,if_pos rfl] at hat;injection hat with hat;injection hat with _ hat;subst hat;clear hwc)
      | fail)
     have OL7:=hid (OL6.out.map S6.out.obj hg7.out);have K7:=hid (((HK.out.trans hk6.out).thenB (show Below w.heap.size w6 w7 from ⟨hg7.out.os,hg7.out.tape,hg7.out.output,hg7.out.size,fun k hk=>hg7.out.block k (Nat.lt_of_lt_of_le hk (Nat.le_trans HK.out.size hk6.out.size)) (fun e=>by have:=MB.out;injection e with e;omega)⟩)));have HK6:=hid hk6.out;have HG7:=hid hg7.out;clear hk6 hg7;go_wp2_with (first | (at_builtin;refine push_line rfl (.tmp 77) (.tmp 81) rfl w7 w.heap.size u7 vs A1 x.length c1 n rfl rfl OL7.out K7.out.size VL.out ?_;intro v' w8 h1 h2 h3;replace h1:=hid h1;replace h2:=hid h2;replace h3:=hid h3) | fail)
     have I7:=((HI.out.keep (keep_rk HK6.out)).keep (keep_map S6.out.obj HG7.out)).snoc (ct:=c1) (x:=(x,n)) ((hx3.out.keep (keep_rk (hk5.out.trans (RK.below hb6.out)))).keep (keep_map S6.out.obj HG7.out));have S8:=S7.out.block (h3.out mb S7.out.own.lt (own_ne_map OL7.out S7.out.obj));have L8:=((hl5.out.below hb6.out).other HG7.out (fun e=>HMM.out.1 e.symm) (fun e=>HMM.out.2.1 e.symm) HMM.out.2.2).belowB h2.out HB.out.1 HB.out.2 HG.out;refine⟨⟨j+1,ls++[(x,n)],vs++[(.slice A1 x.length c1,n)],_,q+1,_,by simp,by omega,S8,h1.out,K7.out.thenB h2.out,I7.keep (keep_line OL7.out h3.out),?_⟩,by simp [intOf];omega⟩;rcases L8 with ⟨st3,st4,n0,p0,e1,e2,e3,e4,e5⟩ | ⟨e,p',e1,e2⟩
     rotate_left
     ·exact .inr ⟨e,p',e1,e2⟩
     have hany:acc.any (fun y=>y.1 == x)=false:=by
      have:=seenF_at (n:=scope.length) HAC.out hx1.out hx2.out;rw [H01.out] at this;cases ha:acc.any (fun y=>y.1 == x) with
      | false=>rfl
      | true=>rw [ha] at this;simp at this
     obtain⟨t1,t2⟩:=tupleM_le (by rw [size_list];exact HR.out.le) e1;obtain⟨t,k1,k2,-,-,-,-⟩:=numM_ok.1 e2;have hw:=stepW_word t2 k1;have hk4':st4.k=t:=by rw [k2]
     refine .inl ⟨acc++[(x,n0)],st4,?_,?_,?_,e5,?_,?_,?_⟩
     ·rw [HLS.out,e3];simp [topL]
     ·rw [seenF_snoc,HF.out]
     ·intro y hy
      rcases List.mem_append.1 hy with hy | hy
      ·exact HAC.out y hy
      simp at hy;subst hy;exact⟨hx1.out,hx2.out⟩
     ·have:=HAL.out;simp;omega
     ·rw [HQQ.out];simp
     have:=HE2.out;rw [e1,RdR.bind_ok,e2,RdR.bind_ok,hany] at this;rw [this,show M - (j+1)=m by have:=HMJ.out;omega];rfl
    have H01:=hid h0;clear h0;go_upto_region 17 with (first
     | (at_lookup;refine wpList_lookup_own_int _ rfl _ _ 289 rfl 9 3 .i64 lawS Tryz.underlying289 Tryz.underlying3 (zeroI _) mb q D rfl S6.out.own _ _ rfl KEY.out ?_;intro c hat hwc;rw [S6.out.at_,HF.out,H01.out] at hat;injection hat with hat;injection hat with _ hat;subst hat;clear hwc)
     | (at_mapUpdate;refine wpList_mapUpdate_own _ rfl _ _ _ 289 rfl 9 3 lawS Tryz.underlying289 _ mb q D rfl S6.out.own HQ.out _ _ _ rfl rfl KEY.out _ [] (plainElem_int Tryz.underlying3 (by decide)) ?_;intro w7 hown7 hg7;have S7:=hid (S6.out.put (textL x) 2 hown7);replace hg7:=hid hg7;clear hown7)
     | (at_lookup;refine wpList_lookup_own_int _ rfl _ _ 289 rfl 9 3 .i64 lawS Tryz.underlying289 Tryz.underlying3 (zeroI _) mb (q+1) _ rfl S7.out.own _ _ rfl KEY.out ?_;intro c hat hwc;rw [S7.out.at_,if_pos rfl] at hat;injection hat with hat;injection hat with _ hat;subst hat;clear hwc)
     | (go_at_call 166;refine (NT.out _ _ _ _ ((hl5.out.below hb6.out).other hg7.out (fun e=>HMM.out.1 e.symm) (fun e=>HMM.out.2.1 e.symm) HMM.out.2.2)).mono ?_;rintro e w9 ⟨⟨_,rfl⟩,hk9,hl9⟩;replace hk9:=hid hk9;replace hl9:=hid hl9)
     | fail)
    have OL7:=hid (OL6.out.map S6.out.obj hg7.out);have K7:=hid (((HK.out.trans hk6.out).thenB (show Below w.heap.size w6 w7 from ⟨hg7.out.os,hg7.out.tape,hg7.out.output,hg7.out.size,fun k hk=>hg7.out.block k (Nat.lt_of_lt_of_le hk (Nat.le_trans HK.out.size hk6.out.size)) (fun e=>by have:=MB.out;injection e with e;omega)⟩)));have HK6:=hid hk6.out;have HG7:=hid hg7.out;have OL9:=hid (OL7.out.rk hk9.out HB.out.1 HB.out.2);have K9:=hid (K7.out.trans hk9.out);clear hk6 hg7;go_wp2_with (first | (at_builtin;refine push_line rfl (.tmp 77) (.tmp 81) rfl w9 w.heap.size u7 vs A1 x.length c1 n rfl rfl OL9.out K9.out.size VL.out ?_;intro v' w8 h1 h2 h3;replace h1:=hid h1;replace h2:=hid h2;replace h3:=hid h3) | fail)
    have I7:=(((HI.out.keep (keep_rk HK6.out)).keep (keep_map S6.out.obj HG7.out)).keep (keep_rk hk9.out)).snoc (ct:=c1) (x:=(x,n)) (((hx3.out.keep (keep_rk (hk5.out.trans (RK.below hb6.out)))).keep (keep_map S6.out.obj HG7.out)).keep (keep_rk hk9.out));have S9:=S7.out.block (hk9.out.block mb S7.out.own.lt HMM.out.1 HMM.out.2.1);have S8:=S9.block (h3.out mb S9.own.lt (own_ne_map OL9.out S9.obj));have L8:=hl9.out.belowB h2.out HB.out.1 HG.out;refine⟨⟨j+1,ls++[(x,n)],vs++[(.slice A1 x.length c1,n)],_,q+1,_,by simp,by omega,S8,h1.out,K9.out.thenB h2.out,I7.keep (keep_line OL9.out h3.out),?_⟩,by simp [intOf];omega⟩;rcases L8 with ⟨st3,st4,n0,p0,e1,e2,e5⟩ | ⟨e,p',e1,e2⟩
    rotate_left
    ·exact .inr ⟨e,p',e1,e2⟩
    have hany:acc.any (fun y=>y.1 == x)=true:=by
     have:=seenF_at (n:=scope.length) HAC.out hx1.out hx2.out;rw [H01.out] at this;cases ha:acc.any (fun y=>y.1 == x) with
     | true=>rfl
     | false=>rw [ha] at this;simp at this
    refine .inr ⟨4,p0,e5,?_⟩;have:=HE2.out;rw [e1,RdR.bind_ok,e2,RdR.bind_ok,hany] at this;exact this
   have R0:=hid (right_at b 1 e wr hR.fault);have d2:((e:Int) == 0)=false:=by have:=hR.ne;simpa using this
   rw [d2] at R0;have HR:=hid hR;have HE2:=hid hE2;clear hR hE2 d2;go_wp2_with (first | (go_at_call 75;refine R0.out.mono ?_;rintro e w' ⟨rfl,rfl⟩) | fail)
   go_ret;obtain⟨A,c,rfl,hLK⟩:=HO.out.lines HI.out HB.out.1 HB.out.2;refine⟨A,c,ls,rfl,hLK,HK.out,v2,rfl,?_⟩;rw [HE2.out];exact HR.out
  have d1:decide ((j:Int) < (M:Int))=false:=decide_eq_false (by omega);have HGG:=hid hG;have HJ:=hid (show M - j=0 by omega);clear hG;go_wp2_with fail
  go_ret;obtain⟨A,c,rfl,hLK⟩:=HO.out.lines HI.out HB.out.1 HB.out.2;refine⟨A,c,ls,rfl,hLK,HK.out,v2,rfl,?_⟩;rcases HGG.out with ⟨acc,st',hls,hf,hacc,hR,hal,hqq,hE2⟩ | ⟨e,p',hR,hE2⟩
  ·rw [hE2,HJ.out]
   exact⟨by rw [hls,V2.out.2],hR⟩
  rw [hE2];exact hR
end Go.Proofs.YtmokogkndbinlaaGreatDoor
namespace Go.Proofs.YtmokogkndbinlaaGreatDoor
open Go.RowKit
def topF (k:Int) (f:FunM):FunM:=⟨f.scope,min f.other k,topL k f.lines⟩
structure RdSame (v v':RdV):Prop where
 sc:v'.sc=v.sc
 name:v'.name=v.name
 top:v'.top=v.top
 sizes:v'.sizes=v.sizes
 funs:v'.funs=v.funs
 shared:v'.shared=v.shared
theorem RdSame.refl (v:RdV):RdSame v v:=⟨rfl,rfl,rfl,rfl,rfl,rfl⟩
theorem RdSame.trans {v v' v'':RdV}(h:RdSame v v') (k:RdSame v' v''):RdSame v v'' :=
 ⟨k.sc.trans h.sc,k.name.trans h.name,k.top.trans h.top,k.sizes.trans h.sizes,k.funs.trans h.funs,k.shared.trans h.shared⟩
theorem RdSame.lim (v:RdV) (is:Bool) (p:Int):RdSame v (limV is p v):=by
 unfold limV;split
 ·exact⟨rfl,rfl,rfl,rfl,rfl,rfl⟩
 exact RdSame.refl v
theorem RdSame.lim_told (v:RdV) (is:Bool) (p t:Int):RdSame v (limV is p { v with told:=t }) :=
 RdSame.trans (v':={ v with told:=t }) ⟨rfl,rfl,rfl,rfl,rfl,rfl⟩ (RdSame.lim _ _ _)
theorem limV_told (v:RdV) (is:Bool) (p:Int):(limV is p v).told=v.told:=by unfold limV;split <;> rfl
theorem RdBad.told_put {W:World}{b e p:Nat}{v:RdV}(h:RdBad W b e p v) (x:Int):RdBad (W.setCell ⟨b,10,none⟩ (.int .i64 x)) b e p { v with told:=x }∧W.grownBy (W.setCell ⟨b,10,none⟩ (.int .i64 x)) (some b):=by
 have hg:=grown_put W b 10 (.int .i64 x);have ha:=heap_setCell_same W b 10 _ _ (.int .i64 x) h.at_;exact⟨⟨ha,h.fe,h.fp,h.ne,h.glob.rk (RK.grown1 (q:=b) hg) h.gb h.gb,h.gb⟩,hg⟩
set_option maxRecDepth 100000 in
set_option maxHeartbeats 4000000 in
theorem linesR_bad (b sc e p:Nat) (v1:RdV) (w:World) (Ac:Option Addr) (n cc:Nat)
  (NR:Calls Tryz.prog 134 #[.pointer (some ⟨b,0,none⟩),.int .i64 (-4611686018427387904),.int .i64 4611686018427387904] w fun e' w'=>e' = .returned (.tuple #[.int .i64 0,.int .i64 (p:Int)])∧RK w b sc w'∧RdBad w' b e p v1)
  (h0:0≤v1.told) (h1:v1.told≤4611686018427487904) :
  Calls Tryz.prog 171 #[.pointer (some ⟨b,0,none⟩),.slice Ac n cc] w fun e' w'=>e' = .returned (.slice none 0 0)∧RK w b sc w'∧∃ v',RdSame v1 v'∧v'.told=v1.told∧RdBad w' b e p v':=by
 have hmm:=@run_makeMap Tryz.prog;have HN:=hid NR;generalize hX:v1.told=X at h0 h1 ⊢;have HX:=hid hX;clear hX NR;have LM:=hid (fun W (ha:RdAt W b { v1 with told:=X })=>limit_any b X 16384 (p:Int) { v1 with told:=X } W ha);go_enter Tryz.func171,Tryz.ntmps171
 go_wp2_with (first | (go_at_call 134;refine HN.out.mono ?_;rintro e w1 ⟨rfl,hk,ho⟩;have c10:w1.cell? ⟨b,10,none⟩=some (.int .i64 X):=HX.out ▸ ho.at_.cell (i:=10) rfl;have hfz:=ho.at_.frozen 10;have TP:=hid (ho.told_put X);replace hk:=hid hk;clear ho) | (go_at_call 133;refine (LM.out _ TP.out.1.at_).mono ?_;rintro e w2 ⟨⟨_,rfl⟩,ha,hg2⟩;replace ha:=hid ha;replace hg2:=hid hg2) | fail)
 have O2:=hid (TP.out.1.lim ha.out hg2.out);have K2:=hid ((hk.out.trans (RK.grown1 TP.out.2)).trans (RK.grown1 (q:=sc) hg2.out));have S2:=hid (RdSame.lim_told v1 (decide (16384 < X)) (p:Int) X);clear ha hg2 hfz c10;clear hk TP LM HN;have B3:=hid (new_val w2 (.map #[] 0));go_loopw [7,9,10,11,12,13] (fun val i _ _ _ _ wr=>i = .int .i64 0∧val = .slice none 0 0∧wr=w2.alloc (.map #[] 0)) (fun _ _ _ _ _ _ _=>0)
 case atStart=>exact⟨rfl,rfl,rfl⟩
 case round =>
  obtain⟨rfl,rfl,rfl⟩:=hrel;go_wp2_with fail
  go_ret;exact⟨rfl,K2.out.trans (RK.below B3.out),_,S2.out,limV_told _ _ _,O2.out.below B3.out⟩
set_option maxRecDepth 100000 in
set_option maxHeartbeats 4000000 in
theorem linesR_neg (b sc i p:Nat) (Ac:Option Addr) (n cc:Nat) (s:ByteArray) (st st1:RdS) (v:RdV) (w:World) (Q:Value→World→Prop) (hi:i < 4611686018427387904) (h:RdOk w b sc s st v)
  (hq:numM s.data.toList (-4611686018427387904) 4611686018427387904 st = .ok (-((i:Int)+1),p) st1)
  (LO:∀ W,RK w b sc W→RdOk W b sc s st1 v→Calls Tryz.prog 213 #[.pointer (some ⟨b,0,none⟩),.int .i64 ((i:Int)+1),.slice Ac n cc,.int .i64 (p:Int)] W fun e w'=>∃ val,e = .returned val∧Q val w') :
  Calls Tryz.prog 171 #[.pointer (some ⟨b,0,none⟩),.slice Ac n cc] w fun e w'=>∃ val,e = .returned val∧Q val w':=by
 have HN:=hid (numR_ok b sc s st st1 v _ _ (-((i:Int)+1)) p w h hq);have HL:=hid LO;have d0:decide (-((i:Int)+1) < 0)=true:=decide_eq_true (by omega);have hi2:(i:Int)≤4611686018427387904:=by omega
 clear h hq LO hi;go_enter Tryz.func171,Tryz.ntmps171
 go_wp2_with (first | (go_at_call 134;refine HN.out.mono ?_;rintro e w1 ⟨rfl,hk,ho⟩;replace hk:=hid hk;replace ho:=hid ho) | (go_at_call 213;refine (HL.out _ hk.out ho.out).mono ?_;rintro e w2 ⟨val,rfl,hQ⟩;replace hQ:=hid hQ) | fail)
 go_ret;exact⟨_,rfl,hQ.out⟩
def LnRes (s:ByteArray) (b sc:Nat) (k:Int) (W:World) (ls:List LineM) (v':RdV) (r:RdR (List LineM × Int)):Prop :=
 match r with
 | .ok a st'=>ls=topL k a.1∧v'.told=a.2∧RdOk W b sc s st' v'
 | .bad e p=>RdBad W b e p v'
theorem linesR (b sc cs cc csh:Nat) (As Ac Ash:Option Addr) (sizes scope:List Nat) (fs shared:List FunM) (s:ByteArray) (st:RdS) (v:RdV) (w:World) (hnv:sizes.length≤100000) (hsm:∀ x∈sizes,x≤4611686018427387904) (hlen:scope.length≤100001) (hin:∀ x∈scope,x < sizes.length)
  (h:RdOk w b sc s st v) (hv:v.sizes = .slice As sizes.length cs) (hsh:v.shared = .slice Ash shared.length csh) (hS:IntsK w b sc As sizes) (hC:IntsK w b sc Ac scope) (hT:TabK w b sc) (ht0:0≤v.told) (ht1:v.told≤100000)
  (hF:FunsK w b sc Ash (shared.map (topF v.top))) (hfs:∀ f∈shared,f.scope.length≤100001∧∀ x∈f.scope,x < sizes.length) :
  Calls Tryz.prog 171 #[.pointer (some ⟨b,0,none⟩),.slice Ac scope.length cc] w fun e w'=>∃ A c ls v',e = .returned (.slice A ls.length c)∧LinesK w' b sc A ls∧RK w b sc w'∧RdSame v v'∧LnRes s b sc v.top w' ls v' (funLines s.data.toList sizes scope ⟨fs,shared,v.told⟩ st):=by
 cases hq:numM s.data.toList (-4611686018427387904) 4611686018427387904 st with
 | bad e p =>
  have hE:funLines s.data.toList sizes scope ⟨fs,shared,v.told⟩ st = .bad e p:=by
   show (numM s.data.toList (-4611686018427387904) 4611686018427387904 st).bind _=_;rw [hq];rfl
  refine (linesR_bad b sc e p { v with fp:=(p:Int),fe:=(e:Int) } w Ac scope.length cc (numR_bad b sc s st v _ _ e p w h hq) ht0 (by show v.told≤_;omega)).mono ?_;rintro e' w' ⟨rfl,hk,v',hs,ht,hb⟩;refine⟨none,0,[],v',rfl,.inl rfl,hk,RdSame.trans (v':={ v with fp:=(p:Int),fe:=(e:Int) }) ⟨rfl,rfl,rfl,rfl,rfl,rfl⟩ hs,?_⟩;rw [hE];exact hb
 | ok mp st1 =>
  obtain⟨m,p⟩:=mp;obtain⟨t,k1,k2,-,-,k3,k4⟩:=numM_ok.1 hq;simp only at k1 k2 k3 k4;by_cases hm:m < 0
  ·obtain⟨i,rfl⟩:∃ i:Nat,m = -((i:Int)+1):=⟨(-m).toNat - 1,by omega⟩
   have hE:funLines s.data.toList sizes scope ⟨fs,shared,v.told⟩ st=match shared[i]? with
    | some g=>if pickN sizes g.scope=pickN sizes scope then .ok (g.lines,v.told) st1 else .bad 4 p
    | none=>.bad 4 p:=by
    show (numM s.data.toList (-4611686018427387904) 4611686018427387904 st).bind _=_;rw [hq,RdR.bind_ok];simp only [hm,if_true];rw [show (-(-((i:Int)+1))).toNat - 1=i by omega];rfl
   rw [hE];have hlen':shared.length=(shared.map (topF v.top)).length:=by simp
   cases hi:shared[i]? with
   | none =>
    have hin':shared.length≤i:=List.getElem?_eq_none_iff.1 hi;refine (linesR_neg b sc i p Ac scope.length cc s st st1 v w (fun val W=>val = .slice none 0 0∧RK w b sc W∧RdBad W b 4 p { v with fp:=(p:Int),fe:=4 }) (by omega) h hq ?_).mono ?_
    ·intro W hk ho
     refine (linesOf_far b sc s st1 v Ash shared.length csh i p _ W hin' (by omega) ho hsh).mono ?_;rintro e w' ⟨rfl,hk',hb⟩;exact⟨_,rfl,rfl,hk.trans hk',hb⟩
    rintro e w' ⟨val,rfl,rfl,hk,hb⟩;exact⟨none,0,[],{ v with fp:=(p:Int),fe:=4 },rfl,.inl rfl,hk,⟨rfl,rfl,rfl,rfl,rfl,rfl⟩,hb⟩
   | some f =>
    have hmem:f∈shared:=List.mem_of_getElem? hi;have hi':(shared.map (topF v.top))[i]? = some (topF v.top f):=by rw [List.getElem?_map,hi];rfl
    refine (linesR_neg b sc i p Ac scope.length cc s st st1 v w (fun val W=>∃ A c,val = .slice A (topF v.top f).lines.length c∧LinesK W b sc A (topF v.top f).lines∧RK w b sc W∧if pickN sizes f.scope=pickN sizes scope then RdOk W b sc s st1 v else RdBad W b 4 p { v with fp:=(p:Int),fe:=4 }) (by omega) h hq ?_).mono ?_
    ·intro W hk ho
     refine (linesOf_ok b sc s st1 v Ash As Ac shared.length csh cs cc i p sizes scope (shared.map (topF v.top)) (topF v.top f) W hi' (by omega) ho (by rw [← hlen'];exact hsh) hv hnv hlen hin (hfs f hmem).1 (hfs f hmem).2 (hF.rk hk) (hS.rk hk) (hC.rk hk)).mono ?_;rintro e w' ⟨⟨A,c,rfl,hl⟩,hk',hif⟩;exact⟨_,rfl,A,c,rfl,hl,hk.trans hk',hif⟩
    rintro e w' ⟨val,rfl,A,c,rfl,hl,hk,hif⟩;by_cases hpk:pickN sizes f.scope=pickN sizes scope
    ·rw [if_pos hpk] at hif
     refine⟨A,c,_,v,rfl,hl,hk,RdSame.refl v,?_⟩;simp only [hpk,if_true];exact⟨rfl,rfl,hif⟩
    rw [if_neg hpk] at hif;refine⟨A,c,_,{ v with fp:=(p:Int),fe:=4 },rfl,hl,hk,⟨rfl,rfl,rfl,rfl,rfl,rfl⟩,?_⟩;simp only [hpk,if_false];exact hif
  obtain⟨M,rfl⟩:=Int.eq_ofNat_of_zero_le (by omega:0≤m);have hE:funLines s.data.toList sizes scope ⟨fs,shared,v.told⟩ st=(linesM s.data.toList sizes scope M [] (limS (decide (16384 < v.told+(M:Int))) p st1)).bind fun ls s''=>.ok (ls,v.told+(M:Int)) s'':=by
   show (numM s.data.toList (-4611686018427387904) 4611686018427387904 st).bind _=_;rw [hq,RdR.bind_ok];simp only [hm,if_false,Int.toNat_natCast]
  rw [hE];refine (linesR_own b sc cs cc M p As Ac sizes scope s st st1 v w hnv hsm hlen hin h hv hS hC hT ht0 ht1 (by omega) hq).mono ?_;rintro e w' ⟨A,c,ls,rfl,hl,hk,v',hv',hR⟩;have hs:RdSame v v':=by rw [hv'];exact RdSame.lim_told _ _ _ _
  have ht:v'.told=v.told+(M:Int):=by rw [hv',limV_told]
  cases hr:linesM s.data.toList sizes scope M [] (limS (decide (16384 < v.told+(M:Int))) p st1) with
  | ok a st' =>
   rw [hr] at hR;refine⟨A,c,ls,v',rfl,hl,hk,hs,?_⟩;rw [RdR.bind_ok];exact⟨hR.1,ht,hR.2⟩
  | bad e p' =>
   rw [hr] at hR;refine⟨A,c,ls,{ v' with fp:=(p':Int),fe:=(e:Int) },rfl,hl,hk,RdSame.trans hs ⟨rfl,rfl,rfl,rfl,rfl,rfl⟩,?_⟩;rw [RdR.bind_bad];exact hR
end Go.Proofs.YtmokogkndbinlaaGreatDoor
