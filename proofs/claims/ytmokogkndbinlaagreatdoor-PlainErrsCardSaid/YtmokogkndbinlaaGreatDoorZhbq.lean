import Derived.Test.YtmokogkndbinlaaGreatDoorZhbp
set_option linter.all false
namespace Go.Proofs.YtmokogkndbinlaaGreatDoor
open Go.Lib (hid)
def SepA (l:List UInt8) (k:Nat):Prop:=k≤l.length∧∀ h:k < l.length,isB (l[k]'h).toNat=true
theorem SepA.step {l:List UInt8} {k f t:Nat}(hk:SepA l k) (h:stepW l k = .word f t):k+2≤t∧SepA l t:=by
 obtain⟨h1,h2,h3,h4,h5⟩:=stepW_word hk.1 h;refine⟨?_,h3,fun ht=>stepW_sep hk.1 h ht⟩;have hk2:k < l.length:=by omega
 have e:=pastP_step isB l hk2 (hk.2 hk2);have:=pastP_ge isB l (k+1);omega
theorem SepA.num {l:List UInt8} {lo hi:Int}{s s':RdS}{n:Int × Nat}(hk:SepA l s.k) (h:numM l lo hi s = .ok n s'):s.k+2≤s'.k∧SepA l s'.k:=by
 obtain⟨w,s1,h1,h2⟩:=bind_ok_iff.1 h;split at h2
 ·cases h2
  unfold wordM at h1;split at h1
  ·rename_i f t hs
   cases h1;exact hk.step hs
  ·cases h1
  cases h1
 cases h2
theorem SepA.lim {l:List UInt8} {s:RdS}{b:Bool}{p:Nat}(h:SepA l s.k):SepA l (limS b p s).k:=by rw [limS_k];exact h
theorem SepA.scope {l:List UInt8} {nv:Nat}:∀ {n:Nat}{acc a:List Nat}{s s':RdS},SepA l s.k→scopeM l nv n acc s = .ok a s'→s.k≤s'.k∧SepA l s'.k
 | 0,acc,a,s,s',hk,h=>by cases h;exact⟨Nat.le_refl _,hk⟩
 | n+1,acc,a,s,s',hk,h=>by
  obtain⟨v,s1,h1,h2⟩:=bind_ok_iff.1 h;obtain⟨k1,k2⟩:=hk.num h1;split at h2
  ·cases h2
  obtain⟨k3,k4⟩:=SepA.scope k2 h2;exact⟨by omega,k4⟩
theorem SepA.tuple {l:List UInt8} {sizes:List Nat}:∀ {sc acc a:List Nat}{s s':RdS},SepA l s.k→tupleM l sizes sc acc s = .ok a s'→s.k≤s'.k∧SepA l s'.k
 | [],acc,a,s,s',hk,h=>by cases h;exact⟨Nat.le_refl _,hk⟩
 | v::r,acc,a,s,s',hk,h=>by
  obtain⟨c,s1,h1,h2⟩:=bind_ok_iff.1 h;obtain⟨k1,k2⟩:=hk.num h1;obtain⟨k3,k4⟩:=SepA.tuple k2 h2;exact⟨by omega,k4⟩
theorem SepA.lines {l:List UInt8} {sizes sc:List Nat}:∀ {n:Nat}{acc a:List LineM}{s s':RdS},SepA l s.k→linesM l sizes sc n acc s = .ok a s'→s.k+2 * n≤s'.k∧a.length=acc.length+n∧SepA l s'.k
 | 0,acc,a,s,s',hk,h=>by cases h;exact⟨Nat.le_refl _,rfl,hk⟩
 | n+1,acc,a,s,s',hk,h=>by
  obtain⟨x,s1,h1,h2⟩:=bind_ok_iff.1 h;obtain⟨c,s2,h3,h4⟩:=bind_ok_iff.1 h2;obtain⟨k1,k2⟩:=hk.tuple h1;obtain⟨k3,k4⟩:=k2.num h3;split at h4
  ·cases h4
  obtain⟨k5,k6,k7⟩:=SepA.lines k4 h4;refine⟨by omega,?_,k7⟩;rw [k6];simp
  omega
structure AccB (a:AccM) (k:Nat):Prop where
 n:6 * a.funs.length≤k
 f:∀ g∈a.funs,2 * g.lines.length≤k
 s:∀ g∈a.shared,2 * g.lines.length≤k
theorem AccB.funM {l:List UInt8} {sizes:List Nat}{a a':AccM}{s s':RdS}(hk:SepA l s.k) (ha:AccB a s.k) (h:funM l sizes a s = .ok a' s'):AccB a' s'.k∧SepA l s'.k:=by
 obtain⟨ar,s1,h1,h⟩:=bind_ok_iff.1 h;obtain⟨sc,s2,h2,h⟩:=bind_ok_iff.1 h;obtain⟨o,s3,h3,h⟩:=bind_ok_iff.1 h;obtain⟨ls,s4,h4,h⟩:=bind_ok_iff.1 h;obtain⟨k1,q1⟩:=hk.num h1;obtain⟨k2,q2⟩:=q1.scope h2;obtain⟨k3,q3⟩:=q2.lim.num h3;rw [limS_k] at k3;have key:s3.k+2≤s4.k∧2 * ls.1.length≤s4.k∧SepA l s4.k:=by
  obtain⟨m,s5,h5,h6⟩:=bind_ok_iff.1 h4;obtain⟨k5,q5⟩:=q3.num h5;split at h6
  ·split at h6
   ·rename_i g hg
    split at h6
    ·cases h6
     have:=ha.s g (List.mem_of_getElem? hg);exact⟨k5,by show 2 * g.lines.length≤_;omega,q5⟩
    cases h6
   cases h6
  obtain⟨lm,s6,h7,h8⟩:=bind_ok_iff.1 h6;cases h8;obtain⟨k7,k8,q7⟩:=q5.lim.lines h7;rw [limS_k] at k7;simp only [List.length_nil,Nat.zero_add] at k8;exact⟨by omega,by show 2 * lm.length≤_;omega,q7⟩
 cases h;obtain⟨k4,k5,q4⟩:=key;refine⟨⟨?_,fun g hg=>?_,fun g hg=>?_⟩,q4⟩
 ·have:=ha.n
  simp only [List.length_append,List.length_cons,List.length_nil];omega
 ·rcases List.mem_append.1 hg with hg | hg
  ·have:=ha.f g hg
   omega
  simp at hg
  subst hg;exact k5
 have hold:∀ g∈a.shared,2 * g.lines.length≤s'.k:=fun g hg=>by have:=ha.s g hg;omega
 change g∈(if ar.1 < 0 then a.shared++[⟨sc,o.1,ls.1⟩] else a.shared) at hg
 split at hg
 ·rcases List.mem_append.1 hg with hg | hg
  ·exact hold g hg
  simp at hg
  subst hg;exact k5
 exact hold g hg
theorem AccB.funsM {l:List UInt8} {sizes:List Nat}:∀ {n:Nat}{a a':AccM}{s s':RdS},SepA l s.k→AccB a s.k→funsM l sizes n a s = .ok a' s'→AccB a' s'.k∧SepA l s'.k
 | 0,a,a',s,s',hk,ha,h=>by cases h;exact⟨ha,hk⟩
 | n+1,a,a',s,s',hk,ha,h=>by
  obtain⟨x,s1,h1,h2⟩:=bind_ok_iff.1 h;obtain⟨k1,k2⟩:=AccB.funM hk ha h1;exact AccB.funsM k2 k1 h2
theorem SepA.sizes {l:List UInt8} {most:Int}:∀ {n:Nat}{acc a:List Nat}{s s':RdS},SepA l s.k→sizesM l most n acc s = .ok a s'→SepA l s'.k
 | 0,acc,a,s,s',hk,h=>by cases h;exact hk
 | n+1,acc,a,s,s',hk,h=>by
  obtain⟨v,s1,h1,h2⟩:=bind_ok_iff.1 h;exact SepA.sizes (hk.num h1).2.lim h2
theorem sum_le_mul {B:Nat}:∀ (fs:List FunM),(∀ f∈fs,f.lines.length≤B)→(fs.map fun f=>f.lines.length).sum≤fs.length * B
 | [],_=>by simp
 | f::r,h=>by
  have h1:=sum_le_mul r (fun g hg=>h g (List.mem_cons_of_mem _ hg));have h2:=h f (List.mem_cons_self ..);simp only [List.map_cons,List.sum_cons,List.length_cons];rw [Nat.succ_mul];omega
theorem sum_small {l:List UInt8} {lo:Int}{F:FileM}{st:RdS}(h:fileM l lo = .ok F st) (hl:l.length≤400):(F.funs.map fun f=>f.lines.length).sum≤16384:=by
 unfold fileM at h;obtain⟨w,s1,h1,h⟩:=bind_ok_iff.1 h;obtain⟨n,s2,h2,h⟩:=bind_ok_iff.1 h;obtain⟨g,s3,h3,h⟩:=bind_ok_iff.1 h;obtain⟨c,s4,h4,h⟩:=bind_ok_iff.1 h;obtain⟨k,s5,h5,h⟩:=bind_ok_iff.1 h;obtain⟨sz,s6,h6,h⟩:=bind_ok_iff.1 h;obtain⟨a,s7,h7,h⟩:=bind_ok_iff.1 h;have q1:SepA l s1.k:=by
  unfold wordM at h1;split at h1
  ·rename_i f t hs
   cases h1;exact⟨(stepW_word (Nat.zero_le _) hs).2.2.1,fun ht=>stepW_sep (Nat.zero_le _) hs ht⟩
  ·cases h1
  cases h1
 have q2:=(q1.lim.num h2).2;have q3:=(q2.lim.num h3).2;have q4:=(q3.num h4).2;have q5:=(q4.lim.num h5).2;have q6:=q5.lim.sizes h6;obtain⟨b7,q7⟩:=AccB.funsM q6 ⟨by simp,fun g h=>absurd h (by simp),fun g h=>absurd h (by simp)⟩ h7;have hF:F.funs=a.funs:=by
  split at h
  ·cases h
  ·cases h
  cases h;rfl
 rw [hF];have hk:=q7.1;have h8:=sum_le_mul (B:=200) a.funs (fun f hf=>by have:=b7.f f hf;omega);have h9:=b7.n;have h10:a.funs.length≤66:=by omega
 have h11:a.funs.length * 200≤66 * 200:=Nat.mul_le_mul_right _ h10;omega
open Go.RowKit Go.Shelf
def Read8 (w:World) (e:Ending) (w':World):Prop :=
 (e = .returned (.tuple #[.pointer none,.pointer none])∨∃ (s:ByteArray) (F:FileM) (st:RdS) (fb:Nat) (As Af:Option Addr) (cs cf xb base:Nat),s.size≤400∧fileM s.data.toList 1 = .ok F st∧st.big=none∧e = .returned (.tuple #[.pointer (some ⟨fb,0,none⟩),.pointer (some ⟨xb,0,none⟩)]) ∧
  FileR w' fb (s.extract F.name.1 F.name.2) F.top F.sizes F.funs As Af cs cf∧RightF (s.extract F.name.1 F.name.2) F.top F.sizes F.funs∧FileD w' xb base s F∧base≤xb)∧Below w.heap.size w w'
set_option maxRecDepth 100000 in
set_option maxHeartbeats 4000000 in
theorem read8_any (a0:Option Addr) (n0 c0:Nat) (z0:Nat→Int) (w:World) (hG:GlobR w) (hT:TabP w) (h0:n0≤c0) (hm0:(n0:Int)≤9223372036854775807) (hA0:a0=none→n0=0) (hz0:Bytes w a0 n0 z0) :
  Calls Tryz.prog 14 #[.slice a0 n0 c0] w (Read8 w):=by
 obtain⟨m0,hk0⟩:∃ m,min n0 400=m:=⟨_,rfl⟩
 have hi0:min (n0:Int) 400=(m0:Int):=by omega
 have hi1:(if (n0:Int)≤400 then (n0:Int) else 400)=(m0:Int):=by split <;> omega
 have hi2:(if (400:Int) < (n0:Int) then 400 else (n0:Int))=(m0:Int):=by split <;> omega
 have hi3:(if (n0:Int) < 400 then (n0:Int) else 400)=(m0:Int):=by split <;> omega
 have SL0:∀ W,(Instr.slice 22 (.slice a0 n0 c0) none (some (.int .i64 (m0:Int))) none).run Tryz.prog W = .ok (.slice a0 m0 c0) W:=fun W=>slice_head a0 n0 m0 c0 (by omega) W;have C0:Cel w a0 (strZ z0 m0):=hz0.cel (by omega) (fun e=>by have:=hA0 e;omega);have e0:=strZ_size z0 m0;generalize strZ z0 m0=s0 at C0 e0;have P0:=hid (bclone_any a0 m0 c0 s0 w e0 (by omega) C0);have HS0:Hid (s0.size=m0∧m0≤400):=hid ⟨e0,by omega⟩;have GB:=hid (fun W (hb:Below w.heap.size w W)=>And.intro (hG.below hb) (tab_below hT hb));clear hk0 C0 e0 hz0 hA0 hG hT h0;go_enter Tryz.func14,Tryz.ntmps14
 go_upto_region 2 with (first
  | (go_at_call 61;refine P0.out.mono ?_;rintro e w2 ⟨⟨v0,rfl,h0⟩,hb⟩;have B2:=hid hb;obtain⟨A0,q0,rfl,hq0,hs0⟩:=h0.form1;have HB0:=hid hs0;have HQ0:=hid hq0;clear h0 hb hs0 hq0)
  | fail)
 clear SL0 hi0 hi1 hi2 hi3 P0;have RD:=hid (fun W A c (hc:s0.size≤c) (h:BS W A s0)=>read7 s0 A c W (by have:=HS0.out;omega) hc h);cases hE:fileM s0.data.toList 1 with
 | bad e p =>
  obtain⟨e',p',hE'⟩:∃ e' p',fileM s0.data.toList (-4611686018427387904) = .bad e' p':=by
   cases h:fileM s0.data.toList (-4611686018427387904) with
   | bad e' p'=>exact⟨_,_,rfl⟩
   | ok F st=>have:=fileM_lo.1 h;rw [hE] at this;cases this
  have RC:=hid (readR_bad (c:=q0) (by have:=HS0.out;omega) HB0.out (GB.out _ B2.out).1 (GB.out _ B2.out).2 hE');have HEE:=hid hE;clear hE hE';by_cases hz:e'=0
  ·subst hz
   go_wp2_with (first
    | (go_at_call 22;refine RC.out.mono ?_;rintro e3 w3 ⟨rfl,hb3⟩;have B3:=hid (then_ B2.out hb3);have BS3:=hid (HB0.out.below hb3 (Nat.le_refl _));clear hb3)
    | (go_at_call 62;refine (RD.out _ _ _ HQ0.out BS3.out).mono ?_;rintro e4 w4 ⟨hr4,hb4⟩;rw [HEE.out] at hr4;have hr4':e4 = .returned (.tuple #[.pointer none,.int .i64 (p:Int),.int .i64 (e:Int)]):=hr4;subst hr4';have B4:=hid (then_ B3.out hb4);clear hr4 hb4)
    | fail)
   go_ret2;exact⟨.inl rfl,B4.out⟩
  have dz:((e':Int) != 0)=true:=by simp;omega
  clear hz;go_wp2_with (first
   | (go_at_call 22;refine RC.out.mono ?_;rintro e3 w3 ⟨rfl,hb3⟩;have B3:=hid (then_ B2.out hb3);have BS3:=hid (HB0.out.below hb3 (Nat.le_refl _));clear hb3)
   | (go_at_call 62;refine (RD.out _ _ _ HQ0.out BS3.out).mono ?_;rintro e4 w4 ⟨hr4,hb4⟩;rw [HEE.out] at hr4;have hr4':e4 = .returned (.tuple #[.pointer none,.int .i64 (p:Int),.int .i64 (e:Int)]):=hr4;subst hr4';have B4:=hid (then_ B3.out hb4);clear hr4 hb4)
   | fail)
  go_ret2;exact⟨.inl rfl,B4.out⟩
 | ok F st =>
  have hE':fileM s0.data.toList (-4611686018427387904) = .ok F st:=fileM_lo.2 hE;cases hb:st.big with
  | some p =>
   have RC:=hid (readR_big (c:=q0) (by have:=HS0.out;omega) HB0.out (GB.out _ B2.out).1 (GB.out _ B2.out).2 hE' hb);have HEE:=hid (And.intro hE hb);clear hE hE' hb;go_wp2_with (first
    | (go_at_call 22;refine RC.out.mono ?_;rintro e3 w3 ⟨rfl,hb3⟩;have B3:=hid (then_ B2.out hb3);have BS3:=hid (HB0.out.below hb3 (Nat.le_refl _));clear hb3)
    | (go_at_call 62;refine (RD.out _ _ _ HQ0.out BS3.out).mono ?_;rintro e4 w4 ⟨hr4,hb4⟩;rw [HEE.out.1] at hr4;have hr4':e4 = .returned (.tuple #[.pointer none,.int .i64 (p:Int),.int .i64 5]):=(by unfold ReadRes7 at hr4;simp only [HEE.out.2] at hr4;exact hr4);subst hr4';have B4:=hid (then_ B3.out hb4);clear hr4 hb4)
    | fail)
   go_ret2;exact⟨.inl rfl,B4.out⟩
  | none =>
   have RR:Hid (RightF (s0.extract F.name.1 F.name.2) F.top F.sizes F.funs):=hid (rightF_of (s:=s0) hE' hb (sum_small hE (by rw [size_list];have:=HS0.out;omega)));have RC:=hid (readR_ok (c:=q0) (by have:=HS0.out;omega) HB0.out (GB.out _ B2.out).1 (GB.out _ B2.out).2 hE' hb);have HEE:=hid (And.intro hE hb);clear hE hE' hb;go_wp2_with (first
    | (go_at_call 22;refine RC.out.mono ?_;rintro e3 w3 ⟨fb,As,Af,cs,cf,rfl,hf3,hb3⟩;have B3:=hid (then_ B2.out hb3);have BS3:=hid (HB0.out.below hb3 (Nat.le_refl _));have F3:=hid hf3;clear hb3 hf3)
    | (go_at_call 62;refine (RD.out _ _ _ HQ0.out BS3.out).mono ?_;rintro e4 w4 ⟨hr4,hb4⟩;rw [HEE.out.1] at hr4;obtain⟨xb,rfl,hx,hxb⟩:∃ xb,e4 = .returned (.tuple #[.pointer (some ⟨xb,0,none⟩),.int .i64 (s0.size:Int),.int .i64 0])∧FileD w4 xb w3.heap.size s0 F∧w3.heap.size≤xb:=(by unfold ReadRes7 at hr4;simp only [HEE.out.2] at hr4;exact hr4);have B4:=hid (then_ B3.out hb4);have F4:=hid (F3.out.below hb4);have X4:=hid hx;have XB:=hid hxb;clear hr4 hb4 hx hxb)
    | fail)
   go_ret2;exact⟨.inr ⟨s0,F,st,fb,As,Af,cs,cf,xb,_,by have:=HS0.out;omega,HEE.out.1,HEE.out.2,rfl,F4.out,RR.out,X4.out,XB.out⟩,B4.out⟩
open Go.RowKit
theorem str_head (X:ByteArray) (p:Nat) (h:p≤X.size) (W:World):(Instr.slice 9 (.string X) none (some (.int .i64 (p:Int))) none).run Tryz.prog W = .ok (.string (X.extract 0 p)) W:=by
 rw [run_slice_string_h (w:=W) (P:=Tryz.prog) 9 X Tryz.underlying9 .i64 (p:Int) (by omega) (by omega)];rfl
end Go.Proofs.YtmokogkndbinlaaGreatDoor
