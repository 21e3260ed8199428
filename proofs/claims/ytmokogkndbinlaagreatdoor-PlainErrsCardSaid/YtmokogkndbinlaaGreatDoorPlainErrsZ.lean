import Derived.OpenShut
import Derived.ShutString
import Derived.ChangeOld
import Derived.Deep.DeepHandedRow
import Derived.Lay
import Derived.Deep.Grids
import Derived.Stop.LaidErr
import Derived.MakeChecks
import Derived.Test.YtmokogkndbinlaaGreatDoorZhbs
import Derived.Test.YtmokogkndbinlaaGreatDoorZhbr
set_option linter.all false
namespace Go.Proofs.YtmokogkndbinlaaGreatDoor.plainErrs
open Go.ChangeShapes Go.WideShapes Go.ChangeAt Go.RowKit
open Go.ChangeMaps (open_string shut_string)
theorem own:ownKnob Tryz.prog.godebug=none:=by kernel_rfl
theorem laidOut:laidOutB Tryz.prog=true:=by kernel_rfl
def IsRow (k:IntKind) (w:World) (a:Option Addr) (len cap:Nat) (zs:List Int):Prop :=
 (a=none∧len=0∧cap=0∧zs=[]) ∨
 ∃ x,a=some x∧len≤cap∧cap≤maxLen∧zs.length=cap∧(∀ i,i < zs.length→w.cell? (x.add i)=some (.int k (zs.getD i 0)))∧∀ n∈zs,(Lit.int k n).wf=true
theorem star : "*"++"errors.errorString" = "*errors.errorString":=by decide
theorem row383 (u:TypeId) (h:Tryz.prog.typeName? 3 u=some "*errors.errorString"):u=383 :=
 typeName_ptr_named (nm:= "errors.errorString") (by rw [star];kernel_rfl) (by kernel_rfl) (by decide) u (by rw [star];exact h)
theorem plainly {W:World}(h:laidMetH Tryz.prog Rows.plainErrsRow.laid W):laidMet Tryz.prog Rows.plainErrsRow.laid W:=by
 rw [MakeChecks.laidMetH_plain _ _ _ (by kernel_rfl)] at h;exact h
theorem glob {W:World}(h:laidMetH Tryz.prog Rows.plainErrsRow.laid W):GlobR W:=by
 have h':=plainly h;obtain⟨a1,t1,hv1,_,_,_⟩:=laid_sentinel (g:=3) (h'.tail.tail.tail.tail) (by kernel_rfl) (by kernel_rfl) Tryz.underlying241 row383 Tryz.underlying383 Tryz.underlying385 rfl rfl Tryz.underlying9 (by kernel_rfl) (by kernel_rfl);have hc:=World.var?_cell (show Tryz.prog.globalNamed "strconv.ErrRange" = some 3 by kernel_rfl) hv1 0;exact⟨_,hc,.inr ⟨_,_,rfl⟩⟩
theorem tab {W:World}(h:laidMetH Tryz.prog Rows.plainErrsRow.laid W):TabP W :=
 Lib.tabIs_of_head (g:=0) (t:=346) (e:=115) (n:=20) (by kernel_rfl) (by kernel_rfl) (by kernel_rfl) (by kernel_rfl) (by kernel_rfl) (by kernel_rfl) (plainly h).tail.tail
theorem low {w:World}{a:Option Addr}{len cap:Nat}{z:List Int}(h:IsRow .u8 w a len cap z):len≤cap∧(a=none→len=0):=by
 rcases h with ⟨rfl,rfl,rfl,_⟩ | ⟨_,rfl,h,_⟩
 ·exact⟨Nat.le_refl _,fun _=>rfl⟩
 exact⟨h,fun e=>by cases e⟩
theorem walk (a0:Option Addr) (len0 cap0:Nat) (z0:List Int) (a1:Option Addr) (len1 cap1:Nat) (z1:List Int) (a2:ByteArray) (a3:Bool) (w:World) (hL:laidMetH Tryz.prog Rows.plainErrsRow.laid w) (w0:IsRow .u8 w a0 len0 cap0 z0) (w1:IsRow .u8 w a1 len1 cap1 z1) (w2:a2.size≤maxLen) :
  Calls Tryz.prog 6 #[.slice a0 len0 cap0,.slice a1 len1 cap1,.string a2,.bool a3] w fun e w'=>e = .returned (.bool true)∧Below w.heap.size w w' :=
 errs_walk a0 a1 len0 cap0 len1 cap1 _ _ a2 a3 w (glob hL) (tab hL) (low w0).1 (bytes_came w0).2 (low w0).2 (bytes_came w0).1 (low w1).1 (bytes_came w1).2 (low w1).2 (bytes_came w1).1 (by unfold maxLen at w2;omega)
set_option maxRecDepth 100000 in
theorem contract (H:Type) (enc:TypeId × Value→H) (W:World) (base:Nat) (args:Array Value) (ds gs:List (DataW H)) (before:List MemPlace)
  (hval:∀ (j:Nat) t v,Tryz.f6.params[j]? = some t→args[j]? = some v→Value.okWide Tryz.prog W .any base t v)
  (hW:DataW.Whole enc Tryz.prog Tryz.f6.params.toList Rows.plainErrsSpec.vars false W args.toList ds gs before) (hL:laidMetH Tryz.prog Rows.plainErrsRow.laid W) :
  Calls Tryz.prog 6 args W fun e W'=>∃ v,e = .returned v∧Rows.plainErrsSpec.post enc Tryz.prog Tryz.f6 false true false false W args v W':=by
 have hW':=hW;obtain⟨p,q,hA0,hV,rfl,hfz,hnd⟩:=hW;have hA:DataW.TrodAll enc Tryz.prog W 0 (fun _=>true) true Tryz.f6.params.toList args.toList ds p:=hA0;rw [Tryz.params6] at hA hval;obtain⟨v0,vs0,d0,ds0,p0,q0,hargs,rfl,rfl,h0,r0⟩:=trodAll_cons hA;obtain⟨v1,vs1,d1,ds1,p1,q1,rfl,rfl,rfl,h1,r1⟩:=trodAll_cons r0;obtain⟨v2,vs2,d2,ds2,p2,q2,rfl,rfl,rfl,h2,r2⟩:=trodAll_cons r1;obtain⟨v3,vs3,d3,ds3,p3,q3,rfl,rfl,rfl,h3,r3⟩:=trodAll_cons r2;obtain⟨rfl,rfl,rfl⟩:=trodAll_nil r3;obtain rfl:args=#[v0,v1,v2,v3]:=by cases args;simp_all
 obtain⟨rfl,rfl⟩:=trodVars_none hV;obtain⟨a0,len0,cap0,rfl⟩:=okWide_slice Tryz.underlying22 (hval 0 22 v0 rfl rfl);have k0:=h0;have lt0:∀ x∈p0,x.block < W.heap.size:=by obtain⟨m,hm⟩:=k0;exact DataW.trod_lt m _ _ _ hm
 obtain⟨z0,w0⟩:∃ zs,IsRow .u8 W a0 len0 cap0 zs:=by
  obtain⟨fuel,hf⟩:=h0;rcases open_ints Tryz.underlying22 Tryz.underlying5 (by kernel_rfl) hf with ⟨hcs,_⟩ | ⟨x,l,c,zs,hcs,_,hl,hm,hz,_,hcell,hwz⟩
  ·simp [Value.cells] at hcs
   obtain⟨rfl,rfl,rfl⟩:=hcs;exact⟨[],.inl ⟨rfl,rfl,rfl,rfl⟩⟩
  simp [Value.cells] at hcs
  obtain⟨rfl,rfl,rfl⟩:=hcs;exact⟨zs,.inr ⟨_,rfl,hl,hm,by simpa using hz,hcell,hwz⟩⟩
 obtain⟨a1,len1,cap1,rfl⟩:=okWide_slice Tryz.underlying22 (hval 1 22 v1 rfl rfl);have k1:=h1;have lt1:∀ x∈p1,x.block < W.heap.size:=by obtain⟨m,hm⟩:=k1;exact DataW.trod_lt m _ _ _ hm
 obtain⟨z1,w1⟩:∃ zs,IsRow .u8 W a1 len1 cap1 zs:=by
  obtain⟨fuel,hf⟩:=h1;rcases open_ints Tryz.underlying22 Tryz.underlying5 (by kernel_rfl) hf with ⟨hcs,_⟩ | ⟨x,l,c,zs,hcs,_,hl,hm,hz,_,hcell,hwz⟩
  ·simp [Value.cells] at hcs
   obtain⟨rfl,rfl,rfl⟩:=hcs;exact⟨[],.inl ⟨rfl,rfl,rfl,rfl⟩⟩
  simp [Value.cells] at hcs
  obtain⟨rfl,rfl,rfl⟩:=hcs;exact⟨zs,.inr ⟨_,rfl,hl,hm,by simpa using hz,hcell,hwz⟩⟩
 obtain⟨a2,rfl,rfl,rfl,w2⟩:=open_string Tryz.underlying9 (hval 2 9 v2 rfl rfl) h2;obtain⟨a3,rfl,rfl,rfl⟩:=open_bool Tryz.underlying4 (hval 3 4 v3 rfl rfl) h3;clear hA0;refine (walk a0 len0 cap0 z0 a1 len1 cap1 z1 a2 a3 W hL w0 w1 w2).mono fun e W' ⟨he,bel⟩=>?_;subst he;exact⟨_,rfl,_,_,_,[],_,[],hW',trodAll_mk1 (shut_bool Tryz.underlying4 _),(trodAll_cons_mk (Below.trod laidOut (by kernel_rfl) (of_decide_eq_true (by kernel_rfl)) k0 bel lt0) (trodAll_cons_mk (Below.trod laidOut (by kernel_rfl) (of_decide_eq_true (by kernel_rfl)) k1 bel lt1) (trodAll_cons_mk (shut_string Tryz.underlying9 w2) (trodAll_cons_mk (shut_bool Tryz.underlying4 _) trodAll_mk0)))),rfl,bel.frame _,fun h=>by cases h⟩
theorem reads (os:Os) {H:Type}(enc:TypeId × Value→H):∃ places,DataW.whole enc Tryz.prog ((World.laidAll Tryz.prog os Rows.plainErrsRow.laid).forCall (fun _ _=>0) ⟨#[],#[.slice none 0 0,.slice none 0 0,.string ⟨#[]⟩,.bool false],[]⟩).memory Tryz.f6.params.toList Rows.plainErrsSpec.vars false (#[.slice none 0 0,.slice none 0 0,.string ⟨#[]⟩,.bool false]:Array Value).toList 8=some ([.nil,.nil,.lit (.string []),.lit (.bool false)],[],places) :=
 ⟨[],by kernel_rfl⟩
theorem laid_met (os:Os):laidMet Tryz.prog Rows.plainErrsRow.laid ((World.laidAll Tryz.prog os Rows.plainErrsRow.laid).forCall (fun _ _=>0) ⟨#[],#[.slice none 0 0,.slice none 0 0,.string ⟨#[]⟩,.bool false],[]⟩).memory :=
 laidMet_laidAll _ (by kernel_rfl) (by kernel_rfl)
set_option maxRecDepth 100000 in
theorem lifted (os:Os) (started:os.Started) (H:Type) (enc:TypeId × Value→H) (F:Stop.Interp) :
  ReturnsInHanded {} Tryz.checked os 6 .any ((OpenSpec.ofChange Rows.plainErrsSpec).preRow enc Tryz.prog Tryz.f6 Rows.plainErrsRow.domain false Rows.plainErrsRow.laid) (((OpenSpec.ofChange Rows.plainErrsSpec).at F).post enc Tryz.prog Tryz.f6 false true false false):=by
 obtain⟨places,hx⟩:=reads os enc;refine returnsInHanded_of_row (C:=Tryz.checked) (s:=OpenSpec.ofChange Rows.plainErrsSpec) own started (by kernel_rfl) Tryz.func6
  (witness_row_at (enc:=enc) (C:=Tryz.checked) false (World.laidAll Tryz.prog os Rows.plainErrsRow.laid) #[.slice none 0 0,.slice none 0 0,.string ⟨#[]⟩,.bool false] (World.laidAll_os _ _ _) (by kernel_rfl) (by kernel_rfl) (by kernel_rfl)
   (OpenSpec.preRow_of_cond 8 hx (by kernel_rfl) (fun k hk=>by cases hk) (by kernel_rfl) (laid_met os))) ?_
 intro W base args ds gs before hval hW _ _ _ hL _ _;exact contract H enc W base args ds gs before hval hW hL
theorem jr_inpl:Tryz.pinned.checked.prog.inPlace 6=Rows.plainErrsRow.inPlace:=by kernel_rfl
theorem jr_unf:Tryz.pinned.checked.prog.unfollowed 6=Rows.plainErrsRow.unfollowed:=by kernel_rfl
theorem jr_rec:Tryz.pinned.checked.prog.recurses 6=Rows.plainErrsRow.recurses:=by kernel_rfl
theorem jr_vars:Tryz.pinned.checked.prog.varsNamed 6=Rows.plainErrsRow.named:=by kernel_rfl
theorem jr_name:Tryz.pinned.checked.prog.funcNamed Rows.plainErrsRow.func=some 6:=by kernel_rfl
theorem jr_goes:false=Rows.plainErrsRow.goesBy Tryz.pinned.checked.prog:=by kernel_rfl
theorem jr_closed:joinedFacts Tryz.pinned.checked.prog 6 Tryz.f6 (OpenSpec.ofChange Rows.plainErrsSpec).bare Rows.plainErrsRow=true:=by
 unfold joinedFacts;rw [jw_out,jw_rowed,jr_inpl,jr_unf,jr_rec,jr_vars,jw_heard,jw_enter,jw_lifts,jw_make]
 kernel_rfl
theorem said:Rows.PlainErrsSaid :=
 OpenClaim.holds_of_cond 6 Tryz.f6 rfl rfl rfl rfl rfl rfl rfl ⟨rfl,rfl,rfl,rfl,rfl⟩ rfl rfl rfl rfl rfl jr_name Tryz.func6 jr_closed
  (of_decide_eq_true (by kernel_rfl)) (by unfold Func.isWrapper;first | (rw [if_pos (by decide +kernel)];kernel_rfl) | (rw [if_neg (by decide +kernel)];exact⟨rfl,rfl⟩))
  (fun os started H enc _ F=>by rw [OpenClaim.pre_eq_preRow];exact lifted os started H enc F)
theorem plain (f:FuncId) (fn:Func) (hf:Tryz.pinned.checked.prog.funcNamed "pennyweight/pennyweightlaw08.PlainErrs" = some f) (hfn:Tryz.pinned.checked.prog.funcs[f]? = some fn) :
  true=Tryz.pinned.checked.prog.looks []∧∀ (j:Nat) t,fn.params[j]? = some t→Tryz.pinned.checked.prog.wantsStandIn t=false:=by
 obtain rfl:f=6:=Option.some.inj ((show Tryz.prog.funcNamed "pennyweight/pennyweightlaw08.PlainErrs" = some 6 by kernel_rfl).symm.trans hf) |>.symm
 obtain rfl:fn=Tryz.f6:=(Option.some.inj (Tryz.func6.symm.trans hfn)).symm;refine⟨by kernel_rfl,fun j t ht=>?_⟩;rw [Tryz.params6] at ht;have hm:=Array.mem_of_getElem? ht;simp only [List.mem_toArray,List.mem_cons,List.not_mem_nil,or_false] at hm;rcases hm with rfl | rfl | rfl | rfl
 ·exact (show Tryz.prog.wantsStandIn 22=false by kernel_rfl)
 ·exact (show Tryz.prog.wantsStandIn 22=false by kernel_rfl)
 ·exact (show Tryz.prog.wantsStandIn 9=false by kernel_rfl)
 exact (show Tryz.prog.wantsStandIn 4=false by kernel_rfl)
theorem card:Rows.PlainErrsCardSaid :=
 Claim7.holds_tied_plain_at .later [] _ _ _ _ said (fun _ h=>by cases h) (by kernel_rfl) (fun _ h=>by cases h) plainErrs_row_tie rfl ⟨rfl,rfl⟩ jw_main rfl plain jr_goes
#print axioms card
end Go.Proofs.YtmokogkndbinlaaGreatDoor.plainErrs
