import Derived.Test.YtmokogkndbinlaaGreatDoorZhbc
set_option linter.all false
namespace Go.Proofs.YtmokogkndbinlaaGreatDoor
open Go.Lib (hid)
open Go.RowKit Go.Shelf Go.Sort Go.Lib
abbrev HoldCp (W0:World) (m n c d:Nat) (A B:Option Addr) (s t:List Nat) (W:World):Prop :=
 W.cell? ⟨W0.heap.size,0,none⟩=some (.slice A m c)∧W.cell? ⟨W0.heap.size+1,0,none⟩=some (.slice B n d)∧Ints W A s∧Ints W B t∧Below W0.heap.size W0 W∧W0.drawn≤W.drawn
theorem HoldCp.next {W0 W W':World}{m n c d:Nat}{A B:Option Addr}{s t:List Nat}(h:HoldCp W0 m n c d A B s t W) (hb:Below W.heap.size W W') (hd:W.drawn≤W'.drawn):HoldCp W0 m n c d A B s t W':=by
 obtain⟨h0,h1,h2,h3,h4,h5⟩:=h;exact⟨(hb.cell (p:=⟨W0.heap.size,0,none⟩) (World.block_lt_of_cell? W _ h0)).trans h0,(hb.cell (p:=⟨W0.heap.size+1,0,none⟩) (World.block_lt_of_cell? W _ h1)).trans h1,h2.below hb (Nat.le_refl _),h3.below hb (Nat.le_refl _),h4.trans (hb.mono h4.size),Nat.le_trans h5 hd⟩
theorem HoldCp.alloc {W0 W:World}{m n c d:Nat}{A B:Option Addr}{s t:List Nat}(h:HoldCp W0 m n c d A B s t W) (o:Obj):HoldCp W0 m n c d A B s t (W.alloc o):=h.next (new_val W o) (Nat.le_refl _)
theorem HoldCp.drew {W0 W:World}{m n c d:Nat}{A B:Option Addr}{s t:List Nat}(h:HoldCp W0 m n c d A B s t W):HoldCp W0 m n c d A B s t W.drew:=h.next ((Below.refl _ _).drew) (Nat.le_succ _)
theorem holdCp_new {W:World}{m n c d:Nat}{A B:Option Addr}{s t:List Nat}(ta tb:Value) (hs:Ints W A s) (ht:Ints W B t) :
  HoldCp W m n c d A B s t ((W.alloc (.cells #[.slice A m c,ta] 129)).alloc (.cells #[.slice B n d,tb] 129)):=by
 have n1:=new_val W (.cells #[.slice A m c,ta] 129);have n2:=new_val (W.alloc (.cells #[.slice A m c,ta] 129)) (.cells #[.slice B n d,tb] 129);have z1:(W.alloc (.cells #[.slice A m c,ta] 129)).heap.size=W.heap.size+1:=World.size_alloc _ _;have a1:=heap_alloc_new W (.cells #[.slice A m c,ta] 129);have a2:=heap_alloc_new (W.alloc (.cells #[.slice A m c,ta] 129)) (.cells #[.slice B n d,tb] 129);rw [z1] at a2;have hb:=n1.trans (n2.mono (by rw [z1];omega));refine⟨?_,?_,hs.below hb (Nat.le_refl _),ht.below hb (Nat.le_refl _),hb,Nat.le_refl _⟩
 ·rw [cell_of_row _ _ _ _ _ _ ((n2.block _ (by rw [z1];omega)).trans a1)]
  rfl
 rw [cell_of_row _ _ _ _ _ _ a2];rfl
theorem lit_twoP (W:World) (x y:Int):(W.alloc (.cells #[.int .i64 x,.int .i64 y] 3)).drew.cell? ⟨W.heap.size,0,none⟩=some (.int .i64 x)∧(W.alloc (.cells #[.int .i64 x,.int .i64 y] 3)).drew.cell? ⟨W.heap.size,1,none⟩=some (.int .i64 y):=by
 have h:=heap_alloc_new W (.cells #[.int .i64 x,.int .i64 y] 3);constructor
 ·show (W.alloc (.cells #[.int .i64 x,.int .i64 y] 3)).cell? _=_
  rw [cell_of_row _ _ _ _ _ _ h];rfl
 show (W.alloc (.cells #[.int .i64 x,.int .i64 y] 3)).cell? _=_;rw [cell_of_row _ _ _ _ _ _ h];rfl
theorem HoldCp.ints1 {W0 W:World}{m n c d:Nat}{A B:Option Addr}{s t:List Nat}(h:HoldCp W0 m n c d A B s t W):Ints W A s:=h.2.2.1
theorem HoldCp.ints2 {W0 W:World}{m n c d:Nat}{A B:Option Addr}{s t:List Nat}(h:HoldCp W0 m n c d A B s t W):Ints W B t:=h.2.2.2.1
theorem compare_parts (A B:Option Addr) (m n c d:Nat) (s t:List Nat) (ta tb:Value) (W:World) (hm:s.length=m) (hn:t.length=n) (hm6:m≤1000000) (hs:Ints W A s) (ht:Ints W B t) :
  Calls Tryz.prog 139 #[.agg #[.slice A m c,ta],.agg #[.slice B n d,tb]] W fun e w'=>e = .returned (.int .i64 (cmpP s t))∧∃ q os',w'=grow (W.drewN q) os':=by
 have H2:=hid (holdCp_new (m:=m) (n:=n) (c:=c) (d:=d) ta tb hs ht);have z1:(W.alloc (.cells #[.slice A m c,ta] 129)).heap.size=W.heap.size+1:=World.size_alloc _ _;generalize hr:cmpP s t=r;have HR:Hid ((if cmp2 (m:Int) (n:Int)≠0 then cmp2 (m:Int) (n:Int) else cmpL s t)=r):=hid (by rw [← hr,cmpP,hm,hn]);have HM:=hid hm;have HN:=hid hn;clear hr hs ht hm hn;go_enter Tryz.func139,Tryz.ntmps139
 go_upto_region 1 with fail
 generalize h2:((W.alloc (.cells #[.slice A m c,ta] 129)).alloc (.cells #[.slice B n d,tb] 129))=w2 at H2 ⊢;clear h2;go_region_held3 (fun W'=>HoldCp W m n c d A B s t W') (first | exact H2.out.drew | assumption | exact HoldCp.alloc (by assumption) _)
  ((first | (go_at_call 93;refine (compare_int _ _ _).mono ?_;rintro e w' ⟨rfl,rfl⟩) | (go_at_call 37;refine (compare_ints A B m n c d s t _ HM.out HN.out hm6 (HoldCp.ints1 (by assumption)) (HoldCp.ints2 (by assumption))).mono ?_;rintro e w' ⟨rfl,rfl⟩) | (go_at_call 177;refine (or_two _ _ _ _ (lit_twoP _ _ _).1 (lit_twoP _ _ _).2).mono ?_;rw [HR.out];rintro e w' ⟨rfl,rfl⟩)))
 go_wp2_with fail
 go_ret;rename_i hH;exact⟨rfl,grow_of_below hH.2.2.2.2.1 hH.2.2.2.2.2⟩
open Go.RowKit Go.Shelf Go.Maps Go.Sort
theorem grownBy_sort {α:Type} [Inhabited α] {enc:α→List Value}{k:Nat}{w:World}{g n:Nat}{os:Array Obj}(d:Array α):w.grownBy (sortWorldK enc k w g 0 n d os) (some g):=by
 unfold sortWorldK putRowK;refine⟨rfl,rfl,rfl,by simp,fun k hk hne=>?_⟩;rw [heap_grow_old _ _ (by simpa using hk)];have:g≠k:=fun e=>hne (by rw [e]);simp [putRow,mapBlock,Sort.ahead,Array.getElem?_modify,this]
theorem heap_sort {α:Type} [Inhabited α] {enc:α→List Value}{k:Nat}{w:World}{g n:Nat}{os:Array Obj}{cur:Array Value}{e:TypeId}{fr:Nat × Nat}(d:Array α) (hb:w.heap[g]? = some (.cells cur e fr)) :
  (sortWorldK enc k w g 0 n d os).heap[g]? = some (.cells (putCells id 0 (Go.Sort.flatK enc k d) cur) e fr):=by
 have hg:g < w.heap.size:=(Array.getElem?_eq_some_iff.1 hb).1;unfold sortWorldK putRowK;rw [heap_grow_old _ _ (by simpa using hg)];simp [putRow,mapBlock,Sort.ahead,Array.getElem?_modify,hb]
 rfl
def encP {N:Nat}(us:Fin N→Value × Value) (i:Fin N):List Value:=[(us i).1,(us i).2]
theorem isAggP:∀ w,(isAgg 129).run Tryz.prog w = .ok true w:=fun w=>by kernel_rfl
theorem sizeOfP:∀ w,(Go.sizeOf 129).run Tryz.prog w = .ok 2 w:=fun w=>by kernel_rfl
theorem ints_but {w w':World}{A:Option Addr}{l:List Nat}{g:Nat}(h:Ints w A l) (hg:w.grownBy w' (some g)) (hne:∀ a,A=some a→a.block≠g):Ints w' A l:=by
 rcases h with h | ⟨b,o,e,hb,hc⟩
 ·exact .inl h
 refine .inr ⟨b,o,e,Nat.lt_of_lt_of_le hb hg.size,fun i hi=>?_⟩;exact (World.cell?_of_block (a:=⟨b,o+i,none⟩) (hg.block b hb (fun e'=>hne _ e (Option.some.inj e')))).trans (hc i hi)
theorem sortP_any (N gb cap:Nat) [Inhabited (Fin N)] (us:Fin N→Value × Value) (ss:Fin N→List Nat) (w:World) (hgb:gb < w.heap.size) (hN:N≤1000000) (hH:HoldsK (encP us) 2 w gb 0 (Array.ofFn id)) (h1:∀ i,(us i).1.oneCell'=true∧(us i).2.oneCell'=true)
  (hs:∀ i,∃ A c,(us i).1 = .slice A (ss i).length c∧(ss i).length≤1000000∧Ints w A (ss i)∧∀ a,A=some a→a.block≠gb) :
  Calls Tryz.prog 138 #[.slice (some ⟨gb,0,none⟩) N cap,.func (.func 139) #[] #[]] w fun e w'=>e = .returned (.tuple #[])∧∃ d':Array (Fin N),PermIn 0 N (Array.ofFn id) d'∧SortedIn (ltOf fun x y=>cmpP (ss x) (ss y)) 0 N d'∧(∀ cur e fr,w.heap[gb]? = some (.cells cur e fr)→w'.heap[gb]? = some (.cells (putCells id 0 (Go.Sort.flatK (encP us) 2 d') cur) e fr))∧w.grownBy w' (some gb):=by
 have hsz:(Array.ofFn (id:Fin N→Fin N)).size=N:=Array.size_ofFn;have eg:∀ args w,(callFunc 139 args).run Tryz.prog w = .ok (.enter 139 args) w:=enters_of Tryz.func139 (by kernel_rfl) rfl;have hcmp:CmpLays Tryz.prog 139 #[] (encP us) 2 (fun x y=>cmpP (ss x) (ss y)) gb 0 (Array.ofFn (id:Fin N→Fin N)).size w:=fun m os dk hd x y=>by
  obtain⟨A,c,e1,hm,iA,nA⟩:=hs x;obtain⟨B,d,e2,_,iB,nB⟩:=hs y;have hg:=grownBy_sort (enc:=encP us) (k:=2) (w:=w) (g:=gb) (n:=m) (os:=os) dk;have h:=compare_parts A B (ss x).length (ss y).length c d (ss x) (ss y) (us x).2 (us y).2 (sortWorldK (encP us) 2 w gb 0 m dk os) rfl rfl hm (ints_but iA hg nA) (ints_but iB hg nB);rw [← e1,← e2] at h;exact h
 have SS:=AnyQ.slices_SortFunc Tryz.sortP 2 isAggP sizeOfP (encP us) (fun _=>rfl) (fun x v hv=>by
   rcases List.mem_cons.1 hv with rfl | hv
   ·exact (h1 x).1
   ·rw [List.mem_singleton.1 hv];exact (h1 x).2) (fun x y=>cmpP (ss x) (ss y)) (swoP ss) 139 #[] gb 0 cap (Array.ofFn (id:Fin N→Fin N)) w eg hcmp hH hgb (by rw [hsz];omega)
 rw [hsz] at SS;refine SS.mono ?_;rintro e w' ⟨he,d',n,os,hp,hsd,rfl⟩;refine⟨he,d',hp,hsd,fun cur e fr hc=>heap_sort d' hc,grownBy_sort d'⟩
end Go.Proofs.YtmokogkndbinlaaGreatDoor
