import Derived.Test.YtkdjjnkpfpogkaaGreatDoorK42
set_option maxHeartbeats 8000000
set_option linter.all false
set_option maxRecDepth 100000
namespace Go.Proofs.Zq
open Tryz
open Go.RowKit Go.Maps Go.Sort Go.Shelf
open Rl
namespace Rl
def apA:Code:=(Code.region 2 #[⟨some 5,Op.alloc 80,0, "iter.go:51",#[],none⟩,⟨none,Op.store 80 (Operand.tmp 5) (Operand.tmp 7),0, "iter.go:51",#[⟨0,.data⟩,⟨0,.phase⟩],none⟩] false)
def apB:Code:=(Code.block 1 (Code.region 3 #[⟨some 8,Op.load 27 (Operand.tmp 2),27, "iter.go:52",#[],none⟩,⟨some 9,Op.load 80 (Operand.tmp 5),80, "iter.go:52",#[],none⟩,⟨some 10,Op.buildSlice 27 1 #[(0,Operand.tmp 9)],27, "iter.go:52",#[⟨1,.data⟩],none⟩,⟨some 11,Op.call {callee:=Callee.builtin Builtin.append,args:=#[Operand.tmp 8,Operand.tmp 10],argTypes:=#[27,27]},27, "iter.go:52",#[⟨0,.data⟩,⟨2,.data⟩],none⟩,⟨none,Op.store 27 (Operand.tmp 2) (Operand.tmp 11),0, "iter.go:52",#[⟨3,.data⟩,⟨3,.chain⟩,⟨0,.phase⟩,⟨1,.phase⟩,⟨2,.phase⟩,⟨3,.phase⟩],none⟩] false))
def apR(fn:FuncId)(sv:Value)(c D:Nat)(b:LoopState)(a:Option Code):Loop:=
 {state:=b,pending:=a,fn,tmps:=#[.slice none 0 0,sv,.pointer (some ⟨c,0,none⟩),undef,.slice none 0 0,undef,sv,undef,undef,undef,undef,undef,undef],params:=#[7],assign:=apA,body:=apB,defers:=D}
structure ApAt(w0:World)(fn:FuncId)(sv:Value)(Bs l D:Nat)(es:List aX)(W:World):Prop where
 box:∃v,W.heap[Bs]? =some (.cells #[v] 27 (0,0))/\W.ownsRow w0.heap.size 80 3 v es.length (aJ es)
 L:W.heap[l]? =some (.loop (apR fn sv Bs D .ready none))
 K:W.heap[D]? =some (.deferred (some []))
 below:ah' w0 W
def ap_abides(f:World)(n:FuncId)(i:Value)(p l D B:Nat)(m:f.heap.size<=B):AbidesFrom B (ApAt f n i p l D):=λs W q d h c b=>by
 have a:∀r,d=some r->∃o:Obj,W.heap[r]? =some o/\o.isWalk=true:=λr e=>(b r e).2
 obtain⟨v,g,j⟩:=h.box
 exact⟨⟨v,(grownBy_keeps c a g rfl).trans g,ownsRow_abides_a j c a⟩,(grownBy_keeps c a h.L rfl).trans h.L,(grownBy_keeps c a h.K rfl).trans h.K,
  h.below.grown c h.below.size (λk e=>afC m (b k e).1)⟩
def a6W(l:List aX)(x:aX):aJ (l++[x])=aJ l++[.int .i64 x.addr,.int .i64 x.len,.string x.attrs]:=by rw[jZ];rfl
end Rl
def apYield(F:Fence)(m:Nat)(w0:World)(fn:FuncId)(hfn:F.fn fn)(sv:Value)(u l D:Nat)(hBl:u≠l)(hDl:D≠l)(hDB:D≠u)(h0B:w0.heap.size<=u)(h0l:w0.heap.size<=l)(N:Nat)(hN:N<=4194304)(es:List aX)(x:aX)(W:World)(h:ApAt w0 fn sv u l D es W)(Q:es.length<N):
  YieldAt F m ah.prog l #[eQ x] W λe W'=>e=.returned (.bool true)/\ApAt w0 fn sv u l D (es++[x]) W'/\KeepsWalks W W':=by
 have hne:(27:Nat)≠80:=by decide
 obtain⟨i0,hi,hz0,hz1,hz2⟩:=ahC Iw;obtain⟨v,hv,hrow⟩:=h.box;refine⟨fn,#[.slice none 0 0,sv,.pointer (some ⟨u,0,none⟩),undef,.slice none 0 0,undef,sv,eQ x,undef,undef,undef,undef,undef],apA,apB,by simpa[apR]using run_yield (P:=ah.prog) (args:=#[eQ x]) h.L rfl,roundIn_of_wpIn hfn ?_⟩;have hxv:eQ x=.agg #[.int .i64 x.addr,.int .i64 x.len,.string x.attrs]:=rfl
 rw[hxv]
 unfold apA
 gi_wp2_with gi_round_op_a
 have bx:=mD W (.int .i64 x.addr) (.int .i64 x.len) (.string x.attrs) 80;have abo:ah' W (W.alloc (.cells #[.int .i64 x.addr,.int .i64 x.len,.string x.attrs] 80)):=aL _ _;have hk1:=KeepsWalks.alloc W (.cells #[.int .i64 x.addr,.int .i64 x.len,.string x.attrs] 80);have hl0:l<W.heap.size:=(afD.1 h.L).1;have hv1:=(abo.block u (afD.1 hv).1).trans hv;have hK1:=(abo.block D (afD.1 h.K).1).trans h.K;have hL1:=(abo.block l hl0).trans h.L;have a9W:=hrow.alloc (.cells #[.int .i64 x.addr,.int .i64 x.len,.string x.attrs] 80);have H:=h.below.alloc h.below.size (.cells #[.int .i64 x.addr,.int .i64 x.len,.string x.attrs] 80);generalize W.alloc (.cells #[.int .i64 x.addr,.int .i64 x.len,.string x.attrs] 80)=s at*;have hl:l<s.heap.size:=(afD.1 hL1).1;have hbr:=run_beginRound (P:=ah.prog) hL1 rfl;obtain⟨E,Z⟩:∃E,s.putObj l (.loop {apR fn sv u D .ready none with state:=.busy})=E:=⟨_,rfl⟩
 rw[Z]at hbr
 refine⟨E,hbr,?_⟩;have hg2:s.grownBy E (some l):=by rw[<-Z];exact ahO _ _ _
 have hk2:KeepsWalks W E:=hk1.trans (by rw[<-Z];exact KeepsWalks.putObj _ hL1 rfl);have hv2:E.heap[u]? =some (.cells #[v] 27 (0,0)):=by rw[<-Z];exact(ahK hBl).trans hv1
 have hK2:E.heap[D]? =some (.deferred (some [])):=by rw[<-Z];exact(ahK hDl).trans hK1
 have hL2:E.heap[l]? =some (.loop {apR fn sv u D .ready none with state:=.busy}):=by rw[<-Z];exact World.putObj_heap_same hl
 have y:E.ownsRow w0.heap.size 80 3 v es.length (aJ es):=a9W.kept hg2 (ahW a9W hL1 (λR e=>by cases e));have V:ah' w0 E:=H.grown hg2 H.size (λk e=>by cases e;exact h0l);obtain⟨y0,y1,y2,_,_,_,yl⟩:=bx;have hnl:∀i,E.cell? ⟨W.heap.size,i,none⟩=s.cell? ⟨W.heap.size,i,none⟩:=λi=>ahz (by grind[ahK])
 have x0:=(hnl 0).trans y0;have x1:=(hnl 1).trans y1;have x2:=(hnl 2).trans y2;obtain⟨G,c⟩:=cell_of_box_a hv2;have xl:W.heap.size<E.heap.size:=afB yl hg2.size;have hBlt:u<E.heap.size:=(afD.1 hv2).1;have hl2:l<E.heap.size:=(afD.1 hL2).1;have hDlt:D<E.heap.size:=(afD.1 hK2).1
 have M:∀{j:Nat}{o:Obj},E.heap[j]? =some o->(∀R,o≠.cells R 80 (0,0))->some j≠v.ownBlock:=λhj hno=>by obtain e|e:=ahW y hj hno<;>grind
 unfold apB
 gi_wp2_with (first
  |(gi_at_builtin;refine wpListIn_append_own _ rfl _ _ 27 rfl w0.heap.size 80 i0 (.agg #[.int .i64 0,.int .i64 0,.string ⟨#[]⟩]) 3 32 aiN hi hz0 hz1 hz2 rfl (by decide) _ _ _ rfl (y.alloc _) ⟨E.heap.size,0,none⟩ 1 1 [.int .i64 x.addr,.int .i64 x.len,.string x.attrs] rfl rfl (cu _ _ _) (qb x) aB (by omega) (by simp<;>omega) ?_;intro v' L O hg3 hnil3
    have hv3:L.heap[u]? =some (.cells #[v] 27 (0,0)):=(hg3.block u (by simp;omega) (M hv2 (λR e=>by first|cases e|exact hne (Obj.cells.inj e).2.1))).trans ((ahL _ _ u hBlt).trans hv2);obtain⟨hc3,hf3⟩:=cell_of_box_a hv3
    obtain⟨g',d,Y,rfl,hbase',hgb',I,hr2,hr3,hr4⟩:∃g' d Y,v'=.slice (some ⟨g',0,none⟩) (es.length+1) d/\w0.heap.size<=g'/\L.heap[g']? =some (.cells Y 80 (0,0))/\es.length+1<=d/\d<=maxLen/\Y.size=d*3/\Y.toList.take ((es.length+1)*3)=aJ es++[.int .i64 x.addr,.int .i64 x.len,.string x.attrs]:=by
     obtain⟨_,J⟩|h':=O.2
     ·omega
     ·exact h'
    go_frame)
  |gi_round_op_a)
 have U:(E.alloc (.cells #[.int .i64 x.addr,.int .i64 x.len,.string x.attrs] 80)).grownBy L v.ownBlock:=hg3;have hL3:L.heap[l]? =some (.loop {apR fn sv u D .ready none with state:=.busy}):=(U.block l (by simp;omega) (M hL2 (λR e=>by cases e))).trans ((ahL _ _ l hl2).trans hL2);have hK3:L.heap[D]? =some (.deferred (some [])):=(U.block D (by simp;omega) (M hK2 (λR e=>by cases e))).trans ((ahL _ _ D hDlt).trans hK2);obtain⟨w4,hw4⟩:∃w4,L.setCell ⟨u,0,none⟩ (.slice (some ⟨g',0,none⟩) (es.length+1) d)=w4:=⟨_,rfl⟩
 rw[hw4]
 have hg4:L.grownBy w4 (some u):=by rw[<-hw4];exact grownBy_setCell0_a _ _ _
 have hv4:w4.heap[u]? =some (.cells #[.slice (some ⟨g',0,none⟩) (es.length+1) d] 27 (0,0)):=by rw[<-hw4];exact heap_setCell_box_a _ hv3
 have hL4:w4.heap[l]? =some (.loop {apR fn sv u D .ready none with state:=.busy}):=(hg4.block l (afD.1 hL3).1 (λe=>hBl (by grind))).trans hL3;have hK4:w4.heap[D]? =some (.deferred (some [])):=(hg4.block D (afD.1 hK3).1 (λe=>hDB (by grind))).trans hK3;have hrow4:=O.kept hg4 (ahW O hv3 (λR e=>by first|cases e|exact hne (Obj.cells.inj e).2.1));have hl4:l<w4.heap.size:=(afD.1 hL4).1;have q:ah' w0 L:=(V.alloc V.size _).grown U (by have:=V.size;simp;omega) (λk e=>(y.lt k e).1);have X:ah' w0 w4:=q.grown hg4 q.size (λk e=>by cases e;exact h0B);have hk4:KeepsWalks W w4:=((hk2.trans (KeepsWalks.alloc _ _)).trans (KeepsWalks.of_grownBy U (ownsRow_not_walk_a (y.alloc _)))).trans (by rw[<-hw4];exact KeepsWalks.setCell _ _ _);refine⟨_,_,run_endRound none hL4,rfl,⟨⟨_,(ahK hBl).trans hv4,?_⟩,World.putObj_heap_same hl4,(ahK hDl).trans hK4,X.grown (ahO _ _ _) X.size (λk e=>by cases e;exact h0l)⟩,hk4.trans (KeepsWalks.putObj _ hL4 rfl)⟩;have:=hrow4.kept (ahO w4 l (.loop {{apR fn sv u D .ready none with state:=.busy}with state:=if (none:Option Code).isNone then .ready else .done,pending:=none})) (ahW hrow4 hL4 (λR e=>by cases e))
 rw[a6W]
 simpa using this
def appendSeq_in(F:Fence)(n:Nat)(J:F.fn 249)(t:F.round=none)(hn:2<=n)(g:Nat)(f:Array Value)(hFg:F.fn g)(eg:∀m w,(callFunc g m).run ah.prog w=.ok (.enter g m) w)(S:List aX->Prop)(N:Nat)(Z:N<=4194304)(w:World)(s:SeqGives F (n-1) ah.prog g f eQ S N w):
  CallsIn F n ah.prog 249 #[.slice none 0 0,.func (.func g) #[] f] w λe L=>∃(v:Value)(C:List aX),e=.returned v/\S C/\L.ownsRow w.heap.size 80 3 v C.length (aJ C)/\ah' w L:=by
 have h1:1<=n:=by omega
 have R:(27:Nat)≠80:=by decide
 refine callsIn_of_wp_marks aml rfl J ?_ t;simp only[ntmps249,agZ,ag4,age,Nat.reduceAdd,Nat.reduceSub,Array.replicate_succ,Array.replicate_zero,List.push_toArray,List.append_toArray,List.nil_append,agN]
 gi_wp2
 refine wpIn_rangeFunc ?_;intro r I
 rw[t]
 obtain⟨a,i⟩:∃a,w.alloc (.cells #[.slice none 0 0] 27)=a:=⟨_,rfl⟩;have H:a.heap.size=w.heap.size+1:=by rw[<-i];simp
 have G:a.heap[w.heap.size]? =some (.cells #[.slice none 0 0] 27 (0,0)):=by rw[<-i];exact ahS w _
 have A:ah' w a:=by rw[<-i];exact(a0n _ w).alloc (afA _) _
 rw[i]
 obtain⟨d,b⟩:∃d,(a.alloc (.deferred (some []))).alloc (.loop (apR r (.func (.func g) #[] f) w.heap.size a.heap.size .ready none))=d:=⟨_,rfl⟩
 have u:∀k,k<a.heap.size->d.heap[k]? =a.heap[k]? :=λk U=>by rw[<-b];exact(ahL _ _ k (by simp;omega)).trans (ahL _ _ k U)
 have o:ah' w d:=by rw[<-b];exact(A.alloc A.size _).alloc (by simp<;>omega) _
 have Q:d.heap.size=a.heap.size+2:=by rw[<-b];simp
 have hM:ApAt w r (.func (.func g) #[] f) w.heap.size (a.heap.size+1) a.heap.size [] d:=
  ⟨⟨_,(u w.heap.size (by omega)).trans G,⟨rfl,.inl ⟨rfl,rfl⟩⟩⟩,
   by rw[<-b];have:=ahS (a.alloc (.deferred (some []))) (.loop (apR r (.func (.func g) #[] f) w.heap.size a.heap.size .ready none));rwa[World.size_alloc]at this,
   by rw[<-b];exact(ahL _ _ _ (by simp)).trans (ahS a _),o⟩
 refine⟨a.heap.size+1,[{target:=.collected a.heap.size,args:=#[]}],d,{target:=.fn (.func g) f,args:=#[.func (.yield (a.heap.size+1)) #[] #[]]},d,g,
  #[.func (.yield (a.heap.size+1)) #[] #[]]++f,d,?_,?_,?_,?_,λ_=>h1,?_⟩
 ·rw[<-b];exact run_enterLoop_outer _ _ _ _ _
 ·simp[resolve,go_sem]
 ·grind[Target.leads]
 ·simp[invoke,go_sem,eg]
 ·refine(s (a.heap.size+1) (ApAt w r (.func (.func g) #[] f) w.heap.size (a.heap.size+1) a.heap.size) d o (ap_abides _ _ _ _ _ _ _ o.size)
   (λD x W hJ T=>apYield F (n-1-1) w r I _ w.heap.size (a.heap.size+1) a.heap.size (by omega) (by omega) (by omega) (afA _) (by omega) N Z D x W hJ T) hM).mono ?_
  rintro e M ⟨⟨v0,rfl⟩,C,Y,q⟩;obtain⟨v,O,j⟩:=q.box;have l:=run_endLoop (P:=ah.prog) q.L (by simp[apR]);obtain⟨p,h⟩:∃p,M.putObj (a.heap.size+1) (.loop {apR r (.func (.func g) #[] f) w.heap.size a.heap.size .ready none with state:=.exhausted})=p:=⟨_,rfl⟩
  rw[h]at l
  have y:M.grownBy p (some (a.heap.size+1)):=by rw[<-h];exact ahO _ _ _
  have E:p.heap[w.heap.size]? =some (.cells #[v] 27 (0,0)):=by rw[<-h];exact(ahK (by omega)).trans O
  have B:p.heap[a.heap.size]? =some (.deferred (some [])):=by rw[<-h];exact(ahK (by omega)).trans q.K
  have c:=j.kept y (ahW j q.L (λK e=>by cases e));have z:ah' w p:=q.below.grown y q.below.size (λk e=>by cases e;omega);obtain⟨X,V⟩:=cell_of_box_a E;refine⟨none,p,l,?_⟩
  gi_wp2
  rw[<-H]
  refine⟨by simp,.inl ⟨_,_,rfl,run_takeDeferred B,?_⟩⟩
  exact⟨_,results_tmp rfl _ _ _,v,C,rfl,Y,c.kept (ahO _ _ _) (ahW c B (λK e=>by cases e)),z.grown (ahO _ _ _) z.size (λk e=>by cases e;omega)⟩
end Go.Proofs.Zq
namespace Go.Proofs
open Go.Shelf
def ah.OX:Go.Shelf.Ren:=⟨fun|6=>204|15=>239|14=>250|28=>274|29=>275|20=>282|21=>283|22=>284|23=>285|24=>286|25=>287|26=>288|27=>289|46=>310|47=>303|48=>304|49=>311|50=>312|57=>329|n=>n,fun|22=>27|24=>80|25=>213|3=>3|39=>143|0=>0|53=>317|55=>319|4=>4|46=>311|45=>310|50=>246|5=>5|9=>9|66=>340|70=>344|76=>359|77=>360|n=>n,fun|n=>n⟩
def ah.a3q:Go.Proofs.SlLaysF0.n6 ah.prog ah.OX:={
 mixed:=by kernel_rfl
 f6:=⟨Tryz.f204.name,by decide,aku.trans (congrArg some (by kernel_rfl))⟩
 f14:=⟨Tryz.f250.name,by decide,akB.trans (congrArg some (by kernel_rfl))⟩
 f15:=aiV.trans (congrArg some (by kernel_rfl))
 f20:=⟨Tryz.f282.name,by decide,akG.trans (congrArg some (by kernel_rfl))⟩
 f21:=⟨Tryz.f283.name,by decide,amz.trans (congrArg some (by kernel_rfl))⟩
 f22:=⟨Tryz.f284.name,by decide,amA.trans (congrArg some (by kernel_rfl))⟩
 f23:=⟨Tryz.f285.name,by decide,amB.trans (congrArg some (by kernel_rfl))⟩
 f24:=⟨Tryz.f286.name,by decide,amC.trans (congrArg some (by kernel_rfl))⟩
 f25:=⟨Tryz.f287.name,by decide,amD.trans (congrArg some (by kernel_rfl))⟩
 f26:=⟨Tryz.f288.name,by decide,amE.trans (congrArg some (by kernel_rfl))⟩
 f27:=⟨Tryz.f289.name,by decide,amF.trans (congrArg some (by kernel_rfl))⟩
 f28:=aiY.trans (congrArg some (by kernel_rfl))
 f29:=aiZ.trans (congrArg some (by kernel_rfl))
 f46:=⟨Tryz.f310.name,by decide,amM.trans (congrArg some (by kernel_rfl))⟩
 f47:=ajy.trans (congrArg some (by kernel_rfl))
 f48:=ajz.trans (congrArg some (by kernel_rfl))
 f49:=⟨Tryz.f311.name,by decide,amN.trans (congrArg some (by kernel_rfl))⟩
 f50:=⟨Tryz.f312.name,by decide,amO.trans (congrArg some (by kernel_rfl))⟩
 f57:=⟨Tryz.f329.name,by decide,amY.trans (congrArg some (by kernel_rfl))⟩
 t0:=Qu0
 a0:=Qa0
 z0:=Qs0
 v0:=Qz0
 t3:=Qu3
 a3:=Qa3
 z3:=Qs3
 v3:=Qz3
 t4:=Qu4
 a4:=Qa4
 z4:=Qs4
 v4:=Qz4
 t5:=Qu5
 a5:=Qa5
 z5:=Qs5
 v5:=Qz5
 t9:=Qu9
 a9:=Qa9
 z9:=Qs9
 v9:=Qz9
 t22:=aiN
 a22:=anQ
 z22:=anP
 v22:=anO
 t25:=anc
 a25:=ang
 z25:=anf
 v25:=ane
 t39:=aj0
 a39:=aj3
 z39:=aj2
 v39:=aj1
 t45:=ajI
 a45:=ajL
 z45:=ajK
 v45:=ajJ
 t46:=ajM
 a46:=ajP
 z46:=ajO
 v46:=ajN
 t50:=ajE
 a50:=ajH
 z50:=ajG
 v50:=ajF
 t53:=aj6
 a53:=aj9
 z53:=aj8
 v53:=aj7
 t55:=aja
 a55:=ajd
 z55:=ajc
 v55:=ajb
 t66:=ajQ
 a66:=ajT
 z66:=ajS
 v66:=ajR
 t70:=ajU
 a70:=ajX
 z70:=ajW
 v70:=ajV
 t76:=ajY
 a76:=ak0
 z76:=aj'
 v76:=ajZ
 t77:=ak1
 a77:=ak4
 z77:=ak3
 v77:=ak2}
def ah.Wd:Go.Shelf.Ren:=⟨fun|10=>196|6=>241|n=>n,fun|22=>28|23=>9|25=>145|3=>3|4=>4|0=>0|n=>n,fun|n=>n⟩
def ah.a9k:Go.Proofs.SlLaysH.n10 ah.prog ah.Wd:={
 mixed:=by kernel_rfl
 f6:=⟨Tryz.f241.name,by decide,akz.trans (congrArg some (by kernel_rfl))⟩
 f10:=⟨Tryz.f196.name,by decide,ako.trans (congrArg some (by kernel_rfl))⟩
 t0:=Qu0
 a0:=Qa0
 z0:=Qs0
 v0:=Qz0
 t3:=Qu3
 a3:=Qa3
 z3:=Qs3
 v3:=Qz3
 t4:=Qu4
 a4:=Qa4
 z4:=Qs4
 v4:=Qz4
 t22:=aiO
 a22:=akb
 z22:=aka
 v22:=ak9
 a23:=Qa9
 z23:=Qs9
 t25:=akP
 a25:=akT
 z25:=akS
 v25:=akQ}
end Go.Proofs
namespace Go.Proofs.Zq
open Tryz
open Go.RowKit Go.Sort
open Rl
variable{w:World}{B g:Nat}
namespace Rl
instance:Inhabited aX:=⟨⟨0,0,⟨#[]⟩⟩⟩
def nz(e:aX):List Value:=[.int .i64 e.addr,.int .i64 e.len,.string e.attrs]
def Gu(a b:aX):Int:=if Lib.compareInt a.addr b.addr≠0 then Lib.compareInt a.addr b.addr else Lib.compareInt a.len b.len
theorem EU(a b:aX):ltOf Gu a b=ni a b:=by
 unfold ltOf Gu Lib.compareInt ni E8 ib
 grind
theorem Zg:SWO (ltOf Gu)where
 irrefl x:=by rw[EU];exact El _
 trans x y z b a:=by rw[EU]at*;exact NH b a
 ntrans x y z b a:=by grind[EU,ni,E8]
theorem We(d:Array aX):(flatK nz 3 d).toList=aJ d.toList:=by
 apply ah8;intro t
 by_cases e:t<d.size*3
 ·have j:t/3<d.toList.length:=by simp;omega
  obtain⟨b,c,f⟩:=qE d.toList (t/3) j
  have a:(flatK nz 3 d).toList[t]? =some (nz d[t/3]!)[t%3]! :=by
   have h:=get_flatK nz 3 d t e;have i:t<(flatK nz 3 d).size:=by rw[size_flatK];exact e
   rw[ahb _ t i]at h
   rw[<-h]
   simp
  exact ahp
 simp_all[agR,lX]
theorem QN(d:Array aX)(j:Nat)(h:j<d.size*3):(aJ d.toList)[j]? =some (flatK nz 3 d)[j]! :=by
 have a:j<(flatK nz 3 d).size:=by rw[size_flatK];exact h
 grind[We]
theorem N8{n b:Nat}{e:TypeId}{l:List aX}(h:w.ownsRow B e 3 (.slice (some ⟨g,0,none⟩) n b) n (aJ l))(d:n=l.length):HoldsK nz 3 w g 0 l.toArray:=by
 subst d;intro j c;have a:j<l.length*3:=by rw[size_flatK]at c;simpa using c
 refine⟨?_,?_⟩
 ·rw[agj,h.cellAt j a,id]
  exact QN l.toArray j (by omega)
 ·rw[agj];exact h.frozenAt j
theorem SG{n f:Nat}{e:TypeId}{l:List aX}(h:w.ownsRow B e 3 (.slice (some ⟨g,0,none⟩) n f) n (aJ l))(m:Nat)(i:Array aX)(os:Array Obj)(u:i.size=n):
  (sortWorldK nz 3 w g 0 m i os).ownsRow B e 3 (.slice (some ⟨g,0,none⟩) n f) n (aJ i.toList):=by
 obtain⟨q,_⟩|⟨y,s,p,q,v,a,k,r,o,x⟩:=h.2
 ·simp at q
 ·simp only[ahR,ag1,Addr.mk.injEq,and_true,true_and]at q
  obtain⟨rfl,rfl⟩:=q;have d:g<w.heap.size:=(afD.1 a).1;refine⟨by rw[lX];simp[u],.inr ⟨g,f,putCells id 0 (flatK nz 3 i) p,rfl,v,?_,k,r,by simp[putCells,o],?_⟩⟩
  ·exact BZ
  ·apply ah8
   intro j
   by_cases t:j<n*3
   ·rw[List.getElem?_take_of_lt t,QN i j (by omega)]
    have b:j<p.size:=by rw[o];have:=Nat.mul_le_mul_right 3 k;omega
    have c:j<(flatK nz 3 i).size:=by rw[size_flatK];omega
    exact Ca
   ·grind[agR,lX]
theorem OY(c:B<=g)(b:g<w.heap.size)(m:Nat)(a:Array aX)(os:Array Obj):Below B w (sortWorldK nz 3 w g 0 m a os):=BX
theorem Wh{a b:List aX}(h:uE a)(f:uE b)(e:a.Perm b):a=b:=
 List.Perm.eq_of_pairwise (λx y _ _ d c=>by rw[ni]at d c;rw[YP d]at c;cases c) h f e
theorem Wi(l c:List aX)(a:Array aX)(f:l.Perm c)(n:uE c)(s:PermIn 0 l.toArray.size l.toArray a)(r:SortedIn (ltOf Gu) 0 l.toArray.size a):a.toList=c:=by
 obtain⟨p,_,o⟩:=s;have x:l.toArray.extract 0 l.toArray.size=l.toArray:=by simp
 have v:a.extract 0 l.toArray.size=a:=by rw[<-p];simp
 rw[x,v]at o
 have b:a.toList.Perm c:=(show a.toList.Perm l by simpa using o).trans f;refine Wh ?_ n b;have m:(c.map ib).Nodup:=List.pairwise_map.2 (Qu n);have t:(a.toList.map ib).Nodup:=((b.map _).nodup_iff).2 m;unfold uE
 rw[agl]
 intro i j z y d;have q:a.size=l.toArray.size:=p;have h:=r i j (afK _) d (by grind)
 rw[EU,ahb a i (by omega),ahb a j (by omega)]at h
 have k:ib a[i]≠ib a[j]:=by
  have u:=agl.1 t i j (by grind) (by grind) d
  simpa using u
 simp only[Array.getElem_toList];exact NI (λe=>k e.symm) h
end Rl
theorem abp(g c:Nat)(x y:Int)(w:World)(J:w.cell? ⟨g,0,none⟩=some (.int .i64 x))(h1:w.cell? ⟨g,1,none⟩=some (.int .i64 y)):
  ai3 206 #[.slice (some ⟨g,0,none⟩) 2 c] w λe w'=>e=.returned (.int .i64 (if x≠0 then x else y))/\w'=w:=by
 by_cases hx:x=0
 ·subst hx
  by_cases d:y=0
  ·subst d
   go_enter ajq,ntmps206;go_wp2;refine ahF 3 ?_
   rw[ahG]
   go_wp2
   rw[ahG]
   go_wp2
   rw[ahG]
   exact cB
  ·have u:¬(y=0):=d
   go_enter ajq,ntmps206;go_wp2;refine ahF 3 ?_
   rw[ahG]
   go_wp2
   rw[ahG]
   exact cB
 ·rw[afN hx]
  go_enter ajq,ntmps206;go_wp2;refine ahF 3 ?_
  rw[ahG]
  exact cB
theorem abq(w:World)(o:Obj){a b c k j l:Value}{d:World}(i:G7 (w.alloc o) w.heap.size a b c)(f:G7 d (w.alloc o).heap.size k j l)(h:d.heap[w.heap.size]? =(w.alloc o).heap[w.heap.size]?):
  d.cell? ⟨w.heap.size,0,none⟩=some a/\d.cell? ⟨w.heap.size,1,none⟩=some b/\d.cell? ⟨w.heap.size+1,0,none⟩=some k/\d.cell? ⟨w.heap.size+1,1,none⟩=some j:=by
 have e:(w.alloc o).heap.size=w.heap.size+1:=by simp
 rw[e]at f
 exact⟨(ahz (a:=⟨w.heap.size,0,none⟩) h).trans i.c0,(ahz (a:=⟨w.heap.size,1,none⟩) h).trans i.c1,f.c0,f.c1⟩
theorem Zh(x y:aX)(w:World):ai3 154 #[.agg (nz x).toArray,.agg (nz y).toArray] w λe a=>e=.returned (.int .i64 (Gu x y))/\∃q os',a=grow (w.drewN q) os':=by
 obtain⟨R,j⟩:∃R,R=Gu x y:=⟨_,rfl⟩
 have i:∀(g c:Nat)(b:World),b.cell? ⟨g,0,none⟩=some (.int .i64 (Lib.compareInt x.addr y.addr))->b.cell? ⟨g,1,none⟩=some (.int .i64 (Lib.compareInt x.len y.len))->ai3 206 #[.slice (some ⟨g,0,none⟩) 2 c] b λe a=>e=.returned (.int .i64 R)/\a=b:=λg c b m l=>by
  have h:=abp g c _ _ b m l;have e:(if Lib.compareInt x.addr y.addr≠0 then Lib.compareInt x.addr y.addr else Lib.compareInt x.len y.len)=R:=by rw[j];rfl
  rwa[e]at h
 rw[<-j]
 clear j;unfold nz;go_enter akj,ntmps154;go_wp2_with fail;obtain⟨os,f⟩:∃os,((w.alloc (.cells #[.int .i64 x.addr,.int .i64 x.len,.string x.attrs] 80)).alloc (.cells #[.int .i64 y.addr,.int .i64 y.len,.string y.attrs] 80))=grow w os:=⟨_,by rw[alloc_eq_grow,alloc_eq_grow,grow_grow]⟩;have d:w.heap.size<(w.alloc (.cells #[.int .i64 x.addr,.int .i64 x.len,.string x.attrs] 80)).heap.size:=by simp
 have k:=abq w (.cells #[.int .i64 x.addr,.int .i64 x.len,.string x.attrs] 80) (mD w (.int .i64 x.addr) (.int .i64 x.len) (.string x.attrs) 80) (mD (w.alloc (.cells #[.int .i64 x.addr,.int .i64 x.len,.string x.attrs] 80)) (.int .i64 y.addr) (.int .i64 y.len) (.string y.attrs) 80) ((aL _ _).block _ d);have n:=hide f;clear f d;generalize ((w.alloc (.cells #[.int .i64 x.addr,.int .i64 x.len,.string x.attrs] 80)).alloc (.cells #[.int .i64 y.addr,.int .i64 y.len,.string y.attrs] 80))=o at*
 go_region_held (λa=>a.cell? ⟨w.heap.size,0,none⟩=some (.int .i64 x.addr)/\a.cell? ⟨w.heap.size,1,none⟩=some (.int .i64 x.len)/\a.cell? ⟨w.heap.size+1,0,none⟩=some (.int .i64 y.addr)/\a.cell? ⟨w.heap.size+1,1,none⟩=some (.int .i64 y.len))
  (first|assumption|exact k|go_keep)
  (first
  |(go_at_call 207;refine(ah.cmp_Compare_int _ _ _).ai ?_;intro a rfl)
  |(go_at_call 206;refine(i _ _ _ (by simp) (by simp)).ai ?_;intro a rfl))
 all_goals
  go_wp2_with fail;go_ret
  exact⟨rfl,1,_,by rw[n.out,alloc_eq_grow];exact grow_grow (w.drewN 1) os _⟩
theorem KS(p:Option Addr)(d:Nat)(u:Value)(w:World):
  ai3 282 #[.slice p 0 d,.int .i64 0,.int .i64 0,u] w λe w'=>e=.returned (.tuple #[])/\w'=w:=by
 go_enter akG,ntmps282;go_wp2;refine ahF 1 ?_
 rw[ahG]
 go_wp2
 go_end0
 exact bG
theorem a3r(p:Option Addr)(d:Nat)(u:Int)(y:Value)(w:World):
  ai3 250 #[.slice p 0 d,.int .i64 0,.int .i64 0,.int .i64 u,y] w λe w'=>e=.returned (.tuple #[])/\w'=w:=by
 go_enter akB,ntmps250;go_wp2;refine ahF 1 ?_
 rw[ahG]
 go_wp2_with (go_at_call 282;refine(KS p d y _).aH ?_)
 (try simp only[Exit.inBlock,Exit.then]);refine abt (ahA rfl _ _ _) rfl ?_
 exact bG
theorem Zi(p:Option Addr)(d:Nat)(u:Value)(w:World):
  ai3 204 #[.slice p 0 d,u] w λe w'=>e=.returned (.tuple #[])/\w'=w:=by
 go_enter aku,ntmps204;go_wp2_with (first|(go_at_call 239;refine(ah.bits_Len 0 _ (by omega) (by omega)).aH ?_)|(go_at_call 250;refine(a3r p d _ u _).aH ?_))
 go_end0
 exact bG
theorem a3s(B:Nat)(v:Value)(l h:List aX)(w:World)(K:l.length<=4194304)(p:l.Perm h)(A:uE h)(a:w.ownsRow B 80 3 v l.length (aJ l)):
  ai3 204 #[v,.func (.func 154) #[] #[]] w λe j=>e=.returned (.tuple #[])/\j.ownsRow B 80 3 v h.length (aJ h)/\Below B w j:=by
 have f:=a.2;obtain⟨rfl,D⟩|⟨g,s,J,rfl,F,E,C,G,_,_⟩:=f
 ·have q:l=[]:=afT D
  subst q;have H:h=[]:=p.nil_eq.symm;subst H;refine(Zi none 0 _ w).mono ?_;rintro e j ⟨r,k⟩
  rw[k]
  exact⟨r,a,a0n _ _⟩
 ·have i:g<w.heap.size:=(afD.1 E).1
  have I:∀d w,(callFunc 154 d).run ah.prog w=.ok (.enter 154 d) w:=ahP akj (by kernel_rfl) rfl;have b:=AnyQ.slices_SortFunc ah.a3q 3 anU anT nz (λ_=>rfl) (λx v t=>by simp[nz]at t;obtain rfl|rfl|rfl:=t<;>rfl) Gu Zg 154 #[] g 0 s l.toArray w I (λ_ _ _ _ x y=>Zh x y _) (N8 a rfl) i (by simp;omega)
  change ai3 204 _ _ _ at b
  rw[show l.toArray.size=l.length from by simp]at b
  refine b.mono ?_;rintro e j ⟨r,m,n,os,o,z,k⟩;have u:=Wi l h m p A (by simpa using o) (by simpa using z);have c:m.toList.length=l.length:=by rw[u];exact p.length_eq.symm
  refine⟨r,?_,?_⟩
  ·rw[k,<-u,c]
   exact SG a n m os (by simpa using c)
  ·rw[k];exact OY F i n m os
open Go.RowKit
open Go.WideMaps
theorem abr{a c:World}{j i f e:Addr}{m l v0 k:Value}{b:Nat}(h:a.cell? j=some m/\a.cell? i=some l/\a.cell? f=some v0/\a.cell? e=some k)(d:a.grownBy c (some b))(n:j.block≠b/\i.block≠b/\f.block≠b/\e.block≠b):
  c.cell? j=some m/\c.cell? i=some l/\c.cell? f=some v0/\c.cell? e=some k:=
 ⟨d.cell h.1 (by grind),d.cell h.2.1 (by grind),d.cell h.2.2.1 (by grind),d.cell h.2.2.2 (by grind)⟩
theorem a3t(w:World)(Q o b n:Nat)(D:DataW Value)(vg va:Value)(l:List aX)(u:Upd)(hg:bz w vg u.gone.length 2 (bO u.gone))(ha:bz w va u.come.length 2 (bO u.come))(c0:w.cell? ⟨Q,o,none⟩=some (.bool true))(c1:w.cell? ⟨Q,o+1,none⟩=some (.map (some b)))(lt:Q<w.heap.size)(hQb:Q≠b)(F:w.ownsMap ah.prog 113 RE b n D)(N:vY D l)(hl:VJ l 4194304)(hgl:u.gone.length<=1000000)(hal:u.come.length<=1000000)(hgf:∀p∈u.gone,ve p)(haf:∀p∈u.come,ve p)(hln:l.length+u.come.length<=4194304)(hgb:∀k,vg.ownBlock=some k->k≠b)(hab:∀k,va.ownBlock=some k->k≠b):
  ai3 202 #[.pointer (some ⟨Q,o,none⟩),.agg #[vg,va,.string ⟨u.text.toArray⟩]] w λe w'=>e=.returned (.tuple #[])/\
   ∃D' n',w'.ownsMap ah.prog 113 RE b n' D'/\vY D' (kR l u)/\dJ (λk=>k=b) w w':=by
 obtain⟨ag,cg,rfl⟩:=ES hg;obtain⟨aa,ca,rfl⟩:=ES ha;obtain⟨T,hT⟩:∃T:ByteArray,T=⟨u.text.toArray⟩:=⟨_,rfl⟩;have HU:Hid (kR l u=vX T (nu l u.gone) u.come):=by rw[Hid,hT];rfl
 rw[<-hT]
 clear hT;generalize u.gone=y at*;generalize u.come=d at*;have ba:=aL w (.cells #[.slice ag y.length cg,.slice aa d.length ca,.string T] 218);have bx:=mD w (.slice ag y.length cg) (.slice aa d.length ca) (.string T) 218;have HG:=hg.later ba;have G:=hide (ha.later ba);have HT0:=hide (dJ.aK (S:=λk=>k=b) ba);have hblt:=F.lt;have L:=F.alloc (.cells #[.slice ag y.length cg,.slice aa d.length ca,.string T] 218);have c01:=(ba.cell (p:=⟨Q,o,none⟩) lt).trans c0;have c11:=(ba.cell (p:=⟨Q,o+1,none⟩) lt).trans c1;have V:=afB lt ba.size;have hnb:w.heap.size≠b:=by omega
 have hnQ:w.heap.size≠Q:=by omega
 have HGF:=hide hgf;have HAF:=hide haf;have v:=hide hgb;have HAB:=hide hab;have HOL:=hide hl;have HD0:=hide N;clear hg ha ba F c0 c1 lt hgf haf hgb hab hl N;go_enter akt,ntmps202;go_wp2_with fail;generalize w.alloc (.cells #[.slice ag y.length cg,.slice aa d.length ca,.string T] 218)=w1 at*
 go_loopw [11] (λi wr=>∃(k:Nat)(D':DataW Value)(n':Nat),k<=y.length/\i=.int .i64 k/\wr.ownsMap ah.prog 113 RE b n' D'/\vY D' (nu l (y.take k))/\dJ (λj=>j=b) w1 wr) (λi _=>y.length-(intOf i).toNat)
 case atStart=>exact⟨0,D,n,afK _,rfl,L,HD0.out,dJ.refl _ _⟩
 case round=>
  obtain⟨k,D',n',R,rfl,F,N,E⟩:=hrel;have bl:=bx.lt;obtain⟨O,b1,b2,_,_,_,bl2⟩:=bx.same (E.block _ bl hnb) E.size;have e1:=(E.cell (p:=⟨Q,o+1,none⟩) V hQb).trans c11;have U:=afB V E.size
  by_cases Z:k<y.length
  ·have W:=iQ HG E (λj hj e=>v.out j hj e)
   have hgx:=v.out;obtain⟨_,_,_,J⟩|⟨g,og,cap,e,_,hbk,M⟩:=W.2
   ·omega
   ·cases e
    obtain⟨g1,g2⟩:=kX y k Z;have q0:wr.cell? ⟨g,og+k*2,none⟩=_:=M _ _ g1;have q1:wr.cell? ⟨g,og+k*2+1,none⟩=_:=M _ _ g2;have HS:=hide (QJ (l:=l) Z);have hol:=HOL.out.gone (y.take k);have Y:=(HGF.out _ (afS Z)).i64;have hx:(k:Int)<(y.length:Int):=by omega
    have hk0:(0:Int)<=(k:Int):=by omega
    have I:=hide (N.del hol.ord y[k] Y);have a:=hide E;have hbr:=F.lt;clear M g1 g2 L E N W hgx;generalize y[k]=p at*;generalize nu l (y.take k)=l2 at*;obtain⟨pa,pl⟩:=p;have hown2:=(F.alloc (.cells #[.int .i64 pa,.int .i64 pl] 113)).drew;have f1:=(((a0n _ wr).alloc (afA _) (.cells #[.int .i64 pa,.int .i64 pl] 113)).drew.cell (p:=⟨Q,o+1,none⟩) U).trans e1;have hwb:wr.heap.size≠b:=by omega
    go_upto_region 5 with fail
    go_region_held_law (λw'=>w'.cell? ⟨Q,o+1,none⟩=some (.map (some b))/\w'.cell? ⟨wr.heap.size,0,none⟩=some (.int .i64 pa)/\w'.cell? ⟨wr.heap.size,1,none⟩=some (.int .i64 pl)/\w'.cell? ⟨Q,o+1,none⟩=some (.map (some b)))
     (first|assumption|(exact⟨f1,by simp,by simp,f1⟩)|(exact abr (by assumption) (by assumption) ⟨hQb,hwb,hwb,hQb⟩))
     (first|(refine V8 rfl (.tmp 18) (.tmp 19) rfl b n' D' (pa,pl) Y rfl rfl hown2 ?_;intro w5 X hg5))
    go_wp2_with fail;refine⟨⟨k+1,_,_,by omega,by go_num,X,by rw[HS.out];exact I.out,((a.out.alloc _).drew).grown hg5 (λj hj=>.inl (by injection hj with hj;exact hj.symm))⟩,aA⟩
  ·have e:k=y.length:=by omega
   subst e
   rw[ag8]at N
   have hx:¬(y.length:Int)<(y.length:Int):=by omega
   have hol:=HOL.out.gone y;have hgn:=Jy y l;have I:=hide N;have a:=hide E;have HOW:=hide F;clear N E F L;go_wp2_with fail
   go_loopw [24] (λi wr=>∃(k:Nat)(D':DataW Value)(n':Nat),k<=d.length/\i=.int .i64 k/\wr.ownsMap ah.prog 113 RE b n' D'/\vY D' (vX T (nu l y) (d.take k))/\dJ (λj=>j=b) w1 wr) (λi _=>d.length-(intOf i).toNat)
   case atStart=>exact⟨0,D',n',afK _,rfl,HOW.out,I.out,a.out⟩
   case round=>
    obtain⟨k,D2,n2,R,rfl,F,N,E⟩:=hrel;clear HOW I a O b1 b2 e1 U bl2;obtain⟨O,b1,b2,_,_,_,bl2⟩:=bx.same (E.block _ bl hnb) E.size;have e0:=(E.cell (p:=⟨Q,o,none⟩) V hQb).trans c01;have e1:=(E.cell (p:=⟨Q,o+1,none⟩) V hQb).trans c11;have U:=afB V E.size
    by_cases Z:k<d.length
    ·have W:=iQ G.out E (λj hj e=>HAB.out j hj e)
     obtain⟨_,_,_,J⟩|⟨g,og,cap,e,_,hbk,M⟩:=W.2
     ·omega
     ·cases e
      obtain⟨g1,g2⟩:=kX d k Z;have q0:wr.cell? ⟨g,og+k*2,none⟩=_:=M _ _ g1;have q1:wr.cell? ⟨g,og+k*2+1,none⟩=_:=M _ _ g2;have HS:=hide (QK (t:=T) (l:=nu l y) Z);have abt:=hol.come T (d.take k) (λp hp=>HAF.out p (List.mem_of_mem_take hp));have hcl:=QL T (nu l y) (d.take k);have hlk:(d.take k).length<=k:=List.length_take_le _ _;have Y:xx (ib ⟨d[k].1,d[k].2,T⟩):=(HAF.out _ (afS Z)).i64;have hx2:(k:Int)<(d.length:Int):=by omega
      have hk0:(0:Int)<=(k:Int):=by omega
      have hcount:=N.count abt.ord abt.fit F;have I:=hide (N.put F.isMap abt.ord ⟨d[k].1,d[k].2,T⟩ Y)
      have hbP:∀wx,ah' wr wx->ai3 200 #[.pointer (some ⟨Q,o,none⟩),.agg #[.int .i64 d[k].1,.int .i64 d[k].2,.string T]] wx λe w'=>e=.returned (.tuple #[])/\∃n',w'.ownsMap ah.prog 113 RE b n' (D2.put (kl (ib ⟨d[k].1,d[k].2,T⟩)) (.held (eQ ⟨d[k].1,d[k].2,T⟩)))/\dJ (λk=>k=b) wx w':=λwx r=>
       V9 wx Q o b n2 D2 ⟨d[k].1,d[k].2,T⟩ ((r.cell (p:=⟨Q,o,none⟩) U).trans e0) ((r.cell (p:=⟨Q,o+1,none⟩) U).trans e1) (afB U r.size) (dJ.map (S:=λ_=>False) F (dJ.aK r) (λx=>x)) (by omega) Y
      have HPP:=hide hbP;have a:=hide E;clear M g1 g2 E N W hbP F;generalize d[k]=p at*;obtain⟨pa,pl⟩:=p;go_wp2_with (go_at_call 200;refine(HPP.out _ (by first|exact aL wr _|exact(aL wr _).drew)).ai ?_;rintro w5 ⟨n5,X,C⟩);refine⟨⟨k+1,_,_,by omega,by go_num,X,by rw[HS.out];exact I.out,(a.out.alloc _).trans C (λj hj=>.inl hj)⟩,aA⟩
    ·have e:k=d.length:=by omega
     subst e
     rw[ag8]at N
     have hx2:¬(d.length:Int)<(d.length:Int):=by omega
     have I:=hide N;have a:=hide E;clear N E;go_wp2_with fail
     refine aqr ?_
     rw[HU.out]
     exact⟨rfl,D2,⟨n2,F⟩,I.out,HT0.out.trans a.out (λj hj=>.inl hj)⟩
theorem Wj(w:World)(Q o:Nat)(vg va:Value)(u:Upd)(hg:bz w vg u.gone.length 2 (bO u.gone))(ha:bz w va u.come.length 2 (bO u.come))(c0:w.cell? ⟨Q,o,none⟩=some (.bool false))(c1:w.cell? ⟨Q,o+1,none⟩=some (.map none))(lt:Q<w.heap.size)(hgl:u.gone.length<=1000000)(hal:u.come.length<=1000000)(hgf:∀p∈u.gone,ve p):
  ai9 202 #[.pointer (some ⟨Q,o,none⟩),.agg #[vg,va,.string ⟨u.text.toArray⟩]] w (.tuple #[]):=by
 obtain⟨ag,cg,rfl⟩:=ES hg;obtain⟨aa,ca,rfl⟩:=ES ha;generalize (⟨u.text.toArray⟩:ByteArray)=T at*;generalize u.gone=E at*;generalize u.come=y at*;have N:=aL w (.cells #[.slice ag E.length cg,.slice aa y.length ca,.string T] 218);have bx:=mD w (.slice ag E.length cg) (.slice aa y.length ca) (.string T) 218;have HG:=hg.later N;have G:=hide (ha.later N);have HB0:=hide N;have Y:=N.size;have c01:=(N.cell (p:=⟨Q,o,none⟩) lt).trans c0;have c11:=(N.cell (p:=⟨Q,o+1,none⟩) lt).trans c1;have I:=afB lt N.size;have HGF:=hide hgf;go_enter akt,ntmps202;go_wp2_with fail;generalize w.alloc (.cells #[.slice ag E.length cg,.slice aa y.length ca,.string T] 218)=w1 at*
 go_loopw [11] (λi wr=>∃(k:Nat),k<=E.length/\i=.int .i64 k/\ah' w1 wr) (λi _=>E.length-(intOf i).toNat)
 case atStart=>exact⟨0,afK _,rfl,a0n _ _⟩
 case round=>
  obtain⟨k,R,rfl,hb⟩:=hrel;obtain⟨O,b1,b2,_,_,_,bl⟩:=bx.later hb;have e1:=(hb.cell (p:=⟨Q,o+1,none⟩) I).trans c11;have F:=afB I hb.size
  by_cases Z:k<E.length
  ·obtain⟨_,_,_,J⟩|⟨g,X,cap,e,_,hbk,M⟩:=(HG.later hb).2
   ·omega
   ·cases e
    obtain⟨g1,g2⟩:=kX E k Z;have q0:wr.cell? ⟨g,X+k*2,none⟩=_:=M _ _ g1;have q1:wr.cell? ⟨g,X+k*2+1,none⟩=_:=M _ _ g2;have hpf:=(HGF.out _ (afS Z)).i64;have hx:(k:Int)<(E.length:Int):=by omega
    have hk0:(0:Int)<=(k:Int):=by omega
    have d:=hide hb;have L:=hb.size;generalize E[k]=p at*;obtain⟨V,U⟩:=p;have f1:=(((a0n _ wr).alloc (afA _) (.cells #[.int .i64 V,.int .i64 U] 113)).drew.cell (p:=⟨Q,o+1,none⟩) F).trans e1
    go_upto_region 5 with fail
    go_region_held_law (λw'=>w'.cell? ⟨Q,o+1,none⟩=some (.map none)/\w'.cell? ⟨wr.heap.size,0,none⟩=some (.int .i64 V)/\w'.cell? ⟨wr.heap.size,1,none⟩=some (.int .i64 U)/\w'=(wr.alloc (.cells #[.int .i64 V,.int .i64 U] 113)).drew)
     (first|assumption|(exact⟨f1,by simp,by simp,rfl⟩))
     (first|(refine KR rfl (.tmp 18) (.tmp 19) rfl (V,U) hpf rfl rfl ?_))
    go_wp2_with fail
    exact⟨⟨k+1,by omega,by go_num,af d.out (by exact(aL wr _).drew) L⟩,aA⟩
  ·have e:k=E.length:=by omega
   subst e;have hx:¬(E.length:Int)<(E.length:Int):=by omega
   have d:=hide hb;go_wp2_with fail
   go_loopw [24] (λi wr=>∃(k:Nat),k<=y.length/\i=.int .i64 k/\ah' w1 wr) (λi _=>y.length-(intOf i).toNat)
   case atStart=>exact⟨0,afK _,rfl,d.out⟩
   case round=>
    obtain⟨k,R,rfl,hb⟩:=hrel;obtain⟨O,b1,b2,_,_,_,bl⟩:=bx.later hb;have e0:=(hb.cell (p:=⟨Q,o,none⟩) I).trans c01;have F:=afB I hb.size
    by_cases Z:k<y.length
    ·obtain⟨_,_,_,J⟩|⟨g,X,cap,e,_,hbk,M⟩:=(G.out.later hb).2
     ·omega
     ·cases e
      obtain⟨g1,g2⟩:=kX y k Z;have q0:wr.cell? ⟨g,X+k*2,none⟩=_:=M _ _ g1;have q1:wr.cell? ⟨g,X+k*2+1,none⟩=_:=M _ _ g2;have hx2:(k:Int)<(y.length:Int):=by omega
      have hk0:(0:Int)<=(k:Int):=by omega
      have HPP:=hide (λwx(r:ah' wr wx)=>QM wx Q o ⟨y[k].1,y[k].2,T⟩ ((r.cell (p:=⟨Q,o,none⟩) F).trans e0) (afB F r.size));have d:=hide hb;have L:=hb.size;unfold eQ at HPP;generalize y[k]=p at*;obtain⟨V,U⟩:=p;go_wp2_with (go_at_call 200;refine(HPP.out _ (by first|exact aL wr _|exact(aL wr _).drew)).ai ?_;intro w5 W)
      exact⟨⟨k+1,by omega,by go_num,af d.out (af (aL wr _) W (by simp)) L⟩,aA⟩
    ·have e:k=y.length:=by omega
     subst e;have hx2:¬(y.length:Int)<(y.length:Int):=by omega
     have d:=hide hb;go_wp2_with fail
     refine aqr ?_
     exact⟨rfl,af HB0.out d.out Y⟩
end Go.Proofs.Zq
