/-
  Queries: every script of steps, of bulk at most 1048576, leaves the program's disk and the document's alike at each step, Query's answers among them, whatever the schedule of the goroutines that it starts; and the script stays as it is.
-/
import Derived.ClaimOpenTies
import Derived.Deep.DeepWitnessRowRef
import Derived.Leaving
import Derived.Lib.LaidTab
import Derived.SevenTiedAt
import Derived.Test.YtkdjjnkpfpogkaaGreatDoorCards
import Derived.Test.YtkdjjnkpfpogkaaGreatDoorTie
import Derived.Test.YtkdjjnkpfpogkaaGreatDoorK49
set_option maxHeartbeats 8000000
set_option linter.all false
set_option maxRecDepth 100000
namespace Go.Proofs.Zq
open Go.RowKit
open Rl
open Go.Proofs.Zb (Special mask qp xM up upA uS noRoom I5 yE vz)
namespace Rl
variable[Special]
def upS(N:Nat)(b:Addr)(a:Option Addr)(n c:Nat):Option Addr:=match a with
 |none=>none
 |some l=>if n=0/\c=0 then some b else some (upA N l)
def O4(N:Nat)(a:Addr)(o:uU):uU:={o with la:=upS N a o.la o.keep.length o.lc}
def Tc(a:List uU):Prop:=∀o∈a,∀l,o.la=some l->(o.keep.length≠0\/o.lc≠0)->Special.seen l.block=true
variable{N:Nat}{A:Nat->Nat->Bool}{I:Addr}
omit [Special]in
theorem WL(l:Addr)(n c:Nat):noRoom (.slice (some l) n c)=(decide (n=0)&&decide (c=0)):=by cases n<;>cases c<;>rfl
theorem WM{c i:Nat}(b:A c i=true)(a:Option Addr)(n m:Nat)(d:∀l,a=some l->(n≠0\/m≠0)->Special.seen l.block=true):qp N A I c i (.slice a n m)=.slice (upS N I a n m) n m:=by
 unfold qp;cases a with
 |none=>rw[b];rfl
 |some l=>
  rw[b,WL]
  by_cases h:n=0/\m=0
  ·obtain⟨rfl,rfl⟩:=h
   rfl
  ·have f:(true&&(decide (n=0)&&decide (m=0)))=false:=by simp only[agQ,Bool.and_eq_false_iff,agA];omega
   rw[f]
   have e:(Special.seen l.block&& !(n==0&&m==0))=true:=by
    rw[d l rfl (by omega)]
    simp only[agQ,Bool.not_eq_true',Bool.and_eq_false_iff,afW];omega
   unfold xM upS;simp only[afI,ag6,e,agr,afJ h]
theorem yj(c i:Nat)(k:IntKind)(n:Int):qp N A I c i (.int k n)=.int k n:=by simp[qp,noRoom,xM]
theorem QU(c i:Nat)(s:ByteArray):qp N A I c i (.string s)=.string s:=by simp[qp,noRoom,xM]
theorem a9x{c i:Nat}{o:uU}(a:∀r,r<7->A c (i+r)=true)(b:∀l,o.la=some l->(o.keep.length≠0\/o.lc≠0)->Special.seen l.block=true)(r:Nat)(v:Value)(h:(O4 N I o).cells[r]? =some v):
  ∃u,o.cells[r]? =some u/\qp N A I c (i+r) u=v:=by
 have d:r<7:=by
  have:=(afY.1 h).1
  simpa[uU.cells]using this
 match r,d with
 |0,_=>cases h;exact⟨_,rfl,yj _ _ _ _⟩
 |1,_=>cases h;exact⟨_,rfl,yj _ _ _ _⟩
 |2,_=>cases h;exact⟨_,rfl,yj _ _ _ _⟩
 |3,_=>cases h;exact⟨_,rfl,yj _ _ _ _⟩
 |4,_=>cases h;exact⟨_,rfl,QU _ _ _⟩
 |5,_=>cases h;exact⟨_,rfl,QU _ _ _⟩
 |6,_=>cases h;exact⟨_,rfl,WM (a 6 (by omega)) _ _ _ b⟩
 |n+7,h=>omega
theorem a9y(b:List uU):wz (b.map (O4 N I))=wz b:=by
 induction b with
 |nil=>rfl
 |cons a r c=>simp only[List.map_cons,wz,c];rfl
theorem a3U(H:Zb.Rows N A I){o:uU}(h:zg Special.old o)(q:∀l,o.la=some l->(o.keep.length≠0\/o.lc≠0)->Special.seen l.block=true):zg (mask N A I) (O4 N I o):=by
 refine⟨h.a0,h.a1,h.w0,h.w1,?_,?_⟩
 ·refine⟨h.row.1,?_⟩
  obtain⟨x,y,e,i⟩|⟨b,p,C,e,i,E,w⟩:=h.row.2
  ·exact .inl ⟨upS N I o.la o.keep.length o.lc,o.lc,by show Value.slice (upS N I o.la o.keep.length o.lc) o.keep.length o.lc=_;rw[i],i⟩
  ·injection e with s c F
   have a:=q _ s (.inl (by omega))
   have v:upS N I o.la o.keep.length o.lc=some (upA N ⟨b,p,none⟩):=by rw[s];unfold upS;simp only;rw[afJ (by omega)]
   obtain⟨B,t,r,n⟩:=H.rows b a;refine .inr ⟨up N b,p,o.lc,by show Value.slice (upS N I o.la o.keep.length o.lc) o.keep.length o.lc=_;rw[v];rfl,i,by rw[vz];exact(yE H a n).1,λj u k=> ?_⟩;have m:=w j u k;have:=I5 H a m
   rw[this]
   have g:∃z,u=.int .i64 z:=by
    unfold ints at k
    rw[agn]at k
    obtain⟨z,_,rfl⟩:=agi.1 k
    exact⟨z,rfl⟩
   obtain⟨z,rfl⟩:=g
   rw[yj]
 ·intro l e f
  have c:upS N I o.la o.keep.length o.lc=some l:=e;cases d:o.la with
  |none=>rw[d]at c;cases c
  |some D=>
   rw[d]at c
   unfold upS at c;simp only at c
   rw[afJ (by have:o.keep.length≠0\/o.lc≠0:=f;omega)]at c
   cases c;have a:=q _ d f;obtain⟨B,t,r,n⟩:=H.rows _ a
   exact⟨_,t,r,(yE H a n).2⟩
omit [Special]in
theorem Ol:∀(l:List uU)(j:Nat)(h:j<l.length)(r:Nat),r<7->(iy l)[j*7+r]? =l[j].cells[r]? :=by
 intro l j h r a;obtain⟨i,g,f,e,d,c,b⟩:=En l j h
 match r,a with
 |0,_=>exact i
 |1,_=>exact g
 |2,_=>exact f
 |3,_=>exact e
 |4,_=>exact d
 |5,_=>exact c
 |6,_=>exact b
 |n+7,h=>omega
theorem WN(H:Zb.Rows N A I){a:Option Addr}{c:Nat}{d:List uU}(m:bz Special.old (.slice a d.length c) d.length 7 (iy d))(B:Tc d)(F:∀l,a=some l->Special.seen l.block=true/\∀i,l.off<=i->i<l.off+d.length*7->A l.block i=true):
  bz (mask N A I) (.slice (a.map (upA N)) d.length c) (d.map (O4 N I)).length 7 (iy (d.map (O4 N I))):=by
 have o:(d.map (O4 N I)).length=d.length:=ag0 ..;refine⟨qJ _,?_⟩
 rw[o]
 obtain⟨x,y,e,n⟩|⟨b,p,L,e,n,M,E⟩:=m.2
 ·grind
 ·injection e with K P J
  subst K J;obtain⟨f,w⟩:=F _ rfl;obtain⟨Q,t,O,G⟩:=H.rows b f;refine .inr ⟨up N b,p,c,rfl,n,by rw[vz];exact(yE H f G).1,λj u k=> ?_⟩
  have D:j<d.length*7:=by
   have:=(afY.1 k).1
   rwa[qJ,o]at this
  have s:j=j/7*7+j%7:=by omega
  have g:j%7<7:=Nat.mod_lt _ (by omega);have q:j/7<d.length:=by omega
  rw[s,Ol _ _ (by omega) _ g,List.getElem_map]at k
  obtain⟨v,z,C⟩:=a9x (c:=b) (i:=p+j/7*7) (λr m=>w _ (by grind) (by grind)) (B _ (afS q)) _ _ k;have h:=E (j/7*7+j%7) v (by rw[Ol _ _ q _ g];exact z)
  rw[<-Nat.add_assoc]at h
  have:=I5 H f h
  rw[C]at this
  rw[s,<-Nat.add_assoc]
  exact this
end Rl
def a3V(l){p}{s}{c}(b)(a)(d)(e)(v:c.holds p s)(n:c.wfByText s=true)(g:c.laidByTextAt l p b a)(i:c.start=.entering)(k:c.noBlocks=false/\c.again=false)(q:p.checked.prog.mainIs=some (d.1,d.2.toList))(o:(!d.1&&d.2.isEmpty&& !e)=false)(r:∀f m,p.checked.prog.funcNamed c.func=some f->p.checked.prog.funcs[f]? =some m->e=p.checked.prog.looks []/\∀(j:Nat)t,m.params[j]? =some t->p.checked.prog.wantsStandIn t=false)(u:true=c.goesBy p.checked.prog):
  Claim7.holds p (.plain s) {stood:={row:=c,standIns:=[],harness:=d,looks:=e},kinds:=[],alts:=[],laidByText:=true,laidKinds:=b,laidTests:=a,laidLooks:=l,goes:=true}:=by
 have x:Claim7.isSixth {stood:={row:=c,standIns:=[],harness:=d,looks:=e},kinds:=[]}=false:=by simpa[Claim7.isSixth]using o
 exact⟨Claim7.tied_new_at l b a (Claim7.new_of_sixth v d e i k q x r) n,λD w=>(by cases w),g,(λh=>by cases h),u⟩
end Go.Proofs.Zq
namespace Go.Proofs.YtkdjjnkpfpogkaaGreatDoor
namespace a0q
set_option maxRecDepth 100000
noncomputable abbrev dI:OpenClaim:=Rows.queriesUptoRow
def both{x y}(h:x=true)(g:y=true):(x&&y)=true:=by rw[h,g];rfl
def k0:(dI.wf (OpenSpec.ofChange (Rows.OpenSpec.upto Rows.queriesSpec).bare))=true:=by kernel_rfl
def k1:(laidOutB Tryz.prog)=true:=by kernel_rfl
def k2:(mapsRowed Tryz.prog)=true:=by kernel_rfl
def k3:(Tryz.f3.params.all (Tryz.prog.readableRec ·))=true:=by kernel_rfl
def k4:(namedTie Tryz.prog dI.named (Rows.OpenSpec.upto Rows.queriesSpec).bare.vars)=true:=by kernel_rfl
def k5:(dI.stops==[])=true:=by kernel_rfl
def k6:(Tryz.prog.stops==[])=true:=by kernel_rfl
def k7:(dI.knobs==[])=true:=by kernel_rfl
def k8:(Tryz.prog.stopKnobs==[])=true:=by kernel_rfl
def k9:(dI.inPlace==Tryz.prog.inPlace 3)=true:=by kernel_rfl
def k10:(dI.unfollowed==Tryz.prog.unfollowed 3)=true:=by kernel_rfl
def k11:(dI.recurses==Tryz.prog.recurses 3)=true:=by kernel_rfl
def k12:(dI.named==Tryz.prog.varsNamed 3)=true:=by kernel_rfl
def k13:(dI.maps==(Tryz.f3.params.toList++(Rows.OpenSpec.upto Rows.queriesSpec).bare.plain.varTypes Tryz.prog).any (Tryz.prog.mapsRec ·))=true:=by kernel_rfl
def k14:(dI.ifaces==(Tryz.f3.params.toList++(Rows.OpenSpec.upto Rows.queriesSpec).bare.plain.varTypes Tryz.prog).any (Tryz.prog.ifacesRec ·))=true:=by kernel_rfl
def k15:(dI.mapsOut==Tryz.prog.mapsAmong Tryz.f3.resultTypes.toList)=true:=by kernel_rfl
def k16:(dI.loops==(Tryz.f3.params.toList++(Rows.OpenSpec.upto Rows.queriesSpec).bare.plain.varTypes Tryz.prog).any (Tryz.prog.loopsFrom ·))=true:=by kernel_rfl
def k17:(dI.wideKeys==(Tryz.f3.params.toList++(Rows.OpenSpec.upto Rows.queriesSpec).bare.plain.varTypes Tryz.prog++Tryz.f3.resultTypes.toList).any (Tryz.prog.wideKeysFrom ·))=true:=by kernel_rfl
def k18:((Rows.OpenSpec.upto Rows.queriesSpec).bare.vars.all (Tryz.prog.varReadable ·))=true:=by kernel_rfl
def k19:(Tryz.f3.resultTypes.all (λt=>Tryz.prog.readableRec t&&decide (t<Tryz.prog.types.size)))=true:=by kernel_rfl
def k20:(dI.ifacesOut==Tryz.f3.resultTypes.toList.any (Tryz.prog.ifacesRec ·))=true:=by kernel_rfl
def k21:(dI.loopsOut==Tryz.f3.resultTypes.toList.any (Tryz.prog.loopsFrom ·))=true:=by kernel_rfl
def k22:(dI.plainKeys==Tryz.prog.plainKeys)=true:=by kernel_rfl
def k23:(dI.shortTexts.isNone)=true:=by kernel_rfl
def k24:(Tryz.prog.stopsHeard)=true:=by kernel_rfl
def k25:(Tryz.prog.mayEnter)=true:=by kernel_rfl
def k26:(dI.lifted==Tryz.prog.liftsFinal)=true:=by kernel_rfl
def k27:(Tryz.prog.make==some dI.make)=true:=by kernel_rfl
theorem k28:(dI.kinds==(if dI.domain.isEmpty then []else Tryz.f3.params.toList.map λt=>match Tryz.prog.underlying t with|some (.int k)=>some k|_=>none))=true:=by kernel_rfl
def k29:(dI.pinned==dI.pinnedBy)=true:=by kernel_rfl
def k30:(dI.veiled==(Tryz.f3.params.toList++(Rows.OpenSpec.upto Rows.queriesSpec).bare.plain.varTypes Tryz.prog++Tryz.f3.resultTypes.toList).any (Tryz.prog.veiledRec ·))=true:=by kernel_rfl
def k31:(dI.veiledFits Tryz.prog Tryz.f3.params.toList (Tryz.f3.params.toList++(Rows.OpenSpec.upto Rows.queriesSpec).bare.plain.varTypes Tryz.prog++Tryz.f3.resultTypes.toList))=true:=by kernel_rfl
def facts:joinedFacts Tryz.prog 3 Tryz.f3 (Rows.OpenSpec.upto Rows.queriesSpec).bare dI=true:=by unfold joinedFacts;exact both (both (both (both (both (both (both (both (both (both (both (both (both (both (both (both (both (both (both (both (both (both (both (both (both (both (both (both (both (both (both k0 k1) k2) k3) k4) k5) k6) k7) k8) k9) k10) k11) k12) k13) k14) k15) k16) k17) k18) k19) k20) k21) k22) k23) k24) k25) k26) k27) k28) k29) k30) k31
def goes:Rows.queriesUptoRow.goesBy Tryz.pinned.checked.prog=true:=by kernel_rfl
end a0q
open Go.Proofs.Tryz
open Go.ChangeShapes Go.WideShapes Go.ChangeAt Go.RowKit
open Go.Proofs.Zq Go.Proofs.Zq.Rl
open Go.Proofs.ah (Old)
open Go.Proofs.Zb (Special mask upA up uS Z5 PR Uq vz G6 re VR AR WR K6 PS JR PlainT qw Ev)
section
open Go.Conc (G solo)
namespace a0q
def own:ownKnob Tryz.prog.godebug=none:=by kernel_rfl
noncomputable abbrev NG:Nat:=ah.prog.globals.size
def ZB[Old]{a:Option Addr}{c:Nat}{f:List uU}(g:Nat->Nat->Bool)(n:Addr)(H:Zb.Rows NG g n)(I:bz Special.old (.slice a f.length c) f.length 7 (iy f))(r:∀o∈f,zg Special.old o)(K:wz f<=1048576)(B:Tc f)(O:∀l,a=some l->Special.seen l.block=true/\∀i,l.off<=i->i<l.off+f.length*7->g l.block i=true):
  ∃N j o u A,runNT Tryz.prog (N+1) (solo (G (Frame.enter Tryz.prog 3 #[.slice a f.length c] .normal) []) Special.old) #[]=(.ended o u,A)/\runN Tryz.prog N (solo (G (Frame.enter Tryz.prog 3 #[.slice a f.length c] .normal) []) Special.old)=.next j/\step Tryz.prog j=.ended o u/\
   Go.Conc.Good Tryz.prog (λv u=>v=.bool true/\G6 g u) j o u A:=by
 have D:(f.map (O4 NG n)).length=f.length:=ag0 ..;have s:=WN H I B O
 have m:∀o∈f.map (O4 NG n),zg (mask NG g n) o:=by intro o t;obtain⟨o,C,rfl⟩:=agG.1 t;exact a3U H (r o C) (B o C)
 have y:wz (f.map (O4 NG n))<=1048576:=by rw[a9y];exact K
 refine ah.Un (pR:=uS NG) (R:=λv u=>v=.bool true/\∀b:Nat,b<(mask NG g n).heap.size->u.heap[b]? =(mask NG g n).heap[b]?) ?_ (args:=#[.slice (a.map (upA NG)) f.length c]) ?_ (Z5 H) PR ?_ ?_
 ·rintro P v E w Q x ⟨T,d,rfl,J⟩ q F
  cases q
  exact⟨rfl,Uq H x F J⟩
 ·refine⟨rfl,λi v E q p=> ?_⟩
  match i,q,p with
  |0,q,p=>
   cases q;cases p;cases a with
   |none=>exact .eU _ _
   |some l=>constructor<;>grind[K6]
  |n+1,q,_=>simp at q
 ·rintro b c k ⟨rfl,_,S⟩
  have:=H.big;unfold up
  by_cases h:c<NG<;>grind
 ·intro T d
  have h:=WK (re T d (mask NG g n)) (a.map (upA NG)) c (f.map (O4 NG n)) (by rw[D]at s |-;exact s) (λo t=>by have h:=m o t;exact⟨h.a0,h.a1,h.w0,h.w1,h.row,h.room⟩) y
  rw[D]at h
  exact h.mono λe u⟨L,M⟩=>⟨_,L,rfl,λb z=>M.block b z⟩
def O5{W:World}(h:W.ShapedOpen Tryz.prog):NG<=W.heap.size:=by
 have e:NG=6:=by kernel_rfl
 obtain⟨⟨a,t⟩,b⟩:=Option.isSome_iff_exists.1 (show(((begin Tryz.prog (λ_ _=>0) default).world.heap[5]?).bind Obj.row?).isSome=true by kernel_rfl);obtain⟨d,c,_⟩:=h.1 5 a t (agm (by kernel_rfl)) b;have:=(afD.1 c).1;omega
def ScT(t:TypeId):Prop:=t=22\/t=39\/t=3\/t=9\/t=31
theorem abE:PlainT Tryz.prog ScT:=by rintro t (rfl|rfl|rfl|rfl|rfl)<;>simp[underlying22,IE,underlying39,agk,ags,ScT,underlying31,JB]
def WO{W:World}{b:Nat}{l:Addr}{a c:Nat}(h:Value.okWide Tryz.prog W .any b 22 (.slice (some l) a c)):a<=c/\∃g t f,W.heap[l.block]? =some (.cells g t f):=by
 simp only[Value.okWide,underlying22,Cell.okWide,Cell.ok]at h;obtain⟨j,_,e⟩:=h;obtain⟨_,_,d,cells,i,_⟩:=e
 grind[World.shape?]
def Wanted(a:Option Addr)(c:List uU)(b:Nat):Prop:=(∃l,a=some l/\l.block=b)\/∃o∈c,∃l,o.la=some l/\(o.keep.length≠0\/o.lc≠0)/\l.block=b
def a7o(a:Option Addr)(n:Nat)(b i:Nat):Bool:=match a with
 |none=>false
 |some l=>decide (b=l.block/\l.off<=i/\i<l.off+n*7)
def Oo{a:Option Addr}{n b i:Nat}(h:a7o a n b i=true):∃l,a=some l/\b=l.block/\l.off<=i/\i<l.off+n*7:=by
 cases a with
 |none=>cases h
 |some l=>exact⟨l,rfl,agm h⟩
noncomputable def af1[Old](a:Option Addr):Addr:=match a with
 |none=>⟨0,0,none⟩
 |some l=>upA NG l
def a9z[Old]{H:Type}{r:TypeId×Value->H}{a:Option Addr}{c:Nat}{d:List uU}{J:DataW H}{x:List MemPlace}{n:Nat}(F:DataW.trod r Tryz.prog Special.old 0 (λ_=>true) true n 22 [.slice a d.length c]=some (J,x))(M:bz Special.old (.slice a d.length c) d.length 7 (iy d))(m:∀o∈d,zg Special.old o)(O:wz d<=1048576)(w:∀l,a=some l->d.length<=c/\∃E t D,(Special.old:World).heap[l.block]? =some (.cells E t D))(f:∀b,Special.seen b=true↔Wanted a d b)(y:(Special.old:World).ShapedOpen Tryz.prog):
  ∃N g o u s,runNT Tryz.prog (N+1) (solo (G (Frame.enter Tryz.prog 3 #[.slice a d.length c] .normal) []) Special.old) #[]=(.ended o u,s)/\runN Tryz.prog N (solo (G (Frame.enter Tryz.prog 3 #[.slice a d.length c] .normal) []) Special.old)=.next g/\step Tryz.prog g=.ended o u/\
   Go.Conc.Good Tryz.prog (λv u=>v=.bool true/\DataW.trod r Tryz.prog u 0 (λb=>decide (b<(Special.old:World).heap.size)) true n 22 [.slice a d.length c]=some (J,x)/\(Special.old:World).keptBut u (λp=>p∈x)) g o u s:=by
 have k:∀b,Special.seen b=true->∃E t D,(Special.old:World).heap[b]? =some (.cells E t D):=by
  intro b A
  obtain⟨l,e,rfl⟩|⟨o,z,l,e,q,rfl⟩:=(f b).1 A
  ·grind
  ·exact(m o z).room l e q
 have Q:Zb.Rows NG (a7o a d.length) (af1 a):=by
  refine⟨O5 y,k,λb i h=> ?_⟩;obtain⟨l,rfl,rfl,_⟩:=Oo h
  exact⟨l.block,rfl,rfl,(f _).2 (.inl ⟨l,rfl,rfl⟩)⟩
 have L:Tc d:=λo z l e q=>(f _).2 (.inr ⟨o,z,l,e,q,rfl⟩)
 have P:∀l,a=some l->Special.seen l.block=true/\∀i,l.off<=i->i<l.off+d.length*7->a7o a d.length l.block i=true:=by
  rintro l rfl
  exact⟨(f _).2 (.inl ⟨l,rfl,rfl⟩),λi C B=>afL ⟨rfl,C,B⟩⟩
 obtain⟨N,g,o,u,s,C,B,T,S⟩:=ZB _ _ Q M m O L P;refine⟨N,g,o,u,s,C,B,T,Ev S ?_⟩;rintro v ⟨rfl,I⟩;refine⟨rfl,PS (I.aco k) abE (λb o A=>afL (afD.1 A).1) n _ _ _ _ (.inl rfl) (qw.refl _) F,I.kept k ?_⟩;intro i j K;obtain⟨l,rfl,rfl,R,U⟩:=Oo K;exact JR underlying22 F j R (by grind[IE])
def a9A{H:Type}{m:TypeId×Value->H}(W:World)(w:Nat)(d:Array Value)(I M:List (DataW H))(n:List MemPlace)(x:∀(j:Nat)t v,Tryz.f3.params[j]? =some t->d[j]? =some v->Value.okWide Tryz.prog W .any w t v)(K:DataW.Whole m Tryz.prog Tryz.f3.params.toList Rows.queriesSpec.vars false W d.toList I M n)(T:Rows.uptoSmall H (I++M)=true)(B:W.ShapedOpen Tryz.prog):
  ∃N f o z A,runNT Tryz.prog (N+1) (solo (G (Frame.enter Tryz.prog 3 d .normal) []) W) #[]=(.ended o z,A)/\runN Tryz.prog N (solo (G (Frame.enter Tryz.prog 3 d .normal) []) W)=.next f/\step Tryz.prog f=.ended o z/\
   Go.Conc.Good Tryz.prog (λv z=>Rows.queriesSpec.post m Tryz.prog Tryz.f3 false true false false W d v z) f o z A:=by
 have r:∀(j:Nat)t v,Tryz.f3.params[j]? =some t->d[j]? =some v->Value.okWide Tryz.prog W .any w t v:=x;have E:=K;obtain⟨p,q,F,Y,rfl,V,S⟩:=K;have L:DataW.TrodAll m Tryz.prog W 0 (λ_=>true) true Tryz.f3.params.toList d.toList I p:=F
 rw[params3]at L r
 obtain⟨v0,O,d0,ds0,P,q0,D,rfl,rfl,h0,r0⟩:=trodAll_cons L;obtain⟨rfl,rfl,rfl⟩:=trodAll_nil r0;obtain rfl:d=#[v0]:=by cases d;simp_all
 obtain⟨rfl,rfl⟩:=trodVars_none Y;have g:=r 0 22 v0 rfl rfl;obtain⟨a,Q,c,rfl⟩:=okWide_slice underlying22 g;obtain⟨s,J⟩:=h0;obtain⟨i,rfl,R,y,U⟩:=ZA J;have X:=agm (show decide (Rows.uptoBulkAll _<=1048576)=true from T)
 have C:wz i<=1048576:=by simp only[ah0,Rows.uptoBulkAll]at X;simp only at U;omega
 have k:∀l,a=some l->i.length<=c/\∃cs t fr,W.heap[l.block]? =some (.cells cs t fr):=λl e=>WO (by rw[<-e];exact g)
 obtain⟨N,f,o,u,A,h1,h2,h3,Z⟩:=@a9z ⟨W,λb=>@decide (Wanted a i b) (Classical.propDecidable _)⟩ H m a c i d0 P s J R y C k (λb=>@agv _ (Classical.propDecidable _)) B;refine⟨N,f,o,u,A,h1,h2,h3,Ev Z ?_⟩;rintro v ⟨rfl,k1,k2⟩;refine⟨_,_,_,[],_,[],E,trodAll_mk1 (shut_bool underlying4 _),trodAll_cons_mk ⟨s,k1⟩ trodAll_mk0,rfl,?_,λh=>by cases h⟩;simp<;>omega
abbrev abF:ByteArray:={data:=#[118,97,108,117,101,32,111,117,116,32,111,102,32,114,97,110,103,101]}
abbrev a9B:ByteArray:={data:=#[105,110,118,97,108,105,100,32,115,121,110,116,97,120]}
noncomputable def low:Nat:=(World.holding Tryz.prog default ⟨#[],#[],[]⟩).heap.size
def ado:Array Value:=(#[0,1,28,2,29,14,24,3,30,22,20,15,25,17,4,8,31,27,13,23,21,19,16,7,26,12,18,6,11,5,10,9]:Array Int).map (Value.int .u8)
def adp:Array Value:=(#[0,1,56,2,57,49,28,3,61,58,42,50,38,29,17,4,62,47,59,36,45,43,51,22,53,39,33,30,24,18,12,5,63,55,48,27,60,41,37,16,46,35,44,21,52,32,23,11,54,26,40,15,34,20,31,10,25,14,19,9,13,8,7,6]:Array Int).map (Value.int .u8)
def adq:Array Value:=((List.range 20).map λi=>Value.int .u64 (10^i:Nat)).toArray
noncomputable def JD(os:Os):World:=
 let a:=World.holding Tryz.prog os ⟨#[.cells #[.string abF] 374,.cells #[.string a9B] 374],#[],[]⟩
 let put (h:Array Obj) (g:Nat) (cs:Array Value):Array Obj:=h.modify g fun
  | .cells _ t frozen=>.cells cs t frozen
  |o=>o
 {a with heap:=put (put (put (put (put a.heap 0 #[.iface 372 (.pointer (some ⟨low+1,0,none⟩))]) 1 #[.iface 372 (.pointer (some ⟨low,0,none⟩))]) 3 adq) 4 ado) 5 adp}
def a7p(os:Os):laidMet Tryz.prog Rows.queriesUptoRow.laid ((JD os).forCall (λ_ _=>0) ⟨#[],#[.slice none 0 0],[]⟩).memory:=
 laidMet_of_run' 8 (by kernel_rfl) (by kernel_rfl)
def reads(os:Os){H:Type}(b:TypeId×Value->H):∃a,DataW.whole b Tryz.prog ((JD os).forCall (λ_ _=>0) ⟨#[],#[.slice none 0 0],[]⟩).memory Tryz.f3.params.toList Rows.queriesSpec.vars false #[Value.slice none 0 0].toList 8=some ([.nil],[],a):=
 ⟨[],by kernel_rfl⟩
def inst:Tryz.f3.isInstance Tryz.prog dI.origin dI.targs:=agm (by kernel_rfl)
theorem wrap:Tryz.f3.isWrapper Tryz.prog dI.wrapper dI.mainSum:=by unfold Func.isWrapper;first|(rw[afN (by decide+kernel)];kernel_rfl)|(rw[afJ (by decide+kernel)];exact⟨rfl,rfl⟩)
def pre_eq(H:Type)(a:TypeId×Value->H):dI.pre a Tryz.prog Tryz.f3 (Rows.OpenSpec.upto Rows.queriesSpec)=(Rows.OpenSpec.upto Rows.queriesSpec).preRow a Tryz.prog Tryz.f3 Rows.queriesUptoRow.domain false Rows.queriesUptoRow.laid:=af'
def named:Tryz.prog.funcNamed dI.func=some 3:=by kernel_rfl
def led(os:Os)(a:os.Started)(H:Type)(b:TypeId×Value->H)(F:Stop.Interp):
  ReturnsInLeavingWide {} Tryz.checked os 3 .any ((Rows.OpenSpec.upto Rows.queriesSpec).preRow b Tryz.prog Tryz.f3 Rows.queriesUptoRow.domain false Rows.queriesUptoRow.laid) (((Rows.OpenSpec.upto Rows.queriesSpec).at F).post b Tryz.prog Tryz.f3 false true false false):=by
 obtain⟨h,j⟩:=reads os b
 refine Zb.Mj (C:=Tryz.checked) (s:=Rows.OpenSpec.upto Rows.queriesSpec) own a func3
  (witness_row_at (enc:=b) (C:=Tryz.checked) false (JD os) #[.slice none 0 0] rfl (by kernel_rfl) (by kernel_rfl) (by kernel_rfl)
   (OpenSpec.preRow_of_cond 8 j (by kernel_rfl) (λk l=>by cases l;kernel_rfl) (by kernel_rfl) (a7p os))) ?_
 intro W f g o n c e m d i;exact a9A W f g o n c e m (d _ rfl) i
def a7q:Rows.QueriesUptoSaid:=
 Zb.Us 3 Tryz.f3 rfl rfl rfl rfl rfl rfl rfl ⟨rfl,rfl,rfl,rfl,rfl⟩ rfl rfl rfl rfl rfl rfl named func3 facts
  inst wrap
  (λos a H b _ F=>by show ReturnsInLeavingWide {} _ _ _ _ (dI.pre b Tryz.prog Tryz.f3 (Rows.OpenSpec.upto Rows.queriesSpec)) _;rw[pre_eq];exact led os a H b F)
def plain(f:FuncId)(b:Func)(d:Tryz.pinned.checked.prog.funcNamed "routelog/routeloglaw.Queries" =some f)(a:Tryz.pinned.checked.prog.funcs[f]? =some b):
  true=Tryz.pinned.checked.prog.looks []/\∀(j:Nat)t,b.params[j]? =some t->Tryz.pinned.checked.prog.wantsStandIn t=false:=by
 obtain rfl:f=3:=agf ((show Tryz.prog.funcNamed "routelog/routeloglaw.Queries" =some 3 by kernel_rfl).symm.trans d) |>.symm
 obtain rfl:b=Tryz.f3:=(agf (func3.symm.trans a)).symm;refine⟨by kernel_rfl,λj t c=> ?_⟩
 rw[params3]at c
 obtain rfl:t=22:=by simpa using ag9 c
 exact(show Tryz.prog.wantsStandIn 22=false by kernel_rfl)
def card:Rows.QueriesUptoCardSaid:=
 a3V .later _ _ _ _ a7q (by kernel_rfl) queriesUpto_row_tie rfl ⟨rfl,rfl⟩ (by kernel_rfl) (by rfl) plain goes.symm
end a0q
theorem queries_holds:Rows.QueriesUptoCardSaid:=a0q.card
end
end Go.Proofs.YtkdjjnkpfpogkaaGreatDoor
