import Derived.Below
import Derived.Conc.Holds
import Derived.Deep.DeepHandedRow
import Derived.JoinedCond
import Derived.Laws.BitsLemmas
import Derived.Laws.OwnMore
import Derived.WalkKit
import Derived.WalkSmall
import GoSem.ClaimChange
import GoSem.ClaimJoined
import Derived.Test.YtkdjjnkpfpogkaaGreatDoorK17
set_option maxHeartbeats 8000000
set_option linter.all false
namespace Go.Proofs.ah
open Go.Proofs.Zb
section
variable[Old]
noncomputable def Um:Frame:={fn:=394,tmps:=#[],todo:=[.call ⟨.nil,#[]⟩ false "fmt's door, and nothing behind it" #[]],defers:=[],mode:=.run,kind:=.normal,roundOf:=none}
theorem aaF:(Extern.next "fmt's door, and nothing behind it").isNone=true:=by kernel_rfl
theorem begins:("fmt's door, and nothing behind it".startsWith "fmt's door")=true:=by simp
theorem door:KA prog Um:=by
 refine⟨rfl,rfl,?_,λv=>⟨_,_,[],rfl,rfl,agC.1 aaF⟩⟩;unfold Frame.catches
 have:prog.funcs[Um.fn]? =none:=by
  rw[show Um.fn=394 from rfl,at_,Array.getElem?_eq_none (by simp[PN,afA])]
  rfl
 rw[this]
 exact begins
theorem a4T(f:Nat)(a)(b:Tryz.prog.funcs[f]? =some a)(d:a.body.isNone=false):
  (∃a,Tryz.prog.funcs[f]? =some a/\a.name≠ "runtime.NumGoroutine" /\a.body.isNone=false)/\∃a,prog.funcs[f]? =some a/\a.name≠ "runtime.NumGoroutine" /\a.body.isNone=false:=by
 have c:=afR.1 K4 a (ag9 b)
 simp_all[yC,at_,textOf,none]
theorem a8l:Tryz.f150.body.isNone=false:=by kernel_rfl
theorem a8m:Tryz.f149.body.isNone=false:=by rw[wh];rfl
theorem Z0:Tryz.f194.name≠ "runtime.NumGoroutine" :=by
 have a:=afR.1 K4 _ (ag9 Tryz.func194)
 grind
theorem seat:Seat prog Tryz.prog Um nums A0 A1 zS zR .both .recv Tryz.t131 where
 sp:=rfl
 env:=env
 res:=res
 door:=door
 heads:=heads
 mono:=a1k
 a7R:=a7R
 Xn:=Xn
 text0:=text0
 text1:=text1
 seg:=by kernel_rfl
 ZR:=ZR
 ZT:=ZT
 aaf:=⟨_,Tryz.func149,Tryz.ntmps149,wh,Tryz.results149⟩
 aag:=⟨_,ack,Tryz.ntmps149,rfl,Tryz.results149⟩
 aah:=⟨_,Tryz.func194,Z0,Tryz.ntmps194,Dh,Tryz.results194⟩
 a7S:=⟨_,acm,Z0,Tryz.ntmps194,rfl,Tryz.results194⟩
 atP:=⟨_,Tryz.func100,Tryz.ntmps100,atT⟩
 atQ:=⟨_,aeh,Tryz.ntmps100,rfl⟩
 named:=λf h=>by
  obtain rfl|rfl:=h
  ·exact a4T 149 _ Tryz.func149 a8m
  ·exact a4T 150 _ Tryz.func150 a8l
 ac0:=⟨_,2,Tryz.func150,Tryz.results150⟩
 ac1:=⟨yC 150 Tryz.f150,2,by rw[show nums.xJ=150 from rfl,at_,Tryz.func150];rfl,Tryz.results150⟩
 a7T:=a7T
 a7U:=a7U
 ZU:=ZU
 ZV:=ZV
 Rj:=Rj
 Rk:=Rk
 KY:=KY
 Rm:=Rm
 ZW:=ZW
end
section
variable[Old]
open Go.Conc (G solo Good)
theorem goal{a}{R b}(h:∀c v f w e,a.le c->(∃T d,R v (re T d w))->VR c v f->WR (aT prog (BW A1)) prog.globals.size c w e->b f e):Goal prog Tryz.prog Um nums A1 3 a R b:=by
 refine⟨h,⟨yC 3 Tryz.f3,Tryz.f3,_,by rw[at_,Tryz.func3];rfl,Tryz.func3,Tryz.results3,Tryz.results3⟩,?_⟩
 kernel_rfl
theorem Un{pR}{R h:Value->World->Prop}(i:∀m v p w j,pR.le m->(∃T d,R v (re T d w))->VR m v p->WR (aT prog (BW A1)) prog.globals.size m w j->h p j){args a}{w j}(s:AR pR args a)(t:WR (aT prog (BW A1)) prog.globals.size pR w j)(x:aS w)(n:∀b c k,pR b c k->prog.globals.size<=b)(g:∀T d,Calls prog 3 args (re T d w) λe u=>∃v,e=.returned v/\R v u):
  ∃N f o u r,runNT Tryz.prog (N+1) (solo (G (Frame.enter Tryz.prog 3 a .normal) []) j) #[]=(.ended o u,r)/\runN Tryz.prog N (solo (G (Frame.enter Tryz.prog 3 a .normal) []) j)=.next f/\step Tryz.prog f=.ended o u/\Go.Conc.Good Tryz.prog h f o u r:=by
 have l:=Go.Conc.past_nil;exact lone_beside seat (goal i) s t x n (by kernel_rfl) (by decide) g (gs:=#[G (Frame.enter Tryz.prog 3 a .normal) []]) (sl:=none) (tr:=#[]) (q:=λ_=>0) rfl (Go.Conc.leavers_one _ _) ⟨l.clean,l.known,l.over,l.hears,by simp⟩
end
end Go.Proofs.ah
namespace Go.Proofs.Zb
variable{a:Addr}{v:Value}{c:Nat}{A:Code->Prop}{w w':World}{P:Program}
section
variable[Special]
section
variable(N:Nat)(win:Nat->Nat->Bool)(g0:Addr)
def up(c:Nat):Nat:=if c<N then Special.old.heap.size+c else c
def upA(a:Addr):Addr:={a with block:=up N a.block}
def uS:Ren:=λb c k=>b=up N c/\k=.cells/\Special.seen c=true
theorem K6(h:Special.seen a.block=true):bI (uS N) (upA N a) a:=by obtain⟨b,o,s⟩:=a;exact .mk _ b o s .cells ⟨rfl,rfl,h⟩
theorem PO(v):∃m,VR (uS N) m v:=by
 have e:∀a:Array Value,(∀(i:Nat)(h:i<a.size),∃m,VR (uS N) m a[i])->∃g,AR (uS N) g a:=λa h=>by
  refine⟨Array.ofFn λi:Fin a.size=>Classical.choose (h i i.2),by simp,λi m v j l=> ?_⟩;obtain⟨d,rfl⟩:=afD.1 l
  rw[Array.getElem?_ofFn,dif_pos d]at j
  cases j;exact agS (h i d)
 match v with
 | .bool b=>exact⟨_,.bool b⟩
 | .int k n=>exact⟨_,.int k n⟩
 | .float k n=>exact⟨_,.float k n⟩
 | .complex k n m=>exact⟨_,.complex k n m⟩
 | .string s=>exact⟨_,.string s⟩
 | .pointer none=>exact⟨_,.nilPtr⟩
 | .pointer (some a)=>exact⟨_,.undef _ rfl⟩
 | .slice none n m=>exact⟨_,.eU n m⟩
 | .slice (some a) n m=>exact⟨_,.undef _ rfl⟩
 | .map none=>exact⟨_,.sN⟩
 | .map (some r)=>exact⟨_,.undef _ rfl⟩
 | .chan none=>exact⟨_,.ym⟩
 | .chan (some r)=>exact⟨_,.undef _ rfl⟩
 | .func f a c=>exact⟨_,.lost _ rfl⟩
 | .nilFunc=>exact⟨_,.nilFunc⟩
 | .iface t v=>exact⟨_,.undef _ rfl⟩
 | .nilIface=>exact⟨_,.nilIface⟩
 | .agg a=>
  obtain⟨g,h⟩:=e a λi d=>PO a[i]
  exact⟨_,.Lg h⟩
 | .tuple a=>
  obtain⟨g,h⟩:=e a λi d=>PO a[i]
  exact⟨_,.kZ h⟩
termination_by SizeOf.sizeOf v
decreasing_by all_goals (have:=Array.sizeOf_get a i d;simp;omega)
noncomputable def xM:Value->Value
 | .pointer (some a)=>if Special.seen a.block then .pointer (some (upA N a))else undef
 | .slice (some a) n m=>if Special.seen a.block&& !(n==0&&m==0)then .slice (some (upA N a)) n m else undef
 | .map (some _)=>undef
 | .chan (some _)=>undef
 | .func f a c=>a9C (.func f a c)
 | .iface _ _=>undef
 | .agg a=>.agg (a.map λv=>Classical.choose (PO N v))
 | .tuple a=>.tuple (a.map λv=>Classical.choose (PO N v))
 |v=>v
theorem a8n(v):VR (uS N) (xM N v) v:=by
 have d:∀a:Array Value,AR (uS N) (a.map λv=>Classical.choose (PO N v)) a:=λa=>⟨by simp,λi m v e g=>by
  rw[ag2,g]at e
  cases e;exact agS (PO N v)⟩
 match v with
 | .bool b=>exact .bool b
 | .int k n=>exact .int k n
 | .float k n=>exact .float k n
 | .complex k n m=>exact .complex k n m
 | .string s=>exact .string s
 | .pointer none=>exact .nilPtr
 | .pointer (some a)=>
  unfold xM;dsimp only
  by_cases h:Special.seen a.block=true
  ·rw[afN h];exact .ptr _ _ (K6 N h)
  ·rw[afJ h];exact .undef _ rfl
 | .slice none n m=>exact .eU n m
 | .slice (some a) n m=>
  unfold xM;dsimp only
  by_cases h:(Special.seen a.block&& !(n==0&&m==0))=true
  ·rw[afN h];exact .slice _ _ _ _ (K6 N (by grind))
  ·rw[afJ h];exact .undef _ rfl
 | .map none=>exact .sN
 | .map (some r)=>exact .undef _ rfl
 | .chan none=>exact .ym
 | .chan (some r)=>exact .undef _ rfl
 | .func f a c=>exact .lost _ rfl
 | .nilFunc=>exact .nilFunc
 | .iface t v=>exact .undef _ rfl
 | .nilIface=>exact .nilIface
 | .agg a=>exact .Lg (d a)
 | .tuple a=>constructor<;>grind
def noRoom:Value->Bool
 | .slice (some _) 0 0=>true
 |_=>false
omit [Special]in
theorem PQ(h:noRoom v=true):∃a,v=.slice (some a) 0 0:=by
 unfold noRoom at h
 grind
noncomputable def qp(c i:Nat)(v:Value):Value:=if win c i&&noRoom v then .slice (some g0) 0 0 else xM N v
noncomputable def rowOf(c:Nat):Obj:=match Special.old.heap[c]? with
 |some (.cells d t b)=>.cells (d.mapIdx (qp N win g0 c)) t b
 |_=>.cells #[] 0 (0,0)
noncomputable def Z4(b:Nat):Obj:=
 if decide (N<=b)&&decide (b<Special.old.heap.size)&&Special.seen b then rowOf N win g0 b
 else if decide (Special.old.heap.size<=b)&&Special.seen (b-Special.old.heap.size)then rowOf N win g0 (b-Special.old.heap.size)else .cells #[] 0 (0,0)
noncomputable def mask:World:={(Special.old:World)with heap:=(Array.range (Special.old.heap.size+N)).map (Z4 N win g0)}
structure Rows:Prop where
 big:N<=Special.old.heap.size
 rows:∀c,Special.seen c=true->∃cs t fr,Special.old.heap[c]? =some (.cells cs t fr)
 g:∀c i,win c i=true->∃c',uS N g0.block c' .cells
variable{N win g0}
theorem vz:(mask N win g0).heap.size=Special.old.heap.size+N:=by simp[mask]
theorem Uo{b}(h:b<Special.old.heap.size+N):(mask N win g0).heap[b]? =some (Z4 N win g0 b):=by
 unfold mask
 grind
theorem Rows.lt(h:Rows N win g0)(b:Special.seen c=true):c<Special.old.heap.size:=by
 obtain⟨f,t,d,e⟩:=h.rows c b
 grind
theorem yE(h:Rows N win g0)(g:Special.seen c=true){f}{t}{d}(e:Special.old.heap[c]? =some (.cells f t d)):
  up N c<Special.old.heap.size+N/\(mask N win g0).heap[up N c]? =some (.cells (f.mapIdx (qp N win g0 c)) t d):=by
 have j:=h.lt g;have i:rowOf N win g0 c=.cells (f.mapIdx (qp N win g0 c)) t d:=by unfold rowOf;rw[e]
 have b:up N c<Special.old.heap.size+N:=by unfold up;split<;>omega
 refine⟨b,?_⟩
 rw[Uo b]
 congr 1
 unfold Z4 up
 grind
theorem PR:aS (mask N win g0):=by
 intro b o d
 grind[afD,vz,Uo,Tidy,rowOf,Z4]
theorem a1o(h:Rows N win g0){b d}{k f}(x:uS N b c k)(y:uS N b d f):c=d:=by
 obtain⟨rfl,_,i⟩:=x;obtain⟨e,_,g⟩:=y;have l:=h.lt i;have j:=h.lt g;unfold up at e
 grind
theorem a8o(h:Rows N win g0)(c i)(v):VR (uS N) (qp N win g0 c i v) v:=by
 unfold qp
 by_cases b:(win c i&&noRoom v)=true
 ·rw[afN b]
  simp only[afQ]at b;obtain⟨a,rfl⟩:=PQ b.2;exact .empty _ _ (h.g c i b.1)
 grind[a8n]
theorem Z5(h:Rows N win g0):WR A N (uS N) (mask N win g0) Special.old:=by
 refine⟨λb c k x=> ?_,by rw[vz];omega,h.big,λb c o k g x y=>a1o h x y,λb p c k g x y=>x.1.trans y.1.symm,λb c k x=> ?_,⟨⟨afA _,λ_ _ _=>rfl,rfl,rfl⟩,λb c k x _=>x.2.2,λ_ _ _ _ _ _ _ _ _=>rfl⟩⟩
 ·obtain⟨rfl,_,d⟩:=x
  have:=h.big;unfold up
  split<;>omega
 ·obtain⟨rfl,rfl,d⟩:=x
  obtain⟨n,t,l,e⟩:=h.rows c d;refine⟨_,_,(yE h d e).2,e,rfl,.cells _ _ _ _ ⟨by simp,λi m v f j=> ?_⟩⟩
  rw[Array.getElem?_mapIdx,j]at f
  cases f;exact a8o h c i v
def a1p(v b:Value):Prop:=b=v\/∃a d,v=.slice (some a) 0 0/\b=.slice (some d) 0 0
theorem XJ(h:Rows N win g0){j}(p:(uS N).le j)(D:WR A N j w w'){u}(e:Te (xM N v)=false)(d:VR j (xM N v) u):u=v:=by
 have l:∀(a i:Addr),Special.seen a.block=true->bI j (upA N a) i->i=a:=λa i C x=>by
  obtain⟨b,o,s⟩:=a;cases x with
  |mk _ c _ _ k z=>rw[D.left _ c b k .cells z (p _ _ _ ⟨rfl,rfl,C⟩)]
 match v with
 | .bool b=>cases d;rfl
 | .int k n=>cases d;rfl
 | .float k n=>cases d;rfl
 | .complex k n m=>cases d;rfl
 | .string s=>cases d;rfl
 | .pointer none=>cases d;rfl
 | .pointer (some a)=>
  unfold xM at d e;dsimp only at d e
  by_cases g:Special.seen a.block=true
  ·rw[afN g]at d
   cases d with|ptr _ i x=>rw[l a i g x]
  ·rw[afJ g]at e;cases e
 | .slice none n m=>cases d;rfl
 | .slice (some a) n m=>
  unfold xM at d e;dsimp only at d e
  by_cases g:(Special.seen a.block&& !(n==0&&m==0))=true
  ·rw[afN g]at d
   have q:Special.seen a.block=true/\¬(n=0/\m=0):=by
    simp at g
    exact⟨g.1,λx=>g.2.elim (λy=>y x.1) λy=>y x.2⟩
   cases d<;>grind
  ·rw[afJ g]at e;cases e
 | .map none=>cases d;rfl
 | .map (some r)=>cases e
 | .chan none=>cases d;rfl
 | .chan (some r)=>cases e
 | .func f a c=>
  unfold xM a9C at d;dsimp only at d;cases d with
  |func _ _ _ _ _ _ B=>cases B
  |lost _ _=>rfl
 | .nilFunc=>cases d;rfl
 | .iface t v=>cases e
 | .nilIface=>cases d;rfl
 | .agg a=>cases e
 | .tuple a=>cases e
structure G6(win:Nat->Nat->Bool)(w':World):Prop where
 os:w'.os=Special.old.os
 out:w'.output=Special.old.output
 size:Special.old.heap.size<=w'.heap.size
 still:∀c:Nat,c<Special.old.heap.size->Special.seen c=false->w'.heap[c]? =Special.old.heap[c]?
 row:∀(c:Nat)(cs:Array Value)(t:TypeId)(fr:Nat×Nat),Special.seen c=true->Special.old.heap[c]? =some (.cells cs t fr)->
  ∃cs',w'.heap[c]? =some (.cells cs' t fr)/\cs'.size=cs.size/\∀(i:Nat)(v:Value),cs[i]? =some v->∃v',cs'[i]? =some v'/\(v'=v\/(win c i=true/\a1p v v'))
theorem Uq(h:Rows N win g0){s}(l:(uS N).le s)(f:WR A N s w w')(E:∀b,b<(mask N win g0).heap.size->w.heap[b]? =(mask N win g0).heap[b]?):G6 win w':=by
 refine⟨f.held.calm.os,f.held.calm.out,f.held.calm.Tj,f.held.calm.still,λc G t J m e=> ?_⟩;obtain⟨D,C⟩:=yE h m e;obtain⟨o,I,q,z,_,F⟩:=f.obj (up N c) c .cells (l _ _ _ ⟨rfl,rfl,m⟩);have p:=q
 rw[E _ (by grind),C]at q
 cases q;cases F with
 |cells _ r _ _ y=>
  refine⟨r,z,by rw[<-y.size];simp,λi v u=> ?_⟩;have k:(G.mapIdx (qp N win g0 c))[i]? =some (qp N win g0 c i v):=by rw[Array.getElem?_mapIdx,u];rfl
  obtain⟨B,j,n⟩:=y.get k;refine⟨B,j,?_⟩;cases x:Te (qp N win g0 c i v)with
  |true=>
   have d:w.cell? ⟨up N c,i,none⟩=some (qp N win g0 c i v):=by
    unfold World.cell?
    rw[p]
    exact k
   have:=f.held.Li (up N c) c .cells i _ (l _ _ _ ⟨rfl,rfl,m⟩) (h.lt m) d x;unfold World.cell? at this;simp only[z,e,agU,afI,ag6]at this
   rw[j,u]at this
   exact .inl (agf this)
  |false=>
   unfold qp at x n
   by_cases g:(win c i&&noRoom v)=true
   ·rw[afN g]at n
    simp only[afQ]at g;obtain⟨a,rfl⟩:=PQ g.2;cases n with
    |slice _ H _ _ _=>exact .inr ⟨g.1,.inr ⟨_,_,rfl,rfl⟩⟩
    |empty _ H _=>exact .inr ⟨g.1,.inr ⟨_,_,rfl,rfl⟩⟩
   ·grind[XJ]
end
end
open Go
inductive qw:List Value->List Value->Prop
 |nil:qw [] []
 |cons {v v':Value} {l l':List Value} (h:a1p v v') (hl:qw l l'):qw (v::l) (v'::l')
theorem a1p.refl(v):a1p v v:=.inl rfl
theorem qw.refl:∀l,qw l l
 |[]=>.nil
 |v::l=>.cons (.refl v) (.refl l)
theorem qw.length{l b}(h:qw l b):b.length=l.length:=by
 induction h with
 |nil=>rfl
 |cons _ _ d=>simp[d]
theorem qw.drop{l b}(h:qw l b):∀n,qw (l.drop n) (b.drop n):=by
 induction h with
 |nil=>intro n;simp;exact .nil
 |cons h e d=>intro n;cases n with
  |zero=>exact .cons h e
  |succ n=>simpa using d n
theorem qw.take{l b}(h:qw l b):∀n,qw (l.take n) (b.take n):=by
 induction h with
 |nil=>intro n;simp;exact .nil
 |cons h e d=>intro n;cases n with
  |zero=>simp;exact .nil
  |succ n=>simpa using qw.cons h (d n)
structure a9L(w w':World):Prop where
 cells:∀(base:Nat)(a:Addr)(n:Nat)(l:List Value),w.cells? base a n=some l->∃l',w'.cells? base a n=some l'/\qw l l'
 map:∀(b:Nat)(es:Array MapEntry)(clock:Nat),w.heap[b]? =some (.map es clock)->w'.heap[b]? =some (.map es clock)
theorem mapM_some{j i:Type}{f g}:∀{l:List j}{r:List i},(∀x∈l,∀y,f x=some y->g x=some y)->l.mapM f=some r->l.mapM g=some r
 |[],r,_,h=>h
 |x::l,r,b,h=>by
  rw[ah6]at h |-
  simp only[bind,agd]at h |-;obtain⟨y,n,k,d,e⟩:=h
  exact⟨y,b x (by simp) y n,k,mapM_some (λz m=>b z (by simp[m])) d,e⟩
def PlainT(P:Program)(S:TypeId->Prop):Prop:=∀t,S t->(∃k,P.underlying t=some (.int k))\/P.underlying t=some .string\/(∃e,P.underlying t=some (.slice e)/\P.cellsOf e≠0/\S e)\/∃b,P.underlying t=some (.struct b)/\∀f∈b.toList,S f.type
theorem Ur{b}{n}{l}(e:n≠0)(h:w.cells? b a n=some l):∃o,w.heap[a.block]? =some o:=by
 unfold World.cells? at h
 split at h
 ·obtain⟨k,rfl⟩:=Nat.exists_eq_succ_of_ne_zero e
  rw[List.range_succ_eq_map,ah6]at h
  simp only[bind,agd]at h;obtain⟨v,d,_⟩:=h;unfold World.cell? at d;have f:(a.add 0).block=a.block:=by unfold Addr.add;split<;>rfl
  rw[f]at d
  cases g:w.heap[a.block]? <;>grind
 ·cases h
theorem PS{H:Type}{u:TypeId×Value->H}(hw:a9L w w'){S:TypeId->Prop}(hS:PlainT P S){d:Nat->Bool}{held:Bool}(R:∀b o,w.heap[b]? =some o->d b=true):
  ∀m t F p x,S t->qw F p->DataW.trod u P w 0 (λ_=>true) held m t F=some x->DataW.trod u P w' 0 d held m t p=some x:=by
 intro m;induction m with
 |zero=>intro t F p x _ _ h;exact h
 |succ m Y=>
  intro t F p x Q L h
  have at_:∀(a:Addr)(e:TypeId),S e->∀(y:DataW H×List MemPlace),((w.cells? 0 a (P.cellsOf e)).bind (DataW.trod u P w 0 (λ_=>true) held m e))=some y->((w'.cells? 0 a (P.cellsOf e)).bind (DataW.trod u P w' 0 d held m e))=some y:=by
   intro a e M y E;simp only[agd]at E |-;obtain⟨l,B,q⟩:=E;obtain⟨l',N,h4⟩:=hw.cells _ _ _ _ B
   exact⟨l',N,Y _ _ _ _ M h4 q⟩
  unfold DataW.trod at h |-
  have G:∀v,F=[v]->(∀a,v≠.slice (some a) 0 0)->p=[v]:=by
   intro v e hn;subst e;cases L with
   |cons B q=>
    cases q;obtain rfl|⟨a,O,e,_⟩:=B
    ·rfl
    ·exact absurd e (hn a)
  obtain⟨k,I⟩|I|⟨e,I,hz,M⟩|⟨fs,I,hf⟩:=hS t Q
  ·rw[I]at h |-
   match F,h with
   |[.int k' n],h=>rw[G _ rfl (by simp)];exact h
  ·rw[I]at h |-
   match F,h with
   |[.string s],h=>rw[G _ rfl (by simp)];exact h
  ·rw[I]at h |-
   match F,h with
   |[.slice none 0 0],h=>rw[G _ rfl (by simp)];exact h
   |[.slice (some a) r J],h=>
    have K:p=[.slice (some a) r J]\/∃O,r=0/\J=0/\p=[.slice (some O) 0 0]:=by
     cases L with
     |cons B q=>
      cases q;obtain rfl|⟨b,b',X,rfl⟩:=B
      ·exact .inl rfl
      ·cases X;exact .inr ⟨b',rfl,rfl,rfl⟩
    dsimp only at h
    split at h
    ·rename_i V
     simp only[agd,agi]at h;obtain⟨z,B,D,q,N⟩:=h;obtain rfl|⟨O,rfl,rfl,rfl⟩:=K
     ·dsimp only
      rw[afN V]
      simp only[agd,agi];refine⟨z,mapM_some (λi _ y E=>at_ _ e M y E) B,D,?_,N⟩;simp only[agr]at q;have C:=mapM_some (g:=λj=>(w'.cells? 0 (a.add ((r+j)*P.cellsOf e)) (P.cellsOf e)).bind (DataW.trod u P w' 0 d held m e)) (λj _ y E=>at_ _ e M y E) q
      by_cases h0:J-r=0
      ·rw[h0]at C |-
       split
       ·exact C
       ·exact C
      ·have W:d a.block=true:=by
        obtain⟨k,hk⟩:=Nat.exists_eq_succ_of_ne_zero h0
        rw[hk,List.range_succ_eq_map,ah6]at q
        simp only[bind,agd]at q;obtain⟨y,⟨l,T,_⟩,_⟩:=q;obtain⟨o,Z⟩:=Ur hz T;have W:(a.add ((r+0)*P.cellsOf e)).block=a.block:=by unfold Addr.add;split<;>rfl
        rw[W]at Z
        exact R _ _ Z
       rw[afN W]
       exact C
     ·have X:z=[]:=by simpa using B.symm
      have e2:D=[]:=by simpa using q.symm
      subst X e2;dsimp only
      rw[afN ⟨afK _,afA _,afK _⟩]
      simp only[List.range_zero,List.mapM_nil,Nat.sub_self,pure,Option.bind_some]
      rw[show(if d O.block=true then some ([]:List (DataW H×List MemPlace))else some [])=some [] by split<;>rfl,agy,<-N]
      simp[MemPlace.row]
    ·cases h
  ·rw[I]at h |-
   dsimp only at h |-
   rw[L.length]
   split at h
   ·rename_i V
    rw[afN V]
    simp only[agi]at h |-;obtain⟨xs,B,q⟩:=h
    exact⟨xs,mapM_some (λf U y E=>Y _ _ _ _ (hf f U) ((L.drop _).take _) E) B,q⟩
   ·cases h
open Go Go.Conc
theorem Us{p}{s}{c}(f)(r)(U:c.program=p.name)(T:c.sum=p.sum)(G:c.spec=s.name)(d:c.start=.entering)(i:c.outside=[])(L:c.inits=[])(E:c.under=none)(M:c.initsInPlace=[]/\c.initsUnfollowed=false/\c.initsRecurse=false/\c.initsNamed=[]/\c.initsPassed=[])(u:c.noBlocks=false)(K:c.leaving=true)(q:c.followed=none)(y:c.narrowed=s.cond.isSome)(l:c.still=false)(g:c.stops=[])(N:p.checked.prog.funcNamed c.func=some f)(V:p.checked.prog.funcs[f]? =some r)(e:joinedFacts p.checked.prog f r s.bare c=true)(o:r.isInstance p.checked.prog c.origin c.targs)(m:r.isWrapper p.checked.prog c.wrapper c.mainSum)(h:∀os,os.Started->∀(H:Type)(j:TypeId×Value->H),(∀a b,j a=j b->a=b)->∀F,
   ReturnsInLeavingWide c.assume p.checked os f .any (c.pre j p.checked.prog r s) ((s.at F).post j p.checked.prog r c.apart c.fresh c.handsOn c.again)):c.holds p s:=by
 simp only[joinedFacts,afQ,agx,afR,agE,agY]at e
 repeat' (obtain⟨e,_⟩:=e)
 have t:p.checked.prog.stops=[]:=by assumption
 unfold OpenClaim.holds;refine⟨by assumption,U,T,G,by assumption,by assumption,by unfold OpenClaim.startFits;rw[d];assumption,by unfold OpenClaim.startTold;rw[d];exact⟨L,E,M⟩,f,r,N,V,?_⟩;refine⟨⟨by assumption,by assumption⟩,(λQ=>by rw[u]at Q;cases Q),by unfold OpenClaim.namedList;rw[q];assumption,o,m,?_⟩
 repeat' apply And.intro
 all_goals try assumption
 ·rw[g];exact t.symm
 ·have X:c.knobs=[]:=by assumption
  have z:p.checked.prog.stopKnobs=[]:=by assumption
  rw[X,z]
 ·have z:p.checked.prog.stopKnobs=[]:=by assumption
  unfold Program.envWorded;rw[z];rfl
 ·have W:c.shortTexts=none:=by
   cases S:c.shortTexts with
   |none=>rfl
   |some x=>simp_all
  rw[i,y,W];simp
 ·intro n I
  have R:∀x:String,x∈s.bare.vars->p.checked.prog.varReadable x=true:=by assumption
  exact varReadable_some (R n I)
 ·have z:p.checked.prog.stopKnobs=[]:=by assumption
  exact⟨_,by unfold OpenClaim.world;rw[i,d];exact WideRow.started_initial,λk O=>by rw[z]at O;cases O⟩
 ·have J:p.checked.prog.mayEnter=true:=by assumption
  refine⟨[],by unfold OpenClaim.lists;rw[q],λos C _ H j D=> ?_⟩;have B:os.Started:=by unfold OpenClaim.world at C;rw[i,d]at C;exact C
  rw[OpenClaim.post_not_still l]
  unfold OpenClaim.form
  rw[d,g]
  intro F;have e1:c.okInput=Input.okWide:=by unfold OpenClaim.okInput;rw[u]
  have Z:c.atReturn p.checked.prog=leavingAtReturn p.checked.prog:=by unfold OpenClaim.atReturn;rw[K]
  have Y:c.always p.checked.prog []=nothingAlways:=by unfold OpenClaim.always;rw[q]
  rw[e1,Z,Y,i]
  exact h os B H j D F J
open Go Go.Conc Go.ChangeShapes
theorem Ev{d b}{m}{o}{t}(h:Go.Conc.Good P d m o w t)(e:∀v,d v w->b v w):Go.Conc.Good P b m o w t:=by
 obtain⟨v,i,g,f⟩:=h
 exact⟨v,i,e v g,f⟩
theorem Mj{H}{q}{a}{C}{os}{f}{y}{s:OpenSpec}{F}{r}{d p l u}{x}(own:ownKnob C.prog.godebug=none)(n:os.Started)(T:C.prog.funcs[f]? =some y)(B:∃(w:World)(b:Tape)(i:Input),w.os=os/\(w.forCall b i).Shaped C.prog/\i.vars=[]/\Input.okWide C.prog (w.forCall b i) .any w.heap.size f i/\
   s.preRow q C.prog y r d x (w.forCall b i).memory i.args/\a.holds C.prog (lone (Frame.enter C.prog f i.args .normal) [] (w.forCall b i)))(O:∀W J m M L g,
   (∀(j:Nat)t v,y.params[j]? =some t->m[j]? =some v->Value.okWide C.prog W .any J t v)->
   DataW.Whole q C.prog y.params.toList s.vars d W m.toList M L g->
   (∀k,s.cond=some k->k H (M++L)=true)->W.ShapedOpen C.prog->
   ∃N h o z K,runNT C.prog (N+1) (solo (G (Frame.enter C.prog f m .normal) []) W) #[]=(.ended o z,K)/\runN C.prog N (solo (G (Frame.enter C.prog f m .normal) []) W)=.next h/\
    step C.prog h=.ended o z/\Go.Conc.Good C.prog (λv z=>(s.at F).post q C.prog y d p l u W m v z) h o z K):
  ReturnsInLeavingWide a C os f .any (s.preRow q C.prog y r d x) ((s.at F).post q C.prog y d p l u):=by
 refine returnsInLeavingWide_of_good own n ?_ ?_
 ·intros;simp_all
 ·intro w b i _ R _ S E _
  obtain⟨_,_,_,U,I,_,_,_,_,D⟩:=S;have e:U=y:=agf (I.symm.trans T);subst e;obtain⟨⟨Y,_⟩,_⟩:=E;obtain⟨M,L,g,V,_,Z⟩:=OpenSpec.pre_parts Y;have Q:=DataW.Whole.of_heap (w':=w.forCall b i) (by rfl) V;obtain⟨N,h,o,z,K,h1,h2,h3,h4⟩:=O (w.forCall b i) w.heap.size i.args M L g D Q Z R
  exact⟨N,h,o,z,K,h1,h2,h3,Ev h4 λv X=>ChangeSpec.post_blind X⟩
section
variable[Special]
section
variable{N:Nat}{I:Nat->Nat->Bool}{J:Addr}
theorem I5(h:Rows N I J){i}(b:Special.seen c=true)(e:Special.old.cell? ⟨c,i,none⟩=some v):(mask N I J).cell? ⟨up N c,i,none⟩=some (qp N I J c i v):=by
 obtain⟨j,t,g,d⟩:=h.rows c b;have f:=(yE h b d).2
 simp_all[World.cell?]<;>omega
end
section
variable{I:Nat->Nat->Bool}{J:World}
theorem G6.cell(h:G6 I J)(o:∀c,Special.seen c=true->∃k t j,Special.old.heap[c]? =some (.cells k t j))(e:Special.old.cell? a=some v):∃b,J.cell? a=some b/\a1p v b:=by
 have i:a.block<Special.old.heap.size:=World.block_lt_of_cell? _ _ e;cases g:Special.seen a.block with
 |false=>exact⟨v,by rw[World.cell?_of_block (h.still _ i g)];exact e,.refl v⟩
 |true=>
  obtain⟨k,t,j,l⟩:=o _ g;obtain⟨r,q,n,m⟩:=h.row _ k t j g l;unfold World.cell? at e |-
  rw[l]at e
  rw[q]
  simp only at e |-
  split at e
  ·cases e
  ·rename_i f
   rw[afJ f]
   obtain⟨b,d,p⟩:=m _ _ e
   exact⟨b,d,p.elim (λx=>.inl x) (λx=>x.2)⟩
theorem G6.aco(h:G6 I J)(u:∀c,Special.seen c=true->∃B t z,Special.old.heap[c]? =some (.cells B t z)):a9L Special.old J:=by
 refine⟨λC a n l G=> ?_,λb O r j=> ?_⟩
 ·obtain⟨j,x,K⟩:=World.cells?_some G
  have q:∀i,i<n->∃f,J.cell? (a.add i)=some f/\∃v,l[i]? =some v/\a1p v f:=by
   intro i H;have e:=K i H
   rw[afP (by omega)]at e
   obtain⟨f,p,o⟩:=h.cell u e
   exact⟨f,p,_,afP (by omega),o⟩
  have D:∀(m k:Nat),m+k=n->∃g:List Value,(List.range' m k).mapM (λi=>J.cell? (a.add i))=some g/\qw (l.drop m) g:=by
   intro m k;induction k generalizing m with
   |zero=>intro F;exact⟨[],rfl,by rw[List.drop_of_length_le (by omega)];exact .nil⟩
   |succ k E=>
    intro F;obtain⟨g,p,o⟩:=E (m+1) (by omega);obtain⟨f,M,v,y,L⟩:=q m (by omega);refine⟨f::g,?_,?_⟩
    ·rw[List.range'_succ,ah6,M,Option.bind_eq_bind,Option.bind_some,p]
     rfl
    ·have d:m<l.length:=by omega
     rw[agt d]
     rw[afP d]at y
     cases y;exact .cons L o
  obtain⟨g,p,o⟩:=D 0 n (by omega);refine⟨g,?_,by simpa using o⟩;unfold World.cells?
  rw[afN j,List.range_eq_range']
  exact p
 ·have d:b<Special.old.heap.size:=(afD.1 j).1
  cases s:Special.seen b with
  |false=>rw[h.still _ d s];exact j
  |true=>
   obtain⟨B,t,z,N⟩:=u _ s
   rw[N]at j
   cases j
theorem G6.kept(h:G6 I J)(l:∀c,Special.seen c=true->∃d t g,Special.old.heap[c]? =some (.cells d t g)){b}(r:∀i j,I i j=true->b (.cell i j)):(Special.old:World).keptBut J b:=by
 refine⟨h.os,h.out,λi m=> ?_⟩;cases f:Special.seen i with
 |false=>
  rw[h.still i m f]
  split<;>simp_all
 |true=>
  obtain⟨d,t,g,k⟩:=l _ f;obtain⟨o,n,e,q⟩:=h.row _ d t g f k
  rw[k,n]
  refine⟨rfl,rfl,e,λj s=> ?_⟩;cases p:d[j]? <;>grind
end
omit [Special]in
theorem JR{H:Type}{k:TypeId×Value->H}{W:World}{t e:TypeId}(l:P.underlying t=some (.slice e)){d:Nat}{b i:Nat}{x}(h:DataW.trod k P W 0 (λ_=>true) true d t [.slice (some a) b i]=some x)(j:Nat)(s:a.off<=j)(r:j<a.off+b*P.cellsOf e):MemPlace.cell a.block j∈x.2:=by
 cases d with
 |zero=>cases h
 |succ d=>
  unfold DataW.trod at h
  rw[l]at h
  dsimp only at h
  split at h
  ·rename_i q
   simp only[agd,agi,agr]at h;obtain⟨f,n,g,m,rfl⟩:=h;have p:f.length=b:=by simpa using mapM_some_length n
   have o:g.length=i-b:=by simpa using mapM_some_length m
   refine agz.2 (.inl ?_);unfold MemPlace.row
   rw[agG]
   refine⟨j-a.off,List.mem_range.2 ?_,by rw[show a.off+(j-a.off)=j by omega]⟩;have:=Nat.mul_le_mul_right (P.cellsOf e) (show b<=f.length+g.length by omega);omega
  ·cases h
end
end Go.Proofs.Zb
namespace Go.Proofs.Zq
open Go.RowKit
variable{B n A I:Nat}{w w' a:World}{v:Value}{J:List Value}{e:TypeId}{o:Obj}
namespace Rl
theorem nR(b j):(⟨b,0,none⟩:Addr).add j=⟨b,j,none⟩:=by grind[Addr.add]
def pU:Value->Nat
 | .string t=>t.size
 |_=>0
theorem hide{p}(h:p):Hid p:=h
def num(l:List UInt8):Int:=l.foldl (λn c=>256*n+(c.toNat:Int)) 0
theorem Ut(l)(c):num (l++[c])=256*num l+(c.toNat:Int):=by simp[num]
theorem num_nonneg:∀l,0<=num l:=by
 intro l
 suffices h:∀(l:List UInt8)(a:Int),0<=a->0<=l.foldl (λn c=>256*n+(c.toNat:Int)) a from h l 0 (by omega)
 intro l;induction l<;>grind
theorem Fp(s:ByteArray)(k)(h:k<s.size):
  num (s.data.toList.take (k+1))=256*num (s.data.toList.take k)+(s[k].toNat:Int):=by
 rw[afH (by simp_all),Ut];rfl
theorem yF:∀k l,l.length<=k->num l<256^k:=by
 intro k;induction k with
 |zero=>simp[afT,num]
 |succ k b=>
  intro l h;obtain rfl|⟨m,c,rfl⟩:=List.eq_nil_or_concat l
  ·grind
  ·rw[List.concat_eq_append,Ut]
   have d:m.length<=k:=by simp at h;omega
   have g:=b m d;have f:(c.toNat:Int)<256:=by have:=c.toNat_lt;omega
   rw[Int.pow_succ];omega
theorem Mk(s:ByteArray)(k)(b:k<=6):0<=num (s.data.toList.take k)/\num (s.data.toList.take k)<281474976710656:=by refine⟨num_nonneg _,?_⟩;have h:=yF 6 (s.data.toList.take k) (by grind);omega
theorem Rz(c:UInt8):0<=(c.toNat:Int)/\(c.toNat:Int)<256:=by have:=c.toNat_lt;omega
theorem Uu(c:UInt8):wrap64 (c.toNat:Int)=(c.toNat:Int):=by have:=Rz c;unfold wrap64;omega
theorem lh(n)(c: -9223372036854775808<=n)(b:n<=9223372036854775807):wrap64 n=n:=by unfold wrap64;omega
theorem a8p(a c)(g:0<=a)(f:a<36028797018963968)(d:0<=c)(b:c<256):bits .or .i64 (a*256) c=256*a+c:=by
 have h:=bits_join .i64 63 (by decide) (λn j i=>by
                               rw[IntKind.wrap_i64];have e:(2:Int)^63=9223372036854775808:=by decide
                               omega) 8 (a*256) c (by omega) (by
                                                 have e:(2:Int)^8=256:=by decide
                                                 omega) (by
                                                      have e:(2:Int)^63=9223372036854775808:=by decide
                                                      omega) d (by simp<;>omega) (by omega)
 rw[h];omega
end Rl
namespace Rl
def bz(w:World)(v:Value)(n A:Nat)(J:List Value):Prop:=
 J.length=n*A/\((∃a c,v=.slice a 0 c/\n=0)\/
  ∃b o d,v=.slice (some ⟨b,o,none⟩) n d/\0<n/\b<w.heap.size/\∀j u,J[j]? =some u->w.cell? ⟨b,o+j,none⟩=some u)
theorem bz.nil(w)(a)(c A):bz w (.slice a 0 c) 0 A []:=⟨by simp,.inl ⟨a,c,rfl,rfl⟩⟩
theorem bz.below(h:bz w v n A J)(f:Below B w w')(m:∀k,v.ownBlock=some k->k<B):bz w' v n A J:=by
 refine⟨h.1,?_⟩;obtain h|⟨b,o,d,rfl,i,c,l⟩:=h.2
 ·exact .inl h
 ·refine .inr ⟨b,o,d,rfl,i,afB c f.size,λj u g=> ?_⟩
  have:=m b rfl
  rw[f.cell (p:=⟨b,o+j,none⟩) this]
  exact l j u g
theorem bz.later(h:bz w v n A J)(g:Below w.heap.size w w'):bz w' v n A J:=by
 obtain⟨a,c,rfl,rfl⟩|⟨b,o,i,rfl,j,d,l⟩:=h.2
 ·exact⟨h.1,.inl ⟨a,c,rfl,rfl⟩⟩
 ·refine h.below g ?_
  intro k f;simp[Value.ownBlock]at f;omega
theorem aM(h:w.ownsRow I e A v n J):bz w v n A J:=by
 refine⟨h.1,?_⟩;obtain⟨rfl,rfl⟩|⟨g,b,m,rfl,r,i,d,l,k,p⟩:=h.2
 ·simp
 ·by_cases q:n=0
  ·grind
  ·refine .inr ⟨g,0,b,rfl,by omega,(afD.1 i).1,λj u c=> ?_⟩
   have f:j<n*A:=by
    have:=(afY.1 c).1
    rw[h.1]at this;exact this
   rw[agj,h.cellAt j f,c]
theorem bu(h:w.ownsRow I e A v n J)(k:Below w.heap.size w w'):w'.ownsRow I e A v n J:=by
 refine⟨h.1,?_⟩;obtain j|⟨g,i,f,rfl,d,c,b⟩:=h.2
 ·exact .inl j
 ·refine .inr ⟨g,i,f,rfl,d,?_,b⟩
  rw[k.block g (afD.1 c).1]
  exact c
theorem af(h:Below B a w)(b:Below w.heap.size w w')(c:B<=w.heap.size):Below B a w':=h.trans (b.mono c)
theorem aei{d}{a b c}{T}(g:Below (w.alloc (.cells #[a,b,c] T)).heap.size (w.alloc (.cells #[a,b,c] T)) d):
  d.cell? ⟨w.heap.size,0,none⟩=some a/\d.cell? ⟨w.heap.size,1,none⟩=some b/\d.cell? ⟨w.heap.size,2,none⟩=some c/\w.heap.size<d.heap.size:=by
 have f:w.heap.size<(w.alloc (.cells #[a,b,c] T)).heap.size:=by simp
 refine⟨?_,?_,?_,afB f g.size⟩
 ·rw[g.cell (p:=⟨w.heap.size,0,none⟩) f];simp
 ·rw[g.cell (p:=⟨w.heap.size,1,none⟩) f];simp
 ·rw[g.cell (p:=⟨w.heap.size,2,none⟩) f];simp
theorem cu(w:World)(b)(T):∀j u,b.toList[j]? =some u->(w.alloc (.cells b T)).cell? ((⟨w.heap.size,0,none⟩:Addr).add j)=some u:=by simp[nR]
theorem pV{b}(d:(w.alloc o).grownBy w' b){a}(h:w.cell? a=some v)(c:some a.block≠b):w'.cell? a=some v:=by
 refine d.cell ?_ c
 grind[World.block_lt_of_cell?,World.cell?_of_block,Below.heap_alloc]
theorem own_ne(h:w.ownsRow I e A v n J)(k)(c:w.heap.size<=k):some k≠v.ownBlock:=by intro b;have:=(h.lt k b.symm).2;omega
theorem dX(h:Below B a w)(f:B<=w.heap.size)(b:w.ownsRow B e A v n J)(d:(w.alloc o).grownBy w' v.ownBlock):Below B a w':=
 (h.alloc f o).grown d (by simp;omega) λk c=>(b.lt k c).1
theorem FV(h:w.ownsRow I e A v n J)(k):(w.drewN k).ownsRow I e A v n J:=h
theorem a1q(a b)(s):∀u∈[Value.int .i64 a,Value.int .i64 b,Value.string s],u.oneCell'=true:=by intro u g;exact ahi
theorem yG(w:World)(o)(b)(T):∀j u,b.toList[j]? =some u->((w.alloc o).alloc (.cells b T)).drew.cell? ((⟨w.heap.size+1,0,none⟩:Addr).add j)=some u:=by
 intro j u h;have:=cu (w.alloc o) b T j u h
 simp_all
theorem yH{c}(h:Below B a w)(g:B<=w.heap.size)(b:w.ownsRow B e A v n J)(f:((w.alloc o).alloc c).drew.grownBy w' v.ownBlock):Below B a w':=
 ((h.alloc g o).alloc (by simp;omega) c).drew.grown f (by simp;omega) λk d=>(b.lt k d).1
theorem wJ(w:World)(o)(b)(T):∀j u,b.toList[j]? =some u->((w.alloc o).alloc (.cells b T)).cell? ((⟨w.heap.size+1,0,none⟩:Addr).add j)=some u:=by
 intro j u h;have:=cu (w.alloc o) b T j u h
 simp_all
theorem Uv{c}(h:Below B a w)(g:B<=w.heap.size)(b:w.ownsRow B e A v n J)(f:((w.alloc o).alloc c).grownBy w' v.ownBlock):Below B a w':=
 ((h.alloc g o).alloc (by simp;omega) c).grown f (by simp;omega) λk d=>(b.lt k d).1
end Rl
end Go.Proofs.Zq
