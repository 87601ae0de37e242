import Derived.Test.YtkdjjnkpfpogkaaGreatDoorK11
set_option maxHeartbeats 8000000
set_option linter.all false
namespace Go.Proofs.Zb
variable{σ:Ren}{w:World}{v:Value}{b g g1:Goroutine}{fr:Frame}{cs:List Frame}
section
variable[Special]
open Go.Conc (G rcase scase)
structure LK where
 N:Nat
 N':Nat
 kb:List Frame
 Dj:Ren
namespace LK
variable(K:LK)
abbrev ch:Nat:=K.N+2
abbrev bo:Nat:=K.N+3
abbrev ch':Nat:=K.N'+2
abbrev l8:Nat:=K.N'+3
def Sh(c:Nat):Prop:=c=K.l8\/c=K.ch'
end LK
structure GU(K:LK)(w v:World):Prop where
 size:w.heap.size<=v.heap.size
 keep:∀b:Nat,b<K.N+4->(∀c k,¬K.Dj b c k)->b≠K.ch->v.heap[b]? =w.heap[b]?
 chan:∀room buf cl s r tm,w.heap[K.ch]? =some (.chan room buf cl s r tm)->∃ext cl' s' r',v.heap[K.ch]? =some (.chan room (buf++ext) cl' s' r' tm)
omit [Special]in
theorem GU.refl(K)(w):GU K w w:=⟨afA _,λ_ _ _ _=>rfl,λa d c s r e h=>⟨#[],c,s,r,by rw[h];simp⟩⟩
omit [Special]in
theorem GU.trans{K}{w v u}(h:GU K w v)(k:GU K v u):GU K w u:=by
 refine⟨afC h.size k.size,λb e c d=>(k.keep b e c d).trans (h.keep b e c d),λa p y s r q j=> ?_⟩;obtain⟨o,c1,t,x,m⟩:=h.chan _ _ _ _ _ _ j;obtain⟨n,c2,f,i,l⟩:=k.chan _ _ _ _ _ _ m
 exact⟨o++n,c2,f,i,by rw[l,ah5]⟩
structure SW(Q:Program)(n:au)(A1:List Nat)(K:LK)(ρ:Ren)(S:Nat->Prop)(w w':World):Prop where
 wr:WR (aT Q (BW A1)) Q.globals.size ρ w w'
 tidy:aS w
 old:∀b c k,ρ b c k->K.Dj b c k\/(K.N+4<=b/\K.N'+4<=c)
 le:K.Dj.le ρ
 low:∀b c k,K.Dj b c k->b≠K.bo/\b≠K.ch/\c≠K.l8/\c≠K.ch'/\Q.globals.size<=b/\b<K.N+4/\c<K.N'+4
 ran:∀b c k,ρ b c k->S c
 box:kL n K.bo K.ch w
 Dg:kL n K.l8 K.ch' w'
 room:∃buf s r,w.heap[K.ch]? =some (.chan au.bN.toNat buf false s r false)
 size:K.N+4<=w.heap.size
 size':K.N'+4<=w'.heap.size
 Ua:Q.globals.size<=K.N/\Q.globals.size<=K.N'
 sh:¬S K.l8/\¬S K.ch'
 kn:Special.old.heap.size<=K.N'
def jb(P:Program):Frame:={(default:Frame)with fn:=P.funcs.size,defers:=[],mode:=.panicking [goexitEntry]}
def SS(n:au)(c:List Nat)(K:LK):Bool->Scope->Prop:=λa d=>d=if a then XS n c K.ch K.ch' else BW c
def btS(n:au)(fr:Frame):Prop:=fr.fn=n.qX/\fr.kind=.deferred
def Ub(Q P:Program)(n:au)(e:List Nat)(K:LK)(f:Ren)(g b:Goroutine):Prop:=
 ∃d h fr cs a c,g=G fr cs/\b=G a c/\dm (SS n e K) (btS n) Q (BW e) f d K.kb [jb P] h fr cs a c/\d K.bo K.l8 .cells/\d K.ch K.ch' .chan
def a4A(Q:Program)(n:au)(e:List Nat)(K:LK)(d:Ren)(f c:Frame):Prop:=
 ∃a,bn Q (XS n e K.ch K.ch') d a f c/\f.mode=.run/\f.roundOf=none/\btS n c/\a K.bo K.l8 .cells/\a K.ch K.ch' .chan
def a7V(Q P:Program)(n:au)(e:List Nat)(K:LK)(d:Ren)(g b:Goroutine):Prop:=
 ∃(f a:Frame)(k c:List Item),a4A Q n e K d {f with todo:=k} {a with todo:=c}/\f.todo=.inRegion (au.Ak n) [0,1,2,3]::k/\g=G f K.kb/\
  b=G {a with tmps:=a.tmps.setIfInBounds 35 (.chan (some K.ch')),todo:=.inRegion (au.c9 n) [1,2]::c} [jb P]
def AtSend(Q P:Program)(n:au)(e:List Nat)(K:LK)(d:Ren)(v:Value)(g b:Goroutine):Prop:=
 ∃(f a:Frame)(k c:List Item),a4A Q n e K d {f with todo:=k} {a with todo:=c}/\f.tmps.getD 35 undef=.chan (some K.ch)/\a.tmps.getD 35 undef=.chan (some K.ch')/\f.tmps.getD 36 undef=v/\a.tmps.getD 36 undef=v/\eH 5 v=true/\
  g=G {f with todo:=.inRegion (au.Ak n) [3]::k} K.kb/\b=G {a with todo:=.inRegion (au.c9 n) [2]::c} [jb P]
def GV(Q:Program)(n:au)(K:LK)(g g1:Goroutine):Prop:=∃m,dA Q true (kL n K.bo K.ch) (λ_=>True) (λx=>x=g1) m g
inductive SSt(Q P:Program)(n:au)(A1:List Nat)(K:LK)(ρ:Ren)(g b:Goroutine):Nat->Prop
 |start (h:∃g1 b1,(∀w,stepG P false b w=.go b1 w #[])/\b.status=.running/\Go.Conc.core b=b/\GV Q n K g g1/\dA P false (kL n K.l8 K.ch') (fG K.l8) (λb2=>Ub Q P n A1 K ρ g1 b2) 5 b1):SSt Q P n A1 K ρ g b 7
 |run (h:Ub Q P n A1 K ρ g b):SSt Q P n A1 K ρ g b 0
 |hand (m:Nat) (g1:Goroutine) (hq:GV Q n K g g1) (h:dA P false (kL n K.l8 K.ch') (fG K.l8) (λb1=>Ub Q P n A1 K ρ g1 b1) (m+1) b):SSt Q P n A1 K ρ g b (m+1)
 |a4B (h:dA P false (kL n K.l8 K.ch') (fG K.l8) (λb1=>a7V Q P n A1 K ρ g b1) 1 b):SSt Q P n A1 K ρ g b 2
 |aai (h:a7V Q P n A1 K ρ g b):SSt Q P n A1 K ρ g b 1
 |send (v:Value) (h:AtSend Q P n A1 K ρ v g b):SSt Q P n A1 K ρ g b 0
def SI(Q P:Program)(c:Frame)(R:Value->World->Prop)(n:au)(d:List Nat)(K:LK)(S:Nat->Prop)(x:Goroutine×World)(j:Nat)(b:Goroutine)(e:World):Prop:=
 ∃a,SW Q n d K a S x.2 e/\VT Q c R x.1 x.2/\SSt Q P n d K a x.1 b j
end
section
variable[Special]
open Go.Conc (G rcase scase QuitsIn)
section
variable{L:Code->Prop}{N:Nat}{A:Ren}{w J I v:World}
theorem WR.other'(h:WR L N A w J)(f:Calm I)(e:N<=I.heap.size)(a:∀b c k,A b c k->I.heap[c]? =J.heap[c]?):WR L N A w I:=
 ⟨h.low,h.big,e,h.left,h.right,λb c k x=>by obtain⟨o,d,m,l,j,i⟩:=h.obj b c k x;exact⟨o,d,m,(a b c k x).trans l,j,i⟩,h.held.others f (λ_ _ _ _=>rfl) a⟩
theorem WR.Ma(h:WR L N A w J)(e:N<=v.heap.size)(a:∀b c k,A b c k->v.heap[b]? =w.heap[b]?):WR L N A v J:=
 ⟨h.low,e,h.Dl,h.left,h.right,λb c k x=>by obtain⟨o,d,l,j,i,f⟩:=h.obj b c k x;exact⟨o,d,(a b c k x).trans l,j,i,f⟩,h.held.others h.held.calm a (λ_ _ _ _=>rfl)⟩
end
def EX(S:Nat->Prop)(w a:World)(y:Nat):Prop:=S y\/(w.heap.size<=y/\y<a.heap.size)
theorem IX{z}{N}{s}{S D}{o v j}(C:Move s σ w o v j)(q:WR z N σ v j)(A:∀b c k,s b c k->S c){e}(h:Lj σ e):Xk (EX S o j) D j.heap.size e:=by
 have l:∀b c k,σ b c k->EX S o j c:=λb c k x=>(C.new b c k x).elim (λy=>.inl (A _ _ _ y)) λy=>.inr ⟨y.2,(q.lt x).2⟩
 obtain⟨p,wr,t⟩:=e;cases p with
 |cell a=>
  obtain⟨⟨b,k,n⟩,i⟩:=h;dsimp only at i;subst i;refine⟨λx d=> ?_,by simp,by simp,(q.lt n).2⟩;have:x=⟨.cell a,wr,.plain⟩:=by cases wr<;>simpa[MemAct.ofEvent,MemAct.touch?]using d.symm
  subst this;exact .inl (l _ _ _ n)
 |obj r=>
  obtain⟨⟨b,k,n⟩,i⟩:=h;refine⟨λx d=> ?_,by simp,by simp,by cases wr<;>cases t<;>exact(q.lt n).2⟩;have:x.loc=.obj r:=by cases wr<;>cases t<;>simp[MemAct.ofEvent,MemAct.touch?]at d<;>subst d<;>rfl
  refine .inl ?_
  rw[this]
  exact l _ _ _ n
 |mark m=>
  obtain⟨B,u,i⟩:=h;dsimp only at u i;subst u i;obtain rfl|⟨f,rfl⟩:=B<;>exact⟨λx d=>by simp[MemAct.ofEvent,MemAct.touch?]at d,by simp,by simp,trivial⟩
 |_=>exact h.elim
section
variable{Q P:Program}{c:Frame}{n:au}{A0 J:List Nat}{zS zR:Value}{d1 d2:ChanDir}{iR:TypeInfo}{R:Value->World->Prop}{K:LK}{I:Ren}{S:Nat->Prop}{w A L:World}
theorem SW.DD(h:SW Q n J K I S w A){b c}{k}(x:I b c k):b≠K.bo/\b≠K.ch/\c≠K.l8/\c≠K.ch'/\Q.globals.size<=b:=by
 obtain y|⟨y,z⟩:=h.old b c k x
 ·obtain⟨p,m,j,f,d,_⟩:=h.low b c k y
  exact⟨p,m,j,f,d⟩
 ·have D:=h.wr.big
  have a:=h.wr.low b c k x
  exact⟨by simp only[LK.bo];omega,by simp only[LK.ch];omega,by simp only[LK.l8];omega,gm,a⟩
theorem SW.world'(h:SW Q n J K I S w A)(f:Calm L)(a:A.heap.size<=L.heap.size)(d:∀y,S y->L.heap[y]? =A.heap[y]?)(e:L.heap[K.l8]? =A.heap[K.l8]?):SW Q n J K I S w L:=
 ⟨h.wr.other' f (afC h.wr.Dl a) λb c k x=>d c (h.ran b c k x),h.tidy,h.old,h.le,h.low,h.ran,h.box,e.trans h.Dg,h.room,h.size,afC h.size' a,h.Ua,h.sh,h.kn⟩
theorem SW.step(h:SW Q n J K I S w A){v d}(u:WR (aT Q (BW J)) Q.globals.size σ v d)(E:aS v)(a:Move I σ w A v d):SW Q n J K σ (EX S A d) v d/\GU K w v/\(∀y,y<A.heap.size->¬S y->d.heap[y]? =A.heap[y]?)/\v.heap[K.ch]? =w.heap[K.ch]? :=by
 have C:=h.size;have q:=h.size'
 have j:∀b:Nat,b<K.N+4->(∀c k,¬K.Dj b c k)->v.heap[b]? =w.heap[b]? :=λb t l=>a.keep b (by omega) λc k x=>by obtain y|⟨y,_⟩:=h.old b c k x<;>grind
 have o:∀y:Nat,y<A.heap.size->¬S y->d.heap[y]? =A.heap[y]? :=λy B l=>a.keep' y B λb k x=>l (h.ran b y k x)
 have m:∀c k,¬K.Dj K.bo c k:=λc k x=>(h.low _ _ _ x).1 rfl
 have e:∀c k,¬K.Dj K.ch c k:=λc k x=>(h.low _ _ _ x).2.1 rfl
 have f:d.heap[K.l8]? =A.heap[K.l8]? :=a.keep' _ (by grind) λb k x=>(h.DD x).2.2.1 rfl
 refine⟨⟨u,E,λb c k x=> ?_,Ren.le_trans h.le a.le,h.low,λb c k x=> ?_,(j K.bo (by simp) m).trans h.box,f.trans h.Dg,?_,afC h.size a.grow,afC h.size' a.grow',h.Ua,⟨λy=>y.elim h.sh.1 λz=>by have:=z.1;simp only[LK.l8]at this;omega,λy=>y.elim h.sh.2 λz=>by have:=z.1;simp only[LK.ch']at this;omega⟩,h.kn⟩,⟨a.grow,λb t l _=>j b t l,λp i F s r G H=>⟨#[],F,s,r,?_⟩⟩,o,j K.ch (by simp) e⟩
 ·obtain y|⟨y,z⟩:=a.new b c k x
  ·exact h.old b c k y
  ·omega
 ·obtain y|⟨y,z⟩:=a.new b c k x
  ·exact .inl (h.ran b c k y)
  ·exact .inr ⟨z,(u.lt x).2⟩
 ·obtain⟨i,s,r,D⟩:=h.room
  exact⟨i,s,r,(j K.ch (by simp) e).trans D⟩
 grind
end
end
section
variable[Special]
open Go.Conc (G rcase scase QuitsIn)
section
variable{Q P:Program}{c:Frame}{n:au}{V A1:List Nat}{I J:Value}{U O:ChanDir}{L:TypeInfo}{R:Value->World->Prop}{K:LK}{A:Ren}{S:Nat->Prop}{w w' w1:World}
structure Xo(Q P:Program)(c:Frame)(R:Value->World->Prop)(n:au)(A1:List Nat)(K:LK)(S:Nat->Prop)(x:Goroutine×World)(j:Nat)(b:Goroutine)(w':World)(b':Goroutine)(w2:World)(es:Array Event)(x':Goroutine×World)(j':Nat):Prop where
 step:stepG P false b w'=.go b' w2 es
 size:w'.heap.size<=w2.heap.size
 ev:∀e∈es,Xk (EX S w' w2) K.Sh w2.heap.size e
 keep:∀y,y<w'.heap.size->¬S y->w2.heap[y]? =w'.heap[y]?
 low:Prod.Lex (Below Q c) (· < ·) (x',j') (x,j)
 way:x'=x\/Below Q c x' x
 rel:GU K x.2 x'.2
 chan:x'.2.heap[K.ch]? =x.2.heap[K.ch]?
 inv:SI Q P c R n A1 K (EX S w' w2) x' j' b' w2
omit [Special]in
theorem p9{S}{w}:EX S w w=S:=funext λy=>propext ⟨λh=>h.elim id λh=>by omega,.inl⟩
theorem wI{s}{l}(e:KA Q c)(f:VT Q c R (G fr cs) w)(a:fr.todo=.code (.refuse s)::l)(j:fr.mode=.run):False:=by
 obtain⟨T,d,_,h⟩:=f.LY e rfl (λ⟨_,h,_⟩=>jD) w.tape w.drawn;have⟨x,this⟩:∃x,stepG Q true (G fr cs) (re T d w)=.ended (.unsupported x (fr.pos Q)) (re T d w):=⟨_,by simp only[stepG,G,j,stepG.exec,a];rfl⟩
 rw[this]at h
 exact h
omit [Special]in
theorem rU(d:K.l8<w'.heap.size){e}(h:fG K.l8 e){M}:Xk M K.Sh w'.heap.size e:=by
 unfold fG at h;subst h;refine⟨λx a=> ?_,by simp,by simp,d⟩;have:x=⟨.cell ⟨K.l8,0,none⟩,false,.plain⟩:=by simpa[MemAct.ofEvent,MemAct.touch?]using a.symm
 subst this;exact .inr ⟨.inl rfl,rfl⟩
theorem SW.Mc(h:SW Q n A1 K A S w w'):K.l8<w'.heap.size:=(afD.1 h.Dg).1
theorem GV.go(i:GV Q n K g g1)(j:kL n K.bo K.ch w)(k:VT Q c R g w):VT Q c R g1 w/\((g1,w)=(g,w)\/Below Q c (g1,w) (g,w)):=by
 obtain⟨m,h⟩:=i;obtain⟨f,rfl,a,_⟩:=h.chain (c:=c) (w:=w) λT d=>j
 exact⟨a.vt k,a.low.imp (λe=>by rw[e]) id⟩
theorem a10(d:SW Q n A1 K A S w w')(r:VT Q c R g w){m}(p:GV Q n K g g1)(h:dA P false (kL n K.l8 K.ch') (fG K.l8) (λk=>Ub Q P n A1 K A g1 k) (m+1) b):
  ∃u j s t,Xo Q P c R n A1 K S (g,w) (m+1) b w' u w' j s t:=by
 obtain⟨_,_,_,k,j,f,i,q⟩:=h;cases m with
 |succ m=>exact⟨k,j,(g,w),m+1,f _ d.Dg,afA _,λe l=>rU d.Mc (i e l),λ_ _ _=>rfl,.right _ (by omega),.inl rfl,.refl _ _,rfl,by rw[p9];exact⟨A,d,r,.hand m g1 p q⟩⟩
 |zero=>
  obtain⟨o,a⟩:=p.go d.box r;refine⟨k,j,(g1,w),0,f _ d.Dg,afA _,λe l=>rU d.Mc (i e l),λ_ _ _=>rfl,?_,a,.refl _ _,rfl,by rw[p9];exact⟨A,d,o,.run q⟩⟩;obtain e|x:=a<;>grind
theorem Xp(f:SW Q n A1 K A S w w'){d}(i:VT Q c R g w)(a:∀w,stepG P false b w=.go d w #[])(e:GV Q n K g g1)(h:dA P false (kL n K.l8 K.ch') (fG K.l8) (λj=>Ub Q P n A1 K A g1 j) 5 d):
  Xo Q P c R n A1 K S (g,w) 7 b w' d w' #[] (g,w) 5:=
 ⟨a _,afA _,by simp,λ_ _ _=>rfl,.right _ (by omega),.inl rfl,.refl _ _,rfl,by rw[p9];exact⟨A,f,i,.hand 4 g1 e h⟩⟩
theorem Xq(f:SW Q n A1 K A S w w')(m:VT Q c R g w)(h:dA P false (kL n K.l8 K.ch') (fG K.l8) (λj=>a7V Q P n A1 K A g j) 1 b):
  ∃o i,Xo Q P c R n A1 K S (g,w) 2 b w' o w' i (g,w) 1:=by
 obtain⟨_,_,_,j,i,a,d,k⟩:=h
 exact⟨j,i,a _ f.Dg,afA _,λe l=>rU f.Mc (d e l),λ_ _ _=>rfl,.right _ (by omega),.inl rfl,.refl _ _,rfl,by rw[p9];exact⟨A,f,m,.aai k⟩⟩
variable(X:Seat Q P c n V A1 I J U O L)(Y:Under c K.kb)
include X Y
theorem Uc(y:SW Q n A1 K A S w w'){z:Ren}{cx:Scope}{o:Frame}{t:List Frame}(hV:VT Q c R (G fr cs) w)(N:dm (SS n A1 K) (btS n) Q (BW A1) A z K.kb [jb P] cx fr cs o t)(d:z K.bo K.l8 .cells/\z K.ch K.ch' .chan)(i:fr.mode=.returning->cx.live=none)(D:fr.mode=.run->¬a0S cx.live fr o)(hn:¬xH K.kb (G fr cs)):
  ∃b' w2 es x',Xo Q P c R n A1 K S (G fr cs,w) 0 (G o t) w' b' w2 es x' 0:=by
 obtain⟨g1,v,g1',v',es',σ,p,M,C,q,s,W,Z,E⟩:=N.next (B:=BW A1) (main':=false) X.env X.heads (λ_ h=>h) X.Xn X.res (λg h=>by simp[BW]at h) X.door Y (by simp[SS])
  (λx u⟨h1,h2⟩=>⟨by rw[(dH x u).fn,h1],by rw[(dH x u).kind,h2]⟩) i D (λ_ n'⟨h1,h2⟩_ ha=>⟨by rw[ha.fn,h1],by rw[ha.kind,h2]⟩) y.wr y.tidy hV hn
 obtain⟨T,hrel,j,l⟩:=y.step s W Z;refine⟨g1',v',es',(g1,v),C,Z.grow',λe F=>IX Z s y.ran (E e F),j,.left _ _ (.single p),.inr (.single p),hrel,l,σ,T,M,.run ?_⟩;cases q with
 |on cy f f' fs fs' m=>exact⟨_,cy,f,fs,f',fs',rfl,rfl,m,.inr d.1,.inr d.2⟩
 |enter f a a' H F cy k k' r r' m=>exact⟨_,BW A1,_,_,_,_,rfl,rfl,dm.above (BW A1) rfl (by simp[SS]) _ _ ((bn.enter rfl rfl (X.text1 f _ F) H).any rfl (Ren.uP _ _)) rfl cy k k' r r' m,.inr d.1,.inr d.2⟩
end
end
section
variable[Special]
open Go.Conc (G rcase scase QuitsIn solo)
section
variable{Q P:Program}{A:Scope}{J I σ:Ren}
theorem bn.dead{x k}(h:bn Q A J I x k){d}(o:A.qR d=false)(i:∀y∈A.fix,y.1≠d){l}(m:VR I v l):bn Q A J I {x with tmps:=x.tmps.setIfInBounds d v} {k with tmps:=k.tmps.setIfInBounds d l}:=by
 have c:∀(a:Array Value)(u:Value)(t:Nat),t≠d->(a.setIfInBounds d u).getD t undef=a.getD t undef:=λa u t f=>Au
 refine⟨h.fn,λt f=> ?_,h.full.set d m,h.todo,h.defers,h.mode,h.kind,h.kind',h.round,h.put,λy j=> ?_,λn=>by dsimp only;rw[Array.size_setIfInBounds];exact h.len n⟩
 ·have:t≠d:=λe=>by rw[e,o]at f;cases f
  dsimp only
  rw[c _ _ _ this,c _ _ _ this];exact h.live t f
 ·exact Ar
theorem bn.set{x k}(h:bn Q A J I x k){d}(i:∀y∈A.fix,y.1≠d){v m}(n:VR J v m)(l:J.le I):bn Q A J I {x with tmps:=x.tmps.setIfInBounds d v} {k with tmps:=k.tmps.setIfInBounds d m}:=by
 have c:∀(a:Array Value)(u:Value)(t:Nat),t≠d->(a.setIfInBounds d u).getD t undef=a.getD t undef:=λa u t f=>Au
 refine⟨h.fn,λt f=> ?_,h.full.set d (n.mono l),h.todo,h.defers,h.mode,h.kind,h.kind',h.round,h.put,λy j=> ?_,λo=>by dsimp only;rw[Array.size_setIfInBounds];exact h.len o⟩
 ·dsimp only
  by_cases e:t=d
  ·subst e
   rw[afM,afM,ag3,ag3,afN rfl,afN rfl,<-h.full.size]
   split
   ·exact n
   ·exact vH
  ·rw[c _ _ _ e,c _ _ _ e];exact h.live t f
 ·exact Ar
omit [Special]in
theorem PD{s}{p}{u}{a}(h:(do pure (.value (<-s)):Sem Next).run p w=.ok a u):∃v,a=.value v/\s.run p w=.ok v u:=by
 rw[Sem.run_bind]at h
 cases c:s.run p w<;>simp_all
end
theorem a11{Z}{N M}{w'}(hW:WR Z M σ w w')(hl:∀b c k,σ b c k->N<=b){a}(hf:Flat N w a){J}(h:VR σ (.agg a) J):J=.agg a/\eH 5 (.agg a)=true:=by
 obtain⟨x,y,z,s,rfl,hi⟩:=hf
 have d:∀v v',(v=x\/v=y\/v=z)->VR σ v v'->v'=v/\eH 4 v=true:=λv v' hv Y=>by
  obtain⟨k,m,rfl⟩|⟨q,rfl,hq⟩:=hi v hv
  ·cases Y;exact bG
  ·exfalso
   cases Y with
   |ptr _ E I=>
    cases I with
    |mk b c off L k R=>
     have:=hl _ _ _ R;obtain hq|⟨x,bb,hx,hxn⟩:=hq
     ·dsimp only at hq;omega
     ·obtain⟨o,o',h1,_,_,O⟩:=hW.obj _ _ _ R
      dsimp only at hx
      rw[hx]at h1
      cases h1;cases O with
      |number _ E _ I=>
       cases I<;>grind
 cases h with
 |agg _ E hs F=>
  have O:E.size=4:=by rw[<-hs];rfl
  have e:∀i(hi:i<4),E[i]? =some (E[i]'(by omega)):=λi hi=>ag5 (by omega)
  obtain⟨e0,X⟩:=d x _ (.inl rfl) (F 0 x _ rfl (e 0 (by omega)));obtain⟨e1,W⟩:=d y _ (.inr (.inl rfl)) (F 1 y _ rfl (e 1 (by omega)));obtain⟨e2,V⟩:=d z _ (.inr (.inr rfl)) (F 2 z _ rfl (e 2 (by omega)))
  have e3:E[3]'(by omega)=.string s:=by have Q:=F 3 (.string s) _ rfl (e 3 (by omega));generalize E[3]'(by omega)=u at Q;cases Q;rfl
  refine⟨?_,?_⟩
  ·congr 1
   apply Array.ext<;>grind
  ·have U:eH 4 (.string s)=true:=rfl
   have:eH 5 (.agg #[x,y,z,.string s])=(#[x,y,z,.string s].all (eH 4)):=rfl
   rw[this]
   simp[X,W,V,U]
section
variable{Q P:Program}{c:Frame}{n:au}{Z A:List Nat}{O U:Value}{Y X:ChanDir}{V:TypeInfo}{R:Value->World->Prop}{K:LK}{J:Ren}{S:Nat->Prop}{w I w1:World}
variable(st:Seat Q P c n Z A O U Y X V)(hub:Under c K.kb)
include st hub
theorem a13(q:SW Q n A K J S w I)(hV:VT Q c R g w)(h:a7V Q P n A K J g b):∃b' w2 es x',Xo Q P c R n A K S (g,w) 1 b I b' w2 es x' 0:=by
 obtain⟨f,f',k,z,⟨τ,hF,H,hr,⟨r,p⟩,adO,m⟩,ht,rfl,rfl⟩:=h;have hfix:=hF.fix (0,.pointer (some ⟨K.ch+1,0,none⟩),.pointer (some ⟨K.ch'+1,0,none⟩)) (by simp[XS]);obtain⟨_,hs0,adP⟩:=hfix;dsimp only at hs0 adP r p H hr;have hfn:f.fn=n.qX:=by have:=hF.fn;dsimp only at this;rw[<-this];exact r
 have hk1:f.kind=.normal:=hF.kind
 have hl1:dA Q true (kL n K.bo K.ch) (λ_=>True) (λx=>x=G {f with tmps:=f.tmps.setIfInBounds 35 (.chan (some K.ch)),todo:=.inRegion (au.Ak n) [1,2,3]::k} K.kb) 1 (G f K.kb):=by refine dA.value (v:=.chan (some K.ch)) (es:=#[⟨.cell ⟨K.bo,0,none⟩,false,false⟩]) ⟨ht,H,hr,rfl,rfl⟩ hk1 (st.ZT.quiet _ (.inr (.inl hfn))) (by simp[Loc.isMemory]) (λw hw=>Eu st.ZT (x:=.tmp 0) rfl hs0 hw) (nH:={f with tmps:=f.tmps.setIfInBounds 35 (.chan (some K.ch)),todo:=.inRegion (au.Ak n) [1,2,3]::k}) (by unfold Frame.finish;rw[ht];rfl) rfl
 obtain⟨_,rfl,adQ,ac2⟩:=hl1.chain (c:=c) (w:=w) λT d=>q.box
 have hV1:=adQ.vt hV;have hb1:=ac2 (by omega)
 have hFa:bn Q (XS n A K.ch K.ch') J τ {f with tmps:=f.tmps.setIfInBounds 35 (.chan (some K.ch)),todo:=k} {f' with tmps:=f'.tmps.setIfInBounds 35 (.chan (some K.ch')),todo:=z}:=
  hF.dead (d:=35) (by rfl) (by simp[XS]) (.chan _ _ m)
 have ac3:=hFa.eval (λg h=>by simp[XS]at h);have ac4:=TM st.env (ok:=aT Q (BW A)) (E:=a4i (BW A)) st.heads (gl:=XS n A K.ch K.ch') (λf k h=>h) st.Xn (λf=>⟨rfl,rfl⟩) ac3 n.Xm (by simp[opB,au.Xm,Op.operands,gH,Scope.qR,XS,Py]);have ac5:vK {f with tmps:=f.tmps.setIfInBounds 35 (.chan (some K.ch)),todo:=.inRegion (au.Ak n) [1,2,3]::k} (au.Ak n) 1 [2,3] k n.Xm:=⟨rfl,H,hr,rfl,rfl⟩;have M:∀{x:Frame},x.mode=.run->¬AtRet c (G x K.kb):=λB⟨_,h,_⟩=>by dsimp only[G]at h;rw[B]at h;cases h
 have W:Dw {f with tmps:=f.tmps.setIfInBounds 35 (.chan (some K.ch)),todo:=.inRegion (au.Ak n) [1,2,3]::k}:=hFa.TN
 have hA:=qQ.of (s:=execOp (Frame.eval {f with tmps:=f.tmps.setIfInBounds 35 (.chan (some K.ch)),todo:=k}) n.Xm) (Q:=Q) (w:=w) λT d=>by
  obtain⟨T,d,ha,h⟩:=hV1.LY st.door rfl (M H) T d
  rw[wH ac5]at h
  exact⟨T,d,ha,GM hub W (λx u e=>ac4.fV st.env.tables (re T d w) I (q.wr.re T d) q.tidy x u e) h⟩
 obtain⟨L,a,v,σ,a',v',ev,r0,r1,r1',r2,hW1,hM,hev⟩:=IV (gl:=BW A) st.env ac4 q.wr q.tidy hA;obtain⟨T0,hT0⟩:=JM L;obtain⟨u,rfl,hu⟩:=PD (r0 T0 0 hT0);obtain⟨j,rfl,harr⟩:=st.KY _ _ _ _ hu;obtain⟨u',hua,hu'⟩:=PD r1;subst hua;cases r2;rename_i hvr;have hN1:=hM.noPending hW1 q.tidy;obtain⟨hS2,hrel,hkeep,ac6⟩:=q.step hW1 hN1 hM
 have hnx:qV Q c (G {f with tmps:=(f.tmps.setIfInBounds 35 (.chan (some K.ch))).setIfInBounds 36 (.agg j),todo:=.inRegion (au.Ak n) [2,3]::k} K.kb,v) (G {f with tmps:=f.tmps.setIfInBounds 35 (.chan (some K.ch)),todo:=.inRegion (au.Ak n) [1,2,3]::k} K.kb,w):=
  ⟨M H,L,.Fg rfl λT d D=>⟨_,by rw[mM ac5 (by grind) (r0 T d D)];rfl⟩⟩
 have hV2:=VT.Ap (x:=(_,w)) hV1 hnx;dsimp only at hV2;have ac7:vK {f with tmps:=(f.tmps.setIfInBounds 35 (.chan (some K.ch))).setIfInBounds 36 (.agg j),todo:=.inRegion (au.Ak n) [2,3]::k} (au.Ak n) 2 [3] k n.eqR:=⟨rfl,H,hr,rfl,rfl⟩
 have hFb:bn Q (XS n A K.ch K.ch') σ (σ.or τ) {f with tmps:=(f.tmps.setIfInBounds 35 (.chan (some K.ch))).setIfInBounds 36 (.agg j),todo:=k} {f' with tmps:=(f'.tmps.setIfInBounds 35 (.chan (some K.ch'))).setIfInBounds 36 u',todo:=z}:=by
  have adR:bn Q (XS n A K.ch K.ch') J τ {f with tmps:=f.tmps.setIfInBounds 35 (.chan (some K.ch)),todo:=k} {f' with tmps:=f'.tmps.setIfInBounds 35 (.chan (some K.ch')),todo:=z}:=
   hF.dead (d:=35) (by rfl) (by simp[XS]) (.chan _ _ m)
  exact(adR.mono hM.le).set (d:=36) (by simp[XS]) hvr (Ren.uP _ _)
 have N:f.tmps.size=39:=hF.len (by simp[XS]);have hsz':f'.tmps.size=39:=Ay
 have h36:((f.tmps.setIfInBounds 35 (.chan (some K.ch))).setIfInBounds 36 (.agg j)).getD 36 undef=.agg j:=Aw
 have aaj:((f'.tmps.setIfInBounds 35 (.chan (some K.ch'))).setIfInBounds 36 u').getD 36 undef=u':=Aw
 have h35:((f.tmps.setIfInBounds 35 (.chan (some K.ch))).setIfInBounds 36 (.agg j)).getD 35 undef=.chan (some K.ch):=Aq
 have aak:((f'.tmps.setIfInBounds 35 (.chan (some K.ch'))).setIfInBounds 36 u').getD 35 undef=.chan (some K.ch'):=Aq
 have key:∃x,(∀T d,(execOp (Frame.eval {f with tmps:=(f.tmps.setIfInBounds 35 (.chan (some K.ch))).setIfInBounds 36 (.agg j),todo:=.inRegion (au.Ak n) [2,3]::k}) n.eqR).run Q (re T d v)=.ok (.value x) (re T d v))/\Flat Q.globals.size v j:=by
  rcases st.ZW (Frame.eval {f with tmps:=(f.tmps.setIfInBounds 35 (.chan (some K.ch))).setIfInBounds 36 (.agg j),todo:=.inRegion (au.Ak n) [2,3]::k}) j h36 harr v with h|h
  ·exact h
  ·exfalso
   obtain⟨T,d,_,hg⟩:=hV2.LY st.door rfl (M H) v.tape v.drawn
   rw[wH ac7]at hg
   obtain⟨x,u2,B,hheap,hni⟩:=h T d;have hc2:Dw {f with tmps:=(f.tmps.setIfInBounds 35 (.chan (some K.ch))).setIfInBounds 36 (.agg j),todo:=.inRegion (au.Ak n) [2,3]::k}:=hFb.TN;obtain⟨n1,u3,e⟩|⟨g1,u3,e⟩:=GM hub hc2 (λy u3 e=>by rw[B]at e;cases e;intro i o C;rw[hheap]at C;exact hN1 i o C) hg<;>grind
 obtain⟨xb,hxb,ac8⟩:=key;obtain⟨rfl,F⟩:=a11 hW1 (λb c k x=>(hS2.DD x).2.2.2.2) ac8 hvr
 have hnx2:qV Q c (G {f with tmps:=(f.tmps.setIfInBounds 35 (.chan (some K.ch))).setIfInBounds 36 (.agg j),todo:=.inRegion (au.Ak n) [3]::k} K.kb,v) (G {f with tmps:=(f.tmps.setIfInBounds 35 (.chan (some K.ch))).setIfInBounds 36 (.agg j),todo:=.inRegion (au.Ak n) [2,3]::k} K.kb,v):=
  ⟨M H,[],.Fg rfl λT d _=>⟨_,by rw[mM ac7 (by grind) (hxb T d)];rfl⟩⟩
 have hV3:=VT.Ap (x:=(_,v)) hV2 hnx2;have hk':f'.kind=.deferred:=p
 have hm':f'.mode=.run:=by obtain⟨_,h⟩|⟨h,_⟩:=hF.mode<;>grind
 have hr':f'.roundOf=none:=by
  have:=hF.round;dsimp only at this
  exact tJ
 have hop':vK {f' with tmps:=f'.tmps.setIfInBounds 35 (.chan (some K.ch')),todo:=.inRegion (au.c9 n) [1,2]::z} (au.c9 n) 1 [2] z n.Xm:=⟨rfl,hm',hr',rfl,rfl⟩;have r2:(execOp (Frame.eval {f' with tmps:=f'.tmps.setIfInBounds 35 (.chan (some K.ch')),todo:=.inRegion (au.c9 n) [1,2]::z}) n.Xm).run P I=.ok (.value (.agg j)) v':=r1;have r2':(execOp (Frame.eval {f' with tmps:=f'.tmps.setIfInBounds 35 (.chan (some K.ch')),todo:=.inRegion (au.c9 n) [1,2]::z}) n.Xm).events P I #[]=ev:=r1';have hlow:Below Q c (G {f with tmps:=(f.tmps.setIfInBounds 35 (.chan (some K.ch))).setIfInBounds 36 (.agg j),todo:=.inRegion (au.Ak n) [3]::k} K.kb,v) (G f K.kb,w):=(Relation.TransGen.single hnx2).trans ((Relation.TransGen.single hnx).trans hb1)
 refine⟨G {f' with tmps:=(f'.tmps.setIfInBounds 35 (.chan (some K.ch'))).setIfInBounds 36 (.agg j),todo:=.inRegion (au.c9 n) [2]::z} [jb P],v',seen P f'.fn ev++#[],_,
  by rw[mM hop' (by grind) r2,r2'];rfl,hM.grow',λe he=>IX hM hW1 q.ran (hev e (Go.Conc.mem_seen (by simpa using he))),hkeep,.left _ _ hlow,.inr hlow,hrel,ac6,σ,hS2,hV3,.send (.agg j) ?_⟩
 exact⟨{f with tmps:=(f.tmps.setIfInBounds 35 (.chan (some K.ch))).setIfInBounds 36 (.agg j)},{f' with tmps:=(f'.tmps.setIfInBounds 35 (.chan (some K.ch'))).setIfInBounds 36 (.agg j)},k,z,⟨σ.or τ,hFb,H,hr,⟨r,p⟩,.inr adO,.inr m⟩,h35,aak,h36,aaj,F,rfl,rfl⟩
end
end
section
variable[Special]
open Go.Conc (G rcase scase QuitsIn solo crowd ph parked partners_nil getElem?_stand offersAt_ph)
section
variable{Q:Program}{g:Goroutine}{w:World}{c I s r:Nat}{A:Array Value}{J:Bool}{v z:Value}
omit [Special]in
theorem rG(b):partners ((#[g]:Array Goroutine).setIfInBounds 0 ph) c b=[]:=partners_nil λj x a=>by
 obtain⟨_,rfl⟩|⟨e,a⟩:=getElem?_stand #[g] 0 j x a
 ·exact jE
 ·grind
omit [Special]in
theorem a14(d:g.status=.running)(h:stepG Q true g w=.comm g #[scase c v z] true .send w #[])(f:w.heap[c]? =some (.chan I A false s r J))(e:A.size<I):
  step Q (solo g w)=.next (solo (Go.Conc.served g undef) (w.setChan c I (A.push v) false (s+1) r J)):=by
 have a:=Go.Conc.crowd_send_room (P:=Q) (gs:=#[g]) (sl:=none) (i:=0) rfl h f e (rG false)
 exact tK
omit [Special]in
theorem a15(d:g.status=.running)(h:stepG Q true g w=.comm g #[scase c v z] true .send w #[])(e:w.heap[c]? =some (.chan I A false s r J))(a:¬A.size<I):
  step Q (solo g w)=.next (solo (parked g #[scase c v z] .send) w):=by
 have f:=Go.Conc.crowd_waits (P:=Q) (gs:=#[g]) (sl:=none) (i:=0) rfl h (by grind[Go.Conc.ways_send_none,rG])
 grind[step,Go.Conc.stepT_solo,Go.Conc.solo_eq_crowd]
omit [Special]in
theorem a18(d:g.status=.running)(h:stepG Q true g w=.comm g #[rcase c z] true (.recv true) w #[]){f}(j:w.heap[c]? =some (.chan I A f s r J))(e:0<A.size):
  step Q (solo g w)=.next (solo (Go.Conc.served g (.tuple #[A.getD 0 undef,.bool true])) (w.setChan c I (A.extract 1 A.size) f s (r+1) J)):=by
 have a:=Go.Conc.crowd_recv_buf (P:=Q) (gs:=#[g]) (sl:=none) (i:=0) rfl h j e (rG true)
 exact tK
omit [Special]in
theorem a19(d:g.status=.running)(h:stepG Q true g w=.comm g #[rcase c z] true (.recv true) w #[])(e:w.heap[c]? =some (.chan I #[] true s r J)):
  step Q (solo g w)=.next (solo (Go.Conc.served g (.tuple #[z,.bool false])) w):=by
 have a:=Go.Conc.crowd_recv_closed (P:=Q) (gs:=#[g]) (sl:=none) (i:=0) rfl h e (rG true)
 exact tK
theorem VT.a7W{Q}{c}{R}(i:KA Q c){g}{w v}(k:VT Q c R g w)(h:¬AtRet c g)(e:∀T d,step Q (solo g (re T d w))=.next (solo g1 (re T d v)))(j:g1.status=.blocked):False:=by
 obtain⟨x,t,_,f⟩:=k w.tape w.drawn;obtain⟨_,a,_⟩|⟨m,q,o,p,u,a,n,l,_⟩:=f.cases
 ·exact h a
 ·rw[e]at a
  cases a;exact Pj (Ph i m (.shut g1 _ (.inl j)) n) l.1
end
section
variable{Q P:Program}{c:Frame}{n:au}{Y A:List Nat}{L O:Value}{X V:ChanDir}{U:TypeInfo}{R:Value->World->Prop}{K:LK}{J:Ren}{S:Nat->Prop}{w I w1:World}
variable(st:Seat Q P c n Y A L O X V U)(Z:Under c K.kb)
omit [Special]in
theorem PE{p}{a}{k}{ops}{i}{rest}(h:vK fr ops i rest k au.T9)(l:fr.kind≠.early){f}(e:fr.tmps.getD 35 undef=.chan (some f))(d:fr.tmps.getD 36 undef=v)(w):
  stepG p a (G fr cs) w=.comm (G fr cs) #[scase f v (.tuple #[])] true .send w #[]:=by
 have j:(execOp fr.eval au.T9).run p w=.ok (.comm #[scase f v (.tuple #[])] true .send) w:=by unfold execOp;simp only[au.T9,Frame.eval,e,d];rfl
 have m:(execOp fr.eval au.T9).events p w #[]=#[]:=by unfold execOp;simp only[au.T9];rfl
 rw[Pm h l j,m]
 rfl
include st Z
theorem a1a(q:SW Q n A K J S w I)(hV:VT Q c R g w)(h:AtSend Q P n A K J v g b):
  Send P K.ch' b v (.tuple #[])/\eH 5 v=true/\∃x',Below Q c x' (g,w)/\GU K w x'.2/\
   (∃m s r,w.heap[K.ch]? =some (.chan au.bN.toNat m false s r false)/\x'.2.heap[K.ch]? =some (.chan au.bN.toNat (m.push v) false (s+1) r false))/\
   ∀s r tm,SI Q P c R n A K S x' 1 (Go.Conc.served b undef) (I.setChan K.ch' 0 #[] false s r tm):=by
 obtain⟨f,f',k,F,⟨τ,hF,H,hr,⟨adS,z⟩,N,M⟩,h35,aak,h36,aaj,hp,rfl,rfl⟩:=h;have hk:f'.kind=.deferred:=z
 have hm':f'.mode=.run:=by
  obtain⟨_,h⟩|⟨h,_⟩:=hF.mode
  ·exact h
  ·dsimp only at h;dsimp only at H;rw[H]at h;cases h
 have hr':f'.roundOf=none:=by
  have:=hF.round;dsimp only at this hr
  exact tJ
 have hkn:f.kind=.normal:=hF.kind;have hS:Send P K.ch' (G {f' with todo:=.inRegion (au.c9 n) [2]::F} [jb P]) v (.tuple #[]):=λw=>PE (fr:={f' with todo:=.inRegion (au.c9 n) [2]::F}) (ops:=au.c9 n) (i:=2) (rest:=[]) (k:=F) ⟨rfl,hm',hr',rfl,rfl⟩ (by show f'.kind≠_;rw[hk];simp) aak aaj w
 have hQ:∀w,stepG Q true (G {f with todo:=.inRegion (au.Ak n) [3]::k} K.kb) w=.comm (G {f with todo:=.inRegion (au.Ak n) [3]::k} K.kb) #[scase K.ch v (.tuple #[])] true .send w #[]:=
  λw=>PE (fr:={f with todo:=.inRegion (au.Ak n) [3]::k}) (ops:=au.Ak n) (i:=3) (rest:=[]) (k:=k) ⟨rfl,H,hr,rfl,rfl⟩ (by show f.kind≠_;rw[hkn];simp) h35 h36 w
 have hm0:f.mode=.run:=H;have hnr:¬AtRet c (G {f with todo:=.inRegion (au.Ak n) [3]::k} K.kb):=λ⟨_,h,_⟩=>by dsimp only[G]at h;rw[hm0]at h;cases h
 obtain⟨m,s,r,a⟩:=q.room;have hlt:m.size<au.bN.toNat:=Classical.byContradiction λB=>hV.a7W st.door hnr (λT d=>a15 rfl (hQ _) (show(re T d w).heap[K.ch]? =_ from a) B) rfl
 have W:qV Q c (Go.Conc.served (G {f with todo:=.inRegion (au.Ak n) [3]::k} K.kb) undef,w.setChan K.ch au.bN.toNat (m.push v) false (s+1) r false) (G {f with todo:=.inRegion (au.Ak n) [3]::k} K.kb,w):=
  ⟨hnr,[],λT d _=>a14 rfl (hQ _) (show(re T d w).heap[K.ch]? =_ from a) hlt⟩
 have j:K.ch<w.heap.size:=(afD.1 a).1
 have p:∀b,b≠K.ch->(w.setChan K.ch au.bN.toNat (m.push v) false (s+1) r false).heap[b]? =w.heap[b]? :=λb D=>tF
 have l:(w.setChan K.ch au.bN.toNat (m.push v) false (s+1) r false).heap[K.ch]? =some (.chan au.bN.toNat (m.push v) false (s+1) r false):=tH
 refine⟨hS,hp,_,.single W,⟨gp,λb _ _ D=>p b D,λroom bf cl s1 r1 tm hc=> ?_⟩,⟨m,s,r,a,l⟩,λs1 r1 tm=>⟨J,?_,VT.Ap (x:=(_,w)) hV W,?_⟩⟩
 ·rw[a]at hc;cases hc
  exact⟨#[v],false,s+1,r,by rw[l,Array.push_eq_append]⟩
 ·have u:∀y,y≠K.ch'->(I.setChan K.ch' 0 #[] false s1 r1 tm).heap[y]? =I.heap[y]? :=λy E=>by simp only[World.setChan];rw[afF (ahc E)]
  refine⟨(q.wr.Ma (v:=w.setChan K.ch au.bN.toNat (m.push v) false (s+1) r false) tN λb c k x=>p b (q.DD x).2.1).other' (q.wr.held.calm.keep gp (λy E=>u y (by have:=q.kn;exact gm)) rfl rfl) tL λb c k x=>u c (q.DD x).2.2.2.1,
   ?_,q.old,q.le,q.low,q.ran,?_,?_,⟨_,_,_,l⟩,by simpa[World.setChan]using q.size,by simpa[World.setChan]using q.size',q.Ua,q.sh,q.kn⟩
  ·intro i o C
   exact Av
  ·exact(p K.bo (by simp only[LK.bo,LK.ch];omega)).trans q.box
  ·exact(u K.l8 (by simp only[LK.l8,LK.ch'];omega)).trans q.Dg
 ·have e1:Go.Conc.served (G {f with todo:=.inRegion (au.Ak n) [3]::k} K.kb) undef=G {f with todo:=.inRegion (au.Ak n) []::k} K.kb:=rfl
  have e2:Go.Conc.served (G {f' with todo:=.inRegion (au.c9 n) [2]::F} [jb P]) undef=G {f' with todo:=.inRegion (au.c9 n) []::F} [jb P]:=rfl;dsimp only
  rw[e1,e2]
  refine .hand 0 (G {f with todo:=k} K.kb) ⟨1,dA.pop rfl H rfl rfl⟩ (dA.pop rfl hm' rfl ?_)
  exact⟨τ,XS n A K.ch K.ch',_,_,_,_,rfl,rfl,dm.bottom (XS n A K.ch K.ch') rfl (by simp[SS]) _ _ hF hr ⟨adS,z⟩,N,M⟩
end
end
section
variable[Special]
open Go.Conc (G rcase scase QuitsIn)
section
variable{p:Program}{main:Bool}{fr:Frame}{cs:List Frame}{n:au}{w:World}
omit [Special]in
theorem yA(H:fr.mode=.returning){ch}(j:fr.defers=[mf n ch]){q s r}{d}{u}(A:w.heap[ch]? =some (.chan q d false s r u))(C:(p.funcs[fr.fn]?).any (·.norace)=false):
  stepG p main (G fr cs) w=.go (G {fr with defers:=[]} cs) (w.setChan ch q d true s r u) (#[⟨.obj ch,false,true⟩].push ⟨.obj ch,true,true⟩):=by
 have e:stepG p main (G fr cs) w=unwind p main fr cs none w:=dQ
 have z:(invoke (mf n ch).target (mf n ch).args).run p w=.ok (.value (.tuple #[])) (w.setChan ch q d true s r u):=by
  show(do pure (.value (<-Builtin.close_ #[n.eG] 0 #[.chan (some ch)])):Sem Next).run p w=_
  rw[show Builtin.close_ #[n.eG] 0 #[.chan (some ch)]=(do
   let .chan m d c k a f <-getObj ch|stuck "close: no channel in this block"
   if c then runtimePanic (.plain "close of closed channel")
   setObj ch (.chan m d true k a f)
   pure (.tuple #[]))from rfl]
  simp only[Sem.run_bind,getObj,setObj,Sem.run,A,Result.andThen_ok,afI,ag6];rfl
 have B:(invoke (mf n ch).target (mf n ch).args).events p w #[]=#[⟨.obj ch,false,true⟩,⟨.obj ch,true,true⟩]:=by
  show(do pure (.value (<-Builtin.close_ #[n.eG] 0 #[.chan (some ch)])):Sem Next).events p w #[]=_
  rw[show Builtin.close_ #[n.eG] 0 #[.chan (some ch)]=(do
   let .chan m d c k a f <-getObj ch|stuck "close: no channel in this block"
   if c then runtimePanic (.plain "close of closed channel")
   setObj ch (.chan m d true k a f)
   pure (.tuple #[]))from rfl]
  have I:=events_getObj_chan p w #[] A;have F:=run_getObj_chan p w A;have E:=events_setObj_chan p w #[⟨.obj ch,false,true⟩] (.chan q d true s r u) rfl A;have D:=run_setObj_chan p w (.chan q d true s r u) A;simp only[Sem.events_bind,I,F,Result.evThen_ok,afI,ag6,Sem.run_bind,Result.andThen_ok,Sem.run_pure,Sem.events_pure]
  rw[show(#[]:Array Event).push ⟨.obj ch,false,true⟩=#[⟨.obj ch,false,true⟩]from rfl,E,D]
  rfl
 rw[e]
 unfold unwind
 rw[j]
 show callDeferred p {fr with defers:=[]} cs none (mf n ch) w=_;unfold callDeferred;simp only[Sem.runT_eq,z,B]
 rw[seen_plain C (by simp[Loc.isMemory])]
 rfl
omit [Special]in
theorem a1b{f}(i:fr.mode=.returning)(l:fr.defers=[])(j:fr.kind=.deferred)(k:p.funcs[fr.fn]? =some f)(h:f.results=#[]):QuitsIn p 2 (G fr [jb p]):=by
 refine .inr ⟨rfl,G (jb p) [],λw=> ?_,.inr ⟨rfl,{frame:=jb p,callers:=[],status:=.finished,dying:=none},λw=> ?_,rfl⟩⟩
 ·have e:stepG p false (G fr [jb p]) w=unwind p false fr [jb p] none w:=by simp[stepG,G,i]
  rw[e]
  unfold unwind;simp only[l,i,k,Sem.runT_eq,results_none h fr.tmps p w];unfold doReturn;simp only[j]
  rw[Go.Conc.events_results_none h fr.tmps]
  rfl
 ·have e:stepG p false (G (jb p) []) w=unwind p false (jb p) [] none w:=by simp[stepG,G,jb]
  rw[e]
  have a:(jb p).catches p=false:=by unfold Frame.catches jb;simp;rfl
  have c:(jb p).mode=.panicking [goexitEntry]:=rfl;have d:(jb p).defers=[]:=rfl;generalize jb p=m at a c d |-;unfold unwind;simp only[d,c,a,afI,ag6];rfl
end
end
end Go.Proofs.Zb
