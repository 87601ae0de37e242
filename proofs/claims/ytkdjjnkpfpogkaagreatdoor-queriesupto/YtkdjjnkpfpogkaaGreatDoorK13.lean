import Derived.Test.YtkdjjnkpfpogkaaGreatDoorK12
set_option maxHeartbeats 8000000
set_option linter.all false
namespace Go.Proofs.Zb
variable{g a:Goroutine}{f f':Frame}
section
variable[Special]
open Go.Conc (G rcase scase QuitsIn)
structure Rn(Q:Program)(n:au)(A1:List Nat)(K:LK)(ρ:Ren)(S:Nat->Prop)(w w':World):Prop where
 wr:WR (aT Q (BW A1)) Q.globals.size ρ w w'
 tidy:aS w
 old:∀b c k,ρ b c k->K.Dj b c k\/(K.N+4<=b/\K.N'+4<=c)
 le:K.Dj.le ρ
 low:∀b c k,K.Dj b c k->b≠K.bo/\b≠K.ch/\c≠K.l8/\c≠K.ch'/\Q.globals.size<=b/\b<K.N+4/\c<K.N'+4
 ran:∀b c k,ρ b c k->S c
 box:kL n K.bo K.ch w
 Dg:kL n K.l8 K.ch' w'
 size:K.N+4<=w.heap.size
 size':K.N'+4<=w'.heap.size
 Ua:Q.globals.size<=K.N/\Q.globals.size<=K.N'
 sh:¬S K.l8/\¬S K.ch'
 kn:Special.old.heap.size<=K.N'
def Done(Q:Program)(c:List Frame)(g:Goroutine):Prop:=∃b,g=G b c/\b.mode=.returning/\b.defers=[]/\b.kind=.normal/\∃f,Q.funcs[b.fn]? =some f/\f.results=#[]
def Xr(Q P:Program)(c:Frame)(R:Value->World->Prop)(n:au)(o:List Nat)(K:LK)(S:Nat->Prop)(x:Goroutine×World)(b:Goroutine)(h:World):Prop:=
 mayWake P b=true/\∀s r i,h.heap[K.ch']? =some (.chan 0 #[] false s r i)->∃l d m,stepG P false b h=.go l (h.setChan K.ch' 0 #[] true s r i) (#[⟨.obj K.ch',false,true⟩].push ⟨.obj K.ch',true,true⟩)/\QuitsIn P 2 l/\
  Below Q c d x/\GU K x.2 d.2/\Done Q K.kb d.1/\VT Q c R d.1 d.2/\Rn Q n o K m S d.2 (h.setChan K.ch' 0 #[] true s r i)/\
  (∃e j k,x.2.heap[K.ch]? =some (.chan au.bN.toNat e false j k false)/\d.2.heap[K.ch]? =some (.chan au.bN.toNat e true j k false))
section
variable{Q P:Program}{c:Frame}{n:au}{V A:List Nat}{I J:Value}{U O:ChanDir}{L:TypeInfo}{R:Value->World->Prop}{K:LK}{ρ:Ren}{S:Nat->Prop}{w w' w1:World}
variable(X:Seat Q P c n V A I J U O L)(Y:Under c K.kb)
include X Y
theorem Xt(q:SW Q n A K ρ S w w'){τ:Ren}{F fr':Frame}(hF:bn Q (XS n A K.ch K.ch') ρ τ F fr')(H:F.mode=.returning)(hbt:btS n fr')(hkb:2<=K.kb.length)(hV:VT Q c R (G F K.kb) w):
  Xr Q P c R n A K S (G F K.kb,w) (G fr' [jb P]) w':=by
 obtain⟨B,adT⟩:=hbt;obtain⟨hp1,hp2,_⟩:=hF.put (by simp[XS])
 have W:fr'.mode=.returning:=ahh
 have hfn:F.fn=n.qX:=by rw[<-hF.fn];exact B
 obtain⟨f,hf,_,_,_,hres⟩:=X.aah;obtain⟨f2,hf2,_,_,_,N⟩:=X.a7S;obtain⟨z,Z,r1,m⟩:=q.room;have j:K.ch<w.heap.size:=(afD.1 m).1;refine⟨by unfold mayWake;rw[show(G fr' [jb P]).frame.mode=.returning from W],λs r tm hc=> ?_⟩;have a9J:K.ch'<w'.heap.size:=(afD.1 hc).1
 have p:∀b,b≠K.ch->(w.setChan K.ch au.bN.toNat z true Z r1 false).heap[b]? =w.heap[b]? :=λb D=>tF
 have l:(w.setChan K.ch au.bN.toNat z true Z r1 false).heap[K.ch]? =some (.chan au.bN.toNat z true Z r1 false):=tH
 have u:∀y,y≠K.ch'->(w'.setChan K.ch' 0 #[] true s r tm).heap[y]? =w'.heap[y]? :=λy E=>tO
 have hnx:qV Q c (G {F with defers:=[]} K.kb,w.setChan K.ch au.bN.toNat z true Z r1 false) (G F K.kb,w):=by refine⟨λ⟨_,_,h⟩=>(by dsimp only[G]at h;rw[hp1]at h;simp[XS]at h),[],oC.Fg rfl λT d _=>⟨_,yA H (by rw[hp1];rfl) (show(re T d w).heap[K.ch]? =_ from m) (X.ZT.quiet _ (.inr (.inl hfn)))⟩⟩
 refine⟨_,_,ρ,yA W (by rw[hp2];rfl) hc (X.ZR.quiet _ (.inr (.inl B))),a1b W rfl adT (by grind) hres,.single hnx,⟨gp,λb _ _ D=>p b D,λroom bf cl s2 r2 tm2 h=> ?_⟩,⟨_,rfl,H,rfl,hF.kind,f2,by rw[show({F with defers:=[]}:Frame).fn=n.qX from hfn];exact hf2,N⟩,VT.Ap (x:=(_,w)) hV hnx,?_,z,Z,r1,m,l⟩
 ·simp_all
 ·refine⟨(q.wr.Ma (v:=w.setChan K.ch au.bN.toNat z true Z r1 false) tN λb c k x=>p b (q.DD x).2.1).other' (q.wr.held.calm.keep gp (λy E=>u y (by have:=q.kn;exact gm)) rfl rfl) tL λb c k x=>u c (q.DD x).2.2.2.1,
   ?_,q.old,q.le,q.low,q.ran,?_,?_,by simpa[World.setChan]using q.size,by simpa[World.setChan]using q.size',q.Ua,q.sh,q.kn⟩
  ·intro i o C
   by_cases M:i=K.ch
   ·subst M;dsimp only at C;rw[l]at C;cases C;trivial
   ·dsimp only at C;rw[p i M]at C;exact q.tidy i o C
  ·exact(p K.bo (by simp)).trans q.box
  ·exact(u K.l8 (by simp)).trans q.Dg
theorem a4C(hW:SW Q n A K ρ S w w')(hkb:2<=K.kb.length){b:Goroutine}(hV:VT Q c R g w)(h:Ub Q P n A K ρ g b):
  (∃b' H es F j',Xo Q P c R n A K S (g,w) 0 b w' b' H es F j')\/Xr Q P c R n A K S (g,w) b w':=by
 obtain⟨τ,cx,E,cs,i,cs',rfl,rfl,u,y⟩:=h;have hF:=u.top;obtain⟨rfl,rfl,D,p,l⟩|⟨hne,p⟩:=u.whole
 ·simp only[SS,agr]at p
  subst p;obtain⟨j,r⟩|⟨j,_⟩:=hF.mode
  ·by_cases M:a0S (XS n A K.ch K.ch').live E i
   ·obtain⟨cd,cd',k,q,ht,B,W⟩:=M
    rw[X.sp]at W
    have t:cd=.region 9 (au.Ak n) false/\cd'=.region 9 (au.c9 n) false:=by
     obtain⟨h,_⟩|⟨_,h⟩:=W
     ·exact absurd h (by decide)
     ·exact h
    obtain⟨rfl,rfl⟩:=t
    have m:i.roundOf=none:=Az
    have z:pQ Q (XS n A K.ch K.ch') ρ k q:=by
     have:=hF.todo
     rw[ht,B]at this
     cases this<;>grind
    have hN:a4A Q n A K ρ {E with todo:=k} {i with todo:=q}:=⟨τ,hF.to rfl rfl rfl rfl z hF.defers (.inl ⟨j,r⟩) rfl rfl rfl rfl,j,l,D,y⟩;obtain⟨_,_,N⟩:=hF.fix (0,.pointer (some ⟨K.ch+1,0,none⟩),.pointer (some ⟨K.ch'+1,0,none⟩)) (by simp[XS])
    have C:qV Q c (G {E with todo:=.inRegion (au.Ak n) [0,1,2,3]::k} K.kb,w) (G E K.kb,w):=
     ⟨λ⟨_,h,_⟩=>(jD),[],oC.Fg rfl λT d _=>⟨_,vv ht j rfl⟩⟩
    refine .inl ⟨G {i with todo:=.inRegion (au.c9 n) [0,1,2]::q} [jb P],w',#[],(G {E with todo:=.inRegion (au.Ak n) [0,1,2,3]::k} K.kb,w),2,vv B r rfl,afA _,by simp,λ_ _ _=>rfl,.left _ _ (.single C),.inr (.single C),.refl _ _,rfl,?_⟩
    rw[p9]
    refine⟨ρ,hW,VT.Ap (x:=(_,w)) hV C,.a4B ?_⟩;have hk:i.kind=.deferred:=D.2
    have Z:=λ(w:World)(hw:kL n K.l8 K.ch' w)=>Eu X.ZR (w:=w) (e:=Frame.eval {i with todo:=.inRegion (au.c9 n) [0,1,2]::q}) (x:=.tmp 0) (v:=.chan (some K.ch')) (b:=K.l8)
     (o:=⟨some 35,Op.load n.eG (Operand.tmp 0),n.eG, "journal.go:22",#[],none⟩) rfl N hw
    have hop:vK {i with todo:=.inRegion (au.c9 n) [0,1,2]::q} (au.c9 n) 0 [1,2] q ⟨some 35,Op.load n.eG (Operand.tmp 0),n.eG, "journal.go:22",#[],none⟩:=⟨rfl,r,m,rfl,rfl⟩;refine⟨rfl,rfl,.inl r,G {i with tmps:=i.tmps.setIfInBounds 35 (.chan (some K.ch')),todo:=.inRegion (au.c9 n) [1,2]::q} [jb P],#[⟨.cell ⟨K.l8,0,none⟩,false,false⟩],λw hw=> ?_,by simp[fG],?_⟩
    ·rw[mM hop (by grind) (Z w hw).1,(Z w hw).2,seen_plain (X.ZR.quiet _ (.inr (.inl D.1))) (by simp[Loc.isMemory])]
     rfl
    ·exact⟨{E with todo:=.inRegion (au.Ak n) [0,1,2,3]::k},i,k,q,hN,rfl,rfl,rfl⟩
   ·obtain⟨b',H,es,F,h⟩:=Uc X Y hW hV u y (λh=>by rw[j]at h;cases h) (λ_=>M) (λ⟨_,h,_⟩=>jD)
    exact .inl ⟨b',H,es,F,0,h⟩
  ·grind[Xt]
 ·simp only[SS,afI,ag6]at p
  subst p
  obtain⟨b',H,es,F,h⟩:=Uc X Y hW hV u y (λ_=>rfl) (λj⟨cd,cd',k,q,ht,B,W⟩=>by
   rw[X.sp]at W
   obtain⟨s,rfl⟩:=W;exact wI X.door hV ht j) (λ⟨h,_⟩=>hne h)
  exact .inl ⟨b',H,es,F,0,h⟩
end
end
section
variable[Special]
open Go.Conc (G rcase scase QuitsIn)
structure OA(Q:Program)(c:Frame)(K:LK)(x z:Goroutine×World):Prop where
 way:z=x\/Below Q c z x
 rel:GU K x.2 z.2
 bottom:Done Q K.kb z.1
 tidy:aS z.2
 shut:∃buf s r,z.2.heap[K.ch]? =some (.chan au.bN.toNat buf true s r false)
section
variable{Q P:Program}{c:Frame}{n:au}{V A1:List Nat}{I J:Value}{U O:ChanDir}{L:TypeInfo}{R:Value->World->Prop}{K:LK}{A:Ren}{S:Nat->Prop}{w w' w1:World}
omit [Special]in
theorem OA.of{x y z}(b:y=x\/Below Q c y x)(d:GU K x.2 y.2)(h:OA Q c K y z):OA Q c K x z:=by
 refine⟨?_,d.trans h.rel,h.bottom,h.tidy,h.shut⟩;obtain rfl|e:=h.way
 ·exact b
 ·obtain rfl|b:=b
  ·grind
  ·exact .inr (e.trans b)
theorem OA.vt{x z}(h:OA Q c K x z)(b:VT Q c R x.1 x.2):VT Q c R z.1 z.2:=by
 obtain rfl|d:=h.way
 ·exact b
 ·exact d.vt b
structure ac9(Q P:Program)(c:Frame)(R:Value->World->Prop)(n:au)(A1:List Nat)(K:LK)(S:Nat->Prop)(x:Goroutine×World)(b:Goroutine)(w':World)(v:Value)(x':Goroutine×World):Prop where
 send:Send P K.ch' b v (.tuple #[])
 plain:eH 5 v=true
 below:Below Q c x' x
 rel:GU K x.2 x'.2
 push:∃buf s r,x.2.heap[K.ch]? =some (.chan au.bN.toNat buf false s r false)/\x'.2.heap[K.ch]? =some (.chan au.bN.toNat (buf.push v) false (s+1) r false)
 inv:∀s r tm,SI Q P c R n A1 K S x' 1 (Go.Conc.served b undef) (w'.setChan K.ch' 0 #[] false s r tm)
variable(Z:Seat Q P c n V A1 I J U O L)(X:Under c K.kb)(Y:2<=K.kb.length)
include Z X Y
theorem SI.cases{x:Goroutine×World}{j:Nat}{b:Goroutine}(h:SI Q P c R n A1 K S x j b w'):
  (∃o s l d t,Xo Q P c R n A1 K S x j b w' o s l d t)\/(∃v d,ac9 Q P c R n A1 K S x b w' v d)\/Xr Q P c R n A1 K S x b w':=by
 obtain⟨g,w⟩:=x;obtain⟨A,e,i,k⟩:=h;dsimp only at e i k;cases k with
 |start h=>
  obtain⟨C,D,r,_,_,q,p⟩:=h;exact .inl ⟨_,_,_,_,_,Xp e i r q p⟩
 |run h=>
  obtain h|h:=a4C Z X e Y i h
  ·exact .inl h
  ·exact .inr (.inr h)
 |hand m C u h=>
  obtain⟨o,l,d,t,h⟩:=a10 e i u h;exact .inl ⟨_,_,_,_,_,h⟩
 |a4B h=>
  obtain⟨o,l,h⟩:=Xq e i h;exact .inl ⟨_,_,_,_,_,h⟩
 |aai h=>
  obtain⟨o,s,l,d,h⟩:=a13 Z X e i h;exact .inl ⟨_,_,_,_,_,h⟩
 |send v h=>
  obtain⟨r,B,d,z,q,p,y⟩:=a1a Z X e i h;exact .inr (.inl ⟨v,d,r,B,z,q,p,y⟩)
theorem SI.comp{x:Goroutine×World}{j:Nat}{b:Goroutine}(h:SI Q P c R n A1 K S x j b w'){s r:Nat}{e:Bool}(l:w'.heap[K.ch']? =some (.chan 0 #[] false s r e)):∃z,OA Q c K x z:=by
 have p:Acc (Below Q c) x:=by obtain⟨A,_,hV,_⟩:=h;exact Pz hV.acc
 induction p generalizing j b w' S s r e with
 |intro x _ E=>
  induction j using Nat.strongRecOn generalizing b w' S s r e with
  |_ j t=>
   have k:¬S K.ch'/\K.ch'<w'.heap.size:=by
    obtain⟨A,W,_⟩:=h
    exact⟨W.sh.2,(afD.1 l).1⟩
   obtain⟨b',F,es,m,M,i⟩|⟨v,m,q⟩|⟨_,B⟩:=SI.cases Z X Y h
   ·have d:F.heap[K.ch']? =some (.chan 0 #[] false s r e):=(i.keep _ k.2 k.1).trans l
    cases i.low with
    |left _ _ y=>
     obtain⟨z,o⟩:=E m y i.inv d
     exact⟨z,o.of i.way i.rel⟩
    |right _ y=>
     obtain⟨z,o⟩:=t M y i.inv d
     exact⟨z,o.of i.way i.rel⟩
   ·have d:(w'.setChan K.ch' 0 #[] false s r e).heap[K.ch']? =some (.chan 0 #[] false s r e):=by simp only[World.setChan];rw[afO k.2]
    obtain⟨z,o⟩:=E m q.below (q.inv s r e) d
    exact⟨z,o.of (.inr q.below) q.rel⟩
   ·obtain⟨b',m,A,_,_,T,N,C,_,u,D,G,H,_,h2⟩:=B s r e l
    exact⟨m,.inr T,N,C,u.tidy,D,G,H,h2⟩
end
end
section
variable[Special]
open Go.Conc (G rcase scase)
structure MK where
 r:List Frame
 r':List Frame
def Fh(K:LK):Ren:=λb c k=>b=K.ch/\c=K.ch'/\k=.chan
structure MW(Q:Program)(n:au)(A1:List Nat)(K:LK)(ρ:Ren)(M:Nat->Prop)(z:World)(rest:Array Value)(w w':World):Prop where
 wr:WR (aT Q (BW A1)) Q.globals.size ρ w w'
 tidy:aS w
 old:∀b c k,ρ b c k->(b<K.N/\∀c k,¬K.Dj b c k)\/z.heap.size<=b
 ran:∀b c k,ρ b c k->M c
 stay:∀b:Nat,b<z.heap.size->(∀c k,¬ρ b c k)->b≠K.ch->w.heap[b]? =z.heap[b]?
 chan:∃s r,w.heap[K.ch]? =some (.chan au.bN.toNat rest true s r false)
 box:kL n K.bo K.ch w
 Dg:kL n K.l8 K.ch' w'
 size:z.heap.size<=w.heap.size
 Ud:K.N+4<=z.heap.size
 sh:¬M K.l8/\¬M K.ch'
 high:∀b c k,ρ b c k->Q.globals.size<=b
 kn:Special.old.heap.size<=K.N'
def SM(c:List Nat)(K:LK):Bool->Scope->Prop:=λb d=>d=if b then X2 c K.ch K.ch' else BW c
def btM(n:au)(b:Frame):Prop:=b.fn=n.uQ/\b.kind=.normal/\b.mode=.run/\a9D n.bQ n.atEnd b.todo
def aal(K:LK)(e d:Ren):Prop:=∀b c k,d b c k->e b c k\/K.Dj b c k\/Fh K b c k
def a7X(Q:Program)(n:au)(j:List Nat)(K:LK)(F:MK)(e:Ren)(g a:Goroutine):Prop:=
 ∃d k h i b c,g=G h i/\a=G b c/\dm (SM j K) (btM n) Q (BW j) e d F.r F.r' k h i b c/\aal K e d
def DF(Q:Program)(n:au)(d:List Nat)(K:LK)(c:Ren)(f f':Frame):Prop:=
 ∃b,bn Q (X2 d K.ch K.ch') c b {f with todo:=[]} {f' with todo:=[]}/\f.mode=.run/\f.roundOf=none/\f'.fn=n.uQ/\f'.kind=.normal/\aal K c b/\c.le b
def iN(n:au)(l:List Nat):List Item:=.inRegion (au.a4 n) l::.code n.nQ::.inLoop n.bQ::n.atEnd
def AtRecv(Q:Program)(n:au)(c:List Nat)(K:LK)(F:MK)(b:Ren)(g a:Goroutine):Prop:=
 ∃f f',DF Q n c K b f f'/\g=G {f with todo:=iN n [0,1]} F.r/\a=G {f' with todo:=iN n [0,1]} F.r'
inductive MSt(Q P:Program)(n:au)(A1:List Nat)(K:LK)(F:MK)(ρ:Ren)(g a:Goroutine):Nat->Prop
 |run (h:a7X Q n A1 K F ρ g a):MSt Q P n A1 K F ρ g a 0
 |recv (h:AtRecv Q n A1 K F ρ g a):MSt Q P n A1 K F ρ g a 0
 |head (m:Nat) (g1:Goroutine) (hq:GV Q n K g g1) (h:dA P true (kL n K.l8 K.ch') (fG K.l8) (λa1=>AtRecv Q n A1 K F ρ g1 a1) (m+1) a):MSt Q P n A1 K F ρ g a (m+1)
 |got (m:Nat) (g1:Goroutine) (hq:GV Q n K g g1) (h:dA P true (kL n K.l8 K.ch') (fG K.l8) (λa1=>a7X Q n A1 K F ρ g1 a1) (m+1) a):MSt Q P n A1 K F ρ g a (m+1)
def MI(Q P:Program)(c:Frame)(R:Value->World->Prop)(n:au)(d:List Nat)(K:LK)(F:MK)(M:Nat->Prop)(z:World)(rest:Array Value)(m:Goroutine×World)(j:Nat)(a:Goroutine)(e:World):Prop:=
 ∃b,MW Q n d K b M z rest m.2 e/\VT Q c R m.1 m.2/\MSt Q P n d K F b m.1 a j
structure aam(Q P:Program)(c:Frame)(R:Value->World->Prop)(n:au)(A1:List Nat)(K:LK)(F:MK)(M:Nat->Prop)(z:World)(rest:Array Value)(m:Goroutine×World)(j:Nat)(a:Goroutine)(w':World)(a':Goroutine)(w2:World)(es:Array Event)(m':Goroutine×World)(j':Nat):Prop where
 step:stepG P true a w'=.go a' w2 es
 size:w'.heap.size<=w2.heap.size
 ev:∀e∈es,Xk (EX M w' w2) K.Sh w2.heap.size e
 keep:∀y,y<w'.heap.size->¬M y->w2.heap[y]? =w'.heap[y]?
 low:Prod.Lex (Below Q c) (· < ·) (m',j') (m,j)
 inv:MI Q P c R n A1 K F (EX M w' w2) z rest m' j' a' w2
section
variable{Q P:Program}{c:Frame}{n:au}{Z A:List Nat}{L O:Value}{X V:ChanDir}{U:TypeInfo}{R:Value->World->Prop}{K:LK}{F:MK}{I:Ren}{M:Nat->Prop}{z w w' J:World}{rest:Array Value}
theorem MW.DD(h:MW Q n A K I M z rest w w'){b c}{k}(x:I b c k):b≠K.bo/\b≠K.ch:=by
 have d:=h.Ud;obtain⟨y,_⟩|y:=h.old b c k x
 ·grind
 grind
theorem MW.world'(h:MW Q n A K I M z rest w w')(j:Calm J)(d:w'.heap.size<=J.heap.size)(e:∀y,M y->J.heap[y]? =w'.heap[y]?)(i:J.heap[K.l8]? =w'.heap[K.l8]?):MW Q n A K I M z rest w J:=
 ⟨h.wr.other' j (afC h.wr.Dl d) λb c k x=>e c (h.ran b c k x),h.tidy,h.old,h.ran,h.stay,h.chan,h.box,i.trans h.Dg,h.size,h.Ud,h.sh,h.high,h.kn⟩
theorem MW.Mc(h:MW Q n A K I M z rest w w'):K.l8<w'.heap.size:=(afD.1 h.Dg).1
theorem MW.step(h:MW Q n A K I M z rest w w')(D:K.N'+4<=w'.heap.size){l}{v e}(o:WR (aT Q (BW A)) Q.globals.size l v e)(E:aS v)(d:Move I l w w' v e):MW Q n A K l (EX M w' e) z rest v e/\(∀y,y<w'.heap.size->¬M y->e.heap[y]? =w'.heap[y]?):=by
 have m:=h.size;have p:=h.Ud;have i:∀y:Nat,y<w'.heap.size->¬M y->e.heap[y]? =w'.heap[y]? :=λy t j=>d.keep' y t λb k x=>j (h.ran b y k x)
 have keep:∀b:Nat,b<w.heap.size->(∀c k,¬I b c k)->v.heap[b]? =w.heap[b]? :=d.keep;refine⟨⟨o,E,λb c k x=> ?_,λb c k x=> ?_,λb C j B=> ?_,?_,?_,(i _ h.Mc h.sh.1).trans h.Dg,afC m d.grow,p,⟨λy=>y.elim h.sh.1 λq=>by have:=q.1;simp only[LK.l8]at this;omega,λy=>y.elim h.sh.2 λq=>by have:=q.1;simp only[LK.ch']at this;omega⟩,λb c k x=>(d.new b c k x).elim (h.high b c k) λy=>afC h.wr.big y.1,h.kn⟩,i⟩
 ·obtain y|⟨y,_⟩:=d.new b c k x
  ·exact h.old b c k y
  ·omega
 ·obtain y|⟨_,y⟩:=d.new b c k x
  ·exact .inl (h.ran b c k y)
  ·exact .inr ⟨y,(o.lt x).2⟩
 ·rw[keep b (by omega) λc k x=>j c k (d.le _ _ _ x)]
  exact h.stay b C (λc k x=>j c k (d.le _ _ _ x)) B
 ·obtain⟨s,r,u⟩:=h.chan
  exact⟨s,r,(keep _ (by grind) λc k x=>(h.DD x).2 rfl).trans u⟩
 ·exact(keep _ (by grind) λc k x=>(h.DD x).1 rfl).trans h.box
omit [Special]in
theorem Ue(x:Frame)(v):(x.finish v).mode=x.mode:=by grind[Frame.finish]
omit [Special]in
theorem Xu{x}(v)(h:btM n x):btM n (x.finish v):=by
 obtain⟨i,e,d,b⟩:=h;refine⟨by rw[(dH x v).fn,i],by rw[(dH x v).kind,e],by rw[Ue,d],?_⟩;obtain b|b:=b
 ·constructor<;>grind[Frame.finish]
 ·exact(wG x v _ _ d b).2
variable(st:Seat Q P c n Z A L O X V U)(hub:Under c F.r)
include st
theorem a4D{b e:Nat}{c l:Code}(h:kG Q (X2 A b e) c l):c=l:=by
 induction h with
 |same c h=>rfl
 |sp c l h=>
  rw[st.sp]at h
  obtain⟨_,rfl,rfl⟩|⟨h,_⟩:=h
  ·rfl
  ·exact absurd h (by decide)
 |seq _ _ k j=>grind
 |cond x m _ _ k j=>grind
 |block id _ i=>rw[i]
 |loop _ i=>rw[i]
 |scope _ i=>rw[i]
 |region id d h=>rw[h.eq (by simp[X2])]
theorem a4E{b e:Nat}{I:Ren}{l d:List Item}(h:pQ Q (X2 A b e) I l d):l=d:=by
 induction h with
 |nil=>rfl
 |cons p _ o=>
  rw[o]
  cases p with
  |code c k h=>rw[a4D st h]
  |inLoop c k h=>rw[a4D st h]
  |inScope c k h=>rw[a4D st h]
  |inRangeFunc l d h i=>cases i
  |endRangeFunc l d h i=>cases i
  |inRegion m j l h=>rw[h.eq (by simp[X2])]
  |_=>rfl
include hub
theorem a1c(hN':K.N'+4<=w'.heap.size)(hW:MW Q n A K I M z rest w w')(hV:VT Q c R g w)(h:a7X Q n A K F I g a):
  ∃a' w2 es m' j',aam Q P c R n A K F M z rest (g,w) 0 a w' a' w2 es m' j':=by
 obtain⟨τ,cx,E,cs,i,cs',rfl,rfl,D,hτ⟩:=h;have hF:=D.top
 have q:∀{x x':Frame}{gl:Scope}{τ:Ren},bn Q gl I τ x x'->x'.mode=.run->x.mode=.run:=λhF j=>by
  obtain⟨h,_⟩|⟨_,h⟩:=hF.mode
  ·exact h
  ·rw[j]at h;cases h
 have adU:a0S (X2 A K.ch K.ch').live E i->E.todo=.code n.bQ::E.todo.tail/\i.todo=.code n.bQ::i.todo.tail:=λ⟨cd,cd',k,k',ht,H,hs⟩=>by
  rw[st.sp]at hs
  obtain⟨_,rfl,rfl⟩|⟨h,_⟩:=hs
  ·exact⟨by rw[ht];rfl,by rw[H];rfl⟩
  ·exact absurd h (by decide)
 by_cases p:cs=F.r/\i.todo=.code n.bQ::.inLoop n.bQ::n.atEnd
 ·
  obtain⟨C,H⟩:=p;obtain⟨_,hcs',t,m,l⟩|⟨hne,_⟩:=D.whole
  ·subst C hcs'
   simp only[SM,agr]at m;subst m;obtain⟨hb1,hb2,S,_⟩:=t;have j:=q hF S;have ht:E.todo=.code n.bQ::.inLoop n.bQ::n.atEnd:=by rw[<-H];exact a4E st hF.todo
   have ads:i.roundOf=none:=Az
   have N:qV Q c (G {E with todo:=.code (.region 4 (au.a4 n) false)::.code n.nQ::.inLoop n.bQ::n.atEnd} F.r,w) (G E F.r,w):=
    ⟨λ⟨_,h,_⟩=>(jD),[],oC.Fg rfl λT d _=>⟨_,vv ht j rfl⟩⟩
   refine⟨G {i with todo:=.code (.region 4 (au.a4 n) false)::.code n.nQ::.inLoop n.bQ::n.atEnd} F.r',w',#[],_,1,vv H S rfl,afA _,by simp,λ_ _ _=>rfl,.left _ _ (.single N),?_⟩
   rw[p9]
   refine⟨I,hW,VT.Ap (x:=(_,w)) hV N,.head 0 (G {E with todo:=iN n [0,1]} F.r) ⟨1,dA.code rfl j rfl rfl rfl⟩ (dA.code rfl S rfl rfl ?_)⟩
   exact⟨E,i,⟨_,(hF.mono (Ren.le_refl _)).to rfl rfl rfl rfl .nil (λh=>by cases h) (.inl ⟨j,S⟩) rfl rfl rfl rfl,j,l,hb1,hb2,λb c k x=>x.elim .inl (hτ b c k),Ren.uP _ _⟩,rfl,rfl⟩
  ·exact absurd C hne
 ·have hlive:E.mode=.returning->cx.live=none:=λhr=>by
   obtain⟨_,_,t,_⟩|⟨_,m⟩:=D.whole
   ·have:=q hF t.2.2.1
    rw[this]at hr;cases hr
   ·simp only[SM,afI,ag6]at m
    rw[m];rfl
  have hsp:E.mode=.run->¬a0S cx.live E i:=λj hs=>by
   obtain⟨C,hcs',t,m,_⟩|⟨_,m⟩:=D.whole
   ·simp only[SM,agr]at m
    subst m;obtain⟨_,h2⟩:=adU hs;obtain h|⟨Y,hY,hall⟩:=t.2.2.2
    ·exact p ⟨C,h⟩
    ·rw[h2]at hY
     cases Y with
     |nil=>cases hY
     |cons y Y=>
      simp only[agN,agK]at hY;have:=hall y (by simp)
      rw[<-hY.1]at this
      simp[vG,au.bQ,au.nQ,Ac]at this
   ·simp only[SM,afI,ag6]at m
    subst m;obtain⟨cd,cd',k,k',ht,H,hs⟩:=hs
    rw[st.sp]at hs
    obtain⟨s,rfl⟩:=hs;exact wI st.door hV ht j
  have hnb:¬xH F.r (G E cs):=λ⟨h1,h2,_⟩=>by
   obtain⟨_,_,t,_⟩|⟨hne,_⟩:=D.whole
   ·have:=q hF t.2.2.1
    dsimp only[G]at h2
    rw[this]at h2;cases h2
   ·exact hne h1
  obtain⟨g1,v,g1',v',es',σ,N,hV1,hst,haft,hW1,hN1,hM,hev⟩:=D.next (B:=BW A) (main':=true) st.env st.heads (λ_ h=>h) st.Xn st.res (λg h=>by simp[BW]at h) st.door hub (by simp[SM])
   (λx u h=>Xu u h) hlive hsp (λC n' hb hk ha=>by
    obtain⟨h1,h2,h3,h4⟩:=hb;obtain h4|h4:=h4
    ·exact absurd ⟨C,h4⟩ p
    ·obtain⟨h5,h6⟩:=hk _ _ h3 h4
     exact⟨by rw[ha.fn,h1],by rw[ha.kind,h2],h5,h6⟩) hW.wr hW.tidy hV hnb
  obtain⟨hS2,hkeep⟩:=hW.step hN' hW1 hN1 hM;refine⟨g1',v',es',(g1,v),0,hst,hM.grow',λe he=>IX hM hW1 hW.ran (hev e he),hkeep,.left _ _ (.single N),σ,hS2,hV1,.run ?_⟩;have W:aal K σ (σ.or τ):=λb c k x=>x.elim .inl λy=>(hτ b c k y).imp (hM.le _ _ _) id
  cases haft with
  |on cy f f' fs fs' hS1=>exact⟨_,cy,f,fs,f',fs',rfl,rfl,hS1,W⟩
  |enter f x x' haa he cy k k' r r' hS1=>exact⟨_,BW A,_,_,_,_,rfl,rfl,dm.above (BW A) rfl (by simp[SM]) _ _ ((bn.enter rfl rfl (st.text1 f _ he) haa).any rfl (Ren.uP _ _)) rfl cy k k' r r' hS1,W⟩
end
end
section
variable[Special]
open Go.Conc (G rcase scase)
section
variable{p:Program}{n:au}{J I:Value}{U O:ChanDir}{L:TypeInfo}(A:TF p n J I U O L)
def au.Uf(n:au):Oper:=⟨some 12,Op.recv n.xc (Operand.tmp 11) true,0, "journal.go:49",#[],none⟩
include A
omit [Special]in
theorem PG{b:Bool}{fr:Frame}{e:List Frame}{k:List Item}{ops:Array Oper}{i:Nat}{rest:List Nat}(h:vK fr ops i rest k n.Uf)(l:fr.kind≠.early){d:Nat}(c:fr.tmps.getD 11 undef=.chan (some d))(w:World):
  stepG p b (G fr e) w=.comm (G fr e) #[rcase d I] true (.recv true) w #[]:=by
 have j:(execOp fr.eval n.Uf).run p w=.ok (.comm #[rcase d I] true (.recv true)) w:=by unfold execOp;simp only[au.Uf,Frame.eval,c,Sem.run_bind,A.TT,Result.andThen_ok,A.ZN,Sem.run_pure];rfl
 have m:(execOp fr.eval n.Uf).events p w #[]=#[]:=by unfold execOp;simp only[au.Uf,Sem.events_bind,events_underlying,Sem.run_bind,A.TT,Result.andThen_ok,Result.evThen_ok,events_zeroValue,A.ZN,Sem.events_pure]
 rw[Pm h l j,m]
 rfl
end
section
variable{Q P:Program}{c:Frame}{n:au}{Z I:List Nat}{V L:Value}{U O:ChanDir}{Y:TypeInfo}{R:Value->World->Prop}{K:LK}{F:MK}{A:Ren}{M:Nat->Prop}{z w J w1:World}{rest:Array Value}
theorem Md(b:MW Q n I K A M z rest w J)(s:VT Q c R g w){m}{q}(x:GV Q n K g q){X}(y:∀a1,X a1->MSt Q P n I K F A q a1 0)(o:∀m a1,dA P true (kL n K.l8 K.ch') (fG K.l8) X (m+1) a1->MSt Q P n I K F A g a1 (m+1))(h:dA P true (kL n K.l8 K.ch') (fG K.l8) X (m+1) a):
  ∃B t k u v,aam Q P c R n I K F M z rest (g,w) (m+1) a J B t k u v:=by
 obtain⟨_,_,_,a1,k,d,j,r⟩:=h;cases m with
 |succ m=>exact⟨a1,J,k,(g,w),m+1,d _ b.Dg,afA _,λe l=>rU b.Mc (j e l),λ_ _ _=>rfl,.right _ (by omega),by rw[p9];exact⟨A,b,s,o _ _ r⟩⟩
 |zero=>
  obtain⟨p,i⟩:=x.go b.box s;refine⟨a1,J,k,(q,w),0,d _ b.Dg,afA _,λe l=>rU b.Mc (j e l),λ_ _ _=>rfl,?_,by rw[p9];exact⟨A,b,p,y _ r⟩⟩;obtain e|C:=i<;>grind
variable(X:Seat Q P c n Z I V L U O Y)
include X
theorem MI.cases(k:Under c F.r)(l:K.N'+4<=J.heap.size){m:Goroutine×World}{j:Nat}{a:Goroutine}(h:MI Q P c R n I K F M z rest m j a J):
  (∃t p s q r,aam Q P c R n I K F M z rest m j a J t p s q r)\/∃A,MW Q n I K A M z rest m.2 J/\VT Q c R m.1 m.2/\AtRecv Q n I K F A m.1 a:=by
 obtain⟨g,w⟩:=m;obtain⟨A,e,i,b⟩:=h;dsimp only at e i b;cases b with
 |run h=>exact .inl (a1c X k l e i h)
 |recv h=>exact .inr ⟨A,e,i,h⟩
 |head m o d h=>exact .inl (Md e i d (λa1 h=>.recv h) (λm a1 h=>.head m o d h) h)
 |got m o d h=>exact .inl (Md e i d (λa1 h=>.run h) (λm a1 h=>.got m o d h) h)
omit X in
theorem AtRecv.core{g a}(h:AtRecv Q n I K F A g a):Go.Conc.core a=a:=by obtain⟨f,f',_,_,rfl⟩:=h;rfl
omit X in
theorem DF.facts(h:DF Q n I K A f f'):f.tmps.getD 11 undef=.chan (some K.ch)/\f'.tmps.getD 11 undef=.chan (some K.ch')/\f.mode=.run/\f'.mode=.run/\f.roundOf=none/\f'.roundOf=none/\f.kind=.normal/\f'.kind=.normal/\f.fn=n.uQ/\f'.fn=n.uQ/\f.tmps.size=27/\f'.tmps.size=27/\f.defers=[]/\f'.defers=[]:=by
 obtain⟨v,hF,H,hr,j,r,_⟩:=h;obtain⟨_,u,s⟩:=hF.fix (11,.chan (some K.ch),.chan (some K.ch')) (by simp[X2])
 have q:f'.mode=.run:=by obtain⟨_,h⟩|⟨h,_⟩:=hF.mode<;>grind
 have k:f'.roundOf=none:=by
  have:=hF.round;dsimp only at this
  exact tJ
 have d:f.fn=n.uQ:=by have:=hF.fn;dsimp only at this;rw[<-this];exact j
 have N:f.tmps.size=27:=hF.len (by simp[X2]);have b:f'.tmps.size=27:=Ay
 obtain⟨p,m,_⟩:=hF.put (by simp[X2])
 exact⟨u,s,H,q,hr,k,hF.kind,r,d,j,N,b,p,m⟩
theorem AtRecv.recv{g a:Goroutine}(h:AtRecv Q n I K F A g a):Recv P K.ch' a L/\∀w,stepG Q true g w=.comm g #[rcase K.ch L] true (.recv true) w #[]:=by
 obtain⟨f,f',o,rfl,rfl⟩:=h;obtain⟨q,p,l,d,j,b,m,e,_⟩:=o.facts
 exact⟨λw=>PG X.ZR (fr:={f' with todo:=iN n [0,1]}) (ops:=au.a4 n) (i:=0) (rest:=[1]) (k:=.code n.nQ::.inLoop n.bQ::n.atEnd) ⟨rfl,d,b,rfl,rfl⟩ (by show f'.kind≠_;rw[e];simp) p w,
  λw=>PG X.ZT (fr:={f with todo:=iN n [0,1]}) (ops:=au.a4 n) (i:=0) (rest:=[1]) (k:=.code n.nQ::.inLoop n.bQ::n.atEnd) ⟨rfl,l,j,rfl,rfl⟩ (by show f.kind≠_;rw[m];simp) q w⟩
omit X in
theorem DF.got(h:DF Q n I K A f f'){v}(u:VR A v v)(b)(l):DF Q n I K A {f with tmps:=(f.tmps.setIfInBounds 12 (.tuple #[v,.bool b])).setIfInBounds 13 (.bool b),todo:=l} {f' with tmps:=(f'.tmps.setIfInBounds 12 (.tuple #[v,.bool b])).setIfInBounds 13 (.bool b),todo:=l}:=by
 obtain⟨p,hF,r,q,m,s,k,e⟩:=h
 have t:VR A (.tuple #[v,.bool b]) (.tuple #[v,.bool b]):=.tuple _ _ rfl λi x y j o=>by
  rw[j]at o;cases o
  match i with
  |0=>grind
  |1=>simp at j;subst j;exact VR.plain 1 _ rfl
  |i+2=>simp at j
 exact⟨p,(hF.set (d:=12) (by simp[X2]) t e).set (d:=13) (by simp[X2]) (VR.plain 1 _ rfl) e,r,q,m,s,k,e⟩
omit X in
theorem GX{p}{U O}(i:TF p n V L U O Y){main}{W}{E}{cs}(d:f.mode=.run)(l:f.roundOf=none)(m:f.kind=.normal)(h:f.fn=n.uQ)(j:f.tmps.size=27)(v)(b):
  dA p main W E (λx=>x=G {f with tmps:=(f.tmps.setIfInBounds 12 (.tuple #[v,.bool b])).setIfInBounds 13 (.bool b),todo:=if b then .code (Code.block 1 n.blk)::.inLoop n.bQ::n.atEnd else [.code n.gF]} cs) 5
   (Go.Conc.served (G {f with todo:=iN n [0,1]} cs) (.tuple #[v,.bool b])):=by
 have e:Go.Conc.served (G {f with todo:=iN n [0,1]} cs) (.tuple #[v,.bool b])=G {f with tmps:=f.tmps.setIfInBounds 12 (.tuple #[v,.bool b]),todo:=iN n [1]} cs:=rfl
 rw[e]
 refine aac (k:=.inLoop n.bQ::n.atEnd) (v:=v) (b:=b) rfl d l m (i.quiet _ (.inr (.inr h))) ?_ (by grind) ?_
 ·simp_all
 ·cases b with
  |true=>exact .code rfl d rfl rfl rfl
  |false=>exact .code rfl d rfl rfl rfl
theorem DF.round(h:DF Q n I K A f f')(l:f.todo=.code (Code.block 1 n.blk)::.inLoop n.bQ::n.atEnd)(b:f'.todo=.code (Code.block 1 n.blk)::.inLoop n.bQ::n.atEnd):a7X Q n I K F A (G f F.r) (G f' F.r'):=by
 obtain⟨_,_,o,d,m,_,_,j,_,e,_⟩:=h.facts;obtain⟨k,hF,_,_,_,_,i,p⟩:=h;refine⟨k,X2 I K.ch K.ch',f,F.r,f',F.r',rfl,rfl,dm.bottom (S:=SM I K) (bt:=btM n) (X2 I K.ch K.ch') rfl (by simp[SM]) f f' ?_ m ⟨e,j,d,.inr ⟨[.code (Code.block 1 n.blk)],b,?_⟩⟩,i⟩
 ·refine hF.to rfl rfl rfl rfl ?_ (λh=>by cases h) (.inl ⟨o,d⟩) rfl rfl rfl rfl
  rw[l,b]
  refine .cons (.code _ _ (.same _ (X.a7U _ _))) (.cons (.inLoop _ _ (.sp _ _ ?_)) (.cons (.inBlock 0) (.cons (.code _ _ (.same _ (X.ZU _ _))) .nil)))
  rw[X.sp]
  exact .inl ⟨rfl,rfl,rfl⟩
 simp[agp,vG,Ac,au.blk]
omit X in
theorem MW.passed(q:MW Q n I K A M z rest w J){d}(s r H S)(B):
  MW Q n I K A M z d (w.setChan K.ch au.bN.toNat d true s r false) (J.setChan K.ch' 0 #[] false H S B):=by
 obtain⟨T,r0,u⟩:=q.chan;have j:K.ch<w.heap.size:=(afD.1 u).1
 have p:∀b,b≠K.ch->(w.setChan K.ch au.bN.toNat d true s r false).heap[b]? =w.heap[b]? :=λb D=>tF
 have l:(w.setChan K.ch au.bN.toNat d true s r false).heap[K.ch]? =some (.chan au.bN.toNat d true s r false):=tH
 have m:∀y,y≠K.ch'->(J.setChan K.ch' 0 #[] false H S B).heap[y]? =J.heap[y]? :=λy E=>tO
 refine⟨(q.wr.Ma (v:=w.setChan K.ch au.bN.toNat d true s r false) tN λb c k x=>p b (q.DD x).2).other' (q.wr.held.calm.keep gp (λy E=>m y (by have:=q.kn;exact gm)) rfl rfl) tL λb c k x=>m c λe=>q.sh.2 (e▸q.ran b c k x),
  ?_,q.old,q.ran,λb D N u=>(p b u).trans (q.stay b D N u),⟨s,r,l⟩,(p _ (by simp)).trans q.box,(m _ (by simp)).trans q.Dg,by simpa[World.setChan]using q.size,q.Ud,q.sh,q.high,q.kn⟩
 intro i o C
 exact Av
theorem AtRecv.meet(S:MW Q n I K A M z rest w J)(hV:VT Q c R g w)(h:AtRecv Q n I K F A g a){v:Value}{b:Array Value}(e:rest=#[v]++b)(hp:eH 5 v=true):
  ∃N,Below Q c N (g,w)/\∀s r m,MI Q P c R n I K F M z b N 5 (Go.Conc.served a (.tuple #[v,.bool true])) (J.setChan K.ch' 0 #[] false s r m):=by
 obtain⟨_,q⟩:=h.recv X;obtain⟨f,f',hN,rfl,rfl⟩:=h;obtain⟨_,_,j,y,hr,t,hk,B,C,l,p,i,_⟩:=hN.facts;obtain⟨s,r,hc⟩:=S.chan;have u:¬AtRet c (G {f with todo:=iN n [0,1]} F.r):=λ⟨_,h,_⟩=>jD
 have H:rest.getD 0 undef=v:=by subst e;rw[afM,Array.getElem?_append_left (by simp)];rfl
 have D:rest.extract 1 rest.size=b:=by subst e;apply ahd;simp
 have k:qV Q c (Go.Conc.served (G {f with todo:=iN n [0,1]} F.r) (.tuple #[v,.bool true]),w.setChan K.ch au.bN.toNat b true s (r+1) false) (G {f with todo:=iN n [0,1]} F.r,w):=
  ⟨u,[],λT d _=>by
   have:=a18 (w:=re T d w) rfl (q _) (show(re T d w).heap[K.ch]? =_ from hc) (by grind)
   rw[H,D]at this
   exact this⟩
 refine⟨_,.single k,λs' r' m=>⟨A,S.passed s (r+1) s' r' m,VT.Ap (x:=(_,w)) hV k,?_⟩⟩
 exact .got 4 _ ⟨5,GX X.ZT j hr hk C p v true⟩ (by
  have hh:=GX (main:=true) (W:=kL n K.l8 K.ch') (E:=fG K.l8) (cs:=F.r') X.ZR y t B l i v true;refine hh.imp λx hx=> ?_
  subst hx
  exact(hN.got (VR.plain 5 v hp) true _).round X rfl rfl)
theorem AtRecv.shut(hW:MW Q n I K A M z rest w J)(hV:VT Q c R g w)(h:AtRecv Q n I K F A g a)(b:rest=#[]):
  ∃f f',DF Q n I K A f f'/\f.todo=[.code n.gF]/\f'.todo=[.code n.gF]/\Below Q c (G f F.r,w) (g,w)/\VT Q c R (G f F.r) w/\
   dA P true (λ_=>True) (λ_=>False) (λx=>x=G f' F.r') 5 (Go.Conc.served a (.tuple #[L,.bool false])):=by
 obtain⟨_,p⟩:=h.recv X;obtain⟨f,f',D,rfl,rfl⟩:=h;obtain⟨_,_,j,u,H,q,N,v,y,l,m,e,_⟩:=D.facts;obtain⟨s,r,hc⟩:=hW.chan;subst b;have t:¬AtRet c (G {f with todo:=iN n [0,1]} F.r):=λ⟨_,h,_⟩=>jD
 have i:qV Q c (Go.Conc.served (G {f with todo:=iN n [0,1]} F.r) (.tuple #[L,.bool false]),w) (G {f with todo:=iN n [0,1]} F.r,w):=
  ⟨t,[],λT d _=>a19 (w:=re T d w) rfl (p _) (show(re T d w).heap[K.ch]? =_ from hc)⟩
 have C:=VT.Ap (x:=(_,w)) hV i;have S:=GX (main:=true) (W:=λ_=>True) (E:=λ_=>False) (cs:=F.r) X.ZT j H N y m L false;obtain⟨_,rfl,B,k⟩:=S.chain (c:=c) (w:=w) λT d=>trivial
 exact⟨_,_,D.got (VR.plain 100 L X.Rk) false [.code n.gF],rfl,rfl,(k (by omega)).tail i,B.vt C,GX X.ZR u q v l e L false⟩
end
end
end Go.Proofs.Zb
