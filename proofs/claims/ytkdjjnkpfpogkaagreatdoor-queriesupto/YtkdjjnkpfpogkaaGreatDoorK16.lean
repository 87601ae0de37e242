import Derived.Test.YtkdjjnkpfpogkaaGreatDoorK15
set_option maxHeartbeats 8000000
set_option linter.all false
namespace Go.Proofs.Zb
variable{v v':World}{τ:Ren}{fr:Frame}{a:Goroutine}{A I:Array Oper}
section
variable[Special]
open Go.Conc (G rcase scase QuitsIn AtRel)
def au.I1(n:au)(l:List Nat):List Item:=[.inRegion (au.a3 n) l,.code (Code.block 0 n.bQ.loop),.code n.gF]
structure acf(Q:Program)(n:au)(A0 A1:List Nat)(c:Frame)(f0:FuncId)(zS:Value)(pR:Ren)(g:Goroutine)(w:World)(a:Goroutine)(w':World)(F:MK)(ρ τ:Ren)(cx:Scope)(fr:Frame)(cs:List Frame)(fr':Frame)(cs':List Frame)(d d' t:Value)(N4 Ru:Nat):Prop where
 hg:g=G fr cs
 ha:a=G fr' cs'
 rest:Rest Q A0 A1 n.uQ c f0 pR ρ F
 st:dm (λ_ cx=>cx=BW A1) (btN n.xJ) Q (BW A1) ρ τ (n.eF (au.Dz d t N4) (n.I1 [2,3])::F.r) (n.eF (au.Dz d' t Ru) (n.I1 [2,3])::F.r') cx fr cs fr' cs'
 pre:Pre Q n A1 zS ρ d d' t undef undef N4 Ru w w'
structure aar(Q:Program)(n:au)(A0 A1:List Nat)(c:Frame)(f0:FuncId)(zS:Value)(pR:Ren)(g:Goroutine)(w:World)(a:Goroutine)(w':World)(F:MK)(ρ:Ren)(d d' t nm nm':Value)(N4 Ru:Nat)(u u':World):Prop where
 hg:g=G (n.fB (n.wh d nm u.heap.size) [.inRegion (n.Dy au.goQ) [1],.code n.gN]) (n.eF (au.Df d t nm N4) (n.I1 [3])::F.r)
 hw:w=n.iZ u d nm au.bN.toNat
 ha:a=G (n.fB (n.wh d' nm' u'.heap.size) [.inRegion (n.Dy au.goP) [1],.code n.gN]) (n.eF (au.Df d' t nm' Ru) (n.I1 [3])::F.r')
 hw':w'=n.iZ u' d' nm' 0
 rest:Rest Q A0 A1 n.uQ c f0 pR ρ F
 pre:Pre Q n A1 zS ρ d d' t nm nm' N4 Ru u u'
inductive NB(Q:Program)(n:au)(A0 A1:List Nat)(c:Frame)(f0:FuncId)(zS:Value)(pR:Ren)(x:Goroutine×World)(a:Goroutine)(w':World):Prop
 |ord (ρ τ:Ren) (cx:Scope) (fr:Frame) (cs:List Frame) (fr':Frame) (cs':List Frame) (h:Ord Q n A0 A1 c f0 pR x.1 x.2 a w' ρ τ cx fr cs fr' cs'):NB Q n A0 A1 c f0 zS pR x a w'
 |seg (F:MK) (ρ τ:Ren) (cx:Scope) (fr:Frame) (cs:List Frame) (fr':Frame) (cs':List Frame) (d d' t:Value) (N4 Ru:Nat) (h:acf Q n A0 A1 c f0 zS pR x.1 x.2 a w' F ρ τ cx fr cs fr' cs' d d' t N4 Ru):NB Q n A0 A1 c f0 zS pR x a w'
 |spawn (F:MK) (ρ:Ren) (d d' t nm nm':Value) (N4 Ru:Nat) (u u':World) (h:aar Q n A0 A1 c f0 zS pR x.1 x.2 a w' F ρ d d' t nm nm' N4 Ru u u'):NB Q n A0 A1 c f0 zS pR x a w'
def a1h(Q P:Program)(c:Frame)(R:Value->World->Prop)(n:au)(i h:List Nat)(g:FuncId)(e:Value)(d:Ren)(b:Om Q c)(a:Goroutine)(f:World):Prop:=
 b.2.1.1=b.1/\VT Q c R b.1.1.1 b.1.1.2/\((NB Q n i h c g e d b.1.1 a f/\b.2.1.2=100)\/∃m y,b.2.1.2=m+1/\m+1<100/\Below Q c y b.1.1/\bJ P true (λa1 j=>NB Q n i h c g e d y a1 j) (m+1) a f)
section
variable{Q P:Program}{c:Frame}{n:au}{A0 U:List Nat}{zS zR:Value}{d1 d2:ChanDir}{iR:TypeInfo}{R:Value->World->Prop}{J ρN V:Ren}{F:MK}{f0:FuncId}{w w':World}{d L t Z X:Value}{Y O:Nat}{u u':World}
theorem Pre.re'(h:Pre Q n U zS ρN d L t Z X Y O u u')(T)(b):Pre Q n U zS ρN d L t Z X Y O u (re T b u'):=
 ⟨h.wr.re' T b,h.tidy,h.high,h.hd,h.hnm,h.ht,h.s4,h.b4,h.g4,h.o4⟩
theorem NB.re{x:Goroutine×World}{a:Goroutine}(T:Nat->Question->Nat)(g:Nat)(h:NB Q n A0 U c f0 zS V x a w'):NB Q n A0 U c f0 zS V x a (re T g w'):=by
 cases h with
 |ord J τ f fr i b e h=>exact .ord J τ f fr i b e ⟨h.hg,h.ha,h.st,h.le,h.wr.re' T g,h.tidy,h.high⟩
 |seg F J τ f fr i b e d L t Y O h=>exact .seg F J τ f fr i b e d L t Y O ⟨h.hg,h.ha,h.rest,h.st,h.pre.re' T g⟩
 |spawn F J d L t Z X Y O u u' h=>exact .spawn F J d L t Z X Y O u (Zb.re T g u') ⟨h.hg,h.hw,h.ha,by rw[h.hw'];rfl,h.rest,h.pre.re' T g⟩
theorem Pre.step(h:Pre Q n U zS J d L t Z X Y O w w'){f}(j:WR (aT Q (BW U)) Q.globals.size f v v')(l:aS v)(e:Move J f w w' v v'):Pre Q n U zS f d L t Z X Y O v v':=by
 obtain⟨r,m⟩:=h.facts;refine⟨j,l,λb c k x=> ?_,h.hd.mono e.le,h.hnm.mono e.le,h.ht,λb c k x=> ?_,λi g=> ?_,h.g4,h.o4⟩
 ·obtain y|⟨y,_⟩:=e.new b c k x
  ·exact h.high b c k y
  ·exact afC h.wr.big y
 ·obtain y|⟨y,q⟩:=e.new b c k x
  ·exact h.s4 b c k y
  ·omega
 ·obtain⟨p,o⟩:=h.b4 i g
  refine⟨(e.keep _ (by omega) λc k x=> ?_).trans p,(e.keep' _ (by omega) λb k x=> ?_).trans o⟩
  ·have:=h.s4 _ _ _ x;omega
  ·have:=h.s4 _ _ _ x;omega
section
omit [Special]
theorem KZ{i:Nat}(h:i<v.heap.size):(au.KC n v zS).heap[i]? =v.heap[i]? :=by
 simp only[au.KC,agh,Array.size_push]
 split<;>grind
theorem XA:∀i,i<2->(au.KC n v zS).heap[v.heap.size+i]? =some (.cells zS.cells n.l9 (0,0)):=λi b=>by
 have:i=0\/i=1:=by omega
 obtain rfl|rfl:=this<;>grind[au.KC,agh,Array.size_push]
theorem GY:(au.KC n v zS).heap.size=v.heap.size+2:=by simp[au.KC]
theorem Uh(h:aS v):aS (au.KC n v zS):=by
 intro i o b
 by_cases f:i<v.heap.size
 ·rw[KZ f]at b;exact h i o b
 ·have e:=(afD.1 b).1
  rw[GY]at e
  have:=XA (n:=n) (zS:=zS) (v:=v) (i-v.heap.size) (by omega)
  rw[show v.heap.size+(i-v.heap.size)=i by omega]at this
  rw[this]at b;cases b;trivial
end
theorem a8a(e:WR (aT Q (BW U)) Q.globals.size J v v')(p:aS v)(j:∀b c k,J b c k->Q.globals.size<=b)(l:VR J d L)(h:∃k m,t=.int k m):
  Pre Q n U zS J d L t undef undef v.heap.size v'.heap.size (au.KC n v zS) (au.KC n v' zS):=by
 have o:=e.big;have f:=e.Dl;refine⟨(e.Ma (by rw[GY];omega) λb c k x=>KZ (e.lt x).1).other' (e.held.calm.keep (by rw[GY];omega) (λc q=>KZ (by have:=e.held.calm.Tj;omega)) rfl rfl) (by rw[GY];omega) λb c k x=>KZ (e.lt x).2,Uh p,j,l,vH,h,λb c k x=> ?_,λi g=>⟨XA i g,XA i g⟩,⟨o,f⟩,e.held.calm.Tj⟩;have:=e.lt x;omega
variable(st:Seat Q P c n A0 U zS zR d1 d2 iR)
include st
theorem prologue{k k':Frame}{r W:List Frame}{cy:Scope}(hub:Under c (k::r))(hV:VT Q c R (G (Frame.enter Q n.uQ #[d,t] .normal) (k::r)) v)(hSt:dm (SN A0 U n.uQ) (btN f0) Q (B0 A0 U n.uQ) J τ [c] [] cy k r k' W)(hle:V.le J)(q:WR (aT Q (BW U)) Q.globals.size J v v')(hN:aS v)(hg:∀b c k,J b c k->Q.globals.size<=b){t':Value}(j:VR J d L)(ht:VR J t t'):
  ∃y,Below Q c y (G (Frame.enter Q n.uQ #[d,t] .normal) (k::r),v)/\bJ P true (λa1 w1=>NB Q n A0 U c f0 zS V y a1 w1) 18 (G (Frame.enter P n.uQ #[L,t'] .normal) (k'::W)) v':=by
 obtain⟨fq,hfq,ae1,hbq⟩:=st.atQ;obtain⟨fp,hfp,ae2,hbp⟩:=st.atP;obtain⟨⟨sp,hsp,ae3,ae4⟩,sq,hsq,ae5,ae6⟩:=st.named n.xJ (.inr rfl)
 have H:∀(p:Program)(fr:Frame)(w:World),(execOp fr.eval ⟨some 6,Op.assign (Operand.const (Value.bool false)),n.qU, "journal.go:48",#[],none⟩).run p w=.ok (.value (.bool false)) w/\(execOp fr.eval ⟨some 6,Op.assign (Operand.const (Value.bool false)),n.qU, "journal.go:48",#[],none⟩).events p w #[]=#[]:=
  λp fr w=>rQ (x:=.const (.bool false)) (.inr rfl) rfl
 have hQ1:bJ Q true (λg w=>g=G (n.eF (au.FR d t v.heap.size) [.inRegion (au.ZM n) [1],.code n.fP]) (k::r)/\w=au.KC n v zS) 11 (G (Frame.enter Q n.uQ #[d,t] .normal) (k::r)) v:=by refine Pq (m:=1) st.ZT hfq ae1 hbq d t (k::r) v ?_;exact bJ.value (v:=.bool false) (w2:=au.KC n v zS) (ops:=au.ZM n) (i:=0) (rest:=[1]) (k:=[.code n.fP]) ⟨rfl,rfl,rfl,rfl,rfl⟩ rfl (λT x=>H Q _ _) (afA _) (nH:=n.eF (au.FR d t v.heap.size) [.inRegion (au.ZM n) [1],.code n.fP]) rfl ⟨rfl,rfl⟩
 obtain⟨_,_,⟨rfl,rfl⟩,_,D⟩:=hQ1.chain (c:=c);have D:=D (by omega);have hV1:=D.vt hV;dsimp only at hV1;have hop:vK (n.eF (au.FR d t v.heap.size) [.inRegion (au.ZM n) [1],.code n.fP]) (au.ZM n) 1 [] [.code n.fP] n.Xj:=⟨rfl,rfl,rfl,rfl,rfl⟩;have hnr:¬AtRet c (G (n.eF (au.FR d t v.heap.size) [.inRegion (au.ZM n) [1],.code n.fP]) (k::r)):=λ⟨_,h,_⟩=>by cases h
 have key:(∃z s,t=.int z s)/\∃x,∀T dd,(execOp (Frame.eval (n.eF (au.FR d t v.heap.size) [.inRegion (au.ZM n) [1],.code n.fP])) n.Xj).run Q (re T dd (au.KC n v zS))=.ok (.value x) (re T dd (au.KC n v zS)):=by
  obtain h|h:=st.Rm (Frame.eval (n.eF (au.FR d t v.heap.size) [.inRegion (au.ZM n) [1],.code n.fP])) (λ_=>rfl) (au.KC n v zS)
  ·exact h
  ·exfalso
   obtain⟨T,dd,_,hgo⟩:=hV1.LY st.door rfl hnr v.tape v.drawn
   rw[wH hop]at hgo
   obtain⟨x,u2,B,M,hni⟩:=h T dd;obtain⟨n1,u3,e⟩|⟨g1,u3,e⟩:=GM hub (λx B=>by cases B) (λy u3 e=>by rw[B]at e;cases e;intro i o C;rw[M]at C;exact Uh hN i o C) hgo<;>grind
 obtain⟨⟨z,s,rfl⟩,xb,hxb⟩:=key;cases ht
 have hnx:qV Q c (G (n.eF (au.FR d (.int z s) v.heap.size) [.inRegion (au.ZM n) [],.code n.fP]) (k::r),au.KC n v zS) (G (n.eF (au.FR d (.int z s) v.heap.size) [.inRegion (au.ZM n) [1],.code n.fP]) (k::r),au.KC n v zS):=
  ⟨hnr,[],.Fg rfl λT dd _=>⟨_,by rw[mM hop (by simp[au.eF]) (hxb T dd)];rfl⟩⟩
 have E:∀(p:Program)(sx:Func)(e:Value)(N:Nat)(w:World),p.funcs[n.xJ]? =some sx->sx.name≠ "runtime.NumGoroutine" ->sx.body.isNone=false->
   (execOp (Frame.eval (n.eF (au.Dz e (.int z s) N) (n.I1 [2,3]))) ⟨some 10,Op.call {callee:=Callee.value (Operand.func n.xJ),args:=#[Operand.tmp 9],argTypes:=#[n.kW]},n.iY, "journal.go:49",#[⟨1,.data⟩],none⟩).run p w=.ok (.enter n.xJ #[e]) w/\
   (execOp (Frame.eval (n.eF (au.Dz e (.int z s) N) (n.I1 [2,3]))) ⟨some 10,Op.call {callee:=Callee.value (Operand.func n.xJ),args:=#[Operand.tmp 9],argTypes:=#[n.kW]},n.iY, "journal.go:49",#[⟨1,.data⟩],none⟩).events p w #[]=#[]:=
  λp sx e N w h1 h2 h3=>by
   have:=IZ (p:=p) (e:=Frame.eval (n.eF (au.Dz e (.int z s) N) (n.I1 [2,3]))) (o:=⟨some 10,Op.call {callee:=Callee.value (Operand.func n.xJ),args:=#[Operand.tmp 9],argTypes:=#[n.kW]},n.iY, "journal.go:49",#[⟨1,.data⟩],none⟩) (x:=.func n.xJ) (args:=#[.tmp 9]) (ts:=#[n.kW]) rfl (f:=n.xJ) (cap:=#[]) rfl h1 h2 h3 w
   have e9:(#[Operand.tmp 9].map (Frame.eval (n.eF (au.Dz e (.int z s) N) (n.I1 [2,3])))++#[])=#[e]:=AZ
   rw[e9]at this
   exact this
 have hQ2:bJ Q true (λg w=>g=G (Frame.enter Q n.xJ #[d] .normal) (n.eF (au.Dz d (.int z s) v.heap.size) (n.I1 [2,3])::k::r)/\w=au.KC n v zS) 7 (G (n.eF (au.FR d (.int z s) v.heap.size) [.inRegion (au.ZM n) [],.code n.fP]) (k::r)) (au.KC n v zS):=by refine Ps (m:=1) st.ZT d (.int z s) v.heap.size (k::r) (au.KC n v zS) ?_;exact bJ.enter (fr:=n.eF (au.Dz d (.int z s) v.heap.size) (n.I1 [2,3])) (ops:=au.a3 n) (i:=2) (rest:=[3]) ⟨rfl,rfl,rfl,rfl,rfl⟩ rfl (λT x=>E Q sq d _ _ hsq ae5 ae6) ⟨rfl,rfl⟩
 obtain⟨_,_,⟨rfl,rfl⟩,_,S⟩:=hQ2.chain (c:=c);have S:=S (by omega);refine⟨_,(S.tail hnx).trans D,?_⟩;refine Pq (m:=8) st.ZR hfp ae2 hbp L (.int z s) (k'::W) v' ?_;refine bJ.value (v:=.bool false) (w2:=au.KC n v' zS) (ops:=au.a2 n) (i:=0) (rest:=[]) (k:=[.code n.fP]) ⟨rfl,rfl,rfl,rfl,rfl⟩ rfl (λT x=>H P _ _) (afA _) (nH:=n.eF (au.FR L (.int z s) v'.heap.size) [.inRegion (au.a2 n) [],.code n.fP]) rfl ?_;refine Ps (m:=1) st.ZR L (.int z s) v'.heap.size (k'::W) (au.KC n v' zS) ?_;refine bJ.enter (fr:=n.eF (au.Dz L (.int z s) v'.heap.size) (n.I1 [2,3])) (ops:=au.a3 n) (i:=2) (rest:=[3]) ⟨rfl,rfl,rfl,rfl,rfl⟩ rfl (λT x=>E P sp L _ _ hsp ae3 ae4) ?_;refine .seg ⟨k::r,k'::W⟩ J J (BW U) _ _ _ _ d L (.int z s) v.heap.size v'.heap.size ⟨rfl,rfl,⟨τ,cy,k,r,k',W,rfl,rfl,hSt,hle⟩,?_,a8a q hN hg j ⟨_,_,rfl⟩⟩;exact dm.bottom (BW U) rfl rfl _ _ (bn.enter rfl rfl (st.text1 n.xJ 1 st.seg) (AR.single j)) rfl ⟨rfl,rfl⟩
end
end
section
variable[Special]
open Go.Conc (G rcase scase QuitsIn AtRel EvL AtEnd)
section
variable{Q P:Program}{c:Frame}{n:au}{Y A1:List Nat}{Z zR:Value}{d1 d2:ChanDir}{iR:TypeInfo}{R:Value->World->Prop}{V ρN pR:Ren}{F:MK}{f0:FuncId}{w w':World}{d X t O J:Value}{U L:Nat}{u u':World}{Post:Value->World->Prop}
theorem PK{x}{N}{o}{e}(h:Lj o e)(q:WR x N o v v'):EvL (λ_=>False) v'.heap.size e:=by
 obtain⟨j,wr,s⟩:=e;cases j with
 |cell a=>
  obtain⟨⟨b,k,l⟩,i⟩:=h
  exact⟨λ_ _ g=>g.elim,by simp,by simp,(q.lt l).2⟩
 |obj r=>
  obtain⟨⟨b,k,l⟩,i⟩:=h;refine⟨λ_ _ g=>g.elim,by simp,by simp,?_⟩;cases wr<;>cases s<;>exact(q.lt l).2
 |mark m=>
  obtain⟨y,p,i⟩:=h;dsimp only at p i;subst p i;obtain rfl|⟨f,rfl⟩:=y<;>exact⟨λ_ _ g=>g.elim,by simp,by simp,trivial⟩
 |_=>exact h.elim
omit [Special]in
theorem I4{B}{e}(h:ZO B e):EvL (λ_=>False) B e:=by
 obtain⟨a,wr,rfl,f⟩:=h
 exact⟨λ_ _ b=>b.elim,by simp,by simp,f⟩
omit [Special]in
theorem XB(j:KA Q c)(v)(w):∃o u,step Q (Go.Conc.solo (G (c.finish v) []) w)=.ended o u:=by
 obtain⟨b,f,k,i,g,h⟩:=j.shut v
 have e:stepG Q true (G (c.finish v) []) w=.ended (.stuck ("no extern row " ++b) ((c.finish v).pos Q)) w:=by simp[stepG,G,i,stepG.exec,g,h]
 exact⟨_,_,lH rfl e⟩
theorem a1i(r:KA Q c){w}(s:AtRet c (G fr [c]))(q:fr.kind=.normal)(h:Ret Q c R (G fr [c]) w):∃v,fr.leaving Q w (.returned v)/\R v w:=by
 obtain⟨v,_,b,z,_⟩|⟨n,m,C,M,v,g,b,_⟩:=h.cases
 ·exact⟨v,b,z⟩
 ·exfalso
  obtain⟨_,H,j⟩:=s;dsimp only[G]at H j;have i:stepG Q true (G fr [c]) w=unwind Q true fr [c] none w:=dQ
  have p:(∃u v f,unwind Q true fr [c] none w=.go (G (c.finish u) []) v f)\/∃o v f,unwind Q true fr [c] none w=.ended o v f:=by
   unfold unwind;simp only[j,H];cases N:Q.funcs[fr.fn]? with
   |none=>exact .inl ⟨_,_,_,by unfold doReturn;simp only[q];rfl⟩
   |some D=>
    simp only[Sem.runT_eq];cases (results D fr.tmps).run Q w with
    |ok a u=>exact .inl ⟨_,_,_,by unfold doReturn;simp only[q];rfl⟩
    |halt x u=>cases x<;>exact .inr ⟨_,_,_,rfl⟩
  obtain⟨u,v',f,k⟩|⟨o,v',f,k⟩:=p
  ·rw[k]at i
   rw[Go.Conc.step_solo_go rfl i]at g
   cases g;cases n with
   |zero=>
    simp only[runN,Stepped.next.injEq,Go.Conc.solo,lone,Machine.mk.injEq]at b;have:=b.2.1;simp[G]at this
   |succ n=>
    obtain⟨o,x,B⟩:=XB r u v';have E:runN Q (n+1) (Go.Conc.solo (G (c.finish u) []) v')=match step Q (Go.Conc.solo (G (c.finish u) []) v')with| .next m=>runN Q n m|e=>e:=rfl
    rw[E,B]at b
    cases b
  ·rw[k]at i
   rw[lH rfl i]at g
   cases g
structure Goal(Q P:Program)(c:Frame)(n:au)(A1:List Nat)(f0:FuncId)(pR:Ren)(R Post:Value->World->Prop):Prop where
 post:∀σ v v' w w',pR.le σ->(∃T d,R v (re T d w))->VR σ v v'->WR (aT Q (BW A1)) Q.globals.size σ w w'->Post v' w'
 fn:∃fn fn' t,Q.funcs[f0]? =some fn/\P.funcs[f0]? =some fn'/\fn.results=#[.tmp t]/\fn'.results=#[.tmp t]
 init:P.inits.idxOf? f0=none
theorem a8b(hD:KA Q c)(W:Goal Q P c n A1 f0 pR R Post){g}{w}{w'}{V}{cx}{cs}{fr'}{cs'}(h:Ord Q n Y A1 c f0 pR g w a w' V τ cx fr cs fr' cs')(hV:VT Q c R g w)(ha:AtRet c g):AtEnd P (λ_=>False) w'.heap.size Post a w':=by
 obtain⟨rfl,rfl,hS,C,q,hN,_⟩:=h;have S:cs=[c]:=ha.1;obtain⟨_,z,T,s,_⟩|⟨hne,_⟩:=hS.whole
 ·subst S z
  have hF:=hS.top;simp only[SN]at s;subst s;obtain⟨f,D⟩:=T;obtain⟨fn,fn',t,hf,M,hr,p⟩:=W.fn;have E:fr.fn=f0:=by rw[<-hF.fn];exact f
  obtain⟨T2,dd2,_,m⟩:=hV w.tape w.drawn;obtain⟨v,hl,hR⟩:=a1i hD ha hF.kind m;obtain⟨H,j,_,fn1,r,b⟩:=hl
  rw[E,hf]at r;cases r
  rw[results_tmp hr]at b
  simp only[Result.ok.injEq,and_true]at b;subst b
  have B:fr'.mode=.returning:=ahh
  have N:fr'.defers=[]:=AV
  have i:stepG P true (G fr' []) w'=.ended (.done (fr'.tmps.getD t undef)) w' (seen P fr'.fn ((results fn' fr'.tmps).events P w' #[])++#[]):=by have k:=results_tmp p fr'.tmps P w';simp only[stepG,G,B,unwind,N,f,M,Sem.runT_eq,k,doReturn,D,W.init];rfl
  refine⟨rfl,_,_,i,?_,W.post V _ _ w w' C ⟨T2,dd2,hR⟩ (hF.live t rfl) q⟩;intro e he
  rw[Go.Conc.events_results_tmp p]at he
  exfalso
  obtain h|h:=agO.1 he<;>grind[Go.Conc.mem_seen]
 grind
variable(st:Seat Q P c n Y A1 Z zR d1 d2 iR)
include st
theorem a4J{g:Goroutine}{w:World}{w':World}{V:Ren}{cx:Scope}{cs:List Frame}{fr':Frame}{cs':List Frame}(hV:VT Q c R g w)(h:acf Q n Y A1 c f0 Z pR g w a w' F V τ cx fr cs fr' cs' d X t U L)(ha:xH (n.eF (au.Dz d t U) (n.I1 [2,3])::F.r) g):
  ∃y,Below Q c y (g,w)/\bJ P true (λa1 w1=>NB Q n Y A1 c f0 Z pR y a1 w1) 17 a w':=by
 obtain⟨rfl,rfl,q,hS,s⟩:=h;obtain⟨hcs,H,j⟩:=ha;dsimp only[G]at hcs H j;obtain⟨_,hcs',hbt,hcx,_⟩|⟨hne,_⟩:=hS.whole
 ·subst hcs hcs'
  have hF:=hS.top;obtain rfl:cx=BW A1:=hcx;obtain⟨hfn',hk'⟩:=hbt;have hfn:fr.fn=n.xJ:=by rw[<-hF.fn];exact hfn'
  obtain⟨fs,S,hfs,W⟩:=st.ac0;obtain⟨fsq,tq,hfsq,z⟩:=st.ac1;have b:=st.res n.xJ
  rw[hfs,hfsq]at b
  simp only[agy,ag1]at b
  rw[W,z]at b
  obtain rfl:S=tq:=by injection b with h;injection h with h;injection h
  have hm':fr'.mode=.returning:=ahh
  have hd':fr'.defers=[]:=AV
  have M:VR V (fr.tmps.getD S undef) (fr'.tmps.getD S undef):=hF.live S rfl;generalize B:fr.tmps.getD S undef=O at M;generalize hx':fr'.tmps.getD S undef=J at M;obtain⟨⟨rp,hrp,ae7,ae8⟩,rq,hrq,ahx,ae9⟩:=st.named n.wZ (.inl rfl);obtain⟨fr1,aea,aeb,hb1,hr1⟩:=st.aaf;obtain⟨nH,hfr2,aec,hb2,hr2⟩:=st.aag;obtain⟨_,_,k,r,k',r',hFr,a81,_⟩:=id q
  have C:∀(p:Program)(sx:Func)(e E:Value)(N:Nat)(w:World),p.funcs[n.wZ]? =some sx->sx.name≠ "runtime.NumGoroutine" ->sx.body.isNone=false->
    (execOp (Frame.eval (n.eF (au.Df e t E N) (n.I1 [3]))) ⟨some 11,Op.call {callee:=Callee.value (Operand.func n.wZ),args:=#[Operand.tmp 8,Operand.tmp 10],argTypes:=#[n.kW,n.iY]},n.xc, "journal.go:49",#[⟨0,.data⟩,⟨2,.data⟩,⟨2,.chain⟩],none⟩).run p w=.ok (.enter n.wZ #[e,E]) w/\
    (execOp (Frame.eval (n.eF (au.Df e t E N) (n.I1 [3]))) ⟨some 11,Op.call {callee:=Callee.value (Operand.func n.wZ),args:=#[Operand.tmp 8,Operand.tmp 10],argTypes:=#[n.kW,n.iY]},n.xc, "journal.go:49",#[⟨0,.data⟩,⟨2,.data⟩,⟨2,.chain⟩],none⟩).events p w #[]=#[]:=
   λp sx e E N w h1 h2 h3=>by
    have:=IZ (p:=p) (e:=Frame.eval (n.eF (au.Df e t E N) (n.I1 [3]))) (o:=⟨some 11,Op.call {callee:=Callee.value (Operand.func n.wZ),args:=#[Operand.tmp 8,Operand.tmp 10],argTypes:=#[n.kW,n.iY]},n.xc, "journal.go:49",#[⟨0,.data⟩,⟨2,.data⟩,⟨2,.chain⟩],none⟩) (x:=.func n.wZ) (args:=#[.tmp 8,.tmp 10]) (ts:=#[n.kW,n.iY]) rfl (f:=n.wZ) (cap:=#[]) rfl h1 h2 h3 w
    have e9:(#[Operand.tmp 8,Operand.tmp 10].map (Frame.eval (n.eF (au.Df e t E N) (n.I1 [3])))++#[])=#[e,E]:=AZ
    rw[e9]at this
    exact this
  have hQ:bJ Q true (λg1 w1=>g1=G (n.fB (n.wh d O w.heap.size) [.inRegion (n.Dy au.goQ) [1],.code n.gN]) (n.eF (au.Df d t O U) (n.I1 [3])::F.r)/\w1=n.iZ w d O au.bN.toNat) 17 (G fr (n.eF (au.Dz d t U) (n.I1 [2,3])::F.r)) w:=by
   refine bJ.back H j hF.kind (by grind) z B (by grind) ?_;have e:(n.eF (au.Dz d t U) (n.I1 [2,3])).finish O=n.eF (au.Df d t O U) (n.I1 [3]):=rfl
   rw[e]
   refine bJ.enter (fr:=n.eF (au.Df d t O U) (n.I1 [3])) (ops:=au.a3 n) (i:=3) (rest:=[]) ⟨rfl,rfl,rfl,rfl,rfl⟩ rfl (λT x=>C Q rq d O _ _ hrq ahx ae9) ?_;exact Po st.ZT (m:=au.bN) (by decide) hfr2 aec hb2 d O _ w ⟨rfl,rfl⟩
  obtain⟨_,_,⟨rfl,rfl⟩,_,D⟩:=hQ.chain (c:=c);refine⟨_,D (by omega),?_⟩;refine bJ.back hm' hd' hk' (by grind) W hx' (by grind) ?_;have e:(n.eF (au.Dz X t L) (n.I1 [2,3])).finish J=n.eF (au.Df X t J L) (n.I1 [3]):=rfl
  rw[e]
  refine bJ.enter (fr:=n.eF (au.Df X t J L) (n.I1 [3])) (ops:=au.a3 n) (i:=3) (rest:=[]) ⟨rfl,rfl,rfl,rfl,rfl⟩ rfl (λT x=>C P rp X J _ _ hrp ae7 ae8) ?_;refine Po st.ZR (m:=0) (by decide) aea aeb hb1 X J _ w' ?_;exact .spawn F V d X t O J U L w w' ⟨rfl,rfl,rfl,rfl,q,s.wr,s.tidy,s.high,s.hd,M,s.ht,s.s4,s.b4,s.g4,s.o4⟩
 grind
end
end
section
variable[Special]
open Go.Conc (G rcase scase QuitsIn AtRel EvL AtEnd)
section
variable{Q P:Program}{c:Frame}{n:au}{U O:List Nat}{Z zR:Value}{d1 d2:ChanDir}{iR:TypeInfo}{R:Value->World->Prop}{Y ρN J:Ren}{F:MK}{V:FuncId}{w L:World}{X:Value->World->Prop}
variable(st:Seat Q P c n U O Z zR d1 d2 iR)(hG:Goal Q P c n O V J R X)
include st hG
theorem aas{ω:Om Q c}(h:a1h Q P c R n U O V Z J ω a L):
  AtEnd P (λ_=>False) L.heap.size X a L\/
  (∃a' z es D,stepG P true a L=.go a' z es/\L.heap.size<=z.heap.size/\(∀e∈es,EvL (λ_=>False) z.heap.size e)/\OmR Q c D ω/\a1h Q P c R n U O V Z J D a' z)\/
  (∃a' b z es D ch M S Sh,stepG P true a L=.spawn a' b z es/\L.heap.size<=z.heap.size/\(∀e∈es,EvL (λ_=>False) z.heap.size e)/\OmR Q c D ω/\Rt Q P c R n U O V J D ch M S Sh a' b z):=by
 obtain⟨top,⟨x0,j⟩,tl⟩:=ω;obtain⟨hx0,hV,h⟩:=h;dsimp only at hx0 hV h;subst hx0;obtain⟨h,rfl⟩|⟨m,y,rfl,hm,hy,h⟩:=h
 ·obtain⟨⟨g,w⟩,l⟩:=x0
  dsimp only at hV h;have aat:Under c [c]:=⟨[],rfl,λx hx=>by cases hx⟩;cases h with
  |ord Y τ cx fr cs fr' cs' h=>
   by_cases ha:AtRet c g
   ·exact .inl (a8b st.door hG h hV ha)
   ·refine .inr (.inl ?_)
    obtain⟨rfl,rfl,hS,hle,hW,hN,hhi⟩:=h
    have hcx:cx=B0 U O n.uQ:=by obtain⟨_,_,_,h,_⟩|⟨_,h⟩:=hS.whole<;>exact h
    obtain⟨g1,v,g1',v',es',σ,hnx,hV1,E,haft,N,hN1,hM,hev⟩:=hS.next (B:=B0 U O n.uQ) (main':=true) st.env st.heads st.mono st.a7R st.res (λg h=>by simp[B0]at h) st.door aat rfl
     (λx u⟨h1,h2⟩=>⟨by rw[(dH x u).fn,h1],by rw[(dH x u).kind,h2]⟩) (λ_=>by rw[hcx];rfl)
     (λhm⟨cd,cd',k,k',ht,ht',hs⟩=>by
      rw[hcx,st.sp]at hs
      obtain⟨s,rfl⟩:=hs;exact wI st.door hV ht hm)
     (λ_ n'⟨h1,h2⟩_ ha=>⟨by rw[ha.fn,h1],by rw[ha.kind,h2]⟩) hW hN hV (λha2=>ha ha2)
    have hhi1:∀b c k,σ b c k->Q.globals.size<=b:=λb c k x=>(hM.new b c k x).elim (hhi b c k) λy=>afC hW.big y.1
    have hle1:=Ren.le_trans hle hM.le;have hb:Below Q c (g1,v) (G fr cs,w):=.single hnx
    have hout:∀j,a1h Q P c R n U O V Z J (⟨(g1,v),l.inv hb⟩,(⟨(g1,v),l.inv hb⟩,j),tl) g1' v'->∃a' z es D,stepG P true (G fr' cs') L=.go a' z es/\L.heap.size<=z.heap.size/\(∀e∈es,EvL (λ_=>False) z.heap.size e)/\OmR Q c D (⟨(G fr cs,w),l⟩,(⟨(G fr cs,w),l⟩,100),tl)/\a1h Q P c R n U O V Z J D a' z:=
     λj hj=>⟨g1',v',es',(⟨(g1,v),l.inv hb⟩,(⟨(g1,v),l.inv hb⟩,j),tl),E,hM.grow',λe K=>PK (hev e K) N,.left _ _ hb,hj⟩
    cases haft with
    |on cy n1 n1' ns ns' q=>exact hout 100 ⟨rfl,hV1,.inl ⟨.ord σ _ cy n1 ns n1' ns' ⟨rfl,rfl,q,hle1,N,hN1,hhi1⟩,rfl⟩⟩
    |enter f aa aa' haa K cy k k' r r' q=>
     by_cases hf:f=n.uQ
     ·subst hf
      have hsz:aa.size=2:=by simp only[Scope.may,B0,afQ,bne_self_eq_false,Bool.false_or,agx]at K;exact K.1.2
      obtain⟨d,t,rfl⟩:∃d t,aa=#[d,t]:=⟨aa[0],aa[1],by
       apply Array.ext
       ·simp[hsz]
       ·intro i h1 h2
        have:i=0\/i=1:=by omega
        obtain rfl|rfl:=this<;>rfl⟩
      have hsz':aa'.size=2:=by rw[<-haa.size];exact hsz
      obtain⟨d',t',rfl⟩:∃d t,aa'=#[d,t]:=⟨aa'[0],aa'[1],by
       apply Array.ext
       ·simp[hsz']
       ·intro i h1 h2
        have:i=0\/i=1:=by omega
        obtain rfl|rfl:=this<;>rfl⟩
      have hd:VR σ d d':=haa.at_ 0 d d' rfl rfl;have ht:VR σ t t':=haa.at_ 1 t t' rfl rfl;have hub:Under c (k::r):=qY q.top.TN (q.under aat);obtain⟨y,hy,hh⟩:=prologue st hub hV1 q hle1 N hN1 hhi1 hd ht;exact hout 18 ⟨rfl,hV1,.inr ⟨17,y,rfl,by omega,hy,hh⟩⟩
     ·exact hout 100 ⟨rfl,hV1,.inl ⟨.ord σ _ (B0 U O n.uQ) _ _ _ _ ⟨rfl,rfl,dm.above (B0 U O n.uQ) rfl rfl _ _ ((bn.enter rfl rfl (st.text0 f _ K hf) haa).any rfl (Ren.uP _ _)) rfl cy k k' r r' q,hle1,N,hN1,hhi1⟩,rfl⟩⟩
  |seg F Y τ cx fr cs fr' cs' d d' t N4 Ru h=>
   by_cases ha:xH (n.eF (au.Dz d t N4) (n.I1 [2,3])::F.r) g
   ·obtain⟨y,hy,⟨_,_,a2,z,es,E,C,hes,hn⟩⟩:=a4J st hV h ha
    refine .inr (.inl ⟨a2,re L.tape L.drawn z,es,(⟨(g,w),l⟩,(⟨(g,w),l⟩,16),tl),E L.tape L.drawn,C,λe K=>I4 (hes e K),.right _ (.left _ _ (.right _ (by omega))),rfl,hV,.inr ⟨15,y,rfl,by omega,hy,hn.at_ (λ_ _ T d h=>h.re T d) _ _⟩⟩)
   ·refine .inr (.inl ?_)
    obtain⟨rfl,rfl,H,hS,hP⟩:=h
    have hcx:cx=BW O:=by obtain⟨_,_,_,h,_⟩|⟨_,h⟩:=hS.whole<;>exact h
    obtain⟨τr,cy,k0,r0,k0',r0',hFr,a81,aau,aed⟩:=H
    have hub:Under c (n.eF (au.Dz d t N4) (n.I1 [2,3])::F.r):=by
     rw[hFr]
     exact qY (λx hx=>by cases hx) (qY aau.top.TN (aau.under aat))
    obtain⟨g1,v,g1',v',es',σ,hnx,hV1,E,haft,N,hN1,hM,hev⟩:=hS.next (B:=BW O) (main':=true) st.env st.heads (λ_ h=>h) st.Xn st.res (λg h=>by simp[BW]at h) st.door hub rfl
     (λx u⟨h1,h2⟩=>⟨by rw[(dH x u).fn,h1],by rw[(dH x u).kind,h2]⟩) (λ_=>by rw[hcx];rfl)
     (λhm⟨cd,cd',k,k',ht,ht',hs⟩=>by
      rw[hcx,st.sp]at hs
      obtain⟨s,rfl⟩:=hs;exact wI st.door hV ht hm)
     (λ_ n'⟨h1,h2⟩_ ha=>⟨by rw[ha.fn,h1],by rw[ha.kind,h2]⟩) hP.wr hP.tidy hV ha
    have hP1:=hP.step N hN1 hM;have W:Rest Q U O n.uQ c V J σ F:=⟨_,cy,k0,r0,k0',r0',hFr,a81,aau.mono hM.le,Ren.le_trans aed hM.le⟩;have hb:Below Q c (g1,v) (G fr cs,w):=.single hnx;refine⟨g1',v',es',(⟨(g1,v),l.inv hb⟩,(⟨(g1,v),l.inv hb⟩,100),tl),E,hM.grow',λe K=>PK (hev e K) N,.left _ _ hb,rfl,hV1,.inl ⟨?_,rfl⟩⟩;cases haft with
    |on cy n1 n1' ns ns' q=>exact .seg F σ _ cy n1 ns n1' ns' d d' t N4 Ru ⟨rfl,rfl,W,q,hP1⟩
    |enter f aa aa' haa K cy k k' r r' q=>
     exact .seg F σ _ (BW O) _ _ _ _ d d' t N4 Ru ⟨rfl,rfl,W,dm.above (BW O) rfl rfl _ _ ((bn.enter rfl rfl (st.text1 f _ K) haa).any rfl (Ren.uP _ _)) rfl cy k k' r r' q,hP1⟩
  |spawn F Y d d' t nm nm' N4 Ru u u' h=>
   obtain⟨rfl,rfl,rfl,rfl,H,hP⟩:=h;obtain⟨x,m,jM,S,hx,hL⟩:=hP.adZ st H (top:=⟨_,l⟩) (n.I1 [3]) rfl rfl hV;have hsp:=λw=>a1f (p:=P) (e:=Frame.eval (n.fB (n.wh d' nm' u'.heap.size) [.inRegion (n.Dy au.goP) [1],.code n.gN])) (o:=au.goP) (x:=.tmp 7) rfl (f:=n.qX) (cap:=Mg u'.heap.size) rfl w
   refine .inr (.inr ⟨_,_,_,#[],(⟨_,l⟩,(x,7),(m,jM)),_,_,S,_,?_,afA _,by simp,.right _ (.left _ _ (.left _ _ hx)),hL⟩)
   rw[Xg (o:=au.goP) (ops:=n.Dy au.goP) (i:=1) (rest:=[]) (k:=[.code n.gN]) ⟨rfl,rfl,rfl,rfl,rfl⟩ (by simp[au.fB]) (hsp _).1,(hsp _).2]
   rfl
 ·obtain⟨_,_,a2,z,es,E,C,hes,hn⟩:=h
  refine .inr (.inl ?_);cases m with
  |zero=>exact⟨a2,re L.tape L.drawn z,es,(⟨y,x0.2.inv hy⟩,(⟨y,x0.2.inv hy⟩,100),tl),E L.tape L.drawn,C,λe K=>I4 (hes e K),.left _ _ hy,rfl,hy.vt hV,.inl ⟨NB.re _ _ hn,rfl⟩⟩
  |succ m=>exact⟨a2,re L.tape L.drawn z,es,(x0,(x0,m+1),tl),E L.tape L.drawn,C,λe K=>I4 (hes e K),.right _ (.left _ _ (.right _ (by omega))),rfl,hV,.inr ⟨m,y,rfl,by omega,hy,hn.at_ (λ_ _ T d h=>h.re T d) _ _⟩⟩
omit hG in
theorem aav{u:Om Q c}{W:Nat}{M S Sh:Nat->Prop}(h:a7Y Q P c R n U O V J u W M S Sh a L):
  (∃a' k B j M',stepG P true a L=.go a' k B/\L.heap.size<=k.heap.size/\(∀e∈B,Xk M' Sh k.heap.size e)/\(∀x,M x->M' x)/\OmR Q c j u/\a7Y Q P c R n U O V J j W M' S Sh a' k)\/
  ∃z j,Recv P W a z/\OmR Q c j u/\a1h Q P c R n U O V Z J j (Go.Conc.served a (.tuple #[z,.bool false])) L:=by
 obtain⟨K,F,D,z,h⟩:=h;obtain⟨E,x,m,jM⟩:=u;have t:=h.se.size';have o:=h.mi;have b:=h.top;dsimp only at o b;obtain⟨rfl,rfl⟩:=And.intro h.hch h.hSh;have T:¬M K.l8:=λy=>h.three.mh _ y (.inl rfl)
 have N:¬M K.ch':=λy=>h.three.mh _ y (.inr rfl)
 obtain⟨s,r,tm,p⟩:=h.chan;obtain⟨a2,k,B,m',j',i⟩|⟨Y,hW,hV,hr⟩:=o.cases st h.core.Rq t
 ·have d:=i.low
  have q:Acc (Below Q c) m':=AL
  refine .inl ⟨a2,k,B,(E,x,(⟨m',q⟩,j')),EX M L k,i.step,i.size,i.ev,λy l=>.inl l,?_,K,F,D,z,?_⟩
  ·refine .right _ (.right _ ?_)
   exact AO
  ·refine⟨h.core,rfl,rfl,Mf h.three h.ltS t,λy l=>afB (h.ltS y l) i.size,Xx h.ltM i.size,⟨s,r,tm,(i.keep _ (by grind) N).trans p⟩,?_,
    h.se.other i.inv.calm i.size (λy l=>i.keep y (h.ltS y l) λhm=>h.three.ms y hm l) (i.keep _ (by grind) T),i.inv⟩
   cases d with
   |left _ _ d=>exact agI d b
   |right _ d=>exact b
 ·refine .inr ⟨zR,(m,(m,5),(m,0)),(hr.recv st).1,.left _ _ b,rfl,hV,.inr ?_⟩
  obtain⟨f,f',hN,ht,H,hb,_,hh⟩:=hr.shut st hW hV rfl;obtain⟨C,τ,hO⟩:=a4I st h.core h.three h.se hW p hN ht H;refine⟨4,(G f F.r,m.1.2),rfl,by omega,hb,(hh.run (w:=L)).imp λg v⟨h1,h2⟩=> ?_⟩;subst h1 h2;exact .ord C τ _ _ _ _ _ hO
theorem aee:a0W P X (OmR Q c) (a1h Q P c R n U O V Z J) (Rt Q P c R n U O V J) (a7Y Q P c R n U O V J):=by
 refine⟨λf a w N h⟨d,q⟩=> ?_,λf a w h=> ?_,λf a w h=>aas st hG h,λf g M S i a b w N h⟨d,q⟩=> ?_,λf g M S i a b w h=> ?_,λf g M S i a b w h=> ?_,λf g M S i a b w h=> ?_,λf g M S i a b w h=>a4F st h,λf g M S i a b w h=>a4G st h,
  λf g M S i a b w z v z' s k e h D C B=>a7Z st h D C B,λf g M S i a w N h⟨d,q⟩=> ?_,λf g M S i a w h=> ?_,λf g M S i a w h=> ?_,λf g M S i a w h=> ?_,λf g M S i a w h=>aav st h⟩
 ·subst q
  obtain⟨D,C,h⟩:=h;refine⟨D,C,?_⟩;obtain⟨h,hj⟩|⟨m,y,B,h4,h5,x⟩:=h
  ·exact .inl ⟨h.re w.tape d,hj⟩
  ·exact .inr ⟨m,y,B,h4,h5,x.at_ (λ_ _ T d h=>h.re T d) w.tape d⟩
 ·obtain⟨_,_,h⟩:=h
  obtain⟨h,_⟩|⟨m,y,_,_,_,x⟩:=h
  ·cases h with
   |ord Y τ cx fr cs E G h=>rw[h.ha];rfl
   |seg F Y τ cx fr cs E G d d' t N4 H h=>rw[h.ha];rfl
   |spawn F Y d d' t nm nm' N4 H u u' h=>rw[h.ha];rfl
  ·exact x.1
 ·subst q
  obtain⟨K,F,o,h⟩:=h;obtain⟨z,p,W,hm,l⟩:=h.one;refine⟨K,F,o,h.core,h.hch,h.hSh,h.three,h.ltS,h.ltM,h.chan,h.top,h.si.other (h.si.calm.drew _) (afA _) (λ_ _=>rfl) rfl,h.held,⟨z,p,W,hm,l.other (l.calm.drew _) (afA _) (λ_ _=>rfl) rfl⟩,h.ways.a9K (.inl rfl) (.refl _ _) (h.si.calm.drew _) (afA _) (λ_ _=>rfl) rfl⟩
 ·obtain⟨K,F,o,h⟩:=h
  obtain⟨z,p,W,hm,l⟩:=h.one
  exact⟨l.core,h.si.core⟩
 ·obtain⟨K,F,o,h⟩:=h
  exact AX
 ·obtain⟨K,F,o,h⟩:=h
  rw[h.hSh];exact h.three
 ·subst q
  obtain⟨K,F,j,z,h⟩:=h
  exact⟨K,F,j,z,h.core,h.hch,h.hSh,h.three,h.ltS,h.ltM,h.chan,h.top,h.se.other (h.se.calm.drew _) (afA _) (λ_ _=>rfl) rfl,h.mi.other (h.mi.calm.drew _) (afA _) (λ_ _=>rfl) rfl⟩
 ·obtain⟨K,F,j,z,h⟩:=h
  exact h.mi.core
 ·obtain⟨K,F,j,z,h⟩:=h
  exact AX
 ·obtain⟨K,F,j,z,h⟩:=h
  rw[h.hSh];exact h.three
theorem lone_beside{f i:Array Value}(t:AR J f i)(x:WR (aT Q (BW O)) Q.globals.size J w L)(z:aS w)(m:∀b c k,J b c k->Q.globals.size<=b)(p:(B0 U O n.uQ).may V f.size=true)(l:V≠n.uQ)(j:∀T d,Calls Q V f (re T d w) λe u=>∃v,e=.returned v/\R v u){gs:Array Goroutine}{sl:Option (Nat×Nat)}{tr:Trace}{q:Nat->Nat}(C:gs[0]? =some (G (Frame.enter P V i .normal) []))(B:Go.Conc.Leavers P tr gs q)(y:Go.Conc.Past (λ_=>False) L.heap.size tr):
  ∃N g o u r,runNT P (N+1) (Go.Conc.crowd gs L sl) tr=(.ended o u,r)/\runN P N (Go.Conc.crowd gs L sl)=.next g/\step P g=.ended o u/\Go.Conc.Good P X g o u r:=by
 have s:VT Q c R (G (Frame.enter Q V f .normal) [c]) w:=VT.a4o j;have h:=Pz s.acc;refine a1e (aaq Q c) (aee st hG) (ω:=(⟨_,h⟩,(⟨_,h⟩,100),(⟨_,h⟩,0))) C B y ⟨rfl,s,.inl ⟨.ord J J (B0 U O n.uQ) _ _ _ _ ⟨rfl,rfl,?_,Ren.le_refl _,x,z,m⟩,rfl⟩⟩;exact dm.bottom (B0 U O n.uQ) rfl rfl _ _ (bn.enter rfl rfl (st.text0 V _ p l) t) rfl ⟨rfl,rfl⟩
end
end
section
theorem Rv(j:A.size=I.size)(k:∀i:Nat,(A[i]?).map (·.after)=(I[i]?).map (·.after))(m):∀t,Region.linearise m A t=Region.linearise m I t:=by
 have f:∀(b:Array Bool)(i:Nat),((A[i]?).map (·.after.all λe=> !Region.binds m e||b.getD e.on false)).getD false=((I[i]?).map (·.after.all λe=> !Region.binds m e||b.getD e.on false)).getD false:=λb i=>by
  have h:=k i;cases e:A[i]? <;>cases l:I[i]? <;>rw[e,l]at h
  all_goals first
   |rfl
   |(cases h;done)
   |(simp only[agy,ag1]at h |-;rw[h])
 have n:∀(c t:Nat)(b:Array Bool)(d:List Nat),Region.linearise.go m A c t b d=Region.linearise.go m I c t b d:=by
  intro c;induction c with
  |zero=>intro t b d;rfl
  |succ c g=>
   intro t b d;unfold Region.linearise.go;simp only[j,f,g]
 grind[Region.linearise]
theorem XC(b:∀i:Nat,(A[i]?).map (·.after)=(I[i]?).map (·.after)):Region.departs A=Region.departs I:=by
 have e:A.map (·.after)=I.map (·.after):=by
  apply Array.ext_getElem?;intro i
  rw[ag2,ag2]
  exact b i
 have h:∀o:Array Oper,Region.departs o=(o.map (·.after)).any (·.any λe=> !Region.binds .any e):=λo=>by
  unfold Region.departs
  rw[Array.any_map]
  rfl
 rw[h,h,e]
theorem Ui(c:A.size=I.size)(d:∀i:Nat,(A[i]?).map (·.after)=(I[i]?).map (·.after))(b)(t):Region.schedule b A t=Region.schedule b I t:=by grind[Region.schedule,XC,Rv]
def Rw(o:Oper):Bool:=match o.op with
 | .call c=>(match c.callee with| .builtin .unsafeSliceData=>true|_=>false)
 |_=>false
def Uj(t:TypeId)(o:Oper):Oper:=if Rw o then{o with type:=t}else o
def a8c(t:TypeId):Code->Code
 | .region id A d=>.region id (A.map (Uj t)) d
 | .seq a b=>.seq (a8c t a) (a8c t b)
 |c=>c
variable[Special]
def a1j(Q:Program)(e:Scope):Code->Bool
 | .region _ A _=>A.all λo=>(if Rw o then(match o.op with| .call c=>c.args.all (gH e)|_=>false)else opB Q e o)&&(match o.dst with|none=>true|some d=>e.qR d)
 | .seq a b=>a1j Q e a&&a1j Q e b
 |c=>iX Q e c
omit [Special]in
theorem Mh(t)(o):(Uj t o).after=o.after/\(Uj t o).dst=o.dst:=by grind[Uj]
theorem acg{Q}{n}(x:n.live=none){t}(w:Dead Q (elemOf t)):∀c,a1j Q n c=true->kG Q n (a8c t c) c:=by
 intro c;induction c with
 |region id A d=>
  intro h;simp only[a1j,afR,afQ]at h;refine .region id d ⟨by simp,λi o m=> ?_,Ui (by simp) λi=> ?_⟩
  ·rw[ag2]at m
   cases u:A[i]? with
   |none=>grind
   |some j=>
    rw[u]at m
    simp only[agy,ag1]at m;subst m;obtain⟨k,z⟩:=h j (ag9 u);refine⟨j,rfl,?_,λd y=> ?_⟩
    ·unfold Uj
     cases f:Rw j with
     |false=>constructor<;>grind
     |true=>
      rw[f]at k
      simp only[agr]at k |-;unfold Rw at f
      have q:∃e l,j.op=.call {callee:=.builtin .unsafeSliceData,args:=e,argTypes:=l}/\e.all (gH n)=true:=by
       split at f
       ·rename_i c g
        rw[g]at k
        obtain⟨p,e,l⟩:=c;dsimp only at f
        split at f<;>grind
       ·cases f
      obtain⟨e,l,g,k⟩:=q;exact .data j t e l g k w x
    ·grind[Mh]
  ·rw[ag2]
   cases A[i]? <;>simp[none,Mh]
 |seq a b s r=>
  intro h;simp only[a1j,afQ]at h;exact .seq (s h.1) (r h.2)
 |_=>intro h;exact .same _ h
end
end Go.Proofs.Zb
