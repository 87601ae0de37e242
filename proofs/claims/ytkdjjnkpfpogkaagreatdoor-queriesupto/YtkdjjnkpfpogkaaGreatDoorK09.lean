import Derived.Test.YtkdjjnkpfpogkaaGreatDoorK08
set_option maxHeartbeats 8000000
set_option linter.all false
namespace Go.Proofs.Zb
variable{fr fr':Frame}{w w2:World}{cs A:List Frame}{R:Value->World->Prop}{cx:Scope}
section
variable[Special]
open Go.Conc (G solo stepT_solo runT_solo_go step_solo_go)
section
variable{Q:Program}{c:Frame}
omit [Special]in
theorem Dw.tail{d}{a}(h:Dw fr)(e:fr.defers=d::a):Dw {fr with defers:=a}:=λx b=>h x (by grind)
omit [Special]in
theorem GR{b}{v}{l}(f:aS w)(h:(Instr.takeDeferred b).run Q w=.ok l v):l=[]/\aS v:=by
 unfold Instr.takeDeferred at h;simp only[Sem.run_bind,getObj,Sem.run]at h;cases e:w.heap[b]? with
 |none=>simp_all
 |some o=>
  have j:=f b o e;cases o with
  |deferred o=>
   cases o with
   |none=>simp_all
   |some a=>
    cases a with
    |cons d k=>exact j.elim
    |nil=>
     simp only[e,Result.andThen_ok,Sem.run_bind,setObj,Sem.run]at h;cases h;refine⟨rfl,λi y g=> ?_⟩;exact Af
  |_=>simp_all
omit [Special]in
theorem close_run(p)(t)(cs)(j)(w):
  (∃v u,(invoke (.builtin .close p t cs) j).run Q w=.ok (.value v) u/\(aS w->aS u))\/(∃y u,(invoke (.builtin .close p t cs) j).run Q w=.halt (.panic y) u/\(aS w->aS u))\/
  ∃s u,(invoke (.builtin .close p t cs) j).run Q w=.halt (.stuck s) u:=by
 show(∃v u,(do pure (.value (<-Builtin.close_ p t j)):Sem Next).run Q w=.ok (.value v) u/\(aS w->aS u))\/(∃y u,(do pure (.value (<-Builtin.close_ p t j)):Sem Next).run Q w=.halt (.panic y) u/\(aS w->aS u))\/
  ∃s u,(do pure (.value (<-Builtin.close_ p t j)):Sem Next).run Q w=.halt (.stuck s) u
 have C:(∀r,j≠#[.chan r])->Builtin.close_ p t j=stuck "close: one channel expected" :=λh=>by
  obtain⟨l⟩:=j;cases l with
  |nil=>rfl
  |cons a l=>
   cases l with
   |cons b l=>rfl
   |nil=>
    cases a with
    |chan r=>grind
    |_=>rfl
 by_cases F:∃r,j=#[.chan r]
 ·obtain⟨r,rfl⟩:=F
  cases r with
  |none=>exact .inr (.inl ⟨_,w,rfl,id⟩)
  |some r=>
   have e:Builtin.close_ p t #[.chan (some r)]=(do
    let .chan B x n z m q <-getObj r|stuck "close: no channel in this block"
    if n then runtimePanic (.plain "close of closed channel")
    setObj r (.chan B x true z m q)
    pure (.tuple #[])):=rfl
   rw[e]
   cases d:w.heap[r]? with
   |none=>
    refine .inr (.inr ⟨ "getObj: no such block",w,?_⟩);simp only[Sem.run_bind,getObj,Sem.run,d];rfl
   |some o=>
    cases o with
    |chan D x G s k E=>
     cases G with
     |true=>
      refine .inr (.inl ⟨.iface Q.rt.plainError (strVal "close of closed channel"),w,?_,id⟩);exact Aj
     |false=>
      refine .inl ⟨.tuple #[],{w with heap:=w.heap.setIfInBounds r (.chan D x true s k E)},?_,λf i y g=> ?_⟩
      ·simp only[Sem.run_bind,getObj,Sem.run,d,Result.andThen_ok,afI,ag6,setObj]
       rfl
      ·exact Af
    |cells=>
     refine .inr (.inr ⟨ "getObj: a row of cells",w,?_⟩);simp only[Sem.run_bind,getObj,Sem.run,d];rfl
    |_=>
     refine .inr (.inr ⟨ "close: no channel in this block",w,?_⟩);exact Aj
 simp_all
omit [Special]in
theorem a0R(hc:KA Q c){m m'}(h:LQ Q c m)(e:step Q m=.next m'):LQ Q c m':=by
 cases h with
 |shut g w h=>
  obtain h|h:=h
  ·grind[Rb]
  ·rw[Rc h]at e;cases e;exact .shut g w (.inr h)
 |dying g w d f hs j hf q=>
  have i:stepG Q true g w=die Q g.frame d w:=by obtain⟨fr,cs,I,dy,off⟩:=g;obtain⟨todo,T,P,J,re,hand,Y⟩:=d;dsimp only at j q;subst j q;simp[stepG]
  have L:die Q g.frame d w=writeOn Q g.frame d f w:=by unfold die;rw[hf]
  rw[L]at i
  have U:(∃o v N,writeOn Q g.frame d f w=.ended o v N)\/∃I f' v N,writeOn Q g.frame d f w=.go {frame:=g.frame,callers:=[],status:=I,dying:=some {d with fatal:=some f'}} v N/\(I=.running\/I=.blocked):=by
   unfold writeOn;dsimp only;split
   ·simp
   ·split<;>simp
  obtain⟨o,v,N,k⟩|⟨I,f',v,N,k,hk⟩:=U
  ·rw[k]at i
   rw[lH hs i]at e;cases e
  ·rw[k]at i
   rw[step_solo_go hs i]at e;cases e
   obtain rfl|rfl:=hk
   ·exact .dying _ _ _ f' rfl rfl rfl q
   ·exact af'
 |panic fr a w O H S j C=>
  have i:stepG Q true (G fr (a++[c])) w=unwind Q true fr (a++[c]) none w:=dQ
  cases p:fr.defers with
  |cons d ds=>
   obtain⟨b,D⟩|⟨ts,Z,bs,D⟩:=j d (by grind)
   case inr=>
    obtain⟨tg,z⟩:=d;dsimp only at D;subst D;have V:unwind Q true fr (a++[c]) none w=callDeferred Q {fr with defers:=ds} (a++[c]) none ⟨.builtin .close ts Z bs,z⟩ w:=by unfold unwind;rw[p]
    rw[V]at i
    unfold callDeferred at i;simp only[Bool.false_and,afI,ag6,Sem.runT_eq]at i;obtain⟨v,u,B,F⟩|⟨y,u,B,F⟩|⟨s,u,B⟩:=close_run (Q:=Q) ts Z bs z w
    ·simp only[B]at i
     rw[step_solo_go rfl i]at e;cases e
     exact .panic _ a u O H (F S) (j.tail p) C
    ·simp only[B]at i
     rw[step_solo_go rfl i]at e;cases e
     obtain⟨ch',M,X,_,_⟩:=yw {fr with defers:=ds} [{v:=y,recovered:=false}];exact .panic _ a u ch' M (F S) (by grind[Dw]) C
    ·simp only[B]at i
     exact ou
   obtain⟨tg,z⟩:=d;dsimp only at D;subst D;unfold unwind at i;simp only[p,Sem.runT_eq]at i;cases B:(Instr.takeDeferred b).run Q w with
   |ok l v=>
    rw[B]at i
    obtain⟨rfl,W⟩:=GR S B
    rw[step_solo_go rfl i]at e;cases e
    exact .panic _ a v O H W (j.tail p) C
   |halt x v=>
    rw[B]at i
    exact ou
  |nil=>
   unfold unwind at i;simp only[p,H]at i
   by_cases n:fr.catches Q=true
   ·rw[afN n]at i
    exact ou
   ·rw[afJ n]at i
    cases a with
    |nil=>
     rw[step_solo_go rfl i]at e;cases e
     obtain⟨ch',M,X,h3,h4⟩:=yw c O;refine .door _ w ch' M (by rw[X];exact hc.defers) ?_;have:=hc.catches;unfold Frame.catches at this |-
     rw[h3,h4];exact this
    |cons x r=>
     rw[step_solo_go rfl i]at e;cases e
     obtain⟨ch',M,X,_,_⟩:=yw x O;exact .panic _ r w ch' M S (by grind[Dw,List.mem_cons_self]) λy E=>C y (List.mem_cons_of_mem _ E)
 |door fr w O H j n=>
  have i:stepG Q true (G fr []) w=unwind Q true fr [] none w:=dQ
  unfold unwind at i;simp only[j,H]at i
  rw[afN n]at i
  exact ou
theorem Ph(f:KA Q c):∀(n:Nat){m a:Machine},LQ Q c m->runN Q n m=.next a->LQ Q c a:=by
 intro n;induction n with
 |zero=>intro m a h e;cases e;exact h
 |succ n b=>
  intro m a h e;unfold runN at e;cases d:step Q m<;>grind[a0R]
omit [Special]in
theorem Pj(h:LQ Q c (lone fr cs w)):fr.mode≠.returning:=by
 generalize b:lone fr cs w=m at h;cases h with
 |shut g e h=>
  have:g={frame:=fr,callers:=cs,status:=.running,dying:=none}:=oq
  subst this;obtain h|h:=h<;>cases h
 |dying g e d f n k o j=>
  have:g={frame:=fr,callers:=cs,status:=.running,dying:=none}:=oq
  subst this;cases k
 |panic fr' i e l a _ _ _=>
  have:G fr' (i++[c])={frame:=fr,callers:=cs,status:=.running,dying:=none}:=oq
  exact Ah
 |door fr' e l a _ _=>
  have:G fr' []={frame:=fr,callers:=cs,status:=.running,dying:=none}:=oq
  exact Ah
def Ret(Q:Program)(c:Frame)(R:Value->World->Prop)(g:Goroutine)(w:World):Prop:=
 ∃n a w2 v,runN Q n (solo g w)=.next (lone a [c] w2)/\a.leaving Q w2 (.returned v)/\R v w2
def AtRet(c:Frame)(g:Goroutine):Prop:=g.callers=[c]/\g.frame.mode=.returning/\g.frame.defers=[]
omit [Special]in
theorem Ret.cases{R}{g}{w}(h:Ret Q c R g w):
  (∃v,AtRet c g/\g.frame.leaving Q w (.returned v)/\R v w/\g=G g.frame [c])\/∃n m a w2 v,step Q (solo g w)=.next m/\runN Q n m=.next (lone a [c] w2)/\a.leaving Q w2 (.returned v)/\R v w2:=by
 obtain⟨n,a,w2,v,b,d,f⟩:=h;cases n with
 |zero=>
  simp only[runN,Stepped.next.injEq,solo,lone,Machine.mk.injEq]at b;obtain⟨rfl,b,_⟩:=b;have:g={frame:=a,callers:=[c],status:=.running,dying:=none}:=by simpa using b
  subst this;exact .inl ⟨v,⟨rfl,d.1,d.2.1⟩,d,f,rfl⟩
 |succ n=>
  unfold runN at b;cases e:step Q (solo g w)with
  |next m=>rw[e]at b;exact .inr ⟨n,m,a,w2,v,rfl,b,d,f⟩
  |ended o u=>rw[e]at b;cases b
def VT(Q:Program)(c:Frame)(R:Value->World->Prop)(g:Goroutine)(w:World):Prop:=
 ∀T d,∃b a,Ahead (re T d w) b a/\Ret Q c R g (re b a w)
theorem VT.LY(l:KA Q c){g}(h:VT Q c R g w)(e:g.status=.running)(z:¬AtRet c g):LU Q c g w:=λT d=>by
 obtain⟨i,f,p,j⟩:=h T d;refine⟨i,f,p,?_⟩;obtain⟨v,b,_⟩|⟨n,m,s,w2,v,b,r,q,_⟩:=j.cases
 ·grind
 ·cases a:stepG Q true g (re i f w)with
  |ended o u t=>rw[lH e a]at b;cases b
  |go x u t=>
   rw[step_solo_go e a]at b
   cases b;exact λk=>Pj (Ph l n k r) q.1
  |_=>trivial
def joined(L:List (Question->Nat))(T:Nat->Question->Nat)(d:Nat):Nat->Question->Nat:=λi=>if h:i<L.length then L[i]else T (d+(i-L.length))
omit [Special]in
theorem IW{L}:∀{T:Nat->Question->Nat}{d:Nat},(∀i(h:i<L.length),T (d+i)=L[i])->mI L T d:=by
 induction L with
 |nil=>intro T d _;trivial
 |cons f L a=>
  intro T d h;refine⟨h 0 (by simp),a λi b=> ?_⟩;have:=h (i+1) (by grind)
  rw[agJ,Nat.add_comm 1 i,this]
  rfl
omit [Special]in
theorem VT.after{g p}{v}(h:VT Q c R g w)(t:g.status=.running)(D:¬AtRet c g){L}(k:∀T d,mI L T d->∃r,stepG Q true g (re T d w)=.go p (re T (d+L.length) v) r):VT Q c R p v:=λT d=>by
 obtain⟨f,a,e,u⟩:=h (joined L T d) 0
 have b:∀i,f (a+i)=joined L T d i:=λi=>Ai
 have y:mI L f a:=IW λi x=>by rw[b i];unfold joined;rw[dif_pos x]
 obtain⟨r,j⟩:=k f a y;refine⟨f,a+L.length,λi q=> ?_,?_⟩
 ·exact Ag
 ·obtain⟨v,l,_⟩|⟨n,m,o,w2,s,l,C,B,z⟩:=u.cases
  ·grind
  ·rw[step_solo_go t j]at l
   cases l
   exact⟨n,o,w2,s,C,B,z⟩
omit [Special]in
theorem VT.a4o{f}{a}(h:∀T d,Calls Q f a (re T d w) λe b=>∃v,e=.returned v/\R v b):VT Q c R (G (Frame.enter Q f a .normal) [c]) w:=λT d=>by
 obtain⟨e,b,fr,⟨v,rfl,j⟩,⟨n,g⟩,_,i⟩:=h T d [c]
 exact⟨T,d,λ_ _=>rfl,n,fr,b,v,g,i,j⟩
end
end
section
variable[Special]
open Go.Conc (G solo)
inductive dm(S:Bool->Scope->Prop)(bt:Frame->Prop)(Q:Program)(B:Scope)(ρ τ:Ren)(cb base:List Frame):Scope->Frame->List Frame->Frame->List Frame->Prop
 |bottom (cx:Scope) (hg:cx.whole=B) (hs:S true cx) (fr fr':Frame) (h:bn Q cx ρ τ fr fr') (hr:fr.roundOf=none) (hb:bt fr'):dm S bt Q B ρ τ cb base cx fr cb fr' base
 |above (cx:Scope) (hg:cx.whole=B) (hs:S false cx) (fr fr':Frame) (h:bn Q cx ρ τ fr fr') (hk:fr'.kind=.normal) (cy:Scope) (k k':Frame) (r r':List Frame) (hb:dm S bt Q B ρ τ cb base cy k r k' r'):
   dm S bt Q B ρ τ cb base cx fr (k::r) fr' (k'::r')
def xH(a:List Frame)(g:Goroutine):Prop:=g.callers=a/\g.frame.mode=.returning/\g.frame.defers=[]
section
variable{S:Bool->Scope->Prop}{bt:Frame->Prop}{Q P:Program}{B:Scope}{I σ τ:Ren}{c:Frame}{cb base:List Frame}
theorem dm.mono(h:I.le σ){cx}{fr fr'}{cs A}(s:dm S bt Q B I τ cb base cx fr cs fr' A):dm S bt Q B σ (σ.or τ) cb base cx fr cs fr' A:=by
 induction s with
 |bottom cx b a fr fr' hF g j=>exact .bottom cx b a fr fr' (hF.mono h) g j
 |above cx b a fr fr' hF i l k e r d _ f=>exact .above cx b a fr fr' (hF.mono h) i l k e r d f
theorem dm.top(s:dm S bt Q B I τ cb base cx fr cs fr' A):bn Q cx I τ fr fr':=by cases s<;>grind
theorem dm.scope(s:dm S bt Q B I τ cb base cx fr cs fr' A):cx.whole=B:=by cases s<;>grind
theorem dm.ZL(s:dm S bt Q B I τ cb base cx fr cs fr' A):∃a,cs=a++cb/\∀x∈a,Dw x:=by
 induction s with
 |bottom cx g f fr fr' hF l d=>simp
 |above cx g f fr fr' hF m n k j r i d e=>
  obtain⟨a,rfl,h⟩:=e;refine⟨k::a,rfl,λx b=> ?_⟩;obtain rfl|b:=agk.1 b
  ·exact d.top.TN
  ·exact h x b
theorem dm.whole(s:dm S bt Q B I τ cb base cx fr cs fr' A):(cs=cb/\A=base/\bt fr'/\S true cx/\fr.roundOf=none)\/(cs≠cb/\S false cx):=by
 cases s with
 |bottom _ _ h _ _ _ g a=>grind
 |above _ _ h _ _ _ _ i k f r d a=>
  refine .inr ⟨λe=> ?_,h⟩;obtain⟨b,rfl,_⟩:=a.ZL;have:=congrArg List.length e;simp at this;omega
theorem dm.under(d:Under c cb)(s:dm S bt Q B I τ cb base cx fr cs fr' A):Under c cs:=by
 obtain⟨a,rfl,h⟩:=s.ZL;obtain⟨b,rfl,f⟩:=d;refine⟨a++b,by simp,λx e=> ?_⟩
 grind
theorem dm.swap{n b}(s:dm S bt Q B I τ cb base cx fr cs fr' A)(h:bn Q cx I τ n b)(e:Alike fr n)(o:Alike fr' b)(m:cs=cb->bt fr'->bt b):dm S bt Q B I τ cb base cx n cs b A:=by
 cases s with
 |bottom _ f d _ _ _ j a=>exact .bottom cx f d n b h (by rw[e.round];exact j) (m rfl a)
 |above _ f d _ _ _ l p k i r g a=>exact .above cx f d n b h (by rw[o.kind];exact l) p k i r g a
theorem dm.finish(b:∀x v,bt x->bt (x.finish v)){cx}{fr fr'}{cs A}(s:dm S bt Q B I τ cb base cx fr cs fr' A)(a:I.le τ){v d}(e:VR I v d):dm S bt Q B I τ cb base cx (fr.finish v) cs (fr'.finish d) A:=
 s.swap (s.top.finish e a) (dH _ _) (dH _ _) λ_=>b _ _
structure xI(Q P:Program)(B:Scope)(f:FuncId):Prop where
 ntmps:(P.funcs[f]?.map (·.ntmps))=(Q.funcs[f]?.map (·.ntmps))
 body:((P.funcs[f]?.bind (·.body))=none/\(Q.funcs[f]?.bind (·.body))=none)\/∃b b',(Q.funcs[f]?.bind (·.body))=some b/\(P.funcs[f]?.bind (·.body))=some b'/\kG Q B b b'
theorem bn.enter(l:B.live=none)(g:B.fix=[]){f}(h:xI Q P B f){a k}(j:AR I a k):bn Q B I I (Frame.enter Q f a .normal) (Frame.enter P f k .normal):=by
 unfold Frame.enter;refine bn.Re rfl ?_ ?_ .nil (.inl ⟨rfl,rfl⟩) rfl (.inl rfl) .none l g
 ·dsimp only
  rw[h.ntmps,<-j.size]
  exact j.append (AR.yn λv i=>by rw[(Array.mem_replicate.1 i).2];exact vH)
 ·dsimp only
  refine .cons (.code _ _ ?_) .nil;obtain⟨e,d⟩|⟨b,n,e,d,m⟩:=h.body
  ·rw[e,d];exact .same _ rfl
  ·rw[e,d];exact m
inductive After(S:Bool->Scope->Prop)(bt:Frame->Prop)(Q P:Program)(B:Scope)(σ τ:Ren)(cb base:List Frame):Goroutine->Goroutine->Prop
 |on (cx:Scope) (n n':Frame) (ns ns':List Frame) (h:dm S bt Q B σ τ cb base cx n ns n' ns'):After S bt Q P B σ τ cb base (G n ns) (G n' ns')
 |enter (f:FuncId) (a a':Array Value) (ha:AR σ a a') (he:B.may f a.size=true) (cx:Scope) (k k':Frame) (r r':List Frame) (h:dm S bt Q B σ τ cb base cx k r k' r'):
   After S bt Q P B σ τ cb base (G (Frame.enter Q f a .normal) (k::r)) (G (Frame.enter P f a' .normal) (k'::r'))
def a0S(l:Option (List Nat))(fr fr':Frame):Prop:=∃c a k b,fr.todo=.code c::k/\fr'.todo=.code a::b/\Special.sp l c a
theorem Scope.Pk(h:cx.whole=B)(f)(k):cx.may f k=B.may f k:=by rw[<-h];rfl
theorem dm.step(V:Env Q P)(hd:JK (aT Q B.inner) Q P)(hin:∀c,aT Q B.inner c->aT Q B c)(hV:∀f,Special.val f=true->∀k,B.may f k=true)(K:∀f:FuncId,(P.funcs[f]?).map (·.results)=(Q.funcs[f]?).map (·.results))(hg:∀g,B.gl.contains g=true->I g g .cells)(hc:KA Q c)(J:Under c cb)(hS0:S false B)(hKf:∀x v,bt x->bt (x.finish v)){main'}{X}(q:dm S bt Q B I τ cb base cx fr cs fr' A)(s:fr.mode=.returning->cx.live=none)(hsp:fr.mode=.run->¬a0S cx.live fr fr')(z:cs=cb->∀o,bt fr'->mK fr' o->Alike fr' o->bt o)(hW:WR (aT Q B.inner) Q.globals.size I w X)(hN:aS w)(U:VT Q c R (G fr cs) w)(hn:¬xH cb (G fr cs)):
  ∃g v Z F p σ,VT Q c R g v/\(∃L,∀T d,mI L T d->∃es,stepG Q true (G fr cs) (re T d w)=.go g (re T (d+L.length) v) es)/\stepG P main' (G fr' A) X=.go Z F p/\After S bt Q P B σ (σ.or τ) cb base g Z/\
   WR (aT Q B.inner) Q.globals.size σ v F/\aS v/\Move I σ w X v F/\∀e∈p,Lj σ e:=by
 have j:cx.whole=B:=q.scope;have hgl:cx.gl=B.gl:=by rw[<-j];rfl
 have N:cx.inner=B.inner:=by rw[<-j];rfl
 have M:¬AtRet c (G fr cs):=λ⟨E,h2⟩=>hn ⟨by
  obtain⟨mid,l,_⟩:=q.ZL;obtain⟨m2,hm2,_⟩:=J;dsimp only[G]at E |-
  rw[E]at l
  have hl:=congrArg List.length l
  rw[hm2]at hl
  simp only[ag4,age,afE]at hl;have:mid=[]:=List.length_eq_zero_iff.1 (by omega)
  rw[this]at l
  rw[E,l];rfl,h2⟩
 have O:=U.LY hc rfl M
 have i:(cs=cb/\fr.roundOf=none)\/∃W k b r D,cs=k::r/\A=b::D/\fr'.kind=.normal/\dm S bt Q B I τ cb base W k r b D:=by cases q<;>grind
 have key:vI (∃W k b r D,cs=k::r/\A=b::D/\fr'.kind=.normal/\dm S bt Q B I τ cb base W k r b D) Q P cx main' I τ fr fr' cs A w X:=by
  obtain⟨l,_⟩|⟨l,_⟩:=q.top.mode
  ·refine a7L V (by grind) (by grind) (λf h k=>by rw[Scope.Pk j];exact hV f h k) (by grind) q.top l (by grind) hN ?_ (λc c' k b e1 e2 h=>hsp l ⟨c,c',k,b,e1,e2,h⟩) (q.under J) O
   obtain⟨_,hr⟩|h:=i<;>grind
  ·refine Xe V q.top l (by grind) hN (λhdf=> ?_) (s l) (K _) O
   obtain⟨hcs,_⟩|h:=i
   ·exact absurd ⟨hcs,l,hdf⟩ hn
   ·grind
 obtain⟨L,g,v,Z,F,p,σ,E,h2,h3,h4,Y,h6⟩:=key
 rw[N]at h4
 refine⟨g,v,Z,F,p,σ,U.after rfl M E,⟨L,E⟩,h2,?_,h4,Y.noPending h4 hN,Y,h6⟩;have y:=q.mono Y.le;cases h3 with
 |stay n o hF e m H=>exact .on cx n o cs A (y.swap hF e m λh t=>z h o t H m)
 |push n o hF hk k b C e m H=>
  refine .on cx.whole n o (k::cs) (b::A) (.above cx.whole (by rw[j,<-j];rfl) (by grind) n o (hF.any rfl (Ren.uP _ _)) hk cx k b cs A (y.swap C e m λh t=>z h b t H m))
 |enter f a a' ha he k b C e m H=>exact .enter f a a' ha (by grind[Scope.Pk]) cx k b cs A (y.swap C e m λh t=>z h b t H m)
 |pop d d' r D hK e m u u' hu=>
  obtain⟨W,k,b,r1,r1',e1,e1',_,t⟩:=hK
  rw[e1]at e;cases e
  rw[e1']at m;cases m
  exact .on W _ _ _ _ ((t.mono Y.le).finish hKf (Ren.uP _ _) hu)
end
end
section
open Go.Conc (G)
section
variable{p:Program}{I:Bool}{fr:Frame}{J:List Frame}{w:World}{k:List Item}
theorem vv{c}(g:fr.todo=.code c::k)(H:fr.mode=.run){l:List Item}(h:(match c with
  | .seq a b=>some (.code a::.code b::k)
  | .region _ f false=>some (.inRegion f (List.range f.size)::k)
  | .block id b=>some (.code b::.inBlock id::k)
  | .loop b=>some (.code b::.inLoop b::k)
  | .skip=>some k
  | .exit id=>exitTo id k
  |_=>none)=some l):stepG p I (G fr J) w=.go (G {fr with todo:=l} J) w #[]:=by
 have e:stepG p I (G fr J) w=stepG.exec p I true fr J none w:=dQ
 rw[e]
 cases c with
 |region id f d=>
  cases d with
  |false=>cases h;simp only[stepG.exec,g];rfl
  |true=>cases h
 |exit id=>simp only[stepG.exec,g,h];rfl
 |cond=>cases h
 |_=>first
  |(cases h;simp only[stepG.exec,g];rfl)
  |cases h
theorem a0T{x}{a b}{t}(c:fr.todo=.code (.cond x a b)::k)(H:fr.mode=.run)(B:fr.eval x=.bool t):
  stepG p I (G fr J) w=.go (G {fr with todo:=.code (if t then a else b)::k} J) w #[]:=by
 have e:stepG p I (G fr J) w=stepG.exec p I true fr J none w:=dQ
 rw[e];simp only[stepG.exec,c,B];rfl
theorem TR{a}(b:fr.todo=.inRegion a []::k)(H:fr.mode=.run):stepG p I (G fr J) w=.go (G {fr with todo:=k} J) w #[]:=by
 have e:stepG p I (G fr J) w=stepG.exec p I true fr J none w:=dQ
 rw[e];simp only[stepG.exec,b];rfl
theorem a4p(a:fr.todo=.code .ret::k)(H:fr.mode=.run)(hr:fr.roundOf=none):stepG p I (G fr J) w=.go (G {fr with mode:=.returning} J) w #[]:=by
 have e:stepG p I (G fr J) w=stepG.exec p I true fr J none w:=dQ
 rw[e];simp only[stepG.exec,a,hr];rfl
structure vK(fr:Frame)(ops:Array Oper)(i:Nat)(rest:List Nat)(k:List Item)(o:Oper):Prop where
 todo:fr.todo=.inRegion ops (i::rest)::k
 mode:fr.mode=.run
 round:fr.roundOf=none
 op:ops[i]? =some o
 guard:o.guard=none
variable{ops:Array Oper}{i:Nat}{rest:List Nat}{o:Oper}
theorem wH(h:vK fr ops i rest k o):stepG p I (G fr J) w=stepG.apply p true fr J none (execOp fr.eval o) w:=by
 have e:stepG p I (G fr J) w=stepG.exec p I true fr J none w:=by simp[stepG,G,h.mode]
 have a:((ops[i]?).map (Region.wanted · (yielded ops fr.tmps))).getD false=true:=by rw[h.op];simp[Region.wanted,h.guard]
 rw[h.op]at a
 rw[e]
 simp only[stepG.exec,h.todo,h.op,a,agr,stepG.oper,Frame.oper?,h.round]
theorem mM(h:vK fr ops i rest k o)(a:fr.kind≠.early){v}(c:(execOp fr.eval o).run p w=.ok (.value v) w2):
  stepG p I (G fr J) w=.go (G (fr.finish v) J) w2 (seen p fr.fn ((execOp fr.eval o).events p w #[])++#[]):=oo
theorem a0U(h:vK fr ops i rest k o)(a:fr.kind≠.early)(c:(execOp fr.eval o).run p w=.ok .skip w2):
  stepG p I (G fr J) w=.go (G (fr.finish undef) J) w2 (seen p fr.fn ((execOp fr.eval o).events p w #[])++#[]):=oo
theorem LZ(h:vK fr ops i rest k o)(d:fr.kind≠.early){f}{a}(c:(execOp fr.eval o).run p w=.ok (.enter f a) w2):
  stepG p I (G fr J) w=.go (G (Frame.enter p f a .normal) (fr::J)) w2 (seen p fr.fn ((execOp fr.eval o).events p w #[])++#[]):=by
 have b:(fr.kind==CallKind.early)=false:=by cases e:fr.kind<;>first|rfl|exact absurd e d
 rw[wH h]
 simp only[stepG.apply,Sem.runT_eq,agr,c,b,h.todo];rfl
theorem Pm(h:vK fr ops i rest k o)(a:fr.kind≠.early){cases}{b}{d}(c:(execOp fr.eval o).run p w=.ok (.comm cases b d) w2):
  stepG p I (G fr J) w=.comm (G fr J) cases b d w2 (seen p fr.fn ((execOp fr.eval o).events p w #[])++#[]):=oo
theorem Xf(h:vK fr ops i rest k o)(a:fr.kind≠.early){d}(c:(execOp fr.eval o).run p w=.ok (.defer d) w2):
  stepG p I (G fr J) w=.go (G (({fr with defers:=d::fr.defers}:Frame).finish undef) J) w2 (seen p fr.fn ((execOp fr.eval o).events p w #[])++#[]):=oo
def Et(p:Program)(d:Deferred):Goroutine:=G {(default:Frame)with fn:=p.funcs.size,defers:=[d],mode:=.panicking [goexitEntry]} []
theorem Xg(h:vK fr ops i rest k o)(g:fr.kind≠.early){f}{a c}(d:(execOp fr.eval o).run p w=.ok (.spawn ⟨.fn f c,a⟩) w2):
  stepG p I (G fr J) w=.spawn (G (fr.finish undef) J) (Et p ⟨.fn f c,a⟩) w2 (seen p fr.fn ((execOp fr.eval o).events p w #[])++#[]):=by
 have b:(fr.kind==CallKind.early)=false:=by cases e:fr.kind<;>first|rfl|exact absurd e g
 rw[wH h]
 simp only[stepG.apply,Sem.runT_eq,agr,d,b,Bool.and_false,Bool.false_and,afI,ag6];rfl
end
end
structure au where
 uQ:Nat
 wZ:Nat
 qX:Nat
 xJ:Nat
 a9E:Nat
 a9F:Nat
 abS:Nat
 kW:Nat
 iY:Nat
 xc:Nat
 eG:Nat
 Oy:Nat
 qm:Nat
 a4q:Nat
 aab:Nat
 a4r:Nat
 Pn:Nat
 qN:Nat
 qU:Nat
 l9:Nat
namespace au
variable(n:au)
def r0:Array Oper:=#[⟨some 2,Op.box n.kW (Operand.tmp 0),0, "journal.go:13",#[],none⟩,⟨some 3,Op.box n.iY (Operand.tmp 1),0, "journal.go:13",#[],none⟩,⟨some 4,Op.assign (Operand.const (Value.chan none)),n.xc, "journal.go:13",#[],none⟩]
def r3:Array Oper:=#[⟨some 8,Op.load n.eG (Operand.tmp 5),n.eG, "journal.go:26",#[],none⟩,⟨some 4,Op.assign (Operand.tmp 8),n.xc, "journal.go:26",#[⟨0,.data⟩,⟨0,.phase⟩],none⟩]
def c0:Array Oper:=#[⟨some 11,Op.load n.eG (Operand.tmp 0),n.eG, "journal.go:16",#[],none⟩,⟨none,Op.defer {callee:=Callee.builtin Builtin.close,args:=#[Operand.tmp 11],argTypes:=#[n.eG]},0, "journal.go:16",#[⟨0,.data⟩],none⟩]
def c1:Array Oper:=#[⟨some 12,Op.load n.iY (Operand.tmp 1),n.iY, "journal.go:17",#[],none⟩,⟨some 13,Op.call {callee:=Callee.builtin Builtin.len,args:=#[Operand.tmp 12],argTypes:=#[n.iY]},n.qN, "journal.go:17",#[⟨0,.data⟩],none⟩,⟨some 14,Op.move (Operand.const (Value.int IntKind.i64 0)),n.qN, "journal.go:17",#[],none⟩]
def c2:Array Oper:=#[⟨some 15,Op.binOp BinOp.lss n.qN (Operand.tmp 14) (Operand.tmp 13) n.qN,0, "journal.go:17",#[],none⟩]
def c3:Array Oper:=#[⟨some 16,Op.indexAddr n.iY (Operand.tmp 12) (Operand.tmp 14),0, "journal.go:17",#[],none⟩,⟨some 17,Op.load n.Oy (Operand.tmp 16),n.Oy, "journal.go:17",#[⟨0,.data⟩],none⟩,⟨some 4,Op.assign (Operand.tmp 17),n.Oy, "journal.go:17",#[⟨1,.data⟩,⟨0,.phase⟩,⟨1,.phase⟩],none⟩]
def c4:Array Oper:=#[⟨some 19,Op.load n.kW (Operand.tmp 2),n.kW, "journal.go:19",#[],none⟩,⟨some 20,Op.move (Operand.tmp 4),n.Oy, "journal.go:19",#[],none⟩,⟨some 21,Op.call {callee:=Callee.value (Operand.func n.a9E),args:=#[Operand.tmp 19,Operand.tmp 20],argTypes:=#[n.kW,n.Oy]},n.a4q, "journal.go:19",#[⟨0,.data⟩,⟨1,.data⟩],none⟩,⟨some 18,Op.move (Operand.tmp 21),n.a4q, "journal.go:19",#[⟨2,.data⟩],none⟩,⟨some 22,Op.extract (Operand.tmp 18) 0,n.Oy, "journal.go:19",#[⟨3,.data⟩],none⟩,⟨some 23,Op.extract (Operand.tmp 18) 1,n.aab, "journal.go:19",#[⟨3,.data⟩,{on:=6,ground:=Ground.gcOnly Departure.lateStores}],none⟩,⟨some 5,Op.assign (Operand.tmp 22),n.Oy, "journal.go:19",#[⟨4,.data⟩,⟨2,.chain⟩,⟨0,.phase⟩,⟨1,.phase⟩,⟨2,.phase⟩,⟨3,.phase⟩,⟨4,.phase⟩,{on:=5,ground:=Ground.textOnly Departure.lateStores}],none⟩,⟨some 6,Op.assign (Operand.tmp 23),n.aab, "journal.go:19",#[⟨5,.data⟩,⟨6,.chain⟩,⟨0,.phase⟩,⟨1,.phase⟩,⟨2,.phase⟩,⟨3,.phase⟩,⟨4,.phase⟩,⟨5,.phase⟩,⟨6,.phase⟩],none⟩]
def c5:Array Oper:=#[⟨some 25,Op.move (Operand.tmp 5),n.Oy, "journal.go:20",#[],none⟩,⟨some 26,Op.call {callee:=Callee.value (Operand.func n.a9F),args:=#[Operand.tmp 25],argTypes:=#[n.Oy]},n.a4r, "journal.go:20",#[⟨0,.data⟩],none⟩,⟨some 24,Op.move (Operand.tmp 26),n.a4r, "journal.go:20",#[⟨1,.data⟩],none⟩,⟨some 27,Op.extract (Operand.tmp 24) 0,n.Pn, "journal.go:20",#[⟨2,.data⟩],none⟩,⟨some 28,Op.extract (Operand.tmp 24) 1,n.qN, "journal.go:20",#[⟨2,.data⟩,{on:=5,ground:=Ground.gcOnly Departure.lateStores}],none⟩,⟨some 7,Op.assign (Operand.tmp 27),n.Pn, "journal.go:20",#[⟨3,.data⟩,⟨1,.chain⟩,⟨0,.phase⟩,⟨1,.phase⟩,⟨2,.phase⟩,⟨3,.phase⟩,{on:=4,ground:=Ground.textOnly Departure.lateStores}],none⟩,⟨some 8,Op.assign (Operand.tmp 28),n.qN, "journal.go:20",#[⟨4,.data⟩,⟨5,.chain⟩,⟨0,.phase⟩,⟨1,.phase⟩,⟨2,.phase⟩,⟨3,.phase⟩,⟨4,.phase⟩,⟨5,.phase⟩],none⟩]
def c6:Array Oper:=#[⟨some 29,Op.move (Operand.tmp 7),n.Pn, "journal.go:21",#[],none⟩,⟨some 30,Op.call {callee:=Callee.builtin Builtin.len,args:=#[Operand.tmp 29],argTypes:=#[n.Pn]},n.qN, "journal.go:21",#[⟨0,.data⟩],none⟩,⟨some 31,Op.move (Operand.const (Value.int IntKind.i64 0)),n.qN, "journal.go:21",#[],none⟩]
def c7:Array Oper:=#[⟨some 32,Op.binOp BinOp.lss n.qN (Operand.tmp 31) (Operand.tmp 30) n.qN,0, "journal.go:21",#[],none⟩]
def c8:Array Oper:=#[⟨some 33,Op.indexAddr n.Pn (Operand.tmp 29) (Operand.tmp 31),0, "journal.go:21",#[],none⟩,⟨some 34,Op.load n.qm (Operand.tmp 33),n.qm, "journal.go:21",#[⟨0,.data⟩],none⟩,⟨some 10,Op.alloc n.qm,0, "journal.go:21",#[],none⟩,⟨none,Op.store n.qm (Operand.tmp 10) (Operand.tmp 34),0, "journal.go:21",#[⟨2,.data⟩,⟨1,.data⟩,⟨0,.phase⟩,⟨1,.phase⟩,⟨2,.phase⟩],none⟩]
def c9:Array Oper:=#[⟨some 35,Op.load n.eG (Operand.tmp 0),n.eG, "journal.go:22",#[],none⟩,⟨some 36,Op.load n.qm (Operand.tmp 10),n.qm, "journal.go:22",#[],none⟩,⟨none,Op.send (Operand.tmp 35) (Operand.tmp 36),0, "journal.go:22",#[⟨0,.data⟩,⟨1,.data⟩],none⟩]
def c10:Array Oper:=#[⟨some 37,Op.binOp BinOp.add n.qN (Operand.tmp 31) (Operand.const (Value.int IntKind.i64 1)) n.qN,n.qN, "journal.go:21",#[],none⟩,⟨some 31,Op.move (Operand.tmp 37),n.qN, "journal.go:21",#[⟨0,.data⟩],none⟩]
def c11:Array Oper:=#[⟨some 38,Op.binOp BinOp.add n.qN (Operand.tmp 14) (Operand.const (Value.int IntKind.i64 1)) n.qN,n.qN, "journal.go:17",#[],none⟩,⟨some 14,Op.move (Operand.tmp 38),n.qN, "journal.go:17",#[⟨0,.data⟩],none⟩]
def a0:Array Oper:=#[⟨some 4,Op.alloc n.l9,0, "journal.go:46",#[],none⟩]
def a1:Array Oper:=#[⟨some 5,Op.alloc n.l9,0, "journal.go:47",#[],none⟩]
def a2:Array Oper:=#[⟨some 6,Op.assign (Operand.const (Value.bool false)),n.qU, "journal.go:48",#[],none⟩]
def a3:Array Oper:=#[⟨some 8,Op.move (Operand.tmp 0),n.kW, "journal.go:49",#[],none⟩,⟨some 9,Op.move (Operand.tmp 0),n.kW, "journal.go:49",#[],none⟩,⟨some 10,Op.call {callee:=Callee.value (Operand.func n.xJ),args:=#[Operand.tmp 9],argTypes:=#[n.kW]},n.iY, "journal.go:49",#[⟨1,.data⟩],none⟩,⟨some 11,Op.call {callee:=Callee.value (Operand.func n.wZ),args:=#[Operand.tmp 8,Operand.tmp 10],argTypes:=#[n.kW,n.iY]},n.xc, "journal.go:49",#[⟨0,.data⟩,⟨2,.data⟩,⟨2,.chain⟩],none⟩]
def a4:Array Oper:=#[⟨some 12,Op.recv n.xc (Operand.tmp 11) true,0, "journal.go:49",#[],none⟩,⟨some 13,Op.extract (Operand.tmp 12) 1,n.qU, "journal.go:49",#[⟨0,.data⟩],none⟩]
def a5:Array Oper:=#[⟨some 14,Op.extract (Operand.tmp 12) 0,n.qm, "journal.go:49",#[],none⟩,⟨some 7,Op.alloc n.qm,0, "journal.go:49",#[],none⟩,⟨none,Op.store n.qm (Operand.tmp 7) (Operand.tmp 14),0, "journal.go:49",#[⟨1,.data⟩,⟨0,.data⟩,⟨0,.phase⟩,⟨1,.phase⟩],none⟩]
def a6:Array Oper:=#[⟨some 15,Op.move (Operand.tmp 6),n.qU, "journal.go:50",#[],none⟩,⟨some 16,Op.move (Operand.tmp 15),n.qU, "journal.go:50",#[⟨0,.data⟩],none⟩,⟨some 17,Op.fieldAddr n.qm (Operand.tmp 7) 0,0, "journal.go:50",#[⟨1,.guard⟩],some (1,false)⟩,⟨some 18,Op.load n.qN (Operand.tmp 17),n.qN, "journal.go:50",#[⟨2,.data⟩,⟨1,.guard⟩],some (1,false)⟩,⟨some 19,Op.move (Operand.tmp 1),n.qN, "journal.go:50",#[⟨1,.guard⟩],some (1,false)⟩,⟨some 20,Op.binOp BinOp.gtr n.qN (Operand.tmp 18) (Operand.tmp 19) n.qN,n.qU, "journal.go:50",#[⟨3,.data⟩,⟨4,.data⟩,⟨1,.guard⟩],some (1,false)⟩,⟨some 21,Op.pick (Operand.tmp 16) (Operand.const (Value.bool true)) (Operand.tmp 20),n.qU, "journal.go:50",#[⟨1,.data⟩,⟨5,.data⟩],none⟩,⟨some 6,Op.assign (Operand.tmp 21),n.qU, "journal.go:50",#[⟨6,.data⟩,⟨1,.chain⟩,⟨0,.phase⟩,⟨1,.phase⟩,⟨2,.phase⟩,⟨3,.phase⟩,⟨4,.phase⟩,⟨5,.phase⟩,⟨6,.phase⟩],none⟩]
def a7:Array Oper:=#[⟨some 22,Op.move (Operand.tmp 6),n.qU, "journal.go:51",#[],none⟩,⟨some 23,Op.unOp UnOp.not n.qU (Operand.tmp 22),n.qU, "journal.go:51",#[⟨0,.data⟩],none⟩]
def a8:Array Oper:=#[⟨some 24,Op.load n.qm (Operand.tmp 7),n.qm, "journal.go:52",#[],none⟩,⟨some 25,Op.call {callee:=Callee.value (Operand.func n.abS),args:=#[Operand.tmp 5,Operand.tmp 24],argTypes:=#[n.l9,n.qm]},0, "journal.go:52",#[⟨0,.data⟩],none⟩]
def a9:Array Oper:=#[⟨some 26,Op.load n.l9 (Operand.tmp 5),n.l9, "journal.go:55",#[],none⟩,⟨none,Op.store n.l9 (Operand.tmp 4) (Operand.tmp 26),0, "journal.go:55",#[⟨0,.data⟩,⟨0,.phase⟩],none⟩]
def bN:Int:=1099511627776
def Ak:Array Oper:=#[⟨some 35,Op.load n.eG (Operand.tmp 0),n.eG, "journal.go:22",#[],none⟩,⟨some 36,Op.load n.qm (Operand.tmp 10),n.qm, "journal.go:22",#[],none⟩,⟨none,Op.binOp BinOp.eql n.qm (Operand.tmp 36) (Operand.tmp 36) n.qm,n.qU, "journal.go:22",#[],none⟩,⟨none,Op.send (Operand.tmp 35) (Operand.tmp 36),0, "journal.go:22",#[⟨0,.data⟩,⟨1,.data⟩],none⟩]
def ZM:Array Oper:=#[⟨some 6,Op.assign (Operand.const (Value.bool false)),n.qU, "journal.go:48",#[],none⟩,⟨none,Op.binOp BinOp.lss n.qN (Operand.tmp 1) (Operand.const (Value.int IntKind.i64 0)) n.qN,n.qU, "journal.go:48",#[],none⟩]
end au
end Go.Proofs.Zb
