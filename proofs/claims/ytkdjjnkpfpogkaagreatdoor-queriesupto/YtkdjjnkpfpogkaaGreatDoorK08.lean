import Derived.Conc.Listed
import Derived.Conc.Own
import Derived.Test.YtkdjjnkpfpogkaaGreatDoorK07
set_option maxHeartbeats 8000000
set_option linter.all false
namespace Go.Proofs.Zb
variable{Q:Program}{gl:Scope}{ops ops':Array Oper}{x x' y fr fr':Frame}{w w':World}{cs cs':List Frame}{main':Bool}{l l':Nat}
section
variable[Special]
open Go.Conc (G)
def a0K(Q:Program)(gl:Scope)(ops:Array Oper):Bool:=ops.all λo=>opB Q gl o&&(match o.dst with|none=>true|some d=>gl.qR d)
def iX(Q:Program)(gl:Scope):Code->Bool
 | .skip| .exit _| .label _| .ret| .refuse _=>true
 | .goto _=>false
 | .region _ ops _=>a0K Q gl ops
 | .seq a b=>iX Q gl a&&iX Q gl b
 | .cond c a b=>gH gl c&&iX Q gl a&&iX Q gl b
 | .block _ c| .loop c| .scope c=>iX Q gl c
 | .rangeFunc f _ a b=>gl.live.isNone&&gH gl f&&iX Q gl.inner a&&iX Q gl.inner b
def aT(Q:Program)(gl:Scope)(c:Code):Prop:=iX Q gl c=true
structure GN(Q:Program)(gl:Scope)(ops ops':Array Oper):Prop where
 size:ops.size=ops'.size
 at_:∀(i:Nat)(o:Oper),ops[i]? =some o->∃o',ops'[i]? =some o'/\OpR Q gl o o'/\∀d,o.dst=some d->gl.qR d=true
 sched:∀(b:Bool)(t:Nat),Region.schedule b ops t=Region.schedule b ops' t
theorem GN.refl(h:a0K Q gl ops=true):GN Q gl ops ops:=by
 refine⟨rfl,λi o a=>⟨o,a,?_⟩,λ_ _=>rfl⟩;unfold a0K at h
 rw[afR]at h
 have:=h o (ag9 a);simp only[afQ]at this;refine⟨.same o this.1,λd b=> ?_⟩
 grind
theorem OpR.dst{Q}{gl}{o a}(h:OpR Q gl o a):a.dst=o.dst/\a.op=o.op/\∀y,Region.wanted a y=Region.wanted o y:=by cases h<;>exact⟨rfl,rfl,λ_=>rfl⟩
theorem GN.out(h:GN Q gl ops ops'){i:Nat}(e:ops[i]? =none):ops'[i]? =none:=by
 rw[Array.getElem?_eq_none_iff]at e |-
 rw[<-h.size];exact e
theorem GN.eq(h:GN Q gl ops ops')(d:gl.live≠none):ops=ops':=by
 apply Array.ext_getElem?;intro i;cases e:ops[i]? with
 |none=>rw[h.out e]
 |some o=>
  obtain⟨c,b,a,_⟩:=h.at_ i o e
  rw[b]
  cases a<;>grind
theorem GN.dst{Q}{gl}{ops ops'}(h:GN Q gl ops ops')(i:Nat):(ops'[i]?).bind (·.dst)=(ops[i]?).bind (·.dst):=by
 cases e:ops[i]? with
 |none=>rw[h.out e]
 |some o=>
  obtain⟨c,b,a,_⟩:=h.at_ i o e
  rw[b]
  exact a.dst.1
theorem GN.live(h:GN Q gl ops ops'){i d:Nat}(e:(ops[i]?).bind (·.dst)=some d):gl.qR d=true:=by
 cases a:ops[i]? with
 |none=>grind
 |some o=>
  rw[a]at e
  obtain⟨_,_,_,b⟩:=h.at_ i o a;exact b d e
inductive kG(Q:Program)(gl:Scope):Code->Code->Prop
 |same (c:Code) (h:aT Q gl c):kG Q gl c c
 |sp (c c':Code) (h:Special.sp gl.live c c'):kG Q gl c c'
 |seq {a a' b b':Code} (h:kG Q gl a a') (k:kG Q gl b b'):kG Q gl (.seq a b) (.seq a' b')
 |cond (x:Operand) {a a' b b':Code} (hx:gH gl x=true) (h:kG Q gl a a') (k:kG Q gl b b'):kG Q gl (.cond x a b) (.cond x a' b')
 |block (id:Nat) {c c':Code} (h:kG Q gl c c'):kG Q gl (.block id c) (.block id c')
 |loop {c c':Code} (h:kG Q gl c c'):kG Q gl (.loop c) (.loop c')
 |scope {c c':Code} (h:kG Q gl c c'):kG Q gl (.scope c) (.scope c')
 |region (id:Nat) {ops ops':Array Oper} (d:Bool) (h:GN Q gl ops ops'):kG Q gl (.region id ops d) (.region id ops' d)
abbrev a4i(gl:Scope):FuncId->Nat->Prop:=λf k=>gl.may f k=true
inductive Ae(Q:Program)(gl:Scope)(ρ:Ren):Item->Item->Prop
 |code (c c':Code) (h:kG Q gl c c'):Ae Q gl ρ (.code c) (.code c')
 |inBlock (id:Nat):Ae Q gl ρ (.inBlock id) (.inBlock id)
 |inLoop (c c':Code) (h:kG Q gl c c'):Ae Q gl ρ (.inLoop c) (.inLoop c')
 |inScope (c c':Code) (h:kG Q gl c c'):Ae Q gl ρ (.inScope c) (.inScope c')
 |inRegion (ops ops':Array Oper) (l:List Nat) (h:GN Q gl ops ops'):Ae Q gl ρ (.inRegion ops l) (.inRegion ops' l)
 |inRangeFunc (l l':Nat) (h:ρ l l' .loop) (hw:gl.live=none):Ae Q gl ρ (.inRangeFunc l) (.inRangeFunc l')
 |endRangeFunc (l l':Nat) (h:ρ l l' .loop) (hw:gl.live=none):Ae Q gl ρ (.endRangeFunc l) (.endRangeFunc l')
 |beginRound:Ae Q gl ρ .beginRound .beginRound
inductive pQ(Q:Program)(gl:Scope)(ρ:Ren):List Item->List Item->Prop
 |nil:pQ Q gl ρ [] []
 |cons {x x':Item} {l l':List Item} (h:Ae Q gl ρ x x') (hl:pQ Q gl ρ l l'):pQ Q gl ρ (x::l) (x'::l')
inductive yx(gl:Scope)(ρ:Ren):Option Nat->Option Nat->Prop
 |none:yx gl ρ none none
 |some (l l':Nat) (h:ρ l l' .loop) (hw:gl.live=none):yx gl ρ (some l) (some l')
def Ren.or(e a:Ren):Ren:=λb c k=>e b c k\/a b c k
omit [Special]in
theorem Ren.uP(a b:Ren):a.le (a.or b):=λ_ _ _ h=>.inl h
omit [Special]in
theorem Ren.a4j(b a:Ren):a.le (b.or a):=λ_ _ _ h=>.inr h
structure bn(Q:Program)(gl:Scope)(ρ τ:Ren)(fr fr':Frame):Prop where
 fn:fr'.fn=fr.fn
 live:∀t,gl.qR t=true->VR ρ (fr.tmps.getD t undef) (fr'.tmps.getD t undef)
 full:AR τ fr.tmps fr'.tmps
 todo:pQ Q gl ρ fr.todo fr'.todo
 defers:gl.live=none->qP ρ fr.defers fr'.defers
 mode:(fr.mode=.run/\fr'.mode=.run)\/(fr.mode=.returning/\fr'.mode=.returning)
 kind:fr.kind=.normal
 kind':fr'.kind=.normal\/fr'.kind=.deferred
 round:yx gl ρ fr.roundOf fr'.roundOf
 put:gl.live≠none->fr.defers=gl.put.1/\fr'.defers=gl.put.2/\∀d∈gl.put.1,ZC d
 fix:∀x∈gl.fix,gl.qR x.1=false/\fr.tmps.getD x.1 undef=x.2.1/\fr'.tmps.getD x.1 undef=x.2.2
 len:gl.live≠none->fr.tmps.size=gl.len
section
variable{Q P:Program}{gl:Scope}{ρ σ τ:Ren}{c:Frame}{K:Prop}
theorem vH:VR ρ undef undef:=.tuple _ _ rfl (λi v a h=>by simp at h)
theorem Ae.mono(h:ρ.le σ){x x'}(i:Ae Q gl ρ x x'):Ae Q gl σ x x':=by
 cases i with
 |code c a h=>exact .code c a h
 |inBlock id=>exact .inBlock id
 |inLoop c a h=>exact .inLoop c a h
 |inScope c a h=>exact .inScope c a h
 |inRegion o e l h=>constructor<;>grind
 |inRangeFunc l l' d b=>exact .inRangeFunc l l' (h _ _ _ d) b
 |endRangeFunc l l' d b=>exact .endRangeFunc l l' (h _ _ _ d) b
 |beginRound=>exact .beginRound
theorem pQ.mono(h:ρ.le σ){x x'}(i:pQ Q gl ρ x x'):pQ Q gl σ x x':=by
 induction i with
 |nil=>exact .nil
 |cons b _ a=>exact .cons (b.mono h) a
omit [Special]in
theorem yx.mono(h:ρ.le σ){x x'}(i:yx gl ρ x x'):yx gl σ x x':=by
 cases i with
 |none=>exact .none
 |some l l' b a=>exact .some l l' (h _ _ _ b) a
theorem bn.mono(h:ρ.le σ){x x'}(i:bn Q gl ρ τ x x'):bn Q gl σ (σ.or τ) x x':=
 ⟨i.fn,λt a=>(i.live t a).mono h,i.full.mono (Ren.a4j _ _),i.todo.mono h,λb=>(i.defers b).mono h,i.mode,i.kind,i.kind',i.round.mono h,i.put,i.fix,i.len⟩
theorem bn.up(i:bn Q gl ρ τ x x'):bn Q gl ρ (ρ.or τ) x x':=i.mono (Ren.le_refl _)
omit [Special]in
theorem Scope.a4k{gl:Scope}(h:gl.live=none):gl.whole={gl with put:=([],[]),fix:=[],len:=0}:=by cases gl;simp only at h;subst h;rfl
theorem a4l(gl)(u)(x)(l)(ops):a0K Q {gl with put:=u,fix:=x,len:=l} ops=a0K Q gl ops:=rfl
theorem a0L(u)(x)(l)(c):∀gl,iX Q {gl with put:=u,fix:=x,len:=l} c=iX Q gl c:=by
 induction c with
 |region id ops d=>exact λgl=>a4l gl u x l ops
 |seq a b h k=>grind[iX]
 |cond y a b h k=>intro gl;simp only[iX,h,k];rfl
 |block id c h=>grind[iX]
 |loop c h=>grind[iX]
 |scope c h=>grind[iX]
 |rangeFunc f e a b h k=>intro gl;rfl
 |_=>intro gl;rfl
theorem aT.whole{gl}(h:gl.live=none){c}:aT Q gl.whole c↔aT Q gl c:=by unfold aT;rw[Scope.a4k h,a0L]
theorem bn.tmps{x x'}(i:bn Q gl ρ τ x x')(h:gl.live=none):AR ρ x.tmps x'.tmps:=by
 refine⟨i.full.size,λk v b e a=> ?_⟩;have:=i.live k (by unfold Scope.qR;rw[h])
 rw[afM,afM,e,a]at this
 exact this
theorem bn.Re(e:x'.fn=x.fn)(f:AR ρ x.tmps x'.tmps)(a:pQ Q gl ρ x.todo x'.todo)(n:qP ρ x.defers x'.defers)(k:(x.mode=.run/\x'.mode=.run)\/(x.mode=.returning/\x'.mode=.returning))(m:x.kind=.normal)(b:x'.kind=.normal\/x'.kind=.deferred)(j:yx gl ρ x.roundOf x'.roundOf)(g:gl.live=none)(i:gl.fix=[]):bn Q gl ρ ρ x x':=
 ⟨e,λt _=>f.getD t,f,a,λ_=>n,k,m,b,j,λh=>absurd g h,λx h=>by (rw[i]at h;cases h),λh=>absurd g h⟩
theorem bn.to{y'}(i:bn Q gl ρ τ x x')(N:y.fn=x.fn)(F:y'.fn=x'.fn)(I:y.tmps=x.tmps)(E:y'.tmps=x'.tmps)(u:pQ Q gl ρ y.todo y'.todo)(L:gl.live=none->qP ρ y.defers y'.defers)(hm:(y.mode=.run/\y'.mode=.run)\/(y.mode=.returning/\y'.mode=.returning))(R:y.kind=x.kind)(M:y'.kind=x'.kind)(Y:y.roundOf=x.roundOf)(J:y'.roundOf=x'.roundOf)(O:gl.live≠none->y.defers=x.defers/\y'.defers=x'.defers:=by intros;exact bG):bn Q gl ρ τ y y':=
 ⟨by rw[N,F,i.fn],λt h=>by rw[I,E];exact i.live t h,by rw[I,E];exact i.full,u,L,hm,by rw[R,i.kind],by rw[M];exact i.kind',by rw[Y,J];exact i.round,λh=>by rw[(O h).1,(O h).2];exact i.put h,λx h=>by rw[I,E];exact i.fix x h,λh=>by rw[I];exact i.len h⟩
theorem bn.eval(j:∀g,gl.gl.contains g=true->ρ g g .cells){fr fr'}(h:bn Q gl ρ τ fr fr'):ZK gl ρ fr.eval fr'.eval:=⟨λx a=>by
 cases x with
 |tmp t=>exact h.live t a
 |const v=>exact .plain 100 v a
 |global g=>exact .ptr _ _ (.at_ (j g a))
 |func f=>exact .func _ _ _ _ _ _ (.func f a) rfl (λi v b e=>by simp at e) rfl (λi v b e=>by simp at e)⟩
theorem bn.TN(h:bn Q gl ρ τ fr fr'):Dw fr:=by
 by_cases b:gl.live=none
 case neg=>
  obtain⟨f,_,e⟩:=h.put b;intro d a
  rw[f]at a
  exact .inr (e d a)
 have a:=h.defers b;generalize fr'.defers=l' at a;unfold Dw;generalize fr.defers=l at a |-;induction a<;>grind
theorem bn.finish{fr fr'}(h:bn Q gl ρ τ fr fr'){v J}(Y:VR ρ v J)(S:ρ.le τ):bn Q gl ρ τ (fr.finish v) (fr'.finish J):=by
 obtain⟨q,j,f,r,p,g,k,b,a,m,o,n⟩:=h;obtain⟨fn,A,U,I,W,X,B⟩:=fr;obtain⟨fn',u,L,G,N,O,z⟩:=fr';dsimp only at q j f r p g k b a m o n
 have M:∀d,∀t,gl.qR t=true->VR ρ ((A.setIfInBounds d v).getD t undef) ((u.setIfInBounds d J).getD t undef):=λd t ht=>by
  have:=j t ht
  rw[afM,afM]at this |-
  rw[ag3,ag3,<-f.size]
  by_cases e:d=t
  ·rw[afN e,afN e]
   split
   ·exact Y
   ·exact vH
  ·rw[afJ e,afJ e];exact this
 unfold Frame.finish;cases r with
 |nil=>exact⟨q,j,f,.nil,p,g,k,b,a,m,o,n⟩
 |cons hi s=>
  cases hi with
  |inRegion ops ops' l C=>
   cases l with
   |nil=>exact⟨q,j,f,.cons (.inRegion _ _ _ C) s,p,g,k,b,a,m,o,n⟩
   |cons i V=>
    dsimp only
    rw[C.dst i]
    cases T:(ops[i]?).bind (·.dst)with
    |none=>exact⟨q,j,f,.cons (.inRegion _ _ _ C) s,p,g,k,b,a,m,o,n⟩
    |some d=>
     refine⟨q,M d,f.set d (Y.mono S),.cons (.inRegion _ _ _ C) s,p,g,k,b,a,m,λx hx=> ?_,λh=>by dsimp only;rw[Array.size_setIfInBounds];exact n h⟩;obtain⟨Z,h2,h3⟩:=o x hx;have E:gl.qR d=true:=C.live T;have D:d≠x.1:=λe=>by rw[e,Z]at E;cases E
     refine⟨Z,?_,?_⟩
     ·rw[afM,afF D,<-Array.getD_eq_getD_getElem?];exact h2
     ·rw[afM,afF D,<-Array.getD_eq_getD_getElem?];exact h3
  |code c H F=>exact⟨q,j,f,.cons (.code c H F) s,p,g,k,b,a,m,o,n⟩
  |inBlock id=>exact⟨q,j,f,.cons (.inBlock id) s,p,g,k,b,a,m,o,n⟩
  |inLoop c H F=>exact⟨q,j,f,.cons (.inLoop c H F) s,p,g,k,b,a,m,o,n⟩
  |inScope c H F=>exact⟨q,j,f,.cons (.inScope c H F) s,p,g,k,b,a,m,o,n⟩
  |inRangeFunc l l' h R=>exact⟨q,j,f,.cons (.endRangeFunc l l' h R) s,p,g,k,b,a,m,o,n⟩
  |endRangeFunc l l' h R=>exact⟨q,j,f,.cons (.endRangeFunc l l' h R) s,p,g,k,b,a,m,o,n⟩
  |beginRound=>exact⟨q,j,f,s,p,g,k,b,a,m,o,n⟩
theorem a4m(id):∀{l l':List Item},pQ Q gl ρ l l'->(exitTo id l=none/\exitTo id l'=none)\/∃k a,exitTo id l=some k/\exitTo id l'=some a/\pQ Q gl ρ k a:=by
 intro l l' h;induction h with
 |nil=>exact .inl ⟨rfl,rfl⟩
 |cons e f b=>
  cases e with
  |inBlock d=>
   unfold exitTo
   split<;>grind
  |_=>exact b
omit [Special]in
theorem JM:∀L,∃T,mI L T 0:=λL=>
 ⟨λi=>(L[i]?).getD λ_=>0,(by
  have:∀(M:List (Question->Nat))(d:Nat),(∀i,M[i]? =L[d+i]?)->mI M (λi=>(L[i]?).getD λ_=>0) d:=by
   intro M;induction M with
   |nil=>intro d _;trivial
   |cons f M a=>
    intro d h;refine⟨?_,a (d+1) λi=> ?_⟩
    ·have:=h 0
     simp only[List.getElem?_cons_zero,Nat.add_zero]at this
     show(L[d]?).getD _=f
     rw[<-this];rfl
    ·have:=h (i+1)
     simp only[List.getElem?_cons_succ]at this
     rw[this,agJ,Nat.add_comm 1 i]
  exact this L 0 λi=>by rw[agj])⟩
omit [Special]in
theorem qQ.of{i}{s:Sem i}(h:∀T d,∃e b,Ahead (re T d w) e b/\((∃a v,s.run Q (re e b w)=.ok a v)\/∃g u,s.run Q (re e b w)=.halt (.unsupported (.initOrder g)) u)):qQ Q s w:=λT d=>by
 obtain⟨e,b,k,h⟩:=h T d;have f:=a3Z Q s k;cases j:s.run Q (re T d w)with
 |ok a u=>simp
 |halt x u=>
  rw[j]at f
  obtain⟨a,v,h⟩|⟨g,v,h⟩:=h
  ·rw[show re e b (re T d w)=re e b w from rfl,h]at f;exact f.elim
  ·rw[show re e b (re T d w)=re e b w from rfl,h]at f
   exact .inr ⟨g,u,by rw[f.1]⟩
def Ac:Code->Bool
 | .skip| .refuse _| .region .. =>true
 | .seq a b=>Ac a&&Ac b
 | .cond _ a b=>Ac a&&Ac b
 | .block _ c| .loop c| .scope c=>Ac c
 |_=>false
def vG:Item->Bool
 | .code c| .inLoop c| .inScope c=>Ac c
 | .inBlock _| .inRegion .. =>true
 |_=>false
def Within(b:Code)(s:List Item)(l:List Item):Prop:=∃Y,l=Y++.inLoop b::s/\∀i∈Y,vG i=true
def a9D(b:Code)(s:List Item)(l:List Item):Prop:=l=.code b::.inLoop b::s\/Within b s l
def mK(x y:Frame):Prop:=∀b s,x.mode=.run->Within b s x.todo->y.mode=.run/\a9D b s y.todo
omit [Special]in
theorem cZ{i}{k new}(g:x.todo=i::k)(f:y.todo=new++k)(m:y.mode=x.mode)(o:∀c,i≠.inLoop c)(n:vG i=true->∀j∈new,vG j=true):mK x y:=by
 rintro b s h ⟨Y,d,e⟩
 rw[g]at d
 cases Y with
 |nil=>grind
 |cons j Y=>
  simp only[agN,agK]at d;obtain⟨rfl,rfl⟩:=d;refine⟨by rw[m];exact h,.inr ⟨new++Y,by rw[f];simp,λz a=> ?_⟩⟩;obtain a|a:=agz.1 a<;>grind
omit [Special]in
theorem a0M{c}{k}(i:x.todo=.inLoop c::k)(f:y.todo=.code c::.inLoop c::k)(h:y.mode=x.mode):mK x y:=by
 rintro b s g ⟨Y,d,a⟩
 rw[i]at d
 cases Y with
 |nil=>cases d;exact⟨by rw[h];exact g,.inl f⟩
 |cons j Y=>
  simp only[agN,agK]at d;obtain⟨rfl,rfl⟩:=d;refine⟨by rw[h];exact g,.inr ⟨.code c::.inLoop c::Y,by rw[f];simp,λz e=> ?_⟩⟩;obtain rfl|e:=agk.1 e
  ·exact a (.inLoop c) (by simp)
  ·grind
omit [Special]in
theorem kz{i}{k}(d:x.todo=i::k)(h:∀c,i≠.inLoop c)(g:vG i=false)(y):mK x y:=by
 rintro b s f ⟨Y,e,a⟩
 rw[d]at e
 cases Y<;>grind
omit [Special]in
theorem TP(d:x.todo=[])(y):mK x y:=by
 rintro b s e ⟨Y,f,a⟩
 simp_all
omit [Special]in
theorem LV(a:x.mode=.returning)(y):mK x y:=by
 intro b s d _
 grind
omit [Special]in
theorem Es(h:y.todo=x.todo)(d:y.mode=x.mode):mK x y:=λb s a e=>⟨by rw[d];exact a,.inr (by grind)⟩
omit [Special]in
theorem wG(x)(v):mK x (x.finish v):=by
 obtain⟨z,p,f,m,q,u,g⟩:=x;cases f with
 |nil=>simp[TP]
 |cons i k=>
  cases i with
  |inRegion ops l=>
   cases l with
   |nil=>exact Es rfl rfl
   |cons i b=>exact cZ (i:=.inRegion ops (i::b)) (k:=k) (new:=[.inRegion ops b]) rfl rfl rfl (λc h=>by cases h) λ_ j n=>lI
  |inRangeFunc l=>exact kz rfl (λc h=>by cases h) rfl _
  |beginRound=>exact kz rfl (λc h=>by cases h) rfl _
  |call d w r s=>exact kz rfl (λc h=>by cases h) rfl _
  |extern r a=>exact kz rfl (λc h=>by cases h) rfl _
  |_=>exact Es rfl rfl
structure Alike(x y:Frame):Prop where
 fn:y.fn=x.fn
 kind:y.kind=x.kind
 round:y.roundOf=x.roundOf
omit [Special]in
theorem Alike.refl(x):Alike x x:=⟨rfl,rfl,rfl⟩
omit [Special]in
theorem Alike.trans{x y z}(h:Alike x y)(k:Alike y z):Alike x z:=⟨k.fn.trans h.fn,k.kind.trans h.kind,k.round.trans h.round⟩
omit [Special]in
theorem dH(x)(v):Alike x (x.finish v):=by constructor<;>grind[Frame.finish]
inductive GQ(K:Prop)(Q P:Program)(gl:Scope)(σ τ:Ren)(fr fr':Frame)(cs cs':List Frame):Goroutine->Goroutine->Prop
 |stay (n n':Frame) (h:bn Q gl σ (σ.or τ) n n') (e:Alike fr n) (e':Alike fr' n') (kp:mK fr' n'):GQ K Q P gl σ τ fr fr' cs cs' (G n cs) (G n' cs')
 |push (n n':Frame) (h:bn Q gl.whole σ σ n n') (hn:n'.kind=.normal) (k k':Frame) (hk:bn Q gl σ (σ.or τ) k k') (e:Alike fr k) (e':Alike fr' k') (kp:mK fr' k'):GQ K Q P gl σ τ fr fr' cs cs' (G n (k::cs)) (G n' (k'::cs'))
 |enter (f:FuncId) (a a':Array Value) (h:AR σ a a') (he:gl.may f a.size=true) (k k':Frame) (hk:bn Q gl σ (σ.or τ) k k') (e:Alike fr k) (e':Alike fr' k') (kp:mK fr' k'):GQ K Q P gl σ τ fr fr' cs cs' (G (Frame.enter Q f a .normal) (k::cs)) (G (Frame.enter P f a' .normal) (k'::cs'))
 |pop (c c':Frame) (r r':List Frame) (hK:K) (e:cs=c::r) (e':cs'=c'::r') (v v':Value) (h:VR σ v v'):GQ K Q P gl σ τ fr fr' cs cs' (G (c.finish v) r) (G (c'.finish v') r')
theorem bn.any{b}(i:bn Q gl ρ τ x x')(h:gl.live=none)(a:ρ.le b):bn Q gl ρ b x x':=⟨i.fn,i.live,(i.tmps h).mono a,i.todo,i.defers,i.mode,i.kind,i.kind',i.round,i.put,i.fix,i.len⟩
theorem GQ.of{g t}(h:Alike x fr)(q:Alike x' fr')(p:∀y,mK x' y)(o:GQ K Q P gl σ τ fr fr' cs cs' g t):GQ K Q P gl σ τ x x' cs cs' g t:=by
 cases o with
 |stay n d j e b=>exact .stay n d j (h.trans e) (q.trans b) (p _)
 |push n d j m k i hF e b=>exact .push n d j m k i hF (h.trans e) (q.trans b) (p _)
 |enter f a z u s k i hF e b=>exact .enter f a z u s k i hF (h.trans e) (q.trans b) (p _)
 |pop c E r B D e b v A C=>constructor<;>grind
theorem GQ.any{t}{fr fr'}{cs cs'}{g s}(h:gl.live=none)(o:GQ K Q P gl σ τ fr fr' cs cs' g s):GQ K Q P gl σ t fr fr' cs cs' g s:=by
 cases o with
 |stay n i m e b d=>exact .stay n i (m.any h (Ren.uP _ _)) e b d
 |push n i m p k j q e b d=>exact .push n i m p k j (q.any h (Ren.uP _ _)) e b d
 |enter f a F C B k j q e b d=>exact .enter f a F C B k j (q.any h (Ren.uP _ _)) e b d
 |pop c E r z D e b v u A=>exact .pop c E r z D e b v u A
def vI(K:Prop)(Q P:Program)(gl:Scope)(main':Bool)(ρ τ:Ren)(fr fr':Frame)(cs cs':List Frame)(w w':World):Prop:=
 ∃L g v f b a σ,(∀T d,mI L T d->∃h,stepG Q true (G fr cs) (re T d w)=.go g (re T (d+L.length) v) h)/\stepG P main' (G fr' cs') w'=.go f b a/\GQ K Q P gl σ τ fr fr' cs cs' g f/\
  WR (aT Q gl.inner) Q.globals.size σ v b/\Move ρ σ w w' v b/\∀e∈a,Lj σ e
theorem vI.still{n b}(i:WR (aT Q gl.inner) Q.globals.size ρ w w')(h:bn Q gl ρ (ρ.or τ) n b)(a:Alike fr n)(k:Alike fr' b)(f:mK fr' b)(e:∀w,stepG Q true (G fr cs) w=.go (G n cs) w #[])(j:∀w,stepG P main' (G fr' cs') w=.go (G b cs') w #[]):vI K Q P gl main' ρ τ fr fr' cs cs' w w':=
 ⟨[],G n cs,w,_,_,_,ρ,λT d _=>⟨_,e _⟩,j _,.stay n b h a k f,i,.refl _ _ _,λx g=>by simp at g⟩
variable(A:Env Q P)(I:JK (aT Q gl.inner) Q P)
include A
omit A in
def a4n(K:Prop)(Q P:Program)(gl:Scope)(ρ τ:Ren)(fr fr':Frame)(cs cs':List Frame)(s h:Sem Next)(w w':World):Prop:=
 ∃L g v f b a σ,(∀T d,mI L T d->∃i,stepG.apply Q true fr cs none s (re T d w)=.go g (re T (d+L.length) v) i)/\stepG.apply P true fr' cs' none h w'=.go f b a/\GQ K Q P gl σ τ fr fr' cs cs' g f/\
  WR (aT Q gl.inner) Q.globals.size σ v b/\Move ρ σ w w' v b/\∀e∈a,Lj σ e
theorem LW(B:∀c,aT Q gl.inner c->aT Q gl.whole c){s o:Sem Next}(hF:bn Q gl ρ τ fr fr')(V:WR (aT Q gl.inner) Q.globals.size ρ w w')(W:aS w)(U:aG (aT Q gl.inner) Q P (nG (aT Q gl.inner) (a4i gl)) ρ s o)(J:Under c cs)(N:aa9 Q c (stepG.apply Q true fr cs none s) w):
  a4n K Q P gl ρ τ fr fr' cs cs' s o w w':=by
 have hA:qQ Q s w:=qQ.of λT d=>by
  obtain⟨T,d,C,h⟩:=N T d
  exact⟨T,d,C,GM J hF.TN (λx u e=>U.fV A.tables (re T d w) w' (V.re T d) W x u e) h⟩
 obtain⟨L,n,v,σ,n',D,z,r0,S,r2,r3,R,r6⟩:=U.run A.tables w w' #[] V W hA;have k1:(fr.kind==CallKind.early)=false:=by rw[hF.kind];rfl
 have k2:(fr'.kind==CallKind.early)=false:=by obtain e|e:=hF.kind'<;>rw[e]<;>rfl
 have i:o.run P w'=.ok n' D:=by rw[<-Sem.runT_fst P o w' #[],S]
 have k:o.events P w' #[]=z:=by show(o.runT P w' #[]).2=z;rw[S];simp
 have q:∀(g E:Goroutine),(∀T d,mI L T d->∃r,stepG.apply Q true fr cs none s (re T d w)=.go g (re T (d+L.length) v) r)->(∃r,stepG.apply P true fr' cs' none o w'=.go E D r/\∀x∈r,x∈z)->GQ K Q P gl σ τ fr fr' cs cs' g E->a4n K Q P gl ρ τ fr fr' cs cs' s o w w':=
  λg E h⟨O,h',H⟩ho=>⟨L,g,v,E,D,O,σ,h,h',ho,r3,R,λx hm=>r6 x (H x hm)⟩
 have m:∀x∈seen P fr'.fn z++#[],x∈z:=λx H=>Conc.mem_seen (by simpa using H)
 have p:=hF.mono R.le;cases r2 with
 |value u Y J=>
  exact q (G (fr.finish u) cs) (G (fr'.finish Y) cs') (λT d j=>⟨_,sZ⟩) ⟨_,sW,m⟩ (.stay _ _ (p.finish J (Ren.uP _ _)) (dH _ _) (dH _ _) (wG _ _))
 |skip=>
  exact q (G (fr.finish undef) cs) (G (fr'.finish undef) cs') (λT d j=>⟨_,sZ⟩) ⟨_,sW,m⟩ (.stay _ _ (p.finish vH (Ren.uP _ _)) (dH _ _) (dH _ _) (wG _ _))
 |enter f a X C he=>
  have t1:∀T d,mI L T d->∃r,stepG.apply Q true fr cs none s (re T d w)=.go (G (Frame.enter Q f a .normal) (fr::cs)) (re T (d+L.length) v) r:=λT d j=>by
   simp only[stepG.apply,Sem.runT_eq,agr,r0 T d j,k1];have t:=hF.todo;generalize fr'.todo=l' at t;generalize fr.todo=l at t |-;cases t with
   |nil=>exact⟨_,rfl⟩
   |cons h _=>cases h<;>exact⟨_,rfl⟩
  have t2:∃r,stepG.apply P true fr' cs' none o w'=.go (G (Frame.enter P f X .normal) (fr'::cs')) D r/\∀x∈r,x∈z:=by
   simp only[stepG.apply,Sem.runT_eq,agr,i,k,k2];have t:=hF.todo;generalize fr.todo=l at t;generalize fr'.todo=l' at t |-;cases t with
   |nil=>exact⟨_,rfl,m⟩
   |cons h _=>cases h<;>exact⟨_,rfl,m⟩
  exact q _ _ t1 t2 (.enter f a X C he _ _ p (.refl _) (.refl _) (Es rfl rfl))
 |round l l' f Z F a b hl M C j=>
  refine q (G (Frame.round l f Z a b .normal) (fr::cs)) (G (Frame.round l' f F a b .normal) (fr'::cs')) (λT d j=>⟨_,sZ⟩) ⟨_,sW,m⟩ (.push _ _ ?_ rfl _ _ p (.refl _) (.refl _) (Es rfl rfl));exact bn.Re rfl M (.cons (.code a a (.same a (B a C))) (.cons .beginRound (.cons (.code b b (.same b (B b j))) .nil))) .nil (.inl ⟨rfl,rfl⟩) rfl (.inl rfl) (.some l l' hl rfl) rfl rfl
theorem a0N(a:∀c,aT Q gl.inner c->aT Q gl.whole c){s i:Sem Next}(hF:bn Q gl ρ τ fr fr')(p:WR (aT Q gl.inner) Q.globals.size ρ w w')(q:aS w)(m:aG (aT Q gl.inner) Q P (nG (aT Q gl.inner) (a4i gl)) ρ s i)(e:∀w,stepG Q true (G fr cs) w=stepG.apply Q true fr cs none s w)(B:∀w,stepG P main' (G fr' cs') w=stepG.apply P true fr' cs' none i w)(k:Under c cs)(b:LU Q c (G fr cs) w):vI K Q P gl main' ρ τ fr fr' cs cs' w w':=by
 obtain⟨L,g,v,z,j,f,σ,u,t,r⟩:=LW A a hF p q m k (λT d=>by obtain⟨T,d,o,h⟩:=b T d;rw[e]at h;exact⟨T,d,o,h⟩) (cs':=cs')
 exact⟨L,g,v,z,j,f,σ,λT d n=>by rw[e];exact u T d n,by rw[B];exact t,r⟩
omit A in
theorem TQ(fn){tmps d}(s:AR ρ tmps d)(params){a b}(C:aT Q gl.inner a)(B:aT Q gl.inner b){o p}(t:yx gl ρ o p):
  aG (aT Q gl.inner) Q P (λσ x x'=>σ x.1 x'.1 .loop/\qP σ x.2 x'.2) ρ (Instr.enterLoop fn tmps params a b o) (Instr.enterLoop fn d params a b p):=by
 unfold Instr.enterLoop
 have g:∀{σ:Ren}(r f:Nat)(m j:List Deferred),ρ.le σ->σ r f .defs->qP σ m j->aG (aT Q gl.inner) Q P (λσ(x x':Nat×List Deferred)=>σ x.1 x'.1 .loop/\qP σ x.2 x'.2) σ
   (do pure (<-newObj (.loop {state:=.ready,pending:=none,fn,tmps,params,assign:=a,body:=b,defers:=r}),m))
   (do pure (<-newObj (.loop {state:=.ready,pending:=none,fn,tmps:=d,params,assign:=a,body:=b,defers:=f}),j)):=by
  intro σ r f m j e i v;refine aC (rP (.loop _ _ ⟨rfl,rfl,λc h=>(by cases h),rfl,s.mono e,rfl,rfl,C,rfl,B,i⟩) rfl) λτ k n D u=>aj ⟨u,v.mono k⟩
 cases t with
 |none=>
  refine aC (rP .defs rfl) λσ e r f i=> ?_
  exact g r f _ _ e i (.cons ⟨.collected _ _ i,AR.empty⟩ ⟨_,rfl⟩ .nil)
 |some l l' z _=>
  refine aC (xG z) λσ e x x' q=> ?_
  exact g _ _ _ _ e q.defers .nil
omit A in
theorem Rf(d:ρ l l' .loop):aG (aT Q gl.inner) Q P sM ρ (Instr.beginRound l) (Instr.beginRound l'):=by
 unfold Instr.beginRound;refine aC (xG d) λσ b x x' a=> ?_
 rw[<-a.state]
 refine aP (jR (b _ _ _ d) (by simp) rfl (.loop _ _ ⟨rfl,a.pending,a.II,a.fn,a.tmps,a.params,a.assign,a.Gz,a.body,a.QV,a.defers⟩)) λτ e _=> ?_
 cases x.state<;>first|exact aj rfl|exact dZ
omit A in
theorem Xd(d:ρ l l' .loop)(j)(f:∀c,j=some c->aT Q gl.inner c):aG (aT Q gl.inner) Q P VR ρ (Instr.endRound l j) (Instr.endRound l' j):=by
 unfold Instr.endRound;refine aC (xG d) λσ b x x' a=> ?_
 exact aP (jR (b _ _ _ d) (by simp) rfl (.loop _ _ ⟨rfl,rfl,f,a.fn,a.tmps,a.params,a.assign,a.Gz,a.body,a.QV,a.defers⟩)) λτ e _=>aj (.bool _)
omit A in
theorem Pg(b:ρ l l' .loop):aG (aT Q gl.inner) Q P (Dq λj=>∀c,j=some c->aT Q gl.inner c) ρ (Instr.endLoop l) (Instr.endLoop l'):=by
 unfold Instr.endLoop;refine aC (xG b) λσ a x x' q=> ?_
 rw[<-q.state,<-q.pending]
 try dsimp only
 split
 ·exact iB
 ·exact aP (jR (a _ _ _ b) (by simp) rfl (.loop _ _ ⟨rfl,rfl,q.II,q.fn,q.tmps,q.params,q.assign,q.Gz,q.body,q.QV,q.defers⟩)) λτ d _=>aj ⟨rfl,q.II⟩
omit A in
theorem LX(b:ρ l l' .defs):aG (aT Q gl.inner) Q P qP ρ (Instr.takeDeferred l) (Instr.takeDeferred l'):=by
 unfold Instr.takeDeferred;refine aC (gU b) λτ a o h⟨f,e⟩=> ?_
 cases e with
 |defs=>exact aP (jR (a _ _ _ b) (by simp) rfl .taken) λg d _=>aj .nil
 |taken=>exact ak
 |_=>cases f
theorem a0O(j:Func){d b:Array Value}(k:AR ρ d b):aG (aT Q gl.inner) Q P VR ρ (results j d) (results j b):=by
 unfold results;refine aC (F:=AR) ?_ λσ e p o f=> ?_
 ·rw[Array.mapM_eq_mapM_toList,Array.mapM_eq_mapM_toList]
  simp only[map_eq_pure_bind]
  have:∀(l:List ResultVar){σ:Ren},ρ.le σ->aG (aT Q gl.inner) Q P nO σ
    (l.mapM fun
     | .tmp t=>pure (d.getD t undef)
     | .cell a t=>do loadVar t (<-asAddr (d.getD a undef)))
    (l.mapM fun
     | .tmp t=>pure (b.getD t undef)
     | .cell a t=>do loadVar t (<-asAddr (b.getD a undef))):=by
   intro l;induction l with
   |nil=>intro σ _;simp only[List.mapM_nil];exact aj .nil
   |cons r l q=>
    intro σ e;simp only[ah6];refine aC (F:=VR) ?_ λτ h v B s=>aC (q (Ren.le_trans e h)) λz g y n i=>aj (.cons (s.mono g) i)
    cases r with
    |tmp t=>exact aj ((k.mono e).getD t)
    |cell a t=>exact aC (Tx ((k.mono e).getD a)) λ_ _ _ _ u=>O9 A t u
  exact aC (this j.results.toList (Ren.le_refl _)) λ_ _ y n i=>aj i.array
 ·refine aj ?_
  have C:=f.size
  by_cases m:p.size=1
  ·rw[dif_pos m,dif_pos (by omega)]
   exact f.at_ 0 _ _ (ag5 (by omega)) (ag5 (by omega))
  ·rw[dif_neg m,dif_neg (by omega)]
   exact .kZ f
omit A in
theorem IV{k h:Type}{F}{s:Sem k}{f:Sem h}(A:Env Q P)(r:aG (aT Q gl.inner) Q P F ρ s f)(t:WR (aT Q gl.inner) Q.globals.size ρ w w')(u:aS w)(z:qQ Q s w):∃L a v σ j b g,(∀T d,mI L T d->s.run Q (re T d w)=.ok a (re T (d+L.length) v))/\f.run P w'=.ok j b/\f.events P w' #[]=g/\F σ a j/\WR (aT Q gl.inner) Q.globals.size σ v b/\Move ρ σ w w' v b/\∀e∈g,Lj σ e:=by
 obtain⟨L,n,v,σ,q,b,g,r0,i,p,r3,o,m⟩:=r.run A.tables w w' #[] t u z;refine⟨L,n,v,σ,q,b,g,r0,by rw[<-Sem.runT_fst P f w' #[],i],by show(f.runT P w' #[]).2=g;rw[i];simp,p,r3,o,m⟩
def JN:Option Code->Bool
 |none=>true
 |some .ret=>true
 |_=>false
def vJ(Q:Program)(b:Bool)(fr:Frame)(cs:List Frame)(a:Option Code)(w:World):GStep:=
 match fr.roundOf with
 |none=>if JN a then .go (G {fr with mode:=.returning} cs) w else .ended (.stuck "exit, goto: no such block or label" (fr.pos Q)) w
 |some l=>GStep.after (seen Q fr.fn ((Instr.endRound l a).runT Q w #[]).2) (match ((Instr.endRound l a).runT Q w #[]).1 with
  | .ok v w=>doReturn Q b fr cs none v w
  | .halt _ w=>.ended (.stuck "range over a function: no such loop" (fr.pos Q)) w)
omit A in
theorem FP(hF:bn Q gl ρ τ fr fr')(f:fr'.kind=.normal){c e}{r d}(g:cs=c::r)(a:cs'=e::d)(v b)(w'):
  (∀w,doReturn Q true fr cs none v w=.go (G (c.finish v) r) w)/\doReturn P main' fr' cs' none b w'=.go (G (e.finish b) d) w':=by
 subst g a;unfold doReturn
 rw[hF.kind,f]
 exact⟨λ_=>rfl,rfl⟩
theorem a0P(hF:bn Q gl ρ τ fr fr')(F:WR (aT Q gl.inner) Q.globals.size ρ w w')(V:aS w)(p:fr.roundOf=none\/(K/\fr'.kind=.normal/\∃c r q o,cs=c::r/\cs'=q::o))(b:Option Code)(k:∀c,b=some c->aT Q gl.inner c)(z:∀y,mK fr' y)(e:∀w,stepG Q true (G fr cs) w=vJ Q true fr cs b w)(i:∀w,stepG P main' (G fr' cs') w=vJ P main' fr' cs' b w)(m:LU Q c (G fr cs) w):vI K Q P gl main' ρ τ fr fr' cs cs' w w':=by
 have g:=hF.round;unfold vJ at e i;cases j:fr.roundOf with
 |none=>
  have f:fr'.roundOf=none:=by
   rw[j]at g
   generalize fr'.roundOf=O at g;cases g;rfl
  rw[j]at e
  rw[f]at i
  have B:bn Q gl ρ (ρ.or τ) {fr with mode:=.returning} {fr' with mode:=.returning}:=(bn.to (y:={fr with mode:=.returning}) (y':={fr' with mode:=.returning}) hF rfl rfl rfl rfl hF.todo hF.defers (.inr ⟨rfl,rfl⟩) rfl rfl rfl rfl).up;cases k:JN b with
  |true=>exact vI.still F B ⟨rfl,rfl,rfl⟩ ⟨rfl,rfl,rfl⟩ (z _) (λw=>by rw[e];simp only[k,agr,j]) (λw=>by rw[i];simp only[k,agr,f])
  |false=>
   exfalso
   obtain⟨T,d,_,h⟩:=m w.tape w.drawn
   rw[e]at h
   simp only[k,afI,ag6]at h;cases h
 |some l=>
  obtain p|⟨W,p,c,r,q,o,E,n⟩:=p
  ·grind
  obtain⟨l',f,R,Z⟩:∃l',fr'.roundOf=some l'/\ρ l l' .loop/\gl.live=none:=by
   rw[j]at g
   generalize fr'.roundOf=O at g;cases g<;>grind
  rw[j]at e
  rw[f]at i
  simp only[Sem.runT_eq]at e i
  have X:qQ Q (Instr.endRound l b) w:=qQ.of λT d=>by
   obtain⟨T,d,U,h⟩:=m T d;refine⟨T,d,U,?_⟩
   rw[e]at h
   cases t:(Instr.endRound l b).run Q (re T d w)with
   |ok a u=>simp
   |halt a u=>rw[t]at h;cases h
  obtain⟨L,a,v,σ,C,D,Y,r0,N,s,M,r3,J,H⟩:=IV A (Xd R b k) F V X;obtain⟨k1,k2⟩:=FP (Q:=Q) (P:=P) (main':=main') hF p E n a C D;refine⟨L,_,v,G (q.finish C) o,D,seen P fr'.fn Y++#[],σ,λT d S=>⟨_,by rw[e,r0 T d S];simp only[k1];rfl⟩,by rw[i,N,s];simp only[k2];rfl,.pop c q r o W E n a C M,r3,J,λx t=>H x (Conc.mem_seen (by simpa using t))⟩
theorem Xe(hF:bn Q gl ρ τ fr fr')(H:fr.mode=.returning)(q:WR (aT Q gl.inner) Q.globals.size ρ w w')(hN:aS w)(hk:fr.defers=[]->K/\fr'.kind=.normal/\∃c r R N,cs=c::r/\cs'=R::N)(g:gl.live=none)(C:P.funcs[fr.fn]?.map (·.results)=Q.funcs[fr.fn]?.map (·.results))(V:LU Q c (G fr cs) w):vI K Q P gl main' ρ τ fr fr' cs cs' w w':=by
 have F:fr'.mode=.returning:=ahh
 have e:∀w,stepG Q true (G fr cs) w=unwind Q true fr cs none w:=λw=>dQ
 have s:∀w,stepG P main' (G fr' cs') w=unwind P main' fr' cs' none w:=λw=>by simp[stepG,G,F]
 have f:=hF.defers g;cases m:fr.defers with
 |nil=>
  have k:fr'.defers=[]:=by
   rw[m]at f
   generalize fr'.defers=l at f;cases f;rfl
  obtain⟨hK,hk,c,r,R,N,hc,n⟩:=hk m;unfold unwind at e s;simp only[m,H]at e;simp only[k,F,hF.fn]at s;cases hf:Q.funcs[fr.fn]? with
  |none=>
   have J:P.funcs[fr.fn]? =none:=by
    rw[hf]at C
    cases B:P.funcs[fr.fn]? <;>grind
   simp only[hf]at e;simp only[J]at s;obtain⟨k1,k2⟩:=FP (Q:=Q) (P:=P) (main':=main') hF hk hc n (fr.tmps.getD 0 undef) (fr'.tmps.getD 0 undef) w';refine⟨[],_,w,G (R.finish (fr'.tmps.getD 0 undef)) N,w',#[],ρ,λT d _=>⟨_,by rw[e];exact k1 _⟩,by rw[s];exact k2,.pop c R r N hK hc n _ _ ((hF.tmps g).getD 0),q,.refl _ _ _,λx B=>by simp at B⟩
  |some X=>
   obtain⟨p,J,U⟩:∃p,P.funcs[fr.fn]? =some p/\p.results=X.results:=by
    rw[hf]at C
    cases B:P.funcs[fr.fn]? <;>grind
   simp only[hf,Sem.runT_eq]at e;have j:results p=results X:=by unfold results;rw[U]
   simp only[J,j,Sem.runT_eq]at s
   have hA:qQ Q (results X fr.tmps) w:=qQ.of λT d=>by
    obtain⟨T,d,ha,h⟩:=V T d;refine⟨T,d,ha,?_⟩
    rw[e]at h
    cases B:(results X fr.tmps).run Q (re T d w)with
    |ok a u=>simp
    |halt a u=>
     rw[B]at h
     cases a<;>cases h
   obtain⟨L,a,v,σ,Y,Z,ev,r0,r1,E,r2,r3,S,r6⟩:=IV A (a0O A X (hF.tmps g)) q hN hA;obtain⟨k1,k2⟩:=FP (Q:=Q) (P:=P) (main':=main') hF hk hc n a Y Z;refine⟨L,_,v,G (R.finish Y) N,Z,seen P fr.fn ev++#[],σ,λT d D=>⟨_,by rw[e,r0 T d D];simp only[k1];rfl⟩,by rw[s,r1,E];simp only[k2];rfl,.pop c R r N hK hc n a Y r2,r3,S,λx B=>r6 x (Conc.mem_seen (by simpa using B))⟩
 |cons d ds=>
  obtain⟨O,z,k,hdd,⟨b,D⟩,hds⟩:∃O z,fr'.defers=O::z/\a3X ρ d O/\(∃b,d.target=.collected b)/\qP ρ ds z:=by
   rw[m]at f
   generalize fr'.defers=l at f;cases f<;>grind
  obtain⟨b',W,hbb⟩:∃b',O.target=.collected b'/\ρ b b' .defs:=by
   have:=hdd.target
   rw[D]at this
   generalize O.target=t at this;cases this<;>grind
  obtain⟨tg,args⟩:=d;obtain⟨tg',args'⟩:=O;dsimp only at D W;subst D W;unfold unwind at e s;simp only[m,Sem.runT_eq]at e;simp only[k,Sem.runT_eq]at s
  have hA:qQ Q (Instr.takeDeferred b) w:=qQ.of λT d=>by
   obtain⟨T,d,ha,h⟩:=V T d;refine⟨T,d,ha,?_⟩
   rw[e]at h
   cases B:(Instr.takeDeferred b).run Q (re T d w)with
   |ok a u=>simp
   |halt a u=>rw[B]at h;cases h
  obtain⟨L,a,v,σ,Y,Z,ev,r0,r1,E,r2,r3,S,r6⟩:=IV A (LX hbb) q hN hA;have M:=hF.mono S.le;refine⟨L,G {fr with defers:=a++ds} cs,v,G {fr' with defers:=Y++z} cs',Z,seen P fr'.fn ev++#[],σ,λT d D=>⟨_,by rw[e,r0 T d D];rfl⟩,by rw[s,r1,E];rfl,.stay _ _ ?_ ⟨rfl,rfl,rfl⟩ ⟨rfl,rfl,rfl⟩ (LV F _),r3,S,λx B=>r6 x (Conc.mem_seen (by simpa using B))⟩;exact M.to rfl rfl rfl rfl M.todo (λ_=>r2.append (hds.mono S.le)) M.mode rfl rfl rfl rfl (λh=>absurd g h)
omit A in
theorem a0Q(h:bn Q gl ρ τ fr fr')(f:GN Q gl ops ops')(j):yielded ops' fr'.tmps j=yielded ops fr.tmps j:=by
 unfold yielded
 rw[f.dst j]
 cases I:(ops[j]?).bind (·.dst)with
 |none=>rfl
 |some d=>
  simp only[Option.bind_some];have b:gl.qR d=true:=f.live I;cases e:fr.tmps[d]? with
  |none=>rw[h.full.none e]
  |some v=>
   obtain⟨i,g,_⟩:=h.full.get e;have a:=h.live d b
   rw[afM,afM,e,g]at a
   simp only[Option.getD_some]at a
   rw[g]
   cases a<;>grind[hard,kJ]
omit A in
theorem JO(a)(s:GStep){x}{v}{f}(h:s=.go x v f):s.after a=.go x v (a++f):=by rw[h];rfl
omit A in
theorem qj(g)(f)(e)(a b)(o)(T)(d)(w):
  (Instr.enterLoop g f e a b o).run Q (re T d w)=match (Instr.enterLoop g f e a b o).run Q w with
   | .ok x v=>.ok x (re T d v)
   | .halt h v=>.halt h (re T d v):=by
 unfold Instr.enterLoop;cases o with
 |none=>rfl
 |some l=>
  simp only[Instr.getLoop,Sem.run_bind,getObj,Sem.run,show(re T d w).heap=w.heap from rfl];cases w.heap[l]? with
  |none=>rfl
  |some x=>cases x<;>rfl
theorem a7L(hin:∀c,aT Q gl.inner c->aT Q gl.whole c)(I:JK (aT Q gl.inner) Q P)(hV:∀f,Special.val f=true->∀k,gl.may f k=true)(hg:∀g,gl.gl.contains g=true->ρ g g .cells)(hF:bn Q gl ρ τ fr fr')(H:fr.mode=.run)(q:WR (aT Q gl.inner) Q.globals.size ρ w w')(hN:aS w)(hk:fr.roundOf=none\/(K/\fr'.kind=.normal/\∃c r c' r',cs=c::r/\cs'=c'::r'))(hsp:∀c c' k J,fr.todo=.code c::k->fr'.todo=.code c'::J->¬Special.sp gl.live c c')(hu:Under c cs)(hgo:LU Q c (G fr cs) w):vI K Q P gl main' ρ τ fr fr' cs cs' w w':=by
 have hm':fr'.mode=.run:=by
  obtain⟨_,h⟩|⟨h,_⟩:=hF.mode
  ·exact h
  ·rw[H]at h;cases h
 have e:∀w,stepG Q true (G fr cs) w=stepG.exec Q true true fr cs none w:=λw=>dQ
 have e':∀w,stepG P main' (G fr' cs') w=stepG.exec P main' true fr' cs' none w:=λw=>by simp[stepG,G,hm']
 have htodo:=hF.todo;have to:∀l l',pQ Q gl ρ l l'->bn Q gl ρ (ρ.or τ) {fr with todo:=l} {fr' with todo:=l'}:=λl l' h=>(bn.to (y:={fr with todo:=l}) (y':={fr' with todo:=l'}) hF rfl rfl rfl rfl h hF.defers hF.mode rfl rfl rfl rfl).up
 have z:∀l l',pQ Q gl ρ l l'->mK fr' {fr' with todo:=l'}->(∀w,stepG.exec Q true true fr cs none w=.go (G {fr with todo:=l} cs) w)->(∀w,stepG.exec P main' true fr' cs' none w=.go (G {fr' with todo:=l'} cs') w)->vI K Q P gl main' ρ τ fr fr' cs cs' w w':=
  λl l' h kp k J=>vI.still q (to l l' h) ⟨rfl,rfl,rfl⟩ ⟨rfl,rfl,rfl⟩ kp (λw=>by rw[e,k]) (λw=>by rw[e',J])
 have Z:∀V,(∀c,V=some c->aT Q gl.inner c)->(∀y,mK fr' y)->(∀w,stepG.exec Q true true fr cs none w=vJ Q true fr cs V w)->(∀w,stepG.exec P main' true fr' cs' none w=vJ P main' fr' cs' V w)->vI K Q P gl main' ρ τ fr fr' cs cs' w w':=
  λV n hnk k J=>a0P A hF q hN hk V n hnk (λw=>by rw[e,k]) (λw=>by rw[e',J]) hgo
 have U:∀{o:Outcome},(∀w,stepG.exec Q true true fr cs none w=.ended o w)->vI K Q P gl main' ρ τ fr fr' cs cs' w w':=λk=>by
  exfalso
  obtain⟨T,d,_,h⟩:=hgo w.tape w.drawn
  rw[e,k]at h
  cases h
 have apply:∀{s s':Sem Next},aG (aT Q gl.inner) Q P (nG (aT Q gl.inner) (a4i gl)) ρ s s'->(∀w,stepG.exec Q true true fr cs none w=stepG.apply Q true fr cs none s w)->(∀w,stepG.exec P main' true fr' cs' none w=stepG.apply P true fr' cs' none s' w)->vI K Q P gl main' ρ τ fr fr' cs cs' w w':=
  λhs k J=>a0N A hin hF q hN hs (λw=>by rw[e,k]) (λw=>by rw[e',J]) hu hgo
 have S:=hF.eval hg;generalize p:fr.todo=L at htodo;generalize m:fr'.todo=L' at htodo;cases htodo with
 |nil=>exact Z none (λc h=>by cases h) (TP m) (λw=>by simp only[stepG.exec,p,vJ,JN];rfl) (λw=>by simp only[stepG.exec,m,vJ,JN];rfl)
 |@cons x x' k J M R=>
  cases M with
  |inBlock id=>exact z k J R (cZ (new:=[]) m rfl rfl (λc h=>by cases h) λ_ j n=>by cases n) (λw=>bD) (λw=>df)
  |inScope c c' O=>exact z k J R (cZ (new:=[]) m rfl rfl (λc h=>by cases h) λ_ j n=>by cases n) (λw=>bD) (λw=>df)
  |inLoop c c' O=>exact z (.code c::.inLoop c::k) (.code c'::.inLoop c'::J) (.cons (.code c c' O) (.cons (.inLoop c c' O) R)) (a0M m rfl rfl) (λw=>bD) (λw=>df)
  |inRangeFunc l l' h=>exact U (λw=>bD)
  |beginRound=>
   have hr:=hF.round;refine apply (s:=do fr.roundOf.elim (stuck "beginRound: no round") Instr.beginRound;pure .skip) (s':=do fr'.roundOf.elim (stuck "beginRound: no round") Instr.beginRound;pure .skip) ?_ (λw=>by simp only[stepG.exec,p]) (λw=>by simp only[stepG.exec,m]);generalize fr.roundOf=o at hr |-;generalize fr'.roundOf=o' at hr |-;cases hr with
   |none=>exact bE (bH (aZ _))
   |some l l' h=>exact aP (Rf h) λ_ _ _=>aj .skip
  |endRangeFunc l l' h hwl=>
   have hA:qQ Q (Instr.endLoop l) w:=qQ.of λT d=>by
    obtain⟨T,d,ha,hh⟩:=hgo T d;refine⟨T,d,ha,?_⟩
    rw[e]at hh
    simp only[stepG.exec,p,Sem.runT_eq]at hh;cases B:(Instr.endLoop l).run Q (re T d w)with
    |ok a u=>exact .inl ⟨a,u,rfl⟩
    |halt a u=>
     rw[B]at hh
     exfalso
     have hh:=hh.after;have hNu:=(Pg (Q:=Q) (P:=P) (gl:=gl) h).fV A.tables (re T d w) w' (q.re T d) hN _ _ B;cases a with
     |panic y=>exact absurd (hu.raise hF.TN hNu _) hh
     |_=>exact hh.elim
   obtain⟨L,a,v,σ,X,v',ev,r0,r1,r1',r2,r3,r5,r6⟩:=IV A (Pg h) q hN hA;obtain⟨rfl,n⟩:=r2;have hF':=hF.mono r5.le;have hl':=R.mono r5.le;refine⟨L,G {fr with todo:=(a.map Item.code).toList++k} cs,v,G {fr' with todo:=(a.map Item.code).toList++J} cs',v',seen P fr'.fn ev++#[],σ,?_,?_,.stay _ _ ?_ ⟨rfl,rfl,rfl⟩ ⟨rfl,rfl,rfl⟩ (kz m (λc h=>by cases h) rfl _),r3,r5,λx B=>r6 x (Conc.mem_seen (by simpa using B))⟩
   ·refine λT d D=>⟨seen Q fr.fn ((Instr.endLoop l).events Q (re T d w) #[])++#[],?_⟩
    rw[e];simp only[stepG.exec,p,Sem.runT_eq,r0 T d D];rfl
   ·rw[e'];simp only[stepG.exec,m,Sem.runT_eq,r1,r1'];rfl
   ·refine hF'.to rfl rfl rfl rfl ?_ hF'.defers hF'.mode rfl rfl rfl rfl
    replace n:∀c,a=some c->aT Q gl c:=λc h=>(aT.whole hwl).1 (hin c (n c h))
    cases a with
    |none=>exact hl'
    |some c=>exact .cons (.code c c (.same c (n c rfl))) hl'
  |inRegion ops ops' l C=>
   cases l with
   |nil=>exact z k J R (cZ (new:=[]) m rfl rfl (λc h=>by cases h) λ_ j n=>by cases n) (λw=>bD) (λw=>df)
   |cons i rest=>
    have E:yielded ops' fr'.tmps=yielded ops fr.tmps:=funext λj=>a0Q hF C j
    have hwt:((ops'[i]?).map (Region.wanted · (yielded ops fr.tmps))).getD false=((ops[i]?).map (Region.wanted · (yielded ops fr.tmps))).getD false:=by
     cases e0:ops[i]? with
     |none=>rw[C.out e0]
     |some o=>
      obtain⟨o',e0',h0,_⟩:=C.at_ i o e0
      rw[e0',agy,agy,h0.dst.2.2]
    cases hw:((ops[i]?).map (Region.wanted · (yielded ops fr.tmps))).getD false with
    |false=>
     refine vI.still q (hF.up.finish vH (Ren.uP _ _)) (dH _ _) (dH _ _) (wG _ _) (λw=> ?_) (λw=> ?_)
     ·rw[e];simp only[stepG.exec,p,hw,afI,ag6];rfl
     ·rw[e'];simp only[stepG.exec,m,E,hwt,hw,afI,ag6];rfl
    |true=>
     cases hoi:ops[i]? with
     |none=>rw[hoi]at hw;cases hw
     |some op=>
      obtain⟨Y,abR,W,_⟩:=C.at_ i op hoi;have hr:=hF.round;have hw':=hw
      rw[hoi]at hw'
      have hw2:((some Y).map (Region.wanted · (yielded ops fr.tmps))).getD false=true:=by rw[<-abR,hwt];exact hw
      have k1:∀w,stepG.exec Q true true fr cs none w=(match fr.roundOf,op.op with
        |some l,.defer c=>stepG.apply Q true fr cs none (do Instr.deferInRound l (<-resolve fr.eval c op.type);pure .skip) w
        |_,_=>stepG.apply Q true fr cs none (execOp fr.eval op) w):=λw=>by
       simp only[stepG.exec,p,hoi,hw',agr,stepG.oper,Frame.oper?];rfl
      have k2:∀w,stepG.exec P main' true fr' cs' none w=(match fr'.roundOf,Y.op with
        |some l,.defer c=>stepG.apply P true fr' cs' none (do Instr.deferInRound l (<-resolve fr'.eval c Y.type);pure .skip) w
        |_,_=>stepG.apply P true fr' cs' none (execOp fr'.eval Y) w):=λw=>by
       simp only[stepG.exec,m,abR,E,hw2,agr,stepG.oper,Frame.oper?];rfl
      have plain:∀(o:Option Nat)(o':Option Nat),yx gl ρ o o'->fr.roundOf=o->fr'.roundOf=o'->vI K Q P gl main' ρ τ fr fr' cs cs' w w':=by
       intro o o' hoo h1 h2
       rw[h1]at k1
       rw[h2]at k2
       cases hoo with
       |none=>exact apply (Pe A I (λ_ _ h=>h) hV (λf=>⟨rfl,rfl⟩) S W) k1 k2
       |some l l' R=>
        have hdf:¬∃c,op.op=.defer c:=λ⟨c,hdf⟩=>by
         cases W with
         |same _ W=>
          unfold opB at W
          rw[hdf]at W
          simp at W
         |data _ t args ts C _ _ _=>rw[show({Y with type:=t}:Oper).op=Y.op from rfl,C]at hdf;cases hdf
        have adJ:¬∃c,Y.op=.defer c:=by rw[W.dst.2.1];exact hdf
        refine apply (Pe A I (λ_ _ h=>h) hV (λf=>⟨rfl,rfl⟩) S W) (λw=> ?_) (λw=> ?_)
        ·rw[k1];split
         ·rename_i h;exact absurd ⟨_,h⟩ hdf
         ·rfl
        ·rw[k2];split
         ·rename_i h;exact absurd ⟨_,h⟩ adJ
         ·rfl
      exact plain _ _ hr rfl rfl
  |code c c' O=>
   cases O with
   |sp c c' h=>exact absurd h (hsp c c' k J p m)
   |seq h1 h2=>exact z (.code _::.code _::k) (.code _::.code _::J) (.cons (.code _ _ h1) (.cons (.code _ _ h2) R)) (cZ (new:=[.code _,.code _]) m rfl rfl (λc h=>by cases h) λN j n=>ag') (λw=>bD) (λw=>df)
   |block id h=>exact z (.code _::.inBlock id::k) (.code _::.inBlock id::J) (.cons (.code _ _ h) (.cons (.inBlock id) R)) (cZ (new:=[.code _,.inBlock id]) m rfl rfl (λc h=>by cases h) λN j n=>ag') (λw=>bD) (λw=>df)
   |loop h=>exact z (.code _::.inLoop _::k) (.code _::.inLoop _::J) (.cons (.code _ _ h) (.cons (.inLoop _ _ h) R)) (cZ (new:=[.code _,.inLoop _]) m rfl rfl (λc h=>by cases h) λN j n=>ag') (λw=>bD) (λw=>df)
   |scope h=>exact z (.code _::.inScope _::k) (.code _::.inScope _::J) (.cons (.code _ _ h) (.cons (.inScope _ _ h) R)) (cZ (new:=[.code _,.inScope _]) m rfl rfl (λc h=>by cases h) λN j n=>ag') (λw=>bD) (λw=>df)
   |@cond x a X b b' hx0 h1 h2=>
    have hv:=S.at_ x hx0;generalize B:fr.eval x=u at hv;generalize hx':fr'.eval x=u' at hv;cases hv with
    |bool t=>exact z (.code (if t then a else b)::k) (.code (if t then X else b')::J) (.cons (.code _ _ (by cases t<;>first|exact h1|exact h2)) R) (cZ (new:=[.code (if t then X else b')]) m rfl rfl (λc h=>by cases h) λN j n=>Ad) (λw=>oh) (λw=>by simp only[stepG.exec,m,hx'];rfl)
    |_=>exact U (λw=>oh)
   |@region id ops ops' draw C=>
    cases draw with
    |false=>exact z (.inRegion ops (List.range ops.size)::k) (.inRegion ops' (List.range ops.size)::J) (.cons (.inRegion _ _ _ C) R) (cZ (new:=[.inRegion ops' (List.range ops.size)]) m rfl rfl (λc h=>by cases h) λ_ j n=>lI) (λw=>bD) (λw=>by simp only[stepG.exec,m];rw[<-C.size];rfl)
    |true=>
     have hr1:∀w,∃t v,(choose (.order fr.fn id)).run Q w=.ok t v/\v={w with drawn:=w.drawn+1}/\t=w.tape w.drawn (.order fr.fn id):=λw=>⟨_,_,rfl,rfl,rfl⟩
     have hfl:P.follows .mixedOrders=Q.follows .mixedOrders:=A.follows _;have aaa:∀t,bn Q gl ρ (ρ.or τ) {fr with todo:=.inRegion ops (Region.schedule (Q.follows .mixedOrders) ops t)::k} {fr' with todo:=.inRegion ops' (Region.schedule (Q.follows .mixedOrders) ops t)::J}:=λt=>to _ _ (.cons (.inRegion _ _ _ C) R)
     refine⟨[λ_=>w'.tape w'.drawn (.order fr.fn id)],G {fr with todo:=.inRegion ops (Region.schedule (Q.follows .mixedOrders) ops (w'.tape w'.drawn (.order fr.fn id)))::k} cs,w,
      G {fr' with todo:=.inRegion ops' (Region.schedule (Q.follows .mixedOrders) ops (w'.tape w'.drawn (.order fr.fn id)))::J} cs',{w' with drawn:=w'.drawn+1},#[],ρ,?_,?_,.stay _ _ (aaa _) ⟨rfl,rfl,rfl⟩ ⟨rfl,rfl,rfl⟩ (cZ (new:=[.inRegion ops' (Region.schedule (Q.follows .mixedOrders) ops (w'.tape w'.drawn (.order fr.fn id)))]) m rfl rfl (λc h=>by cases h) λ_ j n=>lI),⟨q.low,q.big,q.Dl,q.left,q.right,q.obj,⟨⟨q.held.calm.Tj,q.held.calm.still,q.held.calm.os,q.held.calm.out⟩,q.held.seen,q.held.Li⟩⟩,⟨λ_ _ _ h=>h,λ_ _ _ h=>.inl h,λb h1 h2=>absurd h2 (Nat.not_lt.2 h1),afA _,afA _,λ_ _ _=>rfl,λ_ _ _=>rfl,λ_ _ h _=>h,λ_ _ h _=>h,λ_ _ _ _ _ _ h _=>⟨h,rfl⟩,rfl,rfl,rfl,rfl⟩,λx B=>by simp at B⟩
     ·refine λT d D=>⟨#[],?_⟩
      have ht:T d (.order fr.fn id)=w'.tape w'.drawn (.order fr.fn id):=congrFun D.1 _
      rw[e,<-ht];exact bD
     ·rw[e'];simp only[stepG.exec,m,hF.fn,hfl,<-C.sched];rfl
   |same c O=>
   unfold aT at O;cases c with
   |skip=>exact z k J R (cZ (new:=[]) m rfl rfl (λc h=>by cases h) λ_ j n=>by cases n) (λw=>bD) (λw=>df)
   |label l=>exact z k J R (kz m (λc h=>by cases h) rfl _) (λw=>bD) (λw=>df)
   |ret=>exact Z (some .ret) (λc h=>by cases h;rfl) (kz m (λc h=>by cases h) rfl) (λw=>by simp only[stepG.exec,p,vJ,JN];rfl) (λw=>by simp only[stepG.exec,m,vJ,JN];rfl)
   |seq a b=>
    simp only[iX,afQ]at O;exact z (.code a::.code b::k) (.code a::.code b::J) (.cons (.code a a (.same a O.1)) (.cons (.code b b (.same b O.2)) R)) (cZ (new:=[.code a,.code b]) m rfl rfl (λc h=>by cases h) λN j n=>ag') (λw=>bD) (λw=>df)
   |block id b=>
    simp only[iX]at O;exact z (.code b::.inBlock id::k) (.code b::.inBlock id::J) (.cons (.code b b (.same b O)) (.cons (.inBlock id) R)) (cZ (new:=[.code b,.inBlock id]) m rfl rfl (λc h=>by cases h) λN j n=>ag') (λw=>bD) (λw=>df)
   |loop b=>
    simp only[iX]at O;exact z (.code b::.inLoop b::k) (.code b::.inLoop b::J) (.cons (.code b b (.same b O)) (.cons (.inLoop b b (.same b O)) R)) (cZ (new:=[.code b,.inLoop b]) m rfl rfl (λc h=>by cases h) λN j n=>ag') (λw=>bD) (λw=>df)
   |scope b=>
    simp only[iX]at O;exact z (.code b::.inScope b::k) (.code b::.inScope b::J) (.cons (.code b b (.same b O)) (.cons (.inScope b b (.same b O)) R)) (cZ (new:=[.code b,.inScope b]) m rfl rfl (λc h=>by cases h) λN j n=>ag') (λw=>bD) (λw=>df)
   |cond c a b=>
    simp only[iX,afQ]at O;have hv:=S.at_ c O.1.1;generalize B:fr.eval c=u at hv;generalize hx':fr'.eval c=u' at hv;cases hv with
    |bool t=>exact z (.code (if t then a else b)::k) (.code (if t then a else b)::J) (.cons (.code _ _ (.same _ (by cases t<;>first|exact O.1.2|exact O.2))) R) (cZ (new:=[.code (if t then a else b)]) m rfl rfl (λc h=>by cases h) λN j n=>Ad) (λw=>oh) (λw=>by simp only[stepG.exec,m,hx'];rfl)
    |_=>exact U (λw=>oh)
   |exit id=>
    obtain⟨h1,h2⟩|⟨l,l',h1,h2,h3⟩:=a4m id R
    ·exact Z (some (.exit id)) (λc h=>by cases h;rfl) (kz m (λc h=>by cases h) rfl) (λw=>by simp only[stepG.exec,p,h1,vJ,JN];rfl) (λw=>by simp only[stepG.exec,m,h2,vJ,JN];rfl)
    ·exact z l l' h3 (kz m (λc h=>by cases h) rfl _) (λw=>by simp only[stepG.exec,p,h1];rfl) (λw=>by simp only[stepG.exec,m,h2];rfl)
   |goto l=>simp[iX]at O
   |refuse s=>exact U (λw=>bD)
   |region id ops draw=>
    simp only[iX]at O;have C:=GN.refl O;cases draw with
    |false=>exact z (.inRegion ops (List.range ops.size)::k) (.inRegion ops (List.range ops.size)::J) (.cons (.inRegion _ _ _ C) R) (cZ (new:=[.inRegion ops (List.range ops.size)]) m rfl rfl (λc h=>by cases h) λ_ j n=>lI) (λw=>bD) (λw=>by simp only[stepG.exec,m];rw[<-C.size];rfl)
    |true=>
     have hr1:∀w,∃t v,(choose (.order fr.fn id)).run Q w=.ok t v/\v={w with drawn:=w.drawn+1}/\t=w.tape w.drawn (.order fr.fn id):=λw=>⟨_,_,rfl,rfl,rfl⟩
     have hfl:P.follows .mixedOrders=Q.follows .mixedOrders:=A.follows _;have aaa:∀t,bn Q gl ρ (ρ.or τ) {fr with todo:=.inRegion ops (Region.schedule (Q.follows .mixedOrders) ops t)::k} {fr' with todo:=.inRegion ops (Region.schedule (Q.follows .mixedOrders) ops t)::J}:=λt=>to _ _ (.cons (.inRegion _ _ _ C) R)
     refine⟨[λ_=>w'.tape w'.drawn (.order fr.fn id)],G {fr with todo:=.inRegion ops (Region.schedule (Q.follows .mixedOrders) ops (w'.tape w'.drawn (.order fr.fn id)))::k} cs,w,
      G {fr' with todo:=.inRegion ops (Region.schedule (Q.follows .mixedOrders) ops (w'.tape w'.drawn (.order fr.fn id)))::J} cs',{w' with drawn:=w'.drawn+1},#[],ρ,?_,?_,.stay _ _ (aaa _) ⟨rfl,rfl,rfl⟩ ⟨rfl,rfl,rfl⟩ (cZ (new:=[.inRegion ops (Region.schedule (Q.follows .mixedOrders) ops (w'.tape w'.drawn (.order fr.fn id)))]) m rfl rfl (λc h=>by cases h) λ_ j n=>lI),⟨q.low,q.big,q.Dl,q.left,q.right,q.obj,⟨⟨q.held.calm.Tj,q.held.calm.still,q.held.calm.os,q.held.calm.out⟩,q.held.seen,q.held.Li⟩⟩,⟨λ_ _ _ h=>h,λ_ _ _ h=>.inl h,λb h1 h2=>absurd h2 (Nat.not_lt.2 h1),afA _,afA _,λ_ _ _=>rfl,λ_ _ _=>rfl,λ_ _ h _=>h,λ_ _ h _=>h,λ_ _ _ _ _ _ h _=>⟨h,rfl⟩,rfl,rfl,rfl,rfl⟩,λx B=>by simp at B⟩
     ·refine λT d D=>⟨#[],?_⟩
      have ht:T d (.order fr.fn id)=w'.tape w'.drawn (.order fr.fn id):=congrFun D.1 _
      rw[e,<-ht];exact bD
     ·rw[e'];simp only[stepG.exec,m,hF.fn,hfl,<-C.sched];rfl
   |rangeFunc f F a b=>
    simp only[iX,afQ,agC]at O;obtain⟨⟨⟨hwl,hcf⟩,hca⟩,hcb⟩:=O;have hs1:=TQ (Q:=Q) (P:=P) (gl:=gl) fr.fn (hF.tmps hwl) F (a:=a) (b:=b) hca hcb hF.round
    have k1:∀w,stepG.exec Q true true fr cs none w=GStep.after (seen Q fr.fn ((Instr.enterLoop fr.fn fr.tmps F a b fr.roundOf).events Q w #[])) (match (Instr.enterLoop fr.fn fr.tmps F a b fr.roundOf).run Q w with
      | .ok x w=>stepG.apply Q true {fr with todo:=.inRangeFunc x.1::k,defers:=x.2++fr.defers} cs none (do let d <-resolve (Frame.eval {fr with todo:=.inRangeFunc x.1::k,defers:=x.2++fr.defers}) {callee:=.value f,args:=#[.const (.func (.yield x.1) #[] #[])],argTypes:=#[]} 0;invoke d.target d.args) w
      | .halt _ w=>.ended (.stuck "range over a function: no such loop" (fr.pos Q)) w):=λw=>by
     simp only[stepG.exec,p,Sem.runT_eq];cases (Instr.enterLoop fr.fn fr.tmps F a b fr.roundOf).run Q w<;>rfl
    have k2:∀w,stepG.exec P main' true fr' cs' none w=GStep.after (seen P fr'.fn ((Instr.enterLoop fr'.fn fr'.tmps F a b fr'.roundOf).events P w #[])) (match (Instr.enterLoop fr'.fn fr'.tmps F a b fr'.roundOf).run P w with
      | .ok x w=>stepG.apply P true {fr' with todo:=.inRangeFunc x.1::J,defers:=x.2++fr'.defers} cs' none (do let d <-resolve (Frame.eval {fr' with todo:=.inRangeFunc x.1::J,defers:=x.2++fr'.defers}) {callee:=.value f,args:=#[.const (.func (.yield x.1) #[] #[])],argTypes:=#[]} 0;invoke d.target d.args) w
      | .halt _ w=>.ended (.stuck "range over a function: no such loop" (fr'.pos P)) w):=λw=>by
     simp only[stepG.exec,m,Sem.runT_eq];cases (Instr.enterLoop fr'.fn fr'.tmps F a b fr'.roundOf).run P w<;>rfl
    cases B:(Instr.enterLoop fr.fn fr.tmps F a b fr.roundOf).run Q w with
    |halt h u=>
     exfalso
     obtain⟨T,d,_,h⟩:=hgo w.tape w.drawn
     rw[e,k1,qj,B]at h
     cases h
    |ok x v0=>
     have hA:qQ Q (Instr.enterLoop fr.fn fr.tmps F a b fr.roundOf) w:=λT d=>.inl ⟨x,re T d v0,by rw[qj,B]⟩
     obtain⟨L,a1,v,σ,X,v',ev,r0,r1,r1',⟨r2,r2'⟩,r3,r5,r6⟩:=IV A hs1 q hN hA;obtain⟨T0,hT0⟩:=JM L;have r0:=r0 T0 0 hT0
     rw[qj,B]at r0
     simp only[Result.ok.injEq]at r0;obtain⟨rfl,r00⟩:=r0
     have hM:Move ρ σ w w' v0 v':=by
      have:=(r5.re T0 (0+L.length)).re v0.tape v0.drawn
      rw[<-r00]at this
      exact this
     have hW1:WR (aT Q gl.inner) Q.globals.size σ v0 v':=by
      have:=(r3.re T0 (0+L.length)).re v0.tape v0.drawn
      rw[<-r00]at this
      exact this
     have hF':=hF.mono r5.le
     have hF1:bn Q gl σ (σ.or τ) {fr with todo:=.inRangeFunc x.1::k,defers:=x.2++fr.defers} {fr' with todo:=.inRangeFunc X.1::J,defers:=X.2++fr'.defers}:=
      hF'.to rfl rfl rfl rfl (.cons (.inRangeFunc _ _ r2 hwl) (R.mono r5.le)) (λ_=>r2'.append (hF'.defers hwl)) hF'.mode rfl rfl rfl rfl (λh=>absurd hwl h)
     have hg':∀g,gl.gl.contains g=true->σ g g .cells:=λg h=>r5.le _ _ _ (hg g h)
     have hv:=(hF1.eval hg').at_ f hcf
     have hs2:aG (aT Q gl.inner) Q P (nG (aT Q gl.inner) (a4i gl)) σ
       (do let d <-resolve (Frame.eval {fr with todo:=.inRangeFunc x.1::k,defers:=x.2++fr.defers}) {callee:=.value f,args:=#[.const (.func (.yield x.1) #[] #[])],argTypes:=#[]} 0;invoke d.target d.args)
       (do let d <-resolve (Frame.eval {fr' with todo:=.inRangeFunc X.1::J,defers:=X.2++fr'.defers}) {callee:=.value f,args:=#[.const (.func (.yield X.1) #[] #[])],argTypes:=#[]} 0;invoke d.target d.args):=by
      unfold resolve;dsimp only;unfold Deferred.ofValue;generalize Frame.eval {fr with todo:=.inRangeFunc x.1::k,defers:=x.2++fr.defers} f=u at hv |-;generalize Frame.eval {fr' with todo:=.inRangeFunc X.1::J,defers:=X.2++fr'.defers} f=u' at hv |-;have E:VR σ (.func (.yield x.1) #[] #[]) (.func (.yield X.1) #[] #[]):=.func _ _ _ _ _ _ (.yield _ _ r2) rfl (λi v v' e=>by simp at e) rfl (λi v v' e=>by simp at e);have hyy:AR σ (#[Operand.const (.func (.yield x.1) #[] #[])].map (Frame.eval {fr with todo:=.inRangeFunc x.1::k,defers:=x.2++fr.defers})) (#[Operand.const (.func (.yield X.1) #[] #[])].map (Frame.eval {fr' with todo:=.inRangeFunc X.1::J,defers:=X.2++fr'.defers})):=by simpa[Frame.eval]using AR.single E
      cases hv with
      |func g g' b b' c c' hgg h1 h2 h3 h4=>exact Dv A I hV (t:=.fn g c) (t':=.fn g' c') (.fn _ _ _ _ hgg ⟨h3,h4⟩) rfl (AR.append ⟨h1,h2⟩ hyy)
      |nilFunc=>exact Dv A I hV (t:=.nil) (t':=.nil) .nil rfl hyy
      |lost _ _=>exact bE (JL "" #[u'] _)
      |_=>exact bE (bH (aZ _))
     obtain⟨L2,g,v2,g',v2',es',υ,q1,q2,q3,q4,q5,q6⟩:=LW A hin (cs:=cs) (cs':=cs') hF1 hW1 (hM.noPending hW1 hN) hs2 hu (λT d=>by
      obtain⟨T,d,ha,h⟩:=hgo T d
      rw[e,k1,qj,B]at h
      exact⟨T,d,ha,h.after⟩)
     refine⟨L2,g,v2,g',v2',seen P fr'.fn ev++es',υ,?_,?_,GQ.of (fr:={fr with todo:=.inRangeFunc x.1::k,defers:=x.2++fr.defers}) (fr':={fr' with todo:=.inRangeFunc X.1::J,defers:=X.2++fr'.defers}) ⟨rfl,rfl,rfl⟩ ⟨rfl,rfl,rfl⟩ (kz m (λc h=>by cases h) rfl) (q3.any hwl),q4,hM.trans q5,λy E=> ?_⟩
     ·refine λT d D=> ?_
      obtain⟨es,q1⟩:=q1 T d D;refine⟨seen Q fr.fn ((Instr.enterLoop fr.fn fr.tmps F a b fr.roundOf).events Q (re T d w) #[])++es,?_⟩
      rw[e,k1,qj,B]
      exact JO _ _ q1
     ·have hfn:=hF.fn
      rw[<-hfn]at r1 r1'
      rw[e',k2,r1,r1']
      exact JO _ _ q2
     ·obtain E|E:=agO.1 E
      ·exact(r6 y (Conc.mem_seen E)).mono q5.le
      ·exact q6 y E
end
end
end Go.Proofs.Zb
