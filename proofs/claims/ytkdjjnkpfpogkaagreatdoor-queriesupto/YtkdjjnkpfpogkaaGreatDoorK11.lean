import Derived.Conc.Beside
import Derived.Conc.CrowdComm
import Derived.Test.YtkdjjnkpfpogkaaGreatDoorK10
set_option maxHeartbeats 8000000
set_option linter.all false
namespace Go.Proofs.Zb
variable{g g' a:Goroutine}{w v:World}{R:Value->World->Prop}{M:Nat->Prop}{said:Bool}{fn:FuncId}{es:Array Event}{c i s:Nat}{t:Trace}{gs:Array Goroutine}{q:Nat->Nat}{x:Goroutine×World}
section
variable[Special]
open Go.Conc (G solo step_solo_go)
def oC(Q:Program)(L:List (Question->Nat))(b:Goroutine)(v:World)(g:Goroutine)(w:World):Prop:=
 ∀T d,mI L T d->step Q (solo g (re T d w))=.next (solo b (re T (d+L.length) v))
def qV(Q:Program)(c:Frame)(y x:Goroutine×World):Prop:=¬AtRet c x.1/\∃L,oC Q L y.1 y.2 x.1 x.2
section
variable{Q:Program}{c:Frame}
omit [Special]in
theorem oC.Fg{L}{b}(e:g.status=.running)(h:∀T d,mI L T d->∃es,stepG Q true g (re T d w)=.go b (re T (d+L.length) v) es):oC Q L b v g w:=
 λT d f=>by obtain⟨es,h⟩:=h T d f;exact step_solo_go e h
omit [Special]in
theorem VT.next{p}(h:VT Q c R g w)(E:¬AtRet c g){L}(k:oC Q L p v g w):VT Q c R p v:=λT d=>by
 obtain⟨j,f,e,y⟩:=h (joined L T d) 0
 have b:∀i,j (f+i)=joined L T d i:=λi=>Ai
 have A:mI L j f:=IW λi z=>by rw[b i];unfold joined;rw[dif_pos z]
 refine⟨j,f+L.length,λi q=> ?_,?_⟩
 ·exact Ag
 ·obtain⟨v,l,_⟩|⟨n,m,o,r,u,l,D,C,B⟩:=y.cases
  ·grind
  ·rw[k j f A]at l
   cases l
   exact⟨n,o,r,u,D,C,B⟩
omit [Special]in
theorem Ri{d:Type}{r}{x:d}(h:¬Acc r x):∃y,r y x/\¬Acc r y:=Classical.byContradiction λf=>h ⟨x,λy e=>Classical.byContradiction λb=>f ⟨y,e,b⟩⟩
omit [Special]in
theorem a7Q{b:Type}{r}{x}(h:¬Acc r x):∃f:Nat->b,f 0=x/\∀n,r (f (n+1)) (f n):=by
 let next:{y:b//¬Acc r y}->{y:b//¬Acc r y}:=λy=>⟨Classical.choose (Ri y.2),(agS (Ri y.2)).2⟩
 let f:Nat->{y:b//¬Acc r y}:=λn=>Nat.rec ⟨x,h⟩ (λ_ y=>next y) n
 exact⟨λn=>(f n).1,rfl,λn=>(agS (Ri (f n).2)).1⟩
def taken(L:Nat->List (Question->Nat)):Nat->Nat
 |0=>0
 |n+1=>taken L n+(L n).length
omit [Special]in
theorem TV(L){m n}(h:m<=n):taken L m<=taken L n:=by
 induction n with
 |zero=>grind
 |succ n d=>
  obtain b|b:=Nat.lt_or_ge n m
  ·grind
  ·exact afC (d b) (Nat.le_add_right _ _)
open Classical in
noncomputable def limit(L:Nat->List (Question->Nat)):Nat->Question->Nat:=λi=>
 if h:∃n,taken L n<=i/\i<taken L (n+1)then((L (Classical.choose h))[i-taken L (Classical.choose h)]?).getD λ_=>0 else λ_=>0
omit [Special]in
theorem a4x(L)(n i)(e:i<(L n).length):limit L (taken L n+i)=(L n)[i]:=by
 have b:∃m,taken L m<=taken L n+i/\taken L n+i<taken L (m+1):=⟨n,Nat.le_add_right _ _,by show _<taken L n+(L n).length;omega⟩;unfold limit
 rw[dif_pos b]
 have d:=agS b;generalize Classical.choose b=m at d |-
 have:m=n:=by
  obtain h|h|h:=Nat.lt_trichotomy m n
  ·have:=TV L (show m+1<=n from h);omega
  ·exact h
  ·have f:=TV L (show n+1<=m from h)
   have:taken L (n+1)=taken L n+(L n).length:=rfl;omega
 grind
theorem VT.acc(h:VT Q c R g w):Acc (qV Q c) (g,w):=by
 refine Classical.byContradiction λD=> ?_
 obtain⟨f,p,A⟩:=a7Q D;have B:∀n,∃L,oC Q L (f (n+1)).1 (f (n+1)).2 (f n).1 (f n).2:=λn=>(A n).2
 let L:Nat->List (Question->Nat):=λn=>Classical.choose (B n)
 have r:∀n,oC Q (L n) (f (n+1)).1 (f (n+1)).2 (f n).1 (f n).2:=λn=>agS (B n)
 obtain⟨d,l,H,n,y,K,v,u,C,_⟩:=h (limit L) 0
 have I:∀i,d (l+i)=limit L i:=λi=>by
  funext q
  have:=H i q
  rw[this]
  show limit L (0+i) q=_
  rw[agj]
 have G:∀k,mI (L k) d (l+taken L k):=λk=>IW λi E=>by rw[agJ,I,a4x L k i E]
 have add:∀(a b:Nat)(m j:Machine),runN Q a m=.next j->runN Q (a+b) m=runN Q b j:=by
  intro a b;induction a with
  |zero=>intro m j e;cases e;rw[agj]
  |succ a z=>
   intro m j e
   rw[Nat.add_right_comm]
   have J:∀k,runN Q (k+1) m=match step Q m with| .next m=>runN Q k m|e=>e:=λk=>rfl
   rw[J]at e |-
   cases N:step Q m<;>grind
 have o:∀k,runN Q k (solo g (re d l w))=.next (solo (f k).1 (re d (l+taken L k) (f k).2)):=by
  intro k;induction k with
  |zero=>rw[p];rfl
  |succ k z=>
   rw[add k 1 _ _ z]
   unfold runN
   rw[r k d _ (G k)]
   show runN Q 0 _=_;unfold runN
   rw[agJ]
   rfl
 rw[o n]at u
 simp only[Stepped.next.injEq,solo,lone,Machine.mk.injEq]at u;have F:(f n).1={frame:=y,callers:=[c],status:=.running,dying:=none}:=by simpa using u.2.1
 exact(A n).1 (by rw[F];exact⟨rfl,C.1,C.2.1⟩)
theorem dm.next{S}{bt}{P}{B}{z V}{y h}(T:Env Q P)(hd:JK (aT Q B.inner) Q P)(I:∀c,aT Q B.inner c->aT Q B c)(hV:∀f,Special.val f=true->∀k,B.may f k=true)(p:∀f:FuncId,(P.funcs[f]?).map (·.results)=(Q.funcs[f]?).map (·.results))(hg:∀g,B.gl.contains g=true->z g g .cells)(hc:KA Q c)(o:Under c y)(K:S false B)(N:∀x v,bt x->bt (x.finish v)){main'}{U}{m b}{u r}{C}(hS:dm S bt Q B z V y h U m u b r)(l:m.mode=.returning->U.live=none)(F:m.mode=.run->¬a0S U.live m b)(O:u=y->∀D,bt b->mK b D->Alike b D->bt D)(hW:WR (aT Q B.inner) Q.globals.size z w C)(hN:aS w)(J:VT Q c R (G m u) w)(W:¬xH y (G m u)):
  ∃g v g' n d j,qV Q c (g,v) (G m u,w)/\VT Q c R g v/\stepG P main' (G b r) C=.go g' n d/\After S bt Q P B j (j.or V) y h g g'/\
   WR (aT Q B.inner) Q.globals.size j v n/\aS v/\Move z j w C v n/\∀e∈d,Lj j e:=by
 obtain⟨g,v,g',n,d,j,A,⟨L,h2⟩,h3⟩:=hS.step (main':=main') T hd I hV p hg hc o K N l F O hW hN J W;refine⟨g,v,g',n,d,j,⟨λZ=>W ⟨?_,Z.2⟩,L,.Fg rfl h2⟩,A,h3⟩;obtain⟨E,X,_⟩:=hS.ZL;obtain⟨m2,H,_⟩:=o;have A:=Z.1;dsimp only[G]at A |-
 rw[A]at X
 have Y:=congrArg List.length X
 rw[H]at Y
 simp only[ag4,age,afE]at Y;have:E=[]:=List.length_eq_zero_iff.1 (by omega)
 grind
end
end
open Go.Conc
def xK(M:Nat->Prop):Loc->Prop
 | .cell a=>M a.block
 | .obj r=>M r
 |_=>False
def Lets(M b:Nat->Prop)(x:Touch):Prop:=xK M x.loc\/(xK b x.loc/\x.write=false)
theorem Oz{d}(h:∀b,M b->d b):∀{l:Loc},xK M l->xK d l
 | .cell _,x=>h _ x
 | .obj _,x=>h _ x
 | .output,x=>x
 | .goroutines,x=>x
 | .mark _,x=>x
theorem Lets.mono{f e}(h:∀b,M b->f b){x}(k:Lets M e x):Lets f e x:=k.imp (Oz h) id
theorem vL{S}(h:∀b,M b->S b->False):∀{l:Loc},xK M l->xK S l->False
 | .cell _,x,y=>h _ x y
 | .obj _,x,y=>h _ x y
 | .output,x,_=>x
 | .goroutines,x,_=>x
 | .mark _,x,_=>x
structure Three(M S Sh:Nat->Prop):Prop where
 ms:∀b,M b->S b->False
 mh:∀b,M b->Sh b->False
 sh:∀b,S b->Sh b->False
theorem Three.no{S j}(h:Three M S j){a b}(e:Lets S j a)(d:Lets M j b)(k:a.conflicts said b):False:=by
 obtain⟨f,_,n,_⟩:=k;obtain e|⟨e,m⟩:=e<;>obtain d|⟨d,l⟩:=d
 ·exact vL h.ms (f▸d) e
 ·exact vL h.sh e (f▸d)
 ·exact vL h.mh (f▸d) e
 grind
theorem L8{a b:Touch}(d:a.conflicts said b):b.conflicts said a:=by
 obtain⟨m,k,j,f⟩:=d
 exact af'
structure nK(s:Nat)(M S Sh:Nat->Prop)(B:Nat)(t:Trace):Prop where
 clean:∀said,¬Race said t
 known0:∀(i:Nat)(op:MemOp)(a:Touch),t[i]? =some op->op.act.touch?=some a->a.loc.isMemory=true->Knows t 0 i\/(op.g=s/\Lets S Sh a)
 L9:∀(i:Nat)(op:MemOp)(a:Touch),t[i]? =some op->op.act.touch?=some a->a.loc.isMemory=true->Knows t s i\/(op.g=0/\Lets M Sh a)
 hears:Deaf t 0=0
 seen:∀op∈t,op.act.low B
def Xk(M b:Nat->Prop)(B:Nat)(e:Event):Prop:=(∀x,(MemAct.ofEvent e).touch?=some x->Lets M b x)/\e.loc≠.mark .disable/\e.loc≠.mark .enable/\(MemAct.ofEvent e).low B
section
variable{s:Nat}{M S Sh I A:Nat->Prop}{B J:Nat}{t u:Trace}
theorem FT(h:¬Race said t)(G:∀op∈u,op.act.touch?=none):¬Race said (t++u):=by
 rintro⟨i,j,d,⟨a,b,F,E,D⟩,o,n2⟩
 obtain⟨x,z,l⟩:=touch_of F;obtain⟨y,r,f⟩:=touch_of E;obtain⟨n,k⟩|⟨n,p⟩:=getElem?_append_cases r
 ·have C:i<t.size:=Nat.lt_trans d n
  have m:t[i]? =some x:=by rw[<-getElem?_append_old (u:=u) C];exact z
  exact h ⟨i,j,d,⟨a,b,by simp[Trace.act?,m,l],by simp[Trace.act?,k,f],D⟩,λe=>o (hb_app u e),λe=>n2 (hb_app u e)⟩
 grind
theorem nK.mono(h:nK s M S Sh B t)(f:∀b,M b->I b)(e:∀b,S b->A b)(j:B<=J):nK s I A Sh J t:=
 ⟨h.clean,λi op a x y z=>(h.known0 i op a x y z).imp id λk=>⟨k.1,k.2.mono e⟩,λi op a x y z=>(h.L9 i op a x y z).imp id λk=>⟨k.1,k.2.mono f⟩,h.hears,λop d=>MemAct.low_mono j (h.seen op d)⟩
theorem nK.app0(h:nK s M S Sh B t)(E:Three M S Sh)(o:∀op∈u,op.g=0)(z:∀op∈u,∀b,op.act.touch?=some b->Lets M Sh b)(C:Deaf (t++u) 0=Deaf t 0)(D:∀op∈u,op.act.low B):nK s M S Sh B (t++u):=by
 refine⟨λsaid=>noRace_append (h.clean said) o λi a f op m b y p=> ?_,λi op a j f n=> ?_,λi op a j f n=> ?_,C.trans h.hears,seen_app h.seen D⟩
 ·obtain⟨x,r,l⟩:=touch_of f
  exact(h.known0 i x a r l p.2.1).elim id λk=>(E.no k.2 (z op m b y) p).elim
 ·obtain⟨_,d⟩|⟨_,e⟩:=getElem?_append_cases j
  ·exact(h.known0 i op a d f n).imp (·.app u) id
  ·have:=knows_own j
   rw[o op e]at this
   exact .inl this
 ·obtain⟨_,d⟩|⟨_,e⟩:=getElem?_append_cases j
  ·exact(h.L9 i op a d f n).imp (·.app u) id
  ·grind
theorem nK.adK(h:nK s M S Sh B t)(E:Three M S Sh)(z:s≠0)(m:∀op∈u,op.g=s)(C:∀op∈u,∀b,op.act.touch?=some b->Lets S Sh b)(D:∀op∈u,op.act.low B):nK s M S Sh B (t++u):=by
 refine⟨λsaid=>noRace_append (h.clean said) m λi a f op n b y p=> ?_,λi op a j f o=> ?_,λi op a j f o=> ?_,(Deaf_other t z u m).trans h.hears,seen_app h.seen D⟩
 ·obtain⟨x,r,l⟩:=touch_of f
  exact(h.L9 i x a r l p.2.1).elim id λk=>(E.no (C op n b y) k.2 (L8 p)).elim
 ·obtain⟨_,d⟩|⟨_,e⟩:=getElem?_append_cases j
  ·exact(h.known0 i op a d f o).imp (·.app u) id
  ·grind
 ·obtain⟨_,d⟩|⟨_,e⟩:=getElem?_append_cases j
  ·exact(h.L9 i op a d f o).imp (·.app u) id
  ·have:=knows_own j
   rw[m op e]at this
   exact .inl this
theorem nK.quiet(h:nK s M S Sh B t)(k:∀op∈u,op.act.touch?=none)(l:Deaf (t++u) 0=Deaf t 0)(m:∀op∈u,op.act.low B):nK s M S Sh B (t++u):=by
 refine⟨λsaid=>FT (h.clean said) k,λi op a f e d=> ?_,λi op a f e d=> ?_,l.trans h.hears,seen_app h.seen m⟩
 all_goals
  obtain⟨_,b⟩|⟨_,j⟩:=getElem?_append_cases f
  ·first
    |exact(h.known0 i op a b e d).imp (·.app u) id
    |exact(h.L9 i op a b e d).imp (·.app u) id
  ·grind
theorem nK.abT(h:nK s M S Sh B t)(l:Three M S Sh){pos}(f:∀e∈es,Xk M Sh B e):nK s M S Sh B (t++MemOp.ofEvents 0 fn pos es):=by
 refine h.app0 l (λop d=>oz) (λop d b k=>Am) ?_ (λop d=>Ao)
 rw[Deaf_own]
 exact deafBehind_still (λe j=>⟨(f e j).2.1,(f e j).2.2.1⟩) _
theorem nK.abU(h:nK s M S Sh B t)(l:Three M S Sh)(j:s≠0){pos}(f:∀e∈es,Xk S Sh B e):nK s M S Sh B (t++MemOp.ofEvents s fn pos es):=
 h.adK l j (λop d=>oz) (λop d b k=>Am) (λop d=>Ao)
theorem Pv(h:Deaf t s=0){d}(b:∀e∈es,Xk S Sh B e):Deaf (t++MemOp.ofEvents s fn d es) s=0:=by rw[Deaf_own,deafBehind_still (λe f=>⟨(b e f).2.1,(b e f).2.2.1⟩)];exact h
theorem nK.mute(h:nK s M S Sh B t){g}(l:g≠0){fn}{f}{es}(k:∀e∈es,e.mute=true):nK s M S Sh B (t++MemOp.ofEvents g fn f es):=
 h.quiet (λop d=>by obtain⟨e,j,rfl⟩:=Go.Conc.mem_ofEvents d;exact touch_mute (k e j)) (Deaf_other t l _ λop d=>oz) (λop d=>by obtain⟨e,j,rfl⟩:=Go.Conc.mem_ofEvents d;exact low_mute (k e j) B)
theorem fD(g)(b:∀op∈u,op.act≠.mark .disable/\op.act≠.mark .enable):Deaf (t++u) g=Deaf t g:=by
 obtain⟨l⟩:=u
 rw[Deaf_append]
 induction l generalizing t with
 |nil=>rfl
 |cons y l d=>
  have h:=b y (by simp)
  have f:deafStep g (Deaf t g) y=Deaf t g:=by
   unfold deafStep
   split<;>grind
  rw[List.foldl_cons,f]
  exact d λop e=>b op (by grind)
theorem nK.TW(h:nK s M S Sh B t)(d:∀op∈u,op.act.touch?=none/\(∀m,op.act≠.mark m)/\op.act.low B):nK s M S Sh B (t++u):=
 h.quiet (λop b=>(d op b).1) (fD 0 λop b=>⟨(d op b).2.1 _,(d op b).2.1 _⟩) λop b=>(d op b).2.2
theorem TY(m:∀i op a,t[i]? =some op->op.act.touch?=some a->a.loc.isMemory=true->Knows t 0 i):t.HandedOver:=by intro i g o k n;obtain⟨x,h,l,_⟩:=n;obtain⟨op,d,b⟩:=touch_of h;obtain⟨q,z,j,f,e⟩:=m i op x d b l;refine⟨q,by simp[Trace.g?,j,f],?_⟩;obtain rfl|e:=e<;>grind[Trace.g?]
theorem nK.spawn(h:Past (λ_=>False) B t)(H:s≠0)(G:Deaf t s=0){x y}(z:x.g=0)(f:x.act=.go s)(r:y.g=s)(d:y.act=.start):nK s M S Sh B (t++#[x,y])/\Deaf (t++#[x,y]) s=0:=by
 have p:∀op∈(#[x,y]:Array MemOp),op.act.touch?=none:=λop b=>by
  simp only[List.mem_toArray,agk,ags,or_false]at b;obtain rfl|rfl:=b
  ·rw[f];rfl
  ·rw[d];rfl
 have F:∀op∈(#[x,y]:Array MemOp),op.act≠.mark .disable/\op.act≠.mark .enable:=λop b=>by
  simp only[List.mem_toArray,agk,ags,or_false]at b;obtain rfl|rfl:=b
  ·rw[f];exact nX
  ·rw[d];exact nX
 have E:(t++#[x,y])[t.size]? =some x:=tu
 have o:(t++#[x,y])[t.size+1]? =some y:=by rw[Array.getElem?_append_right (Nat.le_succ _)];simp
 have L:Deaf (t++#[x,y]) s=0:=(fD s F).trans G
 have n:HappensBefore (t++#[x,y]) t.size (t.size+1):=by
  refine .single (.inr ⟨.spawn (child:=s) (by rw[Trace.act?,E];simp[f]) (by rw[Trace.act?,o];simp[d]) (by rw[Trace.g?,o];simp[r]),⟨0,by rw[Trace.g?,E];simp[z],?_⟩,⟨s,by rw[Trace.g?,o];simp[r],?_⟩⟩)
  ·rw[deaf_old (afA _)];exact h.hears
  ·have e:t++#[x,y]=(t++#[x])++#[y]:=by apply ahd;simp
   rw[e,deaf_old (by simp)]
   have:=Deaf_other t (g:=s) (g':=0) (ahc H) #[x] (λop b=>by simp at b;rw[b];exact z);unfold Deaf at this;simp only[Array.size_append,agZ,ag4,age]at this
   rw[this];exact G
 refine⟨⟨λsaid=>FT (h.clean said) p,λi op a D m C=> ?_,λi op a D m C=> ?_,(fD 0 F).trans h.hears,λop b=> ?_⟩,L⟩
 ·obtain⟨_,l⟩|⟨_,j⟩:=getElem?_append_cases D
  ·exact .inl (((h.known i a (by rw[touchAt_of l];exact m) C).resolve_right λk=>k.1.elim).app _)
  ·rw[p op j]at m;cases m
 ·obtain⟨_,l⟩|⟨_,j⟩:=getElem?_append_cases D
  ·have K:=(h.known i a (by rw[touchAt_of l];exact m) C).resolve_right λk=>k.1.elim
   exact .inl ⟨t.size+1,y,o,r,.inr ((K.hb_new (afA _) E z).trans n)⟩
  ·rw[p op j]at m;cases m
 ·obtain b|b:=agO.1 b
  ·exact h.seen op b
  ·simp only[List.mem_toArray,agk,ags,or_false]at b
   obtain rfl|rfl:=b
   ·rw[f];trivial
   ·rw[d];trivial
structure Shut(s c:Nat)(t:Trace)(pc:Nat):Prop where
 close:∃op,t[pc]? =some op/\op.g=s/\op.act=.close c
 heard:t.heard pc
 last:∀(i:Nat)(op:MemOp)(a:Touch),t[i]? =some op->op.g=s->op.act.touch?=some a->i<pc
theorem Shut.app{j}(h:Shut s c t j)(r:∀op∈u,op.g=s->op.act.touch?=none):Shut s c (t++u) j:=by
 obtain⟨k,l,e,d⟩:=h.close;have b:=lt_size_of_getElem? l;refine⟨⟨k,by rw[getElem?_append_old b];exact l,e,d⟩,(heard_old b).2 h.heard,λi op a n o p=> ?_⟩;obtain⟨_,f⟩|⟨_,m⟩:=getElem?_append_cases n
 ·exact h.last i op a f o p
 grind
theorem Shut.new{y}(l:Deaf t s=0)(f:y.g=s)(h:y.act=.close c):Shut s c (t++#[y]) t.size:=by
 have j:(t++#[y])[t.size]? =some y:=tu
 refine⟨⟨y,j,f,h⟩,⟨s,by rw[Trace.g?,j];simp[f],by rw[deaf_old (afA _)];exact l⟩,λi op a k _ b=> ?_⟩;obtain⟨e,_⟩|⟨_,d⟩:=getElem?_append_cases k
 ·exact e
 ·simp at d
  subst d
  rw[h]at b;cases b
theorem nK.join(h:nK s M S Sh B t){n}(p:Shut s c t n){y}(D:y.g=0)(r:y.act=.recvClosed c)(P:c<B):Past (λ_=>False) B (t++#[y]):=by
 obtain⟨k,m,o,N⟩:=p.close;have f:=lt_size_of_getElem? m;have E:(t++#[y])[t.size]? =some y:=tu
 have Q:(t++#[y])[n]? =some k:=by rw[getElem?_append_old f];exact m
 have F:∀op∈(#[y]:Array MemOp),op.act.touch?=none:=λop b=>by simp at b;rw[b,r];rfl
 have G:∀op∈(#[y]:Array MemOp),op.act≠.mark .disable/\op.act≠.mark .enable:=λop b=>by simp at b;rw[b,r];exact nX
 have l:HappensBefore (t++#[y]) n t.size:=.single (.inr ⟨.closed (c:=c) (by grind[Trace.act?]) (by grind[Trace.act?]),(heard_old f).2 p.heard,⟨0,by rw[Trace.g?,E];simp[D],by rw[deaf_old (afA _)];exact h.hears⟩⟩)
 have H:∀(i:Nat)(op:MemOp)(a:Touch),(t++#[y])[i]? =some op->op.act.touch?=some a->a.loc.isMemory=true->Knows (t++#[y]) 0 i:=λi op a C d z=>by
  obtain⟨O,j⟩|⟨_,K⟩:=getElem?_append_cases C
  ·obtain m|⟨e,_⟩:=h.known0 i op a j d z
   ·exact m.app _
   ·exact⟨t.size,y,E,D,.inr ((hb_po (p.last i op a j e d) C Q (e.trans o.symm)).trans l)⟩
  ·grind
 refine⟨λsaid=>FT (h.clean said) F,λi a d z=> ?_,TY H,(fD 0 G).trans h.hears,seen_app h.seen λop b=>by simp at b;rw[b,r];exact P⟩;obtain⟨op,b,L⟩:=touch_of d
 grind
end
open Go.ConcN (sumTo upd sumTo_upd upd_ne upd_same)
section
variable{P:Program}{J:Value->World->Prop}{A:Type}{r:A->A->Prop}{I:A->Goroutine->World->Prop}
theorem jC{j}(h:j≠i)(fn)(pos)(es):Deaf (t++MemOp.ofEvents i fn pos es) j=Deaf t j:=
 Deaf_other t (g':=i) h.symm _ λop d=>oz
theorem vM(b:Leavers P t gs q){pos}(o:i<gs.size){k}(n:0<i->QuitsD P k (Deaf (t++MemOp.ofEvents i fn pos es) i) g'):
  Leavers P (t++MemOp.ofEvents i fn pos es) ((gs.map (woken P g g' v)).setIfInBounds i g') (if i=0 then q else upd q i k):=by
 refine⟨λj x h f=> ?_,λj h=> ?_⟩
 ·by_cases d:i=j
  ·subst d
   rw[afO (by grind)]at f
   obtain rfl:=agf f
   rw[afJ (by omega),upd_same]
   exact n h
  ·rw[afF d,ag2]at f
   obtain⟨y,m,rfl⟩:=agi.1 f;have e:=b.old j y h m
   rw[woken_quitsD e,jC (ahc d)]
   by_cases l:i=0
   ·grind
   ·rw[afJ l,upd_ne q k (ahc d)];exact e
 ·exact tC
end
def Recv(P:Program)(c:Nat)(a:Goroutine)(z:Value):Prop:=∀w,stepG P true a w=.comm a #[rcase c z] true (.recv true) w #[]
def Send(P:Program)(c:Nat)(b:Goroutine)(v z:Value):Prop:=∀w,stepG P false b w=.comm b #[scase c v z] true .send w #[]
structure a0W(P:Program)(Post:Value->World->Prop){Ω:Type}(r:Ω->Ω->Prop)(N:Ω->Goroutine->World->Prop)(L:Ω->Nat->(Nat->Prop)->(Nat->Prop)->(Nat->Prop)->Goroutine->Goroutine->World->Prop)(C:Ω->Nat->(Nat->Prop)->(Nat->Prop)->(Nat->Prop)->Goroutine->World->Prop):Prop where
 abV:∀ω a w w1,N ω a w->AtRel w w1->N ω a w1
 adL:∀ω a w,N ω a w->a.status=.running
 abW:∀ω a w,N ω a w->AtEnd P (λ_=>False) w.heap.size Post a w\/
  (∃a' w' es JP,stepG P true a w=.go a' w' es/\w.heap.size<=w'.heap.size/\(∀e∈es,EvL (λ_=>False) w'.heap.size e)/\r JP ω/\N JP a' w')\/
  (∃a' b w' es JP c M S Sh,stepG P true a w=.spawn a' b w' es/\w.heap.size<=w'.heap.size/\(∀e∈es,EvL (λ_=>False) w'.heap.size e)/\r JP ω/\L JP c M S Sh a' b w')
 abX:∀ω c M S Sh a b w w1,L ω c M S Sh a b w->AtRel w w1->L ω c M S Sh a b w1
 adM:∀ω c M S Sh a b w,L ω c M S Sh a b w->core a=a/\core b=b
 a4y:∀ω c M S Sh a b w,L ω c M S Sh a b w->∃s r tm,w.heap[c]? =some (.chan 0 #[] false s r tm)
 Xl:∀ω c M S Sh a b w,L ω c M S Sh a b w->Three M S Sh
 aad:∀ω c M S Sh a b w,L ω c M S Sh a b w->
  (∃a' w' es JP M',stepG P true a w=.go a' w' es/\w.heap.size<=w'.heap.size/\(∀e∈es,Xk M' Sh w'.heap.size e)/\(∀x,M x->M' x)/\r JP ω/\L JP c M' S Sh a' b w')\/∃z,Recv P c a z
 aae:∀ω c M S Sh a b w,L ω c M S Sh a b w->
  (∃b' w' es JP S',stepG P false b w=.go b' w' es/\w.heap.size<=w'.heap.size/\(∀e∈es,Xk S' Sh w'.heap.size e)/\(∀x,S x->S' x)/\r JP ω/\L JP c M S' Sh a b' w')\/
  (∃v z,Send P c b v z)\/
  (∃(b':Goroutine)(w':World)(es:Array Event)(JP:Ω)(nq:Nat),mayWake P b=true/\stepG P false b w=.go b' w' (es.push ⟨.obj c,true,true⟩)/\w.heap.size<=w'.heap.size/\(∀e∈es,Xk S Sh w'.heap.size e)/\QuitsIn P nq b'/\r JP ω/\C JP c M S Sh a w')
 a9G:∀ω c M S Sh a b w z v z' s k tm,L ω c M S Sh a b w->Recv P c a z->Send P c b v z'->w.heap[c]? =some (.chan 0 #[] false s k tm)->
  ∃JP,r JP ω/\L JP c M S Sh (Go.Conc.served a (.tuple #[v,.bool true])) (Go.Conc.served b undef) (w.setChan c 0 #[] false (s+1) (k+1) tm)
 abY:∀ω c M S Sh a w w1,C ω c M S Sh a w->AtRel w w1->C ω c M S Sh a w1
 adN:∀ω c M S Sh a w,C ω c M S Sh a w->core a=a
 a9H:∀ω c M S Sh a w,C ω c M S Sh a w->∃s r tm,w.heap[c]? =some (.chan 0 #[] true s r tm)
 a4z:∀ω c M S Sh a w,C ω c M S Sh a w->Three M S Sh
 abZ:∀ω c M S Sh a w,C ω c M S Sh a w->
  (∃a' w' es JP M',stepG P true a w=.go a' w' es/\w.heap.size<=w'.heap.size/\(∀e∈es,Xk M' Sh w'.heap.size e)/\(∀x,M x->M' x)/\r JP ω/\C JP c M' S Sh a' w')\/
  ∃z JP,Recv P c a z/\r JP ω/\N JP (Go.Conc.served a (.tuple #[z,.bool false])) w
structure gK(P:Program)(t:Trace)(gs:Array Goroutine)(q:Nat->Nat)(s:Nat):Prop where
 old:∀i g,0<i->i≠s->gs[i]? =some g->QuitsD P (q i) (Deaf t i) g
 above:∀j,gs.size<=j->Deaf t j=0
inductive a0X(P:Program)(c:Nat)(a:Goroutine):Nat->Goroutine->Prop
 |on:a0X P c a 1 a
 |wait (z:Value) (h:Recv P c a z):a0X P c a 0 (parked a #[rcase c z] (.recv true))
inductive a0Y(P:Program)(c:Nat)(b:Goroutine):Nat->Goroutine->Prop
 |on:a0Y P c b 1 b
 |wait (v z:Value) (h:Send P c b v z):a0Y P c b 0 (parked b #[scase c v z] .send)
inductive a0Z(P:Program)(c:Nat)(a:Goroutine):Goroutine->Prop
 |on:a0Z P c a a
 |again (z:Value) (h:Recv P c a z):a0Z P c a {parked a #[rcase c z] (.recv true)with status:=.running}
section
variable{P:Program}{A:Value->World->Prop}{Ω:Type}{r:Ω->Ω->Prop}{N:Ω->Goroutine->World->Prop}{L:Ω->Nat->(Nat->Prop)->(Nat->Prop)->(Nat->Prop)->Goroutine->Goroutine->World->Prop}{C:Ω->Nat->(Nat->Prop)->(Nat->Prop)->(Nat->Prop)->Goroutine->World->Prop}
variable(P N L C)in
inductive Pw:Ω×Nat×Nat->Machine->Trace->Prop
 |n (ω:Ω) (gs:Array Goroutine) (a:Goroutine) (w:World) (sl:Option (Nat×Nat)) (t:Trace) (q:Nat->Nat) (h0:gs[0]? =some a) (hL:Leavers P t gs q) (hP:Past (λ_=>False) w.heap.size t) (hN:N ω a w):
   Pw (ω,0,sumTo gs.size q) (crowd gs w sl) t
 |l (ω:Ω) (c:Nat) (M S Sh:Nat->Prop) (s:Nat) (gs:Array Goroutine) (a b a1 b1:Goroutine) (w:World) (sl:Option (Nat×Nat)) (t:Trace) (q:Nat->Nat) (ka kb:Nat) (hs:0<s)
   (h0:gs[0]? =some a1) (h1:gs[s]? =some b1) (ha:a0X P c a ka a1) (hb:a0Y P c b kb b1) (hk:0<ka+kb) (hL:gK P t gs q s) (hD:nK s M S Sh w.heap.size t) (hd:Deaf t s=0) (hl:L ω c M S Sh a b w):
   Pw (ω,ka+kb,sumTo gs.size q) (crowd gs w sl) t
 |c (ω:Ω) (c:Nat) (M S Sh:Nat->Prop) (s pc:Nat) (gs:Array Goroutine) (a a1:Goroutine) (w:World) (sl:Option (Nat×Nat)) (t:Trace) (q:Nat->Nat) (hs:0<s)
   (h0:gs[0]? =some a1) (ha:a0Z P c a a1) (hL:Leavers P t gs q) (hD:nK s M S Sh w.heap.size t) (hC:Shut s c t pc) (hc:C ω c M S Sh a w):
   Pw (ω,0,sumTo gs.size q) (crowd gs w sl) t
variable(P A N L C)in
theorem qo(h:core a=a):a.status=.running:=by rw[<-h];rfl
theorem gK.behind(b:gK P t gs q s){f}(o:i<gs.size)(h:i=0\/i=s):gK P (t++MemOp.ofEvents i fn f es) ((gs.map (woken P g g' v)).setIfInBounds i g') q s:=by
 refine⟨λj x m k l=> ?_,λj m=> ?_⟩
 ·have e:i≠j:=by rintro rfl;obtain h|h:=h<;>omega
  rw[afF e,ag2]at l
  obtain⟨y,n,rfl⟩:=agi.1 l;have d:=b.old j y m k n
  rw[woken_quitsD d,jC (ahc e)]
  exact d
 ·exact tC
theorem gK.slip(b:gK P t gs q s){e}(p:i<gs.size){k}(o:QuitsD P k (Deaf (t++MemOp.ofEvents i fn e es) i) g'):gK P (t++MemOp.ofEvents i fn e es) ((gs.map (woken P g g' v)).setIfInBounds i g') (upd q i k) s:=by
 refine⟨λj x m l h=> ?_,λj m=> ?_⟩
 ·by_cases d:i=j
  ·subst d
   rw[afO (by grind)]at h
   obtain rfl:=agf h
   rw[upd_same];exact o
  ·rw[afF d,ag2]at h
   obtain⟨y,n,rfl⟩:=agi.1 h;have f:=b.old j y m l n
   rw[woken_quitsD f,jC (ahc d),upd_ne q k (ahc d)]
   exact f
 ·exact tC
theorem gK.TW{u}{b}(f:gK P t gs q s)(h:b.size=gs.size)(l:∀i,0<i->i≠s->b[i]? =gs[i]?)(e:∀op∈u,op.act≠.mark .disable/\op.act≠.mark .enable):gK P (t++u) b q s:=
 ⟨λi g k d n=>by rw[fD i e];exact f.old i g k d (by grind),λj m=>by rw[fD j e];exact f.above j (by omega)⟩
theorem TZ(h:core a=a):woken P g g' v a=a:=woken_running (qo h)
theorem a0X.woken{c}{a a1 g g'}{k}{v}{s r}{b}(h:a0X P c a k a1)(e:core a=a)(d:v.heap[c]? =some (.chan 0 #[] false s r b)):Go.Conc.woken P g g' v a1=a1:=by
 cases h with
 |on=>exact TZ e
 |wait z _=>exact woken_recv_open _ _ d
theorem a0Y.woken{c}{b d g g'}{k}{v}{s r}{e}(h:a0Y P c b k d)(j:core b=b)(f:v.heap[c]? =some (.chan 0 #[] false s r e)):Go.Conc.woken P g g' v d=d:=by
 cases h with
 |on=>exact TZ j
 |wait v z _=>exact woken_send_open _ _ f
theorem gK.offers(j:gK P t gs q s)(e:0<i)(d:i≠s)(f:gs[i]? =some g)(c)(b):offersAt g c b=[]:=
 offersAt_of_not_blocked (by obtain h|h:=(j.old i g e d f).status<;>rw[h]<;>simp) c b
theorem Px(h:core a=a)(c)(b):offersAt a c b=[]:=offersAt_of_not_blocked (by rw[qo h];simp) c b
end
section
variable[Special]
def Apart(j h:Ren):Prop:=∀b c k f d e,j b c k->h f d e->(b=f↔c=d)/\(c=d->k=.chan/\e=.chan)
section
variable{L:Code->Prop}{N:Nat}{I A τ:Ren}{w J u u' v v':World}
theorem Calm.drew(h:Calm w)(d):Calm {w with drawn:=d}:=⟨h.Tj,h.still,h.os,h.out⟩
theorem WR.or(h:WR L N I w J)(k:WR L N A w J)(e:Apart I A):WR L N (I.or A) w J:=
 ⟨λb c d x=>x.elim (h.low b c d) (k.low b c d),h.big,h.Dl,
  λb c r d j x y=>by
  obtain x|x:=x<;>obtain y|y:=y
  ·exact h.left _ _ _ _ _ x y
  ·exact(e _ _ _ _ _ _ x y).1.1 rfl
  ·exact((e _ _ _ _ _ _ y x).1.1 rfl).symm
  ·exact k.left _ _ _ _ _ x y,
  λb z c d j x y=>by
  obtain x|x:=x<;>obtain y|y:=y
  ·exact h.right _ _ _ _ _ x y
  ·exact(e _ _ _ _ _ _ x y).1.2 rfl
  ·exact((e _ _ _ _ _ _ y x).1.2 rfl).symm
  ·exact k.right _ _ _ _ _ x y,
  λb c d x=>by
  obtain x|x:=x
  ·obtain⟨o,f,p,n,m,l⟩:=h.obj b c d x
   exact⟨o,f,p,n,m,l.mono (Ren.uP _ _)⟩
  ·obtain⟨o,f,p,n,m,l⟩:=k.obj b c d x
   exact⟨o,f,p,n,m,l.mono (Ren.a4j _ _)⟩,
  ⟨h.held.calm,λb c d x=>x.elim (h.held.seen b c d) (k.held.seen b c d),λb c d i y x=>x.elim (h.held.Li b c d i y) (k.held.Li b c d i y)⟩⟩
end
end
section
open Go.Conc (G)
def ZQ:List Nat:=[1,4,5,6,7,12,13,14,15,16,17,18,19,20,21,22,23,24,25,26]
def Py:List Nat:=[1,2,3,4,5,6,7,8,9,10,12,13,14,15,16,17,18,19,20,21,22,23,24,25,26,27,28,29,30,31,32,33,34,36,37,38]
def a9I(n:au):Option (List Nat)->Code->Code->Prop
 |none,c,_=>∃s,c=.refuse s
 |some l,c,b=>(l=ZQ/\c=n.bQ/\b=n.bQ)\/(l=Py/\c=.region 9 (au.Ak n) false/\b=.region 9 (au.c9 n) false)
def mf(n:au)(b:Nat):Deferred:={target:=.builtin .close #[n.eG] 0 #[false],args:=#[.chan (some b)]}
def BW(A:List Nat):Scope:={gl:=[],live:=none,fns:=some A,Xb:=some A}
def B0(e d:List Nat)(b:Nat):Scope:={gl:=[],live:=none,fns:=some e,Xb:=some d,ar:=some (b,2)}
def X2(A:List Nat)(b c:Nat):Scope:={gl:=[],live:=some ZQ,fns:=some A,Xb:=some A,fix:=[(11,.chan (some b),.chan (some c))],len:=27}
def XS(n:au)(A:List Nat)(b c:Nat):Scope:={gl:=[],live:=some Py,fns:=some A,Xb:=some A,put:=([mf n b],[mf n c]),fix:=[(0,.pointer (some ⟨b+1,0,none⟩),.pointer (some ⟨c+1,0,none⟩))],len:=39}
def au.dY(n:au)(d:Array Oper):Code:=
 ((Code.region 1 (au.c1 n) false).seq (Code.block 0 ((Code.region 2 (au.c2 n) false).seq ((Code.cond (Operand.tmp 15) Code.skip (Code.exit 0)).seq ((Code.block 1 ((Code.region 3 (au.c3 n) false).seq ((Code.region 4 (au.c4 n) false).seq ((Code.region 5 (au.c5 n) false).seq ((Code.region 6 (au.c6 n) false).seq (Code.block 2 ((Code.region 7 (au.c7 n) false).seq ((Code.cond (Operand.tmp 32) Code.skip (Code.exit 2)).seq ((Code.block 3 ((Code.region 8 (au.c8 n) false).seq (Code.region 9 d false))).seq (Code.region 10 (au.c10 n) false)))).loop)))))).seq (Code.region 11 (au.c11 n) false)))).loop))
def au.eqR(n:au):Oper:=⟨none,Op.binOp BinOp.eql n.qm (Operand.tmp 36) (Operand.tmp 36) n.qm,n.qU, "journal.go:22",#[],none⟩
def au.T9:Oper:=⟨none,Op.send (Operand.tmp 35) (Operand.tmp 36),0, "journal.go:22",#[⟨0,.data⟩,⟨1,.data⟩],none⟩
def au.Xm(n:au):Oper:=⟨some 36,Op.load n.qm (Operand.tmp 10),n.qm, "journal.go:22",#[],none⟩
def ab'(N:Nat)(w:World)(q:Addr):Prop:=q.block<N\/∃a b,w.heap[q.block]? =some (.number a b)/\a.block<N
def Flat(N:Nat)(w:World)(a:Array Value):Prop:=∃x y z s,a=#[x,y,z,.string s]/\∀v,v=x\/v=y\/v=z->(∃k m,v=.int k m)\/∃q,v=.pointer (some q)/\ab' N w q
structure Seat[Special](Q P:Program)(c:Frame)(n:au)(A0 A1:List Nat)(zS zR:Value)(d1 d2:ChanDir)(iR:TypeInfo):Prop where
 sp:Special.sp=a9I n
 env:Env Q P
 res:∀f:FuncId,(P.funcs[f]?).map (·.results)=(Q.funcs[f]?).map (·.results)
 door:KA Q c
 heads:JK (aT Q (BW A1)) Q P
 mono:∀c,aT Q (BW A1) c->aT Q (B0 A0 A1 n.uQ) c
 a7R:∀f,Special.val f=true->∀k,(B0 A0 A1 n.uQ).may f k=true
 Xn:∀f,Special.val f=true->∀k,(BW A1).may f k=true
 text0:∀f k,(B0 A0 A1 n.uQ).may f k=true->f≠n.uQ->xI Q P (B0 A0 A1 n.uQ) f
 text1:∀f k,(BW A1).may f k=true->xI Q P (BW A1) f
 seg:(BW A1).may n.xJ 1=true
 ZR:TF P n zS zR d1 d2 iR
 ZT:TF Q n zS zR d1 d2 iR
 aaf:∃f,P.funcs[n.wZ]? =some f/\f.ntmps=9/\f.body=some (n.yz 0 au.goP)/\f.results=#[.tmp 4]
 aag:∃f,Q.funcs[n.wZ]? =some f/\f.ntmps=9/\f.body=some (n.yz au.bN au.goQ)/\f.results=#[.tmp 4]
 aah:∃f,P.funcs[n.qX]? =some f/\f.name≠ "runtime.NumGoroutine" /\f.ntmps=39/\f.body=some ((Code.region 0 (au.c0 n) false).seq (n.dY (au.c9 n)))/\f.results=#[]
 a7S:∃f,Q.funcs[n.qX]? =some f/\f.name≠ "runtime.NumGoroutine" /\f.ntmps=39/\f.body=some ((Code.region 0 (au.c0 n) false).seq (n.dY (au.Ak n)))/\f.results=#[]
 atP:∃f,P.funcs[n.uQ]? =some f/\f.ntmps=27/\f.body=some (n.FQ (au.a2 n))
 atQ:∃f,Q.funcs[n.uQ]? =some f/\f.ntmps=27/\f.body=some (n.FQ (au.ZM n))
 named:∀f,f=n.wZ\/f=n.xJ->(∃fn,P.funcs[f]? =some fn/\fn.name≠ "runtime.NumGoroutine" /\fn.body.isNone=false)/\∃fn,Q.funcs[f]? =some fn/\fn.name≠ "runtime.NumGoroutine" /\fn.body.isNone=false
 ac0:∃f t,P.funcs[n.xJ]? =some f/\f.results=#[.tmp t]
 ac1:∃f t,Q.funcs[n.xJ]? =some f/\f.results=#[.tmp t]
 a7T:∀b ch,kG Q (XS n A1 b ch) (n.dY (au.Ak n)) (n.dY (au.c9 n))
 a7U:∀b c,aT Q (X2 A1 b c) (Code.block 1 n.blk)
 ZU:∀b c,aT Q (X2 A1 b c) n.gF
 ZV:aT Q (B0 A0 A1 n.uQ) n.gF
 Rj:∀v∈zS.cells,eH 100 v=true
 Rk:eH 100 zR=true
 KY:∀(x v:Value)(w u:World),(Instr.loadAt n.qm x).run Q w=.ok v u->∃a,v=.agg a/\a.size=4
 Rm:∀(e:Operand->Value),(∀v,e (.const v)=v)->∀(w:World),((∃k m,e (.tmp 1)=.int k m)/\∃x,∀T d,(execOp e n.Xj).run Q (re T d w)=.ok (.value x) (re T d w))\/∀T d,∃h u,(execOp e n.Xj).run Q (re T d w)=.halt h u/\u.heap=w.heap/\∀g,h≠.unsupported (.initOrder g)
 ZW:∀(e:Operand->Value)(a:Array Value),e (.tmp 36)=.agg a->a.size=4->∀w,(∃x,(∀T d,(execOp e n.eqR).run Q (re T d w)=.ok (.value x) (re T d w))/\Flat Q.globals.size w a)\/∀T d,∃h u,(execOp e n.eqR).run Q (re T d w)=.halt h u/\u.heap=w.heap/\∀g,h≠.unsupported (.initOrder g)
end
section
variable[Special]
open Go.Conc (G)
inductive DC(Q:Program)(c:Frame)(w:World):Goroutine->Goroutine->Prop
 |nil (g:Goroutine):DC Q c w g g
 |cons (g g1 g2:Goroutine) (h:qV Q c (g1,w) (g,w)) (t:DC Q c w g1 g2):DC Q c w g g2
abbrev Below(Q:Program)(c:Frame):Goroutine×World->Goroutine×World->Prop:=Relation.TransGen (qV Q c)
section
variable{Q:Program}{c:Frame}{R:Value->World->Prop}
theorem VT.Ap{y}(h:VT Q c R x.1 x.2)(b:qV Q c y x):VT Q c R y.1 y.2:=by obtain⟨e,L,d⟩:=b;exact h.next e d
theorem DC.vt(t:DC Q c w g g')(h:VT Q c R g w):VT Q c R g' w:=by
 induction t with
 |nil=>exact h
 |cons g e f d _ b=>exact b (VT.Ap (x:=(g,w)) (y:=(e,w)) h d)
omit [Special]in
theorem DC.low(t:DC Q c w g g'):g'=g\/Below Q c (g',w) (g,w):=by
 induction t with
 |nil=>simp
 |cons g f e b _ d=>
  obtain rfl|h:=d
  ·exact .inr (.single b)
  ·exact .inr (h.tail b)
theorem Below.vt{y}(h:Below Q c y x)(b:VT Q c R x.1 x.2):VT Q c R y.1 y.2:=by
 induction h with
 |single h=>exact VT.Ap b h
 |tail f e d=>grind[VT.Ap]
omit [Special]in
theorem Pz(h:Acc (qV Q c) x):Acc (Below Q c) x:=h.transGen
omit [Special]in
theorem dA.chain{W}{E}{j}(r:∀T d,W (re T d w)):∀{m:Nat}{g:Goroutine},dA Q true W E j m g->∃g',j g'/\DC Q c w g g'/\(0<m->Below Q c (g',w) (g,w)):=by
 intro m;induction m with
 |zero=>intro g h;exact⟨g,h,.nil g,λh=>absurd h (Nat.lt_irrefl 0)⟩
 |succ m l=>
  intro g h;obtain⟨n,_,f,y,es,e,_,o⟩:=h;obtain⟨g',u,k,z⟩:=l o
  have b:qV Q c (y,w) (g,w):=by refine⟨λ⟨a1,a2,_⟩=> ?_,[],oC.Fg n λT d _=>⟨es,by simpa using e _ (r T d)⟩⟩;obtain f|f:=f<;>grind
  refine⟨g',u,.cons _ _ _ b k,λ_=> ?_⟩;obtain rfl|p:=k.low
  ·exact .single b
  ·exact p.tail b
omit [Special]in
theorem bJ.chain{j}:∀{m:Nat}{g:Goroutine}{w:World},bJ Q true j m g w->∃g' n,j g' n/\(g'=g/\n=w\/Below Q c (g',n) (g,w))/\(0<m->Below Q c (g',n) (g,w)):=by
 intro m;induction m with
 |zero=>intro g w h;exact⟨g,w,h,.inl ⟨rfl,rfl⟩,λh=>absurd h (Nat.lt_irrefl 0)⟩
 |succ m l=>
  intro g w h;obtain⟨o,f,z,k,es,e,_,_,p⟩:=h;obtain⟨g',n,y,u,_⟩:=l p
  have b:qV Q c (z,k) (g,w):=by refine⟨λ⟨a1,a2,_⟩=> ?_,[],oC.Fg o λT d _=>⟨es,by simpa using e T d⟩⟩;obtain f|f:=f<;>grind
  have:Below Q c (g',n) (g,w):=by
   obtain⟨rfl,rfl⟩|r:=u
   ·exact .single b
   ·exact r.tail b
  exact⟨g',n,y,.inr this,λ_=>this⟩
end
end
end Go.Proofs.Zb
