import Derived.Test.YtkdjjnkpfpogkaaGreatDoorK01
set_option maxHeartbeats 8000000
set_option linter.all false
namespace Go.Proofs.Zb
variable{a A:Addr}{v v':Value}{I:Kind}{r J:Nat}
section
variable[Special]
def Dp:TypeDesc->List TypeId
 | .pointer e| .slice e| .array _ e| .chan _ e=>[e]
 | .map k e=>[k,e]
 | .struct b=>b.toList.map (·.type)
 |_=>[]
structure Env(Q P:Program):Prop where
 tables:P.toTables=Q.toTables
 zero:∀t i z,t<Q.types.size->Q.info? t=some i->i.zero=some z->∃n,eH n z=true
 checker:∀t i u,Q.info? t=some i->i.desc≠.named "sync.copyChecker" u
 kids:∀t d,t<Q.types.size->Q.underlying t=some d->∀c∈Dp d,c<Q.types.size
theorem Env.info{Q P}(b:Env Q P)(t):P.info? t=Q.info? t:=by rw[b.tables]
theorem Env.underlying{Q P}(b:Env Q P)(t):P.underlying t=Q.underlying t:=by unfold Program.underlying;rw[b.tables]
theorem Env.follows{Q P}(b:Env Q P)(d):P.follows d=Q.follows d:=by rw[b.tables]
def sM{c:Type}:Ren->c->c->Prop:=λ_ a b=>a=b
def Dq{c:Type}(p:c->Prop):Ren->c->c->Prop:=λ_ a b=>a=b/\p a
section
variable{ok:Code->Prop}{Q P:Program}{ρ:Ren}{α U O L:Type}{F:Ren->α->U->Prop}{G:Ren->O->L->Prop}
theorem aj{a}{A}(h:F ρ a A):aG ok Q P F ρ (Pure.pure a) (Pure.pure A):=.pure ρ a A h
theorem aC{s}{c}{k}{d}(h:aG ok Q P F ρ s c)(e:∀b,ρ.le b->∀a A,F b a A->aG ok Q P G b (k a) (d A)):
  aG ok Q P G ρ (s>>= k) (c>>= d):=h.bind e
theorem bE{s}{b}(h:Dead Q s):aG ok Q P F ρ s b:=.dead ρ s b h
def a7s(h:Halt):Prop:=∀g,h≠.unsupported (.initOrder g)
omit [Special]in
theorem IJ{h}(b:a7s h):Dead Q (.halt h:Sem α):=⟨λw a v e=>(by cases e),λw g u _ e=>(by simp only[Sem.run,Result.halt.injEq]at e;exact b g e.1),λw x u c e=>by simp only[Sem.run,Result.halt.injEq]at e;rw[<-e.2];exact c⟩
omit [Special]in
theorem aZ(s):Dead Q (stuck s:Sem α):=IJ λg h=>by cases h
def a7t(u:Unsupported):Prop:=∀g,u≠.initOrder g
omit [Special]in
theorem wB{u}(h:a7t u):Dead Q (unsupported u:Sem α):=IJ λg e=>by cases e;exact h _ rfl
omit [Special]in
theorem GD(v):Dead Q (goPanic v:Sem α):=IJ λg h=>by cases h
structure sP(Q:Program)(s:Sem α):Prop where
 ok:∀w a u,aS w->s.run Q w=.ok a u->aS u
 init:∀w g u,aS w->s.run Q w≠.halt (.unsupported (.initOrder g)) u
 halt:∀w x u,aS w->s.run Q w=.halt x u->aS u
omit [Special]in
theorem Dead.QY{s:Sem α}(h:Dead Q s):sP Q s:=⟨λw a u _ e=>absurd e (h.no w a u),h.init,h.halt⟩
omit [Special]in
theorem dW{s}{k:α->Sem O}(f:sP Q s)(h:∀a,Dead Q (k a)):Dead Q (s>>= k):=by
 refine⟨λw b v e=> ?_,λw g u c e=> ?_,λw y u c e=> ?_⟩
 ·rw[Sem.run_bind]at e
  cases d:s.run Q w with
  |ok a u=>rw[d]at e;exact(h a).no u b v e
  |halt x u=>simp_all
 ·exact zx
 ·exact zw
omit [Special]in
theorem jy{s}{k:α->Sem O}(f:sP Q s)(h:∀a,sP Q (k a)):sP Q (s>>= k):=by
 refine⟨λw b v c e=> ?_,λw g u c e=> ?_,λw y u c e=> ?_⟩
 ·rw[Sem.run_bind]at e
  cases d:s.run Q w with
  |ok a u=>rw[d]at e;exact(h a).ok u b v (f.ok w a u c d) e
  |halt x u=>simp_all
 ·exact zx
 ·exact zw
omit [Special]in
theorem fQ(a):sP Q (Pure.pure a:Sem α):=⟨λw b u c e=>by cases e;exact c,λw g u _ e=>(by cases e),λw x u _ e=>by cases e⟩
omit [Special]in
theorem nC:sP Q program:=⟨λw b u c e=>by cases e;exact c,λw g u _ e=>(by cases e),λw x u _ e=>by cases e⟩
omit [Special]in
theorem WQ(r):sP Q (shape r):=⟨λw b u c e=>by cases e;exact c,λw g u _ e=>(by cases e),λw x u _ e=>by cases e⟩
omit [Special]in
theorem Tp(a):sP Q (frozen a):=⟨λw b u c e=>by cases e;exact c,λw g u _ e=>(by cases e),λw x u _ e=>by cases e⟩
omit [Special]in
theorem a0s(m):sP Q (mark m):=⟨λw b u c e=>by cases e;exact c,λw g u _ e=>(by cases e),λw x u _ e=>by cases e⟩
omit [Special]in
theorem JF(q):sP Q (choose q):=by
 refine⟨λw b u c e=> ?_,λw g u _ e=> ?_,λw x u _ e=> ?_⟩
 ·simp only[choose,Sem.run]at e;split at e<;>(cases e;exact c)
 ·simp only[choose,Sem.run]at e;split at e<;>cases e
 ·simp only[choose,Sem.run]at e;split at e<;>cases e
omit [Special]in
theorem Tq(o)(h:Tidy o):sP Q (newObj o):=by
 refine⟨λw b u c e=> ?_,λw g u _ e=>(by cases e),λw x u _ e=>by cases e⟩;simp only[newObj,Sem.run,Result.ok.injEq]at e;obtain⟨_,rfl⟩:=e;intro i y x;simp only at x
 rw[agh]at x
 split at x
 ·grind
 ·exact c i y x
omit [Special]in
theorem a4b(c):sP Q (sys c):=by
 refine⟨λw b u l e=> ?_,λw g u _ e=>(by cases e),λw x u _ e=>by cases e⟩;simp only[sys,Sem.run,Result.ok.injEq]at e;obtain⟨_,rfl⟩:=e
 have ask:∀{h:Type}(a:Ask h)(w:World),(w.ask a).2.heap=w.heap:=by
  intro h a;induction a with
  |done a=>intro w;rfl
  |ask j d k n=>grind[World.ask]
 have f:(w.sys c).2.heap=w.heap:=by unfold World.sys;have:=ask (Kernel.perform c w.os) w;generalize w.ask (Kernel.perform c w.os)=x at this |-;obtain⟨⟨r,os⟩,m⟩:=x;cases r<;>first|rfl|exact this
 intro i y x
 rw[f]at x
 exact l i y x
theorem Ou(t):sP Q (typeInfo t):=jy nC λp=>by
 cases p.info? t with
 |none=>exact(aZ _).QY
 |some i=>exact fQ _
theorem jA(t):sP Q (Go.underlying t):=jy nC λp=>by
 cases p.underlying t with
 |none=>exact(aZ _).QY
 |some i=>exact fQ _
theorem Tt(t):sP Q (elemOf t):=jy (jA t) λd=>by cases d<;>first|exact fQ _|exact(aZ _).QY
theorem GG(t):sP Q (typeStr t):=jy (Ou t) λi=>by
 dsimp only;split
 ·constructor<;>simp_all
 ·exact fQ _
omit [Special]in
theorem Tu(t)(v):sP Q (newVar t v):=jy (Tq _ trivial) λn=>fQ _
theorem dL(e):Dead Q (runtimePanic e:Sem α):=by
 unfold runtimePanic
 grind[dW,nC,Tt,Tu,GD]
theorem xA(k)(x y)(c):Dead Q (boundsPanic k x y c:Sem α):=by
 unfold boundsPanic
 split<;>simp[dW,jy,JF,fQ,dL]
theorem ak{s}{b}:aG ok Q P F ρ (stuck s) b:=bE (aZ s)
def Lm:Unsupported->Bool
 | .initOrder _=>true
 |_=>false
theorem bL(u)(h:Lm u=false:=by rfl):Dead Q (unsupported u:Sem α):=wB λg e=>by subst e;cases h
theorem aF{u}{b}(h:Lm u=false:=by rfl):aG ok Q P F ρ (unsupported u) b:=bE (bL u h)
theorem dZ{e}{b}:aG ok Q P F ρ (runtimePanic e) b:=bE (dL e)
theorem l6{k}{x y}{c}{b}:aG ok Q P F ρ (boundsPanic k x y c) b:=bE (xA k x y c)
theorem fT:aG ok Q P (λ_ p b=>p=Q/\b=P) ρ program program:=.program ρ _ _ (.pure ρ _ _ ⟨rfl,rfl⟩)
theorem mJ(q):aG ok Q P sM ρ (choose q) (choose q):=.choose ρ q _ _ λn=>.pure ρ n n rfl
theorem WS(h:bI ρ a A):aG ok Q P VR ρ (load a) (load A):=.load ρ a A _ _ h λv v' b=>.pure ρ v v' b
theorem a7u(h:bI ρ a A)(b:VR ρ v v'):aG ok Q P sM ρ (store a v) (store A v'):=.store ρ a A v v' _ _ h b (.pure ρ _ _ rfl)
theorem rP{o c}(h:qd ok ρ o c)(f:kindOf o=some I):aG ok Q P (λb n d=>b n d I) ρ (newObj o) (newObj c):=
 .new ρ o c I _ _ h f λb n d _ e=>.pure b n d e
theorem nW(h:ρ r J I):aG ok Q P sM ρ (shape r) (shape J):=.shape ρ r J I _ _ h λs=>.pure ρ s s rfl
theorem Lp(h:bI ρ a A)(n):aG ok Q P sM ρ (freeze a n) (freeze A n):=.freeze ρ a A n _ _ h (.pure ρ _ _ rfl)
theorem GH(h:bI ρ a A):aG ok Q P sM ρ (frozen a) (frozen A):=.frozen ρ a A _ _ h λb=>.pure ρ b b rfl
theorem gU(h:ρ r J I):aG ok Q P (λc o b=>kindOf o=some I/\qd ok c o b) ρ (getObj r) (getObj J):=
 .getObj ρ r J I _ _ h λo b e d=>.pure ρ o b ⟨e,d⟩
theorem jR{o b}(h:ρ r J I)(e:I≠.chan)(d:kindOf o=some I)(c:qd ok ρ o b):aG ok Q P sM ρ (setObj r o) (setObj J b):=
 .setObj ρ r J I o b _ _ h e d c (.pure ρ _ _ rfl)
theorem a4c{m}(h:a4a m):aG ok Q P sM ρ (mark m) (mark m):=.mark ρ m _ _ h (.pure ρ _ _ rfl)
theorem IK(n):aG ok Q P sM ρ (askRoom n) (askRoom n):=by
 unfold askRoom;split
 ·exact a4c (.inl rfl)
 ·exact cz
omit [Special]in
theorem bI.block{a A}(h:bI ρ a A):∃k,ρ a.block A.block k:=by cases h with|mk b c e d k f=>exact⟨k,f⟩
omit [Special]in
theorem bI.off{a A}(h:bI ρ a A):a.off=A.off:=by cases h;rfl
omit [Special]in
theorem bI.spot{a A}(h:bI ρ a A):a.spot=A.spot:=by cases h;rfl
omit [Special]in
theorem bI.add{a A}(h:bI ρ a A)(n):bI ρ (a.add n) (A.add n):=by
 cases h with
 |mk b c e d k f=>
  unfold Addr.add;split
  ·exact .mk b c e d k f
  ·exact .mk b c (e+n) none k f
omit [Special]in
theorem bI.at_{b c d}{k}(h:ρ b c k):bI ρ ⟨b,d,none⟩ ⟨c,d,none⟩:=.mk b c d none k h
variable(V:Env Q P)
include V
theorem ky(t:TypeId):aG ok Q P (Dq λi=>Q.info? t=some i) ρ (typeInfo t) (typeInfo t):=by
 unfold typeInfo;refine aC fT λc _ p d⟨h,b⟩=> ?_
 subst h b
 rw[V.info]
 cases h:p.info? t with
 |none=>exact ak
 |some i=>exact aj ⟨rfl,rfl⟩
theorem aI(t:TypeId):aG ok Q P (Dq λd=>Q.underlying t=some d) ρ (underlying t) (underlying t):=by
 unfold Go.underlying;refine aC fT λc _ p e⟨h,b⟩=> ?_
 subst h b
 rw[V.underlying]
 cases h:p.underlying t with
 |none=>exact ak
 |some i=>exact aj ⟨rfl,rfl⟩
theorem jT{t:TypeId}(b:t<Q.types.size):aG ok Q P VR ρ (zeroValue t) (zeroValue t):=by
 unfold zeroValue;refine aC (ky V t) λf _ i g⟨e,d⟩=> ?_
 subst e;cases h:i.zero with
 |none=>exact aF
 |some z=>
  obtain⟨n,c⟩:=V.zero t i z b d h;exact aj (.plain n z c)
theorem dE(t:TypeId):aG ok Q P sM ρ (sizeOf t) (sizeOf t):=by
 unfold Go.sizeOf;refine aC (ky V t) λb _ i c⟨e,_⟩=> ?_
 subst e;exact cz
theorem ZE(t:TypeId):aG ok Q P sM ρ (isAgg t) (isAgg t):=by
 unfold isAgg;refine aC (aI V t) λb _ i c⟨e,_⟩=> ?_
 subst e;cases i<;>exact aj rfl
theorem Lr(t:TypeId):aG ok Q P (Dq λe=>Q.underlying t=some (.pointer e)) ρ (elemOf t) (elemOf t):=by
 unfold elemOf;refine aC (aI V t) λb _ i c⟨e,h⟩=> ?_
 subst e;cases i with
 |pointer e=>exact aj ⟨rfl,h⟩
 |_=>exact ak
omit V
theorem Ko(n):∀{ρ:Ren}(i:Nat){c b:Array Value},bI ρ a A->AR ρ c b->aG ok Q P AR ρ (loadCellsFrom a i n c) (loadCellsFrom A i n b):=by
 induction n with
 |zero=>intro ρ i c b h e;exact aj e
 |succ n f=>
  intro ρ i c b h e;unfold loadCellsFrom;exact aC (WS (h.add i)) λj d v v' g=>f (i+1) (h.mono d) ((e.mono d).push g)
theorem wC(h:bI ρ a A)(n):aG ok Q P AR ρ (loadCells a n) (loadCells A n):=Ko n 0 h .empty
inductive nO(ρ:Ren):List Value->List Value->Prop
 |nil:nO ρ [] []
 |cons {v v':Value} {l l':List Value} (h:VR ρ v v') (hl:nO ρ l l'):nO ρ (v::l) (v'::l')
theorem nO.mono{ρ b}(h:ρ.le b){l c}(x:nO ρ l c):nO b l c:=sO
theorem Tv:∀l c,l.length=c.length->(∀(i:Nat)v v',l[i]? =some v->c[i]? =some v'->VR ρ v v')->nO ρ l c
 |[],[],_,_=>.nil
 |[],_::_,h,_=>by cases h
 |_::_,[],h,_=>by cases h
 |a::l,b::c,h,k=>.cons (k 0 a b rfl rfl) (Tv l c (by simpa using h) λi v v' e d=>k (i+1) v v' (by simpa using e) (by simpa using d))
theorem AR.list{a A}(h:AR ρ a A):nO ρ a.toList A.toList:=
 Tv _ _ (by simpa using h.size) λi v v' e b=>h.at_ i v v' (by grind) (by grind)
theorem nO.length{l b}(h:nO ρ l b):l.length=b.length:=by
 induction h with
 |nil=>rfl
 |cons _ _ c=>simp[c]
theorem nO.at_{l b}(h:nO ρ l b):∀(i:Nat)v v',l[i]? =some v->b[i]? =some v'->VR ρ v v':=by induction h<;>grind
theorem nO.array{l b}(h:nO ρ l b):AR ρ l.toArray b.toArray:=⟨by simpa using h.length,λi v v' e c=>h.at_ i v v' (by grind) (by grind)⟩
theorem qh{a A}:∀{ρ:Ren}(l c:List Value)(i:Nat),bI ρ a A->nO ρ l c->aG ok Q P sM ρ (storeCells a l i) (storeCells A c i)
 |ρ,_,_,i,h,.nil=>by unfold storeCells;exact cz
 |ρ,_,_,i,h,.cons d e=>by unfold storeCells;exact aC (a7u (h.add i) d) λf b _ _ _=>qh _ _ (i+1) (h.mono b) (e.mono b)
include V
theorem O9(t:TypeId)(h:bI ρ a A):aG ok Q P VR ρ (loadVar t a) (loadVar t A):=by
 unfold loadVar;refine aC (ZE V t) λm d b j e=> ?_
 cases (show b=j from e);cases b with
 |false=>exact WS (h.mono d)
 |true=>
  refine aC (dE V t) λl f n g e=> ?_
  cases (show n=g from e);exact aC (wC ((h.mono d).mono f) n) λk _ c o i=>aj (.Lg i)
theorem WT(t:TypeId)(h:bI ρ a A)(c:VR ρ v v'):aG ok Q P sM ρ (storeVar t a v) (storeVar t A v'):=by
 unfold storeVar;refine aC (dE V t) λf b n d e=> ?_
 cases (show n=d from e)
 rw[<-c.cells.size]
 split
 ·exact bE (bH (aZ _))
 ·exact qh _ _ 0 (h.mono b) (c.mono b).cells.list
omit V
theorem qi{c b}(t)(h:AR ρ c b):aG ok Q P bI ρ (newRow t c) (newRow t b):=by unfold newRow;exact aC (rP (.cells c b t (0,0) h) rfl) λe _ n f d=>aj (.at_ d)
theorem Tw(t)(h:VR ρ v v'):aG ok Q P bI ρ (newVar t v) (newVar t v'):=qi t h.cells
include V
theorem Dr{c i:Array Value}(t:TypeId)(h:AR ρ c i)(d:Nat):aG ok Q P VR ρ (part t c d) (part t i d):=by
 unfold part;refine aC (ZE V t) λp f b m e=> ?_
 cases (show b=m from e);cases b with
 |false=>
  simp only[afI,ag6];cases e:c[d]? with
  |none=>exact ak
  |some v=>
   obtain⟨v',l,k⟩:=h.get e
   rw[l]
   exact aj (k.mono f)
 |true=>
  refine aC (dE V t) λo g n j e=> ?_
  cases (show n=j from e);exact aj (.Lg (((h.mono f).mono g).extract _ _))
omit V
def ZF{d:Type}(c:Ren)(o b:Option (Addr×d)):Prop:=(o=none/\b=none)\/∃a A t,o=some (a,t)/\b=some (A,t)/\bI c a A
omit [Special]in
theorem ZF.isSome{c}{o b:Option (Addr×c)}(h:ZF ρ o b):b.isSome=o.isSome:=by obtain⟨rfl,rfl⟩|⟨a,A,t,rfl,rfl,_⟩:=h<;>rfl
theorem GI(h:ρ r J I):aG ok Q P ZF ρ (viewAt r) (viewAt J):=by
 unfold viewAt;refine aC (nW h) λi b s c e=> ?_
 cases (show s=c from e);cases s with
 |some x=>exact aj (.inl ⟨rfl,rfl⟩)
 |none=>
  refine aC (gU (b _ _ _ h)) λg _ o j⟨_,d⟩=> ?_
  cases d with
  |view a A t f=>exact aj (.inr ⟨a,A,t,rfl,rfl,f⟩)
  |_=>exact aj (.inl ⟨rfl,rfl⟩)
theorem Ls(h:ρ r J I):aG ok Q P ZF ρ (numberAt r) (numberAt J):=by
 unfold numberAt;refine aC (nW h) λi b s c e=> ?_
 cases (show s=c from e);cases s with
 |some x=>exact aj (.inl ⟨rfl,rfl⟩)
 |none=>
  refine aC (gU (b _ _ _ h)) λg _ o j⟨_,d⟩=> ?_
  cases d with
  |number a A t f=>exact aj (.inr ⟨a,A,t,rfl,rfl,f⟩)
  |_=>exact aj (.inl ⟨rfl,rfl⟩)
theorem a0t(h:ρ r J I):aG ok Q P sM ρ (cellsIn r) (cellsIn J):=by
 unfold cellsIn;refine aC (nW h) λg b s c e=> ?_
 cases (show s=c from e);cases s with
 |some x=>exact aj rfl
 |none=>
  refine aC (gU (b _ _ _ h)) λf _ o i⟨_,d⟩=> ?_
  cases d<;>exact aj rfl
theorem iV(h:bI ρ a A):aG ok Q P (λd x e=>bI d x.1 e.1/\x.2=e.2) ρ (behindNumber a) (behindNumber A):=by
 unfold behindNumber;obtain⟨k,g⟩:=h.block;refine aC (Ls g) λd c o i f=> ?_
 obtain⟨rfl,rfl⟩|⟨b,l,t,rfl,rfl,j⟩:=f
 ·exact aj ⟨h.mono c,rfl⟩
 grind[aj]
theorem Lt(h:bI ρ a A)(l):aG ok Q P VR ρ (asNumber a l) (asNumber A l):=by unfold asNumber;exact aC (rP (.number _ _ _ h) rfl) λc _ n d b=>aj (.ptr _ _ (.at_ b))
theorem Lu(h:bI ρ a A):aG ok Q P sM ρ (noView a) (noView A):=by
 unfold noView;obtain⟨k,d⟩:=h.block;refine aC (GI d) λe b o f c=> ?_
 rw[c.isSome]
 split
 ·exact aF
 ·exact cz
theorem sQ(h:bI ρ a A):aG ok Q P sM ρ (markStringish a) (markStringish A):=by
 unfold markStringish;obtain⟨k,c⟩:=h.block;refine aC (nW c) λf b s d e=> ?_
 cases (show s=d from e);cases s with
 |some x=>obtain⟨t,n⟩:=x;exact Lp (.at_ (b _ _ _ c)) 1
 |none=>exact aj rfl
theorem JG(h:bI ρ a A):aG ok Q P sM ρ (stringish a) (stringish A):=by
 unfold stringish;obtain⟨k,f⟩:=h.block;refine aC (GH h) λl c b i e=> ?_
 cases (show b=i from e);cases b with
 |true=>exact aj rfl
 |false=>
  refine aC (nW (c _ _ _ f)) λj d s g e=> ?_
  cases (show s=g from e);cases s with
  |some x=>obtain⟨t,n⟩:=x;exact GH (.at_ (d _ _ _ (c _ _ _ f)))
  |none=>exact aj rfl
theorem WU{b m}(h:bI ρ a A)(k:bI ρ b m):aG ok Q P sM ρ (mayBeOne a b) (mayBeOne A m):=by
 unfold mayBeOne
 have l:∀{i:Ren}{x d:Addr},bI i x d->aG ok Q P sM i (do Pure.pure ((<-shape x.block) matches some (_,0)):Sem Bool) (do Pure.pure ((<-shape d.block) matches some (_,0)):Sem Bool):=by
  intro i x d q;obtain⟨I,E⟩:=q.block;refine aC (nW E) λo _ s C e=> ?_
  cases (show s=C from e);exact cz
 refine aC (JG h) λi c x d e=> ?_
 cases (show x=d from e);refine aC (JG (k.mono c)) λo f y w e=> ?_
 cases (show y=w from e);refine aC (l (h.mono (Ren.le_trans c f))) λK j z p e=> ?_
 cases (show z=p from e);refine aC (l (k.mono (Ren.le_trans c (Ren.le_trans f j)))) λH D u B e=> ?_
 cases (show u=B from e);exact cz
end
end
end Go.Proofs.Zb
