import GoSem.Dispatch
import Derived.Test.YtkdjjnkpfpogkaaGreatDoorK02
set_option maxHeartbeats 8000000
set_option linter.all false
namespace Go.Proofs.Zb
variable{v v':Value}{U I L J O A:Option Value}{t:TypeId}
section
variable[Special]
section
variable{V:Code->Prop}{Q P:Program}{ρ:Ren}{α Y Z X:Type}{F:Ren->α->Y->Prop}{G:Ren->Z->X->Prop}
theorem aP{γ:Type}{s d:Sem γ}{k}{f}(h:aG V Q P sM ρ s d)(g:∀b,ρ.le b->∀a,aG V Q P G b (k a) (f a)):aG V Q P G ρ (s>>= k) (d>>= f):=
 h.bind λb c a i e=>by cases (show a=i from e);exact g b c a
theorem bZ{g:Type}{p}{s d:Sem g}{k}{f}(h:aG V Q P (Dq p) ρ s d)(j:∀b,ρ.le b->∀a,p a->aG V Q P G b (k a) (f a)):aG V Q P G ρ (s>>= k) (d>>= f):=
 h.bind λb c a l⟨e,i⟩=>by cases (show a=l from e);exact j b c a i
theorem AR.abL{a b}(x:AR ρ a b)(i:Nat):VR ρ a[i]! b[i]! :=by
 rw[Array.getElem!_eq_getD,Array.getElem!_eq_getD,afM,afM]
 cases e:a[i]? with
 |none=>rw[x.none e];exact .bool _
 |some v=>obtain⟨v',c,h⟩:=x.get e;rw[c];exact h
theorem AR.rep{a b}(x:AR ρ a b)(n):AR ρ ((Array.range n).map (a[· %a.size]!)) ((Array.range n).map (b[· %b.size]!)):=
 AR.map (Array.range n) λi _=>by rw[<-x.size];exact x.abL _
theorem vE(h:VR ρ v v'):aG V Q P bI ρ (Instr.sureAddr v) (Instr.sureAddr v'):=by unfold Instr.sureAddr;cases h<;>grind[aj,ak]
theorem Tx(h:VR ρ v v'):aG V Q P bI ρ (asAddr v) (asAddr v'):=by unfold asAddr;cases h<;>grind[aj,dZ,ak]
theorem xB(h:VR ρ v v'):aG V Q P sM ρ (asIntOf v) (asIntOf v'):=by
 unfold asIntOf;cases h with
 |int k n=>exact aj rfl
 |ptr a c b=>exact aF
 |_=>exact ak
theorem wE(h:VR ρ v v'):aG V Q P sM ρ (asInt v) (asInt v'):=aP (xB h) λ_ _ _=>aj rfl
theorem Ty(h:VR ρ v v'):aG V Q P sM ρ (asBool v) (asBool v'):=by
 unfold asBool;cases h with
 |bool b=>exact aj rfl
 |_=>exact ak
theorem a7v(h:VR ρ v v'):aG V Q P AR ρ (asAgg v) (asAgg v'):=by
 unfold asAgg;cases h with
 |agg a d c b=>exact aj ⟨c,b⟩
 |_=>exact ak
inductive yu(ρ:Ren):Option Value->Option Value->Prop
 |none:yu ρ none none
 |some {v v':Value} (h:VR ρ v v'):yu ρ (some v) (some v')
theorem yu.mono{a}(h:ρ.le a){o b}(x:yu ρ o b):yu a o b:=by
 cases x with
 |none=>exact .none
 |some c=>exact .some (c.mono h)
theorem uW(h:VR ρ v v')(y)(c):aG V Q P sM ρ (Instr.sliceBound v y c) (Instr.sliceBound v' y c):=by
 unfold Instr.sliceBound;refine aP (xB h) λa _ x=> ?_
 obtain⟨k,i⟩:=x;dsimp only;split
 ·exact cz
 ·exact l6
theorem zG(v)(y)(c):sP Q (Instr.sliceBound v y c):=by
 unfold Instr.sliceBound;refine jy ?_ λx=> ?_
 ·unfold asIntOf
  split
  ·exact fQ _
  ·constructor<;>simp_all
  ·exact(aZ _).QY
 ·dsimp only
  split
  ·exact fQ _
  ·exact(xA _ _ _ _).QY
theorem nP(b)(e g)(d:yu ρ U I)(f:yu ρ L J)(i:yu ρ O A):
  aG V Q P sM ρ (Instr.sliceBounds b e g U L O) (Instr.sliceBounds b e g I J A):=by
 unfold Instr.sliceBounds;cases i with
 |none=>
  cases f with
  |none=>
   refine aP (aj rfl) λn a m=>aP (aj rfl) λk c h=> ?_
   exact sS
  |some j=>
   refine aP (aj rfl) λn a m=>aP (uW (j.mono a) _ _) λk c h=> ?_
   exact sS
 |some o=>
  cases f with
  |none=>grind[bE,dW,zG,bH,aZ]
  |some j=>
   refine aP (uW o _ _) λn a m=>aP (uW (j.mono a) _ _) λk c h=> ?_
   exact sS
theorem rD(h:VR ρ v v')(c):aG V Q P (Dq λn=>n=0) ρ (Instr.sliceBound v 0 c) (Instr.sliceBound v' 0 c):=by
 unfold Instr.sliceBound;refine aP (xB h) λa _ x=> ?_
 obtain⟨k,i⟩:=x;dsimp only;split
 ·rename_i L
  exact aj ⟨rfl,by omega⟩
 ·exact l6
theorem Lv(b)(f:yu ρ U I)(j:yu ρ L J)(k:yu ρ O A):
  aG V Q P (Dq λx=>x=(0,0,0)) ρ (Instr.sliceBounds b 0 0 U L O) (Instr.sliceBounds b 0 0 I J A):=by
 unfold Instr.sliceBounds;cases k with
 |none=>
  cases j with
  |none=>
   refine bZ (p:=λn=>n=0) (aj ⟨rfl,rfl⟩) λo a m d=>bZ (p:=λn=>n=0) (aj ⟨rfl,rfl⟩) λi g h e=> ?_
   subst d e
   (cases f with|none=>exact bZ (p:=λn=>n=0) (aj ⟨rfl,rfl⟩) λ_ _ l c=>aj ⟨rfl,by rw[c]⟩|some c=>exact bZ (rD (c.mono (Ren.le_trans a g)) _) λ_ _ l c=>aj ⟨rfl,by rw[c]⟩)
  |some e=>
   refine bZ (p:=λn=>n=0) (aj ⟨rfl,rfl⟩) λo a m d=> ?_
   exact zy
 |some d=>
  cases j with
  |none=>grind[bE,dW,zG,bH,aZ]
  |some e=>
   refine bZ (rD d _) λo a m d=> ?_
   exact zy
inductive wW(ρ:Ren):List (Nat×Value)->List (Nat×Value)->Prop
 |nil:wW ρ [] []
 |cons {i:Nat} {v v':Value} {l l':List (Nat×Value)} (h:VR ρ v v') (hl:wW ρ l l'):wW ρ ((i,v)::l) ((i,v')::l')
theorem wW.mono{a}(h:ρ.le a){l b}(x:wW ρ l b):wW a l b:=sO
theorem WV{l:List (Nat×Operand)}{f g:Operand->Value}(h:∀x∈l,VR ρ (f x.2) (g x.2)):wW ρ (l.map λ(i,x)=>(i,f x)) (l.map λ(i,x)=>(i,g x)):=by
 induction l with
 |nil=>exact .nil
 |cons x l a=>constructor<;>grind
theorem Pb{a}:∀(l b:List (Value×Nat)){c g:Array Value},l.map (·.2)=b.map (·.2)->nO ρ (l.map (·.1)) (b.map (·.1))->AR ρ c g->
  AR ρ (l.foldl (λf(x,j)=>f.setIfInBounds (a+j) x) c) (b.foldl (λf(x,j)=>f.setIfInBounds (a+j) x) g)
 |[],[],_,_,_,_,h=>h
 |[],_::_,_,_,e,_,_=>by cases e
 |_::_,[],_,_,e,_,_=>by cases e
 |(v,i)::l,(v',m)::b,c,g,e,d,h=>by
  simp only[List.map_cons,agK]at e;obtain⟨rfl,e⟩:=e;cases d with
  |cons k d=>exact Pb l b e d (h.set _ k)
omit [Special]in
theorem WW{b:Type}(l a:List b)(h:l.length=a.length):l.zipIdx.map (·.2)=a.zipIdx.map (·.2):=by simp_all
theorem WX(b):∀{l g:List (Nat×Value)}{c e:Array Value},wW ρ l g->AR ρ c e->
  (Instr.fill b c l=none/\Instr.fill b e g=none)\/∃d p,Instr.fill b c l=some d/\Instr.fill b e g=some p/\AR ρ d p:=by
 intro l g c e s;induction s generalizing c e with
 |nil=>intro h;exact .inr ⟨c,e,rfl,rfl,h⟩
 |@cons i v v' l g n _ q=>
  intro h;unfold Instr.fill;cases b i with
  |none=>simp
  |some x=>
   obtain⟨f,m⟩:=x;dsimp only;have r:=n.cells.size
   rw[<-r,<-h.size]
   split
   ·simp
   ·apply q
    have o:∀(a:Array Value)(z:Array Value),(a.zipIdx.foldl (λk(c,j)=>k.setIfInBounds (f+j) c) z)=(a.toList.zipIdx.foldl (λk(c,j)=>k.setIfInBounds (f+j) c) z):=by
     intro a z
     rw[<-Array.foldl_toList]
     congr 1
     simp
    rw[o,o]
    refine Pb _ _ (WW _ _ (by omega)) ?_ h
    rw[List.zipIdx_map_fst,List.zipIdx_map_fst]
    exact n.cells.list
variable(env:Env Q P)
include env
theorem a7w(c:t<Q.types.size):aG V Q P VR ρ (Instr.alloc t true (.tuple #[])) (Instr.alloc t true (.tuple #[])):=by
 unfold Instr.alloc;refine aC (jT env c) λf _ z g b=> ?_
 exact aC (Tw t b) λe _ a h d=>aj (.ptr _ _ d)
omit env in
theorem abM(t)(h:VR ρ v v'):aG V Q P VR ρ (Instr.box t v) (Instr.box t v'):=by unfold Instr.box;exact aC (Tw t h) λc _ a d b=>aj (.ptr _ _ b)
theorem a4d(t:TypeId)(h:VR ρ v v'):aG V Q P VR ρ (Instr.loadAt t v) (Instr.loadAt t v'):=
 aC (vE h) λ_ _ _ _ a=>O9 env t a
theorem a0u{x b:Value}(t:TypeId)(h:VR ρ v v')(c:VR ρ x b):aG V Q P sM ρ (Instr.storeAt t v x) (Instr.storeAt t v' b):=
 aC (vE h) λ_ a _ _ d=>WT env t d (c.mono a)
theorem Tz(a:List Field):aG V Q P sM ρ (a.mapM λf=>do pure (f.offset,<-Go.sizeOf f.type)) (a.mapM λf=>do pure (f.offset,<-Go.sizeOf f.type)):=by
 induction a generalizing ρ with
 |nil=>simp only[List.mapM_nil];exact aj rfl
 |cons f a b=>
  simp only[ah6];refine aP ?_ λd _ x=>aP b λc _ y=>aj rfl
  exact aP (dE env _) λ_ _ _=>aj rfl
theorem a7x(u:t<Q.types.size){l q:Array (Nat×Value)}(h:wW ρ l.toList q.toList):aG V Q P VR ρ (Instr.build t l) (Instr.build t q):=by
 unfold Instr.build;refine aC (jT env u) λy j z B r=> ?_
 refine bZ (aI env t) λx f d C=> ?_
 cases d with
 |struct o=>
  refine aP (γ:=Array (Nat×Nat)) ?_ λs a b=> ?_
  ·rw[Array.mapM_eq_mapM_toList]
   simp only[map_eq_pure_bind];exact aP (Tz env _) λ_ _ _=>aj rfl
  ·obtain⟨e,m⟩|⟨c,w,e,m,p⟩:=WX (b[·]?) (h.mono (Ren.le_trans j (Ren.le_trans f a))) (r.mono (Ren.le_trans f a)).cells
   ·rw[e];exact ak
   ·rw[e,m];exact aj (.Lg p)
 |array n k=>
  refine aP (dE env k) λs a g=> ?_
  obtain⟨e,m⟩|⟨c,w,e,m,p⟩:=WX (λi=>some (i*g,g)) (h.mono (Ren.le_trans j (Ren.le_trans f a))) (r.mono (Ren.le_trans f a)).cells
  ·rw[e];exact ak
  ·rw[e,m];exact aj (.Lg p)
 |_=>exact ak
theorem QZ(x:t<Q.types.size)(f:Nat){l u:Array (Nat×Value)}(h:wW ρ l.toList u.toList):aG V Q P VR ρ (Instr.buildSlice t f l) (Instr.buildSlice t f u):=by
 unfold Instr.buildSlice;refine bZ (aI env t) λH s d B=> ?_
 cases d with
 |slice j=>
  have y:j<Q.types.size:=env.kids t _ x B j (by simp[Dp]);refine aP (dE env j) λE r b=> ?_
  dsimp only;split
  ·exact bW
  have q:∀{o:Ren},ρ.le o->∀z p,AR o z p->aG V Q P VR o
    (match Instr.fill (λi=>some (i*b,b)) ((Array.range (f*b)).map (z[· %z.size]!)) l.toList with
     |some cells=>do pure (.slice (some (<-newRow j cells)) f f)
     |_=>stuck "buildSlice: a part of the wrong size")
    (match Instr.fill (λi=>some (i*b,b)) ((Array.range (f*b)).map (p[· %p.size]!)) u.toList with
     |some cells=>do pure (.slice (some (<-newRow j cells)) f f)
     |_=>stuck "buildSlice: a part of the wrong size"):=by
   intro o k z p m;obtain⟨e,w⟩|⟨c,K,e,w,C⟩:=WX (λi=>some (i*b,b)) (h.mono k) (m.rep (f*b))
   ·rw[e];exact ak
   ·rw[e,w];exact aC (qi j C) λ_ _ a M D=>aj (.slice _ _ _ _ D)
  by_cases m:f*b=0
  ·simp only[afN m]
   exact q (Ren.le_trans s r) _ _ AR.empty
  ·simp only[afJ m]
   exact aC (jT env y) λo k z p m=>q (Ren.le_trans s (Ren.le_trans r k)) _ _ m.cells
 |_=>exact ak
omit env in
theorem Lx{a l}(h:bI ρ a l)(env:Env Q P):aG V Q P sM ρ (byteOf a) (byteOf l):=by
 unfold byteOf
 rw[<-h.spot]
 cases K:a.spot with
 |some s=>exact aj rfl
 |none=>
  refine aC fT λH f p c⟨e,C⟩=> ?_
  subst e C;obtain⟨k,q⟩:=h.block;refine aP (Lu (h.mono f)) λE j _=> ?_
  refine aP (nW (j _ _ _ (f _ _ _ q))) λD o s=> ?_
  cases s with
  |none=>exact ak
  |some x=>
   obtain⟨e,n⟩:=x;have B:c.cellsOf e=p.cellsOf e:=by unfold Program.cellsOf;rw[env.tables]
   have z:c.bytesOf e=p.bytesOf e:=by unfold Program.bytesOf;rw[env.tables]
   have y:c.depth=p.depth:=by unfold Program.depth;rw[env.tables]
   have w:∀d t i,byteOfCell c d t i=byteOfCell p d t i:=by
    intro d;induction d with
    |zero=>intro t i;rfl
    |succ d m=>
     intro t i;unfold byteOfCell;have u:∀t,c.cellsOf t=p.cellsOf t:=λt=>by unfold Program.cellsOf;rw[env.tables]
     have r:∀t,c.bytesOf t=p.bytesOf t:=λt=>by unfold Program.bytesOf;rw[env.tables]
     simp only[env.underlying,u,r,m]
   dsimp only
   rw[B,z,y,w,h.off]
   split
   ·exact cz
   ·cases byteOfCell p p.depth e (l.off%p.cellsOf e)with
    |none=>exact ak
    |some b=>exact aj rfl
theorem a4e{a f:Addr}(h:bI ρ a f)(c b:Nat):aG V Q P bI ρ (partAt a c b) (partAt f c b):=by
 unfold partAt;obtain⟨k,i⟩:=h.block;refine aP (Lx h env) λl e x=> ?_
 rw[h.off]
 have j:∀{g:Ren},ρ.le g->bI g ({block:=a.block,off:=f.off+c}:Addr) {block:=f.block,off:=f.off+c}:=λd=>.at_ (d _ _ _ i)
 refine aP (Lx (j e) env) λg d y=> ?_
 refine aj ?_;split
 ·grind[Ren.le_trans]
 ·exact .mk _ _ _ _ k (d _ _ _ (e _ _ _ i))
theorem Q0{a c:Addr}(h:bI ρ a c)(f:Field):aG V Q P bI ρ (fieldPlace a f) (fieldPlace c f):=by
 unfold fieldPlace;refine aP (dE env _) λd b n=> ?_
 split
 ·exact a4e env (h.mono b) _ _
 ·exact aj ((h.mono b).add _)
theorem a0v(s:TypeId)(h:VR ρ v v')(f:Nat):aG V Q P VR ρ (Instr.fieldAt s v f) (Instr.fieldAt s v' f):=by
 unfold Instr.fieldAt;refine bZ (aI env s) λk e d _=> ?_
 cases d with
 |struct c=>
  dsimp only;cases c[f]? with
  |none=>exact ak
  |some x=>
   refine aC (vE (h.mono e)) λj _ a m i=> ?_
   exact aC (Q0 env i x) λ_ _ b l g=>aj (.ptr _ _ g)
 |_=>exact ak
theorem a0w{i B:Value}(t:TypeId)(h:VR ρ v v')(L:VR ρ i B):aG V Q P VR ρ (Instr.indexAt t v i) (Instr.indexAt t v' B):=by
 unfold Instr.indexAt;refine aP (xB L) λE q x=> ?_
 obtain⟨k,n⟩:=x
 have j:∀{w:Ren}(b u:Option Addr)(e:Nat)(c:TypeId),((b=none/\u=none)\/(∃a o,b=some a/\u=some o/\bI w a o)\/∃g a,b=some g/\u=some a/\e=0)->aG V Q P VR w
   (do
    let f:=e<=1&&(match <-underlying t with| .array .. =>true|_=>false)
    match b with
    |some a=>
     if 0<=n/\n<e then pure (.pointer (some (a.add (n.toNat*(<-Go.sizeOf c)))))
     else if f then unsupported (.noEntry "op/indexAddr.an index out of range at an array of length 0 or 1 (ledger 616)")
     else boundsPanic k n e .index
    |none=>boundsPanic k n 0 .index:Sem Value)
   (do
    let f:=e<=1&&(match <-underlying t with| .array .. =>true|_=>false)
    match u with
    |some a=>
     if 0<=n/\n<e then pure (.pointer (some (a.add (n.toNat*(<-Go.sizeOf c)))))
     else if f then unsupported (.noEntry "op/indexAddr.an index out of range at an array of length 0 or 1 (ledger 616)")
     else boundsPanic k n e .index
    |none=>boundsPanic k n 0 .index:Sem Value):=by
  intro w b u e c C;refine bZ (aI env t) λD z d _=> ?_
  obtain⟨rfl,rfl⟩|⟨a,o,rfl,rfl,r⟩|⟨g,a,rfl,rfl,rfl⟩:=C
  ·exact l6
  ·dsimp only
   split
   ·exact aP (dE env _) λ_ y s=>aj (.ptr _ _ (((r.mono z).mono y).add _))
   ·exact zB
  ·dsimp only
   split
   ·simp<;>omega
   ·exact zB
 refine bZ (aI env t) λw p d _=> ?_
 cases d with
 |array e c=>exact aC (vE ((h.mono q).mono p)) λ_ _ a o r=>j (some a) (some o) e c (.inr (.inl ⟨a,o,rfl,rfl,r⟩))
 |slice c=>
  cases h with
  |eU l m=>exact j none none l c (.inl ⟨rfl,rfl⟩)
  |slice a o l m r=>exact j (some a) (some o) l c (.inr (.inl ⟨a,o,rfl,rfl,(r.mono q).mono p⟩))
  |empty g a H=>exact j (some g) (some a) 0 c (.inr (.inr ⟨g,a,rfl,rfl,rfl⟩))
  |_=>exact bE (bH (aZ _))
 |_=>exact bE (bH (aZ _))
theorem a7y(t:TypeId)(h:VR ρ v v')(p:yu ρ U I)(q:yu ρ L J)(k:yu ρ O A):
  aG V Q P VR ρ (Instr.slice t v U L O) (Instr.slice t v' I J A):=by
 unfold Instr.slice;refine bZ (aI env t) λW b d _=> ?_
 cases d with
 |string=>
  cases h with
  |string s=>
   cases k with
   |some _=>exact bE (bH (aZ _))
   |none=>
    simp only[agU,afI,ag6];exact aP (nP _ _ _ (p.mono b) (q.mono b) .none) λ_ _ x=>aj (.string _)
  |_=>exact ak
 |slice u=>
  cases h with
  |eU n m=>
   refine aP (nP _ _ _ (p.mono b) (q.mono b) (k.mono b)) λw _ x=>aP (dE env _) λ_ _ s=>aj ?_
   try dsimp only
   split<;>exact .eU _ _
  |empty g a N=>
   refine bZ (Lv true (p.mono b) (q.mono b) (k.mono b)) λw j x B=>aP (dE env _) λM f s=>aj ?_
   subst B
   try dsimp only
   rw[afN rfl,afN rfl]
   exact .empty _ _ (N.imp λc y=>f _ _ _ (j _ _ _ (b _ _ _ y)))
  |slice a R n m E=>
   refine aP (nP _ _ _ (p.mono b) (q.mono b) (k.mono b)) λw j x=>aP (dE env _) λM f s=>aj ?_
   have r:=(E.mono b).mono (Ren.le_trans j f)
   try dsimp only
   split
   ·exact af'
   ·exact .slice _ _ _ _ (r.add _)
  |_=>exact ak
 |pointer H=>
  refine aC (Tx (h.mono b)) λw j a R E=> ?_
  refine bZ (aI env H) λM f d _=> ?_
  cases d with
  |array n u=>
   have D:=Ren.le_trans b (Ren.le_trans j f);refine aP (nP _ _ _ (p.mono D) (q.mono D) (k.mono D)) λT C x=>aP (dE env _) λS z s=>aj ?_
   have r:=E.mono (Ren.le_trans f (Ren.le_trans C z))
   try dsimp only
   split
   ·exact af'
   ·exact .slice _ _ _ _ (r.add _)
  |_=>exact ak
 |_=>exact ak
theorem a0x(t:TypeId)(h:VR ρ v v')(f:yu ρ U I)(g:yu ρ L J)(c:yu ρ O A):
  aG V Q P VR ρ (Instr.sliceAt t v U L O) (Instr.sliceAt t v' I J A):=by
 unfold Instr.sliceAt;refine bZ (aI env t) λC b d _=> ?_
 cases d with
 |array n r=>
  refine aC (vE (h.mono b)) λB m a D u=> ?_
  have p:=Ren.le_trans b m;refine aP (nP _ _ _ (f.mono p) (g.mono p) (c.mono p)) λz k x=>aP (dE env _) λw j s=>aj ?_
  have q:=u.mono (Ren.le_trans k j)
  try dsimp only
  split
  ·exact af'
  ·exact .slice _ _ _ _ (q.add _)
 |_=>exact a7y env t (h.mono b) (f.mono b) (g.mono b) (c.mono b)
theorem Kq(t:TypeId)(h:VR ρ v v'):aG V Q P VR ρ (Instr.makeInterface t v) (Instr.makeInterface t v'):=by
 unfold Instr.makeInterface;refine bZ (aI env t) λb a d _=> ?_
 cases d with
 |interface m=>exact ak
 |_=>exact aj (.iface _ _ _ (h.mono a))
theorem a0y(t:TypeId){o f:Option Value}(h:yu ρ o f):aG V Q P VR ρ (Instr.makeMap t o) (Instr.makeMap t f):=by
 unfold Instr.makeMap
 have a:∀{b:Ren},aG V Q P VR b (do pure (.map (some (<-newObj (.map #[] 0)))):Sem Value) (do pure (.map (some (<-newObj (.map #[] 0)))):Sem Value):=λ{b}=>
  aC (rP (.map _ _ _ ⟨rfl,λi e p h=>by simp at h⟩) rfl) λl _ n m j=>aj (.map _ _ j)
 cases h with
 |none=>exact a
 |some g=>
  refine bZ (aI env t) λb c d _=> ?_
  cases d with
  |map k e=>exact aP (wE (g.mono c)) λ_ _ _=>a
  |_=>exact bE (bH (aZ _))
theorem TA(x:t<Q.types.size){l r c u:Value}(y:VR ρ l r)(D:VR ρ c u):aG V Q P VR ρ (Instr.makeSlice t l c) (Instr.makeSlice t r u):=by
 unfold Instr.makeSlice;refine bZ (aI env t) λR h d C=> ?_
 cases d with
 |slice b=>
  have B:b<Q.types.size:=env.kids t _ x C b (by simp[Dp]);refine aP (wE (y.mono h)) λN o n=> ?_
  refine aP (wE ((D.mono h).mono o)) λk w m=> ?_
  refine bZ (ky env b) λM _ i _=> ?_
  have H:∀{q:Ren},aG V Q P VR q
    (do
     askRoom ((IntKind.i64.wrap m).toNat*i.bytes)
     let f:=(IntKind.i64.wrap m).toNat*(<-Go.sizeOf b)
     let e <-if f=0 then pure #[]else do pure (<-zeroValue b).cells
     let a <-newRow b ((Array.range f).map (e[· %e.size]!))
     pure (.slice (some a) (IntKind.i64.wrap n).toNat (IntKind.i64.wrap m).toNat):Sem Value)
    (do
     askRoom ((IntKind.i64.wrap m).toNat*i.bytes)
     let f:=(IntKind.i64.wrap m).toNat*(<-Go.sizeOf b)
     let e <-if f=0 then pure #[]else do pure (<-zeroValue b).cells
     let a <-newRow b ((Array.range f).map (e[· %e.size]!))
     pure (.slice (some a) (IntKind.i64.wrap n).toNat (IntKind.i64.wrap m).toNat):Sem Value):=by
   intro q;refine aP (IK _) λ_ _ _=>aP (dE env b) λK _ s=> ?_
   dsimp only
   have g:∀{k:Ren}{z j:Array Value},AR k z j->aG V Q P VR k
     (do let a <-newRow b ((Array.range ((IntKind.i64.wrap m).toNat*s)).map (z[· %z.size]!));pure (.slice (some a) (IntKind.i64.wrap n).toNat (IntKind.i64.wrap m).toNat):Sem Value)
     (do let a <-newRow b ((Array.range ((IntKind.i64.wrap m).toNat*s)).map (j[· %j.size]!));pure (.slice (some a) (IntKind.i64.wrap n).toNat (IntKind.i64.wrap m).toNat):Sem Value):=λp=>
    aC (qi b (p.rep _)) λ_ _ a S E=>aj (.slice _ _ _ _ E)
   split
   ·exact g AR.empty
   ·exact aC (jT env B) λ_ _ z j p=>g p.cells
  dsimp only
  split<;>grind[bE,bH,dL,dW,JF]
 |_=>exact ak
theorem adr(t:TypeId)(h:VR ρ v v')(f:Nat):aG V Q P VR ρ (Instr.field t v f) (Instr.field t v' f):=by
 unfold Instr.field;refine bZ (aI env t) λg b d _=> ?_
 cases d with
 |struct a=>
  dsimp only;cases a[f]? with
  |none=>exact ak
  |some x=>exact aC (a7v (h.mono b)) λ_ _ c i e=>Dr env _ e _
 |_=>exact ak
theorem a7z{i f:Value}(t:TypeId)(h:VR ρ v v')(L:VR ρ i f):aG V Q P VR ρ (Instr.index t v i) (Instr.index t v' f):=by
 unfold Instr.index;refine aP (xB L) λq e x=> ?_
 obtain⟨k,n⟩:=x;refine bZ (aI env t) λp c d _=> ?_
 cases d with
 |array j g=>
  cases h with
  |agg a r m l=>
   dsimp only;split
   ·exact aP (dE env _) λo b s=>Dr env _ (AR.mono (Ren.le_trans e (Ren.le_trans c b)) ⟨m,l⟩) _
   ·exact l6
  |_=>exact ak
 |string=>
  cases h with
  |string s=>
   dsimp only;split
   ·exact aj (.int _ _)
   ·exact l6
  |_=>exact ak
 |_=>exact ak
omit env in
theorem a0z(h:VR ρ v v')(i):aG V Q P VR ρ (Instr.extract v i) (Instr.extract v' i):=by
 unfold Instr.extract;cases h with
 |undef _ _=>simp[agZ,age,Nat.not_lt_zero,ak]<;>omega
 |tuple a d c b=>
  dsimp only;cases e:a[i]? with
  |none=>exact ak
  |some x=>split<;>grind[AR.get,aj]
 |_=>exact ak
end
end
section
variable[Special]
inductive eX{α:Type}(p:α->Prop):Sem α->Prop
 |pure (a:α) (h:p a):eX p (.pure a)
 |choose (q:Question) (k:Nat->Sem α) (h:∀n,eX p (k n)):eX p (.choose q k)
 |program (k:Program->Sem α) (h:∀q,eX p (k q)) (e:∀q q',k q=k q'):eX p (.program k)
 |dead (s:Sem α) (h:∀Q,Dead Q s):eX p s
omit [Special]in
theorem eX.bind{d c:Type}{p}{q:c->Prop}{s:Sem d}{k}(h:eX p s)(f:∀a,p a->eX q (k a)):eX q (s>>= k):=by
 show eX q (s.bind k);induction h with
 |pure a h=>exact f a h
 |choose x j _ b=>exact .choose x _ λn=>b n
 |program j _ e b=>exact .program _ (λx=>b x) λx y=>by rw[e x y]
 |dead s h=>exact .dead _ λQ=>bH (h Q)
def Plain(v:Value):Prop:=∃n,eH n v=true
theorem FM(b):Plain (.bool b):=⟨1,rfl⟩
theorem vo(k)(n):Plain (.int k n):=⟨1,rfl⟩
theorem pY(k)(n):Plain (.float k n):=⟨1,rfl⟩
theorem rE(k)(n m):Plain (.complex k n m):=⟨1,rfl⟩
theorem Q3(s):Plain (.string s):=⟨1,rfl⟩
omit [Special]in
theorem bV{b}{p}{a}(h:p a):eX p (Pure.pure a:Sem b):=.pure a h
omit [Special]in
theorem wD(q):eX (λ_=>True) (choose q):=.choose q _ λn=>.pure n trivial
theorem iW{a}{p}(s):eX p (stuck s:Sem a):=.dead _ λ_=>aZ s
theorem IL{a}{p}(u)(h:Lm u=false:=by rfl):eX p (unsupported u:Sem a):=.dead _ λ_=>bL u h
theorem wF{a}{p}(e):eX p (runtimePanic e:Sem a):=.dead _ λ_=>dL e
theorem aa1{f}{Q P}{b:Ren}{d:Type}{p}{F}{s:Sem d}(h:eX p s)(hF:∀c a,p a->F c a a):aG f Q P F b s s:=by
 induction h generalizing b with
 |pure a h=>constructor<;>grind
 |choose q k _ g=>constructor<;>grind
 |program k _ e g=>constructor<;>grind
 |dead s h=>exact bE (h Q)
theorem iP{b}{Q P}{a}{s}(h:eX Plain s):aG b Q P VR a s s:=aa1 h λ_ v⟨n,c⟩=>.plain n v c
theorem Fa(op)(k)(x y):eX Plain (Op.intArith op k x y):=by unfold Op.intArith;exact zC
theorem GJ(op)(k)(x y):eX Plain (Op.intBits op k x y):=by unfold Op.intBits;exact zC
theorem JH(op)(x y):eX Plain (Op.intCmp op x y):=by unfold Op.intCmp;exact zD
theorem TB(op)(k)(x y):eX Plain (Op.intDiv op k x y):=by
 unfold Op.intDiv
 grind[wF,bV,vo,iW]
theorem WY(op)(k)(x)(a)(y):eX Plain (Op.shift op k x a y):=by grind[Op.shift,wF,bV,vo,iW]
theorem wX(op)(x y):eX Plain (Op.stringOp op x y):=by
 unfold Op.stringOp
 cases op<;>first
  |exact bV (FM _)
  |exact iW _
  |(dsimp only;split<;>first|exact IL _|exact bV (Q3 _))
theorem zH(op)(k)(x y):eX (λv=>Plain v/\∃r,v=.float k r) (Op.floatArith op k x y):=by
 unfold Op.floatArith
 have a:∀o:Option Nat,eX (λv=>Plain v/\∃r,v=.float k r) (match o with
   |some r=>pure (.float k r)
   |none=>do pure (.float k (<-choose (.nanBits k x y))):Sem Value):=by
  intro o;cases o with
  |none=>exact(wD _).bind λn _=>bV ⟨pY _ _,n,rfl⟩
  |some r=>simp[bV,pY]
 cases op<;>first
  |exact eX.bind (p:=λ_=>True) (bV trivial) λo _=>a o
  |exact eX.bind (p:=λ_=>True) (iW _) λo _=>a o
theorem wY(op)(k)(x y):eX Plain (Op.floatCmp op k x y):=by unfold Op.floatCmp;exact zD
theorem eX.mono{b:Type}{p q}{s:Sem b}(h:eX p s)(c:∀a,p a->q a):eX q s:=by
 have:=h.bind (k:=Pure.pure) (q:=q) λa d=>bV (c a d)
 simp_all
theorem mq(a)(b)(c):eX (λv=>Plain v) (Conv.floatToFloat a b c):=by
 unfold Conv.floatToFloat;split
 ·exact bV (pY _ _)
 ·split
  ·exact zF
  ·exact bV (pY _ _)
  ·dsimp only
   split
   ·exact zF
   ·exact bV (pY _ _)
theorem Kr(a)(b)(c):eX Plain (Conv.floatToInt a b c):=by
 unfold Conv.floatToInt;dsimp only;split
 ·split
  ·exact bV (vo _ _)
  ·exact(wD _).bind λn _=>bV (vo _ _)
 ·exact(wD _).bind λn _=>bV (vo _ _)
namespace C
open Go.Op.Complex
abbrev T{α:Type}:α->Prop:=λ_=>True
theorem arith(op:BinOp)(k:FloatKind)(x y:Nat):eX T (arith op k x y):=by
 unfold Go.Op.Complex.arith;refine(zH op k x y).bind λv⟨_,r,e⟩=> ?_
 subst e;exact bV trivial
theorem cmp(op:BinOp)(k:FloatKind)(x y:Nat):eX T (cmp op k x y):=by
 unfold Go.Op.Complex.cmp;refine(wY op k x y).bind λv _=> ?_
 cases v<;>first|exact bV trivial|exact iW _
theorem conv(s:FloatKind)(x:Nat)(d:FloatKind):eX T (conv s x d):=by
 unfold Go.Op.Complex.conv;split
 ·exact bV trivial
 ·refine(mq _ _ _).bind λv _=> ?_
  cases v<;>first|exact bV trivial|exact iW _
theorem product(a b c d:Nat):eX T (product a b c d):=by
 unfold Go.Op.Complex.product
 exact(arith _ _ _ _).bind λ_ _=>(arith _ _ _ _).bind λ_ _=>(arith _ _ _ _).bind λ_ _=>(arith _ _ _ _).bind λ_ _=>(arith _ _ _ _).bind λ_ _=>(arith _ _ _ _).bind λ_ _=>bV trivial
theorem corrected(s a b c d:Nat):eX T (corrected s a b c d):=by
 unfold Go.Op.Complex.corrected
 exact(arith _ _ _ _).bind λ_ _=>(arith _ _ _ _).bind λ_ _=>(arith _ _ _ _).bind λ_ _=>(arith _ _ _ _).bind λ_ _=>(arith _ _ _ _).bind λ_ _=>(arith _ _ _ _).bind λ_ _=>(arith _ _ _ _).bind λ_ _=>(arith _ _ _ _).bind λ_ _=>bV trivial
theorem quotient(a b c d:Nat):eX T (quotient a b c d):=by
 unfold Go.Op.Complex.quotient
 have h:∀e f:Nat,eX (T (α:=Nat×Nat)) (do
   let g:=(<-Go.Op.Complex.cmp .eql .f64 c 0)&&(<-Go.Op.Complex.cmp .eql .f64 d 0)
   if !(isNaN e&&isNaN f)then pure (e,f)
   else if g&&(!isNaN a|| !isNaN b)then
    pure (<-mul (copysign inf c) a,<-mul (copysign inf c) b)
   else if (isInf a||isInf b)&&isFinite c&&isFinite d then
    Go.Op.Complex.corrected inf (inf2one a) (inf2one b) c d
   else if (isInf c||isInf d)&&isFinite a&&isFinite b then
    Go.Op.Complex.corrected 0 a b (inf2one c) (inf2one d)
   else pure (e,f):Sem (Nat×Nat)):=by
  intro e f;refine(cmp _ _ _ _).bind λx _=> ?_
  cases x with
  |true=>
   refine(cmp _ _ _ _).bind λy _=> ?_
   exact zA
  |false=>
   refine eX.bind (p:=T) (bV trivial) λy _=> ?_
   exact zA
 refine(cmp _ _ _ _).bind λx _=> ?_
 cases x with
 |true=>exact(arith _ _ _ _).bind λ_ _=>(arith _ _ _ _).bind λ_ _=>(arith _ _ _ _).bind λ_ _=>(arith _ _ _ _).bind λ_ _=>(arith _ _ _ _).bind λ_ _=>(arith _ _ _ _).bind λ_ _=>(arith _ _ _ _).bind λ_ _=>(arith _ _ _ _).bind λ_ _=>(arith _ _ _ _).bind λ_ _=>h _ _
 |false=>exact(arith _ _ _ _).bind λ_ _=>(arith _ _ _ _).bind λ_ _=>(arith _ _ _ _).bind λ_ _=>(arith _ _ _ _).bind λ_ _=>(arith _ _ _ _).bind λ_ _=>(arith _ _ _ _).bind λ_ _=>(arith _ _ _ _).bind λ_ _=>(arith _ _ _ _).bind λ_ _=>(arith _ _ _ _).bind λ_ _=>h _ _
theorem op(o)(k)(c d a b):eX Plain (Op.complexOp o k c d a b):=by
 unfold Op.complexOp;cases o with
 |add|sub=>exact(arith _ _ _ _).bind λ_ _=>(arith _ _ _ _).bind λ_ _=>bV (rE _ _ _)
 |mul=>
  refine(conv _ _ _).bind λ_ _=>(conv _ _ _).bind λ_ _=>(conv _ _ _).bind λ_ _=>(conv _ _ _).bind λ_ _=> ?_
  exact(product _ _ _ _).bind λx _=>(conv _ _ _).bind λ_ _=>(conv _ _ _).bind λ_ _=>bV (rE _ _ _)
 |quo=>
  refine(conv _ _ _).bind λ_ _=>(conv _ _ _).bind λ_ _=>(conv _ _ _).bind λ_ _=>(conv _ _ _).bind λ_ _=> ?_
  exact(quotient _ _ _ _).bind λx _=>(conv _ _ _).bind λ_ _=>(conv _ _ _).bind λ_ _=>bV (rE _ _ _)
 |eql|neq=>grind[cmp,bV,FM,eX.bind]
 |_=>exact iW _
end C
theorem De(s)(re a)(d):eX Plain (Conv.complexToComplex s re a d):=by
 unfold Conv.complexToComplex;refine(mq _ _ _).bind λv _=> ?_
 cases v<;>first
  |exact iW _
  |(refine(mq _ _ _).bind λu _=> ?_
    cases u<;>first|exact iW _|exact bV (rE _ _ _))
end
end Go.Proofs.Zb
