import Derived.Conc.LoneCalls
import Derived.Test.YtkdjjnkpfpogkaaGreatDoorK06
set_option maxHeartbeats 8000000
set_option linter.all false
namespace Go.Proofs.Zb
variable{a a':Array Value}{e A:Operand->Value}{fr:Frame}{w:World}{g:Goroutine}
section
variable[Special]
structure Scope where
 gl:List Nat
 live:Option (List Nat):=none
 fns:Option (List Nat):=none
 put:List Deferred×List Deferred:=([],[])
 fix:List (Nat×Value×Value):=[]
 len:Nat:=0
 Xb:Option (List Nat):=none
 ar:Option (FuncId×Nat):=none
def Scope.may(s:Scope)(f:FuncId)(k:Nat):Bool:=((match s.fns with
 |none=>true
 |some l=>l.contains f)&&match s.ar with
 |none=>true
 |some (g,m)=>f != g||k==m)&&Special.known f
def Scope.qR(s:Scope)(t:Nat):Bool:=match s.live with
 |none=>true
 |some l=>l.contains t
def Scope.inner(s:Scope):Scope:={gl:=s.gl,live:=none,fns:=s.Xb,Xb:=s.Xb}
def Scope.whole(s:Scope):Scope:={s with live:=none,put:=([],[]),fix:=[],len:=0}
def gH(b:Scope):Operand->Bool
 | .tmp t=>b.qR t
 | .const v=>eH 100 v
 | .global g=>b.gl.contains g
 | .func f=>Special.val f
def LH(Q:Program)(t:Option TypeId):Bool:=match t with
 |some t=>match Q.underlying t with|some (.chan ..)=>false|_=>true
 |none=>true
def ZH(Q:Program)(t:Option TypeId):Bool:=match t with
 |some t=>match Q.underlying t with|some (.int _)=>false|_=>true
 |none=>true
def Xc(Q:Program)(t:TypeId):Bool:=match Q.underlying t with|some (.interface _)=>true|_=>false
def GL(Q:Program)(b:Builtin)(c:Array TypeId):Bool:=
 match b with
 | .append=>c.all (· <Q.types.size)&&ZH Q c[1]?
 | .len| .cap=>LH Q c[0]?
 | .clear=>c.all (· <Q.types.size)
 | .copy| .delete| .max| .min| .panic| .unsafeString| .unsafeStringData=>true
 |_=>false
def ZI(b:Scope)(c:Call):Bool:=
 c.args.all (gH b)&&
 match c.callee with
 | .value (.func f)=>b.may f c.args.size
 | .value f=>gH b f
 | .invoke .. =>false
 | .builtin _=>true
def ZJ(Q:Program)(c:Call):Bool:=
 match c.callee with
 | .builtin b=>GL Q b c.argTypes
 |_=>true
def opB(Q:Program)(b:Scope)(o:Oper):Bool:=
 (o.op.operands.all (gH b)||o.op matches .call _)&&
 match o.op with
 | .convert s d _=> !(s==d)
 | .move _| .assign _| .pick .. | .box .. | .load .. | .store .. | .nilCheck _| .unOp .. | .makeInterface .. | .makeMap .. | .slice .. | .fieldAddr .. | .indexAddr .. | .index .. | .mapUpdate .. | .insert .. | .range .. | .next .. | .extract .. | .panic _| .entry _=>true
 | .alloc t| .build t _| .buildSlice t _ _| .makeSlice t _ _| .lookup t .. =>t<Q.types.size
 | .binOp op t .. => !(op matches .eql| .neq)|| !Q.eqGuardType Q.depth t||Xc Q t
 | .makeFunc (.func f) .. =>Special.val f
 | .call c=>ZI b c&&ZJ Q c
 |_=>false
inductive nG(ok:Code->Prop)(E:FuncId->Nat->Prop)(ρ:Ren):Next->Next->Prop
 |value (v v':Value) (h:VR ρ v v'):nG ok E ρ (.value v) (.value v')
 |skip:nG ok E ρ .skip .skip
 |enter (f:FuncId) (a a':Array Value) (h:AR ρ a a') (he:E f a.size):nG ok E ρ (.enter f a) (.enter f a')
 |round (l l':Nat) (f:FuncId) (t t':Array Value) (a b:Code) (h:ρ l l' .loop) (ht:AR ρ t t') (ha:ok a) (hb:ok b):nG ok E ρ (.round l f t a b) (.round l' f t' a b)
structure JK(ok:Code->Prop)(Q P:Program):Prop where
 head:∀(f:FuncId)(fn:Func),Q.funcs[f]? =some fn->∃fn':Func,P.funcs[f]? =some fn'/\fn'.name=fn.name/\fn'.body.isNone=fn.body.isNone/\fn.name≠ "runtime.NumGoroutine"
 bare:∀(f:FuncId)(fn:Func),Q.funcs[f]? =some fn->fn.body=none->Special.known f=true->∀(E:FuncId->Nat->Prop)(ρ:Ren)a a',AR ρ a a'->aG ok Q P (nG ok E) ρ (callFunc f a) (callFunc f a')
section
variable{ok:Code->Prop}{E:FuncId->Nat->Prop}{Q P:Program}{I:Ren}
theorem Ox:sP Q Instr.panicnil:=jy (a4b _) λr=>by
 cases r<;>first
  |exact(bH (aZ _)).QY
  |exact(aZ _).QY
  |exact jy nC λp=>fQ _
theorem LM(x):Dead Q (Instr.panic x):=by
 unfold Instr.panic
 grind[aZ,GD,dW,Ox,dL]
omit [Special]in
theorem Kz(op)(t)(x y)(b):sP Q (eqGuard op t x y (.tuple #[]) b):=by unfold eqGuard;simp[fQ]
omit [Special]in
theorem IU(op)(t)(x y)(a):sP Q (eqGuard op t x y a (.tuple #[])):=by unfold eqGuard;simp[fQ]
theorem LP(o:JK ok Q P)(f)(t:Special.known f=true)(u:E f a.size)(h:AR I a a'):aG ok Q P (nG ok E) I (callFunc f a) (callFunc f a'):=by
 cases d:Q.funcs[f]? with
 |none=>
  unfold callFunc;refine aC fT λq b p r⟨e,A⟩=> ?_
  subst e A
  rw[d]
  exact ak
 |some i=>
  cases m:i.body with
  |none=>exact o.bare f i d m t E I a a' h
  |some c=>
   obtain⟨n,k,s,l,j⟩:=o.head f i d;unfold callFunc;refine aC fT λq b p r⟨e,A⟩=> ?_
   subst e A
   rw[d,k]
   dsimp only;have x:(i.name== "runtime.NumGoroutine")=false:=by simpa using j
   have v:n.body.isNone=false:=by rw[l,m];rfl
   rw[s,x,v,m]
   simp only[afI,ag6,Option.isNone_some];exact aj (.enter f a a' (h.mono b) u)
variable(J:Env Q P)(L:JK ok Q P)
include J L
omit J L in
theorem xG{l d}(h:I l d .loop):aG ok Q P (λb r c=>Tf ok b r c) I (Instr.getLoop l) (Instr.getLoop d):=by
 unfold Instr.getLoop;refine aC (gU h) λb f o m⟨k,j⟩=> ?_
 cases j with
 |loop r c i=>exact aj i
 |_=>cases k
omit J L in
theorem a4h(c:Array Tmp){t d}(h:AR I t d)(n:AR I a a'):
  AR I ((c.zip a).foldl (λb(t,a)=>b.setIfInBounds t a) t) ((c.zip a').foldl (λb(t,a)=>b.setIfInBounds t a) d):=by
 rw[<-Array.foldl_toList,<-Array.foldl_toList,Array.toList_zip,Array.toList_zip]
 have:∀(f:List Tmp){l i:List Value}{t d:Array Value},nO I l i->AR I t d->AR I ((f.zip l).foldl (λb(t,a)=>b.setIfInBounds t a) t) ((f.zip i).foldl (λb(t,a)=>b.setIfInBounds t a) d):=by
  intro f;induction f with
  |nil=>simp
  |cons p f k=>
   intro l i t d j h;cases j with
   |nil=>exact h
   |cons m j=>exact k j (h.set _ m)
 exact this _ n.list h
omit J L in
theorem a7J{l d}(h:I l d .loop)(f:AR I a a'):aG ok Q P (nG ok E) I (Instr.yield l a) (Instr.yield d a'):=by
 unfold Instr.yield;refine aC (xG h) λi c r j b=> ?_
 rw[<-f.size,<-b.params,<-b.fn,<-b.assign,<-b.body]
 try dsimp only
 split
 ·exact bE (bH (aZ _))
 ·exact aj (.round _ _ _ _ _ _ _ (c _ _ _ h) (a4h _ b.tmps (f.mono c)) b.Gz b.QV)
omit L in
theorem a0I(b:Builtin)(f:Array TypeId)(t:TypeId)(n:Array Bool)(h:GL Q b f=true)(d:AR I a a'):
  aG ok Q P (nG ok E) I (builtin b f t n a) (builtin b f t n a'):=by
 have c:∀{s m:Sem Value},aG ok Q P VR I s m->aG ok Q P (nG ok E) I (do pure (.value (<-s))) (do pure (.value (<-m))):=λq=>aC q λ_ _ v u c=>aj (.value _ _ c)
 unfold GL at h;cases b with
 |append=>
  simp only[afQ,afR,agY]at h;refine c (a4g J (λt j=>h.1 t j) (λx p k r=> ?_) t d);have:=h.2;unfold ZH at this
  rw[p]at this
  simp[r]at this
 |len=>
  refine c (abN J _ t d λo l x y i=> ?_);have:=h;unfold LH at this;simp[l,i]at this
 |cap=>
  refine c (abO J _ t d λo l x y i=> ?_);have:=h;unfold LH at this;simp[l,i]at this
 |clear=>
  simp only[afR,agY]at h;exact c (a7I J _ (λt j=>h t j) t d)
 |copy=>exact c (aa3 J _ t d)
 |delete=>exact c (a0E J _ t d)
 |max=>exact c (abP _ t d)
 |min=>exact c (abQ _ t d)
 |panic=>
  exact bE (bH (LM _))
 |unsafeString=>exact c (LG J _ t d)
 |unsafeSliceData=>simp at h
 |unsafeStringData=>exact c (FO J _ t d)
 |_=>simp at h
def a7K(Q:Program):Target->Bool
 | .builtin b c _ _=>GL Q b c
 | .coroexit _=>false
 |_=>true
omit J L in
theorem JL(b)(c a):Dead Q (invoke (.fn (.method b) c) (#[Value.nilIface]++a)):=by
 have d:(#[Value.nilIface]++a)[0]? =some .nilIface:=by rw[Array.getElem?_append_left (by simp)];rfl
 unfold invoke;dsimp only
 rw[d]
 show Dead Q (callMethod .nilIface b _);unfold callMethod;exact dL _
theorem Dv(p:∀f,Special.val f=true->∀k,E f k){t t':Target}(h:uV I t t')(i:a7K Q t=true)(j:AR I a a'):aG ok Q P (nG ok E) I (invoke t a) (invoke t' a'):=by
 unfold invoke;cases h with
 |nil=>exact dZ
 |builtin b m t q=>exact a0I J b m t q i j
 |collected r s v=>exact ak
 |fn f x c y d o=>
  cases d with
  |func f d=>exact LP L f (Special.Eo f d) (p f d _) (j.append o)
  |yield l u n=>exact a7J n j
omit J L in
structure ZK(gl:Scope)(I:Ren)(e A:Operand->Value):Prop where
 at_:∀x,gH gl x=true->VR I (e x) (A x)
theorem aa8{o:Scope}(H:∀f k,o.may f k=true->E f k)(s:∀f,Special.val f=true->∀k,E f k)(q:∀f,e (.func f)=.func (.func f) #[] #[]/\A (.func f)=.func (.func f) #[] #[])(C:ZK o I e A)(c:Call)(t:TypeId)(l:ZI o c=true)(G:ZJ Q c=true):
  aG ok Q P (nG ok E) I (do let d <-resolve e c t;invoke d.target d.args) (do let d <-resolve A c t;invoke d.target d.args):=by
 unfold resolve;unfold ZI at l;simp only[afQ,afR]at l;have n:AR I (c.args.map e) (c.args.map A):=AR.map _ λx D=>C.at_ x (l.1 x D)
 obtain⟨i,h,m⟩:=c
 have z:∀f,gH o f=true->aG ok Q P (nG ok E) I (do let d <-Deferred.ofValue (e f) (h.map e);invoke d.target d.args) (do let d <-Deferred.ofValue (A f) (h.map A);invoke d.target d.args):=λf j=>by
  have j:=C.at_ f j;unfold Deferred.ofValue;generalize e f=u at j |-;generalize A f=R at j |-;cases j with
  |func f N a a' c O j y v M K=>exact Dv J L s (t:=.fn f c) (t':=.fn N O) (.fn _ _ _ _ j ⟨M,K⟩) rfl (AR.append ⟨y,v⟩ n)
  |nilFunc=>exact Dv J L s (t:=.nil) (t':=.nil) .nil rfl n
  |lost _ _=>simp[bE,JL]<;>omega
  |_=>exact bE (bH (aZ _))
 cases i with
 |builtin b=>exact Dv J L s (t:=.builtin b _ _ _) (t':=.builtin b _ _ _) (.builtin _ _ _ _) G n
 |invoke r B=>split<;>grind
 |value f=>
  cases f with
  |func f=>
   obtain⟨y,v⟩:=q f;show aG ok Q P (nG ok E) I (do let d <-Deferred.ofValue (e (.func f)) (h.map e);invoke d.target d.args) (do let d <-Deferred.ofValue (A (.func f)) (h.map A);invoke d.target d.args)
   rw[y,v]
   have F:E f ((#[]++h.map e)++#[]).size:=H f _ (by simpa using l.2);have p:Special.known f=true:=by have:=l.2;unfold Scope.may at this;simp only[afQ]at this;exact this.2
   have:=LP L f p F (AR.append (AR.append AR.empty n) AR.empty);exact this
  |_=>exact z _ l.2
omit L in
theorem a0J(op:BinOp)(t:TypeId)(x y:Operand)(M:op=.eql\/op=.neq->Q.eqGuardType Q.depth t=false\/Xc Q t=true){a a' b m:Value}(N:VR I a a')(j:VR I b m)(u:a≠.tuple #[])(h:b≠.tuple #[]):
  aG ok Q P sM I (eqGuard op t x y a b) (eqGuard op t x y a' m):=by
 unfold eqGuard
 have l:op=.eql\/op=.neq->aG ok Q P sM I
   (match (generalizing:=false) a,b with
    | .nilIface,.nilIface=>
     if (x matches .const _)||(y matches .const _)then pure ()else do
     if <-Op.eqGuardIn Op.maxDepth t a b then unsupported (.noEntry "binop/eql: two nil values of an interface type with methods, neither of them the literal nil")
    | .agg _,.agg _=>do
     if !(<-program).eqGuardType (<-program).depth t then pure ()else
     if <-Op.eqGuardIn Op.maxDepth t a b then unsupported (.noEntry "binop/eql: two nil values of an interface type with methods, in a part of a struct or an array")
    |_,_=>pure ():Sem Unit)
   (match (generalizing:=false) a',m with
    | .nilIface,.nilIface=>
     if (x matches .const _)||(y matches .const _)then pure ()else do
     if <-Op.eqGuardIn Op.maxDepth t a' m then unsupported (.noEntry "binop/eql: two nil values of an interface type with methods, neither of them the literal nil")
    | .agg _,.agg _=>do
     if !(<-program).eqGuardType (<-program).depth t then pure ()else
     if <-Op.eqGuardIn Op.maxDepth t a' m then unsupported (.noEntry "binop/eql: two nil values of an interface type with methods, in a part of a struct or an array")
    |_,_=>pure ():Sem Unit):=by
  intro s;have f:=M s;cases N with
  |undef v F=>exact absurd rfl u
  |nilIface=>
   cases j with
   |undef v F=>exact absurd rfl h
   |nilIface=>
    have o:aG ok Q P sM I (do if <-Op.eqGuardIn Op.maxDepth t .nilIface .nilIface then unsupported (.noEntry "binop/eql: two nil values of an interface type with methods, neither of them the literal nil"):Sem Unit)
      (do if <-Op.eqGuardIn Op.maxDepth t .nilIface .nilIface then unsupported (.noEntry "binop/eql: two nil values of an interface type with methods, neither of them the literal nil"):Sem Unit):=by
     refine aP (γ:=Bool) ?_ λD i c=> ?_
     ·unfold Op.maxDepth Op.eqGuardIn
      refine bZ (aI J t) λD i d _=> ?_
      cases d<;>exact aj rfl
     ·cases c with
      |true=>exact aF
      |false=>exact aj rfl
    cases x<;>cases y<;>first|exact aj rfl|exact o
   |lost _ k=>obtain⟨_,_,_,rfl⟩:=kJ k;exact aj rfl
   |_=>exact aj rfl
  |agg c c' Y X=>
   cases j with
   |undef v F=>exact absurd rfl h
   |agg d Z W V=>
    refine aC fT λD i p U⟨e,A⟩=>aC fT λS H q T⟨O,C⟩=> ?_
    subst e A O C
    rw[jr J.tables,zO J.tables]
    cases K:q.eqGuardType q.depth t with
    |false=>exact aj rfl
    |true=>
     obtain f|f:=f
     ·split<;>grind
     refine bZ (p:=λb=>b=false) ?_ λG r bb B=> ?_
     ·unfold Op.maxDepth Op.eqGuardIn
      refine bZ (aI J t) λG r R z=> ?_
      unfold Xc at f
      rw[z]at f
      cases R<;>first
       |exact aj ⟨rfl,rfl⟩
       |(simp at f;done)
     ·subst B;exact cz
   |lost _ k=>obtain⟨_,_,_,rfl⟩:=kJ k;exact aj rfl
   |_=>exact aj rfl
  |lost _ k=>obtain⟨_,_,_,rfl⟩:=kJ k;exact aj rfl
  |_=>cases j<;>first|exact aj rfl|exact absurd rfl h
 cases op<;>first
  |exact aj rfl
  |exact l (.inl rfl)
  |exact l (.inr rfl)
theorem TM{gl:Scope}(hE:∀f k,gl.may f k=true->E f k)(hV:∀f,Special.val f=true->∀k,E f k)(X:∀f,e (.func f)=.func (.func f) #[] #[]/\A (.func f)=.func (.func f) #[] #[])(p:ZK gl I e A)(o:Oper)(B:opB Q gl o=true):aG ok Q P (nG ok E) I (execOp e o) (execOp A o):=by
 have z:∀{s K:Sem Value},aG ok Q P VR I s K->aG ok Q P (nG ok E) I (do pure (.value (<-s))) (do pure (.value (<-K))):=λW=>aC W λ_ _ v v' z=>aj (.value _ _ z)
 have hu:∀{s K:Sem Unit},aG ok Q P sM I s K->aG ok Q P (nG ok E) I (do s;pure .skip) (do K;pure .skip):=λW=>aP W λ_ _ _=>aj .skip
 unfold opB at B;simp only[afQ]at B;obtain⟨j,B⟩:=B
 by_cases D:∃c,o.op=.call c
 ·obtain⟨c,hc⟩:=D
  rw[hc]at B
  simp only[afQ]at B;unfold execOp
  rw[hc]
  exact aa8 J L hE hV X p c _ B.1 B.2
 replace j:∀x∈o.op.operands,gH gl x=true:=by
  rw[Bool.or_eq_true]at j
  obtain h|h:=j
  ·rw[afR]at h;exact h
  ·exfalso
   split at h
   ·rename_i c e;exact D ⟨c,e⟩
   ·cases h
 have G:∀x:Option Operand,(∀y,x=some y->gH gl y=true)->yu I (x.map e) (x.map A):=λx q=>by
  cases x with
  |none=>exact .none
  |some y=>exact .some (p.at_ y (q y rfl))
 obtain⟨dst,op,type,pos,after,Y⟩:=o;unfold execOp;cases op with
 |move x|assign x=>exact aj (.value _ _ (p.at_ x (j x aO)))
 |pick c a b=>
  refine aP (Ty (p.at_ c (j c aO))) λU C t=>aj (.value _ _ ?_)
  cases t
  ·exact(p.at_ b (j b aO)).mono C
  ·exact(p.at_ a (j a aO)).mono C
 |alloc t=>exact z (a7w J (by simpa using B))
 |box t x=>exact z (abM t (p.at_ x (j x aO)))
 |build t H=>
  refine z (a7x J (by simpa using B) ?_)
  exact Ab
 |buildSlice t n H=>
  refine z (QZ J (by simpa using B) n ?_)
  exact Ab
 |load t a=>exact z (a4d J t (p.at_ a (j a aO)))
 |store t a x=>exact hu (a0u J t (p.at_ a (j a aO)) (p.at_ x (j x aO)))
 |nilCheck x=>
  have q:=p.at_ x (j x aO);dsimp only;generalize e x=u at q |-;generalize A x=u' at q |-;cases q with
  |nilPtr=>exact dZ
  |nilIface=>exact dZ
  |nilFunc=>exact dZ
  |lost _ S=>exact dZ
  |undef _ h=>cases u'<;>first|exact aj (.value _ _ (.undef _ h))|(simp[hard]at h;done)|(rename_i y;cases y<;>first|exact aj (.value _ _ (.undef _ h))|(simp[hard]at h;done))|(rename_i f a c;cases f<;>first|exact aj (.value _ _ (.undef _ h))|(simp[hard]at h;done))
  |func f f' a a' c c' S T V h3 h4=>
   have N:∀{U:Ren},I.le U->VR U (.func f a c) (.func f' a' c'):=λC=>.func _ _ _ _ _ _ (S.mono C) T (AR.mono C ⟨T,V⟩).at_ h3 (AR.mono C ⟨h3,h4⟩).at_
   cases S with
   |_=>exact aj (.value _ _ (N (Ren.le_refl _)))
  |empty g a hg=>exact aj (.value _ _ (.empty g a hg))
  |_=>exact aj (.value _ _ (by first|constructor<;>assumption|constructor))
 |binOp op t x y yt=>
  have q:=p.at_ x (j x aO);have F:=p.at_ y (j y aO);refine z ?_
  by_cases R:e x=.tuple #[]
  ·rw[R];exact bE (dW (Kz _ _ _ _ _) λ_=>nY _ _ _)
  by_cases O:e y=.tuple #[]
  ·rw[O];exact bE (dW (IU _ _ _ _ _) λ_=>bF _ _ _)
  refine aP (a0J J op t x y (λh=> ?_) q F R O) λU C _=>a7E J op t (q.mono C) (F.mono C)
  obtain rfl|rfl:=h<;>(simp at B;exact B)
 |unOp op t x=>exact z (a7D op (p.at_ x (j x aO)))
 |convert s d x=>exact z (a0H J s d (by simpa using B) (p.at_ x (j x aO)))
 |sliceToArrayPointer t x=>simp at B
 |makeInterface t x=>exact z (Kq J t (p.at_ x (j x aO)))
 |makeFunc Z f c=>
  refine z (aj ?_)
  have S:FnR I Z Z:=by
   cases Z with
   |func f=>exact .func f (by simpa using B)
   |_=>simp at B
  have T:AR I (f.map e) (f.map A):=AR.map _ λx q=>p.at_ x (j x (by simp[Op.operands,q]))
  have V:AR I (c.map e) (c.map A):=AR.map _ λx q=>p.at_ x (j x (by simp[Op.operands,q]))
  exact .func _ _ _ _ _ _ S T.size T.at_ V.size V.at_
 |makeMap t r=>exact z (a0y J t (G r λy F=>j y (by simp[Op.operands,F])))
 |makeSlice t l c=>exact z (TA J (by simpa using B) (p.at_ l (j l aO)) (p.at_ c (j c aO)))
 |slice t x lo hi mx=>exact z (a0x J t (p.at_ x (j x aO)) (G lo λy F=>j y (by simp[Op.operands,F])) (G hi λy F=>j y (by simp[Op.operands,F])) (G mx λy F=>j y (by simp[Op.operands,F])))
 |fieldAddr s x f=>exact z (a0v J s (p.at_ x (j x aO)) f)
 |indexAddr t x i=>exact z (a0w J t (p.at_ x (j x aO)) (p.at_ i (j i aO)))
 |index t x i=>exact z (a7z J t (p.at_ x (j x aO)) (p.at_ i (j i aO)))
 |lookup t x i c=>exact z (a4f J (by simpa using B) (p.at_ x (j x aO)) (p.at_ i (j i aO)) c)
 |mapUpdate t m k x|insert t m k x=>exact hu (TE J t (p.at_ m (j m aO)) (p.at_ k (j k aO)) (p.at_ x (j x aO)))
 |range t x=>exact z (a7C J t (p.at_ x (j x aO)))
 |next M s=>exact z (aa4 (p.at_ M (j M aO)) s _)
 |extract x i=>exact z (a0z (p.at_ x (j x aO)) i)
 |call c=>exact absurd ⟨c,rfl⟩ D
 |panic x=>exact z (bE (LM _))
 |entry M=>exact z (a7B (p.at_ M (j M aO)))
 |_=>simp at B
inductive OpR(Q:Program)(gl:Scope):Oper->Oper->Prop
 |same (o:Oper) (h:opB Q gl o=true):OpR Q gl o o
 |data (o:Oper) (t:TypeId) (args:Array Operand) (ts:Array TypeId) (ho:o.op=.call {callee:=.builtin .unsafeSliceData,args:=args,argTypes:=ts}) (ha:args.all (gH gl)=true) (ht:Dead Q (elemOf t)) (hl:gl.live=none):OpR Q gl {o with type:=t} o
theorem Pe{l:Scope}(y:∀f k,l.may f k=true->E f k)(u:∀f,Special.val f=true->∀k,E f k)(j:∀f,e (.func f)=.func (.func f) #[] #[]/\A (.func f)=.func (.func f) #[] #[])(m:ZK l I e A){o i:Oper}(h:OpR Q l o i):aG ok Q P (nG ok E) I (execOp e o) (execOp A i):=by
 cases h with
 |same _ h=>exact TM J L y u j m o h
 |data _ t b d s n r _=>
  unfold execOp;dsimp only
  rw[s]
  rw[afR]at n
  have c:AR I (b.map e) (b.map A):=AR.map _ λx p=>m.at_ x (n x p)
  show aG ok Q P (nG ok E) I (do pure (.value (<-Builtin.unsafeSliceData_ d t (b.map e)))) (do pure (.value (<-Builtin.unsafeSliceData_ d i.type (b.map A))));exact aC (GK J d d t _ r c) λ_ _ v z q=>aj (.value _ _ q)
end
end
section
variable[Special]
open Go.Conc (G solo stepT_solo runT_solo_go)
def Dw(fr:Frame):Prop:=∀d∈fr.defers,(∃b,d.target=.collected b)\/ZC d
inductive LQ(Q:Program)(c:Frame):Machine->Prop
 |shut (g:Goroutine) (w:World) (h:g.status=.blocked\/g.status=.waiting):LQ Q c (solo g w)
 |dying (g:Goroutine) (w:World) (d:Dying) (f:Fatal) (hs:g.status=.running) (hd:g.dying=some d) (hf:d.fatal=some f) (hc:d.calling=false):LQ Q c (solo g w)
 |panic (fr:Frame) (mid:List Frame) (w:World) (ch:List PanicEntry) (hm:fr.mode=.panicking ch) (hN:aS w) (hd:Dw fr) (hds:∀x∈mid,Dw x):LQ Q c (solo (G fr (mid++[c])) w)
 |door (fr:Frame) (w:World) (ch:List PanicEntry) (hm:fr.mode=.panicking ch) (hd:fr.defers=[]) (hc:fr.catches Q=true):LQ Q c (solo (G fr []) w)
structure KA(Q:Program)(c:Frame):Prop where
 mode:c.mode=.run
 defers:c.defers=[]
 catches:c.catches Q=true
 shut:∀v,∃row args k,(c.finish v).mode=.run/\(c.finish v).todo=.extern row args::k/\Extern.next row=none
def Dx(Q:Program)(c:Frame):GStep->Prop
 | .ended .. =>False
 | .go g w _=>¬LQ Q c (solo g w)
 |_=>True
def Under(c:Frame)(d:List Frame):Prop:=∃b,d=b++[c]/\∀x∈b,Dw x
def aa9(Q:Program)(c:Frame)(step:World->GStep)(w:World):Prop:=∀T d,∃f b,Ahead (re T d w) f b/\Dx Q c (step (re f b w))
def LU(Q:Program)(c:Frame)(x:Goroutine)(w:World):Prop:=∀T d,∃f b,Ahead (re T d w) f b/\Dx Q c (stepG Q true x (re f b w))
section
variable{Q:Program}{c:Frame}
omit [Special]in
theorem Dx.after{b}{s}(h:Dx Q c (s.after b)):Dx Q c s:=by cases s<;>exact h
omit [Special]in
theorem Under.raise{fr}{d}{w}(i:Under c d)(j:Dw fr)(k:aS w)(y):LQ Q c (solo (G (fr.raise y) d) w):=by
 obtain⟨f,rfl,h⟩:=i
 have:∃b,(fr.raise y).mode=.panicking b/\(fr.raise y).defers=fr.defers:=by
  unfold Frame.raise
  split<;>exact⟨_,rfl,rfl⟩
 obtain⟨b,m,l⟩:=this;exact .panic _ _ _ b m k (by unfold Dw;rw[l];exact j) h
omit [Special]in
theorem Pf{l}{m}{b}:¬Dx Q c (dieOf fr l m b w):=λh=>h (.dying _ _ _ _ rfl rfl rfl rfl)
omit [Special]in
theorem Ra{b}{m}:¬Dx Q c (endFatal Q fr b none m w):=λh=>by
 unfold endFatal at h;dsimp only at h
 split at h
 ·exact Pf h
 ·exact h
 ·exact h
theorem GM{j}{s}(b:Under c j)(f:Dw fr)(l:∀x u,s.run Q w=.halt x u->aS u)(h:Dx Q c (stepG.apply Q true fr j none s w)):(∃n u,s.run Q w=.ok n u)\/∃g u,s.run Q w=.halt (.unsupported (.initOrder g)) u:=by
 cases d:s.run Q w with
 |ok n u=>simp
 |halt k u=>
  have i:=l _ _ d;simp only[stepG.apply,Sem.runT_eq,agr,d]at h;have h:=h.after;cases k with
  |panic y=>exact absurd (b.raise f i _) h
  |goexit=>exact absurd (b.raise f i _) h
  |blocked=>exact absurd (.shut _ _ (.inl rfl)) h
  |waiting=>exact absurd (.shut _ _ (.inr rfl)) h
  |exit c=>exact h.elim
  |fatal m=>grind[Ra]
  |throw m=>exact(Pf h).elim
  |unsupported y=>
   cases y with
   |initOrder g=>simp
   |_=>exact h.elim
  |stuck m=>exact h.elim
omit [Special]in
theorem lH{v}{o}{d}(b:g.status=.running)(h:stepG Q true g w=.ended o v d):step Q (solo g w)=.ended o v:=by
 rw[step,stepT_solo b]
 simp[runT,solo,Array.swapAt!,Array.swapAt,h]
omit [Special]in
theorem Rb(h:g.status=.blocked)(m):step Q (solo g w)≠.next m:=by
 intro e
 have b:∃o v,move Q (solo g w)=.machine (.ended o v):=by
  simp[move,ask,askOn,solo,runnable_eq,due,ahead,Goroutine.canRun,List.range_succ,h,choose,pure,Sem.run,Question.forced]
  split<;>exact⟨_,_,rfl⟩
 grind[step,stepT]
omit [Special]in
theorem Rc(h:g.status=.waiting):step Q (solo g w)=.next (solo g w):=by
 have b:move Q (solo g w)=.machine (.next (solo g w)):=by simp[move,ask,askOn,solo,runnable_eq,due,ahead,Goroutine.canRun,List.range_succ,h,choose,pure,Sem.run,Question.forced]
 grind[step,stepT]
omit [Special]in
theorem yw(fr:Frame)(b):∃ch',(fr.raise b).mode=.panicking ch'/\(fr.raise b).defers=fr.defers/\(fr.raise b).fn=fr.fn/\(fr.raise b).todo=fr.todo:=by
 unfold Frame.raise
 split<;>grind
end
end
end Go.Proofs.Zb
