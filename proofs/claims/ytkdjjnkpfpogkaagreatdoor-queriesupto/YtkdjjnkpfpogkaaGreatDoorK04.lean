import Derived.Test.YtkdjjnkpfpogkaaGreatDoorK03
set_option maxHeartbeats 8000000
set_option linter.all false
namespace Go.Proofs.Zb
variable{a a':Array Value}{b I:Addr}{k A v v' m J:Value}{t:TypeId}
section
variable[Special]
section
variable{L:Code->Prop}{Q P:Program}{ρ:Ren}{X U V O:Type}{F:Ren->X->U->Prop}{G:Ren->V->O->Prop}
omit [Special]in
theorem TC(c:Bij Q.globals.size ρ){a a'}(h:bI ρ a a')(k:bI ρ b I):(a==b)=(a'==I):=by
 cases h with
 |mk i c1 o l k1 f=>
  cases k with
  |mk g c2 n j k2 d=>
   have e:(i=g)↔(c1=c2):=⟨λe=>by subst e;exact c.left _ _ _ _ _ f d,λe=>by subst e;exact c.right _ _ _ _ _ f d⟩
   rw[ah1]
   simp only[agx,Addr.mk.injEq,e]
omit [Special]in
theorem a0A(d:Bij Q.globals.size ρ){a a'}(h:bI ρ a a')(k:bI ρ b I):(a.block==b.block)=(a'.block==I.block):=by
 obtain⟨k1,c⟩:=h.block;obtain⟨k2,f⟩:=k.block
 rw[ah1]
 simp only[agx]
 exact⟨λe=>by rw[e]at c;exact d.left _ _ _ _ _ c f,λe=>by rw[e]at c;exact d.right _ _ _ _ _ c f⟩
theorem LA{a a'}(h:bI ρ a a')(k:bI ρ b I):aG L Q P sM ρ (sameAddr a b) (sameAddr a' I):=by
 refine .bij ρ _ _ λj=> ?_
 unfold sameAddr
 rw[a0A j h k,TC j h k]
 try dsimp only
 split
 ·exact cz
 refine aP (GH h) λr e x=>aP (GH (k.mono e)) λq c y=> ?_
 try dsimp only
 split
 ·exact bW
 ·replace c:=Ren.le_trans e c
  refine aP (Lu (h.mono c)) λp d _=>aP (Lu (k.mono (Ren.le_trans c d))) λo f _=> ?_
  have i:=Ren.le_trans c (Ren.le_trans d f);refine aP (WU (h.mono i) (k.mono i)) λl _ y=> ?_
  cases y with
  |true=>exact aP (mJ _) λ_ _ n=>aj rfl
  |false=>exact aj rfl
inductive Q4(ρ:Ren):Option Addr->Option Addr->Prop
 |none:Q4 ρ none none
 |some {a a':Addr} (h:bI ρ a a'):Q4 ρ (some a) (some a')
theorem rF{a a' b I}(h:Q4 ρ a a')(k:Q4 ρ b I):aG L Q P sM ρ (samePointer a b) (samePointer a' I):=by unfold samePointer;cases h<;>cases k<;>first|exact LA ‹_› ‹_› |exact aj rfl
theorem forIn_list{g e:Type}(l:List g):∀{ρ:Ren}(s:e){f c:g->e->Sem (ForInStep e)},(∀x s d,ρ.le d->aG L Q P sM d (f x s) (c x s))->aG L Q P sM ρ (forIn l s f) (forIn l s c):=by
 induction l with
 |nil=>intro ρ s f c h;simp only[List.forIn_nil];exact aj rfl
 |cons x l j=>
  intro ρ s f c h;simp only[List.forIn_cons];refine aP (h x s ρ ρ.le_refl) λd i r=> ?_
  cases r with
  |done s=>exact aj rfl
  |yield s=>grind[Ren.le_trans]
theorem forIn_array{g e:Type}(l:Array g)(s:e){f d}(h:∀x s c,ρ.le c->aG L Q P sM c (f x s) (d x s)):aG L Q P sM ρ (forIn l s f) (forIn l s d):=by
 rw[<-Array.forIn_toList,<-Array.forIn_toList]
 grind[forIn_list]
theorem forIn_range{e}(n)(s:e){f d}(h:∀x s c,ρ.le c->aG L Q P sM c (f x s) (d x s)):aG L Q P sM ρ (forIn [0:n] s f) (forIn [0:n] s d):=by grind[Std.Legacy.Range.forIn_eq_forIn_range',forIn_list]
section tables
variable(h:P.toTables=Q.toTables)
include h
omit [Special]in
theorem a0B:∀n t u,P.alikeButTags n t u=Q.alikeButTags n t u:=by
 intro n;induction n with
 |zero=>intro t u;rfl
 |succ n c=>simp_all[Program.alikeButTags]<;>omega
omit [Special]in
theorem xC(t:TypeId):P.underlyingId t=Q.underlyingId t:=by grind[Program.underlyingId]
omit [Special]in
theorem Ov(t:TypeId):P.stoodInAs t=Q.stoodInAs t:=by grind[Program.stoodInAs,dP,a0B,jr,xC]
theorem lG(t:TypeId):P.stoodInHeld t=Q.stoodInHeld t:=by grind[Program.stoodInHeld,Ov]
omit [Special]in
theorem zO:∀d t,P.eqGuardType d t=Q.eqGuardType d t:=by
 intro d;induction d with
 |zero=>intro t;rfl
 |succ d c=>grind[Program.eqGuardType,dP]
theorem IM:∀d t,P.holdsStoodIn d t=Q.holdsStoodIn d t:=by
 intro d;induction d with
 |zero=>intro t;rfl
 |succ d c=>grind[Program.holdsStoodIn,lG,dP]
theorem LB:∀d t u,sameLayout P d t u=sameLayout Q d t u:=by
 intro d;induction d with
 |zero=>intro t u;rfl
 |succ d c=>intro t u;unfold sameLayout;simp only[xC h,lG h,dP h,c]
theorem a0C(f g:TypeId->Bool)(j:∀t,f t=g t):∀d e c o n,rowAt P f d e c o n=rowAt Q g d e c o n:=by
 intro d;induction d with
 |zero=>intro e c o n;rfl
 |succ d i=>intro e c o n;unfold rowAt;simp only[gT h,dP h,lG h,i,j]
theorem WZ:∀d e c o u n,liesAt P d e c o u n=liesAt Q d e c o u n:=by
 intro d;induction d with
 |zero=>intro e c o u n;rfl
 |succ d f=>
  intro e c o u n;unfold liesAt
  rw[a0C h (λx=>sameLayout P P.depth x u) (λx=>sameLayout Q Q.depth x u) (λt=>by rw[jr h,LB h]),jr h]
  simp only[dP h,f]
omit [Special]in
theorem LC:∀d t b,cellOfByte P d t b=cellOfByte Q d t b:=by
 intro d;induction d with
 |zero=>intro t b;rfl
 |succ d c=>intro t b;unfold cellOfByte;simp only[dP h,mH h,gT h,c]
theorem zP(d:Nat)(e:TypeId)(c o:Nat)(b:Int):cellAtBytes P d e c o b=cellAtBytes Q d e c o b:=by unfold cellAtBytes;simp only[gT h,mH h,qg h,LC h]
end tables
variable(Y:Env Q P)
include Y
theorem a0D:∀(d:Nat){ρ:Ren}(t:TypeId){x x' y y':Value},VR ρ x x'->VR ρ y y'->aG L Q P sM ρ (Op.equalIn d t x y) (Op.equalIn d t x' y'):=by
 intro d;induction d with
 |zero=>intro ρ t x x' y y' _ _;exact aF
 |succ d ih=>
  intro ρ t x x' y y' q B;unfold Op.equalIn;refine bZ (aI Y t) λσ S dd _=> ?_
  replace q:=q.mono S;replace B:=B.mono S;cases dd with
  |bool=>cases q<;>cases B<;>first|exact aj rfl|exact ak
  |int k=>
   cases q with
   |int k n=>
    cases B with
    |int A m=>
     try dsimp only
     split
     ·exact cz
     ·exact ak
    |ptr a a' K=>cases n with
     |ofNat n=>cases n with
      |zero=>exact aj rfl
      |succ n=>exact aF
     |negSucc n=>exact aF
    |nilPtr=>exact aF
    |_=>exact ak
   |ptr a a' K=>
    cases B with
    |int A m=>cases m with
     |ofNat n=>cases n with
      |zero=>exact aj rfl
      |succ n=>exact aF
     |negSucc n=>exact aF
    |ptr b I j=>
     refine aC (iV K) λR l a1 Z⟨E,_⟩=> ?_
     refine aC (iV (j.mono l)) λυ D b1 W⟨hb1,_⟩=> ?_
     obtain⟨a1,l1⟩:=a1;obtain⟨Z,l1'⟩:=Z;obtain⟨b1,m1⟩:=b1;obtain⟨W,m1'⟩:=W;dsimp only at E hb1 |-;replace E:=E.mono D;refine .bij υ _ _ λo=> ?_
     refine aC fT λφ hφ p p'⟨e,e'⟩=> ?_
     subst e e';obtain⟨kk,hkk⟩:=E.block;have hge:=o.low _ _ _ hkk
     rw[afJ (by simp;intro _;omega)]
     refine bE ⟨λw x v e=> ?_,λw g u _ e=> ?_,λw x u hN e=> ?_⟩
     all_goals
      simp only[typeInfo,Sem.run_bind,run_program,Result.andThen_ok]at e;cases hi:p.info? t with
      |none=>rw[hi]at e;first|(cases e;done)|(cases e;exact hN)
      |some i=>
       have hch:=Y.checker t i
       rw[hi]at e
       simp only[Sem.run_pure,Result.andThen_ok]at e
       split at e
       ·rename_i hd;exact absurd hd (hch _ hi)
       ·first|(cases e;done)|(cases e;exact hN)
    |_=>exact aF
   |nilPtr=>cases B<;>exact aF
   |_=>cases B<;>first|exact ak|exact aF
  |float k=>
   exact zN
  |complex k=>
   exact zN
  |string=>cases q<;>cases B<;>first|exact aj rfl|exact ak
  |pointer e=>
   cases q with
   |nilPtr=>cases B<;>first|exact aj rfl|exact ak
   |ptr a a' K=>
    cases B with
    |nilPtr=>exact aj rfl
    |ptr b I j=>
     refine aP (dE Y e) λR l n=> ?_
     refine .bij R _ _ λo=> ?_
     rw[TC o (K.mono l) (j.mono l)]
     split
     ·exact LA (K.mono l) (j.mono l)
     ·split
      ·exact cz
      ·exact aP (mJ _) λ_ _ n=>aj rfl
    |_=>exact ak
   |_=>cases B<;>exact ak
  |unsafePointer=>
   cases q with
   |nilPtr=>cases B<;>first|exact rF .none .none|exact rF .none (.some ‹_›)|exact ak
   |ptr a a' K=>cases B<;>first|exact rF (.some K) .none|exact rF (.some K) (.some ‹_›)|exact ak
   |_=>cases B<;>exact ak
  |chan dir e=>
   cases q with
   |ym=>cases B<;>first|exact aj rfl|exact ak
   |chan r r' hr=>
    cases B with
    |ym=>exact aj rfl
    |chan s s' hs=>
     refine .bij σ _ _ λo=>aj ?_
     show(some r==some s)=(some r'==some s')
     rw[ah1]
     simp only[agx,ag1]
     exact⟨λe=>by subst e;exact o.left _ _ _ _ _ hr hs,λe=>by subst e;exact o.right _ _ _ _ _ hr hs⟩
    |_=>exact ak
   |_=>cases B<;>exact ak
  |interface ms=>
   cases q with
   |nilIface=>cases B<;>first|exact aj rfl|exact ak
   |iface tx vx vx' hvx=>
    cases B with
    |nilIface=>exact aj rfl
    |iface ty vy vy' hvy=>
     try dsimp only
     split
     ·exact cz
     ·refine bZ (ky Y tx) λR l i _=> ?_
      try dsimp only
      split
      ·refine bE (dW nC λp=>dW nC λp'=> ?_)
       split
       ·exact bH (bL _)
       ·exact dW (GG _) λ_=>dL _
      ·exact ih tx (hvx.mono l) (hvy.mono l)
    |_=>exact ak
   |_=>cases B<;>exact ak
  |struct H=>
   cases q with
   |agg a a' h1 h2=>
    cases B with
    |agg b I h3 h4=>
     refine aC fT λR l p p'⟨e,e'⟩=> ?_
     subst e e'
     rw[lG Y.tables]
     split
     ·exact bW
     ·refine aP (forIn_array H _ λf s υ D=> ?_) λφ _ r=> ?_
      ·try dsimp only
       split
       ·have T:=Ren.le_trans l D
        refine aC (Dr Y f.type (AR.mono T ⟨h1,h2⟩) f.offset) λψ M u u' hu=> ?_
        refine aC (Dr Y f.type (AR.mono (Ren.le_trans T M) ⟨h3,h4⟩) f.offset) λχ N z z' hz=> ?_
        refine aP (ih f.type (hu.mono N) hz) λ_ _ b=> ?_
        cases b<;>exact aj rfl
       ·exact cz
      ·dsimp only;split<;>exact aj rfl
    |_=>exact ak
   |_=>cases B<;>exact ak
  |array len C=>
   cases q with
   |agg a a' h1 h2=>
    cases B with
    |agg b I h3 h4=>
     refine aP (dE Y C) λR l n=> ?_
     refine aP (forIn_range len _ λi s υ D=> ?_) λφ _ r=> ?_
     ·have T:=Ren.le_trans l D
      refine aC (Dr Y C (AR.mono T ⟨h1,h2⟩) _) λψ M u u' hu=> ?_
      refine aC (Dr Y C (AR.mono (Ren.le_trans T M) ⟨h3,h4⟩) _) λχ N z z' hz=> ?_
      refine aP (ih C (hu.mono N) hz) λ_ _ b=> ?_
      cases b<;>exact aj rfl
     ·dsimp only;split<;>exact aj rfl
    |_=>exact ak
   |_=>cases B<;>exact ak
  |slice e=>
   cases q<;>cases B<;>first|exact aj rfl|exact ak
  |map k e=>
   cases q<;>cases B<;>first|exact aj rfl|exact ak
  |func a b c=>cases q<;>cases B<;>first|exact aj rfl|exact ak|(rename_i h;obtain⟨_,_,_,rfl⟩:=kJ h;first|exact aj rfl|exact ak)
  |_=>cases q<;>first|exact ak|(cases B<;>exact ak)
theorem ZG(t:TypeId){x d y c:Value}(f:VR ρ x d)(e:VR ρ y c):aG L Q P sM ρ (Op.equal t x y) (Op.equal t d c):=a0D Y _ t f e
omit Y in
theorem zQ(t)(y):Dead Q (Op.equal t (.tuple #[]) y):=by
 unfold Op.equal Op.maxDepth Op.equalIn;refine dW (jA _) λd=> ?_
 cases d<;>cases y<;>first|exact aZ _|exact bL _
omit Y in
theorem xD(t)(y):Dead Q (Op.equal t y (.tuple #[])):=by
 unfold Op.equal Op.maxDepth Op.equalIn;refine dW (jA _) λd=> ?_
 cases d<;>cases y<;>first
  |exact aZ _
  |exact bL _
  |(rename_i a;cases a<;>first|exact aZ _|exact bL _)
  |(rename_i a b c;cases a<;>first|exact aZ _|exact bL _)
end
end
section
variable[Special]
section
variable{L:Code->Prop}{Q P:Program}{ρ:Ren}{X U V O:Type}{F:Ren->X->U->Prop}{G:Ren->V->O->Prop}
inductive fC(ρ:Ren):List MapEntry->List MapEntry->Prop
 |nil:fC ρ [] []
 |cons {e e':MapEntry} {l l':List MapEntry} (h:pO ρ e e') (hl:fC ρ l l'):fC ρ (e::l) (e'::l')
theorem fC.mono{c}(h:ρ.le c){l e}(x:fC ρ l e):fC c l e:=sO
theorem Fb:∀l c,l.length=c.length->(∀(i:Nat)e d,l[i]? =some e->c[i]? =some d->pO ρ e d)->fC ρ l c
 |[],[],_,_=>.nil
 |[],_::_,h,_=>by cases h
 |_::_,[],h,_=>by cases h
 |a::l,b::c,h,k=>.cons (k 0 a b rfl rfl) (Fb l c (by simpa using h) λi v v' e d=>k (i+1) v v' (by simpa using e) (by simpa using d))
theorem bP.list{a a'}(h:bP ρ a a'):fC ρ a.toList a'.toList:=
 Fb _ _ (by simpa using h.size) λi v v' e c=>h.at_ i v v' (by grind) (by grind)
theorem bP.isEmpty{a a'}(h:bP ρ a a'):a'.isEmpty=a.isEmpty:=by simp only[Array.isEmpty,h.size]
theorem bP.get{a a'}(x:bP ρ a a'){i:Nat}{v}(e:a[i]? =some v):∃v',a'[i]? =some v'/\pO ρ v v':=zk
theorem bP.none{a a':Array MapEntry}(x:bP ρ a a'){i:Nat}(e:a[i]? =none):a'[i]? =none:=zl
theorem bP.push{a a'}(x:bP ρ a a'){v v'}(h:pO ρ v v'):bP ρ (a.push v) (a'.push v'):=zi
theorem bP.modify{a a'}(x:bP ρ a a')(i){f n}(h:∀e c,pO ρ e c->pO ρ (f e) (n c)):bP ρ (a.modify i f) (a'.modify i n):=by
 refine⟨by simp[x.size],λj u o e c=> ?_⟩
 rw[agT]at e c
 split at e
 ·rename_i d
  rw[afN d]at c
  cases l:a[j]? with
  |none=>rw[l]at e;cases e
  |some y=>
   obtain⟨q,g,p⟩:=x.get l
   rw[l]at e
   rw[g]at c
   cases e;cases c;exact h _ _ p
 ·rename_i d;rw[afJ d]at c;exact x.at_ j u o e c
theorem bP.erase{a a'}(x:bP ρ a a')(i):bP ρ (a.eraseIdxIfInBounds i) (a'.eraseIdxIfInBounds i):=by
 have d:∀(l:Array MapEntry)(j:Nat),(l.eraseIdxIfInBounds i)[j]? =if j<i then l[j]? else l[j+1]? :=by
  intro l j;unfold Array.eraseIdxIfInBounds
  split<;>grind
 refine⟨?_,λj u f e c=> ?_⟩
 ·unfold Array.eraseIdxIfInBounds
  have:=x.size
  split<;>grind
 ·rw[d]at e c
  split at e
  ·rename_i h;rw[afN h]at c;exact x.at_ _ _ _ e c
  ·rename_i h;rw[afJ h]at c;exact x.at_ _ _ _ e c
inductive LD(ρ:Ren):Option (Nat×Value)->Option (Nat×Value)->Prop
 |none:LD ρ none none
 |some (i:Nat) {v v':Value} (h:VR ρ v v'):LD ρ (some (i,v)) (some (i,v'))
theorem IP{c}(e:VR ρ k A)(d:VR ρ v v'){b}(h:Instr.sameNow c k v=some b):Instr.sameNow c A v'=some b:=by cases c<;>cases e<;>cases d<;>first|exact h|(simp[Instr.sameNow]at h)
theorem Q5{c}(f:VR ρ k A)(e:VR ρ v v')(h:Instr.sameNow c k v=none):Instr.sameNow c A v'=none\/k=.tuple #[]\/v=.tuple #[]:=by
 cases f with
 |undef=>exact .inr (.inl rfl)
 |lost _ d=>obtain⟨_,_,_,rfl⟩:=kJ d;refine .inl ?_;cases c<;>rfl
 |_=>
  cases e with
  |undef=>exact .inr (.inr rfl)
  |lost _ d=>obtain⟨_,_,_,rfl⟩:=kJ d;refine .inl ?_;cases c<;>rfl
  |_=>first|exact .inl h|(refine .inl ?_;cases c<;>rfl)
omit [Special]in
theorem IQ{c}{b}(d:Q.underlying t=some c)(h:Instr.sameNow c k v=some b)(w):(Op.equal t k v).run Q w=.ok b w:=by
 unfold Op.equal Op.maxDepth Op.equalIn
 have e:(Go.underlying t).run Q w=.ok c w:=by unfold Go.underlying program;simp[d,Sem.run,Sem.bind,bind]
 rw[Sem.run_bind,e]
 simp only[Result.andThen_ok];unfold Instr.sameNow at h
 split at h<;>simp_all
theorem Q6{c}(o:VR ρ k A):∀{l d:List MapEntry}(i:Nat){r:Option (Nat×Value)},fC ρ l d->Instr.findNow c k l i=some r->∃j,Instr.findNow c A d i=some j/\LD ρ r j:=by
 intro l d i r n;induction n generalizing i with
 |nil=>intro h;simp only[Instr.findNow,ag1]at h |-;subst h;exact⟨_,rfl,.none⟩
 |@cons e q l d g n p=>
  intro h;unfold Instr.findNow at h |-
  split at h
  ·rename_i f;rw[IP o g.key f];cases h;exact⟨_,rfl,.some i g.val⟩
  ·rename_i f;rw[IP o g.key f];exact p (i+1) h
  ·cases h
variable(Y:Env Q P)
include Y
theorem vF(c:Bool):∀(n:Nat){ρ:Ren}(t:TypeId){v v':Value},VR ρ v v'->aG L Q P sM ρ (Instr.checkKey c n t v) (Instr.checkKey c n t v'):=by
 intro n;induction n with
 |zero=>intro ρ t v v' _;exact aF
 |succ n w=>
  intro ρ t v v' h;unfold Instr.checkKey;refine bZ (aI Y t) λR z d _=> ?_
  replace h:=h.mono z;cases d with
  |interface T=>
   cases h with
   |iface d x S q=>
    refine bZ (ky Y d) λM o i _=> ?_
    try dsimp only
    split
    ·grind[bE,bH,dL,dW,GG]
    ·exact w d (q.mono o)
   |nilIface=>exact aj rfl
   |_=>exact ak
  |array p e=>
   cases h with
   |agg a a' D C=>
    refine aP (forIn_range p _ λi s K l=> ?_) λH _ r=>aj rfl
    refine aP (dE Y e) λM o m=> ?_
    refine aC (Dr Y e (AR.mono (Ren.le_trans l o) ⟨D,C⟩) _) λE y u N B=> ?_
    exact aP (w e B) λ_ _ _=>aj rfl
   |_=>exact ak
  |struct j=>
   cases h with
   |agg a a' D C=>
    refine aP (forIn_array j _ λf s K l=> ?_) λH _ r=>aj rfl
    try dsimp only
    split
    ·refine aC (Dr Y f.type (AR.mono l ⟨D,C⟩) f.offset) λE y u N B=> ?_
     exact aP (w f.type B) λ_ _ _=>aj rfl
    ·exact cz
   |_=>exact ak
  |_=>exact aj rfl
theorem Q7(t:TypeId):∀{l:List MapEntry}{ρ:Ren}{d:List MapEntry}(i:Nat),VR ρ k A->fC ρ l d->aG L Q P LD ρ (Instr.findAsking t k l i) (Instr.findAsking t A d i):=by
 intro l;induction l with
 |nil=>intro ρ d i _ h;cases h;exact aj .none
 |cons e l j=>
  intro ρ d i f h;cases h with
  |cons g n=>
   unfold Instr.findAsking;refine aP (ZG Y t f g.key) λo c b=> ?_
   cases b with
   |true=>exact aj (.some i (g.val.mono c))
   |false=>
    simp only[afI,ag6];exact j (i+1) (f.mono c) (n.mono c)
omit Y in
theorem Q8{d}(o:Q.underlying t=some d)(r:VR ρ k A):∀{l n:List MapEntry}(i:Nat),fC ρ l n->Instr.findNow d k l i=none->
  Instr.findNow d A n i=none\/Dead Q (Instr.findAsking t k l i):=by
 intro l n i q;induction q generalizing i with
 |nil=>intro h;cases h
 |@cons e z l n s q y=>
  intro h;unfold Instr.findNow at h
  split at h
  ·cases h
  ·rename_i j
   obtain f|f:=y (i+1) h
   ·refine .inl ?_
    unfold Instr.findNow
    rw[IP r s.key j]
    exact f
   ·refine .inr ⟨λw a v c=> ?_,λw g u p c=> ?_,λw x u p c=> ?_⟩
    ·unfold Instr.findAsking at c
     rw[Sem.run_bind,IQ o j w]at c
     simp only[Result.andThen_ok,afI,ag6]at c;exact f.no w a v c
    ·unfold Instr.findAsking at c
     rw[Sem.run_bind,IQ o j w]at c
     simp only[Result.andThen_ok,afI,ag6]at c;exact f.init w g u p c
    ·unfold Instr.findAsking at c
     rw[Sem.run_bind,IQ o j w]at c
     simp only[Result.andThen_ok,afI,ag6]at c;exact f.halt w x u p c
  ·rename_i j
   obtain f|f|f:=Q5 r s.key j<;>grind[Instr.findNow,Instr.findAsking,bH,zQ,xD]
theorem Er(t:TypeId)(f:VR ρ k A){l g:List MapEntry}(e:fC ρ l g):aG L Q P LD ρ (Instr.findKey t k l) (Instr.findKey t A g):=by
 unfold Instr.findKey;refine bZ (aI Y t) λn c d i=> ?_
 replace f:=f.mono c;replace e:=e.mono c;cases h:Instr.findNow d k l 0 with
 |some r=>grind[Q6,aj]
 |none=>
  obtain j|j:=Q8 i f 0 e h<;>simp_all[Q7,Y,bE]
theorem a4f(T:t<Q.types.size)(Z:VR ρ m J)(K:VR ρ k A)(c:Bool):aG L Q P VR ρ (Instr.lookup t m k c) (Instr.lookup t J A c):=by
 unfold Instr.lookup;refine bZ (aI Y t) λσ x d hd=> ?_
 cases d with
 |map p j=>
  have he:j<Q.types.size:=Y.kids t _ T hd j (by simp[Dp])
  have D:∀{y:Ren}(s f:Array MapEntry),ρ.le y->bP y s f->aG L Q P VR y
    (do
     Instr.checkKey s.isEmpty 10000 p k
     let (v,L) <-match <-Instr.findKey p k s.toList with
      |some (_,v)=>pure (v,true)
      |none=>pure (<-zeroValue j,false)
     pure (if c then .tuple #[v,.bool L]else v):Sem Value)
    (do
     Instr.checkKey f.isEmpty 10000 p A
     let (v,L) <-match <-Instr.findKey p A f.toList with
      |some (_,v)=>pure (v,true)
      |none=>pure (<-zeroValue j,false)
     pure (if c then .tuple #[v,.bool L]else v):Sem Value):=by
   intro y s f l g
   rw[g.isEmpty]
   refine aP (vF Y _ _ _ (K.mono l)) λM q _=> ?_
   refine aC (Er Y p (K.mono (Ren.le_trans l q)) (g.list.mono q)) λφ R r N E=> ?_
   have C:∀{u:Ren}{v v':Value}(b:Bool),VR u v v'->VR u (if c then .tuple #[v,.bool b]else v) (if c then .tuple #[v',.bool b]else v'):=by
    intro u v v' b B;split
    ·exact .kZ (.pair B (.bool _))
    ·exact B
   have w:∀{u:Ren}{v v':Value}(b:Bool),VR u v v'->aG L Q P VR u
     (do let (v,L) <-(pure (v,b):Sem (Value×Bool));pure (if c then .tuple #[v,.bool L]else v):Sem Value)
     (do let (v,L) <-(pure (v',b):Sem (Value×Bool));pure (if c then .tuple #[v,.bool L]else v):Sem Value):=by
    intro u v v' b B;exact aj (C b B)
   cases E with
   |none=>exact aC (jT Y he) λu _ z z' S=>w false S
   |some i B=>exact w true B
  cases Z with
  |sN=>exact aC (F:=bP) (aj ⟨rfl,λi e e' h=>by simp at h⟩) λy l s f g=>D s f (Ren.le_trans x l) g
  |map r N E=>
   refine aC (gU (x _ _ _ E)) λy l o o'⟨H,W⟩=> ?_
   cases W with
   |map s f n g=>exact aC (F:=bP) (aj g) λM q s f g=>D s f (Ren.le_trans x (Ren.le_trans l q)) g
   |_=>cases H
  |_=>exact bE (bH (aZ _))
 |_=>exact ak
end
end
section
variable[Special]
theorem Xa{g}:∀(n:Nat){a a' b I:Value},VR g a a'->VR g b I->Bij 0 g->Instr.sameBits n a b=true->Instr.sameBits n a' I=true:=by
 intro n;induction n with
 |zero=>
  intro a a' b I l j d h;cases l<;>cases j<;>first|exact h|(simp[Instr.sameBits]at h;done)|skip
  ·exact zI
  ·exact zK
 |succ n o=>
  intro a a' b I l j d h;cases l<;>cases j<;>first|exact h|(simp[Instr.sameBits]at h;done)|skip
  ·exact zI
  ·exact zK
  ·simp only[Instr.sameBits,afQ]at h |-
   exact⟨h.1,o ‹_› ‹_› d h.2⟩
  ·rename_i x e E D y f C B
   simp only[Instr.sameBits,afQ,agx,agE]at h |-;refine⟨by rw[<-E,<-C];exact h.1,λz w=> ?_⟩;obtain⟨G,F⟩:=z;obtain⟨i,p⟩:=List.mem_iff_getElem?.1 w
   rw[List.getElem?_zip_eq_some]at p
   obtain⟨u,s⟩:=p;have K:i<e.size:=by simpa using(afY.1 u).1
   have H:i<f.size:=by simpa using(afY.1 s).1
   have r:x[i]? =some x[i]:=ag5 (by omega);have q:y[i]? =some y[i]:=ag5 (by omega);have:=h.2 (x[i],y[i]) (List.mem_iff_getElem?.2 ⟨i,by rw[List.getElem?_zip_eq_some];exact⟨by simp[r],by simp[q]⟩⟩);exact o (D i _ _ r (by simpa using u)) (B i _ _ q (by simpa using s)) d this
omit [Special]in
theorem LF{a b:ByteArray}(h:(a==b)=true):a=b:=by
 have:(a.data==b.data)=true:=h
 grind[ByteArray.ext]
omit [Special]in
theorem TD:∀(n:Nat){a b:Value},Instr.sameBits n a b=true->a=b:=by
 intro n;induction n with
 |zero=>
  intro a b h
  cases a<;>cases b<;>first
   |(simp_all[Instr.sameBits];done)
   |exact congrArg Value.string (LF (by simpa only[Instr.sameBits]using h))
 |succ n c=>
  intro a b h
  cases a<;>cases b<;>first
   |(simp_all[Instr.sameBits];done)
   |exact congrArg Value.string (LF (by simpa only[Instr.sameBits]using h))
   |skip
  ·rename_i t v u w
   simp only[Instr.sameBits,afQ,agx]at h
   rw[h.1,c h.2]
  ·rename_i x y
   simp only[Instr.sameBits,afQ,agx,agE]at h
   congr 1
   apply Array.ext h.1;intro i e d;have:=h.2 (x[i],y[i]) (List.mem_iff_getElem?.2 ⟨i,by rw[List.getElem?_zip_eq_some];exact nX⟩);exact c this
section
variable{O:Code->Prop}{Q P:Program}{L:Ren}{Y V X U:Type}{F:Ren->Y->V->Prop}{G:Ren->X->U->Prop}
theorem Dt{a a' b I}(h:VR L a a')(k:VR L b I):aG O Q P VR L (Instr.keyThatStays a b) (Instr.keyThatStays a' I):=by
 refine .bij L _ _ λg=> ?_
 unfold Instr.keyThatStays
 by_cases f:Instr.sameBits 10000 a b=true
 ·rw[afN f,afN (Xa 10000 h k ⟨g.left,g.right,λb _ _ _=>afK b⟩ f)]
  exact aj k
 ·rw[afJ f]
  by_cases c:Instr.sameBits 10000 a' I=true
  ·rw[afN c]
   refine .GA L _ _ _ (by decide) λn=>aj ?_
   have e:=TD 10000 c
   rw[<-e]at k |-
   split<;>grind
  ·rw[afJ c]
   exact aP (mJ _) λi d n=>aj (by split<;>first|exact k.mono d|exact h.mono d)
variable(env:Env Q P)
include env
theorem TE(t:TypeId)(Z:VR L m J)(l:VR L k A)(H:VR L v v'):aG O Q P sM L (Instr.mapUpdate t m k v) (Instr.mapUpdate t J A v'):=by
 unfold Instr.mapUpdate;refine bZ (aI env t) λσ n d hd=> ?_
 cases d with
 |map w M=>
  cases Z with
  |sN=>exact dZ
  |map r r' B=>
   refine aC (gU (n _ _ _ B)) λτ s o o'⟨C,W⟩=> ?_
   cases W with
   |map p D E f=>
    dsimp only;refine aP (vF env _ _ _ (l.mono (Ren.le_trans n s))) λυ c _=> ?_
    have K:=Ren.le_trans n (Ren.le_trans s c);refine aC (Er env w (l.mono K) (f.list.mono c)) λN g x x' T=> ?_
    have j:=Ren.le_trans K g;cases T with
    |none=>
     refine jR (j _ _ _ B) (by simp) rfl (.map _ _ _ ?_)
     exact(f.mono (Ren.le_trans c g)).push ⟨l.mono j,H.mono j,rfl⟩
    |some i S=>
     have u:VR N (((p[i]?).map (·.key)).getD k) (((D[i]?).map (·.key)).getD A):=zJ
     refine aC (Dt u (l.mono j)) λχ h z z' R=> ?_
     refine jR (h _ _ _ (j _ _ _ B)) (by simp) rfl (.map _ _ _ ?_)
     exact(f.mono (Ren.le_trans c (Ren.le_trans g h))).modify i λe q he=>⟨R,H.mono (Ren.le_trans j h),he.born⟩
   |_=>cases C
  |_=>exact ak
 |_=>exact ak
theorem aa2(ht:t<Q.types.size)(hm:VR L m J)(l:VR L k A):aG O Q P VR L (Instr.mapEntry t m k) (Instr.mapEntry t J A):=by
 unfold Instr.mapEntry;refine bZ (aI env t) λσ u d hd=> ?_
 cases d with
 |map K n=>
  have H:n<Q.types.size:=env.kids t _ ht hd n (by simp[Dp]);cases hm with
  |sN=>exact dZ
  |map r r' N=>
   refine aC (gU (u _ _ _ N)) λτ B o o'⟨R,ho⟩=> ?_
   cases ho with
   |map p D S f=>
    dsimp only;refine aP (vF env _ _ _ (l.mono (Ren.le_trans u B))) λυ c _=> ?_
    have T:=Ren.le_trans u (Ren.le_trans B c);refine aC (Er env K (l.mono T) (f.list.mono c)) λφ g x x' hx=> ?_
    have j:=Ren.le_trans T g;cases hx with
    |none=>
     refine aC (jT env H) λZ h z z' E=> ?_
     refine aP (jR (h _ _ _ (j _ _ _ N)) (by simp) rfl (.map _ _ _ ?_)) λW s _=>aj (.kZ (.pair (E.mono s) (.int _ _)))
     exact(f.mono (Ren.le_trans c (Ren.le_trans g h))).push ⟨l.mono (Ren.le_trans j h),E,rfl⟩
    |some i M=>
     have C:VR φ (((p[i]?).map (·.key)).getD k) (((D[i]?).map (·.key)).getD A):=zJ
     have w:((D[i]?).map (λx=>(x.born:Int))).getD 0=((p[i]?).map (λx=>(x.born:Int))).getD 0:=zM
     refine aC (Dt C (l.mono j)) λZ h z z' E=> ?_
     refine aP (jR (h _ _ _ (j _ _ _ N)) (by simp) rfl (.map _ _ _ ?_)) λW s _=> ?_
     ·exact(f.mono (Ren.le_trans c (Ren.le_trans g h))).modify i λe q H=>⟨E,H.val,H.born⟩
     ·rw[w]
      exact aj (.kZ (.pair (M.mono (Ren.le_trans h s)) (.int _ _)))
   |_=>cases R
  |_=>exact ak
 |_=>exact ak
omit env in
theorem a7A(t){s l}(E:VR L m J)(C:VR L s l)(B:VR L v v'):aG O Q P sM L (Instr.entryStore t m s v) (Instr.entryStore t J l v'):=by
 unfold Instr.entryStore;cases E with
 |map r N u=>
  refine aC (gU u) λM d o R⟨h,D⟩=> ?_
  cases D with
  |map p g j f=>
   dsimp only;refine aP (wE (C.mono d)) λK c n=> ?_
   have e:g.findIdx? (λe=>(e.born:Int)==n)=p.findIdx? (λe=>(e.born:Int)==n):=by
    have H:p.map (λx=>(x.born:Int))=g.map (λx=>(x.born:Int)):=by
     apply Array.ext_getElem?;intro i
     rw[ag2,ag2]
     exact zM
    have z:∀a:Array MapEntry,a.findIdx? (λe=>(e.born:Int)==n)=(a.map (λx=>(x.born:Int))).findIdx? (λb=>b==n):=λa=>by simp[Array.findIdx?_map,Function.comp_def]
    rw[z,z,H]
   rw[e]
   cases p.findIdx? (λe=>(e.born:Int)==n)with
   |none=>exact aF
   |some i=>
    refine jR (c _ _ _ (d _ _ _ u)) (by simp) rfl (.map _ _ _ ?_)
    exact(f.mono c).modify i λe q w=>⟨w.key,B.mono (Ren.le_trans d c),w.born⟩
  |_=>cases h
 |_=>exact ak
omit env in
theorem a0E(env:Env Q P)(p)(t)(h:AR L a a'):aG O Q P VR L (Builtin.delete_ p t a) (Builtin.delete_ p t a'):=by
 unfold Builtin.delete_;cases M:p[0]? with
 |none=>exact ak
 |some E=>
  cases T:a[0]? with
  |none=>exact ak
  |some m=>
   obtain⟨J,z,R⟩:=h.get T;cases S:a[1]? with
   |none=>exact ak
   |some k=>
    obtain⟨A,y,w⟩:=h.get S
    rw[z,y]
    dsimp only;refine bZ (aI env E) λσ f d hd=> ?_
    cases d with
    |map q D=>
     have j:∀{n:Ren},aG O Q P VR n (pure (.tuple #[]):Sem Value) (pure (.tuple #[])):=λ{n}=>aj (.kZ AR.empty)
     cases R with
     |sN=>exact aP (vF env _ _ _ (w.mono f)) λ_ _ _=>j
     |map r r' s=>
      refine aC (gU (f _ _ _ s)) λn l o o'⟨u,N⟩=> ?_
      cases N with
      |map es W C g=>
       dsimp only
       rw[g.isEmpty]
       refine aP (vF env _ _ _ (w.mono (Ren.le_trans f l))) λυ e _=> ?_
       have B:=Ren.le_trans f (Ren.le_trans l e);refine aC (Er env q (w.mono B) (g.list.mono e)) λZ c x x' K=> ?_
       cases K with
       |none=>exact aP (jR (c _ _ _ (B _ _ _ s)) (by simp) rfl (.map _ _ _ (g.mono (Ren.le_trans e c)))) λ_ _ _=>j
       |some i H=>exact aP (jR (c _ _ _ (B _ _ _ s)) (by simp) rfl (.map _ _ _ ((g.mono (Ren.le_trans e c)).erase i))) λ_ _ _=>j
      |_=>cases u
     |_=>exact bE (bH (aZ _))
    |_=>exact ak
omit env in
theorem bP.nil:bP L #[] #[]:=⟨rfl,λi e c h=>by simp at h⟩
omit env in
theorem JI{z c}(h:AR L z c)(n):AR L (Builtin.zeroCells z n) (Builtin.zeroCells c n):=by
 unfold Builtin.zeroCells
 rw[<-h.size]
 exact AR.map (Array.range (n*z.size)) λi _=>h.abL _
theorem abN(g:Array TypeId)(t:TypeId)(h:AR L a a')(C:∀i,g[0]? =some i->∀x y,Q.underlying i≠some (.chan x y)):aG O Q P VR L (Builtin.len_ g t a) (Builtin.len_ g t a'):=by
 unfold Builtin.len_;cases N:g[0]? with
 |none=>exact ak
 |some i=>
  cases D:a[0]? with
  |none=>exact ak
  |some m=>
   obtain⟨J,s,l⟩:=h.get D
   rw[s]
   dsimp only;refine bZ (aI env i) λH j d R=> ?_
   cases d with
   |string=>cases l<;>first|exact aj (.int _ _)|exact ak
   |array n e=>exact aj (.int _ _)
   |pointer c=>
    exact zL
   |slice e=>cases l<;>first|exact aj (.int _ _)|exact ak
   |map k e=>
    cases l with
    |sN=>exact aj (.int _ _)
    |map r K z=>
     refine aC (gU (j _ _ _ z)) λf w o M⟨p,B⟩=> ?_
     cases B with
     |map S E u q=>dsimp only;rw[q.size];exact aj (.int _ _)
     |_=>cases p
    |_=>exact ak
   |chan x y=>grind
   |_=>exact ak
theorem abO(f:Array TypeId)(t:TypeId)(h:AR L a a')(l:∀g,f[0]? =some g->∀x y,Q.underlying g≠some (.chan x y)):aG O Q P VR L (Builtin.cap_ f t a) (Builtin.cap_ f t a'):=by
 unfold Builtin.cap_;cases r:f[0]? with
 |none=>exact ak
 |some g=>
  cases p:a[0]? with
  |none=>exact ak
  |some m=>
   obtain⟨J,i,o⟩:=h.get p
   rw[i]
   dsimp only;refine bZ (aI env g) λq j d s=> ?_
   cases d with
   |array n e=>exact aj (.int _ _)
   |pointer c=>
    exact zL
   |slice e=>cases o<;>first|exact aj (.int _ _)|exact ak
   |chan x y=>grind
   |_=>exact ak
end
end
end Go.Proofs.Zb
