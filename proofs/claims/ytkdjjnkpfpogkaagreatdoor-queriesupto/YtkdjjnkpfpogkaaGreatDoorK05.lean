import Derived.Test.YtkdjjnkpfpogkaaGreatDoorK04
set_option maxHeartbeats 8000000
set_option linter.all false
namespace Go.Proofs.Zb
variable{v L x I y O:Value}{b J:Addr}
section
variable[Special]
section
variable{V:Code->Prop}{Q P:Program}{U:Ren}{α Y Z X:Type}{F:Ren->α->Y->Prop}{G:Ren->Z->X->Prop}
def NoRoom(v:Value)(n:Nat):Prop:=(∃g,v=.slice (some g) 0 0)->n=0
theorem KX(h:VR U v L):aG V Q P (Dq (NoRoom v)) U (Builtin.lenOf v) (Builtin.lenOf L):=by unfold Builtin.lenOf;cases h<;>first|exact ak|exact aj ⟨rfl,λ⟨g,e⟩=>by first|(cases e;done)|(cases e;rfl)⟩
theorem xE(a)(c):loadCells a (0*c)=Pure.pure #[]:=by rw[Nat.zero_mul];rfl
theorem FN(s:ByteArray):AR U (s.data.map λb=>Value.int .u8 b.toNat) (s.data.map λb=>Value.int .u8 b.toNat):=AR.map _ λ_ _=>.int _ _
theorem nD(d n)(h:VR U v L)(e:NoRoom v n):aG V Q P AR U (Builtin.firstCells d n v) (Builtin.firstCells d n L):=by
 unfold Builtin.firstCells;cases h with
 |empty g a i=>
  obtain rfl:=e ⟨_,rfl⟩;dsimp only
  rw[xE,xE]
  exact aj AR.empty
 |slice a j l c f=>exact wC f _
 |eU l c=>exact aj AR.empty
 |string s=>exact aj (FN _)
 |_=>exact ak
theorem Fe(d)(h:VR U v L):aG V Q P (λ_ c e=>c=#[]/\e=#[]) U (Builtin.firstCells d 0 v) (Builtin.firstCells d 0 L):=by
 unfold Builtin.firstCells;cases h with
 |string s=>simp[aj]
 |eU l c=>simp[aj]
 |slice a j l c i=>dsimp only;rw[xE,xE];exact aj ⟨rfl,rfl⟩
 |empty g a f=>dsimp only;rw[xE,xE];exact aj ⟨rfl,rfl⟩
 |_=>exact ak
omit [Special]in
theorem zX(a)(n):sP Q (Builtin.holdsCells a n):=by grind[Builtin.holdsCells,jy,WQ,fQ]
theorem Ow(d l n)(b)(x):sP Q (Builtin.mayShare d l n b x):=by
 unfold Builtin.mayShare
 have e:∀y:Bool,sP Q (do
   if !y then return true
   match x with
   | .slice (some c) _ _=>do pure (!(<-Builtin.holdsCells c (n*d))||b.any (·.block==c.block))
   |_=>pure false:Sem Bool):=by
  intro y;cases y<;>grind[fQ,Bool.not_true,afI,jy,zX]
 cases b with
 |none=>grind
 |some a=>grind[jy,zX,Tp,fQ]
variable(env:Env Q P)
include env
theorem Q9{e:TypeId}(N:e<Q.types.size)(g h j f:Nat){s q:Value}(H:∀l,U.le l->aG V Q P AR l (Builtin.firstCells g h s) (Builtin.firstCells g h q)){A u:Sem (Array Value)}(S:∀l,U.le l->aG V Q P AR l A u):
  aG V Q P VR U
   (do
    let d <-choose (.appendCap f j e)
    askRoom (d*(<-typeInfo e).bytes)
    let k <-Builtin.firstCells g h s
    let new <-A
    let rest:=Builtin.zeroCells (<-zeroValue e).cells (d-f)
    pure (.slice (some (<-newRow e (k++new++rest))) f d):Sem Value)
   (do
    let d <-choose (.appendCap f j e)
    askRoom (d*(<-typeInfo e).bytes)
    let k <-Builtin.firstCells g h q
    let new <-u
    let rest:=Builtin.zeroCells (<-zeroValue e).cells (d-f)
    pure (.slice (some (<-newRow e (k++new++rest))) f d):Sem Value):=by
 refine aP (mJ _) λD h1 c=>bZ (ky env e) λC h2 i _=>aP (IK _) λp h3 _=> ?_
 have t:=Ren.le_trans h1 (Ren.le_trans h2 h3);refine aC (H p t) λm W o o' K=> ?_
 refine aC (S m (Ren.le_trans t W)) λB T n n' M=> ?_
 refine aC (jT env N) λw r z z' E=> ?_
 exact aC (qi e ((((K.mono (Ren.le_trans T r))).append (M.mono r)).append (JI E.cells _))) λ_ _ a a' R=>aj (.slice _ _ _ _ R)
theorem a4g{W:Array TypeId}(hts:∀t∈W,t<Q.types.size)(hz:∀x,W[1]? =some x->∀k,Q.underlying x≠some (.int k))(t:TypeId){a a':Array Value}(h:AR U a a'):
  aG V Q P VR U (Builtin.append_ W t a) (Builtin.append_ W t a'):=by
 unfold Builtin.append_;cases ht:W[0]? with
 |none=>exact ak
 |some st=>
  have hst:=hts st (ag9 ht);cases h0:a[0]? with
  |none=>exact ak
  |some s=>
   obtain⟨s',h0',hs⟩:=h.get h0;cases h1:a[1]? with
   |none=>exact ak
   |some x=>
    obtain⟨I,h1',q⟩:=h.get h1
    rw[h0',h1']
    dsimp only;refine bZ (aI env st) λσ B d R=> ?_
    cases d with
    |slice m=>
     have he:m<Q.types.size:=env.kids st _ hst R m (by simp[Dp])
     have A:∀{z:Ren}(b J:Option Addr)(o r f:Nat),σ.le z->VR σ (.slice b o r) (.slice J o r)->aG V Q P VR z
       (do
        let n <-Builtin.lenOf x
        let p:=o+n
        if p<=r then
         let new <-Builtin.firstCells f n x
         if let some a:=b then storeCells (a.add (o*f)) new.toList
         pure (.slice b p r)
        else
         if (p:Int)>IntKind.i64.max/\(false=true\/(<-typeInfo m).bytes=0)then runtimePanic (.error "growslice: len out of range")
         if Builtin.nextslicecap p r*(<-typeInfo m).bytes>2^48 then(do
          if !(<-Builtin.mayShare f o n b x)then mark .noRoom
          unsupported (.resourceLimit "append: a slice or a string whose bytes no memory bears"))
         let u <-choose (.appendCap p r m)
         askRoom (u*(<-typeInfo m).bytes)
         let K <-Builtin.firstCells f o (.slice b o r)
         let new <-Builtin.firstCells f n x
         let C:=Builtin.zeroCells (<-zeroValue m).cells (u-p)
         pure (.slice (some (<-newRow m (K++new++C))) p u):Sem Value)
       (do
        let n <-Builtin.lenOf I
        let p:=o+n
        if p<=r then
         let new <-Builtin.firstCells f n I
         if let some a:=J then storeCells (a.add (o*f)) new.toList
         pure (.slice J p r)
        else
         if (p:Int)>IntKind.i64.max/\(false=true\/(<-typeInfo m).bytes=0)then runtimePanic (.error "growslice: len out of range")
         if Builtin.nextslicecap p r*(<-typeInfo m).bytes>2^48 then(do
          if !(<-Builtin.mayShare f o n J I)then mark .noRoom
          unsupported (.resourceLimit "append: a slice or a string whose bytes no memory bears"))
         let u <-choose (.appendCap p r m)
         askRoom (u*(<-typeInfo m).bytes)
         let K <-Builtin.firstCells f o (.slice J o r)
         let new <-Builtin.firstCells f n I
         let C:=Builtin.zeroCells (<-zeroValue m).cells (u-p)
         pure (.slice (some (<-newRow m (K++new++C))) p u):Sem Value):=by
      intro σ1 b J o r f l1 j;refine bZ (KX (q.mono (Ren.le_trans B l1))) λσ2 l2 n N=> ?_
      have g2:=Ren.le_trans l1 l2;have E:∀{z:Ren},σ2.le z->VR z x I:=λw=>q.mono (Ren.le_trans B (Ren.le_trans g2 w))
      dsimp only;split
      ·cases j with
       |eU _ _=>exact aC (nD f n (E (Ren.le_refl _)) N) λH M c c' hc=>aj (.eU _ _)
       |slice a a' _ _ ha=>
        refine aC (nD f n (E (Ren.le_refl _)) N) λH M c c' hc=> ?_
        exact aP (qh _ _ 0 ((ha.mono (Ren.le_trans g2 M)).add _) hc.list) λσ4 l4 _=>aj (.slice _ _ _ _ (ha.mono (Ren.le_trans g2 (Ren.le_trans M l4))))
       |empty g a hg=>
        rename_i h0;obtain rfl:n=0:=by omega
        refine aC (Fe f (E (Ren.le_refl _))) λH M c c' hc=> ?_
        obtain⟨rfl,rfl⟩:=hc;exact aj (.empty _ _ (hg.imp λc y=>M _ _ _ (g2 _ _ _ y)))
      ·refine bZ (ky env m) λH M i _=> ?_
       split
       ·exact iB
       ·refine bZ (ky env m) λσ4 l4 i _=> ?_
        split
        ·refine bE (bH (dW (Ow _ _ _ _ _) λy=> ?_))
         split
         ·exact dW (a0s _) λ_=>bL _
         ·exact bL _
        ·have g4:=Ren.le_trans M l4
         refine Q9 env he f o r (o+n) (λz w=>nD f o (j.mono (Ren.le_trans (Ren.le_trans g2 g4) w)) (λ⟨g,e⟩=>by cases e;rfl)) (λz w=>nD f n (E (Ren.le_trans g4 w)) N)
     cases S:W[1]? with
     |none=>
      cases hs with
      |eU l c=>exact aP (dE env m) λz w f=>A none none l c f w (.eU _ _)
      |slice b J l c j=>exact aP (dE env m) λz w f=>A (some b) (some J) l c f w (.slice _ _ _ _ (j.mono B))
      |empty g b hg=>exact aP (dE env m) λz w f=>A (some g) (some b) 0 0 f w (.empty _ _ (hg.imp λc y=>B _ _ _ y))
      |_=>exact ak
     |some T=>
      cases hs with
      |eU l c=>
       refine aP (dE env m) λz w f=>bZ (aI env T) λυ D d R=> ?_
       cases d<;>first|exact absurd R (hz T S _)|exact A none none l c f (Ren.le_trans w D) (.eU _ _)
      |slice b J l c j=>
       refine aP (dE env m) λz w f=>bZ (aI env T) λυ D d R=> ?_
       cases d<;>first|exact absurd R (hz T S _)|exact A (some b) (some J) l c f (Ren.le_trans w D) (.slice _ _ _ _ (j.mono B))
      |empty g b hg=>
       refine aP (dE env m) λz w f=>bZ (aI env T) λυ D d R=> ?_
       cases d<;>first|exact absurd R (hz T S _)|exact A (some g) (some b) 0 0 f (Ren.le_trans w D) (.empty _ _ (hg.imp λc y=>B _ _ _ y))
      |_=>exact ak
    |_=>exact ak
theorem aa3(w:Array TypeId)(t:TypeId){a H:Array Value}(h:AR U a H):aG V Q P VR U (Builtin.copy_ w t a) (Builtin.copy_ w t H):=by
 unfold Builtin.copy_;cases ht:w[0]? with
 |none=>exact ak
 |some N=>
  cases h0:a[0]? with
  |none=>exact ak
  |some s=>
   obtain⟨s',B,T⟩:=h.get h0;cases h1:a[1]? with
   |none=>exact ak
   |some x=>
    obtain⟨I,A,S⟩:=h.get h1
    rw[B,A]
    dsimp only;refine bZ (aI env N) λM r d hd=> ?_
    cases d with
    |slice j=>
     have i:∀{C:Ren},M.le C->VR C x I:=λz=>S.mono (Ren.le_trans r z)
     cases T with
     |eU l c=>
      refine bZ (KX (i (Ren.le_refl _))) λo q n k=>aP (dE env j) λm p f=> ?_
      exact aC (nD f _ (i (Ren.le_trans q p)) (λe=>by rw[k e];exact Nat.zero_min _)) λ_ _ c E u=>aj (.int _ _)
     |empty g b hg=>
      refine bZ (KX (i (Ren.le_refl _))) λo q n k=>aP (dE env j) λm p f=> ?_
      dsimp only
      rw[show Nat.min n 0=0 from Nat.min_zero n]
      refine aC (Fe f (i (Ren.le_trans q p))) λ_ _ c E u=> ?_
      obtain⟨rfl,rfl⟩:=u;exact aj (.int _ _)
     |slice b J l c W=>
      refine bZ (KX (i (Ren.le_refl _))) λo q n k=>aP (dE env j) λm p f=> ?_
      have D:=Ren.le_trans q p;refine aC (nD f _ (i D) (λe=>by rw[k e];exact Nat.zero_min _)) λK R c E u=> ?_
      exact aP (qh _ _ 0 (W.mono (Ren.le_trans r (Ren.le_trans D R))) u.list) λ_ _ _=>aj (.int _ _)
     |_=>exact ak
    |_=>exact ak
omit env in
theorem a7B(h:VR U v L):aG V Q P VR U (Instr.entry v) (Instr.entry L):=by
 unfold Instr.entry;cases h with
 |ptr a a' ha=>
  cases ha with
  |mk b c q D kd W=>
   cases q with
   |succ n=>exact ak
   |zero=>
    refine aC (gU W) λσ R o K⟨T,u⟩=> ?_
    cases u with
    |mapIter r r' n x m S=>
     dsimp only;cases x.back? with
     |none=>exact ak
     |some d=>
      refine aC (gU S) λH N o K⟨i,u⟩=> ?_
      cases u with
      |map B f C z=>
       dsimp only;split
       ·exact bW
       ·have s:(B.find? (·.born==d)=none/\f.find? (·.born==d)=none)\/∃e p,B.find? (·.born==d)=some e/\f.find? (·.born==d)=some p/\pO H e p:=by
         rw[<-Array.find?_toList,<-Array.find?_toList]
         have w:=z.list;generalize B.toList=l at w |-;generalize f.toList=M at w |-;induction w with
         |nil=>simp
         |@cons e p l M k _ ih=>
          rw[List.find?_cons,List.find?_cons,<-k.born]
          cases j:(e.born==d)<;>grind
        obtain⟨A,E⟩|⟨e,p,A,E,k⟩:=s
        ·simp only[A];exact bE (bL _)
        ·simp only[A,E];exact aj (.kZ (.pair k.key k.val))
      |_=>cases i
    |_=>exact ak
 |_=>exact ak
theorem a7C(t:TypeId)(h:VR U v L):aG V Q P VR U (Instr.range t v) (Instr.range t L):=by
 unfold Instr.range;refine bZ (aI env t) λB c d q=> ?_
 have a:∀{f:Ren}{o g:Obj},qd V f o g->kindOf o=some .iter->aG V Q P VR f (do pure (.pointer (some ⟨<-newObj o,0,none⟩)):Sem Value) (do pure (.pointer (some ⟨<-newObj g,0,none⟩)):Sem Value):=λj q=>
  aC (rP j q) λ_ _ n C w=>aj (.ptr _ _ (.at_ w))
 cases d with
 |string=>
  cases h with
  |string s=>exact a (.stringIter s 0) rfl
  |_=>exact bE (bH (aZ _))
 |map k e=>
  cases h with
  |sN=>exact a (.KW _ _ _) rfl
  |map r u p=>
   refine aC (gU (c _ _ _ p)) λf i o g⟨l,j⟩=> ?_
   cases j with
   |map D A m z=>exact a (.mapIter r u _ _ _ (i _ _ _ (c _ _ _ p))) rfl
   |_=>cases l
  |_=>exact bE (bH (aZ _))
 |_=>exact bE (bH (aZ _))
omit env in
theorem bP.filter{r g}(h:bP U r g){p j}(s:∀e c,pO U e c->p e=j c):bP U (r.filter p) (g.filter j):=by
 have k:∀{l d:List MapEntry},fC U l d->fC U (l.filter p) (d.filter j):=by
  intro l d m;induction m with
  |nil=>exact .nil
  |@cons e c l d o _ f=>
   rw[List.filter_cons,List.filter_cons,<-s e c o]
   split
   ·exact .cons o f
   ·exact f
 have k2:∀{l d:List MapEntry},fC U l d->l.length=d.length/\∀(i:Nat)e c,l[i]? =some e->d[i]? =some c->pO U e c:=by
  intro l d m;induction m with
  |nil=>exact⟨rfl,λi e c h=>by simp at h⟩
  |@cons a z l d t _ f=>
   refine⟨by simp[f.1],λi e c h n=> ?_⟩;cases i with
   |zero=>simp at h n;subst h n;exact t
   |succ i=>exact f.2 i e c (by simpa using h) (by simpa using n)
 obtain⟨w,u⟩:=k2 (k h.list);refine⟨?_,λi e c x I=>u i e c ?_ ?_⟩
 ·have e:∀(a:Array MapEntry)(q:MapEntry->Bool),(a.filter q).size=(a.toList.filter q).length:=λa q=>by rw[<-Array.length_toList,Array.toList_filter]
  rw[e,e];exact w
 ·rw[<-Array.getElem?_toList,Array.toList_filter]at x;exact x
 ·rw[<-Array.getElem?_toList,Array.toList_filter]at I;exact I
omit env in
theorem bP.append{a c b J}(x:bP U a c)(y:bP U b J):bP U (a++b) (c++J):=zh
omit env in
theorem bP.all{a k}(x:bP U a k){p}(l:∀e g,pO U e g->p e=p g):k.all p=a.all p:=by
 rw[ah1,Array.all_eq_true,Array.all_eq_true]
 constructor
 ·intro h i d
  obtain⟨g,f,j⟩:=x.get (ag5 d);have c:i<k.size:=by rw[<-x.size];exact d
  rw[ag5 c]at f
  cases f
  rw[l _ _ j]
  exact h i c
 ·intro h i d
  have c:i<a.size:=by rw[x.size];exact d
  obtain⟨g,f,j⟩:=x.get (ag5 c)
  rw[ag5 d]at f
  cases f
  rw[<-l _ _ j]
  exact h i c
omit env in
theorem aa4(h:VR U v L)(s)(t):aG V Q P VR U (Instr.next v s t) (Instr.next L s t):=by
 unfold Instr.next;have f:∀{q:Ren},aG V Q P VR q (pure (.tuple #[.bool false]):Sem Value) (pure (.tuple #[.bool false])):=λ{q}=>aj (.kZ (.single (.bool _)))
 cases h with
 |ptr a a' ha=>
  cases ha with
  |mk b c T spot kd hk=>
   cases T with
   |succ n=>exact ak
   |zero=>
    refine aC (gU hk) λσ H o o'⟨M,ho⟩=> ?_
    cases ho with
    |stringIter x pos=>
     cases s with
     |false=>exact ak
     |true=>
      dsimp only;split
      ·have w:kd=.iter:=by simpa[kindOf]using M.symm
       subst w;exact aP (jR (H _ _ _ hk) (by simp) rfl (.stringIter _ _)) λ_ _ _=>aj (.kZ (.triple (.bool _) (.int _ _) (.int _ _)))
      ·exact f
    |KW n x m=>cases s<;>first|exact f|exact ak
    |mapIter r r' n x m hr=>
     cases s with
     |true=>exact ak
     |false=>
      have w:kd=.iter:=by simpa[kindOf]using M.symm
      subst w;refine aC (gU hr) λq W o o'⟨K,ho⟩=> ?_
      cases ho with
      |map C i clock z=>
       dsimp only
       rw[z.isEmpty,z.all (p:=λe=>decide (e.born>=m)) (λe j d=>by simp only[d.born])]
       split
       ·exact bW
       ·have hl:bP q (C.filter λe=> !x.contains e.born) (i.filter λe=> !x.contains e.born):=z.filter λe j d=>by rw[d.born]
        have h1:bP q ((C.filter λe=> !x.contains e.born).filter (·.born<n)) ((i.filter λe=> !x.contains e.born).filter (·.born<n)):=hl.filter λe j d=>by rw[d.born]
        have h2:bP q ((C.filter λe=> !x.contains e.born).filter (·.born>=n)) ((i.filter λe=> !x.contains e.born).filter (·.born>=n)):=hl.filter λe j d=>by rw[d.born]
        have S:=h1.append h2
        rw[h1.isEmpty]
        generalize (Array.filter (λx=>decide (x.born<n)) (Array.filter (λe=> !x.contains e.born) C)).isEmpty=l;generalize hE:Array.filter (λx=>decide (x.born<n)) (Array.filter (λe=> !x.contains e.born) C)++Array.filter (λx=>decide (x.born>=n)) (Array.filter (λe=> !x.contains e.born) C)=E at S |-;generalize hE':Array.filter (λx=>decide (x.born<n)) (Array.filter (λe=> !x.contains e.born) i)++Array.filter (λx=>decide (x.born>=n)) (Array.filter (λe=> !x.contains e.born) i)=E' at S |-;have hsz:((if l then#[none]else#[])++E'.map some:Array (Option MapEntry)).size=((if l then#[none]else#[])++E.map some:Array (Option MapEntry)).size:=by simp[S.size]
        rw[hsz]
        refine aP (mJ _) λυ u k=> ?_
        have B:∀k:Nat,(((if l then#[none]else#[])++E.map some:Array (Option MapEntry))[k]? =none)\/
          (((if l then#[none]else#[])++E.map some:Array (Option MapEntry))[k]? =some none/\((if l then#[none]else#[])++E'.map some:Array (Option MapEntry))[k]? =some none)\/
          ∃e j,((if l then#[none]else#[])++E.map some:Array (Option MapEntry))[k]? =some (some e)/\((if l then#[none]else#[])++E'.map some:Array (Option MapEntry))[k]? =some (some j)/\pO q e j:=by
         intro k
         rw[ah4,ah4]
         by_cases R:k<(if l then#[none]else#[]:Array (Option MapEntry)).size
         ·split<;>grind
         ·rw[afJ R,afJ R,ag2,ag2]
          cases hk2:E[k-(if l then#[none]else#[]:Array (Option MapEntry)).size]? with
          |none=>exact .inl rfl
          |some e=>
           obtain⟨j,N,d⟩:=S.get hk2
           rw[N]
           exact .inr (.inr ⟨e,j,rfl,rfl,d⟩)
        obtain B|⟨B,A⟩|⟨e,j,B,A,d⟩:=B k
        ·rw[B];exact ak
        ·rw[B,A];exact f
        ·rw[B,A]
         have hh:=Ren.le_trans W u;dsimp only
         rw[<-d.born]
         refine aP (jR (hh _ _ _ (H _ _ _ hk)) (by simp) rfl (.mapIter r r' _ _ _ (hh _ _ _ hr))) λφ D _=> ?_
         exact aj (.kZ (.triple (.bool _) (d.key.mono (Ren.le_trans u D)) (d.val.mono (Ren.le_trans u D))))
      |_=>cases K
    |_=>cases s<;>exact ak
 |_=>exact ak
end
end
section
variable[Special]
section
variable{U:Code->Prop}{Q P:Program}{A:Ren}{Z X Y V:Type}{F:Ren->Z->X->Prop}{G:Ren->Y->V->Prop}
theorem a7D(op)(h:VR A v L):aG U Q P VR A (Op.unary op v) (Op.unary op L):=by
 unfold Op.unary
 cases op<;>cases h<;>first
  |exact ak
  |exact aF
  |exact aj (.bool _)
  |exact aj (.float _ _)
  |exact aj (.complex _ _ _)
  |exact iP (Fa _ _ _ _)
  |exact iP (GJ _ _ _ _)
theorem nY(op)(t)(y):Dead Q (binOp op t (.tuple #[]) y):=by
 unfold binOp
 cases op<;>cases y<;>first
  |exact aZ _
  |exact bL _
  |exact bH (zQ _ _)
theorem bF(op)(t)(x):Dead Q (binOp op t x (.tuple #[])):=by
 unfold binOp
 cases op<;>cases x<;>first
  |exact aZ _
  |exact bL _
  |exact bH (xD _ _)
  |(rename_i a;cases a<;>first|exact aZ _|exact bL _)
variable(env:Env Q P)
include env
def aa5(A:Ren)(v L:Value):Prop:=∃a c,v=.pointer (some a)/\L=.pointer (some c)/\bI A a c
theorem p8(u:Array TypeId)(t:TypeId){p w:Value}(h:VR A p w)(B:VR A v L):aG U Q P aa5 A (Builtin.unsafeAdd_ u t #[p,v]) (Builtin.unsafeAdd_ u t #[w,L]):=by
 unfold Builtin.unsafeAdd_;cases h with
 |nilPtr=>
  refine aP (wE B) λE d n=> ?_
  dsimp only;split
  ·exact aF
  ·split
   ·exact bW
   ·exact aF
 |ptr a T j=>
  refine aP (wE B) λE d n=> ?_
  obtain⟨k,C⟩:=j.block;dsimp only;split
  ·refine aC (GI (d _ _ _ C)) λD f o S H=> ?_
   rw[H.isSome]
   split
   ·exact bW
   ·exact aj ⟨_,_,rfl,rfl,j.mono (Ren.le_trans d f)⟩
  ·split
   ·exact bW
   ·refine aP (nW (d _ _ _ C)) λD f s=> ?_
    cases s with
    |none=>exact aF
    |some x=>
     obtain⟨e,c⟩:=x;refine aC fT λN m q R⟨M,K⟩=> ?_
     subst M K
     rw[jr env.tables,gT env.tables,zP env.tables,<-j.off]
     cases cellAtBytes q q.depth e (c/q.cellsOf e) a.off n with
     |none=>exact aF
     |some l=>
      refine aj ⟨_,_,rfl,rfl,?_⟩;cases j with
      |mk b c z i k1 r=>exact .mk b c l i k1 (m _ _ _ (f _ _ _ (d _ _ _ r)))
 |_=>exact ak
theorem l7(t:TypeId)(q:VR A x I)(l:VR A y O):aG U Q P VR A (movedNumber t x y) (movedNumber t I O):=by
 unfold movedNumber;refine bZ (aI env t) λC f d _=> ?_
 have i:=q.mono f;have g:∀{j:Ren}{s p:Sem Value},aG U Q P aa5 j s p->aG U Q P VR j s p:=λh=>h.weaken λB _ v L⟨a,R,e,N,m⟩=>by subst e N;exact .ptr _ _ m
 have o:aG U Q P VR C
   (do
    let .pointer (some n):=x|Builtin.unsafeAdd_ #[] t #[x,y]
    let (a,c) <-behindNumber n
    match <-Builtin.unsafeAdd_ #[] t #[.pointer (some a),y]with
    | .pointer (some b)=>asNumber b c
    |v=>pure v:Sem Value)
   (do
    let .pointer (some n):=I|Builtin.unsafeAdd_ #[] t #[I,O]
    let (a,c) <-behindNumber n
    match <-Builtin.unsafeAdd_ #[] t #[.pointer (some a),O]with
    | .pointer (some b)=>asNumber b c
    |v=>pure v:Sem Value):=by
  cases q with
  |ptr a R m=>
   refine aC (iV (m.mono f)) λj k z D⟨w,u⟩=> ?_
   obtain⟨T,S⟩:=z;obtain⟨w1,W⟩:=D;dsimp only at w u |-;subst u;refine aC (p8 env _ t (.ptr _ _ w) (l.mono (Ren.le_trans f k))) λB E r r' H=> ?_
   obtain⟨b,J,rfl,rfl,M⟩:=H;exact Lt M _
  |undef v hv=>exact bE (aZ _)
  |lost _ K=>obtain⟨_,_,_,rfl⟩:=kJ K;exact g (p8 env _ t i (l.mono f))
  |_=>exact g (p8 env _ t i (l.mono f))
 cases d<;>first|exact bE (bH (bL _))|exact o
theorem Du(t:TypeId)(q:VR A x I)(B:VR A y O):aG U Q P VR A (movedPointer t x y) (movedPointer t I O):=by
 unfold movedPointer;have c:∀{i:Ren}{s l:Sem Value},aG U Q P aa5 i s l->aG U Q P VR i s l:=λh=>h.weaken λz _ v L⟨a,w,e,u,j⟩=>by subst e u;exact .ptr _ _ j
 have f:=q;cases q with
 |ptr a w j=>
  obtain⟨k,p⟩:=j.block;refine aC (Ls p) λi d o C m=> ?_
  rw[m.isSome]
  split
  ·exact bW
  ·exact c (p8 env _ t (f.mono d) (B.mono d))
 |undef v D=>exact bE (aZ _)
 |lost _ r=>obtain⟨_,_,_,rfl⟩:=kJ r;exact c (p8 env _ t f B)
 |_=>simp_all[p8,env]
theorem JJ{a f:Addr}(l:bI A a f)(j:bI A b J):aG U Q P sM A (Op.twoPlaces a b) (Op.twoPlaces f J):=by
 refine .bij A _ _ λc=> ?_
 unfold Op.twoPlaces;refine aC fT λo h p q⟨e,m⟩=> ?_
 subst e m;obtain⟨k,i⟩:=l.block;have d:=c.low _ _ _ i;dsimp only
 rw[afN (by simp[d])]
 exact bW
theorem a0F(k:IntKind){a c:Addr}(e:bI A a c)(d:bI A b J):aG U Q P VR A (Op.addrSub k a b) (Op.addrSub k c J):=by unfold Op.addrSub;exact aP (JJ env e d) λ_ _ x=>aj (.int _ _)
theorem a0G(op:BinOp){a c:Addr}(e:bI A a c)(d:bI A b J):aG U Q P VR A (Op.addrCmp op a b) (Op.addrCmp op c J):=by
 unfold Op.addrCmp;refine aP (JJ env e d) λ_ _ x=> ?_
 cases op<;>first|exact aj (.bool _)|exact aF
theorem Pd(k:IntKind){a j:Addr}(h:bI A a j)(n:Int):aG U Q P VR A (Op.addrMod k a n) (Op.addrMod k j n):=by
 unfold Op.addrMod;obtain⟨p,l⟩:=h.block;refine aP (nW l) λo f s=> ?_
 cases s with
 |none=>exact aF
 |some x=>
  obtain⟨e,c⟩:=x;refine bZ (ky env e) λm d i _=> ?_
  try dsimp only
  split
  ·exact bW
  ·exact aP (Lx (h.mono (Ren.le_trans f d)) env) λ_ _ y=>aj (.int _ _)
theorem TG(t:TypeId)(j:VR A x I)(e:VR A y O):aG U Q P VR A (binOp .eql t x y) (binOp .eql t I O)/\aG U Q P VR A (binOp .neq t x y) (binOp .neq t I O):=by
 have h:∀(f:Bool->Bool),aG U Q P VR A (do pure (.bool (f (<-Op.equal t x y))):Sem Value) (do pure (.bool (f (<-Op.equal t I O))):Sem Value):=λf=>aP (ZG env t j e) λ_ _ b=>aj (.bool _)
 have a:=h id;have c:=h not;cases j with
 |undef v g=>exact⟨bE (nY _ _ _),bE (nY _ _ _)⟩
 |int k n=>
  cases e with
  |undef v g=>exact⟨bE (bF _ _ _),bE (bF _ _ _)⟩
  |lost _ d=>obtain⟨_,_,_,rfl⟩:=kJ d;exact⟨a,c⟩
  |int i m=>
   constructor
   ·exact zV
   ·exact zV
  |_=>exact⟨a,c⟩
 |float k n=>
  cases e with
  |undef v g=>exact⟨bE (bF _ _ _),bE (bF _ _ _)⟩
  |lost _ d=>obtain⟨_,_,_,rfl⟩:=kJ d;exact⟨a,c⟩
  |float i m=>
   constructor
   ·exact zU
   ·exact zU
  |_=>exact⟨a,c⟩
 |complex k n m=>
  cases e with
  |undef v g=>exact⟨bE (bF _ _ _),bE (bF _ _ _)⟩
  |lost _ d=>obtain⟨_,_,_,rfl⟩:=kJ d;exact⟨a,c⟩
  |complex i o p=>
   constructor
   ·exact zW
   ·exact zW
  |_=>exact⟨a,c⟩
 |string s=>
  cases e with
  |undef v g=>exact⟨bE (bF _ _ _),bE (bF _ _ _)⟩
  |lost _ d=>obtain⟨_,_,_,rfl⟩:=kJ d;exact⟨a,c⟩
  |string l=>constructor<;>(unfold binOp;exact iP (wX _ _ _))
  |_=>exact⟨a,c⟩
 |lost _ d=>
  obtain⟨_,_,_,rfl⟩:=kJ d;exact zT
 |_=>
  exact zT
theorem a7E(op:BinOp)(t:TypeId)(r:VR A x I)(j:VR A y O):aG U Q P VR A (binOp op t x y) (binOp op t I O):=by
 by_cases c:op=.eql
 ·subst c;exact(TG env t r j).1
 by_cases e:op=.neq
 ·subst e;exact(TG env t r j).2
 have g:=r;have i:=j;unfold binOp;cases r with
 |undef v l=>exact bE (nY op _ _)
 |int k n=>
  cases j with
  |undef v l=>exact bE (bF op _ _)
  |int D m=>
   cases op<;>first
    |exact absurd rfl c
    |exact absurd rfl e
    |exact iP (WY _ _ _ _ _)
    |(dsimp only;split<;>first|exact ak|exact iP (Fa _ _ _ _)|exact iP (TB _ _ _ _)|exact iP (GJ _ _ _ _)|exact iP (JH _ _ _))
  |ptr a K w=>
   cases op<;>first
    |exact absurd rfl c
    |exact absurd rfl e
    |exact l7 env t i g
    |exact aF
    |exact ak
    |(refine aC (iV w) λq f z B⟨o,_⟩=> ?_;exact Pd env _ o _)
  |nilPtr=>
   cases op<;>first
    |exact absurd rfl c
    |exact absurd rfl e
    |exact l7 env t i g
    |exact aF
    |exact ak
  |_=>
   cases op<;>first
    |exact absurd rfl c
    |exact absurd rfl e
    |exact ak
 |float k n=>
  cases j with
  |undef v l=>exact bE (bF op _ _)
  |float D m=>
   cases op<;>first
    |exact absurd rfl c
    |exact absurd rfl e
    |(dsimp only;split<;>first|exact ak|exact iP ((zH _ _ _ _).mono λ_ h=>h.1)|exact iP (wY _ _ _ _))
  |_=>
   exact jB
 |complex k n m=>
  cases j with
  |undef v l=>exact bE (bF op _ _)
  |complex D S T=>
   cases op<;>first
    |exact absurd rfl c
    |exact absurd rfl e
    |(dsimp only;split<;>first|exact ak|exact iP (C.op _ _ _ _ _ _))
  |_=>
   exact jB
 |string s=>
  cases j with
  |undef v l=>exact bE (bF op _ _)
  |string R=>cases op<;>first|exact absurd rfl c|exact absurd rfl e|exact iP (wX _ _ _)
  |_=>
   exact jB
 |ptr a K w=>
  cases j with
  |undef v l=>exact bE (bF op _ _)
  |int k m=>
   cases op<;>first
    |exact absurd rfl c
    |exact absurd rfl e
    |exact l7 env t g (.int _ _)
    |exact aF
    |exact ak
    |(refine aC (iV w) λq f z B⟨o,_⟩=> ?_;exact Pd env _ o _)
    |(refine bZ (aI env t) λq f d _=> ?_
      cases d<;>first|exact Du env t (g.mono f) (i.mono f)|exact l7 env t (g.mono f) (i.mono f))
  |ptr b J H=>
   cases op<;>first
    |exact absurd rfl c
    |exact absurd rfl e
    |exact aF
    |exact ak
    |(refine aC (iV w) λq f z B⟨o,_⟩=>aC (iV (H.mono f)) λM p u N⟨E,_⟩=> ?_;first|exact a0F env _ (o.mono p) E|exact a0G env _ (o.mono p) E)
  |_=>
   exact jB
 |nilPtr=>
  cases j with
  |undef v l=>exact bE (bF op _ _)
  |int k m=>
   cases op<;>first
    |exact absurd rfl c
    |exact absurd rfl e
    |exact l7 env t g (.int _ _)
    |exact aF
    |exact ak
    |(refine bZ (aI env t) λq f d _=> ?_
      cases d<;>first|exact Du env t (g.mono f) (i.mono f)|exact l7 env t (g.mono f) (i.mono f))
  |_=>
   exact jB
 |_=>
  cases j with
  |undef v l=>exact bE (bF op _ _)
  |_=>
   exact jB
end
end
end Go.Proofs.Zb
