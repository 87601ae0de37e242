import Derived.Test.YtkdjjnkpfpogkaaGreatDoorK05
set_option maxHeartbeats 8000000
set_option linter.all false
namespace Go.Proofs.Zb
variable{v I:Value}{a A:Array Value}
section
variable[Special]
section
variable{ok:Code->Prop}{Q P:Program}{J:Ren}{V L U O:Type}{F:Ren->V->L->Prop}{G:Ren->U->O->Prop}
theorem TH:∀(n:Nat){J:Ren}{a A:Addr}(c:ByteArray),bI J a A->aG ok Q P sM J (loadBytes a c n) (loadBytes A c n):=by
 intro n;induction n with
 |zero=>intro J a A c _;exact aj rfl
 |succ n e=>
  intro J a A c h;unfold loadBytes;refine aC (WS h) λg d v I f=> ?_
  cases f with
  |int k b=>cases k<;>first|exact ak|exact e _ ((h.mono d).add 1)
  |_=>exact ak
theorem Kt(e)(s):aG ok Q P VR J (Conv.stringToBytes e s) (Conv.stringToBytes e s):=by
 unfold Conv.stringToBytes;refine aP (mJ _) λk h c=> ?_
 refine aC (qi e ((FN s).append (AR.yn λv d=> ?_))) λj g a A f=> ?_
 ·rw[Array.mem_replicate]at d;rw[d.2];exact .int _ _
 ·exact aP (sQ f) λi b _=>aj (.slice _ _ _ _ (f.mono b))
theorem TI(s):∀n i b,AR J b b->AR J (Conv.runesFrom s n i b) (Conv.runesFrom s n i b):=by
 intro n;induction n with
 |zero=>intro i b h;exact h
 |succ n c=>
  intro i b h;unfold Conv.runesFrom;split
  ·exact c _ _ (h.push (.int _ _))
  ·exact h
theorem Ku(e)(s):aG ok Q P VR J (Conv.stringToRunes e s) (Conv.stringToRunes e s):=by
 unfold Conv.stringToRunes;refine aP (mJ _) λi f c=> ?_
 refine aC (qi e ((TI s _ _ _ AR.empty).append (AR.yn λv b=> ?_))) λh d a A g=>aj (.slice _ _ _ _ g)
 rw[Array.mem_replicate]at b;rw[b.2];exact .int _ _
theorem Kv(h:VR J v I):aG ok Q P VR J (Conv.bytesToString v) (Conv.bytesToString I):=by
 unfold Conv.bytesToString;cases h with
 |eU n m=>exact aj (.string _)
 |empty g a t=>exact aj (.string _)
 |slice a A n m p=>
  refine aC (wC p n) λq j c u o=> ?_
  refine aC (F:=sM) ?_ λd _ s i e=>by cases (show s=i from e);exact aj (.string _)
  rw[<-Array.forIn_toList,<-Array.forIn_toList]
  have:∀{l f:List Value}{d:Ren}(s:ByteArray),nO d l f->aG ok Q P sM d
    (forIn l s (λc(r:ByteArray)=>do
     let .int .u8 n:=c|stuck "bytesToString: byte expected"
     pure (ForInStep.yield (r.push (UInt8.ofNat n.toNat)))))
    (forIn f s (λc(r:ByteArray)=>do
     let .int .u8 n:=c|stuck "bytesToString: byte expected"
     pure (ForInStep.yield (r.push (UInt8.ofNat n.toNat))))):=by
   intro l;induction l with
   |nil=>intro f d s h;cases h;simp only[List.forIn_nil];exact aj rfl
   |cons v l b=>
    intro f d s h;exact zZ
  exact this _ o.list
 |_=>exact ak
theorem Kw(h:VR J v I):aG ok Q P VR J (Conv.runesToString v) (Conv.runesToString I):=by
 unfold Conv.runesToString;cases h with
 |eU n m=>exact aj (.string _)
 |empty g a t=>exact aj (.string _)
 |slice a A n m p=>
  refine aC (wC p n) λq j c u o=> ?_
  refine aC (F:=sM) ?_ λd _ s i e=>by cases (show s=i from e);exact aj (.string _)
  rw[<-Array.forIn_toList,<-Array.forIn_toList]
  have:∀{l f:List Value}{d:Ren}(s:ByteArray),nO d l f->aG ok Q P sM d
    (forIn l s (λc(r:ByteArray)=>do
     let .int .i32 n:=c|stuck "runesToString: rune expected"
     pure (ForInStep.yield (r++Utf8.encode n))))
    (forIn f s (λc(r:ByteArray)=>do
     let .int .i32 n:=c|stuck "runesToString: rune expected"
     pure (ForInStep.yield (r++Utf8.encode n)))):=by
   intro l;induction l with
   |nil=>intro f d s h;cases h;simp only[List.forIn_nil];exact aj rfl
   |cons v l b=>
    intro f d s h;exact zZ
  exact this _ o.list
 |_=>exact ak
variable(X:Env Q P)
include X
theorem Ff{a A:Addr}(h:bI J a A)(u:TypeId)(n:Nat):aG ok Q P sM J (variablesAt a u n) (variablesAt A u n):=by
 unfold variablesAt;obtain⟨k,g⟩:=h.block;refine aC fT λl d p b⟨e,i⟩=> ?_
 subst e i;refine aP (nW (d _ _ _ g)) λj f s=> ?_
 cases s with
 |none=>exact aj rfl
 |some x=>
  obtain⟨e,c⟩:=x;refine aj ?_;show liesAt p p.depth e (c/p.cellsOf e) a.off u n=liesAt b b.depth e (c/b.cellsOf e) A.off u n
  rw[jr X.tables,gT X.tables,WZ X.tables,h.off]
theorem LG(k:Array TypeId)(t:TypeId)(h:AR J a A):aG ok Q P VR J (Builtin.unsafeString_ k t a) (Builtin.unsafeString_ k t A):=by
 unfold Builtin.unsafeString_;obtain⟨l⟩:=a;obtain⟨w⟩:=A;have f:=h.list;dsimp only at f;cases f with
 |nil=>exact ak
 |@cons p H l w r f=>
  cases f with
  |nil=>cases r<;>exact ak
  |@cons x E l w q f=>
   cases f with
   |cons B f=>cases r<;>exact ak
   |nil=>
    cases r with
    |nilPtr=>
     refine aP (wE q) λy d n=> ?_
     cases k[0]? with
     |none=>exact ak
     |some u=>
      dsimp only;split
      ·exact iB
      ·split
       ·exact bW
       ·split
        ·exact aj (.string _)
        ·exact dZ
    |ptr b K j=>
     refine aP (wE q) λy d n=> ?_
     cases k[0]? with
     |none=>exact ak
     |some u=>
      dsimp only;split
      ·exact iB
      ·split
       ·exact bW
       ·split
        ·exact aj (.string _)
        ·refine bZ (Lr X u) λD i e _=> ?_
         refine aP (Ff X (j.mono (Ren.le_trans d i)) e _) λC o c=> ?_
         have g:=Ren.le_trans d (Ren.le_trans i o);cases c with
         |false=>exact aF
         |true=>
          refine aP (TH _ _ (j.mono g)) λz m s=> ?_
          exact aP (Lp (j.mono (Ren.le_trans g m)) _) λ_ _ _=>aj (.string _)
    |_=>exact ak
omit X in
theorem TJ{r c:Nat}(h:J r c .cells){V L:Type}{F:Ren->V->L->Prop}{k}{b:Sem L}(d:aG ok Q P F J (k none) b):aG ok Q P F J (viewAt r>>= k) b:=
 .Dm J r c _ b h λ_=>d
theorem GK(r e:Array TypeId)(t s:TypeId)(j:Dead Q (elemOf t))(h:AR J a A):aG ok Q P VR J (Builtin.unsafeSliceData_ r t a) (Builtin.unsafeSliceData_ e s A):=by
 unfold Builtin.unsafeSliceData_;obtain⟨l⟩:=a;obtain⟨u⟩:=A;have d:=h.list;dsimp only at d;cases d with
 |nil=>exact ak
 |@cons p C l u q d=>
  cases d with
  |cons E d=>cases q<;>exact ak
  |nil=>
   cases q with
   |eU n m=>exact aj .nilPtr
   |slice b H n m i=>
    change aG ok Q P VR J (if m≠0 then _ else _) (if m≠0 then _ else _)
    split
    ·exact aj (.ptr _ _ i)
    ·obtain⟨k,x⟩:=i.block
     refine aC (GI x) λB f o D w=> ?_
     rw[w.isSome]
     split
     ·exact aj (.ptr _ _ (i.mono f))
     ·exact bE (bH j)
   |empty g b y=>
    obtain⟨c,z⟩:=y
    change aG ok Q P VR J (if (0:Nat)≠0 then _ else _) _
    rw[afJ (by omega)]
    exact TJ z (bE (bH j))
   |_=>exact ak
theorem FO(j:Array TypeId)(t:TypeId)(h:AR J a A):aG ok Q P VR J (Builtin.unsafeStringData_ j t a) (Builtin.unsafeStringData_ j t A):=by
 unfold Builtin.unsafeStringData_;obtain⟨l⟩:=a;obtain⟨r⟩:=A;have d:=h.list;dsimp only at d;cases d with
 |nil=>exact ak
 |@cons p y l r k d=>
  cases d with
  |cons z d=>cases k<;>exact ak
  |nil=>
   cases k with
   |string s=>
    change aG ok Q P VR J (if s.size=0 then _ else _) (if s.size=0 then _ else _)
    split
    ·refine aP (mJ _) λx u n=> ?_
     try dsimp only
     split
     ·exact aj .nilPtr
     ·refine bZ (Lr X t) λq i e _=> ?_
      refine aC (qi e AR.empty) λo g b w f=> ?_
      exact aP (sQ f) λm c _=>aj (.ptr _ _ (f.mono c))
    ·refine bZ (Lr X t) λq i e _=> ?_
     refine aC (qi e (FN s)) λo g b w f=> ?_
     exact aP (Lp f _) λm c _=>aj (.ptr _ _ (f.mono c))
   |_=>exact ak
theorem TK{a A:Addr}(h:bI J a A):aG ok Q P bI J (Conv.seenAt a) (Conv.seenAt A):=by
 unfold Conv.seenAt;obtain⟨k,u⟩:=h.block;refine aC (GI u) λC j o H r=> ?_
 obtain⟨rfl,rfl⟩|⟨s,D,t,rfl,rfl,f⟩:=r
 ·exact aj (h.mono j)
 ·dsimp only
  rw[<-h.off,<-h.spot,<-f.spot]
  split
  ·exact aj f
  ·split
   ·exact bW
   ·refine aC fT λB d p E⟨e,w⟩=> ?_
    subst e w
    rw[jr X.tables,qg X.tables]
    cases byteOfCell p p.depth t a.off with
    |none=>exact aF
    |some U=>
     obtain⟨K,l⟩:=f.block;refine aP (nW (d _ _ _ l)) λz i x=> ?_
     cases x with
     |none=>exact aF
     |some x=>
      obtain⟨e,cells⟩:=x;dsimp only
      rw[gT X.tables,zP X.tables,<-f.off]
      split
      ·exact bW
      ·cases cellAtBytes p p.depth e (cells/p.cellsOf e) s.off (U:Int)with
       |none=>exact aF
       |some c=>
        refine aj ?_;cases f with
        |mk y c0 q b k1 m=>exact .mk y c0 c b k1 (i _ _ _ (d _ _ _ m))
theorem Ky(s d:TypeId)(h:VR J v I):aG ok Q P VR J (Conv.unsafePointer s d v) (Conv.unsafePointer s d I):=by
 unfold Conv.unsafePointer;refine bZ (aI X s) λσ C Z _=>bZ (aI X d) λτ B K _=> ?_
 replace h:=h.mono (Ren.le_trans C B);cases Z with
 |pointer t=>
  cases K with
  |unsafePointer=>
   cases h with
   |nilPtr=>exact aj .nilPtr
   |ptr a A m=>
    refine aC (TK X m) λT z b b' j=> ?_
    obtain⟨k,D⟩:=j.block;refine aP (a0t D) λS o c=> ?_
    refine aP (dE X t) λR l n=> ?_
    have g:=Ren.le_trans o l
    rw[<-j.off,<-j.spot]
    cases c<;>dsimp only<;>split
    ·exact Aa
    ·exact sV
    ·exact Aa
    ·exact sV
   |_=>exact ak
  |_=>exact ak
 |unsafePointer=>
  cases K with
  |pointer u=>
   cases h with
   |nilPtr=>exact aj .nilPtr
   |ptr a A m=>
    refine aC (TK X m) λT z b b' j=> ?_
    refine aP (dE X u) λR l n=> ?_
    refine aP (Ff X (j.mono l) u 1) λS o c=> ?_
    obtain⟨k,D⟩:=j.block;have g:=Ren.le_trans l o
    try dsimp only
    split
    ·exact sV
    ·refine aP (nW (g _ _ _ D)) λψ y s=> ?_
     cases s with
     |none=>exact bE (bH (bL _))
     |some x=>
      obtain⟨e,c⟩:=x;refine aC fT λN w p p'⟨Y,H⟩=>aC fT λM r q q'⟨W,E⟩=> ?_
      subst Y H W E
      rw[jr X.tables,IM X.tables]
      try dsimp only
      split
      ·exact bW
      ·exact aC (rP (.view _ _ u (j.mono (Ren.le_trans g (Ren.le_trans y (Ren.le_trans w r))))) rfl) λ_ _ n i f=>aj (.ptr _ _ (.at_ f))
   |_=>exact ak
  |unsafePointer=>
   cases h with
   |nilPtr=>exact aj .nilPtr
   |ptr a A m=>exact aj (.ptr _ _ m)
   |_=>exact ak
  |int k=>
   cases h with
   |nilPtr=>exact aj (.int _ _)
   |ptr a A m=>exact Lt m _
   |_=>exact ak
  |_=>exact ak
 |int k=>
  cases K with
  |unsafePointer=>
   cases h with
   |int k n=>cases n with
    |ofNat n=>cases n with
     |zero=>exact aF
     |succ n=>exact aF
    |negSucc n=>exact aF
   |ptr a A m=>exact aF
   |_=>exact ak
  |_=>exact ak
 |_=>exact ak
omit X in
theorem a7F(s d):Dead Q (Conv.unsafePointer s d (.tuple #[])):=by simp[Conv.unsafePointer,dW,jA,aZ]<;>omega
omit X in
theorem a7G(e):Dead Q (do match <-Go.underlying e with
   | .int .u8=>Conv.bytesToString (.tuple #[])
   | .int .i32=>Conv.runesToString (.tuple #[])
   |_=>stuck "Convert: a slice of what to string?" :Sem Value):=dW (jA _) λd=>by
 cases d with
 |int k=>cases k<;>exact aZ _
 |_=>exact aZ _
theorem a0H(s d:TypeId)(o:(s==d)=false)(h:VR J v I):aG ok Q P VR J (convert s d v) (convert s d I):=by
 unfold convert;refine bZ (aI X s) λC l z _=>bZ (aI X d) λf j c _=> ?_
 replace h:=h.mono (Ren.le_trans l j);have q:=Ky (ok:=ok) X s d h
 have t:∀e x,aG ok Q P VR f (do match <-Go.underlying e with
   | .int .u8=>Conv.stringToBytes e x
   | .int .i32=>Conv.stringToRunes e x
   |_=>stuck "Convert: string to a slice of what?" :Sem Value) (do match <-Go.underlying e with
   | .int .u8=>Conv.stringToBytes e x
   | .int .i32=>Conv.stringToRunes e x
   |_=>stuck "Convert: string to a slice of what?" :Sem Value):=λe x=>bZ (aI X e) λg _ c _=>by
  cases c with
  |int k=>cases k<;>first|exact Kt e x|exact Ku e x|exact ak
  |_=>exact ak
 have u:∀e,aG ok Q P VR f (do match <-Go.underlying e with
   | .int .u8=>Conv.bytesToString v
   | .int .i32=>Conv.runesToString v
   |_=>stuck "Convert: a slice of what to string?" :Sem Value) (do match <-Go.underlying e with
   | .int .u8=>Conv.bytesToString I
   | .int .i32=>Conv.runesToString I
   |_=>stuck "Convert: a slice of what to string?" :Sem Value):=λe=>bZ (aI X e) λg b c _=>by
  cases c with
  |int k=>cases k<;>first|exact Kv (h.mono b)|exact Kw (h.mono b)|exact ak
  |_=>exact ak
 have w:∀e a A n m,bI f a A->aG ok Q P VR f (do match s==d,<-Go.underlying e with
   |true,.int .u8=>do markStringish a;pure (.slice (some a) n m)
   |_,_=>unsupported (.noEntry "convert/other"):Sem Value) (do match s==d,<-Go.underlying e with
   |true,.int .u8=>do markStringish A;pure (.slice (some A) n m)
   |_,_=>unsupported (.noEntry "convert/other"):Sem Value):=λe a A n m r=>bZ (aI X e) λg b c _=>by
  cases s==d with
  |false=>cases c<;>exact aF
  |true=>
   cases c with
   |int k=>cases k<;>first|exact aF|exact aP (sQ (r.mono b)) λB i _=>aj (.slice _ _ _ _ (r.mono (Ren.le_trans b i)))
   |_=>exact aF
 have p:∀e a A n m,aG ok Q P VR f (do match s==d,<-Go.underlying e with
   |true,.int .u8=>do markStringish a;pure (.slice (some a) n m)
   |_,_=>unsupported (.noEntry "convert/other"):Sem Value) (do match s==d,<-Go.underlying e with
   |true,.int .u8=>do markStringish A;pure (.slice (some A) n m)
   |_,_=>unsupported (.noEntry "convert/other"):Sem Value):=λe a A n m=>bZ (aI X e) λg b c _=>by
  rw[o]
  cases c<;>exact aF
 cases c<;>cases z<;>cases h<;>first
  |exact aF
  |exact q
  |exact bE (a7F s d)
  |exact bE (a7G _)
  |exact aj (.int _ _)
  |exact aj (.float _ _)
  |exact aj (.string _)
  |exact iP (Kr _ _ _)
  |exact iP (mq _ _ _)
  |exact iP (De _ _ _ _)
  |exact t _ _
  |exact u _
  |exact w _ _ _ _ _ ‹_›
  |exact p _ _ _ _ _
  |(rename_i y;obtain⟨_,_,_,rfl⟩:=kJ y;first|exact aF|exact ak|exact q|exact aj (.lost _ rfl))
end
end
section
variable[Special]
section
variable{L:Code->Prop}{Q P:Program}{J:Ren}{X U V O:Type}{F:Ren->X->U->Prop}{G:Ren->V->O->Prop}
theorem aa6{x f y e}(c:VR J x f)(d:VR J y e):aG L Q P VR J (Builtin.max2 x y) (Builtin.max2 f e):=by
 unfold Builtin.max2;exact zY
theorem aa7{x f y e}(c:VR J x f)(d:VR J y e):aG L Q P VR J (Builtin.min2 x y) (Builtin.min2 f e):=by
 unfold Builtin.min2;exact zY
theorem TL{f}(o:∀{c:Ren}{x b y e},VR c x b->VR c y e->aG L Q P VR c (f x y) (f b e)):∀{l d:List Value}{J:Ren}{x b:Value},nO J l d->VR J x b->aG L Q P VR J (l.foldlM f x) (d.foldlM f b):=by
 intro l;induction l with
 |nil=>intro d J x b h i;cases h;exact aj i
 |cons v l j=>
  intro d J x b h i;cases h with
  |cons m n=>
   simp only[List.foldlM_cons];exact aC (o i m) λc g y e k=>j (n.mono g) k
theorem abP(c)(t)(h:AR J a A):aG L Q P VR J (Builtin.max_ c t a) (Builtin.max_ c t A):=by
 unfold Builtin.max_;have b:=h.list;generalize a.toList=l at b |-;generalize A.toList=e at b |-;cases b with
 |nil=>exact ak
 |cons d b=>exact TL aa6 b d
theorem abQ(c)(t)(h:AR J a A):aG L Q P VR J (Builtin.min_ c t a) (Builtin.min_ c t A):=by
 unfold Builtin.min_;have b:=h.list;generalize a.toList=l at b |-;generalize A.toList=e at b |-;cases b with
 |nil=>exact ak
 |cons d b=>exact TL aa7 b d
variable(Y:Env Q P)
include Y
theorem a7H(h:VR J v I)(t:TypeId){b:TypeId}(q:b<Q.types.size)(c:Bool):aG L Q P VR J (Instr.typeAssert v t b c) (Instr.typeAssert I t b c):=by
 unfold Instr.typeAssert
 have f:∀{g:Ren}(s d:Option TypeId)(m:String),aG L Q P VR g
   (if c then do pure (.tuple #[<-zeroValue b,.bool false])else runtimePanic (.typeAssertion s d b m):Sem Value)
   (if c then do pure (.tuple #[<-zeroValue b,.bool false])else runtimePanic (.typeAssertion s d b m):Sem Value):=by
  intro g s d m;split
  ·exact aC (jT Y q) λ_ _ z w p=>aj (.kZ (.pair p (.bool _)))
  ·exact dZ
 have e:∀{g:Ren}{x j:Value},VR g x j->aG L Q P VR g (pure (if c then .tuple #[x,.bool true]else x):Sem Value) (pure (if c then .tuple #[j,.bool true]else j):Sem Value):=by
  intro g x j l;refine aj ?_;split
  ·exact .kZ (.pair l (.bool _))
  ·exact l
 refine bZ (aI Y b) λg o d _=> ?_
 replace h:=h.mono o;have r:=h;cases d with
 |interface k=>
  cases h with
  |nilIface=>simp_all
  |iface t x j l=>
   refine bZ (ky Y t) λu n i _=> ?_
   dsimp only;cases Instr.missingMethod k i.methods with
   |none=>exact e (r.mono n)
   |some m=>simp_all
  |_=>exact ak
 |_=>
  cases h with
  |nilIface=>exact f _ _ _
  |iface t x j l=>
   dsimp only;split
   ·exact e l
   ·exact f _ _ _
  |_=>exact ak
end
end
section
variable[Special]
section
variable{J:Code->Prop}{Q P:Program}{L:Ren}
theorem a7I(k:Env Q P)(p)(u:∀t∈p,t<Q.types.size)(t)(h:AR L a A):aG J Q P VR L (Builtin.clear_ p t a) (Builtin.clear_ p t A):=by
 unfold Builtin.clear_;cases K:p[0]? with
 |none=>exact ak
 |some q=>
  have w:=u q (ag9 K);cases S:a[0]? with
  |none=>exact ak
  |some x=>
   obtain⟨V,B,H⟩:=h.get S
   rw[B]
   dsimp only;have e:∀{l:Ren},aG J Q P VR l (pure (.tuple #[]):Sem Value) (pure (.tuple #[])):=λ{l}=>aj (.kZ AR.empty)
   refine bZ (aI k q) λF j d R=> ?_
   cases H with
   |sN=>cases d<;>exact e
   |map r C D=>
    have s:aG J Q P VR F (getObj r>>= λo=>match o with
       | .map _ c=>setObj r (.map #[] c)>>= λ_=>pure (.tuple #[])
       |_=>stuck "clear: map expected") (getObj C>>= λo=>match o with
       | .map _ c=>setObj C (.map #[] c)>>= λ_=>pure (.tuple #[])
       |_=>stuck "clear: map expected"):=by
     refine aC (gU (j _ _ _ D)) λl i o W⟨y,M⟩=> ?_
     cases M with
     |map X T c N=>exact aP (jR (i _ _ _ (j _ _ _ D)) (by simp) rfl (.map _ _ _ bP.nil)) λ_ _ _=>e
     |_=>cases y
    cases d<;>exact s
   |eU n m=>cases d<;>exact e
   |empty g b E=>cases d<;>exact e
   |slice b Z n Y E=>
    cases n with
    |zero=>cases d<;>exact e
    |succ n=>
     cases d with
     |slice f=>
      have O:f<Q.types.size:=k.kids q _ w R f (by simp[Dp]);refine aC (jT k O) λl i z U G=> ?_
      exact aP (qh _ _ 0 ((E.mono j).mono i) (JI G.cells _).list) λ_ _ _=>e
     |_=>exact ak
   |_=>cases d<;>exact ak
end
end
end Go.Proofs.Zb
