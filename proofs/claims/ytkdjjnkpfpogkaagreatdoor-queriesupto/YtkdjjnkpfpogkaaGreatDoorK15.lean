import Derived.Test.YtkdjjnkpfpogkaaGreatDoorK14
set_option maxHeartbeats 8000000
set_option linter.all false
namespace Go.Proofs.Zb
variable{f:FuncId}{A:Func}{o:Oper}{s:Nat}
section
variable[Special]
open Go.Conc (G rcase scase QuitsIn AtRel)
section
variable{p:Program}{n:au}{I:Bool}{fr:Frame}{J:List Frame}{w:World}
omit [Special]in
theorem yB(b:p.funcs[f]? =some A)(e:A.name≠ "runtime.NumGoroutine")(c:A.body.isNone=false)(a)(w):
  (callFunc f a).run p w=.ok (.enter f a) w/\(callFunc f a).events p w #[]=#[]:=by
 have d:(A.name== "runtime.NumGoroutine")=false:=by simpa using e
 constructor
 ·simp only[callFunc,Sem.run_bind,run_program,Result.andThen_ok,b,d,c,afI,ag6]
  rfl
 ·simp only[callFunc,Sem.events_bind,Sem.run_bind,run_program,Result.evThen_ok,events_program,b,d,c,afI,ag6]
  rfl
omit [Special]in
theorem IZ{e}{x}{args}{ts}(h:o.op=.call {callee:=.value x,args:=args,argTypes:=ts}){cap}(c:e x=.func (.func f) #[] cap)(i:p.funcs[f]? =some A)(g:A.name≠ "runtime.NumGoroutine")(j:A.body.isNone=false)(w):
  (execOp e o).run p w=.ok (.enter f (args.map e++cap)) w/\(execOp e o).events p w #[]=#[]:=by
 have b:execOp e o=(do let d <-resolve e {callee:=.value x,args:=args,argTypes:=ts} o.type;invoke d.target d.args):=by unfold execOp;rw[h]
 have a:resolve e {callee:=.value x,args:=args,argTypes:=ts} o.type=pure {target:=.fn (.func f) cap,args:=#[]++args.map e}:=by unfold resolve;simp only[c,Deferred.ofValue]
 rw[b,a]
 have:=yB i g j ((#[]++args.map e)++cap) w
 rw[agL]at this
 simp only[Sem.run_bind,Sem.run_pure,Result.andThen_ok,Sem.events_bind,Sem.events_pure,Result.evThen_ok,agL];exact this
omit [Special]in
theorem a1f{e}{x}(h:o.op=.go {callee:=.value x,args:=#[],argTypes:=#[]}){cap}(c:e x=.func (.func f) #[] cap)(w):
  (execOp e o).run p w=.ok (.spawn ⟨.fn (.func f) cap,#[]⟩) w/\(execOp e o).events p w #[]=#[]:=by
 have b:execOp e o=(do pure (.spawn (<-resolve e {callee:=.value x,args:=#[],argTypes:=#[]} o.type))):=by unfold execOp;rw[h]
 have a:resolve e {callee:=.value x,args:=#[],argTypes:=#[]} o.type=pure {target:=.fn (.func f) cap,args:=#[]}:=by unfold resolve;simp only[c,Deferred.ofValue,Array.map_empty,Array.append_empty]
 simp_all
omit [Special]in
theorem Xy(d:p.funcs[f]? =some A)(c:A.name≠ "runtime.NumGoroutine")(g:A.body.isNone=false)(a)(w):
  stepG p false (Et p ⟨.fn (.func f) a,#[]⟩) w=.go (G (Frame.enter p f a .deferred) [jb p]) w #[]:=by
 have e:stepG p false (Et p ⟨.fn (.func f) a,#[]⟩) w=callDeferred p (jb p) [] none ⟨.fn (.func f) a,#[]⟩ w:=by unfold Et jb stepG unwind;rfl
 have b:(invoke (.fn (.func f) a) #[]).run p w=.ok (.enter f a) w/\(invoke (.fn (.func f) a) #[]).events p w #[]=#[]:=by
  have:=yB d c g (#[]++a) w
  rw[agL]at this
  show(callFunc f (#[]++a)).run p w=_/\(callFunc f (#[]++a)).events p w #[]=_
  rw[agL]
  exact this
 rw[e]
 unfold callDeferred;simp only[Bool.false_and,afI,ag6,Sem.runT_eq,b.1,b.2];rfl
def au.uR(n:au)(d:Array Value)(h:List Deferred)(g:CallKind)(a:List Item):Frame:={fn:=n.qX,tmps:=d,todo:=a,defers:=h,mode:=.run,kind:=g,roundOf:=none}
def Dh(bo a b:Value):Array Value:=#[bo,a,b]++Array.replicate 36 undef
variable{h L:Value}{V U:ChanDir}{O:TypeInfo}
omit [Special]in
theorem PH(y:TF p n h L V U O){f}(k:p.funcs[n.qX]? =some f)(g:f.ntmps=39){c}(j:f.body=some ((Code.region 0 (au.c0 n) false).seq (n.dY c))){bo ch}{d i}(a)(z:a≠.early){E}(D:∀e,fG bo e->E e)(J):
  dA p I (kL n bo ch) E (λx=>x=G (n.uR ((Dh (.pointer (some ⟨bo,0,none⟩)) d i).setIfInBounds 11 (.chan (some ch))) [mf n ch] a [.code (n.dY c)]) J) 5
   (G (Frame.enter p n.qX #[.pointer (some ⟨bo,0,none⟩),d,i] a) J):=by
 have F:Frame.enter p n.qX #[.pointer (some ⟨bo,0,none⟩),d,i] a=n.uR (Dh (.pointer (some ⟨bo,0,none⟩)) d i) [] a [.code ((Code.region 0 (au.c0 n) false).seq (n.dY c))]:=Al
 have B:(Dh (.pointer (some ⟨bo,0,none⟩)) d i).getD 0 undef=.pointer (some ⟨bo,0,none⟩):=by rw[afM];simp[Dh]
 have l:(Dh (.pointer (some ⟨bo,0,none⟩)) d i).size=39:=by simp[Dh]
 rw[F]
 generalize Dh (.pointer (some ⟨bo,0,none⟩)) d i=T at B l |-;refine .code rfl rfl rfl (nH:=n.uR T [] a [.code (Code.region 0 (au.c0 n) false),.code (n.dY c)]) rfl ?_;refine .code rfl rfl rfl (nH:=n.uR T [] a [.inRegion (au.c0 n) [0,1],.code (n.dY c)]) rfl ?_;have t:vK (n.uR T [] a [.inRegion (au.c0 n) [0,1],.code (n.dY c)]) (au.c0 n) 0 [1] [.code (n.dY c)] ⟨some 11,Op.load n.eG (Operand.tmp 0),n.eG, "journal.go:16",#[],none⟩:=⟨rfl,rfl,rfl,rfl,rfl⟩
 have q:=λ(w:World)(r:kL n bo ch w)=>Eu y (w:=w) (e:=Frame.eval (n.uR T [] a [.inRegion (au.c0 n) [0,1],.code (n.dY c)])) (x:=.tmp 0) (v:=.chan (some ch)) (b:=bo)
     (o:=⟨some 11,Op.load n.eG (Operand.tmp 0),n.eG, "journal.go:16",#[],none⟩) rfl B r
 refine⟨rfl,rfl,.inl rfl,G (n.uR (T.setIfInBounds 11 (.chan (some ch))) [] a [.inRegion (au.c0 n) [1],.code (n.dY c)]) J,#[⟨.cell ⟨bo,0,none⟩,false,false⟩],λw r=> ?_,λe H=>D e (by grind[fG]),?_⟩
 ·rw[mM t z (q w r).1,(q w r).2]
  show GStep.go _ _ (seen p n.qX _++#[])=_
  rw[seen_plain (y.quiet _ (.inr (.inl rfl))) (by simp[Loc.isMemory])]
  rfl
 have m:vK (n.uR (T.setIfInBounds 11 (.chan (some ch))) [] a [.inRegion (au.c0 n) [1],.code (n.dY c)]) (au.c0 n) 1 [] [.code (n.dY c)] ⟨none,Op.defer {callee:=Callee.builtin Builtin.close,args:=#[Operand.tmp 11],argTypes:=#[n.eG]},0, "journal.go:16",#[⟨0,.data⟩],none⟩:=⟨rfl,rfl,rfl,rfl,rfl⟩
 have u:(T.setIfInBounds 11 (.chan (some ch))).getD 11 undef=.chan (some ch):=by rw[afM,ag3];simp[l]
 refine⟨rfl,rfl,.inl rfl,G (n.uR (T.setIfInBounds 11 (.chan (some ch))) [mf n ch] a [.inRegion (au.c0 n) [],.code (n.dY c)]) J,#[],λw _=> ?_,by simp,?_⟩
 ·have C:(execOp (Frame.eval (n.uR (T.setIfInBounds 11 (.chan (some ch))) [] a [.inRegion (au.c0 n) [1],.code (n.dY c)])) ⟨none,Op.defer {callee:=Callee.builtin Builtin.close,args:=#[Operand.tmp 11],argTypes:=#[n.eG]},0, "journal.go:16",#[⟨0,.data⟩],none⟩).run p w=.ok (.defer (mf n ch)) w:=by
   unfold execOp;simp only[resolve,Sem.run_bind,Sem.run_pure,Result.andThen_ok]
   have:(#[Operand.tmp 11].map (Frame.eval (n.uR (T.setIfInBounds 11 (.chan (some ch))) [] a [.inRegion (au.c0 n) [1],.code (n.dY c)])))=#[.chan (some ch)]:=by simp only[List.map_toArray,List.map,Frame.eval,au.uR,u]
   rw[this]
   simp only[List.map_toArray,List.map];rfl
  rw[Xf m z C]
  rfl
 exact .pop rfl rfl rfl rfl
end
end
section
variable[Special]
open Go.Conc (G rcase scase QuitsIn AtRel)
structure Pre(Q:Program)(n:au)(A1:List Nat)(zS:Value)(ρN:Ren)(d d' t nm nm':Value)(N4 Ru:Nat)(u u':World):Prop where
 wr:WR (aT Q (BW A1)) Q.globals.size ρN u u'
 tidy:aS u
 high:∀b c k,ρN b c k->Q.globals.size<=b
 hd:VR ρN d d'
 hnm:VR ρN nm nm'
 ht:∃k m,t=.int k m
 s4:∀b c k,ρN b c k->b≠N4/\b≠N4+1/\c≠Ru/\c≠Ru+1
 b4:∀i,i<2->u.heap[N4+i]? =some (.cells zS.cells n.l9 (0,0))/\u'.heap[Ru+i]? =some (.cells zS.cells n.l9 (0,0))
 g4:Q.globals.size<=N4/\Q.globals.size<=Ru
 o4:Special.old.heap.size<=Ru
def LK.dM(a:Ren)(u d:World)(e:List Frame):LK:=
 {N:=u.heap.size,N':=d.heap.size,kb:=e,Dj:=λb c k=>a b c k\/(b=u.heap.size/\c=d.heap.size/\k=.cells)\/(b=u.heap.size+1/\c=d.heap.size+1/\k=.cells)}
section
variable{n:au}{u:World}{d nm:Value}{m:Nat}
omit [Special]in
theorem rV{i}(h:i<u.heap.size):(n.iZ u d nm m).heap[i]? =u.heap[i]? :=by
 simp only[au.iZ,agh,Array.size_push]
 split<;>grind
omit [Special]in
theorem uX:(n.iZ u d nm m).heap[u.heap.size]? =some (.cells d.cells n.kW (0,0))/\(n.iZ u d nm m).heap[u.heap.size+1]? =some (.cells nm.cells n.iY (0,0))/\
  (n.iZ u d nm m).heap[u.heap.size+2]? =some (.chan m #[] false 0 0 false)/\(n.iZ u d nm m).heap[u.heap.size+3]? =some (.cells #[.chan (some (u.heap.size+2))] n.eG (0,0)):=by
 refine⟨?_,?_,?_,?_⟩<;>simp only[au.iZ,agh,Array.size_push]<;>grind
omit [Special]in
theorem qa:(n.iZ u d nm m).heap.size=u.heap.size+4:=by simp[au.iZ]
omit [Special]in
theorem a1g(h:aS u):aS (n.iZ u d nm m):=by
 intro i o a
 by_cases c:i<u.heap.size
 ·rw[rV c]at a;exact h i o a
 ·have b:=(afD.1 a).1
  rw[qa]at b
  obtain⟨k,j,g,e⟩:=uX (n:=n) (u:=u) (d:=d) (nm:=nm) (m:=m);have:i=u.heap.size\/i=u.heap.size+1\/i=u.heap.size+2\/i=u.heap.size+3:=by omega
  obtain rfl|rfl|rfl|rfl:=this
  ·rw[k]at a;cases a;trivial
  ·rw[j]at a;cases a;trivial
  ·rw[g]at a;cases a;trivial
  ·rw[e]at a;cases a;trivial
end
section
variable{Q P:Program}{c:Frame}{n:au}{A0 O:List Nat}{Y zR:Value}{d1 d2:ChanDir}{iR:TypeInfo}{R:Value->World->Prop}{I:Ren}{d X t V L:Value}{Z U:Nat}{u J:World}{kb:List Frame}{m m':Nat}
theorem Pre.facts(h:Pre Q n O Y I d X t V L Z U u J):Z+1<u.heap.size/\U+1<J.heap.size:=by
 obtain⟨b,a⟩:=h.b4 1 (by omega)
 grind
theorem Pre.calm(h:Pre Q n O Y I d X t V L Z U u J):Calm (n.iZ J X L m'):=
 h.wr.held.calm.keep (by rw[qa];omega) (λc a=>rV (by have:=h.wr.held.calm.Tj;omega)) rfl rfl
theorem Pre.wr0(h:Pre Q n O Y I d X t V L Z U u J):WR (aT Q (BW O)) Q.globals.size (LK.dM I u J kb).Dj (n.iZ u d V m) (n.iZ J X L m'):=by
 have D:=h.wr.big;have M:=h.wr.Dl;obtain⟨a0,a1,_,_⟩:=uX (n:=n) (u:=u) (d:=d) (nm:=V) (m:=m);obtain⟨B,z,_,_⟩:=uX (n:=n) (u:=J) (d:=X) (nm:=L) (m:=m');have j:I.le (LK.dM I u J kb).Dj:=λb c k x=>.inl x
 refine⟨λb c k x=> ?_,by rw[qa];omega,by rw[qa];omega,λb c c' k F x y=> ?_,λb b' c k F x y=> ?_,λb c k x=> ?_,⟨h.calm,λb c k x w=> ?_,λb c k i y x w e H=> ?_⟩⟩
 ·obtain x|⟨rfl,rfl,_⟩|⟨rfl,rfl,_⟩:=x
  ·exact h.wr.low b c k x
  ·exact D
  ·omega
 ·obtain x|⟨q,p,_⟩|⟨q,p,_⟩:=x<;>obtain y|⟨a,g,_⟩|⟨a,g,_⟩:=y
  ·exact h.wr.left _ _ _ _ _ x y
  ·exact iC
  ·exact iC
  ·have:=h.wr.lt y;omega
  ·omega
  ·omega
  ·have:=h.wr.lt y;omega
  ·omega
  ·omega
 ·obtain x|⟨q,p,_⟩|⟨q,p,_⟩:=x<;>obtain y|⟨a,g,_⟩|⟨a,g,_⟩:=y
  ·exact h.wr.right _ _ _ _ _ x y
  ·exact iC
  ·exact iC
  ·have:=h.wr.lt y;omega
  ·omega
  ·omega
  ·have:=h.wr.lt y;omega
  ·omega
  ·omega
 ·obtain x|⟨rfl,rfl,rfl⟩|⟨rfl,rfl,rfl⟩:=x
  ·obtain⟨o,E,W,T,S,N⟩:=h.wr.obj b c k x
   obtain⟨v,r⟩:=h.wr.lt x
   exact⟨o,E,(rV v).trans W,(rV r).trans T,S,N.mono j⟩
  ·exact⟨_,_,a0,B,rfl,.cells _ _ _ _ (h.hd.mono j).cells⟩
  ·exact⟨_,_,a1,z,rfl,.cells _ _ _ _ (h.hnm.mono j).cells⟩
 ·have C:=h.wr.held.calm.Tj
  obtain x|⟨_,rfl,_⟩|⟨_,rfl,_⟩:=x
  ·exact h.wr.held.seen b c k x w
  ·omega
  ·omega
 ·have C:=h.wr.held.calm.Tj
  obtain x|⟨_,rfl,_⟩|⟨_,rfl,_⟩:=x
  ·obtain⟨v,r⟩:=h.wr.lt x
   rw[Ep (rV v)]at e
   rw[Ep (rV r)]
   exact h.wr.held.Li b c k i y x w e H
  ·omega
  ·omega
theorem Pre.sw(h:Pre Q n O Y I d X t V L Z U u J):SW Q n O (LK.dM I u J kb) (LK.dM I u J kb).Dj (λc=>∃b k,(LK.dM I u J kb).Dj b c k) (n.iZ u d V au.bN.toNat) (n.iZ J X L 0):=by
 have hb:=h.wr.big;have E:=h.wr.Dl;obtain⟨_,_,a2,a3⟩:=uX (n:=n) (u:=u) (d:=d) (nm:=V) (m:=au.bN.toNat);obtain⟨_,_,M,F⟩:=uX (n:=n) (u:=J) (d:=X) (nm:=L) (m:=0)
 have y:∀b c k,(LK.dM I u J kb).Dj b c k->b≠u.heap.size+3/\b≠u.heap.size+2/\c≠J.heap.size+3/\c≠J.heap.size+2/\Q.globals.size<=b/\b<u.heap.size+4/\c<J.heap.size+4:=λb c k x=>by
  obtain x|⟨rfl,rfl,_⟩|⟨rfl,rfl,_⟩:=x
  ·have:=h.wr.lt x;have:=h.high b c k x;omega
  ·omega
  ·omega
 refine⟨h.wr0,a1g h.tidy,λb c k x=>.inl x,Ren.le_refl _,y,λb c k x=>⟨b,k,x⟩,a3,F,⟨_,_,_,a2⟩,by rw[qa];exact jF,by rw[qa];exact jF,⟨hb,E⟩,⟨?_,?_⟩,h.wr.held.calm.Tj⟩
 ·rintro⟨b,k,x⟩;exact(y _ _ _ x).2.2.1 rfl
 ·rintro⟨b,k,x⟩;exact(y _ _ _ x).2.2.2.1 rfl
variable(st:Seat Q P c n A0 O Y zR d1 d2 iR)
include st
def Mg(N:Nat):Array Value:=#[.pointer (some ⟨N+3,0,none⟩),.pointer (some ⟨N+1,0,none⟩),.pointer (some ⟨N,0,none⟩)]
omit [Special] st in
theorem ZX(a b e x)(i)(h:i≠0)(g:i≠11):((Dh a b e).setIfInBounds 11 x).getD i undef=if i=1 then b else if i=2 then e else undef:=by
 rw[afM,afF (ahc g)]
 unfold Dh
 rw[ah4]
 grind
omit [Special] st in
theorem Ug(a b e x):((Dh a b e).setIfInBounds 11 x).getD 0 undef=a:=by
 rw[afM,afF (by decide)]
 unfold Dh;simp
theorem a4H{K:LK}{τ:Ren}{T j:Array Value}(g:τ K.bo K.l8 .cells)(e:τ K.ch K.ch' .chan)(a:∀i,i≠0->i≠11->VR K.Dj (T.getD i undef) (j.getD i undef))(b:AR τ T j)(k:T.size=39)(r:T.getD 0 undef=.pointer (some ⟨K.ch+1,0,none⟩))(l:j.getD 0 undef=.pointer (some ⟨K.ch'+1,0,none⟩)):
  Ub Q P n O K K.Dj (G (n.uR T [mf n K.ch] .normal [.code (n.dY (au.Ak n))]) K.kb) (G (n.uR j [mf n K.ch'] .deferred [.code (n.dY (au.c9 n))]) [jb P]):=by
 refine⟨τ,XS n O K.ch K.ch',_,_,_,_,rfl,rfl,dm.bottom (S:=SS n O K) (bt:=btS n) (XS n O K.ch K.ch') rfl (by simp[SS]) _ _ ?_ rfl ⟨rfl,rfl⟩,g,e⟩;refine⟨rfl,λi p=>a i ?_ ?_,b,.cons (.code _ _ (st.a7T _ _)) .nil,λq=>by simp[XS]at q,.inl ⟨rfl,rfl⟩,rfl,.inr rfl,.none,λ_=>⟨rfl,rfl,?_⟩,?_,λ_=>k⟩
 ·rintro rfl;revert p;simp[Scope.qR,XS,Py]
 ·rintro rfl;revert p;simp[Scope.qR,XS,Py]
 ·intro x h
  simp only[XS,agp]at h;subst h
  exact⟨_,_,_,rfl⟩
 ·intro x h
  simp only[XS,agp]at h;subst h
  exact⟨by simp[Scope.qR,XS,Py],r,l⟩
theorem Pre.adY{I:Ren}{u J:World}:
  Ub Q P n O (LK.dM I u J kb) (LK.dM I u J kb).Dj
   (G (n.uR ((Dh (.pointer (some ⟨u.heap.size+3,0,none⟩)) (.pointer (some ⟨u.heap.size+1,0,none⟩)) (.pointer (some ⟨u.heap.size,0,none⟩))).setIfInBounds 11 (.chan (some (u.heap.size+2)))) [mf n (u.heap.size+2)] .normal [.code (n.dY (au.Ak n))]) kb)
   (G (n.uR ((Dh (.pointer (some ⟨J.heap.size+3,0,none⟩)) (.pointer (some ⟨J.heap.size+1,0,none⟩)) (.pointer (some ⟨J.heap.size,0,none⟩))).setIfInBounds 11 (.chan (some (J.heap.size+2)))) [mf n (J.heap.size+2)] .deferred [.code (n.dY (au.c9 n))]) [jb P]):=by
 have a:(LK.dM I u J kb).Dj.le (λb c k=>(LK.dM I u J kb).Dj b c k\/(b=u.heap.size+3/\c=J.heap.size+3/\k=.cells)\/(b=u.heap.size+2/\c=J.heap.size+2/\k=.chan)):=λb c k x=>.inl x
 have h:VR (LK.dM I u J kb).Dj (.pointer (some ⟨u.heap.size+1,0,none⟩)) (.pointer (some ⟨J.heap.size+1,0,none⟩)):=.ptr _ _ (.mk _ _ _ _ .cells (.inr (.inr ⟨rfl,rfl,rfl⟩)));have j:VR (LK.dM I u J kb).Dj (.pointer (some ⟨u.heap.size,0,none⟩)) (.pointer (some ⟨J.heap.size,0,none⟩)):=.ptr _ _ (.mk _ _ _ _ .cells (.inr (.inl ⟨rfl,rfl,rfl⟩)));refine a4H (K:=LK.dM I u J kb) (τ:=λb c k=>(LK.dM I u J kb).Dj b c k\/(b=u.heap.size+3/\c=J.heap.size+3/\k=.cells)\/(b=u.heap.size+2/\c=J.heap.size+2/\k=.chan)) st (.inr (.inl ⟨rfl,rfl,rfl⟩)) (.inr (.inr ⟨rfl,rfl,rfl⟩)) (λi g e=> ?_) ?_ ?_ (Ug _ _ _ _) (Ug _ _ _ _)
 ·rw[ZX _ _ _ _ i g e,ZX _ _ _ _ i g e]
  split<;>grind[vH]
 ·refine AR.set ?_ 11 (.chan _ _ (.inr (.inr ⟨rfl,rfl,rfl⟩)))
  unfold Dh;exact AR.append (AR.triple (.ptr _ _ (.mk _ _ _ _ .cells (.inr (.inl ⟨rfl,rfl,rfl⟩)))) (h.mono a) (j.mono a)) (AR.yn λv l=>by rw[(Array.mem_replicate.1 l).2];exact vH)
 simp[Array.size_setIfInBounds,Dh,Array.size_append,Array.size_replicate]
theorem Pre.si(h:Pre Q n O Y I d X t V L Z U u J)(v:VT Q c R (G (Frame.enter Q n.qX (Mg u.heap.size) .normal) kb) (n.iZ u d V au.bN.toNat)):
  SI Q P c R n O (LK.dM I u J kb) (λc=>∃b k,(LK.dM I u J kb).Dj b c k) (G (Frame.enter Q n.qX (Mg u.heap.size) .normal) kb,n.iZ u d V au.bN.toNat) 7
   (Et P ⟨.fn (.func n.qX) (Mg J.heap.size),#[]⟩) (n.iZ J X L 0):=by
 obtain⟨f,l,p,e,r,_⟩:=st.aah;obtain⟨fq,i,_,a,j,_⟩:=st.a7S;refine⟨(LK.dM I u J kb).Dj,h.sw,v,.start ⟨_,_,λw=>Xy l p (by grind) (Mg J.heap.size) w,rfl,rfl,⟨5,PH (bo:=u.heap.size+3) (ch:=u.heap.size+2) st.ZT i a j .normal (by simp) (λ_ _=>trivial) kb⟩,?_⟩⟩;refine(PH (bo:=J.heap.size+3) (ch:=J.heap.size+2) st.ZR l e r .deferred (by simp) (λ_ h=>h) [jb P]).imp λg q=> ?_
 subst q;exact Pre.adY st
end
end
section
variable[Special]
open Go.Conc (G rcase scase QuitsIn AtRel)
inductive Each(ρ:Ren):List Value->List Value->Prop
 |nil:Each ρ [] []
 |cons {v v':Value} {l l':List Value} (h:VR ρ v v') (t:Each ρ l l'):Each ρ (v::l) (v'::l')
theorem AR.each{a}{l b}(h:Each a l b):AR a l.toArray b.toArray:=by
 induction h with
 |nil=>exact AR.empty
 |cons h _ c=>have:=(AR.single h).append c;simpa using this
omit [Special]in
theorem qY{c}{x}{b}(g:Dw x)(h:Under c b):Under c (x::b):=by
 obtain⟨a,rfl,h⟩:=h
 exact⟨x::a,rfl,λy d=>(agk.1 d).elim (λe=>e▸g) (h y)⟩
omit [Special]in
theorem dA.evt{p}{a}{W}{E c}{b}(h:∀e,E e->c e):∀{m:Nat}{g:Goroutine},dA p a W E b m g->dA p a W c b m g
 |0,_,d=>d
 |_+1,_,⟨r,q,n,t,u,l,k,j⟩=>⟨r,q,n,t,u,l,λe i=>h e (k e i),dA.evt h j⟩
def Xz(d a:Nat):Ren:=λb c k=>(b=d/\c=a/\k=.cells)\/(b=d+1/\c=a+1/\k=.cells)
section
variable{Q P:Program}{c:Frame}{n:au}{A0 A1:List Nat}{Z zR:Value}{d1 d2:ChanDir}{iR:TypeInfo}{R:Value->World->Prop}{ρN Y:Ren}{d X t O J:Value}{U I:Nat}{u L:World}{V:List Frame}{m m':Nat}{F:MK}{f0:FuncId}{K:LK}
theorem a7'(y:∃k m,t=.int k m)(r:VR K.Dj d X)(q:VR K.Dj O J)(l):DF Q n A1 K (Xz U I) (n.eF (au.a4w d t O (.chan (some K.ch)) U) l) (n.eF (au.a4w X t J (.chan (some K.ch')) I) l):=by
 obtain⟨k,B,rfl⟩:=y;have w:VR (Xz U I) (.pointer (some ⟨U,0,none⟩)) (.pointer (some ⟨I,0,none⟩)):=.ptr _ _ (.mk _ _ _ _ .cells (.inl ⟨rfl,rfl,rfl⟩));have v:VR (Xz U I) (.pointer (some ⟨U+1,0,none⟩)) (.pointer (some ⟨I+1,0,none⟩)):=.ptr _ _ (.mk _ _ _ _ .cells (.inr ⟨rfl,rfl,rfl⟩))
 let j:Ren:=λb c k=>Xz U I b c k\/K.Dj b c k\/Fh K b c k
 have g:(Xz U I).le j:=λb c k x=>.inl x
 have e:K.Dj.le j:=λb c k x=>.inr (.inl x)
 have a:VR j undef undef:=vH;refine⟨j,⟨rfl,λi z=> ?_,?_,.nil,λh=>(by cases h),.inl ⟨rfl,rfl⟩,rfl,.inl rfl,.none,λ_=>⟨rfl,rfl,λx p=>(by cases p)⟩,?_,λ_=>rfl⟩,rfl,rfl,rfl,rfl,λb c k x=>x,g⟩
 ·have:i=1\/i=4\/i=5\/i=6\/i=7\/i=12\/i=13\/i=14\/i=15\/i=16\/i=17\/i=18\/i=19\/i=20\/i=21\/i=22\/i=23\/i=24\/i=25\/i=26:=by simpa[Scope.qR,X2,ZQ]using z
  obtain rfl|rfl|rfl|rfl|rfl|rfl|rfl|rfl|rfl|rfl|rfl|rfl|rfl|rfl|rfl|rfl|rfl|rfl|rfl|rfl:=this
  ·exact .int _ _
  ·exact w
  ·exact v
  ·exact .bool _
  all_goals exact vH
 ·refine AR.each (.cons (r.mono e) (.cons (.int _ _) (.cons a (.cons a (.cons (w.mono g) (.cons (v.mono g) (.cons (.bool _) (.cons a (.cons (r.mono e) (.cons (r.mono e) (.cons (q.mono e) (.cons (.chan _ _ (.inr (.inr ⟨rfl,rfl,rfl⟩))) ?_))))))))))))
  exact Each.cons a (.cons a (.cons a (.cons a (.cons a (.cons a (.cons a (.cons a (.cons a (.cons a (.cons a (.cons a (.cons a (.cons a (.cons a .nil))))))))))))))
 ·intro x p
  simp only[X2,agp]at p;subst p
  exact⟨by simp[Scope.qR,X2,ZQ],rfl,rfl⟩
variable(st:Seat Q P c n A0 A1 Z zR d1 d2 iR)
include st
theorem Pre.mw(h:Pre Q n A1 Z ρN d X t O J U I u L){g:Goroutine}{z:Goroutine×World}{rest:Array Value}{r:Nat}(E:OA Q c (LK.dM ρN u L V) (g,n.iZ u d O au.bN.toNat) z)(j:z.2.heap[u.heap.size+2]? =some (.chan au.bN.toNat (#[]++rest) true s r false)):
  MW Q n A1 (LK.dM ρN u L V) (Xz U I) (λc=>c=I\/c=I+1) z.2 rest z.2 (n.iZ L X J 0):=by
 obtain⟨hs4,H⟩:=h.facts;obtain⟨g4,g4'⟩:=h.g4;obtain⟨_,_,_,a3⟩:=uX (n:=n) (u:=u) (d:=d) (nm:=O) (m:=au.bN.toNat);obtain⟨_,_,_,w⟩:=uX (n:=n) (u:=L) (d:=X) (nm:=J) (m:=0);have hrel:=E.rel;have N:=hrel.size
 rw[qa]at N
 have S:∀b,b=U\/b=U+1->∀c k,¬(LK.dM ρN u L V).Dj b c k:=λb D c k x=>by
  obtain x|⟨rfl,_⟩|⟨rfl,_⟩:=x
  ·have:=h.s4 _ _ _ x;omega
  ·omega
  ·omega
 have keep:∀b,b<u.heap.size+4->(∀c k,¬(LK.dM ρN u L V).Dj b c k)->b≠u.heap.size+2->z.2.heap[b]? =(n.iZ u d O au.bN.toNat).heap[b]? :=λb h1 h2 h3=>hrel.keep b h1 h2 h3
 have z4:∀i,i<2->z.2.heap[U+i]? =some (.cells Z.cells n.l9 (0,0))/\(n.iZ L X J 0).heap[I+i]? =some (.cells Z.cells n.l9 (0,0)):=λi M=>by
  obtain⟨b1,b2⟩:=h.b4 i M;refine⟨?_,by rw[rV (by omega)];exact b2⟩
  rw[keep (U+i) (by omega) (S _ (by omega)) (by omega),rV (by omega)]
  exact b1
 have a:∀B:Ren,AR B Z.cells Z.cells:=λB=>AR.yn λv W=>VR.plain 100 v (st.Rj v W)
 refine⟨⟨λb c k x=> ?_,?_,?_,λb c c' k T x y=> ?_,λb b' c k T x y=> ?_,λb c k x=> ?_,⟨h.calm,λb c k x j=> ?_,λb c k i y x j e hu=> ?_⟩⟩,E.tidy,λb c k x=>.inl ⟨?_,S b ?_⟩,λb c k x=> ?_,λ_ _ _ _=>rfl,⟨s,r,by rw[agL]at j;exact j⟩,?_,w,afA _,N,⟨?_,?_⟩,λb c k x=> ?_,h.wr.held.calm.Tj⟩
 ·exact ahl
 ·omega
 ·grind
 ·exact aho
 ·exact aho
 ·obtain⟨rfl,rfl,rfl⟩|⟨rfl,rfl,rfl⟩:=x
  ·obtain⟨q,p⟩:=z4 0 (by omega)
   exact⟨_,_,q,p,rfl,.cells _ _ _ _ (a _)⟩
  ·obtain⟨q,p⟩:=z4 1 (by omega)
   exact⟨_,_,q,p,rfl,.cells _ _ _ _ (a _)⟩
 ·have C:=h.o4
  obtain⟨_,rfl,_⟩|⟨_,rfl,_⟩:=x<;>omega
 ·have C:=h.o4
  obtain⟨_,rfl,_⟩|⟨_,rfl,_⟩:=x<;>omega
 ·show b<u.heap.size
  exact ahl
 ·obtain⟨rfl,rfl,_⟩|⟨rfl,rfl,_⟩:=x<;>simp
 ·obtain⟨rfl,rfl,_⟩|⟨rfl,rfl,_⟩:=x<;>simp
 ·show z.2.heap[u.heap.size+3]? =_
  rw[keep _ (by omega) (λc k x=> ?_) (by omega)]
  ·exact a3
  ·obtain x|⟨x,_⟩|⟨x,_⟩:=x
   ·exact iC
   ·omega
   ·omega
 ·show ¬(L.heap.size+3=I\/L.heap.size+3=I+1)
  omega
 ·show ¬(L.heap.size+2=I\/L.heap.size+2=I+1)
  omega
 ·exact ahl
theorem PI{p:Program}{g:Func}{d O t:Value}{N U:Nat}(h:TF p n Z zR d1 d2 iR)(j:p.funcs[n.wZ]? =some g)(i:g.results=#[.tmp 4]){r:List Frame}(b:r≠[]):
  dA p true (kL n (N+3) (N+2)) (fG (N+3)) (λa=>a=G {n.eF (au.a4w d t O (.chan (some (N+2))) U) []with todo:=iN n [0,1]} r) 13
   (G (n.fB (n.wh d O N) [.inRegion (n.Dy o) [],.code n.gN]) (n.eF (au.Df d t O U) [.inRegion (au.a3 n) [3],.code (Code.block 0 n.bQ.loop),.code n.gF]::r)):=by
 refine a4v h j i b ?_;have e:(n.eF (au.Df d t O U) [.inRegion (au.a3 n) [3],.code (Code.block 0 n.bQ.loop),.code n.gF]).finish (.chan (some (N+2)))=n.eF (au.a4w d t O (.chan (some (N+2))) U) [.inRegion (au.a3 n) [],.code (Code.block 0 n.bQ.loop),.code n.gF]:=rfl
 rw[e]
 refine at_loop (m:=2) rfl rfl ?_;exact a7P (m:=0) rfl rfl rfl
theorem Pre.adZ(h:Pre Q n A1 Z ρN d X t O J U I u L)(q:Rest Q A0 A1 n.uQ c f0 Y ρN F){top:Pt Q c}(l3:List Item)(hl3:l3=[.inRegion (au.a3 n) [3],.code (Code.block 0 n.bQ.loop),.code n.gF])(htop:top.1=(G (n.fB (n.wh d O u.heap.size) [.inRegion (n.Dy au.goQ) [1],.code n.gN]) (n.eF (au.Df d t O U) l3::F.r),n.iZ u d O au.bN.toNat))(hV0:VT Q c R top.1.1 top.1.2):
  ∃(x m:Pt Q c)(jM:Nat)(S:Nat->Prop),Below Q c x.1 top.1/\Rt Q P c R n A0 A1 f0 Y (top,(x,7),(m,jM)) (L.heap.size+2) (λc=>c=I\/c=I+1) S (λc=>c=L.heap.size+3\/c=L.heap.size+2)
   (G (n.fB (n.wh X J L.heap.size) [.inRegion (n.Dy au.goP) [],.code n.gN]) (n.eF (au.Df X t J I) l3::F.r')) (Et P ⟨.fn (.func n.qX) (Mg L.heap.size),#[]⟩) (n.iZ L X J 0):=by
 subst hl3;obtain⟨fq,hfq,hnq,_,hbq,_⟩:=st.a7S;obtain⟨fr,hfr,_,_,hrr⟩:=st.aaf;obtain⟨frq,ad',_,_,ae0⟩:=st.aag;obtain⟨hs4,af5⟩:=h.facts;obtain⟨τr,cy,k,r,k',r',hFr,a81,aau,_⟩:=id q;have hne:F.r≠[]:=by rw[hFr];simp
 have hne':F.r'≠[]:=by rw[a81];simp
 have huF:Under c F.r:=by
  rw[hFr]
  exact qY aau.top.TN (aau.under ⟨[],rfl,λx B=>by cases B⟩)
 let V:List Frame:=n.fB (n.wh d O u.heap.size) [.inRegion (n.Dy au.goQ) [1],.code n.gN]::n.eF (au.Df d t O U) [.inRegion (au.a3 n) [3],.code (Code.block 0 n.bQ.loop),.code n.gF]::F.r
 have huK:Under c V:=qY (λx B=>by cases B) (qY (λx B=>by cases B) huF)
 have hcall:∀w,(execOp (Frame.eval (n.fB (n.wh d O u.heap.size) [.inRegion (n.Dy au.goQ) [1],.code n.gN])) au.goQ).run Q w=.ok (.enter n.qX (Mg u.heap.size)) w:=λw=>by
  have:=(IZ (p:=Q) (e:=Frame.eval (n.fB (n.wh d O u.heap.size) [.inRegion (n.Dy au.goQ) [1],.code n.gN])) (o:=au.goQ) (x:=.tmp 7) (args:=#[]) (ts:=#[]) rfl (f:=n.qX) (cap:=Mg u.heap.size) rfl hfq hnq (by grind) w).1
  simpa using this
 have v:qV Q c (G (Frame.enter Q n.qX (Mg u.heap.size) .normal) V,n.iZ u d O au.bN.toNat) top.1:=by
  rw[htop]
  refine⟨λ⟨_,h,_⟩=>(by cases h),[],oC.Fg rfl λT dd _=>⟨_,LZ (ops:=n.Dy au.goQ) (i:=1) (rest:=[]) (k:=[.code n.gN]) ⟨rfl,rfl,rfl,rfl,rfl⟩ (by simp[au.fB]) (hcall _)⟩⟩
 have hV1:VT Q c R (G (Frame.enter Q n.qX (Mg u.heap.size) .normal) V) (n.iZ u d O au.bN.toNat):=VT.Ap hV0 v;have hsi:=h.si (kb:=V) st hV1;obtain⟨_,_,a2,_⟩:=uX (n:=n) (u:=u) (d:=d) (nm:=O) (m:=au.bN.toNat);obtain⟨_,_,a2',_⟩:=uX (n:=n) (u:=L) (d:=X) (nm:=J) (m:=0)
 have g:KD Q P c R n A1 (LK.dM ρN u L V) F (λc=>c=I\/c=I+1) top.1 (G (Frame.enter Q n.qX (Mg u.heap.size) .normal) V,n.iZ u d O au.bN.toNat) #[]
   (G (n.fB (n.wh X J L.heap.size) [.inRegion (n.Dy au.goP) [],.code n.gN]) (n.eF (au.Df X t J I) [.inRegion (au.a3 n) [3],.code (Code.block 0 n.bQ.loop),.code n.gF]::F.r')) (n.iZ L X J 0):=by
  intro z M s r1 hz hc;have hmw:=h.mw st hz hc;refine⟨z,13,?_,Xz U I,hmw,hz.vt hV1,?_⟩
  ·obtain e|D:=hz.way
   ·exact af'
   ·exact Relation.TransGen.tail D v
  ·obtain⟨E,hz1,H,j,hk,f,hf,W⟩:=hz.bottom
   obtain⟨z1,z2⟩:=z;dsimp only at hz1;subst hz1;refine .head 12 (G {n.eF (au.a4w d t O (.chan (some (u.heap.size+2))) U) []with todo:=iN n [0,1]} F.r) ⟨14,?_⟩ ?_
   ·refine⟨rfl,rfl,.inr (by simp[G,LK.dM,V]),G (n.fB (n.wh d O u.heap.size) [.inRegion (n.Dy au.goQ) [],.code n.gN]) (n.eF (au.Df d t O U) [.inRegion (au.a3 n) [3],.code (Code.block 0 n.bQ.loop),.code n.gF]::F.r),#[],λw _=> ?_,by simp,?_⟩
    ·have e:stepG Q true (G E (LK.dM ρN u L V).kb) w=unwind Q true E V none w:=by simp[stepG,G,H,LK.dM]
     rw[e]
     unfold unwind;simp only[j,H,hf,Sem.runT_eq,results_none W E.tmps Q w];unfold doReturn;simp only[hk,V]
     rw[Go.Conc.events_results_none W E.tmps]
     rfl
    ·exact(PI st st.ZT ad' ae0 hne).evt λ_ _=>trivial
   ·refine(PI (N:=L.heap.size) st st.ZR hfr hrr hne').imp λa ha=> ?_
    subst ha
    exact⟨_,_,a7' (K:=LK.dM ρN u L V) h.ht (h.hd.mono λb c k x=>.inl x) (h.hnm.mono λb c k x=>.inl x) [],rfl,rfl⟩
 obtain⟨m,jM,z,M,hz,H,hmi⟩:=g.pick st huK (by simp[LK.dM,V]) top.2 hsi a2' a2;refine⟨⟨_,top.2.inv (.single v)⟩,m,jM,_,.single v,LK.dM ρN u L V,F,#[],⟨huF,huK,by simp[LK.dM,V],ρN,q,λb c k x=>.inl x⟩,rfl,rfl,⟨?_,?_,?_⟩,?_,?_,⟨_,_,_,a2'⟩,.single v,hsi,⟨_,_,a2⟩,⟨z,M,hz,H,hmi⟩,g⟩
 ·rintro b D ⟨b',k,x|⟨_,rfl,_⟩|⟨_,rfl,_⟩⟩
  ·have:=h.s4 _ _ _ x;omega
  ·omega
  ·omega
 ·rintro b D (C|C)
  ·simp_all[LK.l8,LK.dM]<;>omega
  ·simp_all[LK.ch',LK.dM]<;>omega
 ·rintro b ⟨b',k,x|⟨_,rfl,_⟩|⟨_,rfl,_⟩⟩ (C|C)
  all_goals simp only[LK.l8,LK.ch',LK.dM]at C
  ·exact iC
  ·exact iC
  all_goals omega
 ·rintro b ⟨b',k,x|⟨_,rfl,_⟩|⟨_,rfl,_⟩⟩
  ·have:=h.wr.lt x;rw[qa];omega
  ·grind
  ·grind
 grind
end
end
section
variable[Special]
open Go.Conc (G rcase scase QuitsIn AtRel)
structure Ord(Q:Program)(n:au)(A0 A1:List Nat)(c:Frame)(f0:FuncId)(pR:Ren)(g:Goroutine)(w:World)(a:Goroutine)(w':World)(ρ τ:Ren)(cx:Scope)(fr:Frame)(cs:List Frame)(fr':Frame)(cs':List Frame):Prop where
 hg:g=G fr cs
 ha:a=G fr' cs'
 st:dm (SN A0 A1 n.uQ) (btN f0) Q (B0 A0 A1 n.uQ) ρ τ [c] [] cx fr cs fr' cs'
 le:pR.le ρ
 wr:WR (aT Q (BW A1)) Q.globals.size ρ w w'
 tidy:aS w
 high:∀b c k,ρ b c k->Q.globals.size<=b
section
variable{Q P:Program}{c:Frame}{n:au}{U I:List Nat}{X Y:Value}{d1 d2:ChanDir}{Z:TypeInfo}{R:Value->World->Prop}{J h O:Ren}{F:MK}{V:FuncId}{K:LK}{M S:Nat->Prop}{z w L:World}{rest:Array Value}
theorem a88(G:Three M S K.Sh)(a:Rn Q n I K h S z L)(g:MW Q n I K J M z rest w L){C r}{D}{cl T}(u:L.heap[K.ch']? =some (.chan C D cl s r T)):
  WR (aT Q (BW I)) Q.globals.size ((h.or J).or (Fh K)) w L:=by
 have hsz:=g.size;have W:=g.Ud
 have m:∀b c k,h b c k->b≠K.bo/\b≠K.ch/\c≠K.ch':=λb c k x=>by
  obtain y|⟨y,y'⟩:=a.old b c k x
  ·obtain⟨t,q,_,h4,_⟩:=a.low b c k y
   exact⟨t,q,h4⟩
  ·grind
 have p:∀b c k j l,h b c k->J b j l->False:=λb c k j l x y=>by
  have hl:=(a.wr.lt x).1;obtain⟨H,y2⟩|H:=g.old b j l y
  ·obtain N|⟨N,_⟩:=a.old b c k x<;>grind
  ·omega
 have v:WR (aT Q (BW I)) Q.globals.size h w L:=a.wr.Ma g.wr.big λb c k x=>g.stay b (a.wr.lt x).1 (λj l y=>p b c k j l x y) (m b c k x).2.1
 have hA:Apart h J:=λb c k E j l x y=>by
  have t:b≠E:=λe=>by subst e;exact p b c k j l x y
  have q:c≠j:=λe=>G.ms j (g.ran _ _ _ y) (e▸a.ran _ _ _ x)
  exact⟨⟨λe=>absurd e t,λe=>absurd e q⟩,λe=>absurd e q⟩
 obtain⟨s0,r0,d⟩:=g.chan
 have B:WR (aT Q (BW I)) Q.globals.size (Fh K) w L:=by
  obtain⟨hg1,hg2⟩:=a.Ua;refine⟨λb c k x=> ?_,g.wr.big,g.wr.Dl,λb c j k l x y=> ?_,λb E c k l x y=> ?_,λb c k x=> ?_,⟨g.wr.held.calm,λb c k x d=> ?_,λb c k i y x d e hu=> ?_⟩⟩
  ·obtain⟨rfl,rfl,_⟩:=x
   simp only[LK.ch,LK.ch'];omega
  ·rw[x.2.1,y.2.1]
  ·rw[x.1,y.1]
  ·obtain⟨rfl,rfl,rfl⟩:=x
   exact⟨_,_,d,u,rfl,.chan _ _ _ _ _ _ _ _ _ _ _ _⟩
  ·exact AY
  ·exact AY
 refine(v.or g.wr hA).or B ?_;intro b c k E j l x y;obtain⟨rfl,rfl,rfl⟩:=y
 have t:b≠K.ch/\c≠K.ch':=by
  obtain x|x:=x
  ·grind
  ·exact⟨(g.DD x).2,λe=>G.mh _ (g.ran _ _ _ x) (.inr e)⟩
 omega
variable(st:Seat Q P c n U I X Y d1 d2 Z)
include st
theorem a4I(hJ:JC Q c U I n.uQ V O K F)(hT:Three M S K.Sh)(l:Rn Q n I K h S z L)(W:MW Q n I K J M z rest w L){cap r:Nat}{buf:Array Value}{cl tm:Bool}(T:L.heap[K.ch']? =some (.chan cap buf cl s r tm)){f d:Frame}(hN:DF Q n I K J f d)(ht:f.todo=[.code n.gF])(C:d.todo=[.code n.gF]):
  ∃u t,Ord Q n U I c V O (G f F.r) w (G d F.r') L u t (B0 U I n.uQ) f F.r d F.r':=by
 obtain⟨v,⟨q,cy,k,r,k',r',hFr,p,j,H⟩,g⟩:=hJ.rest;obtain⟨_,_,hm,E,hr,D,hk,i,hfn,hfn',_,_,hd,N⟩:=hN.facts;obtain⟨t,hF,_,_,_,_,B,_⟩:=hN;have a:K.Dj.le h:=l.le;have m:v.le ((h.or J).or (Fh K)):=λb c k x=>.inl (.inl (a _ _ _ (g _ _ _ x)))
 have e:t.le ((h.or J).or (Fh K)):=λb c k x=>by
  obtain y|y|y:=B b c k x
  ·exact .inl (.inr y)
  ·exact .inl (.inl (a _ _ _ y))
  ·exact .inr y
 have hFU:bn Q (B0 U I n.uQ) ((h.or J).or (Fh K)) ((h.or J).or (Fh K)) f d:=by
  refine bn.Re (by grind) (hF.full.mono e) ?_ ?_ (.inl ⟨hm,E⟩) hk (.inl i) ?_ rfl rfl
  ·rw[ht,C];exact .cons (.code _ _ (.same _ st.ZV)) .nil
  ·rw[hd,N];exact .nil
  ·rw[hr,D];exact .none
 refine⟨(h.or J).or (Fh K),((h.or J).or (Fh K)).or q,rfl,rfl,?_,Ren.le_trans H m,a88 hT l W T,W.tidy,λb c k x=> ?_⟩
 ·rw[hFr,p]
  exact dm.above (B0 U I n.uQ) rfl rfl f d (hFU.any rfl (Ren.uP _ _)) i cy k k' r r' (j.mono m)
 ·obtain⟨hg1,hg2⟩:=l.Ua
  obtain (x|x)|⟨rfl,rfl,_⟩:=x
  ·obtain y|⟨y,_⟩:=l.old b c k x
   ·exact(l.low b c k y).2.2.2.2.1
   ·omega
  ·exact W.high b c k x
  ·grind
end
end
end Go.Proofs.Zb
