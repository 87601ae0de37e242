import Derived.Laws.Sem
import Derived.Test.YtkdjjnkpfpogkaaGreatDoorK00
set_option maxHeartbeats 8000000
set_option linter.all false
namespace Go.Proofs.Zb
variable{w v w' v':World}{b c:Nat}{ρ σ:Ren}{o o':Obj}{k:Kind}{a a':Addr}
section
variable[Special]
structure Bij(N:Nat)(ρ:Ren):Prop where
 left:∀b c c' k k',ρ b c k->ρ b c' k'->c=c'
 right:∀b b' c k k',ρ b c k->ρ b' c k'->b=b'
 low:∀b c k,ρ b c k->N<=b
structure Calm(w':World):Prop where
 Tj:Special.old.heap.size<=w'.heap.size
 still:∀c:Nat,c<Special.old.heap.size->Special.seen c=false->w'.heap[c]? =Special.old.heap[c]?
 os:w'.os=Special.old.os
 out:w'.output=Special.old.output
structure Held(ρ:Ren)(w w':World):Prop where
 calm:Calm w'
 seen:∀b c k,ρ b c k->c<Special.old.heap.size->Special.seen c=true
 Li:∀(b c:Nat)(k:Kind)(i:Nat)(x:Value),ρ b c k->c<Special.old.heap.size->w.cell? ⟨b,i,none⟩=some x->Te x=true->w'.cell? ⟨c,i,none⟩=Special.old.cell? ⟨c,i,none⟩
structure WR(ok:Code->Prop)(N:Nat)(ρ:Ren)(w w':World):Prop where
 low:∀b c k,ρ b c k->N<=b
 big:N<=w.heap.size
 Dl:N<=w'.heap.size
 left:∀b c c' k k',ρ b c k->ρ b c' k'->c=c'
 right:∀b b' c k k',ρ b c k->ρ b' c k'->b=b'
 obj:∀b c k,ρ b c k->∃o o',w.heap[b]? =some o/\w'.heap[c]? =some o'/\kindOf o=some k/\qd ok ρ o o'
 held:Held ρ w w'
omit [Special]in
theorem Ep{i}(h:v.heap[b]? =w.heap[b]?):v.cell? ⟨b,i,none⟩=w.cell? ⟨b,i,none⟩:=by grind[World.cell?]
theorem Held.others(h:Held ρ w w')(m:Calm v')(j:∀b c k,ρ b c k->v.heap[b]? =w.heap[b]?)(f:∀b c k,ρ b c k->v'.heap[c]? =w'.heap[c]?):Held ρ v v':=
 ⟨m,h.seen,λb c k i x d g e l=>by
  rw[Ep (j b c k d)]at e
  rw[Ep (f b c k d)]
  exact h.Li b c k i x d g e l⟩
theorem Calm.keep(h:Calm w')(e:w'.heap.size<=v'.heap.size)(j:∀c,c<Special.old.heap.size->v'.heap[c]? =w'.heap[c]?)(g:v'.os=w'.os)(f:v'.output=w'.output):Calm v':=
 ⟨afC h.Tj e,λc d i=>(j c d).trans (h.still c d i),g.trans h.os,f.trans h.out⟩
structure Move(ρ σ:Ren)(w w' v v':World):Prop where
 le:ρ.le σ
 new:∀b c k,σ b c k->ρ b c k\/(w.heap.size<=b/\w'.heap.size<=c)
 all:∀b,w.heap.size<=b->b<v.heap.size->∃c k,σ b c k
 grow:w.heap.size<=v.heap.size
 grow':w'.heap.size<=v'.heap.size
 keep:∀b:Nat,b<w.heap.size->(∀c k,¬ρ b c k)->v.heap[b]? =w.heap[b]?
 keep':∀c:Nat,c<w'.heap.size->(∀b k,¬ρ b c k)->v'.heap[c]? =w'.heap[c]?
 chan:∀(b:Nat)(o:Obj),w.heap[b]? =some o->kindOf o=some .chan->v.heap[b]? =some o
 Tk:∀(c:Nat)(o:Obj),w'.heap[c]? =some o->kindOf o=some .chan->v'.heap[c]? =some o
 undef:∀(b c:Nat)(k:Kind)(i:Nat)(x:Value),ρ b c k->v.cell? ⟨b,i,none⟩=some x->Te x=true->w.cell? ⟨b,i,none⟩=some x/\v'.cell? ⟨c,i,none⟩=w'.cell? ⟨c,i,none⟩
 os:v.os=w.os
 os':v'.os=w'.os
 tape':v'.tape=w'.tape
 output':v'.output=w'.output
omit [Special]in
theorem Move.refl(ρ)(w w'):Move ρ ρ w w' w w':=
 ⟨λ_ _ _ h=>h,λ_ _ _ h=>.inl h,λb e d=>absurd d (Nat.not_lt.2 e),afA _,afA _,λ_ _ _=>rfl,λ_ _ _=>rfl,λ_ _ h _=>h,λ_ _ h _=>h,λ_ _ _ _ _ _ h _=>⟨h,rfl⟩,rfl,rfl,rfl,rfl⟩
theorem Held.move(h:Held ρ w w')(m:Move ρ σ w w' v v'):Held σ v v':=by
 have f:∀b c k,σ b c k->c<Special.old.heap.size->ρ b c k:=λb c k x d=>by
  obtain y|⟨_,y⟩:=m.new b c k x
  ·exact y
  ·have:=h.calm.Tj;omega
 refine⟨⟨afC h.calm.Tj m.grow',λc d l=> ?_,m.os'.trans h.calm.os,m.output'.trans h.calm.out⟩,λb c k x d=>h.seen b c k (f b c k x d) d,λb c k i x g d e j=> ?_⟩
 ·rw[m.keep' c (afB d h.calm.Tj) (λb k x=>by have:=h.seen b c k x d;rw[l]at this;cases this)]
  exact h.calm.still c d l
 ·obtain⟨p,n⟩:=m.undef b c k i x (f b c k g d) e j
  rw[n]
  exact h.Li b c k i x (f b c k g d) d p j
omit [Special]in
theorem Move.trans{ρ σ l:Ren}{w w' v v' u m:World}(h:Move ρ σ w w' v v')(k:Move σ l v v' u m):Move ρ l w w' u m where
 le:=Ren.le_trans h.le k.le
 new:=λb c d x=>by
  obtain y|⟨y,z⟩:=k.new b c d x
  ·exact h.new b c d y
  ·exact .inr ⟨afC h.grow y,afC h.grow' z⟩
 all:=λb s r=>by
  obtain j|j:=Nat.lt_or_ge b v.heap.size
  ·obtain⟨c,d,x⟩:=h.all b s j
   exact⟨c,d,k.le _ _ _ x⟩
  ·exact k.all b j r
 grow:=afC h.grow k.grow
 grow':=afC h.grow' k.grow'
 keep:=λb e g=>by
  rw[k.keep b (afB e h.grow) (λc d x=> ?_),h.keep b e g]
  obtain y|⟨y,_⟩:=h.new b c d x
  ·exact g c d y
  ·omega
 keep':=λc p g=>by
  rw[k.keep' c (afB p h.grow') (λb d x=> ?_),h.keep' c p g]
  obtain y|⟨_,y⟩:=h.new b c d x
  ·exact g b d y
  ·omega
 chan:=λb o e f=>k.chan b o (h.chan b o e f) f
 Tk:=λb o e f=>k.Tk b o (h.Tk b o e f) f
 undef:=λb c d i y x q n=>by
  obtain⟨C,B⟩:=k.undef b c d i y (h.le _ _ _ x) q n;obtain⟨A,t⟩:=h.undef b c d i y x C n
  exact⟨A,B.trans t⟩
 os:=k.os.trans h.os
 os':=k.os'.trans h.os'
 tape':=k.tape'.trans h.tape'
 output':=k.output'.trans h.output'
def Lj(σ:Ren)(e:Event):Prop:=
 match e.loc with
 | .cell a=>(∃b k,σ b a.block k)/\e.sync=false
 | .obj r=>(∃b k,σ b r k)/\(e.write=true->e.sync=false)
 | .mark m=>(m=.noRoom\/∃f,m=.extern f)/\e.write=false/\e.sync=true
 |_=>False
omit [Special]in
theorem Lj.mono(h:ρ.le σ){e}(x:Lj ρ e):Lj σ e:=by
 obtain⟨d,wr,i⟩:=e;cases d with
 |cell a=>exact⟨x.1.elim λb g=>g.elim λk f=>⟨b,k,h _ _ _ f⟩,x.2⟩
 |obj r=>exact⟨x.1.elim λb g=>g.elim λk f=>⟨b,k,h _ _ _ f⟩,x.2⟩
 |mark m=>exact x
 |output=>exact x
 |goroutines=>exact x
def a4a(m:Mark):Prop:=m=.noRoom\/∃f,m=.extern f
def Tidy:Obj->Prop
 | .pending .. =>False
 | .deferred (some (_::_))=>False
 |_=>True
theorem qd.tidy{d}(h:qd d ρ o o'):Tidy o:=by cases h<;>trivial
def aS(w:World):Prop:=∀(b:Nat)o,w.heap[b]? =some o->Tidy o
structure Dead(Q:Program){α:Type}(s:Sem α):Prop where
 no:∀w a v,s.run Q w≠.ok a v
 init:∀w g u,aS w->s.run Q w≠.halt (.unsupported (.initOrder g)) u
 halt:∀w x u,aS w->s.run Q w=.halt x u->aS u
omit [Special]in
theorem bH{Q}{m l}{s}{k:m->Sem l}(h:Dead Q s):Dead Q (s>>= k):=by
 have d:∀w,∃x u,s.run Q w=.halt x u/\(s>>= k).run Q w=.halt x u:=λw=>by
  rw[Sem.run_bind]
  cases p:s.run Q w with
  |ok a u=>exact absurd p (h.no w a u)
  |halt x u=>simp
 refine⟨λw b v e=> ?_,λw g u i e=> ?_,λw y u i e=> ?_⟩
 ·obtain⟨x,u,_,f⟩:=d w
  rw[f]at e;cases e
 ·obtain⟨x,n,j,f⟩:=d w
  rw[f]at e;cases e
  exact h.init w g _ i j
 ·obtain⟨x,n,j,f⟩:=d w
  rw[f]at e;cases e
  exact h.halt w _ _ i j
section
variable(ok:Code->Prop)(Q P:Program)
inductive aG{α α':Type}(F:Ren->α->α'->Prop):Ren->Sem α->Sem α'->Prop
 |pure (ρ:Ren) (a:α) (a':α') (h:F ρ a a'):aG F ρ (.pure a) (.pure a')
 |load (ρ:Ren) (a a':Addr) (k:Value->Sem α) (k':Value->Sem α') (h:bI ρ a a') (hk:∀v v',VR ρ v v'->aG F ρ (k v) (k' v')):aG F ρ (.load .plain a k) (.load .plain a' k')
 |store (ρ:Ren) (a a':Addr) (v v':Value) (k:Sem α) (k':Sem α') (h:bI ρ a a') (hv:VR ρ v v') (hk:aG F ρ k k'):aG F ρ (.store .plain a v k) (.store .plain a' v' k')
 |new (ρ:Ren) (o o':Obj) (kd:Kind) (k:Nat->Sem α) (k':Nat->Sem α') (h:qd ok ρ o o') (hd:kindOf o=some kd) (hk:∀σ n n',ρ.le σ->σ n n' kd->aG F σ (k n) (k' n')):aG F ρ (.new o k) (.new o' k')
 |shape (ρ:Ren) (r r':Nat) (kd:Kind) (k:Option (TypeId×Nat)->Sem α) (k':Option (TypeId×Nat)->Sem α') (h:ρ r r' kd) (hk:∀s,aG F ρ (k s) (k' s)):aG F ρ (.shape r k) (.shape r' k')
 |Dm (ρ:Ren) (r c:Nat) (k:Option (TypeId×Nat)->Sem α) (s':Sem α') (h:ρ r c .cells) (hk:∀x,aG F ρ (k (some x)) s'):aG F ρ (.shape r k) s'
 |freeze (ρ:Ren) (a a':Addr) (n:Nat) (k:Sem α) (k':Sem α') (h:bI ρ a a') (hk:aG F ρ k k'):aG F ρ (.freeze a n k) (.freeze a' n k')
 |frozen (ρ:Ren) (a a':Addr) (k:Bool->Sem α) (k':Bool->Sem α') (h:bI ρ a a') (hk:∀b,aG F ρ (k b) (k' b)):aG F ρ (.frozen a k) (.frozen a' k')
 |getObj (ρ:Ren) (r r':Nat) (kd:Kind) (k:Obj->Sem α) (k':Obj->Sem α') (h:ρ r r' kd) (hk:∀o o',kindOf o=some kd->qd ok ρ o o'->aG F ρ (k o) (k' o')):aG F ρ (.getObj r k) (.getObj r' k')
 |setObj (ρ:Ren) (r r':Nat) (kd:Kind) (o o':Obj) (k:Sem α) (k':Sem α') (h:ρ r r' kd) (hc:kd≠.chan) (hd:kindOf o=some kd) (ho:qd ok ρ o o') (hk:aG F ρ k k'):aG F ρ (.setObj r o k) (.setObj r' o' k')
 |choose (ρ:Ren) (q:Question) (k:Nat->Sem α) (k':Nat->Sem α') (hk:∀n,aG F ρ (k n) (k' n)):aG F ρ (.choose q k) (.choose q k')
 |GA (ρ:Ren) (q:Question) (k:Nat->Sem α) (s':Sem α') (hq:q.forced=false) (hk:∀n,aG F ρ (k n) s'):aG F ρ (.choose q k) s'
 |program (ρ:Ren) (k:Program->Sem α) (k':Program->Sem α') (hk:aG F ρ (k Q) (k' P)):aG F ρ (.program k) (.program k')
 |mark (ρ:Ren) (m:Mark) (k:Sem α) (k':Sem α') (h:a4a m) (hk:aG F ρ k k'):aG F ρ (.mark m k) (.mark m k')
 |bij (ρ:Ren) (s:Sem α) (s':Sem α') (h:Bij Q.globals.size ρ->aG F ρ s s'):aG F ρ s s'
 |dead (ρ:Ren) (s:Sem α) (s':Sem α') (h:Dead Q s):aG F ρ s s'
end
section
variable{A:Code->Prop}{Q P:Program}{N:Nat}
theorem aG.bind{D l H y:Type}{F}{G}{ρ:Ren}{s:Sem D}{i:Sem l}{k:D->Sem H}{k':l->Sem y}(h:aG A Q P F ρ s i)(e:∀σ,ρ.le σ->∀a a',F σ a a'->aG A Q P G σ (k a) (k' a')):aG A Q P G ρ (s.bind k) (i.bind k'):=by
 induction h with
 |pure ρ a a' h=>exact e ρ ρ.le_refl a a' h
 |load ρ a a' j f h _ d=>exact .load ρ a a' _ _ h λv v' B=>d v v' B e
 |store ρ a a' v v' j f h B _ d=>exact .store ρ a a' v v' _ _ h B (d e)
 |new ρ o o' g j f h u _ d=>exact .new ρ o o' g _ _ h u λσ n I t K=>d σ n I t K λE z=>e E (Ren.le_trans t z)
 |shape ρ r p g j f h _ d=>exact .shape ρ r p g _ _ h λs=>d s e
 |Dm ρ r c j i h _ d=>exact .Dm ρ r c _ _ h λx=>d x e
 |freeze ρ a a' n j f h _ d=>exact .freeze ρ a a' n _ _ h (d e)
 |frozen ρ a a' j f h _ d=>exact .frozen ρ a a' _ _ h λb=>d b e
 |getObj ρ r p g j f h _ d=>exact .getObj ρ r p g _ _ h λo o' u C=>d o o' u C e
 |setObj ρ r p g o o' j f h L u C _ d=>exact .setObj ρ r p g o o' _ _ h L u C (d e)
 |choose ρ q j f _ d=>exact .choose ρ q _ _ λn=>d n e
 |GA ρ q j i J _ d=>exact .GA ρ q _ _ J λn=>d n e
 |program ρ j f _ d=>exact .program ρ _ _ (d e)
 |mark ρ m j f h _ d=>exact .mark ρ m _ _ h (d e)
 |bij ρ s i _ d=>exact .bij ρ _ _ λM=>d M e
 |dead ρ s i h=>exact .dead ρ _ _ (bH h)
theorem aG.weaken{g d:Type}{F G}{s:Sem g}{f:Sem d}(h:aG A Q P F ρ s f)(i:∀σ,ρ.le σ->∀a a',F σ a a'->G σ a a'):aG A Q P G ρ s f:=by
 have:=h.bind (k:=Sem.pure) (k':=Sem.pure) (G:=G) λσ e a a' j=>.pure σ a a' (i σ e a a' j)
 simp_all[Sem.pure,Sem.bind_pure']
theorem WR.lt(h:WR A N ρ w w')(x:ρ b c k):b<w.heap.size/\c<w'.heap.size:=by
 obtain⟨o,o',e,d,_⟩:=h.obj b c k x
 grind
theorem WR.cells{ρ}{w w'}(h:WR A N ρ w w'){a a'}(x:bI ρ a a'){v}(e:w.cell? a=some v):
  ∃v',w'.cell? a'=some v'/\VR ρ v v':=by
 cases x with
 |mk b c f d k j=>
  obtain⟨o,o',n,m,_,i⟩:=h.obj b c k j;unfold World.cell? at e |-;simp only[n,m]at e |-;cases i with
  |cells r p t q l=>
   simp only at e |-
   split at e
   ·cases e
   ·rename_i g
    rw[afJ g]
    exact l.get e
  |_=>simp at e
theorem WR.far(X:P.toTables=Q.toTables)(h:WR A N ρ w w')(x:bI ρ a a')(b){v}{l}(e:w.farLoad Q a b=.ok (v,l)):
  ∃v' S,w'.farLoad P a' b=.ok (v',S)/\VR ρ v v'/\∀y∈S,∃c k,ρ c y.block k:=by
 cases x with
 |mk O c0 E d k R=>
  obtain⟨o,o',h1,h2,_,Y⟩:=h.obj O c0 k R;unfold World.farLoad at e |-;simp only[h1]at e;simp only[h2];cases Y with
  |view s U t hs=>
   dsimp only at e |-;obtain⟨Z,V⟩:∃k,ρ s.block U.block k:=by cases hs with|mk b c E d k R=>exact⟨k,R⟩
   have F:s.off=U.off/\s.spot=U.spot:=by cases hs;exact bG
   obtain⟨y,W,f1,f2,_,f4⟩:=h.obj _ _ _ V;unfold World.viewLoad at e |-;simp only[bind,Except.bind,pure,Except.pure]at e |-;cases I:w.seen Q s t ⟨O,E,d⟩ b with
   |error m=>rw[I]at e;cases e
   |ok r=>
    obtain⟨c,B,fr,first,J,cells⟩:=r;obtain⟨c',L,M,_,_⟩:=a3Y X (k:=⟨O,E,d⟩) (k':=⟨c0,E,d⟩) F.1 F.2 rfl rfl ⟨y,W,f1,f2,f4⟩ t b I
    rw[I]at e
    rw[L]
    dsimp only at e |-;generalize hu:J.ofBytes _=r at e |-;cases r with
    |none=>cases e
    |some u=>split<;>grind[O6,agG]
  |_=>cases e
theorem WR.shape(h:WR A N ρ w w')(x:ρ b c k):w'.shape? c=w.shape? b:=by
 obtain⟨o,o',g,f,_,d⟩:=h.obj b c k x;unfold World.shape?
 rw[g,f]
 cases d with
 |cells l i t j e=>simp[e.size]
 |_=>rfl
theorem WR.Dm(h:WR A N ρ w w')(x:ρ b c .cells):∃y,w.shape? b=some y:=by
 obtain⟨o,o',d,_,e,_⟩:=h.obj b c .cells x;unfold World.shape?
 rw[d]
 cases o<;>grind[cells,kindOf]
theorem WR.frozen(h:WR A N ρ w w')(x:bI ρ a a'):w'.frozen? a'=w.frozen? a:=by
 cases x with
 |mk b c e d k g=>
  obtain⟨o,o',j,i,_,f⟩:=h.obj b c k g;unfold World.frozen?;simp only[j,i];cases f<;>simp
theorem Dn(h:WR A N ρ w w')(x:ρ b c k)(K:kindOf o=some k)(C:k≠.chan)(I:qd A ρ o o')(H:∀i x,({w with heap:=w.heap.setIfInBounds b o}:World).cell? ⟨b,i,none⟩=some x->Te x=true->
   w.cell? ⟨b,i,none⟩=some x/\({w' with heap:=w'.heap.setIfInBounds c o'}:World).cell? ⟨c,i,none⟩=w'.cell? ⟨c,i,none⟩):
  WR A N ρ {w with heap:=w.heap.setIfInBounds b o} {w' with heap:=w'.heap.setIfInBounds c o'}/\
  Move ρ ρ w w' {w with heap:=w.heap.setIfInBounds b o} {w' with heap:=w'.heap.setIfInBounds c o'}:=by
 obtain⟨U,L⟩:=h.lt x
 have M:Move ρ ρ w w' {w with heap:=w.heap.setIfInBounds b o} {w' with heap:=w'.heap.setIfInBounds c o'}:=by
  refine⟨λ_ _ _ h=>h,λ_ _ _ h=>.inl h,λb d O=>absurd O (by grind),by simp,by simp,λl _ J=> ?_,λc1 _ J=> ?_,λl t d g=> ?_,λc1 t d g=> ?_,λl c1 k1 i y m e G=> ?_,rfl,rfl,rfl,rfl⟩
  ·grind
  ·grind
  ·have:b≠l:=λe=>by
    subst e;obtain⟨B,p,n,r,j,z⟩:=h.obj b c k x
    rw[d]at n;cases n
    rw[g]at j;cases j;exact C rfl
   exact zu
  ·have:c≠c1:=λe=>by
    subst e;obtain⟨B,p,n,r,j,z⟩:=h.obj b c k x;obtain⟨T,E,D⟩:=z.kind
    rw[d]at r;cases r
    rw[g]at D;cases D
    rw[j]at E;cases E;exact C rfl
   exact zu
  ·by_cases f:b=l
   ·subst f
    obtain rfl:=h.left _ _ _ _ _ x m;exact H i y e G
   ·have q:c≠c1:=λe=>by subst e;exact f (h.right _ _ _ _ _ x m)
    unfold World.cell? at e |-;simp only at e |-
    rw[afF f]at e
    rw[afF q]
    exact⟨e,rfl⟩
 refine⟨⟨h.low,by simpa using h.big,by simpa using h.Dl,h.left,h.right,λl c1 k1 m=> ?_,h.held.move M⟩,M⟩
 ·obtain⟨t,s,S,V,F,R⟩:=h.obj l c1 k1 m
  by_cases f:b=l
  ·subst f
   obtain rfl:=h.left _ _ _ _ _ x m
   have u:k1=k:=by
    obtain⟨B,p,n,r,j,z⟩:=h.obj b c k x
    rw[S]at n;cases n
    rw[F]at j;exact agf j
   subst u;refine⟨o,o',?_,?_,K,I⟩<;>grind
  ·have q:c≠c1:=λe=>by subst e;exact f (h.right _ _ _ _ _ x m)
   refine⟨t,s,?_,?_,F,R⟩<;>grind
def Ren.plus(ρ:Ren)(n d:Nat)(e:Kind):Ren:=λb c k=>ρ b c k\/(b=n/\c=d/\k=e)
theorem O7(h:WR A N ρ w w'){f}(u:kindOf o=some f)(t:qd A ρ o o'):
  WR A N (ρ.plus w.heap.size w'.heap.size f) {w with heap:=w.heap.push o} {w' with heap:=w'.heap.push o'}/\
  Move ρ (ρ.plus w.heap.size w'.heap.size f) w w' {w with heap:=w.heap.push o} {w' with heap:=w'.heap.push o'}:=by
 have d:ρ.le (ρ.plus w.heap.size w'.heap.size f):=λ_ _ _ x=>.inl x
 have g:=h.big;have n:=h.Dl
 have M:Move ρ (ρ.plus w.heap.size w'.heap.size f) w w' {w with heap:=w.heap.push o} {w' with heap:=w'.heap.push o'}:=by
  refine⟨d,λb c k x=> ?_,λb p z=>⟨w'.heap.size,f,.inr ⟨by simp at z;omega,rfl,rfl⟩⟩,by simp,by simp,λb E _=> ?_,λc D _=> ?_,λb m p _=> ?_,λc m p _=> ?_,λb c k i y x e _=> ?_,rfl,rfl,rfl,rfl⟩
  ·obtain x|⟨rfl,rfl,rfl⟩:=x<;>grind
  ·grind
  ·grind
  ·grind
  ·grind
  ·obtain⟨r,q⟩:=h.lt x
   unfold World.cell? at e |-;simp only at e |-
   rw[agh,afJ (by omega)]at e
   rw[agh,afJ (by omega)]
   exact⟨e,rfl⟩
 refine⟨⟨λb c k x=> ?_,by simp;omega,by simp;omega,λb c G k s x y=> ?_,λb H c k s x y=> ?_,λb c k x=> ?_,h.held.move M⟩,M⟩
 ·obtain x|⟨rfl,rfl,rfl⟩:=x
  ·exact h.low _ _ _ x
  ·exact g
 ·obtain x|⟨rfl,rfl,rfl⟩:=x<;>obtain y|⟨j,rfl,rfl⟩:=y
  ·exact h.left _ _ _ _ _ x y
  ·subst j;have:=(h.lt x).1;omega
  ·have:=(h.lt y).1;omega
  ·rfl
 ·obtain x|⟨rfl,rfl,rfl⟩:=x<;>obtain y|⟨rfl,j,rfl⟩:=y
  ·exact h.right _ _ _ _ _ x y
  ·subst j;have:=(h.lt x).2;omega
  ·have:=(h.lt y).2;omega
  ·rfl
 ·obtain x|⟨rfl,rfl,rfl⟩:=x
  ·obtain⟨m,l,j,F,C,B⟩:=h.obj b c k x
   obtain⟨r,q⟩:=h.lt x;refine⟨m,l,?_,?_,C,B.mono d⟩<;>grind
  ·exact⟨o,o',by simp,by simp,u,t.mono d⟩
omit [Special]in
theorem modify_eq_set{d:Type}(a:Array d)(i)(f)(x)(h:a[i]? =some x):a.modify i f=a.setIfInBounds i (f x):=by grind
theorem Ll(h:WR A N ρ w w')(x:bI ρ a a'){u v v'}(e:w.cell? a=some u)(B:VR ρ v v')(E:Te v=false):
  WR A N ρ (w.setCell a v) (w'.setCell a' v')/\Move ρ ρ w w' (w.setCell a v) (w'.setCell a' v'):=by
 cases x with
 |mk b c d f k l=>
  obtain⟨o,o',m,p,H,D⟩:=h.obj b c k l;cases D with
  |cells K n t q G=>
   unfold World.cell? at e;simp only[m]at e
   split at e
   ·cases e
   ·rename_i C
    have g:f.isSome=false:=by simpa using C
    have J:w.setCell ⟨b,d,f⟩ v={w with heap:=w.heap.setIfInBounds b (.cells (K.setIfInBounds d v) t q)}:=by
     unfold World.setCell;simp only[g,afI,ag6]
     rw[modify_eq_set _ _ _ _ m]
    have I:w'.setCell ⟨c,d,f⟩ v'={w' with heap:=w'.heap.setIfInBounds c (.cells (n.setIfInBounds d v') t q)}:=by
     unfold World.setCell;simp only[g,afI,ag6]
     rw[modify_eq_set _ _ _ _ p]
    rw[J,I]
    have j:k=.cells:=by simpa[kindOf]using H.symm
    subst j;refine Dn h l rfl (by simp) (.cells _ _ _ _ (G.set d B)) λi y r L=> ?_
    obtain⟨z,s⟩:=h.lt l;unfold World.cell? at r |-;simp only[afO z,afO s,m,p,agU,afI,ag6]at r |-
    by_cases F:d=i<;>grind
  |_=>grind[World.cell?]
theorem JE(h:WR A N ρ w w')(x:bI ρ a a')(n):
  WR A N ρ (w.freeze a n) (w'.freeze a' n)/\Move ρ ρ w w' (w.freeze a n) (w'.freeze a' n):=by
 by_cases e:n=0
 ·unfold World.freeze
  rw[afN e,afN e]
  exact⟨h,.refl _ _ _⟩
 cases x with
 |mk b c z r k l=>
  obtain⟨o,o',p,m,G,D⟩:=h.obj b c k l
  have d:∀(u:World)(f:Obj->Obj)(y:Obj)(i:Nat),u.heap[i]? =some y->f y=y->({u with heap:=u.heap.modify i f}:World)=u:=by
   intro u f y i s E
   have:u.heap.modify i f=u.heap:=by
    rw[modify_eq_set _ _ _ _ s,E]
    apply Array.ext_getElem?;intro j
    rw[ag3]
    split<;>grind
   rw[this]
  unfold World.freeze
  rw[afJ e,afJ e]
  cases D with
  |cells L I t H F=>
   obtain⟨J,K⟩:=H;simp only
   rw[modify_eq_set _ _ _ _ p,modify_eq_set _ _ _ _ m]
   have g:k=.cells:=by simpa[kindOf]using G.symm
   subst g;refine Dn h l rfl (by simp) (.cells _ _ _ _ F) λi y q s=> ?_
   obtain⟨C,B⟩:=h.lt l;unfold World.cell? at q |-;simp only[afO C,afO B,p,m,agU,afI,ag6,and_true]at q |-;exact q
  |_=>
   rw[d w _ _ b p rfl,d w' _ _ c m rfl]
   exact⟨h,.refl _ _ _⟩
theorem WR.viewStore{ρ}{w w'}(ht:P.toTables=Q.toTables)(h:WR A N ρ w w'){s s'}(hs:bI ρ s s')(t)(O c0 U)(u)(b){v v'}(hv:VR ρ v v'){w1}{l}(e:w.viewStore Q s t ⟨O,U,u⟩ v b=.ok (w1,l)):
  ∃W S,w'.viewStore P s' t ⟨c0,U,u⟩ v' b=.ok (W,S)/\WR A N ρ w1 W/\Move ρ ρ w w' w1 W/\(∀y∈S,∃c k,ρ c y.block k)/\w1.drawn=w.drawn/\W.drawn=w'.drawn:=by
 obtain⟨ks,X⟩:∃k,ρ s.block s'.block k:=by cases hs with|mk b c U u k R=>exact⟨k,R⟩
 have hoff:s.off=s'.off/\s.spot=s'.spot:=by cases hs;exact bG
 obtain⟨y,y',f1,f2,f3,f4⟩:=h.obj _ _ _ X;unfold World.viewStore at e |-
 rw[jr ht,a0r ht]
 simp only[bind,Except.bind,pure,Except.pure]at e |-
 split at e
 ·cases e
 rename_i htg
 rw[afJ htg]
 cases hse:w.seen Q s t ⟨O,U,u⟩ b with
 |error m=>rw[hse]at e;cases e
 |ok r=>
  obtain⟨c,B,fr,first,like,cells⟩:=r;obtain⟨Y,adH,M,g1,g2⟩:=a3Y ht (k:=⟨O,U,u⟩) (k':=⟨c0,U,u⟩) hoff.1 hoff.2 rfl rfl ⟨y,y',f1,f2,f4⟩ t b hse
  rw[hse]at e
  rw[adH]
  dsimp only at e |-;cases hb:v.bytes? with
  |none=>rw[hb]at e;cases e
  |some F=>
   obtain⟨hb',rfl⟩:=Tg hv hb
   rw[hb]at e
   rw[hb]
   dsimp only at e |-
   split at e
   ·cases e
   rename_i hsz
   rw[afJ hsz]
   have fold:∀(cells:List (Nat×Nat×List UInt8))(c Y d:Array Value),AR ρ c Y->
     List.foldlM (m:=Except String) (λ(c:Array Value)(x:Nat×Nat×List UInt8)=>match x with
      |(i,s,bs)=>do
       if s<first||s+bs.length>first+F.length then MonadExcept.throw "memory seen as another type: a part of a cell written"
       if fr.1<=i&&i<fr.2 then MonadExcept.throw "a write to bytes that a string shares"
       let some V:=c[i]? |MonadExcept.throw "memory seen as another type: no such cell"
       let some new:=V.ofBytes ((F.drop (s-first)).take bs.length)|MonadExcept.throw "memory seen as another type: a bool from a byte other than 0 or 1"
       pure (c.setIfInBounds i new)) c cells=.ok d->
     ∃d',List.foldlM (m:=Except String) (λ(c:Array Value)(x:Nat×Nat×List UInt8)=>match x with
      |(i,s,bs)=>do
       if s<first||s+bs.length>first+F.length then MonadExcept.throw "memory seen as another type: a part of a cell written"
       if fr.1<=i&&i<fr.2 then MonadExcept.throw "a write to bytes that a string shares"
       let some V:=c[i]? |MonadExcept.throw "memory seen as another type: no such cell"
       let some new:=V.ofBytes ((F.drop (s-first)).take bs.length)|MonadExcept.throw "memory seen as another type: a bool from a byte other than 0 or 1"
       pure (c.setIfInBounds i new)) Y cells=.ok d'/\AR ρ d d'/\∀(i:Nat)(y:Value),d[i]? =some y->Te y=true->c[i]? =some y/\d'[i]? =Y[i]? :=by
    intro cells;induction cells with
    |nil=>
     intro c Y d M hf;simp only[List.foldlM_nil,pure,Except.pure,Except.ok.injEq]at hf;subst hf
     exact⟨Y,rfl,M,λi y hi _=>⟨hi,rfl⟩⟩
    |cons z cells ih=>
     intro c Y d M hf;obtain⟨i,s,bs⟩:=z;simp only[List.foldlM_cons,bind,Except.bind,pure,Except.pure]at hf |-
     split at hf
     ·cases hf
     rename_i x0 E
     split at E
     ·cases E
     rename_i hc1
     split at E
     ·cases E
     rename_i G
     split at E
     ·rename_i V ho
      split at E
      ·rename_i nw hn
       cases E;obtain⟨old',ho',hor⟩:=M.get ho
       have hold:old'=V:=by cases hor<;>first|rfl|(simp[Value.ofBytes]at hn)
       subst hold
       rw[afJ hc1,afJ G,ho']
       dsimp only
       rw[hn]
       dsimp only;obtain⟨hnr,hnu⟩:=O6 (ρ:=ρ) hn;obtain⟨d',e1,e2,e3⟩:=ih _ _ d (M.set i hnr) hf;refine⟨d',e1,e2,λj y hj hy=> ?_⟩;obtain⟨J,I⟩:=e3 j y hj hy
       by_cases hij:i=j
       ·subst hij
        have Z:=(afD.1 ho).1
        rw[afO Z]at J
        rw[<-Option.some.inj J,hnu]at hy
        cases hy
       ·rw[afF hij]at J I
        exact⟨J,I⟩
      ·cases E
     ·cases E
   split at e
   ·cases e
   rename_i d L;cases e;obtain⟨d',e1,e2,e3⟩:=fold cells c Y d M L;generalize hg:List.foldlM (m:=Except String) _ Y cells=r;obtain rfl:r=.ok d':=hg.symm.trans e1
   have hkd:ks=.cells:=by rw[f1]at g1;cases g1;simpa[kindOf]using f3.symm
   subst hkd
   obtain⟨hW,hM⟩:=Dn h X (o:=.cells d B fr) (o':=.cells d' B fr) rfl (by simp) (.cells _ _ _ _ e2) (λi y ei hy=>by obtain⟨l1,l2⟩:=h.lt X;unfold World.cell? at ei |-;simp only[afO l1,afO l2,g1,g2,agU,afI,ag6]at ei |-;exact e3 i y ei hy)
   refine⟨_,_,rfl,hW,hM,λz hz=> ?_,rfl,rfl⟩;obtain⟨q,_,rfl⟩:=agG.1 hz
   exact⟨_,_,X⟩
theorem WR.farStore{ρ}{w w'}(z:P.toTables=Q.toTables)(h:WR A N ρ w w'){a a'}(x:bI ρ a a')(b){v v'}(u:VR ρ v v'){j}{l}(e:w.farStore Q a v b=.ok (j,l)):
  ∃d n,w'.farStore P a' v' b=.ok (d,n)/\WR A N ρ j d/\Move ρ ρ w w' j d/\(∀y∈n,∃c k,ρ c y.block k)/\j.drawn=w.drawn/\d.drawn=w'.drawn:=by
 cases x with
 |mk q c0 i f k D=>
  obtain⟨o,o',F,E,_,C⟩:=h.obj q c0 k D;unfold World.farStore at e |-;simp only[F]at e;simp only[E];cases C with
  |view s H t B=>
   dsimp only at e |-;cases p:w.viewStore Q s t ⟨q,i,f⟩ v b with
   |error m=>rw[p]at e;cases e
   |ok r=>
    rw[p]at e
    cases e;obtain⟨d,n,G,g⟩:=h.viewStore z B t q c0 i f b u p
    rw[G]
    exact⟨d,n,rfl,g⟩
  |_=>cases e
theorem VR.shapes{v v'}(h:VR ρ v v')(f:∀a,v≠.agg a)(d:∀a,v≠.tuple a):(∀a,v'≠.agg a)/\∀a,v'≠.tuple a:=by cases h<;>first|(exact absurd rfl (f _))|(exact absurd rfl (d _))|(refine⟨λa=> ?_,λa=> ?_⟩<;>simp;done)|(rename_i h;refine⟨λa e=> ?_,λa e=> ?_⟩<;>(subst e;cases h))
def qQ{e:Type}(Q:Program)(s:Sem e)(w:World):Prop:=∀T d,(∃a v,s.run Q (re T d w)=.ok a v)\/∃g u,s.run Q (re T d w)=.halt (.unsupported (.initOrder g)) u
theorem Move.noPending(l:Move ρ σ w w' v v')(n:WR A N σ v v')(h:aS w):aS v:=by
 intro b o e
 by_cases j:∃f k,σ b f k
 ·obtain⟨f,k,m⟩:=j
  obtain⟨o,o',q,_,_,p⟩:=n.obj _ _ _ m
  rw[q]at e;cases e
  exact p.tidy
 ·have g:b<v.heap.size:=(afD.1 e).1
  obtain d|i:=Nat.lt_or_ge b w.heap.size
  ·rw[l.keep b d λf k x=>j ⟨f,k,l.le _ _ _ x⟩]at e
   exact h b o e
  ·exact absurd (l.all b i g) j
theorem Tm(h:WR A N ρ w w')(x:bI ρ a a')(d)(g):w.noCell a d≠.unsupported (.initOrder g):=by
 cases x with
 |mk m c0 f e k j=>
  obtain⟨o,o',l,n,_,i⟩:=h.obj m c0 k j;unfold World.noCell;simp only[l];cases i<;>simp
theorem a7r(h:WR A N ρ w w')(x:bI ρ a a'){b}{d}(e:w.farLoad Q a b=.error d)(g):d≠.unsupported (.initOrder g):=by grind[World.farLoad,Tm]
theorem QX(h:WR A N ρ w w')(x:bI ρ a a'){v}{b}{d}(e:w.farStore Q a v b=.error d)(g):d≠.unsupported (.initOrder g):=by grind[World.farStore,Tm]
def first(f:Question->Nat)(T:Nat->Question->Nat)(d:Nat):Nat->Question->Nat
 |0,q=>f q
 |i+1,q=>T (d+i) q
omit [Special]in
theorem Tn(f)(T)(d)(w):Ahead (re T d w) (first f T d) 1:=λi q=>by rw[Nat.add_comm];rfl
omit [Special]in
theorem O8{e}{Q}(q)(k:Nat->Sem e)(g:q.forced=false)(f)(T)(d)(w):
  Same (first f T d) ((k (q.cut (f q))).run Q (re T d w)) ((Sem.choose q k).run Q (re (first f T d) 0 w)):=by
 simp only[Sem.run,g,afI,ag6];exact a3Z Q (k (q.cut (f q))) (Tn f T d w)
theorem WR.re{ρ:Ren}{w w':World}(h:WR A N ρ w w')(T:Nat->Question->Nat)(d:Nat):WR A N ρ (re T d w) w':=⟨h.low,h.big,h.Dl,h.left,h.right,h.obj,⟨h.held.calm,h.held.seen,h.held.Li⟩⟩
theorem WR.re'(h:WR A N ρ w w')(T)(d):WR A N ρ w (Zb.re T d w'):=⟨h.low,h.big,h.Dl,h.left,h.right,h.obj,⟨⟨h.held.calm.Tj,h.held.calm.still,h.held.calm.os,h.held.calm.out⟩,h.held.seen,h.held.Li⟩⟩
omit [Special]in
theorem Move.re{ρ σ:Ren}{w w' v v':World}(h:Move ρ σ w w' v v')(T:Nat->Question->Nat)(d:Nat):Move ρ σ w w' (re T d v) v':=
 ⟨h.le,h.new,h.all,h.grow,h.grow',h.keep,h.keep',h.chan,h.Tk,h.undef,h.os,h.os',h.tape',h.output'⟩
def mI:List (Question->Nat)->(Nat->Question->Nat)->Nat->Prop
 |[],_,_=>True
 |f::L,T,d=>T d=f/\mI L T (d+1)
theorem aG.run(ht:P.toTables=Q.toTables){α α':Type}{F}{ρ:Ren}{s:Sem α}{s':Sem α'}(h:aG A Q P F ρ s s'):
  ∀w w' Z,WR A Q.globals.size ρ w w'->aS w->qQ Q s w->
   ∃L a v σ a' v' ev,(∀T d,mI L T d->s.run Q (Zb.re T d w)=.ok a (Zb.re T (d+L.length) v))/\s'.runT P w' Z=(.ok a' v',Z++ev)/\F σ a a'/\WR A Q.globals.size σ v v'/\Move ρ σ w w' v v'/\∀e∈ev,Lj σ e:=by
 induction h with
 |pure ρ a a' hF=>
  intro w w' Z Y _ _
  exact⟨[],a,w,ρ,a',w',#[],λ_ _ _=>rfl,by simp[Sem.runT,-Sem.runT_eq],hF,Y,.refl _ _ _,λe he=>by simp at he⟩
 |load ρ a a' k k' H hk ih=>
  intro w w' Z Y hN p;cases e:w.cell? a with
  |none=>
   cases D:w.farLoad Q a (Mode.plain==.atomic)with
   |error x=>
    exfalso
    obtain⟨b,v,C⟩|⟨g,u,C⟩:=p w.tape w.drawn
    ·simp only[Sem.run,show(Zb.re w.tape w.drawn w).cell? a=none from e,yo,D]at C
     cases C
    ·simp only[Sem.run,show(Zb.re w.tape w.drawn w).cell? a=none from e,yo,D,Result.halt.injEq]at C
     exact a7r Y H D g C.1
   |ok x=>
    obtain⟨u,l⟩:=x;obtain⟨u',l',hf',hu,X⟩:=Y.far ht H _ D
    have M:w'.cell? a'=none:=by
     cases M:w'.cell? a' with
     |none=>rfl
     |some y=>
      exfalso
      cases H with
      |mk b c W V K S=>
       obtain⟨o,o',O,R,_,U⟩:=Y.obj b c K S;unfold World.farLoad at D;exact zo
    have G:∀T d,(Sem.load .plain a k).run Q (Zb.re T d w)=(k u).run Q (Zb.re T d w):=λT d=>by simp only[Sem.run,show(Zb.re T d w).cell? a=none from e,yo,D]
    obtain⟨L,b,v,σ,b',v',ev,r0,z,r2,r3,j,E⟩:=ih u u' hu w w' (Z++l'.toArray.map (⟨.cell ·,false,false⟩)) Y hN (λT d=>jw);refine⟨L,b,v,σ,b',v',l'.toArray.map (⟨.cell ·,false,false⟩)++ev,λT d I=>jv,?_,r2,r3,j,λx J=> ?_⟩
    ·simp only[Sem.runT,M,hf']
     exact nV
    ·exact ahn
  |some u=>
   obtain⟨u',M,hu⟩:=Y.cells H e
   have G:∀T d,(Sem.load .plain a k).run Q (Zb.re T d w)=(k u).run Q (Zb.re T d w):=λT d=>by simp only[Sem.run,show(Zb.re T d w).cell? a=some u from e]
   obtain⟨L,b,v,σ,b',v',ev,r0,z,r2,r3,j,E⟩:=ih u u' hu w w' (Z.push ⟨.cell a',false,false⟩) Y hN (λT d=>jw);refine⟨L,b,v,σ,b',v',#[⟨.cell a',false,false⟩]++ev,λT d I=>jv,?_,r2,r3,j,λx J=> ?_⟩
   ·simp only[Sem.runT,M]
    exact nV
   ·obtain J|J:=agO.1 J
    ·obtain rfl:x=⟨.cell a',false,false⟩:=by simpa using J
     exact zq
    ·exact E x J
 |store ρ a a' u u' k k' H hu hk ih=>
  intro w w' Z Y hN p;have hr0:=p w.tape w.drawn;have hna:∀cs,u≠.agg cs:=λcs e=>by subst e;simp[Sem.run]at hr0
  have hnt:∀cs,u≠.tuple cs:=λcs e=>by subst e;simp[Sem.run]at hr0
  obtain⟨hna',adI⟩:=hu.shapes hna hnt;have hst:∀T d,(Sem.store .plain a u k).run Q (Zb.re T d w)=_:=λT d=>Sem.run.eq_5 Q (Zb.re T d w) .plain a u k (λcs e=>hna cs e) (λcs e=>hnt cs e)
  rw[Sem.runT.eq_5 P w' Z .plain a' u' k' (λcs e=>hna' cs e) (λcs e=>adI cs e)]
  cases e:w.cell? a with
  |none=>
   cases D:w.farStore Q a u (Mode.plain==.atomic)with
   |error x=>
    exfalso
    rw[hst]at hr0
    simp only[show(Zb.re w.tape w.drawn w).cell? a=none from e,Dk,D,Except.map]at hr0;obtain⟨b,v,C⟩|⟨g,u,C⟩:=hr0
    ·cases C
    ·simp only[Result.halt.injEq]at C
     exact QX Y H D g C.1
   |ok x=>
    obtain⟨w1,l⟩:=x;obtain⟨w1',l',hf',hW1,hM1,X,hd,hd'⟩:=Y.farStore ht H _ hu D
    have M:w'.cell? a'=none:=by
     cases M:w'.cell? a' with
     |none=>rfl
     |some y=>
      exfalso
      cases H with
      |mk b c W V K S=>
       obtain⟨o,o',O,R,_,U⟩:=Y.obj b c K S;unfold World.farStore at D;exact zo
    have G:∀T d,(Sem.store .plain a u k).run Q (Zb.re T d w)=k.run Q (Zb.re T d w1):=λT d=>by
     rw[hst]
     simp only[show(Zb.re T d w).cell? a=none from e,Dk,D,Except.map]
    obtain⟨L,b,v,σ,b',v',ev,r0,z,r2,r3,j,E⟩:=ih w1 w1' (Z++l'.toArray.map (⟨.cell ·,true,false⟩)) hW1 (hM1.noPending hW1 hN) (λT d=>jw);refine⟨L,b,v,σ,b',v',l'.toArray.map (⟨.cell ·,true,false⟩)++ev,λT d I=>jv,?_,r2,r3,hM1.trans j,λx J=> ?_⟩
    ·simp only[M,hf']
     exact nV
    ·exact ahn
  |some x=>
   by_cases D:w.frozen? a=true
   ·rw[hst]at hr0
    simp only[show(Zb.re w.tape w.drawn w).cell? a=some x from e,show(Zb.re w.tape w.drawn w).frozen? a=true from D,agr]at hr0;simp at hr0
   ·have G:∀T d,(Sem.store .plain a u k).run Q (Zb.re T d w)=k.run Q (Zb.re T d (w.setCell a u)):=λT d=>by
     rw[hst]
     simp only[show(Zb.re T d w).cell? a=some x from e]
     rw[afJ (show ¬(Zb.re T d w).frozen? a=true from D)]
     rfl
    obtain⟨x',M,_⟩:=Y.cells H e;have hf':¬w'.frozen? a'=true:=by rw[Y.frozen H];exact D
    obtain⟨hW',hM⟩:=Ll Y H e hu (by cases u<;>first|rfl|exact absurd rfl (hna _)|exact absurd rfl (hnt _));obtain⟨L,b,v,σ,b',v',ev,r0,z,r2,r3,j,E⟩:=ih _ _ (Z.push ⟨.cell a',true,false⟩) hW' (hM.noPending hW' hN) (λT d=>jw);refine⟨L,b,v,σ,b',v',#[⟨.cell a',true,false⟩]++ev,λT d I=>jv,?_,r2,r3,hM.trans j,λy B=> ?_⟩
    ·simp only[M,afJ hf']
     exact nV
    ·obtain B|B:=agO.1 B
     ·obtain rfl:y=⟨.cell a',true,false⟩:=by simpa using B
      exact zq
     ·exact E y B
 |new ρ o o' K k k' ho hd hk ih=>
  intro w w' Z Y hN p;obtain⟨hW',hM⟩:=O7 Y hd ho;obtain⟨L,b,v,σ,b',v',ev,r0,z,r2,r3,j,E⟩:=ih _ w.heap.size w'.heap.size hM.le (.inr ⟨rfl,rfl,rfl⟩) _ _ Z hW' (hM.noPending hW' hN) p
  exact⟨L,b,v,σ,b',v',ev,r0,by simp only[Sem.runT];exact z,r2,r3,hM.trans j,E⟩
 |shape ρ r r' K k k' hrr hk ih=>
  intro w w' Z Y hN p;obtain⟨L,b,v,σ,b',v',ev,r0,z,r2⟩:=ih (w.shape? r) w w' Z Y hN p
  exact⟨L,b,v,σ,b',v',ev,r0,by simp only[Sem.runT];rw[Y.shape hrr];exact z,r2⟩
 |Dm ρ r c k s' hrr hk ih=>
  intro w w' Z Y hN p;obtain⟨x,J⟩:=Y.Dm hrr
  have e:∀T d,(Sem.shape r k).run Q (Zb.re T d w)=(k (some x)).run Q (Zb.re T d w):=λT d=>by simp only[Sem.run,show(Zb.re T d w).shape? r=some x from J]
  obtain⟨L,b,v,σ,b',v',ev,r0,z,r2⟩:=ih x w w' Z Y hN (λT d=>by rw[<-e];exact p T d)
  exact⟨L,b,v,σ,b',v',ev,λT d I=>by rw[e];exact r0 T d I,z,r2⟩
 |freeze ρ a a' n k k' H hk ih=>
  intro w w' Z Y hN p;have e:∀T d,(Zb.re T d w).freeze a n=Zb.re T d (w.freeze a n):=λT d=>by unfold World.freeze;split<;>rfl
  obtain⟨hW',hM⟩:=JE Y H n;obtain⟨L,b,v,σ,b',v',ev,r0,z,r2,r3,j,E⟩:=ih _ _ Z hW' (hM.noPending hW' hN) (λT d=>by have:=p T d;simp only[Sem.run,e]at this;exact this)
  exact⟨L,b,v,σ,b',v',ev,λT d I=>by simp only[Sem.run,e];exact r0 T d I,by simp only[Sem.runT];exact z,r2,r3,hM.trans j,E⟩
 |frozen ρ a a' k k' H hk ih=>
  intro w w' Z Y hN p;obtain⟨L,b,v,σ,b',v',ev,r0,z,r2⟩:=ih (w.frozen? a) w w' Z Y hN p
  exact⟨L,b,v,σ,b',v',ev,r0,by simp only[Sem.runT];rw[Y.frozen H];exact z,r2⟩
 |getObj ρ r r' K k k' hrr hk ih=>
  intro w w' Z Y hN p;obtain⟨o,o',O,R,h3,U⟩:=Y.obj r r' K hrr
  have hnc:∀c t f,o≠.cells c t f:=λc t f e=>zn
  have hnc':∀c t f,o'≠.cells c t f:=λc t f e=>by subst e;cases U;exact hnc _ _ _ rfl
  have G:∀T d,(Sem.getObj r k).run Q (Zb.re T d w)=(k o).run Q (Zb.re T d w):=λT d=>by
   simp only[Sem.run,show(Zb.re T d w).heap[r]? =some o from O]
   all_goals (cases o<;>first|exact absurd rfl (hnc _ _ _)|rfl)
  have hrun':∀Z,(Sem.getObj r' k').runT P w' Z=(k' o').runT P w' (Z.push ⟨.obj r',false,o'.isChan⟩):=λZ=>by
   simp only[Sem.runT,R]
   all_goals (cases o'<;>first|exact absurd rfl (hnc' _ _ _)|rfl)
  obtain⟨L,b,v,σ,b',v',ev,r0,z,r2,r3,j,E⟩:=ih o o' h3 U w w' (Z.push ⟨.obj r',false,o'.isChan⟩) Y hN (λT d=>jw);refine⟨L,b,v,σ,b',v',#[⟨.obj r',false,o'.isChan⟩]++ev,λT d I=>jv,by rw[hrun',z];simp[<-Array.append_assoc],r2,r3,j,λy B=> ?_⟩;obtain B|B:=agO.1 B
  ·obtain rfl:y=⟨.obj r',false,o'.isChan⟩:=by simpa using B
   exact⟨⟨r,K,j.le _ _ _ hrr⟩,λh=>by cases h⟩
  ·exact E y B
 |setObj ρ r r' K o o' k k' hrr hc hd ho hk ih=>
  intro w w' Z Y hN p;obtain⟨o1,o1',O,R,h3,U⟩:=Y.obj r r' K hrr
  have hnc:∀c t f,o1≠.cells c t f:=λc t f e=>zn
  have hkc:K≠.cells:=λe=>by
   subst e;cases o1 with
   |cells c t f=>exact hnc c t f rfl
   |_=>simp[kindOf]at h3
  have G:∀T d,(Sem.setObj r o k).run Q (Zb.re T d w)=k.run Q (Zb.re T d {w with heap:=w.heap.setIfInBounds r o}):=λT d=>by
   simp only[Sem.run,show(Zb.re T d w).heap[r]? =some o1 from O]
   all_goals (cases o1<;>first|exact absurd rfl (hnc _ _ _)|rfl)
  have hoc:∀c t f,o≠.cells c t f:=λc t f e=>by subst e;simp[kindOf]at hd;exact hkc hd.symm
  obtain⟨hW',hM⟩:=Dn Y hrr hd hc ho (λi y ei B=>by
   obtain⟨l1,l2⟩:=Y.lt hrr;unfold World.cell? at ei;simp only[afO l1]at ei;cases o with
   |cells c t f=>exact absurd rfl (hoc c t f)
   |_=>simp at ei)
  obtain⟨L,b,v,σ,b',v',ev,r0,z,r2,r3,j,E⟩:=ih _ _ (Z.push ⟨.obj r',true,o'.isChan⟩) hW' (hM.noPending hW' hN) (λT d=>jw);refine⟨L,b,v,σ,b',v',#[⟨.obj r',true,o'.isChan⟩]++ev,λT d I=>jv,?_,r2,r3,hM.trans j,λy B=> ?_⟩
  ·obtain⟨kk,g1,g2⟩:=U.kind
   have hnc':∀c t f,o1'≠.cells c t f:=λc t f e=>by
    subst e;simp[kindOf]at g2;subst g2
    rw[h3]at g1
    exact hkc (agf g1)
   simp only[Sem.runT,R];cases o1' with
   |cells c t f=>exact absurd rfl (hnc' c t f)
   |_=>simp only[z];simp[<-Array.append_assoc]
  ·obtain B|B:=agO.1 B
   ·obtain rfl:y=⟨.obj r',true,o'.isChan⟩:=by simpa using B
    refine⟨⟨r,K,j.le _ _ _ hrr⟩,λ_=> ?_⟩;cases ho<;>first|rfl|(simp[kindOf]at hd;exact absurd hd.symm hc)
   ·exact E y B
 |choose ρ q k k' hk ih=>
  intro w w' Z Y hN p
  by_cases D:q.forced=true
  ·obtain⟨L,b,v,σ,b',v',ev,r0,z,r2⟩:=ih 0 w w' Z Y hN (λT d=>by have:=p T d;simp only[Sem.run,D,agr]at this;exact this)
   exact⟨L,b,v,σ,b',v',ev,λT d I=>by simp only[Sem.run,D,agr];exact r0 T d I,by simp only[Sem.runT,D,agr];exact z,r2⟩
  ·have hf':q.forced=false:=by simpa using D
   have hA':qQ Q (k (q.cut (w'.tape w'.drawn q))) w:=λT d=>by
    have hs:=O8 (Q:=Q) q k hf' (w'.tape w'.drawn) T d w;cases J:(k (q.cut (w'.tape w'.drawn q))).run Q (Zb.re T d w)with
    |ok a u=>exact .inl ⟨a,u,rfl⟩
    |halt a u=>
     rw[J]at hs
     obtain⟨b,v,C⟩|⟨g,v,C⟩:=p (first (w'.tape w'.drawn) T d) 0
     ·rw[C]at hs;exact hs.elim
     ·rw[C]at hs;exact .inr ⟨g,u,by rw[hs.1]⟩
   have hW':WR A Q.globals.size ρ w {w' with drawn:=w'.drawn+1}:=⟨Y.low,Y.big,Y.Dl,Y.left,Y.right,Y.obj,⟨⟨Y.held.calm.Tj,Y.held.calm.still,Y.held.calm.os,Y.held.calm.out⟩,Y.held.seen,Y.held.Li⟩⟩;obtain⟨L,b,v,σ,b',v',ev,r0,z,r2,r3,j,E⟩:=ih _ w {w' with drawn:=w'.drawn+1} Z hW' hN hA';refine⟨w'.tape w'.drawn::L,b,v,σ,b',v',ev,λT d I=> ?_,by simp only[Sem.runT,hf',afI,ag6];exact z,r2,r3,?_,E⟩
   ·obtain⟨O,R⟩:=I
    have:=r0 T (d+1) R;simp only[Sem.run,hf',afI,ag6]
    rw[show(Zb.re T d w).tape (Zb.re T d w).drawn=w'.tape w'.drawn from O,ag4,Nat.add_comm L.length 1,<-Nat.add_assoc]
    exact this
   ·exact⟨j.le,j.new,j.all,j.grow,j.grow',j.keep,j.keep',j.chan,j.Tk,j.undef,j.os,j.os',j.tape',j.output'⟩
 |GA ρ q k s' hq hk ih=>
  intro w w' Z Y hN p
  have hA':qQ Q (k (q.cut 0)) w:=λT d=>by
   have hs:=O8 (Q:=Q) q k hq (λ_=>0) T d w;cases J:(k (q.cut 0)).run Q (Zb.re T d w)with
   |ok a u=>exact .inl ⟨a,u,rfl⟩
   |halt a u=>
    simp only[J]at hs;obtain⟨b,v,C⟩|⟨g,v,C⟩:=p (first (λ_=>0) T d) 0
    ·rw[C]at hs;exact hs.elim
    ·rw[C]at hs;exact .inr ⟨g,u,by rw[hs.1]⟩
  obtain⟨L,b,v,σ,b',v',ev,r0,z,r2,r3,j,E⟩:=ih (q.cut 0) w w' Z Y hN hA';refine⟨(λ_=>0)::L,b,v,σ,b',v',ev,λT d I=> ?_,z,r2,r3,j,E⟩;obtain⟨O,R⟩:=I;have:=r0 T (d+1) R;simp only[Sem.run,hq,afI,ag6]
  rw[show(Zb.re T d w).tape (Zb.re T d w).drawn=λ_=>0 from O,ag4,Nat.add_comm L.length 1,<-Nat.add_assoc]
  exact this
 |program ρ k k' hk ih=>
  intro w w' Z Y hN p;exact ih w w' Z Y hN p
 |mark ρ m k k' hm hk ih=>
  intro w w' Z Y hN p;obtain⟨L,b,v,σ,b',v',ev,r0,z,r2,r3,j,E⟩:=ih w w' (Z.push ⟨.mark m,false,true⟩) Y hN p;refine⟨L,b,v,σ,b',v',#[⟨.mark m,false,true⟩]++ev,r0,by simp only[Sem.runT];rw[z];simp[<-Array.append_assoc],r2,r3,j,λy B=> ?_⟩;obtain B|B:=agO.1 B
  ·obtain rfl:y=⟨.mark m,false,true⟩:=by simpa using B
   exact⟨hm,rfl,rfl⟩
  ·exact E y B
 |bij ρ s s' _ ih=>
  intro w w' Z Y hN p;exact ih ⟨Y.left,Y.right,Y.low⟩ w w' Z Y hN p
 |dead ρ s s' h=>
  intro w w' Z Y hN p
  exfalso
  obtain⟨b,v,C⟩|⟨g,u,C⟩:=p w.tape w.drawn
  ·exact h.no _ b v C
  ·exact h.init _ g u hN C
theorem aG.fV(ht:P.toTables=Q.toTables){α X:Type}{F}{s:Sem α}{O:Sem X}(h:aG A Q P F ρ s O):
  ∀w w',WR A Q.globals.size ρ w w'->aS w->∀x u,s.run Q w=.halt x u->aS u:=by
 induction h with
 |pure ρ a a' hF=>simp
 |load ρ a a' k D E C j=>
  intro w w' d g x u e;simp only[Sem.run]at e;cases J:w.cell? a with
  |some y=>
   rw[J]at e
   obtain⟨Y,e',M⟩:=d.cells E J;exact j y Y M w w' d g x u e
  |none=>
   rw[J]at e
   cases I:w.farLoad Q a (Mode.plain==.atomic)with
   |error z=>grind
   |ok z=>
    obtain⟨y,l⟩:=z;simp only[I]at e;obtain⟨Y,l',hf',M,hl⟩:=d.far ht E _ I;exact j y Y M w w' d g x u e
 |store ρ a a' v v' k D E hv C j=>
  intro w w' d g x u e
  by_cases S:∃K,v=.agg K
  ·grind[Sem.run]
  by_cases R:∃K,v=.tuple K
  ·grind[Sem.run]
  rw[Sem.run.eq_5 Q w .plain a v k (λK e=>S ⟨K,e⟩) (λK e=>R ⟨K,e⟩)]at e
  cases J:w.cell? a with
  |some y=>
   simp only[J]at e
   by_cases I:w.frozen? a=true
   ·grind
   ·rw[afJ I]at e
    obtain⟨p,G⟩:=Ll d E J hv (by cases v<;>first|rfl|exact absurd ⟨_,rfl⟩ S|exact absurd ⟨_,rfl⟩ R);exact j _ _ p (G.noPending p g) x u e
  |none=>
   simp only[J]at e;cases I:w.farStore Q a v (Mode.plain==.atomic)with
   |error z=>grind
   |ok z=>
    obtain⟨w1,l⟩:=z;simp only[I]at e;obtain⟨Z,l',hf',U,hM1,_⟩:=d.farStore ht E _ hv I;exact j w1 Z U (hM1.noPending U g) x u e
 |new ρ o o' L k D ho T C j=>
  intro w w' d g x u e;obtain⟨p,G⟩:=O7 d T ho;exact j _ w.heap.size w'.heap.size G.le (.inr ⟨rfl,rfl,rfl⟩) _ _ p (G.noPending p g) x u e
 |shape ρ r W L k D B C j=>intro w w' d g x u e;exact j _ w w' d g x u e
 |Dm ρ r c k O B C j=>
  intro w w' d g x u e;obtain⟨y,M⟩:=d.Dm B;simp only[Sem.run,M]at e;exact j y w w' d g x u e
 |freeze ρ a a' n k D E C j=>
  intro w w' d g x u e;obtain⟨p,G⟩:=JE d E n;exact j _ _ p (G.noPending p g) x u e
 |frozen ρ a a' k D E C j=>intro w w' d g x u e;exact j _ w w' d g x u e
 |getObj ρ r W L k D B C j=>
  intro w w' d g x u e;obtain⟨o,o',h1,h2,V,h4⟩:=d.obj r W L B;simp only[Sem.run,h1]at e
  cases o<;>first
   |(cases e;exact g)
   |exact j _ o' V h4 w w' d g x u e
 |setObj ρ r W L o o' k D B hc T ho C j=>
  intro w w' d g x u e;obtain⟨o1,o1',h1,h2,V,h4⟩:=d.obj r W L B;simp only[Sem.run,h1]at e
  by_cases H:L=.cells
  ·subst H
   cases o1 with
   |cells c t f=>grind
   |_=>simp[kindOf]at V
  ·have hoc:∀c t f,o≠.cells c t f:=λc t f e=>by subst e;simp[kindOf]at T;exact H T.symm
   obtain⟨p,G⟩:=Dn d B T hc ho (λi y ei M=>by
    obtain⟨l1,l2⟩:=d.lt B;unfold World.cell? at ei;simp only[afO l1]at ei;cases o with
    |cells c t f=>grind
    |_=>simp at ei)
   cases o1<;>first
    |exact j _ _ p (G.noPending p g) x u e
    |(simp[kindOf]at V;exact absurd V.symm H)
 |choose ρ q k D C j=>
  intro w w' d g x u e;simp only[Sem.run]at e
  split at e
  ·grind
  ·exact zt
 |GA ρ q k O hq C j=>
  intro w w' d g x u e;simp only[Sem.run,hq,afI,ag6]at e;exact zt
 |program ρ k D C j=>intro w w' d g x u e;exact j w w' d g x u e
 |mark ρ m k D hm C j=>intro w w' d g x u e;exact j w w' d g x u e
 |bij ρ s O _ j=>intro w w' d g x u e;exact j ⟨d.left,d.right,d.low⟩ w w' d g x u e
 |dead ρ s O h=>intro w w' d g x u e;exact h.halt w x u g e
end
end
end Go.Proofs.Zb
