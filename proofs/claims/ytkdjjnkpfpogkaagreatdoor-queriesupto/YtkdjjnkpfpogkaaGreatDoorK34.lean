import Derived.Test.YtkdjjnkpfpogkaaGreatDoorK33
set_option maxHeartbeats 8000000
set_option linter.all false
set_option maxRecDepth 20000
namespace Go
theorem aih{P:Prop}(h:P:=by go_enter aiI,ntmps201;go_wp2_with (first|(go_at_call 244;refine(a _).ai ?_;intro w1 hb1;obtain⟨⟨q0,q1,q2,f0,f1,f2,ql⟩,hbel⟩:=fE _ _ _ _ _ _ hb1));refine abt (v:=.tuple #[.agg #[.slice none 0 0,.slice none 0 0,.string ⟨#[]⟩],.int .i64 2]) (by simp[results,results201,go_sem,q0,q1,q2]) rfl ⟨rfl,?_⟩;exact cK hbel (afA _) _ _ _):P:=h
def aia{P:Prop}(h:P:=by simp[results,results201,go_sem,q0,q1,q2]):P:=h
def aqI{P:Prop}(h:P:=by
 go_enter aiJ,ntmps252;go_wp2_with (first|(go_at_call 166;refine(d _).aH ?_))
 go_end0
 exact⟨rfl,D,HM⟩):P:=h
def aqS{P:Prop}(h:P:=by
 go_enter aiJ,ntmps252;go_wp2_with (first|(go_at_call 166;refine(d _).aH ?_)|(go_at_call 167;refine(Y _).aH ?_))
 go_end0
 exact⟨rfl,D,HM⟩):P:=h
def aqT{P:Prop}(h:P:=by
 go_end0
 exact⟨rfl,D.setCell (p:=⟨b,768,none⟩) (afA b) _,HM.Qr⟩):P:=h
end Go
namespace Go.Proofs.Zq
open Tryz
open Go.RowKit
open Rl
def il(E:Int):Ending:=.returned (.tuple #[.agg #[.slice none 0 0,.slice none 0 0,.string ⟨#[]⟩],.int .i64 E])
def fE(w d)(a b c)(T)(e:Below (w.alloc (.cells #[a,b,c] T)).heap.size (w.alloc (.cells #[a,b,c] T)) d):Di d w.heap.size a b c/\ah' w d:=
 ⟨(lU w a b c T).later e,af ((a0n _ _).alloc (afA _) _) e (by simp)⟩
def a2F(m)(w)(f:m.size<=maxLen)(h:rM m=false):
  ai3 201 #[.string m] w λe d=>e=il 2/\ah' w d:=by
 have a:=λw=>Qg m w f
 unfold rM at h
 rw[agA]at h
 generalize Vj m.data.toList=E at*;generalize Vh m.data.toList=N at*;generalize Vi m.data.toList=K at*;unfold il
 by_cases b:E=0
 ·by_cases c:N=m.size
  ·have j:(K != 2)=true:=by rw[agF];intro e;exact h ⟨b,c,e⟩
   subst b;subst c;exact aih
  ·have g:(N != (m.size:Int))=true:=by rw[agF];exact c
   subst b;exact aih
 ·have i:(E != 0)=true:=by rw[agF];exact b
  exact aih
def a2G(m)(w)(u:19<=m.size)(hm:m.size<=1048576)(j:∀w,ai9 244 #[.string m] w (.tuple #[.int .i64 m.size,.int .i64 2,.int .i64 0]))(n:∀w,ai3 245 #[.string (m.extract 19 m.size)] w λe w'=>(∃a b c,e=.returned (.tuple #[a,b,c,.bool false]))/\ah' w w'):
  ai3 201 #[.string m] w λe w'=>e=il 3/\ah' w w':=by
 have hx:(19:Int)<=(m.size:Int):=by omega
 unfold il;go_enter aiI,ntmps201;go_wp2_with (first|(go_at_call 244;refine(j _).ai ?_;intro w1 H;obtain⟨r,D⟩:=fE _ _ _ _ _ _ H)|(go_at_call 245;refine(n _).mono ?_;rintro e w2 ⟨⟨F,E,y,rfl⟩,V⟩;have d:=af D V D.size;obtain⟨q0,q1,q2,f0,f1,f2,ql⟩:=r.later V));refine abt (v:=.tuple #[.agg #[.slice none 0 0,.slice none 0 0,.string ⟨#[]⟩],.int .i64 3]) aia rfl ⟨rfl,?_⟩;exact cK d (afA _) _ _ _
def a8Z(m G K C)(w)(u:19<=m.size)(hm:m.size<=1048576)(y:G.size<=m.size)(_hK:K.size<=m.size)(_hC:C.size<=m.size)(j:∀w,ai9 244 #[.string m] w (.tuple #[.int .i64 m.size,.int .i64 2,.int .i64 0]))(n:∀w,ai9 245 #[.string (m.extract 19 m.size)] w (.tuple #[.string G,.string K,.string C,.bool true]))(hg:dz G=none):
  ai3 201 #[.string m] w λe w'=>e=il 3/\ah' w w':=by
 have hx:(19:Int)<=(m.size:Int):=by omega
 have I:=λw=>a9S G w (by omega) hg
 unfold il;go_enter aiI,ntmps201;go_wp2_with (first|(go_at_call 244;refine(j _).ai ?_;intro w1 H;obtain⟨r,D⟩:=fE _ _ _ _ _ _ H)|(go_at_call 245;refine(n _).ai ?_;intro w2 V;have p:=r.later V;have d:=af D V D.size)|(go_at_call_of 246 (G);refine(I _).ai ?_;intro L q;have i:=af d q d.size;obtain⟨q0,q1,q2,f0,f1,f2,ql⟩:=p.later q));refine abt (v:=.tuple #[.agg #[.slice none 0 0,.slice none 0 0,.string ⟨#[]⟩],.int .i64 3]) aia rfl ⟨rfl,?_⟩;exact cK i (afA _) _ _ _
def a8'(m G K C)(w)(E:19<=m.size)(hm:m.size<=1048576)(F:G.size<=m.size)(_hK:K.size<=m.size)(J:C.size<=m.size)(j:∀w,ai9 244 #[.string m] w (.tuple #[.int .i64 m.size,.int .i64 2,.int .i64 0]))(n:∀w,ai9 245 #[.string (m.extract 19 m.size)] w (.tuple #[.string G,.string K,.string C,.bool true]))(g)(hg:dz G=some g)(M:dz C=none):
  ai3 201 #[.string m] w λe w'=>e=il 3/\ah' w w':=by
 have hx:(19:Int)<=(m.size:Int):=by omega
 have I:=λw=>yS G g w (by omega) hg
 have hr2:=λw=>a9S C w (by omega) M
 unfold il;go_enter aiI,ntmps201;go_wp2_with (first|(go_at_call 244;refine(j _).ai ?_;intro w1 H;obtain⟨r,D⟩:=fE _ _ _ _ _ _ H)|(go_at_call 245;refine(n _).ai ?_;intro w2 V;have p:=r.later V;have d:=af D V D.size)|(go_at_call_of 246 (G);refine(I _).mono ?_;rintro e L ⟨a1,c1,rfl,q,N,y⟩;have i:=af d q d.size;have u:=p.later q)|(go_at_call_of 246 (C);refine(hr2 _).ai ?_;intro w4 X;have c:=af i X i.size;obtain⟨q0,q1,q2,f0,f1,f2,ql⟩:=u.later X));refine abt (v:=.tuple #[.agg #[.slice none 0 0,.slice none 0 0,.string ⟨#[]⟩],.int .i64 3]) aia rfl ⟨rfl,?_⟩;exact cK c (afA _) _ _ _
def ab4(m G K C)(w)(J:19<=m.size)(hm:m.size<=1048576)(O:G.size<=m.size)(y:K.size<=m.size)(Q:C.size<=m.size)(j:∀w,ai9 244 #[.string m] w (.tuple #[.int .i64 m.size,.int .i64 2,.int .i64 0]))(n:∀w,ai9 245 #[.string (m.extract 19 m.size)] w (.tuple #[.string G,.string K,.string C,.bool true]))(g a)(hg:dz G=some g)(M:dz C=some a)(R:qc K=none):
  ai3 201 #[.string m] w λe w'=>e=il 3/\ah' w w':=by
 have hx:(19:Int)<=(m.size:Int):=by omega
 have I:=λw=>yS G g w (by omega) hg
 have hr2:=λw=>yS C a w (by omega) M
 have A:=λw=>acI K w (by omega) R
 unfold il;go_enter aiI,ntmps201;go_wp2_with (first|(go_at_call 244;refine(j _).ai ?_;intro w1 H;obtain⟨r,D⟩:=fE _ _ _ _ _ _ H)|(go_at_call 245;refine(n _).ai ?_;intro w2 V;have p:=r.later V;have d:=af D V D.size)|(go_at_call_of 246 (G);refine(I _).mono ?_;rintro e L ⟨a1,c1,rfl,q,N,F⟩;have i:=af d q d.size;have u:=p.later q)|(go_at_call_of 246 (C);refine(hr2 _).mono ?_;rintro e w4 ⟨a2,c2,rfl,X,ho2,E⟩;have c:=af i X i.size;have z:=u.later X)|(go_at_call 247;refine(A _).ai ?_;intro w5 W;have o:=af c W c.size;obtain⟨q0,q1,q2,f0,f1,f2,ql⟩:=z.later W));refine abt (v:=.tuple #[.agg #[.slice none 0 0,.slice none 0 0,.string ⟨#[]⟩],.int .i64 3]) aia rfl ⟨rfl,?_⟩;exact cK o (afA _) _ _ _
def Di.below{w f}{B n}{a b c}(h:Di w n a b c)(d:Below B w f)(e:n<B):Di f n a b c:=
 ⟨(d.cell (p:=⟨n,0,none⟩) e).trans h.c0,(d.cell (p:=⟨n,1,none⟩) e).trans h.c1,(d.cell (p:=⟨n,2,none⟩) e).trans h.c2,(d.frozen (p:=⟨n,0,none⟩) e).trans h.f0,(d.frozen (p:=⟨n,1,none⟩) e).trans h.f1,(d.frozen (p:=⟨n,2,none⟩) e).trans h.f2,afB h.lt d.size⟩
def Ef{w:World}{B b n}{e}{a}{v}{c}(h:w.ownsRow B e a v n c)(g:b<B)(x y z):(((w.setCell ⟨b,0,none⟩ x).setCell ⟨b,1,none⟩ y).setCell ⟨b,2,none⟩ z).ownsRow b e a v n c:=by
 have d:v.ownBlock≠some b:=by intro f;have:=(h.lt b f).1;omega
 grind[Jj,vU,Nat.le_of_lt]
def xV(v):Apart v (.slice none 0 0):=by intro k _ h;simp[Value.ownBlock]at h
def a6f(m G K C)(w)(h19:19<=m.size)(hm:m.size<=200)(hG:G.size<=m.size)(y:K.size<=m.size)(hC:C.size<=m.size)(j:∀w,ai9 244 #[.string m] w (.tuple #[.int .i64 m.size,.int .i64 2,.int .i64 0]))(n:∀w,ai9 245 #[.string (m.extract 19 m.size)] w (.tuple #[.string G,.string K,.string C,.bool true]))(g)(l)(sp)(hg:dz G=some g)(M:dz C=some [])(R:qc K=some (l,sp)):
  ai3 201 #[.string m] w λe w'=>∃v1 v2,e=.returned (.tuple #[.agg #[v1,v2,.string ⟨([]:List UInt8).toArray⟩],.int .i64 0])/\ah' w w'/\w'.ownsRow w.heap.size 113 2 v1 (g).length (bO (g))/\w'.ownsRow w.heap.size 113 2 v2 ([]:List (Int×Int)).length (bO ([]:List (Int×Int)))/\Apart v1 v2:=by
 have hx:(19:Int)<=(m.size:Int):=by omega
 have I:=λw=>yS G g w (by omega) hg
 have hr2:=λw=>yS C [] w (by omega) M
 simp only[age]at hr2;have A:=λw=>YH K l sp w (by omega) R
 go_enter aiI,ntmps201;go_wp2_with (first|(go_at_call 244;refine(j _).ai ?_;intro w1 H;obtain⟨r,D⟩:=fE _ _ _ _ _ _ H)|(go_at_call 245;refine(n _).ai ?_;intro w2 V;have p:=r.later V;have d:=af D V D.size)|(go_at_call_of 246 (G);refine(I _).mono ?_;rintro e L ⟨a1,c1,rfl,q,N,Z⟩;have i:=af d q d.size;have u:=p.later q)|(go_at_call_of 246 (C);refine(hr2 _).mono ?_;rintro e w4 ⟨a2,c2,rfl,X,ho2,Y⟩;have c:=af i X i.size;have z:=u.later X)|(go_at_call 247;refine(A _).mono ?_;rintro e w5 ⟨v3,S,rfl,W,hp,hby,O,Q,U⟩;have o:=af c W c.size;have J:=z.later W)|(go_at_call 248;refine(VC v3 sp a1 a2 g.length c1 c2 _).ai ?_;intro w6 E;have F:=af o E o.size;obtain⟨q0,q1,q2,f0,f1,f2,ql⟩:=J.later E));refine abt (v:=.tuple #[.agg #[.slice a1 g.length c1,.slice none 0 0,.string ⟨#[]⟩],.int .i64 0]) aia rfl ⟨_,_,rfl,cK F (afA _) _ _ _,?_,?_,?_⟩
 ·exact uC
 ·exact o9
 ·exact xV _
def a90(m G K C)(w)(h19:19<=m.size)(hm:m.size<=200)(hG:G.size<=m.size)(y:K.size<=m.size)(hC:C.size<=m.size)(j:∀w,ai9 244 #[.string m] w (.tuple #[.int .i64 m.size,.int .i64 2,.int .i64 0]))(n:∀w,ai9 245 #[.string (m.extract 19 m.size)] w (.tuple #[.string G,.string K,.string C,.bool true]))(g a)(l)(sp)(hg:dz G=some g)(M:dz C=some a)(R:qc K=some (l,sp))(J:a.length≠0)(Y:sp=true\/eY l≠3):
  ai3 201 #[.string m] w λe w'=>∃v1 v2,e=.returned (.tuple #[.agg #[v1,v2,.string ⟨([]:List UInt8).toArray⟩],.int .i64 0])/\ah' w w'/\w'.ownsRow w.heap.size 113 2 v1 (g++a).length (bO (g++a))/\w'.ownsRow w.heap.size 113 2 v2 ([]:List (Int×Int)).length (bO ([]:List (Int×Int)))/\Apart v1 v2:=by
 have hx:(19:Int)<=(m.size:Int):=by omega
 have I:=λw=>yS G g w (by omega) hg
 have hr2:=λw=>yS C a w (by omega) M
 have A:=λw=>YH K l sp w (by omega) R
 go_enter aiI,ntmps201;go_wp2_with (first|(go_at_call 244;refine(j _).ai ?_;intro w1 H;obtain⟨r,D⟩:=fE _ _ _ _ _ _ H)|(go_at_call 245;refine(n _).ai ?_;intro w2 V;have p:=r.later V;have d:=af D V D.size)|(go_at_call_of 246 (G);refine(I _).mono ?_;rintro e L ⟨a1,c1,rfl,q,N,hl1⟩;have i:=af d q d.size;have u:=p.later q)|(go_at_call_of 246 (C);refine(hr2 _).mono ?_;rintro e w4 ⟨a2,c2,rfl,X,ho2,hl2⟩;have c:=af i X i.size;have z:=u.later X)|(go_at_call 247;refine(A _).mono ?_;rintro e w5 ⟨v3,S,rfl,W,Z,hby,O,acH,hll⟩;have o:=af c W c.size;have U:=z.later W)|(go_at_call 248;refine(YG w2.heap.size v3 sp a1 a2 g.length c1 a.length c2 g a S _ J (by rw[Nq Z];exact Y) (afC q.size (afC X.size W.size)) O (by rw[Z.length_eq];omega) (bu (bu N X) W) (aM (bu ho2 W)) (by omega)).mono ?_;rintro e w6 ⟨v6,rfl,Q,E⟩;obtain⟨a6,c6,rfl⟩:=fO Q;have F:=o.trans (E.mono (Nat.le_of_lt (afB r.lt V.size)));obtain⟨q0,q1,q2,f0,f1,f2,ql⟩:=U.below E (afB r.lt V.size)));refine abt (v:=.tuple #[.agg #[.slice a6 (g.length+a.length) c6,.slice none 0 0,.string ⟨#[]⟩],.int .i64 0]) aia rfl ⟨_,_,rfl,cK F (afA _) _ _ _,?_,?_,?_⟩
 ·rw[afE]
  exact Ef Q (afB r.lt V.size) _ _ _
 ·exact o9
 ·exact xV _
def a6g{l a:List At}{m}(b:a.Perm l)(d:Lc m (λ_=>true) l)(f:l.length<=m)(e:m<=200):(a.flatMap uT).length<=140737488355328:=by
 have h:=a6c a m (λx c=>(d.fine x (b.mem_iff.1 c)).2.2)
 rw[b.length_eq]at h
 have g:l.length*(m+4)<=200*204:=Nat.mul_le_mul (by omega) (by omega);omega
def a6h(m G K C)(w)(h19:19<=m.size)(hm:m.size<=200)(hG:G.size<=m.size)(y:K.size<=m.size)(hC:C.size<=m.size)(j:∀w,ai9 244 #[.string m] w (.tuple #[.int .i64 m.size,.int .i64 2,.int .i64 0]))(n:∀w,ai9 245 #[.string (m.extract 19 m.size)] w (.tuple #[.string G,.string K,.string C,.bool true]))(g a)(l)(hg:dz G=some g)(M:dz C=some a)(R:qc K=some (l,false))(J:a.length≠0)(hn:eY l=3):
  ai3 201 #[.string m] w λe w'=>∃v1 v2,e=.returned (.tuple #[.agg #[v1,v2,.string ⟨(mW l 256).toArray⟩],.int .i64 0])/\ah' w w'/\w'.ownsRow w.heap.size 113 2 v1 (g).length (bO (g))/\w'.ownsRow w.heap.size 113 2 v2 (a).length (bO (a))/\Apart v1 v2:=by
 have hx:(19:Int)<=(m.size:Int):=by omega
 have I:=λw=>yS G g w (by omega) hg
 have hr2:=λw=>yS C a w (by omega) M
 have A:=λw=>YH K l false w (by omega) R
 go_enter aiI,ntmps201;go_wp2_with (first|(go_at_call 244;refine(j _).ai ?_;intro w1 H;obtain⟨r,D⟩:=fE _ _ _ _ _ _ H)|(go_at_call 245;refine(n _).ai ?_;intro w2 V;have p:=r.later V;have d:=af D V D.size)|(go_at_call_of 246 (G);refine(I _).mono ?_;rintro e L ⟨a1,c1,rfl,q,N,hl1⟩;have i:=af d q d.size;have u:=p.later q)|(go_at_call_of 246 (C);refine(hr2 _).mono ?_;rintro e w4 ⟨a2,c2,rfl,X,ho2,hl2⟩;have c:=af i X i.size;have z:=u.later X)|(go_at_call 247;refine(A _).mono ?_;rintro e w5 ⟨v3,S,rfl,W,U,hby,Q,F,hll⟩;have o:=af c W c.size;have Y:=z.later W)|(go_at_call 248;refine(VD v3 a1 a2 g.length c1 a.length c2 S _ J (by rw[Nq U];exact hn) Q (by rw[U.length_eq];omega) (λx hx=>by obtain⟨y1,y2,y3⟩:=F.fine x (U.mem_iff.1 hx);exact⟨y1,y2,by omega⟩) (a6g U F hll (by omega))).ai ?_;intro w6 E;have O:=af o E o.size;obtain⟨q0,q1,q2,f0,f1,f2,ql⟩:=Y.later E;have Z:=Ig U F.once hby (λx hx=>(F.fine x hx).2.1);rw[Z]));refine abt (v:=.tuple #[.agg #[.slice a1 g.length c1,.slice a2 a.length c2,.string ⟨(mW l 256).toArray⟩],.int .i64 0]) aia rfl ⟨_,_,rfl,cK O (afA _) _ _ _,?_,?_,?_⟩
 ·exact uC
 ·exact Cf
 ·intro k hk1 hk2
  have h1:=(N.lt k hk1).2;have h2:=(ho2.lt k hk2).1;omega
def Gs(m)(h:rM m=true):19<=m.size/\m.size<=200/\Vj m.data.toList=0/\Vh m.data.toList=m.size/\Vi m.data.toList=2:=by grind[rM,marked,D6,Nf,gY,Ng,Sc,Vk]
def aqD(u:Upd)(w:World)(e:Ending)(a:World):Prop:=
 ∃c b,e=.returned (.tuple #[.agg #[c,b,.string ⟨u.text.toArray⟩],.int .i64 u.err])/\ah' w a/\a.ownsRow w.heap.size 113 2 c u.gone.length (bO u.gone)/\a.ownsRow w.heap.size 113 2 b u.come.length (bO u.come)/\Apart c b
def eD{E}{w a}{e}(h:e=il E/\ah' w a):aqD ⟨E,[],[],[]⟩ w e a:=
 ⟨.slice none 0 0,.slice none 0 0,h.1,h.2,a9X _ _ _ _,a9X _ _ _ _,xV _⟩
def EI(c):(fo c).size<=c.size/\(fo (bA c)).size<=c.size/\(bA (bA c)).size<=c.size:=by grind[Gm,bA,fo,afU]
def Nz(m)(w)(hm:m.size<=maxLen):
  ai3 201 #[.string m] w λe w'=>aqD (upd m) w e w':=by
 cases hf:rM m with
 |false=>
  have hu:upd m=⟨2,[],[],[]⟩:=by unfold upd;rw[afJ (by simp[hf])]
  rw[hu]
  exact(a2F m w hm hf).mono λe w' h=>eD h
 |true=>
  have hu:upd m=sK (m.extract 19 m.size):=by unfold upd;rw[afN hf]
  rw[hu]
  obtain⟨d,u,Z,hN,y⟩:=Gs m hf;have j:=λw=>Qg m w hm
  rw[Z,hN,y]at j
  have I:(m.extract 19 m.size).size<=m.size:=aQ
  have L:(m.extract 19 m.size).size<=maxLen:=afC I hm;obtain⟨W,V,X⟩:=EI (m.extract 19 m.size);have F:m.size<=1048576:=by omega
  unfold sK;cases U:rJ (m.extract 19 m.size)with
  |false=>
   rw[afJ (by simp)]
   have n:∀w,ai3 245 #[.string (m.extract 19 m.size)] w λe w'=>(∃a b c:Value,e=.returned (.tuple #[a,b,c,.bool false]))/\ah' w w':=by
    intro w;cases h1:wR (m.extract 19 m.size)with
    |false=>exact(a2A _ w L h1).mono λe w' h=>⟨⟨_,_,_,h.1⟩,h.2⟩
    |true=>
     have h2:wR (bA (m.extract 19 m.size))=false:=by unfold rJ at U;rw[h1]at U;simpa using U
     exact(a2B _ w L h1 h2).mono λe w' h=>⟨⟨_,_,_,h.1⟩,h.2⟩
   exact(a2G m w d F j n).mono λe w' h=>eD h
  |true=>
   rw[afN rfl]
   have E:=U;unfold rJ at E
   rw[afQ]at E
   have n:=λw=>a2C (m.extract 19 m.size) w L E.1 E.2
   have O:=afC W I;have N:=afC V I;have Q:=afC X I;cases hg:dz (fo (m.extract 19 m.size))with
   |none=>exact(a8Z m _ _ _ w d F O N Q j n hg).mono λe w' h=>eD h
   |some g=>
    cases M:dz (bA (bA (m.extract 19 m.size)))with
    |none=>exact(a8' m _ _ _ w d F O N Q j n g hg M).mono λe w' h=>eD h
    |some a=>
     cases R:qc (fo (bA (m.extract 19 m.size)))with
     |none=>exact(ab4 m _ _ _ w d F O N Q j n g a hg M R).mono λe w' h=>eD h
     |some p=>
      obtain⟨l,sp⟩:=p;simp only;unfold EG
      by_cases J:a.length=0
      ·rw[afN J]
       have Y:a=[]:=afT J;subst Y
       exact(a6f m _ _ _ w d u O N Q j n g l sp hg M R).mono λe w' h=>h
      ·rw[afJ J]
       by_cases hb:sp=true\/eY l≠3
       ·rw[afN hb]
        exact(a90 m _ _ _ w d u O N Q j n g a l sp hg M R J hb).mono λe w' h=>h
       ·rw[afJ hb]
        have hs:sp=false:=by cases sp<;>simp_all
        have hn:eY l=3:=by by_cases e:eY l=3;exact e;exact absurd (Or.inr e) hb
        subst hs
        exact(a6h m _ _ _ w d u O N Q j n g a l hg M R J hn).mono λe w' h=>h
def a6i(x m k)(h:m<=k):x*256^(k-m)*256=x*256^(k+1-m):=by rw[show k+1-m=(k-m)+1 from by omega,Nat.pow_succ,Nat.mul_assoc]
def a2H(x m k)(b:m<=k)(c:k<=4)(a:x<256^m):x*256^(k-m)<=4294967295:=by
 have e:m=0\/m=1\/m=2\/m=3\/m=4:=by omega
 have d:k=0\/k=1\/k=2\/k=3\/k=4:=by omega
 grind
def a6j(a n:Nat)(h:a<=4294967295):wrap64 ((a:Int)-(a:Int)%gap n)=(a:Int)-(a:Int)%gap n:=by
 have b:=ED n;have f:=Int.emod_nonneg (a:Int) (Int.ne_of_gt b)
 have d:(a:Int)%gap n<=a:=by have e:=Int.emod_add_mul_ediv (a:Int) (gap n);have c:0<=gap n*((a:Int)/gap n):=Int.mul_nonneg (Int.le_of_lt b) (Int.ediv_nonneg (by omega) (Int.le_of_lt b));omega
 grind[lh]
def a2I(n:Nat)(h:n<=32):¬gap (n:Int)=0/\wrap64 ((2:Int)^(32-n))=gap (n:Int):=by
 have b:=ED n;have a:=Sb n (by omega)
 grind[gap,Int.ne_of_gt,lh]
theorem Ik(s)(w)(hs:s.size<=1048576):
  ai3 211 #[.string s] w λe w'=>∃v,e=.returned (.tuple #[v,.bool (dz s).isSome])/\ah' w w'/\(∀l,dz s=some l->w'.ownsRow w.heap.size 113 2 v l.length (bO l)/\l.length<=s.size)/\(dz s=none->v=.slice none 0 0):=by
 obtain⟨i0,hi,hz0,hz1,hz2⟩:=ahC Ib;go_enter am7,ntmps211;go_wp2
 go_loopw [0,4] (λx l wr=>∃(t:ByteArray)(C:List (Int×Int))(E:Value),E=l/\x=.string t/\t.size+C.length<=s.size/\Ec s C t/\wr.ownsRow w.heap.size 113 2 E C.length (bO C)/\ah' w wr) (λx _ _=>pU x)
 case atStart=>exact⟨s,[],_,rfl,rfl,by simp,Kc s,a9X _ _ _ _,a0n _ _⟩
 case round=>
  obtain⟨t,C,E,rfl,rfl,hsz,I,F,D⟩:=hrel;have HR:=I;clear I
  by_cases J:t.size=0
  ·exact aqR
  ·have M:t.toList.isEmpty=false:=by rw[dF];simp[J]
   have hp:0<t.size:=by omega
   have K:=dD t 0 hp;have hn:=a6a t;have hx0:(0:Int)<(t.size:Int):=by omega
   have htm:t.size<=1048576:=by omega
   by_cases N:sI t
   ·have HB:=hide (Qq _ _ _ J N HR)
    unfold sI many at N;unfold qM at*;generalize at8 t.data.toList 0=n at*;clear J
    by_cases h32:32<n
    ·clear N
     go_wp2;exact uw
    ·have Q:t.size<1+(n+7)/8:=by omega
     clear N;go_wp2;exact uw
   ·have U:=hide (Nw _ _ _ J N HR)
    unfold sI at N;have d:=a6b t (by omega);have W:=Nv t;have hN:=Gp t;have Y:=sJ t;have R:=Hw (qM t) (by omega);have I:=λw=>kF (t.extract 1 (1+many (qM t))) w (by have:=Hw (qM t) (by omega);exact aQ)
    rw[<-hN]at I
    obtain⟨L,X⟩:∃L,L=Gn t:=⟨_,rfl⟩;obtain⟨tl,O⟩:∃tl,tl=vV t:=⟨_,rfl⟩
    rw[<-X,<-O]at U
    rw[<-O]at Y
    have EH:=hide X;have ET:=hide O;clear X O J hN;have V:t.extract (1+many (qM t)) t.size=tl:=ET.out.symm;have hhd:L=((Sq t:Int)-(Sq t:Int)%gap (qM t),(qM t:Int)):=EH.out;have hv:Hid (rdNum t*256^(4-many (qM t))=Sq t):=rfl;subst hhd;clear EH ET;unfold qM at*;have hg:=Qf (at8 t.data.toList 0:Int) (by omega);have hgp:=ED (at8 t.data.toList 0:Int);have hgl:=Sb (at8 t.data.toList 0:Int) (by omega);obtain⟨hz,hg2⟩:=a2I (at8 t.data.toList 0) (by omega);generalize rdNum t=x at*;generalize Sq t=a at*;generalize at8 t.data.toList 0=n at*;have HM:Hid (many n=(n+7)/8):=rfl
    rw[HM.out]at N Y R I V hv W
    go_wp2_with (go_at_call 124;refine(I _).aH ?_)
    go_loopw [7,8] (λq i wy=>∃k:Nat,(n+7)/8<=k/\k<=4/\i=.int .i64 k/\q=.int .i64 ((x*256^(k-(n+7)/8):Nat):Int)/\wy=wr) (λ_ i _=>4-(intOf i).toNat)
    case atStart=>exact⟨(n+7)/8,afA _,R,by go_num,by simp,rfl⟩
    case round=>
     obtain⟨k,hk0,hk1,rfl,rfl,rfl⟩:=hrel
     by_cases Z:k<4
     ·have hb:=a2H x ((n+7)/8) (k+1) (by omega) (by omega) W
      have o:=hide (a6i x ((n+7)/8) k hk0)
      rw[<-o.out]at hb
      generalize x*256^(k-(n+7)/8)=y at*;go_wp2;refine⟨⟨k+1,by omega,by omega,by go_num,?_,trivial⟩,aA⟩
      rw[<-o.out,Int.natCast_mul,Int.mul_comm];rfl
     ·have hk4:k=4:=by omega
      subst hk4
      rw[hv.out]
      obtain⟨y,ey⟩:∃y,y=(a:Int)-(a:Int)%gap n:=⟨_,rfl⟩
      rw[<-ey]at U
      have hy:wrap64 ((a:Int)-(a:Int)%gap n)=y:=(a6j a n d).trans ey.symm;clear W d hg hgl hk0 hk1 R ey;go_wp2_with (at_builtin;refine af4 _ rfl _ _ 114 rfl w.heap.size 113 i0 (.agg #[.int .i64 0,.int .i64 0]) 2 16 aiS hi hz0 hz1 hz2 rfl (by decide) _ _ _ rfl (F.alloc _) ⟨wr.heap.size,0,none⟩ 1 1 [.int .i64 y,.int .i64 (n:Int)] rfl rfl (cu _ _ _) ?c2 ?c3 ?c4 ?c5 ?_)
      case c2=>intro u hu;simp at hu;obtain rfl|rfl:=hu<;>rfl
      case c3=>unfold maxLen;omega
      case c4=>omega
      case c5=>have:=D.size;simp;omega
      intro v' w4 f b _;have c:=dX D D.size F b;clear b F D;go_wp2;clear hg2 hgp hz hy hv HM;have j:(t.extract (1+(n+7)/8) t.size).size<t.size:=by rw[V];omega
      refine⟨⟨tl,C++[(y,(n:Int))],v',rfl,congrArg Value.string V,by simp;omega,U.out,?_,c⟩,gB⟩
      rw[afE,H5]
      exact f
structure KeptAt(w:World)(b:Nat)(fl:Nat->Int)(vl:Nat->ByteArray)(sn:Nat->Bool)(sp en:Bool):Prop where
 flag:∀i,i<256->w.cell? ⟨b,i,none⟩=some (.int .i64 (fl i))
 val:∀i,i<256->w.cell? ⟨b,256+i,none⟩=some (.string (vl i))
 seen:∀i,i<256->w.cell? ⟨b,512+i,none⟩=some (.bool (sn i))
 spoilt:w.cell? ⟨b,768,none⟩=some (.bool sp)
 ends:w.cell? ⟨b,769,none⟩=some (.bool en)
 free:∀o,o<770->w.frozen? ⟨b,o,none⟩=false
 lt:b<w.heap.size
section
variable{w w':World}{b:Nat}{J:Nat->Int}{A:Nat->ByteArray}{I:Nat->Bool}{L O:Bool}
theorem KeptAt.block(h:KeptAt w b J A I L O)(c:w'.heap[b]? =w.heap[b]?)(e:b<w'.heap.size):KeptAt w' b J A I L O:=
 ⟨λi d=>(ahz (a:=⟨b,i,none⟩) c).trans (h.flag i d),λi d=>(ahz (a:=⟨b,256+i,none⟩) c).trans (h.val i d),λi d=>(ahz (a:=⟨b,512+i,none⟩) c).trans (h.seen i d),(ahz (a:=⟨b,768,none⟩) c).trans h.spoilt,(ahz (a:=⟨b,769,none⟩) c).trans h.ends,λo f=>(ahJ (a:=⟨b,o,none⟩) c).trans (h.free o f),e⟩
theorem KeptAt.later(h:KeptAt w b J A I L O)(a:ah' w w'):KeptAt w' b J A I L O:=
 h.block (a.block b h.lt) (afB h.lt a.size)
def put{a:Type}(f:Nat->a)(k:Nat)(x:a):Nat->a:=λi=>if i=k then x else f i
theorem Eg{b o a}(h:o≠a):(⟨b,o,none⟩:Addr)≠⟨b,a,none⟩:=by simp
theorem KeptAt.Sr(h:KeptAt w b J A I L O)(k)(d:k<256)(g):KeptAt (w.setCell ⟨b,k,none⟩ (.int .i64 g)) b (put J k g) A I L O:=by
 refine⟨λi a=> ?_,λi a=> ?_,λi a=> ?_,?_,?_,λo c=>lV,by simp;exact h.lt⟩
 ·unfold put
  by_cases e:i=k
  ·subst e;rw[aex _ _ _ (h.flag i a),afN rfl]
  ·rw[ahB _ _ _ _ (Eg (by omega)),afJ e];exact h.flag i a
 ·exact o6
 ·exact o5
 ·exact o7
 ·exact o8
theorem KeptAt.a6k(h:KeptAt w b J A I L O)(k)(d:k<256)(v):KeptAt (w.setCell ⟨b,256+k,none⟩ (.string v)) b J (put A k v) I L O:=by
 refine⟨λi a=> ?_,λi a=> ?_,λi a=> ?_,?_,?_,λo c=>lV,by simp;exact h.lt⟩
 ·exact oZ
 ·unfold put
  by_cases e:i=k
  ·subst e;rw[aex _ _ _ (h.val i a),afN rfl]
  ·rw[ahB _ _ _ _ (Eg (by omega)),afJ e];exact h.val i a
 ·exact o5
 ·exact o7
 ·exact o8
theorem KeptAt.a92(h:KeptAt w b J A I L O)(k)(d:k<256):KeptAt (w.setCell ⟨b,512+k,none⟩ (.bool true)) b J A (met I k) L O:=by
 refine⟨λi a=> ?_,λi a=> ?_,λi a=> ?_,?_,?_,λo c=>lV,by simp;exact h.lt⟩
 ·exact oZ
 ·exact o6
 ·by_cases e:i=k
  ·subst e;rw[aex _ _ _ (h.seen i a),D7]
  ·rw[ahB _ _ _ _ (Eg (by omega)),Qm _ _ _ e];exact h.seen i a
 ·exact o7
 ·exact o8
theorem KeptAt.Qr(h:KeptAt w b J A I L O):KeptAt (w.setCell ⟨b,768,none⟩ (.bool true)) b J A I true O:=by
 refine⟨λi a=> ?_,λi a=> ?_,λi a=> ?_,?_,?_,λo c=>lV,by simp;exact h.lt⟩
 ·exact oZ
 ·exact o6
 ·exact o5
 ·rw[aex _ _ _ h.spoilt]
 ·exact o8
theorem KeptAt.a94(h:KeptAt w b J A I L O):KeptAt (w.setCell ⟨b,769,none⟩ (.bool true)) b J A I L true:=by
 refine⟨λi a=> ?_,λi a=> ?_,λi a=> ?_,?_,?_,λo c=>lV,by simp;exact h.lt⟩
 ·exact oZ
 ·exact o6
 ·exact o5
 ·exact o7
 ·rw[aex _ _ _ h.ends]
end
def Taken(a:World)(b:Nat)(e:Nat->Int)(c:Nat->ByteArray)(d:Nat->Bool)(f h:Bool)(k:Nat)(v:ByteArray):Did->Prop
 | .keep g=>KeptAt a b (put e k (g:Int)) (put c k v) (met d k) f h
 | .pass=>KeptAt a b e c (met d k) f h
 | .Ia=>KeptAt a b e c (met d k) true h
 | .ends=>KeptAt a b e c (met d k) f true
def NA(b f k:Nat)(v)(w)(u)(d)(sn)(sp en)(y:KeptAt w b u d sn sp en)(R:k<256)(hs:sn k=true):
  ai3 252 #[.pointer (some ⟨b,0,none⟩),.int .i64 f,.int .i64 k,.string v] w λe w'=>e=.returned (.tuple #[])/\w'=w:=by
 have M:=y.seen k R
 rw[hs]at M
 have hl:=y.lt;go_enter aiJ,ntmps252;go_wp2
 (try simp only[Exit.inBlock,Exit.then]);refine abt (ahA rfl _ _ _) rfl ?_
 exact bG
def a2J(b f k:Nat)(v)(w)(V)(U)(sn)(sp en)(y:KeptAt w b V U sn sp en)(hf:f<256)(R:k<256)(Z:v.size<=maxLen)(hs:sn k=false):
  ai3 252 #[.pointer (some ⟨b,0,none⟩),.int .i64 f,.int .i64 k,.string v] w λe w'=>e=.returned (.tuple #[])/\Below b w w'/\Taken w' b V U sn sp en k v (kP f k v):=by
 have M:=y.seen k R
 rw[hs]at M
 have hl:=y.lt;have hfz:=y.free (512+k) (by omega);have HK:=hide y;have d:=λw=>Qh k w
 have c1:=y.flag k R;have c2:=y.val k R;have c3:=y.spoilt;have c4:=y.ends;have z1:=y.free k (by omega);have H:=y.free (256+k) (by omega);have z3:=y.free 768 (by omega);have z4:=y.free 769 (by omega);have HM:=y.a92 k R;have D:Below b w (w.setCell ⟨b,512+k,none⟩ (.bool true)):=(a0n b w).setCell (p:=⟨b,512+k,none⟩) (afA b) _;clear y;cases u:mV k with
 |true=>
  have Y:=λw=>Qk k v w Z u
  have hg:=aqC k u
  by_cases I:((f/64*64:Nat):Int)=ed k
  ·have X:((f:Int)/64*64 != ed k)=false:=by rw[agP];omega
   cases E:jf k v with
   |true=>
    have L:kP f k v=.keep (ed k).toNat:=by unfold kP;rw[afN u,afN ⟨I,E⟩]
    rw[L]
    rw[E]at Y
    obtain⟨g,W⟩:∃g:Nat,ed k=(g:Int):=⟨(ed k).toNat,by omega⟩
    rw[W]at d X |-
    rw[ah9]
    have F:(0:Int)<=(g:Int):=by omega
    clear I E L W u hg;go_enter aiJ,ntmps252;go_wp2_with (first|(go_at_call 166;refine(d _).aH ?_)|(go_at_call 167;refine(Y _).aH ?_))
    go_end0
    exact⟨rfl,(D.setCell (p:=⟨b,k,none⟩) (afA b) _).setCell (p:=⟨b,256+k,none⟩) (afA b) _,(HM.Sr k R g).a6k k R v⟩
   |false=>
    have L:kP f k v=if k=6\/k=7 then .pass else .Ia:=by unfold kP;rw[afN u,afJ (λh=>by rw[E]at h;exact absurd h.2 (by simp))]
    rw[E]at Y
    have F:0<=ed k:=by omega
    clear I E u hg;generalize ed k=g at*
    by_cases J:k=6
    ·rw[L,afN (.inl J)]
     have O:((k:Int) != 6)=false:=lW
     clear J L;exact aqS
    by_cases N:k=7
    ·rw[L,afN (.inr N)]
     have O:((k:Int) != 6)=true:=iI
     have Q:((k:Int) != 7)=false:=lW
     clear J N L;exact aqS
    rw[L,afJ (by omega)]
    have O:((k:Int) != 6)=true:=iI
    have Q:((k:Int) != 7)=true:=iI
    clear J N L;go_enter aiJ,ntmps252;go_wp2_with (first|(go_at_call 166;refine(d _).aH ?_)|(go_at_call 167;refine(Y _).aH ?_))
    exact aqT
  ·have X:((f:Int)/64*64 != ed k)=true:=by rw[agF];omega
   have L:kP f k v=if k=6\/k=7 then .pass else .Ia:=by unfold kP;rw[afN u,afJ (λh=>I h.1)]
   have F:0<=ed k:=by omega
   clear I u hg Y;generalize ed k=g at*
   by_cases J:k=6
   ·rw[L,afN (.inl J)]
    have O:((k:Int) != 6)=false:=lW
    clear J L;exact aqI
   by_cases N:k=7
   ·rw[L,afN (.inr N)]
    have O:((k:Int) != 6)=true:=iI
    have Q:((k:Int) != 7)=false:=lW
    clear J N L;exact aqI
   rw[L,afJ (by omega)]
   have O:((k:Int) != 6)=true:=iI
   have Q:((k:Int) != 7)=true:=iI
   clear J N L;go_enter aiJ,ntmps252;go_wp2_with (first|(go_at_call 166;refine(d _).aH ?_))
   exact aqT
 |false=>
  have L:kP f k v=if f<128 then .ends else if f%128<64 then .pass else .keep (192+f%64/32*32):=by unfold kP;rw[afJ (by simp[u])]
  have F:ed k= -1:=vQ k u
  rw[F]at d
  rw[L]
  clear L F u
  by_cases h1:f<128
  ·rw[afN h1]
   go_enter aiJ,ntmps252;go_wp2_with (first|(go_at_call 166;refine(d _).aH ?_))
   go_end0
   exact⟨rfl,D.setCell (p:=⟨b,769,none⟩) (afA b) _,HM.a94⟩
  ·rw[afJ h1]
   by_cases h2:f%128<64
   ·rw[afN h2]
    exact aqI
   ·rw[afJ h2]
    go_enter aiJ,ntmps252;go_wp2_with (first|(go_at_call 166;refine(d _).aH ?_))
    go_end0
    refine⟨rfl,(D.setCell (p:=⟨b,k,none⟩) (afA b) _).setCell (p:=⟨b,256+k,none⟩) (afA b) _,?_⟩;have h:=(HM.Sr k R ((192+f%64/32*32:Nat):Int)).a6k k R v;exact h
end Go.Proofs.Zq
