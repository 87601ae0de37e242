import Derived.Lib.Join
import Derived.Outline
import Derived.WalkLawsBesides
import Derived.WalkSpells
import Derived.Test.YtkdjjnkpfpogkaaGreatDoorK28
set_option maxHeartbeats 8000000
set_option linter.all false
set_option maxRecDepth 100000
namespace Go
def BC{P:Prop}(h:P:=by
 go_wp2
 go_ret
 exact⟨Ho (by rw[aga (by simp;omega)]),rfl⟩):P:=h
end Go
namespace Go.Proofs.Zq
open Go.RowKit
variable{w wa w5:World}{ow A:Nat->Nat}{G c s m N b:Nat}{cs cs0 I:Nat->Value}{u v v5 lv p:Value}{e:TypeId}
namespace Rl
structure yM(w:World)(ow:Nat->Nat)(G:Nat)(cs:Nat->Value):Prop where
 own:ow G=1
 lt:G<w.heap.size
 cells:∀j,j<16->w.cell? ⟨G,j,none⟩=some (cs j)
 fz:∀j,j<16->w.frozen? ⟨G,j,none⟩=false
def nM(cs:Nat->Value)(j:Nat)(v:Value):Nat->Value:=λi=>if i=j then v else cs i
theorem ik(cs)(j)(v):nM cs j v j=v:=afN rfl
theorem bC(cs){i j}(v)(h:i≠j):nM cs j v i=cs i:=afJ h
theorem yM.set(h:yM w ow G cs){j}(f:j<16)(v):yM (w.setCell ⟨G,j,none⟩ v) ow G (nM cs j v):=by
 refine⟨h.own,by simpa using h.lt,λi a=> ?_,λi a=>by simpa using h.fz i a⟩
 by_cases e:i=j
 ·subst e;rw[ik];exact aex _ _ _ (h.cells i a)
 ·rw[bC _ _ e,bB _ _ _ _ _ (λx=>e x.symm)];exact h.cells i a
theorem yM.frame{T}{l}(h:yM w ow G cs)(a:Fr T w ow l A)(f:¬T 1):yM l A G cs:=
 ⟨a.ow h.lt h.own f,afB h.lt a.size,λj d=>(a.cell (p:=⟨G,j,none⟩) h.lt h.own f).trans (h.cells j d),λj d=>(a.frozen (p:=⟨G,j,none⟩) h.lt h.own f).trans (h.fz j d)⟩
theorem DU(w)(ow)(p)(v)(d:ow p.block=c):Fr (λi=>i=c) w ow (w.setCell p v) ow:=
 ⟨rfl,rfl,rfl,by simp[World.setCell],λk _ a=>⟨rfl,Below.heap_setCell _ _ _ _ (λe=>a (by grind))⟩⟩
structure Kd where
 row:TypeId
 el:TypeId
 size:Nat
 j:Nat
 o:Nat
 mrk:Nat->List Value
 len:∀m,(mrk m).length=size
 pos:0<size
def Kd.J2(K:Kd)(m n:Nat):List Value:=(List.replicate n (K.mrk m)).flatten
theorem Kd.Gc(K:Kd)(m n):(K.J2 m n).length=n*K.size:=by
 unfold Kd.J2;induction n with
 |zero=>simp
 |succ n a=>rw[List.replicate_succ,List.flatten_cons,afE,a,K.len,Nat.succ_mul];omega
theorem Kd.DV(K:Kd)(m n):K.J2 m (n+1)=K.J2 m n++K.mrk m:=by simp[Kd.J2,List.replicate_succ',List.flatten_append]
theorem Kd.a05(K:Kd)(m):∀n j r,j<n->r<K.size->(K.J2 m n)[j*K.size+r]? =(K.mrk m)[r]? :=by
 intro n;induction n with
 |zero=>simp
 |succ n a=>
  intro j r h d
  rw[K.DV]
  have g:=K.Gc m n
  by_cases e:j=n
  ·grind
  ·have f:j*K.size+r<n*K.size:=by
    have:(j+1)*K.size<=n*K.size:=Nat.mul_le_mul_right _ (by omega)
    rw[Nat.succ_mul]at this
    omega
   rw[List.getElem?_append_left (by omega)]
   exact a j r (by omega) d
def Kd.Full(K:Kd)(w:World)(ow:Nat->Nat)(s:Nat)(u:Value):Prop:=
 ∃a m c,u=.slice a m c/\m<=8388608/\(m=0\/∃g,a=some ⟨g,0,none⟩/\g<w.heap.size/\ow g=K.o/\∀j,j<m->∀r v,(K.mrk s)[r]? =some v->w.cell? ⟨g,j*K.size+r,none⟩=some v)
theorem Kd.Full.frame{K:Kd}{T}{l}(h:K.Full w ow s u)(f:Fr T w ow l A)(n:¬T K.o):K.Full l A s u:=by
 obtain⟨a,m,c,rfl,o,h⟩:=h;refine⟨a,m,c,rfl,o,?_⟩;obtain h|⟨g,rfl,d,i,t⟩:=h
 ·exact .inl h
 ·exact .inr ⟨g,rfl,afB d f.size,f.ow d i n,λj q r v k=>(f.cell (p:=⟨g,j*K.size+r,none⟩) d i n).trans (t j q r v k)⟩
theorem Kd.a9P{K:Kd}{r}(h:(K.mrk s)[r]? =some v):r<K.size:=by have:=(afY.1 h).1;rwa[K.len]at this
theorem Kd.full_of{K:Kd}(h:fI w ow e K.size v m (K.J2 s m) K.o)(l:m<=8388608):K.Full w ow s v:=by
 have d:=h.row.lt;have f:=λg o=>h.row.cells (g:=g) o
 have a:=h.code;obtain⟨rfl,rfl⟩|⟨g,i,q,rfl,_⟩:=h.row.2
 ·exact⟨none,0,0,rfl,l,.inl rfl⟩
 ·refine⟨_,m,i,rfl,l,.inr ⟨g,rfl,(d g rfl).2,a g rfl,λj n r u k=> ?_⟩⟩
  have:=f g rfl (j*K.size+r) u (by rw[K.a05 s m j r n (K.a9P k)];exact k)
  rwa[nR]at this
structure Jd(K:Kd)(w:World)(ow:Nat->Nat)(cs:Nat->Value)(ts:List (Nat×Value)):Prop where
 qO:fI w ow K.row 1 (cs K.j) ts.length (ts.map Prod.snd) (K.o+3)
 rz:fI w ow 3 1 (cs (K.j+1)) ts.length (ints (ts.map λx=>(x.1:Int))) (K.o+4)
 full:∀x∈ts,K.Full w ow x.1 x.2
theorem Jd.frame{K}{T}{w f}{ow A}{cs a}{j}(h:Jd K w ow cs j)(d:Fr T w ow f A)(o:¬T K.o)(n:¬T (K.o+3))(l:¬T (K.o+4))(r:a K.j=cs K.j)(q:a (K.j+1)=cs (K.j+1)):Jd K f A a j:=
 ⟨by rw[r];exact h.qO.frame d n,by rw[q];exact h.rz.frame d l,λx g=>(h.full x g).frame d o⟩
theorem Jd.nil(K)(w)(ow)(cs)(e1:cs K.j=.slice none 0 0)(e2:cs (K.j+1)=.slice none 0 0):Jd K w ow cs []:=
 ⟨by rw[e1];exact jL,by rw[e2];exact jL,λx hx=>by cases hx⟩
theorem MV{a}{n}{g f}(h:fI w ow e a v n g c)(j:ah' w wa)(q:w5.ownsRow 0 e a v5 m f)(l:wa.grownBy w5 v.ownBlock)(k:DK wa v v5):
  ∃d,fI w5 d e a v5 m f c/\Fr (λi=>i=c) w ow w5 d:=by
 have z:=Fr.aK ow j (λi=>i=c) c
 have o:fI wa (ext w ow c) e a v n g c:=by have t:=h.frame (Fr.aK ow j (λ_=>False) c) (λx=>x);exact t
 obtain⟨r,y⟩:=fI.grown o q l k
 exact⟨_,r,z.trans y (λ_ x=>x)⟩
theorem Qc(a)(n c):∀u∈[Value.slice a n c],u.oneCell'=true:=by intro u d;exact ahg
theorem a06(n):∀u∈[Value.int .i64 n],u.oneCell'=true:=by intro u d;exact ahg
theorem a8N(s):∀u∈[Value.string s],u.oneCell'=true:=by intro u d;exact ahg
theorem Kd.Full.append{K:Kd}{l}{z}{n}(h:K.Full w ow s u)(C:ah' w wa)(M:wa.grownBy w5 v.ownBlock)(Q:w5.ownsRow 0 e K.size v5 (n+1) (K.J2 z (n+1)))(E:Laid wa w5 v v5)(O:Fr (λi=>i=K.o) w ow w5 l)(R:∀k,k<w.heap.size->l k=ow k)(D:∀g a m c,u=.slice a m c->a=some ⟨g,0,none⟩->v.ownBlock=some g->m≠0->s=z/\m<=n):K.Full w5 l s u:=by
 obtain⟨a,m,c,rfl,J,h⟩:=h;refine⟨a,m,c,rfl,J,?_⟩;obtain h|⟨g,rfl,d,F,P⟩:=h
 ·exact .inl h
 ·by_cases y:m=0
  ·omega
  ·have f:g<wa.heap.size:=afB d C.size
   refine .inr ⟨g,rfl,afB d O.size,(R g d).trans F,λj L r x t=> ?_⟩;have q:wa.cell? ⟨g,j*K.size+r,none⟩=some x:=(C.cell (p:=⟨g,j*K.size+r,none⟩) d).trans (P j L r x t)
   by_cases o:some g=v.ownBlock
   ·obtain⟨rfl,H⟩:=D g _ m c rfl rfl o.symm y
    obtain B|⟨_,B⟩:=E
    ·have:=Q.cells (g:=g) (by grind) (j*K.size+r) x (by rw[K.a05 s (n+1) j r (by omega) (K.a9P t)];exact t)
     rwa[nR]at this
    ·exact(ahz (a:=⟨g,j*K.size+r,none⟩) (B g f)).trans q
   ·exact(ahz (a:=⟨g,j*K.size+r,none⟩) (M.block g f o)).trans q
def a5D(u v:Value)(s d:Nat)(n:Nat):Prop:=∀g a m c,u=.slice a m c->a=some ⟨g,0,none⟩->v.ownBlock=some g->m≠0->s=d/\m<=n
theorem a5D.append{K:Kd}{f n}(h:a5D u v s f n)(q:K.Full w ow s u)(t:ah' w wa)(i:Laid wa w5 v v5):a5D u v5 s f (n+1):=by
 intro g a m c o l z y;obtain i|⟨⟨k,j,D⟩,_⟩:=i
 ·obtain⟨x,E⟩:=h g a m c o l (by grind) y
  exact⟨x,by omega⟩
 ·obtain⟨J,C,H,e,_,d⟩:=q
  rw[o]at e
  cases e
  rw[l]at d
  obtain d|⟨F,B,r,_⟩:=d
  ·omega
  ·cases B
   rw[z]at j
   cases j;have:=t.size;omega
theorem qA(h:Laid wa w5 v v5):DK wa v v5:=h.imp id (λx=>x.1)
structure gQ(K:Kd)(w:World)(ow:Nat->Nat)(G:Nat)(cs0 cs:Nat->Value)(us:List Value)(ns:List Int)(ts:List (Nat×Value))(N:Nat)(lv:Value)(m:Nat):Prop where
 blk:yM w ow G cs
 same:∀i,i≠K.j->i≠K.j+1->cs i=cs0 i
 qO:fI w ow K.row 1 (cs K.j) us.length us (K.o+3)
 rz:fI w ow 3 1 (cs (K.j+1)) ns.length (ints ns) (K.o+4)
 full:∀x∈ts,K.Full w ow x.1 x.2
 near:∀x∈ts,a5D x.2 lv x.1 N m
 list:fI w ow K.el K.size lv m (K.J2 N m) K.o
 le:m<=8388608
 j15:K.j+1<16
 o1:1<K.o
section
variable{K:Kd}{w V J:World}{O:Nat->Nat}{G m N:Nat}{U cs:Nat->Value}{X:List Value}{Y:List Int}{ts:List (Nat×Value)}{lv L:Value}
theorem gQ.t{x}(h:gQ K w O G U cs X Y ts N lv m)(r:ah' w V)(z:J.ownsRow 0 K.row 1 L (X.length+1) (X++[x]))(q:V.grownBy J (cs K.j).ownBlock)(n:Laid V J (cs K.j) L):
  ∃a,yM J a G cs/\gQ K (J.setCell ⟨G,K.j,none⟩ L) a G U (nM cs K.j L) (X++[x]) Y ts N lv m/\Fr (λc=>c=1\/c=K.o+3) w O (J.setCell ⟨G,K.j,none⟩ L) a:=by
 have l:=h.o1;have o:=h.j15;obtain⟨a,j,d⟩:=MV h.qO r z q (qA n);have f:=h.blk.frame d (by omega);have f6:=DU J a ⟨G,K.j,none⟩ L (c:=1) f.own;refine⟨a,f,⟨f.set (by omega) L,λi g t=>by rw[bC _ _ g];exact h.same i g t,?_,?_,λy k=>((h.full y k).frame d (by omega)).frame f6 (by omega),h.near,(h.list.frame d (by omega)).frame f6 (by omega),h.le,o,l⟩,(d.mono (λ_ x=>.inr x)).trans f6 (λ_ x=>.inl x)⟩
 ·rw[ik,afE];exact j.frame f6 (by omega)
 ·rw[bC _ _ (by omega)];exact(h.rz.frame d (by omega)).frame f6 (by omega)
theorem a5E(a)(x):ints (a++[x])=ints a++[.int .i64 x]:=by simp[ints]
theorem gQ.n{x}(h:gQ K w O G U cs X Y ts N lv m)(t:ah' w V)(z:J.ownsRow 0 3 1 L (Y.length+1) (ints Y++[.int .i64 x]))(r:V.grownBy J (cs (K.j+1)).ownBlock)(q:Laid V J (cs (K.j+1)) L):
  ∃j,yM J j G cs/\gQ K (J.setCell ⟨G,K.j+1,none⟩ L) j G U (nM cs (K.j+1) L) X (Y++[x]) ts N lv m/\Fr (λc=>c=1\/c=K.o+4) w O (J.setCell ⟨G,K.j+1,none⟩ L) j:=by
 have l:=h.o1;have n:=h.j15;obtain⟨j,g,a⟩:=MV h.rz t z r (qA q);have d:=h.blk.frame a (by omega);have f6:=DU J j ⟨G,K.j+1,none⟩ L (c:=1) d.own;refine⟨j,d,⟨d.set (by omega) L,λi o f=>by rw[bC _ _ f];exact h.same i o f,?_,?_,λy k=>((h.full y k).frame a (by omega)).frame f6 (by omega),h.near,(h.list.frame a (by omega)).frame f6 (by omega),h.le,n,l⟩,(a.mono (λ_ x=>.inr x)).trans f6 (λ_ x=>.inl x)⟩
 ·rw[bC _ _ (by omega)];exact(h.qO.frame a (by omega)).frame f6 (by omega)
 ·rw[ik,afE,a5E];exact g.frame f6 (by omega)
theorem gQ.l(h:gQ K w O G U cs X Y ts N lv m)(F:m+1<=8388608)(o:ah' w V)(C:J.ownsRow 0 K.el K.size L (m+1) (K.J2 N (m+1)))(B:V.grownBy J lv.ownBlock)(t:Laid V J lv L):
  ∃q,gQ K J q G U cs X Y (ts++[(N,lv)]) N L (m+1)/\Fr (λc=>c=K.o) w O J q:=by
 have E:=h.o1;have P:=Fr.aK O o (λi=>i=K.o) K.o;have H:fI V (ext w O K.o) K.el K.size lv m (K.J2 N m) K.o:=h.list.frame (Fr.aK O o (λ_=>False) K.o) (λx=>x);obtain⟨z,M⟩:=fI.grown H C B (qA t);have f:=P.trans M (λ_ x=>x)
 have r:∀k,k<w.heap.size->ext V (ext w O K.o) K.o k=O k:=λk n=>by unfold ext;rw[afN (afB n o.size),afN n]
 have j:K.Full w O N lv:=K.full_of h.list h.le;refine⟨_,⟨h.blk.frame f (by omega),h.same,h.qO.frame f (by omega),h.rz.frame f (by omega),λy d=> ?_,λy d=> ?_,z,F,h.j15,E⟩,f⟩
 ·obtain d|d:=agz.1 d
  ·exact(h.full y d).append o B C t f r (h.near y d)
  ·rw[agp]at d
   subst d
   exact j.append o B C t f r (λg a D c l _ _ _=>by
    obtain⟨R,Q,e⟩:=ay h.list.row
    rw[e]at l;cases l;exact⟨rfl,afA _⟩)
 ·obtain d|d:=agz.1 d
  ·exact(h.near y d).append (h.full y d) o t
  ·rw[agp]at d
   subst d
   exact a5D.append (K:=K) (w:=w) (ow:=O) (λg a D c l _ _ _=>by
    obtain⟨R,Q,e⟩:=ay h.list.row
    rw[e]at l;cases l;exact⟨rfl,afA _⟩) j o t
end
def Kd.T(K:Kd):Nat->Prop:=λc=>c=1\/c=K.o\/c=K.o+1\/c=K.o+3\/c=K.o+4
theorem FB{K}{h wc}{d}{n}{o}{D}(t:Jd K w ow cs o)(J:K.j+1<16)(H:1<K.o)(r:fI h d K.el K.size lv n D (K.o+1))(hF:Fr (λi=>i=1) w ow h d)(L:yM h d G cs0)(r3:wc.ownsRow 0 K.el K.size lv n (K.J2 N n))(t3:dJ (λj=>lv.ownBlock=some j) h wc)(C:cs0 K.j=cs K.j)(B:cs0 (K.j+1)=cs (K.j+1))(U:n<=4194304):
  ∃l,gQ K wc l G cs0 cs0 (o.map Prod.snd) (o.map λx=>(x.1:Int)) o N lv n/\Fr K.T w ow wc l/\Fr (λc=>c=K.o+1) h d wc l:=by
 have O:Fr (λc=>c=K.o+1) h d wc (ext h d (K.o+1)):=Fr.Ux t3 (λk _ q=>r.code k q) (K.o+1);have M:Fr (λc=>c=K.o+1) wc (ext h d (K.o+1)) wc (mo (ext h d (K.o+1)) (K.o+1) K.o):=Fr.mo _ _ _ (K.o+1) K.o rfl;have E:fI wc (ext h d (K.o+1)) K.el K.size lv n (K.J2 N n) (K.o+1):=⟨r3,λk q=>by unfold ext;rw[afN (r.row.lt k q).2];exact r.code k q⟩;have f:=O.trans M (λ_ x=>x);refine⟨_,⟨L.frame f (by omega),λ_ _ _=>rfl,?_,?_,λx y=>((t.full x y).frame hF (by omega)).frame f (by omega),λx y=> ?_,E.mo K.o,by omega,J,H⟩,(hF.mono (λ_ x=>.inl x)).trans (f.mono (λ_ x=>.inr (.inr (.inl x)))) (λ_ x=>x),f⟩
 ·rw[C,ag0];exact(t.qO.frame hF (by omega)).frame f (by omega)
 ·rw[B,ag0];exact(t.rz.frame hF (by omega)).frame f (by omega)
 ·intro g a m c R Q P W
  obtain⟨Y,T,X,e,_,z⟩:=(t.full x y).frame hF (by omega)
  rw[R]at e
  cases e
  rw[Q]at z
  obtain z|⟨V,S,_,F,_⟩:=z
  ·omega
  ·cases S
   have:=r.code g P;omega
theorem J3{K}{a}(h:gQ K w ow G cs0 I (a.map Prod.snd) (a.map λx=>(x.1:Int)) a N lv m):Jd K w ow I a:=by
 refine⟨?_,?_,h.full⟩
 ·have:=h.qO;rwa[ag0]at this
 ·have:=h.rz;rwa[ag0]at this
def kT:Kd:=⟨28,9,1,12,4,λm=>[.string (Fz m)],λ_=>rfl,by omega⟩
def kE:Kd:=⟨27,80,3,10,12,λm=>[.int .i64 (-(m:Int)),.int .i64 0,.string ⟨#[]⟩],λ_=>rfl,by omega⟩
def kS:Kd:=⟨29,83,2,14,17,λm=>[.int .i64 (-(m:Int)),.string ⟨#[]⟩],λ_=>rfl,by omega⟩
def BkC(c:Nat):Prop:=c=1\/(4<=c/\c<=8)\/(12<=c/\c<=21)
structure fu(w:World)(ow:Nat->Nat)(G n came:Nat)(cs:Nat->Value)(tE tT tS:List (Nat×Value)):Prop where
 blk:yM w ow G cs
 c1:cs 1=.int .i64 (n:Int)
 c2:cs 2=.int .i64 (came:Int)
 c3:cs 3=.bool false
 e:Jd kE w ow cs tE
 t:Jd kT w ow cs tT
 s:Jd kS w ow cs tS
theorem fu.frame{T}{w j}{ow A}{G n d}{cs}{q l o}(h:fu w ow G n d cs q l o)(f:Fr T w ow j A)(a:∀c,BkC c->¬T c):fu j A G n d cs q l o:=
 ⟨h.blk.frame f (a 1 di),h.c1,h.c2,h.c3,
  h.e.frame f (a 12 di) (a 15 di) (a 16 di) rfl rfl,
  h.t.frame f (a 4 di) (a 7 di) (a 8 di) rfl rfl,
  h.s.frame f (a 17 di) (a 20 di) (a 21 di) rfl rfl⟩
theorem a8O{wr}{n d}{k q a j}(g:fu w ow G n d cs k q j)(h:gQ kT wr A G cs0 I (a.map Prod.snd) (a.map λx=>(x.1:Int)) a N lv m)(o:cs0=nM cs 1 (.int .i64 (N:Int)))(l:Fr kT.T w ow wr A):
  fu wr A G N d I k a j/\∀i,i≠1->i≠12->i≠13->I i=cs i:=by
 have f:∀i,i≠1->i≠12->i≠13->I i=cs i:=λi y t r=>by rw[h.same i t r,o,bC _ _ y]
 refine⟨⟨h.blk,?_,by rw[f 2 (by omega) (by omega) (by omega),g.c2],by rw[f 3 (by omega) (by omega) (by omega),g.c3],?_,J3 h,?_⟩,f⟩
 ·rw[h.same 1 (by unfold kT;simp) (by unfold kT;simp),o,ik]
 ·exact g.e.frame l jN jN jN (f 10 (by omega) (by omega) (by omega)) (f 11 (by omega) (by omega) (by omega))
 ·exact g.s.frame l (by unfold Kd.T kT kS;simp) (by unfold Kd.T kT kS;simp) (by unfold Kd.T kT kS;simp) (f 14 (by omega) (by omega) (by omega)) (f 15 (by omega) (by omega) (by omega))
theorem a8P{wr}{n d}{q a j k}(g:fu w ow G n d cs q j k)(h:gQ kE wr A G cs0 I (a.map Prod.snd) (a.map λx=>(x.1:Int)) a N lv m)(o:cs0=nM cs 1 (.int .i64 (N:Int)))(l:Fr kE.T w ow wr A):
  fu wr A G N d I a j k/\∀i,i≠1->i≠10->i≠11->I i=cs i:=by
 have f:∀i,i≠1->i≠10->i≠11->I i=cs i:=λi y t r=>by rw[h.same i t r,o,bC _ _ y]
 refine⟨⟨h.blk,?_,by rw[f 2 (by omega) (by omega) (by omega),g.c2],by rw[f 3 (by omega) (by omega) (by omega),g.c3],J3 h,?_,?_⟩,f⟩
 ·rw[h.same 1 (by unfold kE;simp) (by unfold kE;simp),o,ik]
 ·exact g.t.frame l jN jN jN (f 12 (by omega) (by omega) (by omega)) (f 13 (by omega) (by omega) (by omega))
 ·exact g.s.frame l (by unfold Kd.T kE kS;simp) (by unfold Kd.T kE kS;simp) (by unfold Kd.T kE kS;simp) (f 14 (by omega) (by omega) (by omega)) (f 15 (by omega) (by omega) (by omega))
end Rl
open Rl
def Hq(c:Nat):Nat:=if c%2=1 then c/2^^^3988292384 else c/2
def itC:Nat->Nat->Nat
 |0,c=>c
 |k+1,c=>Hq (itC k c)
def Hr(c b:Nat):Nat:=itC 8 (c^^^b)
def a5F(c:Nat)(l:List UInt8):Nat:=l.foldl (λc b=>Hr c b.toNat) c
def kD(l:List UInt8):Nat:=a5F 4294967295 l
def crc(l:List UInt8):Nat:=4294967295-kD l
theorem Je{a}(f:a<4294967296)(d:b<4294967296):a^^^b<4294967296:=Nat.xor_lt_two_pow (n:=32) f d
theorem a5G(h:c<4294967296):Hq c<4294967296:=by grind[Hq,Je]
theorem Yn(h:c<4294967296):∀k,itC k c<4294967296:=by
 intro k;induction k with
 |zero=>exact h
 |succ k a=>exact a5G a
theorem a5H(h:c<4294967296)(a:b<256):Hr c b<4294967296:=Yn (Je h (by omega)) 8
theorem a5I(l):∀c,c<4294967296->a5F c l<4294967296:=by
 induction l with
 |nil=>intro c h;exact h
 |cons b l a=>intro c h;exact a _ (a5H h b.toNat_lt)
theorem Qd(l):kD l<4294967296:=a5I l _ (by omega)
theorem Vd(l)(b):kD (l++[b])=Hr (kD l) b.toNat:=by simp[kD,a5F,List.foldl_append]
theorem J4(s:ByteArray)(k)(h:k<s.size):kD (s.data.toList.take (k+1))=Hr (kD (s.data.toList.take k)) s[k].toNat:=by rw[afH (by simp_all),Vd];rfl
def MX(c b k:Nat):Nat:=itC k (c^^^b)^^^b/2^k
theorem Yo(a b:Nat):a^^^b^^^b=a:=by grind
theorem a1S(c b):MX c b 0=c:=by unfold MX itC;rw[Nat.pow_zero,Nat.div_one,Yo]
theorem a8Q(h:c<4294967296)(a:b<256)(k):MX c b k<4294967296:=
 Je (Yn (Je h (by omega)) k) (Nat.lt_of_le_of_lt (Nat.div_le_self _ _) (by omega))
theorem a1T(c b)(a:b<256):MX c b 8=Hr c b:=by simp_all[MX,Hr,Nat.div_eq_of_lt,Nat.xor_zero]
theorem a8R(x z):(x^^^z)%2=(x%2+z%2)%2:=by grind[Nat.xor_mod_two_eq_one]
theorem a5J(x z):(x^^^z)/2=x/2^^^z/2:=Nat.xor_div_two
theorem a1U(c b k):MX c b (k+1)=if b/2^k%2≠MX c b k%2 then MX c b k/2^^^3988292384 else MX c b k/2:=by
 have e:b/2^(k+1)=b/2^k/2:=by rw[Nat.pow_succ,Nat.div_div_eq_div_mul]
 unfold MX
 rw[e,show itC (k+1) (c^^^b)=Hq (itC k (c^^^b))from rfl]
 generalize itC k (c^^^b)=x;generalize b/2^k=z;have a:=a8R x z
 split<;>grind[a5J,Hq]
open Tryz
open Go.RowKit Go.Shelf
namespace a9Q
def ren:Go.Shelf.Ren:=⟨fun|165=>290|166=>291|240=>313|241=>314|276=>330|277=>331|n=>n,
 fun|9=>9|3=>3|4=>4|0=>0|20=>20|72=>331|76=>280|70=>329|37=>144|75=>279|127=>308|164=>368|5=>5|80=>109|n=>n,fun|n=>n⟩
theorem R8:Lays.n166 ah.prog ren:={
 mixed:=by kernel_rfl
 f166:=akJ.trans (congrArg some (by kernel_rfl))
 f240:=akL.trans (congrArg some (by kernel_rfl))
 f276:=akN.trans (congrArg some (by kernel_rfl))
 t0:=Qu0
 a0:=Qa0
 z0:=Qs0
 v0:=Qz0
 t3:=Qu3
 a3:=Qa3
 z3:=Qs3
 v3:=Qz3
 t4:=Qu4
 a4:=Qa4
 z4:=Qs4
 v4:=Qz4
 t9:=Qu9
 a9:=Qa9
 z9:=Qs9
 v9:=Qz9
 t20:=an3
 a20:=an6
 z20:=an5
 v20:=an4
 t37:=aiK
 a37:=ajD
 z37:=ajC
 v37:=ajB
 t70:=ak'
 a70:=al2
 z70:=al1
 v70:=al0
 t72:=al3
 a72:=al6
 z72:=al5
 v72:=al4
 t75:=ann
 a75:=anq
 z75:=anp
 v75:=ano
 t164:=al7
 a164:=ala
 z164:=al9
 v164:=al8}
theorem extra:Builder.Extra ah.prog ren:={
 sizeBuilder:=by kernel_rfl
 liesBuilder:=by kernel_rfl
 t5:=Qu5
 a5:=Qa5
 z5:=Qs5
 v5:=Qz5
 infoByte:=by kernel_rfl
 cellsByte:=by kernel_rfl
 sizeByte:=by kernel_rfl
 neB5:=by decide}
theorem xR(B b)(d)(s)(w)(h:Lib.IsBuilder 331 5 B b d w)(a:d.length+s.size<=140737488355328)(f:B<=w.heap.size):
  ai3 291 #[.pointer (some ⟨b,0,none⟩),.string s] w λe g=>e=.returned (.tuple #[.int .i64 s.size,.nilIface])/\(Lib.BuilderAt 331 5 B b (.pointer (some ⟨b,0,none⟩)) (d++Lib.strCells s) g/\Below B w g):=Any.Builder_WriteString R8 extra B b d s w h a f
theorem Ve(b)(w)(g:w.cell? ⟨b,0,none⟩=some (.pointer none))(a:w.shape? b=some (331,2))(d:w.frozen? ⟨b,0,none⟩=false):
  ai3 313 #[.pointer (some ⟨b,0,none⟩)] w λe f=>e=.returned (.tuple #[])/\f=w.setCell ⟨b,0,none⟩ (.pointer (some ⟨b,0,none⟩)):=Any.Builder_copyCheck_fresh {R8 with} extra.toX72 b w g a d
theorem Yp(b)(w)(d:w.cell? ⟨b,0,none⟩=some (.pointer (some ⟨b,0,none⟩))):
  ai3 313 #[.pointer (some ⟨b,0,none⟩)] w λe a=>e=.returned (.tuple #[])/\a=w:=Any.Builder_copyCheck_used {R8 with} extra.toX72 b w d
def Gb(w:World)(b:Nat)(p:Value):Prop:=w.heap[b]? =some (.cells #[p,.slice none 0 0] 331 (0,0))
theorem Gb.cell0(h:Gb w b p):w.cell? ⟨b,0,none⟩=some p:=by rw[Lib.cell_of_heap h];rfl
theorem Gb.cell1(h:Gb w b p):w.cell? ⟨b,1,none⟩=some (.slice none 0 0):=by rw[Lib.cell_of_heap h];rfl
theorem Vf(B b)(l)(w)(h:Lib.IsBuilder 331 5 B b (Lib.byteCells l) w)(y:l≠[]):
  ai3 292 #[.pointer (some ⟨b,0,none⟩)] w λe z=>e=.returned (.string ⟨l.toArray⟩)/\Below B w z:=by
 obtain⟨p,O,v,q,f,F⟩:∃p,Lib.BuilderAt 331 5 B b p (Lib.byteCells l) w:=by
  obtain h|h:=h
  ·exact⟨_,h⟩
  ·exact⟨_,h⟩
 have k:l.length≠0:=by simpa using y
 rw[Lib.byteCells_length]at f
 obtain⟨g,a,d,rfl,t,J,H,o,K,i⟩:∃g a d,v=.slice (some ⟨g,0,none⟩) l.length a/\B<=g/\w.heap[g]? =some (.cells d 5 (0,0))/\l.length<=a/\a<=maxLen/\d.size=a*1/\d.toList.take (l.length*1)=Lib.byteCells l:=by
  obtain⟨_,C⟩|⟨g,a,d,E,r⟩:=f.2
  ·exact absurd C k
  ·exact⟨g,a,d,E,r⟩
 have c1:w.drew.cell? ⟨b,1,none⟩=some (.slice (some ⟨g,0,none⟩) l.length a):=by
  have:w.drew.heap[b]? =some (.cells #[p,.slice (some ⟨g,0,none⟩) l.length a] 331 (0,0)):=q
  rw[Lib.cell_of_heap this];rfl
 have M:(Builtin.unsafeSliceData_ #[144] 3 #[.slice (some ⟨g,0,none⟩) l.length a]).run ah.prog w.drew=.ok (.pointer (some ⟨g,0,none⟩)) w.drew:=
  Lib.run_unsafeSliceData_row _ _ _ _ _ _ (by omega)
 have L:(Builtin.unsafeString_ #[308,3] 9 #[.pointer (some ⟨g,0,none⟩),.int .i64 l.length]).run ah.prog w.drew=.ok (.string ⟨l.toArray⟩) (w.drew.freeze ⟨g,0,none⟩ l.length):=by refine Lib.run_unsafeString_row w.drew 308 3 9 5 akZ extra.cellsByte g d.size (by have n:w.drew.heap[g]? =some (.cells d 5 (0,0)):=J;simp[World.shape?,n]) l y (by omega) (by unfold maxLen at o;omega) ?_;intro j x D;have:=f.cells (g:=g) rfl j (.int .u8 x.toNat) (by simp[Lib.byteCells,D]);exact this
 go_enter ah.func292,ah.ntmps292;go_wp2
 go_region
 all_goals (go_wp2;go_ret;exact⟨rfl,Lib.below_freeze (Below.drew (a0n B w)) (p:=⟨g,0,none⟩) t _⟩)
theorem Vg(B b)(p)(w)(h:Gb w b p):
  ai3 292 #[.pointer (some ⟨b,0,none⟩)] w λe a=>e=.returned (.string ⟨#[]⟩)/\Below B w a:=by
 have d:∀q W,(Builtin.unsafeString_ #[308,3] 9 #[.pointer q,.int .i64 0]).run ah.prog W=.ok (.string .empty) W:=λq W=>Lib.run_unsafeString_none W _ _ _ q
 have c1:w.drew.cell? ⟨b,1,none⟩=some (.slice none 0 0):=h.cell1;have f:(Builtin.unsafeSliceData_ #[144] 3 #[.slice none 0 0]).run ah.prog w.drew=.ok (.pointer none) w.drew:=rfl;go_enter ah.func292,ah.ntmps292;go_wp2
 go_region
 all_goals (go_wp2;go_ret;exact⟨rfl,Below.drew (a0n B w)⟩)
theorem Gb.self(h:Gb w b p)(q):Gb (w.setCell ⟨b,0,none⟩ q) b q:=by simp_all[Gb,World.setCell,agT]<;>omega
theorem a1V(B b)(w)(g:B<=b)(h:Gb w b (.pointer none)):
  ai3 290 #[.pointer (some ⟨b,0,none⟩),.int .i64 0] w λe a=>e=.returned (.tuple #[])/\(Gb a b (.pointer (some ⟨b,0,none⟩))/\Below B w a):=by
 have d:=h.self (.pointer (some ⟨b,0,none⟩));have c1:=d.cell1;have i:(w.setCell ⟨b,0,none⟩ (.pointer (some ⟨b,0,none⟩))).drew.cell? ⟨b,1,none⟩=some (.slice none 0 0):=c1;have f:Below B w (w.setCell ⟨b,0,none⟩ (.pointer (some ⟨b,0,none⟩))):=(a0n B w).setCell (p:=⟨b,0,none⟩) g _;go_enter akI,ntmps290;go_wp2_with (go_at_call 313;refine(Ve b w h.cell0 (by unfold World.shape?;rw[h];rfl) (Lib.frozen_of_heap h 0)).aH ?_)
 go_region
 all_goals (go_wp2;go_end0;exact⟨rfl,d,f.drew⟩)
theorem Yq(B b)(w)(d:B<=b)(h:Gb w b (.pointer (some ⟨b,0,none⟩))):
  ai3 291 #[.pointer (some ⟨b,0,none⟩),.string ⟨#[]⟩] w λe a=>e=.returned (.tuple #[.int .i64 0,.nilIface])/\(Gb a b (.pointer (some ⟨b,0,none⟩))/\Below B w a):=by
 have c1:=h.cell1;have f:=Lib.frozen_of_heap h 1;go_enter akJ,ntmps291;go_wp2_with (go_at_call 313;refine(Yp b w h.cell0).aH ?_);go_ret2;refine⟨rfl,?_,(a0n B w).setCell (p:=⟨b,1,none⟩) d _⟩;unfold Gb at h |-;simp[World.setCell,agT,h]
theorem join_none(a)(c)(d)(w):
  ai3 253 #[.slice a 0 c,.string d] w λe w'=>e=.returned (.string ⟨#[]⟩)/\w'=w:=by
 go_enter ajw,ntmps253;exact cB
theorem join_one(b o c)(x d)(w)(h:w.cell? ⟨b,o,none⟩=some (.string x)):
  ai3 253 #[.slice (some ⟨b,o,none⟩) 1 c,.string d] w λe w'=>e=.returned (.string x)/\w'=w:=by
 go_enter ajw,ntmps253;exact cB
def cat(a:List ByteArray):List UInt8:=(a.map (·.data.toList)).flatten
theorem a07(a b):cat (a++b)=cat a++cat b:=by simp[cat]
theorem a8S(x):cat [x]=x.data.toList:=by simp[cat]
theorem Ht(a:List ByteArray)(k)(x)(h:a[k]? =some x):cat (a.take (k+1))=cat (a.take k)++x.data.toList:=by grind[List.take_add_one,a07,cat]
theorem Lb(x:ByteArray):x.data.toList.length=x.size:=by simp
theorem MZ(a)(k):(cat (a.take k)).length<=(cat a).length:=by grind[cat,a07,ah2,afE]
def Mid(z:Bool)(w:World)(b:Nat)(l:List UInt8):Prop:=match z with
 |true=>l=[]/\Gb w b (.pointer (some ⟨b,0,none⟩))
 |false=>Lib.BuilderAt 331 5 b b (.pointer (some ⟨b,0,none⟩)) (Lib.byteCells l) w
theorem a5K(b T:Nat)(w)(h:Gb w b (.pointer none))(f:b<=w.heap.size)(g:T<=281474976710656):
  ai3 290 #[.pointer (some ⟨b,0,none⟩),.int .i64 T] w λe a=>e=.returned (.tuple #[])/\(Mid (T==0) a b []/\Below b w a):=by
 by_cases d:T=0
 ·subst d
  refine(a1V b b w (afA _) h).ai ?_;rintro a ⟨j,i⟩
  exact⟨rfl,⟨rfl,j⟩,i⟩
 ·rw[show(T==0)=false from afW.2 d]
  exact ah.Builder_Grow_fresh b b T w (afA _) h f g
theorem Jf(z)(b)(l)(s)(w)(h:Mid z w b l)(i:z=true->s.size=0)(k:l.length+s.size<=140737488355328)(j:b<=w.heap.size):
  ai3 291 #[.pointer (some ⟨b,0,none⟩),.string s] w λe d=>e=.returned (.tuple #[.int .i64 s.size,.nilIface])/\(Mid z d b (l++s.data.toList)/\Below b w d):=by
 cases z with
 |true=>
  obtain⟨rfl,h⟩:=h
  have e:s=⟨#[]⟩:=by
   obtain⟨a⟩:=s;have:a.size=0:=i rfl
   rw[Array.size_eq_zero_iff.1 this]
  subst e;refine(Yq b b w (afA _) h).ai ?_;rintro d ⟨g,f⟩
  exact⟨rfl,⟨by simp,g⟩,f⟩
 |false=>
  refine(xR b b _ s w (.inr h) (by grind[Lib.byteCells_length]) j).ai ?_;rintro d ⟨g,f⟩;refine⟨rfl,?_,f⟩;show Lib.BuilderAt _ _ _ _ _ (Lib.byteCells (l++s.data.toList)) d
  rw[Lib.byteCells_append,<-Lib.strCells_eq];exact g
theorem Yr(z)(b)(l)(w)(h:Mid z w b l)(d:z=false->l≠[]):
  ai3 292 #[.pointer (some ⟨b,0,none⟩)] w λe a=>e=.returned (.string ⟨l.toArray⟩)/\Below b w a:=by
 cases z with
 |true=>
  obtain⟨rfl,h⟩:=h;exact Vg b b _ w h
 |false=>exact Vf b b l w (.inr h) (d rfl)
theorem a1W(a)(k:Nat)(x)(h:a[k]? =some x)(z)(d:z=((cat a).length==0)):z=true->x.size=0:=by
 intro e
 rw[e]at d
 have g:(cat a).length=0:=by simpa using d.symm
 have f:=MZ a (k+1)
 simp_all[Ht,afE,Lb]
theorem a1X(bk o c)(F)(r)(w)(d:∀j x,(F::r)[j]? =some x->w.cell? ⟨bk,o+j,none⟩=some (.string x))(hbk:bk<w.heap.size)(h2:2<=(F::r).length)(hN:(F::r).length<=140737488355328)(hcap:(F::r).length<=c)(Q:(cat (F::r)).length<=140737488355328):
  ai9 253 #[.slice (some ⟨bk,o,none⟩) (F::r).length c,.string ⟨#[]⟩] w (.string ⟨(cat (F::r)).toArray⟩):=by
 obtain⟨C,hxs⟩:∃C,C=F::r:=⟨_,rfl⟩
 rw[<-hxs]at d h2 hN hcap Q |-
 have HC:=hide d;have Hxs:=hide hxs;have Hlen:=hide Q;have hne0:((C.length:Int)==0)=false:=afW.2 (by omega);have hne1:((C.length:Int)==1)=false:=afW.2 (by omega);clear d hxs Q;go_enter ajw,ntmps253;go_wp2_with fail
 go_loop [5,41] (λn i=>∃k:Nat,k<=C.length/\i=.int .i64 k/\n=.int .i64 ((cat (C.take k)).length:Int)) (λ_ i=>C.length-(intOf i).toNat)
 case atStart=>exact⟨0,afK _,rfl,rfl⟩
 case round=>
  obtain⟨k,R,rfl,rfl⟩:=hrel
  by_cases hkn:k<C.length
  ·obtain⟨x,hx⟩:∃x,C[k]? =some x:=⟨C[k],afP hkn⟩
   have M:=HC.out k x hx;have hstep:(cat (C.take (k+1))).length=(cat (C.take k)).length+x.size:=by rw[Ht C k x hx,afE,Lb]
   have hbound:(cat (C.take (k+1))).length<=140737488355328:=afC (MZ C (k+1)) Hlen.out;generalize hA1:(cat (C.take (k+1))).length=A1 at hstep hbound;generalize (cat (C.take k)).length=A0 at hstep;have HA1:=hide hA1;clear hA1;go_wp2
   exact⟨⟨k+1,by omega,by go_num,by rw[HA1.out];refine congrArg _ ?_;omega⟩,aA⟩
  ·have hke:k=C.length:=by omega
   subst hke
   rw[ag8]
   have hTl:=Hlen.out;have Hz:Hid (∀(k:Nat)(x:ByteArray),C[k]? =some x->((cat C).length==0)=true->x.size=0):=λk x h=>a1W C k x h _ rfl
   generalize hT:(cat C).length=T at hTl Hz |-;have U:=hide hT;clear hT;obtain⟨z,hz⟩:∃z,z=(T==0):=⟨_,rfl⟩;have O:=λwx hx hb=>a5K w.heap.size T wx hx hb (by omega)
   rw[<-hz]at Hz O
   have HZ:=hide hz;clear hz;go_wp2_with fail;refine(O _ (heap_alloc_new w _) (by simp)).ai ?_;rintro w1 ⟨h1,H⟩;have Z:ah' w w1:=((a0n w.heap.size w).alloc (afA _) _).trans H;have hx0:C[0]? =some F:=by rw[Hxs.out];rfl
   have K:w1.cell? ⟨bk,o,none⟩=some (.string F):=by
    rw[Z.cell (p:=⟨bk,o,none⟩) hbk]
    exact HC.out 0 F hx0
   have hw0:=λwx hm hb=>Jf z w.heap.size [] F wx hm (Hz.out 0 F hx0) (by
    have:=MZ C 1
    rw[Ht C 0 F hx0,U.out]at this
    simp only[afE,Lb,List.take_zero,age]at this |-;simp[cat]at this
    omega) hb
   have l:=hide h1;have Hb1:=hide Z;have hBw1:w.heap.size<=w1.heap.size:=Z.size;clear h1 H Z O hx0;go_wp2_with fail;refine(hw0 w1 l.out hBw1).ai ?_;rintro w2 ⟨h2',V⟩;have Y:[]++F.data.toList=cat (C.take (0+1)):=by rw[Hxs.out];simp[cat]
   rw[Y]at h2'
   have t:=hide h2';have Hb2:=hide (Hb1.out.trans V);clear h2' V Y hw0 l Hb1 hBw1 K;have hrl:r.length=C.length-1:=by rw[Hxs.out];simp
   go_wp2_with fail
   go_loopw [65] (λi wr=>∃k:Nat,k<=r.length/\i=.int .i64 k/\Hid (Mid z wr w.heap.size (cat (C.take (k+1))))/\Hid (ah' w wr)) (λi _=>r.length-(intOf i).toNat)
   case atStart=>exact⟨0,afK _,rfl,t,Hb2⟩
   case round=>
    obtain⟨k,hk',rfl,HB,HW⟩:=hrel
    by_cases hkr:k<r.length
    ·obtain⟨y,hy⟩:∃y,C[k+1]? =some y:=⟨C[k+1]'(by omega),afP (by omega)⟩
     have hcy:wr.cell? ⟨bk,o+1+k,none⟩=some (.string y):=by
      rw[HW.out.cell (p:=⟨bk,o+1+k,none⟩) hbk,show o+1+k=o+(k+1) by omega]
      exact HC.out (k+1) y hy
     have hBw:w.heap.size<=wr.heap.size:=HW.out.size;have hle0:=MZ C (k+1);have hle1:=MZ C (k+1+1);have J:=Ht C (k+1) y hy
     rw[U.out]at hle0 hle1
     have hs1:=Jf z w.heap.size (cat (C.take (k+1))) ⟨#[]⟩ wr HB.out (λ_=>rfl) (by show _+0<=_;omega) hBw
     have hs2:=λwx hm hb=>Jf z w.heap.size (cat (C.take (k+1))++[]) y wx hm (Hz.out _ y hy) (by
      rw[J,afE,Lb]at hle1
      rw[ah0]
      omega) hb
     have Hs2:=hide hs2;have Hn:=hide J;clear J hy hle0 hle1 hs2;go_wp2_with fail;refine hs1.ai ?_;rintro L ⟨h3,q⟩;have hBw3:w.heap.size<=L.heap.size:=afC hBw q.size;have E:=hide h3;have Hb3:=hide q;clear h3 q hs1;go_wp2_with fail;refine(Hs2.out L E.out hBw3).ai ?_;rintro w4 ⟨h4,X⟩
     rw[ah0,<-Hn.out]at h4
     have H4:=hide h4;have Hb4:=hide ((HW.out.trans Hb3.out).trans X);clear h4 X;go_wp2
     exact⟨⟨k+1,by omega,by go_num,H4,Hb4⟩,aA⟩
    ·have hke:k=r.length:=by omega
     subst hke;have hfull:C.take (r.length+1)=C:=aga (by omega);have hB':=HB.out
     rw[hfull]at hB'
     have hstr:=Yr z w.heap.size (cat C) wr hB' (λe hn=>by
      have h1:=HZ.out;have h2:=U.out
      rw[hn]at h2
      rw[e,<-h2]at h1
      cases h1)
     clear hB' hfull;go_wp2_with fail;refine hstr.ai ?_;intro w5 W;have Hb5:=hide (HW.out.trans W);clear W;go_wp2;go_ret
     exact⟨rfl,Hb5.out⟩
end a9Q
open a9Q
theorem ah.strings_Join_none(a)(c)(d)(w):
  ai3 253 #[.slice a 0 c,.string d] w λe f=>e=.returned (.string ⟨#[]⟩)/\f=w:=join_none a c d w
theorem ah.strings_Join(k o c)(d:List ByteArray)(g)(w)(a:∀j x,d[j]? =some x->w.cell? ⟨k,o+j,none⟩=some (.string x))(D:k<w.heap.size)(z:d.length<=140737488355328)(h:d.length<=c)(f:(Lib.join (d.map (·.data.toList)) g.data.toList).length<=140737488355328)(i:g=⟨#[]⟩:=by rfl):
  ai9 253 #[.slice (some ⟨k,o,none⟩) d.length c,.string g] w (.string ⟨(Lib.join (d.map (·.data.toList)) g.data.toList).toArray⟩):=by
 subst i
 have C:Lib.join (d.map (·.data.toList)) []=cat d:=by
  unfold Lib.join cat;generalize d.map (·.data.toList)=l;induction l with
  |nil=>rfl
  |cons x r E=>
   cases r<;>simp_all
 have q:Lib.join (d.map (·.data.toList)) (⟨#[]⟩:ByteArray).data.toList=cat d:=C
 rw[q]at f |-
 match d,a,z,h,f with
 |[],_,_,_,_=>exact(join_none _ c _ w).mono λe B⟨t,n⟩=>⟨t,n▸a0n _ _⟩
 |[x],a,_,_,_=>
  refine(join_one k o c x _ w (a 0 x rfl)).mono λe B⟨t,n⟩=>⟨?_,n▸a0n _ _⟩
  rw[t,a8S]
 |x::y::r,a,z,h,f=>grind[a1X]
theorem Ho{k}{a b}(h:a=b):Ending.returned (.int k a)=.returned (.int k b):=by rw[h]
theorem kF(s)(w)(j:s.size<=7):
  ai3 124 #[.string s] w λe d=>e=.returned (.int .i64 (num s.data.toList))/\d=w:=by
 go_enter alO,ntmps124;go_wp2
 go_loop [3,4] (λn i=>∃k:Nat,k<=s.size/\i=.int .i64 k/\n=.int .i64 (num (s.data.toList.take k))) (λ_ i=>s.size-(intOf i).toNat)
 case atStart=>exact⟨0,afK _,rfl,rfl⟩
 case round=>
  obtain⟨k,l,rfl,rfl⟩:=hrel
  by_cases a:k<s.size
  ·obtain⟨g,f⟩:=Mk s k (by omega)
   have o:=Rz s[k];have h:Hid (num (s.data.toList.take (k+1))=256*num (s.data.toList.take k)+(s[k].toNat:Int)):=Fp s k a;go_wp2
   go_round
   case rel=>exact⟨k+1,by omega,by go_num,by rw[h.out]⟩
   case measure=>simp[intOf];omega
  ·exact BC
theorem qB(s)(w)(l:s.size<=7):
  ai3 242 #[.string s] w λe g=>e=.returned (.int .i64 (num s.data.toList))/\g=w:=by
 go_enter ami,ntmps242;go_wp2
 go_loop [3,7] (λn i=>∃k:Nat,k<=s.size/\i=.int .i64 k/\n=.int .i64 (num (s.data.toList.take k))) (λ_ i=>s.size-(intOf i).toNat)
 case atStart=>exact⟨0,afK _,rfl,rfl⟩
 case round=>
  obtain⟨k,o,rfl,rfl⟩:=hrel
  by_cases a:k<s.size
  ·obtain⟨d,h⟩:=Mk s k (by omega)
   have f:=Rz s[k];have j:Hid (num (s.data.toList.take (k+1))=256*num (s.data.toList.take k)+(s[k].toNat:Int)):=Fp s k a;go_wp2
   go_round
   case rel=>exact⟨k+1,by omega,by go_num,by rw[j.out,a8p _ _ d (by omega) f.1 f.2]⟩
   case measure=>simp[intOf];omega
  ·exact BC
end Go.Proofs.Zq
