import Derived.BigQuiet
import Derived.BigRegion
import Derived.RegionTactic
import Derived.Test.YtkdjjnkpfpogkaaGreatDoorK25
set_option maxHeartbeats 8000000
set_option linter.all false
set_option maxRecDepth 20000
namespace Go
def aqE{P:Prop}(h:P:=by
 go_wp2_with (first
  |(go_at_call 84;refine B.ai ?_;intro K v)
  |(go_at_call 85;refine(z K v).ai ?_;intro G C))
 go_ret
 exact⟨rfl,F.becomes (af v C v.size)⟩):P:=h
def oO{P:Prop}(h:P:=by
 go_wp2_with (first
  |(go_at_call 84;refine(MO _ _).ai ?_;intro w1 hb1)
  |(go_at_call 85;refine(oN _ _ _).ai ?_;intro w2 hb2))
 go_ret
 exact⟨rfl,af hb1 hb2 hb1.size⟩):P:=h
def aqL{P:Prop}(h:P:=by
 go_enter ajh,ntmps36
 go_wp2_with (first
  |(go_at_call 84;refine B.ai ?_;intro K v)
  |(go_at_call 85;refine(z K v).ai ?_;intro G C;have i:=af v C v.size;obtain⟨q0,q1,q2,R,ql⟩:=L.out G i;have l:=R (k*3+1);have o:=R (k*3+2);obtain⟨W,X,Y,f0,f1,f2,Z⟩:=H.out G i))
 go_ret
 exact⟨rfl,F.becomes i⟩):P:=h
def aqF{P:Prop}(h:P:=by
 go_wp2_with (go_at_call 84;refine B.ai ?_;intro K v);go_ret
 exact⟨rfl,F.becomes v⟩):P:=h
def aqM{P:Prop}(h:P:=by
 go_wp2_with (first
  |(go_at_call 84;refine B.ai ?_;intro K v)
  |(go_at_call 85;refine(z K v).ai ?_;intro G C;have i:=af v C v.size))
 go_ret
 exact⟨rfl,F.becomes i⟩):P:=h
def aiq{P:Prop}(h:P:=by
 go_enter Qf6,ntmps6;go_wp2;go_ret
 exact⟨_,rfl,⟨mD w _ _ _ _,a9X _ _ _ _,⟨afA _,by simp⟩,λk hk=>(by cases hk),λk hk=>hk.2⟩,(a0n _ _).alloc (afA _) _⟩):P:=h
end Go
namespace Go.Proofs.Zq
open Tryz
open Go.RowKit
open Rl
variable{w:World}{S:Nat->Prop}{p g c k n:Nat}{s:ByteArray}
namespace Rl
theorem qz(f)(r):dO (f::r)=.string f.name::.string f.data::.int .i64 (f.sync:Int)::dO r:=rfl
theorem DR:∀(l:List aD)(k:Nat)(a:k<l.length)(s:Nat),(dO l).set (k*3+2) (.int .i64 (s:Int))=dO (l.set k {l[k]with sync:=s}):=by
 intro l;induction l with
 |nil=>intro k a;simp at a
 |cons f r d=>
  intro k a s;cases k with
  |zero=>rfl
  |succ k=>
   have b:k<r.length:=by simpa using a
   rw[qz,show(k+1)*3+2=(k*3+2)+1+1+1 by omega]
   simp only[ag7,afZ,qz,d k b s]
theorem MN:∀(l:List aD)(k:Nat)(a:k<l.length)(d:ByteArray),(dO l).set (k*3+1) (.string d)=dO (l.set k {l[k]with data:=d}):=by
 intro l;induction l with
 |nil=>intro k a;simp at a
 |cons f r e=>
  intro k a d;cases k with
  |zero=>rfl
  |succ k=>
   have b:k<r.length:=by simpa using a
   rw[qz,show(k+1)*3+1=(k*3+1)+1+1+1 by omega]
   simp only[ag7,afZ,qz,e k b d]
theorem bK.block{a}{m}(h:bK w S p a m)(e:0<m.files.length):∃g c,a=.slice (some ⟨g,0,none⟩) m.files.length c:=by
 obtain⟨_,f⟩|⟨g,d,b,rfl,_⟩:=h.row.2
 ·omega
 simp
theorem bK.store{m}(h:bK w S p (.slice (some ⟨g,0,none⟩) m.files.length c) m)(j)(u)(b)(i:b.length=m.files.length)(o:(dO m.files).set j u=dO b):
  bK (w.setCell ⟨g,j,none⟩ u) S p (.slice (some ⟨g,0,none⟩) m.files.length c) {m with files:=b}/\dJ S w (w.setCell ⟨g,j,none⟩ u):=by
 have a:=h.far g rfl;have d:dJ (λk=>k=g) w (w.setCell ⟨g,j,none⟩ u):=fH (S:=λk=>k=g) (p:=⟨g,j,none⟩) u rfl;refine⟨⟨h.box.touch d (λe=>a.2 e.symm),?_,h.own,h.far,λk f=>by simpa using h.lt k f⟩,fH _ a.1⟩;have:=(h.row.stored j u).1
 grind
theorem bK.drew{w}{S}{p}{a}{m}(h:bK w S p a m):bK w.drew S p a m:=h.later (a0n _ _).drew
theorem bK.at{m}(h:bK w S p (.slice (some ⟨g,0,none⟩) m.files.length c) m)(a:k<m.files.length):
  w.cell? ⟨g,k*3,none⟩=some (.string m.files[k].name)/\w.cell? ⟨g,k*3+1,none⟩=some (.string m.files[k].data)/\w.cell? ⟨g,k*3+2,none⟩=some (.int .i64 (m.files[k].sync:Int))/\(∀j,w.frozen? ⟨g,j,none⟩=false)/\g<w.heap.size:=by
 obtain⟨e,d,b⟩:=kC m.files k a;refine⟨?_,?_,?_,λj=>h.row.frozenAt j,(h.row.lt g rfl).2⟩
 ·rw[h.row.cellAt _ (by omega)];exact e
 ·rw[h.row.cellAt _ (by omega)];exact d
 ·rw[h.row.cellAt _ (by omega)];exact b
theorem bK.becomes{w'}{b}{m}(h:bK w S p b m)(a:ah' w w'):eP S w w' p m:=⟨S,b,h.later a,λ_ d=>.inl d,dJ.aK a⟩
theorem eP.behind{b a}{m}(d:ah' w b)(h:eP S b a p m):eP S w a p m:=by
 obtain⟨r,q,o,l,j⟩:=h;have t:=d.size
 exact⟨r,q,o,λk e=>(l k e).imp id (λx=>by omega),(dJ.aK (S:=S) d).trans j (λi f=>.inl f)⟩
theorem eP.andThen{b a}{d}{f}(i:∀k,f k->S k\/w.heap.size<=k)(e:dJ S w b)(h:eP f b a p d):eP S w a p d:=by
 obtain⟨o,m,l,t,j⟩:=h;have q:=e.size;refine⟨o,m,l,λk r=> ?_,e.trans j i⟩
 grind
theorem fU(s):gP [s]=dK s:=by simp[gP]
theorem kK{m}(h:dK s=false):lC m s=false/\gI m s= -1/\∀b,jd m s b=6:=by grind[lC,gI,jd]
theorem sD{m}(h:dK s=true)(a:m.left=0):lC m s=true:=by simp[lC,h,a]
theorem vP{m}(a:m.left≠0):lC m s=false:=by simp[lC,a]
theorem ic{m}(h:dK s=true)(a:bR s m.files=none):gI m s= -1/\jd m s true=7/\jd m s false=0:=by grind[gI,jd]
theorem ig{m}(h:dK s=true)(a:bR s m.files=some k):gI m s=k/\∀b,jd m s b=0:=by grind[gI,jd]
theorem K9{l}{f}(a:bR f.name l=some k):jU f l=l.set k f:=by grind[jU]
theorem UZ{l}{f}(a:bR f.name l=none):jU f l=kV f l:=by grind[jU]
theorem bK.len{a}{m}(h:bK w S p (.slice a n c) m):n=m.files.length:=by obtain⟨d,b,e⟩:=ay h.row;cases e;rfl
theorem bK.at'{m}(h:bK w S p (.slice (some ⟨g,0,none⟩) n c) m){f}(b:m.files[k]? =some f):
  w.cell? ⟨g,k*3,none⟩=some (.string f.name)/\w.cell? ⟨g,k*3+1,none⟩=some (.string f.data)/\w.cell? ⟨g,k*3+2,none⟩=some (.int .i64 (f.sync:Int))/\(∀j,w.frozen? ⟨g,j,none⟩=false)/\g<w.heap.size:=by
 have e:=h.len;subst e;obtain⟨a,rfl⟩:=afY.1 b;exact h.at a
theorem bK.La{m}(h:bK w S p (.slice (some ⟨g,0,none⟩) n c) m){f}(b:m.files[k]? =some f)(s:Nat):
  bK (w.setCell ⟨g,k*3+2,none⟩ (.int .i64 (s:Int))) S p (.slice (some ⟨g,0,none⟩) n c) {m with files:=m.files.set k {f with sync:=s}}/\dJ S w (w.setCell ⟨g,k*3+2,none⟩ (.int .i64 (s:Int))):=by
 have e:=h.len;subst e;obtain⟨a,rfl⟩:=afY.1 b;exact h.store _ _ _ (by simp) (DR m.files k a _)
theorem bK.Hm{m}(h:bK w S p (.slice (some ⟨g,0,none⟩) n c) m){f}(b:m.files[k]? =some f)(d):
  bK (w.setCell ⟨g,k*3+1,none⟩ (.string d)) S p (.slice (some ⟨g,0,none⟩) n c) {m with files:=m.files.set k {f with data:=d}}/\dJ S w (w.setCell ⟨g,k*3+1,none⟩ (.string d)):=by
 have e:=h.len;subst e;obtain⟨a,rfl⟩:=afY.1 b;exact h.store _ _ _ (by simp) (MN m.files k a _)
end Rl
theorem MO(s)(w):ai9 84 #[.pointer none,.string s] w (.bool false):=by
 go_enter alA,ntmps84;go_wp2;go_ret
 exact aN
theorem oN(s)(b)(w):ai9 85 #[.pointer none,.string s,.bool b] w (.tuple #[.int .i64 (-1),.int .i64 1]):=by
 go_enter ak7,ntmps85;go_wp2;go_ret2
 exact aN
theorem U0(w)(S)(p)(j)(m)(h:bK w S p j m)(Q:m.files.length<=4194304)(hu:aR m.files<=4194304)(T:m.left<=9223372036854775807)(s)(M:s.size<=2097152):
  ai3 30 #[.pointer (some ⟨p,0,none⟩),.string s] w λe w'=>e=.returned (.int .i64 (aV m [s] (bg m s 0)))/\eP S w w' p (aU m [s] (bg m s 0) (dG m s (rX m s))):=by
 have F:=h;have hB:∀r,lC m s=r->ai9 84 #[.pointer (some ⟨p,0,none⟩),.string s] w (.bool r):=λr e=>oK
 have hR:∀q a b,ah' w q->gI m s=a->jd m s true=b->ai9 85 #[.pointer (some ⟨p,0,none⟩),.string s,.bool true] q (.tuple #[.int .i64 a,.int .i64 b]):=λq a b i U V=>aqH
 by_cases u:dK s=true
 ·by_cases E:m.left=0
  ·have y:aV m [s] (bg m s 0)=0:=by unfold aV;rw[fU,afN u,afN E]
   have x:aU m [s] (bg m s 0) (dG m s (rX m s))=m:=lN
   rw[y,x]
   have B:=hB true (sD u E);go_enter ajk,ntmps30;exact aqF
  ·have B:=hB false (vP E)
   cases D:bR s m.files with
   |none=>
    have d:bg m s 0=7:=oM
    have y:aV m [s] (bg m s 0)=7:=iF
    have x:aU m [s] (bg m s 0) (dG m s (rX m s))=m:=ui
    rw[y,x]
    have z:=λq i=>hR q _ _ i (ic u D).1 (ic u D).2.1
    go_enter ajk,ntmps30
    exact aqE
   |some k=>
    obtain⟨hk,A,O⟩:=iD D;have P:bR (G9 m.files[k]).name m.files=some k:=uk
    have d:bg m s 0=0:=by unfold bg;rw[A];rfl
    have y:aV m [s] (bg m s 0)=0:=iF
    have x:aU m [s] (bg m s 0) (dG m s (rX m s))={m with files:=m.files.set k (G9 m.files[k]),left:=nS m.left}:=by unfold aU dG rX;rw[fU,afN ⟨u,E⟩,d,afN rfl,A];simp only[Option.isSome_some,agr];rw[K9 P]
    rw[y,x]
    obtain⟨g,c,rfl⟩:=h.block (by omega);have z:=λq i=>hR q _ _ i (ig u D).1 ((ig u D).2 true)
    have hsz:m.files[k].data.size<=4194304:=afC (vB (afS hk)) hu;have hx:(k:Int)<(m.files.length:Int):=by omega
    have hk0:(0:Int)<=(k:Int):=by omega
    have I:∀q,ah' w q->bK (q.setCell ⟨g,k*3+2,none⟩ (.int .i64 (m.files[k].data.size:Int))).drew S p (.slice (some ⟨g,0,none⟩) m.files.length c) {m with files:=m.files.set k (G9 m.files[k])}/\dJ S q (q.setCell ⟨g,k*3+2,none⟩ (.int .i64 (m.files[k].data.size:Int))).drew:=λq i=>
     ((F.later i).store _ _ _ (by simp) (DR m.files k hk _)).imp bK.drew dJ.drew
    have hC:=λq i=>iT _ S p _ _ (I q i).1 T
    have L:=hide (λq i=>(F.later (w':=q) i).at hk);have H:=hide (λq i=>(F.later (w':=q) i).box);have HS2:=hide (λq i=>(I q i).2);generalize m.files[k]=f at*;go_enter ajk,ntmps30
    go_wp2_with (first
     |(go_at_call 84;refine B.ai ?_;intro K v)
     |(go_at_call 85;refine(z K v).ai ?_;intro G C;have i:=af v C v.size;obtain⟨q0,q1,q2,R,ql⟩:=L.out G i;have o:=R (k*3+2);obtain⟨W,X,Y,f0,f1,f2,Z⟩:=H.out G i))
    go_region
    go_wp2_with (go_at_call 88;refine(hC G i).ai ?_;rintro J ⟨hd3,N⟩);go_ret
    exact⟨rfl,eP.behind i ⟨S,_,hd3,λ_ h=>.inl h,(HS2.out G i).trans N (λ_ h=>.inl h)⟩⟩
 ·have l:dK s=false:=by simpa using u
  have y:aV m [s] (bg m s 0)=6:=oL
  have x:aU m [s] (bg m s 0) (dG m s (rX m s))=m:=oJ
  rw[y,x]
  have B:=hB false (kK l).1;have z:=λq i=>hR q _ _ i (kK l).2.1 ((kK l).2.2 true)
  go_enter ajk,ntmps30
  exact aqE
theorem a1O{n}(J: -9223372036854775808<=n)(h1:n<=9223372036854775807):IntKind.i64.wrap n=n:=aW
theorem OD(w)(S)(p)(j)(m)(h:bK w S p j m)(Q:m.files.length<=4194304)(_hu:aR m.files<=4194304)(L:m.left<=9223372036854775807)(s)(M:s.size<=2097152):
  ai3 34 #[.pointer (some ⟨p,0,none⟩),.string s] w λe X=>e=.returned (.int .i64 (aV m [s] (bg m s 0)))/\eP S w X p (aU m [s] (bg m s 0) (dG m s (jV m s))):=by
 have F:=h;have T:∀r,lC m s=r->ai9 84 #[.pointer (some ⟨p,0,none⟩),.string s] w (.bool r):=λr e=>oK
 have R:∀q a b,ah' w q->gI m s=a->jd m s true=b->ai9 85 #[.pointer (some ⟨p,0,none⟩),.string s,.bool true] q (.tuple #[.int .i64 a,.int .i64 b]):=λq a b i U V=>aqH
 by_cases u:dK s=true
 ·by_cases E:m.left=0
  ·have o:aV m [s] (bg m s 0)=0:=by unfold aV;rw[fU,afN u,afN E]
   have l:aU m [s] (bg m s 0) (dG m s (jV m s))=m:=lN
   rw[o,l]
   have B:=T true (sD u E);go_enter ajl,ntmps34;exact aqF
  ·have B:=T false (vP E)
   cases D:bR s m.files with
   |none=>
    have d:bg m s 0=7:=oM
    have o:aV m [s] (bg m s 0)=7:=iF
    have l:aU m [s] (bg m s 0) (dG m s (jV m s))=m:=ui
    rw[o,l]
    have z:=λq i=>R q _ _ i (ic u D).1 (ic u D).2.1
    go_enter ajl,ntmps34
    exact aqM
   |some k=>
    obtain⟨Y,x,O⟩:=iD D;have d:bg m s 0=0:=by unfold bg;rw[x];rfl
    have o:aV m [s] (bg m s 0)=0:=iF
    have l:aU m [s] (bg m s 0) (dG m s (jV m s))={m with files:=m.files.eraseIdx k,left:=nS m.left}:=by unfold aU dG jV;rw[fU,afN ⟨u,E⟩,d,afN rfl,x,D];rfl
    rw[o,l]
    have z:=λq i=>R q _ _ i (ig u D).1 ((ig u D).2 true)
    have Z:=λq i=>DN q S p j m k (F.later i) Q Y
    go_enter ajl,ntmps34
    go_wp2_with (first
     |(go_at_call 84;refine B.ai ?_;intro K v)
     |(go_at_call 85;refine(z K v).ai ?_;intro G C;have i:=af v C v.size)
     |(go_at_call 92;refine(Z G i).ai ?_;rintro J ⟨W,y,P,I,H⟩)
     |(go_at_call 88;refine(iT J W p y _ P L).ai ?_;rintro w4 ⟨N,A⟩))
    go_ret
    exact⟨rfl,eP.behind i (eP.andThen I H ⟨W,y,N,λ_ h=>.inl h,A⟩)⟩
 ·have f:dK s=false:=by simpa using u
  have o:aV m [s] (bg m s 0)=6:=oL
  have l:aU m [s] (bg m s 0) (dG m s (jV m s))=m:=oJ
  rw[o,l]
  have B:=T false (kK f).1;have z:=λq i=>R q _ _ i (kK f).2.1 ((kK f).2.2 true)
  go_enter ajl,ntmps34
  exact aqE
theorem KH(w)(S)(p)(j)(m)(h:bK w S p j m)(Q:m.files.length<=4194304)(hu:aR m.files<=4194304)(hl1:m.left<=9223372036854775807)(s)(M:s.size<=2097152)(n):
  ai3 36 #[.pointer (some ⟨p,0,none⟩),.string s,.int .i64 n] w λe w'=>e=.returned (.int .i64 (aV m [s] (bg m s (fK m s n))))/\eP S w w' p (aU m [s] (bg m s (fK m s n)) (dG m s (lq m s n))):=by
 have F:=h;have hB:∀r,lC m s=r->ai9 84 #[.pointer (some ⟨p,0,none⟩),.string s] w (.bool r):=λr e=>oK
 have hR:∀q a b,ah' w q->gI m s=a->jd m s true=b->ai9 85 #[.pointer (some ⟨p,0,none⟩),.string s,.bool true] q (.tuple #[.int .i64 a,.int .i64 b]):=λq a b i U V=>aqH
 by_cases u:dK s=true
 ·by_cases E:m.left=0
  ·have eE:aV m [s] (bg m s (fK m s n))=0:=by unfold aV;rw[fU,afN u,afN E]
   have eM:aU m [s] (bg m s (fK m s n)) (dG m s (lq m s n))=m:=lN
   rw[eE,eM]
   have B:=hB true (sD u E);go_enter ajh,ntmps36;exact aqF
  ·have B:=hB false (vP E)
   cases D:bR s m.files with
   |none=>
    have d:bg m s (fK m s n)=7:=oM
    have eE:aV m [s] (bg m s (fK m s n))=7:=iF
    have eM:aU m [s] (bg m s (fK m s n)) (dG m s (lq m s n))=m:=ui
    rw[eE,eM]
    have z:=λq i=>hR q _ _ i (ic u D).1 (ic u D).2.1
    go_enter ajh,ntmps36
    exact aqM
   |some k=>
    obtain⟨hk,I,O⟩:=iD D;obtain⟨g,c,rfl⟩:=h.block (by omega);have z:=λq i=>hR q _ _ i (ig u D).1 ((ig u D).2 true)
    have hsz:m.files[k].data.size<=4194304:=afC (vB (afS hk)) hu;have hx:(k:Int)<(m.files.length:Int):=by omega
    have hk0:(0:Int)<=(k:Int):=by omega
    have L:=hide (λq i=>(F.later (w':=q) i).at hk);have H:=hide (λq i=>(F.later (w':=q) i).box)
    by_cases A:n<0\/(m.files[k].data.size:Int)<n
    ·have eT:fK m s n=5:=by unfold fK;rw[I];simp only;rw[afN A]
     have d:bg m s (fK m s n)=5:=by unfold bg;rw[I,eT];rfl
     have eE:aV m [s] (bg m s (fK m s n))=5:=iF
     have eM:aU m [s] (bg m s (fK m s n)) (dG m s (lq m s n))=m:=by unfold aU dG lq;rw[fU,afN ⟨u,E⟩,d,afJ (by decide),I];simp only[Option.isSome_some,agr];rw[afN A]
     rw[eE,eM]
     generalize m.files[k]=f at*
     by_cases hneg:n<0
     ·have hd:decide (n<0)=true:=afL hneg
      exact aqL
     ·have hd:decide (n<0)=false:=afG hneg
      have hgt:(f.data.size:Int)<n:=by omega
      have hd2:decide ((f.data.size:Int)<n)=true:=afL hgt;exact aqL
    ·obtain⟨N,rfl⟩:∃N:Nat,n=(N:Int):=⟨n.toNat,by omega⟩
     have hN:N<=m.files[k].data.size:=by omega
     have hp2:bR (mQ m.files[k] N).name m.files=some k:=uk
     have eT:fK m s N=0:=by unfold fK;rw[I];simp only;rw[afJ A]
     have d:bg m s (fK m s N)=0:=by unfold bg;rw[I,eT];rfl
     have eE:aV m [s] (bg m s (fK m s N))=0:=iF
     have eM:aU m [s] (bg m s (fK m s N)) (dG m s (lq m s N))={m with files:=m.files.set k (mQ m.files[k] N),left:=nS m.left}:=by unfold aU dG lq;rw[fU,afN ⟨u,E⟩,d,afN rfl,I];simp only[Option.isSome_some,agr];rw[afJ A,ah9,K9 hp2]
     rw[eE,eM]
     have hd:decide ((N:Int)<0)=false:=afG (by omega);have hd2:decide ((m.files[k].data.size:Int)<(N:Int))=false:=afG (by omega);have hget:m.files[k]? =some m.files[k]:=afP hk;have hset:∀x:aD,(m.files.set k x)[k]? =some x:=λx=>by rw[List.getElem?_set_self hk]
     have hss:∀x y:aD,(m.files.set k x).set k y=m.files.set k y:=λx y=>List.set_set ..
     generalize m.files[k]=f at*;have aem:f.sync<=N->Hid (m.files.set k (mQ f N)=m.files.set k {f with data:=f.data.extract 0 N}):=λhle=>by unfold Hid mQ;rw[Nat.min_eq_left hle]
     have aen:N<f.sync->Hid (m.files.set k (mQ f N)=(m.files.set k {f with data:=f.data.extract 0 N}).set k {name:=f.name,data:=f.data.extract 0 N,sync:=N}):=λhle=>by unfold Hid mQ;rw[hss,Nat.min_eq_right (Nat.le_of_lt hle)]
     generalize mQ f N=fz at*;have H1:=hide (λq i=>((F.later (w':=q) i).Hm hget (f.data.extract 0 N)).imp bK.drew dJ.drew);have HG:=hide (hset {f with data:=f.data.extract 0 N});go_enter ajh,ntmps36
     go_wp2_with (first
      |(go_at_call 84;refine B.ai ?_;intro K v)
      |(go_at_call 85;refine(z K v).ai ?_;intro G C;have i:=af v C v.size;obtain⟨q0,q1,q2,R,ql⟩:=L.out G i;have l:=R (k*3+1);have o:=R (k*3+2);obtain⟨W,X,Y,f0,f1,f2,Z⟩:=H.out G i))
     go_region
     obtain⟨T,ht3⟩:=H1.out G i;obtain⟨r0,r1,r2,rf,rl⟩:=T.at' HG.out;have rf2:=rf (k*3+2);obtain⟨e0,U,V,y0,y1,y2,el⟩:=T.box;have HD3:=hide T;have HT3:=hide ht3;generalize (G.setCell ⟨g,k*3+1,none⟩ (.string (f.data.extract 0 N))).drew=J at*
     by_cases hcut:N<f.sync
     ·have T:decide (((N:Nat):Int)<(f.sync:Int))=true:=afL (by omega)
      have HX:=aen hcut;have H2:=hide (HD3.out.La HG.out N);go_wp2_with (go_at_call 88;refine(iT _ S p _ _ H2.out.1 hl1).ai ?_;rintro w4 ⟨hd4,ht4⟩);go_ret
      rw[HX.out]
      exact⟨rfl,eP.behind i ⟨S,_,hd4,λ_ h=>.inl h,HT3.out.trans (H2.out.2.trans ht4 (λ_ h=>.inl h)) (λ_ h=>.inl h)⟩⟩
     ·have T:decide (((N:Nat):Int)<(f.sync:Int))=false:=afG (by omega)
      have HX:=aem (by omega);go_wp2_with (go_at_call 88;refine(iT J S p _ _ HD3.out hl1).ai ?_;rintro w4 ⟨hd4,ht4⟩);go_ret
      rw[HX.out]
      exact⟨rfl,eP.behind i ⟨S,_,hd4,λ_ h=>.inl h,HT3.out.trans ht4 (λ_ h=>.inl h)⟩⟩
 ·have P:dK s=false:=by simpa using u
  have eE:aV m [s] (bg m s (fK m s n))=6:=oL
  have eM:aU m [s] (bg m s (fK m s n)) (dG m s (lq m s n))=m:=oJ
  rw[eE,eM]
  have B:=hB false (kK P).1;have z:=λq i=>hR q _ _ i (kK P).2.1 ((kK P).2.2 true)
  go_enter ajh,ntmps36
  exact aqE
theorem OE(w)(S)(p)(j)(m)(h:bK w S p j m)(Q:m.files.length<=4194304)(hu:aR m.files<=4194304)(hl1:m.left<=9223372036854775807)(s)(M:s.size<=2097152)(d)(hr0:0<=m.room)(hr1:m.room<=9223372036854775807)(_hds:d.size<=4194304):
  ai3 28 #[.pointer (some ⟨p,0,none⟩),.string s,.string d] w λe w'=>e=.returned (.int .i64 (aV m [s] (FY m d)))/\eP S w w' p (aU m [s] (FY m d) (K8 m s d)):=by
 have F:=h;have hB:∀r,lC m s=r->ai9 84 #[.pointer (some ⟨p,0,none⟩),.string s] w (.bool r):=λr e=>oK
 have hR:∀q a b,ah' w q->gI m s=a->jd m s false=b->ai9 85 #[.pointer (some ⟨p,0,none⟩),.string s,.bool false] q (.tuple #[.int .i64 a,.int .i64 b]):=λq a b i U V=>by rw[<-U,<-V];exact kM q S p j m s false (F.later i) M Q
 by_cases u:dK s=true
 ·by_cases E:m.left=0
  ·have N:aV m [s] (FY m d)=0:=by unfold aV;rw[fU,afN u,afN E]
   have I:aU m [s] (FY m d) (K8 m s d)=m:=lN
   rw[N,I]
   have B:=hB true (sD u E);go_enter ajf,ntmps28;exact aqF
  ·have B:=hB false (vP E)
   have hU:=λq i=>JV q S p j m (F.later (w':=q) i) hu Q
   have H:=hide (λq i=>(F.later (w':=q) i).box);have hw:IntKind.i64.wrap (m.room-(aR m.files:Int))=m.room-(aR m.files:Int):=a1O (by omega) (by omega)
   by_cases o:m.room-(aR m.files:Int)<(d.size:Int)
   ·have N:aV m [s] (FY m d)=8:=by unfold aV FY;rw[fU,afN u,afJ E,afN o]
    have I:aU m [s] (FY m d) (K8 m s d)=m:=by unfold aU FY K8;rw[fU,afN ⟨u,E⟩,afN o,afJ (by decide),afN o]
    rw[N,I]
    have hd2:decide (m.room-(aR m.files:Int)<(d.size:Int))=true:=afL o;obtain⟨pl,hpl⟩:∃pl,gI m s=pl:=⟨_,rfl⟩;have hre:jd m s false=0:=by unfold jd;rw[afN u];cases bR s m.files<;>rfl
    have z:=λq i=>hR q _ _ i hpl hre
    generalize aR m.files=us at*;go_enter ajf,ntmps28
    go_wp2_with (first
     |(go_at_call 84;refine B.ai ?_;intro K v)
     |(go_at_call 85;refine(z K v).ai ?_;intro G C;have i:=af v C v.size)
     |(go_at_call 86;refine(hU G i).ai ?_;intro J A;have x:=af i A i.size;obtain⟨W,X,Y,f0,f1,f2,Z⟩:=H.out J x))
    go_ret
    exact⟨rfl,F.becomes x⟩
   ·have hd2:decide (m.room-(aR m.files:Int)<(d.size:Int))=false:=afG o
    have N:aV m [s] (FY m d)=0:=by unfold aV FY;rw[fU,afN u,afJ E,afJ o]
    have eM0:aU m [s] (FY m d) (K8 m s d)={m with files:=jU (apF m s d) m.files,left:=nS m.left}:=by unfold aU FY K8;rw[fU,afN ⟨u,E⟩,afJ o,afN rfl,afJ o]
    cases D:bR s m.files with
    |none=>
     have I:aU m [s] (FY m d) (K8 m s d)={m with files:=kV ⟨s,d,0⟩ m.files,left:=nS m.left}:=by rw[eM0];unfold apF;rw[ll D];simp only;rw[UZ (f:=⟨s,d,0⟩) D]
     rw[N,I]
     have z:=λq i=>hR q _ _ i (ic u D).1 (ic u D).2.2
     have hD:=λq i=>F6 q S p j m ⟨s,d,0⟩ (F.later i) Q
     generalize aR m.files=us at*;go_enter ajf,ntmps28
     go_wp2_with (first
      |(go_at_call 84;refine B.ai ?_;intro K v)
      |(go_at_call 85;refine(z K v).ai ?_;intro G C;have i:=af v C v.size)
      |(go_at_call 86;refine(hU G i).ai ?_;intro J A;have x:=af i A i.size;obtain⟨W,X,Y,f0,f1,f2,Z⟩:=H.out J x)
      |(go_at_call 87;refine(hD _ x).ai ?_;rintro w4 ⟨S3,fv3,hd3,hs3,ht3⟩)
      |(go_at_call 88;refine(iT w4 S3 p fv3 _ hd3 hl1).ai ?_;rintro w5 ⟨T,P⟩))
     go_ret
     exact⟨rfl,eP.behind x (eP.andThen hs3 ht3 ⟨S3,fv3,T,λ_ h=>.inl h,P⟩)⟩
    |some k=>
     obtain⟨hk,hlk,O⟩:=iD D;obtain⟨g,c,rfl⟩:=h.block (by omega)
     have I:aU m [s] (FY m d) (K8 m s d)={m with files:=m.files.set k {m.files[k]with data:=m.files[k].data++d},left:=nS m.left}:=by rw[eM0];unfold apF;rw[hlk];simp only;rw[K9 (f:={m.files[k]with data:=m.files[k].data++d}) (k:=k) uk]
     rw[N,I]
     have z:=λq i=>hR q _ _ i (ig u D).1 ((ig u D).2 false)
     have hx:(k:Int)<(m.files.length:Int):=by omega
     have hk0:(0:Int)<=(k:Int):=by omega
     have hk1:decide ((k:Int)<0)=false:=afG (by omega);have hsz:m.files[k].data.size<=4194304:=afC (vB (afS hk)) hu;have L:=hide (λq i=>(F.later (w':=q) i).at hk);have hget:m.files[k]? =some m.files[k]:=afP hk;generalize m.files[k]=f at*;have H1:=hide (λq i=>((F.later (w':=q) i).Hm hget (f.data++d)).imp bK.drew dJ.drew);generalize aR m.files=us at*;go_enter ajf,ntmps28
     go_wp2_with (first
      |(go_at_call 84;refine B.ai ?_;intro K v)
      |(go_at_call 85;refine(z K v).ai ?_;intro G C;have i:=af v C v.size)
      |(go_at_call 86;refine(hU G i).ai ?_;intro J A;have x:=af i A i.size;obtain⟨W,X,Y,f0,f1,f2,Z⟩:=H.out J x;obtain⟨q0,q1,q2,R,ql⟩:=L.out J x;have l:=R (k*3+1)))
     go_region
     go_wp2_with (go_at_call 88;refine(iT _ S p _ _ (H1.out J x).1 hl1).ai ?_;rintro w5 ⟨T,P⟩);go_ret
     exact⟨rfl,eP.behind x ⟨S,_,T,λ_ h=>.inl h,(H1.out J x).2.trans P (λ_ h=>.inl h)⟩⟩
 ·have y:dK s=false:=by simpa using u
  have N:aV m [s] (FY m d)=6:=oL
  have I:aU m [s] (FY m d) (K8 m s d)=m:=oJ
  rw[N,I]
  have B:=hB false (kK y).1;have z:=λq i=>hR q _ _ i (kK y).2.1 ((kK y).2.2 false)
  go_enter ajf,ntmps28
  exact aqE
theorem Yi(c)(w):ai3 6 #[.int .i64 c] w λe a=>∃p,e=.returned (.pointer (some ⟨p,0,none⟩))/\bK a (λk=>w.heap.size<=k/\k<a.heap.size) p (.slice none 0 0) ⟨max c 0,[],-1⟩/\ah' w a:=by
 by_cases b:c<0
 ·have d:decide (c<0)=true:=afL b
  rw[show max c 0=0 by omega]
  exact aiq
 ·have d:decide (c<0)=false:=afG b
  rw[show max c 0=c by omega]
  exact aiq
theorem RO(w)(S)(p)(d)(m)(h:bK w S p d m)(n):
  ai3 38 #[.pointer (some ⟨p,0,none⟩),.int .i64 n] w λe f=>e=.returned (.int .i64 (if n<0 then 5 else 0))/\eP S w f p (if n<0 then m else{m with left:=n}):=by
 obtain⟨c0,c1,c2,r,q,o,l⟩:=h.box;have b:=h
 by_cases a:n<0
 ·rw[afN a,afN a]
  have j:decide (n<0)=true:=afL a;go_enter alc,ntmps38;go_wp2;go_ret
  exact⟨rfl,b.becomes (a0n _ _)⟩
 ·rw[afJ a,afJ a]
  have j:decide (n<0)=false:=afG a;go_enter alc,ntmps38;go_wp2;go_ret
  exact⟨rfl,S,d,b.yI n,λ_ i=>.inl i,fH _ b.own⟩
theorem RP(w)(S)(p)(a)(m)(h:bK w S p a m)(b:aR m.files<=4194304)(d:m.files.length<=4194304):
  ai9 46 #[.pointer (some ⟨p,0,none⟩)] w (.tuple #[.int .i64 (aR m.files:Int),.int .i64 0]):=by
 have f:=JV w S p a m h b d;go_enter alv,ntmps46;go_wp2_with (go_at_call 86;refine f.ai ?_;intro i e);go_ret2
 exact bX
theorem U5(w)(S)(p)(A)(m)(h:bK w S p A m)(D:m.files.length<=4194304)(s)(C:s.size<=2097152):
  ai9 42 #[.pointer (some ⟨p,0,none⟩),.string s] w (.tuple #[.string (kH m s),.int .i64 (rY m s)]):=by
 have B:=h;have x:∀a b,gI m s=a->jd m s true=b->ai9 85 #[.pointer (some ⟨p,0,none⟩),.string s,.bool true] w (.tuple #[.int .i64 a,.int .i64 b]):=λa b I H=>by rw[<-I,<-H];exact kM w S p A m s true h C D
 by_cases d:dK s=true
 ·cases l:bR s m.files with
  |none=>
   have q:kH m s=⟨#[]⟩:=by unfold kH;rw[afN d,ll l]
   have r:rY m s=7:=by unfold rY;rw[afN d,ll l]
   rw[q,r]
   have i:=x _ _ (ic d l).1 (ic d l).2.1;go_enter ak6,ntmps42;go_wp2_with (go_at_call 85;refine i.ai ?_;intro t e);go_ret2
   exact bX
  |some k=>
   obtain⟨G,o,E⟩:=iD l;obtain⟨g,c,rfl⟩:=h.block (by omega);have q:kH m s=m.files[k].data:=by unfold kH;rw[afN d,o]
   have r:rY m s=0:=by unfold rY;rw[afN d,o]
   rw[q,r]
   have i:=x _ _ (ig d l).1 ((ig d l).2 true);have O:(k:Int)<(m.files.length:Int):=by omega
   have F:(0:Int)<=(k:Int):=by omega
   have z:=hide (λu v=>(B.later (w':=u) v).at G);have y:=hide (λu v=>(B.later (w':=u) v).box);generalize m.files[k]=f at*;go_enter ak6,ntmps42;go_wp2_with (go_at_call 85;refine i.ai ?_;intro t e;obtain⟨N,M,L,K,J⟩:=z.out t e;obtain⟨W,V,U,R,Q,P,T⟩:=y.out t e);go_ret2
   exact bX
 ·have j:dK s=false:=by simpa using d
  have q:kH m s=⟨#[]⟩:=by unfold kH;rw[afJ d]
  have r:rY m s=6:=by unfold rY;rw[afJ d]
  rw[q,r]
  have i:=x _ _ (kK j).2.1 ((kK j).2.2 true);go_enter ak6,ntmps42;go_wp2_with (go_at_call 85;refine i.ai ?_;intro t e);go_ret2
  exact bX
theorem a8L(a)(s):mP (a++[s])=mP a++[.string s]:=by simp[mP]
theorem a8M(s):∀u∈[Value.string s],u.oneCell'=true:=by intro u d;exact ahg
theorem a5z:(ah.prog.info? 9).map (λi=>(i.zero,i.size,i.bytes))=some (some (.string ⟨#[]⟩),1,16):=by kernel_rfl
theorem U6(w)(S)(p)(N)(m)(h:bK w S p N m)(hn:m.files.length<=4194304):
  ai3 44 #[.pointer (some ⟨p,0,none⟩)] w λe w'=>∃v,e=.returned (.tuple #[v,.int .i64 0])/\w'.ownsRow w.heap.size 9 1 v m.files.length (mP (m.files.map λf=>f.name))/\ah' w w':=by
 obtain⟨i0,hi,hz0,hz1,hz2⟩:=ahC a5z;obtain⟨c0,c1,c2,f0,f1,f2,hl⟩:=h.box;have Y:=aM h.row;obtain⟨V,U,rfl⟩:=ay h.row;generalize m.files=l at*;go_enter als,ntmps44;go_wp2
 go_loopw [4,5] (λx i wr=>∃(k:Nat)(E:Value),E=x/\k<=l.length/\i=.int .i64 k/\wr.ownsRow w.heap.size 9 1 E k (mP ((l.take k).map λf=>f.name))/\ah' w wr) (λ_ i _=>l.length-(intOf i).toNat)
 case atStart=>exact⟨0,_,rfl,afK _,rfl,a9X _ _ _ _,a0n _ _⟩
 case round=>
  obtain⟨k,E,rfl,R,rfl,F,hb⟩:=hrel
  by_cases Z:k<l.length
  ·obtain⟨_,_,_,J⟩|⟨g,o,O,e,_,L,M⟩:=(Y.later hb).2
   ·omega
   ·cases e
    obtain⟨g1,g2,g3⟩:=kC l k Z;have q0:wr.cell? ⟨g,o+k*3,none⟩=_:=M _ _ g1;have d0:=(hb.cell (p:=⟨p,0,none⟩) hl).trans c0;have d1:=(hb.cell (p:=⟨p,1,none⟩) hl).trans c1
    have HS:Hid (mP ((l.take (k+1)).map λf=>f.name)=mP ((l.take k).map λf=>f.name)++[.string l[k].name]):=by unfold Hid;rw[afH Z,agD,List.map_singleton,a8L]
    have hx:(k:Int)<(l.length:Int):=by omega
    have I:(0:Int)<=(k:Int):=by omega
    generalize l[k].name=d at*;go_wp2_with (at_builtin;refine af4 _ rfl _ _ 28 rfl w.heap.size 9 i0 (.string ⟨#[]⟩) 1 16 aiO hi hz0 hz1 hz2 rfl (by decide) _ _ _ rfl (F.alloc _) ⟨wr.heap.size,0,none⟩ 1 1 [.string d] rfl rfl (cu _ _ _) (a8M d) aB (by omega) (afC hb.size (by simp)) ?_;intro y w5 X z _)
    exact⟨⟨k+1,y,rfl,by omega,by go_num,by rw[HS.out];exact X,dX hb hb.size F z⟩,aA⟩
  ·have e:k=l.length:=by omega
   subst e;have d0:=(hb.cell (p:=⟨p,0,none⟩) hl).trans c0;have d1:=(hb.cell (p:=⟨p,1,none⟩) hl).trans c1;have Q:=F;go_wp2;go_ret2;have u:=Q
   rw[ag8]at u
   exact⟨_,rfl,u,hb⟩
theorem MP(s d)(w):ai9 28 #[.pointer none,.string s,.string d] w (.int .i64 1):=by
 go_enter ajf,ntmps28
 exact oO
theorem RQ(s)(w):ai9 30 #[.pointer none,.string s] w (.int .i64 1):=by
 go_enter ajk,ntmps30
 exact oO
theorem MQ(s)(w):ai9 34 #[.pointer none,.string s] w (.int .i64 1):=by
 go_enter ajl,ntmps34
 exact oO
theorem Jb(s)(n)(w):ai9 36 #[.pointer none,.string s,.int .i64 n] w (.int .i64 1):=by
 go_enter ajh,ntmps36
 exact oO
theorem OG(n)(w):ai9 38 #[.pointer none,.int .i64 n] w (.int .i64 1):=by
 go_enter alc,ntmps38;go_wp2;go_ret
 exact aN
theorem OH(d)(w):ai9 40 #[.pointer none,d] w (.int .i64 1):=by
 go_enter alp,ntmps40;go_wp2;go_ret
 exact aN
theorem RS(w):ai9 44 #[.pointer none] w (.tuple #[.slice none 0 0,.int .i64 1]):=by
 go_enter als,ntmps44;go_wp2;go_ret2
 exact aN
theorem RU(w):ai9 46 #[.pointer none] w (.tuple #[.int .i64 0,.int .i64 1]):=by
 go_enter alv,ntmps46;go_wp2;go_ret2
 exact aN
theorem RV(s)(w):ai9 42 #[.pointer none,.string s] w (.tuple #[.string ⟨#[]⟩,.int .i64 1]):=by
 go_enter ak6,ntmps42;go_wp2_with (go_at_call 85;refine(oN _ _ _).ai ?_;intro b a);go_ret2
 exact⟨rfl,a⟩
theorem P9(e f)(w):ai3 91 #[.int .i64 e,.int .i64 f] w λr w'=>r=.returned (.int .i64 (if e=0 then f else e))/\w'=w:=by
 by_cases d:e=0
 ·subst d
  go_enter alE,ntmps91;exact cB
 ·rw[afJ d]
  have L:(e != 0)=true:=by simpa using d
  go_enter alE,ntmps91;exact cB
theorem MR(s t)(w):ai9 32 #[.pointer none,.string s,.string t] w (.int .i64 1):=by
 go_enter ajg,ntmps32
 go_wp2_with (first
  |(go_at_call_of 85 (s);refine(oN _ _ _).ai ?_;intro f a)
  |(go_at_call_of 85 (t);refine(oN _ _ _).ai ?_;intro e b)
  |(go_at_call 91;refine(P9 _ _ _).ai ?_;intro d rfl))
 go_ret
 exact⟨rfl,af a b a.size⟩
end Go.Proofs.Zq
