import Derived.Test.YtkdjjnkpfpogkaaGreatDoorK26
set_option maxHeartbeats 8000000
set_option linter.all false
set_option maxRecDepth 20000
namespace Go
def Bu{P:Prop}(h:P:=by
 have HE:=hide (Ja HS.out (F7 f n f.sync hN) (D:=f.data.extract 0 f.sync) (by first|rfl|exact ByteArray.extract_zero_size.symm));go_wp2_with fail
 go_region
 obtain⟨l,b⟩:=HR.out.Hm HG.out (f.data.extract 0 f.sync);have t:=(l.later ((a0n _ _).alloc (afA _) (.cells #[.string f.name,.string f.data,.int .i64 (f.sync:Int)] 127))).drew;have u:=(b.alloc (.cells #[.string f.name,.string f.data,.int .i64 (f.sync:Int)] 127)).drew;have bx:G7 (((wr.setCell ⟨g,k*3+1,none⟩ (.string (f.data.extract 0 f.sync))).alloc (.cells #[.string f.name,.string f.data,.int .i64 (f.sync:Int)] 127)).drew) wr.heap.size (.string f.name) (.string f.data) (.int .i64 (f.sync:Int)):=Ga wr g (k*3+1) _ _ _ _ _;obtain⟨O,b1,b2,_,_,_,bl⟩:=bx;obtain⟨r0,r1,r2,C,G⟩:=t.at' (f:={f with data:=f.data.extract 0 f.sync}) (Ey HG.out _);have F:=C (k*3+2);obtain⟨e0,e1,e2,z0,z1,H,B⟩:=t.box;have z:=hide (t.La (f:={f with data:=f.data.extract 0 f.sync}) (Ey HG.out _) f.sync);have W:=hide u;clear l b t u C q0 q1 q2 ql v y d0 d1 d2 y0 y1 y2 E;generalize ((wr.setCell ⟨g,k*3+1,none⟩ (.string (f.data.extract 0 f.sync))).alloc (.cells #[.string f.name,.string f.data,.int .i64 (f.sync:Int)] 127)).drew=s at*;go_wp2_with fail
 go_region
 go_wp2_with fail
 exact⟨⟨k+1,by omega,by go_num,DT z.out.1.drew HE.out,(a.out.trans W.out (λ_ x=>.inl x)).trans z.out.2.drew (λ_ x=>.inl x)⟩,by simp[intOf];omega⟩):P:=h
def Bv{P:Prop}(h:P:=by
 go_wp2_with fail
 go_region
 go_wp2_with fail
 exact⟨⟨k+1,by omega,by go_num,DT z.out.1.drew HE.out,(a.out.trans W.out (λ_ x=>.inl x)).trans z.out.2.drew (λ_ x=>.inl x)⟩,by simp[intOf];omega⟩):P:=h
def aqN{P:Prop}(h:P:=by
 go_enter ajg,ntmps32
 go_wp2_with (first
  |(go_at_call_of 85 (t);refine(n K v).ai ?_;intro G C;have i:=af v C v.size)
  |(go_at_call_of 85 (s);refine(z w (a0n _ _)).ai ?_;intro K v)
  |(go_at_call 91;refine(P9 _ _ _).ai ?_;intro J rfl))
 go_ret
 exact⟨rfl,F.becomes i⟩):P:=h
end Go
namespace Go.Proofs.Zq
open Tryz
open Go.RowKit
open Rl
variable{w w':World}{S I T:Nat->Prop}{p N k c:Nat}{A:Value}{o:Obj}{ow mg:Nat->Nat}
namespace Rl
theorem Jc(a b):gP [a,b]=(dK a&&dK b):=by simp[gP]
theorem bK.a01{m:az}(h:bK w S p A m)(a:¬S N)(i:Nat)(u:Value):bK (w.setCell ⟨N,i,none⟩ u) S p A m:=
 h.touch (fH (S:=λk=>k=N) (p:=⟨N,i,none⟩) u rfl) (λk b e=>a (by grind))
theorem a02(a:∀k,I k->S k\/(w.alloc o).heap.size<=k)(b:¬S w.heap.size):¬I w.heap.size:=by intro h;obtain x|x:=a _ h<;>(simp_all<;>omega)
theorem a5A(a:∀k,I k->S k\/w.heap.size<=k)(b:¬S N)(d:N<w.heap.size):¬I N:=by grind
theorem a9N{b a}(d:ah' w b)(e:dJ S (b.alloc o) a):dJ S w a:=
 (dJ.aK (S:=S) (d.alloc d.size o)).trans e (λ_ h=>.inl h)
theorem a03{g e:Nat->Prop}{a i f q h:World}{d:Value}{t:az}{u:Value}(s:dJ S w i)(m:∀k,I k->S k\/(a.alloc o).heap.size<=k)(D:dJ T i f)(F:∀k,T k->I k)(l:∀k,g k->I k\/i.heap.size<=k)(G:w.heap.size<=a.heap.size)(j:∀k,e k->g k\/(f.setCell ⟨a.heap.size,0,none⟩ u).heap.size<=k)(C:dJ g (f.setCell ⟨a.heap.size,0,none⟩ u) q)(n:bK h e p d t)(t9:dJ e q h):eP S w h p t:=by
 have E:w.heap.size<=(a.alloc o).heap.size:=by simp;omega
 have z:∀k,I k->S k\/w.heap.size<=k:=λk b=>(m k b).imp id (λx=>afC E x)
 have y:∀k,g k->S k\/w.heap.size<=k:=λk b=>by
  obtain x|x:=l k b
  ·exact z k x
  ·exact .inr (afC s.size x)
 have B:=s.trans D (λk b=>z k (F k b));have r:dJ S w (f.setCell ⟨a.heap.size,0,none⟩ u):=B.set (p:=⟨a.heap.size,0,none⟩) u (.inr G)
 have v:∀k,e k->S k\/w.heap.size<=k:=λk b=>by
  obtain x|x:=j k b
  ·exact y k x
  ·exact .inr (afC r.size x)
 exact⟨e,d,n,v,(r.trans C y).trans t9 v⟩
theorem a5B{l}(b:Ord l)(f)(a:bR f.name l=some k):kV f (l.eraseIdx k)=jU f l:=by grind[iD,K9,XO]
end Rl
theorem OI(w)(S)(p)(A)(m)(h:bK w S p A m)(ho:Ord m.files)(Q:m.files.length<=4194304)(hl1:m.left<=9223372036854775807)(s t)(M:s.size<=2097152)(ht:t.size<=2097152):
  ai3 32 #[.pointer (some ⟨p,0,none⟩),.string s,.string t] w λe w'=>e=.returned (.int .i64 (aV m [t,s] (bg m s 0)))/\eP S w w' p (aU m [t,s] (bg m s 0) (dG m s (jm m s t))):=by
 have F:=h;have hB:∀q r,ah' w q->lC m s=r->ai9 84 #[.pointer (some ⟨p,0,none⟩),.string s] q (.bool r):=λq r i e=>by rw[<-e];exact Fu q S p A m s (F.later i) M
 have hR:∀q x y a b,x.size<=2097152->ah' w q->gI m x=a->jd m x y=b->ai9 85 #[.pointer (some ⟨p,0,none⟩),.string x,.bool y] q (.tuple #[.int .i64 a,.int .i64 b]):=λq x y a b hx i U V=>by rw[<-U,<-V];exact kM q S p A m x y (F.later i) hx Q
 obtain⟨pa,hpa⟩:∃a,gI m s=a:=⟨_,rfl⟩;obtain⟨pb,hpb⟩:∃a,gI m t=a:=⟨_,rfl⟩
 by_cases u:dK s=true
 ·have U:jd m s false=0:=by unfold jd;rw[afN u];cases bR s m.files<;>rfl
  have z:=λq i=>hR q s false _ _ M i hpa U
  by_cases Yj:dK t=true
  ·have V:jd m t false=0:=by unfold jd;rw[afN Yj];cases bR t m.files<;>rfl
   have n:=λq i=>hR q t false _ _ ht i hpb V
   have P:gP [t,s]=true:=by rw[Jc,u,Yj];rfl
   by_cases E:m.left=0
   ·have eE:aV m [t,s] (bg m s 0)=0:=by unfold aV;rw[afN P,afN E]
    have eM:aU m [t,s] (bg m s 0) (dG m s (jm m s t))=m:=lN
    rw[eE,eM]
    have B:=λq i=>hB q true i (sD u E)
    clear hB hR eE eM h;go_enter ajg,ntmps32
    go_wp2_with (first
     |(go_at_call_of 85 (s);refine(z w (a0n _ _)).ai ?_;intro K v)
     |(go_at_call_of 85 (t);refine(n K v).ai ?_;intro G C;have i:=af v C v.size)
     |(go_at_call 84;refine(B G i).ai ?_;intro J hb3))
    go_ret
    exact⟨rfl,F.becomes (af i hb3 i.size)⟩
   ·have B:=λq i=>hB q false i (vP E)
    cases D:bR s m.files with
    |none=>
     have d:bg m s 0=7:=oM
     have eE:aV m [t,s] (bg m s 0)=7:=by unfold aV;rw[afN P,afJ E,d]
     have eM:aU m [t,s] (bg m s 0) (dG m s (jm m s t))=m:=by unfold aU dG;rw[afN ⟨P,E⟩,d,afJ (by decide),ll D];rfl
     rw[eE,eM]
     have hR3:=λq i=>hR q s true _ _ M i (ic u D).1 (ic u D).2.1
     clear hB hR eE eM h;go_enter ajg,ntmps32
     go_wp2_with (first
      |(go_at_call_of 85 (t);refine(n K v).ai ?_;intro G C;have i:=af v C v.size)
      |(go_at_call 84;refine(B G i).ai ?_;intro J hb3;have hc:=af i hb3 i.size)
      |(go_at_call_of 85 (true);refine(hR3 J hc).ai ?_;intro w4 hb4)
      |(go_at_call_of 85 (s);refine(z w (a0n _ _)).ai ?_;intro K v))
     go_ret
     exact⟨rfl,F.becomes (af hc hb4 hc.size)⟩
    |some k=>
     obtain⟨hk,hlk,O⟩:=iD D;obtain⟨g,c,rfl⟩:=h.block (by omega);have d:bg m s 0=0:=by unfold bg;rw[hlk];rfl
     have eE:aV m [t,s] (bg m s 0)=0:=by unfold aV;rw[afN P,afJ E,d]
     have eM:aU m [t,s] (bg m s 0) (dG m s (jm m s t))={m with files:=jU (mR m.files[k] t) (m.files.eraseIdx k),left:=nS m.left}:=by unfold aU dG jm;rw[afN ⟨P,E⟩,d,afN rfl,hlk,D];rfl
     rw[eE,eM]
     have hR3:=λq i=>hR q s true _ _ M i (ig u D).1 ((ig u D).2 true)
     have hD:=λq i=>DN q S p _ m k (F.later i) Q hk
     have hx:(k:Int)<(m.files.length:Int):=by omega
     have hk0:(0:Int)<=(k:Int):=by omega
     have L:=hide (λq i=>(F.later (w':=q) i).at hk);have H:=hide (λq i=>(F.later (w':=q) i).box);have HLT:=hide (λq(i:ah' w q)=>(F.later (w':=q) i).lt);have hne:(m.files.eraseIdx k).length<=4194304:=afC (agW _ _) Q;have hoe:Ord (m.files.eraseIdx k):=I7 k ho;clear hB hR eE eM h hlk O;generalize m.files[k]=f at*;generalize m.files.eraseIdx k=l at*;have HNS:Hid (∀j,w.heap.size<=j->¬S j):=λj hj M=>by have:=HLT.out w (a0n _ _) j M;omega
     clear HLT;cases hq:bR t l with
     |none=>
      have hq2:jU (mR f t) l=kV (mR f t) l:=UZ (f:=mR f t) hq
      rw[hq2]
      have hR4:∀q S2 fv2,bK q S2 p fv2 {m with files:=l}->ai9 85 #[.pointer (some ⟨p,0,none⟩),.string t,.bool false] q (.tuple #[.int .i64 (-1),.int .i64 0]):=λq S2 fv2 hd=>by
       have:=kM q S2 p fv2 _ t false hd ht hne
       rwa[(ic (m:={m with files:=l}) Yj hq).1,(ic (m:={m with files:=l}) Yj hq).2.2]at this
      clear hq2 hq hoe;go_enter ajg,ntmps32
      go_wp2_with (first
       |(go_at_call 84;refine(B G i).ai ?_;intro J hb3;have hc:=af i hb3 i.size)
       |(go_at_call_of 85 (true);refine(hR3 J hc).ai ?_;intro w4 hb4;have hd:=af hc hb4 hc.size;obtain⟨q0,q1,q2,R,ql⟩:=L.out w4 hd;obtain⟨W,X,Y,f0,f1,f2,Z⟩:=H.out w4 hd;clear R)
       |(go_at_call_of 85 (t);refine(n K v).ai ?_;intro G C;have i:=af v C v.size)
       |(go_at_call_of 85 (s);refine(z w (a0n _ _)).ai ?_;intro K v)
       |(go_at_call_of 85 (t);refine(hR4 w5 I fv5 hd5).ai ?_;intro w6 hb6;have hd6:=hd5.later hb6;have bx6:=bx5.later hb6;obtain⟨x0,x1,x2,y0,y1,y2,xl⟩:=bx6)
       |(go_at_call_of 92 (k);refine(hD _ (hd.alloc hd.size _)).ai ?_;rintro w5 ⟨I,fv5,hd5,hs5,ht5⟩;have bx5:=(mD w4 (.string f.name) (.string f.data) (.int .i64 (f.sync:Int)) 127).touch ht5 (HNS.out _ hd.size);have hn5:=a02 hs5 (HNS.out _ hd.size);have tA:=a9N (S:=S) hd ht5;clear q0 q1 q2 ql W X Y f0 f1 f2 Z)
       |(go_at_call 87;refine(F6 _ I p fv5 {m with files:=l} (mR f t) (hd6.a01 hn5 _ _) hne).ai ?_;rintro w8 ⟨S8,fv8,hd8,hs8,ht8⟩)
       |(go_at_call 88;refine(iT w8 S8 p fv8 _ hd8 hl1).ai ?_;rintro w9 ⟨hd9,ht9⟩))
      go_ret
      exact⟨rfl,a03 tA hs5 (dJ.aK (S:=λ_=>False) hb6) (λ_ x=>x.elim) (λk h=>.inl h) hd.size hs8 ht8 hd9 ht9⟩
     |some k2=>
      have hq2:jU (mR f t) l=kV (mR f t) (l.eraseIdx k2):=(a5B hoe (mR f t) hq).symm
      rw[hq2]
      have hR4:∀q S2 fv2,bK q S2 p fv2 {m with files:=l}->ai9 85 #[.pointer (some ⟨p,0,none⟩),.string t,.bool false] q (.tuple #[.int .i64 (k2:Int),.int .i64 0]):=λq S2 fv2 hd=>by
       have:=kM q S2 p fv2 _ t false hd ht hne
       rwa[(ig (m:={m with files:=l}) Yj hq).1,(ig (m:={m with files:=l}) Yj hq).2 false]at this
      obtain⟨hk2,_,_⟩:=iD hq;have hD2:=λq S2 fv2(hd:bK q S2 p fv2 {m with files:=l})=>DN q S2 p fv2 _ k2 hd hne hk2
      have hne2:(l.eraseIdx k2).length<=4194304:=afC (agW _ _) hne;have afa:decide ((0:Int)<=(k2:Int))=true:=afL (by omega);have afb:decide ((k2:Int)>=(0:Int))=true:=afL (by omega);clear hq2 hq hoe;generalize l.eraseIdx k2=l2 at*;go_enter ajg,ntmps32
      go_wp2_with (first
       |(go_at_call 84;refine(B G i).ai ?_;intro J hb3;have hc:=af i hb3 i.size)
       |(go_at_call_of 85 (true);refine(hR3 J hc).ai ?_;intro w4 hb4;have hd:=af hc hb4 hc.size;obtain⟨q0,q1,q2,R,ql⟩:=L.out w4 hd;obtain⟨W,X,Y,f0,f1,f2,Z⟩:=H.out w4 hd;clear R)
       |(go_at_call_of 85 (t);refine(n K v).ai ?_;intro G C;have i:=af v C v.size)
       |(go_at_call_of 85 (s);refine(z w (a0n _ _)).ai ?_;intro K v)
       |(go_at_call_of 85 (t);refine(hR4 w5 I fv5 hd5).ai ?_;intro w6 hb6;have hd6:=hd5.later hb6;have bx6:=bx5.later hb6;obtain⟨x0,x1,x2,y0,y1,y2,xl⟩:=bx6)
       |(go_at_call_of 92 (k);refine(hD _ (hd.alloc hd.size _)).ai ?_;rintro w5 ⟨I,fv5,hd5,hs5,ht5⟩;have bx5:=(mD w4 (.string f.name) (.string f.data) (.int .i64 (f.sync:Int)) 127).touch ht5 (HNS.out _ hd.size);have hn5:=a02 hs5 (HNS.out _ hd.size);have tA:=a9N (S:=S) hd ht5;clear q0 q1 q2 ql W X Y f0 f1 f2 Z)
       |(go_at_call_of 92 (k2);refine(hD2 _ I fv5 hd6).ai ?_;rintro w7 ⟨S7,fv7,hd7,hs7,ht7⟩;have bx7:=(G7.mk x0 x1 x2 y0 y1 y2 xl).touch ht7 hn5;have hn7:=a5A hs7 hn5 xl;clear x0 x1 x2 y0 y1 y2 xl;obtain⟨x0,x1,x2,y0,y1,y2,xl⟩:=bx7)
       |(go_at_call 87;refine(F6 _ S7 p fv7 {m with files:=l2} (mR f t) (hd7.a01 hn7 _ _) hne2).ai ?_;rintro w8 ⟨S8,fv8,hd8,hs8,ht8⟩)
       |(go_at_call 88;refine(iT w8 S8 p fv8 _ hd8 hl1).ai ?_;rintro w9 ⟨hd9,ht9⟩))
      go_ret
      exact⟨rfl,a03 tA hs5 ((dJ.aK (S:=I) hb6).trans ht7 (λ_ h=>.inl h)) (λ_ x=>x) (λk h=>(hs7 k h).imp id (λx=>afC hb6.size x)) hd.size hs8 ht8 hd9 ht9⟩
  ·have a9O:dK t=false:=by simpa using Yj
   have P:gP [t,s]=false:=by rw[Jc,a9O];rfl
   have eE:aV m [t,s] (bg m s 0)=6:=by unfold aV;rw[afJ (by rw[P];simp)]
   have eM:aU m [t,s] (bg m s 0) (dG m s (jm m s t))=m:=by unfold aU;rw[afJ (λh=>by rw[P]at h;simp at h)]
   rw[eE,eM]
   have n:=λq i=>hR q t false _ _ ht i hpb ((kK a9O).2.2 false)
   clear hB hR eE eM h;exact aqN
 ·have hok':dK s=false:=by simpa using u
  have P:gP [t,s]=false:=by rw[Jc,hok'];simp
  have eE:aV m [t,s] (bg m s 0)=6:=by unfold aV;rw[afJ (by rw[P];simp)]
  have eM:aU m [t,s] (bg m s 0) (dG m s (jm m s t))=m:=by unfold aU;rw[afJ (λh=>by rw[P]at h;simp at h)]
  rw[eE,eM]
  have z:=λq i=>hR q s false _ _ M i hpa ((kK hok').2.2 false)
  obtain⟨eb,heb⟩:∃b,jd m t false=b:=⟨_,rfl⟩;have n:=λq i=>hR q t false _ _ ht i hpb heb
  clear hB hR eE eM h heb;exact aqN
namespace Rl
theorem a1P(keep)(l)(k)(h:k<l.length):(eO keep l k)[k]? =some l[k]:=by
 unfold eO
 grind
theorem U7(keep)(l)(k)(h:k<l.length):(eO keep l k).set k (lu l[k] (fe keep k))=eO keep l (k+1):=by
 unfold eO;have a:((l.take k).mapIdx (λi f=>lu f (fe keep i))).length=k:=by simp;omega
 rw[List.set_append_right _ _ (by omega),a,Nat.sub_self,agt h,agb,afH h,List.mapIdx_append]
 grind
theorem a5C(keep)(l):eO keep l 0=l:=by simp[eO]
theorem U8(keep)(l):eO keep l l.length=l.mapIdx (λi f=>lu f (fe keep i)):=by simp[eO]
theorem bK.block'{n:Nat}{a:Option Addr}{m:az}(h:bK w S p (.slice a n c) m)(f:0<n):∃g,a=some ⟨g,0,none⟩:=by
 have e:=h.len;obtain⟨_,i⟩|⟨g,d,b,j,_⟩:=h.row.2
 ·omega
 grind
theorem U9{v}{n d}{e}(h:bz w v n d e):∃a c,v=.slice a n c:=by
 obtain⟨a,c,rfl,rfl⟩|⟨b,o,f,rfl,_⟩:=h.2
 ·simp
 simp
theorem Ja{l b:List aD}{f}{a}{D}(h:l.set k (lu f a)=b)(d:lu f a={name:=f.name,data:=f.data.extract 0 N,sync:=N})(e:D=f.data.extract 0 N):
  (l.set k {f with data:=D}).set k {name:=f.name,data:=D,sync:=N}=b:=by simp_all
theorem DT{r a:Int}{l b:List aD}(h:bK w S p A ⟨r,l,a⟩)(e:l=b):bK w S p A ⟨r,b,a⟩:=e▸h
theorem F7(f)(a)(N)(h:nL f a=N):lu f a={name:=f.name,data:=f.data.extract 0 N,sync:=N}:=by grind[lu]
theorem Ga(w:World)(g j)(u a b c)(T):G7 ((w.setCell ⟨g,j,none⟩ u).alloc (.cells #[a,b,c] T)).drew w.heap.size a b c:=by
 have h:=mD (w.setCell ⟨g,j,none⟩ u) a b c T
 rw[show(w.setCell ⟨g,j,none⟩ u).heap.size=w.heap.size by simp]at h
 exact h.later (a0n _ _).drew
theorem Ey{l:List aD}{f}(h:l[k]? =some f)(x):(l.set k x)[k]? =some x:=List.getElem?_set_self (afY.1 h).1
end Rl
theorem RX(w)(S)(p)(A)(m)(h:bK w S p A m)(hn:m.files.length<=4194304)(hu:aR m.files<=4194304)(X:∀f∈m.files,f.sync<=f.data.size)(kv)(keep)(R:bz w kv keep.length 1 (ints keep))(_hkl:keep.length<=4194304)(hks:keep.length≠0->∀k,kv.ownBlock=some k->¬S k):
  ai3 40 #[.pointer (some ⟨p,0,none⟩),kv] w λe w'=>e=.returned (.int .i64 0)/\eP S w w' p (DI m keep):=by
 have HI:=hide h;have HL:Hid (bK (w.setCell ⟨p,2,none⟩ (.int .i64 (-1))) S p A {m with files:=eO keep m.files 0,left:= -1}):=by rw[a5C];exact h.yI (-1)
 have U:Hid (dJ S w (w.setCell ⟨p,2,none⟩ (.int .i64 (-1)))):=fH _ h.own;have q:Hid (∀j,w.heap.size<=j->¬S j):=λj hj hs=>gq
 obtain⟨c0,c1,c2,f0,f1,f2,hl⟩:=h.box;obtain⟨av,cv,rfl⟩:=ay h.row;obtain⟨ka,kc,rfl⟩:=U9 R;have HK:=R;have HKS:=hide hks;have HM:Hid (DI m keep={m with files:=m.files.mapIdx (λi f=>lu f (fe keep i)),left:= -1}):=rfl;obtain⟨M,hM⟩:∃M,M=DI m keep:=⟨_,rfl⟩
 rw[<-hM]at HM |-
 clear R hks h hM;go_enter alp,ntmps40;go_wp2
 go_loopw [5] (λi wr=>∃(k:Nat),k<=m.files.length/\i=.int .i64 k/\bK wr S p (.slice av m.files.length cv) {m with files:=eO keep m.files k,left:= -1}/\dJ S w wr) (λi _=>m.files.length-(intOf i).toNat)
 case atStart=>exact⟨0,afK _,rfl,HL.out,U.out⟩
 case round=>
  obtain⟨k,hkm,rfl,hi,hT⟩:=hrel;have HR:=hide hi;have a:=hide hT;obtain⟨d0,d1,d2,y0,y1,y2,E⟩:=hi.box
  by_cases Z:k<m.files.length
  ·obtain⟨g,rfl⟩:=hi.block' (by omega)
   have HG:=hide (a1P keep m.files k Z);have HS:=hide (U7 keep m.files k Z);have hs1:=X _ (afS Z);have hs2:=afC (vB (afS Z)) hu;obtain⟨q0,q1,q2,qf,ql⟩:=hi.at' HG.out;have v:=qf (k*3+1);have y:=qf (k*3+2);have hkr:=G8 HK hT HKS.out;have hns:¬S wr.heap.size:=q.out _ hT.size;clear qf hi hT c0 c1 c2 f0 f1 f2 hl X hu;generalize m.files[k]=f at*;have hx:(k:Int)<(m.files.length:Int):=by omega
   have hk0:(0:Int)<=(k:Int):=by omega
   by_cases hkk:k<keep.length
   ·have hke:fe keep k=keep[k]:=by unfold fe;rw[agB,afP hkk];rfl
    obtain⟨_,_,_,e0⟩|⟨kg,ko,afc,ek,_,hkb,d⟩:=hkr.2
    ·omega
    ·cases ek
     have ck:=d _ _ (Mm keep k hkk)
     rw[agV,<-hke]at ck
     have Q:(k:Int)<(keep.length:Int):=by omega
     clear d hkr hke;generalize fe keep k=n at*
     by_cases J:0<n
     ·obtain⟨r,rfl⟩:∃r:Nat,n=(r:Int):=⟨n.toNat,by omega⟩
      have hdp:decide (0<(r:Int))=true:=afL J;have hw:IntKind.i64.wrap ((f.data.size:Int)-(f.sync:Int))=(f.data.size:Int)-(f.sync:Int):=aW
      by_cases V:(f.data.size:Int)-(f.sync:Int)<(r:Int)
      ·have Y:decide ((f.data.size:Int)-(f.sync:Int)<(r:Int))=true:=afL V
       have hw2:IntKind.i64.wrap ((f.sync:Int)+((f.data.size:Int)-(f.sync:Int)))=(f.data.size:Int):=aW
       have hN:nL f (r:Int)=f.data.size:=iE
       have HE:=hide (Ja HS.out (F7 f (r:Int) f.data.size hN) (D:=f.data) (by first|rfl|exact ByteArray.extract_zero_size.symm));go_wp2_with fail
       go_region
       obtain⟨l,b⟩:=HR.out.Hm HG.out (f.data);have t:=(l.later ((a0n _ _).alloc (afA _) (.cells #[.string f.name,.string f.data,.int .i64 (f.sync:Int)] 127))).drew;have u:=(b.alloc (.cells #[.string f.name,.string f.data,.int .i64 (f.sync:Int)] 127)).drew;have bx:G7 (((wr.setCell ⟨g,k*3+1,none⟩ (.string (f.data))).alloc (.cells #[.string f.name,.string f.data,.int .i64 (f.sync:Int)] 127)).drew) wr.heap.size (.string f.name) (.string f.data) (.int .i64 (f.sync:Int)):=Ga wr g (k*3+1) _ _ _ _ _;obtain⟨O,b1,b2,_,_,_,bl⟩:=bx;obtain⟨r0,r1,r2,C,G⟩:=t.at' (f:={f with data:=f.data}) (Ey HG.out _);have F:=C (k*3+2);obtain⟨e0,e1,e2,z0,z1,H,B⟩:=t.box;have z:=hide (t.La (f:={f with data:=f.data}) (Ey HG.out _) f.data.size);have W:=hide u;clear l b t u C q0 q1 q2 ql v y d0 d1 d2 y0 y1 y2 E;generalize ((wr.setCell ⟨g,k*3+1,none⟩ (.string (f.data))).alloc (.cells #[.string f.name,.string f.data,.int .i64 (f.sync:Int)] 127)).drew=s at*;exact Bv
      ·have Y:decide ((f.data.size:Int)-(f.sync:Int)<(r:Int))=false:=afG V
       have hw2:IntKind.i64.wrap ((f.sync:Int)+(r:Int))=((f.sync+r:Nat):Int):=aW
       have hN:nL f (r:Int)=f.sync+r:=iE
       have hle:f.sync+r<=f.data.size:=by omega
       have L:((f.sync+r:Nat):Int)<=(f.data.size:Int):=by omega
       have HE:=hide (Ja HS.out (F7 f (r:Int) (f.sync+r) hN) (D:=f.data.extract 0 (f.sync+r)) (by first|rfl|exact ByteArray.extract_zero_size.symm));go_wp2_with fail
       go_region
       obtain⟨l,b⟩:=HR.out.Hm HG.out (f.data.extract 0 (f.sync+r));have t:=(l.later ((a0n _ _).alloc (afA _) (.cells #[.string f.name,.string f.data,.int .i64 (f.sync:Int)] 127))).drew;have u:=(b.alloc (.cells #[.string f.name,.string f.data,.int .i64 (f.sync:Int)] 127)).drew;have bx:G7 (((wr.setCell ⟨g,k*3+1,none⟩ (.string (f.data.extract 0 (f.sync+r)))).alloc (.cells #[.string f.name,.string f.data,.int .i64 (f.sync:Int)] 127)).drew) wr.heap.size (.string f.name) (.string f.data) (.int .i64 (f.sync:Int)):=Ga wr g (k*3+1) _ _ _ _ _;obtain⟨O,b1,b2,_,_,_,bl⟩:=bx;obtain⟨r0,r1,r2,C,G⟩:=t.at' (f:={f with data:=f.data.extract 0 (f.sync+r)}) (Ey HG.out _);have F:=C (k*3+2);obtain⟨e0,e1,e2,z0,z1,H,B⟩:=t.box;have z:=hide (t.La (f:={f with data:=f.data.extract 0 (f.sync+r)}) (Ey HG.out _) (f.sync+r));have W:=hide u;clear l b t u C q0 q1 q2 ql v y d0 d1 d2 y0 y1 y2 E;generalize ((wr.setCell ⟨g,k*3+1,none⟩ (.string (f.data.extract 0 (f.sync+r)))).alloc (.cells #[.string f.name,.string f.data,.int .i64 (f.sync:Int)] 127)).drew=s at*;exact Bv
     ·have hdp:decide (0<n)=false:=afG J
      have hw:IntKind.i64.wrap ((f.data.size:Int)-(f.sync:Int))=(f.data.size:Int)-(f.sync:Int):=aW
      have Y:decide ((f.data.size:Int)-(f.sync:Int)<0)=false:=afG (by omega);have hN:nL f n=f.sync:=iE
      have L:(f.sync:Int)<=(f.data.size:Int):=by omega
      exact Bu
   ·have Q:¬(k:Int)<(keep.length:Int):=by omega
    have hkd:decide ((k:Int)<(keep.length:Int))=false:=afG Q;have hw:IntKind.i64.wrap ((f.data.size:Int)-(f.sync:Int))=(f.data.size:Int)-(f.sync:Int):=aW
    have Y:decide ((f.data.size:Int)-(f.sync:Int)<0)=false:=afG (by omega)
    have hN:nL f (fe keep k)=f.sync:=by
                             have e0:fe keep k=0:=by unfold fe;rw[agB,agR (by omega)];rfl
                             rw[e0];exact iE
    have L:(f.sync:Int)<=(f.data.size:Int):=by omega
    generalize fe keep k=n at*;exact Bu
  ·have e:k=m.files.length:=by omega
   subst e;have d0':=d0;clear X hu c0 c1 c2 f0 f1 f2 hl hi hT;go_wp2_with fail;go_ret
   rw[HM.out]
   exact⟨rfl,S,_,DT HR.out (U8 keep m.files),λ_ R=>.inl R,a.out⟩
namespace Rl
theorem gu.mono{w}{S e}{q}{m}(h:gu w S q m)(f:∀k,S k->e k)(j:∀k,e k->k<w.heap.size):gu w e q m:=by
 obtain⟨p,b,i,g,d⟩:=h.inner
 exact⟨f _ h.own,j,p,b,i,g,d.mono (λk a=>⟨f k a.1,a.2⟩) (λk a=>j k a.1)⟩
theorem bK.mono{a:Nat->Prop}{m:az}(h:bK w S p A m)(b:∀k,S k->a k)(e:∀k,a k->k<w.heap.size):bK w a p A m:=
 ⟨h.box,h.row,b _ h.own,λk d=>⟨b _ (h.far k d).1,(h.far k d).2⟩,e⟩
theorem Fr.tch(h:Fr T w ow w' mg):dJ (λk=>T (ow k)) w w':=⟨h.os,h.tape,h.output,h.size,λk b a=>(h.keep k b a).2⟩
theorem Qb(h:Fr T w ow w' mg)(b:¬T c)(k)(a:Own w ow c k):Own w' mg c k:=⟨afB a.1 h.size,h.ow a.1 a.2 b⟩
theorem gu.frame{q}{m}(h:gu w (Own w ow c) q m)(b:Fr T w ow w' mg)(d:¬T c):gu w' (Own w' mg c) q m:=
 (h.touch b.tch (λk a x=>d (by rw[<-a.2];exact x))).mono (Qb b d) (λ_ a=>a.1)
theorem bK.frame{m:az}(h:bK w (Own w ow c) p A m)(b:Fr T w ow w' mg)(d:¬T c):bK w' (Own w' mg c) p A m:=
 (h.touch b.tch (λk a x=>d (by rw[<-a.2];exact x))).mono (Qb b d) (λ_ a=>a.1)
theorem a04{a:Nat->Prop}(b:∀k,a k->Own w ow c k\/w.heap.size<=k)(k)(e:a k)(d:k<w'.heap.size):Own w' (ext w ow c) c k:=by
 refine⟨d,?_⟩;unfold ext;obtain x|x:=b k e
 ·rw[afN x.1];exact x.2
 grind
theorem aaW{q}{b}(h:qy (Own w ow c) w w' q b):∃mg,gu w' (Own w' mg c) q b/\Fr (λi=>i=c) w ow w' mg:=by
 obtain⟨g,d,f,e⟩:=h
 exact⟨ext w ow c,d.mono (λk a=>a04 f k a (d.lt k a)) (λ_ a=>a.1),Fr.Ux e (λ_ _ a=>a.2) c⟩
theorem aaX{b}(h:eP (Own w ow c) w w' p b):∃mg A,bK w' (Own w' mg c) p A b/\Fr (λi=>i=c) w ow w' mg:=by
 obtain⟨g,A,d,f,e⟩:=h
 exact⟨ext w ow c,A,d.mono (λk a=>a04 f k a (d.lt k a)) (λ_ a=>a.1),Fr.Ux e (λ_ _ a=>a.2) c⟩
theorem gu.ord{w}{S}{q}{m}(h:gu w S q m):Ord m.files:=by obtain⟨p,b,d,_,a⟩:=h.inner;exact a.ord
theorem gu.sync{w}{S}{q}{m}(h:gu w S q m):∀f∈m.files,f.sync<=f.data.size:=by obtain⟨p,b,d,_,a⟩:=h.inner;exact a.sync
def gX(w:World)(ow:Nat->Nat)(i:Nat)(a b:Value)(d:Option az):Prop:=
 match d with
 |none=>a=.pointer none/\b=.pointer none
 |some m=>∃q p A,a=.pointer (some ⟨q,0,none⟩)/\b=.pointer (some ⟨p,0,none⟩)/\gu w (Own w ow (31+3*i)) q m/\bK w (Own w ow (32+3*i)) p A m
theorem gX.frame{T}{w w'}{ow mg}{i}{b e}{a}(h:gX w ow i b e a)(d:Fr T w ow w' mg)(l:¬T (31+3*i))(j:¬T (32+3*i)):gX w' mg i b e a:=by
 cases a with
 |none=>exact h
 |some m=>
  obtain⟨q,p,A,r,n,g,f⟩:=h
  exact⟨q,p,A,r,n,g.frame d l,f.frame d j⟩
def iU(d:Option az)(a b:Nat):Prop:=∀m,d=some m->ry m a b
theorem iU.mono{e}{a b j f}(h:iU e a b)(n:a<=j)(l:b<=f):iU e j f:=λm d=>(h m d).mono n l
structure bU(w:World)(ow:Nat->Nat)(i B:Nat)(xv dv:Value)(om:Option az):Prop where
 own:ow B=30+3*i
 lt:B<w.heap.size
 c0:w.cell? ⟨B,0,none⟩=some xv
 c1:w.cell? ⟨B,1,none⟩=some dv
 c2:w.cell? ⟨B,2,none⟩=some (.pointer none)
 c3:w.cell? ⟨B,3,none⟩=some (.pointer none)
 c4:∃b,w.cell? ⟨B,4,none⟩=some (.bool b)
 fz:∀j,j<5->w.frozen? ⟨B,j,none⟩=false
 Fy:gX w ow i xv dv om
theorem bU.frame{T}{w w'}{ow mg}{i B}{e l}{f}(h:bU w ow i B e l f)(a:Fr T w ow w' mg)(d:¬T (30+3*i))(q:¬T (31+3*i))(n:¬T (32+3*i)):bU w' mg i B e l f:=
 ⟨a.ow h.lt h.own d,afB h.lt a.size,(a.cell (p:=⟨B,0,none⟩) h.lt h.own d).trans h.c0,(a.cell (p:=⟨B,1,none⟩) h.lt h.own d).trans h.c1,(a.cell (p:=⟨B,2,none⟩) h.lt h.own d).trans h.c2,(a.cell (p:=⟨B,3,none⟩) h.lt h.own d).trans h.c3,
  (let ⟨b,m⟩:=h.c4;⟨b,(a.cell (p:=⟨B,4,none⟩) h.lt h.own d).trans m⟩),λj g=>(a.frozen (p:=⟨B,j,none⟩) h.lt h.own d).trans (h.fz j g),h.Fy.frame a q n⟩
theorem bU.shell{i B}{f g}{l e}(h:bU w ow i B f g l)(a:Fr T w ow w' mg)(d:¬T (30+3*i))(n:gX w' mg i f g e):bU w' mg i B f g e:=
 ⟨a.ow h.lt h.own d,afB h.lt a.size,(a.cell (p:=⟨B,0,none⟩) h.lt h.own d).trans h.c0,(a.cell (p:=⟨B,1,none⟩) h.lt h.own d).trans h.c1,(a.cell (p:=⟨B,2,none⟩) h.lt h.own d).trans h.c2,(a.cell (p:=⟨B,3,none⟩) h.lt h.own d).trans h.c3,
  (let ⟨b,q⟩:=h.c4;⟨b,(a.cell (p:=⟨B,4,none⟩) h.lt h.own d).trans q⟩),λj m=>(a.frozen (p:=⟨B,j,none⟩) h.lt h.own d).trans (h.fz j m),n⟩
def acA(w:World)(ow:Nat->Nat)(i:Nat)(E:Int)(a:Value)(b:Option az):Ending->World->Prop:=λe w'=>e=.returned (.int .i64 E)/\∃mg,Fr (λc=>c=31+3*i) w ow w' mg/\(∀m,b=some m->∃q,a=.pointer (some ⟨q,0,none⟩)/\gu w' (Own w' mg (31+3*i)) q m)
def acB(w:World)(ow:Nat->Nat)(i:Nat)(E:Int)(b:Value)(a:Option az):Ending->World->Prop:=λe w'=>e=.returned (.int .i64 E)/\∃mg,Fr (λc=>c=32+3*i) w ow w' mg/\(∀m,a=some m->∃p A,b=.pointer (some ⟨p,0,none⟩)/\bK w' (Own w' mg (32+3*i)) p A m)
structure Both(fx fd:FuncId)(args:List Value)(w:World)(ow:Nat->Nat)(i:Nat)(xv dv:Value)(om':Option az)(E:Int):Prop where
 x:ai3 fx (xv::args).toArray w (acA w ow i E xv om')
 d:∀w' mg,Fr (λc=>c=31+3*i) w ow w' mg->ai3 fd (dv::args).toArray w' (acB w' mg i E dv om')
 nil:om'=none->xv=.pointer none/\dv=.pointer none
end Rl
end Go.Proofs.Zq
