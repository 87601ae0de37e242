import Derived.Test.YtkdjjnkpfpogkaaGreatDoorK35
set_option maxHeartbeats 8000000
set_option linter.all false
set_option maxRecDepth 20000
namespace Go
def aqU{P:Prop}(h:P:=by
 obtain⟨i0,hi,hz0,hz1,hz2⟩:=ahC Ib;have hx:(19:Int)<=(m.size:Int):=by omega
 have hz:((m.size:Int)==0)=false:=by rw[afW];omega
 have hr1:=λw=>Jn G g w (by omega) s
 have hr2:=λw=>Jn C a w (by omega) r
 have hak:=λw=>kQ K w (by omega)
 have hq:((a.length:Int)==0)=false:=by rw[afW];omega
 go_enter aiM,ntmps157;go_wp2_with (first|(go_at_call 134;refine(f _).ai ?_;intro w1 hb1;obtain⟨hbx,hbel⟩:=fE _ _ _ _ _ _ hb1;have hsz:=hbx.lt)|(go_at_call 210;refine(n _).ai ?_;intro w2 hb2;have ab7:=hbx.later hb2;have Ej:=af hbel hb2 hbel.size)|(go_at_call_of 211 (G);refine(hr1 _).mono ?_;rintro e w3 ⟨a1,c1,rfl,hb3,ho1,hl1⟩;have a6o:=af Ej hb3 Ej.size;have acL:=ab7.later hb3)|(go_at_call_of 211 (C);refine(hr2 _).mono ?_;rintro e w4 ⟨a2,c2,rfl,hb4,ho2,hl2⟩;have a6p:=af a6o hb4 a6o.size;have acM:=acL.later hb4)|(go_at_call 212;refine(hak _).ai ?_;rintro w5 ⟨hb5,l0,o,sp0,d,hK,hend⟩;obtain⟨rfl,rfl,rfl⟩:=Ei hend t;have acN:=af a6p hb5 a6p.size;have aep:=acM.later hb5;obtain⟨q0,q1,q2,f0,f1,f2,ql⟩:=aep;have hcE:=hK.ends;have hcS:=hK.spoilt)|(go_at_call 213;refine(c _ _ _ _ _ hK).aH ?_));obtain⟨_,e0⟩|⟨gb,cb,cur,e2,hgb,_⟩:=ho2.2
 ·exact absurd e0 q
 ·cases e2
  have afd:=(ho2.lt gb rfl).2;have ho5:=bu (bu ho1 hb4) hb5;have hcell:=λj u(hu:(bO a)[j]? =some u)=>((bu ho2 hb5).cells (g:=gb) rfl) j u hu
  have aeq:ah' w2 w5:=af (af hb3 hb4 hb3.size) hb5 (afC hb3.size hb4.size);have hlt1:=(ho1.lt);have aer:=hb5.size;have hgl:g.length<=200:=by omega
  have hal:a.length<=200:=by omega
  have RY:=ab7;have HLT:=hide (afB hbx.lt hb2.size);have HB2:=hide Ej
  go_loopw [11,17] (λx i wr=>∃(k:Nat)(lv:Value),lv=x/\k<=a.length/\i=.int .i64 k/\wr.ownsRow w2.heap.size 113 2 lv (g.length+k) (bO (g++a.take k))/\(∀j,lv.ownBlock=some j->j<w3.heap.size\/w4.heap.size<=j)/\(∀j u,(bO a)[j]? =some u->wr.cell? ((⟨gb,0,none⟩:Addr).add j)=some u)/\w4.heap.size<=wr.heap.size/\ah' w2 wr) (λ_ i _=>a.length-(intOf i).toNat)
  case atStart=>exact⟨0,_,rfl,afK _,rfl,by simpa using ho5,λj hj=>.inl (hlt1 j hj).2,hcell,aer,aeq⟩
  case round=>
   obtain⟨k,lv,rfl,hka,rfl,hown,hpl,hcl,acO,hbel⟩:=hrel;obtain⟨a6,c6,rfl⟩:=fO hown
   by_cases hlt:k<a.length
   ·obtain⟨g1,g2⟩:=kX a k hlt
    have d1:=hcl _ _ g1;have d2:=hcl _ _ g2
    rw[nR]at d1 d2
    have HT:=hide (a98 g a k hlt)
    have hne:some gb≠(Value.slice a6 (g.length+k) c6).ownBlock:=by intro e;obtain h|h:=hpl gb e.symm<;>omega
    have HCL:=hide hcl;have HPL:=hide hpl;generalize a[k]=p at*;go_wp2_with (first|(at_builtin;refine jW _ rfl _ _ 114 rfl w2.heap.size 113 i0 (.agg #[.int .i64 0,.int .i64 0]) 2 16 aiS hi hz0 hz1 hz2 rfl (by decide) _ _ _ rfl (hown.alloc _) ⟨wr.heap.size,0,none⟩ 1 1 [.int .i64 p.1,.int .i64 p.2] rfl rfl (cu _ _ _) (ab8 _ _) (by unfold maxLen;omega) (by omega) (afC hbel.size (by simp)) ?_;intro v' w6 hown6 MM aes));refine⟨⟨k+1,v',rfl,by omega,by go_num,?_,λj hj=> ?_,λj u hu=> ?_,afC acO (afC (by simp) MM.size),dX hbel hbel.size hown MM⟩,by simp[intOf];omega⟩
    ·rw[HT.out];exact hown6
    ·obtain h|⟨j2,h,h2⟩:=aes
     ·exact HPL.out j (h.symm.trans hj)
     ·rw[h]at hj
      injection hj with hj;subst hj
      right;simp at h2;omega
    ·have h:=HCL.out j u hu
     rw[nR]at h |-
     exact pV MM h hne
   ·have hk2:k=a.length:=by omega
    subst hk2
    rw[ag8]at hown
    obtain⟨q0,q1,q2,f0,f1,f2,ql⟩:=RY.below hbel HLT.out;have acP:ah' w wr:=HB2.out.trans (hbel.mono (Nat.le_of_lt HLT.out));go_wp2;refine abt (v:=.tuple #[.agg #[.slice a6 (g.length+a.length) c6,.slice none 0 0,.string ⟨#[]⟩],.int .i64 0]) (by simp[results,results157,go_sem,q0,q1,q2]) rfl ⟨_,_,rfl,cK acP (afA _) _ _ _,?_,a9X _ _ _ _,xV _⟩
    rw[afE]
    exact Ef hown HLT.out _ _ _):P:=h
def aij{P:Prop}(h:P:=by
 go_enter am9,ntmps213;go_wp2;go_ret
 exact⟨dx (by simp),rfl⟩):P:=h
end Go
namespace Go.Proofs.Zq
open Tryz
open Go.RowKit
open Rl
theorem ab8(p q:Int):∀u∈[Value.int .i64 p,Value.int .i64 q],u.oneCell'=true:=by intro u a;simp at a;obtain rfl|rfl:=a<;>rfl
def a98(g a:List (Int×Int))(k:Nat)(h:k<a.length):bO (g++a.take (k+1))=bO (g++a.take k)++[.int .i64 a[k].1,.int .i64 a[k].2]:=by
 rw[afH h,<-List.append_assoc,YF]
 rfl
def YO(m G K C:ByteArray)(w:World)(E:19<=m.size)(F:m.size<=200)(H:G.size<=m.size)(D:K.size<=m.size)(I:C.size<=m.size)(f:∀w,ai9 134 #[.string m] w (.tuple #[.int .i64 m.size,.int .i64 2,.int .i64 0]))(n:∀w,ai9 210 #[.string (m.extract 19 m.size)] w (.tuple #[.string G,.string K,.string C,.bool true]))(g a:List (Int×Int))(l:List At)(s:dz G=some g)(r:dz C=some a)(t:qc K=some (l,true))(q:a.length≠0)(B:Bool)(c:∀b o A d y,KeptAt y b (cO l) (jh l) o A d->ai3 213 #[.pointer (some ⟨b,0,none⟩)] y λe z=>e=.returned (.bool B)/\z=y):
  ai3 157 #[.string m] w λe z=>aqD ⟨0,g++a,[],[]⟩ w e z:=aqU
def a2M(m G K C:ByteArray)(w:World)(D:19<=m.size)(E:m.size<=200)(F:G.size<=m.size)(B:K.size<=m.size)(H:C.size<=m.size)(f:∀w,ai9 134 #[.string m] w (.tuple #[.int .i64 m.size,.int .i64 2,.int .i64 0]))(n:∀w,ai9 210 #[.string (m.extract 19 m.size)] w (.tuple #[.string G,.string K,.string C,.bool true]))(g a:List (Int×Int))(l:List At)(s:dz G=some g)(r:dz C=some a)(t:qc K=some (l,false))(q:a.length≠0)(c:∀b o A d y,KeptAt y b (cO l) (jh l) o A d->ai3 213 #[.pointer (some ⟨b,0,none⟩)] y λe z=>e=.returned (.bool true)/\z=y):
  ai3 157 #[.string m] w λe z=>aqD ⟨0,g++a,[],[]⟩ w e z:=aqU
def a6q(p)(F a z)(v):(ByteArray.mk p.toArray)++(ByteArray.mk (be 1 F).toArray)++(ByteArray.mk (be 1 a).toArray)++(ByteArray.mk (be z v.size).toArray)++v=⟨(p++oQ F a z v).toArray⟩:=by apply a2t;simp[Vz,oQ]
def Im(l:List UInt8):(ByteArray.mk l.toArray).size=l.length:=af'
def acQ{w a c}{b k}{x y}(g:a.cell? ⟨b,k,none⟩=some x/\a.cell? ⟨b,256+k,none⟩=some y/\b<a.heap.size/\ah' w a)(d:ah' a c):
  c.cell? ⟨b,k,none⟩=some x/\c.cell? ⟨b,256+k,none⟩=some y/\b<c.heap.size/\ah' w c:=by
 obtain⟨i,h,e,f⟩:=g
 exact⟨(d.cell (p:=⟨b,k,none⟩) e).trans i,(d.cell (p:=⟨b,256+k,none⟩) e).trans h,afB e d.size,af f d f.size⟩
def a6r(b)(l)(sn)(sp en)(w)(y:KeptAt w b (cO l) (jh l) sn sp en)(hf:∀i,cO l i<256)(Q:∀i,(jh l i).size<=1048576)(u:(mW l 256).length<=1048576):
  ai9 214 #[.pointer (some ⟨b,0,none⟩)] w (.string ⟨(mW l 256).toArray⟩):=by
 obtain⟨F,N,I,L,M⟩:∃F:Nat->List UInt8,F 0=[]/\(∀k,F (k+1)=F k++Ka l k)/\(∀k,k<=256->(F k).length<=(F 256).length)/\F 256=mW l 256:=⟨mW l,rfl,λ_=>rfl,λk R=>a5S l k 256 R,rfl⟩
 rw[<-M]at u |-
 have HF0:=N;have HFS:=hide I;have HFL:=hide L;clear N I L M;have hKf:=hide (λi(hi:i<256)=>y.flag i hi);have Y:=hide (λi(hi:i<256)=>y.val i hi);have Z:=y.lt;clear y;go_enter ama,ntmps214;go_wp2
 go_loopw [3,4] (λx i wr=>∃k:Nat,k<=256/\i=.int .i64 k/\x=.string ⟨(F k).toArray⟩/\ah' w wr) (λ_ i _=>256-(intOf i).toNat)
 case atStart=>exact⟨0,by omega,rfl,by rw[HF0],a0n _ _⟩
 case round=>
  obtain⟨k,R,rfl,rfl,D⟩:=hrel
  by_cases j:k<256
  ·have c1:=(D.cell (p:=⟨b,k,none⟩) Z).trans (hKf.out k j)
   have c2:=(D.cell (p:=⟨b,256+k,none⟩) Z).trans (Y.out k j);have E:b<wr.heap.size:=afB Z D.size;have hf':=hf k;have hv':=Q k;have W:=HFL.out k R;have HW:=hide (HFS.out k);have HC:Hid (Ka l k=if 0<=cO l k then oQ (cO l k).toNat k 2 (jh l k)else []):=rfl;clear hf Q;generalize F k=P at*;generalize Ka l k=C at*;generalize jh l k=d at*;generalize cO l k=g at*
   by_cases hg:0<=g
   ·rw[afN hg]at HC
    obtain⟨f,rfl⟩:∃f:Nat,g=(f:Int):=⟨g.toNat,by omega⟩
    rw[ah9]at HC
    have h1:=λw=>Jg f 1 w (by omega) (by omega)
    have h2:=λw=>Jg k 1 w (by omega) (by omega)
    have h3:=λw=>Jg d.size 2 w (by omega) (by omega)
    have HS:=hide (a6q P f k 2 d);have z1:=Im (be 1 f);have H:=Im (be 1 k);have z3:=Im (be 2 d.size);have z4:=Im P
    rw[xO]at z1 H z3
    obtain⟨U1,e1⟩:∃U:ByteArray,U=⟨(be 1 f).toArray⟩:=⟨_,rfl⟩;obtain⟨U2,e2⟩:∃U:ByteArray,U=⟨(be 1 k).toArray⟩:=⟨_,rfl⟩;obtain⟨U3,O⟩:∃U:ByteArray,U=⟨(be 2 d.size).toArray⟩:=⟨_,rfl⟩;obtain⟨U4,J⟩:∃U:ByteArray,U=⟨P.toArray⟩:=⟨_,rfl⟩
    rw[<-e1]at h1
    rw[<-e2]at h2
    rw[<-O]at h3
    rw[<-e1,<-e2,<-O,<-J]at HS
    rw[<-e1]at z1
    rw[<-e2]at H
    rw[<-O]at z3
    rw[<-J]at z4
    rw[<-J]
    have y1:U1.size<=1:=by omega
    have y2:U2.size<=1:=by omega
    have y3:U3.size<=2:=by omega
    have y4:U4.size<=1048576:=by omega
    have k1:(k:Int)<256:=by omega
    clear e1 e2 O J z1 H z3 z4 W u;go_wp2
    go_region_held (λw'=>w'.cell? ⟨b,k,none⟩=some (.int .i64 (f:Int))/\w'.cell? ⟨b,256+k,none⟩=some (.string d)/\b<w'.heap.size/\ah' w w') (first|assumption|(exact⟨c1,c2,E,D.drew⟩)|(exact⟨c1,c2,E,D⟩)|(exact acQ (by assumption) (by assumption))) (first|(go_at_call_of 106 (f:Int);refine(h1 _).ai ?_;intro w2 V)|(go_at_call_of 106 (k:Int);refine(h2 _).ai ?_;intro w2 V)|(go_at_call_of 106 (d.size:Int);refine(h3 _).ai ?_;intro w2 V))
    all_goals
     have hS:= ‹w2.cell? _=some _/\w2.cell? _=some _/\b<w2.heap.size/\ah' w w2›;clear h1 h2 h3 c1 c2;go_wp2;refine⟨⟨k+1,by omega,by go_num,?_,hS.2.2.2⟩,aA⟩
     rw[HW.out,HC.out,HS.out]
   ·rw[afJ hg]at HC
    go_wp2;refine⟨⟨k+1,by omega,by go_num,?_,D⟩,aA⟩
    rw[HW.out,HC.out,ah0]
  ·have X:k=256:=by omega
   subst X;clear hf Q;go_wp2;go_ret
   exact⟨rfl,D⟩
theorem Jp(b)(a)(l)(n)(m o)(w)(c:KeptAt w b a l n m o):
  ai3 213 #[.pointer (some ⟨b,0,none⟩)] w λe k=>e=.returned (.bool (decide (a 1<0)||decide (a 2<0)||decide (a 3<0)))/\k=w:=by
 have c1:=c.flag 1 (by omega);have c2:=c.flag 2 (by omega);have c3:=c.flag 3 (by omega);generalize a 1=f at*;generalize a 2=d at*;generalize a 3=p at*
 by_cases j:f<0
 ·have h:decide (f<0)=true:=afL j
  rw[h]
  exact aij
 ·have h:decide (f<0)=false:=afG j
  rw[h]
  by_cases i:d<0
  ·have g:decide (d<0)=true:=afL i
   rw[g]
   exact aij
  ·have g:decide (d<0)=false:=afG i
   rw[g]
   exact aij
def Jq{a:Type}{o:Option a}{x:a}(h:o=some x):o.isSome=true:=by rw[h];rfl
def FI(m:ByteArray)(w:World)(hm:m.size<=maxLen):
  ai3 157 #[.string m] w λe w'=>aqD (upd m) w e w':=by
 cases hf:rM m with
 |false=>
  have hu:upd m=⟨2,[],[],[]⟩:=by unfold upd;rw[afJ (by simp[hf])]
  rw[hu]
  exact(a2K m w hm hf).mono λe w' h=>eD h
 |true=>
  have hu:upd m=sK (m.extract 19 m.size):=by unfold upd;rw[afN hf]
  rw[hu]
  obtain⟨u,d,hE,hN,y⟩:=Gs m hf;have j:=λw=>H8 m w hm
  rw[hE,hN,y]at j
  have F:(m.extract 19 m.size).size<=m.size:=aQ
  have Q:(m.extract 19 m.size).size<=maxLen:=afC F hm;obtain⟨X,W,Y⟩:=EI (m.extract 19 m.size);unfold sK;cases U:rJ (m.extract 19 m.size)with
  |false=>
   rw[afJ (by simp)]
   exact(a2L m w u d j (λw=>VE _ w Q U)).mono λe w' h=>eD h
  |true=>
   rw[afN rfl]
   have n:=λw=>Sn (m.extract 19 m.size) w Q U
   have L:=afC X F;have I:=afC W F;have N:=afC Y F;cases hg:dz (fo (m.extract 19 m.size))with
   |none=>exact(a96 m _ _ _ w u d L I N j n (by grind)).mono λe w' h=>eD h
   |some g=>
    cases M:dz (bA (bA (m.extract 19 m.size)))with
    |none=>exact(a97 m _ _ _ w u d L I N j n (Jq hg) (by grind)).mono λe w' h=>eD h
    |some a=>
     cases R:qc (fo (bA (m.extract 19 m.size)))with
     |none=>exact(ab6 m _ _ _ w u d L I N j n (Jq hg) (Jq M) R).mono λe w' h=>eD h
     |some p=>
      obtain⟨l,sp⟩:=p;simp only;obtain⟨Z,E⟩:=a5T _ l sp R;have c:=Vw l E.once;unfold EG
      by_cases J:a.length=0
      ·grind[afT,a6m]
      ·rw[afJ J]
       by_cases hb:sp=true\/eY l≠3
       ·rw[afN hb]
        cases sp with
        |true=>exact(YO m _ _ _ w u d L I N j n g a l hg M R J _ (λb sn sp en O y=>Jp b _ _ sn sp en O y)).mono λe w' h=>h
        |false=>
         have hn:eY l≠3:=by obtain h|h:=hb;exact absurd h (by simp);exact h
         have hx:(decide (cO l 1<0)||decide (cO l 2<0)||decide (cO l 3<0))=true:=by
          have e:(eY l==3)=false:=by rw[afW];exact hn
          exact ahr
         refine(a2M m _ _ _ w u d L I N j n g a l hg M R J (λb sn sp en O y=> ?_)).mono λe w' h=>h
         have h:=Jp b _ _ sn sp en O y
         rw[hx]at h
         exact h
       ·rw[afJ hb]
        have hs:sp=false:=by cases sp<;>simp_all
        have hn:eY l=3:=by by_cases e:eY l=3;exact e;exact absurd (Or.inr e) hb
        subst hs
        have hx:(decide (cO l 1<0)||decide (cO l 2<0)||decide (cO l 3<0))=false:=by
         have e:(eY l==3)=true:=by rw[hn];rfl
         exact ahr
        refine(a6n m _ _ _ w u d L I N j n g a l hg M R J (λb sn sp en O y=> ?_) (λb sn sp en O y=> ?_)).mono λe w' h=>h
        ·grind[Jp]
        ·have H:=Vy l _ (Vx E) 256
         have V:(fo (bA (m.extract 19 m.size))).size<=200:=by omega
         generalize (fo (bA (m.extract 19 m.size))).size=z at*;exact a6r b l sn sp en O y (a2s E) (λi=>afC (Vx E i) (by omega)) (by omega)
end Go.Proofs.Zq
namespace Go.Proofs.Zq
open Go.RowKit
open Rl
variable{n:Nat}{a b p:Int×Int}
theorem Jr:∀(n:Nat)(s:ByteArray)(l:List (Int×Int)),s.size<=n->dz s=some l->l.length<=s.size:=by
 intro n;induction n with
 |zero=>grind[EF]
 |succ n f=>
  intro s l i h
  by_cases e:s.size=0
  ·grind
  ·by_cases d:sI s
   ·grind[Jk]
   ·rw[Gq s e d]at h
    have c:=sJ s;cases g:dz (vV s)<;>grind
theorem a0c(m:ByteArray):(upd m).gone.length<=1000000/\(upd m).come.length<=1000000:=by
 unfold upd;cases hf:rM m with
 |false=>simp
 |true=>
  obtain⟨y,d,_⟩:=Gs m hf
  rw[afN rfl]
  have u:(m.extract 19 m.size).size<=200:=aQ
  obtain⟨F,E,I⟩:=EI (m.extract 19 m.size);unfold sK;cases N:rJ (m.extract 19 m.size)with
  |false=>simp
  |true=>
   rw[afN rfl]
   cases hg:dz (fo (m.extract 19 m.size))with
   |none=>simp
   |some g=>
    cases M:dz (bA (bA (m.extract 19 m.size)))with
    |none=>simp
    |some a=>
     have L:=Jr _ _ _ (afA _) hg;have J:=Jr _ _ _ (afA _) M;cases R:qc (fo (bA (m.extract 19 m.size)))with
     |none=>simp
     |some p=>grind[EG,eY]
theorem a2N{w f:World}{B:Nat}{e:TypeId}{c:Nat}{v r:Value}{d:List Value}(h:w.ownsRow B e c v n d)(i:w.grownBy f r.ownBlock)(g:∀k,v.ownBlock=some k->r.ownBlock≠some k):f.ownsRow B e c v n d:=by refine h.kept i ?_;cases e:v.ownBlock<;>grind
namespace Rl
structure aX where
 addr:Int
 len:Int
 attrs:ByteArray
def ib(e:aX):Int×Int:=(e.addr,e.len)
def E8(a b:Int×Int):Bool:=decide (a.1<b.1\/(a.1=b.1/\a.2<b.2))
def ni(a b:aX):Bool:=E8 (ib a) (ib b)
def KN(p:Int×Int)(l:List aX):List aX:=l.filter λe=>decide (ib e≠p)
def Oq(x:aX):List aX->List aX
 |[]=>[x]
 |a::r=>if ni x a=true then x::a::r else a::Oq x r
def nk(x:aX)(l:List aX):List aX:=Oq x (KN (ib x) l)
def uE(l:List aX):Prop:=l.Pairwise λa b=>ni a b=true
def nI(p:Int×Int)(l:List aX):Option aX:=l.find? λe=>decide (ib e=p)
theorem NF(a b:Int×Int):E8 a b=true↔a.1<b.1\/(a.1=b.1/\a.2<b.2):=agv
theorem El(a:Int×Int):E8 a a=false:=by simp[E8]
theorem NH{c:Int×Int}(h:E8 a b=true)(k:E8 b c=true):E8 a c=true:=by grind[NF]
theorem YP(h:E8 a b=true):E8 b a=false:=by grind[NF,E8]
theorem NI(c:a≠b)(h:E8 a b=false):E8 b a=true:=by grind[E8,NF,Prod.ext]
theorem a0d(h:E8 a b=true):a≠b:=λe=>by subst e;rw[El]at h;cases h
theorem EK{l:List aX}{e:aX}:e∈KN p l↔e∈l/\ib e≠p:=by simp[KN,List.mem_filter]
theorem a0e{x e:aX}{l:List aX}:e∈Oq x l↔e=x\/e∈l:=by
 induction l with
 |nil=>simp[Oq]
 |cons a r c=>
  unfold Oq
  split<;>grind
theorem EL{x e:aX}{l:List aX}:e∈nk x l↔e=x\/(e∈l/\ib e≠ib x):=by unfold nk;rw[a0e,EK]
theorem Sw{l:List aX}(h:uE l):uE (KN p l):=List.Pairwise.sublist List.filter_sublist h
theorem a99{x:aX}:∀{l:List aX},uE l->(∀e∈l,ib e≠ib x)->uE (Oq x l):=by
 intro l;induction l with
 |nil=>simp[Oq,uE]
 |cons a r g=>
  intro h f;obtain⟨k,j⟩:=agw.1 h;unfold Oq;split
  ·rename_i c
   refine agw.2 ⟨λy d=> ?_,h⟩;obtain rfl|d:=agk.1 d
   ·exact c
   ·exact NH c (k y d)
  ·rename_i c
   refine agw.2 ⟨λy d=> ?_,g j (λe i=>f e (by simp[i]))⟩;obtain rfl|d:=a0e.1 d<;>grind[NI,ni]
theorem Js{x:aX}{l:List aX}(h:uE l):uE (nk x l):=a99 (Sw h) (λ_ c=>(EK.1 c).2)
theorem yZ(p:Int×Int)(l:List aX):(KN p l).length<=l.length:=List.length_filter_le _ _
theorem YQ(x:aX)(l:List aX):(Oq x l).length=l.length+1:=by
 induction l with
 |nil=>rfl
 |cons a r c=>grind[Oq]
theorem Io(x:aX)(l:List aX):(nk x l).length<=l.length+1:=by simp[nk,YQ,yZ,ib]
theorem Qu{l:List aX}(h:uE l):l.Pairwise λa b=>ib a≠ib b:=List.Pairwise.imp (λ{_ _}c=>a0d c) h
theorem lF{l:List aX}{e:aX}(h:nI p l=some e):e∈l/\ib e=p:=by
 unfold nI at h
 grind
theorem NJ{l:List aX}(h:nI p l=none):∀e∈l,ib e≠p:=by
 unfold nI at h
 grind
theorem EM:∀{l:List aX},uE l->∀{e:aX},e∈l->nI (ib e) l=some e:=by
 intro l;induction l with
 |nil=>simp
 |cons a r f=>
  intro h e c;obtain⟨i,g⟩:=agw.1 h;unfold nI
  rw[List.find?_cons]
  obtain rfl|c:=agk.1 c
  ·simp
  ·have d:ib a≠ib e:=a0d (i e c)
   rw[show(decide (ib a=ib e))=false from afG d]
   exact f g c
theorem Jt{l:List aX}(h:uE l){e:aX}:nI p l=some e↔e∈l/\ib e=p:=
 ⟨lF,λ⟨d,c⟩=>by rw[<-c];exact EM h d⟩
theorem a6s{l:List aX}(h:uE l)(q p:Int×Int):nI p (KN q l)=if p=q then none else nI p l:=by
 by_cases e:p=q
 ·simp_all[nI,KN,none,lF,EK]
 ·rw[afJ e]
  cases c:nI p l with
  |some y=>grind[lF,Jt,Sw,EK]
  |none=>simp_all[nI,KN,none,lF,NJ,EK]
theorem YR{l:List aX}(h:uE l)(x:aX)(p:Int×Int):nI p (nk x l)=if p=ib x then some x else nI p l:=by
 by_cases e:p=ib x
 ·grind[Jt,Js,EL]
 ·rw[afJ e]
  cases f:nI p l with
  |some y=>grind[lF,Jt,Js,EL]
  |none=>
   cases c:nI p (nk x l)with
   |none=>rfl
   |some y=>
    obtain⟨d,i⟩:=lF c;obtain rfl|⟨g,_⟩:=EL.1 d<;>grind[NJ]
def eQ(e:aX):Value:=.agg #[.int .i64 e.addr,.int .i64 e.len,.string e.attrs]
def aJ(l:List aX):List Value:=l.flatMap λe=>[.int .i64 e.addr,.int .i64 e.len,.string e.attrs]
theorem lX(l:List aX):(aJ l).length=l.length*3:=by
 induction l with
 |nil=>rfl
 |cons a l c=>simp only[aJ,List.flatMap_cons,afE,ag4,age]at*;omega
theorem jZ(l m:List aX):aJ (l++m)=aJ l++aJ m:=by simp[aJ]
theorem qE:∀(l:List aX)(j:Nat)(h:j<l.length),(aJ l)[j*3]? =some (.int .i64 l[j].addr)/\(aJ l)[j*3+1]? =some (.int .i64 l[j].len)/\(aJ l)[j*3+2]? =some (.string l[j].attrs):=by
 intro l;induction l with
 |nil=>simp
 |cons a l c=>
  intro j h;cases j with
  |zero=>simp[aJ]
  |succ j=>grind[aJ]
structure vW where
 up:Bool
 rts:List aX
abbrev StateM:=Nat->vW
def qF:StateM:=λ_=>⟨false,[]⟩
def mG(s:StateM)(k:Nat)(p:vW):StateM:=λi=>if i=k then p else s i
def wS(b:ByteArray):aX:=⟨(nN b:Int),(qD b:Int),mX b⟩
def nu(l:List aX)(g:List (Int×Int)):List aX:=g.foldl (λl p=>KN p l) l
def vX(t:ByteArray)(l:List aX)(a:List (Int×Int)):List aX:=a.foldl (λl p=>nk ⟨p.1,p.2,t⟩ l) l
def kR(l:List aX)(u:Upd):List aX:=vX ⟨u.text.toArray⟩ (nu l u.gone) u.come
def ji(s:StateM)(r:Rec):StateM:=
 if r.kind=5 then qF
 else if r.kind=2 then mG s r.peer ⟨true,[]⟩
 else if r.kind=3 then mG s r.peer ⟨false,[]⟩
 else if r.kind=4 then(if (s r.peer).up=true then mG s r.peer ⟨true,nk (wS r.body) (s r.peer).rts⟩else s)
 else if r.kind=1 then(if (s r.peer).up=true then mG s r.peer ⟨true,kR (s r.peer).rts (upd r.body)⟩else s)
 else s
def kr(t:Int)(l:List Rec):List Rec:=l.takeWhile λr=>decide ((r.time:Int)<=t)
def mF(l:List Rec):StateM:=l.foldl ji qF
theorem Ke{s:StateM}{r:Rec}(h:r.kind=5):ji s r=qF:=by grind[ji]
theorem Qv{s:StateM}{r:Rec}(h:r.kind=2):ji s r=mG s r.peer ⟨true,[]⟩:=by grind[ji]
theorem Kg{s:StateM}{r:Rec}(h:r.kind=3):ji s r=mG s r.peer ⟨false,[]⟩:=by grind[ji]
theorem Ip{s:StateM}{r:Rec}(h:r.kind=4):ji s r=if (s r.peer).up=true then mG s r.peer ⟨true,nk (wS r.body) (s r.peer).rts⟩else s:=by grind[ji]
theorem NK{s:StateM}{r:Rec}(h:r.kind=1):ji s r=if (s r.peer).up=true then mG s r.peer ⟨true,kR (s r.peer).rts (upd r.body)⟩else s:=by grind[ji]
theorem Kh{s:StateM}{r:Rec}(h:r.kind=6\/r.kind=0\/6<r.kind):ji s r=s:=by grind[ji]
def ve(p:Int×Int):Prop:=0<=p.1/\p.1<=4294967295/\0<=p.2/\p.2<=255
structure OkP(p:vW)(n:Nat):Prop where
 ord:uE p.rts
 down:p.up=false->p.rts=[]
 len:p.rts.length<=n
 fit:∀e∈p.rts,ve (ib e)
def Td(s:StateM)(n:Nat):Prop:=∀i,OkP (s i) n
theorem OkP.mono{p:vW}{m:Nat}(h:OkP p n)(c:n<=m):OkP p m:=⟨h.ord,h.down,afC h.len c,h.fit⟩
theorem Td.mono{s:StateM}{n m:Nat}(h:Td s n)(c:n<=m):Td s m:=λi=>(h i).mono c
theorem NL(b:Bool)(n:Nat):OkP ⟨b,[]⟩ n:=⟨List.Pairwise.nil,λ_=>rfl,afK _,λe c=>by cases c⟩
theorem VI(n:Nat):Td qF n:=λ_=>NL _ _
theorem Td.set{s:StateM}(h:Td s n)(k:Nat){p:vW}(c:OkP p n):Td (mG s k p) n:=λi=>by
 unfold mG;split
 ·exact c
 ·exact h i
structure VJ(l:List aX)(n:Nat):Prop where
 ord:uE l
 len:l.length<=n
 fit:∀e∈l,ve (ib e)
theorem VJ.wo{l:List aX}(h:VJ l n)(p:Int×Int):VJ (KN p l) n:=⟨Sw h.ord,afC (yZ _ _) h.len,λe c=>h.fit e (EK.1 c).1⟩
theorem VJ.with{l:List aX}(h:VJ l n){x:aX}(f:ve (ib x)):VJ (nk x l) (n+1):=
 ⟨Js h.ord,afC (Io _ _) (by have:=h.len;omega),λe c=>by
  obtain rfl|c:=EL.1 c
  ·exact f
  ·exact h.fit e c.1⟩
theorem VJ.gone:∀(g:List (Int×Int)){l:List aX},VJ l n->VJ (nu l g) n:=by
 intro g;induction g with
 |nil=>intro l h;exact h
 |cons p r c=>intro l h;exact c (h.wo p)
theorem VJ.come(t:ByteArray):∀(a:List (Int×Int)){n:Nat}{l:List aX},(∀p∈a,ve p)->VJ l n->VJ (vX t l a) (n+a.length):=by
 intro a;induction a with
 |nil=>intro n l _ h;exact h
 |cons p r f=>
  intro n l c h;have d:=f (λq g=>c q (by simp[g])) (h.with (x:=⟨p.1,p.2,t⟩) (c p (by simp)));have e:n+1+r.length=n+(p::r).length:=by simp;omega
  rw[e]at d
  exact d
theorem VJ.changed{l:List aX}(h:VJ l n)(u:Upd)(c:∀p∈u.come,ve p):VJ (kR l u) (n+u.come.length):=(h.gone u.gone).come _ _ c
theorem YS(l:List aX)(g:List (Int×Int))(p:Int×Int):nu l (g++[p])=KN p (nu l g):=by simp[nu]
theorem YT(t:ByteArray)(l:List aX)(a:List (Int×Int))(p:Int×Int):vX t l (a++[p])=nk ⟨p.1,p.2,t⟩ (vX t l a):=by simp[vX]
theorem YU(s:ByteArray)(h:¬sI s):ve (Gn s):=by
 unfold sI at h;have o:qM s<=32:=by omega
 have d:0<gap (qM s):=by unfold gap;exact Int.pow_pos (by omega)
 have r:Sq s<4294967296:=by
  unfold Sq rdNum;have q:many (qM s)<=4:=by unfold many;omega
  have l:((s.extract 1 (1+many (qM s))).data.toList).length<=many (qM s):=by rw[DW,afU];omega
  have i:=yF (many (qM s)) _ l;have f:=num_nonneg ((s.extract 1 (1+many (qM s))).data.toList);have e:(256:Nat)^(many (qM s))*256^(4-many (qM s))=4294967296:=by rw[<-Nat.pow_add,show many (qM s)+(4-many (qM s))=4 by omega]
  have c:(num ((s.extract 1 (1+many (qM s))).data.toList)).toNat<256^(many (qM s)):=by
   have:(num ((s.extract 1 (1+many (qM s))).data.toList))<((256^(many (qM s)):Nat):Int):=by simpa using i
   omega
  calc _<256^(many (qM s))*256^(4-many (qM s)):=Nat.mul_lt_mul_of_pos_right c (Nat.pow_pos (by omega))
   _=4294967296:=e
 have k:=Int.emod_nonneg (Sq s:Int) (Int.ne_of_gt d);have j:=Int.xW (Sq s) (gap (qM s)) d;unfold Gn ve;simp only;omega
where
 Int.xW (a:Nat) (g:Int) (d:0<g):(a:Int)%g<=(a:Int):=by have o:=Int.mul_ediv_add_emod (a:Int) g;have m:0<=(a:Int)/g:=Int.ediv_nonneg (by omega) (by omega);have t:0<=g*((a:Int)/g):=Int.mul_nonneg (by omega) m;omega
theorem Qw:∀(n:Nat)(s:ByteArray)(l:List (Int×Int)),s.size<=n->dz s=some l->∀p∈l,ve p:=by
 intro n;induction n with
 |zero=>simp_all[EF]<;>omega
 |succ n i=>
  intro s l j h
  by_cases g:s.size=0
  ·simp_all[EF]<;>omega
  ·by_cases f:sI s
   ·simp_all[Jk]<;>omega
   ·rw[Gq s g f]at h
    have e:=sJ s;cases c:dz (vV s)with
    |none=>rw[c]at h;simp at h
    |some r=>
     rw[c]at h
     simp at h;subst h;intro p d;obtain rfl|d:=agk.1 d<;>grind[YU,vV]
theorem a0f(m:ByteArray):(∀p∈(upd m).gone,ve p)/\(∀p∈(upd m).come,ve p)/\(upd m).come.length<=m.size:=by
 have d:∀E:Int,(∀p∈(⟨E,[],[],[]⟩:Upd).gone,ve p)/\(∀p∈(⟨E,[],[],[]⟩:Upd).come,ve p)/\(⟨E,[],[],[]⟩:Upd).come.length<=m.size:=λE=>⟨by simp,by simp,by simp⟩
 unfold upd;split
 ·unfold sK
  split
  ·split
   ·rename_i g a l sp hg u _
    have J:=Qw _ _ g (afA _) hg;have L:=Qw _ _ a (afA _) u;have I:=Jr _ _ a (afA _) u;have y:=(EI (m.extract 19 m.size)).2.2;have F:(m.extract 19 m.size).size<=m.size:=aQ
    unfold EG
    split<;>grind
   ·simp
  ·simp
 simp
theorem Qx(b:ByteArray):ve (ib (wS b)):=by
 unfold wS ib ve;have c:(num ((b.extract 1 5).data.toList))<(256:Int)^4:=yF 4 _ (by simp<;>omega)
 grind[Ed,qD,gG]
def iZ(r:Rec):Nat:=r.body.size+1
theorem Td.takes{s:StateM}(h:Td s n)(r:Rec):Td (ji s r) (n+iZ r):=by
 have d:=h.mono (show n<=n+iZ r by omega);have e:∀i,VJ (s i).rts n:=λi=>⟨(h i).ord,(h i).len,(h i).fit⟩
 unfold ji;split
 ·exact VI _
 ·split
  ·exact d.set _ (NL _ _)
  ·split
   ·exact d.set _ (NL _ _)
   ·split
    ·split
     ·have c:=(e r.peer).with (Qx r.body)
      exact d.set _ ⟨c.ord,λx=>(by cases x),afC c.len (by simp[iZ]),c.fit⟩
     ·exact d
    ·split
     ·split
      ·obtain⟨_,f,g⟩:=a0f r.body
       have c:=(e r.peer).changed (upd r.body) f;exact d.set _ ⟨c.ord,λx=>(by cases x),afC c.len (by unfold iZ;omega),c.fit⟩
      ·exact d
     ·exact d
def iq:List Rec->Nat
 |[]=>0
 |r::l=>iZ r+iq l
theorem Qy(l m:List Rec):iq (l++m)=iq l+iq m:=by
 induction l with
 |nil=>simp[iq]
 |cons a r c=>grind[iq]
theorem Td.foldl:∀(l:List Rec){s:StateM}{n:Nat},Td s n->Td (l.foldl ji s) (n+iq l):=by
 intro l;induction l with
 |nil=>intro s n h;exact h
 |cons r l d=>
  intro s n h;have c:=d (h.takes r);have e:n+iZ r+iq l=n+iq (r::l):=by simp[iq];omega
  rw[e]at c
  exact c
theorem Gt(l:List Rec):Td (mF l) (iq l):=by have:=Td.foldl l (VI 0);rw[agj]at this;exact this
theorem a9a:∀(n:Nat)(b:ByteArray),b.size<=n->iq (jY b)<=b.size:=by
 intro n;induction n with
 |zero=>grind[fw,Ee,iq,lD]
 |succ n d=>
  intro b hb;cases hf:fw b with
  |false=>grind[Ee,iq]
  |true=>
   have y:=lD hf;have Y:=yU b;have:=d (Ih b) (by omega)
   rw[Jm hf]
   have u:(mZ b).body.size<=gZ b:=by unfold mZ;simp only;exact aQ
   simp only[iq,iZ];omega
structure VK(r:Rec):Prop where
 time:r.time<4294967296
 kind:r.kind<256
 peer:r.peer<6
 ok:mY r.kind r.peer r.body=true
 size:r.body.size<=65535
theorem a6t{k p:Nat}{b:ByteArray}(h:mY k p b=true):p<6:=by grind[mY]
theorem YV:∀(n:Nat)(b:ByteArray),b.size<=n->∀r∈jY b,VK r:=by
 intro n;induction n with
 |zero=>grind[fw,Ee,lD]
 |succ n u=>
  intro b hb;cases hf:fw b with
  |false=>grind[Ee]
  |true=>
   have E:=lD hf;have Y:=yU b
   rw[Jm hf]
   intro r d;obtain rfl|d:=agk.1 d
   ·have y:mY (mZ b).kind (mZ b).peer (mZ b).body=true:=by unfold fw at hf;simp only[afQ]at hf;exact hf.2.2
    refine⟨YI b,gG _ _,a6t y,y,?_⟩;have:=Ny b;unfold mZ;simp only;exact aQ
   ·grind
def jo(n:ByteArray):Bool:=
 decide (n.size=5)&&(decide (at8 n.data.toList 0=115)&&((decide (48<=at8 n.data.toList 1/\at8 n.data.toList 1<=57)&&(decide (48<=at8 n.data.toList 2/\at8 n.data.toList 2<=57)&&(decide (48<=at8 n.data.toList 3/\at8 n.data.toList 3<=57)&&decide (48<=at8 n.data.toList 4/\at8 n.data.toList 4<=57))))&&
  !decide (at8 n.data.toList 1=48/\at8 n.data.toList 2=48/\at8 n.data.toList 3=48/\at8 n.data.toList 4=48)))
def Ju(l:List aD):List aD:=l.filter λf=>jo f.name
def xw(l:List aD):List Rec:=(Ju l).flatMap λf=>jY f.data
def pW(l:List aD)(t:Int):StateM:=mF (kr t (xw l))
theorem YW(l:List aD):iq (l.flatMap λf=>jY f.data)<=aR l:=by
 induction l with
 |nil=>simp[iq]
 |cons f r c=>
  rw[List.flatMap_cons,Qy]
  have:=a9a _ f.data (afA _);simp only[aR];omega
theorem Sy(p:aD->Bool)(l:List aD):aR (l.filter p)<=aR l:=by
 induction l with
 |nil=>simp[aR]
 |cons f r c=>rw[List.filter_cons];split<;>simp only[aR]<;>omega
theorem Iq(t:Int)(l:List Rec):iq (kr t l)<=iq l:=by
 induction l with
 |nil=>simp[kr,iq]
 |cons r l c=>grind[kr,List.takeWhile_cons,iq]
theorem Jv(l:List Rec):l.length<=iq l:=by
 induction l with
 |nil=>simp
 |cons r l c=>grind[iq,iZ,ag4]
theorem Sz(l:List aD):iq (xw l)<=aR l:=afC (YW _) (Sy _ _)
theorem Jw(l:List aD)(t:Int):Td (pW l t) (aR l):=(Gt _).mono (afC (Iq _ _) (Sz l))
theorem Qz(l:List aD):∀r∈xw l,VK r:=by intro r c;obtain⟨f,_,d⟩:=List.mem_flatMap.1 c;exact YV _ f.data (afA _) r d
def stepT(t:Int)(x:StateM×Bool)(r:Rec):StateM×Bool:=if (x.2||decide (t<(r.time:Int)))=true then(x.1,true)else(ji x.1 r,false)
theorem VL(t:Int)(s:StateM):∀l:List Rec,l.foldl (stepT t) (s,true)=(s,true):=by
 intro l;induction l with
 |nil=>rfl
 |cons r l c=>simp[List.foldl_cons,stepT]<;>omega
theorem NM(t:Int):∀(l:List Rec)(s:StateM),(l.foldl (stepT t) (s,false)).1=(kr t l).foldl ji s:=by
 intro l;induction l with
 |nil=>intro s;rfl
 |cons r l d=>
  intro s;unfold kr
  rw[List.foldl_cons,List.takeWhile_cons]
  by_cases h:(r.time:Int)<=t
  ·have c:decide (t<(r.time:Int))=false:=afG (by omega)
   rw[afN (afL h)]
   simp only[stepT,c,Bool.or_false,afI,ag6,List.foldl_cons];exact d _
  ·have c:decide (t<(r.time:Int))=true:=afL (by omega)
   rw[afJ (by grind)]
   simp only[stepT,c,Bool.or_true,agr]
   rw[VL]
   rfl
end Rl
end Go.Proofs.Zq
