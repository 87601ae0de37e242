import Derived.Test.YtkdjjnkpfpogkaaGreatDoorK47
set_option maxHeartbeats 8000000
set_option linter.all false
set_option maxRecDepth 20000
namespace Go.Proofs.Zq
open Tryz
open Go.RowKit
open Rl
variable{w I:World}{ow:Nat->Nat}
theorem a3N(w:World)(ow:Nat->Nat)(G s:Nat)(cs:Nat->Value)(h:nJ w ow G cs s)(hs:s<=2097100):
  ai9 9 #[.pointer (some ⟨G,1,none⟩)] w (.bool true):=by
 obtain⟨n,came,Q,N,hB,hn,M,hE,hT,adj⟩:=h.ex;obtain⟨a,hKE,hWE,aeP⟩:=h.e.ex;obtain⟨KT,hKT,hWT,aeQ⟩:=h.t.ex;have O:=hB.blk.lt;have U:=λj hj=>hB.blk.cells j hj
 have c3:=U 3 (by omega);rw[hB.c3]at c3;have c8:=U 8 (by omega);rw[h.s.a]at c8;have c9:=U 9 (by omega);rw[h.s.b]at c9;obtain⟨ja,jc,ej⟩:=ay hKE.row;obtain⟨ua,uc,eu⟩:=ay hWE.row;obtain⟨ka,kc,ek⟩:=ay hKT.row;obtain⟨va,vc,ev⟩:=ay hWT.row;have c4:=U 4 (by omega);rw[ej]at c4 hKE;have c5:=U 5 (by omega);rw[eu]at c5 hWE;have c6:=U 6 (by omega);rw[ek]at c6 hKT;have c7:=U 7 (by omega);rw[ev]at c7 hWT;have HC:=U;have HS0:=hide (λwx(hb:ah' w wx)=>EN a _ _ _ _ wx (by omega) ((aM hKE.row).later hb) ((aM hWE.row).later hb));have HS1:=hide (λwx(hb:ah' w wx)=>Ez _ _ KT wx (by omega) ((aM hKT.row).later hb) ((aM hWT.row).later hb));have HB:=hide hB;have adk:=hide adj;go_enter Qf9,ntmps9;go_wp2_with fail
 go_region_held (λI=>I.cell? ⟨G,4,none⟩=some (.slice ja a.length jc)/\I.cell? ⟨G,5,none⟩=some (.slice ua a.length uc)/\ah' w I) (first|assumption|(exact⟨c4,c5,(a0n _ _).drew⟩)|(exact NR O O (by assumption) (by assumption))) (first|(go_at_call 15;refine(HS0.out _ uG).ai ?_;intro w1 aeR))
 rename_i ar1;have y:=ar1.2.2;replace c3:=(y.cell (p:=⟨G,3,none⟩) O).trans c3;replace c6:=(y.cell (p:=⟨G,6,none⟩) O).trans c6;replace c7:=(y.cell (p:=⟨G,7,none⟩) O).trans c7;replace c8:=(y.cell (p:=⟨G,8,none⟩) O).trans c8;replace c9:=(y.cell (p:=⟨G,9,none⟩) O).trans c9;replace O:G<w1.heap.size:=afB O y.size;go_wp2_with fail
 go_region_held (λI=>I.cell? ⟨G,6,none⟩=some (.slice ka KT.length kc)/\I.cell? ⟨G,7,none⟩=some (.slice va KT.length vc)/\ah' w1 I) (first|assumption|(exact⟨c6,c7,(a0n _ _).drew⟩)|(exact NR O O (by assumption) (by assumption))) (first|(go_at_call 19;refine(HS1.out _ (by first|exact(y.drew)|exact af y (by assumption:_/\_/\Below _ _ _).2.2 y.size)).ai ?_;intro w2 hbw2))
 rename_i ar2;have Bw2:=ar2.2.2;replace c3:=(Bw2.cell (p:=⟨G,3,none⟩) O).trans c3;replace c8:=(Bw2.cell (p:=⟨G,8,none⟩) O).trans c8;replace c9:=(Bw2.cell (p:=⟨G,9,none⟩) O).trans c9;replace O:G<w2.heap.size:=afB O Bw2.size;go_wp2_with fail
 go_region_held (λI=>I.cell? ⟨G,8,none⟩=some (.slice none 0 0)/\I.cell? ⟨G,9,none⟩=some (.slice none 0 0)/\ah' w2 I) (first|assumption|(exact⟨c8,c9,(a0n _ _).drew⟩)|(exact NR O O (by assumption) (by assumption))) (first|(go_at_call 25;refine(a1Q _).ai ?_;intro L aeS))
 rename_i ar3;have Bw3:=ar3.2.2;replace c3:=(Bw3.cell (p:=⟨G,3,none⟩) O).trans c3;replace O:G<L.heap.size:=afB O Bw3.size;have B:=af (af y Bw2 y.size) Bw3 (af y Bw2 y.size).size;have HBB:=hide B;have hGw:=HB.out.blk.lt;have c3:=(B.cell (p:=⟨G,3,none⟩) hGw).trans (HC 3 (by omega));rw[HB.out.c3]at c3;obtain⟨ta,tc,et0⟩:=ay HB.out.t.qO.row;obtain⟨na,nc,en0⟩:=ay HB.out.t.rz.row;obtain⟨pa,pc,ep0⟩:=ay HB.out.e.qO.row;obtain⟨ma,mc,em0⟩:=ay HB.out.e.rz.row;obtain⟨sa,sc,es0⟩:=ay HB.out.s.qO.row;have et:cs 12=.slice ta N.length tc:=et0;have en:cs 13=.slice na N.length nc:=en0;have ep:cs 10=.slice pa Q.length pc:=ep0;have em:cs 11=.slice ma Q.length mc:=em0;have es:cs 14=.slice sa 0 sc:=es0;have htl:(N.map Prod.snd).length=N.length:=ag0 ..;have hnl:(N.map λx=>(x.1:Int)).length=N.length:=ag0 ..;have hpl:(Q.map Prod.snd).length=Q.length:=ag0 ..;have hml:(Q.map λx=>(x.1:Int)).length=Q.length:=ag0 ..;have htT:N.length<=16777216:=by omega
 have htE:Q.length<=16777216:=by omega
 have c10:=HC 10 (by omega);rw[ep]at c10;have c11:=HC 11 (by omega);rw[em]at c11;have c12:=HC 12 (by omega);rw[et]at c12;have c13:=HC 13 (by omega);rw[en]at c13;have c14:=HC 14 (by omega);rw[es]at c14;have qO:w.ownsRow 0 28 1 (cs 12) N.length (N.map Prod.snd):=HB.out.t.qO.row
 rw[et]at qO
 have rz:w.ownsRow 0 3 1 (cs 13) N.length (ints (N.map λx=>(x.1:Int))):=HB.out.t.rz.row
 rw[en]at rz
 have aby:w.ownsRow 0 27 1 (cs 10) Q.length (Q.map Prod.snd):=HB.out.e.qO.row
 rw[ep]at aby
 have abz:w.ownsRow 0 3 1 (cs 11) Q.length (ints (Q.map λx=>(x.1:Int))):=HB.out.e.rz.row
 rw[em]at abz
 have HTR:=hide qO;have HNR:=hide rz;have HPR:=hide aby;have HMR:=hide abz;have HFU:=hide HB.out.t.full;have HFE:=hide HB.out.e.full;have abA:=hide c10;have adl:=hide c11;have abB:=hide c12;have aeT:=hide c13;have aeU:=hide c14;have V:=hide hGw;have aeV:=(B.cell (p:=⟨G,10,none⟩) hGw).trans c10;go_wp2_with fail
 go_loopw [6] (λi wr=>∃k:Nat,k<=Q.length/\i=.int .i64 k/\ah' w wr) (λi _=>Q.length-(intOf i).toNat)
 case atStart=>exact⟨0,afK _,rfl,HBB.out⟩
 case round=>
  obtain⟨k,R,rfl,hb⟩:=hrel;have c10:=(hb.cell (p:=⟨G,10,none⟩) V.out).trans abA.out
  by_cases Z:k<Q.length
  ·obtain⟨e,_⟩|⟨tg,_,_,e,_⟩:=HPR.out.2
   ·exact iJ
   ·cases e
    obtain⟨e,_⟩|⟨ng,_,_,e,_⟩:=HMR.out.2
    ·exact iJ
    ·cases e
     have F:=HPR.out.cellAt k (by omega)
     rw[agn,afP Z]at F
     have d:=HMR.out.cellAt k (by omega);unfold ints at d
     rw[agn,agn,afP Z]at d
     have htg:=(HPR.out.lt tg rfl).2;have hng:=(HMR.out.lt ng rfl).2;obtain⟨ua,X,uc,eu,hum,Y⟩:=HFE.out _ (afS Z);have hmk:=adk.out _ (afS Z);have tc2:w.cell? ⟨tg,k,none⟩=some (.slice ua X uc):=by rw[F,agy,eu]
     have nc2:w.cell? ⟨ng,k,none⟩=some (.int .i64 (Q[k].1:Int)):=by rw[d];rfl
     have q0:=(hb.cell (p:=⟨tg,k,none⟩) htg).trans tc2;have hx:(k:Int)<(Q.length:Int):=by omega
     have hk0:(0:Int)<=(k:Int):=by omega
     have HFL:=hide Y;have W:=hide tc2;have HN2:=hide nc2;generalize Q[k].1=mk at*;have hneg:IntKind.i64.wrap (-(mk:Int))= -(mk:Int):=aW
     have aeW:=hide hneg;go_wp2_with fail
     go_loopw [7] (λi wq=>∃j:Nat,j<=X/\i=.int .i64 j/\ah' w wq) (λi _=>X-(intOf i).toNat)
     case atStart=>exact⟨0,afK _,rfl,hb⟩
     case round=>
      obtain⟨j,hj,rfl,u⟩:=hrel;have c10:=(u.cell (p:=⟨G,10,none⟩) V.out).trans abA.out;have q0:=(u.cell (p:=⟨tg,k,none⟩) htg).trans W.out
      by_cases hjl:j<X
      ·obtain J|⟨g,rfl,hg,_,hcg⟩:=HFL.out
       ·omega
       ·have c11:=(u.cell (p:=⟨G,11,none⟩) V.out).trans adl.out
        have q1:=(u.cell (p:=⟨ng,k,none⟩) hng).trans HN2.out;have q3:=(u.cell (p:=⟨g,j*3,none⟩) hg).trans (hcg j hjl 0 (.int .i64 (-(mk:Int))) rfl);have q4:=(u.cell (p:=⟨g,j*3+1,none⟩) hg).trans (hcg j hjl 1 (.int .i64 0) rfl);have q5:=(u.cell (p:=⟨g,j*3+2,none⟩) hg).trans (hcg j hjl 2 (.string ⟨#[]⟩) rfl);have hxj:(j:Int)<(X:Int):=by omega
        have hj0:(0:Int)<=(j:Int):=by omega
        have hneg:=aeW.out;go_wp2_with fail
        go_quiet (fail)
        go_wp2_with fail
        exact⟨⟨j+1,by omega,by go_num,ahH u _⟩,aA⟩
      ·have hxj:¬(j:Int)<(X:Int):=by omega
       go_wp2_with fail
       exact⟨⟨k+1,by omega,by go_num,u⟩,aA⟩
  ·have hx:¬(k:Int)<(Q.length:Int):=by omega
   have c12:=(hb.cell (p:=⟨G,12,none⟩) V.out).trans abB.out;have HBK:=hide hb;go_wp2_with fail
   go_loopw [8] (λi wr=>∃k:Nat,k<=N.length/\i=.int .i64 k/\ah' w wr) (λi _=>N.length-(intOf i).toNat)
   case atStart=>exact⟨0,afK _,rfl,HBK.out⟩
   case round=>
    obtain⟨k,R,rfl,hb⟩:=hrel;have c12:=(hb.cell (p:=⟨G,12,none⟩) V.out).trans abB.out;have c13:=(hb.cell (p:=⟨G,13,none⟩) V.out).trans aeT.out
    by_cases Z:k<N.length
    ·obtain⟨e,_⟩|⟨tg,_,_,e,_⟩:=HTR.out.2
     ·exact iJ
     ·cases e
      obtain⟨e,_⟩|⟨ng,_,_,e,_⟩:=HNR.out.2
      ·exact iJ
      ·cases e
       have F:=HTR.out.cellAt k (by omega)
       rw[agn,afP Z]at F
       have d:=HNR.out.cellAt k (by omega);unfold ints at d
       rw[agn,agn,afP Z]at d
       have htg:=(HTR.out.lt tg rfl).2;have hng:=(HNR.out.lt ng rfl).2;obtain⟨ua,X,uc,eu,hum,Y⟩:=HFU.out _ (afS Z);have tc2:w.cell? ⟨tg,k,none⟩=some (.slice ua X uc):=by rw[F,agy,eu]
       have nc2:w.cell? ⟨ng,k,none⟩=some (.int .i64 (N[k].1:Int)):=by rw[d];rfl
       have q0:=(hb.cell (p:=⟨tg,k,none⟩) htg).trans tc2;have q1:=(hb.cell (p:=⟨ng,k,none⟩) hng).trans nc2;have hx:(k:Int)<(N.length:Int):=by omega
       have hk0:(0:Int)<=(k:Int):=by omega
       have HM:=hide (λwx=>Vb N[k].1 wx);have HFL:Hid (X=0\/∃g,ua=some ⟨g,0,none⟩/\g<w.heap.size/\∀j,j<X->w.cell? ⟨g,j,none⟩=some (.string (Fz N[k].1))):=hide (Y.imp id (λ⟨g,e,hg,_,M⟩=>⟨g,e,hg,λj hj=>by have:=M j hj 0 _ rfl;rwa[show j*kT.size+0=j from agV j]at this⟩));have W:=hide tc2;generalize Fz N[k].1=sm at*;generalize N[k].1=mk at*;go_wp2_with (go_at_call 26;refine(HM.out _).ai ?_;intro w6 E;have B6:=af hb E hb.size)
       go_loopw [10] (λi wq=>∃j:Nat,j<=X/\i=.int .i64 j/\ah' w wq) (λi _=>X-(intOf i).toNat)
       case atStart=>exact⟨0,afK _,rfl,B6⟩
       case round=>
        obtain⟨j,hj,rfl,u⟩:=hrel;have c12:=(u.cell (p:=⟨G,12,none⟩) V.out).trans abB.out;have q0:=(u.cell (p:=⟨tg,k,none⟩) htg).trans W.out
        by_cases hjl:j<X
        ·obtain J|⟨g,rfl,hg,hcg⟩:=HFL.out
         ·omega
         ·have q3:=(u.cell (p:=⟨g,j,none⟩) hg).trans (hcg j hjl)
          have hxj:(j:Int)<(X:Int):=by omega
          have hj0:(0:Int)<=(j:Int):=by omega
          go_wp2_with fail
          exact⟨⟨j+1,by omega,by go_num,u⟩,aA⟩
        ·have hxj:¬(j:Int)<(X:Int):=by omega
         go_wp2_with fail
         exact⟨⟨k+1,by omega,by go_num,u⟩,aA⟩
    ·have hx:¬(k:Int)<(N.length:Int):=by omega
     have c14:=(hb.cell (p:=⟨G,14,none⟩) V.out).trans aeU.out;go_wp2_with fail;refine ahF 1 ?_
     rw[ahG]
     go_wp2_with fail;go_ret
     exact⟨rfl,hb⟩
namespace Rl
structure uU where
 kind:Int
 W:Int
 A:Int
 C:Int
 S:ByteArray
 T:ByteArray
 la:Option Addr
 lc:Nat
 keep:List Int
structure OkOp(w:World)(ow:Nat->Nat)(o:uU):Prop where
 s:o.S.size<=2097152
 t:o.T.size<=2097152
 a0: -9223372036854775808<=o.A
 a1:o.A<=9223372036854775807
 w0: -9223372036854775808<=o.W
 w1:o.W<=9223372036854775807
 row:bz w (.slice o.la o.keep.length o.lc) o.keep.length 1 (ints o.keep)
 len:o.keep.length<=4194304
 code:o.keep.length≠0->∀k,(Value.slice o.la o.keep.length o.lc).ownBlock=some k->k<w.heap.size/\ow k=11
theorem OkOp.frame{T:Nat->Prop}{a:Nat->Nat}{o:uU}(h:OkOp w ow o)(d:Fr T w ow I a)(e:¬T 11):OkOp I a o:=
 ⟨h.s,h.t,h.a0,h.a1,h.w0,h.w1,EO h.row d (λb k c=>by rw[(h.code b k c).2];exact e),h.len,λb k c=>by
  obtain⟨f,g⟩:=h.code b k c
  exact⟨afB f d.size,d.ow f g e⟩⟩
def uU.val(o:uU):Value:=Gy o.kind o.W o.A o.C o.S o.T o.la o.keep.length o.lc
def StepT(i:Nat):Nat->Prop:=λc=>Ki c\/c=30+3*i\/c=31+3*i\/c=32+3*i
def wV(w:World)(ow:Nat->Nat)(i B G a b s:Nat)(j:Nat->Value)(g h:Value)(o:uU):World->Prop:=λI=>
 ∃c d e f,bU I c i B g h d/\iU d (a+1) (b+o.T.size)/\nJ I c G e f/\f<=s+1/\e 0=j 0/\Fr (StepT i) w ow I c
theorem nA{i B G a b s:Nat}{f:Nat->Value}{xv dv:Value}{e:Option az}{o:uU}(k:nJ w ow G f s)(j:iU e (a+1) (b+o.T.size))(h:∃d,bU I d i B xv dv e/\Fr (λc=>c=30+3*i\/c=31+3*i\/c=32+3*i) w ow I d):wV w ow i B G a b s f xv dv o I:=by
 obtain⟨d,l,g⟩:=h
 exact⟨d,e,f,s,l,j,k.frame g (by grind[BkC]),by omega,rfl,g.mono (λc m=>by unfold StepT;omega)⟩
theorem Og{i B G a b s:Nat}{d:Nat->Value}{e g:Value}{c:Option az}{o:uU}(h:bU w ow i B e g c)(l:nJ w ow G d s)(j:iU c a b)(k:ah' w I):wV w ow i B G a b s d e g o I:=by
 have f:=Fr.aK ow k (λ_=>False) 0
 exact⟨_,c,d,s,h.frame f (λx=>x) (λx=>x) (λx=>x),j.mono (by omega) (by omega),l.frame f (λ_ _ x=>x),by omega,rfl,f.mono (λ_ x=>x.elim)⟩
end Rl
open Rl
theorem a7f(w:World)(ow:Nat->Nat)(i B G a b s:Nat)(cs:Nat->Value)(xv dv:Value)(F:Option az)(o:uU)(h:bU w ow i B xv dv F)(hf:iU F a b)(Z:nJ w ow G cs s)(ho:OkOp w ow o)(X:a<=4194304)(hb:b<=1048576)(hs:s<=2097100)(R:o.kind<=12\/23<=o.kind):
  ai3 7 #[.pointer (some ⟨G,0,none⟩),.pointer (some ⟨B,0,none⟩),o.val] w λe I=>∃r,e=.returned (.tuple #[.bool true,.int .i64 r])/\wV w ow i B G a b s cs xv dv o I:=by
 obtain⟨k,W,A,C,S,T,L,J,keep⟩:=o;obtain⟨hS,hT,hA0,hA1,hW0,hW1,hrow,Q,O⟩:=ho;simp only at R hS hT hA0 hA1 hW0 hW1 hrow Q O;unfold uU.val;simp only;have hT4:T.size<=4194304:=by omega
 have hbQ:=hb;replace hb:b<=4194304:=by omega
 by_cases h12:k<=2\/25<=k
 ·exact(a6F w ow i B G xv dv F k W A C S T L keep.length J h h12).mono (λe I⟨u,hb⟩=>⟨0,u,Og h Z hf hb⟩)
 ·by_cases h3:k=3
  ·subst h3
   obtain⟨f,E,y,d⟩:=Y3 (i:=i) (xv:=xv) (dv:=dv) hf X hb S T hS hT4
   exact(rA w ow i B G xv dv F f 3 W A C S T L keep.length J h (by omega) (λw1 qL h1 _=>RZ w1 qL i B xv dv F f E W A C S T L keep.length J h1 y)).mono (λe I⟨u,Y⟩=>⟨1,u,nA Z d Y⟩)
  by_cases h4:k=4
  ·subst h4
   obtain⟨f,E,y,d⟩:=a6C (i:=i) (xv:=xv) (dv:=dv) hf X hb S hS
   exact(rA w ow i B G xv dv F f 4 W A C S T L keep.length J h (by omega) (λw1 qL h1 _=>Ym w1 qL i B xv dv F f E W A C S T L keep.length J h1 y)).mono (λe I⟨u,Y⟩=>⟨1,u,nA Z (d.mono (afA _) (by simp)) Y⟩)
  by_cases h5:k=5
  ·subst h5
   obtain⟨f,E,y,d⟩:=Y4 (i:=i) (xv:=xv) (dv:=dv) hf X hb S T hS hT
   exact(rA w ow i B G xv dv F f 5 W A C S T L keep.length J h (by omega) (λw1 qL h1 _=>R6 w1 qL i B xv dv F f E W A C S T L keep.length J h1 y)).mono (λe I⟨u,Y⟩=>⟨1,u,nA Z (d.mono (afA _) (by simp)) Y⟩)
  by_cases h6:k=6
  ·subst h6
   obtain⟨f,E,y,d⟩:=Y5 (i:=i) (xv:=xv) (dv:=dv) hf X hb S hS
   exact(rA w ow i B G xv dv F f 6 W A C S T L keep.length J h (by omega) (λw1 qL h1 _=>R7 w1 qL i B xv dv F f E W A C S T L keep.length J h1 y)).mono (λe I⟨u,Y⟩=>⟨1,u,nA Z (d.mono (afA _) (by simp)) Y⟩)
  by_cases h7:k=7
  ·subst h7
   obtain⟨f,E,y,d⟩:=SB (i:=i) (xv:=xv) (dv:=dv) hf X hb S hS A
   exact(rA w ow i B G xv dv F f 7 W A C S T L keep.length J h (by omega) (λw1 qL h1 _=>MU w1 qL i B xv dv F f E W A C S T L keep.length J h1 y)).mono (λe I⟨u,Y⟩=>⟨1,u,nA Z (d.mono (afA _) (by simp)) Y⟩)
  by_cases h8:k=8
  ·subst h8
   obtain⟨f,E,y,d⟩:=a3b (i:=i) (xv:=xv) (dv:=dv) hf X hb keep Q;refine(rA w ow i B G xv dv F f 8 W A C S T L keep.length J h (by omega) (λw1 qL h1 hf1=>VS w1 qL i B xv dv F f E W A C S T L J keep h1 (EO hrow hf1 (λhz k R=>by rw[(O hz k R).2];omega)) Q (λhz k R=> ?_) y)).mono (λe I⟨u,Y⟩=>⟨1,u,nA Z (d.mono (afA _) (by simp)) Y⟩);obtain⟨c1,c2⟩:=O hz k R
   exact⟨afB c1 hf1.size,hf1.ow c1 c2 (by omega)⟩
  by_cases h24:k=24
  ·subst h24
   obtain⟨f,E,y,d⟩:=a2U (i:=i) (xv:=xv) (dv:=dv) hf X hb A hA1
   exact(a3c w ow i B G xv dv F f W A C S T L keep.length J h (λw1 qL h1 _=>Va w1 qL i B xv dv F f E W A C S T L keep.length J h1 y)).mono (λe I⟨u,Y⟩=>⟨1,u,nA Z (d.mono (afA _) (by simp)) Y⟩)
  by_cases h23:k=23
  ·subst h23
   refine(Y7 w ow i B G xv dv F W A C S T L keep.length J h).mono (λe I⟨u,N,hw',j⟩=>⟨0,u,N,F,cs,s,hw',hf.mono (by omega) (by omega),Z.frame j (by grind[BkC]),by omega,rfl,j.mono (λc M=>by unfold StepT;omega)⟩)
  by_cases hq:k=12
  ·subst hq
   refine(a3M w ow i B G a b xv dv F W A C S T L keep.length J h hf X hbQ s cs Z hs).mono (λe I⟨u,N,cs',hB',hcs,j⟩=>⟨2,u,N,F,cs',s+1,h.frame j gD gD gD,hf.mono (by omega) (by omega),hB',by omega,hcs,j.mono (λc M=>.inl M)⟩)
  have aeX:9<=k/\k<=11:=by omega
  refine(a3d w ow i B G xv dv F k W A C S T L keep.length J (wV w ow i B G a b s cs xv dv ⟨k,W,A,C,S,T,L,J,keep⟩) h aeX (λw1 f1 h1=> ?_)).mono (λe I⟨u,Y⟩=>⟨1,u,Y⟩);have hB1:=Z.frame f1 (λ_ _ x=>x)
  have U:∀I,ah' w1 I->wV w ow i B G a b s cs xv dv ⟨k,W,A,C,S,T,L,J,keep⟩ I:=λI V=>by
   obtain⟨N,f,cs',s',q1,q2,q3,q4,q5,q6⟩:=Og (o:=⟨k,W,A,C,S,T,L,J,keep⟩) h1 hB1 hf V
   exact⟨N,f,cs',s',q1,q2,q3,q4,q5,(f1.mono (λ_ x=>x.elim)).trans q6 (λ_ x=>x)⟩
  by_cases h9:k=9
  ·subst h9
   exact(a2R w1 _ i B G a b xv dv F W A C S T L keep.length J h1 hf X hS).mono (λe I⟨u,V⟩=>⟨u,U I V⟩)
  by_cases h10:k=10
  ·subst h10
   refine(a2T w1 _ i B G a b xv dv F W A C S T L keep.length J h1 hf X s cs hB1 hs).mono (λe I⟨u,N,cs',hB',hcs,j⟩=>⟨u,N,F,cs',s+1,h1.frame j gD gD gD,hf.mono (by omega) (by omega),hB',by omega,hcs,(f1.mono (λ_ x=>x.elim)).trans (j.mono (λc M=>Or.inl M)) (λ_ x=>x)⟩)
  have h11:k=11:=by omega
  subst h11
  exact(a2S w1 _ i B G a b xv dv F W A C S T L keep.length J h1 hf X hb).mono (λe I⟨u,V⟩=>⟨u,U I V⟩)
end Go.Proofs.Zq
