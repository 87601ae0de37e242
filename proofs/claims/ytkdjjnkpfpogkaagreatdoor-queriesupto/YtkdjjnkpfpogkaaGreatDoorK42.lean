import Derived.Test.YtkdjjnkpfpogkaaGreatDoorK41
set_option maxHeartbeats 8000000
set_option linter.all false
set_option maxRecDepth 100000
namespace Go
def aqX{P:Prop}(h:P:=by
 have u0:=a.ups p c;have u1:=a.rts p c;have z0:=a.fz p (by omega);have z1:=a.fz (6+p) (by omega);have hp0:(0:Int)<=(p:Int):=by omega
 have hp6:(p:Int)<6:=by omega
 have hne:w.heap.size≠P:=agX h.lt;have hne':P≠w.heap.size:=Nat.ne_of_lt h.lt;go_enter aiP,ntmps102;go_wp2_with fail
 go_region
 go_wp2_with fail
 go_region
 go_wp2_with fail
 refine aqr ?_
 exact⟨rfl,(qG.drew (qG.drew ⟨_,d,f.out⟩))⟩):P:=h
def aqY{P:Prop}(h:P:=by
 rw[a]at g
 simp only[afI,ag6];go_enter aiP,ntmps102;go_wp2_with fail
 go_region
 go_wp2_with fail
 refine aqr ?_
 exact⟨rfl,qG.drew ⟨_,z,U.out⟩⟩):P:=h
def aqJ{P:Prop}(h:P:=by
 go_wp2_with fail
 refine aqr ?_
 exact⟨rfl,_,a,d.out⟩):P:=h
def aqZ{P:Prop}(h:P:=by
 go_wp2_with fail
 refine aqr ?_
 exact⟨rfl,_,a,c.out⟩):P:=h
end Go
namespace Go.Proofs.Zq
open Tryz
open Go.RowKit
open Rl
variable{k B P n p:Nat}{A w w':World}{v:Value}{rv:Nat->Value}
theorem a6P{l:List aX}(h:k<l.length):aJ (l.take (k+1))=aJ (l.take k)++[.int .i64 l[k].addr,.int .i64 l[k].len,.string l[k].attrs]:=by rw[afH h,jZ];rfl
theorem a3n(v:Value)(l:List aX)(w:World)(Y:bz w v l.length 3 (aJ l))(hn:l.length<=8388608):
  ai3 51 #[v] w λe w'=>∃v',e=.returned v'/\w'.ownsRow w.heap.size 80 3 v' l.length (aJ l)/\ah' w w':=by
 obtain⟨i0,hi,hz0,hz1,hz2⟩:=ahC Iw
 obtain⟨V,U,rfl⟩:∃a c,v=.slice a l.length c:=ahm
 go_enter anH,ntmps51;go_wp2
 go_loopw [3,4] (λx i wr=>∃(k:Nat)(E:Value),E=x/\k<=l.length/\i=.int .i64 k/\wr.ownsRow w.heap.size 80 3 E k (aJ (l.take k))/\ah' w wr) (λ_ i _=>l.length-(intOf i).toNat)
 case atStart=>exact⟨0,_,rfl,afK _,rfl,a9X _ _ _ _,a0n _ _⟩
 case round=>
  obtain⟨k,E,rfl,R,rfl,F,hb⟩:=hrel
  by_cases Z:k<l.length
  ·obtain⟨_,_,_,J⟩|⟨g,o,O,e,_,N,M⟩:=(Y.later hb).2
   ·omega
   ·cases e
    obtain⟨g1,g2,g3⟩:=qE l k Z;have q0:wr.cell? ⟨g,o+k*3,none⟩=_:=M _ _ g1;have q1:wr.cell? ⟨g,o+k*3+1,none⟩=_:=M _ _ g2;have q2:wr.cell? ⟨g,o+k*3+2,none⟩=_:=M _ _ g3;have HS:=a6P Z;have hx:(k:Int)<(l.length:Int):=by omega
    have L:(0:Int)<=(k:Int):=by omega
    generalize l[k]=y at*;go_wp2_with (at_builtin;refine af4 _ rfl _ _ 27 rfl w.heap.size 80 i0 (.agg #[.int .i64 0,.int .i64 0,.string ⟨#[]⟩]) 3 32 aiN hi hz0 hz1 hz2 rfl (by decide) _ _ _ rfl (F.alloc _) ⟨wr.heap.size,0,none⟩ 1 1 [.int .i64 y.addr,.int .i64 y.len,.string y.attrs] rfl rfl (cu _ _ _) (qb y) aB (by omega) (afC hb.size (by simp)) ?_;intro I Q u d _)
    exact⟨⟨k+1,I,rfl,by omega,by go_num,by rw[HS];exact u,dX hb hb.size F d⟩,aA⟩
  ·have e:k=l.length:=by omega
   subst e
   rw[ag8]at F
   go_wp2;go_ret
   exact⟨E,rfl,F,hb⟩
theorem QJ{l:List aX}{g:List (Int×Int)}(h:k<g.length):nu l (g.take (k+1))=KN g[k] (nu l (g.take k)):=by rw[afH h,YS]
theorem QK{t:ByteArray}{l:List aX}{g:List (Int×Int)}(h:k<g.length):vX t l (g.take (k+1))=nk ⟨g[k].1,g[k].2,t⟩ (vX t l (g.take k)):=by rw[afH h,YT]
theorem QL(t:ByteArray)(l:List aX):∀a:List (Int×Int),(vX t l a).length<=l.length+a.length:=by
 intro a;induction a generalizing l with
 |nil=>exact afA _
 |cons p r b=>grind[nk,Io,vX,ag4]
theorem Jy:∀(g:List (Int×Int))(l:List aX),(nu l g).length<=l.length:=by
 intro g;induction g with
 |nil=>intro l;exact afA _
 |cons p r a=>intro l;exact afC (a _) (yZ _ _)
theorem abn{wc a:World}{f e d c:Addr}{q o v0 m:Value}(l:f.block<wc.heap.size)(j:e.block<wc.heap.size)(i:d.block<wc.heap.size)(g:c.block<wc.heap.size)(h:A.cell? f=some q/\A.cell? e=some o/\A.cell? d=some v0/\A.cell? c=some m/\ah' wc A)(b:ah' A a):
  a.cell? f=some q/\a.cell? e=some o/\a.cell? d=some v0/\a.cell? c=some m/\ah' wc a:=by
 obtain⟨x,u,t,s,r⟩:=h;have z:=r.size
 exact⟨(b.cell (p:=f) (afB l z)).trans x,(b.cell (p:=e) (afB j z)).trans u,(b.cell (p:=d) (afB i z)).trans t,(b.cell (p:=c) (afB g z)).trans s,af r b z⟩
theorem ES{l:List (Int×Int)}(d:bz w v l.length 2 (bO l)):∃a c,v=.slice a l.length c:=ahk
theorem Le{l:List aX}(d:bz w v l.length 3 (aJ l)):∃a c,v=.slice a l.length c:=ahk
theorem V6(v vg va:Value)(l:List aX)(u:Upd)(w:World)(Y:bz w v l.length 3 (aJ l))(hg:bz w vg u.gone.length 2 (bO u.gone))(ha:bz w va u.come.length 2 (bO u.come))(hn:l.length<=4194304)(hgl:u.gone.length<=1000000)(hal:u.come.length<=1000000):
  ai3 158 #[v,.agg #[vg,va,.string ⟨u.text.toArray⟩]] w λe w'=>∃v',e=.returned v'/\bz w' v' (kR l u).length 3 (aJ (kR l u))/\(∀k,v'.ownBlock=some k->v.ownBlock=some k\/w.heap.size<=k)/\ah' w w':=by
 obtain⟨av,cv,rfl⟩:=Le Y;obtain⟨ag,cg,rfl⟩:=ES hg;obtain⟨aa,ca,rfl⟩:=ES ha;obtain⟨T,hT⟩:∃T:ByteArray,T=⟨u.text.toArray⟩:=⟨_,rfl⟩;have HU:Hid (kR l u=vX T (nu l u.gone) u.come):=by rw[Hid,hT];rfl
 rw[<-hT]
 clear hT;generalize u.gone=y at*;generalize u.come=F at*;have ba:=(a0n w.heap.size w).alloc (afA _) (.cells #[.slice ag y.length cg,.slice aa F.length ca,.string T] 218);have bx:=lU w (.slice ag y.length cg) (.slice aa F.length ca) (.string T) 218;have HG:=hg.later ba;have G:=hide (ha.later ba);have I:=Y.later ba;have HB0:=hide ba;have hsz0:=ba.size;have HV:Hid (∀k,(Value.slice av l.length cv).ownBlock=some k->(Value.slice av l.length cv).ownBlock=some k\/w.heap.size<=k):=λk R=>.inl R
 clear Y hg ha ba;go_enter alY,ntmps158;go_wp2_with fail;generalize w.alloc (.cells #[.slice ag y.length cg,.slice aa F.length ca,.string T] 218)=w1 at*
 go_loopw [0,5] (λx i wr=>∃(k:Nat)(E:Value),E=x/\k<=y.length/\i=.int .i64 k/\bz wr E (nu l (y.take k)).length 3 (aJ (nu l (y.take k)))/\(∀k,E.ownBlock=some k->(Value.slice av l.length cv).ownBlock=some k\/w.heap.size<=k)/\ah' w1 wr) (λ_ i _=>y.length-(intOf i).toNat)
 case atStart=>exact⟨0,_,rfl,afK _,rfl,I,HV.out,a0n _ _⟩
 case round=>
  obtain⟨k,E,rfl,R,rfl,d,X,hb⟩:=hrel;obtain⟨O,b1,b2,_,_,_,bl⟩:=bx.later hb;obtain⟨la,lc,rfl⟩:=Le d
  by_cases Z:k<y.length
  ·obtain⟨_,_,_,J⟩|⟨g,o,cap,e,_,W,M⟩:=(HG.later hb).2
   ·omega
   ·cases e
    obtain⟨g1,g2⟩:=kX y k Z;have q0:wr.cell? ⟨g,o+k*2,none⟩=_:=M _ _ g1;have q1:wr.cell? ⟨g,o+k*2+1,none⟩=_:=M _ _ g2;have HS:=hide (QJ (l:=l) Z);have hgn:=Jy (y.take k) l;have hx:(k:Int)<(y.length:Int):=by omega
    have hk0:(0:Int)<=(k:Int):=by omega
    have V:=Kj _ _ y[k] wr d (by omega);have U:=hide hb;clear M g1 g2 I d hb;generalize y[k]=p at*;generalize nu l (y.take k)=l2 at*;obtain⟨pa,pl⟩:=p;go_wp2_with (go_at_call 208;refine V.mono ?_;rintro e L ⟨v3,rfl,N,q⟩;obtain⟨a3,c3,rfl⟩:=ay N);refine⟨⟨k+1,_,rfl,by omega,by go_num,by rw[HS.out];exact aM N,λj hj=>.inr ?_,af U.out q U.out.size⟩,aA⟩;have h1:=(N.lt j hj).1;have h2:=U.out.size;omega
  ·have e:k=y.length:=by omega
   subst e
   rw[ag8]at d X
   have hgn:=Jy y l;have U:=hide hb;have hbs:=hb.size;have hx:¬(y.length:Int)<(y.length:Int):=by omega
   have HR:=hide d;have HVV:=hide X;clear I d hb X HV
   go_upto_region 6 with fail
   go_loopw [0,6] (λx i wr=>∃(k:Nat)(E:Value),E=x/\k<=F.length/\i=.int .i64 k/\bz wr E (vX T (nu l y) (F.take k)).length 3 (aJ (vX T (nu l y) (F.take k)))/\(∀k,E.ownBlock=some k->(Value.slice av l.length cv).ownBlock=some k\/w.heap.size<=k)/\ah' w1 wr) (λ_ i _=>F.length-(intOf i).toNat)
   case atStart=>exact⟨0,_,rfl,afK _,rfl,HR.out,HVV.out,U.out⟩
   case round=>
    obtain⟨k,E,rfl,R,rfl,d,X,hb⟩:=hrel;obtain⟨O,b1,b2,_,_,_,bl⟩:=bx.later hb;obtain⟨la,lc,rfl⟩:=Le d;clear HR HVV
    by_cases Z:k<F.length
    ·obtain⟨_,_,_,J⟩|⟨g,o,cap,e,_,W,M⟩:=(G.out.later hb).2
     ·omega
     ·cases e
      obtain⟨g1,g2⟩:=kX F k Z;have q0:wr.cell? ⟨g,o+k*2,none⟩=_:=M _ _ g1;have q1:wr.cell? ⟨g,o+k*2+1,none⟩=_:=M _ _ g2;have HS:=hide (QK (t:=T) (l:=nu l y) Z);have hgn2:=QL T (nu l y) (F.take k);have hlk:(F.take k).length<=k:=List.length_take_le _ _;have hx2:(k:Int)<(F.length:Int):=by omega
      have hk0:(0:Int)<=(k:Int):=by omega
      have HCA:=hide (λA(r:ah' wr A)=>V5 _ _ ⟨F[k].1,F[k].2,T⟩ A (d.later r) (by omega));have Q:=hide hb;have aez:=hb.size;clear M g1 g2 d hb;generalize F[k]=p at*;generalize vX T (nu l y) (F.take k)=l3 at*;obtain⟨pa,pl⟩:=p;have hS:wr.drew.cell? ⟨w.heap.size,1,none⟩=some (.slice (some ⟨g,o,none⟩) F.length ca)/\wr.drew.cell? ⟨w.heap.size,2,none⟩=some (.string T)/\wr.drew.cell? ⟨g,o+k*2,none⟩=some (.int .i64 pa)/\wr.drew.cell? ⟨g,o+k*2+1,none⟩=some (.int .i64 pl)/\ah' wr wr.drew:=⟨b1,b2,q0,q1,(a0n _ _).drew⟩;go_wp2_with fail
      go_region_held (λw'=>w'.cell? ⟨w.heap.size,1,none⟩=some (.slice (some ⟨g,o,none⟩) F.length ca)/\w'.cell? ⟨w.heap.size,2,none⟩=some (.string T)/\w'.cell? ⟨g,o+k*2,none⟩=some (.int .i64 pa)/\w'.cell? ⟨g,o+k*2+1,none⟩=some (.int .i64 pl)/\ah' wr w') (first|assumption|exact hS|(exact abn bl bl W W (by assumption) (by assumption))) (first|(go_at_call 156;refine(HCA.out _ uK).mono ?_;rintro e L ⟨v3,rfl,N,q⟩))
      rename_i D;have a6O:=D.2.2.2.2;obtain⟨a3,c3,rfl⟩:=ay N;go_wp2_with fail;refine⟨⟨k+1,_,rfl,by omega,by go_num,by rw[HS.out];exact aM N,λj hj=>.inr ?_,af Q.out a6O aez⟩,aA⟩;have h1:=(N.lt j hj).1;have h2:wr.drew.heap.size=wr.heap.size:=rfl;omega
    ·have e:k=F.length:=by omega
     subst e
     rw[ag8]at d X
     have hx2:¬(F.length:Int)<(F.length:Int):=by omega
     have HR:=hide d;have Q:=hide hb;clear d hb;go_wp2_with fail;go_ret
     rw[HU.out]
     exact⟨_,rfl,HR.out,X,af HB0.out Q.out hsz0⟩
namespace Rl
structure gM(w:World)(B P:Nat)(rv:Nat->Value)(s:StateM):Prop where
 ups:∀i,i<6->w.cell? ⟨P,i,none⟩=some (.bool (s i).up)
 rts:∀i,i<6->w.cell? ⟨P,6+i,none⟩=some (rv i)
 fz:∀j,j<12->w.frozen? ⟨P,j,none⟩=false
 lt:P<w.heap.size
 rows:∀i,i<6->bz w (rv i) (s i).rts.length 3 (aJ (s i).rts)
 far:∀i,i<6->∀k,(rv i).ownBlock=some k->B<=k/\k≠P
theorem gM.touch{S:Nat->Prop}{s:StateM}(h:gM w B P rv s)(b:dJ S w w')(c:¬S P)(d:∀i,i<6->∀k,(rv i).ownBlock=some k->¬S k):gM w' B P rv s:=
 ⟨λi a=>(b.cell (p:=⟨P,i,none⟩) h.lt c).trans (h.ups i a),λi a=>(b.cell (p:=⟨P,6+i,none⟩) h.lt c).trans (h.rts i a),λj e=>(b.frozen (p:=⟨P,j,none⟩) h.lt c).trans (h.fz j e),afB h.lt b.size,λi a=>iQ (h.rows i a) b (d i a),h.far⟩
theorem gM.later{s:StateM}(h:gM w B P rv s)(a:ah' w w'):gM w' B P rv s:=h.touch (dJ.aK (S:=λ_=>False) a) (λx=>x) (λ_ _ _ _ x=>x)
theorem Lf{a j:Nat}{b:List Value}(h:bz w v n a b)(u:Value)(c:∀k,v.ownBlock=some k->k≠P):bz (w.setCell ⟨P,j,none⟩ u) v n a b:=
 iQ h (fH (S:=λk=>k=P) (p:=⟨P,j,none⟩) u rfl) (λk d e=>c k d e)
theorem gM.aeA{s:StateM}(h:gM w B P rv s)(g:p<6){l:List aX}(f:bz w v l.length 3 (aJ l))(c:∀k,v.ownBlock=some k->B<=k/\k≠P):
  gM (w.setCell ⟨P,6+p,none⟩ v) B P (λi=>if i=p then v else rv i) (mG s p ⟨(s p).up,l⟩):=by
 refine⟨λi a=> ?_,λi a=> ?_,λj d=>jP,by simpa using h.lt,λi a=> ?_,λi a k b=> ?_⟩
 ·rw[bB _ _ _ _ _ (by omega),h.ups i a]
  unfold mG;split<;>grind
 ·by_cases e:i=p
  ·subst e;simp only[agr];exact aex _ _ _ (h.rts i a)
  ·rw[afJ e,bB _ _ _ _ _ (by omega)];exact h.rts i a
 ·unfold mG
  by_cases e:i=p
  ·grind[Lf]
  ·simp only[afJ e];exact Lf (h.rows i a) _ (λk b=>(h.far i a k b).2)
 ·by_cases e:i=p
  ·grind
  ·simp only[afJ e]at b;exact h.far i a k b
theorem gM.acW{s:StateM}(h:gM w B P rv s)(f:p<6)(b:Bool):
  gM ((w.setCell ⟨P,p,none⟩ (.bool b)).setCell ⟨P,6+p,none⟩ (.slice none 0 0)) B P (λi=>if i=p then .slice none 0 0 else rv i) (mG s p ⟨b,[]⟩):=by
 refine⟨λi a=> ?_,λi a=> ?_,λj d=>jP,by simpa using h.lt,λi a=> ?_,λi a k c=> ?_⟩
 ·rw[bB _ _ _ _ _ (by omega)]
  unfold mG
  by_cases e:i=p
  ·subst e;exact CO
  ·exact CP
 ·by_cases e:i=p
  ·subst e;simp only[agr];exact aex _ _ _ (by rw[bB _ _ _ _ _ (by omega)];exact h.rts i a)
  ·rw[afJ e,bB _ _ _ _ _ (by omega),bB _ _ _ _ _ (by omega)];exact h.rts i a
 ·unfold mG
  by_cases e:i=p
  ·simp only[afN e];exact bz.nil _ _ _ _
  ·simp only[afJ e];exact Lf (Lf (h.rows i a) _ (λk c=>(h.far i a k c).2)) _ (λk c=>(h.far i a k c).2)
 ·by_cases e:i=p
  ·simp only[afN e]at c;cases c
  ·simp only[afJ e]at c;exact h.far i a k c
def Jz(w:World)(P:Nat):World:=
 (((((((((((w.setCell ⟨P,0,none⟩ (.bool false)).setCell ⟨P,1,none⟩ (.bool false)).setCell ⟨P,2,none⟩ (.bool false)).setCell ⟨P,3,none⟩ (.bool false)).setCell ⟨P,4,none⟩ (.bool false)).setCell ⟨P,5,none⟩ (.bool false)).setCell ⟨P,6,none⟩ (.slice none 0 0)).setCell ⟨P,7,none⟩ (.slice none 0 0)).setCell ⟨P,8,none⟩ (.slice none 0 0)).setCell ⟨P,9,none⟩ (.slice none 0 0)).setCell ⟨P,10,none⟩ (.slice none 0 0)).setCell ⟨P,11,none⟩ (.slice none 0 0)
theorem gM.zero{s:StateM}(h:gM w B P rv s):gM (Jz w P) B P (λ_=>.slice none 0 0) qF:=by
 refine⟨λi a=> ?_,λi a=> ?_,λj c=>by simpa[Jz]using h.fz j c,by simpa[Jz]using h.lt,λi a=>bz.nil _ _ _ _,λi a k b=>by cases b⟩
 ·unfold Jz qF
  exact aht
 ·unfold Jz
  have:i=0\/i=1\/i=2\/i=3\/i=4\/i=5:=by omega
  obtain rfl|rfl|rfl|rfl|rfl|rfl:=this
  all_goals
   repeat rw[bB _ _ _ _ _ (by omega)]
   exact aex _ _ _ (by (repeat rw[bB _ _ _ _ _ (by omega)]);exact h.rts _ (by omega))
theorem a6Q(w:World)(P:Nat):dJ (λk=>k=P) w (Jz w P):=
 (((((((((((fH (S:=λk=>k=P) (p:=⟨P,0,none⟩) (.bool false) rfl).set (p:=⟨P,1,none⟩) _ (.inl rfl)).set (p:=⟨P,2,none⟩) _ (.inl rfl)).set (p:=⟨P,3,none⟩) _ (.inl rfl)).set (p:=⟨P,4,none⟩) _ (.inl rfl)).set (p:=⟨P,5,none⟩) _ (.inl rfl)).set (p:=⟨P,6,none⟩) _ (.inl rfl)).set (p:=⟨P,7,none⟩) _ (.inl rfl)).set (p:=⟨P,8,none⟩) _ (.inl rfl)).set (p:=⟨P,9,none⟩) _ (.inl rfl)).set (p:=⟨P,10,none⟩) _ (.inl rfl)).set (p:=⟨P,11,none⟩) _ (.inl rfl)
def qG(w w':World)(B P:Nat)(s:StateM):Prop:=∃rv,gM w' B P rv s/\dJ (λk=>k=P) w w'
theorem qG.drew{w w':World}{B P:Nat}{s:StateM}(h:qG w w' B P s):qG w w'.drew B P s:=by
 obtain⟨rv,a,b⟩:=h
 exact⟨rv,⟨a.ups,a.rts,a.fz,a.lt,a.rows,a.far⟩,⟨b.os,b.tape,b.output,b.size,b.block⟩⟩
end Rl
open Rl
theorem a6R(w:World)(B P:Nat)(rv:Nat->Value)(s:StateM)(g p:Nat)(b:ByteArray)(h:gM w B P rv s)(c:p<6):
  ai3 102 #[.pointer (some ⟨P,0,none⟩),.agg #[.int .i64 (g:Int),.int .i64 2,.int .i64 (p:Int),.string b]] w λe w'=>e=.returned (.tuple #[])/\qG w w' B P (mG s p ⟨true,[]⟩):=by
 have i:=(a0n w.heap.size w).alloc (afA _) (.cells #[.int .i64 (g:Int),.int .i64 2,.int .i64 (p:Int),.string b] 131);have a:=h.later i;have d:=a.acW c true;have f:=hide (((dJ.aK (S:=λk=>k=P) i).set (p:=⟨P,p,none⟩) (.bool true) (.inl rfl)).set (p:=⟨P,6+p,none⟩) (.slice none 0 0) (.inl rfl));obtain⟨q,o,m,l,_,_,_,_,j⟩:=fJ w (.int .i64 (g:Int)) (.int .i64 2) (.int .i64 (p:Int)) (.string b) 131;exact aqX
theorem Zd(w:World)(B P:Nat)(rv:Nat->Value)(s:StateM)(g p:Nat)(b:ByteArray)(h:gM w B P rv s)(c:p<6):
  ai3 102 #[.pointer (some ⟨P,0,none⟩),.agg #[.int .i64 (g:Int),.int .i64 3,.int .i64 (p:Int),.string b]] w λe w'=>e=.returned (.tuple #[])/\qG w w' B P (mG s p ⟨false,[]⟩):=by
 have i:=(a0n w.heap.size w).alloc (afA _) (.cells #[.int .i64 (g:Int),.int .i64 3,.int .i64 (p:Int),.string b] 131);have a:=h.later i;have d:=a.acW c false;have f:=hide (((dJ.aK (S:=λk=>k=P) i).set (p:=⟨P,p,none⟩) (.bool false) (.inl rfl)).set (p:=⟨P,6+p,none⟩) (.slice none 0 0) (.inl rfl));obtain⟨q,o,m,l,_,_,_,_,j⟩:=fJ w (.int .i64 (g:Int)) (.int .i64 3) (.int .i64 (p:Int)) (.string b) 131;exact aqX
theorem Ze(w:World)(B P:Nat)(rv:Nat->Value)(s:StateM)(c p:Nat)(b:ByteArray)(h:gM w B P rv s):
  ai3 102 #[.pointer (some ⟨P,0,none⟩),.agg #[.int .i64 (c:Int),.int .i64 6,.int .i64 (p:Int),.string b]] w λe w'=>e=.returned (.tuple #[])/\qG w w' B P s:=by
 have f:=(a0n w.heap.size w).alloc (afA _) (.cells #[.int .i64 (c:Int),.int .i64 6,.int .i64 (p:Int),.string b] 131);have a:=h.later f;have d:=hide (dJ.aK (S:=λk=>k=P) f);obtain⟨m,l,j,i,_,_,_,_,g⟩:=fJ w (.int .i64 (c:Int)) (.int .i64 6) (.int .i64 (p:Int)) (.string b) 131;go_enter aiP,ntmps102;exact aqJ
theorem Zf(w:World)(B P:Nat)(rv:Nat->Value)(s:StateM)(f p:Nat)(b:ByteArray)(h:gM w B P rv s):
  ai3 102 #[.pointer (some ⟨P,0,none⟩),.agg #[.int .i64 (f:Int),.int .i64 5,.int .i64 (p:Int),.string b]] w λe w'=>e=.returned (.tuple #[])/\qG w w' B P qF:=by
 have g:=(a0n w.heap.size w).alloc (afA _) (.cells #[.int .i64 (f:Int),.int .i64 5,.int .i64 (p:Int),.string b] 131);have d:=h.later g;obtain⟨D,C,z,y,_,_,_,_,u⟩:=fJ w (.int .i64 (f:Int)) (.int .i64 5) (.int .i64 (p:Int)) (.string b) 131;have M:=d.ups 0 (by omega);have L:=d.ups 1 (by omega);have K:=d.ups 2 (by omega);have J:=d.ups 3 (by omega);have I:=d.ups 4 (by omega);have H:=d.ups 5 (by omega);have v0:=d.rts 0 (by omega);have G:=d.rts 1 (by omega);have F:=d.rts 2 (by omega);have v3:=d.rts 3 (by omega);have v4:=d.rts 4 (by omega);have E:=d.rts 5 (by omega);have z0:=d.fz 0 (by omega);have t:=d.fz 1 (by omega);have r:=d.fz 2 (by omega);have z3:=d.fz 3 (by omega);have z4:=d.fz 4 (by omega);have z5:=d.fz 5 (by omega);have q:=d.fz 6 (by omega);have o:=d.fz 7 (by omega);have m:=d.fz 8 (by omega);have z9:=d.fz 9 (by omega);have j:=d.fz 10 (by omega);have i:=d.fz 11 (by omega);have a:=d.zero;have c:=hide ((dJ.aK (S:=λk=>k=P) g).trans (a6Q _ P) (λ_ x=>.inl x));have l:w.heap.size≠P:=agX h.lt;go_enter aiP,ntmps102;exact aqZ
theorem N7{a:World}{s:StateM}{l:List aX}(h:gM a B P rv s)(g:p<6)(e:dJ (λk=>k=P) w a)(f:bz a v l.length 3 (aJ l))(d:∀k,v.ownBlock=some k->B<=k/\k≠P)(b:(s p).up=true):
  qG w (a.setCell ⟨P,6+p,none⟩ v) B P (mG s p ⟨true,l⟩):=by
 have c:=h.aeA g f d
 rw[b]at c
 exact⟨_,c,e.set (p:=⟨P,6+p,none⟩) v (.inl rfl)⟩
theorem V7(w:World)(B P:Nat)(rv:Nat->Value)(s:StateM)(F p:Nat)(b:ByteArray)(h:gM w B P rv s)(M:p<6)(hb:b.size<=65535)(y:wm b=true)(hB:B<=w.heap.size)(hn:(s p).rts.length<=4194304):
  ai3 102 #[.pointer (some ⟨P,0,none⟩),.agg #[.int .i64 (F:Int),.int .i64 4,.int .i64 (p:Int),.string b]] w λe w'=>e=.returned (.tuple #[])/\qG w w' B P (if (s p).up=true then mG s p ⟨true,nk (wS b) (s p).rts⟩else s):=by
 have N:=(a0n w.heap.size w).alloc (afA _) (.cells #[.int .i64 (F:Int),.int .i64 4,.int .i64 (p:Int),.string b] 131);have h1:=h.later N;have z:=h1;have U:=hide (dJ.aK (S:=λk=>k=P) N);have HBA:=hide N;have Y:=N.size;obtain⟨x0,x1,x2,x3,_,_,_,_,xl⟩:=fJ w (.int .i64 (F:Int)) (.int .i64 4) (.int .i64 (p:Int)) (.string b) 131;have hp0:(0:Int)<=(p:Int):=by omega
 have hp6:(p:Int)<6:=by omega
 have hne:w.heap.size≠P:=agX h.lt;have i:=h1.lt;have g:=h1.ups p M;have HE:=hide (λA=>QH b A (by omega));have h5:¬b.size<5:=by unfold wm at y;simp only[afQ,agY]at y;omega
 have Q:Hid (SF b=.agg #[.int .i64 (wS b).addr,.int .i64 (wS b).len,.string (wS b).attrs]):=by unfold Hid SF;rw[afJ h5];rfl
 generalize wS b=x at*;cases a:(s p).up with
 |false=>
  exact aqY
 |true=>
  rw[a]at g
  simp only[agr];go_enter aiP,ntmps102;go_wp2_with fail
  go_region
  rw[y]at HE
  rw[Q.out]at HE
  go_upto_region 13 with(go_at_call 155;refine(HE.out _).ai ?_;intro w2 V)
  have hbA:=V;have bx:=lU w2 (.int .i64 x.addr) (.int .i64 x.len) (.string x.attrs) 80
  have q:Below (w.alloc (.cells #[.int .i64 (F:Int),.int .i64 4,.int .i64 (p:Int),.string b] 131)).heap.size (w.alloc (.cells #[.int .i64 (F:Int),.int .i64 4,.int .i64 (p:Int),.string b] 131)) (w2.alloc (.cells #[.int .i64 x.addr,.int .i64 x.len,.string x.attrs] 80)):=
   af ((a0n _ _).drew) (af V (aL _ _) V.size) (afA _)
  have J:=z.later q;have f:=hide (U.out.below q);have y2:=(q.cell (p:=⟨w.heap.size,2,none⟩) (by simp)).trans x2;have v3:=J.rts p M;have zf:=J.fz (6+p) (by omega);have u:=J.lt;have O:w.heap.size<(w2.alloc (.cells #[.int .i64 x.addr,.int .i64 x.len,.string x.attrs] 80)).heap.size:=afB xl q.size;have X:=q.size;have Z:w2.heap.size≠P:=λe=>CK
  generalize w2.alloc (.cells #[.int .i64 x.addr,.int .i64 x.len,.string x.attrs] 80)=L at*;obtain⟨c0,c1,c2,_,_,_,cl⟩:=bx;have I:=J.rows p M;have HW:=hide (V5 (rv p) (s p).rts x L.drew (I.later (a0n _ _).drew) (by omega));have E:=hide J
  go_region_with (go_at_call 156;refine HW.out.mono ?_;rintro e w5 ⟨v5,rfl,c,W⟩;obtain⟨a5,c5,rfl⟩:=ay c;have y5:=(W.cell (p:=⟨w.heap.size,2,none⟩) O).trans y2;have g5:=(W.cell (p:=⟨P,6+p,none⟩) u).trans v3;have zf5:=(W.frozen (p:=⟨P,6+p,none⟩) u).trans zf)
  all_goals
   go_wp2_with fail
   refine aqr ?_
   have d:ah' L w5:=af (a0n _ _).drew W (afA _)
   exact⟨rfl,N7 (E.out.later d) M (f.out.below d) (aM c) (λk R=>⟨CG,CG⟩) a⟩
theorem a3o(w:World)(B P:Nat)(rv:Nat->Value)(s:StateM)(I p:Nat)(b:ByteArray)(h:gM w B P rv s)(O:p<6)(hb:b.size<=65535)(hB:B<=w.heap.size)(hn:(s p).rts.length<=4194304):
  ai3 102 #[.pointer (some ⟨P,0,none⟩),.agg #[.int .i64 (I:Int),.int .i64 1,.int .i64 (p:Int),.string b]] w λe w'=>e=.returned (.tuple #[])/\qG w w' B P (if (s p).up=true then mG s p ⟨true,kR (s p).rts (upd b)⟩else s):=by
 have Y:=(a0n w.heap.size w).alloc (afA _) (.cells #[.int .i64 (I:Int),.int .i64 1,.int .i64 (p:Int),.string b] 131);have h1:=h.later Y;have z:=h1;have U:=hide (dJ.aK (S:=λk=>k=P) Y);have HBA:=hide Y;have hsz0:=Y.size;obtain⟨x0,x1,x2,x3,_,_,_,_,xl⟩:=fJ w (.int .i64 (I:Int)) (.int .i64 1) (.int .i64 (p:Int)) (.string b) 131;have hp0:(0:Int)<=(p:Int):=by omega
 have hp6:(p:Int)<6:=by omega
 have hne:w.heap.size≠P:=agX h.lt;have i:=h1.lt;have g:=h1.ups p O;have HE:=hide (λA=>FI b A aB);have J:=a0c b;cases a:(s p).up with
 |false=>
  exact aqY
 |true=>
  rw[a]at g
  simp only[agr];unfold aqD at HE;generalize upd b=u at*;go_enter aiP,ntmps102;go_wp2_with fail
  go_region
  go_upto_region 17 with(go_at_call 157;refine(HE.out _).mono ?_;rintro e w2 ⟨v1,v2,rfl,V,N,ho2,_⟩;obtain⟨a1,c1,rfl⟩:=ay N;obtain⟨a2,c2,rfl⟩:=ay ho2)
  obtain⟨X,hX⟩:∃X:ByteArray,X=⟨u.text.toArray⟩:=⟨_,rfl⟩;have bx:=lU w2 (.slice a1 u.gone.length c1) (.slice a2 u.come.length c2) (.string ⟨u.text.toArray⟩) 218
  have q:Below (w.alloc (.cells #[.int .i64 (I:Int),.int .i64 1,.int .i64 (p:Int),.string b] 131)).heap.size (w.alloc (.cells #[.int .i64 (I:Int),.int .i64 1,.int .i64 (p:Int),.string b] 131)) (w2.alloc (.cells #[.slice a1 u.gone.length c1,.slice a2 u.come.length c2,.string ⟨u.text.toArray⟩] 218)):=
   af ((a0n _ _).drew) (af V (aL _ _) V.size) (afA _)
  have F:=z.later q;have f:=hide (U.out.below q);have y2:=(q.cell (p:=⟨w.heap.size,2,none⟩) (by simp)).trans x2;have v3:=F.rts p O;have zf:=F.fz (6+p) (by omega);have y:=F.lt;have Z:w.heap.size<(w2.alloc (.cells #[.slice a1 u.gone.length c1,.slice a2 u.come.length c2,.string ⟨u.text.toArray⟩] 218)).heap.size:=afB xl q.size;have OW:=q.size;have aeB:w2.heap.size≠P:=λe=>CK
  have r1:=(aM N).later (aL w2 (.cells #[.slice a1 u.gone.length c1,.slice a2 u.come.length c2,.string ⟨u.text.toArray⟩] 218));have r2:=(aM ho2).later (aL w2 (.cells #[.slice a1 u.gone.length c1,.slice a2 u.come.length c2,.string ⟨u.text.toArray⟩] 218));generalize w2.alloc (.cells #[.slice a1 u.gone.length c1,.slice a2 u.come.length c2,.string ⟨u.text.toArray⟩] 218)=L at*;obtain⟨c0,c1,c2,_,_,_,cl⟩:=bx;have M:=F.rows p O;have Q:=F.far p O;have HW:=hide (V6 (rv p) _ _ (s p).rts u L.drew (M.later (a0n _ _).drew) (r1.later (a0n _ _).drew) (r2.later (a0n _ _).drew) (by omega) J.1 J.2);have E:=hide F;have HFA:=hide Q
  go_region_with (go_at_call 158;refine HW.out.mono ?_;rintro e w5 ⟨v5,rfl,c,hf5,W⟩;obtain⟨a5,c5,rfl⟩:=Le c;have y5:=(W.cell (p:=⟨w.heap.size,2,none⟩) Z).trans y2;have g5:=(W.cell (p:=⟨P,6+p,none⟩) y).trans v3;have zf5:=(W.frozen (p:=⟨P,6+p,none⟩) y).trans zf)
  all_goals
   go_wp2_with fail
   refine aqr ?_
   have d:ah' L w5:=af (a0n _ _).drew W (afA _)
   exact⟨rfl,N7 (E.out.later d) O (f.out.below d) c (λk R=>by
    obtain h1|h1:=hf5 k R
    ·exact HFA.out k h1
    ·have h2:L.drew.heap.size=L.heap.size:=rfl
     exact⟨by omega,by omega⟩) a⟩
theorem a3p(w:World)(B P:Nat)(rv:Nat->Value)(s:StateM)(r:Rec)(h:gM w B P rv s)(c:VK r)(l:B<=w.heap.size)(j:∀i,(s i).rts.length<=4194304):
  ai3 102 #[.pointer (some ⟨P,0,none⟩),dB r] w λe w'=>e=.returned (.tuple #[])/\qG w w' B P (ji s r):=by
 obtain⟨g,k,p,b⟩:=r;have a:=c.ok;have d:=c.peer;have f:=c.size;simp only at a d f;unfold dB;simp only
 by_cases x:k=1
 ·grind[NK,a3o]
 by_cases u:k=2
 ·grind[Qv,a6R]
 by_cases t:k=3
 ·grind[Kg,Zd]
 by_cases q:k=4
 ·grind[Ip,wU,V7]
 by_cases o:k=5
 ·grind[Ke,Zf]
 by_cases m:k=6
 ·grind[Kh,Ze]
 rw[za k p b (by omega) (by omega)]at a
 cases a
open Go.WideMaps
namespace Rl
theorem vY.keys{D:DataW Value}{l:List aX}(h:vY D l)(E:uE l)(s:∀e∈l,ve (ib e)){b:Nat}(c:w.ownsMap ah.prog 113 RE b n D):(l.map λe=>kb (ib e)).Perm (strKeys D):=by
 obtain⟨K,rfl,o,_⟩:=c.entries y9;obtain⟨z,u,g⟩:=c.keysOf;obtain rfl:K=z:=by simpa using u
 refine perm_strKeys o (λp r=>by obtain⟨v,j⟩:=g p r;obtain⟨q,_,_,e⟩:=rO j;exact⟨_,e⟩) ?_ (λx=> ?_)
 ·exact List.pairwise_map.2 (List.Pairwise.imp_of_mem (λ{a b}H G t e=>t (Y8 (s a H).i64 (s b G).i64 e)) (Qu E))
 ·constructor
  ·intro f
   obtain⟨e,i,rfl⟩:=agG.1 f;have d:=h.has (s e i).i64
   rw[EM E i]at d
   exact d
  ·intro f
   by_cases C:∃p,xx p/\kb p=x
   ·obtain⟨p,r,rfl⟩:=C
    have d:=h.has r
    rw[show Lit.string (kb p)=kl p from rfl]at f
    rw[f]at d
    obtain⟨e,i⟩:=Option.isSome_iff_exists.1 d.symm;obtain⟨J,I⟩:=lF i;exact agG.2 ⟨e,J,by rw[I]⟩
   ·exfalso
    rw[Maps.has_eq,List.any_eq_true]at f
    obtain⟨y,F,m⟩:=f;obtain⟨v,j⟩:=g _ F;obtain⟨q,d,_,e⟩:=rO j
    rw[e]at m
    simp[kl,Lit.sameKey]at m;exact C ⟨q,d,m⟩
theorem vY.count{D:DataW Value}{l:List aX}(h:vY D l)(a:uE l)(c:∀e∈l,ve (ib e)){b:Nat}(d:w.ownsMap ah.prog 113 RE b n D):Maps.size D=l.length:=by
 have f:=(h.keys a c d).length_eq;exact Ba
def KQ(w:World)(v:Value)(p:vW):Prop:=(v=.map none/\p.up=false/\p.rts=[])\/∃b D n,v=.map (some b)/\p.up=true/\w.ownsMap ah.prog 113 RE b n D/\vY D p.rts
theorem KQ.touch{S:Nat->Prop}{p:vW}(h:KQ w v p)(a:dJ S w w')(c:∀b,v=.map (some b)->¬S b):KQ w' v p:=by
 obtain h|⟨b,D,n,rfl,f,e,d⟩:=h
 ·exact .inl h
 ·exact .inr ⟨b,D,n,rfl,f,a.map e (c b rfl),d⟩
theorem KQ.lt{w:World}{b:Nat}{p:vW}(h:KQ w (.map (some b)) p):b<w.heap.size:=by
 obtain⟨h,_⟩|⟨c,D,n,e,_,a,_⟩:=h
 ·cases h
 ·injection e with e;injection e with e;subst e;exact a.lt
structure fF(w:World)(B Q:Nat)(mv:Nat->Value)(s:StateM):Prop where
 ups:∀i,i<6->w.cell? ⟨Q,i*2,none⟩=some (.bool (s i).up)
 IG:∀i,i<6->w.cell? ⟨Q,i*2+1,none⟩=some (mv i)
 fz:∀j,j<12->w.frozen? ⟨Q,j,none⟩=false
 lt:Q<w.heap.size
 maps:∀i,i<6->KQ w (mv i) (s i)
 far:∀i,i<6->∀b,mv i=.map (some b)->B<=b/\b≠Q
 apart:∀i,i<6->∀j,j<6->∀b,mv i=.map (some b)->mv j=.map (some b)->i=j
theorem fF.touch{S:Nat->Prop}{w w':World}{B Q:Nat}{d:Nat->Value}{s:StateM}(h:fF w B Q d s)(c:dJ S w w')(e:¬S Q)(f:∀i,i<6->∀b,d i=.map (some b)->¬S b):fF w' B Q d s:=
 ⟨λi a=>(c.cell (p:=⟨Q,i*2,none⟩) h.lt e).trans (h.ups i a),λi a=>(c.cell (p:=⟨Q,i*2+1,none⟩) h.lt e).trans (h.IG i a),λj g=>(c.frozen (p:=⟨Q,j,none⟩) h.lt e).trans (h.fz j g),afB h.lt c.size,λi a=>(h.maps i a).touch c (f i a),h.far,h.apart⟩
theorem fF.later{Q:Nat}{a:Nat->Value}{s:StateM}(h:fF w B Q a s)(b:ah' w w'):fF w' B Q a s:=h.touch (dJ.aK (S:=λ_=>False) b) (λx=>x) (λ_ _ _ _ x=>x)
end Rl
theorem V8{u:Array Oper}{o:Oper}{a:Act}{K:Act->World->Prop}{Q:Exit->Act->World->Prop}{E:Prop}(hg:o.guard=none)(m x:Operand)(d:o.op=Op.call {callee:=Callee.builtin Builtin.delete,args:=#[m,x],argTypes:=#[150,113]})(b n:Nat)(D:DataW Value)(p:Int×Int)(J:xx p)(hm:a.eval m=.map (some b))(hx:a.eval x=E9 p)(F:A.ownsMap ah.prog 113 RE b n D)(y:∀w',w'.ownsMap ah.prog 113 RE b n (D.del (kl p))->A.grownBy w' (some b)->K (a.put o.dst (.tuple #[])) w'):
  if Region.wanted o (yielded u a.tmps)=true then Oper.wp ah.prog o a A K Q else E:=by
 have I:Region.wanted o (yielded u a.tmps)=true:=lL
 rw[afN I]
 obtain⟨w',c,r1,r2⟩:=F.drop y9 aiT (vD J) o.type;exact Bi
theorem KR{u:Array Oper}{o:Oper}{a:Act}{K:Act->World->Prop}{Q:Exit->Act->World->Prop}{E:Prop}(hg:o.guard=none)(m x:Operand)(d:o.op=Op.call {callee:=Callee.builtin Builtin.delete,args:=#[m,x],argTypes:=#[150,113]})(p:Int×Int)(I:xx p)(hm:a.eval m=.map none)(hx:a.eval x=E9 p)(y:K (a.put o.dst (.tuple #[])) A):
  if Region.wanted o (yielded u a.tmps)=true then Oper.wp ah.prog o a A K Q else E:=by
 have F:Region.wanted o (yielded u a.tmps)=true:=lL
 rw[afN F]
 have c:=Maps.drop_nil (w:=A) y9 aiT (vD I) o.type;unfold Oper.wp;simp[execOp,d,resolve,invoke,builtin,hm,hx,c,Result.andThen];exact y
theorem QM(w:World)(Q o:Nat)(x:aX)(c0:w.cell? ⟨Q,o,none⟩=some (.bool false))(a:Q<w.heap.size):
  ai9 200 #[.pointer (some ⟨Q,o,none⟩),eQ x] w (.tuple #[]):=by
 unfold eQ;go_enter aks,ntmps200;go_wp2;refine ahD (ahA rfl _ _ _) rfl ?_
 exact⟨rfl,aL w _⟩
theorem V9(w:World)(Q o b n:Nat)(D:DataW Value)(x:aX)(c0:w.cell? ⟨Q,o,none⟩=some (.bool true))(c1:w.cell? ⟨Q,o+1,none⟩=some (.map (some b)))(y:Q<w.heap.size)(F:w.ownsMap ah.prog 113 RE b n D)(hs:Maps.size D<=4194304)(hx:xx (ib x)):
  ai3 200 #[.pointer (some ⟨Q,o,none⟩),eQ x] w λe w'=>e=.returned (.tuple #[])/\∃d,w'.ownsMap ah.prog 113 RE b d (D.put (kl (ib x)) (.held (eQ x)))/\dJ (λk=>k=b) w w':=by
 have R:=vD hx;have u:w.heap.size≠b:=by have:=F.lt;omega
 obtain⟨w5,c,h1,h2⟩:=(((FZ F).alloc (.cells #[.int .i64 x.addr,.int .i64 x.len,.string x.attrs] 80)).drew).update y9 aiT aB R (acU x);have z:=h1;have HG:=hide h2;unfold eQ at*;unfold E9 ib at c;simp only at c;go_enter aks,ntmps200;go_wp2
 go_region
 all_goals
  refine ahD (ahA rfl _ _ _) rfl ?_
  exact⟨rfl,_,z,((dJ.aK (aL w _)).drew).grown HG.out (λk R=>.inl (by injection R with R;exact R.symm))⟩
open Go.RowKit Go.Maps Go.Sort Go.Shelf
theorem a6S{a:Value}{b:Lit}(h:keyOf ah.prog 113 a=some b):∃p,a=E9 p:=by grind[rO]
theorem a6T{y:DataW Value×List MemPlace}(h:RE v=some y):∃c,v=eQ c:=by
 obtain⟨e,a,_⟩:=a6K h
 grind
theorem a6U{p q:Int×Int}(h:E9 p=E9 q):p=q:=by
 unfold E9 at h
 grind
theorem a6V(F:Fence)(n:Nat)(h1:F.fn 205)(R:F.round=none)(hn:1<=n)(lp Bm b I:Nat)(f:DataW Value)(g:List aX)(hD:vY f g)(ho:uE g)(hf:∀e∈g,ve (ib e))(J:List aX->World->Prop)(hY:∀l x W,J l W->l.length<Maps.size f->YieldAt F (n-1) ah.prog lp #[eQ x] W λe L=>e=.returned (.bool true)/\J (l++[x]) L/\KeepsWalks W L)(W:World)(hJ:AbidesFrom W.heap.size J)(hm:W.cell? ⟨Bm,0,none⟩=some (.map (some b)))(C:W.ownsMap ah.prog 113 RE b I f)(h0:J [] W):
  CallsIn F n ah.prog 205 #[.func (.yield lp) #[] #[],.pointer (some ⟨Bm,0,none⟩)] W λe L=>(∃v,e=.returned v)/\∃es:List aX,es.Perm g/\J es L:=by
 refine callsIn_of_wp ajp rfl h1 ?_ R;simp only[ntmps205,agZ,ag4,age,Nat.reduceAdd,Nat.reduceSub,Array.replicate_succ,Array.replicate_zero,List.push_toArray,List.append_toArray,List.nil_append,agN]
 gi_wp2_with (first
  |(gi_at_range;refine wpListIn_range_own _ rfl _ 150 rfl 113 80 y9 aiT _ b I _ rfl C ?_;intro w0 t Y hs0)
  |gi_in)
 go_frame
 gi_loopw [4] (λ_ wr=>∃(left:Lit->Bool)(q:Nat)(d:List ((Int×Int)×aX)),wr.ranges ah.prog 113 RE b W.heap.size I f left q/\d.length+q<=Maps.size f/\Collected f left (d.map λp=>kb p.1)/\(∀p∈d,xx p.1/\∀M,f.atKey (kl p.1) M=.held (eQ p.2))/\J (d.map Prod.snd) wr)
  (λ_ wr=>wr.rangeLeft b W.heap.size)
 case atStart=>
  exact⟨_,_,[],t,by simp,Collected.start f,by simp,hJ [] W w0 none h0 Y (λr e=>by cases e)⟩
 case round=>
  obtain⟨left,q,d,m,hcs,hC,hV,E⟩:=hrel
  gi_wp2_with (first
   |(gi_at_next;refine wpListIn_next_ranges _ rfl _ rfl 113 y9 RE E9 eQ (λkey kl hk=>a6S hk) (λv y Q=>a6T Q) b W.heap.size I _ _ _ rfl m ?_ ?_)
   |gi_in)
  ·intro hc0 U
   gi_wp2
   go_end0
   exact⟨⟨_,rfl⟩,_,hD.perm ho hf hC.1 (λx=>by rw[hC.2 x,U];simp) (λp u=>(hV p u).1) (λp u=>(hV p u).2),E⟩
  ·intro xa xl c kl0 yd yp H G i T Q D s S X hs2 o
   obtain⟨x,N⟩:∃x:Int×Int,x=(xa,xl):=⟨_,rfl⟩
   rw[<-N]at i o
   obtain⟨x',O,ex,rfl⟩:=rO i;obtain rfl:x=x':=a6U ex;obtain⟨c',ec,ez⟩:=a6K Q;obtain rfl:yd=.held (eQ c):=(Prod.mk.inj ez).1
   have hJ2:J (d.map Prod.snd) (H.alloc (.cells #[.int .i64 c.addr,.int .i64 c.len,.string c.attrs] 80)):=
    hJ _ H _ none (hJ _ wr H (some W.heap.size) E X (λr e=>by cases e;exact⟨afA _,m.iter_walk⟩)) (ahY H _ none) (λr e=>by cases e)
   obtain⟨fn,tmps,K,body,hy,hR⟩:=hY (d.map Prod.snd) c _ hJ2 (by simp;omega);unfold eQ at hy o;unfold E9 at o
   gi_wp2
   refine hR.mono ?_;have hC2:Collected f (λz=>left z&& !z.sameKey (kl x)) ((d++[(x,c)]).map λp=>kb p.1):=by simpa[kl]using hC.step (x:=kb x) T D
   have Z:∀p∈d++[(x,c)],xx p.1/\∀M,f.atKey (kl p.1) M=.held (eQ p.2):=λp u=>(agz.1 u).elim (hV p) (λe=>by simp at e;subst e;exact⟨O,D⟩)
   rintro e W3 ⟨rfl,hJ3,V⟩
   gi_wp2
   have h:=(s.of_walks (KeepsWalks.alloc _ _)).of_walks V
   go_roundw
   case rel=>exact⟨_,G,d++[(x,c)],h,by simp;omega,hC2,Z,by simpa using hJ3⟩
   case measure=>rw[h.left_eq,m.left_eq];exact S
end Go.Proofs.Zq
