import Derived.Test.YtkdjjnkpfpogkaaGreatDoorK13
set_option maxHeartbeats 8000000
set_option linter.all false
namespace Go.Proofs.Zb
open Go.Conc
open Go.ConcN (sumTo upd sumTo_upd upd_ne upd_same)
variable{A:Array Goroutine}{a b:Goroutine}{c s j ch:Nat}{tm:Bool}{x top:Goroutine×World}
section
variable{P:Program}{I:Value->World->Prop}{J:Type}{r:J->J->Prop}{N:J->Goroutine->World->Prop}{L:J->Nat->(Nat->Prop)->(Nat->Prop)->(Nat->Prop)->Goroutine->Goroutine->World->Prop}{C:J->Nat->(Nat->Prop)->(Nat->Prop)->(Nat->Prop)->Goroutine->World->Prop}
variable(P I N L C)in
def Ro(r:J->J->Prop)(g:J×Nat×Nat)(m:Machine)(t:Trace):Prop:=
 (∃o w d,stepT P m=(.ended o w,d)/\Good P I m o w (t++d))\/
 (∃f d e,stepT P m=(.next f,d)/\Prod.Lex r (Prod.Lex (· < ·) (· < ·)) e g/\Pw P N L C e f (t++d))
theorem Fj{t}{q}(f:Leavers P t A q)(k:A[0]? =some a)(h:awake a):∀g∈A,awake g:=λg e=>by
 obtain⟨i,d⟩:=Array.getElem?_of_mem e;cases i with
 |zero=>grind
 |succ i=>exact awake_of ((f.old _ _ (Nat.succ_pos i) d).status.elim .inl λx=>.inr (.inr x))
theorem aan(T:a0W P I r N L C)(X)(A)(a)(w)(sl)(t)(q)(F:A[0]? =some a)(m:Leavers P t A q)(hP:Past (λ_=>False) w.heap.size t)(hN:N X a w):
  Ro P I N L C r (X,0,sumTo A.size q) (crowd A w sl) t:=by
 have n:=T.adL _ _ _ hN;obtain⟨i,g,d,o,l,hg,K⟩:=crowd_pick (P:=P) (w:=w) (sl:=sl) (Fj m F (awake_of (.inl n))) ⟨0,a,F,n⟩;have p:i<A.size:=(afD.1 l).1;have hN1:N X a (w.at d):=T.abV _ _ _ _ hN ⟨d,rfl⟩
 by_cases f:i=0
 ·subst f
  obtain rfl:a=g:=tQ
  obtain⟨_,v,B,hend,H,U⟩|⟨R,Y,B,z,hgo,u,H,hr,hN'⟩|⟨R,b,Y,B,z,c,M,S,Sh,hsp,u,H,hr,hl⟩:=T.abW _ _ _ hN1
  ·have O:=hP.own (fn:=a.frame.fn) (pos:=a.frame.place) H
   refine .inl ⟨_,_,_,K.trans (runT_many_ended (sl:=o) (i:=0) l hend),v,rfl,U,O.clean,O.over,⟨λx V=> ?_,rfl⟩,λj x V Q=> ?_⟩
   ·obtain⟨j,Q⟩:=List.mem_iff_getElem?.1 V
    rw[List.getElem?_drop]at Q
    exact⟨_,(m.old (1+j) x (by omega) (by simpa[crowd]using Q)).leaves⟩
   ·have e:(t++MemOp.ofEvents 0 a.frame.fn a.frame.place B).deaf j (t++MemOp.ofEvents 0 a.frame.fn a.frame.place B).size=Deaf t j:=jC (t:=t) (i:=0) Q _ _ _
    exact⟨q j,by rw[e];exact(m.old j x (by omega) V).hears _⟩
  ·refine .inr ⟨_,_,(z,0,sumTo ((A.map (woken P a R Y)).setIfInBounds 0 R).size q),K.trans (runT_crowd_go (sl:=o) (i:=0) l hgo),.left _ _ hr,.n z _ R Y o _ q (by grind) ?_ ((hP.mono u).own H) hN'⟩
   have:=vM m (i:=0) (g:=a) (g':=R) (v:=Y) (fn:=a.frame.fn) (pos:=a.frame.place) (es:=B) p (k:=0) λh=>absurd h (Nat.lt_irrefl 0)
   rw[afN rfl]at this
   exact this
  ·have O:=(hP.mono u).own (fn:=a.frame.fn) (pos:=a.frame.place) H
   have hds:Deaf (t++MemOp.ofEvents 0 a.frame.fn a.frame.place B) A.size=0:=by rw[jC (by omega)];exact m.above _ (afA _)
   obtain⟨hD,hd⟩:=nK.spawn (M:=M) (S:=S) (Sh:=Sh) O (s:=A.size) (by omega) hds (x:={g:=0,fn:=a.frame.fn,pos:=a.frame.place,act:=.go A.size}) (y:={g:=A.size,fn:=b.frame.fn,pos:=a.frame.place,act:=.start}) rfl rfl rfl rfl
   have hops:t++((MemOp.ofEvents 0 a.frame.fn a.frame.place B).push {g:=0,fn:=a.frame.fn,pos:=a.frame.place,act:=.go A.size} |>.push {g:=A.size,fn:=b.frame.fn,pos:=a.frame.place,act:=.start})=
     (t++MemOp.ofEvents 0 a.frame.fn a.frame.place B)++#[{g:=0,fn:=a.frame.fn,pos:=a.frame.place,act:=.go A.size},{g:=A.size,fn:=b.frame.fn,pos:=a.frame.place,act:=.start}]:=by
    apply ahd;simp
   refine .inr ⟨_,_,(z,1+1,sumTo ((A.setIfInBounds 0 R).push b).size q),K.trans (runT_crowd_spawn (sl:=o) (i:=0) l hsp),.left _ _ hr,?_⟩
   rw[hops]
   refine .l z c M S Sh A.size _ R b R b Y o _ q 1 1 p ?_ ?_ .on .on (by omega) ⟨λj x Q hjs V=> ?_,λj Q=> ?_⟩ hD hd hl
   ·grind
   ·grind
   ·rw[agh,afJ (by grind),afF (by omega)]at V
    have W:=m.old j x Q V
    rw[fD j (by simp),jC (by omega)]
    exact W
   ·simp at Q
    rw[fD j (by simp),jC (by omega)]
    exact m.above j (by omega)
 ·have Z:0<i:=Nat.pos_of_ne_zero f
  have W:=m.old i g Z l;have hib:(i==0)=false:=by simpa using f
  cases D:q i with
  |zero=>rw[D]at W;rw[W.1]at hg;cases hg
  |succ k=>
   rw[D]at W
   obtain⟨hf,_⟩|⟨_,E,B,hm,hstp,G⟩:=W
   ·grind
   have hsum:sumTo A.size (upd q i k)+(k+1)=sumTo A.size q+k:=tV
   have hsz:((A.map (woken P g E (w.at d))).setIfInBounds i E).size=A.size:=by simp
   refine .inr ⟨_,_,(X,0,sumTo ((A.map (woken P g E (w.at d))).setIfInBounds i E).size (upd q i k)),K.trans (runT_crowd_go (sl:=o) (i:=i) l (by grind)),.right _ (.right _ (by grind)),.n X _ a (w.at d) o _ (upd q i k) ?_ ?_ (hP.mute f hm) hN1⟩
   ·exact AB
   ·exact AA
theorem Rp{w:World}{k}{d}(h:w.heap[c]? =some (.chan 0 #[] d s k tm)):c<w.heap.size:=(afD.1 h).1
theorem IY{a1}(h:a0Z P c a a1)(w):stepG P true a1 w=stepG P true a w/\a1.frame=a.frame/\(core a=a->a1.status=.running):=by
 cases h with
 |on=>grind[qo]
 |again z d=>exact⟨stepG_same rfl rfl rfl w,rfl,λ_=>rfl⟩
theorem aao(T:a0W P I r N L C)(ω)(c)(M S Sh)(s pc)(A)(a a1)(w)(sl)(t)(q)(hs:0<s)(F:A[0]? =some a1)(ha:a0Z P c a a1)(m:Leavers P t A q)(hD:nK s M S Sh w.heap.size t)(hC:Shut s c t pc)(hc:C ω c M S Sh a w):
  Ro P I N L C r (ω,0,sumTo A.size q) (crowd A w sl) t:=by
 have Q:=T.adN _ _ _ _ _ _ _ hc;obtain⟨_,hfr,n⟩:=IY ha w;have n:=n Q;obtain⟨i,g,d,o,l,hg,H⟩:=crowd_pick (P:=P) (w:=w) (sl:=sl) (Fj m F (awake_of (.inl n))) ⟨0,a1,F,n⟩;have p:i<A.size:=(afD.1 l).1;have R:=T.abY _ _ _ _ _ _ _ (w.at d) hc ⟨d,rfl⟩
 by_cases f:i=0
 ·subst f
  obtain rfl:a1=g:=tQ
  obtain⟨Z,w',B,u,M',hgo,O,hes,hM,hr,Y⟩|⟨z,u,K,hr,hN⟩:=T.abZ _ _ _ _ _ _ _ R
  ·refine .inr ⟨_,_,(u,0,sumTo ((A.map (woken P a1 Z w')).setIfInBounds 0 Z).size q),H.trans (runT_crowd_go (sl:=o) (i:=0) l (show stepG P (0==0) a1 (w.at d)=_ from(IY ha _).1.trans hgo)),.left _ _ hr,
    .c u c M' S Sh s pc _ Z Z w' o _ q hs (by grind) .on ?_ ((hD.mono hM (λ_ h=>h) O).abT (T.a4z _ _ _ _ _ _ _ Y) hes) (hC.app λop W hos=> ?_) Y⟩
   ·have:=vM m (i:=0) (g:=a1) (g':=Z) (v:=w') (fn:=a1.frame.fn) (pos:=a1.frame.place) (es:=B) p (k:=0) λh=>absurd h (Nat.lt_irrefl 0)
    rw[afN rfl]at this
    exact this
   ·grind[Go.Conc.mem_ofEvents]
  ·obtain⟨sn,rn,tm,X⟩:=T.a9H _ _ _ _ _ _ _ R
   have hp:partners (A.setIfInBounds 0 ph) c true=[]:=partners_nil λj x U=>by
    obtain⟨_,rfl⟩|⟨hj0,U⟩:=getElem?_stand A 0 j x U
    ·exact jE
    ·exact offersAt_of_not_blocked (by obtain h|h:=(m.old j x (by omega) U).status<;>rw[h]<;>simp) _ _
   have y:=crowd_recv_closed (P:=P) (sl:=o) (i:=0) l (show stepG P (0==0) a1 (w.at d)=_ from(IY ha _).1.trans (K _)) X hp
   rw[ofEvents_none,agL,finishComm_recv]at y
   refine .inr ⟨_,_,(u,0,sumTo (A.setIfInBounds 0 (Go.Conc.served a (recvd true z false))).size q),H.trans y,.left _ _ hr,.n u _ _ (w.at d) o _ q (by simp[p,recvd]) ⟨λj x U hx=> ?_,λj U=> ?_⟩ (hD.join hC rfl rfl (Rp X)) hN⟩
   ·rw[afF (by omega)]at hx
    rw[fD j (by simp)]
    exact m.old j x U hx
   ·rw[fD j (by simp)]
    exact m.above j (by grind)
 ·have V:0<i:=Nat.pos_of_ne_zero f
  have hq:=m.old i g V l;have hib:(i==0)=false:=by simpa using f
  cases D:q i with
  |zero=>rw[D]at hq;rw[hq.1]at hg;cases hg
  |succ k=>
   rw[D]at hq
   obtain⟨hf,_⟩|⟨_,E,B,hm,hstp,G⟩:=hq
   ·grind
   have hsum:sumTo A.size (upd q i k)+(k+1)=sumTo A.size q+k:=tV
   have hsz:((A.map (woken P g E (w.at d))).setIfInBounds i E).size=A.size:=by simp
   refine .inr ⟨_,_,(ω,0,sumTo ((A.map (woken P g E (w.at d))).setIfInBounds i E).size (upd q i k)),H.trans (runT_crowd_go (sl:=o) (i:=i) l (by grind)),.right _ (.right _ (by grind)),
    .c ω c M S Sh s pc _ a a1 (w.at d) o _ (upd q i k) hs ?_ ha ?_ (hD.mute f hm) (hC.app λop W _=> ?_) R⟩
   ·exact AB
   ·exact AA
   ·obtain⟨e,he,rfl⟩:=Go.Conc.mem_ofEvents W
    exact touch_mute (hm e he)
end
section
variable{P:Program}{I:Value->World->Prop}{J:Type}{r:J->J->Prop}{N:J->Goroutine->World->Prop}{L:J->Nat->(Nat->Prop)->(Nat->Prop)->(Nat->Prop)->Goroutine->Goroutine->World->Prop}{C:J->Nat->(Nat->Prop)->(Nat->Prop)->(Nat->Prop)->Goroutine->World->Prop}
theorem JQ{i}{x}(h:j≠i)(d:A[j]? =some x):(A.setIfInBounds i ph)[j]? =some x:=by grind
theorem Me{B}(h:c<B){u:Trace}(g:∀op∈u,(∃k,op.act=.send c k)\/(∃k,op.act=.sendDone c k)\/(∃k d,op.act=.recv c k d)\/(∃k,op.act=.recvDone c k)\/op.act=.close c):
  ∀op∈u,op.act.touch?=none/\(∀m,op.act≠.mark m)/\op.act.low B:=λop f=>by
 obtain⟨k,e⟩|⟨k,e⟩|⟨k,d,e⟩|⟨k,e⟩|e:=g op f<;>rw[e]<;>exact⟨rfl,λm=>by simp,h⟩
theorem aap(T:a0W P I r N L C)(ω)(c)(M S Sh)(s)(A)(a b a1 b1)(w)(sl)(t)(q)(ka kb)(hs:0<s)(F:A[0]? =some a1)(h1:A[s]? =some b1)(ha:a0X P c a ka a1)(hb:a0Y P c b kb b1)(hk:0<ka+kb)(m:gK P t A q s)(hD:nK s M S Sh w.heap.size t)(hd:Deaf t s=0)(hl:L ω c M S Sh a b w):
  Ro P I N L C r (ω,ka+kb,sumTo A.size q) (crowd A w sl) t:=by
 obtain⟨hca,hcb⟩:=T.adM _ _ _ _ _ _ _ _ hl;have hra:=qo hca;have hrb:=qo hcb
 have haw:∀g∈A,awake g:=λg hg=>by
  obtain⟨i,l⟩:=Array.getElem?_of_mem hg
  by_cases i0:i=0
  ·subst i0;rw[F]at l;cases l
   cases ha with
   |on=>exact awake_of (.inl hra)
   |wait z _=>exact awake_of (.inr (.inl rfl))
  ·by_cases is:i=s
   ·subst is;rw[h1]at l;cases l
    cases hb with
    |on=>exact awake_of (.inl hrb)
    |wait v z _=>exact awake_of (.inr (.inl rfl))
   ·exact awake_of ((m.old _ _ (by omega) is l).status.elim .inl λx=>.inr (.inr x))
 have hsome:∃(i:Nat)(g:Goroutine),A[i]? =some g/\g.status=.running:=by
  cases ha with
  |on=>grind
  |wait z _=>
   cases hb with
   |on=>grind
   |wait v z _=>omega
 obtain⟨i,g,d,n,l,hg,Z⟩:=crowd_pick (P:=P) (w:=w) (sl:=sl) haw hsome;have p:i<A.size:=(afD.1 l).1;have adV:0<A.size:=by omega
 have hlts:s<A.size:=(afD.1 h1).1;have W:=T.abX _ _ _ _ _ _ _ _ (w.at d) hl ⟨d,rfl⟩;obtain⟨sn,rn,tm,X⟩:=T.a4y _ _ _ _ _ _ _ _ W;have hA:=T.Xl _ _ _ _ _ _ _ _ W;have aca:=Rp X;have hoff:∀(j:Nat)(x:Goroutine)(bb:Bool),A[j]? =some x->j≠0->j≠s->offersAt x c bb=[]:=λj x bb hx Y hjs=>m.offers (Nat.pos_of_ne_zero Y) hjs hx c bb
 by_cases f:i=0
 ·subst f
  obtain rfl:a1=g:=tQ
  cases ha with
  |wait z _=>cases hg
  |on=>
   obtain⟨a',w',B,H,M',hgo,U,hes,hM,hr,Q⟩|⟨z,O⟩:=T.aad _ _ _ _ _ _ _ _ W
   ·obtain⟨sn',rn',tm',V⟩:=T.a4y _ _ _ _ _ _ _ _ Q
    refine .inr ⟨_,_,(H,1+kb,sumTo ((A.map (woken P a a' w')).setIfInBounds 0 a').size q),Z.trans (runT_crowd_go (sl:=n) (i:=0) l hgo),.left _ _ hr,
     .l H c M' S Sh s _ a' b a' b1 w' n _ q 1 kb hs (by grind) ?_ .on hb (by omega) (m.behind p (.inl rfl)) ((hD.mono hM (λ_ h=>h) U).abT (T.Xl _ _ _ _ _ _ _ _ Q) hes) (by grind[jC]) Q⟩
    rw[afF (by omega),ag2,h1]
    exact congrArg some (hb.woken hcb V)
   ·cases hb with
    |on=>
     have hp:partners (A.setIfInBounds 0 ph) c true=[]:=partners_nil λj x Y=>by
      obtain⟨_,rfl⟩|⟨hj0,Y⟩:=getElem?_stand A 0 j x Y
      ·exact jE
      ·grind[Px]
     have e:=crowd_waits (P:=P) (sl:=n) (i:=0) l (show stepG P (0==0) a (w.at d)=_ from O _) (by intro cc hcc;simp at hcc;subst hcc;exact ways_recv_none X hp)
     rw[ofEvents_none]at e
     refine .inr ⟨_,_,(ω,0+1,sumTo (A.setIfInBounds 0 (parked a #[rcase c z] (.recv true))).size q),Z.trans e,.right _ (.left _ _ (by omega)),
      .l ω c M S Sh s _ a b _ b (w.at d) n _ q 0 1 hs (by grind) (by grind) (.wait z O) .on (by omega) ?_ (by rw[Array.append_empty];exact hD) (by grind) W⟩
     exact m.TW (by simp) (λi l _=>by rw[afF (by omega)]) (by simp)
    |wait v z' K=>
     have hp:partners (A.setIfInBounds 0 ph) c true=[(s,0)]:=by
      rw[partners_one (j:=s) (JQ (by omega) h1) λj x hjs Y=> ?_,offersAt_parked_send,afN rfl];rfl
      obtain⟨_,rfl⟩|⟨hj0,Y⟩:=getElem?_stand A 0 j x Y
      ·exact jE
      ·grind
     have e:=crowd_recv_meets (P:=P) (sl:=n) (i:=0) l (show stepG P (0==0) a (w.at d)=_ from O _) X (by omega) h1 hp
     rw[ofEvents_none,agL,finishComm_recv,finishComm_send]at e
     obtain⟨H,hr,Q⟩:=T.a9G _ _ _ _ _ _ _ _ z v z' sn rn tm W O K X
     refine .inr ⟨_,_,(H,1+1,sumTo ((A.setIfInBounds s (Go.Conc.served b undef)).setIfInBounds 0 (Go.Conc.served a (recvd true v true))).size q),Z.trans e,.left _ _ hr,
      .l H c M S Sh s _ _ _ _ _ _ n _ q 1 1 hs (by simp[p];rfl) (by grind) .on .on (by omega) ?_ ?_ ?_ Q⟩
     ·exact m.TW (by simp) (λi l his=>by rw[afF (by omega),afF (ahc his)]) (by simp)
     ·have:=hD.TW (u:=#[{g:=s,fn:=b.frame.fn,pos:=b.frame.place,act:=.send c sn},{g:=0,fn:=a.frame.fn,pos:=a.frame.place,act:=.recv c rn 0},{g:=s,fn:=b.frame.fn,pos:=b.frame.place,act:=.sendDone c sn},{g:=0,fn:=a.frame.fn,pos:=a.frame.place,act:=.recvDone c rn}]) (Me (c:=c) aca (by simp))
      exact AJ
     ·grind[fD]
 ·have hib:(i==0)=false:=by simpa using f
  by_cases his:i=s
  ·subst his
   obtain rfl:b1=g:=by rw[h1]at l;exact agf l
   cases hb with
   |wait v z _=>cases hg
   |on=>
    obtain⟨b',w',B,H,S',hgo,U,hes,hS,hr,Q⟩|⟨v,z',K⟩|⟨b',w',B,H,nq,hwake,hgo,U,hes,hq,hr,hc'⟩:=T.aae _ _ _ _ _ _ _ _ W
    ·obtain⟨sn',rn',tm',V⟩:=T.a4y _ _ _ _ _ _ _ _ Q
     refine .inr ⟨_,_,(H,ka+1,sumTo ((A.map (woken P b b' w')).setIfInBounds i b').size q),Z.trans (runT_crowd_go (sl:=n) (i:=i) l (by grind)),.left _ _ hr,
      .l H c M S' Sh i _ a b' a1 b' w' n _ q ka 1 hs ?_ (by grind) ha .on (by omega) (m.behind p (.inr rfl)) ((hD.mono (λ_ h=>h) hS U).abU (T.Xl _ _ _ _ _ _ _ _ Q) f hes) (Pv hd hes) Q⟩
     rw[afF (by omega),ag2,F]
     exact congrArg some (ha.woken hca V)
    ·cases ha with
     |on=>
      have hp:partners (A.setIfInBounds i ph) c false=[]:=partners_nil λj x Y=>by
       obtain⟨_,rfl⟩|⟨R,Y⟩:=getElem?_stand A i j x Y
       ·exact jE
       ·grind[Px]
      have e:=crowd_waits (P:=P) (sl:=n) (i:=i) l (show stepG P (i==0) b (w.at d)=_ from by rw[hib];exact K _) (by intro cc hcc;simp at hcc;subst hcc;exact ways_send_none X (afK _) hp)
      rw[ofEvents_none]at e
      refine .inr ⟨_,_,(ω,1+0,sumTo (A.setIfInBounds i (parked b #[scase c v z'] .send)).size q),Z.trans e,.right _ (.left _ _ (by omega)),
       .l ω c M S Sh i _ a b a _ (w.at d) n _ q 1 0 hs (by grind) (by grind) .on (.wait v z' K) (by omega) ?_ (by rw[Array.append_empty];exact hD) (by grind) W⟩
      exact m.TW (by simp) (λj Y R=>by rw[afF (ahc R)]) (by simp)
     |wait z O=>
      have hp:partners (A.setIfInBounds i ph) c false=[(0,0)]:=by
       rw[partners_one (j:=0) (JQ (by omega) F) λj x hj0 Y=> ?_,offersAt_parked_recv,afN rfl];rfl
       obtain⟨_,rfl⟩|⟨R,Y⟩:=getElem?_stand A i j x Y
       ·exact jE
       ·grind
      have e:=crowd_send_meets (P:=P) (sl:=n) (i:=i) l (show stepG P (i==0) b (w.at d)=_ from by rw[hib];exact K _) X (by omega) F hp
      rw[ofEvents_none,agL,finishComm_recv,finishComm_send]at e
      obtain⟨H,hr,Q⟩:=T.a9G _ _ _ _ _ _ _ _ z v z' sn rn tm W O K X
      refine .inr ⟨_,_,(H,1+1,sumTo ((A.setIfInBounds 0 (Go.Conc.served a (recvd true v true))).setIfInBounds i (Go.Conc.served b undef)).size q),Z.trans e,.left _ _ hr,
       .l H c M S Sh i _ _ _ _ _ _ n _ q 1 1 hs (by rw[afF (by omega)];simp[adV];rfl) (by grind) .on .on (by omega) ?_ ?_ ?_ Q⟩
      ·exact m.TW (by simp) (λj Y R=>by rw[afF (ahc R),afF (by omega)]) (by simp)
      ·have:=hD.TW (u:=#[{g:=i,fn:=b.frame.fn,pos:=b.frame.place,act:=.send c sn},{g:=0,fn:=a.frame.fn,pos:=a.frame.place,act:=.recv c rn 0},{g:=i,fn:=b.frame.fn,pos:=b.frame.place,act:=.sendDone c sn},{g:=0,fn:=a.frame.fn,pos:=a.frame.place,act:=.recvDone c rn}]) (Me (c:=c) aca (by simp))
       exact AJ
      ·grind[fD]
    ·obtain⟨sn',rn',tm',V⟩:=T.a9H _ _ _ _ _ _ _ hc'
     have hgo':stepG P (i==0) b (w.at d)=.go b' w' (B.push ⟨.obj c,true,true⟩):=by rw[hib];exact hgo
     have hwk:∀o,woken P b b' w' o=o.again w':=λo=>by unfold woken;obtain h|h:=hq.status<;>simp[hwake,h]
     have ha':a0Z P c a (a1.again w'):=by
      cases ha with
      |on=>rw[again_running _ (.inl hra)];exact .on
      |wait z hz=>rw[again_recv_closed V];exact .again z hz
     have hdc:Deaf (t++MemOp.ofEvents i b.frame.fn b.frame.place B) i=0:=Pv hd hes
     have hev:t++MemOp.ofEvents i b.frame.fn b.frame.place (B.push ⟨.obj c,true,true⟩)=(t++MemOp.ofEvents i b.frame.fn b.frame.place B)++#[{g:=i,fn:=b.frame.fn,pos:=b.frame.place,act:=.close c}]:=by rw[ofEvents_push];apply ahd;simp[MemAct.ofEvent]
     have a9J:=Rp V;refine .inr ⟨_,_,(H,0,sumTo ((A.map (woken P b b' w')).setIfInBounds i b').size (upd q i nq)),Z.trans (runT_crowd_go (sl:=n) (i:=i) l hgo'),.left _ _ hr,?_⟩
     rw[hev]
     have hDD:=((hD.mono (λ_ h=>h) (λ_ h=>h) U).abU (fn:=b.frame.fn) (pos:=b.frame.place) (T.a4z _ _ _ _ _ _ _ hc') f hes).TW (u:=#[{g:=i,fn:=b.frame.fn,pos:=b.frame.place,act:=.close c}]) (Me (c:=c) a9J (by simp));refine .c H c M S Sh i _ _ a (a1.again w') w' n _ (upd q i nq) hs ?_ ha' ⟨λj x Y hx=> ?_,λj Y=> ?_⟩ hDD (Shut.new hdc rfl rfl) hc'
     ·grind
     ·by_cases R:i=j
      ·subst R
       rw[afO (by grind)]at hx
       obtain rfl:=agf hx
       rw[upd_same,fD i (by simp),hdc]
       exact QuitsD.of_quitsIn hq
      ·rw[afF R,ag2]at hx
       obtain⟨y,hy,rfl⟩:=agi.1 hx;have hqj:=m.old j y Y (ahc R) hy
       rw[woken_quitsD hqj,fD j (by simp),jC (ahc R),upd_ne q nq (ahc R)]
       exact hqj
     ·rw[fD j (by simp),jC (by grind)]
      exact m.above j (by grind)
  ·have hpos:0<i:=Nat.pos_of_ne_zero f
   have hq:=m.old i g hpos his l;cases D:q i with
   |zero=>rw[D]at hq;rw[hq.1]at hg;cases hg
   |succ k=>
    rw[D]at hq
    obtain⟨hf,_⟩|⟨_,E,B,hm,hstp,G⟩:=hq
    ·grind
    have hsum:sumTo A.size (upd q i k)+(k+1)=sumTo A.size q+k:=tV
    have hsz:((A.map (woken P g E (w.at d))).setIfInBounds i E).size=A.size:=by simp
    refine .inr ⟨_,_,(ω,ka+kb,sumTo ((A.map (woken P g E (w.at d))).setIfInBounds i E).size (upd q i k)),Z.trans (runT_crowd_go (sl:=n) (i:=i) l (by grind)),.right _ (.right _ (by grind)),
     .l ω c M S Sh s _ a b a1 b1 (w.at d) n _ (upd q i k) ka kb hs ?_ ?_ ha hb hk (m.slip p (by rw[Deaf_own];exact G)) (hD.mute f hm) (by rw[jC (ahc his)];exact hd) W⟩
    ·rw[afF f,ag2,F]
     exact congrArg some (ha.woken hca X)
    ·rw[afF his,ag2,h1]
     exact congrArg some (hb.woken hcb X)
theorem a1d(T:a0W P I r N L C)(d)(m)(t)(h:Pw P N L C d m t):Ro P I N L C r d m t:=by cases h<;>grind[aan,aap,aao]
theorem a1e(h:WellFounded r)(T:a0W P I r N L C){ω}{w}{f}{t}{q}(m:A[0]? =some a)(l:Leavers P t A q)(i:Past (λ_=>False) w.heap.size t)(k:N ω a w):
  ∃n d o e g,runNT P (n+1) (crowd A w f) t=(.ended o e,g)/\runN P n (crowd A w f)=.next d/\step P d=.ended o e/\Good P I d o e g:=
 run_of_inv (Prod.lex ⟨r,h⟩ (Prod.lex Nat.lt_wfRel Nat.lt_wfRel)).wf (Pw P N L C) (Good P I) (a1d T) _ _ _ (.n ω A a w f t q m l i k)
end
section
variable[Special]
open Go.Conc (G rcase scase QuitsIn AtRel)
abbrev Pt(Q:Program)(c:Frame):={x:Goroutine×World//Acc (Below Q c) x}
abbrev Om(Q:Program)(c:Frame):=Pt Q c×(Pt Q c×Nat)×(Pt Q c×Nat)
def PtR(Q:Program)(c:Frame)(y x:Pt Q c):Prop:=Below Q c y.1 x.1
def OmR(Q:Program)(c:Frame):Om Q c->Om Q c->Prop:=Prod.Lex (PtR Q c) (Prod.Lex (Prod.Lex (PtR Q c) (· < ·)) (Prod.Lex (PtR Q c) (· < ·)))
omit [Special]in
theorem Xv(Q)(c):WellFounded (PtR Q c):=by
 refine⟨λ⟨x,f⟩=> ?_⟩;induction f with
 |intro x h e=>exact⟨_,λ⟨y,g⟩d=>e y d⟩
omit [Special]in
theorem aaq(Q)(c):WellFounded (OmR Q c):=
 (Prod.lex ⟨_,Xv Q c⟩ (Prod.lex (Prod.lex ⟨_,Xv Q c⟩ Nat.lt_wfRel) (Prod.lex ⟨_,Xv Q c⟩ Nat.lt_wfRel))).wf
def SN(g f:List Nat)(d:Nat):Bool->Scope->Prop:=λ_ e=>e=B0 g f d
def btN(e:FuncId)(d:Frame):Prop:=d.fn=e/\d.kind=.normal
def Rest(Q:Program)(l i:List Nat)(e:Nat)(c:Frame)(n:FuncId)(d f:Ren)(F:MK):Prop:=
 ∃m o k r h g,F.r=k::r/\F.r'=h::g/\dm (SN l i e) (btN n) Q (B0 l i e) f m [c] [] o k r h g/\d.le f
structure JC(Q:Program)(c:Frame)(A0 A1:List Nat)(uQ:Nat)(f0:FuncId)(pR:Ren)(K:LK)(F:MK):Prop where
 Rq:Under c F.r
 Rs:Under c K.kb
 len:2<=K.kb.length
 rest:∃ρN,Rest Q A0 A1 uQ c f0 pR ρN F/\ρN.le K.Dj
def KD(Q P:Program)(c:Frame)(R:Value->World->Prop)(n:au)(g:List Nat)(K:LK)(F:MK)(M:Nat->Prop)(top x:Goroutine×World)(e:Array Value)(a:Goroutine)(f:World):Prop:=
 ∀z d s r,OA Q c K x z->z.2.heap[K.ch]? =some (.chan au.bN.toNat (e++d) true s r false)->∃m j,Below Q c m top/\MI Q P c R n g K F M z.2 d m j a f
structure LJ(Q P:Program)(c:Frame)(R:Value->World->Prop)(n:au)(A0 A1:List Nat)(f0:FuncId)(pR:Ren)(ω:Om Q c)(ch:Nat)(M S Sh:Nat->Prop)(a b:Goroutine)(w':World)(K:LK)(F:MK)(buf:Array Value):Prop where
 core:JC Q c A0 A1 n.uQ f0 pR K F
 hch:ch=K.ch'
 hSh:Sh=K.Sh
 three:Three M S K.Sh
 ltS:∀y,S y->y<w'.heap.size
 ltM:∀y,M y->y<w'.heap.size
 chan:∃s r tm,w'.heap[K.ch']? =some (.chan 0 #[] false s r tm)
 top:Below Q c ω.2.1.1.1 ω.1.1
 si:SI Q P c R n A1 K S ω.2.1.1.1 ω.2.1.2 b w'
 held:∃s r,ω.2.1.1.1.2.heap[K.ch]? =some (.chan au.bN.toNat buf false s r false)
 one:∃z rest,OA Q c K ω.2.1.1.1 z/\Below Q c ω.2.2.1.1 ω.1.1/\MI Q P c R n A1 K F M z.2 rest ω.2.2.1.1 ω.2.2.2 a w'
 ways:KD Q P c R n A1 K F M ω.1.1 ω.2.1.1.1 buf a w'
def Rt(Q P:Program)(c:Frame)(R:Value->World->Prop)(n:au)(l k:List Nat)(h:FuncId)(d:Ren)(f:Om Q c)(ch:Nat)(M S i:Nat->Prop)(a b:Goroutine)(g:World):Prop:=
 ∃K F e,LJ Q P c R n l k h d f ch M S i a b g K F e
structure CJ(Q P:Program)(c:Frame)(R:Value->World->Prop)(n:au)(A0 A1:List Nat)(f0:FuncId)(pR:Ren)(ω:Om Q c)(ch:Nat)(M S Sh:Nat->Prop)(a:Goroutine)(w':World)(K:LK)(F:MK)(ρS:Ren)(z:World):Prop where
 core:JC Q c A0 A1 n.uQ f0 pR K F
 hch:ch=K.ch'
 hSh:Sh=K.Sh
 three:Three M S K.Sh
 ltS:∀y,S y->y<w'.heap.size
 ltM:∀y,M y->y<w'.heap.size
 chan:∃s r tm,w'.heap[K.ch']? =some (.chan 0 #[] true s r tm)
 top:Below Q c ω.2.2.1.1 ω.1.1
 se:Rn Q n A1 K ρS S z w'
 mi:MI Q P c R n A1 K F M z #[] ω.2.2.1.1 ω.2.2.2 a w'
def a7Y(Q P:Program)(c:Frame)(R:Value->World->Prop)(n:au)(l k:List Nat)(h:FuncId)(d:Ren)(f:Om Q c)(ch:Nat)(M S i:Nat->Prop)(a:Goroutine)(g:World):Prop:=
 ∃K F e z,CJ Q P c R n l k h d f ch M S i a g K F e z
section
variable{Q P:Program}{c:Frame}{n:au}{Y L:List Nat}{zS Z:Value}{d1 d2:ChanDir}{iR:TypeInfo}{R:Value->World->Prop}{K:LK}{F:MK}{U V:Ren}{M S X:Nat->Prop}{z w I J:World}{rest O:Array Value}{f0:FuncId}
theorem SI.other(h:SI Q P c R n L K S x j b I)(d:Calm J)(g:I.heap.size<=J.heap.size)(f:∀y,S y->J.heap[y]? =I.heap[y]?)(e:J.heap[K.l8]? =I.heap[K.l8]?):SI Q P c R n L K S x j b J:=AP
theorem MI.other{m}(h:MI Q P c R n L K F M z rest m j a I)(d:Calm J)(g:I.heap.size<=J.heap.size)(f:∀y,M y->J.heap[y]? =I.heap[y]?)(e:J.heap[K.l8]? =I.heap[K.l8]?):MI Q P c R n L K F M z rest m j a J:=AP
theorem Rn.other(h:Rn Q n L K U S w I)(g:Calm J)(d:I.heap.size<=J.heap.size)(e:∀y,S y->J.heap[y]? =I.heap[y]?)(f:J.heap[K.l8]? =I.heap[K.l8]?):Rn Q n L K U S w J:=
 ⟨h.wr.other' g (afC h.wr.Dl d) λb c k x=>e c (h.ran b c k x),h.tidy,h.old,h.le,h.low,h.ran,h.box,f.trans h.Dg,h.size,afC h.size' d,h.Ua,h.sh,h.kn⟩
theorem SI.calm{x}{j}{b}(h:SI Q P c R n L K S x j b I):Calm I:=by obtain⟨U,d,_⟩:=h;exact d.wr.held.calm
theorem MI.calm{m}{j}{a}(h:MI Q P c R n L K F M z rest m j a I):Calm I:=by obtain⟨U,d,_⟩:=h;exact d.wr.held.calm
theorem Rn.calm(h:Rn Q n L K U S w I):Calm I:=h.wr.held.calm
theorem SI.core{x}{j}{b}(h:SI Q P c R n L K S x j b I):Go.Conc.core b=b:=by
 obtain⟨U,_,_,h⟩:=h;cases h with
 |start h=>obtain⟨_,_,_,_,h,_⟩:=h;exact h
 |run h=>obtain⟨_,_,_,_,_,_,_,rfl,_⟩:=h;rfl
 |hand m d _ h=>exact h.2.1
 |a4B h=>exact h.2.1
 |aai h=>obtain⟨_,_,_,_,_,_,_,rfl⟩:=h;rfl
 |send v h=>obtain⟨_,_,_,_,_,_,_,_,_,_,_,rfl⟩:=h;rfl
theorem MI.core{m}{j}{a}(h:MI Q P c R n L K F M z rest m j a I):Go.Conc.core a=a:=by
 obtain⟨U,_,_,h⟩:=h;cases h with
 |run h=>obtain⟨_,_,_,_,_,_,_,rfl,_⟩:=h;rfl
 |recv h=>exact h.core
 |head m d _ h=>exact h.2.1
 |got m d _ h=>exact h.2.1
theorem SI.facts(h:SI Q P c R n L K S x j b I):K.N'+4<=I.heap.size/\kL n K.l8 K.ch' I/\¬S K.l8/\¬S K.ch'/\K.N+4<=x.2.heap.size:=by
 obtain⟨U,h,_⟩:=h
 exact⟨h.size',h.Dg,h.sh.1,h.sh.2,h.size⟩
omit [Special]in
theorem Mf(h:Three M S K.Sh)(e:∀y,S y->y<I.heap.size)(d:K.N'+4<=I.heap.size):Three (EX M I J) S K.Sh:=
 ⟨λb x y=>x.elim (λx=>h.ms b x y) λx=>by have:=e b y;omega,λb x y=>x.elim (λx=>h.mh b x y) λx=>by obtain y|y:=y<;>simp only[LK.l8,LK.ch']at y<;>omega,h.sh⟩
omit [Special]in
theorem Xw(h:Three M S K.Sh)(e:∀y,M y->y<I.heap.size)(d:K.N'+4<=I.heap.size):Three M (EX S I J) K.Sh:=
 ⟨λb x y=>y.elim (λy=>h.ms b x y) λy=>by have:=e b x;omega,h.mh,λb x y=>x.elim (λx=>h.sh b x y) λx=>by obtain y|y:=y<;>simp only[LK.l8,LK.ch']at y<;>omega⟩
omit [Special]in
theorem Xx{M}(h:∀y,M y->y<I.heap.size)(d:I.heap.size<=J.heap.size):∀y,EX M I J y->y<J.heap.size:=λy x=>x.elim (λx=>afB (h y x) d) λx=>x.2
variable(st:Seat Q P c n Y L zS Z d1 d2 iR)
include st
theorem KD.pick(f:Under c K.kb)(g:2<=K.kb.length)(v:Acc (Below Q c) top)(B:SI Q P c R n L K S x j b I){r:Nat}(h:I.heap[K.ch']? =some (.chan 0 #[] false s r tm)){o q:Nat}(y:x.2.heap[K.ch]? =some (.chan au.bN.toNat O false o q false))(u:KD Q P c R n L K F M top x O a I):
  ∃(m:Pt Q c)(t:Nat)(z:Goroutine×World)(rest:Array Value),OA Q c K x z/\Below Q c m.1 top/\MI Q P c R n L K F M z.2 rest m.1 t a I:=by
 obtain⟨z,d⟩:=B.comp st f g h;obtain⟨D,l,p,k⟩:=d.shut;obtain⟨ext,G,E,r3,e⟩:=d.rel.chan _ _ _ _ _ _ y
 rw[k]at e
 obtain⟨rfl⟩:D=O++ext:=by injection e with e;injection e
 obtain⟨m,j,i,C⟩:=u z ext l p d k
 exact⟨⟨m,v.inv i⟩,j,z,ext,d,i,C⟩
theorem KD.acb(g:Under c F.r)(i:K.N'+4<=I.heap.size){l:Goroutine}{f:World}{C:Array Event}(d:stepG P true a I=.go l f C)(t:KD Q P c R n L K F M top x O a I):KD Q P c R n L K F (EX M I f) top x O l f:=by
 intro z rest s r q v;obtain⟨m,j,k,y⟩:=t z rest s r q v;obtain⟨a2,D,B,o,p,h⟩|⟨U,_,_,u⟩:=y.cases st g i
 ·have:=h.step
  rw[d]at this
  cases this;refine⟨o,p,?_,h.inv⟩;have e:=h.low;cases e with
  |left _ _ e=>exact agI e k
  |right _ e=>exact k
 ·have:=(u.recv st).1 I
  rw[d]at this
  cases this
theorem a4F{t:Om Q c}(h:Rt Q P c R n Y L f0 V t ch M S X a b I):
  (∃E g q l C,stepG P true a I=.go E g q/\I.heap.size<=g.heap.size/\(∀e∈q,Xk C X g.heap.size e)/\(∀x,M x->C x)/\OmR Q c l t/\Rt Q P c R n Y L f0 V l ch C S X E b g)\/∃z,Recv P ch a z:=by
 obtain⟨K,F,O,h⟩:=h;obtain⟨top,⟨x,H⟩,m,jM⟩:=t;obtain⟨z,rest,D,p,o⟩:=h.one;dsimp only at D p o;obtain⟨i,W,_,_,_⟩:=h.si.facts;obtain⟨rfl,rfl⟩:=And.intro h.hch h.hSh;have B:¬M K.l8:=λy=>h.three.mh _ y (.inl rfl)
 have v:¬M K.ch':=λy=>h.three.mh _ y (.inr rfl)
 obtain⟨a2,g,q,G,N,f⟩|⟨U,_,_,T⟩:=o.cases st h.core.Rq i
 ·refine .inl ⟨a2,g,q,(top,(x,H),(⟨G,?_⟩,N)),EX M I g,f.step,f.size,f.ev,λy k=>.inl k,?_,K,F,O,?_⟩
  ·have d:=f.low
   exact AL
  ·refine .right _ (.right _ ?_)
   have d:=f.low;exact AO
  ·obtain⟨s,r,tm,u⟩:=h.chan
   refine⟨h.core,rfl,rfl,Mf h.three h.ltS i,λy k=>afB (h.ltS y k) f.size,Xx h.ltM f.size,⟨s,r,tm,(f.keep _ (by grind) v).trans u⟩,h.top,
    h.si.other f.inv.calm f.size (λy k=>f.keep y (h.ltS y k) λp=>h.three.ms y p k) (f.keep _ (by grind) B),h.held,⟨z,rest,D,?_,f.inv⟩,h.ways.acb st h.core.Rq i f.step⟩
   have d:=f.low;cases d with
   |left _ _ d=>exact agI d p
   |right _ d=>exact p
 ·exact .inr ⟨Z,(T.recv st).1⟩
end
end
section
variable[Special]
open Go.Conc (G rcase scase QuitsIn AtRel)
section
variable{Q P:Program}{c:Frame}{n:au}{V O:List Nat}{Z zR:Value}{d1 d2:ChanDir}{iR:TypeInfo}{R:Value->World->Prop}{K:LK}{F:MK}{Y L:Ren}{M S U:Nat->Prop}{z w I w1:World}{rest J:Array Value}{X:FuncId}
variable(st:Seat Q P c n V O Z zR d1 d2 iR)
theorem KD.a9K{f}{d}(h:KD Q P c R n O K F M top x J a I)(e:f=x\/Below Q c f x)(hrel:GU K x.2 f.2)(p:Calm d)(i:I.heap.size<=d.heap.size)(k:∀y,M y->d.heap[y]? =I.heap[y]?)(o:d.heap[K.l8]? =I.heap[K.l8]?):KD Q P c R n O K F M top f J a d:=by
 intro z rest s r g l;obtain⟨m,j,t,q⟩:=h z rest s r (g.of e hrel) l
 exact⟨m,j,t,q.other p i k o⟩
include st
theorem a4G{ω:Om Q c}(h:Rt Q P c R n V O X L ω ch M S U a b I):
  (∃W f es g S',stepG P false b I=.go W f es/\I.heap.size<=f.heap.size/\(∀e∈es,Xk S' U f.heap.size e)/\(∀x,S x->S' x)/\OmR Q c g ω/\Rt Q P c R n V O X L g ch M S' U a W f)\/
  (∃v z,Send P ch b v z)\/
  (∃(W:Goroutine)(f:World)(es:Array Event)(g:Om Q c)(nq:Nat),mayWake P b=true/\stepG P false b I=.go W f (es.push ⟨.obj ch,true,true⟩)/\I.heap.size<=f.heap.size/\(∀e∈es,Xk S U f.heap.size e)/\QuitsIn P nq W/\OmR Q c g ω/\a7Y Q P c R n V O X L g ch M S U a f):=by
 obtain⟨K,F,J,h⟩:=h;obtain⟨top,⟨x,jS⟩,m,jM⟩:=ω;obtain⟨hN',hbo,hbS,hcS,_⟩:=h.si.facts;obtain⟨rfl,rfl⟩:=And.intro h.hch h.hSh;have hbM:¬M K.l8:=λy=>h.three.mh _ y (.inl rfl)
 have hcM:¬M K.ch':=λy=>h.three.mh _ y (.inr rfl)
 obtain⟨s,r,tm,hch⟩:=h.chan;obtain⟨s1,r1,B⟩:=h.held;have hsi:=h.si;have d:=h.ways;have k:=h.top;dsimp only at B hsi d k;obtain⟨W,f,es,H,j',C⟩|⟨v,H,hs⟩|⟨hwake,hcl⟩:=hsi.cases st h.core.Rs h.core.len
 ·have acd:f.heap[K.ch']? =some (.chan 0 #[] false s r tm):=(C.keep _ gm hcS).trans hch
  have hw2:KD Q P c R n O K F M top.1 H J a f:=d.a9K C.way C.rel C.inv.calm C.size (λy E=>C.keep y (h.ltM y E) λhs=>h.three.ms y E hs) (C.keep _ (by simp only[LK.l8];omega) hbS);have u:=C.chan.trans B;obtain⟨m2,jM2,z2,ace,hz2,T,q⟩:=hw2.pick st h.core.Rs h.core.len top.2 C.inv acd u
  have hacc:Acc (Below Q c) H:=by
   obtain e|D:=C.way
   ·rw[e];exact x.2
   ·exact x.2.inv D
  refine .inl ⟨W,f,es,(top,(⟨H,hacc⟩,j'),(m2,jM2)),EX S I f,C.step,C.size,C.ev,λy E=>.inl E,?_,K,F,J,?_⟩
  ·refine .right _ (.left _ _ ?_)
   have hl:=C.low;cases hl with
   |left _ _ hl=>exact .left _ _ hl
   |right _ hl=>exact .right _ hl
  ·refine⟨h.core,rfl,rfl,Xw h.three h.ltM hN',Xx h.ltS C.size,λy E=>afB (h.ltM y E) C.size,⟨s,r,tm,acd⟩,?_,C.inv,⟨s1,r1,u⟩,⟨z2,ace,hz2,T,q⟩,hw2⟩
   obtain e|D:=C.way
   ·show Below Q c H top.1
    rw[e];exact k
   ·exact agI D k
 ·exact .inr (.inl ⟨v,_,hs.send⟩)
 ·obtain⟨W,H,ρS,i,hq,D,hrel,adW,hV,hse,adX,s2,r2,h1,h2⟩:=hcl s r tm hch
  rw[B]at h1
  cases h1;have N:(I.setChan K.ch' 0 #[] true s r tm).heap.size=I.heap.size:=gp
  have p:∀y,y≠K.ch'->(I.setChan K.ch' 0 #[] true s r tm).heap[y]? =I.heap[y]? :=λy E=>tO
  have l:(I.setChan K.ch' 0 #[] true s r tm).heap[K.ch']? =some (.chan 0 #[] true s r tm):=by simp only[World.setChan];rw[afO gm]
  obtain⟨m2,jM2,T,q⟩:=d H #[] s1 r1 ⟨.inr D,hrel,adW,hse.tidy,J,s1,r1,h2⟩ (by rw[Array.append_empty];exact h2);have hbx:Below Q c H x.1:=D;refine .inr (.inr ⟨W,_,#[⟨.obj K.ch',false,true⟩],(top,(⟨H,x.2.inv hbx⟩,0),(⟨m2,top.2.inv T⟩,jM2)),2,hwake,i,Nat.le_of_eq N.symm,?_,hq,.right _ (.left _ _ (.left _ _ hbx)),K,F,ρS,H.2,?_⟩)
  ·intro e he
   simp only[List.mem_toArray,agk,ags,or_false]at he;subst he;refine⟨λy E=> ?_,by simp,by simp,by show K.ch'<_;rw[N];exact gm⟩;have:y.loc=.obj K.ch'/\y.write=false:=by simp[MemAct.ofEvent,MemAct.touch?]at E;try (subst E;exact⟨rfl,rfl⟩)
   exact .inr ⟨by rw[this.1];exact .inr rfl,this.2⟩
  ·exact⟨h.core,rfl,rfl,h.three,λy E=>by rw[N];exact h.ltS y E,λy E=>by rw[N];exact h.ltM y E,⟨s,r,tm,l⟩,T,hse,
    q.other hse.calm (Nat.le_of_eq N.symm) (λy E=>p y λe=>hcM (e▸E)) (p _ (by simp only[LK.l8,LK.ch'];omega))⟩
theorem a7Z{ω:Om Q c}{zz v zz':Value}{k:Nat}(h:Rt Q P c R n V O X L ω ch M S U a b I)(hra:Recv P ch a zz)(B:Send P ch b v zz')(hch:I.heap[ch]? =some (.chan 0 #[] false s k tm)):
  ∃W,OmR Q c W ω/\Rt Q P c R n V O X L W ch M S U (Go.Conc.served a (.tuple #[v,.bool true])) (Go.Conc.served b undef) (I.setChan ch 0 #[] false (s+1) (k+1) tm):=by
 obtain⟨K,F,J,h⟩:=h;obtain⟨top,⟨x,jS⟩,m,jM⟩:=ω;obtain⟨hN',hbo,hbS,hcS,_⟩:=h.si.facts;obtain⟨rfl,rfl⟩:=And.intro h.hch h.hSh;have hbM:¬M K.l8:=λy=>h.three.mh _ y (.inl rfl)
 have hcM:¬M K.ch':=λy=>h.three.mh _ y (.inr rfl)
 obtain⟨s1,r1,r⟩:=h.held;have hsi:=h.si;have d:=h.ways;have g:=h.top;dsimp only at r hsi d g;obtain⟨b',w2,es,x',j',C⟩|⟨v2,x',p⟩|⟨hwake,hcl⟩:=hsi.cases st h.core.Rs h.core.len
 ·have:=C.step;rw[B I]at this;cases this
 ·have hv:v=v2:=by
   have T:=B I
   rw[p.send I]at T
   simp only[GStep.comm.injEq,scase,Array.mk.injEq,agK,CommCase.mk.injEq,ag1]at T;exact T.2.1.1.2.1.symm
  subst hv;have N:(I.setChan K.ch' 0 #[] false (s+1) (k+1) tm).heap.size=I.heap.size:=gp
  have l:(I.setChan K.ch' 0 #[] false (s+1) (k+1) tm).heap[K.ch']? =some (.chan 0 #[] false (s+1) (k+1) tm):=by simp only[World.setChan];rw[afO gm]
  obtain⟨adX,s2,r2,T,h2⟩:=p.push
  rw[r]at T
  cases T
  have hw2:KD Q P c R n O K F M top.1 x' (J.push v) (Go.Conc.served a (.tuple #[v,.bool true])) (I.setChan K.ch' 0 #[] false (s+1) (k+1) tm):=by
   intro z rest s3 r3 hz hc
   rw[Array.push_eq_append,ah5]at hc
   obtain⟨m2,j2,H,f⟩:=d z (#[v]++rest) s3 r3 (hz.of (.inr p.below) p.rel) hc;obtain⟨a2,w2,es,m',j',C⟩|⟨Y,q,hV,hr⟩:=f.cases st h.core.Rq hN'
   ·have:=C.step;rw[hra I]at this;cases this
   ·obtain⟨m3,h5,h6⟩:=hr.meet st q hV rfl p.plain
    exact⟨m3,5,agI h5 H,h6 _ _ _⟩
  obtain⟨m2,jM2,z2,u,hz2,H,f⟩:=hw2.pick st h.core.Rs h.core.len top.2 (p.inv (s+1) (k+1) tm) l h2;have D:Below Q c x' x.1:=p.below
  exact⟨(top,(⟨x',x.2.inv D⟩,1),(m2,jM2)),.right _ (.left _ _ (.left _ _ D)),K,F,J.push v,h.core,rfl,rfl,h.three,λy E=>by rw[N];exact h.ltS y E,λy E=>by rw[N];exact h.ltM y E,⟨_,_,_,l⟩,
   agI D g,p.inv _ _ _,⟨_,_,h2⟩,⟨z2,u,hz2,H,f⟩,hw2⟩
 ·obtain⟨b',x',ρS,i,_⟩:=hcl s k tm hch
  rw[B I]at i;cases i
end
end
end Go.Proofs.Zb
