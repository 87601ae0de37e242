import Derived.Test.YtkdjjnkpfpogkaaGreatDoorK36
set_option maxHeartbeats 8000000
set_option linter.all false
set_option maxRecDepth 20000
namespace Go.Proofs.Zq
open Tryz
open Go.RowKit
variable{w:World}
namespace Rl
theorem xX{P:Program}{V:Array Oper}{o:Oper}{a:Act}{K:Act->World->Prop}{Q:Exit->Act->World->Prop}{E:Prop}(hg:o.guard=none)(s x:Operand)(t:TypeId)(d:o.op=Op.call {callee:=Callee.builtin Builtin.append,args:=#[s,x],argTypes:=#[t,t]})(M:Nat)(e:TypeId)(i:TypeInfo)(z:Value)(I L:Nat)(ht:P.underlying t=some (.slice e))(hi:P.info? e=some i)(hz:i.zero=some z)(O:i.size=I)(X:i.bytes=L)(W:z.cells.size=I)(hsz:0<I)(v:Value)(n:Nat)(C:List Value)(hs:a.eval s=v)(F:w.ownsRow M e I v n C)(ad:Addr)(m c:Nat)(J:List Value)(hx:a.eval x=.slice (some ad) m c)(hl:J.length=m*I)(R:∀j u,J[j]? =some u->w.cell? (ad.add j)=some u)(h1:∀u∈J,u.oneCell'=true)(Z:n+m<=maxLen)(N:(n+m)*L<=140737488355328)(U:M<=w.heap.size)(y:∀v' w',w'.ownsRow M e I v' (n+m) (C++J)->w.grownBy w' v.ownBlock->Laid w w' v v'->K (a.put o.dst v') w'):
  if Region.wanted o (yielded V a.tmps)=true then Oper.wp P o a w K Q else E:=by
 have hw:Region.wanted o (yielded V a.tmps)=true:=lL
 rw[afN hw]
 obtain⟨v',w',Y,h2,h3,h4⟩:=Bn (P:=P) w M t o.type e i z I L ht hi hz O X W hsz v n C F ad m c J hl R h1 Z N U;unfold Oper.wp;simp[execOp,d,resolve,invoke,builtin,hs,hx,Y,Result.andThen];exact y v' w' h2 h3 h4
def wT(K:Kd)(N k:Nat)(a:List Value):List Value:=K.J2 N k++a.drop (k*K.size)
theorem NN(K:Kd)(N:Nat)(a:List Value):wT K N 0 a=a:=by simp[wT,Kd.J2]
theorem QA(K:Kd)(N n:Nat)(a:List Value)(h:a.length=n*K.size):wT K N n a=K.J2 N n:=by grind[wT,List.drop_of_length_le]
theorem YX(N k:Nat)(l:List ByteArray)(h:k<l.length):(wT kT N k (mP l)).set k (.string (Fz N))=wT kT N (k+1) (mP l):=by
 unfold wT;have a:(kT.J2 N k).length=k:=by rw[Kd.Gc];show k*1=k;omega
 have b:kT.size=1:=rfl
 have e:(mP l).drop k=.string l[k]::(mP l).drop (k+1):=by
  rw[agt (by rw[ru];exact h)]
  simp[mP]
 rw[List.set_append_right _ _ (by omega),a,Nat.sub_self,b,agV,agV,e,Kd.DV]
 simp[kT]
theorem aet(A R:List Value)(a b c p q r:Value):(((A++a::b::c::R).set A.length p).set (A.length+1) q).set (A.length+2) r=A++p::q::r::R:=by simp
theorem FJ:∀(l:List aX)(k:Nat),(aJ l).drop (k*3)=aJ (l.drop k):=by
 intro l;induction l with
 |nil=>simp[aJ]
 |cons a r b=>
  intro k;cases k with
  |zero=>simp
  |succ k=>grind[aJ]
theorem YY(N k:Nat)(l:List aX)(h:k<l.length):(((wT kE N k (aJ l)).set (k*3) (.int .i64 (-(N:Int)))).set (k*3+1) (.int .i64 0)).set (k*3+2) (.string ⟨#[]⟩)=wT kE N (k+1) (aJ l):=by
 unfold wT;have a:kE.size=3:=rfl;have b:(kE.J2 N k).length=k*3:=by rw[Kd.Gc,a]
 have e:l.drop k=l[k]::l.drop (k+1):=agt h
 rw[a,FJ,FJ,e,show aJ (l[k]::l.drop (k+1))=.int .i64 l[k].addr::.int .i64 l[k].len::.string l[k].attrs::aJ (l.drop (k+1))from rfl,<-b,aet,Kd.DV,agH]
 rfl
theorem a9b{B g n d:Nat}{e:TypeId}{f:List Value}(h:w.ownsRow B e 3 (.slice (some ⟨g,0,none⟩) n d) n f)(k:Nat)(a b c:Value):
  (((w.setCell ⟨g,k*3,none⟩ a).setCell ⟨g,k*3+1,none⟩ b).setCell ⟨g,k*3+2,none⟩ c).ownsRow B e 3 (.slice (some ⟨g,0,none⟩) n d) n (((f.set (k*3) a).set (k*3+1) b).set (k*3+2) c):=
 (((h.stored (k*3) a).1.stored (k*3+1) b).1.stored (k*3+2) c).1
theorem a6u(N:Nat):∀u∈[Value.int .i64 (-(N:Int)),Value.int .i64 0,Value.string ⟨#[]⟩],u.oneCell'=true:=by intro u g;exact ahi
end Rl
open Rl
theorem a2O:(ah.prog.info? 28).map (λi=>(i.zero,i.size,i.bytes))=some (some (.slice none 0 0),1,24):=by kernel_rfl
theorem a2P:(ah.prog.info? 27).map (λi=>(i.zero,i.size,i.bytes))=some (some (.slice none 0 0),1,24):=by kernel_rfl
theorem VM:(ah.prog.info? 3).map (λi=>(i.zero,i.size,i.bytes))=some (some (.int .i64 0),1,8):=by kernel_rfl
theorem QB:(ah.prog.info? 9).map (λi=>(i.zero,i.size,i.bytes))=some (some (.string ⟨#[]⟩),1,16):=by kernel_rfl
theorem QC:(ah.prog.info? 80).map (λi=>(i.zero,i.size,i.bytes))=some (some (.agg #[.int .i64 0,.int .i64 0,.string ⟨#[]⟩]),3,32):=by kernel_rfl
theorem QD(w:World)(ow:Nat->Nat)(G n came:Nat)(cs:Nat->Value)(tE tT tS:List (Nat×Value))(E:Value)(l:List ByteArray)(h:fu w ow G n came cs tE tT tS)(hl:fI w ow 9 1 E l.length (mP l) 5)(hn:n<=4194304)(hll:l.length<=4194304)(hts:tT.length<=33554432):
  ai3 57 #[.pointer (some ⟨G,1,none⟩),E] w λe w'=>e=.returned (.tuple #[])/\
   ∃L I us,fu w' L G (n+1) came I tE (tT++us) tS/\us.length=4/\(∀i,i≠1->i≠12->i≠13->I i=cs i)/\Fr kT.T w ow w' L:=by
 obtain⟨av,cv,rfl⟩:=ay hl.row;obtain⟨N,hN⟩:∃N,N=n+1:=⟨_,rfl⟩
 rw[<-hN]
 have HB:=hide h;have HR:=hide hl;have cell1:=h.blk.cells 1 (by omega)
 rw[h.c1]at cell1
 have fz1:=h.blk.fz 1 (by omega);have HM:=hide (λwx=>Vb N wx);have HG1:=hide (h.blk.set (j:=1) (by omega) (.int .i64 (N:Int)));have F:=hide (DU w ow ⟨G,1,none⟩ (.int .i64 (N:Int)) (c:=1) h.blk.own);have hw:IntKind.i64.wrap ((n:Int)+1)=(N:Int):=aW
 have Ir:(n:Int)+1=(N:Int):=by omega
 have hN0:(N:Int)<=4194305:=by omega
 have hGl:=h.blk.lt;clear h hl hN;have HS:Hid (Fz N=Fz N):=rfl;generalize hs:Fz N=s at HS;have HSS:=hs
 rw[hs]at HM
 clear hs HS;go_enter anJ,ntmps57
 go_upto_block 0 with(go_at_call 26;refine(HM.out _).ai ?_;intro w2 V)
 obtain⟨d,F2,G2⟩:∃d,Fr (λi=>i=1) w ow w2 d/\yM w2 d G (nM cs 1 (.int .i64 (N:Int))):=by
  have f:=Fr.aK ow V (λ_=>False) 0
  exact⟨_,F.out.trans (f.mono (λ_ x=>x.elim)) (λ_ x=>x),HG1.out.frame f (λx=>x)⟩
 have R2:=HR.out.frame F2 (by decide);have HF2:=hide F2;have HG2:=hide G2;have HR2:=hide R2;have r2:=R2.row;clear V HG1 F HM cell1 fz1 F2 G2 R2 hw Ir
 go_cut [5] (λ_ wx=>wx.ownsRow 0 9 1 (.slice av l.length cv) l.length (kT.J2 N l.length)/\dJ (λj=>(Value.slice av l.length cv).ownBlock=some j) w2 wx)
 case first=>
  go_wp2_with fail
  go_loopw [5] (λi wr=>∃k:Nat,k<=l.length/\i=.int .i64 k/\wr.ownsRow 0 9 1 (.slice av l.length cv) l.length (wT kT N k (mP l))/\dJ (λj=>(Value.slice av l.length cv).ownBlock=some j) w2 wr) (λi _=>l.length-(intOf i).toNat)
  case atStart=>exact⟨0,afK _,rfl,by rw[NN];exact r2,dJ.refl _ _⟩
  case round=>
   obtain⟨k,R,rfl,Y,hT⟩:=hrel
   by_cases Z:k<l.length
   ·obtain⟨e,_⟩|⟨g,cap,cur,e,_⟩:=Y.2
    ·exact iJ
    ·cases e
     have Q:(wT kT N k (mP l)).length=l.length:=by have:=Y.1;omega
     have t0:=Y.cellAt k (by omega);obtain⟨x0,y0⟩:∃x,wr.cell? ⟨g,k,none⟩=some x:=⟨_,t0.trans (afP (by omega))⟩;have f0:=Y.frozenAt k;have H:=hide ((Y.stored k (.string s)).1);have HS:=hide (YX N k l Z)
     rw[HSS]at HS
     have a:=hide (hT.set (p:=⟨g,k,none⟩) (.string s) (.inl rfl));have hx:(k:Int)<(l.length:Int):=by omega
     clear t0 Y hT Q r2;go_wp2
     exact⟨⟨k+1,by omega,by go_num,by rw[<-HS.out];exact H.out,a.out⟩,aA⟩
   ·have e:k=l.length:=by omega
    subst e
    rw[QA kT N l.length (mP l) (by rw[ru];show l.length=l.length*1;omega)]at Y
    go_wp2_with fail
    go_meet
    case rel=>exact⟨Y,hT⟩
 case rest=>
  obtain⟨r3,t3⟩:=hcut;obtain⟨ow3,m3,f3,_⟩:=FB (K:=kT) (N:=N) HB.out.t (by decide) (by decide) HR2.out HF2.out HG2.out r3 t3 (bC _ _ (by decide)) (bC _ _ (by decide)) hll;have HM3:=hide m3;have HF3:=hide f3;clear r3 t3 r2 m3 f3 HR2 HF2 HG2 HR;have o:Hid (∃c,c=nM cs 1 (.int .i64 (N:Int))):=⟨_,rfl⟩;obtain⟨cs0,YZ⟩:=o
  rw[<-YZ]at HM3
  have HC:=hide YZ;clear YZ;go_wp2_with fail
  go_loopw [1,6] (λlw kw wr=>∃(j:Nat)(L:Nat->Nat)(I:Nat->Value)(us:List (Nat×Value))(E:Value),E=lw/\j<=4/\kw=.int .i64 j/\us.length=j/\gQ kT wr L G cs0 I ((tT++us).map Prod.snd) ((tT++us).map λx=>(x.1:Int)) (tT++us) N E (l.length+j)/\Fr kT.T w ow wr L) (λ_ kw _=>4-(intOf kw).toNat)
  case atStart=>exact⟨0,ow3,cs0,[],_,rfl,by omega,rfl,rfl,by rw[ah0];exact HM3.out,HF3.out⟩
  case round=>
   obtain⟨j,L,I,us,E,rfl,hj,rfl,hus,hm,hf⟩:=hrel;have u:=hide hf;have HMK:=hide hm
   by_cases Z:j<4
   ·obtain⟨i0,hi,hz0,hz1,hz2⟩:=ahC a2O
    obtain⟨TS,hTS⟩:∃TS,TS=tT++us:=⟨_,rfl⟩;obtain⟨O,hUS⟩:∃O,O=TS.map Prod.snd:=⟨_,rfl⟩;obtain⟨U,hNS⟩:∃U,U=TS.map λx=>(x.1:Int):=⟨_,rfl⟩
    obtain⟨M,hmm⟩:∃M,M=l.length+j:=⟨_,rfl⟩;have hm2:gQ kT wr L G cs0 I O U TS N E M:=by rw[hUS,hNS,hTS,hmm];exact hm
    have hul:O.length<=33554436:=by rw[hUS,hTS,ag0,afE];omega
    have hnl:U.length<=33554436:=by rw[hNS,hTS,ag0,afE];omega
    have hml:M<=4194308:=by omega
    have r:=hide hTS;have y:=hide hUS;have q:=hide hNS;have b:=hide hmm;have HUL:=hide hus;clear hTS hUS hNS hmm HMK hm hus;obtain⟨la,lc,rfl⟩:=ay hm2.list.row;obtain⟨ta,tc,et0⟩:=ay hm2.qO.row;have et:I 12=.slice ta O.length tc:=et0;clear et0;have c12:=hm2.blk.cells 12 (by omega);have hx:(j:Int)<4:=by omega
    have qO:wr.ownsRow 0 28 1 (I 12) O.length O:=hm2.qO.row
    rw[et]at c12 qO
    have HM2:=hide hm2;have HET:Hid (I kT.j=.slice ta O.length tc):=et;have hGl:=hm2.blk.lt;clear hm2 hf HB HM3 et
    go_upto_region 10 with(at_builtin;refine gL _ rfl _ _ 32 rfl 0 28 i0 (.slice none 0 0) 1 24 anS hi hz0 hz1 hz2 rfl (by decide) _ _ _ rfl (qO.alloc _) ⟨wr.heap.size,0,none⟩ 1 1 [.slice la M lc] rfl rfl (cu _ _ _) (Qc _ _ _) aB (by omega) (afK _) ?_;intro v5 w5 X z y8;obtain⟨a5,c5,rfl⟩:=ay X;obtain⟨t,g5,m5,f5⟩:=HM2.out.t ((a0n _ _).alloc (afA _) _) X (by rw[HET.out];exact z) (by rw[HET.out];exact y8);have y12:=g5.cells 12 (by omega);have z12:=g5.fz 12 (by omega))
    have m5:gQ kT (w5.setCell ⟨G,12,none⟩ (.slice a5 (O.length+1) c5)) t G cs0 (nM I 12 (.slice a5 (O.length+1) c5)) (O++[.slice la M lc]) U TS N (.slice la M lc) M:=m5;have f5:Fr (λc=>c=1\/c=7) wr L (w5.setCell ⟨G,12,none⟩ (.slice a5 (O.length+1) c5)) t:=f5;have M6:=hide m5;have F6:=hide f5;have e1:=m5.same 1 (by decide) (by decide)
    rw[HC.out,ik]at e1
    have c1:=m5.blk.cells 1 (by omega)
    rw[e1]at c1
    have hG6:=m5.blk.lt;obtain⟨na,nc,en0⟩:=ay m5.rz.row;have en:nM I 12 (.slice a5 (O.length+1) c5) 13=.slice na U.length nc:=en0;clear en0;have c13:=m5.blk.cells 13 (by omega);have rz:(w5.setCell ⟨G,12,none⟩ (.slice a5 (O.length+1) c5)).ownsRow 0 3 1 (nM I 12 (.slice a5 (O.length+1) c5) 13) U.length (ints U):=m5.rz.row
    rw[en]at c13 rz
    have HEN:Hid (nM I 12 (.slice a5 (O.length+1) c5) (kT.j+1)=.slice na U.length nc):=en;obtain⟨j0,hj,hk0,hk1,hk2⟩:=ahC VM;clear X z y8 g5 m5 f5 y12 z12 qO c12 HM2 HET e1 en hi hz0 hz1 hz2;generalize w5.setCell ⟨G,12,none⟩ (.slice a5 (O.length+1) c5)=W6 at*;generalize nM I 12 (.slice a5 (O.length+1) c5)=cs6 at*
    go_region_law (refine xX rfl _ _ 31 rfl 0 3 j0 (.int .i64 0) 1 8 akc hj hk0 hk1 hk2 rfl (by decide) _ _ _ rfl (rz.alloc _) ⟨W6.heap.size,0,none⟩ 1 1 [.int .i64 (N:Int)] rfl rfl (cu _ _ _) (a06 _) aB (by omega) (afK _) ?_;intro v7 w7 W NP NQ;obtain⟨a7,c7,rfl⟩:=ay W;obtain⟨ow7,m,m7,f7⟩:=M6.out.n ((a0n _ _).alloc (afA _) (.cells #[.int .i64 (N:Int)] 3)).drew W (by rw[HEN.out];exact NP) (by rw[HEN.out];exact NQ);have y13:=m.cells 13 (by omega);have z13:=m.fz 13 (by omega))
    all_goals
     have m7:gQ kT (w7.setCell ⟨G,13,none⟩ (.slice a7 (U.length+1) c7)) ow7 G cs0 (nM cs6 13 (.slice a7 (U.length+1) c7)) (O++[.slice la M lc]) (U++[(N:Int)]) TS N (.slice la M lc) M:=m7;have f7:Fr (λc=>c=1\/c=8) W6 t (w7.setCell ⟨G,13,none⟩ (.slice a7 (U.length+1) c7)) ow7:=f7;have M8:=hide m7;have F8:=hide f7;have OQ:(w7.setCell ⟨G,13,none⟩ (.slice a7 (U.length+1) c7)).ownsRow 0 9 1 (.slice la M lc) M (kT.J2 N M):=m7.list.row;obtain⟨s0,hp,hp0,hp1,hp2⟩:=ahC QB;clear W NP NQ m m7 f7 y13 z13 rz c13 c1 M6 HEN hj hk0 hk1 hk2;generalize w7.setCell ⟨G,13,none⟩ (.slice a7 (U.length+1) c7)=W8 at*;generalize nM cs6 13 (.slice a7 (U.length+1) c7)=cs8 at*;go_wp2_with (at_builtin;refine gL _ rfl _ _ 28 rfl 0 9 s0 (.string ⟨#[]⟩) 1 16 aiO hp hp0 hp1 hp2 rfl (by decide) _ _ _ rfl (OQ.alloc _) ⟨W8.heap.size,0,none⟩ 1 1 [.string s] rfl rfl (cu _ _ _) (a8N _) aB (by omega) (afK _) ?_;intro v9 w9 a6v Y0 Y1);have hnew:∀{v:Value},w9.ownsRow 0 9 1 v (M+1) (kT.J2 N M++[.string s])->w9.ownsRow 0 kT.el kT.size v (M+1) (kT.J2 N (M+1)):=λh=>by rw[Kd.DV,show kT.mrk N=[.string (Fz N)]from rfl,HSS];exact h
     obtain⟨ow9,A,f9⟩:=M8.out.l (by omega) ((a0n _ _).alloc (afA _) (.cells #[.string s] 9)) (hnew a6v) Y0 Y1;refine⟨⟨j+1,ow9,cs8,us++[(N,.slice la M lc)],v9,rfl,by omega,by go_num,by rw[afE,HUL.out];rfl,?_,?_⟩,aA⟩
     ·exact Cm
     ·refine((u.out.trans (F6.out.mono ?_) (λ_ x=>x)).trans (F8.out.mono ?_) (λ_ x=>x)).trans (f9.mono ?_) (λ_ x=>x)<;>(intro i hi;have ho:kT.o=4:=rfl;unfold Kd.T;omega)
   ·have e:j=4:=by omega
    subst e;clear HM3;go_wp2_with fail
    refine aqr ?_
    obtain⟨hb,J⟩:=a8O HB.out HMK.out HC.out u.out
    exact⟨rfl,L,I,us,hb,hus,J,u.out⟩
theorem SA{T:Nat->Prop}{e:World}{f d:Nat->Nat}{M:Nat}{a b c:Value}(h:Fr T w f e d)(k:¬T 0)(j:f M=0)(i:G7 w M a b c):G7 e M a b c/\d M=0:=by
 have g:=h.keep M i.lt (by grind)
 exact⟨i.same g.2 h.size,g.1.trans j⟩
theorem QE(w:World)(ow:Nat->Nat)(G n came:Nat)(cs:Nat->Value)(tE tT tS:List (Nat×Value))(E:Value)(l:List aX)(h:fu w ow G n came cs tE tT tS)(hl:fI w ow 80 3 E l.length (aJ l) 13)(hn:n<=4194304)(hll:l.length<=4194304)(hts:tE.length<=33554432):
  ai3 52 #[.pointer (some ⟨G,1,none⟩),E] w λe w'=>e=.returned (.tuple #[])/\
   ∃L I us,fu w' L G (n+1) came I (tE++us) tT tS/\us.length=4/\(∀x∈us,x.1=n+1)/\(∀i,i≠1->i≠10->i≠11->I i=cs i)/\Fr kE.T w ow w' L:=by
 obtain⟨av,cv,rfl⟩:=ay hl.row;obtain⟨N,hN⟩:∃N,N=n+1:=⟨_,rfl⟩
 rw[<-hN]
 have HB:=hide h;have HR:=hide hl;have cell1:=h.blk.cells 1 (by omega)
 rw[h.c1]at cell1
 have fz1:=h.blk.fz 1 (by omega);have HG1:=hide (h.blk.set (j:=1) (by omega) (.int .i64 (N:Int)));have F:=hide (DU w ow ⟨G,1,none⟩ (.int .i64 (N:Int)) (c:=1) h.blk.own);have hw:IntKind.i64.wrap ((n:Int)+1)=(N:Int):=aW
 have hneg:IntKind.i64.wrap (-(N:Int))= -(N:Int):=aW
 have Ir:(n:Int)+1=(N:Int):=by omega
 have hN0:(N:Int)<=4194305:=by omega
 have hGl:=h.blk.lt;clear h hl hN;go_enter anI,ntmps52
 go_upto_block 0 with fail
 have V:=(a0n _ (w.setCell ⟨G,1,none⟩ (.int .i64 (N:Int)))).alloc (afA _) (.cells #[.int .i64 (-(N:Int)),.int .i64 0,.string ⟨#[]⟩] 80);have bx:=mD (w.setCell ⟨G,1,none⟩ (.int .i64 (N:Int))) (.int .i64 (-(N:Int))) (.int .i64 0) (.string ⟨#[]⟩) 80;have hsz:(w.setCell ⟨G,1,none⟩ (.int .i64 (N:Int))).heap.size=w.heap.size:=by simp
 rw[hsz]at bx
 obtain⟨d,F2,G2,hM⟩:∃d,Fr (λi=>i=1) w ow ((w.setCell ⟨G,1,none⟩ (.int .i64 (N:Int))).alloc (.cells #[.int .i64 (-(N:Int)),.int .i64 0,.string ⟨#[]⟩] 80)) d/\yM ((w.setCell ⟨G,1,none⟩ (.int .i64 (N:Int))).alloc (.cells #[.int .i64 (-(N:Int)),.int .i64 0,.string ⟨#[]⟩] 80)) d G (nM cs 1 (.int .i64 (N:Int)))/\d w.heap.size=0:=by
  have f:=Fr.aK ow V (λ_=>False) 0
  exact⟨_,F.out.trans (f.mono (λ_ x=>x.elim)) (λ_ x=>x),HG1.out.frame f (λx=>x),by unfold ext;rw[afJ (by rw[hsz];omega)]⟩
 generalize ((w.setCell ⟨G,1,none⟩ (.int .i64 (N:Int))).alloc (.cells #[.int .i64 (-(N:Int)),.int .i64 0,.string ⟨#[]⟩] 80))=w2 at*;have R2:=HR.out.frame F2 (by decide);have hMn:∀k,(Value.slice av l.length cv).ownBlock=some k->w.heap.size≠k:=λk R e=>by have h:=R2.code k R;rw[<-e,hM]at h;cases h
 have HF2:=hide F2;have HG2:=hide G2;have HR2:=hide R2;have RY:=hide bx;have HMN:=hide hMn;have hM0:=hide hM;have r2:=R2.row;clear V HG1 F cell1 fz1 F2 G2 R2 hw Ir hneg bx hsz hMn hM
 go_cut [5] (λ_ wx=>wx.ownsRow 0 80 3 (.slice av l.length cv) l.length (kE.J2 N l.length)/\dJ (λj=>(Value.slice av l.length cv).ownBlock=some j) w2 wx)
 case first=>
  go_wp2_with fail
  go_loopw [5] (λi wr=>∃k:Nat,k<=l.length/\i=.int .i64 k/\wr.ownsRow 0 80 3 (.slice av l.length cv) l.length (wT kE N k (aJ l))/\dJ (λj=>(Value.slice av l.length cv).ownBlock=some j) w2 wr) (λi _=>l.length-(intOf i).toNat)
  case atStart=>exact⟨0,afK _,rfl,by rw[NN];exact r2,dJ.refl _ _⟩
  case round=>
   obtain⟨k,R,rfl,Y,hT⟩:=hrel
   by_cases Z:k<l.length
   ·obtain⟨m0,m1,T,_,_,_,ml⟩:=RY.out.touch hT (λe=>HMN.out _ e rfl)
    obtain⟨e,_⟩|⟨g,cap,cur,e,_⟩:=Y.2
    ·exact iJ
    ·cases e
     have Q:(wT kE N k (aJ l)).length=l.length*3:=Y.1;obtain⟨a0,t0⟩:∃x,wr.cell? ⟨g,k*3,none⟩=some x:=⟨_,(Y.cellAt (k*3) (by omega)).trans (afP (by omega))⟩;obtain⟨a1,t1⟩:∃x,wr.cell? ⟨g,k*3+1,none⟩=some x:=⟨_,(Y.cellAt (k*3+1) (by omega)).trans (afP (by omega))⟩;obtain⟨a2,t2⟩:∃x,wr.cell? ⟨g,k*3+2,none⟩=some x:=⟨_,(Y.cellAt (k*3+2) (by omega)).trans (afP (by omega))⟩;have f0:=Y.frozenAt (k*3);have f1:=Y.frozenAt (k*3+1);have f2:=Y.frozenAt (k*3+2);have H:=a9b Y k (.int .i64 (-(N:Int))) (.int .i64 0) (.string ⟨#[]⟩);have HS:=hide (YY N k l Z);have a:=hide (((hT.set (p:=⟨g,k*3,none⟩) (.int .i64 (-(N:Int))) (.inl rfl)).set (p:=⟨g,k*3+1,none⟩) (.int .i64 0) (.inl rfl)).set (p:=⟨g,k*3+2,none⟩) (.string ⟨#[]⟩) (.inl rfl));have hx:(k:Int)<(l.length:Int):=by omega
     clear Y hT Q r2;go_wp2
     exact⟨⟨k+1,by omega,by go_num,by rw[<-HS.out];exact H,a.out⟩,aA⟩
   ·have e:k=l.length:=by omega
    subst e
    rw[QA kE N l.length (aJ l) (by rw[lX];rfl)]at Y
    go_wp2_with fail
    go_meet
    case rel=>exact⟨Y,hT⟩
 case rest=>
  obtain⟨r3,t3⟩:=hcut;obtain⟨ow3,m3,f3,f3b⟩:=FB (K:=kE) (N:=N) HB.out.e (by decide) (by decide) HR2.out HF2.out HG2.out r3 t3 (bC _ _ (by decide)) (bC _ _ (by decide)) hll;have HX3:=hide (SA f3b (by decide) hM0.out RY.out);have HM3:=hide m3;have HF3:=hide f3;clear r3 t3 r2 m3 f3 f3b RY hM0 HMN HR2 HF2 HG2 HR;have o:Hid (∃c,c=nM cs 1 (.int .i64 (N:Int))):=⟨_,rfl⟩;obtain⟨cs0,YZ⟩:=o
  rw[<-YZ]at HM3
  have HC:=hide YZ;clear YZ;go_wp2_with fail
  go_loopw [1,6] (λlw kw wr=>∃(j:Nat)(L:Nat->Nat)(I:Nat->Value)(us:List (Nat×Value))(E:Value),E=lw/\j<=4/\kw=.int .i64 j/\us.length=j/\gQ kE wr L G cs0 I ((tE++us).map Prod.snd) ((tE++us).map λx=>(x.1:Int)) (tE++us) N E (l.length+j)/\Fr kE.T w ow wr L/\Hid (G7 wr w.heap.size (.int .i64 (-(N:Int))) (.int .i64 0) (.string ⟨#[]⟩)/\L w.heap.size=0)/\Hid (∀x∈us,x.1=N)) (λ_ kw _=>4-(intOf kw).toNat)
  case atStart=>exact⟨0,ow3,cs0,[],_,rfl,by omega,rfl,rfl,by rw[ah0];exact HM3.out,HF3.out,HX3,hide (λx hx=>by cases hx)⟩
  case round=>
   obtain⟨j,L,I,us,E,rfl,hj,rfl,hus,hm,hf,hxb,hun⟩:=hrel;have u:=hide hf;have HMK:=hide hm
   by_cases Z:j<4
   ·obtain⟨i0,hi,hz0,hz1,hz2⟩:=ahC a2P
    obtain⟨TS,hTS⟩:∃TS,TS=tE++us:=⟨_,rfl⟩;obtain⟨U,hUS⟩:∃U,U=TS.map Prod.snd:=⟨_,rfl⟩;obtain⟨W,hNS⟩:∃W,W=TS.map λx=>(x.1:Int):=⟨_,rfl⟩
    obtain⟨M,hmm⟩:∃M,M=l.length+j:=⟨_,rfl⟩;have hm2:gQ kE wr L G cs0 I U W TS N E M:=by rw[hUS,hNS,hTS,hmm];exact hm
    have hul:U.length<=33554436:=by rw[hUS,hTS,ag0,afE];omega
    have hnl:W.length<=33554436:=by rw[hNS,hTS,ag0,afE];omega
    have hml:M<=4194308:=by omega
    have r:=hide hTS;have y:=hide hUS;have q:=hide hNS;have b:=hide hmm;have HUL:=hide hus;clear hTS hUS hNS hmm HMK hm hus;obtain⟨la,lc,rfl⟩:=ay hm2.list.row;obtain⟨ta,tc,et0⟩:=ay hm2.qO.row;have et:I 10=.slice ta U.length tc:=et0;clear et0;have c10:=hm2.blk.cells 10 (by omega);have hx:(j:Int)<4:=by omega
    have qO:wr.ownsRow 0 27 1 (I 10) U.length U:=hm2.qO.row
    rw[et]at c10 qO
    have HM2:=hide hm2;have HET:Hid (I kE.j=.slice ta U.length tc):=et;have hGl:=hm2.blk.lt;clear hm2 hf HB HM3 et
    go_upto_region 10 with(at_builtin;refine gL _ rfl _ _ 30 rfl 0 27 i0 (.slice none 0 0) 1 24 anR hi hz0 hz1 hz2 rfl (by decide) _ _ _ rfl (qO.alloc _) ⟨wr.heap.size,0,none⟩ 1 1 [.slice la M lc] rfl rfl (cu _ _ _) (Qc _ _ _) aB (by omega) (afK _) ?_;intro v5 w5 X z y8;obtain⟨a5,c5,rfl⟩:=ay X;obtain⟨t,g5,m5,f5⟩:=HM2.out.t ((a0n _ _).alloc (afA _) _) X (by rw[HET.out];exact z) (by rw[HET.out];exact y8);have y10:=g5.cells 10 (by omega);have z10:=g5.fz 10 (by omega))
    have m5:gQ kE (w5.setCell ⟨G,10,none⟩ (.slice a5 (U.length+1) c5)) t G cs0 (nM I 10 (.slice a5 (U.length+1) c5)) (U++[.slice la M lc]) W TS N (.slice la M lc) M:=m5;have f5:Fr (λc=>c=1\/c=15) wr L (w5.setCell ⟨G,10,none⟩ (.slice a5 (U.length+1) c5)) t:=f5;have hx6:=hide (SA f5 (by decide) hxb.out.2 hxb.out.1);have M6:=hide m5;have F6:=hide f5;have e1:=m5.same 1 (by decide) (by decide)
    rw[HC.out,ik]at e1
    have c1:=m5.blk.cells 1 (by omega)
    rw[e1]at c1
    have hG6:=m5.blk.lt;obtain⟨na,nc,en0⟩:=ay m5.rz.row;have en:nM I 10 (.slice a5 (U.length+1) c5) 11=.slice na W.length nc:=en0;clear en0;have c11:=m5.blk.cells 11 (by omega);have rz:(w5.setCell ⟨G,10,none⟩ (.slice a5 (U.length+1) c5)).ownsRow 0 3 1 (nM I 10 (.slice a5 (U.length+1) c5) 11) W.length (ints W):=m5.rz.row
    rw[en]at c11 rz
    have HEN:Hid (nM I 10 (.slice a5 (U.length+1) c5) (kE.j+1)=.slice na W.length nc):=en;obtain⟨j0,hj,hk0,hk1,hk2⟩:=ahC VM;clear X z y8 g5 m5 f5 y10 z10 qO c10 HM2 HET e1 en hi hz0 hz1 hz2;generalize w5.setCell ⟨G,10,none⟩ (.slice a5 (U.length+1) c5)=W6 at*;generalize nM I 10 (.slice a5 (U.length+1) c5)=cs6 at*
    go_region_law (refine xX rfl _ _ 31 rfl 0 3 j0 (.int .i64 0) 1 8 akc hj hk0 hk1 hk2 rfl (by decide) _ _ _ rfl (rz.alloc _) ⟨W6.heap.size,0,none⟩ 1 1 [.int .i64 (N:Int)] rfl rfl (cu _ _ _) (a06 _) aB (by omega) (afK _) ?_;intro v7 w7 Iu NP NQ;obtain⟨a7,c7,rfl⟩:=ay Iu;obtain⟨ow7,m,m7,f7⟩:=M6.out.n ((a0n _ _).alloc (afA _) (.cells #[.int .i64 (N:Int)] 3)).drew Iu (by rw[HEN.out];exact NP) (by rw[HEN.out];exact NQ);have y11:=m.cells 11 (by omega);have z11:=m.fz 11 (by omega))
    all_goals
     have m7:gQ kE (w7.setCell ⟨G,11,none⟩ (.slice a7 (W.length+1) c7)) ow7 G cs0 (nM cs6 11 (.slice a7 (W.length+1) c7)) (U++[.slice la M lc]) (W++[(N:Int)]) TS N (.slice la M lc) M:=m7;have f7:Fr (λc=>c=1\/c=16) W6 t (w7.setCell ⟨G,11,none⟩ (.slice a7 (W.length+1) c7)) ow7:=f7;have hx8:=hide (SA f7 (by decide) hx6.out.2 hx6.out.1);obtain⟨O,b1,b2,_,_,_,bl⟩:=hx8.out.1;have M8:=hide m7;have F8:=hide f7;have OQ:(w7.setCell ⟨G,11,none⟩ (.slice a7 (W.length+1) c7)).ownsRow 0 80 3 (.slice la M lc) M (kE.J2 N M):=m7.list.row;obtain⟨s0,hp,hp0,hp1,hp2⟩:=ahC QC;clear Iu NP NQ m m7 f7 y11 z11 rz c11 c1 M6 HEN hj hk0 hk1 hk2;generalize w7.setCell ⟨G,11,none⟩ (.slice a7 (W.length+1) c7)=W8 at*;generalize nM cs6 11 (.slice a7 (W.length+1) c7)=cs8 at*;go_wp2_with (at_builtin;refine gL _ rfl _ _ 27 rfl 0 80 s0 (.agg #[.int .i64 0,.int .i64 0,.string ⟨#[]⟩]) 3 32 aiN hp hp0 hp1 hp2 rfl (by decide) _ _ _ rfl (OQ.alloc _) ⟨W8.heap.size,0,none⟩ 1 1 [.int .i64 (-(N:Int)),.int .i64 0,.string ⟨#[]⟩] rfl rfl (cu _ _ _) (a6u N) aB (by omega) (afK _) ?_;intro v9 w9 a6v Y0 Y1);have hnew:∀{v:Value},w9.ownsRow 0 80 3 v (M+1) (kE.J2 N M++[.int .i64 (-(N:Int)),.int .i64 0,.string ⟨#[]⟩])->w9.ownsRow 0 kE.el kE.size v (M+1) (kE.J2 N (M+1)):=λh=>by rw[Kd.DV];exact h
     obtain⟨ow9,A,f9⟩:=M8.out.l (by omega) ((a0n _ _).alloc (afA _) (.cells #[.int .i64 (-(N:Int)),.int .i64 0,.string ⟨#[]⟩] 80)) (hnew a6v) Y0 Y1;refine⟨⟨j+1,ow9,cs8,us++[(N,.slice la M lc)],v9,rfl,by omega,by go_num,by rw[afE,HUL.out];rfl,?_,?_,hide (SA f9 (by decide) hx8.out.2 hx8.out.1),hide (λx hx=>by obtain hx|hx:=agz.1 hx;exact hun.out x hx;rw[agp]at hx;rw[hx])⟩,aA⟩
     ·exact Cm
     ·refine((u.out.trans (F6.out.mono ?_) (λ_ x=>x)).trans (F8.out.mono ?_) (λ_ x=>x)).trans (f9.mono ?_) (λ_ x=>x)<;>(intro i hi;have ho:kE.o=12:=rfl;unfold Kd.T;omega)
   ·have e:j=4:=by omega
    subst e;clear HM3;go_wp2_with fail
    refine aqr ?_
    obtain⟨hb,J⟩:=a8P HB.out HMK.out HC.out u.out
    exact⟨rfl,L,I,us,hb,hus,hun.out,J,u.out⟩
namespace Rl
theorem NR{wc a b:World}{p q:Addr}{u v:Value}(f:p.block<wc.heap.size)(e:q.block<wc.heap.size)(h:a.cell? p=some u/\a.cell? q=some v/\ah' wc a)(d:ah' a b):
  b.cell? p=some u/\b.cell? q=some v/\ah' wc b:=by
 obtain⟨i,g,c⟩:=h
 exact⟨(d.cell (p:=p) (afB f c.size)).trans i,(d.cell (p:=q) (afB e c.size)).trans g,af c d c.size⟩
theorem a6w(l:List ByteArray):∀u∈mP l,u.oneCell'=true:=by intro u c;exact uf
theorem OT(l:List aX):∀u∈aJ l,u.oneCell'=true:=by intro u a;obtain⟨s,_,h⟩:=List.mem_flatMap.1 a;simp only[agk,ags,or_false]at h;obtain rfl|rfl|rfl:=h<;>rfl
section
variable{w:World}{I:Nat->Nat}{G n A:Nat}{J:Nat->Value}{U L O:List (Nat×Value)}
theorem fu.store{b:Nat}(h:fu w I G n A J U L O){j:Nat}(v:Value)(e:nM J j v 2=.int .i64 (b:Int))(d:nM J j v 3=.bool false)(f:j<10)(g:j≠1):
  fu (w.setCell ⟨G,j,none⟩ v) I G n b (nM J j v) U L O/\Fr (λi=>i=1) w I (w.setCell ⟨G,j,none⟩ v) I:=by
 have a:=DU w I ⟨G,j,none⟩ v (c:=1) h.blk.own;refine⟨⟨h.blk.set (by omega) v,?_,e,d,?_,?_,?_⟩,a⟩
 ·rw[bC _ _ (by omega)];exact h.c1
 ·exact h.e.frame a (by decide) (by decide) (by decide) (bC _ _ (by show(10:Nat)≠j;omega)) (bC _ _ (by show(11:Nat)≠j;omega))
 ·exact h.t.frame a (by decide) (by decide) (by decide) (bC _ _ (by show(12:Nat)≠j;omega)) (bC _ _ (by show(13:Nat)≠j;omega))
 ·exact h.s.frame a (by decide) (by decide) (by decide) (bC _ _ (by show(14:Nat)≠j;omega)) (bC _ _ (by show(15:Nat)≠j;omega))
theorem fu.put(h:fu w I G n A J U L O){j:Nat}(v:Value)(a:j=0\/(4<=j/\j<=9)):
  fu (w.setCell ⟨G,j,none⟩ v) I G n A (nM J j v) U L O/\Fr (λi=>i=1) w I (w.setCell ⟨G,j,none⟩ v) I:=
 h.store v (by rw[bC _ _ (by omega)];exact h.c2) (by rw[bC _ _ (by omega)];exact h.c3) (by omega) (by omega)
theorem fu.fine(h:fu w I G n A J U L O):
  fu (w.setCell ⟨G,3,none⟩ (.bool false)) I G n A (nM J 3 (.bool false)) U L O/\Fr (λi=>i=1) w I (w.setCell ⟨G,3,none⟩ (.bool false)) I:=
 h.store _ (by rw[bC _ _ (by omega)];exact h.c2) (ik _ _ _) (by omega) (by omega)
theorem fu.comes(h:fu w I G n A J U L O)(c:Nat):
  fu (w.setCell ⟨G,2,none⟩ (.int .i64 (c:Int))) I G n c (nM J 2 (.int .i64 (c:Int))) U L O/\Fr (λi=>i=1) w I (w.setCell ⟨G,2,none⟩ (.int .i64 (c:Int))) I:=
 h.store _ (ik _ _ _) (by rw[bC _ _ (by omega)];exact h.c3) (by omega) (by omega)
theorem NT(h:fu w I G n A J U L O)(a b C:Nat)(d:(a=4/\b=5)\/(a=6/\b=7)\/(a=8/\b=9)):
  ∃c,fu ((((w.setCell ⟨G,3,none⟩ (.bool false)).setCell ⟨G,a,none⟩ (.slice none 0 0)).setCell ⟨G,b,none⟩ (.slice none 0 0)).setCell ⟨G,2,none⟩ (.int .i64 (C:Int))) I G n C c U L O/\
   Fr (λi=>i=1) w I ((((w.setCell ⟨G,3,none⟩ (.bool false)).setCell ⟨G,a,none⟩ (.slice none 0 0)).setCell ⟨G,b,none⟩ (.slice none 0 0)).setCell ⟨G,2,none⟩ (.int .i64 (C:Int))) I/\(∀i,i≠2->i≠3->i≠a->i≠b->c i=J i)/\c a=.slice none 0 0/\c b=.slice none 0 0:=by
 obtain⟨k,p⟩:=h.fine;obtain⟨g,o⟩:=k.put (j:=a) (.slice none 0 0) (by omega);obtain⟨f,m⟩:=g.put (j:=b) (.slice none 0 0) (by omega);obtain⟨e,l⟩:=f.comes C;refine⟨_,e,((p.trans o (λ_ x=>x)).trans m (λ_ x=>x)).trans l (λ_ x=>x),λi s i3 r q=> ?_,?_,?_⟩
 ·grind[bC]
 ·grind[bC,ik]
 grind[bC,ik]
theorem NU(h:fu w I G n A J U L O){e:TypeId}{d:Nat}{l k:Value}{m:Nat}{q:List Value}(a b o:Nat)(C:(a=4/\b=5/\o=12)\/(a=6/\b=7/\o=4)\/(a=8/\b=9/\o=17))(B:fI w I e d l m q 9)(z:fI w I e d k m q 10):
  ∃f g,fu ((w.setCell ⟨G,a,none⟩ l).setCell ⟨G,b,none⟩ k) f G n A g U L O/\fI ((w.setCell ⟨G,a,none⟩ l).setCell ⟨G,b,none⟩ k) f e d (g a) m q (o+1)/\fI ((w.setCell ⟨G,a,none⟩ l).setCell ⟨G,b,none⟩ k) f e d (g b) m q (o+2)/\(∀i,i≠a->i≠b->g i=J i)/\
   Fr (λc=>c=1\/c=9\/c=10) w I ((w.setCell ⟨G,a,none⟩ l).setCell ⟨G,b,none⟩ k) f:=by
 obtain⟨E,H⟩:=h.put (j:=a) l (by omega);obtain⟨D,F⟩:=E.put (j:=b) k (by omega);have p:=H.trans F (λ_ x=>x);have u:=B.frame p (by omega);have t:=z.frame p (by omega);have s:=Fr.mo (λc=>c=9) ((w.setCell ⟨G,a,none⟩ l).setCell ⟨G,b,none⟩ k) I 9 (o+1) rfl;have r:=Fr.mo (λc=>c=10) ((w.setCell ⟨G,a,none⟩ l).setCell ⟨G,b,none⟩ k) (mo I 9 (o+1)) 10 (o+2) rfl;have M:=(u.mo (o+1)).frame r (by omega);have K:=(t.frame s (by omega)).mo (o+2);refine⟨_,_,(D.frame s (by grind[BkC])).frame r (by grind[BkC]),?_,?_,λi y v=>by rw[bC _ _ v,bC _ _ y],(p.mono (λ_ x=>.inl x)).trans ((s.mono (λ_ x=>.inr (.inl x))).trans (r.mono (λ_ x=>.inr (.inr x))) (λ_ x=>x)) (λ_ x=>x)⟩
 ·grind[bC,ik]
 grind[ik]
end
end Rl
open Rl
theorem EN(l:List aX)(a0 a1:Option Addr)(c0 c1:Nat)(w:World)(hl:l.length<=1073741824)(I:bz w (.slice a0 l.length c0) l.length 3 (aJ l))(F:bz w (.slice a1 l.length c1) l.length 3 (aJ l)):
  ai9 15 #[.slice a0 l.length c0,.slice a1 l.length c1] w (.bool true):=by
 by_cases J:l.length=0
 ·have e0:l=[]:=afT J
  subst e0;go_enter alg,ntmps15;go_wp2;refine ahF 1 ?_
  rw[ahG]
  go_wp2;go_ret
  exact aN
 ·obtain⟨x,y,N,hn⟩|⟨b,o,W,N,hn,u,M⟩:=I.2
  ·omega
  ·obtain⟨x,y,E,L⟩|⟨b2,j,Q,E,L,d,G⟩:=F.2
   ·omega
   ·clear I F
    cases N;cases E;have U:((l.length:Int) != (l.length:Int))=false:=by simp
    go_enter alg,ntmps15;go_wp2
    go_loopw [5] (λi wr=>∃k:Nat,k<=l.length/\i=.int .i64 k/\ah' w wr) (λi _=>l.length-(intOf i).toNat)
    case atStart=>exact⟨0,afK _,rfl,a0n _ _⟩
    case round=>
     obtain⟨k,R,rfl,D⟩:=hrel
     by_cases Z:k<l.length
     ·obtain⟨g1,g2,g3⟩:=qE l k Z
      have q1:=(D.cell (p:=⟨b,o+k*3,none⟩) u).trans (M _ _ g1);have q2:=(D.cell (p:=⟨b,o+k*3+1,none⟩) u).trans (M _ _ g2);have q3:=(D.cell (p:=⟨b,o+k*3+2,none⟩) u).trans (M _ _ g3);have r1:=(D.cell (p:=⟨b2,j+k*3,none⟩) d).trans (G _ _ g1);have r2:=(D.cell (p:=⟨b2,j+k*3+1,none⟩) d).trans (G _ _ g2);have r3:=(D.cell (p:=⟨b2,j+k*3+2,none⟩) d).trans (G _ _ g3);generalize l[k].addr=p at*;generalize l[k].len=q at*;generalize l[k].attrs=t at*;have O:(k:Int)<(l.length:Int):=by omega
      have V:(0:Int)<=(k:Int):=by omega
      go_wp2
      go_quiet (fail)
      go_wp2
      exact⟨⟨k+1,by omega,by go_num,ahH D _⟩,aA⟩
     ·clear M G
      go_wp2;go_ret
      exact⟨rfl,D⟩
end Go.Proofs.Zq
