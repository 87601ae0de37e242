import Derived.Test.YtkdjjnkpfpogkaaGreatDoorK37
set_option maxHeartbeats 8000000
set_option linter.all false
set_option maxRecDepth 20000
namespace Go
def Cn{P:Prop}(h:P:=by
 go_meet
 case rel=>exact⟨_,fI.fresh ow (by rw[agj,List.nil_append]at X;exact X) 10,Fr.aK ow ((a0n _ _).grown z (afA _) (λk R=>by cases R)) _ 10⟩):P:=h
def Cq{P:Prop}(h:P:=by
 have e0:l=[]:=afT J
 subst e0;cases e;go_wp2_with fail
 go_meet
 case rel=>exact⟨ow,fI.nil _ _ _ _ _,Fr.refl _ _ _⟩):P:=h
end Go
namespace Go.Proofs.Zq
open Tryz
open Go.RowKit
open Rl
variable{i a b:Nat}{xv dv:Value}
theorem a6x(w:World)(ow:Nat->Nat)(G n N:Nat)(cs:Nat->Value)(tE tT tS:List (Nat×Value))(K:List ByteArray)(E:Value)(l:List ByteArray)(hB:fu w ow G n N cs tE tT tS)(y:fI w ow 9 1 (cs 6) K.length (mP K) 5)(hW:fI w ow 9 1 (cs 7) K.length (mP K) 6)(hl:fI w ow 9 1 E l.length (mP l) 9)(hKl:K.length<=4194304)(hll:l.length<=4194304)(hn:n<=4194300)(M:N<=4194300)(hts:tT.length<=33554400):
  ai3 20 #[.pointer (some ⟨G,1,none⟩),E] w λe w'=>e=.returned (.tuple #[])/\
   ∃R Z n' us K',fu w' R G n' (N+1) Z tE (tT++us) tS/\fI w' R 9 1 (Z 6) (List.length K') (mP K') 5/\fI w' R 9 1 (Z 7) K'.length (mP K') 6/\n'<=n+2/\us.length<=8/\K'.length<=4194304/\
    (∀i,i≠1->i≠2->i≠3->i≠6->i≠7->i≠12->i≠13->Z i=cs i)/\Fr (λc=>c=1\/(4<=c/\c<=8)\/c=9\/c=10) w ow w' R:=by
 obtain⟨i0,hi,hz0,hz1,hz2⟩:=ahC QB;obtain⟨la,lc,rfl⟩:=ay hl.row;have HB:=hide hB;have HK:=hide y;have HW:=hide hW;have HR:=hide hl;clear hB y hW;go_enter anC,ntmps20
 go_upto_region 1 with fail
 go_cut [4] (λwv Q=>∃qL,fI Q qL 9 1 wv l.length (mP l) 10/\Fr (λc=>c=10) w ow Q qL)
 case first=>
  obtain⟨e,J⟩|⟨g,cap,cur,e,_⟩:=hl.row.2
  ·exact Cq
  ·cases e
   have OQ:=λj u hj=>hl.row.cells (g:=g) rfl j u hj
   clear hl;go_wp2_with (at_builtin;refine af4 _ rfl _ _ 28 rfl w.heap.size 9 i0 (.string ⟨#[]⟩) 1 16 aiO hi hz0 hz1 hz2 rfl (by decide) _ _ _ rfl (a9X _ _ _ _) ⟨g,0,none⟩ l.length lc (mP l) rfl (by rw[ru,agV]) OQ (a6w l) aB (by omega) (afA _) ?_;intro v5 w5 X z _)
   exact Cn
 case rest=>
  obtain⟨qL,hw1,f1⟩:=hcut;obtain⟨wa,wb,rfl⟩:=ay hw1.row;have d:=HB.out.frame f1 (by intro c M hx;exact lY);have K1:=HK.out.frame f1 (by decide);have s:=HW.out.frame f1 (by decide);have R1:=HR.out.frame f1 (by decide);obtain⟨ka,kc,ek⟩:=ay K1.row;obtain⟨va,vc,ev⟩:=ay s.row;have c6:=d.blk.cells 6 (by omega);have c7:=d.blk.cells 7 (by omega)
  rw[ek]at c6 K1
  rw[ev]at c7 s
  have hG:=d.blk.lt;have HB1:=hide d;have HK1:=hide K1;have HR1:=hide R1;have HW1:=hide hw1;have F:=hide f1;have HEK:=hide ek;have HEV:=hide ev;have HS1:=hide (λQ(hb:ah' wc Q)=>Ez _ _ K Q (by omega) ((aM K1.row).later hb) ((aM s.row).later hb));clear d K1 s R1 hw1 f1 ek ev HB HK HW HR hl;go_wp2_with fail
  go_region_held (λw'=>w'.cell? ⟨G,6,none⟩=some (.slice ka K.length kc)/\w'.cell? ⟨G,7,none⟩=some (.slice va K.length vc)/\ah' wc w') (first|assumption|(exact⟨c6,c7,(a0n _ _).drew⟩)|(exact NR hG hG (by assumption) (by assumption))) (first|(go_at_call 19;refine(HS1.out _ uG).ai ?_;intro L q))
  rename_i D;have f3:=Fr.aK qL D.2.2 (λ_=>False) 0;obtain⟨ow3,ahw⟩:∃ow3,ow3=ext wc qL 0:=⟨_,rfl⟩
  rw[<-ahw]at f3
  have B3:=HB1.out.frame f3 (λ_ _ x=>x);have K3:=HK1.out.frame f3 (λx=>x);have R3:=HR1.out.frame f3 (λx=>x);have W3:=HW1.out.frame f3 (λx=>x);have F3:=F.out.trans (f3.mono (λ_ x=>x.elim)) (λ_ x=>x);have y6:L.cell? ⟨G,6,none⟩=some (.slice ka K.length kc):=D.1;have ab9:l.length<=1073741824:=by omega
  have HMT:=hide (λQ(e:Q=L)=>e▸QD L ow3 G n N cs tE tT tS _ K B3 K3 (by omega) hKl (by omega));have HR3:=hide R3;have HW3:=hide W3;have HF3:=hide F3;have HB3:=hide B3;clear f3 ahw B3 K3 R3 W3 F3 D q c6 c7 HB1 HK1 HR1 HW1 F HS1
  go_upto_region 5 with(first
   |(go_at_call 57;refine(HMT.out _ rfl).ai ?_;rintro w4 ⟨U,f,us,B4,Y,h40,F4⟩;have R4:=HR3.out.frame F4 (by have ho:kT.o=4:=rfl;unfold Kd.T;omega);have W4:=HW3.out.frame F4 (by have ho:kT.o=4:=rfl;unfold Kd.T;omega))
   |(go_at_call 19;refine(Ez _ _ l w4 ab9 (aM R4.row) (aM W4.row)).ai ?_;intro w5 W;have f5:=Fr.aK U W (λ_=>False) 0;have O:=B4.frame f5 (λ_ _ x=>x);have R5:=R4.frame f5 (λx=>x);have W5:=W4.frame f5 (λx=>x);have H:=O.blk.cells 2 (by omega);have z3:=O.blk.cells 3 (by omega);have z6:=O.blk.cells 6 (by omega);have z7:=O.blk.cells 7 (by omega);rw[O.c2]at H;rw[O.c3]at z3;have x2:=O.blk.fz 2 (by omega);have x3:=O.blk.fz 3 (by omega);have x6:=O.blk.fz 6 (by omega);have x7:=O.blk.fz 7 (by omega)))
  obtain⟨C,hC⟩:∃C,C=N+1:=⟨_,rfl⟩;have Ir:(N:Int)+1=(C:Int):=by omega
  have hwr:IntKind.i64.wrap ((N:Int)+1)=(C:Int):=aW
  have I:Fr (λc=>c=1\/(4<=c/\c<=8)\/c=9\/c=10) w ow w5 (ext w4 U 0):=(HF3.out.mono (λc(x:c=10)=>by omega)).trans ((F4.mono (λc x=>(by have ho:kT.o=4:=rfl;unfold Kd.T at x;omega:c=1\/(4<=c/\c<=8)\/c=9\/c=10))).trans (f5.mono (λ_ x=>x.elim)) (λ_ x=>x)) (λ_ x=>x);have ar1:=h40;have HC:=hide hC;generalize ext w4 U 0=t at*;obtain⟨cs9,B9,f9,e0,e6,e7⟩:=NT O 6 7 C (by omega);have R9:=R5.frame f9 (by omega);have W9:=W5.frame f9 (by omega);have F9:=I.trans (f9.mono (λc(x:c=1)=>(Or.inl x:c=1\/(4<=c/\c<=8)\/c=9\/c=10))) (λ_ x=>x);have HB9:=hide B9;have HR9:=hide R9;have HW9:=hide W9;have HF9:=hide F9;have HE0:=hide e0;have HUL:=hide Y;have i6:=B9.blk.cells 6 (by omega);have i7:=B9.blk.cells 7 (by omega);have j6:=B9.blk.fz 6 (by omega);have j7:=B9.blk.fz 7 (by omega);clear B9 R9 W9 F9 f9 I f5 F4 B4 R4 W4 R5 W5 O W HMT HR3 HW3 HF3 HB3 y6 h40 Y hi hz0 hz1 hz2 e0 hC
  by_cases aeu:C%2=0
  ·have he:(((C:Int)%2)==0)=true:=by rw[agx];omega
   have he2:(C:Int)%2=0:=by omega
   go_upto_region 10 with fail
   clear he he2 Ir hwr H z3 z6 z7 x2 x3 x6 x7 i6 i7 j6 j7;generalize (((w5.setCell ⟨G,3,none⟩ (.bool false)).setCell ⟨G,6,none⟩ (.slice none 0 0)).setCell ⟨G,7,none⟩ (.slice none 0 0)).setCell ⟨G,2,none⟩ (.int .i64 (C:Int))=W9 at*;have r10:=Fr.mo (λc=>c=9) W9 t 9 5 rfl;have B10:=HB9.out.frame r10 (by intro c M hx;exact lY);have R10:=HR9.out.mo 5;have aba:=hide (λQ(e:Q=W9)=>e▸QD W9 _ G (n+1) C cs9 tE (tT++us) tS _ l B10 R10 (by omega) hll (by rw[afE];have:=HUL.out;omega));have abb:=hide r10;clear r10 B10 R10;go_wp2_with (go_at_call 57;refine(aba.out _ rfl).ai ?_;rintro w11 ⟨abd,abe,us2,B11,aev,h11,F11⟩)
   refine aqr ?_
   have Y:=HUL.out;refine⟨rfl,abd,abe,n+1+1,us++us2,[],by rw[<-HC.out,<-List.append_assoc];exact B11,?_,?_,by omega,pE,by simp,?_,(HF9.out.mono ?_).trans ((abb.out.mono ?_).trans (F11.mono ?_) (λ_ x=>x)) (λ_ x=>x)⟩
   ·rw[h11 _ (by omega) (by omega) (by omega),e6];exact jL
   ·rw[h11 _ (by omega) (by omega) (by omega),e7];exact jL
   ·intro i i1 i2 i3 ia ib ij V
    rw[h11 _ i1 ij V,HE0.out _ i2 i3 ia ib,ar1 _ i1 ij V]
   ·intro i hi;exact hi
   ·intro i hi;omega
   ·intro i hi;have ho:kT.o=4:=rfl;unfold Kd.T at hi;omega
  ·have he:(((C:Int)%2)==0)=false:=by rw[afW];omega
   have he2:¬(C:Int)%2=0:=by omega
   go_wp2_with fail;obtain⟨abf,abg,B12,K12,W12,e12,F12⟩:=NU HB9.out 6 7 4 (by omega) HR9.out HW9.out;refine ahD (ahA rfl _ _ _) rfl ?_;have Y:=HUL.out;refine⟨rfl,abf,abg,n+1,us,l,by rw[<-HC.out];exact B12,K12,W12,by omega,by omega,hll,?_,(HF9.out.mono ?_).trans (F12.mono ?_) (λ_ x=>x)⟩
   ·intro i i1 i2 i3 ia ib ij V
    rw[e12 _ ia ib,HE0.out _ i2 i3 ia ib,ar1 _ i1 ij V]
   ·intro i hi;exact hi
   ·intro i hi;omega
theorem Y2(w:World)(ow:Nat->Nat)(G n N:Nat)(cs:Nat->Value)(tE tT tS:List (Nat×Value))(K:List aX)(E:Value)(l:List aX)(hB:fu w ow G n N cs tE tT tS)(y:fI w ow 80 3 (cs 4) K.length (aJ K) 13)(hW:fI w ow 80 3 (cs 5) K.length (aJ K) 14)(hl:fI w ow 80 3 E l.length (aJ l) 9)(hKl:K.length<=4194304)(hll:l.length<=4194304)(hn:n<=4194300)(M:N<=4194300)(hts:tE.length<=33554400):
  ai3 16 #[.pointer (some ⟨G,1,none⟩),E] w λe w'=>e=.returned (.tuple #[])/\
   ∃R Z n' us K',fu w' R G n' (N+1) Z (tE++us) tT tS/\fI w' R 80 3 (Z 4) (List.length K') (aJ K') 13/\fI w' R 80 3 (Z 5) K'.length (aJ K') 14/\n'<=n+2/\us.length<=8/\(∀x∈us,x.1<=n+2)/\K'.length<=4194304/\
    (∀i,i≠1->i≠2->i≠3->i≠4->i≠5->i≠10->i≠11->Z i=cs i)/\Fr (λc=>c=1\/(12<=c/\c<=16)\/c=9\/c=10) w ow w' R:=by
 obtain⟨i0,hi,hz0,hz1,hz2⟩:=ahC QC;obtain⟨la,lc,rfl⟩:=ay hl.row;have HB:=hide hB;have HK:=hide y;have HW:=hide hW;have HR:=hide hl;clear hB y hW;go_enter anB,ntmps16
 go_upto_region 1 with fail
 go_cut [4] (λwv Q=>∃qL,fI Q qL 80 3 wv l.length (aJ l) 10/\Fr (λc=>c=10) w ow Q qL)
 case first=>
  obtain⟨e,J⟩|⟨g,cap,cur,e,_⟩:=hl.row.2
  ·exact Cq
  ·cases e
   have OQ:=λj u hj=>hl.row.cells (g:=g) rfl j u hj
   clear hl;go_wp2_with (at_builtin;refine af4 _ rfl _ _ 27 rfl w.heap.size 80 i0 (.agg #[.int .i64 0,.int .i64 0,.string ⟨#[]⟩]) 3 32 aiN hi hz0 hz1 hz2 rfl (by decide) _ _ _ rfl (a9X _ _ _ _) ⟨g,0,none⟩ l.length lc (aJ l) rfl (by rw[lX]) OQ (OT l) aB (by omega) (afA _) ?_;intro v5 w5 X z _)
   exact Cn
 case rest=>
  obtain⟨qL,hw1,f1⟩:=hcut;obtain⟨wa,wb,rfl⟩:=ay hw1.row;have d:=HB.out.frame f1 (by intro c M hx;exact lY);have K1:=HK.out.frame f1 (by decide);have s:=HW.out.frame f1 (by decide);have R1:=HR.out.frame f1 (by decide);obtain⟨ka,kc,ek⟩:=ay K1.row;obtain⟨va,vc,ev⟩:=ay s.row;have c6:=d.blk.cells 4 (by omega);have c7:=d.blk.cells 5 (by omega)
  rw[ek]at c6 K1
  rw[ev]at c7 s
  have hG:=d.blk.lt;have HB1:=hide d;have HK1:=hide K1;have HR1:=hide R1;have HW1:=hide hw1;have F:=hide f1;have HEK:=hide ek;have HEV:=hide ev;have HS1:=hide (λQ(hb:ah' wc Q)=>EN K _ _ _ _ Q (by omega) ((aM K1.row).later hb) ((aM s.row).later hb));clear d K1 s R1 hw1 f1 ek ev HB HK HW HR hl;go_wp2_with fail
  go_region_held (λw'=>w'.cell? ⟨G,4,none⟩=some (.slice ka K.length kc)/\w'.cell? ⟨G,5,none⟩=some (.slice va K.length vc)/\ah' wc w') (first|assumption|(exact⟨c6,c7,(a0n _ _).drew⟩)|(exact NR hG hG (by assumption) (by assumption))) (first|(go_at_call 15;refine(HS1.out _ uG).ai ?_;intro L q))
  rename_i D;have f3:=Fr.aK qL D.2.2 (λ_=>False) 0;obtain⟨ow3,ahw⟩:∃ow3,ow3=ext wc qL 0:=⟨_,rfl⟩
  rw[<-ahw]at f3
  have B3:=HB1.out.frame f3 (λ_ _ x=>x);have K3:=HK1.out.frame f3 (λx=>x);have R3:=HR1.out.frame f3 (λx=>x);have W3:=HW1.out.frame f3 (λx=>x);have F3:=F.out.trans (f3.mono (λ_ x=>x.elim)) (λ_ x=>x);have y6:L.cell? ⟨G,4,none⟩=some (.slice ka K.length kc):=D.1;have ab9:l.length<=1073741824:=by omega
  have HMT:=hide (λQ(e:Q=L)=>e▸QE L ow3 G n N cs tE tT tS _ K B3 K3 (by omega) hKl (by omega));have HR3:=hide R3;have HW3:=hide W3;have HF3:=hide F3;have HB3:=hide B3;clear f3 ahw B3 K3 R3 W3 F3 D q c6 c7 HB1 HK1 HR1 HW1 F HS1
  go_upto_region 5 with(first
   |(go_at_call 52;refine(HMT.out _ rfl).ai ?_;rintro w4 ⟨U,f,us,B4,Y,hun,h40,F4⟩;have R4:=HR3.out.frame F4 (by have ho:kE.o=12:=rfl;unfold Kd.T;omega);have W4:=HW3.out.frame F4 (by have ho:kE.o=12:=rfl;unfold Kd.T;omega))
   |(go_at_call 15;refine(EN l _ _ _ _ w4 ab9 (aM R4.row) (aM W4.row)).ai ?_;intro w5 W;have f5:=Fr.aK U W (λ_=>False) 0;have O:=B4.frame f5 (λ_ _ x=>x);have R5:=R4.frame f5 (λx=>x);have W5:=W4.frame f5 (λx=>x);have H:=O.blk.cells 2 (by omega);have z3:=O.blk.cells 3 (by omega);have z6:=O.blk.cells 4 (by omega);have z7:=O.blk.cells 5 (by omega);rw[O.c2]at H;rw[O.c3]at z3;have x2:=O.blk.fz 2 (by omega);have x3:=O.blk.fz 3 (by omega);have x6:=O.blk.fz 4 (by omega);have x7:=O.blk.fz 5 (by omega)))
  obtain⟨C,hC⟩:∃C,C=N+1:=⟨_,rfl⟩;have Ir:(N:Int)+1=(C:Int):=by omega
  have hwr:IntKind.i64.wrap ((N:Int)+1)=(C:Int):=aW
  have I:Fr (λc=>c=1\/(12<=c/\c<=16)\/c=9\/c=10) w ow w5 (ext w4 U 0):=(HF3.out.mono (λc(x:c=10)=>by omega)).trans ((F4.mono (λc x=>(by have ho:kE.o=12:=rfl;unfold Kd.T at x;omega:c=1\/(12<=c/\c<=16)\/c=9\/c=10))).trans (f5.mono (λ_ x=>x.elim)) (λ_ x=>x)) (λ_ x=>x);have ar1:=h40;have HC:=hide hC;generalize ext w4 U 0=t at*;obtain⟨cs9,B9,f9,e0,e6,e7⟩:=NT O 4 5 C (by omega);have R9:=R5.frame f9 (by omega);have W9:=W5.frame f9 (by omega);have F9:=I.trans (f9.mono (λc(x:c=1)=>(Or.inl x:c=1\/(12<=c/\c<=16)\/c=9\/c=10))) (λ_ x=>x);have HB9:=hide B9;have HR9:=hide R9;have HW9:=hide W9;have HF9:=hide F9;have HE0:=hide e0;have HUL:=hide Y;have HUN:=hide hun;have i6:=B9.blk.cells 4 (by omega);have i7:=B9.blk.cells 5 (by omega);have j6:=B9.blk.fz 4 (by omega);have j7:=B9.blk.fz 5 (by omega);clear B9 R9 W9 F9 f9 I f5 F4 B4 R4 W4 R5 W5 O W HMT HR3 HW3 HF3 HB3 y6 h40 Y hun hi hz0 hz1 hz2 e0 hC
  by_cases aeu:C%2=0
  ·have he:(((C:Int)%2)==0)=true:=by rw[agx];omega
   have he2:(C:Int)%2=0:=by omega
   go_upto_region 10 with fail
   clear he he2 Ir hwr H z3 z6 z7 x2 x3 x6 x7 i6 i7 j6 j7;generalize (((w5.setCell ⟨G,3,none⟩ (.bool false)).setCell ⟨G,4,none⟩ (.slice none 0 0)).setCell ⟨G,5,none⟩ (.slice none 0 0)).setCell ⟨G,2,none⟩ (.int .i64 (C:Int))=W9 at*;have r10:=Fr.mo (λc=>c=9) W9 t 9 13 rfl;have B10:=HB9.out.frame r10 (by intro c M hx;exact lY);have R10:=HR9.out.mo 13;have aba:=hide (λQ(e:Q=W9)=>e▸QE W9 _ G (n+1) C cs9 (tE++us) tT tS _ l B10 R10 (by omega) hll (by rw[afE];have:=HUL.out;omega));have abb:=hide r10;clear r10 B10 R10;go_wp2_with (go_at_call 52;refine(aba.out _ rfl).ai ?_;rintro w11 ⟨abd,abe,us2,B11,aev,aew,h11,F11⟩)
   refine aqr ?_
   have Y:=HUL.out;refine⟨rfl,abd,abe,n+1+1,us++us2,[],by rw[<-HC.out,<-List.append_assoc];exact B11,?_,?_,by omega,pE,(λx hx=>by obtain hx|hx:=agz.1 hx;have:=HUN.out x hx;omega;have:=aew x hx;omega),by simp,?_,(HF9.out.mono ?_).trans ((abb.out.mono ?_).trans (F11.mono ?_) (λ_ x=>x)) (λ_ x=>x)⟩
   ·rw[h11 _ (by omega) (by omega) (by omega),e6];exact jL
   ·rw[h11 _ (by omega) (by omega) (by omega),e7];exact jL
   ·intro i i1 i2 i3 ia ib ij V
    rw[h11 _ i1 ij V,HE0.out _ i2 i3 ia ib,ar1 _ i1 ij V]
   ·intro i hi;exact hi
   ·intro i hi;omega
   ·intro i hi;have ho:kE.o=12:=rfl;unfold Kd.T at hi;omega
  ·have he:(((C:Int)%2)==0)=false:=by rw[afW];omega
   have he2:¬(C:Int)%2=0:=by omega
   go_wp2_with fail;obtain⟨abf,abg,B12,K12,W12,e12,F12⟩:=NU HB9.out 4 5 12 (by omega) HR9.out HW9.out;refine ahD (ahA rfl _ _ _) rfl ?_;have Y:=HUL.out;refine⟨rfl,abf,abg,n+1,us,l,by rw[<-HC.out];exact B12,K12,W12,by omega,by omega,(λx hx=>by have:=HUN.out x hx;omega),hll,?_,(HF9.out.mono ?_).trans (F12.mono ?_) (λ_ x=>x)⟩
   ·intro i i1 i2 i3 ia ib ij V
    rw[e12 _ ia ib,HE0.out _ i2 i3 ia ib,ar1 _ i1 ij V]
   ·intro i hi;exact hi
   ·intro i hi;omega
namespace Rl
structure a0g(w:World)(ow:Nat->Nat)(cs:Nat->Value):Prop where
 ex:∃K:List aX,fI w ow 80 3 (cs 4) K.length (aJ K) 13/\fI w ow 80 3 (cs 5) K.length (aJ K) 14/\K.length<=4194304
structure a0h(w:World)(ow:Nat->Nat)(cs:Nat->Value):Prop where
 ex:∃K:List ByteArray,fI w ow 9 1 (cs 6) K.length (mP K) 5/\fI w ow 9 1 (cs 7) K.length (mP K) 6/\K.length<=4194304
structure acR(cs:Nat->Value):Prop where
 a:cs 8=.slice none 0 0
 b:cs 9=.slice none 0 0
theorem a0g.frame{T:Nat->Prop}{w p:World}{q n:Nat->Nat}{o m:Nat->Value}(h:a0g w q o)(l:Fr T w q p n)(f:¬T 13)(j:¬T 14)(d:m 4=o 4)(e:m 5=o 5):a0g p n m:=Cr
theorem a0h.frame{T:Nat->Prop}{w p:World}{q n:Nat->Nat}{o m:Nat->Value}(h:a0h w q o)(l:Fr T w q p n)(f:¬T 5)(j:¬T 6)(d:m 6=o 6)(e:m 7=o 7):a0h p n m:=Cr
structure nJ(w:World)(ow:Nat->Nat)(G:Nat)(cs:Nat->Value)(s:Nat):Prop where
 ex:∃(n came:Nat)(tE tT:List (Nat×Value)),fu w ow G n came cs tE tT []/\n<=2*s/\came<=s/\tE.length<=8*s/\tT.length<=8*s/\∀x∈tE,x.1<=2*s
 e:a0g w ow cs
 t:a0h w ow cs
 s:acR cs
theorem nJ.blk{w:World}{c:Nat->Nat}{G s:Nat}{d:Nat->Value}(h:nJ w c G d s):yM w c G d:=by obtain⟨_,_,_,_,e,_⟩:=h.ex;exact e.blk
theorem nJ.frame{T:Nat->Prop}{w l:World}{m d:Nat->Nat}{G s:Nat}{o:Nat->Value}(h:nJ w m G o s)(j:Fr T w m l d)(e:∀c,BkC c->¬T c):nJ l d G o s:=by
 obtain⟨n,f,k,g,q,p⟩:=h.ex
 exact⟨⟨n,f,k,g,q.frame j e,p⟩,h.e.frame j (e 13 di) (e 14 di) rfl rfl,h.t.frame j (e 5 di) (e 6 di) rfl rfl,h.s⟩
def Ki(c:Nat):Prop:=BkC c\/c=9\/c=10
end Rl
open Rl
theorem a2Q(w:World)(ow:Nat->Nat)(G s:Nat)(cs:Nat->Value)(E:Value)(l:List ByteArray)(h:nJ w ow G cs s)(hl:fI w ow 9 1 E l.length (mP l) 9)(N:l.length<=4194304)(hs:s<=2097100):
  ai3 20 #[.pointer (some ⟨G,1,none⟩),E] w λe w'=>e=.returned (.tuple #[])/\∃F d,nJ w' F G d (s+1)/\d 0=cs 0/\Fr Ki w ow w' F:=by
 obtain⟨n,L,R,Q,X,hn,M,hE,hT,hx⟩:=h.ex;obtain⟨K,y,W,O⟩:=h.t.ex;refine(a6x w ow G n L cs R Q [] K E l X y W hl O N (by omega) (by omega) (by omega)).ai ?_;rintro w' ⟨F,d,V,U,K',B',k1,k2,q1,q2,q3,u,hF⟩;have J:d 4=cs 4:=u 4 (by omega) (by omega) (by omega) (by omega) (by omega) (by omega) (by omega);have I:d 5=cs 5:=u 5 (by omega) (by omega) (by omega) (by omega) (by omega) (by omega) (by omega);have Z:d 8=cs 8:=u 8 (by omega) (by omega) (by omega) (by omega) (by omega) (by omega) (by omega);have Y:d 9=cs 9:=u 9 (by omega) (by omega) (by omega) (by omega) (by omega) (by omega) (by omega)
 exact⟨rfl,F,d,⟨⟨V,L+1,R,Q++U,B',by omega,by omega,by omega,pE,λx hm=>by have:=hx x hm;omega⟩,h.e.frame hF (by omega) (by omega) J I,⟨K',k1,k2,q3⟩,⟨Z.trans h.s.a,Y.trans h.s.b⟩⟩,u 0 (by omega) (by omega) (by omega) (by omega) (by omega) (by omega) (by omega),hF.mono (λc M=>gD)⟩
theorem VO(w:World)(ow:Nat->Nat)(G s:Nat)(cs:Nat->Value)(E:Value)(l:List aX)(h:nJ w ow G cs s)(hl:fI w ow 80 3 E l.length (aJ l) 9)(J:l.length<=4194304)(hs:s<=2097100):
  ai3 16 #[.pointer (some ⟨G,1,none⟩),E] w λe w'=>e=.returned (.tuple #[])/\∃F d,nJ w' F G d (s+1)/\d 0=cs 0/\Fr Ki w ow w' F:=by
 obtain⟨n,I,O,N,W,hn,M,hE,hT,hx⟩:=h.ex;obtain⟨K,y,V,L⟩:=h.e.ex;refine(Y2 w ow G n I cs O N [] K E l W y V hl L J (by omega) (by omega) (by omega)).ai ?_;rintro w' ⟨F,d,U,Q,K',B',k1,k2,q1,q2,R,q3,u,hF⟩;have e6:d 6=cs 6:=u 6 (by omega) (by omega) (by omega) (by omega) (by omega) (by omega) (by omega);have Z:d 7=cs 7:=u 7 (by omega) (by omega) (by omega) (by omega) (by omega) (by omega) (by omega);have Y:d 8=cs 8:=u 8 (by omega) (by omega) (by omega) (by omega) (by omega) (by omega) (by omega);have X:d 9=cs 9:=u 9 (by omega) (by omega) (by omega) (by omega) (by omega) (by omega) (by omega)
 exact⟨rfl,F,d,⟨⟨U,I+1,O++Q,N,B',by omega,by omega,pE,by omega,λx hm=>by obtain hm|hm:=agz.1 hm;have:=hx x hm;omega;have:=R x hm;omega⟩,⟨K',k1,k2,q3⟩,h.t.frame hF (by omega) (by omega) e6 Z,⟨Y.trans h.s.a,X.trans h.s.b⟩⟩,u 0 (by omega) (by omega) (by omega) (by omega) (by omega) (by omega) (by omega),hF.mono (λc M=>gD)⟩
namespace Rl
theorem a6y{wc c d:World}{p q r:Addr}{u v t:Value}(k:p.block<wc.heap.size)(j:q.block<wc.heap.size)(g:r.block<wc.heap.size)(h:c.cell? p=some u/\c.cell? q=some v/\c.cell? r=some t/\ah' wc c)(f:ah' c d):
  d.cell? p=some u/\d.cell? q=some v/\d.cell? r=some t/\ah' wc d:=by
 obtain⟨n,m,l,e⟩:=h
 exact⟨(f.cell (p:=p) (afB k e.size)).trans n,(f.cell (p:=q) (afB j e.size)).trans m,(f.cell (p:=r) (afB g e.size)).trans l,af e f e.size⟩
theorem a6z{j:Option az}(h:iU j a b)(t:a<=4194304)(S:ByteArray)(n:S.size<=2097152):
  ∃(T:ByteArray)(E:Int),∀f d,gX f d i xv dv j->∀c,ah' f c->
   ai3 41 #[xv,.string S] c (λe g=>e=.returned (.tuple #[.string T,.int .i64 E])/\ah' c g)/\
   ai3 42 #[dv,.string S] c (λe g=>e=.returned (.tuple #[.string T,.int .i64 E])/\ah' c g):=by
 cases j with
 |none=>
  refine⟨⟨#[]⟩,1,λf d l c _=> ?_⟩;obtain⟨rfl,rfl⟩:=l
  exact⟨aaR S c,RV S c⟩
 |some m=>
  have k:=h m rfl;refine⟨kH m S,rY m S,λf d l c o=> ?_⟩;obtain⟨q,p,u,rfl,rfl,s,r⟩:=l
  exact⟨aaN c _ q m (s.later o) S n,U5 c _ p u m (r.later o) (afC k.files t) S n⟩
theorem a6A{l:Option az}(h:iU l a b)(t:a<=4194304)(o:b<=4194304):
  ∃(T E:Int),∀j d,gX j d i xv dv l->∀c,ah' j c->
   ai3 45 #[xv] c (λe k=>e=.returned (.tuple #[.int .i64 T,.int .i64 E])/\ah' c k)/\
   ai3 46 #[dv] c (λe k=>e=.returned (.tuple #[.int .i64 T,.int .i64 E])/\ah' c k):=by
 cases l with
 |none=>
  refine⟨0,1,λj d n c _=> ?_⟩;obtain⟨rfl,rfl⟩:=n
  exact⟨aaS c,RU c⟩
 |some m=>
  have f:=h m rfl;refine⟨(aR m.files:Int),0,λj d n c g=> ?_⟩;obtain⟨q,p,u,rfl,rfl,s,r⟩:=n
  exact⟨aaO c _ q m (s.later g) (afC f.bytes o),RP c _ p u m (r.later g) (afC f.bytes o) (afC f.files t)⟩
theorem a6B{o:Option az}(h:iU o a b)(u:a<=4194304):
  ∃(l:List ByteArray)(E:Int),l.length<=a/\∀n g,gX n g i xv dv o->∀c,ah' n c->
   ai3 43 #[xv] c (λe d=>∃v,e=.returned (.tuple #[v,.int .i64 E])/\d.ownsRow c.heap.size 9 1 v l.length (mP l)/\ah' c d)/\
   ai3 44 #[dv] c (λe d=>∃v,e=.returned (.tuple #[v,.int .i64 E])/\d.ownsRow c.heap.size 9 1 v l.length (mP l)/\ah' c d):=by
 cases o with
 |none=>
  refine⟨[],1,by simp,λn g s c _=> ?_⟩;obtain⟨rfl,rfl⟩:=s
  exact⟨(aaT c).mono (λe d⟨r,t⟩=>⟨_,r,a9X _ _ _ _,t⟩),(RS c).mono (λe d⟨r,t⟩=>⟨_,r,a9X _ _ _ _,t⟩)⟩
 |some m=>
  have j:=h m rfl;refine⟨m.files.map λf=>f.name,0,by rw[ag0];exact j.files,λn g s c k=> ?_⟩;obtain⟨q,p,y,rfl,rfl,x,w⟩:=s
  rw[ag0]
  exact⟨aaP c _ q m (x.later k) (afC j.files u),U6 c _ p y m (w.later k) (afC j.files u)⟩
end Rl
theorem a2R(w:World)(x:Nat->Nat)(i B G a b:Nat)(xv dv:Value)(y:Option az)(W A C:Int)(S T:ByteArray)(o:Option Addr)(m n:Nat)(h:bU w x i B xv dv y)(N:iU y a b)(U:a<=4194304)(M:S.size<=2097152):
  ai9 12 #[.pointer (some ⟨G,0,none⟩),.pointer (some ⟨B,0,none⟩),Gy 9 W A C S T o m n] w (.bool true):=by
 obtain⟨T1,E,O⟩:=a6z (i:=i) (xv:=xv) (dv:=dv) N U S M;have u:=λs(R:ah' w s)=>(O w x h.Fy s R)
 have V:=jX w (.int .i64 9) (.int .i64 W) (.int .i64 A) (.int .i64 C) (.string S) (.string T) (.slice o m n) 39;have d:=(a0n w.heap.size w).alloc (afA _) (.cells #[.int .i64 9,.int .i64 W,.int .i64 A,.int .i64 C,.string S,.string T,.slice o m n] 39);have K:=(d.cell (p:=⟨B,0,none⟩) h.lt).trans h.c0;have J:=(d.cell (p:=⟨B,1,none⟩) h.lt).trans h.c1;have j:B<(w.alloc (.cells #[.int .i64 9,.int .i64 W,.int .i64 A,.int .i64 C,.string S,.string T,.slice o m n] 39)).heap.size:=afB h.lt d.size;have D:=u;have l:=hide d;obtain⟨b0,b1,b2,b3,X,Z,Y,z⟩:=V;have g:=d.size;unfold Gy;go_enter alb,ntmps12
 go_upto_region 3 with fail
 generalize w.alloc (.cells #[.int .i64 9,.int .i64 W,.int .i64 A,.int .i64 C,.string S,.string T,.slice o m n] 39)=L at*
 go_region_held (λe=>e.cell? ⟨B,0,none⟩=some xv/\e.cell? ⟨B,1,none⟩=some dv/\e.cell? ⟨w.heap.size,4,none⟩=some (.string S)/\ah' L e) (first|assumption|(exact⟨K,J,X,(a0n _ _).drew⟩)|(exact a6y j j z (by assumption) (by assumption))) (first|(go_at_call 41;refine((D _ (af l.out uF g)).1).ai ?_;intro t Q))
 rename_i k;obtain⟨I,H,F,c⟩:=k;have q:B<t.heap.size:=afB j c.size;have v:w.heap.size<t.heap.size:=afB z c.size;go_wp2_with fail
 go_region_held (λe=>e.cell? ⟨B,0,none⟩=some xv/\e.cell? ⟨B,1,none⟩=some dv/\e.cell? ⟨w.heap.size,4,none⟩=some (.string S)/\ah' t e) (first|assumption|(exact⟨I,H,F,(a0n _ _).drew⟩)|(exact a6y q q v (by assumption) (by assumption))) (first|(go_at_call 42;refine((D _ (af l.out (af c uF c.size) g)).2).ai ?_;intro s P))
 rename_i f;have r:=f.2.2.2;go_wp2_with fail;go_ret
 exact⟨by first|rfl|simp,af l.out (af c r c.size) g⟩
theorem a2S(w:World)(s:Nat->Nat)(i B G a b:Nat)(xv dv:Value)(t:Option az)(W A C:Int)(S T:ByteArray)(g:Option Addr)(e f:Nat)(h:bU w s i B xv dv t)(x:iU t a b)(z:a<=4194304)(r:b<=4194304):
  ai9 12 #[.pointer (some ⟨G,0,none⟩),.pointer (some ⟨B,0,none⟩),Gy 11 W A C S T g e f] w (.bool true):=by
 obtain⟨U,E,y⟩:=a6A (i:=i) (xv:=xv) (dv:=dv) x z r;have o:=λl(r:ah' w l)=>(y w s h.Fy l r)
 have D:=jX w (.int .i64 11) (.int .i64 W) (.int .i64 A) (.int .i64 C) (.string S) (.string T) (.slice g e f) 39;have d:=(a0n w.heap.size w).alloc (afA _) (.cells #[.int .i64 11,.int .i64 W,.int .i64 A,.int .i64 C,.string S,.string T,.slice g e f] 39);have H:=(d.cell (p:=⟨B,0,none⟩) h.lt).trans h.c0;have v:=(d.cell (p:=⟨B,1,none⟩) h.lt).trans h.c1;have n:B<(w.alloc (.cells #[.int .i64 11,.int .i64 W,.int .i64 A,.int .i64 C,.string S,.string T,.slice g e f] 39)).heap.size:=afB h.lt d.size;have u:=o;have k:=hide d;obtain⟨R,Q,P,O,N,M,L,K⟩:=D;have m:=d.size;unfold Gy;go_enter alb,ntmps12
 go_upto_region 12 with fail
 generalize w.alloc (.cells #[.int .i64 11,.int .i64 W,.int .i64 A,.int .i64 C,.string S,.string T,.slice g e f] 39)=J at*
 go_wp2_with (first
  |(go_at_call 45;refine((u _ k.out).1).ai ?_;intro I j;have F:=(j.cell (p:=⟨B,1,none⟩) n).trans v;have c:=af k.out j m)
  |(go_at_call 46;refine((u _ c).2).ai ?_;intro l q))
 go_ret
 exact⟨by first|rfl|simp,af c q c.size⟩
theorem a2T(w:World)(ow:Nat->Nat)(i B G a b:Nat)(xv dv:Value)(om:Option az)(W A C:Int)(S T:ByteArray)(X:Option Addr)(I Q:Nat)(h:bU w ow i B xv dv om)(hf:iU om a b)(ha:a<=4194304)(s:Nat)(cs:Nat->Value)(hB:nJ w ow G cs s)(hs:s<=2097100):
  ai3 12 #[.pointer (some ⟨G,0,none⟩),.pointer (some ⟨B,0,none⟩),Gy 10 W A C S T X I Q] w λe w'=>e=.returned (.bool true)/\∃F Y,nJ w' F G Y (s+1)/\Y 0=cs 0/\Fr Ki w ow w' F:=by
 obtain⟨l,E,hll,M⟩:=a6B (i:=i) (xv:=xv) (dv:=dv) hf ha;have hc1:=λw2(hb:ah' w w2)=>(M w ow h.Fy w2 hb)
 have bx:=jX w (.int .i64 10) (.int .i64 W) (.int .i64 A) (.int .i64 C) (.string S) (.string T) (.slice X I Q) 39;have K:=(a0n w.heap.size w).alloc (afA _) (.cells #[.int .i64 10,.int .i64 W,.int .i64 A,.int .i64 C,.string S,.string T,.slice X I Q] 39);have x0:=(K.cell (p:=⟨B,0,none⟩) h.lt).trans h.c0;have x1:=(K.cell (p:=⟨B,1,none⟩) h.lt).trans h.c1;have hl0:B<(w.alloc (.cells #[.int .i64 10,.int .i64 W,.int .i64 A,.int .i64 C,.string S,.string T,.slice X I Q] 39)).heap.size:=afB h.lt K.size;have HC:=hc1;have HB0:=hide K;have HBK:=hide hB;obtain⟨O,b1,b2,b3,b4,b5,b6,bl⟩:=bx;have hz0:=K.size;have hG:G<w.heap.size:=by exact hB.blk.lt
 have y:l.length<=1073741824:=by omega
 unfold Gy;go_enter alb,ntmps12
 go_upto_region 7 with fail
 generalize w.alloc (.cells #[.int .i64 10,.int .i64 W,.int .i64 A,.int .i64 C,.string S,.string T,.slice X I Q] 39)=w0 at*
 go_upto_region 9 with(first
  |(go_at_call 43;refine((HC _ HB0.out).1).mono ?_;rintro e w1 ⟨v1,rfl,N,H⟩;have y1:=(H.cell (p:=⟨B,1,none⟩) hl0).trans x1;have o:=af HB0.out H hz0)
  |(go_at_call 44;refine((HC _ o).2).mono ?_;rintro e w2 ⟨v2,rfl,ho2,V⟩))
 have f1:=Fr.aK ow o (λ_=>False) 9;have hcd:∀k,w1.heap.size<=k->ext w1 (ext w ow 9) 22 k=22:=λk R=>dh
 have r1:fI w1 (ext w ow 9) 9 1 v1 l.length (mP l) 9:=⟨⟨N.1,N.2.imp id (λ⟨g,cap,cur,e,hb,r⟩=>⟨g,cap,cur,e,afK _,r⟩)⟩,λk R=>by unfold ext;rw[afJ (by have:=(N.lt k R).1;omega)]⟩;have f2:=Fr.aK (ext w ow 9) V (λ_=>False) 22;have r2:=r1.frame f2 (λx=>x);have rr2:bz w2 v2 l.length 1 (mP l):=aM ho2;have HK2:=hide ((HBK.out.frame f1 (λ_ _ x=>x)).frame f2 (λ_ _ x=>x));have Z:=hide r2;have HRR:=hide rr2;have u:=hide (f1.trans f2 (λ_ x=>x));obtain⟨va,vc,rfl⟩:=ay r2.row;obtain⟨ua,uc,rfl⟩:=ay ho2;generalize ext w1 (ext w ow 9) 22=d at*
 go_wp2_with (first
  |(go_at_call 19;refine(Ez _ _ l w2 y (aM Z.out.row) HRR.out).ai ?_;intro L q;have f3:=Fr.aK d q (λ_=>False) 0;have K3:=HK2.out.frame f3 (λ_ _ x=>x);have R3:=Z.out.frame f3 (λx=>x))
  |(go_at_call 20;refine(a2Q L _ G s cs _ l K3 R3 (by omega) hs).ai ?_;rintro w4 ⟨U,f,j,J,f4⟩))
 go_ret;exact Co
end Go.Proofs.Zq
