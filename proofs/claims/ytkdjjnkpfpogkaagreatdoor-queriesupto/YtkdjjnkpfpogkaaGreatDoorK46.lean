import Derived.Test.YtkdjjnkpfpogkaaGreatDoorK45
set_option maxHeartbeats 8000000
set_option linter.all false
set_option maxRecDepth 20000
namespace Go
def ai8{P:Prop}(h:P:=by
 go_wp2_with fail;go_ret;have g:ah' w wr:=⟨U.out.os,U.out.tape,U.out.output,U.out.size,λj hj=>U.out.block j hj (λx=>x)⟩
 first|exact⟨_,rv,rfl,by rw[HE.out];exact HR.out,g⟩|exact⟨_,rfl,⟨rv,by rw[HE.out];exact HR.out⟩,g⟩):P:=h
def aiE{P:Prop}(h:P:=by go_wp2;exact abt (v:=.tuple #[.agg #[.int .i64 0,.int .i64 0,.int .i64 0,.string ⟨#[]⟩],.int .i64 0]) (by simp[results,results112,go_sem]) rfl ⟨rfl,pX (ahH (aL _ _) _) (afA _) _ _ _ _⟩):P:=h
def C8{P:Prop}(h:P:=by
 go_wp2_with fail
 exact⟨⟨k+1,a,s,true,by omega,rfl,o,by rw[<-n.out];exact c,u,C.out⟩,f⟩):P:=h
end Go
namespace Go.Proofs.Zq
open Tryz
open Go.RowKit
open Rl
variable{k A:Nat}{w:World}{t:Int}
theorem a9n{X:World}{n:Nat}(h:X.heap.size=n)(a b c d:Value)(T:TypeId):xY (X.alloc (.cells #[a,b,c,d] T)) n a b c d:=by grind[fJ]
theorem SK(b:ByteArray)(w:World)(hs:b.size<=2097152):
  ai9 112 #[.string b] w (.tuple #[dB (xZ b),.int .i64 (x8 b:Int)]):=by
 by_cases h8:b.size<12
 ·obtain⟨e1,e2⟩:=ny (vk (b:=b) (by omega))
  rw[e1,e2]
  have Z:(b.size:Int)<12:=by omega
  go_enter aiU,ntmps112;go_wp2;exact abt (v:=.tuple #[.agg #[.int .i64 0,.int .i64 0,.int .i64 0,.string ⟨#[]⟩],.int .i64 0]) (by simp[results,results112,go_sem]) rfl ⟨rfl,aL _ _⟩
 ·have Z:¬(b.size:Int)<12:=by omega
  have k8:(8:Int)<=(b.size:Int):=by omega
  have O:=λw=>kF (b.extract 6 8) w aQ
  rw[<-Gr b]at O
  have hn:=Ny b
  by_cases hw:b.size<12+gZ b
  ·obtain⟨e1,e2⟩:=ny (vk (.inr hw))
   rw[e1,e2]
   generalize gZ b=n at*;have L:decide ((b.size:Int)<12+(n:Int))=true:=afL (by omega);go_enter aiU,ntmps112;go_wp2_with (go_at_call 124;refine(O _).aH ?_)
   go_quiet (fail)
   exact aiE
  ·obtain⟨y,h4⟩:∃y,y=8+gZ b:=⟨_,rfl⟩
   obtain⟨J,h5⟩:∃J,J=12+gZ b:=⟨_,rfl⟩;have i4:12+(gZ b:Int)=(J:Int):=by omega
   have i5:(J:Int)-4=(y:Int):=by omega
   have i6:IntKind.i64.wrap (y:Int)=(y:Int):=aW
   have i7:wrap64 (y:Int)=(y:Int):=lh _ (by omega) (by omega);have b4:y<=b.size:=by omega
   have b5:J<=b.size:=by omega
   have l45:y<=J:=by omega
   have l84:8<=y:=by omega
   have L:decide ((b.size:Int)<(J:Int))=false:=afG (by omega);have U:=λw=>Zb (b.extract 0 y) w (by rw[afU];exact aB)
   have V:=λw=>kF (b.extract y J) w aQ
   have I:a6d b=decide (num ((b.extract y J).data.toList)=(crc ((b.extract 0 y).data.toList):Int)):=by rw[h4,h5];rfl
   have N:Jl b=true:=by unfold Jl;rw[agv];omega
   have F:fw b=(a6d b&&mY (mZ b).kind (mZ b).peer (mZ b).body):=by unfold fw;rw[N,agQ]
   have hX:=num_nonneg ((b.extract y J).data.toList);generalize num ((b.extract y J).data.toList)=X at*;generalize (crc ((b.extract 0 y).data.toList):Int)=Y at*
   by_cases M:X=Y
   ·have l:(Y != X)=false:=by rw[agP];exact M.symm
    rw[I,afL M,agQ]at F
    clear I N hX;have rT:=λw=>kF (b.extract 0 4) w aQ
    rw[<-yT b]at rT
    have a4:(b[4].toNat:Int)=(at8 b.data.toList 4:Int):=dD b 4 (by omega);have a5:(b[5].toNat:Int)=(at8 b.data.toList 5:Int):=dD b 5 (by omega);have l4:=gG b.data.toList 4;have l5:=gG b.data.toList 5;have rI:=λw=>KV (oW b) (at8 b.data.toList 4) (at8 b.data.toList 5) (b.extract 8 y) w aQ l4 l5
    have hR:mZ b=⟨oW b,at8 b.data.toList 4,at8 b.data.toList 5,b.extract 8 y⟩:=by rw[h4];rfl
    have hL:12+gZ b=J:=h5.symm
    rw[hR]at F
    simp only at F
    rw[<-F]at rI
    have HY:Hid (fw b=true->Ending.returned (.tuple #[dB (xZ b),.int .i64 (x8 b:Int)])=.returned (.tuple #[.agg #[.int .i64 (oW b:Int),.int .i64 (at8 b.data.toList 4:Int),.int .i64 (at8 b.data.toList 5:Int),.string (b.extract 8 y)],.int .i64 (J:Int)])):=λh=>by rw[(x9 h).1,(x9 h).2,hR,hL];rfl
    have u:Hid (fw b=false->Ending.returned (.tuple #[dB (xZ b),.int .i64 (x8 b:Int)])=.returned (.tuple #[.agg a0k,.int .i64 0])):=λh=>by rw[(ny h).1,(ny h).2];rfl
    obtain⟨R,Q⟩:∃R,R=Ending.returned (.tuple #[dB (xZ b),.int .i64 (x8 b:Int)]):=⟨_,rfl⟩
    unfold ai9;rw[<-Q]at HY u |-
    clear Q hR hL F h4 h5 M;generalize gZ b=n at*;generalize fw b=ok at*;generalize oW b=T at*;generalize at8 b.data.toList 4=K at*;generalize at8 b.data.toList 5=P at*;have w4:IntKind.i64.wrap (K:Int)=(K:Int):=aW
    have w5:IntKind.i64.wrap (P:Int)=(P:Int):=aW
    go_enter aiU,ntmps112;go_wp2_with (go_at_call 124;refine(O _).aH ?_)
    go_quiet ((first|(go_at_call 124;exact ahI (V _))|(go_at_call 118;exact ahI (U _))))
    go_upto_region 6 with fail
    go_cut [5] (λs6 wx=>∃W,s6=.pointer (some ⟨W,0,none⟩)/\xY wx w.heap.size (.int .i64 0) (.int .i64 0) (.int .i64 0) (.string ⟨#[]⟩)/\xY wx W (.int .i64 T) (.int .i64 K) (.int .i64 P) (.string (b.extract 8 y))/\ah' w wx)
    case first=>
     have n4:4<b.size:=by omega
     have n5:5<b.size:=by omega
     have W:4<=b.size:=by omega
     have j4:(4:Int)<(b.size:Int):=by omega
     have j5:(5:Int)<(b.size:Int):=by omega
     have j6:(4:Int)<=(b.size:Int):=by omega
     have j7:(8:Int)<=(y:Int):=by omega
     have j8:(y:Int)<=(b.size:Int):=by omega
     clear rI V U O HY u L
     go_region_held (λw'=>jk w w')
      (first|assumption|(exact(jk.start _ _ _).drew)|(exact jk.new (by assumption) _)|(exact jk.new (jk.start _ _ _) _)|(exact jk.stored (by assumption) (by omega) _ _ _ _))
      (first|(go_at_call 124;refine(rT _).aH ?_))
     all_goals
      go_wp2_with fail
      go_meet
      case rel=>exact⟨_,rfl,QI (by assumption) (a9n (by simp) _ _ _ _ _)⟩
    case rest=>
     obtain⟨W,rfl,b1,b2,B⟩:=hcut;clear rT O U V a4 a5;have b2':=b2;obtain⟨p0,p1,p2,p3,_,_,_,_,pl⟩:=b2';go_wp2_with fail;refine(rI _).ai ?_;intro w1 H;have d:=gJ B H;obtain⟨q0,q1,q2,q3,f0,f1,f2,f3,ql⟩:=b1.later H;obtain⟨d0,d1,d2,d3,_,_,_,_,E⟩:=b2.later H;clear p0 p1 p2 p3 pl H b1 b2 B;cases ok with
     |false=>
      go_wp2;exact abt (v:=.tuple #[.agg a0k,.int .i64 0]) (by simp[results,results112,go_sem,q0,q1,q2,q3]) rfl ⟨(u.out (by trivial)).symm,pX d (afA _) _ _ _ _⟩
     |true=>
      go_wp2;exact abt (v:=.tuple #[.agg #[.int .i64 (T:Int),.int .i64 (K:Int),.int .i64 (P:Int),.string (b.extract 8 y)],.int .i64 (J:Int)]) (by simp[results,results112,go_sem,q0,q1,q2,q3]) rfl ⟨(HY.out (by trivial)).symm,pX d (afA _) _ _ _ _⟩
   ·have l:(Y != X)=true:=by rw[agF];exact λe=>M e.symm
    obtain⟨e1,e2⟩:=ny (b:=b) (by rw[F,I,afG M];rfl)
    rw[e1,e2]
    clear F I N M e1 e2 h4 h5;generalize gZ b=n at*;go_enter aiU,ntmps112;go_wp2_with (go_at_call 124;refine(O _).aH ?_)
    go_quiet ((first|(go_at_call 124;exact ahI (V _))|(go_at_call 118;exact ahI (U _))))
    exact aiE
namespace Rl
theorem a3E{l:List aD}(h:k<l.length):xw (l.take (k+1))=xw (l.take k)++(if jo l[k].name=true then jY l[k].data else []):=by split<;>grind[afH,xw,Ju]
theorem Kk{l:List aD}{f:aD}(h:f∈l):f.data.size<=aR l:=by
 induction l with
 |nil=>cases h
 |cons a r b=>
  simp only[aR];exact ahj
theorem IA(l:List aD)(k:Nat):aR (l.take k)<=aR l:=by
 induction l generalizing k with
 |nil=>simp[aR]
 |cons a r b=>
  cases k with
  |zero=>simp[aR]
  |succ k=>simp_all[List.take_succ_cons,aR]<;>omega
theorem Od(l:List aD):(xw l).length<=aR l:=afC (Jv _) (Sz l)
theorem a7c{l:List Rec}(h:k<l.length):dV (l.take (k+1))=dV (l.take k)++[.int .i64 (l[k].time:Int),.int .i64 (l[k].kind:Int),.int .i64 (l[k].peer:Int),.string l[k].body]:=by rw[afH h,yV];rfl
theorem a9o{v:Value}{l:List Rec}(d:bz w v l.length 4 (dV l)):∃a c,v=.slice a l.length c:=ahk
end Rl
open Rl
theorem Zv(w:World)(S:Nat->Prop)(p:Nat)(fv:Value)(m:az)(h:bK w S p fv m)(hn:m.files.length<=4194304)(hnm:∀f∈m.files,f.name.size<=8)(hu:aR m.files<=1048576)(HS:∀(b:ByteArray)(w:World),b.size<=1048576->ai3 60 #[.string b] w λe w'=>qI b w e w'):
  ai3 50 #[.pointer (some ⟨p,0,none⟩)] w λe w'=>∃v,e=.returned v/\w'.ownsRow w.heap.size 131 4 v (xw m.files).length (dV (xw m.files))/\ah' w w':=by
 obtain⟨i0,hi,hz0,hz1,hz2⟩:=ahC Iz;obtain⟨c0,c1,c2,_,_,_,hl⟩:=h.box;have Y:=aM h.row;obtain⟨av,cv,rfl⟩:=ay h.row;have hLL:=Od m.files;generalize m.files=l at*;have HNM:=hnm;unfold qI at HS;go_enter anG,ntmps50;go_wp2
 go_loopw [3,4] (λx i wr=>∃(k:Nat)(E:Value)(C:List Rec),E=x/\k<=l.length/\i=.int .i64 k/\Hid (C=xw (l.take k))/\wr.ownsRow w.heap.size 131 4 E C.length (dV C)/\ah' w wr) (λ_ i _=>l.length-(intOf i).toNat)
 case atStart=>exact⟨0,_,[],rfl,afK _,rfl,rfl,a9X _ _ _ _,a0n _ _⟩
 case round=>
  obtain⟨k,E,C,rfl,R,rfl,s,F,hb⟩:=hrel;have d1:=(hb.cell (p:=⟨p,1,none⟩) hl).trans c1
  by_cases Z:k<l.length
  ·obtain⟨_,_,_,J⟩|⟨g,o,cap,e,_,hbk,M⟩:=Y.2
   ·omega
   ·cases e
    obtain⟨g1,g2,g3⟩:=kC l k Z;have q0:=(hb.cell (p:=⟨g,o+k*3,none⟩) hbk).trans (M _ _ g1);have q1':=λwx(r:ah' w wx)=>(r.cell (p:=⟨g,o+k*3+1,none⟩) hbk).trans (M _ _ g2)
    have HQ1:=hide q1';have HST:=hide (a3E Z);have hxl:C.length<=1048576:=by rw[s.out];exact afC (Od _) (afC (IA l k) hu)
    have hds:=afC (Kk (afS Z)) hu;have hns:=HNM _ (afS Z);have U:=hide (λwx=>Ob l[k].name wx (by omega));have HSC:=hide (λwx=>HS l[k].data wx (by omega));have hX1:=Od (l.take (k+1));have hX2:=IA l (k+1);have hx:(k:Int)<(l.length:Int):=by omega
    have hk0:(0:Int)<=(k:Int):=by omega
    have hbs:=hb.size;have HB:=hide hb;cases Q:jo l[k].name with
    |false=>
     have N:Hid (C=xw (l.take (k+1))):=by rw[Hid,HST.out,afJ (by rw[Q];simp),ah0];exact s.out
     rw[Q]at U
     generalize l[k].name=nm at*;go_wp2_with (go_at_call 59;refine(U.out _).mono ?_;rintro e w' ⟨⟨z,rfl,hz⟩,rfl⟩)
     exact⟨⟨k+1,E,C,rfl,by omega,by go_num,N,F,HB.out⟩,aA⟩
    |true=>
     have N:Hid (C++jY l[k].data=xw (l.take (k+1))):=by rw[Hid,HST.out,afN Q,s.out]
     rw[Q]at U
     have hX3:C.length+(jY l[k].data).length<=1048576:=by rw[<-List.length_append,N.out];omega
     generalize l[k].name=nm at*;generalize l[k].data=dt at*;have HQ:=hide (HQ1.out _ hb);have q1:=HQ1.out _ hb
     go_upto_region 9 with(first
      |(go_at_call 59;refine(U.out _).mono ?_;rintro e w' ⟨⟨z,rfl,hz⟩,rfl⟩)
      |(go_at_call 60;refine(HSC.out _).mono ?_;rintro e w2 ⟨v2,rfl,ho2,V,_,_⟩;obtain⟨a2,c2,rfl⟩:=ay ho2))
     have ac':=af HB.out V hbs;have X:=bu F V;have hap:∀q,(Value.slice a2 (jY dt).length c2).ownBlock=some q->E.ownBlock≠some q:=λq hq e=>by have h1:=(ho2.lt q hq).1;have h2:=(F.lt q e).2;omega
     have ad1:=yc ho2 hbs;generalize hys:jY dt=I at*;have HYS:=hide hys;have H:=hide ac';have HO:=hide X;have HR2:=hide ad1;have HAP:=hide hap
     go_loopw [3,8] (λx j wq=>∃(q:Nat)(O:Value),O=x/\q<=I.length/\j=.int .i64 q/\wq.ownsRow w.heap.size 131 4 O (C.length+q) (dV C++dV (I.take q))/\wq.ownsRow w.heap.size 131 4 (.slice a2 I.length c2) I.length (dV I)/\(∀j,(Value.slice a2 I.length c2).ownBlock=some j->O.ownBlock≠some j)/\ah' w wq) (λ_ j _=>I.length-(intOf j).toNat)
     case atStart=>exact⟨0,_,rfl,afK _,rfl,by simpa[dV]using HO.out,HR2.out,HAP.out,H.out⟩
     case round=>
      obtain⟨q,O,rfl,hq,rfl,u,d,W,hbq⟩:=hrel
      by_cases hql:q<I.length
      ·obtain⟨e,_⟩|⟨g2,cap2,afk,e,_⟩:=d.2
       ·exact iJ
       ·cases e
        obtain⟨g1,g2',g3,g4⟩:=yX I q hql;have q0:=d.cellAt (q*4) (by omega);have q1:=d.cellAt (q*4+1) (by omega);have q2:=d.cellAt (q*4+2) (by omega);have q3:=d.cellAt (q*4+3) (by omega)
        rw[g1]at q0;rw[g2']at q1;rw[g3]at q2;rw[g4]at q3
        have HS4:=hide (a7c hql);have hxq:(q:Int)<(I.length:Int):=by omega
        have hq0:(0:Int)<=(q:Int):=by omega
        have hqs:=hbq.size;generalize I[q]=y at*;go_wp2_with (at_builtin;refine jW _ rfl _ _ 101 rfl w.heap.size 131 i0 (.agg #[.int .i64 0,.int .i64 0,.int .i64 0,.string ⟨#[]⟩]) 4 40 akO hi hz0 hz1 hz2 rfl (by decide) _ _ _ rfl (u.alloc _) ⟨wr.heap.size,0,none⟩ 1 1 [.int .i64 (y.time:Int),.int .i64 (y.kind:Int),.int .i64 (y.peer:Int),.string y.body] rfl rfl (cu _ _ _) (Wm _ _ _ _) aB (by omega) (afC hqs (by simp)) ?_;intro v7 w7 Iu L aeF);refine⟨⟨q+1,v7,rfl,by omega,by go_num,by rw[HS4.out,<-List.append_assoc];exact Iu,a2N (d.alloc _) L (λk R=>W k R),λj hj e=> ?_,dX hbq hqs u L⟩,aA⟩;obtain h1|⟨j2,h1,h2⟩:=aeF
        ·exact W j hj (h1.symm.trans e)
        ·rw[e]at h1
         injection h1 with h1;have h3:=(d.lt j hj).2;simp at h2;omega
      ·have e:q=I.length:=by omega
       subst e;have hxq:¬(I.length:Int)<(I.length:Int):=by omega
       rw[ag8]at u
       have HRC:=hide (yV C I);go_wp2_with fail
       exact⟨⟨k+1,O,C++I,rfl,by omega,by go_num,N,by rw[HRC.out,afE];exact u,hbq⟩,aA⟩
  ·have e:k=l.length:=by omega
   subst e;have N:Hid (C=xw l):=by rw[Hid,s.out,ag8]
   obtain⟨a2,b2,rfl⟩:=ay F;go_wp2;go_ret
   rw[<-N.out]
   exact⟨_,rfl,F,hb⟩
open Go Go.Conc Go.RowKit
namespace Rl
def O1(a:Nat->Value)(s:StateM):Array Value:=#[.bool (s 0).up,a 0,.bool (s 1).up,a 1,.bool (s 2).up,a 2,.bool (s 3).up,a 3,.bool (s 4).up,a 4,.bool (s 5).up,a 5]
structure ze(w:World)(B:Nat)(mv:Nat->Value)(s:StateM):Prop where
 maps:∀i,i<6->KQ w (mv i) (s i)
 far:∀i,i<6->∀b,mv i=.map (some b)->B<=b
 apart:∀i,i<6->∀j,j<6->∀b,mv i=.map (some b)->mv j=.map (some b)->i=j
theorem fF.val{B Q:Nat}{a:Nat->Value}{s:StateM}(h:fF w B Q a s):ze w B a s:=⟨h.maps,λi c b d=>(h.far i c b d).1,h.apart⟩
theorem ze.touch{S:Nat->Prop}{w c:World}{B:Nat}{a:Nat->Value}{s:StateM}(h:ze w B a s)(e:dJ S w c)(f:∀i,i<6->∀b,a i=.map (some b)->¬S b):ze c B a s:=
 ⟨λi d=>(h.maps i d).touch e (f i d),h.far,h.apart⟩
theorem ze.lay{B:Nat}{c:Nat->Value}{s:StateM}(h:ze w B c s)(T:TypeId):fF (w.alloc (.cells (O1 c s) T)) B w.heap.size c s:=by
 have f:=aL w (.cells (O1 c s) T);refine⟨λi a=> ?_,λi a=> ?_,λj g=> ?_,by simp,λi a=>(h.maps i a).touch (dJ.aK (S:=λ_=>False) f) (λ_ _ x=>x),λi a b e=>⟨h.far i a b e,?_⟩,h.apart⟩
 ·exact ahu
 ·exact ahu
 ·simp
 ·have d:=h.maps i a
  rw[e]at d
  have:=d.lt;omega
theorem Kl(w:World)(B:Nat):ze w B (λ_=>.map none) qF:=⟨λ_ _=>.inl ⟨rfl,rfl,rfl⟩,λ_ _ b a=>(by cases a),λ_ _ _ _ b a=>(by cases a)⟩
def Gx(w:World)(A:Nat):Nat:=match w.heap[A]? with|some (.chan _ a _ _ _ _)=>a.size|_=>0
def vZ(w:World)(A:Nat)(a:List Rec):Prop:=∃t u,w.heap[A]? =some (.chan 1099511627776 (a.map dB).toArray true t u false)
theorem vZ.count{a:List Rec}(h:vZ w A a):Gx w A=a.length:=by
 obtain⟨t,u,h⟩:=h
 grind[Gx]
theorem vZ.same{b:World}{a:List Rec}(h:vZ w A a)(c:b.heap[A]? =w.heap[A]?):vZ b A a:=by
 obtain⟨t,u,h⟩:=h
 exact⟨t,u,c.trans h⟩
def IB(t:Int)(l:List Rec):StateM×Bool:=l.foldl (Rl.stepT t) (qF,false)
theorem a3F(t:Int)(l:List Rec)(r:Rec):IB t (l++[r])=Rl.stepT t (IB t l) r:=by simp[IB]
theorem a9p(t:Int)(l:List Rec):Td (IB t l).1 (iq l):=by
 unfold IB
 rw[NM]
 exact(Gt _).mono (Iq _ _)
theorem a7d(t:Int)(l:List Rec):(IB t l).1=mF (kr t l):=by unfold IB;rw[NM];rfl
theorem Ww{m:az}(b:Ord m.files){f:aD}(c:f∈Ju m.files):f∈m.files/\f.name.size=5/\kH m f.name=f.data:=by
 obtain⟨a,g⟩:=List.mem_filter.1 c
 have d:f.name.size=5:=by by_cases e:f.name.size=5<;>grind[Gw]
 refine⟨a,d,?_⟩;unfold kH
 rw[afN (F5 (by omega) (by omega)),(q9 b).2 ⟨a,rfl⟩]
theorem abv{m:az}(a:Ord m.files):zb m (kU m.files)=xw m.files:=by
 unfold zb kU xw
 rw[List.flatMap_map]
 have:∀l:List aD,(∀f∈l,kH m f.name=f.data)->l.flatMap (λf=>jY (kH m f.name))=l.flatMap λf=>jY f.data:=by intro l;induction l<;>grind
 simp_all[Ww]
theorem SL{m:az}(a:Ord m.files){s:ByteArray}(h:s∈kU m.files):s.size<=8/\(kH m s).size<=aR m.files:=by
 obtain⟨f,b,rfl⟩:=agG.1 h;obtain⟨e,d,c⟩:=Ww a b
 simp_all[Kk]
theorem SQ(l:List aD):(kU l).length<=l.length:=by
 unfold kU Ju
 grind
end Rl
theorem Wx{P:Program}{Q:Exit->Act->World->Prop}{a:Act}{id:Nat}{b f:Oper}{d:List Rec}{r:Rec}{z v1:Value}(m:b.guard=none)(l:f.guard=none)(g:vZ w A (r::d))(j:(execOp a.eval b).run P w=.ok (.comm #[rcase A z] true (.recv true)) w)(i:∀e,(execOp (a.put b.dst (.tuple #[dB r,.bool true])).eval f).run P e=.ok (.value v1) e)(h:∀e,vZ e A d->dJ (λk=>k=A) w e->Q .normal ((a.put b.dst (.tuple #[dB r,.bool true])).put f.dst v1) e):
  (Code.region id #[b,f] false).wp P Q a w:=by
 refine xy ?_;show ku P #[b,f] Q [0,1] a w;obtain⟨t,u,g⟩:=g;refine ku.recv true (o:=b) (z:=z) (c:=A) (w2:=w) rfl m j g (by simp) ?_;have p:got true (((r::d).map dB).toArray.getD 0 undef) true=.tuple #[dB r,.bool true]:=by simp[got]
 have n:(((r::d).map dB).toArray.extract 1 ((r::d).map dB).toArray.size)=(d.map dB).toArray:=by apply ahd;simp;exact aga (by simp)
 rw[p,n]
 refine ku.value (o:=f) rfl l (i _) (ku.nil (h _ ⟨t,u+1,?_⟩ (Em _ _ _ _ _ _ _)));exact heap_setChan _ _ _ _ _ _ _ _ (afD.1 g).1
theorem Wy{P:Program}{Q:Exit->Act->World->Prop}{a:Act}{id:Nat}{b d:Oper}{z v1:Value}(j:b.guard=none)(i:d.guard=none)(e:vZ w A [])(h:(execOp a.eval b).run P w=.ok (.comm #[rcase A z] true (.recv true)) w)(g:(execOp (a.put b.dst (.tuple #[z,.bool false])).eval d).run P w=.ok (.value v1) w)(f:Q .normal ((a.put b.dst (.tuple #[z,.bool false])).put d.dst v1) w):
  (Code.region id #[b,d] false).wp P Q a w:=by
 refine xy ?_;show ku P #[b,d] Q [0,1] a w;obtain⟨t,u,e⟩:=e;exact ku.a3y true (o:=b) (z:=z) (c:=A) (w2:=w) rfl j h e (ku.value (o:=d) rfl i g (ku.nil f))
theorem a3G{l:List Rec}(h:k<l.length){s:StateM}{d:Bool}(a:(s,d)=IB t (l.take k)):
  ((if (d||decide (t<(l[k].time:Int)))=true then s else ji s l[k]),(d||decide (t<(l[k].time:Int))))=IB t (l.take (k+1)):=by
 grind[afH,a3F,Rl.stepT]
theorem QR{S:Nat->Prop}{n:Nat}{a b c:World}(hb:Below n a b)(d:dJ S b c)(u:∀k,S k->n<=k)(hn:n<=a.heap.size:=by exact afA _):Below n a c:=
 ⟨d.os.trans hb.os,d.tape.trans hb.tape,d.output.trans hb.output,afC hb.size d.size,λk R=>(d.block k (afB R (afC hn hb.size)) (λh=>by have:=u k h;omega)).trans (hb.block k R)⟩
theorem Wz(w:World)(S:Nat->Prop)(p b:Nat)(cv:ByteArray->Value)(m:az)(h:bS w S p b cv m)(hn:m.files.length<=4194304)(hu:aR m.files<=1048576)(t:Int)(HS:∀(b:ByteArray)(w:World),b.size<=1048576->ai3 195 #[.string b] w λe w'=>qI b w e w'):
  ai3 100 #[.pointer (some ⟨p,0,none⟩),.int .i64 t] w λe w'=>∃a,e=.returned (.agg (O1 a (pW m.files t)))/\ze w' w.heap.size a (pW m.files t)/\ah' w w':=by
 have HI:=h;have HSC:=hide HS;have hlw:=Sz m.files;have hll:=Jv (xw m.files);have HLG:=hide (Qz m.files);have HLE:=hide (abv h.ord);have HSM:=hide (λs(hs:s∈kU m.files)=>SL h.ord hs);have hsl:=SQ m.files;go_enter ah.func100,ah.ntmps100
 go_upto_region 3 with fail
 obtain⟨wb,O⟩:∃wb,((w.alloc (.cells #[.bool false,.map none,.bool false,.map none,.bool false,.map none,.bool false,.map none,.bool false,.map none,.bool false,.map none] 155)).alloc (.cells #[.bool false,.map none,.bool false,.map none,.bool false,.map none,.bool false,.map none,.bool false,.map none,.bool false,.map none] 155))=wb:=⟨_,rfl⟩;have bb:ah' w wb:=by rw[<-O];exact CY
 have eb:wb.heap.size=w.heap.size+2:=by rw[<-O];simp
 have HR0:∀B,Hid (fF wb B w.heap.size (λ_=>.map none) qF):=λB=>by rw[<-O];exact((Kl w B).lay 155).later (aL _ _)
 have HQ0:∀B,Hid (fF wb B (w.heap.size+1) (λ_=>.map none) qF):=λB=>by
  rw[<-O]
  have h:=(Kl (w.alloc (.cells (O1 (λ_=>.map none) qF) 155)) B).lay 155
  rw[show(w.alloc (.cells (O1 (λ_=>.map none) qF) 155)).heap.size=w.heap.size+1 by simp]at h
  exact h
 rw[O]
 have HG:=hide (O0 wb S p b cv m (HI.later bb) hn)
 have ad3:=hide (λ(w2:World)(V:ah' wb w2)(v2:Value)(hr2:bz w2 v2 (kU m.files).length 1 (mP (kU m.files)))=>
  Wv w2 S p b cv m ((HI.later bb).later V) v2 (kU m.files) hr2 (λs hs=>afC (HSM.out s hs).2 hu) (λs hs=>(HSM.out s hs).1) (by rw[HLE.out];omega) (by omega) HSC.out)
 go_wp2_with (first
  |(go_at_call 150;refine HG.out.mono ?_;rintro e w2 ⟨v2,rfl,hr2,ho2,V⟩)
  |(go_at_call 149;refine(ad3.out _ V _ hr2).mono ?_;rintro e L ⟨A,t3,rfl,hch,hc3,q⟩))
 have X:=af V q V.size;have ad4:=hide (af bb X bb.size);have hR3:=hide ((HR0 L.heap.size).out.later X);have hQ3:=hide ((HQ0 L.heap.size).out.later X);have hz2:=V.size;have hz3:=q.size;have hcl:A<L.heap.size:=(afD.1 hc3).1;have HSH:Hid (vZ L A (xw m.files)):=by rw[<-HLE.out];exact⟨_,_,hc3⟩
 have HST:Hid (pW m.files t=(IB t (xw m.files)).1):=(a7d t _).symm;generalize xw m.files=l at*;obtain⟨E,abw⟩:∃E,E=pW m.files t:=⟨_,rfl⟩
 rw[<-abw]at HST
 have HSF:=hide abw;have aeG:A≠w.heap.size+1:=by omega
 have afl:A≠w.heap.size:=by omega
 go_loopw [6] (λdn wr=>∃(k:Nat)(a:Nat->Value)(s:StateM)(d:Bool),k<=l.length/\dn=.bool d/\Hid ((s,d)=IB t (l.take k))/\Hid (vZ wr A (l.drop k))/\Hid (fF wr L.heap.size (w.heap.size+1) a s)/\dJ (λj=>j=A\/j=w.heap.size+1\/L.heap.size<=j) L wr) (λ_ wr=>Gx wr A)
 case atStart=>exact⟨0,_,qF,false,afK _,rfl,rfl,HSH,hQ3,dJ.refl _ _⟩
 case round=>
  obtain⟨k,a,s,d,R,rfl,hsd,hsh,his,ht⟩:=hrel
  by_cases Z:k<l.length
  ·have hdr:l.drop k=l[k]::l.drop (k+1):=agt Z
   have Q:=hsh.out
   rw[hdr]at Q
   have F:=hsh.out.count;have abx:=hide (a3G Z hsd.out);have hgr:=HLG.out l[k] (afS Z);have y:=a9p t (l.take k)
   rw[<-hsd.out]at y
   have hwk:iq (l.take k)<=iq l:=by
    have e:=Qy (l.take k) (l.drop k)
    rw[ah2]at e
    omega
   have hok2:=y.mono (show iq (l.take k)<=4128768 by omega);have hlen1:(l.drop k).length=(l.drop (k+1)).length+1:=by rw[hdr];rfl
   have U:=hide ht;have HOK:=hide hok2;have HGR:=hide hgr;generalize l[k]=r at*;obtain⟨M,W⟩:∃M,M=l.drop (k+1):=⟨_,rfl⟩
   rw[<-W]at Q hlen1
   have n:=hide W
   go_upto_region 4 with fail
   refine Wx (z:=.agg #[.int .i64 0,.int .i64 0,.int .i64 0,.string ⟨#[]⟩]) (v1:=.bool true) rfl rfl Q ?_ ?_ ?_
   ·unfold rcase;go_simp
   ·intro w';unfold dB;go_simp
   ·intro w4 ad5 ht4
    unfold dB;have hi4:Hid (fF w4 L.heap.size (w.heap.size+1) a s):=his.out.touch ht4 (λe=>aeG e.symm) (λi hi b hb e=>by have:=(his.out.far i hi b hb).1;omega);have aeH:=hide ad5;have HT4:=hide (U.out.trans ht4 (λi hi=>.inl (.inl hi)));have acO:=HT4.out.size;have ba:=aL w4 (.cells #[.int .i64 (r.time:Int),.int .i64 (r.kind:Int),.int .i64 (r.peer:Int),.string r.body] 131);obtain⟨x0,x1,x2,x3,_,_,_,_,xl⟩:=fJ w4 (.int .i64 (r.time:Int)) (.int .i64 (r.kind:Int)) (.int .i64 (r.peer:Int)) (.string r.body) 131;have u:=hide (hi4.out.later ba);have c:=hide (aeH.out.same (ba.block A (by omega)));have C:=hide (HT4.out.below ba);have hz5:=ba.size;have HAP:=hide (a3x (w4.alloc (.cells #[.int .i64 (r.time:Int),.int .i64 (r.kind:Int),.int .i64 (r.peer:Int),.string r.body] 131)) L.heap.size (w.heap.size+1) a s r u.out HGR.out (by omega) HOK.out);unfold dB at HAP;have f:Gx (w4.alloc (.cells #[.int .i64 (r.time:Int),.int .i64 (r.kind:Int),.int .i64 (r.peer:Int),.string r.body] 131)) A<Gx wr A:=by rw[c.out.count,F];omega
    cases d with
    |true=>
     have o:Hid ((s,true)=IB t (l.take (k+1))):=hide (by have h:=abx.out;simpa using h);exact C8
    |false=>
     by_cases ht2:t<(r.time:Int)
     ·have hdt:decide (t<(r.time:Int))=true:=afL ht2
      have o:Hid ((s,true)=IB t (l.take (k+1))):=hide (by have h:=abx.out;simpa[ht2]using h);exact C8
     ·have hdt:decide (t<(r.time:Int))=false:=afG ht2
      have o:Hid ((ji s r,false)=IB t (l.take (k+1))):=hide (by have h:=abx.out;rw[hdt]at h;simpa using h);go_wp2_with (go_at_call 151;refine HAP.out.ai ?_;rintro w6 ⟨mv6,hi6,ht6⟩);have ad6:Hid (vZ w6 A M):=c.out.same (ht6.block A (by omega) (by omega));have f:Gx w6 A<Gx wr A:=by rw[ad6.out.count,F];omega
      exact⟨⟨k+1,mv6,_,false,by omega,rfl,o,by rw[<-n.out];exact ad6,hi6,C.out.trans ht6 (λi hi=>.inl (.inr hi))⟩,f⟩
  ·have e:k=l.length:=by omega
   subst e
   rw[List.drop_length]at hsh
   rw[ag8]at hsd
   have hsf:s=E:=by rw[HST.out,<-hsd.out]
   have U:=hide ht
   go_upto_region 4 with fail
   refine Wy (z:=.agg #[.int .i64 0,.int .i64 0,.int .i64 0,.string ⟨#[]⟩]) (v1:=.bool false) rfl rfl hsh.out ?_ ?_ ?_
   ·unfold rcase;go_simp
   ·go_simp
   ·have hi:=his.out
    have Y:=hR3.out.touch U.out (by omega) (λi hi b hb=>by cases hb);have g:=hi.ups 0 (by omega);have u1:=hi.ups 1 (by omega);have u2:=hi.ups 2 (by omega);have u3:=hi.ups 3 (by omega);have u4:=hi.ups 4 (by omega);have u5:=hi.ups 5 (by omega);have v0:=hi.IG 0 (by omega);have v1:=hi.IG 1 (by omega);have v2:=hi.IG 2 (by omega);have v3:=hi.IG 3 (by omega);have v4:=hi.IG 4 (by omega);have v5:=hi.IG 5 (by omega);have y0:=Y.ups 0 (by omega);have y1:=Y.ups 1 (by omega);have y2:=Y.ups 2 (by omega);have y3:=Y.ups 3 (by omega);have y4:=Y.ups 4 (by omega);have y5:=Y.ups 5 (by omega);have x0:=Y.IG 0 (by omega);have x1:=Y.IG 1 (by omega);have x2:=Y.IG 2 (by omega);have x3:=Y.IG 3 (by omega);have x4:=Y.IG 4 (by omega);have x5:=Y.IG 5 (by omega);have z0:=Y.fz 0 (by omega);have z1:=Y.fz 1 (by omega);have H:=Y.fz 2 (by omega);have z3:=Y.fz 3 (by omega);have z4:=Y.fz 4 (by omega);have z5:=Y.fz 5 (by omega);have z6:=Y.fz 6 (by omega);have z7:=Y.fz 7 (by omega);have z8:=Y.fz 8 (by omega);have z9:=Y.fz 9 (by omega);have z10:=Y.fz 10 (by omega);have z11:=Y.fz 11 (by omega);simp only[Nat.zero_mul,Nat.one_mul,Nat.reduceMul,Nat.reduceAdd]at g u1 u2 u3 u4 u5 v0 v1 v2 v3 v4 v5 y0 y1 y2 y3 y4 y5 x0 x1 x2 x3 x4 x5;have hval:=hi.val
    rw[hsf]at hval
    have HV:=hide hval;obtain⟨m0,hm0⟩:=pmap_map (HV.out.maps 0 (by omega));obtain⟨m1,hm1⟩:=pmap_map (HV.out.maps 1 (by omega));obtain⟨T,hm2⟩:=pmap_map (HV.out.maps 2 (by omega));obtain⟨m3,hm3⟩:=pmap_map (HV.out.maps 3 (by omega));obtain⟨N,hm4⟩:=pmap_map (HV.out.maps 4 (by omega));obtain⟨m5,hm5⟩:=pmap_map (HV.out.maps 5 (by omega))
    rw[hm0]at v0
    rw[hm1]at v1
    rw[hm2]at v2
    rw[hm3]at v3
    rw[hm4]at v4
    rw[hm5]at v5
    have HM:=hide (And.intro hm0 (And.intro hm1 (And.intro hm2 (And.intro hm3 (And.intro hm4 hm5)))));go_wp2_with fail;refine abt (v:=.agg #[.bool (E 0).up,.map m0,.bool (E 1).up,.map m1,.bool (E 2).up,.map T,.bool (E 3).up,.map m3,.bool (E 4).up,.map N,.bool (E 5).up,.map m5]) ?_ rfl ?_
    ·unfold results
     rw[show(ah.f100).results=#[ResultVar.cell 4 155]from rfl]
     simp only[List.mapM_toArray,ah6,List.mapM_nil,Sem.run_bind]
     go_simp
    ·obtain⟨e0,e1,e2,e3,J,I⟩:=HM.out
     have hv:O1 a E=#[.bool (E 0).up,.map m0,.bool (E 1).up,.map m1,.bool (E 2).up,.map T,.bool (E 3).up,.map m3,.bool (E 4).up,.map N,.bool (E 5).up,.map m5]:=by unfold O1;rw[e0,e1,e2,e3,J,I]
     have ad7:=((((((((((((fH (S:=λk=>k=w.heap.size) (w:=wr) (p:=⟨w.heap.size,0,none⟩) (.bool (E 0).up) rfl).set (p:=⟨w.heap.size,1,none⟩) (.map m0) (.inl rfl)).set (p:=⟨w.heap.size,2,none⟩) (.bool (E 1).up) (.inl rfl)).set (p:=⟨w.heap.size,3,none⟩) (.map m1) (.inl rfl)).set (p:=⟨w.heap.size,4,none⟩) (.bool (E 2).up) (.inl rfl)).set (p:=⟨w.heap.size,5,none⟩) (.map T) (.inl rfl)).set (p:=⟨w.heap.size,6,none⟩) (.bool (E 3).up) (.inl rfl)).set (p:=⟨w.heap.size,7,none⟩) (.map m3) (.inl rfl)).set (p:=⟨w.heap.size,8,none⟩) (.bool (E 4).up) (.inl rfl)).set (p:=⟨w.heap.size,9,none⟩) (.map N) (.inl rfl)).set (p:=⟨w.heap.size,10,none⟩) (.bool (E 5).up) (.inl rfl)).set (p:=⟨w.heap.size,11,none⟩) (.map m5) (.inl rfl))
     rw[<-HSF.out]
     have hz0:=ad4.out.size;refine⟨a,by rw[hv],?_,?_⟩
     ·have h:=HV.out.touch ad7 (λi hi b hb e=>by have:=HV.out.far i hi b hb;omega)
      exact⟨h.maps,λi hi b hb=>afC hz0 (h.far i hi b hb),h.apart⟩
     ·exact QR (QR ad4.out U.out (λj hj=>by obtain h|h|h:=hj<;>omega)) ad7 (λj hj=>by rw[hj];exact jF)
namespace Rl
theorem IC{l:List Rec}(c:k<=l.length)(h:∀j(e:j<l.length),j<k->(l[j].time:Int)<=t):kr t l=l.take k++kr t (l.drop k):=by
 induction k generalizing l with
 |zero=>simp
 |succ k b=>
  cases l with
  |nil=>simp at c
  |cons a r=>
   have f:=h 0 (by simp) (by omega);simp only[afX]at f;have:=b (l:=r) (by grind) (λj e d=>by have:=h (j+1) (by omega) (by omega);simpa using this);unfold kr at this |-
   rw[List.takeWhile_cons,afN (by grind),this]
   rfl
theorem SV{l:List Rec}(a:k<l.length)(h:t<(l[k].time:Int)):kr t (l.drop k)=[]:=by grind[agt,kr,List.takeWhile_cons]
theorem WA{l:List Rec}(h:k<l.length):mF (l.take (k+1))=ji (mF (l.take k)) l[k]:=by unfold mF;rw[afH h,List.foldl_append];rfl
theorem SX(l:List Rec)(k:Nat):iq (l.take k)<=iq l:=by
 induction l generalizing k with
 |nil=>simp[iq]
 |cons a r b=>
  cases k with
  |zero=>simp[iq]
  |succ k=>simp_all[List.take_succ_cons,iq]<;>omega
theorem a3H(w:World)(B:Nat)(T:TypeId):gM (w.alloc (.cells #[.bool false,.bool false,.bool false,.bool false,.bool false,.bool false,.slice none 0 0,.slice none 0 0,.slice none 0 0,.slice none 0 0,.slice none 0 0,.slice none 0 0] T)) B w.heap.size (λ_=>.slice none 0 0) qF:=by
 refine⟨λi a=> ?_,λi a=> ?_,λj c=>by simp,by simp,λi a=>bz.nil _ _ _ _,λi a k b=>by cases b⟩
 ·have:i=0\/i=1\/i=2\/i=3\/i=4\/i=5:=by omega
  obtain rfl|rfl|rfl|rfl|rfl|rfl:=this<;>simp[qF]
 ·have:i=0\/i=1\/i=2\/i=3\/i=4\/i=5:=by omega
  obtain rfl|rfl|rfl|rfl|rfl|rfl:=this<;>simp
end Rl
open Rl
theorem Zw(w:World)(v:Value)(l:List Rec)(t:Int)(Y:bz w v l.length 4 (dV l))(hg:∀r∈l,VK r)(hW:iq l<=4194304)(_ht:0<=t/\t<=4294967295):
  ai3 49 #[v,.int .i64 t] w λe w'=>∃P rv,e=.returned (.pointer (some ⟨P,0,none⟩))/\gM w' w.heap.size P rv (mF (kr t l))/\ah' w w':=by
 obtain⟨av,cv,rfl⟩:=a9o Y;have V:=a3H w w.heap.size 107;have Q:=hide (dJ.aK (S:=λ_=>False) (aL w (.cells #[.bool false,.bool false,.bool false,.bool false,.bool false,.bool false,.slice none 0 0,.slice none 0 0,.slice none 0 0,.slice none 0 0,.slice none 0 0,.slice none 0 0] 107)));have hLL:=Jv l;have HG:=hide hg;go_enter anF,ntmps49;go_wp2
 go_loopw [6] (λi wr=>∃(k:Nat)(rv:Nat->Value),k<=l.length/\i=.int .i64 k/\Hid (∀j(hj:j<l.length),j<k->(l[j].time:Int)<=t)/\Hid (gM wr w.heap.size w.heap.size rv (mF (l.take k)))/\Hid (dJ (λ_=>False) w wr)) (λi _=>l.length-(intOf i).toNat)
 case atStart=>exact⟨0,_,afK _,rfl,λj _ h=>by omega,V,Q.out⟩
 case round=>
  obtain⟨k,rv,R,rfl,G,HR,U⟩:=hrel
  by_cases Z:k<l.length
  ·have E:=iQ Y U.out (λ_ _ x=>x)
   obtain⟨_,_,_,J⟩|⟨g,o,cap,e,_,hbk,M⟩:=E.2
   ·omega
   ·cases e
    obtain⟨g1,g2,g3,g4⟩:=yX l k Z;have q0:wr.cell? ⟨g,o+k*4,none⟩=_:=M _ _ g1;have q1:wr.cell? ⟨g,o+k*4+1,none⟩=_:=M _ _ g2;have q2:wr.cell? ⟨g,o+k*4+2,none⟩=_:=M _ _ g3;have q3:wr.cell? ⟨g,o+k*4+3,none⟩=_:=M _ _ g4;have hx:(k:Int)<(l.length:Int):=by omega
    have hk0:(0:Int)<=(k:Int):=by omega
    by_cases F:t<(l[k].time:Int)
    ·have HE:Hid (mF (kr t l)=mF (l.take k)):=by rw[Hid,IC (Nat.le_of_lt Z) G.out,SV Z F,ah0]
     generalize l[k]=r at*;exact ai8
    ·have X:Hid (∀j(hj:j<l.length),j<k+1->(l[j].time:Int)<=t):=λj hj hjk=>by
      by_cases e:j=k
      ·subst e;omega
      ·exact G.out j hj (by omega)
     have u:=hide (WA Z);have y:=Gt (l.take k);have hwk:=SX l k;have L:=HG.out _ (afS Z);have hsz:=U.out.size;have HC:=hide (a3p wr w.heap.size w.heap.size rv (mF (l.take k)) l[k] HR.out L (by omega) (λi=>afC (y i).len (by omega)));have W:Hid (dB l[k]=.agg #[.int .i64 (l[k].time:Int),.int .i64 (l[k].kind:Int),.int .i64 (l[k].peer:Int),.string l[k].body]):=rfl
     rw[W.out]at HC
     generalize I:l[k]=r at*;go_wp2_with (go_at_call 102;refine HC.out.ai ?_;rintro w2 ⟨d,O,N⟩);refine⟨⟨k+1,d,by omega,by go_num,X.out,by rw[Hid,u.out];exact O,U.out.trans N (λi e=>.inr (by omega))⟩,aA⟩
  ·have e:k=l.length:=by omega
   subst e
   have HE:Hid (mF (kr t l)=mF (l.take l.length)):=by rw[Hid,IC (afA _) G.out,List.drop_length];simp[kr]
   have hx:¬(l.length:Int)<(l.length:Int):=by omega
   exact ai8
end Go.Proofs.Zq
