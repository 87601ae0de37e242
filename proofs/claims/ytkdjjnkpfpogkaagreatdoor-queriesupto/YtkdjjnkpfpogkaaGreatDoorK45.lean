import Derived.Test.YtkdjjnkpfpogkaaGreatDoorK44
set_option maxHeartbeats 8000000
set_option linter.all false
set_option maxRecDepth 20000
namespace Go
def ar0{P:Prop}(h:P:=by
 go_wp2
 go_loopw [4,5] (λx i wr=>∃(n:Nat)(xs:List Rec)(s:ByteArray)(lv:Value),lv=x/\i=.int .i64 n/\Hid (Ii b xs n s)/\wr.ownsRow w.heap.size 131 4 lv xs.length (dV xs)/\ah' w wr) (λ_ i _=>b.size-(intOf i).toNat)
 case atStart=>exact⟨0,[],b,_,rfl,rfl,OP b,a9X _ _ _ _,a0n _ _⟩
 case round=>
  obtain⟨n,xs,s,lv,rfl,rfl,HM,hown,hbel⟩:=hrel;obtain⟨av,cv,rfl⟩:=fO hown;have hm:=HM.out;obtain⟨_,_,m3,m4,m5⟩:=hm;have m4i:(n:Int)<=(b.size:Int):=by omega
  have hsz:s.size<=2097152:=by rw[m3,afU];omega
  have HS:=m3;have hcall:=λwx=>f s wx hsz
  clear m3 f;cases hf:fw s with
  |false=>
   obtain⟨e1,e2⟩:=ny hf;obtain⟨r1,r2⟩:=VF HM.out hf;have HA0:dB ⟨0,0,0,⟨#[]⟩⟩=.agg #[.int .i64 0,.int .i64 0,.int .i64 0,.string ⟨#[]⟩]:=rfl
   rw[e1,e2,HA0]at hcall
   clear e1 e2 HA0;have HR:Hid (jY b=xs/\Cc b=n):=⟨r1,r2⟩;clear r1 r2;go_wp2_with fail
   rw[<-HS]
   refine(hcall _).ai ?_;intro w2 hb2;have hown2:=bu hown hb2;have Ej:=af hbel hb2 hbel.size;go_wp2;go_ret2;refine⟨.slice av xs.length cv,?_,?_,?_,?_,?_⟩
   ·rw[HR.out.2];rfl
   ·rw[HR.out.1];exact hown2.alloc _
   ·exact Ej.alloc Ej.size _
   ·rw[HR.out.1];omega
   ·rw[HR.out.2];omega
  |true=>
   obtain⟨e1,e2⟩:=x9 hf;have HN:=hide (Ij HM.out hf);have hm2:=(Ij HM.out hf).2.2.2.1
   rw[e1,e2]at hcall
   clear e1 e2 hf;have HA:Hid (∀r:Rec,dB r=.agg #[.int .i64 (r.time:Int),.int .i64 (r.kind:Int),.int .i64 (r.peer:Int),.string r.body]):=λ_=>rfl
   rw[HA.out]at hcall
   clear HA;generalize mZ s=r at*;generalize gZ s=N at*;have hne:(((12+N:Nat):Int)==0)=false:=by rw[afW];omega
   obtain⟨M,hM⟩:∃M,M=n+(12+N):=⟨_,rfl⟩;have hnn:(n:Int)+((12+N:Nat):Int)=(M:Int):=by omega
   have hMn:(n:Int)<(M:Int)/\(M:Int)<=(b.size:Int):=by omega
   rw[<-hM]at HN
   clear hM hm2;generalize 12+N=Z at*;go_wp2_with fail
   rw[<-HS]
   refine(hcall _).ai ?_;intro w2 hb2;have hown2:=bu hown hb2;have Ej:=af hbel hb2 hbel.size;have HT:Hid (dV (xs++[r])=dV xs++[.int .i64 (r.time:Int),.int .i64 (r.kind:Int),.int .i64 (r.peer:Int),.string r.body]):=by rw[yV];rfl
   go_wp2_with (at_builtin;refine af4 _ rfl _ _ 101 rfl w.heap.size 131 i0 (.agg #[.int .i64 0,.int .i64 0,.int .i64 0,.string ⟨#[]⟩]) 4 40 akO g a c d rfl (by decide) _ _ _ rfl ((hown2.alloc _).alloc _) ⟨w2.heap.size+1,0,none⟩ 1 1 [.int .i64 (r.time:Int),.int .i64 (r.kind:Int),.int .i64 (r.peer:Int),.string r.body] rfl rfl (wJ _ _ _ _) (Wm _ _ _ _) (by unfold maxLen;omega) (by omega) (by have:=Ej.size;simp;omega) ?_;intro v5 w5 hown5 abu _);refine⟨⟨M,xs++[r],Ih s,v5,rfl,rfl,HN,?_,Uv Ej Ej.size hown2 abu⟩,by simp[intOf];omega⟩
   rw[HT.out]
   simpa using hown5):P:=h
def aY{P:Prop}(h:P:=by
 go_wp2;go_ret
 exact⟨rfl,aL _ _⟩):P:=h
def CV{P:Prop}(h:P:=by
 go_wp2_with fail;refine(hu _).mono ?_;rintro e w1 ⟨v1,v2,rfl,H,o1,j,_⟩;obtain⟨a1,c1,rfl⟩:=fO o1;obtain⟨a2,c2,rfl⟩:=fO j;have d:=gJ f H;go_wp2;go_ret
 exact⟨a3g (by rw[ah1];simp),gJ d (aL _ _)⟩):P:=h
def aik{P:Prop}(h:P:=by
 go_enter akq,ntmps198;go_wp2;go_ret
 exact⟨dx a.out.symm,rfl⟩):P:=h
def CX{P:Prop}(h:P:=by
 go_wp2_with fail;refine(Y _).ai ?_;intro w1 H;have d:=gJ f H;go_wp2;go_ret
 exact⟨rfl,gJ d (aL _ _)⟩):P:=h
def aiD{P:Prop}(h:P:=by
 go_enter aly,ntmps59;go_wp2;go_ret
 exact⟨⟨0,rfl,by rw[a.out];rfl⟩,rfl⟩):P:=h
end Go
namespace Go.Proofs.Zq
open Tryz
open Go.RowKit
variable{n:ByteArray}
namespace Rl
def qH(n:ByteArray)(i:Nat):Prop:=48<=at8 n.data.toList i/\at8 n.data.toList i<=57
instance (n:ByteArray)(i:Nat):Decidable (qH n i):=by unfold qH;infer_instance
theorem Gw(h:n.size≠5):jo n=false:=by grind[jo]
theorem N9(h:at8 n.data.toList 0≠115):jo n=false:=by grind[jo]
theorem QP{i:Nat}(b:1<=i)(a:i<=4)(h:¬qH n i):jo n=false:=by grind[qH,jo]
theorem Oa(h:at8 n.data.toList 1=48/\at8 n.data.toList 2=48/\at8 n.data.toList 3=48/\at8 n.data.toList 4=48):jo n=false:=by grind[jo]
theorem QQ(c:n.size=5)(d:at8 n.data.toList 0=115)(b:∀i,1<=i->i<=4->qH n i)(a:¬(at8 n.data.toList 1=48/\at8 n.data.toList 2=48/\at8 n.data.toList 3=48/\at8 n.data.toList 4=48)):jo n=true:=by simp_all[qH,jo]<;>omega
abbrev a6Z:ByteArray:={data:=#[115,48,48,48,48]}
theorem Wo(m:n.size=5)(j:at8 n.data.toList 0=115):n=a6Z↔(at8 n.data.toList 1=48/\at8 n.data.toList 2=48/\at8 n.data.toList 3=48/\at8 n.data.toList 4=48):=by
 constructor
 ·rintro rfl;exact⟨rfl,rfl,rfl,rfl⟩
 ·rintro⟨i,h,g,f⟩
  obtain⟨⟨l⟩⟩:=n;have k:l.length=5:=m
  match l,k with
  |[a,b,c,d,e],_=>
   simp only[at8,List.getD_cons_zero,List.getD_cons_succ]at j i h g f;have s:a=115:=UInt8.toNat_inj.1 j;have r:b=48:=UInt8.toNat_inj.1 i;have q:c=48:=UInt8.toNat_inj.1 h;have p:d=48:=UInt8.toNat_inj.1 g;have o:e=48:=UInt8.toNat_inj.1 f;subst s r q p o;rfl
end Rl
open Rl
theorem OZ(n:ByteArray)(w:World):ai3 198 #[.string n] w λe u=>e=.returned (.bool (jo n))/\u=w:=by
 by_cases l:n.size=5
 ·have A:=dD n 0 (by omega)
  have G:=gG n.data.toList 0;have x:(0:Int)<(n.size:Int):=by omega
  by_cases f:at8 n.data.toList 0=115
  ·by_cases g:n=a6Z
   ·have a:=hide (Oa ((Wo l f).1 g))
    subst g;exact aik
   ·have y:(n.toList==[115,48,48,48,48])=false:=by have h:=a5e g;rwa[ahN a6Z]at h
    have B:=λh=>g ((Wo l f).2 h);have E:=hide f;have D:=hide l;have I:(n.size:Int)=5:=by omega
    rw[f]at A
    go_enter akq,ntmps198;go_wp2
    go_loop [3] (λi=>∃k:Nat,1<=k/\k<=5/\i=.int .i64 k/\Hid (∀j,1<=j->j<k->qH n j)) (λi=>5-(intOf i).toNat)
    case atStart=>exact⟨1,by omega,by omega,rfl,λj b d=>by omega⟩
    case round=>
     obtain⟨k,m,z,rfl,t⟩:=hrel
     by_cases H:k<5
     ·have J:=dD n k (by omega)
      have F:=gG n.data.toList k;have v:(k:Int)<(n.size:Int):=by omega
      have s:=hide (λh:¬qH n k=>QP (n:=n) m (by omega) h);have C:Hid (48<=at8 n.data.toList k->at8 n.data.toList k<=57->qH n k):=λb d=>⟨b,d⟩
      have r:Hid (at8 n.data.toList k<48\/57<at8 n.data.toList k->¬qH n k):=λb d=>by unfold qH at d;omega
      generalize at8 n.data.toList k=c at*
      by_cases p:c<48
      ·go_wp2
       go_ret
       exact⟨dx (s.out (r.out (.inl p))).symm,rfl⟩
      ·by_cases o:57<c
       ·go_wp2
        go_ret
        exact⟨dx (s.out (r.out (.inr o))).symm,rfl⟩
       ·go_wp2
        go_round
        case rel=>exact⟨k+1,by omega,by omega,by go_num,λj b d=>by
         obtain q|q:=Nat.lt_or_ge j k
         ·exact t.out j b q
         ·have e:j=k:=by omega
          subst e;exact C.out (by omega) (by omega)⟩
        case measure=>simp[intOf];omega
     ·have e:k=5:=by omega
      subst e;have a:=hide (QQ D.out E.out (λj b d=>t.out j b (by omega)) B);go_wp2;go_ret
      exact⟨dx a.out.symm,rfl⟩
  ·have a:=hide (N9 f)
   generalize at8 n.data.toList 0=c at*;have p:((c:Int) != 115)=true:=by simp;omega
   exact aik
 ·have a:=hide (Gw l)
  have p:((n.size:Int) != 5)=true:=by simp;omega
  exact aik
def Wp(n:ByteArray):Nat->Int
 |0=>0
 |k+1=>if k=0 then 0 else 10*Wp n k+((at8 n.data.toList k:Int)-48)
theorem a7a(n:ByteArray):Wp n 1=0:=rfl
theorem yf(n:ByteArray)(k:Nat)(a:1<=k):Wp n (k+1)=10*Wp n k+((at8 n.data.toList k:Int)-48):=by
 show(if k=0 then 0 else _)=_
 omega
theorem a3z(a:∀i,1<=i->i<=4->qH n i):Wp n 5=0↔(at8 n.data.toList 1=48/\at8 n.data.toList 2=48/\at8 n.data.toList 3=48/\at8 n.data.toList 4=48):=by have e:=a 1 (by omega) (by omega);have d:=a 2 (by omega) (by omega);have c:=a 3 (by omega) (by omega);have b:=a 4 (by omega) (by omega);unfold qH at e d c b;simp[yf,a7a]<;>omega
theorem Ob(n:ByteArray)(w:World)(_hs:n.size<=4194304):ai3 59 #[.string n] w λe B=>(∃z:Int,e=.returned (.int .i64 z)/\(z==0)= !jo n)/\B=w:=by
 by_cases s:n.size=5
 ·have H:=dD n 0 (by omega)
  have P:=gG n.data.toList 0;have F:(0:Int)<(n.size:Int):=by omega
  by_cases p:at8 n.data.toList 0=115
  ·have N:=p
   have M:=hide s
   have I:Hid ((∀i,1<=i->i<=4->qH n i)->(Wp n 5==0)= !jo n):=λr=>by
    have b:=a3z r
    by_cases l:Wp n 5=0
    ·rw[l,Oa (b.1 l)];rfl
    ·rw[QQ M.out N r (λx=>l (b.2 x)),afW.2 l];rfl
   have R:(n.size:Int)=5:=by omega
   rw[p]at H
   go_enter aly,ntmps59;go_wp2
   go_loop [3,4] (λx i=>∃(k:Nat)(z:Int),1<=k/\k<=5/\i=.int .i64 k/\x=.int .i64 z/\Hid (z=Wp n k)/\0<=z/\z<10^(k-1)/\Hid (∀j,1<=j->j<k->qH n j)) (λ_ i=>5-(intOf i).toNat)
   case atStart=>exact⟨1,0,by omega,by omega,rfl,rfl,rfl,by omega,by decide,λj b d=>by omega⟩
   case round=>
    obtain⟨k,z,g,G,rfl,rfl,v,D,f,A⟩:=hrel
    by_cases Q:k<5
    ·have S:=dD n k (by omega)
     have O:=gG n.data.toList k;have E:(k:Int)<(n.size:Int):=by omega
     have y:=hide (λh:¬qH n k=>QP (n:=n) g (by omega) h);have J:Hid (48<=at8 n.data.toList k->at8 n.data.toList k<=57->qH n k):=λb d=>⟨b,d⟩
     have u:Hid (at8 n.data.toList k<48\/57<at8 n.data.toList k->¬qH n k):=λb d=>by unfold qH at d;omega
     have K:=hide (yf n k g)
     have C:z<=10000:=by
      have:k=1\/k=2\/k=3\/k=4:=by omega
      obtain rfl|rfl|rfl|rfl:=this<;>simp at f<;>omega
     have L:Hid ((10:Int)^(k+1-1)=10*10^(k-1)):=by
      have:k+1-1=(k-1)+1:=by omega
      rw[Hid,this,Int.pow_succ];omega
     have q:=hide f;generalize at8 n.data.toList k=c at*
     by_cases o:c<48
     ·go_wp2
      go_ret
      exact⟨⟨0,rfl,by rw[y.out (u.out (.inl o))];rfl⟩,rfl⟩
     ·by_cases m:57<c
      ·go_wp2
       go_ret
       exact⟨⟨0,rfl,by rw[y.out (u.out (.inr m))];rfl⟩,rfl⟩
      ·go_wp2
       go_round
       case rel=>exact⟨k+1,10*z+((c:Int)-48),by omega,by omega,by go_num,by go_num,by rw[Hid,K.out,<-v.out],by omega,by have b:=q.out;rw[L.out];omega,λj b d=>by
        obtain t|t:=Nat.lt_or_ge j k
        ·exact A.out j b t
        ·have e:j=k:=by omega
         subst e;exact J.out (by omega) (by omega)⟩
       case measure=>simp[intOf];omega
    ·have e:k=5:=by omega
     subst e;have a:=hide (I.out (λj b d=>A.out j b (by omega)))
     rw[<-v.out]at a
     go_wp2;go_ret
     exact⟨⟨z,rfl,a.out⟩,rfl⟩
  ·have a:=hide (N9 p)
   generalize at8 n.data.toList 0=c at*;have o:((c:Int) != 115)=true:=by simp;omega
   exact aiD
 ·have a:=hide (Gw s)
  have o:((n.size:Int) != 5)=true:=by simp;omega
  exact aiD
open Go.RowKit Go.Shelf Go.Sort
namespace Rl
def Wq(s:ByteArray):Value:=.string s
def kU(l:List aD):List ByteArray:=(Ju l).map λf=>f.name
theorem Ws(l:List aD):kU l=(l.map λf=>f.name).filter λn=>jo n:=by
 unfold kU Ju
 rw[List.filter_map]
 rfl
end Rl
open Rl
theorem Oc(n:ByteArray)(w:World):ai3 197 #[.string n] w λe w'=>e=.returned (.bool (!jo n))/\w'=w:=by
 have h:=λw=>OZ n w
 generalize jo n=b at*;go_enter akp,ntmps197;go_wp2_with (go_at_call 198;refine(h _).ai ?_;intro w' rfl);go_ret
 exact bG
theorem Wt(n:ByteArray)(W:World):FnGives ah.prog 197 #[] #[Wq n] (.bool (!jo n)) W:=by
 show ai3 197 #[.string n] W _
 exact(Oc n W).mono λe c⟨b,a⟩=>⟨b,0,by rw[a];rfl⟩
theorem a3A(p:Option Addr)(d:Nat)(u:Value)(w:World):ai3 241 #[.slice p 0 d,u] w λe w'=>e=.returned (.int .i64 (-1))/\w'=w:=by
 go_enter akz,ntmps241;go_wp2;refine ahF 1 ?_
 rw[ahG]
 exact cB
theorem Zr(p:Option Addr)(d:Nat)(u:Value)(w:World):ai3 196 #[.slice p 0 d,u] w λe w'=>e=.returned (.slice p 0 d)/\w'=w:=by
 go_enter ako,ntmps196;go_wp2_with (go_at_call 241;refine(a3A p d u _).aH ?_);go_ret
 exact bG
theorem below_putRow{B g:Nat}(w:World)(q:Nat)(d:Array ByteArray)(c:B<=g):Below B w (putRow Wq (Sort.ahead w q) g 0 d):=by
 refine⟨rfl,rfl,rfl,by simp[Sort.ahead],λk b=> ?_⟩;have a:g≠k:=by omega
 simp[putRow,mapBlock,Sort.ahead,agT,a]
theorem KU(B:Nat)(v:Value)(l:List ByteArray)(w:World)(P:l.length<=4194304)(Q:B<=w.heap.size)(a:w.ownsRow B 9 1 v l.length (mP l)):
  ai3 196 #[v,.func (.func 197) #[] #[]] w λe i=>∃o,e=.returned o/\bz i o (l.filter λn=>jo n).length 1 (mP (l.filter λn=>jo n))/\(∀k,o.ownBlock=some k->B<=k)/\Below B w i:=by
 obtain⟨rfl,t⟩|⟨g,h,O,rfl,H,G,s,K,_,_⟩:=a.2
 ·have N:l=[]:=afT t
  subst N;refine(Zr none 0 _ w).mono ?_;rintro e i ⟨A,p⟩;subst p
  exact⟨_,A,bz.nil _ _ _ _,λk z=>(by cases z),a0n _ _⟩
 ·have L:∀c w,(callFunc 197 c).run ah.prog w=.ok (.enter 197 c) w:=ahP akp (by kernel_rfl) rfl
  have y:g<w.heap.size:=(afD.1 G).1
  have E:Holds Wq w g 0 l.toArray:=by
   intro j m;have f:j<l.length:=by simpa using m
   have C:=a.cellAt j (by omega);have J:=a.frozenAt j;refine⟨?_,by simpa using J⟩
   rw[agj,C]
   unfold mP
   rw[agn,afP f]
   simp[Wq,f]
  have b:=AnyE.slices_DeleteFunc ah.a9k Wq (λ_=>rfl) (λn=> !jo n) 197 #[] L ⟨#[]⟩ (λw=>by exact Qz9 w) g 0 h l.toArray w (λW x _=>Wt x W) (λ_ _ _ x _=>Wt x _) E (by simp;omega) (by simpa using s)
  change ai3 196 _ _ _ at b
  have M:(l.toArray.toList.filter λx=> !(!jo x))=l.filter λn=>jo n:=by simp
  rw[M,show l.toArray.size=l.length from by simp]at b
  refine b.mono ?_;rintro e i ⟨A,q,p⟩;subst p;have I:(l.filter λn=>jo n).length<=l.length:=List.length_filter_le _ _;have D:Holds Wq (Sort.ahead w q) g 0 l.toArray:=E;refine⟨_,A,⟨by rw[ru];omega,?_⟩,λk z=>by simp only[Value.ownBlock,ag1]at z;omega,below_putRow w q _ H⟩
  by_cases F:(l.filter λn=>jo n).length=0
  ·exact .inl ⟨_,_,by rw[F],F⟩
  ·refine .inr ⟨g,0,h,rfl,by omega,by simpa[Sort.ahead]using y,λj u m=> ?_⟩
   have d:j<(l.filter λn=>jo n).length:=by
    have:=(afY.1 m).1
    rwa[ru]at this
   have r:((l.filter λn=>jo n)++List.replicate (l.length-(l.filter λn=>jo n).length) (⟨#[]⟩:ByteArray)).toArray.size=l.toArray.size:=by simp;omega
   have C:=cell?_putRow Wq (Sort.ahead w q) g 0 l.toArray _ D r j (by simp;omega)
   rw[C,<-m]
   unfold mP
   rw[agn,afP d]
   simp only[agy,Wq,ag1,Value.string.injEq]
   rw[ahb _ _ (by simp;omega)]
   simp[List.getElem_append_left d]
theorem O0(w:World)(S:Nat->Prop)(p b:Nat)(o:ByteArray->Value)(m:az)(h:bS w S p b o m)(s:m.files.length<=4194304):
  ai3 150 #[.pointer (some ⟨p,0,none⟩)] w λe l=>∃v,e=.returned v/\bz l v (kU m.files).length 1 (mP (kU m.files))/\(∀k,v.ownBlock=some k->w.heap.size<=k)/\ah' w l:=by
 have u:=MJ w S p b o m h s;have t:=hide (Ws m.files)
 rw[t.out]
 have g:(m.files.map λf=>f.name).length=m.files.length:=by simp
 go_enter alU,ntmps150
 go_wp2_with (first
  |(go_at_call 98;refine u.mono ?_;rintro e q ⟨r,rfl,d,a⟩)
  |(go_at_call 196;refine(KU w.heap.size r (m.files.map λf=>f.name) q (by omega) a.size (by rw[g];exact d)).mono ?_;rintro e x ⟨y,rfl,c,i,j⟩))
 go_ret
 exact⟨_,rfl,c,i,a.trans j⟩
end Go.Proofs.Zq
namespace Go.Proofs.Zq
open Tryz
open Go.RowKit
open Rl
variable{w:World}{v:Value}{ch:Nat}
theorem Iz:(ah.prog.info? 131).map (λi=>(i.zero,i.size,i.bytes))=some (some (.agg #[.int .i64 0,.int .i64 0,.int .i64 0,.string ⟨#[]⟩]),4,40):=by kernel_rfl
theorem Wm(t k p:Int)(b:ByteArray):∀u∈[Value.int .i64 t,Value.int .i64 k,Value.int .i64 p,Value.string b],u.oneCell'=true:=by intro u a;simp at a;obtain rfl|rfl|rfl|rfl:=a<;>rfl
def qI(b:ByteArray)(w:World)(e:Ending)(a:World):Prop:=
 ∃v,e=.returned (.tuple #[v,.int .i64 (Cc b:Int)])/\a.ownsRow w.heap.size 131 4 v (jY b).length (dV (jY b))/\ah' w a/\(jY b).length*12<=b.size/\Cc b<=b.size
def a0l(n:Nat):Prop:=∀(s:ByteArray)(w:World),s.size<=2097152->ai3 n #[.string s] w λe a=>e=.returned (.tuple #[dB (xZ s),.int .i64 (x8 s:Int)])/\ah' w a
theorem a9m(f:a0l 240)(b:ByteArray)(w:World)(j:b.size<=2097152):
  ai3 195 #[.string b] w λe h=>qI b w e h:=by
 obtain⟨i0,g,a,c,d⟩:=ahC Iz;go_enter am3,ntmps195;exact ar0
theorem Zt(f:a0l 112)(b:ByteArray)(w:World)(j:b.size<=2097152):
  ai3 60 #[.string b] w λe h=>qI b w e h:=by
 obtain⟨i0,g,a,c,d⟩:=ahC Iz;go_enter anK,ntmps60;exact ar0
open Go Go.Conc Go.RowKit
open Go.Proofs.Zb (mf au)
namespace Rl
def ChanAt(w:World)(ch:Nat)(a:List Rec):Prop:=w.heap[ch]? =some (.chan 1099511627776 (a.map dB).toArray false a.length 0 false)
def zb(m:az)(a:List ByteArray):List Rec:=a.flatMap λs=>jY (kH m s)
theorem a3B(m:az){a:List ByteArray}{k:Nat}(h:k<a.length):zb m (a.take (k+1))=zb m (a.take k)++jY (kH m a[k]):=by unfold zb;rw[afH h,List.flatMap_append];simp
theorem a3C(m:az)(a:List ByteArray)(k:Nat):(zb m (a.take k)).length<=(zb m a).length:=by
 have e:zb m a=zb m (a.take k)++zb m (a.drop k):=by unfold zb;rw[<-List.flatMap_append,ah2]
 intros;simp_all
theorem row_one{n:Nat}{f:List Value}(d:bz w v n 1 f):∃a c,v=.slice a n c:=ahk
theorem ChanAt.send{a:List Rec}(h:ChanAt w ch a)(r:Rec):ChanAt (w.setChan ch 1099511627776 ((a.map dB).toArray.push (dB r)) false (a.length+1) 0 false) ch (a++[r]):=by
 unfold ChanAt at*
 rw[heap_setChan _ _ _ _ _ _ _ _ (afD.1 h).1]
 simp
theorem Em(ch a:Nat)(b:Array Value)(d:Bool)(s r:Nat)(c:Bool):dJ (λk=>k=ch) w (w.setChan ch a b d s r c):=
 ⟨rfl,rfl,rfl,gp,λk _ N=>by simp only[World.setChan];rw[afF (λe=>N e.symm)]⟩
theorem EW{a:List Rec}(h:ChanAt w ch a){i:Nat}{k:Nat}(c:w.cell? ⟨i,k,none⟩=some v):i≠ch:=by grind[ChanAt,World.cell?]
theorem a7b{g:World}{n a:Nat}{f:List Value}{q:List Rec}(h:bz w v n a f)(r:ChanAt w ch q)(i:dJ (λk=>k=ch) w g):bz g v n a f:=by
 refine⟨h.1,?_⟩;obtain t|⟨b,o,d,e,s,m,c⟩:=h.2
 ·grind
 ·refine .inr ⟨b,o,d,e,s,afB m i.size,λj u l=> ?_⟩
  exact(i.cell (p:=⟨b,o+j,none⟩) m (EW r (c j u l))).trans (c j u l)
end Rl
theorem Wu{P:Program}{Q:Exit->Act->World->Prop}{a:Act}{id:Nat}{b c d e:Oper}{xs:List Rec}{r:Rec}{v2:Value}(p:b.guard=none)(n:c.guard=none)(m:d.guard=none)(l:e.guard=none)(k:(execOp a.eval b).run P w=.ok (.value (.chan (some ch))) w)(j:(execOp (a.put b.dst (.chan (some ch))).eval c).run P w=.ok (.value (dB r)) w)(i:(execOp ((a.put b.dst (.chan (some ch))).put c.dst (dB r)).eval d).run P w=.ok (.value v2) w)(h:(execOp (((a.put b.dst (.chan (some ch))).put c.dst (dB r)).put d.dst v2).eval e).run P w=.ok (.comm #[scase ch (dB r) (.tuple #[])] true .send) w)(f:ChanAt w ch xs)(q:xs.length<1099511627776)(g:Q .normal ((((a.put b.dst (.chan (some ch))).put c.dst (dB r)).put d.dst v2).put e.dst undef) (w.setChan ch 1099511627776 ((xs.map dB).toArray.push (dB r)) false (xs.length+1) 0 false)):
  (Code.region id #[b,c,d,e] false).wp P Q a w:=by
 refine xy ?_;show ku P #[b,c,d,e] Q [0,1,2,3] a w;exact ku.value (o:=b) rfl p k (ku.value (o:=c) rfl n j (ku.value (o:=d) rfl m i (ku.send (o:=e) rfl l h f (by grind) (ku.nil g))))
theorem a3D(w:World)(W N n2 ch:Nat)(S:Nat->Prop)(p b:Nat)(cv:ByteArray->Value)(m:az)(h:bS w S p b cv m)(hS:¬S ch)(nv:Value)(d:List ByteArray)(Y:bz w nv d.length 1 (mP d))(c0:w.cell? ⟨W,0,none⟩=some (.chan (some ch)))(c1:w.cell? ⟨N,0,none⟩=some nv)(c2:w.cell? ⟨n2,0,none⟩=some (.pointer (some ⟨p,0,none⟩)))(M:ChanAt w ch [])(l0:W<w.heap.size)(l2:n2<w.heap.size)(hsz:∀s∈d,(kH m s).size<=1048576)(hnl:∀s∈d,s.size<=8)(hN:(zb m d).length<1099511627776)(hnn:d.length<=4194304)(HS:∀(b:ByteArray)(w:World),b.size<=1048576->ai3 195 #[.string b] w λe w'=>qI b w e w'):
  ai3 194 #[.pointer (some ⟨W,0,none⟩),.pointer (some ⟨N,0,none⟩),.pointer (some ⟨n2,0,none⟩)] w λe w'=>e=.returned (.tuple #[])/\∃t,w'.heap[ch]? =some (.chan 1099511627776 ((zb m d).map dB).toArray true t 0 false)/\dJ (λk=>k=ch) w w':=by
 obtain⟨na,nc,rfl⟩:=row_one Y;have hn0:=EW M c0;have hn1:=EW M c1;have hn2:=EW M c2;have hcl:ch<w.heap.size:=(afD.1 M).1;have HI:=h;have HR:=hide Y;have HSZ:=hide hsz;have HNL:=hide hnl;have HC:=hide M;have HSS:=hide hS;unfold qI at HS;have HSC:=hide HS;refine Iy (n:=ah.nums) ah.func194 rfl rfl ?_;simp only[ah.ntmps194,agZ,ag4,age,Nat.reduceAdd,Nat.reduceSub,Array.replicate_succ,Array.replicate_zero,List.push_toArray,List.append_toArray,List.nil_append,agN];go_wp2_with fail
 go_loopw [14] (λi wr=>∃(k:Nat)(C:List Rec),k<=d.length/\i=.int .i64 k/\Hid (C=zb m (d.take k))/\Hid (ChanAt wr ch C)/\dJ (λj=>j=ch) w wr) (λi _=>d.length-(intOf i).toNat)
 case atStart=>exact⟨0,[],afK _,rfl,rfl,HC,dJ.refl _ _⟩
 case round=>
  obtain⟨k,C,R,rfl,hxs,O,ht⟩:=hrel;have d0:=(ht.cell (p:=⟨W,0,none⟩) l0 hn0).trans c0;have d2:=(ht.cell (p:=⟨n2,0,none⟩) l2 hn2).trans c2;have ltr:=ht.size
  by_cases Z:k<d.length
  ·have hrw:=a7b HR.out HC.out ht
   obtain⟨_,_,_,J⟩|⟨g,og,cap,e,_,hbk,E⟩:=hrw.2
   ·omega
   ·cases e
    have q0:wr.cell? ⟨g,og+k*1,none⟩=_:=E _ _ (K7 d k Z)
    rw[agV]at q0
    have hx:(k:Int)<(d.length:Int):=by omega
    have hk0:(0:Int)<=(k:Int):=by omega
    have hin:=afS Z;have F:=a3B m Z;have htk:=a3C m d (k+1);have HRD:=hide (λ(W':World)(hb:ah' wr W')=>P5 W' S p b cv m ((HI.touch ht (λj hj e=>HSS.out (by rw[<-e];exact hj))).later hb) d[k] (by have:=HNL.out _ hin;omega));have hsz1:=HSZ.out _ hin;have HSN:=hide (λW'=>HSC.out (kH m d[k]) W' hsz1);have HST:=hide F;have Q:(zb m (d.take (k+1))).length=C.length+(jY (kH m d[k])).length:=by rw[F,afE,<-hxs]
    have U:=hide ht;generalize kH m d[k]=dat at*;generalize rY m d[k]=err at*;generalize d[k]=nm at*
    go_wp2_with (first
     |(go_at_call 97;refine(HRD.out _ (a0n _ _)).ai ?_;intro w2 V)
     |(go_at_call 195;refine(HSN.out _).mono ?_;rintro e L ⟨v3,rfl,ho3,q,hl3,hn3⟩;obtain⟨a3,c3,rfl⟩:=ay ho3))
    have u:=af V q V.size;have ht3:=hide (U.out.below u);have aeD:Hid (ChanAt L ch C):=(u.block ch (by omega)).trans O.out;have e0:=(u.cell (p:=⟨W,0,none⟩) (afB l0 ltr)).trans d0;have HR3:=hide (aM ho3);have hrn:∀j,(Value.slice a3 (jY dat).length c3).ownBlock=some j->j≠ch:=λj hj e=>by have h1:=(ho3.lt j hj).1;have h2:=V.size;omega
    have HRN:=hide hrn;have hl0:W<L.heap.size:=by have:=u.size;omega
    have aeE:ch<L.heap.size:=by have:=u.size;omega
    generalize jY dat=l at*
    go_loopw [31] (λi wx=>∃(j:Nat),j<=l.length/\i=.int .i64 j/\Hid (ChanAt wx ch (C++l.take j))/\dJ (λj=>j=ch) L wx) (λi _=>l.length-(intOf i).toNat)
    case atStart=>exact⟨0,afK _,rfl,by simpa using aeD,dJ.refl _ _⟩
    case round=>
     obtain⟨j,hj,rfl,X,y⟩:=hrel;have f0:=(y.cell (p:=⟨W,0,none⟩) hl0 hn0).trans e0
     by_cases hjl:j<l.length
     ·have hrw:=iQ HR3.out y (λi hi e=>HRN.out i hi e)
      obtain⟨_,_,_,J⟩|⟨g3,I,afi,e,_,afj,E⟩:=hrw.2
      ·omega
      ·cases e
       obtain⟨g1,g2,g4,g5⟩:=yX l j hjl;have q0:wr.cell? ⟨g3,I+j*4,none⟩=_:=E _ _ g1;have q1:wr.cell? ⟨g3,I+j*4+1,none⟩=_:=E _ _ g2;have q2:wr.cell? ⟨g3,I+j*4+2,none⟩=_:=E _ _ g4;have q3:wr.cell? ⟨g3,I+j*4+3,none⟩=_:=E _ _ g5;have hx2:(j:Int)<(l.length:Int):=by omega
       have hj0:(0:Int)<=(j:Int):=by omega
       have hsn:C++l.take (j+1)=(C++l.take j)++[l[j]]:=by rw[afH hjl,agH]
       have HSX:=hide hsn;have hlx:(C++l.take j).length<1099511627776:=by rw[afE];have:=List.length_take_le j l;omega
       generalize l[j]=r at*
       go_upto_region 9 with fail
       have bx:=fJ wr (.int .i64 (r.time:Int)) (.int .i64 (r.kind:Int)) (.int .i64 (r.peer:Int)) (.string r.body) 131;have ba:=aL wr (.cells #[.int .i64 (r.time:Int),.int .i64 (r.kind:Int),.int .i64 (r.peer:Int),.string r.body] 131);have f1:=(ba.cell (p:=⟨W,0,none⟩) (afB hl0 y.size)).trans f0;have hc9:ChanAt (wr.alloc (.cells #[.int .i64 (r.time:Int),.int .i64 (r.kind:Int),.int .i64 (r.peer:Int),.string r.body] 131)) ch (C++l.take j):=(ba.block ch (afB aeE y.size)).trans X.out;have ht9:=hide (y.below ba);generalize (wr.alloc (.cells #[.int .i64 (r.time:Int),.int .i64 (r.kind:Int),.int .i64 (r.peer:Int),.string r.body] 131))=w9 at*;obtain⟨x0,x1,x2,x3,_,_,_,_,xl⟩:=bx;refine Wu (ch:=ch) (xs:=C++l.take j) (r:=r) (v2:=.bool true) rfl rfl rfl rfl ?_ ?_ ?_ ?_ hc9 hlx ?_
       ·go_simp
       ·unfold dB;go_simp
       ·unfold dB;go_simp
       ·rfl
       ·have hcs:=hide (hc9.send r)
        have hts:=hide (ht9.out.trans (Em ch 1099511627776 (((C++l.take j).map dB).toArray.push (dB r)) false ((C++l.take j).length+1) 0 false) (λi hi=>.inl hi));generalize w9.setChan ch 1099511627776 (((C++l.take j).map dB).toArray.push (dB r)) false ((C++l.take j).length+1) 0 false=w10 at*;go_wp2_with fail
        exact⟨⟨j+1,by omega,by go_num,by rw[HSX.out];exact hcs,hts.out⟩,aA⟩
     ·have e:j=l.length:=by omega
      subst e;have hx2:¬(l.length:Int)<(l.length:Int):=by omega
      have HTJ:=hide y;go_wp2_with fail;have hce:Hid (ChanAt wr ch (C++l)):=by have h:=X.out;rw[ag8]at h;exact h
      exact⟨⟨k+1,C++l,by omega,by go_num,(by rw[HST.out,<-hxs]:C++l=zb m (d.take (k+1))),hce,ht3.out.trans HTJ.out (λi hi=>.inl hi)⟩,aA⟩
  ·have e:k=d.length:=by omega
   subst e;have hx2:¬(d.length:Int)<(d.length:Int):=by omega
   have hxe:C=zb m d:=by have h:=hxs.out;rw[ag8]at h;exact h
   have U:=hide ht
   rw[hxe]at O
   go_wp2_with fail
   (try simp only[Exit.inBlock,Exit.then])
   exact⟨ch,_,_,_,_,_,rfl,O.out,.tuple #[],ahA rfl _ _ _,rfl,⟨_,heap_setChan _ _ _ _ _ _ _ _ (afD.1 O.out).1⟩,U.out.trans (Em _ _ _ _ _ _ _) (λi hi=>.inl hi)⟩
theorem Zu:ah.prog.underlying 249=some (.chan .both 131):=ank
theorem Wv(w:World)(S:Nat->Prop)(p b:Nat)(cv:ByteArray->Value)(m:az)(h:bS w S p b cv m)(X:Value)(d:List ByteArray)(Y:bz w X d.length 1 (mP d))(hsz:∀s∈d,(kH m s).size<=1048576)(M:∀s∈d,s.size<=8)(hN:(zb m d).length<1099511627776)(I:d.length<=4194304)(HS:∀(b:ByteArray)(w:World),b.size<=1048576->ai3 195 #[.string b] w λe w'=>qI b w e w'):
  ai3 149 #[.pointer (some ⟨p,0,none⟩),X] w λe w'=>∃ch t,e=.returned (.chan (some ch))/\w.heap.size<=ch/\w'.heap[ch]? =some (.chan 1099511627776 ((zb m d).map dB).toArray true t 0 false)/\ah' w w':=by
 obtain⟨na,Z,rfl⟩:=row_one Y;obtain⟨i0,hi,hz0,hz1,hz2⟩:=ahC Iz;have hmc:∀w':World,(Instr.makeChan 249 (.int .i64 1099511627776)).run ah.prog w'=.ok (.chan (some w'.heap.size)) (w'.alloc (.chan 1099511627776 #[] false 0 0 false)):=λw'=>run_makeChan (P:=ah.prog) (w:=w') Zu hi .i64 1099511627776 (by decide) (by rw[hz2];decide)
 have HI:=h;have HR:=hide Y;have U:=hide hsz;have W:=hide M;have V:=hide HS;go_enter ah.func149,ah.ntmps149
 go_upto_region 2 with fail
 obtain⟨w2,u⟩:∃w2,((w.alloc (.cells #[.pointer (some ⟨p,0,none⟩)] 53)).alloc (.cells #[.slice na d.length Z] 28))=w2:=⟨_,rfl⟩;have e2:w2.heap.size=w.heap.size+1+1:=by rw[<-u];simp
 have q2:w2.cell? ⟨w.heap.size,0,none⟩=some (.pointer (some ⟨p,0,none⟩)):=by rw[<-u];simp
 have q1:w2.cell? ⟨w.heap.size+1,0,none⟩=some (.slice na d.length Z):=by rw[<-u];simp
 have b2:ah' w w2:=by rw[<-u];exact CY
 rw[u]
 obtain⟨L,y⟩:∃L,w2.alloc (.chan 1099511627776 #[] false 0 0 false)=L:=⟨_,rfl⟩;have b3:ah' w2 L:=by rw[<-y];exact aL _ _
 have e3:L.heap.size=w.heap.size+1+1+1:=by rw[<-y];simp[e2]
 have Q:ChanAt L (w.heap.size+1+1) []:=by rw[<-y,<-e2];exact ahS w2 _
 rw[y]
 have b4:=aL L (.cells #[.chan (some (w.heap.size+1+1))] 249);have r0:(L.alloc (.cells #[.chan (some (w.heap.size+1+1))] 249)).cell? ⟨w.heap.size+1+1+1,0,none⟩=some (.chan (some (w.heap.size+1+1))):=by rw[<-e3];simp
 have J:(L.alloc (.cells #[.chan (some (w.heap.size+1+1))] 249)).heap.size=w.heap.size+1+1+1+1:=by simp[e3]
 generalize (L.alloc (.cells #[.chan (some (w.heap.size+1+1))] 249))=w4 at*;have E:=af b3 b4 b3.size;have F:=af b2 E b2.size;have r2:=(E.cell (p:=⟨w.heap.size,0,none⟩) (show w.heap.size<w2.heap.size by omega)).trans q2;have r1:=(E.cell (p:=⟨w.heap.size+1,0,none⟩) (show w.heap.size+1<w2.heap.size by omega)).trans q1;have O:ChanAt w4 (w.heap.size+1+1) []:=(b4.block _ (by omega)).trans Q;have hS:¬S (w.heap.size+1+1):=λx=>by have:=HI.lt _ x;omega
 have HC:=hide (a3D w4 (w.heap.size+1+1+1) (w.heap.size+1) w.heap.size (w.heap.size+1+1) S p b cv m (HI.later F) hS _ d (HR.out.later F) r0 r1 r2 O (by omega) (by omega) U.out W.out hN I V.out);have HB:=hide F;go_wp2_with (go_at_call 194;refine HC.out.ai ?_;rintro w5 ⟨t5,N,C⟩;have r5:=(C.cell (p:=⟨w.heap.size+1+1+1,0,none⟩) (show w.heap.size+1+1+1<w4.heap.size by omega) (show w.heap.size+1+1+1≠w.heap.size+1+1 by omega)).trans r0);go_ret
 exact⟨_,t5,rfl,by omega,N,HB.out.os▸C.os,HB.out.tape▸C.tape,HB.out.output▸C.output,afC HB.out.size C.size,λk R=>(C.block k (by have:=HB.out.size;omega) (by omega)).trans (HB.out.block k R)⟩
theorem KV(t k p:Nat)(b:ByteArray)(w:World)(hs:b.size<=1048576)(R:k<256)(hp:p<256):
  ai9 175 #[.agg #[.int .i64 (t:Int),.int .i64 (k:Int),.int .i64 (p:Int),.string b]] w (.bool (mY k p b)):=by
 by_cases I:6<=p
 ·rw[NW k p b I]
  have hg:(6:Int)<=(p:Int):=by omega
  go_enter ail,ntmps175;exact aY
 ·have hg:¬(6:Int)<=(p:Int):=by omega
  have r:=fJ w (.int .i64 (t:Int)) (.int .i64 (k:Int)) (.int .i64 (p:Int)) (.string b) 131;have f:=aL w (.cells #[.int .i64 (t:Int),.int .i64 (k:Int),.int .i64 (p:Int),.string b] 131)
  by_cases k1:k=1
  ·subst k1
   rw[QG p b I]
   have hu:=λw=>FI b w aB
   generalize upd b=u at*;obtain⟨E,g,a,T⟩:=u;go_enter ail,ntmps175;exact CV
  ·by_cases k4:k=4
   ·subst k4
    rw[wU p b I]
    have Y:=λw=>QH b w hs
    obtain⟨A,L,S,hF⟩:=a3i b
    rw[hF]at Y
    clear hF;generalize wm b=c at*;go_enter ail,ntmps175;exact CX
   ·have U:=dF b
    by_cases k2:k=2
    ·subst k2
     rw[VZ p b I]
     obtain⟨z,F⟩:∃z,z=decide (b.size=0):=⟨_,rfl⟩
     rw[<-F]at U |-
     clear F;go_enter ail,ntmps175;exact aY
    ·by_cases k3:k=3
     ·subst k3
      rw[NY p b I]
      obtain⟨z,F⟩:∃z,z=decide (b.size=0):=⟨_,rfl⟩
      rw[<-F]at U |-
      clear F;go_enter ail,ntmps175;exact aY
     ·by_cases d:k=5\/k=6
      ·rw[NZ k p b I d]
       obtain⟨z,F⟩:∃z,z=decide (p=0/\b.size=0):=⟨_,rfl⟩
       rw[<-F]
       by_cases Q:p=0
       ·by_cases O:b.size=0
        ·have M:z=true:=by rw[F,afL ⟨Q,O⟩]
         rw[afL O]at U
         have J:((p:Int)==0)=true:=by rw[Q];rfl
         subst M;clear F;obtain k5|k5:=d
         ·subst k5
          go_enter ail,ntmps175;exact aY
         ·subst k5
          go_enter ail,ntmps175;exact aY
        ·have M:z=false:=by rw[F,afG λh=>O h.2]
         rw[afG O]at U
         have J:((p:Int)==0)=true:=by rw[Q];rfl
         subst M;clear F;obtain k5|k5:=d
         ·subst k5
          go_enter ail,ntmps175;exact aY
         ·subst k5
          go_enter ail,ntmps175;exact aY
       ·have M:z=false:=by rw[F,afG λh=>Q h.1]
        have J:((p:Int)==0)=false:=ax
        subst M;clear F;generalize decide (b.size=0)=y at*;cases y with
        |true=>
         obtain k5|k5:=d
         ·subst k5
          go_enter ail,ntmps175;exact aY
         ·subst k5
          go_enter ail,ntmps175;exact aY
        |false=>
         obtain k5|k5:=d
         ·subst k5
          go_enter ail,ntmps175;exact aY
         ·subst k5
          go_enter ail,ntmps175;exact aY
      ·rw[za k p b I (by omega)]
       have N:((k:Int)==1)=false:=ax
       have n2:((k:Int)==2)=false:=ax
       have Z:((k:Int)==3)=false:=ax
       have X:((k:Int)==4)=false:=ax
       have W:((k:Int)==5)=false:=ax
       have V:((k:Int)==6)=false:=ax
       clear k1 k4 k2 k3 d;go_enter ail,ntmps175;exact aY
end Go.Proofs.Zq
