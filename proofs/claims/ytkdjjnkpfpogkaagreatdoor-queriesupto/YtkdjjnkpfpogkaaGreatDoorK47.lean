import Derived.Test.YtkdjjnkpfpogkaaGreatDoorK39
import Derived.Test.YtkdjjnkpfpogkaaGreatDoorK46
set_option maxHeartbeats 8000000
set_option linter.all false
set_option maxRecDepth 20000
namespace Go
def uN{P:Prop}(h:P:=by
 refine ahT (rs:=[15]) (by kernel_rfl) (by simp) ?_;refine ahM rfl (λK y=> ?_) ?_
 ·go_simp
  refine y.out _ _ (by first|(exact((jk.start _ _ _).later V).new _)|(exact jk.stored (by assumption) (by omega) _ _ _ _)) (λc=> ?_);clear y K;refine wpAnyH_done (by kernel_rfl) ?_ _;go_wp2_with fail
  go_meet
  case rel=>exact⟨_,rfl,QI (by assumption) (by first|exact fJ _ _ _ _ _ _|exact V4 ⟨C,g1,g2,g3,g4,g5,q,m,gl⟩)⟩
 exact AllReadyH.nil):P:=h
def aiF{P:Prop}(h:P:=by go_wp2;exact abt (v:=.tuple #[.agg #[.int .i64 0,.int .i64 0,.int .i64 0,.string ⟨#[]⟩],.int .i64 0]) (by simp[results,results240,go_sem]) rfl ⟨rfl,pX (ahH (aL _ _) _) (afA _) _ _ _ _⟩):P:=h
end Go
namespace Go.Proofs.Zq
open Tryz
open Go.RowKit
variable{I t:Int}
namespace Rl
def SY(a:Option az)(I t:Int):Int:=if a.isNone=true then 1 else if I<0\/6<=I then 9 else if t<0\/4294967295<t then 5 else 0
def FL(a:Option az)(I t:Int):vW:=match a with
 |none=>⟨false,[]⟩
 |some m=>if I<0\/6<=I\/t<0\/4294967295<t then⟨false,[]⟩else pW m.files t I.toNat
theorem QS{m:az}(h:I<0\/6<=I):SY (some m) I t=9:=by grind[SY]
theorem QT{m:az}(h:¬(I<0\/6<=I))(a:t<0\/4294967295<t):SY (some m) I t=5:=by grind[SY]
theorem a0m{m:az}(h:¬(I<0\/6<=I))(a:¬(t<0\/4294967295<t)):SY (some m) I t=0:=by grind[SY]
theorem yg{m:az}(h:I<0\/6<=I\/t<0\/4294967295<t):FL (some m) I t=⟨false,[]⟩:=by grind[FL]
theorem Oe{m:az}(h:¬(I<0\/6<=I\/t<0\/4294967295<t)):FL (some m) I t=pW m.files t I.toNat:=by grind[FL]
theorem a3I(a:Option az)(I t:Int)(n:Nat)(h:∀m,a=some m->aR m.files<=n):(FL a I t).rts.length<=n:=by
 cases a with
 |none=>exact afK _
 |some m=>
  by_cases b:I<0\/6<=I\/t<0\/4294967295<t
  ·rw[yg b];exact afK _
  ·rw[Oe b];exact afC (Jw m.files t _).len (h m rfl)
def wu(w:World)(a:Option az)(I t:Int):Ending->World->Prop:=λe b=>
 ∃v,e=.returned (.tuple #[v,.bool (FL a I t).up,.int .i64 (SY a I t)])/\b.ownsRow w.heap.size 80 3 v (FL a I t).rts.length (aJ (FL a I t).rts)/\ah' w b
theorem yh{w w':World}{d:Option az}{E:Int}{e:Ending}(h1:SY d I t=E)(h2:FL d I t=⟨false,[]⟩)(u:e=.returned (.tuple #[.slice none 0 0,.bool false,.int .i64 E]))(hb:ah' w w'):wu w d I t e w':=by
 refine⟨.slice none 0 0,?_,?_,hb⟩
 ·grind
 ·rw[h2];exact o9
end Rl
open Rl
theorem O3(I t:Int)(w:World):ai3 14 #[.pointer none,.int .i64 I,.int .i64 t] w λe w'=>wu w none I t e w':=by
 have d:Hid (∀e w',e=.returned (.tuple #[.slice none 0 0,.bool false,.int .i64 1])/\ah' w w'->wu w none I t e w'):=λe w' h=>yh rfl rfl h.1 h.2
 refine ahV ?_ d.out;go_enter aje,ntmps14;go_wp2;go_ret3
 exact aN
theorem S9(w:World)(S:Nat->Prop)(p:Nat)(Y:Value)(m:az)(h:bK w S p Y m)(hn:m.files.length<=4194304)(M:∀f∈m.files,f.name.size<=8)(hu:aR m.files<=1048576)(HS:∀(b:ByteArray)(w:World),b.size<=1048576->ai3 60 #[.string b] w λe w'=>qI b w e w')(I t:Int):
  ai3 14 #[.pointer (some ⟨p,0,none⟩),.int .i64 I,.int .i64 t] w λe w'=>wu w (some m) I t e w':=by
 by_cases L:I<0\/6<=I
 ·have E:Hid (∀e w',e=.returned (.tuple #[.slice none 0 0,.bool false,.int .i64 9])/\ah' w w'->wu w (some m) I t e w'):=λe w' h=>yh (QS L) (yg (by omega)) h.1 h.2
  refine ahV ?_ E.out
  by_cases h1:I<0
  ·have d1:decide (I<0)=true:=afL h1
   go_enter aje,ntmps14;go_wp2;go_ret3
   exact aN
  ·have d1:decide (I<0)=false:=afG h1
   have h2:6<=I:=by omega
   have d2:decide (6<=I)=true:=afL h2;go_enter aje,ntmps14;go_wp2;go_ret3
   exact aN
 ·have d1:decide (I<0)=false:=afG (by omega)
  have d2:decide (6<=I)=false:=afG (by omega);have k1:¬I<0:=by omega
  have k2:¬6<=I:=by omega
  by_cases U:t<0\/4294967295<t
  ·have E:Hid (∀e w',e=.returned (.tuple #[.slice none 0 0,.bool false,.int .i64 5])/\ah' w w'->wu w (some m) I t e w'):=λe w' h=>yh (QT L U) (yg (by omega)) h.1 h.2
   refine ahV ?_ E.out
   by_cases h1:t<0
   ·have Z:decide (t<0)=true:=afL h1
    go_enter aje,ntmps14;go_wp2;go_ret3
    exact aN
   ·have Z:decide (t<0)=false:=afG h1
    have h2:4294967295<t:=by omega
    have d4:decide (4294967295<t)=true:=afL h2;go_enter aje,ntmps14;go_wp2;go_ret3
    exact aN
  ·have Z:decide (t<0)=false:=afG (by omega)
   have d4:decide (4294967295<t)=false:=afG (by omega);have k3:¬t<0:=by omega
   have k4:¬4294967295<t:=by omega
   have J:0<=t/\t<=4294967295:=by omega
   have E:Hid (∀e w',(∃v,e=.returned (.tuple #[v,.bool (pW m.files t I.toNat).up,.int .i64 0])/\w'.ownsRow w.heap.size 80 3 v (pW m.files t I.toNat).rts.length (aJ (pW m.files t I.toNat).rts)/\ah' w w')->wu w (some m) I t e w'):=λe w' h=>by unfold wu;rw[a0m L U,Oe (by omega)];exact h
   refine ahV ?_ E.out;have HL:=Zv w S p Y m h hn M hu HS;have hW:=afC (Sz m.files) hu;have HG:=hide (Qz m.files);have O:Hid (pW m.files t=mF (kr t (xw m.files))):=rfl;have y:=Jw m.files t;obtain⟨k,R⟩:∃k:Nat,I=(k:Int):=⟨I.toNat,by omega⟩;subst R;simp only[ah9]at*;have d:k<6:=by omega
   have Q:=afC (y k).len hu;generalize hlg:xw m.files=lg at*
   rw[O.out]at Q |-
   go_enter aje,ntmps14
   go_upto_region 8 with(first
    |(go_at_call 50;refine HL.mono ?_;rintro e w1 ⟨v1,rfl,N,H⟩)
    |(go_at_call 49;refine(Zw w1 v1 lg t (aM N) HG.out (by omega) J).mono ?_;rintro e w2 ⟨P,rv,rfl,F,V⟩))
   have g:=F.ups k d;have u1:=F.rts k d;have i:=F.lt;have u:=F.rows k d;have hk0:(0:Int)<=(k:Int):=by omega
   have X:(k:Int)<6:=by omega
   have G:=hide (a3n (rv k) _ w2.drew (u.later (a0n _ _).drew) (by omega));have HB:=hide (af H V H.size);have hs1:=H.size;have hs2:=V.size
   go_region_with (go_at_call 51;refine G.out.mono ?_;rintro e w5 ⟨v5,rfl,c,W⟩;obtain⟨a5,c5,rfl⟩:=ay c;have g5:=(W.cell (p:=⟨P,k,none⟩) i).trans g;have q:=(W.cell (p:=⟨P,6+k,none⟩) i).trans u1)
   all_goals
    go_wp2_with fail;go_ret3
    exact⟨_,rfl,yc c (by show w.heap.size<=w2.heap.size;omega),af HB.out (af (a0n _ _).drew W (afA _)) HB.out.size⟩
open Rl
namespace Rl
theorem a3J{w:World}{B:Nat}{a:Nat->Value}{s:StateM}(h:ze w B a s):∃m:Nat->Option Nat,O1 a s=#[.bool (s 0).up,.map (m 0),.bool (s 1).up,.map (m 1),.bool (s 2).up,.map (m 2),.bool (s 3).up,.map (m 3),.bool (s 4).up,.map (m 4),.bool (s 5).up,.map (m 5)]:=by
 obtain⟨g,p⟩:=pmap_map (h.maps 0 (by omega));obtain⟨f,o⟩:=pmap_map (h.maps 1 (by omega));obtain⟨e,n⟩:=pmap_map (h.maps 2 (by omega));obtain⟨d,l⟩:=pmap_map (h.maps 3 (by omega));obtain⟨c,k⟩:=pmap_map (h.maps 4 (by omega));obtain⟨b,j⟩:=pmap_map (h.maps 5 (by omega));refine⟨λi=>if i=0 then g else if i=1 then f else if i=2 then e else if i=3 then d else if i=4 then c else b,?_⟩
 grind[O1]
end Rl
theorem WB(I t:Int)(w:World):ai3 47 #[.pointer none,.int .i64 I,.int .i64 t] w λe w'=>wu w none I t e w':=by
 have d:Hid (∀e w',e=.returned (.tuple #[.slice none 0 0,.bool false,.int .i64 1])/\ah' w w'->wu w none I t e w'):=λe w' h=>yh rfl rfl h.1 h.2
 refine ahV ?_ d.out;go_enter aji,ntmps47;go_wp2;go_ret3
 exact aN
theorem Zx(w:World)(S:Nat->Prop)(p b:Nat)(cv:ByteArray->Value)(m:az)(h:bS w S p b cv m)(hn:m.files.length<=4194304)(hu:aR m.files<=1048576)(HS:∀(b:ByteArray)(w:World),b.size<=1048576->ai3 195 #[.string b] w λe w'=>qI b w e w')(I t:Int):
  ai3 47 #[.pointer (some ⟨p,0,none⟩),.int .i64 I,.int .i64 t] w λe w'=>wu w (some m) I t e w':=by
 by_cases N:I<0\/6<=I
 ·have M:Hid (∀e w',e=.returned (.tuple #[.slice none 0 0,.bool false,.int .i64 9])/\ah' w w'->wu w (some m) I t e w'):=λe w' h=>yh (QS N) (yg (by omega)) h.1 h.2
  refine ahV ?_ M.out
  by_cases h1:I<0
  ·have d1:decide (I<0)=true:=afL h1
   go_enter aji,ntmps47;go_wp2;go_ret3
   exact aN
  ·have d1:decide (I<0)=false:=afG h1
   have h2:6<=I:=by omega
   have d2:decide (6<=I)=true:=afL h2;go_enter aji,ntmps47;go_wp2;go_ret3
   exact aN
 ·have d1:decide (I<0)=false:=afG (by omega)
  have d2:decide (6<=I)=false:=afG (by omega);have k1:¬I<0:=by omega
  have k2:¬6<=I:=by omega
  by_cases W:t<0\/4294967295<t
  ·have M:Hid (∀e w',e=.returned (.tuple #[.slice none 0 0,.bool false,.int .i64 5])/\ah' w w'->wu w (some m) I t e w'):=λe w' h=>yh (QT N W) (yg (by omega)) h.1 h.2
   refine ahV ?_ M.out
   by_cases h1:t<0
   ·have Z:decide (t<0)=true:=afL h1
    go_enter aji,ntmps47;go_wp2;go_ret3
    exact aN
   ·have Z:decide (t<0)=false:=afG h1
    have h2:4294967295<t:=by omega
    have d4:decide (4294967295<t)=true:=afL h2;go_enter aji,ntmps47;go_wp2;go_ret3
    exact aN
  ·have Z:decide (t<0)=false:=afG (by omega)
   have d4:decide (4294967295<t)=false:=afG (by omega);have k3:¬t<0:=by omega
   have k4:¬4294967295<t:=by omega
   have ht':0<=t/\t<=4294967295:=by omega
   have M:Hid (∀e w',(∃v,e=.returned (.tuple #[v,.bool (pW m.files t I.toNat).up,.int .i64 0])/\w'.ownsRow w.heap.size 80 3 v (pW m.files t I.toNat).rts.length (aJ (pW m.files t I.toNat).rts)/\ah' w w')->wu w (some m) I t e w'):=λe w' h=>by unfold wu;rw[a0m N W,Oe (by omega)];exact h
   refine ahV ?_ M.out;have G:=Wz w S p b cv m h hn hu t HS;have y:=Jw m.files t;obtain⟨k,R⟩:∃k:Nat,I=(k:Int):=⟨I.toNat,by omega⟩;subst R;simp only[ah9]at*;have O:k<6:=by omega
   have U:=hide ((y k).mono (show aR m.files<=4194304 by omega));generalize pW m.files t=d at*;go_enter aji,ntmps47
   go_upto_region 8 with(go_at_call 100;refine G.mono ?_;rintro e w1 ⟨a,rfl,X,H⟩;obtain⟨u,J⟩:=a3J X;rw[J])
   have Y:=X.lay 155
   rw[J]at Y
   have V:=af H (aL w1 (.cells #[.bool (d 0).up,.map (u 0),.bool (d 1).up,.map (u 1),.bool (d 2).up,.map (u 2),.bool (d 3).up,.map (u 3),.bool (d 4).up,.map (u 4),.bool (d 5).up,.map (u 5)] 155)) H.size;have Q:=hide (Zp _ _ _ a d k Y O U.out);have HB:=hide V;have E:=V.size;generalize (w1.alloc (.cells #[.bool (d 0).up,.map (u 0),.bool (d 1).up,.map (u 1),.bool (d 2).up,.map (u 2),.bool (d 3).up,.map (u 3),.bool (d 4).up,.map (u 4),.bool (d 5).up,.map (u 5)] 155))=w2 at*;go_wp2_with (go_at_call 101;refine Q.out.mono ?_;rintro e L ⟨v3,rfl,F,q⟩;obtain⟨a3,c3,rfl⟩:=ay F);go_ret3
   exact⟨_,rfl,yc F E,af HB.out q E⟩
theorem WC(I t:Int)(w:World):ai3 13 #[.pointer none,.int .i64 I,.int .i64 t] w λe f=>wu w none I t e f:=by
 have c:=λd=>WB I t d
 unfold wu at c |-;go_enter alf,ntmps13;go_wp2_with (first|(go_at_call 48;refine(je _).aH ?_)|(go_at_call 47;refine(c _).mono ?_;rintro e g ⟨h,rfl,a,b⟩;obtain⟨a1,c1,rfl⟩:=ay a));go_ret3
 exact⟨_,rfl,a,b⟩
theorem Zy(w:World)(S:Nat->Prop)(q:Nat)(m:az)(h:gu w S q m)(j:m.files.length<=4194304)(i:aR m.files<=1048576)(o:∀(b:ByteArray)(w:World),b.size<=1048576->ai3 195 #[.string b] w λe d=>qI b w e d)(I t:Int):
  ai3 13 #[.pointer (some ⟨q,0,none⟩),.int .i64 I,.int .i64 t] w λe d=>wu w (some m) I t e d:=by
 obtain⟨p,b,n,c,k⟩:=h.inner;have g:=Zx w _ p b n m k j i o I t;have l:=kN w q p c;unfold wu at g |-;go_enter alf,ntmps13;go_wp2_with (first|(go_at_call 48;refine l.aH ?_)|(go_at_call 47;refine g.mono ?_;rintro e r ⟨s,rfl,a,f⟩;obtain⟨a1,c1,rfl⟩:=ay a));go_ret3
 exact⟨_,rfl,a,f⟩
theorem Ta(t k p:Nat)(b:ByteArray)(w:World)(hs:b.size<=1048576)(R:k<256)(hp:p<256):
  ai9 276 #[.agg #[.int .i64 (t:Int),.int .i64 (k:Int),.int .i64 (p:Int),.string b]] w (.bool (mY k p b)):=by
 by_cases J:6<=p
 ·rw[NW k p b J]
  have hg:(6:Int)<=(p:Int):=by omega
  go_enter aim,ntmps276;exact aY
 ·have hg:¬(6:Int)<=(p:Int):=by omega
  have r:=fJ w (.int .i64 (t:Int)) (.int .i64 (k:Int)) (.int .i64 (p:Int)) (.string b) 131;have f:=aL w (.cells #[.int .i64 (t:Int),.int .i64 (k:Int),.int .i64 (p:Int),.string b] 131)
  by_cases k1:k=1
  ·subst k1
   rw[QG p b J]
   have hu:=λw=>Nz b w aB
   generalize upd b=u at*;obtain⟨E,g,a,T⟩:=u;go_enter aim,ntmps276;exact CV
  ·by_cases k4:k=4
   ·subst k4
    rw[wU p b J]
    have Y:=λw=>FK b w hs
    obtain⟨A,L,S,hF⟩:=a3h b
    rw[hF]at Y
    clear hF;generalize wm b=c at*;go_enter aim,ntmps276;exact CX
   ·have V:=dF b
    by_cases k2:k=2
    ·subst k2
     rw[VZ p b J]
     obtain⟨z,F⟩:∃z,z=decide (b.size=0):=⟨_,rfl⟩
     rw[<-F]at V |-
     clear F;go_enter aim,ntmps276;exact aY
    ·by_cases k3:k=3
     ·subst k3
      rw[NY p b J]
      obtain⟨z,F⟩:∃z,z=decide (b.size=0):=⟨_,rfl⟩
      rw[<-F]at V |-
      clear F;go_enter aim,ntmps276;exact aY
     ·by_cases d:k=5\/k=6
      ·rw[NZ k p b J d]
       obtain⟨z,F⟩:∃z,z=decide (p=0/\b.size=0):=⟨_,rfl⟩
       rw[<-F]
       by_cases U:p=0
       ·by_cases O:b.size=0
        ·have Q:z=true:=by rw[F,afL ⟨U,O⟩]
         rw[afL O]at V
         have M:((p:Int)==0)=true:=by rw[U];rfl
         subst Q;clear F;obtain k5|k5:=d
         ·subst k5
          go_enter aim,ntmps276;exact aY
         ·subst k5
          go_enter aim,ntmps276;exact aY
        ·have Q:z=false:=by rw[F,afG λh=>O h.2]
         rw[afG O]at V
         have M:((p:Int)==0)=true:=by rw[U];rfl
         subst Q;clear F;obtain k5|k5:=d
         ·subst k5
          go_enter aim,ntmps276;exact aY
         ·subst k5
          go_enter aim,ntmps276;exact aY
       ·have Q:z=false:=by rw[F,afG λh=>U h.1]
        have M:((p:Int)==0)=false:=ax
        subst Q;clear F;generalize decide (b.size=0)=y at*;cases y with
        |true=>
         obtain k5|k5:=d
         ·subst k5
          go_enter aim,ntmps276;exact aY
         ·subst k5
          go_enter aim,ntmps276;exact aY
        |false=>
         obtain k5|k5:=d
         ·subst k5
          go_enter aim,ntmps276;exact aY
         ·subst k5
          go_enter aim,ntmps276;exact aY
      ·rw[za k p b J (by omega)]
       have N:((k:Int)==1)=false:=ax
       have n2:((k:Int)==2)=false:=ax
       have n3:((k:Int)==3)=false:=ax
       have Z:((k:Int)==4)=false:=ax
       have X:((k:Int)==5)=false:=ax
       have W:((k:Int)==6)=false:=ax
       clear k1 k4 k2 k3 d;go_enter aim,ntmps276;exact aY
theorem a3K(b:ByteArray)(w:World)(hs:b.size<=2097152):
  ai9 240 #[.string b] w (.tuple #[dB (xZ b),.int .i64 (x8 b:Int)]):=by
 by_cases h8:b.size<8
 ·obtain⟨e1,e2⟩:=ny (vk (.inl h8))
  rw[e1,e2]
  have Z:(b.size:Int)<8:=by omega
  go_enter aiW,ntmps240;go_wp2;exact abt (v:=.tuple #[.agg #[.int .i64 0,.int .i64 0,.int .i64 0,.string ⟨#[]⟩],.int .i64 0]) (by simp[results,results240,go_sem]) rfl ⟨rfl,aL _ _⟩
 ·have Z:¬(b.size:Int)<8:=by omega
  have k8:(8:Int)<=(b.size:Int):=by omega
  have W:=λw=>qB (b.extract 6 8) w aQ
  rw[<-Gr b]at W
  have hn:=Ny b
  by_cases hw:b.size<12+gZ b
  ·obtain⟨e1,e2⟩:=ny (vk (.inr hw))
   rw[e1,e2]
   generalize gZ b=n at*;have L:decide ((b.size:Int)<8+(n:Int)+4)=true:=afL (by omega);go_enter aiW,ntmps240;go_wp2_with (go_at_call 242;refine(W _).aH ?_)
   go_quiet (fail)
   exact aiF
  ·obtain⟨J,h4⟩:∃J,J=8+gZ b:=⟨_,rfl⟩
   obtain⟨Q,h5⟩:∃Q,Q=12+gZ b:=⟨_,rfl⟩;have i4:8+(gZ b:Int)=(J:Int):=by omega
   have i5:(J:Int)+4=(Q:Int):=by omega
   have b4:J<=b.size:=by omega
   have b5:Q<=b.size:=by omega
   have l45:J<=Q:=by omega
   have l84:8<=J:=by omega
   have L:decide ((b.size:Int)<(Q:Int))=false:=afG (by omega);have rS:=λw=>a9g (b.extract 0 J) w (by rw[afU];exact aB)
   have rR:=λw=>qB (b.extract J Q) w aQ
   have N:a6d b=decide (num ((b.extract J Q).data.toList)=(crc ((b.extract 0 J).data.toList):Int)):=by rw[h4,h5];rfl
   have U:Jl b=true:=by unfold Jl;rw[agv];omega
   have M:fw b=(a6d b&&mY (mZ b).kind (mZ b).peer (mZ b).body):=by unfold fw;rw[U,agQ]
   have hX:=num_nonneg ((b.extract J Q).data.toList);generalize num ((b.extract J Q).data.toList)=X at*;generalize (crc ((b.extract 0 J).data.toList):Int)=Y at*
   by_cases O:X=Y
   ·have l:(X != Y)=false:=by rw[agP];exact O
    rw[N,afL O,agQ]at M
    clear N U hX;have rT:=λw=>qB (b.extract 0 4) w aQ
    rw[<-yT b]at rT
    have a4:(b[4].toNat:Int)=(at8 b.data.toList 4:Int):=dD b 4 (by omega);have a5:(b[5].toNat:Int)=(at8 b.data.toList 5:Int):=dD b 5 (by omega);have l4:=gG b.data.toList 4;have l5:=gG b.data.toList 5;have rC:=λw=>a3k (b.extract 8 J) w aQ
    have rI:=λw=>Ta (oW b) (at8 b.data.toList 4) (at8 b.data.toList 5) (b.extract 8 J) w aQ l4 l5
    have hR:mZ b=⟨oW b,at8 b.data.toList 4,at8 b.data.toList 5,b.extract 8 J⟩:=by rw[h4];rfl
    have hL:12+gZ b=Q:=h5.symm
    rw[hR]at M
    simp only at M
    rw[<-M]at rI
    have HY:Hid (fw b=true->Ending.returned (.tuple #[dB (xZ b),.int .i64 (x8 b:Int)])=.returned (.tuple #[.agg #[.int .i64 (oW b:Int),.int .i64 (at8 b.data.toList 4:Int),.int .i64 (at8 b.data.toList 5:Int),.string (b.extract 8 J)],.int .i64 (Q:Int)])):=λh=>by rw[(x9 h).1,(x9 h).2,hR,hL];rfl
    have u:Hid (fw b=false->Ending.returned (.tuple #[dB (xZ b),.int .i64 (x8 b:Int)])=.returned (.tuple #[.agg a0k,.int .i64 0])):=λh=>by rw[(ny h).1,(ny h).2];rfl
    obtain⟨R,hRR⟩:∃R,R=Ending.returned (.tuple #[dB (xZ b),.int .i64 (x8 b:Int)]):=⟨_,rfl⟩
    unfold ai9;rw[<-hRR]at HY u |-
    clear hRR hR hL M h4 h5 O;generalize gZ b=n at*;generalize fw b=ok at*;generalize oW b=T at*;generalize at8 b.data.toList 4=K at*;generalize at8 b.data.toList 5=P at*;have w4:IntKind.i64.wrap (K:Int)=(K:Int):=aW
    have w5:IntKind.i64.wrap (P:Int)=(P:Int):=aW
    go_enter aiW,ntmps240;go_wp2_with (go_at_call 242;refine(W _).aH ?_)
    go_quiet ((first|(go_at_call 242;exact ahI (rR _))|(go_at_call 263;exact ahI (rS _))))
    go_upto_region 7 with fail
    go_cut [6] (λs6 wx=>∃n6,s6=.pointer (some ⟨n6,0,none⟩)/\xY wx w.heap.size (.int .i64 0) (.int .i64 0) (.int .i64 0) (.string ⟨#[]⟩)/\xY wx n6 (.int .i64 T) (.int .i64 K) (.int .i64 P) (.string (b.extract 8 J))/\ah' w wx)
    case first=>
     have n4:4<b.size:=by omega
     have n5:5<b.size:=by omega
     have n6:4<=b.size:=by omega
     have j4:(4:Int)<(b.size:Int):=by omega
     have j5:(5:Int)<(b.size:Int):=by omega
     have j6:(4:Int)<=(b.size:Int):=by omega
     have j7:(8:Int)<=(J:Int):=by omega
     have j8:(J:Int)<=(b.size:Int):=by omega
     clear rI rR rS W HY u L;refine wp_region_held_drew (S:=λw'=>jk w w') (by kernel_rfl) (jk.start _ _ _).drew (λD=> ?_);refine ahE (i:=0) (v:= ?afm) rfl (by kernel_rfl) (by kernel_rfl) (by kernel_rfl) (λ_ _ _ h=>h) (Or.inl ⟨by rfl,?ad8⟩) (by assumption) ?ady
     case ad8=>
      intro w' F
      exact bM
     refine ahE (i:=1) (v:= ?afn) rfl (by kernel_rfl) (by kernel_rfl) (by kernel_rfl) (λ_ _ _ h=>h) (Or.inl ⟨by rfl,?ad9⟩) (by assumption) ?adz
     case ad9=>
      intro w' F
      exact bM
     refine ahE (i:=3) (v:= ?afo) rfl (by kernel_rfl) (by kernel_rfl) (by kernel_rfl) (λ_ _ _ h=>h) (Or.inl ⟨by rfl,?ada⟩) (by assumption) ?adA
     case ada=>
      intro w' F
      exact bM
     refine ahE (i:=4) (v:= ?afp) rfl (by kernel_rfl) (by kernel_rfl) (by kernel_rfl) (λ_ _ _ h=>h) (Or.inl ⟨by rfl,?adb⟩) (by assumption) ?adB
     case adb=>
      intro w' F
      exact bM
     refine ahE (i:=5) (v:= ?afq) rfl (by kernel_rfl) (by kernel_rfl) (by kernel_rfl) (λ_ _ _ h=>h) (Or.inl ⟨by rfl,?ade⟩) (by assumption) ?adC
     case ade=>
      intro w' F
      exact bM
     refine ahE (i:=6) (v:= ?afr) rfl (by kernel_rfl) (by kernel_rfl) (by kernel_rfl) (λ_ _ _ h=>h) (Or.inl ⟨by rfl,?adf⟩) (by assumption) ?adD
     case adf=>
      intro w' F
      exact bM
     refine ahE (i:=7) (v:= ?afs) rfl (by kernel_rfl) (by kernel_rfl) (by kernel_rfl) (λ_ _ _ h=>h) (Or.inl ⟨by rfl,?adg⟩) (by assumption) ?adE
     case adg=>
      intro w' F
      exact bM
     refine ahE (i:=8) (v:= ?aft) rfl (by kernel_rfl) (by kernel_rfl) (by kernel_rfl) (λ_ _ _ h=>h) (Or.inl ⟨by rfl,?adh⟩) (by assumption) ?adF
     case adh=>
      intro w' F
      exact bM
     refine ahE (i:=9) (v:= ?afu) rfl (by kernel_rfl) (by kernel_rfl) (by kernel_rfl) (λ_ _ _ h=>h) (Or.inl ⟨by rfl,?adi⟩) (by assumption) ?adG
     case adi=>
      intro w' F
      exact bM
     refine ahE (i:=10) (v:= ?aeI) rfl (by kernel_rfl) (by kernel_rfl) (by kernel_rfl) (λ_ _ _ h=>h) (Or.inl ⟨by rfl,?a9q⟩) (by assumption) ?abG
     case a9q=>
      intro w' F
      exact bM
     refine ahE (i:=11) (v:= ?aeJ) rfl (by kernel_rfl) (by kernel_rfl) (by kernel_rfl) (λ_ _ _ h=>h) (Or.inl ⟨by rfl,?a9r⟩) (by assumption) ?abH
     case a9r=>
      intro w' F
      exact bM
     simp only[Act.put,afV];refine ahT (rs:=[2,14]) (by kernel_rfl) (by simp) ?_;refine ahM rfl (λK y=> ?_) ?_
     ·go_simp
      go_wp2_with (go_at_call 242;refine(rT _).aH ?_);refine y.out _ _ (by assumption) (λc=> ?_);clear y K;refine ahT (rs:=[12,14]) (by kernel_rfl) (by simp) ?_;refine ahM rfl (λK y=> ?_) ?_
      ·go_simp
       go_wp2_with (go_at_call 189;refine(rC _).ai ?_;intro w2 V);refine y.out _ _ (jk.later (by assumption) V) (λc=> ?_);clear y K;refine ahE (i:=13) (v:= ?aeK) rfl (by kernel_rfl) (by kernel_rfl) (by kernel_rfl) (λ_ _ _ h=>h) (Or.inl ⟨by rfl,?a9s⟩) (by assumption) ?abI
       case a9s=>
        intro w' F
        exact bM
       simp only[Act.put,afV];refine ahT (rs:=[14]) (by kernel_rfl) (by simp) ?_;refine ahM rfl (λK y=> ?_) ?_
       ·go_simp
        refine y.out _ _ (jk.new (by assumption) _) (λc=> ?_);clear y K;exact uN
       exact jQ
      refine ahM rfl (λK y=> ?_) ?_
      ·go_simp
       refine y.out _ _ (jk.new (by assumption) _) (λc=> ?_);clear y K;refine ahT (rs:=[12]) (by kernel_rfl) (by simp) ?_;refine ahM rfl (λK y=> ?_) ?_
       ·go_simp
        go_wp2_with (go_at_call 189;refine(rC _).ai ?_;intro w2 V;refine a9V (n:=w.heap.size+1) V ?_ ?_ (λg=> ?_);(· simp);(· exact a0j _ _ _ _);obtain⟨C,g1,g2,g3,g4,g5,q,m,gl⟩:=g);refine y.out _ _ (jk.later (by assumption) V) (λc=> ?_);clear y K;refine ahE (i:=13) (v:= ?aeL) rfl (by kernel_rfl) (by kernel_rfl) (by kernel_rfl) (λ_ _ _ h=>h) (Or.inl ⟨by rfl,?a9t⟩) (by assumption) ?abJ
        case a9t=>
         intro w' F
         exact bM
        simp only[Act.put,afV];exact uN
       exact jQ
      exact jQ
     refine ahM rfl (λK y=> ?_) ?_
     ·go_simp
      refine y.out _ _ (jk.new (by assumption) _) (λc=> ?_);clear y K;refine ahT (rs:=[2]) (by kernel_rfl) (by simp) ?_;refine ahM rfl (λK y=> ?_) ?_
      ·go_simp
       go_wp2_with (go_at_call 242;refine(rT _).aH ?_);refine y.out _ _ (by assumption) (λc=> ?_);clear y K;refine ahT (rs:=[12]) (by kernel_rfl) (by simp) ?_;refine ahM rfl (λK y=> ?_) ?_
       ·go_simp
        go_wp2_with (go_at_call 189;refine(rC _).ai ?_;intro w2 V;refine a9V (n:=w.heap.size+1) V ?_ ?_ (λg=> ?_);(· simp);(· exact a0j _ _ _ _);obtain⟨C,g1,g2,g3,g4,g5,q,m,gl⟩:=g);refine y.out _ _ (jk.later (by assumption) V) (λc=> ?_);clear y K;refine ahE (i:=13) (v:= ?aeM) rfl (by kernel_rfl) (by kernel_rfl) (by kernel_rfl) (λ_ _ _ h=>h) (Or.inl ⟨by rfl,?a9u⟩) (by assumption) ?abK
        case a9u=>
         intro w' F
         exact bM
        simp only[Act.put,afV];exact uN
       exact jQ
      exact jQ
     exact jQ
    case rest=>
     obtain⟨n6,rfl,b1,b2,B⟩:=hcut;clear rT rC W rS rR a4 a5;have b2':=b2;obtain⟨p0,p1,p2,p3,_,_,_,_,pl⟩:=b2';go_wp2_with fail;refine(rI _).ai ?_;intro w1 H;have d:=gJ B H;obtain⟨q0,q1,q2,q3,f0,f1,f2,f3,ql⟩:=b1.later H;obtain⟨d0,d1,d2,d3,_,_,_,_,E⟩:=b2.later H;clear p0 p1 p2 p3 pl H b1 b2 B;cases ok with
     |false=>
      go_wp2;exact abt (v:=.tuple #[.agg a0k,.int .i64 0]) (by simp[results,results240,go_sem,q0,q1,q2,q3]) rfl ⟨(u.out (by trivial)).symm,pX d (afA _) _ _ _ _⟩
     |true=>
      go_wp2;exact abt (v:=.tuple #[.agg #[.int .i64 (T:Int),.int .i64 (K:Int),.int .i64 (P:Int),.string (b.extract 8 J)],.int .i64 (Q:Int)]) (by simp[results,results240,go_sem,q0,q1,q2,q3]) rfl ⟨(HY.out (by trivial)).symm,pX d (afA _) _ _ _ _⟩
   ·have l:(X != Y)=true:=by rw[agF];exact O
    obtain⟨e1,e2⟩:=ny (b:=b) (by rw[M,N,afG O];rfl)
    rw[e1,e2]
    clear M N U O e1 e2 h4 h5;generalize gZ b=n at*;go_enter aiW,ntmps240;go_wp2_with (go_at_call 242;refine(W _).aH ?_)
    go_quiet ((first|(go_at_call 242;exact ahI (rR _))|(go_at_call 263;exact ahI (rS _))))
    exact aiF
namespace Rl
theorem a3L{i a b:Nat}{xv dv:Value}{g:Option az}(h:iU g a b)(r:a<=4194304)(o:b<=1048576)(A C:Int):
  ∀l f,gX l f i xv dv g->∀d,ah' l d->
   ai3 13 #[xv,.int .i64 A,.int .i64 C] d (wu d g A C)/\
   ai3 14 #[dv,.int .i64 A,.int .i64 C] d (wu d g A C):=by
 intro l f n d k;cases g with
 |none=>
  obtain⟨rfl,rfl⟩:=n
  exact⟨WC A C d,O3 A C d⟩
 |some m=>
  have c:=h m rfl;obtain⟨q,p,w,rfl,rfl,v,u⟩:=n
  exact⟨Zy d _ q m (v.later k) (afC c.files r) (afC c.bytes o) (λs e j=>a9m (λs e j=>a3K s e j) s e (by omega)) A C,
   S9 d _ p w m (u.later k) (afC c.files r) c.names (afC c.bytes o) (λs e j=>Zt (λs e j=>SK s e j) s e (by omega)) A C⟩
theorem a7e{wc a b:World}{p q r o:Addr}{u v t x:Value}(g:p.block<wc.heap.size)(f:q.block<wc.heap.size)(e:r.block<wc.heap.size)(i:o.block<wc.heap.size)(h:a.cell? p=some u/\a.cell? q=some v/\a.cell? r=some t/\a.cell? o=some x/\ah' wc a)(d:ah' a b):
  b.cell? p=some u/\b.cell? q=some v/\b.cell? r=some t/\b.cell? o=some x/\ah' wc b:=by
 obtain⟨m,l,k,j,c⟩:=h
 exact⟨(d.cell (p:=p) (afB g c.size)).trans m,(d.cell (p:=q) (afB f c.size)).trans l,(d.cell (p:=r) (afB e c.size)).trans k,(d.cell (p:=o) (afB i c.size)).trans j,af c d c.size⟩
end Rl
theorem a3M(w:World)(ow:Nat->Nat)(i B G a b:Nat)(xv dv:Value)(Z:Option az)(W A C:Int)(S T:ByteArray)(la:Option Addr)(ln lc:Nat)(h:bU w ow i B xv dv Z)(hf:iU Z a b)(ha:a<=4194304)(hb:b<=1048576)(s:Nat)(cs:Nat->Value)(hB:nJ w ow G cs s)(hs:s<=2097100):
  ai3 7 #[.pointer (some ⟨G,0,none⟩),.pointer (some ⟨B,0,none⟩),Gy 12 W A C S T la ln lc] w λe w'=>e=.returned (.tuple #[.bool true,.int .i64 2])/\∃Y cs',nJ w' Y G cs' (s+1)/\cs' 0=cs 0/\Fr Ki w ow w' Y:=by
 have X:=λw2(hb':ah' w w2)=>(a3L (i:=i) (xv:=xv) (dv:=dv) hf ha hb A C w ow h.Fy w2 hb')
 have Q:=a3I Z A C 1048576 (λm hm=>afC (hf m hm).bytes hb);have bx:=jX w (.int .i64 12) (.int .i64 W) (.int .i64 A) (.int .i64 C) (.string S) (.string T) (.slice la ln lc) 39;have K:=(a0n w.heap.size w).alloc (afA _) (.cells #[.int .i64 12,.int .i64 W,.int .i64 A,.int .i64 C,.string S,.string T,.slice la ln lc] 39);have x0:=(K.cell (p:=⟨B,0,none⟩) h.lt).trans h.c0;have x1:=(K.cell (p:=⟨B,1,none⟩) h.lt).trans h.c1;have M:B<(w.alloc (.cells #[.int .i64 12,.int .i64 W,.int .i64 A,.int .i64 C,.string S,.string T,.slice la ln lc] 39)).heap.size:=afB h.lt K.size;unfold wu at X;generalize hpe:FL Z A C=I at*;generalize SY Z A C=er at*;obtain⟨up,l⟩:=I;simp only at X Q;have HC:=X;have HB0:=hide K;have HBK:=hide hB;obtain⟨O,b1,b2,b3,b4,b5,b6,bl⟩:=bx;have hz0:=K.size;have hG:G<w.heap.size:=hB.blk.lt;have E:l.length<=1073741824:=by omega
 have hll:l.length<=4194304:=by omega
 unfold Gy;go_enter Qf7,ntmps7
 go_upto_region 7 with fail
 generalize w.alloc (.cells #[.int .i64 12,.int .i64 W,.int .i64 A,.int .i64 C,.string S,.string T,.slice la ln lc] 39)=w0 at*
 go_region_held (λw'=>w'.cell? ⟨B,0,none⟩=some xv/\w'.cell? ⟨B,1,none⟩=some dv/\w'.cell? ⟨w.heap.size,2,none⟩=some (.int .i64 A)/\w'.cell? ⟨w.heap.size,3,none⟩=some (.int .i64 C)/\ah' w0 w') (first|assumption|(exact⟨x0,x1,b2,b3,(a0n _ _).drew⟩)|(exact a7e M M bl bl (by assumption) (by assumption))) (first|(go_at_call 13;refine((HC _ (af HB0.out uK hz0)).1).mono ?_;rintro e w1 ⟨v1,rfl,N,H⟩))
 rename_i D;obtain⟨y0,y1,y2,y3,o⟩:=D;have hz1:w.heap.size<=w0.drew.heap.size:=hz0;have hl1:B<w1.heap.size:=afB M o.size;have bl1:w.heap.size<w1.heap.size:=afB bl o.size;have y:=af HB0.out o hz0;have f1:=Fr.aK ow y (λ_=>False) 9;have r1:fI w1 (ext w ow 9) 80 3 v1 l.length (aJ l) 9:=⟨⟨N.1,N.2.imp id (λ⟨g,cap,cur,e,hb,r⟩=>⟨g,cap,cur,e,afK _,r⟩)⟩,λk R=>by unfold ext;rw[afJ (by have:=(N.lt k R).1;omega)]⟩;obtain⟨a1,c1,rfl⟩:=ay r1.row;have F:=hide f1;have HR1:=hide r1;have aeN:=hide y;have aeO:=y.size;go_wp2_with fail
 go_region_held (λw'=>w'.cell? ⟨B,0,none⟩=some xv/\w'.cell? ⟨B,1,none⟩=some dv/\w'.cell? ⟨w.heap.size,2,none⟩=some (.int .i64 A)/\w'.cell? ⟨w.heap.size,3,none⟩=some (.int .i64 C)/\ah' w1 w') (first|assumption|(exact⟨y0,y1,y2,y3,(a0n _ _).drew⟩)|(exact a7e hl1 hl1 bl1 bl1 (by assumption) (by assumption))) (first|(go_at_call 14;refine((HC _ (af aeN.out uK aeO)).2).mono ?_;rintro e w2 ⟨v2,rfl,ho2,V⟩))
 rename_i c;have abo:=c.2.2.2.2;have f2:=Fr.aK (ext w ow 9) abo (λ_=>False) 22;have rr2:bz w2 v2 l.length 3 (aJ l):=aM ho2;have HK2:=hide ((HBK.out.frame F.out (λ_ _ x=>x)).frame f2 (λ_ _ x=>x));have HR2:=hide (HR1.out.frame f2 (λx=>x));have u:=hide (F.out.trans f2 (λ_ x=>x));obtain⟨a2,c2,rfl⟩:=ay ho2;have HRR:=hide rr2;generalize ext w1 (ext w ow 9) 22=d at*
 go_wp2_with (first
  |(go_at_call 15;refine(EN l _ _ _ _ w2 E (aM HR2.out.row) HRR.out).ai ?_;intro L q;have f3:=Fr.aK d q (λ_=>False) 0;have K3:=HK2.out.frame f3 (λ_ _ x=>x);have R3:=HR2.out.frame f3 (λx=>x))
  |(go_at_call 16;refine(VO L _ G s cs _ l K3 R3 hll hs).ai ?_;rintro w4 ⟨U,f,j,J,f4⟩))
 go_ret2;exact Co
end Go.Proofs.Zq
