import Derived.Deep.CutBlock
import Derived.Deep.RegionHeldLaw
import Derived.Ground.SlgfProg
import Derived.Ground.SlgmProg
import Derived.Maps.OwnOps
import Derived.Maps.RangeWalk
import Derived.Shelf.Bits.Mul64
import Derived.Shelf.LaysM
import Derived.Shelf.SlicesE.DeleteFunc
import Derived.Shelf.SlicesE.IndexFunc
import Derived.Shelf.Small.Bits
import Derived.Shelf.Small.Wraps
import Derived.Shelf.SortM.Plain
import Derived.Shelf.SortM.SortNone
import Derived.Shelf.Strconv.Clone
import Derived.Shelf.Strconv.Itoa0
import Derived.Shelf.Strings.Builder1
import Derived.Shelf.Strings.Builder2
import Derived.Shelf.Strings.OnBuilder
import Derived.Shelf.Strings.Prefix
import Derived.Test.YtkdjjnkpfpogkaaGreatDoorK20
set_option maxHeartbeats 8000000
set_option linter.all false
set_option maxRecDepth 20000
namespace Go
def ain{P:Prop}(h:P:=by
 go_enter am1,ntmps189;go_wp2_with (go_at_call 236;refine(ah.stringslite_Clone s _ (by omega)).ai ?_;intro w' hb);go_ret
 exact⟨rfl,hb⟩):P:=h
def tZ{P:Prop}(h:P:=by
 go_wp2;go_ret2
 exact⟨acr b.out.symm a.out.symm,a0n _ _⟩):P:=h
end Go
namespace Go.Proofs.Zq
open Tryz
open Go.RowKit
open Rl
def acs{a b}(h:a=b):Ending.returned (.bool a)=.returned (.bool b):=by rw[h]
def lC(m:az)(s:ByteArray):Bool:=decide (m.left=0)&&dK s
def Fu(w)(S)(p)(c)(m)(s)(h:bK w S p c m)(_hs:s.size<=2097152):
  ai9 84 #[.pointer (some ⟨p,0,none⟩),.string s] w (.bool (lC m s)):=by
 obtain⟨c0,c1,c2,i,g,f,e⟩:=h.box;have d:Hid (lC m s=(decide (m.left=0)&&(decide (1<=s.size)&&decide (s.size<=8)))):=by unfold lC dK Hid;rw[Bool.decide_and]
 generalize lC m s=r at*;go_enter alA,ntmps84;go_wp2
 all_goals
  go_ret;refine⟨acs ?_,a0n _ _⟩
  rw[d.out]
  first
   |(rename_i a b;rw[afL a,afL (by omega:1<=s.size),agQ,agQ,decide_eq_decide];omega)
   |(rename_i a b;rw[afL a,afG (by omega:¬1<=s.size)];rfl)
   |(rename_i a;rw[afG a];rfl)
def iT(w)(S)(p)(c)(m)(h:bK w S p c m)(f:m.left<=9223372036854775807):
  ai3 88 #[.pointer (some ⟨p,0,none⟩)] w λe a=>e=.returned (.tuple #[])/\bK a S p c {m with left:=nS m.left}/\dJ S w a:=by
 obtain⟨c0,c1,c2,k,j,i,g⟩:=h.box;have H:=h;have d:=hide h.own
 by_cases b:0<m.left
 ·have e:nS m.left=m.left-1:=by unfold nS;rw[afN b]
  rw[e]
  go_enter alB,ntmps88;go_wp2;refine ahD (ahA rfl _ _ _) rfl ?_
  exact⟨rfl,H.yI _,fH _ d.out⟩
 ·have e:nS m.left=m.left:=by unfold nS;rw[afJ b]
  rw[e]
  go_enter alB,ntmps88;go_wp2;refine ahD (ahA rfl _ _ _) rfl ?_
  exact⟨rfl,H,dJ.refl _ _⟩
def JV(w)(S)(p)(L)(m)(h:bK w S p L m)(hu:aR m.files<=4194304)(hn:m.files.length<=4194304):
  ai9 86 #[.pointer (some ⟨p,0,none⟩)] w (.int .i64 (aR m.files:Int)):=by
 obtain⟨c0,c1,c2,f0,f1,f2,hl⟩:=h.box;have Y:=aM h.row;have E:=h.row;obtain⟨V,Q,rfl⟩:=ay E;generalize m.files=l at*;go_enter anL,ntmps86;go_wp2
 go_loopw [3,4] (λx i wr=>∃k:Nat,k<=l.length/\i=.int .i64 k/\x=.int .i64 (aR (l.take k):Int)/\ah' w wr) (λ_ i _=>l.length-(intOf i).toNat)
 case atStart=>exact⟨0,afK _,rfl,rfl,a0n _ _⟩
 case round=>
  obtain⟨k,R,rfl,rfl,hb⟩:=hrel
  by_cases Z:k<l.length
  ·obtain⟨_,_,_,J⟩|⟨g,o,N,e,_,I,M⟩:=(Y.later hb).2
   ·omega
   ·cases e
    obtain⟨g1,g2,g3⟩:=kC l k Z;have q2:wr.cell? ⟨g,o+k*3+1,none⟩=_:=M _ _ g2;have d0:=(hb.cell (p:=⟨p,0,none⟩) hl).trans c0;have d1:=(hb.cell (p:=⟨p,1,none⟩) hl).trans c1;have y:=XK l k Z;have d:=a4U l (k+1);have U:=y
    rw[y]at d
    generalize aR (l.take k)=u at*;generalize l[k].data=O at*;have hx:(k:Int)<(l.length:Int):=by omega
    have F:(0:Int)<=(k:Int):=by omega
    go_wp2
    exact⟨⟨k+1,by omega,by go_num,by rw[U];go_num,hb⟩,aA⟩
  ·have e:k=l.length:=by omega
   subst e;have d0:=(hb.cell (p:=⟨p,0,none⟩) hl).trans c0;have d1:=(hb.cell (p:=⟨p,1,none⟩) hl).trans c1
   rw[ag8]
   go_wp2;go_ret
   exact⟨rfl,hb⟩
def gI(m:az)(s:ByteArray):Int:=if dK s=true then(match bR s m.files with|some k=>(k:Int)|none=> -1)else-1
def jd(m:az)(s:ByteArray)(a:Bool):Int:=if dK s=true then(match bR s m.files with|some _=>0|none=>if a then 7 else 0)else 6
def acr{a b c d}(f:a=c)(e:b=d):Ending.returned (.tuple #[.int .i64 a,.int .i64 b])=.returned (.tuple #[.int .i64 c,.int .i64 d]):=by rw[f,e]
def vC{s}(h:s.size<1\/8<s.size):dK s=false:=by grind[dK]
def F5{s}(b:1<=s.size)(a:s.size<=8):dK s=true:=by grind[dK]
def kM(w)(S)(p)(fv)(m)(s)(E)(h:bK w S p fv m)(_hs:s.size<=2097152)(hn:m.files.length<=4194304):
  ai9 85 #[.pointer (some ⟨p,0,none⟩),.string s,.bool E] w (.tuple #[.int .i64 (gI m s),.int .i64 (jd m s E)]):=by
 obtain⟨c0,c1,c2,f0,f1,f2,hl⟩:=h.box;have Y:=aM h.row;obtain⟨av,cv,rfl⟩:=ay h.row;have d:Hid (gI m s=if dK s=true then(match bR s m.files with|some k=>(k:Int)|none=> -1)else-1):=rfl;have HE:Hid (jd m s E=if dK s=true then(match bR s m.files with|some _=>0|none=>if E then 7 else 0)else 6):=rfl;generalize gI m s=L at*;generalize jd m s E=re at*;generalize m.files=l at*
 by_cases h1:s.size<1
 ·have g1:(s.size:Int)<1:=by omega
  have e1:L= -1:=by rw[d.out,afJ (by rw[vC (.inl h1)];simp)]
  have e2:re=6:=by rw[HE.out,afJ (by rw[vC (.inl h1)];simp)]
  rw[e1,e2]
  go_enter ak7,ntmps85;go_wp2;go_ret2
  exact aN
 ·by_cases h2:8<s.size
  ·have g1:¬(s.size:Int)<1:=by omega
   have g2:8<(s.size:Int):=by omega
   have e1:L= -1:=by rw[d.out,afJ (by rw[vC (.inr h2)];simp)]
   have e2:re=6:=by rw[HE.out,afJ (by rw[vC (.inr h2)];simp)]
   rw[e1,e2]
   go_enter ak7,ntmps85;go_wp2;go_ret2
   exact aN
  ·have g1:¬(s.size:Int)<1:=by omega
   have g2:¬8<(s.size:Int):=by omega
   have y:=F5 (s:=s) (by omega) (by omega);have b:Hid (L=match bR s l with|some k=>(k:Int)|none=> -1):=by rw[Hid,d.out,afN y]
   have a:Hid (re=match bR s l with|some _=>0|none=>if E then 7 else 0):=by rw[Hid,HE.out,afN y]
   have N:decide ((s.size:Int)<1)=false:=afG g1;have n2:decide (8<(s.size:Int))=false:=afG g2;have n3:decide (s.size<1)=false:=afG h1;have n4:decide (8<s.size)=false:=afG h2;go_enter ak7,ntmps85;go_wp2
   go_loopw [8] (λi wr=>∃k:Nat,k<=l.length/\i=.int .i64 k/\(∀j(hj:j<l.length),j<k->l[j].name≠s)/\wr=w) (λi _=>l.length-(intOf i).toNat)
   case atStart=>exact⟨0,afK _,rfl,λj _ hj=>by omega,rfl⟩
   case round=>
    obtain⟨k,R,rfl,F,rfl⟩:=hrel
    by_cases Z:k<l.length
    ·obtain⟨_,_,_,J⟩|⟨g,o,cap,e,_,hbk,M⟩:=Y.2
     ·omega
     ·cases e
      obtain⟨q1,q2,q3⟩:=kC l k Z;have c3:wr.cell? ⟨g,o+k*3,none⟩=_:=M _ _ q1;have hx:(k:Int)<(l.length:Int):=by omega
      have W:(0:Int)<=(k:Int):=by omega
      have u:=λh=>PT (name:=s) F Z h
      have HM:Hid (l[k].name≠s->∀j(hj:j<l.length),j<k+1->l[j].name≠s):=λO j hj X=>by
       by_cases I:j<k
       ·exact F j hj I
       ·have:j=k:=by omega
        subst this;exact O
      generalize l[k].name=U at*
      by_cases hs:U=s
      ·have Q:=hide (u hs)
       rw[Q.out]at b a
       subst hs;exact tZ
      ·have KM:=hide (HM.out hs)
       have V:=a5e hs;go_wp2
       exact⟨⟨k+1,by omega,by go_num,KM.out,trivial⟩,aA⟩
    ·have Q:=hide (a1r (name:=s) (l:=l) (λj hj=>F j hj (by omega)))
     rw[Q.out]at b a
     have hx:¬(k:Int)<(l.length:Int):=by omega
     cases E with
     |true=>
      exact tZ
     |false=>
      exact tZ
end Go.Proofs.Zq
namespace Go.Proofs
open Go.Shelf
def ah.JW:Go.Shelf.Ren:=⟨fun|165=>290|240=>313|241=>314|276=>330|277=>331|n=>n,fun|70=>329|3=>3|0=>0|4=>4|9=>9|20=>20|72=>331|37=>144|164=>368|5=>5|n=>n,fun|n=>n⟩
def ah.a8x:Go.Proofs.Lays.n165 ah.prog ah.JW:={
 mixed:=by kernel_rfl
 f165:=akI.trans (congrArg some (by kernel_rfl))
 f240:=akL.trans (congrArg some (by kernel_rfl))
 f241:=amP.trans (congrArg some (by kernel_rfl))
 f276:=akN.trans (congrArg some (by kernel_rfl))
 f277:=amZ.trans (congrArg some (by kernel_rfl))
 t0:=Qu0
 a0:=Qa0
 z0:=Qs0
 v0:=Qz0
 t3:=Qu3
 a3:=Qa3
 z3:=Qs3
 v3:=Qz3
 t4:=Qu4
 a4:=Qa4
 z4:=Qs4
 v4:=Qz4
 t9:=Qu9
 a9:=Qa9
 z9:=Qs9
 v9:=Qz9
 t20:=an3
 a20:=an6
 z20:=an5
 v20:=an4
 t37:=aiK
 a37:=ajD
 z37:=ajC
 v37:=ajB
 t70:=ak'
 a70:=al2
 z70:=al1
 v70:=al0
 t72:=al3
 a72:=al6
 z72:=al5
 v72:=al4
 t164:=al7
 a164:=ala
 z164:=al9
 v164:=al8}
def ah.Hd:Builder.Extra ah.prog ah.JW:={
 sizeBuilder:=by kernel_rfl
 liesBuilder:=by kernel_rfl
 t5:=Qu5
 a5:=Qa5
 z5:=Qs5
 v5:=Qz5
 infoByte:=by kernel_rfl
 cellsByte:=by kernel_rfl
 sizeByte:=by kernel_rfl
 neB5:=by decide}
open Go.RowKit in
theorem ah.Builder_Grow_fresh(B b n:Nat)(w:World)(hB:B<=b)(hbk:w.heap[b]? =some (.cells #[.pointer none,.slice none 0 0] 331 (0,0)))(hBw:B<=w.heap.size)(hn:n<=281474976710656):
  ai3 290 #[.pointer (some ⟨b,0,none⟩),.int .i64 n] w λe w'=>e=.returned (.tuple #[])/\(Lib.BuilderAt 331 5 B b (.pointer (some ⟨b,0,none⟩)) [] w'/\Below B w w'):=Any.Builder_Grow_fresh ah.a8x ah.Hd B b n w hB hbk hBw hn
def ah.UG:Go.Shelf.Ren:=⟨fun|125=>239|128=>274|129=>275|n=>n,fun|46=>143|3=>3|51=>317|53=>319|4=>4|5=>5|9=>9|n=>n,fun|n=>n⟩
def ah.a8y:Go.Proofs.Lays.n125 ah.prog ah.UG:={
 mixed:=by kernel_rfl
 f125:=aiV.trans (congrArg some (by kernel_rfl))
 f128:=aiY.trans (congrArg some (by kernel_rfl))
 f129:=aiZ.trans (congrArg some (by kernel_rfl))
 t3:=Qu3
 a3:=Qa3
 z3:=Qs3
 v3:=Qz3
 t4:=Qu4
 a4:=Qa4
 z4:=Qs4
 v4:=Qz4
 t5:=Qu5
 a5:=Qa5
 z5:=Qs5
 v5:=Qz5
 t9:=Qu9
 a9:=Qa9
 z9:=Qs9
 v9:=Qz9
 t46:=aj0
 a46:=aj3
 z46:=aj2
 v46:=aj1
 t51:=aj6
 a51:=aj9
 z51:=aj8
 v51:=aj7
 t53:=aja
 a53:=ajd
 z53:=ajc
 v53:=ajb}
theorem ah.bits_Len(x)(w)(c:0<=x)(b:x<=18446744073709551615):
  ai3 239 #[.int .u64 x] w λe a=>e=.returned (.int .i64 (Lib.bitLen x.toNat))/\a=w:=Any.bits_Len ah.a8y x w c b
def ah.UH:Go.Shelf.Ren:=⟨fun|122=>207|215=>251|n=>n,fun|3=>3|4=>4|n=>n,fun|n=>n⟩
def ah.a8z:Go.Proofs.Lays.n122 ah.prog ah.UH:={
 mixed:=by kernel_rfl
 f122:=am5.trans (congrArg some (by kernel_rfl))
 f215:=amm.trans (congrArg some (by kernel_rfl))
 t3:=Qu3
 a3:=Qa3
 z3:=Qs3
 v3:=Qz3
 t4:=Qu4
 a4:=Qa4
 z4:=Qs4
 v4:=Qz4}
open Go.RowKit in
theorem ah.cmp_Compare_int(x y:Int)(w:World):
  ai3 207 #[.int .i64 x,.int .i64 y] w λe w'=>e=.returned (.int .i64 (Lib.compareInt x y))/\w'=w:=Any.cmp_Compare_int ah.a8z x y w
def ah.RD:Go.Shelf.Ren:=⟨fun|316=>236|n=>n,fun|9=>9|3=>3|4=>4|37=>144|0=>0|127=>308|5=>5|n=>n,fun|n=>n⟩
def ah.a5h:Go.Proofs.LaysM.n316 ah.prog ah.RD:={
 mixed:=by kernel_rfl
 f316:=amf.trans (congrArg some (by kernel_rfl))
 t0:=Qu0
 a0:=Qa0
 z0:=Qs0
 v0:=Qz0
 t3:=Qu3
 a3:=Qa3
 z3:=Qs3
 v3:=Qz3
 t4:=Qu4
 a4:=Qa4
 z4:=Qs4
 v4:=Qz4
 t9:=Qu9
 a9:=Qa9
 z9:=Qs9
 v9:=Qz9
 t37:=aiK
 a37:=ajD
 z37:=ajC
 v37:=ajB
 t127:=akZ
 a127:=anu
 z127:=ant
 v127:=anr
 t5:=Qu5
 a5:=Qa5
 z5:=Qs5
 v5:=Qz5
 i0:=by kernel_rfl
 i3:=by kernel_rfl
 i4:=by kernel_rfl
 i5:=by kernel_rfl
 i9:=by kernel_rfl
 i37:=by kernel_rfl
 i127:=by kernel_rfl}
open Go.RowKit in
theorem ah.stringslite_Clone(s:ByteArray)(w:World)(hlim:s.size<=281474976710656):
  ai9 236 #[.string s] w (.string s):=Any.stringslite_Clone ah.a5h s w hlim
def ah.XX:Go.Shelf.Ren:=⟨fun|99=>277|206=>308|n=>n,fun|9=>9|4=>4|3=>3|n=>n,fun|n=>n⟩
def ah.aaG:Go.Proofs.Lays.n99 ah.prog ah.XX:={
 mixed:=by kernel_rfl
 f99:=amy.trans (congrArg some (by kernel_rfl))
 f206:=amL.trans (congrArg some (by kernel_rfl))
 t3:=Qu3
 a3:=Qa3
 z3:=Qs3
 v3:=Qz3
 t4:=Qu4
 a4:=Qa4
 z4:=Qs4
 v4:=Qz4
 t9:=Qu9
 a9:=Qa9
 z9:=Qs9
 v9:=Qz9}
open Go.RowKit Go.Lib in
theorem ah.strings_HasPrefix(s p:ByteArray)(w:World):
  ai3 277 #[.string s,.string p] w λe w'=>e=.returned (.bool (Lib.hasPrefix s.data.toList p.data.toList))/\w'=w:=Any.strings_HasPrefix ah.aaG s p w
end Go.Proofs
namespace Go.Proofs.Zq
open Tryz
open Go.RowKit
variable{w A w':World}{b n B:Nat}{P:Program}
theorem XY(s)(w)(a:s.size<=1048576):
  ai9 189 #[.string s] w (.string s):=ain
open Rl
theorem a1A(l):gP (l.take l.length)=gP l:=by simp
theorem XZ(l:List ByteArray)(k)(h:k<l.length)(c:gP (l.take k)=true)(a:dK l[k]=true):gP (l.take (k+1))=true:=by
 unfold gP at*
 rw[afH h,List.all_append,c];simp[a]
theorem a1B(l)(k)(h:k<l.length)(a:dK l[k]=false):gP l=false:=by
 unfold gP
 grind
theorem a1C(s:ByteArray):(s.toList==([]:List UInt8))=decide (s.size<1):=by
 rw[ahN]
 cases h:s.data.toList with
 |nil=>grind[ByteArray.size_data,Array.length_toList]
 |cons a r=>grind[ByteArray.size_data,Array.length_toList]
theorem Mx(v)(w):ai9 146 #[.pointer none,v] w (.int .i64 1):=by
 go_enter ajm,ntmps146;go_wp2;go_ret
 exact aN
theorem PX(p)(v)(l)(w)(hx:l.length<=1073741824)(Y:bz w v l.length 1 (mP l))(hs:∀s∈l,s.size<=2097152):
  ai9 146 #[.pointer (some p),v] w (.int .i64 (if gP l=true then 0 else 6)):=by
 obtain⟨_,Y⟩:=Y;have I:Hid (gP l=false->(if gP l=true then(0:Int)else 6)=6):=λh=>by rw[h];rfl
 have J:Hid (gP l=true->(if gP l=true then(0:Int)else 6)=0):=λh=>by rw[h];rfl
 generalize (if gP l=true then(0:Int)else 6)=r at*;obtain⟨a,c,rfl,hn⟩|⟨b,o,Q,rfl,hn,hb,M⟩:=Y
 ·have y:l=[]:=afT hn
  subst y;obtain rfl:r=0:=J.out rfl;go_enter ajm,ntmps146;go_wp2;refine ahF 1 ?_
  rw[ahG]
  go_wp2;go_ret
  exact aN
 ·go_enter ajm,ntmps146
  go_wp2
  go_loopw [11] (λi wr=>∃k:Nat,k<=l.length/\i=.int .i64 k/\gP (l.take k)=true/\ah' w wr) (λi _=>l.length-(intOf i).toNat)
  case atStart=>exact⟨0,afK _,rfl,rfl,a0n _ _⟩
  case round=>
   obtain⟨k,R,rfl,d,D⟩:=hrel;have G:=d
   by_cases Z:k<l.length
   ·have g1:=K7 l k Z
    have c1:=(D.cell (p:=⟨b,o+k*1,none⟩) hb).trans (M _ _ g1)
    rw[agV]at c1
    have u:=hide (XZ l k Z G);have HB:=hide (a1B l k Z);have N:=hs _ (afS Z);have L:(k:Int)<(l.length:Int):=by omega
    have O:(0:Int)<=(k:Int):=by omega
    generalize l[k]=s at*;have F:=a1C s
    by_cases h1:s.size<1
    ·rw[afL h1]at F
     have H:Hid (gP l=false):=HB.out (vC (.inl h1));go_wp2;go_ret
     exact⟨by rw[I.out H.out];rfl,D⟩
    ·rw[afG h1]at F
     by_cases h2:8<s.size
     ·have E:(8:Int)<(s.size:Int):=by omega
      have H:Hid (gP l=false):=HB.out (vC (.inr h2));go_wp2;go_ret
      exact⟨by rw[I.out H.out];rfl,D⟩
     ·have E:¬(8:Int)<(s.size:Int):=by omega
      have HN2:Hid (gP (l.take (k+1))=true):=u.out (F5 (by omega) (by omega));go_wp2
      exact⟨⟨k+1,by omega,by go_num,HN2.out,D⟩,aA⟩
   ·have e:k=l.length:=by omega
    subst e;have U:Hid (gP l=true):=by rw[Hid,<-a1A];exact G
    go_wp2;go_ret
    exact⟨by rw[J.out U.out];rfl,D⟩
theorem PY(w):(zeroValue 195).run ah.prog w=.ok (.agg #[.slice none 0 0,.int .i64 0]) w:=by kernel_rfl
theorem yL:Maps.Keyed ah.prog 9:=Maps.string_keyed Qu9
def DJ(left:Lit->Bool)(l:List aD):Nat:=aR (l.filter λf=> !left (.string f.name.data.toList))
theorem X0(l)(left)(h:∀f∈l,left (.string f.name.data.toList)=true):DJ left l=0:=by
 unfold DJ
 rw[List.filter_eq_nil_iff.2 (λf a=>by simp[h f a])]
 rfl
theorem a1D(l)(left)(h:∀kl,left kl=false):DJ left l=aR l:=by grind[DJ,List.filter_eq_self]
theorem KE(l)(q):aR (l.filter q)<=aR l:=by
 induction l with
 |nil=>simp[aR]
 |cons a r c=>
  rw[List.filter_cons]
  split<;>grind[aR]
theorem a5i(l)(left):DJ left l<=aR l:=KE _ _
theorem X3:∀(l:List aD)(_:Ord l)(left:Lit->Bool)(f:aD)(_:f∈l)(_:left (.string f.name.data.toList)=true),
  DJ (λz=>left z&& !z.sameKey (.string f.name.data.toList)) l=DJ left l+f.data.size:=by
 intro l;induction l with
 |nil=>simp
 |cons a r k=>
  intro m left f p i;obtain⟨j,q⟩:=agw.1 m;unfold DJ
  rw[List.filter_cons,List.filter_cons]
  by_cases e:a=f
  ·subst e
   have d:(Lit.string a.name.data.toList).sameKey (.string a.name.data.toList)=true:=WideAt.sameKey_self (Z7 _)
   have s:(r.filter λg=> !(left (.string g.name.data.toList)&& !(Lit.string g.name.data.toList).sameKey (.string a.name.data.toList)))=r.filter λg=> !left (.string g.name.data.toList):=by
    refine List.filter_congr (λg o=> ?_);have:(Lit.string g.name.data.toList).sameKey (.string a.name.data.toList)=false:=Maps.sameKey_ne (λe=>by have:=XN (j g o);exact this (Ha e).symm)
    rw[this];simp
   simp only[i,d,s,Bool.not_true,Bool.and_false,Bool.not_false,agr,afI,ag6,aR];omega
  ·have c:f∈r:=by obtain h|h:=agk.1 p;exact absurd h.symm e;exact h
   have d:(Lit.string a.name.data.toList).sameKey (.string f.name.data.toList)=false:=Maps.sameKey_ne (λe=>by have:=XN (j f c);exact this (Ha e));have:=k q left f c i;unfold DJ at this;replace this:aR (r.filter λg=> !(left (.string g.name.data.toList)&& !(Lit.string g.name.data.toList).sameKey (.string f.name.data.toList)))=aR (r.filter λg=> !left (.string g.name.data.toList))+f.data.size:=this;simp only[d,Bool.not_false,Bool.and_true]
   split<;>grind[aR]
open Go.Proofs (encStr)
def mkV(t:Option Addr×Nat×Nat×Int):Value:=.agg #[.slice t.1 t.2.1 t.2.2.1,.int .i64 t.2.2.2]
theorem a8A(a)(kl)(h:keyOf ah.prog 9 a=some kl):∃x,a=encStr x:=by grind[Maps.keyOf_str,Qu9]
theorem a5j(v)(y)(h:mE v=some y):∃t,v=mkV t:=by
 obtain⟨a,n,c,s,e,_⟩:=I9 h
 exact⟨(a,n,c,s),e⟩
theorem a5k{D}{l}{j}(y:sj D l j)(u:∀f∈l,w.ownsRow 0 5 1 (j f.name) f.data.size (yJ f.data.data.toList)){x}{t}{m}{s}(v:mE (mkV t)=some (m,s))(g:∀k,D.atKey (.string x) k=m):∃f∈l,f.name.data.toList=x/\j f.name=.slice t.1 t.2.1 t.2.2.1/\t.2.1=f.data.size/\t.2.2.2=(f.sync:Int):=by
 obtain⟨_,_,_,_,_,E⟩:=I9 v;have p:m=.held (mkV t):=congrArg Prod.fst E;subst p;have h:=λk=>(y (⟨x.toArray⟩:ByteArray) k)
 simp only at h;cases o:dR (⟨x.toArray⟩:ByteArray) l with
 |none=>
  have d:=(g .nil).symm.trans (h .nil)
  rw[o]at d
  cases d
 |some f=>
  obtain⟨r,C⟩:=eZ o;have d:=(g .nil).symm.trans (h .nil)
  rw[o]at d
  simp only[mkV]at d;injection d with d;injection d with d
  have z:([Value.slice t.1 t.2.1 t.2.2.1,.int .i64 t.2.2.2]:List Value)=[j f.name,.int .i64 (f.sync:Int)]:=by have:=congrArg Array.toList d;simpa using this
  injection z with q i;injection i with i _;injection i with _ i;refine⟨f,r,by rw[C],q.symm,?_,i⟩;obtain⟨a,c,e⟩:=ay (u f r)
  rw[<-q]at e
  injection e
theorem UI(w)(S)(p b)(cv)(m)(h:bS w S p b cv m)(hu:aR m.files<=4194304):
  ai9 139 #[.pointer (some ⟨p,0,none⟩)] w (.int .i64 (aR m.files:Int)):=by
 obtain⟨c0,c1,c2,f0,f1,f2,hl⟩:=h.box;obtain⟨D,n,F,hD⟩:=h.map;have HO:=h.ord;have HR:=hide h.rows;have HK:=hide hD;generalize m.files=l at*;go_enter alQ,ntmps139;go_wp2_with (first|(at_range;refine wpList_range_own _ rfl _ 84 rfl 9 195 yL ajj _ b n D rfl F ?_;intro w0 I V hs0)|go_in)
 go_frame
 go_loopw [3] (λx wr=>∃left y,wr.ranges ah.prog 9 mE b w.heap.size n D left y/\x=.int .i64 (DJ left l:Int)/\ah' w wr) (λ_ wr=>wr.rangeLeft b w.heap.size)
 case atStart=>
  refine⟨_,_,I,?_,(a0n _ _).grown V (afA _) (λj hj=>by cases hj)⟩
  rw[X0 l _ (λf hf=>by rw[HK.out.has,I8 HO hf];rfl)]
  rfl
 case round=>
  obtain⟨left,y,J,rfl,hb⟩:=hrel;go_wp2_with (first|(at_next;refine wpList_next_ranges _ rfl _ rfl 9 yL mE encStr mkV a8A a5j b w.heap.size n D left y rfl J ?_ ?_)|go_in)
  ·intro _ U
   have HC:=a1D l left U
   rw[HC]
   go_wp2;go_ret
   exact⟨rfl,hb⟩
  ·intro x a len cap sy kl yd yp w1 N L O Y X E Z M hs1 W
   obtain⟨x',ex,rfl,_⟩:=Maps.keyOf_str Qu9 L;obtain rfl:x=x':=encStr_inj ex;obtain⟨f,hf,rfl,_,Q,_⟩:=a5k HK.out HR.out Y X;have HC:=hide (X3 l HO left f hf O);have R:=a5i l (λz=>left z&& !z.sameKey (.string f.name.data.toList))
   rw[HC.out]at R
   have HL:=hide Z;have HM:=hide J.left_eq;simp only at Q;subst Q;simp only[mkV]at W;generalize DJ left l=u at*;go_wp2;have d:=E.kept (ahY w1 (Obj.cells #[Value.slice a f.data.size cap,Value.int IntKind.i64 sy] 195) none) (by simp) (by simp);refine⟨⟨_,N,d,by rw[HC.out,Int.natCast_add],(hb.grown M hb.size (λj hj=>by cases hj;exact jF)).alloc (afC hb.size M.size) _⟩,?_⟩
   rw[d.left_eq,HM.out]
   exact HL.out
open Go.WideMaps
def Fv(w:World)(b B:Nat)(D:DataW Value)(kl:Lit)(d:DataW Value)(w':World):Prop:=
 dJ (λk=>k=b) w w'/\w.heap.size<w'.heap.size/\∃a,w'.ownsMap ah.prog 9 mE b (Maps.size a) a/\a.put kl d=D.put kl d/\Maps.size a<=B/\Maps.IsMap a
theorem UJ{D}{kl}{d}(h:w.ownsMap ah.prog 9 mE b n D)(a:Maps.size D<=B)(o):Fv w b B D kl d (w.alloc o).drew:=
 ⟨((dJ.refl _ w).alloc o).drew,by simp,D,((FZ h).alloc o).drew,rfl,a,h.isMap⟩
theorem MB{D}{kl}{d}(h:Fv w b B D kl d A)(a:ah' A w'):Fv w b B D kl d w':=by
 obtain⟨j,i,k,g,f,e,c⟩:=h
 exact⟨j.below a,afB i a.size,k,dJ.map (S:=λ_=>False) g (dJ.aK a) (λx=>x),f,e,c⟩
theorem a1E{D}{s:List UInt8}(d:DataW Value)(h:Maps.IsMap D):(D.put (.string s) d).put (.string s) d=D.put (.string s) d:=by
 obtain⟨m,rfl⟩:=h
 have e:∀l:List (Lit×DataW Value),(∀p∈l,p.1.sameKey (.string s)=false)->((DataW.insert (.string s,d) l).filter λp=> !p.1.sameKey (.string s))=l:=by
  intro l;have c:(Lit.string s).sameKey (.string s)=true:=WideAt.sameKey_self trivial;induction l with
  |nil=>simp[DataW.insert]<;>omega
  |cons a r i=>
   intro f;have k:=f a (by simp);have j:∀p∈r,p.1.sameKey (.string s)=false:=λp g=>f p (by simp[g])
   unfold DataW.insert
   split<;>(simp_all<;>omega)
 simp only[DataW.put]
 intros;simp_all
theorem UK{D f}{s}{d}(h:Fv w b B D (.string s) d A)(j:f.put (.string s) d=D.put (.string s) d)(g:Maps.IsMap f)(p:Maps.size (D.put (.string s) d)<=B)(c:w'.ownsMap ah.prog 9 mE b n (f.put (.string s) d))(a:A.grownBy w' (some b)):Fv w b B D (.string s) d w':=by
 obtain⟨r,q,_⟩:=h;refine⟨r.trans (S':=λk=>k=b) ⟨a.os,a.tape,a.output,a.size,λk m l=>a.block k m (λe=>l (by grind))⟩ (λi o=>.inl o),afB q a.size,f.put (.string s) d,FZ c,?_,by rw[j];exact p,g.put _ _⟩
 rw[a1E _ g,j]
theorem a1F{D}{s}{a0}{c}{a}(h:Fv w b B D (.string s.data.toList) (.held (.agg #[.slice a0 n c,.int .i64 a])) A)(i:s.size<=maxLen)(o:Maps.size (D.put (.string s.data.toList) (.held (.agg #[.slice a0 n c,.int .i64 a])))<=B)(e:B<maxLen):
  ∃w' g,(Instr.mapUpdate 84 (.map (some b)) (.string s) (.agg #[.slice a0 n c,.int .i64 a])).run ah.prog A=.ok () w'/\
   w'.ownsMap ah.prog 9 mE b g (D.put (.string s.data.toList) (.held (.agg #[.slice a0 n c,.int .i64 a])))/\A.grownBy w' (some b)/\Fv w b B D (.string s.data.toList) (.held (.agg #[.slice a0 n c,.int .i64 a])) w':=by
 obtain⟨t,r,u,k,q,j,p⟩:=id h;obtain⟨w',f,m,l⟩:=k.update yL ajj (Nat.lt_of_le_of_lt j e) (key:=.string s) (keyOf_string_mk Qu9 i) (val:=.agg #[.slice a0 n c,.int .i64 a]) (d:=.held (.agg #[.slice a0 n c,.int .i64 a])) (ps:=[]) rfl
 grind[UK]
theorem aaH{p a}{f e d}{H:World->Prop}(h:A.cell? ⟨p,1,none⟩=some f/\A.cell? ⟨a,0,none⟩=some e/\A.cell? ⟨a,1,none⟩=some d/\p<A.heap.size/\a<A.heap.size/\p≠b/\a≠b/\H A)(c:A.grownBy w' (some b))(g:H w'):w'.cell? ⟨p,1,none⟩=some f/\w'.cell? ⟨a,0,none⟩=some e/\w'.cell? ⟨a,1,none⟩=some d/\p<w'.heap.size/\a<w'.heap.size/\p≠b/\a≠b/\H w':=
 ⟨c.cell h.1 (by grind),c.cell h.2.1 (by grind),c.cell h.2.2.1 (by grind),afB h.2.2.2.1 c.size,afB h.2.2.2.2.1 c.size,h.2.2.2.2.2.1,h.2.2.2.2.2.2.1,g⟩
theorem acu{p a}{f e d}{H:World->Prop}(h:A.cell? ⟨p,1,none⟩=some f/\A.cell? ⟨a,0,none⟩=some e/\A.cell? ⟨a,1,none⟩=some d/\p<A.heap.size/\a<A.heap.size/\p≠b/\a≠b/\H A)(c:ah' A w')(g:H w'):w'.cell? ⟨p,1,none⟩=some f/\w'.cell? ⟨a,0,none⟩=some e/\w'.cell? ⟨a,1,none⟩=some d/\p<w'.heap.size/\a<w'.heap.size/\p≠b/\a≠b/\H w':=
 ⟨(c.cell (p:=⟨p,1,none⟩) h.2.2.2.1).trans h.1,(c.cell (p:=⟨a,0,none⟩) h.2.2.2.2.1).trans h.2.1,(c.cell (p:=⟨a,1,none⟩) h.2.2.2.2.1).trans h.2.2.1,afB h.2.2.2.1 c.size,afB h.2.2.2.2.1 c.size,h.2.2.2.2.2.1,h.2.2.2.2.2.2.1,g⟩
theorem He(w)(S)(p b)(U)(m)(f)(v)(h:su f.name w S p b U m)(hl:m.files.length<=4194304)(y:w.ownsRow 0 5 1 v f.data.size (yJ f.data.data.toList))(hv:∀k,v.ownBlock=some k->S k/\k≠p/\k≠b/\∀g∈m.files,g.name≠f.name->(U g.name).ownBlock≠some k)(hn:f.name.size<=8)(hs:f.sync<=f.data.size):
  ai3 140 #[.pointer (some ⟨p,0,none⟩),.string f.name,.agg #[v,.int .i64 (f.sync:Int)]] w λe w'=>e=.returned (.tuple #[])/\
   bS w' S p b (λn=>if n=f.name then v else U n) {m with files:=jU f m.files}/\dJ S w w':=by
 obtain⟨a0,u,rfl⟩:=ay y;have hC:=λA=>XY f.name A (by omega)
 have HI:=h;have HV:=hide hv;have W:=hide y;obtain⟨c0,c1,c2,f0,f1,f2,Z⟩:=h.box;have Q:=h.ne;obtain⟨D,n,F,Y⟩:=h.map;have hsz:=Y.count h.ord F
 have J:Maps.size (D.put (.string f.name.data.toList) (.held (.agg #[.slice a0 f.data.size u,.int .i64 (f.sync:Int)])))<=m.files.length+1:=by rw[Maps.size_put (F.tidy yL)];split<;>omega
 have hlb:=F.lt;have O:Hid (f.name.size<=maxLen):=lJ
 have N:Hid (m.files.length+1<maxLen):=lJ
 have L:w.heap.size≠b:=by omega
 go_enter alR,ntmps140;go_wp2_with fail;have hP:=UJ (kl:=.string f.name.data.toList) (d:=.held (.agg #[.slice a0 f.data.size u,.int .i64 (f.sync:Int)])) F (by omega:Maps.size D<=m.files.length+1) (.cells #[.slice a0 f.data.size u,.int .i64 (f.sync:Int)] 195);have e1:(w.alloc (.cells #[.slice a0 f.data.size u,.int .i64 (f.sync:Int)] 195)).drew.cell? ⟨p,1,none⟩=some (.map (some b)):=(((a0n _ w).alloc (afA _) _).drew.cell (p:=⟨p,1,none⟩) Z).trans c1;have j:p<(w.alloc (.cells #[.slice a0 f.data.size u,.int .i64 (f.sync:Int)] 195)).drew.heap.size:=by simp;omega
 go_region_held (λw'=>w'.cell? ⟨p,1,none⟩=some (.map (some b))/\w'.cell? ⟨w.heap.size,0,none⟩=some (.slice a0 f.data.size u)/\w'.cell? ⟨w.heap.size,1,none⟩=some (.int .i64 (f.sync:Int))/\p<w'.heap.size/\w.heap.size<w'.heap.size/\p≠b/\w.heap.size≠b/\Fv w b (m.files.length+1) D (.string f.name.data.toList) (.held (.agg #[.slice a0 f.data.size u,.int .i64 (f.sync:Int)])) w')
  (first|assumption|(refine⟨e1,by simp,by simp,j,by simp,Q,L,hP⟩)|(exact aaH (by assumption) (by assumption) (by assumption))|(exact acu (by assumption) (by assumption) (MB (‹_/\_/\_/\_/\_/\_/\_/\Fv w b _ D _ _ _›).2.2.2.2.2.2.2 (by assumption))))
  (first|(go_at_call 189;refine(hC _).ai ?_;intro w2 V;obtain⟨w5,n5,M,X,z,E⟩:=a1F (MB (‹_/\_/\_/\_/\_/\_/\_/\Fv w b _ D _ _ _›).2.2.2.2.2.2.2 V) O.out J N.out))
 refine ahD (ahA rfl _ _ _) rfl ?_;have I:=E.1
 exact⟨rfl,HI.store Y F.isMap X ⟨I.os,I.tape,I.output,I.size,λk R hn=>I.block k R (λe=>hn (by rw[e]))⟩ W.out HV.out hn hs,I.mono (λi e=>by rw[e];exact HI.EY)⟩
open Go.RowKit Go.Shelf
theorem Hf(d a)(w):ai9 137 #[.pointer none,d,a] w (.int .i64 1):=by
 have c:=λA=>Mx a A
 go_enter aiQ,ntmps137;go_wp2_with (go_at_call 146;refine(c _).ai ?_;intro f e);go_ret
 exact bX
theorem MC(w)(S)(p b)(Y)(m)(h:bS w S p b Y m)(k)(r)(W:Enters ah.prog k)(J)(l)(R:l.length<=1073741824)(U:bz w J l.length 1 (mP l))(T:∀s∈l,s.size<=2097152)(f)(o)(v:o.left=m.left)(Z: -1<=m.left)(V:m.left<=9223372036854775807)(K:gP l=true->m.left≠0->∀j,ah' w j->ai3 k r j λe I=>e=.returned (.int .i64 f)/\bY S j I p b o):
  ai3 137 #[.pointer (some ⟨p,0,none⟩),.func (.func k) #[] r,J] w λe w'=>e=.returned (.int .i64 (aV m l f))/\bY S w w' p b (aU m l f o):=by
 have y:=λA X=>PX ⟨p,0,none⟩ J l A R (U.later (w':=A) X) T
 obtain⟨c0,c1,c2,f0,f1,f2,i⟩:=h.box;have Q:=h;have ek:∀t w,(callFunc k t).run ah.prog w=.ok (.enter k t) w:=W
 by_cases q:gP l=true
 ·rw[afN q]at y
  by_cases C:m.left=0
  ·have G:aV m l f=0:=by unfold aV;rw[afN q,afN C]
   have F:aU m l f o=m:=by unfold aU;rw[afJ (λx=>x.2 C)]
   rw[G,F]
   rw[C]at c2
   go_enter aiQ,ntmps137;go_wp2_with (go_at_call 146;refine(y _ (a0n _ _)).ai ?_;intro j a;have M:=(a.cell (p:=⟨p,2,none⟩) i).trans c2);go_ret
   exact⟨rfl,Q.becomes a⟩
  ·have g:=hide (K q C)
   have G:aV m l f=f:=by unfold aV;rw[afN q,afJ C]
   have F:aU m l f o=(if f=0 then{o with left:=nS m.left}else o):=by unfold aU;rw[afN ⟨q,C⟩]
   rw[G,F]
   by_cases E:f=0
   ·subst E
    rw[afN rfl]
    by_cases N:m.left= -1
    ·have L:nS m.left=m.left:=by unfold nS;rw[afJ (by omega)]
     rw[L,<-v]
     rw[N]at c2
     go_enter aiQ,ntmps137;go_wp2_with (first|(go_at_call 146;refine(y _ (a0n _ _)).ai ?_;intro j a;have M:=(a.cell (p:=⟨p,2,none⟩) i).trans c2)|(go_at_fn k;refine(g.out _ a).ai ?_;intro I d;obtain⟨O,H,c,u,D⟩:=id d;have z:=c.box.c2;rw[v,N]at z));go_ret
     exact⟨rfl,d.behind a⟩
    ·have L:nS m.left=m.left-1:=by unfold nS;rw[afN (by omega)]
     rw[L]
     go_enter aiQ,ntmps137;go_wp2_with (first|(go_at_call 146;refine(y _ (a0n _ _)).ai ?_;intro j a;have M:=(a.cell (p:=⟨p,2,none⟩) i).trans c2)|(go_at_fn k;refine(g.out _ a).ai ?_;intro I d;obtain⟨O,H,c,u,D⟩:=id d;have z:=c.box.c2;rw[v]at z;have f22:=c.box.f2));go_ret
     exact⟨rfl,bY.behind a ⟨O,H,c.yI _,u,D.set _ (u p c.own)⟩⟩
   ·rw[afJ E]
    go_enter aiQ,ntmps137;go_wp2_with (first|(go_at_call 146;refine(y _ (a0n _ _)).ai ?_;intro j a;have M:=(a.cell (p:=⟨p,2,none⟩) i).trans c2)|(go_at_fn k;refine(g.out _ a).ai ?_;intro I d));go_ret
    exact⟨rfl,d.behind a⟩
 ·rw[afJ q]at y
  have G:aV m l f=6:=by unfold aV;rw[afJ q]
  have F:aU m l f o=m:=by unfold aU;rw[afJ (λx=>q x.1)]
  rw[G,F]
  go_enter aiQ,ntmps137;go_wp2_with (go_at_call 146;refine(y _ (a0n _ _)).ai ?_;intro j a);go_ret
  exact⟨rfl,Q.becomes a⟩
def DK(w:World)(v a:Value):Prop:=a.ownBlock=v.ownBlock\/∃k,a.ownBlock=some k/\w.heap.size<=k
theorem wL(w)(l)(t E e)(i)(z)(d J)(G:P.underlying t=some (.slice e))(F:P.info? e=some i)(T:i.zero=some z)(p:i.size=d)(N:i.bytes=J)(R:z.cells.size=d)(S:0<d)(v)(n)(y)(f:w.ownsRow l e d v n y)(a)(m c)(o)(s:o.length=m*d)(q:∀j u,o[j]? =some u->w.cell? (a.add j)=some u)(I:∀u∈o,u.oneCell'=true)(Q:n+m<=maxLen)(h:(n+m)*J<=140737488355328)(O:l<=w.heap.size):
  ∃C w',(Builtin.append_ #[t,t] E #[v,.slice (some a) m c]).run P w=.ok C w'/\w'.ownsRow l e d C (n+m) (y++o)/\w.grownBy w' v.ownBlock/\DK w v C:=by
 obtain⟨C,w',H,h2,h3,_⟩:=run_append_own (P:=P) w l t E e i z d J G F T p N R S v n y f a m c o s q I Q h O;refine⟨C,w',H,h2,h3,?_⟩;have M:=f.2;obtain⟨rfl,rfl⟩|⟨g,r,cur,rfl,Z,hg,W,Y,X,U⟩:=M
 ·have V:y=[]:=afT (by simpa using f.1)
  subst V;obtain⟨v2,k,x,L,_,_⟩:=run_append_own (P:=P) w w.heap.size t E e i z d J G F T p N R S (.slice none 0 0) 0 [] (a9X _ _ _ _) a m c o s q I Q h (afA _)
  exact Bf
 ·by_cases D:n+m<=r
  ·exact Be
  ·have K:∀j u,y[j]? =some u->w.cell? ((⟨g,0,none⟩:Addr).add j)=some u:=f.cells (g:=g) rfl
   subst p;subst N;have x:=run_append_grow (P:=P) w t E e i z G F T ⟨g,0,none⟩ n r y f.1 K a m c o s q (by omega) (by simp only[maxLen]at Q;omega) (ai0 (by omega) h)
   exact Bj
theorem jW(w){L}{rest}{o}{a}{Q}(S:o.guard=none)(s x)(t)(q:o.op=.call {callee:=.builtin .append,args:=#[s,x],argTypes:=#[t,t]})(F)(e)(i)(z)(C E)(X:P.underlying t=some (.slice e))(Z:P.info? e=some i)(W:i.zero=some z)(H:i.size=C)(T:i.bytes=E)(O:z.cells.size=C)(R:0<C)(v)(n)(N)(r:a.eval s=v)(M:w.ownsRow F e C v n N)(V)(m c)(D)(y:a.eval x=.slice (some V) m c)(Y:D.length=m*C)(I:∀j u,D[j]? =some u->w.cell? (V.add j)=some u)(h1:∀u∈D,u.oneCell'=true)(U:n+m<=maxLen)(G:(n+m)*E<=140737488355328)(J:F<=w.heap.size)(h:∀d w',w'.ownsRow F e C d (n+m) (N++D)->w.grownBy w' v.ownBlock->DK w v d->wpList P L Q rest (a.put o.dst d) w'):wpList P L Q (o::rest) a w:=by
 refine wpList_plain S λK p=> ?_
 obtain⟨d,w',f,g,k,l⟩:=wL (P:=P) w F t o.type e i z C E X Z W H T O R v n N M V m c D Y I h1 U G J;exact Bh
def Laid(w w':World)(v a:Value):Prop:=a.ownBlock=v.ownBlock\/((∃k,a.ownBlock=some k/\w.heap.size<=k)/\∀k,k<w.heap.size->w'.heap[k]? =w.heap[k]?)
theorem Bn(w)(l)(t E e)(i)(z)(d h)(G:P.underlying t=some (.slice e))(F:P.info? e=some i)(X:i.zero=some z)(p:i.size=d)(R:i.bytes=h)(T:z.cells.size=d)(V:0<d)(v)(n)(y)(f:w.ownsRow l e d v n y)(a)(m c)(o)(s:o.length=m*d)(q:∀j u,o[j]? =some u->w.cell? (a.add j)=some u)(I:∀u∈o,u.oneCell'=true)(S:n+m<=maxLen)(L:(n+m)*h<=140737488355328)(O:l<=w.heap.size):
  ∃C w',(Builtin.append_ #[t,t] E #[v,.slice (some a) m c]).run P w=.ok C w'/\w'.ownsRow l e d C (n+m) (y++o)/\w.grownBy w' v.ownBlock/\Laid w w' v C:=by
 obtain⟨C,w',H,h2,Y,Q⟩:=wL (P:=P) w l t E e i z d h G F X p R T V v n y f a m c o s q I S L O;refine⟨C,w',H,h2,Y,?_⟩;obtain Q|Q:=Q
 ·exact .inl Q
 ·have N:=f.2
  obtain⟨rfl,rfl⟩|⟨g,r,cur,rfl,hbg,hg,Z,hcm,hcs,U⟩:=N
  ·exact .inr ⟨Q,λk W=>Y.block k W (by simp[Value.ownBlock])⟩
  ·by_cases D:n+m<=r
   ·exact Be
   ·have M:∀j u,y[j]? =some u->w.cell? ((⟨g,0,none⟩:Addr).add j)=some u:=f.cells (g:=g) rfl
    subst p;subst R;have x:=run_append_grow (P:=P) w t E e i z G F X ⟨g,0,none⟩ n r y f.1 M a m c o s q (by omega) (by simp only[maxLen]at S;omega) (ai0 (by omega) L)
    rw[H]at x
    injection x with J K;subst K;exact .inr ⟨Q,λk W=>ahL w.drew _ k W⟩
theorem gL(w){L}{rest}{o}{a}{Q}(S:o.guard=none)(s x)(t)(q:o.op=.call {callee:=.builtin .append,args:=#[s,x],argTypes:=#[t,t]})(F)(e)(i)(z)(C E)(X:P.underlying t=some (.slice e))(Z:P.info? e=some i)(W:i.zero=some z)(H:i.size=C)(T:i.bytes=E)(O:z.cells.size=C)(R:0<C)(v)(n)(N)(r:a.eval s=v)(M:w.ownsRow F e C v n N)(V)(m c)(D)(y:a.eval x=.slice (some V) m c)(Y:D.length=m*C)(I:∀j u,D[j]? =some u->w.cell? (V.add j)=some u)(h1:∀u∈D,u.oneCell'=true)(U:n+m<=maxLen)(G:(n+m)*E<=140737488355328)(J:F<=w.heap.size)(h:∀d w',w'.ownsRow F e C d (n+m) (N++D)->w.grownBy w' v.ownBlock->Laid w w' v d->wpList P L Q rest (a.put o.dst d) w'):wpList P L Q (o::rest) a w:=by
 refine wpList_plain S λK p=> ?_
 obtain⟨d,w',f,g,k,l⟩:=Bn (P:=P) w F t o.type e i z C E X Z W H T O R v n N M V m c D Y I h1 U G J;exact Bh
end Go.Proofs.Zq
