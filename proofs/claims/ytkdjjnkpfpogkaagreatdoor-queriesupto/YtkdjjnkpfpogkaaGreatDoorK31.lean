import Derived.ChangeAlike
import Derived.Deep.RegionWith
import Derived.Laws.ResultCell
import Derived.Laws.ShiftsVar
import Derived.Test.YtkdjjnkpfpogkaaGreatDoorK30
set_option maxHeartbeats 8000000
set_option linter.all false
set_option maxRecDepth 20000
namespace Go
def oU{P:Prop}(h:P:=by
 clear y;go_wp2
 go_quiet (fail)
 go_wp2;go_ret
 exact⟨dx H.out.symm,ahH (D.alloc D.size _) _⟩):P:=h
def ait{P:Prop}(h:P:=by exact abt (v:=.tuple #[.agg #[.int .i64 0,.int .i64 0,.string ⟨#[]⟩],.string ⟨#[]⟩,.bool false]) (by simp[results,results216,go_sem]) rfl ⟨rfl,(a0n _ _).alloc (afA _) _⟩):P:=h
def BN{P:Prop}(h:P:=by
 go_wp2
 go_roundw
 case rel=>exact⟨k+1,by omega,by go_num,by rw[u.out];go_num,D.alloc (by exact D.size) _⟩
 case measure=>simp[intOf];omega):P:=h
def oV{P:Prop}(h:P:=by
 go_wp2;go_ret
 exact⟨dx (Nl v 4),rfl⟩):P:=h
def aqQ{P:Prop}(h:P:=by
 go_wp2
 all_goals
  go_ret;refine⟨dx ?_,rfl⟩
  rw[H]
  simp[l.out];omega):P:=h
end Go
namespace Go.Proofs.Zq
open Tryz
open Go.RowKit
open Rl
variable{m k:Nat}
theorem Qh(k)(w):
  ai3 166 #[.int .i64 k] w λe w'=>e=.returned (.int .i64 (ed k))/\w'=w:=by
 cases h:mV k with
 |true=>
  obtain rfl|rfl|rfl|rfl|rfl|rfl|rfl:=sF k h
  all_goals
   go_enter akl,ntmps166;exact cB
 |false=>
  have R:=rH k h
  rw[vQ k h]
  have e1:(k==1)=false:=ax
  have e2:(k==2)=false:=ax
  have E:(k==3)=false:=ax
  have J:(k==4)=false:=ax
  have y:(k==6)=false:=ax
  have u:(k==7)=false:=ax
  have d:(k==8)=false:=ax
  go_enter akl,ntmps166;exact cB
theorem FD(k)(w)(h:mV k=true):
  ai3 254 #[.int .i64 k] w λe w'=>e=.returned (.tuple #[.int .i64 (ed k),.bool true])/\w'=w:=by
 obtain rfl|rfl|rfl|rfl|rfl|rfl|rfl:=sF k h
 all_goals
  go_enter akC,ntmps254;go_wp2;go_ret2
  exact bG
theorem BQ(k)(w)(h:mV k=false):
  ai3 254 #[.int .i64 k] w λe w'=>e=.returned (.tuple #[.int .i64 0,.bool false])/\w'=w:=by
 have R:=rH k h;have e1:(k==1)=false:=ax
 have e2:(k==2)=false:=ax
 have E:(k==3)=false:=ax
 have J:(k==4)=false:=ax
 have y:(k==6)=false:=ax
 have u:(k==7)=false:=ax
 have d:(k==8)=false:=ax
 go_enter akC,ntmps254;go_wp2;go_ret2
 exact bG
theorem EE(v):jf 1 v=decide (v.size=1/\at8 v.data.toList 0<=2):=by simp[jf]
theorem Qi(v):jf 2 v=wM v.data.toList:=by simp[jf]
theorem yO(k)(v)(h:k=3\/k=4):jf k v=decide (v.size=4):=by grind[jf]
theorem Qj(v):jf 6 v=decide (v.size=0):=by simp[jf]
theorem J8(v):jf 7 v=decide (v.size=8):=by simp[jf]
theorem J9(v):jf 8 v=decide (4<=v.size/\v.size%4=0):=by simp[jf]
theorem dF(v:ByteArray):v.toList.isEmpty=decide (v.size=0):=by grind[ahN,nil_of_size,qC]
theorem Nl(v:ByteArray)(n:Nat):((v.size:Int)==(n:Int))=decide (v.size=n):=by grind
theorem a5Q(v:ByteArray)(h:4<=v.size):((v.size:Int)%4==0)=decide (4<=v.size/\v.size%4=0):=by grind
theorem a2m(v:ByteArray)(h:¬v.size=0):((v.size:Int)%4==0)=decide (4<=v.size/\v.size%4=0):=by grind
theorem Qk(k)(v)(w)(u:v.size<=maxLen)(h:mV k=true):
  ai3 167 #[.int .i64 k,.string v] w λe w'=>e=.returned (.bool (jf k v))/\w'=w:=by
 have d:=u;unfold maxLen at u;obtain rfl|rfl|rfl|rfl|rfl|rfl|rfl:=sF k h
 ·clear h
  by_cases h1:v.size=1
  ·have J:0<v.size:=by omega
   have hb:=dD v 0 J;have hx:(0:Int)<(v.size:Int):=by omega
   have H:=EE v;have hs:((v.size:Int)==1)=true:=jO
   have l:=hide h1;generalize at8 v.data.toList 0=b at*;go_enter aiG,ntmps167;exact aqQ
  ·have hs:((v.size:Int)==1)=false:=by rw[afW];omega
   rw[EE]
   have l:=hide h1;go_enter aiG,ntmps167;go_wp2;go_ret;refine⟨dx ?_,rfl⟩;simp[l.out]
 ·clear h
  rw[Qi]
  go_enter aiG,ntmps167;go_wp2_with (go_at_call 223;refine(Sd v _ d).ai ?_;intro w' rfl);go_ret
  exact bG
 ·clear h
  rw[yO _ _ (.inl rfl)]
  go_enter aiG,ntmps167;exact oV
 ·clear h
  rw[yO _ _ (.inr rfl)]
  go_enter aiG,ntmps167;exact oV
 ·clear h
  rw[Qj]
  go_enter aiG,ntmps167;go_wp2;go_ret
  exact⟨dx (dF v),rfl⟩
 ·clear h
  rw[J8]
  go_enter aiG,ntmps167;go_wp2;go_ret
  exact⟨dx (Nl v 8),rfl⟩
 ·clear h
  rw[J9]
  by_cases y:4<=v.size
  ·have E:=hide y
   go_enter aiG,ntmps167;go_wp2;go_ret
   exact⟨dx (a5Q v E.out),rfl⟩
  ·have E:=hide y
   go_enter aiG,ntmps167;go_wp2;go_ret
   exact⟨dx (by simp),rfl⟩
theorem FE(k)(v)(w)(y:v.size<=maxLen)(h:mV k=true):
  ai3 255 #[.int .i64 k,.string v] w λe w'=>e=.returned (.bool (jf k v))/\w'=w:=by
 have d:=y;unfold maxLen at y;obtain rfl|rfl|rfl|rfl|rfl|rfl|rfl:=sF k h
 ·clear h
  by_cases h1:v.size=1
  ·have J:0<v.size:=by omega
   have hb:=dD v 0 J;have hx:(0:Int)<(v.size:Int):=by omega
   have H:=EE v;have hs:((v.size:Int)==1)=true:=jO
   have l:=hide h1;generalize at8 v.data.toList 0=b at*;go_enter aiH,ntmps255;exact aqQ
  ·have hs:((v.size:Int)==1)=false:=by rw[afW];omega
   rw[EE]
   have l:=hide h1;go_enter aiH,ntmps255;go_wp2;go_ret;refine⟨dx ?_,rfl⟩;simp[l.out]
 ·clear h
  rw[Qi]
  go_enter aiH,ntmps255;go_wp2_with (go_at_call 293;refine(Yz v _ d).ai ?_;intro w' rfl);go_ret
  exact bG
 ·clear h
  rw[yO _ _ (.inl rfl)]
  go_enter aiH,ntmps255;exact oV
 ·clear h
  rw[yO _ _ (.inr rfl)]
  go_enter aiH,ntmps255;exact oV
 ·clear h
  rw[Qj]
  go_enter aiH,ntmps255;go_wp2;go_ret
  exact⟨dx (dF v),rfl⟩
 ·clear h
  rw[J8]
  go_enter aiH,ntmps255;go_wp2;go_ret
  exact⟨dx (Nl v 8),rfl⟩
 ·clear h
  rw[J9]
  by_cases J:v.size=0
  ·have M:v.toList.isEmpty=true:=by rw[dF];simp[J]
   have u:=hide J;go_enter aiH,ntmps255;go_wp2;go_ret
   exact⟨dx (by simp[u.out]),rfl⟩
  ·have M:v.toList.isEmpty=false:=by rw[dF];simp[J]
   have u:=hide J;go_enter aiH,ntmps255;go_wp2;go_ret
   exact⟨dx (a2m v u.out),rfl⟩
theorem Ql(t)(z)(w)(b:1<=z/\z<=2):
  ai3 242 #[.string (t.extract 2 (2+z))] w λe a=>e=.returned (.int .i64 (uo z t:Int))/\a=w:=by
 grind[qB,afU,EB]
theorem Vp(t)(z)(w)(c:t.size<=maxLen)(b:1<=z/\z<=2)(h:jq z t=false):
  ai9 216 #[.string t,.int .i64 z] w (.tuple #[.agg #[.int .i64 0,.int .i64 0,.string ⟨#[]⟩],.string ⟨#[]⟩,.bool false]):=by
 unfold maxLen at c;unfold jq at h
 rw[agA]at h
 have g:=EC z t b.2;have a:=b;obtain⟨e,d⟩:=b
 by_cases j:t.size<2+z
 ·clear h
  go_enter ajs,ntmps216;go_wp2;exact ait
 ·have i:t.size<2+z+uo z t:=by omega
  go_enter ajs,ntmps216;go_wp2_with (go_at_call 242;refine(Ql t z _ a).ai ?_;intro f rfl);exact ait
theorem Vq(t)(z)(w)(f:t.size<=maxLen)(c:1<=z/\z<=2)(h:jq z t=true):
  ai9 216 #[.string t,.int .i64 z] w (.tuple #[.agg #[.int .i64 ((DX z t).flags:Int),.int .i64 ((DX z t).kind:Int),.string (DX z t).val],.string (FC z t),.bool true]):=by
 unfold maxLen at f;unfold jq at h
 rw[agv]at h
 have u:=EC z t c.2;have b:=c;obtain⟨r,q⟩:=c;obtain⟨y,x⟩:=h;have l:=dD t 0 (by omega);have j:=dD t 1 (by omega);have i:=gG t.data.toList 0;have g:=gG t.data.toList 1;have e:(0:Int)<(t.size:Int):=by omega
 have d:(1:Int)<(t.size:Int):=by omega
 have a:=λw=>Ql t z w b
 unfold DX FC;simp only;generalize at8 t.data.toList 0=p at*;generalize at8 t.data.toList 1=o at*;generalize uo z t=n at*;go_enter ajs,ntmps216;go_wp2_with (go_at_call 242;refine(a _).ai ?_;intro s rfl)
 go_region
 go_wp2;refine abt (v:=.tuple #[.agg #[.int .i64 p,.int .i64 o,.string (t.extract (2+z) (2+z+n))],.string (t.extract (2+z+n) t.size),.bool true]) (by simp[results,results216,go_sem]) rfl ⟨rfl,?_⟩;exact ahH (n:=1) ((a0n _ _).alloc (afA _) _)
theorem Nn(f k)(v)(h:mV k=true):atOk f k v=(decide (f=ed k)&&jf k v):=by grind[atOk]
theorem H9(f k)(v)(h:mV k=false):atOk f k v=decide (f=192\/f=224):=by grind[atOk]
theorem int_eq(a b:Int):(a==b)=decide (a=b):=by grind
theorem BR(f k)(v)(w)(d:v.size<=maxLen):
  ai9 217 #[.agg #[.int .i64 f,.int .i64 k,.string v]] w (.bool (atOk f k v)):=by
 cases h:mV k with
 |true=>
  rw[Nn f k v h]
  have a:=λw=>FD k w h
  have b:=λw=>FE k v w d h
  generalize ed k=g at*;generalize jf k v=r at*
  by_cases e:f=g
  ·subst e
   have j:(f==f)=true:=by simp
   go_enter ajt,ntmps217;go_wp2_with (first|(go_at_call 254;refine(a _).ai ?_;intro c rfl)|(go_at_call 255;refine(b _).ai ?_;intro c rfl));go_ret
   exact⟨dx (by simp),(a0n _ _).alloc (afA _) _⟩
  ·have j:(f==g)=false:=by rw[afW];exact e
   have E:=e;go_enter ajt,ntmps217;go_wp2_with (first|(go_at_call 254;refine(a _).ai ?_;intro c rfl)|(go_at_call 255;refine(b _).ai ?_;intro c rfl));go_ret
   exact⟨dx (by simp[E]),(a0n _ _).alloc (afA _) _⟩
 |false=>
  rw[H9 f k v h]
  have a:=λw=>BQ k w h
  go_enter ajt,ntmps217;go_wp2_with (first|(go_at_call 254;refine(a _).ai ?_;intro c rfl))
  ·go_ret
   exact⟨dx (by simp;omega),(a0n _ _).alloc (afA _) _⟩
  ·have i:¬f=192:=by assumption
   go_ret
   exact⟨dx (by simp[i,int_eq]),(a0n _ _).alloc (afA _) _⟩
theorem xq(v)(C)(w)(hx:C.length<=1073741824)(Y:bz w v C.length 3 (dN C)):
  ai9 218 #[v] w (.bool (eY C==3)):=by
 obtain⟨_,Y⟩:=Y;obtain⟨a,c,rfl,hn⟩|⟨b,o,I,rfl,hn,hb,M⟩:=Y
 ·have y:C=[]:=afT hn
  subst y;go_enter akx,ntmps218;go_wp2;refine ahF 1 ?_
  rw[ahG]
  go_wp2;go_ret
  exact⟨dx (by simp[eY]),a0n _ _⟩
 ·go_enter akx,ntmps218
  go_wp2
  go_loopw [3,8] (λx i wr=>∃k:Nat,k<=C.length/\i=.int .i64 k/\x=.int .i64 (eY (C.take k))/\ah' w wr) (λ_ i _=>C.length-(intOf i).toNat)
  case atStart=>exact⟨0,afK _,rfl,rfl,a0n _ _⟩
  case round=>
   obtain⟨k,R,rfl,rfl,D⟩:=hrel;have E:eY (C.take k)<=k:=afC (Vm _) (List.length_take_le _ _)
   by_cases Z:k<C.length
   ·obtain⟨g1,g2,g3⟩:=DY C k Z
    have c1:=(D.cell (p:=⟨b,o+k*3,none⟩) hb).trans (M _ _ g1);have c2:=(D.cell (p:=⟨b,o+k*3+1,none⟩) hb).trans (M _ _ g2);have c3:=(D.cell (p:=⟨b,o+k*3+2,none⟩) hb).trans (M _ _ g3);have u:=hide (Yu C k Z);generalize C[k]=a at*;generalize eY (C.take k)=n at*
    by_cases d:1<=a.kind/\a.kind<=3
    ·have F:a.kind=1\/a.kind=2\/a.kind=3:=by omega
     rw[afN d]at u
     obtain⟨O,N,L⟩:=a;simp only at*;obtain rfl|rfl|rfl:=F
     all_goals
      exact BN
    ·rw[afJ d]at u
     have e1:((a.kind:Int)==1)=false:=ax
     have e2:((a.kind:Int)==2)=false:=ax
     have J:((a.kind:Int)==3)=false:=ax
     exact BN
   ·clear M
    go_wp2;go_ret
    exact⟨dx (by rw[aga (by omega),int_eq];rw[ah1];simp;omega),D⟩
theorem a8U{w:World}{d}{e}{b}{v}{f}(h:w.ownsRow d e b v m f):∀a n c,v=.slice a n c->n<=c:=by
 intro a n c p;obtain⟨j,_⟩|⟨g,o,l,j,_,_,i,_⟩:=h.2
 ·grind
 grind
theorem Vr:(ah.prog.info? 9).map (λi=>(i.zero,i.size,i.bytes))=some (some (.string ⟨#[]⟩),1,16):=by kernel_rfl
theorem aeo(a):∀u∈[Value.string a],u.oneCell'=true:=by intro u d;exact ahg
namespace Rl
def OL(t:ByteArray):Nat:=if at8 t.data.toList 0/16%2=1 then 2 else 1
theorem a5R(t):1<=OL t/\OL t<=2:=by grind[OL]
def KI(t:ByteArray):Bool:=jq (OL t) t
def fA(t:ByteArray):At:=DX (OL t) t
def KJ(t:ByteArray):ByteArray:=FC (OL t) t
theorem a2n(t):(fA t).flags<256:=gG _ _
theorem Vs(t):(fA t).kind<256:=gG _ _
theorem a8V(t):(fA t).val.size<=t.size:=by grind[fA,DX,afU]
theorem Np(t)(h:KI t=true):(KJ t).size+3+(fA t).val.size<=t.size:=by grind[a5R,KI,jq,KJ,fA,FC,DX,afU]
inductive Did where
 |keep (g:Nat)|pass|Ia|ends
 deriving DecidableEq
def kP(f k:Nat)(v:ByteArray):Did:=
 if mV k=true then
  (if ((f/64*64:Nat):Int)=ed k/\jf k v=true then .keep (ed k).toNat else if k=6\/k=7 then .pass else .Ia)
 else if f<128 then .ends else if f%128<64 then .pass else .keep (192+f%64/32*32)
def met(a:Nat->Bool)(k:Nat):Nat->Bool:=λi=>if i=k then true else a i
theorem D7(a)(k):met a k k=true:=by simp[met]
theorem Qm(a)(k i)(h:i≠k):met a k i=a i:=by simp[met,h]
theorem YA(a)(k i)(h:a i=true):met a k i=true:=by grind[met]
def kI(s:ByteArray)(a:Nat->Bool)(l:List At)(b:Bool):Option (List At×Bool):=
 if s.size=0 then some (l,b)
 else if _hw:KI s=true then
  (if a (fA s).kind=true then kI (KJ s) a l b
  else match kP (fA s).flags (fA s).kind (fA s).val with
   | .keep g=>kI (KJ s) (met a (fA s).kind) (l++[⟨g,(fA s).kind,(fA s).val⟩]) b
   | .pass=>kI (KJ s) (met a (fA s).kind) l b
   | .Ia=>kI (KJ s) (met a (fA s).kind) l true
   | .ends=>none)
 else some (l,true)
termination_by s.size
decreasing_by all_goals (have:=Np s (by assumption);omega)
variable{s:ByteArray}{sn:Nat->Bool}{l:List At}{A:Bool}
theorem Jh(h:s.size=0):kI s sn l A=some (l,A):=by grind[kI]
theorem Ji(h:¬s.size=0)(a:KI s=false):kI s sn l A=some (l,true):=by grind[kI]
theorem D8(h:¬s.size=0)(a:KI s=true)(b:sn (fA s).kind=true):kI s sn l A=kI (KJ s) sn l A:=by grind[kI]
theorem yP(h:¬s.size=0)(a:KI s=true)(b:sn (fA s).kind=false)(g)(c:kP (fA s).flags (fA s).kind (fA s).val=.keep g):kI s sn l A=kI (KJ s) (met sn (fA s).kind) (l++[⟨g,(fA s).kind,(fA s).val⟩]) A:=by grind[kI]
theorem yQ(h:¬s.size=0)(a:KI s=true)(b:sn (fA s).kind=false)(c:kP (fA s).flags (fA s).kind (fA s).val=.pass):kI s sn l A=kI (KJ s) (met sn (fA s).kind) l A:=by grind[kI]
theorem D9(h:¬s.size=0)(a:KI s=true)(b:sn (fA s).kind=false)(c:kP (fA s).flags (fA s).kind (fA s).val=.Ia):kI s sn l A=kI (KJ s) (met sn (fA s).kind) l true:=by grind[kI]
theorem Gg(h:¬s.size=0)(a:KI s=true)(b:sn (fA s).kind=false)(c:kP (fA s).flags (fA s).kind (fA s).val=.ends):kI s sn l A=none:=by grind[kI]
def qc(s:ByteArray):Option (List At×Bool):=kI s (λ_=>false) [] false
structure Lc(m:Nat)(sn:Nat->Bool)(l:List At):Prop where
 seen:∀a∈l,sn a.kind=true
 once:(l.map (·.kind)).Nodup
 fine:∀a∈l,a.flags<256/\a.kind<256/\a.val.size<=m
theorem Lc.start(m):Lc m (λ_=>false) []:=⟨by simp,by simp,by simp⟩
theorem Lc.met{m:Nat}(h:Lc m sn l)(k:Nat):Lc m (met sn k) l:=⟨λa b=>YA _ _ _ (h.seen a b),h.once,h.fine⟩
theorem Lc.fresh(h:Lc m sn l)(k)(c:sn k=false):∀a∈l,a.kind≠k:=by
 intro a b e;have:=h.seen a b
 grind
theorem Lc.keep(h:Lc m sn l)(k)(f:sn k=false)(g)(v)(q:g<256)(p:k<256)(j:v.size<=m):Lc m (Rl.met sn k) (l++[⟨g,k,v⟩]):=by
 refine⟨λa c=> ?_,?_,λa c=> ?_⟩
 ·obtain c|c:=agz.1 c
  ·exact YA _ _ _ (h.seen a c)
  ·grind[D7]
 ·rw[agD,List.nodup_append]
  refine⟨h.once,by simp,?_⟩;intro a c b i;have d:b=k:=by simpa using i
  obtain⟨x,e,rfl⟩:=agG.1 c
  rw[d]
  exact h.fresh k f x e
 ·obtain c|c:=agz.1 c
  ·exact h.fine a c
  ·grind
def cO(l:List At)(i:Nat):Int:=match l.find? (λa=>a.kind==i)with
 |some a=>a.flags
 |none=> -1
def jh(l:List At)(i:Nat):ByteArray:=match l.find? (λa=>a.kind==i)with
 |some a=>a.val
 |none=>⟨#[]⟩
theorem aaY{l:List At}(h:∀a∈l,a.kind≠k):l.find? (λa=>a.kind==k)=none:=by grind
theorem Vt{l}(h:∀a∈l,a.kind≠k)(g:Nat)(v)(i):cO (l++[⟨g,k,v⟩]) i=if i=k then(g:Int)else cO l i:=by
 unfold cO
 grind
theorem YB{l}(h:∀a∈l,a.kind≠k)(g)(v)(i):jh (l++[⟨g,k,v⟩]) i=if i=k then v else jh l i:=by
 unfold jh
 grind
theorem Gh(f k)(v)(g)(h:kP f k v=.keep g):g<256:=by grind[kP,aqC]
end Rl
namespace Rl
def uq(l:List At):Prop:=l.Pairwise λa b=>a.kind<b.kind
def uT(a:At):List UInt8:=oQ a.flags a.kind 2 a.val
theorem a2o{l c:List At}(e:c.Perm l)(g:(l.map (·.kind)).Nodup)(i):c.find? (λa=>a.kind==i)=l.find? (λa=>a.kind==i):=by
 have d:∀{m:List At},(m.map (·.kind)).Nodup->∀a∈m,a.kind=i->m.find? (λa=>a.kind==i)=some a:=by
  intro m;induction m with
  |nil=>simp
  |cons b m j=>grind
 have f:(c.map (·.kind)).Nodup:=((e.map _).nodup_iff).2 g;cases h:l.find? (λa=>a.kind==i)<;>grind
theorem Vu:∀l,uq l->∀n,l.filter (λa=>decide (a.kind<n+1))=l.filter (λa=>decide (a.kind<n))++(l.find? (λa=>a.kind==n)).toList:=by
 intro l;induction l with
 |nil=>simp
 |cons a l c=>
  intro b n;unfold uq at b
  rw[agw]at b
  have d:=c b.2 n
  by_cases f:a.kind<n
  ·rw[List.filter_cons_of_pos (by grind),List.filter_cons_of_pos (by grind),List.find?_cons_of_neg (by grind),d];rfl
  ·by_cases e:a.kind=n
   ·grind[List.filter_eq_nil_iff,List.filter_cons_of_pos,List.filter_cons_of_neg,List.find?_cons_of_pos]
   ·grind
def Ka(l:List At)(i:Nat):List UInt8:=if 0<=cO l i then oQ (cO l i).toNat i 2 (jh l i)else []
theorem Gi(l)(i):Ka l i=(l.find? (λa=>a.kind==i)).toList.flatMap uT:=by
 unfold Ka cO jh uT
 grind
def mW(l:List At):Nat->List UInt8
 |0=>[]
 |n+1=>mW l n++Ka l n
theorem YC{l a}(c:a.Perm l)(d:(l.map (·.kind)).Nodup)(n):mW a n=mW l n:=by
 induction n with
 |zero=>rfl
 |succ n b=>unfold mW;rw[b,Gi,Gi,a2o c d]
theorem Sg(l)(c:uq l)(n):mW l n=(l.filter (λa=>decide (a.kind<n))).flatMap uT:=by
 induction n with
 |zero=>
  have:l.filter (λa=>decide (a.kind<0))=[]:=by rw[List.filter_eq_nil_iff];intro a _;simp
  rw[this];rfl
 |succ n b=>simp_all[mW,Gi,Vu,List.flatMap_append]
theorem a2p(l)(b:uq l)(c:∀a∈l,a.kind<256):mW l 256=l.flatMap uT:=by grind[Sg,List.filter_eq_self]
theorem a5S(l)(n m)(h:n<=m):(mW l n).length<=(mW l m).length:=by
 induction m with
 |zero=>grind
 |succ m a=>
  by_cases e:n=m+1<;>grind[mW,Ka,afE]
theorem Vv(l):eY l=(l.map (·.kind)).count 1+(l.map (·.kind)).count 2+(l.map (·.kind)).count 3:=by
 induction l with
 |nil=>rfl
 |cons a l b=>
  have e:eY (a::l)=(if 1<=a.kind/\a.kind<=3 then 1 else 0)+eY l:=by
   unfold eY
   by_cases h:1<=a.kind/\a.kind<=3<;>grind
  rw[e,b,List.map_cons,List.count_cons,List.count_cons,List.count_cons]
  simp only[agx]
  by_cases c:a.kind=1<;>grind
theorem Gj(l)(i)(a:(l.map (·.kind)).Nodup):(l.map (·.kind)).count i<=1/\((l.map (·.kind)).count i=0↔cO l i<0):=by constructor<;>grind[List.count_eq_zero,cO]
theorem Vw(l)(a:(l.map (·.kind)).Nodup):(eY l==3)= !(decide (cO l 1<0)||decide (cO l 2<0)||decide (cO l 3<0)):=by
 have e:=Gj l 1 a;have d:=Gj l 2 a;have c:=Gj l 3 a;have b:=Vv l
 grind
theorem Nq{l a}(b:a.Perm l):eY a=eY l:=by unfold eY;exact(b.filter _).length_eq
theorem a2r(m):∀n s f l t i e,s.size<=n->s.size<=m->Lc m f l->kI s f l t=some (i,e)->(∃q,Lc m q i)/\i.length<=l.length+s.size:=by
 intro n;induction n with
 |zero=>grind[Jh,ag1,Prod.mk.injEq]
 |succ n d=>
  intro s f l t i e v w c h
  by_cases r:s.size=0
  ·grind
  ·cases j:KI s with
   |false=>grind[Ji,ag1,Prod.mk.injEq]
   |true=>
    have u:=Np s j;cases o:f (fA s).kind with
    |true=>grind[D8]
    |false=>
     cases p:kP (fA s).flags (fA s).kind (fA s).val with
     |keep g=>
      rw[yP r j o g p]at h
      obtain⟨b,a⟩:=d _ _ _ _ _ _ (by omega) (by omega) (c.keep _ o g _ (Gh _ _ _ _ p) (Vs s) (by omega)) h
      rw[afE]at a
      exact⟨b,by simp at a;omega⟩
     |pass=>
      rw[yQ r j o p]at h
      exact BO
     |Ia=>
      rw[D9 r j o p]at h
      exact BO
     |ends=>grind[Gg]
theorem a5T(s)(l)(b)(h:qc s=some (l,b)):∃a,Lc s.size a l:=
 (a2r s.size s.size s _ _ _ _ _ (afA _) (afA _) (Lc.start _) h).1
theorem a2s{b}{l}(h:Lc m b l)(i):cO l i<256:=by
 unfold cO;cases c:l.find? (λa=>a.kind==i)with
 |none=>simp
 |some a=>have:=(h.fine a (List.mem_of_find?_eq_some c)).1;simp only;omega
theorem Vx{b}{l}(h:Lc m b l)(i):(jh l i).size<=m:=by
 unfold jh;cases c:l.find? (λa=>a.kind==i)with
 |none=>exact afK _
 |some a=>exact(h.fine a (List.mem_of_find?_eq_some c)).2.2
theorem Vy(l)(m)(h:∀i,(jh l i).size<=m):∀n,(mW l n).length<=n*(m+4):=by
 intro n;induction n with
 |zero=>exact afK _
 |succ n a=>grind[mW,afE,Nat.succ_mul,Ka,cO,vS]
end Rl
def wQ(a:At):ByteArray:=⟨(uT a).toArray⟩
theorem FH(l:List At):flat (l.map wQ)=l.flatMap uT:=by
 unfold flat
 rw[List.map_map]
 exact af'
theorem Gl(v)(l)(w)(hx:l.length<=1048576)(hl:∀a∈l,a.flags<256/\a.kind<256/\a.val.size<=1048576)(L:(l.flatMap uT).length<=140737488355328)(Y:bz w v l.length 3 (dN l)):
  ai9 281 #[v] w (.string ⟨(l.flatMap uT).toArray⟩):=by
 obtain⟨i0,hi,hz0,hz1,hz2⟩:=ahC Vr;obtain⟨_,Y⟩:=Y;obtain⟨a,c,rfl,hn⟩|⟨b,o,cap,rfl,hn,hb,M⟩:=Y
 ·have O:l=[]:=afT hn
  subst O;have hj:=λw=>Nj (.slice none 0 0) [] w (bz.nil _ _ _ _) (a5P (afA _)) (by simp) (by simp[flat])
  go_enter akF,ntmps281;go_wp2;refine ahF 1 ?_
  rw[ahG]
  go_wp2_with (go_at_call 215;refine(hj _).ai ?_;intro w2 V);go_ret
  exact⟨rfl,V⟩
 ·go_enter akF,ntmps281
  go_wp2
  go_loopw [3,8] (λx i wr=>∃(k:Nat)(E:Value),E=x/\k<=l.length/\i=.int .i64 k/\wr.ownsRow w.heap.size 9 1 E k (strs ((l.take k).map wQ))/\ah' w wr) (λ_ i _=>l.length-(intOf i).toNat)
  case atStart=>exact⟨0,_,rfl,afK _,rfl,a9X _ _ _ _,a0n _ _⟩
  case round=>
   obtain⟨k,E,rfl,R,rfl,F,D⟩:=hrel
   by_cases Z:k<l.length
   ·obtain⟨g1,g2,g3⟩:=DY l k Z
    have c1:=(D.cell (p:=⟨b,o+k*3,none⟩) hb).trans (M _ _ g1);have c2:=(D.cell (p:=⟨b,o+k*3+1,none⟩) hb).trans (M _ _ g2);have c3:=(D.cell (p:=⟨b,o+k*3+2,none⟩) hb).trans (M _ _ g3);obtain⟨hf,J,I⟩:=hl l[k] (afS _)
    have HW:Hid ((l.take (k+1)).map wQ=(l.take k).map wQ++[wQ l[k]]):=by rw[afH Z,agD];exact rfl
    obtain⟨p,ep⟩:∃p,p=l[k]:=⟨_,rfl⟩
    rw[<-ep]at c1 c2 c3 hf J I HW
    generalize (l.take k).map wQ=C at*;obtain⟨f,N,y⟩:=p;simp only at c1 c2 c3 hf J I;have d:Hid (wQ ⟨f,N,y⟩=⟨(oQ f N 2 y).toArray⟩):=rfl;have W:=λw=>Vo f N 2 y w (by omega) J (by omega) I
    go_wp2_with (first|(go_at_call 220;refine(W _).ai ?_;intro w2 V;have hbs:w.heap.size<=w2.heap.size:=afC (D.alloc D.size _).size V.size;have u:=bu (F.alloc _) V;have q:ah' w w2:=af (D.alloc D.size _) V (D.alloc D.size _).size)|(at_builtin;refine af4 _ rfl _ _ 28 rfl w.heap.size 9 i0 (.string ⟨#[]⟩) 1 16 aiO hi hz0 hz1 hz2 rfl (by decide) _ _ _ rfl (u.alloc _) ⟨w2.heap.size,0,none⟩ 1 1 [Value.string ⟨(oQ f N 2 y).toArray⟩] rfl rfl (cu _ _ _) (aeo _) aB (by omega) (by simp;omega) ?_;intro v5 w5 X z _));refine⟨⟨k+1,v5,rfl,by omega,by go_num,?_,dX q q.size u z⟩,aA⟩
    rw[HW.out,d.out]
    unfold strs
    rw[agD]
    exact X
   ·have U:Hid (l.take k=l):=aga (by omega)
    rw[U.out]at F
    have Q:k=l.length:=by omega
    subst Q;have hj:=Nj E (l.map wQ) wr (by rw[ag0];exact aM F) (a8U F) (by rw[ag0];omega) (by rw[FH];exact L)
    rw[FH]at hj
    go_wp2_with (go_at_call 215;refine hj.ai ?_;intro w2 V);go_ret
    exact⟨rfl,af D V D.size⟩
theorem Si(n:Nat)(w)(h:n<=1000):
  ai3 222 #[.int .i64 n] w λe a=>e=.returned (.int .i64 (many n:Int))/\a=w:=by
 go_enter amd,ntmps222;go_wp2;go_ret
 exact⟨Ho (by unfold many;omega),rfl⟩
theorem xu(a n)(w)(f:0<=n)(g:n<=32)(d:0<=a)(b:a<=4294967295):
  ai3 219 #[.int .i64 a,.int .i64 n] w λe c=>e=.returned (.int .i64 (a-a%gap n))/\c=w:=by
 go_enter amb,ntmps219;go_wp2;go_ret
 exact⟨Ho (a8T a n f d b),rfl⟩
theorem Sj(a n)(w):
  ai9 109 #[.agg #[.int .i64 a,.int .i64 n]] w (.bool (qW a n)):=by
 by_cases d:n<0\/32<n\/a<0\/4294967295<a
 ·rw[a2f a n d]
  obtain h|h|h|h:=d
  all_goals
   go_enter akd,ntmps109;go_wp2
   all_goals
    exact BB
 ·have u:0<=n/\n<=32/\0<=a/\a<=4294967295:=by omega
  obtain⟨J,h1,E,y⟩:=u
  rw[Nb a n J h1 E y]
  have I:=Qf n J;have L:=ED n;have hl:=Sb n J;have F:(gap n==0)=false:=ax
  go_enter akd,ntmps109;go_wp2
  go_quiet (fail)
  go_wp2;go_ret
  exact⟨rfl,ahH ((a0n _ _).alloc (afA _) _) _⟩
theorem aaZ(a n)(h:qW a n=false)(e:0<=n)(d:n<=32)(c:0<=a)(b:a<=4294967295):(a != a-a%gap n)=true:=by grind[Nb]
theorem mod_eq(a n)(h:qW a n=true):(a != a-a%gap n)=false:=by grind[Hy,Nb]
theorem KL(v)(l)(w)(hx:l.length<=1073741824)(Y:bz w v l.length 2 (bO l)):
  ai9 163 #[v] w (.bool (H6 l)):=by
 obtain⟨_,Y⟩:=Y;obtain⟨a,c,rfl,hn⟩|⟨b,o,X,rfl,hn,hb,M⟩:=Y
 ·have u:l=[]:=afT hn
  subst u;go_enter akk,ntmps163;go_wp2;refine ahF 1 ?_
  rw[ahG]
  go_wp2;go_ret
  exact aN
 ·go_enter akk,ntmps163
  go_wp2
  go_loopw [7] (λi wr=>∃k:Nat,k<=l.length/\i=.int .i64 k/\H6 (l.take k)=true/\ah' w wr) (λi _=>l.length-(intOf i).toNat)
  case atStart=>exact⟨0,afK _,rfl,rfl,a0n _ _⟩
  case round=>
   obtain⟨k,R,rfl,d,D⟩:=hrel;have G:=hide d;clear d
   by_cases Z:k<l.length
   ·obtain⟨g1,g2⟩:=kX l k Z
    have c1:=(D.cell (p:=⟨b,o+k*2,none⟩) hb).trans (M _ _ g1);have c2:=(D.cell (p:=⟨b,o+k*2+1,none⟩) hb).trans (M _ _ g2);have HB:=hide (Nc l k Z);have U:=hide (Yw l k Z G.out);clear M g1 g2 G;obtain⟨a,F⟩:∃a,a=l[k].1:=⟨_,rfl⟩;obtain⟨n,en⟩:∃n,n=l[k].2:=⟨_,rfl⟩
    rw[<-F,<-en]at HB U
    rw[<-F]at c1
    rw[<-en]at c2
    clear F en;cases y:qW a n with
    |true=>
     obtain⟨J,h1,V,E⟩:=Hy a n y;have hm:=mod_eq a n y;have W:=U.out y;clear HB U y;have d1:decide (n<0)=false:=by simp;omega
     have d2:decide (32<n)=false:=by simp;omega
     have L:decide (a<0)=false:=by simp;omega
     have I:decide (4294967295<a)=false:=by simp;omega
     go_wp2
     go_quiet ((go_at_call 219;exact ahI (xu _ _ _ J h1 V E)))
     go_wp2
     exact⟨⟨k+1,by omega,by go_num,W,ahH (D.alloc D.size _) _⟩,aA⟩
    |false=>
     have H:=hide (HB.out y);clear HB U
     by_cases u:n<0
     ·have d1:decide (n<0)=true:=by simp;omega
      exact oU
     ·have d1:decide (n<0)=false:=by simp;omega
      by_cases N:32<n
      ·have d2:decide (32<n)=true:=by simp;omega
       exact oU
      ·have d2:decide (32<n)=false:=by simp;omega
       by_cases Q:a<0
       ·have L:decide (a<0)=true:=by simp;omega
        exact oU
       ·have L:decide (a<0)=false:=by simp;omega
        by_cases O:4294967295<a
        ·have I:decide (4294967295<a)=true:=by simp;omega
         exact oU
        ·have I:decide (4294967295<a)=false:=by simp;omega
         have hm:=aaZ a n y (by omega) (by omega) (by omega) (by omega);clear y;go_wp2
         go_quiet ((go_at_call 219;exact ahI (xu _ _ _ (by omega) (by omega) (by omega) (by omega))))
         go_wp2;go_ret
         exact⟨dx H.out.symm,ahH (D.alloc D.size _) _⟩
   ·clear M
    go_wp2;go_ret
    exact⟨dx (by have:=G.out;rw[aga (by omega)]at this;rw[this]),D⟩
theorem a2t{a b:ByteArray}(h:a.data.toList=b.data.toList):a=b:=by
 apply ByteArray.ext
 simp_all
theorem Vz(a b:ByteArray):(a++b).data.toList=a.data.toList++b.data.toList:=by simp
theorem Ib:(ah.prog.info? 113).map (λi=>(i.zero,i.size,i.bytes))=some (some (.agg #[.int .i64 0,.int .i64 0]),2,16):=by kernel_rfl
theorem Qn:(ah.prog.info? 273).map (λi=>(i.zero,i.size,i.bytes))=some (some (.agg #[.int .i64 0,.int .i64 0,.string ⟨#[]⟩]),3,32):=by kernel_rfl
theorem Ic(s)(w)(hs:s.size<=1048576):
  ai3 162 #[.string s] w λe w'=>∃v,e=.returned (.tuple #[v,.bool (E5 s)])/\ah' w w'/\(E5 s=true->w'.ownsRow w.heap.size 273 3 v (Sa s).length (dN (Sa s))/\(Sa s).length<=s.size):=by
 obtain⟨i0,hi,hz0,hz1,hz2⟩:=ahC Qn;go_enter am0,ntmps162;go_wp2
 go_loopw [0,4,5] (λx l p wr=>∃(t:ByteArray)(I:Int)(C:List At)(E:Value),E=l/\x=.string t/\p=.int .i64 I/\ -1<=I/\I<256/\t.size+4*C.length<=s.size/\yN s t I C/\wr.ownsRow w.heap.size 273 3 E C.length (dN C)/\ah' w wr) (λx _ _ _=>pU x)
 case atStart=>exact⟨s,-1,[],_,rfl,rfl,rfl,by omega,by omega,by simp,Hu s,a9X _ _ _ _,a0n _ _⟩
 case round=>
  obtain⟨t,I,C,E,rfl,rfl,rfl,hl0,hl1,hsz,O,F,D⟩:=hrel;have HR:=O;have X:t.size<=maxLen:=aB
  by_cases J:t.size=0
  ·have M:t.toList.isEmpty=true:=by rw[dF];simp[J]
   have HE:=hide (M9 HR J);go_wp2_with (go_at_call 218;refine(xq _ C _ (by omega) (aM F)).ai ?_;intro w' V);go_ret2;refine⟨E,?_,af D V D.size,λ_=> ?_⟩
   ·rw[HE.out.1];rfl
   ·rw[HE.out.2];exact⟨bu F V,by omega⟩
  ·have M:t.toList.isEmpty=false:=by rw[dF];simp[J]
   have Z:=hide J;cases W:jq 2 t with
   |false=>
    have HB:=hide (sG HR Z.out (wP t I W));go_wp2_with (go_at_call 216;refine(Vp t 2 _ X (by omega) W).ai ?_;intro w' V);go_ret2;refine⟨.slice none 0 0,?_,(af D V D.size).alloc (afC D.size V.size) _,λh=> ?_⟩
    ·rw[HB.out];rfl
    ·exact lS
   |true=>
    have A:=Na t W;have hcut:=λw=>Vq t 2 w X (by omega) W
    change ∀w,ai3 216 #[.string t,.int .i64 2] w λe w'=>e=.returned (.tuple #[.agg #[.int .i64 ((gy t).flags:Int),.int .i64 ((gy t).kind:Int),.string (gy t).val],.string (BL t),.bool true])/\ah' w w' at hcut
    have hv:=a2e t;have R:=Yv t
    by_cases Q:((gy t).kind:Int)<=I
    ·have HB:=hide (sG HR Z.out (xS t I Q))
     generalize gy t=a at*;generalize BL t=r at*;go_wp2_with (go_at_call 216;refine(hcut _).ai ?_;intro w' V);go_ret2;refine⟨.slice none 0 0,?_,(af D V D.size).alloc (afC D.size V.size) _,λh=> ?_⟩
     ·rw[HB.out];rfl
     ·exact lS
    ·cases y:atOk (gy t).flags (gy t).kind (gy t).val with
     |false=>
      have HB:=hide (sG HR Z.out (DZ t I y));have L:=λw=>BR (gy t).flags (gy t).kind (gy t).val w aB
      rw[y]at L
      generalize gy t=a at*;generalize BL t=r at*;go_wp2_with (first|(go_at_call 216;refine(hcut _).ai ?_;intro w' V)|(go_at_call 217;refine(L _).ai ?_;intro w'' q));go_ret2;refine⟨.slice none 0 0,?_,af ((af D V D.size).alloc (afC D.size V.size) _) q a3W,λh=> ?_⟩
      ·rw[HB.out];rfl
      ·exact lS
     |true=>
      have U:=hide (J6 HR (M7 t I W (by omega) y));have L:=λw=>BR (gy t).flags (gy t).kind (gy t).val w aB
      rw[y]at L
      generalize gy t=a at*;generalize BL t=r at*;go_wp2_with (go_at_call 216;refine(hcut _).ai ?_;intro w' V);refine(L _).ai ?_;intro w2 q;obtain⟨k1,k2,k3,k4⟩:=aei q;have N:=bu ((bu F V).alloc _) q;have d:ah' w w2:=af ((af D V D.size).alloc (afC D.size V.size) _) q a3W;have Y:=own_ne (bu F V) w'.heap.size (afA _);go_wp2_with (at_builtin;refine af4 _ rfl _ _ 226 rfl w.heap.size 273 i0 (.agg #[.int .i64 0,.int .i64 0,.string ⟨#[]⟩]) 3 32 aj5 hi hz0 hz1 hz2 rfl (by decide) _ _ _ rfl (N.alloc _) ⟨w2.heap.size,0,none⟩ 1 1 [.int .i64 (a.flags:Int),.int .i64 (a.kind:Int),.string a.val] rfl rfl (cu _ _ _) ?c2 ?c3 ?c4 ?c5 ?_)
      case c2=>intro u hu;simp at hu;obtain rfl|rfl|rfl:=hu<;>rfl
      case c3=>unfold maxLen;omega
      case c4=>omega
      case c5=>have:=d.size;simp;omega
      intro v' w4 f b _;have q2:=pV b k2 Y;have c:=dX d d.size N b;go_wp2
      go_quiet (fail)
      go_wp2;refine⟨⟨r,a.kind,C++[a],v',rfl,rfl,rfl,by omega,by omega,by simp;omega,U.out,?_,ahH c _⟩,gB⟩
      rw[afE,nE]
      exact FV f _
end Go.Proofs.Zq
