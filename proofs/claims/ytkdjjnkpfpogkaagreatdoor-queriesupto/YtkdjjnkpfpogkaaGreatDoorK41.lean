import Derived.Laws.BitsAllLaws
import Derived.Test.YtkdjjnkpfpogkaaGreatDoorK40
set_option maxHeartbeats 8000000
set_option linter.all false
set_option maxRecDepth 20000
namespace Go
def aiz{P:Prop}(h:P:=by
 go_enter ajr,ntmps209;go_wp2;go_ret
 exact⟨dx (by rw[f.out];simp[i.out,g]),e⟩):P:=h
end Go
namespace Go.Proofs.Zq
open Tryz
open Go.RowKit
open Rl
variable{b:ByteArray}{a c d:Value}{w A:World}{n k:Nat}
theorem V3(a b:Nat)(j:a<4294967296)(D:b<4294967296):bits .xor .i64 (a:Int) (b:Int)=((a^^^b:Nat):Int):=by
 have h:=Je j D;have g:a%2^IntKind.i64.bits=a:=Nat.mod_eq_of_lt af';have f:b%2^IntKind.i64.bits=b:=Nat.mod_eq_of_lt af';simp only[bits,BitVec.ofInt_natCast,BitVec.toNat_xor,BitVec.toNat_ofNat,g,f]
 rw[IntKind.wrap_i64]
 omega
theorem a6L(x:Nat)(h:x<4294967296):bits .xor .u32 ((x:Int)/2) (bits .and .u32 3988292384 (-bits .and .u32 (x:Int) 1%4294967296))=(Hq x:Int):=by
 have i:bits .and .u32 (x:Int) 1=((x%2:Nat):Int):=by
  have:=u32_and_nat x 1 h (by omega)
  rw[Nat.and_one_is_mod]at this
  exact this
 have j:((x:Int)/2)=((x/2:Nat):Int):=by omega
 rw[i,j]
 unfold Hq
 by_cases g:x%2=1
 ·have f: -((x%2:Nat):Int)%4294967296=((4294967295:Nat):Int):=by omega
  have e:bits .and .u32 3988292384 ((4294967295:Nat):Int)=((3988292384:Nat):Int):=by
   have:=u32_and_nat 3988292384 4294967295 (by omega) (by omega)
   rw[show(3988292384&&&4294967295:Nat)=3988292384 by decide]at this
   exact this
  rw[f,e,afN g]
  exact u32_xor_nat _ _ (by omega) (by omega)
 ·have f: -((x%2:Nat):Int)%4294967296=((0:Nat):Int):=by omega
  have e:bits .and .u32 3988292384 ((0:Nat):Int)=((0:Nat):Int):=by
   have:=u32_and_nat 3988292384 0 (by omega) (by omega)
   rw[Nat.and_zero]at this
   exact this
  rw[f,e,afJ g]
  have:=u32_xor_nat (x/2) 0 (by omega) (by omega)
  rw[Nat.xor_zero]at this
  exact this
theorem a6M(b)(f:b<4294967296):4294967295^^^b=4294967295-b:=by
 have h:=BitVec.toNat_not (x:=BitVec.ofNat 32 b)
 have e:(~~~ (BitVec.ofNat 32 b))=BitVec.ofNat 32 4294967295^^^BitVec.ofNat 32 b:=by rw[<-BitVec.allOnes_xor];rfl
 grind
theorem a9f(b:Nat)(e:b<4294967296):bits .xor .u32 4294967295 (b:Int)=((4294967295-b:Nat):Int):=by
 have h:=u32_xor_nat 4294967295 b (by omega) e
 grind[a6M]
theorem a9g(s)(w)(hs:s.size<=maxLen):
  ai3 263 #[.string s] w λe w'=>e=.returned (.int .i64 (crc s.data.toList:Int))/\w'=w:=by
 unfold maxLen at hs;go_enter amn,ntmps263;go_wp2
 go_loop [3,7] (λc i=>∃k:Nat,k<=s.size/\i=.int .i64 k/\c=.int .u32 (kD (s.data.toList.take k):Int)) (λ_ i=>s.size-(intOf i).toNat)
 case atStart=>exact⟨0,afK _,rfl,rfl⟩
 case round=>
  obtain⟨k,R,rfl,rfl⟩:=hrel;have Z:=Qd (s.data.toList.take k)
  by_cases E:k<s.size
  ·have U:=J4 s k E
   have hb:=s[k].toNat_lt;have hx:bits .xor .u32 ((kD (s.data.toList.take k):Nat):Int) ((s[k].toNat:Nat):Int)=((kD (s.data.toList.take k)^^^s[k].toNat:Nat):Int):=u32_xor_nat _ _ Z (by omega);generalize kD (s.data.toList.take k)=c at*;go_wp2;have y:=Je Z (show s[k].toNat<4294967296 by omega);have HB:Hid (∀j,itC j (c^^^s[k].toNat)<4294967296):=λj=>Yn y j
   have HE:Hid (Hr c s[k].toNat=itC 8 (c^^^s[k].toNat)):=rfl;have HS:Hid (∀j,itC (j+1) (c^^^s[k].toNat)=Hq (itC j (c^^^s[k].toNat))):=λj=>rfl
   have O:Hid (itC 0 (c^^^s[k].toNat)=c^^^s[k].toNat):=rfl;obtain⟨f,hf⟩:∃f:Nat->Nat,f=λj=>itC j (c^^^s[k].toNat):=⟨_,rfl⟩
   have H:Hid (∀j,f j<4294967296):=by rw[hf];exact HB
   have I:Hid (Hr c s[k].toNat=f 8):=by rw[hf];exact HE
   have F:Hid (∀j,f (j+1)=Hq (f j)):=by rw[hf];exact HS
   have J:Hid (f 0=c^^^s[k].toNat):=by rw[hf];exact O
   go_loop [3,16] (λx i=>∃j:Nat,j<=8/\i=.int .i64 j/\x=.int .u32 (f j:Int)) (λ_ i=>8-(intOf i).toNat)
   case atStart=>exact⟨0,afK _,rfl,by rw[J.out]⟩
   case round=>
    obtain⟨j,hj,rfl,rfl⟩:=hrel;have hl:=H.out j
    by_cases M:j<8
    ·have u:=hide (F.out j)
     generalize f j=x at*;go_wp2
     exact⟨⟨j+1,by omega,by go_num,by rw[a6L x hl,<-u.out]⟩,aA⟩
    ·have e:j=8:=by omega
     subst e;have N:Hid (f 8=kD (s.data.toList.take (k+1))):=by rw[U,I.out];rfl
     go_wp2
     exact⟨⟨k+1,by omega,by go_num,by rw[N.out]⟩,aA⟩
  ·have e:s.data.toList.take k=s.data.toList:=aga (by simp;omega)
   have u:Hid (((4294967295-kD (s.data.toList.take k):Nat):Int)=(crc s.data.toList:Int)):=by rw[e];rfl
   have hn:=a9f _ Z;have Q:4294967295-kD (s.data.toList.take k)<4294967296:=by omega
   generalize 4294967295-kD (s.data.toList.take k)=z at*;generalize kD (s.data.toList.take k)=c at*;have L:IntKind.u32.max=4294967295:=by decide
   have V:wrap64 (z:Int)=(z:Int):=lh _ (by omega) (by omega);go_wp2;go_ret
   exact⟨Ho u.out,rfl⟩
theorem Zb(s)(w)(hs:s.size<=maxLen):
  ai3 118 #[.string s] w λe w'=>e=.returned (.int .i64 (crc s.data.toList:Int))/\w'=w:=by
 unfold maxLen at hs;go_enter alN,ntmps118;go_wp2
 go_loop [3,4] (λc i=>∃k:Nat,k<=s.size/\i=.int .i64 k/\c=.int .i64 (kD (s.data.toList.take k):Int)) (λ_ i=>s.size-(intOf i).toNat)
 case atStart=>exact⟨0,afK _,rfl,rfl⟩
 case round=>
  obtain⟨k,R,rfl,rfl⟩:=hrel;have Z:=Qd (s.data.toList.take k)
  by_cases F:k<s.size
  ·have U:=J4 s k F
   have hb:=s[k].toNat_lt;generalize kD (s.data.toList.take k)=c at*;generalize O:s[k].toNat=B at*;obtain⟨f,hf⟩:∃f:Nat->Nat,f=MX c B:=⟨_,rfl⟩;have H:Hid (∀j,f j<4294967296):=by rw[hf];exact λj=>a8Q Z hb j
   have J:Hid (Hr c B=f 8):=by rw[hf];exact(a1T c B hb).symm
   have I:Hid (∀j,f (j+1)=if B/2^j%2≠f j%2 then f j/2^^^3988292384 else f j/2):=by rw[hf];exact λj=>a1U c B j
   have L:Hid (f 0=c):=by rw[hf];exact a1S c B
   go_wp2
   go_loop [3,5] (λx i=>∃j:Nat,j<=8/\i=.int .i64 j/\x=.int .i64 (f j:Int)) (λ_ i=>8-(intOf i).toNat)
   case atStart=>exact⟨0,afK _,rfl,by rw[L.out]⟩
   case round=>
    obtain⟨j,hj,rfl,rfl⟩:=hrel;have hl:=H.out j
    by_cases M:j<8
    ·have u:=hide (I.out j)
     have hq:(((B:Int)/2^j).tmod 2)=((B/2^j%2:Nat):Int):=by
      have e:((B:Int)/2^j)=((B/2^j:Nat):Int):=by rw[Int.natCast_ediv,Int.natCast_pow];rfl
      rw[e]
      generalize B/2^j=z
      rw[Int.tmod_eq_emod_of_nonneg (Int.natCast_nonneg z)];omega
     have hx:=V3 (f j/2) 3988292384 (by omega) (by omega)
     rw[show((f j/2:Nat):Int)=(f j:Int)/2 by omega]at hx
     have hx2:bits .xor .i64 ((f j:Int)/2) 3988292384=((f j/2^^^3988292384:Nat):Int):=hx;generalize B/2^j%2=q at*
     by_cases E:q≠f j%2
     ·rw[afN E]at u
      have l:((q:Int) != (f j:Int)%2)=true:=iI
      generalize f j/2^^^3988292384=y at*;generalize f j=x at*;go_wp2
      exact⟨⟨j+1,by omega,by go_num,by rw[u.out]⟩,aA⟩
     ·rw[afJ E]at u
      have l:((q:Int) != (f j:Int)%2)=false:=lW
      generalize f j/2^^^3988292384=y at*;have HN2:Hid (((f j:Int)/2)=(f (j+1):Int)):=by rw[u.out];unfold Hid;omega
      generalize f j=x at*;go_wp2
      exact⟨⟨j+1,by omega,by go_num,by rw[HN2.out]⟩,aA⟩
    ·have e:j=8:=by omega
     subst e;have N:Hid (f 8=kD (s.data.toList.take (k+1))):=(U.trans J.out).symm;go_wp2
     exact⟨⟨k+1,by omega,by go_num,by rw[N.out]⟩,aA⟩
  ·have e:s.data.toList.take k=s.data.toList:=aga (by simp;omega)
   have u:Hid ((4294967295-(kD (s.data.toList.take k):Int))=(crc s.data.toList:Int)):=by rw[e];unfold crc Hid;rw[e]at Z;omega
   generalize kD (s.data.toList.take k)=c at*;go_wp2;go_ret
   exact⟨Ho u.out,rfl⟩
def xZ(b:ByteArray):Rec:=if fw b=true then mZ b else⟨0,0,0,⟨#[]⟩⟩
def x8(b:ByteArray):Nat:=if fw b=true then 12+gZ b else 0
def dB(r:Rec):Value:=.agg #[.int .i64 (r.time:Int),.int .i64 (r.kind:Int),.int .i64 (r.peer:Int),.string r.body]
theorem ny(h:fw b=false):xZ b=⟨0,0,0,⟨#[]⟩⟩/\x8 b=0:=by grind[xZ,x8]
theorem x9(h:fw b=true):xZ b=mZ b/\x8 b=12+gZ b:=by grind[xZ,x8]
theorem vk(h:b.size<8\/b.size<12+gZ b):fw b=false:=by grind[fw,Jl]
theorem a3k(s:ByteArray)(w:World)(e:s.size<=1048576):
  ai9 189 #[.string s] w (.string s):=ain
theorem pX{B:Nat}{a:World}(h:Below B a w)(e:B<=n)(x y z u:Value):Below B a ((((w.setCell ⟨n,0,none⟩ x).setCell ⟨n,1,none⟩ y).setCell ⟨n,2,none⟩ z).setCell ⟨n,3,none⟩ u):=
 (((h.setCell (p:=⟨n,0,none⟩) e x).setCell (p:=⟨n,1,none⟩) e y).setCell (p:=⟨n,2,none⟩) e z).setCell (p:=⟨n,3,none⟩) e u
theorem a0j(w:World)(q:Nat)(T e:TypeId):xY (((w.alloc (.cells #[.int .i64 0,.int .i64 0,.int .i64 0,.string ⟨#[]⟩] T)).drewN q).alloc (.cells #[.int .i64 0,.int .i64 0,.int .i64 0,.string ⟨#[]⟩] e)) (w.heap.size+1) (.int .i64 0) (.int .i64 0) (.int .i64 0) (.string ⟨#[]⟩):=by
 have f:((w.alloc (.cells #[.int .i64 0,.int .i64 0,.int .i64 0,.string ⟨#[]⟩] T)).drewN q).heap.size=w.heap.size+1:=by simp
 grind[fJ]
theorem a9V{K:Prop}{X e:World}(f:ah' X e)(_hl:n<X.heap.size)(h:xY X n (.int .i64 0) (.int .i64 0) (.int .i64 0) (.string ⟨#[]⟩))(k:xY e n (.int .i64 0) (.int .i64 0) (.int .i64 0) (.string ⟨#[]⟩)->K):K:=k (h.later f)
theorem V4{x y z u b:Value}(h:xY w n x y z u):xY ((((w.setCell ⟨n,0,none⟩ a).setCell ⟨n,1,none⟩ b).setCell ⟨n,2,none⟩ c).setCell ⟨n,3,none⟩ d) n a b c d:=by
 have o:∀(w:World)i j v,i≠j->(w.setCell ⟨n,i,none⟩ v).cell? ⟨n,j,none⟩=w.cell? ⟨n,j,none⟩:=λw i j v h=>ahB _ _ _ _ (λe=>by injection e with _ e;exact h e)
 obtain⟨c0,c1,c2,c3,p,m,l,g,f⟩:=h;refine⟨?_,?_,?_,?_,by simp[p],by simp[m],by simp[l],by simp[g],by simpa using f⟩
 ·exact pG
 ·exact pG
 ·exact pG
 exact pG
theorem a3l{m:Nat}{x y z u b:Value}(h:xY w m x y z u)(g:m≠n):xY ((((w.setCell ⟨n,0,none⟩ a).setCell ⟨n,1,none⟩ b).setCell ⟨n,2,none⟩ c).setCell ⟨n,3,none⟩ d) m x y z u:=by
 have f:∀i j,(⟨n,i,none⟩:Addr)≠⟨m,j,none⟩:=λi j e=>by injection e with e;exact g e.symm
 have k:∀(w:World)i j v,(w.setCell ⟨n,i,none⟩ v).cell? ⟨m,j,none⟩=w.cell? ⟨m,j,none⟩:=λw i j v=>ahB _ _ _ _ (f i j)
 obtain⟨c0,c1,c2,c3,r,q,p,o,l⟩:=h
 constructor<;>simp_all
def jk(w A:World):Prop:=xY A w.heap.size (.int .i64 0) (.int .i64 0) (.int .i64 0) (.string ⟨#[]⟩)/\ah' w A
theorem jk.later{w A e:World}(h:jk w A)(f:ah' A e):jk w e:=⟨h.1.later f,gJ h.2 f⟩
theorem jk.new(h:jk w A)(o:Obj):jk w (A.alloc o):=h.later (aL _ _)
theorem jk.drew{w A:World}(h:jk w A):jk w A.drew:=h.later (a0n _ _).drew
theorem jk.stored(h:jk w A)(e:w.heap.size<n)(a b c d:Value):jk w ((((A.setCell ⟨n,0,none⟩ a).setCell ⟨n,1,none⟩ b).setCell ⟨n,2,none⟩ c).setCell ⟨n,3,none⟩ d):=
 ⟨a3l h.1 (by omega),pX h.2 (by omega) _ _ _ _⟩
theorem jk.start(w:World)(q:Nat)(T:TypeId):jk w ((w.alloc (.cells #[.int .i64 0,.int .i64 0,.int .i64 0,.string ⟨#[]⟩] T)).drewN q):=
 ⟨(fJ w _ _ _ _ T).later (ahH (a0n _ _) q),ahH (aL _ _) q⟩
theorem QI{b:Value}(h:jk w A)(e:xY A n a b c d):xY A w.heap.size (.int .i64 0) (.int .i64 0) (.int .i64 0) (.string ⟨#[]⟩)/\xY A n a b c d/\ah' w A:=⟨h.1,e,h.2⟩
abbrev a0k:Array Value:=#[.int .i64 0,.int .i64 0,.int .i64 0,.string ⟨#[]⟩]
theorem yc{B m:Nat}{e:TypeId}{f:Nat}{v:Value}{l:List Value}(h:w.ownsRow B e f v n l)(p:m<=B):w.ownsRow m e f v n l:=
 ⟨h.1,h.2.imp id (λ⟨g,j,i,e,o,r⟩=>⟨g,j,i,e,afC p o,r⟩)⟩
theorem Iw:(ah.prog.info? 80).map (λi=>(i.zero,i.size,i.bytes))=some (some (.agg #[.int .i64 0,.int .i64 0,.string ⟨#[]⟩]),3,32):=by kernel_rfl
theorem qb(e:aX):∀u∈[Value.int .i64 e.addr,Value.int .i64 e.len,Value.string e.attrs],u.oneCell'=true:=by intro u g;exact ahi
theorem a3m(a b:aX)(w:World):ai9 209 #[.agg #[.int .i64 a.addr,.int .i64 a.len,.string a.attrs],.agg #[.int .i64 b.addr,.int .i64 b.len,.string b.attrs]] w (.bool (ni a b)):=by
 have f:Hid (ni a b=decide (a.addr<b.addr\/(a.addr=b.addr/\a.len<b.len))):=rfl;have e:ah' w ((w.alloc (.cells #[.int .i64 a.addr,.int .i64 a.len,.string a.attrs] 80)).alloc (.cells #[.int .i64 b.addr,.int .i64 b.len,.string b.attrs] 80)):=((a0n _ _).alloc (afA _) _).alloc (by simp) _
 by_cases j:a.addr<b.addr
 ·have o:decide (a.addr<b.addr)=true:=afL j
  go_enter ajr,ntmps209;go_wp2;go_ret
  exact⟨dx (by rw[f.out];simp[j]),e⟩
 ·have o:decide (a.addr<b.addr)=false:=afG j
  by_cases h:a.addr=b.addr
  ·have m:(a.addr==b.addr)=true:=agx.2 h
   have i:=hide h;clear h
   by_cases g:a.len<b.len
   ·have l:decide (a.len<b.len)=true:=afL g
    exact aiz
   ·have l:decide (a.len<b.len)=false:=afG g
    exact aiz
  ·have m:(a.addr==b.addr)=false:=afW.2 h
   go_enter ajr,ntmps209;go_wp2;go_ret
   exact⟨dx (by rw[f.out];simp[j,h]),e⟩
theorem a9h{p:Int×Int}{l:List aX}(h:k<l.length):KN p (l.take (k+1))=if ib l[k]=p then KN p (l.take k)else KN p (l.take k)++[l[k]]:=by split<;>grind[afH,KN]
theorem Kj(v:Value)(l:List aX)(p:Int×Int)(w:World)(Y:bz w v l.length 3 (aJ l))(hn:l.length<=8388608):
  ai3 208 #[v,.agg #[.int .i64 p.1,.int .i64 p.2]] w λe w'=>∃v',e=.returned v'/\w'.ownsRow w.heap.size 80 3 v' (KN p l).length (aJ (KN p l))/\ah' w w':=by
 obtain⟨i0,hi,hz0,hz1,hz2⟩:=ahC Iw;obtain⟨u,y⟩:=p
 obtain⟨va,vc,rfl⟩:∃a c,v=.slice a l.length c:=ahm
 have W:=(a0n w.heap.size w).alloc (afA _) (.cells #[.int .i64 u,.int .i64 y] 113);have I:=Y.later W;have bx:KO (w.alloc (.cells #[.int .i64 u,.int .i64 y] 113)) w.heap.size (.int .i64 u) (.int .i64 y):=⟨by simp,by simp,by simp⟩;go_enter am6,ntmps208;go_wp2;have HBA:=W;have N:w.heap.size<=(w.alloc (.cells #[.int .i64 u,.int .i64 y] 113)).heap.size:=W.size;generalize w.alloc (.cells #[.int .i64 u,.int .i64 y] 113)=w1 at*
 go_loopw [5,6] (λx i wr=>∃(k:Nat)(E:Value)(C:List aX),E=x/\k<=l.length/\i=.int .i64 k/\Hid (C=KN (u,y) (l.take k))/\wr.ownsRow w1.heap.size 80 3 E C.length (aJ C)/\C.length<=k/\ah' w1 wr) (λ_ i _=>l.length-(intOf i).toNat)
 case atStart=>exact⟨0,_,[],rfl,afK _,rfl,rfl,a9X _ _ _ _,afA _,a0n _ _⟩
 case round=>
  obtain⟨k,E,C,rfl,R,rfl,s,F,hxl,hb⟩:=hrel
  by_cases Z:k<l.length
  ·obtain⟨_,_,_,J⟩|⟨g,o,cap,e,_,hbk,M⟩:=(I.later hb).2
   ·omega
   ·cases e
    obtain⟨g1,g2,g3⟩:=qE l k Z;have q0:wr.cell? ⟨g,o+k*3,none⟩=_:=M _ _ g1;have q1:wr.cell? ⟨g,o+k*3+1,none⟩=_:=M _ _ g2;have q2:wr.cell? ⟨g,o+k*3+2,none⟩=_:=M _ _ g3;obtain⟨O,b1,bl⟩:=bx.later hb;have HS:=hide (a9h (p:=(u,y)) Z);have hx:(k:Int)<(l.length:Int):=by omega
    have hk0:(0:Int)<=(k:Int):=by omega
    by_cases Q:ib l[k]=(u,y)
    ·have L:Hid (C=KN (u,y) (l.take (k+1))):=by rw[Hid,HS.out,afN Q];exact s.out
     have e1:(l[k].addr != u)=false:=by have:=congrArg Prod.fst Q;unfold ib at this;simp at this;simp[this]
     have e2:(l[k].len != y)=false:=by have:=congrArg Prod.snd Q;unfold ib at this;simp at this;simp[this]
     generalize l[k]=x at*;go_wp2_with fail
     go_quiet (fail)
     go_wp2_with fail
     exact⟨⟨k+1,E,C,rfl,by omega,by go_num,L,F,by omega,ahH hb _⟩,aA⟩
    ·have L:Hid (C++[l[k]]=KN (u,y) (l.take (k+1))):=by rw[Hid,HS.out,afJ Q,s.out]
     have V:(l[k].addr != u)=true\/((l[k].addr != u)=false/\(l[k].len != y)=true):=by
      by_cases e1:l[k].addr=u
      ·refine .inr ⟨by simp[e1],?_⟩
       rw[agF]
       exact λe2=>Q (Prod.ext e1 e2)
      ·exact .inl (by rw[agF];exact e1)
     have HC:=hide (jZ C [l[k]]);generalize l[k]=x at*;obtain e1|⟨e1,e2⟩:=V
     all_goals
      go_wp2_with fail
      go_quiet (fail)
      have U:=ahH hb nq;go_wp2_with (at_builtin;refine af4 _ rfl _ _ 27 rfl w1.heap.size 80 i0 (.agg #[.int .i64 0,.int .i64 0,.string ⟨#[]⟩]) 3 32 aiN hi hz0 hz1 hz2 rfl (by decide) _ _ _ rfl ((FV F _).alloc _) ⟨wr.heap.size,0,none⟩ 1 1 [.int .i64 x.addr,.int .i64 x.len,.string x.attrs] rfl rfl (cu _ _ _) (qb x) aB (by omega) (afC hb.size (by simp)) ?_;intro v5 w5 X z _)
      exact⟨⟨k+1,v5,C++[x],rfl,by omega,by go_num,L,by rw[HC.out,afE];exact X,lK,dX U U.size (FV F _) z⟩,aA⟩
  ·have e:k=l.length:=by omega
   subst e;have L:Hid (C=KN (u,y) l):=by rw[Hid,s.out,ag8]
   go_wp2;go_ret
   rw[<-L.out]
   exact⟨E,rfl,yc F N,af HBA hb N⟩
namespace Rl
def KP(x:aX)(l:List aX):Bool:=l.any λa=>ni x a
theorem a3j(x:aX)(l:List aX)(a:aX):KP x (l++[a])=(KP x l||ni x a):=by simp[KP]
theorem a9i{x:aX}:∀{l:List aX},KP x l=false->Oq x l=l++[x]:=by
 intro l;induction l with
 |nil=>intro _;rfl
 |cons a r e=>simp_all[KP,List.any_cons,Bool.or_eq_false_iff,Oq]<;>omega
theorem a9j{x a:aX}:∀{l:List aX},KP x l=false->ni x a=true->Oq x (l++[a])=l++[x]++[a]:=by
 intro l;induction l with
 |nil=>intro _ h;simp[Oq,h]
 |cons b r e=>simp_all[KP,List.any_cons,Bool.or_eq_false_iff,agN,Oq]<;>omega
theorem a6N{x a:aX}:∀{l:List aX},KP x l=true->Oq x (l++[a])=Oq x l++[a]:=by
 intro l;induction l with
 |nil=>simp[KP]
 |cons b r f=>
  intro h
  rw[agN]
  unfold Oq
  by_cases e:ni x b=true
  ·grind
  ·rw[afJ e,afJ e]
   have g:KP x r=true:=by
    simp only[KP,List.any_cons,Bool.or_eq_true]at h;obtain h|h:=h
    ·grind
    ·exact h
   rw[f g];rfl
def iw(x:aX)(l:List aX)(k:Nat)(e:Bool)(f:List aX):Prop:=e=KP x (l.take k)/\f=if e=true then Oq x (l.take k)else l.take k
theorem iw.start(x:aX)(l:List aX):iw x l 0 false []:=⟨rfl,rfl⟩
theorem iw.old{x:aX}{l:List aX}{e:List aX}(h:iw x l k true e)(f:k<l.length):iw x l (k+1) true (e++[l[k]]):=by
 obtain⟨i,g⟩:=h
 constructor<;>grind[afH,a3j,a6N]
theorem iw.no{x:aX}{l:List aX}{e:List aX}(h:iw x l k false e)(g:k<l.length)(i:ni x l[k]=false):iw x l (k+1) false (e++[l[k]]):=by
 obtain⟨j,f⟩:=h
 rw[afJ (by simp)]at f
 refine⟨?_,?_⟩
 ·grind[afH,a3j]
 simp_all
theorem iw.yes{x:aX}{l:List aX}{e:List aX}(h:iw x l k false e)(f:k<l.length)(g:ni x l[k]=true):iw x l (k+1) true (e++[x]++[l[k]]):=by
 obtain⟨j,i⟩:=h
 constructor<;>grind[afH,a3j,a9j]
theorem iw.done{x:aX}{l:List aX}{e:List aX}(h:iw x l l.length true e):e=Oq x l:=by
 obtain⟨_,f⟩:=h
 grind
theorem iw.last{x:aX}{l:List aX}{e:List aX}(h:iw x l l.length false e):e++[x]=Oq x l:=by
 obtain⟨g,f⟩:=h
 grind[ag8,a9i]
theorem acV{wc e:World}{o m l j i g:Addr}{D C B v0 y x:Value}(v:o.block<wc.heap.size)(u:m.block<wc.heap.size)(t:l.block<wc.heap.size)(s:j.block<wc.heap.size)(r:i.block<wc.heap.size)(q:g.block<wc.heap.size)(h:A.cell? o=some D/\A.cell? m=some C/\A.cell? l=some B/\A.cell? j=some v0/\A.cell? i=some y/\A.cell? g=some x/\ah' wc A)(f:ah' A e):
  e.cell? o=some D/\e.cell? m=some C/\e.cell? l=some B/\e.cell? j=some v0/\e.cell? i=some y/\e.cell? g=some x/\ah' wc e:=by
 obtain⟨K,J,I,H,G,F,E⟩:=h;have z:=E.size
 exact⟨(f.cell (p:=o) (afB v z)).trans K,(f.cell (p:=m) (afB u z)).trans J,(f.cell (p:=l) (afB t z)).trans I,(f.cell (p:=j) (afB s z)).trans H,(f.cell (p:=i) (afB r z)).trans G,(f.cell (p:=g) (afB q z)).trans F,af E f z⟩
end Rl
theorem V5(v:Value)(l0:List aX)(x:aX)(w:World)(Y:bz w v l0.length 3 (aJ l0))(hn:l0.length<=8388600):
  ai3 156 #[v,.agg #[.int .i64 x.addr,.int .i64 x.len,.string x.attrs]] w λe w'=>∃v',e=.returned v'/\w'.ownsRow w.heap.size 80 3 v' (nk x l0).length (aJ (nk x l0))/\ah' w w':=by
 obtain⟨i0,hi,hz0,hz1,hz2⟩:=ahC Iw;have HW0:Hid (nk x l0=Oq x (KN (x.addr,x.len) l0)):=rfl;have hwl:=yZ (x.addr,x.len) l0;have ba:=(a0n w.heap.size w).alloc (afA _) (.cells #[.int .i64 x.addr,.int .i64 x.len,.string x.attrs] 80);have hcall:=Kj v l0 (x.addr,x.len) _ (Y.later ba) (by omega);have bx:=lU w (.int .i64 x.addr) (.int .i64 x.len) (.string x.attrs) 80
 obtain⟨va,vc,rfl⟩:∃a c,v=.slice a l0.length c:=ahm
 have HBA:=ba;have hsz0:=ba.size;go_enter alX,ntmps156
 go_upto_region 2 with(go_at_call 208;refine hcall.mono ?_;rintro e w1 ⟨v1,rfl,N,H⟩;obtain⟨a1,c1,rfl⟩:=ay N)
 have bx1:=bx.later H;have I:=aM N;have HB1:=hide (af HBA H hsz0);have hsz1:=HB1.out.size;generalize KN (x.addr,x.len) l0=l at*;go_wp2_with fail
 go_loopw [5,6,7] (λy dn i wr=>∃(k:Nat)(E:Value)(C:List aX)(V:Bool),E=y/\dn=.bool V/\k<=l.length/\i=.int .i64 k/\Hid (iw x l k V C)/\wr.ownsRow w1.heap.size 80 3 E C.length (aJ C)/\C.length<=k+1/\ah' w1 wr) (λ_ _ i _=>l.length-(intOf i).toNat)
 case atStart=>exact⟨0,_,[],false,rfl,rfl,afK _,rfl,iw.start _ _,a9X _ _ _ _,by simp,a0n _ _⟩
 case round=>
  obtain⟨k,E,C,V,rfl,rfl,R,rfl,s,F,hxl,hb⟩:=hrel
  by_cases Z:k<l.length
  ·obtain⟨_,_,_,J⟩|⟨g,o,cap,e,_,hbk,M⟩:=I.2
   ·omega
   ·cases e
    obtain⟨g1,g2,g3⟩:=qE l k Z
    have HC6:Hid (∀A,ah' w1 A->A.cell? ⟨w.heap.size,0,none⟩=some (.int .i64 x.addr)/\A.cell? ⟨w.heap.size,1,none⟩=some (.int .i64 x.len)/\A.cell? ⟨w.heap.size,2,none⟩=some (.string x.attrs)/\A.cell? ⟨g,o+k*3,none⟩=some (.int .i64 l[k].addr)/\A.cell? ⟨g,o+k*3+1,none⟩=some (.int .i64 l[k].len)/\A.cell? ⟨g,o+k*3+2,none⟩=some (.string l[k].attrs)):=λA r=>by
     obtain⟨O,b1,b2,_,_,_,bl⟩:=bx1.later r
     exact⟨O,b1,b2,(r.cell (p:=⟨g,o+k*3,none⟩) hbk).trans (M _ _ g1),(r.cell (p:=⟨g,o+k*3+1,none⟩) hbk).trans (M _ _ g2),(r.cell (p:=⟨g,o+k*3+2,none⟩) hbk).trans (M _ _ g3)⟩
    have bl:=bx1.lt;have HO:=hide (λ(e:V=true)=>(e▸s.out:iw x l k true C).old Z);have u:=hide (λ(e:V=false)=>(e▸s.out:iw x l k false C).no Z);have HY:=hide (λ(e:V=false)=>(e▸s.out:iw x l k false C).yes Z)
    have hxd:V=false->C.length<=k:=λe=>by have h2:=s.out.2;rw[e,afJ (by simp)]at h2;rw[h2,List.length_take];omega
    have hx:(k:Int)<(l.length:Int):=by omega
    have hk0:(0:Int)<=(k:Int):=by omega
    generalize l[k]=y at*;have G:=hide (λA=>a3m x y A);generalize ni x y=c at*;have hbs:=hb.size;have HS1:=hide hb;have hS1:=HC6.out _ hb;have hS:wr.drew.cell? ⟨w.heap.size,0,none⟩=some (.int .i64 x.addr)/\wr.drew.cell? ⟨w.heap.size,1,none⟩=some (.int .i64 x.len)/\wr.drew.cell? ⟨w.heap.size,2,none⟩=some (.string x.attrs)/\wr.drew.cell? ⟨g,o+k*3,none⟩=some (.int .i64 y.addr)/\wr.drew.cell? ⟨g,o+k*3+1,none⟩=some (.int .i64 y.len)/\wr.drew.cell? ⟨g,o+k*3+2,none⟩=some (.string y.attrs)/\ah' wr wr.drew:=⟨hS1.1,hS1.2.1,hS1.2.2.1,hS1.2.2.2.1,hS1.2.2.2.2.1,hS1.2.2.2.2.2,(a0n _ _).drew⟩;have bl':w.heap.size<wr.heap.size:=afB bl hbs;have hbk':g<wr.heap.size:=afB hbk hbs;go_wp2_with fail
    go_region_held (λw'=>w'.cell? ⟨w.heap.size,0,none⟩=some (.int .i64 x.addr)/\w'.cell? ⟨w.heap.size,1,none⟩=some (.int .i64 x.len)/\w'.cell? ⟨w.heap.size,2,none⟩=some (.string x.attrs)/\w'.cell? ⟨g,o+k*3,none⟩=some (.int .i64 y.addr)/\w'.cell? ⟨g,o+k*3+1,none⟩=some (.int .i64 y.len)/\w'.cell? ⟨g,o+k*3+2,none⟩=some (.string y.attrs)/\ah' wr w') (first|assumption|exact hS|(exact acV bl' bl' bl' hbk' hbk' hbk' (by assumption) (by assumption))) (first|(go_at_call 209;refine(G.out _).ai ?_;intro L q))
    rename_i D;have a6O:=D.2.2.2.2.2.2;have hbB:=af HS1.out a6O hbs;have hown3:=bu F a6O;obtain⟨r0,r1,r2,s0,s1,s2⟩:=HC6.out _ hbB;have OW:=hbB.size;cases V with
    |false=>
     have hxk:=hxd rfl;cases c with
     |true=>
      have HM:=hide (HY.out rfl rfl);have HC1:=hide (jZ C [x]);have HC2:=hide (jZ (C++[x]) [y])
      go_upto_region 11 with(at_builtin;refine af4 _ rfl _ _ 27 rfl w1.heap.size 80 i0 (.agg #[.int .i64 0,.int .i64 0,.string ⟨#[]⟩]) 3 32 aiN hi hz0 hz1 hz2 rfl (by decide) _ _ _ rfl (hown3.alloc _) ⟨L.heap.size,0,none⟩ 1 1 [.int .i64 x.addr,.int .i64 x.len,.string x.attrs] rfl rfl (cu _ _ _) (qb x) aB (by omega) (afC OW (by simp)) ?_;intro v5 w5 X z _)
      have W:=dX hbB OW hown3 z;have Zc:w5.ownsRow w1.heap.size 80 3 v5 (C++[x]).length (aJ (C++[x])):=by rw[HC1.out,afE];exact X
      obtain⟨a5,c5,rfl⟩:=ay Zc;obtain⟨_,_,_,t0,t1,t2⟩:=HC6.out _ W;have hsz5:=W.size;have hl5:(C++[x]).length=C.length+1:=by simp
      go_wp2_with (at_builtin;refine af4 _ rfl _ _ 27 rfl w1.heap.size 80 i0 (.agg #[.int .i64 0,.int .i64 0,.string ⟨#[]⟩]) 3 32 aiN hi hz0 hz1 hz2 rfl (by decide) _ _ _ rfl (Zc.alloc _) ⟨w5.heap.size,0,none⟩ 1 1 [.int .i64 y.addr,.int .i64 y.len,.string y.attrs] rfl rfl (cu _ _ _) (qb y) aB (by omega) (afC hsz5 (by simp)) ?_;intro v7 w7 U Q _)
      exact⟨⟨k+1,v7,C++[x]++[y],true,rfl,rfl,by omega,by go_num,HM.out,by rw[HC2.out,afE];exact U,by rw[afE,hl5,List.length_singleton];omega,dX W hsz5 Zc Q⟩,aA⟩
     |false=>
      have HM:=hide (u.out rfl rfl);have HC1:=hide (jZ C [y]);go_wp2_with (at_builtin;refine af4 _ rfl _ _ 27 rfl w1.heap.size 80 i0 (.agg #[.int .i64 0,.int .i64 0,.string ⟨#[]⟩]) 3 32 aiN hi hz0 hz1 hz2 rfl (by decide) _ _ _ rfl (hown3.alloc _) ⟨L.heap.size,0,none⟩ 1 1 [.int .i64 y.addr,.int .i64 y.len,.string y.attrs] rfl rfl (cu _ _ _) (qb y) aB (by omega) (afC OW (by simp)) ?_;intro v7 w7 U Q _)
      exact⟨⟨k+1,v7,C++[y],false,rfl,rfl,by omega,by go_num,HM.out,by rw[HC1.out,afE];exact U,lK,dX hbB OW hown3 Q⟩,aA⟩
    |true=>
     have HM:=hide (HO.out rfl);have HC1:=hide (jZ C [y]);cases c
     all_goals
      go_wp2_with (at_builtin;refine af4 _ rfl _ _ 27 rfl w1.heap.size 80 i0 (.agg #[.int .i64 0,.int .i64 0,.string ⟨#[]⟩]) 3 32 aiN hi hz0 hz1 hz2 rfl (by decide) _ _ _ rfl (hown3.alloc _) ⟨L.heap.size,0,none⟩ 1 1 [.int .i64 y.addr,.int .i64 y.len,.string y.attrs] rfl rfl (cu _ _ _) (qb y) aB (by omega) (afC OW (by simp)) ?_;intro v7 w7 U Q _)
      exact⟨⟨k+1,v7,C++[y],true,rfl,rfl,by omega,by go_num,HM.out,by rw[HC1.out,afE];exact U,lK,dX hbB OW hown3 Q⟩,aA⟩
  ·have e:k=l.length:=by omega
   subst e;obtain⟨O,b1,b2,_,_,_,_⟩:=bx1.later hb;have hbs:=hb.size;have hx:¬(l.length:Int)<(l.length:Int):=by omega
   cases V with
   |true=>
    have HM:Hid (C=nk x l0):=by rw[Hid,HW0.out];exact s.out.done
    obtain⟨a2,c2,rfl⟩:=ay F;go_wp2_with fail;go_ret
    rw[<-HM.out]
    exact⟨_,rfl,yc F hsz1,af HB1.out hb hsz1⟩
   |false=>
    have HM:Hid (C++[x]=nk x l0):=by rw[Hid,HW0.out];exact s.out.last
    have HC1:=hide (jZ C [x]);obtain⟨a2,c2,rfl⟩:=ay F;go_wp2_with (at_builtin;refine af4 _ rfl _ _ 27 rfl w1.heap.size 80 i0 (.agg #[.int .i64 0,.int .i64 0,.string ⟨#[]⟩]) 3 32 aiN hi hz0 hz1 hz2 rfl (by decide) _ _ _ rfl (F.alloc _) ⟨wr.heap.size,0,none⟩ 1 1 [.int .i64 x.addr,.int .i64 x.len,.string x.attrs] rfl rfl (cu _ _ _) (qb x) aB (by omega) (afC hbs (by simp)) ?_;intro v7 w7 U Q _);go_ret
    rw[<-HM.out]
    exact⟨_,rfl,by rw[HC1.out,afE];exact yc U hsz1,af HB1.out (dX hb hbs F Q) hsz1⟩
end Go.Proofs.Zq
