import Derived.Test.YtkdjjnkpfpogkaaGreatDoorK32
set_option maxHeartbeats 8000000
set_option linter.all false
set_option maxRecDepth 20000
namespace Go
def aqR{P:Prop}(h:P:=by
 have M:t.toList.isEmpty=true:=by rw[dF];simp[J]
 have HE:=hide (a2z _ _ _ J HR);clear J;go_wp2;go_ret2;refine⟨E,?_,D,λl hl=> ?_,λhn=> ?_⟩
 ·rw[HE.out];rfl
 ·rw[HE.out]at hl;cases hl;exact⟨F,by omega⟩
 ·rw[HE.out]at hn;exact absurd hn (by simp)):P:=h
def uw{P:Prop}(h:P:=by
 go_ret2;refine⟨.slice none 0 0,?_,D,λl hl=> ?_,λ_=>rfl⟩
 ·rw[HB.out];rfl
 ·rw[HB.out]at hl;exact absurd hl (by simp)):P:=h
def aif{P:Prop}(h:P:=by simp[results,results248,go_sem,q0,q1,q2]):P:=h
end Go
namespace Go.Proofs.Zq
open Tryz
open Go.RowKit
open Rl
variable{w:World}{v:Value}{n A B:Nat}{I:List Value}
theorem Ea(h:bz w v n A I)(hn:n≠0):∃b o d,v=.slice (some ⟨b,o,none⟩) n d/\∀j u,I[j]? =some u->w.cell? ((⟨b,o,none⟩:Addr).add j)=some u:=by
 obtain⟨a,c,_,e⟩|⟨b,o,d,e,_,_,M⟩:=h.2
 ·omega
 ·refine⟨b,o,d,e,λj u hu=> ?_⟩
  have e2:(⟨b,o,none⟩:Addr).add j=⟨b,o+j,none⟩:=lT
  rw[e2];exact M j u hu
theorem a5W{b o a}(h:bz w (.slice (some ⟨b,o,none⟩) n a) n A I)(c:n≠0):∀j u,I[j]? =some u->w.cell? ((⟨b,o,none⟩:Addr).add j)=some u:=by grind[Ea]
theorem vU{k o}{e}(h:w.ownsRow B e A v n I)(j:v.ownBlock≠some k)(u):(w.setCell ⟨k,o,none⟩ u).ownsRow B e A v n I:=by
 refine⟨h.1,?_⟩;obtain i|⟨g,f,d,rfl,c,b,a⟩:=h.2
 ·grind
 ·refine .inr ⟨g,f,d,rfl,c,?_,a⟩
  rw[Below.heap_setCell w _ u g (by grind[Value.ownBlock])]
  exact b
theorem Qo{a}{k}(h:DK w v a)(d:some k≠v.ownBlock)(c:k<w.heap.size):a.ownBlock≠some k:=by
 intro e;obtain h|⟨j,h,b⟩:=h
 ·grind
 grind
theorem YF(a b):bO (a++b)=bO a++bO b:=by unfold bO;rw[List.flatMap_append]
theorem fO{e}(h:w.ownsRow B e A v n I):∃a c,v=.slice a n c:=by
 obtain⟨b,i⟩|⟨g,f,d,b,_⟩:=h.2
 ·grind
 grind
theorem a5X(l):∀u∈bO l,u.oneCell'=true:=by intro u a;unfold bO at a;simp only[List.mem_flatMap,agk,ags,or_false]at a;obtain⟨p,_,rfl|rfl⟩:=a<;>rfl
structure Di(w:World)(n:Nat)(a b c:Value):Prop where
 c0:w.cell? ⟨n,0,none⟩=some a
 c1:w.cell? ⟨n,1,none⟩=some b
 c2:w.cell? ⟨n,2,none⟩=some c
 f0:w.frozen? ⟨n,0,none⟩=false
 f1:w.frozen? ⟨n,1,none⟩=false
 f2:w.frozen? ⟨n,2,none⟩=false
 lt:n<w.heap.size
theorem lU(w:World)(a b c)(T):Di (w.alloc (.cells #[a,b,c] T)) w.heap.size a b c:=
 ⟨by simp,by simp,by simp,by simp,by simp,by simp,by simp⟩
theorem Di.later{w'}{a b c}(h:Di w n a b c)(d:ah' w w'):Di w' n a b c:=
 ⟨(d.cell (p:=⟨n,0,none⟩) h.lt).trans h.c0,(d.cell (p:=⟨n,1,none⟩) h.lt).trans h.c1,(d.cell (p:=⟨n,2,none⟩) h.lt).trans h.c2,(d.frozen (p:=⟨n,0,none⟩) h.lt).trans h.f0,(d.frozen (p:=⟨n,1,none⟩) h.lt).trans h.f1,(d.frozen (p:=⟨n,2,none⟩) h.lt).trans h.f2,afB h.lt d.size⟩
theorem Di.grown{g}{a b c}{e}(h:Di w n a b c)(i:w.grownBy g e)(f:some n≠e):Di g n a b c:=by
 have d:=i.block n h.lt f
 exact⟨(ahz (a:=⟨n,0,none⟩) d).trans h.c0,(ahz (a:=⟨n,1,none⟩) d).trans h.c1,(ahz (a:=⟨n,2,none⟩) d).trans h.c2,(ahJ (a:=⟨n,0,none⟩) d).trans h.f0,(ahJ (a:=⟨n,1,none⟩) d).trans h.f1,(ahJ (a:=⟨n,2,none⟩) d).trans h.f2,afB h.lt i.size⟩
theorem cK{a}(h:Below B a w)(b:B<=n)(x y z):Below B a (((w.setCell ⟨n,0,none⟩ x).setCell ⟨n,1,none⟩ y).setCell ⟨n,2,none⟩ z):=
 ((h.setCell (p:=⟨n,0,none⟩) b x).setCell (p:=⟨n,1,none⟩) b y).setCell (p:=⟨n,2,none⟩) b z
theorem VC(v3)(b)(a1 a2)(a c1 c2)(w):
  ai9 248 #[.slice a1 a c1,.slice a2 0 c2,v3,.bool b] w (.agg #[.slice a1 a c1,.slice none 0 0,.string ⟨#[]⟩]):=by
 go_enter aiX,ntmps248;go_wp2;refine abt (v:=.agg #[.slice a1 a c1,.slice none 0 0,.string ⟨#[]⟩]) (by simp[results,results248,go_sem]) rfl ⟨rfl,?_⟩
 exact(a0n _ _).alloc (afA _) _
theorem VD(v3)(a1 a2)(N c1 n2 c2)(d)(w)(h2:n2≠0)(hn:eY d=3)(Y:bz w v3 d.length 3 (dN d))(hx:d.length<=1048576)(hl:∀a∈d,a.flags<256/\a.kind<256/\a.val.size<=1048576)(y:(d.flatMap uT).length<=140737488355328):
  ai9 248 #[.slice a1 N c1,.slice a2 n2 c2,v3,.bool false] w (.agg #[.slice a1 N c1,.slice a2 n2 c2,.string ⟨(d.flatMap uT).toArray⟩]):=by
 have hq:((n2:Int)==0)=false:=ax
 have c:=λu(hb:ah' w u)=>xq v3 d u (by omega) (Y.later hb)
 rw[show(eY d==3)=true from by rw[hn];rfl]at c
 have E:=λu(hb:ah' w u)=>Gl v3 d u hx hl y (Y.later hb)
 have K:=λo=>(a0n w.heap.size w).alloc (afA _) o
 generalize (⟨(d.flatMap uT).toArray⟩:ByteArray)=T at*;go_enter aiX,ntmps248;go_wp2_with (first|(go_at_call 218;refine(c _ (K _)).ai ?_;intro w1 H)|(go_at_call 281;refine(E _ (af (K _) H (by simp))).ai ?_;intro w2 V;obtain⟨q0,q1,q2,f0,f1,f2,ql⟩:=((lU _ _ _ _ _).later H).later V;have D:=af (af (K _) H (by simp)) V (afC (by simp) H.size)));refine abt (v:=.agg #[.slice a1 N c1,.slice a2 n2 c2,.string T]) aif rfl ⟨rfl,?_⟩;exact cK D (afA _) _ _ _
theorem YG(B)(v3)(sp)(a1 a2)(N c1 n2 c2)(V y)(u)(w)(h2:n2≠0)(hn:sp=true\/eY u≠3)(M:B<=w.heap.size)(Y:bz w v3 u.length 3 (dN u))(hx:u.length<=1048576)(F:w.ownsRow B 113 2 (.slice a1 N c1) N (bO V))(hr2:bz w (.slice a2 n2 c2) n2 2 (bO y))(hs:N+n2<=1048576):
  ai3 248 #[.slice a1 N c1,.slice a2 n2 c2,v3,.bool sp] w λe w'=>∃v',e=.returned (.agg #[v',.slice none 0 0,.string ⟨#[]⟩])/\w'.ownsRow B 113 2 v' (N+n2) (bO (V++y))/\Below B w w':=by
 obtain⟨i0,hi,hz0,hz1,hz2⟩:=ahC Ib;obtain⟨b2,j,W,e2,U⟩:=Ea hr2 h2;have Q:(bO y).length=n2*2:=hr2.1;cases e2;have hq:((n2:Int)==0)=false:=ax
 have K:=λo=>(a0n w.heap.size w).alloc (afA _) o
 have d:=own_ne F w.heap.size (afA _);have J:=λL(hb:ah' w L)=>a5W (hr2.later hb) h2
 cases sp with
 |true=>
  go_enter aiX,ntmps248;go_wp2_with (first|(at_builtin;refine jW _ rfl _ _ 114 rfl B 113 i0 (.agg #[.int .i64 0,.int .i64 0]) 2 16 aiS hi hz0 hz1 hz2 rfl (by decide) _ _ _ rfl (F.alloc _) ⟨b2,j,none⟩ n2 c2 (bO y) rfl Q (J _ (K _)) (a5X y) aB (by omega) (by simp;omega) ?_;intro v' w4 f b E;obtain⟨a4,c4,rfl⟩:=fO f;obtain⟨q0,q1,q2,f0,f1,f2,ql⟩:=(lU w _ _ _ _).grown b d));refine abt (v:=.agg #[.slice a4 (N+n2) c4,.slice none 0 0,.string ⟨#[]⟩]) aif rfl ⟨_,rfl,?_,?_⟩
  ·rw[YF]
   have R:=Qo E d (by simp);exact vU (vU (vU f R _) R _) R _
  ·exact cK ((((a0n B w).alloc M _)).grown b (by simp;omega) (λk R=>(F.lt k R).1)) M _ _ _
 |false=>
  have O:eY u≠3:=by obtain h|h:=hn;exact absurd h (by simp);exact h
  have c:=λL(hb:ah' w L)=>xq v3 u L (by omega) (Y.later hb)
  rw[show(eY u==3)=false from by rw[afW];exact O]at c
  go_enter aiX,ntmps248;go_wp2_with (first|(go_at_call 218;refine(c _ (K _)).ai ?_;intro w1 H)|(at_builtin;refine jW _ rfl _ _ 114 rfl B 113 i0 (.agg #[.int .i64 0,.int .i64 0]) 2 16 aiS hi hz0 hz1 hz2 rfl (by decide) _ _ _ rfl (bu (F.alloc _) H) ⟨b2,j,none⟩ n2 c2 (bO y) rfl Q (J _ (af (K _) H (by simp))) (a5X y) aB (by omega) (afC (by simp;omega) H.size) ?_;intro v' w4 f b E;obtain⟨a4,c4,rfl⟩:=fO f;obtain⟨q0,q1,q2,f0,f1,f2,ql⟩:=((lU w _ _ _ _).later H).grown b d));refine abt (v:=.agg #[.slice a4 (N+n2) c4,.slice none 0 0,.string ⟨#[]⟩]) aif rfl ⟨_,rfl,?_,?_⟩
  ·rw[YF]
   have R:=Qo E d (afB (by simp) H.size);exact vU (vU (vU f R _) R _) R _
  ·exact cK ((af ((a0n B w).alloc M _) H (by simp;omega)).grown b (afC (by simp;omega) H.size) (λk R=>(F.lt k R).1)) M _ _ _
def n2(s:ByteArray):Nat:=(num ((s.extract 0 2).data.toList)).toNat
theorem Ld(s):(n2 s:Int)=num ((s.extract 0 2).data.toList):=by unfold n2;have:=num_nonneg ((s.extract 0 2).data.toList);omega
theorem Qp(s):n2 s<65536:=by
 have h:=yF 2 ((s.extract 0 2).data.toList) (by simp<;>omega)
 grind[Ld]
def wR(s:ByteArray):Bool:=decide (2<=s.size/\2+n2 s<=s.size)
def fo(s:ByteArray):ByteArray:=s.extract 2 (2+n2 s)
def bA(s:ByteArray):ByteArray:=s.extract (2+n2 s) s.size
theorem yR(s):(bA s).size=s.size-(2+n2 s):=by simp[bA,afU]
theorem Gm(s):(bA s).size<=s.size:=by rw[yR];omega
theorem a8X(s)(h:4+n2 s<=s.size):(n2 (bA s):Int)=num ((s.extract (2+n2 s) (4+n2 s)).data.toList):=by grind[Ld,bA,ByteArray.extract_extract]
theorem a5Y(s)(h:4+n2 s+n2 (bA s)<=s.size):fo (bA s)=s.extract (4+n2 s) (4+n2 s+n2 (bA s)):=by grind[fo,bA,ByteArray.extract_extract]
theorem a5Z(s):bA (bA s)=s.extract (4+n2 s+n2 (bA s)) s.size:=by grind[yR,bA,ByteArray.extract_extract]
def rJ(s:ByteArray):Bool:=wR s&&wR (bA s)
theorem Kb(s):rJ s=true↔4+n2 s<=s.size/\4+n2 s+n2 (bA s)<=s.size:=by simp[rJ,wR,afQ,yR]<;>omega
theorem a0a(s)(w):
  ai3 242 #[.string (s.extract 0 2)] w λe a=>e=.returned (.int .i64 (n2 s:Int))/\a=w:=by
 grind[qB,afU,Ld]
theorem a5'(s)(w):
  ai3 124 #[.string (s.extract 0 2)] w λe a=>e=.returned (.int .i64 (n2 s:Int))/\a=w:=by
 grind[kF,afU,Ld]
theorem a0b(s)(w)(h:4+n2 s<=s.size):
  ai3 124 #[.string (s.extract (2+n2 s) (4+n2 s))] w λe a=>e=.returned (.int .i64 (n2 (bA s):Int))/\a=w:=by
 grind[kF,afU,a8X]
theorem Nu(s)(w)(hs:s.size<=maxLen)(h:wR s=false):
  ai9 278 #[.string s] w (.tuple #[.string ⟨#[]⟩,.string ⟨#[]⟩,.bool false]):=by
 unfold maxLen at hs;unfold wR at h
 rw[agA]at h
 have hl:=Qp s
 by_cases h2:s.size<2
 ·clear h
  go_enter ajx,ntmps278;go_wp2;go_ret3
  exact aN
 ·have d:s.size<2+n2 s:=by omega
  go_enter ajx,ntmps278;go_wp2_with (go_at_call 242;refine(a0a s _).ai ?_;intro w' rfl);go_ret3
  exact aN
theorem Eb(s)(w)(b:s.size<=maxLen)(h:wR s=true):
  ai9 278 #[.string s] w (.tuple #[.string (fo s),.string (bA s),.bool true]):=by
 unfold maxLen at b;unfold wR at h
 rw[agv]at h
 have d:=Qp s;obtain⟨f,e⟩:=h;have a:=λw=>a0a s w
 unfold fo bA;generalize n2 s=n at*;go_enter ajx,ntmps278;go_wp2_with (go_at_call 242;refine(a _).ai ?_;intro c rfl)
 go_region
 go_wp2;go_ret3
 exact⟨rfl,ahH (a0n _ _) _⟩
theorem a2A(s)(w)(b:s.size<=maxLen)(d:wR s=false):
  ai9 245 #[.string s] w (.tuple #[.string ⟨#[]⟩,.string ⟨#[]⟩,.string ⟨#[]⟩,.bool false]):=by
 have c:=λw=>Nu s w b d
 unfold maxLen at b;go_enter ajv,ntmps245;go_wp2_with (go_at_call 278;refine(c _).ai ?_;intro e a);exact abt (v:=.tuple #[.string ⟨#[]⟩,.string ⟨#[]⟩,.string ⟨#[]⟩,.bool false]) (by simp[results,results245,go_sem]) rfl ⟨rfl,a⟩
theorem a2B(s)(w)(b:s.size<=maxLen)(h:wR s=true)(g:wR (bA s)=false):
  ai9 245 #[.string s] w (.tuple #[.string (fo s),.string ⟨#[]⟩,.string ⟨#[]⟩,.bool false]):=by
 have d:(bA s).size<=maxLen:=afC (Gm s) b;have f:=λw=>Eb s w b h
 have e:=λw=>Nu (bA s) w d g
 generalize fo s=p at*;generalize bA s=r at*;unfold maxLen at b;go_enter ajv,ntmps245;go_wp2_with (first|(go_at_call_of 278 s;refine(f _).ai ?_;intro j a)|(go_at_call_of 278 r;refine(e _).ai ?_;intro i c));exact abt (v:=.tuple #[.string p,.string ⟨#[]⟩,.string ⟨#[]⟩,.bool false]) (by simp[results,results245,go_sem]) rfl ⟨rfl,a.trans (c.mono a.size)⟩
theorem a2C(s)(w)(b:s.size<=maxLen)(j:wR s=true)(i:wR (bA s)=true):
  ai9 245 #[.string s] w (.tuple #[.string (fo s),.string (fo (bA s)),.string (bA (bA s)),.bool true]):=by
 have f:(bA s).size<=maxLen:=afC (Gm s) b;have h:=λw=>Eb s w b j
 have g:=λw=>Eb (bA s) w f i
 generalize fo s=p at*;generalize bA s=r at*;generalize fo r=e at*;generalize bA r=d at*;unfold maxLen at b;go_enter ajv,ntmps245;go_wp2_with (first|(go_at_call_of 278 s;refine(h _).ai ?_;intro l a)|(go_at_call_of 278 r;refine(g _).ai ?_;intro k c));exact abt (v:=.tuple #[.string p,.string e,.string d,.bool true]) (by simp[results,results245,go_sem]) rfl ⟨rfl,a.trans (c.mono a.size)⟩
theorem VE(s)(w)(e:s.size<=maxLen)(g:rJ s=false):
  ai9 210 #[.string s] w (.tuple #[.string ⟨#[]⟩,.string ⟨#[]⟩,.string ⟨#[]⟩,.bool false]):=by
 unfold maxLen at e;have h:=Qp s;have f:=Qp (bA s);have a:=Kb s;have c:=λw=>a5' s w
 have b:=a0b s
 rw[g]at a
 simp only[afI,false_iff]at a;generalize n2 (bA s)=n at*;generalize n2 s=k at*;go_enter akv,ntmps210;go_wp2_with (first|(go_at_call_of 124 (s.extract 0 2);refine(c _).ai ?_;intro d rfl)|(go_at_call 124;refine(b _ (by omega)).ai ?_;intro d rfl))
 all_goals first|(exfalso;apply a;omega)|skip
 all_goals exact abt (v:=.tuple #[.string ⟨#[]⟩,.string ⟨#[]⟩,.string ⟨#[]⟩,.bool false]) (by simp[results,results210,go_sem]) rfl ⟨rfl,a0n _ _⟩
theorem Sn(s)(w)(e:s.size<=maxLen)(h:rJ s=true):
  ai9 210 #[.string s] w (.tuple #[.string (fo s),.string (fo (bA s)),.string (bA (bA s)),.bool true]):=by
 unfold maxLen at e;have i:=Qp s;have g:=Qp (bA s);obtain⟨f,a⟩:=(Kb s).1 h
 rw[a5Y s a,a5Z s]
 have c:=λw=>a5' s w
 have b:=a0b s;unfold fo;generalize n2 (bA s)=n at*;generalize n2 s=k at*;go_enter akv,ntmps210;go_wp2_with (first|(go_at_call_of 124 (s.extract 0 2);refine(c _).ai ?_;intro d rfl)|(go_at_call 124;refine(b _ (by omega)).ai ?_;intro d rfl))
 go_region
 go_wp2;exact abt (v:=.tuple #[.string (s.extract 2 (2+k)),.string (s.extract (4+k) (4+k+n)),.string (s.extract (4+k+n) s.size),.bool true]) (by simp[results,results210,go_sem]) rfl ⟨rfl,ahH (a0n _ _) _⟩
def qM(s:ByteArray):Nat:=at8 s.data.toList 0
def rdNum(s:ByteArray):Nat:=(num ((s.extract 1 (1+many (qM s))).data.toList)).toNat
def Sq(s:ByteArray):Nat:=rdNum s*256^(4-many (qM s))
def sI(s:ByteArray):Prop:=32<qM s\/s.size<1+many (qM s)
instance (s:ByteArray):Decidable (sI s):=by unfold sI;infer_instance
def Gn(s:ByteArray):Int×Int:=((Sq s:Int)-(Sq s:Int)%gap (qM s),(qM s:Int))
def vV(s:ByteArray):ByteArray:=s.extract (1+many (qM s)) s.size
theorem sJ(s):(vV s).size=s.size-(1+many (qM s)):=by simp[vV,afU]
theorem a6a(s):qM s<256:=gG _ 0
theorem Gp(s):(rdNum s:Int)=num ((s.extract 1 (1+many (qM s))).data.toList):=by unfold rdNum;have:=num_nonneg ((s.extract 1 (1+many (qM s))).data.toList);omega
theorem Nv(s):rdNum s<256^many (qM s):=by
 have h:=yF (many (qM s)) ((s.extract 1 (1+many (qM s))).data.toList) (by simp<;>omega);have:=Gp s
 grind
theorem a6b(s)(h:qM s<=32):Sq s<=4294967295:=by
 have b:=Nv s;have a:=Hw _ h;unfold Sq;generalize rdNum s=x at*;generalize many (qM s)=m at*;have e:m=0\/m=1\/m=2\/m=3\/m=4:=by omega
 grind
def dz(s:ByteArray):Option (List (Int×Int)):=
 if s.size=0 then some []
 else if sI s then none
 else(dz (vV s)).map (Gn s:: ·)
termination_by s.size
decreasing_by rw[sJ];omega
theorem EF(s)(h:s.size=0):dz s=some []:=by grind[dz]
theorem Jk(s)(h:s.size≠0)(a:sI s):dz s=none:=by grind[dz]
theorem Gq(s)(h:s.size≠0)(a:¬sI s):dz s=(dz (vV s)).map (Gn s:: ·):=by grind[dz]
def Ec(t:ByteArray)(l:List (Int×Int))(s:ByteArray):Prop:=dz t=(dz s).map (l++ ·)
theorem Kc(t):Ec t [] t:=by unfold Ec;cases dz t<;>simp
theorem Nw(t)(l)(s)(h:s.size≠0)(b:¬sI s)(a:Ec t l s):Ec t (l++[Gn s]) (vV s):=by
 unfold Ec at*
 rw[a,Gq s h b]
 cases dz (vV s)<;>simp
theorem a2z(t)(l)(s)(h:s.size=0)(a:Ec t l s):dz t=some l:=by grind[Ec,EF]
theorem Qq(t)(l)(s)(h:s.size≠0)(b:sI s)(a:Ec t l s):dz t=none:=by grind[Ec,Jk]
theorem xU(s)(w)(hs:s.size<=1048576):
  ai3 246 #[.string s] w λe w'=>∃v,e=.returned (.tuple #[v,.bool (dz s).isSome])/\ah' w w'/\(∀l,dz s=some l->w'.ownsRow w.heap.size 113 2 v l.length (bO l)/\l.length<=s.size)/\(dz s=none->v=.slice none 0 0):=by
 obtain⟨i0,hi,hz0,hz1,hz2⟩:=ahC Ib;go_enter amj,ntmps246;go_wp2
 go_loopw [0,4] (λx l wr=>∃(t:ByteArray)(I:List (Int×Int))(E:Value),E=l/\x=.string t/\t.size+I.length<=s.size/\Ec s I t/\wr.ownsRow w.heap.size 113 2 E I.length (bO I)/\ah' w wr) (λx _ _=>pU x)
 case atStart=>exact⟨s,[],_,rfl,rfl,by simp,Kc s,a9X _ _ _ _,a0n _ _⟩
 case round=>
  obtain⟨t,I,E,rfl,rfl,hsz,N,F,D⟩:=hrel;have HR:=N;clear N
  by_cases J:t.size=0
  ·exact aqR
  ·have M:t.toList.isEmpty=false:=by rw[dF];simp[J]
   have hp:0<t.size:=by omega
   have K:=dD t 0 hp;have hn:=a6a t;have hx0:(0:Int)<(t.size:Int):=by omega
   have hm:many (qM t)<=32:=by unfold many;omega
   have htm:t.size<=1048576:=by omega
   have Q:=λw=>Si (qM t) w (by omega)
   by_cases O:sI t
   ·have HB:=hide (Qq _ _ _ J O HR)
    unfold sI at O;unfold qM at*;generalize at8 t.data.toList 0=n at*;generalize many n=m at*;clear J;go_wp2_with (go_at_call 222;refine(Q _).ai ?_;intro w' rfl)
    all_goals
     exact uw
   ·have U:=hide (Nw _ _ _ J O HR)
    unfold sI at O;have d:=a6b t (by omega);have hA0:=Nv t;have hN:=Gp t;have Y:=sJ t;have N:=λw=>qB (t.extract 1 (1+many (qM t))) w (by have:=Hw (qM t) (by omega);exact aQ)
    rw[<-hN]at N
    have hfb:=λw=>xu (Sq t:Int) (qM t:Int) w (by omega) (by omega) (by omega) (by omega)
    have hm4:=Hw (qM t) (by omega);obtain⟨L,V⟩:∃L,L=Gn t:=⟨_,rfl⟩;obtain⟨X,R⟩:∃X,X=vV t:=⟨_,rfl⟩
    rw[<-V,<-R]at U
    rw[<-R]at Y
    have EH:=hide V;have ET:=hide R;clear V R J hN
    have hv:wrap64 ((rdNum t:Int)*2^(32-8*many (qM t)))=(Sq t:Int):=by
     have e1:32-8*many (qM t)=8*(4-many (qM t)):=by omega
     have e2:((Sq t:Nat):Int)=(rdNum t:Int)*2^(32-8*many (qM t)):=by
      unfold Sq
      rw[e1,Int.natCast_mul,Int.natCast_pow,Int.pow_mul];rfl
     rw[<-e2];exact lh _ (by omega) (by omega)
    have W:t.extract (1+many (qM t)) t.size=X:=ET.out.symm;have hhd:L=((Sq t:Int)-(Sq t:Int)%gap (qM t),(qM t:Int)):=EH.out;subst hhd;clear EH ET;unfold qM at*;generalize rdNum t=x at*;generalize Sq t=a at*;generalize at8 t.data.toList 0=n at*;generalize many n=m at*;generalize (a:Int)-(a:Int)%gap (n:Int)=y at*;go_wp2_with (first|(go_at_call 222;refine(Q _).aH ?_)|(go_at_call 242;refine(N _).aH ?_)|(go_at_call 219;rw[hv];refine(hfb _).aH ?_)|(at_builtin;refine af4 _ rfl _ _ 114 rfl w.heap.size 113 i0 (.agg #[.int .i64 0,.int .i64 0]) 2 16 aiS hi hz0 hz1 hz2 rfl (by decide) _ _ _ rfl (F.alloc _) ⟨wr.heap.size,0,none⟩ 1 1 [.int .i64 y,.int .i64 (n:Int)] rfl rfl (cu _ _ _) ?c2 ?c3 ?c4 ?c5 ?_))
    case c2=>intro u hu;simp at hu;obtain rfl|rfl:=hu<;>rfl
    case c3=>unfold maxLen;omega
    case c4=>omega
    case c5=>have:=D.size;simp;omega
    intro v' w4 f b _;have c:=dX D D.size F b;clear b F D;go_wp2;have Z:(t.extract (1+m) t.size).size<t.size:=by rw[W];omega
    refine⟨⟨X,I++[(y,(n:Int))],v',rfl,?_,by simp;omega,U.out,?_,c⟩,gB⟩
    ·exact congrArg Value.string W
    ·rw[afE,H5]
     exact f
structure Upd where
 err:Int
 gone:List (Int×Int)
 come:List (Int×Int)
 text:List UInt8
def EG(g a:List (Int×Int))(l:List At)(b:Bool):Upd:=
 if a.length=0 then⟨0,g,[],[]⟩
 else if b=true\/eY l≠3 then⟨0,g++a,[],[]⟩
 else⟨0,g,a,mW l 256⟩
def sK(c:ByteArray):Upd:=
 if rJ c=true then
  match dz (fo c),dz (bA (bA c)),qc (fo (bA c))with
  |some g,some a,some (l,b)=>EG g a l b
  |_,_,_=>⟨3,[],[],[]⟩
 else⟨3,[],[],[]⟩
def rM(m:ByteArray):Bool:=decide (Vj m.data.toList=0/\Vh m.data.toList=m.size/\Vi m.data.toList=2)
def upd(m:ByteArray):Upd:=if rM m=true then sK (m.extract 19 m.size)else⟨2,[],[],[]⟩
def Apart(b a:Value):Prop:=∀k,b.ownBlock=some k->a.ownBlock≠some k
theorem yS(s)(l)(w)(d:s.size<=1048576)(h:dz s=some l):
  ai3 246 #[.string s] w λe b=>∃a c,e=.returned (.tuple #[.slice a l.length c,.bool true])/\ah' w b/\b.ownsRow w.heap.size 113 2 (.slice a l.length c) l.length (bO l)/\l.length<=s.size:=by
 grind[xU,fO]
theorem a9S(s)(w)(a:s.size<=1048576)(h:dz s=none):
  ai9 246 #[.string s] w (.tuple #[.slice none 0 0,.bool false]):=by
 grind[xU]
theorem YH(s)(l)(c)(w)(d:s.size<=1048576)(h:qc s=some (l,c)):
  ai3 247 #[.string s] w λe b=>∃v a,e=.returned (.tuple #[v,.bool c,.int .i64 0])/\ah' w b/\a.Perm l/\uq a/\bz b v a.length 3 (dN a)/\Lc s.size (λ_=>true) l/\l.length<=s.size:=by
 refine(vT s w d).mono ?_
 grind[aM]
theorem acI(s)(w)(a:s.size<=1048576)(h:qc s=none):
  ai9 247 #[.string s] w (.tuple #[.slice none 0 0,.bool false,.int .i64 3]):=by
 grind[vT]
theorem Ig{l b}(c:b.Perm l)(d:(l.map (·.kind)).Nodup)(f:uq b)(e:∀a∈l,a.kind<256):b.flatMap uT=mW l 256:=by rw[<-a2p b f (λa g=>e a (c.mem_iff.1 g)),YC c d]
theorem a6c(l:List At)(m)(h:∀a∈l,a.val.size<=m):(l.flatMap uT).length<=l.length*(m+4):=by
 induction l with
 |nil=>simp
 |cons a l b=>simp_all[List.flatMap_cons,afE,ag4,Nat.succ_mul,List.mem_cons_of_mem,List.mem_cons_self,uT,vS]<;>omega
end Go.Proofs.Zq
namespace Go.Proofs.Zq
open Go.RowKit
open Rl
variable{b:ByteArray}
def nN(b:ByteArray):Nat:=(num ((b.extract 1 5).data.toList)).toNat
def qD(b:ByteArray):Nat:=at8 b.data.toList 0
def mX(b:ByteArray):ByteArray:=b.extract 5 b.size
def wm(b:ByteArray):Bool:=decide (5<=b.size)&&(E5 (mX b)&&qW (nN b) (qD b))
theorem Ed(b):(nN b:Int)=num ((b.extract 1 5).data.toList):=by unfold nN;have:=num_nonneg ((b.extract 1 5).data.toList);omega
theorem a8Y(l)(h:1<=l.length):num (l.take 1)=(at8 l 0:Int):=by
 cases l with
 |nil=>simp at h
 |cons c l=>simp[num,at8]
theorem a2D(b)(h:1<=b.size):num ((b.extract 0 1).data.toList)=(qD b:Int):=by
 rw[Lib.extract_data,List.drop_zero]
 exact a8Y _ (by simp_all)
def mY(k p:Nat)(b:ByteArray):Bool:=
 if 6<=p then false else if k=1 then decide ((upd b).err=0)else if k=2\/k=3 then decide (b.size=0)else if k=4 then wm b else if k=5\/k=6 then decide (p=0/\b.size=0)else false
structure Rec where
 time:Nat
 kind:Nat
 peer:Nat
 body:ByteArray
def gZ(b:ByteArray):Nat:=(num ((b.extract 6 8).data.toList)).toNat
theorem Gr(b):(gZ b:Int)=num ((b.extract 6 8).data.toList):=by unfold gZ;have:=num_nonneg ((b.extract 6 8).data.toList);omega
theorem Ny(b):gZ b<65536:=by
 have h:=yF 2 ((b.extract 6 8).data.toList) (by simp<;>omega)
 grind[Gr]
def oW(b:ByteArray):Nat:=(num ((b.extract 0 4).data.toList)).toNat
theorem yT(b):(oW b:Int)=num ((b.extract 0 4).data.toList):=by unfold oW;have:=num_nonneg ((b.extract 0 4).data.toList);omega
theorem YI(b):oW b<4294967296:=by
 have h:=yF 4 ((b.extract 0 4).data.toList) (by simp<;>omega)
 grind[yT]
def mZ(b:ByteArray):Rec:=⟨oW b,at8 b.data.toList 4,at8 b.data.toList 5,b.extract 8 (8+gZ b)⟩
def Jl(b:ByteArray):Bool:=decide (8<=b.size/\12+gZ b<=b.size)
def a6d(b:ByteArray):Bool:=decide (num ((b.extract (8+gZ b) (12+gZ b)).data.toList)=(crc ((b.extract 0 (8+gZ b)).data.toList):Int))
def fw(b:ByteArray):Bool:=Jl b&&(a6d b&&mY (mZ b).kind (mZ b).peer (mZ b).body)
def Ih(b:ByteArray):ByteArray:=b.extract (12+gZ b) b.size
theorem yU(b):(Ih b).size=b.size-(12+gZ b):=by simp[Ih,afU]
theorem lD(h:fw b=true):8<=b.size/\12+gZ b<=b.size:=by unfold fw at h;rw[afQ]at h;exact agm h.1
def jY(b:ByteArray):List Rec:=if _h:fw b=true then mZ b::jY (Ih b)else []
termination_by b.size
decreasing_by have:=lD _h;rw[yU];omega
def Cc(b:ByteArray):Nat:=if _h:fw b=true then 12+gZ b+Cc (Ih b)else 0
termination_by b.size
decreasing_by have:=lD _h;rw[yU];omega
theorem Jm(h:fw b=true):jY b=mZ b::jY (Ih b):=by grind[jY]
theorem Ee(h:fw b=false):jY b=[]:=by grind[jY]
theorem a2E(h:fw b=true):Cc b=12+gZ b+Cc (Ih b):=by grind[Cc]
theorem a6e(h:fw b=false):Cc b=0:=by grind[Cc]
def dV(l:List Rec):List Value:=l.flatMap λr=>[.int .i64 (r.time:Int),.int .i64 (r.kind:Int),.int .i64 (r.peer:Int),.string r.body]
theorem yV(l m):dV (l++m)=dV l++dV m:=by simp[dV]
theorem yX:∀(l:List Rec)(j:Nat)(h:j<l.length),(dV l)[j*4]? =some (.int .i64 (l[j].time:Int))/\(dV l)[j*4+1]? =some (.int .i64 (l[j].kind:Int))/\(dV l)[j*4+2]? =some (.int .i64 (l[j].peer:Int))/\(dV l)[j*4+3]? =some (.string l[j].body):=by
 intro l;induction l with
 |nil=>simp
 |cons a l c=>
  intro j h;cases j with
  |zero=>simp[dV]
  |succ j=>grind[dV]
def Ii(b:ByteArray)(a:List Rec)(n:Nat)(s:ByteArray):Prop:=jY b=a++jY s/\Cc b=n+Cc s/\s=b.extract n b.size/\n<=b.size/\a.length*12<=n
theorem OP(b):Ii b [] 0 b:=⟨by simp,by simp,by simp,afK _,by simp⟩
theorem Ij{s}{a}{n}(h:Ii b a n s)(f:fw s=true):Ii b (a++[mZ s]) (n+(12+gZ s)) (Ih s):=by
 obtain⟨l,k,c,j,i⟩:=h;have g:=lD f;have d:s.size=b.size-n:=by rw[c,afU];omega
 refine⟨?_,?_,?_,by omega,by simp;omega⟩
 ·grind[Jm,agH]
 ·grind[a2E]
 ·have e:∀m,s.extract m s.size=b.extract (n+m) b.size:=by
   intro m
   rw[d,c,ByteArray.extract_extract]
   congr 1
   omega
  exact e _
theorem VF{s}{a}{n}(h:Ii b a n s)(c:fw s=false):jY b=a/\Cc b=n:=by
 obtain⟨e,d,_⟩:=h
 grind[Ee,a6e]
end Go.Proofs.Zq
