import Derived.Deep.Cut
import Derived.DeepKeys4
import Derived.ProofKit
import Derived.Test.YtkdjjnkpfpogkaaGreatDoorK36
set_option maxHeartbeats 8000000
set_option linter.all false
set_option maxRecDepth 100000
namespace Go
def aiy{P:Prop}(h:P:=by
 by_cases d:1<=b1/\b1<=3
 ·have HK:=hide d
  obtain⟨k1,k3⟩:=d;go_wp2_with (first|(go_at_call 166;refine(a _).aH ?_)|(at_builtin;refine af4 _ rfl _ _ 161 rfl w.heap.size 167 i0 (.agg #[.int .i64 0,.int .i64 0,.string ⟨#[]⟩]) 3 32 aj4 hi hz0 hz1 hz2 rfl (by decide) _ _ _ rfl ((F.alloc _).alloc _).drew ⟨wr.heap.size+1,0,none⟩ 1 1 [.int .i64 (O:Int),.int .i64 (b1:Int),.string (t.extract 4 (4+n))] rfl rfl (yG _ _ _ _) (a1q _ _ _) (by unfold maxLen;omega) (by omega) (by have:=D.size;simp;omega) ?_;intro v' w4 f b _));refine⟨⟨t.extract (4+n) t.size,b1,C++[⟨O,b1,t.extract 4 (4+n)⟩],v',rfl,rfl,rfl,Qe _ _ _ _ HK.out,by omega,by omega,by simp only[afE,ag4,age];omega,HG.out,?_,yH D D.size F b⟩,by simp only[pU];omega⟩
  rw[afE,nE]
  exact f
 ·have HK:=hide d
  have k2:b1<1\/3<b1:=by omega
  clear d;obtain k2|k2:=k2
  all_goals
   go_wp2_with (first|(go_at_call 166;refine(a _).aH ?_)|(at_builtin;refine af4 _ rfl _ _ 161 rfl w.heap.size 167 i0 (.agg #[.int .i64 0,.int .i64 0,.string ⟨#[]⟩]) 3 32 aj4 hi hz0 hz1 hz2 rfl (by decide) _ _ _ rfl ((F.alloc _).alloc _).drew ⟨wr.heap.size+1,0,none⟩ 1 1 [.int .i64 (O:Int),.int .i64 (b1:Int),.string (t.extract 4 (4+n))] rfl rfl (yG _ _ _ _) (a1q _ _ _) (by unfold maxLen;omega) (by omega) (by have:=D.size;simp;omega) ?_;intro v' w4 f b _));refine⟨⟨t.extract (4+n) t.size,b1,C++[⟨O,b1,t.extract 4 (4+n)⟩],v',rfl,rfl,rfl,Vn _ _ _ _ HK.out,by omega,by omega,by simp only[afE,ag4,age];omega,HG.out,?_,yH D D.size F b⟩,by simp only[pU];omega⟩
   rw[afE,nE]
   exact f):P:=h
def lZ{P:Prop}(h:P:=by
 go_ret2;refine⟨.slice none 0 0,a0i HB.out,ahH (n:=1) (D.alloc D.size _),λh=> ?_⟩
 rw[HB.out]at h;exact absurd h (by simp)):P:=h
def aqW{P:Prop}(h:P:=by
 go_region_with (first|(go_at_call 124;refine(r1 _).aH ?_))
 all_goals
  go_wp2_with fail
  go_meet
  case rel=>exact⟨rfl,a9c _ _ _ _ _ _ _ _⟩):P:=h
end Go
namespace Go.Proofs.Zq
open Go.RowKit
variable{p:Int×Int}{v:Value}{w:World}
namespace Rl
def xx(p:Int×Int):Prop:=(-9223372036854775808<=p.1/\p.1<=9223372036854775807)/\(-9223372036854775808<=p.2/\p.2<=9223372036854775807)
theorem ve.i64(h:ve p):xx p:=by grind[ve,xx]
def E9(p:Int×Int):Value:=.agg #[.int .i64 p.1,.int .i64 p.2]
def kb(p:Int×Int):List UInt8:=keyBytes [.int .i64 p.1,.int .i64 p.2]
def kl(p:Int×Int):Lit:=.string (kb p)
theorem VU:laidOutB ah.prog=true:=by kernel_rfl
theorem a9d:(113:TypeId)<ah.prog.types.size:=agm (by kernel_rfl)
theorem a6G:(match ah.prog.underlying 113 with|some (.array _ _)|some (.struct _)=>true|_=>false)=true:=by simp
theorem abk:ah.prog.keyTypeAt 2 113=true:=by kernel_rfl
theorem a9e:WideMaps.KeyLaw ah.prog 113:=deep_law_laid (m:=2) VU (by decide) a9d abk a6G
theorem y9:Maps.Keyed ah.prog 113:=Maps.Keyed.of_law a9e
theorem a6H:ah.prog.keyType 113=true:=by kernel_rfl
theorem EP:ah.prog.cellsOf 113=2:=by kernel_rfl
theorem NV:ah.prog.cellsOf 3=1:=by kernel_rfl
theorem VV:∃n,ah.prog.types.size+1=n+1+1:=by simp
theorem a6I{n:Int}(h: -9223372036854775808<=n/\n<=9223372036854775807):(Lit.int .i64 n).wf=true:=uH
theorem vD(h:xx p):keyOf ah.prog 113 (E9 p)=some (kl p):=by
 obtain⟨f,e⟩:=h;have b:=a6I f;have a:=a6I e;have d:(E9 p).formed ah.prog 113=true:=by simp[E9,Value.formed,EP]
 obtain⟨n,c⟩:=VV;unfold keyOf
 rw[ai']
 simp only
 rw[d,a6H,c]
 simp[Program.keyLits,E9,EP,NV,b,a,kl,kb,Value.cells]
theorem wf_i64{n:Int}(h:(Lit.int .i64 n).wf=true): -9223372036854775808<=n/\n<=9223372036854775807:=uH
theorem rO{l:Lit}(h:keyOf ah.prog 113 v=some l):∃p,xx p/\v=E9 p/\l=kl p:=by
 obtain⟨n,s⟩:=VV;have f:=h;unfold keyOf at h
 rw[ai',s]at h
 simp only at h
 split at h
 ·rename_i i
  rw[afQ]at i
  have d:=i.2;unfold Value.formed at d
  rw[ai']at d
  cases v with
  |agg j=>
   have r:j.size=2:=by rw[EP]at d;exact agm d
   obtain⟨o⟩:=j
   match o,r with
   |[a,b],_=>
    have e:∃p:Int×Int,xx p/\a=.int .i64 p.1/\b=.int .i64 p.2:=by
     simp only[Program.keyLits,ai']at h;simp only[Value.cells,ah6,List.mapM_nil,NV,EP,Qu3,List.drop_zero,List.drop_succ_cons,List.take_succ_cons,List.take_zero]at h
     have u:∃c,a=.int .i64 c/\(Lit.int .i64 c).wf=true:=by
      cases a with
      |int q c=>grind
      |_=>simp at h
     obtain⟨c,rfl,m⟩:=u
     have t:∃n2,b=.int .i64 n2/\(Lit.int .i64 n2).wf=true:=by
      cases b with
      |int q n2=>
       by_cases y:q=.i64/\(Lit.int .i64 n2).wf=true<;>simp_all
      |_=>simp at h
     obtain⟨n2,rfl,k⟩:=t
     exact⟨(c,n2),⟨wf_i64 m,wf_i64 k⟩,rfl,rfl⟩
    obtain⟨p,g,rfl,rfl⟩:=e;have x:=vD g
    rw[show(Value.agg #[.int .i64 p.1,.int .i64 p.2])=E9 p from rfl]at f
    rw[x]at f
    exact⟨p,g,rfl,(agf f).symm⟩
  |_=>simp at d
 ·cases h
theorem Y8{q:Int×Int}(c:xx p)(b:xx q)(h:kb p=kb q):p=q:=by
 have a:=vD c;have d:=vD b;have e:kl p=kl q:=by unfold kl;rw[h]
 rw[e]at a
 have:=y9.inj a d;unfold E9 at this
 grind
theorem a6J{q:Int×Int}(b:xx p)(a:xx q)(h:kl p=kl q):p=q:=Y8 b a (by unfold kl at h;injection h)
def RE(v:Value):Option (DataW Value×List MemPlace):=
 match v with
 | .agg a=>match a.toList with
  |[.int .i64 _,.int .i64 _,.string _]=>some (.held (.agg a),[])
  |_=>none
 |_=>none
theorem acU(e:aX):RE (eQ e)=some (.held (eQ e),[]):=rfl
theorem a6K{y:DataW Value×List MemPlace}(h:RE v=some y):∃e:aX,v=eQ e/\y=(.held v,[]):=by
 unfold RE at h;cases v<;>simp only[reduceCtorEq]at h
 rename_i c
 split at h
 ·rename_i a l s b
  cases h;refine⟨⟨a,l,s⟩,?_,rfl⟩;unfold eQ
  rw[<-b]
 ·cases h
theorem Y9{a b:aX}(h:eQ a=eQ b):a=b:=by
 obtain⟨a1,a2,a3⟩:=a
 simp_all[eQ]
def vY(D:DataW Value)(l:List aX):Prop:=∀p,xx p->∀a,D.atKey (kl p) a=match nI p l with|some e=>.held (eQ e)|none=>a
theorem vY.has{D:DataW Value}{l:List aX}(h:vY D l){p:Int×Int}(a:xx p):Maps.has D (kl p)=(nI p l).isSome:=by
 cases b:nI p l with
 |none=>exact Maps.has_false_of_atKey (λz=>by rw[h p a z,b])
 |some f=>exact Maps.has_true_of_atKey (y:=.held (eQ f)) (λz=>by rw[h p a z,b])
theorem abl(p:Int×Int):WideAt.IsKeyLit (kl p):=trivial
theorem vY.empty:vY (.map []) []:=λp _ a=>by simp[nI,DataW.atKey]
theorem vY.put{D:DataW Value}{l:List aX}(h:vY D l)(g:Maps.IsMap D)(d:uE l)(e:aX)(f:xx (ib e)):vY (D.put (kl (ib e)) (.held (eQ e))) (nk e l):=by
 intro p b c
 rw[YR d]
 by_cases a:p=ib e
 ·rw[afN a,a,Maps.atKey_put_same g (abl _)]
 ·rw[afJ a,Maps.atKey_put_other (λi=>a (a6J b f i)),h p b c]
theorem vY.del{D:DataW Value}{l:List aX}(h:vY D l)(d:uE l)(q:Int×Int)(c:xx q):vY (D.del (kl q)) (KN q l):=by
 intro p a b
 rw[a6s d]
 by_cases e:p=q
 ·rw[afN e,e,Maps.atKey_del_same]
 ·rw[afJ e,Maps.atKey_del_other (λf=>e (a6J a c f)),h p a b]
theorem vY.perm{D:DataW Value}{l:List aX}(h:vY D l)(o:uE l)(E:∀e∈l,ve (ib e)){f:List ((Int×Int)×aX)}(r:(f.map λp=>kb p.1).Nodup)(C:∀x,x∈(f.map λp=>kb p.1)↔Maps.has D (.string x)=true)(y:∀p∈f,xx p.1)(B:∀p∈f,∀A,D.atKey (kl p.1) A=.held (eQ p.2)):
  (f.map Prod.snd).Perm l:=by
 have c:∀p∈f,nI p.1 l=some p.2:=λp g=>by
  have m:=h p.1 (y p g);have k:=B p g;cases t:nI p.1 l with
  |none=>
   have a1:=m (.lit (.bool true))
   rw[t]at a1
   rw[k]at a1
   cases a1
  |some e=>
   have a1:=m (.lit (.bool true))
   rw[t,k]at a1
   simp only[DataW.held.injEq]at a1
   rw[Y9 a1]
 have u:∀p∈f,ib p.2=p.1/\p.2∈l:=λp g=>⟨(lF (c p g)).2,(lF (c p g)).1⟩
 have q:(f.map Prod.snd).Nodup:=by
  unfold List.Nodup at r |-
  rw[List.pairwise_map]at r |-
  exact List.Pairwise.imp_of_mem (λ{a b}G F d e=>d (by grind)) r
 have s:l.Nodup:=List.Pairwise.imp (λ{a b}d e=>by subst e;rw[ni,El]at d;cases d) o;refine(List.perm_ext_iff_of_nodup q s).2 λe=>⟨λj=> ?_,λj=> ?_⟩
 ·grind
 ·have g:=(E e j).i64
  have m:Maps.has D (kl (ib e))=true:=by rw[h.has g,EM o j];rfl
  obtain⟨p,i,n⟩:=agG.1 ((C (kb (ib e))).2 m);have k:=Y8 (y p i) g n;have z:=c p i
  rw[k,EM o j]at z
  exact agG.2 ⟨p,i,(agf z).symm⟩
end Rl
open Tryz
open Rl
theorem SE:(ah.prog.info? 167).map (λi=>(i.zero,i.size,i.bytes))=some (some (.agg #[.int .i64 0,.int .i64 0,.string ⟨#[]⟩]),3,32):=by kernel_rfl
theorem VW(t)(w):
  ai3 124 #[.string (t.extract 2 4)] w λe a=>e=.returned (.int .i64 (M5 t:Int))/\a=w:=by
 refine(kF _ w (by simp<;>omega)).mono ?_;rintro e a ⟨c,b⟩
 exact⟨by rw[c];unfold M5;rw[EB],b⟩
theorem VX(t)(h:jq 2 t=false):¬(4<=t.size/\4+M5 t<=t.size):=by unfold jq at h;rw[agA]at h;exact h
theorem Za(t)(h:jq 2 t=true):4<=t.size/\4+M5 t<=t.size:=by unfold jq at h;rw[agv]at h;exact h
theorem a0i{a b:Bool}(h:b=a):Ending.returned (.tuple #[v,.bool a])=.returned (.tuple #[v,.bool b]):=by rw[h]
theorem abm(n:Nat):(n==3)=((n:Int)==3):=by grind
theorem OU(s)(w)(hs:s.size<=1048576):
  ai3 108 #[.string s] w λe w'=>∃v,e=.returned (.tuple #[v,.bool (E5 s)])/\ah' w w'/\(E5 s=true->w'.ownsRow w.heap.size 167 3 v (Sa s).length (dN (Sa s))/\(Sa s).length<=s.size):=by
 obtain⟨i0,hi,hz0,hz1,hz2⟩:=ahC SE;go_enter alM,ntmps108;go_wp2
 go_loopw [0,4,5,6] (λx l c p wr=>∃(t:ByteArray)(y:Int)(C:List At)(E:Value),E=l/\x=.string t/\p=.int .i64 y/\c=.int .i64 (eY C)/\ -1<=y/\y<256/\t.size+4*C.length<=s.size/\yN s t y C/\wr.ownsRow w.heap.size 167 3 E C.length (dN C)/\ah' w wr) (λx _ _ _ _=>pU x)
 case atStart=>exact⟨s,-1,[],_,rfl,rfl,rfl,rfl,by omega,by omega,by simp,Hu s,a9X _ _ _ _,a0n _ _⟩
 case round=>
  obtain⟨t,y,C,E,rfl,rfl,rfl,rfl,hl0,hl1,hsz,X,F,D⟩:=hrel;have HR:=hide X;clear X;have htm:t.size<=maxLen:=aB
  have hnl:=Vm C;have Y:=λw=>VW t w
  by_cases J:t.size=0
  ·have M:t.toList.isEmpty=true:=by rw[dF];simp[J]
   have HE:=hide (M9 HR.out J);clear J;go_wp2;go_ret2;refine⟨E,?_,D,λ_=> ?_⟩
   ·exact a0i (by rw[HE.out.1,abm])
   ·rw[HE.out.2];exact⟨F,by omega⟩
  ·have M:t.toList.isEmpty=false:=by rw[dF];simp[J]
   have H0:=hide J;clear J;cases hw:jq 2 t with
   |false=>
    have HB:=hide (sG HR.out H0.out (wP t y hw));have hwf:=VX t hw;have hlC:M5 t<65536:=EC 2 t (by omega);generalize M5 t=n at*
    by_cases h4:t.size<4
    ·clear hwf
     go_wp2;go_ret2;refine⟨.slice none 0 0,?_,D,λh=> ?_⟩
     ·rw[HB.out];rfl
     ·exact lS
    ·have h5:t.size<4+n:=by omega
     clear hwf;go_wp2_with (go_at_call 124;refine(Y _).aH ?_);go_ret2;refine⟨.slice none 0 0,?_,D,λh=> ?_⟩
     ·rw[HB.out];rfl
     ·exact lS
   |true=>
    obtain⟨hw4,hwn⟩:=Za t hw;have A:=Na t hw;have K:=dD t 0 (by omega);have H:=dD t 1 (by omega);have hl0':=gG t.data.toList 0;have afh:=gG t.data.toList 1;have hx0:(0:Int)<(t.size:Int):=by omega
    have hx1:(1:Int)<(t.size:Int):=by omega
    have hlC:M5 t<65536:=EC 2 t (by omega);have hvs:(t.extract 4 (4+M5 t)).size<=maxLen:=by rw[afU];exact aB
    have z:Hid (gy t=⟨at8 t.data.toList 0,at8 t.data.toList 1,t.extract 4 (4+M5 t)⟩):=rfl;have u:=hide (sG HR.out H0.out);have W:=hide (xS t y);have G:=hide (DZ t y);have U:=hide (λh2 h3=>J6 HR.out (M7 t y hw h2 h3));have HE:Hid (BL t=t.extract (4+M5 t) t.size):=rfl
    rw[HE.out]at A U
    rw[z.out]at W G U
    simp only at W G U;clear z HE hw H0;generalize at8 t.data.toList 0=O at*;generalize at8 t.data.toList 1=b1 at*;generalize M5 t=n at*;go_wp2_with (go_at_call 124;refine(Y _).aH ?_)
    go_region
    clear Y K H hx0 hx1 hwn hw4;have a:=λw=>Qh b1 w
    cases R:mV b1 with
    |true=>
     have I:=λw=>Qk b1 (t.extract 4 (4+n)) w hvs R
     have hg:=aqC b1 R
     rw[Nn _ _ _ R]at G U
     clear R;generalize ed b1=g at*;generalize jf b1 (t.extract 4 (4+n))=r at*;have hg0:0<=g:=by omega
     clear hg
     by_cases V:(O:Int)=g
     ·have eb:((O:Int) != g)=false:=by rw[agP];exact V
      rw[afL V]at G U
      clear V;cases r with
      |false=>
       have HB:=hide (u.out (G.out rfl));clear u G U W;go_wp2_with (first|(go_at_call 166;refine(a _).aH ?_)|(go_at_call 167;refine(I _).aH ?_));exact lZ
      |true=>
       by_cases Q:(b1:Int)<=y
       ·have HB:=hide (u.out (W.out Q))
        clear u G U W;go_wp2_with (first|(go_at_call 166;refine(a _).aH ?_)|(go_at_call 167;refine(I _).aH ?_));exact lZ
       ·have HG:=hide (U.out (by omega) rfl)
        clear u G U W
        by_cases d:1<=b1/\b1<=3
        ·have HK:=hide d
         obtain⟨k1,k3⟩:=d;go_wp2_with (first|(go_at_call 166;refine(a _).aH ?_)|(go_at_call 167;refine(I _).aH ?_)|(at_builtin;refine af4 _ rfl _ _ 161 rfl w.heap.size 167 i0 (.agg #[.int .i64 0,.int .i64 0,.string ⟨#[]⟩]) 3 32 aj4 hi hz0 hz1 hz2 rfl (by decide) _ _ _ rfl ((F.alloc _).alloc _).drew ⟨wr.heap.size+1,0,none⟩ 1 1 [.int .i64 (O:Int),.int .i64 (b1:Int),.string (t.extract 4 (4+n))] rfl rfl (yG _ _ _ _) (a1q _ _ _) aB (by omega) (by have:=D.size;simp;omega) ?_;intro v' w4 f b _));refine⟨⟨t.extract (4+n) t.size,b1,C++[⟨O,b1,t.extract 4 (4+n)⟩],v',rfl,rfl,rfl,Qe _ _ _ _ HK.out,by omega,by omega,Cv,HG.out,?_,yH D D.size F b⟩,gB⟩
         rw[afE,nE]
         exact f
        ·have HK:=hide d
         have k2:b1<1\/3<b1:=by omega
         clear d;obtain k2|k2:=k2
         all_goals
          go_wp2_with (first|(go_at_call 166;refine(a _).aH ?_)|(go_at_call 167;refine(I _).aH ?_)|(at_builtin;refine af4 _ rfl _ _ 161 rfl w.heap.size 167 i0 (.agg #[.int .i64 0,.int .i64 0,.string ⟨#[]⟩]) 3 32 aj4 hi hz0 hz1 hz2 rfl (by decide) _ _ _ rfl ((F.alloc _).alloc _).drew ⟨wr.heap.size+1,0,none⟩ 1 1 [.int .i64 (O:Int),.int .i64 (b1:Int),.string (t.extract 4 (4+n))] rfl rfl (yG _ _ _ _) (a1q _ _ _) aB (by omega) (by have:=D.size;simp;omega) ?_;intro v' w4 f b _));refine⟨⟨t.extract (4+n) t.size,b1,C++[⟨O,b1,t.extract 4 (4+n)⟩],v',rfl,rfl,rfl,Vn _ _ _ _ HK.out,by omega,by omega,Cv,HG.out,?_,yH D D.size F b⟩,gB⟩
          rw[afE,nE]
          exact f
     ·have eb:((O:Int) != g)=true:=by rw[agF];exact V
      have HB:=hide (u.out (G.out (by simp[V])));clear V u G U W I;go_wp2_with (first|(go_at_call 166;refine(a _).aH ?_));exact lZ
    |false=>
     have hg:=vQ b1 R
     rw[hg]at a
     rw[H9 _ _ _ R]at G U
     clear R hg
     by_cases Q:(b1:Int)<=y
     ·have HB:=hide (u.out (W.out Q))
      clear u G U W;go_wp2_with (first|(go_at_call 166;refine(a _).aH ?_));exact lZ
     ·by_cases L:(O:Int)=192
      ·have HG:=hide (U.out (by omega) (by simp[L]))
       have Z:((O:Int) != 192)=false:=by rw[agP];exact L
       clear L u G U W
       exact aiy
      ·by_cases N:(O:Int)=224
       ·have HG:=hide (U.out (by omega) (by simp[N]))
        have Z:((O:Int) != 192)=true:=by rw[agF];exact L
        have e224:((O:Int) != 224)=false:=by rw[agP];exact N
        clear L N u G U W
        exact aiy
       ·have HB:=hide (u.out (G.out (by simp;omega)))
        have Z:((O:Int) != 192)=true:=by rw[agF];exact L
        have e224:((O:Int) != 224)=true:=by rw[agF];exact N
        clear L N u G U W;go_wp2_with (first|(go_at_call 166;refine(a _).aH ?_));exact lZ
theorem gJ{a b:World}(h:ah' w a)(c:ah' a b):ah' w b:=af h c h.size
theorem aL(w:World)(o:Obj):ah' w (w.alloc o):=(a0n _ _).alloc (afA _) _
theorem a3e(w:World)(a n:Int)(T:TypeId):bz (w.alloc (.cells #[.int .i64 a,.int .i64 n] T)) (.slice (some ⟨w.heap.size,0,none⟩) 1 1) [(a,n)].length 2 (bO [(a,n)]):=by refine⟨rfl,.inr ⟨w.heap.size,0,1,rfl,by simp,by simp,?_⟩⟩;simp[cu,bO,nR,agj]
theorem VY(a n:Int)(s:ByteArray)(w:World)(k:s.size<=1048576):
  ai9 243 #[.agg #[.int .i64 a,.int .i64 n,.string s]] w (.bool (E5 s&&qW a n)):=by
 have c:=λw=>Ic s w k
 have g:=λv w h=>KL v [(a,n)] w (by simp) h
 have d:H6 [(a,n)]=qW a n:=by simp[H6]
 rw[d]at g
 cases i:E5 s with
 |false=>
  rw[i]at c
  go_enter akA,ntmps243;go_wp2_with fail;refine(c _).mono ?_;rintro e j ⟨v,rfl,b,_⟩;go_wp2;go_ret
  exact⟨rfl,gJ (aL _ _) b⟩
 |true=>
  rw[i]at c
  go_enter akA,ntmps243;go_wp2_with fail;refine(c _).mono ?_;rintro e j ⟨v,rfl,b,_⟩;obtain⟨r,q,o,_,_,_,m⟩:=(lU w (.int .i64 a) (.int .i64 n) (.string s) 80).later b;go_wp2_with fail;refine(g _ _ (a3e _ _ _ _)).ai ?_;intro l f;go_wp2;go_ret
  exact⟨by simp,gJ (gJ (gJ (aL _ _) b) (aL _ _)) f⟩
theorem a3f(w:World)(a b c h g f:Value)(T i:TypeId):Di ((w.alloc (.cells #[a,b,c] T)).alloc (.cells #[h,g,f] i)).drew w.heap.size a b c/\Di ((w.alloc (.cells #[a,b,c] T)).alloc (.cells #[h,g,f] i)).drew (w.heap.size+1) h g f/\ah' w ((w.alloc (.cells #[a,b,c] T)).alloc (.cells #[h,g,f] i)).drew:=by
 have e:=lU w a b c T;have d:=lU (w.alloc (.cells #[a,b,c] T)) h g f i;have j:(w.alloc (.cells #[a,b,c] T)).heap.size=w.heap.size+1:=by simp
 rw[j]at d
 exact Cx
def OV(b:ByteArray):Value:=if wm b=true then .agg #[.int .i64 (nN b:Int),.int .i64 (qD b:Int),.string (mX b)]else .agg #[.int .i64 0,.int .i64 0,.string ⟨#[]⟩]
theorem FK(b:ByteArray)(w:World)(hs:b.size<=1048576):
  ai9 199 #[.string b] w (.tuple #[OV b,.bool (wm b)]):=by
 by_cases W:b.size<5
 ·have J:wm b=false:=by unfold wm;rw[afG (by omega)];rfl
  have h1:OV b=.agg #[.int .i64 0,.int .i64 0,.string ⟨#[]⟩]:=by unfold OV;rw[afJ (by simp[J])]
  rw[J,h1]
  have Z:(b.size:Int)<5:=by omega
  go_enter akr,ntmps199;go_wp2;exact abt (v:=.tuple #[.agg #[.int .i64 0,.int .i64 0,.string ⟨#[]⟩],.bool false]) (by simp[results,results199,go_sem]) rfl ⟨rfl,aL _ _⟩
 ·have Z:¬(b.size:Int)<5:=by omega
  have k5:(5:Int)<=(b.size:Int):=by omega
  have k1:(1:Int)<=(b.size:Int):=by omega
  have r1:=λw=>qB (b.extract 1 5) w aQ
  have r2:=λw=>qB (b.extract 0 1) w aQ
  rw[a2D b (by omega)]at r2
  rw[<-Ed b]at r1
  have Y:=λw=>VY (nN b) (qD b) (mX b) w (by unfold mX;exact aQ)
  go_enter akr,ntmps199
  go_upto_region 3 with fail
  go_cut [4] (λO L=>O=.pointer (some ⟨w.heap.size+1,0,none⟩)/\Di L w.heap.size (.int .i64 0) (.int .i64 0) (.string ⟨#[]⟩)/\Di L (w.heap.size+1) (.int .i64 (nN b)) (.int .i64 (qD b)) (.string (b.extract 5 b.size))/\ah' w L)
  case first=>
   go_region_with (first|(go_at_call_of 242 (b.extract 1 5);refine(r1 _).aH ?_)|(go_at_call_of 242 (b.extract 0 1);refine(r2 _).aH ?_))
   all_goals
    go_wp2_with fail
    go_meet
    case rel=>exact⟨rfl,a3f _ _ _ _ _ _ _ _ _⟩
  case rest=>
   obtain⟨rfl,b1,b2,B⟩:=hcut;have M:b.extract 5 b.size=mX b:=rfl
   rw[M]at b2
   have y:wm b=(E5 (mX b)&&qW (nN b) (qD b)):=by unfold wm;rw[afL (by omega),agQ]
   rw[<-y]at Y
   have hf:OV b=if wm b=true then .agg #[.int .i64 (nN b:Int),.int .i64 (qD b:Int),.string (mX b)]else .agg #[.int .i64 0,.int .i64 0,.string ⟨#[]⟩]:=rfl
   have u:=hf;have N:=b2;obtain⟨V,U,R,_,_,_,Q⟩:=N;cases I:wm b with
   |false=>
    rw[I]at Y
    have F:Hid (Ending.returned (.tuple #[.agg #[.int .i64 0,.int .i64 0,.string ⟨#[]⟩],.bool false])=Ending.returned (.tuple #[OV b,.bool (wm b)])):=by rw[u,afJ (by simp[I]),I];rfl
    go_wp2_with fail;refine(Y _).ai ?_;intro w1 H;obtain⟨q0,q1,q2,f0,f1,f2,ql⟩:=b1.later H;have d:=gJ B H;go_wp2;exact abt (v:=.tuple #[.agg #[.int .i64 0,.int .i64 0,.string ⟨#[]⟩],.bool false]) (by simp[results,results199,go_sem,q0,q1,q2]) rfl ⟨F.out,cK d (afA _) _ _ _⟩
   |true=>
    rw[I]at Y
    have F:Hid (Ending.returned (.tuple #[.agg #[.int .i64 (nN b:Int),.int .i64 (qD b:Int),.string (mX b)],.bool true])=Ending.returned (.tuple #[OV b,.bool (wm b)])):=by rw[u,afN I,I];rfl
    go_wp2_with fail;refine(Y _).ai ?_;intro w1 H;obtain⟨q0,q1,q2,f0,f1,f2,ql⟩:=b1.later H;obtain⟨d0,d1,d2,_,_,_,E⟩:=b2.later H;have d:=gJ B H;go_wp2;exact abt (v:=.tuple #[.agg #[.int .i64 (nN b:Int),.int .i64 (qD b:Int),.string (mX b)],.bool true]) (by simp[results,results199,go_sem,q0,q1,q2]) rfl ⟨F.out,cK d (afA _) _ _ _⟩
structure KO(w:World)(n:Nat)(a b:Value):Prop where
 c0:w.cell? ⟨n,0,none⟩=some a
 c1:w.cell? ⟨n,1,none⟩=some b
 lt:n<w.heap.size
theorem KO.later{w':World}{n:Nat}{a b:Value}(h:KO w n a b)(c:ah' w w'):KO w' n a b:=
 ⟨(c.cell (p:=⟨n,0,none⟩) h.lt).trans h.c0,(c.cell (p:=⟨n,1,none⟩) h.lt).trans h.c1,afB h.lt c.size⟩
structure xY(w:World)(n:Nat)(a b c d:Value):Prop where
 c0:w.cell? ⟨n,0,none⟩=some a
 c1:w.cell? ⟨n,1,none⟩=some b
 c2:w.cell? ⟨n,2,none⟩=some c
 c3:w.cell? ⟨n,3,none⟩=some d
 f0:w.frozen? ⟨n,0,none⟩=false
 f1:w.frozen? ⟨n,1,none⟩=false
 f2:w.frozen? ⟨n,2,none⟩=false
 f3:w.frozen? ⟨n,3,none⟩=false
 lt:n<w.heap.size
theorem fJ(w:World)(a b c d:Value)(T:TypeId):xY (w.alloc (.cells #[a,b,c,d] T)) w.heap.size a b c d:=
 ⟨by simp,by simp,by simp,by simp,by simp,by simp,by simp,by simp,by simp⟩
theorem xY.later{w':World}{n:Nat}{a b c d:Value}(h:xY w n a b c d)(e:ah' w w'):xY w' n a b c d:=
 ⟨(e.cell (p:=⟨n,0,none⟩) h.lt).trans h.c0,(e.cell (p:=⟨n,1,none⟩) h.lt).trans h.c1,(e.cell (p:=⟨n,2,none⟩) h.lt).trans h.c2,(e.cell (p:=⟨n,3,none⟩) h.lt).trans h.c3,(e.frozen (p:=⟨n,0,none⟩) h.lt).trans h.f0,(e.frozen (p:=⟨n,1,none⟩) h.lt).trans h.f1,(e.frozen (p:=⟨n,2,none⟩) h.lt).trans h.f2,(e.frozen (p:=⟨n,3,none⟩) h.lt).trans h.f3,afB h.lt e.size⟩
theorem a3g{a b:Bool}(h:a=b):Ending.returned (.bool a)=.returned (.bool b):=by rw[h]
theorem NW(k p:Nat)(b:ByteArray)(h:6<=p):mY k p b=false:=by grind[mY]
theorem QG(p:Nat)(b:ByteArray)(h:¬6<=p):mY 1 p b=decide ((upd b).err=0):=by grind[mY]
theorem VZ(p:Nat)(b:ByteArray)(h:¬6<=p):mY 2 p b=decide (b.size=0):=by grind[mY]
theorem NY(p:Nat)(b:ByteArray)(h:¬6<=p):mY 3 p b=decide (b.size=0):=by grind[mY]
theorem wU(p:Nat)(b:ByteArray)(h:¬6<=p):mY 4 p b=wm b:=by grind[mY]
theorem NZ(k p:Nat)(b:ByteArray)(h:¬6<=p)(a:k=5\/k=6):mY k p b=decide (p=0/\b.size=0):=by grind[mY]
theorem za(k p:Nat)(b:ByteArray)(h:¬6<=p)(a:k<1\/6<k):mY k p b=false:=by grind[mY]
def SF(b:ByteArray):Value:=if b.size<5 then .agg #[.int .i64 0,.int .i64 0,.string ⟨#[]⟩]else .agg #[.int .i64 (nN b:Int),.int .i64 (qD b:Int),.string (mX b)]
theorem a9c(w:World)(a b c g f:Value)(T h:TypeId):Di ((w.alloc (.cells #[a,b,c] T)).alloc (.cells #[g,f] h)).drew w.heap.size a b c/\KO ((w.alloc (.cells #[a,b,c] T)).alloc (.cells #[g,f] h)).drew (w.heap.size+1) g f/\ah' w ((w.alloc (.cells #[a,b,c] T)).alloc (.cells #[g,f] h)).drew:=by
 have e:=lU w a b c T;have d:KO ((w.alloc (.cells #[a,b,c] T)).alloc (.cells #[g,f] h)) (w.heap.size+1) g f:=⟨by simp,by simp,by simp⟩
 exact Cx
theorem QH(b:ByteArray)(w:World)(hs:b.size<=1048576):
  ai9 155 #[.string b] w (.tuple #[SF b,.bool (wm b)]):=by
 by_cases Y:b.size<5
 ·have J:wm b=false:=by unfold wm;rw[afG (by omega)];rfl
  have h1:SF b=.agg #[.int .i64 0,.int .i64 0,.string ⟨#[]⟩]:=by unfold SF;rw[afN Y]
  rw[J,h1]
  have Z:(b.size:Int)<5:=by omega
  go_enter ajn,ntmps155;go_wp2;exact abt (v:=.tuple #[.agg #[.int .i64 0,.int .i64 0,.string ⟨#[]⟩],.bool false]) (by simp[results,results155,go_sem]) rfl ⟨rfl,aL _ _⟩
 ·have Z:¬(b.size:Int)<5:=by omega
  have k5:(5:Int)<=(b.size:Int):=by omega
  have k0:0<b.size:=by omega
  have r1:=λw=>kF (b.extract 1 5) w aQ
  rw[<-Ed b]at r1
  have hl:(b[0].toNat:Int)=(qD b:Int):=dD b 0 k0;have M:=λw=>OU (mX b) w (by unfold mX;exact aQ)
  have X:=λw=>Sj (nN b) (qD b) w
  have y:wm b=(E5 (mX b)&&qW (nN b) (qD b)):=by unfold wm;rw[afL (by omega),agQ]
  have h1:SF b=.agg #[.int .i64 (nN b:Int),.int .i64 (qD b:Int),.string (mX b)]:=by unfold SF;rw[afJ Y]
  rw[y,h1]
  have U:Hid (b.extract 5 b.size=mX b):=rfl;have HB:Hid ((qD b:Int)<256):=by have:=gG b.data.toList 0;unfold qD Hid;omega
  generalize mX b=T at*;generalize nN b=A at*;generalize qD b=L at*;generalize E5 T=c at*;generalize qW A L=p at*;cases c with
  |false=>
   go_enter ajn,ntmps155
   go_upto_region 3 with fail
   go_cut [4] (λF u=>F=.pointer (some ⟨w.heap.size+1,0,none⟩)/\Di u w.heap.size (.int .i64 0) (.int .i64 0) (.string ⟨#[]⟩)/\KO u (w.heap.size+1) (.int .i64 A) (.int .i64 L)/\ah' w u)
   case first=>
    have R:=HB.out;have Q:IntKind.i64.wrap (L:Int)=(L:Int):=aW
    exact aqW
   case rest=>
    obtain⟨rfl,b1,b2,B⟩:=hcut;go_wp2_with fail
    rw[U.out]
    refine(M _).mono ?_;rintro e w1 ⟨v1,rfl,H,_⟩;have d:=gJ B H;have c1:=b1.later H;obtain⟨O,N,I⟩:=b2.later H;go_wp2_with fail;refine(X _).ai ?_;intro w2 V;have W:=gJ d V;obtain⟨q0,q1,q2,f0,f1,f2,ql⟩:=c1.later V;obtain⟨d0,d1,E⟩:=(KO.later ⟨O,N,I⟩ V:KO w2 _ _ _);go_wp2
    go_region
    all_goals
     go_wp2
     rw[U.out]
     exact abt (v:=.tuple #[.agg #[.int .i64 (A:Int),.int .i64 (L:Int),.string T],.bool false]) (by simp[results,results155,go_sem,q0,q1,q2]) rfl ⟨rfl,cK W.drew (afA _) _ _ _⟩
  |true=>
   go_enter ajn,ntmps155
   go_upto_region 3 with fail
   go_cut [4] (λF u=>F=.pointer (some ⟨w.heap.size+1,0,none⟩)/\Di u w.heap.size (.int .i64 0) (.int .i64 0) (.string ⟨#[]⟩)/\KO u (w.heap.size+1) (.int .i64 A) (.int .i64 L)/\ah' w u)
   case first=>
    have R:=HB.out;have Q:IntKind.i64.wrap (L:Int)=(L:Int):=aW
    exact aqW
   case rest=>
    obtain⟨rfl,b1,b2,B⟩:=hcut;go_wp2_with fail
    rw[U.out]
    refine(M _).mono ?_;rintro e w1 ⟨v1,rfl,H,_⟩;have d:=gJ B H;have c1:=b1.later H;obtain⟨O,N,I⟩:=b2.later H;go_wp2_with fail;refine(X _).ai ?_;intro w2 V;have W:=gJ d V;obtain⟨q0,q1,q2,f0,f1,f2,ql⟩:=c1.later V;obtain⟨d0,d1,E⟩:=(KO.later ⟨O,N,I⟩ V:KO w2 _ _ _);go_wp2
    go_region
    all_goals
     go_wp2
     rw[U.out]
     exact abt (v:=.tuple #[.agg #[.int .i64 (A:Int),.int .i64 (L:Int),.string T],.bool p]) (by simp[results,results155,go_sem,q0,q1,q2]) rfl ⟨by simp,cK W.drew (afA _) _ _ _⟩
theorem a3h(b:ByteArray):∃(A L:Int)(S:ByteArray),OV b=.agg #[.int .i64 A,.int .i64 L,.string S]:=by unfold OV;split<;>exact⟨_,_,_,rfl⟩
theorem a3i(b:ByteArray):∃(A L:Int)(S:ByteArray),SF b=.agg #[.int .i64 A,.int .i64 L,.string S]:=by unfold SF;split<;>exact⟨_,_,_,rfl⟩
end Go.Proofs.Zq
