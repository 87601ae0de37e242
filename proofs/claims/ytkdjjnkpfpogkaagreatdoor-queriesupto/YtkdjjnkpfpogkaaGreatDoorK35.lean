import Derived.Test.YtkdjjnkpfpogkaaGreatDoorK34
set_option maxHeartbeats 8000000
set_option linter.all false
set_option maxRecDepth 20000
namespace Go
theorem aic{P:Prop}(h:P:=by go_enter aiM,ntmps157;go_wp2_with (first|(go_at_call 134;refine(a _).ai ?_;intro w1 hb1;obtain⟨⟨q0,q1,q2,f0,f1,f2,ql⟩,hbel⟩:=fE _ _ _ _ _ _ hb1));refine abt (v:=.tuple #[.agg #[.slice none 0 0,.slice none 0 0,.string ⟨#[]⟩],.int .i64 2]) (by simp[results,results157,go_sem,q0,q1,q2]) rfl ⟨rfl,?_⟩;exact cK hbel (afA _) _ _ _):P:=h
theorem aiv{P:Prop}(h:P:=by unfold il;go_enter aiM,ntmps157;go_wp2_with (first|(go_at_call 134;refine(j _).ai ?_;intro w1 H;obtain⟨r,D⟩:=fE _ _ _ _ _ _ H;have hsz:=r.lt)|(go_at_call 210;refine(n _).ai ?_;intro w2 V;have p:=r.later V;have d:=af D V D.size)|(go_at_call_of 211 (G);refine(I _).mono ?_;rintro e L ⟨a1,N,c1,rfl,q⟩;have i:=af d q d.size;have u:=p.later q)|(go_at_call_of 211 (C);refine(hr2 _).mono ?_;rintro e w4 ⟨a2,n2,c2,rfl,X⟩;have c:=af i X i.size;have z:=u.later X)|(go_at_call 212;refine(A _).ai ?_;rintro w5 ⟨W,l,sn,sp,en,y,x⟩;have o:=af c W c.size;obtain⟨q0,q1,q2,f0,f1,f2,ql⟩:=z.later W;have B:=y.ends));refine abt (v:=.tuple #[.agg #[.slice none 0 0,.slice none 0 0,.string ⟨#[]⟩],.int .i64 3]) (by simp[results,results157,go_sem,q0,q1,q2]) rfl ⟨rfl,?_⟩;exact cK o (afA _) _ _ _):P:=h
def aid{P:Prop}(h:P:=by simp[results,results157,go_sem,q0,q1,q2]):P:=h
def pz{P:Prop}(h:P:=by
 go_ret
 exact⟨rfl,d.setCell (p:=⟨w.heap.size,768,none⟩) (afA _) _,l,sn,true,en,HK.out.Qr,HE.out⟩):P:=h
def aqA{P:Prop}(h:P:=by
 obtain⟨rfl,rfl,d,q⟩:=hcut;obtain⟨sn',S,H,en',q1,q2,q3⟩:=G.out _ d;go_wp2_with fail
 exact⟨⟨_,sn',S,H,en',rfl,c,q1,q2,q3,q⟩,A⟩):P:=h
end Go
namespace Go.Proofs.Zq
open Tryz
open Go.RowKit
open Rl
variable{w:World}{b f k:Nat}{sn:Nat->Bool}{sp en:Bool}{s t v:ByteArray}
theorem ab5:ah.zeroCells269=Array.replicate 256 (.int .i64 0)++Array.replicate 256 (.string ⟨#[]⟩)++Array.replicate 256 (.bool false)++#[.bool false,.bool false]:=by kernel_rfl
theorem KeptAt.congr{d fl'}{c vl'}(h:KeptAt w b d c sn sp en)(g:∀i,i<256->fl' i=d i)(e:∀i,i<256->vl' i=c i):KeptAt w b fl' vl' sn sp en:=
 ⟨λi a=>by rw[g i a];exact h.flag i a,λi a=>by rw[e i a];exact h.val i a,h.seen,h.spoilt,h.ends,h.free,h.lt⟩
theorem a95(i)(a:i<256):(Array.replicate 256 (Value.int .i64 0)++Array.replicate 256 (.string ⟨#[]⟩)++Array.replicate 256 (.bool false)++#[.bool false,.bool false])[256+i]? =some (Value.string ⟨#[]⟩):=by simp_all[Array.getElem?_append_left,Array.getElem?_append_right]
theorem a6l(i)(a:i<256):(Array.replicate 256 (Value.int .i64 0)++Array.replicate 256 (.string ⟨#[]⟩)++Array.replicate 256 (.bool false)++#[.bool false,.bool false])[512+i]? =some (Value.bool false):=by rw[Array.getElem?_append_left (by simp;omega),Array.getElem?_append_right (by simp)];simp[a]
theorem YJ(w:World)(T):KeptAt (w.alloc (.cells ah.zeroCells269 T)) w.heap.size (λj=>if j<0 then-1 else 0) (λ_=>⟨#[]⟩) (λ_=>false) false false:=by
 rw[ab5]
 refine⟨λi a=> ?_,λi a=> ?_,λi a=> ?_,?_,?_,λo c=> ?_,by simp⟩
 ·simp[ah4,a]
 ·have h:=a95 i a
  simpa using h
 ·have h:=a6l i a
  simpa using h
 ·simp
 ·simp
 ·simp
def Eh(s t:ByteArray)(sn:Nat->Bool)(l:List At)(sp en:Bool):Prop:=(en=false/\qc s=kI t sn l sp)\/(en=true/\qc s=none)
theorem Qs(t)(z)(w)(c:z<=2):
  ai3 124 #[.string (t.extract 2 (2+z))] w λe a=>e=.returned (.int .i64 (uo z t:Int))/\a=w:=by
 grind[kF,afU,EB]
def Su(s:ByteArray)(l:List At)(sp en:Bool):Prop:=(en=false/\qc s=some (l,sp))\/(en=true/\qc s=none)
theorem yY{l}(h:Eh s t sn l sp en)(c:¬t.size=0)(a:KI t=false):Su s l true en:=by
 obtain⟨e,d⟩|h:=h
 ·constructor<;>grind[Ji]
 ·exact .inr h
theorem Sv{l}(h:Eh s t sn l sp en)(d:¬t.size=0)(a:KI t=true)(c:sn (fA t).kind=true):Eh s (KJ t) sn l sp en:=by
 obtain⟨g,e⟩|h:=h
 ·constructor<;>grind[D8]
 ·exact .inr h
theorem YK{l}{y}(h:Eh s t sn l sp en)(B:¬t.size=0)(A:KI t=true)(z:sn (fA t).kind=false)(d:∀a∈l,sn a.kind=true)(j:Taken y b (cO l) (jh l) sn sp en (fA t).kind (fA t).val (kP (fA t).flags (fA t).kind (fA t).val)):
  ∃r n q,Eh s (KJ t) (met sn (fA t).kind) r n q/\(∀a∈r,met sn (fA t).kind a.kind=true)/\KeptAt y b (cO r) (jh r) (met sn (fA t).kind) n q:=by
 have o:∀a∈l,a.kind≠(fA t).kind:=by
  intro a m e;have:=d a m
  rw[e,z]at this;simp at this
 have c:∀a∈l,met sn (fA t).kind a.kind=true:=λa m=>YA _ _ _ (d a m)
 cases p:kP (fA t).flags (fA t).kind (fA t).val with
 |keep g=>
  rw[p]at j
  refine⟨l++[⟨g,(fA t).kind,(fA t).val⟩],sp,en,?_,?_,?_⟩
  ·obtain⟨x,u⟩|h:=h
   ·constructor<;>grind[yP]
   ·exact .inr h
  ·intro a m
   obtain m|m:=agz.1 m<;>grind[D7]
  ·exact KeptAt.congr j (λi _=>by rw[Vt o];rfl) (λi _=>by rw[YB o];rfl)
 |pass=>
  rw[p]at j
  refine⟨l,sp,en,?_,c,j⟩;obtain⟨x,u⟩|h:=h
  ·constructor<;>grind[yQ]
  ·exact .inr h
 |Ia=>
  rw[p]at j
  refine⟨l,true,en,?_,c,j⟩;obtain⟨x,u⟩|h:=h
  ·constructor<;>grind[D9]
  ·exact .inr h
 |ends=>
  rw[p]at j
  refine⟨l,sp,true,?_,c,j⟩;obtain⟨x,u⟩|h:=h
  ·exact .inr ⟨rfl,u.trans (Gg B A z p)⟩
  ·exact .inr ⟨rfl,h.2⟩
def After(a:World)(b:Nat)(d:Nat->Int)(c:Nat->ByteArray)(sn:Nat->Bool)(sp en:Bool)(f k:Nat)(v:ByteArray):Prop:=
 (sn k=true/\KeptAt a b d c sn sp en)\/(sn k=false/\Taken a b d c sn sp en k v (kP f k v))
theorem YL(b f k)(v)(w)(m)(l)(sn)(sp en)(h:KeptAt w b m l sn sp en\/After w b m l sn sp en f k v)(C:f<256)(A:k<256)(B:v.size<=maxLen):
  ai3 252 #[.pointer (some ⟨b,0,none⟩),.int .i64 f,.int .i64 k,.string v] w λe c=>e=.returned (.tuple #[])/\Below b w c/\After c b m l sn sp en f k v:=by
 have z:sn k=true->KeptAt w b m l sn sp en->ai3 252 #[.pointer (some ⟨b,0,none⟩),.int .i64 f,.int .i64 k,.string v] w λe c=>e=.returned (.tuple #[])/\Below b w c/\After c b m l sn sp en f k v:=by
  intro i j;refine(NA b f k v w _ _ _ _ _ j A i).mono ?_;rintro e c ⟨p,y⟩
  rw[y]
  exact⟨p,a0n _ _,.inl ⟨i,j⟩⟩
 obtain j|⟨i,j⟩|⟨i,x⟩:=h
 ·cases i:sn k with
  |true=>grind
  |false=>
   refine(a2J b f k v w _ _ _ _ _ j C A B i).mono ?_;rintro e c ⟨p,D,x⟩
   exact⟨p,D,.inr ⟨i,x⟩⟩
 ·grind
 ·have d:∀q n o r,KeptAt w b q n (met sn k) o r->ai3 252 #[.pointer (some ⟨b,0,none⟩),.int .i64 f,.int .i64 k,.string v] w λe c=>e=.returned (.tuple #[])/\Below b w c/\After c b m l sn sp en f k v:=by
   intro q n o r j;refine(NA b f k v w _ _ _ _ _ j A (D7 _ _)).mono ?_;rintro e c ⟨p,y⟩
   rw[y]
   exact⟨p,a0n _ _,.inr ⟨i,x⟩⟩
  have a:=x;cases u:kP f k v with
  |keep g=>rw[u]at a;exact d _ _ _ _ a
  |pass=>rw[u]at a;exact d _ _ _ _ a
  |Ia=>rw[u]at a;exact d _ _ _ _ a
  |ends=>rw[u]at a;exact d _ _ _ _ a
theorem Il{l}{w'}(h:Eh s t sn l sp en)(q:¬t.size=0)(n:KI t=true)(i:∀a∈l,sn a.kind=true)(m:After w' b (cO l) (jh l) sn sp en (fA t).flags (fA t).kind (fA t).val):
  ∃c g d e,Eh s (KJ t) c g d e/\(∀a∈g,c a.kind=true)/\KeptAt w' b (cO g) (jh g) c d e:=by
 obtain⟨j,p⟩|⟨j,o⟩:=m
 ·grind[Sv]
 grind[YK]
def NC(w a:World)(b f k:Nat)(v:ByteArray)(l:List At)(sn:Nat->Bool)(sp en:Bool):Prop:=
 Below b w a/\(KeptAt a b (cO l) (jh l) sn sp en\/After a b (cO l) (jh l) sn sp en f k v)
theorem YM{c a}{l}(e:NC w c b f k v l sn sp en)(d:Below b c a)(g:After a b (cO l) (jh l) sn sp en f k v):
  NC w a b f k v l sn sp en:=⟨e.1.trans d,.inr g⟩
theorem Qt{a}{l}(c:Below b w a)(d:KeptAt a b (cO l) (jh l) sn sp en):NC w a.drew b f k v l sn sp en:=
 ⟨c.drew,.inl (d.later (a0n _ _).drew)⟩
theorem ND{l}(h:f<256)(g:k<256)(d:v.size<=maxLen)(a)(i:NC w a b f k v l sn sp en):
  ai3 252 #[.pointer (some ⟨b,0,none⟩),.int .i64 f,.int .i64 k,.string v] a λe c=>e=.returned (.tuple #[])/\NC w c b f k v l sn sp en/\After c b (cO l) (jh l) sn sp en f k v:=by
 refine(YL b f k v a _ _ _ _ _ i.2 h g d).mono ?_
 grind[YM]
theorem EJ(b:Nat)(h:b<256):IntKind.i64.wrap (b:Int)=b/\wrap64 (b:Int)=b:=⟨kY _ (by omega) (by omega),lh _ (by omega) (by omega)⟩
theorem acJ(t:ByteArray)(n)(h:¬t.size<4+n)(a:t.size<=1048576):(4:Int)<=4+(n:Int)/\(4:Int)+(n:Int)<=(t.size:Int)/\IntKind.i64.wrap (4+(n:Int))=4+(n:Int)/\wrap64 (4+(n:Int))=4+(n:Int)/\IntKind.i64.wrap 4=4/\(4+(n:Int)).toNat=4+n:=
 ⟨by omega,by omega,kY _ (by omega) (by omega),lh _ (by omega) (by omega),by decide,by omega⟩
theorem acK(t:ByteArray)(n)(h:¬t.size<3+n)(a:t.size<=1048576):(3:Int)<=3+(n:Int)/\(3:Int)+(n:Int)<=(t.size:Int)/\IntKind.i64.wrap (3+(n:Int))=3+(n:Int)/\wrap64 (3+(n:Int))=3+(n:Int)/\IntKind.i64.wrap 3=3/\(3+(n:Int)).toNat=3+n:=
 ⟨by omega,by omega,kY _ (by omega) (by omega),lh _ (by omega) (by omega),by decide,by omega⟩
theorem VG(s t:ByteArray)(z h)(u:h=2+z)(hz2:OL t=z)(F:¬t.size<h)(E:¬t.size<h+uo z t)(hs:t.size<=s.size)(d:s.size<=1048576)(y:1<=z):
  KI t=true/\(t.extract h (h+uo z t)).size<=maxLen/\(t.extract (h+uo z t) t.size).size<t.size/\(t.extract (h+uo z t) t.size).size<=s.size/\(1:Int)<(t.size:Int)/\1<t.size/\t.size<=1048576:=by
 subst u;refine⟨?_,?_,?_,?_,by omega,by omega,by omega⟩
 ·grind[KI,jq]
 ·rw[afU];exact aB
 ·simp<;>omega
 simp<;>omega
theorem kQ(s)(w)(hs:s.size<=1048576):
  ai3 212 #[.string s] w λe w'=>e=.returned (.pointer (some ⟨w.heap.size,0,none⟩))/\ah' w w'/\∃l sn sp en,KeptAt w' w.heap.size (cO l) (jh l) sn sp en/\Su s l sp en:=by
 go_enter am8,ntmps212
 go_upto_block 0 with fail
 go_cut [4]from 9 to 17 (λ_ N=>KeptAt N w.heap.size (cO []) (jh []) (λ_=>false) false false/\ah' w N)
 case first=>
  go_wp2_with fail
  go_loopw [4] (λi wr=>∃n:Nat,n<=256/\i=.int .i64 n/\KeptAt wr w.heap.size (λj=>if j<n then-1 else 0) (λ_=>⟨#[]⟩) (λ_=>false) false false/\ah' w wr) (λi _=>256-(intOf i).toNat)
  case atStart=>exact⟨0,by omega,rfl,YJ w _,(a0n _ _).alloc (afA _) _⟩
  case round=>
   obtain⟨n,hn,rfl,y,D⟩:=hrel
   by_cases Z:n<256
   ·have c1:=y.flag n Z
    have z1:=y.free n (by omega);have hl:=y.lt;have HK:=hide (y.Sr n Z (-1));go_wp2;refine⟨⟨n+1,by omega,by go_num,HK.out.congr (λi _=> ?_) (λ_ _=>rfl),D.setCell (p:=⟨w.heap.size,n,none⟩) (afA _) _⟩,aA⟩;unfold put
    by_cases e:i=n
    ·rw[afN (by omega),afN e]
    ·by_cases e2:i<n
     ·simp only[e,e2,agr,ag6];rw[afN (by omega)]
     ·simp only[e,e2,ag6];rw[afJ (by omega)]
   ·have hn2:n=256:=by omega
    subst hn2;have W:=hide (y.congr (fl':=cO []) (vl':=jh []) (λi hi=>by rw[afN hi];rfl) (λ_ _=>rfl));go_wp2_with fail
    go_meet
    case rel=>exact⟨W.out,D⟩
 case rest=>
  obtain⟨W,D⟩:=hcut;go_wp2_with fail
  go_loopw [0] (λx wy=>∃(t:ByteArray)(sn:Nat->Bool)(l:List At)(sp en:Bool),x=.string t/\t.size<=s.size/\Eh s t sn l sp en/\(∀a∈l,sn a.kind=true)/\KeptAt wy w.heap.size (cO l) (jh l) sn sp en/\ah' w wy) (λx _=>pU x)
  case atStart=>exact⟨s,_,[],false,false,rfl,afA _,.inl ⟨rfl,rfl⟩,by simp,W,D⟩
  case round=>
   obtain⟨t,sn,l,sp,en,rfl,Y,hmid,hsn,y,d⟩:=hrel;have HM:=hmid;have HS:=hide hsn;have HK:=hide y;have hl:=y.lt;have c3:=y.spoilt;have z3:=y.free 768 (by omega)
   by_cases J:t.size=0
   ·have M:t.toList.isEmpty=true:=by rw[dF];simp[J]
    have Q:=hide J;go_wp2;go_ret;refine⟨rfl,d,l,sn,sp,en,HK.out,?_⟩;obtain⟨e1,e2⟩|h:=HM
    ·exact .inl ⟨e1,e2.trans (Jh Q.out)⟩
    ·exact .inr h
   ·have M:t.toList.isEmpty=false:=by rw[dF];simp[J]
    have Q:=hide J;have hp:0<t.size:=by omega
    have K:=dD t 0 hp;have L:=gG t.data.toList 0;have hx0:(0:Int)<(t.size:Int):=by omega
    by_cases hz:16<=at8 t.data.toList 0%32
    ·have hz2:OL t=2:=by unfold OL;rw[afN (by omega)]
     have u:=λw=>Qs t 2 w (by omega)
     have hlC:=EC 2 t (by omega)
     by_cases h4:t.size<4
     ·have F:KI t=false:=by unfold KI jq;rw[hz2];simp;omega
      have HE:=hide (yY HM Q.out F);generalize at8 t.data.toList 0=O at*;go_wp2;exact pz
     ·by_cases h5:t.size<4+uo 2 t
      ·have F:KI t=false:=by unfold KI jq;rw[hz2];simp;omega
       have HE:=hide (yY HM Q.out F);generalize at8 t.data.toList 0=O at*;generalize uo 2 t=n at*;go_wp2_with (go_at_call 124;refine(u _).aH ?_);exact pz
      ·obtain⟨F,hv,A,c,hx1,E,R⟩:=VG s t 2 4 rfl hz2 h4 h5 Y hs (by decide)
       have H:=dD t 1 E;have I:=gG t.data.toList 1;have EH:Hid (fA t=⟨at8 t.data.toList 0,at8 t.data.toList 1,t.extract 4 (4+uo 2 t)⟩):=by unfold Hid fA DX;rw[hz2]
       have ER:Hid (KJ t=t.extract (4+uo 2 t) t.size):=by unfold Hid KJ FC;rw[hz2]
       have G:=hide (λw'=>Il (w':=w') (b:=w.heap.size) HM Q.out F HS.out)
       rw[EH.out,ER.out]at G
       simp only at G;generalize at8 t.data.toList 0=O at*;generalize at8 t.data.toList 1=b1 at*;generalize uo 2 t=n at*;have U:=ND (w:=w) (b:=w.heap.size) (l:=l) (sn:=sn) (sp:=sp) (en:=en) L I hv
       go_upto_region 17 with(go_at_call 124;refine(u _).aH ?_)
       go_cut [5,6]from 18 to 71 (λs5 s6 N=>s5=.int .i64 2/\s6=.int .i64 (n:Int)/\After N w.heap.size (cO l) (jh l) sn sp en O b1 (t.extract 4 (4+n))/\ah' w N)
       case first=>
        obtain⟨i1,i2,i3,i4,i5,i6⟩:=acJ t n h5 R;obtain⟨j0,j2⟩:=EJ O L;obtain⟨j1,j3⟩:=EJ b1 I
        go_region_held (λw'=>NC w w' w.heap.size O b1 (t.extract 4 (4+n)) l sn sp en) (first|assumption|(exact⟨d,.inl HK.out⟩)|(exact Qt d HK.out)|(exact YN d HK.out _)) (first|(go_at_call 252;refine(U _ (by assumption)).ai ?_;rintro w2 ⟨V,X⟩))
        all_goals
         go_wp2_with fail
         go_meet
        all_goals exact⟨rfl,rfl,X,V.1⟩
       case rest=>
        exact aqA
    ·have hz2:OL t=1:=by unfold OL;rw[afJ (by omega)]
     have u:=λw=>Qs t 1 w (by omega)
     have hlC:=EC 1 t (by omega)
     by_cases h4:t.size<3
     ·have F:KI t=false:=by unfold KI jq;rw[hz2];simp;omega
      have HE:=hide (yY HM Q.out F);generalize at8 t.data.toList 0=O at*;go_wp2;exact pz
     ·by_cases h5:t.size<3+uo 1 t
      ·have F:KI t=false:=by unfold KI jq;rw[hz2];simp;omega
       have HE:=hide (yY HM Q.out F);generalize at8 t.data.toList 0=O at*;generalize uo 1 t=n at*;go_wp2_with (go_at_call 124;refine(u _).aH ?_);exact pz
      ·obtain⟨F,hv,A,c,hx1,E,R⟩:=VG s t 1 3 rfl hz2 h4 h5 Y hs (by decide)
       have H:=dD t 1 E;have I:=gG t.data.toList 1;have EH:Hid (fA t=⟨at8 t.data.toList 0,at8 t.data.toList 1,t.extract 3 (3+uo 1 t)⟩):=by unfold Hid fA DX;rw[hz2]
       have ER:Hid (KJ t=t.extract (3+uo 1 t) t.size):=by unfold Hid KJ FC;rw[hz2]
       have G:=hide (λw'=>Il (w':=w') (b:=w.heap.size) HM Q.out F HS.out)
       rw[EH.out,ER.out]at G
       simp only at G;generalize at8 t.data.toList 0=O at*;generalize at8 t.data.toList 1=b1 at*;generalize uo 1 t=n at*;have U:=ND (w:=w) (b:=w.heap.size) (l:=l) (sn:=sn) (sp:=sp) (en:=en) L I hv
       go_upto_region 17 with(go_at_call 124;refine(u _).aH ?_)
       go_cut [5,6]from 18 to 71 (λs5 s6 N=>s5=.int .i64 1/\s6=.int .i64 (n:Int)/\After N w.heap.size (cO l) (jh l) sn sp en O b1 (t.extract 3 (3+n))/\ah' w N)
       case first=>
        obtain⟨i1,i2,i3,i4,i5,i6⟩:=acK t n h5 R;obtain⟨j0,j2⟩:=EJ O L;obtain⟨j1,j3⟩:=EJ b1 I
        go_region_held (λw'=>NC w w' w.heap.size O b1 (t.extract 3 (3+n)) l sn sp en) (first|assumption|(exact⟨d,.inl HK.out⟩)|(exact Qt d HK.out)|(exact YN d HK.out _)) (first|(go_at_call 252;refine(U _ (by assumption)).ai ?_;rintro w2 ⟨V,X⟩))
        all_goals
         go_wp2_with fail
         go_meet
        all_goals exact⟨rfl,rfl,X,V.1⟩
       case rest=>
        exact aqA
theorem Jn(s)(l)(w)(g:s.size<=1048576)(h:dz s=some l):
  ai3 211 #[.string s] w λe d=>∃a c,e=.returned (.tuple #[.slice a l.length c,.bool true])/\ah' w d/\d.ownsRow w.heap.size 113 2 (.slice a l.length c) l.length (bO l)/\l.length<=s.size:=by
 grind[Ik,fO]
theorem Jo(s)(b)(w)(g:s.size<=1048576)(h:(dz s).isSome=b):
  ai3 211 #[.string s] w λe d=>∃a n c,e=.returned (.tuple #[.slice a n c,.bool b])/\ah' w d:=by
 refine(Ik s w g).mono ?_;rintro e d ⟨v,o,p,i,m⟩;cases j:dz s with
 |none=>grind
 |some l=>grind[fO]
theorem a2K(m)(w)(j:m.size<=maxLen)(h:rM m=false):
  ai3 157 #[.string m] w λe i=>e=il 2/\ah' w i:=by
 have a:=λw=>H8 m w j
 unfold rM at h
 rw[agA]at h
 generalize Vj m.data.toList=E at*;generalize Vh m.data.toList=N at*;generalize Vi m.data.toList=K at*;unfold il
 by_cases d:E=0
 ·by_cases c:N=0
  ·subst d
   subst c;exact aic
  ·have n:(N==0)=false:=by rw[afW];exact c
   by_cases g:N=m.size
   ·have p:(K != 2)=true:=by rw[agF];intro e;exact h ⟨d,g,e⟩
    subst d;subst g;exact aic
   ·have l:(N != (m.size:Int))=true:=by rw[agF];exact g
    subst d;exact aic
 ·have o:(E != 0)=true:=by rw[agF];exact d
  exact aic
theorem a2L(m)(w)(u:19<=m.size)(hm:m.size<=200)(j:∀w,ai9 134 #[.string m] w (.tuple #[.int .i64 m.size,.int .i64 2,.int .i64 0]))(n:∀w,ai9 210 #[.string (m.extract 19 m.size)] w (.tuple #[.string ⟨#[]⟩,.string ⟨#[]⟩,.string ⟨#[]⟩,.bool false])):
  ai3 157 #[.string m] w λe w'=>e=il 3/\ah' w w':=by
 have hx:(19:Int)<=(m.size:Int):=by omega
 have y:((m.size:Int)==0)=false:=ax
 unfold il;go_enter aiM,ntmps157;go_wp2_with (first|(go_at_call 134;refine(j _).ai ?_;intro w1 H;obtain⟨r,D⟩:=fE _ _ _ _ _ _ H;have hsz:=r.lt)|(go_at_call 210;refine(n _).ai ?_;intro w2 V;have d:=af D V D.size;obtain⟨q0,q1,q2,f0,f1,f2,ql⟩:=r.later V));refine abt (v:=.tuple #[.agg #[.slice none 0 0,.slice none 0 0,.string ⟨#[]⟩],.int .i64 3]) aid rfl ⟨rfl,?_⟩;exact cK d (afA _) _ _ _
theorem a96(m G K C)(w)(u:19<=m.size)(hm:m.size<=200)(E:G.size<=m.size)(d:K.size<=m.size)(F:C.size<=m.size)(j:∀w,ai9 134 #[.string m] w (.tuple #[.int .i64 m.size,.int .i64 2,.int .i64 0]))(n:∀w,ai9 210 #[.string (m.extract 19 m.size)] w (.tuple #[.string G,.string K,.string C,.bool true]))(hg:(dz G).isSome=false):
  ai3 157 #[.string m] w λe w'=>e=il 3/\ah' w w':=by
 have hx:(19:Int)<=(m.size:Int):=by omega
 have y:((m.size:Int)==0)=false:=ax
 have I:=λw=>Jo G false w (by omega) hg
 have hr2:=λw=>Jo C _ w (by omega) rfl
 have A:=λw=>kQ K w (by omega)
 generalize (dz C).isSome=b2 at*;exact aiv
theorem a97(m G K C)(w)(u:19<=m.size)(hm:m.size<=200)(E:G.size<=m.size)(d:K.size<=m.size)(F:C.size<=m.size)(j:∀w,ai9 134 #[.string m] w (.tuple #[.int .i64 m.size,.int .i64 2,.int .i64 0]))(n:∀w,ai9 210 #[.string (m.extract 19 m.size)] w (.tuple #[.string G,.string K,.string C,.bool true]))(hg:(dz G).isSome=true)(M:(dz C).isSome=false):
  ai3 157 #[.string m] w λe w'=>e=il 3/\ah' w w':=by
 have hx:(19:Int)<=(m.size:Int):=by omega
 have y:((m.size:Int)==0)=false:=ax
 have I:=λw=>Jo G true w (by omega) hg
 have hr2:=λw=>Jo C false w (by omega) M
 have A:=λw=>kQ K w (by omega)
 exact aiv
theorem VH{l:List At}(h:Su s l sp en)(a:qc s=none):en=true:=by obtain⟨_,c⟩|⟨d,_⟩:=h<;>grind
theorem Ei{l c:List At}{a:Bool}(h:Su s l sp en)(e:qc s=some (c,a)):en=false/\l=c/\sp=a:=by
 obtain⟨g,d⟩|⟨_,d⟩:=h
 ·grind
 grind
theorem ab6(m G K C)(w)(J:19<=m.size)(hm:m.size<=200)(Q:G.size<=m.size)(F:K.size<=m.size)(U:C.size<=m.size)(j:∀w,ai9 134 #[.string m] w (.tuple #[.int .i64 m.size,.int .i64 2,.int .i64 0]))(n:∀w,ai9 210 #[.string (m.extract 19 m.size)] w (.tuple #[.string G,.string K,.string C,.bool true]))(hg:(dz G).isSome=true)(M:(dz C).isSome=true)(R:qc K=none):
  ai3 157 #[.string m] w λe w'=>e=il 3/\ah' w w':=by
 have hx:(19:Int)<=(m.size:Int):=by omega
 have O:((m.size:Int)==0)=false:=ax
 have I:=λw=>Jo G true w (by omega) hg
 have hr2:=λw=>Jo C true w (by omega) M
 have A:=λw=>kQ K w (by omega)
 unfold il;go_enter aiM,ntmps157;go_wp2_with (first|(go_at_call 134;refine(j _).ai ?_;intro w1 H;obtain⟨r,D⟩:=fE _ _ _ _ _ _ H;have hsz:=r.lt)|(go_at_call 210;refine(n _).ai ?_;intro w2 V;have p:=r.later V;have d:=af D V D.size)|(go_at_call_of 211 (G);refine(I _).mono ?_;rintro e L ⟨a1,N,c1,rfl,q⟩;have i:=af d q d.size;have u:=p.later q)|(go_at_call_of 211 (C);refine(hr2 _).mono ?_;rintro e w4 ⟨a2,n2,c2,rfl,X⟩;have c:=af i X i.size;have z:=u.later X)|(go_at_call 212;refine(A _).ai ?_;rintro w5 ⟨W,l,sn,sp,en,y,x⟩;have o:=af c W c.size;obtain⟨q0,q1,q2,f0,f1,f2,ql⟩:=z.later W;have E:en=true:=VH x R;subst E;have B:=y.ends));refine abt (v:=.tuple #[.agg #[.slice none 0 0,.slice none 0 0,.string ⟨#[]⟩],.int .i64 3]) aid rfl ⟨rfl,?_⟩;exact cK o (afA _) _ _ _
theorem a6m(m G K C)(w)(Y:19<=m.size)(hm:m.size<=200)(hG:G.size<=m.size)(U:K.size<=m.size)(hC:C.size<=m.size)(j:∀w,ai9 134 #[.string m] w (.tuple #[.int .i64 m.size,.int .i64 2,.int .i64 0]))(n:∀w,ai9 210 #[.string (m.extract 19 m.size)] w (.tuple #[.string G,.string K,.string C,.bool true]))(g)(l)(sp)(hg:dz G=some g)(M:dz C=some [])(R:qc K=some (l,sp)):
  ai3 157 #[.string m] w λe w'=>aqD ⟨0,g,[],[]⟩ w e w':=by
 have hx:(19:Int)<=(m.size:Int):=by omega
 have hz:((m.size:Int)==0)=false:=ax
 have I:=λw=>Jn G g w (by omega) hg
 have hr2:=λw=>Jn C [] w (by omega) M
 simp only[age]at hr2;have A:=λw=>kQ K w (by omega)
 go_enter aiM,ntmps157;go_wp2_with (first|(go_at_call 134;refine(j _).ai ?_;intro w1 H;obtain⟨r,D⟩:=fE _ _ _ _ _ _ H;have hsz:=r.lt)|(go_at_call 210;refine(n _).ai ?_;intro w2 V;have p:=r.later V;have d:=af D V D.size)|(go_at_call_of 211 (G);refine(I _).mono ?_;rintro e L ⟨a1,c1,rfl,q,N,O⟩;have i:=af d q d.size;have u:=p.later q)|(go_at_call_of 211 (C);refine(hr2 _).mono ?_;rintro e w4 ⟨a2,c2,rfl,X,ho2,J⟩;have c:=af i X i.size;have z:=u.later X)|(go_at_call 212;refine(A _).ai ?_;rintro w5 ⟨W,Z,sn,F,en,y,x⟩;obtain⟨rfl,rfl,rfl⟩:=Ei x R;have o:=af c W c.size;have E:=z.later W;obtain⟨q0,q1,q2,f0,f1,f2,ql⟩:=E;have B:=y.ends;have Q:=y.spoilt));refine abt (v:=.tuple #[.agg #[.slice a1 g.length c1,.slice none 0 0,.string ⟨#[]⟩],.int .i64 0]) aid rfl ⟨_,_,rfl,cK o (afA _) _ _ _,?_,?_,?_⟩
 ·exact Ef (bu (bu N X) W) (afB r.lt V.size) _ _ _
 ·exact o9
 ·exact xV _
theorem a6n(m G K C)(w)(h19:19<=m.size)(hm:m.size<=200)(hG:G.size<=m.size)(hKs:K.size<=m.size)(hC:C.size<=m.size)(j:∀w,ai9 134 #[.string m] w (.tuple #[.int .i64 m.size,.int .i64 2,.int .i64 0]))(n:∀w,ai9 210 #[.string (m.extract 19 m.size)] w (.tuple #[.string G,.string K,.string C,.bool true]))(g a)(l)(hg:dz G=some g)(M:dz C=some a)(R:qc K=some (l,false))(J:a.length≠0)(O:∀b sn sp en U,KeptAt U b (cO l) (jh l) sn sp en->ai3 213 #[.pointer (some ⟨b,0,none⟩)] U λe w'=>e=.returned (.bool false)/\w'=U)(F:∀b sn sp en U,KeptAt U b (cO l) (jh l) sn sp en->ai9 214 #[.pointer (some ⟨b,0,none⟩)] U (.string ⟨(mW l 256).toArray⟩)):
  ai3 157 #[.string m] w λe w'=>aqD ⟨0,g,a,mW l 256⟩ w e w':=by
 have hx:(19:Int)<=(m.size:Int):=by omega
 have hz:((m.size:Int)==0)=false:=ax
 have I:=λw=>Jn G g w (by omega) hg
 have hr2:=λw=>Jn C a w (by omega) M
 have A:=λw=>kQ K w (by omega)
 have hq:((a.length:Int)==0)=false:=ax
 clear hg M;obtain⟨T,eT⟩:∃T:ByteArray,T=⟨(mW l 256).toArray⟩:=⟨_,rfl⟩
 rw[<-eT]at F
 have HTX:=hide eT;clear eT;go_enter aiM,ntmps157;go_wp2_with (first|(go_at_call 134;refine(j _).ai ?_;intro w1 H;obtain⟨r,D⟩:=fE _ _ _ _ _ _ H;have hsz:=r.lt)|(go_at_call 210;refine(n _).ai ?_;intro w2 V;have p:=r.later V;have d:=af D V D.size)|(go_at_call_of 211 (G);refine(I _).mono ?_;rintro e L ⟨a1,c1,rfl,q,N,hl1⟩;have i:=af d q d.size;have u:=p.later q)|(go_at_call_of 211 (C);refine(hr2 _).mono ?_;rintro e w4 ⟨a2,c2,rfl,X,ho2,hl2⟩;have c:=af i X i.size;have z:=u.later X)|(go_at_call 212;refine(A _).ai ?_;rintro w5 ⟨W,l0,sn,sp0,en,y,x⟩;obtain⟨rfl,rfl,rfl⟩:=Ei x R;have o:=af c W c.size;have Y:=z.later W;obtain⟨q0,q1,q2,f0,f1,f2,ql⟩:=Y;have B:=y.ends;have hcS:=y.spoilt)|(go_at_call 213;refine(O _ _ _ _ _ y).aH ?_)|(go_at_call 214;refine(F _ _ _ _ _ y).ai ?_;intro w6 E;have Q:=af o E o.size;obtain⟨q0,q1,q2,f0,f1,f2,ql⟩:=z.later W |>.later E));refine abt (v:=.tuple #[.agg #[.slice a1 g.length c1,.slice a2 a.length c2,.string T],.int .i64 0]) aid rfl ⟨_,_,by rw[HTX.out],cK Q (afA _) _ _ _,?_,?_,?_⟩
 ·exact uC
 ·exact Cf
 ·intro k hk1 Z
  have h1:=(N.lt k hk1).2;have h2:=(ho2.lt k Z).1;omega
end Go.Proofs.Zq
