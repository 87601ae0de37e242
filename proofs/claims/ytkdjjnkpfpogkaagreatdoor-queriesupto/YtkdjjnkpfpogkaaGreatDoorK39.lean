import Derived.Laws.CopyOwn
import Derived.Test.YtkdjjnkpfpogkaaGreatDoorK38
set_option maxHeartbeats 8000000
set_option linter.all false
set_option maxRecDepth 20000
namespace Go
def aqV{P:Prop}(h:P:=by
 have z4:=d.fz 4 (by omega);obtain⟨v4,y4⟩:=d.c4;have hl0:=d.lt;obtain⟨b0,b1,b2,b3,b4,b5,b6,bl⟩:=l;have hne:w.heap.size≠B:=agX h.lt;unfold Gy at*;go_enter Qf7,ntmps7;go_wp2_with (go_at_call 11;refine j.ai ?_;rintro w2 ⟨ow2,h2,f2⟩);go_ret2
 exact⟨rfl,ow2,h2,(f.out.mono (λ_ x=>Or.inl x)).trans f2 (λ_ x=>x)⟩):P:=h
def aie{P:Prop}(h:P:=by
 go_enter Qf7,ntmps7;go_wp2_with fail;go_ret2
 exact⟨rfl,(a0n _ _).alloc (afA _) _⟩):P:=h
end Go
namespace Go.Proofs.Zq
open Go.RowKit
open Rl
variable{i a b B g n:Nat}{xv dv v:Value}{w:World}{I:List Value}{T:Nat->Prop}{ow:Nat->Nat}
theorem Y3{x}(h:iU x a b)(H:a<=4194304)(j:b<=4194304)(S T)(s:S.size<=2097152)(A:T.size<=4194304):
  ∃o E,(∀k d,gX k d i xv dv x->Both 27 28 [.string S,.string T] k d i xv dv o E)/\iU o (a+1) (b+T.size):=by
 cases x with
 |none=>
  refine⟨none,1,λk d y=> ?_,λm f=>by cases f⟩;obtain⟨rfl,rfl⟩:=y
  exact⟨(a5y S T k).mono (λe u⟨r,j⟩=>⟨r,_,Fr.aK d j _ 0,λm f=>by cases f⟩),λu l D=>(MP S T _).mono (λe t⟨r,j⟩=>⟨r,_,Fr.aK l j _ 0,λm f=>by cases f⟩),λ_=>⟨rfl,rfl⟩⟩
 |some m=>
  have c:=h m rfl;have C:m.files.length<=4194304:=afC c.files H;have z:aR m.files<=4194304:=afC c.bytes j;refine⟨some (aU m [S] (FY m T) (K8 m S T)),aV m [S] (FY m T),λk d y=> ?_,λK f=>by cases f;exact r9 _ _ c (λs=>UD S T c (s S (by simp))) (by omega) (by omega)⟩;obtain⟨q,p,J,rfl,rfl,G,F⟩:=y;refine⟨(a5v k _ q m G C z c.JU c.xN c.Mv c.Mw S T s A).mono (λe u⟨r,j⟩=> ?_),λu l D=>(OE _ _ p J m (F.frame D (by omega)) C z c.xN S s T c.Mv c.Mw A).mono (λe t⟨r,j⟩=> ?_),λf=>by cases f⟩
  ·exact ahe
  ·exact ahf
theorem a6C{u}(h:iU u a b)(G:a<=4194304)(j:b<=4194304)(S)(x:S.size<=2097152):
  ∃o E,(∀k d,gX k d i xv dv u->Both 29 30 [.string S] k d i xv dv o E)/\iU o (a+1) b:=by
 cases u with
 |none=>
  refine⟨none,1,λk d y=> ?_,λm f=>by cases f⟩;obtain⟨rfl,rfl⟩:=y
  exact⟨(aaQ S k).mono (λe t⟨r,j⟩=>⟨r,_,Fr.aK d j _ 0,λm f=>by cases f⟩),λt l C=>(RQ S _).mono (λe s⟨r,j⟩=>⟨r,_,Fr.aK l j _ 0,λm f=>by cases f⟩),λ_=>⟨rfl,rfl⟩⟩
 |some m=>
  have c:=h m rfl;have A:m.files.length<=4194304:=afC c.files G;have z:aR m.files<=4194304:=afC c.bytes j;refine⟨some (aU m [S] (bg m S 0) (dG m S (rX m S))),aV m [S] (bg m S 0),λk d y=> ?_,λJ f=>by cases f;exact r9 _ _ c (λx=>Ex S c (a1y S c) (by omega) (by omega)) (by omega) (by omega)⟩;obtain⟨q,p,H,rfl,rfl,F,D⟩:=y;refine⟨(aaM k _ q m F A z c.JU c.xN S x).mono (λe t⟨r,j⟩=> ?_),λt l C=>(U0 _ _ p H m (D.frame C (by omega)) A z c.xN S x).mono (λe s⟨r,j⟩=> ?_),λf=>by cases f⟩
  ·exact ahe
  ·exact ahf
theorem Y4{x}(h:iU x a b)(H:a<=4194304)(j:b<=4194304)(S T)(s:S.size<=2097152)(z:T.size<=2097152):
  ∃o E,(∀k d,gX k d i xv dv x->Both 31 32 [.string S,.string T] k d i xv dv o E)/\iU o (a+1) b:=by
 cases x with
 |none=>
  refine⟨none,1,λk d y=> ?_,λm f=>by cases f⟩;obtain⟨rfl,rfl⟩:=y
  exact⟨(a5x S T k).mono (λe u⟨r,j⟩=>⟨r,_,Fr.aK d j _ 0,λm f=>by cases f⟩),λu l D=>(MR S T _).mono (λe t⟨r,j⟩=>⟨r,_,Fr.aK l j _ 0,λm f=>by cases f⟩),λ_=>⟨rfl,rfl⟩⟩
 |some m=>
  have c:=h m rfl;have C:m.files.length<=4194304:=afC c.files H;have F:aR m.files<=4194304:=afC c.bytes j;refine⟨some (aU m [T,S] (bg m S 0) (dG m S (jm m S T))),aV m [T,S] (bg m S 0),λk d y=> ?_,λK f=>by cases f;exact r9 _ _ c (λs=>Ex S c (UC S T c (s T (by simp))) (by omega) (by omega)) (by omega) (by omega)⟩;obtain⟨q,p,J,rfl,rfl,A,G⟩:=y;refine⟨(a5u k _ q m A C F c.JU c.xN S T s z).mono (λe u⟨r,j⟩=> ?_),λu l D=>(OI _ _ p J m (G.frame D (by omega)) A.ord C c.xN S T s z).mono (λe t⟨r,j⟩=> ?_),λf=>by cases f⟩
  ·exact ahe
  ·exact ahf
theorem Y5{u}(h:iU u a b)(G:a<=4194304)(j:b<=4194304)(S)(x:S.size<=2097152):
  ∃o E,(∀k d,gX k d i xv dv u->Both 33 34 [.string S] k d i xv dv o E)/\iU o (a+1) b:=by
 cases u with
 |none=>
  refine⟨none,1,λk d y=> ?_,λm f=>by cases f⟩;obtain⟨rfl,rfl⟩:=y
  exact⟨(a5w S k).mono (λe t⟨r,j⟩=>⟨r,_,Fr.aK d j _ 0,λm f=>by cases f⟩),λt l C=>(MQ S _).mono (λe s⟨r,j⟩=>⟨r,_,Fr.aK l j _ 0,λm f=>by cases f⟩),λ_=>⟨rfl,rfl⟩⟩
 |some m=>
  have c:=h m rfl;have A:m.files.length<=4194304:=afC c.files G;have z:aR m.files<=4194304:=afC c.bytes j;refine⟨some (aU m [S] (bg m S 0) (dG m S (jV m S))),aV m [S] (bg m S 0),λk d y=> ?_,λJ f=>by cases f;exact r9 _ _ c (λx=>Ex S c (UB S c) (by omega) (by omega)) (by omega) (by omega)⟩;obtain⟨q,p,H,rfl,rfl,F,D⟩:=y;refine⟨(a5t k _ q m F A z c.JU c.xN S x).mono (λe t⟨r,j⟩=> ?_),λt l C=>(OD _ _ p H m (D.frame C (by omega)) A z c.xN S x).mono (λe s⟨r,j⟩=> ?_),λf=>by cases f⟩
  ·exact ahe
  ·exact ahf
theorem SB{u}(h:iU u a b)(H:a<=4194304)(j:b<=4194304)(S)(x:S.size<=2097152)(A):
  ∃o E,(∀k d,gX k d i xv dv u->Both 35 36 [.string S,.int .i64 A] k d i xv dv o E)/\iU o (a+1) b:=by
 cases u with
 |none=>
  refine⟨none,1,λk d y=> ?_,λm f=>by cases f⟩;obtain⟨rfl,rfl⟩:=y
  exact⟨(Yd S A k).mono (λe t⟨r,j⟩=>⟨r,_,Fr.aK d j _ 0,λm f=>by cases f⟩),λt l D=>(Jb S A _).mono (λe s⟨r,j⟩=>⟨r,_,Fr.aK l j _ 0,λm f=>by cases f⟩),λ_=>⟨rfl,rfl⟩⟩
 |some m=>
  have c:=h m rfl;have C:m.files.length<=4194304:=afC c.files H;have z:aR m.files<=4194304:=afC c.bytes j;refine⟨some (aU m [S] (bg m S (fK m S A)) (dG m S (lq m S A))),aV m [S] (bg m S (fK m S A)),λk d y=> ?_,λK f=>by cases f;exact r9 _ _ c (λx=>Ex S c (XQ S A c) (by omega) (by omega)) (by omega) (by omega)⟩;obtain⟨q,p,J,rfl,rfl,G,F⟩:=y;refine⟨(Yb k _ q m G C z c.JU c.xN S x A).mono (λe t⟨r,j⟩=> ?_),λt l D=>(KH _ _ p J m (F.frame D (by omega)) C z c.xN S x A).mono (λe s⟨r,j⟩=> ?_),λf=>by cases f⟩
  ·exact ahe
  ·exact ahf
theorem a2U{u}(h:iU u a b)(D:a<=4194304)(j:b<=4194304)(A)(F:A<=9223372036854775807):
  ∃o E,(∀k c,gX k c i xv dv u->Both 37 38 [.int .i64 A] k c i xv dv o E)/\iU o (a+1) b:=by
 cases u with
 |none=>
  refine⟨none,1,λk c x=> ?_,λm d=>by cases d⟩;obtain⟨rfl,rfl⟩:=x
  exact⟨(a8G A k).mono (λe t⟨r,j⟩=>⟨r,_,Fr.aK c j _ 0,λm d=>by cases d⟩),λt l y=>(OG A _).mono (λe s⟨r,j⟩=>⟨r,_,Fr.aK l j _ 0,λm d=>by cases d⟩),λ_=>⟨rfl,rfl⟩⟩
 |some m=>
  have f:=h m rfl;have K:m.files.length<=4194304:=afC f.files D;have J:aR m.files<=4194304:=afC f.bytes j;refine⟨some ((if A<0 then m else{m with left:=A})),(if A<0 then 5 else 0),λk c x=> ?_,λH d=>by cases d;exact XT A f F⟩;obtain⟨q,p,G,rfl,rfl,C,z⟩:=x;refine⟨(a8F k _ q m C A).mono (λe t⟨r,j⟩=> ?_),λt l y=>(RO _ _ p G m (z.frame y (by omega)) A).mono (λe s⟨r,j⟩=> ?_),λd=>by cases d⟩
  ·exact ahe
  ·exact ahf
open Tryz
theorem a2V:(ah.prog.info? 3).map (λi=>(i.zero,i.size,i.bytes))=some (some (.int .i64 0),1,8):=by kernel_rfl
theorem a6D:(ah.prog.info? 3).map (·.size)=some 1:=by kernel_rfl
theorem a2W(m):(madeCells (Value.int .i64 0).cells (m*1)).toList=ints (List.replicate m 0):=by
 apply ah8;intro j
 by_cases h:j<m
 ·simp[madeCells,ints,Value.cells,h,Nat.mod_one]
 ·simp[madeCells,ints,h]
theorem a2X(l):∀u∈ints l,u.oneCell'=true:=by intro u c;exact uf
namespace Rl
theorem a2Y{e:TypeId}(h:w.ownsRow B e 1 (.slice (some ⟨g,0,none⟩) n n) n I):w.heap[g]? =some (.cells I.toArray e (0,0)):=by
 obtain⟨d,_⟩|⟨o,f,m,d,_,k,j,_,l,c⟩:=h.2
 ·simp at d
 ·simp only[ahR,ag1,Addr.mk.injEq,and_true,true_and]at d
  obtain⟨rfl,rfl⟩:=d
  rw[k]
  rw[aga (by grind)]at c
  rw[<-c]
theorem a2Z{e}(h:w.heap[g]? =some (.cells I.toArray e (0,0)))(c:I.length=n)(d:n<=maxLen):w.ownsRow 0 e 1 (.slice (some ⟨g,0,none⟩) n n) n I:=
 ⟨by omega,.inr ⟨g,n,I.toArray,rfl,afK _,h,afA _,d,by simpa using c,by simp;rw[aga (by omega)]⟩⟩
theorem VP(keep)(n)(c:keep.length=n):splice (ints (List.replicate (n+2) 0)) 0 (ints keep)=ints (keep++[0,0]):=by
 unfold splice ints
 simp_all
theorem Y6(keep)(n)(c:keep.length=n)(a b):((ints (keep++[0,0])).set n (.int .i64 a)).set (n+1) (.int .i64 b)=ints (keep++[a,b]):=by
 unfold ints
 simp_all
theorem QF{d c}{u}(h:Below g d c):Below g d (c.setCell ⟨g,a,none⟩ u):=
 ⟨h.os,h.tape,h.output,afC h.size (by simp),λk f=>(Below.heap_setCell c ⟨g,a,none⟩ u k (λe=>by have j:k=g:=e;omega)).trans (h.block k f)⟩
theorem a3a{d c:World}{u:Value}(h:Below g d c):Below g d ((c.setCell ⟨g,a,none⟩ u).setCell ⟨g,b,none⟩ v):=QF (QF h)
theorem SC{n2 c}{keep x}(h:w.ownsRow 0 3 1 (.slice (some ⟨g,0,none⟩) n2 n2) n2 (ints (keep++x)))(e:keep.length=n)(f:n<=n2)(l:n2=c):bz w (.slice (some ⟨g,0,none⟩) n c) n 1 (ints keep):=by
 subst l;refine⟨by simp[ints,e],?_⟩
 by_cases m:n=0
 ·simp_all
 ·refine .inr ⟨g,0,n2,rfl,by omega,(h.lt g rfl).2,λj u d=> ?_⟩
  have k:j<keep.length:=by have:=(afY.1 d).1;simpa[ints]using this
  rw[agj,h.cellAt j (by omega)]
  unfold ints at d |-
  rw[agD,List.getElem?_append_left (by grind)]
  exact d
theorem a9T{j:World}{k:Nat->Nat}{a b c d e f g:Value}{o:Option az}(h:bU w ow i B xv dv o)(r:Bx7 w n a b c d e f g)(q:ow n=0)(l:Fr T w ow j k)(m:¬T (30+3*i))(s:¬T 0):
  j.cell? ⟨B,0,none⟩=some xv/\j.cell? ⟨B,1,none⟩=some dv/\j.cell? ⟨n,6,none⟩=some g:=
 ⟨(l.cell (p:=⟨B,0,none⟩) h.lt h.own m).trans h.c0,(l.cell (p:=⟨B,1,none⟩) h.lt h.own m).trans h.c1,(r.frame l q s).c6⟩
structure a9U(keep:List Int)(w:World)(ow:Nat->Nat)(i:Nat)(xv dv kx kd:Value)(om':Option az)(E:Int):Prop where
 x:ai3 39 #[xv,kx] w (acA w ow i E xv om')
 d:∀w' mg,Fr (λc=>c=31+3*i) w ow w' mg->ai3 40 #[dv,kd] w' (acB w' mg i E dv om')
 nil:om'=none->xv=.pointer none/\dv=.pointer none
theorem EO{e}{d}{c}(h:bz w v n c I)(j:Fr T w ow e d)(f:n≠0->∀k,v.ownBlock=some k->¬T (ow k)):bz e v n c I:=G8 h j.tch f
theorem VQ{e}{d}{c}(h:bz w v n c I)(j:Fr T w ow e d)(f:∀k,v.ownBlock=some k->¬T (ow k)):bz e v n c I:=iQ h j.tch f
theorem a3b{H:Option az}(h:iU H a b)(R:a<=4194304)(t:b<=4194304)(keep:List Int)(z:keep.length<=4194304):
  ∃y E,(∀d c l o,gX d c i xv dv H->bz d l keep.length 1 (ints keep)->(∀k,l.ownBlock=some k->c k≠31+3*i)->bz d o keep.length 1 (ints keep)->(keep.length≠0->∀k,o.ownBlock=some k->k<d.heap.size/\c k≠31+3*i/\c k≠32+3*i)->a9U keep d c i xv dv l o y E)/\iU y (a+1) b:=by
 cases H with
 |none=>
  refine⟨none,1,λd c l o L _ _ _ _=> ?_,λm f=>by cases f⟩;obtain⟨rfl,rfl⟩:=L
  exact⟨(a8H l d).mono (λe D⟨A,t⟩=>⟨A,_,Fr.aK c t _ 0,λm f=>by cases f⟩),λD u F=>(OH o _).mono (λe G⟨A,t⟩=>⟨A,_,Fr.aK u t _ 0,λm f=>by cases f⟩),λ_=>⟨rfl,rfl⟩⟩
 |some m=>
  have s:=h m rfl;have P:m.files.length<=4194304:=afC s.files R;have N:aR m.files<=4194304:=afC s.bytes t;refine⟨some (DI m keep),0,λd c l o L J M K j=> ?_,λV f=>by cases f;exact XR keep s⟩;obtain⟨q,p,U,rfl,rfl,O,Q⟩:=L;refine⟨(a8I d _ q m O P N l keep J z (λk r x=>M k r x.2)).mono (λe D⟨A,t⟩=> ?_),λD u F=>(RX D _ p U m (Q.frame F (by omega)) P N O.sync o keep (EO K F (λC k r=>(j C k r).2.1)) z (λC k r x=> ?_)).mono (λe G⟨A,t⟩=> ?_),λf=>by cases f⟩
  ·exact ahe
  ·have S:=(F.keep k (j C k r).1 (j C k r).2.1).1
   exact(j C k r).2.2 (by rw[<-S];exact x.2)
  ·exact ahf
end Rl
theorem VS(w)(ow)(i B)(xv dv)(om f)(E)(W A C)(S T)(la)(lc)(keep)(h:bU w ow i B xv dv om)(R:bz w (.slice la keep.length lc) keep.length 1 (ints keep))(hkl:keep.length<=4194304)(d:keep.length≠0->∀k,(Value.slice la keep.length lc).ownBlock=some k->k<w.heap.size/\ow k=11)(hb:∀w1 qL kx kd,gX w1 qL i xv dv om->bz w1 kx keep.length 1 (ints keep)->(∀k,kx.ownBlock=some k->qL k≠31+3*i)->bz w1 kd keep.length 1 (ints keep)->(keep.length≠0->∀k,kd.ownBlock=some k->k<w1.heap.size/\qL k≠31+3*i/\qL k≠32+3*i)->a9U keep w1 qL i xv dv kx kd f E):
  Calls ah.prog 11 #[.pointer (some ⟨B,0,none⟩),Gy 8 W A C S T la keep.length lc] w λe w'=>e=.returned (.bool true)/\∃mg,bU w' mg i B xv dv f/\Fr (λc=>c=30+3*i\/c=31+3*i\/c=32+3*i) w ow w' mg:=by
 obtain⟨i0,hi,hz0,hz1,hz2⟩:=ahC a2V;have bx:=jX w (.int .i64 8) (.int .i64 W) (.int .i64 A) (.int .i64 C) (.string S) (.string T) (.slice la keep.length lc) 39;have f0:=Fr.aK ow ((a0n _ w).alloc (afA _) (.cells #[.int .i64 8,.int .i64 W,.int .i64 A,.int .i64 C,.string S,.string T,.slice la keep.length lc] 39)) (λ_=>False) 0;have hn0:ext w ow 0 w.heap.size=0:=dh
 have J:=h.frame f0 (λx=>x) (λx=>x) (λx=>x);have hk0:=VQ R f0 (λ_ _ x=>x)
 have K:keep.length≠0->∀k,(Value.slice la keep.length lc).ownBlock=some k->k<(w.alloc (.cells #[.int .i64 8,.int .i64 W,.int .i64 A,.int .i64 C,.string S,.string T,.slice la keep.length lc] 39)).heap.size/\ext w ow 0 k=11:=λhz k R=>by
  obtain⟨h1,h2⟩:=d hz k R
  exact⟨afB h1 f0.size,f0.ow h1 h2 (λx=>x)⟩
 have HF0:=hide f0;have HB:=hide hb;clear h R d hb f0;unfold Gy;generalize y:keep.length=n at*;have hw2:IntKind.i64.wrap ((n:Int)+2)=((n+2:Nat):Int):=aW
 obtain⟨O,b1,b2,b3,b4,b5,b6,bl⟩:=id bx;go_enter ale,ntmps11
 go_upto_region 24 with fail
 generalize w.alloc (.cells #[.int .i64 8,.int .i64 W,.int .i64 A,.int .i64 C,.string S,.string T,.slice la n lc] 39)=w0 at*;generalize ext w ow 0=ow0 at*;generalize w.heap.size=N at*;have HW0:=hide J;have HK0:=hide hk0;have o:=hide K;have RY:=hide bx;have HN0:=hide hn0;have L:=y;clear J hk0 K bx O b1 b2 b3 b4 b5 hn0 y;obtain⟨n2,hn2⟩:∃n2,n2=n+2:=⟨_,rfl⟩;have Ir:(n:Int)+2=(n2:Int):=by omega
 rw[<-hn2]at hw2
 have HN2:=hide hn2;have afe:n2<=4194306:=by omega
 clear hn2
 go_upto_region 25 with(at_make;refine wpList_make_full _ rfl _ _ 31 rfl w0.heap.size 3 i0 (.int .i64 0) 1 akc hi hz0 hz1 .i64 .i64 _ _ n2 rfl rfl rfl rfl (by rw[hz2];omega) aB (afA _) ?_;intro w1 F hgrow)
 rw[a2W]at F
 have H:=(a0n w0.heap.size w0).grown hgrow (afA _) (λk R=>by cases R);have hg1:=a2Y F;have x6:=(H.cell (p:=⟨N,6,none⟩) RY.out.lt).trans RY.out.c6;have HZ:Hid (splice (ints (List.replicate n2 0)) 0 (ints keep)=ints (keep++[0,0])):=by unfold Hid;rw[HN2.out];exact VP keep n L
 have HR1:=hide ((HK0.out).later H);have hfit:0+(ints keep).length<=(ints (List.replicate n2 0)).length:=by simp only[ints,ag0,List.length_replicate];have:=L;exact iM
 have Q:(ints keep).length=Nat.min n n2:=by simp only[ints,ag0];have h1:=L;have h2:=HN2.out;rw[h1,h2];exact(Nat.min_eq_left (by omega)).symm
 have aff:w0.heap.size<w1.heap.size:=(afD.1 hg1).1;clear F hgrow hw2 Ir hi hz0 hz1 hz2 bl b6;generalize hgg:w0.heap.size=g at*;have HGG:=hide hgg;clear hgg
 have hpos:0<(ints keep).length->(some ⟨g,0,none⟩:Option Addr)=some ⟨g,0,none⟩/\∃ad,la=some ad/\∀j v,(ints keep)[j]? =some v->w1.cell? (ad.add j)=some v:=by
  intro hp;refine⟨rfl,?_⟩;obtain⟨a',c',e,e0⟩|⟨b',o',c',e,_,_,hcell⟩:=HR1.out.2
  ·have h1:=L;simp only[ints,ag0]at hp;omega
  ·injection e with e1 _ _
   exact⟨⟨b',o',none⟩,e1,λj v hj=>by rw[show(⟨b',o',none⟩:Addr).add j=⟨b',o'+j,none⟩ from lT];exact hcell j v hj⟩
 have acS:=hide hpos;have HLEN:=hide Q;have acT:=hide hfit;clear hpos Q hfit
 go_upto_region 26 with(refine wpList_copy_splice rfl _ _ 31 31 rfl 3 akc a6D _ _ _ _ _ _ rfl rfl g 0 (ints (List.replicate n2 0)) 3 hg1 (ints keep) HLEN.out acS.out acT.out (a2X keep) g w0 H (afA _) ?_;intro w2 hg2 V)
 have hr2:w2.ownsRow 0 3 1 (.slice (some ⟨g,0,none⟩) n2 n2) n2 (ints (keep++[0,0])):=a2Z (by rw[<-HZ.out];exact hg2.out) (by simp only[ints,ag0,afE];have:=L;have:=HN2.out;simp;omega) aB;have hN2:=HN2.out;have l2:(ints (keep++[0,0])).length=n2:=by have:=hr2.1;omega
 obtain⟨v0,y0⟩:∃v,w2.cell? ⟨g,n,none⟩=some v:=⟨_,(hr2.cellAt n (by omega)).trans (afP (by omega))⟩;obtain⟨v1,y1⟩:∃v,w2.cell? ⟨g,n+1,none⟩=some v:=⟨_,(hr2.cellAt (n+1) (by omega)).trans (afP (by omega))⟩;have z0:=hr2.frozenAt n;have z1:=hr2.frozenAt (n+1);have hr4:=((hr2.stored n (.int .i64 (-77))).1.stored (n+1) (.int .i64 (-77))).1
 rw[Y6 keep n L]at hr4
 have HR4:=hide hr4;have HB4:Hid (Below g w0 ((w2.setCell ⟨g,n,none⟩ (.int .i64 (-77))).setCell ⟨g,n+1,none⟩ (.int .i64 (-77)))):=a3a V;have hx0:(n:Int)<(n2:Int):=by omega
 have hx1:(n:Int)+1<(n2:Int):=by omega
 have hn0:(0:Int)<=(n:Int):=by omega
 have hw1:IntKind.i64.wrap ((n:Int)+1)=(n:Int)+1:=aW
 clear hr2 l2 hr4 hN2 hg2 V hg1 acS acT HLEN H x6
 go_upto_region 28 with fail
 clear y0 y1 z0 z1;generalize ((w2.setCell ⟨g,n,none⟩ (.int .i64 (-77))).setCell ⟨g,n+1,none⟩ (.int .i64 (-77)))=W4 at*;have X:Below w0.heap.size w0 W4:=by rw[HGG.out];exact HB4.out
 obtain⟨U,abh⟩:∃U,U=ext w0 ow0 0:=⟨_,rfl⟩;have f4:Fr (λ_=>False) w0 ow0 W4.drew U:=by rw[abh];exact(Fr.aK ow0 X _ 0).drew'
 have hg0:U g=0:=by rw[abh,<-HGG.out];exact dh
 have hW4:=HW0.out.frame f4 (λx=>x) (λx=>x) (λx=>x);have hB4:=RY.out.frame f4 HN0.out (λx=>x);have hK4:=VQ HK0.out f4 (λ_ _ x=>x)
 have hc4:n≠0->∀k,(Value.slice la n lc).ownBlock=some k->k<W4.drew.heap.size/\U k=11:=λhz k R=>by
  obtain⟨h1,h2⟩:=o.out hz k R;have h1':k<w0.heap.size:=by rw[HGG.out];exact h1
  exact⟨afB h1' f4.size,f4.ow h1' h2 (λx=>x)⟩
 have hN4:U N=0:=f4.ow RY.out.lt HN0.out (λx=>x);have HBK:=hide (HB.out W4.drew U (.slice (some ⟨g,0,none⟩) n n2) (.slice la n lc) hW4.Fy (SC (w:=W4.drew) HR4.out L (by omega) rfl) (λk R=>by cases R;rw[hg0];omega) hK4 (λhz k R=>⟨(hc4 hz k R).1,by rw[(hc4 hz k R).2];omega,by rw[(hc4 hz k R).2];omega⟩));have hS1:W4.drew.cell? ⟨B,0,none⟩=some xv/\W4.drew.cell? ⟨B,1,none⟩=some dv/\W4.drew.cell? ⟨N,6,none⟩=some (.slice la n lc):=⟨hW4.c0,hW4.c1,hB4.c6⟩;have HW4:=hide hW4;have Y:=hide hB4;have HK4:=hide hK4;have HC4:=hide hc4;have HN4:=hide hN4;have HF4:=hide f4;have HG0:=hide hg0;have hnn:(n:Int)<=(n2:Int):=by omega
 clear X abh f4 hg0 hW4 hB4 hK4 hc4 hN4 HB HB4 HZ HR1 HK0 o hx0 hx1 hw1;go_wp2_with fail
 go_region_held (λw'=>w'.cell? ⟨B,0,none⟩=some xv/\w'.cell? ⟨B,1,none⟩=some dv/\w'.cell? ⟨N,6,none⟩=some (.slice la n lc)) (first|assumption|(exact hS1)|(exact a9T HW4.out Y.out HN4.out f5 (by omega) (by omega))) (first|(go_at_call 39;refine HBK.out.x.ai ?_;rintro w5 ⟨t,f5,hx5⟩))
 rename_i D;have l:w5.drew.cell? ⟨B,0,none⟩=some xv/\w5.drew.cell? ⟨B,1,none⟩=some dv/\w5.drew.cell? ⟨N,6,none⟩=some (.slice la n lc):=D;have f5d:=f5.drew';have HX5:=hide hx5;clear hS1 D f5 hx5;go_wp2_with fail
 go_region_held (λw'=>w'.cell? ⟨B,0,none⟩=some xv/\w'.cell? ⟨B,1,none⟩=some dv/\w'.cell? ⟨N,6,none⟩=some (.slice la n lc)) (first|assumption|(exact l)|(exact a9T HW4.out Y.out HN4.out ((f5d.mono (λ_ x=>Or.inl x)).trans (f6.mono (λc x=>(Or.inr x:c=31+3*i\/c=32+3*i))) (λ_ x=>x)) (by omega) (by omega))) (first|(go_at_call 40;refine(HBK.out.d _ t f5d).ai ?_;rintro w6 ⟨ow6,f6,hx6⟩))
 clear l;have u:=(f5d.mono (λc(x:c=31+3*i)=>(Or.inl x:c=31+3*i\/c=32+3*i))).trans (f6.mono (λc(x:c=32+3*i)=>(Or.inr x:c=31+3*i\/c=32+3*i))) (λ_ x=>x)
 have hx2:∀m,f=some m->∃q,xv=.pointer (some ⟨q,0,none⟩)/\gu w5.drew (Own w5.drew t (31+3*i)) q m:=λm hm=>by
  obtain⟨q,e,hq⟩:=HX5.out m hm
  exact⟨q,e,hq.later (a0n _ _).drew⟩
 have aey:Hid (bU w6 ow6 i B xv dv f/\Fr (λc=>c=30+3*i\/c=31+3*i\/c=32+3*i) w ow w6 ow6):=by
  refine⟨HW4.out.shell u (by omega) (MS HBK.out.nil f6 hx2 hx6),((HF0.out.mono ?_).trans (HF4.out.mono ?_) (λ_ x=>x)).trans (u.mono ?_) (λ_ x=>x)⟩
  ·intro c M;exact M.elim
  ·intro c M;exact M.elim
  ·intro c M;omega
 have OQ:=EO HK4.out u (λhz k R=>by rw[(HC4.out hz k R).2];omega);have b6:=(Y.out.frame u HN4.out (by omega)).c6;have hbl:=(Y.out.frame u HN4.out (by omega)).lt;have hgl:g<W4.drew.heap.size:=(HR4.out.lt g rfl).2;have hgc:∀j,j<n2->w6.cell? ⟨g,j,none⟩=(ints (keep++[-77,-77]))[j]? :=λj hj=>(u.cell (p:=⟨g,j,none⟩) hgl HG0.out (by omega)).trans ((HR4.out.cellAt j (by omega)))
 have HGC:=hide hgc;have HLR:=hide OQ;have abj:g<w6.heap.size:=afB hgl u.size;clear f5d f6 u hx2 hx6 HX5 HBK HW4 Y HK4 HC4 HN4 HF4 HG0 HF0 HW0 RY HN0 hgl OQ hgc HR4;go_wp2_with fail
 go_loopw [9] (λj wr=>∃k:Nat,k<=n/\j=.int .i64 k/\Below w6.heap.size w6 wr) (λj _=>n-(intOf j).toNat)
 case atStart=>exact⟨0,afK _,rfl,a0n _ _⟩
 case round=>
  obtain⟨k,R,rfl,hb⟩:=hrel;have c6:=(hb.cell (p:=⟨N,6,none⟩) hbl).trans b6;have hkn:=L
  by_cases Z:k<n
  ·have q0:=(hb.cell (p:=⟨g,k,none⟩) abj).trans (HGC.out k iM)
   unfold ints at q0
   rw[agD,List.getElem?_append_left (by simp;omega),agn,afP (by omega)]at q0
   obtain⟨a',c',e,e0⟩|⟨lb,lo,afg,e,_,hlb,hlc⟩:=((HLR.out).later hb).2
   ·omega
   ·cases e
    have q1:=hlc _ _ (Mm keep k (by omega))
    rw[agV]at q1
    have q2:wr.cell? ⟨g,k,none⟩=some (.int .i64 keep[k]):=q0;have hx:(k:Int)<(n2:Int):=iM
    have hx2:(k:Int)<(n:Int):=by omega
    have hk0:(0:Int)<=(k:Int):=by omega
    clear hlc q0 b6;generalize keep[k]=z at*;clear hkn;go_wp2_with fail
    go_quiet (fail)
    go_wp2_with fail
    exact⟨⟨k+1,by omega,by go_num,ahH hb _⟩,aA⟩
  ·have e:k=n:=by omega
   subst e;have q0:=(hb.cell (p:=⟨g,k,none⟩) abj).trans (HGC.out k iM);have q1:=(hb.cell (p:=⟨g,k+1,none⟩) abj).trans (HGC.out (k+1) iM);unfold ints at q0 q1
   rw[agD,List.getElem?_append_right (by simp;omega)]at q0 q1
   have e0:k-(List.map (Value.int .i64) keep).length=0:=by simp;omega
   have e1:k+1-(List.map (Value.int .i64) keep).length=1:=by simp;omega
   rw[e0]at q0
   rw[e1]at q1
   have q2:wr.cell? ⟨g,k,none⟩=some (.int .i64 (-77)):=q0;have q3:wr.cell? ⟨g,k+1,none⟩=some (.int .i64 (-77)):=q1;have hx:(k:Int)<(n2:Int):=iM
   have hx1:(k:Int)+1<(n2:Int):=iM
   have hk0:(0:Int)<=(k:Int):=by omega
   have hw1:IntKind.i64.wrap ((k:Int)+1)=(k:Int)+1:=aW
   have hm:IntKind.i64.wrap (-77)= -77:=by decide
   clear q0 q1 e0 e1 hkn b6;go_wp2_with fail;go_ret;obtain⟨h1,h2⟩:=aey.out;have f7:=Fr.aK ow6 hb (λ_=>False) 0
   exact⟨by first|rfl|simp,_,h1.frame f7 (λx=>x) (λx=>x) (λx=>x),h2.trans (f7.mono (λ_ x=>x.elim)) (λ_ x=>x)⟩
namespace Rl
theorem bU.has{f:Option az}(h:bU w ow i B xv dv f)(b:Bool):bU (w.setCell ⟨B,4,none⟩ (.bool b)) ow i B xv dv f/\Fr (λc=>c=30+3*i) w ow (w.setCell ⟨B,4,none⟩ (.bool b)) ow:=by
 have k:=DU w ow ⟨B,4,none⟩ (.bool b) (c:=30+3*i) h.own;obtain⟨v,l⟩:=h.c4;refine⟨⟨h.own,by simpa using h.lt,?_,?_,?_,?_,⟨b,aex _ _ _ l⟩,λj d=>jP,h.Fy.frame k (by omega) (by omega)⟩,k⟩
 ·rw[bB _ _ _ _ _ (by omega)];exact h.c0
 ·rw[bB _ _ _ _ _ (by omega)];exact h.c1
 ·rw[bB _ _ _ _ _ (by omega)];exact h.c2
 ·rw[bB _ _ _ _ _ (by omega)];exact h.c3
theorem bU.nobody{m:Option az}(h:bU w ow i B xv dv m):
  bU (((w.setCell ⟨B,2,none⟩ (.pointer none)).setCell ⟨B,3,none⟩ (.pointer none)).setCell ⟨B,4,none⟩ (.bool true)) ow i B xv dv m/\Fr (λc=>c=30+3*i) w ow (((w.setCell ⟨B,2,none⟩ (.pointer none)).setCell ⟨B,3,none⟩ (.pointer none)).setCell ⟨B,4,none⟩ (.bool true)) ow:=by
 have l:=DU w ow ⟨B,2,none⟩ (.pointer none) (c:=30+3*i) h.own
 have f:bU (w.setCell ⟨B,2,none⟩ (.pointer none)) ow i B xv dv m:=by
  obtain⟨v,p⟩:=h.c4;refine⟨h.own,by simpa using h.lt,?_,?_,aex _ _ _ h.c2,?_,⟨v,?_⟩,λj d=>jP,h.Fy.frame l (by omega) (by omega)⟩
  ·rw[bB _ _ _ _ _ (by omega)];exact h.c0
  ·rw[bB _ _ _ _ _ (by omega)];exact h.c1
  ·rw[bB _ _ _ _ _ (by omega)];exact h.c3
  ·grind[bB]
 have k:=DU (w.setCell ⟨B,2,none⟩ (.pointer none)) ow ⟨B,3,none⟩ (.pointer none) (c:=30+3*i) h.own
 have r:bU ((w.setCell ⟨B,2,none⟩ (.pointer none)).setCell ⟨B,3,none⟩ (.pointer none)) ow i B xv dv m:=by
  obtain⟨v,p⟩:=f.c4;refine⟨h.own,by simpa using h.lt,?_,?_,?_,aex _ _ _ f.c3,⟨v,?_⟩,λj d=>jP,f.Fy.frame k (by omega) (by omega)⟩
  ·rw[bB _ _ _ _ _ (by omega)];exact f.c0
  ·rw[bB _ _ _ _ _ (by omega)];exact f.c1
  ·rw[bB _ _ _ _ _ (by omega)];exact f.c2
  ·grind[bB]
 obtain⟨q,o⟩:=r.has true
 exact⟨q,(l.trans k (λ_ x=>x)).trans o (λ_ x=>x)⟩
end Rl
theorem rA(w:World)(ow:Nat->Nat)(i B G:Nat)(xv dv:Value)(y q:Option az)(k W A C:Int)(S T:ByteArray)(u:Option Addr)(s t:Nat)(h:bU w ow i B xv dv y)(z:3<=k/\k<=8)(F:∀r o,bU r o i B xv dv y->Fr (λc=>c=30+3*i) w ow r o->ai3 11 #[.pointer (some ⟨B,0,none⟩),Gy k W A C S T u s t] r λe p=>e=.returned (.bool true)/\∃m,bU p m i B xv dv q/\Fr (λc=>c=30+3*i\/c=31+3*i\/c=32+3*i) r o p m):
  ai3 7 #[.pointer (some ⟨G,0,none⟩),.pointer (some ⟨B,0,none⟩),Gy k W A C S T u s t] w λe p=>e=.returned (.tuple #[.bool true,.int .i64 1])/\∃m,bU p m i B xv dv q/\Fr (λc=>c=30+3*i\/c=31+3*i\/c=32+3*i) w ow p m:=by
 have l:=jX w (.int .i64 k) (.int .i64 W) (.int .i64 A) (.int .i64 C) (.string S) (.string T) (.slice u s t) 39;have D:=Fr.aK ow ((a0n _ w).alloc (afA _) (.cells #[.int .i64 k,.int .i64 W,.int .i64 A,.int .i64 C,.string S,.string T,.slice u s t] 39)) (λ_=>False) 0;have d:=h.frame D (λx=>x) (λx=>x) (λx=>x);obtain⟨H,J⟩:=d.has false;have E:=(D.mono (λ_ x=>(x.elim:_=30+3*i))).trans J (λ_ x=>x);have j:=F _ _ H E;have f:=hide E;have k3:decide (3<=k)=true:=afL z.1;have k8:decide (k<=8)=true:=afL z.2;exact aqV
theorem a3c(w:World)(ow:Nat->Nat)(i B G:Nat)(xv dv:Value)(u p:Option az)(W A C:Int)(S T:ByteArray)(t:Option Addr)(r s:Nat)(h:bU w ow i B xv dv u)(D:∀q m,bU q m i B xv dv u->Fr (λc=>c=30+3*i) w ow q m->ai3 11 #[.pointer (some ⟨B,0,none⟩),Gy 24 W A C S T t r s] q λe o=>e=.returned (.bool true)/\∃k,bU o k i B xv dv p/\Fr (λc=>c=30+3*i\/c=31+3*i\/c=32+3*i) q m o k):
  ai3 7 #[.pointer (some ⟨G,0,none⟩),.pointer (some ⟨B,0,none⟩),Gy 24 W A C S T t r s] w λe o=>e=.returned (.tuple #[.bool true,.int .i64 1])/\∃k,bU o k i B xv dv p/\Fr (λc=>c=30+3*i\/c=31+3*i\/c=32+3*i) w ow o k:=by
 have l:=jX w (.int .i64 24) (.int .i64 W) (.int .i64 A) (.int .i64 C) (.string S) (.string T) (.slice t r s) 39;have y:=Fr.aK ow ((a0n _ w).alloc (afA _) (.cells #[.int .i64 24,.int .i64 W,.int .i64 A,.int .i64 C,.string S,.string T,.slice t r s] 39)) (λ_=>False) 0;have d:=h.frame y (λx=>x) (λx=>x) (λx=>x);obtain⟨E,F⟩:=d.has false;have z:=(y.mono (λ_ x=>(x.elim:_=30+3*i))).trans F (λ_ x=>x);have j:=D _ _ E z;have f:=hide z;exact aqV
theorem a3d(w:World)(ow:Nat->Nat)(i B G:Nat)(xv dv:Value)(E:Option az)(k W A C:Int)(S T:ByteArray)(y:Option Addr)(d u:Nat)(P:World->Prop)(h:bU w ow i B xv dv E)(R:9<=k/\k<=11)(F:∀w1,Fr (λ_=>False) w ow w1 (ext w ow 0)->bU w1 (ext w ow 0) i B xv dv E->ai3 12 #[.pointer (some ⟨G,0,none⟩),.pointer (some ⟨B,0,none⟩),Gy k W A C S T y d u] w1 λe w'=>e=.returned (.bool true)/\P w'):
  ai3 7 #[.pointer (some ⟨G,0,none⟩),.pointer (some ⟨B,0,none⟩),Gy k W A C S T y d u] w λe w'=>e=.returned (.tuple #[.bool true,.int .i64 1])/\P w':=by
 have bx:=jX w (.int .i64 k) (.int .i64 W) (.int .i64 A) (.int .i64 C) (.string S) (.string T) (.slice y d u) 39;have f0:=Fr.aK ow ((a0n _ w).alloc (afA _) (.cells #[.int .i64 k,.int .i64 W,.int .i64 A,.int .i64 C,.string S,.string T,.slice y d u] 39)) (λ_=>False) 0;have J:=h.frame f0 (λx=>x) (λx=>x) (λx=>x);have L:=F _ f0 J;have k3:decide (3<=k)=true:=afL (by omega);have k8:decide (k<=8)=false:=afG (by omega);have k24:(k==24)=false:=ax
 have k9:decide (9<=k)=true:=afL R.1;have k11:decide (k<=11)=true:=afL R.2;obtain⟨O,b1,b2,b3,b4,b5,b6,bl⟩:=bx;unfold Gy at*;go_enter Qf7,ntmps7;go_wp2_with (go_at_call 12;refine L.ai ?_;intro w2 h2);go_ret2
 exact⟨rfl,h2⟩
theorem Y7(w:World)(ow:Nat->Nat)(i B G:Nat)(xv dv:Value)(o:Option az)(W A C:Int)(S T:ByteArray)(l:Option Addr)(j k:Nat)(h:bU w ow i B xv dv o):
  ai3 7 #[.pointer (some ⟨G,0,none⟩),.pointer (some ⟨B,0,none⟩),Gy 23 W A C S T l j k] w λe m=>e=.returned (.tuple #[.bool true,.int .i64 0])/\∃f,bU m f i B xv dv o/\Fr (λc=>c=30+3*i) w ow m f:=by
 have u:=jX w (.int .i64 23) (.int .i64 W) (.int .i64 A) (.int .i64 C) (.string S) (.string T) (.slice l j k) 39;have p:=Fr.aK ow ((a0n _ w).alloc (afA _) (.cells #[.int .i64 23,.int .i64 W,.int .i64 A,.int .i64 C,.string S,.string T,.slice l j k] 39)) (λ_=>False) 0;have d:=h.frame p (λx=>x) (λx=>x) (λx=>x);obtain⟨s,t⟩:=d.nobody;have z:=s;have y:=hide ((p.mono (λ_ x=>(x.elim:_=30+3*i))).trans t (λ_ x=>x));have D:=d.fz 2 (by omega);have z3:=d.fz 3 (by omega);have z4:=d.fz 4 (by omega);have H:=d.c2;have F:=d.c3;obtain⟨v4,E⟩:=d.c4;have r:=d.lt;obtain⟨Q,P,O,N,M,L,K,J⟩:=u;have q:w.heap.size≠B:=agX h.lt;unfold Gy;go_enter Qf7,ntmps7;go_wp2_with fail;go_ret2
 exact⟨rfl,_,z,y.out⟩
theorem a6F(w:World)(ow:Nat->Nat)(i B G:Nat)(xv dv:Value)(E:Option az)(k W A C:Int)(S T:ByteArray)(y:Option Addr)(d u:Nat)(h:bU w ow i B xv dv E)(R:k<=2\/25<=k):
  ai9 7 #[.pointer (some ⟨G,0,none⟩),.pointer (some ⟨B,0,none⟩),Gy k W A C S T y d u] w (.tuple #[.bool true,.int .i64 0]):=by
 have bx:=jX w (.int .i64 k) (.int .i64 W) (.int .i64 A) (.int .i64 C) (.string S) (.string T) (.slice y d u) 39;have f0:=Fr.aK ow ((a0n _ w).alloc (afA _) (.cells #[.int .i64 k,.int .i64 W,.int .i64 A,.int .i64 C,.string S,.string T,.slice y d u] 39)) (λ_=>False) 0;have J:=h.frame f0 (λx=>x) (λx=>x) (λx=>x);have k24:(k==24)=false:=ax
 have k12:(k==12)=false:=ax
 have k22:(k==22)=false:=ax
 have k13:(k==13)=false:=ax
 have k23:(k==23)=false:=ax
 have k17:(k==17)=false:=ax
 have k18:(k==18)=false:=ax
 obtain⟨v4,L⟩:=J.c4;have F:=J.lt;obtain⟨O,b1,b2,b3,b4,b5,b6,bl⟩:=bx;unfold Gy;obtain R|R:=R
 ·have k3:decide (3<=k)=false:=afG (by omega)
  have k9:decide (9<=k)=false:=afG (by omega);have k14:decide (14<=k)=false:=afG (by omega);cases v4 with
  |true=>
   exact aie
  |false=>
   exact aie
 ·have k3:decide (3<=k)=true:=afL (by omega)
  have k8:decide (k<=8)=false:=afG (by omega);have k9:decide (9<=k)=true:=afL (by omega);have k11:decide (k<=11)=false:=afG (by omega);have k14:decide (14<=k)=true:=afL (by omega);have k21:decide (k<=21)=false:=afG (by omega);cases v4 with
  |true=>
   exact aie
  |false=>
   exact aie
end Go.Proofs.Zq
