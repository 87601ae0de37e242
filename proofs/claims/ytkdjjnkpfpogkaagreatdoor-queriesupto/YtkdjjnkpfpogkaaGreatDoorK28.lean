import Derived.Deep.RegionHeld3
import Derived.Test.YtkdjjnkpfpogkaaGreatDoorK27
set_option maxHeartbeats 8000000
set_option linter.all false
set_option maxRecDepth 20000
namespace Go
def NS{P:Prop}(h:P:=by
 have bxd:=bx.drew;have J:=h.frame f0 (λx=>x) (λx=>x) (λx=>x);have HBO:=hb _ _ J.Fy;have HF0:=hide f0;have HW0:=hide J;have RY:=hide bxd;have o:=hide K;obtain⟨O,b1,b2,b3,b4,b5,b6,bl⟩:=bx;have hS1:=Yk J bxd;unfold Gy;go_enter ale,ntmps11;go_wp2_with fail
 go_region_held (λw'=>w'.cell? ⟨B,0,none⟩=some xv/\w'.cell? ⟨B,1,none⟩=some dv/\w'.cell? ⟨w.heap.size,2,none⟩=some (.int .i64 A)/\w'.cell? ⟨w.heap.size,4,none⟩=some (.string S)/\w'.cell? ⟨w.heap.size,5,none⟩=some (.string T)) (first|assumption|(exact hS1)|(exact Qa HW0.out RY.out o.out f1 (by omega) (by omega))) (first|((first|go_at_call 27|go_at_call 29|go_at_call 31|go_at_call 33|go_at_call 35|go_at_call 37);refine HBO.x.ai ?_;rintro w1 ⟨qL,f1,hx⟩))
 rename_i D;have l:w1.drew.cell? ⟨B,0,none⟩=some xv/\w1.drew.cell? ⟨B,1,none⟩=some dv/\w1.drew.cell? ⟨w.heap.size,2,none⟩=some (.int .i64 A)/\w1.drew.cell? ⟨w.heap.size,4,none⟩=some (.string S)/\w1.drew.cell? ⟨w.heap.size,5,none⟩=some (.string T):=D;have s:=hide hx;have f1d:=f1.drew';have F:=hide f1d;go_wp2_with fail
 go_region_held (λw'=>w'.cell? ⟨B,0,none⟩=some xv/\w'.cell? ⟨B,1,none⟩=some dv/\w'.cell? ⟨w.heap.size,2,none⟩=some (.int .i64 A)/\w'.cell? ⟨w.heap.size,4,none⟩=some (.string S)/\w'.cell? ⟨w.heap.size,5,none⟩=some (.string T)) (first|assumption|(exact l)|(exact Yl HW0.out RY.out o.out f1d f2 (by omega) (by omega) (by omega) (by omega))) (first|((first|go_at_call 28|go_at_call 30|go_at_call 32|go_at_call 34|go_at_call 36|go_at_call 38);refine(HBO.d _ qL f1d).ai ?_;rintro w2 ⟨d,f2,L⟩))
 go_wp2_with fail;go_ret;have f12:=(f1d.mono (λc(x:c=31+3*i)=>(Or.inl x:c=31+3*i\/c=32+3*i))).trans (f2.mono (λc(x:c=32+3*i)=>(Or.inr x:c=31+3*i\/c=32+3*i))) (λ_ x=>x)
 have hx2:∀m,f=some m->∃q,xv=.pointer (some ⟨q,0,none⟩)/\gu w1.drew (Own w1.drew qL (31+3*i)) q m:=λm hm=>by
  obtain⟨q,e,hq⟩:=s.out m hm
  exact⟨q,e,hq.later (a0n _ _).drew⟩
 refine⟨by first|rfl|simp,d,HW0.out.shell f12 (by omega) (MS HBO.nil f2 hx2 L),(HF0.out.mono ?_).trans (f12.mono ?_) (λ_ x=>x)⟩
 ·intro c M;exact M.elim
 ·intro c M;omega):P:=h
def air{P:Prop}(h:P:=by
 go_enter Qf8,ntmps8;go_wp2;go_ret;have:=HM.out
 exact⟨_,by omega,congrArg (λz=>Ending.returned (.int .i64 z)) HZ.out,rfl⟩):P:=h
def BB{P:Prop}(h:P:=by
 go_ret
 exact⟨rfl,(a0n _ _).alloc (afA _) _⟩):P:=h
end Go
namespace Go.Proofs.Zq
open Tryz
open Go.RowKit
open Rl
variable{T S:ByteArray}{w w1:World}{I qL:Nat->Nat}{n i B:Nat}{a b d g xv dv:Value}{A:Int}
namespace Rl
def Gy(c W A C:Int)(S T:ByteArray)(h:Option Addr)(e f:Nat):Value:=.agg #[.int .i64 c,.int .i64 W,.int .i64 A,.int .i64 C,.string S,.string T,.slice h e f]
structure Bx7(w:World)(n:Nat)(a b c d e f g:Value):Prop where
 c0:w.cell? ⟨n,0,none⟩=some a
 c1:w.cell? ⟨n,1,none⟩=some b
 c2:w.cell? ⟨n,2,none⟩=some c
 c3:w.cell? ⟨n,3,none⟩=some d
 c4:w.cell? ⟨n,4,none⟩=some e
 c5:w.cell? ⟨n,5,none⟩=some f
 c6:w.cell? ⟨n,6,none⟩=some g
 lt:n<w.heap.size
theorem jX(w:World)(a b c d e f g)(T):Bx7 (w.alloc (.cells #[a,b,c,d,e,f,g] T)) w.heap.size a b c d e f g:=
 ⟨by simp,by simp,by simp,by simp,by simp,by simp,by simp,by simp⟩
theorem Bx7.frame{T}{q}{o}{k}{c e f}(h:Bx7 w n a b c d e f g)(j:Fr T w I q o)(l:I n=k)(m:¬T k):Bx7 q n a b c d e f g:=
 ⟨(j.cell (p:=⟨n,0,none⟩) h.lt l m).trans h.c0,(j.cell (p:=⟨n,1,none⟩) h.lt l m).trans h.c1,(j.cell (p:=⟨n,2,none⟩) h.lt l m).trans h.c2,(j.cell (p:=⟨n,3,none⟩) h.lt l m).trans h.c3,(j.cell (p:=⟨n,4,none⟩) h.lt l m).trans h.c4,(j.cell (p:=⟨n,5,none⟩) h.lt l m).trans h.c5,(j.cell (p:=⟨n,6,none⟩) h.lt l m).trans h.c6,afB h.lt j.size⟩
theorem Bx7.drew{w}{n}{a b c d e f g}(h:Bx7 w n a b c d e f g):Bx7 w.drew n a b c d e f g:=⟨h.c0,h.c1,h.c2,h.c3,h.c4,h.c5,h.c6,h.lt⟩
theorem Fr.drew'{T}{e}{c}(h:Fr T w I e c):Fr T w I e.drew c:=⟨h.os,h.tape,h.output,h.size,h.keep⟩
theorem Yk{e}(h:bU w I i B xv dv e)(c:Bx7 w n a b (.int .i64 A) d (.string S) (.string T) g):
  w.cell? ⟨B,0,none⟩=some xv/\w.cell? ⟨B,1,none⟩=some dv/\w.cell? ⟨n,2,none⟩=some (.int .i64 A)/\w.cell? ⟨n,4,none⟩=some (.string S)/\w.cell? ⟨n,5,none⟩=some (.string T):=⟨h.c0,h.c1,c.c2,c.c4,c.c5⟩
theorem Qa{f}{k}(h:bU w I i B xv dv k)(m:Bx7 w n a b (.int .i64 A) d (.string S) (.string T) g)(l:I n=0)(e:Fr f w I w1 qL)(j:¬f (30+3*i))(o:¬f 0):
  w1.cell? ⟨B,0,none⟩=some xv/\w1.cell? ⟨B,1,none⟩=some dv/\w1.cell? ⟨n,2,none⟩=some (.int .i64 A)/\w1.cell? ⟨n,4,none⟩=some (.string S)/\w1.cell? ⟨n,5,none⟩=some (.string T):=by
 have c:=m.frame e l o
 exact⟨(e.cell (p:=⟨B,0,none⟩) h.lt h.own j).trans h.c0,(e.cell (p:=⟨B,1,none⟩) h.lt h.own j).trans h.c1,c.c2,c.c4,c.c5⟩
theorem Yl{f e}{c}{j}{l}(h:bU w I i B xv dv l)(p:Bx7 w n a b (.int .i64 A) d (.string S) (.string T) g)(m:I n=0)(o:Fr f w I w1 qL)(k:Fr e w1 qL c j)(t:¬f (30+3*i))(s:¬f 0)(r:¬e (30+3*i))(q:¬e 0):
  c.cell? ⟨B,0,none⟩=some xv/\c.cell? ⟨B,1,none⟩=some dv/\c.cell? ⟨n,2,none⟩=some (.int .i64 A)/\c.cell? ⟨n,4,none⟩=some (.string S)/\c.cell? ⟨n,5,none⟩=some (.string T):=
 Qa h p m ((o.mono (λ_ x=>Or.inl x)).trans (k.mono (λ_ x=>(Or.inr x:f _\/e _))) (λ_ x=>x)) (λx=>x.elim t r) (λx=>x.elim s q)
theorem MS{h}{f}{e}(l:e=none->xv=.pointer none/\dv=.pointer none)(t:Fr (λc=>c=32+3*i) w1 qL h f)(k:∀m,e=some m->∃q,xv=.pointer (some ⟨q,0,none⟩)/\gu w1 (Own w1 qL (31+3*i)) q m)(o:∀m,e=some m->∃p j,dv=.pointer (some ⟨p,0,none⟩)/\bK h (Own h f (32+3*i)) p j m):gX h f i xv dv e:=by
 cases e with
 |none=>exact l rfl
 |some m=>
  obtain⟨q,v,s⟩:=k m rfl;obtain⟨p,j,u,r⟩:=o m rfl
  exact⟨q,p,j,v,u,s.frame t (by omega),r⟩
end Rl
theorem RZ(w)(I)(i B)(xv dv)(L f)(E)(W A C)(S T)(J)(y F)(h:bU w I i B xv dv L)(hb:∀w1 qL,gX w1 qL i xv dv L->Both 27 28 [.string S,.string T] w1 qL i xv dv f E):
  ai3 11 #[.pointer (some ⟨B,0,none⟩),Gy 3 W A C S T J y F] w λe w'=>e=.returned (.bool true)/\∃u,bU w' u i B xv dv f/\Fr (λc=>c=30+3*i\/c=31+3*i\/c=32+3*i) w I w' u:=by
 have f0:=Fr.aK I (((a0n _ w).alloc (afA _) (.cells #[.int .i64 3,.int .i64 W,.int .i64 A,.int .i64 C,.string S,.string T,.slice J y F] 39)).drew) (λ_=>False) 0;have K:ext w I 0 w.heap.size=0:=dh
 have bx:=jX w (.int .i64 3) (.int .i64 W) (.int .i64 A) (.int .i64 C) (.string S) (.string T) (.slice J y F) 39;exact NS
theorem Ym(w)(I)(i B)(xv dv)(L f)(E)(W A C)(S T)(J)(y F)(h:bU w I i B xv dv L)(hb:∀w1 qL,gX w1 qL i xv dv L->Both 29 30 [.string S] w1 qL i xv dv f E):
  ai3 11 #[.pointer (some ⟨B,0,none⟩),Gy 4 W A C S T J y F] w λe w'=>e=.returned (.bool true)/\∃u,bU w' u i B xv dv f/\Fr (λc=>c=30+3*i\/c=31+3*i\/c=32+3*i) w I w' u:=by
 have f0:=Fr.aK I (((a0n _ w).alloc (afA _) (.cells #[.int .i64 4,.int .i64 W,.int .i64 A,.int .i64 C,.string S,.string T,.slice J y F] 39)).drew) (λ_=>False) 0;have K:ext w I 0 w.heap.size=0:=dh
 have bx:=jX w (.int .i64 4) (.int .i64 W) (.int .i64 A) (.int .i64 C) (.string S) (.string T) (.slice J y F) 39;exact NS
theorem R6(w)(I)(i B)(xv dv)(L f)(E)(W A C)(S T)(J)(y F)(h:bU w I i B xv dv L)(hb:∀w1 qL,gX w1 qL i xv dv L->Both 31 32 [.string S,.string T] w1 qL i xv dv f E):
  ai3 11 #[.pointer (some ⟨B,0,none⟩),Gy 5 W A C S T J y F] w λe w'=>e=.returned (.bool true)/\∃u,bU w' u i B xv dv f/\Fr (λc=>c=30+3*i\/c=31+3*i\/c=32+3*i) w I w' u:=by
 have f0:=Fr.aK I (((a0n _ w).alloc (afA _) (.cells #[.int .i64 5,.int .i64 W,.int .i64 A,.int .i64 C,.string S,.string T,.slice J y F] 39)).drew) (λ_=>False) 0;have K:ext w I 0 w.heap.size=0:=dh
 have bx:=jX w (.int .i64 5) (.int .i64 W) (.int .i64 A) (.int .i64 C) (.string S) (.string T) (.slice J y F) 39;exact NS
theorem R7(w)(I)(i B)(xv dv)(L f)(E)(W A C)(S T)(J)(y F)(h:bU w I i B xv dv L)(hb:∀w1 qL,gX w1 qL i xv dv L->Both 33 34 [.string S] w1 qL i xv dv f E):
  ai3 11 #[.pointer (some ⟨B,0,none⟩),Gy 6 W A C S T J y F] w λe w'=>e=.returned (.bool true)/\∃u,bU w' u i B xv dv f/\Fr (λc=>c=30+3*i\/c=31+3*i\/c=32+3*i) w I w' u:=by
 have f0:=Fr.aK I (((a0n _ w).alloc (afA _) (.cells #[.int .i64 6,.int .i64 W,.int .i64 A,.int .i64 C,.string S,.string T,.slice J y F] 39)).drew) (λ_=>False) 0;have K:ext w I 0 w.heap.size=0:=dh
 have bx:=jX w (.int .i64 6) (.int .i64 W) (.int .i64 A) (.int .i64 C) (.string S) (.string T) (.slice J y F) 39;exact NS
theorem MU(w)(I)(i B)(xv dv)(L f)(E)(W A C)(S T)(J)(y F)(h:bU w I i B xv dv L)(hb:∀w1 qL,gX w1 qL i xv dv L->Both 35 36 [.string S,.int .i64 A] w1 qL i xv dv f E):
  ai3 11 #[.pointer (some ⟨B,0,none⟩),Gy 7 W A C S T J y F] w λe w'=>e=.returned (.bool true)/\∃u,bU w' u i B xv dv f/\Fr (λc=>c=30+3*i\/c=31+3*i\/c=32+3*i) w I w' u:=by
 have f0:=Fr.aK I (((a0n _ w).alloc (afA _) (.cells #[.int .i64 7,.int .i64 W,.int .i64 A,.int .i64 C,.string S,.string T,.slice J y F] 39)).drew) (λ_=>False) 0;have K:ext w I 0 w.heap.size=0:=dh
 have bx:=jX w (.int .i64 7) (.int .i64 W) (.int .i64 A) (.int .i64 C) (.string S) (.string T) (.slice J y F) 39;exact NS
theorem Va(w)(I)(i B)(xv dv)(L f)(E)(W A C)(S T)(J)(y F)(h:bU w I i B xv dv L)(hb:∀w1 qL,gX w1 qL i xv dv L->Both 37 38 [.int .i64 A] w1 qL i xv dv f E):
  ai3 11 #[.pointer (some ⟨B,0,none⟩),Gy 24 W A C S T J y F] w λe w'=>e=.returned (.bool true)/\∃u,bU w' u i B xv dv f/\Fr (λc=>c=30+3*i\/c=31+3*i\/c=32+3*i) w I w' u:=by
 have f0:=Fr.aK I (((a0n _ w).alloc (afA _) (.cells #[.int .i64 24,.int .i64 W,.int .i64 A,.int .i64 C,.string S,.string T,.slice J y F] 39)).drew) (λ_=>False) 0;have K:ext w I 0 w.heap.size=0:=dh
 have bx:=jX w (.int .i64 24) (.int .i64 W) (.int .i64 A) (.int .i64 C) (.string S) (.string T) (.slice J y F) 39;exact NS
theorem Ez(V U)(l)(w)(hl:l.length<=1073741824)(O:bz w V l.length 1 (mP l))(L:bz w U l.length 1 (mP l)):
  ai9 19 #[V,U] w (.bool true):=by
 obtain⟨x,y,J,hn⟩|⟨b,o,cap,J,hn,Q,M⟩:=O.2
 ·have e0:l=[]:=afT hn
  subst e0;obtain⟨x2,y2,u,E⟩|⟨b2,j,N,u,E,F,G⟩:=L.2
  ·subst J u
   go_enter ak5,ntmps19;go_wp2;refine ahF 1 ?_
   rw[ahG]
   go_wp2;go_ret
   exact aN
  ·subst J u
   have hz:((([]:List ByteArray).length:Nat):Int)=0:=rfl;go_enter ak5,ntmps19;go_wp2;refine ahF 1 ?_
   rw[ahG]
   go_wp2;go_ret
   exact aN
 ·obtain⟨x,y,u,E⟩|⟨b2,j,N,u,E,F,G⟩:=L.2
  ·subst J u
   have e0:l=[]:=afT E;subst e0;go_enter ak5,ntmps19;go_wp2;refine ahF 1 ?_
   rw[ahG]
   go_wp2;go_ret
   exact aN
  ·subst J u
   have X:((l.length:Int) != (l.length:Int))=false:=by simp
   go_enter ak5,ntmps19;go_wp2
   go_loopw [5] (λi wr=>∃k:Nat,k<=l.length/\i=.int .i64 k/\ah' w wr) (λi _=>l.length-(intOf i).toNat)
   case atStart=>exact⟨0,afK _,rfl,a0n _ _⟩
   case round=>
    obtain⟨k,R,rfl,D⟩:=hrel
    by_cases Z:k<l.length
    ·have g1:=K7 l k Z
     have q1:=(D.cell (p:=⟨b,o+k*1,none⟩) Q).trans (M _ _ g1);have q3:=(D.cell (p:=⟨b2,j+k*1,none⟩) F).trans (G _ _ g1)
     rw[agV]at q1 q3
     generalize l[k]=p at*;have W:(k:Int)<(l.length:Int):=by omega
     have Y:(0:Int)<=(k:Int):=by omega
     go_wp2
     go_quiet (fail)
     go_wp2
     exact⟨⟨k+1,by omega,by go_num,ahH D _⟩,aA⟩
    ·clear M G
     go_wp2;go_ret
     exact⟨rfl,D⟩
theorem a1Q(w):ai9 25 #[.slice none 0 0,.slice none 0 0] w (.bool true):=by
 go_enter anD,ntmps25;go_wp2;refine ahF 1 ?_
 rw[ahG]
 go_wp2;go_ret
 exact aN
theorem a1R(c)(n:Nat)(hn:0<n)(N:n<=4194304)(K: -9223372036854775808<=c)(O:c<=9223372036854775807)(w):
  ai3 8 #[.int .i64 c,.int .i64 (n:Int)] w λe w'=>∃k,k<n/\e=.returned (.int .i64 (k:Int))/\w'=w:=by
 by_cases u:c<0
 ·have L:decide (c<0)=true:=afL u
  have M:IntKind.i64.wrap (c+1)=c+1:=aW
  have J:IntKind.i64.wrap (-(c+1))= -(c+1):=aW
  have y:0<=(-(c+1))%(n:Int):=Int.emod_nonneg _ (by omega);have E:(-(c+1))%(n:Int)<(n:Int):=Int.emod_lt_of_pos _ (by omega)
  have F: -(c+1).tmod (n:Int)=(((-(c+1))%(n:Int)).toNat:Int):=by rw[<-Int.neg_tmod,Int.tmod_eq_emod_of_nonneg (by omega)];omega
  have HZ:=hide F;have HM:=hide E;clear F y E;exact air
 ·have L:decide (c<0)=false:=afG u
  have y:0<=c%(n:Int):=Int.emod_nonneg _ (by omega);have HM:=hide (Int.emod_lt_of_pos c (b:=(n:Int)) (by omega));have HZ:Hid (c%(n:Int)=((c%(n:Int)).toNat:Int)):=by unfold Hid;omega
  clear y;exact air
def Fz(n:Nat):ByteArray:=⟨#[109,97,114,107]⟩++⟨[UInt8.ofNat n,UInt8.ofNat (n/256)].toArray⟩
theorem Vb(n:Nat)(w):
  ai9 26 #[.int .i64 (n:Int)] w (.string (Fz n)):=by
 have u:(convert 144 9 (.slice (some ⟨w.heap.size,0,none⟩) 2 2)).run ah.prog (w.alloc (.cells #[.int .u8 ((n:Int)%256),.int .u8 ((n:Int)/256%256)] 5))=.ok (.string ⟨[UInt8.ofNat n,UInt8.ofNat (n/256)].toArray⟩) (w.alloc (.cells #[.int .u8 ((n:Int)%256),.int .u8 ((n:Int)/256%256)] 5)):=by
  refine ahU (P:=ah.prog) _ 144 9 5 ⟨w.heap.size,0,none⟩ 2 [UInt8.ofNat n,UInt8.ofNat (n/256)] aiK Qu5 Qu9 ?_;intro j hj;have e1:((UInt8.ofNat n).toNat:Int)=(n:Int)%256:=by rw[UInt8.toNat_ofNat'];omega
  have e2:((UInt8.ofNat (n/256)).toNat:Int)=(n:Int)/256%256:=by rw[UInt8.toNat_ofNat'];omega
  match j,hj with
  |0,_=>rw[afX,e1,nR];simp
  |1,_=>rw[afZ,afX,e2,nR];simp
 have hm:Fz n=⟨#[109,97,114,107]⟩++⟨[UInt8.ofNat n,UInt8.ofNat (n/256)].toArray⟩:=rfl
 rw[hm]
 have Q:¬9223372036854775807<4+[UInt8.ofNat n,UInt8.ofNat (n/256)].length:=by simp
 generalize [UInt8.ofNat n,UInt8.ofNat (n/256)]=l at*;go_enter anE,ntmps26;go_wp2;exact BB
end Go.Proofs.Zq
