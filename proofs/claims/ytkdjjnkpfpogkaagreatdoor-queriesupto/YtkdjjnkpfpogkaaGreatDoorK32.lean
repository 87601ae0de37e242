import Derived.Ground.SlsfProg
import Derived.Shelf.SlSortCmp.WholeK
import Derived.Test.YtkdjjnkpfpogkaaGreatDoorK31
set_option maxHeartbeats 8000000
set_option linter.all false
set_option maxRecDepth 20000
namespace Go
theorem uu{P:Prop}(h:P:=by go_wp2_with (first|(go_at_call 221;refine(Q _).aH ?_)|(go_at_call 216;refine(hcut _).ai ?_;intro w' V;have G:=(V.cell (p:=⟨w.heap.size,a.kind,none⟩) Z).trans k;have c:=(V.frozen (p:=⟨w.heap.size,a.kind,none⟩) Z).trans m;have j:=afB Z V.size)|(go_at_call 254;refine(i _).aH ?_));obtain⟨m1,T,m3,N⟩:=d w' _ V;refine⟨⟨r,met sn a.kind,C,sp,E,rfl,rfl,rfl,by omega,u.out,HM.out,m1,T,m3,N⟩,by simp only[pU];omega⟩):P:=h
end Go
namespace Go.Proofs
open Go.Shelf
def ah.OM:Go.Shelf.Ren:=⟨fun|6=>279|15=>239|14=>309|28=>274|29=>275|20=>321|21=>322|22=>323|23=>324|24=>325|25=>326|26=>327|27=>328|46=>338|47=>303|48=>304|49=>339|50=>340|57=>345|n=>n,fun|22=>226|24=>273|25=>323|3=>3|39=>143|0=>0|53=>317|55=>319|4=>4|46=>311|45=>310|50=>246|5=>5|9=>9|66=>340|70=>344|76=>359|77=>360|n=>n,fun|n=>n⟩
def ah.a2u:Go.Proofs.SlLaysF0.n6 ah.prog ah.OM:={
 mixed:=by kernel_rfl
 f6:=⟨Tryz.f279.name,by decide,akD.trans (congrArg some (by kernel_rfl))⟩
 f14:=⟨Tryz.f309.name,by decide,akK.trans (congrArg some (by kernel_rfl))⟩
 f15:=aiV.trans (congrArg some (by kernel_rfl))
 f20:=⟨Tryz.f321.name,by decide,akM.trans (congrArg some (by kernel_rfl))⟩
 f21:=⟨Tryz.f322.name,by decide,amR.trans (congrArg some (by kernel_rfl))⟩
 f22:=⟨Tryz.f323.name,by decide,amS.trans (congrArg some (by kernel_rfl))⟩
 f23:=⟨Tryz.f324.name,by decide,amT.trans (congrArg some (by kernel_rfl))⟩
 f24:=⟨Tryz.f325.name,by decide,amU.trans (congrArg some (by kernel_rfl))⟩
 f25:=⟨Tryz.f326.name,by decide,amV.trans (congrArg some (by kernel_rfl))⟩
 f26:=⟨Tryz.f327.name,by decide,amW.trans (congrArg some (by kernel_rfl))⟩
 f27:=⟨Tryz.f328.name,by decide,amX.trans (congrArg some (by kernel_rfl))⟩
 f28:=aiY.trans (congrArg some (by kernel_rfl))
 f29:=aiZ.trans (congrArg some (by kernel_rfl))
 f46:=⟨Tryz.f338.name,by decide,am'.trans (congrArg some (by kernel_rfl))⟩
 f47:=ajy.trans (congrArg some (by kernel_rfl))
 f48:=ajz.trans (congrArg some (by kernel_rfl))
 f49:=⟨Tryz.f339.name,by decide,an0.trans (congrArg some (by kernel_rfl))⟩
 f50:=⟨Tryz.f340.name,by decide,an1.trans (congrArg some (by kernel_rfl))⟩
 f57:=⟨Tryz.f345.name,by decide,an2.trans (congrArg some (by kernel_rfl))⟩
 t0:=Qu0
 a0:=Qa0
 z0:=Qs0
 v0:=Qz0
 t3:=Qu3
 a3:=Qa3
 z3:=Qs3
 v3:=Qz3
 t4:=Qu4
 a4:=Qa4
 z4:=Qs4
 v4:=Qz4
 t5:=Qu5
 a5:=Qa5
 z5:=Qs5
 v5:=Qz5
 t9:=Qu9
 a9:=Qa9
 z9:=Qs9
 v9:=Qz9
 t22:=aj5
 a22:=anj
 z22:=ani
 v22:=anh
 t25:=anv
 a25:=anz
 z25:=anx
 v25:=anw
 t39:=aj0
 a39:=aj3
 z39:=aj2
 v39:=aj1
 t45:=ajI
 a45:=ajL
 z45:=ajK
 v45:=ajJ
 t46:=ajM
 a46:=ajP
 z46:=ajO
 v46:=ajN
 t50:=ajE
 a50:=ajH
 z50:=ajG
 v50:=ajF
 t53:=aj6
 a53:=aj9
 z53:=aj8
 v53:=aj7
 t55:=aja
 a55:=ajd
 z55:=ajc
 v55:=ajb
 t66:=ajQ
 a66:=ajT
 z66:=ajS
 v66:=ajR
 t70:=ajU
 a70:=ajX
 z70:=ajW
 v70:=ajV
 t76:=ajY
 a76:=ak0
 z76:=aj'
 v76:=ajZ
 t77:=ak1
 a77:=ak4
 z77:=ak3
 v77:=ak2}
end Go.Proofs
namespace Go.Proofs.Zq
open Go.RowKit Go.Sort
open Rl
variable{w w':World}{B g n:Nat}{e:TypeId}{sn:Nat->Bool}
instance:Inhabited At:=⟨⟨0,0,⟨#[]⟩⟩⟩
def sH(a:At):List Value:=[.int .i64 (a.flags:Int),.int .i64 (a.kind:Int),.string a.val]
def Nr(a b:At):Int:=Lib.compareInt (a.kind:Int) (b.kind:Int)
theorem Ie(a b):ltOf Nr a b=decide (a.kind<b.kind):=by
 unfold ltOf Nr Lib.compareInt
 grind
theorem a2v:SWO (ltOf Nr)where
 irrefl x:=by rw[Ie];simp
 trans x y z b a:=by rw[Ie]at*;simp at*;omega
 ntrans x y z b a:=by rw[Ie]at*;simp at*;omega
theorem YD(d):(flatK sH 3 d).toList=dN d.toList:=by
 apply ah8;intro t
 by_cases i:t<d.size*3
 ·have k:t/3<d.toList.length:=by simp;omega
  obtain⟨b,c,f⟩:=DY d.toList (t/3) k
  have a:(flatK sH 3 d).toList[t]? =some (sH d[t/3]!)[t%3]! :=by
   have h:=get_flatK sH 3 d t i;have j:t<(flatK sH 3 d).size:=by rw[size_flatK];exact i
   rw[ahb _ t j]at h
   rw[<-h]
   simp
  exact ahp
 simp_all[agR,vR]
theorem flat_get(d)(j)(h:j<d.size*3):(dN d.toList)[j]? =some (flatK sH 3 d)[j]! :=by
 have a:j<(flatK sH 3 d).size:=by rw[size_flatK];exact h
 grind[YD]
theorem OO{b:Nat}{l:List At}(h:w.ownsRow B e 3 (.slice (some ⟨g,0,none⟩) n b) n (dN l))(d:n=l.length):HoldsK sH 3 w g 0 l.toArray:=by
 subst d;intro j c;have a:j<l.length*3:=by rw[size_flatK]at c;simpa using c
 refine⟨?_,?_⟩
 ·rw[agj,h.cellAt j a,id]
  exact flat_get l.toArray j (by omega)
 ·rw[agj];exact h.frozenAt j
theorem VA{f:Nat}{l:List At}(h:w.ownsRow B e 3 (.slice (some ⟨g,0,none⟩) n f) n (dN l))(m:Nat)(i:Array At)(os:Array Obj)(u:i.size=n):
  (sortWorldK sH 3 w g 0 m i os).ownsRow B e 3 (.slice (some ⟨g,0,none⟩) n f) n (dN i.toList):=by
 obtain⟨q,_⟩|⟨y,s,p,q,v,a,k,r,o,x⟩:=h.2
 ·simp at q
 ·simp only[ahR,ag1,Addr.mk.injEq,and_true,true_and]at q
  obtain⟨rfl,rfl⟩:=q;have d:g<w.heap.size:=(afD.1 a).1;refine⟨by rw[vR];simp[u],.inr ⟨g,f,putCells id 0 (flatK sH 3 i) p,rfl,v,?_,k,r,by simp[putCells,o],?_⟩⟩
  ·exact BZ
  ·apply ah8
   intro j
   by_cases t:j<n*3
   ·rw[List.getElem?_take_of_lt t,flat_get i j (by omega)]
    have b:j<p.size:=by rw[o];have:=Nat.mul_le_mul_right 3 k;omega
    have c:j<(flatK sH 3 i).size:=by rw[size_flatK];omega
    exact Ca
   ·grind[agR,vR]
theorem Sk(c:B<=g)(b:g<w.heap.size)(m)(a)(os):Below B w (sortWorldK sH 3 w g 0 m a os):=BX
theorem YE(l)(a)(r:(l.map (·.kind)).Nodup)(q:PermIn 0 l.toArray.size l.toArray a)(p:SortedIn (ltOf Nr) 0 l.toArray.size a):a.toList.Perm l/\uq a.toList:=by
 obtain⟨m,_,k⟩:=q;have x:l.toArray.extract 0 l.toArray.size=l.toArray:=by simp
 have v:a.extract 0 l.toArray.size=a:=by rw[<-m];simp
 rw[x,v]at k
 have b:a.toList.Perm l:=by simpa using k
 refine⟨b,?_⟩;have t:(a.toList.map (·.kind)).Nodup:=((b.map _).nodup_iff).2 r;unfold uq
 rw[agl]
 intro i j f d c;have o:a.size=l.toArray.size:=m;have h:=p i j (afK _) c (by intros;simp_all)
 rw[Ie,ahb a i (by simpa using f),ahb a j (by simpa using d),agA]at h
 have s:a[i].kind≠a[j].kind:=by
  have u:=agl.1 t i j (by simpa using f) (by simpa using d) c
  simpa using u
 simp<;>omega
open Tryz
theorem Ns(p)(d)(u)(w):
  ai3 321 #[.slice p 0 d,.int .i64 0,.int .i64 0,u] w λe w'=>e=.returned (.tuple #[])/\w'=w:=by
 go_enter akM,ntmps321;go_wp2;refine ahF 1 ?_
 rw[ahG]
 go_wp2
 go_end0
 exact bG
theorem a5U(p)(d)(u)(y)(w):
  ai3 309 #[.slice p 0 d,.int .i64 0,.int .i64 0,.int .i64 u,y] w λe w'=>e=.returned (.tuple #[])/\w'=w:=by
 go_enter akK,ntmps309;go_wp2;refine ahF 1 ?_
 rw[ahG]
 go_wp2_with (go_at_call 321;refine(Ns p d y _).aH ?_)
 (try simp only[Exit.inBlock,Exit.then]);refine abt (ahA rfl _ _ _) rfl ?_
 exact bG
theorem a2w(p)(d)(u)(w):
  ai3 279 #[.slice p 0 d,u] w λe w'=>e=.returned (.tuple #[])/\w'=w:=by
 go_enter akD,ntmps279;go_wp2_with (first|(go_at_call 239;refine(ah.bits_Len 0 _ (by omega) (by omega)).aH ?_)|(go_at_call 309;refine(a5U p d _ u _).aH ?_))
 go_end0
 exact bG
theorem a2x(x y)(W):ai3 280 #[.agg (sH x).toArray,.agg (sH y).toArray] W λe w'=>e=.returned (.int .i64 (Nr x y))/\∃q os',w'=grow (W.drewN q) os':=by
 have a:=λb=>ah.cmp_Compare_int x.kind y.kind b
 unfold Nr;generalize Lib.compareInt (x.kind:Int) (y.kind:Int)=r at a |-;unfold sH;go_enter akE,ntmps280;go_wp2_with (go_at_call 207;refine(a _).ai ?_;intro w' rfl);go_ret
 exact⟨rfl,0,_,by rw[alloc_eq_grow,alloc_eq_grow,grow_grow];rfl⟩
theorem VB(B)(v)(l)(w)(I:l.length<=1048576)(u:(l.map (·.kind)).Nodup)(a:w.ownsRow B 273 3 v l.length (dN l)):
  ai3 279 #[v,.func (.func 280) #[] #[]] w λe w'=>e=.returned (.tuple #[])/\∃j,j.Perm l/\uq j/\w'.ownsRow B 273 3 v j.length (dN j)/\Below B w w':=by
 have f:=a.2;obtain⟨rfl,A⟩|⟨g,p,H,rfl,D,C,z,E,_,_⟩:=f
 ·have m:l=[]:=afT A
  subst m;refine(a2w none 0 _ w).mono ?_;rintro e w' ⟨o,k⟩
  rw[k]
  exact⟨o,[],List.Perm.refl _,List.Pairwise.nil,a,a0n _ _⟩
 ·have h:g<w.heap.size:=(afD.1 C).1
  have G:∀d w,(callFunc 280 d).run ah.prog w=.ok (.enter 280 d) w:=ahP akE (by kernel_rfl) rfl;have b:=AnyQ.slices_SortFunc ah.a2u 3 anm anl sH (λ_=>rfl) (λx v q=>by simp[sH]at q;obtain rfl|rfl|rfl:=q<;>rfl) Nr a2v 280 #[] g 0 p l.toArray w G (λ_ _ _ _ x y=>a2x x y _) (OO a rfl) h (by simp;omega)
  change ai3 279 _ _ _ at b
  rw[show l.toArray.size=l.length from by simp]at b
  refine b.mono ?_;rintro e w' ⟨o,i,n,os,t,s,k⟩;obtain⟨r,F⟩:=YE l i u (by simpa using t) (by simpa using s);have c:i.toList.length=l.length:=r.length_eq;refine⟨o,i.toList,r,F,?_,?_⟩
  ·rw[k,c]
   exact VA a n i os (by simpa using c)
  ·rw[k];exact Sk D h n i os
open Go.RowKit
def iO(w:World)(b o:Nat)(sn:Nat->Bool):Prop:=∀i,i<256->w.cell? ⟨b,o+i,none⟩=some (.bool (sn i))/\w.frozen? ⟨b,o+i,none⟩=false
theorem iO.later{b o}(h:iO w b o sn)(c:b<w.heap.size)(a:ah' w w'):iO w' b o sn:=by
 intro i d;obtain⟨j,f⟩:=h i d
 exact⟨(a.cell (p:=⟨b,o+i,none⟩) c).trans j,(a.frozen (p:=⟨b,o+i,none⟩) c).trans f⟩
theorem iO.alloc{w}{b o}{sn}(h:iO w b o sn)(c:b<w.heap.size)(a):iO (w.alloc a) b o sn:=
 h.later c ((a0n _ _).alloc (afA _) a)
theorem iO.grown{b o}{c}(h:iO w b o sn)(k:w.grownBy w' c)(l:b<w.heap.size)(d:some b≠c):iO w' b o sn:=by
 intro i j;obtain⟨p,m⟩:=h i j;have f:=k.block b l d
 exact⟨(ahz (a:=⟨b,o+i,none⟩) f).trans p,(ahJ (a:=⟨b,o+i,none⟩) f).trans m⟩
theorem iO.met{w:World}{b o:Nat}{sn:Nat->Bool}(h:iO w b o sn)(k:Nat)(f:k<256):iO (w.setCell ⟨b,o+k,none⟩ (.bool true)) b o (met sn k):=by
 intro i c;obtain⟨a,d⟩:=h i c;refine⟨?_,?_⟩
 ·by_cases e:i=k
  ·subst e
   rw[aex _ _ _ a,D7]
  ·rw[ahB _ _ _ _ (by intro h;injection h;omega),Qm _ _ _ e];exact a
 ·rw[World.frozen?_setCell];exact d
theorem Jj{j:Nat}{a:Nat}{v:Value}{i:List Value}(h:w.ownsRow B e a v n i)(k:j<=B):w.ownsRow j e a v n i:=by
 refine⟨h.1,?_⟩;obtain l|⟨g,f,d,rfl,c,b⟩:=h.2
 ·grind
 ·exact .inr ⟨g,f,d,rfl,afC k c,b⟩
theorem ab0:ah.zeroCells267=Array.replicate 256 (.bool false):=by kernel_rfl
theorem Sl(w:World)(T):iO (w.alloc (.cells ah.zeroCells267 T)) w.heap.size 0 (λ_=>false):=by
 intro i a
 simp_all[ab0]
theorem Sm(t)(a)(w)(b:at8 t.data.toList 0=a):
  ai3 221 #[.int .i64 a] w λe w'=>e=.returned (.int .i64 (OL t:Int))/\w'=w:=by
 subst b;exact Nk _ w (gG _ _)
theorem ab1(f:Nat)(h:f<256):bits .and .i64 (f:Int) 192=((f/64*64:Nat):Int):=by
 have e:(2:Nat)^63=9223372036854775808:=by decide
 have a:=(bits_nat .i64 63 (by decide) kY f 192 (by omega) (by omega)).1
 rw[show(192:Int)=((192:Nat):Int)from rfl,a]
 congr 1
 have b:∀x:Fin 256,x.val&&&192=x.val/64*64:=by decide+kernel
 exact b ⟨f,h⟩
theorem ab2(f:Nat)(h:f<256):bits .and .i64 (f:Int) 128=((f/128*128:Nat):Int):=by
 have e:(2:Nat)^63=9223372036854775808:=by decide
 have a:=(bits_nat .i64 63 (by decide) kY f 128 (by omega) (by omega)).1
 rw[show(128:Int)=((128:Nat):Int)from rfl,a]
 congr 1
 have b:∀x:Fin 256,x.val&&&128=x.val/128*128:=by decide+kernel
 exact b ⟨f,h⟩
theorem acG(f:Nat)(h:f<256):bits .and .i64 (f:Int) 64=((f/64%2*64:Nat):Int):=by
 have e:(2:Nat)^63=9223372036854775808:=by decide
 have a:=(bits_nat .i64 63 (by decide) kY f 64 (by omega) (by omega)).1
 rw[show(64:Int)=((64:Nat):Int)from rfl,a]
 congr 1
 have b:∀x:Fin 256,x.val&&&64=x.val/64%2*64:=by decide+kernel
 exact b ⟨f,h⟩
theorem ab3(f:Nat)(h:f<256)(d:128<=f)(c:64<=f%128):bits .and .i64 (f:Int) 224=((192+f%64/32*32:Nat):Int):=by
 have e:(2:Nat)^63=9223372036854775808:=by decide
 have a:=(bits_nat .i64 63 (by decide) kY f 224 (by omega) (by omega)).1
 rw[show(224:Int)=((224:Nat):Int)from rfl,a]
 congr 1
 have b:∀x:Fin 256,128<=x.val->64<=x.val%128->x.val&&&224=192+x.val%64/32*32:=by decide+kernel
 exact b ⟨f,h⟩ d c
theorem a2y{wr}{i}{f}{T}{o}(k)(m:k<256)(h:iO wr w.heap.size 0 sn)(d:w.heap.size<wr.heap.size)(c:wr.ownsRow (w.heap.size+1) T 3 i f.length (dN f))(b:ah' w wr)(a:ah' wr w'):
  iO ((w'.setCell ⟨w.heap.size,k,none⟩ (.bool true)).alloc o) w.heap.size 0 (met sn k)/\w.heap.size<((w'.setCell ⟨w.heap.size,k,none⟩ (.bool true)).alloc o).heap.size/\((w'.setCell ⟨w.heap.size,k,none⟩ (.bool true)).alloc o).ownsRow (w.heap.size+1) T 3 i f.length (dN f)/\ah' w ((w'.setCell ⟨w.heap.size,k,none⟩ (.bool true)).alloc o):=by
 have j:=afB d a.size;have l:=(h.later d a).met k m
 rw[agj]at l
 refine⟨l.alloc (by simp_all) o,by simp;omega,(ownsRow_setCell_below (bu c a) (Nat.lt_succ_self _) _).alloc o,((af b a b.size).setCell (afA _) _).alloc (by simp;omega) o⟩
theorem Nt(w:World)(p)(b)(o)(a)(T):∀j u,a.toList[j]? =some u->(((w.setCell p b).alloc o).alloc (.cells a T)).cell? ((⟨w.heap.size+1,0,none⟩:Addr).add j)=some u:=by
 intro j u h;have c:=wJ (w.setCell p b) o a T j u h
 simp_all
theorem a5V{s}{wr}{j}{i a}{k}{T}(f:ah' w wr)(r:qc s=some (i,k))(p:Lc s.size sn i)(d:i.length<=s.size)(q:a.Perm i)(m:uq a)(c:w'.ownsRow (w.heap.size+1) T 3 j a.length (dN a))(o:Below (w.heap.size+1) wr w'):
  ah' w w'/\(qc s=none->Ending.returned (.tuple #[j,.bool k,.int .i64 0])=.returned (.tuple #[.slice none 0 0,.bool false,.int .i64 3]))/\(∀l b,qc s=some (l,b)->∃v a,Ending.returned (.tuple #[j,.bool k,.int .i64 0])=.returned (.tuple #[v,.bool b,.int .i64 0])/\a.Perm l/\uq a/\w'.ownsRow w.heap.size T 3 v a.length (dN a)/\Lc s.size (λ_=>true) l/\l.length<=s.size):=by
 refine⟨f.trans (o.mono (Nat.le_succ _)),λh=> ?_,λl b h=> ?_⟩
 ·grind
 ·rw[r]at h
  simp only[ag1,Prod.mk.injEq]at h;obtain⟨rfl,rfl⟩:=h
  exact⟨j,a,rfl,q,m,Jj c (Nat.le_succ _),⟨λ_ _=>rfl,p.once,p.fine⟩,d⟩
theorem vT(s)(w)(hs:s.size<=1048576):
  ai3 247 #[.string s] w λe w'=>ah' w w'/\(qc s=none->e=.returned (.tuple #[.slice none 0 0,.bool false,.int .i64 3]))/\(∀l sp,qc s=some (l,sp)->∃v S,e=.returned (.tuple #[v,.bool sp,.int .i64 0])/\S.Perm l/\uq S/\w'.ownsRow w.heap.size 273 3 v S.length (dN S)/\Lc s.size (λ_=>true) l/\l.length<=s.size):=by
 obtain⟨i0,hi,hz0,hz1,hz2⟩:=ahC Qn;go_enter amk,ntmps247;go_wp2
 go_step3
 go_wp2
 go_step3
 go_wp2
 go_loopw [0,2,3] (λx l p wr=>∃(t:ByteArray)(sn:Nat->Bool)(C:List At)(sp:Bool)(E:Value),E=l/\x=.string t/\p=.bool sp/\t.size+C.length<=s.size/\qc s=kI t sn C sp/\Lc s.size sn C/\iO wr w.heap.size 0 sn/\w.heap.size<wr.heap.size/\wr.ownsRow (w.heap.size+1) 273 3 E C.length (dN C)/\ah' w wr) (λx _ _ _=>pU x)
 case atStart=>exact⟨s,λ_=>false,[],false,_,rfl,rfl,rfl,by simp,rfl,Lc.start _,Sl w _,by simp,a9X _ _ _ _,(a0n _ _).alloc (afA _) _⟩
 case round=>
  obtain⟨t,sn,C,sp,E,rfl,rfl,rfl,hsz,hread,acH,htr,Z,F,D⟩:=hrel;have HR:=hread;have HK:=hide acH;clear hread acH;have htm:t.size<=maxLen:=aB
  by_cases J:t.size=0
  ·have M:t.toList.isEmpty=true:=by rw[dF];simp[J]
   have HE:=hide (HR.trans (Jh J));clear J;have hsort:=VB (w.heap.size+1) E C wr (by omega) HK.out.once F;go_wp2_with (go_at_call 279;refine hsort.ai ?_;rintro w' ⟨S,hp,hby,hown2,V⟩)
   try rw[ahQ]
   go_ret3;exact a5V D HE.out HK.out (by omega) hp hby hown2 V
  ·have M:t.toList.isEmpty=false:=by rw[dF];simp[J]
   have H0:=hide J;have hp:0<t.size:=by omega
   have K:=dD t 0 hp;have hl0:=gG t.data.toList 0;have hx0:(0:Int)<(t.size:Int):=by omega
   clear J;have Q:=λw=>Sm t _ w rfl
   have hz:=a5R t;cases hw:KI t with
   |false=>
    have HE:=hide (HR.trans (Ji H0.out hw));have hcut:=λw=>Vp t (OL t) w htm hz hw
    generalize at8 t.data.toList 0=O at*;generalize OL t=z at*;have hsort:=λwx(hb:ah' wr wx)=>VB (w.heap.size+1) E C wx (by omega) HK.out.once (bu F hb)
    go_wp2_with (first|(go_at_call 221;refine(Q _).aH ?_)|(go_at_call 216;refine(hcut _).ai ?_;intro w' V)|(go_at_call 279;refine(hsort _ (V.alloc V.size _)).ai ?_;rintro w2 ⟨S,hp,hby,hown2,q⟩))
    try rw[ahQ]
    go_ret3;exact a5V ((af D V D.size).alloc (afC D.size V.size) _) HE.out HK.out (by omega) hp hby hown2 q
   |true=>
    have A:=Np t hw;have hcut:=λw=>Vq t (OL t) w htm hz hw
    change ∀w,ai3 216 #[.string t,.int .i64 (OL t)] w λe w'=>e=.returned (.tuple #[.agg #[.int .i64 ((fA t).flags:Int),.int .i64 ((fA t).kind:Int),.string (fA t).val],.string (KJ t),.bool true])/\ah' w w' at hcut
    have hv:=a8V t;have R:=Vs t;have hf:=a2n t;cases I:sn (fA t).kind with
    |true=>
     have U:=hide (HR.trans (D8 H0.out hw I));have htk:=htr (fA t).kind R
     rw[I,agj]at htk
     obtain⟨k,m⟩:=htk;generalize fA t=a at*;generalize KJ t=r at*;generalize at8 t.data.toList 0=O at*;generalize OL t=z at*;go_wp2_with (first|(go_at_call 221;refine(Q _).aH ?_)|(go_at_call 216;refine(hcut _).ai ?_;intro w' V;have G:=(V.cell (p:=⟨w.heap.size,a.kind,none⟩) Z).trans k;have j:=afB Z V.size));refine⟨⟨r,sn,C,sp,E,rfl,rfl,rfl,by omega,U.out,HK.out,(htr.later Z V).alloc j _,by simp;omega,(bu F V).alloc _,(af D V D.size).alloc (afC D.size V.size) _⟩,gB⟩
    |false=>
     have htk:=htr (fA t).kind R
     rw[I,agj]at htk
     obtain⟨k,m⟩:=htk;have d:=λw' o(V:ah' wr w')=>a2y (o:=o) (fA t).kind R htr Z F D V
     cases X:mV (fA t).kind with
     |true=>
      have i:=λw=>FD (fA t).kind w X
      have hvf:=λw=>FE (fA t).kind (fA t).val w (by omega) X
      have hand:=ab1 (fA t).flags hf
      have hbad:¬((((fA t).flags/64*64:Nat):Int)=ed (fA t).kind/\jf (fA t).kind (fA t).val=true)->qc s=kI (KJ t) (met sn (fA t).kind) C (if (fA t).kind=6\/(fA t).kind=7 then sp else true):=by
       intro hn
       by_cases h67:(fA t).kind=6\/(fA t).kind=7
       ·rw[afN h67]
        exact HR.trans (yQ H0.out hw I (by unfold kP;rw[afN (by simpa using X),afJ hn,afN h67]))
       ·rw[afJ h67]
        exact HR.trans (D9 H0.out hw I (by unfold kP;rw[afN (by simpa using X),afJ hn,afJ h67]))
      have hkey:(((fA t).flags/64*64:Nat):Int)=ed (fA t).kind/\jf (fA t).kind (fA t).val=true->∃g:Nat,ed (fA t).kind=(g:Int)/\qc s=kI (KJ t) (met sn (fA t).kind) (C++[⟨g,(fA t).kind,(fA t).val⟩]) sp/\Lc s.size (met sn (fA t).kind) (C++[⟨g,(fA t).kind,(fA t).val⟩]):=by
       intro hy;have L:kP (fA t).flags (fA t).kind (fA t).val=.keep (ed (fA t).kind).toNat:=by unfold kP;rw[afN (by simpa using X),afN hy]
       refine⟨(ed (fA t).kind).toNat,?_,HR.trans (yP H0.out hw I _ L),HK.out.keep _ I _ _ (Gh _ _ _ _ L) R (by omega)⟩;have:=aqC (fA t).kind (by simpa using X);omega
      clear hw I X;have HBAD:=hide hbad;have HKEY:=hide hkey;clear hbad hkey;generalize fA t=a at*;generalize KJ t=r at*;generalize at8 t.data.toList 0=O at*;generalize OL t=z at*;have HM:=hide (HK.out.met a.kind)
      by_cases heq:((a.flags/64*64:Nat):Int)=ed a.kind
      ·have eb:(((a.flags/64*64:Nat):Int)==ed a.kind)=true:=by rw[agx];exact heq
       cases Y:jf a.kind a.val with
       |true=>
        obtain⟨g,hg,U,HKK⟩:=HKEY.out ⟨heq,Y⟩;have W:=hide U;have y:=hide HKK
        rw[Y]at hvf
        rw[hg]at eb i
        clear heq HBAD HKEY U HKK hg Y;generalize a.flags/64*64=f2 at*;go_wp2_with (first|(go_at_call 221;refine(Q _).aH ?_)|(go_at_call 216;refine(hcut _).ai ?_;intro w' V;have G:=(V.cell (p:=⟨w.heap.size,a.kind,none⟩) Z).trans k;have c:=(V.frozen (p:=⟨w.heap.size,a.kind,none⟩) Z).trans m;have j:=afB Z V.size)|(go_at_call 254;refine(i _).aH ?_)|(go_at_call 255;refine(hvf _).aH ?_)|(at_builtin;refine af4 _ rfl _ _ 226 rfl (w.heap.size+1) 273 i0 (.agg #[.int .i64 0,.int .i64 0,.string ⟨#[]⟩]) 3 32 aj5 hi hz0 hz1 hz2 rfl (by decide) _ _ _ rfl ((d w' _ V).2.2.1.alloc _) ⟨w'.heap.size+1,0,none⟩ 1 1 [.int .i64 (g:Int),.int .i64 (a.kind:Int),.string a.val] rfl rfl (Nt _ _ _ _ _ _) (a1q _ _ _) aB (by omega) (by simp;omega) ?_;intro v' w4 f b _));exact BU
       |false=>
        have u:=hide (HBAD.out (λh=>by rw[Y]at h;exact absurd h.2 (by simp)))
        rw[Y]at hvf
        clear heq HBAD HKEY Y;generalize ed a.kind=g at*;generalize a.flags/64*64=f2 at*
        by_cases h6:a.kind=6
        ·rw[afN (.inl h6)]at u
         have e6:((a.kind:Int)==6)=true:=jO
         clear h6;go_wp2_with (first|(go_at_call 221;refine(Q _).aH ?_)|(go_at_call 216;refine(hcut _).ai ?_;intro w' V;have G:=(V.cell (p:=⟨w.heap.size,a.kind,none⟩) Z).trans k;have c:=(V.frozen (p:=⟨w.heap.size,a.kind,none⟩) Z).trans m;have j:=afB Z V.size)|(go_at_call 254;refine(i _).aH ?_)|(go_at_call 255;refine(hvf _).aH ?_));exact BS
        by_cases h7:a.kind=7
        ·rw[afN (.inr h7)]at u
         have e6:((a.kind:Int)==6)=false:=ax
         have e7:((a.kind:Int)==7)=true:=jO
         clear h6 h7;go_wp2_with (first|(go_at_call 221;refine(Q _).aH ?_)|(go_at_call 216;refine(hcut _).ai ?_;intro w' V;have G:=(V.cell (p:=⟨w.heap.size,a.kind,none⟩) Z).trans k;have c:=(V.frozen (p:=⟨w.heap.size,a.kind,none⟩) Z).trans m;have j:=afB Z V.size)|(go_at_call 254;refine(i _).aH ?_)|(go_at_call 255;refine(hvf _).aH ?_));exact BS
        rw[afJ (by omega)]at u
        have e6:((a.kind:Int)==6)=false:=ax
        have e7:((a.kind:Int)==7)=false:=ax
        clear h6 h7;go_wp2_with (first|(go_at_call 221;refine(Q _).aH ?_)|(go_at_call 216;refine(hcut _).ai ?_;intro w' V;have G:=(V.cell (p:=⟨w.heap.size,a.kind,none⟩) Z).trans k;have c:=(V.frozen (p:=⟨w.heap.size,a.kind,none⟩) Z).trans m;have j:=afB Z V.size)|(go_at_call 254;refine(i _).aH ?_)|(go_at_call 255;refine(hvf _).aH ?_));obtain⟨m1,T,m3,N⟩:=d w' _ V;refine⟨⟨r,met sn a.kind,C,true,E,rfl,rfl,rfl,by omega,u.out,HM.out,m1,T,m3,N⟩,gB⟩
      ·have u:=hide (HBAD.out (λh=>heq h.1))
       have eb:(((a.flags/64*64:Nat):Int)==ed a.kind)=false:=by rw[afW];exact heq
       clear heq HBAD HKEY hvf;generalize ed a.kind=g at*;generalize a.flags/64*64=f2 at*
       by_cases h6:a.kind=6
       ·rw[afN (.inl h6)]at u
        have e6:((a.kind:Int)==6)=true:=jO
        clear h6;exact uu
       by_cases h7:a.kind=7
       ·rw[afN (.inr h7)]at u
        have e6:((a.kind:Int)==6)=false:=ax
        have e7:((a.kind:Int)==7)=true:=jO
        clear h6 h7;exact uu
       rw[afJ (by omega)]at u
       have e6:((a.kind:Int)==6)=false:=ax
       have e7:((a.kind:Int)==7)=false:=ax
       clear h6 h7;go_wp2_with (first|(go_at_call 221;refine(Q _).aH ?_)|(go_at_call 216;refine(hcut _).ai ?_;intro w' V;have G:=(V.cell (p:=⟨w.heap.size,a.kind,none⟩) Z).trans k;have c:=(V.frozen (p:=⟨w.heap.size,a.kind,none⟩) Z).trans m;have j:=afB Z V.size)|(go_at_call 254;refine(i _).aH ?_));obtain⟨m1,T,m3,N⟩:=d w' _ V;refine⟨⟨r,met sn a.kind,C,true,E,rfl,rfl,rfl,by omega,u.out,HM.out,m1,T,m3,N⟩,gB⟩
     |false=>
      have i:=λw=>BQ (fA t).kind w X
      have hun:=rH _ X;have h128:=ab2 (fA t).flags hf;have h64:=acG (fA t).flags hf;have a8W:=ab3 (fA t).flags hf;have L:kP (fA t).flags (fA t).kind (fA t).val=if (fA t).flags<128 then .ends else if (fA t).flags%128<64 then .pass else .keep (192+(fA t).flags%64/32*32):=by unfold kP;rw[afJ (by simp[X])]
      have e6:(((fA t).kind:Int)==6)=false:=ax
      have e7:(((fA t).kind:Int)==7)=false:=ax
      have HM:=hide (HK.out.met (fA t).kind);clear hun
      by_cases hf1:(fA t).flags<128
      ·rw[afN hf1]at L
       have u:=hide (HR.trans (Gg H0.out hw I L))
       rw[show(fA t).flags/128*128=0 from by omega]at h128
       clear hw I X L h64 a8W hf1;generalize fA t=a at*;generalize KJ t=r at*;generalize at8 t.data.toList 0=O at*;generalize OL t=z at*;go_wp2_with (first|(go_at_call 221;refine(Q _).aH ?_)|(go_at_call 216;refine(hcut _).ai ?_;intro w' V;have G:=(V.cell (p:=⟨w.heap.size,a.kind,none⟩) Z).trans k;have c:=(V.frozen (p:=⟨w.heap.size,a.kind,none⟩) Z).trans m;have j:=afB Z V.size)|(go_at_call 254;refine(i _).aH ?_))
       try rw[ahQ]
       go_ret3;obtain⟨m1,T,m3,N⟩:=d w' _ V;refine⟨N,λ_=>rfl,λl H h=> ?_⟩
       rw[u.out]at h;exact absurd h (by simp)
      ·rw[afJ hf1]at L
       rw[show(fA t).flags/128*128=128 from by omega]at h128
       by_cases c:(fA t).flags%128<64
       ·rw[afN c]at L
        have u:=hide (HR.trans (yQ H0.out hw I L))
        rw[show(fA t).flags/64%2*64=0 from by omega]at h64
        clear hw I X L a8W hf1 c;generalize fA t=a at*;generalize KJ t=r at*;generalize at8 t.data.toList 0=O at*;generalize OL t=z at*;exact uu
       ·rw[afJ c]at L
        have W:=hide (HR.trans (yP H0.out hw I _ L));have y:=hide (HK.out.keep _ I _ (fA t).val (Gh _ _ _ _ L) R (by omega))
        rw[show(fA t).flags/64%2*64=64 from by omega]at h64
        have a8W:=a8W (by omega) (by omega);clear hw I X L hf1 c;generalize 192+(fA t).flags%64/32*32=g at*;generalize fA t=a at*;generalize KJ t=r at*;generalize at8 t.data.toList 0=O at*;generalize OL t=z at*;go_wp2_with (first|(go_at_call 221;refine(Q _).aH ?_)|(go_at_call 216;refine(hcut _).ai ?_;intro w' V;have G:=(V.cell (p:=⟨w.heap.size,a.kind,none⟩) Z).trans k;have c:=(V.frozen (p:=⟨w.heap.size,a.kind,none⟩) Z).trans m;have j:=afB Z V.size)|(go_at_call 254;refine(i _).aH ?_)|(at_builtin;refine af4 _ rfl _ _ 226 rfl (w.heap.size+1) 273 i0 (.agg #[.int .i64 0,.int .i64 0,.string ⟨#[]⟩]) 3 32 aj5 hi hz0 hz1 hz2 rfl (by decide) _ _ _ rfl ((d w' _ V).2.2.1.alloc _) ⟨w'.heap.size+1,0,none⟩ 1 1 [.int .i64 (g:Int),.int .i64 (a.kind:Int),.string a.val] rfl rfl (Nt _ _ _ _ _ _) (a1q _ _ _) aB (by omega) (by simp;omega) ?_;intro v' w4 f b _));exact BU
end Go.Proofs.Zq
