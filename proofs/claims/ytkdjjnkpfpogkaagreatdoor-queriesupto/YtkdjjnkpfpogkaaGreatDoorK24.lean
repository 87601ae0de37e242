import Derived.Deep.CutRange
import Derived.Test.YtkdjjnkpfpogkaaGreatDoorK23
set_option maxHeartbeats 8000000
set_option linter.all false
set_option maxRecDepth 20000
namespace Go
def cB{P:Prop}(h:P:=by
 go_wp2;go_ret
 exact⟨rfl,rfl⟩):P:=h
def uh{P:Prop}(h:P:=by
 go_wp2_with (go_at_call 141;refine(c _ _ _).ai ?_;intro w6 hb6);go_ret
 exact⟨rfl,af a hb6 a.size⟩):P:=h
def um{P:Prop}(h:P:=by
 go_ret
 exact⟨rfl,UO f c a⟩):P:=h
end Go
namespace Go.Proofs.Zq
open Tryz
open Go.RowKit Go.Shelf Go.WideMaps
open Rl
variable{w w':World}{p b q:Nat}{S:Nat->Prop}{cv:ByteArray->Value}{A:ByteArray}
theorem a5q{n}(J: -9223372036854775808<=n)(h1:n<=9223372036854775807):IntKind.i64.wrap n=n:=aW
theorem a9M{c a}{g f e}(c0:w.cell? ⟨c,0,none⟩=some g)(c1:w.cell? ⟨a,0,none⟩=some f)(c2:w.cell? ⟨p,0,none⟩=some e)(j:c<w.heap.size)(i:a<w.heap.size)(h:p<w.heap.size)(d:ah' w w'):
  w'.cell? ⟨c,0,none⟩=some g/\w'.cell? ⟨a,0,none⟩=some f/\w'.cell? ⟨p,0,none⟩=some e/\ah' w w':=
 ⟨(d.cell (p:=⟨c,0,none⟩) j).trans c0,(d.cell (p:=⟨a,0,none⟩) i).trans c1,(d.cell (p:=⟨p,0,none⟩) h).trans c2,d⟩
theorem a5r{m}(h:bS w S p b cv m)(t:A.size<=maxLen)(d):
  ∃(a:Option Addr)(c n:Nat)(e:ByteArray),(∀g,bS g S p b cv m->(Instr.lookup 84 (.map (some b)) (.string A) false).run ah.prog g=.ok (.agg #[.slice a e.size c,.int .i64 (n:Int)]) g)/\
   w.ownsRow 0 5 1 (.slice a e.size c) e.size (yJ e.data.toList)/\apF m A d=⟨A,e++d,n⟩/\n<=e.size/\e.size<=aR m.files/\∀k,(Value.slice a e.size c).ownBlock=some k->∃f∈m.files,f.name=A/\(cv A).ownBlock=some k:=by
 cases l:dR A m.files with
 |none=>
  refine⟨none,0,0,⟨#[]⟩,λg o=> ?_,a9X _ _ _ _,?_,afA _,afK _,λk r=>by cases r⟩
  ·have:=(xP o A t).2;rw[l]at this;exact this
  ·unfold apF;rw[l];simp only;rw[ByteArray.ext (by simp:((⟨#[]⟩:ByteArray)++d).data=d.data)]
 |some f=>
  obtain⟨j,i⟩:=eZ l;obtain⟨a,c,s⟩:=ay (h.rows f j);refine⟨a,c,f.sync,f.data,λg o=> ?_,by rw[<-s];exact h.rows f j,?_,h.sync f j,vB j,λk r=>⟨f,j,i,by rw[<-i,s];exact r⟩⟩
  ·have:=(xP o A t).2;rw[l]at this;simp only[s]at this;exact this
  ·grind[apF]
theorem a5s:(ah.prog.info? 5).map (λi=>(i.zero,i.size,i.bytes))=some (some (.int .u8 0),1,1):=by kernel_rfl
theorem a8D{w5}{m:az}{c d}{y:Nat}{v v5 u}(h:bS w S p b cv m)(U:m.files.length<=4194304)(T:A.size<=8)(V:w.grownBy w5 v.ownBlock)(z:∀k,v.ownBlock=some k->∃f∈m.files,f.name=A/\(cv A).ownBlock=some k)(i:DK w v v5)(O:w5.ownsRow 0 5 1 v5 (c.size+d.size) (yJ c.data.toList++Lib.strCells d))(Q:y<=c.size)(N:¬S q)(R:q<w.heap.size):
  ∀o,Below (w5.setCell ⟨q,0,none⟩ u).heap.size (w5.setCell ⟨q,0,none⟩ u) o->ai3 140 #[.pointer (some ⟨p,0,none⟩),.string A,.agg #[v5,.int .i64 (y:Int)]] o λe w'=>e=.returned (.tuple #[])/\
   ∃K J,bS w' K p b J {m with files:=jU ⟨A,c++d,y⟩ m.files}/\(∀k,K k->S k\/w.heap.size<=k)/\dJ K o w':=by
 intro o x;have L:=h.grown V z;have E:=O.lt
 have t:∀k,v5.ownBlock=some k->k≠q:=λk a e=>by
  subst e;obtain e|⟨k2,e,B⟩:=i
  ·rw[e]at a
   obtain⟨f,r,I,P⟩:=z k a;exact N (h.far f r k (by grind)).1
  ·grind
 have D:su A w5 (λk=>S k\/v5.ownBlock=some k) p b cv m:=L.mono (λ_ a=>.inl a) (λk a=>by
  obtain a|a:=a
  ·exact L.lt k a
  ·exact(E k a).2)
 have M:dJ (λk=>k=q) w5 (w5.setCell ⟨q,0,none⟩ u):=fH (S:=λk=>k=q) (p:=⟨q,0,none⟩) u rfl
 have C:=(D.touch M (λk a e=>by
  subst e;obtain a|a:=a
  ·exact N a
  ·exact t k a rfl)).later x
 have G:(c++d).size=c.size+d.size:=ByteArray.size_append
 have F:yJ c.data.toList++Lib.strCells d=yJ (c++d).data.toList:=by
  rw[RH,<-XU]
  congr 1
 have s:o.ownsRow 0 5 1 v5 (c++d).size (yJ (c++d).data.toList):=by
  rw[G,<-F]
  exact bu (M.owns O (λk a e=>t k a e)) x
 refine(He o _ p b cv m ⟨A,c++d,y⟩ v5 C U s (λk a=> ?_) T (by grind)).mono ?_
 ·obtain e|⟨k2,e,B⟩:=i
  ·rw[e]at a
   obtain⟨f,r,I,P⟩:=z k a;obtain⟨Z,Y,X⟩:=h.far f r k (by grind)
   exact⟨.inl Z,Y,X,λg n H j=>H ((h.apart g n f r k j (by grind)).trans I)⟩
  ·have l:=a
   rw[e]at l
   injection l with l;have hp:=h.lt p h.own;have W:=h.lt b h.EY
   exact⟨.inr a,by omega,by omega,λg n _ j=>by have:=h.lt k (h.far g n k j).1;omega⟩
 ·rintro e w' ⟨rfl,h1,B⟩
  refine⟨rfl,_,_,h1,λk a=> ?_,B⟩;obtain a|a:=a
  ·grind
  ·obtain e|⟨k2,e,B⟩:=i
   ·rw[e]at a
    obtain⟨f,r,I,P⟩:=z k a;exact .inl (h.far f r k (by grind)).1
   ·grind
theorem aaL{m}{d}{n0 c n2}{f}(h:bS w S p b cv m)(k:∀e,bS e S p b cv m->(Instr.lookup 84 (.map (some b)) (.string A) false).run ah.prog e=.ok f e)(c0:w.cell? ⟨n0,0,none⟩=some (.string d))(c1:w.cell? ⟨c,0,none⟩=some (.pointer (some ⟨p,0,none⟩)))(c2:w.cell? ⟨n2,0,none⟩=some (.string A))(j:n0<w.heap.size)(i:c<w.heap.size)(g:n2<w.heap.size)(a:ah' w w'):
  w'.cell? ⟨n0,0,none⟩=some (.string d)/\w'.cell? ⟨c,0,none⟩=some (.pointer (some ⟨p,0,none⟩))/\w'.cell? ⟨n2,0,none⟩=some (.string A)/\w'.cell? ⟨p,1,none⟩=some (.map (some b))/\
   (Instr.lookup 84 (.map (some b)) (.string A) false).run ah.prog w'=.ok f w'/\ah' w w':=
 ⟨(a.cell (p:=⟨n0,0,none⟩) j).trans c0,(a.cell (p:=⟨c,0,none⟩) i).trans c1,(a.cell (p:=⟨n2,0,none⟩) g).trans c2,(h.later a).box.c1,k _ (h.later a),a⟩
theorem UQ(w)(S)(p b)(cv)(m)(h:bS w S p b cv m)(hm:m.files.length<=4194304)(hu:aR m.files<=4194304)(hr0:0<=m.room)(I:m.room<=9223372036854775807)(A d)(hn:A.size<=8)(L:d.size<=4194304)(U N n2)(c0:w.cell? ⟨U,0,none⟩=some (.string d))(c1:w.cell? ⟨N,0,none⟩=some (.pointer (some ⟨p,0,none⟩)))(c2:w.cell? ⟨n2,0,none⟩=some (.string A))(l0:U<w.heap.size)(l1:N<w.heap.size)(l2:n2<w.heap.size)(_s0:¬S U)(s1:¬S N)(s2:¬S n2):
  ai3 138 #[.pointer (some ⟨U,0,none⟩),.pointer (some ⟨N,0,none⟩),.pointer (some ⟨n2,0,none⟩)] w λe w'=>e=.returned (.int .i64 (FY m d))/\bY S w w' p b (K8 m A d):=by
 have HI:=h;obtain⟨d0,d1,d2,f0,f1,f2,Z⟩:=h.box;have hus:=λwx(hx:bS wx S p b cv m)=>UI wx S p b cv m hx hu
 have HU:=hide hus;have HE8:Hid (m.room-(aR m.files:Int)<(d.size:Int)->FY m d=8/\K8 m A d=m):=λh=>⟨by unfold FY;rw[afN h],by unfold K8;rw[afN h]⟩
 have HE0:Hid (¬m.room-(aR m.files:Int)<(d.size:Int)->FY m d=0/\K8 m A d={m with files:=jU (apF m A d) m.files}):=λh=>⟨by unfold FY;rw[afJ h],by unfold K8;rw[afJ h]⟩
 generalize FY m d=E at*;generalize K8 m A d=M at*;go_enter ake,ntmps138;have HW:IntKind.i64.wrap (m.room-(aR m.files:Int))=m.room-(aR m.files:Int):=a5q (by omega) (by omega);generalize hus:(aR m.files:Int)=us at*
 go_upto_region 1 with fail
 go_cut [14]from 5 to 14 (λt wx=>t=.bool (decide (m.room-us<(d.size:Int)))/\ah' w wx)
 case first=>
  go_region_held (λw'=>w'.cell? ⟨U,0,none⟩=some (.string d)/\w'.cell? ⟨N,0,none⟩=some (.pointer (some ⟨p,0,none⟩))/\w'.cell? ⟨p,0,none⟩=some (.int .i64 m.room)/\ah' w w')
   (first|assumption|(exact a9M c0 c1 d0 l0 l1 Z (a0n _ _).drew)|(exact a9M c0 c1 d0 l0 l1 Z (af (a0n _ _).drew (by assumption) (afA _))))
   (first|(go_at_call 139;refine(HU.out _ (HI.later (‹_/\_/\_/\ah' w _›).2.2.2)).ai ?_;intro w5 W))
  go_wp2_with fail
  go_meet
  case rel=>exact⟨rfl,‹w5.cell? _=_/\w5.cell? _=_/\w5.cell? _=_/\ah' w w5›.2.2.2⟩
 case rest=>
  obtain⟨rfl,F⟩:=hcut;have a0:=(F.cell (p:=⟨U,0,none⟩) l0).trans c0;have a1:=(F.cell (p:=⟨N,0,none⟩) l1).trans c1;have a2:=(F.cell (p:=⟨n2,0,none⟩) l2).trans c2;have k0:=afB l0 F.size;have k1:=afB l1 F.size;have k2:=afB l2 F.size;have O:=hide (HI.later F)
  by_cases J:m.room-us<(d.size:Int)
  ·have hdc:decide (m.room-us<(d.size:Int))=true:=afL J
   obtain⟨rfl,rfl⟩:=HE8.out J;go_wp2;go_ret
   exact⟨rfl,HI.becomes F⟩
  ·obtain⟨rfl,rfl⟩:=HE0.out J
   have hdc:decide (m.room-us<(d.size:Int))=false:=afG J;obtain⟨a,c,Y,y,hfind,hrow,hap,hsy,hou,hblk⟩:=a5r O.out (by unfold maxLen;omega:A.size<=maxLen) d;have hHP:=hide hap;have hkl:=hide (λw'(hb:ah' wc w')=>aaL (n0:=U) O.out hfind a0 a1 a2 k0 k1 k2 hb);have HR:=hide hrow;have HBk:=hide hblk;go_wp2_with fail
   go_region_held (λw'=>w'.cell? ⟨U,0,none⟩=some (.string d)/\w'.cell? ⟨N,0,none⟩=some (.pointer (some ⟨p,0,none⟩))/\w'.cell? ⟨n2,0,none⟩=some (.string A)/\w'.cell? ⟨p,1,none⟩=some (.map (some b))/\
    (Instr.lookup 84 (.map (some b)) (.string A) false).run ah.prog w'=.ok (.agg #[.slice a y.size c,.int .i64 (Y:Int)]) w'/\ah' wc w')
    (first|assumption|(exact hkl.out _ (a0n _ _).drew)|(exact hkl.out _ ((a0n _ _).drew.alloc (afA _) _))|(exact hkl.out _ (((a0n _ _).drew.alloc (afA _) _).setCell (by simp) _))) (fail)
   all_goals
    have H:ah' wc (wc.alloc (.cells #[.slice a y.size c,.int .i64 (Y:Int)] 195)).drew:=((a0n _ _).alloc (afA _) _).drew;have C:=(H.cell (p:=⟨U,0,none⟩) k0).trans a0;have g1:=(H.cell (p:=⟨N,0,none⟩) k1).trans a1;have g2:=(H.cell (p:=⟨n2,0,none⟩) k2).trans a2;have g3:(wc.alloc (.cells #[.slice a y.size c,.int .i64 (Y:Int)] 195)).drew.cell? ⟨wc.heap.size,0,none⟩=some (.slice a y.size c):=by simp
    have g4:(wc.alloc (.cells #[.slice a y.size c,.int .i64 (Y:Int)] 195)).drew.cell? ⟨wc.heap.size,1,none⟩=some (.int .i64 (Y:Int)):=by simp
    have g5:(wc.alloc (.cells #[.slice a y.size c,.int .i64 (Y:Int)] 195)).drew.frozen? ⟨wc.heap.size,0,none⟩=false:=by simp
    have HB1:=hide H;have hsz1:wc.heap.size<(wc.alloc (.cells #[.slice a y.size c,.int .i64 (Y:Int)] 195)).drew.heap.size:=by simp
    have hlen1:Hid (y.size+d.size<=maxLen):=lJ
    have acv:Hid (y.size+d.size<=140737488355328):=by unfold Hid;omega
    generalize (wc.alloc (.cells #[.slice a y.size c,.int .i64 (Y:Int)] 195)).drew=s at*;have V:¬S wc.heap.size:=λhs=>absurd (O.out.lt _ hs) (by omega)
    have Q:=hide (λ(j:Nat)(hj:¬S j)(e:some j=(Value.slice a y.size c).ownBlock)=>hj (let ⟨f,hf,e1,e2⟩:=HBk.out j e.symm;(O.out.far f hf j (by rw[e1];exact e2)).1));have HR1:=hide (bu HR.out HB1.out);have HI3:=hide (O.out.later HB1.out);have HPL:=hide (λw5 v5(hg:s.grownBy w5 (Value.slice a y.size c).ownBlock)hpl ho=>a8D (d:=d) (w5:=w5) (v5:=v5) (q:=wc.heap.size) (u:=v5) HI3.out hm hn hg HBk.out hpl ho hsy V hsz1);obtain⟨i0,hi,hz0,hz1,hz2⟩:=ahC a5s
    go_wp2_with (first
     |(at_builtin;refine uZ _ rfl _ _ 144 9 rfl 0 5 i0 aiK Qu9 hi hz0 hz1 hz2 _ _ _ rfl HR1.out d rfl (hlen1.out) (acv.out) (afK _) ?_;intro v5 w5 X z R;obtain⟨a5,c5,rfl⟩:=ay X;have q1:=z.cell g1 (Q.out _ s1);have q2:=z.cell g2 (Q.out _ s2);have q3:=z.cell g3 (Q.out _ V);have q4:=z.cell g4 (Q.out _ V);have q5:=(ahJ (a:=⟨wc.heap.size,0,none⟩) (z.block _ hsz1 (Q.out _ V))).trans g5)
     |(go_at_call 140;refine(HPL.out w5 _ z R X _ (a0n _ _)).ai ?_;rintro w8 ⟨S8,cv8,h8,hs8,ht8⟩))
    go_ret;have g:ah' w s:=af F HB1.out F.size;have hT3:dJ S w (w5.setCell ⟨wc.heap.size,0,none⟩ (.slice a5 (y.size+d.size) c5)):=((dJ.aK g).grown z (λj hj=>.inl (let ⟨f,hf,e1,e2⟩:=HBk.out j hj;(O.out.far f hf j (by rw[e1];exact e2)).1))).set _ (.inr F.size)
    exact⟨rfl,S8,cv8,by rw[hHP.out];exact h8,λj hj=>(hs8 j hj).imp id (λx=>afC g.size x),hT3.trans ht8 (λj hj=>(hs8 j hj).imp id (λx=>afC g.size x))⟩
theorem a8E{a}(h:gP [a]=true):a.size<=8:=by grind[gP,dK]
theorem Ya(w)(S)(p b)(cv)(m)(h:bS w S p b cv m)(hm:m.files.length<=4194304)(hu:aR m.files<=4194304)(N:0<=m.room)(I:m.room<=9223372036854775807)(U: -1<=m.left)(R:m.left<=9223372036854775807)(A d)(hn:A.size<=2097152)(L:d.size<=4194304):
  ai3 83 #[.pointer (some ⟨p,0,none⟩),.string A,.string d] w λe w'=>e=.returned (.int .i64 (aV m [A] (FY m d)))/\bY S w w' p b (aU m [A] (FY m d) (K8 m A d)):=by
 obtain⟨E,X⟩:∃E,E=aV m [A] (FY m d):=⟨_,rfl⟩;obtain⟨M,W⟩:∃M,M=aU m [A] (FY m d) (K8 m A d):=⟨_,rfl⟩
 rw[<-X,<-W]
 have Z:=h;have u:∀j,w.heap.size<=j->¬S j:=λj hj hs=>gq
 clear h;obtain⟨c0,c1,c2,hz,K⟩:=mU w (.pointer (some ⟨p,0,none⟩)) (.string A) (.string d) 53 9 9;have Q:(K8 m A d).left=m.left:=by unfold K8;split<;>rfl
 have V:Enters ah.prog 138:=ahP ake (by kernel_rfl) rfl
 have Y:∀y F,Below (((w.alloc (.cells #[.pointer (some ⟨p,0,none⟩)] 53)).alloc (.cells #[.string A] 9)).alloc (.cells #[.string d] 9)).heap.size (((w.alloc (.cells #[.pointer (some ⟨p,0,none⟩)] 53)).alloc (.cells #[.string A] 9)).alloc (.cells #[.string d] 9)) y->y.ownsRow 0 9 1 F [A].length (mP [A])->
   ai3 137 #[.pointer (some ⟨p,0,none⟩),.func (.func 138) #[] #[.pointer (some ⟨w.heap.size+1+1,0,none⟩),.pointer (some ⟨w.heap.size,0,none⟩),.pointer (some ⟨w.heap.size+1,0,none⟩)],F] y λe w'=>e=.returned (.int .i64 E)/\bY S y w' p b M:=by
  intro y F r O;have g:=af K r K.size
  rw[X,W]
  refine MC y S p b cv m (Z.later g) _ _ V F [A] (by simp) (aM O) (λs hs=>by rw[agp]at hs;rw[hs];exact hn) (FY m d) (K8 m A d) Q U R (λha _ w1 H=> ?_);have o:=af r H r.size;exact UQ w1 S p b cv m (Z.later (af g H g.size)) hm hu N I A d (a8E ha) L _ _ _ ((o.cell (p:=⟨w.heap.size+1+1,0,none⟩) oG).trans c2) ((o.cell (p:=⟨w.heap.size,0,none⟩) jH).trans c0) ((o.cell (p:=⟨w.heap.size+1,0,none⟩) jG).trans c1) dC dC dC (u _ (by omega)) (u _ (by omega)) (u _ (by omega))
 clear X W;have HC:=hide Y;clear Y;go_enter alz,ntmps83
 have J:((((w.alloc (.cells #[.pointer (some ⟨p,0,none⟩)] 53)).alloc (.cells #[.string A] 9)).alloc (.cells #[.string d] 9)).alloc (.cells #[.string A] 9)).ownsRow 0 9 1 (.slice (some ⟨w.heap.size+1+1+1,0,none⟩) 1 1) [A].length (mP [A]):=by
  have:=Hl (((w.alloc (.cells #[.pointer (some ⟨p,0,none⟩)] 53)).alloc (.cells #[.string A] 9)).alloc (.cells #[.string d] 9)) A
  rw[hz]at this
  exact this
 have l:Below (((w.alloc (.cells #[.pointer (some ⟨p,0,none⟩)] 53)).alloc (.cells #[.string A] 9)).alloc (.cells #[.string d] 9)).heap.size (((w.alloc (.cells #[.pointer (some ⟨p,0,none⟩)] 53)).alloc (.cells #[.string A] 9)).alloc (.cells #[.string d] 9)) ((((w.alloc (.cells #[.pointer (some ⟨p,0,none⟩)] 53)).alloc (.cells #[.string A] 9)).alloc (.cells #[.string d] 9)).alloc (.cells #[.string A] 9)):=(a0n _ _).alloc (afA _) _;go_wp2_with (go_at_call 137;refine(HC.out _ _ l J).ai ?_;intro w6 i);exact Bp
open Go.RowKit Go.Shelf Go.WideMaps Go.Maps
namespace Rl
structure gu(w:World)(S:Nat->Prop)(q:Nat)(m:az):Prop where
 own:S q
 lt:∀k,S k->k<w.heap.size
 inner:∃p b cv,w.cell? ⟨q,0,none⟩=some (.pointer (some ⟨p,0,none⟩))/\bS w (λk=>S k/\k≠q) p b cv m
theorem gu.touch{w w'}{S T}{q}{m}(h:gu w S q m)(a:dJ T w w')(e:∀k,S k->¬T k):gu w' S q m:=by
 obtain⟨p,b,cv,c,f⟩:=h.inner
 exact⟨h.own,λk d=>afB (h.lt k d) a.size,p,b,cv,(a.cell (p:=⟨q,0,none⟩) (h.lt q h.own) (e q h.own)).trans c,f.touch a (λk d=>e k d.1)⟩
theorem gu.later{m}(h:gu w S q m)(a:ah' w w'):gu w' S q m:=h.touch (dJ.aK (S:=λ_=>False) a) (λ_ _ x=>x)
def qy(S:Nat->Prop)(w w':World)(q:Nat)(m:az):Prop:=∃a,gu w' a q m/\(∀k,a k->S k\/w.heap.size<=k)/\dJ S w w'
theorem UO{n m}(h:gu w S q n)(r:w.cell? ⟨q,0,none⟩=some (.pointer (some ⟨p,0,none⟩)))(o:bY (λk=>S k/\k≠q) w w' p b m):qy S w w' q m:=by
 obtain⟨l,i,g,s,f⟩:=o;have j:=h.lt q h.own
 have c:∀k,l k->k≠q:=λk a e=>by obtain x|x:=s k a<;>grind
 refine⟨λk=>k=q\/l k,⟨.inl rfl,λk a=> ?_,p,b,i,(f.cell (p:=⟨q,0,none⟩) j (λx=>x.2 rfl)).trans r,g.mono (λk a=>⟨.inr a,c k a⟩) (λk a=> ?_)⟩,λk a=> ?_,f.mono (λ_ x=>x.1)⟩
 ·obtain rfl|a:=a
  ·exact afB j f.size
  ·exact g.lt k a
 ·obtain e|d:=a.1
  ·omega
  ·exact g.lt k d
 ·obtain rfl|a:=a
  ·exact .inl h.own
  ·grind
end Rl
theorem je(w):ai3 48 #[.pointer none] w λe w'=>e=.returned (.pointer none)/\w'=w:=by
 go_enter alx,ntmps48;exact cB
theorem kN(w)(q p)(c:w.cell? ⟨q,0,none⟩=some (.pointer (some ⟨p,0,none⟩))):ai3 48 #[.pointer (some ⟨q,0,none⟩)] w λe w'=>e=.returned (.pointer (some ⟨p,0,none⟩))/\w'=w:=by
 go_enter alx,ntmps48;exact cB
theorem UR(c)(w):ai3 5 #[.int .i64 c] w λe w'=>∃q,e=.returned (.pointer (some ⟨q,0,none⟩))/\gu w' (λk=>w.heap.size<=k/\k<w'.heap.size) q ⟨max c 0,[],-1⟩/\ah' w w':=by have i:=a8C c w;go_enter Qf5,ntmps5;go_wp2_with (go_at_call 10;refine i.mono ?_;rintro e g ⟨p,b,rfl,h,f⟩);go_ret;have d:ah' g (g.alloc (.cells #[.pointer (some ⟨p,0,none⟩)] 56)):=(a0n _ _).alloc (afA _) _;refine⟨_,rfl,⟨⟨f.size,by simp⟩,λk a=>a.2,p,b,_,by simp,(h.later d).mono (λk a=>⟨⟨a.1,by have:=a.2;simp;omega⟩,by have:=a.2;omega⟩) (λk a=>a.1.2)⟩,af f d f.size⟩
theorem aaM(w)(S)(q)(m)(h:gu w S q m)(k:m.files.length<=4194304)(i:aR m.files<=4194304)(g: -1<=m.left)(d:m.left<=9223372036854775807)(A)(j:A.size<=2097152):
  ai3 29 #[.pointer (some ⟨q,0,none⟩),.string A] w λe w'=>e=.returned (.int .i64 (aV m [A] (bg m A 0)))/\qy S w w' q (aU m [A] (bg m A 0) (dG m A (rX m A))):=by
 obtain⟨p,b,cv,c,l⟩:=h.inner;have o:=a5n w _ p b cv m l k i g d A j;have f:=h;have n:=kN w q p c;go_enter ali,ntmps29;go_wp2_with (first|(go_at_call 48;refine n.aH ?_)|(go_at_call 89;refine o.ai ?_;intro r a));exact um
theorem a5t(w)(S)(q)(m)(h:gu w S q m)(k:m.files.length<=4194304)(i:aR m.files<=4194304)(g: -1<=m.left)(d:m.left<=9223372036854775807)(A)(j:A.size<=2097152):
  ai3 33 #[.pointer (some ⟨q,0,none⟩),.string A] w λe w'=>e=.returned (.int .i64 (aV m [A] (bg m A 0)))/\qy S w w' q (aU m [A] (bg m A 0) (dG m A (jV m A))):=by
 obtain⟨p,b,cv,c,l⟩:=h.inner;have o:=X6 w _ p b cv m l k i g d A j;have f:=h;have n:=kN w q p c;go_enter alk,ntmps33;go_wp2_with (first|(go_at_call 48;refine n.aH ?_)|(go_at_call 93;refine o.ai ?_;intro r a));exact um
theorem Yb(w)(S)(q)(m)(h:gu w S q m)(k:m.files.length<=4194304)(i:aR m.files<=4194304)(g: -1<=m.left)(d:m.left<=9223372036854775807)(A)(j:A.size<=2097152)(n):
  ai3 35 #[.pointer (some ⟨q,0,none⟩),.string A,.int .i64 n] w λe w'=>e=.returned (.int .i64 (aV m [A] (bg m A (fK m A n))))/\qy S w w' q (aU m [A] (bg m A (fK m A n)) (dG m A (lq m A n))):=by
 obtain⟨p,b,cv,c,l⟩:=h.inner;have r:=RN w _ p b cv m l k i g d A j n;have f:=h;have o:=kN w q p c;go_enter alm,ntmps35;go_wp2_with (first|(go_at_call 48;refine o.aH ?_)|(go_at_call 94;refine r.ai ?_;intro s a));exact um
theorem a5u(w)(S)(q)(m)(h:gu w S q m)(n:m.files.length<=4194304)(j:aR m.files<=4194304)(i: -1<=m.left)(g:m.left<=9223372036854775807)(A d)(l:A.size<=2097152)(k:d.size<=2097152):
  ai3 31 #[.pointer (some ⟨q,0,none⟩),.string A,.string d] w λe w'=>e=.returned (.int .i64 (aV m [d,A] (bg m A 0)))/\qy S w w' q (aU m [d,A] (bg m A 0) (dG m A (jm m A d))):=by
 obtain⟨p,b,cv,c,o⟩:=h.inner;have s:=X7 w _ p b cv m o n j i g A d l k;have f:=h;have r:=kN w q p c;go_enter alj,ntmps31;go_wp2_with (first|(go_at_call 48;refine r.aH ?_)|(go_at_call 90;refine s.ai ?_;intro t a));exact um
theorem a5v(w)(S)(q)(m)(h:gu w S q m)(o:m.files.length<=4194304)(l:aR m.files<=4194304)(k: -1<=m.left)(j:m.left<=9223372036854775807)(i:0<=m.room)(g:m.room<=9223372036854775807)(A d)(n:A.size<=2097152)(t:d.size<=4194304):
  ai3 27 #[.pointer (some ⟨q,0,none⟩),.string A,.string d] w λe w'=>e=.returned (.int .i64 (aV m [A] (FY m d)))/\qy S w w' q (aU m [A] (FY m d) (K8 m A d)):=by
 obtain⟨p,b,cv,c,r⟩:=h.inner;have u:=Ya w _ p b cv m r o l i g k j A d n t;have f:=h;have s:=kN w q p c;go_enter alh,ntmps27;go_wp2_with (first|(go_at_call 48;refine s.aH ?_)|(go_at_call 83;refine u.ai ?_;intro v a));exact um
theorem a8F(w)(S)(q)(m)(h:gu w S q m)(n):
  ai3 37 #[.pointer (some ⟨q,0,none⟩),.int .i64 n] w λe w'=>e=.returned (.int .i64 (if n<0 then 5 else 0))/\qy S w w' q (if n<0 then m else{m with left:=n}):=by
 obtain⟨p,b,cv,c,f⟩:=h.inner;have i:=a1I w _ p b cv m f n;generalize (if n<0 then(5:Int)else 0)=E at*;generalize (if n<0 then m else{m with left:=n})=M at*;have j:=h;have g:=kN w q p c;go_enter aln,ntmps37;go_wp2_with (first|(go_at_call 48;refine g.aH ?_)|(go_at_call 95;refine i.ai ?_;intro k a));go_ret;have d:=UO j c a
 exact⟨rfl,d⟩
theorem aaN(w)(S)(q)(m)(h:gu w S q m)(s)(d:s.size<=2097152):
  ai9 41 #[.pointer (some ⟨q,0,none⟩),.string s] w (.tuple #[.string (kH m s),.int .i64 (rY m s)]):=by
 obtain⟨p,b,cv,c,e⟩:=h.inner;have g:=P5 w _ p b cv m e s d;have j:=hide h;have f:=kN w q p c;go_enter alq,ntmps41;go_wp2_with (first|(go_at_call 48;refine f.aH ?_)|(go_at_call 97;refine g.ai ?_;intro i a));go_ret2
 exact⟨rfl,a⟩
theorem aaO(w)(S)(q)(m)(h:gu w S q m)(d:aR m.files<=4194304):
  ai9 45 #[.pointer (some ⟨q,0,none⟩)] w (.tuple #[.int .i64 (aR m.files:Int),.int .i64 0]):=by
 obtain⟨p,b,cv,c,e⟩:=h.inner;have g:=a1J w _ p b cv m e d;have j:=hide h;have f:=kN w q p c;go_enter alu,ntmps45;go_wp2_with (first|(go_at_call 48;refine f.aH ?_)|(go_at_call 99;refine g.ai ?_;intro i a));go_ret2
 exact⟨rfl,a⟩
theorem aaP(w)(S)(q)(m)(h:gu w S q m)(g:m.files.length<=4194304):
  ai3 43 #[.pointer (some ⟨q,0,none⟩)] w λe w'=>∃v,e=.returned (.tuple #[v,.int .i64 0])/\w'.ownsRow w.heap.size 9 1 v m.files.length (mP (m.files.map λf=>f.name))/\ah' w w':=by
 obtain⟨p,b,cv,c,i⟩:=h.inner;have k:=MJ w _ p b cv m i g;have j:=kN w q p c;go_enter alr,ntmps43;go_wp2_with (first|(go_at_call 48;refine j.aH ?_)|(go_at_call 98;refine k.mono ?_;rintro e l ⟨v,rfl,a,d⟩));go_ret2
 exact⟨v,rfl,a,d⟩
theorem oH(k)(a)(w)(A)(e)(l)(v:l.length<=1073741823)(x:w.ownsRow 0 9 1 e l.length (mP l))(h:NoRoom e l.length):
  ai9 141 #[.pointer none,.func (.func k) #[] a,.string A,e] w (.int .i64 1):=by
 obtain⟨c0,c1,c2,u,d⟩:=mU w (.pointer none) (.func (.func k) #[] a) (.string A) 53 198 9;have m:=λy e s=>Hf y e s
 go_enter akf,ntmps141;go_wp2_with fail;generalize (((w.alloc (.cells #[.pointer none] 53)).alloc (.cells #[.func (.func k) #[] a] 198)).alloc (.cells #[.string A] 9))=r at*;have i:=bu x d;have f:w.heap.size+1+1<r.heap.size:=by omega
 have g:=h;clear h c1 u
 go_region_held_law (λw'=>w'.cell? ⟨w.heap.size,0,none⟩=some (.pointer none)/\w'.cell? ⟨w.heap.size+1+1,0,none⟩=some (.string A)/\w.heap.size+1+1<w'.heap.size)
  (first|assumption|(exact⟨c0,c2,f⟩)|(exact RG (by assumption) (by assumption))|(exact RG ⟨c0,c2,f⟩ ((a0n _ _).drew.alloc (afA _) _)))
  (first
   |(refine xQ rfl (.tmp 11) (.tmp 13) rfl e l rfl (i.alloc _) g r.heap.size A rfl (by simp) v ?_;intro B t j o)
   |(go_at_call 137;refine(m _ _ _).ai ?_;intro z n))
 all_goals
  have c:ah' w t:=af d (((a0n _ _).drew.alloc (afA _) _).trans (o.mono (by simp))) d.size;go_wp2;go_ret
  exact⟨rfl,af c n c.size⟩
theorem a1L(A)(w):ai9 89 #[.pointer none,.string A] w (.int .i64 1):=by
 have c:=λk d e=>oH k d e A (.slice none 0 0) [] (by simp) (a9X _ _ _ _) (.inl rfl)
 obtain⟨_,_,_,a⟩:=Hg w (.pointer none) (.string A) 53 9;go_enter alC,ntmps89;exact uh
theorem UT(A)(w):ai9 93 #[.pointer none,.string A] w (.int .i64 1):=by
 have c:=λk d e=>oH k d e A (.slice none 0 0) [] (by simp) (a9X _ _ _ _) (.inl rfl)
 obtain⟨_,_,_,a⟩:=Hg w (.pointer none) (.string A) 53 9;go_enter alF,ntmps93;exact uh
theorem OC(A)(n)(w):ai9 94 #[.pointer none,.string A,.int .i64 n] w (.int .i64 1):=by
 have c:=λk d e=>oH k d e A (.slice none 0 0) [] (by simp) (a9X _ _ _ _) (.inl rfl)
 obtain⟨_,_,_,_,a⟩:=mU w (.pointer none) (.string A) (.int .i64 n) 53 9 3;go_enter alG,ntmps94;exact uh
theorem UU(A a)(w):ai9 90 #[.pointer none,.string A,.string a] w (.int .i64 1):=by
 have o:=λk e i j m n=>oH k e i A j [a] (by simp) m n
 obtain⟨_,_,_,l,d⟩:=mU w (.pointer none) (.string A) (.string a) 53 9 9
 have f:((((w.alloc (.cells #[.pointer none] 53)).alloc (.cells #[.string A] 9)).alloc (.cells #[.string a] 9)).alloc (.cells #[.string a] 9)).ownsRow 0 9 1 (.slice (some ⟨w.heap.size+1+1+1,0,none⟩) 1 1) [a].length (mP [a]):=by
  have:=Hl (((w.alloc (.cells #[.pointer none] 53)).alloc (.cells #[.string A] 9)).alloc (.cells #[.string a] 9)) a
  rw[l]at this
  exact this
 have g:Below (((w.alloc (.cells #[.pointer none] 53)).alloc (.cells #[.string A] 9)).alloc (.cells #[.string a] 9)).heap.size (((w.alloc (.cells #[.pointer none] 53)).alloc (.cells #[.string A] 9)).alloc (.cells #[.string a] 9)) ((((w.alloc (.cells #[.pointer none] 53)).alloc (.cells #[.string A] 9)).alloc (.cells #[.string a] 9)).alloc (.cells #[.string a] 9)):=(a0n _ _).alloc (afA _) _;go_enter alD,ntmps90;go_wp2_with (go_at_call 141;refine(o _ _ _ _ f (.inr ⟨_,rfl⟩)).ai ?_;intro r h);go_ret;have c:=af d g d.size
 exact⟨rfl,af c h c.size⟩
theorem UW(A d)(w):ai9 83 #[.pointer none,.string A,.string d] w (.int .i64 1):=by
 have h:=λi g f=>Hf i g f
 obtain⟨_,_,_,k,c⟩:=mU w (.pointer none) (.string A) (.string d) 53 9 9;go_enter alz,ntmps83;go_wp2_with (go_at_call 137;refine(h _ _ _).ai ?_;intro j e);go_ret;have a:=af c ((a0n _ _).alloc (afA _) (.cells #[.string A] 9)) c.size
 exact⟨rfl,af a e a.size⟩
theorem Yc(d)(w):ai9 96 #[.pointer none,d] w (.int .i64 1):=by
 have e:=λc=>P6 c
 go_enter alH,ntmps96;go_wp2_with (go_at_call 98;refine(e _).ai ?_;intro f a);go_ret
 exact⟨rfl,a⟩
theorem aaQ(A)(w):ai9 29 #[.pointer none,.string A] w (.int .i64 1):=by
 have d:=λa=>a1L A a
 have c:=λa=>je a
 go_enter ali,ntmps29;go_wp2_with (first|(go_at_call 48;refine(c _).aH ?_)|(go_at_call 89;refine(d _).ai ?_;intro f e));go_ret
 exact bX
theorem a5w(A)(w):ai9 33 #[.pointer none,.string A] w (.int .i64 1):=by
 have d:=λa=>UT A a
 have c:=λa=>je a
 go_enter alk,ntmps33;go_wp2_with (first|(go_at_call 48;refine(c _).aH ?_)|(go_at_call 93;refine(d _).ai ?_;intro f e));go_ret
 exact bX
theorem Yd(A)(n)(w):ai9 35 #[.pointer none,.string A,.int .i64 n] w (.int .i64 1):=by
 have d:=λa=>OC A n a
 have c:=λa=>je a
 go_enter alm,ntmps35;go_wp2_with (first|(go_at_call 48;refine(c _).aH ?_)|(go_at_call 94;refine(d _).ai ?_;intro f e));go_ret
 exact bX
theorem a5x(A c)(w):ai9 31 #[.pointer none,.string A,.string c] w (.int .i64 1):=by
 have f:=λa=>UU A c a
 have d:=λa=>je a
 go_enter alj,ntmps31;go_wp2_with (first|(go_at_call 48;refine(d _).aH ?_)|(go_at_call 90;refine(f _).ai ?_;intro g e));go_ret
 exact bX
theorem a5y(A d)(w):ai9 27 #[.pointer none,.string A,.string d] w (.int .i64 1):=by
 have f:=λa=>UW A d a
 have c:=λa=>je a
 go_enter alh,ntmps27;go_wp2_with (first|(go_at_call 48;refine(c _).aH ?_)|(go_at_call 83;refine(f _).ai ?_;intro g e));go_ret
 exact bX
theorem a8G(n)(w):ai9 37 #[.pointer none,.int .i64 n] w (.int .i64 1):=by
 have d:=λa=>X8 n a
 have c:=λa=>je a
 go_enter aln,ntmps37;go_wp2_with (first|(go_at_call 48;refine(c _).aH ?_)|(go_at_call 95;refine(d _).ai ?_;intro f e));go_ret
 exact bX
theorem a8H(c)(w):ai9 39 #[.pointer none,c] w (.int .i64 1):=by
 have f:=λa=>Yc c a
 have d:=λa=>je a
 go_enter alo,ntmps39;go_wp2_with (first|(go_at_call 48;refine(d _).aH ?_)|(go_at_call 96;refine(f _).ai ?_;intro g e));go_ret
 exact bX
theorem aaR(s)(w):ai9 41 #[.pointer none,.string s] w (.tuple #[.string ⟨#[]⟩,.int .i64 1]):=by
 have d:=λa=>a1K s a
 have c:=λa=>je a
 go_enter alq,ntmps41;go_wp2_with (first|(go_at_call 48;refine(c _).aH ?_)|(go_at_call 97;refine(d _).ai ?_;intro f e));go_ret2
 exact bX
theorem aaS(w):ai9 45 #[.pointer none] w (.tuple #[.int .i64 0,.int .i64 1]):=by
 have d:=λa=>X9 a
 have c:=λa=>je a
 go_enter alu,ntmps45;go_wp2_with (first|(go_at_call 48;refine(c _).aH ?_)|(go_at_call 99;refine(d _).ai ?_;intro f e));go_ret2
 exact bX
theorem aaT(w):ai9 43 #[.pointer none] w (.tuple #[.slice none 0 0,.int .i64 1]):=by
 have d:=λa=>P6 a
 have c:=λa=>je a
 go_enter alr,ntmps43;go_wp2_with (first|(go_at_call 48;refine(c _).aH ?_)|(go_at_call 98;refine(d _).ai ?_;intro f e));go_ret2
 exact bX
end Go.Proofs.Zq
