import Derived.Deep.DeepCutAuto
import Derived.Test.YtkdjjnkpfpogkaaGreatDoorK24
set_option maxHeartbeats 8000000
set_option linter.all false
set_option maxRecDepth 20000
namespace Go
theorem bM{P:Prop}(h:P:=by first|(go_simp;with_reducible rfl)|go_simp):P:=h
end Go
namespace Go.Proofs.Zq
open Tryz
open Go.RowKit Go.Shelf Go.WideMaps Go.Maps
open Rl
variable{w:World}{k:Nat}{done:Bool}
theorem UX(keep)(l):eO keep l 0=l:=by simp[eO]
theorem Ye(keep)(l):eO keep l l.length=l.mapIdx (λi f=>lu f (fe keep i)):=by simp[eO]
theorem Fx(keep)(l)(k)(h:k<=l.length):(eO keep l k).length=l.length:=by simp[eO];omega
theorem Yf(keep)(l)(k)(h:k<l.length):(eO keep l k)[k]'(by grind[Fx])=l[k]:=by
 simp only[eO]
 grind
theorem Yg(keep)(l)(k)(h:k<l.length):(eO keep l k).set k (lu l[k] (fe keep k))=eO keep l (k+1):=by
 unfold eO
 rw[afH h,List.mapIdx_append,List.set_append_right _ _ (by simp;omega)]
 have e:(List.mapIdx (λi f=>lu f (fe keep i)) (l.take k)).length=k:=by simp;omega
 rw[e,Nat.sub_self,agt h,agb,agH]
 grind
theorem P7(f)(d)(h:f.sync<=f.data.size):nL f d<=f.data.size:=iE
theorem a1M(f)(d)(h:f.sync<=f.data.size):(f.sync:Int)+min (max d 0) ((f.data.size:Int)-(f.sync:Int))=(nL f d:Int):=iE
theorem UY{S}{p b}{M}{m:az}{keep}(h:bS w S p b M {m with files:=eO keep m.files k})(R:k<m.files.length)(hm:m.files.length<=4194304):
  ∃a c,M m.files[k].name=.slice a m.files[k].data.size c/\m.files[k].sync<=m.files[k].data.size/\
   (∀J,bS J S p b M {m with files:=eO keep m.files k}->(Instr.lookup 84 (.map (some b)) (.string m.files[k].name) false).run ah.prog J=.ok (.agg #[.slice a m.files[k].data.size c,.int .i64 (m.files[k].sync:Int)]) J)/\
   w.ownsRow 0 5 1 (.slice a m.files[k].data.size c) m.files[k].data.size (yJ m.files[k].data.data.toList)/\
   ∀w1 v,ah' w w1->w.ownsRow 0 5 1 v (nL m.files[k] (fe keep k)) (yJ (m.files[k].data.extract 0 (nL m.files[k] (fe keep k))).data.toList)->v.ownBlock=(Value.slice a m.files[k].data.size c).ownBlock->
    ai3 140 #[.pointer (some ⟨p,0,none⟩),.string m.files[k].name,.agg #[v,.int .i64 (nL m.files[k] (fe keep k):Int)]] w1 λe w'=>e=.returned (.tuple #[])/\
     ∃O,bS w' S p b O {m with files:=eO keep m.files (k+1)}/\dJ S w1 w':=by
 have Q:=Fx keep m.files k (Nat.le_of_lt R);have u:=Yf keep m.files k R
 have d:m.files[k]∈eO keep m.files k:=by
  have:=afS (l:=eO keep m.files k) (n:=k) (by rw[Q];exact R)
  rw[u]at this;exact this
 obtain⟨a,c,L⟩:=ay (h.rows _ d);have y:=h.sync _ d;have hl:=I8 h.ord d
 have N:bR m.files[k].name (eO keep m.files k)=some k:=by have:=PV h.ord (k:=k) (by simp only;rw[Q];exact R);simp only[u]at this;exact this
 refine⟨a,c,L,y,λJ hx=> ?_,by rw[<-L];exact h.rows _ d,λw1 v hb F U=> ?_⟩
 ·have:=(xP hx m.files[k].name (by have:=h.names _ d;exact aB)).2
  simp only[hl,L]at this;exact this
 ·have hsz:(lu m.files[k] (fe keep k)).data.size=nL m.files[k] (fe keep k):=extract_size (P7 _ _ y)
  have I:=MF h d (v:=v) (by rw[U,L]);refine(He w1 S p b M {m with files:=eO keep m.files k} (lu m.files[k] (fe keep k)) v ((h.later hb).but _) (by simp only;rw[Q];exact hm) (by rw[hsz];exact bu F hb) I (h.names m.files[k] d) (by rw[hsz];exact jF)).mono ?_;rintro e w' ⟨V,h1,h2⟩
  have E:jU (lu m.files[k] (fe keep k)) (eO keep m.files k)=eO keep m.files (k+1):=
   (a1w (f:=lu m.files[k] (fe keep k)) (l:=eO keep m.files k) (k:=k) N).trans (Yg keep m.files k R)
  rw[E]at h1
  exact⟨V,_,h1,h2⟩
theorem a00{a}{n c}{b:ByteArray}(h:w.ownsRow 0 5 1 (.slice a n c) n (yJ b.data.toList))(o:k<=n):
  w.ownsRow 0 5 1 (.slice a k c) k (yJ (b.extract 0 k).data.toList)/\n<=c:=by
 obtain⟨e,f⟩|⟨g,m,l,e,_,_,d,_⟩:=h.2
 ·injection e with j _ i
  subst j i f;obtain rfl:k=0:=by omega
  exact⟨⟨by rw[DL];rfl,.inl ⟨rfl,rfl⟩⟩,afA _⟩
 grind[PZ]
theorem a1N(w)(S)(p b)(cv)(m)(h:bS w S p b cv m)(hm:m.files.length<=4194304)(hu:aR m.files<=4194304)(kv)(keep)(R:bz w kv keep.length 1 (ints keep))(_hkl:keep.length<=4194304)(hks:∀k,kv.ownBlock=some k->¬S k):
  ai3 96 #[.pointer (some ⟨p,0,none⟩),kv] w λe w'=>e=.returned (.int .i64 0)/\bY S w w' p b (DI m keep):=by
 have M:=λwx(hx:bS wx S p b cv m)=>MJ wx S p b cv m hx hm
 have hS0:∀j,w.heap.size<=j->¬S j:=λj hj hs=>gq
 have HI:=hide h;have J:bS w S p b cv {m with files:=eO keep m.files 0}:=by rw[UX];exact h
 have HZ:=J;have E:=M w h;clear M h J;go_enter alH,ntmps96;go_wp2_with (go_at_call 98;refine E.mono ?_;rintro e w1 ⟨nv,rfl,y,H⟩;obtain⟨na,nc,rfl⟩:=ay y);have u:=hide (aM y);have q:Hid (∀k,(Value.slice na m.files.length nc).ownBlock=some k->¬S k):=λk R=>hS0 k (y.lt k R).1
 have HK:=hide (R.later H);have HKS:=hide hks;clear R hks y E hS0
 go_loopw [22] (λi wr=>∃(k:Nat)(cv':ByteArray->Value),k<=m.files.length/\i=.int .i64 k/\bS wr S p b cv' {m with files:=eO keep m.files k}/\dJ S w1 wr) (λi _=>m.files.length-(intOf i).toNat)
 case atStart=>exact⟨0,cv,afK _,rfl,HZ.later H,dJ.refl _ _⟩
 case round=>
  obtain⟨k,cv',hkm,rfl,hi,hT⟩:=hrel
  by_cases Z:k<m.files.length
  ·obtain⟨a,c,ev,hsy,I,U,V⟩:=UY hi Z hm
   have X:=K7 (m.files.map λf=>f.name) k (by rw[ag0];exact Z)
   rw[List.getElem_map]at X
   have hnr:=iQ u.out hT q.out;have O:=iQ HK.out hT HKS.out;have hus:=afC (vB (afS Z)) hu;have HCE:=hide (a1M m.files[k] (fe keep k) hsy);have HCL:=hide (P7 m.files[k] (fe keep k) hsy);obtain⟨_,_,_,e0⟩|⟨ng,no,af6,en,_,hnb,hnc⟩:=hnr.2
   ·omega
   ·injection en with en1 _ en2
    subst en1 en2;have cn:=hnc _ _ X;have HFI:=hide I;have HPU:=hide V;have HR:=hide U;have L:=hide hi;have W:=hide hT;have d1:=hi.box.c1;have hpl:=hi.box.lt;clear hnc hnr X I V U hi hT ev
    rw[agV]at cn
    generalize m.files[k]=f at*;have hx:(k:Int)<(m.files.length:Int):=by omega
    have hk0:(0:Int)<=(k:Int):=by omega
    by_cases hkk:k<keep.length
    ·have F:fe keep k=keep[k]:=by unfold fe;rw[agB,afP hkk];rfl
     obtain⟨_,_,_,e0⟩|⟨kg,ko,Q,ek,_,hkb,d⟩:=O.2
     ·omega
     ·subst ek
      have ck:=d _ _ (Mm keep k hkk)
      rw[agV,<-F]at ck
      have ael:(k:Int)<(keep.length:Int):=by omega
      clear d O F;generalize hmr:fe keep k=n at*;generalize nL f n=N at*;have hce:=HCE.out;have E:=HCL.out;have hf1:=HFI.out wr L.out;obtain⟨hcut,hcap⟩:=a00 HR.out E;have HOB:Hid ((Value.slice a N c).ownBlock=(Value.slice a f.data.size c).ownBlock):=by cases a<;>rfl
      have HC2:=hide hcut;clear hcut;go_wp2_with (go_at_call 140;refine(HPU.out _ (.slice a N c) ((a0n _ _).alloc (afA _) _) HC2.out HOB.out).ai ?_;rintro w5 ⟨cv5,h5,C⟩)
      exact⟨⟨k+1,cv5,by omega,by go_num,h5,(W.out.alloc _).trans C (λ_ x=>.inl x)⟩,aA⟩
    ·have F:fe keep k=0:=by unfold fe;rw[agB,agR (by omega)];rfl
     have ael:¬(k:Int)<(keep.length:Int):=by omega
     obtain⟨ka,kc,ekv⟩:∃ka kc,kv=.slice ka keep.length kc:=by
      obtain⟨ka,kc,e,J⟩|⟨kg,ko,Q,e,_⟩:=O.2
      ·exact⟨ka,kc,by rw[J];exact e⟩
      ·exact⟨_,Q,e⟩
     subst ekv;clear O;have hN:nL f (fe keep k)=f.sync:=by rw[F];exact iE
     rw[hN]at HCE HCL HPU
     have hmin:min (0:Int) ((f.data.size:Int)-(f.sync:Int))=0:=by omega
     have E:=HCL.out;have hf1:=HFI.out wr L.out;clear hN F HCE;obtain⟨hcut,hcap⟩:=a00 HR.out E;have HOB:Hid ((Value.slice a f.sync c).ownBlock=(Value.slice a f.data.size c).ownBlock):=by cases a<;>rfl
     have HC2:=hide hcut;clear hcut;go_wp2_with (go_at_call 140;refine(HPU.out _ (.slice a f.sync c) ((a0n _ _).alloc (afA _) _) HC2.out HOB.out).ai ?_;rintro w5 ⟨cv5,h5,C⟩)
     exact⟨⟨k+1,cv5,by omega,by go_num,h5,(W.out.alloc _).trans C (λ_ x=>.inl x)⟩,aA⟩
  ·have e:k=m.files.length:=by omega
   subst e;have Y:=hi
   rw[Ye]at Y
   have c2:=hi.box.c2;have f2:=hi.box.f2;have L:=hide Y;have W:=hide hT;clear hi Y hT;go_wp2;go_ret
   exact⟨rfl,bY.behind H ⟨S,cv',L.out.yI (-1),λ_ x=>.inl x,W.out.set _ (.inl L.out.own)⟩⟩
theorem a8I(w)(S)(q)(m)(h:gu w S q m)(o:m.files.length<=4194304)(n:aR m.files<=4194304)(d)(keep)(j:bz w d keep.length 1 (ints keep))(i:keep.length<=4194304)(g:∀k,d.ownBlock=some k->¬S k):
  ai3 39 #[.pointer (some ⟨q,0,none⟩),d] w λe l=>e=.returned (.int .i64 0)/\qy S w l q (DI m keep):=by
 obtain⟨p,b,u,c,r⟩:=h.inner;have t:=a1N w _ p b u m r o n d keep j i (λk j x=>g k j x.1);have f:=h;have s:=kN w q p c;go_enter alo,ntmps39;go_wp2_with (first|(go_at_call 48;refine s.aH ?_)|(go_at_call 96;refine t.ai ?_;intro v a));exact um
open Go.RowKit
def eP(S:Nat->Prop)(w a:World)(p:Nat)(m:az):Prop:=∃b c,bK a b p c m/\(∀k,b k->S k\/w.heap.size<=k)/\dJ S w a
theorem P8:(ah.prog.info? 127).map (λi=>(i.zero,i.size,i.bytes))=some (some (.agg #[.string ⟨#[]⟩,.string ⟨#[]⟩,.int .i64 0]),3,40):=by kernel_rfl
theorem ML{B f}{e}{a}{v}{n}{d}(h:w.ownsRow B e a v n d)(j:f<=B):w.ownsRow f e a v n d:=
 ⟨h.1,h.2.imp id (λ⟨g,c,b,e,i,r⟩=>⟨g,c,b,e,afC j i,r⟩)⟩
theorem vO(f:aD):∀u∈[Value.string f.name,Value.string f.data,Value.int .i64 (f.sync:Int)],u.oneCell'=true:=by intro u g;exact ahi
theorem bK.files{w w'}{S}{p}{o lv}{m}{l}(h:bK w S p o m)(c:dJ (λ_=>False) w w')(d:w'.ownsRow w.heap.size 127 3 lv l.length (dO l)):
  eP S w (w'.setCell ⟨p,1,none⟩ lv) p {m with files:=l}:=by
 have j:=h.lt p h.own;have b:∀k,lv.ownBlock=some k->w.heap.size<=k/\k<w'.heap.size:=λk a=>d.lt k a
 refine⟨λk=>S k\/(w.heap.size<=k/\k<w'.heap.size),lv,⟨?_,?_,.inl h.own,λk a=>⟨.inr (b k a),by have:=(b k a).1;omega⟩,?_⟩,λk a=>a.imp id And.left,?_⟩
 ·exact(h.box.touch c (λx=>x)).set1 lv
 ·refine(fH (S:=λk=>k=p) (p:=⟨p,1,none⟩) lv rfl).owns ?_ (λk a e=>by have:=(b k a).1;omega)
  exact⟨d.1,d.2.imp id (λ⟨g,i,f,e,_,r⟩=>⟨g,i,f,e,afK _,r⟩)⟩
 ·intro k a
  obtain a|a:=a
  ·have:=h.lt k a;have:=c.size;simp;omega
  ·simp;omega
 ·exact(c.mono (λ_ x=>x.elim)).set lv (.inl h.own)
theorem Yh(l:List aD)(d k)(h:k<l.length):(l.take (k+1)).eraseIdx d=if k=d then(l.take k).eraseIdx d else(l.take k).eraseIdx d++[l[k]]:=by
 have c:(l.take k).length=k:=by rw[List.length_take];omega
 rw[afH h]
 generalize l.take k=a at*;generalize l[k]=x
 by_cases f:d<k
 ·grind
 ·have e:a.eraseIdx d=a:=List.eraseIdx_of_length_le (by omega)
  rw[e,List.eraseIdx_append_of_length_le (by omega),c]
  by_cases b:k=d<;>(simp_all<;>omega)
theorem DN(w)(S)(p)(U)(m)(d)(h:bK w S p U m)(hn:m.files.length<=4194304)(L:d<m.files.length):
  ai3 92 #[.pointer (some ⟨p,0,none⟩),.int .i64 (d:Int)] w λe w'=>e=.returned (.tuple #[])/\eP S w w' p {m with files:=m.files.eraseIdx d}:=by
 obtain⟨i0,hi,hz0,hz1,hz2⟩:=ahC P8;have W:=λw' E l=>bK.files (w':=w') (lv:=E) (l:=l) h;obtain⟨c0,c1,c2,f0,f1,f2,hl⟩:=h.box;have Y:=aM h.row;obtain⟨av,cv,rfl⟩:=ay h.row;generalize m.files=l at*;go_enter anN,ntmps92;go_wp2
 go_loopw [4,5] (λx i wr=>∃(k:Nat)(E:Value)(C:List aD),E=x/\k<=l.length/\i=.int .i64 k/\Hid (C=(l.take k).eraseIdx d)/\wr.ownsRow w.heap.size 127 3 E C.length (dO C)/\C.length<=k/\ah' w wr) (λ_ i _=>l.length-(intOf i).toNat)
 case atStart=>exact⟨0,_,[],rfl,afK _,rfl,rfl,a9X _ _ _ _,afA _,a0n _ _⟩
 case round=>
  obtain⟨k,E,C,rfl,R,rfl,s,F,N,hb⟩:=hrel
  by_cases Z:k<l.length
  ·obtain⟨_,_,_,J⟩|⟨g,o,V,e,_,Q,M⟩:=(Y.later hb).2
   ·omega
   ·cases e
    obtain⟨g1,g2,g3⟩:=kC l k Z;have q0:wr.cell? ⟨g,o+k*3,none⟩=_:=M _ _ g1;have q1:wr.cell? ⟨g,o+k*3+1,none⟩=_:=M _ _ g2;have q2:wr.cell? ⟨g,o+k*3+2,none⟩=_:=M _ _ g3;have d0:=(hb.cell (p:=⟨p,0,none⟩) hl).trans c0;have d1:=(hb.cell (p:=⟨p,1,none⟩) hl).trans c1;have HS:=hide (Yh l d k Z);have hx:(k:Int)<(l.length:Int):=by omega
    have O:(0:Int)<=(k:Int):=by omega
    by_cases y:k=d
    ·have e1:((k:Int) != (d:Int))=false:=by rw[y];simp
     have u:Hid (C=(l.take (k+1)).eraseIdx d):=by rw[Hid,HS.out,afN y];exact s.out
     go_wp2
     exact⟨⟨k+1,E,C,rfl,by omega,by go_num,u,F,by omega,hb⟩,aA⟩
    ·have e1:((k:Int) != (d:Int))=true:=by rw[agF];omega
     have u:Hid (C++[l[k]]=(l.take (k+1)).eraseIdx d):=by rw[Hid,HS.out,afJ y,s.out]
     have HC:=hide (nT C [l[k]]);generalize l[k]=f at*;go_wp2_with (at_builtin;refine af4 _ rfl _ _ 57 rfl w.heap.size 127 i0 (.agg #[.string ⟨#[]⟩,.string ⟨#[]⟩,.int .i64 0]) 3 40 ajA hi hz0 hz1 hz2 rfl (by decide) _ _ _ rfl (F.alloc _) ⟨wr.heap.size,0,none⟩ 1 1 [.string f.name,.string f.data,.int .i64 (f.sync:Int)] rfl rfl (cu _ _ _) (vO f) aB (by omega) (afC hb.size (by simp)) ?_;intro I w5 X z _)
     exact⟨⟨k+1,I,C++[f],rfl,by omega,by go_num,u,by rw[HC.out,afE];exact X,lK,dX hb hb.size F z⟩,aA⟩
  ·have e:k=l.length:=by omega
   subst e;have u:Hid (C=l.eraseIdx d):=by rw[Hid,s.out,ag8]
   have d0:=(hb.cell (p:=⟨p,0,none⟩) hl).trans c0;have d1:=(hb.cell (p:=⟨p,1,none⟩) hl).trans c1;have z0:=(hb.frozen (p:=⟨p,0,none⟩) hl).trans f0;have z1:=(hb.frozen (p:=⟨p,1,none⟩) hl).trans f1;have hs:=hb.size;obtain⟨a2,b2,rfl⟩:=ay F;go_wp2
   refine aqr ?_
   rw[<-u.out]
   exact⟨rfl,W _ _ _ (dJ.aK hb) F⟩
theorem a8J{l a:List aD}{f x}(h:done=rW f (l.take k)/\a=if done=true then kV f (l.take k)else l.take k)(b:true=(!done&&I6 f.name x.name))(d:l.take (k+1)=l.take k++[x]):
  Hid (true=rW f (l.take (k+1))/\a++[f]++[x]=if true=true then kV f (l.take (k+1))else l.take (k+1)):=by
 cases done with
 |true=>simp at b
 |false=>
  obtain⟨e,c⟩:=h;simp at b c;refine⟨?_,?_⟩<;>grind[FW,a4W]
theorem a8K{l a:List aD}{f x:aD}(h:done=rW f (l.take k)/\a=if done=true then kV f (l.take k)else l.take k)(b:true=(!done&&I6 f.name x.name)):a.length<=k:=by grind
theorem aaU{l a:List aD}{f x}(h:done=rW f (l.take k)/\a=if done=true then kV f (l.take k)else l.take k)(c:false=(!done&&I6 f.name x.name))(b:l.take (k+1)=l.take k++[x]):
  Hid (done=rW f (l.take (k+1))/\a++[x]=if done=true then kV f (l.take (k+1))else l.take (k+1)):=by
 obtain⟨e,d⟩:=h
 constructor<;>grind[FW,a1s]
theorem F6(w)(S)(p)(fv)(m)(f)(h:bK w S p fv m)(hn:m.files.length<=4194304):
  ai3 87 #[.pointer (some ⟨p,0,none⟩),.agg #[.string f.name,.string f.data,.int .i64 (f.sync:Int)]] w λe w'=>e=.returned (.tuple #[])/\eP S w w' p {m with files:=kV f m.files}:=by
 obtain⟨i0,hi,hz0,hz1,hz2⟩:=ahC P8;have HD:=λw' E l=>bK.files (w':=w') (lv:=E) (l:=l) h;obtain⟨c0,c1,c2,f0,f1,f2,hl⟩:=h.box;have Y:=aM h.row;obtain⟨av,cv,rfl⟩:=ay h.row;generalize m.files=l at*;have ba:ah' w (w.alloc (.cells #[.string f.name,.string f.data,.int .i64 (f.sync:Int)] 127)):=(a0n _ _).alloc (afA _) _;have G:=hide (dJ.aK (S:=λ_=>False) ba);have HZ:=hide ba.size;have bx:=mD w (.string f.name) (.string f.data) (.int .i64 (f.sync:Int)) 127;have I:=Y.later ba;have e0:=(ba.cell (p:=⟨p,0,none⟩) hl).trans c0;have e1:=(ba.cell (p:=⟨p,1,none⟩) hl).trans c1;have y0:=(ba.frozen (p:=⟨p,0,none⟩) hl).trans f0;have y1:=(ba.frozen (p:=⟨p,1,none⟩) hl).trans f1;have d:p<(w.alloc (.cells #[.string f.name,.string f.data,.int .i64 (f.sync:Int)] 127)).heap.size:=by simp;omega
 go_enter anM,ntmps87;go_wp2;generalize w.heap.size=nf at*;generalize w.alloc (.cells #[.string f.name,.string f.data,.int .i64 (f.sync:Int)] 127)=w1 at*
 go_loopw [4,5,6] (λx dn i wr=>∃(k:Nat)(E:Value)(C:List aD)(done:Bool),E=x/\dn=.bool done/\k<=l.length/\i=.int .i64 k/\wr.ownsRow w1.heap.size 127 3 E C.length (dO C)/\C.length<=k+1/\Hid (done=rW f (l.take k)/\C=if done=true then kV f (l.take k)else l.take k)/\ah' w1 wr) (λ_ _ i _=>l.length-(intOf i).toNat)
 case atStart=>exact⟨0,_,[],false,rfl,rfl,afK _,rfl,a9X _ _ _ _,by simp,⟨rfl,rfl⟩,a0n _ _⟩
 case round=>
  obtain⟨k,E,C,done,rfl,rfl,R,rfl,F,hxl,s,hb⟩:=hrel
  by_cases Z:k<l.length
  ·obtain⟨_,_,_,J⟩|⟨g,o,cap,e,_,L,M⟩:=I.2
   ·omega
   ·cases e
    obtain⟨g1,g2,g3⟩:=kC l k Z;have hbk:=afB L hb.size;have q0:=(hb.cell (p:=⟨g,o+k*3,none⟩) L).trans (M _ _ g1);have q1:=(hb.cell (p:=⟨g,o+k*3+1,none⟩) L).trans (M _ _ g2);have q2:=(hb.cell (p:=⟨g,o+k*3+2,none⟩) L).trans (M _ _ g3);have d0:=(hb.cell (p:=⟨p,0,none⟩) d).trans e0;have d1:=(hb.cell (p:=⟨p,1,none⟩) d).trans e1;obtain⟨O,b1,b2,_,_,_,bl⟩:=bx.later hb;have HB:=hide bx;have U:=hide (afH Z);have hx:(k:Int)<(l.length:Int):=by omega
    have hk0:(0:Int)<=(k:Int):=by omega
    have HL:=hide hb.size;generalize l[k]=x at*;obtain⟨c,HC⟩:∃c:Bool,Hid (c=(!done&&I6 f.name x.name)):=⟨_,rfl⟩
    go_upto_region 6 with fail
    go_cut [30]from 16 to 30 (λt wx=>t=.bool c/\∃n,wx=wr.drewN n)
    case first=>
     cases done with
     |true=>
      have ec:c=false:=HC.out;subst ec;refine wp_region_held_drew (S:=λw'=>ah' w1 w') (by kernel_rfl) (hb.drew) (λD=> ?_);refine ahE (i:=0) (v:= ?af7) rfl (by kernel_rfl) (by kernel_rfl) (by kernel_rfl) (λ_ _ _ h=>h) (Or.inl ⟨by rfl,?acw⟩) (by assumption) ?adu
      case acw=>
       intro w' hSw
       exact bM
      refine ahE (i:=1) (v:= ?af8) rfl (by kernel_rfl) (by kernel_rfl) (by kernel_rfl) (λ_ _ _ h=>h) (Or.inl ⟨by rfl,?acx⟩) (by assumption) ?adv
      case acx=>
       intro w' hSw
       exact bM
      refine ahE (i:=2) (v:= ?af9) rfl (by kernel_rfl) (by kernel_rfl) (by kernel_rfl) (λ_ _ _ h=>h) (Or.inl ⟨by rfl,?acy⟩) (by assumption) ?adw
      case acy=>
       intro w' hSw
       exact bM
      simp only[Act.put,agc,afZ,afX,afV,agb,ag7];refine ahE (i:=3) (v:=undef) rfl (by kernel_rfl) (by kernel_rfl) (by kernel_rfl) (λ_ _ _ h=>h) (Or.inr ⟨dS,rfl⟩) (by assumption) ?_;simp only[Act.put,agc,afZ,afX,afV,agb,ag7];refine ahE (i:=4) (v:=undef) rfl (by kernel_rfl) (by kernel_rfl) (by kernel_rfl) (λ_ _ _ h=>h) (Or.inr ⟨dS,rfl⟩) (by assumption) ?_;simp only[Act.put,agc,afZ,afX,afV,agb,ag7];refine ahE (i:=5) (v:=undef) rfl (by kernel_rfl) (by kernel_rfl) (by kernel_rfl) (λ_ _ _ h=>h) (Or.inr ⟨dS,rfl⟩) (by assumption) ?_;simp only[Act.put,agc,afZ,afX,afV,agb,ag7];refine ahE (i:=6) (v:=undef) rfl (by kernel_rfl) (by kernel_rfl) (by kernel_rfl) (λ_ _ _ h=>h) (Or.inr ⟨dS,rfl⟩) (by assumption) ?_;simp only[Act.put,agc,afZ,afX,afV,agb,ag7];refine ahE (i:=7) (v:=undef) rfl (by kernel_rfl) (by kernel_rfl) (by kernel_rfl) (λ_ _ _ h=>h) (Or.inr ⟨dS,rfl⟩) (by assumption) ?_;simp only[Act.put,agc,afZ,afX,afV,agb,ag7];refine ahE (i:=8) (v:=undef) rfl (by kernel_rfl) (by kernel_rfl) (by kernel_rfl) (λ_ _ _ h=>h) (Or.inr ⟨dS,rfl⟩) (by assumption) ?_;simp only[Act.put,agc,afZ,afX,afV,agb,ag7];refine ahE (i:=9) (v:=undef) rfl (by kernel_rfl) (by kernel_rfl) (by kernel_rfl) (λ_ _ _ h=>h) (Or.inr ⟨dS,rfl⟩) (by assumption) ?_;simp only[Act.put,agc,afZ,afX,afV,agb,ag7];refine ahE (i:=10) (v:=undef) rfl (by kernel_rfl) (by kernel_rfl) (by kernel_rfl) (λ_ _ _ h=>h) (Or.inr ⟨dS,rfl⟩) (by assumption) ?_;simp only[Act.put,agc,afZ,afX,afV,agb,ag7];refine ahE (i:=11) (v:=undef) rfl (by kernel_rfl) (by kernel_rfl) (by kernel_rfl) (λ_ _ _ h=>h) (Or.inr ⟨dS,rfl⟩) (by assumption) ?_;simp only[Act.put,agc,afZ,afX,afV,agb,ag7];refine ahE (i:=12) (v:=undef) rfl (by kernel_rfl) (by kernel_rfl) (by kernel_rfl) (λ_ _ _ h=>h) (Or.inr ⟨dS,rfl⟩) (by assumption) ?_;simp only[Act.put,agc,afZ,afX,afV,agb,ag7];refine ahE (i:=13) (v:=undef) rfl (by kernel_rfl) (by kernel_rfl) (by kernel_rfl) (λ_ _ _ h=>h) (Or.inr ⟨dS,rfl⟩) (by assumption) ?_;simp only[Act.put,agc,afZ,afX,afV,agb,ag7];refine ahE (i:=14) (v:= ?af2) rfl (by kernel_rfl) (by kernel_rfl) (by kernel_rfl) (λ_ _ _ h=>h) (Or.inl ⟨by rfl,?aaV⟩) (by assumption) ?acz
      case aaV=>
       intro w' hSw
       exact bM
      simp only[Act.put,agc,afZ,afX,afV,agb,ag7];refine wpAnyH_done (by kernel_rfl) ?_ _;go_wp2_with fail
      go_meet
      case rel=>exact⟨rfl,1,rfl⟩
     |false=>
      have ec:c=I6 f.name x.name:=HC.out;have e2:I6 f.name x.name=Op.bytesLess f.name.toList x.name.toList:=rfl
      rw[e2]at ec
      go_quiet (fail)
      go_wp2_with fail
      go_meet
      case rel=>exact⟨by rw[ec],nq,rfl⟩
    case rest=>
     obtain⟨rfl,nq,rfl⟩:=hcut;replace F:(wr.drewN nq).ownsRow w1.heap.size 127 3 E C.length (dO C):=F;replace hb:ah' w1 (wr.drewN nq):=⟨hb.os,hb.tape,hb.output,hb.size,hb.block⟩;have j0:(wr.drewN nq).cell? ⟨p,0,none⟩=some (.int .i64 m.room):=d0;have j1:(wr.drewN nq).cell? ⟨p,1,none⟩=some (.slice (some ⟨g,o,none⟩) l.length cv):=d1;have j2:(wr.drewN nq).cell? ⟨nf,0,none⟩=some (.string f.name):=O;have j3:(wr.drewN nq).cell? ⟨nf,1,none⟩=some (.string f.data):=b1;have j4:(wr.drewN nq).cell? ⟨nf,2,none⟩=some (.int .i64 (f.sync:Int)):=b2;have j5:(wr.drewN nq).cell? ⟨g,o+k*3,none⟩=some (.string x.name):=q0;have j6:(wr.drewN nq).cell? ⟨g,o+k*3+1,none⟩=some (.string x.data):=q1;have j7:(wr.drewN nq).cell? ⟨g,o+k*3+2,none⟩=some (.int .i64 (x.sync:Int)):=q2;have jl:nf<(wr.drewN nq).heap.size:=bl;have jg:g<(wr.drewN nq).heap.size:=hbk;generalize wr.drewN nq=W at*;have N:∀j,j<w1.heap.size->some j≠E.ownBlock:=λj hj e=>by have:=(F.lt j e.symm).1;omega
     have z1:Hid (C.length+1<=maxLen):=lJ
     have H:Hid ((C.length+1)*40<=140737488355328):=by unfold Hid;omega
     have y:=hide N;have HLN:=hide (λh=>(N nf h));cases c with
     |true=>
      have z3:Hid (C.length+1+1<=maxLen):=lJ
      have z4:Hid ((C.length+1+1)*40<=140737488355328):=by unfold Hid;omega
      go_wp2_with (first
       |(at_builtin;refine af4 _ rfl _ _ 57 rfl w1.heap.size 127 i0 (.agg #[.string ⟨#[]⟩,.string ⟨#[]⟩,.int .i64 0]) 3 40 ajA hi hz0 hz1 hz2 rfl (by decide) _ _ _ rfl (F.alloc _) ⟨W.heap.size,0,none⟩ 1 1 [.string f.name,.string f.data,.int .i64 (f.sync:Int)] rfl rfl (cu _ _ _) (vO f) (z1.out) (H.out) (afC hb.size (by simp)) ?_;intro v5 w5 X z _;have y0:=pV z j0 (y.out _ d);have y1:=pV z j1 (y.out _ d);have y5:=pV z j5 (y.out _ L);have y6:=pV z j6 (y.out _ L);have y7:=pV z j7 (y.out _ L))
       |(at_builtin;refine af4 _ rfl _ _ 57 rfl w1.heap.size 127 i0 (.agg #[.string ⟨#[]⟩,.string ⟨#[]⟩,.int .i64 0]) 3 40 ajA hi hz0 hz1 hz2 rfl (by decide) _ _ _ rfl (X.alloc _) ⟨w5.heap.size,0,none⟩ 1 1 [.string x.name,.string x.data,.int .i64 (x.sync:Int)] rfl rfl (cu _ _ _) (vO x) z3.out z4.out (afC hb.size (afC (by simp) (afC z.size (by simp)))) ?_;intro v6 w6 hown6 Q _))
      have hxk:=a8K s.out HC.out
      exact⟨⟨k+1,v6,C++[f]++[x],true,rfl,rfl,by omega,by go_num,by rw[nT,nT,afE,afE];exact hown6,by simp;omega,a8J s.out HC.out U.out,dX (dX hb hb.size F z) (afC hb.size (afC (by simp) z.size)) X Q⟩,aA⟩
     |false=>
      go_wp2_with (first|(at_builtin;refine af4 _ rfl _ _ 57 rfl w1.heap.size 127 i0 (.agg #[.string ⟨#[]⟩,.string ⟨#[]⟩,.int .i64 0]) 3 40 ajA hi hz0 hz1 hz2 rfl (by decide) _ _ _ rfl (F.alloc _) ⟨W.heap.size,0,none⟩ 1 1 [.string x.name,.string x.data,.int .i64 (x.sync:Int)] rfl rfl (cu _ _ _) (vO x) (z1.out) (H.out) (afC hb.size (by simp)) ?_;intro v5 w5 X z _))
      exact⟨⟨k+1,v5,C++[x],done,rfl,rfl,by omega,by go_num,by rw[nT,afE];exact X,by simp;omega,aaU s.out HC.out U.out,dX hb hb.size F z⟩,aA⟩
  ·have e:k=l.length:=by omega
   subst e;have HX2:Hid (done=rW f l/\C=if done=true then kV f l else l):=by have:=s.out;rw[ag8]at this;exact this
   have d0:=(hb.cell (p:=⟨p,0,none⟩) d).trans e0;have d1:=(hb.cell (p:=⟨p,1,none⟩) d).trans e1;have z0:=(hb.frozen (p:=⟨p,1,none⟩) d).trans y1;have jb0:=(bx.later hb).c0;have jb1:=(bx.later hb).c1;have jb2:=(bx.later hb).c2;have HO:=hide F;have HBB:=hide hb;have hsz:=hb.size;have hpw:p<wr.heap.size:=afB d hb.size;obtain⟨a2,b2,rfl⟩:=ay F;cases done with
   |true=>
    have V:C=kV f l:=by have:=HX2.out.2;rwa[afN rfl]at this
    subst V;go_wp2_with fail
    refine aqr ?_
    exact⟨rfl,HD _ _ _ (G.out.below HBB.out) (ML HO.out HZ.out)⟩
   |false=>
    have V:kV f l=C++[f]:=by have h1:=HX2.out.1;have h2:=HX2.out.2;rw[afJ (by simp)]at h2;rw[h2];exact a4V f l h1.symm
    have u:=hide V;have HC:=hide (nT C [f]);have HOZ:=hide (afC HZ.out hsz);have z1:C.length+1<=maxLen:=aB
    have H:(C.length+1)*40<=140737488355328:=by omega
    have N:some p≠(Value.slice a2 C.length b2).ownBlock:=λe=>by have:=(F.lt p e.symm).1;omega
    have y:=hide N;go_wp2_with (first|(at_builtin;refine af4 _ rfl _ _ 57 rfl w1.heap.size 127 i0 (.agg #[.string ⟨#[]⟩,.string ⟨#[]⟩,.int .i64 0]) 3 40 ajA hi hz0 hz1 hz2 rfl (by decide) _ _ _ rfl (F.alloc _) ⟨wr.heap.size,0,none⟩ 1 1 [.string f.name,.string f.data,.int .i64 (f.sync:Int)] rfl rfl (cu _ _ _) (vO f) z1 H (afC hb.size (by simp)) ?_;intro v5 w5 X z _;obtain⟨a5,b5,rfl⟩:=ay X;have y1:=(ahz (a:=⟨p,1,none⟩) ((z.block p (by simp;omega) y.out).trans (ahL _ _ _ hpw))).trans d1;have y2:=(ahJ (a:=⟨p,1,none⟩) ((z.block p (by simp;omega) y.out).trans (ahL _ _ _ hpw))).trans z0))
    refine aqr ?_
    rw[u.out]
    exact⟨rfl,HD _ _ (C++[f]) (G.out.below (dX HBB.out hsz HO.out z)) (by rw[HC.out,afE];exact ML X HZ.out)⟩
end Go.Proofs.Zq
