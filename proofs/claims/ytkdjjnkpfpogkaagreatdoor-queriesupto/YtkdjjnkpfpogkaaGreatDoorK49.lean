import Derived.ChangeOld
import Derived.ChangeSame
import Derived.Deep.Slices
import Derived.OpenShut
import Derived.Test.YtkdjjnkpfpogkaaGreatDoorRows
import Derived.Test.YtkdjjnkpfpogkaaGreatDoorK48
set_option maxHeartbeats 8000000
set_option linter.all false
set_option maxRecDepth 20000
namespace Go
def uO{P:Prop}(h:P:=by
 go_wp2_with fail
 go_meet
 case rel=>exact⟨rfl,⟨_,rfl⟩,n,s,cs,l,v.out.mono (by omega) (by rw[E.out];omega),by omega,by omega,D.out⟩):P:=h
def Db{P:Prop}(h:P:=by
 go_meet
 case rel=>exact⟨rfl,⟨_,rfl⟩,t,s,_,_,J.mono (by omega) (by rw[E.out];omega),by rw[afE,List.length_singleton];omega,by omega,(D.out.trans (F.out.mono (λ_ x=>x.elim)) (λ_ x=>x)).trans (I.mono (λc M=>by omega)) (λ_ x=>x)⟩):P:=h
end Go
namespace Go.Proofs.Zq
open Tryz
open Go.RowKit
variable{w W:World}{ow:Nat->Nat}{G s a b i B A:Nat}{cs:Nat->Value}{xv dv:Value}
namespace Rl
def uU.cells(o:uU):List Value:=[.int .i64 o.kind,.int .i64 o.W,.int .i64 o.A,.int .i64 o.C,.string o.S,.string o.T,.slice o.la o.keep.length o.lc]
def iy(l:List uU):List Value:=l.flatMap uU.cells
theorem qJ(l:List uU):(iy l).length=l.length*7:=by
 induction l with
 |nil=>rfl
 |cons f r c=>simp_all[iy,List.flatMap_cons,uU.cells]<;>omega
theorem En:∀(l:List uU)(j:Nat)(h:j<l.length),(iy l)[j*7]? =some (.int .i64 l[j].kind)/\(iy l)[j*7+1]? =some (.int .i64 l[j].W)/\(iy l)[j*7+2]? =some (.int .i64 l[j].A)/\(iy l)[j*7+3]? =some (.int .i64 l[j].C)/\(iy l)[j*7+4]? =some (.string l[j].S)/\(iy l)[j*7+5]? =some (.string l[j].T)/\(iy l)[j*7+6]? =some (.slice l[j].la l[j].keep.length l[j].lc):=by
 intro l;induction l with
 |nil=>simp
 |cons f r c=>
  intro j h;have e:iy (f::r)=.int .i64 f.kind::.int .i64 f.W::.int .i64 f.A::.int .i64 f.C::.string f.S::.string f.T::.slice f.la f.keep.length f.lc::iy r:=rfl;cases j with
  |zero=>rw[e];exact⟨rfl,rfl,rfl,rfl,rfl,rfl,rfl⟩
  |succ j=>
   have d:j<r.length:=by simpa using h
   obtain⟨q,p,o,n,m,k,g⟩:=c j d
   rw[e]
   refine⟨?_,?_,?_,?_,?_,?_,?_⟩
   ·grind
   ·grind
   ·grind
   ·grind
   ·grind
   ·grind
   ·grind
def xz:List uU->Nat
 |[]=>0
 |o::r=>o.T.size+xz r
theorem WE(l m:List uU):xz (l++m)=xz l+xz m:=by
 induction l with
 |nil=>simp[xz]
 |cons f r c=>grind[xz]
theorem a3O(l:List uU)(k:Nat)(h:k<l.length):xz (l.take (k+1))=xz (l.take k)+l[k].T.size:=by grind[afH,WE,xz]
theorem a0o(l:List uU)(k:Nat):xz (l.take k)<=xz l:=by grind[xz,WE,ah2]
structure Oh where
 B:Nat
 xv:Value
 dv:Value
 om:Option az
def Oi(x:Oh):Value:=.pointer (some ⟨x.B,0,none⟩)
structure nU(w:World)(ow:Nat->Nat)(G s a b:Nat)(cs:Nat->Value)(ws:List Oh):Prop where
 books:nJ w ow G cs s
 row:fI w ow 44 1 (cs 0) ws.length (ws.map Oi) 2
 each:∀i(h:i<ws.length),bU w ow i ws[i].B ws[i].xv ws[i].dv ws[i].om/\iU ws[i].om a b
theorem nU.frame{T:Nat->Prop}{w w':World}{ow d:Nat->Nat}{G s a b:Nat}{cs:Nat->Value}{l:List Oh}(h:nU w ow G s a b cs l)(hf:Fr T w ow w' d)(E:∀c,T c->c=0):nU w' d G s a b cs l:=
 ⟨h.books.frame hf (λc M hx=>by have:=E c hx;exact lY),h.row.frame hf (λhx=>by have:=E _ hx;omega),λi hi=>⟨(h.each i hi).1.frame hf (λhx=>by have:=E _ hx;omega) (λhx=>by have:=E _ hx;omega) (λhx=>by have:=E _ hx;omega),(h.each i hi).2⟩⟩
theorem nU.mono{w:World}{ow:Nat->Nat}{G s a b f e:Nat}{cs:Nat->Value}{c:List Oh}(h:nU w ow G s a b cs c)(l:a<=f)(j:b<=e):nU w ow G s f e cs c:=
 ⟨h.books,h.row,λi d=>⟨(h.each i d).1,(h.each i d).2.mono l j⟩⟩
theorem nU.step{n:World}{c:List Oh}{o:uU}(h:nU w ow G s a b cs c)(E:i<c.length)(y:wV w ow i c[i].B G a b s cs c[i].xv c[i].dv o n):
  ∃d l f g,nU n d G l (a+1) (b+o.T.size) f g/\g.length=c.length/\l<=s+1/\Fr (StepT i) w ow n d:=by
 obtain⟨d,k,f,l,D,v,C,u,q,p⟩:=y;have z:∀j,j≠i->¬StepT i (30+3*j)/\¬StepT i (31+3*j)/\¬StepT i (32+3*j):=λj m=>pM
 refine⟨d,l,f,c.set i {c[i]with om:=k},⟨C,?_,λj m=> ?_⟩,by simp,u,p⟩
 ·rw[q,List.length_set]
  have e:(c.set i {c[i]with om:=k}).map Oi=c.map Oi:=by
   apply List.ext_getElem (by simp);intro j H F;simp only[List.getElem_map,List.getElem_set];split
   ·rename_i e;subst e;rfl
   ·rfl
  rw[e]
  exact h.row.frame p pM
 ·rw[List.length_set]at m
  simp only[List.getElem_set];split
  ·grind
  ·rename_i e
   obtain⟨t0,t,r⟩:=z j (λx=>e x.symm)
   exact⟨(h.each j m).1.frame p t0 t r,(h.each j m).2.mono (by omega) (by omega)⟩
def cs0:Nat->Value:=λj=>if j=1\/j=2 then .int .i64 0 else if j=3 then .bool false else .slice none 0 0
theorem Zz(w:World)(ow:Nat->Nat)(T:TypeId):
  nU (w.alloc (.cells #[.slice none 0 0,.int .i64 0,.int .i64 0,.bool false,.slice none 0 0,.slice none 0 0,.slice none 0 0,.slice none 0 0,.slice none 0 0,.slice none 0 0,.slice none 0 0,.slice none 0 0,.slice none 0 0,.slice none 0 0,.slice none 0 0,.slice none 0 0] T)) (ext w ow 1) w.heap.size 0 0 0 cs0 []:=by
 have blk:yM (w.alloc (.cells #[.slice none 0 0,.int .i64 0,.int .i64 0,.bool false,.slice none 0 0,.slice none 0 0,.slice none 0 0,.slice none 0 0,.slice none 0 0,.slice none 0 0,.slice none 0 0,.slice none 0 0,.slice none 0 0,.slice none 0 0,.slice none 0 0,.slice none 0 0] T)) (ext w ow 1) w.heap.size cs0:=by
  refine⟨dh,by simp,λj hj=> ?_,λj hj=> ?_⟩
  ·match j,hj with
   |0,_=>simp[cs0]
   |1,_=>simp[cs0]
   |2,_=>simp[cs0]
   |3,_=>simp[cs0]
   |4,_=>simp[cs0]
   |5,_=>simp[cs0]
   |6,_=>simp[cs0]
   |7,_=>simp[cs0]
   |8,_=>simp[cs0]
   |9,_=>simp[cs0]
   |10,_=>simp[cs0]
   |11,_=>simp[cs0]
   |12,_=>simp[cs0]
   |13,_=>simp[cs0]
   |14,_=>simp[cs0]
   |15,_=>simp[cs0]
   |n+16,h=>omega
  ·simp
 refine⟨⟨⟨0,0,[],[],⟨blk,rfl,rfl,rfl,Jd.nil _ _ _ _ rfl rfl,Jd.nil _ _ _ _ rfl rfl,Jd.nil _ _ _ _ rfl rfl⟩,by omega,by omega,by simp,by simp,λx hx=>by cases hx⟩,⟨[],fI.nil _ _ _ _ _,fI.nil _ _ _ _ _,by simp⟩,⟨[],fI.nil _ _ _ _ _,fI.nil _ _ _ _ _,by simp⟩,⟨rfl,rfl⟩⟩,fI.nil _ _ _ _ _,λi hi=>by simp at hi⟩
theorem a7g{f:World}{e:Nat->Nat}(h:Fr (λc=>c≠11) w ow f e)(d:∀k,k<w.heap.size->ow k=11):ah' w f:=
 ⟨h.os,h.tape,h.output,h.size,λk g=>(h.keep k g (λx=>x (d k g))).2⟩
theorem OkOp.drew{w:World}{ow:Nat->Nat}{o:uU}(h:OkOp w ow o):OkOp w.drew ow o:=h.frame (T:=λ_=>False) ⟨rfl,rfl,rfl,afA _,λ_ _ _=>⟨rfl,rfl⟩⟩ (λx=>x)
theorem nU.drew{w:World}{ow:Nat->Nat}{G s a b:Nat}{cs:Nat->Value}{c:List Oh}(h:nU w ow G s a b cs c):nU w.drew ow G s a b cs c:=h.frame (T:=λ_=>False) ⟨rfl,rfl,rfl,afA _,λ_ _ _=>⟨rfl,rfl⟩⟩ (λ_ x=>x.elim)
theorem a7h{d g:Nat}{c:List Oh}{e:TypeId}(h:w.ownsRow 0 e 1 (.slice (some ⟨d,0,none⟩) c.length g) c.length (c.map Oi)){j:Nat}(f:j<c.length):w.cell? ⟨d,j,none⟩=some (.pointer (some ⟨c[j].B,0,none⟩)):=by
 rw[h.cellAt j (by omega),agn,afP f]
 rfl
theorem a7i{o:uU}{Q:Ending->World->Prop}(h:ai3 7 #[.pointer (some ⟨G,0,none⟩),.pointer (some ⟨B,0,none⟩),o.val] w Q):
  ai3 7 #[.pointer (some ⟨G,0,none⟩),.pointer (some ⟨B,0,none⟩),.agg #[.int .i64 o.kind,.int .i64 o.W,.int .i64 o.A,.int .i64 o.C,.string o.S,.string o.T,.slice o.la o.keep.length o.lc]] w Q:=h
theorem abC{d:World}{n e m:Nat}{o:uU}{f:List Oh}(x:wV w ow i B G a b s cs xv dv o d)(y:Bx7 w n (.int .i64 o.kind) (.int .i64 o.W) (.int .i64 o.A) (.int .i64 o.C) (.string o.S) (.string o.T) (.slice o.la o.keep.length o.lc))(u:ow n=0)(z:cs 0=.slice (some ⟨e,0,none⟩) f.length m)(g:e<w.heap.size)(l:ow e=2)(C:w.cell? ⟨G,0,none⟩=some (.slice (some ⟨e,0,none⟩) f.length m)/\w.cell? ⟨n,0,none⟩=some (.int .i64 o.kind)/\w.cell? ⟨n,1,none⟩=some (.int .i64 o.W)/\w.cell? ⟨n,2,none⟩=some (.int .i64 o.A)/\w.cell? ⟨n,3,none⟩=some (.int .i64 o.C)/\w.cell? ⟨n,4,none⟩=some (.string o.S)/\w.cell? ⟨n,5,none⟩=some (.string o.T)/\w.cell? ⟨n,6,none⟩=some (.slice o.la o.keep.length o.lc)/\(∀j(h:j<f.length),w.cell? ⟨e,j,none⟩=some (.pointer (some ⟨f[j].B,0,none⟩)))):
  d.cell? ⟨G,0,none⟩=some (.slice (some ⟨e,0,none⟩) f.length m)/\d.cell? ⟨n,0,none⟩=some (.int .i64 o.kind)/\d.cell? ⟨n,1,none⟩=some (.int .i64 o.W)/\d.cell? ⟨n,2,none⟩=some (.int .i64 o.A)/\d.cell? ⟨n,3,none⟩=some (.int .i64 o.C)/\d.cell? ⟨n,4,none⟩=some (.string o.S)/\d.cell? ⟨n,5,none⟩=some (.string o.T)/\d.cell? ⟨n,6,none⟩=some (.slice o.la o.keep.length o.lc)/\(∀j(h:j<f.length),d.cell? ⟨e,j,none⟩=some (.pointer (some ⟨f[j].B,0,none⟩))):=by
 obtain⟨r,t,E,F,H,v,D,I,k,q⟩:=x;have c:=y.frame q u pM;refine⟨?_,c.c0,c.c1,c.c2,c.c3,c.c4,c.c5,c.c6,λj h=>(q.cell (p:=⟨e,j,none⟩) g l pM).trans (C.2.2.2.2.2.2.2.2 j h)⟩
 rw[<-z,<-k]
 exact D.blk.cells 0 (by omega)
theorem nJ.aeY(h:nJ w ow G cs s)(v:Value):nJ (w.setCell ⟨G,0,none⟩ v) ow G (nM cs 0 v) s/\Fr (λc=>c=1) w ow (w.setCell ⟨G,0,none⟩ v) ow:=by
 obtain⟨n,d,g,e,m,l⟩:=h.ex;obtain⟨k,f⟩:=m.put (j:=0) v (by omega)
 exact⟨⟨⟨n,d,g,e,k,l⟩,h.e.frame f (by omega) (by omega) (bC _ _ (by omega)) (bC _ _ (by omega)),h.t.frame f (by omega) (by omega) (bC _ _ (by omega)) (bC _ _ (by omega)),⟨by rw[bC _ _ (by omega)];exact h.s.a,by rw[bC _ _ (by omega)];exact h.s.b⟩⟩,f⟩
theorem nU.world{l:List Oh}(h:nU w ow G s a b cs l){om:Option az}(L:gX w ow l.length xv dv om)(T:TypeId):
  nU (w.alloc (.cells #[xv,dv,.pointer none,.pointer none,.bool false] T)) (ext w ow (30+3*l.length)) G s a b cs l/\bU (w.alloc (.cells #[xv,dv,.pointer none,.pointer none,.bool false] T)) (ext w ow (30+3*l.length)) l.length w.heap.size xv dv om/\
   Fr (λ_=>False) w ow (w.alloc (.cells #[xv,dv,.pointer none,.pointer none,.bool false] T)) (ext w ow (30+3*l.length)):=by
 have f:=Fr.aK ow ((a0n w.heap.size w).alloc (afA _) (.cells #[xv,dv,.pointer none,.pointer none,.bool false] T)) (λ_=>False) (30+3*l.length);refine⟨h.frame f (λ_ x=>x.elim),⟨dh,by simp,by simp,by simp,by simp,by simp,⟨false,by simp⟩,λj hj=>by simp,L.frame f (λx=>x) (λx=>x)⟩,f⟩
theorem nU.append{n g:World}{f:List Oh}{l:Value}{o:Option az}(h:nU w ow G s a b cs f)(t:bU w ow f.length B xv dv o)(z:iU o a b)(C:ah' w n)(D:g.ownsRow 0 44 1 l (f.length+1) (f.map Oi++[.pointer (some ⟨B,0,none⟩)]))(y:n.grownBy g (cs 0).ownBlock)(u:Laid n g (cs 0) l):
  ∃d,yM g d G cs/\nU (g.setCell ⟨G,0,none⟩ l) d G s a b (nM cs 0 l) (f++[⟨B,xv,dv,o⟩])/\Fr (λc=>c=1\/c=2) w ow (g.setCell ⟨G,0,none⟩ l) d:=by
 obtain⟨d,r,q⟩:=MV h.row C D y (qA u);have m:=h.books.frame q (by grind[BkC]);obtain⟨p,f6⟩:=m.aeY l;have E:yM g d G cs:=m.blk;have k:=(q.mono (λc(x:c=2)=>(Or.inr x:c=1\/c=2))).trans (f6.mono (λc(x:c=1)=>(Or.inl x:c=1\/c=2))) (λ_ x=>x);refine⟨d,E,⟨p,?_,λi v=> ?_⟩,k⟩
 ·rw[ik,afE,agD]
  exact r.frame f6 (by omega)
 ·rw[afE,List.length_singleton]at v
  by_cases j:i<f.length
  ·rw[List.getElem_append_left j]
   exact⟨(h.each i j).1.frame k (by omega) (by omega) (by omega),(h.each i j).2⟩
  ·have e:i=f.length:=by omega
   subst e
   rw[List.getElem_append_right (afA _)]
   simp only[Nat.sub_self,List.getElem_singleton]
   exact⟨t.frame k (by omega) (by omega) (by omega),z⟩
theorem a3P{w1 w2:World}{q p:Nat}{m:az}{u:Value}(h1:gu w1 (λk=>w.heap.size<=k/\k<w1.heap.size) q m)(b1:ah' w w1)(h2:bK w2 (λk=>w1.heap.size<=k/\k<w2.heap.size) p u m)(b2:ah' w1 w2):
  ∃d,gX w2 d i (.pointer (some ⟨q,0,none⟩)) (.pointer (some ⟨p,0,none⟩)) (some m)/\Fr (λ_=>False) w ow w2 d:=by
 have f1:=Fr.aK ow b1 (λ_=>False) (31+3*i);have f2:=Fr.aK (ext w ow (31+3*i)) b2 (λ_=>False) (32+3*i);have y:gu w1 (Own w1 (ext w ow (31+3*i)) (31+3*i)) q m:=h1.mono (λk R=>⟨R.2,dh⟩) (λ_ R=>R.1);refine⟨_,⟨q,p,u,rfl,rfl,y.frame f2 (λx=>x),h2.mono (λk R=>⟨R.2,dh⟩) (λ_ R=>R.1)⟩,f1.trans f2 (λ_ x=>x)⟩
end Rl
open Rl
theorem a0p(p:Option Addr):∀u∈[Value.pointer p],u.oneCell'=true:=by intro u d;exact ahg
theorem WG:(ah.prog.info? 44).map (λi=>(i.zero,i.size,i.bytes))=some (some (.pointer none),1,8):=by kernel_rfl
theorem a3Q(w:World)(ow:Nat->Nat)(sa:Option Addr)(sc:Nat)(L:List uU)(Y:bz w (.slice sa L.length sc) L.length 7 (iy L))(hrc:L.length≠0->∀k,(Value.slice sa L.length sc).ownBlock=some k->k<w.heap.size/\ow k=11)(hall:∀k,k<w.heap.size->ow k=11)(y:∀o∈L,OkOp w ow o)(hn:L.length<=1048576)(ht:xz L<=1048576):
  ai9 4 #[.slice sa L.length sc,.int .i64 3,.int .i64 12] w (.bool true):=by
 have HR:=Y;have HRC:=hide hrc;have aeZ:=hide hall;have HOK:=hide y;go_enter Qf4,ntmps4;go_wp2_with fail;have HG0:=hide (Zz w ow 37);have HF0:=hide (Fr.aK ow ((a0n w.heap.size w).alloc (afA _) (.cells #[.slice none 0 0,.int .i64 0,.int .i64 0,.bool false,.slice none 0 0,.slice none 0 0,.slice none 0 0,.slice none 0 0,.slice none 0 0,.slice none 0 0,.slice none 0 0,.slice none 0 0,.slice none 0 0,.slice none 0 0,.slice none 0 0,.slice none 0 0] 37)) (λc=>c≠11) 1)
 go_loopw [8] (λj wr=>∃(k s:Nat)(mg:Nat->Nat)(cs:Nat->Value)(l:List Oh),k<=L.length/\j=.int .i64 k/\nU wr mg w.heap.size s k (xz (L.take k)) cs l/\l.length<=k/\s<=k/\Fr (λc=>c≠11) w ow wr mg) (λj _=>L.length-(intOf j).toNat)
 case atStart=>exact⟨0,0,_,cs0,[],afK _,rfl,HG0.out,afK _,afK _,HF0.out⟩
 case round=>
  obtain⟨k,s,mg,cs,l,R,rfl,hG,hwl,hs,hF⟩:=hrel;have HG:=hide hG;have u:=hide hF;have htl:=a0o L k
  by_cases Z:k<L.length
  ·have ho:=(HOK.out _ (afS Z)).frame u.out (λx=>x rfl)
   have htk:=a3O L k Z;have afv:=a0o L (k+1);obtain⟨a',c',e,e0⟩|⟨sb,so,afw,e,_,hsb,hsc⟩:=HR.2
   ·omega
   ·cases e
    obtain⟨hsl,Q⟩:=HRC.out (by omega) sb rfl;obtain⟨q0,q1,q2,q3,q4,q5,q6⟩:=En L k Z;have r0:=(u.out.cell (p:=⟨sb,so+k*7,none⟩) hsl Q (λx=>x rfl)).trans (hsc _ _ q0);have r1:=(u.out.cell (p:=⟨sb,so+(k*7+1),none⟩) hsl Q (λx=>x rfl)).trans (hsc _ _ q1);have r2:=(u.out.cell (p:=⟨sb,so+(k*7+2),none⟩) hsl Q (λx=>x rfl)).trans (hsc _ _ q2);have r3:=(u.out.cell (p:=⟨sb,so+(k*7+3),none⟩) hsl Q (λx=>x rfl)).trans (hsc _ _ q3);have r4:=(u.out.cell (p:=⟨sb,so+(k*7+4),none⟩) hsl Q (λx=>x rfl)).trans (hsc _ _ q4);have r5:=(u.out.cell (p:=⟨sb,so+(k*7+5),none⟩) hsl Q (λx=>x rfl)).trans (hsc _ _ q5);have r6:=(u.out.cell (p:=⟨sb,so+(k*7+6),none⟩) hsl Q (λx=>x rfl)).trans (hsc _ _ q6)
    rw[<-Nat.add_assoc]at r1 r2 r3 r4 r5 r6
    have HO:=hide ho;have E:=hide htk;generalize L[k]=o at*;have hx:(k:Int)<(L.length:Int):=by omega
    have hk0:(0:Int)<=(k:Int):=by omega
    go_upto_block 2 with fail
    have fb:=Fr.aK mg ((a0n _ wr).alloc (afA _) (.cells #[.int .i64 o.kind,.int .i64 o.W,.int .i64 o.A,.int .i64 o.C,.string o.S,.string o.T,.slice o.la o.keep.length o.lc] 39)) (λ_=>False) 0;have hnb:ext wr mg 0 wr.heap.size=0:=dh
    have bx:=jX wr (.int .i64 o.kind) (.int .i64 o.W) (.int .i64 o.A) (.int .i64 o.C) (.string o.S) (.string o.T) (.slice o.la o.keep.length o.lc) 39;have v:=hide (HG.out.frame fb (λ_ x=>x.elim));have D:=hide (u.out.trans (fb.mono (λ_ x=>x.elim)) (λ_ x=>x));have HOB:=hide (HO.out.frame fb (λx=>x));have RY:=hide bx;have HNB:=hide hnb;generalize wr.alloc (.cells #[.int .i64 o.kind,.int .i64 o.W,.int .i64 o.A,.int .i64 o.C,.string o.S,.string o.T,.slice o.la o.keep.length o.lc] 39)=wb at*;generalize ext wr mg 0=n at*;generalize wr.heap.size=N at*
    go_cut [10,11] (λokv whv wx=>okv=.bool true/\(∃r,whv=.int .i64 r)/\∃d s2 cs2 ws2,nU wx d w.heap.size s2 (k+1) (xz (L.take (k+1))) cs2 ws2/\ws2.length<=k+1/\s2<=k+1/\Fr (λc=>c≠11) w ow wx d)
    case first=>
     obtain⟨O,b1,b2,b3,b4,b5,b6,bl⟩:=RY.out
     by_cases a9Y:12<o.kind/\o.kind<23
     ·have d1:decide (12<o.kind)=true:=afL a9Y.1
      have d2:decide (o.kind<23)=true:=afL a9Y.2;exact uO
     ·have adm:decide (12<o.kind)=false\/(decide (12<o.kind)=true/\decide (o.kind<23)=false):=by
       by_cases h1:12<o.kind
       ·exact .inr ⟨afL h1,afG (by omega)⟩
       ·exact .inl (afG h1)
      have hrow:=v.out.row;have U:yM wb n w.heap.size cs:=v.out.books.blk;have C:=U.cells 0 (by omega);have gz:=U.fz 0 (by omega);have gl:=U.lt;obtain⟨aa,ac,ea⟩:=ay hrow.row
      rw[ea]at C
      by_cases hk1:o.kind=1
      ·have e1:(o.kind==1)=true:=by rw[agx];exact hk1
       have d1:decide (12<o.kind)=false:=afG (by omega);have ae':l.length<=1048576:=by omega
       have HEA:=hide ea
       go_upto_region 12 with(first
        |(go_at_call 5;refine(UR o.A wb).mono ?_;rintro e w1 ⟨q,rfl,hp1,H⟩;have x2:=(H.cell (p:=⟨N,2,none⟩) bl).trans b2)
        |(go_at_call 6;refine(Yi o.A w1).mono ?_;rintro e w2 ⟨pp,rfl,hr2,V⟩))
       obtain⟨d,hd2,f2⟩:=a3P (ow:=n) (i:=l.length) hp1 H hr2 V;have hG2:=v.out.frame f2 (λ_ x=>x.elim);obtain⟨hG1,hW1,hF1⟩:=hG2.world hd2 48;obtain⟨j0,hj,hj0,hj1,hj2⟩:=ahC WG;have a7j:=hG1.row.row;have U:yM w2 d w.heap.size cs:=hG2.books.blk;have C:=U.cells 0 (by omega);have gz:=U.fz 0 (by omega);have gl:=U.lt
       rw[HEA.out]at C a7j
       have a9Z:iU (some (⟨max o.A 0,[],-1⟩:az)) k (xz (L.take k)):=λm hm=>by
        cases hm;have:=HOB.out.a1
        exact⟨afK _,afK _,by simp only;omega,by simp only;omega,by simp only;omega,by simp only;omega,λf hf=>by cases hf⟩
       have HFI:=hide a9Z;have HG1:=hide hG1;have HW1:=hide hW1;have F:=hide (f2.trans hF1 (λ_ x=>x));go_wp2_with (at_builtin;refine gL _ rfl _ _ 26 rfl 0 44 j0 (.pointer none) 1 8 an7 hj hj0 hj1 hj2 rfl (by decide) _ _ _ rfl (a7j.alloc _) _ 1 1 [.pointer (some ⟨w2.heap.size,0,none⟩)] rfl rfl (wJ _ _ _ _) (a0p _) aB (by omega) (afK _) ?_;intro v5 w5 X z y8;obtain⟨a5,c5,rfl⟩:=ay X;obtain⟨t,g5,J,I⟩:=HG1.out.append HW1.out HFI.out ((a0n _ _).alloc (afA _) (.cells #[.pointer (some ⟨w2.heap.size,0,none⟩)] 44)) X (by rw[HEA.out];exact z) (by rw[HEA.out];exact y8);have y0:=g5.cells 0 (by omega);have z0:=g5.fz 0 (by omega))
       exact Db
      ·by_cases hk2:o.kind=2
       ·have e1:(o.kind==1)=false:=by rw[afW];exact hk1
        have e2:(o.kind==2)=true:=by rw[agx];exact hk2
        have d1:decide (12<o.kind)=false:=afG (by omega);obtain⟨hG1,hW1,hF1⟩:=v.out.world (xv:=.pointer none) (dv:=.pointer none) (om:=none) ⟨rfl,rfl⟩ 48;obtain⟨j0,hj,hj0,hj1,hj2⟩:=ahC WG;have a7j:=hG1.row.row
        rw[ea]at a7j
        have HG1:=hide hG1;have HW1:=hide hW1;have F:=hide hF1;have HEA:=hide ea;have ae':l.length<=1048576:=by omega
        go_wp2_with (at_builtin;refine gL _ rfl _ _ 26 rfl 0 44 j0 (.pointer none) 1 8 an7 hj hj0 hj1 hj2 rfl (by decide) _ _ _ rfl (a7j.alloc _) _ 1 1 [.pointer (some ⟨wb.heap.size,0,none⟩)] rfl rfl (wJ _ _ _ _) (a0p _) aB (by omega) (afK _) ?_;intro v5 w5 X z y8;obtain⟨a5,c5,rfl⟩:=ay X;obtain⟨t,g5,J,I⟩:=HG1.out.append HW1.out (λm hm=>by cases hm) ((a0n _ _).alloc (afA _) (.cells #[.pointer (some ⟨wb.heap.size,0,none⟩)] 44)) X (by rw[HEA.out];exact z) (by rw[HEA.out];exact y8);have y0:=g5.cells 0 (by omega);have z0:=g5.fz 0 (by omega))
        exact Db
       ·have e1:(o.kind==1)=false:=by rw[afW];exact hk1
        have e2:(o.kind==2)=false:=by rw[afW];exact hk2
        by_cases hw0:0<l.length
        ·have d0:decide ((0:Int)<(l.length:Int))=true:=afL (by omega)
         have d0':(0:Int)<(l.length:Int):=by omega
         obtain⟨ag,rfl⟩:∃ag,aa=some ⟨ag,0,none⟩:=by
          have Y:=hrow.row.2
          rw[ea]at Y
          obtain⟨e,_⟩|⟨g,cap,cur,e,_⟩:=Y
          ·injection e with _ e _;omega
          ·injection e with e1 _ _;exact⟨g,e1⟩
         have hcode:n ag=2:=hrow.code ag (by rw[ea];rfl);have hcl:=λj(hj:j<l.length)=>a7h (by have:=hrow.row;rw[ea]at this;exact this) hj
         have adn:=(hrow.row.lt ag (by rw[ea];rfl)).2;have HCL:=hide (λj(hj:j<l.length)=>(show wb.drew.cell? ⟨ag,j,none⟩=some (.pointer (some ⟨l[j].B,0,none⟩))from hcl j hj));have HDO:=hide (λki(hki:ki<l.length)=>a7i (a7f wb.drew n ki l[ki].B w.heap.size k (xz (L.take k)) s cs l[ki].xv l[ki].dv l[ki].om o ((v.out.drew).each ki hki).1 ((v.out.drew).each ki hki).2 (v.out.drew).books HOB.out.drew (by omega) (by omega) (by omega) (by omega)));have HRO:=hide (hrow.row);have HBD:=hide (RY.out.drew);have hw4:l.length<=4194304:=by omega
         have HW0:=hide HOB.out.w0;have HW1:=hide HOB.out.w1;have hS1:wb.drew.cell? ⟨w.heap.size,0,none⟩=some (.slice (some ⟨ag,0,none⟩) l.length ac)/\wb.drew.cell? ⟨N,0,none⟩=some (.int .i64 o.kind)/\wb.drew.cell? ⟨N,1,none⟩=some (.int .i64 o.W)/\wb.drew.cell? ⟨N,2,none⟩=some (.int .i64 o.A)/\wb.drew.cell? ⟨N,3,none⟩=some (.int .i64 o.C)/\wb.drew.cell? ⟨N,4,none⟩=some (.string o.S)/\wb.drew.cell? ⟨N,5,none⟩=some (.string o.T)/\wb.drew.cell? ⟨N,6,none⟩=some (.slice o.la o.keep.length o.lc)/\(∀j(hj:j<l.length),wb.drew.cell? ⟨ag,j,none⟩=some (.pointer (some ⟨l[j].B,0,none⟩))):=⟨C,O,b1,b2,b3,b4,b5,b6,λj hj=>hcl j hj⟩;have HKE:=hide (λw2 ki(hki:ki<l.length)(he:wV wb.drew n ki l[ki].B w.heap.size k (xz (L.take k)) s cs l[ki].xv l[ki].dv o w2)=>abC he RY.out.drew HNB.out ea (show ag<wb.drew.heap.size from adn) hcode hS1);obtain d1|⟨d1,d2⟩:=adm
         all_goals
          go_upto_region 17 with fail
          go_region_held (λw'=>w'.cell? ⟨w.heap.size,0,none⟩=some (.slice (some ⟨ag,0,none⟩) l.length ac)/\w'.cell? ⟨N,0,none⟩=some (.int .i64 o.kind)/\w'.cell? ⟨N,1,none⟩=some (.int .i64 o.W)/\w'.cell? ⟨N,2,none⟩=some (.int .i64 o.A)/\w'.cell? ⟨N,3,none⟩=some (.int .i64 o.C)/\w'.cell? ⟨N,4,none⟩=some (.string o.S)/\w'.cell? ⟨N,5,none⟩=some (.string o.T)/\w'.cell? ⟨N,6,none⟩=some (.slice o.la o.keep.length o.lc)/\(∀j(hj:j<l.length),w'.cell? ⟨ag,j,none⟩=some (.pointer (some ⟨l[j].B,0,none⟩)))) (first|assumption|(exact hS1)|(exact HKE.out _ _ hki hstep)) (first
           |(go_at_call 8;refine(a1R o.W l.length hw0 hw4 HW0.out HW1.out _).mono ?_;rintro e w1 ⟨ki,hki,rfl,rfl⟩;have rk:=HCL.out ki hki;have afx:(ki:Int)<(l.length:Int):=Int.ofNat_lt.2 hki;have afy:(0:Int)<=(ki:Int):=Int.natCast_nonneg ki)
           |(go_at_call 7;refine(HDO.out ki hki).mono ?_;rintro e w2 ⟨r,rfl,hstep⟩))
          obtain⟨d,s2,cs2,ws2,hG2,hl2,hs2,hF2⟩:=(v.out.drew).step hki hstep;go_wp2_with fail
          go_meet
          case rel=>exact⟨rfl,⟨_,rfl⟩,d,s2,cs2,ws2,by rw[E.out];exact hG2,by omega,by omega,(D.out.drew').trans (hF2.mono (λc M=>by unfold StepT Ki BkC at M;omega)) (λ_ x=>x)⟩
        ·have d0:decide ((0:Int)<(l.length:Int))=false:=afG (by omega)
         have afz:l.length=0:=by omega
         obtain d1|⟨d1,d2⟩:=adm
         ·exact uO
         ·exact uO
    case rest=>
     obtain⟨rfl,⟨r,rfl⟩,d,s2,cs2,ws2,hG2,af0,hs2,hF2⟩:=hcut;go_wp2_with (go_at_call 9;refine(a3N wc d w.heap.size s2 cs2 hG2.books (by omega)).ai ?_;intro w9 hb9;have f9:=Fr.aK d hb9 (λ_=>False) 0)
     exact⟨⟨k+1,s2,_,cs2,ws2,by omega,by go_num,hG2.frame f9 (λ_ x=>x.elim),af0,hs2,hF2.trans (f9.mono (λ_ x=>x.elim)) (λ_ x=>x)⟩,aA⟩
  ·have hx:¬(k:Int)<(L.length:Int):=by omega
   go_wp2_with fail;go_ret
   exact⟨rfl,a7g u.out aeZ.out⟩
open Go.ChangeShapes Go.WideShapes Go.ChangeAt Go.RowKit Go.Proofs.YtkdjjnkpfpogkaaGreatDoor
namespace Rl
theorem Oj{n:Int}(h:(Lit.int .i64 n).wf=true): -9223372036854775808<=n/\n<=9223372036854775807:=uH
theorem JB:Tryz.prog.cellsOf 3=1:=by kernel_rfl
theorem a3R:Tryz.prog.cellsOf 9=1:=by kernel_rfl
theorem a3S:Tryz.prog.cellsOf 31=1:=by kernel_rfl
theorem IE:Tryz.prog.cellsOf 39=7:=by kernel_rfl
theorem a7k{H:Type}(d:DataW H):1<=Rows.uptoBulk d:=by
 cases d with
 |lit l=>cases l<;>simp[Rows.uptoBulk]
 |nil=>simp[Rows.uptoBulk]
 |ptr d=>simp[Rows.uptoBulk]
 |slice g e=>simp[Rows.uptoBulk]
 |agg f=>simp[Rows.uptoBulk]
 |iface t d=>simp[Rows.uptoBulk]
 |map c=>simp[Rows.uptoBulk]
 |held h=>simp[Rows.uptoBulk]
theorem a9v{H:Type}(l:List (DataW H)):l.length<=Rows.uptoBulkAll l:=by
 induction l with
 |nil=>simp
 |cons x r c=>grind[a7k,Rows.uptoBulkAll,ag4]
def Roomy(W:World)(a:Option Addr)(n c:Nat):Prop:=∀l,a=some l->(n≠0\/c≠0)->∃cs t d,W.heap[l.block]? =some (.cells cs t d)
theorem WH{a:Addr}{v:Value}(h:W.cell? a=some v):∃cs t c,W.heap[a.block]? =some (.cells cs t c):=by grind[World.cell?]
theorem WI{H:Type}{U:TypeId×Value->H}{v:Value}{x:DataW H×List MemPlace}(h:DataW.trod U Tryz.prog W 0 (λ_=>true) true A 31 [v]=some x):
  ∃(a:Option Addr)(c:Nat)(l:List Int),v=.slice a l.length c/\bz W (.slice a l.length c) l.length 1 (ints l)/\l.length+1<=Rows.uptoBulk x.1/\Roomy W a l.length c:=by
 obtain⟨y,rfl⟩|⟨O,d,F,N,y,_,hl,hm,V,rfl,hx,X⟩:=ChangeShapes.open_ints underlying31 underlying3 JB h
 ·simp only[agK,and_true]at y
  subst y
  exact⟨none,0,[],rfl,bz.nil _ _ _ _,by simp[Rows.uptoBulk],λl h=>by cases h⟩
 ·simp only[agK,and_true]at y
  subst y;simp only[agr]at V;have Q:(N.take d).length=d:=by simp;omega
  refine⟨some O,F,N.take d,by rw[Q],?_,?_,?_⟩
  ·rw[Q]
   refine⟨by simp[ints];omega,?_⟩
   by_cases J:d=0
   ·simp<;>omega
   ·have K:=hx 0 (by omega)
    have R:=World.cell?_spot K;obtain⟨b,o,L⟩:=O;have I:L=none:=by simpa[Addr.add]using R
    subst I;have E:∀j,(⟨b,o,none⟩:Addr).add j=⟨b,o+j,none⟩:=by intro j;exact lT
    refine .inr ⟨b,o,F,rfl,by omega,?_,?_⟩
    ·have:=World.block_lt_of_cell? _ _ K
     rw[E]at this
     exact this
    ·intro j u hu
     unfold ints at hu
     rw[agn]at hu
     obtain⟨z,hz1,rfl⟩:=agi.1 hu
     have hj:j<d:=by have:=(afY.1 hz1).1;omega
     have M:=hx j (by omega)
     rw[E]at M
     rw[List.getElem?_take_of_lt hj]at hz1
     rw[M,agB,hz1]
     rfl
  ·have hb:=a9v (H:=H) (lits .i64 (N.take d))
   have Z:(lits (H:=H) .i64 (N.take d)).length=d:=by simp[lits];omega
   simp only[Rows.uptoBulk];omega
  ·intro l e Y
   cases e;have K:=hx 0 (by omega);have hb:(O.add 0).block=O.block:=by unfold Addr.add;split<;>rfl
   obtain⟨cs,t,fr,e⟩:=WH K
   rw[hb]at e
   exact⟨cs,t,fr,e⟩
def Km(o:uU):Nat:=o.S.size+o.T.size+o.keep.length+1
structure zg(W:World)(o:uU):Prop where
 a0: -9223372036854775808<=o.A
 a1:o.A<=9223372036854775807
 w0: -9223372036854775808<=o.W
 w1:o.W<=9223372036854775807
 row:bz W (.slice o.la o.keep.length o.lc) o.keep.length 1 (ints o.keep)
 room:Roomy W o.la o.keep.length o.lc
theorem WJ(s:ByteArray):s.data.toList.length=s.size:=by simp
theorem a9w{H:Type}(k0 k1 k2 k3:Int)(S T:ByteArray)(d:DataW H)(n:Nat)(h:n+1<=Rows.uptoBulk d):S.size+T.size+n+1<=Rows.uptoBulk (.agg [.lit (.int .i64 k0),.lit (.int .i64 k1),.lit (.int .i64 k2),.lit (.int .i64 k3),.lit (.string S.data.toList),.lit (.string T.data.toList),d]):=by simp[WJ,Rows.uptoBulk,Rows.uptoBulkAll]<;>omega
theorem a3T{H:Type}{f:TypeId×Value->H}{cs:List Value}{x:DataW H×List MemPlace}(h:DataW.trod f Tryz.prog W 0 (λ_=>true) true A 39 cs=some x):
  ∃o:uU,cs=o.cells/\zg W o/\Km o<=Rows.uptoBulk x.1:=by
 obtain⟨I,n,_,rfl,d,e,c⟩:=DataW.trod_struct underlying39 h
 rw[IE]at d
 match I,e,cs,d with
 |[y0,y1,y2,y3,y4,Z,Y],_,[v0,v1,v2,v3,v4,v5,v6],_=>
  have u:=c 0 {name:= "Kind",type:=3,offset:=0,embedded:=false,tag:= "",pkgPath:= "",byteOffset:=0} rfl;have t:=c 1 {name:= "W",type:=3,offset:=1,embedded:=false,tag:= "",pkgPath:= "",byteOffset:=8} rfl;have r:=c 2 {name:= "A",type:=3,offset:=2,embedded:=false,tag:= "",pkgPath:= "",byteOffset:=16} rfl;have q:=c 3 {name:= "B",type:=3,offset:=3,embedded:=false,tag:= "",pkgPath:= "",byteOffset:=24} rfl;have p:=c 4 {name:= "S",type:=9,offset:=4,embedded:=false,tag:= "",pkgPath:= "",byteOffset:=32} rfl;have m:=c 5 {name:= "T",type:=9,offset:=5,embedded:=false,tag:= "",pkgPath:= "",byteOffset:=48} rfl;have k:=c 6 {name:= "L",type:=31,offset:=6,embedded:=false,tag:= "",pkgPath:= "",byteOffset:=64} rfl;simp only[JB,a3R,a3S,List.drop_zero,List.drop_succ_cons,List.take_succ_cons,List.take_zero,List.getElem?_cons_zero,List.getElem?_cons_succ]at u t r q p m k;obtain⟨k0,E,r0,q0⟩:=ai1 underlying3 u;obtain⟨k1,D,N,Q⟩:=ai1 underlying3 t;obtain⟨k2,C,M,P⟩:=ai1 underlying3 r;obtain⟨k3,z,r3,q3⟩:=ai1 underlying3 q;obtain⟨j,y,L,q4⟩:=DataW.trod_string underlying9 p;obtain⟨g,v,K,q5⟩:=DataW.trod_string underlying9 m;obtain⟨S,R,l,U,J,O,F⟩:=WI k;simp only[agK,and_true]at E D C z y v;subst E D C z y v U r0 N M r3 L K;obtain⟨a0,a1⟩:=Oj P;obtain⟨X,V⟩:=Oj Q;refine⟨⟨k0,k1,k2,k3,j,g,S,R,l⟩,rfl,⟨a0,a1,X,V,J,F⟩,?_⟩;have T:=a9w (H:=H) k0 k1 k2 k3 j g _ _ O;exact T
def wz:List uU->Nat
 |[]=>0
 |o::r=>Km o+wz r
theorem a7l{H:Type}(f:Nat->uU)(D:Nat->DataW H):∀l:List Nat,(∀i∈l,Km (f i)<=Rows.uptoBulk (D i))->wz (l.map f)<=Rows.uptoBulkAll (l.map D):=by
 intro l;induction l with
 |nil=>intro _;simp[wz]
 |cons a r c=>
  intro h;have g:=h a (by simp);have e:=c (λi d=>h i (by simp[d]));simp only[List.map_cons,wz,Rows.uptoBulkAll];omega
theorem a7m(l:List uU):l.length<=wz l:=by
 induction l with
 |nil=>simp[wz]
 |cons a r c=>grind[wz,ag4,Km]
theorem abD(l:List uU):xz l<=wz l:=by
 induction l with
 |nil=>simp[wz,xz]
 |cons a r c=>grind[wz,xz,Km]
theorem a7n{l:List uU}{o:uU}(h:o∈l):Km o<=wz l:=by
 induction l with
 |nil=>cases h
 |cons a r c=>
  simp only[wz];exact ahj
theorem ZA{H:Type}{enc:TypeId×Value->H}{a:Option Addr}{d N:Nat}{x:DataW H×List MemPlace}(h:DataW.trod enc Tryz.prog W 0 (λ_=>true) true A 22 [.slice a d N]=some x):
  ∃y:List uU,y.length=d/\bz W (.slice a y.length N) y.length 7 (iy y)/\(∀o∈y,zg W o)/\wz y<=Rows.uptoBulk x.1:=by
 obtain⟨E,rfl⟩|⟨a',len',cap',m,n,D,Pl,E,_,hl,hm,hmm,rfl,hx⟩:=Deep.open_slice underlying22 h
 ·simp only[agK,ahR,and_true]at E
  obtain⟨rfl,rfl,rfl⟩:=E
  exact⟨[],rfl,bz.nil _ _ _ _,by simp,by simp[wz]⟩
 ·simp only[agK,ahR,and_true]at E
  obtain⟨rfl,rfl,rfl⟩:=E;simp only[agr]at hmm;haveI:Inhabited uU:=⟨⟨0,0,0,0,⟨#[]⟩,⟨#[]⟩,none,0,[]⟩⟩
  have each:∀i,i<d->∃o:uU,W.cells? 0 (a'.add (i*7)) 7=some o.cells/\zg W o/\Km o<=Rows.uptoBulk (D i):=by
   intro i hi;obtain⟨cs',h1,h2⟩:=hx i (by omega)
   rw[IE]at h1
   obtain⟨o,rfl,ho,hb⟩:=a3T h2
   exact⟨o,h1,ho,hb⟩
  obtain⟨f,hf⟩:=Deep.choose_lt each;have Q:((List.range d).map f).length=d:=by simp
  have U:∀j(hj:j<((List.range d).map f).length),((List.range d).map f)[j]=f j:=by intro j hj;simp
  refine⟨(List.range d).map f,Q,?_,?_,?_⟩
  ·rw[Q]
   refine⟨by rw[qJ,Q],?_⟩
   by_cases J:d=0
   ·grind
   ·obtain⟨_,_,K⟩:=World.cells?_some (hf 0 (by omega)).1
    have X:W.cell? ((a'.add (0*7)).add 0)=some (.int .i64 (f 0).kind):=K 0 (by omega);have hsp:=World.cell?_spot X;obtain⟨b,o,O⟩:=a';have I:O=none:=by simpa[Addr.add]using hsp
    subst I;have Z:∀j,(⟨b,o,none⟩:Addr).add j=⟨b,o+j,none⟩:=by intro j;exact lT
    have F:∀i j,((⟨b,o,none⟩:Addr).add i).add j=⟨b,o+i+j,none⟩:=by intro i j;rw[Z];exact lT
    refine .inr ⟨b,o,N,rfl,by omega,?_,?_⟩
    ·have:=World.block_lt_of_cell? _ _ X
     rw[F]at this
     exact this
    ·intro j u hu
     have hj:j<d*7:=by
      have:=(afY.1 hu).1
      rwa[qJ,Q]at this
     have R:j/7<((List.range d).map f).length:=by rw[Q];omega
     obtain⟨C,g1,g2,g3,g4,g5,q⟩:=En ((List.range d).map f) (j/7) R
     rw[U]at C g1 g2 g3 g4 g5 q
     obtain⟨_,hcl,M⟩:=World.cells?_some (hf (j/7) (by omega)).1;have L:j=j/7*7+j%7:=by omega
     have Y:j%7<7:=Nat.mod_lt _ (by omega);have V:=M (j%7) Y
     rw[F,agJ,<-L]at V
     rw[V]
     rw[<-hu]
     have gg:∀r,r<7->(iy ((List.range d).map f))[j/7*7+r]? =(f (j/7)).cells[r]? :=by
      intro r Y
      match r,Y with
      |0,_=>exact C
      |1,_=>exact g1
      |2,_=>exact g2
      |3,_=>exact g3
      |4,_=>exact g4
      |5,_=>exact g5
      |6,_=>exact q
      |n+7,h=>omega
     have:=gg (j%7) Y
     rw[<-L]at this
     exact this.symm
  ·grind
  ·have hs:=a7l f D (List.range d) (λi hi=>(hf i (List.mem_range.1 hi)).2.2)
   simp only[Rows.uptoBulk];omega
end Rl
open Rl
theorem WK(w:World)(a:Option Addr)(c:Nat)(g:List uU)(u:bz w (.slice a g.length c) g.length 7 (iy g))(h:∀o∈g,zg w o)(E:wz g<=1048576):
  ai9 3 #[.slice a g.length c] w (.bool true):=by
 have j:g.length≠0->∀k,(Value.slice a g.length c).ownBlock=some k->k<w.heap.size/\(11:Nat)=11:=by
  intro n k f;obtain⟨_,_,_,r⟩|⟨b,o,t,e,_,d,_⟩:=u.2
  ·exact absurd r n
  ·injection e with q C z
   subst q;exact Dc
 have m:∀o∈g,OkOp w (λ_=>11) o:=by
  intro o v;have x:=a7n v;have l:=h o v;unfold Km at x;refine⟨by omega,by omega,l.a0,l.a1,l.w0,l.w1,l.row,by omega,?_⟩;intro n k f;obtain⟨_,_,_,r⟩|⟨b,p,t,e,_,d,_⟩:=l.row.2
  ·exact absurd r n
  ·injection e with q C z
   rw[q]at f
   exact Dc
 have x:=a7m g;have l:=abD g;have H:=a3Q w (λ_=>11) a c g u j (λ_ _=>rfl) m (by omega) (by omega);go_enter Qf3,ntmps3;go_wp2_with fail;refine H.mono λe D⟨y,d⟩=> ?_
 subst y;go_wp2_with fail
 all_goals go_ret
 all_goals exact⟨rfl,d⟩
end Go.Proofs.Zq
