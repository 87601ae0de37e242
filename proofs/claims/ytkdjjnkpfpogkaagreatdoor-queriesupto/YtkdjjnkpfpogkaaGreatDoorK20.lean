import Derived.Maps.Views
import Derived.Sort.KeysCollected
import Derived.Test.YtkdjjnkpfpogkaaGreatDoorK19
set_option maxHeartbeats 8000000
set_option linter.all false
namespace Go.Proofs.Zq
open Go.RowKit
variable{T S:Nat->Prop}{a A x:ByteArray}{b p c size n k J I:Nat}{w w':World}{mg:Nat->Nat}{e:TypeId}{v:Value}{xs:List Value}{cv:ByteArray->Value}
namespace Rl
def Own(w:World)(d:Nat->Nat)(c:Nat):Nat->Prop:=λk=>k<w.heap.size/\d k=c
def ext(w:World)(d:Nat->Nat)(c:Nat):Nat->Nat:=λk=>if k<w.heap.size then d k else c
def mo(d:Nat->Nat)(a b:Nat):Nat->Nat:=λk=>if d k=a then b else d k
structure Fr(T:Nat->Prop)(w:World)(ow:Nat->Nat)(w':World)(mg:Nat->Nat):Prop where
 os:w'.os=w.os
 tape:w'.tape=w.tape
 output:w'.output=w.output
 size:w.heap.size<=w'.heap.size
 keep:∀k,k<w.heap.size->¬T (ow k)->mg k=ow k/\w'.heap[k]? =w.heap[k]?
theorem Fr.refl(T)(w)(d):Fr T w d w d:=⟨rfl,rfl,rfl,afA _,λ_ _ _=>⟨rfl,rfl⟩⟩
theorem Fr.trans{T o}{a b c}{j f d}(h:Fr T a j b f)(k:Fr o b f c d)(q:∀i,o i->T i):Fr T a j c d:=
 ⟨k.os.trans h.os,k.tape.trans h.tape,k.output.trans h.output,afC h.size k.size,λi l g=>by
  obtain⟨m,r⟩:=h.keep i l g;obtain⟨k1,k2⟩:=k.keep i (afB l h.size) (λx=>g (by rw[m]at x;exact q _ x))
  exact⟨k1.trans m,k2.trans r⟩⟩
theorem Fr.mono{l}{a b}{j f}(h:Fr T a j b f)(m:∀i,T i->l i):Fr l a j b f:=
 ⟨h.os,h.tape,h.output,h.size,λi g d=>h.keep i g (λx=>d (m _ x))⟩
theorem Fr.Ux{d}(h:dJ S w w')(i:∀k,k<w.heap.size->S k->T (d k))(c):Fr T w d w' (ext w d c):=
 ⟨h.os,h.tape,h.output,h.size,λk f g=>⟨by unfold ext;rw[afN f],h.block k f (λx=>g (i k f x))⟩⟩
theorem Fr.aK{w w'}(d)(h:ah' w w')(T)(c):Fr T w d w' (ext w d c):=Fr.Ux (S:=λ_=>False) (dJ.aK h) (λ_ _ x=>x.elim) c
theorem Fr.mo(T:Nat->Prop)(w:World)(d:Nat->Nat)(a b:Nat)(g:T a):Fr T w d w (mo d a b):=
 ⟨rfl,rfl,rfl,afA _,λk _ f=>⟨by unfold Rl.mo;rw[afJ (λe=>f (by rw[e];exact g))],rfl⟩⟩
theorem Fr.ow{T}{w w'}{ow mg}(h:Fr T w ow w' mg){k c}(f:k<w.heap.size)(d:ow k=c)(g:¬T c):mg k=c:=by
 have:=(h.keep k f (by rw[d];exact g)).1
 rw[this,d]
theorem Fr.cell{ow}(h:Fr T w ow w' mg){p}(d:p.block<w.heap.size)(f:ow p.block=c)(g:¬T c):w'.cell? p=w.cell? p:=
 ahz (h.keep _ d (by grind)).2
theorem Fr.frozen{d}(h:Fr T w d w' mg){p}(f:p.block<w.heap.size)(g:d p.block=c)(i:¬T c):w'.frozen? p=w.frozen? p:=
 ahJ (h.keep _ f (by grind)).2
structure fI(w:World)(ow:Nat->Nat)(e:TypeId)(size:Nat)(v:Value)(n:Nat)(xs:List Value)(c:Nat):Prop where
 row:w.ownsRow 0 e size v n xs
 code:∀k,v.ownBlock=some k->ow k=c
theorem fI.frame{m}(h:fI w m e size v n xs c)(r:Fr T w m w' mg)(z:¬T c):fI w' mg e size v n xs c:=by
 have o:=h.row.lt;refine⟨⟨h.row.1,?_⟩,λk q=>r.ow (o k q).2 (h.code k q) z⟩;obtain s|⟨g,l,j,rfl,i,f,d⟩:=h.row.2
 ·grind
 ·refine .inr ⟨g,l,j,rfl,i,?_,d⟩
  have t:=h.code g rfl
  rw[(r.keep g (o g rfl).2 (by grind)).2]
  exact f
theorem fI.nil(w)(d)(e)(size c):fI w d e size (.slice none 0 0) 0 [] c:=⟨a9X _ _ _ _,λ_ h=>by cases h⟩
theorem fI.mo{w:World}{f:Nat->Nat}{e:TypeId}{size:Nat}{v:Value}{n:Nat}{xs:List Value}{c:Nat}(h:fI w f e size v n xs c)(d:Nat):fI w (mo f c d) e size v n xs d:=
 ⟨h.row,λk g=>by unfold Rl.mo;rw[afN (h.code k g)]⟩
theorem fI.fresh(i)(h:w'.ownsRow w.heap.size e size v n xs)(c):fI w' (ext w i c) e size v n xs c:=
 ⟨⟨h.1,h.2.imp id (λ⟨g,f,d,e,l,r⟩=>⟨g,f,d,e,afK _,r⟩)⟩,λk j=>by unfold ext;rw[afJ (by have:=(h.lt k j).1;omega)]⟩
theorem fI.grown{g}{f}{m}{q}(h:fI w g e size v n xs c)(u:w'.ownsRow 0 e size f m q)(d:w.grownBy w' v.ownBlock)(r:f.ownBlock=v.ownBlock\/∃k,f.ownBlock=some k/\w.heap.size<=k):
  fI w' (ext w g c) e size f m q c/\Fr (λi=>i=c) w g w' (ext w g c):=by
 refine⟨⟨u,λk l=> ?_⟩,Fr.Ux (S:=λk=>v.ownBlock=some k) ⟨d.os,d.tape,d.output,d.size,λk l s=>d.block k l (λe=>s e.symm)⟩ (λk _ l=>h.code k l) c⟩;unfold ext
 by_cases o:k<w.heap.size
 ·rw[afN o]
  obtain r|⟨j,y,t⟩:=r
  ·exact h.code k (by grind)
  ·grind
 grind
end Rl
namespace Rl
theorem XL:∀x y,Op.bytesLess x y=decide (x<y):=by
 intro x;induction x with
 |nil=>intro y;cases y<;>simp[Op.bytesLess]
 |cons a x d=>
  intro y;cases y with
  |nil=>simp[Op.bytesLess]
  |cons b y=>
   have h:=@List.cons_lt_cons_iff _ _ a b x y
   rw[Op.bytesLess,d y,ah1]
   simp[h]
theorem Mr(a b):I6 a b=decide (a.data.toList<b.data.toList):=by simp[I6,XL,ahN]
theorem a1t{b}(h:I6 a b=true):I6 b a=false:=by grind[Mr,List.lt_asymm]
theorem XM(a):I6 a a=false:=by simp[Mr,List.lt_irrefl]
theorem a1u{b c}(h:I6 a b=true)(k:I6 b c=true):I6 a c=true:=by grind[Mr,List.lt_trans]
theorem a1v{b}(d:a≠b)(h:I6 a b=false):I6 b a=true:=by grind[Mr,List.le_iff_lt_or_eq,List.not_lt,ByteArray.ext,ahd]
theorem XN{b}(h:I6 a b=true):a≠b:=λe=>by subst e;rw[XM]at h;cases h
def Ord(l:List aD):Prop:=l.Pairwise λa b=>I6 a.name b.name=true
def jU(f:aD)(l:List aD):List aD:=match bR f.name l with|some k=>l.set k f|none=>kV f l
def dR(A:ByteArray)(l:List aD):Option aD:=l.find? λf=>f.name=A
theorem Ms{f x}{l}:x∈kV f l↔x=f\/x∈l:=by
 induction l with
 |nil=>simp[kV]
 |cons a r d=>
  unfold kV
  split<;>grind
theorem a5f{f}:∀{l:List aD},Ord l->(∀x∈l,x.name≠f.name)->Ord (kV f l):=by
 intro l;induction l with
 |nil=>simp[kV,Ord]
 |cons a r i=>
  intro h d;obtain⟨q,o⟩:=agw.1 h;unfold kV;split
  ·constructor<;>grind[agw,agk,a1u]
  ·rename_i m
   refine agw.2 ⟨λy g=> ?_,i o (λx j=>d x (by simp[j]))⟩;obtain rfl|g:=Ms.1 g<;>grind[a1v]
theorem a8u{l}{f}(h:Ord l)(s:k<l.length)(r:l[k].name=f.name):Ord (l.set k f):=by
 unfold Ord at h |-
 rw[agl]at h |-
 intro i j q g m;have o:i<l.length:=by simpa using q
 have d:j<l.length:=by simpa using g
 rw[List.getElem_set,List.getElem_set]
 split<;>grind
theorem I7{l}(k)(h:Ord l):Ord (l.eraseIdx k):=List.Pairwise.sublist (List.eraseIdx_sublist _ _) h
theorem Ew{l}(h:Ord l):l.Pairwise λa b=>a.name≠b.name:=List.Pairwise.imp (λ{_ _}d=>XN d) h
theorem PV{l}(h:Ord l)(f:k<l.length):bR l[k].name l=some k:=by refine PT (λj g d=> ?_) f rfl;have:=(agl.1 (Ew h)) j k g f d;exact this
theorem Uy{f}{l}(h:Ord l):Ord (jU f l):=by
 unfold jU;cases d:bR f.name l with
 |none=>grind[a5f,agu,wK]
 |some k=>grind[q8,a8u]
theorem Mt{f x}{l}(h:x∈jU f l):x=f\/x∈l:=by
 unfold jU at h;cases d:bR f.name l with
 |none=>grind[Ms]
 |some k=>grind
theorem XO{f}:∀{l:List aD}{k:Nat}(_:Ord l)(g:k<l.length)(_:l[k].name=f.name),kV f (l.eraseIdx k)=l.set k f:=by
 intro l;induction l with
 |nil=>intro k _ g;simp at g
 |cons a r o=>
  intro k h g i;obtain⟨m,t⟩:=agw.1 h;cases k with
  |zero=>
   simp only[afX]at i;cases r with
   |nil=>simp[kV]
   |cons b u=>
    have q:I6 f.name b.name=true:=by rw[<-i];exact m b (by simp)
    simp[kV,q]
  |succ k=>
   have j:k<r.length:=by simpa using g
   have d:r[k].name=f.name:=by simpa using i
   have s:I6 a.name f.name=true:=by rw[<-d];exact m _ (afS _)
   simp only[List.eraseIdx_cons_succ,ag7]
   rw[kV,afJ (by rw[a1t s];simp),o t j d]
theorem a1w{f}{l}(h:bR f.name l=some k):jU f l=l.set k f:=by grind[jU]
theorem a1x(f)(l):aR (kV f l)=f.data.size+aR l:=by
 induction l with
 |nil=>simp[kV,aR]
 |cons a r d=>grind[kV,aR]
theorem JS:∀(l:List aD)(k:Nat)(h:k<l.length),aR (l.eraseIdx k)+l[k].data.size=aR l:=by
 intro l;induction l with
 |nil=>simp
 |cons a r d=>
  intro k h;cases k with
  |zero=>grind[aR]
  |succ k=>grind[aR]
theorem PW:∀(l:List aD)(k:Nat)(f:aD)(h:k<l.length),aR (l.set k f)+l[k].data.size=aR l+f.data.size:=by
 intro l;induction l with
 |nil=>simp
 |cons a r d=>
  intro k f h;cases k with
  |zero=>grind[aR]
  |succ k=>grind[aR]
theorem iD{l}(h:bR A l=some k):∃d:k<l.length,dR A l=some l[k]/\l[k].name=A:=by grind[q8,dR,List.find?_eq_some_iff_getElem]
theorem ll{l}(h:bR A l=none):dR A l=none:=by grind[dR,List.find?_eq_none,agu,wK]
theorem I8{l}(h:Ord l){f}(d:f∈l):dR f.name l=some f:=by grind[agu,iD,PV]
theorem eZ{l}{f}(h:dR A l=some f):f∈l/\f.name=A:=by
 unfold dR at h
 grind
theorem q9{l}(h:Ord l){f}:dR A l=some f↔f∈l/\f.name=A:=
 ⟨eZ,λ⟨g,d⟩=>by rw[<-d];exact I8 h g⟩
theorem Uz{l}(h:Ord l){f x}(r:k<l.length)(q:l[k].name=f.name):x∈l.set k f↔x=f\/(x∈l/\x.name≠f.name):=by
 constructor
 ·intro g
  obtain⟨i,o,rfl⟩:=agu.1 g;have m:i<l.length:=by simpa using o
  rw[List.getElem_set]
  by_cases e:k=i
  ·simp<;>omega
  ·rw[afJ e]
   refine .inr ⟨afS _,λt=> ?_⟩;have s:=agl.1 (Ew h);obtain d|d:=Nat.lt_or_gt_of_ne e<;>grind
 ·rintro(rfl|⟨g,j⟩)<;>grind[agu]
theorem uY{l}(h:Ord l){f x}:x∈jU f l↔x=f\/(x∈l/\x.name≠f.name):=by
 unfold jU;cases g:bR f.name l with
 |none=>
  simp only[Ms];refine or_congr_right ⟨λd=>⟨d,λe=> ?_⟩,And.left⟩;obtain⟨j,i,rfl⟩:=agu.1 d;exact wK g j i e
 |some k=>grind[q8,Uz]
theorem mem_erase_iff{l}(h:Ord l){x}(g:k<l.length):x∈l.eraseIdx k↔x∈l/\x.name≠l[k].name:=by
 rw[List.mem_eraseIdx_iff_getElem]
 constructor
 ·rintro⟨i,j,d,rfl⟩
  refine⟨afS _,λe=> ?_⟩;have m:=agl.1 (Ew h);obtain f|f:=Nat.lt_or_gt_of_ne d<;>grind
 grind[agu]
theorem XP{l}(h:Ord l)(f)(A):dR A (jU f l)=if A=f.name then some f else dR A l:=by
 have g:=Uy (f:=f) h
 by_cases e:A=f.name
 ·grind[q9,uY]
 ·rw[afJ e]
  cases i:dR A l with
  |some y=>grind[eZ,q9,uY]
  |none=>
   cases d:dR A (jU f l)with
   |none=>rfl
   |some y=>grind[eZ,uY,q9]
theorem UA{l}(h:Ord l)(g:k<l.length)(A):dR A (l.eraseIdx k)=if A=l[k].name then none else dR A l:=by
 have d:=I7 k h
 by_cases e:A=l[k].name
 ·simp_all[dR,none,eZ,mem_erase_iff]
 ·rw[afJ e]
  cases f:dR A l with
  |some y=>grind[eZ,q9,mem_erase_iff]
  |none=>simp_all[dR,none,eZ,q9,mem_erase_iff]
end Rl
namespace Rl
def mP(l:List ByteArray):List Value:=l.map Value.string
theorem ru(l):(mP l).length=l.length:=by simp[mP]
theorem K7(l)(j)(h:j<l.length):(mP l)[j*1]? =some (.string l[j]):=by simp[mP,afP h]
def gP(l:List ByteArray):Bool:=l.all dK
def aV(m:az)(l:List ByteArray)(d:Int):Int:=if gP l=true then(if m.left=0 then 0 else d)else 6
def aU(m:az)(l:List ByteArray)(f:Int)(d:az):az:=if gP l=true/\m.left≠0 then(if f=0 then{d with left:=nS m.left}else d)else m
def bg(m:az)(A:ByteArray)(d:Int):Int:=if (dR A m.files).isSome=true then d else 7
def dG(m:az)(A:ByteArray)(d:az):az:=if (dR A m.files).isSome=true then d else m
def G9(f:aD):aD:={f with sync:=f.data.size}
def mQ(f:aD)(n:Nat):aD:={f with data:=f.data.extract 0 n,sync:=min f.sync n}
def rX(m:az)(A:ByteArray):az:=match dR A m.files with|some f=>{m with files:=jU (G9 f) m.files}|none=>m
def jV(m:az)(A:ByteArray):az:=match bR A m.files with|some k=>{m with files:=m.files.eraseIdx k}|none=>m
def fK(m:az)(A:ByteArray)(n:Int):Int:=match dR A m.files with|some f=>if n<0\/(f.data.size:Int)<n then 5 else 0|none=>7
def lq(m:az)(A:ByteArray)(n:Int):az:=match dR A m.files with|some f=>if n<0\/(f.data.size:Int)<n then m else{m with files:=jU (mQ f n.toNat) m.files}|none=>m
def mR(f:aD)(A:ByteArray):aD:={f with name:=A}
def jm(m:az)(A d:ByteArray):az:=match bR A m.files,dR A m.files with|some k,some f=>{m with files:=jU (mR f d) (m.files.eraseIdx k)}|_,_=>m
theorem vB{l}{f}(h:f∈l):f.data.size<=aR l:=by
 induction l with
 |nil=>cases h
 |cons a r d=>
  unfold aR;exact ahj
def apF(m:az)(A d:ByteArray):aD:=match dR A m.files with|some f=>{f with data:=f.data++d}|none=>⟨A,d,0⟩
def FY(m:az)(d:ByteArray):Int:=if m.room-(aR m.files:Int)<(d.size:Int)then 8 else 0
def K8(m:az)(A d:ByteArray):az:=if m.room-(aR m.files:Int)<(d.size:Int)then m else{m with files:=jU (apF m A d) m.files}
def kH(m:az)(s:ByteArray):ByteArray:=if dK s=true then(match dR s m.files with|some f=>f.data|none=>⟨#[]⟩)else⟨#[]⟩
def rY(m:az)(s:ByteArray):Int:=if dK s=true then(match dR s m.files with|some _=>0|none=>7)else 6
def nL(f:aD)(d:Int):Nat:=f.sync+(min (max d 0) ((f.data.size:Int)-(f.sync:Int))).toNat
def lu(f:aD)(d:Int):aD:={f with data:=f.data.extract 0 (nL f d),sync:=nL f d}
def fe(keep:List Int)(i:Nat):Int:=keep.getD i 0
def eO(keep:List Int)(l:List aD)(k:Nat):List aD:=(l.take k).mapIdx (λi f=>lu f (fe keep i))++l.drop k
def DI(m:az)(keep:List Int):az:={m with files:=m.files.mapIdx (λi f=>lu f (fe keep i)),left:= -1}
end Rl
namespace Rl
structure ry(m:az)(a b:Nat):Prop where
 files:m.files.length<=a
 bytes:aR m.files<=b
 Mv:0<=m.room
 Mw:m.room<=9223372036854775807
 JU: -1<=m.left
 xN:m.left<=9223372036854775807
 names:∀f∈m.files,f.name.size<=8
theorem ry.mono{m}{a}(h:ry m a b)(j:a<=J)(f:b<=I):ry m J I:=⟨afC h.files j,afC h.bytes f,h.Mv,h.Mw,h.JU,h.xN,h.names⟩
theorem rZ{l}{f}(h:dR A l=some f):∃k,∃g:k<l.length,bR A l=some k/\l[k]=f/\f.name=A:=by
 cases d:bR A l with
 |none=>grind[ll]
 |some k=>grind[iD]
theorem Mo(f)(l):(jU f l).length<=l.length+1:=by
 unfold jU
 split<;>simp[bR,none,Uw]
theorem Fq(f)(l):aR (jU f l)<=aR l+f.data.size:=by
 unfold jU;cases d:bR f.name l with
 |none=>grind[a1x]
 |some k=>
  obtain⟨g,_⟩:=q8 d;have:=PW l k f g;simp only;omega
theorem xm{f g}{l}(h:k<l.length)(d:bR f.name l=some k)(i:l[k]=g):aR (jU f l)+g.data.size=aR l+f.data.size:=by grind[jU,PW]
theorem r9{m g}{a}(l)(t)(h:ry m a b)(d:(∀s∈l,s.size<=8)->ry g J I)(r:a<=J)(q:b<=I):ry (aU m l t g) J I:=by
 have i: -1<=nS m.left/\nS m.left<=9223372036854775807:=by
  have u:=h.JU;have f:=h.xN
  unfold nS
  split<;>omega
 unfold aU;split
 ·rename_i o
  have d:=d (λs j=>by
   have f:=agE.1 o.1 s j;unfold dK at f
   rw[agv]at f
   exact f.2)
  split
  ·exact⟨d.files,d.bytes,d.Mv,d.Mw,i.1,i.2,d.names⟩
  ·exact d
 ·exact h.mono r q
theorem Ex{m d}{a}(A)(h:ry m a b)(i:ry d J I)(g:a<=J)(f:b<=I):ry (dG m A d) J I:=by
 unfold dG;split
 ·exact i
 ·exact h.mono g f
theorem ry.files'{m}{a}(h:ry m a b)(l)(i:l.length<=J)(d:aR l<=I)(g:∀f∈l,f.name.size<=8):ry {m with files:=l} J I:=⟨i,d,h.Mv,h.Mw,h.JU,h.xN,g⟩
theorem FX{f}{l}(h:∀g∈l,g.name.size<=8)(i:f.name.size<=8):∀g∈jU f l,g.name.size<=8:=λg d=>by obtain rfl|d:=Mt d<;>grind
theorem Mq{f}{l}(h:∀g∈l,g.name.size<=8)(d:dR A l=some f):f.name.size<=8:=by grind[rZ,afS]
theorem a1y{m}{a}(A)(h:ry m a b):ry (rX m A) (a+1) b:=by
 unfold rX;cases hf:dR A m.files with
 |none=>exact h.mono (by omega) (by omega)
 |some f=>
  obtain⟨k,R,u,d,hn⟩:=rZ hf;have h1:=h.files;have h2:=h.bytes
  have hu:=xm (f:=G9 f) R (by show bR f.name _=_;rw[hn];exact u) d;have hs:(G9 f).data.size=f.data.size:=rfl;exact A9
theorem UB{m}{a}(A)(h:ry m a b):ry (jV m A) (a+1) b:=by
 unfold jV;cases d:bR A m.files with
 |none=>exact h.mono (by omega) (by omega)
 |some k=>
  obtain⟨f,_⟩:=q8 d;have o:=h.files;have l:=h.bytes
  have j:=JS m.files k f;exact h.files' _ (afC (agW _ _) (by omega)) (by omega) (λg i=>h.names g (List.mem_of_mem_eraseIdx i))
theorem XQ{m}{a}(A)(n)(h:ry m a b):ry (lq m A n) (a+1) b:=by
 unfold lq;cases hf:dR A m.files with
 |none=>exact h.mono (by omega) (by omega)
 |some f=>
  obtain⟨k,R,u,d,hn⟩:=rZ hf;have h1:=h.files;have h2:=h.bytes
  simp only;split
  ·exact tY
  ·have hu:=xm (f:=mQ f n.toNat) R (by show bR f.name _=_;rw[hn];exact u) d
   have hs:(mQ f n.toNat).data.size<=f.data.size:=by unfold mQ;simp only;exact aQ
   exact A9
theorem UC{m}{a}(A d)(h:ry m a b)(i:d.size<=8):ry (jm m A d) (a+1) b:=by
 unfold jm;cases t:dR A m.files with
 |none=>
  cases bR A m.files<;>exact h.mono (by omega) (by omega)
 |some f=>
  obtain⟨k,r,o,j,y⟩:=rZ t
  rw[o]
  have D:=h.files;have C:=h.bytes
  have l:=JS m.files k r
  rw[j]at l
  have u:=Fq (mR f d) (m.files.eraseIdx k);have B:(mR f d).data.size=f.data.size:=rfl;have z:=Mo (mR f d) (m.files.eraseIdx k);have q:=agW m.files k;exact h.files' _ (by omega) (by omega) (FX (λg s=>h.names g (List.mem_of_mem_eraseIdx s)) i)
theorem UD{m}{a}(A d)(h:ry m a b)(u:A.size<=8):ry (K8 m A d) (a+1) (b+d.size):=by
 unfold K8;split
 ·exact tY
 ·have h1:=h.files;have h2:=h.bytes
  have hl:=Mo (apF m A d) m.files;refine h.files' _ (by omega) ?_ (FX h.names ?_)
  rotate_left
  ·unfold apF
   cases hf:dR A m.files with
   |none=>exact u
   |some f=>have:=Mq h.names hf;exact this
  unfold apF;cases hf:dR A m.files with
  |none=>grind[Fq]
  |some f=>grind[rZ,xm,bR,aD,ByteArray.size_append]
theorem UE:∀l g,(∀i f,(g i f).data.size<=f.data.size)->aR (l.mapIdx g)<=aR l:=by
 intro l;induction l with
 |nil=>intro g _;simp[aR]
 |cons f r h=>
  intro g d
  rw[List.mapIdx_cons]
  have m:=d 0 f;have j:=h (λi=>g (i+1)) (λi f=>d (i+1) f);simp only[aR];omega
theorem XR{m}{a}(keep)(h:ry m a b):ry (DI m keep) (a+1) b:=by
 have h1:=h.files;have h2:=h.bytes
 have hu:=UE m.files (λi f=>lu f (fe keep i)) (λi f=>by unfold lu;simp only;exact aQ);unfold DI
 exact⟨by simp only[List.length_mapIdx];omega,by simp only;omega,h.Mv,h.Mw,by simp,by simp,λf hf=>by obtain⟨i,hi,rfl⟩:=List.mem_mapIdx.1 hf;have:=h.names _ (afS hi);exact this⟩
theorem XT{m}{a}(n)(h:ry m a b)(hn:n<=9223372036854775807):ry (if n<0 then m else{m with left:=n}) (a+1) b:=by
 split
 ·exact tY
 ·exact⟨afC h.files (by omega),h.bytes,h.Mv,h.Mw,by simp only;omega,hn,h.names⟩
end Rl
namespace Rl
def be:Nat->Nat->List UInt8
 |0,_=>[]
 |k+1,n=>UInt8.ofNat (n/256^k%256)::be k n
theorem xO:∀k n,(be k n).length=k:=by
 intro k;induction k with
 |zero=>intro n;rfl
 |succ k d=>intro n;simp[be,d]
def yJ(l:List UInt8):List Value:=l.map λb=>Value.int .u8 (b.toNat:Int)
theorem yK(l):(yJ l).length=l.length:=by simp[yJ]
theorem XU(a b):yJ (a++b)=yJ a++yJ b:=by simp[yJ]
theorem RA(l)(j)(h:j<l.length):(yJ l)[j]? =some (.int .u8 (l[j].toNat:Int)):=by simp[yJ,afP h]
def Fs(m n j:Nat):List UInt8:=List.replicate j 0++be (m-j) n
theorem RB(m n j)(h:j<=m):(Fs m n j).length=m:=by simp[Fs,xO];omega
theorem XV(m n):Fs m n 0=be m n:=by simp[Fs]
theorem a1z(m n):Fs m n m=List.replicate m 0:=by simp[Fs,be]
theorem XW(m n j)(h:j<m):(Fs m n (j+1)).set j (UInt8.ofNat (n/256^(m-(j+1))%256))=Fs m n j:=by
 have e:m-j=(m-(j+1))+1:=by omega
 unfold Fs
 rw[e,List.set_append]
 simp only[List.length_replicate,Nat.lt_succ_self,agr]
 rw[List.replicate_succ',List.set_append]
 simp[be]
theorem a8v(l)(j)(b)(v)(d:v=(b.toNat:Int)):(yJ l).set j (.int .u8 v)=yJ (l.set j b):=by grind[yJ,List.map_set]
theorem a5g(n m j)(h:j<m):n/256^(m-(j+1))/256=n/256^(m-j):=by
 have e:m-j=(m-(j+1))+1:=by omega
 rw[e,Nat.pow_succ,Nat.div_div_eq_div_mul]
theorem a8w(n k):n/256^k<=n:=Nat.div_le_self _ _
theorem toNat_mod(x):((UInt8.ofNat (x%256)).toNat:Int)=(x:Int)%256:=by simp
end Rl
namespace Rl
def mE(v:Value):Option (DataW Value×List MemPlace):=
 match v with
 | .agg d=>match d.toList with
  |[.slice _ _ _,.int .i64 _]=>some (.held (.agg d),[])
  |_=>none
 |_=>none
theorem UF(a)(n c)(s):mE (.agg #[.slice a n c,.int .i64 s])=some (.held (.agg #[.slice a n c,.int .i64 s]),[]):=rfl
theorem I9{y}(h:mE v=some y):∃a n c s,v=.agg #[.slice a n c,.int .i64 s]/\y=(.held v,[]):=by
 unfold mE at h;cases v<;>simp only[reduceCtorEq]at h
 rename_i f
 split at h
 ·rename_i a n c s d
  cases h
  exact⟨a,n,c,s,by rw[<-d],rfl⟩
 ·cases h
def sj(D:DataW Value)(d:List aD)(cv:ByteArray->Value):Prop:=
 ∀(A:ByteArray)(g:DataW Value),D.atKey (.string A.data.toList) g=match dR A d with|some f=>.held (.agg #[cv f.name,.int .i64 (f.sync:Int)])|none=>g
theorem sj.has{D}{d}{cv}(h:sj D d cv)(A):Maps.has D (.string A.data.toList)=(dR A d).isSome:=by
 cases g:dR A d with
 |none=>exact Maps.has_false_of_atKey (λz=>by rw[h A z,g])
 |some f=>exact Maps.has_true_of_atKey (y:=.held (.agg #[cv f.name,.int .i64 (f.sync:Int)])) (λz=>by rw[h A z,g])
theorem Ha{b}(h:Lit.string a.data.toList=Lit.string b.data.toList):a=b:=by grind[ByteArray.ext,ahd]
theorem Z7(A:ByteArray):WideAt.IsKeyLit (.string A.data.toList):=trivial
theorem sj.put{D}{d}{cv}(h:sj D d cv)(m:Maps.IsMap D)(l:Ord d)(f)(v):
  sj (D.put (.string f.name.data.toList) (.held (.agg #[v,.int .i64 (f.sync:Int)]))) (jU f d) (λn=>if n=f.name then v else cv n):=by
 intro A i
 rw[XP l]
 by_cases e:A=f.name
 ·rw[afN e,e]
  rw[Maps.atKey_put_same m (Z7 _)]
  simp
 ·rw[afJ e,Maps.atKey_put_other (λo=>e (Ha o)),h A i]
  cases j:dR A d with
  |none=>rfl
  |some g=>
   have:=(eZ j).2;simp only
   rw[afJ (by rw[this];exact e)]
theorem sj.del{D}{d}{cv}(h:sj D d cv)(g:Ord d){k}(i:k<d.length):
  sj (D.del (.string d[k].name.data.toList)) (d.eraseIdx k) cv:=by
 intro A f
 rw[UA g i]
 by_cases e:A=d[k].name
 ·rw[afN e,e,Maps.atKey_del_same]
 ·rw[afJ e,Maps.atKey_del_other (λj=>e (Ha j)),h A f]
theorem sj.keys{D}{d}(h:sj D d cv)(t:Ord d)(g:w.ownsMap ah.prog 9 mE b n D):
  (d.map λf=>f.name.data.toList).Perm (strKeys D):=by
 obtain⟨C,rfl,l,_⟩:=g.entries (Maps.string_keyed Qu9);obtain⟨s,r,o⟩:=g.keysOf;obtain rfl:C=s:=by simpa using r
 refine perm_strKeys l (λp y=>by obtain⟨v,u⟩:=o p y;obtain⟨x,_,i,_⟩:=Maps.keyOf_str Qu9 u;exact⟨x,i⟩) ?_ (λx=> ?_)
 ·refine List.pairwise_map.2 ((Ew t).imp (λ{a b}m e=>m (ByteArray.ext (ahd e))))
 ·have i:=h.has (⟨x.toArray⟩:ByteArray)
  simp only at i
  rw[i]
  constructor
  ·intro j
   obtain⟨f,q,rfl⟩:=agG.1 j
   have:dR (⟨f.name.data.toList.toArray⟩:ByteArray) d=some f:=by rw[q9 t];exact⟨q,by simp⟩
   rw[this];rfl
  ·intro j
   rw[Option.isSome_iff_exists]at j
   obtain⟨f,q⟩:=j;obtain⟨B,z⟩:=eZ q;exact agG.2 ⟨f,B,by rw[z]⟩
theorem sj.count{D}{g}(h:sj D g cv)(i:Ord g)(d:w.ownsMap ah.prog 9 mE b n D):Maps.size D=g.length:=by
 have f:=(h.keys i d).length_eq;exact Ba
theorem FZ{H:Type}{P}{k:TypeId}{R}{D:DataW H}(h:w.ownsMap P k R b n D):w.ownsMap P k R b (Maps.size D) D:=by
 obtain⟨g,d,f,F,_,rfl⟩:=h
 exact⟨g,d,f,F,by simp[Maps.size,length_sorted],rfl⟩
structure bS(w:World)(S:Nat->Prop)(p b:Nat)(cv:ByteArray->Value)(m:az):Prop where
 box:G7 w p (.int .i64 m.room) (.map (some b)) (.int .i64 m.left)
 map:∃D n,w.ownsMap ah.prog 9 mE b n D/\sj D m.files cv
 rows:∀f∈m.files,w.ownsRow 0 5 1 (cv f.name) f.data.size (yJ f.data.data.toList)
 own:S p
 EY:S b
 far:∀f∈m.files,∀k,(cv f.name).ownBlock=some k->S k/\k≠p/\k≠b
 apart:∀f∈m.files,∀g∈m.files,∀k,(cv f.name).ownBlock=some k->(cv g.name).ownBlock=some k->f.name=g.name
 lt:∀k,S k->k<w.heap.size
 ord:Ord m.files
 names:∀f∈m.files,f.name.size<=8
 sync:∀f∈m.files,f.sync<=f.data.size
theorem dJ.map{H:Type}{P}{k:TypeId}{R}{D:DataW H}(h:w.ownsMap P k R b n D)(j:dJ S w w')(l:¬S b):w'.ownsMap P k R b n D:=by
 have f:=h.lt;obtain⟨i,d,g,r⟩:=h
 exact⟨i,d,(j.block b f l).trans g,r⟩
theorem bS.ne{m}(h:bS w S p b cv m):p≠b:=by
 intro e;exact Bb
theorem bS.touch{w w'}{S T}{p b}{cv}{m}(h:bS w S p b cv m)(d:dJ T w w')(i:∀k,S k->¬T k):bS w' S p b cv m:=
 ⟨h.box.touch d (i p h.own),(let ⟨D,n,o,l⟩:=h.map;⟨D,n,d.map o (i b h.EY),l⟩),λf j=>d.owns (h.rows f j) (λk g=>i k (h.far f j k g).1),h.own,h.EY,h.far,h.apart,λk g=>afB (h.lt k g) d.size,h.ord,h.names,h.sync⟩
theorem bS.later{m}(h:bS w S p b cv m)(d:ah' w w'):bS w' S p b cv m:=h.touch (dJ.aK (S:=λ_=>False) d) (λ_ _ x=>x)
theorem bS.mono{l}{m}(h:bS w S p b cv m)(j:∀k,S k->l k)(o:∀k,l k->k<w.heap.size):bS w l p b cv m:=
 ⟨h.box,h.map,h.rows,j _ h.own,j _ h.EY,λf g k d=>⟨j _ (h.far f g k d).1,(h.far f g k d).2⟩,h.apart,o,h.ord,h.names,h.sync⟩
theorem bS.yI{m}(h:bS w S p b cv m)(n):bS (w.setCell ⟨p,2,none⟩ (.int .i64 n)) S p b cv {m with left:=n}:=by
 have g:dJ (λk=>k=p) w (w.setCell ⟨p,2,none⟩ (.int .i64 n)):=fH (S:=λk=>k=p) (p:=⟨p,2,none⟩) (.int .i64 n) rfl;obtain⟨D,k,l,j⟩:=h.map
 exact⟨h.box.set2 _,⟨D,k,g.map l (λe=>h.ne e.symm),j⟩,λf i=>g.owns (h.rows f i) (λk d e=>(h.far f i k d).2.1 e),h.own,h.EY,h.far,h.apart,λk d=>by simpa using h.lt k d,h.ord,h.names,h.sync⟩
def bY(S:Nat->Prop)(w w':World)(p b:Nat)(m:az):Prop:=∃f d,bS w' f p b d m/\(∀k,f k->S k\/w.heap.size<=k)/\dJ S w w'
theorem bS.becomes{m}(h:bS w S p b cv m)(d:ah' w w'):bY S w w' p b m:=⟨S,cv,h.later d,λ_ f=>.inl f,dJ.aK d⟩
theorem bY.behind{g f}{m}(j:ah' w g)(h:bY S g f p b m):bY S w f p b m:=by
 obtain⟨t,d,s,r,q⟩:=h
 exact⟨t,d,s,λk l=>(r k l).imp id (λh=>afC j.size h),(dJ.aK j).trans q (λi o=>.inl o)⟩
structure su(x:ByteArray)(w:World)(S:Nat->Prop)(p b:Nat)(cv:ByteArray->Value)(m:az):Prop where
 box:G7 w p (.int .i64 m.room) (.map (some b)) (.int .i64 m.left)
 map:∃D n,w.ownsMap ah.prog 9 mE b n D/\sj D m.files cv
 rows:∀f∈m.files,f.name≠x->w.ownsRow 0 5 1 (cv f.name) f.data.size (yJ f.data.data.toList)
 own:S p
 EY:S b
 far:∀f∈m.files,f.name≠x->∀k,(cv f.name).ownBlock=some k->S k/\k≠p/\k≠b
 apart:∀f∈m.files,∀g∈m.files,f.name≠x->g.name≠x->∀k,(cv f.name).ownBlock=some k->(cv g.name).ownBlock=some k->f.name=g.name
 lt:∀k,S k->k<w.heap.size
 ord:Ord m.files
 names:∀f∈m.files,f.name.size<=8
 sync:∀f∈m.files,f.sync<=f.data.size
theorem bS.but{m}(h:bS w S p b cv m)(x):su x w S p b cv m:=
 ⟨h.box,h.map,λf d _=>h.rows f d,h.own,h.EY,λf d _=>h.far f d,λf d g i _ _=>h.apart f d g i,h.lt,h.ord,h.names,h.sync⟩
theorem su.ne{m}(h:su x w S p b cv m):p≠b:=by
 intro e;exact Bb
theorem su.touch{x}{w w'}{S T}{p b}{cv}{m}(h:su x w S p b cv m)(d:dJ T w w')(i:∀k,S k->¬T k):su x w' S p b cv m:=
 ⟨h.box.touch d (i p h.own),(let ⟨D,n,q,o⟩:=h.map;⟨D,n,d.map q (i b h.EY),o⟩),λf l j=>d.owns (h.rows f l j) (λk g=>i k (h.far f l j k g).1),h.own,h.EY,h.far,h.apart,λk g=>afB (h.lt k g) d.size,h.ord,h.names,h.sync⟩
theorem su.later{m}(h:su x w S p b cv m)(d:ah' w w'):su x w' S p b cv m:=h.touch (dJ.aK (S:=λ_=>False) d) (λ_ _ x=>x)
theorem su.mono{l}{m}(h:su x w S p b cv m)(j:∀k,S k->l k)(o:∀k,l k->k<w.heap.size):su x w l p b cv m:=
 ⟨h.box,h.map,h.rows,j _ h.own,j _ h.EY,λf i d k g=>⟨j _ (h.far f i d k g).1,(h.far f i d k g).2⟩,h.apart,o,h.ord,h.names,h.sync⟩
theorem bS.grown{m}{d}(h:bS w S p b cv m)(o:w.grownBy w' d)(r:∀k,d=some k->∃f∈m.files,f.name=x/\(cv x).ownBlock=some k):su x w' S p b cv m:=by
 have q:dJ (λk=>d=some k) w w':=⟨o.os,o.tape,o.output,o.size,λk i y=>o.block k i (λe=>y e.symm)⟩
 have u:d≠some p:=λe=>by
  obtain⟨f,l,rfl,i⟩:=r p e
  exact(h.far f l p i).2.1 rfl
 have z:d≠some b:=λe=>by
  obtain⟨f,l,rfl,i⟩:=r b e
  exact(h.far f l b i).2.2 rfl
 refine⟨h.box.touch q u,(let ⟨D,n,C,B⟩:=h.map;⟨D,n,q.map C z,B⟩),λg j t=>q.owns (h.rows g j) (λk i e=> ?_),h.own,h.EY,λf l _=>h.far f l,λf l g j _ _=>h.apart f l g j,λk i=>afB (h.lt k i) q.size,h.ord,h.names,h.sync⟩;obtain⟨f,l,rfl,s⟩:=r k e;exact t (h.apart g j f l k i s)
theorem su.store{m}{D}{f}(h:su f.name w S p b cv m)(G:sj D m.files cv)(F:Maps.IsMap D)(r:w'.ownsMap ah.prog 9 mE b n (D.put (.string f.name.data.toList) (.held (.agg #[v,.int .i64 (f.sync:Int)]))))(u:w.grownBy w' (some b))(q:w.ownsRow 0 5 1 v f.data.size (yJ f.data.data.toList))(C:∀k,v.ownBlock=some k->S k/\k≠p/\k≠b/\∀g∈m.files,g.name≠f.name->(cv g.name).ownBlock≠some k)(z:f.name.size<=8)(E:f.sync<=f.data.size):bS w' S p b (λn=>if n=f.name then v else cv n) {m with files:=jU f m.files}:=by
 have y:dJ (λk=>k=b) w w':=⟨u.os,u.tape,u.output,u.size,λk j z=>u.block k j (λe=>z (by grind))⟩;have i:=@uY m.files h.ord f;refine⟨h.box.touch y h.ne,⟨_,n,r,G.put F h.ord f v⟩,?_,h.own,h.EY,?_,?_,λk j=>afB (h.lt k j) y.size,Uy h.ord,?_,?_⟩
 ·intro g d
  obtain rfl|⟨l,o⟩:=i.1 d
  ·rw[afN rfl];exact y.owns q (λk j=>(C k j).2.2.1)
  ·rw[afJ o];exact y.owns (h.rows g l o) (λk j=>(h.far g l o k j).2.2)
 ·intro g d k j
  obtain rfl|⟨l,o⟩:=i.1 d
  ·grind
  ·rw[afJ o]at j;exact h.far g l o k j
 ·intro g d K t k j s
  obtain rfl|⟨l,o⟩:=i.1 d
  ·grind
  ·obtain rfl|⟨H,B⟩:=i.1 t
   ·grind
   ·rw[afJ o]at j;rw[afJ B]at s
    exact h.apart g l K H o B k j s
 ·intro g d
  obtain rfl|l:=Mt d
  ·exact z
  ·exact h.names g l
 ·intro g d
  obtain rfl|l:=Mt d
  ·exact E
  ·exact h.sync g l
theorem bS.erase{m}{D}(h:bS w S p b cv m)(s:sj D m.files cv)(j:k<m.files.length)(o:w'.ownsMap ah.prog 9 mE b n (D.del (.string m.files[k].name.data.toList)))(l:w.grownBy w' (some b)):bS w' S p b cv {m with files:=m.files.eraseIdx k}:=by
 have q:dJ (λk=>k=b) w w':=⟨l.os,l.tape,l.output,l.size,λk j r=>l.block k j (λe=>r (by grind))⟩;have d:∀f∈m.files.eraseIdx k,f∈m.files:=λf i=>(List.eraseIdx_sublist _ _).subset i
 exact⟨h.box.touch q h.ne,⟨_,n,o,s.del h.ord j⟩,λf i=>q.owns (h.rows f (d f i)) (λk j=>(h.far f (d f i) k j).2.2),h.own,h.EY,λf i=>h.far f (d f i),λf i g l=>h.apart f (d f i) g (d g l),
  λk j=>afB (h.lt k j) q.size,I7 k h.ord,λf i=>h.names f (d f i),λf i=>h.sync f (d f i)⟩
end Rl
end Go.Proofs.Zq
