import Derived.Deep.LoopGhost
import Derived.Lib.IndexBytes
import Derived.Test.YtkdjjnkpfpogkaaGreatDoorK29
set_option maxHeartbeats 8000000
set_option linter.all false
set_option maxRecDepth 20000
namespace Go
def aqO{P:Prop}(h:P:=by
 go_wp2_with (at_make;refine wpList_make_full _ rfl _ _ 144 rfl w.heap.size 5 i0 (.int .u8 0) 1 aiK d a b .i64 .i64 _ _ m rfl rfl rfl rfl (by rw[c];omega) (by unfold maxLen;omega) (afA _) ?_;intro w1 hown hgrow)
 rw[a5L]at hown
 go_loopw [0,6] (λx i wr=>∃j:Nat,j<=m/\i=.int .i64 ((j:Int)-1)/\x=.int .i64 ((n/256^(m-j):Nat):Int)/\wr.ownsRow w.heap.size 5 1 (.slice (some ⟨w.heap.size,0,none⟩) m m) m (yJ (Fs m n j))/\ah' w wr) (λ_ i _=>(intOf i+1).toNat)
 case atStart=>exact⟨m,afA _,rfl,by simp,by rw[a1z];exact hown,(a0n _ _).grown hgrow (afA _) (by simp)⟩
 case round=>
  obtain⟨j,hj,rfl,rfl,hr,hb⟩:=hrel;cases j with
  |zero=>
   rw[XV]at hr
   have af3:(convert 144 9 (.slice (some ⟨w.heap.size,0,none⟩) m m)).run ah.prog wr=.ok (.string ⟨(be m n).toArray⟩) wr:=by
    have h:=ahU (P:=ah.prog) wr 144 9 5 ⟨w.heap.size,0,none⟩ m (be m n) aiK Qu5 Qu9 (by
     intro j hj;have:=hr.cellAt j (by rw[xO]at hj;omega)
     rw[nR,this,RA _ _ hj])
    rwa[xO]at h
   go_wp2;go_ret
   exact⟨rfl,hb⟩
  |succ j=>
   have hcell:=hr.cellAt j (by omega)
   rw[RA _ _ (by rw[RB _ _ _ hj];omega)]at hcell
   have adx:=hr.frozenAt j;have hdiv:=a8w n (m-(j+1));have H:=hr.stored j (.int .u8 (((n/256^(m-(j+1)):Nat):Int)%256));have HS:=hide (a5g n m j (by omega));have HR:=hide (XW m n j (by omega));generalize n/256^(m-(j+1))=q at*;go_wp2
   go_roundw
   case rel=>exact⟨j,by omega,by go_num,by rw[<-HS.out];go_num,by have h:=H.1;rw[a8v _ _ _ _ (toNat_mod q).symm,HR.out]at h;exact h,hb.setCell (by simp) _⟩
   case measure=>simp[intOf]):P:=h
def BG{P:Prop}(h:P:=by
 have c:¬(gY s.data.toList<19\/200<gY s.data.toList):=by omega
 have h19:(18:Int)<(s.size:Int):=by omega
 have H:Hid (Vh s.data.toList=gY s.data.toList/\Vi s.data.toList=((s.data.toList.getD 18 0).toNat:Int)/\Vj s.data.toList=0):=Vk _ b (by simpa using a) c (by have:= ‹gY s.data.toList<=(s.size:Int)›;simp;omega)
 go_quiet (fail)
 go_wp2;go_ret3;refine⟨?_,ahH (a0n _ _) _⟩;obtain⟨e1,e2,e3⟩:=H.out;exact acC ⟨e1,e2.trans (acD s (by omega)).symm,e3⟩):P:=h
def eB{P:Prop}(h:P:=by
 go_ret3
 exact⟨acC H.out,a0n _ _⟩):P:=h
def aqG{P:Prop}(h:P:=by
 go_ret
 exact⟨dx (by rw[<-d,HB.out]),rfl⟩):P:=h
def aqP{P:Prop}(h:P:=by
 go_ret
 exact⟨dx (by rw[<-d,HE.out,a1Y]),rfl⟩):P:=h
end Go
namespace Go.Proofs.Zq
open Tryz
open Go.RowKit
open Rl
variable{s t:ByteArray}{I:Int}
theorem a08:(ah.prog.info? 5).map (λi=>(i.zero,i.size,i.bytes))=some (some (.int .u8 0),1,1):=by kernel_rfl
theorem a5L(m):(madeCells (Value.int .u8 0).cells (m*1)).toList=yJ (List.replicate m 0):=by
 apply ah8;intro j
 by_cases h:j<m
 ·simp[madeCells,yJ,Value.cells,h,Nat.mod_one]
 ·simp[madeCells,yJ,h]
theorem Jg(n m:Nat)(w)(e:n<9223372036854775808)(f:m<=8):
  ai9 106 #[.int .i64 n,.int .i64 m] w (.string ⟨(be m n).toArray⟩):=by
 obtain⟨i0,d,a,b,c⟩:=ahC a08;go_enter alL,ntmps106;exact aqO
theorem xR(n m:Nat)(w)(_hn:n<9223372036854775808)(e:m<=8):
  ai9 159 #[.int .i64 n,.int .i64 m] w (.string ⟨(be m n).toArray⟩):=by
 obtain⟨i0,d,a,b,c⟩:=ahC a08;go_enter alZ,ntmps159;exact aqO
namespace Rl
def at8(l:List UInt8)(i:Nat):Nat:=(l.getD i 0).toNat
theorem gG(l)(i):at8 l i<256:=(l.getD i 0).toNat_lt
theorem dD(s:ByteArray)(i)(h:i<s.size):(s[i].toNat:Int)=(at8 s.data.toList i:Int):=by
 unfold at8
 have e:s.data.toList.getD i 0=s[i]:=BI
 rw[e]
def J5(l:List UInt8):Bool:=decide (2<=l.length/\1<=at8 l 0/\at8 l 0<=2/\1<=at8 l 1/\2+4*at8 l 1<=l.length)
def M0:Nat->List UInt8->Bool
 |0,_=>false
 |f+1,l=>if l=[]then true else if J5 l=true then M0 f (l.drop (2+4*at8 l 1))else false
theorem Yt:∀f g l,l.length<f->l.length<g->M0 f l=M0 g l:=by
 intro f;induction f with
 |zero=>simp
 |succ f a=>
  intro g l h b;cases g with
  |zero=>omega
  |succ g=>grind[M0,J5]
def wM(l:List UInt8):Bool:=M0 (l.length+1) l
theorem a1Y:wM []=true:=rfl
theorem EA(l)(h:l≠[])(o:J5 l=false):wM l=false:=by grind[wM,M0]
theorem M3(l)(o:J5 l=true):wM l=wM (l.drop (2+4*at8 l 1)):=by
 have a:2<=l.length:=by have:=agm o;omega
 grind[wM,M0,Yt]
theorem wN{l}(h:l.length<2\/at8 l 0<1\/2<at8 l 0\/at8 l 1<1\/l.length<2+4*at8 l 1):J5 l=false:=by grind[J5]
theorem M4{l}(h:¬(l.length<2\/at8 l 0<1\/2<at8 l 0\/at8 l 1<1\/l.length<2+4*at8 l 1)):J5 l=true:=by grind[J5]
theorem qC(s:ByteArray)(h:0<s.size):s.data.toList≠[]:=by
 intro e;have:s.data.toList.length=s.size:=by simp
 grind
theorem nil_of_size(s:ByteArray)(h:s.size=0):s.data.toList=[]:=by simp_all
theorem DW(s:ByteArray):s.data.toList.length=s.size:=by simp
end Rl
namespace Rl
def ed(k:Int):Int:=
 if k=1\/k=2\/k=3\/k=6 then 64 else if k=4 then 128 else if k=7\/k=8 then 192 else-1
def mV(k:Int):Bool:=decide (k=1\/k=2\/k=3\/k=4\/k=6\/k=7\/k=8)
theorem sF(k)(h:mV k=true):k=1\/k=2\/k=3\/k=4\/k=6\/k=7\/k=8:=agm h
theorem rH(k)(h:mV k=false):¬(k=1\/k=2\/k=3\/k=4\/k=6\/k=7\/k=8):=of_decide_eq_false h
theorem vQ(k)(h:mV k=false):ed k= -1:=by grind[rH,ed]
theorem aqC(k)(h:mV k=true):ed k=64\/ed k=128\/ed k=192:=by grind[sF,ed]
def jf(k:Int)(v:ByteArray):Bool:=
 if k=1 then decide (v.size=1/\at8 v.data.toList 0<=2)
 else if k=2 then wM v.data.toList
 else if k=3\/k=4 then decide (v.size=4)
 else if k=6 then decide (v.size=0)
 else if k=7 then decide (v.size=8)
 else decide (4<=v.size/\v.size%4=0)
structure At where
 flags:Nat
 kind:Nat
 val:ByteArray
def atOk(f k:Int)(v:ByteArray):Bool:=
 if mV k=true then decide (f=ed k)&&jf k v else decide (f=192\/f=224)
def uo(z:Nat)(t:ByteArray):Nat:=(num ((t.extract 2 (2+z)).data.toList)).toNat
def jq(z:Nat)(t:ByteArray):Bool:=decide (2+z<=t.size/\2+z+uo z t<=t.size)
theorem EB(z)(t):(uo z t:Int)=num ((t.extract 2 (2+z)).data.toList):=by unfold uo;have:=num_nonneg ((t.extract 2 (2+z)).data.toList);omega
theorem EC(z)(t)(a:z<=2):uo z t<65536:=by
 have h:=yF 2 ((t.extract 2 (2+z)).data.toList) (by simp<;>omega)
 grind[EB]
def DX(z:Nat)(t:ByteArray):At:=⟨at8 t.data.toList 0,at8 t.data.toList 1,t.extract (2+z) (2+z+uo z t)⟩
def FC(z:Nat)(t:ByteArray):ByteArray:=t.extract (2+z+uo z t) t.size
def M5(t:ByteArray):Nat:=uo 2 t
def gy(t:ByteArray):At:=DX 2 t
def BL(t:ByteArray):ByteArray:=FC 2 t
def wO(t:ByteArray)(I:Int):Bool:=
 jq 2 t&&decide (I<((gy t).kind:Int))&&atOk (gy t).flags (gy t).kind (gy t).val
def Vl:Nat->ByteArray->Int->Option (List At)
 |0,_,_=>none
 |f+1,t,I=>if t.size=0 then some []else if wO t I=true then(Vl f (BL t) (gy t).kind).map (gy t:: ·)else none
theorem a1Z:∀f g t I,t.size<f->t.size<g->Vl f t I=Vl g t I:=by
 intro f;induction f with
 |zero=>simp
 |succ f a=>
  intro g t I h b;cases g with
  |zero=>omega
  |succ g=>grind[Vl,BL,FC,afU]
def EZ(t:ByteArray)(I:Int):Option (List At):=Vl (t.size+1) t I
theorem a5M(t)(I)(h:t.size=0):EZ t I=some []:=by grind[EZ,Vl]
theorem a5N(t)(I)(h:¬t.size=0)(o:wO t I=false):EZ t I=none:=by grind[EZ,Vl]
theorem a2a(t)(I)(o:wO t I=true):EZ t I=(EZ (BL t) (gy t).kind).map (gy t:: ·):=by
 have a:4<=t.size:=by unfold wO at o;rw[afQ,afQ]at o;have:=(agm o.1.1).1;omega
 grind[BL,FC,afU,EZ,Vl,a1Z]
def eY(l:List At):Nat:=(l.filter λa=>decide (1<=a.kind/\a.kind<=3)).length
theorem Vm(l):eY l<=l.length:=List.length_filter_le _ _
theorem Gd(l)(a):eY (l++[a])=eY l+if 1<=a.kind/\a.kind<=3 then 1 else 0:=by split<;>grind[eY]
def E5(s:ByteArray):Bool:=match EZ s (-1)with
 |some l=>eY l==3
 |none=>false
def Sa(s:ByteArray):List At:=(EZ s (-1)).getD []
theorem a2b(h:EZ s (-1)=none):E5 s=false:=by grind[E5]
theorem a2c{l}(h:EZ s (-1)=some l):E5 s=(eY l==3):=by grind[E5]
theorem a2d{l}(h:EZ s (-1)=some l):Sa s=l:=by grind[Sa]
def dN(l:List At):List Value:=l.flatMap λa=>[.int .i64 (a.flags:Int),.int .i64 (a.kind:Int),.string a.val]
theorem vR(l):(dN l).length=l.length*3:=by
 induction l with
 |nil=>rfl
 |cons a l b=>simp only[dN,List.flatMap_cons,afE,ag4,age]at*;omega
theorem nE(l)(a):dN (l++[a])=dN l++[.int .i64 (a.flags:Int),.int .i64 (a.kind:Int),.string a.val]:=by simp[dN]
theorem DY:∀(l:List At)(j:Nat)(h:j<l.length),(dN l)[j*3]? =some (.int .i64 (l[j].flags:Int))/\(dN l)[j*3+1]? =some (.int .i64 (l[j].kind:Int))/\(dN l)[j*3+2]? =some (.string l[j].val):=by
 intro l;induction l with
 |nil=>simp
 |cons a l b=>
  intro j h;cases j with
  |zero=>simp[dN]
  |succ j=>grind[dN]
theorem Yu(l:List At)(k)(h:k<l.length):eY (l.take (k+1))=eY (l.take k)+if 1<=l[k].kind/\l[k].kind<=3 then 1 else 0:=by rw[afH h,Gd]
theorem Qe(l)(f k)(v)(h:1<=k/\k<=3):Value.int .i64 ((eY l:Int)+1)=Value.int .i64 (eY (l++[⟨f,k,v⟩]):Int):=by grind[Gd]
theorem Vn(l)(f k)(v)(h:¬(1<=k/\k<=3)):Value.int .i64 (eY l:Int)=Value.int .i64 (eY (l++[⟨f,k,v⟩]):Int):=by grind[Gd]
end Rl
namespace Rl
theorem wP(t)(I)(h:jq 2 t=false):wO t I=false:=by simp[wO,h]
theorem xS(t)(I)(h:((gy t).kind:Int)<=I):wO t I=false:=by
 unfold wO
 grind
theorem DZ(t)(I)(h:atOk (gy t).flags (gy t).kind (gy t).val=false):wO t I=false:=by simp[wO,h]
theorem M7(t)(I)(c:jq 2 t=true)(b:I<((gy t).kind:Int))(a:atOk (gy t).flags (gy t).kind (gy t).val=true):wO t I=true:=by grind[wO]
def yN(s t:ByteArray)(I:Int)(a:List At):Prop:=EZ s (-1)=(EZ t I).map (a++ ·)
theorem Hu(s):yN s s (-1) []:=by simp[yN,EZ]
theorem sG{a}(h:yN s t I a)(b:¬t.size=0)(o:wO t I=false):E5 s=false:=
 a2b (by rw[h,a5N t I b o];rfl)
theorem J6{a}(h:yN s t I a)(o:wO t I=true):yN s (BL t) (gy t).kind (a++[gy t]):=by
 unfold yN at*
 rw[h,a2a t I o,Option.map_map]
 congr 1
 grind
theorem M9{a}(h:yN s t I a)(b:t.size=0):E5 s=(eY a==3)/\Sa s=a:=by
 have e:EZ s (-1)=some a:=by rw[h,a5M t I b];simp
 grind[a2c,a2d]
theorem Na(t)(h:jq 2 t=true):(BL t).size+4<=t.size:=by grind[jq,BL,FC,afU]
theorem a2e(t):(gy t).val.size<=t.size:=by grind[gy,DX,afU]
theorem Yv(t):(gy t).kind<256:=gG _ _
end Rl
namespace Rl
def gap(n:Int):Int:=2^(32-n).toNat
def qW(a n:Int):Bool:=decide (0<=n/\n<=32/\0<=a/\a<=4294967295/\a%gap n=0)
theorem ED(n):0<gap n:=Int.pow_pos (by omega)
theorem Sb(n)(b:0<=n):gap n<=4294967296:=by
 unfold gap;have h:(32-n).toNat<=32:=by omega
 have e:((2:Int)^(32-n).toNat)=((2^(32-n).toNat:Nat):Int):=by simp
 have a:2^(32-n).toNat<=2^32:=Nat.pow_le_pow_right (by omega) h;omega
theorem Qf(n)(a:0<=n):IntKind.i64.wrap (2^(32-n).toNat)=gap n:=by
 have c:=ED n;have b:=Sb n a
 grind[gap,IntKind.wrap_i64]
theorem a8T(a n)(_h0:0<=n)(f:0<=a)(d:a<=4294967295):wrap64 (a/2^(32-n).toNat*2^(32-n).toNat)=a-a%gap n:=by
 have g:=ED n;have e:=Int.emod_add_mul_ediv a (gap n);have h:=Int.emod_nonneg a (Int.ne_of_gt g)
 have b:a%gap n<=a:=by have c:0<=a/gap n:=Int.ediv_nonneg f (by omega);have:0<=gap n*(a/gap n):=Int.mul_nonneg (by omega) c;omega
 grind[gap,Int.mul_comm,lh]
def many(n:Nat):Nat:=(n+7)/8
theorem Hw(n)(h:n<=32):many n<=4:=by unfold many;omega
theorem Nb(a n)(e:0<=n)(d:n<=32)(c:0<=a)(b:a<=4294967295):qW a n=(a%gap n==0):=by unfold qW;rw[ah1];simp[e,d,c,b]
theorem a2f(a n)(h:n<0\/32<n\/a<0\/4294967295<a):qW a n=false:=by grind[qW]
theorem Hy(a n)(h:qW a n=true):0<=n/\n<=32/\0<=a/\a<=4294967295:=by have:=agm h;omega
def bO(l:List (Int×Int)):List Value:=l.flatMap λp=>[.int .i64 p.1,.int .i64 p.2]
theorem H5(l)(p):bO (l++[p])=bO l++[.int .i64 p.1,.int .i64 p.2]:=by simp[bO]
theorem kX:∀(l:List (Int×Int))(j:Nat)(h:j<l.length),(bO l)[j*2]? =some (.int .i64 l[j].1)/\(bO l)[j*2+1]? =some (.int .i64 l[j].2):=by
 intro l;induction l with
 |nil=>simp
 |cons a l b=>
  intro j h;cases j with
  |zero=>simp[bO]
  |succ j=>grind[bO]
def H6(l:List (Int×Int)):Bool:=l.all λp=>qW p.1 p.2
theorem Nc(l)(k)(h:k<l.length)(a:qW l[k].1 l[k].2=false):H6 l=false:=by grind[H6,List.all_eq_false,afS]
theorem Yw(l:List (Int×Int))(k)(h:k<l.length)(a:H6 (l.take k)=true)(b:qW l[k].1 l[k].2=true):H6 (l.take (k+1))=true:=by rw[afH h];unfold H6 at*;rw[List.all_append,a];simp[b]
end Rl
namespace Rl
def marked(l:List UInt8):Bool:=(l.take 16).all (· ==255)
def gY(l:List UInt8):Int:=num ((l.drop 16).take 2)
def fr(l:List UInt8):Int×Int×Int:=
 if marked l=true then
  if l.length<18 then(0,0,0)
  else if gY l<19\/200<gY l then(0,0,2)
  else if (l.length:Int)<gY l then(0,0,0)
  else(gY l,((l.getD 18 0).toNat:Int),0)
 else(0,0,2)
def Vh(l:List UInt8):Int:=(fr l).1
def Vi(l:List UInt8):Int:=(fr l).2.1
def Vj(l:List UInt8):Int:=(fr l).2.2
theorem D6(l)(h:marked l=false):Vh l=0/\Vi l=0/\Vj l=2:=by simp[Vh,Vi,Vj,fr,h]
theorem Nf(l)(h:marked l=true)(a:l.length<18):Vh l=0/\Vi l=0/\Vj l=0:=by simp[Vh,Vi,Vj,fr,h,a]
theorem Ng(l)(h:marked l=true)(b:¬l.length<18)(a:gY l<19\/200<gY l):Vh l=0/\Vi l=0/\Vj l=2:=by simp[Vh,Vi,Vj,fr,h,b,a]
theorem Sc(l)(h:marked l=true)(c:¬l.length<18)(b:¬(gY l<19\/200<gY l))(a:(l.length:Int)<gY l):Vh l=0/\Vi l=0/\Vj l=0:=by
 unfold Vh Vi Vj fr
 grind
theorem Vk(l)(h:marked l=true)(c:¬l.length<18)(b:¬(gY l<19\/200<gY l))(a:¬(l.length:Int)<gY l):Vh l=gY l/\Vi l=((l.getD 18 0).toNat:Int)/\Vj l=0:=by
 unfold Vh Vi Vj fr
 grind
theorem a2g:∀(n:Nat)(l:List UInt8),(List.replicate n 255:List UInt8).length>=l.length->(l.isPrefixOf (List.replicate n (255:UInt8))=l.all (· ==255)):=by grind
def mark16:List UInt8:=List.replicate 16 255
theorem a2h(l):Lib.hasPrefix mark16 (l.take 16)=marked l:=by
 unfold Lib.hasPrefix mark16 marked
 grind
def upTo(s:ByteArray)(k:Nat):Prop:=∀j(h:j<s.size),j<k->s[j]=255
theorem a2i(s):upTo s 0:=λ_ _ h=>absurd h (by omega)
theorem a2j(s)(k)(h:k<s.size)(a:upTo s k)(d:s[k]=255):upTo s (k+1):=by
 intro j b c
 by_cases e:j=k
 ·grind
 ·exact a j b (by omega)
theorem Nh(s):marked s.data.toList=true↔upTo s 16:=by
 unfold marked upTo
 rw[agE]
 constructor
 ·intro h j a f
  have e:s[j]=s.data.toList[j]'(by simpa using a):=by rfl
  have m:s.data.toList[j]'(by simpa using a)∈s.data.toList.take 16:=by
   rw[List.mem_take_iff_getElem]
   exact⟨j,by simp;omega,rfl⟩
  have:=h _ m
  rw[e];simpa using this
 ·intro h x b
  rw[List.mem_take_iff_getElem]at b
  obtain⟨j,a,rfl⟩:=b;have c:j<s.size:=by simp at a;omega
  have d:s[j]=255:=h j c (by omega);have e:s[j]=s.data.toList[j]'(by simpa using c):=by rfl
  rw[<-e,d];rfl
theorem Yx(s)(k)(a:upTo s k)(h:¬k<s.size\/¬k<16):marked s.data.toList=true:=by
 rw[Nh]
 intro j b c;exact a j b (by omega)
end Rl
namespace Rl
def oQ(f k z:Nat)(v:ByteArray):List UInt8:=be 1 f++(be 1 k++(be z v.size++v.data.toList))
theorem vS(f k z)(v):(oQ f k z v).length=2+z+v.size:=by simp[oQ,xO];omega
end Rl
def strs(a:List ByteArray):List Value:=a.map Value.string
def flat(a:List ByteArray):List UInt8:=(a.map (·.data.toList)).flatten
theorem Ni(l):Lib.join l []=l.flatten:=by
 unfold Lib.join;induction l with
 |nil=>rfl
 |cons a l b=>
  cases l<;>simp_all
theorem a5O(a)(j:Nat)(x)(h:a[j]? =some x):(strs a)[j]? =some (.string x):=by simp[strs,h]
theorem Nj(v)(C)(w)(Y:bz w v C.length 1 (strs C))(d:∀a n c,v=.slice a n c->n<=c)(hN:C.length<=1073741824)(Q:(flat C).length<=140737488355328):
  ai9 215 #[v] w (.string ⟨(flat C).toArray⟩):=by
 obtain⟨a,c,rfl,hn⟩|⟨b,o,y,rfl,hn,hb,M⟩:=Y.2
 ·have u:C=[]:=afT hn
  subst u;go_enter akw,ntmps215;go_wp2_with (go_at_call 253;refine(ah.strings_Join_none _ _ _ _).aH ?_);go_ret
  exact aN
 ·have hj:=ah.strings_Join b o y C ⟨#[]⟩ w (λj x hx=>M j _ (a5O C j x hx)) hb (by omega) (d _ _ _ rfl) (by rw[Ni];exact Q)
  have e:(Lib.join (C.map (·.data.toList)) (ByteArray.mk #[]).data.toList)=flat C:=Ni _
  rw[e]at hj
  go_enter akw,ntmps215;go_wp2_with (go_at_call 253;refine hj.ai ?_;intro w' V);go_ret
  exact⟨rfl,V⟩
theorem kY(n)(b:0<=n)(a:n<2^63):IntKind.i64.wrap n=n:=by grind[IntKind.wrap_i64]
theorem acE(f:Nat)(h:f<256):bits .and .i64 (f:Int) 16=((f/16%2*16:Nat):Int):=by
 have e:(2:Nat)^63=9223372036854775808:=by decide
 have a:=(bits_nat .i64 63 (by decide) kY f 16 (by omega) (by omega)).1
 rw[show(16:Int)=((16:Nat):Int)from rfl,a]
 congr 1
 have b:∀x:Fin 256,x.val&&&16=x.val/16%2*16:=by decide+kernel
 exact b ⟨f,h⟩
def H7(f:Nat):Nat:=if f/16%2=1 then 2 else 1
theorem Nk(f:Nat)(w)(h:f<256):
  ai3 221 #[.int .i64 f] w λe w'=>e=.returned (.int .i64 (H7 f:Int))/\w'=w:=by
 have d:=acE f h
 by_cases h1:f/16%2=1
 ·have e2:H7 f=2:=by unfold H7;rw[afN h1]
  rw[h1]at d
  rw[e2]
  go_enter aky,ntmps221;exact cB
 ·have e2:H7 f=1:=by unfold H7;rw[afJ h1]
  have J:f/16%2=0:=by omega
  rw[J]at d
  rw[e2]
  go_enter aky,ntmps221;exact cB
theorem a5P{A}{N C}(h:N<=C):∀a n c,Value.slice A N C=.slice a n c->n<=c:=by grind
theorem a2k(w:World)(a)(T)(n c)(h:a.size=n)(b:0<n):bz (w.alloc (.cells a T)) (.slice (some ⟨w.heap.size,0,none⟩) n c) n 1 a.toList:=by
 refine⟨by simp[h],.inr ⟨w.heap.size,0,c,rfl,b,by simp,λj u d=> ?_⟩⟩
 simp_all
theorem a09(f k z)(v):flat [⟨(be 1 f).toArray⟩,⟨(be 1 k).toArray⟩,⟨(be z v.size).toArray⟩,v]=oQ f k z v:=by simp[flat,oQ]
theorem acF(f k z)(v)(a:z<=2)(b:v.size<=1048576):(flat [⟨(be 1 f).toArray⟩,⟨(be 1 k).toArray⟩,⟨(be z v.size).toArray⟩,v]).length<=140737488355328:=by rw[a09,vS];omega
theorem a9R{w d e}{n}{a b c}(i:d.cell? ⟨n,0,none⟩=some a/\d.cell? ⟨n,1,none⟩=some b/\d.cell? ⟨n,2,none⟩=some c/\n<d.heap.size/\ah' w d)(f:ah' d e):
  e.cell? ⟨n,0,none⟩=some a/\e.cell? ⟨n,1,none⟩=some b/\e.cell? ⟨n,2,none⟩=some c/\n<e.heap.size/\ah' w e:=by
 obtain⟨l,k,j,g,h⟩:=i
 exact⟨(f.cell (p:=⟨n,0,none⟩) g).trans l,(f.cell (p:=⟨n,1,none⟩) g).trans k,(f.cell (p:=⟨n,2,none⟩) g).trans j,afB g f.size,af h f h.size⟩
theorem Vo(f k z:Nat)(v)(w)(m:f<256)(l:k<256)(d:z<=2)(e:v.size<=1048576):
  ai9 220 #[.agg #[.int .i64 (f:Int),.int .i64 (k:Int),.string v],.int .i64 (z:Int)] w (.string ⟨(oQ f k z v).toArray⟩):=by
 have j:=λw=>xR f 1 w (by omega) (by omega)
 have i:=λw=>xR k 1 w (by omega) (by omega)
 have h:=λw=>xR v.size z w (by omega) (by omega)
 go_enter amc,ntmps220;go_wp2
 go_region_held (λc=>c.cell? ⟨w.heap.size,0,none⟩=some (.int .i64 (f:Int))/\c.cell? ⟨w.heap.size,1,none⟩=some (.int .i64 (k:Int))/\c.cell? ⟨w.heap.size,2,none⟩=some (.string v)/\w.heap.size<c.heap.size/\ah' w c) (first|(refine⟨by simp,by simp,by simp,by simp,((a0n _ _).alloc (afA _) _).drew⟩)|(exact a9R (by assumption) (by assumption))|(exact a9R (by assumption) ((a0n _ _).alloc (afA _) _))) (first|(go_at_call_of 159 (f:Int);refine(j _).ai ?_;intro a b)|(go_at_call_of 159 (k:Int);refine(i _).ai ?_;intro a b)|(go_at_call_of 159 (v.size:Int);refine(h _).ai ?_;intro a b)|(go_at_call 215;refine(Nj _ [⟨(be 1 f).toArray⟩,⟨(be 1 k).toArray⟩,⟨(be z v.size).toArray⟩,v] _ (a2k _ _ _ 4 4 rfl (by omega)) (a5P (afA _)) (by simp) (acF f k z v d e)).ai ?_;intro a b))
 have g:= ‹a.cell? _=some _/\a.cell? _=some _/\a.cell? _=some _/\w.heap.size<a.heap.size/\ah' w a›;go_wp2;go_ret
 exact⟨by rw[<-a09];rfl,g.2.2.2.2⟩
theorem acC{a b c f e d}(h:f=a/\e=b/\d=c):Ending.returned (.tuple #[.int .i64 a,.int .i64 b,.int .i64 c])=Ending.returned (.tuple #[.int .i64 f,.int .i64 e,.int .i64 d]):=by grind
theorem OJ(s:ByteArray):((s.extract 0 (min (s.size:Int) 16).toNat).data.toList)=s.data.toList.take 16:=by simp<;>omega
theorem Gf(s:ByteArray)(w)(b)(f:marked s.data.toList=b):
  ai3 277 #[.string {data:=#[255,255,255,255,255,255,255,255,255,255,255,255,255,255,255,255]},.string (s.extract 0 (min (s.size:Int) 16).toNat)] w λe a=>e=.returned (.bool b)/\a=w:=by
 refine(ah.strings_HasPrefix _ _ w).mono ?_;rintro e a ⟨d,c⟩;refine⟨?_,c⟩
 rw[d,OJ,<-f,<-a2h];rfl
theorem Yy(s:ByteArray)(w)(h:¬s.size<18):
  ai3 242 #[.string (s.extract 16 18)] w λe a=>e=.returned (.int .i64 (gY s.data.toList))/\a=w:=by
 refine(qB _ w (by simp_all)).mono ?_;rintro e a ⟨c,b⟩;refine⟨?_,b⟩
 rw[c,Lib.extract_data];rfl
theorem a2l(s:ByteArray)(w)(h:¬s.size<18):
  ai3 124 #[.string (s.extract 16 18)] w λe a=>e=.returned (.int .i64 (gY s.data.toList))/\a=w:=by
 refine(kF _ w (by simp_all)).mono ?_;rintro e a ⟨c,b⟩;refine⟨?_,b⟩
 rw[c,Lib.extract_data];rfl
theorem J7(l):0<=gY l/\gY l<65536:=by
 refine⟨num_nonneg _,?_⟩;have h:=yF 2 ((l.drop 16).take 2) (by grind)
 grind[gY]
theorem acD(s:ByteArray)(h:18<s.size):wrap64 (s[18].toNat:Int)=((s.data.toList.getD 18 0).toNat:Int):=by
 rw[Uu]
 have e:s.data.toList.getD 18 0=s[18]:=BI
 rw[e]
theorem Qg(s)(w)(e:s.size<=maxLen):
  ai9 244 #[.string s] w (.tuple #[.int .i64 (Vh s.data.toList),.int .i64 (Vi s.data.toList),.int .i64 (Vj s.data.toList)]):=by
 unfold maxLen at e;cases b:marked s.data.toList with
 |false=>
  have H:=hide (D6 _ b);go_enter aju,ntmps244;go_wp2_with (go_at_call 277;refine(Gf s _ _ b).ai ?_;intro d rfl);exact eB
 |true=>
  by_cases a:s.size<18
  ·have H:=hide (Nf _ b (by simpa using a))
   go_enter aju,ntmps244;go_wp2_with (go_at_call 277;refine(Gf s _ _ b).ai ?_;intro d rfl);exact eB
  ·obtain⟨g,f⟩:=J7 s.data.toList
   go_enter aju,ntmps244;go_wp2_with (first|(go_at_call 277;refine(Gf s _ _ b).ai ?_;intro d rfl)|(go_at_call 242;refine(Yy s _ a).ai ?_;intro d rfl))
   ·have c:gY s.data.toList<19\/200<gY s.data.toList:=by assumption
    have H:=hide (Ng _ b (by simpa using a) c);exact eB
   ·have c:¬(gY s.data.toList<19\/200<gY s.data.toList):=by omega
    have H:=hide (Sc _ b (by simpa using a) c (by simpa using ‹(s.size:Int)<gY s.data.toList›));exact eB
   ·exact BG
   ·have H:=hide (Ng _ b (by simpa using a) (.inl ‹gY s.data.toList<19›))
    exact eB
theorem H8(s)(w)(m:s.size<=maxLen):
  ai9 134 #[.string s] w (.tuple #[.int .i64 (Vh s.data.toList),.int .i64 (Vi s.data.toList),.int .i64 (Vj s.data.toList)]):=by
 unfold maxLen at m;go_enter alP,ntmps134;go_wp2
 go_loop [5] (λi=>∃k:Nat,k<=s.size/\k<=16/\i=.int .i64 k/\upTo s k) (λi=>s.size-(intOf i).toNat)
 case atStart=>exact⟨0,by omega,by omega,rfl,a2i s⟩
 case round=>
  obtain⟨k,r,l,rfl,j⟩:=hrel
  by_cases n:k<s.size/\k<16
  ·obtain⟨d,h⟩:=n
   by_cases f:s[k]=255
   ·have g:(s[k].toNat:Int)=255:=by rw[f];rfl
    go_wp2
    go_round
    case rel=>exact⟨k+1,by omega,by omega,by go_num,a2j s k d j f⟩
    case measure=>simp[intOf];omega
   ·have g:((s[k].toNat:Int) != 255)=true:=by rw[agF];intro e;apply f;apply UInt8.toNat_inj.1;simpa using(by omega:s[k].toNat=255)
    have b:marked s.data.toList=false:=by rw[Bool.eq_false_iff];intro e;rw[Nh]at e;exact f (e k d h)
    have H:=hide (D6 _ b);go_wp2;exact eB
  ·have b:=Yx s k j (by omega)
   obtain⟨p,o⟩:=J7 s.data.toList
   by_cases a:s.size<18
   ·have H:=hide (Nf _ b (by simpa using a))
    by_cases d:k<s.size
    all_goals
     go_wp2;exact eB
   ·have d:k<s.size:=by omega
    go_wp2_with (go_at_call 124;refine(a2l s _ a).ai ?_;intro q rfl)
    ·have c:gY s.data.toList<19\/200<gY s.data.toList:=by assumption
     have H:=hide (Ng _ b (by simpa using a) c);exact eB
    ·have c:¬(gY s.data.toList<19\/200<gY s.data.toList):=by omega
     have H:=hide (Sc _ b (by simpa using a) c (by simpa using ‹(s.size:Int)<gY s.data.toList›));exact eB
    ·exact BG
    ·have H:=hide (Ng _ b (by simpa using a) (.inl ‹gY s.data.toList<19›))
     exact eB
theorem dx{a b}(h:a=b):Ending.returned (.bool a)=.returned (.bool b):=by rw[h]
theorem Sd(s)(w)(hs:s.size<=maxLen):
  ai3 223 #[.string s] w λe w'=>e=.returned (.bool (wM s.data.toList))/\w'=w:=by
 unfold maxLen at hs;go_enter ame,ntmps223;go_wp2
 go_loop [0] (λx=>∃t:ByteArray,x=.string t/\t.size<=s.size/\wM t.data.toList=wM s.data.toList) (λx=>pU x)
 case atStart=>exact⟨s,rfl,afA _,rfl⟩
 case round=>
  obtain⟨t,rfl,Y,Q⟩:=hrel;have d:=Q
  by_cases J:t.size=0
  ·have M:t.toList.isEmpty=true:=by rw[ahN,nil_of_size t J];rfl
   have HE:=hide (nil_of_size t J);have X:(t.size:Int)<2:=by omega
   go_wp2;exact aqP
  ·have M:t.toList.isEmpty=false:=BH
   have u:=hide (qC t (by omega))
   by_cases h2:t.size<2
   ·have HB:=hide (EA _ u.out (wN (.inl (by rw[DW];exact h2))))
    go_wp2;exact aqG
   ·have K:=dD t 0 (by omega)
    have H:=dD t 1 (by omega);have U:=gG t.data.toList 0;have R:=gG t.data.toList 1;have F:=hide (@wN t.data.toList);have E:=hide (@M4 t.data.toList);have W:=hide (M3 t.data.toList)
    rw[DW]at F E
    have N:(0:Int)<(t.size:Int):=by omega
    have L:(1:Int)<(t.size:Int):=by omega
    generalize at8 t.data.toList 0=O at*;generalize at8 t.data.toList 1=b1 at*
    by_cases y:t.size<2\/O<1\/2<O\/b1<1\/t.size<2+4*b1
    ·have HB:=hide (EA _ u.out (F.out y))
     have V:O<1\/2<O\/b1<1\/t.size<2+4*b1:=by omega
     obtain h|h|h|h:=V
     all_goals
      go_wp2
      all_goals
       exact aqG
    ·have HB:=hide (W.out (E.out y))
     have h1:1<=O/\O<=2/\1<=b1/\2+4*b1<=t.size:=by omega
     obtain⟨g1,g2,g3,g4⟩:=h1;go_wp2
     go_round
     case rel=>exact⟨_,rfl,aQ,by rw[Lib.extract_to_end,<-d,HB.out]⟩
     case measure=>simp only[pU,afU];omega
theorem Yz(s)(w)(hs:s.size<=maxLen):
  ai3 293 #[.string s] w λe w'=>e=.returned (.bool (wM s.data.toList))/\w'=w:=by
 unfold maxLen at hs;go_enter amG,ntmps293;go_wp2
 go_step3
 go_wp2
 go_step3
 go_wp2
 go_loop [0] (λx=>∃t:ByteArray,x=.string t/\t.size<=s.size/\wM t.data.toList=wM s.data.toList) (λx=>pU x)
 case atStart=>exact⟨s,rfl,afA _,rfl⟩
 case round=>
  obtain⟨t,rfl,Y,Q⟩:=hrel;have d:=Q
  by_cases J:t.size=0
  ·have M:t.toList.isEmpty=true:=by rw[ahN,nil_of_size t J];rfl
   have HE:=hide (nil_of_size t J);have X:(t.size:Int)<2:=by omega
   go_wp2
   try rw[ahQ]
   exact aqP
  ·have M:t.toList.isEmpty=false:=BH
   have u:=hide (qC t (by omega))
   by_cases h2:t.size<2
   ·have HB:=hide (EA _ u.out (wN (.inl (by rw[DW];exact h2))))
    go_wp2
    try rw[ahQ]
    exact aqG
   ·have K:=dD t 0 (by omega)
    have H:=dD t 1 (by omega);have U:=gG t.data.toList 0;have R:=gG t.data.toList 1;have F:=hide (@wN t.data.toList);have E:=hide (@M4 t.data.toList);have W:=hide (M3 t.data.toList)
    rw[DW]at F E
    have N:(0:Int)<(t.size:Int):=by omega
    have L:(1:Int)<(t.size:Int):=by omega
    generalize at8 t.data.toList 0=O at*;generalize at8 t.data.toList 1=b1 at*
    by_cases y:t.size<2\/O<1\/2<O\/b1<1\/t.size<2+4*b1
    ·have HB:=hide (EA _ u.out (F.out y))
     have V:O<1\/2<O\/b1<1\/t.size<2+4*b1:=by omega
     obtain h|h|h|h:=V
     all_goals
      go_wp2
      all_goals
       try rw[ahQ]
       exact aqG
    ·have HB:=hide (W.out (E.out y))
     have h1:1<=O/\O<=2/\1<=b1/\2+4*b1<=t.size:=by omega
     obtain⟨g1,g2,g3,g4⟩:=h1;have e2:((2+4*(b1:Int))==2)=false:=ax
     go_wp2
     all_goals
      refine⟨?rel,?measure⟩
      case rel=>exact⟨_,rfl,aQ,by rw[Lib.extract_to_end,<-d,HB.out]⟩
      case measure=>simp only[pU,afU];omega
end Go.Proofs.Zq
