import Derived.Calls
import Derived.CallsIn
import Derived.ChangeArms
import Derived.Deep.QuietTactic
import Derived.Deep.RegionHeld
import Derived.Laws.Append
import Derived.Laws.AppendOwn
import Derived.Laws.IdiomStrings
import Derived.Laws.World
import Derived.Lib.Strings
import Derived.LoopN
import Derived.Maps.OwnSet
import Derived.OrdersHeld
import Derived.OwnWalk
import Derived.RangeFuncRecord
import Derived.Shelf.Abstract
import Derived.Shelf.SlIter.Collect
import Derived.Tactics
import Derived.Test.YtkdjjnkpfpogkaaGreatDoorProg
import Derived.WalkMore
import GoSem.Core.Value
import Derived.Test.YtkdjjnkpfpogkaaGreatDoorK18
set_option maxHeartbeats 8000000
set_option linter.all false
namespace Go.Proofs.Zq
variable{name:ByteArray}
namespace Rl
structure aD where
 name:ByteArray
 data:ByteArray
 sync:Nat
structure az where
 room:Int
 files:List aD
 left:Int
def bR(name:ByteArray):List aD->Option Nat
 |[]=>none
 |f::r=>if f.name=name then some 0 else(bR name r).map (· +1)
theorem q8:∀{l:List aD}{k:Nat},bR name l=some k->∃h:k<l.length,l[k].name=name/\∀j(c:j<k),(l[j]'(by omega)).name≠name:=by
 intro l;induction l with
 |nil=>intro k h;cases h
 |cons f r a=>
  intro k h;unfold bR at h
  split at h
  ·grind
  ·cases b:bR name r<;>grind
theorem wK:∀{l:List aD},bR name l=none->∀j(a:j<l.length),l[j].name≠name:=by
 intro l;induction l with
 |nil=>simp
 |cons f r b=>
  intro h j a;unfold bR at h
  split at h
  ·cases h
  ·have c:bR name r=none:=by cases d:bR name r<;>grind
   cases j<;>grind
theorem PT{l}{k}(h:∀j(e:j<l.length),j<k->l[j].name≠name)(d:k<l.length)(c:l[k].name=name):bR name l=some k:=by
 cases a:bR name l with
 |none=>grind[wK]
 |some i=>
  obtain⟨m,g,f⟩:=q8 a
  by_cases b:i<k<;>grind
theorem a1r{l}(h:∀j(d:j<l.length),l[j].name≠name):bR name l=none:=by
 cases a:bR name l with
 |none=>rfl
 |some i=>obtain⟨c,b,_⟩:=q8 a;exact absurd b (h i c)
def aR:List aD->Nat
 |[]=>0
 |f::r=>f.data.size+aR r
theorem PU(l m):aR (l++m)=aR l+aR m:=by
 induction l with
 |nil=>simp[aR]
 |cons f r a=>grind[aR]
theorem XK(l:List aD)(k)(h:k<l.length):aR (l.take (k+1))=aR (l.take k)+l[k].data.size:=by grind[afH,PU,aR]
theorem a4U(l)(k):aR (l.take k)<=aR l:=by grind[aR,PU,ah2]
def dK(s:ByteArray):Bool:=decide (1<=s.size/\s.size<=8)
def nS(n:Int):Int:=if 0<n then n-1 else n
def I6(a b:ByteArray):Bool:=Op.bytesLess a.toList b.toList
def kV(f:aD):List aD->List aD
 |[]=>[f]
 |x::r=>if I6 f.name x.name=true then f::x::r else x::kV f r
def rW(f:aD)(l:List aD):Bool:=l.any λx=>I6 f.name x.name
theorem FW(f)(l)(x):rW f (l++[x])=(rW f l||I6 f.name x.name):=by simp[rW]
theorem a1s(f x):∀l,rW f l=true->kV f (l++[x])=kV f l++[x]:=by
 intro l;induction l with
 |nil=>simp[rW]
 |cons a r b=>grind[I6,kV,rW]
theorem a4V(f):∀l,rW f l=false->kV f l=l++[f]:=by
 intro l;induction l with
 |nil=>intro _;rfl
 |cons a r b=>grind[I6,rW,kV]
theorem a4W(f x):∀l,rW f l=false->I6 f.name x.name=true->kV f (l++[x])=l++[f,x]:=by
 intro l;induction l with
 |nil=>grind[kV]
 |cons a r b=>grind[I6,rW,kV]
theorem Uw(f)(l):(kV f l).length=l.length+1:=by
 induction l with
 |nil=>rfl
 |cons a r b=>grind[kV]
def dO(l:List aD):List Value:=l.flatMap λf=>[.string f.name,.string f.data,.int .i64 (f.sync:Int)]
theorem nT(l m):dO (l++m)=dO l++dO m:=by simp[dO]
theorem kC:∀(l:List aD)(j:Nat)(h:j<l.length),(dO l)[j*3]? =some (.string l[j].name)/\(dO l)[j*3+1]? =some (.string l[j].data)/\(dO l)[j*3+2]? =some (.int .i64 (l[j].sync:Int)):=by
 intro l;induction l with
 |nil=>simp
 |cons f r a=>
  intro j h;have e:dO (f::r)=.string f.name::.string f.data::.int .i64 (f.sync:Int)::dO r:=rfl;cases j<;>grind
end Rl
end Go.Proofs.Zq
namespace Go.Proofs.ah
open Go.Proofs.Zb
set_option maxRecDepth 20000
noncomputable def f149:Func:=
 (by constructor;symm;dsimp[yC,textOf,Tryz.f149,nums,au.yz,au.bN,au.goQ,au.r0,au.r1m,au.Dy,au.gN,au.mkf,au.r3]:{x//x=yC 149 Tryz.f149}).1
def a8q:f149=yC 149 Tryz.f149:=by kernel_rfl
@[simp] theorem func149:prog.funcs[149]? =some f149:=by rw[a8q,at_,Tryz.func149];rfl
@[simp] def ntmps149:f149.ntmps=9:=rfl
noncomputable def f194:Func:=
 (by constructor;symm;dsimp[yC,textOf,Tryz.f194,nums,au.dY,au.c0,au.c1,au.c2,au.c3,au.c4,au.c5,au.c6,au.c7,au.c8,au.Ak,au.c10,au.c11]:{x//x=yC 194 Tryz.f194}).1
def a8r:f194=yC 194 Tryz.f194:=by kernel_rfl
@[simp] theorem func194:prog.funcs[194]? =some f194:=by rw[a8r,at_,Tryz.func194];rfl
@[simp] def ntmps194:f194.ntmps=39:=rfl
noncomputable def f100:Func:=
 (by constructor;symm;dsimp[yC,textOf,Tryz.f100,nums,au.FQ,au.a0,au.a1,au.ZM,au.a3,au.a4,au.a5,au.a6,au.a7,au.a8,au.a9,au.blk,au.bQ,au.nQ,au.gF]:{x//x=yC 100 Tryz.f100}).1
def a8s:f100=yC 100 Tryz.f100:=by kernel_rfl
@[simp] theorem func100:prog.funcs[100]? =some f100:=by rw[a8s,at_,Tryz.func100];rfl
@[simp] def ntmps100:f100.ntmps=27:=rfl
noncomputable def f292:Func:=
 (by constructor;symm;simp[yC,textOf,Tryz.f292,never,a8c,Uj,Rw];exact rfl:{x//x=yC 292 Tryz.f292}).1
def a8t:f292=yC 292 Tryz.f292:=by kernel_rfl
@[simp] theorem func292:prog.funcs[292]? =some f292:=by rw[a8t,at_,Tryz.func292];rfl
@[simp] def ntmps292:f292.ntmps=14:=rfl
end Go.Proofs.ah
namespace Go.Proofs.ah
open Go.Proofs.Zb
variable{f:FuncId}{A:Func}{t:TypeId}
theorem _root_.Go.aqr{P Q:Prop}(k:Q)(h:Q->P:=by intro q;(try simp only[Exit.inBlock,Exit.then]);refine bodyPost_end (results_none rfl _ _ _) rfl ?_;exact q):P:=h k
abbrev _root_.Go.ah'(w a:World):Prop:=_root_.Go.RowKit.Below w.heap.size w a
abbrev _root_.Go.ai3(f:FuncId)(a:Array Value)(w:World)(K:Ending->World->Prop):Prop:=Calls prog f a w K
abbrev _root_.Go.ai9(f:FuncId)(a:Array Value)(w:World)(v:Value):Prop:=ai3 f a w λe b=>e=.returned v/\ah' w b
theorem _root_.Go.Calls.aH{p}{a}{w u}{E}{K}(h:Calls p f a w λe b=>e=E/\b=u)(k:K E u):Calls p f a w K:=h.mono λe b⟨x,y⟩=>by rw[x,y];exact k
theorem _root_.Go.Calls.ai{p}{a}{w}{E}{R:World->Prop}{K}(h:Calls p f a w λe b=>e=E/\R b)(k:∀b,R b->K E b):Calls p f a w K:=h.mono λe b⟨x,y⟩=>by rw[x];exact k b y
noncomputable local instance aej:Old:=⟨World.holding Tryz.prog default ⟨#[],#[],[]⟩,λ_=>false⟩
theorem a4X(h:(f==149||f==194||f==100||f==292||never.contains f)=false):yC f A=A:=by
 simp only[Bool.or_eq_false_iff,afW]at h;obtain⟨⟨⟨⟨g,e⟩,d⟩,a⟩,c⟩:=h;unfold yC
 have:A.body.map (textOf f)=A.body:=by
  cases A.body with
  |none=>rfl
  |some b=>
   show some (textOf f b)=some b;unfold textOf
   rw[afJ g,afJ e,afJ d,afJ (by rw[c];decide),afJ a]
 rw[this]
theorem a4Y(a:Tryz.prog.funcs[f]? =some A)(h:(f==149||f==194||f==100||f==292||never.contains f)=false):prog.funcs[f]? =some A:=by
 rw[at_,a]
 show some (yC f A)=some A
 rw[a4X h]
theorem Ml(b:prog.funcs[f]? =some A)(d:A.body.isNone=false)(a)(w):(callFunc f a).run prog w=.ok (.enter f a) w:=by
 obtain⟨_,_,_,_,c⟩:=heads.head f A b
 exact(yB b c d a w).1
theorem aek{i}(h:Tryz.prog.types[t]? =some i):prog.types[t]? =some i:=by rw[Ul];exact h
theorem qK{d}(h:Tryz.prog.underlying t=some d):prog.underlying t=some d:=(xh t).trans h
theorem a4Z{b}(h:Tryz.prog.stoodInHeld t=b):prog.stoodInHeld t=b:=by rw[<-h];exact(lG (P:=Tryz.prog) (Q:=prog) tables t).symm
@[simp] theorem rt_eq:type_of%((congrArg Tables.rt tables).symm.trans Tryz.rt_eq):=(congrArg Tables.rt tables).symm.trans Tryz.rt_eq
@[simp] theorem globals_size:type_of%((congrArg (λT:Tables=>T.globals.size) tables).symm.trans Tryz.globals_size):=(congrArg (λT:Tables=>T.globals.size) tables).symm.trans Tryz.globals_size
@[simp] theorem acp:prog.types.size=408:=types_size
@[simp] theorem inits_eq:type_of%((congrArg (λT:Tables=>T.inits) tables).symm.trans Tryz.inits_eq):=(congrArg (λT:Tables=>T.inits) tables).symm.trans Tryz.inits_eq
theorem Z6{b}(h:Tryz.prog.eqGuardType Tryz.prog.depth t=b):prog.eqGuardType prog.depth t=b:=by
 rw[<-zO (P:=Tryz.prog) (Q:=prog) tables,<-jr (P:=Tryz.prog) (Q:=prog) tables]
 exact h
abbrev CL(n:Nat):Prop:=∀(a:Array Value)(w:World),(callFunc n a).run prog w=.ok (.enter n a) w
theorem fq(h:Tryz.prog.funcs[f]? =some A)(a:(f==149||f==194||f==100||f==292||never.contains f)=false:=by rfl):prog.funcs[f]? =some A:=a4Y h a
theorem cq(h:Tryz.prog.funcs[f]? =some A)(b:(f==149||f==194||f==100||f==292||never.contains f)=false:=by rfl)(a:A.body.isNone=false:=by rfl):CL f:=Ml (a4Y h b) a
end Go.Proofs.ah
namespace Go.Proofs
open Tryz
open ah (CL fq cq Ml aek qK fM FU bT bq dw Z6 a4Z)
noncomputable local instance aqx:ah.Old:=ah.aej
@[simp] def Qf3:=fq func3
@[simp] def Qf4:=fq func4
@[simp] def Qf5:=fq func5
@[simp] def Qf6:=fq func6
@[simp] def Qf7:=fq func7
@[simp] def Qf8:=fq func8
@[simp] def Qf9:=fq func9
@[simp] def anA:=fq func10
@[simp] def ale:=fq func11
@[simp] def alb:=fq func12
@[simp] def alf:=fq func13
@[simp] def aje:=fq func14
@[simp] def alg:=fq func15
@[simp] def anB:=fq func16
@[simp] def ak5:=fq func19
@[simp] def anC:=fq func20
@[simp] def anD:=fq func25
@[simp] def anE:=fq func26
@[simp] def alh:=fq func27
@[simp] def ajf:=fq func28
@[simp] def ali:=fq func29
@[simp] def ajk:=fq func30
@[simp] def alj:=fq func31
@[simp] def ajg:=fq func32
@[simp] def alk:=fq func33
@[simp] def ajl:=fq func34
@[simp] def alm:=fq func35
@[simp] def ajh:=fq func36
@[simp] def aln:=fq func37
@[simp] def alc:=fq func38
@[simp] def alo:=fq func39
@[simp] def alp:=fq func40
@[simp] def alq:=fq func41
@[simp] def ak6:=fq func42
@[simp] def alr:=fq func43
@[simp] def als:=fq func44
@[simp] def alu:=fq func45
@[simp] def alv:=fq func46
@[simp] def aji:=fq func47
@[simp] def alx:=fq func48
@[simp] def anF:=fq func49
@[simp] def anG:=fq func50
@[simp] def anH:=fq func51
@[simp] def anI:=fq func52
@[simp] def anJ:=fq func57
@[simp] def aly:=fq func59
@[simp] def anK:=fq func60
@[simp] def alz:=fq func83
@[simp] def alA:=fq func84
@[simp] def ak7:=fq func85
@[simp] def anL:=fq func86
@[simp] def anM:=fq func87
@[simp] def alB:=fq func88
@[simp] def alC:=fq func89
@[simp] def alD:=fq func90
@[simp] def alE:=fq func91
@[simp] def anN:=fq func92
@[simp] def alF:=fq func93
@[simp] def alG:=fq func94
@[simp] def ald:=fq func95
@[simp] def alH:=fq func96
@[simp] def ak8:=fq func97
@[simp] def alI:=fq func98
@[simp] def alJ:=fq func99
def a5a:ah.f100.body.isNone=false:=by kernel_rfl
@[simp] def alK:=fq func101
@[simp] def aiP:=fq func102
@[simp] def anY:=fq func105
@[simp] def alL:=fq func106
@[simp] def alM:=fq func108
@[simp] def akd:=fq func109
@[simp] def anZ:=fq func110
@[simp] def aiU:=fq func112
@[simp] def alN:=fq func118
@[simp] def alO:=fq func124
@[simp] def alP:=fq func134
@[simp] def aiQ:=fq func137
@[simp] def ake:=fq func138
@[simp] def alQ:=fq func139
@[simp] def alR:=fq func140
@[simp] def akf:=fq func141
@[simp] def akg:=fq func142
@[simp] def akh:=fq func143
@[simp] def aki:=fq func144
@[simp] def aiR:=fq func145
@[simp] def ajm:=fq func146
@[simp] def alS:=fq func147
@[simp] def alT:=fq func148
def a5b:ah.f149.body.isNone=false:=by kernel_rfl
@[simp] def alU:=fq func150
@[simp] def aiL:=fq func151
@[simp] def alV:=fq func152
@[simp] def alW:=fq func153
@[simp] def akj:=fq func154
@[simp] def ajn:=fq func155
@[simp] def alX:=fq func156
@[simp] def aiM:=fq func157
@[simp] def alY:=fq func158
@[simp] def alZ:=fq func159
@[simp] def an':=fq func161
@[simp] def am0:=fq func162
@[simp] def akk:=fq func163
@[simp] def ao0:=fq func164
@[simp] def ao1:=fq func165
@[simp] def akl:=fq func166
@[simp] def aiG:=fq func167
@[simp] def ail:=fq func175
@[simp] def am1:=fq func189
@[simp] def ajo:=fq func190
@[simp] def am2:=fq func191
@[simp] def akm:=fq func192
@[simp] def akn:=fq func193
def a5c:ah.f194.body.isNone=false:=by kernel_rfl
@[simp] def am3:=fq func195
@[simp] def ako:=fq func196
@[simp] def akp:=fq func197
@[simp] def akq:=fq func198
@[simp] def akr:=fq func199
@[simp] def aks:=fq func200
@[simp] def aiI:=fq func201
@[simp] def akt:=fq func202
@[simp] def am4:=fq func203
@[simp] def aku:=fq func204
@[simp] def ajp:=fq func205
@[simp] def ajq:=fq func206
@[simp] def am5:=fq func207
@[simp] def am6:=fq func208
@[simp] def ajr:=fq func209
@[simp] def akv:=fq func210
@[simp] def am7:=fq func211
@[simp] def am8:=fq func212
@[simp] def am9:=fq func213
@[simp] def ama:=fq func214
@[simp] def akw:=fq func215
@[simp] def ajs:=fq func216
@[simp] def ajt:=fq func217
@[simp] def akx:=fq func218
@[simp] def amb:=fq func219
@[simp] def amc:=fq func220
@[simp] def aky:=fq func221
@[simp] def amd:=fq func222
@[simp] def ame:=fq func223
@[simp] def amf:=fq func236
@[simp] def amg:=fq func237
@[simp] def amh:=fq func238
@[simp] def aiV:=fq func239
@[simp] def aiW:=fq func240
@[simp] def akz:=fq func241
@[simp] def ami:=fq func242
@[simp] def akA:=fq func243
@[simp] def aju:=fq func244
@[simp] def ajv:=fq func245
@[simp] def amj:=fq func246
@[simp] def amk:=fq func247
@[simp] def aiX:=fq func248
@[simp] def aml:=fq func249
@[simp] def akB:=fq func250
@[simp] def amm:=fq func251
@[simp] def aiJ:=fq func252
@[simp] def ajw:=fq func253
@[simp] def akC:=fq func254
@[simp] def aiH:=fq func255
@[simp] def amn:=fq func263
@[simp] def amo:=fq func265
@[simp] def amq:=fq func266
@[simp] def amr:=fq func267
@[simp] def ams:=fq func268
@[simp] def amt:=fq func269
@[simp] def amu:=fq func270
@[simp] def amv:=fq func271
@[simp] def amw:=fq func272
@[simp] def amx:=fq func273
@[simp] def aiY:=fq func274
@[simp] def aiZ:=fq func275
@[simp] def aim:=fq func276
@[simp] def amy:=fq func277
@[simp] def ajx:=fq func278
@[simp] def akD:=fq func279
@[simp] def akE:=fq func280
@[simp] def akF:=fq func281
@[simp] def akG:=fq func282
@[simp] def amz:=fq func283
@[simp] def amA:=fq func284
@[simp] def amB:=fq func285
@[simp] def amC:=fq func286
@[simp] def amD:=fq func287
@[simp] def amE:=fq func288
@[simp] def amF:=fq func289
@[simp] def akI:=fq func290
@[simp] def akJ:=fq func291
def a5d:ah.f292.body.isNone=false:=by kernel_rfl
@[simp] def amG:=fq func293
@[simp] def ao2:=fq func300
@[simp] def ao3:=fq func301
@[simp] def amH:=fq func302
@[simp] def ajy:=fq func303
@[simp] def ajz:=fq func304
@[simp] def amI:=fq func305
@[simp] def amJ:=fq func306
@[simp] def amK:=fq func307
@[simp] def amL:=fq func308
@[simp] def akK:=fq func309
@[simp] def amM:=fq func310
@[simp] def amN:=fq func311
@[simp] def amO:=fq func312
@[simp] def akL:=fq func313
@[simp] def amP:=fq func314
@[simp] def ao4:=fq func318
@[simp] def ao5:=fq func319
@[simp] def amQ:=fq func320
@[simp] def akM:=fq func321
@[simp] def amR:=fq func322
@[simp] def amS:=fq func323
@[simp] def amT:=fq func324
@[simp] def amU:=fq func325
@[simp] def amV:=fq func326
@[simp] def amW:=fq func327
@[simp] def amX:=fq func328
@[simp] def amY:=fq func329
@[simp] def akN:=fq func330
@[simp] def amZ:=fq func331
@[simp] def am':=fq func338
@[simp] def an0:=fq func339
@[simp] def an1:=fq func340
@[simp] def an2:=fq func345
@[simp] def calls:CL 4/\CL 5/\CL 6/\CL 7/\CL 8/\CL 9/\CL 10/\CL 11/\CL 12/\CL 13/\CL 14/\CL 15/\CL 16/\CL 19/\CL 20/\CL 25/\CL 26/\CL 27/\CL 28/\CL 29/\CL 30/\CL 31/\CL 32/\CL 33/\CL 34/\CL 35/\CL 36/\CL 37/\CL 38/\CL 39/\CL 40/\CL 41/\CL 42/\CL 43/\CL 44/\CL 45/\CL 46/\CL 47/\CL 48/\CL 49/\CL 50/\CL 51/\CL 52/\CL 57/\CL 59/\CL 60/\CL 83/\CL 84/\CL 85/\CL 86/\CL 87/\CL 88/\CL 89/\CL 90/\CL 91/\CL 92/\CL 93/\CL 94/\CL 95/\CL 96/\CL 97/\CL 98/\CL 99/\CL 100/\CL 101/\CL 102/\CL 106/\CL 108/\CL 109/\CL 112/\CL 118/\CL 124/\CL 134/\CL 137/\CL 139/\CL 140/\CL 141/\CL 146/\CL 147/\CL 148/\CL 149/\CL 150/\CL 151/\CL 152/\CL 153/\CL 155/\CL 156/\CL 157/\CL 158/\CL 159/\CL 162/\CL 163/\CL 166/\CL 167/\CL 175/\CL 189/\CL 194/\CL 195/\CL 196/\CL 198/\CL 199/\CL 200/\CL 201/\CL 202/\CL 203/\CL 204/\CL 206/\CL 207/\CL 208/\CL 209/\CL 210/\CL 211/\CL 212/\CL 213/\CL 214/\CL 215/\CL 216/\CL 217/\CL 218/\CL 219/\CL 220/\CL 221/\CL 222/\CL 223/\CL 236/\CL 239/\CL 240/\CL 241/\CL 242/\CL 243/\CL 244/\CL 245/\CL 246/\CL 247/\CL 248/\CL 249/\CL 250/\CL 252/\CL 253/\CL 254/\CL 255/\CL 263/\CL 276/\CL 277/\CL 278/\CL 279/\CL 281/\CL 282/\CL 290/\CL 291/\CL 292/\CL 293/\CL 309/\CL 313/\CL 321:=⟨cq func4,cq func5,cq func6,cq func7,cq func8,cq func9,cq func10,cq func11,cq func12,cq func13,cq func14,cq func15,cq func16,cq func19,cq func20,cq func25,cq func26,cq func27,cq func28,cq func29,cq func30,cq func31,cq func32,cq func33,cq func34,cq func35,cq func36,cq func37,cq func38,cq func39,cq func40,cq func41,cq func42,cq func43,cq func44,cq func45,cq func46,cq func47,cq func48,cq func49,cq func50,cq func51,cq func52,cq func57,cq func59,cq func60,cq func83,cq func84,cq func85,cq func86,cq func87,cq func88,cq func89,cq func90,cq func91,cq func92,cq func93,cq func94,cq func95,cq func96,cq func97,cq func98,cq func99,Ml ah.func100 a5a,cq func101,cq func102,cq func106,cq func108,cq func109,cq func112,cq func118,cq func124,cq func134,cq func137,cq func139,cq func140,cq func141,cq func146,cq func147,cq func148,Ml ah.func149 a5b,cq func150,cq func151,cq func152,cq func153,cq func155,cq func156,cq func157,cq func158,cq func159,cq func162,cq func163,cq func166,cq func167,cq func175,cq func189,Ml ah.func194 a5c,cq func195,cq func196,cq func198,cq func199,cq func200,cq func201,cq func202,cq func203,cq func204,cq func206,cq func207,cq func208,cq func209,cq func210,cq func211,cq func212,cq func213,cq func214,cq func215,cq func216,cq func217,cq func218,cq func219,cq func220,cq func221,cq func222,cq func223,cq func236,cq func239,cq func240,cq func241,cq func242,cq func243,cq func244,cq func245,cq func246,cq func247,cq func248,cq func249,cq func250,cq func252,cq func253,cq func254,cq func255,cq func263,cq func276,cq func277,cq func278,cq func279,cq func281,cq func282,cq func290,cq func291,Ml ah.func292 a5d,cq func293,cq func309,cq func313,cq func321⟩
@[simp] def Qu0:=qK underlying0
@[simp] def Qz0:=bT typeInfo0 zeroValue0
@[simp] def Qs0:=bq typeInfo0 sizeOf0
@[simp] def Qa0:=dw runUnderlying0 isAgg0
@[simp] def Qu3:=qK underlying3
@[simp] def Qz3:=bT typeInfo3 zeroValue3
@[simp] def Qs3:=bq typeInfo3 sizeOf3
@[simp] def Qa3:=dw runUnderlying3 isAgg3
@[simp] def Qu4:=qK underlying4
@[simp] def Qz4:=bT typeInfo4 zeroValue4
@[simp] def Qs4:=bq typeInfo4 sizeOf4
@[simp] def Qa4:=dw runUnderlying4 isAgg4
@[simp] def Qu5:=qK underlying5
@[simp] def Qt5:=FU typeInfo5
@[simp] def Qz5:=bT typeInfo5 zeroValue5
@[simp] def Qs5:=bq typeInfo5 sizeOf5
@[simp] def Qa5:=dw runUnderlying5 isAgg5
@[simp] theorem Qu9:type_of%(qK underlying9):=qK underlying9
@[simp] def Qr9:=fM runUnderlying9
@[simp] def Qt9:=FU typeInfo9
@[simp] def Qz9:=bT typeInfo9 zeroValue9
@[simp] def Qs9:=bq typeInfo9 sizeOf9
@[simp] def Qa9:=dw runUnderlying9 isAgg9
@[simp] def an3:=qK underlying20
@[simp] def an4:=bT typeInfo20 zeroValue20
@[simp] def an5:=bq typeInfo20 sizeOf20
@[simp] def an6:=dw runUnderlying20 isAgg20
@[simp] def apm:=qK underlying22
@[simp] def an7:=qK underlying26
@[simp] def apn:=fM runUnderlying26
@[simp] def apo:=bq typeInfo26 sizeOf26
@[simp] def apq:=dw runUnderlying26 isAgg26
@[simp] def aiN:=qK underlying27
@[simp] def apr:=fM runUnderlying27
@[simp] def anO:=bT typeInfo27 zeroValue27
@[simp] def anP:=bq typeInfo27 sizeOf27
@[simp] def anQ:=dw runUnderlying27 isAgg27
@[simp] def aiO:=qK underlying28
@[simp] def aps:=fM runUnderlying28
@[simp] def ak9:=bT typeInfo28 zeroValue28
@[simp] def aka:=bq typeInfo28 sizeOf28
@[simp] def akb:=dw runUnderlying28 isAgg28
@[simp] def apt:=qK underlying29
@[simp] def apu:=bq typeInfo29 sizeOf29
@[simp] def apv:=dw runUnderlying29 isAgg29
@[simp] def anR:=qK underlying30
@[simp] def apw:=fM runUnderlying30
@[simp] def apx:=bq typeInfo30 sizeOf30
@[simp] def apy:=dw runUnderlying30 isAgg30
@[simp] def akc:=qK underlying31
@[simp] def apz:=fM runUnderlying31
@[simp] def apC:=bq typeInfo31 sizeOf31
@[simp] def apD:=dw runUnderlying31 isAgg31
@[simp] def anS:=qK underlying32
@[simp] def apG:=fM runUnderlying32
@[simp] def apH:=bq typeInfo32 sizeOf32
@[simp] def apI:=dw runUnderlying32 isAgg32
@[simp] def apJ:=qK underlying33
@[simp] def apK:=bq typeInfo33 sizeOf33
@[simp] def apL:=dw runUnderlying33 isAgg33
@[simp] def apN:=fM runUnderlying35
@[simp] def apO:=bq typeInfo35 sizeOf35
@[simp] def apP:=fM runUnderlying37
@[simp] def apQ:=bT typeInfo37 zeroValue37
@[simp] def apS:=fM runUnderlying39
@[simp] def apT:=bT typeInfo39 zeroValue39
@[simp] def apU:=bq typeInfo39 sizeOf39
@[simp] def apV:=dw runUnderlying39 isAgg39
@[simp] def apW:=qK underlying40
@[simp] def apX:=bq typeInfo40 sizeOf40
@[simp] def apY:=dw runUnderlying40 isAgg40
@[simp] def apZ:=qK underlying42
@[simp] def ap':=bq typeInfo42 sizeOf42
@[simp] def aq0:=dw runUnderlying42 isAgg42
@[simp] def aq1:=bT typeInfo44 zeroValue44
@[simp] def aq2:=bq typeInfo44 sizeOf44
@[simp] def aq3:=dw runUnderlying44 isAgg44
@[simp] def aq4:=bq typeInfo45 sizeOf45
@[simp] def aq5:=bq typeInfo46 sizeOf46
@[simp] def aq6:=fM runUnderlying48
@[simp] def aq7:=bT typeInfo48 zeroValue48
@[simp] def aq8:=qK underlying53
@[simp] def aq9:=bq typeInfo53 sizeOf53
@[simp] def aqa:=dw runUnderlying53 isAgg53
@[simp] def aqb:=fM runUnderlying56
@[simp] def aqc:=bT typeInfo56 zeroValue56
@[simp] def ajA:=qK underlying57
@[simp] def aqd:=fM runUnderlying57
@[simp] def aqe:=bq typeInfo57 sizeOf57
@[simp] def aqf:=dw runUnderlying57 isAgg57
@[simp] def aqg:=fM runUnderlying59
@[simp] def aqh:=bT typeInfo59 zeroValue59
@[simp] def aqi:=qK underlying80
@[simp] def aqj:=fM runUnderlying80
@[simp] def aqk:=FU typeInfo80
@[simp] def aql:=bT typeInfo80 zeroValue80
@[simp] def anT:=bq typeInfo80 sizeOf80
@[simp] def anU:=dw runUnderlying80 isAgg80
@[simp] def aqm:=Z6 eqGuardType80
@[simp] def aqn:=a4Z stoodInHeld80
@[simp] def ajj:=qK underlying84
@[simp] def anV:=bT typeInfo84 zeroValue84
@[simp] def anW:=bq typeInfo84 sizeOf84
@[simp] def anX:=dw runUnderlying84 isAgg84
@[simp] def aqo:=fM runUnderlying86
@[simp] def aqp:=bT typeInfo86 zeroValue86
@[simp] def akO:=qK underlying101
@[simp] def ao6:=fM runUnderlying101
@[simp] def ao7:=qK underlying104
@[simp] def ao8:=bq typeInfo104 sizeOf104
@[simp] def ao9:=qK underlying105
@[simp] def aoa:=bq typeInfo105 sizeOf105
@[simp] def aob:=fM runUnderlying107
@[simp] def aoc:=bT typeInfo107 zeroValue107
@[simp] def aod:=bq typeInfo107 sizeOf107
@[simp] def ai':=qK underlying113
@[simp] def aoe:=fM runUnderlying113
@[simp] def aof:=bT typeInfo113 zeroValue113
@[simp] def aog:=bq typeInfo113 sizeOf113
@[simp] def aoh:=dw runUnderlying113 isAgg113
@[simp] def aiS:=qK underlying114
@[simp] def aoi:=fM runUnderlying114
@[simp] def aoj:=bq typeInfo114 sizeOf114
@[simp] def aok:=dw runUnderlying114 isAgg114
@[simp] def aol:=fM runUnderlying127
@[simp] def aom:=bT typeInfo127 zeroValue127
@[simp] def aon:=bq typeInfo127 sizeOf127
@[simp] def aoo:=dw runUnderlying127 isAgg127
@[simp] def aop:=qK underlying131
@[simp] def aoq:=fM runUnderlying131
@[simp] def aor:=bT typeInfo131 zeroValue131
@[simp] def aos:=bq typeInfo131 sizeOf131
@[simp] def aot:=dw runUnderlying131 isAgg131
@[simp] def aou:=Z6 eqGuardType131
@[simp] def aov:=a4Z stoodInHeld131
@[simp] def aj0:=qK underlying143
@[simp] def aj1:=bT typeInfo143 zeroValue143
@[simp] def aj2:=bq typeInfo143 sizeOf143
@[simp] def aj3:=dw runUnderlying143 isAgg143
@[simp] def aiK:=qK underlying144
@[simp] def aow:=fM runUnderlying144
@[simp] def ajB:=bT typeInfo144 zeroValue144
@[simp] def ajC:=bq typeInfo144 sizeOf144
@[simp] def ajD:=dw runUnderlying144 isAgg144
@[simp] def akP:=qK underlying145
@[simp] def akQ:=bT typeInfo145 zeroValue145
@[simp] def akS:=bq typeInfo145 sizeOf145
@[simp] def akT:=dw runUnderlying145 isAgg145
@[simp] def aiT:=qK underlying150
@[simp] def aox:=bq typeInfo150 sizeOf150
@[simp] def aoy:=dw runUnderlying150 isAgg150
@[simp] def aoz:=fM runUnderlying152
@[simp] def aoA:=bT typeInfo152 zeroValue152
@[simp] def aoB:=bq typeInfo152 sizeOf152
@[simp] def aoC:=dw runUnderlying152 isAgg152
@[simp] def aoD:=qK underlying153
@[simp] def aoE:=bq typeInfo153 sizeOf153
@[simp] def aoF:=fM runUnderlying155
@[simp] def aoG:=bT typeInfo155 zeroValue155
@[simp] def aoH:=bq typeInfo155 sizeOf155
@[simp] def aoI:=dw runUnderlying155 isAgg155
@[simp] def aj4:=qK underlying161
@[simp] def aoJ:=fM runUnderlying161
@[simp] def aoK:=fM runUnderlying167
@[simp] def aoL:=bT typeInfo167 zeroValue167
@[simp] def aoM:=bq typeInfo167 sizeOf167
@[simp] def aoN:=dw runUnderlying167 isAgg167
@[simp] def aoO:=fM runUnderlying195
@[simp] def aoP:=bT typeInfo195 zeroValue195
@[simp] def aoQ:=bq typeInfo195 sizeOf195
@[simp] def aoR:=dw runUnderlying195 isAgg195
@[simp] def aoS:=bq typeInfo198 sizeOf198
@[simp] def aoT:=dw runUnderlying198 isAgg198
@[simp] def an8:=qK underlying202
@[simp] def an9:=bT typeInfo202 zeroValue202
@[simp] def ana:=bq typeInfo202 sizeOf202
@[simp] def anb:=dw runUnderlying202 isAgg202
@[simp] def akU:=qK underlying203
@[simp] def akV:=bT typeInfo203 zeroValue203
@[simp] def akX:=bq typeInfo203 sizeOf203
@[simp] def akY:=dw runUnderlying203 isAgg203
@[simp] def aoU:=fM runUnderlying205
@[simp] def anc:=qK underlying213
@[simp] def ane:=bT typeInfo213 zeroValue213
@[simp] def anf:=bq typeInfo213 sizeOf213
@[simp] def ang:=dw runUnderlying213 isAgg213
@[simp] def aoV:=fM runUnderlying218
@[simp] def aoW:=bT typeInfo218 zeroValue218
@[simp] def aoX:=bq typeInfo218 sizeOf218
@[simp] def aoY:=dw runUnderlying218 isAgg218
@[simp] def aj5:=qK underlying226
@[simp] def aoZ:=fM runUnderlying226
@[simp] def anh:=bT typeInfo226 zeroValue226
@[simp] def ani:=bq typeInfo226 sizeOf226
@[simp] def anj:=dw runUnderlying226 isAgg226
@[simp] def ajE:=qK underlying246
@[simp] def ajF:=bT typeInfo246 zeroValue246
@[simp] def ajG:=bq typeInfo246 sizeOf246
@[simp] def ajH:=dw runUnderlying246 isAgg246
@[simp] def ank:=qK underlying249
@[simp] def ao':=bT typeInfo249 zeroValue249
@[simp] def ap0:=bq typeInfo249 sizeOf249
@[simp] def ap1:=dw runUnderlying249 isAgg249
@[simp] def ap2:=qK underlying265
@[simp] def ap3:=bq typeInfo265 sizeOf265
@[simp] def ap4:=qK underlying266
@[simp] def ap5:=bq typeInfo266 sizeOf266
@[simp] def ap6:=qK underlying267
@[simp] def ap7:=bT typeInfo267 zeroValue267
@[simp] def ap8:=bq typeInfo267 sizeOf267
@[simp] def ap9:=fM runUnderlying269
@[simp] def apa:=bT typeInfo269 zeroValue269
@[simp] def apb:=fM runUnderlying273
@[simp] def apc:=bT typeInfo273 zeroValue273
@[simp] def anl:=bq typeInfo273 sizeOf273
@[simp] def anm:=dw runUnderlying273 isAgg273
@[simp] def ann:=qK underlying279
@[simp] def ano:=bT typeInfo279 zeroValue279
@[simp] def anp:=bq typeInfo279 sizeOf279
@[simp] def anq:=dw runUnderlying279 isAgg279
@[simp] def akZ:=qK underlying308
@[simp] def anr:=bT typeInfo308 zeroValue308
@[simp] def ant:=bq typeInfo308 sizeOf308
@[simp] def anu:=dw runUnderlying308 isAgg308
@[simp] def ajI:=qK underlying310
@[simp] def ajJ:=bT typeInfo310 zeroValue310
@[simp] def ajK:=bq typeInfo310 sizeOf310
@[simp] def ajL:=dw runUnderlying310 isAgg310
@[simp] def ajM:=qK underlying311
@[simp] def ajN:=bT typeInfo311 zeroValue311
@[simp] def ajO:=bq typeInfo311 sizeOf311
@[simp] def ajP:=dw runUnderlying311 isAgg311
@[simp] def aj6:=qK underlying317
@[simp] def aj7:=bT typeInfo317 zeroValue317
@[simp] def aj8:=bq typeInfo317 sizeOf317
@[simp] def aj9:=dw runUnderlying317 isAgg317
@[simp] def aja:=qK underlying319
@[simp] def ajb:=bT typeInfo319 zeroValue319
@[simp] def ajc:=bq typeInfo319 sizeOf319
@[simp] def ajd:=dw runUnderlying319 isAgg319
@[simp] def anv:=qK underlying323
@[simp] def anw:=bT typeInfo323 zeroValue323
@[simp] def anx:=bq typeInfo323 sizeOf323
@[simp] def anz:=dw runUnderlying323 isAgg323
@[simp] def ak':=qK underlying329
@[simp] def al0:=bT typeInfo329 zeroValue329
@[simp] def al1:=bq typeInfo329 sizeOf329
@[simp] def al2:=dw runUnderlying329 isAgg329
@[simp] def al3:=qK underlying331
@[simp] def apd:=fM runUnderlying331
@[simp] def al4:=bT typeInfo331 zeroValue331
@[simp] def al5:=bq typeInfo331 sizeOf331
@[simp] def al6:=dw runUnderlying331 isAgg331
@[simp] def ajQ:=qK underlying340
@[simp] def ajR:=bT typeInfo340 zeroValue340
@[simp] def ajS:=bq typeInfo340 sizeOf340
@[simp] def ajT:=dw runUnderlying340 isAgg340
@[simp] def ajU:=qK underlying344
@[simp] def ajV:=bT typeInfo344 zeroValue344
@[simp] def ajW:=bq typeInfo344 sizeOf344
@[simp] def ajX:=dw runUnderlying344 isAgg344
@[simp] def ape:=qK underlying355
@[simp] def apf:=bT typeInfo355 zeroValue355
@[simp] def apg:=bq typeInfo355 sizeOf355
@[simp] def aph:=dw runUnderlying355 isAgg355
@[simp] def api:=qK underlying357
@[simp] def apj:=bT typeInfo357 zeroValue357
@[simp] def apk:=bq typeInfo357 sizeOf357
@[simp] def apl:=dw runUnderlying357 isAgg357
@[simp] def ajY:=qK underlying359
@[simp] def ajZ:=bT typeInfo359 zeroValue359
@[simp] def aj':=bq typeInfo359 sizeOf359
@[simp] def ak0:=dw runUnderlying359 isAgg359
@[simp] def ak1:=qK underlying360
@[simp] def ak2:=bT typeInfo360 zeroValue360
@[simp] def ak3:=bq typeInfo360 sizeOf360
@[simp] def ak4:=dw runUnderlying360 isAgg360
@[simp] def al7:=qK underlying368
@[simp] def al8:=bT typeInfo368 zeroValue368
@[simp] def al9:=bq typeInfo368 sizeOf368
@[simp] def ala:=dw runUnderlying368 isAgg368
noncomputable abbrev ah.zeroCells267:=Tryz.zeroCells267
noncomputable abbrev ah.zeroCells269:=Tryz.zeroCells269
end Go.Proofs
namespace Go.Proofs.Zq
open Go.RowKit
variable{S:Nat->Prop}{a b w w':World}{c v:Value}{p:Addr}{size n:Nat}{A:List Value}
namespace Rl
structure dJ(S:Nat->Prop)(w w':World):Prop where
 os:w'.os=w.os
 tape:w'.tape=w.tape
 output:w'.output=w.output
 size:w.heap.size<=w'.heap.size
 block:∀k,k<w.heap.size->¬S k->w'.heap[k]? =w.heap[k]?
theorem dJ.refl(S)(w):dJ S w w:=⟨rfl,rfl,rfl,afA _,λ_ _ _=>rfl⟩
theorem dJ.trans{S S'}{a b c}(h:dJ S a b)(k:dJ S' b c)(j:∀i,S' i->S i\/a.heap.size<=i):dJ S a c:=
 ⟨k.os.trans h.os,k.tape.trans h.tape,k.output.trans h.output,afC h.size k.size,λi f e=>(k.block i (afB f h.size) (λd=>by obtain x|x:=j i d;exact e x;omega)).trans (h.block i f e)⟩
theorem dJ.mono{S'}(h:dJ S a b)(e:∀i,S i->S' i):dJ S' a b:=
 ⟨h.os,h.tape,h.output,h.size,λi f d=>h.block i f (λx=>d (e i x))⟩
theorem dJ.aK(h:ah' a b):dJ S a b:=⟨h.os,h.tape,h.output,h.size,λk d _=>h.block k d⟩
theorem dJ.below{c}(h:dJ S a b)(k:ah' b c):dJ S a c:=h.trans (dJ.aK (S:=λ_=>False) k) (λ_ x=>x.elim)
theorem dJ.drew{S}{a b}(h:dJ S a b):dJ S a b.drew:=h.below (Below.refl _ _).drew
theorem dJ.alloc{S}{a b}(h:dJ S a b)(o):dJ S a (b.alloc o):=h.below ((Below.refl _ _).alloc (afA _) _)
theorem fH(u)(f:S p.block):dJ S w (w.setCell p u):=
 ⟨rfl,rfl,rfl,by simp[World.setCell],λk _ d=>Below.heap_setCell _ _ _ _ (λe=>d (by grind))⟩
theorem dJ.set(h:dJ S a b)(u)(f:S p.block\/a.heap.size<=p.block):dJ S a (b.setCell p u):=
 h.trans (fH (S:=λk=>k=p.block) u rfl) (λi e=>by subst e;exact f)
theorem dJ.grown{c}{d}(h:dJ S a b)(f:b.grownBy c d)(g:∀k,d=some k->S k\/a.heap.size<=k):dJ S a c:=
 h.trans (S':=λk=>d=some k) ⟨f.os,f.tape,f.output,f.size,λk j i=>f.block k j (λe=>i e.symm)⟩ g
theorem dJ.cell(h:dJ S a b)(d:p.block<a.heap.size)(e:¬S p.block):b.cell? p=a.cell? p:=World.cell?_of_block (h.block _ d e)
theorem dJ.frozen(h:dJ S a b)(d:p.block<a.heap.size)(e:¬S p.block):b.frozen? p=a.frozen? p:=World.frozen?_of_block (h.block _ d e)
theorem dJ.owns(h:dJ S a b){d}{e}(o:a.ownsRow d e size v n A)(r:∀k,v.ownBlock=some k->¬S k):b.ownsRow d e size v n A:=by
 refine⟨o.1,?_⟩;obtain q|⟨g,m,l,rfl,j,i,f⟩:=o.2
 ·grind
 ·refine .inr ⟨g,m,l,rfl,j,?_,f⟩
  rw[h.block g (afD.1 i).1 (r g rfl)]
  exact i
structure G7(w:World)(n:Nat)(a b c:Value):Prop where
 c0:w.cell? ⟨n,0,none⟩=some a
 c1:w.cell? ⟨n,1,none⟩=some b
 c2:w.cell? ⟨n,2,none⟩=some c
 f0:w.frozen? ⟨n,0,none⟩=false
 f1:w.frozen? ⟨n,1,none⟩=false
 f2:w.frozen? ⟨n,2,none⟩=false
 lt:n<w.heap.size
theorem mD(w:World)(a b c)(T):G7 (w.alloc (.cells #[a,b,c] T)) w.heap.size a b c:=
 ⟨by simp,by simp,by simp,by simp,by simp,by simp,by simp⟩
theorem G7.same{a b}(h:G7 w n a b c)(d:w'.heap[n]? =w.heap[n]?)(e:w.heap.size<=w'.heap.size):G7 w' n a b c:=
 ⟨(World.cell?_of_block (a:=⟨n,0,none⟩) d).trans h.c0,(World.cell?_of_block (a:=⟨n,1,none⟩) d).trans h.c1,(World.cell?_of_block (a:=⟨n,2,none⟩) d).trans h.c2,(World.frozen?_of_block (a:=⟨n,0,none⟩) d).trans h.f0,(World.frozen?_of_block (a:=⟨n,1,none⟩) d).trans h.f1,(World.frozen?_of_block (a:=⟨n,2,none⟩) d).trans h.f2,afB h.lt e⟩
theorem G7.touch{a b}(h:G7 w n a b c)(d:dJ S w w')(e:¬S n):G7 w' n a b c:=h.same (d.block n h.lt e) d.size
theorem G7.later{a b}(h:G7 w n a b c)(d:ah' w w'):G7 w' n a b c:=h.same (d.block n h.lt) d.size
theorem bB(w:World)(n i j)(v)(h:i≠j):(w.setCell ⟨n,i,none⟩ v).cell? ⟨n,j,none⟩=w.cell? ⟨n,j,none⟩:=World.cell?_setCell_other _ _ _ _ (λe=>by injection e with _ e;exact h e)
theorem G7.set1{a b}(h:G7 w n a b c)(u):G7 (w.setCell ⟨n,1,none⟩ u) n a u c:=by
 obtain⟨g,f,e,k,j,i,d⟩:=h
 exact⟨by rw[bB _ _ _ _ _ (by omega)];exact g,World.cell?_setCell_same _ _ _ f,by rw[bB _ _ _ _ _ (by omega)];exact e,by simp[k],by simp[j],by simp[i],by simpa using d⟩
theorem G7.set2{a b}(h:G7 w n a b c)(u):G7 (w.setCell ⟨n,2,none⟩ u) n a b u:=by
 obtain⟨g,f,e,k,j,i,d⟩:=h
 exact⟨by rw[bB _ _ _ _ _ (by omega)];exact g,by rw[bB _ _ _ _ _ (by omega)];exact f,World.cell?_setCell_same _ _ _ e,by simp[k],by simp[j],by simp[i],by simpa using d⟩
theorem a5e{a b:ByteArray}(h:a≠b):(a.toList==b.toList)=false:=by grind[Lib.toList_data,ByteArray.ext,ahd]
theorem ay{d}{e}(h:w.ownsRow d e size v n A):∃a c,v=.slice a n c:=by
 obtain⟨rfl,rfl⟩|⟨g,i,f,rfl,_⟩:=h.2
 ·simp
 simp
structure bK(w:World)(S:Nat->Prop)(p:Nat)(fv:Value)(m:az):Prop where
 box:G7 w p (.int .i64 m.room) fv (.int .i64 m.left)
 row:w.ownsRow 0 127 3 fv m.files.length (dO m.files)
 own:S p
 far:∀k,fv.ownBlock=some k->S k/\k≠p
 lt:∀k,S k->k<w.heap.size
theorem bK.touch{w w'}{S T}{p}{g}{m}(h:bK w S p g m)(d:dJ T w w')(f:∀k,S k->¬T k):bK w' S p g m:=
 ⟨h.box.touch d (f p h.own),d.owns h.row (λk e=>f k (h.far k e).1),h.own,h.far,λk e=>afB (h.lt k e) d.size⟩
theorem bK.later{p}{d}{m}(h:bK w S p d m)(e:ah' w w'):bK w' S p d m:=h.touch (dJ.aK (S:=λ_=>False) e) (λ_ _ x=>x)
theorem bK.yI{p}{f}{m}(h:bK w S p f m)(n):bK (w.setCell ⟨p,2,none⟩ (.int .i64 n)) S p f {m with left:=n}:=
 ⟨h.box.set2 _,(fH (S:=λk=>k=p) (p:=⟨p,2,none⟩) (.int .i64 n) rfl).owns h.row (λk d e=>(h.far k d).2 e),h.own,h.far,λk d=>by simpa using h.lt k d⟩
end Rl
def ints(l:List Int):List Value:=l.map (Value.int .i64)
open Rl
theorem iQ(h:bz w v n size A)(f:dJ S w w')(i:∀k,v.ownBlock=some k->¬S k):bz w' v n size A:=by
 refine⟨h.1,?_⟩;obtain x|⟨b,o,d,e,l,g,q⟩:=h.2
 ·exact .inl x
 ·refine .inr ⟨b,o,d,e,l,afB g f.size,λj u m=> ?_⟩
  subst e
  exact(f.cell (p:=_) g (i b rfl)).trans (q j u m)
theorem G8(h:bz w v n size A)(f:dJ S w w')(g:n≠0->∀k,v.ownBlock=some k->¬S k):bz w' v n size A:=by
 by_cases j:n=0
 ·refine⟨h.1,?_⟩
  obtain x|⟨b,o,d,e,i,_⟩:=h.2<;>grind
 grind[iQ]
theorem Mm(l)(j)(h:j<l.length):(ints l)[j*1]? =some (.int .i64 l[j]):=by simp[ints,afP h]
end Go.Proofs.Zq
namespace Go
def ahB:= @Go.World.cell?_setCell_other
theorem aex:type_of% @Go.World.cell?_setCell_same:= @Go.World.cell?_setCell_same
theorem ahK:type_of% @Go.World.putObj_heap_other:= @Go.World.putObj_heap_other
def ahJ:= @Go.World.frozen?_of_block
def ahU:= @Go.run_convert_bytes_back
theorem ahz:type_of% @Go.World.cell?_of_block:= @Go.World.cell?_of_block
def ahS:= @Go.World.alloc_heap_new
def ahI:= @Go.Calls.quiet_of_same
def ahY:= @Go.World.grownBy_alloc
def a9X:= @Go.World.ownsRow_nil
def af4:= @Go.wpList_append_own
def ahR:= @Go.Value.slice.injEq
theorem ahL:type_of% @Go.RowKit.Below.heap_alloc:= @Go.RowKit.Below.heap_alloc
def ahO:= @Go.Proofs.grownBy_putObj_a
theorem ahN:type_of% @Go.Lib.toList_data:= @Go.Lib.toList_data
def ahQ:= @Go.Exit.noGoto_ret
def ahF:= @Go.wp_loop_rounds
def ahM:= @Go.AllReadyH.cons
def ai0:= @Go.growslice_fits
def ai1:= @Go.DataW.trod_int
def abt:= @Go.bodyPost_ret
def ahA:= @Go.results_none
def ahT:= @Go.wpAnyH_ready
def ahD:= @Go.bodyPost_end
def ahW:= @Go.Proofs.ownsRow_ne_a
def ahZ:= @Go.callsIn_wide
def ahE:= @Go.wpAnyH_take
def ahG:= @Go.rounds_succ
def ahH:= @Go.below_drewN
def a0n:= @Go.RowKit.Below.refl
def ahC:= @Go.info_parts
def ahV:= @Go.Calls.mono
def ahP:= @Go.Proofs.enters_of
end Go
