import Derived.KernelRfl
import Derived.Test.YtkdjjnkpfpogkaaGreatDoorChecked
import Derived.Test.YtkdjjnkpfpogkaaGreatDoorK16
set_option maxHeartbeats 8000000
set_option linter.all false
namespace Go.Proofs.ah
open Go.Proofs.Zb
variable{f:Nat}
def a4K:List Nat:=[138,142,143,144,145,154,190,193,197,205,280]
def A1:List Nat:=[97,98,138,139,140,142,143,144,145,146,147,148,150,151,154,159,162,163,189,190,191,192,193,195,196,197,198,199,200,201,202,205,206,207,215,216,217,218,219,220,221,222,236,237,238,239,240,241,242,243,244,245,246,247,248,251,253,254,255,263,265,266,267,268,269,270,271,272,273,274,275,276,277,278,279,280,281,290,291,292,293,302,303,304,305,306,307,308,309,313,314,320,321,322,323,324,325,326,327,328,330,331,338,339,340,345]
def A0:List Nat:=[3,4,5,6,7,8,9,10,11,12,13,14,15,16,17,18,19,20,21,22,23,24,25,26,27,28,29,30,31,32,33,34,35,36,37,38,39,40,41,42,43,44,45,46,47,48,49,50,51,52,53,54,55,56,57,58,59,60,61,62,63,64,65,66,67,68,69,70,71,72,73,74,75,76,77,78,79,80,81,82,83,84,85,86,87,88,89,90,91,92,93,94,95,96,97,98,99,100,101,102,103,104,105,106,107,108,109,110,111,112,113,114,115,116,117,118,119,120,121,122,123,124,125,126,127,128,129,130,131,132,133,134,135,136,137,138,139,140,141,142,143,144,145,146,147,148,150,151,152,153,154,155,156,157,158,159,160,161,162,163,164,165,166,167,169,170,171,172,173,174,175,176,177,178,179,180,181,182,183,184,185,186,187,188,189,190,191,192,193,195,196,197,198,199,200,201,202,203,204,205,206,207,208,209,210,211,212,213,214,215,216,217,218,219,220,221,222,223,224,225,226,227,228,229,230,231,232,233,234,235,236,237,238,239,240,241,242,243,244,245,246,247,248,249,250,251,252,253,254,255,256,257,258,259,260,261,262,263,265,266,267,268,269,270,271,272,273,274,275,276,277,278,279,280,281,282,283,284,285,286,287,288,289,290,291,292,293,294,295,296,297,298,299,300,301,302,303,304,305,306,307,308,309,310,311,312,313,314,315,316,317,318,319,320,321,322,323,324,325,326,327,328,329,330,331,332,333,334,335,336,337,338,339,340,343,344,345,346,347]
def never:List Nat:=[111,179,233,295,296,335,346,347]
def nums:au:={uQ:=100,wZ:=149,qX:=194,xJ:=150,a9E:=97,a9F:=195,abS:=151,kW:=53,iY:=28,xc:=205,eG:=249,Oy:=9,qm:=131,a4q:=92,aab:=62,a4r:=128,Pn:=101,qN:=3,qU:=4,l9:=155}
def unknown:List Nat:=[348,349,350,351,352,353,354,355,356,357,358,359,361,362,385]
theorem XD:(a4K.all λf=> !unknown.contains f)=true:=by decide
class Old where
 old:World
 seen:Nat->Bool
instance adt[Old]:Special:={old:=Old.old,seen:=Old.seen,val:=λf=>a4K.contains f,sp:=a9I nums,known:=λf=> !unknown.contains f,Eo:=λf h=>(agE.1 XD) f (by simpa using h)}
def textOf(f:FuncId)(b:Code):Code:=
 if f=149 then nums.yz au.bN au.goQ else if f=194 then(Code.region 0 (au.c0 nums) false).seq (nums.dY (au.Ak nums))else if f=100 then nums.FQ (au.ZM nums)
 else if never.contains f then .refuse "never carried out" else if f=292 then a8c 3 b else b
def yC(f:FuncId)(a:Func):Func:={a with body:=a.body.map (textOf f)}
def turned(i:Nat):List Func->List Func|[]=>[]|x::l=>yC i x::turned (i+1) l
noncomputable def funcs:Array Func:=(turned 0 Tryz.prog.funcs.toList).toArray
noncomputable def prog:Program:={toTables:=Tryz.progTables,funcs:=funcs}
theorem PL:∀l i k,(turned i l)[k]? =(l[k]?).map (yC (i+k))
 |[],_,_=>by simp[turned]
 |x::l,i,0=>by simp[turned]
 |x::l,i,k+1=>by
  show(turned (i+1) l)[k]? =(l[k]?).map (yC (i+(k+1)))
  rw[PL l (i+1) k,show i+1+k=i+(k+1) by omega]
theorem a4L:funcs.toList=turned 0 Tryz.prog.funcs.toList:=rfl
theorem at_(f):prog.funcs[f]? =(Tryz.prog.funcs[f]?).map (yC f):=by
 have h:=PL Tryz.prog.funcs.toList 0 f
 rw[<-a4L,agj,ah3,ah3]at h
 exact h
theorem tables:Tryz.prog.toTables=prog.toTables:=rfl
section
variable[Old]
def xe:Scope:=B0 A0 A1 100
def xg:Scope:=BW A1
noncomputable def ZY(a:Scope)(f:FuncId):Bool:=match Tryz.prog.funcs[f]? with
 |none=>false
 |some c=>match c.body with
  |none=>true
  |some b=>iX prog a b
noncomputable def ZZ(a:Scope)(f:FuncId):Bool:=match Tryz.prog.funcs[f]? with
 |none=>false
 |some c=>match c.body with
  |none=>true
  |some b=>a1j prog a b
theorem aaw:(A0.all λf=>never.contains f||f==100||(if f==292 then ZZ xe f else ZY xe f))=true:=by kernel_rfl
theorem aax:(A1.all λf=>if f==292 then ZZ xg f else ZY xg f)=true:=by kernel_rfl
theorem aay:(A1.all λf=>A0.contains f&&f != 100&&f != 149&&f != 194&& !never.contains f)=true:=by kernel_rfl
theorem aaz:(A0.all λf=>f != 149&&f != 194)=true:=by kernel_rfl
theorem vals:(a4K.all λf=>A1.contains f)=true:=by kernel_rfl
end
section
variable[Old]
theorem mem_of{l:List Nat}{p}(h:l.all p=true)(a:l.contains f=true):p f=true:=by grind
theorem aef{k}(h:xe.may f k=true):A0.contains f=true:=by simp only[xe,B0,Scope.may,afQ]at h;exact h.1.1
theorem ach{k}(h:xg.may f k=true):A1.contains f=true:=by simp only[xg,BW,Scope.may,afQ]at h;exact h.1.1
theorem XE(h:A1.contains f=true):A0.contains f=true/\f≠100/\f≠149/\f≠194/\never.contains f=false:=by
 have:=mem_of aay h
 grind
theorem aaA(h:A0.contains f=true):f≠149/\f≠194:=by
 have:=mem_of aaz h
 grind
theorem a4M(o)(h:opB prog xg o=true):opB prog xe o=true:=by
 have d:gH xe=gH xg:=by
  funext x
  cases x<;>rfl
 unfold opB at h |-
 rw[d]
 simp only[afQ]at h |-;refine⟨h.1,?_⟩;obtain⟨_,h⟩:=h
 split at h<;>try exact h
 rename_i c _;simp only[afQ]at h |-;refine⟨?_,h.2⟩;have b:=h.1;unfold ZI at b |-
 rw[d]
 simp only[afQ]at b |-;refine⟨b.1,?_⟩;have a:=b.2
 split at a
 ·rename_i f _
  obtain⟨j,i,_⟩:=XE (ach a)
  have g:Special.known f=true:=by simp only[xg,BW,Scope.may,afQ]at a;exact a.2
  simp only[xe,B0,Scope.may,afQ,j,true_and,g,and_true];simp;exact .inl λe=>i e
 ·exact a
 ·omega
 ·rfl
theorem a1k(i):iX prog xg i=true->iX prog xe i=true:=by
 have m:gH xe=gH xg:=by
  funext x
  cases x<;>rfl
 have l:xe.inner=xg.inner:=rfl;induction i with
 |region id j d=>
  intro h;simp only[iX,a0K,afR,afQ]at h |-;exact λo k=>⟨a4M o (h o k).1,by cases o.dst<;>rfl⟩
 |seq a b e c=>simp_all[iX,afQ]
 |cond x a b e c=>simp_all[iX,afQ]
 |block id b g=>intro h;exact g h
 |loop b g=>intro h;exact g h
 |scope b g=>intro h;exact g h
 |rangeFunc f id a b e c=>intro h;simp only[iX,afQ,m,l]at h |-;exact h
 |_=>intro h;exact h
theorem aci:Tryz.prog.underlying 3=some (.int .i64):=by kernel_rfl
theorem aeg:prog.underlying 3=some (.int .i64):=(dP tables 3).symm.trans aci
theorem acj:Dead prog (elemOf 3):=by
 have h:∀w,(elemOf 3).run prog w=.halt (.stuck "pointer type expected") w:=λw=>by unfold elemOf Go.underlying;simp only[Sem.run_bind,run_program,Result.andThen_ok,aeg];rfl
 exact af'
theorem PM{e}{f}(m:f≠149)(l:f≠194)(k:f≠100)(i:e.live=none)(h:never.contains f=true\/(if f=292 then ZZ e f else ZY e f)=true):xI prog Tryz.prog e f:=by
 have c:=at_ f;refine⟨?_,?_⟩
 ·rw[c];cases Tryz.prog.funcs[f]? <;>rfl
 ·rw[c]
  cases j:Tryz.prog.funcs[f]? with
  |none=>simp
  |some n=>
   cases d:n.body with
   |none=>simp_all[yC]
   |some b=>
    refine .inr ⟨textOf f b,b,by simp[yC,d],by simp[d],?_⟩;unfold textOf
    rw[afJ m,afJ l,afJ k]
    by_cases g:never.contains f=true
    ·rw[afN g]
     refine .sp _ _ ?_
     rw[i]
     exact⟨_,rfl⟩
    ·rw[afJ g]
     obtain h|h:=h
     ·grind
     ·by_cases a:f=292
      ·rw[afN a]
       rw[afN a]at h
       unfold ZZ at h;simp only[j,d]at h;exact acg i acj _ h
      ·rw[afJ a]
       rw[afJ a]at h
       unfold ZY at h;simp only[j,d]at h;exact .same _ h
theorem text0(f)(k)(h:(B0 A0 A1 100).may f k=true)(b:f≠100):xI prog Tryz.prog (B0 A0 A1 100) f:=by
 have c:=aef h;obtain⟨e,d⟩:=aaA c;have a:=mem_of aaw c;simp only[Bool.or_eq_true,agx]at a;refine PM e d b rfl ?_;obtain (a|a)|a:=a
 ·grind
 ·grind
 ·exact .inr a
theorem text1(f)(k)(h:(BW A1).may f k=true):xI prog Tryz.prog (BW A1) f:=by have a:=ach h;obtain⟨_,b,d,c,_⟩:=XE a;exact PM d c b rfl (.inr (by have:=mem_of aax a;simp only[agx]at this;exact this))
theorem Xn(f)(h:Special.val f=true)(k):(BW A1).may f k=true:=by have:=mem_of vals (show a4K.contains f=true from h);simp only[BW,Scope.may,this,Special.Eo f h,Bool.and_self]
theorem a7R(f)(h:Special.val f=true)(k):(B0 A0 A1 100).may f k=true:=by have:=mem_of vals (show a4K.contains f=true from h);obtain⟨b,a,_⟩:=XE this;simp only[B0,Scope.may,b,agQ,Special.Eo f h,Bool.and_true];simp[a]
theorem res(f:FuncId):(Tryz.prog.funcs[f]?).map (·.results)=(prog.funcs[f]?).map (·.results):=by rw[at_];cases Tryz.prog.funcs[f]? <;>rfl
theorem wh:Tryz.f149.body=some (nums.yz 0 au.goP):=by kernel_rfl
theorem Dh:Tryz.f194.body=some ((Code.region 0 (au.c0 nums) false).seq (nums.dY (au.c9 nums))):=by kernel_rfl
theorem atT:Tryz.f100.body=some (nums.FQ (au.a2 nums)):=by kernel_rfl
theorem ack:prog.funcs[149]? =some {Tryz.f149 with body:=some (nums.yz au.bN au.goQ)}:=by
 rw[at_,Tryz.func149]
 exact af'
theorem acm:prog.funcs[194]? =some {Tryz.f194 with body:=some ((Code.region 0 (au.c0 nums) false).seq (nums.dY (au.Ak nums)))}:=by
 rw[at_,Tryz.func194]
 exact af'
theorem aeh:prog.funcs[100]? =some {Tryz.f100 with body:=some (nums.FQ (au.ZM nums))}:=by
 rw[at_,Tryz.func100]
 exact af'
end
section
variable[Old]
theorem a7T(b a):kG prog (XS nums A1 b a) (nums.dY (au.Ak nums)) (nums.dY (au.c9 nums)):=by
 unfold au.dY
 repeat' first
  |exact kG.sp _ _ (Or.inr ⟨rfl,rfl,rfl⟩)
  |apply kG.seq
  |apply kG.block
  |apply kG.loop
  |exact kG.same _ (by unfold aT;kernel_rfl)
theorem a7U(b c):aT prog (X2 A1 b c) (Code.block 1 nums.blk):=by unfold aT;kernel_rfl
theorem ZU(b c):aT prog (X2 A1 b c) nums.gF:=by unfold aT;kernel_rfl
theorem ZV:aT prog (B0 A0 A1 100) nums.gF:=by unfold aT;kernel_rfl
theorem a8d:(Tryz.prog.types.all λi=>match i.zero with|some z=>eH 100 z|none=>true)=true:=by kernel_rfl
theorem aaB:((List.range 408).all λt=>match Tryz.prog.underlying t with|none=>true|some d=>(Dp d).all (· <408))=true:=by kernel_rfl
end
end Go.Proofs.ah
namespace Go.Proofs.Zb
def Uk{a}{c}{i}(h:Made.reckonStruct a c=some i):∃b,i.desc=.struct b:=by grind[Made.reckonStruct,bind,agd,ag1]
theorem a1l{a}{d}{i}(h:Made.reckon a d=some i)(n)(u):i.desc≠.named n u:=by
 unfold Made.reckon at h;cases d with
 |struct f=>
  obtain⟨c,e⟩:=Uk h
  rw[e];simp
 |pointer e=>
  simp only[bind,agd]at h
  repeat' first
   |(obtain⟨_,_,h⟩:=h)
   |(split at h)
   |(cases h;done)
   |(simp only[pure,ag1,agd]at h)
  all_goals exact λb=>by cases b
 |_=>
  first
   |(cases h;done)
   |(simp only[bind,agd,pure,ag1]at h
     repeat (obtain⟨_,_,h⟩:=h)
     exact λb=>by cases b)
theorem a1m{T:Tables}{t}{i}(h:T.info? t=some i)(a:¬t<T.types.size)(n)(u):i.desc≠.named n u:=by
 unfold Tables.info? at h
 rw[afJ a]at h
 unfold Made.depth Made.infoAt at h
 rw[afJ a]at h
 cases b:Made.decode (t-T.types.size)with
 |none=>grind
 |some d=>grind[a1l]
def XF{T:Tables}{t}{i}(h:T.info? t=some i){n}{u}(a:i.desc=.named n u):T.types[t]? =some i:=by grind[Tables.info?,a1m]
end Go.Proofs.Zb
namespace Go.Proofs.ah
open Go.Proofs.Zb
variable{t:TypeId}{a:Array Value}
section
variable[Old]
theorem Ul:prog.types=Tryz.prog.types:=(congrArg Tables.types tables).symm
theorem types_size:prog.types.size=408:=by rw[Ul];exact Tryz.types_size
theorem GZ(t):prog.info? t=Tryz.prog.info? t:=af'
theorem xh(t):prog.underlying t=Tryz.prog.underlying t:=by
 unfold Program.underlying
 rw[GZ]
 cases h:Tryz.prog.info? t<;>simp[none,GZ]
theorem XG:(Tryz.prog.types.all λi=>match i.desc with| .named n _=>n != "sync.copyChecker" |_=>true)=true:=by kernel_rfl
theorem env:Env prog Tryz.prog:=by
 refine⟨tables,λt i z f b e=>⟨100,?_⟩,λt i u b e=> ?_,λt d f h c k=> ?_⟩
 ·rw[types_size]at f
  rw[GZ]at b
  have j:=afR.1 a8d
  have g:Tryz.prog.types[t]? =some i:=by
   unfold Tables.info? at b
   rw[afN (by simp_all)]at b
   exact b
  have:=j i (ag9 g)
  rw[e]at this
  exact this
 ·rw[GZ]at b
  have g:=XF b e;have:=afR.1 XG i (ag9 g)
  rw[e]at this
  dsimp only at this
  rw[bne_self_eq_false]at this
  cases this
 ·rw[types_size]at f |-
  rw[xh]at h
  have:=(agE.1 aaB) t (by grind)
  rw[h]at this
  simp only[agE,agY]at this;exact this c k
theorem fM{d}(h:∀w,(underlying t).run Tryz.prog w=.ok d w)(w):(underlying t).run prog w=.ok d w:=by
 have:=h w;unfold underlying at this |-;simp only[Sem.run_bind,run_program,Result.andThen_ok]at this |-
 rw[xh]
 cases b:Tryz.prog.underlying t<;>simp_all
theorem FU{i}(h:∀w,(typeInfo t).run Tryz.prog w=.ok i w)(w):(typeInfo t).run prog w=.ok i w:=by
 have:=h w;unfold typeInfo at this |-;simp only[Sem.run_bind,run_program,Result.andThen_ok]at this |-
 rw[GZ]
 cases b:Tryz.prog.info? t<;>simp_all
theorem bT{i}{v}(b:∀w,(typeInfo t).run Tryz.prog w=.ok i w)(h:∀w,(zeroValue t).run Tryz.prog w=.ok v w)(w):(zeroValue t).run prog w=.ok v w:=by
 have:=h w;unfold zeroValue at this |-;simp only[Sem.run_bind,b,FU b,Result.andThen_ok]at this |-
 split<;>simp_all
theorem bq{i}{k}(b:∀w,(typeInfo t).run Tryz.prog w=.ok i w)(h:∀w,(sizeOf t).run Tryz.prog w=.ok k w)(w):(sizeOf t).run prog w=.ok k w:=by
 have:=h w;unfold sizeOf at this |-
 grind[Sem.run_bind,FU,Result.andThen_ok,Sem.run_pure]
theorem dw{d}{b}(c:∀w,(underlying t).run Tryz.prog w=.ok d w)(h:∀w,(isAgg t).run Tryz.prog w=.ok b w)(w):(isAgg t).run prog w=.ok b w:=by
 have:=h w;unfold isAgg at this |-
 grind[Sem.run_bind,fM,Result.andThen_ok,Sem.run_pure]
noncomputable def zS:Value:=Value.agg #[Value.bool false,Value.map none,Value.bool false,Value.map none,Value.bool false,Value.map none,Value.bool false,Value.map none,Value.bool false,Value.map none,Value.bool false,Value.map none]
noncomputable def zR:Value:=Value.agg #[Value.int IntKind.i64 0,Value.int IntKind.i64 0,Value.int IntKind.i64 0,Value.string {data:=#[]}]
theorem aaC:(([149,194,100]:List Nat).all λf=> !((Tryz.prog.funcs[f]?).any (·.norace)))=true:=by kernel_rfl
theorem quiet(f)(h:f=nums.wZ\/f=nums.qX\/f=nums.uQ):(Tryz.prog.funcs[f]?).any (·.norace)=false/\(prog.funcs[f]?).any (·.norace)=false:=by
 have d:=(agE.1 aaC) f (by grind[nums]);have b:(Tryz.prog.funcs[f]?).any (·.norace)=false:=by simpa using d
 refine⟨b,?_⟩
 rw[at_]
 cases c:Tryz.prog.funcs[f]? with
 |none=>rfl
 |some e=>rw[c]at b;exact b
theorem a4N:Tryz.t131.bytes<=64:=agm (by kernel_rfl)
theorem ZR:TF Tryz.prog nums zS zR .both .recv Tryz.t131:=
 ⟨Tryz.zeroValue249,Tryz.runUnderlying249,Tryz.runUnderlying205,Tryz.typeInfo131,a4N,Tryz.sizeOf249,Tryz.isAgg249,Tryz.zeroValue155,Tryz.zeroValue131,λf h=>(quiet f h).1⟩
theorem ZT:TF prog nums zS zR .both .recv Tryz.t131:=
 ⟨bT Tryz.typeInfo249 Tryz.zeroValue249,fM Tryz.runUnderlying249,fM Tryz.runUnderlying205,FU Tryz.typeInfo131,a4N,bq Tryz.typeInfo249 Tryz.sizeOf249,dw Tryz.runUnderlying249 Tryz.isAgg249,bT Tryz.typeInfo155 Tryz.zeroValue155,bT Tryz.typeInfo131 Tryz.zeroValue131,λf h=>(quiet f h).2⟩
theorem Rj:∀v∈zS.cells,eH 100 v=true:=afR.1 (show(zS.cells.all (eH 100))=true by kernel_rfl)
theorem Rk:eH 100 zR=true:=by kernel_rfl
end
section
variable[Old]
theorem K4:(Tryz.prog.funcs.all λb=>b.name != "runtime.NumGoroutine")=true:=by kernel_rfl
def a4O(b:Func):Bool:=b.body.isSome||((Extern.findNext b).isNone&&(Extern.find b).isNone)
noncomputable def a4P(f:Nat):Bool:=match Tryz.prog.funcs[f]? with|none=>true|some b=>a4O b
theorem a4Q{f}{b}(h:Tryz.prog.funcs[f]? =some b):a4P f=a4O b:=by unfold a4P;rw[h]
theorem aaD:((List.range 394).all λf=>f==330||f==331||unknown.contains f||a4P f)=true:=by kernel_rfl
theorem PN:Tryz.prog.funcs.size=394:=by kernel_rfl
theorem a8e:(Extern.findNext Tryz.f330).isNone=true:=by kernel_rfl
theorem a8f:(Extern.findNext Tryz.f331).isNone=true:=by kernel_rfl
theorem a8g:Extern.find Tryz.f330=some Extern.AbiNoEscape.same:=by kernel_rfl
theorem a8h:Extern.find Tryz.f331=some (Extern.BytealgMakeNoZero.makeNoZero Tryz.f331.params Tryz.f331.resultTypes):=by kernel_rfl
section
variable{I:Code->Prop}{A:Ren}
theorem aaE{b}(h:AR A a b):aG I prog Tryz.prog VR A (Extern.AbiNoEscape.same a) (Extern.AbiNoEscape.same b):=by
 obtain⟨l⟩:=a;obtain⟨d⟩:=b;have e:=h.size
 match l,d,e with
 |[],[],_=>exact ak
 |[x],[c],_=>exact aj (h.at_ 0 x c rfl rfl)
 |_::_::_,_,_=>exact ak
 |[],_::_,h=>simp at h
 |[_],[],h=>simp at h
 |[_],_::_::_,h=>simp at h
theorem Rx:∀n t b,(∀v∈b,VR A v v)->∀v∈Extern.BytealgMakeNoZero.digits n t b,VR A v v:=by
 intro n;induction n with
 |zero=>intro t b h;exact h
 |succ n d=>
  intro t b h;refine d _ _ λv c=> ?_
  obtain c|rfl:=Array.mem_push.1 c
  ·exact h v c
  ·exact .int _ _
theorem Ry(i f){j}(h:AR A a j):aG I prog Tryz.prog VR A (Extern.BytealgMakeNoZero.makeNoZero i f a) (Extern.BytealgMakeNoZero.makeNoZero i f j):=by
 by_cases C:∃n,a=#[.int .i64 n]
 ·obtain⟨n,rfl⟩:=C
  have z:=h.size;obtain⟨u⟩:=j
  match u,z with
  |[m],_=>
   have w:=h.at_ 0 _ m rfl rfl;cases w
   show aG I prog Tryz.prog VR A (do
    let some t:=f[0]? |stuck "bytealg.MakeNoZero: no result type"
    let .slice b <-underlying t|stuck "bytealg.MakeNoZero: slice type expected"
    if n<0||n>2^48 then runtimePanic (.error "makeslice: len out of range")
    let e <-choose (.appendCap n.toNat 0 b)
    askRoom e
    let c <-choose (.extern "internal/bytealg.MakeNoZero.bytes" 0)
    let a <-newRow b (Extern.BytealgMakeNoZero.digits e c #[])
    pure (.slice (some a) n.toNat e)) (do
    let some t:=f[0]? |stuck "bytealg.MakeNoZero: no result type"
    let .slice b <-underlying t|stuck "bytealg.MakeNoZero: slice type expected"
    if n<0||n>2^48 then runtimePanic (.error "makeslice: len out of range")
    let e <-choose (.appendCap n.toNat 0 b)
    askRoom e
    let c <-choose (.extern "internal/bytealg.MakeNoZero.bytes" 0)
    let a <-newRow b (Extern.BytealgMakeNoZero.digits e c #[])
    pure (.slice (some a) n.toNat e))
   cases f[0]? with
   |none=>exact ak
   |some t=>
    refine aC (aI env t) λD v d E B=> ?_
    obtain⟨rfl,_⟩:=B;cases d with
    |slice b=>
     dsimp only;split
     ·exact iB
     ·refine aP (mJ _) λs _ e=>aP (IK e) λr _ _=>aP (mJ _) λp _ c=>aC (qi b (AR.yn (Rx e c #[] (by simp)))) λo _ x m q=>aj ?_
      exact .slice _ _ _ _ q
    |_=>exact ak
  |[],h=>simp at h
  |_::_::_,h=>simp at h
 ·have:Extern.BytealgMakeNoZero.makeNoZero i f a=stuck "bytealg.MakeNoZero: an int expected" :=by
   obtain⟨l⟩:=a;cases l with
   |nil=>rfl
   |cons x l=>
    cases l with
    |cons y l=>rfl
    |nil=>
     cases x with
     |int k n=>
      cases k with
      |i64=>grind
      |_=>rfl
     |_=>rfl
  rw[this]
  exact ak
end
theorem a4R{f}{b}(h:b.body=none):yC f b=b:=by
 unfold yC
 rw[h]
 cases b
 grind
theorem heads:JK (aT prog (BW A1)) prog Tryz.prog:=by
 refine⟨λf r i=> ?_,λf r i x z E D a G y=> ?_⟩
 ·rw[at_]at i
  cases c:Tryz.prog.funcs[f]? with
  |none=>grind
  |some b=>
   rw[c]at i
   obtain rfl:yC f b=r:=by simpa using i
   have q:=afR.1 K4 b (ag9 c);refine⟨b,rfl,rfl,?_,by simpa[yC]using q⟩;show _=(b.body.map (textOf f)).isNone;cases b.body<;>rfl
 ·have g:=i
  rw[at_]at g
  cases c:Tryz.prog.funcs[f]? with
  |none=>grind
  |some b=>
   rw[c]at g
   obtain rfl:yC f b=r:=by simpa using g
   have j:b.body=none:=by have:b.body.map (textOf f)=none:=x;cases h:b.body<;>simp_all
   rw[a4R j]at i
   have q:=afR.1 K4 b (ag9 c);have o:(b.name== "runtime.NumGoroutine")=false:=by simpa using q
   have w:f<394:=by rw[<-PN];exact(afD.1 c).1
   have d:=(agE.1 aaD) f (by simp_all)
   rw[a4Q c]at d
   unfold a4O at d;simp only[Bool.or_eq_true,agx]at d
   have u:unknown.contains f=false:=by
    have:(!unknown.contains f)=true:=z
    simpa using this
   unfold callFunc;refine aC fT λC m p F⟨e,A⟩=> ?_
   subst e A
   rw[i,c]
   simp only[o,j,Option.isNone_none,agr,afI,ag6];refine aP (a4c (.inr ⟨f,rfl⟩)) λB l _=> ?_
   have k:=y.mono (Ren.le_trans m l);obtain ((rfl|rfl)|d)|d:=d
   ·obtain rfl:b=Tryz.f330:=by rw[Tryz.func330]at c;exact(agf c).symm
    rw[agC.1 a8e,a8g]
    exact aC (aaE k) λ_ _ v s n=>aj (.value _ _ n)
   ·obtain rfl:b=Tryz.f331:=by rw[Tryz.func331]at c;exact(agf c).symm
    rw[agC.1 a8f,a8h]
    exact aC (Ry _ _ k) λ_ _ v s n=>aj (.value _ _ n)
   ·grind
   ·obtain d|d:=d
    ·simp_all
    ·simp only[afQ]at d
     rw[agC.1 d.1,agC.1 d.2]
     dsimp only;split
     ·exact aj (.value _ _ vH)
     ·exact aF
end
section
variable[Old]
def gV{b:Type}(s:Sem b)(w:World):Prop:=∀T d,∃h u,s.run prog (re T d w)=.halt h u/\u.heap=w.heap/\∀g,h≠.unsupported (.initOrder g)
def xk{b:Type}(s:Sem b)(v:b)(w:World):Prop:=∀T d,s.run prog (re T d w)=.ok v (re T d w)
def Res{b:Type}(s:Sem b)(w:World):Prop:=(∃v,xk s v w)\/gV s w
section
variable{A I:Type}{s:Sem A}{k:A->Sem I}{w:World}{v:A}
theorem xk.bind{u}(h:xk s v w)(b:xk (k v) u w):xk (s>>= k) u w:=λT d=>by rw[Sem.run_bind,h T d];exact b T d
theorem xk.fV(h:xk s v w)(b:gV (k v) w):gV (s>>= k) w:=λT d=>by
 obtain⟨x,u,e,c⟩:=b T d
 exact⟨x,u,by rw[Sem.run_bind,h T d];exact e,c⟩
theorem gV.bind(h:gV s w):gV (s>>= k) w:=λT d=>by
 obtain⟨x,u,c,b⟩:=h T d
 exact⟨x,u,by rw[Sem.run_bind,c];rfl,b⟩
theorem Res.bind(h:Res s w)(c:∀v,xk s v w->Res (k v) w):Res (s>>= k) w:=by
 obtain⟨v,h⟩|h:=h
 ·obtain⟨u,b⟩|b:=c v h
  ·exact .inl ⟨u,h.bind b⟩
  ·exact .inr (h.fV b)
 ·exact .inr h.bind
theorem dU(v:A):xk (pure v) v w:=λ_ _=>rfl
theorem xL(v:A):Res (pure v) w:=.inl ⟨v,dU v⟩
theorem mO(x):gV (stuck x:Sem A) w:=λT d=>⟨_,re T d w,rfl,rfl,by simp⟩
theorem mr(x)(h:Lm x=false:=by rfl):gV (unsupported x:Sem A) w:=λT d=>⟨_,re T d w,rfl,rfl,λg e=>by cases e;simp[Lm]at h⟩
theorem gW:xk program prog w:=λ_ _=>rfl
theorem vw(r):xk (shape r) (w.shape? r) w:=λ_ _=>rfl
end
theorem Mi(r)(w):(∃o,w.heap[r]? =some o/\xk (getObj r) o w)\/gV (getObj r) w:=by
 cases h:w.heap[r]? with
 |none=>exact .inr λT d=>⟨_,re T d w,by simp only[getObj,Sem.run];rw[show(re T d w).heap[r]? =none from h],rfl,by simp⟩
 |some o=>
  cases o with
  |cells=>exact .inr λT d=>⟨_,re T d w,A7,rfl,by simp⟩
  |_=>exact .inl ⟨_,rfl,λT d=>A7⟩
theorem Rm(e)(i:∀v,e (.const v)=v)(w):((∃k m,e (.tmp 1)=.int k m)/\∃x,∀T d,(execOp e nums.Xj).run prog (re T d w)=.ok (.value x) (re T d w))\/∀T d,∃h u,(execOp e nums.Xj).run prog (re T d w)=.halt h u/\u.heap=w.heap/\∀g,h≠.unsupported (.initOrder g):=by
 have b:execOp e nums.Xj=(do pure (.value (<-(do eqGuard .lss 3 (.tmp 1) (.const (.int .i64 0)) (e (.tmp 1)) (e (.const (.int .i64 0)));binOp .lss 3 (e (.tmp 1)) (e (.const (.int .i64 0))))))):=by unfold execOp;rfl
 rw[b,i]
 have f:eqGuard .lss 3 (.tmp 1) (.const (.int .i64 0)) (e (.tmp 1)) (.int .i64 0)=pure ():=rfl
 rw[f]
 generalize e (.tmp 1)=v;cases v with
 |int k m=>
  by_cases c:k=.i64
  ·subst c
   exact .inl ⟨⟨_,_,rfl⟩,.bool (m<0),λT d=>rfl⟩
  ·refine .inr ?_
   have:gV (do pure (.value (<-(do pure ();binOp .lss 3 (.int k m) (.int .i64 0)))):Sem Next) w:=by
    refine gV.bind ?_;show gV (if k≠.i64 then stuck "BinOp: operands of different kinds" else _) w
    rw[afN c]
    exact mO _
   exact this
 |pointer a=>
  refine .inr (gV.bind ?_);cases a<;>exact mr .addressObserved
 |_=>
  refine .inr (gV.bind ?_);exact mO _
theorem a1n(a):∀n i b c w u,(loadCellsFrom a i n b).run prog w=.ok c u->c.size=b.size+n:=by
 intro n;induction n with
 |zero=>
  intro i b c w u h;simp only[loadCellsFrom,Sem.run_pure,Result.ok.injEq]at h
  rw[<-h.1];rfl
 |succ n e=>
  intro i b c w u h;unfold loadCellsFrom at h
  rw[Sem.run_bind]at h
  cases f:(load (a.add i)).run prog w with
  |halt x y=>simp_all
  |ok v d=>
   rw[f]at h
   have:=e (i+1) (b.push v) c d u h
   rw[this,Array.size_push];omega
theorem KY(x v)(w u)(h:(Instr.loadAt nums.qm x).run prog w=.ok v u):∃a,v=.agg a/\a.size=4:=by
 rw[show nums.qm=131 from rfl]at h
 unfold Instr.loadAt at h
 rw[Sem.run_bind]at h
 cases f:(Instr.sureAddr x).run prog w with
 |halt=>simp_all
 |ok a b=>
  rw[f]at h
  simp only[Result.andThen_ok]at h;unfold loadVar at h
  rw[Sem.run_bind,dw Tryz.runUnderlying131 Tryz.isAgg131 b]at h
  simp only[Result.andThen_ok,agr,Sem.run_bind,bq Tryz.typeInfo131 Tryz.sizeOf131 b]at h;cases c:(loadCells a 4).run prog b with
  |halt=>simp_all
  |ok d e=>
   rw[c]at h
   simp only[Result.andThen_ok,Sem.run_pure,Result.ok.injEq]at h;obtain⟨rfl,rfl⟩:=h
   exact⟨d,rfl,by simpa using a1n a 4 0 #[] d b e c⟩
theorem XH(r)(w):Res (viewAt r) w:=by
 unfold viewAt;refine Res.bind (.inl ⟨_,vw r⟩) λx _=> ?_
 split
 ·exact xL _
 ·obtain⟨o,_,h⟩|h:=Mi r w
  ·exact Res.bind (.inl ⟨_,h⟩) λo _=>by cases o<;>exact xL _
  ·exact .inr h.bind
theorem XI(a)(w):Res (byteOf a) w:=by
 unfold byteOf;cases a.spot with
 |some s=>exact xL _
 |none=>
  refine Res.bind (.inl ⟨_,gW⟩) λp _=> ?_
  refine Res.bind ?_ λ_ _=> ?_
  ·unfold noView
   refine Res.bind (XH _ _) λx _=> ?_
   split
   ·exact .inr (mr _)
   ·exact xL _
  ·refine Res.bind (.inl ⟨_,vw a.block⟩) λx _=> ?_
   cases x with
   |none=>exact .inr (mO _)
   |some x=>
    obtain⟨e,m⟩:=x;dsimp only;split
    ·exact xL _
    ·split
     ·exact xL _
     ·exact .inr (mO _)
theorem numberOf(r)(w):(∃x:Option (Addr×Bool),xk (numberAt r) x w/\∀a b,x=some (a,b)->w.heap[r]? =some (.number a b))\/gV (numberAt r) w:=by
 unfold numberAt;cases c:(w.shape? r).isSome with
 |true=>exact .inl ⟨none,(vw r).bind (by rw[c];exact dU none),by simp⟩
 |false=>
  obtain⟨o,f,h⟩|h:=Mi r w
  ·by_cases d:∃a b,o=.number a b
   ·obtain⟨a,b,rfl⟩:=d
    exact .inl ⟨some (a,b),(vw r).bind (by rw[c];exact h.bind (dU _)),λx y e=>by cases e;exact f⟩
   ·refine .inl ⟨none,(vw r).bind (by rw[c];refine h.bind ?_;cases o<;>first|exact dU none|exact absurd ⟨_,_,rfl⟩ d),by simp⟩
  ·exact .inr ((vw r).fV (by rw[c];exact h.bind))
theorem a8i:Tryz.t3.desc=.int .i64:=by kernel_rfl
theorem a4S(v)(w):(xk (Op.equalIn 9999 3 v v) true w/\((∃k m,v=.int k m)\/∃q,v=.pointer (some q)/\ab' prog.globals.size w q))\/gV (Op.equalIn 9999 3 v v) w:=by
 have f:xk (underlying 3) (.int .i64) w:=λT d=>fM Tryz.runUnderlying3 _
 have i:xk (typeInfo 3) Tryz.t3 w:=λT d=>FU Tryz.typeInfo3 _
 show(xk (Op.equalIn (9998+1) 3 v v) true w/\_)\/gV (Op.equalIn (9998+1) 3 v v) w
 unfold Op.equalIn;cases v with
 |int k m=>
  refine .inl ⟨f.bind ?_,.inl ⟨k,m,rfl⟩⟩;show xk (if k=k then pure (m==m)else _) true w
  rw[afN rfl]
  simp only[beq_self_eq_true];exact dU true
 |pointer q=>
  cases q with
  |none=>exact .inr (f.fV (mr .addressObserved))
  |some q=>
   obtain⟨r,g,j⟩|g:=numberOf q.block w
   ·have c:xk (behindNumber q) (r.getD (q,false)) w:=g.bind (dU _)
    by_cases e:(r.getD (q,false)).1.block<prog.globals.size
    ·have b:((r.getD (q,false)).1.block==(r.getD (q,false)).1.block&&decide ((r.getD (q,false)).1.block<prog.globals.size))=true:=by simp[e]
     obtain⟨m,h⟩|h:=XI (r.getD (q,false)).1 w
     ·refine .inl ⟨f.bind (c.bind (c.bind (gW.bind ?_))),.inr ⟨q,rfl,?_⟩⟩
      ·simp_all[xk,dU]
      ·cases r with
       |none=>exact .inl e
       |some x=>exact .inr ⟨x.1,x.2,j x.1 x.2 rfl,e⟩
     ·refine .inr (f.fV (c.fV (c.fV (gW.fV ?_))))
      show gV (if ((r.getD (q,false)).1.block==(r.getD (q,false)).1.block&&decide ((r.getD (q,false)).1.block<prog.globals.size))=true then _ else _) w
      rw[afN b]
      exact h.bind
    ·have b:¬((r.getD (q,false)).1.block==(r.getD (q,false)).1.block&&decide ((r.getD (q,false)).1.block<prog.globals.size))=true:=by simp[e]
     refine .inr (f.fV (c.fV (c.fV (gW.fV ?_))));show gV (if ((r.getD (q,false)).1.block==(r.getD (q,false)).1.block&&decide ((r.getD (q,false)).1.block<prog.globals.size))=true then _ else _) w
     rw[afJ b]
     refine i.fV ?_
     rw[a8i]
     exact mr .addressObserved
   ·exact .inr (f.fV (gV.bind (gV.bind g)))
 |_=>exact .inr (f.fV (mO _))
theorem eqStr(v)(w):(xk (Op.equalIn 9999 9 v v) true w/\∃s,v=.string s)\/gV (Op.equalIn 9999 9 v v) w:=by
 have b:xk (underlying 9) .string w:=λT d=>fM Tryz.runUnderlying9 _
 show(xk (Op.equalIn (9998+1) 9 v v) true w/\_)\/gV (Op.equalIn (9998+1) 9 v v) w
 unfold Op.equalIn;cases v with
 |string s=>
  refine .inl ⟨b.bind ?_,s,rfl⟩;show xk (pure (s==s)) true w
  rw[show(s==s)=true from by obtain⟨d⟩:=s;show(d==d)=true;simp]
  exact dU true
 |pointer q=>cases q<;>exact .inr (b.fV (mO _))
 |_=>exact .inr (b.fV (mO _))
section
variable{A I:Type}{a:A}{l:List A}{s s1 r:I}{f:A->I->Sem (ForInStep I)}{w:World}
theorem G5(h:xk (f a s) (.yield s1) w)(b:xk (forIn l s1 f) r w):xk (forIn (a::l) s f) r w:=by
 rw[List.forIn_cons]
 exact h.bind b
theorem qZ(h:xk (f a s) (.yield s1) w)(b:gV (forIn l s1 f) w):gV (forIn (a::l) s f) w:=by
 rw[List.forIn_cons]
 exact h.fV b
theorem yD(h:gV (f a s) w):gV (forIn (a::l) s f) w:=by
 rw[List.forIn_cons]
 exact h.bind
theorem a8j:xk (forIn ([]:List A) s f) s w:=by simp[List.forIn_nil,dU]
end
theorem held:prog.stoodInHeld 131=false:=by kernel_rfl
theorem a8k:prog.eqGuardType prog.depth 131=false:=by kernel_rfl
theorem K5{t i}{v}{w}(b:∀w,(isAgg t).run prog w=.ok false w)(c:a[i]? =some v):xk (part t a i) v w:=by
 unfold part;refine xk.bind (v:=false) (λT d=>b _) ?_;show xk (match a[i]? with|some v=>pure v|none=>stuck "part: no such cell") v w
 grind[dU]
theorem acn(x y z u)(w):(xk (Op.equal 131 (.agg #[x,y,z,u]) (.agg #[x,y,z,u])) true w/\Flat prog.globals.size w #[x,y,z,u])\/gV (Op.equal 131 (.agg #[x,y,z,u]) (.agg #[x,y,z,u])) w:=by
 have h:xk (underlying 131) (TypeDesc.struct #[{name:= "Time",type:=3,offset:=0,embedded:=false,tag:= "",pkgPath:= "",byteOffset:=0},{name:= "Kind",type:=3,offset:=1,embedded:=false,tag:= "",pkgPath:= "",byteOffset:=8},{name:= "Peer",type:=3,offset:=2,embedded:=false,tag:= "",pkgPath:= "",byteOffset:=16},{name:= "Body",type:=9,offset:=3,embedded:=false,tag:= "",pkgPath:= "",byteOffset:=24}]) w:=λT d=>fM Tryz.runUnderlying131 _
 have l:∀w,(isAgg 3).run prog w=.ok false w:=dw Tryz.runUnderlying3 Tryz.isAgg3;have m:∀w,(isAgg 9).run prog w=.ok false w:=dw Tryz.runUnderlying9 Tryz.isAgg9;have b:xk (part 3 #[x,y,z,u] 0) x w:=K5 l rfl;have c:xk (part 3 #[x,y,z,u] 1) y w:=K5 l rfl;have e:xk (part 3 #[x,y,z,u] 2) z w:=K5 l rfl;have i:xk (part 9 #[x,y,z,u] 3) u w:=K5 m rfl;unfold Op.equal
 show(xk (Op.equalIn (9999+1) 131 _ _) true w/\_)\/gV (Op.equalIn (9999+1) 131 _ _) w
 unfold Op.equalIn;obtain⟨f,p⟩|f:=a4S x w
 ·obtain⟨g,o⟩|g:=a4S y w
  ·obtain⟨j,n⟩|j:=a4S z w
   ·obtain⟨k,s,rfl⟩|k:=eqStr u w
    ·refine .inl ⟨h.bind (gW.bind ?_),x,y,z,s,rfl,λv k=> ?_⟩
     ·dsimp only
      rw[held]
      simp only[afI,ag6,<-Array.forIn_toList];refine xk.bind (G5 (s1:=(none,())) ?_ (G5 (s1:=(none,())) ?_ (G5 (s1:=(none,())) ?_ (G5 (s1:=(none,())) ?_ a8j)))) ?_
      ·exact b.bind (b.bind (f.bind (dU _)))
      ·exact c.bind (c.bind (g.bind (dU _)))
      ·exact e.bind (e.bind (j.bind (dU _)))
      ·exact i.bind (i.bind (k.bind (dU _)))
      ·exact dU true
     ·grind
    ·refine .inr (h.fV (gW.fV ?_))
     dsimp only
     rw[held]
     simp only[afI,ag6,<-Array.forIn_toList];refine gV.bind ?_;exact qZ (s1:=(none,())) (b.bind (b.bind (f.bind (dU _)))) (qZ (s1:=(none,())) (c.bind (c.bind (g.bind (dU _)))) (qZ (s1:=(none,())) (e.bind (e.bind (j.bind (dU _)))) (yD (i.fV (i.fV k.bind)))))
   ·refine .inr (h.fV (gW.fV ?_))
    dsimp only
    rw[held]
    simp only[afI,ag6,<-Array.forIn_toList];refine gV.bind ?_;exact qZ (s1:=(none,())) (b.bind (b.bind (f.bind (dU _)))) (qZ (s1:=(none,())) (c.bind (c.bind (g.bind (dU _)))) (yD (e.fV (e.fV j.bind))))
  ·refine .inr (h.fV (gW.fV ?_))
   dsimp only
   rw[held]
   simp only[afI,ag6,<-Array.forIn_toList];refine gV.bind ?_;exact qZ (s1:=(none,())) (b.bind (b.bind (f.bind (dU _)))) (yD (c.fV (c.fV g.bind)))
 ·refine .inr (h.fV (gW.fV ?_))
  dsimp only
  rw[held]
  simp only[afI,ag6,<-Array.forIn_toList];refine gV.bind ?_;exact yD (b.fV (b.fV f.bind))
theorem ZW(e)(a)(j:e (.tmp 36)=.agg a)(k:a.size=4)(w):
  (∃x,(∀T d,(execOp e nums.eqR).run prog (re T d w)=.ok (.value x) (re T d w))/\Flat prog.globals.size w a)\/∀T d,∃h u,(execOp e nums.eqR).run prog (re T d w)=.halt h u/\u.heap=w.heap/\∀g,h≠.unsupported (.initOrder g):=by
 obtain⟨x,y,z,u,rfl⟩:∃x y z u,a=#[x,y,z,u]:=⟨a[0],a[1],a[2],a[3],by
  apply Array.ext
  ·simp[k]
  ·intro i m l
   have:i=0\/i=1\/i=2\/i=3:=by omega
   obtain rfl|rfl|rfl|rfl:=this<;>rfl⟩
 have b:execOp e nums.eqR=(do pure (.value (<-(do eqGuard .eql 131 (.tmp 36) (.tmp 36) (e (.tmp 36)) (e (.tmp 36));binOp .eql 131 (e (.tmp 36)) (e (.tmp 36)))))):=by unfold execOp;rfl
 have c:xk (eqGuard .eql 131 (.tmp 36) (.tmp 36) (.agg #[x,y,z,u]) (.agg #[x,y,z,u])) () w:=by
  unfold eqGuard;refine gW.bind (gW.bind ?_)
  rw[a8k]
  exact dU ()
 rw[b,j]
 obtain⟨h,f⟩|h:=acn x y z u w
 ·refine .inl ⟨.bool true,?_,f⟩
  have:xk (do pure (.value (<-(do eqGuard .eql 131 (.tmp 36) (.tmp 36) (.agg #[x,y,z,u]) (.agg #[x,y,z,u]);binOp .eql 131 (.agg #[x,y,z,u]) (.agg #[x,y,z,u])))):Sem Next) (.value (.bool true)) w:=
   xk.bind (v:=.bool true) (c.bind (h.bind (dU _))) (dU _)
  exact this
 ·refine .inr ?_
  have:gV (do pure (.value (<-(do eqGuard .eql 131 (.tmp 36) (.tmp 36) (.agg #[x,y,z,u]) (.agg #[x,y,z,u]);binOp .eql 131 (.agg #[x,y,z,u]) (.agg #[x,y,z,u])))):Sem Next) w:=
   gV.bind (c.fV h.bind)
  exact this
end
end Go.Proofs.ah
