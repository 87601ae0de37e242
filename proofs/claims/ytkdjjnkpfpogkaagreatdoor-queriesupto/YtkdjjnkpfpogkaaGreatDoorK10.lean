import Derived.Conc.Events
import Derived.Test.YtkdjjnkpfpogkaaGreatDoorK09
set_option maxHeartbeats 8000000
set_option linter.all false
namespace Go.Proofs.Zb
variable{f:Func}{x:Operand}{o:Oper}{N:Nat}{v:Value}{c nH:Frame}{w:World}
section
open Go.Conc (G)
structure TF(p:Program)(n:au)(zS zR:Value)(d1 d2:ChanDir)(iR:TypeInfo):Prop where
 a4s:∀w,(zeroValue n.eG).run p w=.ok (.chan none) w
 a7M:∀w,(underlying n.eG).run p w=.ok (.chan d1 n.qm) w
 TT:∀w,(underlying n.xc).run p w=.ok (.chan d2 n.qm) w
 a7N:∀w,(typeInfo n.qm).run p w=.ok iR w
 a4t:iR.bytes<=64
 a4u:∀w,(sizeOf n.eG).run p w=.ok 1 w
 a7O:∀w,(isAgg n.eG).run p w=.ok false w
 a0V:∀w,(zeroValue n.l9).run p w=.ok zS w
 ZN:∀w,(zeroValue n.qm).run p w=.ok zR w
 quiet:∀f,f=n.wZ\/f=n.qX\/f=n.uQ->(p.funcs[f]?).any (·.norace)=false
section
variable{p:Program}{n:au}{J L:Value}{U O:ChanDir}{I:TypeInfo}(A:TF p n J L U O I){e:Operand->Value}{w:World}
include A
def ZO(B:Nat)(e:Event):Prop:=∃a wr,e=⟨.cell a,wr,false⟩/\a.block<B
omit A in
theorem seen_plain{f}(i:(p.funcs[f]?).any (·.norace)=false){d}(h:∀e∈d,e.loc.isMemory=true):seen p f d=d:=by
 obtain⟨l⟩:=d;unfold seen;simp only[i]
 have:∀(l:List Event)(b:Array Event),(∀e∈l,e.loc.isMemory=true)->(l.foldl (λ(x:Bool×Array Event)e=>match e.loc with
   | .mark (.extern f)=>((p.funcs[f]?).any (·.norace),x.2)
   |_=>(x.1,if x.1&& !e.sync then x.2 else x.2.push e)) (false,b))=(false,b++l.toArray):=by
  intro l;induction l with
  |nil=>simp
  |cons e l q=>
   intro b j;have k:=j e (by simp);obtain⟨g,wr,m⟩:=e
   rw[List.foldl_cons]
   cases g with
   |cell a=>simp_all
   |obj r=>simp_all
   |_=>cases k
 have:=congrArg Prod.snd (this l #[] (by grind))
 rw[<-Array.foldl_toList]
 rw[show(#[]++l.toArray:Array Event)=⟨l⟩from by simp]at this
 exact this
omit A in
theorem ZP{t}(h:o.op=.box t x)(b:w.heap.size=N)(a:e x=v):(execOp e o).run p w=.ok (.value (.pointer (some ⟨N,0,none⟩))) {w with heap:=w.heap.push (.cells v.cells t (0,0))}/\(execOp e o).events p w #[]=#[]:=by subst b a;unfold execOp;rw[h];constructor<;>rfl
theorem Xh(h:o.op=.alloc n.eG)(a:w.heap.size=N):(execOp e o).run p w=.ok (.value (.pointer (some ⟨N,0,none⟩))) {w with heap:=w.heap.push (.cells #[.chan none] n.eG (0,0))}/\(execOp e o).events p w #[]=#[]:=by subst a;unfold execOp;rw[h];simp only[Instr.alloc,Sem.run_bind,A.a4s,Result.andThen_ok,newVar,newRow,run_newObj,Sem.run_pure,Sem.events_bind,events_zeroValue,Result.evThen_ok,events_newObj,Sem.events_pure,Value.cells,and_self]
theorem L6(h:o.op=.alloc n.l9)(a:w.heap.size=N):(execOp e o).run p w=.ok (.value (.pointer (some ⟨N,0,none⟩))) {w with heap:=w.heap.push (.cells J.cells n.l9 (0,0))}/\(execOp e o).events p w #[]=#[]:=by subst a;unfold execOp;rw[h];simp only[Instr.alloc,Sem.run_bind,A.a0V,Result.andThen_ok,newVar,newRow,run_newObj,Sem.run_pure,Sem.events_bind,events_zeroValue,Result.evThen_ok,events_newObj,Sem.events_pure,and_self]
theorem run_makeChan{m:Int}(a:0<=m/\m<=1099511627776)(h:o.op=.makeChan n.eG (.const (.int .i64 m)))(d:e (.const (.int .i64 m))=.int .i64 m)(g:w.heap.size=N):
  (execOp e o).run p w=.ok (.value (.chan (some N))) {w with heap:=w.heap.push (.chan m.toNat #[] false 0 0 false)}/\(execOp e o).events p w #[]=#[]:=by
 subst g;unfold execOp;rw[h];have i:=A.a4t
 have b:¬(m<0\/m>IntKind.i64.max\/(I.bytes:Int)*m>2^48-112):=by
  have k:(I.bytes:Int)*m<=64*m:=Int.mul_le_mul_of_nonneg_right (by omega) a.1;have j:IntKind.i64.max=9223372036854775807:=by decide
  rintro(h|h|h)<;>omega
 simp only[Instr.makeChan,d,asInt,asIntOf,Sem.run_bind,Sem.run_pure,Result.andThen_ok,A.a7M,A.a7N,b,ag6,run_newObj,Sem.events_bind,Sem.events_pure,Result.evThen_ok,events_underlying,events_typeInfo,events_newObj,and_self]
omit A in
theorem rQ(h:o.op=.move x\/o.op=.assign x)(a:e x=v):(execOp e o).run p w=.ok (.value v) w/\(execOp e o).events p w #[]=#[]:=by subst a;unfold execOp;obtain h|h:=h<;>rw[h]<;>constructor<;>rfl
omit A in
theorem Rh{f}{a c}(h:o.op=.makeFunc f a c):(execOp e o).run p w=.ok (.value (.func f (a.map e) (c.map e))) w/\(execOp e o).events p w #[]=#[]:=by unfold execOp;rw[h];constructor<;>rfl
theorem Eu{b:Nat}(h:o.op=.load n.eG x)(a:e x=.pointer (some ⟨b,0,none⟩))(d:w.heap[b]? =some (.cells #[v] n.eG (0,0))):
  (execOp e o).run p w=.ok (.value v) w/\(execOp e o).events p w #[]=#[⟨.cell ⟨b,0,none⟩,false,false⟩]:=by
 have g:w.cell? ⟨b,0,none⟩=some v:=by simp[World.cell?,d]
 unfold execOp;rw[h];simp only[Instr.loadAt,a,Instr.sureAddr,loadVar,Sem.run_bind,Sem.run_pure,Result.andThen_ok,A.a7O,afI,ag6,Sem.events_bind,Sem.events_pure,Result.evThen_ok,events_isAgg,run_load,events_load,g];simp
theorem Xi{y:Operand}{b:Nat}{u:Value}(i:v.oneCell'=true)(h:o.op=.store n.eG x y)(m:e x=.pointer (some ⟨b,0,none⟩))(l:e y=v)(d:v.cells=#[v])(g:w.heap[b]? =some (.cells #[u] n.eG (0,0))):
  (execOp e o).run p w=.ok .skip (w.setCell ⟨b,0,none⟩ v)/\(execOp e o).events p w #[]=#[⟨.cell ⟨b,0,none⟩,true,false⟩]:=by
 have k:w.cell? ⟨b,0,none⟩=some u:=by simp[World.cell?,g]
 have j:w.frozen? ⟨b,0,none⟩=false:=by simp[World.frozen?,g]
 have q:(store ⟨b,0,none⟩ v).run p w=.ok () (w.setCell ⟨b,0,none⟩ v):=by rw[run_store _ _ _ _ _ i];simp only[k,j,afI,ag6]
 have r:(store ⟨b,0,none⟩ v).events p w #[]=#[⟨.cell ⟨b,0,none⟩,true,false⟩]:=by rw[events_store (hv:=i)];simp only[k,j,afI,ag6];rfl
 have a:Addr.add ⟨b,0,none⟩ 0=⟨b,0,none⟩:=rfl;unfold execOp;rw[h];simp only[Instr.storeAt,m,l,Instr.sureAddr,storeVar,d,Sem.run_bind,Sem.run_pure,Result.andThen_ok,A.a4u,agZ,ag4,age,agj,ne_eq,not_true_eq_false,ag6,storeCells,a,Sem.events_bind,Sem.events_pure,Result.evThen_ok,events_sizeOf,q,r,and_self]
end
end
section
open Go.Conc (G)
def bJ(p:Program)(a:Bool)(b:Goroutine->World->Prop):Nat->Goroutine->World->Prop
 |0,g,w=>b g w
 |n+1,g,w=>g.status=.running/\(g.frame.mode=.run\/2<=g.callers.length)/\∃i h j,(∀T d,stepG p a g (re T d w)=.go i (re T d h) j)/\w.heap.size<=h.heap.size/\(∀e∈j,ZO h.heap.size e)/\bJ p a b n i h
section
variable{p:Program}{A:Bool}{fr:Frame}{J:List Frame}{w:World}{k:List Item}{ops:Array Oper}{i:Nat}{rest:List Nat}{o:Oper}{I:Goroutine->World->Prop}{m:Nat}
theorem bJ.code{c}{l:List Item}(e:fr.todo=.code c::k)(d:fr.mode=.run)(h:(match c with
  | .seq a b=>some (.code a::.code b::k)
  | .region _ ops false=>some (.inRegion ops (List.range ops.size)::k)
  | .block id b=>some (.code b::.inBlock id::k)
  | .loop b=>some (.code b::.inLoop b::k)
  | .skip=>some k
  | .exit id=>exitTo id k
  |_=>none)=some l){nH}(j:{fr with todo:=l}=nH)(g:bJ p A I m (G nH J) w):bJ p A I (m+1) (G fr J) w:=by
 subst j
 exact⟨rfl,.inl d,_,w,_,λ_ _=>vv e d h,afA _,by simp,g⟩
theorem bJ.pop(b:fr.todo=.inRegion ops []::k)(a:fr.mode=.run)(e:{fr with todo:=k}=nH)(d:bJ p A I m (G nH J) w):bJ p A I (m+1) (G fr J) w:=by
 subst e
 exact⟨rfl,.inl a,_,w,_,λ_ _=>TR b a,afA _,by simp,d⟩
theorem bJ.value(h:vK fr ops i rest k o)(j:fr.kind=.normal){v}{w2}(a:∀T d,(execOp fr.eval o).run p (re T d w)=.ok (.value v) (re T d w2)/\(execOp fr.eval o).events p (re T d w) #[]=#[])(b:w.heap.size<=w2.heap.size){nH}(n:fr.finish v=nH)(g:bJ p A I m (G nH J) w2):bJ p A I (m+1) (G fr J) w:=by
 subst n
 exact⟨rfl,.inl h.mode,_,w2,#[],λT d=>by rw[mM h (by rw[j];simp) (a T d).1,(a T d).2];rfl,b,by simp,g⟩
theorem bJ.enter(h:vK fr ops i rest k o)(j:fr.kind=.normal){f}{a}(b:∀T d,(execOp fr.eval o).run p (re T d w)=.ok (.enter f a) (re T d w)/\(execOp fr.eval o).events p (re T d w) #[]=#[])(g:bJ p A I m (G (Frame.enter p f a .normal) (fr::J)) w):bJ p A I (m+1) (G fr J) w:=
 ⟨rfl,.inl h.mode,_,w,#[],λT d=>by rw[LZ h (by rw[j];simp) (b T d).1,(b T d).2];rfl,afA _,by simp,g⟩
theorem bJ.store(h:vK fr ops i rest k o)(r:fr.kind=.normal)(g:(p.funcs[fr.fn]?).any (·.norace)=false){w2}{a}(b:∀T d,(execOp fr.eval o).run p (re T d w)=.ok .skip (re T d w2)/\(execOp fr.eval o).events p (re T d w) #[]=#[⟨.cell a,true,false⟩])(e:w.heap.size<=w2.heap.size)(q:a.block<w2.heap.size)(n:fr.finish undef=nH)(j:bJ p A I m (G nH J) w2):bJ p A I (m+1) (G fr J) w:=by
 subst n
 exact⟨rfl,.inl h.mode,_,w2,#[⟨.cell a,true,false⟩],λT d=>by rw[a0U h (by grind) (b T d).1,(b T d).2,seen_plain g (by simp[Loc.isMemory])];simp,e,by simp;exact⟨a,true,rfl,q⟩,j⟩
end
namespace au
variable(n:au)
def r1m(m:Int):Array Oper:=#[⟨some 6,Op.makeChan n.eG (Operand.const (Value.int IntKind.i64 m)),n.eG, "journal.go:14",#[],none⟩,⟨some 5,Op.alloc n.eG,0, "journal.go:14",#[],none⟩,⟨none,Op.store n.eG (Operand.tmp 5) (Operand.tmp 6),0, "journal.go:14",#[⟨1,.data⟩,⟨0,.data⟩,⟨0,.phase⟩,⟨1,.phase⟩],none⟩]
def st1:Oper:=⟨none,Op.store n.eG (Operand.tmp 5) (Operand.tmp 6),0, "journal.go:14",#[⟨1,.data⟩,⟨0,.data⟩,⟨0,.phase⟩,⟨1,.phase⟩],none⟩
def goP:Oper:=⟨none,Op.go {callee:=Callee.value (Operand.tmp 7),args:=#[],argTypes:=#[]},0, "journal.go:15",#[⟨0,.data⟩],none⟩
def goQ:Oper:=⟨none,Op.call {callee:=Callee.value (Operand.tmp 7),args:=#[],argTypes:=#[]},0, "journal.go:15",#[⟨0,.data⟩],none⟩
def mkf:Oper:=⟨some 7,Op.makeFunc (Fn.func n.qX) #[] #[Operand.tmp 5,Operand.tmp 3,Operand.tmp 2],1, "journal.go:15",#[],none⟩
def Dy(o:Oper):Array Oper:=#[n.mkf,o]
def gN:Code:=(Code.region 3 (r3 n) false).seq Code.ret
def yz(m:Int)(o:Oper):Code:=(Code.region 0 (r0 n) false).seq ((Code.region 1 (r1m n m) false).seq ((Code.region 2 (Dy n o) false).seq n.gN))
def fB(t:Array Value)(d:List Item):Frame:={fn:=n.wZ,tmps:=t,todo:=d,defers:=[],mode:=.run,kind:=.normal,roundOf:=none}
def clo(N:Nat):Value:=.func (.func n.qX) #[] #[.pointer (some ⟨N+3,0,none⟩),.pointer (some ⟨N+1,0,none⟩),.pointer (some ⟨N,0,none⟩)]
def wh(d a:Value)(N:Nat):Array Value:=#[d,a,.pointer (some ⟨N,0,none⟩),.pointer (some ⟨N+1,0,none⟩),.chan none,.pointer (some ⟨N+3,0,none⟩),.chan (some (N+2)),n.clo N,undef]
def iZ(w:World)(d b:Value)(m:Nat):World:=
 {w with heap:=(((w.heap.push (.cells d.cells n.kW (0,0))).push (.cells b.cells n.iY (0,0))).push (.chan m #[] false 0 0 false)).push (.cells #[.chan (some (w.heap.size+2))] n.eG (0,0))}
end au
section
variable{p:Program}{n:au}{L O:Value}{X V:ChanDir}{U:TypeInfo}(I:TF p n L O X V U){J:Bool}{A:Goroutine->World->Prop}
include I
theorem Po{m:Int}(r:0<=m/\m<=1099511627776)(k:p.funcs[n.wZ]? =some f)(g:f.ntmps=9)(j:f.body=some (n.yz m o))(d l:Value)(q:List Frame)(w:World)(s:A (G (n.fB (n.wh d l w.heap.size) [.inRegion (n.Dy o) [1],.code n.gN]) q) (n.iZ w d l m.toNat)):bJ p J A 15 (G (Frame.enter p n.wZ #[d,l] .normal) q) w:=by
 have z:Frame.enter p n.wZ #[d,l] .normal=n.fB #[d,l,undef,undef,undef,undef,undef,undef,undef] [.code (n.yz m o)]:=Al
 rw[z]
 refine .code rfl rfl rfl (nH:=n.fB #[d,l,undef,undef,undef,undef,undef,undef,undef] [.code (Code.region 0 (au.r0 n) false),.code ((Code.region 1 (n.r1m m) false).seq ((Code.region 2 (n.Dy o) false).seq n.gN))]) rfl ?_;refine .code rfl rfl rfl (nH:=n.fB #[d,l,undef,undef,undef,undef,undef,undef,undef] [.inRegion (au.r0 n) [0,1,2],.code ((Code.region 1 (n.r1m m) false).seq ((Code.region 2 (n.Dy o) false).seq n.gN))]) rfl ?_;refine .value (w2:={w with heap:=w.heap.push (.cells d.cells n.kW (0,0))}) (v:=.pointer (some ⟨w.heap.size,0,none⟩)) ⟨rfl,rfl,rfl,rfl,rfl⟩ rfl (λT x=>ZP (t:=n.kW) (x:=.tmp 0) rfl (by simp[re]) rfl) (by simp) (nH:=n.fB #[d,l,.pointer (some ⟨w.heap.size,0,none⟩),undef,undef,undef,undef,undef,undef] [.inRegion (au.r0 n) [1,2],.code ((Code.region 1 (n.r1m m) false).seq ((Code.region 2 (n.Dy o) false).seq n.gN))]) rfl ?_;refine .value (w2:={w with heap:=(w.heap.push (.cells d.cells n.kW (0,0))).push (.cells l.cells n.iY (0,0))}) (v:=.pointer (some ⟨w.heap.size+1,0,none⟩)) ⟨rfl,rfl,rfl,rfl,rfl⟩ rfl (λT x=>ZP (t:=n.iY) (x:=.tmp 1) rfl (by simp[re]) rfl) (by simp) (nH:=n.fB #[d,l,.pointer (some ⟨w.heap.size,0,none⟩),.pointer (some ⟨w.heap.size+1,0,none⟩),undef,undef,undef,undef,undef] [.inRegion (au.r0 n) [2],.code ((Code.region 1 (n.r1m m) false).seq ((Code.region 2 (n.Dy o) false).seq n.gN))]) rfl ?_;refine .value (w2:={w with heap:=(w.heap.push (.cells d.cells n.kW (0,0))).push (.cells l.cells n.iY (0,0))}) (v:=.chan none) ⟨rfl,rfl,rfl,rfl,rfl⟩ rfl (λT x=>rQ (x:=.const (.chan none)) (.inr rfl) rfl) (by simp) (nH:=n.fB #[d,l,.pointer (some ⟨w.heap.size,0,none⟩),.pointer (some ⟨w.heap.size+1,0,none⟩),.chan none,undef,undef,undef,undef] [.inRegion (au.r0 n) [],.code ((Code.region 1 (n.r1m m) false).seq ((Code.region 2 (n.Dy o) false).seq n.gN))]) rfl ?_;refine .pop rfl rfl (nH:=n.fB #[d,l,.pointer (some ⟨w.heap.size,0,none⟩),.pointer (some ⟨w.heap.size+1,0,none⟩),.chan none,undef,undef,undef,undef] [.code ((Code.region 1 (n.r1m m) false).seq ((Code.region 2 (n.Dy o) false).seq n.gN))]) rfl ?_;refine .code rfl rfl rfl (nH:=n.fB #[d,l,.pointer (some ⟨w.heap.size,0,none⟩),.pointer (some ⟨w.heap.size+1,0,none⟩),.chan none,undef,undef,undef,undef] [.code (Code.region 1 (n.r1m m) false),.code ((Code.region 2 (n.Dy o) false).seq n.gN)]) rfl ?_;refine .code rfl rfl rfl (nH:=n.fB #[d,l,.pointer (some ⟨w.heap.size,0,none⟩),.pointer (some ⟨w.heap.size+1,0,none⟩),.chan none,undef,undef,undef,undef] [.inRegion (n.r1m m) [0,1,2],.code ((Code.region 2 (n.Dy o) false).seq n.gN)]) rfl ?_;refine .value (w2:={w with heap:=((w.heap.push (.cells d.cells n.kW (0,0))).push (.cells l.cells n.iY (0,0))).push (.chan m.toNat #[] false 0 0 false)}) (v:=.chan (some (w.heap.size+2))) ⟨rfl,rfl,rfl,rfl,rfl⟩ rfl (λT x=>run_makeChan I r rfl rfl (by simp[re])) (by simp) (nH:=n.fB #[d,l,.pointer (some ⟨w.heap.size,0,none⟩),.pointer (some ⟨w.heap.size+1,0,none⟩),.chan none,undef,.chan (some (w.heap.size+2)),undef,undef] [.inRegion (n.r1m m) [1,2],.code ((Code.region 2 (n.Dy o) false).seq n.gN)]) rfl ?_;refine .value (w2:={w with heap:=(((w.heap.push (.cells d.cells n.kW (0,0))).push (.cells l.cells n.iY (0,0))).push (.chan m.toNat #[] false 0 0 false)).push (.cells #[.chan none] n.eG (0,0))}) (v:=.pointer (some ⟨w.heap.size+3,0,none⟩)) ⟨rfl,rfl,rfl,rfl,rfl⟩ rfl (λT x=>Xh I rfl (by simp[re])) (by simp) (nH:=n.fB #[d,l,.pointer (some ⟨w.heap.size,0,none⟩),.pointer (some ⟨w.heap.size+1,0,none⟩),.chan none,.pointer (some ⟨w.heap.size+3,0,none⟩),.chan (some (w.heap.size+2)),undef,undef] [.inRegion (n.r1m m) [2],.code ((Code.region 2 (n.Dy o) false).seq n.gN)]) rfl ?_;refine .store (w2:=n.iZ w d l m.toNat) (a:=⟨w.heap.size+3,0,none⟩) ⟨rfl,rfl,rfl,rfl,rfl⟩ rfl (I.quiet _ (.inl rfl)) (λT x=> ?_) (by simp[au.iZ]) (by simp[au.iZ]) (nH:=n.fB #[d,l,.pointer (some ⟨w.heap.size,0,none⟩),.pointer (some ⟨w.heap.size+1,0,none⟩),.chan none,.pointer (some ⟨w.heap.size+3,0,none⟩),.chan (some (w.heap.size+2)),undef,undef] [.inRegion (n.r1m m) [],.code ((Code.region 2 (n.Dy o) false).seq n.gN)]) rfl ?_
 ·have:=Xi I (p:=p) (w:=re T x {w with heap:=(((w.heap.push (.cells d.cells n.kW (0,0))).push (.cells l.cells n.iY (0,0))).push (.chan m.toNat #[] false 0 0 false)).push (.cells #[.chan none] n.eG (0,0))}) (e:=Frame.eval (n.fB #[d,l,.pointer (some ⟨w.heap.size,0,none⟩),.pointer (some ⟨w.heap.size+1,0,none⟩),.chan none,.pointer (some ⟨w.heap.size+3,0,none⟩),.chan (some (w.heap.size+2)),undef,undef] [.inRegion (n.r1m m) [2],.code ((Code.region 2 (n.Dy o) false).seq n.gN)])) (x:=.tmp 5) (y:=.tmp 6) (v:=.chan (some (w.heap.size+2))) (u:=.chan none) (b:=w.heap.size+3) rfl (o:=n.st1) rfl rfl rfl rfl (by simp only[re];rw[agh,afN (by simp)])
  refine⟨this.1.trans ?_,this.2⟩
  congr 1
  simp only[World.setCell,re,au.iZ,World.mk.injEq,and_true];apply Array.ext_getElem?;intro i;simp only[agT,agh,Array.size_push]
  by_cases B:i=w.heap.size+3<;>grind
 refine .pop rfl rfl (nH:=n.fB #[d,l,.pointer (some ⟨w.heap.size,0,none⟩),.pointer (some ⟨w.heap.size+1,0,none⟩),.chan none,.pointer (some ⟨w.heap.size+3,0,none⟩),.chan (some (w.heap.size+2)),undef,undef] [.code ((Code.region 2 (n.Dy o) false).seq n.gN)]) rfl ?_;refine .code rfl rfl rfl (nH:=n.fB #[d,l,.pointer (some ⟨w.heap.size,0,none⟩),.pointer (some ⟨w.heap.size+1,0,none⟩),.chan none,.pointer (some ⟨w.heap.size+3,0,none⟩),.chan (some (w.heap.size+2)),undef,undef] [.code (Code.region 2 (n.Dy o) false),.code n.gN]) rfl ?_;refine .code rfl rfl rfl (nH:=n.fB #[d,l,.pointer (some ⟨w.heap.size,0,none⟩),.pointer (some ⟨w.heap.size+1,0,none⟩),.chan none,.pointer (some ⟨w.heap.size+3,0,none⟩),.chan (some (w.heap.size+2)),undef,undef] [.inRegion (n.Dy o) [0,1],.code n.gN]) rfl ?_
 refine .value (w2:=n.iZ w d l m.toNat) (v:=n.clo w.heap.size) ⟨rfl,rfl,rfl,rfl,rfl⟩ rfl (λT x=>by
   have h:=Rh (p:=p) (w:=re T x (n.iZ w d l m.toNat)) (e:=Frame.eval (n.fB #[d,l,.pointer (some ⟨w.heap.size,0,none⟩),.pointer (some ⟨w.heap.size+1,0,none⟩),.chan none,.pointer (some ⟨w.heap.size+3,0,none⟩),.chan (some (w.heap.size+2)),undef,undef] [.inRegion (n.Dy o) [0,1],.code n.gN])) (f:=.func n.qX) (a:=#[]) (c:=#[.tmp 5,.tmp 3,.tmp 2]) (o:=n.mkf) rfl;have e:(#[Operand.tmp 5,Operand.tmp 3,Operand.tmp 2].map (Frame.eval (n.fB #[d,l,.pointer (some ⟨w.heap.size,0,none⟩),.pointer (some ⟨w.heap.size+1,0,none⟩),.chan none,.pointer (some ⟨w.heap.size+3,0,none⟩),.chan (some (w.heap.size+2)),undef,undef] [.inRegion (n.Dy o) [0,1],.code n.gN])))=#[.pointer (some ⟨w.heap.size+3,0,none⟩),.pointer (some ⟨w.heap.size+1,0,none⟩),.pointer (some ⟨w.heap.size,0,none⟩)]:=by simp[Frame.eval,au.fB]
   rw[e,Array.map_empty]at h;exact h) (afA _) (nH:=n.fB (n.wh d l w.heap.size) [.inRegion (n.Dy o) [1],.code n.gN]) rfl ?_
 exact s
end
def dA(p:Program)(a:Bool)(W:World->Prop)(E:Event->Prop)(b:Goroutine->Prop):Nat->Goroutine->Prop
 |0,g=>b g
 |n+1,g=>g.status=.running/\core g=g/\(g.frame.mode=.run\/2<=g.callers.length)/\∃d h,(∀w,W w->stepG p a g w=.go d w h)/\(∀e∈h,E e)/\dA p a W E b n d
where core (g:Goroutine):Goroutine:={g with status:=.running,offers:=none}
section
variable{p:Program}{A:Bool}{W:World->Prop}{E:Event->Prop}{fr:Frame}{J:List Frame}{k:List Item}{ops:Array Oper}{i:Nat}{rest:List Nat}{o:Oper}{I:Goroutine->Prop}{m:Nat}
theorem dA.imp{a}(h:∀g,I g->a g):∀{m:Nat}{g:Goroutine},dA p A W E I m g->dA p A W E a m g
 |0,_,b=>h _ b
 |_+1,_,⟨q,n,l,r,s,j,e,d⟩=>⟨q,n,l,r,s,j,e,dA.imp h d⟩
theorem dA.code{c}{l:List Item}(e:fr.todo=.code c::k)(d:fr.mode=.run)(h:(match c with
  | .seq a b=>some (.code a::.code b::k)
  | .region _ ops false=>some (.inRegion ops (List.range ops.size)::k)
  | .block id b=>some (.code b::.inBlock id::k)
  | .loop b=>some (.code b::.inLoop b::k)
  | .skip=>some k
  | .exit id=>exitTo id k
  |_=>none)=some l){nH}(j:{fr with todo:=l}=nH)(g:dA p A W E I m (G nH J)):dA p A W E I (m+1) (G fr J):=by
 subst j
 exact⟨rfl,rfl,.inl d,_,_,λw _=>vv e d h,by simp,g⟩
theorem dA.pop(b:fr.todo=.inRegion ops []::k)(a:fr.mode=.run)(e:{fr with todo:=k}=nH)(d:dA p A W E I m (G nH J)):dA p A W E I (m+1) (G fr J):=by
 subst e
 exact⟨rfl,rfl,.inl a,_,_,λw _=>TR b a,by simp,d⟩
theorem dA.cond{x}{a b}{t}(g:fr.todo=.code (.cond x a b)::k)(d:fr.mode=.run)(e:fr.eval x=.bool t){nH}(j:{fr with todo:=.code (if t then a else b)::k}=nH)(h:dA p A W E I m (G nH J)):dA p A W E I (m+1) (G fr J):=by
 subst j
 exact⟨rfl,rfl,.inl d,_,_,λw _=>a0T g d e,by simp,h⟩
theorem dA.ret(b:fr.todo=.code .ret::k)(a:fr.mode=.run)(d:fr.roundOf=none){nH}(g:{fr with mode:=.returning}=nH)(e:dA p A W E I m (G nH J)):dA p A W E I (m+1) (G fr J):=by
 subst g
 exact⟨rfl,rfl,.inl a,_,_,λw _=>a4p b a d,by simp,e⟩
theorem dA.value(h:vK fr ops i rest k o)(n:fr.kind=.normal){v}(j:(p.funcs[fr.fn]?).any (·.norace)=false){es}(a:∀e∈es,e.loc.isMemory=true/\E e)(g:∀w,W w->(execOp fr.eval o).run p w=.ok (.value v) w/\(execOp fr.eval o).events p w #[]=es){nH}(q:fr.finish v=nH)(l:dA p A W E I m (G nH J)):dA p A W E I (m+1) (G fr J):=by
 subst q;refine⟨rfl,rfl,.inl h.mode,_,es,λw d=> ?_,λe b=>(a e b).2,l⟩
 rw[mM h (by rw[n];simp) (g w d).1,(g w d).2,seen_plain j λe b=>(a e b).1];simp
theorem Pp{t}(H:fr.mode=.returning)(j:fr.defers=[])(a:fr.kind=.normal)(b:p.funcs[fr.fn]? =some f)(hr:f.results=#[.tmp t]):
  stepG p A (G fr (c::J)) w=.go (G (c.finish (fr.tmps.getD t undef)) J) w #[]:=by
 have e:stepG p A (G fr (c::J)) w=unwind p A fr (c::J) none w:=dQ
 have g:=results_tmp hr fr.tmps p w;have d:=Go.Conc.events_results_tmp (P:=p) (w:=w) hr fr.tmps
 rw[e]
 unfold unwind;simp only[j,H,b,Sem.runT_eq,g];unfold doReturn;simp only[a]
 rw[d #[]]
 rfl
theorem bJ.back{p}{A}{I}{m}{fr}{J}{t}(h:fr.mode=.returning)(q:fr.defers=[])(j:fr.kind=.normal)(n:p.funcs[fr.fn]? =some f)(e:f.results=#[.tmp t])(b:fr.tmps.getD t undef=v)(a:J≠[])(g:bJ p A I m (G (c.finish v) J) w):bJ p A I (m+1) (G fr (c::J)) w:=by
 subst b
 exact⟨rfl,.inr (by cases J with|nil=>exact absurd rfl a|cons=>simp[G]),_,_,_,λT d=>Pp h q j n e,afA _,by simp,g⟩
theorem bJ.imp{p}{A}{I a}(h:∀g w,I g w->a g w):∀{m:Nat}{g:Goroutine}{w:World},bJ p A I m g w->bJ p A a m g w
 |0,_,_,d=>h _ _ d
 |_+1,_,_,⟨r,q,s,b,t,n,l,j,e⟩=>⟨r,q,s,b,t,n,l,j,bJ.imp h e⟩
theorem bJ.at_{p}{A}{I}(h:∀g w T d,I g w->I g (re T d w))(T)(d):∀{m:Nat}{g:Goroutine}{w:World},bJ p A I m g w->bJ p A I m g (re T d w)
 |0,_,_,b=>h _ _ _ _ b
 |_+1,_,_,⟨r,q,s,a,t,n,l,j,e⟩=>⟨r,q,s,re T d a,t,λy u=>n y u,l,j,bJ.at_ h T d e⟩
theorem dA.run{p}{A}{I}{w}:∀{m:Nat}{g:Goroutine},dA p A (λ_=>True) (λ_=>False) I m g->bJ p A (λx v=>I x/\v=w) m g w
 |0,_,a=>⟨a,rfl⟩
 |_+1,_,⟨q,_,n,r,s,l,j,h⟩=>⟨q,n,r,w,s,λT d=>l _ trivial,afA _,λe b=>(j e b).elim,dA.run h⟩
theorem dA.back{t}(g:fr.mode=.returning)(l:fr.defers=[])(h:fr.kind=.normal)(j:p.funcs[fr.fn]? =some f)(d:f.results=#[.tmp t])(b:fr.tmps.getD t undef=v)(a:J≠[])(e:dA p A W E I m (G (c.finish v) J)):dA p A W E I (m+1) (G fr (c::J)):=by
 subst b
 exact⟨rfl,rfl,.inr (by cases J with|nil=>exact absurd rfl a|cons=>simp[G]),_,_,λw _=>Pp g l h j d,by simp,e⟩
end
def kL(n:au)(a d:Nat)(w:World):Prop:=w.heap[a]? =some (.cells #[.chan (some d)] n.eG (0,0))
def fG(a:Nat)(e:Event):Prop:=e=⟨.cell ⟨a,0,none⟩,false,false⟩
section
variable{p:Program}{n:au}{J L:Value}{V U:ChanDir}{O:TypeInfo}(I:TF p n J L V U O){h:Bool}{A:Goroutine->Prop}{m:Nat}
include I
theorem a4v(k:p.funcs[n.wZ]? =some f)(i:f.results=#[.tmp 4]){d a:Value}{e:List Frame}(b:e≠[])(j:dA p h (kL n (N+3) (N+2)) (fG (N+3)) A m (G (c.finish (.chan (some (N+2)))) e)):
  dA p h (kL n (N+3) (N+2)) (fG (N+3)) A (m+8) (G (n.fB (n.wh d a N) [.inRegion (n.Dy o) [],.code n.gN]) (c::e)):=by
 refine .pop rfl rfl (nH:=n.fB (n.wh d a N) [.code n.gN]) rfl ?_;refine .code rfl rfl rfl (nH:=n.fB (n.wh d a N) [.code (Code.region 3 (au.r3 n) false),.code .ret]) rfl ?_;refine .code rfl rfl rfl (nH:=n.fB (n.wh d a N) [.inRegion (au.r3 n) [0,1],.code .ret]) rfl ?_
 refine .value (v:=.chan (some (N+2))) (es:=#[⟨.cell ⟨N+3,0,none⟩,false,false⟩]) ⟨rfl,rfl,rfl,rfl,rfl⟩ rfl (I.quiet _ (.inl rfl)) (by simp[Loc.isMemory,fG]) (λw g=>Eu I (x:=.tmp 5) rfl rfl g)
  (nH:=n.fB #[d,a,.pointer (some ⟨N,0,none⟩),.pointer (some ⟨N+1,0,none⟩),.chan none,.pointer (some ⟨N+3,0,none⟩),.chan (some (N+2)),n.clo N,.chan (some (N+2))] [.inRegion (au.r3 n) [1],.code .ret]) rfl ?_
 refine .value (v:=.chan (some (N+2))) (es:=#[]) ⟨rfl,rfl,rfl,rfl,rfl⟩ rfl (I.quiet _ (.inl rfl)) (by simp) (λw g=>rQ (x:=.tmp 8) (.inr rfl) rfl)
  (nH:=n.fB #[d,a,.pointer (some ⟨N,0,none⟩),.pointer (some ⟨N+1,0,none⟩),.chan (some (N+2)),.pointer (some ⟨N+3,0,none⟩),.chan (some (N+2)),n.clo N,.chan (some (N+2))] [.inRegion (au.r3 n) [],.code .ret]) rfl ?_
 refine .pop rfl rfl (nH:=n.fB #[d,a,.pointer (some ⟨N,0,none⟩),.pointer (some ⟨N+1,0,none⟩),.chan (some (N+2)),.pointer (some ⟨N+3,0,none⟩),.chan (some (N+2)),n.clo N,.chan (some (N+2))] [.code .ret]) rfl ?_;refine .ret rfl rfl rfl rfl ?_;exact .back rfl rfl rfl k i rfl b j
end
end
section
open Go.Conc (G)
namespace au
variable(n:au)
def Xj:Oper:=⟨none,Op.binOp BinOp.lss n.qN (Operand.tmp 1) (Operand.const (Value.int IntKind.i64 0)) n.qN,n.qU, "journal.go:48",#[],none⟩
def blk:Code:=(Code.region 5 (a5 n) false).seq ((Code.region 6 (a6 n) false).seq ((Code.region 7 (a7 n) false).seq (Code.cond (Operand.tmp 23) (Code.region 8 (a8 n) false) Code.skip)))
def nQ:Code:=(Code.cond (Operand.tmp 13) Code.skip (Code.exit 0)).seq (Code.block 1 n.blk)
def bQ:Code:=(Code.region 4 (a4 n) false).seq n.nQ
def gF:Code:=(Code.region 9 (a9 n) false).seq Code.ret
def FQ(a:Array Oper):Code:=(Code.region 0 (a0 n) false).seq ((Code.region 1 (a1 n) false).seq ((Code.region 2 a false).seq (((Code.region 3 (a3 n) false).seq (Code.block 0 n.bQ.loop)).seq n.gF)))
def eF(t:Array Value)(a:List Item):Frame:={fn:=n.uQ,tmps:=t,todo:=a,defers:=[],mode:=.run,kind:=.normal,roundOf:=none}
def FR(d t:Value)(N:Nat):Array Value:=#[d,t,undef,undef,.pointer (some ⟨N,0,none⟩),.pointer (some ⟨N+1,0,none⟩),.bool false,undef,undef,undef,undef,undef,undef,undef,undef,undef,undef,undef,undef,undef,undef,undef,undef,undef,undef,undef,undef]
def Dz(d t:Value)(N:Nat):Array Value:=#[d,t,undef,undef,.pointer (some ⟨N,0,none⟩),.pointer (some ⟨N+1,0,none⟩),.bool false,undef,d,d,undef,undef,undef,undef,undef,undef,undef,undef,undef,undef,undef,undef,undef,undef,undef,undef,undef]
def Df(d t a:Value)(N:Nat):Array Value:=#[d,t,undef,undef,.pointer (some ⟨N,0,none⟩),.pointer (some ⟨N+1,0,none⟩),.bool false,undef,d,d,a,undef,undef,undef,undef,undef,undef,undef,undef,undef,undef,undef,undef,undef,undef,undef,undef]
def a4w(d t a c:Value)(N:Nat):Array Value:=#[d,t,undef,undef,.pointer (some ⟨N,0,none⟩),.pointer (some ⟨N+1,0,none⟩),.bool false,undef,d,d,a,c,undef,undef,undef,undef,undef,undef,undef,undef,undef,undef,undef,undef,undef,undef,undef]
def KC(w:World)(a:Value):World:={w with heap:=(w.heap.push (.cells a.cells n.l9 (0,0))).push (.cells a.cells n.l9 (0,0))}
def fP:Code:=((Code.region 3 (a3 n) false).seq (Code.block 0 n.bQ.loop)).seq n.gF
def atEnd:List Item:=[.inBlock 0,.code n.gF]
end au
section
variable{p:Program}{n:au}{I L:Value}{V U:ChanDir}{O:TypeInfo}(J:TF p n I L V U O){h:Bool}{A:Goroutine->World->Prop}{m:Nat}
include J
theorem Pq{a:Array Oper}(i:p.funcs[n.uQ]? =some f)(b:f.ntmps=27)(j:f.body=some (n.FQ a))(d t:Value)(e:List Frame)(w:World)(q:bJ p h A m (G (n.eF #[d,t,undef,undef,.pointer (some ⟨w.heap.size,0,none⟩),.pointer (some ⟨w.heap.size+1,0,none⟩),undef,undef,undef,undef,undef,undef,undef,undef,undef,undef,undef,undef,undef,undef,undef,undef,undef,undef,undef,undef,undef] [.inRegion a (List.range a.size),.code n.fP]) e) (n.KC w I)):bJ p h A (m+10) (G (Frame.enter p n.uQ #[d,t] .normal) e) w:=by
 have r:Frame.enter p n.uQ #[d,t] .normal=n.eF #[d,t,undef,undef,undef,undef,undef,undef,undef,undef,undef,undef,undef,undef,undef,undef,undef,undef,undef,undef,undef,undef,undef,undef,undef,undef,undef] [.code (n.FQ a)]:=by
  unfold Frame.enter;rw[i];simp only[agy,b,Option.bind_some,j,Option.getD_some];have g:(#[d,t]++Array.replicate (27-(#[d,t]:Array Value).size) undef)=#[d,t,undef,undef,undef,undef,undef,undef,undef,undef,undef,undef,undef,undef,undef,undef,undef,undef,undef,undef,undef,undef,undef,undef,undef,undef,undef]:=by apply ahd;simp[List.replicate_succ]
  rw[g];rfl
 rw[r]
 refine .code rfl rfl rfl (nH:=n.eF #[d,t,undef,undef,undef,undef,undef,undef,undef,undef,undef,undef,undef,undef,undef,undef,undef,undef,undef,undef,undef,undef,undef,undef,undef,undef,undef] [.code (Code.region 0 (au.a0 n) false),.code ((Code.region 1 (au.a1 n) false).seq ((Code.region 2 a false).seq n.fP))]) rfl ?_;refine .code rfl rfl rfl (nH:=n.eF #[d,t,undef,undef,undef,undef,undef,undef,undef,undef,undef,undef,undef,undef,undef,undef,undef,undef,undef,undef,undef,undef,undef,undef,undef,undef,undef] [.inRegion (au.a0 n) [0],.code ((Code.region 1 (au.a1 n) false).seq ((Code.region 2 a false).seq n.fP))]) rfl ?_;refine .value (w2:={w with heap:=w.heap.push (.cells I.cells n.l9 (0,0))}) (v:=.pointer (some ⟨w.heap.size,0,none⟩)) ⟨rfl,rfl,rfl,rfl,rfl⟩ rfl (λT x=>L6 J rfl (by simp[re])) (by simp) (nH:=n.eF #[d,t,undef,undef,.pointer (some ⟨w.heap.size,0,none⟩),undef,undef,undef,undef,undef,undef,undef,undef,undef,undef,undef,undef,undef,undef,undef,undef,undef,undef,undef,undef,undef,undef] [.inRegion (au.a0 n) [],.code ((Code.region 1 (au.a1 n) false).seq ((Code.region 2 a false).seq n.fP))]) rfl ?_;refine .pop rfl rfl (nH:=n.eF #[d,t,undef,undef,.pointer (some ⟨w.heap.size,0,none⟩),undef,undef,undef,undef,undef,undef,undef,undef,undef,undef,undef,undef,undef,undef,undef,undef,undef,undef,undef,undef,undef,undef] [.code ((Code.region 1 (au.a1 n) false).seq ((Code.region 2 a false).seq n.fP))]) rfl ?_;refine .code rfl rfl rfl (nH:=n.eF #[d,t,undef,undef,.pointer (some ⟨w.heap.size,0,none⟩),undef,undef,undef,undef,undef,undef,undef,undef,undef,undef,undef,undef,undef,undef,undef,undef,undef,undef,undef,undef,undef,undef] [.code (Code.region 1 (au.a1 n) false),.code ((Code.region 2 a false).seq n.fP)]) rfl ?_;refine .code rfl rfl rfl (nH:=n.eF #[d,t,undef,undef,.pointer (some ⟨w.heap.size,0,none⟩),undef,undef,undef,undef,undef,undef,undef,undef,undef,undef,undef,undef,undef,undef,undef,undef,undef,undef,undef,undef,undef,undef] [.inRegion (au.a1 n) [0],.code ((Code.region 2 a false).seq n.fP)]) rfl ?_;refine .value (w2:=n.KC w I) (v:=.pointer (some ⟨w.heap.size+1,0,none⟩)) ⟨rfl,rfl,rfl,rfl,rfl⟩ rfl (λT x=>L6 J rfl (by simp[re])) (by simp[au.KC]) (nH:=n.eF #[d,t,undef,undef,.pointer (some ⟨w.heap.size,0,none⟩),.pointer (some ⟨w.heap.size+1,0,none⟩),undef,undef,undef,undef,undef,undef,undef,undef,undef,undef,undef,undef,undef,undef,undef,undef,undef,undef,undef,undef,undef] [.inRegion (au.a1 n) [],.code ((Code.region 2 a false).seq n.fP)]) rfl ?_;refine .pop rfl rfl (nH:=n.eF #[d,t,undef,undef,.pointer (some ⟨w.heap.size,0,none⟩),.pointer (some ⟨w.heap.size+1,0,none⟩),undef,undef,undef,undef,undef,undef,undef,undef,undef,undef,undef,undef,undef,undef,undef,undef,undef,undef,undef,undef,undef] [.code ((Code.region 2 a false).seq n.fP)]) rfl ?_;refine .code rfl rfl rfl (nH:=n.eF #[d,t,undef,undef,.pointer (some ⟨w.heap.size,0,none⟩),.pointer (some ⟨w.heap.size+1,0,none⟩),undef,undef,undef,undef,undef,undef,undef,undef,undef,undef,undef,undef,undef,undef,undef,undef,undef,undef,undef,undef,undef] [.code (Code.region 2 a false),.code n.fP]) rfl ?_;refine bJ.code (fr:=n.eF #[d,t,undef,undef,.pointer (some ⟨w.heap.size,0,none⟩),.pointer (some ⟨w.heap.size+1,0,none⟩),undef,undef,undef,undef,undef,undef,undef,undef,undef,undef,undef,undef,undef,undef,undef,undef,undef,undef,undef,undef,undef] [.code (Code.region 2 a false),.code n.fP]) (c:=Code.region 2 a false) (k:=[.code n.fP]) (l:=[.inRegion a (List.range a.size),.code n.fP]) (nH:=n.eF #[d,t,undef,undef,.pointer (some ⟨w.heap.size,0,none⟩),.pointer (some ⟨w.heap.size+1,0,none⟩),undef,undef,undef,undef,undef,undef,undef,undef,undef,undef,undef,undef,undef,undef,undef,undef,undef,undef,undef,undef,undef] [.inRegion a (List.range a.size),.code n.fP]) rfl rfl rfl rfl ?_;exact q
theorem Ps{a:Array Oper}(d t:Value)(N:Nat)(b:List Frame)(w:World)(e:bJ p h A m (G (n.eF (au.Dz d t N) [.inRegion (au.a3 n) [2,3],.code (Code.block 0 n.bQ.loop),.code n.gF]) b) w):bJ p h A (m+6) (G (n.eF (au.FR d t N) [.inRegion a [],.code n.fP]) b) w:=by
 refine .pop rfl rfl (nH:=n.eF (au.FR d t N) [.code n.fP]) rfl ?_;refine .code rfl rfl rfl (nH:=n.eF (au.FR d t N) [.code ((Code.region 3 (au.a3 n) false).seq (Code.block 0 n.bQ.loop)),.code n.gF]) rfl ?_;refine .code rfl rfl rfl (nH:=n.eF (au.FR d t N) [.code (Code.region 3 (au.a3 n) false),.code (Code.block 0 n.bQ.loop),.code n.gF]) rfl ?_;refine .code rfl rfl rfl (nH:=n.eF (au.FR d t N) [.inRegion (au.a3 n) [0,1,2,3],.code (Code.block 0 n.bQ.loop),.code n.gF]) rfl ?_
 refine .value (w2:=w) (v:=d) ⟨rfl,rfl,rfl,rfl,rfl⟩ rfl (λT x=>rQ (x:=.tmp 0) (.inl rfl) rfl) (afA _)
  (nH:=n.eF #[d,t,undef,undef,.pointer (some ⟨N,0,none⟩),.pointer (some ⟨N+1,0,none⟩),.bool false,undef,d,undef,undef,undef,undef,undef,undef,undef,undef,undef,undef,undef,undef,undef,undef,undef,undef,undef,undef] [.inRegion (au.a3 n) [1,2,3],.code (Code.block 0 n.bQ.loop),.code n.gF]) rfl ?_
 refine .value (w2:=w) (v:=d) ⟨rfl,rfl,rfl,rfl,rfl⟩ rfl (λT x=>rQ (x:=.tmp 0) (.inl rfl) rfl) (afA _) (nH:=n.eF (au.Dz d t N) [.inRegion (au.a3 n) [2,3],.code (Code.block 0 n.bQ.loop),.code n.gF]) rfl ?_;exact e
end
section
variable{p:Program}{n:au}{I:Bool}{W:World->Prop}{E:Event->Prop}{J:Goroutine->Prop}{m:Nat}{A:Frame}{L:List Frame}
theorem at_loop{a}(d:A.todo=.inRegion a []::.code (Code.block 0 n.bQ.loop)::[.code n.gF])(b:A.mode=.run)(e:dA p I W E J m (G {A with todo:=.code n.bQ::.inLoop n.bQ::n.atEnd} L)):dA p I W E J (m+3) (G A L):=by
 refine .pop d b rfl ?_;refine .code rfl b rfl rfl ?_;refine .code rfl b rfl rfl ?_;exact e
theorem a7P{k}(b:A.todo=.code n.bQ::k)(a:A.mode=.run)(d:dA p I W E J m (G {A with todo:=.inRegion (au.a4 n) [0,1]::.code n.nQ::k} L)):dA p I W E J (m+2) (G A L):=by refine .code b a rfl rfl ?_;refine .code rfl a rfl rfl ?_;exact d
theorem TU{e}{i}(h:o.op=.extract x i){a}(b:e x=.tuple a)(d:a[i]? =some v):(execOp e o).run p w=.ok (.value v) w/\(execOp e o).events p w #[]=#[]:=by
 unfold execOp;rw[h]
 simp_all[Instr.extract]
theorem aac{k}(e:A.todo=.inRegion (au.a4 n) [1]::.code n.nQ::k)(a:A.mode=.run)(h:A.roundOf=none)(q:A.kind=.normal)(j:(p.funcs[A.fn]?).any (·.norace)=false){b}(g:A.tmps.getD 12 undef=.tuple #[v,.bool b])(d:13<A.tmps.size)(l:dA p I W E J m (G {A with tmps:=A.tmps.setIfInBounds 13 (.bool b),todo:=.code (if b then .skip else .exit 0)::.code (Code.block 1 n.blk)::k} L)):dA p I W E J (m+4) (G A L):=by
 refine .value (v:=.bool b) (es:=#[]) ⟨e,a,h,rfl,rfl⟩ q j (by simp) (λw _=>TU (x:=.tmp 12) (i:=1) rfl g rfl) (nH:={A with tmps:=A.tmps.setIfInBounds 13 (.bool b),todo:=.inRegion (au.a4 n) []::.code n.nQ::k}) (by unfold Frame.finish;rw[e];rfl) ?_;refine .pop rfl a rfl ?_;refine .code rfl a rfl rfl ?_;refine .cond (t:=b) rfl a (by show(A.tmps.setIfInBounds 13 (.bool b)).getD 13 undef=_;rw[afM,ag3];simp[d]) rfl ?_;exact l
end
end
end Go.Proofs.Zb
