import Derived.StepT
import GoSem.Core.Sem
import GoSem.Step
import Derived.Test.YtkdjjnkpfpogkaaGreatDoorKA
set_option maxHeartbeats 8000000
set_option linter.all false
namespace Go
def ax{P:Prop}(h:P:=by rw[afW];omega):P:=h
theorem ag'{P:Prop}(h:P:=by simp[vG,Ac]at N n |-;first|done|(obtain rfl|rfl:=n<;>simp_all[vG,Ac])|(subst n;simp_all[vG,Ac])):P:=h
def aB{P:Prop}(h:P:=by unfold maxLen;omega):P:=h
def aN{P:Prop}(h:P:=by exact⟨rfl,Below.refl _ _⟩):P:=h
def zY{P:Prop}(h:P:=by
 cases c with
 |int k n=>cases d<;>first|exact aj (.int _ _)|exact aF|exact ak
 |float k n=>
  cases d with
  |float k' m=>
   dsimp only;split
   ·exact aP (mJ _) λ_ _ _=>aj (.float _ _)
   ·exact aj (.float _ _)
   ·exact aj (.float _ _)
   ·exact aj (.float _ _)
  |_=>first|exact aF|exact ak
 |string s=>
  cases d with
  |string s'=>
   refine aC (iP (wX _ _ _)) λσ hσ v v' hv=>aP (Ty hv) λ_ _ b=>aj (.string _)
  |_=>first|exact aF|exact ak
 |_=>cases d<;>first|exact aF|exact ak):P:=h
def aQ{P:Prop}(h:P:=by rw[afU];omega):P:=h
def BS{P:Prop}(h:P:=by obtain⟨m1,T,m3,N⟩:=d w' _ V;refine⟨⟨r,met sn a.kind,C,sp,E,rfl,rfl,rfl,by omega,u.out,HM.out,m1,T,m3,N⟩,by simp only[pU];omega⟩):P:=h
def bW{P:Prop}(h:P:=by exact bE (bH (bL _))):P:=h
def aA{P:Prop}(h:P:=by simp[intOf];omega):P:=h
def BU{P:Prop}(h:P:=by
 obtain⟨m1,T,m3,N⟩:=d w' _ V;refine⟨⟨r,met sn a.kind,C++[⟨g,a.kind,a.val⟩],sp,v',rfl,rfl,rfl,by simp;omega,W.out,y.out,(m1.alloc T _).grown b (by have:=T;simp at this |-;omega) (by intro e;have:=(m3.lt _ e.symm).1;omega),afB T (afC (by simp) b.size),?_,dX N (Nat.le_of_lt T) (Jj m3 (Nat.le_succ _)) b⟩,by simp only[pU];omega⟩
 rw[afE,nE]
 exact f):P:=h
def jB{P:Prop}(h:P:=by
 cases op<;>first
  |exact absurd rfl c
  |exact absurd rfl e
  |exact aF
  |exact ak):P:=h
def oo{P:Prop}(h:P:=by
 have hk':(fr.kind==CallKind.early)=false:=by cases e:fr.kind<;>first|rfl|exact absurd e a
 rw[wH h]
 simp only[stepG.apply,Sem.runT_eq,agr,c,hk'];rfl):P:=h
def aW{P:Prop}(h:P:=by rw[IntKind.wrap_i64];omega):P:=h
def bD{P:Prop}(h:P:=by simp only[stepG.exec,p];rfl):P:=h
def ahp{P:Prop}(h:P:=by
 have hd:d[t/3]! =d.toList[t/3]:=by rw[ahb d (t/3) (by omega)];rfl
 rw[a,hd]
 have hr:t%3=0\/t%3=1\/t%3=2:=by omega
 have hdm:=Nat.div_add_mod t 3;obtain r|r|r:=hr
 ·rw[show t/3*3=t from by omega]at b;rw[b,r];rfl
 ·rw[show t/3*3+1=t from by omega]at c;rw[c,r];rfl
 ·rw[show t/3*3+2=t from by omega]at f;rw[f,r];rfl):P:=h
def dh{P:Prop}(h:P:=by unfold ext;rw[afJ (by omega)]):P:=h
def bG{P:Prop}(h:P:=by exact⟨rfl,rfl⟩):P:=h
def sS{P:Prop}(h:P:=by
 cases d with
 |none=>exact aP (aj rfl) λ_ _ l=>aj rfl
 |some hl=>exact aP (uW (hl.mono (Ren.le_trans a c)) _ _) λ_ _ l=>aj rfl):P:=h
def Cv{P:Prop}(h:P:=by simp only[afE,ag4,age];omega):P:=h
def zy{P:Prop}(h:P:=by
 subst d;refine bZ (rD (e.mono a) _) λi g h e=> ?_
 subst e
 (cases f with|none=>exact bZ (p:=λn=>n=0) (aj ⟨rfl,rfl⟩) λ_ _ l c=>aj ⟨rfl,by rw[c]⟩|some c=>exact bZ (rD (c.mono (Ren.le_trans a g)) _) λ_ _ l c=>aj ⟨rfl,by rw[c]⟩)):P:=h
def zZ{P:Prop}(h:P:=by
 cases h with
 |cons hv hl=>
  simp only[List.forIn_cons];cases hv with
  |int k n=>cases k<;>first|exact bE (bH (aZ _))|exact aP (aj rfl) λυ hυ x=>(by cases x with|done s=>exact aj rfl|yield s=>exact b s (hl.mono hυ))
  |_=>exact bE (bH (aZ _))):P:=h
def lS{P:Prop}(h:P:=by rw[HB.out]at h;exact absurd h (by simp)):P:=h
def df{P:Prop}(h:P:=by simp only[stepG.exec,m];rfl):P:=h
def BX{P:Prop}(h:P:=by
 refine⟨rfl,rfl,rfl,?_,λk hk=> ?_⟩
 ·unfold sortWorldK putRowK putRow
  simp[mapBlock,Sort.ahead]
 ·unfold sortWorldK putRowK putRow
  rw[heap_grow_old _ _ (by simp[mapBlock,Sort.ahead];omega)]
  show(Array.modify w.heap g _)[k]? =_
  rw[agT,afJ (by omega)]):P:=h
def gB{P:Prop}(h:P:=by simp only[pU];omega):P:=h
def aO{P:Prop}(h:P:=by simp[Op.operands]):P:=h
def iF{P:Prop}(h:P:=by unfold aV;rw[fU,afN u,afJ E,d]):P:=h
def lK{P:Prop}(h:P:=by rw[afE,List.length_singleton];omega):P:=h
def aht{P:Prop}(h:P:=by
 have:i=0\/i=1\/i=2\/i=3\/i=4\/i=5:=by omega
 obtain rfl|rfl|rfl|rfl|rfl|rfl:=this
 all_goals
  repeat rw[bB _ _ _ _ _ (by omega)]
  exact World.cell?_setCell_same _ _ _ (by (repeat rw[bB _ _ _ _ _ (by omega)]);exact h.ups _ (by omega))):P:=h
def uH{P:Prop}(h:P:=by
 have e1:IntKind.i64.min= -9223372036854775808:=by decide
 have e2:IntKind.i64.max=9223372036854775807:=by decide
 grind[Lit.wf]):P:=h
def zA{P:Prop}(h:P:=by
 dsimp only;split
 ·exact bV trivial
 ·split
  ·exact(arith _ _ _ _).bind λ_ _=>(arith _ _ _ _).bind λ_ _=>bV trivial
  ·split
   ·exact corrected _ _ _ _ _
   ·split
    ·exact corrected _ _ _ _ _
    ·exact bV trivial):P:=h
def zh{P:Prop}(h:P:=by
 refine⟨by simp[x.size,y.size],λi u u' e e'=> ?_⟩
 rw[ah4]at e e'
 rw[x.size]at e
 split at e
 ·rename_i hi;rw[afN hi]at e';exact x.at_ i u u' e e'
 ·rename_i hi;rw[afJ hi]at e';exact y.at_ _ u u' e e'):P:=h
def nV{P:Prop}(h:P:=by
 rw[show(Mode.plain==Mode.atomic)=false from rfl,z]
 simp[<-Array.append_assoc]):P:=h
def zi{P:Prop}(h:P:=by
 refine⟨by simp[x.size],λi u u' e e'=> ?_⟩
 rw[agh]at e e'
 rw[x.size]at e
 split at e
 ·rename_i hi;rw[afN hi]at e';cases e;cases e';exact h
 ·rename_i hi;rw[afJ hi]at e';exact x.at_ i u u' e e'):P:=h
def uC{P:Prop}(h:P:=by exact Ef (bu (bu (bu N X) W) E) (afB r.lt V.size) _ _ _):P:=h
def oZ{P:Prop}(h:P:=by rw[World.cell?_setCell_other _ _ _ _ (Eg (by omega))];exact h.flag i a):P:=h
def o5{P:Prop}(h:P:=by rw[World.cell?_setCell_other _ _ _ _ (Eg (by omega))];exact h.seen i a):P:=h
def af'{P:Prop}(h:P:=by constructor<;>grind):P:=h
def o6{P:Prop}(h:P:=by rw[World.cell?_setCell_other _ _ _ _ (Eg (by omega))];exact h.val i a):P:=h
def zI{P:Prop}(h:P:=by
 simp only[Instr.sameBits,agx,ag1]at h |-
 rename_i x e hx y f hy;subst h;cases hx with
 |mk b c off spot k hk=>
  cases hy with
  |mk _ c2 _ _ k2 hk2=>rw[d.left _ _ _ _ _ hk hk2]):P:=h
def o7{P:Prop}(h:P:=by rw[World.cell?_setCell_other _ _ _ _ (Eg (by omega))];exact h.spoilt):P:=h
def dS{P:Prop}(h:P:=by simp[Region.wanted,yielded]):P:=h
def o8{P:Prop}(h:P:=by rw[World.cell?_setCell_other _ _ _ _ (Eg (by omega))];exact h.ends):P:=h
def zT{P:Prop}(h:P:=by
 cases e with
 |undef v g=>exact⟨bE (bF _ _ _),bE (bF _ _ _)⟩
 |lost _ d=>obtain⟨_,_,_,rfl⟩:=kJ d;exact⟨a,c⟩
 |_=>exact⟨a,c⟩):P:=h
def Be{P:Prop}(h:P:=by
 obtain⟨k,x,_,_⟩:=run_append_fits (P:=P) w l t E e i d G F p g n r y f a m c o s q I D
 rw[H]at x
 injection x with J K;subst J;exact .inl rfl):P:=h
def ahn{P:Prop}(h:P:=by
 obtain J|J:=agO.1 J
 ·obtain⟨y,B,rfl⟩:=Array.mem_map.1 J
  obtain⟨c,k,hck⟩:=X y (by simpa using B)
  exact⟨⟨c,k,j.le _ _ _ hck⟩,rfl⟩
 ·exact E x J):P:=h
def oq{P:Prop}(h:P:=by
 simp only[lone,solo,Machine.mk.injEq]at b
 simpa using b.2.1.symm):P:=h
def AA{P:Prop}(h:P:=by
 have:=vM m (i:=i) (g:=g) (g':=E) (v:=w.at d) (fn:=g.frame.fn) (pos:=g.frame.place) (es:=B) p (k:=k) λ_=>by rw[Deaf_own];exact G
 rw[afJ f]at this
 exact this):P:=h
def ui{P:Prop}(h:P:=by unfold aU dG;rw[fU,afN ⟨u,E⟩,d,afJ (by decide),ll D];rfl):P:=h
def BZ{P:Prop}(h:P:=by
 unfold sortWorldK putRowK putRow
 rw[heap_grow_old _ _ (by simpa[mapBlock,Sort.ahead]using d)]
 show(Array.modify w.heap g _)[g]? =_
 rw[agT,afN rfl,a]
 rfl):P:=h
def Ca{P:Prop}(h:P:=by
 simp only[ah3,putCells,Array.getElem?_mapIdx,ag5 b,agy,Nat.sub_zero,agj,id]
 rw[afN ⟨afK _,c⟩]):P:=h
def ahm{P:Prop}(h:P:=by
 obtain⟨a,c,e,J⟩|⟨b,o,c,e,_⟩:=Y.2
 ·exact⟨a,c,by rw[e,J]⟩
 ·exact⟨_,_,e⟩):P:=h
theorem uK{P:Prop}(h:P:=by first|exact(Below.refl _ _).drew|exact(by assumption:_/\_/\_/\_/\Below _ _ _).2.2.2.2):P:=h
def zw{P:Prop}(h:P:=by
 rw[Sem.run_bind]at e
 cases d:s.run Q w with
 |ok a u'=>rw[d]at e;exact(h a).halt u' y u (f.ok w a u' c d) e
 |halt x u'=>rw[d]at e;cases e;exact f.halt w _ _ c d):P:=h
def zx{P:Prop}(h:P:=by
 rw[Sem.run_bind]at e
 cases d:s.run Q w with
 |ok a u'=>rw[d]at e;exact(h a).init u' g u (f.ok w a u' c d) e
 |halt x u'=>rw[d]at e;cases e;exact f.init w g _ c d):P:=h
def zk{P:Prop}(h:P:=by
 have hi:i<a'.size:=by rw[<-x.size];exact(afD.1 e).1
 exact⟨a'[i],ag5 hi,x.at_ i _ _ e (ag5 hi)⟩):P:=h
def Co{P:Prop}(h:P:=by
 refine⟨by first|rfl|simp,U,f,j,J,((u.out.mono ?_).trans (f3.mono ?_) (λ_ x=>x)).trans f4 (λ_ x=>x)⟩
 ·intro c M;exact M.elim
 ·intro c M;exact M.elim):P:=h
def dC{P:Prop}(h:P:=by have:=o.size;omega):P:=h
def iB{P:Prop}(h:P:=by exact bE (bH (dL _))):P:=h
def bX{P:Prop}(h:P:=by exact⟨rfl,e⟩):P:=h
theorem uF{P:Prop}(h:P:=by first|exact(Below.refl _ _).drew|exact(by assumption:_/\_/\_/\Below _ _ _).2.2.2):P:=h
def Ab{P:Prop}(h:P:=by
 rw[Array.toList_map,Array.toList_map]
 exact WV λx q=>p.at_ _ (j _ (by simp only[Op.operands,List.mem_toArray,agG];exact⟨x,q,rfl⟩))):P:=h
def ahk{P:Prop}(h:P:=by
 obtain⟨a,c,e,h0⟩|⟨b,o,c,e,_⟩:=d.2
 ·grind
 grind):P:=h
def Bf{P:Prop}(h:P:=by
 rw[H]at x
 injection x with J K;subst J;cases hb:C.ownBlock with
 |none=>exact .inl (by rw[hb];rfl)
 |some k=>exact .inr ⟨k,hb,(L.lt k hb).1⟩):P:=h
def jD{P:Prop}(h:P:=by dsimp only[G]at h;rw[j]at h;cases h):P:=h
def lV{P:Prop}(h:P:=by rw[World.frozen?_setCell];exact h.free o c):P:=h
def zJ{P:Prop}(h:P:=by
 cases e:p[i]? with
 |none=>rw[f.none e];exact l.mono j
 |some y=>obtain⟨y',q,hy⟩:=f.get e;rw[q];exact hy.key.mono (Ren.le_trans c g)):P:=h
theorem uG{P:Prop}(h:P:=by first|exact(Below.refl _ _).drew|exact(by assumption:_/\_/\Below _ _ _).2.2):P:=h
def Cx{P:Prop}(h:P:=by exact⟨(e.later (aL _ _)).later (Below.refl _ _).drew,d.later (Below.refl _ _).drew,(gJ (aL _ _) (aL _ _)).drew⟩):P:=h
def sO{P:Prop}(h:P:=by
 induction x with
 |nil=>exact .nil
 |cons hv _ ih=>exact .cons (hv.mono h) ih):P:=h
def aqH{P:Prop}(h:P:=by rw[<-U,<-V];exact kM q S p j m s true (F.later i) M Q):P:=h
def tF{P:Prop}(h:P:=by simp only[World.setChan];rw[afF (ahc D)]):P:=h
def tO{P:Prop}(h:P:=by simp only[World.setChan];rw[afF (ahc E)]):P:=h
def tH{P:Prop}(h:P:=by simp only[World.setChan];rw[afO j]):P:=h
def Aq{P:Prop}(h:P:=by rw[afM,afF (by decide),ag3,afN rfl,afN (by omega)];rfl):P:=h
def oJ{P:Prop}(h:P:=by unfold aU;rw[fU,afJ (λh=>u h.1)]):P:=h
def A9{P:Prop}(h:P:=by exact h.files' _ (afC (Mo _ _) (by omega)) (by omega) (FX h.names (by have:=Mq h.names hf;exact this))):P:=h
def lN{P:Prop}(h:P:=by unfold aU;rw[afJ (λh=>h.2 E)]):P:=h
def oz{P:Prop}(h:P:=by obtain⟨e,_,rfl⟩:=Go.Conc.mem_ofEvents d;rfl):P:=h
def zK{P:Prop}(h:P:=by
 simp only[Instr.sameBits,agx,ag1]at h |-
 rename_i x e hx y f hy;subst h;exact d.left _ _ _ _ _ hx hy):P:=h
def Cm{P:Prop}(h:P:=by rw[<-List.append_assoc,<-r.out,agD,agD,<-y.out,<-q.out,<-Nat.add_assoc,<-b.out];exact A):P:=h
def Cf{P:Prop}(h:P:=by exact Ef (bu (bu ho2 W) E) (afB (afB r.lt V.size) q.size) _ _ _):P:=h
def ahe{P:Prop}(h:P:=by constructor<;>grind[aaW]):P:=h
def ahf{P:Prop}(h:P:=by constructor<;>grind[aaX]):P:=h
def oK{P:Prop}(h:P:=by rw[<-e];exact Fu w S p j m s h M):P:=h
def zn{P:Prop}(h:P:=by subst e;have C:=p w.tape w.drawn;simp[Sem.run,show(Zb.re w.tape w.drawn w).heap[r]? =some (.cells c t f)from O]at C):P:=h
def cz{P:Prop}(h:P:=by exact aj rfl):P:=h
def Af{P:Prop}(h:P:=by
 simp only[ag3]at g
 split at g
 ·split at g
  ·cases g;trivial
  ·cases g
 ·exact f i y g):P:=h
def iJ{P:Prop}(h:P:=by injection e with _ e;omega):P:=h
def ahg{P:Prop}(h:P:=by simp at d;obtain rfl:=d;rfl):P:=h
def gm{P:Prop}(h:P:=by simp only[LK.ch'];omega):P:=h
def tJ{P:Prop}(h:P:=by
 rw[hr]at this
 generalize f'.roundOf=o at this;cases this;rfl):P:=h
def di{P:Prop}(h:P:=by unfold BkC;omega):P:=h
def Bh{P:Prop}(h:P:=by unfold Oper.wp;simp[execOp,q,resolve,invoke,builtin,r,y,f,Result.andThen];exact p _ _ (h d w' g k l)):P:=h
theorem ahh{P:Prop}(h:P:=by obtain⟨h,_⟩|⟨_,h⟩:=hF.mode<;>grind):P:=h
def tK{P:Prop}(h:P:=by
 rw[step,Go.Conc.stepT_solo d,Go.Conc.solo_eq_crowd,a]
 rfl):P:=h
def sW{P:Prop}(h:P:=by simp only[stepG.apply,Sem.runT_eq,agr,i,k,k2];rfl):P:=h
def sZ{P:Prop}(h:P:=by simp only[stepG.apply,Sem.runT_eq,agr,r0 T d j,k1];rfl):P:=h
def Ar{P:Prop}(h:P:=by
 obtain⟨h1,h2,h3⟩:=h.fix y j
 dsimp only
 rw[c _ _ _ (i y j),c _ _ _ (i y j)]
 exact⟨h1,h2,h3⟩):P:=h
def zL{P:Prop}(h:P:=by
 refine bZ (aI env c) λf _ d' _=> ?_
 cases d'<;>first|exact aj (.int _ _)|exact ak):P:=h
def Au{P:Prop}(h:P:=by rw[afM,afF (ahc f),<-Array.getD_eq_getD_getElem?]):P:=h
def gD{P:Prop}(h:P:=by unfold Ki BkC;omega):P:=h
def lT{P:Prop}(h:P:=by unfold Addr.add;split<;>simp_all):P:=h
def Bi{P:Prop}(h:P:=by unfold Oper.wp;simp[execOp,d,resolve,invoke,builtin,hm,hx,c,Result.andThen];exact y w' r1 r2.grown):P:=h
def Av{P:Prop}(h:P:=by
 by_cases M:i=K.ch
 ·subst M;rw[l]at C;cases C;trivial
 ·rw[p i M]at C;exact q.tidy i o C):P:=h
def zM{P:Prop}(h:P:=by
 cases e:p[i]? with
 |none=>rw[f.none e]
 |some y=>obtain⟨y',q,hy⟩:=f.get e;rw[q];simp[hy.born]):P:=h
def zN{P:Prop}(h:P:=by
 cases q<;>cases B<;>first
  |exact ak
  |(dsimp only;split<;>first|exact aj rfl|exact ak)):P:=h
theorem ahj{P:Prop}(h:P:=by obtain rfl|h:=agk.1 h<;>grind):P:=h
def ou{P:Prop}(h:P:=by rw[lH rfl i]at e;cases e):P:=h
theorem ahi{P:Prop}(h:P:=by simp at g;obtain rfl|rfl|rfl:=g<;>rfl):P:=h
def oL{P:Prop}(h:P:=by unfold aV;rw[fU,afJ u]):P:=h
def Cr{P:Prop}(h:P:=by
 obtain⟨K,a,b,c⟩:=h.ex
 exact⟨K,by rw[d];exact a.frame l f,by rw[e];exact b.frame l j,c⟩):P:=h
def ahr{P:Prop}(h:P:=by
 rw[e]at c
 cases L:(decide (cO l 1<0)||decide (cO l 2<0)||decide (cO l 3<0))<;>grind):P:=h
def uk{P:Prop}(h:P:=by show bR m.files[k].name m.files=_;rw[O];exact D):P:=h
def gq{P:Prop}(h:P:=by have:=h.lt j hs;omega):P:=h
def ahu{P:Prop}(h:P:=by
 have:i=0\/i=1\/i=2\/i=3\/i=4\/i=5:=by omega
 obtain rfl|rfl|rfl|rfl|rfl|rfl:=this<;>simp[O1]):P:=h
def uM{P:Prop}(h:P:=by
 rw[Frame.finish_at,d]at e
 exact .step e (h b k cs)):P:=h
def Ag{P:Prop}(h:P:=by
 rw[agJ,b (L.length+i)]
 unfold joined
 rw[dif_neg (by omega),Nat.add_sub_cancel_left]
 rfl):P:=h
def jG{P:Prop}(h:P:=by show w.heap.size+1<_;omega):P:=h
def Al{P:Prop}(h:P:=by unfold Frame.enter;rw[k];simp only[agy,g,Option.bind_some,j,Option.getD_some];rfl):P:=h
def jQ{P:Prop}(h:P:=by exact AllReadyH.nil):P:=h
def Aa{P:Prop}(h:P:=by exact aC (rP (.view _ _ t (j.mono g)) rfl) λ_ _ n i f=>aj (.ptr _ _ (.at_ f))):P:=h
def tu{P:Prop}(h:P:=by rw[Array.getElem?_append_right (afA _)];simp):P:=h
def tC{P:Prop}(h:P:=by
 rw[jC (by grind)]
 exact b.above j (by grind)):P:=h
def Aw{P:Prop}(h:P:=by rw[afM,ag3,afN rfl,afN (by grind)];rfl):P:=h
def Bj{P:Prop}(h:P:=by
 rw[H]at x
 injection x with J K;subst J;exact .inr ⟨w.heap.size,rfl,afA _⟩):P:=h
def iA{P:Prop}(h:P:=by exact⟨rfl,d,rfl,h⟩):P:=h
def BH{P:Prop}(h:P:=by
 rw[Lib.toList_data];have:=qC t (by omega)
 revert this;cases t.data.toList<;>simp):P:=h
def lW{P:Prop}(h:P:=by rw[agP];omega):P:=h
def Ah{P:Prop}(h:P:=by
 have:fr'=fr:=by simp only[G,Goroutine.mk.injEq]at this;exact this.1
 subst this
 rw[a];simp):P:=h
def BO{P:Prop}(h:P:=by
 obtain⟨b,a⟩:=d _ _ _ _ _ _ (by omega) (by omega) (c.met _) h
 exact⟨b,by omega⟩):P:=h
def zo{P:Prop}(h:P:=by
 unfold World.cell? at M
 rw[O]at D
 rw[R]at M
 cases U<;>first|(cases M;done)|cases D):P:=h
def jL{P:Prop}(h:P:=by exact fI.nil _ _ _ _ _):P:=h
theorem ahl{P:Prop}(h:P:=by obtain⟨rfl,rfl,_⟩|⟨rfl,rfl,_⟩:=x<;>omega):P:=h
def jv{P:Prop}(h:P:=by rw[G];exact r0 T d I):P:=h
def jw{P:Prop}(h:P:=by rw[<-G];exact p T d):P:=h
def jH{P:Prop}(h:P:=by show w.heap.size<_;omega):P:=h
def dQ{P:Prop}(h:P:=by simp[stepG,G,H]):P:=h
theorem aho{P:Prop}(h:P:=by obtain⟨rfl,rfl,_⟩|⟨rfl,rfl,_⟩:=x<;>obtain⟨a,g,_⟩|⟨a,g,_⟩:=y<;>omega):P:=h
def iC{P:Prop}(h:P:=by have:=h.wr.lt x;omega):P:=h
def Ba{P:Prop}(h:P:=by
 obtain⟨es,rfl⟩:=d.isMap
 rw[ag0]at f
 rw[f]
 simp[Maps.size,strKeys]):P:=h
def Bb{P:Prop}(h:P:=by
 subst e;obtain⟨D,n,⟨es,clock,hb,_⟩,_⟩:=h.map;have:=h.box.c0
 grind[World.cell?]):P:=h
def oM{P:Prop}(h:P:=by unfold bg;rw[ll D];rfl):P:=h
def gp{P:Prop}(h:P:=by simp[World.setChan]):P:=h
def zU{P:Prop}(h:P:=by
 unfold binOp;dsimp only;split
 ·exact ak
 ·exact iP (wY _ _ _ _)):P:=h
def AB{P:Prop}(h:P:=by
 rw[afF f,ag2,F]
 simp[woken_run n]):P:=h
def zV{P:Prop}(h:P:=by
 unfold binOp;dsimp only;split
 ·exact ak
 ·exact iP (JH _ _ _)):P:=h
def zq{P:Prop}(h:P:=by
 cases H with
 |mk b c W V K S=>exact⟨⟨b,K,j.le _ _ _ S⟩,rfl⟩):P:=h
def AV{P:Prop}(h:P:=by
 have:=hF.defers rfl
 rw[j]at this
 generalize fr'.defers=l at this;cases this;rfl):P:=h
def Az{P:Prop}(h:P:=by
 have:=hF.round
 rw[l]at this
 generalize i.roundOf=o at this;cases this;rfl):P:=h
def iI{P:Prop}(h:P:=by rw[agF];omega):P:=h
def zW{P:Prop}(h:P:=by
 unfold binOp;dsimp only;split
 ·exact ak
 ·exact iP (C.op _ _ _ _ _ _)):P:=h
def jN{P:Prop}(h:P:=by unfold Kd.T kT kE;simp):P:=h
def o9{P:Prop}(h:P:=by exact World.ownsRow_nil _ _ _ _):P:=h
def pG{P:Prop}(h:P:=by grind[World.cell?_setCell_same]):P:=h
def oh{P:Prop}(h:P:=by simp only[stepG.exec,p,B];rfl):P:=h
theorem zB{P:Prop}(h:P:=by cases d<;>(dsimp only;split<;>first|exact aF|exact l6)):P:=h
def uf{P:Prop}(h:P:=by obtain⟨s,_,rfl⟩:=agG.1 c;rfl):P:=h
def CU{P:Prop}(h:P:=by
 rw[wH h]
 simp only[stepG.apply,Sem.runT_eq,agr,a]
 exact⟨_,rfl⟩):P:=h
def zt{P:Prop}(h:P:=by exact j _ {w with drawn:=w.drawn+1} w' (d.re w.tape (w.drawn+1)) g x u e):P:=h
def Ai{P:Prop}(h:P:=by
 funext q
 have:=e i q
 rw[this]
 show joined L T d (0+i) q=_
 rw[agj]):P:=h
def Dc{P:Prop}(h:P:=by
 simp only[Value.ownBlock,ag1]at f;subst f
 exact⟨d,rfl⟩):P:=h
def CG{P:Prop}(h:P:=by have h1:=(c.lt k R).1;have h2:L.drew.heap.size=L.heap.size:=rfl;omega):P:=h
def iM{P:Prop}(h:P:=by have:=HN2.out;omega):P:=h
def iE{P:Prop}(h:P:=by unfold nL;omega):P:=h
def jE{P:Prop}(h:P:=by exact offersAt_ph _ _):P:=h
def CK{P:Prop}(h:P:=by have h1:=V.size;have h2:P<w2.heap.size:=afB i h1;omega):P:=h
def BI{P:Prop}(h:P:=by rw[agB,afP (by simp_all)];rfl):P:=h
def jP{P:Prop}(h:P:=by simpa using h.fz j d):P:=h
def AJ{P:Prop}(h:P:=by exact this.mono (λ_ h=>h) (λ_ h=>h) (by simp[World.setChan,World.at])):P:=h
def Am{P:Prop}(h:P:=by obtain⟨e,j,rfl⟩:=Go.Conc.mem_ofEvents d;exact(f e j).1 b k):P:=h
def AX{P:Prop}(h:P:=by
 obtain⟨s,r,e,hc⟩:=h.chan
 exact⟨s,r,e,by rw[h.hch];exact hc⟩):P:=h
def Ao{P:Prop}(h:P:=by obtain⟨e,j,rfl⟩:=Go.Conc.mem_ofEvents d;exact(f e j).2.2.2):P:=h
def pE{P:Prop}(h:P:=by rw[afE];omega):P:=h
def jO{P:Prop}(h:P:=by rw[agx];omega):P:=h
def oG{P:Prop}(h:P:=by show w.heap.size+1+1<_;omega):P:=h
def lI{P:Prop}(h:P:=by simp at n;subst n;rfl):P:=h
def lJ{P:Prop}(h:P:=by unfold Hid maxLen;omega):P:=h
def pM{P:Prop}(h:P:=by unfold StepT Ki BkC;omega):P:=h
def AL{P:Prop}(h:P:=by
 cases d with
 |left _ _ d=>exact m.2.inv d
 |right _ d=>exact m.2):P:=h
theorem zC{P:Prop}(h:P:=by cases op<;>first|exact bV (vo _ _)|exact iW _):P:=h
theorem zD{P:Prop}(h:P:=by cases op<;>first|exact bV (FM _)|exact iW _):P:=h
def AO{P:Prop}(h:P:=by
 cases d with
 |left _ _ d=>exact .left _ _ d
 |right _ d=>grind):P:=h
def pK{P:Prop}(h:P:=by rw[Frame.eval_at'];exact g):P:=h
def tQ{P:Prop}(h:P:=by rw[F]at l;exact agf l):P:=h
def CO{P:Prop}(h:P:=by rw[afN rfl];exact World.cell?_setCell_same _ _ _ (h.ups i a)):P:=h
def lL{P:Prop}(h:P:=by simp[Region.wanted,hg]):P:=h
def tL{P:Prop}(h:P:=by simpa[World.setChan]using q.wr.Dl):P:=h
def tV{P:Prop}(h:P:=by simpa[D]using sumTo_upd q k id p):P:=h
def lY{P:Prop}(h:P:=by unfold BkC at M;omega):P:=h
def jF{P:Prop}(h:P:=by exact afA _):P:=h
def AY{P:Prop}(h:P:=by obtain⟨_,rfl,_⟩:=x;have:=a.kn;simp only[LK.ch']at d;omega):P:=h
def Aj{P:Prop}(h:P:=by simp only[Sem.run_bind,getObj,Sem.run,d,Result.andThen_ok];rfl):P:=h
def A7{P:Prop}(h:P:=by simp only[getObj,Sem.run];rw[show(re T d w).heap[r]? =_ from h]):P:=h
def sV{P:Prop}(h:P:=by exact aj (.ptr _ _ (j.mono g))):P:=h
def nX{P:Prop}(h:P:=by exact⟨by simp,by simp⟩):P:=h
def AP{P:Prop}(h:P:=by
 obtain⟨ρ,h1,h2⟩:=h
 exact⟨ρ,h1.world' d g f e,h2⟩):P:=h
def a3W{P:Prop}(h:P:=by simp;exact Nat.le_succ_of_le (afC D.size V.size)):P:=h
def tN{P:Prop}(h:P:=by simpa[World.setChan]using q.wr.big):P:=h
def CP{P:Prop}(h:P:=by rw[afJ e,bB _ _ _ _ _ (by omega)];exact h.ups i a):P:=h
def Ad{P:Prop}(h:P:=by simp[vG,Ac]at N n;subst n;cases t<;>simp[vG,N]):P:=h
def tY{P:Prop}(h:P:=by exact h.mono (by omega) (by omega)):P:=h
def zF{P:Prop}(h:P:=by exact(wD _).bind λn _=>bV (pY _ _)):P:=h
def zl{P:Prop}(h:P:=by
 rw[Array.getElem?_eq_none_iff]at e |-
 rw[<-x.size];exact e):P:=h
def CY{P:Prop}(h:P:=by exact af (aL w _) (aL _ _) (by simp)):P:=h
def Ay{P:Prop}(h:P:=by have:=hF.full.size;dsimp only at this;rw[<-this];exact N):P:=h
def zu{P:Prop}(h:P:=by simp only;rw[afF this];exact d):P:=h
def AZ{P:Prop}(h:P:=by simp only[List.map_toArray,List.map,Array.append_empty];rfl):P:=h
end Go
namespace Go.Proofs.Zb
variable{v v':Value}{a a':Array Value}{w:World}
section
class Special where
 val:FuncId->Bool
 sp:Option (List Nat)->Code->Code->Prop
 known:FuncId->Bool
 Eo:∀f,val f=true->known f=true
 old:World
 seen:Nat->Bool
inductive Kind where
 |cells|map|chan|iter|loop|defs|view|number
 deriving DecidableEq
def kindOf:Obj->Option Kind
 | .cells .. =>some .cells
 | .map .. =>some .map
 | .chan .. =>some .chan
 | .stringIter .. | .mapIter .. =>some .iter
 | .loop _=>some .loop
 | .deferred _=>some .defs
 | .view .. =>some .view
 | .number .. =>some .number
 |_=>none
abbrev Ren:=Nat->Nat->Kind->Prop
def Ren.le(f e:Ren):Prop:=∀b c k,f b c k->e b c k
theorem Ren.le_refl(b:Ren):b.le b:=λ_ _ _ h=>h
theorem Ren.le_trans{f e d:Ren}(h:f.le e)(g:e.le d):f.le d:=λb c k x=>g b c k (h b c k x)
variable[Special]
inductive FnR(ρ:Ren):Fn->Fn->Prop
 |func (f:FuncId) (h:Special.val f=true):FnR ρ (.func f) (.func f)
 |yield (l l':Nat) (h:ρ l l' .loop):FnR ρ (.yield l) (.yield l')
inductive bI(ρ:Ren):Addr->Addr->Prop
 |mk (b c off:Nat) (spot:Option Nat) (k:Kind) (h:ρ b c k):bI ρ ⟨b,off,spot⟩ ⟨c,off,spot⟩
def hard:Value->Bool
 | .pointer (some _)| .slice (some _) .. | .map (some _)| .chan (some _)| .func (.yield _) .. | .iface .. =>true
 |_=>false
def Te:Value->Bool
 | .agg _| .tuple _=>true
 |_=>false
def a9':Value->Bool
 | .func .. =>true
 |_=>false
def a9C(v:Value):Value:=.func (.method "") #[.nilIface] #[v]
theorem kJ(h:a9' v=true):∃f a c,v=.func f a c:=by
 cases v with
 |func f a c=>simp
 |_=>cases h
inductive VR(ρ:Ren):Value->Value->Prop
 |undef (v:Value) (h:hard v=true):VR ρ (.tuple #[]) v
 |bool (b:Bool):VR ρ (.bool b) (.bool b)
 |int (k:IntKind) (n:Int):VR ρ (.int k n) (.int k n)
 |float (k:FloatKind) (n:Nat):VR ρ (.float k n) (.float k n)
 |complex (k:FloatKind) (n m:Nat):VR ρ (.complex k n m) (.complex k n m)
 |string (s:ByteArray):VR ρ (.string s) (.string s)
 |nilPtr:VR ρ (.pointer none) (.pointer none)
 |ptr (a a':Addr) (h:bI ρ a a'):VR ρ (.pointer (some a)) (.pointer (some a'))
 |eU (n m:Nat):VR ρ (.slice none n m) (.slice none n m)
 |slice (a a':Addr) (n m:Nat) (h:bI ρ a a'):VR ρ (.slice (some a) n m) (.slice (some a') n m)
 |empty (g a:Addr) (h:∃c,ρ g.block c .cells):VR ρ (.slice (some g) 0 0) (.slice (some a) 0 0)
 |sN:VR ρ (.map none) (.map none)
 |map (r r':Nat) (h:ρ r r' .map):VR ρ (.map (some r)) (.map (some r'))
 |ym:VR ρ (.chan none) (.chan none)
 |chan (r r':Nat) (h:ρ r r' .chan):VR ρ (.chan (some r)) (.chan (some r'))
 |func (f f':Fn) (a a' c c':Array Value) (h:FnR ρ f f') (ha:a.size=a'.size) (hae:∀(i:Nat)v v',a[i]? =some v->a'[i]? =some v'->VR ρ v v')
   (hc:c.size=c'.size) (hce:∀(i:Nat)v v',c[i]? =some v->c'[i]? =some v'->VR ρ v v'):VR ρ (.func f a c) (.func f' a' c')
 |nilFunc:VR ρ .nilFunc .nilFunc
 |lost (v:Value) (h:a9' v=true):VR ρ (.func (.method "") #[.nilIface] #[v]) v
 |iface (t:TypeId) (v v':Value) (h:VR ρ v v'):VR ρ (.iface t v) (.iface t v')
 |nilIface:VR ρ .nilIface .nilIface
 |agg (a a':Array Value) (ha:a.size=a'.size) (hae:∀(i:Nat)v v',a[i]? =some v->a'[i]? =some v'->VR ρ v v'):VR ρ (.agg a) (.agg a')
 |tuple (a a':Array Value) (ha:a.size=a'.size) (hae:∀(i:Nat)v v',a[i]? =some v->a'[i]? =some v'->VR ρ v v'):VR ρ (.tuple a) (.tuple a')
structure AR(ρ:Ren)(a a':Array Value):Prop where
 size:a.size=a'.size
 at_:∀(i:Nat)v v',a[i]? =some v->a'[i]? =some v'->VR ρ v v'
theorem FnR.mono{c b}(h:c.le b){f e}(x:FnR c f e):FnR b f e:=by
 cases x with
 |yield l d g=>exact .yield l d (h _ _ _ g)
 |func f i=>exact .func f i
omit [Special]in
theorem bI.mono{j f}(h:j.le f){a a'}(x:bI j a a'):bI f a a':=by
 cases x with
 |mk b c e d k g=>exact .mk b c e d k (h _ _ _ g)
theorem VR.mono{q p}(h:q.le p){v v'}(x:VR q v v'):VR p v v':=by
 induction x with
 |undef v h=>exact .undef v h
 |bool b=>exact .bool b
 |int k n=>exact .int k n
 |float k n=>exact .float k n
 |complex k n m=>exact .complex k n m
 |string s=>exact .string s
 |nilPtr=>exact .nilPtr
 |ptr a a' d=>exact .ptr a a' (d.mono h)
 |eU n m=>exact .eU n m
 |slice a a' n m d=>exact .slice a a' n m (d.mono h)
 |empty g a u=>exact .empty g a (u.imp λc x=>h _ _ _ x)
 |sN=>exact .sN
 |map r i o=>exact .map r i (h _ _ _ o)
 |ym=>exact .ym
 |chan r i o=>exact .chan r i (h _ _ _ o)
 |func f A a a' c B y d _ z _ l j=>exact .func f A a a' c B (y.mono h) d l z j
 |nilFunc=>exact .nilFunc
 |lost v h=>exact .lost v h
 |iface t v v' _ e=>exact .iface t v v' e
 |nilIface=>exact .nilIface
 |agg a a' d _ e=>exact .agg a a' d e
 |tuple a a' d _ e=>exact .tuple a a' d e
theorem AR.mono{c b}(h:c.le b){a a'}(x:AR c a a'):AR b a a':=⟨x.size,λi v v' e d=>(x.at_ i v v' e d).mono h⟩
section rows
variable{ρ:Ren}
theorem AR.empty:AR ρ #[] #[]:=⟨rfl,λi v v' e _=>by simp at e⟩
theorem AR.get(x:AR ρ a a'){i:Nat}(e:a[i]? =some v):∃v',a'[i]? =some v'/\VR ρ v v':=zk
theorem AR.none{a a':Array Value}(x:AR ρ a a'){i:Nat}(e:a[i]? =none):a'[i]? =none:=zl
theorem AR.getD{a a'}(x:AR ρ a a')(i):VR ρ (a.getD i undef) (a'.getD i undef):=by
 rw[afM,afM]
 cases e:a[i]? with
 |none=>rw[x.none e];exact .tuple _ _ rfl (λi v v' h=>by simp at h)
 |some v=>obtain⟨v',b,h⟩:=x.get e;rw[b];exact h
theorem AR.push{a a'}(x:AR ρ a a'){v v'}(h:VR ρ v v'):AR ρ (a.push v) (a'.push v'):=zi
theorem AR.append{b c}(x:AR ρ a a')(y:AR ρ b c):AR ρ (a++b) (a'++c):=zh
theorem AR.extract{a a'}(x:AR ρ a a')(c d):AR ρ (a.extract c d) (a'.extract c d):=by
 refine⟨by simp[x.size],λi u f e b=> ?_⟩
 rw[Array.getElem?_extract]at e b
 rw[x.size]at e
 split at e
 ·rename_i h;rw[afN h]at b;exact x.at_ _ u f e b
 ·cases e
theorem AR.set(x:AR ρ a a')(i)(h:VR ρ v v'):AR ρ (a.setIfInBounds i v) (a'.setIfInBounds i v'):=by
 refine⟨by simp[x.size],λj u d e c=> ?_⟩
 rw[ag3]at e c
 rw[x.size]at e
 split at e
 ·grind
 ·rename_i b;rw[afJ b]at c;exact x.at_ j u d e c
theorem AR.single(h:VR ρ v v'):AR ρ #[v] #[v']:=af'
theorem AR.pair{u b}(h:VR ρ v v')(k:VR ρ u b):AR ρ #[v,u] #[v',b]:=af'
theorem AR.triple{u c x b}(h:VR ρ v v')(k:VR ρ u c)(l:VR ρ x b):AR ρ #[v,u,x] #[v',c,b]:=af'
theorem VR.Lg(x:AR ρ a a'):VR ρ (.agg a) (.agg a'):=.agg a a' x.size x.at_
theorem VR.kZ(x:AR ρ a a'):VR ρ (.tuple a) (.tuple a'):=.tuple a a' x.size x.at_
theorem AR.yn(h:∀v∈a,VR ρ v v):AR ρ a a:=
 ⟨rfl,λi v v' e b=>by rw[e]at b;cases b;exact h v (ag9 e)⟩
theorem VR.cells{v v'}(x:VR ρ v v'):AR ρ v.cells v'.cells:=by
 cases x with
 |undef _ h=>
  have:v'.cells=#[v']:=by cases v'<;>first|rfl|(simp[hard]at h)
  rw[this]
  exact .single (.undef v' h)
 |lost _ h=>
  have:v'.cells=#[v']:=by cases v'<;>first|rfl|(simp[a9']at h)
  rw[this]
  exact .single (.lost v' h)
 |agg a a' c b=>exact⟨c,b⟩
 |empty g a h=>exact .single (.empty g a h)
 |_=>refine .single ?_;constructor<;>assumption
theorem AR.map{j:Type}{f g}(l:Array j)(h:∀b∈l,VR ρ (f b) (g b)):AR ρ (l.map f) (l.map g):=by
 refine⟨by simp,λi v v' e d=> ?_⟩
 rw[ag2]at e d
 cases c:l[i]? with
 |none=>rw[c]at e;cases e
 |some b=>
  rw[c]at e d
  cases e;cases d;exact h b (ag9 c)
end rows
def eH:Nat->Value->Bool
 |0,_=>false
 |n+1,v=>match v with
  | .bool _| .int .. | .float .. | .complex .. | .string _| .pointer none| .slice none .. | .map none| .chan none| .nilFunc| .nilIface=>true
  | .func (.func f) a c=>Special.val f&&a.all (eH n)&&c.all (eH n)
  | .iface _ v=>eH n v
  | .agg a| .tuple a=>a.all (eH n)
  |_=>false
theorem VR.plain{d}:∀n v,eH n v=true->VR d v v
 |0,v,h=>by simp[eH]at h
 |n+1,v,h=>by
  have all:∀a:Array Value,a.all (eH n)=true->AR d a a:=λa e=>AR.yn λu g=>VR.plain n u (by rw[afR]at e;exact e u g)
  cases v with
  |bool b=>exact .bool b
  |int k n=>exact .int k n
  |float k n=>exact .float k n
  |complex k n m=>exact .complex k n m
  |string s=>exact .string s
  |pointer a=>cases a with|none=>exact .nilPtr|some a=>simp[eH]at h
  |slice a l c=>cases a with|none=>exact .eU l c|some a=>simp[eH]at h
  |map r=>cases r with|none=>exact .sN|some a=>simp[eH]at h
  |chan r=>cases r with|none=>exact .ym|some a=>simp[eH]at h
  |func f a c=>
   cases f with
   |func f=>
    simp only[eH,afQ]at h;exact .func _ _ a a c c (.func f h.1.1) rfl (all a h.1.2).at_ rfl (all c h.2).at_
   |_=>simp[eH]at h
  |nilFunc=>exact .nilFunc
  |iface t v=>simp only[eH]at h;exact .iface t v v (VR.plain n v h)
  |nilIface=>exact .nilIface
  |agg a=>simp only[eH]at h;exact .Lg (all a h)
  |tuple a=>simp only[eH]at h;exact .kZ (all a h)
structure pO(ρ:Ren)(e e':MapEntry):Prop where
 key:VR ρ e.key e'.key
 val:VR ρ e.val e'.val
 born:e.born=e'.born
structure bP(ρ:Ren)(es es':Array MapEntry):Prop where
 size:es.size=es'.size
 at_:∀(i:Nat)e e',es[i]? =some e->es'[i]? =some e'->pO ρ e e'
inductive uV(ρ:Ren):Target->Target->Prop
 |fn (f f':Fn) (c c':Array Value) (h:FnR ρ f f') (hc:AR ρ c c'):uV ρ (.fn f c) (.fn f' c')
 |nil:uV ρ .nil .nil
 |builtin (b:Builtin) (ts:Array TypeId) (t:TypeId) (cs:Array Bool):uV ρ (.builtin b ts t cs) (.builtin b ts t cs)
 |collected (r r':Nat) (h:ρ r r' .defs):uV ρ (.collected r) (.collected r')
structure a3X(ρ:Ren)(d d':Deferred):Prop where
 target:uV ρ d.target d'.target
 args:AR ρ d.args d'.args
def ZC(d:Deferred):Prop:=∃b t c,d.target=.builtin .close b t c
inductive qP(ρ:Ren):List Deferred->List Deferred->Prop
 |nil:qP ρ [] []
 |cons {d d':Deferred} {l l':List Deferred} (h:a3X ρ d d') (hc:∃b,d.target=.collected b) (hl:qP ρ l l'):qP ρ (d::l) (d'::l')
structure Tf(ok:Code->Prop)(ρ:Ren)(l l':Loop):Prop where
 state:l.state=l'.state
 pending:l.pending=l'.pending
 II:∀c,l.pending=some c->ok c
 fn:l.fn=l'.fn
 tmps:AR ρ l.tmps l'.tmps
 params:l.params=l'.params
 assign:l.assign=l'.assign
 Gz:ok l.assign
 body:l.body=l'.body
 QV:ok l.body
 defers:ρ l.defers l'.defers .defs
inductive qd(ok:Code->Prop)(ρ:Ren):Obj->Obj->Prop
 |cells (c c':Array Value) (t:TypeId) (fr:Nat×Nat) (h:AR ρ c c'):qd ok ρ (.cells c t fr) (.cells c' t fr)
 |map (es es':Array MapEntry) (n:Nat) (h:bP ρ es es'):qd ok ρ (.map es n) (.map es' n)
 |chan (n n':Nat) (b b':Array Value) (cl cl':Bool) (s s' r r':Nat) (t t':Bool):qd ok ρ (.chan n b cl s r t) (.chan n' b' cl' s' r' t')
 |stringIter (s:ByteArray) (n:Nat):qd ok ρ (.stringIter s n) (.stringIter s n)
 |KW (n:Nat) (s:Array Nat) (m:Nat):qd ok ρ (.mapIter none n s m) (.mapIter none n s m)
 |mapIter (r r' n:Nat) (s:Array Nat) (m:Nat) (h:ρ r r' .map):qd ok ρ (.mapIter (some r) n s m) (.mapIter (some r') n s m)
 |loop (l l':Loop) (h:Tf ok ρ l l'):qd ok ρ (.loop l) (.loop l')
 |taken:qd ok ρ (.deferred none) (.deferred none)
 |defs:qd ok ρ (.deferred (some [])) (.deferred (some []))
 |view (a a':Addr) (t:TypeId) (h:bI ρ a a'):qd ok ρ (.view a t) (.view a' t)
 |number (a a':Addr) (b:Bool) (h:bI ρ a a'):qd ok ρ (.number a b) (.number a' b)
section mono
variable{I A:Ren}(h:I.le A)
include h
theorem pO.mono{e b:MapEntry}(x:pO I e b):pO A e b:=⟨x.key.mono h,x.val.mono h,x.born⟩
theorem bP.mono{e c:Array MapEntry}(x:bP I e c):bP A e c:=⟨x.size,λi a b f d=>(x.at_ i a b f d).mono h⟩
theorem uV.mono{t e:Target}(x:uV I t e):uV A t e:=by
 cases x with
 |fn f l c n j k=>exact .fn f l c n (j.mono h) (k.mono h)
 |nil=>exact .nil
 |builtin b d t m=>exact .builtin b d t m
 |collected r g i=>exact .collected r g (h _ _ _ i)
theorem a3X.mono{d b:Deferred}(x:a3X I d b):a3X A d b:=⟨x.target.mono h,x.args.mono h⟩
theorem qP.mono{d b:List Deferred}(x:qP I d b):qP A d b:=by
 induction x with
 |nil=>exact .nil
 |cons e f _ c=>exact .cons (e.mono h) f c
theorem Tf.mono{b:Code->Prop}{l c:Loop}(x:Tf b I l c):Tf b A l c:={x with tmps:=x.tmps.mono h,defers:=h _ _ _ x.defers}
theorem qd.mono{f:Code->Prop}{o j:Obj}(x:qd f I o j):qd f A o j:=by
 cases x with
 |cells c B t y u=>exact .cells c B t y (u.mono h)
 |map z e n q=>exact .map z e n (q.mono h)
 |chan=>constructor
 |stringIter s n=>exact .stringIter s n
 |KW n s m=>exact .KW n s m
 |mapIter r g n s m k=>exact .mapIter r g n s m (h _ _ _ k)
 |loop l i p=>exact .loop l i (p.mono h)
 |taken=>exact .taken
 |defs=>exact .defs
 |view a a' t d=>exact .view a a' t (d.mono h)
 |number a a' b d=>exact .number a a' b (d.mono h)
end mono
theorem qd.kind{f}{d}{o c}(x:qd f d o c):∃k,kindOf o=some k/\kindOf c=some k:=by cases x<;>exact⟨_,rfl,rfl⟩
theorem qP.append{c}{a a' b d}(x:qP c a a')(y:qP c b d):qP c (a++b) (a'++d):=by
 induction x with
 |nil=>exact y
 |cons f g _ e=>exact .cons f g e
end
section
variable[Special]
section
variable{Q P:Program}(h:P.toTables=Q.toTables)
include h
omit [Special]in
theorem dP(t:TypeId):P.underlying t=Q.underlying t:=by grind[Program.underlying]
omit [Special]in
theorem gT(t:TypeId):P.cellsOf t=Q.cellsOf t:=by grind[Program.cellsOf]
omit [Special]in
theorem mH(t:TypeId):P.bytesOf t=Q.bytesOf t:=by grind[Program.bytesOf]
omit [Special]in
theorem jr:P.depth=Q.depth:=by grind[Program.depth]
omit [Special]in
theorem qg:∀d t i,byteOfCell P d t i=byteOfCell Q d t i:=by
 intro d;induction d with
 |zero=>intro t i;rfl
 |succ d b=>intro t i;unfold byteOfCell;simp only[dP h,gT h,mH h,b]
omit [Special]in
theorem Kn:∀d t i,cellHolding P d t i=cellHolding Q d t i:=by
 intro d;induction d with
 |zero=>intro t i;rfl
 |succ d b=>intro t i;unfold cellHolding;simp only[dP h,gT h,mH h,b]
omit [Special]in
theorem Ot:∀d t i,plainCell P d t i=plainCell Q d t i:=by
 intro d;induction d with
 |zero=>intro t i;rfl
 |succ d b=>intro t i;unfold plainCell;simp only[dP h,gT h,b]
omit [Special]in
theorem a0r:∀d t,tight P d t=tight Q d t:=by
 intro d;induction d with
 |zero=>intro t;rfl
 |succ d b=>intro t;unfold tight;simp only[dP h,mH h,b]
end
theorem Tg{c}(h:VR c v v'){b}(e:v.bytes?=some b):v'.bytes?=some b/\v'=v:=by cases h<;>first|exact⟨e,rfl⟩|(simp[Value.bytes?]at e)
theorem O6{ρ}{b:Value}{c}(h:b.ofBytes c=some v):VR ρ v v/\Te v=false:=by
 unfold Value.ofBytes at h
 split at h
 ·split at h<;>first|(cases h;exact⟨.bool _,rfl⟩)|cases h
 ·split at h
  ·cases h;exact⟨.int _ _,rfl⟩
  ·cases h
 ·split at h
  ·cases h;exact⟨.float _ _,rfl⟩
  ·cases h
 ·split at h
  ·cases h;exact⟨.complex _ _ _,rfl⟩
  ·cases h
 ·cases h
theorem Ti{Q P}(b:P.toTables=Q.toTables){k}{c j}(q:AR k c j)(e):∀f x stop l,
  seenCells Q c e f x stop=.ok l->seenCells P j e f x stop=.ok l:=by
 intro f;induction f with
 |zero=>intro x stop l h;simp[seenCells]at h
 |succ f z=>
  intro x stop l h;unfold seenCells at h |-;dsimp only at h |-
  rw[mH b,gT b,jr b,Kn b]
  split at h
  ·grind
  ·rename_i m;rw[afJ m]
   split at h
   ·cases h
   ·rename_i n;rw[afJ n]
    split at h
    ·cases h
    ·rename_i i s A
     split at h
     ·cases h
     ·rename_i v o
      obtain⟨v',g,d⟩:=q.get o
      rw[g]
      dsimp only
      split at h
      ·cases h
      ·cases h
      ·rename_i u r t
       rw[(Tg d t).1]
       cases p:seenCells Q c e f (s+u.length) stop with
       |error x=>rw[p]at h;cases h
       |ok y=>grind
theorem a3Y{Q P}(g:P.toTables=Q.toTables){E}{z}{m:World}{a a' k k'}(L:a.off=a'.off)(H:a.spot=a'.spot)(J:k.off=k'.off)(q:k.spot=k'.spot)(G:∃o n,w.heap[a.block]? =some o/\m.heap[a'.block]? =some n/\qd E z o n)(u)(at_){c}{e}{j}{first}{d}{cells}(h:w.seen Q a u k at_=.ok (c,e,j,first,d,cells)):
  ∃y,m.seen P a' u k' at_=.ok (y,e,j,first,d,cells)/\AR z c y/\w.heap[a.block]? =some (.cells c e j)/\m.heap[a'.block]? =some (.cells y e j):=by
 obtain⟨o,n,N,M,I⟩:=G;unfold World.seen at h |-
 rw[jr g,Ot g,qg g]
 rw[<-q,<-H,<-J,<-L]
 rw[N]at h
 rw[M]
 simp only[bind,Except.bind,pure,Except.pure]at h |-
 split at h
 ·cases h
 rename_i p
 rw[afJ p]
 cases B:plainCell Q Q.depth u k.off with
 |none=>rw[B]at h;cases h
 |some f=>
  rw[B]at h
  dsimp only at h |-;cases F:Option.map (λx:List UInt8=>x.length) f.bytes? with
  |none=>simp_all
  |some b=>
   rw[F]at h
   dsimp only at h |-;cases C:byteOfCell Q Q.depth u k.off with
   |none=>rw[C]at h;cases h
   |some A=>
    rw[C]at h
    dsimp only at h |-;cases I with
    |cells S s t R K=>
     dsimp only at h |-
     rw[gT g,mH g,qg g]
     split at h
     ·cases h
     rename_i O
     rw[afJ O]
     cases r:byteOfCell Q Q.depth t (a.off%Q.cellsOf t)with
     |none=>simp_all
     |some D=>
      rw[r]at h
      dsimp only at h |-;cases i:seenCells Q S t (b+1) (a.off/Q.cellsOf t*Q.bytesOf t+D+A) (a.off/Q.cellsOf t*Q.bytesOf t+D+A+b)with
      |error x=>grind
      |ok l=>
       rw[i]at h
       rw[Ti g K t _ _ _ _ i]
       dsimp only at h |-;refine⟨s,?_,?_⟩
       ·grind
       ·grind
    |_=>cases h
end
def re(T:Nat->Question->Nat)(d:Nat)(w:World):World:={w with tape:=T,drawn:=d}
def Ahead(w:World)(T:Nat->Question->Nat)(d:Nat):Prop:=∀i q,T (d+i) q=w.tape (w.drawn+i) q
theorem Ahead.draw{T}{d}(h:Ahead w T d):Ahead {w with drawn:=w.drawn+1} T (d+1):=by
 intro i q;have:=h (1+i) q
 grind
theorem Ahead.now{T}{d}(h:Ahead w T d)(q):T d q=w.tape w.drawn q:=h 0 q
theorem aa0{i}(s:Ask i):∀{w:World}{T:Nat->Question->Nat}{d:Nat},Ahead w T d->
  ∃g,World.ask (re T d w) s=((w.ask s).1,re T g (w.ask s).2)/\Ahead (w.ask s).2 T g:=by
 induction s with
 |done a=>intro w T d h;exact⟨d,rfl,h⟩
 |ask c b k j=>
  intro w T d h;unfold World.ask;simp only
  by_cases f:(Question.extern c b).forced=true
  ·simp_all
  ·rw[afJ f,afJ f]
   have e:(re T d w).tape (re T d w).drawn (.extern c b)=w.tape w.drawn (.extern c b):=h.now _
   rw[e]
   exact j _ h.draw
def Same{c:Type}(T:Nat->Question->Nat):Result c->Result c->Prop
 | .ok a w,.ok b v=>a=b/\∃d,v=re T d w/\Ahead w T d
 | .halt a w,.halt b v=>a=b/\∃d,v=re T d w/\Ahead w T d
 |_,_=>False
theorem yo(p)(w)(T)(d)(a)(b):(re T d w).farLoad p a b=w.farLoad p a b:=rfl
theorem QW(p)(w)(T)(d)(at_)(u)(a)(v)(b):
  (re T d w).viewStore p at_ u a v b=(w.viewStore p at_ u a v b).map λx=>(re T d x.1,x.2):=by
 have e:(re T d w).seen p at_ u a b=w.seen p at_ u a b:=rfl;unfold World.viewStore
 rw[e]
 simp only[bind,Except.bind,pure,Except.pure]
 repeat' (first|rfl|split)
theorem Dk(p)(w)(T)(d)(a)(v)(b):
  (re T d w).farStore p a v b=(w.farStore p a v b).map λx=>(re T d x.1,x.2):=by
 unfold World.farStore;have e:(re T d w).heap=w.heap:=rfl
 rw[e]
 split
 ·rw[QW]
  cases World.viewStore p w _ _ a v b<;>rfl
 ·rfl
theorem Lh{p}{d}{a}{b}{l}(h:w.farStore p a v b=.ok (d,l)):d.tape=w.tape/\d.drawn=w.drawn:=by
 unfold World.farStore at h
 split at h
 ·split at h
  ·rename_i r c
   simp only[Except.ok.injEq]at h;subst h;unfold World.viewStore at c;simp only[bind,Except.bind,pure,Except.pure]at c
   repeat' (split at c)
   all_goals first
    |(exfalso;cases c;done)
    |(simp only[Except.ok.injEq,Prod.mk.injEq]at c
      obtain⟨rfl,_⟩:=c
      exact⟨rfl,rfl⟩)
  ·cases h
 ·cases h
theorem a3Z{u}(p)(s:Sem u):∀{w:World}{T:Nat->Question->Nat}{d:Nat},Ahead w T d->Same T (s.run p w) (s.run p (re T d w)):=by
 induction s with
 |pure a=>intro w T d h;exact⟨rfl,d,rfl,h⟩
 |load m a k b=>
  intro w T d h;unfold Sem.run;have e:(re T d w).cell? a=w.cell? a:=rfl
  rw[e,yo]
  split
  ·exact b _ h
  ·split
   ·exact b _ h
   ·exact iA
 |store m a v k b=>
  intro w T d h
  have step:∀v:Value,Same T (match w.cell? a with
    |some _=>if w.frozen? a then .halt (.unsupported (.unsafePointer "a write to bytes that a string shares")) w else k.run p (w.setCell a v)
    |none=>match w.farStore p a v (m==.atomic)with
     | .ok (w,_)=>k.run p w
     | .error h=>.halt h w)
    (match (re T d w).cell? a with
    |some _=>if (re T d w).frozen? a then .halt (.unsupported (.unsafePointer "a write to bytes that a string shares")) (re T d w)else k.run p ((re T d w).setCell a v)
    |none=>match (re T d w).farStore p a v (m==.atomic)with
     | .ok (w,_)=>k.run p w
     | .error h=>.halt h (re T d w)):=by
   intro v;have e:(re T d w).cell? a=w.cell? a:=rfl;have B:(re T d w).frozen? a=w.frozen? a:=rfl;have A:(re T d w).setCell a v=re T d (w.setCell a v):=rfl
   rw[e,B,A,Dk]
   split
   ·split
    ·exact iA
    ·exact b h
   ·split
    ·rename_i g l f
     rw[f]
     obtain⟨z,y⟩:=Lh f;exact b (λi q=>by rw[z,y];exact h i q)
    ·rename_i f
     rw[f]
     exact iA
  cases v<;>first|exact step _|exact⟨rfl,d,rfl,h⟩
 |new o k b=>intro w T d h;exact b _ (w:={w with heap:=w.heap.push o}) h
 |shape r k b=>intro w T d h;exact b _ h
 |freeze a n k b=>
  intro w T d h;unfold Sem.run;have e:(re T d w).freeze a n=re T d (w.freeze a n):=by unfold World.freeze;split<;>rfl
  rw[e]
  refine b ?_;intro i q;have:=h i q;unfold World.freeze
  split<;>exact this
 |frozen a k b=>intro w T d h;exact b _ h
 |getObj r k b=>
  intro w T d h;unfold Sem.run;have e:(re T d w).heap=w.heap:=rfl
  rw[e]
  split
  ·exact iA
  ·exact b _ h
  ·exact iA
 |setObj r o k b=>
  intro w T d h;unfold Sem.run;have e:(re T d w).heap=w.heap:=rfl
  rw[e]
  split
  ·exact iA
  ·exact b (w:={w with heap:=w.heap.setIfInBounds r o}) h
  ·exact iA
 |choose q k b=>
  intro w T d h;unfold Sem.run
  by_cases j:q.forced=true
  ·grind
  ·rw[afJ j,afJ j]
   have e:(re T d w).tape (re T d w).drawn q=w.tape w.drawn q:=h.now _
   rw[e]
   exact b _ h.draw
 |sys c k b=>
  intro w T d h;unfold Sem.run World.sys;have e:(re T d w).os=w.os:=rfl
  rw[e]
  obtain⟨E,C,t⟩:=aa0 (Kernel.perform c w.os) h
  rw[C]
  generalize D:w.ask (Kernel.perform c w.os)=x at t |-;obtain⟨⟨r,os⟩,g⟩:=x;cases r<;>first|exact b _ h|exact b _ (w:={g with os:=os}) t
 |program k b=>intro w T d h;exact b _ h
 |mark m k b=>intro w T d h;exact b h
 |halt x=>intro w T d h;exact⟨rfl,d,rfl,h⟩
end Go.Proofs.Zb
