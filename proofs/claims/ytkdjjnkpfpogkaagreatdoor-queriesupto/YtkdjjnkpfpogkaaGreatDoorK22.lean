import Derived.Deep.RegionLaw
import Derived.Lib.AppendStr
import Derived.Lib.BufferRead
import Derived.Test.YtkdjjnkpfpogkaaGreatDoorK21
set_option maxHeartbeats 8000000
set_option linter.all false
set_option maxRecDepth 20000
namespace Go
def aqK{P:Prop}(h:P:=by
 go_wp2;go_ret
 exact⟨rfl,d.becomes (by repeat (first|exact a0n _ _|apply Below.drew|(refine Below.alloc ?_ (afA _) _)))⟩):P:=h
end Go
namespace Go.Proofs.Zq
open Tryz
open Go.RowKit Go.Shelf Go.WideMaps
open Rl
variable{w w' J:World}{S:Nat->Prop}{p b A I n k:Nat}{cv:ByteArray->Value}{v U O L:Value}
theorem xP{m}(h:bS w S p b cv m)(a)(l:a.size<=maxLen):
  (Instr.lookup 84 (.map (some b)) (.string a) true).run ah.prog w=.ok (.tuple #[match dR a m.files with|some f=>.agg #[cv f.name,.int .i64 (f.sync:Int)]|none=>.agg #[.slice none 0 0,.int .i64 0],.bool (dR a m.files).isSome]) w/\
  (Instr.lookup 84 (.map (some b)) (.string a) false).run ah.prog w=.ok (match dR a m.files with|some f=>.agg #[cv f.name,.int .i64 (f.sync:Int)]|none=>.agg #[.slice none 0 0,.int .i64 0]) w:=by
 obtain⟨D,n,c,o⟩:=h.map;obtain⟨v,g,d,j⟩:=c.look_ok yL ajj (PY w) (zd:=.held (.agg #[.slice none 0 0,.int .i64 0])) (zp:=[]) (UF none 0 0 0) (keyOf_string_mk Qu9 l);obtain⟨t,r,i,s⟩:=c.lookup yL ajj (PY w) (zd:=.held (.agg #[.slice none 0 0,.int .i64 0])) (zp:=[]) (UF none 0 0 0) (keyOf_string_mk Qu9 l)
 rw[o.has]at d
 have e:∀(v:Value)(g:List MemPlace),mE v=some (D.atKey (.string a.data.toList) (.held (.agg #[.slice none 0 0,.int .i64 0])),g)->v=match dR a m.files with|some f=>.agg #[cv f.name,.int .i64 (f.sync:Int)]|none=>.agg #[.slice none 0 0,.int .i64 0]:=by
  intro v g j;obtain⟨_,_,_,_,_,e⟩:=I9 j;have q:=congrArg Prod.fst e;simp only at q
  rw[o a]at q
  cases u:dR a m.files<;>grind
 grind
theorem a5l{m}{a}{e}{c}(h:bS w S p b cv m)(i:∀J,bS J S p b cv m->(Instr.lookup 84 (.map (some b)) (.string a) true).run ah.prog J=.ok (.tuple #[e,.bool c]) J)(c0:w.cell? ⟨A,0,none⟩=some (.pointer (some ⟨p,0,none⟩)))(c1:w.cell? ⟨I,0,none⟩=some (.string a))(g:A<w.heap.size)(f:I<w.heap.size)(d:ah' w w'):
  w'.cell? ⟨A,0,none⟩=some (.pointer (some ⟨p,0,none⟩))/\w'.cell? ⟨I,0,none⟩=some (.string a)/\w'.cell? ⟨p,1,none⟩=some (.map (some b))/\
   (Instr.lookup 84 (.map (some b)) (.string a) true).run ah.prog w'=.ok (.tuple #[e,.bool c]) w'/\ah' w w':=
 ⟨(d.cell (p:=⟨A,0,none⟩) g).trans c0,(d.cell (p:=⟨I,0,none⟩) f).trans c1,(h.later d).box.c1,i _ (h.later d),d⟩
theorem KF(w)(S)(p b)(cv)(m)(h:bS w S p b cv m)(d)(hn:d.size<=2097152)(A I n2)(k)(E)(R:Enters ah.prog k)(c0:w.cell? ⟨A,0,none⟩=some (.pointer (some ⟨p,0,none⟩)))(c1:w.cell? ⟨I,0,none⟩=some (.string d))(c2:w.cell? ⟨n2,0,none⟩=some (.func (.func k) #[] E))(Y:A<w.heap.size)(X:I<w.heap.size)(l2:n2<w.heap.size)(M)(T)(W:∀f,dR d m.files=some f->∀w1,ah' w w1->ai3 k (#[.agg #[cv f.name,.int .i64 (f.sync:Int)]]++E) w1 λe w2=>e=.returned (.int .i64 M)/\bY S w1 w2 p b T):
  ai3 190 #[.pointer (some ⟨A,0,none⟩),.pointer (some ⟨I,0,none⟩),.pointer (some ⟨n2,0,none⟩)] w λe w'=>e=.returned (.int .i64 (bg m d M))/\bY S w w' p b (dG m d T):=by
 obtain⟨d0,d1,d2,f0,f1,f2,Z⟩:=h.box;have Q:d.size<=maxLen:=aB
 have u:=hide (λJ(hx:bS J S p b cv m)=>(xP hx d Q).1);have N:=h;have ek:∀F w,(callFunc k F).run ah.prog w=.ok (.enter k F) w:=R;cases hl:dR d m.files with
 |none=>
  have e1:bg m d M=7:=by unfold bg;rw[hl];rfl
  have e2:dG m d T=m:=by unfold dG;rw[hl];rfl
  rw[e1,e2]
  rw[hl]at u
  simp only[agU]at u;have R:=hide (λw'=>a5l (w':=w') N u.out c0 c1 Y X);go_enter ajo,ntmps190;go_wp2_with fail
  go_region_held (λw'=>w'.cell? ⟨A,0,none⟩=some (.pointer (some ⟨p,0,none⟩))/\w'.cell? ⟨I,0,none⟩=some (.string d)/\w'.cell? ⟨p,1,none⟩=some (.map (some b))/\
   (Instr.lookup 84 (.map (some b)) (.string d) true).run ah.prog w'=.ok (.tuple #[.agg #[.slice none 0 0,.int .i64 0],.bool false]) w'/\ah' w w')
   (first|assumption|(exact R.out _ (a0n _ _).drew)|(exact R.out _ ((a0n _ _).drew.alloc (afA _) _))|(exact R.out _ (((a0n _ _).drew.alloc (afA _) _).setCell (by simp) _))) (fail)
  all_goals (go_wp2;go_ret;exact⟨rfl,N.becomes ((a0n _ _).alloc (afA _) _).drew⟩)
 |some f=>
  have e1:bg m d M=M:=by unfold bg;rw[hl];rfl
  have e2:dG m d T=T:=by unfold dG;rw[hl];rfl
  rw[e1,e2]
  rw[hl]at u
  simp only[Option.isSome_some]at u;have y:=hide (W f hl);obtain⟨hf,_⟩:=eZ hl;obtain⟨a,c,ev⟩:=ay (N.rows f hf)
  rw[ev]at u y
  have R:=hide (λw'=>a5l (w':=w') N u.out c0 c1 Y X);go_enter ajo,ntmps190;go_wp2_with fail
  go_region_held (λw'=>w'.cell? ⟨A,0,none⟩=some (.pointer (some ⟨p,0,none⟩))/\w'.cell? ⟨I,0,none⟩=some (.string d)/\w'.cell? ⟨p,1,none⟩=some (.map (some b))/\
   (Instr.lookup 84 (.map (some b)) (.string d) true).run ah.prog w'=.ok (.tuple #[.agg #[.slice a f.data.size c,.int .i64 (f.sync:Int)],.bool true]) w'/\ah' w w')
   (first|assumption|(exact R.out _ (a0n _ _).drew)|(exact R.out _ ((a0n _ _).drew.alloc (afA _) _))|(exact R.out _ (((a0n _ _).drew.alloc (afA _) _).setCell (by simp) _))) (fail)
  all_goals
   have V:ah' w (w.alloc (.cells #[.slice a f.data.size c,.int .i64 (f.sync:Int)] 195)).drew:=((a0n _ _).alloc (afA _) _).drew;have d3:=(V.cell (p:=⟨n2,0,none⟩) l2).trans c2;go_wp2_with (first|(go_at_fn k;refine(y.out _ (by first|exact V|exact V.drew)).ai ?_;intro w2 i));go_ret
   exact⟨rfl,i.behind (by first|exact V|exact V.drew)⟩
theorem RF:(ah.prog.info? 9).map (λi=>(i.zero,i.size,i.bytes))=some (some (.string ⟨#[]⟩),1,16):=by kernel_rfl
theorem a8B(l):∀u∈mP l,u.oneCell'=true:=by intro u c;exact uf
def NoRoom(v:Value)(n:Nat):Prop:=v=.slice none 0 0\/∃g,v=.slice (some ⟨g,0,none⟩) n n
theorem xQ{V}{o}{a}{K}{Q}{E}(hg:o.guard=none)(s x)(d:o.op=Op.call {callee:=Callee.builtin Builtin.append,args:=#[s,x],argTypes:=#[28,28]})(v)(l)(hs:a.eval s=v)(F:w.ownsRow 0 9 1 v l.length (mP l))(W:NoRoom v l.length)(n)(N)(hx:a.eval x=.slice (some ⟨n,0,none⟩) 1 1)(M:w.cell? ⟨n,0,none⟩=some (.string N))(hl:l.length<=1073741823)(y:∀v' w',w'.ownsRow 0 9 1 v' (l++[N]).length (mP (l++[N]))->ah' w w'->K (a.put o.dst v') w'):
  if Region.wanted o (yielded V a.tmps)=true then Oper.wp ah.prog o a w K Q else E:=by
 have X:Region.wanted o (yielded V a.tmps)=true:=lL
 rw[afN X]
 obtain⟨i0,hi,hz0,hz1,hz2⟩:=ahC RF
 have R:∀(j:Nat)(u:Value),(mP [N])[j]? =some u->w.cell? ((⟨n,0,none⟩:Addr).add j)=some u:=by
  intro j u hj;cases j with
  |zero=>simp only[mP,List.map_cons,List.getElem?_cons_zero,ag1]at hj;subst hj;exact M
  |succ j=>simp[mP]at hj
 obtain⟨v',w',Y,h2,Z,_⟩:=run_append_own (P:=ah.prog) w 0 28 o.type 9 i0 (.string ⟨#[]⟩) 1 16 aiO hi hz0 hz1 hz2 rfl (by decide) v l.length (mP l) F ⟨n,0,none⟩ 1 1 (mP [N]) rfl R (a8B _) aB (by omega) (afK _)
 have hb:ah' w w':=by
  obtain rfl|⟨g,rfl⟩:=W
  ·exact(a0n _ _).grown Z (afA _) (λj hj=>by cases hj)
  ·have hr2:=run_append_grow (P:=ah.prog) w 28 o.type 9 i0 (.string ⟨#[]⟩) aiO hi hz0 ⟨g,0,none⟩ l.length l.length (mP l) (by rw[hz1,ru,agV]) (F.cells (g:=g) rfl) ⟨n,0,none⟩ 1 1 (mP [N]) (by rw[hz1];rfl) R (by omega) (by omega) (ai0 (by omega) (by rw[hz2];omega))
   rw[Y]at hr2
   injection hr2 with e1 e2
   rw[e2]
   exact(a0n _ _).drew.alloc (afA _) _
 unfold Oper.wp;simp[execOp,d,resolve,invoke,builtin,hs,hx,Y,Result.andThen];exact y v' w' (by simp_all[afE,mP,agD]<;>omega) hb
theorem RG{u}(h:w.cell? ⟨A,0,none⟩=some u/\w.cell? ⟨A+1+1,0,none⟩=some v/\A+1+1<w.heap.size)(a:ah' w w'):
  w'.cell? ⟨A,0,none⟩=some u/\w'.cell? ⟨A+1+1,0,none⟩=some v/\A+1+1<w'.heap.size:=
 ⟨(a.cell (p:=⟨A,0,none⟩) (by grind)).trans h.1,(a.cell (p:=⟨A+1+1,0,none⟩) h.2.2).trans h.2.1,afB h.2.2 a.size⟩
theorem aaI{u}(h:w.cell? ⟨A,0,none⟩=some u/\w.cell? ⟨A+1+1,0,none⟩=some v/\A+1+1<w.heap.size)(a:dJ S w w')(d:¬S A)(c:¬S (A+1+1)):
  w'.cell? ⟨A,0,none⟩=some u/\w'.cell? ⟨A+1+1,0,none⟩=some v/\A+1+1<w'.heap.size:=
 ⟨(a.cell (p:=⟨A,0,none⟩) (by grind) d).trans h.1,(a.cell (p:=⟨A+1+1,0,none⟩) h.2.2 c).trans h.2.1,afB h.2.2 a.size⟩
theorem ME(w:World)(c)(T):(w.alloc (.cells #[c] T)).cell? ⟨w.heap.size,0,none⟩=some c:=by simp
theorem mU(w)(a b c)(d e f):
  (((w.alloc (.cells #[a] d)).alloc (.cells #[b] e)).alloc (.cells #[c] f)).cell? ⟨w.heap.size,0,none⟩=some a/\(((w.alloc (.cells #[a] d)).alloc (.cells #[b] e)).alloc (.cells #[c] f)).cell? ⟨w.heap.size+1,0,none⟩=some b/\
   (((w.alloc (.cells #[a] d)).alloc (.cells #[b] e)).alloc (.cells #[c] f)).cell? ⟨w.heap.size+1+1,0,none⟩=some c/\(((w.alloc (.cells #[a] d)).alloc (.cells #[b] e)).alloc (.cells #[c] f)).heap.size=w.heap.size+1+1+1/\
   ah' w (((w.alloc (.cells #[a] d)).alloc (.cells #[b] e)).alloc (.cells #[c] f)):=by
 have j:(w.alloc (.cells #[a] d)).heap.size=w.heap.size+1:=by simp
 have i:((w.alloc (.cells #[a] d)).alloc (.cells #[b] e)).heap.size=w.heap.size+1+1:=by simp
 have l:(w.alloc (.cells #[a] d)).cell? ⟨w.heap.size,0,none⟩=some a:=by simp
 have h:((w.alloc (.cells #[a] d)).alloc (.cells #[b] e)).cell? ⟨(w.alloc (.cells #[a] d)).heap.size,0,none⟩=some b:=ME _ _ _;have g:(((w.alloc (.cells #[a] d)).alloc (.cells #[b] e)).alloc (.cells #[c] f)).cell? ⟨((w.alloc (.cells #[a] d)).alloc (.cells #[b] e)).heap.size,0,none⟩=some c:=ME _ _ _
 rw[j]at h
 rw[i]at g
 have o:Below (w.alloc (.cells #[a] d)).heap.size (w.alloc (.cells #[a] d)) (((w.alloc (.cells #[a] d)).alloc (.cells #[b] e)).alloc (.cells #[c] f)):=((a0n _ _).alloc (afA _) _).alloc (by simp) _;have m:Below ((w.alloc (.cells #[a] d)).alloc (.cells #[b] e)).heap.size ((w.alloc (.cells #[a] d)).alloc (.cells #[b] e)) (((w.alloc (.cells #[a] d)).alloc (.cells #[b] e)).alloc (.cells #[c] f)):=(a0n _ _).alloc (afA _) _
 exact⟨(o.cell (p:=⟨w.heap.size,0,none⟩) (by simp)).trans l,(m.cell (p:=⟨w.heap.size+1,0,none⟩) (by simp)).trans h,g,by simp,(((a0n _ _).alloc (afA _) _).alloc (by simp) _).alloc (by omega) _⟩
theorem qx(w)(S)(p b)(cv)(m)(h:bS w S p b cv m)(d)(hn:d.size<=2097152)(k)(F)(R:Enters ah.prog k)(nv)(l)(hx:l.length<=1073741823)(Y:w.ownsRow 0 9 1 nv l.length (mP l))(hno:NoRoom nv l.length)(hs:∀s∈l,s.size<=2097152)(N)(T)(hl2:T.left=m.left)(hm: -1<=m.left)(hm2:m.left<=9223372036854775807)(hdo:gP (l++[d])=true->∀f,dR d m.files=some f->∀w1,ah' w w1->ai3 k (#[.agg #[cv f.name,.int .i64 (f.sync:Int)]]++F) w1 λe w2=>e=.returned (.int .i64 N)/\bY S w1 w2 p b T):
  ai3 141 #[.pointer (some ⟨p,0,none⟩),.func (.func k) #[] F,.string d,nv] w λe w'=>e=.returned (.int .i64 (aV m (l++[d]) (bg m d N)))/\bY S w w' p b (aU m (l++[d]) (bg m d N) (dG m d T)):=by
 have HI:=h;have Z:=h.box.lt;have hS0:∀j,w.heap.size<=j->¬S j:=λj hj hs=>gq
 clear h;have hk2:Enters ah.prog 190:=ahP ajo (by kernel_rfl) rfl
 have hls:∀s∈l++[d],s.size<=2097152:=λs hs1=>by
  obtain h|h:=agz.1 hs1
  ·exact hs s h
  ·rw[agp]at h;rw[h];exact hn
 have hle:(l++[d]).length<=1073741824:=lK
 have hl3:(dG m d T).left=m.left:=by unfold dG;split;exact hl2;rfl
 obtain⟨E,hE⟩:∃E,E=aV m (l++[d]) (bg m d N):=⟨_,rfl⟩;obtain⟨M,hM⟩:∃M,M=aU m (l++[d]) (bg m d N) (dG m d T):=⟨_,rfl⟩
 rw[<-hE,<-hM]
 have HE:=hide hE;have HM:=hide hM;clear hE hM;obtain⟨c0,c1,c2,hz,K⟩:=mU w (.pointer (some ⟨p,0,none⟩)) (.func (.func k) #[] F) (.string d) 53 198 9;go_enter akf,ntmps141;go_wp2_with fail;generalize (((w.alloc (.cells #[.pointer (some ⟨p,0,none⟩)] 53)).alloc (.cells #[.func (.func k) #[] F] 198)).alloc (.cells #[.string d] 9))=W0 at*;have hr0:=bu Y K;have hz2:w.heap.size+1+1<W0.heap.size:=by omega
 have hch:∀Q w5,w5.ownsRow 0 9 1 Q (l++[d]).length (mP (l++[d]))->ah' W0 w5->
   ai3 137 #[.pointer (some ⟨p,0,none⟩),.func (.func 190) #[] #[.pointer (some ⟨w.heap.size,0,none⟩),.pointer (some ⟨w.heap.size+1+1,0,none⟩),.pointer (some ⟨w.heap.size+1,0,none⟩)],Q] w5 λe w'=>
    e=.returned (.int .i64 E)/\bY S w5 w' p b M:=by
  intro Q w5 c W
  rw[HE.out,HM.out]
  have y:=af K W K.size;refine MC w5 S p b cv m (HI.later y) _ _ hk2 Q (l++[d]) hle (aM c) hls _ _ hl3 hm hm2 (λha _ w1 H=> ?_);have u:=af W H W.size;have o:=af y H y.size;refine KF w1 S p b cv m (HI.later o) d hn _ _ _ k F R ((u.cell (p:=⟨w.heap.size,0,none⟩) jH).trans c0) ((u.cell (p:=⟨w.heap.size+1+1,0,none⟩) oG).trans c2) ((u.cell (p:=⟨w.heap.size+1,0,none⟩) jG).trans c1) (by have:=u.size;omega) (by have:=u.size;omega) (by have:=u.size;omega) N T (λf hf w2 V=> ?_);exact hdo ha f hf w2 (af o V o.size)
 have HC:=hide hch;clear hch hdo c1 hz;have ahy:=hide hno;clear hno;have hS1:=hide hS0;clear hS0
 go_region_held_law (λw'=>w'.cell? ⟨w.heap.size,0,none⟩=some (.pointer (some ⟨p,0,none⟩))/\w'.cell? ⟨w.heap.size+1+1,0,none⟩=some (.string d)/\w.heap.size+1+1<w'.heap.size)
  (first|assumption|(exact⟨c0,c2,hz2⟩)|(exact RG (by assumption) (by assumption))|(exact RG ⟨c0,c2,hz2⟩ ((a0n _ _).drew.alloc (afA _) _))|(exact aaI (by assumption) (by assumption) (hS1.out _ (afA _)) (hS1.out _ (by omega))))
  (first
   |(refine xQ rfl (.tmp 11) (.tmp 13) rfl nv l rfl (hr0.alloc _) ahy.out W0.heap.size d rfl (by simp) hx ?_;intro Q w5 X W)
   |(go_at_call 137;refine(HC.out _ _ X (((a0n _ _).drew.alloc (afA _) _).trans (W.mono (by simp)))).ai ?_;intro w6 i;obtain⟨S6,cv6,hi6,hs6,ht6⟩:=id i))
 all_goals
  have y:ah' w w5:=af K (((a0n _ _).drew.alloc (afA _) _).trans (W.mono (by simp))) K.size;go_wp2;go_ret
  exact⟨rfl,i.behind y⟩
theorem KG{P:Program}{d:Nat}{e:TypeId}{f:List UInt8}(a c:TypeId)(l:P.underlying a=some (.slice e))(q:P.underlying e=some (.int .u8))(r:P.underlying c=some .string)(h:w.ownsRow d e 1 v n (yJ f)):(convert a c v).run P w=.ok (.string ⟨f.toArray⟩) w:=by
 have m:f.length=n:=by have:=h.1;rw[yK]at this;omega
 obtain⟨rfl,rfl⟩|⟨g,i,s,rfl,_⟩:=h.2
 ·grind[afT,Lib.run_convert_nil_bytes]
 ·subst m
  exact ahU (P:=P) w a c e ⟨g,0,none⟩ i f l q r (by
   intro j o
   rw[nR,h.cellAt j (by omega),RA _ _ o])
theorem RH(b):Lib.strCells b=yJ b.data.toList:=rfl
theorem MF{m}{f}(h:bS w S p b cv m)(e:f∈m.files)(i:v.ownBlock=(cv f.name).ownBlock):
  ∀k,v.ownBlock=some k->S k/\k≠p/\k≠b/\∀g∈m.files,g.name≠f.name->(cv g.name).ownBlock≠some k:=by
 intro k d
 rw[i]at d
 obtain⟨q,o,l⟩:=h.far f e k d
 exact⟨q,o,l,λg j a c=>a (h.apart g j f e k c d)⟩
theorem JX{c}{a}{m}(f:ah' w c)(h:bS w' S p b a m)(d:dJ S c w'):bY S w w' p b m:=
 bY.behind f ⟨S,a,h,λ_ e=>.inl e,d⟩
theorem a1G(w)(S)(p b)(cv)(m)(h:bS w S p b cv m)(s:m.files.length<=4194304)(f)(j:f∈m.files)(_hsz:f.data.size<=4194304)(A I)(c0:w.cell? ⟨A,0,none⟩=some (.pointer (some ⟨p,0,none⟩)))(c1:w.cell? ⟨I,0,none⟩=some (.string f.name))(B:A<w.heap.size)(z:I<w.heap.size):
  ai3 142 #[.agg #[cv f.name,.int .i64 (f.sync:Int)],.pointer (some ⟨A,0,none⟩),.pointer (some ⟨I,0,none⟩)] w λe w'=>e=.returned (.int .i64 0)/\bY S w w' p b {m with files:=jU (G9 f) m.files}:=by
 obtain⟨a,c,q⟩:=ay (h.rows f j);have y:=h;have d:=h.rows f j;have g:=MF h j (v:=cv f.name) rfl;have r:=h.names f j
 rw[q]at d g
 have i:=λl(o:ah' w l)=>He l S p b cv m (G9 f) (.slice a f.data.size c) ((y.later o).but _) s (bu d o) g r (afA _)
 have x:=hide i
 rw[q]
 go_enter akg,ntmps142;go_wp2_with (go_at_call 140;refine(x.out _ ((a0n _ _).alloc (afA _) _)).ai ?_;rintro w' ⟨u,t⟩);go_ret
 exact⟨rfl,JX ((a0n _ _).alloc (afA _) _) u t⟩
theorem JY{u:Array Oper}{o:Oper}{a:Act}{K:Act->World->Prop}{Q:Exit->Act->World->Prop}{E:Prop}(hg:o.guard=none)(m x:Operand)(d:o.op=Op.call {callee:=Callee.builtin Builtin.delete,args:=#[m,x],argTypes:=#[84,9]})(b n:Nat)(D:DataW Value)(s:ByteArray)(hm:a.eval m=.map (some b))(hx:a.eval x=.string s)(F:J.ownsMap ah.prog 9 mE b n D)(M:keyOf ah.prog 9 (.string s)=some (.string s.data.toList))(y:∀w',w'.ownsMap ah.prog 9 mE b n (D.del (.string s.data.toList))->J.grownBy w' (some b)->K (a.put o.dst (.tuple #[])) w'):
  if Region.wanted o (yielded u a.tmps)=true then Oper.wp ah.prog o a J K Q else E:=by
 have N:Region.wanted o (yielded u a.tmps)=true:=lL
 rw[afN N]
 obtain⟨w',c,r1,r2⟩:=F.drop yL ajj M o.type;exact Bi
theorem aaJ(h:J.cell? ⟨A,0,none⟩=some U/\J.cell? ⟨I,0,none⟩=some O/\J.cell? ⟨p,1,none⟩=some L/\A≠b/\I≠b/\p≠b)(a:J.grownBy w' (some b)):
  w'.cell? ⟨A,0,none⟩=some U/\w'.cell? ⟨I,0,none⟩=some O/\w'.cell? ⟨p,1,none⟩=some L/\A≠b/\I≠b/\p≠b:=
 ⟨a.cell h.1 (by grind),a.cell h.2.1 (by grind),a.cell h.2.2.1 (by grind),h.2.2.2⟩
theorem MG{i}{D}(h:w.ownsMap ah.prog 9 mE b n D)(c:w.cell? ⟨i,0,none⟩=some v):i≠b:=by
 intro e;subst e;obtain⟨f,a,d,_⟩:=h
 grind[World.cell?]
theorem UL(w)(S)(p b)(cv)(m)(h:bS w S p b cv m)(a)(n c)(E)(k)(R:k<m.files.length)(A I)(c0:w.cell? ⟨A,0,none⟩=some (.pointer (some ⟨p,0,none⟩)))(c1:w.cell? ⟨I,0,none⟩=some (.string m.files[k].name))(l0:A<w.heap.size)(Z:I<w.heap.size):
  ai3 144 #[.agg #[.slice a n c,.int .i64 E],.pointer (some ⟨A,0,none⟩),.pointer (some ⟨I,0,none⟩)] w λe w'=>e=.returned (.int .i64 0)/\bY S w w' p b {m with files:=m.files.eraseIdx k}:=by
 obtain⟨D,W,F,hD⟩:=h.map;have K:ah' w (w.alloc (.cells #[.slice a n c,.int .i64 E] 195)).drew:=((a0n _ _).alloc (afA _) _).drew;have s:=λw' Y=>bS.erase (w':=w') (n:=Y) (h.later K) hD R;have M:=h.ne;have e2:=(h.later K).box.c1;have hn:=h.names _ (afS R);have y:keyOf ah.prog 9 (.string m.files[k].name)=some (.string m.files[k].name.data.toList):=keyOf_string_mk Qu9 aB;have HO:=hide h.EY;have e0:=(K.cell (p:=⟨A,0,none⟩) l0).trans c0;have e1:=(K.cell (p:=⟨I,0,none⟩) Z).trans c1;have u:=(F.alloc (.cells #[.slice a n c,.int .i64 E] 195)).drew;have Q:=MG F c0;have N:=MG F c1;generalize m.files[k].name=V at*;go_enter aki,ntmps144;go_wp2_with fail;have HB:=hide K;generalize (w.alloc (.cells #[.slice a n c,.int .i64 E] 195))=W0 at*
 go_region_held_law (λw'=>w'.cell? ⟨A,0,none⟩=some (.pointer (some ⟨p,0,none⟩))/\w'.cell? ⟨I,0,none⟩=some (.string V)/\w'.cell? ⟨p,1,none⟩=some (.map (some b))/\A≠b/\I≠b/\p≠b)
  (first|assumption|(exact⟨e0,e1,e2,Q,N,M⟩)|(exact aaJ (by assumption) (by assumption)))
  (first|(refine JY rfl (.tmp 8) (.tmp 9) rfl b W D V rfl rfl u y ?_;intro w5 X d))
 go_wp2;go_ret;refine⟨rfl,bY.behind HB.out ⟨S,cv,s _ _ X d,λ_ R=>.inl R,⟨d.os,d.tape,d.output,d.size,λk R hn=>d.block k R (λe=>hn (by injection e with e;rw[e];exact HO.out))⟩⟩⟩
theorem extract_size{a:ByteArray}(c:k<=a.size):(a.extract 0 k).size=k:=by simp_all
theorem DL(a:ByteArray)(k):yJ (a.extract 0 k).data.toList=(yJ a.data.toList).take k:=by unfold yJ;simp
theorem PZ{g c:Nat}{a:ByteArray}(h:w.ownsRow 0 5 1 (.slice (some ⟨g,0,none⟩) n c) n (yJ a.data.toList))(u:k<=n):
  w.ownsRow 0 5 1 (.slice (some ⟨g,0,none⟩) k c) k (yJ (a.extract 0 k).data.toList):=by
 have o:=h.1
 rw[yK,agV]at o
 obtain⟨e,_⟩|⟨x,t,l,e,r,q,m,j,i,f⟩:=h.2
 ·cases e
 ·injection e with d _ s
  injection d with d;injection d with d;subst d s;refine⟨by rw[DL,List.length_take,yK];omega,.inr ⟨g,c,l,rfl,r,q,by omega,j,i,?_⟩⟩
  rw[DL,<-f,List.take_take]
  congr 1
  omega
theorem a5m{o:Obj}{n2:Nat}{e d:Value}(h:(w.alloc o).drew.cell? ⟨A,0,none⟩=some U/\(w.alloc o).drew.cell? ⟨I,0,none⟩=some O/\(w.alloc o).drew.cell? ⟨n2,0,none⟩=some L/\(w.alloc o).drew.cell? ⟨w.heap.size,0,none⟩=some e/\(w.alloc o).drew.cell? ⟨w.heap.size,1,none⟩=some d)(a:dJ S (w.alloc o).drew w')(g:A<w.heap.size/\I<w.heap.size/\n2<w.heap.size)(c:¬S A/\¬S I/\¬S n2/\¬S w.heap.size):
  w'.cell? ⟨A,0,none⟩=some U/\w'.cell? ⟨I,0,none⟩=some O/\w'.cell? ⟨n2,0,none⟩=some L/\w'.cell? ⟨w.heap.size,0,none⟩=some e/\w'.cell? ⟨w.heap.size,1,none⟩=some d:=by
 have f:(w.alloc o).drew.heap.size=w.heap.size+1:=by simp
 refine⟨(a.cell (p:=⟨A,0,none⟩) ?_ c.1).trans h.1,(a.cell (p:=⟨I,0,none⟩) ?_ c.2.1).trans h.2.1,(a.cell (p:=⟨n2,0,none⟩) ?_ c.2.2.1).trans h.2.2.1,(a.cell (p:=⟨w.heap.size,0,none⟩) ?_ c.2.2.2).trans h.2.2.2.1,(a.cell (p:=⟨w.heap.size,1,none⟩) ?_ c.2.2.2).trans h.2.2.2.2⟩<;>rw[f]<;>simp only<;>omega
theorem X4(w)(S)(p b)(cv)(m)(h:bS w S p b cv m)(hm:m.files.length<=4194304)(f)(B:f∈m.files)(hsz:f.data.size<=4194304)(A I n2)(n)(c0:w.cell? ⟨A,0,none⟩=some (.int .i64 n))(c1:w.cell? ⟨I,0,none⟩=some (.pointer (some ⟨p,0,none⟩)))(c2:w.cell? ⟨n2,0,none⟩=some (.string f.name))(G:A<w.heap.size)(F:I<w.heap.size)(E:n2<w.heap.size)(s0:¬S A)(s1:¬S I)(s2:¬S n2):
  ai3 145 #[.agg #[cv f.name,.int .i64 (f.sync:Int)],.pointer (some ⟨A,0,none⟩),.pointer (some ⟨I,0,none⟩),.pointer (some ⟨n2,0,none⟩)] w λe w'=>
   e=.returned (.int .i64 (if n<0\/(f.data.size:Int)<n then 5 else 0))/\bY S w w' p b (if n<0\/(f.data.size:Int)<n then m else{m with files:=jU (mQ f n.toNat) m.files}):=by
 obtain⟨a,c,ev⟩:=ay (h.rows f B);have d:=h;have o:=h.rows f B;have q:=λv x=>MF h B (v:=v) x
 have hn:=h.names f B;have hsy:=h.sync f B
 rw[ev]at o q |-
 by_cases i:n<0\/(f.data.size:Int)<n
 ·rw[afN i,afN i]
  obtain D|D:=i
  ·go_enter aiR,ntmps145
   exact aqK
  ·have hb2:¬n<0:=by omega
   go_enter aiR,ntmps145;exact aqK
 ·rw[afJ i,afJ i]
  obtain⟨k,rfl⟩:∃k:Nat,n=(k:Int):=⟨n.toNat,by omega⟩;have V:k<=f.data.size:=by omega
  simp only[ah9];have hk1:decide (f.data.size<k)=false:=afG (by omega);have hk2:decide ((k:Int)<0)=false:=afG (by omega);have j:ah' w (w.alloc (.cells #[.slice a f.data.size c,.int .i64 (f.sync:Int)] 195)).drew:=((a0n _ _).alloc (afA _) _).drew;have C:=(j.cell (p:=⟨A,0,none⟩) G).trans c0;have R:=(j.cell (p:=⟨I,0,none⟩) F).trans c1;have Q:=(j.cell (p:=⟨n2,0,none⟩) E).trans c2;have K:¬S w.heap.size:=λhs=>absurd (d.lt _ hs) (by omega)
  have W:=hide (And.intro s0 (And.intro s1 (And.intro s2 K)));have y:=extract_size V;have Y:Hid ((mQ f k).data.size=k):=y;have t:=hide (λv x=>q v x)
  have z:∀u(_:ah' w u)(v:Value)(_:w.ownsRow 0 5 1 v k (yJ (f.data.extract 0 k).data.toList))(_:v.ownBlock=(Value.slice a f.data.size c).ownBlock),
    ai3 140 #[.pointer (some ⟨p,0,none⟩),.string f.name,.agg #[v,.int .i64 (min (f.sync:Int) (k:Int))]] u λe w'=>e=.returned (.tuple #[])/\
     bS w' S p b (λn=>if n=f.name then v else cv n) {m with files:=jU (mQ f k) m.files}/\dJ S u w':=λu D v l x=>by
   have h:=He u S p b cv m (mQ f k) v ((d.later D).but _) hm (by rw[Y.out];exact bu l D) (t.out v x) hn (by rw[Y.out];exact Nat.min_le_right _ _);have e:((mQ f k).sync:Int)=min (f.sync:Int) (k:Int):=by show((min f.sync k:Nat):Int)=_;omega
   rw[e]at h
   exact h
  have X:=hide z;obtain⟨e,h0⟩|⟨g,cap,cur,e,_,hg,H,hcm,hcs,htk⟩:=o.2
  ·injection e with P _ N
   subst P N
   have l:w.ownsRow 0 5 1 (.slice none 0 0) k (yJ (f.data.extract 0 k).data.toList):=by
    have e:k=0:=by omega
    subst e
    exact⟨by rw[yK,ByteArray.data_extract];simp,.inl ⟨rfl,rfl⟩⟩
   have T:=hide l;have s:=And.intro G (And.intro F E);obtain rfl:k=0:=by omega
   rw[h0]at j C R Q
   replace C:(w.alloc (.cells #[.slice none 0 0,.int .i64 (f.sync:Int)] 195)).drew.cell? ⟨A,0,none⟩=some (.int .i64 0):=C;go_enter aiR,ntmps145;go_wp2_with fail
   go_region_held (λw'=>w'.cell? ⟨A,0,none⟩=some (.int .i64 0)/\w'.cell? ⟨I,0,none⟩=some (.pointer (some ⟨p,0,none⟩))/\w'.cell? ⟨n2,0,none⟩=some (.string f.name)/\w'.cell? ⟨w.heap.size,0,none⟩=some (.slice none 0 0)/\w'.cell? ⟨w.heap.size,1,none⟩=some (.int .i64 (f.sync:Int)))
    (first|assumption|(exact⟨C,R,Q,by simp,by simp⟩)|(exact a5m (by assumption) (by assumption) s W.out))
    (first|(go_at_call 140;refine(X.out _ j _ T.out rfl).ai ?_;rintro Z ⟨M,r⟩))
   all_goals
    go_wp2;go_ret
    exact⟨rfl,JX j M r⟩
  ·injection e with P _ N
   subst P N;have T:=hide (PZ o V);have s:=And.intro G (And.intro F E);have hkc:decide (c<k)=false:=afG (by omega);go_enter aiR,ntmps145;go_wp2_with fail
   go_region_held (λw'=>w'.cell? ⟨A,0,none⟩=some (.int .i64 (k:Int))/\w'.cell? ⟨I,0,none⟩=some (.pointer (some ⟨p,0,none⟩))/\w'.cell? ⟨n2,0,none⟩=some (.string f.name)/\w'.cell? ⟨w.heap.size,0,none⟩=some (.slice (some ⟨g,0,none⟩) f.data.size c)/\w'.cell? ⟨w.heap.size,1,none⟩=some (.int .i64 (f.sync:Int)))
    (first|assumption|(exact⟨C,R,Q,by simp,by simp⟩)|(exact a5m (by assumption) (by assumption) s W.out))
    (first|(go_at_call 140;refine(X.out _ j _ T.out rfl).ai ?_;rintro Z ⟨M,r⟩))
   all_goals
    go_wp2;go_ret
    exact⟨rfl,JX j M r⟩
theorem aaK{n2 a:Nat}{g f d:Value}(h:J.cell? ⟨A,0,none⟩=some U/\J.cell? ⟨I,0,none⟩=some O/\J.cell? ⟨n2,0,none⟩=some L/\J.cell? ⟨a,0,none⟩=some f/\J.cell? ⟨a,1,none⟩=some d/\J.cell? ⟨p,1,none⟩=some g/\A≠b/\I≠b/\n2≠b/\a≠b/\p≠b)(c:J.grownBy w' (some b)):
  w'.cell? ⟨A,0,none⟩=some U/\w'.cell? ⟨I,0,none⟩=some O/\w'.cell? ⟨n2,0,none⟩=some L/\w'.cell? ⟨a,0,none⟩=some f/\w'.cell? ⟨a,1,none⟩=some d/\w'.cell? ⟨p,1,none⟩=some g/\A≠b/\I≠b/\n2≠b/\a≠b/\p≠b:=
 have e:=h.2.2.2.2.2.2
 ⟨c.cell h.1 (by grind),c.cell h.2.1 (by grind),c.cell h.2.2.1 (by grind),c.cell h.2.2.2.1 (by grind),c.cell h.2.2.2.2.1 (by grind),c.cell h.2.2.2.2.2.1 (by grind),e⟩
theorem X5{m:az}(h:bS w S p b cv m)(c:k<m.files.length)(i:ByteArray):
  ∀j,(cv m.files[k].name).ownBlock=some j->S j/\j≠p/\j≠b/\∀g∈m.files.eraseIdx k,g.name≠i->(cv g.name).ownBlock≠some j:=by
 intro j f;obtain⟨r,q,o⟩:=h.far _ (afS c) j f;refine⟨r,q,o,λg l _ a=> ?_⟩;obtain⟨e,d⟩:=(mem_erase_iff h.ord c).1 l;exact d (h.apart g e _ (afS c) j a f)
theorem UM(w)(S)(p b)(cv)(m)(h:bS w S p b cv m)(hm:m.files.length<=4194304)(k)(R:k<m.files.length)(y)(hto:y.size<=8)(A I n2)(c0:w.cell? ⟨A,0,none⟩=some (.pointer (some ⟨p,0,none⟩)))(c1:w.cell? ⟨I,0,none⟩=some (.string m.files[k].name))(c2:w.cell? ⟨n2,0,none⟩=some (.string y))(l0:A<w.heap.size)(l1:I<w.heap.size)(l2:n2<w.heap.size):
  ai3 143 #[.agg #[cv m.files[k].name,.int .i64 (m.files[k].sync:Int)],.pointer (some ⟨A,0,none⟩),.pointer (some ⟨I,0,none⟩),.pointer (some ⟨n2,0,none⟩)] w λe w'=>
   e=.returned (.int .i64 0)/\bY S w w' p b {m with files:=jU (mR m.files[k] y) (m.files.eraseIdx k)}:=by
 obtain⟨a,c,ev⟩:=ay (h.rows _ (afS R));obtain⟨D,nn,F,hD⟩:=h.map;have E:=h.rows _ (afS R);have M:=X5 h R y;have V:∀j,(cv m.files[k].name).ownBlock=some j->j≠b:=λj hj=>(h.far _ (afS R) j hj).2.2
 rw[ev]at E M V |-
 have K:ah' w (w.alloc (.cells #[.slice a m.files[k].data.size c,.int .i64 (m.files[k].sync:Int)] 195)).drew:=((a0n _ _).alloc (afA _) _).drew;have s:=λw' n'=>bS.erase (w':=w') (n:=n') (h.later K) hD R;have hne:=h.ne;have e3:=(h.later K).box.c1;have hn:=h.names _ (afS R);have hsy:=h.sync _ (afS R);have Y:keyOf ah.prog 9 (.string m.files[k].name)=some (.string m.files[k].name.data.toList):=keyOf_string_mk Qu9 aB;have HO:=hide h.EY;have e0:=(K.cell (p:=⟨A,0,none⟩) l0).trans c0;have e1:=(K.cell (p:=⟨I,0,none⟩) l1).trans c1;have e2:=(K.cell (p:=⟨n2,0,none⟩) l2).trans c2;have N:=(F.alloc (.cells #[.slice a m.files[k].data.size c,.int .i64 (m.files[k].sync:Int)] 195)).drew;have hn0:=MG F c0;have hn1:=MG F c1;have hn2:=MG F c2;have hnb:w.heap.size≠b:=by have:=F.lt;omega
 have Q:(m.files.eraseIdx k).length<=4194304:=afC (agW _ _) hm;have f0:(w.alloc (.cells #[.slice a m.files[k].data.size c,.int .i64 (m.files[k].sync:Int)] 195)).drew.cell? ⟨w.heap.size,0,none⟩=some (.slice a m.files[k].data.size c):=by simp
 have f1:(w.alloc (.cells #[.slice a m.files[k].data.size c,.int .i64 (m.files[k].sync:Int)] 195)).drew.cell? ⟨w.heap.size,1,none⟩=some (.int .i64 (m.files[k].sync:Int)):=by simp
 have W:∀w5 Z,w5.ownsMap ah.prog 9 mE b Z (D.del (.string m.files[k].name.data.toList))->(w.alloc (.cells #[.slice a m.files[k].data.size c,.int .i64 (m.files[k].sync:Int)] 195)).drew.grownBy w5 (some b)->
   ai3 140 #[.pointer (some ⟨p,0,none⟩),.string y,.agg #[.slice a m.files[k].data.size c,.int .i64 (m.files[k].sync:Int)]] w5 λe w'=>e=.returned (.tuple #[])/\
    bS w' S p b (λn=>if n=y then .slice a m.files[k].data.size c else cv n) {m with files:=jU (mR m.files[k] y) (m.files.eraseIdx k)}/\dJ S w5 w':=by
  intro w5 Z h5 u;have ht:dJ (λj=>j=b) (w.alloc (.cells #[.slice a m.files[k].data.size c,.int .i64 (m.files[k].sync:Int)] 195)).drew w5:=⟨u.os,u.tape,u.output,u.size,λk R hn=>u.block k R (λe=>hn (by injection e))⟩;exact He w5 S p b cv {m with files:=m.files.eraseIdx k} (mR m.files[k] y) (.slice a m.files[k].data.size c) ((s w5 Z h5 u).but _) Q (ht.owns (bu E K) (λj hj e=>V j hj e)) M hto hsy
 have d:=hide W;generalize m.files[k].name=nm at*;go_enter akh,ntmps143;go_wp2_with fail;have HB:=hide K;generalize (w.alloc (.cells #[.slice a m.files[k].data.size c,.int .i64 (m.files[k].sync:Int)] 195))=W0 at*
 go_region_held_law (λw'=>w'.cell? ⟨A,0,none⟩=some (.pointer (some ⟨p,0,none⟩))/\w'.cell? ⟨I,0,none⟩=some (.string nm)/\w'.cell? ⟨n2,0,none⟩=some (.string y)/\w'.cell? ⟨w.heap.size,0,none⟩=some (.slice a m.files[k].data.size c)/\w'.cell? ⟨w.heap.size,1,none⟩=some (.int .i64 (m.files[k].sync:Int))/\w'.cell? ⟨p,1,none⟩=some (.map (some b))/\A≠b/\I≠b/\n2≠b/\w.heap.size≠b/\p≠b)
  (first|assumption|(exact⟨e0,e1,e2,f0,f1,e3,hn0,hn1,hn2,hnb,hne⟩)|(exact aaK (by assumption) (by assumption)))
  (first|(refine JY rfl (.tmp 9) (.tmp 10) rfl b nn D nm rfl rfl N Y ?_;intro w5 X u))
 have hS:= ‹w5.cell? _=some _/\w5.cell? _=some _/\w5.cell? _=some _/\w5.cell? _=some _/\w5.cell? _=some _/\w5.cell? _=some _/\_›;obtain⟨C,g1,g2,g3,g4,g5,_⟩:=hS;go_wp2_with (go_at_call 140;refine(d.out _ _ X u).ai ?_;rintro w' ⟨h1,h2⟩);go_ret
 exact⟨rfl,bY.behind HB.out ⟨S,_,h1,λ_ R=>.inl R,dJ.trans (S:=S) (S':=S) ⟨u.os,u.tape,u.output,u.size,λk R hn=>u.block k R (λe=>hn (by injection e with e;rw[e];exact HO.out))⟩ h2 (λ_ h=>.inl h)⟩⟩
end Go.Proofs.Zq
