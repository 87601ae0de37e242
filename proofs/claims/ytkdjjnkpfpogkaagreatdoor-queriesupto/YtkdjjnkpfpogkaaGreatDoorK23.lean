import Derived.Ground.GgzProg
import Derived.Shelf.SlIter.Nil
import Derived.Sort.OwnSorted
import Derived.Test.YtkdjjnkpfpogkaaGreatDoorK22
set_option maxHeartbeats 8000000
set_option linter.all false
set_option maxRecDepth 20000
namespace Go
def ug{P:Prop}(h:P:=by
 go_wp2_with (go_at_call 141;refine(HC.out _ (a0n _ _)).ai ?_;intro w6 i);go_ret
 exact⟨rfl,i.behind K⟩):P:=h
def Bo{P:Prop}(h:P:=by
 go_ret2
 exact⟨rfl,by first|exact g|exact g.drew|exact g.alloc g.size _|exact(g.alloc g.size _).drew⟩):P:=h
def Bp{P:Prop}(h:P:=by
 go_ret
 exact⟨rfl,i.behind (af K l K.size)⟩):P:=h
end Go
namespace Go.Proofs.Zq
open Tryz
open Go.RowKit Go.Shelf Go.WideMaps
open Rl
def RI{m}{a}{f}(h:dR a m.files=some f):∃k,∃c:k<m.files.length,m.files[k].name=a/\jV m a={m with files:=m.files.eraseIdx k}:=by
 cases b:bR a m.files with
 |none=>grind[ll]
 |some k=>
  obtain⟨c,_,d⟩:=iD b
  exact⟨k,c,d,by unfold jV;rw[b]⟩
def MH{l}{f}(h:f∈l):f.data.size<=aR l:=by
 induction l with
 |nil=>cases h
 |cons a r b=>
  unfold aR;exact ahj
def Hg(w)(a b)(c d):
  ((w.alloc (.cells #[a] c)).alloc (.cells #[b] d)).cell? ⟨w.heap.size,0,none⟩=some a/\((w.alloc (.cells #[a] c)).alloc (.cells #[b] d)).cell? ⟨w.heap.size+1,0,none⟩=some b/\
   ((w.alloc (.cells #[a] c)).alloc (.cells #[b] d)).heap.size=w.heap.size+1+1/\ah' w ((w.alloc (.cells #[a] c)).alloc (.cells #[b] d)):=by
 have f:(w.alloc (.cells #[a] c)).heap.size=w.heap.size+1:=by simp
 have g:(w.alloc (.cells #[a] c)).cell? ⟨w.heap.size,0,none⟩=some a:=by simp
 have e:((w.alloc (.cells #[a] c)).alloc (.cells #[b] d)).cell? ⟨(w.alloc (.cells #[a] c)).heap.size,0,none⟩=some b:=ME _ _ _
 rw[f]at e
 have h:Below (w.alloc (.cells #[a] c)).heap.size (w.alloc (.cells #[a] c)) ((w.alloc (.cells #[a] c)).alloc (.cells #[b] d)):=(a0n _ _).alloc (afA _) _
 exact⟨(h.cell (p:=⟨w.heap.size,0,none⟩) (by simp)).trans g,e,by simp,((a0n _ _).alloc (afA _) _).alloc (by simp) _⟩
def a5n(w)(S)(p b)(R)(m)(h:bS w S p b R m)(hm:m.files.length<=4194304)(hu:aR m.files<=4194304)(J: -1<=m.left)(I:m.left<=9223372036854775807)(d)(hn:d.size<=2097152):
  ai3 89 #[.pointer (some ⟨p,0,none⟩),.string d] w λe w'=>e=.returned (.int .i64 (aV m [d] (bg m d 0)))/\bY S w w' p b (aU m [d] (bg m d 0) (dG m d (rX m d))):=by
 obtain⟨E,Q⟩:∃E,E=aV m [d] (bg m d 0):=⟨_,rfl⟩;obtain⟨M,O⟩:∃M,M=aU m [d] (bg m d 0) (dG m d (rX m d)):=⟨_,rfl⟩
 rw[<-Q,<-O]
 have V:=h;have W:∀j,w.heap.size<=j->¬S j:=λj hj hs=>gq
 clear h;obtain⟨c0,c1,X,K⟩:=Hg w (.pointer (some ⟨p,0,none⟩)) (.string d) 53 9;have F:(rX m d).left=m.left:=by unfold rX;split<;>rfl
 have N:Enters ah.prog 142:=ahP akg (by kernel_rfl) rfl
 have U:∀u,Below ((w.alloc (.cells #[.pointer (some ⟨p,0,none⟩)] 53)).alloc (.cells #[.string d] 9)).heap.size ((w.alloc (.cells #[.pointer (some ⟨p,0,none⟩)] 53)).alloc (.cells #[.string d] 9)) u->
   ai3 141 #[.pointer (some ⟨p,0,none⟩),.func (.func 142) #[] #[.pointer (some ⟨w.heap.size,0,none⟩),.pointer (some ⟨w.heap.size+1,0,none⟩)],.string d,.slice none 0 0] u λe w'=>e=.returned (.int .i64 E)/\bY S u w' p b M:=by
  intro u r;have g:=af K r K.size
  rw[Q,O]
  refine qx u S p b R m (V.later g) d hn _ _ N (.slice none 0 0) [] (by simp) (a9X _ _ _ _) (.inl rfl) (λ_ hs=>by cases hs) 0 (rX m d) F J I (λ_ f hf w1 H=> ?_);obtain⟨y,L⟩:=eZ hf;have o:=af r H r.size;have e:rX m d={m with files:=jU (G9 f) m.files}:=by unfold rX;rw[hf]
  rw[e]
  subst L;exact a1G w1 S p b R m (V.later (af g H g.size)) hm f y (afC (MH y) hu) _ _ ((o.cell (p:=⟨w.heap.size,0,none⟩) jH).trans c0) ((o.cell (p:=⟨w.heap.size+1,0,none⟩) jG).trans c1) dC dC
 clear Q O;have HC:=hide U;clear U;go_enter alC,ntmps89;exact ug
def X6(w)(S)(p b)(V)(m)(h:bS w S p b V m)(_hm:m.files.length<=4194304)(_hu:aR m.files<=4194304)(I: -1<=m.left)(F:m.left<=9223372036854775807)(d)(hn:d.size<=2097152):
  ai3 93 #[.pointer (some ⟨p,0,none⟩),.string d] w λe w'=>e=.returned (.int .i64 (aV m [d] (bg m d 0)))/\bY S w w' p b (aU m [d] (bg m d 0) (dG m d (jV m d))):=by
 obtain⟨E,U⟩:∃E,E=aV m [d] (bg m d 0):=⟨_,rfl⟩;obtain⟨M,Q⟩:∃M,M=aU m [d] (bg m d 0) (dG m d (jV m d)):=⟨_,rfl⟩
 rw[<-U,<-Q]
 have W:=h;have Y:∀j,w.heap.size<=j->¬S j:=λj hj hs=>gq
 clear h;obtain⟨c0,c1,hz,K⟩:=Hg w (.pointer (some ⟨p,0,none⟩)) (.string d) 53 9;have y:(jV m d).left=m.left:=by unfold jV;split<;>rfl
 have O:Enters ah.prog 144:=ahP aki (by kernel_rfl) rfl
 have X:∀u,Below ((w.alloc (.cells #[.pointer (some ⟨p,0,none⟩)] 53)).alloc (.cells #[.string d] 9)).heap.size ((w.alloc (.cells #[.pointer (some ⟨p,0,none⟩)] 53)).alloc (.cells #[.string d] 9)) u->
   ai3 141 #[.pointer (some ⟨p,0,none⟩),.func (.func 144) #[] #[.pointer (some ⟨w.heap.size,0,none⟩),.pointer (some ⟨w.heap.size+1,0,none⟩)],.string d,.slice none 0 0] u λe w'=>e=.returned (.int .i64 E)/\bY S u w' p b M:=by
  intro u r;have g:=af K r K.size
  rw[U,Q]
  refine qx u S p b V m (W.later g) d hn _ _ O (.slice none 0 0) [] (by simp) (a9X _ _ _ _) (.inl rfl) (λ_ hs=>by cases hs) 0 (jV m d) y I F (λ_ f hf w1 H=> ?_);obtain⟨N,L⟩:=eZ hf;have o:=af r H r.size;obtain⟨k,R,J,e⟩:=RI hf
  rw[e]
  subst L;obtain⟨a,c,Z⟩:=ay (W.rows f N)
  rw[Z]
  exact UL w1 S p b V m (W.later (af g H g.size)) a f.data.size c _ k R _ _ ((o.cell (p:=⟨w.heap.size,0,none⟩) jH).trans c0) (by rw[J];exact(o.cell (p:=⟨w.heap.size+1,0,none⟩) jG).trans c1) dC dC
 clear U Q;have HC:=hide X;clear X;go_enter alF,ntmps93;exact ug
def RJ{m}{a}{f}(c)(h:dR a m.files=some f):∃k,∃e:k<m.files.length,m.files[k]=f/\jm m a c={m with files:=jU (mR f c) (m.files.eraseIdx k)}:=by
 cases d:bR a m.files with
 |none=>grind[ll]
 |some k=>
  obtain⟨e,b,_⟩:=iD d
  rw[h]at b
  injection b with b
  exact⟨k,e,b.symm,by unfold jm;rw[d,h]⟩
def Hl(w:World)(s):(w.alloc (.cells #[.string s] 9)).ownsRow 0 9 1 (.slice (some ⟨w.heap.size,0,none⟩) 1 1) [s].length (mP [s]):=
 ⟨rfl,.inr ⟨w.heap.size,1,#[.string s],rfl,afK _,heap_alloc_new w _,afA _,by decide,rfl,rfl⟩⟩
def a5o{a b}(h:gP ([a]++[b])=true):a.size<=8:=by grind[gP,dK]
def X7(w)(S)(p b)(cv)(m)(h:bS w S p b cv m)(hm:m.files.length<=4194304)(_hu:aR m.files<=4194304)(U: -1<=m.left)(Q:m.left<=9223372036854775807)(d u)(hn:d.size<=2097152)(ht:u.size<=2097152):
  ai3 90 #[.pointer (some ⟨p,0,none⟩),.string d,.string u] w λe w'=>e=.returned (.int .i64 (aV m [u,d] (bg m d 0)))/\bY S w w' p b (aU m [u,d] (bg m d 0) (dG m d (jm m d u))):=by
 obtain⟨E,Z⟩:∃E,E=aV m [u,d] (bg m d 0):=⟨_,rfl⟩;obtain⟨M,Y⟩:∃M,M=aU m [u,d] (bg m d 0) (dG m d (jm m d u)):=⟨_,rfl⟩
 rw[<-Z,<-Y]
 have HI:=h;have hS0:∀j,w.heap.size<=j->¬S j:=λj hj hs=>gq
 clear h;obtain⟨c0,c1,c2,hz,K⟩:=mU w (.pointer (some ⟨p,0,none⟩)) (.string d) (.string u) 53 9 9;have O:(jm m d u).left=m.left:=by unfold jm;split<;>rfl
 have X:Enters ah.prog 143:=ahP akh (by kernel_rfl) rfl
 have hC:∀y F,Below (((w.alloc (.cells #[.pointer (some ⟨p,0,none⟩)] 53)).alloc (.cells #[.string d] 9)).alloc (.cells #[.string u] 9)).heap.size (((w.alloc (.cells #[.pointer (some ⟨p,0,none⟩)] 53)).alloc (.cells #[.string d] 9)).alloc (.cells #[.string u] 9)) y->y.ownsRow 0 9 1 F [u].length (mP [u])->NoRoom F [u].length->
   ai3 141 #[.pointer (some ⟨p,0,none⟩),.func (.func 143) #[] #[.pointer (some ⟨w.heap.size,0,none⟩),.pointer (some ⟨w.heap.size+1,0,none⟩),.pointer (some ⟨w.heap.size+1+1,0,none⟩)],.string d,F] y λe w'=>e=.returned (.int .i64 E)/\bY S y w' p b M:=by
  intro y F r J L;have g:=af K r K.size
  rw[Z,Y]
  refine qx y S p b cv m (HI.later g) d hn _ _ X F [u] (by simp) J L (λs hs=>by rw[agp]at hs;rw[hs];exact ht) 0 (jm m d u) O U Q (λha f hf w1 H=> ?_);obtain⟨k,R,V,e⟩:=RJ u hf;have o:=af r H r.size;have N:=a5o ha
  rw[e]
  subst V;have W:=(eZ hf).2;subst W;exact UM w1 S p b cv m (HI.later (af g H g.size)) hm k R u N _ _ _ ((o.cell (p:=⟨w.heap.size,0,none⟩) jH).trans c0) ((o.cell (p:=⟨w.heap.size+1,0,none⟩) jG).trans c1) ((o.cell (p:=⟨w.heap.size+1+1,0,none⟩) oG).trans c2) dC dC dC
 clear Z Y;have HC:=hide hC;clear hC;go_enter alD,ntmps90
 have I:((((w.alloc (.cells #[.pointer (some ⟨p,0,none⟩)] 53)).alloc (.cells #[.string d] 9)).alloc (.cells #[.string u] 9)).alloc (.cells #[.string u] 9)).ownsRow 0 9 1 (.slice (some ⟨w.heap.size+1+1+1,0,none⟩) 1 1) [u].length (mP [u]):=by
  have:=Hl (((w.alloc (.cells #[.pointer (some ⟨p,0,none⟩)] 53)).alloc (.cells #[.string d] 9)).alloc (.cells #[.string u] 9)) u
  rw[hz]at this
  exact this
 have l:Below (((w.alloc (.cells #[.pointer (some ⟨p,0,none⟩)] 53)).alloc (.cells #[.string d] 9)).alloc (.cells #[.string u] 9)).heap.size (((w.alloc (.cells #[.pointer (some ⟨p,0,none⟩)] 53)).alloc (.cells #[.string d] 9)).alloc (.cells #[.string u] 9)) ((((w.alloc (.cells #[.pointer (some ⟨p,0,none⟩)] 53)).alloc (.cells #[.string d] 9)).alloc (.cells #[.string u] 9)).alloc (.cells #[.string u] 9)):=(a0n _ _).alloc (afA _) _;go_wp2_with (go_at_call 141;refine(HC.out _ _ l I (.inr ⟨_,rfl⟩)).ai ?_;intro w6 i);exact Bp
end Go.Proofs.Zq
namespace Go.Proofs
open Go.Shelf
def ah.JZ:Go.Shelf.Ren:=⟨fun|7=>148|10=>193|n=>n,fun|23=>84|26=>9|3=>195|28=>203|0=>0|27=>202|33=>145|4=>4|n=>n,fun|n=>n⟩
def ah.Z8:Go.Proofs.SlLaysZ.n7 ah.prog ah.JZ:={
 mixed:=by kernel_rfl
 f7:=⟨Tryz.f148.name,by decide,alT.trans (congrArg some (by kernel_rfl))⟩
 f10:=⟨Tryz.f193.name,by decide,akn.trans (congrArg some (by kernel_rfl))⟩
 t0:=Qu0
 a0:=Qa0
 z0:=Qs0
 v0:=Qz0
 t4:=Qu4
 a4:=Qa4
 z4:=Qs4
 v4:=Qz4
 t23:=ajj
 a23:=anX
 z23:=anW
 v23:=anV
 t26:=Qu9
 a26:=Qa9
 z26:=Qs9
 v26:=Qz9
 t27:=an8
 a27:=anb
 z27:=ana
 v27:=an9
 t28:=akU
 a28:=akY
 z28:=akX
 v28:=akV
 t33:=akP
 a33:=akT
 z33:=akS
 v33:=akQ}
def ah.Fw:Go.Shelf.Ren:=⟨fun|6=>147|8=>191|9=>192|11=>237|13=>239|12=>238|23=>274|24=>275|14=>265|15=>266|16=>267|17=>268|18=>269|19=>270|20=>271|21=>272|22=>273|25=>302|26=>303|27=>304|28=>305|29=>306|30=>307|31=>320|n=>n,fun|26=>9|28=>203|24=>28|0=>0|3=>3|37=>143|48=>317|50=>319|4=>4|40=>311|39=>310|45=>246|5=>5|9=>9|51=>340|55=>344|57=>359|58=>360|33=>145|n=>n,fun|n=>n⟩
def ah.a1H:Go.Proofs.SlLaysZ.n6 ah.prog ah.Fw:={
 mixed:=by kernel_rfl
 f6:=⟨Tryz.f147.name,by decide,alS.trans (congrArg some (by kernel_rfl))⟩
 f8:=⟨Tryz.f191.name,by decide,am2.trans (congrArg some (by kernel_rfl))⟩
 f11:=⟨Tryz.f237.name,by decide,amg.trans (congrArg some (by kernel_rfl))⟩
 t0:=Qu0
 a0:=Qa0
 z0:=Qs0
 v0:=Qz0
 t24:=aiO
 a24:=akb
 z24:=aka
 v24:=ak9
 t26:=Qu9
 a26:=Qa9
 z26:=Qs9
 v26:=Qz9
 t28:=akU
 a28:=akY
 z28:=akX
 v28:=akV
 i26:=by kernel_rfl}
def ah.UN:Go.Shelf.Ren:=⟨fun|6=>192|8=>239|9=>238|19=>274|20=>275|21=>265|22=>266|23=>267|24=>268|25=>269|26=>270|27=>271|28=>272|29=>273|36=>302|31=>303|32=>304|37=>305|38=>306|39=>307|41=>320|n=>n,fun|27=>28|29=>9|3=>3|32=>143|26=>28|0=>0|44=>317|46=>319|4=>4|36=>311|35=>310|41=>246|5=>5|9=>9|53=>340|57=>344|63=>359|64=>360|n=>n,fun|n=>n⟩
def ah.Z9:Go.Proofs.SlLaysM.n6 ah.prog ah.UN:={
 mixed:=by kernel_rfl
 f6:=⟨Tryz.f192.name,by decide,akm.trans (congrArg some (by kernel_rfl))⟩
 f8:=aiV.trans (congrArg some (by kernel_rfl))
 f9:=⟨Tryz.f238.name,by decide,amh.trans (congrArg some (by kernel_rfl))⟩
 f19:=aiY.trans (congrArg some (by kernel_rfl))
 f20:=aiZ.trans (congrArg some (by kernel_rfl))
 f21:=⟨Tryz.f265.name,by decide,amo.trans (congrArg some (by kernel_rfl))⟩
 f22:=⟨Tryz.f266.name,by decide,amq.trans (congrArg some (by kernel_rfl))⟩
 f23:=⟨Tryz.f267.name,by decide,amr.trans (congrArg some (by kernel_rfl))⟩
 f24:=⟨Tryz.f268.name,by decide,ams.trans (congrArg some (by kernel_rfl))⟩
 f25:=⟨Tryz.f269.name,by decide,amt.trans (congrArg some (by kernel_rfl))⟩
 f26:=⟨Tryz.f270.name,by decide,amu.trans (congrArg some (by kernel_rfl))⟩
 f27:=⟨Tryz.f271.name,by decide,amv.trans (congrArg some (by kernel_rfl))⟩
 f28:=⟨Tryz.f272.name,by decide,amw.trans (congrArg some (by kernel_rfl))⟩
 f29:=⟨Tryz.f273.name,by decide,amx.trans (congrArg some (by kernel_rfl))⟩
 f31:=ajy.trans (congrArg some (by kernel_rfl))
 f32:=ajz.trans (congrArg some (by kernel_rfl))
 f36:=⟨Tryz.f302.name,by decide,amH.trans (congrArg some (by kernel_rfl))⟩
 f37:=⟨Tryz.f305.name,by decide,amI.trans (congrArg some (by kernel_rfl))⟩
 f38:=⟨Tryz.f306.name,by decide,amJ.trans (congrArg some (by kernel_rfl))⟩
 f39:=⟨Tryz.f307.name,by decide,amK.trans (congrArg some (by kernel_rfl))⟩
 f41:=⟨Tryz.f320.name,by decide,amQ.trans (congrArg some (by kernel_rfl))⟩
 t0:=Qu0
 a0:=Qa0
 z0:=Qs0
 v0:=Qz0
 t3:=Qu3
 a3:=Qa3
 z3:=Qs3
 v3:=Qz3
 t4:=Qu4
 a4:=Qa4
 z4:=Qs4
 v4:=Qz4
 t5:=Qu5
 a5:=Qa5
 z5:=Qs5
 v5:=Qz5
 t9:=Qu9
 a9:=Qa9
 z9:=Qs9
 v9:=Qz9
 t26:=aiO
 a26:=akb
 z26:=aka
 v26:=ak9
 t27:=aiO
 a27:=akb
 z27:=aka
 v27:=ak9
 t29:=Qu9
 a29:=Qa9
 z29:=Qs9
 v29:=Qz9
 t32:=aj0
 a32:=aj3
 z32:=aj2
 v32:=aj1
 t35:=ajI
 a35:=ajL
 z35:=ajK
 v35:=ajJ
 t36:=ajM
 a36:=ajP
 z36:=ajO
 v36:=ajN
 t41:=ajE
 a41:=ajH
 z41:=ajG
 v41:=ajF
 t44:=aj6
 a44:=aj9
 z44:=aj8
 v44:=aj7
 t46:=aja
 a46:=ajd
 z46:=ajc
 v46:=ajb
 t53:=ajQ
 a53:=ajT
 z53:=ajS
 v53:=ajR
 t57:=ajU
 a57:=ajX
 z57:=ajW
 v57:=ajV
 t63:=ajY
 a63:=ak0
 z63:=aj'
 v63:=ajZ
 t64:=ak1
 a64:=ak4
 z64:=ak3
 v64:=ak2}
end Go.Proofs
namespace Go.Proofs
open Go.RowKit Go.Maps Go.Sort Go.Shelf
def ah.a5p(m):AnyZ.SortsIn ah.prog ah.Fw Fence.wide m:=
 ⟨λblk c a e W f b d=>ahZ.2 (AnyM.slices_Sort_string ah.Z9 blk c a e W f b d),
  λp a W=>ahZ.2 (AnyM.slices_Sort_string_none ah.Z9 p a W)⟩
def ah.OB(a)(W):CallsIn Fence.wide 5 ah.prog 148 #[.map a] W λe b=>e=.returned (.func (.func 193) #[] #[.pointer (some ⟨W.heap.size,0,none⟩)])/\b=W.alloc (.cells #[.map a] 84):=
 AnyZ.keys_in ah.Z8 Fence.wide 5 trivial rfl a W
def ah.vN{H:Type}(b l:Nat)(f:DataW H)(R)(w:World)(c:w.ownsMap ah.prog 9 R b l f)(i:Maps.size f<=maxLen)(a:Maps.size f*16<=140737488355328):
  CallsIn Fence.wide 5 ah.prog 147 #[.func (.func 193) #[] #[.pointer (some ⟨w.heap.size,0,none⟩)]] (w.alloc (.cells #[.map (some b)] 84)) λe k=>∃v g,e=.returned v/\g.Perm (strKeys f)/\
   k.ownsRow (w.alloc (.cells #[.map (some b)] 84)).heap.size 9 1 v g.length ((g.mergeSort (λx y=>decide (x<=y))).map encStr)/\(v=.slice none 0 0↔g=[])/\Below (w.alloc (.cells #[.map (some b)] 84)).heap.size (w.alloc (.cells #[.map (some b)] 84)) k:=by
 have j:=c.lt
 have h:SeqGives Fence.wide 2 ah.prog 193 #[.pointer (some ⟨w.heap.size,0,none⟩)] encStr (λg=>g.Perm (strKeys f)) (Maps.size f) (w.alloc (.cells #[.map (some b)] 84)):=
  AnyZ.keys_gives (ρ:=ah.JZ) {ah.Z8 with} Fence.wide _ trivial rfl (by omega) w.heap.size b l f _ (by simp) (by simp) (by
   obtain⟨p,d,n,q,m,o⟩:=c
   exact⟨p,d,(ahL _ _ b j).trans n,q,m,o⟩)
 exact AnyZ.sorted_in ah.a1H Fence.wide 5 trivial trivial trivial trivial rfl (by omega) (ah.a5p _) (ahP akm (by kernel_rfl) rfl) 193 #[.pointer (some ⟨w.heap.size,0,none⟩)] trivial (ahP akn (by kernel_rfl) rfl) _ _ i a _ h
end Go.Proofs
namespace Go.Proofs.Zq
open Tryz
open Go.RowKit Go.Shelf Go.WideMaps
open Rl
def X8(n)(w):ai9 95 #[.pointer none,.int .i64 n] w (.int .i64 1):=by
 go_enter ald,ntmps95;go_wp2;go_ret
 exact aN
def a1I(w)(S)(p b)(d)(m)(h:bS w S p b d m)(n):
  ai3 95 #[.pointer (some ⟨p,0,none⟩),.int .i64 n] w λe f=>e=.returned (.int .i64 (if n<0 then 5 else 0))/\bY S w f p b (if n<0 then m else{m with left:=n}):=by
 obtain⟨c0,c1,c2,o,l,k,j⟩:=h.box;have c:=h
 by_cases a:n<0
 ·rw[afN a,afN a]
  have i:decide (n<0)=true:=afL a;go_enter ald,ntmps95;go_wp2;go_ret
  exact⟨rfl,c.becomes (a0n _ _)⟩
 ·rw[afJ a,afJ a]
  have i:decide (n<0)=false:=afG a;go_enter ald,ntmps95;go_wp2;go_ret
  exact⟨rfl,S,d,c.yI n,λ_ g=>.inl g,fH _ c.own⟩
def X9(w):ai9 99 #[.pointer none] w (.tuple #[.int .i64 0,.int .i64 1]):=by
 go_enter alJ,ntmps99;go_wp2;go_ret2
 exact aN
def a1J(w)(S)(p b)(a)(m)(h:bS w S p b a m)(c:aR m.files<=4194304):
  ai9 99 #[.pointer (some ⟨p,0,none⟩)] w (.tuple #[.int .i64 (aR m.files:Int),.int .i64 0]):=by
 have d:=UI w S p b a m h c;go_enter alJ,ntmps99;go_wp2_with (go_at_call 139;refine d.ai ?_;intro f e);go_ret2
 exact bX
def a1K(s)(w):ai9 97 #[.pointer none,.string s] w (.tuple #[.string ⟨#[]⟩,.int .i64 1]):=by
 have c:=λv b=>Mx v b
 go_enter ak8,ntmps97;go_wp2_with (go_at_call 146;refine(c _ _).ai ?_;intro d a);go_ret2
 exact⟨rfl,by first|exact a|exact(((a0n _ _).alloc (afA _) _)).trans (a.mono (by simp))⟩
def P5(w)(S)(p b)(R)(m)(h:bS w S p b R m)(s)(hs:s.size<=2097152):
  ai9 97 #[.pointer (some ⟨p,0,none⟩),.string s] w (.tuple #[.string (kH m s),.int .i64 (rY m s)]):=by
 have F:=h;have M:=λv I Y=>PX ⟨p,0,none⟩ v [s] I (by simp) Y (λx hx=>by rw[agp]at hx;rw[hx];exact hs)
 have J:gP [s]=dK s:=by simp[gP]
 rw[J]at M
 have K:ah' w (w.alloc (.cells #[.string s] 9)):=(a0n _ _).alloc (afA _) _;have E:=hide (aM (Hl w s));have d0:=(K.cell (p:=⟨p,1,none⟩) h.box.lt).trans h.box.c1;cases y:dK s with
 |false=>
  have e1:kH m s=⟨#[]⟩:=by unfold kH;rw[y];rfl
  have e2:rY m s=6:=by unfold rY;rw[y];rfl
  rw[e1,e2]
  rw[y]at M
  go_enter ak8,ntmps97;go_wp2_with (go_at_call 146;refine(M _ _ E.out).ai ?_;intro w1 H);go_ret2
  exact⟨rfl,af K H K.size⟩
 |true=>
  rw[y,afN rfl]at M
  have L:s.size<=maxLen:=aB
  have d:=hide (λI(hx:bS I S p b R m)=>(xP hx s L).1);cases hl:dR s m.files with
  |none=>
   have e1:kH m s=⟨#[]⟩:=by unfold kH;rw[y,hl];rfl
   have e2:rY m s=7:=by unfold rY;rw[y,hl];rfl
   rw[e1,e2]
   rw[hl]at d
   simp only[agU]at d;go_enter ak8,ntmps97;go_wp2_with (go_at_call 146;refine(M _ _ E.out).ai ?_;intro w1 H;have g:=af K H K.size;have d1:=(F.later g).box.c1;have N:=d.out w1 (F.later g));exact Bo
  |some f=>
   have e1:kH m s=f.data:=by unfold kH;rw[y,hl];rfl
   have e2:rY m s=0:=by unfold rY;rw[y,hl];rfl
   rw[e1,e2]
   rw[hl]at d
   simp only[Option.isSome_some]at d;obtain⟨hf,_⟩:=eZ hl;obtain⟨a,c,V⟩:=ay (F.rows f hf);have u:=F.rows f hf
   rw[V]at d u
   have O:=hide (λ(I:World)(U:I.ownsRow 0 5 1 (.slice a f.data.size c) f.data.size (yJ f.data.data.toList))=>KG (P:=ah.prog) 144 9 aiK Qu5 Qu9 U);have HR:=hide u;go_enter ak8,ntmps97;go_wp2_with (go_at_call 146;refine(M _ _ E.out).ai ?_;intro w1 H;have g:=af K H K.size;have d1:=(F.later g).box.c1;have N:=d.out w1 (F.later g);have Q:=O.out _ ((bu HR.out g).alloc (.cells #[.slice a f.data.size c,.int .i64 (f.sync:Int)] 195)));exact Bo
open Go.RowKit Go.Shelf Go.WideMaps Go.Maps
open Go.Proofs (encStr)
def RL{l:List aD}(e:Ord l){d:List (List UInt8)}(h:d.Perm (l.map λf=>f.name.data.toList)):(d.mergeSort λx y=>decide (x<=y)).map encStr=mP (l.map λf=>f.name):=by
 have i:(d.mergeSort λx y=>decide (x<=y))=(l.map λf=>f.name.data.toList).mergeSort λx y=>decide (x<=y):=mergeSort_of_perm h
 have g:((l.map λf=>f.name.data.toList).mergeSort λx y=>decide (x<=y))=l.map λf=>f.name.data.toList:=by
  refine List.mergeSort_of_pairwise (List.pairwise_map.2 (e.imp (λ{a b}c=> ?_)))
  rw[Mr,agY]at c
  simp only[agY];exact List.le_of_lt c
 simp_all[mP,List.map_map]
def P6(w):ai9 98 #[.pointer none] w (.tuple #[.slice none 0 0,.int .i64 1]):=by
 go_enter alI,ntmps98;go_wp2;go_ret2
 exact aN
def MJ(w)(S)(p b)(O)(m)(h:bS w S p b O m)(hm:m.files.length<=4194304):
  ai3 98 #[.pointer (some ⟨p,0,none⟩)] w λe w'=>∃v,e=.returned (.tuple #[v,.int .i64 0])/\w'.ownsRow w.heap.size 9 1 v m.files.length (mP (m.files.map λf=>f.name))/\ah' w w':=by
 obtain⟨c0,c1,c2,f0,f1,f2,hl⟩:=h.box;obtain⟨D,n,F,J⟩:=h.map;have u:=J.keys h.ord F;have d:=J.count h.ord F;have V:=h.ord;have U:=λM W=>(ahZ (n:=5)).1 (ah.OB M W)
 have R:=(ahZ (n:=5)).1 (ah.vN b n D mE w F (by rw[d];exact aB) (by rw[d];omega));have HS:=hide R;go_enter alI,ntmps98
 go_wp2_with (first
  |(go_at_call 148;refine(U _ _).ai ?_;intro w' rfl)
  |(go_at_call 147;refine HS.out.mono ?_;rintro e w' ⟨v,L,rfl,N,y,I,hb⟩))
 have E:=N.trans u.symm;have Q:L.length=m.files.length:=by rw[E.length_eq,ag0]
 go_ret2;refine⟨v,rfl,?_,((a0n _ _).alloc (afA _) _).trans (hb.mono (by simp))⟩
 rw[<-RL V E,<-Q]
 exact ownsRow_base_a y (by simp)
def a8C(c)(w):ai3 10 #[.int .i64 c] w λe g=>∃p b,e=.returned (.pointer (some ⟨p,0,none⟩))/\
  bS g (λk=>w.heap.size<=k/\k<g.heap.size) p b (λ_=>.slice none 0 0) ⟨max c 0,[],-1⟩/\ah' w g:=by
 have i:=@run_makeMap ah.prog;go_enter anA,ntmps10;go_wp2;have e:(w.alloc (.map #[] 0)).heap.size=w.heap.size+1:=by simp
 have d:=mD (w.alloc (.map #[] 0)) (.int .i64 (max c 0)) (.map (some w.heap.size)) (.int .i64 (-1)) 86
 rw[e]at d
 have h:=(World.ownsMap_made (H:=Value) w ah.prog 9 mE).alloc (.cells #[.int .i64 (max c 0),.map (some w.heap.size),.int .i64 (-1)] 86);go_ret;refine⟨_,w.heap.size,rfl,⟨d,⟨.map [],0,h,λ_ _=>rfl⟩,(λf a=>absurd a (ags)),⟨by omega,by simp⟩,⟨afA _,by simp;omega⟩,(λf a=>absurd a (ags)),(λf a=>absurd a (ags)),λk j=>j.2,List.Pairwise.nil,(λf a=>absurd a (ags)),(λf a=>absurd a (ags))⟩,((a0n _ _).alloc (afA _) _).alloc (by rw[e];omega) _⟩
def RN(w)(S)(p b)(U)(m)(h:bS w S p b U m)(hm:m.files.length<=4194304)(hu:aR m.files<=4194304)(L: -1<=m.left)(J:m.left<=9223372036854775807)(d)(hn:d.size<=2097152)(n):
  ai3 94 #[.pointer (some ⟨p,0,none⟩),.string d,.int .i64 n] w λe w'=>e=.returned (.int .i64 (aV m [d] (bg m d (fK m d n))))/\bY S w w' p b (aU m [d] (bg m d (fK m d n)) (dG m d (lq m d n))):=by
 obtain⟨E,R⟩:∃E,E=aV m [d] (bg m d (fK m d n)):=⟨_,rfl⟩;obtain⟨M,Q⟩:∃M,M=aU m [d] (bg m d (fK m d n)) (dG m d (lq m d n)):=⟨_,rfl⟩
 rw[<-R,<-Q]
 have W:=h;have u:∀j,w.heap.size<=j->¬S j:=λj hj hs=>gq
 clear h;obtain⟨c0,c1,c2,X,K⟩:=mU w (.pointer (some ⟨p,0,none⟩)) (.string d) (.int .i64 n) 53 9 3;have I:(lq m d n).left=m.left:=by unfold lq;split;split<;>rfl;rfl
 have O:Enters ah.prog 145:=ahP aiR (by kernel_rfl) rfl
 have V:∀y,Below (((w.alloc (.cells #[.pointer (some ⟨p,0,none⟩)] 53)).alloc (.cells #[.string d] 9)).alloc (.cells #[.int .i64 n] 3)).heap.size (((w.alloc (.cells #[.pointer (some ⟨p,0,none⟩)] 53)).alloc (.cells #[.string d] 9)).alloc (.cells #[.int .i64 n] 3)) y->
   ai3 141 #[.pointer (some ⟨p,0,none⟩),.func (.func 145) #[] #[.pointer (some ⟨w.heap.size+1+1,0,none⟩),.pointer (some ⟨w.heap.size,0,none⟩),.pointer (some ⟨w.heap.size+1,0,none⟩)],.string d,.slice none 0 0] y λe w'=>e=.returned (.int .i64 E)/\bY S y w' p b M:=by
  intro y r;have g:=af K r K.size
  rw[R,Q]
  refine qx y S p b U m (W.later g) d hn _ _ O (.slice none 0 0) [] (by simp) (a9X _ _ _ _) (.inl rfl) (λ_ hs=>by cases hs) (fK m d n) (lq m d n) I L J (λ_ f hf w1 H=> ?_);obtain⟨F,N⟩:=eZ hf;have o:=af r H r.size;have e1:fK m d n=(if n<0\/(f.data.size:Int)<n then 5 else 0):=by unfold fK;rw[hf]
  have e2:lq m d n=(if n<0\/(f.data.size:Int)<n then m else{m with files:=jU (mQ f n.toNat) m.files}):=by unfold lq;rw[hf]
  rw[e1,e2]
  subst N;exact X4 w1 S p b U m (W.later (af g H g.size)) hm f F (afC (MH F) hu) _ _ _ n ((o.cell (p:=⟨w.heap.size+1+1,0,none⟩) oG).trans c2) ((o.cell (p:=⟨w.heap.size,0,none⟩) jH).trans c0) ((o.cell (p:=⟨w.heap.size+1,0,none⟩) jG).trans c1) dC dC dC (u _ (by omega)) (u _ (by omega)) (u _ (by omega))
 clear R Q;have HC:=hide V;clear V;go_enter alG,ntmps94;exact ug
open Go.RowKit
def xn{P}(w)(l)(t u E e)(i)(G:P.underlying t=some (.slice e))(q:P.underlying u=some .string)(F:P.info? e=some i)(z:i.zero=some (.int .u8 0))(p:i.size=1)(d:i.bytes=1)(v)(n)(y)(f:w.ownsRow l e 1 v n y)(s)(o:n+s.size<=maxLen)(b:n+s.size<=140737488355328)(h:l<=w.heap.size):
  ∃C j,(Builtin.append_ #[t,u] E #[v,.string s]).run P w=.ok C j/\j.ownsRow l e 1 C (n+s.size) (y++Lib.strCells s)/\w.grownBy j v.ownBlock/\DK w v C:=by
 obtain⟨C,j,H,U,T,_⟩:=Lib.run_append_own_string (P:=P) w l t u E e i G q F z p d v n y f s o b h;refine⟨C,j,H,U,T,?_⟩;have A:y.length=n:=by simpa using f.1
 obtain⟨rfl,rfl⟩|⟨g,r,I,rfl,S,O,N,R,Q,B⟩:=f.2
 ·have M:y=[]:=afT A
  subst M;obtain⟨V,k,x,L,_,_⟩:=Lib.run_append_own_string (P:=P) w w.heap.size t u E e i G q F z p d (.slice none 0 0) 0 [] (a9X _ _ _ _) s o b (afA _)
  exact Bf
 ·by_cases D:n+s.size<=r
  ·have x:=Lib.run_append_room_string (P:=P) w t u E e i G q F p g n r I O s D (by omega)
   rw[H]at x
   injection x with J K;subst J;exact .inl rfl
  ·have x:=Lib.run_append_grow_string (P:=P) w t u E e i (.int .u8 0) G q F z ⟨g,0,none⟩ n r y (by grind) (f.cells (g:=g) rfl) s (by omega) (by omega) (by rw[d];exact ai0 (by omega) (by omega))
   exact Bj
def uZ{P}(w){k}{rest}{o}{a}{Q}(p:o.guard=none)(y x)(t u)(F:o.op=.call {callee:=.builtin .append,args:=#[y,x],argTypes:=#[t,u]})(b)(e)(i)(C:P.underlying t=some (.slice e))(B:P.underlying u=some .string)(G:P.info? e=some i)(z:i.zero=some (.int .u8 0))(d:i.size=1)(q:i.bytes=1)(v)(n)(m)(D:a.eval y=v)(l:w.ownsRow b e 1 v n m)(s)(A:a.eval x=.string s)(r:n+s.size<=maxLen)(c:n+s.size<=140737488355328)(f:b<=w.heap.size)(h:∀j g,g.ownsRow b e 1 j (n+s.size) (m++Lib.strCells s)->w.grownBy g v.ownBlock->DK w v j->wpList P k Q rest (a.put o.dst j) g):wpList P k Q (o::rest) a w:=by
 refine wpList_plain p λK H=> ?_
 obtain⟨j,g,E,L,J,I⟩:=xn (P:=P) w b t u o.type e i C B G z d q v n m l s r c f;unfold Oper.wp;simp[execOp,F,resolve,invoke,builtin,D,A,E,Result.andThen];exact H _ _ (h j g L J I)
end Go.Proofs.Zq
