import Derived.Defers
import Derived.WideMake
import Derived.Test.YtkdjjnkpfpogkaaGreatDoorK43
set_option maxHeartbeats 8000000
set_option linter.all false
set_option maxRecDepth 100000
namespace Go
def aqB{P:Prop}(h:P:=by
 go_wp2_with fail
 refine aqr ?_
 have d:ah' L w5:=af (a0n _ _).drew W (afA _);have I:=HS.out
 rw[afJ (by simp[a])]at I
 rw[I]
 exact⟨rfl,_,E.out.later d,f.out.below d⟩):P:=h
end Go
namespace Go.Proofs.Zq
open Tryz
open Go.RowKit
open Rl
variable{w:World}{B Q p:Nat}{A:Nat->Value}{v:Value}
namespace Rl
theorem fF.acX{s:StateM}(h:fF w B Q A s)(q:p<6){x:vW}(o:KQ w v x)(n:∀b,v=.map (some b)->B<=b/\b≠Q/\∀i,i<6->A i≠.map (some b)):
  fF ((w.setCell ⟨Q,p*2,none⟩ (.bool x.up)).setCell ⟨Q,p*2+1,none⟩ v) B Q (λi=>if i=p then v else A i) (mG s p x):=by
 have g:dJ (λk=>k=Q) w ((w.setCell ⟨Q,p*2,none⟩ (.bool x.up)).setCell ⟨Q,p*2+1,none⟩ v):=(fH (S:=λk=>k=Q) (p:=⟨Q,p*2,none⟩) (.bool x.up) rfl).set (p:=⟨Q,p*2+1,none⟩) v (.inl rfl);refine⟨λi a=> ?_,λi a=> ?_,λj d=>jP,by simpa using h.lt,λi a=> ?_,λi a b c=> ?_,λi a j d b m l=> ?_⟩
 ·rw[bB _ _ _ _ _ (by omega)]
  by_cases e:i=p
  ·subst e;unfold mG;exact CO
  ·unfold mG;exact CP
 ·by_cases e:i=p
  ·subst e;simp only[agr];exact aex _ _ _ (by rw[bB _ _ _ _ _ (by omega)];exact h.IG i a)
  ·rw[afJ e,bB _ _ _ _ _ (by omega),bB _ _ _ _ _ (by omega)];exact h.IG i a
 ·unfold mG
  by_cases e:i=p
  ·simp only[afN e];exact o.touch g (λb c f=>(n b c).2.1 f)
  ·simp only[afJ e];exact(h.maps i a).touch g (λb c f=>(h.far i a b c).2 f)
 ·by_cases e:i=p
  ·grind
  ·simp only[afJ e]at c;exact h.far i a b c
 ·by_cases e:i=p
  ·grind
  ·simp only[afJ e]at m
   by_cases f:j=p
   ·grind
   ·simp only[afJ f]at l;exact h.apart i a j d b m l
theorem fF.acY{f:World}{s:StateM}(h:fF w B Q A s){b:Nat}(l:p<6)(m:A p=.map (some b))(d:dJ (λk=>k=b) w f){x:vW}(q:KQ f (A p) x)(o:x.up=(s p).up):
  fF f B Q A (mG s p x):=by
 have g:Q≠b:=λe=>(h.far p l b m).2 e.symm
 refine⟨λi a=> ?_,λi a=>(d.cell (p:=⟨Q,i*2+1,none⟩) h.lt g).trans (h.IG i a),λj n=>(d.frozen (p:=⟨Q,j,none⟩) h.lt g).trans (h.fz j n),afB h.lt d.size,λi a=> ?_,h.far,h.apart⟩
 ·rw[(d.cell (p:=⟨Q,i*2,none⟩) h.lt g),h.ups i a]
  unfold mG;split<;>grind
 ·unfold mG
  by_cases e:i=p
  ·grind
  ·simp only[afJ e]
   exact(h.maps i a).touch d (λc r t=>e (h.apart i a p l b (by grind) m))
def QO(w:World)(Q:Nat):World:=
 (((((((((((w.setCell ⟨Q,0,none⟩ (.bool false)).setCell ⟨Q,1,none⟩ (.map none)).setCell ⟨Q,2,none⟩ (.bool false)).setCell ⟨Q,3,none⟩ (.map none)).setCell ⟨Q,4,none⟩ (.bool false)).setCell ⟨Q,5,none⟩ (.map none)).setCell ⟨Q,6,none⟩ (.bool false)).setCell ⟨Q,7,none⟩ (.map none)).setCell ⟨Q,8,none⟩ (.bool false)).setCell ⟨Q,9,none⟩ (.map none)).setCell ⟨Q,10,none⟩ (.bool false)).setCell ⟨Q,11,none⟩ (.map none)
theorem fF.zero{s:StateM}(h:fF w B Q A s):fF (QO w Q) B Q (λ_=>.map none) qF:=by
 refine⟨λi a=> ?_,λi a=> ?_,λj c=>by simpa[QO]using h.fz j c,by simpa[QO]using h.lt,λi a=>.inl ⟨rfl,rfl,rfl⟩,λi a b d=>(by cases d),λi a j c b e=>(by cases e)⟩
 ·unfold QO qF
  exact aht
 ·unfold QO
  have:i=0\/i=1\/i=2\/i=3\/i=4\/i=5:=by omega
  obtain rfl|rfl|rfl|rfl|rfl|rfl:=this
  all_goals
   repeat rw[bB _ _ _ _ _ (by omega)]
   exact aex _ _ _ (by (repeat rw[bB _ _ _ _ _ (by omega)]);exact h.IG _ (by omega))
theorem a3u(w:World)(P:Nat):dJ (λk=>k=P) w (QO w P):=
 (((((((((((fH (S:=λk=>k=P) (p:=⟨P,0,none⟩) (.bool false) rfl).set (p:=⟨P,1,none⟩) _ (.inl rfl)).set (p:=⟨P,2,none⟩) _ (.inl rfl)).set (p:=⟨P,3,none⟩) _ (.inl rfl)).set (p:=⟨P,4,none⟩) _ (.inl rfl)).set (p:=⟨P,5,none⟩) _ (.inl rfl)).set (p:=⟨P,6,none⟩) _ (.inl rfl)).set (p:=⟨P,7,none⟩) _ (.inl rfl)).set (p:=⟨P,8,none⟩) _ (.inl rfl)).set (p:=⟨P,9,none⟩) _ (.inl rfl)).set (p:=⟨P,10,none⟩) _ (.inl rfl)).set (p:=⟨P,11,none⟩) _ (.inl rfl)
def Gv(w a:World)(B Q:Nat)(s:StateM):Prop:=∃A,fF a B Q A s/\dJ (λk=>k=Q\/B<=k) w a
end Rl
theorem a9l(m:ByteArray)(h:(upd m).err≠0):(upd m).gone=[]/\(upd m).come=[]:=by grind[upd,sK,EG]
theorem Zj(w:World)(B Q:Nat)(A:Nat->Value)(s:StateM)(c p:Nat)(b:ByteArray)(h:fF w B Q A s):
  ai3 151 #[.pointer (some ⟨Q,0,none⟩),.agg #[.int .i64 (c:Int),.int .i64 6,.int .i64 (p:Int),.string b]] w λe g=>e=.returned (.tuple #[])/\Gv w g B Q s:=by
 have f:=aL w (.cells #[.int .i64 (c:Int),.int .i64 6,.int .i64 (p:Int),.string b] 131);have a:=h.later f;have d:=hide (dJ.aK (S:=λk=>k=Q\/B<=k) f);obtain⟨n,m,l,j,_,_,_,_,i⟩:=fJ w (.int .i64 (c:Int)) (.int .i64 6) (.int .i64 (p:Int)) (.string b) 131;go_enter aiL,ntmps151;exact aqJ
theorem Zk(w:World)(B Q:Nat)(A:Nat->Value)(s:StateM)(f p:Nat)(b:ByteArray)(h:fF w B Q A s):
  ai3 151 #[.pointer (some ⟨Q,0,none⟩),.agg #[.int .i64 (f:Int),.int .i64 5,.int .i64 (p:Int),.string b]] w λe n=>e=.returned (.tuple #[])/\Gv w n B Q qF:=by
 have j:=aL w (.cells #[.int .i64 (f:Int),.int .i64 5,.int .i64 (p:Int),.string b] 131);have d:=h.later j;obtain⟨O,N,M,L,_,_,_,_,K⟩:=fJ w (.int .i64 (f:Int)) (.int .i64 5) (.int .i64 (p:Int)) (.string b) 131;have D:=d.ups 0 (by omega);have C:=d.ups 1 (by omega);have z:=d.ups 2 (by omega);have y:=d.ups 3 (by omega);have u:=d.ups 4 (by omega);have t:=d.ups 5 (by omega);have v0:=d.IG 0 (by omega);have r:=d.IG 1 (by omega);have q:=d.IG 2 (by omega);have v3:=d.IG 3 (by omega);have v4:=d.IG 4 (by omega);have o:=d.IG 5 (by omega);have z0:=d.fz 0 (by omega);have J:=d.fz 1 (by omega);have I:=d.fz 2 (by omega);have z3:=d.fz 3 (by omega);have z4:=d.fz 4 (by omega);have z5:=d.fz 5 (by omega);have H:=d.fz 6 (by omega);have G:=d.fz 7 (by omega);have F:=d.fz 8 (by omega);have z9:=d.fz 9 (by omega);have m:=d.fz 10 (by omega);have l:=d.fz 11 (by omega);simp only[Nat.zero_mul,Nat.one_mul,Nat.reduceMul,Nat.reduceAdd]at D C z y u t v0 r q v3 v4 o;have a:=d.zero;have g:Q=Q\/B<=Q:=.inl rfl;have c:=hide ((dJ.aK (S:=λk=>k=Q\/B<=k) j).trans (a3u _ Q) (λi x=>.inl (by rw[x];exact g)));have E:w.heap.size≠Q:=agX h.lt;go_enter aiL,ntmps151;exact aqZ
theorem a6X(w:World)(B Q:Nat)(A:Nat->Value)(s:StateM)(a p:Nat)(b:ByteArray)(h:fF w B Q A s)(T:B<=w.heap.size)(j:p<6):
  ai3 151 #[.pointer (some ⟨Q,0,none⟩),.agg #[.int .i64 (a:Int),.int .i64 2,.int .i64 (p:Int),.string b]] w λe u=>e=.returned (.tuple #[])/\Gv w u B Q (mG s p ⟨true,[]⟩):=by
 have r:=aL w (.cells #[.int .i64 (a:Int),.int .i64 2,.int .i64 (p:Int),.string b] 131);have o:=h.later r;have d:Q=Q\/B<=Q:=.inl rfl;have q:=aL (w.alloc (.cells #[.int .i64 (a:Int),.int .i64 2,.int .i64 (p:Int),.string b] 131)).drew (.map #[] 0);have G:=(o.later (a0n _ _).drew).later q;have l:=World.ownsMap_made (w.alloc (.cells #[.int .i64 (a:Int),.int .i64 2,.int .i64 (p:Int),.string b] 131)).drew ah.prog 113 RE;have y:(w.alloc (.cells #[.int .i64 (a:Int),.int .i64 2,.int .i64 (p:Int),.string b] 131)).drew.heap.size=w.heap.size+1:=by simp
 have t:=hide (G.acX j (x:=⟨true,[]⟩) (.inr ⟨_,_,_,rfl,rfl,l,vY.empty⟩) (λc f=>by
  injection f with f;injection f with f;have R:=h.lt;refine⟨by omega,by omega,λi F e=> ?_⟩;have m:=h.maps i F
  rw[e]at m
  have:=m.lt
  omega))
 have H:=(((dJ.aK (S:=λk=>k=Q\/B<=k) r).drew.below q).set (p:=⟨Q,p*2,none⟩) (.bool true) (.inl d)).set (p:=⟨Q,p*2+1,none⟩) (.map (some (w.heap.size+1))) (.inl d);obtain⟨N,M,L,K,_,_,_,_,J⟩:=fJ w (.int .i64 (a:Int)) (.int .i64 2) (.int .i64 (p:Int)) (.string b) 131;have g:=o.later (aL _ (.map #[] 0));have P:=g.ups p j;have O:=g.IG p j;have z0:=g.fz (p*2) (by omega);have I:=g.fz (p*2+1) (by omega);have C:(0:Int)<=(p:Int):=by omega
 have z:(p:Int)<6:=by omega
 have D:w.heap.size≠Q:=agX h.lt;have n:Q≠w.heap.size:=Nat.ne_of_lt h.lt;have E:=@run_makeMap ah.prog
 rw[y]at t
 go_enter aiL,ntmps151;go_wp2_with fail
 go_region
 all_goals
  go_wp2_with fail
  refine aqr ?_
  exact⟨rfl,_,t.out,H⟩
theorem Zl(w:World)(B Q:Nat)(A:Nat->Value)(s:StateM)(i p:Nat)(b:ByteArray)(h:fF w B Q A s)(j:p<6):
  ai3 151 #[.pointer (some ⟨Q,0,none⟩),.agg #[.int .i64 (i:Int),.int .i64 3,.int .i64 (p:Int),.string b]] w λe n=>e=.returned (.tuple #[])/\Gv w n B Q (mG s p ⟨false,[]⟩):=by
 have m:=aL w (.cells #[.int .i64 (i:Int),.int .i64 3,.int .i64 (p:Int),.string b] 131);have g:=h.later m;have f:Q=Q\/B<=Q:=.inl rfl;have u:=g.later (a0n _ _).drew;have a:=u.acX j (v:=.map none) (x:=⟨false,[]⟩) (.inl ⟨rfl,rfl,rfl⟩) (λc t=>by cases t);have d:=hide ((((dJ.aK (S:=λk=>k=Q\/B<=k) m).drew).set (p:=⟨Q,p*2,none⟩) (.bool false) (.inl f)).set (p:=⟨Q,p*2+1,none⟩) (.map none) (.inl f));obtain⟨F,E,D,C,_,_,_,_,z⟩:=fJ w (.int .i64 (i:Int)) (.int .i64 3) (.int .i64 (p:Int)) (.string b) 131;have H:=g.ups p j;have G:=g.IG p j;have z0:=g.fz (p*2) (by omega);have y:=g.fz (p*2+1) (by omega);have q:(0:Int)<=(p:Int):=by omega
 have o:(p:Int)<6:=by omega
 have r:w.heap.size≠Q:=agX h.lt;have l:Q≠w.heap.size:=Nat.ne_of_lt h.lt;go_enter aiL,ntmps151;go_wp2_with fail
 go_region
 all_goals
  exact aqJ
theorem Wl(w:World)(B Q:Nat)(A:Nat->Value)(s:StateM)(J p:Nat)(b:ByteArray)(h:fF w B Q A s)(R:p<6)(hb:b.size<=65535)(y:wm b=true)(hs:OkP (s p) 4194303):
  ai3 151 #[.pointer (some ⟨Q,0,none⟩),.agg #[.int .i64 (J:Int),.int .i64 4,.int .i64 (p:Int),.string b]] w λe w'=>e=.returned (.tuple #[])/\Gv w w' B Q (if (s p).up=true then mG s p ⟨true,nk (wS b) (s p).rts⟩else s):=by
 have ba:=aL w (.cells #[.int .i64 (J:Int),.int .i64 4,.int .i64 (p:Int),.string b] 131);have h1:=h.later ba;have z:=h1;have U:=hide (dJ.aK (S:=λk=>k=Q\/B<=k) ba);have hsz0:=ba.size;obtain⟨x0,x1,x2,x3,_,_,_,_,xl⟩:=fJ w (.int .i64 (J:Int)) (.int .i64 4) (.int .i64 (p:Int)) (.string b) 131;have hp0:(0:Int)<=(p:Int):=by omega
 have hp6:(p:Int)<6:=by omega
 have hne:w.heap.size≠Q:=agX h.lt;have hE:=λwx=>FK b wx (by omega)
 have hrt:OV b=.agg #[.int .i64 (wS b).addr,.int .i64 (wS b).len,.string (wS b).attrs]:=by unfold OV;rw[afN y];rfl
 rw[y,hrt]at hE
 have HE:=hide hE;have M:=Qx b;generalize wS b=x at*;obtain⟨s',O⟩:∃s',s'=if (s p).up=true then mG s p ⟨true,nk x (s p).rts⟩else s:=⟨_,rfl⟩
 have HS:=hide O
 rw[<-O]
 go_enter aiL,ntmps151
 go_upto_region 11 with(go_at_call 199;refine(HE.out _).ai ?_;intro w2 V)
 have bx:=mD w2 (.int .i64 x.addr) (.int .i64 x.len) (.string x.attrs) 80
 have q:Below (w.alloc (.cells #[.int .i64 (J:Int),.int .i64 4,.int .i64 (p:Int),.string b] 131)).heap.size (w.alloc (.cells #[.int .i64 (J:Int),.int .i64 4,.int .i64 (p:Int),.string b] 131)) (w2.alloc (.cells #[.int .i64 x.addr,.int .i64 x.len,.string x.attrs] 80)):=
  af V (aL _ _) V.size
 have h3:=z.later q;have f:=hide (U.out.below q);have y2:=(q.cell (p:=⟨w.heap.size,2,none⟩) (by simp)).trans x2;have OW:=q.size;generalize w2.alloc (.cells #[.int .i64 x.addr,.int .i64 x.len,.string x.attrs] 80)=L at*;obtain⟨c0,c1,c2,_,_,_,cl⟩:=bx;have g:=h3.ups p R;have v0:=h3.IG p R;have hm:=h3.maps p R;have Z:=h3.lt;have E:=hide h3;obtain⟨N,a,hl⟩|⟨c,D,n,N,a,F,hD⟩:=hm
 ·rw[a]at g
  have HC:=hide (QM L.drew Q (p*2) x g Z);unfold eQ at HC
  go_region_with (go_at_call 200;refine HC.out.ai ?_;intro w5 W)
  all_goals
   exact aqB
 ·rw[a]at g
  rw[N]at v0
  have hcnt:=hD.count hs.ord hs.fit F;have hsl:=hs.len;have HC:=hide (V9 L.drew Q (p*2) c n D x g v0 Z F.drew (by omega) M.i64);have Y:=(E.out.far p R c N);have u:=hide (hD.put F.isMap hs.ord x M.i64);have HFA:=hide Y.1;unfold eQ at HC
  go_region_with (go_at_call 200;refine HC.out.ai ?_;rintro w5 ⟨n5,X,C⟩)
  all_goals
   go_wp2_with fail
   refine aqr ?_
   have d:dJ (λk=>k=c) L w5:=⟨C.os,C.tape,C.output,C.size,C.block⟩;have I:=HS.out
   rw[afN a]at I
   rw[I]
   exact⟨rfl,_,E.out.acY R N d (.inr ⟨c,_,n5,N,rfl,X,u.out⟩) a.symm,f.out.trans d (λi hi=>.inl (by rw[hi];exact .inr HFA.out))⟩
theorem a3v{s:StateM}{x:vW}(h:x=s p):mG s p x=s:=by grind[mG]
theorem a3w(w:World)(B Q:Nat)(A:Nat->Value)(s:StateM)(tm p:Nat)(b:ByteArray)(h:fF w B Q A s)(Y:p<6)(hb:b.size<=65535)(hs:OkP (s p) 4128768):
  ai3 151 #[.pointer (some ⟨Q,0,none⟩),.agg #[.int .i64 (tm:Int),.int .i64 1,.int .i64 (p:Int),.string b]] w λe w'=>e=.returned (.tuple #[])/\Gv w w' B Q (if (s p).up=true then mG s p ⟨true,kR (s p).rts (upd b)⟩else s):=by
 have ba:=aL w (.cells #[.int .i64 (tm:Int),.int .i64 1,.int .i64 (p:Int),.string b] 131);have h1:=h.later ba;have z:=h1;have U:=hide (dJ.aK (S:=λk=>k=Q\/B<=k) ba);have J:=ba.size;obtain⟨x0,x1,x2,x3,_,_,_,_,xl⟩:=fJ w (.int .i64 (tm:Int)) (.int .i64 1) (.int .i64 (p:Int)) (.string b) 131;have hp0:(0:Int)<=(p:Int):=by omega
 have hp6:(p:Int)<6:=by omega
 have hne:w.heap.size≠Q:=agX h.lt;have hE:=λwx=>Nz b wx aB
 have d:=a0c b;obtain⟨uf1,uf2,aeC⟩:=a0f b;have her:=a9l b;obtain⟨s',hs'⟩:∃s',s'=if (s p).up=true then mG s p ⟨true,kR (s p).rts (upd b)⟩else s:=⟨_,rfl⟩
 have HS:=hide hs'
 rw[<-hs']
 unfold aqD at hE;generalize upd b=u at*;have HE:=hide hE
 by_cases he:u.err=0
 ·rw[he]at HE
  go_enter aiL,ntmps151
  go_upto_region 15 with(go_at_call 201;refine(HE.out _).mono ?_;rintro e w2 ⟨v1,v2,rfl,V,N,ho2,_⟩;obtain⟨a1,c1,rfl⟩:=ay N;obtain⟨a2,c2,rfl⟩:=ay ho2)
  have bx:=mD w2 (.slice a1 u.gone.length c1) (.slice a2 u.come.length c2) (.string ⟨u.text.toArray⟩) 218
  have q:Below (w.alloc (.cells #[.int .i64 (tm:Int),.int .i64 1,.int .i64 (p:Int),.string b] 131)).heap.size (w.alloc (.cells #[.int .i64 (tm:Int),.int .i64 1,.int .i64 (p:Int),.string b] 131)) (w2.alloc (.cells #[.slice a1 u.gone.length c1,.slice a2 u.come.length c2,.string ⟨u.text.toArray⟩] 218)):=
   af V (aL _ _) V.size
  have h3:=z.later q;have f:=hide (U.out.below q);have y2:=(q.cell (p:=⟨w.heap.size,2,none⟩) (by simp)).trans x2;have OW:=q.size;have r1:=(aM N).later (aL w2 (.cells #[.slice a1 u.gone.length c1,.slice a2 u.come.length c2,.string ⟨u.text.toArray⟩] 218));have r2:=(aM ho2).later (aL w2 (.cells #[.slice a1 u.gone.length c1,.slice a2 u.come.length c2,.string ⟨u.text.toArray⟩] 218));have f1:=λk R=>(N.lt k R).1
  have f2:=λk R=>(ho2.lt k R).1
  generalize w2.alloc (.cells #[.slice a1 u.gone.length c1,.slice a2 u.come.length c2,.string ⟨u.text.toArray⟩] 218)=L at*;obtain⟨c0,c1,c2,_,_,_,cl⟩:=bx;have g:=h3.ups p Y;have v0:=h3.IG p Y;have hm:=h3.maps p Y;have Z:=h3.lt;have E:=hide h3;have HM:=hide ((z.maps p Y));obtain⟨O,a,hl⟩|⟨c,D,n,O,a,F,hD⟩:=hm
  ·rw[a]at g
   rw[O]at v0
   have HC:=hide (Wj L.drew Q (p*2) _ _ u (r1.later (a0n _ _).drew) (r2.later (a0n _ _).drew) g v0 Z d.1 d.2 uf1)
   go_region_with (go_at_call 202;refine HC.out.ai ?_;intro w5 W)
   all_goals
    exact aqB
  ·rw[a]at g
   rw[O]at v0
   have hsl:=hs.len
   have hcb:c<w.heap.size+1:=by
    have hm2:=HM.out
    rw[O]at hm2
    have:=hm2.lt
    simpa using this
   have M:=(E.out.far p Y c O)
   have HC:=hide (a3t L.drew Q (p*2) c n D _ _ (s p).rts u (r1.later (a0n _ _).drew) (r2.later (a0n _ _).drew) g v0 Z (λe=>M.2 e.symm) F.drew hD ⟨hs.ord,by omega,hs.fit⟩ d.1 d.2 uf1 uf2 (by omega)
    (λk R e=>by have:=f1 k R;simp at J;simp at this;omega) (λk R e=>by have:=f2 k R;simp at J;simp at this;omega))
   have HFA:=hide M.1
   go_region_with (go_at_call 202;refine HC.out.ai ?_;rintro w5 ⟨D5,n5,X,hD5,C⟩)
   all_goals
    go_wp2_with fail
    refine aqr ?_
    have y:dJ (λk=>k=c) L w5:=⟨C.os,C.tape,C.output,C.size,C.block⟩;have I:=HS.out
    rw[afN a]at I
    rw[I]
    exact⟨rfl,_,E.out.acY Y O y (.inr ⟨c,_,n5,O,rfl,X,hD5⟩) a.symm,f.out.trans y (λi hi=>.inl (by rw[hi];exact .inr HFA.out))⟩
 ·obtain⟨hg0,K⟩:=her he
  have I:s'=s:=by
   rw[HS.out]
   split
   ·rename_i a
    refine a3v ?_;have e6:kR (s p).rts u=(s p).rts:=by unfold kR;rw[hg0,K];rfl
    rw[e6,<-a]
   ·rfl
  have HE5:=hide I;go_enter aiL,ntmps151;go_wp2_with (go_at_call 201;refine(HE.out _).mono ?_;rintro e w2 ⟨v1,v2,rfl,V,N,ho2,_⟩;obtain⟨a1,c1,rfl⟩:=ay N;obtain⟨a2,c2,rfl⟩:=ay ho2)
  refine aqr ?_
  rw[HE5.out]
  exact⟨rfl,_,z.later (af V (aL _ _) V.size),U.out.below (af V (aL _ _) V.size)⟩
theorem a3x(w:World)(B Q:Nat)(A:Nat->Value)(s:StateM)(r:Rec)(h:fF w B Q A s)(d:VK r)(n:B<=w.heap.size)(i:Td s 4128768):
  ai3 151 #[.pointer (some ⟨Q,0,none⟩),dB r] w λe j=>e=.returned (.tuple #[])/\Gv w j B Q (ji s r):=by
 obtain⟨g,k,p,b⟩:=r;have a:=d.ok;have c:=d.peer;have f:=d.size;simp only at a c f;unfold dB;simp only
 by_cases m:k=1
 ·subst m;rw[NK rfl];exact a3w w B Q A s g p b h c f (i p)
 by_cases u:k=2
 ·grind[Qv,a6X]
 by_cases t:k=3
 ·grind[Kg,Zl]
 by_cases l:k=4
 ·subst l;rw[Ip rfl];rw[wU p b (by omega)]at a;exact Wl w B Q A s g p b h c f a ((i p).mono (by omega))
 by_cases q:k=5
 ·grind[Ke,Zk]
 by_cases o:k=6
 ·grind[Kh,Zj]
 rw[za k p b (by omega) (by omega)]at a
 cases a
open Go.RowKit Go.Maps Go.Sort Go.Shelf
theorem SH(F:Fence)(n:Nat)(j:F.fn 205)(b:F.round=none)(f d:Nat)(J:List aX->World->Prop)(W:World)(i:AbidesFrom W.heap.size J)(m:W.cell? ⟨d,0,none⟩=some (.map none))(k:J [] W):
  CallsIn F n ah.prog 205 #[.func (.yield f) #[] #[],.pointer (some ⟨d,0,none⟩)] W λe l=>(∃v,e=.returned v)/\∃c:List aX,c.Perm []/\J c l:=by
 refine callsIn_of_wp ajp rfl j ?_ b;simp only[ntmps205,agZ,ag4,age,Nat.reduceAdd,Nat.reduceSub,Array.replicate_succ,Array.replicate_zero,List.push_toArray,List.append_toArray,List.nil_append,agN];have g:=run_range_nilMap (P:=ah.prog) W 150 113 80 aiT;have h:∀a,(Instr.next (.pointer (some ⟨W.heap.size,0,none⟩)) false a).run ah.prog (W.alloc (.mapIter none 0 #[] 0))=_:=λa=>run_next_nilMap _ a 0 0 #[]
 gi_wp2
 refine wpIn_loop_rounds 1 ?_
 rw[roundsIn_succ]
 gi_wp2
 go_end0
 exact⟨⟨_,rfl⟩,[],List.Perm.refl _,i [] W _ none k (ahY W _ none) (λr e=>by cases e)⟩
theorem Zm(n:Nat)(s:1<=n)(d:Nat)(v:Value)(p:vW)(w:World)(k:Nat)(r:KQ w v p)(a:OkP p k)(g:d<w.heap.size)(t:w.cell? ⟨d,0,none⟩=some v):
  SeqGives Fence.wide n ah.prog 205 #[.pointer (some ⟨d,0,none⟩)] eQ (λz=>z.Perm p.rts) p.rts.length w:=λl J W h i y m=>by
 have e:=(h.cell (p:=⟨d,0,none⟩) g).trans t;obtain⟨rfl,_,q⟩|⟨b,D,o,rfl,_,c,j⟩:=r
 ·rw[q]
  exact SH Fence.wide n trivial rfl l d J W i e m
 ·have F:=j.count a.ord a.fit c
  exact a6V Fence.wide n trivial rfl s l d b o D p.rts j a.ord a.fit J (λf x C u E=>y f x C u (by omega)) W i e (dJ.map (S:=λ_=>False) c (dJ.aK h) (λx=>x)) m
theorem a6Y(d:Option Nat)(w:World):
  ai3 153 #[.map d] w λe w'=>e=.returned (.func (.func 205) #[] #[.pointer (some ⟨w.heap.size,0,none⟩)])/\w'=w.alloc (.cells #[.map d] 150):=by
 go_enter alW,ntmps153;exact cB
theorem Wn(g:Nat)(h:Array Value)(m:∀a w,(callFunc g a).run ah.prog w=.ok (.enter g a) w)(S:List aX->Prop)(N:Nat)(k:N<=4194304)(w:World)(b:SeqGives Fence.wide 4 ah.prog g h eQ S N w):
  ai3 203 #[.func (.func g) #[] h] w λe f=>∃(v:Value)(d:List aX),e=.returned v/\S d/\f.ownsRow w.heap.size 80 3 v d.length (aJ d)/\ah' w f:=by
 have l:=(ahZ (n:=5)).1 (appendSeq_in Fence.wide 5 trivial rfl (by omega) g h trivial m S N k w b);go_enter am4,ntmps203;go_wp2_with (go_at_call 249;refine l.mono ?_;rintro e f ⟨v,d,rfl,j,c,i⟩);go_ret
 exact⟨v,d,rfl,j,c,i⟩
theorem Zn(g:Nat)(v:Value)(p:vW)(w:World)(q:KQ w v p)(c:OkP p 4194304)(k:g<w.heap.size)(s:w.cell? ⟨g,0,none⟩=some v):
  ai3 152 #[.func (.func 205) #[] #[.pointer (some ⟨g,0,none⟩)],.func (.func 154) #[] #[]] w λe l=>∃m,e=.returned m/\l.ownsRow w.heap.size 80 3 m p.rts.length (aJ p.rts)/\ah' w l:=by
 have z:∀a w,(callFunc 205 a).run ah.prog w=.ok (.enter 205 a) w:=ahP ajp (by kernel_rfl) rfl;have n:=c.len;have x:=Wn 205 #[.pointer (some ⟨g,0,none⟩)] z (λd=>d.Perm p.rts) p.rts.length n w (Zm 4 (by omega) g v p w _ q c k s);have r:=c.ord;have C:=λ(i:Value)(d:List aX)(h:World)(o:d.Perm p.rts)(y:h.ownsRow w.heap.size 80 3 i d.length (aJ d))=>a3s w.heap.size i d p.rts h (by rw[o.length_eq];exact n) o r y;go_enter alV,ntmps152
 go_wp2_with (first
  |(go_at_call 203;refine x.mono ?_;rintro e h ⟨i,d,rfl,u,f,t⟩)
  |(go_at_call 204;refine(C _ _ _ u f).ai ?_;rintro D ⟨b,j⟩))
 go_ret
 exact⟨_,rfl,b,t.trans j⟩
theorem pmap_map{p:vW}(h:KQ w v p):∃a,v=.map a:=by
 obtain⟨h,_⟩|⟨b,_,_,h,_⟩:=h
 ·grind
 grind
theorem Zo{a b:World}{n:Nat}{e d:Value}{W:World}(h:a.cell? ⟨n,0,none⟩=some e/\a.cell? ⟨n,1,none⟩=some d/\n<a.heap.size/\ah' W a)(c:ah' a b):
  b.cell? ⟨n,0,none⟩=some e/\b.cell? ⟨n,1,none⟩=some d/\n<b.heap.size/\ah' W b:=
 ⟨(c.cell (p:=⟨n,0,none⟩) h.2.2.1).trans h.1,(c.cell (p:=⟨n,1,none⟩) h.2.2.1).trans h.2.1,afB h.2.2.1 c.size,af h.2.2.2 c h.2.2.2.size⟩
theorem Zp(w:World)(B Q:Nat)(A:Nat->Value)(s:StateM)(k:Nat)(h:fF w B Q A s)(o:k<6)(j:OkP (s k) 4194304):
  ai3 101 #[.pointer (some ⟨Q,0,none⟩),.int .i64 (k:Int)] w λe c=>∃v,e=.returned (.tuple #[v,.bool (s k).up])/\c.ownsRow w.heap.size 80 3 v (s k).rts.length (aJ (s k).rts)/\ah' w c:=by
 have M:=h.ups k o;have D:=h.IG k o;have n:=h.maps k o;have E:=h.lt;have G:(0:Int)<=(k:Int):=by omega
 have F:(k:Int)<6:=by omega
 obtain⟨a,l⟩:=pmap_map n
 rw[l]at D n
 generalize s k=p at*;go_enter alK,ntmps101;go_wp2_with fail;have q:=aL w (.cells #[.bool p.up,.map a] 152);have C:(w.alloc (.cells #[.bool p.up,.map a] 152)).cell? ⟨w.heap.size,0,none⟩=some (.bool p.up):=by simp
 have z:(w.alloc (.cells #[.bool p.up,.map a] 152)).cell? ⟨w.heap.size,1,none⟩=some (.map a):=by simp
 have y:w.heap.size<(w.alloc (.cells #[.bool p.up,.map a] 152)).heap.size:=by simp
 have m:=n.touch (dJ.aK (S:=λ_=>False) q) (λ_ _ x=>x);generalize w.alloc (.cells #[.bool p.up,.map a] 152)=b at*;have u:b.drew.cell? ⟨w.heap.size,0,none⟩=some (.bool p.up)/\b.drew.cell? ⟨w.heap.size,1,none⟩=some (.map a)/\w.heap.size<b.drew.heap.size/\ah' b b.drew:=⟨C,z,y,(a0n _ _).drew⟩;have I:=λf=>a6Y a f;have r:=hide (λ(f:World)(t:ah' b f)=>Zn f.heap.size (.map a) p (f.alloc (.cells #[.map a] 150)) (m.touch (dJ.aK (S:=λ_=>False) (af t (aL f _) t.size)) (λ_ _ x=>x)) j (by simp) (by simp));have J:=hide q;have i:=q.size
 go_region_held (λc=>c.cell? ⟨w.heap.size,0,none⟩=some (.bool p.up)/\c.cell? ⟨w.heap.size,1,none⟩=some (.map a)/\w.heap.size<c.heap.size/\ah' b c)
  (first|assumption|exact u|exact Zo (by assumption) (aL _ _)|exact Zo (by assumption) (by assumption)|exact Zo u (af (aL _ _) (by assumption) (aL _ _).size))
  (first
  |(go_at_call 153;refine(I _).ai ?_;intro L rfl)
  |(go_at_call 152;refine(r.out _ uF).mono ?_;rintro e K ⟨v3,rfl,d,H⟩))
 all_goals
  go_wp2_with fail;go_ret2;have g:=(‹_/\_/\_/\ah' b _›).2.2.2;have N:=g.size
  exact⟨_,rfl,ownsRow_base_a d (by simp;omega),af J.out g i⟩
open Go Go.Conc Go.RowKit
open Go.Proofs.Zb (vK wH yA au)
section
variable{P:Program}{fr:Frame}{cs:List Frame}{w w2:World}{k:List Item}{ops:Array Oper}{i:Nat}{rest:List Nat}{o:Oper}
theorem Zq(h:vK fr ops i rest k o)(a:(execOp fr.eval o).run P w=.ok (.value v) w2):step P (solo (G fr cs) w)=.next (solo (G (fr.finish v) cs) w2):=by
 have b:∃c,stepG P true (G fr cs) w=.go (G (fr.finish v) cs) w2 c:=CU
 obtain⟨c,b⟩:=b;exact step_solo_go rfl b
theorem JA(h:vK fr ops i rest k o){cases}{b}{c}(a:(execOp fr.eval o).run P w=.ok (.comm cases b c) w2):
  ∃d,stepG P true (G fr cs) w=.comm (G fr cs) cases b c w2 d:=CU
def ku(P:Program)(ops:Array Oper)(Q:Exit->Act->World->Prop)(l:List Nat)(a:Act)(w:World):Prop:=
 ∀(b:Frame)(k:List Item)(cs:List Frame),LoneTo P (λe d=>∃c,e=G (b.at c k) cs/\Q .normal c d) (G (b.at a (.inRegion ops l::k)) cs) w
variable{Q:Exit->Act->World->Prop}{a:Act}
theorem ku.nil(h:Q .normal a w):ku P ops Q [] a w:=λb k cs=>.step (step_region_end (b:=b) (a:=a) (k:=k) (cs:=cs) (w:=w) (P:=P) (ops:=ops)) (.done ⟨a,rfl,h⟩)
theorem ku.value(d:ops[i]? =some o)(j:o.guard=none){v}(g:(execOp a.eval o).run P w=.ok (.value v) w2)(h:ku P ops Q rest (a.put o.dst v) w2):ku P ops Q (i::rest) a w:=λb k cs=>by
 have c:=Zq (P:=P) (cs:=cs) (fr:=b.at a (.inRegion ops (i::rest)::k)) ⟨rfl,rfl,rfl,d,j⟩ pK
 rw[Frame.finish_at,d]at c
 exact .step c (h b k cs)
variable{c cap s r:Nat}{buf:Array Value}{tm:Bool}
theorem ku.send(d:ops[i]? =some o)(j:o.guard=none){v z}(g:(execOp a.eval o).run P w=.ok (.comm #[scase c v z] true .send) w2)(l:w2.heap[c]? =some (.chan cap buf false s r tm))(f:buf.size<cap)(h:ku P ops Q rest (a.put o.dst undef) (w2.setChan c cap (buf.push v) false (s+1) r tm)):ku P ops Q (i::rest) a w:=λb k cs=>by
 obtain⟨n,m⟩:=JA (P:=P) (cs:=cs) (fr:=b.at a (.inRegion ops (i::rest)::k)) ⟨rfl,rfl,rfl,d,j⟩ pK;have e:=step_lone_send_room m l f
 exact uM
theorem ku.recv(l){f}(d:ops[i]? =some o)(m:o.guard=none){z}(g:(execOp a.eval o).run P w=.ok (.comm #[rcase c z] true (.recv l)) w2)(n:w2.heap[c]? =some (.chan cap buf f s r tm))(j:0<buf.size)(h:ku P ops Q rest (a.put o.dst (got l (buf.getD 0 undef) true)) (w2.setChan c cap (buf.extract 1 buf.size) f s (r+1) tm)):ku P ops Q (i::rest) a w:=λb k cs=>by
 obtain⟨t,q⟩:=JA (P:=P) (cs:=cs) (fr:=b.at a (.inRegion ops (i::rest)::k)) ⟨rfl,rfl,rfl,d,m⟩ pK;have e:=step_lone_recv_buf l q n j
 exact uM
theorem ku.a3y(f)(d:ops[i]? =some o)(j:o.guard=none){z}(g:(execOp a.eval o).run P w=.ok (.comm #[rcase c z] true (.recv f)) w2)(l:w2.heap[c]? =some (.chan cap #[] true s r tm))(h:ku P ops Q rest (a.put o.dst (got f z false)) w2):ku P ops Q (i::rest) a w:=λb k cs=>by
 obtain⟨n,m⟩:=JA (P:=P) (cs:=cs) (fr:=b.at a (.inRegion ops (i::rest)::k)) ⟨rfl,rfl,rfl,d,j⟩ pK;have e:=step_lone_recv_shut f m l
 exact uM
theorem xy{id}(h:ku P ops Q (List.range ops.size) a w):(Code.region id ops false).wp P Q a w:=λb k cs=>by
 obtain⟨j,d,e,g,rfl,f⟩:=h b k cs
 exact⟨.normal,g,d,f,Steps.head (step_region (b:=b) (a:=a) (k:=k) (cs:=cs) (w:=w) (P:=P) (ops:=ops) (id:=id)) e⟩
def bodyPostC(P:Program)(d:Func)(n:au)(R:Ending->World->Prop):Exit->Act->World->Prop
 | .normal,a,w| .ret,a,w=>∃(b cap s r:Nat)(buf:Array Value)(tm:Bool),a.defers=[Go.Proofs.Zb.mf n b]/\w.heap[b]? =some (.chan cap buf false s r tm)/\
   ∃v,(results d a.tmps).run P (w.setChan b cap buf true s r tm)=.ok v (w.setChan b cap buf true s r tm)/\R (.returned v) (w.setChan b cap buf true s r tm)
 |_,_,_=>False
theorem Iy{f}{x}{c}{d}{n}{R}(F:P.funcs[f]? =some x)(M:x.body=some c)(J:x.norace=false)(h:c.wp P (bodyPostC P x n R) {tmps:=d++Array.replicate (x.ntmps-d.size) undef,defers:=[]} w):Calls P f d w R:=by
 intro cs
 let b:Frame:={(default:Frame)with fn:=f,kind:=.normal}
 have t:Frame.enter P f d .normal=
   b.at {tmps:=d++Array.replicate (x.ntmps-d.size) undef,defers:=[]} [.code c]:=by
  simp[Frame.enter,Frame.at,F,M,b]
 have E:(P.funcs[f]?).any (·.norace)=false:=by rw[F];simpa using J
 have D:∀(u:Act)(q:World)(g:List Item),(∃(C cap s r:Nat)(buf:Array Value)(tm:Bool),u.defers=[Go.Proofs.Zb.mf n C]/\q.heap[C]? =some (.chan cap buf false s r tm)/\
   ∃v,(results x u.tmps).run P (q.setChan C cap buf true s r tm)=.ok v (q.setChan C cap buf true s r tm)/\R (.returned v) (q.setChan C cap buf true s r tm))->
   Steps P (lone (Frame.enter P f d .normal) cs w) (lone {b.at u g with mode:=.returning} cs q)->
   ∃e y fr,R e y/\Comes P (lone (Frame.enter P f d .normal) cs w) (lone fr cs y) e/\fr.fn=f/\fr.leaving P y e:=by
  intro u q g ⟨C,cap,s,r,buf,tm,K,L,v,H,N⟩ I;have O:=yA (p:=P) (main:=true) (cs:=cs) (n:=n) (w:=q) (fr:={b.at u g with mode:=.returning}) rfl (ch:=C) K L E
  exact⟨.returned v,_,{b.at u g with mode:=.returning,defers:=[]},N,Steps.trans I (.one (step_solo_go rfl O)),rfl,rfl,rfl,rfl,x,F,H⟩
 obtain⟨e,u,q,j,m⟩:=h b [] cs
 rw[<-t]at m
 cases e with
 |normal=>exact D u q [] j (Steps.trans m (.one step_end))
 |ret=>obtain⟨g,z⟩:=m;exact D u q g j z
 |panic G=>exact j.elim
 |exit id=>exact j.elim
 |goto l=>exact j.elim
 |outgrown=>exact j.elim
end
end Go.Proofs.Zq
