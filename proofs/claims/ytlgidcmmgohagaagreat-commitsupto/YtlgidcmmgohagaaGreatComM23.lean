/- A part of the proof. -/
import Derived.Test.YtlgidcmmgohagaaGreatComM22
set_option linter.all false
namespace Go.Proofs.YtlgidcmmgohagaaGreat
open Go.RowKit Go.Sort Go.Shelf Go.Proofs.Tryz
open Go.Value renaming slice->fy,string->fA,pointer->fB,tuple->fC,agg->fD,bool->fE
open Go.Ending renaming returned->fF
open Option renaming some->fh,none->fj
open Bool renaming true->fm,false->fo
open Go renaming World->fq,Value->fu
open List renaming length->fv,reverse->fx
open Go.RowKit renaming Hid->fe
set_option maxRecDepth 100000
set_option maxHeartbeats 0
variable {b f:Bool}{R:xP}{N:gF}{w:fq}{B0 W s r p I:Nat}{A J:List Ob}{got:List Int}{ws:List Slot}{ds:List Doc}
def ID(W)(c d f:Int)(g h)(i)(j k)(R:fq->Prop)(w)
  (a:∀b,ju w b->ik 46 #[ie W] b λe H=>e=fF (fE fm)/\R H):
  ik 20 #[ie W,fD<|iT 6 c d f g h i j k] w λe H=>e=fF (fE fm)/\R H:=by
 unfold iT;have l:fe _:=a;clear a;go_enter func20,ntmps20;go_wp2_with fail;refine Calls.via (l.o _<|(mi _ _).alloc (lw _) _) λn m=>?_
 go_wp2;go_ret;exact⟨fX,m⟩
theorem TY(W s:Nat)(k b l e d:Int)(m n)(o)(p q)(w:fq)(z:W<w.heap.size)(c0:w.c W 0=fh (ie s))(f:d≠2)
  (hid:∀a,ju w a->ik 39 #[ie W,fY b] a (PP (fY b) a))
  (g:∀a,ju w a->ik 41 #[ie W,fY b] a (PP (fY e) a))
  (h:∀a,ju w a->ik 42 #[ie W,fY e] a (PP (fY d) a))
  (i:∀a,ju w a->ik 27 #[ie s,fY b] a (ut (fC #[fB fj,fY 13]) a)):
  ik 20 #[ie W,fD<|iT 7 k b l m n o p q] w (ut (fE fm) w):=by
 unfold iT;have c:∀j,ju w (w.alloc j):=λj=>(mi _ _).alloc (lw _) _
 have r:=λ(H:fq)=>iR 13 H;have A:(d==2)=fo:=by simpa using f
 have B:(d != 2)=fm:=by simpa using f
 have t:fe _:=hid;have u:fe _:=g;have v:fe _:=h;have x:fe _:=i;clear hid g h i;go_enter func20,ntmps20;go_wp2_with(first
  |(go_at_call 39;refine Calls.still (t.o _<|c _) ?_)
  |(go_at_call 41;refine Calls.still (u.o _<|c _) ?_)
  |(go_at_call 42;refine Calls.still (v.o _<|c _) ?_)
  |(go_at_call 27;refine Calls.via (x.o _<|c _) λC y=>?_)
  |(go_at_call 22;refine Calls.still (r _) ?_))
 go_ret;exact⟨fX,(c _).trans<|y.mono (by simp)⟩
theorem TZ(W b n j e:Nat)(k c l f:Int)(m o)(p)(q r)(w:fq)(v:W<w.heap.size)(c4:w.c W 4=fh (my e 0 n j))(x:b<n)(y:n<=1000000000)(z:e<w.heap.size)(A:w.c e b=fh (fY f))(B:300<f)
  (hid:∀a,ju w a->ik 39 #[ie W,fY c] a (PP (fY c) a))
  (g:∀a,ju w a->ik 41 #[ie W,fY c] a (PP (fY (b:Int)) a))
  (h:∀a,ju w a->ik 42 #[ie W,fY (b:Int)] a (PP (fY 2) a)):
  ik 20 #[ie W,fD<|iT 7 k c l m o p q r] w (ut (fE fm) w):=by
 unfold iT;have d:∀i,ju w (w.alloc i):=λi=>(mi _ _).alloc (lw _) _
 have C:(b:Int)<(n:Int):=by omega
 have s:fe _:=hid;have t:fe _:=g;have u:fe _:=h;clear hid g h;go_enter func20,ntmps20;go_wp2_with(first
  |(go_at_call 39;refine Calls.still (s.o _<|d _) ?_)
  |(go_at_call 41;refine Calls.still (t.o _<|d _) ?_)
  |(go_at_call 42;refine Calls.still (u.o _<|d _) ?_))
 go_ret;exact⟨fX,d _⟩
def lrs:(prog.info? 32).map (λi=>(i.zero,i.size,i.bytes))=fh (fh<|fB fj,1,8):=by kernel_rfl
def lrv:(prog.info? 115).map (λi=>(i.zero,i.size,i.bytes))=fh (fh<|fB fj,1,8):=by kernel_rfl
def VS{b}:∀a∈[ptr b],a.oneCell'=fm:=by intro a c;simp at c;subst c;rfl
def gq.c01(a:gq b f R N w B0 W s r p I A J got ws ds):w.c W 0=fh (ie s)/\w.c W 1=fh (ie r)/\W<w.heap.size/\w.c W 5=fh (fy R.wa (fv ws) R.wc)/\w.c W 6=fh (fy R.ta (fv ds) R.tc):=by
 have⟨d,e,g,_⟩:=mE.cells a.w3.law;have⟨h,i,j,k,l,c⟩:=a.block;exact⟨d,e,g,by simp[World.cell?,c],by simp[World.cell?,c]⟩
theorem gi.moved{a:Nat×Nat->Prop}{M}{H}{b c:Nat}{E}{d}{rest}(h:gi (λk=>N k=(0,c)) w b E d rest)(f:lG N w)(m:fI a N M w H)(i:c≠0)(q:¬a (0,c)):gi (λk=>M k=(0,c)) H b E d rest:=by
 have r:((0,c):Nat×Nat)≠(0,0):=λe=>i<|congrArg Prod.snd e;have⟨j,l,n,o,p⟩:=h;exact⟨j,l,n,o,p.keep (λk g=>(m.tags k (f.lt (by grind))).trans g) λk g=>m.block k (f.lt (by grind)) (by grind)⟩
def gq.co{g d}{e}(a:gq b f R N w B0 W s r p I A J got ws ds)(j:ju w g)(h:fI (λ_=>False) N e g d)(k:js e d s p A got b I):∃i,i.q=R.q/\gq b f i e d B0 W s r p I A J got ws ds:=by
 have c:=a.below j;have⟨_,pt,l,m,n,_,o⟩:=k;exact⟨{ R with pt:=pt },fX,c.after h (λ_ a=>a) l m n o fX (c.wsT h λ_ _ _ a=>a) c.slot c.cnt⟩
def hlr(l:gq b f R N w B0 W s r p I A J got ws ds)(bf:fv ws<=100000000)(av:fv ds=fv ws)(y n bg af:Nat)(bh B bi ag:Int)(bj bk)(bl)(bm bn)(c4:w.c W 4=fh (my af 0 n bg))(ca:y<n)(cb:n<=1000000000)(cc:af<w.heap.size)(cd:w.c af y=fh (fY ag))(bo:¬300<ag)
  (z:WG)(t0:LT)(aw:∀x,z.fs.kn x=0)(E:List fV)(m:fT)(ax:ue A z.base (E,m)){PR:iN->Prop}
  (hid:∀a,ju w a->ik 39 #[ie W,fY B] a (PP (fY B) a))
  (ay:∀a,ju w a->ik 41 #[ie W,fY B] a (PP (fY (y:Int)) a))
  (az:∀a,ju w a->ik 42 #[ie W,fY (y:Int)] a (PP (fY 2) a))
  (aA:∀a,ju w a->ik 27 #[ie s,fY B] a λe H=>∃g Q,e=pD #[ie g.wb,fY 0]/\fI (λ_=>False) N Q a H/\js Q H s p A got b I/\En Q H p A I (fv ws+2,g,z,t0))
  (aB:∀(aC:Nat->Prop)(d:fq),gj aC d r J->(∀k,aC k->k<d.heap.size)->ik 47 #[ie r,fY (y:Int)] d λe H=>∃F rest,PR rest/\e=fF (ie d.heap.size)/\(∀k,F k->d.heap.size<=k/\k<H.heap.size)/\gi F H d.heap.size E m rest/\nv (λk=>d.heap.size<=k/\¬F k) H rest (E,m)/\ju d H):
  ik 20 #[ie W,fD<|iT 7 bh B bi bj bk bl bm bn] w λe H=>e=fF (fE fm)/\∃aD M g C rest,PR rest/\aD.q=R.q/\gq b f aD M H B0 W s r p I A J got (ws++[(fv ws+2,g,z,t0)]) (ds++[(C,E,m,rest)])/\Below B0 w H:=by
 unfold iT;have⟨bp,bq,br,bs,bt⟩:=kC lrs;have⟨bu,bv,bw,bx,bz⟩:=kC lrv;have o:∀g,ju w (w.alloc g):=λg=>(mi _ _).alloc (lw _) _
 have ce:(y:Int)<(n:Int):=by omega
 have cf:decide (300<ag)=fo:=yv bo;have⟨c0,c1,cg,_,_⟩:=l.c01;have S:fe _:=l;have aE:fe _:=hid;have aF:fe _:=ay;have aG:fe _:=az;have aH:fe _:=aA;have aI:fe _:=aB;have D:fe (fv ds=fv ws):=av;have bA:fe _:=aw;have bB:fe _:=ax;clear hid ay az aA aB l av aw ax;go_enter func20,ntmps20;go_wp2_with(first
  |(go_at_call 39;refine Calls.still (aE.o _<|o _) ?_)
  |(go_at_call 41;refine Calls.still (aF.o _<|o _) ?_)
  |(go_at_call 42;refine Calls.still (aG.o _<|o _) ?_))
 apply RK<|aH.o _ (o _);rintro _ d ⟨g,Q,rfl,q,aJ,aK⟩;have aL:Below B0 w d:=(S.o.low (H:=d) (X:=λ_=>False) ⟨q.os,q.tape,q.output,wy (o _).size q.size,λk h _=>(q.block k (np h (o _).size) λl=>l).trans<|(o _).block k h⟩ λk l=>l.elim);have bC:fe _:=aL;have ch:=S.o.size;have⟨t,aM,ah⟩:=S.o.co (o _) q aJ;have bD:fe (t.q=R.q):=aM;have⟨d0,d1,ci,_,_⟩:=ah.c01;have G:fe _:=ah;have aN:fe _:=aK;clear q aJ aK ah S aH aE aF aG aL aM;go_wp2_with fail;apply RK (aI.o _ d G.o.w3.ref λk h=>(G.o.w3.sep.rl k h).1);rintro _ K ⟨F,rest,bE,rfl,hF,aO,aP,ai⟩;have bF:fe (Below B0 w K):=bC.o.trans<|ai.mono G.o.size;have⟨bG,aQ,L,aj,aR⟩:=G.o.tagged ai hF aO aP (0,8+fv ds);have aS:=aN.o.moves aQ λ_ l=>l;have⟨bH,bI,cj,aT,ak⟩:=L.c01;have⟨bJ,bK,bL,bM,bN,aU⟩:=L.block;obtain⟨C,aV⟩:=ol d.heap.size;rw[<-aV]at aj |-;obtain⟨k,h⟩:=ol<|fv ws;have T:fe (k=fv ws):=h;have U:fe (K.ownsRow 0 32 1 (fy t.wa k t.wc) k (ws.map λx=>ptr x.2.1.wb)):=by rw[h];exact L.yY.1
 rw[<-h]at aT bf;have V:fe _:=L;have aW:fe _:=aS;have aX:fe _:=aj;have bO:fe _:=aR;have O:fe _:=aU;clear aI G aN aO aP hF ai aQ L aS aj aR aU aV h d0 d1 ak;go_upto_region 46 with fail
 go_cut []from 28 to 318 λY=>fe (∃c u,c.q=R.q/\c.bs (fv ws)=(E,m)/\gq b f c u Y B0 W s r p I A J got (ws++[(fv ws+2,g,z,t0)]) ds/\gi (λk=>u k=(0,8+fv ds)) Y C E m rest/\nv (λk=>u k=(0,5)) Y rest (E,m)/\Below B0 w Y)
 case first=>
  go_wp2_with(at_builtin;refine yn fX (.tmp 297) (.tmp 299) 62 fX 0 32 bp _ 1 8 underlying62 bq br bs bt fX (by decide) (fy t.wa k t.wc) k (ws.map λx=>ptr x.2.1.wb) fX (rE U.o _) (ii K.heap.size 0) 1 1 [ptr g.wb] fX fX (one_cell K _ _ _ fX) VS (by unfold maxLen;omega) (by omega) (zt _) ?_);intro v4 al am an aY;obtain⟨ck,c4,rfl⟩:=hZ am (by omega);have Z:=mW O.o (PH _ _) (by simp) an<|io U.o O.o (by decide);have cl:al.c W 5=fh (fy t.wa (fv ws) t.wc):=by simp[World.cell?,Z]
  have f54:al.frozen? (ii W 5)=fo:=by simp[World.frozen?,Z]
  have cm:W<al.heap.size:=(lW.1 Z).1;have j:=jk (i:=5) O.o U.o (by decide) (PH K _) (by simp) ⟨fX,fX,fX⟩ am an aY (by simp);have ao:fe _:=j;clear j am an aY Z;go_wp2_with fail;go_meet;have j:=ao.o;rw[T.o]at j |-;have⟨c,u,aa,ab,aZ,v,ac⟩:=V.o.acN D.o aW.o (show ue A z.base (E,m)from bB.o) bA.o O.o j;exact⟨c,u,aa.trans bD.o,ab,v,gi.moved aX.o V.o.fresh aZ (by omega) (by rintro(e|e)<;>(have:=congrArg Prod.snd e;simp only at this;omega)),nv.keep (F:=λk=>bG k=(0,5)) (x:=(E,m)) bO.o fX (λk h=>V.o.tag aZ h (by decide) (by rintro(e|e)<;>cases e)),bF.o.trans ac⟩
 case rest=>
  rename fq=>P;have⟨c,u,aa,ab,v,bb,bc,ac⟩:=hcut.o;have bQ:fe (c.q=R.q):=aa;have bR:fe (nv (λk=>u k=(0,5)) P rest<|c.bs (fv ds)):=by rw[D.o,ab];exact bc
  have bS:fe _:=ac;clear ac;have⟨f0,f1,cn,_,ak⟩:=v.c01;have⟨bJ,bK,bL,bM,bN,bd⟩:=v.block;have ap:fe (P.ownsRow 0 115 1 (fy c.ta k c.tc) k (ds.map λx=>ptr x.1)):=by rw[T.o,<-D.o];exact v.jq.1
  rw[D.o,<-T.o]at ak;have bT:fe _:=v;have bU:fe _:=bb;have ad:fe _:=bd;clear hcut v bb bc aa ab bd V aW aX O U aT bH bI;go_wp2_with(at_builtin;refine yn fX (.tmp 307) (.tmp 309) 63 fX 0 115 bu _ 1 8 underlying63 bv bw bx bz fX (by decide) (fy c.ta k c.tc) k (ds.map λx=>ptr x.1) fX (rE ap.o _) (ii P.heap.size 0) 1 1 [ptr C] fX fX (one_cell P _ _ _ fX) VS (by unfold maxLen;omega) (by omega) (zt _) ?_);intro cp aq ar au be;obtain⟨cq,cr,rfl⟩:=hZ ar (by omega);have ae:=mW ad.o (PH _ _) (by simp) au<|io ap.o ad.o (by decide);have ct:aq.c W 6=fh (fy c.ta (fv ds) c.tc):=by simp[World.cell?,ae]
  have f66:aq.frozen? (ii W 6)=fo:=by simp[World.frozen?,ae]
  have cu:W<aq.heap.size:=(lW.1 ae).1;have j:=jk (i:=6) ad.o ap.o (by decide) (PH P _) (by simp) ⟨fX,fX,fX⟩ ar au be (by simp);have ao:fe _:=j;clear j ar au be ae;go_wp2;go_ret;have j:=ao.o;rw[show k=fv ds by rw[D.o];exact T.o]at j |-;have⟨bV,bW,bX,bY,bZ⟩:=bT.o.acO bU.o bR.o ad.o j;exact⟨fX,bV,bW,g,C,rest,bE,bX.trans bQ.o,bY,bS.o.trans bZ⟩
