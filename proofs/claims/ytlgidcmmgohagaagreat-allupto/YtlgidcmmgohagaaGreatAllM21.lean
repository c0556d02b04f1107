/- A part of the proof. -/
import Derived.Test.YtlgidcmmgohagaaGreatAllM20
set_option linter.all false
namespace Go.Proofs.YtlgidcmmgohagaaGreat
open Go.RowKit Go.Sort Go.Shelf Go.Proofs.Tryz
open Go.Value renaming slice->fy,string->fA,pointer->fB,tuple->fC,agg->fD,bool->fE
open Go.Ending renaming returned->fF
open Option renaming some->fh,none->fj
open Bool renaming true->fm,false->fo
open Go renaming World->fq,Value->fu
open List renaming length->fv,reverse->fx
open Go.RowKit renaming Hid->fe
set_option maxRecDepth 100000
set_option maxHeartbeats 0
variable {b f:Bool}{R:vo}{T:gC}{w:fq}{B0 W s r p I i:Nat}{A O:List Ob}{got:List Int}{ws:List Slot}{ds:List Doc}{B:WB}
def IJ(W)(c d f:Int)(g h)(i)(j k)(R:fq->Prop)(w)
  (a:∀b,ju w b->ik 46 #[ii W] b λe J=>e=fF (fE fm)/\R J):
  ik 20 #[ii W,fD<|pO 6 c d f g h i j k] w λe J=>e=fF (fE fm)/\R J:=by
 unfold pO;have l:fe _:=a;clear a;go_enter func20,ntmps20;go_wp2_with fail;refine Hk (l.o _<|(mi _ _).alloc (lw _) _) λn m=>?_
 go_wp2;go_ret;exact⟨fX,m⟩
theorem TY(W s:Nat)(j b k e d:Int)(l m)(n)(o p)(w:fq)(y:W<w.heap.size)(c0:w.c W 0=fh (ii s))(f:d≠2)
  (hid:∀a,ju w a->ik 39 #[ii W,fY b] a (UV (fY b) a))
  (g:∀a,ju w a->ik 41 #[ii W,fY b] a (UV (fY e) a))
  (h:∀a,ju w a->ik 42 #[ii W,fY e] a (UV (fY d) a))
  (i:∀a,ju w a->ik 27 #[ii s,fY b] a (vd (fC #[fB fj,fY 13]) a)):
  ik 20 #[ii W,fD<|pO 7 j b k l m n o p] w (vd (fE fm) w):=by
 unfold pO;have c:∀B,ju w (w.alloc B):=λB=>(mi _ _).alloc (lw _) _
 have q:=λ(J:fq)=>mj 13 J;have z:(d==2)=fo:=by simpa using f
 have A:(d != 2)=fm:=by simpa using f
 have r:fe _:=hid;have t:fe _:=g;have u:fe _:=h;have v:fe _:=i;clear hid g h i;go_enter func20,ntmps20;go_wp2_with(first
  |(go_at_call 39;refine tB (r.o _<|c _) ?_)
  |(go_at_call 41;refine tB (t.o _<|c _) ?_)
  |(go_at_call 42;refine tB (u.o _<|c _) ?_)
  |(go_at_call 27;refine Hk (v.o _<|c _) λC x=>?_)
  |(go_at_call 22;refine tB (q _) ?_))
 go_ret;exact⟨fX,(c _).trans<|x.mono (by simp)⟩
theorem TZ(W b n i e:Nat)(j c k f:Int)(l m)(o)(p q)(w:fq)(u:W<w.heap.size)(c4:w.c W 4=fh (my e 0 n i))(v:b<n)(x:n<=1000000000)(y:e<w.heap.size)(z:w.c e b=fh (fY f))(A:300<f)
  (hid:∀a,ju w a->ik 39 #[ii W,fY c] a (UV (fY c) a))
  (g:∀a,ju w a->ik 41 #[ii W,fY c] a (UV (fY (b:Int)) a))
  (h:∀a,ju w a->ik 42 #[ii W,fY (b:Int)] a (UV (fY 2) a)):
  ik 20 #[ii W,fD<|pO 7 j c k l m o p q] w (vd (fE fm) w):=by
 unfold pO;have d:∀B,ju w (w.alloc B):=λB=>(mi _ _).alloc (lw _) _
 have C:(b:Int)<(n:Int):=by omega
 have r:fe _:=hid;have s:fe _:=g;have t:fe _:=h;clear hid g h;go_enter func20,ntmps20;go_wp2_with(first
  |(go_at_call 39;refine tB (r.o _<|d _) ?_)
  |(go_at_call 41;refine tB (s.o _<|d _) ?_)
  |(go_at_call 42;refine tB (t.o _<|d _) ?_))
 go_ret;exact⟨fX,d _⟩
def lvl:(prog.info? 32).map (λi=>(i.zero,i.size,i.bytes))=fh (fh<|fB fj,1,8):=by kernel_rfl
def mag:(prog.info? 115).map (λi=>(i.zero,i.size,i.bytes))=fh (fh<|fB fj,1,8):=by kernel_rfl
def VO{b}:∀a∈[ptr b],a.oneCell'=fm:=by intro a c;simp at c;subst c;rfl
theorem gq.c01(a:gq b f R T w B0 W s r p I A O got ws ds):w.c W 0=fh (ii s)/\w.c W 1=fh (ii r)/\W<w.heap.size/\w.c W 5=fh (fy R.wa (fv ws) R.wc)/\w.c W 6=fh (fy R.ta (fv ds) R.tc):=by
 have⟨d,e,g,_⟩:=mG.cells a.w3.law;have⟨h,i,j,k,l,c⟩:=a.block;exact⟨d,e,g,by simp[World.cell?,c],by simp[World.cell?,c]⟩
theorem gl.moved{a:Nat×Nat->Prop}{M}{J}{b c:Nat}{E}{d}{rest}(h:gl (λk=>T k=(0,c)) w b E d rest)(f:lD T w)(m:fI a T M w J)(i:c≠0)(q:¬a (0,c)):gl (λk=>M k=(0,c)) J b E d rest:=by
 have r:((0,c):Nat×Nat)≠(0,0):=λe=>i<|congrArg Prod.snd e;have⟨j,l,n,o,p⟩:=h;exact⟨j,l,n,o,p.keep (λk g=>(m.tags k (f.lt (by grind))).trans g) λk g=>m.block k (f.lt (by grind)) (by grind)⟩
def gq.co{g d}{e}(a:gq b f R T w B0 W s r p I A O got ws ds)(j:ju w g)(h:fI (λ_=>False) T e g d)(k:jq e d s p A got b I):∃i,i.q=R.q/\gq b f i e d B0 W s r p I A O got ws ds:=by
 have c:=a.below j;have⟨_,pt,l,m,n,_,o⟩:=k;exact⟨{ R with pt:=pt },fX,c.after h (λ_ a=>a) l m n o fX (c.wsT h λ_ _ _ a=>a) c.slot c.cnt⟩
theorem hlz(j:gq b f R T w B0 W s r p I A O got ws ds)(bf:fv ws<=100000000)(av:fv ds=fv ws)(v n bg af:Nat)(bh y bi ag:Int)(bj bk)(bl)(bm bn)(c4:w.c W 4=fh (my af 0 n bg))(ca:v<n)(cb:n<=1000000000)(cc:af<w.heap.size)(cd:w.c af v=fh (fY ag))(bo:¬300<ag)
  (N:WG)(t0:LT)(aw:∀x,N.fs.kn x=0)(E:List fV)(l:fQ)(ax:uj A N.base (E,l)){PR:gX->Prop}
  (hid:∀a,ju w a->ik 39 #[ii W,fY y] a (UV (fY y) a))
  (ay:∀a,ju w a->ik 41 #[ii W,fY y] a (UV (fY (v:Int)) a))
  (az:∀a,ju w a->ik 42 #[ii W,fY (v:Int)] a (UV (fY 2) a))
  (aA:∀a,ju w a->ik 27 #[ii s,fY y] a λe J=>∃B P,e=qr #[ii B.wb,fY 0]/\fI (λ_=>False) T P a J/\jq P J s p A got b I/\En P J p A I (fv ws+2,B,N,t0))
  (aB:∀(aC:Nat->Prop)(d:fq),gi aC d r O->(∀k,aC k->k<d.heap.size)->ik 47 #[ii r,fY (v:Int)] d λe J=>∃F rest,PR rest/\e=fF (ii d.heap.size)/\(∀k,F k->d.heap.size<=k/\k<J.heap.size)/\gl F J d.heap.size E l rest/\nv (λk=>d.heap.size<=k/\¬F k) J rest (E,l)/\ju d J):
  ik 20 #[ii W,fD<|pO 7 bh y bi bj bk bl bm bn] w λe J=>e=fF (fE fm)/\∃aD M B z rest,PR rest/\aD.q=R.q/\gq b f aD M J B0 W s r p I A O got (ws++[(fv ws+2,B,N,t0)]) (ds++[(z,E,l,rest)])/\Below B0 w J:=by
 unfold pO;have⟨bp,bq,br,bs,bt⟩:=kM lvl;have⟨bu,bv,bw,bx,bz⟩:=kM mag;have m:∀B,ju w (w.alloc B):=λB=>(mi _ _).alloc (lw _) _
 have ce:(v:Int)<(n:Int):=by omega
 have cf:decide (300<ag)=fo:=yv bo;have⟨c0,c1,cg,_,_⟩:=j.c01;have Q:fe _:=j;have aE:fe _:=hid;have aF:fe _:=ay;have aG:fe _:=az;have aH:fe _:=aA;have aI:fe _:=aB;have C:fe (fv ds=fv ws):=av;have bA:fe _:=aw;have bB:fe _:=ax;clear hid ay az aA aB j av aw ax;go_enter func20,ntmps20;go_wp2_with(first
  |(go_at_call 39;refine tB (aE.o _<|m _) ?_)
  |(go_at_call 41;refine tB (aF.o _<|m _) ?_)
  |(go_at_call 42;refine tB (aG.o _<|m _) ?_))
 apply Ps<|aH.o _ (m _);rintro _ d ⟨B,P,rfl,o,aJ,aK⟩;have aL:Below B0 w d:=(Q.o.low (J:=d) (X:=λ_=>False) ⟨o.os,o.tape,o.output,ww (m _).size o.size,λk g _=>(o.block k (nz g (m _).size) λj=>j).trans<|(m _).block k g⟩ λk j=>j.elim);have bC:fe _:=aL;have ch:=Q.o.size;have⟨q,aM,ah⟩:=Q.o.co (m _) o aJ;have bD:fe (q.q=R.q):=aM;have⟨d0,d1,ci,_,_⟩:=ah.c01;have D:fe _:=ah;have aN:fe _:=aK;clear o aJ aK ah Q aH aE aF aG aL aM;go_wp2_with fail;apply Ps (aI.o _ d D.o.w3.ref λk g=>(D.o.w3.sep.rl k g).1);rintro _ G ⟨F,rest,bE,rfl,hF,aO,aP,ai⟩;have bF:fe (Below B0 w G):=bC.o.trans<|ai.mono D.o.size;have⟨bG,aQ,H,aj,aR⟩:=D.o.tagged ai hF aO aP (0,8+fv ds);have aS:=aN.o.moves aQ λ_ j=>j;have⟨bH,bI,cj,aT,ak⟩:=H.c01;have⟨bJ,bK,bL,bM,bN,aU⟩:=H.block;obtain⟨z,aV⟩:=oX d.heap.size;rw[<-aV]at aj |-;obtain⟨k,g⟩:=oX<|fv ws;have S:fe (k=fv ws):=g;have U:fe (G.ownsRow 0 32 1 (fy q.wa k q.wc) k (ws.map λx=>ptr x.2.1.wb)):=by rw[g];exact H.yV.1
 rw[<-g]at aT bf;have V:fe _:=H;have aW:fe _:=aS;have aX:fe _:=aj;have bO:fe _:=aR;have K:fe _:=aU;clear aI D aN aO aP hF ai aQ H aS aj aR aU aV g d0 d1 ak;go_upto_region 46 with fail
 go_cut []from 28 to 318 λY=>fe (∃c t,c.q=R.q/\c.bs (fv ws)=(E,l)/\gq b f c t Y B0 W s r p I A O got (ws++[(fv ws+2,B,N,t0)]) ds/\gl (λk=>t k=(0,8+fv ds)) Y z E l rest/\nv (λk=>t k=(0,5)) Y rest (E,l)/\Below B0 w Y)
 case first=>
  go_wp2_with(at_builtin;refine yi fX (.tmp 297) (.tmp 299) 62 fX 0 32 bp _ 1 8 underlying62 bq br bs bt fX (by decide) (fy q.wa k q.wc) k (ws.map λx=>ptr x.2.1.wb) fX (rJ U.o _) (ie G.heap.size 0) 1 1 [ptr B.wb] fX fX (one_cell G _ _ _ fX) VO (by unfold maxLen;omega) (by omega) (Fr _) ?_);intro v4 al am an aY;obtain⟨ck,c4,rfl⟩:=hh am (by omega);have Z:=mX K.o (Sx _ _) (by simp) an<|il U.o K.o (by decide);have cl:al.c W 5=fh (fy q.wa (fv ws) q.wc):=by simp[World.cell?,Z]
  have f54:al.frozen? (ie W 5)=fo:=by simp[World.frozen?,Z]
  have cm:W<al.heap.size:=(lH.1 Z).1;have h:=jh (i:=5) K.o U.o (by decide) (Sx G _) (by simp) ⟨fX,fX,fX⟩ am an aY (by simp);have ao:fe _:=h;clear h am an aY Z;go_wp2_with fail;go_meet;have h:=ao.o;rw[S.o]at h |-;have⟨c,t,aa,ab,aZ,u,ac⟩:=V.o.acV C.o aW.o (show uj A N.base (E,l)from bB.o) bA.o K.o h;exact⟨c,t,aa.trans bD.o,ab,u,gl.moved aX.o V.o.fresh aZ (by omega) (by rintro(e|e)<;>(have:=congrArg Prod.snd e;simp only at this;omega)),nv.keep (F:=λk=>bG k=(0,5)) (x:=(E,l)) bO.o fX (λk g=>V.o.tag aZ g (by decide) (by rintro(e|e)<;>cases e)),bF.o.trans ac⟩
 case rest=>
  rename fq=>L;have⟨c,t,aa,ab,u,bb,bc,ac⟩:=hcut.o;have bQ:fe (c.q=R.q):=aa;have bR:fe (nv (λk=>t k=(0,5)) L rest<|c.bs (fv ds)):=by rw[C.o,ab];exact bc
  have bS:fe _:=ac;clear ac;have⟨f0,f1,cn,_,ak⟩:=u.c01;have⟨bJ,bK,bL,bM,bN,bd⟩:=u.block;have ap:fe (L.ownsRow 0 115 1 (fy c.ta k c.tc) k (ds.map λx=>ptr x.1)):=by rw[S.o,<-C.o];exact u.jm.1
  rw[C.o,<-S.o]at ak;have bT:fe _:=u;have bU:fe _:=bb;have ad:fe _:=bd;clear hcut u bb bc aa ab bd V aW aX K U aT bH bI;go_wp2_with(at_builtin;refine yi fX (.tmp 307) (.tmp 309) 63 fX 0 115 bu _ 1 8 underlying63 bv bw bx bz fX (by decide) (fy c.ta k c.tc) k (ds.map λx=>ptr x.1) fX (rJ ap.o _) (ie L.heap.size 0) 1 1 [ptr z] fX fX (one_cell L _ _ _ fX) VO (by unfold maxLen;omega) (by omega) (Fr _) ?_);intro cp aq ar au be;obtain⟨cq,cr,rfl⟩:=hh ar (by omega);have ae:=mX ad.o (Sx _ _) (by simp) au<|il ap.o ad.o (by decide);have ct:aq.c W 6=fh (fy c.ta (fv ds) c.tc):=by simp[World.cell?,ae]
  have f66:aq.frozen? (ie W 6)=fo:=by simp[World.frozen?,ae]
  have cu:W<aq.heap.size:=(lH.1 ae).1;have h:=jh (i:=6) ad.o ap.o (by decide) (Sx L _) (by simp) ⟨fX,fX,fX⟩ ar au be (by simp);have ao:fe _:=h;clear h ar au be ae;go_wp2;go_ret;have h:=ao.o;rw[show k=fv ds by rw[C.o];exact S.o]at h |-;have⟨bV,bW,bX,bY,bZ⟩:=bT.o.acW bU.o bR.o ad.o h;exact⟨fX,bV,bW,B,z,rest,bE,bX.trans bQ.o,bY,bS.o.trans bZ⟩
def hl1(s:fO)(k:Nat)(w:fq)(a:Lib.indexByte s.data.toList 47=(k:Int))(c:k<s.size)(b:s.size<=maxLen):ik 184 #[hZ s,fA ⟨#[47]⟩] w (vd (fC #[hZ<|s.extract 0 k,hZ<|s.extract (k+1) s.size,fE fm]) w):=by
 have U:=xy s w;rw[a]at U;unfold maxLen at b;have d:IntKind.i64.wrap ((k:Int)+1)=(k:Int)+1:=by rw[zv]<;>omega
 go_enter func184,ntmps184;go_wp2_with(go_at_call 215;apply U.still)
 go_region
 all_goals
  go_wp2;exact oa (v:=fC #[hZ<|s.extract 0 k,hZ<|s.extract (k+1) s.size,fE fm]) (by simp[results,results184,go_sem]) fX ⟨fX,io<|mi _ _⟩
theorem mix(x)(r:fQ)(d:∀c∈iT x,c≠47)(g:(lA (x::r)).size<=maxLen)(w:fq):
  ik 128 #[hZ<|lA (x::r),fA ⟨#[47]⟩] w (vd (fC #[hZ x,hZ<|lA r,fE<|!r.isEmpty]) w):=by
 rcases r with _|⟨y,t⟩
 rw[uM,yq];exact Bn _ _ _ _ w ((JJ x w<|vQ _ d).mono λe J⟨a,b⟩=>⟨a,by rw[b];exact mi _ _⟩);have a:=pQ x (r:=y::t) (by simp);have b:Lib.indexByte (iT<|lA (x::y::t)) 47=(fv (iT x):Int):=by rw[a];exact index_first _ _ d
 have j:(lA (x::y::t)).size=fv (iT x)+1+fv (iT<|lA (y::t)):=by rw[<-PP,a,lI,lg];omega
 have f:=hl1 (lA (x::y::t)) (fv<|iT x) w b (by omega) g;have h:(lA (x::y::t)).extract 0 (fv<|iT x)=x:=iF (by rw[tu,a,List.take_left,Eb]);have i:(lA (x::y::t)).extract (fv (iT x)+1) (lA (x::y::t)).size=lA (y::t):=iF (by
  rw[tu,oM (by grind),a,show iT x++47::iT (lA (y::t))=(iT x++[47])++iT (lA (y::t)) by simp];exact cse<|by simp)
 rw[h,i]at f;exact Bn _ _ _ _ w f
theorem GH:∀(s:List UInt8),∀x∈sf s,∀c∈x,c≠47
 |[]=>by intro x a c b;simp[sf]at a;subst a;cases b
 |d::r=>by
  intro x a c b
  have f:=GH r
  rw[sf]at a
  split at a
  ·all_goals grind
  rename_i e
  rcases oc.1 a with rfl|a
  ·rcases oc.1 b with rfl|b
   exact e
   rcases g:sf r with _|⟨y,h⟩
   all_goals grind
  all_goals grind [List.mem_of_mem_tail]
def Zq (s:fO):fQ:=(sf<|iT s).map λx=>⟨x.toArray⟩
def hma(s):lA (Zq s)=s:=by
 apply iF;show iY ((Zq s).map iT)=iT s;unfold Zq;rw[Ed]
 have:(sf<|iT s).map (iT∘λx=>(⟨x.toArray⟩:fO))=sf (iT s):=by
  conv=>rhs;rw[<-List.map_id<|sf (iT s)]
  apply KW;intro x _;rfl
 rw[this,wZ]
theorem hmb(s):∀x∈Zq s,∀c∈iT x,c≠47:=by
 intro x a;obtain⟨y,b,rfl⟩:=jC.1 a;exact GH _ y b
def wid(s:fO):Zq s≠[]:=by
 intro a;exact rj _<|List.map_eq_nil_iff.1 a
theorem mlt{L}(d:¬Good L):∃k,k<fv L/\k<=5/\(∀a(b:a<fv L),a<k->fN L[a]=fm)/\(k=5\/∃c:k<fv L,fN L[k]=fo):=by
 by_cases e:∀a(b:a<fv L),a<5->fN L[a]=fm;by_cases f:fv L<=5;refine absurd ⟨λx j=>?_,f⟩ d
 grind [rI]
 exact⟨5,by omega,by omega,e,.inl fX⟩;have g:∀n,(∃a,∃b:a<fv L,a<n/\fN L[a]=fo)->∃k,∃c:k<fv L,k<n/\fN L[k]=fo/\∀a(b:a<fv L),a<k->fN L[a]=fm:=by
  grind
 have:∃a,∃b:a<fv L,a<5/\fN L[a]=fo:=by
  grind
 have⟨k,c,l,h,i⟩:=g 5 this;exact⟨k,c,by omega,i,.inr ⟨c,h⟩⟩
theorem Kt{L:fQ}(a):(lA<|L.drop a).size<=(lA L).size:=by
 induction a generalizing L with
 |zero=>exact lw _
 |succ a b=>
  cases L with
  |nil=>exact lw _
  |cons x r=>
   rw[MW];apply ww b;rcases r with _|⟨y,t⟩
   exact Fr _
   grind [List.length,pQ,lI,lg,PP]
theorem Zr(s:fO)(az:s.size<=maxLen)(H:∀l,Good l->s≠lA l)(w:fq):ik 69 #[hZ s] w (vd (fC #[ln [],fY 1]) w):=by
 have⟨L,N⟩:=oX<|Zq s;have b:=hma s;have I:=hmb s;have O:=wid s;rw[<-N]at b I O;have P:¬Good L:=λh=>H L h b.symm;have aA:(!(s).toList.isEmpty)=fm:=by
  have X:s≠kq:=λe=>H [] Good.nil (by rw[e,yq]);rw[mE];rcases D:iT s with _|⟨c,r⟩
  exact absurd (iF (show iT s=iT kq by rw[D];rfl)) X;rfl
 have⟨k,aB,aC,Q,R⟩:=mlt P;have hcut:∀a(b:a<fv L)W,ik 128 #[hZ<|lA (L.drop a),fA ⟨#[47]⟩] W (vd (fC #[hZ<|L.getD a kq,hZ<|lA (L.drop<|a+1),fE<|decide (a+1<fv L)]) W):=by
  intro a g W;have S:L.drop a=L[a]::L.drop (a+1):=KR g;have T:(lA<|L.drop a).size<=maxLen:=by
   have:=Kt (L:=L) a
   rw[b]at this;omega
  rw[S]at T
  have:=mix L[a] (L.drop<|a+1) (I _<|kK g) T W
  rw[<-S]at this;have Y:(!(L.drop<|a+1).isEmpty)=decide (a+1<fv L):=by
   by_cases h:a+1<fv L;rw[iE h,KR h];rfl;rw[yv h,Wm<|by omega];rfl
  rw[Y]at this;rwa [yN,jG g,jI]
 have J:∀a(b:a<fv L)W,ik 129 #[hZ<|L.getD a kq] W (UV (fE<|fN (L.getD a kq)) W):=by
  intro a g W;rw[yN,jG g,jI];apply Ch L[a] W;have Z:=Kt (L:=L) a;rw[b,KR g]at Z;have aD:L[a].size<=(lA (L[a]::L.drop (a+1))).size:=by
   rcases aE:L.drop (a+1)with _|⟨y,t⟩
   rw[uM];exact lw _
   have:=congrArg List.length<|pQ L[a] (r:=y::t) (by simp)
   rw[lI,lg,PP,PP,PP]at this;omega
  omega
 have kO:∀a(b:a<fv L),a<k->fN (L.getD a kq)=fm:=λa b h=>by
  rw[yN,jG b,jI];exact Q a b h
 have U:k<5->fN (L.getD k kq)=fo:=λh=>by
  rcases R with rfl|⟨aa,p⟩
  omega;rw[yN,jG aa,jI];exact p
 have E:=λW=>gW W;unfold ln jn at E;simp only[tW]at E;have ab:ln []=fD (ml kq kq kq kq kq):=fX;rw[ab];have ac:fe _:=b
 change fe _ at hcut J kO U
 clear Q R I O P H N b;go_enter func69,ntmps69;go_wp2;have ad:fe (gM ((w.k (ml kq kq kq kq kq) 147).k (ml kq kq kq kq kq) 147) w.heap.size []):=JL w;have ae:fe (gM ((w.k (ml kq kq kq kq kq) 147).k (ml kq kq kq kq kq) 147) (w.heap.size+1) []):=JM w
 go_loopw [5,6,7] (λr m i wr=>∃a:Nat,a<=k/\i=.int .i64 (a:Int)/\m=fE fm/\r=fA (lA<|L.drop a)/\ju w wr/\fe (gM wr w.heap.size [])/\fe (gM wr (w.heap.size+1)<|L.take a)) (λ_ _ i _=>k-(intOf i).toNat)
 case atStart=>exact⟨0,Fr _,rfl,rfl,by rw[Eb,ac.o],((mi _ _).alloc (lw _) _).alloc (by simp) _,ad,ae⟩
 case round=>
  obtain⟨a,b,rfl,rfl,rfl,p,F,G⟩:=hrel;have g:a<fv L:=by omega
  have af:w.heap.size+1<wr.heap.size:=G.1;have ag:w.heap.size<wr.heap.size:=F.1;by_cases ah:a<k
  ·have q:a<5:=by omega
   have ai:((a:Int)==5)=fo:=by simp;omega
   have aF:(a:Int)<5:=by omega
   have j:=hcut a g;have n:=J a g;rw[kO.o a g ah]at n;rw[iE (show a+1<fv L by omega)]at j;generalize D:L.getD a kq=x at j n;have aj:fe _:=D;clear D;go_wp2_with fail;refine Hk (j wr) λo d=>?_;have ak:w.heap.size+1<o.heap.size:=nz af d.size;have al:=((G.keep d).2 a q);have⟨K,am⟩:=al;generalize (L.take a).getD a kq=an at K;go_wp2_with(go_at_call 129;apply tB<|n _);go_roundw
   case rel=>
    refine⟨a+1,by omega,by go_num,fX,fX,?_,(F.o.keep d).other<|by omega,?_⟩;refine wD ?_ (by simp) _;exact gS p d;rw[<-aj.o];exact(G.o.keep d).set q
   case measure=>simp[intOf];omega
  have ao:a=k:=by omega
  subst ao;by_cases ap:a=5
  ·subst ap
   go_wp2_with(go_at_call 75;refine(E _).via λo d=>?_;have⟨⟨u,z,A,B,C⟩,f⟩:=(F.keep d).five;have aq:=f 0 (by omega);have ar:=f 1 (by omega);have au:=f 2 (by omega);have av:=f 3 (by omega);have aw:=f 4 (by omega);have ak:w.heap.size<o.heap.size:=nz ag d.size;clear f;simp only[tW]at u z A B C);exact oa (v:=fC #[fD<|ml kq kq kq kq kq,fY 1]) (by simp[results,results69,go_sem,u,z,A,B,C]) fX ⟨fX,by
    repeat(refine wD ?_ (by simp) _)
    exact gS p d⟩
  have q:a<5:=by omega
  have ai:((a:Int)==5)=fo:=by simp;omega
  have j:=hcut a g;have n:=J a g;rw[U.o q]at n;generalize L.getD a kq=x at j n;generalize decide (a+1<fv L)=aG at j;go_wp2_with fail;refine Hk (j wr) λo d=>?_;have⟨K,am⟩:=((G.o.keep d).2 a q);generalize (L.take a).getD a kq=an at K;have V:fe (gM (o.setCell (ie (w.heap.size+1) a)<|hZ x) w.heap.size []):=(F.keep d).other (by omega);have ax:ju w (o.setCell (ie (w.heap.size+1) a)<|hZ x):=wD (gS p d) (by simp) _;go_wp2_with(first
   |(go_at_call 129;apply tB<|n _)
   |(go_at_call 75;refine(E _).via λay M=>?_;have⟨⟨u,z,A,B,C⟩,f⟩:=(V.keep M).five;have aq:=f 0 (by omega);have ar:=f 1 (by omega);have au:=f 2 (by omega);have av:=f 3 (by omega);have aw:=f 4 (by omega);have aH:w.heap.size<ay.heap.size:=(V.keep M).1;clear f;simp only[tW]at u z A B C))
  exact oa (v:=fC #[fD<|ml kq kq kq kq kq,fY 1]) (by simp[results,results69,go_sem,u,z,A,B,C]) fX ⟨fX,by
   repeat(refine wD ?_ (by simp) _)
   exact gS ax M⟩
def VP (d:Nat)(T:gC)(w:fq)(a:Int)(Y:Kids)(c:fu):Prop:=(a≠0/\c=fy fj 0 0)\/(a=0/\∃b,c=fy (fh ⟨b,0,fj⟩) (fv Y) (fv Y)/\xN w b (Y.map lL) (fv Y)/\T b=(0,0)/\d<=b)
theorem win{T}{w}{a}{I}{t}(d:mQ T w s i p B A a I t)(U:I+1000<1099511627776){r:fQ}(D:Good (fx r)):
  ik 68 #[ii B.wb,hZ<|lA (fx r)] w λe J=>∃h,e=qr #[h,fY (pA A t a.fs r).2.1]/\∃M,fI (Mine i) T M w J/\mQ M J s i p B A { a with fs:=(pA A t a.fs r).1 } (I+400) t/\VP w.heap.size M J (pA A t a.fs r).2.1 (pA A t a.fs r).2.2 h:=by
 have⟨H,c0,_⟩:=d.ws;have V:fv r<=5:=by have:=D.len;simpa using this
 have j:=λW(l:ju w W)=>uO (s:=s) (i:=i) (p:=p) (B:=B) (A:=A) r T W a I (d.inv.below l) (by omega) D;have E:fv ((pA A t a.fs r).2.2.map lL)<=16:=by
  have:=(d.inv.gh a.fs r).len
  rwa [nI d.inv.st.sound d.flat d.ok a.fs r]at this
 simp only[nI d.inv.st.sound d.flat d.ok a.fs r]at j;obtain⟨g,n,Y,K⟩:∃g n Y,pA A t a.fs r=(g,n,Y):=⟨_,_,_,fX⟩;rw[K]at E j |-;simp only at E j |-;refine(hkv B.wb B.bt (fx r) D (λh e J=>e=n/\∃M,fI (Mine i) T M w J/\mQ M J s i p B A { a with fs:=g } (I+400) t/\VP w.heap.size M J n Y h) w H c0 λW l=>?_).mono ?_;have F:∀{b J:fq}{M:gC},fI (gA i) T M w b->fZ M b s i p B A { a with fs:=g } (I+fv r+1)->ju b J->fI (Mine i) T M w J/\mQ M J s i p B A { a with fs:=g } (I+400) t:=by
  intro b J M m f o;exact⟨(m.mono λt L=>gA.mine L).trans<|fI.fK o,(f.below o).mono<|by omega,d.flat,d.ok,d.fl⟩
 by_cases G:n=0;subst G;by_cases X:0<fv Y;have u:=TM B.bt _ _ _ _ _ (Y.map lL) (λb=>∃M,fI (gA i) T M w b/\fZ M b s i p B A { a with fs:=g } (I+fv r+1)) W E λv q=>(j v (gS l q)).mono ?_;apply u.mono;rintro e J ⟨b,⟨M,m,f⟩,rfl,o,z⟩;rw[oL]at z |-;have⟨x,y⟩:=F m f o;exact⟨_,_,fX,fX,M,x,y,.inr ⟨fX,_,fX,z,f.st.fresh _<|lw _,m.size⟩⟩;rintro e J ⟨h,rfl,M,m,f,C⟩;obtain⟨N,O,rfl,P,_⟩:=C.at_ (k:=0) (by grind);refine⟨N,O,fX,⟨M,(mr (gS l q) m),f⟩,P,λQ R S=>?_⟩
 have:=ks C.1 Q R S
 grind
 obtain rfl:Y=[]:=DX.1 (by omega);have u:=Zd B.bt _ _ _ _ _ (λb=>∃M,fI (gA i) T M w b/\fZ M b s i p B A { a with fs:=g } (I+fv r+1)) W λv q=>(j v (gS l q)).mono ?_;apply u.mono;rintro e J ⟨b,⟨M,m,f⟩,rfl,o,z⟩;have⟨x,y⟩:=F m f o;exact⟨_,_,fX,fX,M,x,y,.inr ⟨fX,_,fX,z,f.st.fresh _<|lw _,m.size⟩⟩;rintro e J ⟨h,rfl,M,m,f,C⟩;obtain⟨Z,c,rfl⟩:=C.len
 grind [mr,gS]
 have u:=Zc B.bt _ _ _ _ _ n G (λb=>∃M,fI (gA i) T M w b/\fZ M b s i p B A { a with fs:=g } (I+fv r+1)) W λv q=>(j v (gS l q)).mono ?_;apply u.mono;rintro e J ⟨⟨M,m,f⟩,rfl⟩;have⟨x,y⟩:=F m f<|mi _ _;exact⟨_,_,fX,fX,M,x,y,.inl ⟨G,fX⟩⟩
 grind [mr,gS]
 grind
