/- A part of the proof. -/
import Derived.Test.YtlgidcmmgohagaaGreatComM28
set_option linter.all false
namespace Go.Proofs.YtlgidcmmgohagaaGreat
open Go.RowKit Go.Sort Go.Shelf Go.Proofs.Tryz
open Go.Value renaming slice->fy,string->fA,pointer->fB,tuple->fC,agg->fD,bool->fE
open Go.Ending renaming returned->fF
open Option renaming some->fh,none->fj
open Bool renaming true->fm,false->fo
open Go renaming World->fq,Value->fu
open List renaming length->fv,reverse->fx
open Go.RowKit renaming Hid->fe
set_option maxRecDepth 100000
set_option maxHeartbeats 0
variable {d:fP}{da na:ig}{Sb a b dc f k m nc:Nat}{w H O w2:fq}{hs:List BN}{fl:Fls}{F:Nat->Prop}
variable {F:Nat->Prop}{w:fq}{S nc dc s i p I:Nat}{na da:ig}{E:List fV}{data:fT}{hs:List BN}{more rest:iN}{B:WB}{A:List Ob}{N:gF}{g:WG}{t:LT}
def jD (hs:List BN):Nat:=hs.findIdx λa=>!a.1
abbrev Opd:=(Int×Int)×List fV×fT×List BN
def xV (E:List fV)(data:fT)(hs:List BN)(p:fP)(fl:Int)(k:Nat)(a:fP):Opd:=
 match Pl E p with
 |some i=>(match E[i]? with
  |none=>((0,0),E,data,hs)
  |some x=>if x.2.1=2 then((0,7),E,data,hs)else if ma fl 8=fm then((0,6),E,data,hs) else(((k:Int),0),E,if ma fl 16=fm then data.set x.2.2.toNat ⟨#[]⟩else data,hs.set k (fm,x.2.2,fl,0)))
 |none=>if ma fl 4=fo then((0,4),E,data,hs)else if 16<=fv (fU E a) then((0,11),E,data,hs)
  else(((k:Int),0),E++[(p,1,(fv data:Int))],data++[⟨#[]⟩],hs.set k (fm,(fv data:Int),fl,0))
def iJ (E:List fV)(data:fT)(hs:List BN)(p:fP)(fl:Int):Opd:=
 if(jz p).2=fo then((0,1),E,data,hs)
 else if Do fl=fo then((0,2),E,data,hs)
 else if jD hs=8 then((0,10),E,data,hs)
 else if(jz p).1.length=0 then((0,7),E,data,hs)
 else if xq E (jz p).1≠0 then((0,xq E (jz p).1),E,data,hs)
 else xV E data hs p fl (jD hs) (fG<|(jz p).1.take ((jz p).1.length-1))
theorem UR{O wr c:fq}{S}{nc dc nd a c4 b:Nat}{f}{d}{rest}{x}{g}(e:gp (kA F O wr) wr S na da nc dc f d rest)(h:fH F O wr)(l:nd=fv d)
  (m:c.ownsRow 0 9 1 (my a 0 (nd+1) c4) (nd+1) (gO d++[hh x]))(n:(wr.alloc g).grownBy c (Value.slice da nd dc).ownBlock)(o:(Value.slice (fh<|ii a 0) (nd+1) c4).ownBlock=(Value.slice da nd dc).ownBlock\/(Value.slice (fh<|ii a 0) (nd+1) c4).ownBlock=fh b)(p:wr.heap.size<=b:=by simp):
  gi (kA F O<|c.setCell (ii S 1) (my a 0 (nd+1) c4)) (c.setCell (ii S 1)<|my a 0 (nd+1) c4) S f (d++[x]) rest/\fH F O (c.setCell (ii S 1)<|my a 0 (nd+1) c4):=by
 subst l;have q:=jk (i:=1) e.hS e.jq (by decide) (PH wr g) (by simp) ⟨fX,fX,fX⟩ m n o p;have⟨r,j⟩:=e.aaB q;have s:=iW h j;exact⟨r.DI λk t=>nD h.size j.size t,s⟩
def KG(a:kA F w O k)(hs:O.heap.size<=w2.heap.size):kA F w w2 k:=by
 rcases a with a|a
 exact .inl a;exact .inr ⟨a.1,np a.2 hs⟩
theorem KH(a:fH F w O)(k:fH (kA F w O) O w2):fH F w w2:=by
 refine⟨k.os.trans a.os,k.tape.trans a.tape,k.output.trans a.output,wy a.size k.size,λx c d=>?_⟩;rw[k.block x (np c a.size) λb=>?_,a.block x c d];rcases b with b|⟨b,_⟩
 all_goals grind
theorem ord(a:k<fv hs)(b:hs[k].1=fo)(c:∀i(d:i<fv hs),i<k->hs[i].1=fm):jD hs=k:=by
 unfold jD
 grind
theorem acx(a:fv hs=8)(b:∀i(c:i<fv hs),i<8->hs[i].1=fm):jD hs=8:=by
 unfold jD
 grind
theorem gp.aay(g:gp F w S na da nc dc E data (xf hs++more))(h:k<fv hs)(b:Bool)(j fg a:Int):
  gp F ((((w.setCell (ii S<|2+k*4)<|fE b).setCell (ii S<|2+k*4+1)<|fY j).setCell (ii S<|2+k*4+2)<|fY fg).setCell (ii S<|2+k*4+3)<|fY a) S na da nc dc E data (xf (hs.set k (b,j,fg,a))++more)/\
   fH F w ((((w.setCell (ii S<|2+k*4)<|fE b).setCell (ii S<|2+k*4+1)<|fY j).setCell (ii S<|2+k*4+2)<|fY fg).setCell (ii S<|2+k*4+3)<|fY a):=by
 have⟨i,l⟩:=g.IK (f:=0) (v:=fE b) (x:=(b,hs[k].2.1,hs[k].2.2.1,hs[k].2.2.2)) h (by omega) fX;have⟨c,m⟩:=i.IK (k:=k) (f:=1) (v:=.int .i64 j) (x:=(b,j,hs[k].2.2.1,hs[k].2.2.2)) (by grind) (by omega) (by simp[mQ]);rw[WM]at c;have⟨d,n⟩:=c.IK (k:=k) (f:=2) (v:=.int .i64 fg) (x:=(b,j,fg,hs[k].2.2.2)) (by grind) (by omega) (by simp[mQ]);rw[WM]at d;have⟨e,o⟩:=d.IK (k:=k) (f:=3) (v:=.int .i64 a) (x:=(b,j,fg,a)) (by grind) (by omega) (by simp[mQ]);rw[WM]at e;exact⟨e,((l.two m).two n).two o⟩
theorem UT(b:gp F w S na da nc dc E data (xf hs++more))(bW:fv hs=8)(ac:qA E data)(bu:∀e∈E,e.2.1=1\/e.2.1=2)(bv:fv data<=1000000000)(p:fP)(bX:p.size<=2097152)(fl:Int):
  ik 94 #[ie S,hh p,fY fl] w λe H=>e=pD #[fY (iJ E data hs p fl).1.1,fY (iJ E data hs p fl).1.2]/\
   gi (kA F w H) H S (iJ E data hs p fl).2.1 (iJ E data hs p fl).2.2.1 (xf (iJ E data hs p fl).2.2.2++more)/\fH F w H:=by
 have aw:=lp p w bX;have bY:fe (gp F w S na da nc dc E data<|xf hs++more):=b;have aj:fe (qA E data):=ac;have q:fe (∀H,ju w H->gi (kA F w H) H S E data (xf hs++more)/\fH F w H):=λH T=>⟨gi.below ⟨na,nc,da,dc,b⟩ T,fH.fJ T⟩;have bw:fe (∀x∈(jz p).1,x.size<=12):=jL p;have aK:fe ((jz p).2=fm->(jz p).1.length<=5):=jM;obtain⟨bx,r⟩:=ol<|(jz p).2;obtain⟨z,aL⟩:=ol<|(jz p).1;obtain⟨k,aM⟩:=ol<|jD hs;obtain⟨n,ax⟩:=ol<|fv z;obtain⟨a,I⟩:=ol<|iJ E data hs p fl;rw[<-I];unfold iJ at I;rw[<-r,<-aL]at aw I aK;rw[<-aL]at bw;rw[<-aM]at I;rw[<-ax]at aw I aK;obtain⟨ad,aN⟩:=ol<|fG (z.take<|n-1);rw[<-aN]at I;have bZ:fe (ad=fG (z.take<|fv z-1)):=by rw[aN,ax];rfl
 have dv:fe (n=fv z):=ax;have ca:fe _:=bu;have bz:fe _:=aw;have V:fe _:=I;have aO:fe (k=jD hs):=aM;have h:fe _:=λs=>QT fl s;clear b ac aw r aL I aM ax aN bu;go_enter func94,ntmps94;go_wp2_with fail;apply RK bz.o;rintro _ O ⟨v,rfl,ay,T⟩;obtain⟨cb,cc,rfl⟩:=po ay;have cd:=nM ay;have aP:=bY.o.below T;have ae:=T.size;have dw:=aP.lt;have ce:fe _:=aP;have bA:fe _:=ay;have af:fe _:=T;clear bz ay T aP;go_wp2
 go_loopw [10] (λv wr=>∃i:Nat,i<=8/\v=.int .i64 (i:Int)/\fe (∀j(b:j<fv hs),j<i->hs[j].1=fm)/\fe (ju O wr)) (λv _=>8-(intOf v).toNat)
 case atStart=>exact⟨0,by omega,rfl,λj A bB=>absurd bB<|Rv _,mi _ _⟩
 case round=>
  obtain⟨i,U,rfl,J,B⟩:=hrel;by_cases ag:i<8
  ·have dx:(i:Int)<8:=by omega
   have bC:i<fv hs:=by omega
   have az:=ce.o.below B.o;have c0:wr.c S (2+i*4)=fh (fE hs[i].1):=az.tab (f:=0) bC (by omega);have dy:=az.lt;have ah:fe _:=az;clear az;cases ak:hs[i].1 with
   |true=>
    rw[ak]at c0;go_wp2;exact⟨⟨i+1,by omega,fX,λj A bB=>by
     rcases WN j i with b|b
     exact J.o j A b;rw[<-ak];congr 2;omega,B⟩,by simp[intOf];omega⟩
   |false=>
    rw[ak]at c0;have al:fe (k=i):=aO.o.trans<|ord bC ak J.o;clear ak;cases r:bx with
    |false=>
     have c:fe (a=((0,1),E,data,hs)):=Fr<|by rw[V.o,r];rfl
     subst r;go_wp2_with(go_at_call 157;refine Calls.still (h.o _) ?_);go_ret2;rw[c.o];exact⟨fX,q.o _<|af.o.trans (B.o.mono ae)⟩
    |true=>
     have cf:=r;subst r;cases l:Do fl with
     |false=>
      have c:fe (a=((0,2),E,data,hs)):=Fr<|by rw[V.o,l];rfl
      rw[l]at h;go_wp2_with(go_at_call 157;refine Calls.still (h.o _) ?_);go_ret2;rw[c.o];exact⟨fX,q.o _<|af.o.trans (B.o.mono ae)⟩
     |true=>
      rw[l]at h;have aQ:0<=fl/\fl<=63:=by
       unfold Do at l;split at l;cases l;omega
      have dz:n<=5:=aK.o fX;have c:fe (a=if n=0 then((0,7),E,data,hs)else if xq E z≠0 then((0,xq E z),E,data,hs)else xV E data hs p fl k ad):=by
       show _=_;rw[V.o,km<|by simp,km (by rw[l];simp),km (by rw[al.o];omega)]
      have cg:k=i:=al.o;subst cg;have am:fe (ju w wr):=af.o.trans<|B.o.mono ae;have bD:=am.o.size;clear V l cf al J aO;by_cases W:n=0
      ·have K:fe (a=((0,7),E,data,hs)):=Fr<|by rw[c.o,lv W]
       subst W;go_wp2_with(go_at_call 157;refine Calls.still (h.o _) ?_);go_ret2;rw[K.o];exact⟨fX,q.o _ am.o⟩
      have dA:((n:Int)==0)=fo:=(by simp[W]);have bE:=gg bA.o λg ch=>B.o.block g<|gc bA.o ch;have aA:=Sz ah.o aj.o cb n cc z (PQ bE) bw.o (by omega) (by omega) cd;rw[<-bZ.o]at aA;obtain⟨e,bF⟩:=ol<|xq E z;rw[<-bF]at aA c;have J:fe _:=aA;clear aA bF bE;by_cases A:e=0
      ·have ci:(e != 0)=fo:=by simp[A]
       have K:fe (a=xV E data hs p fl k ad):=Fr<|by rw[c.o,km W,km (by simp[A])]
       clear c A W;have X:=pK na (fv E) nc E p wr (ir ah.o.lT) aj.o.big;have aR:=uB ah.o aj.o ad;obtain⟨ag,aS⟩:=ol<|fv (fU E ad);obtain⟨m,aB⟩:=ol<|fv E;have aT:=ah.o.c0;have dB:m<=1000000000:=by rw[aB];exact aj.o.big
       rw[<-aB]at X aT;rw[<-aS]at aR;have bG:fe _:=aR;have L:fe (m=fv E):=aB;have cj:fe (ag=fv (fU E ad)):=aS;have M:fe (∀f,1<=f/\f<=32->ma fl f=fm->∀s,ik 159 #[fY fl,fY f] s<|PP (fE fm) s):=λf ac e s=>by have:=mo fl f s aQ ac;rwa [e]at this
       have HBN:fe (∀f,1<=f/\f<=32->ma fl f=fo->∀s,ik 159 #[fY fl,fY f] s<|PP (fE fo) s):=λf ac e s=>by have:=mo fl f s aQ ac;rwa [e]at this
       clear aR aB aS aQ;cases Y:Pl E p with
       |none=>
        rw[Y]at X;have aU:fe (ik 106 #[fy na m nc,hh p] wr<|PP (fY<|-1) wr):=X;have N:fe (a=if ma fl 4=fo then((0,4),E,data,hs)else if 16<=ag then((0,11),E,data,hs) else(((k:Int),0),E++[(p,1,(fv data:Int))],data++[kq],hs.set k (fm,(fv data:Int),fl,0))):=by
         show _=_;rw[K.o,cj.o];unfold xV;rw[Y]
        clear X Y K;go_wp2_with fail;refine Calls.still (h.o _) ?_;go_wp2_with fail;refine Calls.still J.o ?_;go_wp2_with fail;refine Calls.still aU.o ?_;go_wp2_with fail;refine Calls.via bG.o λw2 an=>?_
        have C:fe _:=am.o.trans<|an.mono bD;have d:=ah.o.below an;have P:fe _:=d;have aV:=d.lt;have ck:=C.o.size;clear aT c0;cases aW:ma fl 4 with
        |false=>
         have o:fe (a=((0,4),E,data,hs)):=Fr<|by rw[N.o,lv aW]
         go_wp2_with(go_at_call 159;(first|refine RK (M.o _ (by decide) (by assumption) _) ?_|refine RK (HBN.o _ (by decide) (by assumption) _) ?_);rintro _ _ ⟨rfl,rfl⟩);go_ret2;rw[o.o];exact⟨fX,q.o _ C.o⟩
        |true=>
         by_cases aX:16<=ag
         ·have cl:(16:Int)<=(ag:Int):=by omega
          have o:fe (a=((0,11),E,data,hs)):=Fr<|by rw[N.o,km (by rw[aW];simp),lv aX]
          go_wp2_with(go_at_call 159;(first|refine RK (M.o _ (by decide) (by assumption) _) ?_|refine RK (HBN.o _ (by decide) (by assumption) _) ?_);rintro _ _ ⟨rfl,rfl⟩);go_ret2;rw[o.o];exact⟨fX,q.o _ C.o⟩
         have cl:decide ((16:Int)<=(ag:Int))=fo:=yv (by omega);have o:fe (a=(((k:Int),0),E++[(p,1,(fv data:Int))],data++[kq],hs.set k (fm,(fv data:Int),fl,0))):=Fr<|by rw[N.o,km (by rw[aW];simp),km aX]
         clear N;have⟨cm,cn,cp,cq,cr⟩:=kC uD;have⟨ct,cu,cv,cw,cx⟩:=kC uz;obtain⟨nd,nZ⟩:=ol<|fv data;have aC:=d.c0;have aD:=d.c1;rw[<-L.o]at aC;rw[<-nZ]at aD bv;have Q:fe (nd=fv data):=nZ;have bH:fe (w2.ownsRow 0 200 3 (fy na m nc) m<|flat E):=by show World.ownsRow _ _ _ _ _ _ _;rw[L.o];exact d.lT
         have aY:fe (gp (kA F w w2) w2 S na da nc dc E data<|xf hs++more):=d.keep (λ_ b=>.inl b) λ_ _=>rfl;have cy:fe (fH F w w2):=fH.fJ C.o;clear d nZ aX;go_upto_region 29 with(go_at_call 159;(first|refine RK (M.o _ (by decide) (by assumption) _) ?_|refine RK (HBN.o _ (by decide) (by assumption) _) ?_);rintro _ w2 ⟨rfl,rfl⟩)
         go_cut []from 112 to 127 λaZ=>fe<|gi (kA F w aZ) aZ S (E++[(p,1,(nd:Int))]) data (xf hs++more)/\fH F w aZ
         case first=>
          go_region_law(refine pu fX (.tmp 116) (.tmp 124) 174 fX 0 200 cm _ 3 32 underlying174 cn cp cq cr fX (by decide) (fy na m nc) m (flat E) (by simp[Act.eval]) (rE (show(w2.drewN 1).ownsRow _ _ _ _ _ _ from bH.o) _) (ii w2.heap.size 0) 1 1 (pA (p,1,(nd:Int))) (by simp[Act.eval]) fX (tS (w2.drewN 1) (p,1,(nd:Int)) _ _ fX) (rx _) (by unfold maxLen;omega) (by omega) (zt _) ?_;intro v4 bb bI bc cz;obtain⟨dC,c4,rfl⟩:=hZ bI (by omega);have bJ:=mW aY.o.hS (oq w2 1 _) (by simp) bc<|io bH.o aY.o.hS (by decide);have dD:bb.c S 0=fh (fy na (fv E) nc):=(by simp[World.cell?,bJ]);have dE:bb.frozen? (ii S 0)=fo:=(by simp[World.frozen?,bJ]);have dF:S<bb.heap.size:=(np aV (by have:=bc.size;simp at this;omega)))
          all_goals
           go_wp2_with fail;go_meet;exact Qa aY.o cy.o L.o bI bc cz
         case rest=>
          rename fq=>Z;have⟨⟨cA,cC,aE,aF,ao⟩,bK⟩:=hcut.o;have cD:fe (fH F w Z):=bK;have bd:fe (gp (kA F w Z) Z S cA aE cC aF (E++[(p,1,(nd:Int))]) data<|xf hs++more):=ao;have bL:=ao.c1;have cE:=ao.lt;rw[<-Q.o]at bL;have bM:fe (Z.ownsRow 0 9 1 (fy aE nd aF) nd<|gO data):=by show World.ownsRow _ _ _ _ _ _ _;rw[Q.o];exact ao.jq
          clear hcut ao bK aC aD aV;go_wp2_with(at_builtin;refine yn fX (.tmp 132) (.tmp 133) 131 fX 0 9 ct _ 1 16 underlying131 cu cv cw cx fX (by decide) (fy aE nd aF) nd (gO data) fX (rE bM.o _) (ii Z.heap.size 0) 1 1 [hh kq] fX fX (one_cell Z _ _ _ fX) Bg (by unfold maxLen;omega) (by omega) (zt _) ?_);intro dG aG be aH bN;obtain⟨cF,cG,rfl⟩:=hZ be (by omega);have bf:=mW bd.o.hS (PH Z _) (by simp) aH<|io bM.o bd.o.hS (by decide);have cH:aG.c S 1=fh (fy aE (fv data) aF):=by simp[World.cell?,bf]
          have f16:aG.frozen? (ii S 1)=fo:=(by simp[World.frozen?,bf]);have cI:S<aG.heap.size:=np cE (by have:=aH.size;simp at this;omega);have⟨bO,bQ⟩:=UR bd.o cD.o Q.o be aH bN;have bg:fe _:=bO;have bh:fe _:=bQ;clear bO bQ be aH bN bf bL;go_upto_region 31 with fail;obtain⟨cJ,bR⟩:=ol<|aG.setCell (ii S 1) (my cF 0 (nd+1) cG);rw[<-bR]at bg bh |-;clear bR cH f16 cI;have⟨dH,dI,dJ,dK,t⟩:=bg.o;have cK:m<fv (E++[(p,1,(nd:Int))]):=by rw[L.o];simp
          have cL:=t.c0;have cN:=t.c1;have bS:fv (E++[(p,1,(nd:Int))])=m+1:=by rw[L.o];simp
          have bi:fv (data++[kq])=nd+1:=by rw[Q.o];simp
          rw[bS]at cL;rw[bi]at cN;have D:=t.lT;have⟨g,cO,ap⟩:=hZ D (by omega);have bj:=(lK ap).1;subst bj;have⟨_,_,aq⟩:=lr (off:=0) (ks D) cK;rw[iO]at aq;have cQ:(E++[(p,1,(nd:Int))])[m].2.2=(nd:Int):=by
           have cS:=L.o;subst cS;simp
          rw[cQ]at aq;have cT:=gc D fX;have cU:(m:Int)<((m+1:Nat):Int):=by omega
          have dL:(nd:Int)<((nd+1:Nat):Int):=(by omega);have dM:=t.lt;have⟨aa,bk,cV,bT,_⟩:=row_one t.jq (i:=nd) (v:=fA kq) (by rw[Q.o];simp[gO]);have ab:k<fv hs:=by omega
          obtain⟨⟨cW,cX,cY,cZ⟩,ar⟩:∃x,hs[k]?=fh x:=⟨_,jH ab⟩;have⟨db,dd,de,df,u⟩:=t.nZ ar;have dg:=u<|2+k*4;have dh:=u<|2+k*4+1;have di:=u<|2+k*4+2;have dj:=u<|2+k*4+3;subst bk;have⟨dk,au⟩:=UV t.jq fX;have dl:cJ.frozen? (ii aa nd)=fo:=by simp[World.frozen?,au]
          have bl:aa≠S:=λe=>io t.jq t.hS (by decide) (by rw[e];rfl);have dm:S≠aa:=λe=>bl e.symm;have bU:fe _:=t;have dn:fe _:=bi;clear u au ar D ap t bS bi bg;cases bm:ma fl 16 with
          |true=>
           go_wp2_with(go_at_call 159;(first|refine RK (M.o _ (by decide) (by assumption) _) ?_|refine RK (HBN.o _ (by decide) (by assumption) _) ?_);rintro _ _ ⟨rfl,rfl⟩);go_ret2;rw[o.o];have⟨bn,aI⟩:=bU.o.aax (j:=nd) (by rw[dn.o];omega) kq;have⟨R,G⟩:=bn.aay ab fm (nd:Int) fl 0;have dp:(data++[kq]).set nd kq=data++[kq]:=by rw[Q.o];simp
           rw[dp]at R;rw[<-Q.o];exact⟨fX,⟨_,_,_,_,R.keep (λ_ b=>KG b (aI.two G).size) λ_ _=>rfl⟩,KH bh.o<|aI.two G⟩
          |false=>
           go_wp2_with(go_at_call 159;(first|refine RK (M.o _ (by decide) (by assumption) _) ?_|refine RK (HBN.o _ (by decide) (by assumption) _) ?_);rintro _ _ ⟨rfl,rfl⟩);go_ret2;rw[o.o];have⟨R,G⟩:=bU.o.aay ab fm (nd:Int) fl 0;rw[<-Q.o];exact⟨fX,⟨_,_,_,_,R.keep (λ_ b=>KG b G.size) λ_ _=>rfl⟩,KH bh.o G⟩
       |some y=>
        rw[Y]at X;have aU:fe (ik 106 #[fy na m nc,hh p] wr<|PP (fY (y:Int)) wr):=X;have aJ:y<fv E:=(yQ.1 Y).1;have N:fe (a=if E[y].2.1=2 then((0,7),E,data,hs)else if ma fl 8=fm then((0,6),E,data,hs) else(((k:Int),0),E,if ma fl 16=fm then data.set E[y].2.2.toNat kq else data,hs.set k (fm,E[y].2.2,fl,0))):=by
         show _=_;rw[K.o];unfold xV;rw[Y];simp only[jH aJ]
        clear X Y K;go_wp2_with fail;refine Calls.still (h.o _) ?_;go_wp2_with fail;refine Calls.still J.o ?_;go_wp2_with fail;refine Calls.still aU.o ?_;go_wp2_with fail;refine Calls.via bG.o λw2 an=>?_
        have bo:ju w w2:=am.o.trans<|an.mono bD;have d:=ah.o.below an;have aC:=d.c0;have aD:=d.c1;rw[<-L.o]at aC;have D:=d.lT;have⟨g,cO,ap⟩:=hZ D (by omega);have bj:=(lK ap).1;subst bj;have⟨_,bp,aq⟩:=lr (off:=0) (ks D) aJ;rw[iO]at bp aq;have cT:=gc D fX;have cU:(y:Int)<(m:Int):=by have:=L.o;omega
        have aV:=d.lt;have P:fe _:=d;have C:fe _:=bo;have ck:=bo.size;clear D ap d bo aT c0;by_cases ai:E[y].2.1=2
        ·have o:fe (a=((0,7),E,data,hs)):=Fr<|by rw[N.o,lv ai]
         rw[ai]at bp;clear ai;go_wp2;go_ret2;rw[o.o];exact⟨fX,q.o _ C.o⟩
        have bq:E[y].2.1=1:=(ca.o _<|kN aJ).resolve_right ai;have⟨dq,dr⟩:=aj.o.files _ (kN aJ) bq;obtain⟨j,br⟩:∃j:Nat,E[y].2.2=(j:Int):=⟨E[y].2.2.toNat,by omega⟩;have bs:j<fv data:=by omega
        have o:fe (a=if ma fl 8=fm then((0,6),E,data,hs) else(((k:Int),0),E,if ma fl 16=fm then data.set j kq else data,hs.set k (fm,(j:Int),fl,0))):=Fr<|by rw[N.o,km ai,br,qE]
        rw[bq]at bp;rw[br]at aq;clear ai bq dq dr br N;cases bt:ma fl 8 with
        |true=>
         have av:fe (a=((0,6),E,data,hs)):=Fr<|by rw[o.o,lv bt]
         go_wp2_with(go_at_call 159;refine Calls.still (M.o _ (by decide) (by assumption) _) ?_);go_ret2;rw[av.o];exact⟨fX,q.o _ C.o⟩
        |false=>
         have ab:k<fv hs:=(by omega);have⟨aa,bk,cV,bT,_⟩:=row_one P.o.jq (i:=j) (v:=fA data[j]) (by simp[gO,bs]);obtain⟨dN,bV⟩:=ol<|data[j];rw[<-bV]at bT;obtain⟨ds,dt⟩:=ol<|fv data;rw[<-dt]at aD bv;have dO:(j:Int)<(ds:Int):=by omega
         obtain⟨⟨cW,cX,cY,cZ⟩,ar⟩:∃x,hs[k]?=fh x:=⟨_,jH ab⟩;have⟨db,dd,de,df,u⟩:=P.o.nZ ar;have dg:=u<|2+k*4;have dh:=u<|2+k*4+1;have di:=u<|2+k*4+2;have dj:=u<|2+k*4+3;subst bk;have⟨dk,au⟩:=UV P.o.jq fX;have dl:w2.frozen? (ii aa j)=fo:=by simp[World.frozen?,au]
         have bl:aa≠S:=λe=>io P.o.jq P.o.hS (by decide) (by rw[e];rfl);have dm:S≠aa:=λe=>bl e.symm;have du:fe (j<fv data):=bs;clear u au bV ar bs;cases bm:ma fl 16 with
         |true=>
          have av:fe (a=(((k:Int),0),E,data.set j kq,hs.set k (fm,(j:Int),fl,0))):=Fr<|by rw[o.o,km (by rw[bt];simp),lv bm]
          go_wp2_with(go_at_call 159;(first|refine RK (M.o _ (by decide) (by assumption) _) ?_|refine RK (HBN.o _ (by decide) (by assumption) _) ?_);rintro _ _ ⟨rfl,rfl⟩);go_ret2;rw[av.o];have⟨bn,aI⟩:=P.o.aax du.o kq;have⟨R,G⟩:=bn.aay ab fm (j:Int) fl 0;exact⟨fX,⟨_,_,_,_,R.keep (λ_ b=>.inl b) λ_ _=>rfl⟩,(aI.two G).after C.o⟩
         |false=>
          have av:fe (a=(((k:Int),0),E,data,hs.set k (fm,(j:Int),fl,0))):=Fr<|by rw[o.o,km (by rw[bt];simp),km (by rw[bm];simp)]
          go_wp2_with(go_at_call 159;(first|refine RK (M.o _ (by decide) (by assumption) _) ?_|refine RK (HBN.o _ (by decide) (by assumption) _) ?_);rintro _ _ ⟨rfl,rfl⟩);go_ret2;rw[av.o];have⟨R,G⟩:=P.o.aay ab fm (j:Int) fl 0;exact⟨fX,⟨_,_,_,_,R.keep (λ_ b=>.inl b) λ_ _=>rfl⟩,G.after C.o⟩
      have ci:(e != 0)=fm:=(by simp[A]);have K:fe (a=((0,e),E,data,hs)):=Fr<|by rw[c.o,km W,lv A]
      clear A W;go_wp2_with fail;refine Calls.still (h.o _) ?_;go_wp2_with fail;refine Calls.still J.o ?_;go_wp2;go_ret2;rw[K.o];exact⟨fX,q.o _ am.o⟩
  obtain rfl:i=8:=by omega
  have al:fe (k=8):=aO.o.trans<|acx bW J.o;cases r:bx with
  |false=>
   have c:fe (a=((0,1),E,data,hs)):=Fr<|by rw[V.o,r];rfl
   subst r;go_wp2_with(go_at_call 157;refine Calls.still (h.o _) ?_);go_ret2;rw[c.o];exact⟨fX,q.o _<|af.o.trans (B.o.mono ae)⟩
  |true=>
   subst r;cases l:Do fl with
   |false=>
    have c:fe (a=((0,2),E,data,hs)):=Fr<|by rw[V.o,l];rfl
    rw[l]at h;go_wp2_with(go_at_call 157;refine Calls.still (h.o _) ?_);go_ret2;rw[c.o];exact⟨fX,q.o _<|af.o.trans (B.o.mono ae)⟩
   |true=>
    have c:fe (a=((0,10),E,data,hs)):=Fr<|by rw[V.o,l,al.o];rfl
    rw[l]at h;go_wp2_with(go_at_call 157;refine Calls.still (h.o _) ?_);go_ret2;rw[c.o];exact⟨fX,q.o _<|af.o.trans (B.o.mono ae)⟩
def htn(b:Nat)(x:fu)(a:Int)(c:0<=a)(d:a<=256)(w:fq)(f:b<w.heap.size)(c2:w.c b 2=fh x)(f2:w.frozen? (ii b 2)=fo):ik 165 #[ie b,fY a] w λe H=>e=fF (fY 0)/\H=w.setCell (ii b 2) (fY a):=by
 go_enter func165,ntmps165;go_wp2;go_ret;exact⟨fX,fX⟩
theorem Wn(a k b:Nat)(n c:Int)(d:fq->Prop)(w:fq)(f:w.c a (1+k)=fh (ie b))(g:k<8)
  (h:ik 165 #[ie b,fY n] w λe H=>e=fF (fY c)/\d H):
  ik 102 #[ie a,fY (k:Int),fY n] w λe H=>e=fF (fY c)/\d H:=by
 go_enter func102,ntmps102;go_wp2_with(first
  |(go_at_call 122;refine(xw a k b w f g).still ?_)
  |(go_at_call 165;refine h.via λO i=>?_))
 go_ret;exact⟨fX,i⟩
theorem adc(a k b:Nat)(n c:Int)(d:fq->Prop)(w:fq)(f:w.c a (1+k)=fh (ie b))(g:k<8)
  (h:ik 164 #[ie b,fY n] w λe H=>e=fF (fY c)/\d H):
  ik 100 #[ie a,fY (k:Int),fY n] w λe H=>e=fF (fY c)/\d H:=by
 go_enter func100,ntmps100;go_wp2_with(first
  |(go_at_call 122;refine(xw a k b w f g).still ?_)
  |(go_at_call 164;refine h.via λO i=>?_))
 go_ret;exact⟨fX,i⟩
theorem oP.used{A}{a:Ops}{t}{E}{data}{i:Nat->Nat}(j:oP A fl a t E data hs i)(n:Int):
  (tI hs n=fo/\Aq (λk=>(a k).map (·.1)) n)\/∃(k b f:Nat) (fg c:Int),k<8/\n=(k:Int)/\a k=fh (b,f,fg,c)/\hs[k]?=fh (fm,(i f:Int),fg,c):=by
 by_cases l:0<=n/\n<8;obtain⟨k,rfl⟩:∃k:Nat,n=(k:Int):=⟨n.toNat,by omega⟩;have g:k<8:=by omega
 have d:=j.tab k g;rcases h:a k with _|x
 refine .inl ⟨?_,λo _ p=>?_⟩;rw[h]at d;have⟨m,e⟩:=wH.1 d;rw[GI m j.h8,e];rfl
 grind
 have⟨b,f,fg,c⟩:=x;rw[h]at d;exact .inr ⟨k,b,f,fg,c,g,fX,h,d⟩;exact .inl ⟨BO l,λk g e=>absurd ⟨by omega,by omega⟩ l⟩
def pU{M}{fs':b6}{KI:Fls}{op':Ops}{a:Nat}{b}{c}(d:jy N w s i p B A g I t)(U:gB A t)(m:fI (Mine i) N M w H)(f:fZ M H s i p B A { g with fs:=fs',fl:=KI,op:=op' } a)(h:a<=I+400)(j:wE A KI)(k:g.fs.brk=fo)(e:g.fs.Next fs')(l:kr A KI op' t E b c):vU s i p B A N w H g (I+400) E b c:=
 ⟨M,_,t,m,⟨f.mono h,d.flat,d.ok,j⟩,e.1.trans k,fX,e.2.2.1,U,l⟩
theorem jy.cell(a:jy N w s i p B A g I t){fg c:Int}(d:k<8)(h:g.op k=fh (b,f,fg,c)):w.cell? (ii B.wb<|1+k)=fh (ie b):=by
 have⟨_,_,e⟩:=a.ws;rw[e.2.1 k d]
 grind
theorem jy.fg(c:jy N w s i p B A g I t){fg a:Int}(d:g.op k=fh (b,f,fg,a)):(∃x,g.fl f=fh x)/\(0<=fg/\fg<=63)/\0<=a/\a<=256:=by
 have⟨_,_⟩:=c.inv.wp.opens.at_ k b f fg a d
 grind
def vW(b:gi F O Sb E data rest)(a:ju O H):gi (kA F O H) H Sb E data rest/\fH F O H:=⟨gi.below b a,fH.fJ a⟩
def xW(a:gp F H Sb na da nc dc E data rest)(b:fH F O H):gi (kA F O H) H Sb E data rest/\fH F O H:=⟨⟨na,nc,da,dc,a.keep (λ_ a=>.inl a) λ_ _=>rfl⟩,b⟩
theorem xX{hs a:List BN}{more:iN}(b:fv hs=8)(c:fv a=8):(xf a++more).drop 32=(xf hs++more).drop 32:=by
 grind [Ml,hxy]
theorem zdt(c:jy N w s i p B A g I t)(q:g.fs.brk=fo)(U:gB A t)(y:kr A g.fl g.op t E data rest)(Sb)(n a:Int):
  ∃z r,r.drop 32=rest.drop 32/\(ik 102 #[ie B.wb,fY n,fY a] w λe H=>e=fF (fY z)/\vU s i p B A N w H g (I+400) E data r)/\
   ∀{F:Nat->Prop}{O:fq},gi F O Sb E data rest->ik 103 #[ie Sb,fY n,fY a] O λe H=>e=fF (fY z)/\gi (kA F O H) H Sb E data r/\fH F O H:=by
 have C:=y;obtain⟨⟨D,hs,more,rfl,d⟩,J⟩:=y;have⟨X,c0,K⟩:=c.ws;have L:∀{F:Nat->Prop}{O:fq},gi F O Sb E data (xf hs++more)->ik 103 #[ie Sb,fY n,fY a] O λe H=>e=fF (fY (oH hs n a).2)/\gi (kA F O H) H Sb E data (xf (oH hs n a).1++more)/\fH F O H:=λu=>by
  have⟨na,nc,da,dc,u⟩:=u;exact(ZX u d.h8 n a).mono λe H⟨h,M,P⟩=>⟨h,xW M P⟩
 refine⟨_,_,xX d.h8 (by unfold oH;repeat(first|exact d.h8|(simp;exact d.h8)|split)),?_,L⟩;rcases d.used n with⟨o,Q⟩|⟨k,b,f,fg,Y,j,rfl,l,G⟩
 have e:oH hs n a=(hs,3):=by unfold oH;rw[lv o]
 rw[e];exact(ofM K Q a).mono λe H⟨h,R⟩=>⟨h,iw c q U C (by grind [mi])⟩
 have o:=mq d.h8 G;have⟨S,_⟩:=c.fg l;have⟨T,_,_,c2,V⟩:=gZ c.inv l;by_cases v:a<0\/256<a;have e:oH hs (k:Int) a=(hs,2):=by unfold oH;rw[km (by rw[o];simp),lv v]
 rw[e];exact(Wn B.wb k b a 2 (λH=>H=w) w (c.cell j l) j<|aca a v w).mono λe H⟨h,R⟩=>⟨h,iw c q U C (by grind [mi])⟩
 have e:oH hs (k:Int) a=(hs.set k (fm,(D f:Int),fg,a),0):=by unfold oH;rw[km (by rw[o];simp),km v,qE,G]
 rw[e];apply (Wn B.wb k b a 0 _ w (c.cell j l) j<|htn b _ a (by omega) (by omega) w T c2 (V 2)).mono;rintro e H ⟨h,rfl⟩;have⟨m,W⟩:=c.inv.place l (VI:=a) (by omega) (by omega);refine⟨h,pU (fs':=g.fs) (KI:=g.fl) c U (m.mono hji) W (by omega) c.fl q (b6.Next.refl _) ⟨⟨D,_,more,fX,d.opens j (fh (b,f,fg,a)) λx S=>?_⟩,J⟩⟩
 grind
theorem ows(a:jy N w s i p B A g I t)(q:g.fs.brk=fo)(U:gB A t)(r:kr A g.fl g.op t E data rest)(Sb)(n:Int):
  ∃u j,j.drop 32=rest.drop 32/\(ik 65 #[ie B.wb,fY n] w λe H=>e=fF (fY u)/\vU s i p B A N w H g (I+400) E data j)/\
   ∀{F:Nat->Prop}{O:fq},gi F O Sb E data rest->ik 104 #[ie Sb,fY n] O λe H=>e=fF (fY u)/\gi (kA F O H) H Sb E data j/\fH F O H:=by
 have y:=r;obtain⟨⟨z,hs,more,rfl,c⟩,C⟩:=r;have⟨D,c0,v⟩:=a.ws;have G:∀{F:Nat->Prop}{O:fq},gi F O Sb E data (xf hs++more)->ik 104 #[ie Sb,fY n] O λe H=>e=fF (fY (pT hs n).2)/\gi (kA F O H) H Sb E data (xf (pT hs n).1++more)/\fH F O H:=λl=>by
  have⟨na,nc,da,dc,l⟩:=l;exact(UM l c.h8 n).mono λe H⟨d,J,K⟩=>⟨d,xW J K⟩
 refine⟨_,_,xX c.h8 (by unfold pT;split<;>simp[c.h8]),?_,G⟩;rcases c.used n with⟨o,L⟩|⟨k,b,f,fg,S,h,rfl,M,P⟩
 have e:pT hs n=(hs,3):=by unfold pT;rw[lv o]
 rw[e];exact(hsh v L).mono λe H⟨d,T⟩=>⟨d,iw a q U y (by grind [mi])⟩
 have o:=mq c.h8 P;have e:pT hs (k:Int)=(hs.set k (fo,0,0,0),0):=by unfold pT;rw[km (by rw[o];simp),qE]
 rw[e];apply (hja B.wb k b w D (a.cell h M) (v.2.2 _) h).mono;rintro e H ⟨d,rfl⟩;have⟨m,Q⟩:=a.inv.close h;exact⟨d,pU (fs':=g.fs) (KI:=g.fl) a U (m.mono λ_ a=>.inr (by rw[a])) Q (by omega) a.fl q (b6.Next.refl _) ⟨⟨z,_,more,fX,c.opens h fj λx R=>by cases R⟩,C⟩⟩
def CW{a x:Nat}(b:d.size<=a):d.extract a x=kq:=by
 apply Rw;rw[bot];have c:d.data.size=d.size:=fX;apply Array.eq_empty_of_size_eq_zero;rw[Array.size_extract];omega
theorem MK(d:fP)(a x):d.extract a (min x d.size)=d.extract a x:=by
 rcases Nat.le_total x d.size with b|b
 rw[EI b];rw[Nat.min_eq_right b];exact Wl (lw _) b
theorem hto(c:d.size<=256)(e:a<=256):d.extract (min a d.size) (min (min a d.size+min m (256-a)) d.size)=d.extract a (a+m):=by
 rw[MK];rcases WN a d.size with b|b
 rw[EI<|by omega,<-MK,<-MK d a (a+m)]
 congr 1
 omega;rw[Nat.min_eq_right b,CW<|lw _,CW b]
theorem CX(a:jy N w s i p B A g I t)(k:g.fs.brk=fo){x:Int×fP}(l:g.fl f=fh x):∃b,Hn A g.fl g.fs f=(b,0,gz A g.fl f)/\g.fs.Next b/\(gz A g.fl f).size<=256:=by
 have⟨m,c⟩:=pR (Fp A g.fl g.fs f) k;have e:(Hn A g.fl oY f).2=(0,gz A g.fl f):=by
  have⟨id,d⟩:=x;unfold Hn gz;rw[l];by_cases h:id=0;simp[h];simp[h,b6.gP,oY]
 rw[e]at c;have j:Hn A g.fl g.fs f=((Hn A g.fl g.fs f).1,0,gz A g.fl f):=HA fX c;exact⟨_,j,m,yA a.inv a.fl j⟩
theorem htr{x:BN}(a:hs[k]?=fh x):hs.set k x=hs:=by
 grind [wH,List.set_getElem_self]
theorem zs2(h:jy N w s i p B A g I t)(ar:I+1000<1099511627776)(y:g.fs.brk=fo)(U:gB A t)(R:kr A g.fl g.op t E data rest)(ae:fv data<=1000000000)(Sb)(n m:Int):
  ∃a j o,(j==14)=fo/\o.drop 32=rest.drop 32/\(ik 66 #[ie B.wb,fY n,fY m] w λe H=>e=pD #[hh a,fY j]/\vU s i p B A N w H g (I+400) E data o)/\
   ∀{F:Nat->Prop}{O:fq},gi F O Sb E data rest->ik 98 #[ie Sb,fY n,fY m] O λe H=>e=pD #[hh a,fY j]/\gi (kA F O H) H Sb E data o/\fH F O H:=by
 have C:=R;obtain⟨⟨S,hs,more,rfl,l⟩,af⟩:=R;have⟨au,c0,ag⟩:=h.ws;rcases l.used n with⟨ah,ai⟩|⟨k,b,f,fg,T,q,rfl,u,D⟩
 refine⟨kq,3,_,fX,fX,(nys ag ai m).mono λe H⟨c,V⟩=>⟨c,iw h y U C (by grind [mi])⟩,λr=>?_⟩;have⟨na,nc,da,dc,z⟩:=r;exact(UO z l.h8 n m ah).mono λe H⟨c,v⟩=>⟨c,vW ⟨na,nc,da,dc,z⟩ v⟩;have⟨⟨x,G⟩,J,W,X⟩:=h.fg u;have⟨v,_,c1,c2,av⟩:=gZ h.inv u;have⟨Y,_⟩:=Hp J;have Z:∀j:Int,(j==14)=fo->((m<0/\j=2)\/(0<=m/\ma fg 1=fo/\j=12))->∃a j o,(j==14)=fo/\o.drop 32=(xf hs++more).drop 32/\(ik 66 #[ie B.wb,fY (k:Int),fY m] w λe H=>e=pD #[hh a,fY j]/\vU s i p B A N w H g (I+400) E data o)/\
  ∀{F:Nat->Prop}{O:fq},gi F O Sb E data (xf hs++more)->ik 98 #[ie Sb,fY (k:Int),fY m] O λe H=>e=pD #[hh a,fY j]/\gi (kA F O H) H Sb E data o/\fH F O H:=λj aj c=>by
  refine⟨kq,j,_,aj,fX,(LS B.wb k b m kq j (λH=>H=w) w (h.cell q u) q<|KF m v c1 c2 W X (c.elim (λe=>.inl e) λe=>.inr (.inl ⟨e.1,by rw[Y,e.2.1];rfl,e.2.2⟩))).mono λe H⟨c,V⟩=>⟨c,iw h y U C (by grind [mi])⟩,λr=>?_⟩;have⟨na,nc,da,dc,z⟩:=r;exact(acb z l.h8 D J c).mono λe H⟨c,v⟩=>⟨c,vW ⟨na,nc,da,dc,z⟩ v⟩
 by_cases ak:m<0;exact Z 2 rfl<|.inl ⟨ak,fX⟩;cases K:ma fg 1 with
 |false=>exact Z 12 fX (.inr ⟨by omega,K,fX⟩)
 |true=>
  have aa:(bits BinOp.and IntKind.i64 fg 1==0)=fo:=by rw[Y,K];rfl
  have⟨aw,ab,al,L⟩:=CX h y G;have ac:=l.cont f (by rw[G];simp);obtain⟨d,am⟩:=ol<|gz A g.fl f;rw[<-am]at ab L ac;obtain⟨a,rfl⟩:∃a:Nat,T=(a:Int):=⟨T.toNat,by omega⟩;have P:∀{F:Nat->Prop}{O:fq},gi F O Sb E data (xf hs++more)->ik 98 #[ie Sb,fY (k:Int),fY m] O λe H=>e=pD #[hh<|d.extract a (a+m.toNat),fY 0]/\gi (kA F O H) H Sb E data (xf (hs.set k (fm,(S f:Int),fg,(a:Int)+(d.extract a<|a+m.toNat).size))++more)/\fH F O H:=λr=>by
   have⟨na,nc,da,dc,r⟩:=r;exact(htb r l.h8 D ac J (by omega) L (by omega) K ae).mono λe H⟨c,an,ao⟩=>⟨c,xW an ao⟩
  by_cases Q:m=0\/(a:Int)=256;have e:d.extract a (a+m.toNat)=kq:=by
   rcases Q with rfl|Q
   grind [QU]
   exact CW<|by omega
  rw[e,show((a:Int)+(kq.size:Nat))=(a:Int)from Int.add_zero _,htr D]at P;exact⟨kq,0,_,fX,fX,(LS B.wb k b m kq 0 (λH=>H=w) w (h.cell q u) q<|KF m v c1 c2 W X (.inr (.inr ⟨by omega,aa,Q,fX⟩))).mono λe H⟨c,V⟩=>⟨c,iw h y U C (by grind [mi])⟩,P⟩;refine⟨_,0,_,fX,xX l.h8 (by simp[l.h8]),?_,P⟩;have ad:=hjj h.inv (by omega) h.fl u aa (n:=m) (by omega) (by omega) ab;have e:d.extract (min (a:Int).toNat d.size) (min (min (a:Int).toNat d.size+(min m<|256-(a:Int)).toNat) d.size)=d.extract a (a+m.toNat):=by
   rw[qE,show(min m<|256-(a:Int)).toNat=min m.toNat (256-a) by omega];exact hto L<|by omega
  rw[e]at ad;refine(LS B.wb k b m _ 0 _ w (h.cell q u) q ad).mono ?_;rintro e H ⟨c,M,ap,aq⟩;refine⟨c,pU (KI:=g.fl) h U ap aq (by omega) h.fl y al ⟨⟨S,_,more,fX,l.opens q (fh (b,f,fg,_)) λx G=>?_⟩,af⟩⟩
  grind
theorem QY(b f)(fg c a:Int)(i d:fP)(g:fq->Prop)(w:fq)(c0:w.c b 0=fh (ie f))(c1:w.c b 1=fh (fY fg))(c2:w.c b 2=fh (fY c))
  (x:(bits BinOp.and IntKind.i64 fg 2==0)=fo)(p:1<=d.size)(q:0<=iU fg c 0)(r:iU fg c 0+d.size<=256)(s:iU fg c i.size=a)(y:0<=a)(ha2:a<=256)(z:256<a+d.size)
  (t:ik 181 #[ie f] w λe H=>e=pD #[hh i,fY 0]/\g H)
  (h:∀O,g O->O.c b 0=fh (ie f)/\O.c b 1=fh (fY fg)/\O.c b 2=fh (fY c)):
  ik 123 #[ie b,hh d] w λe H=>e=fF (fY 11)/\g H:=by
 have l:=uG b fg c 0 w c1 c2;have j:=λO(m:g O)=>uG b fg c i.size O (h O m).2.1 (h O m).2.2;simp only[s]at j;generalize iU fg c 0=n at l q r;have A:=rZ p;have B:IntKind.i64.wrap (n+d.size)=n+d.size:=by rw[Cb]<;>omega
 have C:IntKind.i64.wrap (a+d.size)=a+d.size:=by rw[Cb]<;>omega
 have u:fe _:=h;have v:fe _:=j;clear h j;go_enter func123,ntmps123;go_wp2_with(first
  |(go_at_call_of 180 (Value.int .i64 0);refine l.still ?_)
  |(go_at_call 181;refine t.via λO k=>?_;obtain⟨D,E,F⟩:=u O k;have o:fe _:=k;clear k)
  |(go_at_call 180;refine(v.o _ o.o).still ?_))
 go_ret;exact⟨fX,o⟩
def KJ{fg:Int}(b:0<=fg/\fg<=63)(a n:Int):iU fg a n=if ma fg 32=fm then n else a:=by
 unfold iU;rw[(Hp b).2.2.2.2.2]
theorem wE.write(g:wE A fl)(f)(d:fP):wE A (pC fl f<|fh (0,d)):=λb id h a c=>by
 by_cases e:b=f
 rw[e,ld]at a
 cases a
 exact absurd fX c
 rw[kx e]at a
 exact g b id h a c
def IL (s i p:Nat)(B:WB)(A:List Ob)(N:gF)(w:fq)(g:WG)(I:Nat)(E:List fV)(data:fT)(rest:iN)(f h:Nat)(d:iN)(Sb:Nat):Prop:=
 ∃a b c,(a==14)=fo/\fv b=fv data/\c.drop 32=rest.drop 32/\(Calls prog f (fB (fh ⟨B.wb,0,fj⟩)::d).toArray w λe H=>e=fF (.int .i64 a)/\vU s i p B A N w H g (I+400) E b c)/\
   ∀{F:Nat->Prop}{O:fq},gi F O Sb E data rest->Calls prog h (fB (fh ⟨Sb,0,fj⟩)::d).toArray O λe H=>e=fF (.int .i64 a)/\gi (kA F O H) H Sb E b c/\fH F O H
theorem IL.same{d f}{a:iN}(j:jy N w s i p B A g I t)(k:g.fs.brk=fo)(U:gB A t)(l:kr A g.fl g.op t E data rest)(er:Int)(m:(er==14)=fo)
  (n:Calls prog d ((ie B.wb)::a).toArray w (ut (fY er) w))
  (o:∀{F:Nat->Prop}{O:fq}{na da:ig}{nc dc:Nat},gp F O Sb na da nc dc E data rest->Calls prog f ((ie Sb)::a).toArray O (ut (fY er) O)):IL s i p B A N w g I E data rest d f a Sb:=
 ⟨er,data,rest,m,fX,fX,n.mono λe H⟨b,c⟩=>⟨b,iw j k U l c⟩,λ⟨na,nc,da,dc,h⟩=>(o h).mono λe H⟨b,c⟩=>⟨b,vW ⟨na,nc,da,dc,h⟩ c⟩⟩
theorem pad(c:jy N w s i p B A g I t)(aD:I+1000<1099511627776)(o:g.fs.brk=fo)(U:gB A t)(Z:kr A g.fl g.op t E data rest)(aa:fv data<=1000000000)(Sb:Nat)(n:Int)(x:fP)(Q:x.size<=1048576):
  IL s i p B A N w g I E data rest 64 99 [fY n,hh x] Sb:=by
 have C:=Z;obtain⟨⟨R,hs,more,rfl,m⟩,al⟩:=Z;obtain⟨aE,c0,am⟩:=c.ws;have G:∀{H:fq},H=w->ju w H:=λe=>by rw[e];exact mi _ _
 rcases m.used n with⟨an,ao⟩|⟨k,b,f,fg,D,S,rfl,F,J⟩
 exact IL.same c o U C 3 fX ((hsi am ao x).mono λe H⟨h,q⟩=>⟨h,G q⟩) λj=>QV j m.h8 n x an;obtain⟨⟨y,K⟩,r,_⟩:=c.fg F;obtain⟨L,ap,c1,c2,aF⟩:=gZ c.inv F;obtain⟨_,ab,_⟩:=Hp r;have aG:=KJ r D 0;have ws:∀{ac:Int}{ad:fq->Prop},(ik 123 #[ie b,hh x] w λe H=>e=fF (fY ac)/\ad H)->ik 64 #[ie B.wb,fY (k:Int),hh x] w λe H=>e=fF (fY ac)/\ad H:=λaq=>hi4 B.wb k b x _ _ w (c.cell S F) S aq;have u:0<=iU fg D 0/\iU fg D 0<=256:=by
  omega
 cases v:ma fg 2 with
 |false=>
  exact IL.same c o U C 12 fX ((ws<|Hq x L c1 c2 u.1 u.2 Q (.inl ⟨by rw[ab,v];rfl,fX⟩)).mono λe H⟨h,q⟩=>⟨h,G q⟩) λj=>Hr j m.h8 J r<|.inl ⟨v,fX⟩
 |true=>
  have P:(bits BinOp.and IntKind.i64 fg 2==0)=fo:=by rw[ab,v];rfl
  by_cases ae:x.size=0
  ·obtain rfl:x=kq:=by
    apply Rw
    all_goals simp_all
   exact IL.same c o U C 0 fX ((ws<|SH b fg w c1 P).mono λe H⟨h,q⟩=>⟨h,G q⟩) λj=>Hr j m.h8 J r<|.inr ⟨v,fX,fX⟩
  obtain⟨aH,T,af,V⟩:=CX c o K;have W:=m.cont f (by rw[K];simp);obtain⟨d,ar⟩:=ol<|gz A g.fl f;rw[<-ar]at T V W;obtain⟨a,rfl⟩:∃a:Nat,D=(a:Int):=⟨D.toNat,by omega⟩;obtain⟨l,X⟩:∃l:Nat,(ma fg 32=fm/\l=d.size)\/(ma fg 32=fo/\l=a):=by
   grind
  have ag:iU fg (a:Int) (d.size:Int)=(l:Int):=by
   rw[KJ r]
   grind
  have aI:iU fg (a:Int) 0<=(l:Int):=by
   grind
  have aJ:l<=256:=by rcases X with⟨au,ah⟩|⟨au,ah⟩<;>omega
  by_cases ai:l+x.size<=256
  ·refine⟨0,data.set (R f)<|tX d x l,xf (hs.set k (fm,(R f:Int),fg,(l:Int)+x.size))++more,fX,by simp,xX m.h8 (by simp[m.h8]),?_,λj=>?_⟩
   rotate_left
   obtain⟨na,nc,da,dc,j⟩:=j;exact(acl j m.h8 J W r (by omega) V v ae X ai aa).mono λe H⟨h,av,aw⟩=>⟨h,xW av aw⟩;refine(ws<|YH c.inv (by omega) c.fl F P (by omega) u.1 (by omega) T ag ai).mono ?_;rintro e H ⟨h,M,ax,ay⟩;refine⟨h,pU c U ax ay (by omega) (c.fl.write f _) o af ⟨⟨R,_,more,fX,(m.write (f:=f) (by rw[K];simp)<|tX d x l).opens S (fh (b,f,fg,_)) λz az=>?_⟩,al.len<|by simp⟩⟩;cases az;exact(Hd _).2<|.inl fX
  refine⟨11,data,xf hs++more,fX,fX,fX,?_,λ⟨na,nc,da,dc,j⟩=>(QX j m.h8 J W r (by omega) V v ae X (by omega) Q aa).mono λe H⟨h,L⟩=>⟨h,vW ⟨na,nc,da,dc,j⟩ L⟩⟩;by_cases aA:256<iU fg (a:Int) 0+x.size;exact(ws<|Hq x L c1 c2 u.1 u.2 Q (.inr ⟨P,by omega,aA,fX⟩)).mono λe H⟨h,q⟩=>⟨h,iw c o U C<|G q⟩;have aj:=ri c.inv (by omega) c.fl K;rw[T]at aj;refine(ws (QY b f fg (a:Int) (l:Int) d x _ w ap c1 c2 P (by omega) u.1 (by omega) ag (by omega) (by omega) (by omega) aj λO aB=>?_)).mono ?_;obtain⟨aC,ak,Y⟩:=aB;obtain⟨_,ah,aK,aL,_⟩:=gZ Y F
  grind
  rintro e H ⟨h,aC,ak,Y⟩;exact⟨h,pU (KI:=g.fl) (op':=g.op) c U (ak.mono λ_ c=>c.mine) Y (by omega) c.fl o af C⟩
theorem Hs(a f:Nat)(fg m b:Int)(c:fq->Prop)(w:fq)(i:a<w.heap.size)(c0:w.c a 0=fh (ie f))(c1:w.c a 1=fh (fY fg))(j:(bits BinOp.and IntKind.i64 fg 2==0)=fo)(k:0<=m)(l:m<=256)
  (d:ik 203 #[ie f,fY m] w λe H=>e=fF (fY b)/\c H):
  ik 164 #[ie a,fY m] w λe H=>e=fF (fY b)/\c H:=by
 have t0:decide (m<0)=fo:=yv (by omega);have t1:decide (256<m)=fo:=yv (by omega);have g:fe _:=d;clear d;go_enter func164,ntmps164;go_wp2_with(go_at_call 203;refine RK g.o ?_;rintro e O ⟨rfl,h⟩);go_ret;exact⟨fX,h⟩
theorem ML(f)(a:fq->Prop)(w:fq)(b:ik 179 #[ie f] w λe H=>e=pD #[]/\a H):
  ik 203 #[ie f,fY 0] w λe H=>e=fF (fY 0)/\a H:=by
 have c:fe _:=b;clear b;go_enter func203,ntmps203;go_wp2_with(go_at_call 179;refine RK c.o ?_;rintro e O ⟨rfl,d⟩);go_ret;exact⟨fX,d⟩
theorem MM{P:Program}(w:fq)(e k l d:lV)(g a f n m:Nat)(s:fP)(c:Array fu)(t)
  (o:P.underlying e=fh (.slice d))(hs:(P.info? d).map (·.size)=fh 1)(p:w.heap[g]?=fh (.cells c t (0,0)))(h:Nat.min s.size f=m)(u:a+m<=c.size):
  (Builtin.copy_ #[e,k] l #[my g a f n,hh s]).run P w =
   .ok (goInt m) (w.setRow g (c.toList.take a++Lib.byteCells (s.data.toList.take m)++c.toList.drop (a+m)).toArray):=by
 have v:m<=s.size:=by rw[<-h];exact hTe _ _
 have q:fv (Lib.byteCells<|s.data.toList.take m)=m:=by rw[hBg,kV,<-Cg];omega
 have j:=run_storeCells_at P g a t (Lib.byteCells<|s.data.toList.take m) 0 c w p (by omega)<|Lib.byteCells_one _;have x:List.take m (List.map (λb:UInt8=>Value.int IntKind.u8 (b.toNat:Int)) s.data.toList)=Lib.byteCells (s.data.toList.take m):=by
  rw[<-WD];rfl
 rw[q]at j;simp only[Ee]at j;rcases r:P.info? d with _|i
 grind
 simp[Builtin.copy_,WI o,Builtin.lenOf,Builtin.firstCells,sizeOf,typeInfo,r,h]
 all_goals simp_all
theorem MN{P:Program}{j:Array Oper}{rest:List Oper}{b:Oper}{a:Act}{l:Exit->Act->fq->Prop}(r:b.guard=fj)(d x:Operand)(f n:lV)
  (u:b.op=.call { callee:=.builtin .copy,args:=#[d,x],argTypes:=#[f,n] })(h:lV)(v:P.underlying f=fh (.slice h))(y:(P.info? h).map (·.size)=fh 1)
  (g off i o m:Nat)(s:fP)(z:a.eval d=my g off i o)(hs:a.eval x=fA s)
  (c:Array fu)(t)(p:w.heap[g]?=fh (.cells c t (0,0)))(A:Nat.min s.size i=m)(B:off+m<=c.size)
  (new:Array fu)(C:new.toList=c.toList.take off++Lib.byteCells (s.data.toList.take m)++c.toList.drop (off+m))
  (D:∀H,fe (H.heap[g]?=fh (.cells new t (0,0)))->w.grownBy H (fh g)->wpList P j l rest (a.put b.dst<|goInt m) H):wpList P j l (b::rest) a w:=by
 refine WL r λG E=>?_;have q:=MM (P:=P) w f n b.type h g off i o m s c t v y p A B;rw[<-C,Def]at q;unfold Oper.wp;simp[execOp,u,resolve,invoke,builtin,z,hs,q,Result.andThen];exact E _ _ (D _ (Hz w g _ _ t _ p) ⟨fX,fX,fX,by simp,λk I F=>EJ w g k _ λe=>F (by rw[e])⟩)
def hts{a:List UInt8}{n m:Nat}(b:Nat.min (fv a) n=m):Lib.byteCells ((vg a n).take n)=(Lib.byteCells<|List.replicate n 0).take 0++Lib.byteCells (a.take m)++(Lib.byteCells<|List.replicate n 0).drop (0+m):=by
 have b:min (fv a) n=m:=b;unfold vg;rcases Nat.le_total (fv a) n with c|c
 rw[EI c]at b;subst b;rw[oJ (l:=a++_) (by simp;omega),oJ (l:=a)<|lw _];simp[Lib.byteCells];rw[Nat.min_eq_right c]at b;subst b;rw[show n-fv a=0 by omega];simp[Lib.byteCells]
def Wo(a)(n):fv ((vg a n).take n)=n:=by rw[kV,MH];omega
def QZ(d)(n):(lH d n).size=n:=by unfold lH ba;simp only[ByteArray.size,BW,Wo]
def Ra(d):lH d 0=kq:=by unfold lH ba;rw[KU]
theorem MO(f n:Nat)(a:fP)(d:fq->Prop)(w:fq)(J:1<=n)(K:n<=256)(L:a.size<=256)
  (r:ik 181 #[ie f] w λe H=>e=pD #[hh a,fY 0]/\d H)
  (g:∀O,d O->f<O.heap.size/\(∃x y z,O.c f 0=fh x/\O.c f 1=fh y/\O.c f 2=fh z)/\∀s,O.frozen? (ii f s)=fo):
  ik 203 #[ie f,fY (n:Int)] w λe H=>e=fF (fY 0)/\∃O w2,d O/\ju O w2/\H=mY w2 f (lH a n):=by
 obtain⟨m,b⟩:∃m:Nat,Nat.min a.size n=m:=⟨_,fX⟩;have M:m<=n:=by rw[<-b];exact hPa _ _
 have⟨t,U,u,v,A⟩:=kC hac;obtain⟨h,c⟩:=ol ((vg a.data.toList n).take n:List UInt8);have B:fv h=n:=by rw[c,Wo]
 change fe _ at c b g
 go_enter func203,ntmps203;go_wp2_with(first
  |(go_at_call 181;refine r.via λO i=>?_;have j:fe _:=i;clear i)
  |(at_make;go_loud(refine cmn _ fX _ _ 204 fX 0 5 t _ 1 underlying204 U u v .i64 .i64 _ _ n fX fX fX fX ?_ ?_ (zt _) ?_;go_must(rw[A];omega);go_must(unfold maxLen;omega);intro C k l;have⟨D,E,o⟩:=FK k;have F:fe (ju O C):=oZ (mi _ _) l;clear k l))
  |(refine MN fX (.tmp 22) (.tmp 23) 204 9 fX 5 underlying204 LB O.heap.size 0 n n m a fX fX D 5 E b ?_ (Lib.byteCells h).toArray ?_ ?_;go_must(rw[<-oW,o.o,hBg,Rp];omega);go_must(rw[o.o,c.o];exact hts (by rw[<-Cg];exact b));intro G I p;have q:=zT F p;clear p)
  |(go_at_call 212;go_loud(rw[<-B];refine(Vz _ q (g _ j) I).mono ?_;rintro e N ⟨rfl,rfl⟩)))
 go_ret;exact⟨fX,O,G,j,q,by unfold lH ba;rw[<-c.o]⟩
theorem htu(a:jy N w s i p B A g I t)(au:I+1000<1099511627776)(o:g.fs.brk=fo)(U:gB A t)(P:kr A g.fl g.op t E data rest)(ab:fv data<=1000000000)(Sb:Nat)(n z:Int):
  IL s i p B A N w g I E data rest 100 101 [fY n,fY z] Sb:=by
 have C:=P;obtain⟨⟨D,hs,more,rfl,j⟩,ac⟩:=P;have⟨av,c0,ad⟩:=a.ws;have F:∀{H:fq},H=w->ju w H:=λe=>by rw[e];exact mi _ _
 rcases j.used n with⟨ae,af⟩|⟨k,b,f,fg,aw,Q,rfl,G,J⟩
 exact IL.same a o U C 3 fX ((abs ad af z).mono λe H⟨c,q⟩=>⟨c,F q⟩) λh=>MG h j.h8 n z ae;have⟨⟨y,l⟩,u,_⟩:=a.fg G;have⟨v,R,c1,_⟩:=gZ a.inv G;have⟨_,r,_⟩:=Hp u;have ws:∀{S:Int}{T:fq->Prop},(ik 164 #[ie b,fY z] w λe H=>e=fF (fY S)/\T H)->ik 100 #[ie B.wb,fY (k:Int),fY z] w λe H=>e=fF (fY S)/\T H:=λag=>adc B.wb k b z _ _ w (a.cell Q G) Q ag;by_cases V:z<0\/256<z;exact IL.same a o U C 2 fX ((ws<|DW z v c1 (.inl ⟨V,fX⟩)).mono λe H⟨c,q⟩=>⟨c,F q⟩) λh=>DX h j.h8 J u<|.inl ⟨V,fX⟩;cases x:ma fg 2 with
 |false=>
  exact IL.same a o U C 12 fX ((ws<|DW z v c1 (.inr ⟨by omega,by omega,by rw[r,x];rfl,fX⟩)).mono λe H⟨c,q⟩=>⟨c,F q⟩) λh=>DX h j.h8 J u (.inr ⟨by omega,by omega,x,fX⟩)
 |true=>
  have W:(bits BinOp.and IntKind.i64 fg 2==0)=fo:=by rw[r,x];rfl
  obtain⟨m,rfl⟩:∃m:Nat,z=(m:Int):=⟨z.toNat,by omega⟩;have⟨ax,X,ah,K⟩:=CX a o l;have Y:=j.cont f (by rw[l];simp);obtain⟨d,ai⟩:=ol<|gz A g.fl f;rw[<-ai]at X K Y;refine⟨0,data.set (D f)<|lH d m,xf hs++more,fX,by simp,fX,?_,λh=>?_⟩
  rotate_left
  have⟨na,nc,da,dc,h⟩:=h;exact(UQ h j.h8 J Y u K x (by omega) ab).mono λe H⟨c,aj,ak⟩=>⟨c,xW aj ak⟩;have L:kr A (pC g.fl f<|fh (0,lH d m)) g.op t E (data.set (D f)<|lH d m) (xf hs++more):=⟨⟨D,hs,more,fX,j.write (f:=f) (by rw[l];simp)<|lH d m⟩,ac.len<|by simp⟩;by_cases al:m=0;subst al;rw[Ra]at L |-;refine(ws<|Hs b f fg _ 0 _ w v R c1 W (by omega) (by omega) (ML f _ w<|CI a.inv l)).mono ?_;rintro e H ⟨c,am,an⟩;exact⟨c,pU (fs':=g.fs) (op':=g.op) a U (am.mono Pk) an (by omega) (a.fl.write f _) o (b6.Next.refl _) L⟩;have Z:=ri a.inv (by omega) a.fl l;rw[X]at Z;refine(ws<|Hs b f fg _ 0 _ w v R c1 W (by omega) (by omega) (MO f m d _ w (by omega) (by omega) K Z λO ao=>?_)).mono ?_;have⟨ap,aa,M⟩:=ao;exact Gh M l;rintro e H ⟨c,O,w2,⟨ap,aa,M⟩,r,rfl⟩;have⟨aq,ar⟩:=(M.below r).Gd l (d:=lH d m) (by rw[QZ];omega);exact⟨c,pU (op':=g.op) a U ((aa.mono λ_ a=>a.mine).trans<|(fI.fJ r).trans (aq.mono Pk)) ar (by omega) (a.fl.write f _) o ah L⟩
