/- A part of the proof. -/
import Derived.Test.YtlgidcmmgohagaaGreatComM08
set_option linter.all false
namespace Go.Proofs.YtlgidcmmgohagaaGreat
open Go.RowKit Go.Sort Go.Shelf Go.Proofs.Tryz
open Go.Value renaming slice->fy,string->fA,pointer->fB,tuple->fC,agg->fD,bool->fE
open Go.Ending renaming returned->fF
open Option renaming some->fh,none->fj
open Bool renaming true->fm,false->fo
open Go renaming World->fq,Value->fu
open List renaming length->fv,reverse->fx
open Go.RowKit renaming Hid->fe
set_option maxRecDepth 100000
set_option maxHeartbeats 0
variable {E:List fV}
variable {F:Nat->Prop}{w:fq}{S nc dc:Nat}{na da:ig}{E:List fV}{data:fT}{rest:iN}
def pm (a t:fP)(e:fV):fV:=if(e.1.toList==a.toList)=fm\/AC e.1 a=fm then(t++e.1.extract a.size e.1.size,e.2.1,e.2.2)else e
def iA (a:fP)(n m:Nat)(e:fV):Bool:=AC e.1 a&&decide (5<((jz e.1).1.length:Int)-(n:Int)+(m:Int))
def xj (E:List fV)(a t:fP):List fV×Int:=
 if(jz a).2=fo\/(jz t).2=fo then(E,1)
 else if(jz a).1.length=0\/(jz t).1.length=0 then(E,9)
 else if WF E (jz a).1≠0 then(E,WF E (jz a).1)
 else if AC t a=fm then(E,9)
 else if xq E (jz t).1≠0 then(E,xq E (jz t).1)
 else if(a.toList==t.toList)=fm then(E,0)
 else if nz E t=2/\nz E a=1 then(E,7)
 else if nz E t=1/\nz E a=2 then(E,5)
 else if nz E t=2/\0<fv (fU E t) then(E,8)
 else if nz E t=0/\16<=fv (fU E<|fG ((jz t).1.take<|(jz t).1.length-1))/\wn a (fG<|(jz t).1.take ((jz t).1.length-1))=fo then(E,11)
 else if(E.any<|iA a (jz a).1.length (jz t).1.length)=fm then(E,11)
 else((vx E t).map<|pm a t,0)
def FI{b:fV->Bool}(d:∀a(c:a<fv E),b E[a]=fo):E.any b=fo:=by
 rw[List.any_eq_false];intro x e;obtain⟨a,c,rfl⟩:=rD e;rw[d a c];decide
def XK{data}(a:qA E data)(b):fv (vx E b)<=1000000000/\∀e∈vx E b,e.1.size<=2097152:=by
 refine⟨wy (List.length_filter_le _ _) a.big,λe c=>a.small e (zx.1 c).1⟩
def SC{b t}(a:AC b t=fm):t.size+1<b.size:=by
 unfold AC at a;split at a
 assumption
 cases a
def Ow(b:gp F w S na da nc dc E data rest)(bD:qA E data)(a t:fP)(dq:a.size<=1048576)(dr:t.size<=1048576):
  ik 97 #[ie S,hh a,hh t] w λe H=>e=fF (fY (xj E a t).2)/\gi (kA F w H) H S (xj E a t).1 data rest/\fH F w H:=by
 have⟨aI,U,aJ,aK,aL⟩:=kC uD;have ax:fe _:=lp a w (by omega);have ay:fe (∀O,_):=λO=>lp t O (by omega);have bE:fe (gp F w S na da nc dc E data rest):=b;have v:fe (qA E data):=bD;have q:fe (∀H,ju w H->gi (kA F w H) H S E data rest/\fH F w H):=λH bF=>⟨gi.below ⟨na,nc,da,dc,b⟩ bF,fH.fJ bF⟩;obtain⟨f,A⟩:=ol<|xj E a t;rw[<-A];have aM:=jL a;have aN:=jL t;have aO:(jz a).2=fm->(jz a).1.length<=5:=jM;have aP:(jz t).2=fm->(jz t).1.length<=5:=jM;have bG:=uA a;have bH:=uA t;unfold xj at A;obtain⟨X,aQ⟩:=ol<|(jz a).1;obtain⟨y,aR⟩:=ol<|(jz t).1;obtain⟨cf,bI⟩:=ol<|(jz a).2;obtain⟨cg,bJ⟩:=ol<|(jz t).2;rw[<-aQ,<-bI]at ax A aO;rw[<-aR,<-bJ]at ay A aP;rw[<-aQ]at aM bG;rw[<-aR]at aN bH;have ch:fe (∀x∈X,x.size<=12):=aM;have ci:fe (∀x∈y,x.size<=12):=aN;obtain⟨D,aS⟩:=ol<|fG (y.take<|fv y-1);rw[<-aS]at A;have cj:fe (D=fG (y.take<|fv y-1)):=aS;obtain⟨n,aT⟩:=ol<|fv X;obtain⟨m,aU⟩:=ol<|fv y;rw[<-aT]at ax A aO bG;rw[<-aU]at ay A aP bH;have ds:fe (n=fv X):=aT;have dt:fe (m=fv y):=aU;have g:fe (f=_):=A;clear b bD A aM aN aQ aR bI bJ aS aT aU;go_enter func97,ntmps97;go_wp2_with fail;apply RK ax.o;rintro _ O ⟨du,rfl,az,aV⟩;obtain⟨aW,bK,rfl⟩:=po az;have ck:=nM az;have bL:fe _:=az;clear az;go_wp2_with fail;apply RK<|ay.o _;rintro _ h ⟨dv,rfl,aA,aX⟩;obtain⟨aY,bM,rfl⟩:=po aA;have cl:=nM aA;have r:ju w h:=aV.trans<|aX.mono aV.size;have cm:fe (lF h aW n X):=(PQ bL.o).below aX;have cn:fe (lF h aY m y):=PQ aA;have Y:fe (gp F h S na da nc dc E data rest):=bE.o.below r;have bN:=r.size;clear aA bL ax ay aV aX;cases cf with
 |false=>
  have d:fe (f=(E,1)):=Fr<|by rw[g.o,lv<|Or.inl fX]
  go_wp2;go_ret;rw[d.o];exact⟨fX,q.o _ r⟩
 |true=>
 cases cg with
 |false=>
  have d:fe (f=(E,1)):=Fr<|by rw[g.o,lv<|Or.inr fX]
  go_wp2;go_ret;rw[d.o];exact⟨fX,q.o _ r⟩
 |true=>
 have c0:¬((fm:Bool)=fo\/(fm:Bool)=fo):=by decide
 have N:fe (¬((fm:Bool)=fo\/(fm:Bool)=fo)):=c0;have hn5:n<=5:=aO fX;have dw:m<=5:=aP fX;clear c0;by_cases Z:n=0
 ·have d:fe (f=(E,9)):=Fr<|by rw[g.o,km N.o,lv<|Or.inl Z]
  obtain rfl:=Z;go_wp2;go_ret;rw[d.o];exact⟨fX,q.o _ r⟩
 by_cases al:m=0
 ·have d:fe (f=(E,9)):=Fr<|by rw[g.o,km N.o,lv<|Or.inr al]
  have cp:((n:Int)==0)=fo:=by simp[Z]
  obtain rfl:=al;go_wp2;go_ret;rw[d.o];exact⟨fX,q.o _ r⟩
 have cp:((n:Int)==0)=fo:=by simp[Z]
 have dx:((m:Int)==0)=fo:=by simp[al]
 have am:fe (¬(n=0\/m=0)):=λb=>b.elim Z al;have cq:0<m:=by omega
 obtain⟨aa,aZ⟩:=ol<|WF E X;obtain⟨ab,bb⟩:=ol<|xq E y;obtain⟨an,bc⟩:=ol<|nz E a;obtain⟨P,bd⟩:=ol<|nz E t;obtain⟨be,bf⟩:=ol<|fv (fU E t);obtain⟨ip,bg⟩:=ol<|fv (fU E D);obtain⟨un,bh⟩:=ol<|AC t a;obtain⟨bi,bj⟩:=ol<|wn a D;obtain⟨bO,ac⟩:=ol<|(a.toList==t.toList);rw[<-aZ,<-bb,<-bc,<-bd,<-bf,<-bg,<-bh,<-bj,<-ac]at g;have bQ:fe (ik 153 #[ie S,fy aW n bK] h<|PP (fY aa) h):=by rw[aZ];exact Bi Y.o aW n bK X cm.o ch.o (by omega) ck v.o.big
 have cr:fe (ik 161 #[hh t,hh a] h<|PP (fE un) h):=by rw[bh];exact uC t a h (by omega)<|by omega
 have ct:fe (ik 158 #[ie S,fy aY m bM] h<|PP (fC #[hh D,fY ab]) h):=by rw[bb,cj.o];exact Sz Y.o v.o aY m bM y cn.o ci.o (by omega) cq cl
 have cu:fe (ik 155 #[ie S,hh a] h<|PP (fY an) h):=by rw[bc];exact pL Y.o a v.o.big
 have cv:fe (ik 155 #[ie S,hh t] h<|PP (fY P) h):=by rw[bd];exact pL Y.o t v.o.big
 have cw:fe (ik 154 #[ie S,hh t] h<|ut (fY (be:Int)) h):=by rw[bf];exact uB Y.o v.o t
 have cx:fe (∀ao,ju h ao->ik 154 #[ie S,hh D] ao (ut (fY (ip:Int)) ao)):=λao ad=>by rw[bg];exact uB (Y.o.below ad) v.o D
 have cy:fe (∀ap,ik 162 #[hh a,hh D] ap<|ut (fE bi) ap):=λap=>by rw[bj];exact Dk a D ap<|by omega
 have dy:fe (bO=(a.toList==t.toList)):=ac;clear aZ bb bc bd bf bg bh bj Z al;by_cases ae:aa=0
 case neg=>
  have d:fe (f=(E,aa)):=Fr<|by rw[g.o,km N.o,km am.o,lv ae]
  have cz:(aa != 0)=fm:=by simp[ae]
  clear ae;go_wp2_with fail;refine Calls.still bQ.o ?_;go_wp2;go_ret;rw[d.o];exact⟨fX,q.o _ r⟩
 have aB:fe (¬aa≠0):=λb=>b ae;have cz:(aa != 0)=fo:=by simp[ae]
 clear ae;go_wp2_with fail;refine Calls.still bQ.o ?_;go_wp2_with fail;refine Calls.still cr.o ?_;cases un with
 |true=>
  have d:fe (f=(E,9)):=Fr<|by rw[g.o,km N.o,km am.o,km aB.o,lv fX]
  go_wp2;go_ret;rw[d.o];exact⟨fX,q.o _ r⟩
 |false=>
 have bk:fe (¬(fo:Bool)=fm):=λb=>Bool.noConfusion b;go_wp2_with fail;refine Calls.still ct.o ?_;by_cases af:ab=0
 case neg=>
  have d:fe (f=(E,ab)):=Fr<|by rw[g.o,km N.o,km am.o,km aB.o,km bk.o,lv af]
  have cA:(ab != 0)=fm:=by simp[af]
  clear af;go_wp2;go_ret;rw[d.o];exact⟨fX,q.o _ r⟩
 have bR:fe (¬ab≠0):=λb=>b af;have cA:(ab != 0)=fo:=by simp[af]
 clear af;cases bO with
 |true=>
  have d:fe (f=(E,0)):=Fr<|by rw[g.o,km N.o,km am.o,km aB.o,km bk.o,km bR.o,lv fX]
  have cC:(a.toList==t.toList)=fm:=ac.symm;clear ac;go_wp2;go_ret;rw[d.o];exact⟨fX,q.o _ r⟩
 |false=>
 have cC:(a.toList==t.toList)=fo:=ac.symm;clear ac;go_wp2_with fail;refine Calls.still cu.o ?_;go_wp2_with fail;refine Calls.still cv.o ?_;go_wp2_with fail;refine Calls.via cw.o λao ad=>?_;go_wp2_with fail;refine Calls.via (cx.o _ ad) λap bl=>?_;go_wp2_with fail;refine Calls.via (cy.o _) λaC bm=>?_;have bS:=ad.size;have dz:=bl.size;have dA:=bm.size;have cD:fe (¬(fo:Bool)=fm):=λb=>Bool.noConfusion b;have aD:ju w aC:=r.trans<|((ad.trans<|bl.mono bS).trans (bm.mono<|by omega)).mono bN;rw[km N.o,km am.o,km aB.o,km bk.o,km bR.o,km cD.o]at g;by_cases t2:P=2
 case' pos=>
  subst t2;by_cases f1:an=1
  ·have d:fe (f=(E,7)):=Fr<|by rw[g.o,lv ⟨fX,f1⟩]
   subst f1;go_wp2;go_ret;rw[d.o];exact⟨fX,q.o _ aD⟩
  have dB:(an==1)=fo:=by simpa using f1
  by_cases bn:0<be
  ·have d:fe (f=(E,8)):=Fr<|by rw[g.o,km λb=>f1 b.2,km λb=>absurd b.1<|by decide,lv ⟨fX,bn⟩]
   clear f1;go_wp2;go_ret;rw[d.o];exact⟨fX,q.o _ aD⟩
  obtain rfl:be=0:=by omega
  have ag:fe (f=if(E.any<|iA a n m)=fm then(E,11) else((vx E t).map<|pm a t,0)):=Fr<|by rw[g.o,km λb=>f1 b.2,km λb=>absurd b.1<|by decide,km λb=>bn b.2,km λb=>absurd b.1<|by decide]
  clear f1 bn
 case' neg=>
  have dC:(P==2)=fo:=by simpa using t2
  by_cases t1:P=1
  case' pos=>
   subst t1;by_cases f2:an=2
   ·have d:fe (f=(E,5)):=Fr<|by rw[g.o,km λb=>t2 b.1,lv ⟨fX,f2⟩]
    subst f2;go_wp2;go_ret;rw[d.o];exact⟨fX,q.o _ aD⟩
   have dD:(an==2)=fo:=by simpa using f2
   have ag:fe (f=if(E.any<|iA a n m)=fm then(E,11) else((vx E t).map<|pm a t,0)):=Fr<|by rw[g.o,km λb=>t2 b.1,km λb=>f2 b.2,km λb=>t2 b.1,km λb=>absurd b.1<|by decide]
   clear f2 t2
  case' neg=>
   have dE:(P==1)=fo:=by simpa using t1
   by_cases t0:P=0
   case' neg=>
    have dF:(P==0)=fo:=by simpa using t0
    have ag:fe (f=if(E.any<|iA a n m)=fm then(E,11) else((vx E t).map<|pm a t,0)):=Fr<|by rw[g.o,km λb=>t2 b.1,km λb=>t1 b.1,km λb=>t2 b.1,km λb=>t0 b.1]
    clear t2 t1 t0
   case' pos=>
    subst t0;by_cases bT:16<=ip
    case' pos=>
     have cE:(16:Int)<=(ip:Int):=(by omega);by_cases bo:bi=fm
     case' neg=>
      obtain rfl:bi=fo:=by simpa using bo
      clear bo;have d:fe (f=(E,11)):=Fr<|by rw[g.o,km λb=>t2 b.1,km λb=>t1 b.1,km λb=>t2 b.1,lv ⟨fX,bT,fX⟩]
      clear t2 t1;go_wp2;go_ret;rw[d.o];exact⟨fX,q.o _ aD⟩
     subst bo;have ag:fe (f=if(E.any<|iA a n m)=fm then(E,11) else((vx E t).map<|pm a t,0)):=Fr<|by rw[g.o,km λb=>t2 b.1,km λb=>t1 b.1,km λb=>t2 b.1,km λb=>Bool.noConfusion b.2.2]
     clear t2 t1
    case' neg=>
     have cE:decide ((16:Int)<=(ip:Int))=fo:=yv (by omega);have ag:fe (f=if(E.any<|iA a n m)=fm then(E,11) else((vx E t).map<|pm a t,0)):=Fr<|by rw[g.o,km λb=>t2 b.1,km λb=>t1 b.1,km λb=>t2 b.1,km λb=>bT b.2.1]
     clear t2 t1
 all_goals
  have aq:ju w aC:=r.trans<|((ad.trans<|bl.mono bS).trans (bm.mono<|by omega)).mono bN;have cF:fe (gp F aC S na da nc dc E data rest):=bE.o.below aq;obtain⟨Q,bp⟩:=ol<|fv E;have dG:Q<=1000000000:=by rw[bp];exact v.o.big
  have bq:fe (Q=fv E):=bp;clear bp;go_wp2
  go_loopw [18] (λi wr=>∃k:Nat,k<=Q/\i=.int .i64 (k:Int)/\ju aC wr/\fe (∀s(R:s<fv E),s<k->iA a n m E[s]=fo)) (λi _=>Q-(intOf i).toNat)
  case atStart=>exact⟨0,zt _,rfl,mi _ _,λs R b=>by omega⟩
  case round=>
   obtain⟨k,dH,rfl,hbr,br⟩:=hrel;have l:=cF.o.below hbr;have bs:=l.c0;have cG:=l.lt;rw[<-bq.o]at bs;have bU:=hbr.size;by_cases cH:k<Q
   ·have B:k<fv E:=by rw[<-bq.o];exact cH
    have z:=l.lT;have⟨cI,cJ,ah⟩:=hZ z (by omega);have bt:=(lK ah).1;subst bt;have⟨c0,_,_⟩:=lr (off:=0) (ks z) B;rw[iO]at c0;have cK:=gc z fX;have T:=v.o.small _<|kN B;obtain⟨x,G⟩:=ol<|E[k];rw[<-G]at c0 T;have V:fe (x=E[k]):=G;have cL:(k:Int)<(Q:Int):=by omega
    cases o:AC x.1 a with
    |false=>
     have C:fe (ik 161 #[hh x.1,hh a] wr<|PP (fE fo) wr):=by rw[<-o];exact uC x.1 a wr T<|by omega
     have bu:fe (iA a n m x=fo):=Fr<|by unfold iA;rw[o];rfl
     clear ah z l G o;go_wp2_with fail;refine Calls.still C.o ?_;go_wp2;go_roundw
     case rel=>
      refine⟨k+1,by omega,by go_num,hbr,λs R cN=>?_⟩;by_cases e:s=k;subst e;rw[<-V.o];exact bu.o;exact br.o s R<|by omega
     case measure=>simp[intOf];omega
    |true=>
     have C:fe (ik 161 #[hh x.1,hh a] wr<|PP (fE fm) wr):=by rw[<-o];exact uC x.1 a wr T<|by omega
     have bv:fe _:=lp x.1 wr T;obtain⟨sl,bw⟩:=ol<|(jz x.1).1.length;have dI:sl<=2097153:=by have:=uA x.1;omega
     have bV:fe (iA a n m x=decide (5<(sl:Int)-(n:Int)+(m:Int))):=Fr<|by unfold iA;rw[o,bw];rfl
     rw[<-bw]at bv;clear ah z l G o bw;by_cases bW:5<(sl:Int)-(n:Int)+(m:Int)
     ·have d:fe (f=(E,11)):=by
       show _=_;rw[ag.o,lv];rw[hLO];exact⟨E[k],kN B,by rw[<-V.o,bV.o];exact qu bW⟩
      go_wp2_with fail;refine Calls.still C.o ?_;go_wp2_with fail;apply RK bv.o;rintro _ aE ⟨cO,rfl,ar,bx⟩;obtain⟨cQ,cS,rfl⟩:=po ar;clear ar;go_wp2;go_ret;rw[d.o];exact⟨fX,q.o _<|aq.trans ((hbr.trans<|bx.mono bU).mono aq.size)⟩
     have cT:decide (5<(sl:Int)-(n:Int)+(m:Int))=fo:=yv bW;have bu:fe (iA a n m x=fo):=Fr<|by rw[bV.o];exact cT
     go_wp2_with fail;refine Calls.still C.o ?_;go_wp2_with fail;apply RK bv.o;rintro _ aE ⟨cO,rfl,ar,bx⟩;obtain⟨cQ,cS,rfl⟩:=po ar;clear ar;go_wp2;go_roundw
     case rel=>
      refine⟨k+1,by omega,by go_num,hbr.trans<|bx.mono bU,λs R cN=>?_⟩;by_cases e:s=k;subst e;rw[<-V.o];exact bu.o;exact br.o s R<|by omega
     case measure=>simp[intOf];omega
   have dJ:decide ((k:Int)<(Q:Int))=fo:=yv (by omega);have d:fe (f=((vx E t).map<|pm a t,0)):=by
    show _=_;rw[ag.o,km];rw[FI λs R=>br.o s R (by have:=bq.o;omega)];decide
   have bX:fe _:=Oq l v.o t (by omega);have bY:ju w wr:=aq.trans<|hbr.mono aq.size;rename fq=>aE;have dK:=bY.size;clear l;go_wp2_with fail;refine Calls.via bX.o λp⟨⟨cU,cV,cW,cX,bz⟩,bZ⟩=>?_;obtain⟨j,ca⟩:=ol<|vx E t;have aF:=XK v.o t;rw[<-ca]at bz aF d;have cY:fe (∀e∈j,e.1.size<=2097152):=aF.2;have cb:fe (gp (kA F aE p) p S cU cW cV cX j data rest):=bz;have cc:fe (fH F aE p):=bZ;obtain⟨W,bA⟩:=ol<|fv j;have dL:W<=1000000000:=by rw[bA];exact aF.1
   have aG:fe (W=fv j):=bA;clear bz bZ ca aF bA bX;go_wp2
   go_loopw [22,23] (λcZ i wr=>∃(c:Nat) (ai:ig) (co:Nat),c<=W/\i=.int .i64 (c:Int)/\cZ=fy ai c co/\ju p wr/\fe (wr.ownsRow p.heap.size 200 3 (fy ai c co) c<|flat ((j.take c).map<|pm a t))) (λ_ i _=>W-(intOf i).toNat)
   case atStart=>exact⟨0,fj,0,zt _,rfl,rfl,mi _ _,kO _ _ _ _⟩
   case round=>
    obtain⟨c,ai,co,dM,rfl,rfl,aj,I⟩:=hrel;have l:=cb.o.below aj;have bs:=l.c0;have cG:=l.lt;rw[<-aG.o]at bs;have bB:=aj.size;by_cases db:c<W
    ·have B:c<fv j:=by rw[<-aG.o];exact db
     have z:=l.lT;have⟨cI,cJ,ah⟩:=hZ z (by omega);have bt:=(lK ah).1;subst bt;have⟨c0,c1,c2⟩:=lr (off:=0) (ks z) B;rw[iO]at c0 c1 c2;have cK:=gc z fX;have T:=cY.o _<|kN B;obtain⟨x,G⟩:=ol<|j[c];rw[<-G]at c0 c1 c2 T;have V:fe (x=j[c]):=G;have cL:(c:Int)<(W:Int):=by omega
     have C:fe (∀aH,ik 161 #[hh x.1,hh a] aH<|PP (fE<|AC x.1 a) aH):=λaH=>uC x.1 a aH T (by omega);clear ah z l G;rename fq=>ak;cases bC:(x.1.toList==a.toList) with
     |true=>
      have au:fe (pm a t x=(t++x.1.extract a.size x.1.size,x.2.1,x.2.2)):=Fr<|by unfold pm;rw[lv<|Or.inl bC]
      have dd:a.size<=x.1.size:=by
       have:=congrArg List.length<|eq_of_beq bC
       simp only[Au,oW]at this;exact EL this.symm
      have de:(a.size:Int)<=(x.1.size:Int):=(by omega);go_wp2_with(at_builtin;refine yR _ fX (.tmp 188) (.tmp 190) 174 fX p.heap.size 200 aI _ 3 32 underlying174 U aJ aK aL fX (by decide) _ _ _ fX ((I.o.alloc _).alloc _) (ii (ak.heap.size+1) 0) 1 1 (pA (t++x.1.extract a.size x.1.size,x.2.1,x.2.2)) fX fX (tS (ak.alloc _) (t++x.1.extract a.size x.1.size,x.2.1,x.2.2) _ _<|by simp) (rx _) (by unfold maxLen;omega) (by omega) (by simp;omega) ?_);intro cd J u K _;have av:ju p J:=Hb ((aj.alloc bB _).alloc (by simp;omega) _) (by simp;omega) ((I.o.alloc _).alloc _) K;obtain⟨L,M,rfl⟩:=po u;have aw:fe (J.ownsRow p.heap.size 200 3 (fy L (c+1) M) (c+1)<|flat ((j.take<|c+1).map<|pm a t)):=by
       show World.ownsRow _ _ _ _ _ _ _;rw[vk B,nh,lM,Cf,qr,tz,<-V.o,au.o,WD];exact u
      clear u K;go_wp2;go_roundw
      case rel=>exact⟨c+1,L,M,by omega,by go_num,rfl,av,aw.o⟩
      case measure=>simp[intOf];omega
     |false=>
      cases o:AC x.1 a with
      |true=>
       have au:fe (pm a t x=(t++x.1.extract a.size x.1.size,x.2.1,x.2.2)):=Fr<|by unfold pm;rw[lv<|Or.inr o]
       have dd:a.size<=x.1.size:=by have:=SC o;omega
       have de:(a.size:Int)<=(x.1.size:Int):=(by omega);rw[o]at C;clear o;go_wp2_with fail;refine Calls.still (C.o _) ?_;go_wp2_with(at_builtin;refine yR _ fX (.tmp 188) (.tmp 190) 174 fX p.heap.size 200 aI _ 3 32 underlying174 U aJ aK aL fX (by decide) _ _ _ fX ((I.o.alloc _).alloc _) (ii (ak.heap.size+1) 0) 1 1 (pA (t++x.1.extract a.size x.1.size,x.2.1,x.2.2)) fX fX (tS (ak.alloc _) (t++x.1.extract a.size x.1.size,x.2.1,x.2.2) _ _<|by simp) (rx _) (by unfold maxLen;omega) (by omega) (by simp;omega) ?_);intro cd J u K _;have av:ju p J:=Hb ((aj.alloc bB _).alloc (by simp;omega) _) (by simp;omega) ((I.o.alloc _).alloc _) K;obtain⟨L,M,rfl⟩:=po u;have aw:fe (J.ownsRow p.heap.size 200 3 (fy L (c+1) M) (c+1)<|flat ((j.take<|c+1).map<|pm a t)):=by
        show World.ownsRow _ _ _ _ _ _ _;rw[vk B,nh,lM,Cf,qr,tz,<-V.o,au.o,WD];exact u
       clear u K;go_wp2;go_roundw
       case rel=>exact⟨c+1,L,M,by omega,by go_num,rfl,av,aw.o⟩
       case measure=>simp[intOf];omega
      |false=>
       have au:fe (pm a t x=x):=Fr<|by unfold pm;rw[km (by rw[bC,o];decide)]
       rw[o]at C;clear o;go_wp2_with fail;refine Calls.still (C.o _) ?_;go_wp2_with(at_builtin;refine yR _ fX (.tmp 188) (.tmp 190) 174 fX p.heap.size 200 aI _ 3 32 underlying174 U aJ aK aL fX (by decide) _ _ _ fX ((I.o.alloc _).alloc _) (ii (ak.heap.size+1) 0) 1 1 (pA x) fX fX (tS (ak.alloc _) x _ _<|by simp) (rx _) (by unfold maxLen;omega) (by omega) (by simp;omega) ?_);intro cd J u K _;have av:ju p J:=Hb ((aj.alloc bB _).alloc (by simp;omega) _) (by simp;omega) ((I.o.alloc _).alloc _) K;obtain⟨L,M,rfl⟩:=po u;have aw:fe (J.ownsRow p.heap.size 200 3 (fy L (c+1) M) (c+1)<|flat ((j.take<|c+1).map<|pm a t)):=by
        show World.ownsRow _ _ _ _ _ _ _;rw[vk B,nh,lM,Cf,qr,tz,<-V.o,au.o,WD];exact u
       clear u K;go_wp2;go_roundw
       case rel=>exact⟨c+1,L,M,by omega,by go_num,rfl,av,aw.o⟩
       case measure=>simp[intOf];omega
    have dN:decide ((c:Int)<(W:Int))=fo:=yv (by omega);have df:fe ((j.take c).map (pm a t)=j.map (pm a t)):=Fr<|by rw[oJ (by have:=aG.o;omega)]
    have dg:fe (c=fv (j.map<|pm a t)):=Fr<|by rw[oI];have:=aG.o;omega
    rw[df.o]at I;have dO:wr.frozen? (ii S 0)=fo:=by simp[World.frozen?,l.hS]
    have dh:fe (gi (kA F w<|wr.setCell (ii S 0) (fy ai c co)) (wr.setCell (ii S 0)<|fy ai c co) S (j.map<|pm a t) data rest/\fH F w (wr.setCell (ii S 0)<|fy ai c co)):=by
     have⟨⟨di,dj,dk,dl,dm⟩,ce⟩:=cb.o.Oo aj dg.o I.o;have dn:=iW cc.o ce;exact⟨⟨di,dj,dk,dl,dm.keep (λdP dp=>by
      rcases nD cc.o.size ce.size dp with b|b
      exact .inl b;exact .inr ⟨by omega,b.2⟩) λ_ _=>rfl⟩,fH.after dn bY⟩
    clear l;go_wp2;go_ret;rw[d.o];exact⟨fX,dh.o⟩
