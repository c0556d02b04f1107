/- A part of the proof. -/
import Derived.Test.YtlgidcmmgohagaaGreatAllM07
set_option linter.all false
namespace Go.Proofs.YtlgidcmmgohagaaGreat
open Go.RowKit Go.Sort Go.Shelf Go.Proofs.Tryz
open Go.Value renaming slice->fy,string->fA,pointer->fB,tuple->fC,agg->fD,bool->fE
open Go.Ending renaming returned->fF
open Option renaming some->fh,none->fj
open Bool renaming true->fm,false->fo
open Go renaming World->fq,Value->fu
open List renaming length->fv,reverse->fx
open Go.RowKit renaming Hid->fe
set_option maxRecDepth 100000
set_option maxHeartbeats 0
variable {E:List fV}
variable {F:Nat->Prop}{w:fq}{S nc dc:Nat}{na da:iD}{E:List fV}{data:fQ}{rest:gX}
def po (a t:fO)(e:fV):fV:=if(e.1.toList==a.toList)=fm\/Do e.1 a=fm then(t++e.1.extract a.size e.1.size,e.2.1,e.2.2)else e
def iG (a:fO)(n m:Nat)(e:fV):Bool:=Do e.1 a&&decide (5<((jz e.1).1.length:Int)-(n:Int)+(m:Int))
def zt (E:List fV)(a t:fO):List fV×Int:=
 if(jz a).2=fo\/(jz t).2=fo then(E,1)
 else if(jz a).1.length=0\/(jz t).1.length=0 then(E,9)
 else if ig E (jz a).1≠0 then(E,ig E (jz a).1)
 else if Do t a=fm then(E,9)
 else if xu E (jz t).1≠0 then(E,xu E (jz t).1)
 else if(a.toList==t.toList)=fm then(E,0)
 else if ol E t=2/\ol E a=1 then(E,7)
 else if ol E t=1/\ol E a=2 then(E,5)
 else if ol E t=2/\0<fv (fU E t) then(E,8)
 else if ol E t=0/\16<=fv (fU E<|fG ((jz t).1.take<|(jz t).1.length-1))/\wl a (fG<|(jz t).1.take ((jz t).1.length-1))=fo then(E,11)
 else if(E.any<|iG a (jz a).1.length (jz t).1.length)=fm then(E,11)
 else((vx E t).map<|po a t,0)
def FJ{b:fV->Bool}(d:∀a(c:a<fv E),b E[a]=fo):E.any b=fo:=by
 rw[List.any_eq_false];intro x e;obtain⟨a,c,rfl⟩:=rI e;rw[d a c];decide
def XE{data}(a:qE E data)(b):fv (vx E b)<=1000000000/\∀e∈vx E b,e.1.size<=2097152:=by
 refine⟨ww (List.length_filter_le _ _) a.big,λe c=>a.small e (Ax.1 c).1⟩
def SB{b t}(a:Do b t=fm):t.size+1<b.size:=by
 unfold Do at a;split at a
 assumption
 cases a
def Ox(b:gm F w S na da nc dc E data rest)(bD:qE E data)(a t:fO)(dq:a.size<=1048576)(dr:t.size<=1048576):
  ik 97 #[ii S,hZ a,hZ t] w λe J=>e=fF (fY (zt E a t).2)/\gl (kB F w J) J S (zt E a t).1 data rest/\fH F w J:=by
 have⟨aH,U,aI,aJ,aK⟩:=kM uJ;have aw:fe _:=kY a w (by omega);have ax:fe (∀aL,_):=λaL=>kY t aL (by omega);have bE:fe (gm F w S na da nc dc E data rest):=b;have u:fe (qE E data):=bD;have p:fe (∀J,ju w J->gl (kB F w J) J S E data rest/\fH F w J):=λJ bF=>⟨gl.below ⟨na,nc,da,dc,b⟩ bF,fH.fK bF⟩;obtain⟨f,z⟩:=oX<|zt E a t;rw[<-z];have aM:=jK a;have aN:=jK t;have aO:(jz a).2=fm->(jz a).1.length<=5:=jL;have aP:(jz t).2=fm->(jz t).1.length<=5:=jL;have bG:=uG a;have bH:=uG t;unfold zt at z;obtain⟨W,aQ⟩:=oX<|(jz a).1;obtain⟨v,aR⟩:=oX<|(jz t).1;obtain⟨cf,bI⟩:=oX<|(jz a).2;obtain⟨cg,bJ⟩:=oX<|(jz t).2;rw[<-aQ,<-bI]at aw z aO;rw[<-aR,<-bJ]at ax z aP;rw[<-aQ]at aM bG;rw[<-aR]at aN bH;have ch:fe (∀x∈W,x.size<=12):=aM;have ci:fe (∀x∈v,x.size<=12):=aN;obtain⟨C,aS⟩:=oX<|fG (v.take<|fv v-1);rw[<-aS]at z;have cj:fe (C=fG (v.take<|fv v-1)):=aS;obtain⟨n,aT⟩:=oX<|fv W;obtain⟨m,aU⟩:=oX<|fv v;rw[<-aT]at aw z aO bG;rw[<-aU]at ax z aP bH;have ds:fe (n=fv W):=aT;have dt:fe (m=fv v):=aU;have g:fe (f=_):=z;clear b bD z aM aN aQ aR bI bJ aS aT aU;go_enter func97,ntmps97;go_wp2_with fail;apply Ps aw.o;rintro _ aL ⟨du,rfl,ay,aV⟩;obtain⟨aW,bK,rfl⟩:=pp ay;have ck:=nM ay;have bL:fe _:=ay;clear ay;go_wp2_with fail;apply Ps<|ax.o _;rintro _ h ⟨dv,rfl,az,aX⟩;obtain⟨aY,bM,rfl⟩:=pp az;have cl:=nM az;have q:ju w h:=aV.trans<|aX.mono aV.size;have cm:fe (lC h aW n W):=(WF bL.o).below aX;have cn:fe (lC h aY m v):=WF az;have X:fe (gm F h S na da nc dc E data rest):=bE.o.below q;have bN:=q.size;clear az bL aw ax aV aX;cases cf with
 |false=>
  have d:fe (f=(E,1)):=Hc<|by rw[g.o,lv<|Or.inl fX]
  go_wp2;go_ret;rw[d.o];exact⟨fX,p.o _ q⟩
 |true=>
 cases cg with
 |false=>
  have d:fe (f=(E,1)):=Hc<|by rw[g.o,lv<|Or.inr fX]
  go_wp2;go_ret;rw[d.o];exact⟨fX,p.o _ q⟩
 |true=>
 have c0:¬((fm:Bool)=fo\/(fm:Bool)=fo):=by decide
 have N:fe (¬((fm:Bool)=fo\/(fm:Bool)=fo)):=c0;have hn5:n<=5:=aO fX;have dw:m<=5:=aP fX;clear c0;by_cases Y:n=0
 ·have d:fe (f=(E,9)):=Hc<|by rw[g.o,km N.o,lv<|Or.inl Y]
  obtain rfl:=Y;go_wp2;go_ret;rw[d.o];exact⟨fX,p.o _ q⟩
 by_cases ak:m=0
 ·have d:fe (f=(E,9)):=Hc<|by rw[g.o,km N.o,lv<|Or.inr ak]
  have cp:((n:Int)==0)=fo:=by simp[Y]
  obtain rfl:=ak;go_wp2;go_ret;rw[d.o];exact⟨fX,p.o _ q⟩
 have cp:((n:Int)==0)=fo:=by simp[Y]
 have dx:((m:Int)==0)=fo:=by simp[ak]
 have al:fe (¬(n=0\/m=0)):=λb=>b.elim Y ak;have cq:0<m:=by omega
 obtain⟨Z,aZ⟩:=oX<|ig E W;obtain⟨aa,bb⟩:=oX<|xu E v;obtain⟨am,bc⟩:=oX<|ol E a;obtain⟨O,bd⟩:=oX<|ol E t;obtain⟨be,bf⟩:=oX<|fv (fU E t);obtain⟨ip,bg⟩:=oX<|fv (fU E C);obtain⟨un,bh⟩:=oX<|Do t a;obtain⟨bi,bj⟩:=oX<|wl a C;obtain⟨bO,ab⟩:=oX<|(a.toList==t.toList);rw[<-aZ,<-bb,<-bc,<-bd,<-bf,<-bg,<-bh,<-bj,<-ab]at g;have bQ:fe (ik 153 #[ii S,fy aW n bK] h<|UV (fY Z) h):=by rw[aZ];exact Bk X.o aW n bK W cm.o ch.o (by omega) ck u.o.big
 have cr:fe (ik 161 #[hZ t,hZ a] h<|UV (fE un) h):=by rw[bh];exact uI t a h (by omega)<|by omega
 have ct:fe (ik 158 #[ii S,fy aY m bM] h<|UV (fC #[hZ C,fY aa]) h):=by rw[bb,cj.o];exact Sy X.o u.o aY m bM v cn.o ci.o (by omega) cq cl
 have cu:fe (ik 155 #[ii S,hZ a] h<|UV (fY am) h):=by rw[bc];exact pN X.o a u.o.big
 have cv:fe (ik 155 #[ii S,hZ t] h<|UV (fY O) h):=by rw[bd];exact pN X.o t u.o.big
 have cw:fe (ik 154 #[ii S,hZ t] h<|vd (fY (be:Int)) h):=by rw[bf];exact uH X.o u.o t
 have cx:fe (∀an,ju h an->ik 154 #[ii S,hZ C] an (vd (fY (ip:Int)) an)):=λan ac=>by rw[bg];exact uH (X.o.below ac) u.o C
 have cy:fe (∀ao,ik 162 #[hZ a,hZ C] ao<|vd (fE bi) ao):=λao=>by rw[bj];exact Dk a C ao<|by omega
 have dy:fe (bO=(a.toList==t.toList)):=ab;clear aZ bb bc bd bf bg bh bj Y ak;by_cases ad:Z=0
 case neg=>
  have d:fe (f=(E,Z)):=Hc<|by rw[g.o,km N.o,km al.o,lv ad]
  have cz:(Z != 0)=fm:=by simp[ad]
  clear ad;go_wp2_with fail;refine tB bQ.o ?_;go_wp2;go_ret;rw[d.o];exact⟨fX,p.o _ q⟩
 have aA:fe (¬Z≠0):=λb=>b ad;have cz:(Z != 0)=fo:=by simp[ad]
 clear ad;go_wp2_with fail;refine tB bQ.o ?_;go_wp2_with fail;refine tB cr.o ?_;cases un with
 |true=>
  have d:fe (f=(E,9)):=Hc<|by rw[g.o,km N.o,km al.o,km aA.o,lv fX]
  go_wp2;go_ret;rw[d.o];exact⟨fX,p.o _ q⟩
 |false=>
 have bk:fe (¬(fo:Bool)=fm):=λb=>Bool.noConfusion b;go_wp2_with fail;refine tB ct.o ?_;by_cases ae:aa=0
 case neg=>
  have d:fe (f=(E,aa)):=Hc<|by rw[g.o,km N.o,km al.o,km aA.o,km bk.o,lv ae]
  have cA:(aa != 0)=fm:=by simp[ae]
  clear ae;go_wp2;go_ret;rw[d.o];exact⟨fX,p.o _ q⟩
 have bR:fe (¬aa≠0):=λb=>b ae;have cA:(aa != 0)=fo:=by simp[ae]
 clear ae;cases bO with
 |true=>
  have d:fe (f=(E,0)):=Hc<|by rw[g.o,km N.o,km al.o,km aA.o,km bk.o,km bR.o,lv fX]
  have cC:(a.toList==t.toList)=fm:=ab.symm;clear ab;go_wp2;go_ret;rw[d.o];exact⟨fX,p.o _ q⟩
 |false=>
 have cC:(a.toList==t.toList)=fo:=ab.symm;clear ab;go_wp2_with fail;refine tB cu.o ?_;go_wp2_with fail;refine tB cv.o ?_;go_wp2_with fail;refine Hk cw.o λan ac=>?_;go_wp2_with fail;refine Hk (cx.o _ ac) λao bl=>?_;go_wp2_with fail;refine Hk (cy.o _) λaB bm=>?_;have bS:=ac.size;have dz:=bl.size;have dA:=bm.size;have cD:fe (¬(fo:Bool)=fm):=λb=>Bool.noConfusion b;have aC:ju w aB:=q.trans<|((ac.trans<|bl.mono bS).trans (bm.mono<|by omega)).mono bN;rw[km N.o,km al.o,km aA.o,km bk.o,km bR.o,km cD.o]at g;by_cases t2:O=2
 case' pos=>
  subst t2;by_cases f1:am=1
  ·have d:fe (f=(E,7)):=Hc<|by rw[g.o,lv ⟨fX,f1⟩]
   subst f1;go_wp2;go_ret;rw[d.o];exact⟨fX,p.o _ aC⟩
  have dB:(am==1)=fo:=by simpa using f1
  by_cases bn:0<be
  ·have d:fe (f=(E,8)):=Hc<|by rw[g.o,km λb=>f1 b.2,km λb=>absurd b.1<|by decide,lv ⟨fX,bn⟩]
   clear f1;go_wp2;go_ret;rw[d.o];exact⟨fX,p.o _ aC⟩
  obtain rfl:be=0:=by omega
  have af:fe (f=if(E.any<|iG a n m)=fm then(E,11) else((vx E t).map<|po a t,0)):=Hc<|by rw[g.o,km λb=>f1 b.2,km λb=>absurd b.1<|by decide,km λb=>bn b.2,km λb=>absurd b.1<|by decide]
  clear f1 bn
 case' neg=>
  have dC:(O==2)=fo:=by simpa using t2
  by_cases t1:O=1
  case' pos=>
   subst t1;by_cases f2:am=2
   ·have d:fe (f=(E,5)):=Hc<|by rw[g.o,km λb=>t2 b.1,lv ⟨fX,f2⟩]
    subst f2;go_wp2;go_ret;rw[d.o];exact⟨fX,p.o _ aC⟩
   have dD:(am==2)=fo:=by simpa using f2
   have af:fe (f=if(E.any<|iG a n m)=fm then(E,11) else((vx E t).map<|po a t,0)):=Hc<|by rw[g.o,km λb=>t2 b.1,km λb=>f2 b.2,km λb=>t2 b.1,km λb=>absurd b.1<|by decide]
   clear f2 t2
  case' neg=>
   have dE:(O==1)=fo:=by simpa using t1
   by_cases t0:O=0
   case' neg=>
    have dF:(O==0)=fo:=by simpa using t0
    have af:fe (f=if(E.any<|iG a n m)=fm then(E,11) else((vx E t).map<|po a t,0)):=Hc<|by rw[g.o,km λb=>t2 b.1,km λb=>t1 b.1,km λb=>t2 b.1,km λb=>t0 b.1]
    clear t2 t1 t0
   case' pos=>
    subst t0;by_cases bT:16<=ip
    case' pos=>
     have cE:(16:Int)<=(ip:Int):=(by omega);by_cases bo:bi=fm
     case' neg=>
      obtain rfl:bi=fo:=by simpa using bo
      clear bo;have d:fe (f=(E,11)):=Hc<|by rw[g.o,km λb=>t2 b.1,km λb=>t1 b.1,km λb=>t2 b.1,lv ⟨fX,bT,fX⟩]
      clear t2 t1;go_wp2;go_ret;rw[d.o];exact⟨fX,p.o _ aC⟩
     subst bo;have af:fe (f=if(E.any<|iG a n m)=fm then(E,11) else((vx E t).map<|po a t,0)):=Hc<|by rw[g.o,km λb=>t2 b.1,km λb=>t1 b.1,km λb=>t2 b.1,km λb=>Bool.noConfusion b.2.2]
     clear t2 t1
    case' neg=>
     have cE:decide ((16:Int)<=(ip:Int))=fo:=yv (by omega);have af:fe (f=if(E.any<|iG a n m)=fm then(E,11) else((vx E t).map<|po a t,0)):=Hc<|by rw[g.o,km λb=>t2 b.1,km λb=>t1 b.1,km λb=>t2 b.1,km λb=>bT b.2.1]
     clear t2 t1
 all_goals
  have ap:ju w aB:=q.trans<|((ac.trans<|bl.mono bS).trans (bm.mono<|by omega)).mono bN;have cF:fe (gm F aB S na da nc dc E data rest):=bE.o.below ap;obtain⟨P,bp⟩:=oX<|fv E;have dG:P<=1000000000:=by rw[bp];exact u.o.big
  have bq:fe (P=fv E):=bp;clear bp;go_wp2
  go_loopw [18] (λi wr=>∃k:Nat,k<=P/\i=.int .i64 (k:Int)/\ju aB wr/\fe (∀r(Q:r<fv E),r<k->iG a n m E[r]=fo)) (λi _=>P-(intOf i).toNat)
  case atStart=>exact⟨0,Fr _,rfl,mi _ _,λr Q b=>by omega⟩
  case round=>
   obtain⟨k,dH,rfl,hbr,br⟩:=hrel;have j:=cF.o.below hbr;have bs:=j.c0;have cG:=j.lt;rw[<-bq.o]at bs;have bU:=hbr.size;by_cases cH:k<P
   ·have A:k<fv E:=by rw[<-bq.o];exact cH
    have y:=j.lU;have⟨cI,cJ,ag⟩:=hh y (by omega);have bt:=(lK ag).1;subst bt;have⟨c0,_,_⟩:=lr (off:=0) (ks y) A;rw[iR]at c0;have cK:=gc y fX;have R:=u.o.small _<|kK A;obtain⟨x,D⟩:=oX<|E[k];rw[<-D]at c0 R;have T:fe (x=E[k]):=D;have cL:(k:Int)<(P:Int):=by omega
    cases l:Do x.1 a with
    |false=>
     have B:fe (ik 161 #[hZ x.1,hZ a] wr<|UV (fE fo) wr):=by rw[<-l];exact uI x.1 a wr R<|by omega
     have bu:fe (iG a n m x=fo):=Hc<|by unfold iG;rw[l];rfl
     clear ag y j D l;go_wp2_with fail;refine tB B.o ?_;go_wp2;go_roundw
     case rel=>
      refine⟨k+1,by omega,by go_num,hbr,λr Q cN=>?_⟩;by_cases e:r=k;subst e;rw[<-T.o];exact bu.o;exact br.o r Q<|by omega
     case measure=>simp[intOf];omega
    |true=>
     have B:fe (ik 161 #[hZ x.1,hZ a] wr<|UV (fE fm) wr):=by rw[<-l];exact uI x.1 a wr R<|by omega
     have bv:fe _:=kY x.1 wr R;obtain⟨sl,bw⟩:=oX<|(jz x.1).1.length;have dI:sl<=2097153:=by have:=uG x.1;omega
     have bV:fe (iG a n m x=decide (5<(sl:Int)-(n:Int)+(m:Int))):=Hc<|by unfold iG;rw[l,bw];rfl
     rw[<-bw]at bv;clear ag y j D l bw;by_cases bW:5<(sl:Int)-(n:Int)+(m:Int)
     ·have d:fe (f=(E,11)):=by
       show _=_;rw[af.o,lv];rw[iff];exact⟨E[k],kK A,by rw[<-T.o,bV.o];exact iE bW⟩
      go_wp2_with fail;refine tB B.o ?_;go_wp2_with fail;apply Ps bv.o;rintro _ aD ⟨cO,rfl,aq,bx⟩;obtain⟨cQ,cS,rfl⟩:=pp aq;clear aq;go_wp2;go_ret;rw[d.o];exact⟨fX,p.o _<|ap.trans ((hbr.trans<|bx.mono bU).mono ap.size)⟩
     have cT:decide (5<(sl:Int)-(n:Int)+(m:Int))=fo:=yv bW;have bu:fe (iG a n m x=fo):=Hc<|by rw[bV.o];exact cT
     go_wp2_with fail;refine tB B.o ?_;go_wp2_with fail;apply Ps bv.o;rintro _ aD ⟨cO,rfl,aq,bx⟩;obtain⟨cQ,cS,rfl⟩:=pp aq;clear aq;go_wp2;go_roundw
     case rel=>
      refine⟨k+1,by omega,by go_num,hbr.trans<|bx.mono bU,λr Q cN=>?_⟩;by_cases e:r=k;subst e;rw[<-T.o];exact bu.o;exact br.o r Q<|by omega
     case measure=>simp[intOf];omega
   have dJ:decide ((k:Int)<(P:Int))=fo:=yv (by omega);have d:fe (f=((vx E t).map<|po a t,0)):=by
    show _=_;rw[af.o,km];rw[FJ λr Q=>br.o r Q (by have:=bq.o;omega)];decide
   have bX:fe _:=Ot j u.o t (by omega);have bY:ju w wr:=ap.trans<|hbr.mono ap.size;rename fq=>aD;have dK:=bY.size;clear j;go_wp2_with fail;refine Hk bX.o λo⟨⟨cU,cV,cW,cX,bz⟩,bZ⟩=>?_;obtain⟨M,ca⟩:=oX<|vx E t;have aE:=XE u.o t;rw[<-ca]at bz aE d;have cY:fe (∀e∈M,e.1.size<=2097152):=aE.2;have cb:fe (gm (kB F aD o) o S cU cW cV cX M data rest):=bz;have cc:fe (fH F aD o):=bZ;obtain⟨V,bA⟩:=oX<|fv M;have dL:V<=1000000000:=by rw[bA];exact aE.1
   have aF:fe (V=fv M):=bA;clear bz bZ ca aE bA bX;go_wp2
   go_loopw [22,23] (λcZ i wr=>∃(c:Nat) (ah:iD) (co:Nat),c<=V/\i=.int .i64 (c:Int)/\cZ=fy ah c co/\ju o wr/\fe (wr.ownsRow o.heap.size 200 3 (fy ah c co) c<|flat ((M.take c).map<|po a t))) (λ_ i _=>V-(intOf i).toNat)
   case atStart=>exact⟨0,fj,0,Fr _,rfl,rfl,mi _ _,jY _ _ _ _⟩
   case round=>
    obtain⟨c,ah,co,dM,rfl,rfl,ai,G⟩:=hrel;have j:=cb.o.below ai;have bs:=j.c0;have cG:=j.lt;rw[<-aF.o]at bs;have bB:=ai.size;by_cases db:c<V
    ·have A:c<fv M:=by rw[<-aF.o];exact db
     have y:=j.lU;have⟨cI,cJ,ag⟩:=hh y (by omega);have bt:=(lK ag).1;subst bt;have⟨c0,c1,c2⟩:=lr (off:=0) (ks y) A;rw[iR]at c0 c1 c2;have cK:=gc y fX;have R:=cY.o _<|kK A;obtain⟨x,D⟩:=oX<|M[c];rw[<-D]at c0 c1 c2 R;have T:fe (x=M[c]):=D;have cL:(c:Int)<(V:Int):=by omega
     have B:fe (∀aG,ik 161 #[hZ x.1,hZ a] aG<|UV (fE<|Do x.1 a) aG):=λaG=>uI x.1 a aG R (by omega);clear ag y j D;rename fq=>aj;cases bC:(x.1.toList==a.toList) with
     |true=>
      have ar:fe (po a t x=(t++x.1.extract a.size x.1.size,x.2.1,x.2.2)):=Hc<|by unfold po;rw[lv<|Or.inl bC]
      have dd:a.size<=x.1.size:=by
       have:=congrArg List.length<|eq_of_beq bC
       simp only[Av,pq]at this;exact EL this.symm
      have de:(a.size:Int)<=(x.1.size:Int):=(by omega);go_wp2_with(at_builtin;refine yO _ fX (.tmp 188) (.tmp 190) 174 fX o.heap.size 200 aH _ 3 32 underlying174 U aI aJ aK fX (by decide) _ _ _ fX ((G.o.alloc _).alloc _) (ie (aj.heap.size+1) 0) 1 1 (pB (t++x.1.extract a.size x.1.size,x.2.1,x.2.2)) fX fX (ub (aj.alloc _) (t++x.1.extract a.size x.1.size,x.2.1,x.2.2) _ _<|by simp) (se _) (by unfold maxLen;omega) (by omega) (by simp;omega) ?_);intro cd H s I _;have au:ju o H:=Hm ((ai.alloc bB _).alloc (by simp;omega) _) (by simp;omega) ((G.o.alloc _).alloc _) I;obtain⟨K,L,rfl⟩:=pp s;have av:fe (H.ownsRow o.heap.size 200 3 (fy K (c+1) L) (c+1)<|flat ((M.take<|c+1).map<|po a t)):=by
       show World.ownsRow _ _ _ _ _ _ _;rw[vv A,nZ,lM,Cf,ra,tz,<-T.o,ar.o,Wx];exact s
      clear s I;go_wp2;go_roundw
      case rel=>exact⟨c+1,K,L,by omega,by go_num,rfl,au,av.o⟩
      case measure=>simp[intOf];omega
     |false=>
      cases l:Do x.1 a with
      |true=>
       have ar:fe (po a t x=(t++x.1.extract a.size x.1.size,x.2.1,x.2.2)):=Hc<|by unfold po;rw[lv<|Or.inr l]
       have dd:a.size<=x.1.size:=by have:=SB l;omega
       have de:(a.size:Int)<=(x.1.size:Int):=(by omega);rw[l]at B;clear l;go_wp2_with fail;refine tB (B.o _) ?_;go_wp2_with(at_builtin;refine yO _ fX (.tmp 188) (.tmp 190) 174 fX o.heap.size 200 aH _ 3 32 underlying174 U aI aJ aK fX (by decide) _ _ _ fX ((G.o.alloc _).alloc _) (ie (aj.heap.size+1) 0) 1 1 (pB (t++x.1.extract a.size x.1.size,x.2.1,x.2.2)) fX fX (ub (aj.alloc _) (t++x.1.extract a.size x.1.size,x.2.1,x.2.2) _ _<|by simp) (se _) (by unfold maxLen;omega) (by omega) (by simp;omega) ?_);intro cd H s I _;have au:ju o H:=Hm ((ai.alloc bB _).alloc (by simp;omega) _) (by simp;omega) ((G.o.alloc _).alloc _) I;obtain⟨K,L,rfl⟩:=pp s;have av:fe (H.ownsRow o.heap.size 200 3 (fy K (c+1) L) (c+1)<|flat ((M.take<|c+1).map<|po a t)):=by
        show World.ownsRow _ _ _ _ _ _ _;rw[vv A,nZ,lM,Cf,ra,tz,<-T.o,ar.o,Wx];exact s
       clear s I;go_wp2;go_roundw
       case rel=>exact⟨c+1,K,L,by omega,by go_num,rfl,au,av.o⟩
       case measure=>simp[intOf];omega
      |false=>
       have ar:fe (po a t x=x):=Hc<|by unfold po;rw[km (by rw[bC,l];decide)]
       rw[l]at B;clear l;go_wp2_with fail;refine tB (B.o _) ?_;go_wp2_with(at_builtin;refine yO _ fX (.tmp 188) (.tmp 190) 174 fX o.heap.size 200 aH _ 3 32 underlying174 U aI aJ aK fX (by decide) _ _ _ fX ((G.o.alloc _).alloc _) (ie (aj.heap.size+1) 0) 1 1 (pB x) fX fX (ub (aj.alloc _) x _ _<|by simp) (se _) (by unfold maxLen;omega) (by omega) (by simp;omega) ?_);intro cd H s I _;have au:ju o H:=Hm ((ai.alloc bB _).alloc (by simp;omega) _) (by simp;omega) ((G.o.alloc _).alloc _) I;obtain⟨K,L,rfl⟩:=pp s;have av:fe (H.ownsRow o.heap.size 200 3 (fy K (c+1) L) (c+1)<|flat ((M.take<|c+1).map<|po a t)):=by
        show World.ownsRow _ _ _ _ _ _ _;rw[vv A,nZ,lM,Cf,ra,tz,<-T.o,ar.o,Wx];exact s
       clear s I;go_wp2;go_roundw
       case rel=>exact⟨c+1,K,L,by omega,by go_num,rfl,au,av.o⟩
       case measure=>simp[intOf];omega
    have dN:decide ((c:Int)<(V:Int))=fo:=yv (by omega);have df:fe ((M.take c).map (po a t)=M.map (po a t)):=Hc<|by rw[oM (by have:=aF.o;omega)]
    have dg:fe (c=fv (M.map<|po a t)):=Hc<|by rw[oL];have:=aF.o;omega
    rw[df.o]at G;have dO:wr.frozen? (ie S 0)=fo:=by simp[World.frozen?,j.hS]
    have dh:fe (gl (kB F w<|wr.setCell (ie S 0) (fy ah c co)) (wr.setCell (ie S 0)<|fy ah c co) S (M.map<|po a t) data rest/\fH F w (wr.setCell (ie S 0)<|fy ah c co)):=by
     have⟨⟨di,dj,dk,dl,dm⟩,ce⟩:=cb.o.Oq ai dg.o G.o;have dn:=iW cc.o ce;exact⟨⟨di,dj,dk,dl,dm.keep (λdP dp=>by
      rcases nD cc.o.size ce.size dp with b|b
      exact .inl b;exact .inr ⟨by omega,b.2⟩) λ_ _=>rfl⟩,fH.after dn bY⟩
    clear j;go_wp2;go_ret;rw[d.o];exact⟨fX,dh.o⟩
