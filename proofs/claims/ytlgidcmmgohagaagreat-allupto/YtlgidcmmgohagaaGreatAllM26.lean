/- A part of the proof. -/
import Derived.Test.YtlgidcmmgohagaaGreatAllM25
set_option linter.all false
namespace Go.Proofs.YtlgidcmmgohagaaGreat
open Go.RowKit Go.Sort Go.Shelf Go.Proofs.Tryz
open Go.Value renaming slice->fy,string->fA,pointer->fB,tuple->fC,agg->fD,bool->fE
open Go.Ending renaming returned->fF
open Option renaming some->fh,none->fj
open Bool renaming true->fm,false->fo
open Go renaming World->fq,Value->fu
open List renaming length->fv,reverse->fx
open Go.RowKit renaming Hid->fe
set_option maxRecDepth 100000
set_option maxHeartbeats 0
variable {Sb a b dc f j k m nc:Nat}{F:Nat->Prop}{da na:iD}{hs:List BW}{fl:Fls}{w J w1 w2:fq}{d x:fO}
variable {F:Nat->Prop}{w:fq}{S nc dc s i p I:Nat}{na da:iD}{E:List fV}{data:fQ}{hs:List BW}{more rest:gX}{B:WB}{A:List Ob}{T:gC}{g:WG}{t:LT}
theorem QW(b:gm F w S na da nc dc E data (wn hs++more))(h:fv hs=8){k j a t:Nat}{fg:Int}(f:hs[k]?=fh (fm,(j:Int),fg,(a:Int)))(p:data[j]?=fh d)(l:0<=fg/\fg<=63)(O:a<=256)(P:d.size<=256)(q:ma fg 2=fm)(Q:x.size≠0)(m:(ma fg 32=fm/\t=d.size)\/(ma fg 32=fo/\t=a))(R:256<t+x.size)(T:x.size<=1048576)(z:fv data<=1000000000):
  ik 99 #[ii S,fY (k:Int),hZ x] w (vd (fY 11) w):=by
 have U:=b.lt;have n:fe _:=jH b h (k:Int);rw[mA h f]at n;have r:fe (∀c,ik 159 #[fY fg,fY 2] c<|UV (fE fm) c):=λc=>by have:=mz fg 2 c l ⟨by decide,by decide⟩;rwa [q]at this
 have s:fe _:=λc=>mz fg 32 c l ⟨by decide,by decide⟩;have⟨c0,c1,c2,c3,A⟩:=b.oh f;have B:=(wI.1 f).1;have V:k<8:=by omega
 have t3:(k:Int)<8:=by omega
 have C:fe (gm F w S na da nc dc E data<|wn hs++more):=b;have W:fe (hs[k]?=fh (fm,(j:Int),fg,(a:Int))):=f;have u:fe (data[j]?=fh d):=p;have X:(x.toList==[])=fo:=pP (by omega);have Y:t<=256:=by rcases m with b|b<;>omega
 have Z:256<(t:Int)+(x.size:Int):=by omega
 have y:fe _:=m;clear b f p A q l h B m;go_enter func99,ntmps99;go_wp2_with fail;refine tB n.o ?_;go_wp2_with fail;refine Hk (r.o _) λw1 e=>?_;have o:ju w w1:=by rw[e];exact(mi _ _).alloc (lw _) _
 have aa:w1.c w.heap.size 1=fh (fY (j:Int)):=by rw[e];simp
 have ab:w1.c w.heap.size 2=fh (fY fg):=by rw[e];simp
 have ac:w1.c w.heap.size 3=fh (fY (a:Int)):=by rw[e];simp
 have D:w.heap.size<w1.heap.size:=by rw[e];simp
 have g:=C.o.below o;have G:=g.c1;have⟨ad,H,ae,af,_⟩:=row_one g.jm (i:=j) (v:=fA d) (by simp[gN,u.o]);have ag:=g.lt;have I:j<fv data:=(wI.1 u.o).1;obtain⟨J,K⟩:=oX<|fv data;rw[<-K]at G I z;have ah:(j:Int)<(J:Int):=by omega
 subst H;have ai:fe _:=g;have L:fe _:=o;clear e c0 c1 c2 c3 g o;go_wp2_with fail
 go_region
 go_upto_if 42 with(go_at_call 159;refine tB (s.o _) ?_)
 go_cut [10]from 43 to 44 λv M=>v=.int .i64 (t:Int)/\fe (ju w1 M)
 case first=>
  go_wp2
  all_goals
   go_meet;refine⟨?_,(mi _ _).drew⟩;rcases y.o with b|b<;>first|exact absurd (b.1.symm.trans (by assumption)) (by decide)|rw[b.2]
 case rest=>
  obtain⟨rfl,N⟩:=hcut;clear s r n y;go_wp2;go_ret;exact⟨fX,L.o.trans<|N.o.mono (Ef D)⟩
def lG (d:fO)(m:Nat):fO:=ba<|(vu d.data.toList m).take m
theorem UO(b:gm F w S na da nc dc E data (wn hs++more))(q:fv hs=8){fg a:Int}(f:hs[k]?=fh (fm,(j:Int),fg,a))(l:data[j]?=fh d)(u:0<=fg/\fg<=63)(ac:d.size<=256)(x:ma fg 2=fm)(ad:m<=256)(I:fv data<=1000000000):
  ik 101 #[ii S,fY (k:Int),fY (m:Int)] w λe J=>e=fF (fY 0)/\
   gm F J S na da nc dc E (data.set j<|lG d m) (wn hs++more)/\fH F w J:=by
 have ae:=b.lt;have r:fe _:=jH b q (k:Int);rw[mA q f]at r;have y:fe (∀n,ik 159 #[fY fg,fY 2] n<|UV (fE fm) n):=λn=>by have:=mz fg 2 n u ⟨by decide,by decide⟩;rwa [x]at this
 have⟨c0,c1,c2,c3,K⟩:=b.oh f;have L:=(wI.1 f).1;have af:k<8:=by omega
 have t3:(k:Int)<8:=by omega
 have t0:decide ((m:Int)<0)=fo:=yv (by omega);have t1:decide (256<(m:Int))=fo:=yv (by omega);have z:=b.c1;have M:fe (gm F w S na da nc dc E data<|wn hs++more):=b;have O:fe (hs[k]?=fh (fm,(j:Int),fg,a)):=f;have ag:fe (data[j]?=fh d):=l;have⟨A,P,B,C,_⟩:=row_one b.jm (i:=j) (v:=fA d) (by simp[gN,l]);have D:j<fv data:=(wI.1 l).1;obtain⟨Q,s⟩:=oX<|fv data;rw[<-s]at z D I;have ah:(j:Int)<(Q:Int):=by omega
 subst P;clear b f l K x u q L;go_enter func101,ntmps101;go_wp2_with fail;refine tB r.o ?_;go_wp2_with fail;refine tB (y.o _) ?_;clear r y;go_wp2
 go_region
 go_wp2
 go_loopw [8] (λv wr=>∃e:fO,e.size<=600/\v=fA e/\fe (e=ba (vu d.data.toList e.size)/\d.size<=e.size/\e.size<=max d.size m)/\fe (ju w wr)) (λv _=>600-pdt v)
 case atStart=>exact⟨d,by omega,rfl,⟨by rw[<-jO,yL<|lw _,hts],lw _,Nat.le_max_left _ _⟩,(mi _ _).drew⟩
 case round=>
  obtain⟨e,ai,rfl,t,g⟩:=hrel;by_cases aj:e.size<m
  ·have R:(e.size:Int)<(m:Int):=by omega
   go_wp2;have⟨o,G,T⟩:=t.o;have h:(e++(⟨#[0]⟩:fO)).size=e.size+1:=by rw[Wl];rfl
   refine⟨⟨_,by rw[h];omega,fX,⟨?_,by rw[h];omega,by rw[h];omega⟩,g⟩,by unfold pdt;simp only;rw[h];omega⟩;rw[h,<-QV (by rw[jO];exact G),<-MK,<-o];rfl
  have R:decide ((e.size:Int)<(m:Int))=fo:=yv (by omega);have ak:(m:Int)<=(e.size:Int):=by omega
  have U:fe (lG d m=e.extract 0 m):=by
   have⟨o,G,T⟩:=t.o;show _=_;have V:e=ba (vu d.data.toList m):=by
    by_cases W:m<=d.size;rw[o,show e.size=d.size by omega,yL (by rw[jO];omega),yL (by rw[jO];exact W)];rw[o,show e.size=m by omega]
   unfold lG;rw[V,ML,Eb]
  have c:=M.o.below g.o;have⟨N,al,am,an,X⟩:=c.oh O.o;have Y:=c.c1;rw[<-s]at Y;have ao:=(g.o.cell (p:=(ie A j)) B).trans C;have⟨ap,H⟩:=gZ c.jm fX;have aq:wr.frozen? (ie A j)=fo:=by simp[World.frozen?,H]
  have ar:=c.lt;have au:=nz B g.o.size;have Z:fe _:=c;clear c X C z H c0 c1 c2 c3 t;go_wp2
  go_region
  go_wp2;go_ret;rw[U.o];obtain⟨aa,ab⟩:=Z.o.aax (by rw[<-s];exact D)<|e.extract 0 m;exact⟨fX,aa.below (mi _ _).drew,(ab.two<|fH.fK (mi _ _).drew).after g.o⟩
def jt (hs:List BW):Nat:=hs.findIdx λa=>!a.1
abbrev Opd:=(Int×Int)×List fV×fQ×List BW
def xU (E:List fV)(data:fQ)(hs:List BW)(p:fO)(fl:Int)(k:Nat)(a:fO):Opd:=
 match QQ E p with
 |some i=>(match E[i]? with
  |none=>((0,0),E,data,hs)
  |some x=>if x.2.1=2 then((0,7),E,data,hs)else if ma fl 8=fm then((0,6),E,data,hs) else(((k:Int),0),E,if ma fl 16=fm then data.set x.2.2.toNat ⟨#[]⟩else data,hs.set k (fm,x.2.2,fl,0)))
 |none=>if ma fl 4=fo then((0,4),E,data,hs)else if 16<=fv (fU E a) then((0,11),E,data,hs)
  else(((k:Int),0),E++[(p,1,(fv data:Int))],data++[⟨#[]⟩],hs.set k (fm,(fv data:Int),fl,0))
def Lq (E:List fV)(data:fQ)(hs:List BW)(p:fO)(fl:Int):Opd:=
 if(jz p).2=fo then((0,1),E,data,hs)
 else if EQ fl=fo then((0,2),E,data,hs)
 else if jt hs=8 then((0,10),E,data,hs)
 else if(jz p).1.length=0 then((0,7),E,data,hs)
 else if xu E (jz p).1≠0 then((0,xu E (jz p).1),E,data,hs)
 else xU E data hs p fl (jt hs) (fG<|(jz p).1.take ((jz p).1.length-1))
theorem UQ{w1 wr c:fq}{S}{nc dc nd a c4 b:Nat}{M}{d}{rest}{f}(e:gm (kB F w1 wr) wr S na da nc dc M d rest)(g:fH F w1 wr)(j:nd=fv d)
  (l:c.ownsRow 0 9 1 (my a 0 (nd+1) c4) (nd+1) (gN d++[hZ x]))(m:(wr.alloc f).grownBy c (Value.slice da nd dc).ownBlock)(n:(Value.slice (fh<|ie a 0) (nd+1) c4).ownBlock=(Value.slice da nd dc).ownBlock\/(Value.slice (fh<|ie a 0) (nd+1) c4).ownBlock=fh b)(o:wr.heap.size<=b:=by simp):
  gl (kB F w1<|c.setCell (ie S 1) (my a 0 (nd+1) c4)) (c.setCell (ie S 1)<|my a 0 (nd+1) c4) S M (d++[x]) rest/\fH F w1 (c.setCell (ie S 1)<|my a 0 (nd+1) c4):=by
 subst j;have p:=jh (i:=1) e.hS e.jm (by decide) (Sx wr f) (by simp) ⟨fX,fX,fX⟩ l m n o;have⟨q,h⟩:=e.aaB p;have r:=iW g h;exact⟨q.DG λk s=>nD g.size h.size s,r⟩
def KN(a:kB F w w1 k)(hs:w1.heap.size<=w2.heap.size):kB F w w2 k:=by
 rcases a with a|a
 exact .inl a;exact .inr ⟨a.1,nz a.2 hs⟩
theorem KO(a:fH F w w1)(k:fH (kB F w w1) w1 w2):fH F w w2:=by
 refine⟨k.os.trans a.os,k.tape.trans a.tape,k.output.trans a.output,ww a.size k.size,λx c d=>?_⟩;rw[k.block x (nz c a.size) λb=>?_,a.block x c d];rcases b with b|⟨b,_⟩
 all_goals grind
theorem piv(a:k<fv hs)(b:hs[k].1=fo)(c:∀i(d:i<fv hs),i<k->hs[i].1=fm):jt hs=k:=by
 unfold jt
 grind
theorem acx(a:fv hs=8)(b:∀i(c:i<fv hs),i<8->hs[i].1=fm):jt hs=8:=by
 unfold jt
 grind
theorem gm.aay(g:gm F w S na da nc dc E data (wn hs++more))(h:k<fv hs)(b:Bool)(j fg a:Int):
  gm F ((((w.setCell (ie S<|2+k*4)<|fE b).setCell (ie S<|2+k*4+1)<|fY j).setCell (ie S<|2+k*4+2)<|fY fg).setCell (ie S<|2+k*4+3)<|fY a) S na da nc dc E data (wn (hs.set k (b,j,fg,a))++more)/\
   fH F w ((((w.setCell (ie S<|2+k*4)<|fE b).setCell (ie S<|2+k*4+1)<|fY j).setCell (ie S<|2+k*4+2)<|fY fg).setCell (ie S<|2+k*4+3)<|fY a):=by
 have⟨i,l⟩:=g.IQ (f:=0) (v:=fE b) (x:=(b,hs[k].2.1,hs[k].2.2.1,hs[k].2.2.2)) h (by omega) fX;have⟨c,m⟩:=i.IQ (k:=k) (f:=1) (v:=.int .i64 j) (x:=(b,j,hs[k].2.2.1,hs[k].2.2.2)) (by grind) (by omega) (by simp[mR]);rw[WI]at c;have⟨d,n⟩:=c.IQ (k:=k) (f:=2) (v:=.int .i64 fg) (x:=(b,j,fg,hs[k].2.2.2)) (by grind) (by omega) (by simp[mR]);rw[WI]at d;have⟨e,o⟩:=d.IQ (k:=k) (f:=3) (v:=.int .i64 a) (x:=(b,j,fg,a)) (by grind) (by omega) (by simp[mR]);rw[WI]at e;exact⟨e,((l.two m).two n).two o⟩
theorem UR(b:gm F w S na da nc dc E data (wn hs++more))(bW:fv hs=8)(ac:qE E data)(bu:∀e∈E,e.2.1=1\/e.2.1=2)(bv:fv data<=1000000000)(p:fO)(bX:p.size<=2097152)(fl:Int):
  ik 94 #[ii S,hZ p,fY fl] w λe J=>e=qr #[fY (Lq E data hs p fl).1.1,fY (Lq E data hs p fl).1.2]/\
   gl (kB F w J) J S (Lq E data hs p fl).2.1 (Lq E data hs p fl).2.2.1 (wn (Lq E data hs p fl).2.2.2++more)/\fH F w J:=by
 have aw:=kY p w bX;have bY:fe (gm F w S na da nc dc E data<|wn hs++more):=b;have aj:fe (qE E data):=ac;have q:fe (∀J,ju w J->gl (kB F w J) J S E data (wn hs++more)/\fH F w J):=λJ T=>⟨gl.below ⟨na,nc,da,dc,b⟩ T,fH.fK T⟩;have bw:fe (∀x∈(jz p).1,x.size<=12):=jK p;have aK:fe ((jz p).2=fm->(jz p).1.length<=5):=jL;obtain⟨bx,r⟩:=oX<|(jz p).2;obtain⟨z,aL⟩:=oX<|(jz p).1;obtain⟨k,aM⟩:=oX<|jt hs;obtain⟨n,ax⟩:=oX<|fv z;obtain⟨a,H⟩:=oX<|Lq E data hs p fl;rw[<-H];unfold Lq at H;rw[<-r,<-aL]at aw H aK;rw[<-aL]at bw;rw[<-aM]at H;rw[<-ax]at aw H aK;obtain⟨ad,aN⟩:=oX<|fG (z.take<|n-1);rw[<-aN]at H;have bZ:fe (ad=fG (z.take<|fv z-1)):=by rw[aN,ax];rfl
 have du:fe (n=fv z):=ax;have ca:fe _:=bu;have bz:fe _:=aw;have V:fe _:=H;have aO:fe (k=jt hs):=aM;have h:fe _:=λs=>QS fl s;clear b ac aw r aL H aM ax aN bu;go_enter func94,ntmps94;go_wp2_with fail;apply Ps bz.o;rintro _ w1 ⟨v,rfl,ay,T⟩;obtain⟨cb,cc,rfl⟩:=pp ay;have cd:=nM ay;have aP:=bY.o.below T;have ae:=T.size;have dv:=aP.lt;have ce:fe _:=aP;have bA:fe _:=ay;have af:fe _:=T;clear bz ay T aP;go_wp2
 go_loopw [10] (λv wr=>∃i:Nat,i<=8/\v=.int .i64 (i:Int)/\fe (∀j(b:j<fv hs),j<i->hs[j].1=fm)/\fe (ju w1 wr)) (λv _=>8-(intOf v).toNat)
 case atStart=>exact⟨0,by omega,rfl,λj A bB=>absurd bB<|Rq _,mi _ _⟩
 case round=>
  obtain⟨i,U,rfl,I,B⟩:=hrel;by_cases ag:i<8
  ·have dw:(i:Int)<8:=by omega
   have bC:i<fv hs:=by omega
   have az:=ce.o.below B.o;have c0:wr.c S (2+i*4)=fh (fE hs[i].1):=az.tab (f:=0) bC (by omega);have dx:=az.lt;have ah:fe _:=az;clear az;cases ak:hs[i].1 with
   |true=>
    rw[ak]at c0;go_wp2;exact⟨⟨i+1,by omega,fX,λj A bB=>by
     rcases WH j i with b|b
     exact I.o j A b;rw[<-ak];congr 2;omega,B⟩,by simp[intOf];omega⟩
   |false=>
    rw[ak]at c0;have al:fe (k=i):=aO.o.trans<|piv bC ak I.o;clear ak;cases r:bx with
    |false=>
     have c:fe (a=((0,1),E,data,hs)):=Hc<|by rw[V.o,r];rfl
     subst r;go_wp2_with(go_at_call 157;refine tB (h.o _) ?_);go_ret2;rw[c.o];exact⟨fX,q.o _<|af.o.trans (B.o.mono ae)⟩
    |true=>
     have cf:=r;subst r;cases l:EQ fl with
     |false=>
      have c:fe (a=((0,2),E,data,hs)):=Hc<|by rw[V.o,l];rfl
      rw[l]at h;go_wp2_with(go_at_call 157;refine tB (h.o _) ?_);go_ret2;rw[c.o];exact⟨fX,q.o _<|af.o.trans (B.o.mono ae)⟩
     |true=>
      rw[l]at h;have aQ:0<=fl/\fl<=63:=by
       unfold EQ at l;split at l;cases l;omega
      have dy:n<=5:=aK.o fX;have c:fe (a=if n=0 then((0,7),E,data,hs)else if xu E z≠0 then((0,xu E z),E,data,hs)else xU E data hs p fl k ad):=by
       show _=_;rw[V.o,km<|by simp,km (by rw[l];simp),km (by rw[al.o];omega)]
      have cg:k=i:=al.o;subst cg;have am:fe (ju w wr):=af.o.trans<|B.o.mono ae;have bD:=am.o.size;clear V l cf al I aO;by_cases W:n=0
      ·have K:fe (a=((0,7),E,data,hs)):=Hc<|by rw[c.o,lv W]
       subst W;go_wp2_with(go_at_call 157;refine tB (h.o _) ?_);go_ret2;rw[K.o];exact⟨fX,q.o _ am.o⟩
      have dz:((n:Int)==0)=fo:=(by simp[W]);have bE:=gg bA.o λg ch=>B.o.block g<|gc bA.o ch;have aA:=Sy ah.o aj.o cb n cc z (WF bE) bw.o (by omega) (by omega) cd;rw[<-bZ.o]at aA;obtain⟨e,bF⟩:=oX<|xu E z;rw[<-bF]at aA c;have I:fe _:=aA;clear aA bF bE;by_cases A:e=0
      ·have ci:(e != 0)=fo:=by simp[A]
       have K:fe (a=xU E data hs p fl k ad):=Hc<|by rw[c.o,km W,km (by simp[A])]
       clear c A W;have X:=pM na (fv E) nc E p wr (iz ah.o.lU) aj.o.big;have aR:=uH ah.o aj.o ad;obtain⟨ag,aS⟩:=oX<|fv (fU E ad);obtain⟨m,aB⟩:=oX<|fv E;have aT:=ah.o.c0;have dA:m<=1000000000:=by rw[aB];exact aj.o.big
       rw[<-aB]at X aT;rw[<-aS]at aR;have bG:fe _:=aR;have L:fe (m=fv E):=aB;have cj:fe (ag=fv (fU E ad)):=aS;have M:fe (∀f,1<=f/\f<=32->ma fl f=fm->∀s,ik 159 #[fY fl,fY f] s<|UV (fE fm) s):=λf ac e s=>by have:=mz fl f s aQ ac;rwa [e]at this
       have HBN:fe (∀f,1<=f/\f<=32->ma fl f=fo->∀s,ik 159 #[fY fl,fY f] s<|UV (fE fo) s):=λf ac e s=>by have:=mz fl f s aQ ac;rwa [e]at this
       clear aR aB aS aQ;cases Y:QQ E p with
       |none=>
        rw[Y]at X;have aU:fe (ik 106 #[fy na m nc,hZ p] wr<|UV (fY<|-1) wr):=X;have O:fe (a=if ma fl 4=fo then((0,4),E,data,hs)else if 16<=ag then((0,11),E,data,hs) else(((k:Int),0),E++[(p,1,(fv data:Int))],data++[kq],hs.set k (fm,(fv data:Int),fl,0))):=by
         show _=_;rw[K.o,cj.o];unfold xU;rw[Y]
        clear X Y K;go_wp2_with fail;refine tB (h.o _) ?_;go_wp2_with fail;refine tB I.o ?_;go_wp2_with fail;refine tB aU.o ?_;go_wp2_with fail;refine Hk bG.o λw2 an=>?_
        have C:fe _:=am.o.trans<|an.mono bD;have d:=ah.o.below an;have P:fe _:=d;have aV:=d.lt;have ck:=C.o.size;clear aT c0;cases aW:ma fl 4 with
        |false=>
         have o:fe (a=((0,4),E,data,hs)):=Hc<|by rw[O.o,lv aW]
         go_wp2_with(go_at_call 159;(first|refine Ps (M.o _ (by decide) (by assumption) _) ?_|refine Ps (HBN.o _ (by decide) (by assumption) _) ?_);rintro _ _ ⟨rfl,rfl⟩);go_ret2;rw[o.o];exact⟨fX,q.o _ C.o⟩
        |true=>
         by_cases aX:16<=ag
         ·have cl:(16:Int)<=(ag:Int):=by omega
          have o:fe (a=((0,11),E,data,hs)):=Hc<|by rw[O.o,km (by rw[aW];simp),lv aX]
          go_wp2_with(go_at_call 159;(first|refine Ps (M.o _ (by decide) (by assumption) _) ?_|refine Ps (HBN.o _ (by decide) (by assumption) _) ?_);rintro _ _ ⟨rfl,rfl⟩);go_ret2;rw[o.o];exact⟨fX,q.o _ C.o⟩
         have cl:decide ((16:Int)<=(ag:Int))=fo:=yv (by omega);have o:fe (a=(((k:Int),0),E++[(p,1,(fv data:Int))],data++[kq],hs.set k (fm,(fv data:Int),fl,0))):=Hc<|by rw[O.o,km (by rw[aW];simp),km aX]
         clear O;have⟨cm,cn,cp,cq,cr⟩:=kM uJ;have⟨ct,cu,cv,cw,cx⟩:=kM uF;obtain⟨nd,oh⟩:=oX<|fv data;have aC:=d.c0;have aD:=d.c1;rw[<-L.o]at aC;rw[<-oh]at aD bv;have Q:fe (nd=fv data):=oh;have bH:fe (w2.ownsRow 0 200 3 (fy na m nc) m<|flat E):=by show World.ownsRow _ _ _ _ _ _ _;rw[L.o];exact d.lU
         have aY:fe (gm (kB F w w2) w2 S na da nc dc E data<|wn hs++more):=d.keep (λ_ b=>.inl b) λ_ _=>rfl;have cy:fe (fH F w w2):=fH.fK C.o;clear d oh aX;go_upto_region 29 with(go_at_call 159;(first|refine Ps (M.o _ (by decide) (by assumption) _) ?_|refine Ps (HBN.o _ (by decide) (by assumption) _) ?_);rintro _ w2 ⟨rfl,rfl⟩)
         go_cut []from 112 to 127 λaZ=>fe<|gl (kB F w aZ) aZ S (E++[(p,1,(nd:Int))]) data (wn hs++more)/\fH F w aZ
         case first=>
          go_region_law(refine pw fX (.tmp 116) (.tmp 124) 174 fX 0 200 cm _ 3 32 underlying174 cn cp cq cr fX (by decide) (fy na m nc) m (flat E) (by simp[Act.eval]) (rJ (show(w2.drewN 1).ownsRow _ _ _ _ _ _ from bH.o) _) (ie w2.heap.size 0) 1 1 (pB (p,1,(nd:Int))) (by simp[Act.eval]) fX (ub (w2.drewN 1) (p,1,(nd:Int)) _ _ fX) (se _) (by unfold maxLen;omega) (by omega) (Fr _) ?_;intro v4 bb bI bc cz;obtain⟨dB,c4,rfl⟩:=hh bI (by omega);have bJ:=mX aY.o.hS (ox w2 1 _) (by simp) bc<|il bH.o aY.o.hS (by decide);have dC:bb.c S 0=fh (fy na (fv E) nc):=(by simp[World.cell?,bJ]);have dD:bb.frozen? (ie S 0)=fo:=(by simp[World.frozen?,bJ]);have dE:S<bb.heap.size:=(nz aV (by have:=bc.size;simp at this;omega)))
          all_goals
           go_wp2_with fail;go_meet;exact Qc aY.o cy.o L.o bI bc cz
         case rest=>
          rename fq=>Z;have⟨⟨cA,cC,aE,aF,ao⟩,bK⟩:=hcut.o;have cD:fe (fH F w Z):=bK;have bd:fe (gm (kB F w Z) Z S cA aE cC aF (E++[(p,1,(nd:Int))]) data<|wn hs++more):=ao;have bL:=ao.c1;have cE:=ao.lt;rw[<-Q.o]at bL;have bM:fe (Z.ownsRow 0 9 1 (fy aE nd aF) nd<|gN data):=by show World.ownsRow _ _ _ _ _ _ _;rw[Q.o];exact ao.jm
          clear hcut ao bK aC aD aV;go_wp2_with(at_builtin;refine yi fX (.tmp 132) (.tmp 133) 131 fX 0 9 ct _ 1 16 underlying131 cu cv cw cx fX (by decide) (fy aE nd aF) nd (gN data) fX (rJ bM.o _) (ie Z.heap.size 0) 1 1 [hZ kq] fX fX (one_cell Z _ _ _ fX) Bi (by unfold maxLen;omega) (by omega) (Fr _) ?_);intro dF aG be aH bN;obtain⟨cF,cG,rfl⟩:=hh be (by omega);have bf:=mX bd.o.hS (Sx Z _) (by simp) aH<|il bM.o bd.o.hS (by decide);have cH:aG.c S 1=fh (fy aE (fv data) aF):=by simp[World.cell?,bf]
          have f16:aG.frozen? (ie S 1)=fo:=(by simp[World.frozen?,bf]);have cI:S<aG.heap.size:=nz cE (by have:=aH.size;simp at this;omega);have⟨bO,bQ⟩:=UQ bd.o cD.o Q.o be aH bN;have bg:fe _:=bO;have bh:fe _:=bQ;clear bO bQ be aH bN bf bL;go_upto_region 31 with fail;obtain⟨cJ,bR⟩:=oX<|aG.setCell (ie S 1) (my cF 0 (nd+1) cG);rw[<-bR]at bg bh |-;clear bR cH f16 cI;have⟨dG,dH,dI,dJ,t⟩:=bg.o;have cK:m<fv (E++[(p,1,(nd:Int))]):=by rw[L.o];simp
          have cL:=t.c0;have cN:=t.c1;have bS:fv (E++[(p,1,(nd:Int))])=m+1:=by rw[L.o];simp
          have bi:fv (data++[kq])=nd+1:=by rw[Q.o];simp
          rw[bS]at cL;rw[bi]at cN;have D:=t.lU;have⟨g,cO,ap⟩:=hh D (by omega);have bj:=(lK ap).1;subst bj;have⟨_,_,aq⟩:=lr (off:=0) (ks D) cK;rw[iR]at aq;have cQ:(E++[(p,1,(nd:Int))])[m].2.2=(nd:Int):=by
           have cS:=L.o;subst cS;simp
          rw[cQ]at aq;have cT:=gc D fX;have cU:(m:Int)<((m+1:Nat):Int):=by omega
          have dK:(nd:Int)<((nd+1:Nat):Int):=(by omega);have dL:=t.lt;have⟨aa,bk,cV,bT,_⟩:=row_one t.jm (i:=nd) (v:=fA kq) (by rw[Q.o];simp[gN]);have ab:k<fv hs:=by omega
          obtain⟨⟨cW,cX,N,cY⟩,ar⟩:∃x,hs[k]?=fh x:=⟨_,jG ab⟩;have⟨cZ,db,dd,de,u⟩:=t.oh ar;have df:=u<|2+k*4;have dg:=u<|2+k*4+1;have dh:=u<|2+k*4+2;have di:=u<|2+k*4+3;subst bk;have⟨dj,au⟩:=gZ t.jm fX;have dk:cJ.frozen? (ie aa nd)=fo:=by simp[World.frozen?,au]
          have bl:aa≠S:=λe=>il t.jm t.hS (by decide) (by rw[e];rfl);have dl:S≠aa:=λe=>bl e.symm;have bU:fe _:=t;have dm:fe _:=bi;clear u au ar D ap t bS bi bg;cases bm:ma fl 16 with
          |true=>
           go_wp2_with(go_at_call 159;(first|refine Ps (M.o _ (by decide) (by assumption) _) ?_|refine Ps (HBN.o _ (by decide) (by assumption) _) ?_);rintro _ _ ⟨rfl,rfl⟩);go_ret2;rw[o.o];have⟨bn,aI⟩:=bU.o.aax (j:=nd) (by rw[dm.o];omega) kq;have⟨R,G⟩:=bn.aay ab fm (nd:Int) fl 0;have dn:(data++[kq]).set nd kq=data++[kq]:=by rw[Q.o];simp
           rw[dn]at R;rw[<-Q.o];exact⟨fX,⟨_,_,_,_,R.keep (λ_ b=>KN b (aI.two G).size) λ_ _=>rfl⟩,KO bh.o<|aI.two G⟩
          |false=>
           go_wp2_with(go_at_call 159;(first|refine Ps (M.o _ (by decide) (by assumption) _) ?_|refine Ps (HBN.o _ (by decide) (by assumption) _) ?_);rintro _ _ ⟨rfl,rfl⟩);go_ret2;rw[o.o];have⟨R,G⟩:=bU.o.aay ab fm (nd:Int) fl 0;rw[<-Q.o];exact⟨fX,⟨_,_,_,_,R.keep (λ_ b=>KN b G.size) λ_ _=>rfl⟩,KO bh.o G⟩
       |some y=>
        rw[Y]at X;have aU:fe (ik 106 #[fy na m nc,hZ p] wr<|UV (fY (y:Int)) wr):=X;have aJ:y<fv E:=(yM.1 Y).1;have O:fe (a=if E[y].2.1=2 then((0,7),E,data,hs)else if ma fl 8=fm then((0,6),E,data,hs) else(((k:Int),0),E,if ma fl 16=fm then data.set E[y].2.2.toNat kq else data,hs.set k (fm,E[y].2.2,fl,0))):=by
         show _=_;rw[K.o];unfold xU;rw[Y];simp only[jG aJ]
        clear X Y K;go_wp2_with fail;refine tB (h.o _) ?_;go_wp2_with fail;refine tB I.o ?_;go_wp2_with fail;refine tB aU.o ?_;go_wp2_with fail;refine Hk bG.o λw2 an=>?_
        have bo:ju w w2:=am.o.trans<|an.mono bD;have d:=ah.o.below an;have aC:=d.c0;have aD:=d.c1;rw[<-L.o]at aC;have D:=d.lU;have⟨g,cO,ap⟩:=hh D (by omega);have bj:=(lK ap).1;subst bj;have⟨_,bp,aq⟩:=lr (off:=0) (ks D) aJ;rw[iR]at bp aq;have cT:=gc D fX;have cU:(y:Int)<(m:Int):=by have:=L.o;omega
        have aV:=d.lt;have P:fe _:=d;have C:fe _:=bo;have ck:=bo.size;clear D ap d bo aT c0;by_cases ai:E[y].2.1=2
        ·have o:fe (a=((0,7),E,data,hs)):=Hc<|by rw[O.o,lv ai]
         rw[ai]at bp;clear ai;go_wp2;go_ret2;rw[o.o];exact⟨fX,q.o _ C.o⟩
        have bq:E[y].2.1=1:=(ca.o _<|kK aJ).resolve_right ai;have⟨dp,dq⟩:=aj.o.files _ (kK aJ) bq;obtain⟨j,br⟩:∃j:Nat,E[y].2.2=(j:Int):=⟨E[y].2.2.toNat,by omega⟩;have bs:j<fv data:=by omega
        have o:fe (a=if ma fl 8=fm then((0,6),E,data,hs) else(((k:Int),0),E,if ma fl 16=fm then data.set j kq else data,hs.set k (fm,(j:Int),fl,0))):=Hc<|by rw[O.o,km ai,br,qI]
        rw[bq]at bp;rw[br]at aq;clear ai bq dp dq br O;cases bt:ma fl 8 with
        |true=>
         have av:fe (a=((0,6),E,data,hs)):=Hc<|by rw[o.o,lv bt]
         go_wp2_with(go_at_call 159;refine tB (M.o _ (by decide) (by assumption) _) ?_);go_ret2;rw[av.o];exact⟨fX,q.o _ C.o⟩
        |false=>
         have ab:k<fv hs:=(by omega);have⟨aa,bk,cV,bT,_⟩:=row_one P.o.jm (i:=j) (v:=fA data[j]) (by simp[gN,bs]);obtain⟨dM,bV⟩:=oX<|data[j];rw[<-bV]at bT;obtain⟨dr,ds⟩:=oX<|fv data;rw[<-ds]at aD bv;have dN:(j:Int)<(dr:Int):=by omega
         obtain⟨⟨cW,cX,N,cY⟩,ar⟩:∃x,hs[k]?=fh x:=⟨_,jG ab⟩;have⟨cZ,db,dd,de,u⟩:=P.o.oh ar;have df:=u<|2+k*4;have dg:=u<|2+k*4+1;have dh:=u<|2+k*4+2;have di:=u<|2+k*4+3;subst bk;have⟨dj,au⟩:=gZ P.o.jm fX;have dk:w2.frozen? (ie aa j)=fo:=by simp[World.frozen?,au]
         have bl:aa≠S:=λe=>il P.o.jm P.o.hS (by decide) (by rw[e];rfl);have dl:S≠aa:=λe=>bl e.symm;have dt:fe (j<fv data):=bs;clear u au bV ar bs;cases bm:ma fl 16 with
         |true=>
          have av:fe (a=(((k:Int),0),E,data.set j kq,hs.set k (fm,(j:Int),fl,0))):=Hc<|by rw[o.o,km (by rw[bt];simp),lv bm]
          go_wp2_with(go_at_call 159;(first|refine Ps (M.o _ (by decide) (by assumption) _) ?_|refine Ps (HBN.o _ (by decide) (by assumption) _) ?_);rintro _ _ ⟨rfl,rfl⟩);go_ret2;rw[av.o];have⟨bn,aI⟩:=P.o.aax dt.o kq;have⟨R,G⟩:=bn.aay ab fm (j:Int) fl 0;exact⟨fX,⟨_,_,_,_,R.keep (λ_ b=>.inl b) λ_ _=>rfl⟩,(aI.two G).after C.o⟩
         |false=>
          have av:fe (a=(((k:Int),0),E,data,hs.set k (fm,(j:Int),fl,0))):=Hc<|by rw[o.o,km (by rw[bt];simp),km (by rw[bm];simp)]
          go_wp2_with(go_at_call 159;(first|refine Ps (M.o _ (by decide) (by assumption) _) ?_|refine Ps (HBN.o _ (by decide) (by assumption) _) ?_);rintro _ _ ⟨rfl,rfl⟩);go_ret2;rw[av.o];have⟨R,G⟩:=P.o.aay ab fm (j:Int) fl 0;exact⟨fX,⟨_,_,_,_,R.keep (λ_ b=>.inl b) λ_ _=>rfl⟩,G.after C.o⟩
      have ci:(e != 0)=fm:=(by simp[A]);have K:fe (a=((0,e),E,data,hs)):=Hc<|by rw[c.o,km W,lv A]
      clear A W;go_wp2_with fail;refine tB (h.o _) ?_;go_wp2_with fail;refine tB I.o ?_;go_wp2;go_ret2;rw[K.o];exact⟨fX,q.o _ am.o⟩
  obtain rfl:i=8:=by omega
  have al:fe (k=8):=aO.o.trans<|acx bW I.o;cases r:bx with
  |false=>
   have c:fe (a=((0,1),E,data,hs)):=Hc<|by rw[V.o,r];rfl
   subst r;go_wp2_with(go_at_call 157;refine tB (h.o _) ?_);go_ret2;rw[c.o];exact⟨fX,q.o _<|af.o.trans (B.o.mono ae)⟩
  |true=>
   subst r;cases l:EQ fl with
   |false=>
    have c:fe (a=((0,2),E,data,hs)):=Hc<|by rw[V.o,l];rfl
    rw[l]at h;go_wp2_with(go_at_call 157;refine tB (h.o _) ?_);go_ret2;rw[c.o];exact⟨fX,q.o _<|af.o.trans (B.o.mono ae)⟩
   |true=>
    have c:fe (a=((0,10),E,data,hs)):=Hc<|by rw[V.o,l,al.o];rfl
    rw[l]at h;go_wp2_with(go_at_call 157;refine tB (h.o _) ?_);go_ret2;rw[c.o];exact⟨fX,q.o _<|af.o.trans (B.o.mono ae)⟩
def htu(b:Nat)(x:fu)(a:Int)(c:0<=a)(d:a<=256)(w:fq)(f:b<w.heap.size)(c2:w.c b 2=fh x)(f2:w.frozen? (ie b 2)=fo):ik 165 #[ii b,fY a] w λe J=>e=fF (fY 0)/\J=w.setCell (ie b 2) (fY a):=by
 go_enter func165,ntmps165;go_wp2;go_ret;exact⟨fX,fX⟩
theorem Wh(a k b:Nat)(n c:Int)(d:fq->Prop)(w:fq)(f:w.c a (1+k)=fh (ii b))(g:k<8)
  (h:ik 165 #[ii b,fY n] w λe J=>e=fF (fY c)/\d J):
  ik 102 #[ii a,fY (k:Int),fY n] w λe J=>e=fF (fY c)/\d J:=by
 go_enter func102,ntmps102;go_wp2_with(first
  |(go_at_call 122;apply (xx a k b w f g).still)
  |(go_at_call 165;refine h.via λw1 i=>?_))
 go_ret;exact⟨fX,i⟩
theorem adc(a k b:Nat)(n c:Int)(d:fq->Prop)(w:fq)(f:w.c a (1+k)=fh (ii b))(g:k<8)
  (h:ik 164 #[ii b,fY n] w λe J=>e=fF (fY c)/\d J):
  ik 100 #[ii a,fY (k:Int),fY n] w λe J=>e=fF (fY c)/\d J:=by
 go_enter func100,ntmps100;go_wp2_with(first
  |(go_at_call 122;apply (xx a k b w f g).still)
  |(go_at_call 164;refine h.via λw1 i=>?_))
 go_ret;exact⟨fX,i⟩
theorem oV.used{A}{a:Ops}{t}{E}{data}{i:Nat->Nat}(l:oV A fl a t E data hs i)(n:Int):
  (tM hs n=fo/\Aq (λk=>(a k).map (·.1)) n)\/∃(k b f:Nat) (fg c:Int),k<8/\n=(k:Int)/\a k=fh (b,f,fg,c)/\hs[k]?=fh (fm,(i f:Int),fg,c):=by
 by_cases m:0<=n/\n<8;obtain⟨k,rfl⟩:∃k:Nat,n=(k:Int):=⟨n.toNat,by omega⟩;have g:k<8:=by omega
 have d:=l.tab k g;rcases h:a k with _|x
 refine .inl ⟨?_,λj _ p=>?_⟩;rw[h]at d;have⟨o,e⟩:=wI.1 d;rw[GI o l.h8,e];rfl
 grind
 have⟨b,f,fg,c⟩:=x;rw[h]at d;exact .inr ⟨k,b,f,fg,c,g,fX,h,d⟩;exact .inl ⟨BP m,λk g e=>absurd ⟨by omega,by omega⟩ m⟩
theorem kZ{M}{fs':b6}{Ht:Fls}{op':Ops}{c:Nat}{b:Bool}{d}{e}(a:mQ T w s i p B A g I t)(U:gL A t)(m:fI (Mine i) T M w J)(f:fZ M J s i p B A { g with fs:=fs',fl:=Ht,op:=op' } c)(h:c<=I+400)(j:vV A Ht)(l:Kn g.fs fs' b)(n:qz A Ht op' t E d e):Er s i p B A T w J g I b (fE fm) E d e:=
 ⟨M,_,t,m,⟨f.mono h,a.flat,a.ok,j⟩,l,fX,U,n,λk a=>by cases a⟩
theorem mQ.cell(a:mQ T w s i p B A g I t){fg c:Int}(d:k<8)(h:g.op k=fh (b,f,fg,c)):w.cell? (ie B.wb<|1+k)=fh (ii b):=by
 have⟨_,_,e⟩:=a.ws;rw[e.2.1 k d]
 grind
theorem mQ.fg(c:mQ T w s i p B A g I t){fg a:Int}(d:g.op k=fh (b,f,fg,a)):(∃x,g.fl f=fh x)/\(0<=fg/\fg<=63)/\0<=a/\a<=256:=by
 have⟨_,_⟩:=c.inv.wp.opens.at_ k b f fg a d
 grind
def Hu(b:gl F w1 Sb E data rest)(a:ju w1 J):gl (kB F w1 J) J Sb E data rest/\fH F w1 J:=⟨gl.below b a,fH.fK a⟩
def xV(a:gm F J Sb na da nc dc E data rest)(b:fH F w1 J):gl (kB F w1 J) J Sb E data rest/\fH F w1 J:=⟨⟨na,nc,da,dc,a.keep (λ_ a=>.inl a) λ_ _=>rfl⟩,b⟩
theorem xW{hs a:List BW}{more:gX}(b:fv hs=8)(c:fv a=8):(wn a++more).drop 32=(wn hs++more).drop 32:=by
 grind [Mo,hBW]
theorem um.same{z:Bool}{a f h}{b:gX}(k:mQ T w s i p B A g I t)(U:gL A t)(l:qz A g.fl g.op t E data rest)(er:Int)(m:(er==14)=fo)
  (n:Calls prog f ((ii B.wb)::b).toArray w (vd (LF a 0 kq er) w))
  (o:∀{F:Nat->Prop}{w1:fq}{na da:iD}{nc dc:Nat},gm F w1 Sb na da nc dc E data rest->Calls prog h ((ii Sb)::b).toArray w1 (vd (LF a 0 kq er) w1)):um s i p B A T w g I E data rest z a f h b Sb:=
 ⟨er,0,kq,E,data,rest,m,Ha _,Ha _,fX,n.mono λe J⟨c,d⟩=>js k U l c d,λ⟨na,nc,da,dc,j⟩=>(o j).mono λe J⟨c,d⟩=>⟨c,Hu ⟨na,nc,da,dc,j⟩ d⟩⟩
theorem Ast(C:tU s i p B A T w g I t E data rest)(Sb:Nat)(n a:Int):um s i p B A T w g I E data rest fo 0 102 103 [fY n,fY a] Sb:=by
 obtain⟨c,_,U,_,u,_⟩:=C;have v:=u;obtain⟨⟨y,hs,more,rfl,d⟩,D⟩:=u;have⟨S,c0,G⟩:=c.ws;have H:∀{F:Nat->Prop}{w1:fq},gl F w1 Sb E data (wn hs++more)->ik 103 #[ii Sb,fY n,fY a] w1 λe J=>e=fF (fY (nY hs n a).2)/\gl (kB F w1 J) J Sb E data (wn (nY hs n a).1++more)/\fH F w1 J:=λq=>by
  have⟨na,nc,da,dc,q⟩:=q;exact(ZX q d.h8 n a).mono λe J⟨h,K,L⟩=>⟨h,xV K L⟩
 refine⟨_,0,kq,E,data,_,by grind [nY],Ha _,Ha _,xW d.h8 (by unfold nY;repeat(first|exact d.h8|(simp;exact d.h8)|split)),?_,H⟩;rcases d.used n with⟨o,M⟩|⟨k,b,f,fg,V,j,rfl,l,z⟩
 have e:nY hs n a=(hs,3):=by unfold nY;rw[lv o]
 rw[e];exact(ows G M a).mono λe J⟨h,N⟩=>js c U v h (by grind [mi])
 have o:=mA d.h8 z;have⟨O,_⟩:=c.fg l;have⟨P,_,_,c2,Q⟩:=RK c.inv l;by_cases r:a<0\/256<a;have e:nY hs (k:Int) a=(hs,2):=by unfold nY;rw[km (by rw[o];simp),lv r]
 rw[e];exact(Wh B.wb k b a 2 (λJ=>J=w) w (c.cell j l) j<|aca a r w).mono λe J⟨h,N⟩=>js c U v h (by grind [mi])
 have e:nY hs (k:Int) a=(hs.set k (fm,(y f:Int),fg,a),0):=by unfold nY;rw[km (by rw[o];simp),km r,qI,z]
 rw[e];apply (Wh B.wb k b a 0 _ w (c.cell j l) j<|htu b _ a (by omega) (by omega) w P c2 (Q 2)).mono;rintro e J ⟨h,rfl⟩;have⟨m,R⟩:=c.inv.place l (VG:=a) (by omega) (by omega);refine .inl ⟨h,kZ (fs':=g.fs) (Ht:=g.fl) c U (m.mono hjl) R (by omega) c.fl (Kn.next<|b6.Next.refl _) ⟨⟨y,_,more,fX,d.opens j (fh (b,f,fg,a)) λx O=>?_⟩,D⟩⟩
 grind
theorem pkg(r:tU s i p B A T w g I t E data rest)(Sb:Nat)(n:Int):um s i p B A T w g I E data rest fo 0 65 104 [fY n] Sb:=by
 obtain⟨a,_,U,_,o,_⟩:=r;have u:=o;obtain⟨⟨v,hs,more,rfl,c⟩,y⟩:=o;have⟨z,c0,q⟩:=a.ws;have C:∀{F:Nat->Prop}{w1:fq},gl F w1 Sb E data (wn hs++more)->ik 104 #[ii Sb,fY n] w1 λe J=>e=fF (fY (oK hs n).2)/\gl (kB F w1 J) J Sb E data (wn (oK hs n).1++more)/\fH F w1 J:=λj=>by
  have⟨na,nc,da,dc,j⟩:=j;exact(UL j c.h8 n).mono λe J⟨d,D,G⟩=>⟨d,xV D G⟩
 refine⟨_,0,kq,E,data,_,by grind [oK],Ha _,Ha _,xW c.h8 (by unfold oK;split<;>simp[c.h8]),?_,C⟩;rcases c.used n with⟨l,H⟩|⟨k,b,f,fg,O,h,rfl,K,L⟩
 have e:oK hs n=(hs,3):=by unfold oK;rw[lv l]
 rw[e];exact(hte q H).mono λe J⟨d,P⟩=>js a U u d (by grind [mi])
 have l:=mA c.h8 L;have e:oK hs (k:Int)=(hs.set k (fo,0,0,0),0):=by unfold oK;rw[km (by rw[l];simp),qI]
 rw[e];apply (hjj B.wb k b w z (a.cell h K) (q.2.2 _) h).mono;rintro e J ⟨d,rfl⟩;have⟨m,M⟩:=a.inv.close h;exact .inl ⟨d,kZ (fs':=g.fs) (Ht:=g.fl) a U (m.mono λ_ a=>.inr (by rw[a])) M (by omega) a.fl (Kn.next<|b6.Next.refl _) ⟨⟨v,_,more,fX,c.opens h fj λx N=>by cases N⟩,y⟩⟩
theorem CW{a x:Nat}(b:d.size<=a):d.extract a x=kq:=by
 apply Rs;rw[bwd];have c:d.data.size=d.size:=fX
 grind
theorem MM(d:fO)(a x):d.extract a (min x d.size)=d.extract a x:=by
 rcases Nat.le_total x d.size with b|b
 grind
 rw[Nat.min_eq_right b];exact We (lw _) b
theorem ht1(c:d.size<=256)(e:a<=256):d.extract (min a d.size) (min (min a d.size+min m (256-a)) d.size)=d.extract a (a+m):=by
 rw[MM];rcases WH a d.size with b|b
 rw[HP<|by omega,<-MM,<-MM d a (a+m)]
 grind
 rw[Nat.min_eq_right b,CW<|lw _,CW b]
theorem CX(c:mQ T w s i p B A g I t){x:Int×fO}(a:g.fl f=fh x):∃b,((AC A g.fl g.fs f=(b,0,gz A g.fl f)/\g.fs.Next b)\/(AC A g.fl g.fs f=(b,14,kq)/\g.fs.yR b))/\(gz A g.fl f).size<=256:=by
 have⟨id,d⟩:=x;have e:(AC A g.fl oY f).2=(0,gz A g.fl f):=by
  unfold AC gz;rw[a];by_cases k:id=0;simp[k];simp[k,b6.gO,oY]
 have hF:=Fq A g.fl g.fs f;rw[e]at hF;refine⟨(AC A g.fl g.fs f).1,hF.imp (λ⟨h,j⟩=>⟨EM fX j,h⟩) λ⟨h,j⟩=>⟨EM fX j,h⟩,?_⟩;unfold gz;rw[a];simp only;split;exact c.inv.st.zZ<|c.fl f id d a ‹_›;exact(c.inv.wp.files f id d a).2.2
theorem ht2{x:BW}(a:hs[k]?=fh x):hs.set k x=hs:=by
 grind [wI,List.set_getElem_self]
theorem AtR(ae:tU s i p B A T w g I t E data rest)(Sb:Nat)(n m:Int):um s i p B A T w g I E data rest fm 2 66 98 [fY n,fY m] Sb:=by
 have⟨c,ap,U,_,Q,_,af⟩:=ae;have u:=Q;obtain⟨⟨R,hs,more,rfl,l⟩,ag⟩:=Q;have⟨aq,c0,ah⟩:=c.ws;rcases l.used n with⟨ai,aj⟩|⟨k,b,f,fg,S,j,rfl,o,y⟩
 exact um.same c U u 3 fX ((ord ah aj m).mono λe J⟨h,V⟩=>⟨h,by grind [mi]⟩) λq=>UN q l.h8 n m ai;have⟨⟨x,z⟩,C,W,X⟩:=c.fg o;have⟨Y,_,c1,c2,ar⟩:=RK c.inv o;have⟨Z,_⟩:=Hq C;have aa:∀r:Int,(r==14)=fo->((m<0/\r=2)\/(0<=m/\ma fg 1=fo/\r=12))->um s i p B A T w g I E data (wn hs++more) fm 2 66 98 [fY (k:Int),fY m] Sb:=λr ak h=>um.same c U u r ak ((Ez B.wb k b m kq r (λJ=>J=w) w (c.cell j o) j<|KM m Y c1 c2 W X (h.elim (λe=>.inl e) λe=>.inr (.inl ⟨e.1,by rw[Z,e.2.1];rfl,e.2.2⟩))).mono λe J⟨h,V⟩=>⟨h,by grind [mi]⟩) λq=>acb q l.h8 y C h;by_cases al:m<0;exact aa 2 rfl<|.inl ⟨al,fX⟩;cases D:ma fg 1 with
 |false=>exact aa 12 fX (.inr ⟨by omega,D,fX⟩)
 |true=>
  have G:(bits BinOp.and IntKind.i64 fg 1==0)=fo:=by rw[Z,D];rfl
  have⟨au,ab,H⟩:=CX c z;have ac:=l.cont f (by rw[z];simp);have⟨d,am⟩:=oX<|gz A g.fl f;rw[<-am]at ab H ac;obtain⟨a,rfl⟩:∃a:Nat,S=(a:Int):=⟨S.toNat,by omega⟩;have K:∀{F:Nat->Prop}{w1:fq},gl F w1 Sb E data (wn hs++more)->ik 98 #[ii Sb,fY (k:Int),fY m] w1 λe J=>e=qr #[hZ<|d.extract a (a+m.toNat),fY 0]/\gl (kB F w1 J) J Sb E data (wn (hs.set k (fm,(R f:Int),fg,(a:Int)+(d.extract a<|a+m.toNat).size))++more)/\fH F w1 J:=λq=>by
   have⟨na,nc,da,dc,q⟩:=q;exact(hto q l.h8 y ac C (by omega) H (by omega) D af).mono λe J⟨h,an,ao⟩=>⟨h,xV an ao⟩
  by_cases L:m=0\/(a:Int)=256;have e:d.extract a (a+m.toNat)=kq:=by
   rcases L with rfl|L
   grind [QT]
   exact CW<|by omega
  rw[e,show((a:Int)+(kq.size:Nat))=(a:Int)from Int.add_zero _,ht2 y]at K;exact⟨0,0,kq,E,data,_,fX,Ha _,Ha _,fX,(Ez B.wb k b m kq 0 (λJ=>J=w) w (c.cell j o) j<|KM m Y c1 c2 W X (.inr (.inr ⟨by omega,G,L,fX⟩))).mono λe J⟨h,V⟩=>js c U u h (by grind [mi]),K⟩;refine⟨0,0,_,E,data,_,fX,Ha _,Ha _,xW l.h8 (by simp[l.h8]),?_,K⟩;rcases ab with⟨N,v⟩|⟨N,v⟩
  rotate_left
  exact(Ez B.wb k b m _ 14 _ w (c.cell j o) j<|YD c.inv (by omega) c.fl o G (n:=m) (by omega) (by omega) N (by decide)).mono λe J⟨h,M,O,P⟩=>.inr ⟨fX,v.1,h,kZ (Ht:=g.fl) (op':=g.op) c U (O.mono λ_ c=>c.mine) P (by omega) c.fl (Kn.fail v) u⟩;have ad:=hjn c.inv (by omega) c.fl o G (n:=m) (by omega) (by omega) N;have e:d.extract (min (a:Int).toNat d.size) (min (min (a:Int).toNat d.size+(min m<|256-(a:Int)).toNat) d.size)=d.extract a (a+m.toNat):=by
   rw[qI,show(min m<|256-(a:Int)).toNat=min m.toNat (256-a) by omega];exact ht1 H<|by omega
  rw[e]at ad;apply (Ez B.wb k b m _ 0 _ w (c.cell j o) j ad).mono;rintro e J ⟨h,M,O,P⟩;refine .inl ⟨h,kZ (Ht:=g.fl) c U O P (by omega) c.fl (Kn.next v) ⟨⟨R,_,more,fX,l.opens j (fh (b,f,fg,_)) λx z=>?_⟩,ag⟩⟩
  grind
theorem QX(b f)(fg c a:Int)(i d:fO)(g:fq->Prop)(w:fq)(c0:w.c b 0=fh (ii f))(c1:w.c b 1=fh (fY fg))(c2:w.c b 2=fh (fY c))
  (v:(bits BinOp.and IntKind.i64 fg 2==0)=fo)(o:1<=d.size)(p:0<=gT fg c 0)(q:gT fg c 0+d.size<=256)(r:gT fg c i.size=a)(x:0<=a)(ha2:a<=256)(y:256<a+d.size)
  (s:ik 181 #[ii f] w λe J=>e=qr #[hZ i,fY 0]/\g J)
  (h:∀w1,g w1->w1.c b 0=fh (ii f)/\w1.c b 1=fh (fY fg)/\w1.c b 2=fh (fY c)):
  ik 123 #[ii b,hZ d] w λe J=>e=fF (fY 11)/\g J:=by
 have l:=ry b fg c 0 w c1 c2;have j:=λw1(m:g w1)=>ry b fg c i.size w1 (h w1 m).2.1 (h w1 m).2.2;simp only[r]at j;generalize gT fg c 0=H at l p q;have z:=pP o;have A:IntKind.i64.wrap (H+d.size)=H+d.size:=by rw[zv]<;>omega
 have B:IntKind.i64.wrap (a+d.size)=a+d.size:=by rw[zv]<;>omega
 have t:fe _:=h;have u:fe _:=j;clear h j;go_enter func123,ntmps123;go_wp2_with(first
  |(go_at_call_of 180 (Value.int .i64 0);refine l.still ?_)
  |(go_at_call 181;refine s.via λw1 k=>?_;obtain⟨C,D,E⟩:=t w1 k;have n:fe _:=k;clear k)
  |(go_at_call 180;refine(u.o _ n.o).still ?_))
 go_ret;exact⟨fX,n⟩
def KP{fg:Int}(b:0<=fg/\fg<=63)(a n:Int):gT fg a n=if ma fg 32=fm then n else a:=by
 unfold gT;rw[(Hq b).2.2.2.2.2]
theorem vV.write(g:vV A fl)(f)(d:fO):vV A (pD fl f<|fh (0,d)):=λb id h a c=>by
 by_cases e:b=f
 rw[e,ld]at a
 cases a
 exact absurd fX c
 rw[kx e]at a
 exact g b id h a c
theorem pkt(ap:tU s i p B A T w g I t E data rest)(Sb:Nat)(n:Int)(x:fO)(W:x.size<=1048576):um s i p B A T w g I E data rest fm 0 64 99 [fY n,hZ x] Sb:=by
 have⟨c,aH,U,_,ae,_,af⟩:=ap;have u:=ae;obtain⟨⟨X,hs,more,rfl,m⟩,aq⟩:=ae;have⟨aI,c0,ar⟩:=c.ws;have P:∀{J:fq},J=w->ju w J:=λe=>by rw[e];exact mi _ _
 rcases m.used n with⟨au,av⟩|⟨k,b,f,fg,D,Y,rfl,F,Q⟩
 exact um.same c U u 3 fX ((htl ar av x).mono λe J⟨h,o⟩=>⟨h,P o⟩) λj=>QU j m.h8 n x au;have⟨⟨y,G⟩,q,_⟩:=c.fg F;have⟨R,ag,c1,c2,aJ⟩:=RK c.inv F;have⟨_,ah,_⟩:=Hq q;have aK:=KP q D 0;have ws:∀{S:Int}{ai:fq->Prop},(ik 123 #[ii b,hZ x] w λe J=>e=fF (fY S)/\ai J)->ik 64 #[ii B.wb,fY (k:Int),hZ x] w λe J=>e=fF (fY S)/\ai J:=λH=>hji B.wb k b x _ _ w (c.cell Y F) Y H;have r:0<=gT fg D 0/\gT fg D 0<=256:=by
  omega
 cases v:ma fg 2 with
 |false=>
  exact um.same c U u 12 fX ((ws<|Hr x R c1 c2 r.1 r.2 W (.inl ⟨by rw[ah,v];rfl,fX⟩)).mono λe J⟨h,o⟩=>⟨h,P o⟩) λj=>Hs j m.h8 Q q<|.inl ⟨v,fX⟩
 |true=>
  have K:(bits BinOp.and IntKind.i64 fg 2==0)=fo:=by rw[ah,v];rfl
  by_cases aj:x.size=0
  ·obtain rfl:x=kq:=by
    apply Rs
    all_goals simp_all
   exact um.same c U u 0 fX ((ws<|SF b fg w c1 K).mono λe J⟨h,o⟩=>⟨h,P o⟩) λj=>Hs j m.h8 Q q<|.inr ⟨v,fX,fX⟩
  have⟨ak,Z,aa⟩:=CX c G;have ab:=m.cont f (by rw[G];simp);obtain⟨d,aw⟩:=oX<|gz A g.fl f;rw[<-aw]at Z aa ab;obtain⟨a,rfl⟩:∃a:Nat,D=(a:Int):=⟨D.toNat,by omega⟩;obtain⟨l,ac⟩:∃l:Nat,(ma fg 32=fm/\l=d.size)\/(ma fg 32=fo/\l=a):=by
   grind
  have al:gT fg (a:Int) (d.size:Int)=(l:Int):=by
   rw[KP q]
   grind
  have aL:gT fg (a:Int) 0<=(l:Int):=by
   grind
  have aM:l<=256:=by rcases ac with⟨ax,ay⟩|⟨ax,ay⟩<;>omega
  have am:∀{S:Int}{az:fQ}{aA:gX},AC A g.fl g.fs f=(ak,14,kq)/\g.fs.yR ak->gT fg (a:Int) 0+x.size<=256->ik 64 #[ii B.wb,fY (k:Int),hZ x] w λe J=>ZM s i p B A T w J g I E data (wn hs++more) fm (fY S) (fY 14) E az aA e:=λ⟨L,C⟩ad=>by
   have N:=nU c.inv (by omega) c.fl G;rw[L]at N;exact(ws<|XS b f fg (a:Int) 14 _ x _ w ag c1 c2 K (by omega) r.1 ad (by decide) N).mono λe J⟨h,an,V,O⟩=>.inr ⟨fX,C.1,h,kZ (Ht:=g.fl) (op':=g.op) c U (V.mono λ_ c=>c.mine) O (by omega) c.fl (Kn.fail C) u⟩
  by_cases ao:l+x.size<=256
  ·refine⟨0,0,kq,E,data.set (X f)<|ue d x l,wn (hs.set k (fm,(X f:Int),fg,(l:Int)+x.size))++more,fX,Ha _,by simp,xW m.h8 (by simp[m.h8]),?_,λj=>?_⟩
   rotate_left
   have⟨na,nc,da,dc,j⟩:=j;exact(acl j m.h8 Q ab q (by omega) aa v aj ac ao af).mono λe J⟨h,aB,aC⟩=>⟨h,xV aB aC⟩;rcases Z with⟨L,C⟩|H
   rotate_left
   exact am H (by omega);apply (ws<|YE c.inv (by omega) c.fl F K (by omega) r.1 (by omega) L al ao).mono;rintro e J ⟨h,M,aD,aE⟩;refine .inl ⟨h,kZ c U aD aE (by omega) (c.fl.write f _) (Kn.next C) ⟨⟨X,_,more,fX,(m.write (f:=f) (by rw[G];simp)<|ue d x l).opens Y (fh (b,f,fg,_)) λz aF=>?_⟩,aq.len<|by simp⟩⟩;cases aF;exact(IH _).2<|.inl fX
  refine⟨11,0,kq,E,data,wn hs++more,fX,Ha _,Ha _,fX,?_,λ⟨na,nc,da,dc,j⟩=>(QW j m.h8 Q ab q (by omega) aa v aj ac (by omega) W af).mono λe J⟨h,R⟩=>⟨h,Hu ⟨na,nc,da,dc,j⟩ R⟩⟩;by_cases ad:256<gT fg (a:Int) 0+x.size;exact(ws<|Hr x R c1 c2 r.1 r.2 W (.inr ⟨K,by omega,ad,fX⟩)).mono λe J⟨h,o⟩=>js c U u h<|P o;rcases Z with⟨L,C⟩|H
  rotate_left
  exact am H (by omega);have N:=nU c.inv (by omega) c.fl G;rw[L]at N;refine(ws (QX b f fg (a:Int) (l:Int) d x _ w ag c1 c2 K (by omega) r.1 (by omega) al (by omega) (by omega) (by omega) N λw1 aG=>?_)).mono ?_;have⟨an,V,O⟩:=aG;have⟨_,_⟩:=RK O F
  grind
  rintro e J ⟨h,an,V,O⟩;exact .inl ⟨h,kZ (Ht:=g.fl) (op':=g.op) c U (V.mono λ_ c=>c.mine) O (by omega) c.fl (Kn.next C) u⟩
theorem Ar(a f:Nat)(fg m b:Int)(c:fq->Prop)(w:fq)(i:a<w.heap.size)(c0:w.c a 0=fh (ii f))(c1:w.c a 1=fh (fY fg))(j:(bits BinOp.and IntKind.i64 fg 2==0)=fo)(k:0<=m)(l:m<=256)
  (d:ik 203 #[ii f,fY m] w λe J=>e=fF (fY b)/\c J):
  ik 164 #[ii a,fY m] w λe J=>e=fF (fY b)/\c J:=by
 have t0:decide (m<0)=fo:=yv (by omega);have t1:decide (256<m)=fo:=yv (by omega);have g:fe _:=d;clear d;go_enter func164,ntmps164;go_wp2_with(go_at_call 203;refine Ps g.o ?_;rintro e w1 ⟨rfl,h⟩);go_ret;exact⟨fX,h⟩
theorem MN(f)(a:fq->Prop)(w:fq)(b:ik 179 #[ii f] w λe J=>e=qr #[]/\a J):
  ik 203 #[ii f,fY 0] w λe J=>e=fF (fY 0)/\a J:=by
 have c:fe _:=b;clear b;go_enter func203,ntmps203;go_wp2_with(go_at_call 179;refine Ps c.o ?_;rintro e w1 ⟨rfl,d⟩);go_ret;exact⟨fX,d⟩
theorem MO{P:Program}(w:fq)(e k l d:ni)(g a f n m:Nat)(s:fO)(c:Array fu)(t)
  (o:P.underlying e=fh (.slice d))(hs:(P.info? d).map (·.size)=fh 1)(p:w.heap[g]?=fh (.cells c t (0,0)))(h:Nat.min s.size f=m)(u:a+m<=c.size):
  (Builtin.copy_ #[e,k] l #[my g a f n,hZ s]).run P w =
   .ok (goInt m) (w.setRow g (c.toList.take a++Lib.byteCells (s.data.toList.take m)++c.toList.drop (a+m)).toArray):=by
 have v:m<=s.size:=by rw[<-h];exact ih1 _ _
 have q:fv (Lib.byteCells<|s.data.toList.take m)=m:=by rw[hLO,kT,<-Cg];omega
 have j:=run_storeCells_at P g a t (Lib.byteCells<|s.data.toList.take m) 0 c w p (by omega)<|Lib.byteCells_one _;have x:List.take m (List.map (λb:UInt8=>Value.int IntKind.u8 (b.toNat:Int)) s.data.toList)=Lib.byteCells (s.data.toList.take m):=by
  rw[<-Wx];rfl
 rw[q]at j;simp only[Ee]at j;rcases r:P.info? d with _|i
 grind
 simp[Builtin.copy_,coe o,Builtin.lenOf,Builtin.firstCells,sizeOf,typeInfo,r,h]
 all_goals simp_all
theorem MP{P:Program}{j:Array Oper}{rest:List Oper}{b:Oper}{a:Act}{l:Exit->Act->fq->Prop}(r:b.guard=fj)(d x:Operand)(f n:ni)
  (u:b.op=.call { callee:=.builtin .copy,args:=#[d,x],argTypes:=#[f,n] })(h:ni)(v:P.underlying f=fh (.slice h))(y:(P.info? h).map (·.size)=fh 1)
  (g off i o m:Nat)(s:fO)(z:a.eval d=my g off i o)(hs:a.eval x=fA s)
  (c:Array fu)(t)(p:w.heap[g]?=fh (.cells c t (0,0)))(A:Nat.min s.size i=m)(B:off+m<=c.size)
  (new:Array fu)(C:new.toList=c.toList.take off++Lib.byteCells (s.data.toList.take m)++c.toList.drop (off+m))
  (D:∀J,fe (J.heap[g]?=fh (.cells new t (0,0)))->w.grownBy J (fh g)->wpList P j l rest (a.put b.dst<|goInt m) J):wpList P j l (b::rest) a w:=by
 refine cpu r λG E=>?_;have q:=MO (P:=P) w f n b.type h g off i o m s c t v y p A B;rw[<-C,Eta]at q;unfold Oper.wp;simp[execOp,u,resolve,invoke,builtin,z,hs,q,Result.andThen];exact E _ _ (D _ (KX w g _ _ t _ p) ⟨fX,fX,fX,by simp,λk H F=>EJ w g k _ λe=>F (by rw[e])⟩)
def ht3{a:List UInt8}{n m:Nat}(b:Nat.min (fv a) n=m):Lib.byteCells ((vu a n).take n)=(Lib.byteCells<|List.replicate n 0).take 0++Lib.byteCells (a.take m)++(Lib.byteCells<|List.replicate n 0).drop (0+m):=by
 have b:min (fv a) n=m:=b;unfold vu;rcases Nat.le_total (fv a) n with c|c
 rw[HP c]at b;subst b;rw[oM (l:=a++_) (by simp;omega),oM (l:=a)<|lw _];simp[Lib.byteCells];rw[Nat.min_eq_right c]at b;subst b;rw[show n-fv a=0 by omega];simp[Lib.byteCells]
def Wi(a)(n):fv ((vu a n).take n)=n:=by rw[kT,MJ];omega
def QY(d)(n):(lG d n).size=n:=by unfold lG ba;simp only[ByteArray.size,BZ,Wi]
def QZ(d):lG d 0=kq:=by unfold lG ba;rw[MZ]
theorem MQ(f n:Nat)(a:fO)(d:fq->Prop)(w:fq)(I:1<=n)(K:n<=256)(L:a.size<=256)
  (r:ik 181 #[ii f] w λe J=>e=qr #[hZ a,fY 0]/\d J)
  (g:∀w1,d w1->f<w1.heap.size/\(∃x y z,w1.c f 0=fh x/\w1.c f 1=fh y/\w1.c f 2=fh z)/\∀s,w1.frozen? (ie f s)=fo):
  ik 203 #[ii f,fY (n:Int)] w λe J=>e=fF (fY 0)/\∃w1 w2,d w1/\ju w1 w2/\J=mZ w2 f (lG a n):=by
 obtain⟨m,b⟩:∃m:Nat,Nat.min a.size n=m:=⟨_,fX⟩;have M:m<=n:=by rw[<-b];exact ifs _ _
 have⟨t,U,u,v,A⟩:=kM hba;have⟨h,c⟩:=oX ((vu a.data.toList n).take n:List UInt8);have B:fv h=n:=by rw[c,Wi]
 change fe _ at c b g
 go_enter func203,ntmps203;go_wp2_with(first
  |(go_at_call 181;refine r.via λw1 i=>?_;have j:fe _:=i;clear i)
  |(at_make;go_loud(refine hBw _ fX _ _ 204 fX 0 5 t _ 1 underlying204 U u v .i64 .i64 _ _ n fX fX fX fX ?_ ?_ (Fr _) ?_;go_must(rw[A];omega);go_must(unfold maxLen;omega);intro C k l;have⟨D,E,o⟩:=FM k;have F:fe (ju w1 C):=pz (mi _ _) l;clear k l))
  |(refine MP fX (.tmp 22) (.tmp 23) 204 9 fX 5 underlying204 LG w1.heap.size 0 n n m a fX fX D 5 E b ?_ (Lib.byteCells h).toArray ?_ ?_;go_must(rw[<-pq,o.o,hLO,Rm];omega);go_must(rw[o.o,c.o];exact ht3 (by rw[<-Cg];exact b));intro G H p;have q:=zR F p;clear p)
  |(go_at_call 212;go_loud(rw[<-B];refine(Vx _ q (g _ j) H).mono ?_;rintro e N ⟨rfl,rfl⟩)))
 go_ret;exact⟨fX,w1,G,j,q,by unfold lG ba;rw[<-c.o]⟩
theorem Ra(f)(m a:Int)(d)(b:fq->Prop)(w:fq)(i:m≠0)(j:a≠0)(c:ik 181 #[ii f] w λe J=>e=qr #[hZ d,fY a]/\b J):
  ik 203 #[ii f,fY m] w λe J=>e=fF (fY a)/\b J:=by
 have g:=c;go_enter func203,ntmps203;go_wp2_with(go_at_call 181;refine Hk g λw1 h=>?_);go_ret;exact⟨fX,h⟩
theorem hun(ac:tU s i p B A T w g I t E data rest)(Sb:Nat)(n z:Int):um s i p B A T w g I E data rest fm 0 100 101 [fY n,fY z] Sb:=by
 have⟨a,au,U,_,R,_,ad⟩:=ac;have v:=R;obtain⟨⟨G,hs,more,rfl,j⟩,ae⟩:=R;have⟨av,c0,af⟩:=a.ws;have H:∀{J:fq},J=w->ju w J:=λe=>by rw[e];exact mi _ _
 rcases j.used n with⟨ag,ah⟩|⟨k,b,f,fg,aw,S,rfl,K,L⟩
 exact um.same a U v 3 fX ((abs af ah z).mono λe J⟨c,o⟩=>⟨c,H o⟩) λh=>MI h j.h8 n z ag;have⟨⟨y,l⟩,x,_⟩:=a.fg K;have⟨q,M,c1,_⟩:=RK a.inv K;have⟨_,r,_⟩:=Hq x;have ws:∀{V:Int}{W:fq->Prop},(ik 164 #[ii b,fY z] w λe J=>e=fF (fY V)/\W J)->ik 100 #[ii B.wb,fY (k:Int),fY z] w λe J=>e=fF (fY V)/\W J:=λai=>adc B.wb k b z _ _ w (a.cell S K) S ai;by_cases X:z<0\/256<z;exact um.same a U v 2 fX ((ws<|DU z q c1 (.inl ⟨X,fX⟩)).mono λe J⟨c,o⟩=>⟨c,H o⟩) λh=>DV h j.h8 L x<|.inl ⟨X,fX⟩;cases C:ma fg 2 with
 |false=>
  exact um.same a U v 12 fX ((ws<|DU z q c1 (.inr ⟨by omega,by omega,by rw[r,C];rfl,fX⟩)).mono λe J⟨c,o⟩=>⟨c,H o⟩) λh=>DV h j.h8 L x (.inr ⟨by omega,by omega,C,fX⟩)
 |true=>
  have N:(bits BinOp.and IntKind.i64 fg 2==0)=fo:=by rw[r,C];rfl
  obtain⟨m,rfl⟩:∃m:Nat,z=(m:Int):=⟨z.toNat,by omega⟩;have⟨ax,Y,O⟩:=CX a l;have Z:=j.cont f (by rw[l];simp);have⟨d,aj⟩:=oX<|gz A g.fl f;rw[<-aj]at Y O Z;refine⟨0,0,kq,E,data.set (G f)<|lG d m,wn hs++more,fX,Ha _,by simp,fX,?_,λh=>?_⟩
  rotate_left
  have⟨na,nc,da,dc,h⟩:=h;exact(UO h j.h8 L Z x O C (by omega) ad).mono λe J⟨c,ak,al⟩=>⟨c,xV ak al⟩;have P:qz A (pD g.fl f<|fh (0,lG d m)) g.op t E (data.set (G f)<|lG d m) (wn hs++more):=⟨⟨G,hs,more,fX,j.write (f:=f) (by rw[l];simp)<|lG d m⟩,ae.len<|by simp⟩;by_cases am:m=0
  ·subst am
   rw[QZ]at P |-;apply (ws<|Ar b f fg _ 0 _ w q M c1 N (by omega) (by omega) (MN f _ w<|CI a.inv l)).mono;rintro e J ⟨c,an,ao⟩;exact .inl ⟨c,kZ (fs':=g.fs) (op':=g.op) a U (an.mono Pn) ao (by omega) (a.fl.write f _) (Kn.next<|b6.Next.refl _) P⟩
  have Q:=nU a.inv (by omega) a.fl l;rcases Y with⟨aa,D⟩|⟨aa,D⟩
  all_goals rw[aa]at Q
  rotate_left
  exact(ws<|Ar b f fg _ 14 _ w q M c1 N (by omega) (by omega) (Ra f _ 14 _ _ w (by omega) (by decide) Q)).mono λe J⟨c,ab,F,u⟩=>.inr ⟨fX,D.1,c,kZ (Ht:=g.fl) (op':=g.op) a U (F.mono λ_ a=>a.mine) u (by omega) a.fl (Kn.fail D) v⟩;refine(ws<|Ar b f fg _ 0 _ w q M c1 N (by omega) (by omega) (MQ f m d _ w (by omega) (by omega) O Q λw1 ap=>?_)).mono ?_;have⟨ab,F,u⟩:=ap;exact Gh u l;rintro e J ⟨c,w1,w2,⟨ab,F,u⟩,r,rfl⟩;have⟨aq,ar⟩:=(u.below r).Ge l (d:=lG d m) (by rw[QY];omega);exact .inl ⟨c,kZ (op':=g.op) a U ((F.mono λ_ a=>a.mine).trans<|(fI.fK r).trans (aq.mono Pn)) ar (by omega) (a.fl.write f _) (Kn.next D) P⟩
