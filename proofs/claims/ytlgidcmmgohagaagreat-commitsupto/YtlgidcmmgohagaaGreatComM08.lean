/- A part of the proof. -/
import Derived.Test.YtlgidcmmgohagaaGreatComM07
set_option linter.all false
namespace Go.Proofs.YtlgidcmmgohagaaGreat
open Go.RowKit Go.Sort Go.Shelf Go.Proofs.Tryz
open Go.Value renaming slice->fy,string->fA,pointer->fB,tuple->fC,agg->fD,bool->fE
open Go.Ending renaming returned->fF
open Option renaming some->fh,none->fj
open Bool renaming true->fm,false->fo
open Go renaming World->fq,Value->fu
open List renaming length->fv,reverse->fx
open Go.RowKit renaming Hid->fe
set_option maxRecDepth 100000
set_option maxHeartbeats 0
variable {i k:Nat}{data l:fT}{d p:fP}{E:List fV}{H:fq}
variable {F:Nat->Prop}{w:fq}{S nc dc:Nat}{na da:ig}{E:List fV}{data:fT}{rest:iN}
def kL (E:List fV)(l:fT)(i:Nat):Option Int:=if nz E (fG<|l.take i)≠2 then fh 5 else if nz E (fG<|l.take (i+1))=0 then fh 4 else fj
def WF (E:List fV)(l:fT):Int:=((List.range<|fv l).findSome?<|kL E l).getD 0
theorem gcd(b:∀a,a<fv l->kL E l a=fj):WF E l=0:=by
 grind [WF,rlr,KT]
theorem Ol{e:Int}(h:k<fv l)(c:∀a,a<k->kL E l a=fj)(d:kL E l k=fh e):WF E l=e:=by
 unfold WF;have f:List.range (fv l)=List.range k++k::(List.range<|fv l-k-1).map (k+1 + ·):=by
  have b:=@List.range_add k<|fv l-k;rw[show k+(fv l-k)=fv l by omega]at b;rw[b,show fv l-k=fv l-k-1+1 by omega,List.range_succ_eq_map,lM,Ed];simp only[Ee,Nat.add_sub_cancel]
  congr 2
  grind [KS]
 rw[f,hxz,rlr.2 λa g=>c a<|KT.1 g];simp[d]
theorem Bi(t:gp F w S na da nc dc E data rest)(g)(m c:Nat)(l)(u:lF w g m l)(D:∀x∈l,x.size<=12)(V:m<=2097152)(W:m<=c)(K:fv E<=1000000000):
  ik 153 #[ie S,fy g m c] w (PP (fY<|WF E l) w):=by
 have v:fe (lF w g m l):=u;have G:fe (∀p,ik 155 #[ie S,hh p] w<|PP (fY<|nz E p) w):=λp=>pL t p K;have H:fe (∀k,k<=m->ik 202 #[fy g k c] w (PP (hh<|fG (l.take k)) w)):=λk I=>FD g k c (l.take k) w (u.take k I) (λx L=>D x<|Av L) (by omega);clear u D t;go_enter func153,ntmps153;go_wp2
 go_loopw [5] (λi wr=>∃k:Nat,k<=m/\i=.int .i64 (k:Int)/\wr=w/\fe (∀a,a<k->kL E l a=fj)) (λi _=>m-(intOf i).toNat)
 case atStart=>exact⟨0,zt _,rfl,rfl,λa t=>by omega⟩
 case round=>
  obtain⟨k,I,rfl,rfl,o⟩:=hrel;by_cases M:k<m
  ·have J:k<fv l:=by rw[v.o.1];exact M
   have⟨X,off,N,_⟩:=v.2 (by omega);subst N;have h:=H k (by omega);have q:=H (k+1) (by omega);have d:=G<|fG (l.take k);have j:=G<|fG (l.take<|k+1);obtain⟨O,y⟩:=ol<|fG (l.take k);have⟨P,z⟩:=ol<|fG (l.take<|k+1);rw[<-y]at h d;rw[<-z]at q j;obtain⟨r,A⟩:=ol<|nz E O;obtain⟨s,B⟩:=ol<|nz E P;rw[<-A]at d;rw[<-B]at j;have C:fe (kL E l k=if r≠2 then fh 5 else if s=0 then fh 4 else fj):=Fr<|by unfold kL;rw[A,B,y,z]
   have Y:(k:Int)<=(c:Int):=by omega
   change fe _ at h q d j
   clear y z A B;by_cases b:r=2
   ·have Q:(r != 2)=fo:=by simp[b]
    by_cases f:s=0
    ·have R:(s==0)=fm:=by simp[f]
     have n:fe (WF E l=4):=Ol J o (by rw[C.o,km (by simp[b]),lv f]);clear b f;go_wp2_with fail;refine Calls.still h ?_;go_wp2_with fail;refine Calls.still d ?_;go_wp2_with fail;refine Calls.still q ?_;go_wp2_with fail;refine Calls.still j ?_;go_wp2;go_ret;exact⟨by rw[n.o];rfl,fX⟩
    have R:(s==0)=fo:=(by simp[f]);have T:fe (kL E l k=fj):=Fr<|by rw[C.o,km (by simp[b]),km f]
    clear b f;go_wp2_with fail;refine Calls.still h ?_;go_wp2_with fail;refine Calls.still d ?_;go_wp2_with fail;refine Calls.still q ?_;go_wp2_with fail;refine Calls.still j ?_;go_wp2;go_roundw
    case rel=>
     refine⟨k+1,by omega,by go_num,by trivial,λa U=>?_⟩;by_cases e:a=k;subst e;exact T;exact o a<|by omega
    case measure=>simp[intOf];omega
   have Q:(r != 2)=fm:=by simp[b]
   have n:fe (WF E l=5):=Ol J o (by rw[C.o,lv b]);clear b;go_wp2_with fail;refine Calls.still h ?_;go_wp2_with fail;refine Calls.still d ?_;go_wp2;go_ret;exact⟨by rw[n.o];rfl,fX⟩
  have Z:decide ((k:Int)<(m:Int))=fo:=yv (by omega);have n:fe (WF E l=0):=gcd λa U=>o a (by have:=v.1;omega);go_wp2;go_ret;exact⟨by rw[n.o];rfl,fX⟩
def Dj(b):∀x∈(jz b).1,fN x=fm:=by
 unfold jz;split;intro x a;cases a;split
 ·next h=>exact h
 intro x a;cases a
def jL(a):∀x∈(jz a).1,x.size<=12:=λx b=>(xp (Dj a x b)).2
def uA(a):(jz a).1.length<=a.size+1:=by
 unfold jz;split;exact zt _;split;exact Oj a _;exact zt _
def wn (p d:fP):Bool:=decide (0<(jz p).1.length)&&((fG<|(jz p).1.take ((jz p).1.length-1)).toList==d.toList)
theorem nM{w:fq}{a}{t}{z}{b}{m c}{d}(f:w.ownsRow a t z (fy b m c) m d):m<=c:=by
 rcases f.2 with⟨e,g⟩|⟨i,h,_,e,_,_,j,_⟩
 omega;rwa [(lK e).2.2]
theorem Dk(p d:fP)(w:fq)(t:p.size<=2097152):
  ik 162 #[hh p,hh d] w (ut (fE<|wn p d) w):=by
 have b:=lp p w t;have e:=jL p;have j:=uA p;obtain⟨a,f⟩:=ol<|(jz p).1;have g:fe (wn p d=(decide (0<fv a)&&((fG<|a.take (fv a-1)).toList==d.toList))):=Fr<|by unfold wn;rw[f]
 rw[<-f]at b e j;have u:fe (∀x∈a,x.size<=12):=e;obtain⟨n,k⟩:=ol<|fv a;rw[<-k]at b j g;have l:fe _:=b;clear b e f k;go_enter func162,ntmps162;go_wp2_with fail;refine RK l ?_;rintro _ O ⟨D,rfl,c,o⟩;obtain⟨v,y,rfl⟩:=po c;have E:=nM c;have q:fe _:=c;clear c l;by_cases h:0<n
 ·have F:0<(n:Int):=by omega
  obtain⟨m,z⟩:∃m:Nat,n=m+1:=⟨n-1,by omega⟩;have r:=FD v m y (a.take m) O (lF.take (PQ q) m<|by omega) (λx A=>u x<|Av A) (by omega);have B:fe _:=r;obtain⟨G,H,s⟩:=hZ q h;have C:=(lK s).1;subst C;have i:fe (wn p d=((fG<|a.take m).toList==d.toList)):=Fr<|by rw[g.o,qu h,show n-1=m by omega];rfl
  have I:(n:Int)-1=(m:Int):=by omega
  clear r s z;go_wp2_with fail;refine Calls.still B.o ?_;go_wp2;go_ret;exact⟨by rw[i.o];rfl,o⟩
 have i:fe (wn p d=fo):=Fr<|by rw[g.o,yv h];rfl
 go_wp2;go_ret;exact⟨by rw[i.o];rfl,o⟩
def rX (p:fP):fP:=(jz p).1.getD ((jz p).1.length-1) ⟨#[]⟩
def fU (E:List fV)(d:fP):List fV:=(E.filter λe=>wn e.1 d).map λe=>(rX e.1,0,0)
def WP (E:List fV)(d:fP):fT:=(Sx<|fU E d).map (·.1)
def Il(a:k<fv E)(b:wn E[k].1 d=fm):fU (E.take<|k+1) d=fU (E.take k) d++[(rX E[k].1,0,0)]:=by
 unfold fU;rw[vk a,coe,nh];simp[b]
def FE(a:k<fv E)(b:wn E[k].1 d=fo):fU (E.take<|k+1) d=fU (E.take k) d:=by
 unfold fU;rw[vk a,coe,nh];simp[b]
def Om(E)(d):∀e∈fU E d,e.1.size<=maxLen:=by
 intro e a;obtain⟨x,_,rfl⟩:=ja.1 a;show(rX x.1).size<=maxLen;unfold rX;rw[wK];rcases b:(jz x.1).1[(jz x.1).1.length-1]? with _|y
 exact zt _
 have:=jL x.1 y<|cex b
 exact wy this<|by decide
theorem Cz(ag:gp F w S na da nc dc E data rest)(d)(aD:fv E<=1000000000)(ah:∀e∈E,e.1.size<=2097152)(ai:fv (fU E d)<=16):
  ik 156 #[ie S,hh d] w λe H=>∃v,e=fF v/\H.ownsRow w.heap.size 9 1 v (fv<|WP E d) (gO<|WP E d)/\ju w H:=by
 have⟨aE,aF,aG,aH,aI⟩:=kC wO;have⟨aJ,U,aK,aL,aM⟩:=kC uz;have⟨n,B⟩:=ol<|fv E;rw[<-B]at aD
 change fe _ at ag ah ai B
 go_enter func156,ntmps156;go_wp2
 go_loopw [5,6] (λl i wr=>∃(k a:Nat) (h:(Option Addr)) (j:Nat),k<=n/\i=.int .i64 (k:Int)/\l=fy h a j/\a<=k/\ju w wr/\fe (a=fv (fU (E.take k) d))/\fe (wr.ownsRow w.heap.size 112 3 (fy h a j) a<|flat (fU (E.take k) d))) (λ_ i _=>n-(intOf i).toNat)
 case atStart=>exact⟨0,0,fj,0,zt _,rfl,rfl,lw _,mi _ _,rfl,kO _ _ _ _⟩
 case round=>
  obtain⟨k,a,h,j,bs,rfl,rfl,bt,C,K,r⟩:=hrel;have o:=ag.o.below C;have aj:=o.c0;have aN:=o.lt;rw[<-B.o]at aj;have T:=C.size;by_cases aO:k<n
  ·have L:k<fv E:=by rw[<-B.o];exact aO
   have D:=o.lT;have⟨M,bu,s⟩:=hZ D (by omega);have V:=(lK s).1;subst V;have⟨c0,_⟩:=lr (off:=0) (ks D) L;rw[iO]at c0;have aP:=gc D fX;have W:=ah _<|kN L;have⟨p,t⟩:=ol<|E[k].1;rw[<-t]at c0 W;have u:=Dk p d wr W;have bv:(k:Int)<(n:Int):=by omega
   cases c:wn p d with
   |false=>
    rw[c]at u;have N:fe _:=u;have G:fe (fU (E.take<|k+1) d=fU (E.take k) d):=FE L (by rw[<-t];exact c);clear u c t s D o;go_wp2_with fail;refine Calls.via N.o λO f=>?_
    have X:=C.trans<|f.mono T;have aQ:fe (O.ownsRow w.heap.size 112 3 (fy h a j) a<|flat (fU (E.take<|k+1) d)):=by show World.ownsRow _ _ _ _ _ _ _;rw[G.o];exact gg r.o λM aR=>f.block M<|gc r.o aR
    go_wp2;go_roundw
    case rel=>exact⟨k+1,a,h,j,by omega,by go_num,rfl,by omega,X,by show _=_;rw[G.o];exact K.o,aQ.o⟩
    case measure=>simp[intOf];omega
   |true=>
    rw[c]at u;have N:fe _:=u;have G:fe (fU (E.take<|k+1) d=fU (E.take k) d++[(rX p,0,0)]):=Fr<|by rw[Il L (by rw[<-t];exact c),t]
    have aS:0<(jz p).1.length:=by unfold wn at c;rw[EH]at c;exact BZ c.1
    have bw:fe (gp F wr S (fh<|ii M 0) da nc dc E data rest):=o;clear u c t s D o;go_wp2_with fail;refine Calls.via N.o λO f=>?_;have X:ju w O:=C.trans<|f.mono T;have bx:=(f.cell (p:=(ii S 0)) aN).trans aj;have bz:=(f.cell (p:=(ii M<|k*3)) aP).trans c0;have bA:=f.size;have ak:fe _:=lp p O W;go_wp2_with fail;apply RK ak.o;rintro _ P ⟨v,rfl,Q,Y⟩;obtain⟨aT,aU,rfl⟩:=po Q;have⟨bB,bC,s⟩:=hZ Q aS;have V:=(lK s).1;subst V;obtain⟨m,al⟩:∃m:Nat,(jz p).1.length=m+1:=⟨(jz p).1.length-1,by omega⟩;have am:fe (rX p=(jz p).1[m]):=Fr<|by unfold rX;rw[wK,show(jz p).1.length-1=m by omega,jH<|by omega];rfl
    have⟨bD,aV,bE,aW,_⟩:=row_one (tB Q<|zt _) (i:=m) (v:=fA<|rX p) (by rw[am.o];simp[gO,al]);cases aV;obtain⟨y,q⟩:=ol<|rX p;rw[<-q]at aW;have Z:fe (y=rX p):=q;obtain⟨sl,an⟩:=ol<|(jz p).1.length;have aX:sl=m+1:=by omega
    have bF:sl<=2097153:=by have:=uA p;omega
    rw[<-an];have bG:(sl:Int)-1=(m:Int):=by omega
    have bH:(m:Int)<(sl:Int):=(by omega);have ao:fe (P.ownsRow w.heap.size 112 3 (fy h a j) a<|flat (fU (E.take k) d)):=gg r.o (λx aY=>by have:=gc r.o aY;rw[Y.block x<|by omega,f.block x this]);have aZ:ju w P:=X.trans<|Y.mono (by omega);have bI:=Y.size;clear am Q s al q an aX ak N;go_wp2_with(at_builtin;refine yR _ fX (.tmp 44) (.tmp 52) 106 fX w.heap.size 112 aE _ 3 32 underlying106 aF aG aH aI fX (by decide) _ _ _ fX (ao.o.alloc _) (ii P.heap.size 0) 1 1 (pA (y,0,0)) fX fX (tS P (y,0,0) _ _ fX) (rx _) (by unfold maxLen;omega) (by omega) (by simp;omega) ?_);intro bb ap z I _;have bc:ju w ap:=Hb (aZ.alloc (by omega) _) (by simp;omega) (ao.alloc _) I;obtain⟨aq,ar,rfl⟩:=po z;have bd:fe (ap.ownsRow w.heap.size 112 3 (fy aq (a+1) ar) (a+1)<|flat (fU (E.take<|k+1) d)):=by show World.ownsRow _ _ _ _ _ _ _;rw[G.o,qr,tz,<-Z.o];exact z
    clear z I;go_wp2;go_roundw
    case rel=>exact⟨k+1,a+1,aq,ar,by omega,by go_num,rfl,by omega,bc,by show _=_;rw[G.o,K.o];simp,bd⟩
    case measure=>simp[intOf];omega
  have be:k=n:=by omega
  have bf:fe (E.take k=E):=oJ (by have:=B.o;omega);rw[bf.o]at K r;have bJ:a<=16:=by have:=ai.o;rw[<-K.o]at this;exact this
  have au:=zA h a j (fU E d) wr (ir r) (by omega)<|Om E d;have av:=au;have bK:=yv (by omega);rename fq=>bL;clear au o be;go_wp2_with fail;apply RK av;rintro _ A ⟨v,rfl,aa,aw⟩;obtain⟨aT,aU,rfl⟩:=po aa;have J:fe _:=aa;have bg:=C.trans<|aw.mono T;have bM:=aw.size;clear aa av;have⟨g,ab⟩:=ol<|Sx (fU E d);rw[<-ab]at J;have ax:fe (WP E d=g.map (·.1)):=Fr<|by unfold WP;rw[ab]
  have ac:fe (fv g=a):=Fr<|by have:=J.1;rw[ly]at this;omega
  clear ab;go_wp2
  go_loopw [10,11] (λbh i wr=>∃(b:Nat) (R:(Option Addr)) (co:Nat),b<=a/\i=.int .i64 (b:Int)/\bh=fy R b co/\ju A wr/\fe (wr.ownsRow A.heap.size 9 1 (fy R b co) b (gO ((g.take b).map (·.1))))) (λ_ i _=>a-(intOf i).toNat)
  case atStart=>exact⟨0,fj,0,zt _,rfl,rfl,mi _ _,kO _ _ _ _⟩
  case round=>
   obtain⟨b,R,co,bN,rfl,rfl,hbr,ad⟩:=hrel;have bi:=hbr.size;by_cases bj:b<a
   ·have ay:b<fv g:=by rw[ac.o];exact bj
    have⟨ae,bO,az⟩:=hZ J.o (by omega);have bk:=(lK az).1;subst bk;have bl:ae<A.heap.size:=gc J.o fX;have⟨af,_,_⟩:=lr (off:=0) (ks J.o) ay;rw[iO]at af;have bm:=(hbr.cell (p:=(ii ae<|b*3)) bl).trans af;have bQ:ae<wr.heap.size:=by omega
    obtain⟨y,q⟩:=ol<|g[b].1;rw[<-q]at bm;have Z:fe (y=g[b].1):=q;have bR:(b:Int)<(a:Int):=by omega
    clear af az q;go_wp2_with(at_builtin;refine yR _ fX (.tmp 62) (.tmp 68) 131 fX A.heap.size 9 aJ _ 1 16 underlying131 U aK aL aM fX (by decide) _ _ _ fX (ad.o.alloc _) (ii wr.heap.size 0) 1 1 [hh y] fX fX (one_cell _ _ _ _ fX) Bg (by unfold maxLen;omega) (by omega) (by simp;omega) ?_);intro bb aA z I _;have bn:ju A aA:=Hb (hbr.alloc bi _) (by simp;omega) (ad.alloc _) I;obtain⟨aB,aC,rfl⟩:=po z;have bo:fe (aA.ownsRow A.heap.size 9 1 (fy aB (b+1) aC) (b+1) (gO ((g.take<|b+1).map (·.1)))):=by
     rwa [vk ay,nh,gO,nh,lM,Cf,lM,Cf,<-Z.o,WD]
    clear z I;go_wp2;go_roundw
    case rel=>exact⟨b+1,aB,aC,by omega,by go_num,rfl,bn,bo⟩
    case measure=>simp[intOf];omega
   have bS:=yv (by omega);have bp:fe (b=a):=Fr<|by omega
   have bq:fe ((g.take b).map (·.1)=WP E d):=Fr<|by rw[ax.o,oJ (by rw[ac.o];omega)]
   have br:fe (fv (WP E d)=b):=Fr<|by rw[ax.o,oI,ac.o,bp.o]
   go_wp2;go_ret;refine⟨fy R b co,fX,?_,bg.trans<|hbr.mono (by omega)⟩;rw[br.o,<-bq.o];exact tB ad<|by omega
structure qA (nodes:List fV)(data:fT):Prop where
 big:nodes.length<=1000000000
 small:∀e∈nodes,e.1.size<=2097152
 few:∀d,(fU nodes d).length<=16
 files:∀e∈nodes,e.2.1=1->0<=e.2.2/\e.2.2<(data.length:Int)
def FF(M):fv (Sx M)=fv M:=(kJ M).length_eq
def qY(E)(d):fv (WP E d)=fv (fU E d):=by
 unfold WP;rw[oI,FF]
def xq (E:List fV)(l:fT):Int:=
 if WF E (l.take<|fv l-1)≠0 then WF E (l.take<|fv l-1)else if nz E (fG<|l.take (fv l-1))≠2 then 5 else 0
def iz (E:List fV)(p:fP):fT×Int:=
 if(jz p).2=fo then([],1)else if WF E (jz p).1≠0 then([],WF E (jz p).1)else if nz E p≠2 then([],5) else(WP E p,0)
theorem uB(c:gp F w S na da nc dc E data rest)(a:qA E data)(d):
  ik 154 #[ie S,hh d] w (ut (fY (fv (fU E d):Int)) w):=by
 have b:=Cz c d a.big a.small<|a.few d;rw[qY]at b;have⟨n,e⟩:=ol<|fv (fU E d);rw[<-e]at b |-;have g:=b;clear b c a e;go_enter func154,ntmps154;go_wp2_with fail;apply RK g;rintro _ O ⟨i,rfl,f,h⟩;obtain⟨j,k,rfl⟩:=po f;clear f;go_wp2;go_ret;exact⟨fX,h⟩
theorem Sz(i:gp F w S na da nc dc E data rest)(j:qA E data)(u)(m c:Nat)(l)(d:lF w u m l)(n:∀x∈l,x.size<=12)(L:m<=2097152)(D:0<m)(M:m<=c):
  ik 158 #[ie S,fy u m c] w (PP (fC #[hh<|fG (l.take<|fv l-1),fY<|xq E l]) w):=by
 have⟨v,off,G,N,_⟩:=d.2 D;subst G;obtain⟨k,H⟩:∃k:Nat,m=k+1:=⟨m-1,by omega⟩;have o:=FD (fh<|ii v off) k c (l.take k) w (d.take k<|by omega) (λx q=>n x<|Av q) (by omega);have r:=Bi i (fh<|ii v off) k c (l.take k) (d.take k<|by omega) (λx q=>n x<|Av q) (by omega) (by omega) j.big;have g:=pL i (fG<|l.take k) j.big;have s:fv l-1=k:=by have:=d.1;omega
 have b:fe (xq E l=if WF E (l.take k)≠0 then WF E (l.take k)else if nz E (fG<|l.take k)≠2 then 5 else 0):=Fr<|by unfold xq;rw[s]
 rw[s];obtain⟨p,y⟩:=ol<|fG (l.take k);have⟨e,z⟩:=ol<|WF E (l.take k);rw[<-y]at o g b |-;obtain⟨t,A⟩:=ol<|nz E p;rw[<-z]at r b;rw[<-A]at g b;have B:fe _:=o;have C:fe _:=r;have I:fe _:=g;have O:(m:Int)-1=(k:Int):=by omega
 clear o r g y z A s d n i j H;by_cases a:e=0
 ·have J:(e != 0)=fo:=by simp[a]
  by_cases f:t=2
  case' pos=>
   have K:(t != 2)=fo:=by simp[f]
   have h:fe (xq E l=0):=Fr<|by rw[b.o,km (by simp[a]),km (by simp[f])]
  case' neg=>
   have K:(t != 2)=fm:=by simp[f]
   have h:fe (xq E l=5):=Fr<|by rw[b.o,km (by simp[a]),lv f]
  all_goals
   clear a f;go_enter func158,ntmps158;go_wp2_with fail;refine Calls.still B.o ?_;go_wp2_with fail;refine Calls.still C.o ?_;go_wp2_with fail;refine Calls.still I.o ?_;go_wp2;go_ret2;exact⟨by rw[h.o];rfl,fX⟩
 have J:(e != 0)=fm:=by simp[a]
 have h:fe (xq E l=e):=Fr<|by rw[b.o,lv a]
 clear a;go_enter func158,ntmps158;go_wp2_with fail;apply Calls.still B.o;go_wp2_with fail;apply Calls.still C.o;go_wp2;go_ret2;exact⟨by rw[h.o];rfl,fX⟩
def jM{b}(a:(jz b).2=fm):(jz b).1.length<=5:=by
 unfold jz at a |-;split at a
 ·next h0=>rw[lv h0];exact zt _
 next h0=>
 rw[km h0];split at a
 ·next h1=>rw[lv h1];exact BZ a
 cases a
theorem XI(s:gp F w S na da nc dc E data rest)(c:qA E data)(p:fP)(G:p.size<=2097152):
  ik 91 #[ie S,hh p] w λe H=>∃h,e=pD #[h,fY (iz E p).2]/\H.ownsRow w.heap.size 9 1 h (iz E p).1.length (gO (iz E p).1)/\ju w H:=by
 have a:=lp p w G;have t:=jL p;cases d:(jz p).2 with
 |false=>
  have f:fe (iz E p=([],1)):=Fr<|by unfold iz;rw[lv d]
  rw[d]at a;have o:fe _:=a;clear a d s c;go_enter func91,ntmps91;go_wp2_with fail;apply RK o;rintro _ O ⟨h,rfl,i,g⟩;clear i;go_wp2;go_ret2;rw[f.o];exact⟨_,fX,kO _ _ _ _,g⟩
 |true=>
  have x:=jM d;rw[d]at a;have⟨k,u⟩:=ol<|(jz p).1;have l:fe (iz E p=if WF E k≠0 then([],WF E k)else if nz E p≠2 then([],5) else(WP E p,0)):=Fr<|by unfold iz;rw[km (by rw[d];decide),u]
  rw[<-u]at a t x;obtain⟨n,y⟩:=ol<|fv k;rw[<-y]at a x;have o:fe _:=a
  change fe _ at t s c
  clear a d u y;go_enter func91,ntmps91;go_wp2_with fail;apply RK o;rintro _ O ⟨h,rfl,i,g⟩;obtain⟨I,J,rfl⟩:=po i;have q:=s.below g;have m:=Bi q I n J k (PQ i) t (by omega) (nM i) c.big;have r:=pL q p c.big;have z:=Cz q p c.big c.small<|c.few p;have⟨e,A⟩:=ol<|WF E k;obtain⟨v,B⟩:=ol<|nz E p;rw[<-A]at m l;rw[<-B]at r l;have C:=g.size
  change fe _ at m r z
  clear A B i q o;by_cases b:e=0
  ·have K:(e != 0)=fo:=by simp[b]
   by_cases j:v=2
   ·have L:(v != 2)=fo:=by simp[j]
    have f:fe (iz E p=(WP E p,0)):=Fr<|by rw[l.o,km (by simp[b]),km (by simp[j])]
    clear b j;go_wp2_with fail;refine Calls.still m ?_;go_wp2_with fail;refine Calls.still r ?_;go_wp2_with fail;apply RK z;rintro _ N ⟨h,rfl,D,M⟩
    change fe _ at D
    go_wp2;go_ret2;rw[f.o];exact⟨h,fX,tB D C,g.trans<|M.mono C⟩
   have L:(v != 2)=fm:=by simp[j]
   have f:fe (iz E p=([],5)):=Fr<|by rw[l.o,km (by simp[b]),lv j]
   clear b j;go_wp2_with fail;refine Calls.still m ?_;go_wp2_with fail;refine Calls.still r ?_;go_wp2;go_ret2;rw[f.o];exact⟨_,fX,kO _ _ _ _,g⟩
  have K:(e != 0)=fm:=by simp[b]
  have f:fe (iz E p=([],e)):=Fr<|by rw[l.o,lv b]
  clear b;go_wp2_with fail;refine Calls.still m ?_;go_wp2;go_ret2;rw[f.o];exact⟨_,fX,kO _ _ _ _,g⟩
def AC (p t:fP):Bool:=if a:t.size+1<p.size then((p.extract 0 t.size).toList==t.toList)&&decide (p[t.size]'(by omega)=47)else fo
def vx (E:List fV)(p:fP):List fV:=E.filter λe=>!(e.1.toList==p.toList)&&!(AC e.1 p)
theorem uC(p t:fP)(w:fq)(g:p.size<=2097152)(h:t.size<=2097152):
  ik 161 #[hh p,hh t] w (PP (fE<|AC p t) w):=by
 by_cases c:t.size+1<p.size
 ·have i:(t.size:Int)+1<(p.size:Int):=by omega
  cases d:((p.extract 0 t.size).toList==t.toList) with
  |true=>
   by_cases b:p[t.size]=47
   case' pos=>
    have f:((p[t.size].toNat:Int)==47)=fm:=by rw[b];rfl
    have a:fe (AC p t=fm):=Fr<|by unfold AC;rw[dif_pos c,d,qu b];rfl
   case' neg=>
    have f:((p[t.size].toNat:Int)==47)=fo:=EE.2 λe=>b<|cse.1 (by have:(47:UInt8).toNat=47:=fX;omega);have a:fe (AC p t=fo):=Fr<|by unfold AC;rw[dif_pos c,d,yv b];rfl
   all_goals
    clear b;go_enter func161,ntmps161;go_wp2;go_ret;exact⟨by rw[a.o];rfl,fX⟩
  |false=>
   have a:fe (AC p t=fo):=Fr<|by unfold AC;rw[dif_pos c,d];rfl
   go_enter func161,ntmps161;go_wp2;go_ret;exact⟨by rw[a.o];rfl,fX⟩
 have a:fe (AC p t=fo):=Fr<|by unfold AC;rw[dif_neg c]
 go_enter func161,ntmps161;go_wp2;go_ret;exact⟨by rw[a.o];rfl,fX⟩
def gi (F:Nat->Prop)(w:fq)(S:Nat)(E:List fV)(data:fT)(rest:iN):Prop:=∃na nc da dc,gp F w S na da nc dc E data rest
theorem LA(a:k<fv E)(b:(!(E[k].1.toList==p.toList)&&!(AC E[k].1 p))=fm):vx (E.take<|k+1) p=vx (E.take k) p++[E[k]]:=by
 grind [vx,vk,coe]
theorem zg(a:k<fv E)(b:(!(E[k].1.toList==p.toList)&&!(AC E[k].1 p))=fo):vx (E.take<|k+1) p=vx (E.take k) p:=by
 grind [vx,vk,coe]
def uD:(prog.info? 200).map (λi=>(i.zero,i.size,i.bytes))=fh (fh<|fD #[hh ByteArray.empty,fY 0,fY 0],3,32):=by kernel_rfl
theorem gp.Oo(c:gp F w S na da nc dc E data rest){wr}(d:ju w wr){g}{f co:Nat}{h:List fV}(l:f=fv h)(i:wr.ownsRow w.heap.size 200 3 (fy g f co) f (flat h)):
  gi (kA F w<|wr.setCell (ii S 0) (fy g f co)) (wr.setCell (ii S 0)<|fy g f co) S h data rest/\fH F w (wr.setCell (ii S 0)<|fy g f co):=by
 subst l;have m:=(d.block S c.lt).trans c.hS;have o:=d.size;have p:∀{t:lV}{q z n:Nat}{j:fu}{r:iN},wr.ownsRow q t z j n r->179≠t->∀a,j.ownBlock=fh a->a≠S:=λs u a b e=>io s m u (by grind)
 refine⟨⟨g,co,da,dc,⟨.inl c.fS,?_,tB (gg i λa b=>vh _ _ _ _<|p i (by decide) a b)<|zt _,?_,?_,?_⟩⟩,⟨d.os,d.tape,d.output,by simpa using o,λk v x=>?_⟩⟩
 grind [World.setCell,BV]
 have y:=gg c.jq λa b=>d.block a<|gc c.jq b
 grind [gg,vh,decide]
 intro a b
 have:=i.lt a b
 exact .inr ⟨this.1,by simpa using this.2⟩;intro a b;exact .inl<|c.fd a b;rw[vh _ _ _ _ λe=>x (by rw[show k=S from e];exact c.fS),d.block k v]
theorem Oq(u:gp F w S na da nc dc E data rest)(v:qA E data)(p:ByteArray)(J:p.size<=2097152):
  ik 160 #[ie S,hh p] w λe H=>e=pD #[]/\gi (kA F w H) H S (vx E p) data rest/\fH F w H:=by
 have⟨K,U,L,M,N⟩:=kC uD;have⟨n,m⟩:=ol<|fv E;have aa:n<=1000000000:=by rw[m];exact v.big
 change fe _ at u v m
 go_enter func160,ntmps160;go_wp2
 go_loopw [4,5] (λO i wr=>∃(k a:Nat) (o:(Option Addr)) (co:Nat),k<=n/\i=.int .i64 (k:Int)/\O=fy o a co/\a<=k/\ju w wr/\fe (a=fv (vx (E.take k) p))/\fe (wr.ownsRow w.heap.size 200 3 (fy o a co) a<|flat (vx (E.take k) p))) (λ_ i _=>n-(intOf i).toNat)
 case atStart=>exact⟨0,0,fj,0,zt _,rfl,rfl,lw _,mi _ _,rfl,kO _ _ _ _⟩
 case round=>
  obtain⟨k,a,o,co,ab,rfl,rfl,ac,g,q,h⟩:=hrel;have b:=u.below g;have P:=b.c0;have ad:=b.lt;rw[<-m.o]at P;have Q:=g.size;by_cases R:k<n
  ·have r:k<fv E:=by rw[<-m.o];exact R
   have j:=b.lT;have⟨ae,af,t⟩:=hZ j (by omega);have T:=(lK t).1;subst T;have⟨c0,c1,c2⟩:=lr (off:=0) (ks j) r;rw[iO]at c0 c1 c2;have ag:=gc j fX;have A:=v.small _<|kN r;obtain⟨x,c⟩:=ol<|E[k];rw[<-c]at c0 c1 c2 A;have f:=uC x.1 p wr A J;have ah:(k:Int)<(n:Int):=by omega
   cases s:(x.1.toList==p.toList) with
   |true=>
    have V:(x.1.toList != p.toList)=fo:=by rw[bne,s];rfl
    have d:fe (vx (E.take<|k+1) p=vx (E.take k) p):=zg r (by rw[<-c,s];rfl);clear f c t j b;go_wp2;go_roundw
    case rel=>exact⟨k+1,a,o,co,by omega,by go_num,rfl,by omega,g,by show _=_;rw[d.o];exact q,by show World.ownsRow _ _ _ _ _ _ _;rw[d.o];exact h⟩
    case measure=>simp[intOf];omega
   |false=>
    have V:(x.1.toList != p.toList)=fm:=by rw[bne,s];rfl
    cases l:AC x.1 p with
    |true=>
     have d:fe (vx (E.take<|k+1) p=vx (E.take k) p):=zg r (by rw[<-c,s,l];rfl);rw[l]at f;have y:fe _:=f;clear f c t j b l;go_wp2_with fail;apply Calls.still y.o;go_wp2;go_roundw
     case rel=>exact⟨k+1,a,o,co,by omega,by go_num,rfl,by omega,g,by show _=_;rw[d.o];exact q,by show World.ownsRow _ _ _ _ _ _ _;rw[d.o];exact h⟩
     case measure=>simp[intOf];omega
    |false=>
     have d:fe (vx (E.take<|k+1) p=vx (E.take k) p++[x]):=Fr<|by rw[LA r (by rw[<-c,s,l];rfl),<-c]
     rw[l]at f;have y:fe _:=f;clear f c t j b l;go_wp2_with fail;apply Calls.still y.o;rename fq=>B
     go_wp2_with(at_builtin;refine yR _ fX (.tmp 33) (.tmp 41) 174 fX w.heap.size 200 K _ 3 32 underlying174 U L M N fX (by decide) _ _ _ fX (h.alloc _) (ii B.heap.size 0) 1 1 (pA x) fX fX (tS B x _ _ fX) (rx _) (by unfold maxLen;omega) (by omega) (by simp;omega) ?_);intro ai C z D _;have W:ju w C:=Hb (g.alloc Q _) (by simp;omega) (h.alloc _) D;obtain⟨G,I,rfl⟩:=po z;have X:fe (C.ownsRow w.heap.size 200 3 (fy G (a+1) I) (a+1)<|flat (vx (E.take<|k+1) p)):=by show World.ownsRow _ _ _ _ _ _ _;rw[d.o,qr,tz];exact z
     clear z D;go_wp2;go_roundw
     case rel=>exact⟨k+1,a+1,G,I,by omega,by go_num,rfl,by omega,W,by show _=_;rw[d.o,q.o];simp,X⟩
     case measure=>simp[intOf];omega
  have Y:fe (E.take k=E):=oJ (by have:=m.o;omega);rw[Y.o]at q h;have aj:wr.frozen? (ii S 0)=fo:=by simp[World.frozen?,b.hS]
  have Z:fe _:=u.Oo g q h;clear b;go_wp2;go_end0;exact⟨fX,Z⟩
def rb (E:List fV)(p:fP):List fV×Int:=
 if(jz p).2=fo then(E,1)else if(jz p).1.length=0 then(E,9)else if WF E (jz p).1≠0 then(E,WF E (jz p).1)else if 0<fv (fU E p) then(E,8) else(vx E p,0)
def ww (E:List fV)(p:fP):List fV×Int:=
 if(jz p).2=fo then(E,1)else if(jz p).1.length=0 then(E,6)else if xq E (jz p).1≠0 then(E,xq E (jz p).1)else if nz E p≠0 then(E,6)
 else if 16<=fv (fU E<|fG ((jz p).1.take<|(jz p).1.length-1)) then(E,11) else(E++[(p,2,0)],0)
theorem gi.below(a:gi F w S E data rest)(b:ju w H):gi (kA F w H) H S E data rest:=by
 have⟨na,nc,da,dc,a⟩:=a;exact⟨na,nc,da,dc,(a.below b).keep (λ_ a=>.inl a) λ_ _=>rfl⟩
theorem Ot(g:gp F w S na da nc dc E data rest)(D:qA E data)(p:fP)(G:p.size<=2097152):
  ik 96 #[ie S,hh p] w λe H=>e=fF (fY (rb E p).2)/\gi (kA F w H) H S (rb E p).1 data rest/\fH F w H:=by
 have d:=lp p w G;have z:=jL p;have U:fe (gp F w S na da nc dc E data rest):=g;have A:fe (qA E data):=D;have r:fe (∀H,ju w H->gi (kA F w H) H S E data rest/\fH F w H):=λH a=>⟨gi.below ⟨na,nc,da,dc,g⟩ a,fH.fJ a⟩;clear g D;cases h:(jz p).2 with
 |false=>
  have c:fe (rb E p=(E,1)):=Fr<|by unfold rb;rw[lv h]
  rw[h]at d;have m:fe _:=d;clear d h;go_enter func96,ntmps96;go_wp2_with fail;apply RK m;rintro _ O ⟨V,rfl,i,a⟩;clear i;go_wp2;go_ret;rw[c.o];exact⟨fX,r _ a⟩
 |true=>
  have I:=jM h;rw[h]at d;obtain⟨j,B⟩:=ol<|(jz p).1;have l:fe (rb E p=if fv j=0 then(E,9)else if WF E j≠0 then(E,WF E j)else if 0<fv (fU E p) then(E,8) else(vx E p,0)):=Fr<|by unfold rb;rw[km (by rw[h];decide),B]
  rw[<-B]at d z I;have W:fe (∀x∈j,x.size<=12):=z;obtain⟨n,J⟩:=ol<|fv j;rw[<-J]at d I l;have m:fe _:=d;clear d h B z J;go_enter func96,ntmps96;go_wp2_with fail;apply RK m;rintro _ O ⟨V,rfl,i,a⟩;obtain⟨X,Y,rfl⟩:=po i;have Z:=nM i;have o:=U.below a;have K:=a.size;by_cases b:n=0
  ·have c:fe (rb E p=(E,9)):=Fr<|by rw[l.o,lv b]
   have aa:((n:Int)==0)=fm:=by simp[b]
   clear b i o m;go_wp2;go_ret;rw[c.o];exact⟨fX,r _ a⟩
  have aa:((n:Int)==0)=fo:=by simp[b]
  have q:=Bi o X n Y j (PQ i) W (by omega) Z A.big;have s:=uB o A p;obtain⟨e,L⟩:=ol<|WF E j;obtain⟨t,M⟩:=ol<|fv (fU E p);rw[<-L]at q l;rw[<-M]at s l
  change fe _ at q s o
  clear L M i m;by_cases f:e=0
  ·have ab:(e != 0)=fo:=by simp[f]
   by_cases u:0<t
   ·have N:(0:Int)<(t:Int):=by omega
    have c:fe (rb E p=(E,8)):=Fr<|by rw[l.o,km b,km (by simp[f]),lv u]
    clear f u b;go_wp2_with fail;refine Calls.still q ?_;go_wp2_with fail;refine Calls.via s λP v=>?_
    go_wp2;go_ret;rw[c.o];exact⟨fX,r _<|a.trans (v.mono K)⟩
   have N:decide ((0:Int)<(t:Int))=fo:=yv (by omega);have c:fe (rb E p=(vx E p,0)):=Fr<|by rw[l.o,km b,km (by simp[f]),km u]
   obtain rfl:t=0:=by omega
   clear f u b N;go_wp2_with fail;refine Calls.still q ?_;go_wp2_with fail;refine Calls.via s λP v=>?_
   have Q:ju w P:=a.trans<|v.mono K;have R:fe _:=Oq (gp.below o v) A p G;go_wp2_with fail;refine Calls.via R.o λC⟨y,T⟩=>?_;have ai:=Q.size;have ac:fe (gi (kA F w C) C S (vx E p) data rest/\fH F w C):=by
    have⟨ad,ae,af,ag,y⟩:=y;exact⟨⟨ad,ae,af,ag,y.keep (λk ah=>by rcases ah with g|g;exact .inl g;exact .inr ⟨by omega,g.2⟩) λ_ _=>rfl⟩,fH.after T Q⟩
   clear y T R;go_wp2;go_ret;rw[c.o];exact⟨fX,ac⟩
  have ab:(e != 0)=fm:=by simp[f]
  have c:fe (rb E p=(E,e)):=Fr<|by rw[l.o,km b,lv f]
  clear f b;go_wp2_with fail;refine Calls.still q ?_;go_wp2;go_ret;rw[c.o];exact⟨fX,r _ a⟩
theorem gp.push(a:gp F w S na da nc dc E data rest){b R:Nat}{x}(e:H.heap[S]?=fh (.cells ((Value.slice na (fv E) nc::Value.slice da (fv data) dc::rest).toArray.setIfInBounds 0<|my b 0 (fv E+1) R) 179 (0,0))/\
   H.ownsRow 0 200 3 (my b 0 (fv E+1) R) (fv E+1) (flat E++pA x)/\((fh b:Option Nat)=(Value.slice na (fv E) nc).ownBlock\/w.heap.size<=b)/\fH (λk=>k=S\/fh k=(Value.slice na (fv E) nc).ownBlock) w H):
  gi (kA F w H) H S (E++[x]) data rest/\fH F w H:=by
 have⟨i,f,g,d⟩:=e;have h:fv (E++[x])=fv E+1:=by simp
 refine⟨⟨fh<|ii b 0,R,da,dc,⟨.inl a.fS,?_,?_,nC a.jq d a.hS (by decide) λb c=>IR a.jq a.lT (by decide) c,?_,?_⟩⟩,uk d a.fS a.fn⟩
 grind
 grind [qr,tz]
 rw[h];exact AF f g a.fn;intro b c;exact .inl<|a.fd b c
theorem SA(o:gp F w S na da nc dc E data rest)(W:qA E data)(p:fP)(aj:p.size<=2097152):
  ik 95 #[ie S,hh p] w λe H=>e=fF (fY (ww E p).2)/\gi (kA F w H) H S (ww E p).1 data rest/\fH F w H:=by
 have⟨ak,U,al,am,an⟩:=kC uD;have h:=lp p w aj;have K:=jL p;have ao:fe (gp F w S na da nc dc E data rest):=o;have D:fe (qA E data):=W;have y:fe (∀H,ju w H->gi (kA F w H) H S E data rest/\fH F w H):=λH a=>⟨gi.below ⟨na,nc,da,dc,o⟩ a,fH.fJ a⟩;clear o W;cases q:(jz p).2 with
 |false=>
  have b:fe (ww E p=(E,1)):=Fr<|by unfold ww;rw[lv q]
  rw[q]at h;have z:fe _:=h;clear h q;go_enter func95,ntmps95;go_wp2_with fail;apply RK z;rintro _ O ⟨ap,rfl,r,a⟩;clear r;go_wp2;go_ret;rw[b.o];exact⟨fX,y _ a⟩
 |true=>
  have X:=jM q;rw[q]at h;obtain⟨d,L⟩:=ol<|(jz p).1;have f:fe (ww E p=if fv d=0 then(E,6)else if xq E d≠0 then(E,xq E d)else if nz E p≠0 then(E,6)else if 16<=fv (fU E<|fG (d.take<|fv d-1)) then(E,11) else(E++[(p,2,0)],0)):=by
   show _=_;unfold ww;rw[km (by rw[q];decide),L]
  rw[<-L]at h K X;obtain⟨Y,M⟩:=ol<|fG (d.take<|fv d-1);rw[<-M]at f;obtain⟨n,Z⟩:=ol<|fv d;rw[<-Z]at h X f;have z:fe _:=h
  change fe _ at K M
  clear h q L Z;go_enter func95,ntmps95;go_wp2_with fail;apply RK z;rintro _ O ⟨ap,rfl,r,a⟩;obtain⟨aq,ar,rfl⟩:=po r;have au:=nM r;have v:=ao.below a;have N:=a.size;by_cases c:n=0
  ·have b:fe (ww E p=(E,6)):=Fr<|by rw[f.o,lv c]
   subst c;clear r v z;go_wp2;go_ret;rw[b.o];exact⟨fX,y _ a⟩
  have aH:((n:Int)==0)=fo:=by simp[c]
  have s:=Sz v D aq n ar d (PQ r) K (by omega) (by omega) au;rw[<-M.o]at s;have A:=pL v p D.big;have B:=uB v D Y;obtain⟨e,aa⟩:=ol<|xq E d;obtain⟨P,ab⟩:=ol<|nz E p;obtain⟨G,ac⟩:=ol<|fv (fU E Y);rw[<-aa]at s f;rw[<-ab]at A f;rw[<-ac]at B f
  change fe _ at s A B v
  clear aa ab ac r z;by_cases g:e=0
  ·have av:(e != 0)=fo:=by simp[g]
   by_cases j:P=0
   ·have aw:(P != 0)=fo:=by simp[j]
    by_cases ad:16<=G
    ·have ax:(16:Int)<=(G:Int):=by omega
     have b:fe (ww E p=(E,11)):=Fr<|by rw[f.o,km c,km (by simp[g]),km (by simp[j]),lv ad]
     clear g j c;go_wp2_with fail;refine Calls.still s ?_;go_wp2_with fail;refine Calls.still A ?_;go_wp2_with fail;refine Calls.via B λl x=>?_
     go_wp2;go_ret;rw[b.o];exact⟨fX,y _<|a.trans (x.mono N)⟩
    have ax:decide ((16:Int)<=(G:Int))=fo:=yv (by omega);have aI:¬(16:Int)<=(G:Int):=by omega
    have b:fe (ww E p=(E++[(p,2,0)],0)):=Fr<|by rw[f.o,km c,km (by simp[g]),km (by simp[j]),km ad]
    clear g j c;go_wp2_with fail;refine Calls.still s ?_;go_wp2_with fail;refine Calls.still A ?_;go_wp2_with fail;refine Calls.via B λl x=>?_
    have ae:ju w l:=a.trans<|x.mono N;have C:=gp.below v x;have ay:=C.c0;have aJ:=C.lt;obtain⟨m,t⟩:=ol<|fv E;have aK:m<=1000000000:=by rw[t];exact D.big
    have af:fe (m=fv E):=t;have Q:fe (l.ownsRow 0 200 3 (fy na m nc) m<|flat E):=by rw[t];exact C.lT
    have ag:fe (gp F l S na da nc dc E data rest):=C;rw[<-t]at ay;clear C t;go_wp2_with(at_builtin;refine yn fX (.tmp 44) (.tmp 47) 174 fX 0 200 ak _ 3 32 underlying174 U al am an fX (by decide) (fy na m nc) m (flat E) fX (rE Q _) (ii l.heap.size 0) 1 1 (pA (p,2,0)) fX fX (tS l (p,2,0) _ _ fX) (rx _) (by unfold maxLen;omega) (by omega) (zt _) ?_);intro aL u R I ah;obtain⟨T,c3,rfl⟩:=hZ R (by omega);have J:=ag.hS;have V:=mW J (PH _ _) (by simp) I<|io Q J (by decide);have aM:l.heap.size<=u.heap.size:=by have:=I.size;simp at this;omega
    have aN:u.c S 0=fh (fy na m nc):=by rw[af.o];simp[World.cell?,V]
    have aO:u.frozen? (ii S 0)=fo:=(by simp[World.frozen?,V]);have aP:S<u.heap.size:=by omega
    have ai:=jk (i:=0) J Q (by decide) (PH _ _) (by simp) ⟨fX,fX,fX⟩ R I ah (by simp);have az:fe (gi (kA F w<|u.setCell (ii S 0) (my T 0 (m+1) c3)) (u.setCell (ii S 0)<|my T 0 (m+1) c3) S (E++[(p,2,0)]) data rest/\fH F w (u.setCell (ii S 0)<|my T 0 (m+1) c3)):=by
     have t:=af.o;subst t;have⟨⟨aA,aB,aC,aD,aE⟩,aF⟩:=ag.push ai
     have:=ae.size
     exact⟨⟨aA,aB,aC,aD,aE.keep (λk aG=>by rcases aG with o|o;exact .inl o;exact .inr ⟨by omega,o.2⟩) λ_ _=>rfl⟩,fH.after aF ae⟩
    clear R I ah ai V J;go_wp2;go_ret;rw[b.o];exact⟨fX,az⟩
   have aw:(P != 0)=fm:=by simp[j]
   have b:fe (ww E p=(E,6)):=Fr<|by rw[f.o,km c,km (by simp[g]),lv j]
   clear g j c;go_wp2_with fail;refine Calls.still s ?_;go_wp2_with fail;refine Calls.still A ?_;go_wp2_with fail;refine Calls.via B λl x=>?_
   go_wp2;go_ret;rw[b.o];exact⟨fX,y _<|a.trans (x.mono N)⟩
  have av:(e != 0)=fm:=by simp[g]
  have b:fe (ww E p=(E,e)):=Fr<|by rw[f.o,km c,lv g]
  clear g c;go_wp2_with fail;refine Calls.still s ?_;go_wp2;go_ret;rw[b.o];exact⟨fX,y _ a⟩
def oA (E:List fV)(data:fT)(p:fP):Int×Int:=
 match Pl E p with
 |some i=>if((E[i]?).map (λe:fV=>e.2.1)).getD 0=1 then(1,((data.getD (((E[i]?).map (λe:fV=>e.2.2)).getD 0).toNat ⟨#[]⟩).size:Int)) else(2,(fv (fU E p):Int))
 |none=>(2,(fv (fU E p):Int))
def kX (E:List fV)(data:fT)(p:fP):(Int×Int)×Int:=
 if(jz p).2=fo then((0,0),1)else if WF E (jz p).1≠0 then((0,0),WF E (jz p).1) else(oA E data p,0)
def Ou(a:Pl E p=fj):oA E data p=(2,(fv (fU E p):Int)):=by unfold oA;rw[a]
theorem SB(a:Pl E p=fh i)(U:i<fv E)(b:E[i].2.1≠1):oA E data p=(2,(fv (fU E p):Int)):=by
 grind [oA,jH,oV,sA]
theorem Ov{i a:Nat}(b:Pl E p=fh i)(U:i<fv E)(c:E[i].2.1=1)(d:E[i].2.2=(a:Int))(e:a<fv data):oA E data p=(1,(data[a].size:Int)):=by
 grind [oA,jH,oV,sA,qE,wK]
theorem XJ(M:gp F w S na da nc dc E data rest)(N:qA E data)(p:fP)(ap:p.size<=2097152)(aq:fv data<=1000000000):
  ik 90 #[ie S,hh p] w (ut (fC #[fD #[fY (kX E data p).1.1,fY (kX E data p).1.2],fY (kX E data p).2]) w):=by
 have ab:∀G,ju w (w.alloc G):=λG=>(mi _ _).alloc (lw _) _;have h:=λG=>lp p (w.alloc G) ap;have P:=jL p;cases s:(jz p).2 with
 |false=>
  have c:fe (kX E data p=((0,0),1)):=Fr<|by unfold kX;rw[lv s]
  rw[s]at h;have H:fe _:=h;clear h s M N;go_enter func90,ntmps90;go_wp2_with fail;apply RK<|H.o _;rintro _ O ⟨v,rfl,u,a⟩;have j:=(ab _).trans<|a.mono (by simp);have k:=a.cell (p:=(ii w.heap.size 0)) (by simp);have l:=a.cell (p:=(ii w.heap.size 1)) (by simp);have f0:=a.frozen (p:=(ii w.heap.size 0)) (by simp);have f1:=a.frozen (p:=(ii w.heap.size 1)) (by simp);simp at k l f0 f1;have aM:=np (show w.heap.size<w.heap.size+1 by omega) (by have:=a.size;simpa using this);clear u;go_wp2;rw[c.o];exact ni (v:=fC #[fD #[fY 0,fY 0],fY 1]) (by simp[results,results90,go_sem,k,l]) fX ⟨fX,(j.setCell (lw _) _).setCell (lw _) _⟩
 |true=>
  have ac:=jM s;rw[s]at h;obtain⟨y,Q⟩:=ol<|(jz p).1;obtain⟨z,ad⟩:=ol<|fv (fU E p);have A:fe (kX E data p=if WF E y≠0 then((0,0),WF E y) else(oA E data p,0)):=Fr<|by unfold kX;rw[km (by rw[s];decide),Q]
  rw[<-Q]at h P ac;have ar:fe (∀x∈y,x.size<=12):=P;have R:fe (z=fv (fU E p)):=ad;have au:fe (gp F w S na da nc dc E data rest):=M;have B:fe (qA E data):=N;obtain⟨n,ae⟩:=ol<|fv y;rw[<-ae]at h ac;have H:fe _:=h;clear h s Q P M N ae ad;go_enter func90,ntmps90;go_wp2_with fail;apply RK<|H.o _;rintro _ O ⟨v,rfl,u,a⟩;have j:=(ab _).trans<|a.mono (by simp);have k:=a.cell (p:=(ii w.heap.size 0)) (by simp);have l:=a.cell (p:=(ii w.heap.size 1)) (by simp);have f0:=a.frozen (p:=(ii w.heap.size 0)) (by simp);have f1:=a.frozen (p:=(ii w.heap.size 1)) (by simp);simp at k l f0 f1;have d:w.heap.size<O.heap.size:=np (show w.heap.size<w.heap.size+1 by omega) (by have:=a.size;simpa using this);have af:=j.size;obtain⟨av,aw,rfl⟩:=po u;have ax:=nM u;have o:=au.o.below j;have T:=Bi o av n aw y (PQ u) ar.o (by omega) ax B.o.big;have U:=uB o B.o p;rw[<-R.o]at U;have q:=pK na (fv E) nc E p O (ir o.lT) B.o.big;have ay:=o.c0;have az:=o.c1;have aN:=o.lt;obtain⟨m,I⟩:=ol<|fv E;have aO:m<=1000000000:=by rw[I];exact B.o.big
  have aA:fe (m=fv E):=I;rw[<-I]at ay q;obtain⟨ag,V⟩:=ol<|fv data;have aB:fe (ag=fv data):=V;rw[<-V]at az aq;obtain⟨e,ah⟩:=ol<|WF E y;rw[<-ah]at T A;have J:fe _:=T;have ai:fe _:=U;have aj:fe (gp F O S na da nc dc E data rest):=o;clear T U ah u o H a I V;by_cases f:e=0
  ·have aC:(e != 0)=fo:=by simp[f]
   cases g:Pl E p with
   |none=>
    have c:fe (kX E data p=((2,(z:Int)),0)):=Fr<|by rw[A.o,km (by simp[f]),Ou g,R.o]
    rw[g]at q;have K:fe (ik 106 #[fy na m nc,hh p] O<|PP (fY<|-1) O):=q;clear f q g;go_wp2_with fail;refine Calls.still J.o ?_;go_wp2_with fail;refine Calls.still K.o ?_;go_wp2_with fail;refine Calls.via ai.o λC b=>?_
    have W:ju w C:=j.trans<|b.mono af;have X:=(b.cell (p:=(ii w.heap.size 0)) d).trans k;have Y:=(b.cell (p:=(ii w.heap.size 1)) d).trans l;have aD:=(b.frozen (p:=(ii w.heap.size 0)) d).trans f0;have aE:=(b.frozen (p:=(ii w.heap.size 1)) d).trans f1;have aF:w.heap.size<C.heap.size:=np d b.size;go_wp2;rw[c.o];exact ni (v:=fC #[fD #[fY 2,fY (z:Int)],fY 0]) (by simp[results,results90,go_sem,X,Y]) fX ⟨fX,(W.setCell (lw _) _).setCell (lw _) _⟩
   |some i=>
    have L:i<fv E:=(yQ.1 g).1;rw[g]at q;have K:fe (ik 106 #[fy na m nc,hh p] O<|PP (fY (i:Int)) O):=q;have D:=aj.o.lT;have⟨aP,aQ,Z⟩:=hZ D (by omega);have aG:=(lK Z).1;subst aG;have⟨_,ak,al⟩:=lr (off:=0) (ks D) L;rw[iO]at ak al;have aR:=gc D fX;have aS:(i:Int)<(m:Int):=by have:=aA.o;omega
    have aT:(0:Int)<=(i:Int):=(by omega);by_cases t:E[i].2.1=1
    ·have⟨aH,aI⟩:=B.o.files _ (kN L) t
     obtain⟨r,aa⟩:∃r:Nat,E[i].2.2=(r:Int):=⟨E[i].2.2.toNat,by omega⟩;have am:r<fv data:=by omega
     have an:=aj.o.jq;have⟨aU,aJ,aV,aK,_⟩:=row_one an (i:=r) (v:=fA data[r]) (by simp[gO,am]);subst aJ;have c:fe (kX E data p=((1,(data[r].size:Int)),0)):=by
      show _=_;rw[A.o,km (by simp[f]),Ov g L t aa am]
     rw[t]at ak;rw[aa]at al;obtain⟨aL,ao⟩:=ol<|data[r];rw[<-ao]at aK c;have aW:(r:Int)<(ag:Int):=by have:=aB.o;omega
     clear f q g D an Z t aa aH aI ao;go_wp2_with fail;refine Calls.still J.o ?_;go_wp2_with fail;refine Calls.still K.o ?_;go_wp2
     go_region
     all_goals
      go_wp2;rw[c.o];exact ni (v:=fC #[fD #[fY 1,fY (aL.size:Int)],fY 0]) (by simp[results,results90,go_sem,k,l]) fX ⟨fX,((j.setCell (lw _) _).setCell (lw _) _).drew⟩
    have aX:(E[i].2.1==1)=fo:=by simpa using t
    have c:fe (kX E data p=((2,(z:Int)),0)):=by
     show _=_;rw[A.o,km (by simp[f]),SB g L t,R.o]
    clear f q g D Z t;go_wp2_with fail;refine Calls.still J.o ?_;go_wp2_with fail;refine Calls.still K.o ?_;go_wp2_with fail;refine Calls.via ai.o λC b=>?_
    have W:ju w C:=j.trans<|b.mono af;have X:=(b.cell (p:=(ii w.heap.size 0)) d).trans k;have Y:=(b.cell (p:=(ii w.heap.size 1)) d).trans l;have aD:=(b.frozen (p:=(ii w.heap.size 0)) d).trans f0;have aE:=(b.frozen (p:=(ii w.heap.size 1)) d).trans f1;have aF:w.heap.size<C.heap.size:=np d b.size;go_wp2;rw[c.o];exact ni (v:=fC #[fD #[fY 2,fY (z:Int)],fY 0]) (by simp[results,results90,go_sem,X,Y]) fX ⟨fX,(W.setCell (lw _) _).setCell (lw _) _⟩
  have aC:(e != 0)=fm:=by simp[f]
  have c:fe (kX E data p=((0,0),e)):=Fr<|by rw[A.o,lv f]
  clear f;go_wp2_with fail;refine Calls.still J.o ?_;go_wp2;rw[c.o];exact ni (v:=fC #[fD #[fY 0,fY 0],fY e]) (by simp[results,results90,go_sem,k,l]) fX ⟨fX,(j.setCell (lw _) _).setCell (lw _) _⟩
