/- A part of the proof. -/
import Derived.Test.YtlgidcmmgohagaaGreatComM27
set_option linter.all false
namespace Go.Proofs.YtlgidcmmgohagaaGreat
open Go.RowKit Go.Sort Go.Shelf Go.Proofs.Tryz
open Go.Value renaming slice->fy,string->fA,pointer->fB,tuple->fC,agg->fD,bool->fE
open Go.Ending renaming returned->fF
open Option renaming some->fh,none->fj
open Bool renaming true->fm,false->fo
open Go renaming World->fq,Value->fu
open List renaming length->fv,reverse->fx
open Go.RowKit renaming Hid->fe
set_option maxRecDepth 100000
set_option maxHeartbeats 0
variable {a i j k t:Nat}{d x:fP}{l:List UInt8}{fg:Int}
variable {F:Nat->Prop}{w:fq}{S nc dc:Nat}{na da:ig}{E:List fV}{data:fT}{hs:List BN}{more rest:iN}
def vg (l:List UInt8)(n:Nat):List UInt8:=l++List.replicate (n-fv l) 0
def MH(l)(n):fv (vg l n)=max (fv l) n:=by unfold vg;simp;omega
def QW(a:fv l<=k):vg l k++[0]=vg l (k+1):=by
 unfold vg;rw[sL,show k+1-fv l=(k-fv l)+1 by omega,hy2]
def yO{n:Nat}(a:n<=fv l):vg l n=l:=by unfold vg;rw[show n-fv l=0 by omega];simp
def MV (b d:List UInt8)(a i:Nat):List UInt8:=(vg b a).take a++d.take i++(vg b a).drop (a+i)
def okB(b d)(a):MV b d a 0=vg b a:=by unfold MV;simp
def hte{b d:List UInt8}(c:i<=fv d):fv (MV b d a i)=max (max (fv b) a) (a+i):=by
 unfold MV;simp[MH];omega
theorem okF{b d:List UInt8}(e:i<fv d):(MV b d a i).take (a+i)++[d[i]]++(MV b d a i).drop (a+i+1)=MV b d a (i+1):=by
 have c:fv ((vg b a).take a++d.take i)=a+i:=by simp[MH];omega
 unfold MV;rw[Ec c,List.drop_append,c,show a+i+1-(a+i)=1 by omega,hxy<|by omega,List.drop_drop,vk e,Hx]
 grind
theorem yle(b d)(a):MV b d a (fv d)=xu b d a:=by
 grind [MV,xu,vg,Nat.le_total,blt,List.take_append,oJ,sH,Nat.max_eq_left,hxy]
def ba (l:List UInt8):fP:=⟨l.toArray⟩
def EB(l):(ba l).size=fv l:=by show l.toArray.size=_;simp
def MI(a b:List UInt8):ba a++ba b=ba (a++b):=by
 apply Rw;rw[ByteArray.data_append];simp[ba]
theorem htl(d:fP):ba d.data.toList=d:=fX
theorem MJ(l)(i j):(ba l).extract i j=ba ((l.take j).drop i):=by
 apply Rw;rw[bot];apply sle.1;rw[Array.toList_extract];simp[ba,List.extract,List.drop_take]
theorem ylt(a:i<fv d.data.toList):d.extract i (i+1)=ba [d.data.toList[i]]:=by
 grind [MJ,htl,vk,crc,kV]
theorem gp.aax{b j:Nat}(a:gp F w S na (fh<|ii b 0) nc dc E data rest)(g:j<fv data)(c):
  gp F (w.setCell (ii b j)<|hh c) S na (fh<|ii b 0) nc dc E (data.set j c) rest/\fH F w (w.setCell (ii b j)<|hh c):=by
 have⟨h,f⟩:=UV a.jq fX;have d:fv (data.set j c)=fv data:=by simp
 refine⟨⟨a.fS,?_,mM a.lT f<|by decide,?_,a.fn,?_⟩,qW<|a.fd b fX⟩;rw[d,vh _ _ _ _ λe=>io a.jq a.hS (by decide) (by rw[show S=b from e];rfl)];exact a.hS;rw[d]
 have:=(a.jq.stored j<|hh c).1
 rwa [gO,List.map_set];rw[d];exact a.fd
theorem Hr(b:gp F w S na da nc dc E data (xf hs++more))(f:fv hs=8){j fg a:Int}(d:hs[k]?=fh (fm,j,fg,a))(h:0<=fg/\fg<=63){c:Int}(g:(ma fg 2=fo/\c=12)\/(ma fg 2=fm/\x=kq/\c=0)):
  ik 99 #[ie S,fY (k:Int),hh x] w (ut (fY c) w):=by
 have p:=b.lt;have i:fe _:=jI b f (k:Int);rw[mq f d]at i;have⟨c0,c1,c2,c3,m⟩:=b.nZ d;have n:=(wH.1 d).1;have q:k<8:=by omega
 have t3:(k:Int)<8:=by omega
 have l:fe _:=λo=>mo fg 2 o h ⟨by decide,by decide⟩;clear b d m h f n;cases e:ma fg 2
 case' false=>
  obtain rfl:c=12:=by
   rcases g with b|b
   exact b.2;rw[e]at b;cases b.1
 case' true=>
  obtain⟨rfl,rfl⟩:x=kq/\c=0:=by
   rcases g with b|b
   rw[e]at b;cases b.1;exact b.2
 all_goals
  rw[e]at l;clear g e;go_enter func99,ntmps99;go_wp2_with fail;refine Calls.still i.o ?_;go_wp2_with(go_at_call 159;refine Calls.still (l.o _) ?_);go_ret;exact⟨fX,(mi _ _).alloc (lw _) _⟩
def okW (a:fu):Nat:=match a with|fA b=>b.size|_=>0
def jQ(d:fP):fv d.data.toList=d.size:=fX
theorem Wm{a}{x e:fP}(c:e=ba (MV a x.data.toList t i))(U:i<x.size){b:fP}(f:b=ba ((MV a x.data.toList t i).drop<|t+i+1)):e.extract 0 (t+i)++x.extract i (i+1)++b=ba (MV a x.data.toList t<|i+1):=by
 rw[c,f,MJ,ylt (d:=x) (by rw[jQ];exact U),MI,MI,Ce,okF]
def opt(l)(i):(ba l).extract i (ba l).size=ba (l.drop i):=by rw[MJ,EB,sH]
theorem fH.two{F}{w O b}(a:fH F w O)(k:fH F O b):fH F w b:=⟨k.os.trans a.os,k.tape.trans a.tape,k.output.trans a.output,wy a.size k.size,λx c d=>(k.block x (np c a.size) d).trans<|a.block x c d⟩
theorem acl(f:gp F w S na da nc dc E data (xf hs++more))(z:fv hs=8)(l:hs[k]?=fh (fm,(j:Int),fg,(a:Int)))(A:data[j]?=fh d)(B:0<=fg/\fg<=63)(aB:a<=256)(aC:d.size<=256)(K:ma fg 2=fm)(aD:x.size≠0)(C:(ma fg 32=fm/\t=d.size)\/(ma fg 32=fo/\t=a))(aE:t+x.size<=256)(ab:fv data<=1000000000):
  ik 99 #[ie S,fY (k:Int),hh x] w λe H=>e=fF (fY 0)/\
   gp F H S na da nc dc E (data.set j<|tX d x t) (xf (hs.set k (fm,(j:Int),fg,(t:Int)+x.size))++more)/\fH F w H:=by
 have aF:=f.lt;have D:fe _:=jI f z (k:Int);rw[mq z l]at D;have L:fe (∀m,ik 159 #[fY fg,fY 2] m<|PP (fE fm) m):=λm=>by have:=mo fg 2 m B ⟨by decide,by decide⟩;rwa [K]at this
 have M:fe _:=λm=>mo fg 32 m B ⟨by decide,by decide⟩;obtain⟨c0,c1,c2,c3,ac⟩:=f.nZ l;have ad:=(wH.1 l).1;have t3:(k:Int)<8:=by omega
 have ae:fe (gp F w S na da nc dc E data<|xf hs++more):=f;have aG:(x.toList==[])=fo:=rZ (by omega);have aH:decide (256<(t:Int)+(x.size:Int))=fo:=yv<|by omega
 change fe _ at l A C
 clear f ac K B z ad;go_enter func99,ntmps99;go_wp2_with fail;refine Calls.still D.o ?_;go_wp2_with fail;refine Calls.via (L.o _) λO n=>?_
 have G:ju w O:=by rw[n];exact(mi _ _).alloc (lw _) _
 have N:O.c w.heap.size 1=fh (fY (j:Int)):=by rw[n];simp
 have af:O.c w.heap.size 2=fh (fY fg):=by rw[n];simp
 have ag:O.c w.heap.size 3=fh (fY (a:Int)):=by rw[n];simp
 have ah:w.heap.size<O.heap.size:=by rw[n];simp
 have o:=ae.below G;have P:=o.c1;obtain⟨s,ai,Q,R,_⟩:=row_one o.jq (i:=j) (v:=fA d) (by simp[gO,A.o]);have aj:=o.lt;have T:j<fv data:=(wH.1 A).1;obtain⟨I,J⟩:∃I,I=fv data:=⟨_,fX⟩;rw[<-J]at P T ab;have aI:(j:Int)<(I:Int):=by omega
 subst ai
 change fe _ at o G
 clear n c0 c1 c2 c3;go_wp2_with fail
 go_region
 go_upto_if 42 with(go_at_call 159;refine Calls.still (M.o _) ?_)
 go_cut [10]from 43 to 44 λv ak=>v=.int .i64 (t:Int)/\fe (ju O ak)
 case first=>
  go_wp2
  all_goals
   go_meet;refine⟨?_,(mi _ _).drew⟩;rcases C with f|f<;>first|exact absurd (f.1.symm.trans (by assumption)) (by decide)|rw[f.2]
 case rest=>
  obtain⟨rfl,al⟩:=hcut;clear M L D C;go_wp2
  go_loopw [9] (λv wr=>∃e:fP,e.size<=600/\v=fA e/\fe (e=ba (vg d.data.toList e.size)/\d.size<=e.size/\e.size<=max d.size t)/\fe (ju O wr)) (λv _=>600-okW v)
  case atStart=>exact⟨d,by omega,rfl,⟨by rw[<-jQ,yO<|lw _,htl],lw _,Nat.le_max_left _ _⟩,al⟩
  case round=>
   obtain⟨e,am,rfl,c,b⟩:=hrel;by_cases h:e.size<t
   ·have u:(e.size:Int)<(t:Int):=by omega
    go_wp2;obtain⟨y,V,an⟩:=c;have q:(e++(⟨#[0]⟩:fP)).size=e.size+1:=by rw[Ws];rfl
    refine⟨⟨_,by rw[q];omega,fX,⟨?_,by rw[q];omega,by rw[q];omega⟩,b⟩,by unfold okW;simp only;rw[q];omega⟩;rw[q,<-QW (by rw[jQ];exact V),<-MI,<-y];rfl
   have u:decide ((e.size:Int)<(t:Int))=fo:=yv (by omega);have W:fe (e=ba (MV d.data.toList x.data.toList t 0)):=by
    obtain⟨y,V,an⟩:=c;show _=_;rw[okB];by_cases ao:t<=d.size;rw[y,show e.size=d.size by omega,yO (by rw[jQ];omega),yO (by rw[jQ];exact ao)];rw[y,show e.size=t by omega]
   have X:fe (ju O wr):=b;clear c b;go_wp2
   go_loopw [9,11] (λv9 ap wr=>∃(e:fP) (i:Nat),i<=x.size/\e.size<=600/\v9=fA e/\ap=.int .i64 (i:Int)/\fe (e=ba (MV d.data.toList x.data.toList t i))/\fe (ju O wr)) (λ_ v _=>300-(intOf v).toNat)
   case atStart=>exact⟨e,0,by omega,by omega,rfl,rfl,W,X⟩
   case round=>
    clear W X u h;obtain⟨e,i,U,am,rfl,rfl,c,b⟩:=hrel;have aq:fe (e.size=max (max d.size t) (t+i)):=by
     have:=c.o
     show _=_;rw[this,EB,hte (by rw[jQ];exact U),jQ]
    have aJ:(t:Int)+(i:Int)<=(e.size:Int):=by have:=aq.o;omega
    by_cases h:i<x.size
    ·have u:(i:Int)<(x.size:Int):=by omega
     have Y:fe ((ba<|MV d.data.toList x.data.toList t (i+1)).size<=600):=by
      show _<=_;rw[EB,hte (by rw[jQ];exact h),jQ];omega
     by_cases aK:t+i+1<e.size
     ·have aL:(t:Int)+(i:Int)+1<(e.size:Int):=by omega
      go_wp2
      go_region
      go_wp2;have r:fe (e.extract 0 (t+i)++x.extract i (i+1)++e.extract (t+i+1) e.size=ba (MV d.data.toList x.data.toList t<|i+1)):=Wm c h (by rw[c.o];exact opt _ _);exact⟨⟨_,i+1,h,by rw[r.o];exact Y,fX,fX,r,b.drew⟩,by simp[intOf];omega⟩
     go_wp2
     go_region
     go_wp2;have r:fe (e.extract 0 (t+i)++x.extract i (i+1)++kq=ba (MV d.data.toList x.data.toList t<|i+1)):=Wm c h (by
      rw[hxy (by have:=c.o;have ar:=congrArg ByteArray.size this;rw[EB]at ar;omega)];rfl)
     exact⟨⟨_,i+1,h,by rw[r.o];exact Y,fX,fX,r,b.drew⟩,by simp[intOf];omega⟩
    have u:decide ((i:Int)<(x.size:Int))=fo:=yv (by omega);have au:fe (tX d x t=e):=by
     rw[c.o,show i=fv x.data.toList by rw[jQ];omega,yle];rfl
    have g:=o.below b;obtain⟨_,_,_,aM,Z⟩:=g.nZ l;have f3:=Z<|2+k*4+3;have av:=g.c1;rw[<-J]at av;have aN:=(b.o.cell (p:=(ii w.heap.size 1)) ah).trans N;have aO:=(b.o.cell (p:=(ii s j)) Q).trans R;obtain⟨aP,aa⟩:=UV g.jq fX;have aQ:wr.frozen? (ii s j)=fo:=by simp[World.frozen?,aa]
    have aw:s≠S:=λe=>io g.jq g.hS (by decide) (by rw[e];rfl);have aR:S≠s:=λe=>aw e.symm;have aS:=g.lt;have aT:=np Q b.o.size
    change fe _ at g
    clear Z N af ag R P aj aa;go_wp2
    go_region
    go_wp2;go_ret;rw[au.o];obtain⟨ax,ay⟩:=g.aax (by rw[<-J];exact T) e;obtain⟨az,aA⟩:=ax.place l<|(t:Int)+(x.size:Int);exact⟨fX,az.below (mi _ _).drew,(((ay.two aA).two<|fH.fJ (mi _ _).drew).after b).after G⟩
theorem QX(b:gp F w S na da nc dc E data (xf hs++more))(h:fv hs=8)(f:hs[k]?=fh (fm,(j:Int),fg,(a:Int)))(p:data[j]?=fh d)(l:0<=fg/\fg<=63)(P:a<=256)(Q:d.size<=256)(q:ma fg 2=fm)(R:x.size≠0)(m:(ma fg 32=fm/\t=d.size)\/(ma fg 32=fo/\t=a))(T:256<t+x.size)(U:x.size<=1048576)(z:fv data<=1000000000):
  ik 99 #[ie S,fY (k:Int),hh x] w (ut (fY 11) w):=by
 have V:=b.lt;have n:fe _:=jI b h (k:Int);rw[mq h f]at n;have r:fe (∀c,ik 159 #[fY fg,fY 2] c<|PP (fE fm) c):=λc=>by have:=mo fg 2 c l ⟨by decide,by decide⟩;rwa [q]at this
 have s:fe _:=λc=>mo fg 32 c l ⟨by decide,by decide⟩;have⟨c0,c1,c2,c3,A⟩:=b.nZ f;have B:=(wH.1 f).1;have W:k<8:=by omega
 have t3:(k:Int)<8:=by omega
 have C:fe (gp F w S na da nc dc E data<|xf hs++more):=b;have X:fe (hs[k]?=fh (fm,(j:Int),fg,(a:Int))):=f;have u:fe (data[j]?=fh d):=p;have Y:(x.toList==[])=fo:=rZ (by omega);have Z:t<=256:=by rcases m with b|b<;>omega
 have aa:256<(t:Int)+(x.size:Int):=by omega
 have y:fe _:=m;clear b f p A q l h B m;go_enter func99,ntmps99;go_wp2_with fail;refine Calls.still n.o ?_;go_wp2_with fail;refine Calls.via (r.o _) λO e=>?_;have o:ju w O:=by rw[e];exact(mi _ _).alloc (lw _) _
 have ab:O.c w.heap.size 1=fh (fY (j:Int)):=by rw[e];simp
 have ac:O.c w.heap.size 2=fh (fY fg):=by rw[e];simp
 have ad:O.c w.heap.size 3=fh (fY (a:Int)):=by rw[e];simp
 have D:w.heap.size<O.heap.size:=by rw[e];simp
 have g:=C.o.below o;have G:=g.c1;have⟨ae,H,af,ag,_⟩:=row_one g.jq (i:=j) (v:=fA d) (by simp[gO,u.o]);have ah:=g.lt;have I:j<fv data:=(wH.1 u.o).1;obtain⟨J,K⟩:=ol<|fv data;rw[<-K]at G I z;have ai:(j:Int)<(J:Int):=by omega
 subst H;have aj:fe _:=g;have L:fe _:=o;clear e c0 c1 c2 c3 g o;go_wp2_with fail
 go_region
 go_upto_if 42 with(go_at_call 159;refine Calls.still (s.o _) ?_)
 go_cut [10]from 43 to 44 λv M=>v=.int .i64 (t:Int)/\fe (ju O M)
 case first=>
  go_wp2
  all_goals
   go_meet;refine⟨?_,(mi _ _).drew⟩;rcases y.o with b|b<;>first|exact absurd (b.1.symm.trans (by assumption)) (by decide)|rw[b.2]
 case rest=>
  obtain⟨rfl,N⟩:=hcut;clear s r n y;go_wp2;go_ret;exact⟨fX,L.o.trans<|N.o.mono (Ef D)⟩
def lH (d:fP)(m:Nat):fP:=ba<|(vg d.data.toList m).take m
theorem UQ(b:gp F w S na da nc dc E data (xf hs++more))(q:fv hs=8){k j m:Nat}{fg a:Int}(f:hs[k]?=fh (fm,(j:Int),fg,a))(l:data[j]?=fh d)(u:0<=fg/\fg<=63)(ab:d.size<=256)(x:ma fg 2=fm)(ac:m<=256)(J:fv data<=1000000000):
  ik 101 #[ie S,fY (k:Int),fY (m:Int)] w λe H=>e=fF (fY 0)/\
   gp F H S na da nc dc E (data.set j<|lH d m) (xf hs++more)/\fH F w H:=by
 have ad:=b.lt;have r:fe _:=jI b q (k:Int);rw[mq q f]at r;have y:fe (∀n,ik 159 #[fY fg,fY 2] n<|PP (fE fm) n):=λn=>by have:=mo fg 2 n u ⟨by decide,by decide⟩;rwa [x]at this
 have⟨c0,c1,c2,c3,K⟩:=b.nZ f;have L:=(wH.1 f).1;have ae:k<8:=by omega
 have t3:(k:Int)<8:=by omega
 have t0:decide ((m:Int)<0)=fo:=yv (by omega);have t1:decide (256<(m:Int))=fo:=yv (by omega);have z:=b.c1;have M:fe (gp F w S na da nc dc E data<|xf hs++more):=b;have N:fe (hs[k]?=fh (fm,(j:Int),fg,a)):=f;have af:fe (data[j]?=fh d):=l;have⟨A,O,B,C,_⟩:=row_one b.jq (i:=j) (v:=fA d) (by simp[gO,l]);have D:j<fv data:=(wH.1 l).1;obtain⟨P,s⟩:=ol<|fv data;rw[<-s]at z D J;have ag:(j:Int)<(P:Int):=by omega
 subst O;clear b f l K x u q L;go_enter func101,ntmps101;go_wp2_with fail;refine Calls.still r.o ?_;go_wp2_with fail;refine Calls.still (y.o _) ?_;clear r y;go_wp2
 go_region
 go_wp2
 go_loopw [8] (λv wr=>∃e:fP,e.size<=600/\v=fA e/\fe (e=ba (vg d.data.toList e.size)/\d.size<=e.size/\e.size<=max d.size m)/\fe (ju w wr)) (λv _=>600-okW v)
 case atStart=>exact⟨d,by omega,rfl,⟨by rw[<-jQ,yO<|lw _,htl],lw _,Nat.le_max_left _ _⟩,(mi _ _).drew⟩
 case round=>
  obtain⟨e,ah,rfl,t,g⟩:=hrel;by_cases ai:e.size<m
  ·have Q:(e.size:Int)<(m:Int):=by omega
   go_wp2;have⟨o,G,R⟩:=t.o;have h:(e++(⟨#[0]⟩:fP)).size=e.size+1:=by rw[Ws];rfl
   refine⟨⟨_,by rw[h];omega,fX,⟨?_,by rw[h];omega,by rw[h];omega⟩,g⟩,by unfold okW;simp only;rw[h];omega⟩;rw[h,<-QW (by rw[jQ];exact G),<-MI,<-o];rfl
  have Q:decide ((e.size:Int)<(m:Int))=fo:=yv (by omega);have aj:(m:Int)<=(e.size:Int):=by omega
  have T:fe (lH d m=e.extract 0 m):=by
   have⟨o,G,R⟩:=t.o;show _=_;have U:e=ba (vg d.data.toList m):=by
    by_cases V:m<=d.size;rw[o,show e.size=d.size by omega,yO (by rw[jQ];omega),yO (by rw[jQ];exact V)];rw[o,show e.size=m by omega]
   unfold lH;rw[U,MJ,Ce]
  have c:=M.o.below g.o;have⟨ak,al,am,an,W⟩:=c.nZ N.o;have X:=c.c1;rw[<-s]at X;have ao:=(g.o.cell (p:=(ii A j)) B).trans C;have⟨ap,I⟩:=UV c.jq fX;have aq:wr.frozen? (ii A j)=fo:=by simp[World.frozen?,I]
  have ar:=c.lt;have au:=np B g.o.size;have Y:fe _:=c;clear c W C z I c0 c1 c2 c3 t;go_wp2
  go_region
  go_wp2;go_ret;rw[T.o];obtain⟨Z,aa⟩:=Y.o.aax (by rw[<-s];exact D)<|e.extract 0 m;exact⟨fX,Z.below (mi _ _).drew,(aa.two<|fH.fJ (mi _ _).drew).after g.o⟩
