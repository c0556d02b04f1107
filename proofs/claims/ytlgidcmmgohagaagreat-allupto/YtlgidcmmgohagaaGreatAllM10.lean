/- A part of the proof. -/
import Derived.Test.YtlgidcmmgohagaaGreatAllM09
set_option linter.all false
namespace Go.Proofs.YtlgidcmmgohagaaGreat
open Go.RowKit Go.Sort Go.Shelf Go.Proofs.Tryz
open Go.Value renaming slice->fy,string->fA,pointer->fB,tuple->fC,agg->fD,bool->fE
open Go.Ending renaming returned->fF
open Option renaming some->fh,none->fj
open Bool renaming true->fm,false->fo
open Go renaming World->fq,Value->fu
open List renaming length->fv,reverse->fx
open Go.RowKit renaming Hid->fe
set_option maxRecDepth 100000
set_option maxHeartbeats 0
variable {x:fO}{l p q:fQ}{g n o:Nat}{W w w1:fq}{v:fu}
theorem qb(a:w.c g o=fh v):g<w.heap.size:=by
 grind [WH,Array.getElem?_eq_none,World.cell?]
theorem iQ{w J}(b:ju w J)(a:w.c g o=fh v):J.c g o=fh v:=(b.cell (p:=(ie g o))<|qb a).trans a
def kH:Nat->ni×ni×Nat
 |8=>(9,131,1)
 |9=>(96,55,3)
 |10=>(133,121,2)
 |_=>(29,59,1)
def vH:Nat->Nat->gX
 |8,i=>[fA<|JE i]
 |9,i=>VE i
 |10,i=>VC i
 |_,i=>[.int .i64<|-1000-(i:Int)]
def Lsp(d):(kH d).1≠(kH d).2.1:=by unfold kH;split<;>decide
theorem Vv(V:gX){i:Nat}(U:i<fv V):∀{n j:Nat},j<n->(ql n V)[j*fv V+i]?=V[i]?
 |n+1,0,_=>by unfold ql;rw[List.replicate_succ,List.flatten_cons,cwd,iR,wz U]
 |n+1,j+1,h=>by
  have ih:=Vv V U (n:=n) (j:=j)<|by omega
  grind [ql,List.flatten_cons,Rt,BX]
theorem yo{t}{V:gX}{d:iD}{n c b:Nat}(a:uC t (fv V) V w (d,n,c))(f:b<n):∃g,d=fh (ie g 0)/\∀i(U:i<fv V),w.c g (b*fv V+i)=fh V[i]:=by
 unfold uC qQ at a;simp only at a;have⟨g,h,e⟩:=hh a (by omega);rw[(lK e).1]at a |-;refine⟨g,fX,λi U=>?_⟩
 have:=a.cells (g:=g) fX (b*fv V+i) V[i] (by grind [Vv,jG])
 grind [qg]
theorem SC(W:Nat)(s:Nat->iD)(c:Nat->Nat)(e:Nat->List lR)(w:fq)(aE:W<w.heap.size)
  (L:w.c W 8=fh (fy (s 8) (fv<|e 8)<|c 8))(M:w.c W 9=fh (fy (s 9) (fv<|e 9)<|c 9))(O:w.c W 10=fh (fy (s 10) (fv<|e 10)<|c 10))(P:w.c W 11=fh (fy (s 11) (fv<|e 11)<|c 11))
  (row:∀d,w.ownsRow 0 (kH d).2.1 1 (fy (s d) (fv<|e d)<|c d) (fv<|e d)<|(e d).map qQ)(len:∀d,fv (e d)<=1000000000)
  (ah:∀d i(U:i<fv (e d)),(e d)[i].2.1<=1000000000/\uC (kH d).1 (kH d).2.2 (vH d<|i / 4) w (e d)[i]):
  ik 24 #[fB<|fh (ie W 8)] w (vd (fE fm) w):=by
 -- the k-th list of s kind
 have ai:∀d k,k<fv (e d)->∃o h a j,s d=fh (ie o 0)/\w.c o k=fh (fy h a j)/\a<=1000000000/\uC (kH d).1 (kH d).2.2 (vH d<|k / 4) w (h,a,j):=λd k A=>by
  obtain⟨⟨h,a,j⟩,aj⟩:∃ap:lR,ap=(e d)[k]:=⟨_,fX⟩;have⟨o,l,aF,m,_⟩:=row_one (row d) (i:=k) (v:=fy h a j) (by rw[hRS,jG A,<-aj];rfl);have⟨ak,al⟩:=ah d k A;rw[<-aj]at ak al;exact⟨o,h,a,j,l,m,ak,al⟩
 have I:fe (∀d k,k<fv (e d)->∃o h a j,s d=fh (ie o 0)/\w.c o k=fh (fy h a j)/\a<=1000000000/\uC (kH d).1 (kH d).2.2 (vH d<|k / 4) w (h,a,j)):=ai;obtain⟨E,Q⟩:=oX<|fv (e 8);obtain⟨F,S⟩:=oX<|fv (e 9);obtain⟨G,T⟩:=oX<|fv (e 10);obtain⟨H,X⟩:=oX<|fv (e 11);have aq:=len 8;have ar:=len 9;have au:=len 10;have av:=len 11;rw[<-Q]at L aq;rw[<-S]at M ar;rw[<-T]at O au;rw[<-X]at P av;have J:fe (E=fv (e 8)/\F=fv (e 9)/\G=fv (e 10)/\H=fv (e 11)):=⟨Q,S,T,X⟩;have K:fe _:=And.intro L<|And.intro M (And.intro O P);clear ai row len ah Q S T X L M O P;go_enter func24,ntmps24;go_wp2
 go_loopw [3] (λi wr=>∃k:Nat,k<=E/\i=.int .i64 (k:Int)/\fe (ju w wr)) (λi _=>E-(intOf i).toNat)
 case atStart=>exact⟨0,Fr _,rfl,mi _ _⟩
 case round=>
  obtain⟨k,A,rfl,f⟩:=hrel;have Y:=iQ f.o K.o.1;have aG:W<wr.heap.size:=by have:=f.o.size;omega
  by_cases t:k<E
  ·have⟨o,h,a,j,l,m,Z,p⟩:=I.o 8 k (by rw[<-J.o.1];exact t)
   rw[l]at Y;obtain⟨B,C⟩:=oX<|JE (k / 4);have u:fe (uC 9 1 [hZ B] w (h,a,j)):=by rw[C];exact p
   have aw:fe (ik 58 #[fY<|(k:Int) / 4] wr<|vd (hZ B) wr):=by
    have:=OA (k / 4) wr<|by omega
    rw[<-C,show((k / 4:Nat):Int)=(k:Int) / 4 by omega]at this;exact this
   have aa:(k:Int)<(E:Int):=by omega
   have ax:fe _:=m;have ay:fe _:=Y;clear C m p l;go_wp2_with fail;refine Hk aw.o λam ab=>?_;have ac:fe (ju w am):=f.o.trans<|ab.mono f.o.size;have d8:=iQ ab ay.o;have x:=iQ ac.o ax.o;have aH:=qb d8;have ad:=qb x;clear ab Y;go_wp2
   go_loopw [5] (λi n=>∃b:Nat,b<=a/\i=.int .i64 (b:Int)/\n=am) (λi _=>a-(intOf i).toNat)
   case atStart=>exact⟨0,Fr _,rfl,rfl⟩
   case round=>
    obtain⟨b,ae,rfl,rfl⟩:=hrel;rename fq=>r;by_cases y:b<a
    ·have⟨g,z,N⟩:=yo u.o y
     subst z;have af:(b:Int)<(a:Int):=by omega
     have az:r.c g b=fh (hZ B):=by have:=iQ ac.o<|N 0 (by simp);simpa using this
     have ag:=qb az;clear N;go_wp2;go_roundw
     case rel=>exact⟨b+1,by omega,by go_num,by trivial⟩
     case measure=>simp[intOf];omega
    go_wp2;go_roundw
    case rel=>exact⟨k+1,by omega,by go_num,ac.o⟩
    case measure=>simp[intOf];omega
  have aA:=iQ f.o K.o.2.1;go_wp2;rename fq=>r
  go_loopw [6] (λi n=>∃k:Nat,k<=F/\i=.int .i64 (k:Int)/\n=r) (λi _=>F-(intOf i).toNat)
  case atStart=>exact⟨0,Fr _,rfl,rfl⟩
  case round=>
   obtain⟨k,A,rfl,q⟩:=hrel;subst q;by_cases t:k<F
   ·have⟨o,h,a,j,l,m,Z,p⟩:=I.o 9 k (by rw[<-J.o.2.1];exact t)
    rw[l]at aA;have u:fe (uC 96 3 (VE<|k / 4) w (h,a,j)):=p;have aa:(k:Int)<(F:Int):=by omega
    have an:(0:Int)<=(k:Int):=(by omega);have x:=iQ f.o m;have ad:=qb x;clear m p l;rename fq=>r;go_wp2
    go_loopw [7] (λi n=>∃b:Nat,b<=a/\i=.int .i64 (b:Int)/\n=r) (λi _=>a-(intOf i).toNat)
    case atStart=>exact⟨0,Fr _,rfl,rfl⟩
    case round=>
     obtain⟨b,ae,rfl,q⟩:=hrel;subst q;by_cases y:b<a
     ·have⟨g,z,N⟩:=yo (V:=VE<|k / 4) u.o y
      subst z;have af:(b:Int)<(a:Int):=by omega
      have aI:(Jw k).1.toList=[]:=by show ByteArray.empty.toList=[];simp only[Av];decide
      have aJ:(Jw k).2.1=-1000-(k:Int) / 4:=by show -1000-((k / 4:Nat):Int)=_;omega
      have aK:(Jw k).2.2=0:=fX;have D:World.cell? _ (ie g<|b*3)=fh (hZ (Jw k).1):=iQ f.o<|N 0 (by show 0<3;decide);have ao:World.cell? _ (ie g<|b*3+1)=fh (fY (Jw k).2.1):=iQ f.o<|N 1 (by show 1<3;decide);have aL:World.cell? _ (ie g<|b*3+2)=fh (fY (Jw k).2.2):=iQ f.o<|N 2 (by show 2<3;decide);have ag:=qb D;clear N;go_wp2;go_roundw
      case rel=>exact⟨b+1,by omega,by go_num,by trivial⟩
      case measure=>simp[intOf];omega
     go_wp2;go_roundw
     case rel=>exact⟨k+1,by omega,by go_num,by trivial⟩
     case measure=>simp[intOf];omega
   have R:=iQ f.o K.o.2.2.1;rename fq=>r;go_wp2
   go_loopw [8] (λi n=>∃k:Nat,k<=G/\i=.int .i64 (k:Int)/\n=r) (λi _=>G-(intOf i).toNat)
   case atStart=>exact⟨0,Fr _,rfl,rfl⟩
   case round=>
    obtain⟨k,A,rfl,q⟩:=hrel;subst q;by_cases t:k<G
    ·have⟨o,h,a,j,l,m,Z,p⟩:=I.o 10 k (by rw[<-J.o.2.2.1];exact t)
     rw[l]at R;obtain⟨B,C⟩:=oX (-1000-(k:Int) / 4:Int);have u:fe (uC 133 2 [hZ kq,fY B] w (h,a,j)):=by rw[C,show(k:Int) / 4=((k / 4:Nat):Int) by omega];exact p
     have aa:(k:Int)<(G:Int):=(by omega);have an:(0:Int)<=(k:Int):=by omega
     have x:=iQ f.o m;have ad:=qb x;clear m p l;rename fq=>r;go_wp2
     go_loopw [9] (λi n=>∃b:Nat,b<=a/\i=.int .i64 (b:Int)/\n=r) (λi _=>a-(intOf i).toNat)
     case atStart=>exact⟨0,Fr _,rfl,rfl⟩
     case round=>
      obtain⟨b,ae,rfl,q⟩:=hrel;subst q;by_cases y:b<a
      ·have⟨g,z,N⟩:=yo u.o y
       subst z;have af:(b:Int)<(a:Int):=by omega
       have D:World.cell? _ (ie g<|b*2)=fh (hZ kq):=iQ f.o<|N 0 (by simp);have ao:World.cell? _ (ie g<|b*2+1)=fh (fY B):=iQ f.o<|N 1 (by simp);have ag:=qb D;rw[C]at ao;clear N;go_wp2;go_roundw
       case rel=>exact⟨b+1,by omega,by go_num,by trivial⟩
       case measure=>simp[intOf];omega
      go_wp2;go_roundw
      case rel=>exact⟨k+1,by omega,by go_num,by trivial⟩
      case measure=>simp[intOf];omega
    have aB:=iQ f.o K.o.2.2.2;rename fq=>aC;go_wp2
    go_loopw [10] (λi n=>∃k:Nat,k<=H/\i=.int .i64 (k:Int)/\n=aC) (λi _=>H-(intOf i).toNat)
    case atStart=>exact⟨0,Fr _,rfl,rfl⟩
    case round=>
     obtain⟨k,A,rfl,q⟩:=hrel;subst q;by_cases t:k<H
     ·have⟨o,h,a,j,l,m,Z,p⟩:=I.o 11 k (by rw[<-J.o.2.2.2];exact t)
      rw[l]at aB;have u:fe (uC 29 1 [fY<|-1000-(k:Int) / 4] w (h,a,j)):=by rw[show(k:Int) / 4=((k / 4:Nat):Int) by omega];exact p
      have aa:(k:Int)<(H:Int):=(by omega);have an:(0:Int)<=(k:Int):=by omega
      have x:=iQ f.o m;have ad:=qb x;clear m p l;rename fq=>aD;go_wp2
      go_loopw [11] (λi n=>∃b:Nat,b<=a/\i=.int .i64 (b:Int)/\n=aD) (λi _=>a-(intOf i).toNat)
      case atStart=>exact⟨0,Fr _,rfl,rfl⟩
      case round=>
       obtain⟨b,ae,rfl,q⟩:=hrel;subst q;by_cases y:b<a
       ·have⟨g,z,N⟩:=yo u.o y
        subst z;have af:(b:Int)<(a:Int):=by omega
        have D:=iQ f.o<|N 0 (by simp);simp only[lg,zw,iR,Nat.mul_one,Ee,Hx]at D;have ag:=qb D;clear N;go_wp2;go_roundw
        case rel=>exact⟨b+1,by omega,by go_num,by trivial⟩
        case measure=>simp[intOf];omega
       go_wp2;go_roundw
       case rel=>exact⟨k+1,by omega,by go_num,by trivial⟩
       case measure=>simp[intOf];omega
     go_wp2;go_ret;exact⟨fX,f.o⟩
def kmi:(prog.info? 59).map (λi=>(i.zero,i.size,i.bytes))=fh (fh<|fy fj 0 0,1,24):=by kernel_rfl
theorem FK(W q:Nat)(cs:Array fu)(b:iD)(d m c:Nat)(a)(h:List lR)(G:gX)(w:fq)(l:w.heap[W]?=fh (.cells cs 71 (0,0)))(ai:4*q<=1000000000)(y:m<=1000000000):
  (cs[11]?=fh (fy b (4*q) d)->w.ownsRow 0 59 1 (fy b (4*q) d) (4*q) (h.map qQ)->w.ownsRow 0 29 1 (fy a m c) m G->ik 88 #[fB<|fh (ie W 8),fy a m c] w λe J=>e=qr #[]/\sj 29 59 1 [fY<|-1000-(q:Int)] 11 w J W q cs b d a m c h)/\
  (cs[8]?=fh (fy b (4*q) d)->w.ownsRow 0 131 1 (fy b (4*q) d) (4*q) (h.map qQ)->w.ownsRow 0 9 1 (fy a m c) m G->ik 93 #[fB<|fh (ie W 8),fy a m c] w λe J=>e=qr #[]/\sj 9 131 1 [hZ<|JE q] 8 w J W q cs b d a m c h):=by
 have aj:W<w.heap.size:=(lH.1 l).1;have ak:((4*q:Nat):Int) / 4=(q:Int):=by omega
 have al:(4*(q:Int)) / 4=(q:Int):=by omega
 obtain⟨n,z⟩:=oX<|JE q;have S:fe (ik 58 #[fY (q:Int)] w<|vd (hZ n) w):=by rw[z];exact OA q w<|by omega
 rw[<-z];clear z;obtain⟨r,s⟩:=oX<|-1000-(q:Int);rw[<-s];constructor
 case' left=>
  intro t row j;have o:Ik 59 29 [fY r]:=⟨_,_,underlying59,Ln,Vl,fX,by simp,by decide⟩;have p:Ik 67 59 [fy fj 0 0]:=⟨_,_,underlying67,yh,kmi,fX,by simp,by decide⟩;have H:w.c W 11=fh (fy b (4*q) d):=by simp[World.cell?,l,t]
  have u:fe (∀f,ju w f->iK 29 [fY r] w a m c f 0):=λf A=>iK.first j A
  have B:fe (∀{wr vs},nL 29 [fY r] w a m c wr vs->wr.heap[W]?=fh (.cells cs 71 (0,0))/\wr.ownsRow 0 59 1 (fy b (4*q) d) (4*q) (h.map qQ)):=λC=>zP j l row (by decide) (by decide) C;obtain⟨I,D⟩:=oX (iK 29 [fY r] w a m c:fq->Nat->Prop)
 case' right=>
  intro t row j;have o:Ik 131 9 [hZ n]:=⟨_,_,underlying131,Bi,uF,fX,by simp,by decide⟩;have p:Ik 64 131 [fy fj 0 0]:=⟨_,_,underlying64,yh,gmt,fX,by simp,by decide⟩;have H:w.c W 8=fh (fy b (4*q) d):=by simp[World.cell?,l,t]
  have u:fe (∀f,ju w f->iK 9 [hZ n] w a m c f 0):=λf A=>iK.first j A
  have B:fe (∀{wr vs},nL 9 [hZ n] w a m c wr vs->wr.heap[W]?=fh (.cells cs 71 (0,0))/\wr.ownsRow 0 131 1 (fy b (4*q) d) (4*q) (h.map qQ)):=λC=>zP j l row (by decide) (by decide) C;obtain⟨I,D⟩:=oX (iK 9 [hZ n] w a m c:fq->Nat->Prop)
 all_goals
  have v:fe _:=D;clear j row D
  first|go_enter func88,ntmps88|go_enter func93,ntmps93
 case' left=>
  rw[s]at u B o v |-;have K:fe _:=u.o w<|mi _ _;clear s
 case' right=>
  clear s;go_wp2_with fail;refine Hk S.o λT L=>?_
  have K:fe _:=u.o T L;clear L H
 all_goals
  go_wp2
  go_loopw [5] (λi wr=>∃k:Nat,k<=m/\i=.int .i64 (k:Int)/\fe (I wr k)) (λi _=>m-(intOf i).toNat)
  case atStart=>exact⟨0,Fr _,rfl,by rw[v.o];exact K.o⟩
  case round=>
   obtain⟨k,am,rfl,x⟩:=hrel;rw[v.o]at x;by_cases M:k<m
   ·obtain⟨g,rfl,an,ao,ap,N⟩:=x.o.cells M
    have aq:(k:Int)<(m:Int):=(by omega);have⟨ar,U⟩:=N 0 (by simp);simp only[lg,zw,iR,Nat.mul_one,Ee]at U;clear N;go_wp2;go_roundw
    case rel=>exact⟨k+1,by omega,by go_num,by rw[v.o];exact x.o.aaO M⟩
    case measure=>simp[intOf];omega
   have V:k=m:=by omega
   subst V;have O:fe _:=x.o.done;have au:((k:Int)<(k:Int))=False:=by simp
   have av:=O.o.keeps.size;go_wp2_with(at_builtin;apply nL.wp O o fX fX fX fX fX ⟨y,by decide⟩ fX);intro aw ax ay az X;go_wp2_with(at_builtin;refine nL.wp X o fX fX fX fX fX ⟨y,by decide⟩ fX ?_);intro aA aB aC aD Y;go_wp2_with(at_builtin;refine nL.wp Y o fX fX fX fX fX ⟨y,by decide⟩ fX ?_);intro aE aF wc aG P;have⟨E,F⟩:=B.o P.o;have Q:fe _:=jS.first E t F
   have R:fe _:=And.intro E F;clear E F;have⟨aH,Z,f0⟩:=Q.o.cells;go_wp2_with(at_builtin;apply jS.wp Q (by decide) p fX (by omega) fX fX fX fX (by simp) fX);intro aI c1 w1 aJ aa f1 ab;clear Z f0;go_wp2_with(at_builtin;apply jS.wp ab (by decide) p fX (by omega) fX fX fX fX (by simp) fX);intro aK c2 aL aM ac f2 ad;clear aa f1;go_wp2_with(at_builtin;apply jS.wp ad (by decide) p fX (by omega) fX fX fX fX (by simp) fX);intro aN c3 aO aP ae f3 af;clear ac f2;go_wp2_with(at_builtin;apply jS.wp af (by decide) p fX (by omega) fX fX fX fX (by simp) fX);intro aQ c4 aR aS aT f4 ag;clear ae f3;have ah:fe _:=NZ P.o R.o.1 R.o.2 (by decide) (by decide) ag.o fX fX fX;go_wp2;go_end0;exact⟨fX,ah.o⟩
def jn (l:fQ):Array fu:=#[fA<|l.getD 0 ⟨#[]⟩,fA<|l.getD 1 ⟨#[]⟩,fA<|l.getD 2 ⟨#[]⟩,fA<|l.getD 3 ⟨#[]⟩,fA<|l.getD 4 ⟨#[]⟩]
def ln (l:fQ):fu:=fD<|jn l
structure Good (l:fQ):Prop where
 val:fL l
 len:l.length<=5
theorem Good.nil:Good []:=⟨λx a=>by simp at a,by simp⟩
theorem Good.take(a:Good l)(k):Good (l.take k):=⟨λx b=>a.val x<|Aw b,by have:=a.len;rw[kT];omega⟩
def Good.dropLast(a:Good l):Good l.dropLast:=by rw[List.dropLast_eq_take];exact a.take _
def uu:147<prog.types.size:=Cb<|by kernel_rfl
def goN:prog.keyTypeAt 9 147=fm:=by kernel_rfl
def yT:Maps.Keyed prog 147:=Maps.Keyed.of_law<|deep_law_laid laidOut (m:=9) (by omega) uu goN (by rw[underlying147])
def go2:prog.cellsOf 147=5:=by kernel_rfl
def Map:prog.keyType 147=fm:=by kernel_rfl
theorem XJ(a:fL l)(i):(l.getD i kq).size<=maxLen:=by
 rw[yN];by_cases U:i<fv l;rw[jG U]
 have:=(xj<|a _ (kK U)).2
 grind [maxLen]
 rw[wA<|by omega];decide
theorem Net(d:Nat)(l)(a:fL l):∃Y,prog.keyLits (d+2) 147 (jn l).toList=fh Y:=by
 have b:∀i,prog.keyLits (d+1) 9 [.string<|l.getD i kq]=fh [.string (l.getD i kq).data.toList]:=λi=>by
  have:=XJ a i
  generalize l.getD i kq=x at this;unfold Program.keyLits;simp[underlying9,this]
 have⟨c,e⟩:=mapM_some (λi=>prog.keyLits (d+1) 9<|((jn l).toList.drop (i*1)).take 1) (List.range 5) (by
  intro i U;rw[List.mem_range] at U;have f:((jn l).toList.drop<|i*1).take 1 = [.string<|l.getD i kq]:=by
   rcases (show i=0\/i=1\/i=2\/i=3\/i=4 by omega) with rfl | rfl | rfl | rfl | rfl <;> rfl
  rw[f];exact⟨_,b i⟩)
 refine⟨c.flatten,?_⟩;have g:(jn l).toList.length=5:=fX;unfold Program.keyLits;simp only[underlying147,go2,g,if_true,dk2,e,Option.map_some]
def qm (a:Program)(l:fQ):Lit:=(keyOf a 147<|ln l).getD .nil
theorem nt(a:fL l):keyOf prog 147 (ln l)=fh (qm prog l):=by
 have e:∃k,keyOf prog 147 (ln l)=fh k:=by
  have b:Value.formed prog 147 (fD<|jn l)=fm:=by
   unfold Value.formed;rw[underlying147];simp[go2,jn]
  obtain⟨n,c⟩:∃n,prog.types.size+1=n+2:=⟨prog.types.size-1,by have:=uu;omega⟩;have⟨Y,d⟩:=Net n l a;unfold keyOf ln;rw[underlying147];simp only[Map,b,Bool.and_self,dat,Value.cells,c,d,qA]
  grind
 grind [qm]
def JF(a:fN x=fm):x≠kq:=λe=>by
 have:=(xj a).1
 rw[e]at this
 exact absurd this<|by decide
theorem XK(c:Good p)(d:Good q)(e:jn p=jn q):p=q:=by
 have f:∀i,i<5->p.getD i kq=q.getD i kq:=by
  intro i U;unfold jn at e
  grind
 have g:=c.len;have h:=d.len;apply KT;intro i;by_cases U:i<5;have k:=f i U;rw[yN,yN]at k;rcases b:p[i]? with _|x
 cases a:q[i]? with
 |none=>rfl
 |some y=>rw[b,a]at k;exact absurd k.symm<|JF (d.val y<|cls a)
 cases a:q[i]? with
 |none=>rw[b,a]at k;exact absurd k<|JF (c.val x<|cls b)
 |some y=>rw[b,a]at k;exact congrArg fh k
 grind
theorem uK(a:Good p)(b:Good q)(d:qm prog p=qm prog q):p=q:=by
 have c:=nt b.val;rw[<-d]at c
 have:=yT.inj (nt a.val) c
 exact XK a b<|Value.agg.inj this
def Vw(a:Good p):WideAt.IsKeyLit (qm prog p):=yT.key<|nt a.val
theorem ir(a:Good p)(b:Good q)(w):(Op.equal 147 (ln p)<|ln q).run prog w=.ok (decide (p=q)) w:=by
 have⟨c,_⟩:=run_equal_deep w (m:=9) (by omega) goN (by rw[underlying147]) (nt a.val)<|nt b.val
 grind [decide,iE,yv,absurd,uK]
theorem sk(l):∃H a b c Z,jn l=(ml H a b c Z):=⟨_,_,_,_,_,fX⟩
def OB(a:fN x=fm):(x.toList==[])=fo:=EF.2 λe=>by
 have c:=(xj a).1
 rw[mE]at e
 have b:=congrArg List.length e
 rw[PP,zw]at b
 omega
theorem gW(w:fq):ik 75 #[] w (vd (ln []) w):=by
 go_enter func75,ntmps75;go_wp2;exact oa (v:=ln []) (by simp[results,results75,go_sem,ln,jn]) fX ⟨fX,by repeat(first|exact mi _ _|(refine WK ?_ (by simp) _)|(refine wD ?_ (by simp) _))⟩
def aci(c0 c1 c2 c3 c4:fu)(w):(Instr.index 147 (fD #[c0,c1,c2,c3,c4])<|fY 0).run prog w=.ok c0 w:=by kernel_rfl
def acj(c0 c1 c2 c3 c4:fu)(w):(Instr.index 147 (fD #[c0,c1,c2,c3,c4])<|fY 1).run prog w=.ok c1 w:=by kernel_rfl
def ack(c0 c1 c2 c3 c4:fu)(w):(Instr.index 147 (fD #[c0,c1,c2,c3,c4])<|fY 2).run prog w=.ok c2 w:=by kernel_rfl
def acm(c0 c1 c2 c3 c4:fu)(w):(Instr.index 147 (fD #[c0,c1,c2,c3,c4])<|fY 3).run prog w=.ok c3 w:=by kernel_rfl
def acn(c0 c1 c2 c3 c4:fu)(w):(Instr.index 147 (fD #[c0,c1,c2,c3,c4])<|fY 4).run prog w=.ok c4 w:=by kernel_rfl
theorem nN(l)(a:fL l)(b:fv l<=5)(w:fq):ik 142 #[ln l] w (vd (fY (fv l:Int)) w):=by
 have c:∀x∈l,(x.toList==[])=fo:=λx d=>OB<|a x d;have e:=aci;have f:=acj;have g:=ack;have h:=acm;have i:=acn;clear a;unfold ln jn;rcases l with _|⟨H,_|⟨j,_|⟨k,_|⟨m,_|⟨Z,_|⟨n,l⟩⟩⟩⟩⟩⟩
 case cons.cons.cons.cons.cons.cons=>simp at b
 all_goals
  try simp only[List.forall_mem_cons]at c
  clear b;simp only[List.getD_cons_zero,List.getD_cons_succ,tW];go_enter func142,ntmps142;go_wp2;refine wp_loop_rounds 7 ?_
  repeat(rw[rounds_succ];go_wp2)
  go_ret;exact⟨fX,(mi _ _).alloc (lw _) _⟩
def Ew(w):(zeroValue 9).run prog w=.ok (hZ kq) w:=by kernel_rfl
def kmm(a)(W):(Instr.sliceAt 147 (ii a) (fh<|fY 0) fj fj).run prog W=.ok (my a 0 5 5) W/\(Instr.sliceAt 147 (ii a) (fh<|fY 1) fj fj).run prog W=.ok (my a 1 4 4) W/\(Instr.sliceAt 147 (ii a) (fh<|fY 2) fj fj).run prog W=.ok (my a 2 3 3) W/\(Instr.sliceAt 147 (ii a) (fh<|fY 3) fj fj).run prog W=.ok (my a 3 2 2) W/\(Instr.sliceAt 147 (ii a) (fh<|fY 4) fj fj).run prog W=.ok (my a 4 1 1) W/\(Instr.sliceAt 147 (ii a) (fh<|fY 5) fj fj).run prog W=.ok (my a 0 0 0) W:=⟨by kernel_rfl,by kernel_rfl,by kernel_rfl,by kernel_rfl,by kernel_rfl,by kernel_rfl⟩
theorem gtr(H b c h Z)(n:Int)(a:Array fu)(w:fq)(i:(n=-1/\a=(ml kq kq kq kq kq))\/(n=0/\a=(ml kq kq kq kq kq))\/(n=1/\a=(ml H kq kq kq kq))\/(n=2/\a=(ml H b kq kq kq))\/(n=3/\a=(ml H b c kq kq))\/(n=4/\a=(ml H b c h kq))\/(n=5/\a=(ml H b c h Z))):
  ik 188 #[fD<|ml H b c h Z,fY n] w (vd (fD a) w):=by
 have d:∀k,k<5->∀f,(Builtin.clear_ #[131] f #[my w.heap.size k (5-k)<|5-k]).run prog ((w.k (ml H b c h Z) 147).k (ml kq kq kq kq kq) 147)=.ok (fC #[]) (((w.k (ml H b c h Z) 147).k (ml kq kq kq kq kq) 147).setCells w.heap.size k<|List.replicate (5-k) (hZ kq)):=λk m f=>Lib.run_clear_slice _ 131 9 f (hZ kq) underlying131 Ew fX fX w.heap.size k (5-k) (5-k) (by omega)
  (λg j=>by rcases(show k+g=0\/k+g=1\/k+g=2\/k+g=3\/k+g=4 by omega)with e|e|e|e|e<;>rw[e]<;>simp[hyz])
  (λg j=>by simp[rrs])
 have c0:=d 0 (by decide);have c1:=d 1 (by decide);have c2:=d 2 (by decide);have c3:=d 3 (by decide);have c4:=d 4 (by decide);have c5:∀f W,(Builtin.clear_ #[131] f #[my w.heap.size 0 0 0]).run prog W=.ok (fC #[]) W:=λf W=>by simp[Builtin.clear_,coe underlying131]
 simp only[World.setCells,List.replicate,Nat.reduceAdd,Nat.reduceSub,Nat.sub_zero]at c0 c1 c2 c3 c4;have l:max (-1:Int) 0=0/\max (0:Int) 0=0/\max (1:Int) 0=1/\max (2:Int) 0=2/\max (3:Int) 0=3/\max (4:Int) 0=4/\max (5:Int) 0=5:=by decide
 clear d;rcases i with⟨rfl,rfl⟩|⟨rfl,rfl⟩|⟨rfl,rfl⟩|⟨rfl,rfl⟩|⟨rfl,rfl⟩|⟨rfl,rfl⟩|⟨rfl,rfl⟩
 all_goals
  go_enter func188,ntmps188;go_wp2_with(first|simp only[l]|simp only[kmm]|simp only[c0,c1,c2,c3,c4,c5]);exact oa (by simp[results,results188,go_sem]) fX ⟨fX,by repeat(first|exact mi _ _|(refine WK ?_ (by simp) _)|(refine wD ?_ (by simp) _))⟩
theorem OC(l:fQ)(b:fv l<=5)(n:Nat)(c:n<=5)(w:fq):ik 188 #[ln l,fY (n:Int)] w (vd (ln<|l.take n) w):=by
 have a:∀i,(l.take n).getD i kq=if i<n then l.getD i kq else kq:=by
  grind
 unfold ln jn;simp only[a];rcases(show n=0\/n=1\/n=2\/n=3\/n=4\/n=5 by omega)with rfl|rfl|rfl|rfl|rfl|rfl<;>exact gtr _ _ _ _ _ _ _ w (by simp)
def XL(l)(w:fq):ik 188 #[ln l,fY<|-1] w (vd (ln []) w):=gtr _ _ _ _ _ _ _ w<|.inl ⟨fX,fX⟩
theorem kw(c:ju W w1):(∀a o,a<W.heap.size->w1.cell? (ie a o)=W.cell? (ie a o))/\(∀a o,a<W.heap.size->w1.frozen? (ie a o)=W.frozen? (ie a o)):=
 ⟨λa o b=>c.cell (p:=(ie a o)) b,λa o b=>c.frozen (p:=(ie a o)) b⟩
def io(a:Below n w W):Below n w W.drew:=⟨a.os,a.tape,a.output,a.size,a.block⟩
theorem gS(a:ju w W)(b:ju W w1):ju w w1:=a.trans<|b.mono a.size
def uL{a b}(c:Below ((w.alloc a).alloc b).drew.heap.size ((w.alloc a).alloc b).drew w1):w.heap.size<w1.heap.size/\w.heap.size+1<w1.heap.size:=by
 have d:((w.alloc a).alloc b).heap.size<=w1.heap.size:=c.size;rw[zu,zu]at d;omega
theorem Dl(H a b c Z d e f g h)(n m:Int)(w:fq)(t:IntKind.i64.wrap (n-1)=m)
  (k:∀W,ik 142 #[fD<|ml H a b c Z] W<|vd (fY n) W)
  (l:∀W,ik 188 #[fD<|ml H a b c Z,fY m] W<|vd (fD<|ml d e f g h) W):
  ik 132 #[fD<|ml H a b c Z] w (vd (fD<|ml d e f g h) w):=by
 go_enter func132,ntmps132;go_wp2
 go_region_with(first
  |(go_at_call 142;refine(k _).via λw1 i=>?_;have⟨o,u⟩:=kw i;have⟨x,p⟩:=uL i)
  |(go_at_call 188;refine(l _).via λy j=>?_;have⟨q,z⟩:=kw j))
 all_goals
  go_wp2;exact oa (v:=fD<|ml d e f g h) (by simp[results,results132,go_sem,o,q,p]) fX ⟨fX,by
   have r:=gS (io<|((mi _ _).alloc (lw _) _).alloc (by simp) _) i;have s:=r.trans<|j.mono (by omega)
   repeat(first|exact s|(refine wD ?_ (by simp) _))⟩
