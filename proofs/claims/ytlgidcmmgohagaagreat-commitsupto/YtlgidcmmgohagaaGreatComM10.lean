/- A part of the proof. -/
import Derived.Test.YtlgidcmmgohagaaGreatComM07
set_option linter.all false
namespace Go.Proofs.YtlgidcmmgohagaaGreat
open Go.RowKit Go.Sort Go.Shelf Go.Proofs.Tryz
open Go.Value renaming slice->fy,string->fA,pointer->fB,tuple->fC,agg->fD,bool->fE
open Go.Ending renaming returned->fF
open Option renaming some->fh,none->fj
open Bool renaming true->fm,false->fo
open Go renaming World->fq,Value->fu
open List renaming length->fv,reverse->fx
open Go.RowKit renaming Hid->fe
set_option maxRecDepth 100000
set_option maxHeartbeats 0
variable {g o:Nat}{v:fu}{w:fq}
def Bj (a:Nat)(w H:fq):Prop:=a<H.heap.size/\∀o,H.cell? ⟨a,o,fj⟩=w.cell? ⟨a,o,fj⟩
def iT (k a b c:Int)(d e:fP)(f:ig)(g h:Nat):Array fu:=#[.int .i64 k,.int .i64 a,.int .i64 b,.int .i64 c,fA d,fA e,fy f g h]
theorem SD(d f g)(m n o:Int)(b p)(q)(r s)(a:Int)(t:(a==14)=fo)(h i:fq->Prop)(w)
  (j:∀c,ju w c->w.heap.size<c.heap.size->ik 31 #[ie f,hh b] c λe H=>e=fF (fY a)/\Bj w.heap.size c H/\h H)
  (k:∀O,h O->ik 95 #[ie g,hh b] O λe H=>e=fF (fY a)/\i H):
  ik 50 #[ie d,ie f,ie g,fD<|iT 10 m n o b p q r s] w λe H=>e=fF (fE fm)/\i H:=by
 unfold iT;have u:=λ(H:fq)=>gW d a a fm H t
 have v:=λ(H:fq)=>iR a H
 change fe _ at j k
 go_enter func50,ntmps50;go_wp2_with fail;refine Calls.via (j _ ((mi _ _).alloc (lw _) _)<|by simp) λx⟨l,y⟩=>?_
 have A:x.c w.heap.size 4=fh (hh b):=(l.2 4).trans (by simp);clear l;go_wp2_with(first
  |(go_at_call 22;apply Calls.still<|v _)
  |(go_at_call 53;apply Calls.still<|u _)
  |(go_at_call 95;refine Calls.via (k _ y) λB z=>?_))
 go_ret;exact⟨fX,z⟩
theorem Ox(d f g)(m n o:Int)(b p)(q)(r s)(a:Int)(t:(a==14)=fo)(h i:fq->Prop)(w)
  (j:∀c,ju w c->w.heap.size<c.heap.size->ik 32 #[ie f,hh b] c λe H=>e=fF (fY a)/\Bj w.heap.size c H/\h H)
  (k:∀O,h O->ik 96 #[ie g,hh b] O λe H=>e=fF (fY a)/\i H):
  ik 50 #[ie d,ie f,ie g,fD<|iT 11 m n o b p q r s] w λe H=>e=fF (fE fm)/\i H:=by
 unfold iT;have u:=λ(H:fq)=>gW d a a fm H t
 have v:=λ(H:fq)=>iR a H
 change fe _ at j k
 go_enter func50,ntmps50;go_wp2_with fail;refine Calls.via (j _ ((mi _ _).alloc (lw _) _)<|by simp) λx⟨l,y⟩=>?_
 have A:x.c w.heap.size 4=fh (hh b):=(l.2 4).trans (by simp);clear l;go_wp2_with(first
  |(go_at_call 22;apply Calls.still<|v _)
  |(go_at_call 53;apply Calls.still<|u _)
  |(go_at_call 96;refine Calls.via (k _ y) λB z=>?_))
 go_ret;exact⟨fX,z⟩
theorem Oy(g h i)(o p q:Int)(b c)(r)(s t)(a:Int)(u:(a==14)=fo)(j k:fq->Prop)(w)
  (l:∀d,ju w d->w.heap.size<d.heap.size->ik 33 #[ie h,hh b,hh c] d λe H=>e=fF (fY a)/\Bj w.heap.size d H/\j H)
  (m:∀O,j O->ik 97 #[ie i,hh b,hh c] O λe H=>e=fF (fY a)/\k H):
  ik 50 #[ie g,ie h,ie i,fD<|iT 12 o p q b c r s t] w λe H=>e=fF (fE fm)/\k H:=by
 unfold iT;have v:=λ(H:fq)=>gW g a a fm H u
 have x:=λ(H:fq)=>iR a H
 change fe _ at l m
 go_enter func50,ntmps50;go_wp2_with fail;refine Calls.via (l _ ((mi _ _).alloc (lw _) _)<|by simp) λn⟨f,y⟩=>?_
 have A:n.c w.heap.size 4=fh (hh b):=(f.2 4).trans (by simp);have B:n.c w.heap.size 5=fh (hh c):=(f.2 5).trans (by simp);have C:=f.1;clear f;go_wp2_with(first
  |(go_at_call 22;apply Calls.still<|x _)
  |(go_at_call 53;apply Calls.still<|v _)
  |(go_at_call 97;refine Calls.via (m _ y) λD z=>?_))
 go_ret;exact⟨fX,z⟩
def XL(m n o)(u v x:Int)(d y)(z)(A B)(k g a:Int)(C:(a==14)=fo)(h:fq->Prop)(w)
  (q:∀f,ju w f->w.heap.size<f.heap.size->ik 67 #[ie n,hh d] f λe H=>e=pD #[fD #[fY k,fY g],fY a]/\Bj w.heap.size f H/\h H)
  (r:∀O,h O->∀i,ju O i->ik 90 #[ie o,hh d] i (ut (fC #[fD #[fY k,fY g],fY a]) i)):
  ik 50 #[ie m,ie n,ie o,fD<|iT 8 u v x d y z A B] w λe H=>e=fF (fE fm)/\∃O,h O/\ju O H:=by
 unfold iT;have D:=λ(E:Bool)(H:fq)=>gW m a a E H C
 have F:(a==a)=fm:=by simp
 change fe _ at q r
 go_enter func50,ntmps50;go_wp2_with fail;refine Calls.via (q _ ((mi _ _).alloc (lw _) _)<|by simp) λb⟨j,s⟩=>?_
 have G:b.c w.heap.size 4=fh (hh d):=(j.2 4).trans (by simp);have I:=j.1;clear j;go_wp2_with fail;refine Calls.via (r _ s _<|(mi _ _).alloc (lw _) _) λl c=>?_;have J:l.c b.heap.size 0=fh (fY k):=(c.cell (p:=(ii b.heap.size 0))<|by simp).trans (by simp);have K:l.c b.heap.size 1=fh (fY g):=(c.cell (p:=(ii b.heap.size 1))<|by simp).trans (by simp);have L:b.heap.size<l.heap.size:=by have:=c.size;simp at this;omega
 have t:=((mi _ _).alloc (lw _) _).trans<|c.mono (by simp);clear c;go_wp2_with(go_at_call 53;apply Calls.still<|D _ _)
 all_goals
  go_ret;exact⟨fX,b,s,t.alloc t.size _⟩
theorem XM(k u v)(N P Q:Int)(i R)(S)(T U)(f:Int)(V:(f==14)=fo)(a:fT)(x:fv a<=1000000000)(l:ig->Nat->fq->Prop)(y:fq->Prop)(w)
  (z:∀j,ju w j->w.heap.size<j.heap.size->ik 68 #[ie u,hh i] j λe H=>∃b c,e=pD #[fy b (fv a) c,fY f]/\Bj w.heap.size j H/\H.ownsRow 0 9 1 (fy b (fv a) c) (fv a) (gO a)/\l b c H)
  (A:∀b c O,l b c O->∀h,ju O h->ik 91 #[ie v,hh i] h λe H=>∃b c,e=pD #[fy b (fv a) c,fY f]/\H.ownsRow 0 9 1 (fy b (fv a) c) (fv a) (gO a)/\ju h H)
  (B:∀b c O,l b c O->∀h,ju O h->ik 93 #[fB<|fh (ii k 8),fy b (fv a) c] h λe H=>e=pD #[]/\y H):
  ik 50 #[ie k,ie u,ie v,fD<|iT 9 N P Q i R S T U] w λe H=>e=fF (fE fm)/\y H:=by
 unfold iT;have W:=λ(m:Bool)(H:fq)=>gW k f f m H V
 have ai:(f==f)=fm:=by simp
 have X:fe _:=B;have C:=λ(b m:ig)(c d:Nat)(Y:fq)Z aa=>Ik b m c d a a Y x x Z aa;obtain⟨n,D⟩:=ol<|fv a;have o:fe (n=fv a):=D
 change fe _ at z A C
 clear B D;go_enter func50,ntmps50;go_wp2_with fail;apply RK<|z _ ((mi _ _).alloc (lw _) _) (by simp);rintro e p ⟨b,c,rfl,E,F,G⟩;have aj:p.c w.heap.size 4=fh (hh i):=(E.2 4).trans (by simp);clear E;have I:fe (p.ownsRow 0 9 1 (fy b (fv a) c) (fv a)<|gO a):=F;clear F;go_wp2_with fail;apply RK<|A _ _ _ G _ (mi _ _);rintro e q ⟨ab,ac,rfl,J,r⟩;have K:q.ownsRow 0 9 1 (fy b (fv a) c) (fv a) (gO a):=gg I λg ad=>r.block g<|gc I ad;have s:=C b ab c ac q K J;simp only[WQ]at s;have L:fe _:=s;have M:fe (ju p q):=r;clear K s J r;rw[<-o.o];rw[<-o.o]at L;go_wp2_with(first
  |(go_at_call 53;apply Calls.still<|W _ _)
  |(go_at_call 92;refine Calls.via L.o λae af=>?_;have t:=X _ _ _ G ae<|M.trans (af.mono M.size);rw[<-o.o]at t;have ag:fe _:=t;clear t)
  |(go_at_call 93;refine Calls.via ag.o λak ah=>?_))
 all_goals
  go_ret;exact⟨fX,ah⟩
def Oz (n:Nat)(a:fP):fP:=if b:n=0 then a else Oz (n / 10) (a++⟨#[UInt8.ofNat<|65+n % 10]⟩)
termination_by n
decreasing_by omega
def JA (n:Nat):fP:=Oz n ⟨#[109]⟩
def geq(w:fq)(n:Int):(convert 204 9<|my w.heap.size 0 1 1).run prog (w.k #[.int .u8 n] 5)=.ok (hh<|strOfNums [n]) (w.k #[.int .u8 n] 5):=
 run_convert_bytes_arg (P:=prog) (w.k #[.int .u8 n] 5) 204 5 (by kernel_rfl) (by kernel_rfl) w.heap.size 0 1 1 [n] fX (λi U=>by
  have:i=0:=by omega
  subst this
  simp) 9 (by kernel_rfl)
def OA(n:Nat)(w:fq)(g:n<=1000000000):
  ik 58 #[fY (n:Int)] w (ut (hh<|JA n) w):=by
 go_enter func58,ntmps58;go_wp2
 go_loopw [0,3] (λi d wr=>∃(k:Nat) (t:fP),t.size+k<=n+1/\i=.int .i64 (k:Int)/\d=fA t/\fe (Oz k t=JA n)/\fe (ju w wr)) (λi _ _=>(intOf i).toNat)
 case atStart=>exact⟨n,⟨#[109]⟩,by show 1+n<=n+1;omega,fX,fX,fX,mi _ _⟩
 case round=>
  obtain⟨k,t,h,rfl,rfl,b,a⟩:=hrel;by_cases c:k=0
  ·subst c
   go_wp2;go_ret;refine⟨?_,a⟩
   have:=b.o
   rw[Oz]at this;simp at this;rw[<-this];rfl
  have f:(strOfNums [65+(k:Int) % 10]).size=1:=fX;have j:=geq wr<|65+(k:Int) % 10;go_wp2;refine⟨⟨k / 10,_,?_,by go_num,fX,?_,a.alloc a.size _⟩,by simp[intOf];omega⟩;rw[Ws,f];omega;show _=_;rw[<-b.o];conv=>rhs;rw[Oz]
  rw[dif_neg c];have e:strOfNums [65+(k:Int) % 10]=⟨#[UInt8.ofNat<|65+k % 10]⟩:=by
   unfold strOfNums
   have:(65+(k:Int) % 10).toNat=65+k % 10:=by omega
   simp[this]
  rw[e]
def gid:(prog.info? 131).map (λi=>(i.zero,i.size,i.bytes))=fh (fh<|fy fj 0 0,1,24):=by kernel_rfl
theorem pZ(a:w.c g o=fh v):g<w.heap.size:=by
 grind [WN,Array.getElem?_eq_none,World.cell?]
def iM{w H}(b:ju w H)(a:w.c g o=fh v):H.c g o=fh v:=(b.cell (p:=(ii g o))<|pZ a).trans a
def kH:Nat->lV×lV×Nat
 |8=>(9,131,1)
 |9=>(96,55,3)
 |10=>(133,121,2)
 |_=>(29,59,1)
def vH:Nat->Nat->iN
 |8,i=>[fA<|JA i]
 |9,i=>VE i
 |10,i=>VC i
 |_,i=>[.int .i64<|-1000-(i:Int)]
def Ipc(d):(kH d).1≠(kH d).2.1:=by unfold kH;split<;>decide
theorem Vx(V:iN){i:Nat}(U:i<fv V):∀{n j:Nat},j<n->(qh n V)[j*fv V+i]?=V[i]?
 |n+1,0,_=>by unfold qh;rw[List.replicate_succ,List.flatten_cons,cwd,iO,wk U]
 |n+1,j+1,h=>by
  have ih:=Vx V U (n:=n) (j:=j)<|by omega
  grind [qh,List.flatten_cons,Ry,BU]
theorem yo{t}{V:iN}{d:ig}{n c b:Nat}(a:uw t (fv V) V w (d,n,c))(f:b<n):∃g,d=fh (ii g 0)/\∀i(U:i<fv V),w.c g (b*fv V+i)=fh V[i]:=by
 unfold uw qL at a;simp only at a;have⟨g,h,e⟩:=hZ a (by omega);rw[(lK e).1]at a |-;refine⟨g,fX,λi U=>?_⟩
 have:=a.cells (g:=g) fX (b*fv V+i) V[i] (by grind [Vx,jH])
 grind [qc]
theorem SE(u:Nat)(t:Nat->ig)(c:Nat->Nat)(e:Nat->List ox)(w:fq)(aD:u<w.heap.size)
  (N:w.c u 8=fh (fy (t 8) (fv<|e 8)<|c 8))(O:w.c u 9=fh (fy (t 9) (fv<|e 9)<|c 9))(P:w.c u 10=fh (fy (t 10) (fv<|e 10)<|c 10))(Q:w.c u 11=fh (fy (t 11) (fv<|e 11)<|c 11))
  (row:∀d,w.ownsRow 0 (kH d).2.1 1 (fy (t d) (fv<|e d)<|c d) (fv<|e d)<|(e d).map qL)(len:∀d,fv (e d)<=1000000000)
  (lists:∀d i(U:i<fv (e d)),(e d)[i].2.1<=1000000000/\uw (kH d).1 (kH d).2.2 (vH d<|i / 4) w (e d)[i]):
  ik 24 #[fB<|fh (ii u 8)] w (ut (fE fm) w):=by
 -- the k-th list of t kind
 have ag:∀d k,k<fv (e d)->∃p h a j,t d=fh (ii p 0)/\w.c p k=fh (fy h a j)/\a<=1000000000/\uw (kH d).1 (kH d).2.2 (vH d<|k / 4) w (h,a,j):=λd k C=>by
  obtain⟨⟨h,a,j⟩,ah⟩:∃an:ox,an=(e d)[k]:=⟨_,fX⟩;have⟨p,m,aE,n,_⟩:=row_one (row d) (i:=k) (v:=fy h a j) (by rw[hJ0,jH C,<-ah];rfl);have⟨ai,aj⟩:=lists d k C;rw[<-ah]at ai aj;exact⟨p,h,a,j,m,n,ai,aj⟩
 have K:fe (∀d k,k<fv (e d)->∃p h a j,t d=fh (ii p 0)/\w.c p k=fh (fy h a j)/\a<=1000000000/\uw (kH d).1 (kH d).2.2 (vH d<|k / 4) w (h,a,j)):=ag;obtain⟨G,R⟩:=ol<|fv (e 8);obtain⟨H,S⟩:=ol<|fv (e 9);obtain⟨I,T⟩:=ol<|fv (e 10);obtain⟨J,W⟩:=ol<|fv (e 11);have ao:=len 8;have ap:=len 9;have aq:=len 10;have ar:=len 11;rw[<-R]at N ao;rw[<-S]at O ap;rw[<-T]at P aq;rw[<-W]at Q ar;have L:fe (G=fv (e 8)/\H=fv (e 9)/\I=fv (e 10)/\J=fv (e 11)):=⟨R,S,T,W⟩;have M:fe _:=And.intro N<|And.intro O (And.intro P Q);clear ag row len lists R S T W N O P Q;go_enter func24,ntmps24;go_wp2
 go_loopw [3] (λi wr=>∃k:Nat,k<=G/\i=.int .i64 (k:Int)/\fe (ju w wr)) (λi _=>G-(intOf i).toNat)
 case atStart=>exact⟨0,zt _,rfl,mi _ _⟩
 case round=>
  obtain⟨k,C,rfl,f⟩:=hrel;have X:=iM f.o M.o.1;have aF:u<wr.heap.size:=by have:=f.o.size;omega
  by_cases x:k<G
  ·have⟨p,h,a,j,m,n,Y,q⟩:=K.o 8 k (by rw[<-L.o.1];exact x)
   rw[m]at X;obtain⟨D,E⟩:=ol<|JA (k / 4);have y:fe (uw 9 1 [hh D] w (h,a,j)):=by rw[E];exact q
   have au:fe (ik 58 #[fY<|(k:Int) / 4] wr<|ut (hh D) wr):=by
    have:=OA (k / 4) wr<|by omega
    rw[<-E,show((k / 4:Nat):Int)=(k:Int) / 4 by omega]at this;exact this
   have Z:(k:Int)<(G:Int):=by omega
   have av:fe _:=n;have aw:fe _:=X;clear E n q m;go_wp2_with fail;refine Calls.via au.o λak aa=>?_;have ab:fe (ju w ak):=f.o.trans<|aa.mono f.o.size;have d8:=iM aa aw.o;have z:=iM ab.o av.o;have aG:=pZ d8;have ac:=pZ z;clear aa X;go_wp2
   go_loopw [5] (λi o=>∃b:Nat,b<=a/\i=.int .i64 (b:Int)/\o=ak) (λi _=>a-(intOf i).toNat)
   case atStart=>exact⟨0,zt _,rfl,rfl⟩
   case round=>
    obtain⟨b,ad,rfl,rfl⟩:=hrel;rename fq=>s;by_cases A:b<a
    ·have⟨g,B,l⟩:=yo y.o A
     subst B;have ae:(b:Int)<(a:Int):=by omega
     have ax:s.c g b=fh (hh D):=by have:=iM ab.o<|l 0 (by simp);simpa using this
     have af:=pZ ax;clear l;go_wp2;go_roundw
     case rel=>exact⟨b+1,by omega,by go_num,by trivial⟩
     case measure=>simp[intOf];omega
    go_wp2;go_roundw
    case rel=>exact⟨k+1,by omega,by go_num,ab.o⟩
    case measure=>simp[intOf];omega
  have ay:=iM f.o M.o.2.1;go_wp2;rename fq=>s
  go_loopw [6] (λi o=>∃k:Nat,k<=H/\i=.int .i64 (k:Int)/\o=s) (λi _=>H-(intOf i).toNat)
  case atStart=>exact⟨0,zt _,rfl,rfl⟩
  case round=>
   obtain⟨k,C,rfl,r⟩:=hrel;subst r;by_cases x:k<H
   ·have⟨p,h,a,j,m,n,Y,q⟩:=K.o 9 k (by rw[<-L.o.2.1];exact x)
    rw[m]at ay;have y:fe (uw 96 3 (VE<|k / 4) w (h,a,j)):=q;have Z:(k:Int)<(H:Int):=by omega
    have al:(0:Int)<=(k:Int):=(by omega);have z:=iM f.o n;have ac:=pZ z;clear n q m;rename fq=>s;go_wp2
    go_loopw [7] (λi o=>∃b:Nat,b<=a/\i=.int .i64 (b:Int)/\o=s) (λi _=>a-(intOf i).toNat)
    case atStart=>exact⟨0,zt _,rfl,rfl⟩
    case round=>
     obtain⟨b,ad,rfl,r⟩:=hrel;subst r;by_cases A:b<a
     ·have⟨g,B,l⟩:=yo (V:=VE<|k / 4) y.o A
      subst B;have ae:(b:Int)<(a:Int):=by omega
      have aH:(Jt k).1.toList=[]:=by show ByteArray.empty.toList=[];simp only[Au];decide
      have aI:(Jt k).2.1=-1000-(k:Int) / 4:=by show -1000-((k / 4:Nat):Int)=_;omega
      have aJ:(Jt k).2.2=0:=fX;have F:World.cell? _ (ii g<|b*3)=fh (hh (Jt k).1):=iM f.o<|l 0 (by show 0<3;decide);have am:World.cell? _ (ii g<|b*3+1)=fh (fY (Jt k).2.1):=iM f.o<|l 1 (by show 1<3;decide);have aK:World.cell? _ (ii g<|b*3+2)=fh (fY (Jt k).2.2):=iM f.o<|l 2 (by show 2<3;decide);have af:=pZ F;clear l;go_wp2;go_roundw
      case rel=>exact⟨b+1,by omega,by go_num,by trivial⟩
      case measure=>simp[intOf];omega
     go_wp2;go_roundw
     case rel=>exact⟨k+1,by omega,by go_num,by trivial⟩
     case measure=>simp[intOf];omega
   have az:=iM f.o M.o.2.2.1;rename fq=>s;go_wp2
   go_loopw [8] (λi o=>∃k:Nat,k<=I/\i=.int .i64 (k:Int)/\o=s) (λi _=>I-(intOf i).toNat)
   case atStart=>exact⟨0,zt _,rfl,rfl⟩
   case round=>
    obtain⟨k,C,rfl,r⟩:=hrel;subst r;by_cases x:k<I
    ·have⟨p,h,a,j,m,n,Y,q⟩:=K.o 10 k (by rw[<-L.o.2.2.1];exact x)
     rw[m]at az;obtain⟨D,E⟩:=ol (-1000-(k:Int) / 4:Int);have y:fe (uw 133 2 [hh kq,fY D] w (h,a,j)):=by rw[E,show(k:Int) / 4=((k / 4:Nat):Int) by omega];exact q
     have Z:(k:Int)<(I:Int):=(by omega);have al:(0:Int)<=(k:Int):=by omega
     have z:=iM f.o n;have ac:=pZ z;clear n q m;rename fq=>s;go_wp2
     go_loopw [9] (λi o=>∃b:Nat,b<=a/\i=.int .i64 (b:Int)/\o=s) (λi _=>a-(intOf i).toNat)
     case atStart=>exact⟨0,zt _,rfl,rfl⟩
     case round=>
      obtain⟨b,ad,rfl,r⟩:=hrel;subst r;by_cases A:b<a
      ·have⟨g,B,l⟩:=yo y.o A
       subst B;have ae:(b:Int)<(a:Int):=by omega
       have F:World.cell? _ (ii g<|b*2)=fh (hh kq):=iM f.o<|l 0 (by simp);have am:World.cell? _ (ii g<|b*2+1)=fh (fY D):=iM f.o<|l 1 (by simp);have af:=pZ F;rw[E]at am;clear l;go_wp2;go_roundw
       case rel=>exact⟨b+1,by omega,by go_num,by trivial⟩
       case measure=>simp[intOf];omega
      go_wp2;go_roundw
      case rel=>exact⟨k+1,by omega,by go_num,by trivial⟩
      case measure=>simp[intOf];omega
    have aA:=iM f.o M.o.2.2.2;rename fq=>aB;go_wp2
    go_loopw [10] (λi o=>∃k:Nat,k<=J/\i=.int .i64 (k:Int)/\o=aB) (λi _=>J-(intOf i).toNat)
    case atStart=>exact⟨0,zt _,rfl,rfl⟩
    case round=>
     obtain⟨k,C,rfl,r⟩:=hrel;subst r;by_cases x:k<J
     ·have⟨p,h,a,j,m,n,Y,q⟩:=K.o 11 k (by rw[<-L.o.2.2.2];exact x)
      rw[m]at aA;have y:fe (uw 29 1 [fY<|-1000-(k:Int) / 4] w (h,a,j)):=by rw[show(k:Int) / 4=((k / 4:Nat):Int) by omega];exact q
      have Z:(k:Int)<(J:Int):=(by omega);have al:(0:Int)<=(k:Int):=by omega
      have z:=iM f.o n;have ac:=pZ z;clear n q m;rename fq=>aC;go_wp2
      go_loopw [11] (λi o=>∃b:Nat,b<=a/\i=.int .i64 (b:Int)/\o=aC) (λi _=>a-(intOf i).toNat)
      case atStart=>exact⟨0,zt _,rfl,rfl⟩
      case round=>
       obtain⟨b,ad,rfl,r⟩:=hrel;subst r;by_cases A:b<a
       ·have⟨g,B,l⟩:=yo y.o A
        subst B;have ae:(b:Int)<(a:Int):=by omega
        have F:=iM f.o<|l 0 (by simp);simp only[lq,zy,iO,Nat.mul_one,Ee,ED]at F;have af:=pZ F;clear l;go_wp2;go_roundw
        case rel=>exact⟨b+1,by omega,by go_num,by trivial⟩
        case measure=>simp[intOf];omega
       go_wp2;go_roundw
       case rel=>exact⟨k+1,by omega,by go_num,by trivial⟩
       case measure=>simp[intOf];omega
     go_wp2;go_ret;exact⟨fX,f.o⟩
