/- A part of the proof. -/
import Derived.Test.YtlgidcmmgohagaaGreatAllM24
set_option linter.all false
namespace Go.Proofs.YtlgidcmmgohagaaGreat
open Go.RowKit Go.Sort Go.Shelf Go.Proofs.Tryz
open Go.Value renaming slice->fy,string->fA,pointer->fB,tuple->fC,agg->fD,bool->fE
open Go.Ending renaming returned->fF
open Option renaming some->fh,none->fj
open Bool renaming true->fm,false->fo
open Go renaming World->fq,Value->fu
open List renaming length->fv,reverse->fx
open Go.RowKit renaming Hid->fe
set_option maxRecDepth 100000
set_option maxHeartbeats 0
variable {er fg many:Int}{B0 W a i k n p r s t:Nat}{w w1:fq}{d x:fO}{u:Bool}{l:List UInt8}
variable {R:vo}{T:gC}{w:fq}{B0 W s r p I j S nc dc o f:Nat}{A O:List Ob}{got:List Int}{ws:List Slot}{ds:List Doc}{F:Nat->Prop}{na da:iD}{E:List fV}{data:fQ}{hs:List BW}{more rest:gX}{vs:Nat->Option Nat}{fg pl:Int}
section
variable {b:Bool}{n:Nat}
theorem gq.aaJ{c:List Ob->Prop}{d}(f:gq b b R T w B0 W s r p I A O got ws ds)
  (g:ik 20 d w λe J=>e=fF (fE fm)/\mN c ⟨R.pt,p,A⟩ (λk=>T k=(0,1)) (λk=>T k=(0,2)) (λk=>T k=(1,0)) w J W s r (fy R.wa (fv ws) R.wc) (fy R.ta (fv ds) R.tc) (fE b) (R.sl 8) (R.sl 9) (R.sl 10) (R.sl 11)):
  ik 20 d w λe J=>e=fF (fE fm)/\∃a M H Z,c H/\a.q=R.q/\gq b b a M J B0 W s r p I H Z got ws ds/\Below B0 w J:=by
 refine g.mono ?_;rintro e J ⟨h,hs⟩;obtain⟨a,M,l,Z,i,j,m,n⟩:=f.ofQ hs
 grind
end
theorem yno(U:gP pt0 (kB (λ_=>False) w w1) w1 s p [])(u:ju w w1):
  ∃R T,R.q=(λ_=>0)/\gq fo fo R T ((w1.k #[fy fj 0 0] 94).k #[ii s,ii w1.heap.size,fy fj 0 0,fy fj 0 0,fy fj 0 0,fy fj 0 0,fy fj 0 0,fE fo,fy fj 0 0,fy fj 0 0,fy fj 0 0,fy fj 0 0] 71) w.heap.size (w1.heap.size+1) s w1.heap.size p 0 [] [] [] [] []:=by
 have z:=u.size;obtain⟨f,l⟩:∃f,f=w1.k #[fy fj 0 0] 94:=⟨_,fX⟩;rw[<-l];obtain⟨d,m⟩:∃d,d=f.k #[ii s,ii w1.heap.size,fy fj 0 0,fy fj 0 0,fy fj 0 0,fy fj 0 0,fy fj 0 0,fE fo,fy fj 0 0,fy fj 0 0,fy fj 0 0,fy fj 0 0] 71:=⟨_,fX⟩;rw[<-m];have v:f.heap.size=w1.heap.size+1:=by rw[l];simp
 have G:d.heap.size=w1.heap.size+2:=by rw[m];simp[v]
 have y:d.heap[w1.heap.size]?=fh (.cells #[fy fj 0 0] 94 (0,0)):=by
  grind [sK,oO]
 have A:d.heap[w1.heap.size+1]?=fh (.cells #[ii s,ii w1.heap.size,fy fj 0 0,fy fj 0 0,fy fj 0 0,fy fj 0 0,fy fj 0 0,fE fo,fy fj 0 0,fy fj 0 0,fy fj 0 0,fy fj 0 0] 71 (0,0)):=by
  grind [oO]
 have c:∀k,k<w1.heap.size->d.heap[k]?=w1.heap[k]?:=λk c=>by
  rw[m,sK _ _ _<|by omega,l,sK _ _ _ c]
 obtain⟨T,g⟩:∃T:gC,T=λk=>if k=w1.heap.size+1 then(0,1)else if k=w1.heap.size then(0,2)else if w.heap.size<=k/\k<w1.heap.size then(1,0) else(0,0):=⟨_,fX⟩;have t1:T (w1.heap.size+1)=(0,1):=by rw[g];exact lv fX
 have t2:T w1.heap.size=(0,2):=by rw[g];simp
 have t3:∀k,w.heap.size<=k->k<w1.heap.size->T k=(1,0):=λk n B=>by
  rw[g];simp only;rw[km<|by omega,km<|by omega,lv ⟨n,B⟩]
 have r:lD T d:=λk h=>by
  rw[g];simp only;rw[km<|by omega,km<|by omega,km<|by omega]
 have C:∀{t D:ni}{z:Nat}{E:Nat->gX},zb (λ_=>False) t D z E d fj 0 0 []:=⟨fX,jY _ _ _ _,(λe a=>by cases a),(λi U=>by cases U),λk c=>c.elim⟩;refine⟨⟨pt0,fj,0,fj,0,λ_=>fj,λ_=>0,λ_=>0,λ_=>[],λ_ _=>False,λ_=>([],[])⟩,T,fX,⟨r,λk h=>?_,by omega,fX,⟨jY _ _ _ _,fX,λe a=>by cases a⟩,lw _,⟨?_,?_,⟨?_,sQ _,Xk,ezi⟩,?_,?_,qy r⟩,⟨jY _ _ _ _,(λe a=>by cases a)⟩,⟨jY _ _ _ _,(λe a=>by cases a)⟩,λ_=>C,λ_ _ c=>c.elim,λ_ _ _ _ c=>c.elim,(λx F=>by cases F),(λj b=>by cases b),(λj b=>by cases b),λx=>rfl,(λj b=>by cases b),(λj b=>by cases b)⟩⟩
 grind
 exact⟨fj,fj,fj,0,0,0,[],⟨t1,A,jY _ _ _ _,jY _ _ _ _,jY _ _ _ _,(λe a=>by cases a),(λe a=>by cases a),(λe a=>by cases a)⟩,rfl,(λi U=>by cases U)⟩;exact⟨fj,0,⟨t2,(λe a=>by cases a),y,jY _ _ _ _,by simp,(λo q=>by cases q)⟩⟩;exact U.keep (λk h hF=>c k h) (λk h hF=>by
  rcases hF with b|b
  exact b.elim;exact t3 k b.1 b.2)
 exact⟨fX,(λi n=>by cases n),(λo q=>by cases q)⟩;intro i U;cases U
def UK (B0:Nat)(w:fq)(W s r:Nat):Prop:=∃R T p A O,gq fo fo R T w B0 W s r p 0 A O [] [] []/\R.q=(λ_=>0)/\3<=fv A/\fJ A 3=2
theorem zdt(w:fq):ik 19 #[] w λe J=>∃W s r,e=qr #[ii W,fE fm]/\UK w.heap.size J W s r/\ju w J:=by
 go_enter func19,ntmps19;go_wp2_with fail;refine Ps (Lf _) ?_;rintro _ w1 ⟨s,rfl,⟨p,U⟩,f⟩;obtain⟨R,S,y,m⟩:=yno U f;have g:fe _:=m;have z:=f.size;have T:=f;clear U m;go_wp2_with fail;refine Ps (g.o.aaJ<|xm g.o.BO 0 0 0 Cw kq fj 0 0 (by decide)) ?_;rintro _ a ⟨rfl,V,X,Y,Z,⟨aa,n⟩,A,o,h⟩;have B:=acf n;subst B;have i:fe _:=o;have ab:w1.heap.size+2<=a.heap.size:=by have:=h.size;simpa using this
 have C:ju w a:=((f.alloc z _).alloc (by simp;omega) _).trans h;clear o h n g;go_wp2_with fail;have a5:∀c,ju a (a.alloc c):=λc=>(mi _ _).alloc (lw _) _;have f5:=Oh a [Im] 96 #[fA ⟨#[120]⟩,fY 1,fY 1] fX (by decide) (by decide) 1 fX;refine Ps ((i.o.below<|a5 (.cells #[fA ⟨#[120]⟩,fY 1,fY 1] 96)).aaJ<|tZ (i.o.below<|a5 (.cells #[fA ⟨#[120]⟩,fY 1,fY 1] 96)).BO 0 0 0 kq kq (fh<|ie a.heap.size 0) 1 1 [Im] f5.list f5.many f5.names) ?_;rintro _ b ⟨rfl,ac,ad,ae,af,⟨ag,q⟩,D,t,j⟩;obtain⟨d,d1,d2,d3,E⟩:=acg q;subst E;have k:fe _:=t;have ah:a.heap.size<=b.heap.size:=by have:=j.size;simp at this;omega
 have F:ju w b:=(C.alloc (by omega) _).trans j;clear t j q i f5 a5;go_wp2_with fail;have l:∀c,ju b (b.alloc c):=λc=>(mi _ _).alloc (lw _) _;have f6:=Oh b [Oe,Og] 96 #[fA ⟨#[100]⟩,fY 2,fY 2,fA ⟨#[97]⟩,fY 1,fY 1] fX (by decide) (by decide) 2 fX;refine Ps ((k.o.below<|l (.cells #[fA ⟨#[100]⟩,fY 2,fY 2,fA ⟨#[97]⟩,fY 1,fY 1] 96)).aaJ<|tZ (k.o.below<|l (.cells #[fA ⟨#[100]⟩,fY 2,fY 2,fA ⟨#[97]⟩,fY 1,fY 1] 96)).BO 0 0 0 kq kq (fh<|ie b.heap.size 0) 2 2 [Oe,Og] f6.list f6.many f6.names) ?_;rintro _ G ⟨rfl,H,I,K,L,⟨ai,u⟩,M,v,x⟩;obtain⟨N,O⟩:=ach d1 d2 d3 u;have P:fe _:=v;have Q:ju w G:=(F.alloc (by omega) _).trans x;clear v x u k f6 l;go_wp2;go_ret2;exact⟨_,s,_,fX,⟨H,I,p,K,L,P.o,((M.trans D).trans A).trans y,N,O⟩,Q⟩
theorem ZW{b:Bool}{R}{T}{B0 W s r p I}{A O}{got}{ws}{ds}(j:gq b b R T w B0 W s r p I A O got ws ds)(k:2<fv A){d l}{e:Int}(m:w.c W 4=fh (my d 0 (fv A) l))(n:w.c d 2=fh (fY e)):e<=300:=by
 have⟨x,y,z,B,C,D,f,g,o,q⟩:=j.w3.law;have h:2<fv f:=by rw[o];exact k
 have⟨E,t,_,u,_⟩:=row_one g.uu (i:=2) (v:=.int .i64 f[2]) (by simp[encI,h]);have a:=g.c4.symm.trans m;rw[t]at a;injection a with a;injection a with a _ _;injection a with a;injection a with a _ _;subst a;have c:=u.symm.trans n;injection c with c;injection c with _ c
 have:=(q 2 h).2
 rw[c]at this;exact Int.le_trans this<|by decide
theorem QM(a:UK B0 w W s r):
  ik 20 #[ii W,fD<|pO 7 0 3 0 kq kq fj 0 0] w λe J=>e=fF (fE fm)/\gJ B0 J W s r 3/\Below B0 w J:=by
 have⟨R,T,p,A,O,b,f,v,g⟩:=a;refine(QF (n:=3) (by omega) b ⟨fX,λj a _=>by cases a⟩ (by simp) 0 3 0 kq kq fj 0 0).mono ?_;rintro e J ⟨h,i,k,M,c,l,m,o,q,x,y,t⟩;have z:fv c=1:=t g λB C D c4 u=>ZW b (by omega) c4 u;exact⟨h,⟨fo,k,M,p,0,A,O,[],c,l,o,q,by omega,λd=>by rw[m,f];exact Fr _,by omega,by omega⟩,i⟩
theorem zs2(a:n<=1048600)(b:gJ B0 w W s r n)(o:Step)(m:o.Fits w)(p:1<=o.kind/\o.kind<=7):
  ik 20 #[ii W,o.val] w λe J=>e=fF (fE fm)/\gJ B0 J W s r (n+1)/\Below B0 w J:=by
 by_cases q:o.kind<=5;exact hrl a b o m ⟨p.1,q⟩;by_cases k:o.kind=6;have⟨kind,c,d,f,S,g,h,i,j,t⟩:=o;simp only at k;subst k;exact UB a b c d f S g h i j;have l:o.kind=7:=by omega
 have⟨kind,c,d,f,S,g,h,i,j,t⟩:=o;simp only at l;subst l;exact hsb a b c d f S g h i j
theorem QN:∀(hs:List BW)(k f:Nat)(a:fu)(x:BW)(c:k<fv hs)(b:f<4),mR x=(mR hs[k]).set f a->wn (hs.set k x)=(wn hs).set (4*k+f) a
 |y::r,0,f,a,x,_,b,e=>by
  grind [mR,wn,List.set_append_left]
 |y::r,k+1,f,a,x,c,b,e=>by
  show mR y++wn (r.set k x)=(mR y++wn r).set (4*(k+1)+f) a
  rw[List.set_append_right _ _ (by show 4<=4*(k+1)+f;omega),show 4*(k+1)+f-fv (mR y)=4*k+f by show 4*(k+1)+f-4=_;omega,QN r k f a x (by simpa using c) b e]
theorem gm.IQ(a:gm F w S na da nc dc E data (wn hs++more)){k f:Nat}{v}{x}(c:k<fv hs)(d:f<4)(e:mR x=(mR hs[k]).set f v):
  gm F (w.setCell (ie S<|2+k*4+f) v) S na da nc dc E data (wn (hs.set k x)++more)/\fH F w (w.setCell (ie S<|2+k*4+f) v):=by
 have g:4*k+f<fv (wn hs):=by rw[Mo];omega
 refine⟨⟨a.fS,?_,?_,?_,a.fn,a.fd⟩,⟨fX,fX,fX,by simp,λj l h=>sI _ _ _ _ λe=>h (by rw[e];exact a.fS)⟩⟩;rw[QN hs k f v x c d e,<-List.set_append_left _ _ g,show 2+k*4+f=(4*k+f)+2 by omega];simp[World.setCell,ED,a.hS];exact gg a.lU λi b=>sI _ _ _ _ λe=>il a.lU a.hS (by decide) (by rw[b,e]);exact gg a.jm λi b=>sI _ _ _ _ λe=>il a.jm a.hS (by decide) (by rw[b,e])
def nY (hs:List BW)(n at_:Int):List BW×Int:=
 if tM hs n=fo then(hs,3)else if at_<0\/256<at_ then(hs,2) else(match hs[n.toNat]? with|some a=>(hs.set n.toNat (a.1,a.2.1,a.2.2.1,at_),0)|none=>(hs,0))
theorem ZX(a:gm F w S na da nc dc E data (wn hs++more))(j:fv hs=8)(n at_:Int):
  ik 103 #[ii S,fY n,fY at_] w λe J=>e=fF (fY (nY hs n at_).2)/\gm F J S na da nc dc E data (wn (nY hs n at_).1++more)/\fH F w J:=by
 have o:=a.lt;have d:fe _:=jH a j n;cases b:tM hs n with
 |false=>
  have c:nY hs n at_=(hs,3):=by unfold nY;rw[lv b]
  rw[c];rw[b]at d;go_enter func103,ntmps103;go_wp2_with(go_at_call 163;apply tB d.o);go_ret;exact⟨fX,a,fH.refl _⟩
 |true=>
  rw[b]at d;have p:0<=n/\n<8:=by
   by_cases h:0<=n/\n<8;exact h;rw[BP h]at b;cases b
  obtain⟨k,rfl⟩:∃k:Nat,n=(k:Int):=⟨n.toNat,by omega⟩;have g:k<fv hs:=by omega
  by_cases i:at_<0
  ·have c:nY hs (k:Int) at_=(hs,2):=by unfold nY;rw[km (by rw[b];decide),lv<|.inl i]
   rw[c];go_enter func103,ntmps103;go_wp2_with(go_at_call 163;apply tB d.o);go_ret;exact⟨fX,a,fH.refl _⟩
  have t0:decide (at_<0)=fo:=yv i;by_cases l:256<at_
  ·have c:nY hs (k:Int) at_=(hs,2):=by unfold nY;rw[km (by rw[b];decide),lv<|.inr l]
   rw[c];go_enter func103,ntmps103;go_wp2_with(go_at_call 163;apply tB d.o);go_ret;exact⟨fX,a,fH.refl _⟩
  have c:nY hs (k:Int) at_=(hs.set k (hs[k].1,hs[k].2.1,hs[k].2.2.1,at_),0):=by
   unfold nY;rw[km (by rw[b];decide),km<|by omega,qI,jG g]
  rw[c];have q:w.frozen? (ie S<|2+k*4+3)=fo:=by simp[World.frozen?,a.hS]
  have c3:w.c S (2+k*4+3)=fh (.int .i64 hs[k].2.2.2):=a.tab (f:=3) g (by omega);have m:fe _:=a.IQ (f:=3) (v:=.int .i64 at_) (x:=(hs[k].1,hs[k].2.1,hs[k].2.2.1,at_)) g (by omega) fX;have t3:(k:Int)<8:=by omega
  go_enter func103,ntmps103;go_wp2_with(go_at_call 163;apply tB d.o);go_ret;exact⟨fX,m⟩
def ma (a f:Int):Bool:=(a / f).tmod 2==1
theorem mz(a f:Int)(w:fq)(b:0<=a/\a<=63)(c:1<=f/\f<=32):ik 159 #[fY a,fY f] w (UV (fE<|ma a f) w):=by
 have d:(f==0)=fo:=by simp;omega
 go_enter func159,ntmps159;go_wp2;go_ret;exact⟨fX,fX⟩
theorem gm.abd(a:gm F w S na da nc dc E data (wn hs++more))(h:k<fv hs):
  gm F ((((w.setCell (ie S<|2+k*4)<|fE fo).setCell (ie S<|2+k*4+1)<|fY 0).setCell (ie S<|2+k*4+2)<|fY 0).setCell (ie S<|2+k*4+3)<|fY 0) S na da nc dc E data (wn (hs.set k (fo,0,0,0))++more)/\
   fH F w ((((w.setCell (ie S<|2+k*4)<|fE fo).setCell (ie S<|2+k*4+1)<|fY 0).setCell (ie S<|2+k*4+2)<|fY 0).setCell (ie S<|2+k*4+3)<|fY 0):=by
 have⟨i,l⟩:=a.IQ (f:=0) (v:=fE fo) (x:=(fo,hs[k].2.1,hs[k].2.2.1,hs[k].2.2.2)) h (by omega) fX;have⟨b,m⟩:=i.IQ (k:=k) (f:=1) (v:=.int .i64 0) (x:=(fo,0,hs[k].2.2.1,hs[k].2.2.2)) (by grind) (by omega) (by simp[mR]);rw[WI]at b;have⟨c,n⟩:=b.IQ (k:=k) (f:=2) (v:=.int .i64 0) (x:=(fo,0,0,hs[k].2.2.2)) (by grind) (by omega) (by simp[mR]);rw[WI]at c;have⟨d,p⟩:=c.IQ (k:=k) (f:=3) (v:=.int .i64 0) (x:=(fo,0,0,0)) (by grind) (by omega) (by simp[mR]);rw[WI]at d;refine⟨d,⟨fX,fX,fX,by simp,λg q j=>?_⟩⟩;have r:∀(o:Nat)(v:fu)(w:fq),(w.setCell (ie S o) v).heap[g]?=w.heap[g]?:=λo v w=>sI _ _ _ _ λe=>j (by rw[e];exact a.fS)
 grind
def oK (hs:List BW)(n:Int):List BW×Int:=
 if tM hs n=fo then(hs,3) else(hs.set n.toNat (fo,0,0,0),0)
theorem UL(a:gm F w S na da nc dc E data (wn hs++more))(j:fv hs=8)(n:Int):
  ik 104 #[ii S,fY n] w λe J=>e=fF (fY (oK hs n).2)/\gm F J S na da nc dc E data (wn (oK hs n).1++more)/\fH F w J:=by
 have m:=a.lt;have g:fe _:=jH a j n;cases b:tM hs n with
 |false=>
  have h:oK hs n=(hs,3):=by unfold oK;rw[lv b]
  rw[h];rw[b]at g;go_enter func104,ntmps104;go_wp2_with(go_at_call 163;refine tB g.o ?_);go_ret;exact⟨fX,a,fH.refl _⟩
 |true=>
  rw[b]at g;have p:0<=n/\n<8:=by
   by_cases i:0<=n/\n<8;exact i;rw[BP i]at b;cases b
  obtain⟨k,rfl⟩:∃k:Nat,n=(k:Int):=⟨n.toNat,by omega⟩;have c:k<fv hs:=by omega
  have h:oK hs (k:Int)=(hs.set k (fo,0,0,0),0):=by
   unfold oK;rw[km (by rw[b];decide),qI]
  rw[h];have d:∀o,w.frozen? (ie S o)=fo:=λo=>by simp[World.frozen?,a.hS]
  have f0:=d<|2+k*4;have f1:=d<|2+k*4+1;have f2:=d<|2+k*4+2;have f3:=d<|2+k*4+3;have c0:w.c S (2+k*4)=fh (fE hs[k].1):=a.tab (f:=0) c (by omega);have c1:w.c S (2+k*4+1)=fh (.int .i64 hs[k].2.1):=a.tab (f:=1) c (by omega);have c2:w.c S (2+k*4+2)=fh (.int .i64 hs[k].2.2.1):=a.tab (f:=2) c (by omega);have c3:w.c S (2+k*4+3)=fh (.int .i64 hs[k].2.2.2):=a.tab (f:=3) c (by omega);have l:fe _:=a;have q:k<8:=by omega
  have t3:(k:Int)<8:=by omega
  clear d;go_enter func104,ntmps104;go_wp2_with(go_at_call 163;refine tB g.o ?_);go_ret;exact⟨fX,l.abd c⟩
def EQ (a:Int):Bool:=
 if a<0\/63<a then fo
 else if ma a 1=fo/\ma a 2=fo then fo
 else if ma a 2=fo/\(ma a 4=fm\/ma a 16=fm\/ma a 32=fm)then fo
 else !ma a 8 ||ma a 4
theorem QS(g:Int)(w:fq):ik 157 #[fY g] w (UV (fE<|EQ g) w):=by
 by_cases i:g<0
 ·have j:EQ g=fo:=by unfold EQ;rw[lv<|.inl i]
  rw[j];go_enter func157,ntmps157;go_wp2;go_ret;exact⟨fX,fX⟩
 have t0:decide (g<0)=fo:=yv i;by_cases k:63<g
 ·have j:EQ g=fo:=by unfold EQ;rw[lv<|.inr k]
  rw[j];go_enter func157,ntmps157;go_wp2;go_ret;exact⟨fX,fX⟩
 have t1:decide (63<g)=fo:=yv k;have m:fe (∀f,1<=f/\f<=32->ma g f=fm->∀W,ik 159 #[fY g,fY f] W<|UV (fE fm) W):=λf l e W=>by have:=mz g f W (by omega) l;rwa [e]at this
 have n:fe (∀f,1<=f/\f<=32->ma g f=fo->∀W,ik 159 #[fY g,fY f] W<|UV (fE fo) W):=λf l e W=>by have:=mz g f W (by omega) l;rwa [e]at this
 obtain⟨R,h⟩:∃R,R=EQ g:=⟨_,fX⟩;rw[<-h];unfold EQ at h;rw[km<|by omega]at h
 change fe _ at h
 have o:(ma g 2=fo/\ma g 1=fo)\/(ma g 2=fo/\ma g 1=fm/\ma g 4=fm)\/(ma g 2=fo/\ma g 1=fm/\ma g 4=fo/\ma g 16=fm)\/(ma g 2=fo/\ma g 1=fm/\ma g 4=fo/\ma g 16=fo/\ma g 32=fm)\/(ma g 2=fo/\ma g 1=fm/\ma g 4=fo/\ma g 16=fo/\ma g 32=fo/\ma g 8=fm)\/(ma g 2=fo/\ma g 1=fm/\ma g 4=fo/\ma g 16=fo/\ma g 32=fo/\ma g 8=fo)\/
   (ma g 2=fm/\ma g 1=fm/\ma g 8=fo)\/(ma g 2=fm/\ma g 1=fm/\ma g 8=fm/\ma g 4=fm)\/(ma g 2=fm/\ma g 1=fm/\ma g 8=fm/\ma g 4=fo)\/(ma g 2=fm/\ma g 1=fo/\ma g 8=fo)\/(ma g 2=fm/\ma g 1=fo/\ma g 8=fm/\ma g 4=fm)\/(ma g 2=fm/\ma g 1=fo/\ma g 8=fm/\ma g 4=fo):=by
  clear m n h;cases ma g 1<;>cases ma g 2<;>cases ma g 4<;>cases ma g 8<;>cases ma g 16<;>cases ma g 32<;>decide
 clear i k;rcases o with⟨a,b⟩|⟨a,b,c⟩|⟨a,b,c,d⟩|⟨a,b,c,d,e⟩|⟨a,b,c,d,e,f⟩|⟨a,b,c,d,e,f⟩|⟨a,b,c⟩|⟨a,b,c,d⟩|⟨a,b,c,d⟩|⟨a,b,c⟩|⟨a,b,c,d⟩|⟨a,b,c,d⟩
 all_goals
  go_enter func157,ntmps157;go_wp2_with(go_at_call 159;(first|refine Ps (m _ (by decide) (by assumption) _) ?_|refine Ps (n _ (by decide) (by assumption) _) ?_);rintro _ _ ⟨rfl,rfl⟩);go_ret;exact⟨by rw[h.o];simp[*],fX⟩
theorem okF(b:Int)(h:-9223372036854775808<=b)(j:b<9223372036854775808):(bits BinOp.andNot IntKind.i64 b 63 != 0)=!(decide (0<=b)&&decide (b<=63)):=by
 have k:∀a:BitVec 64,(a &&& ~~~(63#64)).toNat=0↔a.toNat<=63:=by
  intro a;constructor;intro c;have d:a &&& ~~~(63#64)=0#64:=BitVec.eq_of_toNat_eq c;have l:a >>> 6=0#64:=by
   ext i U
   have:=congrArg (λx=>x.getLsbD<|6+i) d
   by_cases e:6+i<64;have f:(63#64).getLsbD (6+i)=fo:=by
    rw[BitVec.getLsbD_ofNat]
    grind
   simp only[BitVec.getLsbD_and,BitVec.getLsbD_not,f,iE e,Bool.not_false,Bool.and_true]at this
   grind
   grind
  grind [BitVec.toNat,Nat.shiftRight_eq_div_pow]
  intro c
  have:a.toNat<2 ^ 6:=by omega
  apply Nat.eq_of_testBit_eq;intro i;rw[BitVec.toNat_and,Nat.testBit_and];by_cases U:i<6
  have:(~~~(63#64)).toNat.testBit i=fo:=by
   have:i=0\/i=1\/i=2\/i=3\/i=4\/i=5:=by omega
   grind
  grind
  have:a.toNat.testBit i=fo:=Nat.testBit_lt_two_pow (by
   have:2 ^ 6<=2 ^ i:=Nat.pow_le_pow_right (by decide)<|by omega
   omega)
  grind
 have g:∀n:Nat,n<18446744073709551616->((IntKind.i64.wrap (n:Int) != 0)=!(decide (n=0))):=by
  grind [zv,decide,yv]
 show(IntKind.i64.wrap ((BitVec.ofInt 64 b &&& ~~~(BitVec.ofInt 64 63)).toNat:Int) != 0)=_;rw[g _<|BitVec.isLt _]
 grind [BitVec.ofInt,decide,BitVec.toNat_ofInt,iE,yv]
def Wd (a:Int):Int:=if(bits BinOp.and IntKind.i64 a 8 != 0)=fm then 6 else if(bits BinOp.and IntKind.i64 a 52 != 0)=fm then 2 else 0
def ZY:∀n:Fin 64,EQ (n.val:Int)=if(bits BinOp.and IntKind.i64 (n.val:Int) 3==0)=fm then fo else(bits BinOp.andNot IntKind.i64 (Wd n.val) n.val==0):=by decide +kernel
def okW:∀n:Fin 64,(bits BinOp.and IntKind.i64 (n.val:Int) 1==0)=!ma n.val 1/\(bits BinOp.and IntKind.i64 (n.val:Int) 2==0)=!ma n.val 2/\(bits BinOp.and IntKind.i64 (n.val:Int) 4 != 0)=ma n.val 4/\(bits BinOp.and IntKind.i64 (n.val:Int) 8 != 0)=ma n.val 8/\(bits BinOp.and IntKind.i64 (n.val:Int) 16 != 0)=ma n.val 16/\(bits BinOp.and IntKind.i64 (n.val:Int) 32 != 0)=ma n.val 32:=by decide +kernel
theorem Hq{a:Int}(c:0<=a/\a<=63):(bits BinOp.and IntKind.i64 a 1==0)=!ma a 1/\(bits BinOp.and IntKind.i64 a 2==0)=!ma a 2/\(bits BinOp.and IntKind.i64 a 4 != 0)=ma a 4/\(bits BinOp.and IntKind.i64 a 8 != 0)=ma a 8/\(bits BinOp.and IntKind.i64 a 16 != 0)=ma a 16/\(bits BinOp.and IntKind.i64 a 32 != 0)=ma a 32:=by
 obtain⟨n,b,rfl⟩:∃n:Nat,n<64/\a=(n:Int):=⟨a.toNat,by omega,by omega⟩;exact okW ⟨n,b⟩
theorem UM(a:Int)(w:fq):ik 175 #[fY a] w (UV (fY<|Wd a) w):=by
 unfold Wd;cases b:(bits BinOp.and IntKind.i64 a 8 != 0) with
 |true=>
  go_enter func175,ntmps175;go_wp2;go_ret;exact⟨fX,fX⟩
 |false=>
  cases c:(bits BinOp.and IntKind.i64 a 52 != 0)
  all_goals
   go_enter func175,ntmps175;go_wp2;go_ret;exact⟨fX,fX⟩
theorem ZZ(a:Int)(g:-9223372036854775808<=a/\a<9223372036854775808)(w:fq):ik 118 #[fY a] w (UV (fE<|EQ a) w):=by
 have b:=okF a g.1 g.2;by_cases d:0<=a/\a<=63
 ·rw[iE d.1,iE d.2]at b
  have b:(bits BinOp.andNot IntKind.i64 a 63 != 0)=fo:=b;obtain⟨n,j,rfl⟩:∃n:Nat,n<64/\a=(n:Int):=⟨a.toNat,by omega,by omega⟩;have c:=ZY ⟨n,j⟩;simp only at c;have h:fe _:=UM (n:Int) w;cases i:(bits BinOp.and IntKind.i64 (n:Int) 3==0) with
  |true=>
   rw[c,i];clear c;go_enter func118,ntmps118;go_wp2;go_ret;exact⟨fX,fX⟩
  |false=>
   rw[c,i];generalize Wd (n:Int)=nd at h |-;clear c;go_enter func118,ntmps118;go_wp2_with(go_at_call 175;refine tB h.o ?_);go_ret;exact⟨fX,fX⟩
 have e:EQ a=fo:=by unfold EQ;rw[lv<|by omega]
 rw[e];have b:(bits BinOp.andNot IntKind.i64 a 63 != 0)=fm:=by
  rw[b];by_cases f:0<=a;rw[iE f,yv λk=>d ⟨f,k⟩];rfl;rw[yv f];rfl
 go_enter func118,ntmps118;go_wp2;go_ret;exact⟨fX,fX⟩
def opt(W):(binOp .eql 86 (fB fj)<|fB fj).run prog W=.ok (fE fm) W:=by kernel_rfl
def Aq (vs:Nat->Option Nat)(n:Int):Prop:=∀k:Nat,k<8->n=(k:Int)->vs k=fj
theorem xT(b)(n:Int)(vs:Nat->Option Nat)(w)(a:nO w b vs)(c:Aq vs n):
  ik 122 #[fB<|fh (ie b 1),fY n] w (UV (fC #[fB fj,fY 3]) w):=by
 by_cases f:n<0
 ·clear a c
  go_enter func122,ntmps122;go_wp2;go_ret2;exact⟨fX,fX⟩
 by_cases e:8<=n
 case' neg=>
  have t8:decide (8<=n)=fo:=yv e;obtain⟨k,rfl⟩:∃k:Nat,n=(k:Int):=⟨n.toNat,by omega⟩;have d:k<8:=by omega
  have g:w.cell? (ie b<|1+k)=fh (fB fj):=by rw[a.2.1 k d,c k d fX];rfl
  have h:(k:Int)<8:=by omega
  have i:=opt
 all_goals
  clear a c;go_enter func122,ntmps122;go_wp2;go_ret2;exact⟨fX,fX⟩
section
variable {b:Nat}{n:Int}
theorem hte(a:nO w b vs)(c:Aq vs n):ik 65 #[ii b,fY n] w (UV (fY 3) w):=by
 have d:fe _:=xT b n vs w a c;have e:fe (ik 124 #[fB<|fh (ie b 1),fY n] w<|UV (fY 3) w):=by
  clear a c;go_enter func124,ntmps124;go_wp2_with(go_at_call 122;refine tB d.o ?_);go_ret;exact⟨fX,fX⟩
 clear a c;go_enter func65,ntmps65;go_wp2_with(go_at_call 124;refine tB e.o ?_);go_ret;exact⟨fX,fX⟩
theorem ord(a:nO w b vs)(c:Aq vs n)(m:Int):ik 66 #[ii b,fY n,fY m] w (UV (fC #[hZ kq,fY 3]) w):=by
 have d:fe _:=xT b n vs w a c;clear a c;go_enter func66,ntmps66;go_wp2_with(go_at_call 122;refine tB d.o ?_);go_ret2;exact⟨fX,fX⟩
def htl(a:nO w b vs)(c:Aq vs n)(d):ik 64 #[ii b,fY n,hZ d] w (UV (fY 3) w):=by
 have e:fe _:=xT b n vs w a c;clear a c;go_enter func64,ntmps64;go_wp2_with(go_at_call 122;refine tB e.o ?_);go_ret;exact⟨fX,fX⟩
theorem ows(a:nO w b vs)(c:Aq vs n)(m:Int):ik 102 #[ii b,fY n,fY m] w (UV (fY 3) w):=by
 have d:fe _:=xT b n vs w a c;clear a c;go_enter func102,ntmps102;go_wp2_with(go_at_call 122;refine tB d.o ?_);go_ret;exact⟨fX,fX⟩
theorem abs(a:nO w b vs)(c:Aq vs n)(m:Int):ik 100 #[ii b,fY n,fY m] w (UV (fY 3) w):=by
 have d:fe _:=xT b n vs w a c;clear a c;go_enter func100,ntmps100;go_wp2_with(go_at_call 122;refine tB d.o ?_);go_ret;exact⟨fX,fX⟩
end
theorem KM(n:Int)(d:o<w.heap.size)(c1:w.c o 1=fh (fY fg))(c2:w.c o 2=fh (fY pl))(e:0<=pl)(f:pl<=256)
  (b:(n<0/\er=2)\/(0<=n/\(bits BinOp.and IntKind.i64 fg 1==0)=fm/\er=12)\/(0<=n/\(bits BinOp.and IntKind.i64 fg 1==0)=fo/\(n=0\/pl=256)/\er=0)):
  ik 125 #[ii o,fY n] w (UV (fC #[hZ kq,fY er]) w):=by
 rcases b with⟨a,rfl⟩|⟨a,c,rfl⟩|⟨a,c,g,rfl⟩
 ·go_enter func125,ntmps125
  go_wp2;go_ret2;exact⟨fX,fX⟩
 ·have h:decide (n<0)=fo:=yv (by omega)
  go_enter func125,ntmps125;go_wp2;go_ret2;exact⟨fX,fX⟩
 have i:min n (256-pl)=0:=by omega
 go_enter func125,ntmps125;go_wp2;go_ret2;exact⟨fX,fX⟩
theorem Hr(d:fO)(h:o<w.heap.size)(c1:w.c o 1=fh (fY fg))(c2:w.c o 2=fh (fY pl))(c:0<=gT fg pl 0)(e:gT fg pl 0<=256)(i:d.size<=1048576)
  (a:((bits BinOp.and IntKind.i64 fg 2==0)=fm/\er=12)\/((bits BinOp.and IntKind.i64 fg 2==0)=fo/\1<=d.size/\256<gT fg pl 0+d.size/\er=11)):
  ik 123 #[ii o,hZ d] w (UV (fY er) w):=by
 have b:fe _:=ry o fg pl 0 w c1 c2;generalize gT fg pl 0=H at b c e a;rcases a with⟨f,rfl⟩|⟨f,g,j,rfl⟩
 ·go_enter func123,ntmps123
  go_wp2;go_ret;exact⟨fX,fX⟩
 have k:=pP g;go_enter func123,ntmps123;go_wp2_with(go_at_call 180;refine tB b.o ?_);go_ret;exact⟨fX,fX⟩
theorem DU(m:Int)(e:o<w.heap.size)(c1:w.c o 1=fh (fY fg))
  (a:((m<0\/256<m)/\er=2)\/(0<=m/\m<=256/\(bits BinOp.and IntKind.i64 fg 2==0)=fm/\er=12)):
  ik 164 #[ii o,fY m] w (UV (fY er) w):=by
 by_cases b:m<0
 ·obtain rfl:er=2:=by omega
  clear a;go_enter func164,ntmps164;go_wp2;go_ret;exact⟨fX,fX⟩
 have t0:decide (m<0)=fo:=yv b;by_cases c:256<m
 case' pos=>
  obtain rfl:er=2:=by omega
  clear a
 case' neg=>
  have t1:decide (256<m)=fo:=yv c;obtain⟨f,rfl⟩:(bits BinOp.and IntKind.i64 fg 2==0)=fm/\er=12:=by
   rcases a with d|d
   omega;exact d.2.2
  clear a b c
 all_goals
  go_enter func164,ntmps164;go_wp2;go_ret;exact⟨fX,fX⟩
theorem aca(a:Int)(c:a<0\/256<a)(W:fq):ik 165 #[ii o,fY a] W (UV (fY 2) W):=by
 by_cases b:a<0
 case' neg=>
  have t0:decide (a<0)=fo:=yv b;have t1:256<a:=by omega
 all_goals
  go_enter func165,ntmps165;go_wp2;go_ret;exact⟨fX,fX⟩
theorem mA{hs:List BW}{x:Int×Int×Int}(a:fv hs=8)(b:hs[k]?=fh (fm,x)):tM hs (k:Int)=fm:=by
 grind [wI,GI]
theorem QT(d:fO)(a):d.extract a a=kq:=by
 apply Rs
 all_goals simp_all
theorem We{a x y:Nat}(b:d.size<=x)(c:d.size<=y):d.extract a x=d.extract a y:=by
 apply Rs;rw[bwd,bwd];have e:fv d.data.toList=d.size:=fX
 grind
theorem htn(d:fO){a x:Nat}(b:a<=x):d.extract a x++d.extract x (x+1)=d.extract a (x+1):=by
 all_goals simp_all
theorem gm.oh(b:gm F w S na da nc dc E data (wn hs++more)){j fg a:Int}(d:hs[k]?=fh (u,j,fg,a)):
  w.c S (2+k*4)=fh (fE u)/\w.c S (2+k*4+1)=fh (fY j)/\w.c S (2+k*4+2)=fh (fY fg)/\w.c S (2+k*4+3)=fh (fY a)/\∀o,w.frozen? (ie S o)=fo:=by
 have⟨g,e⟩:=wI.1 d;have c:=λf(h:f<4)=>b.tab (f:=f) g h;rw[e]at c;exact⟨c 0<|by omega,c 1<|by omega,c 2<|by omega,c 3<|by omega,λo=>by simp[World.frozen?,b.hS]⟩
theorem gm.place(b:gm F w S na da nc dc E data (wn hs++more)){j fg a:Int}(c:hs[k]?=fh (u,j,fg,a))(H:Int):
  gm F (w.setCell (ie S<|2+k*4+3)<|fY H) S na da nc dc E data (wn (hs.set k (u,j,fg,H))++more)/\fH F w (w.setCell (ie S<|2+k*4+3)<|fY H):=by
 have⟨d,e⟩:=wI.1 c;exact b.IQ d (by omega) (by rw[e];rfl)
theorem hto(b:gm F w S na da nc dc E data (wn hs++more))(s:fv hs=8){k j a:Nat}(g:hs[k]?=fh (fm,(j:Int),fg,(a:Int)))(B:data[j]?=fh d)(C:0<=fg/\fg<=63)(au:a<=256)(av:d.size<=256)(aw:0<=many)(D:ma fg 1=fm)(V:fv data<=1000000000):
  ik 98 #[ii S,fY (k:Int),fY many] w λe J=>e=qr #[hZ<|d.extract a (a+many.toNat),fY 0]/\
   gm F J S na da nc dc E data (wn (hs.set k (fm,(j:Int),fg,(a:Int)+(d.extract a<|a+many.toNat).size))++more)/\fH F w J:=by
 have ax:=b.lt;have G:fe _:=jH b s (k:Int);rw[mA s g]at G;have X:fe (∀W,ik 159 #[fY fg,fY 1] W<|UV (fE fm) W):=λW=>by have:=mz fg 1 W C ⟨by decide,by decide⟩;rwa [D]at this
 have⟨c0,c1,c2,c3,n⟩:=b.oh g;have Y:=(wI.1 g).1;have ay:k<8:=by omega
 have t3:(k:Int)<8:=by omega
 have az:decide (many<0)=fo:=yv (by omega);have Z:fe (gm F w S na da nc dc E data<|wn hs++more):=b;have q:fe (hs[k]?=fh (fm,(j:Int),fg,(a:Int))):=g;have H:fe (data[j]?=fh d):=B;clear b g B n D C s Y;go_enter func98,ntmps98;go_wp2_with fail;refine tB G.o ?_;go_wp2_with fail;refine Hk (X.o _) λw1 h=>?_;have t:ju w w1:=by rw[h];exact(mi _ _).alloc (lw _) _
 have aa:w1.c w.heap.size 1=fh (fY (j:Int)):=by rw[h];simp
 have I:w1.c w.heap.size 3=fh (fY (a:Int)):=by rw[h];simp
 have K:w.heap.size<w1.heap.size:=by rw[h];simp
 have c:=Z.o.below t;have L:=c.c1;have⟨aA,ab,aB,ac,_⟩:=row_one c.jm (i:=j) (v:=fA d) (by simp[gN,H.o]);have⟨ad,ae,af,ag,n⟩:=c.oh q.o;have f3:=n<|2+k*4+3;have ah:=c.lt;have ai:j<fv data:=(wI.1 H.o).1;obtain⟨aj,ak⟩:=oX<|fv data;rw[<-ak]at L ai V;have aC:(j:Int)<(aj:Int):=by omega
 subst ab;have al:fe _:=c;have M:fe _:=t;clear h c0 c1 c2 c3 c t n;go_wp2
 go_region
 go_wp2
 go_loopw [10,12] (λam u wr=>∃(x:Nat) (o:fO),x<=512/\o.size<=512/\u=.int .i64 (x:Int)/\am=fA o/\fe (o=d.extract a x)/\fe (o.size+a=x/\(x=a\/x<=d.size))/\fe ((o.size:Int)<=many)/\fe (ju w1 wr)) (λ_ u _=>512-(intOf u).toNat)
 case atStart=>exact⟨a,kq,by omega,by show 0<=512;omega,fX,fX,(QT d a).symm,⟨by show 0+a=a;omega,.inl fX⟩,by show((0:Nat):Int)<=many;omega,by first|exact(mi _ _).drew|exact mi _ _⟩
 case round=>
  obtain⟨x,o,aD,aE,rfl,rfl,N,O,an,f⟩:=hrel;by_cases l:x<d.size/\(o.size:Int)<many
  ·have P:(x:Int)<(d.size:Int):=by omega
   have ao:=l.2;have aF:(x:Int)+1<=(d.size:Int):=by omega
   clear l;go_wp2;have ap:(d.extract x<|x+1).size=1:=by rw[hBN];omega
   have y:(o++d.extract x (x+1)).size=o.size+1:=by rw[Wl,ap]
   have⟨aq,ar⟩:=O.o;refine⟨⟨x+1,_,by omega,by rw[y];omega,fX,fX,?_,?_,?_,f⟩,by simp[intOf];omega⟩;show _=_;rw[N.o,htn d<|by omega];exact⟨by rw[y];omega,.inr<|by omega⟩;show(_:Int)<=_;rw[y];omega
  have Q:fe (o=d.extract a (a+many.toNat)):=by
   have⟨aq,ar⟩:=O.o;have aG:=an.o;show _=_;rw[N.o];by_cases R:x<d.size;rw[show a+many.toNat=x by omega];exact We (by omega)<|by omega
  have r:=al.o.below f.o;have⟨_,_,_,aH,T⟩:=r.oh q.o;have aI:=T<|2+k*4+3;have aJ:=(f.o.cell (p:=(ie w.heap.size 3)) K).trans I;have aK:=r.lt;have aL:=nz K f.o.size;have U:fe _:=r;clear r T ad ae af ag f3 aa I ac L ah;by_cases R:x<d.size
  ·have P:(x:Int)<(d.size:Int):=by omega
   have ao:decide ((o.size:Int)<many)=fo:=yv λb=>l ⟨R,b⟩;clear l;go_wp2
   go_region
   go_wp2;go_ret2;rw[<-Q.o];have m:ju wr wr.drew:=(mi _ _).drew;have⟨z,A⟩:=(U.o.below m).place q.o<|(a:Int)+(o.size:Int);exact⟨fX,z,((A.after m).after f.o).after M.o⟩
  have P:decide ((x:Int)<(d.size:Int))=fo:=yv (by omega);clear l;go_wp2
  go_region
  go_wp2;go_ret2;rw[<-Q.o];have m:ju wr wr.drew:=(mi _ _).drew;have⟨z,A⟩:=(U.o.below m).place q.o<|(a:Int)+(o.size:Int);exact⟨fX,z,((A.after m).after f.o).after M.o⟩
theorem UN(b:gm F w S na da nc dc E data (wn hs++more))(c:fv hs=8)(n many:Int)(d:tM hs n=fo):
  ik 98 #[ii S,fY n,fY many] w (vd (fC #[hZ kq,fY 3]) w):=by
 have a:fe _:=jH b c n;rw[d]at a;go_enter func98,ntmps98;go_wp2_with(go_at_call 163;refine tB a.o ?_);go_ret2;exact⟨fX,mi _ _⟩
theorem QU(b:gm F w S na da nc dc E data (wn hs++more))(c:fv hs=8)(n:Int)(x)(d:tM hs n=fo):
  ik 99 #[ii S,fY n,hZ x] w (vd (fY 3) w):=by
 have a:fe _:=jH b c n;rw[d]at a;go_enter func99,ntmps99;go_wp2_with(go_at_call 163;refine tB a.o ?_);go_ret;exact⟨fX,mi _ _⟩
theorem MI(b:gm F w S na da nc dc E data (wn hs++more))(c:fv hs=8)(n m:Int)(d:tM hs n=fo):
  ik 101 #[ii S,fY n,fY m] w (vd (fY 3) w):=by
 have a:fe _:=jH b c n;rw[d]at a;go_enter func101,ntmps101;go_wp2_with(go_at_call 163;refine tB a.o ?_);go_ret;exact⟨fX,mi _ _⟩
theorem acb(b:gm F w S na da nc dc E data (wn hs++more))(e:fv hs=8){j fg a many:Int}(c:hs[k]?=fh (fm,j,fg,a))(i:0<=fg/\fg<=63)(f:(many<0/\er=2)\/(0<=many/\ma fg 1=fo/\er=12)):
  ik 98 #[ii S,fY (k:Int),fY many] w (vd (fC #[hZ kq,fY er]) w):=by
 have p:=b.lt;have g:fe _:=jH b e (k:Int);rw[mA e c]at g;obtain⟨c0,c1,c2,c3,m⟩:=b.oh c;have n:=(wI.1 c).1;have q:k<8:=by omega
 have t3:(k:Int)<8:=by omega
 have l:fe (ma fg 1=fo->∀W,ik 159 #[fY fg,fY 1] W<|UV (fE fo) W):=λd W=>by have:=mz fg 1 W i ⟨by decide,by decide⟩;rwa [d]at this
 clear b c m i e n;by_cases h:many<0
 ·obtain rfl:er=2:=by omega
  clear f;go_enter func98,ntmps98;go_wp2_with(go_at_call 163;refine tB g.o ?_);go_ret2;exact⟨fX,(mi _ _).alloc (lw _) _⟩
 obtain⟨d,rfl⟩:ma fg 1=fo/\er=12:=by
  rcases f with b|b
  exact absurd b.1 h;exact b.2
 have r:decide (many<0)=fo:=yv h;have o:fe _:=l.o d;clear f h l d;go_enter func98,ntmps98;go_wp2_with fail;refine tB g.o ?_;go_wp2_with(go_at_call 159;refine tB (o.o _) ?_);go_ret2;exact⟨fX,(mi _ _).alloc (lw _) _⟩
theorem DV(b:gm F w S na da nc dc E data (wn hs++more))(g:fv hs=8){j fg a m:Int}(c:hs[k]?=fh (fm,j,fg,a))(h:0<=fg/\fg<=63)(d:((m<0\/256<m)/\er=2)\/(0<=m/\m<=256/\ma fg 2=fo/\er=12)):
  ik 101 #[ii S,fY (k:Int),fY m] w (vd (fY er) w):=by
 have r:=b.lt;have e:fe _:=jH b g (k:Int);rw[mA g c]at e;have⟨c0,c1,c2,c3,o⟩:=b.oh c;have p:=(wI.1 c).1;have s:k<8:=by omega
 have i:fe (ma fg 2=fo->∀W,ik 159 #[fY fg,fY 2] W<|UV (fE fo) W):=λf W=>by have:=mz fg 2 W h ⟨by decide,by decide⟩;rwa [f]at this
 clear b c o h g p;by_cases l:m<0
 ·obtain rfl:er=2:=by omega
  clear d;go_enter func101,ntmps101;go_wp2_with(go_at_call 163;refine tB e.o ?_);go_ret;exact⟨fX,mi _ _⟩
 have t0:decide (m<0)=fo:=yv l;by_cases n:256<m
 ·obtain rfl:er=2:=by omega
  clear d;go_enter func101,ntmps101;go_wp2_with(go_at_call 163;refine tB e.o ?_);go_ret;exact⟨fX,mi _ _⟩
 have t1:decide (256<m)=fo:=yv n;obtain⟨f,rfl⟩:ma fg 2=fo/\er=12:=by
  rcases d with b|b
  omega;exact b.2.2
 have q:fe _:=i f;clear d l n i f;go_enter func101,ntmps101;go_wp2_with fail;refine tB e.o ?_;go_wp2_with(go_at_call 159;refine tB (q.o _) ?_);go_ret;exact⟨fX,mi _ _⟩
def vu (l:List UInt8)(n:Nat):List UInt8:=l++List.replicate (n-fv l) 0
def MJ(l)(n):fv (vu l n)=max (fv l) n:=by unfold vu;simp;omega
def QV(a:fv l<=k):vu l k++[0]=vu l (k+1):=by
 unfold vu;rw[sP,show k+1-fv l=(k-fv l)+1 by omega,hI0]
def yL(a:n<=fv l):vu l n=l:=by unfold vu;rw[show n-fv l=0 by omega];simp
def MS (b d:List UInt8)(a i:Nat):List UInt8:=(vu b a).take a++d.take i++(vu b a).drop (a+i)
def pad(b d)(a):MS b d a 0=vu b a:=by unfold MS;simp
def htr{b d:List UInt8}(c:i<=fv d):fv (MS b d a i)=max (max (fv b) a) (a+i):=by
 unfold MS;simp[MJ];omega
theorem pap{b d:List UInt8}(e:i<fv d):(MS b d a i).take (a+i)++[d[i]]++(MS b d a i).drop (a+i+1)=MS b d a (i+1):=by
 have c:fv ((vu b a).take a++d.take i)=a+i:=by simp[MJ];omega
 unfold MS;rw[Ec c,List.drop_append,c,show a+i+1-(a+i)=1 by omega,hBW<|by omega,List.drop_drop,vv e,HL]
 grind
theorem Alt(b d)(a):MS b d a (fv d)=xw b d a:=by
 grind [MS,xw,vu,Nat.le_total,List.take_append,oM,sL,Nat.max_eq_left,hBW]
def ba (l:List UInt8):fO:=⟨l.toArray⟩
def EC(l):(ba l).size=fv l:=by show l.toArray.size=_;simp
def MK(a b:List UInt8):ba a++ba b=ba (a++b):=by
 apply Rs;rw[ByteArray.data_append];simp[ba]
theorem hts(d:fO):ba d.data.toList=d:=fX
theorem ML(l)(i j):(ba l).extract i j=ba ((l.take j).drop i):=by
 apply Rs;rw[bwd];apply stM.1;rw[Array.toList_extract];simp[ba,List.extract,List.drop_take]
theorem App(a:i<fv d.data.toList):d.extract i (i+1)=ba [d.data.toList[i]]:=by
 grind [ML,hts,vv,cse,kT]
theorem gm.aax{b j:Nat}(a:gm F w S na (fh<|ie b 0) nc dc E data rest)(g:j<fv data)(c):
  gm F (w.setCell (ie b j)<|hZ c) S na (fh<|ie b 0) nc dc E (data.set j c) rest/\fH F w (w.setCell (ie b j)<|hZ c):=by
 have⟨h,f⟩:=gZ a.jm fX;have d:fv (data.set j c)=fv data:=by simp
 refine⟨⟨a.fS,?_,mM a.lU f<|by decide,?_,a.fn,?_⟩,rq<|a.fd b fX⟩;rw[d,sI _ _ _ _ λe=>il a.jm a.hS (by decide) (by rw[show S=b from e];rfl)];exact a.hS;rw[d]
 have:=(a.jm.stored j<|hZ c).1
 rwa [gN,List.map_set];rw[d];exact a.fd
theorem Hs(b:gm F w S na da nc dc E data (wn hs++more))(e:fv hs=8){j fg a:Int}(c:hs[k]?=fh (fm,j,fg,a))(g:0<=fg/\fg<=63)(f:(ma fg 2=fo/\er=12)\/(ma fg 2=fm/\x=kq/\er=0)):
  ik 99 #[ii S,fY (k:Int),hZ x] w (vd (fY er) w):=by
 have n:=b.lt;have h:fe _:=jH b e (k:Int);rw[mA e c]at h;have⟨c0,c1,c2,c3,l⟩:=b.oh c;have m:=(wI.1 c).1;have o:k<8:=by omega
 have t3:(k:Int)<8:=by omega
 have i:fe _:=λW=>mz fg 2 W g ⟨by decide,by decide⟩;clear b c l g e m;cases d:ma fg 2
 case' false=>
  obtain rfl:er=12:=by
   rcases f with b|b
   exact b.2;rw[d]at b;cases b.1
 case' true=>
  obtain⟨rfl,rfl⟩:x=kq/\er=0:=by
   rcases f with b|b
   rw[d]at b;cases b.1;exact b.2
 all_goals
  rw[d]at i;clear f d;go_enter func99,ntmps99;go_wp2_with fail;refine tB h.o ?_;go_wp2_with(go_at_call 159;refine tB (i.o _) ?_);go_ret;exact⟨fX,(mi _ _).alloc (lw _) _⟩
def pdt (a:fu):Nat:=match a with|fA s=>s.size|_=>0
def jO(d:fO):fv d.data.toList=d.size:=fX
theorem Wf{a}{x e:fO}(b:e=ba (MS a x.data.toList t i))(U:i<x.size){r:fO}(c:r=ba ((MS a x.data.toList t i).drop<|t+i+1)):e.extract 0 (t+i)++x.extract i (i+1)++r=ba (MS a x.data.toList t<|i+1):=by
 rw[b,c,ML,App (d:=x) (by rw[jO];exact U),MK,MK,Eb,pap]
def peq(l)(i):(ba l).extract i (ba l).size=ba (l.drop i):=by rw[ML,EC,sL]
theorem fH.two{F}{w w1 b}(a:fH F w w1)(k:fH F w1 b):fH F w b:=⟨k.os.trans a.os,k.tape.trans a.tape,k.output.trans a.output,ww a.size k.size,λx c d=>(k.block x (nz c a.size) d).trans<|a.block x c d⟩
theorem acl(f:gm F w S na da nc dc E data (wn hs++more))(y:fv hs=8){k j a t:Nat}(l:hs[k]?=fh (fm,(j:Int),fg,(a:Int)))(z:data[j]?=fh d)(A:0<=fg/\fg<=63)(aA:a<=256)(aB:d.size<=256)(I:ma fg 2=fm)(aC:x.size≠0)(B:(ma fg 32=fm/\t=d.size)\/(ma fg 32=fo/\t=a))(aD:t+x.size<=256)(aa:fv data<=1000000000):
  ik 99 #[ii S,fY (k:Int),hZ x] w λe J=>e=fF (fY 0)/\
   gm F J S na da nc dc E (data.set j<|ue d x t) (wn (hs.set k (fm,(j:Int),fg,(t:Int)+x.size))++more)/\fH F w J:=by
 have aE:=f.lt;have C:fe _:=jH f y (k:Int);rw[mA y l]at C;have K:fe (∀W,ik 159 #[fY fg,fY 2] W<|UV (fE fm) W):=λW=>by have:=mz fg 2 W A ⟨by decide,by decide⟩;rwa [I]at this
 have L:fe _:=λW=>mz fg 32 W A ⟨by decide,by decide⟩;obtain⟨c0,c1,c2,c3,ab⟩:=f.oh l;have ac:=(wI.1 l).1;have t3:(k:Int)<8:=by omega
 have ad:fe (gm F w S na da nc dc E data<|wn hs++more):=f;have aF:(x.toList==[])=fo:=pP (by omega);have aG:decide (256<(t:Int)+(x.size:Int))=fo:=yv<|by omega
 change fe _ at l z B
 clear f ab I A y ac;go_enter func99,ntmps99;go_wp2_with fail;refine tB C.o ?_;go_wp2_with fail;refine Hk (K.o _) λw1 m=>?_
 have D:ju w w1:=by rw[m];exact(mi _ _).alloc (lw _) _
 have M:w1.c w.heap.size 1=fh (fY (j:Int)):=by rw[m];simp
 have ae:w1.c w.heap.size 2=fh (fY fg):=by rw[m];simp
 have af:w1.c w.heap.size 3=fh (fY (a:Int)):=by rw[m];simp
 have ag:w.heap.size<w1.heap.size:=by rw[m];simp
 have n:=ad.below D;have N:=n.c1;obtain⟨r,ah,O,P,_⟩:=row_one n.jm (i:=j) (v:=fA d) (by simp[gN,z.o]);have ai:=n.lt;have Q:j<fv data:=(wI.1 z).1;obtain⟨G,H⟩:∃G,G=fv data:=⟨_,fX⟩;rw[<-H]at N Q aa;have aH:(j:Int)<(G:Int):=by omega
 subst ah
 change fe _ at n D
 clear m c0 c1 c2 c3;go_wp2_with fail
 go_region
 go_upto_if 42 with(go_at_call 159;refine tB (L.o _) ?_)
 go_cut [10]from 43 to 44 λv aj=>v=.int .i64 (t:Int)/\fe (ju w1 aj)
 case first=>
  go_wp2
  all_goals
   go_meet;refine⟨?_,(mi _ _).drew⟩;rcases B with f|f<;>first|exact absurd (f.1.symm.trans (by assumption)) (by decide)|rw[f.2]
 case rest=>
  obtain⟨rfl,ak⟩:=hcut;clear L K C B;go_wp2
  go_loopw [9] (λv wr=>∃e:fO,e.size<=600/\v=fA e/\fe (e=ba (vu d.data.toList e.size)/\d.size<=e.size/\e.size<=max d.size t)/\fe (ju w1 wr)) (λv _=>600-pdt v)
  case atStart=>exact⟨d,by omega,rfl,⟨by rw[<-jO,yL<|lw _,hts],lw _,Nat.le_max_left _ _⟩,ak⟩
  case round=>
   obtain⟨e,al,rfl,c,b⟩:=hrel;by_cases h:e.size<t
   ·have s:(e.size:Int)<(t:Int):=by omega
    go_wp2;obtain⟨u,R,am⟩:=c;have o:(e++(⟨#[0]⟩:fO)).size=e.size+1:=by rw[Wl];rfl
    refine⟨⟨_,by rw[o];omega,fX,⟨?_,by rw[o];omega,by rw[o];omega⟩,b⟩,by unfold pdt;simp only;rw[o];omega⟩;rw[o,<-QV (by rw[jO];exact R),<-MK,<-u];rfl
   have s:decide ((e.size:Int)<(t:Int))=fo:=yv (by omega);have T:fe (e=ba (MS d.data.toList x.data.toList t 0)):=by
    obtain⟨u,R,am⟩:=c;show _=_;rw[pad];by_cases an:t<=d.size;rw[u,show e.size=d.size by omega,yL (by rw[jO];omega),yL (by rw[jO];exact an)];rw[u,show e.size=t by omega]
   have V:fe (ju w1 wr):=b;clear c b;go_wp2
   go_loopw [9,11] (λv9 ao wr=>∃(e:fO) (i:Nat),i<=x.size/\e.size<=600/\v9=fA e/\ao=.int .i64 (i:Int)/\fe (e=ba (MS d.data.toList x.data.toList t i))/\fe (ju w1 wr)) (λ_ v _=>300-(intOf v).toNat)
   case atStart=>exact⟨e,0,by omega,by omega,rfl,rfl,T,V⟩
   case round=>
    clear T V s h;obtain⟨e,i,U,al,rfl,rfl,c,b⟩:=hrel;have ap:fe (e.size=max (max d.size t) (t+i)):=by
     have:=c.o
     show _=_;rw[this,EC,htr (by rw[jO];exact U),jO]
    have aI:(t:Int)+(i:Int)<=(e.size:Int):=by have:=ap.o;omega
    by_cases h:i<x.size
    ·have s:(i:Int)<(x.size:Int):=by omega
     have X:fe ((ba<|MS d.data.toList x.data.toList t (i+1)).size<=600):=by
      show _<=_;rw[EC,htr (by rw[jO];exact h),jO];omega
     by_cases aJ:t+i+1<e.size
     ·have aK:(t:Int)+(i:Int)+1<(e.size:Int):=by omega
      go_wp2
      go_region
      go_wp2;have q:fe (e.extract 0 (t+i)++x.extract i (i+1)++e.extract (t+i+1) e.size=ba (MS d.data.toList x.data.toList t<|i+1)):=Wf c h (by rw[c.o];exact peq _ _);exact⟨⟨_,i+1,h,by rw[q.o];exact X,fX,fX,q,b.drew⟩,by simp[intOf];omega⟩
     go_wp2
     go_region
     go_wp2;have q:fe (e.extract 0 (t+i)++x.extract i (i+1)++kq=ba (MS d.data.toList x.data.toList t<|i+1)):=Wf c h (by
      rw[hBW (by have:=c.o;have aq:=congrArg ByteArray.size this;rw[EC]at aq;omega)];rfl)
     exact⟨⟨_,i+1,h,by rw[q.o];exact X,fX,fX,q,b.drew⟩,by simp[intOf];omega⟩
    have s:decide ((i:Int)<(x.size:Int))=fo:=yv (by omega);have ar:fe (ue d x t=e):=by
     rw[c.o,show i=fv x.data.toList by rw[jO];omega,Alt];rfl
    have g:=n.below b;obtain⟨_,_,_,aL,Y⟩:=g.oh l;have f3:=Y<|2+k*4+3;have au:=g.c1;rw[<-H]at au;have aM:=(b.o.cell (p:=(ie w.heap.size 1)) ag).trans M;have aN:=(b.o.cell (p:=(ie r j)) O).trans P;obtain⟨aO,Z⟩:=gZ g.jm fX;have aP:wr.frozen? (ie r j)=fo:=by simp[World.frozen?,Z]
    have av:r≠S:=λe=>il g.jm g.hS (by decide) (by rw[e];rfl);have aQ:S≠r:=λe=>av e.symm;have aR:=g.lt;have aS:=nz O b.o.size
    change fe _ at g
    clear Y M ae af P N ai Z;go_wp2
    go_region
    go_wp2;go_ret;rw[ar.o];obtain⟨aw,ax⟩:=g.aax (by rw[<-H];exact Q) e;obtain⟨ay,az⟩:=aw.place l<|(t:Int)+(x.size:Int);exact⟨fX,ay.below (mi _ _).drew,(((ax.two az).two<|fH.fK (mi _ _).drew).after b).after D⟩
