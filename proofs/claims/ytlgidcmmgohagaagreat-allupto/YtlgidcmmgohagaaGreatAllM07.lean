/- A part of the proof. -/
import Derived.Test.YtlgidcmmgohagaaGreatAllM06
set_option linter.all false
namespace Go.Proofs.YtlgidcmmgohagaaGreat
open Go.RowKit Go.Sort Go.Shelf Go.Proofs.Tryz
open Go.Value renaming slice->fy,string->fA,pointer->fB,tuple->fC,agg->fD,bool->fE
open Go.Ending renaming returned->fF
open Option renaming some->fh,none->fj
open Bool renaming true->fm,false->fo
open Go renaming World->fq,Value->fu
open List renaming length->fv,reverse->fx
open Go.RowKit renaming Hid->fe
set_option maxRecDepth 100000
set_option maxHeartbeats 0
variable {b c i k m:Nat}{data l xs:fQ}{d p:fO}{a:iD}{w J:fq}{E:List fV}
variable {F:Nat->Prop}{w:fq}{S nc dc:Nat}{na da:iD}{E:List fV}{data:fQ}{rest:gX}
def gN (xs:fQ):gX:=xs.map Value.string
def uF:(prog.info? 9).map (λi=>(i.zero,i.size,i.bytes))=fh (fh<|hZ ByteArray.empty,1,16):=by kernel_rfl
def cutAt (a:fO)(i:Nat):Bool:=if b:i<a.size then decide (a[i]=47)else fm
def lT (a:fO):Nat->fQ×Nat
 |0=>([],0)
 |i+1=>if cutAt a i=fm then((lT a i).1++[a.extract (lT a i).2 i],i+1) else((lT a i).1,(lT a i).2)
def jz (a:fO):fQ×Bool:=
 if a.size=0 then([],fm)else if ∀x∈(lT a<|a.size+1).1,fN x=fm then((lT a<|a.size+1).1,decide ((lT a<|a.size+1).1.length<=5)) else([],fo)
theorem JC(a):∀i,(lT a i).2<=i
 |0=>lw _
 |i+1=>by
  have:=JC a i
  grind [lT,HA]
theorem Ol(a):∀i,(lT a i).1.length<=i
 |0=>lw _
 |i+1=>by
  have:=Ol a i
  grind [lT,HA]
theorem Cx(b:fO)(c:b.size<=2097152):∀i,∀x∈(lT b i).1,x.size<=maxLen
 |0,x,a=>by cases a
 |i+1,x,a=>by
  simp only[lT]at a
  split at a
  rcases qJ.1 a with a|a
  exact Cx b c i x a
  grind [om,hBN,maxLen]
  exact Cx b c i x a
theorem Bi{x}:∀a∈[Value.string x],a.oneCell'=fm:=by intro a b;simp at b;subst b;rfl
theorem kY(a:ByteArray)(w:fq)(I:a.size<=2097152):
  ik 152 #[hZ a] w λe J=>∃v,e=qr #[v,fE (jz a).2]/\J.ownsRow w.heap.size 9 1 v (jz a).1.length (gN (jz a).1)/\ju w J:=by
 have⟨S,U,T,V,W⟩:=kM uF;by_cases o:a.size=0
 ·have K:a=kq:=by
   have⟨d⟩:=a;simp only[ByteArray.size]at o;rw[Array.size_eq_zero_iff.1 o]
  have s:fe (jz a=([],fm)):=Hc<|by unfold jz;rw[lv o]
  rw[s.o];subst K;clear o s I;go_enter func152,ntmps152;go_wp2;go_ret2;exact⟨_,fX,jY _ _ _ _,mi _ _⟩
 have K:(a.toList==[])=fo:=EF.2 λf=>o (by
  have:=congrArg List.length f
  simp only[Av,pq,zw]at this;exact this)
 go_enter func152,ntmps152;go_wp2
 go_loopw [4,5,6] (λl X i wr=>∃(k g n:Nat) (t:(Option Addr)) (u:Nat),k<=a.size+1/\i=.int .i64 (k:Int)/\X=.int .i64 (g:Int)/\l=fy t n u/\g<=k/\n<=k/\ju w wr/\fe (g=(lT a k).2)/\fe (n=(lT a k).1.length)/\fe (wr.ownsRow w.heap.size 9 1 (fy t n u) n<|gN (lT a k).1)) (λ_ _ i _=>a.size+1-(intOf i).toNat)
 case atStart=>exact⟨0,0,0,fj,0,Fr _,rfl,rfl,rfl,lw _,lw _,mi _ _,rfl,rfl,jY _ _ _ _⟩
 case round=>
  obtain⟨k,g,n,t,u,aq,rfl,rfl,rfl,Y,ar,h,Bj,j,p⟩:=hrel;by_cases Z:k<=a.size
  ·by_cases hcut:cutAt a k=fm
   ·have m:fe (lT a (k+1)=((lT a k).1++[a.extract g k],k+1)):=Hc<|by rw[Bj.o];simp only[lT];rw[lv hcut]
    by_cases y:k<a.size
    case' pos=>
     have z:a[k]=47:=by unfold cutAt at hcut;rw[dif_pos y]at hcut;exact Cb hcut
     have A:((k:Int)==(a.size:Int))=fo:=by simp;omega
     have aa:((a[k].toNat:Int)==47)=fm:=by rw[z];rfl
     clear hcut z
    case' neg=>
     have A:k=a.size:=(by omega);have au:((k:Int)==(a.size:Int))=fm:=by rw[A];simp
     have av:fe (k=a.size):=A;clear hcut A
    all_goals
     go_wp2_with(at_builtin;refine yO _ fX (.tmp 27) (.tmp 32) 131 fX w.heap.size 9 S _ 1 16 underlying131 U T V W fX (by decide) _ _ _ fX (p.o.alloc _) (ie wr.heap.size 0) 1 1 [hZ<|a.extract g k] fX fX (one_cell _ _ _ _ fX) Bi (by unfold maxLen;omega) (by omega) (by have:=h.size;simp;omega) ?_);intro aw ab E L _;have ac:=Hm (h.alloc h.size _) (by have:=h.size;simp;omega) (p.o.alloc _) L;obtain⟨M,N,rfl⟩:=pp E;have ad:fe (ab.ownsRow w.heap.size 9 1 (fy M (n+1) N) (n+1)<|gN (lT a<|k+1).1):=by show World.ownsRow _ _ _ _ _ _ _;rw[m.o];simp only[gN,nZ,lM,Cf];exact E
     have ae:fe (n+1=(lT a<|k+1).1.length):=Hc<|by rw[m.o,j.o];simp
     have af:fe (k+1=(lT a<|k+1).2):=Hc<|by rw[m.o]
     clear E L;go_wp2;go_roundw
     case rel=>exact⟨k+1,k+1,n+1,M,N,by omega,by go_num,by go_num,rfl,lw _,by omega,ac,af.o,ae.o,ad.o⟩
     case measure=>simp[intOf];omega
   have m:fe (lT a (k+1)=((lT a k).1,(lT a k).2)):=Hc<|by simp only[lT];rw[km hcut]
   have y:k<a.size:=by
    rcases WH k a.size with f|f
    exact f;exact absurd (by unfold cutAt;rw[dif_neg<|by omega]) hcut
   have z:a[k]≠47:=λe=>hcut (by unfold cutAt;rw[dif_pos y];exact iE e);have A:((k:Int)==(a.size:Int))=fo:=by simp;omega
   have aa:((a[k].toNat:Int)==47)=fo:=EF.2 λe=>z<|crc.1 (by have:(47:UInt8).toNat=47:=fX;omega);clear hcut z;go_wp2;go_roundw
   case rel=>exact⟨k+1,g,n,t,u,by omega,by go_num,rfl,rfl,by omega,by omega,h,by show _=_;rw[m.o];exact Bj,by show _=_;rw[m.o];exact j.o,by show World.ownsRow _ _ _ _ _ _ _;rw[m.o];exact p⟩
   case measure=>simp[intOf];omega
  have ag:fe (k=a.size+1):=Hc<|by omega
  obtain⟨xs,D⟩:=oX<|(lT a k).1;rw[<-D]at j p;have O:fe (xs=(lT a<|a.size+1).1):=Hc<|by rw[<-ag.o];exact D
  have ah:fe (∀x∈xs,x.size<=maxLen):=by rw[D];exact Cx a I _
  rename fq=>ai;obtain⟨aj,P⟩:=oX k;rw[<-P]at Z |-;clear D P;have ak:decide ((aj:Int)<=(a.size:Int))=fo:=yv (by omega);have s:fe (jz a=if ∀x∈xs,fN x=fm then(xs,decide (fv xs<=5)) else([],fo)):=Hc<|by unfold jz;rw[km o,<-O.o]
  clear O Bj Y;go_wp2
  go_loopw [7] (λi wr=>∃k:Nat,k<=n/\i=.int .i64 (k:Int)/\(∃F,wr=ai.drewN F)/\fe (∀b(B:b<fv xs),b<k->fN xs[b]=fm)) (λi _=>n-(intOf i).toNat)
  case atStart=>exact⟨0,Fr _,rfl,⟨0,rfl⟩,λb B f=>by omega⟩
  case round=>
   obtain⟨k,ax,rfl,⟨F,rfl⟩,Q⟩:=hrel;by_cases y:k<n
   ·have G:k<fv xs:=by rw[<-j.o];exact y
    have⟨ay,al,az,c,_⟩:=row_one (tR p<|Fr _) (i:=k) (v:=fA xs[k]) (by simp[gN,G]);subst al;have q:=λam=>Jb xs[k] am<|ah.o _ (kK G);have aA:(k:Int)<(n:Int):=by omega
    cases r:fN xs[k] with
    |true=>
     rw[r]at q;have C:fe (fN xs[k]=fm):=r;have H:fe _:=q;clear r q;go_wp2_with(go_at_call 150;apply Ps<|H _;rintro _ _ ⟨rfl,an,rfl⟩);go_roundw
     case rel=>
      refine⟨k+1,by omega,by go_num,⟨_,fX⟩,λb B aB=>?_⟩;by_cases e:b=k;subst e;exact C;exact Q.o b B<|by omega
     case measure=>simp[intOf];omega
    |false=>
     rw[r]at q;have C:fe (jz a=([],fo)):=by
      show _=_;rw[s.o,km];intro f
      have:=f _<|kK G
      rw[r]at this;cases this
     have H:fe _:=q;clear r q;go_wp2_with(go_at_call 150;apply Ps<|H _;rintro _ _ ⟨rfl,an,rfl⟩);go_ret2;rw[C.o];exact⟨_,fX,jY _ _ _ _,jf h _⟩
   have C:fe (jz a=(xs,decide (fv xs<=5))):=by
    show _=_;rw[s.o,lv];intro x ao;obtain⟨b,B,rfl⟩:=rI ao;exact Q b B (by have:=j.o;omega)
   have ak:decide ((k:Int)<(n:Int))=fo:=yv (by omega);have ap:fe (decide ((n:Int)<=5)=decide (fv xs<=5)):=by
    show _=_;rw[j.o];by_cases R:fv xs<=5;rw[iE R,iE<|by omega];rw[yv R,yv<|by omega]
   go_wp2;go_ret2;rw[C.o];refine⟨fy t n u,by rw[<-ap.o];rfl,?_,jf h F⟩;rw[<-j.o];exact p
def ud (c n:Int):Int:=(if c<0 then -(c+1)else c).tmod n
theorem JD(c:Int){n:Int}(a:0<n):0<=ud c n/\ud c n<n:=by
 have b:0<=(if c<0 then -(c+1)else c):=by split<;>omega
 exact⟨Int.tmod_nonneg _ b,Int.tmod_lt_of_pos _ a⟩
theorem gcd(c n:Int)(w:fq)(f:-9223372036854775808<=c/\c<=9223372036854775807)(e:0<n)(g:n<=1000000000):
  ik 49 #[fY c,fY n] w (UV (fY<|ud c n) w):=by
 have d:=JD c e;by_cases b:c<0
 ·have a:fe (ud c n=(-(c+1)).tmod n):=Hc<|by unfold ud;rw[lv b]
  rw[a.o]at d;go_enter func49,ntmps49;go_wp2;go_ret;exact⟨by rw[a.o,Int.neg_tmod];rfl,fX⟩
 have a:fe (ud c n=c.tmod n):=Hc<|by unfold ud;rw[km b]
 rw[a.o]at d;go_enter func49,ntmps49;go_wp2;go_ret;exact⟨by rw[a.o,Int.tmod_eq_emod_of_nonneg b];rfl,fX⟩
theorem Io(a b)(c d)(xs e:fQ)(w:fq)(K:fv xs<=1000000000)(L:fv e<=1000000000)
  (r:w.ownsRow 0 9 1 (fy a (fv xs) c) (fv xs) (gN xs))(s:w.ownsRow 0 9 1 (fy b (fv e) d) (fv e) (gN e)):
  ik 92 #[fy a (fv xs) c,fy b (fv e) d] w (vd (fE<|decide (xs=e)) w):=by
 by_cases l:fv xs=fv e
 ·obtain⟨m,n⟩:=oX (fv xs)
  have z:fe (fv xs=m):=n.symm;have A:fe (fv e=m):=by rw[n];exact l.symm
  rw[<-l,<-n]at s;rw[<-l,<-n];rw[<-n]at r K;have M:fe (w.ownsRow 0 9 1 (fy a m c) m<|gN xs):=r;have N:fe (w.ownsRow 0 9 1 (fy b m d) m<|gN e):=s;clear r s l n L;have O:((m:Int) != (m:Int))=fo:=by simp
  go_enter func92,ntmps92;go_wp2
  go_loopw [5] (λi wr=>∃k:Nat,k<=m/\i=.int .i64 k/\fe (∃g,wr=w.drewN g)/\fe (xs.take k=e.take k)) (λi _=>m-(intOf i).toNat)
  case atStart=>exact⟨0,Fr _,rfl,⟨0,by first|rfl|trivial⟩,rfl⟩
  case round=>
   obtain⟨k,Q,rfl,h,B⟩:=hrel;by_cases C:k<m
   ·have D:k<fv xs:=by rw[z.o];exact C
    have E:k<fv e:=by rw[A.o];exact C
    obtain⟨x,o⟩:=oX<|xs[k];obtain⟨y,q⟩:∃y,y=e[k]:=⟨_,fX⟩;obtain⟨F,rfl,G,p,_⟩:=row_one M (i:=k) (v:=fA x) (by simp[gN,jG D,o]);obtain⟨H,rfl,I,J,_⟩:=row_one N (i:=k) (v:=fA y) (by simp[gN,jG E,q]);have R:wr.c F k=fh (hZ x):=by have⟨g,f⟩:=h.o;rw[f];exact p
    have S:wr.c H k=fh (hZ y):=by have⟨g,f⟩:=h.o;rw[f];exact J
    have T:F<wr.heap.size:=by obtain⟨g,f⟩:=h.o;rw[f];exact G
    have U:H<wr.heap.size:=by have⟨g,f⟩:=h.o;rw[f];exact I
    clear p J G I
    change fe _ at o q
    cases t:(x.toList==y.toList) with
    |true=>
     have j:fe (x=y):=Rs<|stM.1 (by simpa [Av]using t);go_wp2
     go_quiet (fail)
     go_wp2;go_roundw
     case rel=>
      refine⟨k+1,by omega,by go_num,(by have⟨g,f⟩:=h;exact⟨g+nq,by rw[f];simp⟩),?_⟩;show _=_;rw[vv D,vv E,B.o,<-o.o,<-q.o,j.o]
     case measure=>simp[intOf];omega
    |false=>
     have j:fe (xs≠e):=λu=>by
      have:x=y:=by rw[o.o,q.o];simp only[u]
      rw[this]at t;simp at t
     go_wp2
     go_quiet (fail)
     go_wp2;go_ret;exact⟨by rw[yv j.o];rfl,by obtain⟨g,f⟩:=h;rw[f];exact jf (jf (mi _ _) _) _⟩
   have P:k=m:=by omega
   have j:fe (xs=e):=by
    have:=B.o
    rwa [P,oM (by rw[z.o];exact lw _),oM (by rw[A.o];exact lw _)]at this
   go_wp2;go_ret;exact⟨by rw[iE j.o];rfl,by have⟨g,f⟩:=h;rw[f];exact jf (mi _ _) _⟩
 have j:fe (xs≠e):=λu=>l (by rw[u]);have O:((fv xs:Int) != (fv e:Int))=fm:=by simp;omega
 clear l;go_enter func92,ntmps92;go_wp2;go_ret;exact⟨by rw[yv j.o];rfl,mi _ _⟩
def qR(b:Nat)(e a:Int)(fj:Bool)(w:fq)(d:(e==14)=fo):
  ik 53 #[fB<|fh ⟨b,0,.none⟩,fY e,fY a,fE fj] w λc J=>c=qr #[fE fo,fE<|e==a]/\J=w:=by
 go_enter func53,ntmps53;go_wp2_with(go_at_call 22;refine Ps (mj _ _) ?_;rintro _ _ ⟨rfl,rfl⟩);go_ret2;exact⟨fX,fX⟩
def lC (w:fq)(a:iD)(m:Nat)(xs:fQ):Prop:=fv xs=m/\(0<m->∃b off,a=fh ⟨b,off,fj⟩/\b<w.heap.size/\∀c(d:c<fv xs),w.cell? ⟨b,off+c,fj⟩=fh (fA xs[c]))
theorem WF(d:w.ownsRow b 9 1 (fy a m c) m (gN xs)):lC w a m xs:=by
 have g:fv xs=m:=by have:=d.1;simp only[gN,oL]at this;omega
 refine⟨g,λl=>?_⟩;have⟨h,_,j,_⟩:=row_one (tR d<|Fr _) (i:=0) (v:=fA xs[0]) (by simp[gN])
 subst_vars
 refine⟨h,0,fX,j,λf k=>?_⟩;have⟨n,e,_,o,_⟩:=row_one (tR d<|Fr _) (i:=f) (v:=fA xs[f]) (by simp[gN,k])
 grind
theorem lC.below(c:lC w a m xs)(d:ju w J):lC J a m xs:=
 ⟨c.1,λg=>by
  have⟨b,off,h,e,i⟩:=c.2 g
  exact⟨b,off,h,nz e d.size,λf j=>(d.cell (p:=(ie b<|off+f)) e).trans<|i f j⟩⟩
theorem lC.take(c:lC w a m xs)(k:Nat)(d:k<=m):lC w a k (xs.take k):=by
 refine⟨by rw[kT,c.1];omega,λe=>?_⟩;have⟨b,off,f,g,h⟩:=c.2<|by omega
 grind
def oC (xs:fQ):Nat->fO
 |0=>⟨#[]⟩
 |k+1=>(if 0<k then oC xs k++⟨#[47]⟩else oC xs k)++xs.getD k ⟨#[]⟩
def fG (xs:fQ):fO:=oC xs<|fv xs
theorem xq(xs:(List ByteArray))(a:∀x ∈ xs,x.size<=12):∀k,(oC xs k).size<=13*k
 | 0=>Nat.le_refl _
 | k+1=>by
  have b:=xq xs a k
  have c:(xs.getD k ⟨#[]⟩).size<=12:=by
   rw[List.getD_eq_getElem?_getD];rcases d:xs[k]? with _ | x
   exact Nat.zero_le _
   grind
  simp only[oC];split;rw[ByteArray.size_append,ByteArray.size_append]
  have:(⟨#[47]⟩:ByteArray).size=1:=fX
  omega
  grind
theorem FE(a)(m c)(xs)(w)(f:lC w a m xs)(g:∀x∈xs,x.size<=12)(z:m<=2097153):
  ik 202 #[fy a m c] w (UV (hZ<|fG xs) w):=by
 have q:fe (∀k,(oC xs k).size<=13*k):=xq xs g
 change fe _ at f g
 go_enter func202,ntmps202;go_wp2
 go_loopw [3,4] (λt i wr=>∃(k:Nat) (d:fO),k<=m/\i=.int .i64 (k:Int)/\t=fA d/\d.size<=13*k/\wr=w/\fe (d=oC xs k)) (λ_ i _=>m-(intOf i).toNat)
 case atStart=>exact⟨0,kq,Fr _,rfl,rfl,lw _,rfl,rfl⟩
 case round=>
  obtain⟨k,d,A,rfl,rfl,B,rfl,h⟩:=hrel;by_cases r:k<m
  ·have j:k<fv xs:=by rw[f.o.1];exact r
   have⟨b,off,s,C,n⟩:=f.2 (by omega);have c0:=n k j;subst s;have u:=g _<|kK j;obtain⟨x,l⟩:=oX<|xs[k];rw[<-l]at c0 u;have v:fe (x=xs[k]):=l;clear n l;have o:fe (xs.getD k kq=x):=Hc<|by rw[v.o,yN,jG j];rfl
   by_cases p:0<k
   case' pos=>
    have y:0<(k:Int):=(by omega);have e:fe (d++⟨#[47]⟩++x=oC xs (k+1)):=Hc<|by rw[h.o];simp only[oC];rw[lv p,o.o]
   case' neg=>
    have y:decide (0<(k:Int))=fo:=yv (by omega);have e:fe (d++x=oC xs (k+1)):=Hc<|by rw[h.o];simp only[oC];rw[km p,o.o]
   all_goals
    go_wp2;refine⟨⟨k+1,_,by omega,by go_num,fX,?_,by trivial,e.o⟩,by simp[intOf];omega⟩;rw[e.o];exact q.o _
  have e:fe (d=fG xs):=Hc<|by rw[h.o];unfold fG;rw[f.o.1];congr 1;omega
  go_wp2;go_ret;exact⟨by rw[<-e.o];rfl,fX⟩
structure gm (F:Nat->Prop)(w:World)(S:Nat)(na da:iD)(nc dc:Nat)(nodes:List fV)(data:fQ)(rest:gX):Prop where
 fS:F S
 hS:w.heap[S]?=some (.cells (Value.slice na nodes.length nc::Value.slice da data.length dc::rest).toArray 179 (0,0))
 lU:w.ownsRow 0 200 3 (.slice na nodes.length nc) nodes.length (flat nodes)
 jm:w.ownsRow 0 9 1 (.slice da data.length dc) data.length (gN data)
 fn:∀g,(Value.slice na nodes.length nc).ownBlock=some g->F g
 fd:∀g,(Value.slice da data.length dc).ownBlock=some g->F g
def gm.lt(a:gm F w S na da nc dc E data rest):S<w.heap.size:=(lH.1 a.hS).1
def gm.c0(a:gm F w S na da nc dc E data rest):w.c S 0=fh (fy na (fv E) nc):=by simp[World.cell?,a.hS]
def gm.c1(a:gm F w S na da nc dc E data rest):w.c S 1=fh (fy da (fv data) dc):=by simp[World.cell?,a.hS]
theorem gm.keep{F':Nat->Prop}(b:gm F w S na da nc dc E data rest)(hF:∀k,F k->F' k)(d:∀k,F k->J.heap[k]?=w.heap[k]?):gm F' J S na da nc dc E data rest:=
 ⟨hF _ b.fS,(d S b.fS).trans b.hS,gg b.lU λa c=>d a<|b.fn a c,gg b.jm λa c=>d a<|b.fd a c,λa c=>hF a<|b.fn a c,λa c=>hF a<|b.fd a c⟩
theorem gm.below(a:gm F w S na da nc dc E data rest)(b:ju w J):gm F J S na da nc dc E data rest:=
 ⟨a.fS,(b.block S a.lt).trans a.hS,gg a.lU λc d=>b.block c<|gc a.lU d,gg a.jm λc d=>b.block c<|gc a.jm d,a.fn,a.fd⟩
def QQ (E:List fV)(p:fO):Option Nat:=E.findIdx? λe=>decide (e.1.toList=p.toList)
def ol (E:List fV)(p:fO):Int:=if p.toList=[]then 2 else match QQ E p with|some i=>((E[i]?).map (·.2.1)).getD 0|none=>0
theorem pM(a)(m c)(E)(p)(w)(h:jw w a m E)(u:m<=1000000000):
  ik 106 #[fy a m c,hZ p] w (UV (fY<|pF (QQ E p)) w):=by
 change fe _ at h
 go_enter func106,ntmps106;go_wp2
 go_loopw [5] (λi wr=>∃k:Nat,k<=m/\i=.int .i64 k/\wr=w/\fe (∀d(f:d<fv E),d<k->decide (E[d].1.toList=p.toList)=fo)) (λi _=>m-(intOf i).toNat)
 case atStart=>exact⟨0,Fr _,rfl,rfl,λd f v=>by omega⟩
 case round=>
  obtain⟨k,y,rfl,rfl,j⟩:=hrel;by_cases q:k<m
  ·have n:k<fv E:=by rw[h.o.1];exact q
   have⟨b,off,r,z,o⟩:=h.2 (by omega);have⟨c0,_⟩:=lr o n;subst r;clear o;by_cases g:E[k].1.toList=p.toList
   ·have l:fe (E[k].1.toList=p.toList):=g
    have s:(E[k].1.toList==p.toList)=fm:=by rw[g];exact beq_self_eq_true _
    clear g;go_wp2;go_ret;refine⟨?_,fX⟩;have e:QQ E p=fh k:=yM.2 ⟨n,iE l,λd f=>by have:=j d (by omega) f;simp[this]⟩;rw[e];rfl
   have l:fe (decide (E[k].1.toList=p.toList)=fo):=yv g;have s:(E[k].1.toList==p.toList)=fo:=EF.2 g;clear g;go_wp2;go_roundw
   case rel=>
    refine⟨k+1,by omega,by go_num,by trivial,λd f A=>?_⟩;by_cases e:d=k;subst e;exact l;exact j d f<|by omega
   case measure=>simp[intOf];omega
  go_wp2;go_ret;refine⟨?_,fX⟩;have e:QQ E p=fj:=Wn.2 λx t=>by
   obtain⟨d,f,rfl⟩:=rI t;exact j d f (by have:=h.1;omega)
  rw[e];rfl
theorem pN(e:gm F w S na da nc dc E data rest)(p)(h:fv E<=1000000000):
  ik 155 #[ii S,hZ p] w (UV (fY<|ol E p) w):=by
 have m:=e.c0;have j:=pM na (fv E) nc E p w (iz e.lU) h;have g:fe (w.ownsRow 0 200 3 (fy na (fv E) nc) (fv E)<|flat E):=e.lU;have b:fe _:=j;obtain⟨n,f⟩:=oX<|fv E;rw[<-f]at m b h;clear e j;by_cases a:p.toList=[]
 ·have d:fe (ol E p=2):=Hc<|by unfold ol;rw[lv a]
  have o:(p.toList==[])=fm:=by rw[a];rfl
  clear a;rw[d.o];clear f;go_enter func155,ntmps155;go_wp2;go_ret;exact⟨fX,fX⟩
 have o:(p.toList==[])=fo:=EF.2 a;cases c:QQ E p
 case' none=>
  have d:fe (ol E p=0):=Hc<|by unfold ol;rw[km a,c]
  rw[c]at b;have k:fe (ik 106 #[fy na n nc,hZ p] w<|UV (fY<|-1) w):=b.o;rw[d.o];clear f c b a
 case' some i=>
  have U:i<fv E:=(yM.1 c).1;have d:fe (ol E p=E[i].2.1):=Hc<|by unfold ol;rw[km a,c];simp[U]
  rw[c]at b;have k:fe (ik 106 #[fy na n nc,hZ p] w<|UV (fY (i:Int)) w):=b.o;rw[d.o];have⟨r,s,l⟩:=hh g.o (by omega);have q:=(lK l).1;subst q;have⟨_,c1,_⟩:=lr (off:=0) (ks g.o) U;rw[iR]at c1;have t:=gc g.o fX;have u:(i:Int)<(n:Int):=by omega
  have v:decide ((i:Int)<0)=fo:=yv (by omega);clear f c b l a
 all_goals
  go_enter func155,ntmps155;go_wp2_with(go_at_call 106;refine tB k.o ?_);go_ret;exact⟨fX,fX⟩
def kJ (E:List fV)(l:fQ)(i:Nat):Option Int:=if ol E (fG<|l.take i)≠2 then fh 5 else if ol E (fG<|l.take (i+1))=0 then fh 4 else fj
def ig (E:List fV)(l:fQ):Int:=((List.range<|fv l).findSome?<|kJ E l).getD 0
theorem geq(b:∀a,a<fv l->kJ E l a=fj):ig E l=0:=by
 grind [ig,scp]
theorem Om{e:Int}(h:k<fv l)(c:∀a,a<k->kJ E l a=fj)(d:kJ E l k=fh e):ig E l=e:=by
 unfold ig;have f:List.range (fv l)=List.range k++k::(List.range<|fv l-k-1).map (k+1 + ·):=by
  have b:=@List.range_add k<|fv l-k;rw[show k+(fv l-k)=fv l by omega]at b;rw[b,show fv l-k=fv l-k-1+1 by omega,List.range_succ_eq_map,lM,Ed];simp only[Ee,Nat.add_sub_cancel]
  congr 2
  grind [KW]
 rw[f,hEq,scp.2 λa g=>c a<|Rp.1 g];simp[d]
theorem Bk(u:gm F w S na da nc dc E data rest)(a)(m c:Nat)(l)(v:lC w a m l)(G:∀x∈l,x.size<=12)(W:m<=2097152)(X:m<=c)(L:fv E<=1000000000):
  ik 153 #[ii S,fy a m c] w (UV (fY<|ig E l) w):=by
 have y:fe (lC w a m l):=v;have H:fe (∀p,ik 155 #[ii S,hZ p] w<|UV (fY<|ol E p) w):=λp=>pN u p L;have I:fe (∀k,k<=m->ik 202 #[fy a k c] w (UV (hZ<|fG (l.take k)) w)):=λk J=>FE a k c (l.take k) w (v.take k J) (λx M=>G x<|Aw M) (by omega);clear v G u;go_enter func153,ntmps153;go_wp2
 go_loopw [5] (λi wr=>∃k:Nat,k<=m/\i=.int .i64 (k:Int)/\wr=w/\fe (∀d,d<k->kJ E l d=fj)) (λi _=>m-(intOf i).toNat)
 case atStart=>exact⟨0,Fr _,rfl,rfl,λd u=>by omega⟩
 case round=>
  obtain⟨k,J,rfl,rfl,q⟩:=hrel;by_cases N:k<m
  ·have K:k<fv l:=by rw[y.o.1];exact N
   have⟨b,off,O,_⟩:=y.2 (by omega);subst O;have j:=I k (by omega);have r:=I (k+1) (by omega);have g:=H<|fG (l.take k);have n:=H<|fG (l.take<|k+1);obtain⟨P,z⟩:=oX<|fG (l.take k);have⟨Q,A⟩:=oX<|fG (l.take<|k+1);rw[<-z]at j g;rw[<-A]at r n;obtain⟨s,B⟩:=oX<|ol E P;obtain⟨t,C⟩:=oX<|ol E Q;rw[<-B]at g;rw[<-C]at n;have D:fe (kJ E l k=if s≠2 then fh 5 else if t=0 then fh 4 else fj):=Hc<|by unfold kJ;rw[B,C,z,A]
   have Y:(k:Int)<=(c:Int):=by omega
   change fe _ at j r g n
   clear z A B C;by_cases f:s=2
   ·have R:(s != 2)=fo:=by simp[f]
    by_cases h:t=0
    ·have T:(t==0)=fm:=by simp[h]
     have o:fe (ig E l=4):=Om K q (by rw[D.o,km (by simp[f]),lv h]);clear f h;go_wp2_with fail;refine tB j ?_;go_wp2_with fail;refine tB g ?_;go_wp2_with fail;refine tB r ?_;go_wp2_with fail;refine tB n ?_;go_wp2;go_ret;exact⟨by rw[o.o];rfl,fX⟩
    have T:(t==0)=fo:=(by simp[h]);have U:fe (kJ E l k=fj):=Hc<|by rw[D.o,km (by simp[f]),km h]
    clear f h;go_wp2_with fail;refine tB j ?_;go_wp2_with fail;refine tB g ?_;go_wp2_with fail;refine tB r ?_;go_wp2_with fail;refine tB n ?_;go_wp2;go_roundw
    case rel=>
     refine⟨k+1,by omega,by go_num,by trivial,λd V=>?_⟩;by_cases e:d=k;subst e;exact U;exact q d<|by omega
    case measure=>simp[intOf];omega
   have R:(s != 2)=fm:=by simp[f]
   have o:fe (ig E l=5):=Om K q (by rw[D.o,lv f]);clear f;go_wp2_with fail;refine tB j ?_;go_wp2_with fail;refine tB g ?_;go_wp2;go_ret;exact⟨by rw[o.o];rfl,fX⟩
  have Z:decide ((k:Int)<(m:Int))=fo:=yv (by omega);have o:fe (ig E l=0):=geq λd V=>q d (by have:=y.1;omega);go_wp2;go_ret;exact⟨by rw[o.o];rfl,fX⟩
theorem Dj(b):∀x∈(jz b).1,fN x=fm:=by
 unfold jz;split;intro x a;cases a;split
 ·next h=>exact h
 intro x a;cases a
theorem jK(a):∀x∈(jz a).1,x.size<=12:=λx b=>(xj (Dj a x b)).2
def uG(a):(jz a).1.length<=a.size+1:=by
 unfold jz;split;exact Fr _;split;exact Ol a _;exact Fr _
def wl (p d:fO):Bool:=decide (0<(jz p).1.length)&&((fG<|(jz p).1.take ((jz p).1.length-1)).toList==d.toList)
theorem nM{t}{z}{xs}(d:w.ownsRow b t z (fy a m c) m xs):m<=c:=by
 rcases d.2 with⟨e,f⟩|⟨g,h,_,e,_,_,i,_⟩
 omega;rwa [(lK e).2.2]
theorem Dk(p d:fO)(w:fq)(s:p.size<=2097152):
  ik 162 #[hZ p,hZ d] w (vd (fE<|wl p d) w):=by
 have a:=kY p w s;have c:=jK p;have i:=uG p;obtain⟨xs,e⟩:=oX<|(jz p).1;have f:fe (wl p d=(decide (0<fv xs)&&((fG<|xs.take (fv xs-1)).toList==d.toList))):=Hc<|by unfold wl;rw[e]
 rw[<-e]at a c i;have t:fe (∀x∈xs,x.size<=12):=c;obtain⟨n,j⟩:=oX<|fv xs;rw[<-j]at a i f;have k:fe _:=a;clear a c e j;go_enter func162,ntmps162;go_wp2_with fail;refine Ps k ?_;rintro _ u ⟨D,rfl,b,l⟩;obtain⟨v,y,rfl⟩:=pp b;have E:=nM b;have o:fe _:=b;clear b k;by_cases g:0<n
 ·have F:0<(n:Int):=by omega
  obtain⟨m,z⟩:∃m:Nat,n=m+1:=⟨n-1,by omega⟩;have q:=FE v m y (xs.take m) u (lC.take (WF o) m<|by omega) (λx A=>t x<|Aw A) (by omega);have B:fe _:=q;obtain⟨G,H,r⟩:=hh o g;have C:=(lK r).1;subst C;have h:fe (wl p d=((fG<|xs.take m).toList==d.toList)):=Hc<|by rw[f.o,iE g,show n-1=m by omega];rfl
  have I:(n:Int)-1=(m:Int):=by omega
  clear q r z;go_wp2_with fail;refine tB B.o ?_;go_wp2;go_ret;exact⟨by rw[h.o];rfl,l⟩
 have h:fe (wl p d=fo):=Hc<|by rw[f.o,yv g];rfl
 go_wp2;go_ret;exact⟨by rw[h.o];rfl,l⟩
def sr (p:fO):fO:=(jz p).1.getD ((jz p).1.length-1) ⟨#[]⟩
def fU (E:List fV)(d:fO):List fV:=(E.filter λe=>wl e.1 d).map λe=>(sr e.1,0,0)
def ij (E:List fV)(d:fO):fQ:=(gY<|fU E d).map (·.1)
def Ip(a:k<fv E)(b:wl E[k].1 d=fm):fU (E.take<|k+1) d=fU (E.take k) d++[(sr E[k].1,0,0)]:=by
 unfold fU;rw[vv a,List.filter_append,nZ];simp[b]
def FF(a:k<fv E)(b:wl E[k].1 d=fo):fU (E.take<|k+1) d=fU (E.take k) d:=by
 unfold fU;rw[vv a,List.filter_append,nZ];simp[b]
theorem Oo(E)(d):∀e∈fU E d,e.1.size<=maxLen:=by
 intro e a;obtain⟨x,_,rfl⟩:=jC.1 a;show(sr x.1).size<=maxLen;unfold sr;rw[yN];rcases b:(jz x.1).1[(jz x.1).1.length-1]? with _|y
 exact Fr _
 have:=jK x.1 y<|cls b
 exact ww this<|by decide
theorem Cy(af:gm F w S na da nc dc E data rest)(d)(aC:fv E<=1000000000)(ag:∀e∈E,e.1.size<=2097152)(ah:fv (fU E d)<=16):
  ik 156 #[ii S,hZ d] w λe J=>∃v,e=fF v/\J.ownsRow w.heap.size 9 1 v (fv<|ij E d) (gN<|ij E d)/\ju w J:=by
 have⟨aD,aE,aF,aG,aH⟩:=kM wP;have⟨aI,U,aJ,aK,aL⟩:=kM uF;have⟨n,A⟩:=oX<|fv E;rw[<-A]at aC
 change fe _ at af ag ah A
 go_enter func156,ntmps156;go_wp2
 go_loopw [5,6] (λl i wr=>∃(k a:Nat) (g:(Option Addr)) (h:Nat),k<=n/\i=.int .i64 (k:Int)/\l=fy g a h/\a<=k/\ju w wr/\fe (a=fv (fU (E.take k) d))/\fe (wr.ownsRow w.heap.size 112 3 (fy g a h) a<|flat (fU (E.take k) d))) (λ_ i _=>n-(intOf i).toNat)
 case atStart=>exact⟨0,0,fj,0,Fr _,rfl,rfl,lw _,mi _ _,rfl,jY _ _ _ _⟩
 case round=>
  obtain⟨k,a,g,h,br,rfl,rfl,bs,B,I,q⟩:=hrel;have j:=af.o.below B;have ai:=j.c0;have aM:=j.lt;rw[<-A.o]at ai;have R:=B.size;by_cases aN:k<n
  ·have K:k<fv E:=by rw[<-A.o];exact aN
   have C:=j.lU;have⟨L,bt,r⟩:=hh C (by omega);have T:=(lK r).1;subst T;have⟨c0,_⟩:=lr (off:=0) (ks C) K;rw[iR]at c0;have aO:=gc C fX;have V:=ag _<|kK K;have⟨p,s⟩:=oX<|E[k].1;rw[<-s]at c0 V;have t:=Dk p d wr V;have bu:(k:Int)<(n:Int):=by omega
   cases c:wl p d with
   |false=>
    rw[c]at t;have M:fe _:=t;have D:fe (fU (E.take<|k+1) d=fU (E.take k) d):=FF K (by rw[<-s];exact c);clear t c s r C j;go_wp2_with fail;refine Hk M.o λN f=>?_
    have W:=B.trans<|f.mono R;have aP:fe (N.ownsRow w.heap.size 112 3 (fy g a h) a<|flat (fU (E.take<|k+1) d)):=by show World.ownsRow _ _ _ _ _ _ _;rw[D.o];exact gg q.o λL aQ=>f.block L<|gc q.o aQ
    go_wp2;go_roundw
    case rel=>exact⟨k+1,a,g,h,by omega,by go_num,rfl,by omega,W,by show _=_;rw[D.o];exact I.o,aP.o⟩
    case measure=>simp[intOf];omega
   |true=>
    rw[c]at t;have M:fe _:=t;have D:fe (fU (E.take<|k+1) d=fU (E.take k) d++[(sr p,0,0)]):=Hc<|by rw[Ip K (by rw[<-s];exact c),s]
    have aR:0<(jz p).1.length:=by unfold wl at c;rw[EI]at c;exact Cb c.1
    have bv:fe (gm F wr S (fh<|ie L 0) da nc dc E data rest):=j;clear t c s r C j;go_wp2_with fail;refine Hk M.o λN f=>?_;have W:ju w N:=B.trans<|f.mono R;have bw:=(f.cell (p:=(ie S 0)) aM).trans ai;have bx:=(f.cell (p:=(ie L<|k*3)) aO).trans c0;have bz:=f.size;have aj:fe _:=kY p N V;go_wp2_with fail;apply Ps aj.o;rintro _ O ⟨v,rfl,P,X⟩;obtain⟨aS,aT,rfl⟩:=pp P;have⟨bA,bB,r⟩:=hh P aR;have T:=(lK r).1;subst T;obtain⟨m,ak⟩:∃m:Nat,(jz p).1.length=m+1:=⟨(jz p).1.length-1,by omega⟩;have al:fe (sr p=(jz p).1[m]):=Hc<|by unfold sr;rw[yN,show(jz p).1.length-1=m by omega,jG<|by omega];rfl
    have⟨bC,aU,bD,aV,_⟩:=row_one (tR P<|Fr _) (i:=m) (v:=fA<|sr p) (by rw[al.o];simp[gN,ak]);cases aU;obtain⟨y,o⟩:=oX<|sr p;rw[<-o]at aV;have Y:fe (y=sr p):=o;obtain⟨sl,am⟩:=oX<|(jz p).1.length;have aW:sl=m+1:=by omega
    have bE:sl<=2097153:=by have:=uG p;omega
    rw[<-am];have bF:(sl:Int)-1=(m:Int):=by omega
    have bG:(m:Int)<(sl:Int):=(by omega);have an:fe (O.ownsRow w.heap.size 112 3 (fy g a h) a<|flat (fU (E.take k) d)):=gg q.o (λx aX=>by have:=gc q.o aX;rw[X.block x<|by omega,f.block x this]);have aY:ju w O:=W.trans<|X.mono (by omega);have bH:=X.size;clear al P r ak o am aW aj M;go_wp2_with(at_builtin;refine yO _ fX (.tmp 44) (.tmp 52) 106 fX w.heap.size 112 aD _ 3 32 underlying106 aE aF aG aH fX (by decide) _ _ _ fX (an.o.alloc _) (ie O.heap.size 0) 1 1 (pB (y,0,0)) fX fX (ub O (y,0,0) _ _ fX) (se _) (by unfold maxLen;omega) (by omega) (by simp;omega) ?_);intro aZ ao u G _;have bb:ju w ao:=Hm (aY.alloc (by omega) _) (by simp;omega) (an.alloc _) G;obtain⟨ap,aq,rfl⟩:=pp u;have bc:fe (ao.ownsRow w.heap.size 112 3 (fy ap (a+1) aq) (a+1)<|flat (fU (E.take<|k+1) d)):=by show World.ownsRow _ _ _ _ _ _ _;rw[D.o,ra,tz,<-Y.o];exact u
    clear u G;go_wp2;go_roundw
    case rel=>exact⟨k+1,a+1,ap,aq,by omega,by go_num,rfl,by omega,bb,by show _=_;rw[D.o,I.o];simp,bc⟩
    case measure=>simp[intOf];omega
  have bd:k=n:=by omega
  have be:fe (E.take k=E):=oM (by have:=A.o;omega);rw[be.o]at I q;have bI:a<=16:=by have:=ah.o;rw[<-I.o]at this;exact this
  have ar:=zy g a h (fU E d) wr (iz q) (by omega)<|Oo E d;have au:=ar;have bJ:=yv (by omega);rename fq=>bK;clear ar j bd;go_wp2_with fail;apply Ps au;rintro _ z ⟨v,rfl,Z,av⟩;obtain⟨aS,aT,rfl⟩:=pp Z;have H:fe _:=Z;have bf:=B.trans<|av.mono R;have bL:=av.size;clear Z au;have⟨xs,aa⟩:=oX<|gY (fU E d);rw[<-aa]at H;have aw:fe (ij E d=xs.map (·.1)):=Hc<|by unfold ij;rw[aa]
  have ab:fe (fv xs=a):=Hc<|by have:=H.1;rw[ly]at this;omega
  clear aa;go_wp2
  go_loopw [10,11] (λbg i wr=>∃(b:Nat) (Q:(Option Addr)) (co:Nat),b<=a/\i=.int .i64 (b:Int)/\bg=fy Q b co/\ju z wr/\fe (wr.ownsRow z.heap.size 9 1 (fy Q b co) b (gN ((xs.take b).map (·.1))))) (λ_ i _=>a-(intOf i).toNat)
  case atStart=>exact⟨0,fj,0,Fr _,rfl,rfl,mi _ _,jY _ _ _ _⟩
  case round=>
   obtain⟨b,Q,co,bM,rfl,rfl,hbr,ac⟩:=hrel;have bh:=hbr.size;by_cases bi:b<a
   ·have ax:b<fv xs:=by rw[ab.o];exact bi
    have⟨ad,bN,ay⟩:=hh H.o (by omega);have bj:=(lK ay).1;subst bj;have bk:ad<z.heap.size:=gc H.o fX;have⟨ae,_,_⟩:=lr (off:=0) (ks H.o) ax;rw[iR]at ae;have bl:=(hbr.cell (p:=(ie ad<|b*3)) bk).trans ae;have bO:ad<wr.heap.size:=by omega
    obtain⟨y,o⟩:=oX<|xs[b].1;rw[<-o]at bl;have Y:fe (y=xs[b].1):=o;have bQ:(b:Int)<(a:Int):=by omega
    clear ae ay o;go_wp2_with(at_builtin;refine yO _ fX (.tmp 62) (.tmp 68) 131 fX z.heap.size 9 aI _ 1 16 underlying131 U aJ aK aL fX (by decide) _ _ _ fX (ac.o.alloc _) (ie wr.heap.size 0) 1 1 [hZ y] fX fX (one_cell _ _ _ _ fX) Bi (by unfold maxLen;omega) (by omega) (by simp;omega) ?_);intro aZ az u G _;have bm:ju z az:=Hm (hbr.alloc bh _) (by simp;omega) (ac.alloc _) G;obtain⟨aA,aB,rfl⟩:=pp u;have bn:fe (az.ownsRow z.heap.size 9 1 (fy aA (b+1) aB) (b+1) (gN ((xs.take<|b+1).map (·.1)))):=by
     rwa [vv ax,nZ,gN,nZ,lM,Cf,lM,Cf,<-Y.o,Wx]
    clear u G;go_wp2;go_roundw
    case rel=>exact⟨b+1,aA,aB,by omega,by go_num,rfl,bm,bn⟩
    case measure=>simp[intOf];omega
   have bR:=yv (by omega);have bo:fe (b=a):=Hc<|by omega
   have bp:fe ((xs.take b).map (·.1)=ij E d):=Hc<|by rw[aw.o,oM (by rw[ab.o];omega)]
   have bq:fe (fv (ij E d)=b):=Hc<|by rw[aw.o,oL,ab.o,bo.o]
   go_wp2;go_ret;refine⟨fy Q b co,fX,?_,bf.trans<|hbr.mono (by omega)⟩;rw[bq.o,<-bp.o];exact tR ac<|by omega
structure qE (nodes:List fV)(data:fQ):Prop where
 big:nodes.length<=1000000000
 small:∀e∈nodes,e.1.size<=2097152
 few:∀d,(fU nodes d).length<=16
 files:∀e∈nodes,e.2.1=1->0<=e.2.2/\e.2.2<(data.length:Int)
def FI(Y):fv (gY Y)=fv Y:=(kG Y).length_eq
theorem ru(E)(d):fv (ij E d)=fv (fU E d):=by
 unfold ij;rw[oL,FI]
def xu (E:List fV)(l:fQ):Int:=
 if ig E (l.take<|fv l-1)≠0 then ig E (l.take<|fv l-1)else if ol E (fG<|l.take (fv l-1))≠2 then 5 else 0
def ki (E:List fV)(p:fO):fQ×Int:=
 if(jz p).2=fo then([],1)else if ig E (jz p).1≠0 then([],ig E (jz p).1)else if ol E p≠2 then([],5) else(ij E p,0)
theorem uH(c:gm F w S na da nc dc E data rest)(a:qE E data)(d):
  ik 154 #[ii S,hZ d] w (vd (fY (fv (fU E d):Int)) w):=by
 have b:=Cy c d a.big a.small<|a.few d;rw[ru]at b;have⟨n,e⟩:=oX<|fv (fU E d);rw[<-e]at b |-;have g:=b;clear b c a e;go_enter func154,ntmps154;go_wp2_with fail;apply Ps g;rintro _ i ⟨j,rfl,f,h⟩;obtain⟨k,l,rfl⟩:=pp f;clear f;go_wp2;go_ret;exact⟨fX,h⟩
theorem Sy(n:gm F w S na da nc dc E data rest)(o:qE E data)(a)(m c:Nat)(l)(g:lC w a m l)(q:∀x∈l,x.size<=12)(L:m<=2097152)(D:0<m)(M:m<=c):
  ik 158 #[ii S,fy a m c] w (UV (fC #[hZ<|fG (l.take<|fv l-1),fY<|xu E l]) w):=by
 have⟨b,off,G,N,_⟩:=g.2 D;subst G;obtain⟨k,H⟩:∃k:Nat,m=k+1:=⟨m-1,by omega⟩;have r:=FE (fh<|ie b off) k c (l.take k) w (g.take k<|by omega) (λx s=>q x<|Aw s) (by omega);have t:=Bk n (fh<|ie b off) k c (l.take k) (g.take k<|by omega) (λx s=>q x<|Aw s) (by omega) (by omega) o.big;have i:=pN n (fG<|l.take k) o.big;have u:fv l-1=k:=by have:=g.1;omega
 have f:fe (xu E l=if ig E (l.take k)≠0 then ig E (l.take k)else if ol E (fG<|l.take k)≠2 then 5 else 0):=Hc<|by unfold xu;rw[u]
 rw[u];obtain⟨p,y⟩:=oX<|fG (l.take k);have⟨e,z⟩:=oX<|ig E (l.take k);rw[<-y]at r i f |-;obtain⟨v,A⟩:=oX<|ol E p;rw[<-z]at t f;rw[<-A]at i f;have B:fe _:=r;have C:fe _:=t;have I:fe _:=i;have O:(m:Int)-1=(k:Int):=by omega
 clear r t i y z A u g q n o H;by_cases d:e=0
 ·have J:(e != 0)=fo:=by simp[d]
  by_cases h:v=2
  case' pos=>
   have K:(v != 2)=fo:=by simp[h]
   have j:fe (xu E l=0):=Hc<|by rw[f.o,km (by simp[d]),km (by simp[h])]
  case' neg=>
   have K:(v != 2)=fm:=by simp[h]
   have j:fe (xu E l=5):=Hc<|by rw[f.o,km (by simp[d]),lv h]
  all_goals
   clear d h;go_enter func158,ntmps158;go_wp2_with fail;refine tB B.o ?_;go_wp2_with fail;refine tB C.o ?_;go_wp2_with fail;refine tB I.o ?_;go_wp2;go_ret2;exact⟨by rw[j.o];rfl,fX⟩
 have J:(e != 0)=fm:=by simp[d]
 have j:fe (xu E l=e):=Hc<|by rw[f.o,lv d]
 clear d;go_enter func158,ntmps158;go_wp2_with fail;apply tB B.o;go_wp2_with fail;apply tB C.o;go_wp2;go_ret2;exact⟨by rw[j.o];rfl,fX⟩
def jL{b}(a:(jz b).2=fm):(jz b).1.length<=5:=by
 unfold jz at a |-;split at a
 ·next h0=>rw[lv h0];exact Fr _
 next h0=>
 rw[km h0];split at a
 ·next h1=>rw[lv h1];exact Cb a
 cases a
theorem XC(r:gm F w S na da nc dc E data rest)(c:qE E data)(p:fO)(D:p.size<=2097152):
  ik 91 #[ii S,hZ p] w λe J=>∃h,e=qr #[h,fY (ki E p).2]/\J.ownsRow w.heap.size 9 1 h (ki E p).1.length (gN (ki E p).1)/\ju w J:=by
 have a:=kY p w D;have s:=jK p;cases d:(jz p).2 with
 |false=>
  have f:fe (ki E p=([],1)):=Hc<|by unfold ki;rw[lv d]
  rw[d]at a;have m:fe _:=a;clear a d r c;go_enter func91,ntmps91;go_wp2_with fail;apply Ps m;rintro _ G ⟨h,rfl,i,g⟩;clear i;go_wp2;go_ret2;rw[f.o];exact⟨_,fX,jY _ _ _ _,g⟩
 |true=>
  have v:=jL d;rw[d]at a;have⟨xs,t⟩:=oX<|(jz p).1;have k:fe (ki E p=if ig E xs≠0 then([],ig E xs)else if ol E p≠2 then([],5) else(ij E p,0)):=Hc<|by unfold ki;rw[km (by rw[d];decide),t]
  rw[<-t]at a s v;obtain⟨n,x⟩:=oX<|fv xs;rw[<-x]at a v;have m:fe _:=a
  change fe _ at s r c
  clear a d t x;go_enter func91,ntmps91;go_wp2_with fail;apply Ps m;rintro _ G ⟨h,rfl,i,g⟩;obtain⟨H,I,rfl⟩:=pp i;have o:=r.below g;have l:=Bk o H n I xs (WF i) s (by omega) (nM i) c.big;have q:=pN o p c.big;have y:=Cy o p c.big c.small<|c.few p;have⟨e,z⟩:=oX<|ig E xs;obtain⟨u,A⟩:=oX<|ol E p;rw[<-z]at l k;rw[<-A]at q k;have B:=g.size
  change fe _ at l q y
  clear z A i o m;by_cases b:e=0
  ·have K:(e != 0)=fo:=by simp[b]
   by_cases j:u=2
   ·have L:(u != 2)=fo:=by simp[j]
    have f:fe (ki E p=(ij E p,0)):=Hc<|by rw[k.o,km (by simp[b]),km (by simp[j])]
    clear b j;go_wp2_with fail;refine tB l ?_;go_wp2_with fail;refine tB q ?_;go_wp2_with fail;apply Ps y;rintro _ N ⟨h,rfl,C,M⟩
    change fe _ at C
    go_wp2;go_ret2;rw[f.o];exact⟨h,fX,tR C B,g.trans<|M.mono B⟩
   have L:(u != 2)=fm:=by simp[j]
   have f:fe (ki E p=([],5)):=Hc<|by rw[k.o,km (by simp[b]),lv j]
   clear b j;go_wp2_with fail;refine tB l ?_;go_wp2_with fail;refine tB q ?_;go_wp2;go_ret2;rw[f.o];exact⟨_,fX,jY _ _ _ _,g⟩
  have K:(e != 0)=fm:=by simp[b]
  have f:fe (ki E p=([],e)):=Hc<|by rw[k.o,lv b]
  clear b;go_wp2_with fail;refine tB l ?_;go_wp2;go_ret2;rw[f.o];exact⟨_,fX,jY _ _ _ _,g⟩
def Do (p t:fO):Bool:=if a:t.size+1<p.size then((p.extract 0 t.size).toList==t.toList)&&decide (p[t.size]'(by omega)=47)else fo
def vx (E:List fV)(p:fO):List fV:=E.filter λe=>!(e.1.toList==p.toList)&&!(Do e.1 p)
theorem uI(p t:fO)(w:fq)(g:p.size<=2097152)(h:t.size<=2097152):
  ik 161 #[hZ p,hZ t] w (UV (fE<|Do p t) w):=by
 by_cases c:t.size+1<p.size
 ·have i:(t.size:Int)+1<(p.size:Int):=by omega
  cases d:((p.extract 0 t.size).toList==t.toList) with
  |true=>
   by_cases b:p[t.size]=47
   case' pos=>
    have f:((p[t.size].toNat:Int)==47)=fm:=by rw[b];rfl
    have a:fe (Do p t=fm):=Hc<|by unfold Do;rw[dif_pos c,d,iE b];rfl
   case' neg=>
    have f:((p[t.size].toNat:Int)==47)=fo:=EF.2 λe=>b<|crc.1 (by have:(47:UInt8).toNat=47:=fX;omega);have a:fe (Do p t=fo):=Hc<|by unfold Do;rw[dif_pos c,d,yv b];rfl
   all_goals
    clear b;go_enter func161,ntmps161;go_wp2;go_ret;exact⟨by rw[a.o];rfl,fX⟩
  |false=>
   have a:fe (Do p t=fo):=Hc<|by unfold Do;rw[dif_pos c,d];rfl
   go_enter func161,ntmps161;go_wp2;go_ret;exact⟨by rw[a.o];rfl,fX⟩
 have a:fe (Do p t=fo):=Hc<|by unfold Do;rw[dif_neg c]
 go_enter func161,ntmps161;go_wp2;go_ret;exact⟨by rw[a.o];rfl,fX⟩
def gl (F:Nat->Prop)(w:fq)(S:Nat)(E:List fV)(data:fQ)(rest:gX):Prop:=∃na nc da dc,gm F w S na da nc dc E data rest
theorem LD(a:k<fv E)(b:(!(E[k].1.toList==p.toList)&&!(Do E[k].1 p))=fm):vx (E.take<|k+1) p=vx (E.take k) p++[E[k]]:=by
 grind [vx,vv]
theorem ze(a:k<fv E)(b:(!(E[k].1.toList==p.toList)&&!(Do E[k].1 p))=fo):vx (E.take<|k+1) p=vx (E.take k) p:=by
 grind [vx,vv]
def uJ:(prog.info? 200).map (λi=>(i.zero,i.size,i.bytes))=fh (fh<|fD #[hZ ByteArray.empty,fY 0,fY 0],3,32):=by kernel_rfl
theorem gm.Oq(d:gm F w S na da nc dc E data rest){wr}(f:ju w wr){h}{g co:Nat}{M:List fV}(l:g=fv M)(i:wr.ownsRow w.heap.size 200 3 (fy h g co) g (flat M)):
  gl (kB F w<|wr.setCell (ie S 0) (fy h g co)) (wr.setCell (ie S 0)<|fy h g co) S M data rest/\fH F w (wr.setCell (ie S 0)<|fy h g co):=by
 subst l;have m:=(f.block S d.lt).trans d.hS;have o:=f.size;have p:∀{t:ni}{b z n:Nat}{j:fu}{xs:gX},wr.ownsRow b t z j n xs->179≠t->∀a,j.ownBlock=fh a->a≠S:=λq r a c e=>il q m r (by grind)
 refine⟨⟨h,co,da,dc,⟨.inl d.fS,?_,tR (gg i λa c=>sI _ _ _ _<|p i (by decide) a c)<|Fr _,?_,?_,?_⟩⟩,⟨f.os,f.tape,f.output,by simpa using o,λk s u=>?_⟩⟩
 grind [World.setCell]
 have v:=gg d.jm λa c=>f.block a<|gc d.jm c
 grind [gg,sI,decide]
 intro a c
 have:=i.lt a c
 exact .inr ⟨this.1,by simpa using this.2⟩;intro a c;exact .inl<|d.fd a c;rw[sI _ _ _ _ λe=>u (by rw[show k=S from e];exact d.fS),f.block k s]
theorem Ot(u:gm F w S na da nc dc E data rest)(v:qE E data)(p:ByteArray)(I:p.size<=2097152):
  ik 160 #[ii S,hZ p] w λe J=>e=qr #[]/\gl (kB F w J) J S (vx E p) data rest/\fH F w J:=by
 have⟨K,U,L,M,N⟩:=kM uJ;have⟨n,m⟩:=oX<|fv E;have aa:n<=1000000000:=by rw[m];exact v.big
 change fe _ at u v m
 go_enter func160,ntmps160;go_wp2
 go_loopw [4,5] (λO i wr=>∃(k a:Nat) (o:(Option Addr)) (co:Nat),k<=n/\i=.int .i64 (k:Int)/\O=fy o a co/\a<=k/\ju w wr/\fe (a=fv (vx (E.take k) p))/\fe (wr.ownsRow w.heap.size 200 3 (fy o a co) a<|flat (vx (E.take k) p))) (λ_ i _=>n-(intOf i).toNat)
 case atStart=>exact⟨0,0,fj,0,Fr _,rfl,rfl,lw _,mi _ _,rfl,jY _ _ _ _⟩
 case round=>
  obtain⟨k,a,o,co,ab,rfl,rfl,ac,g,q,h⟩:=hrel;have b:=u.below g;have P:=b.c0;have ad:=b.lt;rw[<-m.o]at P;have Q:=g.size;by_cases R:k<n
  ·have r:k<fv E:=by rw[<-m.o];exact R
   have j:=b.lU;have⟨ae,af,t⟩:=hh j (by omega);have T:=(lK t).1;subst T;have⟨c0,c1,c2⟩:=lr (off:=0) (ks j) r;rw[iR]at c0 c1 c2;have ag:=gc j fX;have A:=v.small _<|kK r;obtain⟨x,c⟩:=oX<|E[k];rw[<-c]at c0 c1 c2 A;have f:=uI x.1 p wr A I;have ah:(k:Int)<(n:Int):=by omega
   cases s:(x.1.toList==p.toList) with
   |true=>
    have V:(x.1.toList != p.toList)=fo:=by rw[bne,s];rfl
    have d:fe (vx (E.take<|k+1) p=vx (E.take k) p):=ze r (by rw[<-c,s];rfl);clear f c t j b;go_wp2;go_roundw
    case rel=>exact⟨k+1,a,o,co,by omega,by go_num,rfl,by omega,g,by show _=_;rw[d.o];exact q,by show World.ownsRow _ _ _ _ _ _ _;rw[d.o];exact h⟩
    case measure=>simp[intOf];omega
   |false=>
    have V:(x.1.toList != p.toList)=fm:=by rw[bne,s];rfl
    cases l:Do x.1 p with
    |true=>
     have d:fe (vx (E.take<|k+1) p=vx (E.take k) p):=ze r (by rw[<-c,s,l];rfl);rw[l]at f;have y:fe _:=f;clear f c t j b l;go_wp2_with fail;apply tB y.o;go_wp2;go_roundw
     case rel=>exact⟨k+1,a,o,co,by omega,by go_num,rfl,by omega,g,by show _=_;rw[d.o];exact q,by show World.ownsRow _ _ _ _ _ _ _;rw[d.o];exact h⟩
     case measure=>simp[intOf];omega
    |false=>
     have d:fe (vx (E.take<|k+1) p=vx (E.take k) p++[x]):=Hc<|by rw[LD r (by rw[<-c,s,l];rfl),<-c]
     rw[l]at f;have y:fe _:=f;clear f c t j b l;go_wp2_with fail;apply tB y.o;rename fq=>B
     go_wp2_with(at_builtin;refine yO _ fX (.tmp 33) (.tmp 41) 174 fX w.heap.size 200 K _ 3 32 underlying174 U L M N fX (by decide) _ _ _ fX (h.alloc _) (ie B.heap.size 0) 1 1 (pB x) fX fX (ub B x _ _ fX) (se _) (by unfold maxLen;omega) (by omega) (by simp;omega) ?_);intro ai C z D _;have W:ju w C:=Hm (g.alloc Q _) (by simp;omega) (h.alloc _) D;obtain⟨G,H,rfl⟩:=pp z;have X:fe (C.ownsRow w.heap.size 200 3 (fy G (a+1) H) (a+1)<|flat (vx (E.take<|k+1) p)):=by show World.ownsRow _ _ _ _ _ _ _;rw[d.o,ra,tz];exact z
     clear z D;go_wp2;go_roundw
     case rel=>exact⟨k+1,a+1,G,H,by omega,by go_num,rfl,by omega,W,by show _=_;rw[d.o,q.o];simp,X⟩
     case measure=>simp[intOf];omega
  have Y:fe (E.take k=E):=oM (by have:=m.o;omega);rw[Y.o]at q h;have aj:wr.frozen? (ie S 0)=fo:=by simp[World.frozen?,b.hS]
  have Z:fe _:=u.Oq g q h;clear b;go_wp2;go_end0;exact⟨fX,Z⟩
def rx (E:List fV)(p:fO):List fV×Int:=
 if(jz p).2=fo then(E,1)else if(jz p).1.length=0 then(E,9)else if ig E (jz p).1≠0 then(E,ig E (jz p).1)else if 0<fv (fU E p) then(E,8) else(vx E p,0)
def yr (E:List fV)(p:fO):List fV×Int:=
 if(jz p).2=fo then(E,1)else if(jz p).1.length=0 then(E,6)else if xu E (jz p).1≠0 then(E,xu E (jz p).1)else if ol E p≠0 then(E,6)
 else if 16<=fv (fU E<|fG ((jz p).1.take<|(jz p).1.length-1)) then(E,11) else(E++[(p,2,0)],0)
theorem gl.below(a:gl F w S E data rest)(b:ju w J):gl (kB F w J) J S E data rest:=by
 have⟨na,nc,da,dc,a⟩:=a;exact⟨na,nc,da,dc,(a.below b).keep (λ_ a=>.inl a) λ_ _=>rfl⟩
theorem Ou(g:gm F w S na da nc dc E data rest)(C:qE E data)(p:fO)(D:p.size<=2097152):
  ik 96 #[ii S,hZ p] w λe J=>e=fF (fY (rx E p).2)/\gl (kB F w J) J S (rx E p).1 data rest/\fH F w J:=by
 have d:=kY p w D;have y:=jK p;have R:fe (gm F w S na da nc dc E data rest):=g;have z:fe (qE E data):=C;have q:fe (∀J,ju w J->gl (kB F w J) J S E data rest/\fH F w J):=λJ a=>⟨gl.below ⟨na,nc,da,dc,g⟩ a,fH.fK a⟩;clear g C;cases h:(jz p).2 with
 |false=>
  have c:fe (rx E p=(E,1)):=Hc<|by unfold rx;rw[lv h]
  rw[h]at d;have l:fe _:=d;clear d h;go_enter func96,ntmps96;go_wp2_with fail;apply Ps l;rintro _ T ⟨U,rfl,i,a⟩;clear i;go_wp2;go_ret;rw[c.o];exact⟨fX,q _ a⟩
 |true=>
  have G:=jL h;rw[h]at d;obtain⟨xs,A⟩:=oX<|(jz p).1;have j:fe (rx E p=if fv xs=0 then(E,9)else if ig E xs≠0 then(E,ig E xs)else if 0<fv (fU E p) then(E,8) else(vx E p,0)):=Hc<|by unfold rx;rw[km (by rw[h];decide),A]
  rw[<-A]at d y G;have V:fe (∀x∈xs,x.size<=12):=y;obtain⟨n,H⟩:=oX<|fv xs;rw[<-H]at d G j;have l:fe _:=d;clear d h A y H;go_enter func96,ntmps96;go_wp2_with fail;apply Ps l;rintro _ T ⟨U,rfl,i,a⟩;obtain⟨W,X,rfl⟩:=pp i;have Y:=nM i;have m:=R.below a;have I:=a.size;by_cases b:n=0
  ·have c:fe (rx E p=(E,9)):=Hc<|by rw[j.o,lv b]
   have Z:((n:Int)==0)=fm:=by simp[b]
   clear b i m l;go_wp2;go_ret;rw[c.o];exact⟨fX,q _ a⟩
  have Z:((n:Int)==0)=fo:=by simp[b]
  have o:=Bk m W n X xs (WF i) V (by omega) Y z.big;have r:=uH m z p;obtain⟨e,K⟩:=oX<|ig E xs;obtain⟨s,L⟩:=oX<|fv (fU E p);rw[<-K]at o j;rw[<-L]at r j
  change fe _ at o r m
  clear K L i l;by_cases f:e=0
  ·have aa:(e != 0)=fo:=by simp[f]
   by_cases t:0<s
   ·have M:(0:Int)<(s:Int):=by omega
    have c:fe (rx E p=(E,8)):=Hc<|by rw[j.o,km b,km (by simp[f]),lv t]
    clear f t b;go_wp2_with fail;refine tB o ?_;go_wp2_with fail;refine Hk r λN u=>?_
    go_wp2;go_ret;rw[c.o];exact⟨fX,q _<|a.trans (u.mono I)⟩
   have M:decide ((0:Int)<(s:Int))=fo:=yv (by omega);have c:fe (rx E p=(vx E p,0)):=Hc<|by rw[j.o,km b,km (by simp[f]),km t]
   obtain rfl:s=0:=by omega
   clear f t b M;go_wp2_with fail;refine tB o ?_;go_wp2_with fail;refine Hk r λN u=>?_
   have O:ju w N:=a.trans<|u.mono I;have P:fe _:=Ot (gm.below m u) z p D;go_wp2_with fail;refine Hk P.o λB⟨v,Q⟩=>?_;have ah:=O.size;have ab:fe (gl (kB F w B) B S (vx E p) data rest/\fH F w B):=by
    have⟨ac,ad,ae,af,v⟩:=v;exact⟨⟨ac,ad,ae,af,v.keep (λk ag=>by rcases ag with g|g;exact .inl g;exact .inr ⟨by omega,g.2⟩) λ_ _=>rfl⟩,fH.after Q O⟩
   clear v Q P;go_wp2;go_ret;rw[c.o];exact⟨fX,ab⟩
  have aa:(e != 0)=fm:=by simp[f]
  have c:fe (rx E p=(E,e)):=Hc<|by rw[j.o,km b,lv f]
  clear f b;go_wp2_with fail;refine tB o ?_;go_wp2;go_ret;rw[c.o];exact⟨fX,q _ a⟩
theorem gm.push(a:gm F w S na da nc dc E data rest){b c:Nat}{x}(f:J.heap[S]?=fh (.cells ((Value.slice na (fv E) nc::Value.slice da (fv data) dc::rest).toArray.setIfInBounds 0<|my b 0 (fv E+1) c) 179 (0,0))/\
   J.ownsRow 0 200 3 (my b 0 (fv E+1) c) (fv E+1) (flat E++pB x)/\((fh b:Option Nat)=(Value.slice na (fv E) nc).ownBlock\/w.heap.size<=b)/\fH (λk=>k=S\/fh k=(Value.slice na (fv E) nc).ownBlock) w J):
  gl (kB F w J) J S (E++[x]) data rest/\fH F w J:=by
 have⟨j,g,h,e⟩:=f;have i:fv (E++[x])=fv E+1:=by simp
 refine⟨⟨fh<|ie b 0,c,da,dc,⟨.inl a.fS,?_,?_,nC a.jm e a.hS (by decide) λb d=>PH a.jm a.lU (by decide) d,?_,?_⟩⟩,uv e a.fS a.fn⟩
 grind
 grind [ra,tz]
 rw[i];exact AH g h a.fn;intro b d;exact .inl<|a.fd b d
theorem Sz(l:gm F w S na da nc dc E data rest)(T:qE E data)(p:fO)(ah:p.size<=2097152):
  ik 95 #[ii S,hZ p] w λe J=>e=fF (fY (yr E p).2)/\gl (kB F w J) J S (yr E p).1 data rest/\fH F w J:=by
 have⟨ai,U,aj,ak,al⟩:=kM uJ;have g:=kY p w ah;have I:=jK p;have am:fe (gm F w S na da nc dc E data rest):=l;have C:fe (qE E data):=T;have x:fe (∀J,ju w J->gl (kB F w J) J S E data rest/\fH F w J):=λJ a=>⟨gl.below ⟨na,nc,da,dc,l⟩ a,fH.fK a⟩;clear l T;cases o:(jz p).2 with
 |false=>
  have b:fe (yr E p=(E,1)):=Hc<|by unfold yr;rw[lv o]
  rw[o]at g;have y:fe _:=g;clear g o;go_enter func95,ntmps95;go_wp2_with fail;apply Ps y;rintro _ an ⟨ao,rfl,q,a⟩;clear q;go_wp2;go_ret;rw[b.o];exact⟨fX,x _ a⟩
 |true=>
  have V:=jL o;rw[o]at g;obtain⟨xs,K⟩:=oX<|(jz p).1;have d:fe (yr E p=if fv xs=0 then(E,6)else if xu E xs≠0 then(E,xu E xs)else if ol E p≠0 then(E,6)else if 16<=fv (fU E<|fG (xs.take<|fv xs-1)) then(E,11) else(E++[(p,2,0)],0)):=by
   show _=_;unfold yr;rw[km (by rw[o];decide),K]
  rw[<-K]at g I V;obtain⟨W,L⟩:=oX<|fG (xs.take<|fv xs-1);rw[<-L]at d;obtain⟨n,X⟩:=oX<|fv xs;rw[<-X]at g V d;have y:fe _:=g
  change fe _ at I L
  clear g o K X;go_enter func95,ntmps95;go_wp2_with fail;apply Ps y;rintro _ an ⟨ao,rfl,q,a⟩;obtain⟨ap,aq,rfl⟩:=pp q;have ar:=nM q;have u:=am.below a;have M:=a.size;by_cases c:n=0
  ·have b:fe (yr E p=(E,6)):=Hc<|by rw[d.o,lv c]
   subst c;clear q u y;go_wp2;go_ret;rw[b.o];exact⟨fX,x _ a⟩
  have aG:((n:Int)==0)=fo:=by simp[c]
  have r:=Sy u C ap n aq xs (WF q) I (by omega) (by omega) ar;rw[<-L.o]at r;have z:=pN u p C.big;have A:=uH u C W;obtain⟨e,Y⟩:=oX<|xu E xs;obtain⟨N,Z⟩:=oX<|ol E p;obtain⟨D,aa⟩:=oX<|fv (fU E W);rw[<-Y]at r d;rw[<-Z]at z d;rw[<-aa]at A d
  change fe _ at r z A u
  clear Y Z aa q y;by_cases f:e=0
  ·have au:(e != 0)=fo:=by simp[f]
   by_cases h:N=0
   ·have av:(N != 0)=fo:=by simp[h]
    by_cases ab:16<=D
    ·have aw:(16:Int)<=(D:Int):=by omega
     have b:fe (yr E p=(E,11)):=Hc<|by rw[d.o,km c,km (by simp[f]),km (by simp[h]),lv ab]
     clear f h c;go_wp2_with fail;refine tB r ?_;go_wp2_with fail;refine tB z ?_;go_wp2_with fail;refine Hk A λj v=>?_
     go_wp2;go_ret;rw[b.o];exact⟨fX,x _<|a.trans (v.mono M)⟩
    have aw:decide ((16:Int)<=(D:Int))=fo:=yv (by omega);have aH:¬(16:Int)<=(D:Int):=by omega
    have b:fe (yr E p=(E++[(p,2,0)],0)):=Hc<|by rw[d.o,km c,km (by simp[f]),km (by simp[h]),km ab]
    clear f h c;go_wp2_with fail;refine tB r ?_;go_wp2_with fail;refine tB z ?_;go_wp2_with fail;refine Hk A λj v=>?_
    have ac:ju w j:=a.trans<|v.mono M;have B:=gm.below u v;have ax:=B.c0;have aI:=B.lt;obtain⟨m,s⟩:=oX<|fv E;have aJ:m<=1000000000:=by rw[s];exact C.big
    have ad:fe (m=fv E):=s;have O:fe (j.ownsRow 0 200 3 (fy na m nc) m<|flat E):=by rw[s];exact B.lU
    have ae:fe (gm F j S na da nc dc E data rest):=B;rw[<-s]at ax;clear B s;go_wp2_with(at_builtin;refine yi fX (.tmp 44) (.tmp 47) 174 fX 0 200 ai _ 3 32 underlying174 U aj ak al fX (by decide) (fy na m nc) m (flat E) fX (rJ O _) (ie j.heap.size 0) 1 1 (pB (p,2,0)) fX fX (ub j (p,2,0) _ _ fX) (se _) (by unfold maxLen;omega) (by omega) (Fr _) ?_);intro aK t P G af;obtain⟨Q,c3,rfl⟩:=hh P (by omega);have H:=ae.hS;have R:=mX H (Sx _ _) (by simp) G<|il O H (by decide);have aL:j.heap.size<=t.heap.size:=by have:=G.size;simp at this;omega
    have aM:t.c S 0=fh (fy na m nc):=by rw[ad.o];simp[World.cell?,R]
    have aN:t.frozen? (ie S 0)=fo:=(by simp[World.frozen?,R]);have aO:S<t.heap.size:=by omega
    have ag:=jh (i:=0) H O (by decide) (Sx _ _) (by simp) ⟨fX,fX,fX⟩ P G af (by simp);have ay:fe (gl (kB F w<|t.setCell (ie S 0) (my Q 0 (m+1) c3)) (t.setCell (ie S 0)<|my Q 0 (m+1) c3) S (E++[(p,2,0)]) data rest/\fH F w (t.setCell (ie S 0)<|my Q 0 (m+1) c3)):=by
     have s:=ad.o;subst s;have⟨⟨az,aA,aB,aC,aD⟩,aE⟩:=ae.push ag
     have:=ac.size
     exact⟨⟨az,aA,aB,aC,aD.keep (λk aF=>by rcases aF with l|l;exact .inl l;exact .inr ⟨by omega,l.2⟩) λ_ _=>rfl⟩,fH.after aE ac⟩
    clear P G af ag R H;go_wp2;go_ret;rw[b.o];exact⟨fX,ay⟩
   have av:(N != 0)=fm:=by simp[h]
   have b:fe (yr E p=(E,6)):=Hc<|by rw[d.o,km c,km (by simp[f]),lv h]
   clear f h c;go_wp2_with fail;refine tB r ?_;go_wp2_with fail;refine tB z ?_;go_wp2_with fail;refine Hk A λj v=>?_
   go_wp2;go_ret;rw[b.o];exact⟨fX,x _<|a.trans (v.mono M)⟩
  have au:(e != 0)=fm:=by simp[f]
  have b:fe (yr E p=(E,e)):=Hc<|by rw[d.o,km c,lv f]
  clear f c;go_wp2_with fail;refine tB r ?_;go_wp2;go_ret;rw[b.o];exact⟨fX,x _ a⟩
def oG (E:List fV)(data:fQ)(p:fO):Int×Int:=
 match QQ E p with
 |some i=>if((E[i]?).map (λe:fV=>e.2.1)).getD 0=1 then(1,((data.getD (((E[i]?).map (λe:fV=>e.2.2)).getD 0).toNat ⟨#[]⟩).size:Int)) else(2,(fv (fU E p):Int))
 |none=>(2,(fv (fU E p):Int))
def lV (E:List fV)(data:fQ)(p:fO):(Int×Int)×Int:=
 if(jz p).2=fo then((0,0),1)else if ig E (jz p).1≠0 then((0,0),ig E (jz p).1) else(oG E data p,0)
def Ov(a:QQ E p=fj):oG E data p=(2,(fv (fU E p):Int)):=by unfold oG;rw[a]
theorem SA(a:QQ E p=fh i)(U:i<fv E)(b:E[i].2.1≠1):oG E data p=(2,(fv (fU E p):Int)):=by
 grind [oG,jG]
theorem Ow{i a:Nat}(b:QQ E p=fh i)(U:i<fv E)(c:E[i].2.1=1)(d:E[i].2.2=(a:Int))(e:a<fv data):oG E data p=(1,(data[a].size:Int)):=by
 grind [oG,jG,qI]
theorem XD(M:gm F w S na da nc dc E data rest)(O:qE E data)(p:fO)(ap:p.size<=2097152)(aq:fv data<=1000000000):
  ik 90 #[ii S,hZ p] w (vd (fC #[fD #[fY (lV E data p).1.1,fY (lV E data p).1.2],fY (lV E data p).2]) w):=by
 have ab:∀G,ju w (w.alloc G):=λG=>(mi _ _).alloc (lw _) _;have h:=λG=>kY p (w.alloc G) ap;have P:=jK p;cases t:(jz p).2 with
 |false=>
  have c:fe (lV E data p=((0,0),1)):=Hc<|by unfold lV;rw[lv t]
  rw[t]at h;have H:fe _:=h;clear h t M O;go_enter func90,ntmps90;go_wp2_with fail;apply Ps<|H.o _;rintro _ j ⟨v,rfl,y,a⟩;have k:=(ab _).trans<|a.mono (by simp);have l:=a.cell (p:=(ie w.heap.size 0)) (by simp);have o:=a.cell (p:=(ie w.heap.size 1)) (by simp);have f0:=a.frozen (p:=(ie w.heap.size 0)) (by simp);have f1:=a.frozen (p:=(ie w.heap.size 1)) (by simp);simp at l o f0 f1;have aL:=nz (show w.heap.size<w.heap.size+1 by omega) (by have:=a.size;simpa using this);clear y;go_wp2;rw[c.o];exact oa (v:=fC #[fD #[fY 0,fY 0],fY 1]) (by simp[results,results90,go_sem,l,o]) fX ⟨fX,(k.setCell (lw _) _).setCell (lw _) _⟩
 |true=>
  have ac:=jL t;rw[t]at h;obtain⟨xs,Q⟩:=oX<|(jz p).1;obtain⟨z,ad⟩:=oX<|fv (fU E p);have A:fe (lV E data p=if ig E xs≠0 then((0,0),ig E xs) else(oG E data p,0)):=Hc<|by unfold lV;rw[km (by rw[t];decide),Q]
  rw[<-Q]at h P ac;have ar:fe (∀x∈xs,x.size<=12):=P;have R:fe (z=fv (fU E p)):=ad;have au:fe (gm F w S na da nc dc E data rest):=M;have B:fe (qE E data):=O;obtain⟨n,ae⟩:=oX<|fv xs;rw[<-ae]at h ac;have H:fe _:=h;clear h t Q P M O ae ad;go_enter func90,ntmps90;go_wp2_with fail;apply Ps<|H.o _;rintro _ j ⟨v,rfl,y,a⟩;have k:=(ab _).trans<|a.mono (by simp);have l:=a.cell (p:=(ie w.heap.size 0)) (by simp);have o:=a.cell (p:=(ie w.heap.size 1)) (by simp);have f0:=a.frozen (p:=(ie w.heap.size 0)) (by simp);have f1:=a.frozen (p:=(ie w.heap.size 1)) (by simp);simp at l o f0 f1;have d:w.heap.size<j.heap.size:=nz (show w.heap.size<w.heap.size+1 by omega) (by have:=a.size;simpa using this);have af:=k.size;obtain⟨av,aw,rfl⟩:=pp y;have ax:=nM y;have q:=au.o.below k;have T:=Bk q av n aw xs (WF y) ar.o (by omega) ax B.o.big;have U:=uH q B.o p;rw[<-R.o]at U;have r:=pM na (fv E) nc E p j (iz q.lU) B.o.big;have ay:=q.c0;have az:=q.c1;have aM:=q.lt;obtain⟨m,I⟩:=oX<|fv E;have aN:m<=1000000000:=by rw[I];exact B.o.big
  have aA:fe (m=fv E):=I;rw[<-I]at ay r;obtain⟨ag,V⟩:=oX<|fv data;have aB:fe (ag=fv data):=V;rw[<-V]at az aq;obtain⟨e,ah⟩:=oX<|ig E xs;rw[<-ah]at T A;have J:fe _:=T;have ai:fe _:=U;have aj:fe (gm F j S na da nc dc E data rest):=q;clear T U ah y q H a I V;by_cases f:e=0
  ·have aC:(e != 0)=fo:=by simp[f]
   cases g:QQ E p with
   |none=>
    have c:fe (lV E data p=((2,(z:Int)),0)):=Hc<|by rw[A.o,km (by simp[f]),Ov g,R.o]
    rw[g]at r;have K:fe (ik 106 #[fy na m nc,hZ p] j<|UV (fY<|-1) j):=r;clear f r g;go_wp2_with fail;refine tB J.o ?_;go_wp2_with fail;refine tB K.o ?_;go_wp2_with fail;refine Hk ai.o λC b=>?_
    have W:ju w C:=k.trans<|b.mono af;have X:=(b.cell (p:=(ie w.heap.size 0)) d).trans l;have Y:=(b.cell (p:=(ie w.heap.size 1)) d).trans o;have N:=(b.frozen (p:=(ie w.heap.size 0)) d).trans f0;have aD:=(b.frozen (p:=(ie w.heap.size 1)) d).trans f1;have aE:w.heap.size<C.heap.size:=nz d b.size;go_wp2;rw[c.o];exact oa (v:=fC #[fD #[fY 2,fY (z:Int)],fY 0]) (by simp[results,results90,go_sem,X,Y]) fX ⟨fX,(W.setCell (lw _) _).setCell (lw _) _⟩
   |some i=>
    have L:i<fv E:=(yM.1 g).1;rw[g]at r;have K:fe (ik 106 #[fy na m nc,hZ p] j<|UV (fY (i:Int)) j):=r;have D:=aj.o.lU;have⟨aO,aP,Z⟩:=hh D (by omega);have aF:=(lK Z).1;subst aF;have⟨_,ak,al⟩:=lr (off:=0) (ks D) L;rw[iR]at ak al;have aQ:=gc D fX;have aR:(i:Int)<(m:Int):=by have:=aA.o;omega
    have aS:(0:Int)<=(i:Int):=(by omega);by_cases u:E[i].2.1=1
    ·have⟨aG,aH⟩:=B.o.files _ (kK L) u
     obtain⟨s,aa⟩:∃s:Nat,E[i].2.2=(s:Int):=⟨E[i].2.2.toNat,by omega⟩;have am:s<fv data:=by omega
     have an:=aj.o.jm;have⟨aT,aI,aU,aJ,_⟩:=row_one an (i:=s) (v:=fA data[s]) (by simp[gN,am]);subst aI;have c:fe (lV E data p=((1,(data[s].size:Int)),0)):=by
      show _=_;rw[A.o,km (by simp[f]),Ow g L u aa am]
     rw[u]at ak;rw[aa]at al;obtain⟨aK,ao⟩:=oX<|data[s];rw[<-ao]at aJ c;have aV:(s:Int)<(ag:Int):=by have:=aB.o;omega
     clear f r g D an Z u aa aG aH ao;go_wp2_with fail;refine tB J.o ?_;go_wp2_with fail;refine tB K.o ?_;go_wp2
     go_region
     all_goals
      go_wp2;rw[c.o];exact oa (v:=fC #[fD #[fY 1,fY (aK.size:Int)],fY 0]) (by simp[results,results90,go_sem,l,o]) fX ⟨fX,((k.setCell (lw _) _).setCell (lw _) _).drew⟩
    have aW:(E[i].2.1==1)=fo:=by simpa using u
    have c:fe (lV E data p=((2,(z:Int)),0)):=by
     show _=_;rw[A.o,km (by simp[f]),SA g L u,R.o]
    clear f r g D Z u;go_wp2_with fail;refine tB J.o ?_;go_wp2_with fail;refine tB K.o ?_;go_wp2_with fail;refine Hk ai.o λC b=>?_
    have W:ju w C:=k.trans<|b.mono af;have X:=(b.cell (p:=(ie w.heap.size 0)) d).trans l;have Y:=(b.cell (p:=(ie w.heap.size 1)) d).trans o;have N:=(b.frozen (p:=(ie w.heap.size 0)) d).trans f0;have aD:=(b.frozen (p:=(ie w.heap.size 1)) d).trans f1;have aE:w.heap.size<C.heap.size:=nz d b.size;go_wp2;rw[c.o];exact oa (v:=fC #[fD #[fY 2,fY (z:Int)],fY 0]) (by simp[results,results90,go_sem,X,Y]) fX ⟨fX,(W.setCell (lw _) _).setCell (lw _) _⟩
  have aC:(e != 0)=fm:=by simp[f]
  have c:fe (lV E data p=((0,0),e)):=Hc<|by rw[A.o,lv f]
  clear f;go_wp2_with fail;refine tB J.o ?_;go_wp2;rw[c.o];exact oa (v:=fC #[fD #[fY 0,fY 0],fY e]) (by simp[results,results90,go_sem,l,o]) fX ⟨fX,(k.setCell (lw _) _).setCell (lw _) _⟩
