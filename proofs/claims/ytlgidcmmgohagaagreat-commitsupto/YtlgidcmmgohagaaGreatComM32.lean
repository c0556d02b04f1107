/- A part of the proof. -/
import Derived.Test.YtlgidcmmgohagaaGreatComM31
import Derived.Test.YtlgidcmmgohagaaGreatComM30
set_option linter.all false
namespace Go.Proofs.YtlgidcmmgohagaaGreat
open Go.RowKit Go.Sort Go.Shelf Go.Proofs.Tryz
open Go.Value renaming slice->fy,string->fA,pointer->fB,tuple->fC,agg->fD,bool->fE
open Go.Ending renaming returned->fF
open Option renaming some->fh,none->fj
open Bool renaming true->fm,false->fo
open Go renaming World->fq,Value->fu
open List renaming length->fv,reverse->fx
open Go.RowKit renaming Hid->fe
set_option maxRecDepth 100000
set_option maxHeartbeats 0
variable {R:xP}{N:gF}{w:fq}{B0 W s r p I j n:Nat}{A J:List Ob}{got:List Int}{ws:List Slot}{ds:List Doc}{B:WB}{g:WG}{t:LT}
theorem Wq{w:fq}{e}{c}{a:List jX}(d:w.ownsRow 0 133 2 (fy e (fv a) c) (fv a) (iC a)){k:Nat}(b:k<fv a):∃g,e=fh (ii g 0)/\g<w.heap.size/\w.c g (k*2)=fh (fA a[k].1)/\w.c g (k*2+1)=fh (.int .i64 a[k].2):=by
 have⟨g,l,h⟩:=hZ d (by omega);rw[(lK h).1]at d |-;have f:∀(a:List jX)(k j:Nat)(b:k<fv a),j<2->(iC a)[k*2+j]?=(uf a[k])[j]?:=by
  intro a
  induction a with
  |nil=>intro k j b;cases b
  |cons x r i=>
   intro k j b m;unfold iC at i |-;rw[MZ];cases k with
   |zero=>rw[wk (by show 0*2+j<2;omega)];simp
   |succ k=>
    rw[BU (by show 2<=_;omega),show(k+1)*2+j-fv (uf x)=k*2+j by show(k+1)*2+j-2=_;omega]
    grind
 refine⟨g,fX,gc d fX,?_,?_⟩
 have:=d.cells (g:=g) fX (k*2+0) (fA a[k].1) (by rw[f a k 0 b<|by decide];rfl)
 grind [qc]
 have:=d.cells (g:=g) fX (k*2+1) (.int .i64 a[k].2) (by rw[f a k 1 b<|by decide];rfl)
 grind [qc]
theorem aux(A B)(c d)(a b:List jX)(w:fq)(G:fv a<=1000000000/\fv b<=1000000000)(r:w.ownsRow 0 133 2 (fy A (fv a) c) (fv a) (iC a))(s:w.ownsRow 0 133 2 (fy B (fv b) d) (fv b) (iC b))(t:a=b\/fv a≠fv b):
  ik 55 #[fy A (fv a) c,fy B (fv b) d] w (ut (fE<|decide (a=b)) w):=by
 by_cases e:a=b
 ·subst e
  obtain⟨m,u⟩:∃m,m=fv a:=⟨_,fX⟩;have H:fe _:=r;have I:fe _:=s;have J:fe (m=fv a):=u;rw[<-u]at G |-;have N:((m:Int) != (m:Int))=fo:=by simp
  have v:fe (decide (a=a)=fm):=qu fX;clear r s u t;go_enter func55,ntmps55;go_wp2
  go_loopw [5] (λi wr=>∃k:Nat,k<=m/\i=.int .i64 k/\fe (∃f,wr=w.drewN f)) (λi _=>m-(intOf i).toNat)
  case atStart=>exact⟨0,zt _,rfl,⟨0,by first|rfl|trivial⟩⟩
  case round=>
   obtain⟨k,O,rfl,l⟩:=hrel;by_cases K:k<m
   ·have C:k<fv a:=by rw[<-J.o];exact K
    obtain⟨L,rfl,D,p,n⟩:=Wq H C;obtain⟨M,rfl,E,o,q⟩:=Wq I C;obtain⟨x,y,F⟩:∃x y,a[k]=(x,y):=⟨_,_,fX⟩;rw[F]at p n o q;simp only at p n o q;have j:∀g i,wr.c g i=w.c g i:=λg i=>by obtain⟨f,h⟩:=l.o;rw[h];rfl
    have z:wr.heap.size=w.heap.size:=by obtain⟨f,h⟩:=l.o;rw[h];rfl
    have P:=(j _ _).trans p;have Q:=(j _ _).trans n;have R:=(j _ _).trans o;have S:=(j _ _).trans q;have T:L<wr.heap.size:=by rw[z];exact D
    have U:M<wr.heap.size:=by rw[z];exact E
    have V:(k:Int)<(m:Int):=(by omega);clear p n o q j z D E F;go_wp2
    go_quiet (fail)
    go_wp2;go_roundw
    case rel=>exact⟨k+1,by omega,by go_num,by obtain⟨f,h⟩:=l;exact⟨f+nq,by rw[h];simp⟩⟩
    case measure=>simp[intOf];omega
   have W:decide ((k:Int)<(m:Int))=fo:=yv (by omega);go_wp2;go_ret;obtain⟨f,h⟩:=l;exact⟨by rw[v.o];rfl,by rw[h];exact iP (mi _ _) f⟩
 have X:((fv a:Int) != (fv b:Int))=fm:=by have:=t.resolve_left e;simp;omega
 have v:fe (decide (a=b)=fo):=yv e;clear r s t e;go_enter func55,ntmps55;go_wp2;go_ret;exact⟨by rw[v.o];rfl,mi _ _⟩
theorem Vf{E a}{c T}(j:gf E c)(m:gf a T):(∀e∈wj E c a T,e.1.size<=maxLen)/\fv (jP E c a T)<=fv E+fv a:=by
 have one:∀{g:fV->List fV}{l:List fV}{d:fT},gf l d->(∀x,g x=[]\/∃k,g x=[(x.1,k)])->(∀e∈l.flatMap g,e.1.size<=maxLen)/\fv (l.flatMap g)<=fv l:=λ{g l d}n i=>by
  refine⟨λe h=>?_,by have:=(uZ i l).length_le;simpa using this⟩;have⟨x,o,f⟩:=wA.1 h;rcases i x with b|⟨k,b⟩
  rw[b]at f;cases f;rw[b]at f;obtain rfl:=oa.1 f;exact wy (n.small x o)<|by decide
 obtain⟨p,q⟩:=one j<|Qv c a T;obtain⟨r,s⟩:=one m<|Qw E;refine⟨λe h=>?_,?_⟩
 ·rcases qw.1 h with b|b
  all_goals grind
 unfold jP;rw[oI,FF];unfold wj
 all_goals grind
theorem axs(aG:n<=1048600)(o:gq fo fo R N w B0 W s r p I A J got ws ds)(ab:L4 A ws ds (1200000+n))(aH:I<=900*n)(ac:∀d,R.q d<=n)(an:1<=fv ws)(aI:fv ws<=n)(z:j<fv ws)(G:j<fv ds):
  hpx W ws[j].2.1.wb ds[j].1 (λH=>gK B0 H W s r (n+1)/\Below B0 w H) w:=by
 obtain⟨B,g,t,K⟩:∃B g t,ws[j]=(j+2,B,g,t):=⟨_,_,_,by rw[<-o.slot j z]⟩;obtain⟨ad,E,L,rest,P⟩:∃ad E L rest,ds[j]=(ad,E,L,rest):=⟨_,_,_,_,fX⟩;obtain⟨C,ae,af⟩:=ab.same j z G;have Q:=o.DJ j z;rw[K,P]at C;rw[P]at ae af;rw[K]at Q;rw[K,P];simp only at C ae af Q |-;have ao:=o.w3.wI.2.2.1;have⟨_,_,ag,_⟩:=id Q;have⟨ap,aq⟩:=Vf C.2 ag;obtain⟨h,Y⟩:=ol<|jP E L (R.bs j).1 (R.bs j).2;rw[<-Y]at aq;obtain⟨D,S⟩:∃D:ig->Nat->fq->Prop,D=λa c H=>∃pt M u y T,gq fo fo { R with pt:=pt } M H B0 W s r p (I+400) A J T (ws.set j (j+2,B,u,y)) ds/\kr A u.fl u.op y E L rest/\Below B0 w H/\H.ownsRow 0 133 2 (fy a (fv h) c) (fv h) (iC h)/\∀b,(Value.slice a (fv h) c).ownBlock=fh b->M b=(0,0)/\B0<=b/\∀i,¬R.F i b:=⟨_,fX⟩;refine⟨fv h,D,λa c b d v=>∃O,D a c O/\ju O v/\v.ownsRow 0 133 2 (fy b (fv h) d) (fv h) (iC h),λa c v=>∃O,D a c O/\ju O v,λaJ f=>?_,λa c O k=>?_,?_,?_⟩;obtain⟨ar,U,au⟩:=(o.below f).work z K;refine(hqi ar (by omega) fX U ao o.w3.wI.2.2.2 (W3.few o.w3).1 C Q).mono ?_;rintro e H ⟨a,c,x,l,M,u,y,m,av,aw,ax,F,ay,ah,V⟩;rw[<-Y]at x l V;have⟨pt,q⟩:=au (by omega) m av ax F ay;rw[aw]at q;have ai:=o.below f;rw[S];refine⟨a,c,x,pt,M,u,y,_,q,ah,yN o f m,l,λb aa=>?_⟩;have⟨az,aA⟩:=V b aa;exact⟨aA,wy ai.size az,λi aB=>by have:=(ai.held i).lt b aB;omega⟩
 ·have aj:=k
  rw[S]at k;obtain⟨pt,M,u,y,T,q,_⟩:=k;have⟨aK,aL,aM,aN,ak⟩:=q.Zr j G;have⟨ba,aO,Z,wc,X,_⟩:=q.aaC j G;rw[P]at ak X;refine(Re ak X (by grind) (by grind) (by grind) (by grind) C.2.files ag.files ap).mono ?_;rintro e H ⟨aP,x,l,f⟩;have al:=tB l<|zt _;rw[<-Y]at al;obtain⟨b,d,rfl⟩:=Am al
  all_goals grind
 rintro a c b d v ⟨O,k,f,l⟩;have aj:=k;rw[S]at k;obtain⟨_,_,_,_,_,_,_,_,am,_⟩:=k;refine(aux a b c d h h v ⟨by omega,by omega⟩ (gg am λg F=>f.block g<|gc am F) l<|.inl fX).mono ?_;rintro e H ⟨x,aa⟩;exact⟨x.trans (by grind),O,aj,f.trans<|aa.mono f.size⟩;rintro a c v ⟨O,k,f⟩;rw[S]at k;have⟨pt,M,u,y,T,q,ah,X,l,V⟩:=k;refine((q.below f).aa6 (by grind) (by omega) (gg l λg F=>f.block g<|gc l F) V).mono ?_;rintro e H ⟨x,aC,aD,aE,aF⟩;exact⟨x,⟨aC,M,p,I+400,A,J,T,_,_,aE,(ab.aaK z G (by grind)).mono<|by omega,by omega,Mx aD ac<|hNe (ac 10),by simpa using an,by simp;omega⟩,(X.trans<|f.mono q.size).trans aF⟩
theorem yP{c}{d}{f:fu}{h:List fV}{i}{k}{a}(b:gq fo fo R N w B0 W s r p I A J got ws ds)(o:j<fv ws)(q:ws[j]=(j+2,B,g,t))(l:ju w a)(u:w.heap.size<a.heap.size)
  (v:Calls prog c d a λe H=>e=fF f/\vU s (j+2) p B A N a H (Wf g got) (I+400) h i k):
  Calls prog c d a λe H=>e=fF f/\Bj w.heap.size a H/\Half B0 w H W s r p I A J ws ds R.q j B h i k:=by
 obtain⟨O,U,x⟩:=(b.below l).work o q;refine v.mono ?_;rintro e H ⟨y,M,z,C,m,D,E,F,G,K,L⟩;obtain⟨pt,n⟩:=x (by omega) m D F G K;rw[E]at n;exact⟨y,CV b u m,{ R with pt:=pt },M,z,C,_,fX,n,L,yN b l m⟩
theorem pdt(al:n<=1048600)(f:gq fo fo R N w B0 W s r p I A J got ws ds)(C:L4 A ws ds (1200000+n))(O:I<=900*n)(P:∀d,R.q d<=n)(Q:1<=fv ws)(S:fv ws<=n)(b:j<fv ws)(D:j<fv ds)(l a m:Int)(c o:fP)(q)(u v)(T:c.size<=1048576)(ha2:-9223372036854775808<=a/\a<9223372036854775808):
  ik 50 #[ie W,fB<|fh (ii (ws[j].2.1.wb) 0),fB<|fh (ii (ds[j].1) 0),fD<|iT 13 l a m c o q u v] w λe H=>e=fF (fE fm)/\gK B0 H W s r (n+1)/\Below B0 w H:=by
 obtain⟨B,g,t,h⟩:∃B g t,ws[j]=(j+2,B,g,t):=⟨_,_,_,by rw[<-f.slot j b]⟩;obtain⟨i,E,F,rest,k⟩:∃i E F rest,ds[j]=(i,E,F,rest):=⟨_,_,_,_,fX⟩;obtain⟨x,G,K⟩:=C.same j b D;rw[h,k]at x;rw[k]at G K;rw[h,k];simp only at x G K |-;have V:=f.w3.wI.2.2.1;have X:I+1000<1099511627776:=by omega
 obtain⟨y,z⟩:=ol<|w.k (iT 13 l a m c o q u v) 57;have L:ju w y:=by rw[z];exact(mi _ _).alloc (lw _) _
 have Y:w.heap.size<y.heap.size:=by rw[z];simp
 obtain⟨Z,U,_⟩:=(f.below L).work b h;obtain⟨aa,ab,am,an,ao,ac,ad,ap,aq,ae,af⟩:=Alt Z X fX U V x (by omega) (by omega) i c T a ha2;refine(ZW W B.wb i l a m c o q u v aa ab ac _ _ w y z (yP f b h L Y ae)<|vV D k ad af).mono ?_;rintro e H ⟨ag,ar,M,au,av,aw,ah,ai,aj,ak⟩;exact⟨ag,xT C O (λd=>by rw[ah];exact wu<|P d) Q S b ai aj (by grind) (by grind),ak⟩
theorem hvl(ax:n<=1048600)(y:gq fo fo R N w B0 W s r p I A J got ws ds)(ag:L4 A ws ds (1200000+n))(aj:I<=900*n)(ak:∀d,R.q d<=n)(al:1<=fv ws)(am:fv ws<=n)(f:j<fv ws)(P:j<fv ds)(h z b c:Int)(i C:fP)(D)(F G)(an:i.size<=1048576)(ay:14<=h/\h<=18):
  ik 51 #[ie W,fB<|fh (ii (ws[j].2.1.wb) 0),fB<|fh (ii (ds[j].1) 0),fD<|iT h z b c i C D F G] w λe H=>e=fF (fE fm)/\gK B0 H W s r (n+1)/\Below B0 w H:=by
 obtain⟨B,g,t,u⟩:∃B g t,ws[j]=(j+2,B,g,t):=⟨_,_,_,by rw[<-y.slot j f]⟩;obtain⟨a,E,ab,rest,v⟩:∃a E ab rest,ds[j]=(a,E,ab,rest):=⟨_,_,_,_,fX⟩;obtain⟨K,ac,ah⟩:=ag.same j f P;rw[u,v]at K;rw[v]at ac ah;rw[u,v];simp only at K ac ah |-;have ad:I+1000<1099511627776:=by omega
 obtain⟨L,O⟩:=ol<|w.k (iT h z b c i C D F G) 57;have Q:ju w L:=by rw[O];exact(mi _ _).alloc (lw _) _
 have T:w.heap.size<L.heap.size:=by rw[O];simp
 obtain⟨V,U,_⟩:=(y.below Q).work f u;have ao:h=14\/h=15\/h=16\/h=17\/h=18:=by omega
 have X:∀{e:Ending}{H:fq}{S:fT}{x:iN},fv S=fv ab->(e=fF (fE fm)/\∃ae M Z af ai,ae.q=R.q/\gq fo fo ae M H B0 W s r p (I+400) A J ai (ws.set j (j+2,B,Z,af)) (ds.set j (a,E,S,x))/\kr A Z.fl Z.op af E S x/\Below B0 w H)->e=fF (fE fm)/\gK B0 H W s r (n+1)/\Below B0 w H:=by
  rintro e H S x aa ⟨ap,ae,M,Z,af,ai,aq,ar,au,av⟩;exact⟨ap,xT ag aj (λd=>by rw[aq];exact wu<|ak d) al am f ar au (wu ac) (by grind),av⟩
 rcases ao with rfl|rfl|rfl|rfl|rfl
 obtain⟨aw,k,x,Y,l,m,o⟩:=zs2 V ad fX U K (by omega) a b c;exact(UK W B.wb a z b c i C D F G aw k Y _ _ w L O (yP y f u Q T m)<|vV P v l o).mono λe H q=>X fX q;obtain⟨k,S,x,Y,aa,l,m,o⟩:=pad V ad fX U K (by omega) a b i an;exact(QM W B.wb a z b c i C D F G k Y _ _ w L O (yP y f u Q T m)<|vV P v l o).mono λe H q=>X aa q;obtain⟨k,x,l,m,o⟩:=zdt V fX U K a b c;exact(UL W B.wb a z b c i C D F G k _ _ w L O (yP y f u Q T m)<|vV P v l o).mono λe H q=>X fX q;obtain⟨k,S,x,Y,aa,l,m,o⟩:=htu V ad fX U K (by omega) a b c;exact(MF W B.wb a z b c i C D F G k Y _ _ w L O (yP y f u Q T m)<|vV P v l o).mono λe H q=>X aa q;obtain⟨k,x,l,m,o⟩:=ows V fX U K a b;exact(QN W B.wb a z b c i C D F G k _ _ w L O (yP y f u Q T m)<|vV P v l o).mono λe H q=>X fX q
theorem bce(o:n<=1048600)(O:gK B0 w W s r n)(a c g q:Int)(k l:fP)(t)(u x)(K:k.size<=1048576)(P:l.size<=1048576)(Q:-9223372036854775808<=c/\c<=9223372036854775807)(ha2:-9223372036854775808<=g/\g<9223372036854775808)(S:8<=a/\a<=20):
  ik 23 #[ie W,fD<|iT a c g q k l t u x] w λe H=>e=fF (fE fm)/\gK B0 H W s r (n+1)/\Below B0 w H:=by
 obtain⟨R,N,p,I,A,J,got,ws,ds,b,h,y,z,B,C⟩:=O;have ae:=Jz c (n:=(fv ws:Int)) (by omega);obtain⟨j,T⟩:∃j:Nat,tW c (fv ws:Int)=(j:Int):=⟨(tW c (fv ws:Int)).toNat,by omega⟩;have d:j<fv ws:=by omega
 have m:j<fv ds:=by rw[h.len];exact d
 obtain⟨U,V,X,Y,_⟩:=row_one b.yY.1 (i:=j) (v:=ptr ws[j].2.1.wb) (by simp[d]);obtain⟨Z,aa,kQ,ab,_⟩:=row_one b.jq.1 (i:=j) (v:=ptr ds[j].1) (by simp[m]);obtain⟨_,_,ac,c5,L⟩:=b.c01;rw[V]at c5;rw[aa,h.len]at L;refine huv W (fv ws) j U Z R.wc R.tc ws[j].2.1.wb ds[j].1 a c g q k l t u x (λH=>gK B0 H W s r (n+1)/\Below B0 w H) w ac c5 L X kQ d (by omega) Y ab Q T ?_;have ad:a<=12\/a=13\/(14<=a/\a<=18)\/a=19\/a=20:=by omega
 rcases ad with G|rfl|G|rfl|rfl
 exact .inl ⟨by omega,λM f=>(mty o (b.below f) h y z B C d m a c g q k l t u x K P ⟨S.1,G⟩).mono λe H⟨D,E,F⟩=>⟨D,E,(pS b f).trans F⟩⟩;exact .inl ⟨by omega,λM f=>(pdt o (b.below f) h y z B C d m c g q k l t u x K ha2).mono λe H⟨D,E,F⟩=>⟨D,E,(pS b f).trans F⟩⟩;exact .inr (.inl ⟨by omega,G.2,λM f=>(hvl o (b.below f) h y z B C d m a c g q k l t u x K G).mono λe H⟨D,E,F⟩=>⟨D,E,(pS b f).trans F⟩⟩);exact .inr<|.inr (.inl ⟨fX,axs o b h y z B C d m⟩);exact .inr<|.inr (.inr ⟨fX,ZU o b h y z B C d m⟩)
theorem peq(w)(M)(n c)(j:List Step)(N:Bf w M n j):
  ik 8 #[fy M n c,fY 20,fE fm] w (ut (fE fm) w):=by
 have P:fe (Bf w M n j):=N;have ar:=N.many;clear N;go_enter func8,ntmps8;go_wp2_with fail;apply RK<|xss w;rintro _ O ⟨W,s,r,rfl,g,X⟩;have Y:fe (UJ w.heap.size O W s r):=g;clear g;go_wp2_with fail;refine Calls.via (QL Y.o) λZ⟨g,aa⟩=>?_;have ab:fe (gK w.heap.size Z W s r 3):=g;have ac:ju w Z:=X.trans aa;clear g X aa Y;go_wp2
 go_loopw [8,9] (λaj i wr=>∃k:Nat,k<=n/\aj=fE fm/\i=.int .i64 (k:Int)/\fe (gK w.heap.size wr W s r<|3+k)/\ju w wr) (λ_ i _=>n-(intOf i).toNat)
 case atStart=>exact⟨0,zt _,rfl,rfl,ab.o,ac⟩
 case round=>
  obtain⟨k,au,rfl,rfl,ad,hbr⟩:=hrel;clear ac ab;have l:=hbr.size;have av:=(gK.cells ad.o).2.1;by_cases ak:k<n
  ·have ae:k<fv j:=by rw[P.o.len];exact ak
   have⟨d,off,al,f,u,v,x,y,z,A,C⟩:=P.o.cells k ae;have h:fe (j[k].Fits w):=P.o.fits _<|kN ae;obtain⟨am,af⟩:=ol<|j[k];rw[<-af]at u v x y z A C h;have⟨kind,D,E,F,G,I,J,K,L,an⟩:=am;simp only at u v x y z A C;have aw:=(hbr.cell (p:=(ii d<|off+k*7)) f).trans u;have ax:=(hbr.cell (p:=(ii d<|off+k*7+1)) f).trans v;have ay:=(hbr.cell (p:=(ii d<|off+k*7+2)) f).trans x;have az:=(hbr.cell (p:=(ii d<|off+k*7+3)) f).trans y;have aA:=(hbr.cell (p:=(ii d<|off+k*7+4)) f).trans z;have aB:=(hbr.cell (p:=(ii d<|off+k*7+5)) f).trans A;have aC:=(hbr.cell (p:=(ii d<|off+k*7+6)) f).trans C;have aD:d<wr.heap.size:=by omega
   have aE:(k:Int)<(n:Int):=by omega
   have m:fe (∀B,gK w.heap.size (wr.alloc B) W s r<|3+k):=λB=>gK.below ad.o<|(mi _ _).alloc (lw _) B;have ag:fe (∀B,ik 24 #[fB<|fh (ii W 8)] (wr.alloc B) λe H=>e=fF (fE fm)/\Below (wr.alloc B).heap.size (wr.alloc B) H):=λB=>Hi (by omega)<|m.o B;have ah:fe (∀B,w.heap.size<=(wr.alloc B).heap.size):=λB=>by simp;omega
   subst al;clear u v x y z A C af;by_cases ao:1<=kind/\kind<=20
   ·have⟨Q,ap⟩:=ao
    have t1:decide (kind<1)=fo:=yv (by omega);have t2:decide (20<kind)=fo:=yv (by omega);have t3:(kind==21)=fo:=by simp;omega
    by_cases ai:kind<=7
    ·have R:fe (∀B,ik 20 #[ie W,fD #[fY kind,fY D,fY E,fY F,hh G,hh I,fy J K L]] (wr.alloc B) λe H=>e=fF (fE fm)/\gK w.heap.size H W s r (3+k+1)/\Below w.heap.size (wr.alloc B) H):=λB=>
      xys (by omega) (m.o B) ⟨kind,D,E,F,G,I,J,K,L,an⟩ (h.o.below<|hbr.alloc l B) ⟨Q,ai⟩
     go_wp2_with(first
      |(go_at_call 20;refine Calls.via (R.o _) λo⟨b,q⟩=>?_;have t:fe (gK w.heap.size o W s r<|3+k+1):=b;have aq:=(gK.cells b).2.1;have S:=(gK.cells b).2.2;have T:ju w o:=(hbr.alloc l _).trans q;clear b q;have U:fe _:=Hi (by omega) t.o)
      |(go_at_call 24;refine Calls.via U.o λV a=>?_))
     go_roundw
     case rel=>exact⟨k+1,by omega,rfl,by go_num,gK.below t.o a,T.trans<|a.mono S⟩
     case measure=>simp[intOf];omega
    have t4:decide (kind<=7)=fo:=yv ai;have t5:7<kind:=by omega
    have R:fe (∀B,ik 23 #[ie W,fD #[fY kind,fY D,fY E,fY F,hh G,hh I,fy J K L]] (wr.alloc B) λe H=>e=fF (fE fm)/\gK w.heap.size H W s r (3+k+1)/\Below w.heap.size (wr.alloc B) H):=λB=>
     bce (by omega) (m.o B) kind D E F G I J K L h.o.sS h.o.sT h.o.aaV h.o.aaW ⟨by omega,ap⟩
    go_wp2_with(first
     |(go_at_call 23;refine Calls.via (R.o _) λo⟨b,q⟩=>?_;have t:fe (gK w.heap.size o W s r<|3+k+1):=b;have aq:=(gK.cells b).2.1;have S:=(gK.cells b).2.2;have T:ju w o:=(hbr.alloc l _).trans q;clear b q;have U:fe _:=Hi (by omega) t.o)
     |(go_at_call 24;refine Calls.via U.o λV a=>?_))
    go_roundw
    case rel=>exact⟨k+1,by omega,rfl,by go_num,gK.below t.o a,T.trans<|a.mono S⟩
    case measure=>simp[intOf];omega
   by_cases Q:kind<1
   ·go_wp2_with(go_at_call 24;refine Calls.via (ag.o _) λV a=>?_)
    go_roundw
    case rel=>exact⟨k+1,by omega,rfl,by go_num,gK.mono (gK.below (m.o _) a)<|by omega,(hbr.alloc l _).trans<|a.mono (ah.o _)⟩
    case measure=>simp[intOf];omega
   have t1:decide (kind<1)=fo:=yv Q;have t2:20<kind:=by omega
   go_wp2_with(go_at_call 24;refine Calls.via (ag.o _) λV a=>?_);go_roundw
   case rel=>exact⟨k+1,by omega,rfl,by go_num,gK.mono (gK.below (m.o _) a)<|by omega,(hbr.alloc l _).trans<|a.mono (ah.o _)⟩
   case measure=>simp[intOf];omega
  have aF:decide ((k:Int)<(n:Int))=fo:=yv (by omega);go_wp2;go_ret;exact⟨fX,hbr⟩
def MQ(w)(a)(n c)(b:List Step)(d:Bf w a n b):
  ik 5 #[fy a n c] w (ut (fE fm) w):=by
 have e:=peq w a n c b d;clear d;go_enter func5,ntmps5;go_wp2_with fail;refine Calls.via e λO f=>?_;go_wp2;go_ret;exact⟨fX,f⟩
