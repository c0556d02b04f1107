/- A part of the proof. -/
import Derived.Test.YtlgidcmmgohagaaGreatComM25
set_option linter.all false
namespace Go.Proofs.YtlgidcmmgohagaaGreat
open Go.RowKit Go.Sort Go.Shelf Go.Proofs.Tryz
open Go.Value renaming slice->fy,string->fA,pointer->fB,tuple->fC,agg->fD,bool->fE
open Go.Ending renaming returned->fF
open Option renaming some->fh,none->fj
open Bool renaming true->fm,false->fo
open Go renaming World->fq,Value->fu
open List renaming length->fv,reverse->fx
open Go.RowKit renaming Hid->fe
set_option maxRecDepth 100000
set_option maxHeartbeats 0
variable {b i k I m n p s:Nat}{v:fu}{L got:List Int}{rest:iN}{d:fP}{a A J tk:List Ob}{id x:Int}{w H O w2:fq}{g:WG}{es:List fV}{G:Nat->Prop}{N:gF}{B:WB}{brk:Bool}{fl:Nat->Option (Int×fP)}{c:LT}
variable {R:xP}{N:gF}{w:fq}{B0 W s r p I j n i S nc dc Z wc:Nat}{A J a:List Ob}{got:List Int}{ws:List Slot}{ds:List Doc}{B:WB}{g:WG}{t:LT}{E base:List fV}{data T:fT}{rest:iN}{fl:Nat->Option (Int×fP)}{F G:Nat->Prop}{na da ba wa:ig}
def My (a:List Int):iN:=a.map<|Value.int .i64
def mwd{a:List Int}(b:k<fv a):(My a)[k]?=fh (.int .i64 a[k]):=by simp[My,jH b]
def nab(w):(Go.sizeOf 29).run prog w=.ok 1 w:=by kernel_rfl
def Hg (w:fq)(v:fu)(L:List Int):Prop:=w.ownsRow 0 29 1 v (fv L)<|My L
theorem Hg.shape(b:Hg w v L):∃a c,v=fy a (fv L) c:=by
 rcases b.2 with⟨rfl,d⟩|⟨g,c,e,rfl,_⟩
 all_goals grind
theorem Hg.at_{a}{n c}(b:Hg w (fy a n c) L)(d:k<fv L):∃g,a=fh (ii g 0)/\g<w.heap.size/\w.c g k=fh (.int .i64 L[k]):=by
 have⟨g,h,e⟩:=hZ b (by omega);have f:=(lK e).1;subst f;refine⟨g,fX,gc b fX,?_⟩
 have:=World.ownsRow.cells b (g:=g) fX k _<|mwd d
 grind [Addr,Addr.add]
theorem Uw(d:Hg w v got)(p:fv got<=1099511627776):
  ik 201 #[v] w λe H=>∃a,e=fF a/\H.ownsRow w.heap.size 29 1 a (fv got) (My got)/\ju w H:=by
 rcases d.2 with⟨rfl,f⟩|⟨g,c,q,rfl,_⟩
 apply (sin aad 0 0 w).still;obtain rfl:got=[]:=DY.1 f;exact⟨_,fX,kO _ _ _ _,mi _ _⟩;have⟨h,U,i,k,l⟩:=kC hbd;refine(AnyE.slices_Clone aad h _ 1 8 U i k l fX (by decide) nab g 0 (fv got) c (My got) w (by simp[My]) (by omega) (by omega) (λj m b=>by rw[iO];exact(World.ownsRow.cellAt d j (by grind)).trans b) ?_).mono ?_;intro m b;obtain⟨x,_,rfl⟩:=ja.1 b;rfl;rintro e H ⟨a,rfl,n,r,o⟩;exact⟨_,fX,n,o⟩
theorem Mz(p)(v:fu)(R:fu->fq->Prop)(w:fq)(c3:w.c p 3=fh v)
  (b:ik 201 #[v] w λe H=>∃a,e=fF a/\R a H):
  ik 151 #[ie p] w λe H=>∃a,e=fF a/\R a H:=by
 change fe _ at b
 go_enter func151,ntmps151;go_wp2_with fail;apply RK b;rintro e H ⟨a,rfl,c⟩;go_wp2;go_ret;exact⟨a,fX,c⟩
theorem MA(s p)(R:fu->fq->Prop)(w:fq)(c0:w.c s 0=fh (ie p))
  (b:ik 151 #[ie p] w λe H=>∃a,e=fF a/\R a H):
  ik 87 #[ie s] w λe H=>∃a,e=fF a/\R a H:=by
 change fe _ at b
 go_enter func87,ntmps87;go_wp2_with fail;apply RK b;rintro e H ⟨a,rfl,c⟩;go_wp2;go_ret;exact⟨a,fX,c⟩
theorem QC(j:js N w s p A got brk I)(k:I<=1099511627776):
  ik 87 #[ie s] w λe H=>∃c,e=fF c/\H.ownsRow w.heap.size 29 1 c (fv got) (My got)/\ju w H:=by
 have⟨l,b,m,⟨a,h,n,o,q,r,d⟩,f,_⟩:=j;have g:=d.gR.at_;have c3:w.c p 3=fh (fy b.a b.n b.c):=by unfold gA at g;simp[World.cell?,g]
 have i:=f.1;rw[f.2.1]at i c3;exact MA s p _ w d.c0<|Mz p _ _ w c3 (Uw i<|by omega)
def Ux(a:m<fv got):(got.take<|m+1).count x=(got.take m).count x+if got[m]=x then 1 else 0:=by
 rw[vk a,List.count_append,List.count_singleton];by_cases e:got[m]=x<;>simp[e]
theorem MB(W s k wc:Nat)(wa:ig)(got:List Int)(R:fq->Prop)(w:fq)(K:W<w.heap.size)(c0:w.c W 0=fh (ie s))(c5:w.c W 5=fh (fy wa k wc))
  (ag:fv got<=1000000000)(az:k<=1000000000)(L:∀x,got.count x<=k)
  (M:ik 87 #[ie s] w λe H=>∃N,e=fF N/\H.ownsRow w.heap.size 29 1 N (fv got) (My got)/\ju w H)
  (P:∀j(q:j<fv got),∃r:Int,0<=r/\∀H,ju w H->ik 41 #[ie W,.int .i64 got[j]] H λe ah=>e=fF (fY r)/\ah=H)
  (Q:∀O S c,ju w O->O.ownsRow w.heap.size 29 1 (fy S (fv got) c) (fv got) (My got)->ik 88 #[fB<|fh (ii W 8),fy S (fv got) c] O λe H=>e=pD #[]/\R H):
  ik 46 #[ie W] w λe H=>e=fF (fE fm)/\R H:=by
 have⟨n,d⟩:=ol<|fv got;rw[<-d]at ag
 change fe _ at M P Q L d
 go_enter func46,ntmps46;go_wp2_with fail;apply RK M;rintro _ O ⟨v,rfl,t,u⟩;obtain⟨a,c,rfl⟩:=Hg.shape<|yu t;have T:=t;have z:fe (ju w O):=u;have B:=np K u.size;have d5:=(u.cell (p:=(ii W 5)) K).trans c5;rw[<-d.o];have U:∀j(q:j<fv got),∃g,a=fh (ii g 0)/\g<O.heap.size/\O.c g j=fh (.int .i64 got[j]):=λj q=>Hg.at_ (yu t) q
 have C:fe _:=U;clear t u U c0 c5;go_wp2
 go_loopw [4] (λi wr=>∃j:Nat,j<=n/\i=.int .i64 (j:Int)/\fe (ju O wr)) (λi _=>n-(intOf i).toNat)
 case atStart=>exact⟨0,zt _,rfl,mi _ _⟩
 case round=>
  obtain⟨j,q,rfl,A⟩:=hrel;by_cases ai:j<n
  ·have aA:(j:Int)<(n:Int):=by omega
   have V:j<fv got:=by rw[<-d.o];exact ai
   have⟨g,aj,D,X⟩:=C j V;have⟨r,aB,h⟩:=P j V;have ak:fe _:=h;have⟨x,E⟩:=ol<|got[j];rw[<-E]at X;have al:fe (x=got[j]):=E;subst aj;clear E h;go_wp2
   go_loopw [5,6] (λo F am=>∃m:Nat,m<=n/\F=.int .i64 (m:Int)/\o=.int .i64 (((got.take m).count x:Nat):Int)/\fe (ju O am)) (λ_ F _=>n-(intOf F).toNat)
   case atStart=>exact⟨0,zt _,rfl,rfl,A⟩
   case round=>
    obtain⟨m,aC,rfl,rfl,b⟩:=hrel;have aD:=np D b.size;have aE:wr.c g j=fh (fY x):=(b.cell (p:=(ii g j)) D).trans X;by_cases an:m<n
    ·have aF:(m:Int)<(n:Int):=by omega
     have Y:m<fv got:=by rw[<-d.o];exact an
     have⟨aG,ao,aH,Z⟩:=C m Y;cases ao;have ap:wr.c g m=fh (.int .i64 got[m]):=(b.cell (p:=(ii g m)) D).trans Z;have⟨y,G⟩:=ol<|got[m];rw[<-G]at ap;have aa:fe (y=got[m]):=G;have ab:fe _:=Ux (x:=x) Y;have aq:(got.take m).count x<=n:=by have:=List.count_le_length (a:=x) (l:=got.take m);rw[kV]at this;omega
     have⟨o,f⟩:=ol<|(got.take m).count x;rw[<-f]at aq;rw[<-f];have ac:fe (o=(got.take m).count x):=f;clear G f Z;cases ad:(y==x) with
     |true=>
      have I:=eq_of_beq ad;go_wp2
      go_region
      all_goals
       go_wp2;go_roundw
       case rel=>exact⟨m+1,by omega,by go_num,by rw[ab.o,lv (by rw[<-aa.o];exact I),<-ac.o];go_num,iP b.o _⟩
       case measure=>simp[intOf];omega
     |false=>
      have I:=ne_of_beq_false ad;go_wp2
      go_region
      all_goals
       go_wp2;go_roundw
       case rel=>exact⟨m+1,by omega,by go_num,by rw[ab.o,km (by rw[<-aa.o];exact I),<-ac.o];rfl,iP b.o _⟩
       case measure=>simp[intOf];omega
    have aI:m=n:=(by omega);have ar:=yv (by omega);have ae:(got.take m).count x=got.count x:=by rw[oJ (by rw[<-d.o];omega)]
    have au:=L x;rw[ae];have⟨o,f⟩:=ol<|got.count x;rw[<-f]at au |-;have av:=np B b.size;have aJ:=(b.o.cell (p:=(ii W 5)) B).trans d5;have aK:decide (r<0)=fo:=yv (by omega);have aL:decide ((k:Int)<(o:Int))=fo:=yv (by omega);have h:=ak.o wr<|z.o.trans (b.o.mono z.o.size);rw[<-al.o]at h;clear ae f C;go_wp2_with(go_at_call 41;apply Calls.still h);go_roundw
    case rel=>exact⟨j+1,by omega,by go_num,b⟩
    case measure=>simp[intOf];omega
  have aM:j=n:=by omega
  have ar:=yv (by omega);have av:=np B A.size;have af:=gg T λg aw=>A.block g<|gc T aw;have J:=Q wr a c (z.trans<|A.mono z.size) af;rw[<-d.o]at J;have ax:fe _:=J;clear af J;go_wp2_with(go_at_call 88;refine Calls.via ax.o λaN ay=>?_);go_ret;exact⟨fX,ay⟩
def hpx (W j k:Nat)(R:fq->Prop)(w:fq):Prop:=∃(n:Nat) (f:ig->Nat->fq->Prop) (g:ig->Nat->ig->Nat->fq->Prop) (h:ig->Nat->fq->Prop),
 (∀i,Below w.heap.size w i->Calls prog 52 #[fB<|fh ⟨j,0,fj⟩] i λe H=>∃a c,e=fF (fC #[fy a n c,.int .i64 0])/\f a c H)/\
 (∀a c O,f a c O->Calls prog 54 #[fB<|fh ⟨k,0,fj⟩] O λe H=>∃b d,e=fF (fy b n d)/\g a c b d H)/\
 (∀a c b d O,g a c b d O->Calls prog 55 #[fy a n c,fy b n d] O λe H=>e=fF (fE fm)/\h a c H)/\
 ∀a c O,h a c O->Calls prog 56 #[fB<|fh ⟨W,8,fj⟩,fy a n c] O λe H=>e=fF (fC #[])/\R H
def hp1 (W k l:Nat)(R:fq->Prop)(w:fq):Prop:=∃(id f x d:Int) (r:Nat) (h g:fq->Prop),
 (∀i,Below w.heap.size w i->Calls prog 18 #[fB<|fh ⟨k,0,fj⟩] i λe H=>e=fF (fC #[.int .i64 id,.int .i64 f])/\h H)/\
 (∀O,h O->W<O.heap.size/\O.cell? ⟨W,1,fj⟩=fh (fB<|fh ⟨r,0,fj⟩)/\Calls prog 57 #[fB<|fh ⟨l,0,fj⟩,fB<|fh ⟨r,0,fj⟩] O λe H=>e=fF (fC #[.int .i64 x,.int .i64 d])/\g H)/\
 ((d≠0/\f=d/\id=0/\∀O,g O->R O)\/(d=0/\f=0/\∃(s n:Nat) (j:fq->Prop),(∀O,g O->∀b,Calls prog 37 #[fB<|fh ⟨W,0,fj⟩,.int .i64 x,.int .i64 id] (O.drewN b) λe H=>e=fF (fE fm)/\j H)/\
  ∀O,j O->W<O.heap.size/\r<O.heap.size/\O.cell? ⟨W,0,fj⟩=fh (fB<|fh ⟨s,0,fj⟩)/\O.cell? ⟨W,1,fj⟩=fh (fB<|fh ⟨r,0,fj⟩)/\(∃a c,O.cell? ⟨r,0,fj⟩=fh (fy a n c))/\∀b,R (O.drewN b)/\Calls prog 45 #[fB<|fh ⟨s,0,fj⟩] (O.drewN b) λe H=>e=fF (.int .i64 (n:Int))/\H=O.drewN b))
def xle (W c d:Nat)(a:Int)(f:Array fu)(R:fq->Prop)(w:fq):Prop:=
 (a<=13/\∀b,Below w.heap.size w b->Calls prog 50 #[fB<|fh ⟨W,0,fj⟩,fB<|fh ⟨c,0,fj⟩,fB<|fh ⟨d,0,fj⟩,fD f] b λe H=>e=fF (fE fm)/\R H)\/
 (13<a/\a<=18/\∀b,Below w.heap.size w b->Calls prog 51 #[fB<|fh ⟨W,0,fj⟩,fB<|fh ⟨c,0,fj⟩,fB<|fh ⟨d,0,fj⟩,fD f] b λe H=>e=fF (fE fm)/\R H)\/
 (a=19/\hpx W c d R w)\/(a=20/\hp1 W c d R w)
def pS(a:gq fo fo R N w B0 W s r p I A J got ws ds)(b:ju w O):Below B0 w O:=b.mono a.size
theorem L4.grow(b:gq fo fo R N w B0 W s r p I A J got ws ds)(L:L4 A ws ds k)(l:List Ob):L4 (A++l) ws ds k:=
 ⟨L.len,λj a c=>⟨(L.same j a c).1.app b.w3.wI.2.2.1.sound (b.IC _<|kN a).ok (b.IC _<|kN a).fl l,(L.same j a c).2⟩⟩
theorem kE.few{k}{d}(p:kE w k b n d)(a:Maps.Keyed prog k)(l:List Lit)(q:∀v c,keyOf prog k v=fh c->d c≠fj->c∈l):kE w k b (fv l) d:=by
 obtain⟨A,⟨es,r,s,F,B,rfl⟩,j⟩:=p;refine⟨_,⟨es,r,s,F,?_,fX⟩,j⟩;have t:((es.toList.map<|WideElems.rg prog k kg).map (·.1)).Nodup:=wz.2<|Maps.fit_apart a F
 have:=t.length_le_of_subset (l₂:=l) (λc u=>by
  obtain⟨C,m,rfl⟩:=ja.1 u;obtain⟨x,z,rfl⟩:=ja.1 m;have⟨y,f⟩:=F.reads x z;have g:=WideElems.rd_key f;have h:=(WideShapes.atKey_sorted _ (Maps.fit_rising a F) y.1<|a.key g).2 _ m (by rw[WideElems.rg_of f]);rw[WideElems.rg_of f]at h |-;refine q _ _ g λe=>?_;have i:=j y.1<|a.key g;rw[e]at i;have o:=(i<|.lit (.bool fm)).symm.trans<|h (.lit<|.bool fm);rw[<-((i .nil).symm.trans<|h .nil)]at o;cases o)
 grind
theorem MC(a:fK A id≠0):id∈yU (fv A):=by
 have⟨c,b⟩:=nl a;exact ja.2 ⟨(id-1).toNat,KT.2 b,by show _=_;omega⟩
theorem Wh{b:Program}{k}{c:IntKind}(d:b.underlying k=fh (.int c)){f:Lit}(g:keyOf b k v=fh f):∃a,f=.int c a:=by
 have e:keyOf b k v=mapKey b k v:=by simp[keyOf,d]
 rw[e]at g;cases v<;>simp[mapKey,d]at g
 grind
theorem hp2(c:qB N w i p B A g I):Bo N w i B A g.fs.kF (fv A)/\Bp N w i B A g.fs.kD (fv A):=by
 have⟨f1,n,e,s,f,h,hF⟩:=c.nP;have⟨d1,m,j,k,t,l,o,q⟩:=c.nQ;have d:fv ((yU<|fv A).map LC)=fv A:=by rw[oI,jK]
 refine⟨⟨f1,_,e,EL d,f.few zk ((yU<|fv A).map LC) λv a b r=>?_,h,hF⟩,d1,_,j,k,EL d,l.few zk ((yU<|fv A).map LC) λv a b r=>?_,o,q⟩;obtain⟨id,rfl⟩:∃id,a=LC id:=Wh underlying29 b
 grind [DZ,MC,decide]
 obtain⟨id,rfl⟩:∃id,a=LC id:=Wh underlying29 b
 grind [DZ,MC,decide]
theorem fZ.down{N M}{s i p I h:Nat}{a:b6}(b:fZ N w s i p B A g I)(m:fI (gC i) N M w H)(c:fZ M H s i p B A { g with fs:=a } h)(j:g.fs.Next a)(C:fv A<=400)(d:∀x,a.kn x<=1/\(a.kn x≠0->fK A x≠0)):fZ M H s i p B A { g with fs:=a } (I+400):=by
 have⟨n,o⟩:=hp2 c.wp;have D:=b.two;refine⟨b.two,?_,b.wp.fs m (λk E F f=>?_) (by omega) (n.mono<|by omega)<|o.mono (by omega)⟩;have⟨q,r,t,u,v,y,G⟩:=c.st;obtain⟨_,_⟩:=b.st;refine⟨q,r,t,u,v,y,?_⟩;have⟨l,J,z⟩:=j.2.2.1;have nZ:l.Nodup:=List.nodup_iff_count.2 (λx=>by have:=z x;have:=(d x).1;omega)
 have:=nZ.length_le_of_subset λx f=>MC<|(d x).2 (by grind)
 grind [jK,lI]
 rcases f with e|e|e
 all_goals grind
def cM:Nat->Nat
 |0=>1
 |n+1=>1+16*cM n
theorem Uy:∀(n:Nat)(t:LT),fM A n t->je n t<=cM n
 |n,.file _,_=>by cases n<;>exact zt _
 |n,.dir _,_=>by cases n<;>exact zt _
 |n,.held _,_=>by cases n<;>(rw[je,cM];omega)
 |0,.own _,_=>lw _
 |n+1,.own es,h=>by
  rw[je,cM]
  obtain⟨_,h16,hk⟩:=h
  have:∀l:List (fP×LT),(∀x∈l,fM A n x.2)->(l.map λx=>je n x.2).sum<=fv l*cM n:=by
   intro l
   induction l with
   |nil=>intro _;simp
   |cons x r ih=>
    intro hl;rw[lM,ctz,lq,Nat.add_mul]
    have:=Uy n x.2<|hl x (oK ..)
    grind
  have h1:=this es λx hx=>(hk x hx).2;have h2:fv es*cM n<=16*cM n:=EG _ h16;omega
theorem Uz(b c:Nat)(R:fu->Int->fq->Prop)(w:fq)(g:b<w.heap.size)(c0:w.c b 0=fh (ie c))
  (d:ik 105 #[ie c] w λe H=>∃v a,e=pD #[v,fY a]/\R v a H):
  ik 52 #[ie b] w λe H=>∃v a,e=pD #[v,fY a]/\R v a H:=by
 change fe _ at d
 go_enter func52,ntmps52;go_wp2_with(go_at_call 105;refine RK d ?_;rintro e O ⟨v,a,rfl,f⟩);go_ret2;exact⟨v,a,fX,f⟩
theorem Wi(a:qB N w i p B A g I)(id:Int):g.fs.kn id<=1/\(g.fs.kn id≠0->fK A id≠0):=by
 have⟨_,_⟩:=a.nP;have⟨_,_⟩:=a.nQ
 grind [b6.kn,decide,absurd]
theorem hqi(d:jy N w s i p B A g I t)(O:I+111000000<1099511627776)(k:g.fs.brk=fo)(U:gB A t)(q:Exact A)(y:mL A)(z:fv A<=400)(h:kr A g.fl g.op t E data rest){x:List fV×fT}(j:ue A g.base x):
  ik 52 #[ie B.wb] w λe H=>∃a c,e=pD #[fy a (fv<|jP E data x.1 x.2) c,fY 0]/\H.ownsRow 0 133 2 (fy a (fv<|jP E data x.1 x.2) c) (fv<|jP E data x.1 x.2) (iC<|jP E data x.1 x.2)/\
   ∃M f n,fI (Mine i) N M w H/\jy M H s i p B A f (I+400) n/\f.fs.brk=fo/\f.base=g.base/\(∃l,f.fs.got=g.fs.got++l/\∀x,l.count x+g.fs.kn x=f.fs.kn x)/\gB A n/\kr A f.fl f.op n E data rest/\∀b,(Value.slice a (fv<|jP E data x.1 x.2) c).ownBlock=fh b->w.heap.size<=b/\M b=(0,0):=by
 have⟨C,c0,_⟩:=d.ws;have P:=Uy 5 t d.ok;have Q:cM 5=1118481:=by decide
 refine(Uz B.wb B.bt _ w C c0<|Uo ⟨d.inv,d.flat,q,d.fl⟩ d.ok y (by omega) j.1 (by omega)).mono ?_;rintro e H ⟨v,R,D,M,S,m,r,F⟩;rcases F with⟨rfl,o,L,G,u,J⟩|⟨rfl,_,hF⟩
 have K:=Qz q.sound d.ok j.1 h.reads.dir G h.2 j.2.2.1 h.reads j.2.1;rw[K];obtain⟨a,c,rfl⟩:=Am u;exact⟨a,c,D,u,M,_,t,m.mono λ_ d=>d.mine,⟨d.inv.down m r o z<|Wi r.wp,d.flat,d.ok,d.fl⟩,o.1.trans k,fX,o.2.2.1,U,h,J⟩;rw[hF.1]at k;cases k
theorem hq1(o:n<=1048600)(G:gK B0 w W s r n)(a:Step)(c:a.Fits w)(d:1<=a.kind/\a.kind<=5):
  ik 20 #[ie W,a.val] w λe H=>e=fF (fE fm)/\gK B0 H W s r (n+1)/\Below B0 w H:=by
 have⟨R,N,p,I,A,J,got,ws,ds,b,L,q,f,g,t⟩:=G;refine(b.step (by grind) a c d).mono ?_;rintro e H ⟨h,i,M,l,tk,u,v,j,k,m⟩;exact⟨h,⟨i,M,p,I,A++l,tk,got,ws,ds,k,(L.grow b l).mono<|by omega,by omega,Mx j f (by grind),g,by omega⟩,m⟩
def rem{x}(a:En N w p A I x)(id:Int):x.2.2.1.fs.kn id<=1/\(x.2.2.1.fs.kn id≠0->fK A id≠0):=Wi a.wp id
theorem hrb{b:Type}(a:b->Nat):∀(l:List b),(∀x∈l,a x<=1)->(l.map a).sum<=fv l
 |[],_=>lw _
 |x::r,c=>by
  rw[lM,ctz,lq]
  have:=c x<|oK ..
  have:=hrb a r λy d=>c y<|wq _ d
  omega
theorem Wj{c:Type}(a:c->Nat):∀(l:List c),(l.map a).sum≠0->∃x∈l,a x≠0
 |[],b=>absurd fX b
 |x::r,b=>by
  by_cases d:a x=0
  rw[lM,ctz,d,iO]at b
  have⟨y,e,f⟩:=Wj a r b
  grind
  grind
theorem UA(aa:n<=1048600)(G:gK B0 w W s r n)(h j k:Int)(S l)(d)(m o):
  ik 20 #[ie W,fD<|iT 6 h j k S l d m o] w λe H=>e=fF (fE fm)/\gK B0 H W s r (n+1)/\Below B0 w H:=by
 have⟨R,N,p,I,A,J,got,ws,ds,q,L,ab,t,D,ac⟩:=G;refine ID W h j k S l d m o (λH=>gK B0 H W s r (n+1)/\Below B0 w H) w λE u=>?_;have a:=q.below u;have⟨c0,_,F,c5,_⟩:=a.c01;have ad:=a.Mk;refine MB W s (fv ws) R.wc R.wa got _ E F c0 c5 (by omega) (by omega) (λx=>?_) (QC a.aau<|by omega) (λi U=>?_) λO d c v z=>?_;rw[a.cnt x];exact hrb _ _ λy f=>(rem (a.IC y f) x).1;have B:got.count got[i]≠0:=by
  grind
 rw[a.cnt]at B;obtain⟨y,f,K⟩:=Wj _ _ B;have⟨ae,M⟩:=nl<|(rem (a.IC y f) got[i]).2 K;refine⟨(((got[i]-1).toNat:Nat):Int),by omega,λH g=>?_⟩
 have:=rV (a.w3.below g) (got[i]-1).toNat M
 grind
 have P:=a.below v;refine(P.aa5 (by grind) (by omega) (tB z<|zt _) λb g=>?_).mono ?_;have C:=z.lt b g;exact⟨a.fresh b C.1,wy a.size C.1,λi Q=>by have:=(a.held i).lt b Q;omega⟩;rintro e H ⟨T,V,X,Y,Z⟩;exact⟨T,⟨V,N,p,I,A,J,got,ws,ds,Y,L.mono<|by omega,by omega,Mx X t<|hNe (t 11),D,by omega⟩,((pS q u).trans<|pS a v).trans Z⟩
theorem QD(s p:Nat)(id k:Int)(w:fq)(c:s<w.heap.size)(c0:w.c s 0=fh (ie p))(d:k≠2)(a:ik 61 #[ie p,fY id] w (ut (fY k) w)):
  ik 27 #[ie s,fY id] w (ut (fC #[fB fj,fY 13]) w):=by
 go_enter func27,ntmps27;go_wp2_with(go_at_call 61;refine a.via λO b=>?_);go_ret2;exact⟨fX,b⟩
theorem Hh(c:js N w s p A got brk I)(d:fK A id≠2):
  ik 27 #[ie s,fY id] w (ut (fC #[fB fj,fY 13]) w):=by
 obtain⟨g,i,j,⟨a,h,e,f,k,l,b⟩,m⟩:=c;exact QD s p id (fK A id) w (lW.1 b.hs).1 b.c0 d<|ug p a (fv A) h e f A id w b.gR
theorem MD:∀(L:List (fT×Nd))(k:Nat),wF (yi k L)/\∀e∈yi k L,e.2.1=1->(k:Int)<=e.2.2
 |[],k=>⟨by intro e f;(cases f),by intro e f;(cases f)⟩
 |(y,.dir)::r,k=>by
  obtain⟨h,j⟩:=MD r k
  rw[yi]
  refine⟨λe f i g a b c=>?_,λe f a=>?_⟩
  rcases mB.1 f with rfl|f
  cases a
  rcases mB.1 g with rfl|g
  cases b
  exact h e f i g a b c
  grind
 |(y,.file d)::r,k=>by
  obtain⟨h,j⟩:=MD r<|k+1
  rw[yi]
  refine⟨λe f i g a b c=>?_,λe f a=>?_⟩
  rcases mB.1 f with rfl|f<;>rcases mB.1 g with rfl|g
  rfl
  grind
  grind
  exact h e f i g a b c
  grind
theorem UB(A)(id:Int)(c b)(a):xc A c (.dir id) a=xc A b (.dir id) a:=by
 have:=(uO A a id).2
 unfold xc;rcases d:(LT.dir id).at A a with _|x
 rfl;rw[d]at this;cases x<;>first|rfl|cases this
theorem kr.new{b:Int}{E}{data}{c}(e:Reads A c (.dir b) E data)(f:gf E data)(g:wF E)(h:rest.take 32=uX.take 32):kr A (λ_=>fj) (λ_=>fj) (.dir b) E data rest:=by
 refine⟨⟨λ_=>0,List.replicate 8 (fo,0,0,0),rest.drop 32,?_,⟨λd q a=>absurd fX a,λd a=>absurd fX a,λi j⟨r,_,l⟩m n=>?_,g,by simp,λk o=>?_,(λk x p=>by cases p)⟩⟩,f⟩;rw[show xf (List.replicate 8 (fo,0,0,0))=uX.take 32 from fX,<-h,KP];obtain rfl:j=data:=KO λk=>l k λd a=>absurd fX a;rw[UB A b i c];exact e m n;rw[List.getElem?_replicate,lv o];rfl
theorem UC(A)(id:Int):gB A (.dir id):=λx y b a _=>by
 have:=(uO A x id).2
 rw[a]at this
 cases this
theorem xlo(d:gq fo fo R N w B0 W s r p I A J got ws ds)(b:fK A id=2):fM A 5 (.dir id):=by
 obtain⟨a,h,f,g,i,j,e⟩:=d.w3.wI.1;obtain⟨k,c⟩:=nl (by rw[b];decide);refine⟨b,?_⟩;unfold gu;rw[jH c];exact(e.gy _<|kN c).2
theorem ZP(c:gq fo fo R N w B0 W s r p I A J got ws ds):∀d∈J,∀e∈d.gh,e.1.size<=12:=by
 intro d j e a;obtain⟨i,U,rfl⟩:=rD j;have b:=c.w3.twin;have f:i<fv A:=by rw[b.1];exact U
 have g:=b.2.1 i f U;rcases b.2.2 _ (kN f)with k|k
 rw[g.none k]at a;cases a;rw[g.gh k]at a;obtain⟨l,m,rfl⟩:=ja.1 a;have h:=c.w3.wI.2.2.1.sound.2 ((i:Int)+1) (by grind [xa]);have n:fQ A ((i:Int)+1)=A[i].gh:=by
  grind [fQ,Int,jH]
 rw[n]at h;exact(xp (h.2.2 l m).1).2
theorem hrc(d:gq fo fo R N w B0 W s r p I A J got ws ds)(g:j<fv A):∃a b e,w.c W 4=fh (my a 0 (fv A) b)/\a<w.heap.size/\w.c a j=fh (fY e):=by
 obtain⟨h,k,l,m,n,b,f,c,_⟩:=d.w3.law;obtain⟨a,_⟩:=row_one c.uj (i:=j) (v:=.int .i64<|f[j]'(by omega)) (by grind [encI]);have c4:=c.c4
 grind
theorem QE(aD:n<=1048600)(a:gq fo fo R N w B0 W s r p I A J got ws ds)(L:L4 A ws ds (1200000+n))(aE:fv ws<=n)(D b E:Int)(S F)(K)(O P):
  ik 20 #[ie W,fD<|iT 7 D b E S F K O P] w λe H=>e=fF (fE fm)/\Below B0 w H/\∃l M f v,l.q=R.q/\gq fo fo l M H B0 W s r p I A J got f v/\L4 A f v (1200000+n)/\fv ws<=fv f/\fv f<=fv ws+1/\(fK A b=2->(∀h t g,w.c W 4=fh (my h 0 (fv A) t)->w.c h ((b-1).toNat)=fh (fY g)->g<=300)->fv f=fv ws+1):=by
 obtain⟨c0,c1,ac,_,_⟩:=a.c01;have X:∀c,ju w c->ik 39 #[ie W,fY b] c (PP (fY b) c):=λc d=>Fy (a.w3.below d) b;have same:∀H,ju w H->(fK A b=2->False)->Below B0 w H/\∃l M f v,l.q=R.q/\gq fo fo l M H B0 W s r p I A J got f v/\L4 A f v (1200000+n)/\fv ws<=fv f/\fv f<=fv ws+1/\(fK A b=2->(∀h t g,w.c W 4=fh (my h 0 (fv A) t)->w.c h ((b-1).toNat)=fh (fY g)->g<=300)->fv f=fv ws+1):=λH d o=>⟨pS a d,R,N,ws,ds,fX,a.below d,L,lw _,by omega,λak _=>(o ak).elim⟩;by_cases o:fK A b=2;obtain⟨aF,aG⟩:=nl (by rw[o];decide);obtain⟨j,Y⟩:∃j:Nat,b=(j:Int)+1:=⟨(b-1).toNat,by omega⟩;have q:j<fv A:=by omega
 have ad:∀c,ju w c->ik 41 #[ie W,fY b] c (PP (fY (j:Int)) c):=λc d=>by rw[Y];exact rV (a.w3.below d) j q
 have ae:∀c,ju w c->ik 42 #[ie W,fY (j:Int)] c (PP (fY 2) c):=λc d=>by
  have:=Bd (a.w3.below d) j q
  rwa [<-xa q,<-Y,o]at this
 obtain⟨h,t,g,c4,af,ag⟩:=hrc a q;have aH:=(W3.few a.w3).1;by_cases ah:300<g;refine(TZ W j (fv A) t h D b E g S F K O P w ac c4 q (by omega) af ag ah X ad ae).mono ?_;rintro e H ⟨y,d⟩;refine⟨y,pS a d,R,N,ws,ds,fX,a.below d,L,lw _,by omega,λ_ aI=>?_⟩
 grind
 have z:=xlo a o;have Q:=a.w3.wI.2.2.1;obtain⟨fc,al⟩:∃fc:jJ,fc=qQ:=⟨_,fX⟩;obtain⟨k,Z⟩:=ol<|py A fc 5 [] (.dir b);have ai:=He (fc:=fc) a.w3.twin Q a.w3.at_ 5 (j+1) j [] ([],[]) (by omega) (λx am=>by cases am) (by grind) (by grind [fM]);rw[<-Y,<-Z]at ai;have aJ:jA J (j+1) j kq ([],[])=(yi 0 k,rc k):=ai.trans (by simp);have aa:=Up Q.sound (fc:=fc) z;rw[<-Z]at aa;have an:fv (yi 0 k)<=1200000:=by rw[CU];exact aa
 have ao:=wy (xR _) aa;have T:=KA (fc:=fc) Q.sound z fX;have ab:=ZN (fc:=fc) Q.sound z fX;rw[<-Z]at T ab;refine(hlr a (by omega) L.len j (fv A) t h D b E g S F K O P c4 q (by omega) af ag ah (wg0 b got) (.dir b) (λx=>rfl) (yi 0 k) (rc k) ⟨z,by rw[al]at T;exact T,ab,an,ao⟩ (PR:=λrest=>rest.take 32=uX.take 32) X ad ae (λc d=>?_) λG w2 ap aq=>?_).mono ?_;refine(Zc (a.below d).aau (i:=fv ws+2) (by omega) z).mono ?_;rintro e H ⟨B,y,M,m,u⟩;exact⟨B,M,y,m,u.inv.st,⟨u.inv.two,u.inv.wp,u.flat,u.ok,u.fl,UC A b⟩⟩;have ar:=a.w3.twin
 have:=Mj J r j G w2 a.w3.at_ (ZP a) (by rw[<-ar.1];exact q) (by omega) (by grind) (by grind) ap aq
 grind
 rintro e H ⟨y,l,M,B,aK,rest,au,av,aw,ax⟩;refine⟨y,ax,l,M,_,_,av,aw,⟨by simp[L.len],λi U aL=>?_⟩,by simp,by simp,λ_ _=>by simp⟩;simp only[Rt];by_cases C:i<fv ws;have V:i<fv ds:=by rw[L.len];exact C
 simp only[C,V,dite_true];exact L.same i C V;have V:¬i<fv ds:=by rw[L.len];exact C
 have aM:i=fv ws:=by simp at U;omega
 have ay:i-fv ws=0:=by omega
 have az:i-fv ds=0:=by rw[L.len];omega
 simp only[C,V,dite_false,ay,az,ED];refine⟨?_,by show(yi 0 k).length<=_;omega,by show(rc k).length<=_;omega⟩;exact kr.new T ab (MD k 0).1 au;obtain⟨aA,aB,aC,aj⟩:=Oa (ft:=⟨R.pt,p,[]⟩) W s r A J (fy R.wa (fv ws) R.wc) (fy R.ta (fv ds) R.tc) (fE fo) (R.sl 8) (R.sl 9) (R.sl 10) (R.sl 11) b o;refine(TY W s D b E aA aB S F K O P w ac c0 aC X (λc d=>(aj c (a.w3.below d)).1) (λc d=>(aj c (a.w3.below d)).2) λc d=>Hh (a.below d).aau o).mono ?_
 grind
theorem hrf(j:n<=1048600)(G:gK B0 w W s r n)(a b c:Int)(S f)(g)(h i):
  ik 20 #[ie W,fD<|iT 7 a b c S f g h i] w λe H=>e=fF (fE fm)/\gK B0 H W s r (n+1)/\Below B0 w H:=by
 obtain⟨R,N,p,I,A,J,got,ws,ds,k,L,B,l,C,m⟩:=G;refine(QE j k L m a b c S f g h i).mono ?_;rintro e H ⟨o,q,t,M,u,v,x,y,z,_⟩;exact⟨o,⟨t,M,p,I,A,J,got,u,v,y,z.mono<|by omega,by omega,λd=>by rw[x];exact wu<|l d,by omega,by omega⟩,q⟩
theorem Hi(c:n<=1048600)(G:gK B0 w W s r n):ik 24 #[fB<|fh (ii W 8)] w (ut (fE fm) w):=by
 obtain⟨R,N,p,I,A,J,got,ws,ds,a,L,e,b,_⟩:=G;exact a.still (λd=>by have:=b d;omega)
theorem gK.below(G:gK B0 w W s r n)(a:ju w H):gK B0 H W s r n:=by
 obtain⟨R,N,p,I,A,J,got,ws,ds,b,rest⟩:=G;exact⟨R,N,p,I,A,J,got,ws,ds,b.below a,rest⟩
theorem gK.cells(G:gK B0 w W s r n):w.c W 0=fh (ie s)/\W<w.heap.size/\B0<=w.heap.size:=by
 obtain⟨R,N,p,I,A,J,got,ws,ds,a,rest⟩:=G;exact⟨a.c01.1,a.c01.2.2.1,a.size⟩
theorem gK.mono(G:gK B0 w W s r n)(a:n<=m):gK B0 w W s r m:=by
 obtain⟨R,N,p,I,A,J,got,ws,ds,b,L,f,c,e,g⟩:=G;exact⟨R,N,p,I,A,J,got,ws,ds,b,L.mono<|by omega,by omega,λd=>wy (c d) a,e,by omega⟩
def QF(n)(e)(a):mn fl n (ltOf e) a=(e.2.2,a):=by
 unfold ltOf;split<;>(cases n<;>rw[mn])
theorem BR(n):∀(es acc:List fV),(∀e∈es,e.2.1=1\/e.2.1=2)->(es.map wl).foldl (λ(b:List fV×List Ob)x=>(b.1++[(x.1,x.2.kind,(mn fl n x.2 b.2).1)],(mn fl n x.2 b.2).2)) (acc,a)=(acc++es,a)
 |[],acc,_=>by simp
 |e::r,acc,d=>by
  rw[lM,Hy]
  have f:(ltOf e).kind=e.2.1:=by
   unfold ltOf;split
   rename_i c
   rw[c];rfl
   rename_i c
   rw[(d e<|oK ..).resolve_right c];rfl
  show(r.map wl).foldl _ (acc++[(e.1,(ltOf e).kind,(mn fl n (ltOf e) a).1)],(mn fl n (ltOf e) a).2)=_;rw[QF,f,BR n r _ λx g=>d x<|wq _ g];simp
theorem hrl(h:mL a)(i:fM a n c)(j:nY a fl)(b:nd a (gz a fl) c=.file d):mn fl n c a=ki a d:=by
 cases c with
 |file id=>
  have e:=Nd.file.inj b;rw[fM]at i;rw[<-e,h.uv i]
  grind [mn]
 |held f=>
  have e:=Nd.file.inj b;have k:mn fl n (.held f) a=kK (fl f) a:=by cases n<;>rw[mn]
  rw[k,<-e];unfold gz;rcases l:fl f with _|x
  rfl;obtain⟨id,d0⟩:=x;simp only;by_cases g:id≠0;rw[lv g,h.uv<|(j f id d0 l).1 g];simp[kK,g]
  grind [kK]
 |dir id=>cases b
 |own es=>cases b
theorem nan(g:Exact a)(h:mL a)(o:n<=5)(d:fM a n c){Y:Kids}(b:kids a c=fh Y):∃m,m<=n/\mn fl n c a=kG (lj fl m Y a).2 (lj fl m Y a).1/\∀x∈Y,n=m+1/\fM a m x.2:=by
 have i:=(lO g.sound d b).2.2;cases n with
 |zero=>
  have:Y=[]:=by
   rcases Y with _|⟨x,r⟩
   rfl;obtain⟨_,m,e,_⟩:=i x<|oK ..;omega
  subst this;refine⟨0,lw _,?_,λx f=>by cases f⟩;show _=kG a [];cases c with
  |file id=>cases b
  |held k=>cases b
  |own es=>rw[mn]
  |dir id=>
   rw[fM]at d
   have:fQ a id=[]:=by simpa [kids]using b
   rw[<-this,h.yg d.1,mn]
 |succ n=>
  refine⟨n,jh _,?_,λx f=>⟨fX,by obtain⟨m,e,j⟩:=(i x f).2;rw[show m=n by omega]at j;exact j⟩⟩;cases c with
  |file id=>cases b
  |held k=>cases b
  |own es=>cases b;exact uu fl n _ a
  |dir id=>
   rw[fM]at d;cases b;unfold lj;rw[BR n (fQ a id) [] λe l=>((g.sound.2 id d.1).2.2 e l).2.1,Hx,h.yg d.1,mn]
def QG (r:Int×List Ob)(J tk:List Ob)(x:Int):Prop:=J <+: tk/\((fv r.2<=400/\x=r.1-1/\Twin r.2 tk/\gT tk)\/(400<fv r.2/\x=-1))
theorem hrw(b:Twin a J)(h:fv a<=400)(g:gT J)(j:AA J tk (xr d) x):QG (ki a d) J tk x:=by
 have f:=Ju b d;unfold ki;rcases j with⟨i,c,rfl,rfl⟩|⟨c,k,rfl,rfl⟩|⟨c,k,rfl,rfl⟩
 rw[<-f,c];exact⟨sM _,.inl ⟨h,by simp only;omega,b,g⟩⟩;rw[<-f,c];exact⟨sM _,.inr ⟨by simp only[lI,BX];have:=b.1;omega,fX⟩⟩;rw[<-f,c];exact⟨qz _ _,.inl ⟨by simp only[lI,BX];have:=b.1;omega,by simp only;rw[b.1];omega,yl b ⟨fX,λ_=>rfl,λb=>absurd b (show ¬(1:Int)=2 by decide),fX,λ_=>rfl,λb=>absurd b (show ¬(1:Int)=2 by decide)⟩<|.inl fX,vE g λe l=>by cases l⟩⟩
theorem KC(c:Twin a J)(d:∀e∈es,fK a e.2.2=e.2.1/\e.2.1≠0):xt J (es.map gH)=gy a es:=by
 have b:∀e∈es,EQ a e=fm:=λe g=>by
  obtain⟨h,i⟩:=d e g;unfold EQ;rw[h];simp[i]
 rw[<-KS (f:=lR<|fv a) λz j=>Vt<|zN (b z j)];exact zO c es 0 b
theorem nes{v:ig×Nat}(b:Twin a J)(h:fv a<=400)(f:gT J)(g:∀e∈es,fK a e.2.2=e.2.1/\e.2.1≠0)(j:AA J tk (Li v m<|es.map gH) x):QG (kG a es) J tk x:=by
 have d:=NT b v m es;unfold kG;rcases j with⟨i,c,rfl,rfl⟩|⟨c,k,rfl,rfl⟩|⟨c,k,rfl,rfl⟩
 rw[<-d,c];exact⟨sM _,.inl ⟨h,by simp only;omega,b,f⟩⟩;rw[<-d,c];exact⟨sM _,.inr ⟨by simp only[lI,BX];have:=b.1;omega,fX⟩⟩;rw[<-d,c];refine⟨qz _ _,.inl ⟨by simp only[lI,BX];have:=b.1;omega,by simp only;rw[b.1];omega,yl b ⟨fX,λb=>absurd b (show ¬(2:Int)=1 by decide),λ_=>rfl,KC b g,λb=>absurd b (show ¬(2:Int)=1 by decide),λ_=>rfl⟩<|.inr fX,vE f λe l=>?_⟩⟩;obtain⟨y,n,rfl⟩:=ja.1 l;obtain⟨o,p⟩:=g y n;obtain⟨q,r⟩:=nl (by rw[o];exact p)
 have:=b.1
 show 0<=y.2.2-1/\y.2.2-1<_;omega
def Hj (a:List Ob):Prop:=∀(i:Nat)(b:Ob),a[i]?=fh b->b.kind=2->∀e∈b.gh,e.2.2<=(i:Int)
theorem UD(b:Twin a J)(d:gT J):Hj a:=λi j f g e h=>by
 obtain⟨U,rfl⟩:=wH.1 f
 have c:i<fv J:=by rw[<-b.1];exact U
 have:=d i c (gH e) (by rw[(b.2.1 i U c).gh g];exact DZ h)
 have:e.2.2-1<(i:Int):=this.2
 omega
theorem Hj.Px{b}(h:gL a b)(j:Hj a):Hj b:=by
 induction h with
 |nil=>exact j
 |@snoc b o _ l m=>
  intro i x c d e f;by_cases U:i<fv b;rw[wk U]at c;exact m i x c d e f;have n:=(wH.1 c).1;simp only[lI,BX]at n;rw[show i=fv b by omega]at c |-;simp only[BU<|lw _,EK,rrs,pV]at c;subst c;rcases l.or with⟨k,_⟩|⟨_,_,_,_,_,g,_⟩
  rw[k]at d;cases d
  have:=nl (by rw[(g e f).2.2];exact ne0 (g e f).2.1)
  omega
def Names (b:List Ob)(j:Nat):Prop:=∃k a,j<k/\b[k]?=fh a/\a.kind=2/\∃e∈a.gh,e.2.2=(j:Int)+1
theorem Names.app{b}{j}(c:Names b j)(l:List Ob):Names (b++l) j:=by
 obtain⟨k,d,e,a,f⟩:=c;exact⟨k,d,e,by rw[wk (wH.1 a).1];exact a,f⟩
def KD (a:List Ob)(r:Int×List Ob):Prop:=(fv a<fv r.2->r.1=(fv r.2:Int))/\∀j,fv a<=j->j+1<fv r.2->Names r.2 j
theorem lU(id:Int):KD a (id,a):=⟨λb=>absurd b<|hPQ _,λj d c=>by simp only at c;omega⟩
theorem KE(b:Ob):KD a ((fv a:Int)+1,a++[b]):=⟨λ_=>by simp,λj d c=>by simp at c;omega⟩
def Hl(d):KD a (ki a d):=by
 unfold ki;split;exact lU _;exact KE _
theorem UE(s:n<=5)(A:∀(c:LT)(a:List Ob),Exact a->fM a n c->nY a fl->Hj a->KD a (mn fl n c a)):∀(l:Kids)(a:List Ob),Exact a->nY a fl->Hj a->(∀x∈fx l,fN x.1=fm/\fM a n x.2)->
  (fv a<(lj fl n (fx l) a).2.length->∃e∈(lj fl n (fx l) a).1,e.2.2=((lj fl n (fx l) a).2.length:Int))/\∀j,fv a<=j->j<(lj fl n (fx l) a).2.length->Names (lj fl n (fx l) a).2 j\/∃e∈(lj fl n (fx l) a).1,e.2.2=(j:Int)+1:=by
 intro l
 induction l with
 |nil=>intro a _ _ _ _;exact⟨λd=>absurd d<|hPQ _,λj f g=>absurd (hBN f g)<|hPQ _⟩
 |cons x r B=>
  intro a h q t u;have v:∀y∈fx r,fN y.1=fm/\fM a n y.2:=λy C=>u y (by rw[kz];simp[List.mem_reverse.1 C])
  obtain⟨D,E⟩:=B a h q t v;obtain⟨i,_⟩:=rT fl n (λc a F k m=>kT fl n s c a F k m) (fx r) a h q v;obtain⟨w,z⟩:=i.app;have k:fM (lj fl n (fx r) a).2 n x.2:=by rw[z];exact jo w n _ (u x<|by simp).2
  have m:nY (lj fl n (fx r) a).2 fl:=by rw[z];exact q.app w
  have G:=A x.2 _ (i.exact h) k m<|t.Px i;obtain⟨o,H⟩:=(kT fl n s x.2 _ (i.exact h) k m).dr.app;rw[kz,kR];generalize lj fl n (fx r) a=I at *;obtain⟨es,b⟩:=I;simp only at *;generalize mn fl n x.2 b=J at *;obtain⟨id,N⟩:=J;simp only at *;subst H;obtain⟨c1,c2⟩:=G;simp only at c1 c2;refine⟨λd=>?_,λj f g=>?_⟩;by_cases p:fv b<fv (b++o);exact⟨_,WA _<|oa.2 fX,c1 p⟩
  have:o=[]:=KL (by rw[lI]at p;omega)
  subst this;rw[lJ]at d |-;obtain⟨e,f,g⟩:=D d;exact⟨e,Rs _ f,g⟩;by_cases p:j<fv b;rcases E j f p with d|⟨e,K,L⟩
  exact .inl<|d.app o;exact .inr ⟨e,Rs _ K,L⟩;by_cases M:j+1<fv (b++o);exact .inl<|c2 j (by omega) M;exact .inr ⟨_,WA _<|oa.2 fX,by simp only;rw[c1<|by omega];omega⟩
theorem ZQ:∀(n:Nat),n<=5->∀(c:LT)(a:List Ob),Exact a->fM a n c->nY a fl->Hj a->KD a (mn fl n c a):=by
 intro n
 induction n with
 |zero=>
  intro _ c a l f o g;cases c with
  |file id=>rw[mn];exact lU _
  |dir id=>rw[mn];exact lU _
  |held t=>rw[mn];unfold kK;split<;>(try split)<;>first|exact lU _|exact Hl _
  |own es=>
   grind [mn,kG,lU,KE]
 |succ n u=>
  intro E c a l f o g;cases c with
  |file id=>rw[mn];exact lU _
  |dir id=>rw[mn];exact lU _
  |held t=>rw[mn];unfold kK;split<;>(try split)<;>first|exact lU _|exact Hl _
  |own es=>
   have v:∀y∈es,fN y.1=fm/\fM a n y.2:=λy w=>by
    obtain⟨h,m,e,d⟩:=(lO l.sound f (Y:=es) fX).2.2 y w;rw[show m=n by omega]at d;exact⟨h,d⟩
   have s:=UE (by omega) (λc a p f q g=>u (by omega) c a p f q g) (fx es) a l o g (by grind);rw[tP]at s;obtain⟨x,_⟩:=rT fl n (λc a p f q=>kT fl n (by omega) c a p f q) es a l o v;rw[uu];generalize lj fl n es a=z at *;obtain⟨r,b⟩:=z;simp only at *;obtain⟨c1,c2⟩:=s;unfold kG;cases A:gI b r with
   |some i=>
    obtain⟨U,d1,d2⟩:=Jn A;have B:¬fv a<fv b:=λk=>by
     obtain⟨e,h,d⟩:=c1 k
     have:=(g.Px x) i b[i] (jH U) d1 e (by grind)
     omega
    exact⟨λk=>absurd k B,λj h d=>by simp only at d;omega⟩
   |none=>
    refine⟨λ_=>by simp,λj h d=>?_⟩;simp only[lI,BX]at d;rcases c2 j h (by omega)with k|⟨e,C,D⟩
    exact k.app _;exact⟨fv b,Ls r<|gy b r,by omega,by simp,fX,e,C,D⟩
theorem Aj.below{ba wa}{Z wc}{base}{T}(a:Aj w rest ba wa Z wc base T)(d:Below b w H)(e:b=w.heap.size):Aj H rest ba wa Z wc base T:=
 ⟨a.r32,a.r33,gg a.TX λg c=>d.block g (by rw[e];exact gc a.TX c),gg a.yY λg c=>d.block g (by rw[e];exact gc a.yY c)⟩
def BS{a b:Type}(g:a->List b){l:List a}(c:k<fv l):(l.take<|k+1).flatMap g=(l.take k).flatMap g++g l[k]:=by
 rw[vk c,List.flatMap_append];simp
def gp.c34(b:gp F w S na da nc dc E data rest)(a:Aj w rest ba wa Z wc base T):w.c S 34=fh (fy ba (fv base) Z)/\w.c S 35=fh (fy wa (fv T) wc):=by
 constructor<;>simp[World.cell?,b.hS,a.r32,a.r33]
theorem tO{a}{n c}(b:w.ownsRow 0 200 3 (fy a n c) n (flat es)):jx w a n es:=by
 refine⟨by have:=b.1;rw[ly]at this;omega,λd=>?_⟩;have⟨g,i,e⟩:=hZ b d;cases (lK e).1;exact⟨g,0,fX,gc b fX,λj f h=>by have:=ks b j f h;simpa using this⟩
theorem Ao(l)(p):(Pl l p=fj/\nw l p=fj)\/∃i,∃U:i<fv l,Pl l p=fh i/\((l[i].2.1≠1/\nw l p=fj)\/(l[i].2.1=1/\nw l p=fh l[i].2.2)):=by
 unfold nw;rcases a:Pl l p with _|i
 grind
 have U:i<fv l:=(yQ.1 a).1
 grind
theorem hsa(l:List Ob)(b:fM a n c):kids (a++l) c=kids a c:=by
 cases c with
 |file i=>rfl
 |held d=>rfl
 |dir i=>rw[fM]at b;simp only[kids];rw[pI l<|by omega]
 |own es=>rfl
def xlt(d:Sound a)(l:List Ob)(b:nY a fl)(e:fM a n c):nd (a++l) (gz (a++l) fl) c=nd a (gz a fl) c:=by
 have:=mZ d l (gz a fl) [] n c e
 rw[px,px,<-Md b l]at this;rw[rF this,Md b l]
def hsb (S r:Nat)(na da:ig)(nc dc:Nat)(E:List fV)(data:fT)(rest:iN)(A:List Ob)(fl:Nat->Option (Int×fP))(t:LT)(n:Nat):Prop:=
 ∀(a:fT)(c:LT)(l J:List Ob)(F G:Nat->Prop)(w:fq),fv a+n=5->t.at A a=fh c->gp F w S na da nc dc E data rest->gj G w r J->(∀k,G k->k<w.heap.size)->(∀k,F k->k<w.heap.size/\¬G k)->
  Twin (A++l) J->gT J->Exact (A++l)->mL (A++l)->fv (A++l)<=400->
  Calls prog 108 #[fB<|fh ⟨S,0,fj⟩,fB<|fh ⟨r,0,fj⟩,fA<|fG a] w λe H=>∃x tk,e=fF (.int .i64 x)/\QG (mn fl n c<|A++l) J tk x/\gj (kA G w H) H r tk/\fH G w H
theorem xno(q:Reads A (gz A fl) t E data)(h:gf E data){b}(r:fL b)(s:t.at A b=fh c):
  (c.kind=2/\(Pl E (fG b)=fj\/∃i,∃U:i<fv E,Pl E (fG b)=fh i/\E[i].2.1≠1))\/(∃i,∃U:i<fv E,∃j:Nat,∃G:j<fv data,Pl E (fG b)=fh i/\E[i].2=(1,(j:Int))/\nd A (gz A fl) c=.file data[j]):=by
 have a:=q b r;unfold xc at a;rw[s,oV]at a;by_cases p:b=[];subst p;have u:c.kind=2:=by
  unfold gm at a;rw[lv fX]at a;cases c<;>first|rfl|(exfalso;cases a)
 refine .inl ⟨u,.inl ?_⟩;refine Wv.2 λe v=>?_;have⟨y,w,z,_,B⟩:=h.jG e v;simp only[decide_eq_false_iff_not];intro f
 have:=iy (by simpa [iQ,Au]using f)
 rw[B]at this;exact w<|sq z (λx C=>by cases C) this;have d:=Qx (E:=E) p;rcases n:gm E b with _|x
 grind
 obtain⟨k,j⟩:=x;rw[n]at a d;rw[oV,pV]at a;rw[wd]at d;rcases Ao E (fG b) with⟨l,f⟩|⟨i,U,l,⟨f,m⟩|⟨f,m⟩⟩
 have g:k≠1:=λe=>by rw[e,lv fX,f]at d;cases d
 have o:k=2:=(tG h n).resolve_left g;subst o;exact .inl ⟨by cases c<;>first|rfl|(exfalso;cases a),.inl l⟩;have g:k≠1:=λe=>by rw[e,lv fX,m]at d;cases d
 have o:k=2:=(tG h n).resolve_left g;subst o;exact .inl ⟨by cases c<;>first|rfl|(exfalso;cases a),.inr ⟨i,U,l,f⟩⟩;have g:k=1:=Decidable.byContradiction λe=>by rw[km e,m]at d;cases d
 subst g;rw[lv fX,m]at d;obtain⟨f0,f1⟩:=h.files _ (kN U) f;obtain⟨fn,D⟩:∃fn:Nat,E[i].2.2=(fn:Int):=⟨E[i].2.2.toNat,by omega⟩;have F:fn<fv data:=by omega
 refine .inr ⟨i,U,fn,F,l,by rw[<-f,<-D],?_⟩;rw[a];unfold Iz
 grind
theorem Ap{G c}(a:fH G w O)(b:fH c O w2)(g:∀k,c k->G k\/w.heap.size<=k):fH G w w2:=
 ⟨b.os.trans a.os,b.tape.trans a.tape,b.output.trans a.output,wy a.size b.size,λk d f=>(b.block k (np d a.size) λe=>(g k e).elim f λe=>by omega).trans<|a.block k d f⟩
theorem QH{w w2 c}{d}{f}{own:Option Nat}(a:fH G w w2)(b:((w2.drewN d).alloc f).grownBy c own)(h:∀k,fh k=own->w.heap.size<=k):fH G w c:=
 ⟨b.os.trans a.os,b.tape.trans a.tape,b.output.trans a.output,wy a.size (by have:=b.size;simp at this;omega),λk g i=>(b.block k (by have:=a.size;simp;omega) (λe=>by have:=h k e;omega)).trans<|(oq w2 d f k (np g a.size)).trans (a.block k g i)⟩
theorem QI(a:gp F w S na da nc dc E data rest)(p){i b:Nat}(U:i<fv E)(k:b<fv data)(l:Pl E p=fh i)(o:E[i].2=(1,(b:Int)))(q:fv E<=1000000000)(y:fv data<=1000000000)(R:Int->fq->Prop)
  (h:∀z,ik 78 #[ie r,fD #[fY 1,fA data[b],fy fj 0 0,fY 0]] (w.drewN z) λe H=>∃x,e=fF (fY x)/\R x H):
  ik 108 #[ie S,ie r,hh p] w λe H=>∃x,e=fF (fY x)/\R x H:=by
 have c:=pK na (fv E) nc E p w (tO a.lT) q;rw[l]at c;obtain⟨d,j⟩:=ol<|data[b];rw[<-j]at h;obtain⟨n,s⟩:=ol<|fv E;obtain⟨m,t⟩:=ol<|fv data;have f:=a.lT;have⟨g,K,u⟩:=hZ f (by omega);have A:=(lK u).1;subst A;have⟨_,c1,c2⟩:=lr (off:=0) (ks f) U;rw[iO,o]at c1 c2;have⟨L,B,M,N,_⟩:=row_one a.jq (i:=b) (v:=fA d) (by simp[gO,k,j]);subst B;have C:=a.c0;have D:=a.c1;have P:=a.lt;have Q:=gc f fX;rw[<-s]at c C U q;rw[<-t]at D k y;have G:ik 106 #[my g 0 n nc,hh p] w (PP (fY (i:Int)) w):=c;have T:(i:Int)<(n:Int):=by omega
 have V:(b:Int)<(m:Int):=by omega
 have I:fe _:=h;simp only at c1 c2;clear c a f u l o s t j h;go_enter func108,ntmps108;go_wp2_with fail;refine Calls.still G ?_;go_wp2
 go_region_with(go_at_call 78;apply RK<|I.o _;rintro _ O ⟨x,rfl,J⟩)
 all_goals
  go_wp2;go_ret;exact⟨x,fX,J⟩
theorem UF(u:gp F w S na da nc dc E data rest)(aC:∀k,F k->k<w.heap.size/\¬G k)(p:fP)(bw:p.size<=1000)(A:Pl E p=fj\/∃i,∃U:i<fv E,Pl E p=fh i/\E[i].2.1≠1)(ai:fv E<=1000000000)(d:fT)(aZ:fv d<=16)(aD:∀x∈d,x.size<=12)
  (aE:ik 156 #[ie S,hh p] w λe H=>∃v,e=fF v/\H.ownsRow w.heap.size 9 1 v (fv d) (gO d)/\ju w H)
  (h:Nat->List fV->(Nat->Prop)->fq->Prop)(R:Int->fq->Prop)(aF:∀O,ju w O->h 0 [] G O)
  (aa:∀{j es b wr},h j es b wr->fv es=j/\∀k,b k->k<wr.heap.size/\(G k\/w.heap.size<=k))
  (o:∀{j es b wr wr'},h j es b wr->(∀k,b k->wr'.heap[k]?=wr.heap[k]?)->wr.heap.size<=wr'.heap.size->h j es b wr')
  (aG:∀j(bb:j<fv d)es b wr,h j es b wr->gp F wr S na da nc dc E data rest->(∀k,F k->k<wr.heap.size/\¬b k)->fH G w wr->
   ik 108 #[ie S,ie r,hh<|iV p d[j]] wr λe H=>∃x,e=fF (fY x)/\fH b wr H/\((x<0/\R (-1) H)\/(0<=x/\h (j+1) (es++[(d[j],nz E<|iV p d[j],x)]) (kA b wr H) H)))
  (aj:∀es b wr q s,h (fv d) es b wr->fH G w wr->wr.ownsRow 0 112 3 (fy q (fv d) s) (fv d) (flat es)->(∀g,(Value.slice q (fv d) s).ownBlock=fh g->¬b g/\w.heap.size<=g)->
   ik 78 #[ie r,fD #[fY 2,hh kq,fy q (fv d) s,fY 0]] wr λe H=>∃x,e=fF (fY x)/\R x H):
  ik 108 #[ie S,ie r,hh p] w λe H=>∃x,e=fF (fY x)/\R x H:=by
 have⟨bc,y,bd,be,ab⟩:=kC wO;have T:=pK na (fv E) nc E p w (tO u.lT) ai;obtain⟨n,aH⟩:=ol<|fv E;obtain⟨m,ak⟩:=ol<|fv d;have al:=u.c0;have bx:=u.lt;have bf:(pz (Pl E p)=-1)\/(∃i:Nat,∃g,∃K:Int,pz (Pl E p)=(i:Int)/\(i:Int)<(n:Int)/\g<w.heap.size/\na=fh (ii g 0)/\w.c g (i*3+1)=fh (fY K)/\(K==1)=fo):=by
  rcases A with A|⟨i,U,A,V⟩
  exact .inl (by rw[A];rfl);have f:=u.lT;have⟨g,bz,bg⟩:=hZ f (by omega);have aI:=(lK bg).1;rw[aI]at f;have⟨_,c1,_⟩:=lr (off:=0) (ks f) U;rw[iO]at c1;exact .inr ⟨i,g,_,by rw[A];rfl,by omega,gc f fX,aI,c1,by simpa using V⟩
 have bh:fe (gp F w S na da nc dc E data rest):=u;have HFG:fe (∀k,F k->k<w.heap.size/\¬G k):=aC;have bi:fe (∀x∈d,x.size<=12):=aD;have aJ:fe (∀O,ju w O->h 0 [] G O):=aF;have ac:fe (∀{j es b wr},h j es b wr->fv es=j/\∀k,b k->k<wr.heap.size/\(G k\/w.heap.size<=k)):=aa;have bj:fe (∀{j es b wr wr'},h j es b wr->(∀k,b k->wr'.heap[k]?=wr.heap[k]?)->wr.heap.size<=wr'.heap.size->h j es b wr'):=o;have bk:fe _:=aG;have am:fe _:=aE;rw[<-aH]at T al;rw[<-ak]at aj aZ am;have bl:fe _:=aj;have aK:fe (m=fv d/\fv E<=1000000000):=⟨ak,ai⟩;clear u aC aD aF aa o aG aE aj A ak aH ai;rcases bf with A|⟨i,g,K,A,bA,an,W,c1,ao⟩
 case' inl=>rw[A]at T
 case' inr=>
  rw[A,W]at T;rw[W]at al;clear W
 all_goals
  clear A;go_enter func108,ntmps108;go_wp2_with fail;refine Calls.still T ?_;clear T;go_wp2_with fail;apply RK am.o;rintro _ O ⟨v,rfl,N,X⟩;obtain⟨ap,J,rfl⟩:=po N;have bm:fe (O.ownsRow w.heap.size 9 1 (fy ap m J) m (gO d)/\ju w O):=⟨N,X⟩;clear N X am al;go_wp2
  go_loopw [9,10] (λl i wr=>∃(j:Nat) (q:ig) (s:Nat),j<=m/\i=.int .i64 (j:Int)/\l=fy q j s/\fe (∃es b,h j es b wr/\fH G w wr/\wr.ownsRow w.heap.size 112 3 (fy q j s) j (flat es)/\wr.ownsRow w.heap.size 9 1 (fy ap m J) m (gO d)/\∀k,b k->fh k≠(Value.slice q j s).ownBlock/\fh k≠(Value.slice ap m J).ownBlock)) (λ_ i _=>m-(intOf i).toNat)
  case atStart=>
   have⟨N,X⟩:=bm.o;refine⟨0,fj,0,zt _,fX,fX,[],G,aJ.o O X,fH.fJ X,kO _ _ _ _,N,λk c=>⟨(λe=>by cases e),λe=>?_⟩⟩;have bB:=((ac.o<|aJ.o w (mi _ _)).2 k c).1;have bC:=(N.lt k e.symm).1;omega
  case round=>
   obtain⟨j,q,s,bb,rfl,rfl,aL⟩:=hrel;have⟨es,b,y,o,f,C,z⟩:=aL.o;clear aL;by_cases aa:j<m
   ·have aq:j<fv d:=by rw[<-aK.o.1];exact aa
    have⟨B,W,an,ar,_⟩:=row_one (tB C<|zt _) (i:=j) (v:=fA d[j]) (by simp[gO,aq]);subst W;have au:gp F wr S na da nc dc E data rest:=bh.o.keep (λ_ u=>u) λk c=>o.block k (HFG.o k c).1 (HFG.o k c).2;have av:∀k,F k->k<wr.heap.size/\¬b k:=λk c=>⟨np (HFG.o k c).1 o.size,λt=>by
     rcases((ac.o y).2 k t).2 with e|e
     exact(HFG.o k c).2 e
     have:=(HFG.o k c).1;omega⟩
    have aw:=bk.o j aq es b wr y au av o;obtain⟨x,ad⟩:=ol<|d[j];have bD:x.size<=12:=by rw[ad];exact bi.o _<|kN aq
    obtain⟨D,P⟩:=ol<|iV p x;rw[<-ad,<-P]at aw;rw[<-ad]at ar;have ae:fe (D=iV p x):=P;have aM:fe _:=aw;have aN:fe _:=au;have Bh:fe _:=av;have aO:fe _:=And.intro y<|And.intro o (And.intro f<|And.intro C z);have aP:(j:Int)<(m:Int):=by omega
    clear aw au av y o f C z P ad;go_upto_if 63 with fail
    go_cut [11]from 52 to 85 λbn bo=>bn=fA D/\bo=wr
    case first=>
     cases Y:(p.toList==[]) with
     |true=>
      have ax:fe (D=x):=Fr<|by rw[ae.o];unfold iV;rw[lv<|eq_of_beq Y]
      have ay:(!p.toList.isEmpty)=fo:=by rw[eq_of_beq Y];rfl
      go_wp2_with fail
      all_goals first
       |(exfalso;rename (! _)=_=>GD;rw[ay]at GD;cases GD;done)
       |(go_meet;exact⟨by rw[ax.o],fX⟩)
     |false=>
      have ax:fe (D=p++⟨#[47]⟩++x):=Fr<|by rw[ae.o];unfold iV;rw[km<|EE.1 Y]
      have ay:(!p.toList.isEmpty)=fm:=by
       cases bp:p.toList with
       |nil=>rw[bp]at Y;cases Y
       |cons _ _=>rfl
      go_wp2_with fail
      all_goals first
       |(exfalso;rename (! _)=_=>GD;rw[ay]at GD;cases GD;done)
       |(go_meet;exact⟨by rw[ax.o],fX⟩)
    case rest=>
     obtain⟨rfl,aQ⟩:=hcut;rw[aQ];clear aQ;go_wp2_with fail;apply RK aM.o;rintro _ w2 ⟨Z,rfl,I,⟨bE,af⟩|⟨bq,ab⟩⟩
     ·have br:fe _:=af
      clear I af;go_wp2;go_ret;exact⟨_,fX,br.o⟩
     have⟨y,o,f,C,z⟩:=aO.o;have bs:fh B=(Value.slice (fh<|ii B 0) m J).ownBlock:=fX;have bF:w2.c B j=fh (hh x):=(wJ (a:=(ii B j)) (I.block B an λe=>(z B e).2 bs)).trans ar;have bG:B<w2.heap.size:=np an I.size;have az:fe (w2.ownsRow w.heap.size 112 3 (fy q j s) j<|flat es):=gg f λg t=>I.block g (gc f t) λe=>(z g e).1 t.symm;have aA:fe (w2.ownsRow w.heap.size 9 1 (my B 0 m J) m<|gO d):=gg C λg t=>I.block g (gc C t) λe=>(z g e).2 t.symm;have aR:gp F w2 S na da nc dc E data rest:=aN.o.keep (λ_ u=>u) λk c=>I.block k (Bh.o k c).1 (Bh.o k c).2;have aS:fe (∀ag,ik 155 #[ie S,hh D] (w2.drewN ag) λe H=>e=fF (fY<|nz E D)/\H=w2.drewN ag):=λag=>pL (w:=w2.drewN ag) (aR.keep (λ_ u=>u) λ_ _=>rfl) D aK.o.2;have aT:fe (fH G w w2):=Ap o I λk c=>((ac.o y).2 k c).2;have HNE:fe (∀k,kA b wr w2 k->k<w2.heap.size/\fh k≠(Value.slice q j s).ownBlock/\fh k≠(Value.slice (fh<|ii B 0) m J).ownBlock):=by
      rintro k (c|c);exact⟨np ((ac.o y).2 k c).1 I.size,z k c⟩;exact⟨c.2,λe=>by have:=gc f e.symm;omega,λe=>by have:=gc C e.symm;omega⟩
     have aU:fe (h (j+1) (es++[(x,nz E D,Z)]) (kA b wr w2) w2):=ab;have bH:w.heap.size<=w2.heap.size:=aT.o.size;obtain⟨K,ao⟩:=ol<|nz E D;rw[<-ao]at aS aU;have bI:decide (Z<0)=fo:=yv (by omega);clear y o f C z ab I aR aO aM aN ao ar bq;go_wp2
     go_region_law(first
      |(refine pu fX (.tmp 74) (.tmp 84) 106 fX w.heap.size 112 bc _ 3 32 underlying106 y bd be ab fX (by decide) (fy q j s) j (flat es) (by simp[Act.eval]) (rE (show(w2.drewN 1).ownsRow _ _ _ _ _ _ from az.o) _) (ii w2.heap.size 0) 1 1 (pA (x,K,Z)) (by simp[Act.eval]) fX (tS (w2.drewN 1) (x,K,Z) _ _ fX) (rx _) (by unfold maxLen;omega) (by omega) (by simp;omega) ?_;intro v4 Q aB ah aV)
      |(go_simp;go_at_call 155;refine Calls.still (aS.o 1) ?_))
     all_goals
      have aW:fe (∃L M,v4=fy L (j+1) M/\∃es b,h (j+1) es b Q/\fH G w Q/\Q.ownsRow w.heap.size 112 3 (fy L (j+1) M) (j+1) (flat es)/\Q.ownsRow w.heap.size 9 1 (my B 0 m J) m (gO d)/\∀k,b k->fh k≠(Value.slice L (j+1) M).ownBlock/\fh k≠(Value.slice (fh<|ii B 0) m J).ownBlock):=by
       obtain⟨L,M,rfl⟩:=po aB;have bt:w2.heap.size<=Q.heap.size:=by have:=ah.size;simp at this;omega
       have aX:∀k,k<w2.heap.size->fh k≠(Value.slice q j s).ownBlock->Q.heap[k]?=w2.heap[k]?:=λk c z=>(ah.block k (by simp;omega) z).trans<|oq w2 1 _ k c;refine⟨L,M,fX,es++[(x,K,Z)],kA b wr w2,bj.o aU.o (λk c=>aX k (HNE.o k c).1 (HNE.o k c).2.1) bt,QH aT.o ah λk e=>(az.o.lt k e.symm).1,by rw[qr,tz];exact aB,gg aA.o λg t=>aX g (gc aA.o t)<|IR aA.o az.o (by decide) t,λk c=>⟨λe=>?_,(HNE.o k c).2.2⟩⟩;rcases aV with V|V
       exact(HNE.o k c).2.1<|e.trans V;rw[V]at e
       have:=(HNE.o k c).1
       have bu:=rF e;simp at bu;omega
      clear aB ah aV;obtain⟨L,M,rfl,aY⟩:=aW.o;have bv:fe _:=aY;clear aW aY;go_wp2;go_roundw
      case rel=>exact⟨j+1,L,M,by omega,by go_num,rfl,bv.o⟩
      case measure=>simp[intOf];omega
   have aP:j=m:=by omega
   subst aP;have bJ:decide ((j:Int)<(j:Int))=fo:=yv (by omega);have P:=bl.o es b wr q s y o (tB f<|zt _) λg t=>⟨λe=>(z g e).1 t.symm,(f.lt g t).1⟩;have ae:fe _:=P;clear P y o f C z;go_wp2_with fail;apply RK ae.o;rintro _ bK ⟨x,rfl,af⟩;go_wp2;go_ret;exact⟨x,fX,af⟩
theorem DU(c:Twin a J)(i:∀e∈J,e.data.size<=256)(d:fK a id=1):(bytesOf a id).size<=256:=by
 obtain⟨f,b⟩:=nl (a:=a) (id:=id) (by omega);have g:(id-1).toNat<fv J:=by rw[<-c.1];exact b
 have h:a[(id-1).toNat].kind=1:=by
  unfold fK at d;rwa [lv f,jH b]at d
 unfold bytesOf;rw[jH b,oV,sA,<-(c.2.1 _ b g).data h]
 grind
theorem UG(h:Twin a J)(i:∀m∈J,m.data.size<=256)(j:nY a fl)(k:fM a n c)(b:nd a (gz a fl) c=.file d):d.size<=256:=by
 cases c with
 |file id=>
  have e:=Nd.file.inj b;rw[fM]at k;rw[<-e];exact DU h i k
 |held g=>
  have e:=Nd.file.inj b;rw[<-e];unfold gz;rcases l:fl g with _|x
  exact zt _;obtain⟨id,d0⟩:=x;simp only;by_cases f:id≠0;rw[lv f];exact DU h i<|(j g id d0 l).1 f;rw[km f];exact(j g id d0 l).2<|oL.1 f
 |dir id=>cases b
 |own es=>cases b
theorem nhi(a:Reads A (gz A fl) t E data)(b:gf E data){y}(c:fL y){d:LT}(f:t.at A y=fh d):nz E (fG y)=d.kind:=by
 have e:xc A (gz A fl) t y=fh (nd A (gz A fl) d):=by unfold xc;rw[f];rfl
 cases d with
 |file i=>exact(a.Kg b c).2 ⟨_,e⟩
 |held i=>exact(a.Kg b c).2 ⟨_,e⟩
 |dir i=>exact(a.tE b c).2 e
 |own i=>exact(a.tE b c).2 e
theorem QJ(ao:Reads A (gz A fl) t E data)(L:gf E data)(ap:Sound A)(W:fM A 5 t)(X:nY A fl)(aq:fv E<=1000000000)(aV:fv data<=1000000000)(n:Nat)(aW:∀m,n=m+1->hsb S r na da nc dc E data rest A fl t m):hsb S r na da nc dc E data rest A fl t n:=by
 intro p c l J F G w bw Z ar au hGl aX aa aF s ab av;obtain⟨ac,ad,M⟩:=tA ap p W Z;rw[show 5-fv p=n by omega]at ad;have N:=jo l n c ad;have P:=X.app l;obtain⟨a,ae⟩:∃a,a=A++l:=⟨_,fX⟩;rw[<-ae]at aa s ab av N P |-;have bx:(fG p).size<=65:=Gx M ac;rcases xno ao L M Z with⟨b,aw⟩|⟨i,U,aG,aw,aY,aZ,af⟩
 obtain⟨Y,ax⟩:=rq (a:=A) b;have aH:kids a c=fh Y:=by rw[ae,hsa l ad];exact ax
 obtain⟨m,bz,ag,ah⟩:=nan (fl:=fl) s ab (by omega) N aH;obtain⟨bb,aI,ay⟩:=lO s.sound N aH;have bc:=CP ao L ap W Z ax;have bd:∀j,∀x∈Y.take j,fN x.1=fm/\fM a m x.2:=λj x I=>⟨(ay x<|Av I).1,(ah x<|Av I).2⟩;have hkr:=λj=>rT fl m (λc a s W X=>kT fl m (by omega) c a s W X) (Y.take j) a s P<|bd j;have aJ:∀j(B:j<fv Y),lj fl m (Y.take<|j+1) a=((lj fl m (Y.take j) a).1++[(Y[j].1,Y[j].2.kind,(mn fl m Y[j].2 (lj fl m (Y.take j) a).2).1)],(mn fl m Y[j].2 (lj fl m (Y.take j) a).2).2):=λj B=>by rw[vk B,kR]
 have aK:∀j(B:j<fv Y),Jo (lj fl m (Y.take j) a).2 m (je m Y[j].2) Y[j].2 (mn fl m Y[j].2 (lj fl m (Y.take j) a).2):=λj B=>by
  obtain⟨Q,ai⟩:=(hkr j).1.app;exact kT fl m (by omega) _ _ ((hkr j).1.exact s) (by rw[ai];exact jo Q m _ (ah _<|kN B).2) (by rw[ai];exact P.app Q)
 have be:∀d j,j+d<=fv Y->(lj fl m (Y.take j) a).2.length<=(lj fl m (Y.take<|j+d) a).2.length:=by
  intro d
  induction d with
  |zero=>exact λj _=>lw _
  |succ d bf=>
   intro j bA;refine wy (bf j<|by omega) ?_;rw[show j+(d+1)=(j+d)+1 by omega,aJ (j+d)<|by omega];obtain⟨bB,bg⟩:=(aK (j+d)<|by omega).dr.app;simp only;rw[bg,lI];omega
 have aL:∀j,(lj fl m (Y.take j) a).1.length=fv (Y.take j):=λj=>by have:=congrArg List.length (hkr j).2.1;simpa using this
 refine(UF (r:=r) ar aX (fG p) (by omega) aw aq (Y.map (·.1)) (by rw[oI];exact aI) (λx I=>?_) ?_
  (λj es C wr=>j<=fv Y/\es=(lj fl m (Y.take j) a).1.map gH/\(lj fl m (Y.take j) a).2.length<=400/\(∀k,C k->k<wr.heap.size/\(G k\/w.heap.size<=k))/\∃q,gj C wr r q/\Twin (lj fl m (Y.take j) a).2 q/\gT q/\J <+: q)
  (λx H=>∃tk,QG (mn fl n c a) J tk x/\gj (kA G w H) H r tk/\fH G w H) ?_ ?_ ?_ ?_ ?_).mono ?_
 obtain⟨y,aj,rfl⟩:=ja.1 I;exact(xp (ay y aj).1).2;rw[bc];exact Cz ar (fG p) aq (λe f=>wy (L.small e f)<|by decide)<|L.few p M;exact λO aM=>⟨zt _,fX,av,λk b=>⟨np (hGl k b) aM.size,.inl b⟩,J,au.below aM λ_ o=>o,aa,aF,sM _⟩;rintro j es C wr ⟨u,rfl,_,v,_⟩;exact⟨by rw[oI,aL,kV];omega,v⟩;rintro j es C wr bC ⟨u,aN,v,ac,q,R,z,T⟩ b az;exact⟨u,aN,v,λk h=>⟨np (ac k h).1 az,(ac k h).2⟩,q,R.keep (λ_ o=>o) b,z,T⟩;rintro j B es C wr ⟨u,rfl,v,h5',q,R,z,T,ak⟩ bh bi K;have V:j<fv Y:=by simpa using B
 obtain⟨bj,bD⟩:=ah _<|kN V;obtain⟨Q,ai⟩:=(hkr j).1.app;have bk:fL (p++[Y[j].1]):=M.append (λx I=>by rw[oa.1 I];exact(ay _<|kN V).1);have aO:t.at A (p++[Y[j].1])=fh Y[j].2:=by
  rw[lx,Z,wd,lh,ax,wd,GA bb<|kN V,wd,oX]
 have bl:(Y.map (·.1))[j]=Y[j].1:=by simp
 have bm:=nhi ao L bk aO;rw[bl,Al Y[j].1 M,bm];have D:(lj fl m (Y.take j) a).2=A++(l++Q):=by rw[ai,ae,sL]
 have aP:=aW m bj (p++[Y[j].1]) Y[j].2 (l++Q) q F C wr (by simp;omega) aO bh R (λk b=>(h5' k b).1) bi (by rw[<-D];exact z) T (by rw[<-D];exact(hkr j).1.exact s) (by rw[<-D];exact(hkr j).1.once ab) (by rw[<-D];exact v);rw[<-D]at aP;refine aP.mono ?_;rintro e H ⟨x,tk,f,bn,aQ,h⟩;refine⟨x,f,h,?_⟩;have al:=aJ j V;obtain⟨d0,⟨d1,d2,d3,d4⟩|⟨d1,d2⟩⟩:=bn;have bE:=(nl (a:=(mn fl m Y[j].2 (lj fl m (Y.take j) a).2).2) (id:=(mn fl m Y[j].2 (lj fl m (Y.take j) a).2).1) (by rw[(aK j V).kind];exact ne0<|mh _)).1;refine .inr ⟨by omega,by omega,?_,by rw[al];exact d1,?_,tk,aQ,by rw[al];exact d3,d4,ak.trans d0⟩;rw[al,nh,lM,Cf,d2];rfl;rintro k (b|b);exact⟨np (h5' k b).1 h.size,(h5' k b).2⟩;exact⟨b.2,.inr<|wy K.size b.1⟩;subst d2;refine .inl ⟨by decide,tk,⟨ak.trans d0,.inr ⟨?_,fX⟩⟩,aQ.keep (λk b=>?_) λ_ _=>rfl,Ap K h λk b=>(h5' k b).2⟩
 have:=be (fv Y-(j+1)) (j+1)<|by omega
 rw[show j+1+(fv Y-(j+1))=fv Y by omega,sH,al]at this;rw[ag];have bF:(lj fl m Y a).2.length<=(kG (lj fl m Y a).2 (lj fl m Y a).1).2.length:=by unfold kG;split<;>simp
 simp only at this;omega;rcases b with b|b
 exact(h5' k b).2.imp id λo=>⟨o,np (h5' k b).1 h.size⟩;exact .inr ⟨wy K.size b.1,b.2⟩;rw[oI];rintro es C wr aR aS ⟨_,rfl,v,h5',q,R,z,T,ak⟩ K aA bo;rw[sH]at v z aA;obtain⟨bp,bq,am,_⟩:=hkr<|fv Y;have aT:=aL<|fv Y;rw[sH]at bp bq am aT;have an:∀e∈(lj fl m Y a).1,fK (lj fl m Y a).2 e.2.2=e.2.1/\e.2.1≠0:=λe f=>⟨(am e f).2.2.1,ne0 (am e f).2.1⟩;have br:Y≠[]->n=m+1:=λo=>by
  rcases Y with _|⟨x,r⟩
  exact absurd fX o;exact(ah x<|oK ..).1
 have bs:=AB (G:=λk=>fh k=(Value.slice aR (fv Y) aS).ownBlock) R (Li (aR,aS) (fv Y)<|(lj fl m Y a).1.map gH) ⟨.inr fX,zt _,by show(List.map _ _).length=_;rw[oI,aT];rfl,aI,wC _,by show(0:Int)<=5;decide,aA,λg aB=>aB.symm⟩ fX ?_ ?_;refine bs.mono ?_;rintro e H ⟨x,tk,f,aC,aD,h⟩;have af:=nes z v T an aC;refine⟨x,f,tk,⟨ak.trans af.1,by rw[ag];exact af.2⟩,aD.keep (λk b=>?_) λ_ _=>rfl,Ap K h λk b=>(h5' k b).2⟩;rcases b with b|b|b
 exact(h5' k b).2.imp id λo=>⟨o,np (h5' k b).1 h.size⟩;exact .inr ⟨(bo k b.symm).2,np (gc aA b.symm) h.size⟩;exact .inr ⟨wy K.size b.1,b.2⟩;show xt q (List.map gH _)<=5;rw[KC z an];refine ur.2 ⟨by decide,λe f=>?_⟩;have u:=(am e f).2.2.2;have aN:=br (λD=>by rw[D]at f;cases f);omega;intro e f;obtain⟨y,aj,rfl⟩:=ja.1 f;obtain⟨bG,bH⟩:=nl (a:=(lj fl m Y a).2) (id:=y.2.2) (by rw[(an y aj).1];exact(an y aj).2)
 have:=z.1
 show 0<=y.2.2-1/\y.2.2-1<_;omega;rintro e H ⟨x,f,tk,u⟩;exact⟨x,tk,f,u⟩;have aU:nd a (gz a fl) c=.file data[aG]:=by rw[ae,xlt ap l X ad];exact af
 have ag:=hrl ab N P aU;have az:∀aE∈J,aE.data.size<=256:=λaE bt=>by obtain⟨_,_,o⟩:=au;exact(o.zz aE bt).size
 have bu:=UG aa az P N aU;refine(QI (r:=r) ar (fG p) U aw aY aZ aq aV (λx H=>∃tk,QG (mn fl n c a) J tk x/\gj (kA G w H) H r tk/\fH G w H) λbv=>?_).mono ?_;refine(AB (w:=w.drewN bv) (F:=G) (G:=λ_=>False) (au.keep (λ_ o=>o) λ_ _=>rfl) (xr data[aG]) ⟨.inl fX,bu,fX,zt _,wC _,by show(0:Int)<=5;decide,kO _ _ _ _,λg aB=>by cases aB⟩ rfl (by show(0:Int)<=5;decide) λe f=>by cases f).mono ?_;rintro e H ⟨x,tk,f,aC,aD,h⟩;refine⟨x,f,tk,by rw[ag];exact hrw aa av aF aC,aD.keep (λk b=>?_) λ_ _=>rfl,⟨h.os,h.tape,h.output,h.size,h.block⟩⟩;rcases b with b|b|b
 exact .inl b;exact b.elim;exact .inr b;rintro e H ⟨x,f,tk,u⟩;exact⟨x,tk,f,u⟩
theorem Ho(a:Reads A (gz A fl) t E data)(b:gf E data)(c:Sound A)(d:fM A 5 t)(e:nY A fl)(f:fv E<=1000000000)(g:fv data<=1000000000):∀n,hsb S r na da nc dc E data rest A fl t n
 |0=>QJ a b c d e f g 0 (λm h=>by omega)
 |n+1=>QJ a b c d e f g (n+1) (λm h=>by rw[show m=n by omega];exact Ho a b c d e f g n)
theorem DV:∀l:List Ob,fv (gD l)=fv l*4
 |[]=>rfl
 |a::r=>by
  have:=DV r
  unfold gD at this |-
  rw[MZ,lI,this,lq,show fv a.cells=4 from fX]
  omega
theorem lB.cut{F}{r g h}(b:lB F w r (fh<|ii g 0) h tk)(f:J <+: tk):lB F (w.setCell (ii r 0)<|my g 0 (fv J) h) r (fh<|ii g 0) h J:=by
 obtain⟨l,rfl⟩:=f;have d:∀k,k≠r->(w.setCell (ii r 0) (my g 0 (fv J) h)).heap[k]?=w.heap[k]?:=λk c=>vh _ _ _ _ c;have i:=b.row;refine⟨b.fr,λk c=>b.fa k c,by simp[World.setCell,BV,b.hr],?_,by have:=b.many;rw[lI]at this;omega,λj o=>?_⟩;refine gg (Vv (n:=fv<|J++l) (m:=fv J) (xs:=gD J) (ys:=gD l) ?_ (DV J) (by grind)) λk c=>d k λe=>io i b.hr (by decide) (by rw[<-e];exact c.symm)
 grind [gD]
 have a:=b.zz j<|Rs _ o;exact⟨a.kind,a.size,a.len,a.few,a.Jb,a.Jc,gg a.row λk c=>d k λe=>io a.row b.hr (by decide) (by grind),a.own⟩
theorem ME(S r b c0:Nat)(h:ig)(w:fq)(j:r<w.heap.size)(k:w.c r 0=fh (fy h b c0))(l:b<=400)(R:Int->fq->Prop)
  (f:ik 108 #[ie S,ie r,hh kq] w λe H=>∃x,e=fF (fY x)/\((0<=x/\R x H)\/(x<0/\∃g n c,r<H.heap.size/\H.c r 0=fh (my g 0 n c)/\H.frozen? (ii r 0)=fo/\b<=c/\R (-1) (H.setCell (ii r 0)<|my g 0 b c)))):
  ik 57 #[ie S,ie r] w λe H=>∃x,e=pD #[fY x,fY<|if x<0 then 11 else 0]/\R x H:=by
 change fe _ at f
 go_enter func57,ntmps57;go_wp2_with fail;refine RK f ?_;rintro _ O ⟨x,rfl,⟨i,a⟩|⟨i,g,n,c,m,c1,f1,o,a⟩⟩
 ·have d:=a
  clear a;go_wp2;go_ret2;exact⟨x,by rw[km<|by omega];rfl,d⟩
 have d:=a;clear a;go_wp2;go_ret2;exact⟨-1,fX,d⟩
def UH (a:Int×List Ob)(J tk:List Ob)(x:Int):Prop:=(fv a.2<=400/\x=a.1-1/\0<=x/\Twin a.2 tk/\gT tk)\/(400<fv a.2/\x=-1/\tk=J)
theorem QK(s:Reads A (gz A fl) t E data)(u:gf E data)(h:Exact A)(O:mL A)(i:fM A 5 t)(j:nY A fl)(v:fv E<=1000000000)(y:fv data<=1000000000)(z:gp F w S na da nc dc E data rest)(l:gj G w r J)(hGl:∀k,G k->k<w.heap.size)(B:∀k,F k->k<w.heap.size/\¬G k)(C:Twin A J)(D:gT J)(P:0<fv J):
  ik 57 #[ie S,ie r] w λe H=>∃x tk,e=pD #[fY x,fY<|if x<0 then 11 else 0]/\UH (mn fl 5 t A) J tk x/\gj (kA G w H) H r tk/\fH G w H:=by
 have m:fv J<=400:=by have⟨_,_,b⟩:=l;exact b.many
 obtain⟨n,c0,f⟩:=l
 have:=Ho (S:=S) (r:=r) (na:=na) (da:=da) (nc:=nc) (dc:=dc) (rest:=rest) s u h.sound i j v y 5 [] t [] J F G w fX (oX A t) z ⟨n,c0,f⟩ hGl B (by grind) D (by grind) (by grind) (by rw[lJ,C.1];exact m)
 rw[lJ]at this;refine(ME S r (fv J) c0 n w (hGl r f.fr) f.c0 m (λx H=>∃tk,UH (mn fl 5 t A) J tk x/\gj (kA G w H) H r tk/\fH G w H)<|this.mono ?_).mono ?_;rintro e H ⟨x,tk,o,⟨d0,⟨d1,d2,d3,d4⟩|⟨d1,d2⟩⟩,p,c⟩;have Q:=(nl (a:=(mn fl 5 t A).2) (id:=(mn fl 5 t A).1) (by rw[(kT fl 5 (lw _) t A h i j).kind];exact ne0<|mh _)).1;exact⟨x,o,.inl ⟨by omega,tk,.inl ⟨d1,d2,by omega,d3,d4⟩,p,c⟩⟩;subst d2;obtain⟨R,c1,d⟩:=p;have T:=d0.length_le;have⟨g,U,I⟩:=hZ d.row (by omega);have K:=(lK I).1;subst K;have V:=wP d.row;have L:=d.cut d0;refine⟨-1,o,.inr ⟨by decide,g,fv tk,c1,d.lt,d.c0,d.f0,by omega,J,.inr ⟨d1,fX,fX⟩,⟨_,_,L.keep (λk M=>?_) λ_ _=>rfl⟩,⟨c.os,c.tape,c.output,by simpa using c.size,λk N q=>?_⟩⟩⟩;rcases M with b|b
 exact .inl b;exact .inr ⟨b.1,by simpa using b.2⟩;rw[vh _ _ _ _ λe=>q (by rw[e];exact f.fr)];exact c.block k N q
 grind
