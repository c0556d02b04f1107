/- A part of the proof. -/
import Derived.Test.YtlgidcmmgohagaaGreatAllM23
set_option linter.all false
namespace Go.Proofs.YtlgidcmmgohagaaGreat
open Go.RowKit Go.Sort Go.Shelf Go.Proofs.Tryz
open Go.Value renaming slice->fy,string->fA,pointer->fB,tuple->fC,agg->fD,bool->fE
open Go.Ending renaming returned->fF
open Option renaming some->fh,none->fj
open Bool renaming true->fm,false->fo
open Go renaming World->fq,Value->fu
open List renaming length->fv,reverse->fx
open Go.RowKit renaming Hid->fe
set_option maxRecDepth 100000
set_option maxHeartbeats 0
variable {i k I m n p s:Nat}{F G:Nat->Prop}{id x:Int}{a A O Z:List Ob}{rest:gX}{got:List Int}{fl:Nat->Option (Int×fO)}{w J w1 w2:fq}{d:fO}{B:WB}{c:LT}{es:List fV}{T:gC}{g:WG}
variable {b:Bool}{R:vo}{T:gC}{w J:fq}{B0 W s r p I j n i S nc dc bc wc:Nat}{A O a:List Ob}{got:List Int}{ws:List Slot}{ds:List Doc}{B:WB}{g:WG}{t:LT}{E base:List fV}{data N:fQ}{rest:gX}{fl:Nat->Option (Int×fO)}{F G:Nat->Prop}{na da ba wa:iD}{ft:kE}
def Uy(a:m<fv got):(got.take<|m+1).count x=(got.take m).count x+if got[m]=x then 1 else 0:=by
 rw[vv a,List.count_append,List.count_singleton];by_cases e:got[m]=x<;>simp[e]
theorem MD(W s k wc:Nat)(wa:iD)(got:List Int)(R:fq->Prop)(w:fq)(I:W<w.heap.size)(c0:w.c W 0=fh (ii s))(c5:w.c W 5=fh (fy wa k wc))
  (ae:fv got<=1000000000)(ax:k<=1000000000)(K:∀x,got.count x<=k)
  (L:ik 87 #[ii s] w λe J=>∃M,e=fF M/\J.ownsRow w.heap.size 29 1 M (fv got) (MA got)/\ju w J)
  (N:∀j(q:j<fv got),∃r:Int,0<=r/\∀J,ju w J->ik 41 #[ii W,.int .i64 got[j]] J λe af=>e=fF (fY r)/\af=J)
  (O:∀w1 P c,ju w w1->w1.ownsRow w.heap.size 29 1 (fy P (fv got) c) (fv got) (MA got)->ik 88 #[fB<|fh (ie W 8),fy P (fv got) c] w1 λe J=>e=qr #[]/\R J):
  ik 46 #[ii W] w λe J=>e=fF (fE fm)/\R J:=by
 have⟨n,d⟩:=oX<|fv got;rw[<-d]at ae
 change fe _ at L N O K d
 go_enter func46,ntmps46;go_wp2_with fail;apply Ps L;rintro _ w1 ⟨ay,rfl,t,u⟩;obtain⟨a,c,rfl⟩:=Hh.shape<|yu t;have Q:=t;have v:fe (ju w w1):=u;have A:=nz I u.size;have d5:=(u.cell (p:=(ie W 5)) I).trans c5;rw[<-d.o];have S:∀j(q:j<fv got),∃g,a=fh (ie g 0)/\g<w1.heap.size/\w1.c g j=fh (.int .i64 got[j]):=λj q=>Hh.at_ (yu t) q
 have B:fe _:=S;clear t u S c0 c5;go_wp2
 go_loopw [4] (λi wr=>∃j:Nat,j<=n/\i=.int .i64 (j:Int)/\fe (ju w1 wr)) (λi _=>n-(intOf i).toNat)
 case atStart=>exact⟨0,Fr _,rfl,mi _ _⟩
 case round=>
  obtain⟨j,q,rfl,z⟩:=hrel;by_cases ag:j<n
  ·have az:(j:Int)<(n:Int):=by omega
   have T:j<fv got:=by rw[<-d.o];exact ag
   have⟨g,ah,C,U⟩:=B j T;have⟨r,aA,h⟩:=N j T;have ai:fe _:=h;have⟨x,D⟩:=oX<|got[j];rw[<-D]at U;have aj:fe (x=got[j]):=D;subst ah;clear D h;go_wp2
   go_loopw [5,6] (λo E ak=>∃m:Nat,m<=n/\E=.int .i64 (m:Int)/\o=.int .i64 (((got.take m).count x:Nat):Int)/\fe (ju w1 ak)) (λ_ E _=>n-(intOf E).toNat)
   case atStart=>exact⟨0,Fr _,rfl,rfl,z⟩
   case round=>
    obtain⟨m,aB,rfl,rfl,b⟩:=hrel;have aC:=nz C b.size;have aD:wr.c g j=fh (fY x):=(b.cell (p:=(ie g j)) C).trans U;by_cases al:m<n
    ·have aE:(m:Int)<(n:Int):=by omega
     have V:m<fv got:=by rw[<-d.o];exact al
     have⟨aF,am,aG,X⟩:=B m V;cases am;have an:wr.c g m=fh (.int .i64 got[m]):=(b.cell (p:=(ie g m)) C).trans X;have⟨y,F⟩:=oX<|got[m];rw[<-F]at an;have Y:fe (y=got[m]):=F;have Z:fe _:=Uy (x:=x) V;have ao:(got.take m).count x<=n:=by have:=List.count_le_length (a:=x) (l:=got.take m);rw[kT]at this;omega
     have⟨o,f⟩:=oX<|(got.take m).count x;rw[<-f]at ao;rw[<-f];have aa:fe (o=(got.take m).count x):=f;clear F f X;cases ab:(y==x) with
     |true=>
      have G:=eq_of_beq ab;go_wp2
      go_region
      all_goals
       go_wp2;go_roundw
       case rel=>exact⟨m+1,by omega,by go_num,by rw[Z.o,lv (by rw[<-Y.o];exact G),<-aa.o];go_num,jf b.o _⟩
       case measure=>simp[intOf];omega
     |false=>
      have G:=ne_of_beq_false ab;go_wp2
      go_region
      all_goals
       go_wp2;go_roundw
       case rel=>exact⟨m+1,by omega,by go_num,by rw[Z.o,km (by rw[<-Y.o];exact G),<-aa.o];rfl,jf b.o _⟩
       case measure=>simp[intOf];omega
    have aH:m=n:=(by omega);have ap:=yv (by omega);have ac:(got.take m).count x=got.count x:=by rw[oM (by rw[<-d.o];omega)]
    have aq:=K x;rw[ac];have⟨o,f⟩:=oX<|got.count x;rw[<-f]at aq |-;have ar:=nz A b.size;have aI:=(b.o.cell (p:=(ie W 5)) A).trans d5;have aJ:decide (r<0)=fo:=yv (by omega);have aK:decide ((k:Int)<(o:Int))=fo:=yv (by omega);have h:=ai.o wr<|v.o.trans (b.o.mono v.o.size);rw[<-aj.o]at h;clear ac f B;go_wp2_with(go_at_call 41;apply tB h);go_roundw
    case rel=>exact⟨j+1,by omega,by go_num,b⟩
    case measure=>simp[intOf];omega
  have aL:j=n:=by omega
  have ap:=yv (by omega);have ar:=nz A z.size;have ad:=gg Q λg au=>z.block g<|gc Q au;have H:=O wr a c (v.trans<|z.mono v.size) ad;rw[<-d.o]at H;have av:fe _:=H;clear ad H;go_wp2_with(go_at_call 88;refine Hk av.o λaM aw=>?_);go_ret;exact⟨fX,aw⟩
def hq1 (W o f:Nat)(R:fq->Prop)(w:fq):Prop:=∃(n:Nat) (g:fq->Prop) (h:iD->Nat->fq->Prop) (i:iD->Nat->iD->Nat->fq->Prop) (j:iD->Nat->fq->Prop),n<=1000000000/\
 (∀k,Below w.heap.size w k->Calls prog 52 #[fB<|fh ⟨o,0,fj⟩] k λe J=>(∃a c,e=fF (fC #[fy a n c,.int .i64 0])/\h a c J)\/(e=fF (fC #[fy fj 0 0,.int .i64 14])/\g J))/\
 (∀w1,g w1->vP W (λw2=>Calls prog 54 #[fB<|fh ⟨f,0,fj⟩] w2 λe l=>∃b d,e=fF (fy b n d)/\∀m,Below l.heap.size l m->Calls prog 56 #[fB<|fh ⟨W,8,fj⟩,fy fj 0 0] m λe J=>e=fF (fC #[])/\R J) w1)/\
 (∀a c w1,h a c w1->Calls prog 54 #[fB<|fh ⟨f,0,fj⟩] w1 λe J=>∃b d,e=fF (fy b n d)/\i a c b d J)/\
 (∀a c b d w1,i a c b d w1->Calls prog 55 #[fy a n c,fy b n d] w1 λe J=>e=fF (fE fm)/\j a c J)/\
 ∀a c w1,j a c w1->Calls prog 56 #[fB<|fh ⟨W,8,fj⟩,fy a n c] w1 λe J=>e=fF (fC #[])/\R J
def hrb (W k l:Nat)(R:fq->Prop)(w:fq):Prop:=∃(id f x d:Int) (r:Nat) (h g:fq->Prop),
 (∀i,Below w.heap.size w i->Calls prog 18 #[fB<|fh ⟨k,0,fj⟩] i λe J=>e=fF (fC #[.int .i64 id,.int .i64 f])/\h J)/\
 (∀w1,h w1->W<w1.heap.size/\w1.cell? ⟨W,1,fj⟩=fh (fB<|fh ⟨r,0,fj⟩)/\Calls prog 57 #[fB<|fh ⟨l,0,fj⟩,fB<|fh ⟨r,0,fj⟩] w1 λe J=>e=fF (fC #[.int .i64 x,.int .i64 d])/\g J)/\
 ((d≠0/\f=d/\id=0/\∀w1,g w1->R w1)\/(d=0/\f=0/\∃(s n:Nat) (j:fq->Prop),(∀w1,g w1->∀b,Calls prog 37 #[fB<|fh ⟨W,0,fj⟩,.int .i64 x,.int .i64 id] (w1.drewN b) λe J=>e=fF (fE fm)/\j J)/\
  ∀w1,j w1->W<w1.heap.size/\r<w1.heap.size/\w1.cell? ⟨W,0,fj⟩=fh (fB<|fh ⟨s,0,fj⟩)/\w1.cell? ⟨W,1,fj⟩=fh (fB<|fh ⟨r,0,fj⟩)/\(∃a c,w1.cell? ⟨r,0,fj⟩=fh (fy a n c))/\∀b,R (w1.drewN b)/\Calls prog 45 #[fB<|fh ⟨s,0,fj⟩] (w1.drewN b) λe J=>e=fF (.int .i64 (n:Int))/\J=w1.drewN b))
def xor (W c d:Nat)(a:Int)(f:Array fu)(R:fq->Prop)(w:fq):Prop:=
 (a<=13/\∀b,Below w.heap.size w b->Calls prog 50 #[fB<|fh ⟨W,0,fj⟩,fB<|fh ⟨c,0,fj⟩,fB<|fh ⟨d,0,fj⟩,fD f] b λe J=>e=fF (fE fm)/\R J)\/
 (13<a/\a<=18/\∀b,Below w.heap.size w b->Calls prog 51 #[fB<|fh ⟨W,0,fj⟩,fB<|fh ⟨c,0,fj⟩,fB<|fh ⟨d,0,fj⟩,fD f] b λe J=>e=fF (fE fm)/\R J)\/
 (a=19/\hq1 W c d R w)\/(a=20/\hrb W c d R w)
def pV(a:gq b b R T w B0 W s r p I A O got ws ds)(c:ju w w1):Below B0 w w1:=c.mono a.size
theorem L4.grow(c:gq b b R T w B0 W s r p I A O got ws ds)(d:L4 A ws ds k)(l:List Ob):L4 (A++l) ws ds k:=
 ⟨d.len,λj a e=>⟨(d.same j a e).1.app c.w3.yl.2.2.1.sound (c.II _<|kK a).ok (c.II _<|kK a).fl l,(d.same j a e).2⟩⟩
theorem kz.few{k}{b n}{d}(p:kz w k b n d)(a:Maps.Keyed prog k)(l:List Lit)(q:∀r c,keyOf prog k r=fh c->d c≠fj->c∈l):kz w k b (fv l) d:=by
 obtain⟨A,⟨es,s,t,F,B,rfl⟩,j⟩:=p;refine⟨_,⟨es,s,t,F,?_,fX⟩,j⟩;have u:((es.toList.map<|WideElems.rg prog k jZ).map (·.1)).Nodup:=wK.2<|Maps.fit_apart a F
 have:=u.length_le_of_subset (l₂:=l) (λc v=>by
  obtain⟨C,m,rfl⟩:=jC.1 v;obtain⟨x,z,rfl⟩:=jC.1 m;have⟨y,f⟩:=F.reads x z;have g:=WideElems.rd_key f;have h:=(WideShapes.atKey_sorted _ (Maps.fit_rising a F) y.1<|a.key g).2 _ m (by rw[WideElems.rg_of f]);rw[WideElems.rg_of f]at h |-;refine q _ _ g λe=>?_;have i:=j y.1<|a.key g;rw[e]at i;have o:=(i<|.lit (.bool fm)).symm.trans<|h (.lit<|.bool fm);rw[<-((i .nil).symm.trans<|h .nil)]at o;cases o)
 grind
theorem ME(a:fJ A id≠0):id∈yS (fv A):=by
 have⟨c,b⟩:=np a;exact jC.2 ⟨(id-1).toNat,Rp.2 b,by show _=_;omega⟩
theorem Wb{b:Program}{k}{d:IntKind}(f:b.underlying k=fh (.int d)){c}{g:Lit}(h:keyOf b k c=fh g):∃a,g=.int d a:=by
 have e:keyOf b k c=mapKey b k c:=by simp[keyOf,f]
 rw[e]at h;cases c<;>simp[mapKey,f]at h
 grind
theorem hrc(c:qF T w i p B A g I):Bp T w i B A g.fs.kF (fv A)/\Bq T w i B A g.fs.kD (fv A):=by
 have⟨f1,n,e,t,f,h,hF⟩:=c.nP;have⟨d1,m,j,k,u,l,o,q⟩:=c.nQ;have d:fv ((yS<|fv A).map LH)=fv A:=by rw[oL,jJ]
 refine⟨⟨f1,_,e,EL d,f.few zi ((yS<|fv A).map LH) λr a b s=>?_,h,hF⟩,d1,_,j,k,EL d,l.few zi ((yS<|fv A).map LH) λr a b s=>?_,o,q⟩;obtain⟨id,rfl⟩:∃id,a=LH id:=Wb underlying29 b
 grind [DY,ME,decide]
 obtain⟨id,rfl⟩:∃id,a=LH id:=Wb underlying29 b
 grind [DY,ME,decide]
theorem fZ.down{T M}{s i p I h:Nat}{a:b6}(b:fZ T w s i p B A g I)(m:fI (gA i) T M w J)(c:fZ M J s i p B A { g with fs:=a } h)(j:∃l,a.got=g.fs.got++l/\∀x,l.count x+g.fs.kn x=a.kn x)(z:fv A<=400)(d:∀x,a.kn x<=1/\(a.kn x≠0->fJ A x≠0)):fZ M J s i p B A { g with fs:=a } (I+400):=by
 have⟨n,o⟩:=hrc c.wp;have C:=b.two;refine⟨b.two,?_,b.wp.fs m (λk D E f=>?_) (by omega) (n.mono<|by omega)<|o.mono (by omega)⟩;have⟨q,ft,r,t,u,v,F⟩:=c.st;obtain⟨_,_⟩:=b.st;refine⟨q,ft,r,t,u,v,?_⟩;have⟨l,G,y⟩:=j;have oh:l.Nodup:=List.nodup_iff_count.2 (λx=>by have:=y x;have:=(d x).1;omega)
 have:=oh.length_le_of_subset λx f=>ME<|(d x).2 (by grind)
 grind [jJ,lI]
 rcases f with e|e|e
 all_goals grind
def cM:Nat->Nat
 |0=>1
 |n+1=>1+16*cM n
theorem Uz:∀(n:Nat)(t:LT),fM A n t->jd n t<=cM n
 |n,.file _,_=>by cases n<;>exact Fr _
 |n,.dir _,_=>by cases n<;>exact Fr _
 |n,.held _,_=>by cases n<;>(rw[jd,cM];omega)
 |0,.own _,_=>lw _
 |n+1,.own es,h=>by
  rw[jd,cM]
  have⟨_,h16,hk⟩:=h
  have:∀l:List (fO×LT),(∀x∈l,fM A n x.2)->(l.map λx=>jd n x.2).sum<=fv l*cM n:=by
   intro l
   induction l with
   |nil=>intro _;simp
   |cons x r ih=>
    intro hl;rw[lM,ctz,lg,Nat.add_mul]
    have:=Uz n x.2<|hl x (oN ..)
    grind
  have h1:=this es λx hx=>(hk x hx).2;have h2:fv es*cM n<=16*cM n:=EH _ h16;omega
theorem UA(c d:Nat)(R:fu->Int->fq->Prop)(w:fq)(h:c<w.heap.size)(c0:w.c c 0=fh (ii d))
  (f:ik 105 #[ii d] w λe J=>∃a b,e=qr #[a,fY b]/\R a b J):
  ik 52 #[ii c] w λe J=>∃a b,e=qr #[a,fY b]/\R a b J:=by
 change fe _ at f
 go_enter func52,ntmps52;go_wp2_with(go_at_call 105;apply Ps f;rintro e w1 ⟨a,b,rfl,g⟩);go_ret2;exact⟨a,b,fX,g⟩
theorem MF(a:qF T w i p B A g I)(id:Int):g.fs.kn id<=1/\(g.fs.kn id≠0->fJ A id≠0):=by
 have⟨_,_⟩:=a.nP;have⟨_,_⟩:=a.nQ
 grind [b6.kn,decide,absurd]
theorem hrf(r:tU s i p B A T w g I t E data rest)(G:I+111000000<1099511627776)(u:mL A)(k:fv A<=400){x:List fV×fQ}(h:uj A g.base x):
  ik 52 #[ii B.wb] w λe J=>aba s i p B A T w J g I E data rest 133 2 (fv<|lF E data x.1 x.2) (iB<|lF E data x.1 x.2) 0 e:=by
 obtain⟨d,_,U,l,f,_⟩:=r;obtain⟨v,c0,_⟩:=d.ws;have H:=Uz 5 t d.ok;have K:cM 5=1118481:=by decide
 apply (UA B.wb B.bt _ w v c0<|Uo ⟨d.inv,d.flat,l,d.fl⟩ d.ok u (by omega) h.1 (by omega)).mono;rintro e J ⟨L,N,n,M,O,m,j,y⟩;rcases y with⟨rfl,o,P,z,q,C⟩|⟨rfl,rfl,hF⟩
 ·have D:=Qz l.sound d.ok h.1 f.reads.dir z f.2 h.2.2.1 f.reads h.2.1
  rw[D];obtain⟨a,c,rfl⟩:=Am q;exact .inl ⟨a,c,n,q,M,_,t,m.mono λ_ d=>d.mine,⟨d.inv.down m j (Kn.next o).2 k<|MF j.wp,d.flat,d.ok,d.fl⟩,Kn.next o,fX,U,f,C⟩
 exact .inr ⟨hF.1,n,M,_,t,m.mono λ_ d=>d.mine,⟨d.inv.down m j (Kn.fail hF).2 k<|MF j.wp,d.flat,d.ok,d.fl⟩,Kn.fail hF,fX,U,f,λb F=>by cases F⟩
theorem hrl(t:n<=1048600)(G:gJ B0 w W s r n)(a:Step)(d:a.Fits w)(f:1<=a.kind/\a.kind<=5):
  ik 20 #[ii W,a.val] w λe J=>e=fF (fE fm)/\gJ B0 J W s r (n+1)/\Below B0 w J:=by
 have⟨b,R,T,p,I,A,O,got,ws,ds,c,g,u,h,i,v⟩:=G;refine(c.step (by grind) a d f).mono ?_;rintro e J ⟨j,k,M,l,Z,x,y,m,o,q⟩;exact⟨j,⟨b,k,M,p,I,A++l,Z,got,ws,ds,o,(g.grow c l).mono<|by omega,by omega,Uw m h (by grind),i,by omega⟩,q⟩
def rlk{x}(a:En T w p A I x)(id:Int):x.2.2.1.fs.kn id<=1/\(x.2.2.1.fs.kn id≠0->fJ A id≠0):=MF a.wp id
theorem hrw{b:Type}(a:b->Nat):∀(l:List b),(∀x∈l,a x<=1)->(l.map a).sum<=fv l
 |[],_=>lw _
 |x::r,c=>by
  rw[lM,ctz,lg]
  have:=c x<|oN ..
  have:=hrw a r λy d=>c y<|wC _ d
  omega
theorem Wc{c:Type}(a:c->Nat):∀(l:List c),(l.map a).sum≠0->∃x∈l,a x≠0
 |[],b=>absurd fX b
 |x::r,b=>by
  by_cases d:a x=0
  rw[lM,ctz,d,iR]at b
  have⟨y,e,f⟩:=Wc a r b
  grind
  grind
theorem UB(Z:n<=1048600)(G:gJ B0 w W s r n)(h j k:Int)(S l)(d)(m o):
  ik 20 #[ii W,fD<|pO 6 h j k S l d m o] w λe J=>e=fF (fE fm)/\gJ B0 J W s r (n+1)/\Below B0 w J:=by
 have⟨b,R,T,p,I,A,O,got,ws,ds,q,D,aa,t,E,ab⟩:=G;refine IJ W h j k S l d m o (λJ=>gJ B0 J W s r (n+1)/\Below B0 w J) w λF u=>?_;have a:=q.below u;have⟨c0,_,H,c5,_⟩:=a.c01;have ac:=a.IG;refine MD W s (fv ws) R.wc R.wa got _ F H c0 c5 (by omega) (by omega) (λx=>?_) (QD a.aaj<|by omega) (λi U=>?_) λw1 d c v z=>?_;rw[a.cnt x];exact hrw _ _ λy f=>(rlk (a.II y f) x).1;have B:got.count got[i]≠0:=by
  grind
 rw[a.cnt]at B;obtain⟨y,f,K⟩:=Wc _ _ B;have⟨ad,L⟩:=np<|(rlk (a.II y f) got[i]).2 K;refine⟨(((got[i]-1).toNat:Nat):Int),by omega,λJ g=>?_⟩
 have:=si (a.w3.below g) (got[i]-1).toNat L
 grind
 have M:=a.below v;refine(M.aa2 (by grind) (by omega) (tR z<|Fr _) λb g=>?_).mono ?_;have C:=z.lt b g;exact⟨a.fresh b C.1,ww a.size C.1,λi N=>by have:=(a.held i).lt b N;omega⟩;rintro e J ⟨P,Q,V,X,Y⟩;exact⟨P,⟨b,Q,T,p,I,A,O,got,ws,ds,X,D.mono<|by omega,by omega,Uw V t<|Nat.succ_le_succ (t 11),E,by omega⟩,((pV q u).trans<|pV a v).trans Y⟩
theorem QE(s p:Nat)(id k:Int)(w:fq)(c:s<w.heap.size)(c0:w.c s 0=fh (ii p))(d:k≠2)(a:ik 61 #[ii p,fY id] w (vd (fY k) w)):
  ik 27 #[ii s,fY id] w (vd (fC #[fB fj,fY 13]) w):=by
 go_enter func27,ntmps27;go_wp2_with(go_at_call 61;refine a.via λw1 b=>?_);go_ret2;exact⟨fX,b⟩
theorem Hi{c:Bool}(d:jq T w s p A got c I)(e:fJ A id≠2):
  ik 27 #[ii s,fY id] w (vd (fC #[fB fj,fY 13]) w):=by
 have⟨i,ft,j,⟨a,h,f,g,k,l,b⟩,m⟩:=d;exact QE s p id (fJ A id) w (lH.1 b.hs).1 b.c0 e<|uq p a (fv A) h f g A id w b.gQ
theorem MG:∀(j:List (fQ×Nd))(k:Nat),wG (xv k j)/\∀e∈xv k j,e.2.1=1->(k:Int)<=e.2.2
 |[],k=>⟨by intro e f;(cases f),by intro e f;(cases f)⟩
 |(y,.dir)::r,k=>by
  have⟨h,l⟩:=MG r k
  rw[xv]
  refine⟨λe f i g a b c=>?_,λe f a=>?_⟩
  rcases oc.1 f with rfl|f
  cases a
  rcases oc.1 g with rfl|g
  cases b
  exact h e f i g a b c
  grind
 |(y,.file d)::r,k=>by
  have⟨h,l⟩:=MG r<|k+1
  rw[xv]
  refine⟨λe f i g a b c=>?_,λe f a=>?_⟩
  rcases oc.1 f with rfl|f<;>rcases oc.1 g with rfl|g
  rfl
  grind
  grind
  exact h e f i g a b c
  grind
theorem UC(A)(id:Int)(c b)(a):xc A c (.dir id) a=xc A b (.dir id) a:=by
 have:=(uU A a id).2
 unfold xc;rcases d:(LT.dir id).at A a with _|x
 rfl;rw[d]at this;cases x<;>first|rfl|cases this
theorem qz.new{b:Int}{E}{data}{c}(e:Reads A c (.dir b) E data)(f:gf E data)(g:wG E)(h:rest.take 32=vk.take 32):qz A (λ_=>fj) (λ_=>fj) (.dir b) E data rest:=by
 refine⟨⟨λ_=>0,List.replicate 8 (fo,0,0,0),rest.drop 32,?_,⟨λd q a=>absurd fX a,λd a=>absurd fX a,λi j⟨r,_,l⟩m n=>?_,g,by simp,λk o=>?_,(λk x p=>by cases p)⟩⟩,f⟩;rw[show wn (List.replicate 8 (fo,0,0,0))=vk.take 32 from fX,<-h,KU];obtain rfl:j=data:=KT λk=>l k λd a=>absurd fX a;rw[UC A b i c];exact e m n;rw[List.getElem?_replicate,lv o];rfl
theorem UD(A)(id:Int):gL A (.dir id):=λx y b a _=>by
 have:=(uU A x id).2
 rw[a]at this
 cases this
theorem xss(e:gq b b R T w B0 W s r p I A O got ws ds)(c:fJ A id=2):fM A 5 (.dir id):=by
 have⟨a,h,g,i,j,k,f⟩:=e.w3.yl.1;obtain⟨l,d⟩:=np (by rw[c];decide);refine⟨c,?_⟩;unfold gp;rw[jG d];exact(f.gy _<|kK d).2
theorem ZQ(d:gq b b R T w B0 W s r p I A O got ws ds):∀f∈O,∀e∈f.gh,e.1.size<=12:=by
 intro f l e a;obtain⟨i,U,rfl⟩:=rI l;have c:=d.w3.twin;have g:i<fv A:=by rw[c.1];exact U
 have h:=c.2.1 i g U;rcases c.2.2 _ (kK g)with k|k
 rw[h.none k]at a;cases a;rw[h.gh k]at a;obtain⟨m,n,rfl⟩:=jC.1 a;have j:=d.w3.yl.2.2.1.sound.2 ((i:Int)+1) (by grind [xa]);have o:fT A ((i:Int)+1)=A[i].gh:=by
  grind [fT,Int,jG]
 rw[o]at j;exact(xj (j.2.2 m n).1).2
theorem hsa(e:gq b b R T w B0 W s r p I A O got ws ds)(h:j<fv A):∃a c f,w.c W 4=fh (my a 0 (fv A) c)/\a<w.heap.size/\w.c a j=fh (fY f):=by
 have⟨k,l,m,n,o,c,g,d,_⟩:=e.w3.law;have⟨a,_⟩:=row_one d.uu (i:=j) (v:=.int .i64<|g[j]'(by omega)) (by grind [encI]);have c4:=d.c4
 grind
theorem QF(aE:n<=1048600)(a:gq b b R T w B0 W s r p I A O got ws ds)(k:L4 A ws ds (1200000+n))(aF:fv ws<=n)(F c H:Int)(S K)(L)(N P):
  ik 20 #[ii W,fD<|pO 7 F c H S K L N P] w λe J=>e=fF (fE fm)/\Below B0 w J/\∃q M g z,q.q=R.q/\gq b b q M J B0 W s r p I A O got g z/\L4 A g z (1200000+n)/\fv ws<=fv g/\fv g<=fv ws+1/\(fJ A c=2->(∀l v h,w.c W 4=fh (my l 0 (fv A) v)->w.c l ((c-1).toNat)=fh (fY h)->h<=300)->fv g=fv ws+1):=by
 obtain⟨c0,c1,ad,_,_⟩:=a.c01;have Y:∀d,ju w d->ik 39 #[ii W,fY c] d (UV (fY c) d):=λd f=>Fz (a.w3.below f) c;have same:∀J,ju w J->(fJ A c=2->False)->Below B0 w J/\∃q M g z,q.q=R.q/\gq b b q M J B0 W s r p I A O got g z/\L4 A g z (1200000+n)/\fv ws<=fv g/\fv g<=fv ws+1/\(fJ A c=2->(∀l v h,w.c W 4=fh (my l 0 (fv A) v)->w.c l ((c-1).toNat)=fh (fY h)->h<=300)->fv g=fv ws+1):=λJ f t=>⟨pV a f,R,T,ws,ds,fX,a.below f,k,lw _,by omega,λal _=>(t al).elim⟩;by_cases t:fJ A c=2;obtain⟨aG,aH⟩:=np (by rw[t];decide);obtain⟨j,Z⟩:∃j:Nat,c=(j:Int)+1:=⟨(c-1).toNat,by omega⟩;have u:j<fv A:=by omega
 have ae:∀d,ju w d->ik 41 #[ii W,fY c] d (UV (fY (j:Int)) d):=λd f=>by rw[Z];exact si (a.w3.below f) j u
 have af:∀d,ju w d->ik 42 #[ii W,fY (j:Int)] d (UV (fY 2) d):=λd f=>by
  have:=Bf (a.w3.below f) j u
  rwa [<-xa u,<-Z,t]at this
 obtain⟨l,v,h,c4,ag,ah⟩:=hsa a u;have aI:=(W3.few a.w3).1;by_cases ai:300<h;refine(TZ W j (fv A) v l F c H h S K L N P w ad c4 u (by omega) ag ah ai Y ae af).mono ?_;rintro e J ⟨C,f⟩;refine⟨C,pV a f,R,T,ws,ds,fX,a.below f,k,lw _,by omega,λ_ aJ=>?_⟩
 grind
 have D:=xss a t;have Q:=a.w3.yl.2.2.1;obtain⟨fc,am⟩:∃fc:ji,fc=qX:=⟨_,fX⟩;obtain⟨o,aa⟩:=oX<|py A fc 5 [] (.dir c);have aj:=He (fc:=fc) a.w3.twin Q a.w3.at_ 5 (j+1) j [] ([],[]) (by omega) (λx an=>by cases an) (by grind) (by grind [fM]);rw[<-Z,<-aa]at aj;have aK:jx O (j+1) j kq ([],[])=(xv 0 o,rc o):=aj.trans (by simp);have ab:=Up Q.sound (fc:=fc) D;rw[<-aa]at ab;have ao:fv (xv 0 o)<=1200000:=by rw[CV];exact ab
 have ap:=ww (xS _) ab;have V:=KG (fc:=fc) Q.sound D fX;have ac:=ZK (fc:=fc) Q.sound D fX;rw[<-aa]at V ac;refine(hlz a (by omega) k.len j (fv A) v l F c H h S K L N P c4 u (by omega) ag ah ai (wg0 c got b) (.dir c) (λx=>rfl) (xv 0 o) (rc o) ⟨D,by rw[am]at V;exact V,ac,ao,ap⟩ (PR:=λrest=>rest.take 32=vk.take 32) Y ae af (λd f=>?_) λG w2 aq ar=>?_).mono ?_;refine(YZ (a.below f).aaj (i:=fv ws+2) (by omega) D).mono ?_;rintro e J ⟨B,C,M,m,y⟩;exact⟨B,M,C,m,y.inv.st,⟨y.inv.two,y.inv.wp,y.flat,y.ok,y.fl,UD A c⟩⟩;have au:=a.w3.twin
 have:=Mm O r j G w2 a.w3.at_ (ZQ a) (by rw[<-au.1];exact u) (by omega) (by grind) (by grind) aq ar
 grind
 rintro e J ⟨C,q,M,B,aL,rest,av,aw,ax,ay⟩;refine⟨C,ay,q,M,_,_,aw,ax,⟨by simp[k.len],λi U aM=>?_⟩,by simp,by simp,λ_ _=>by simp⟩;simp only[Ro];by_cases E:i<fv ws;have X:i<fv ds:=by rw[k.len];exact E
 simp only[E,X,dite_true];exact k.same i E X;have X:¬i<fv ds:=by rw[k.len];exact E
 have aN:i=fv ws:=by simp at U;omega
 have az:i-fv ws=0:=by omega
 have aA:i-fv ds=0:=by rw[k.len];omega
 simp only[E,X,dite_false,az,aA,Hx];refine⟨?_,by show(xv 0 o).length<=_;omega,by show(rc o).length<=_;omega⟩;exact qz.new V ac (MG o 0).1 av;obtain⟨aB,aC,aD,ak⟩:=Oc (ft:=⟨R.pt,p,[]⟩) W s r A O (fy R.wa (fv ws) R.wc) (fy R.ta (fv ds) R.tc) (fE b) (R.sl 8) (R.sl 9) (R.sl 10) (R.sl 11) c t;refine(TY W s F c H aB aC S K L N P w ad c0 aD Y (λd f=>(ak d (a.w3.below f)).1) (λd f=>(ak d (a.w3.below f)).2) λd f=>Hi (a.below f).aaj t).mono ?_
 grind
theorem hsb(k:n<=1048600)(G:gJ B0 w W s r n)(a c f:Int)(S g)(h)(i j):
  ik 20 #[ii W,fD<|pO 7 a c f S g h i j] w λe J=>e=fF (fE fm)/\gJ B0 J W s r (n+1)/\Below B0 w J:=by
 have⟨b,R,T,p,I,A,O,got,ws,ds,l,m,D,o,E,q⟩:=G;apply (QF k l m q a c f S g h i j).mono;rintro e J ⟨t,u,v,M,x,y,z,B,C,_⟩;exact⟨t,⟨b,v,M,p,I,A,O,got,x,y,B,C.mono<|by omega,by omega,λd=>by rw[z];exact HA<|o d,by omega,by omega⟩,u⟩
theorem Hj(e:n<=1048600)(G:gJ B0 w W s r n):ik 24 #[fB<|fh (ie W 8)] w (vd (fE fm) w):=by
 have⟨b,R,T,p,I,A,O,got,ws,ds,a,f,g,c,_⟩:=G;exact a.still (λd=>by have:=c d;omega)
theorem gJ.below(G:gJ B0 w W s r n)(a:ju w J):gJ B0 J W s r n:=by
 have⟨b,R,T,p,I,A,O,got,ws,ds,c,rest⟩:=G;exact⟨b,R,T,p,I,A,O,got,ws,ds,c.below a,rest⟩
theorem gJ.cells(G:gJ B0 w W s r n):w.c W 0=fh (ii s)/\W<w.heap.size/\B0<=w.heap.size:=by
 have⟨b,R,T,p,I,A,O,got,ws,ds,a,rest⟩:=G;exact⟨a.c01.1,a.c01.2.2.1,a.size⟩
theorem gJ.mono(G:gJ B0 w W s r n)(a:n<=m):gJ B0 w W s r m:=by
 have⟨b,R,T,p,I,A,O,got,ws,ds,c,e,h,f,g,i⟩:=G;exact⟨b,R,T,p,I,A,O,got,ws,ds,c,e.mono<|by omega,by omega,λd=>ww (f d) a,g,by omega⟩
def QG(n)(e)(a):mn fl n (ltOf e) a=(e.2.2,a):=by
 unfold ltOf;split<;>(cases n<;>rw[mn])
theorem BU(n):∀(es acc:List fV),(∀e∈es,e.2.1=1\/e.2.1=2)->(es.map wd).foldl (λ(b:List fV×List Ob)x=>(b.1++[(x.1,x.2.kind,(mn fl n x.2 b.2).1)],(mn fl n x.2 b.2).2)) (acc,a)=(acc++es,a)
 |[],acc,_=>by simp
 |e::r,acc,d=>by
  rw[lM,HV]
  have f:(ltOf e).kind=e.2.1:=by
   unfold ltOf;split
   rename_i c
   rw[c];rfl
   rename_i c
   rw[(d e<|oN ..).resolve_right c];rfl
  show(r.map wd).foldl _ (acc++[(e.1,(ltOf e).kind,(mn fl n (ltOf e) a).1)],(mn fl n (ltOf e) a).2)=_;rw[QG,f,BU n r _ λx g=>d x<|wC _ g];simp
theorem hsh(h:mL a)(i:fM a n c)(j:og a fl)(b:nd a (gz a fl) c=.file d):mn fl n c a=kg a d:=by
 cases c with
 |file id=>
  have e:=Nd.file.inj b;rw[fM]at i;rw[<-e,h.uB i]
  grind [mn]
 |held f=>
  have e:=Nd.file.inj b;have k:mn fl n (.held f) a=kI (fl f) a:=by cases n<;>rw[mn]
  rw[k,<-e];unfold gz;rcases l:fl f with _|x
  rfl;obtain⟨id,d0⟩:=x;simp only;by_cases g:id≠0;rw[lv g,h.uB<|(j f id d0 l).1 g];simp[kI,g]
  grind [kI]
 |dir id=>cases b
 |own es=>cases b
theorem nys(g:Exact a)(h:mL a)(o:n<=5)(d:fM a n c){Y:Kids}(b:kids a c=fh Y):∃m,m<=n/\mn fl n c a=kC (lj fl m Y a).2 (lj fl m Y a).1/\∀x∈Y,n=m+1/\fM a m x.2:=by
 have i:=(lO g.sound d b).2.2;cases n with
 |zero=>
  have:Y=[]:=by
   rcases Y with _|⟨x,r⟩
   rfl;obtain⟨_,m,e,_⟩:=i x<|oN ..;omega
  subst this;refine⟨0,lw _,?_,λx f=>by cases f⟩;show _=kC a [];cases c with
  |file id=>cases b
  |held k=>cases b
  |own es=>rw[mn]
  |dir id=>
   rw[fM]at d
   have:fT a id=[]:=by simpa [kids]using b
   rw[<-this,h.yf d.1,mn]
 |succ n=>
  refine⟨n,Ha _,?_,λx f=>⟨fX,by obtain⟨m,e,j⟩:=(i x f).2;rw[show m=n by omega]at j;exact j⟩⟩;cases c with
  |file id=>cases b
  |held k=>cases b
  |own es=>cases b;exact uA fl n _ a
  |dir id=>
   rw[fM]at d;cases b;unfold lj;rw[BU n (fT a id) [] λe l=>((g.sound.2 id d.1).2.2 e l).2.1,HL,h.yf d.1,mn]
def QH (r:Int×List Ob)(O Z:List Ob)(x:Int):Prop:=O <+: Z/\((fv r.2<=400/\x=r.1-1/\Twin r.2 Z/\gR Z)\/(400<fv r.2/\x=-1))
theorem hsi(b:Twin a O)(h:fv a<=400)(g:gR O)(j:AD O Z (xp d) x):QH (kg a d) O Z x:=by
 have f:=Jx b d;unfold kg;rcases j with⟨i,c,rfl,rfl⟩|⟨c,k,rfl,rfl⟩|⟨c,k,rfl,rfl⟩
 rw[<-f,c];exact⟨sQ _,.inl ⟨h,by simp only;omega,b,g⟩⟩;rw[<-f,c];exact⟨sQ _,.inr ⟨by simp only[lI,Ca];have:=b.1;omega,fX⟩⟩;rw[<-f,c];exact⟨qD _ _,.inl ⟨by simp only[lI,Ca];have:=b.1;omega,by simp only;rw[b.1];omega,yj b ⟨fX,λ_=>rfl,λb=>absurd b (show ¬(1:Int)=2 by decide),fX,λ_=>rfl,λb=>absurd b (show ¬(1:Int)=2 by decide)⟩<|.inl fX,vM g λe l=>by cases l⟩⟩
theorem KI(c:Twin a O)(d:∀e∈es,fJ a e.2.2=e.2.1/\e.2.1≠0):xr O (es.map gF)=gy a es:=by
 have b:∀e∈es,Hb a e=fm:=λe g=>by
  obtain⟨h,i⟩:=d e g;unfold Hb;rw[h];simp[i]
 rw[<-KW (f:=lS<|fv a) λz j=>Vr<|zL (b z j)];exact zM c es 0 b
theorem ofM{f:iD×Nat}(b:Twin a O)(j:fv a<=400)(g:gR O)(h:∀e∈es,fJ a e.2.2=e.2.1/\e.2.1≠0)(k:AD O Z (Ll f m<|es.map gF) x):QH (kC a es) O Z x:=by
 have d:=NU b f m es;unfold kC;rcases k with⟨i,c,rfl,rfl⟩|⟨c,l,rfl,rfl⟩|⟨c,l,rfl,rfl⟩
 rw[<-d,c];exact⟨sQ _,.inl ⟨j,by simp only;omega,b,g⟩⟩;rw[<-d,c];exact⟨sQ _,.inr ⟨by simp only[lI,Ca];have:=b.1;omega,fX⟩⟩;rw[<-d,c];refine⟨qD _ _,.inl ⟨by simp only[lI,Ca];have:=b.1;omega,by simp only;rw[b.1];omega,yj b ⟨fX,λb=>absurd b (show ¬(2:Int)=1 by decide),λ_=>rfl,KI b h,λb=>absurd b (show ¬(2:Int)=1 by decide),λ_=>rfl⟩<|.inr fX,vM g λe n=>?_⟩⟩;obtain⟨y,o,rfl⟩:=jC.1 n;obtain⟨p,q⟩:=h y o;obtain⟨r,s⟩:=np (by rw[p];exact q)
 have:=b.1
 show 0<=y.2.2-1/\y.2.2-1<_;omega
def Hl (a:List Ob):Prop:=∀(i:Nat)(b:Ob),a[i]?=fh b->b.kind=2->∀e∈b.gh,e.2.2<=(i:Int)
theorem UE(b:Twin a O)(d:gR O):Hl a:=λi j f g e h=>by
 obtain⟨U,rfl⟩:=wI.1 f
 have c:i<fv O:=by rw[<-b.1];exact U
 have:=d i c (gF e) (by rw[(b.2.1 i U c).gh g];exact DY h)
 have:e.2.2-1<(i:Int):=this.2
 omega
theorem Hl.Pz{b}(h:gK a b)(j:Hl a):Hl b:=by
 induction h with
 |nil=>exact j
 |@snoc b o _ l m=>
  intro i x c d e f;by_cases U:i<fv b;rw[wz U]at c;exact m i x c d e f;have n:=(wI.1 c).1;simp only[lI,Ca]at n;rw[show i=fv b by omega]at c |-;simp only[BX<|lw _,EK,sev,pW]at c;subst c;rcases l.or with⟨k,_⟩|⟨_,_,_,_,_,g,_⟩
  rw[k]at d;cases d
  have:=np (by rw[(g e f).2.2];exact ne0 (g e f).2.1)
  omega
def Names (b:List Ob)(j:Nat):Prop:=∃k a,j<k/\b[k]?=fh a/\a.kind=2/\∃e∈a.gh,e.2.2=(j:Int)+1
theorem Names.app{b}{j}(c:Names b j)(l:List Ob):Names (b++l) j:=by
 obtain⟨k,d,e,a,f⟩:=c;exact⟨k,d,e,by rw[wz (wI.1 a).1];exact a,f⟩
def KJ (a:List Ob)(r:Int×List Ob):Prop:=(fv a<fv r.2->r.1=(fv r.2:Int))/\∀j,fv a<=j->j+1<fv r.2->Names r.2 j
theorem lW(id:Int):KJ a (id,a):=⟨λb=>absurd b<|igi _,λj d c=>by simp only at c;omega⟩
theorem KL(b:Ob):KJ a ((fv a:Int)+1,a++[b]):=⟨λ_=>by simp,λj d c=>by simp at c;omega⟩
def Ho(d):KJ a (kg a d):=by
 unfold kg;split;exact lW _;exact KL _
theorem UF(s:n<=5)(A:∀(c:LT)(a:List Ob),Exact a->fM a n c->og a fl->Hl a->KJ a (mn fl n c a)):∀(l:Kids)(a:List Ob),Exact a->og a fl->Hl a->(∀x∈fx l,fN x.1=fm/\fM a n x.2)->
  (fv a<(lj fl n (fx l) a).2.length->∃e∈(lj fl n (fx l) a).1,e.2.2=((lj fl n (fx l) a).2.length:Int))/\∀j,fv a<=j->j<(lj fl n (fx l) a).2.length->Names (lj fl n (fx l) a).2 j\/∃e∈(lj fl n (fx l) a).1,e.2.2=(j:Int)+1:=by
 intro l
 induction l with
 |nil=>intro a _ _ _ _;exact⟨λd=>absurd d<|igi _,λj f g=>absurd (hPQ f g)<|igi _⟩
 |cons x r B=>
  intro a h q t u;have v:∀y∈fx r,fN y.1=fm/\fM a n y.2:=λy C=>u y (by rw[kL];simp[List.mem_reverse.1 C])
  obtain⟨D,E⟩:=B a h q t v;obtain⟨i,_⟩:=rZ fl n (λc a F k m=>kQ fl n s c a F k m) (fx r) a h q v;obtain⟨w,z⟩:=i.app;have k:fM (lj fl n (fx r) a).2 n x.2:=by rw[z];exact jl w n _ (u x<|by simp).2
  have m:og (lj fl n (fx r) a).2 fl:=by rw[z];exact q.app w
  have G:=A x.2 _ (i.exact h) k m<|t.Pz i;obtain⟨o,H⟩:=(kQ fl n s x.2 _ (i.exact h) k m).dr.app;rw[kL,kP];generalize lj fl n (fx r) a=I at *;obtain⟨es,b⟩:=I;simp only at *;generalize mn fl n x.2 b=J at *;obtain⟨id,N⟩:=J;simp only at *;subst H;obtain⟨c1,c2⟩:=G;simp only at c1 c2;refine⟨λd=>?_,λj f g=>?_⟩;by_cases p:fv b<fv (b++o);exact⟨_,Wt _<|om.2 fX,c1 p⟩
  have:o=[]:=KQ (by rw[lI]at p;omega)
  subst this;rw[lJ]at d |-;obtain⟨e,f,g⟩:=D d;exact⟨e,Rn _ f,g⟩;by_cases p:j<fv b;rcases E j f p with d|⟨e,K,L⟩
  exact .inl<|d.app o;exact .inr ⟨e,Rn _ K,L⟩;by_cases M:j+1<fv (b++o);exact .inl<|c2 j (by omega) M;exact .inr ⟨_,Wt _<|om.2 fX,by simp only;rw[c1<|by omega];omega⟩
theorem ZR:∀(n:Nat),n<=5->∀(c:LT)(a:List Ob),Exact a->fM a n c->og a fl->Hl a->KJ a (mn fl n c a):=by
 intro n
 induction n with
 |zero=>
  intro _ c a l f o g;cases c with
  |file id=>rw[mn];exact lW _
  |dir id=>rw[mn];exact lW _
  |held t=>rw[mn];unfold kI;split<;>(try split)<;>first|exact lW _|exact Ho _
  |own es=>
   grind [mn,kC,lW,KL]
 |succ n u=>
  intro E c a l f o g;cases c with
  |file id=>rw[mn];exact lW _
  |dir id=>rw[mn];exact lW _
  |held t=>rw[mn];unfold kI;split<;>(try split)<;>first|exact lW _|exact Ho _
  |own es=>
   have v:∀y∈es,fN y.1=fm/\fM a n y.2:=λy w=>by
    obtain⟨h,m,e,d⟩:=(lO l.sound f (Y:=es) fX).2.2 y w;rw[show m=n by omega]at d;exact⟨h,d⟩
   have s:=UF (by omega) (λc a p f q g=>u (by omega) c a p f q g) (fx es) a l o g (by grind);rw[uo]at s;obtain⟨x,_⟩:=rZ fl n (λc a p f q=>kQ fl n (by omega) c a p f q) es a l o v;rw[uA];generalize lj fl n es a=z at *;obtain⟨r,b⟩:=z;simp only at *;obtain⟨c1,c2⟩:=s;unfold kC;cases A:gG b r with
   |some i=>
    obtain⟨U,d1,d2⟩:=Jq A;have B:¬fv a<fv b:=λk=>by
     obtain⟨e,h,d⟩:=c1 k
     have:=(g.Pz x) i b[i] (jG U) d1 e (by grind)
     omega
    exact⟨λk=>absurd k B,λj h d=>by simp only at d;omega⟩
   |none=>
    refine⟨λ_=>by simp,λj h d=>?_⟩;simp only[lI,Ca]at d;rcases c2 j h (by omega)with k|⟨e,C,D⟩
    exact k.app _;exact⟨fv b,Lv r<|gy b r,by omega,by simp,fX,e,C,D⟩
theorem Aj.below{ba wa}{bc wc}{base}{N}(a:Aj w rest ba wa bc wc base N){b}(d:Below b w J)(e:b=w.heap.size):Aj J rest ba wa bc wc base N:=
 ⟨a.r32,a.r33,gg a.TW λg c=>d.block g (by rw[e];exact gc a.TW c),gg a.yV λg c=>d.block g (by rw[e];exact gc a.yV c)⟩
def BV{a b:Type}(g:a->List b){l:List a}(c:k<fv l):(l.take<|k+1).flatMap g=(l.take k).flatMap g++g l[k]:=by
 rw[vv c,List.flatMap_append];simp
def gm.c34(b:gm F w S na da nc dc E data rest)(a:Aj w rest ba wa bc wc base N):w.c S 34=fh (fy ba (fv base) bc)/\w.c S 35=fh (fy wa (fv N) wc):=by
 constructor<;>simp[World.cell?,b.hS,a.r32,a.r33]
theorem tV{a}{n c}(b:w.ownsRow 0 200 3 (fy a n c) n (flat es)):jw w a n es:=by
 refine⟨by have:=b.1;rw[ly]at this;omega,λd=>?_⟩;have⟨g,i,e⟩:=hh b d;cases (lK e).1;exact⟨g,0,fX,gc b fX,λj f h=>by have:=ks b j f h;simpa using this⟩
theorem Ao(l)(p):(QQ l p=fj/\nw l p=fj)\/∃i,∃U:i<fv l,QQ l p=fh i/\((l[i].2.1≠1/\nw l p=fj)\/(l[i].2.1=1/\nw l p=fh l[i].2.2)):=by
 unfold nw;rcases a:QQ l p with _|i
 grind
 have U:i<fv l:=(yM.1 a).1
 grind
theorem hss(l:List Ob)(b:fM a n c):kids (a++l) c=kids a c:=by
 cases c with
 |file i=>rfl
 |held d=>rfl
 |dir i=>rw[fM]at b;simp only[kids];rw[pK l<|by omega]
 |own es=>rfl
def xys(d:Sound a)(l:List Ob)(b:og a fl)(e:fM a n c):nd (a++l) (gz (a++l) fl) c=nd a (gz a fl) c:=by
 have:=ng d l (gz a fl) [] n c e
 rw[px,px,<-Mg b l]at this;rw[rK this,Mg b l]
def htb (S r:Nat)(na da:iD)(nc dc:Nat)(E:List fV)(data:fQ)(rest:gX)(A:List Ob)(fl:Nat->Option (Int×fO))(t:LT)(n:Nat):Prop:=
 ∀(a:fQ)(c:LT)(l O:List Ob)(F G:Nat->Prop)(w:fq),fv a+n=5->t.at A a=fh c->gm F w S na da nc dc E data rest->gi G w r O->(∀k,G k->k<w.heap.size)->(∀k,F k->k<w.heap.size/\¬G k)->
  Twin (A++l) O->gR O->Exact (A++l)->mL (A++l)->fv (A++l)<=400->
  Calls prog 108 #[fB<|fh ⟨S,0,fj⟩,fB<|fh ⟨r,0,fj⟩,fA<|fG a] w λe J=>∃x Z,e=fF (.int .i64 x)/\QH (mn fl n c<|A++l) O Z x/\gi (kB G w J) J r Z/\fH G w J
theorem yle(q:Reads A (gz A fl) t E data)(h:gf E data){b}(r:fL b)(s:t.at A b=fh c):
  (c.kind=2/\(QQ E (fG b)=fj\/∃i,∃U:i<fv E,QQ E (fG b)=fh i/\E[i].2.1≠1))\/(∃i,∃U:i<fv E,∃j:Nat,∃G:j<fv data,QQ E (fG b)=fh i/\E[i].2=(1,(j:Int))/\nd A (gz A fl) c=.file data[j]):=by
 have a:=q b r;unfold xc at a;rw[s,qA]at a;by_cases p:b=[];subst p;have u:c.kind=2:=by
  unfold gj at a;rw[lv fX]at a;cases c<;>first|rfl|(exfalso;cases a)
 refine .inl ⟨u,.inl ?_⟩;refine Wn.2 λe v=>?_;have⟨y,w,z,_,B⟩:=h.jF e v;simp only[decide_eq_false_iff_not];intro f
 have:=iF (by simpa [iT,Av]using f)
 rw[B]at this;exact w<|tk z (λx C=>by cases C) this;have d:=Qx (E:=E) p;rcases n:gj E b with _|x
 grind
 obtain⟨k,j⟩:=x;rw[n]at a d;rw[qA,pW]at a;rw[wy]at d;rcases Ao E (fG b) with⟨l,f⟩|⟨i,U,l,⟨f,m⟩|⟨f,m⟩⟩
 have g:k≠1:=λe=>by rw[e,lv fX,f]at d;cases d
 have o:k=2:=(tJ h n).resolve_left g;subst o;exact .inl ⟨by cases c<;>first|rfl|(exfalso;cases a),.inl l⟩;have g:k≠1:=λe=>by rw[e,lv fX,m]at d;cases d
 have o:k=2:=(tJ h n).resolve_left g;subst o;exact .inl ⟨by cases c<;>first|rfl|(exfalso;cases a),.inr ⟨i,U,l,f⟩⟩;have g:k=1:=Decidable.byContradiction λe=>by rw[km e,m]at d;cases d
 subst g;rw[lv fX,m]at d;obtain⟨f0,f1⟩:=h.files _ (kK U) f;obtain⟨fn,D⟩:∃fn:Nat,E[i].2.2=(fn:Int):=⟨E[i].2.2.toNat,by omega⟩;have F:fn<fv data:=by omega
 refine .inr ⟨i,U,fn,F,l,by rw[<-f,<-D],?_⟩;rw[a];unfold IC
 grind
theorem Ap{G c}(a:fH G w w1)(b:fH c w1 w2)(g:∀k,c k->G k\/w.heap.size<=k):fH G w w2:=
 ⟨b.os.trans a.os,b.tape.trans a.tape,b.output.trans a.output,ww a.size b.size,λk d f=>(b.block k (nz d a.size) λe=>(g k e).elim f λe=>by omega).trans<|a.block k d f⟩
theorem QI{w w2 c}{d}{f}{own:Option Nat}(a:fH G w w2)(b:((w2.drewN d).alloc f).grownBy c own)(h:∀k,fh k=own->w.heap.size<=k):fH G w c:=
 ⟨b.os.trans a.os,b.tape.trans a.tape,b.output.trans a.output,ww a.size (by have:=b.size;simp at this;omega),λk g i=>(b.block k (by have:=a.size;simp;omega) (λe=>by have:=h k e;omega)).trans<|(ox w2 d f k (nz g a.size)).trans (a.block k g i)⟩
theorem QJ(a:gm F w S na da nc dc E data rest)(p){i b:Nat}(U:i<fv E)(k:b<fv data)(l:QQ E p=fh i)(o:E[i].2=(1,(b:Int)))(q:fv E<=1000000000)(y:fv data<=1000000000)(R:Int->fq->Prop)
  (h:∀z,ik 78 #[ii r,fD #[fY 1,fA data[b],fy fj 0 0,fY 0]] (w.drewN z) λe J=>∃x,e=fF (fY x)/\R x J):
  ik 108 #[ii S,ii r,hZ p] w λe J=>∃x,e=fF (fY x)/\R x J:=by
 have c:=pM na (fv E) nc E p w (tV a.lU) q;rw[l]at c;obtain⟨d,j⟩:=oX<|data[b];rw[<-j]at h;obtain⟨n,s⟩:=oX<|fv E;obtain⟨m,t⟩:=oX<|fv data;have f:=a.lU;have⟨g,K,u⟩:=hh f (by omega);have A:=(lK u).1;subst A;have⟨_,c1,c2⟩:=lr (off:=0) (ks f) U;rw[iR,o]at c1 c2;have⟨L,B,M,N,_⟩:=row_one a.jm (i:=b) (v:=fA d) (by simp[gN,k,j]);subst B;have C:=a.c0;have D:=a.c1;have O:=a.lt;have P:=gc f fX;rw[<-s]at c C U q;rw[<-t]at D k y;have G:ik 106 #[my g 0 n nc,hZ p] w (UV (fY (i:Int)) w):=c;have Q:(i:Int)<(n:Int):=by omega
 have T:(b:Int)<(m:Int):=by omega
 have H:fe _:=h;simp only at c1 c2;clear c a f u l o s t j h;go_enter func108,ntmps108;go_wp2_with fail;refine tB G ?_;go_wp2
 go_region_with(go_at_call 78;apply Ps<|H.o _;rintro _ w1 ⟨x,rfl,I⟩)
 all_goals
  go_wp2;go_ret;exact⟨x,fX,I⟩
theorem UG(u:gm F w S na da nc dc E data rest)(aB:∀k,F k->k<w.heap.size/\¬G k)(p:fO)(bv:p.size<=1000)(A:QQ E p=fj\/∃i,∃U:i<fv E,QQ E p=fh i/\E[i].2.1≠1)(ah:fv E<=1000000000)(d:fQ)(aY:fv d<=16)(aC:∀x∈d,x.size<=12)
  (aD:ik 156 #[ii S,hZ p] w λe J=>∃v,e=fF v/\J.ownsRow w.heap.size 9 1 v (fv d) (gN d)/\ju w J)
  (h:Nat->List fV->(Nat->Prop)->fq->Prop)(R:Int->fq->Prop)(aE:∀w1,ju w w1->h 0 [] G w1)
  (Z:∀{j es b wr},h j es b wr->fv es=j/\∀k,b k->k<wr.heap.size/\(G k\/w.heap.size<=k))
  (o:∀{j es b wr wr'},h j es b wr->(∀k,b k->wr'.heap[k]?=wr.heap[k]?)->wr.heap.size<=wr'.heap.size->h j es b wr')
  (aF:∀j(aZ:j<fv d)es b wr,h j es b wr->gm F wr S na da nc dc E data rest->(∀k,F k->k<wr.heap.size/\¬b k)->fH G w wr->
   ik 108 #[ii S,ii r,hZ<|iU p d[j]] wr λe J=>∃x,e=fF (fY x)/\fH b wr J/\((x<0/\R (-1) J)\/(0<=x/\h (j+1) (es++[(d[j],ol E<|iU p d[j],x)]) (kB b wr J) J)))
  (ai:∀es b wr q s,h (fv d) es b wr->fH G w wr->wr.ownsRow 0 112 3 (fy q (fv d) s) (fv d) (flat es)->(∀g,(Value.slice q (fv d) s).ownBlock=fh g->¬b g/\w.heap.size<=g)->
   ik 78 #[ii r,fD #[fY 2,hZ kq,fy q (fv d) s,fY 0]] wr λe J=>∃x,e=fF (fY x)/\R x J):
  ik 108 #[ii S,ii r,hZ p] w λe J=>∃x,e=fF (fY x)/\R x J:=by
 have⟨bb,y,bc,bd,aa⟩:=kM wP;have Q:=pM na (fv E) nc E p w (tV u.lU) ah;obtain⟨n,aG⟩:=oX<|fv E;obtain⟨m,aj⟩:=oX<|fv d;have ak:=u.c0;have bw:=u.lt;have be:(pF (QQ E p)=-1)\/(∃i:Nat,∃g,∃K:Int,pF (QQ E p)=(i:Int)/\(i:Int)<(n:Int)/\g<w.heap.size/\na=fh (ie g 0)/\w.c g (i*3+1)=fh (fY K)/\(K==1)=fo):=by
  rcases A with A|⟨i,U,A,T⟩
  exact .inl (by rw[A];rfl);have f:=u.lU;have⟨g,bx,bf⟩:=hh f (by omega);have aH:=(lK bf).1;rw[aH]at f;have⟨_,c1,_⟩:=lr (off:=0) (ks f) U;rw[iR]at c1;exact .inr ⟨i,g,_,by rw[A];rfl,by omega,gc f fX,aH,c1,by simpa using T⟩
 have bg:fe (gm F w S na da nc dc E data rest):=u;have HFG:fe (∀k,F k->k<w.heap.size/\¬G k):=aB;have bh:fe (∀x∈d,x.size<=12):=aC;have aI:fe (∀w1,ju w w1->h 0 [] G w1):=aE;have ab:fe (∀{j es b wr},h j es b wr->fv es=j/\∀k,b k->k<wr.heap.size/\(G k\/w.heap.size<=k)):=Z;have bi:fe (∀{j es b wr wr'},h j es b wr->(∀k,b k->wr'.heap[k]?=wr.heap[k]?)->wr.heap.size<=wr'.heap.size->h j es b wr'):=o;have bj:fe _:=aF;have al:fe _:=aD;rw[<-aG]at Q ak;rw[<-aj]at ai aY al;have bk:fe _:=ai;have aJ:fe (m=fv d/\fv E<=1000000000):=⟨aj,ah⟩;clear u aB aC aE Z o aF aD ai A aj aG ah;rcases be with A|⟨i,g,K,A,bz,am,V,c1,an⟩
 case' inl=>rw[A]at Q
 case' inr=>
  rw[A,V]at Q;rw[V]at ak;clear V
 all_goals
  clear A;go_enter func108,ntmps108;go_wp2_with fail;refine tB Q ?_;clear Q;go_wp2_with fail;apply Ps al.o;rintro _ w1 ⟨v,rfl,N,W⟩;obtain⟨ao,I,rfl⟩:=pp N;have bl:fe (w1.ownsRow w.heap.size 9 1 (fy ao m I) m (gN d)/\ju w w1):=⟨N,W⟩;clear N W al ak;go_wp2
  go_loopw [9,10] (λl i wr=>∃(j:Nat) (q:iD) (s:Nat),j<=m/\i=.int .i64 (j:Int)/\l=fy q j s/\fe (∃es b,h j es b wr/\fH G w wr/\wr.ownsRow w.heap.size 112 3 (fy q j s) j (flat es)/\wr.ownsRow w.heap.size 9 1 (fy ao m I) m (gN d)/\∀k,b k->fh k≠(Value.slice q j s).ownBlock/\fh k≠(Value.slice ao m I).ownBlock)) (λ_ i _=>m-(intOf i).toNat)
  case atStart=>
   have⟨N,W⟩:=bl.o;refine⟨0,fj,0,Fr _,fX,fX,[],G,aI.o w1 W,fH.fK W,jY _ _ _ _,N,λk c=>⟨(λe=>by cases e),λe=>?_⟩⟩;have bA:=((ab.o<|aI.o w (mi _ _)).2 k c).1;have bB:=(N.lt k e.symm).1;omega
  case round=>
   obtain⟨j,q,s,aZ,rfl,rfl,aK⟩:=hrel;have⟨es,b,y,o,f,C,z⟩:=aK.o;clear aK;by_cases Z:j<m
   ·have ap:j<fv d:=by rw[<-aJ.o.1];exact Z
    have⟨B,V,am,aq,_⟩:=row_one (tR C<|Fr _) (i:=j) (v:=fA d[j]) (by simp[gN,ap]);subst V;have ar:gm F wr S na da nc dc E data rest:=bg.o.keep (λ_ u=>u) λk c=>o.block k (HFG.o k c).1 (HFG.o k c).2;have au:∀k,F k->k<wr.heap.size/\¬b k:=λk c=>⟨nz (HFG.o k c).1 o.size,λt=>by
     rcases((ab.o y).2 k t).2 with e|e
     exact(HFG.o k c).2 e
     have:=(HFG.o k c).1;omega⟩
    have av:=bj.o j ap es b wr y ar au o;obtain⟨x,ac⟩:=oX<|d[j];have bC:x.size<=12:=by rw[ac];exact bh.o _<|kK ap
    obtain⟨D,O⟩:=oX<|iU p x;rw[<-ac,<-O]at av;rw[<-ac]at aq;have ad:fe (D=iU p x):=O;have aL:fe _:=av;have aM:fe _:=ar;have Bj:fe _:=au;have aN:fe _:=And.intro y<|And.intro o (And.intro f<|And.intro C z);have aO:(j:Int)<(m:Int):=by omega
    clear av ar au y o f C z O ac;go_upto_if 63 with fail
    go_cut [11]from 52 to 85 λbm bn=>bm=fA D/\bn=wr
    case first=>
     cases X:(p.toList==[]) with
     |true=>
      have aw:fe (D=x):=Hc<|by rw[ad.o];unfold iU;rw[lv<|eq_of_beq X]
      have ax:(!p.toList.isEmpty)=fo:=by rw[eq_of_beq X];rfl
      go_wp2_with fail
      all_goals first
       |(exfalso;rename (! _)=_=>GD;rw[ax]at GD;cases GD;done)
       |(go_meet;exact⟨by rw[aw.o],fX⟩)
     |false=>
      have aw:fe (D=p++⟨#[47]⟩++x):=Hc<|by rw[ad.o];unfold iU;rw[km<|EF.1 X]
      have ax:(!p.toList.isEmpty)=fm:=by
       cases bo:p.toList with
       |nil=>rw[bo]at X;cases X
       |cons _ _=>rfl
      go_wp2_with fail
      all_goals first
       |(exfalso;rename (! _)=_=>GD;rw[ax]at GD;cases GD;done)
       |(go_meet;exact⟨by rw[aw.o],fX⟩)
    case rest=>
     obtain⟨rfl,aP⟩:=hcut;rw[aP];clear aP;go_wp2_with fail;apply Ps aL.o;rintro _ w2 ⟨Y,rfl,H,⟨bD,ae⟩|⟨bp,aa⟩⟩
     ·have bq:fe _:=ae
      clear H ae;go_wp2;go_ret;exact⟨_,fX,bq.o⟩
     have⟨y,o,f,C,z⟩:=aN.o;have br:fh B=(Value.slice (fh<|ie B 0) m I).ownBlock:=fX;have bE:w2.c B j=fh (hZ x):=(wJ (a:=(ie B j)) (H.block B am λe=>(z B e).2 br)).trans aq;have bF:B<w2.heap.size:=nz am H.size;have ay:fe (w2.ownsRow w.heap.size 112 3 (fy q j s) j<|flat es):=gg f λg t=>H.block g (gc f t) λe=>(z g e).1 t.symm;have az:fe (w2.ownsRow w.heap.size 9 1 (my B 0 m I) m<|gN d):=gg C λg t=>H.block g (gc C t) λe=>(z g e).2 t.symm;have aQ:gm F w2 S na da nc dc E data rest:=aM.o.keep (λ_ u=>u) λk c=>H.block k (Bj.o k c).1 (Bj.o k c).2;have aR:fe (∀af,ik 155 #[ii S,hZ D] (w2.drewN af) λe J=>e=fF (fY<|ol E D)/\J=w2.drewN af):=λaf=>pN (w:=w2.drewN af) (aQ.keep (λ_ u=>u) λ_ _=>rfl) D aJ.o.2;have aS:fe (fH G w w2):=Ap o H λk c=>((ab.o y).2 k c).2;have HNE:fe (∀k,kB b wr w2 k->k<w2.heap.size/\fh k≠(Value.slice q j s).ownBlock/\fh k≠(Value.slice (fh<|ie B 0) m I).ownBlock):=by
      rintro k (c|c);exact⟨nz ((ab.o y).2 k c).1 H.size,z k c⟩;exact⟨c.2,λe=>by have:=gc f e.symm;omega,λe=>by have:=gc C e.symm;omega⟩
     have aT:fe (h (j+1) (es++[(x,ol E D,Y)]) (kB b wr w2) w2):=aa;have bG:w.heap.size<=w2.heap.size:=aS.o.size;obtain⟨K,an⟩:=oX<|ol E D;rw[<-an]at aR aT;have bH:decide (Y<0)=fo:=yv (by omega);clear y o f C z aa H aQ aN aL aM an aq bp;go_wp2
     go_region_law(first
      |(refine pw fX (.tmp 74) (.tmp 84) 106 fX w.heap.size 112 bb _ 3 32 underlying106 y bc bd aa fX (by decide) (fy q j s) j (flat es) (by simp[Act.eval]) (rJ (show(w2.drewN 1).ownsRow _ _ _ _ _ _ from ay.o) _) (ie w2.heap.size 0) 1 1 (pB (x,K,Y)) (by simp[Act.eval]) fX (ub (w2.drewN 1) (x,K,Y) _ _ fX) (se _) (by unfold maxLen;omega) (by omega) (by simp;omega) ?_;intro v4 P aA ag aU)
      |(go_simp;go_at_call 155;refine tB (aR.o 1) ?_))
     all_goals
      have aV:fe (∃L M,v4=fy L (j+1) M/\∃es b,h (j+1) es b P/\fH G w P/\P.ownsRow w.heap.size 112 3 (fy L (j+1) M) (j+1) (flat es)/\P.ownsRow w.heap.size 9 1 (my B 0 m I) m (gN d)/\∀k,b k->fh k≠(Value.slice L (j+1) M).ownBlock/\fh k≠(Value.slice (fh<|ie B 0) m I).ownBlock):=by
       obtain⟨L,M,rfl⟩:=pp aA;have bs:w2.heap.size<=P.heap.size:=by have:=ag.size;simp at this;omega
       have aW:∀k,k<w2.heap.size->fh k≠(Value.slice q j s).ownBlock->P.heap[k]?=w2.heap[k]?:=λk c z=>(ag.block k (by simp;omega) z).trans<|ox w2 1 _ k c;refine⟨L,M,fX,es++[(x,K,Y)],kB b wr w2,bi.o aT.o (λk c=>aW k (HNE.o k c).1 (HNE.o k c).2.1) bs,QI aS.o ag λk e=>(ay.o.lt k e.symm).1,by rw[ra,tz];exact aA,gg az.o λg t=>aW g (gc az.o t)<|PH az.o ay.o (by decide) t,λk c=>⟨λe=>?_,(HNE.o k c).2.2⟩⟩;rcases aU with T|T
       exact(HNE.o k c).2.1<|e.trans T;rw[T]at e
       have:=(HNE.o k c).1
       have bt:=rK e;simp at bt;omega
      clear aA ag aU;obtain⟨L,M,rfl,aX⟩:=aV.o;have bu:fe _:=aX;clear aV aX;go_wp2;go_roundw
      case rel=>exact⟨j+1,L,M,by omega,by go_num,rfl,bu.o⟩
      case measure=>simp[intOf];omega
   have aO:j=m:=by omega
   subst aO;have bI:decide ((j:Int)<(j:Int))=fo:=yv (by omega);have O:=bk.o es b wr q s y o (tR f<|Fr _) λg t=>⟨λe=>(z g e).1 t.symm,(f.lt g t).1⟩;have ad:fe _:=O;clear O y o f C z;go_wp2_with fail;apply Ps ad.o;rintro _ bJ ⟨x,rfl,ae⟩;go_wp2;go_ret;exact⟨x,fX,ae⟩
theorem DS(c:Twin a O)(i:∀e∈O,e.data.size<=256)(d:fJ a id=1):(bytesOf a id).size<=256:=by
 obtain⟨f,b⟩:=np (a:=a) (id:=id) (by omega);have g:(id-1).toNat<fv O:=by rw[<-c.1];exact b
 have h:a[(id-1).toNat].kind=1:=by
  unfold fJ at d;rwa [lv f,jG b]at d
 unfold bytesOf;rw[jG b,qA,jI,<-(c.2.1 _ b g).data h]
 grind
theorem UH(h:Twin a O)(i:∀m∈O,m.data.size<=256)(j:og a fl)(k:fM a n c)(b:nd a (gz a fl) c=.file d):d.size<=256:=by
 cases c with
 |file id=>
  have e:=Nd.file.inj b;rw[fM]at k;rw[<-e];exact DS h i k
 |held g=>
  have e:=Nd.file.inj b;rw[<-e];unfold gz;rcases l:fl g with _|x
  exact Fr _;obtain⟨id,d0⟩:=x;simp only;by_cases f:id≠0;rw[lv f];exact DS h i<|(j g id d0 l).1 f;rw[km f];exact(j g id d0 l).2<|oP.1 f
 |dir id=>cases b
 |own es=>cases b
theorem okB(a:Reads A (gz A fl) t E data)(b:gf E data){y}(c:fL y){d:LT}(f:t.at A y=fh d):ol E (fG y)=d.kind:=by
 have e:xc A (gz A fl) t y=fh (nd A (gz A fl) d):=by unfold xc;rw[f];rfl
 cases d with
 |file i=>exact(a.Kk b c).2 ⟨_,e⟩
 |held i=>exact(a.Kk b c).2 ⟨_,e⟩
 |dir i=>exact(a.tI b c).2 e
 |own i=>exact(a.tI b c).2 e
theorem QK(ao:Reads A (gz A fl) t E data)(K:gf E data)(ap:Sound A)(V:fM A 5 t)(W:og A fl)(aq:fv E<=1000000000)(aV:fv data<=1000000000)(n:Nat)(aW:∀m,n=m+1->htb S r na da nc dc E data rest A fl t m):htb S r na da nc dc E data rest A fl t n:=by
 intro p c l O F G w bw X ar au hGl aX aa aF s ab av;obtain⟨ac,ad,L⟩:=tA ap p V X;rw[show 5-fv p=n by omega]at ad;have M:=jl l n c ad;have N:=W.app l;obtain⟨a,ae⟩:∃a,a=A++l:=⟨_,fX⟩;rw[<-ae]at aa s ab av M N |-;have bx:(fG p).size<=65:=Gx L ac;rcases yle ao K L X with⟨b,aw⟩|⟨i,U,aG,aw,aY,aZ,af⟩
 obtain⟨Y,ax⟩:=rB (a:=A) b;have aH:kids a c=fh Y:=by rw[ae,hss l ad];exact ax
 obtain⟨m,bz,ag,ah⟩:=nys (fl:=fl) s ab (by omega) M aH;obtain⟨bb,aI,ay⟩:=lO s.sound M aH;have bc:=CP ao K ap V X ax;have bd:∀j,∀x∈Y.take j,fN x.1=fm/\fM a m x.2:=λj x H=>⟨(ay x<|Aw H).1,(ah x<|Aw H).2⟩;have hkr:=λj=>rZ fl m (λc a s V W=>kQ fl m (by omega) c a s V W) (Y.take j) a s N<|bd j;have aJ:∀j(B:j<fv Y),lj fl m (Y.take<|j+1) a=((lj fl m (Y.take j) a).1++[(Y[j].1,Y[j].2.kind,(mn fl m Y[j].2 (lj fl m (Y.take j) a).2).1)],(mn fl m Y[j].2 (lj fl m (Y.take j) a).2).2):=λj B=>by rw[vv B,kP]
 have aK:∀j(B:j<fv Y),Jr (lj fl m (Y.take j) a).2 m (jd m Y[j].2) Y[j].2 (mn fl m Y[j].2 (lj fl m (Y.take j) a).2):=λj B=>by
  obtain⟨P,ai⟩:=(hkr j).1.app;exact kQ fl m (by omega) _ _ ((hkr j).1.exact s) (by rw[ai];exact jl P m _ (ah _<|kK B).2) (by rw[ai];exact N.app P)
 have be:∀d j,j+d<=fv Y->(lj fl m (Y.take j) a).2.length<=(lj fl m (Y.take<|j+d) a).2.length:=by
  intro d
  induction d with
  |zero=>exact λj _=>lw _
  |succ d bf=>
   intro j bA;refine ww (bf j<|by omega) ?_;rw[show j+(d+1)=(j+d)+1 by omega,aJ (j+d)<|by omega];obtain⟨bB,bg⟩:=(aK (j+d)<|by omega).dr.app;simp only;rw[bg,lI];omega
 have aL:∀j,(lj fl m (Y.take j) a).1.length=fv (Y.take j):=λj=>by have:=congrArg List.length (hkr j).2.1;simpa using this
 refine(UG (r:=r) ar aX (fG p) (by omega) aw aq (Y.map (·.1)) (by rw[oL];exact aI) (λx H=>?_) ?_
  (λj es C wr=>j<=fv Y/\es=(lj fl m (Y.take j) a).1.map gF/\(lj fl m (Y.take j) a).2.length<=400/\(∀k,C k->k<wr.heap.size/\(G k\/w.heap.size<=k))/\∃q,gi C wr r q/\Twin (lj fl m (Y.take j) a).2 q/\gR q/\O <+: q)
  (λx J=>∃Z,QH (mn fl n c a) O Z x/\gi (kB G w J) J r Z/\fH G w J) ?_ ?_ ?_ ?_ ?_).mono ?_
 obtain⟨y,aj,rfl⟩:=jC.1 H;exact(xj (ay y aj).1).2;rw[bc];exact Cy ar (fG p) aq (λe f=>ww (K.small e f)<|by decide)<|K.few p L;exact λw1 aM=>⟨Fr _,fX,av,λk b=>⟨nz (hGl k b) aM.size,.inl b⟩,O,au.below aM λ_ o=>o,aa,aF,sQ _⟩;rintro j es C wr ⟨u,rfl,_,v,_⟩;exact⟨by rw[oL,aL,kT];omega,v⟩;rintro j es C wr bC ⟨u,aN,v,ac,q,Q,z,R⟩ b az;exact⟨u,aN,v,λk h=>⟨nz (ac k h).1 az,(ac k h).2⟩,q,Q.keep (λ_ o=>o) b,z,R⟩;rintro j B es C wr ⟨u,rfl,v,h5',q,Q,z,R,ak⟩ bh bi I;have T:j<fv Y:=by simpa using B
 obtain⟨bj,bD⟩:=ah _<|kK T;obtain⟨P,ai⟩:=(hkr j).1.app;have bk:fL (p++[Y[j].1]):=L.append (λx H=>by rw[om.1 H];exact(ay _<|kK T).1);have aO:t.at A (p++[Y[j].1])=fh Y[j].2:=by
  rw[lx,X,wy,lh,ax,wy,GA bb<|kK T,wy,pd]
 have bl:(Y.map (·.1))[j]=Y[j].1:=by simp
 have bm:=okB ao K bk aO;rw[bl,Al Y[j].1 L,bm];have D:(lj fl m (Y.take j) a).2=A++(l++P):=by rw[ai,ae,sP]
 have aP:=aW m bj (p++[Y[j].1]) Y[j].2 (l++P) q F C wr (by simp;omega) aO bh Q (λk b=>(h5' k b).1) bi (by rw[<-D];exact z) R (by rw[<-D];exact(hkr j).1.exact s) (by rw[<-D];exact(hkr j).1.once ab) (by rw[<-D];exact v);rw[<-D]at aP;refine aP.mono ?_;rintro e J ⟨x,Z,f,bn,aQ,h⟩;refine⟨x,f,h,?_⟩;have al:=aJ j T;obtain⟨d0,⟨d1,d2,d3,d4⟩|⟨d1,d2⟩⟩:=bn;have bE:=(np (a:=(mn fl m Y[j].2 (lj fl m (Y.take j) a).2).2) (id:=(mn fl m Y[j].2 (lj fl m (Y.take j) a).2).1) (by rw[(aK j T).kind];exact ne0<|mh _)).1;refine .inr ⟨by omega,by omega,?_,by rw[al];exact d1,?_,Z,aQ,by rw[al];exact d3,d4,ak.trans d0⟩;rw[al,nZ,lM,Cf,d2];rfl;rintro k (b|b);exact⟨nz (h5' k b).1 h.size,(h5' k b).2⟩;exact⟨b.2,.inr<|ww I.size b.1⟩;subst d2;refine .inl ⟨by decide,Z,⟨ak.trans d0,.inr ⟨?_,fX⟩⟩,aQ.keep (λk b=>?_) λ_ _=>rfl,Ap I h λk b=>(h5' k b).2⟩
 have:=be (fv Y-(j+1)) (j+1)<|by omega
 rw[show j+1+(fv Y-(j+1))=fv Y by omega,sL,al]at this;rw[ag];have bF:(lj fl m Y a).2.length<=(kC (lj fl m Y a).2 (lj fl m Y a).1).2.length:=by unfold kC;split<;>simp
 simp only at this;omega;rcases b with b|b
 exact(h5' k b).2.imp id λo=>⟨o,nz (h5' k b).1 h.size⟩;exact .inr ⟨ww I.size b.1,b.2⟩;rw[oL];rintro es C wr aR aS ⟨_,rfl,v,h5',q,Q,z,R,ak⟩ I aA bo;rw[sL]at v z aA;obtain⟨bp,bq,am,_⟩:=hkr<|fv Y;have aT:=aL<|fv Y;rw[sL]at bp bq am aT;have an:∀e∈(lj fl m Y a).1,fJ (lj fl m Y a).2 e.2.2=e.2.1/\e.2.1≠0:=λe f=>⟨(am e f).2.2.1,ne0 (am e f).2.1⟩;have br:Y≠[]->n=m+1:=λo=>by
  rcases Y with _|⟨x,r⟩
  exact absurd fX o;exact(ah x<|oN ..).1
 have bs:=AE (G:=λk=>fh k=(Value.slice aR (fv Y) aS).ownBlock) Q (Ll (aR,aS) (fv Y)<|(lj fl m Y a).1.map gF) ⟨.inr fX,Fr _,by show(List.map _ _).length=_;rw[oL,aT];rfl,aI,wE _,by show(0:Int)<=5;decide,aA,λg aB=>aB.symm⟩ fX ?_ ?_;refine bs.mono ?_;rintro e J ⟨x,Z,f,aC,aD,h⟩;have af:=ofM z v R an aC;refine⟨x,f,Z,⟨ak.trans af.1,by rw[ag];exact af.2⟩,aD.keep (λk b=>?_) λ_ _=>rfl,Ap I h λk b=>(h5' k b).2⟩;rcases b with b|b|b
 exact(h5' k b).2.imp id λo=>⟨o,nz (h5' k b).1 h.size⟩;exact .inr ⟨(bo k b.symm).2,nz (gc aA b.symm) h.size⟩;exact .inr ⟨ww I.size b.1,b.2⟩;show xr q (List.map gF _)<=5;rw[KI z an];refine uz.2 ⟨by decide,λe f=>?_⟩;have u:=(am e f).2.2.2;have aN:=br (λD=>by rw[D]at f;cases f);omega;intro e f;obtain⟨y,aj,rfl⟩:=jC.1 f;obtain⟨bG,bH⟩:=np (a:=(lj fl m Y a).2) (id:=y.2.2) (by rw[(an y aj).1];exact(an y aj).2)
 have:=z.1
 show 0<=y.2.2-1/\y.2.2-1<_;omega;rintro e J ⟨x,f,Z,u⟩;exact⟨x,Z,f,u⟩;have aU:nd a (gz a fl) c=.file data[aG]:=by rw[ae,xys ap l W ad];exact af
 have ag:=hsh ab M N aU;have az:∀aE∈O,aE.data.size<=256:=λaE bt=>by obtain⟨_,_,o⟩:=au;exact(o.zx aE bt).size
 have bu:=UH aa az N M aU;refine(QJ (r:=r) ar (fG p) U aw aY aZ aq aV (λx J=>∃Z,QH (mn fl n c a) O Z x/\gi (kB G w J) J r Z/\fH G w J) λbv=>?_).mono ?_;refine(AE (w:=w.drewN bv) (F:=G) (G:=λ_=>False) (au.keep (λ_ o=>o) λ_ _=>rfl) (xp data[aG]) ⟨.inl fX,bu,fX,Fr _,wE _,by show(0:Int)<=5;decide,jY _ _ _ _,λg aB=>by cases aB⟩ rfl (by show(0:Int)<=5;decide) λe f=>by cases f).mono ?_;rintro e J ⟨x,Z,f,aC,aD,h⟩;refine⟨x,f,Z,by rw[ag];exact hsi aa av aF aC,aD.keep (λk b=>?_) λ_ _=>rfl,⟨h.os,h.tape,h.output,h.size,h.block⟩⟩;rcases b with b|b|b
 exact .inl b;exact b.elim;exact .inr b;rintro e J ⟨x,f,Z,u⟩;exact⟨x,Z,f,u⟩
theorem Hp(a:Reads A (gz A fl) t E data)(b:gf E data)(c:Sound A)(d:fM A 5 t)(e:og A fl)(f:fv E<=1000000000)(g:fv data<=1000000000):∀n,htb S r na da nc dc E data rest A fl t n
 |0=>QK a b c d e f g 0 (λm h=>by omega)
 |n+1=>QK a b c d e f g (n+1) (λm h=>by rw[show m=n by omega];exact Hp a b c d e f g n)
theorem DT:∀l:List Ob,fv (gB l)=fv l*4
 |[]=>rfl
 |a::r=>by
  have:=DT r
  unfold gB at this |-
  rw[MX,lI,this,lg,show fv a.cells=4 from fX]
  omega
theorem lu.cut{r g h}(b:lu F w r (fh<|ie g 0) h Z)(f:O <+: Z):lu F (w.setCell (ie r 0)<|my g 0 (fv O) h) r (fh<|ie g 0) h O:=by
 obtain⟨l,rfl⟩:=f;have d:∀k,k≠r->(w.setCell (ie r 0) (my g 0 (fv O) h)).heap[k]?=w.heap[k]?:=λk c=>sI _ _ _ _ c;have i:=b.row;refine⟨b.fr,λk c=>b.fa k c,by simp[World.setCell,ED,b.hr],?_,by have:=b.many;rw[lI]at this;omega,λj o=>?_⟩;refine gg (Vt (n:=fv<|O++l) (m:=fv O) (xs:=gB O) (ys:=gB l) ?_ (DT O) (by grind)) λk c=>d k λe=>il i b.hr (by decide) (by rw[<-e];exact c.symm)
 grind [gB]
 have a:=b.zx j<|Rn _ o;exact⟨a.kind,a.size,a.len,a.few,a.Je,a.Jf,gg a.row λk c=>d k λe=>il a.row b.hr (by decide) (by grind),a.own⟩
theorem MH(S r b c0:Nat)(h:iD)(w:fq)(j:r<w.heap.size)(k:w.c r 0=fh (fy h b c0))(l:b<=400)(R:Int->fq->Prop)
  (f:ik 108 #[ii S,ii r,hZ kq] w λe J=>∃x,e=fF (fY x)/\((0<=x/\R x J)\/(x<0/\∃g n c,r<J.heap.size/\J.c r 0=fh (my g 0 n c)/\J.frozen? (ie r 0)=fo/\b<=c/\R (-1) (J.setCell (ie r 0)<|my g 0 b c)))):
  ik 57 #[ii S,ii r] w λe J=>∃x,e=qr #[fY x,fY<|if x<0 then 11 else 0]/\R x J:=by
 change fe _ at f
 go_enter func57,ntmps57;go_wp2_with fail;refine Ps f ?_;rintro _ w1 ⟨x,rfl,⟨i,a⟩|⟨i,g,n,c,m,c1,f1,o,a⟩⟩
 ·have d:=a
  clear a;go_wp2;go_ret2;exact⟨x,by rw[km<|by omega];rfl,d⟩
 have d:=a;clear a;go_wp2;go_ret2;exact⟨-1,fX,d⟩
def UI (a:Int×List Ob)(O Z:List Ob)(x:Int):Prop:=(fv a.2<=400/\x=a.1-1/\0<=x/\Twin a.2 Z/\gR Z)\/(400<fv a.2/\x=-1/\Z=O)
theorem QL(s:Reads A (gz A fl) t E data)(u:gf E data)(h:Exact A)(N:mL A)(i:fM A 5 t)(j:og A fl)(v:fv E<=1000000000)(y:fv data<=1000000000)(z:gm F w S na da nc dc E data rest)(l:gi G w r O)(hGl:∀k,G k->k<w.heap.size)(B:∀k,F k->k<w.heap.size/\¬G k)(C:Twin A O)(D:gR O)(P:0<fv O):
  ik 57 #[ii S,ii r] w λe J=>∃x Z,e=qr #[fY x,fY<|if x<0 then 11 else 0]/\UI (mn fl 5 t A) O Z x/\gi (kB G w J) J r Z/\fH G w J:=by
 have m:fv O<=400:=by have⟨_,_,b⟩:=l;exact b.many
 obtain⟨n,c0,f⟩:=l
 have:=Hp (S:=S) (r:=r) (na:=na) (da:=da) (nc:=nc) (dc:=dc) (rest:=rest) s u h.sound i j v y 5 [] t [] O F G w fX (pd A t) z ⟨n,c0,f⟩ hGl B (by grind) D (by grind) (by grind) (by rw[lJ,C.1];exact m)
 rw[lJ]at this;refine(MH S r (fv O) c0 n w (hGl r f.fr) f.c0 m (λx J=>∃Z,UI (mn fl 5 t A) O Z x/\gi (kB G w J) J r Z/\fH G w J)<|this.mono ?_).mono ?_;rintro e J ⟨x,Z,o,⟨d0,⟨d1,d2,d3,d4⟩|⟨d1,d2⟩⟩,p,c⟩;have Q:=(np (a:=(mn fl 5 t A).2) (id:=(mn fl 5 t A).1) (by rw[(kQ fl 5 (lw _) t A h i j).kind];exact ne0<|mh _)).1;exact⟨x,o,.inl ⟨by omega,Z,.inl ⟨d1,d2,by omega,d3,d4⟩,p,c⟩⟩;subst d2;obtain⟨R,c1,d⟩:=p;have T:=d0.length_le;have⟨g,U,H⟩:=hh d.row (by omega);have I:=(lK H).1;subst I;have V:=wQ d.row;have K:=d.cut d0;refine⟨-1,o,.inr ⟨by decide,g,fv Z,c1,d.lt,d.c0,d.f0,by omega,O,.inr ⟨d1,fX,fX⟩,⟨_,_,K.keep (λk L=>?_) λ_ _=>rfl⟩,⟨c.os,c.tape,c.output,by simpa using c.size,λk M q=>?_⟩⟩⟩;rcases L with b|b
 exact .inl b;exact .inr ⟨b.1,by simpa using b.2⟩;rw[sI _ _ _ _ λe=>q (by rw[e];exact f.fr)];exact c.block k M q
 grind
theorem ZT{F r}{b}(f:gP ft F w s p A)(hDI:yU r w p b A a)(g:400<fv a)(k:fv a<1000000000):
  ik 76 #[ii b.dr] w (vd (fY 11) w):=by
 obtain⟨ds,l,z,h,B,C,rfl,n,j⟩:=hDI;have t:fv l=fv ds:=by have:=congrArg List.length n;simpa using this
 have⟨e,o⟩:=oX<|fv A;have⟨m,q⟩:=oX<|fv l;have D:400<e+m/\e+m<1000000000:=by simp only[lI]at g k;omega
 have⟨E,c0,c1,c2,c3,f1⟩:=j.hd.c;rw[<-q]at c1;have u:∃c d,w.c p 0=fh (fy c e d):=by
  have⟨c,d,G,H,I,J,i⟩:=f;exact⟨c,d,by rw[o];exact i.gQ.at_.c0⟩
 have⟨c,d,v⟩:=u;have x:=λW y=>CK p e d c W y;clear f j n t q f1 c2 c3 o g k;go_enter func76,ntmps76;go_wp2
 go_quiet (first|(go_at_call 86;exact Cc<|x _ v))
 go_wp2;go_ret;exact⟨fX,jf (mi _ _) _⟩
def rll (ft:kE)(s p:Nat)(A:List Ob)(r:Int×List Ob)(T:gC)(w J:fq)(e:Ending):Prop:=
 (fv r.2<=400/\e=fF (fC #[.int .i64 r.1,.int .i64 0])/\∃a,(∃l,a=A++l)/\je a r.2/\gP ft (kB (λk=>T k=(1,0)) w J) J s p a/\fH (λk=>T k=(1,0)) w J)\/
 (400<fv r.2/\e=fF (fC #[.int .i64 0,.int .i64 11])/\Below w.heap.size w J)
theorem UJ{t}(a:wq T w s i p B A g I t)(U:gP ft (λk=>T k=(1,0)) w s p A)(F:fM A 5 t)(L:fv A+2*jd 5 t<3000000)(M:B.wb<w.heap.size)(N:w.c B.wb 0=fh (ii B.bt)):
  ik 18 #[ii B.wb] w λe J=>rll ft s p A (mn g.fl 5 t A) T w J e:=by
 have G:=kQ g.fl 5 (lw _) t A a.exact F a.TG;have⟨H,c0,_⟩:=a.tree<|mi _ _;have⟨o,h⟩:=oX (if(mn g.fl 5 t A).2.length<=400 then 0 else 11:Int);have O:o=0\/o=11:=by rw[h];split<;>simp
 refine(YV B.wb B.bt (if o=0 then(mn g.fl 5 t A).1 else 0) o (λJ=>(o=0->∃y,(∃l,y=A++l)/\je y (mn g.fl 5 t A).2/\gP ft (kB (λk=>T k=(1,0)) w J) J s p y/\fH (λk=>T k=(1,0)) w J)/\(o=11->ju w J)) w M N
  (PC B.bt 0 g.ft.root (λb W=>∃j c d,zl w p A j W ⟨b.1,c,d⟩ b.2 A (λ_=>fj)<|fv A) (λb W=>∃j c d z K,zl w p A j W ⟨b.1,c,d⟩ b.2 (mn g.fl 5 t A).2 z K) _ _ o w H (λW q=>?_) ((Dw A H c0).mono ?_) ?_ ?_ O)).mono ?_
 have E:=(a.inv.below q).wp.tree.ht;exact⟨lf E 4,lf E 5,lf E 6⟩;rintro e J ⟨⟨u,c,d⟩,ow,j,f,v,q⟩;exact⟨(u,ow),f,⟨j,c,d,v⟩,q⟩;rintro⟨u,ow⟩ W P ⟨j,c,d,v⟩ q
 have:=DF a (b:=⟨u,c,d⟩) (ow:=ow) 5 (lw _) t [] F (pd A t) ⟨(λx Q=>by cases Q),by simp⟩ (by simp) kq j P A (λ_=>fj) (fv A) (v.via q) .nil (λ_ _=>rfl) L
 rw[a.flat.kind,<-a.flat.root]at this;apply this.mono;rintro e J ⟨f,R,z,C,D,_⟩;refine⟨f,⟨R,c,d,z,_,C⟩,C.below,D.keeps.size,λk S ac V=>D.cell V (λX=>?_) S⟩
 have:=(v.Kf k X).2
 omega;rintro⟨u,ow⟩ W n ⟨j,c,d,z,K,v⟩;have m:=v.via<|jf (mi _ _) n;by_cases r:(mn g.fl 5 t A).2.length<=400;rw[lv r]at h;subst h;apply (lls (b:=⟨u,c,d⟩) (U.below m.below λ_ _ a=>a) (a.gQ m).2 m.Py G.dr r).mono;rintro e J ⟨f,y,Y,Z,aa,ab⟩;exact⟨f,λ_=>⟨y,Y,Z,aa.wide λk hF=>BI m.below.size k hF,yA m.below ab⟩,λa=>by cases a⟩;rw[km r]at h;subst h;refine(ZT (b:=⟨u,c,d⟩) (U.below m.below λ_ _ a=>a) m.Py (by omega) (by have:=G.len;omega)).mono ?_;rintro e J ⟨f,q⟩;exact⟨f,(λa=>by cases a),λ_=>gS m.below q⟩;rintro e J ⟨f,C,D⟩;by_cases r:(mn g.fl 5 t A).2.length<=400;rw[lv r]at h;subst h;exact .inl ⟨r,f,C fX⟩;rw[km r]at h;subst h;exact .inr ⟨by omega,f,D fX⟩
theorem je.twin{x y O}(f:je x y)(c:Twin y O):Twin x O:=by
 have g:∀i(a:i<fv x)(b:i<fv y),x[i].core=y[i].core:=λi a b=>by
  have:=f.get i
  rw[jG a,jG b]at this;exact rK this
 have m:=f.len;refine⟨m.trans c.1,λi a b=>?_,λr n=>?_⟩
 ·have e:=g i a (by omega)
  obtain⟨h,j,k,o,a5,l⟩:=c.2.1 i (by omega) b;unfold Ob.core at e;simp only[vw]at e;have⟨p,s,t,q⟩:=e;rw[<-p]at h j k a5 l;refine⟨h,λd=>(j d).trans ?_,λd=>(k d).trans ?_,o.trans q.symm,a5,l⟩
  all_goals grind
 obtain⟨i,U,rfl⟩:=rI n;have e:=congrArg Prod.fst<|g i U (by omega);have e:x[i].kind=y[i].kind:=e;rw[e];exact c.2.2 _<|kK _
theorem ZU{a b}{h:Int×List Ob}(l:KJ a h)(m:je b h.2)(f:Nat->Bool)(w:f (h.1-1).toNat=fm)(q:∀i g,f i=fm->fv a<=i->b[i]?=fh g->∀e∈g.gh,g.kind=2->f (e.2.2-1).toNat=fm):∀(d i:Nat),fv b-i=d->fv a<=i->i<fv b->f i=fm:=by
 have r:=m.len;intro d
 induction d using Nat.strongRecOn with
 |_ d s=>
  intro i x t z;by_cases e:i+1=fv b
  have:=l.1<|by omega
  grind
  have⟨k,g,A,n,o,y,B,C⟩:=l.2 i t (by omega);have j:k<fv b:=by rw[r];exact(wI.1 n).1
  have c:=m.get k;rw[n,jG j]at c;have c:=rK c;unfold Ob.core at c;simp only[vw]at c;have⟨u,_,v,_⟩:=c;have p:=u.trans o;rw[lv p,lv o]at v
  have:=q k b[k] (s (fv b-k) (by omega) k fX (by omega) j) (by omega) (jG j) y (by grind) p
  all_goals simp_all
theorem gq.ofQ{h:List Ob->Prop}(c:gq b b R T w B0 W s r p I A O got ws ds)
  (m:mN h ⟨R.pt,p,A⟩ (λk=>T k=(0,1)) (λk=>T k=(0,2)) (λk=>T k=(1,0)) w J W s r (fy R.wa (fv ws) R.wc) (fy R.ta (fv ds) R.tc) (fE b) (R.sl 8) (R.sl 9) (R.sl 10) (R.sl 11)):
  ∃g M l Z,h (A++l)/\g.q=R.q/\gq b b g M J B0 W s r p I (A++l) Z got ws ds/\Below B0 w J:=by
 have⟨C,D,E,H,Z,n,i,a,o⟩:=m;have q:∀k,T k=(0,0)->¬F3 (λk=>T k=(0,1)) (λk=>T k=(0,2)) (λk=>T k=(1,0)) k:=λk a e=>by
  rcases e with e|e|e<;>(rw[a]at e;cases e)
 have j:∀k,R.F 9 k->¬F3 (λk=>T k=(0,1)) (λk=>T k=(0,2)) (λk=>T k=(1,0)) k:=λk a=>q k (c.holds 9 k a).1;obtain⟨g,M,l,rfl,t,u,v⟩:=c.Ks n ((c.held 9).keep (λk f=>a.block k ((c.held 9).lt k f)<|j k f) a.size) (λk f x=>by
  rcases i.all k x with e|e
  exact j k f e
  have:=(c.held 9).lt k f;omega) i (λk f=>.inl f) ⟨a.os,a.tape,a.output,a.size,λk y z=>a.block k y λc=>z<|.inl c⟩
 exact⟨g,M,l,Z,o,t.trans (funext λd=>by unfold pD;split<;>rename_i B<;>first|rw[B]|rfl),u,v⟩
theorem ZV(af:Pl b R T w B0 W s r p I A O got ws ds j n):
  hrb W (ws[j]'af.j1).2.1.wb (ds[j]'af.j2).1 (λJ=>gJ B0 J W s r (n+1)/\Below B0 w J) w:=by
 have⟨o,aA,bh,aO,aP,bi,Y,aB,bj⟩:=af;obtain⟨B,g,t,aa⟩:∃B g t,ws[j]=(j+2,B,g,t):=⟨_,_,_,by rw[<-o.slot j Y]⟩;obtain⟨ag,E,data,rest,ah⟩:∃ag E data rest,ds[j]=(ag,E,data,rest):=⟨_,_,_,_,fX⟩;obtain⟨ab,aC,aD⟩:=aA.same j Y aB;have ai:=(o.BL j Y).1;have aj:=o.Zn j aB;rw[aa,ah]at ab;rw[ah]at aC aD aj;rw[aa]at ai;rw[aa,ah];simp only at ab aC aD aj ai |-;have S:Exact A:=o.w3.yl.2.2.1;have aE:mL A:=o.w3.yl.2.2.2;have aQ:=(W3.few o.w3);have V:=o.BO;have aR:0<fv O:=by rw[aQ.2];have:=(np (a:=A) (id:=g.base) (by rw[ai.1];decide)).2;omega
 have bk:cM 5=1118481:=by decide
 have mk:∀f,ju w f->fM A 5 t/\og A g.fl/\ik 18 #[ii B.wb] f λe J=>rll R.pt s p A (mn g.fl 5 t A) T f J e:=λf m=>by
  obtain⟨G,U,_⟩:=(o.below m).work Y aa;obtain⟨aS,c0,_⟩:=G.ws;have bl:=Uz 5 t G.ok;have aF:wq T f s (j+2) p B A (hqi g got b) I t:=⟨G.inv,G.flat,S,G.fl⟩;have ak:=UJ aF (o.below m).w3.yl.1 G.ok (by omega) aS c0;exact⟨G.ok,aF.TG,ak⟩
 obtain⟨al,am,_⟩:=mk w<|mi _ _;have an:=kQ g.fl 5 (lw _) t A S al am;have hid:=np (a:=(mn g.fl 5 t A).2) (id:=(mn g.fl 5 t A).1) (by rw[an.kind];exact ne0<|mh _);have aT:=ZR (fl:=g.fl) 5 (lw _) t A S al am<|UE o.w3.twin o.w3.at_;have tags:∀{a b:Nat×Nat},a≠b->∀k,T k=a->¬T k=b:=λc k K v=>c<|K.symm.trans v;have lt:∀{a:Nat×Nat},a≠(0,0)->∀k,T k=a->k<w.heap.size:=λc k h=>o.fresh.lt (by grind);have doc:∀{f w1:fq},ju w f->fH (λk=>T k=(1,0)) f w1->W<w1.heap.size/\w1.c W 1=fh (ii r)/\ik 57 #[ii ag,ii r] w1 λe J=>∃x Z,e=qr #[fY x,fY<|if x<0 then 11 else 0]/\UI (mn g.fl 5 t A) O Z x/\gi (kB (λk=>T k=(0,2)) w1 J) J r Z/\fH (λk=>T k=(0,2)) w1 J:=λ{f w1}m h=>by
  have bm:=m.size;have bn:=h.size;have same:∀{a:Nat×Nat},a≠(0,0)->a≠(1,0)->∀k,T k=a->w1.heap[k]?=w.heap[k]?:=λaU K k y=>(h.block k (by grind) (tags K k y)).trans<|m.block k (lt aU k y);obtain⟨na,nc,da,dc,aV⟩:=aj;obtain⟨_,c1,aG,_⟩:=o.c01;have aH:((0,8+j):Nat×Nat)≠(0,0):=tL j (by decide);refine⟨by omega,(wJ (a:=(ie W 1))<|same (by decide) (by decide) W o.fW).trans c1,QL ab.reads ab.2 S aE al am (by omega) (by omega) (aV.keep (λ_ c=>c)<|same aH (λe=>by have:=congrArg Prod.fst e;simp at this)) (o.w3.ref.keep (λ_ c=>c)<|same (by decide) (by decide)) (λk y=>?_) (λk y=>⟨?_,tags (tL j<|by decide) k y⟩) o.w3.twin o.w3.at_ aR⟩
  have:=lt (by decide) k y
  omega
  have:=lt aH k y
  omega
 have aI:∀{J:fq},mN (λ_=>True) ⟨R.pt,p,A⟩ (λk=>T k=(0,1)) (λk=>T k=(0,2)) (λk=>T k=(1,0)) w J W s r (fy R.wa (fv ws) R.wc) (fy R.ta (fv ds) R.tc) (fE b) (R.sl 8) (R.sl 9) (R.sl 10) (R.sl 11)->gJ B0 J W s r (n+1)/\Below B0 w J:=λc=>by
  obtain⟨aW,M,l,Z,_,e,aX,aY⟩:=o.ofQ c;exact⟨⟨b,aW,M,p,I,A++l,Z,got,ws,ds,aX,(aA.grow o l).mono<|by omega,by omega,λd=>by rw[e];exact HA<|aO d,aP,by omega⟩,aY⟩
 by_cases bo:(mn g.fl 5 t A).2.length<=400
 ·refine⟨(mn g.fl 5 t A).1,0,(mn g.fl 5 t A).1-1,0,r,λw1=>∃f u,ju w f/\(∃l,u=A++l)/\je u (mn g.fl 5 t A).2/\gP R.pt (kB (λk=>T k=(1,0)) f w1) w1 s p u/\fH (λk=>T k=(1,0)) f w1,λw2=>∃f w1 u Z,(ju w f/\(∃l,u=A++l)/\je u (mn g.fl 5 t A).2/\gP R.pt (kB (λk=>T k=(1,0)) f w1) w1 s p u/\fH (λk=>T k=(1,0)) f w1)/\Twin (mn g.fl 5 t A).2 Z/\gR Z/\gi (kB (λk=>T k=(0,2)) w1 w2) w2 r Z/\fH (λk=>T k=(0,2)) w1 w2,λf m=>(mk f m).2.2.mono ?_,?_,.inr ⟨fX,fX,s,(mn g.fl 5 t A).2.length,λN=>∃ao ap aq H Z,W3 ⟨R.pt,p,A⟩ ao ap aq N W s r H Z (fy R.wa (fv ws) R.wc) (fy R.ta (fv ds) R.tc) (fE b) (R.sl 8) (R.sl 9) (R.sl 10) (R.sl 11)/\zN (λk=>T k=(0,1)) (λk=>T k=(0,2)) (λk=>T k=(1,0)) ao ap aq w.heap.size/\fH (F3 (λk=>T k=(0,1)) (λk=>T k=(0,2)) λk=>T k=(1,0)) w N/\fv H=(mn g.fl 5 t A).2.length,?_,?_⟩⟩
  ·rintro e w1 (⟨_,P,u,K,v,F,ac⟩|⟨c,_⟩)
   all_goals grind
  ·rintro w1 ⟨f,u,m,K,v,F,ac⟩
   obtain⟨ar,au,av⟩:=doc m ac;refine⟨ar,au,av.mono ?_⟩;rintro e w2 ⟨x,Z,P,⟨_,rfl,bp,ad,aJ⟩|⟨c,_⟩,X,h⟩
   all_goals grind
  rintro w2 ⟨f,w1,u,Z,⟨m,⟨l,rfl⟩,v,F,ac⟩,ad,aJ,X,h⟩ Q;have q:ju w2 (w2.drewN Q):=jf (mi _ _) Q;have y:fH (λk=>T k=(0,2)) w1 (w2.drewN Q):=⟨q.os.trans h.os,q.tape.trans h.tape,q.output.trans h.output,ww h.size q.size,λk C D=>(q.block k (nz C h.size)).trans<|h.block k C D⟩;obtain⟨aw,ax,ay,L,az⟩:=ym V m ac ⟨F,⟨l,fX⟩,v.exact<|an.dr.exact S,v.once<|an.dr.once aE⟩ y;have ae:=v.len
  have:=Cv aw (X.below q λk c=>c.imp id λc=>⟨c.1,nz c.2 q.size⟩) ax ay aJ (v.twin ad) (by simp) (j:=((mn g.fl 5 t A).1-1).toNat) (by omega) λaZ bb ak i K C=>ZU aT v aZ bb ak _ i fX K C
  rw[show((((mn g.fl 5 t A).1-1).toNat:Nat):Int)=(mn g.fl 5 t A).1-1 by omega,Int.sub_add_cancel]at this;refine this.mono ?_;rintro e N ⟨P,C,D⟩;have z:=L.size;exact⟨P,_,_,_,_,_,C,λk=>⟨λc=>c.imp id λc=>ww z c.1,(az k).2⟩,⟨D.os.trans L.os,D.tape.trans L.tape,D.output.trans L.output,ww z D.size,λk aK aL=>(D.block k (nz aK z) λc=>aL<|.inl c).trans<|L.block k aK aL⟩,ae⟩;rintro N ⟨ao,ap,aq,H,Z,F,bc,h,ae⟩;obtain⟨bd,be,aG,_⟩:=F.law.cells;obtain⟨bf,bg,aM⟩:=F.ref;have ad:=F.twin.1;refine⟨aG,aM.lt,bd,be,⟨bf,bg,by rw[<-ae,ad];exact aM.c0⟩,λQ=>?_⟩;have q:ju N (N.drewN Q):=jf (mi _ _) Q;have aN:=F.below q
  have:=yZ aN.yl
  rw[ae]at this;exact⟨aI ⟨_,_,_,_,_,aN,bc,⟨q.os.trans h.os,q.tape.trans h.tape,q.output.trans h.output,ww h.size q.size,λk C D=>(q.block k (nz C h.size)).trans<|h.block k C D⟩,trivial⟩,this⟩
 refine⟨0,11,-1,11,r,λw1=>ju w w1,λw2=>∃w1,ju w w1/\gi (kB (λk=>T k=(0,2)) w1 w2) w2 r O/\fH (λk=>T k=(0,2)) w1 w2,λf m=>(mk f m).2.2.mono ?_,λw1 m=>?_,.inl ⟨by decide,fX,fX,?_⟩⟩
 ·rintro e w1 (⟨c,_⟩|⟨_,P,c⟩)
  ·all_goals omega
  exact⟨P,m.trans<|c.mono m.size⟩
 ·obtain⟨ar,au,av⟩:=doc m (fH.refl w1)
  refine⟨ar,au,av.mono ?_⟩;rintro e w2 ⟨x,Z,P,⟨c,_⟩|⟨_,rfl,rfl⟩,X,h⟩
  all_goals grind
 rintro w2 ⟨w1,m,X,h⟩;obtain⟨aw,ax,ay,L,az⟩:=ym V m (fH.refl w1) (iP.below (V.yl) m (F':=kB (λk=>T k=(1,0)) w1 w1) λk _ c=>.inl c) h;exact aI ⟨_,_,_,A,O,⟨aw,X,ax,V.twin,V.at_,ay⟩,az,L,trivial⟩
