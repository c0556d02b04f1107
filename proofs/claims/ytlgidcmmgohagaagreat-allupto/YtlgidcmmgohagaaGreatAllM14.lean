/- A part of the proof. -/
import Derived.Test.YtlgidcmmgohagaaGreatAllM13
set_option linter.all false
namespace Go.Proofs.YtlgidcmmgohagaaGreat
open Go.RowKit Go.Sort Go.Shelf Go.Proofs.Tryz
open Go.Value renaming slice->fy,string->fA,pointer->fB,tuple->fC,agg->fD,bool->fE
open Go.Ending renaming returned->fF
open Option renaming some->fh,none->fj
open Bool renaming true->fm,false->fo
open Go renaming World->fq,Value->fu
open List renaming length->fv,reverse->fx
open Go.RowKit renaming Hid->fe
set_option maxRecDepth 100000
set_option maxHeartbeats 0
variable {D:DataW fu}{f:fQ->Option fu}{o1 o2 o3:Obj}{L:List (fQ)}{b k I n:Nat}{E q r src:fQ}{w J w1:fq}{c d t x:LT}{fs:b6}{g g':WG}{left:Lit->Bool}{T:gC}{v:fu}{kl:Lit}{Y:Kids}{A:List Ob}
variable {s i p:Nat}{B:WB}{A:List Ob}{β:Type}
theorem FZ(a:fM A n c)(b:fO):oW A (b,c.kind,c.id):=by
 cases c with
 |file id=>exact⟨.inl fX,λ_=>by cases n<;>exact a⟩
 |held f=>exact⟨.inl fX,λa=>absurd fX a⟩
 |dir id=>exact⟨.inr fX,λ_=>by cases n<;>exact a.1⟩
 |own d=>exact⟨.inr fX,λa=>absurd fX a⟩
theorem Ga(b:fZ T w s i p B A g I)(W:I+10<1099511627776)(hF:Flat A t g.ft)(D:fM A n t)(L:Good q)(l:t.at A q=fh c)(m):
  ik 137 #[ii B.bt,fD<|jn q,fD #[hZ m,fY c.kind,fY c.id]] w λM J=>M=fF (fY (yn A g.fs c).2)/\mm s i p B A T w J { g with fs:=(yn A g.fs c).1 } (I+1):=by
 have o:=b.st.sound;have r:=(tA o _ D l).2.1;have d:=λN(f:ju w N)=>xB (b.below f) (by omega) L<|FZ r m;simp only[ya o hF r l]at d;have a:yn A g.fs c=if c.kind=1 then(g.fs,0)else if(ut A g.fs c).2.1=0/\0<(ut A g.fs c).2.2.length then((ut A g.fs c).1,8) else((ut A g.fs c).1,(ut A g.fs c).2.1):=fX;generalize yn A g.fs c=X at a |-;generalize ut A g.fs c=O at d a;have⟨aa,P,Y⟩:=O;simp only at d a;generalize c.kind=k at d a |-;generalize c.id=id at d |-;obtain⟨H,Q,R,S,Z,u⟩:=sk q;rw[u];simp only[u]at d;have U:fe _:=b;have V:fe _:=d;have h:fe _:=a;clear b d u a hF D l o r;by_cases j:k=1
 ·subst j
  go_enter func137,ntmps137;go_wp2;go_ret;have a:=h.o;rw[lv (by first|rfl|trivial)]at a;subst a;have f:ju w ((w.k (ml H Q R S Z) 147).k #[hZ m,fY 1,fY id] 96):=((mi w.heap.size w).alloc (lw _) _).alloc (by simp) _;exact⟨fX,T,fI.fK f,(U.below f).mono<|by omega⟩
 go_enter func137,ntmps137;go_wp2_with fail;refine(V _<|((mi w.heap.size w).alloc (lw _) _).alloc (by simp) _).mono ?_;rintro e w1 ⟨v,rfl,x,E,F,G⟩;obtain⟨ab,ac,rfl⟩:=G.len;rw[oL];have y:fe _:=F;have z:fe _:=mr (((mi w.heap.size w).alloc (lw _) _).alloc (by simp) _) E;clear G F E;by_cases K:P=0
 ·subst K
  by_cases C:0<fv Y
  ·have ad:(0:Int)<(fv Y:Int):=by omega
   go_wp2;go_ret;have a:=h.o;rw[km j,lv (by first|exact⟨fX,C⟩|exact⟨trivial,C⟩)]at a;subst a;exact⟨fX,x,z,y⟩
  go_wp2;go_ret;have a:=h.o;rw[km j,km λb=>C b.2]at a;subst a;exact⟨fX,x,z,y⟩
 go_wp2;go_ret;have a:=h.o;rw[km j,km λb=>K b.1]at a;subst a;exact⟨fX,x,z,y⟩
theorem OV(t)(w:fq):ik 71 #[ii t,fD<|ml kq kq kq kq kq] w (vd (fY 9) w):=by
 have b:=λa=>gW a;have d:∀a,(Op.equalIn 10000 147 (ln [])<|ln []).run prog a=.ok fm a:=λa=>by
  have:=ir Good.nil Good.nil a
  rwa [iE fX]at this
 unfold ln jn at b d;simp only[tW]at b d;go_enter func71,ntmps71;go_wp2
 go_region_with(go_at_call 75;refine(b _).via λw1 c=>?_;have⟨e,f⟩:=kw c;have g:=su c)
 all_goals
  go_wp2;go_ret;exact⟨fX,gS (io<|(mi _ _).alloc (lw _) _) c⟩
theorem Dq(b:(yn A fs c).2=0):fs.Next (yn A fs c).1/\(kids A c=fj\/kids A c=fh []):=by
 unfold yn at b |-;by_cases a:c.kind=1;rw[lv a];refine⟨b6.Next.refl _,.inl ?_⟩;cases c<;>simp[LT.kind]at a<;>rfl
 grind [ut,zG,pW,DX]
theorem BA{n:fO}{fs':b6}(a:ky A t fs (n::r)=(fs',0,c)):t.at A (fx r++[n])=fh c/\fs.Next fs'/\gU A t fs' (fx r)/\∃d Y,t.at A (fx r)=fh d/\kids A d=fh Y/\jp Y n=fh c:=by
 have⟨b,f,g⟩:=vJ (A:=A) (t:=t) (fs:=fs) (r:=n::r) (by rw[a]);rw[a,kL]at b;rw[a]at f;refine⟨b,f,λx id h i=>?_,yb b⟩
 have:=g x id (by grind) (λe=>by
  have:=h.length_le
  rw[e,kL]at this;simp at this;omega) i
 grind
theorem mm.o(a:mm s i p B A T w J g' I):∃M,fI (Mine i) T M w J/\fZ M J s i p B A g' I:=by
 have⟨M,m,b⟩:=a;exact⟨M,m.mono λ_ a=>a.mine,b⟩
theorem OW(l:fZ T w s i p B A g I)(bf:I+400<1099511627776)(hF:Flat A t g.ft)(M:fM A 5 t){n:fO}(u:Good (fx r++[n])):
  ik 71 #[ii B.bt,fD<|jn (fx r++[n])] w λv J=>v=fF (fY (gV A t g.fs (n::r)).2.1)/\Left s i p B A T w J g (gV A t g.fs (n::r)).1 (gV A t g.fs (n::r)).2.2 (I+300):=by
 have N:=l.st.sound;have U:=l.two;have bg:fv r<=4:=by have:=u.len;simp at this;omega
 have j:=λf(P:ju w f)=>xC (s:=s) (i:=i) (p:=p) (B:=B) (A:=A) (n::r) T f g I (l.below P) (by omega) (by rw[kL];exact u);rw[kL]at j;have⟨f1,f2,f3⟩:=ux N hF M g.fs (n::r);simp only[f1,f2]at j;have a:gV A t g.fs (n::r)=if(ky A t g.fs (n::r)).2.1≠0 then((ky A t g.fs (n::r)).1,(ky A t g.fs (n::r)).2.1,t)else if(yn A (ky A t g.fs (n::r)).1 (ky A t g.fs (n::r)).2.2).2≠0 then((yn A (ky A t g.fs (n::r)).1 (ky A t g.fs (n::r)).2.2).1,(yn A (ky A t g.fs (n::r)).1 (ky A t g.fs (n::r)).2.2).2,t) else((yn A (ky A t g.fs (n::r)).1 (ky A t g.fs (n::r)).2.2).1,0,vy A (λY=>rb Y n) (fx r) t):=fX;generalize gV A t g.fs (n::r)=bh at a |-;have Q:∀{x:b6}{c:LT},ky A t g.fs (n::r)=(x,0,c)->_:=λ{_ _}l=>BA l;generalize ky A t g.fs (n::r)=aM at j f3 a Q;have⟨x,R,c⟩:=aM;simp only at j f3 a;generalize findF A g.ft g.fs (n::r)=aN at j f3;have⟨_,_,v,bi,bj⟩:=aN;simp only[List.headD_cons,vw]at j f3;have m:fe _:=a;have D:∀f,(Op.equalIn 10000 147 (ln<|fx r++[n])<|ln []).run prog f=.ok fo f:=λf=>by
  have:=ir u Good.nil f
  rw[yv<|by simp]at this;exact this
 have E:=λf=>gW f;have⟨H,bk,bl,bm,Z,F⟩:=sk<|fx r++[n];unfold ln at E D;simp only[F]at D j;rw[F];unfold jn at E D;simp only[tW]at E D;have S:fe _:=F;have ah:fe _:=l;have o:fe _:=hF;have k:fe _:=M;have q:fe (Sound A):=N;have hie:fe _:=j;have aO:fe (∀{tys:b6}{aP:LT},(x,R,c)=(tys,0,aP)->_):=Q;have aQ:fe _:=f3;have V:fe _:=u;clear l hF M N F j Q u a f1 f2 f3;go_enter func71,ntmps71;go_wp2
 go_region_with(go_at_call 75;refine(E _).via λw1 W=>?_;have⟨bn,bo⟩:=kw W;have X:=su W;have ai:=gS (io<|(mi w.heap.size w).alloc (lw _) _) W)
 all_goals
  go_wp2_with fail;refine(hie.o w1 ai).via λh aj=>?_
  have⟨aR,y,ak⟩:=aj.o;have bp:=Hn (b:=w.heap.size) U y X<|ah.o.st.fresh _ (lw _);have aa:w.heap.size<h.heap.size:=nz X y.size;have al:aR w.heap.size=(0,0):=(y.tags _ X).trans<|ah.st.fresh _ (lw _);have ab:fe _:=mr ai y;have am:fe _:=ak;clear aj y ak;by_cases ac:R=0
  ·subst ac
   obtain⟨⟨rfl,rfl,rfl⟩,aS⟩:=aQ fX;have⟨an,aT,ao,d,Y,ap,aq,ar⟩:=aO.o fX;have z:=λf(P:ju h f)=>Ga (am.below P) (by simp;omega) o k.o V an v;rw[S.o]at z;have G:=Dq (A:=A) (fs:=x) (c:=c);have a:=m.o;clear m;simp only[ne_eq,not_true_eq_false,day]at a;generalize yn A x c=aU at z G a;have⟨au,av⟩:=aU;simp only at z G a;have e:fe _:=And.intro ao<|And.intro ap (And.intro aq ar);have m:fe _:=a
   change fe _ at z G
   clear a an aT ao ap aq ar aS;go_wp2_with fail;refine(z _<|(mi h.heap.size h).alloc (lw _) _).via λaV aw=>?_
   have⟨aW,C,ax⟩:=aw.o;have bq:=Hn (b:=w.heap.size) U C (mP aa _) al;have aX:w.heap.size<aV.heap.size:=nz (mP aa _) C.size;have aY:aW w.heap.size=(0,0):=(C.tags _<|mP aa _).trans al;have ay:fe _:=mr ((mi h.heap.size h).alloc (lw _) _) C;have K:fe _:=ax;clear aw C ax;by_cases ad:av=0
   ·subst ad
    have⟨az,aA⟩:=G fX;have L:gU A t au (fx r):=e.1.mono az.2.2.2.2;have aB:=iy q.o o k e.o.2.1 e.2.2.1 L;have aC:=(lO q (tA q.o _ k e.2.1).2.1 e.o.2.2.1).1;have aD:kA (oQ A t<|fx r) v=fm:=by rw[lN e.o.2.1 e.o.2.2.1,jc,<-rh aC,e.o.2.2.2];rfl
    have aE:oU A (oQ A t<|fx r):=by
     have:=K.gh au r
     rw[nI q.o o.o k.o,Jm e.o.2.1 e.o.2.2.1 L]at this;rw[lN e.o.2.1 e.o.2.2.1];exact this
    have⟨O,aF⟩:=K.wp.qo;have ae:=OT K.o aF (by simp;omega) V aB aE aD;have aG:=NH q o.o k e.2.1 e.o.2.2.1 L e.2.2.2 aA;have aH:=AW q k.o e.2.1 e.2.2.1 v;rw[S.o]at ae
    change fe _ at ae aG aH
    clear aF aE aD aC aB L az aA;go_wp2_with(first
     |(go_at_call 138;go_loud(refine Hk ae.o λbr⟨aZ,bs,af,aI,aJ⟩=>?_;have bt:=Hn (b:=w.heap.size) U af aX aY;have ag:=FV aI aJ V;rw[S.o]at ag;have HFG:fe _:=ag;have bb:fe _:=af;clear ag aI aJ af))
     |(go_at_call 139;go_loud(refine Hk HFG.o λbu⟨aK,aL,bc⟩=>?_;have bd:fe _:=aK;have be:fe _:=aL;clear aK aL bc)))
    go_ret;have a:=m.o;simp only[not_true_eq_false,day]at a;subst a;exact⟨fX,aZ,_,(ab.trans<|ay.o.trans (bb.trans bd)),be.o.mono (by simp;omega),aG,aH⟩
   have bv:(av==0)=fo:=by simpa using ad
   go_wp2;go_ret;have a:=m.o;rw[lv ad]at a;subst a;exact⟨fX,iH (ab.o.trans ay) (K.mono (by simp;omega)) o.o k⟩
  have bw:(R==0)=fo:=by simpa using ac
  go_wp2;go_ret;have a:=m.o;rw[lv ac]at a;subst a;exact⟨fX,iH (ab.trans<|fI.fK ((mi h.heap.size h).alloc (lw _) _)) ((am.o.below<|(mi h.heap.size h).alloc (lw _) _).mono (by simp;omega)) o k⟩
def zX(c:LT):c.kind=1\/c.kind=2:=by cases c<;>simp[LT.kind]
theorem mm.via{w W J}(a:ju w W)(b:mm s i p B A T W J g' I):mm s i p B A T w J g' I:=by
 have⟨M,m,c⟩:=b;exact⟨M,mr a m,c⟩
def rz(b:fZ T w s i p B A g I)(a:ju w J):mm s i p B A T w J g I:=⟨T,fI.fK a,b.below a⟩
theorem mm.mono{I a:Nat}(b:mm s i p B A T w J g I)(c:I<=a):mm s i p B A T w J g a:=by
 have⟨M,m,d⟩:=b;exact⟨M,m,d.mono c⟩
theorem SV(d:fZ T w s i p B A g I)(u:I+10<1099511627776)(hF:Flat A t g.ft)(k:fM A n t)(v:Good q)(l:t.at A q=fh c)(m y):
  ik 195 #[ii B.bt,fD<|jn q,fD #[hZ m,fY c.kind,fY c.id],fD #[hZ y,fY x.kind,fY x.id]] w λz J=>z=fF (fY (lB A g.fs c x).2)/\mm s i p B A T w J { g with fs:=(lB A g.fs c x).1 } (I+1):=by
 have b:=λC(D:ju w C)=>Ga (d.below D) u hF k v l m;have a:lB A g.fs c x=if c.kind=2/\x.kind=1 then(g.fs,7)else if c.kind=1/\x.kind=2 then(g.fs,5)else yn A g.fs c:=fX;generalize lB A g.fs c x=E at a |-;have o:=zX c;have r:=zX x;generalize yn A g.fs c=F at b a;generalize c.kind=G at b a o |-;generalize x.kind=K at a r |-;generalize c.id=L at b |-;generalize x.id=M;obtain⟨H,N,O,P,Z,h⟩:=sk q;rw[h];simp only[h]at b;have f:fe _:=a
 change fe _ at d b
 clear h a hF k l;rcases o with rfl|rfl<;>rcases r with rfl|rfl
 ·go_enter func195,ntmps195
  go_wp2_with(go_at_call 137;refine(b _<|(((mi w.heap.size w).alloc (lw _) _).alloc (by simp) _).alloc (by simp;omega) _).mono ?_;rintro e w1 ⟨rfl,j⟩);go_ret;have a:=f.o;rw[km<|by decide,km<|by decide]at a;subst a;exact⟨fX,j.via<|(((mi w.heap.size w).alloc (lw _) _).alloc (by simp) _).alloc (by simp;omega) _⟩
 ·go_enter func195,ntmps195
  go_wp2;go_ret;have a:=f.o;rw[km<|by decide,lv<|by decide]at a;subst a;exact⟨fX,(rz d<|(((mi w.heap.size w).alloc (lw _) _).alloc (by simp) _).alloc (by simp;omega) _).mono<|by omega⟩
 ·go_enter func195,ntmps195
  go_wp2;go_ret;have a:=f.o;rw[lv<|by decide]at a;subst a;exact⟨fX,(rz d<|(((mi w.heap.size w).alloc (lw _) _).alloc (by simp) _).alloc (by simp;omega) _).mono<|by omega⟩
 go_enter func195,ntmps195;go_wp2_with(go_at_call 137;refine(b _<|(((mi w.heap.size w).alloc (lw _) _).alloc (by simp) _).alloc (by simp;omega) _).mono ?_;rintro e w1 ⟨rfl,j⟩);go_ret;have a:=f.o;rw[km<|by decide,km<|by decide]at a;subst a;exact⟨fX,j.via<|(((mi w.heap.size w).alloc (lw _) _).alloc (by simp) _).alloc (by simp;omega) _⟩
theorem vT(a:Below (((w.alloc o1).alloc o2).alloc o3).heap.size (((w.alloc o1).alloc o2).alloc o3) w1):w.heap.size+2<w1.heap.size:=by
 have b:=a.size
 grind [zu]
def tv(a:Below (((w.alloc o1).alloc o2).alloc o3).heap.size (((w.alloc o1).alloc o2).alloc o3) w1):ju w w1:=
 gS ((((mi w.heap.size w).alloc (lw _) _).alloc (by simp) _).alloc (by simp;omega) _) a
def pR(c:Below (((w.alloc o1).alloc o2).alloc o3).heap.size (((w.alloc o1).alloc o2).alloc o3) w1)(b a:Nat)(d:b<w.heap.size+3):w1.c b a=(((w.alloc o1).alloc o2).alloc o3).c b a:=
 (kw c).1 b a (by rw[zu,zu,zu];omega)
theorem oZ.at_{d}(e:oZ T w i v d)(f:k<fv d):∃a c,v=(my a 0 (fv d) c)/\a<w.heap.size/\w.c a (k*3)=fh (hZ (d[k]).1)/\w.c a (k*3+1)=fh (fY (d[k]).2.1)/\w.c a (k*3+2)=fh (fY (d[k]).2.2):=by
 obtain⟨a,g,rfl⟩:=hh e.1 (by omega);obtain⟨c0,c1,c2⟩:=zS (b:=a) (λh j l=>by have:=ks e.1 h j l;rwa [iR]at this) f;exact⟨a,g,fX,gc e.1 fX,c0,c1,c2⟩
theorem LN(a:fP Y){n}{e:LT}(b:jp Y n=fh e):∃d:ui (Y.map lL) n<fv (Y.map lL),(Y.map lL)[ui (Y.map lL) n]=(n,e.kind,e.id):=by
 have c:kA (Y.map lL) n=fm:=by rw[jc,<-rh a,b];rfl
 have⟨f,g⟩:=qp c;have h:=nj (n:=n) (by rw[oy];exact nH _ a:fP (Y.map lL))
 grind [jG,AR,pW,EM]
theorem SX{t x d e:LT}(z:fZ T w s i p B A g I)(ah:I+10<1099511627776)(hF:Flat A t g.ft)(C:fM A k t){D b:fQ}{h:fO}(ap:Good D)(V:Good (b++[h]))(E:t.at A b=fh d)(F:kids A d=fh Y)(m:jp Y h=fh e)(G:oZ T w i v (Y.map lL))(W):
  ik 141 #[ii B.bt,fD<|jn D,fD<|jn (b++[h]),fD #[hZ W,fY x.kind,fY x.id],v] w λai J=>ai=fF (fY (lB A g.fs e x).2)/\mm s i p B A T w J { g with fs:=(lB A g.fs e x).1 } (I+1):=by
 have K:=z.st.sound;have⟨n,X,aj⟩:=lO K (tA K _ C E).2.1 F;have aa:fP (Y.map lL):=by rw[oy];exact nH _ n
 have ab:fv (Y.map lL)<=16:=by rw[oL];exact X
 have⟨L,ac⟩:=LN n m;have ad:t.at A (b++[h])=fh e:=by rw[lx,E,wy,lh,F,wy,m,wy,pd]
 have ae:kA (Y.map lL) h=fm:=by rw[jc,<-rh n,m];rfl
 have a:=λM(O:ju w M)=>SV (x:=x) (z.below O) ah hF C V ad h W;have f:=λak(O:ju w ak)=>iL (G.below O).1 h aa ab;rw[ae]at f;obtain⟨P,aq,rfl,o,q,j,l⟩:=G.at_ L;rw[ac]at q j l;clear ac;generalize fv (Y.map lL)=N at f L ab |-;generalize ui (Y.map lL) h=Q at f L q j l;have r:=λM=>mO (b++[h]) V (by simp) M;simp only[KV]at r;have⟨H,ar,au,av,Z,R⟩:=sk<|b++[h];have⟨aw,ax,ay,az,aA,af⟩:=sk D;unfold ln at r;simp only[R]at r a;rw[R,af];generalize lB A g.fs e x=aB at a |-;simp only at q j l;generalize e.kind=aC at a j;generalize e.id=aD at a l;generalize x.kind=aE at a |-;generalize x.id=aF at a |-;have hif:fe _:=f;have al:fe _:=a;clear z f a R af hF C E F m G K n X aj aa ad ae;go_enter func141,ntmps141;go_wp2_with(first
  |(go_at_call 134;refine(r _).via λw1 u=>?_;have S:=vT u;have aG:=pR u<|w.heap.size+1;have aH:=pR u<|w.heap.size+2;have ag:=tv u)
  |(go_at_call 133;go_loud(refine(hif.o _ ag).via λam y=>?_;have c:=gS ag y;have aI:=λU=>(kw y).1 (w.heap.size+1) U<|MV S;have aJ:=λU=>(kw y).1 (w.heap.size+2) U S;have an:=nz S y.size;have aK:w.heap.size+1<am.heap.size:=MV an;have aL:=nz o c.size;have aM:=((kw c).1 P (Q*3) o).trans q;have aN:=((kw c).1 P (Q*3+1) o).trans j;have aO:=((kw c).1 P (Q*3+2) o).trans l)))
 go_region_with(go_at_call 195;go_loud(refine(al.o _<|io c).via λaP ao=>?_))
 all_goals
  go_wp2;go_ret;exact⟨fX,ao.via<|io c⟩
theorem Ym(u:fZ T w s i p B A g I)(hF:Flat A t g.ft)(W:fM A k t){n l:(List ByteArray)}{N h:ByteArray}(X:Good (n ++ [N]))(K:Good (l ++ [h]))(aa:t.at A l=fh d)(ab:kids A d=fh Y)(ac:jp Y h=fj)(L:oZ T w i v (Y.map lL))(av:ByteArray)(aw ax:Int):
  Calls prog 141 #[fB<|fh ⟨B.bt,0,fj⟩,fD<|jn (n ++ [N]),fD<|jn (l ++ [h]),fD #[fA av,.int .i64 aw,.int .i64 ax],v] w λay J=>ay=fF (.int .i64<|if 16<=fv Y/\n≠l then 11 else 0)/\mm s i p B A T w J g I:=by
 have M:=u.st.sound;have⟨O,ad,az⟩:=lO M (tA M _ W aa).2.1 ab;have ae:fP (Y.map lL):=by rw[oy];exact nH _ O
 have af:fv (Y.map lL)<=16:=by rw[List.length_map];exact ad
 have ag:kA (Y.map lL) h=fo:=by rw[jc,<-rh O,ac];rfl
 have z:=λaA(aB:Below w.heap.size w aA)=>iL (L.below aB).1 h ae af;rw[ag] at z;obtain⟨aI,aJ,rfl⟩:=L.len;rw[List.length_map] at z af |-;generalize ui (Y.map lL) h=aK at z;have x:=λo=>mO (l ++ [h]) K (by simp) o;simp only[List.getLast_concat] at x;have C:=λo=>jo (l ++ [h]) K o;have D:=λo=>jo (n ++ [N]) X o;have aC:Good l:=by have:=K.dropLast;rwa [List.dropLast_concat] at this
 have aD:Good n:=by have:=X.dropLast;rwa [List.dropLast_concat] at this
 have ah:=λo=>ir aD aC o;rw[List.dropLast_concat] at C D;have⟨H,ai,aj,ak,Z,P⟩:=sk<|l ++ [h];have⟨al,am,an,ao,ap,Q⟩:=sk<|n ++ [N];have⟨t0,t1,t2,t3,t4,aq⟩:=sk l;have⟨f0,f1,f2,f3,f4,ar⟩:=sk n;have E:∀o,(Op.equalIn 10000 147 (ln n)<|ln l).run prog o=.ok (decide (n=l)) o:=ah;unfold ln at x C D E;simp only[P,Q,aq,ar] at x C D E;rw[P,Q];have hif:fe _:=z;have R:fe _:=u;clear u z P Q aq ar hF W aa ab ac L M O ad az ae ag ah;by_cases F:16<=fv Y
 ·have aE:(16:Int)<=(fv Y:Int):=by omega
  by_cases G:n=l
  ·rw[if_neg λu=>u.2 G]
   rw[decide_eq_true G] at E;clear F;go_enter func141,ntmps141;go_wp2_with (first
    | (go_at_call 134;refine (x _).via λw1 f=>?_;have q:=vT f;have au:=pR f<|w.heap.size+1;have aF:=pR f w.heap.size;have r:=tv f)
    | (go_at_call 133;go_loud (refine (hif.o _ r).via λy m=>?_;have c:=gS r m;have aG:=λa=>(kw m).1 (w.heap.size+1) a<|Nat.lt_of_succ_lt q;have aH:=λa=>(kw m).1 w.heap.size a<|Nat.lt_of_succ_lt (Nat.lt_of_succ_lt q);have e:w.heap.size+1<y.heap.size:=Nat.lt_of_lt_of_le (Nat.lt_of_succ_lt q) m.size;have j:w.heap.size<y.heap.size:=Nat.lt_of_succ_lt e;replace c:=io c)))
   go_region_with (first
    | (go_at_call_of 132 (Value.agg #[fA H,fA ai,fA aj,fA ak,fA Z]);refine (C _).via λS b=>?_;replace c:=gS c b;have U:=λa=>(kw b).1 (w.heap.size+1) a e;have V:=λa=>(kw b).1 w.heap.size a j;replace e:=Nat.lt_of_lt_of_le e b.size;replace j:=Nat.lt_of_lt_of_le j b.size)
    | (go_at_call_of 132 (Value.agg #[fA al,fA am,fA an,fA ao,fA ap]);refine (D _).via λS b=>?_;replace c:=gS c b;have U:=λa=>(kw b).1 (w.heap.size+1) a e;have V:=λa=>(kw b).1 w.heap.size a j;replace e:=Nat.lt_of_lt_of_le e b.size;replace j:=Nat.lt_of_lt_of_le j b.size))
   all_goals
    go_wp2;go_ret;exact⟨fX,rz R.o c⟩
  rw[if_pos ⟨F,G⟩];rw[decide_eq_false G] at E;clear F;go_enter func141,ntmps141;go_wp2_with (first
   | (go_at_call 134;refine (x _).via λw1 f=>?_;have q:=vT f;have au:=pR f<|w.heap.size+1;have aF:=pR f w.heap.size;have r:=tv f)
   | (go_at_call 133;go_loud (refine (hif.o _ r).via λy m=>?_;have c:=gS r m;have aG:=λa=>(kw m).1 (w.heap.size+1) a<|Nat.lt_of_succ_lt q;have aH:=λa=>(kw m).1 w.heap.size a<|Nat.lt_of_succ_lt (Nat.lt_of_succ_lt q);have e:w.heap.size+1<y.heap.size:=Nat.lt_of_lt_of_le (Nat.lt_of_succ_lt q) m.size;have j:w.heap.size<y.heap.size:=Nat.lt_of_succ_lt e;replace c:=io c)))
  go_region_with (first
   | (go_at_call_of 132 (Value.agg #[fA H,fA ai,fA aj,fA ak,fA Z]);refine (C _).via λS b=>?_;replace c:=gS c b;have U:=λa=>(kw b).1 (w.heap.size+1) a e;have V:=λa=>(kw b).1 w.heap.size a j;replace e:=Nat.lt_of_lt_of_le e b.size;replace j:=Nat.lt_of_lt_of_le j b.size)
   | (go_at_call_of 132 (Value.agg #[fA al,fA am,fA an,fA ao,fA ap]);refine (D _).via λS b=>?_;replace c:=gS c b;have U:=λa=>(kw b).1 (w.heap.size+1) a e;have V:=λa=>(kw b).1 w.heap.size a j;replace e:=Nat.lt_of_lt_of_le e b.size;replace j:=Nat.lt_of_lt_of_le j b.size))
  all_goals
   go_wp2;go_ret;exact⟨fX,rz R.o c⟩
 have aE:decide ((16:Int)<=(fv Y:Int))=fo:=decide_eq_false (by omega);rw[if_neg λu=>F u.1];clear E;go_enter func141,ntmps141;go_wp2_with (first
  | (go_at_call 134;refine (x _).via λw1 f=>?_;have q:=vT f;have au:=pR f<|w.heap.size+1;have r:=tv f)
  | (go_at_call 133;go_loud (refine (hif.o _ r).via λy m=>?_;have c:=gS r m)))
 go_region
 all_goals
  go_wp2;go_ret;exact⟨fX,rz R.o<|io c⟩
theorem size_del(a:Maps.has D kl=fm):Maps.size (D.del kl)<Maps.size D:=by
 cases D with
 |map c=>
  rw[Maps.has_eq,iff]at a;have⟨x,b,d⟩:=a;rw[DataW.del_eq];refine Dom.2 ⟨x,b,?_⟩
  grind [ChangeMaps.notKey]
 |_=>cases a
theorem SY{k}{b n m:Nat}(a:w.ownsMap prog k jZ b n D)(c:Maps.size D<=m):w.ownsMap prog k jZ b m D:=by
 obtain⟨d,e,f,g,h,rfl⟩:=a;exact⟨d,e,f,g,by simpa [Maps.size,length_sorted]using c,fX⟩
theorem kz.aah{k}{a:Lit->Option fu}(l:kz w k b (n+1) a)(c:Maps.Keyed prog k){t e}(m:prog.underlying t=fh (.map k e))
  {d}(f:keyOf prog k d=fh kl)(o:(a kl).isSome=fm)(g:ni):
  ∃J,(Builtin.delete_ #[t,k] g #[.map<|fh b,d]).run prog w=.ok (fC #[]) J/\kz J k b n (Fi a kl fj)/\w.grownBy J (fh b)/\J.heap.size=w.heap.size:=by
 have⟨D,h,i⟩:=l;have⟨J,p,q,j⟩:=h.drop c m f g;have r:=size_del (D:=D) (kl:=kl) (by rw[Fh<|i kl (c.key f)];exact o);have s:=h.size_le;refine⟨J,p,⟨_,SY q<|by omega,Nz i kl⟩,j.grown,?_⟩;obtain⟨u,v,x,y,z,rfl⟩:=j;simp[ChangeMaps.setBlock]
theorem jT.aah(c:jT w b (n+1) f){t e:ni}(d:prog.underlying t=fh (.map 147 e))(g:Good q)(m:(f q).isSome=fm)(a:ni):
  ∃J,(Builtin.delete_ #[t,147] a #[.map<|fh b,fD<|jn q]).run prog w=.ok (fC #[]) J/\jT J b n (upd f q fj)/\w.grownBy J (fh b)/\J.heap.size=w.heap.size:=by
 obtain⟨o,h,_⟩:=c;have⟨J,i,j,k,l⟩:=h.aah yT d (Bu g) (by grind) a;refine⟨J,i,⟨_,j,λx p=>?_,λkl r s=>?_⟩,k,l⟩
 ·by_cases e:x=q
  all_goals grind [nG,upd_same,jQ,uK,kh]
 grind [qm,nG,absurd,jQ]
theorem jT.look(a:jT w b n f){t e:ni}(c:prog.underlying t=fh (.map 147 e)){z:fu}(d:(zeroValue e).run prog w=.ok z w)(g:Good q):
  (Instr.lookup t (.map<|fh b) (fD<|jn q) fo).run prog w=.ok ((f q).getD z) w:=by
 have⟨i,h,_⟩:=a
 have:=h.look yT c d<|Bu g
 grind
section
open Classical
def vU (src E p:fQ):fQ:=E++p.drop (fv src)
noncomputable def carried (f:fQ->Option β)(src dst:fQ)(L:List (fQ)):fQ->Option β:=fun x=>
 if dst <+: x/\src++x.drop dst.length∈L then f (src++x.drop dst.length)else if x∈L then none else f x
theorem OX(f:fQ->Option β)(src E)(x:fQ):carried f src E [] x=f x:=by
 grind [carried]
theorem OY{src p:fQ}(a:src <+: p):src++p.drop (fv src)=p:=by
 obtain⟨r,rfl⟩:=a
 grind
theorem LO{f:fQ->Option β}{p:fQ}(BB:∀x,E <+: x->f x=fj)(a:∀x∈L,src <+: x/\f x≠fj)(b:src <+: p)(c:f p≠fj)(d:p∉L):
  carried f src E L p=f p/\∀x,upd (upd (carried f src E L) (vU src E p)<|f p) p fj x=carried f src E (L++[p]) x:=by
 grind [carried,upd_same,kh,vU,yQ,OY,qD]
theorem OZ{f:fQ->Option β}(BB:∀x,E <+: x->f x=fj)(a:∀x,x∈L↔(src <+: x/\f x≠fj))(x):carried f src E L x=PQ f src E x:=by
 grind [carried,PQ,absurd,qD]
end
def uQ (f:fQ->Option fu)(src:fQ)(left:Lit->Bool)(L:List (fQ)):Prop:=
 L.Nodup/\∀x,x∈L↔(Good x/\src <+: x/\f x≠fj/\left (qm prog x)=fo)
theorem Iu(a:uQ f src left L)(b:Good q)(c:¬src <+: q):uQ f src (λz=>left z&&!z.sameKey (qm prog q)) L:=by
 refine⟨a.1,λx=>?_⟩;rw[a.2 x]
 grind [qm,uK,Maps.sameKey_ne,Bool.not_false]
theorem LP(a:uQ f src left L)(c:Good q)(g:src <+: q)(h:f q≠fj)(k:left (qm prog q)=fm):uQ f src (λz=>left z&&!z.sameKey (qm prog q)) (L++[q]):=by
 refine⟨List.nodup_append.2 ⟨a.1,by simp,λi j b d=>?_⟩,λx=>?_⟩;simp only[om]at d;subst d;rintro rfl
 have:=((a.2 i).1 j).2.2.2
 grind
 simp only[qJ,om];by_cases e:x=q;subst e;refine⟨λ_=>⟨c,g,h,?_⟩,λ_=>.inr fX⟩;have l:=WideAt.sameKey_self<|Vw c
 grind
 rw[a.2 x]
 all_goals grind [absurd,qm,uK,Maps.sameKey_ne,Bool.not_false]
theorem BC(H b c d Z x)(k:Int)(r:Array fu)(w:fq)(g:(k=0/\r=(ml x b c d Z))\/(k=1/\r=(ml H x c d Z))\/(k=2/\r=(ml H b x d Z))\/(k=3/\r=(ml H b c x Z))\/(k=4/\r=(ml H b c d x)))
  (h:∀f,ik 142 #[fD<|ml H b c d Z] f<|vd (fY k) f):
  ik 196 #[fD<|ml H b c d Z,hZ x] w (vd (fD r) w):=by
 rcases g with⟨rfl,rfl⟩|⟨rfl,rfl⟩|⟨rfl,rfl⟩|⟨rfl,rfl⟩|⟨rfl,rfl⟩
 all_goals
  go_enter func196,ntmps196;go_wp2_with(go_at_call 142;refine(h _).via λw1 e=>?_;have i:=CF e;have⟨m,n⟩:=i;have o:=λa=>(kw e).1 w.heap.size a (by simp;omega);have f1:=λa=>(kw e).2 w.heap.size a (by simp;omega);have j:=λa=>(kw e).1 (w.heap.size+1) a (by simp);have f2:=λa=>(kw e).2 (w.heap.size+1) a<|by simp);exact oa (by simp[results,results196,go_sem,j]) fX ⟨fX,by
   have l:=gS (((mi _ _).alloc (lw _) _).alloc (by simp) _) e
   repeat(refine wD ?_ (by simp) _)
   exact l⟩
theorem CG(l)(f:Good l)(g:fv l<=4)(x)(w:fq):ik 196 #[ln l,hZ x] w (vd (ln<|l++[x]) w):=by
 have e:=λh=>nN l f.val f.len h
 match l,g,e with
 |[],_,e=>exact BC _ _ _ _ _ x _ _ w (.inl ⟨fX,fX⟩) e
 |[a],_,e=>exact BC _ _ _ _ _ x _ _ w (.inr<|.inl ⟨fX,fX⟩) e
 |[a,b],_,e=>exact BC _ _ _ _ _ x _ _ w (.inr<|.inr (.inl ⟨fX,fX⟩)) e
 |[a,b,c],_,e=>exact BC _ _ _ _ _ x _ _ w (.inr<|.inr (.inr<|.inl ⟨fX,fX⟩)) e
 |[a,b,c,d],_,e=>exact BC _ _ _ _ _ x _ _ w (.inr<|.inr (.inr<|.inr ⟨fX,fX⟩)) e
