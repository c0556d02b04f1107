/- A part of the proof. -/
import Derived.Test.YtlgidcmmgohagaaGreatComM14
set_option linter.all false
namespace Go.Proofs.YtlgidcmmgohagaaGreat
open Go.RowKit Go.Sort Go.Shelf Go.Proofs.Tryz
open Go.Value renaming slice->fy,string->fA,pointer->fB,tuple->fC,agg->fD,bool->fE
open Go.Ending renaming returned->fF
open Option renaming some->fh,none->fj
open Bool renaming true->fm,false->fo
open Go renaming World->fq,Value->fu
open List renaming length->fv,reverse->fx
open Go.RowKit renaming Hid->fe
set_option maxRecDepth 100000
set_option maxHeartbeats 0
variable {W w H O:fq}{D:DataW fu}{c d t x:LT}{v z:fu}{L:List (fT)}{g g':WG}{M:Lit->Option fu}{b base k I n:Nat}{left:Lit->Bool}{o1 o2 o3:Obj}{T q r src:fT}{N:gF}{A:List Ob}{f:fT->Option fu}{e:lV}{kl:Lit}{Y:Kids}{fs:b6}
variable {s i p:Nat}{B:WB}{A:List Ob}{β:Type}
theorem FY(a:fM A n c)(b:fP):oQ A (b,c.kind,c.id):=by
 cases c with
 |file id=>exact⟨.inl fX,λ_=>by cases n<;>exact a⟩
 |held f=>exact⟨.inl fX,λa=>absurd fX a⟩
 |dir id=>exact⟨.inr fX,λ_=>by cases n<;>exact a.1⟩
 |own d=>exact⟨.inr fX,λa=>absurd fX a⟩
theorem FZ(b:fZ N w s i p B A g I)(X:I+10<1099511627776)(hF:Flat A t g.ft)(D:fM A n t)(K:Good q)(l:t.at A q=fh c)(m):
  ik 137 #[ie B.bt,fD<|jn q,fD #[hh m,fY c.kind,fY c.id]] w λL H=>L=fF (fY (yr A g.fs c).2)/\mG s i p B A N w H { g with fs:=(yr A g.fs c).1 } (I+1):=by
 have o:=b.st.sound;have r:=(tA o _ D l).2.1;have d:=λW(f:ju w W)=>xA (b.below f) (by omega) K<|FY r m;simp only[yb o hF r l]at d;have a:yr A g.fs c=if c.kind=1 then(g.fs,0)else if(ul A g.fs c).2.1=0/\0<(ul A g.fs c).2.2.length then((ul A g.fs c).1,8) else((ul A g.fs c).1,(ul A g.fs c).2.1):=fX;generalize yr A g.fs c=aa at a |-;generalize ul A g.fs c=M at d a;have⟨ab,P,Y⟩:=M;simp only at d a;generalize c.kind=k at d a |-;generalize c.id=id at d |-;obtain⟨Q,R,S,T,Z,u⟩:=sf q;rw[u];simp only[u]at d;have U:fe _:=b;have V:fe _:=d;have h:fe _:=a;clear b d u a hF D l o r;by_cases j:k=1
 ·subst j
  go_enter func137,ntmps137;go_wp2;go_ret;have a:=h.o;rw[lv (by first|rfl|trivial)]at a;subst a;have f:ju w ((w.k (ml Q R S T Z) 147).k #[hh m,fY 1,fY id] 96):=((mi w.heap.size w).alloc (lw _) _).alloc (by simp) _;exact⟨fX,N,fI.fJ f,(U.below f).mono<|by omega⟩
 go_enter func137,ntmps137;go_wp2_with fail;refine(V _<|((mi w.heap.size w).alloc (lw _) _).alloc (by simp) _).mono ?_;rintro e O ⟨v,rfl,x,E,F,G⟩;obtain⟨ac,ad,rfl⟩:=G.len;rw[oI];have y:fe _:=F;have z:fe _:=mr (((mi w.heap.size w).alloc (lw _) _).alloc (by simp) _) E;clear G F E;by_cases J:P=0
 ·subst J
  by_cases C:0<fv Y
  ·have ae:(0:Int)<(fv Y:Int):=by omega
   go_wp2;go_ret;have a:=h.o;rw[km j,lv (by first|exact⟨fX,C⟩|exact⟨trivial,C⟩)]at a;subst a;exact⟨fX,x,z,y⟩
  go_wp2;go_ret;have a:=h.o;rw[km j,km λb=>C b.2]at a;subst a;exact⟨fX,x,z,y⟩
 go_wp2;go_ret;have a:=h.o;rw[km j,km λb=>J b.1]at a;subst a;exact⟨fX,x,z,y⟩
theorem OT(t)(w:fq):ik 71 #[ie t,fD<|ml kq kq kq kq kq] w (ut (fY 9) w):=by
 have a:=λW=>QR W;have c:∀W,(Op.equalIn 10000 147 (ln [])<|ln []).run prog W=.ok fm W:=λW=>by
  have:=gX Good.nil Good.nil W
  rwa [qu fX]at this
 unfold ln jn at a c;simp only[tQ]at a c;go_enter func71,ntmps71;go_wp2
 go_region_with(go_at_call 75;refine(a _).via λO b=>?_;have⟨d,e⟩:=kw b;have f:=rY b)
 all_goals
  go_wp2;go_ret;exact⟨fX,gS (il<|(mi _ _).alloc (lw _) _) b⟩
theorem Dq(b:(yr A fs c).2=0):fs.Next (yr A fs c).1/\(kids A c=fj\/kids A c=fh []):=by
 unfold yr at b |-;by_cases a:c.kind=1;rw[lv a];refine⟨b6.Next.refl _,.inl ?_⟩;cases c<;>simp[LT.kind]at a<;>rfl
 grind [ul,zI,pV,DY]
theorem Bz{n:fP}{fs':b6}(a:ky A t fs (n::r)=(fs',0,c)):t.at A (fx r++[n])=fh c/\fs.Next fs'/\gU A t fs' (fx r)/\∃d Y,t.at A (fx r)=fh d/\kids A d=fh Y/\jp Y n=fh c:=by
 have⟨b,f,g⟩:=vA (A:=A) (t:=t) (fs:=fs) (r:=n::r) (by rw[a]);rw[a,kz]at b;rw[a]at f;refine⟨b,f,λx id h i=>?_,yc b⟩
 have:=g x id (by grind) (λe=>by
  have:=h.length_le
  rw[e,kz]at this;simp at this;omega) i
 grind
theorem mG.o(a:mG s i p B A N w H g' I):∃M,fI (Mine i) N M w H/\fZ M H s i p B A g' I:=by
 have⟨M,m,b⟩:=a;exact⟨M,m.mono λ_ a=>a.mine,b⟩
theorem OU(k:fZ N w s i p B A g I)(bg:I+400<1099511627776)(hF:Flat A t g.ft)(L:fM A 5 t){n:fP}(q:Good (fx r++[n])):
  ik 71 #[ie B.bt,fD<|jn (fx r++[n])] w λu H=>u=fF (fY (QQ A t g.fs (n::r)).2.1)/\Left s i p B A N w H g (QQ A t g.fs (n::r)).1 (QQ A t g.fs (n::r)).2.2 (I+300):=by
 have P:=k.st.sound;have U:=k.two;have bh:fv r<=4:=by have:=q.len;simp at this;omega
 have h:=λW(Q:ju w W)=>xB (s:=s) (i:=i) (p:=p) (B:=B) (A:=A) (n::r) N W g I (k.below Q) (by omega) (by rw[kz];exact q);rw[kz]at h;have⟨f1,f2,f3⟩:=uo P hF L g.fs (n::r);simp only[f1,f2]at h;have a:QQ A t g.fs (n::r)=if(ky A t g.fs (n::r)).2.1≠0 then((ky A t g.fs (n::r)).1,(ky A t g.fs (n::r)).2.1,t)else if(yr A (ky A t g.fs (n::r)).1 (ky A t g.fs (n::r)).2.2).2≠0 then((yr A (ky A t g.fs (n::r)).1 (ky A t g.fs (n::r)).2.2).1,(yr A (ky A t g.fs (n::r)).1 (ky A t g.fs (n::r)).2.2).2,t) else((yr A (ky A t g.fs (n::r)).1 (ky A t g.fs (n::r)).2.2).1,0,vy A (λY=>ra Y n) (fx r) t):=fX;generalize QQ A t g.fs (n::r)=M at a |-;have R:∀{v:b6}{c:LT},ky A t g.fs (n::r)=(v,0,c)->_:=λ{_ _}k=>Bz k;generalize ky A t g.fs (n::r)=aN at h f3 a R;have⟨v,S,c⟩:=aN;simp only at h f3 a;generalize findF A g.ft g.fs (n::r)=aO at h f3;have⟨_,_,u,bi,bj⟩:=aO;simp only[List.headD_cons,vo]at h f3;have l:fe _:=a;have C:∀W,(Op.equalIn 10000 147 (ln<|fx r++[n])<|ln []).run prog W=.ok fo W:=λW=>by
  have:=gX q Good.nil W
  rw[yv<|by simp]at this;exact this
 have D:=λW=>QR W;have⟨bk,bl,bm,bn,Z,E⟩:=sf<|fx r++[n];unfold ln at D C;simp only[E]at C h;rw[E];unfold jn at D C;simp only[tQ]at D C;have T:fe _:=E;have ai:fe _:=k;have m:fe _:=hF;have j:fe _:=L;have o:fe (Sound A):=P;have hh0:fe _:=h;have aP:fe (∀{top:b6}{aQ:LT},(v,S,c)=(top,0,aQ)->_):=R;have aR:fe _:=f3;have V:fe _:=q;clear k hF L P E h R q a f1 f2 f3;go_enter func71,ntmps71;go_wp2
 go_region_with(go_at_call 75;refine(D _).via λO X=>?_;have⟨bo,bp⟩:=kw X;have aa:=rY X;have aj:=gS (il<|(mi w.heap.size w).alloc (lw _) _) X)
 all_goals
  go_wp2_with fail;refine(hh0.o O aj).via λf ak=>?_
  have⟨aS,x,al⟩:=ak.o;have bq:=Hc (b:=w.heap.size) U x aa<|ai.o.st.fresh _ (lw _);have ab:w.heap.size<f.heap.size:=np aa x.size;have am:aS w.heap.size=(0,0):=(x.tags _ aa).trans<|ai.st.fresh _ (lw _);have ac:fe _:=mr aj x;have an:fe _:=al;clear ak x al;by_cases ad:S=0
  ·subst ad
   obtain⟨⟨rfl,rfl,rfl⟩,aT⟩:=aR fX;have⟨ao,aU,ap,d,Y,aq,ar,au⟩:=aP.o fX;have y:=λW(Q:ju f W)=>FZ (an.below Q) (by simp;omega) m j.o V ao u;rw[T.o]at y;have F:=Dq (A:=A) (fs:=v) (c:=c);have a:=l.o;clear l;simp only[ne_eq,not_true_eq_false,day]at a;generalize yr A v c=aV at y F a;have⟨av,aw⟩:=aV;simp only at y F a;have e:fe _:=And.intro ap<|And.intro aq (And.intro ar au);have l:fe _:=a
   change fe _ at y F
   clear a ao aU ap aq ar au aT;go_wp2_with fail;refine(y _<|(mi f.heap.size f).alloc (lw _) _).via λaW ax=>?_
   have⟨aX,z,ay⟩:=ax.o;have br:=Hc (b:=w.heap.size) U z (mP ab _) am;have aY:w.heap.size<aW.heap.size:=np (mP ab _) z.size;have aZ:aX w.heap.size=(0,0):=(z.tags _<|mP ab _).trans am;have az:fe _:=mr ((mi f.heap.size f).alloc (lw _) _) z;have G:fe _:=ay;clear ax z ay;by_cases ae:aw=0
   ·subst ae
    have⟨aA,aB⟩:=F fX;have K:gU A t av (fx r):=e.1.mono aA.2.2.2.2;have aC:=iq o.o m j e.o.2.1 e.2.2.1 K;have aD:=(lO o (tA o.o _ j e.2.1).2.1 e.o.2.2.1).1;have aE:kB (oM A t<|fx r) u=fm:=by rw[lN e.o.2.1 e.o.2.2.1,jd,<-rh aD,e.o.2.2.2];rfl
    have aF:oO A (oM A t<|fx r):=by
     have:=G.gh av r
     rw[nI o.o m.o j.o,Jj e.o.2.1 e.o.2.2.1 K]at this;rw[lN e.o.2.1 e.o.2.2.1];exact this
    have⟨J,aG⟩:=G.wp.qj;have af:=OQ G.o aG (by simp;omega) V aC aF aE;have aH:=NH o m.o j e.2.1 e.o.2.2.1 K e.2.2.2 aB;have aI:=AU o j.o e.2.1 e.2.2.1 u;rw[T.o]at af
    change fe _ at af aH aI
    clear aG aF aE aD aC K aA aB;go_wp2_with(first
     |(go_at_call 138;go_loud(refine Calls.via af.o λbs⟨bb,bt,ag,aJ,aK⟩=>?_;have bu:=Hc (b:=w.heap.size) U ag aY aZ;have ah:=FU aJ aK V;rw[T.o]at ah;have HFG:fe _:=ah;have bc:fe _:=ag;clear ah aJ aK ag))
     |(go_at_call 139;go_loud(refine Calls.via HFG.o λbv⟨aL,aM,bd⟩=>?_;have be:fe _:=aL;have bf:fe _:=aM;clear aL aM bd)))
    go_ret;have a:=l.o;simp only[not_true_eq_false,day]at a;subst a;exact⟨fX,bb,_,(ac.trans<|az.o.trans (bc.trans be)),bf.o.mono (by simp;omega),aH,aI⟩
   have bw:(aw==0)=fo:=by simpa using ae
   go_wp2;go_ret;have a:=l.o;rw[lv ae]at a;subst a;exact⟨fX,iB (ac.o.trans az) (G.mono (by simp;omega)) m.o j⟩
  have bx:(S==0)=fo:=by simpa using ad
  go_wp2;go_ret;have a:=l.o;rw[lv ad]at a;subst a;exact⟨fX,iB (ac.trans<|fI.fJ ((mi f.heap.size f).alloc (lw _) _)) ((an.o.below<|(mi f.heap.size f).alloc (lw _) _).mono (by simp;omega)) m j⟩
def zZ(c:LT):c.kind=1\/c.kind=2:=by cases c<;>simp[LT.kind]
theorem mG.via(a:ju w W)(b:mG s i p B A N W H g' I):mG s i p B A N w H g' I:=by
 have⟨M,m,c⟩:=b;exact⟨M,mr a m,c⟩
def qZ(b:fZ N w s i p B A g I)(a:ju w H):mG s i p B A N w H g I:=⟨N,fI.fJ a,b.below a⟩
theorem mG.mono{I a:Nat}(b:mG s i p B A N w H g I)(c:I<=a):mG s i p B A N w H g a:=by
 have⟨M,m,d⟩:=b;exact⟨M,m,d.mono c⟩
theorem SY(d:fZ N w s i p B A g I)(u:I+10<1099511627776)(hF:Flat A t g.ft)(k:fM A n t)(v:Good q)(l:t.at A q=fh c)(m y):
  ik 195 #[ie B.bt,fD<|jn q,fD #[hh m,fY c.kind,fY c.id],fD #[hh y,fY x.kind,fY x.id]] w λz H=>z=fF (fY (lD A g.fs c x).2)/\mG s i p B A N w H { g with fs:=(lD A g.fs c x).1 } (I+1):=by
 have b:=λW(C:ju w W)=>FZ (d.below C) u hF k v l m;have a:lD A g.fs c x=if c.kind=2/\x.kind=1 then(g.fs,7)else if c.kind=1/\x.kind=2 then(g.fs,5)else yr A g.fs c:=fX;generalize lD A g.fs c x=D at a |-;have o:=zZ c;have r:=zZ x;generalize yr A g.fs c=E at b a;generalize c.kind=F at b a o |-;generalize x.kind=G at a r |-;generalize c.id=J at b |-;generalize x.id=K;obtain⟨L,M,P,Q,Z,h⟩:=sf q;rw[h];simp only[h]at b;have f:fe _:=a
 change fe _ at d b
 clear h a hF k l;rcases o with rfl|rfl<;>rcases r with rfl|rfl
 ·go_enter func195,ntmps195
  go_wp2_with(go_at_call 137;refine(b _<|(((mi w.heap.size w).alloc (lw _) _).alloc (by simp) _).alloc (by simp;omega) _).mono ?_;rintro e O ⟨rfl,j⟩);go_ret;have a:=f.o;rw[km<|by decide,km<|by decide]at a;subst a;exact⟨fX,j.via<|(((mi w.heap.size w).alloc (lw _) _).alloc (by simp) _).alloc (by simp;omega) _⟩
 ·go_enter func195,ntmps195
  go_wp2;go_ret;have a:=f.o;rw[km<|by decide,lv<|by decide]at a;subst a;exact⟨fX,(qZ d<|(((mi w.heap.size w).alloc (lw _) _).alloc (by simp) _).alloc (by simp;omega) _).mono<|by omega⟩
 ·go_enter func195,ntmps195
  go_wp2;go_ret;have a:=f.o;rw[lv<|by decide]at a;subst a;exact⟨fX,(qZ d<|(((mi w.heap.size w).alloc (lw _) _).alloc (by simp) _).alloc (by simp;omega) _).mono<|by omega⟩
 go_enter func195,ntmps195;go_wp2_with(go_at_call 137;refine(b _<|(((mi w.heap.size w).alloc (lw _) _).alloc (by simp) _).alloc (by simp;omega) _).mono ?_;rintro e O ⟨rfl,j⟩);go_ret;have a:=f.o;rw[km<|by decide,km<|by decide]at a;subst a;exact⟨fX,j.via<|(((mi w.heap.size w).alloc (lw _) _).alloc (by simp) _).alloc (by simp;omega) _⟩
theorem vL(a:Below (((w.alloc o1).alloc o2).alloc o3).heap.size (((w.alloc o1).alloc o2).alloc o3) O):w.heap.size+2<O.heap.size:=by
 have b:=a.size
 grind [zw]
def td(a:Below (((w.alloc o1).alloc o2).alloc o3).heap.size (((w.alloc o1).alloc o2).alloc o3) O):ju w O:=
 gS ((((mi w.heap.size w).alloc (lw _) _).alloc (by simp) _).alloc (by simp;omega) _) a
def pN(c:Below (((w.alloc o1).alloc o2).alloc o3).heap.size (((w.alloc o1).alloc o2).alloc o3) O)(b a:Nat)(d:b<w.heap.size+3):O.c b a=(((w.alloc o1).alloc o2).alloc o3).c b a:=
 (kw c).1 b a (by rw[zw,zw,zw];omega)
theorem oT.at_{d}(e:oT N w i v d)(f:k<fv d):∃a c,v=(my a 0 (fv d) c)/\a<w.heap.size/\w.c a (k*3)=fh (hh (d[k]).1)/\w.c a (k*3+1)=fh (fY (d[k]).2.1)/\w.c a (k*3+2)=fh (fY (d[k]).2.2):=by
 obtain⟨a,g,rfl⟩:=hZ e.1 (by omega);obtain⟨c0,c1,c2⟩:=zU (b:=a) (λh j l=>by have:=ks e.1 h j l;rwa [iO]at this) f;exact⟨a,g,fX,gc e.1 fX,c0,c1,c2⟩
theorem LJ(a:fO Y){n}{e:LT}(b:jp Y n=fh e):∃d:ub (Y.map lL) n<fv (Y.map lL),(Y.map lL)[ub (Y.map lL) n]=(n,e.kind,e.id):=by
 have c:kB (Y.map lL) n=fm:=by rw[jd,<-rh a,b];rfl
 have⟨f,g⟩:=ql c;have h:=nj (n:=n) (by rw[ot];exact nH _ a:fO (Y.map lL))
 grind [jH,oV,AP,pV,HA]
theorem SZ{t x d e:LT}(z:fZ N w s i p B A g I)(ag:I+10<1099511627776)(hF:Flat A t g.ft)(C:fM A k t){D b:fT}{h:fP}(ao:Good D)(T:Good (b++[h]))(E:t.at A b=fh d)(F:kids A d=fh Y)(m:jp Y h=fh e)(G:oT N w i v (Y.map lL))(U):
  ik 141 #[ie B.bt,fD<|jn D,fD<|jn (b++[h]),fD #[hh U,fY x.kind,fY x.id],v] w λah H=>ah=fF (fY (lD A g.fs e x).2)/\mG s i p B A N w H { g with fs:=(lD A g.fs e x).1 } (I+1):=by
 have J:=z.st.sound;have⟨n,V,ai⟩:=lO J (tA J _ C E).2.1 F;have X:fO (Y.map lL):=by rw[ot];exact nH _ n
 have aa:fv (Y.map lL)<=16:=by rw[oI];exact V
 have⟨K,ab⟩:=LJ n m;have ac:t.at A (b++[h])=fh e:=by rw[lx,E,wd,lh,F,wd,m,wd,oX]
 have ad:kB (Y.map lL) h=fm:=by rw[jd,<-rh n,m];rfl
 have a:=λW(L:ju w W)=>SY (x:=x) (z.below L) ag hF C T ac h U;have f:=λaj(L:ju w aj)=>iG (G.below L).1 h X aa;rw[ad]at f;obtain⟨M,ap,rfl,o,q,j,l⟩:=G.at_ K;rw[ab]at q j l;clear ab;generalize fv (Y.map lL)=aq at f K aa |-;generalize ub (Y.map lL) h=P at f K q j l;have r:=λW=>mO (b++[h]) T (by simp) W;simp only[KR]at r;have⟨ar,au,av,aw,Z,Q⟩:=sf<|b++[h];have⟨ax,ay,az,aA,aB,ae⟩:=sf D;unfold ln at r;simp only[Q]at r a;rw[Q,ae];generalize lD A g.fs e x=aC at a |-;simp only at q j l;generalize e.kind=aD at a j;generalize e.id=aE at a l;generalize x.kind=aF at a |-;generalize x.id=aG at a |-;have hic:fe _:=f;have ak:fe _:=a;clear z f a Q ae hF C E F m G J n V ai X ac ad;go_enter func141,ntmps141;go_wp2_with(first
  |(go_at_call 134;refine(r _).via λO u=>?_;have R:=vL u;have aH:=pN u<|w.heap.size+1;have aI:=pN u<|w.heap.size+2;have af:=td u)
  |(go_at_call 133;go_loud(refine(hic.o _ af).via λal y=>?_;have c:=gS af y;have aJ:=λS=>(kw y).1 (w.heap.size+1) S<|MX R;have aK:=λS=>(kw y).1 (w.heap.size+2) S R;have am:=np R y.size;have aL:w.heap.size+1<al.heap.size:=MX am;have aM:=np o c.size;have aN:=((kw c).1 M (P*3) o).trans q;have aO:=((kw c).1 M (P*3+1) o).trans j;have aP:=((kw c).1 M (P*3+2) o).trans l)))
 go_region_with(go_at_call 195;go_loud(refine(ak.o _<|il c).via λaQ an=>?_))
 all_goals
  go_wp2;go_ret;exact⟨fX,an.via<|il c⟩
theorem Yp(q:fZ N w s i p B A g I)(hF:Flat A t g.ft)(V:fM A k t){R l:(List ByteArray)}{D h:ByteArray}(X:Good (R ++ [D]))(G:Good (l ++ [h]))(aa:t.at A l=fh d)(ab:kids A d=fh Y)(ac:jp Y h=fj)(J:oT N w i v (Y.map lL))(aw:ByteArray)(ax ay:Int):
  Calls prog 141 #[fB<|fh ⟨B.bt,0,fj⟩,fD<|jn (R ++ [D]),fD<|jn (l ++ [h]),fD #[fA aw,.int .i64 ax,.int .i64 ay],v] w λaz H=>az=fF (.int .i64<|if 16<=fv Y/\R≠l then 11 else 0)/\mG s i p B A N w H g I:=by
 have K:=q.st.sound;have⟨L,ad,aA⟩:=lO K (tA K _ V aa).2.1 ab;have ae:fO (Y.map lL):=by rw[ot];exact nH _ L
 have af:fv (Y.map lL)<=16:=by rw[List.length_map];exact ad
 have ag:kB (Y.map lL) h=fo:=by rw[jd,<-rh L,ac];rfl
 have x:=λaB(aC:Below w.heap.size w aB)=>iG (J.below aC).1 h ae af;rw[ag] at x;obtain⟨aJ,aK,rfl⟩:=J.len;rw[List.length_map] at x af |-;generalize ub (Y.map lL) h=aL at x;have r:=λW=>mO (l ++ [h]) G (by simp) W;simp only[List.getLast_concat] at r;have y:=λW=>jr (l ++ [h]) G W;have z:=λW=>jr (R ++ [D]) X W;have aD:Good l:=by have:=G.dropLast;rwa [List.dropLast_concat] at this
 have aE:Good R:=by have:=X.dropLast;rwa [List.dropLast_concat] at this
 have ah:=λW=>gX aE aD W;rw[List.dropLast_concat] at y z;have⟨ai,aj,ak,al,Z,M⟩:=sf<|l ++ [h];have⟨am,an,ao,ap,aq,P⟩:=sf<|R ++ [D];have⟨t0,t1,t2,t3,t4,ar⟩:=sf l;have⟨f0,f1,f2,f3,f4,au⟩:=sf R;have C:∀W,(Op.equalIn 10000 147 (ln R)<|ln l).run prog W=.ok (decide (R=l)) W:=ah;unfold ln at r y z C;simp only[M,P,ar,au] at r y z C;rw[M,P];have hic:fe _:=x;have Q:fe _:=q;clear q x M P ar au hF V aa ab ac J K L ad aA ae ag ah;by_cases E:16<=fv Y
 ·have aF:(16:Int)<=(fv Y:Int):=by omega
  by_cases F:R=l
  ·rw[if_neg λq=>q.2 F]
   rw[decide_eq_true F] at C;clear E;go_enter func141,ntmps141;go_wp2_with (first
    | (go_at_call 134;refine (r _).via λO f=>?_;have n:=vL f;have av:=pN f<|w.heap.size+1;have aG:=pN f w.heap.size;have o:=td f)
    | (go_at_call 133;go_loud (refine (hic.o _ o).via λu m=>?_;have c:=gS o m;have aH:=λa=>(kw m).1 (w.heap.size+1) a<|Nat.lt_of_succ_lt n;have aI:=λa=>(kw m).1 w.heap.size a<|Nat.lt_of_succ_lt (Nat.lt_of_succ_lt n);have e:w.heap.size+1<u.heap.size:=Nat.lt_of_lt_of_le (Nat.lt_of_succ_lt n) m.size;have j:w.heap.size<u.heap.size:=Nat.lt_of_succ_lt e;replace c:=il c)))
   go_region_with (first
    | (go_at_call_of 132 (Value.agg #[fA ai,fA aj,fA ak,fA al,fA Z]);refine (y _).via λS b=>?_;replace c:=gS c b;have T:=λa=>(kw b).1 (w.heap.size+1) a e;have U:=λa=>(kw b).1 w.heap.size a j;replace e:=Nat.lt_of_lt_of_le e b.size;replace j:=Nat.lt_of_lt_of_le j b.size)
    | (go_at_call_of 132 (Value.agg #[fA am,fA an,fA ao,fA ap,fA aq]);refine (z _).via λS b=>?_;replace c:=gS c b;have T:=λa=>(kw b).1 (w.heap.size+1) a e;have U:=λa=>(kw b).1 w.heap.size a j;replace e:=Nat.lt_of_lt_of_le e b.size;replace j:=Nat.lt_of_lt_of_le j b.size))
   all_goals
    go_wp2;go_ret;exact⟨fX,qZ Q.o c⟩
  rw[if_pos ⟨E,F⟩];rw[decide_eq_false F] at C;clear E;go_enter func141,ntmps141;go_wp2_with (first
   | (go_at_call 134;refine (r _).via λO f=>?_;have n:=vL f;have av:=pN f<|w.heap.size+1;have aG:=pN f w.heap.size;have o:=td f)
   | (go_at_call 133;go_loud (refine (hic.o _ o).via λu m=>?_;have c:=gS o m;have aH:=λa=>(kw m).1 (w.heap.size+1) a<|Nat.lt_of_succ_lt n;have aI:=λa=>(kw m).1 w.heap.size a<|Nat.lt_of_succ_lt (Nat.lt_of_succ_lt n);have e:w.heap.size+1<u.heap.size:=Nat.lt_of_lt_of_le (Nat.lt_of_succ_lt n) m.size;have j:w.heap.size<u.heap.size:=Nat.lt_of_succ_lt e;replace c:=il c)))
  go_region_with (first
   | (go_at_call_of 132 (Value.agg #[fA ai,fA aj,fA ak,fA al,fA Z]);refine (y _).via λS b=>?_;replace c:=gS c b;have T:=λa=>(kw b).1 (w.heap.size+1) a e;have U:=λa=>(kw b).1 w.heap.size a j;replace e:=Nat.lt_of_lt_of_le e b.size;replace j:=Nat.lt_of_lt_of_le j b.size)
   | (go_at_call_of 132 (Value.agg #[fA am,fA an,fA ao,fA ap,fA aq]);refine (z _).via λS b=>?_;replace c:=gS c b;have T:=λa=>(kw b).1 (w.heap.size+1) a e;have U:=λa=>(kw b).1 w.heap.size a j;replace e:=Nat.lt_of_lt_of_le e b.size;replace j:=Nat.lt_of_lt_of_le j b.size))
  all_goals
   go_wp2;go_ret;exact⟨fX,qZ Q.o c⟩
 have aF:decide ((16:Int)<=(fv Y:Int))=fo:=decide_eq_false (by omega);rw[if_neg λq=>E q.1];clear C;go_enter func141,ntmps141;go_wp2_with (first
  | (go_at_call 134;refine (r _).via λO f=>?_;have n:=vL f;have av:=pN f<|w.heap.size+1;have o:=td f)
  | (go_at_call 133;go_loud (refine (hic.o _ o).via λu m=>?_;have c:=gS o m)))
 go_region
 all_goals
  go_wp2;go_ret;exact⟨fX,qZ Q.o<|il c⟩
theorem size_del(a:Maps.has D kl=fm):Maps.size (D.del kl)<Maps.size D:=by
 cases D with
 |map c=>
  rw[Maps.has_eq,hLO]at a;have⟨x,b,d⟩:=a;rw[DataW.del_eq];refine CSE.2 ⟨x,b,?_⟩
  grind [ChangeMaps.notKey]
 |_=>cases a
theorem Ta{k}{b n m:Nat}(a:w.ownsMap prog k kg b n D)(c:Maps.size D<=m):w.ownsMap prog k kg b m D:=by
 obtain⟨d,e,f,g,h,rfl⟩:=a;exact⟨d,e,f,g,by simpa [Maps.size,length_sorted]using c,fX⟩
theorem kE.aag{k}(j:kE w k b (n+1) M)(a:Maps.Keyed prog k){t e}(l:prog.underlying t=fh (.map k e))
  {c}(d:keyOf prog k c=fh kl)(m:(M kl).isSome=fm)(f:lV):
  ∃H,(Builtin.delete_ #[t,k] f #[.map<|fh b,c]).run prog w=.ok (fC #[]) H/\kE H k b n (Fh M kl fj)/\w.grownBy H (fh b)/\H.heap.size=w.heap.size:=by
 have⟨D,g,h⟩:=j;have⟨H,o,p,i⟩:=g.drop a l d f;have q:=size_del (D:=D) (kl:=kl) (by rw[Fg<|h kl (a.key d)];exact m);have r:=g.size_le;refine⟨H,o,⟨_,Ta p<|by omega,Nz h kl⟩,i.grown,?_⟩;obtain⟨s,u,v,x,y,rfl⟩:=i;simp[ChangeMaps.setBlock]
theorem jV.aag(c:jV w b (n+1) f){t e:lV}(d:prog.underlying t=fh (.map 147 e))(g:Good q)(m:(f q).isSome=fm)(a:lV):
  ∃H,(Builtin.delete_ #[t,147] a #[.map<|fh b,fD<|jn q]).run prog w=.ok (fC #[]) H/\jV H b n (upd f q fj)/\w.grownBy H (fh b)/\H.heap.size=w.heap.size:=by
 obtain⟨M,h,_⟩:=c;have⟨H,i,j,k,l⟩:=h.aag yV d (Bt g) (by grind) a;refine⟨H,i,⟨_,j,λx o=>?_,λkl p r=>?_⟩,k,l⟩
 ·by_cases e:x=q
  all_goals grind [nG,upd_same,jS,uE,kh]
 grind [qi,nG,absurd,jS]
theorem jV.look(a:jV w b n f){t e:lV}(c:prog.underlying t=fh (.map 147 e))(d:(zeroValue e).run prog w=.ok z w)(g:Good q):
  (Instr.lookup t (.map<|fh b) (fD<|jn q) fo).run prog w=.ok ((f q).getD z) w:=by
 have⟨M,h,_⟩:=a
 have:=h.look yV c d<|Bt g
 grind
section
open Classical
def vM (src T p:fT):fT:=T++p.drop (fv src)
noncomputable def carried (f:fT->Option β)(src dst:fT)(L:List (fT)):fT->Option β:=fun x=>
 if dst <+: x/\src++x.drop dst.length∈L then f (src++x.drop dst.length)else if x∈L then none else f x
theorem OV(f:fT->Option β)(src T)(x:fT):carried f src T [] x=f x:=by
 grind [carried]
theorem OW{src p:fT}(a:src <+: p):src++p.drop (fv src)=p:=by
 obtain⟨r,rfl⟩:=a
 grind
theorem LK{f:fT->Option β}{p:fT}(BA:∀x,T <+: x->f x=fj)(a:∀x∈L,src <+: x/\f x≠fj)(b:src <+: p)(c:f p≠fj)(d:p∉L):
  carried f src T L p=f p/\∀x,upd (upd (carried f src T L) (vM src T p)<|f p) p fj x=carried f src T (L++[p]) x:=by
 grind [carried,upd_same,kh,vM,yT,OW,qz]
theorem OX{f:fT->Option β}(BA:∀x,T <+: x->f x=fj)(a:∀x,x∈L↔(src <+: x/\f x≠fj))(x):carried f src T L x=Lq f src T x:=by
 grind [carried,Lq,absurd,qz]
end
def uL (f:fT->Option fu)(src:fT)(left:Lit->Bool)(L:List (fT)):Prop:=
 L.Nodup/\∀x,x∈L↔(Good x/\src <+: x/\f x≠fj/\left (qi prog x)=fo)
theorem Ip(a:uL f src left L)(b:Good q)(c:¬src <+: q):uL f src (λz=>left z&&!z.sameKey (qi prog q)) L:=by
 refine⟨a.1,λx=>?_⟩;rw[a.2 x]
 grind [qi,uE,Maps.sameKey_ne,Bool.not_false]
theorem LL(a:uL f src left L)(c:Good q)(g:src <+: q)(h:f q≠fj)(k:left (qi prog q)=fm):uL f src (λz=>left z&&!z.sameKey (qi prog q)) (L++[q]):=by
 refine⟨List.nodup_append.2 ⟨a.1,by simp,λi j b d=>?_⟩,λx=>?_⟩;simp only[oa]at d;subst d;rintro rfl
 have:=((a.2 i).1 j).2.2.2
 grind
 simp only[qw,oa];by_cases e:x=q;subst e;refine⟨λ_=>⟨c,g,h,?_⟩,λ_=>.inr fX⟩;have l:=WideAt.sameKey_self<|Vy c
 grind
 rw[a.2 x]
 all_goals grind [absurd,qi,uE,Maps.sameKey_ne,Bool.not_false]
theorem BB(b c d e Z x)(k:Int)(r:Array fu)(w:fq)(g:(k=0/\r=(ml x c d e Z))\/(k=1/\r=(ml b x d e Z))\/(k=2/\r=(ml b c x e Z))\/(k=3/\r=(ml b c d x Z))\/(k=4/\r=(ml b c d e x)))
  (h:∀W,ik 142 #[fD<|ml b c d e Z] W<|ut (fY k) W):
  ik 196 #[fD<|ml b c d e Z,hh x] w (ut (fD r) w):=by
 rcases g with⟨rfl,rfl⟩|⟨rfl,rfl⟩|⟨rfl,rfl⟩|⟨rfl,rfl⟩|⟨rfl,rfl⟩
 all_goals
  go_enter func196,ntmps196;go_wp2_with(go_at_call 142;refine(h _).via λO f=>?_;have i:=CF f;have⟨m,n⟩:=i;have o:=λa=>(kw f).1 w.heap.size a (by simp;omega);have f1:=λa=>(kw f).2 w.heap.size a (by simp;omega);have j:=λa=>(kw f).1 (w.heap.size+1) a (by simp);have f2:=λa=>(kw f).2 (w.heap.size+1) a<|by simp);exact ni (by simp[results,results196,go_sem,j]) fX ⟨fX,by
   have l:=gS (((mi _ _).alloc (lw _) _).alloc (by simp) _) f
   repeat(refine wB ?_ (by simp) _)
   exact l⟩
theorem CG(l)(f:Good l)(g:fv l<=4)(x)(w:fq):ik 196 #[ln l,hh x] w (ut (ln<|l++[x]) w):=by
 have e:=λW=>nN l f.val f.len W
 match l,g,e with
 |[],_,e=>exact BB _ _ _ _ _ x _ _ w (.inl ⟨fX,fX⟩) e
 |[a],_,e=>exact BB _ _ _ _ _ x _ _ w (.inr<|.inl ⟨fX,fX⟩) e
 |[a,b],_,e=>exact BB _ _ _ _ _ x _ _ w (.inr<|.inr (.inl ⟨fX,fX⟩)) e
 |[a,b,c],_,e=>exact BB _ _ _ _ _ x _ _ w (.inr<|.inr (.inr<|.inl ⟨fX,fX⟩)) e
 |[a,b,c,d],_,e=>exact BB _ _ _ _ _ x _ _ w (.inr<|.inr (.inr<|.inr ⟨fX,fX⟩)) e
def kEx{p:Prop}(a:fe p):p:=a
def qC (L:List (fT)):iN:=L.flatMap λp=>(jn p).toList
theorem Td(L:List (fT))(p:fT):qC (L++[p])=qC L++(jn p).toList:=by simp[qC]
theorem OY:∀(L:List (fT))(k a:Nat)(b:k<fv L),a<5->(qC L)[k*5+a]?=(jn L[k]).toList[a]?
 |x::r,0,a,b,c=>by
  grind [jn,qC,wk]
 |x::r,k+1,a,b,c=>by
  show((jn x).toList++qC r)[(k+1)*5+a]?=_
  rw[BU (by simp[jn];omega)]
  have e:(k+1)*5+a-(jn x).toList.length=k*5+a:=by simp[jn];omega
  rw[e,OY r k a (by grind) c]
  rfl
theorem acg{base g n h}(l:w.ownsRow base 147 5 (my g 0 n h) n (qC L))(m:k<fv L){e f i j Z}(a:jn L[k]=(ml e f i j Z)):
  g<w.heap.size/\w.c g (k*5)=fh (hh e)/\w.c g (k*5+1)=fh (hh f)/\w.c g (k*5+2)=fh (hh i)/\w.c g (k*5+3)=fh (hh j)/\w.c g (k*5+4)=fh (hh Z):=by
 obtain⟨u,⟨o,_⟩|⟨g',v,x,p,_,q,y,_,z,r⟩⟩:=l;cases o;cases p;have b:∀c d,c<5->(jn L[k]).toList[c]?=fh d->w.c g (k*5+c)=fh d:=by
  intro c d s t;rw[<-OY L k c m s,<-r]at t
  grind [World.cell?]
 refine⟨(lW.1 q).1,b 0 _ (by omega) (by rw[a];rfl),b 1 _ (by omega) (by rw[a];rfl),b 2 _ (by omega) (by rw[a];rfl),b 3 _ (by omega) (by rw[a];rfl),b 4 _ (by omega) (by rw[a];rfl)⟩
def Len:(prog.info? 147).map (λi=>(i.zero,i.size,i.bytes))=fh (fh<|fD (ml kq kq kq kq kq),5,80):=by kernel_rfl
theorem came(b:∀kl,WideAt.IsKeyLit kl->∀z,D.atKey kl z=((M kl).map DataW.held).getD z)(h:∀p,Good p->M (qi prog p)=f p)(e:∀kl,WideAt.IsKeyLit kl->M kl≠fj->∃p,Good p/\kl=qi prog p)
  {x}{y:DataW fu}(c:keyOf prog 147 x=fh kl)(i:∀z,D.atKey kl z=y):∃p,Good p/\kl=qi prog p/\x=fD (jn p)/\f p≠fj:=by
 have a:=yV.key c;have g:M kl≠fj:=by
  intro j;have k:=b kl a<|.held (fY 0);have l:=b kl a<|.held (fY 1)
  grind
 obtain⟨p,d,rfl⟩:=e kl a g;refine⟨p,d,fX,yV.inj c<|nt d.val,?_⟩
 all_goals grind
theorem Yu{a n}{b}(d:w.ownsRow base e a v n b):∃f c,v=fy f n c:=by
 rcases d.2 with⟨h,i⟩|⟨g,_⟩
 all_goals grind
theorem Te{a}{src T p}(i:jV a b n (carried f src T L))(o:n<maxLen)(BA:∀x,T <+: x->f x=fj)(q:∀x∈L,src <+: x/\f x≠fj)(j:Good p)(r:src <+: p)(g:f p=fh v)(s:p∉L)(u:Good (vM src T p))
  {t e:lV}(h:prog.underlying t=fh (.map 147 e))(w:∀W,(zeroValue e).run prog W=.ok z W)(k:lV):
  (Instr.lookup t (.map<|fh b) (fD<|jn p) fo).run prog a=.ok v a/\
  ∃c d,(Instr.mapUpdate t (.map<|fh b) (fD<|jn (vM src T p)) v).run prog a=.ok () c/\(Builtin.delete_ #[t,147] k #[.map<|fh b,fD<|jn p]).run prog c=.ok (fC #[]) d/\
   jV d b n (carried f src T<|L++[p])/\a.grownBy c (fh b)/\c.grownBy d (fh b)/\c.heap.size=a.heap.size/\d.heap.size=a.heap.size:=by
 have⟨c1,c2⟩:=LK BA q r (by rw[g];simp) s;have l:=i.look h (w a) j;rw[c1,g,sA]at l;have⟨c,y,A,B,m⟩:=i.store u o h v;have G:p≠vM src T p:=λe=>by
  have:=BA p (by rw[e];exact qz _ _)
  rw[g]at this;cases this
 have⟨d,C,D,E,F⟩:=A.aag h j (by grind [kh]) k;refine⟨l,c,d,y,C,D.congr λx _=>?_,B,E,m,by rw[F,m]⟩
 grind
def LM(W):(zeroValue 219).run prog W=.ok (fB fj) W:=by kernel_rfl
