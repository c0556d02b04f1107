/- A part of the proof. -/
import Derived.Test.YtlgidcmmgohagaaGreatComM16
set_option linter.all false
namespace Go.Proofs.YtlgidcmmgohagaaGreat
open Go.RowKit Go.Sort Go.Shelf Go.Proofs.Tryz
open Go.Value renaming slice->fy,string->fA,pointer->fB,tuple->fC,agg->fD,bool->fE
open Go.Ending renaming returned->fF
open Option renaming some->fh,none->fj
open Bool renaming true->fm,false->fo
open Go renaming World->fq,Value->fu
open List renaming length->fv,reverse->fx
open Go.RowKit renaming Hid->fe
set_option maxRecDepth 100000
set_option maxHeartbeats 0
variable {op:Nat->Option (Nat×Nat×Int×Int)}{c d df dt t:LT}{d0 d1 d2 d3 d4 n nf h s0 s1 s2 s3 Z:fP}{T q R qt rf rt src:fT}{N:gF}{w H:fq}{a b f i k I:Nat}{fg id:Int}{kf Y kt:Kids}{cr ex:Bool}{x:Int×fP}{g:WG}{es:List fV}{A:List Ob}{fs:b6}
variable {s i p:Nat}{B:WB}{A:List Ob}
theorem Yy(q:fO kf)(c:t.at A R=fh df)(p:kids A df=fh kf)(j:kB kf nf=fm)(b:t.at A qt=fh dt)(f:kids A dt=fh kt)(w:¬(R++[nf]) <+: qt)(r:qt++[h]≠R++[nf])
  {d1:LT}{g:Kids}(a:(vy A (λY=>ra Y nf) R t).at A qt=fh d1)(d:kids A d1=fh g):(jp g h).isSome=(jp kt h).isSome/\fv g<=fv kt/\(R=qt->fv g<fv kt):=by
 have⟨x,y⟩:=Cr A (λY=>ra Y nf) R t df kf c p;by_cases k:R <+: qt;obtain⟨s,rfl⟩:=k;rcases s with _|⟨m,l⟩
 rw[lJ]at b a r |-;rw[y]at a;cases a;rw[c]at b;cases b;rw[p]at f;cases f;have n:fh (ra kf nf)=fh g:=d;cases n;have z:h≠nf:=λe=>r (by rw[e])
 have C:=AL j;have D:=um j;exact⟨by rw[mg q j,km z],by omega,λ_=>by omega⟩;have u:m≠nf:=λe=>w (by rw[e];exact⟨l,by simp⟩);rw[x,mg q j,km u]at a;rw[lx,c,wd,lh,p,wd]at b;rw[b]at a;cases a;rw[f]at d;cases d;exact⟨fX,lw _,λe=>by have:=congrArg List.length e;simp at this⟩;by_cases i:qt <+: R;obtain⟨m,u,l,o⟩:=nk i λe=>k<|e▸sM _;have o:R=qt++m::l:=by rw[<-o];simp
 rw[o]at c a;have⟨E,F,v,i,B⟩:=pG A (λY=>ra Y nf) qt m l t df c;rw[b]at v;cases v;rw[f]at i;cases i;rw[B]at a;cases a;have n:=d;simp only[kids,pV]at n;rw[<-n];refine⟨?_,by rw[oI];exact lw _,λe=>by rw[o]at e;have:=congrArg List.length e;simp at this⟩;rw[qg];split;cases jp kt h<;>rfl;rfl;rw[mb A _ R qt t df c i k,b]at a;cases a;rw[f]at d;cases d;exact⟨fX,lw _,λe=>absurd (e▸sM _) k⟩
theorem Yz(j:t.at A R=fh df)(k:kids A df=fh kf)(l:jp kf nf=fh c)(f:t.at A qt=fh dt)(g:kids A dt=fh kt)(n:qt++[h]≠R++[nf])
  (o:∀e,jp kt h=fh e->kids A e=fj\/kids A e=fh []):¬(qt++[h]) <+: (R++[nf]):=by
 rintro⟨i,b⟩;have a:t.at A (R++[nf])=fh c:=by rw[lx,j,wd,lh,k,wd,l,wd,oX]
 cases i with
 |nil=>rw[lJ]at b;exact n b
 |cons m i=>
  rw[<-b]at a;rcases d:jp kt h with _|e
  rw[sL,lx,f,wd,bws,lh,g,wd,d]at a;cases a;have p:t.at A (qt++[h])=fh e:=by rw[lx,f,wd,lh,g,wd,d,wd,oX]
  rw[pH p<|o e d]at a;cases a
theorem Tn(a:fZ N w s i p B A g I)(u:I<1099511627776)(d:Good src)(b:Good T)(BA:∀x,T <+: x->g.ft.of x=fj)(h:∀x f,src <+: x->g.ft.of x=fh f->fv T+(fv x-fv src)<=5):
  ik 144 #[.map<|fh B.oF,fD<|jn src,fD<|jn T] w λe H=>e=pD #[]/\fI (λt=>t=(i,4)) N N w H/\fZ N H s i p B A { g with ft:={ g.ft with of:=Lq g.ft.of src T } } I:=by
 have⟨v,⟨n,j,k⟩,y⟩:=a.wp.tY;refine(Dr B.oF n _ src T w d b k (by omega) (λx c=>by rw[BA x c];rfl) (λx c l=>?_) λx l=>?_).1.mono λe H⟨m,o,q⟩=>⟨m,Ir a b h j o q⟩
 ·rcases r:g.ft.of x with _|f
  all_goals grind
 rcases r:g.ft.of x with _|f
 all_goals grind
theorem Tp(b:fZ N w s i p B A g I)(v:I<1099511627776)(j:Good src)(c:Good T)(BA:∀x,T <+: x->g.ft.od x=fj)(k:∀x f,src <+: x->g.ft.od x=fh f->fv T+(fv x-fv src)<=5):
  ik 145 #[.map<|fh B.oD,fD<|jn src,fD<|jn T] w λe H=>e=pD #[]/\fI (λt=>t=(i,5)) N N w H/\fZ N H s i p B A { g with ft:={ g.ft with od:=Lq g.ft.od src T } } I:=by
 have⟨J,a⟩:=b.wp.qj;have⟨n,l,m⟩:=a.map;refine(Dr B.oD n _ src T w j c m (by omega) (λx d=>by rw[BA x d];rfl) (λx d o=>?_) λx o=>?_).2.mono λe H⟨q,r,u⟩=>⟨q,LO b a c k l r u⟩
 ·rcases h:g.ft.od x with _|f
  all_goals grind
 rcases h:g.ft.od x with _|f
 ·all_goals grind
 exact(a.good x f h).1
def sg (N:gF)(w H:fq):Prop:=w.heap.size<=H.heap.size/\∀b,b<w.heap.size->N b=(0,0)->∀a,H.cell? ⟨b,a,fj⟩=w.cell? ⟨b,a,fj⟩
theorem sg.qm{N M}(U:2<=i)(m:fI (Mine i) N M w H):sg N w H:=⟨m.size,λb a c d=>Hc U m a c d⟩
theorem LP:∀(n m:Nat){c:LT},n<=m->fM A n c->fM A m c
 |n,m,.file id,_,a=>by
  have:fK A id=1:=by cases n<;>simpa [fM]using a
  cases m<;>simpa [fM]using this
 |n,m,.held f,_,_=>by cases m<;>simp[fM]
 |n,m,.dir id,b,a=>by
  have e:fK A id=2/\gu A id<=n:=by cases n<;>simpa [fM]using a
  have g:gu A id<=m:=by omega
  cases m<;>(rw[fM];exact⟨e.1,g⟩)
 |0,m,.own es,_,a=>by
  rw[fM]at a
  subst a
  exact zJ List.Pairwise.nil (by simp)<|by simp
 |n+1,0,.own es,b,_=>by omega
 |n+1,m+1,.own es,b,a=>by
  rw[fM]at a |-
  exact⟨a.1,a.2.1,λx d=>⟨(a.2.2 x d).1,LP n m (by omega) (a.2.2 x d).2⟩⟩
theorem yz(a:Sound A){n}(b:fM A n d)(c:kids A d=fh Y):oO A (Y.map lL):=by
 have⟨f,g,h⟩:=lO a b c;refine⟨by rw[ot];exact nH _ f,by rw[oI];exact g,λe i=>?_⟩;obtain⟨x,j,rfl⟩:=ja.1 i;have⟨k,m,_,l⟩:=h x j;exact⟨k,FY l x.1⟩
def Tq (B:WB)(w:fq):Prop:=B.bt<w.heap.size/\w.cell? ⟨B.bt,7,fj⟩=fh (.map<|fh B.oF)/\w.cell? ⟨B.bt,8,fj⟩=fh (.map<|fh B.oD)
theorem fZ.xG(a:fZ N w s i p B A g I):Tq B w:=by
 have⟨b,c,d,_⟩:=a.wp.tree.cells;exact⟨b,d,c⟩
def him(t:Nat×Nat)(a:t=(i,4)):Mine i t:=.inr (by rw[a])
def ps1(t:Nat×Nat)(a:t=(i,5)):Mine i t:=.inr (by rw[a])
theorem LQ(E:fZ N w s i p B A g I)(br:I+700<1099511627776)(hF:Flat A t g.ft)(o:fM A 5 t)(S:Good (R++[nf]))(v:Good (qt++[h]))
  (n:t.at A R=fh df)(l:kids A df=fh kf)(F:jp kf nf=fh c)(q:t.at A qt=fh dt)(r:kids A dt=fh kt)(ai:gU A t g.fs R)(hwt:gU A t g.fs qt)
  (G:¬(R++[nf]) <+: (qt++[h]))(aj:∀e,jp kt h=fh e->kids A e=fj\/kids A e=fh [])(ak:jp kt h=fj->fv kt<16\/R=qt)(bs:((fv qt+1:Nat):Int)+kQ A 5 c<=5)(K):
  ik 138 #[ie B.bt,fD<|jn (R++[nf])] w λe O=>e=pD #[]/\sg N w O/\
   ik 135 #[ie B.bt,fD<|jn (qt++[h]),fD #[hh K,fY c.kind,fY c.id]] O λe T=>e=pD #[]/\sg N w T/\
    ∀C,ju T C->sg N w C/\Tq B C/\ik 144 #[.map<|fh B.oF,fD<|jn (R++[nf]),fD<|jn (qt++[h])] C λe al=>e=pD #[]/\
     ∀W3,ju al W3->sg N w W3/\Tq B W3/\ik 145 #[.map<|fh B.oD,fD<|jn (R++[nf]),fD<|jn (qt++[h])] W3 λe am=>e=pD #[]/\
      Left s i p B A N w am g g.fs (vy A (λY=>zr Y h c) qt<|vy A (λY=>ra Y nf) R t) (I+300):=by
 have d:=E.st.sound;have U:=E.two;have an:=(tA d _ o n).2.1;have ao:=(lO d an l).1;have ap:kB kf nf=fm:=by rw[<-rh ao,F];rfl
 have aq:qt++[h]≠R++[nf]:=λe=>G<|e▸sM _;have V:=Yz n l F q r aq aj;have W:¬(R++[nf]) <+: qt:=λb=>G<|b.trans (qz _ _);have ar:t.at A (R++[nf])=fh c:=by rw[lx,n,wd,lh,l,wd,F,wd,oX]
 have au:=(tA d _ o ar).2.1;have bt:fv qt+1<=5:=by have:=v.len;simp at this;omega
 have av:fM A (5-(fv qt+1)) c:=eta d 5 (by
  exact LP _ _ (Nat.sub_le _ _) au)<|by omega
 have aw:=iq d hF o n l ai;have ax:=lN n l;have aS:oO A (oM A t R):=by rw[ax];exact yz d an l
 have aT:kB (oM A t R) nf=fm:=by rw[ax,jd];exact ap
 have⟨d1,bu,L,z,aU,X⟩:=NJ d hF o n l F q r ai hwt G V;have⟨ay,bv,az⟩:=Yy ao n l ap q r W aq L z;have aA:=AU d o n l nf;have Z:=(tA d _ aA L).2.1;have aa:=lN L z;have aB:oO A (oM A (vy A (λY=>ra Y nf) R t) qt):=by rw[aa];exact yz d Z z
 have aC:kB (oM A (vy A (λY=>ra Y nf) R t) qt) h=(jp kt h).isSome:=by rw[aa,jd,<-rh (lO d Z z).1,ay]
 have⟨t1,t2,t3⟩:=zL aw nf;have⟨bw,aD,aE,aV,aW⟩:=ye X h (c.kind,c.id);have aF:=FY au h;have aX:∀a,t.at A (qt++h::a)≠fj->∃e,jp kt h=fh e/\a=[]:=λa j=>by
  rcases ab:jp kt h with _|e
  rw[lx,q,wd,lh,r,wd,ab]at j;exact absurd fX j;cases a with
  |nil=>exact⟨e,fX,fX⟩
  |cons m a=>
   have aY:t.at A (qt++[h])=fh e:=by rw[lx,q,wd,lh,r,wd,ab,wd,oX]
   have:=pH aY (aj e ab) m a
   rw[sL,bws]at this;exact absurd this j
 have BA:∀x,(qt++[h]) <+: x->(qx A g.fs (ou A g.fs g.ft R nf) qt h (c.kind,c.id)).od x=fj/\(qx A g.fs (ou A g.fs g.ft R nf) qt h (c.kind,c.id)).of x=fj:=by
  rintro x ⟨a,rfl⟩;rw[sL,bws];have aG:a≠[]\/jp kt h=fj->t.at A (qt++h::a)=fj:=λj=>by
   rcases b:t.at A (qt++h::a)with _|y
   rfl;have⟨e,aZ,bb⟩:=aX a (by rw[b];simp);rcases j with j|j
   exact absurd bb j;rw[aZ]at j;cases j
  have ac:qt++h::a≠qt:=λe=>by have:=congrArg List.length e;simp at this
  have ad:¬(qt++h::a) <+: qt:=λe=>by have:=e.length_le;simp at this;omega
  have P:qt++h::a≠R:=λe=>V (by rw[<-e];exact⟨a++[nf],by simp⟩);have Q:¬(qt++h::a) <+: R:=λe=>V<|(List.IsPrefix.trans ⟨a,by simp⟩ e).trans (qz _ _);by_cases j:a=[];subst j;rw[aV,aW];by_cases k:kB (oM A (vy A (λY=>ra Y nf) R t) qt) h=fm;rw[lv k,lv k];exact⟨fX,fX⟩;have ae:jp kt h=fj:=by
   rw[aC]at k;rcases D:jp kt h with _|y
   rfl;rw[D]at k;exact absurd fX k
  rw[km k,km k,t2,km P,km Q,t3,hF.od,hF.of,aG<|.inr ae];exact⟨fX,fX⟩;have b:qt++h::a≠qt++[h]:=λe=>j (by simpa using e)
  rw[aD _ b,aE _ b,km ac,km ad,t2,km P,km Q,t3,hF.od,hF.of,aG<|.inl j];exact⟨fX,fX⟩
 have aH:∀x,(R++[nf]) <+: x->(qx A g.fs (ou A g.fs g.ft R nf) qt h (c.kind,c.id)).od x=zC (t.at A x)/\(qx A g.fs (ou A g.fs g.ft R nf) qt h (c.kind,c.id)).of x=RU (t.at A x)/\(t.at A x≠fj->fv (qt++[h])+(fv x-fv (R++[nf]))<=5):=by
  rintro x ⟨a,rfl⟩;have b:(R++[nf])++a≠qt++[h]:=λe=>G (by rw[<-e];exact qz _ _)
  have ac:(R++[nf])++a≠qt:=λe=>W (by rw[<-e];exact qz _ _);have ad:¬((R++[nf])++a) <+: qt:=λe=>W<|(qz _ _).trans e;have P:(R++[nf])++a≠R:=λe=>by have:=congrArg List.length e;simp at this;try omega
  have Q:¬((R++[nf])++a) <+: R:=λe=>by have:=e.length_le;simp at this;omega
  refine⟨by rw[aD _ b,km ac,km ad,t2,km P,km Q,hF.od],by rw[aE _ b,t3,hF.of],λj=>?_⟩;cases af:t.at A ((R++[nf])++a) with
  |none=>exact absurd af j
  |some y=>
   rw[lx,ar,wd]at af
   have:=(tA d _ av af).1
   simp;omega
 have⟨J,bc⟩:=E.wp.qj;refine(OQ E bc (by omega) S aw aS aT).via λO⟨bd,bx,aI,aJ,aK⟩=>?_;refine⟨fX,sg.qm U aI,?_⟩;have be:ik 135 #[ie B.bt,fD<|jn (qt++[h]),fD #[hh K,fY c.kind,fY c.id]] O λbf H=>bf=pD #[]/\∃M bg,fI (Mine i) bd M O H/\
   fZ M H s i p B A { g with ft:=qx A g.fs (ou A g.fs g.ft R nf) qt h (c.kind,c.id) } (I+150+150)/\gG M H i B (qx A g.fs (ou A g.fs g.ft R nf) qt h (c.kind,c.id)).od (I+150+150) bg:=by
  cases k:kB (oM A (vy A (λY=>ra Y nf) R t) qt) h with
  |true=>exact hhx aJ aK (by omega) v X aB k K c.kind c.id aF
  |false=>
   refine LH aJ aK (by omega) v X aB k ?_ K c.kind c.id aF;rw[aa,oI];have ae:jp kt h=fj:=by
    rw[aC]at k;rcases D:jp kt h with _|y
    rfl;rw[D]at k;cases k
   have bh:=(lO d (tA d _ o q).2.1 r).2.1;rcases ak ae with b|b
   omega
   have:=az b
   omega
 refine be.via λT⟨bi,bz,bj,bk,bA⟩=>?_;have aL:=aI.trans bj;refine⟨fX,sg.qm U aL,λC aM=>?_⟩;have aN:=bk.below aM;have aO:=aL.trans<|fI.fJ aM;refine⟨sg.qm U aO,aN.xG,?_⟩;refine(Tn aN (by omega) S v (λx b=>(BA x b).2) λx f b ag=>?_).mono ?_;have⟨_,bl,ah⟩:=aH x b;have u:=ag;rw[bl]at u;exact ah (λe=>by rw[e]at u;cases u);rintro e al ⟨rfl,bm,bn⟩;refine⟨fX,λW3 aP=>?_⟩;have aQ:=bn.below aP;have aR:=(aO.trans<|bm.mono him).trans<|fI.fJ aP;refine⟨sg.qm U aR,aQ.xG,?_⟩;refine(Tp aQ (by omega) S v (λx b=>(BA x b).1) λx f b ag=>?_).mono ?_;have⟨bo,_,ah⟩:=aH x b;have u:=ag;rw[bo]at u;exact ah (λe=>by rw[e]at u;cases u);rintro e am ⟨rfl,bp,bq⟩;refine⟨fX,bi,_,aR.trans<|bp.mono ps1,bq,aU,?_⟩;exact LI d aA L z (v.val h<|by simp) (by omega) av (by
  rw[<-rh (lO d Z z).1,ay];cases D:jp kt h with
  |some y=>exact .inl fX
  |none=>
   right
   have bh:=(lO d (tA d _ o q).2.1 r).2.1;rcases ak D with b|b
   omega
   have:=az b;omega)
theorem Pe{e c}(a:(lD A fs e c).2=0):fs.Next (lD A fs e c).1/\(kids A e=fj\/kids A e=fh []):=by
 grind [lD,Dq]
theorem YA{b:Bool}(a:(mA A fs b Y n c).2=0):fs.Next (mA A fs b Y n c).1/\(∀e,jp Y n=fh e->kids A e=fj\/kids A e=fh [])/\(jp Y n=fj->fv Y<16\/b=fm):=by
 unfold mA at a |-;cases d:jp Y n with
 |some e=>
  rw[d]at a;simp only at a |-;have⟨f,g⟩:=Pe a
  grind
 |none=>
  grind [b6.Next.refl,absurd]
theorem hir(f:fZ N w s i p B A g I)(y:I+10<1099511627776)(hF:Flat A t g.ft)(j:fM A 5 t)(k:Good (fx rf++[nf]))(l:Good (fx rt++[h]))(m:t.at A (fx rt)=fh d)(n:kids A d=fh Y){o}(q:oT N w i o (Y.map lL))(b):
  ik 141 #[ie B.bt,fD<|jn (fx rf++[nf]),fD<|jn (fx rt++[h]),fD #[hh b,fY c.kind,fY c.id],o] w λr H=>r=fF (fY (mA A g.fs (decide (rf=rt)) Y h c).2)/\mG s i p B A N w H { g with fs:=(mA A g.fs (decide (rf=rt)) Y h c).1 } (I+1):=by
 unfold mA;cases u:jp Y h with
 |some e=>exact SZ f y hF j k l m n u q b
 |none=>
  have z:(16<=fv Y/\decide (rf=rt)=fo)↔(16<=fv Y/\fx rf≠fx rt):=by
   simp[List.reverse_inj]
  refine(Yp f hF j k l m n u q b c.kind c.id).mono λr H⟨a,v⟩=>?_;simp only[z];by_cases x:16<=fv Y/\fx rf≠fx rt;rw[if_pos x]at a |-;exact⟨a,v.mono<|Nat.le_succ _⟩;rw[if_neg x]at a |-;exact⟨a,v.mono<|Nat.le_succ _⟩
def uM (H:fq)(a:Nat)(b c d e f:fP):Prop:=H.cell? ⟨a,0,fj⟩=fh (fA b)/\H.cell? ⟨a,1,fj⟩=fh (fA c)/\H.cell? ⟨a,2,fj⟩=fh (fA d)/\H.cell? ⟨a,3,fj⟩=fh (fA e)/\H.cell? ⟨a,4,fj⟩=fh (fA f)
theorem uM.keep{b c d e f}(h:uM w a b c d e f)(i:∀g,H.c a g=w.c a g):uM H a b c d e f:=by
 unfold uM at h |-
 grind
def mj (H:fq)(a b:Nat)(s0 s1 s2 s3 Z d0 d1 d2 d3 d4:fP):Prop:=H.cell? ⟨a,0,fj⟩=fh (fA s0)/\H.cell? ⟨a,1,fj⟩=fh (fA s1)/\H.cell? ⟨a,2,fj⟩=fh (fA s2)/\H.cell? ⟨a,3,fj⟩=fh (fA s3)/\H.cell? ⟨a,4,fj⟩=fh (fA Z)/\H.cell? ⟨b,0,fj⟩=fh (fA d0)/\H.cell? ⟨b,1,fj⟩=fh (fA d1)/\H.cell? ⟨b,2,fj⟩=fh (fA d2)/\H.cell? ⟨b,3,fj⟩=fh (fA d3)/\H.cell? ⟨b,4,fj⟩=fh (fA d4)
def mj.keep(d:mj w a b s0 s1 s2 s3 Z d0 d1 d2 d3 d4)(e:∀c,H.c a c=w.c a c)(f:∀c,H.c b c=w.c b c):mj H a b s0 s1 s2 s3 Z d0 d1 d2 d3 d4:=by
 unfold mj at d |-;simp only[e,f];exact d
theorem mj.below(e:mj w a b s0 s1 s2 s3 Z d0 d1 d2 d3 d4)(d:ju w H)(f:a<w.heap.size)(g:b<w.heap.size):mj H a b s0 s1 s2 s3 Z d0 d1 d2 d3 d4:=
 e.keep (λc=>(kw d).1 a c f) λc=>(kw d).1 b c g
theorem JU(w:fq)(s0 s1 s2 s3 Z d0 d1 d2 d3 d4):mj ((w.k (ml s0 s1 s2 s3 Z) 147).k (ml d0 d1 d2 d3 d4) 147).drew w.heap.size (w.heap.size+1) s0 s1 s2 s3 Z d0 d1 d2 d3 d4/\w.heap.size<((w.k (ml s0 s1 s2 s3 Z) 147).k (ml d0 d1 d2 d3 d4) 147).drew.heap.size/\w.heap.size+1<((w.k (ml s0 s1 s2 s3 Z) 147).k (ml d0 d1 d2 d3 d4) 147).drew.heap.size/\ju w ((w.k (ml s0 s1 s2 s3 Z) 147).k (ml d0 d1 d2 d3 d4) 147).drew:=by
 refine⟨?_,by simp;omega,by simp,il<|((mi _ _).alloc (lw _) _).alloc (by simp) _⟩;have a:=Rq w (.cells (ml s0 s1 s2 s3 Z) 147)<|.cells (ml d0 d1 d2 d3 d4) 147;have b:=Ru w (.cells (ml s0 s1 s2 s3 Z) 147)<|.cells (ml d0 d1 d2 d3 d4) 147;have⟨_,c,d,e,f,g,_⟩:=tZ a;have⟨_,h,i,j,k,l,_⟩:=tZ b;exact⟨c,d,e,f,g,h,i,j,k,l⟩
def mj.kept(c:mj w a b s0 s1 s2 s3 Z d0 d1 d2 d3 d4)(k:sg N w H)(d:a<w.heap.size)(e:b<w.heap.size)(ta:N a=(0,0))(f:N b=(0,0)):mj H a b s0 s1 s2 s3 Z d0 d1 d2 d3 d4:=
 c.keep (k.2 a d ta) (k.2 b e f)
theorem mj.and(c:mj H a b s0 s1 s2 s3 Z d0 d1 d2 d3 d4){q:Prop}(d:q):H.c a 0=fh (hh s0)/\H.c a 1=fh (hh s1)/\H.c a 2=fh (hh s2)/\H.c a 3=fh (hh s3)/\H.c a 4=fh (hh Z)/\H.c b 0=fh (hh d0)/\H.c b 1=fh (hh d1)/\H.c b 2=fh (hh d2)/\H.c b 3=fh (hh d3)/\H.c b 4=fh (hh d4)/\q:=by
 have⟨e,f,g,h,i,j,k,l,m,n⟩:=c
 grind
def xH (H:fq)(a:Nat)(n:fP)(k id:Int):Prop:=H.cell? ⟨a,0,fj⟩=fh (fA n)/\H.cell? ⟨a,1,fj⟩=fh (.int .i64 k)/\H.cell? ⟨a,2,fj⟩=fh (.int .i64 id)
def xH.keep{k id:Int}(b:xH w a n k id)(d:∀c,H.c a c=w.c a c):xH H a n k id:=by
 unfold xH at b |-;simp only[d];exact b
def xH.of_block{k id:Int}{t:lV}(a:w.heap[b]?=fh (.cells #[hh n,fY k,fY id] t (0,0))):xH w b n k id:=
 ⟨by simp[World.cell?,a],by simp[World.cell?,a],by simp[World.cell?,a]⟩
def YB(w:fq)(n)(k id:Int):xH (w.k #[hh n,fY k,fY id] 96) w.heap.size n k id:=.of_block<|nX w _
theorem Pf{d c}{e}{f}(h:mj d a b s0 s1 s2 s3 Z d0 d1 d2 d3 d4)(j:a<d.heap.size)(k:b<d.heap.size)(ta:N a=(0,0))(l:N b=(0,0))(U:2<=i)(m:Left s i p B A N d c g e f I):
  c.c a 0=fh (hh s0)/\c.c a 1=fh (hh s1)/\c.c a 2=fh (hh s2)/\c.c a 3=fh (hh s3)/\c.c a 4=fh (hh Z)/\c.c b 0=fh (hh d0)/\c.c b 1=fh (hh d1)/\c.c b 2=fh (hh d2)/\c.c b 3=fh (hh d3)/\c.c b 4=fh (hh d4)/\c.c B.bt 8=fh (.map<|fh B.oD):=by
 have⟨q,r,n,o,_,_⟩:=m;exact(mj.kept h (sg.qm U n) j k ta l).and o.xG.2.2
theorem Pg(F:fZ N w s i p B A g I)(ew:I+1000<1099511627776)(hF:Flat A t g.ft)(bn:fM A 5 t)(P:Good (fx rf++[nf]))(G:Good (fx rt++[h])):
  ik 72 #[ie B.bt,fD<|jn (fx rf++[nf]),fD<|jn (fx rt++[h])] w λl H=>l=fF (fY (NE A t g.fs (nf::rf) (h::rt)).2.1)/\Left s i p B A N w H g (NE A t g.fs (nf::rf) (h::rt)).1 (NE A t g.fs (nf::rf) (h::rt)).2.2 (I+400):=by
 have bo:=F.st.sound;have U:=F.two;have ex:fv rf<=4:=by have:=P.len;simp at this;omega
 have ey:fv rt<=4:=by have:=G.len;simp at this;omega
 have J:=λk(bp:ju w k)=>xB (s:=s) (i:=i) (p:=p) (B:=B) (A:=A) (nf::rf) N k g I (F.below bp) (by omega) (by rw[kz];exact P);rw[kz]at J;have⟨f1,f2,f3⟩:=uo bo hF bn g.fs (nf::rf);simp only[f1,f2]at J;have d:NE A t g.fs (nf::rf) (h::rt)=if(ky A t g.fs (nf::rf)).2.1≠0 then((ky A t g.fs (nf::rf)).1,(ky A t g.fs (nf::rf)).2.1,t)else if(nf::rf).reverse <+: fx (h::rt)/\nf::rf≠h::rt then((ky A t g.fs (nf::rf)).1,9,t) else
   if(pw A t (ky A t g.fs (nf::rf)).1 rt).2.1≠0\/nf::rf=h::rt then((pw A t (ky A t g.fs (nf::rf)).1 rt).1,(pw A t (ky A t g.fs (nf::rf)).1 rt).2.1,t) else
   if(mA A (pw A t (ky A t g.fs (nf::rf)).1 rt).1 (decide (rf=rt)) (pw A t (ky A t g.fs (nf::rf)).1 rt).2.2 h (ky A t g.fs (nf::rf)).2.2).2≠0 then((mA A (pw A t (ky A t g.fs (nf::rf)).1 rt).1 (decide (rf=rt)) (pw A t (ky A t g.fs (nf::rf)).1 rt).2.2 h (ky A t g.fs (nf::rf)).2.2).1,(mA A (pw A t (ky A t g.fs (nf::rf)).1 rt).1 (decide (rf=rt)) (pw A t (ky A t g.fs (nf::rf)).1 rt).2.2 h (ky A t g.fs (nf::rf)).2.2).2,t) else
   if 5<((fv rt+1:Nat):Int)+kQ A 5 (ky A t g.fs (nf::rf)).2.2 then((mA A (pw A t (ky A t g.fs (nf::rf)).1 rt).1 (decide (rf=rt)) (pw A t (ky A t g.fs (nf::rf)).1 rt).2.2 h (ky A t g.fs (nf::rf)).2.2).1,11,t) else
   ((mA A (pw A t (ky A t g.fs (nf::rf)).1 rt).1 (decide (rf=rt)) (pw A t (ky A t g.fs (nf::rf)).1 rt).2.2 h (ky A t g.fs (nf::rf)).2.2).1,0,vy A (λY=>zr Y h (ky A t g.fs (nf::rf)).2.2) (fx rt)<|vy A (λY=>ra Y nf) (fx rf) t):=fX
 generalize NE A t g.fs (nf::rf) (h::rt)=ez at d |-;have bq:∀{dm:b6}{c:LT},ky A t g.fs (nf::rf)=(dm,0,c)->_:=λ{_ _}F=>Bz F
 generalize ky A t g.fs (nf::rf)=a at J f3 d bq;have⟨aq,br,c⟩:=a;simp only at J f3 d;generalize findF A g.ft g.fs (nf::rf)=dn at J f3;have⟨_,_,l,eA,eB⟩:=dn;simp only[List.headD_cons,vo]at J f3;have m:fe _:=d;have ar:∀k,(Op.equalIn 10000 147 (ln<|fx rf++[nf])<|ln []).run prog k=.ok fo k:=λk=>by
  have:=gX P Good.nil k
  rw[yv<|by simp]at this;exact this
 have au:∀k,(Op.equalIn 10000 147 (ln<|fx rt++[h])<|ln []).run prog k=.ok fo k:=λk=>by
  have:=gX G Good.nil k
  rw[yv<|by simp]at this;exact this
 have aP:∀k,(Op.equalIn 10000 147 (ln<|fx rf++[nf])<|ln (fx rt++[h])).run prog k=.ok (decide (fx rf++[nf]=fx rt++[h])) k:=λk=>gX P G k;have av:=λk=>QR k;have aQ:=λk=>JR (fx rt++[h]) (fx rf++[nf]) G P k;have aw:=λk=>jr (fx rt++[h]) G k;rw[wo]at aw;have aR:=λk=>nN (fx rt++[h]) G.val G.len k;have⟨s0,s1,s2,s3,Z,aS⟩:=sf<|fx rf++[nf];have⟨d0,d1,d2,d3,d4,aT⟩:=sf<|fx rt++[h];have⟨eC,eD,eE,eF,eG,bs⟩:=sf<|fx rt;unfold ln at av ar au aP aQ aw aR;simp only[aS,aT,bs]at ar au aP J aQ aw aR;rw[aS,aT];unfold jn at av ar au;simp only[tQ]at av ar au;have ac:fe _:=And.intro aS<|And.intro aT bs;have cc:fe _:=F;have z:fe _:=hF;have C:fe _:=bn;have cd:fe (Sound A):=bo;have hh0:fe _:=J;have dp:fe (∀{top:b6}{dq:LT},(aq,br,c)=(top,0,dq)->_):=bq;have dr:fe _:=f3;have Q:fe _:=And.intro P G;have ce:fe _:=aP;have cf:fe _:=aQ;have ds:fe _:=aw;have du:fe _:=aR;have⟨D,cg,ch,ci⟩:=JU w s0 s1 s2 s3 Z d0 d1 d2 d3 d4;have j:=mi ((w.k (ml s0 s1 s2 s3 Z) 147).k (ml d0 d1 d2 d3 d4) 147).drew.heap.size ((w.k (ml s0 s1 s2 s3 Z) 147).k (ml d0 d1 d2 d3 d4) 147).drew;have aU:fe _:=And.intro cg<|And.intro ch ci;clear F hF bn bo aS aT bs J bq P G d f1 f2 f3 aP aQ aw aR cg ch ci;go_enter func72,ntmps72;go_wp2
 go_region_held3 (λH=>H.c w.heap.size 0=fh (hh s0)/\H.c w.heap.size 1=fh (hh s1)/\H.c w.heap.size 2=fh (hh s2)/\H.c w.heap.size 3=fh (hh s3)/\H.c w.heap.size 4=fh (hh Z)/\H.c (w.heap.size+1) 0=fh (hh d0)/\H.c (w.heap.size+1) 1=fh (hh d1)/\H.c (w.heap.size+1) 2=fh (hh d2)/\H.c (w.heap.size+1) 3=fh (hh d3)/\H.c (w.heap.size+1) 4=fh (hh d4)) (first|exact D|exact bt) (first|(go_at_call 75;refine(av _).via λO dv=>?_;replace j:=gS j dv;have bt:=D.below j aU.o.1 aU.o.2.1))
 have cj:ju w O:=gS aU.o.2.2 j;have aV:w.heap.size+1<O.heap.size:=np aU.o.2.1 j.size;have ck:w.heap.size<O.heap.size:=MX aV;have t0:N w.heap.size=(0,0):=cc.o.st.fresh _<|lw _;have t1:N (w.heap.size+1)=(0,0):=cc.o.st.fresh _<|jh _;have dw:fe _:=bt;have⟨o,q,u,v,x,c0,c1,c2,c3,c4⟩:=bt;clear D j av ar au;go_wp2_with fail;refine Calls.via (hh0.o O cj) λf cl=>?_;have⟨aW,ax,cm⟩:=cl.o;have bu:=sg.qm U ax;have bv:fe _:=mj.kept dw.o bu ck aV t0 t1;have ay:w.heap.size+1<f.heap.size:=np aV bu.1;have cn:w.heap.size<f.heap.size:=MX ay;have cp:aW w.heap.size=(0,0):=(ax.tags _ ck).trans t0;have t13:aW (w.heap.size+1)=(0,0):=(ax.tags _ aV).trans t1;have bw:fe _:=mr cj ax;have aX:fe _:=cm;clear cl ax cm bu o q u v x c0 c1 c2 c3 c4;have⟨o,q,u,v,x,c0,c1,c2,c3,c4⟩:=bv.o;by_cases bx:br=0
 ·subst bx
  obtain⟨⟨rfl,rfl,rfl⟩,az⟩:=dr.o fX;have⟨E,K,cq,df,kf,cr,ct,cu⟩:=dp.o fX;have ad:fe _:=And.intro E<|And.intro cq (And.intro cr<|And.intro ct cu);clear az E K cq cr ct cu;obtain⟨ae,bz⟩:=ol c.kind;obtain⟨af,bA⟩:=ol c.id;rw[<-bz,<-bA];have ag:fe _:=And.intro bz bA;clear bz bA;have aA:=cf.o;clear cf;by_cases ah:fx rf++[l] <+: fx rt++[h]/\fx rt++[h]≠fx rf++[l]
  ·rw[qu ah]at aA
   go_wp2_with(go_at_call 140;refine Calls.via (aA _) λbB ai=>?_);go_ret;have d:=m.o;rw[km<|by simp,lv (by rw[kz,kz];exact⟨ah.1,λe=>ah.2 (by rw[Cc]at e;rw[e.1,e.2])⟩)]at d;subst d;have R:=gS ((mi f.heap.size f).alloc (lw _) _) ai;exact⟨fX,iB (bw.o.trans<|fI.fJ R) ((aX.o.below R).mono (by simp;omega)) z.o C.o⟩
  rw[yv ah]at aA;have cv:ju f (f.k #[hh l,fY ae,fY af] 96):=(mi f.heap.size f).alloc (lw _) _;have bC:f.heap.size<(f.k #[hh l,fY ae,fY af] 96).heap.size:=by simp
  have dx:fe _:=YB f l ae af;go_wp2_with(first
   |(go_at_call 140;refine Calls.via (aA _) λbB ai=>?_;have R:=gS cv ai;have dy:fe _:=mj.below bv.o R cn ay;have⟨dz,dA,dB,dC,dD,dE,dF,dG,dH,dI⟩:=dy.o;have eH:w.heap.size+1<bB.heap.size:=np ay R.size;have eI:f.heap.size<bB.heap.size:=np bC ai.size)
   |(go_at_call 132;refine Calls.via (ds.o _) λaY bD=>?_;have aB:=gS R bD))
  have bE:=gS ai bD;have dJ:fe _:=mj.below bv.o aB cn ay;have dK:fe _:=xH.keep dx.o λy=>(kw bE).1 f.heap.size y bC;have aZ:w.heap.size+1<aY.heap.size:=np ay aB.size;have cw:w.heap.size<aY.heap.size:=MX aZ;have bF:f.heap.size<aY.heap.size:=np bC bE.size;have t53:aW f.heap.size=(0,0):=aX.o.st.fresh _<|lw _;have aj:=uJ (s:=s) (i:=i) (p:=p) (B:=B) (A:=A) rt aW aY { g with fs:=aq } _ (aX.o.below aB) (by simp;omega) (by have:=Q.o.2.dropLast;rwa [wo]at this);rw[nI cd.o z.o C.o aq rt]at aj;rw[ac.o.2.2]at aj;have d:=m.o;rw[km<|by simp,km (by rw[kz,kz];exact λak=>ah ⟨ak.1,λe=>ak.2 (by have aC:=seg e fX;have bG:=List.append_inj_right' e fX;rw[cmd]at aC;rw[aC,hX1 bG|>.1])⟩)]at d;have bb:=qJ (A:=A) (t:=t) (fs:=aq) (r:=rt);generalize pw A t aq rt=dL at aj d bb;have⟨cx,cy,Y⟩:=dL;simp only at aj d bb;clear m;have m:fe _:=d;have dM:fe _:=aj;have dN:fe _:=bb;have dO:fe _:=bw.o.trans<|fI.fJ aB;clear d aj bb o q u v x c0 c1 c2 c3 c4 dz dA dB dC dD dE dF dG dH dI ai bD bE R cv aA aB;apply RK dM.o;rintro e bc ⟨dP,rfl,bd,aD,cz,bH⟩;have bI:=aD.mono λ_ F=>F.mine;have aE:=sg.qm U bI;have cA:fe _:=mj.kept dJ.o aE cw aZ cp t13;have cC:fe _:=xH.keep dK.o<|aE.2 _ bF t53;have be:w.heap.size+1<bc.heap.size:=np aZ aE.1;have cD:w.heap.size<bc.heap.size:=MX be;have bJ:f.heap.size<bc.heap.size:=np bF aE.1;have cE:bd w.heap.size=(0,0):=(aD.tags _ cw).trans cp;have t16:bd (w.heap.size+1)=(0,0):=(aD.tags _ aZ).trans t13;have cF:bd f.heap.size=(0,0):=(aD.tags _ bF).trans t53;have bK:fe _:=dO.o.trans bI;have bL:fe _:=cz;have dQ:fe (oT bd bc i dP<|Y.map lL):=bH;obtain⟨eJ,eK,rfl⟩:=bH.len;clear aD bI aE cz bH;have⟨o,q,u,v,x,c0,c1,c2,c3,c4⟩:=cA.o;have⟨S,E,K⟩:=cC.o;by_cases bM:cy=0
  ·subst bM
   have⟨⟨dt,az,bN⟩,cG,cH⟩:=dN.o fX;have bO:=ce.o;clear ce;by_cases al:fx rf++[l]=fx rt++[h]
   ·rw[qu al]at bO
    go_wp2;go_ret;have d:=m.o;have aC:=seg al fX;have bG:=List.append_inj_right' al fX;rw[cmd]at aC;rw[lv<|.inr (by rw[aC,(hX1 bG).1])]at d;subst d;exact⟨fX,iB bK.o (bL.o.mono (by simp;omega)) z.o C.o⟩
   rw[yv al]at bO;have bQ:=hir (c:=c) bL.o (by simp;omega) z.o C.o Q.o.1 Q.o.2 az bN dQ.o l;rw[ac.o.1,ac.o.2.1,<-ag.o.1,<-ag.o.2,oI]at bQ;have d:=m.o;rw[km (by simp;exact λdR dS=>al (by rw[dR,dS]))]at d;have bf:=YA (A:=A) (fs:=cx) (b:=decide (rf=rt)) (Y:=Y) (n:=h) (c:=c);have aF:=bQ;clear bQ;simp only at aF;generalize mA A cx (decide (rf=rt)) Y h c=V at aF d bf;have⟨eL,cI⟩:=V;simp only at aF d bf;clear m;have m:fe _:=d;have dT:fe _:=aF;have dU:fe _:=bf;have bg:fe _:=And.intro az<|And.intro bN (And.intro cG cH);clear d aF bf az bN cG cH;go_wp2_with fail;refine Calls.via dT.o λL cJ=>?_
   have⟨bR,am,cK⟩:=cJ.o;have aG:=sg.qm U am;have T:fe _:=mj.kept cA.o aG cD be cE t16;have W:fe _:=xH.keep cC.o<|aG.2 _ bJ cF;have X:w.heap.size+1<L.heap.size:=np be aG.1;have aH:w.heap.size<L.heap.size:=MX X;have an:f.heap.size<L.heap.size:=np bJ aG.1;have aI:bR w.heap.size=(0,0):=(am.tags _ cD).trans cE;have t17:bR (w.heap.size+1)=(0,0):=(am.tags _ be).trans t16;have dV:bR f.heap.size=(0,0):=(am.tags _ bJ).trans cF;have bS:fe _:=bK.o.trans am;have aJ:fe _:=cK;clear cJ am cK aG o q u v x c0 c1 c2 c3 c4 S E K bO;by_cases bT:cI=0
   ·subst bT
    have⟨bU,cL,cN⟩:=dU.o fX;have bV:=(tA cd.o _ C.o ad.o.1).2.1;have cO:=yy aJ.o.st.gy 5 c;have cQ:=Aa (5-fv (fx rf++[l])) 5 c (Nat.sub_le _ _) bV;have cS:fv (fx rf++[l])+(5-fv (fx rf++[l]))<=5:=by have:=Q.o.1.len;omega
    have bh:=Tl aJ.o z.o (5-fv (fx rf++[l])) c (fx rf++[l]) (Nat.sub_le _ _) bV ad.o.1 Q.o.1 cS l;rw[<-cQ,ac.o.1,<-ag.o.1,<-ag.o.2]at bh;have bi:=du.o;have cT:(fv (fx rt++[h]):Int)=((fv rt+1:Nat):Int):=by simp
    rw[cT]at bi;have d:=m.o;rw[km<|by simp]at d;clear m;have ao:=λk(bp:ju L k)(ak:((fv rt+1:Nat):Int)+kQ A 5 c<=5)=>LQ (aJ.o.below bp) (by simp;omega) z.o C.o Q.o.1 Q.o.2 ad.o.2.2.1 ad.o.2.2.2.1 ad.o.2.2.2.2 bg.o.1 bg.o.2.1 ((ad.o.2.1.mono bg.o.2.2.1.2.2.2.2).mono bU.2.2.2.2) (bg.o.2.2.2.mono bU.2.2.2.2) (λdW=>by
     by_cases e:fx rt++[h]=fx rf++[l];exact al e.symm;exact ah ⟨dW,e⟩) cL (λdX=>(cN dX).imp id λe=>by rw[BZ e]) (by rw[Hv];exact ak) l
    rw[ac.o.1,ac.o.2.1,<-ag.o.1,<-ag.o.2]at ao;have aK:fe _:=And.intro d ao;clear d ao cL cN bU bV cQ cS cT;generalize kQ A 5 c=bW at bh cO aK;generalize cU:((fv rt+1:Nat):Int)=aL at bi aK;have dY:1<=aL/\aL<=5:=by omega
    have eM:fe _:=cU;clear cU;have⟨eN,eO⟩:=cO;have⟨eP,eQ⟩:=dY;have eR:IntKind.i64.wrap (aL+bW)=aL+bW:=by rw[Cb]<;>omega
    have tFn:fe _:=bh;have bX:fe _:=bi;clear bh bi;have D:mj L.drew w.heap.size (w.heap.size+1) s0 s1 s2 s3 Z d0 d1 d2 d3 d4:=T.o;have bY:xH L.drew f.heap.size l ae af:=W.o;have j:ju L L.drew:=il<|mi _ _;have⟨o,q,u,v,x,c0,c1,c2,c3,c4⟩:=T.o;have⟨S,E,K⟩:=W.o;by_cases ak:5<aL+bW
    ·go_wp2
     go_region_held3 (λH=>H.c w.heap.size 0=fh (hh s0)/\H.c w.heap.size 1=fh (hh s1)/\H.c w.heap.size 2=fh (hh s2)/\H.c w.heap.size 3=fh (hh s3)/\H.c w.heap.size 4=fh (hh Z)/\H.c (w.heap.size+1) 0=fh (hh d0)/\H.c (w.heap.size+1) 1=fh (hh d1)/\H.c (w.heap.size+1) 2=fh (hh d2)/\H.c (w.heap.size+1) 3=fh (hh d3)/\H.c (w.heap.size+1) 4=fh (hh d4)/\H.c f.heap.size 0=fh (hh l)/\H.c f.heap.size 1=fh (fY ae)/\H.c f.heap.size 2=fh (fY af)) (first|exact D.and bY|exact bj|exact bk) (first
      |(go_at_call 142;refine(bX.o _).via λdZ bl=>?_;replace j:=gS j bl;have bj:=(mj.below T.o j aH X).and (xH.keep W.o λy=>(kw j).1 f.heap.size y an))
      |(go_at_call 143;refine(tFn.o _ j).via λaM bm=>?_;replace j:=gS j bm;have bk:=(mj.below T.o j aH X).and (xH.keep W.o λy=>(kw j).1 f.heap.size y an)))
     go_wp2;go_ret;have d:=aK.o.1;rw[lv ak]at d;subst d;exact⟨fX,iB (bS.o.trans<|fI.fJ j) ((aJ.o.below j).mono (by simp;omega)) z.o C.o⟩
    go_wp2
    go_region_held3 (λH=>H.c w.heap.size 0=fh (hh s0)/\H.c w.heap.size 1=fh (hh s1)/\H.c w.heap.size 2=fh (hh s2)/\H.c w.heap.size 3=fh (hh s3)/\H.c w.heap.size 4=fh (hh Z)/\H.c (w.heap.size+1) 0=fh (hh d0)/\H.c (w.heap.size+1) 1=fh (hh d1)/\H.c (w.heap.size+1) 2=fh (hh d2)/\H.c (w.heap.size+1) 3=fh (hh d3)/\H.c (w.heap.size+1) 4=fh (hh d4)/\H.c f.heap.size 0=fh (hh l)/\H.c f.heap.size 1=fh (fY ae)/\H.c f.heap.size 2=fh (fY af)) (first|exact D.and bY|exact bj|exact bk) (first
     |(go_at_call 142;refine(bX.o _).via λdZ bl=>?_;replace j:=gS j bl;have bj:=(mj.below T.o j aH X).and (xH.keep W.o λy=>(kw j).1 f.heap.size y an))
     |(go_at_call 143;refine(tFn.o _ j).via λaM bm=>?_;replace j:=gS j bm;have bk:=(mj.below T.o j aH X).and (xH.keep W.o λy=>(kw j).1 f.heap.size y an)))
    have⟨d,ao⟩:=aK.o;rw[km<|by omega]at d;have m:fe _:=d;have cV:=ao aM j (by omega);have cW:fe _:=cV;have ap:fe _:=mj.below T.o j aH X;have cX:fe _:=xH.keep W.o λy=>(kw j).1 f.heap.size y an;have ea:fe _:=bS.o.trans<|fI.fJ j;have M:w.heap.size+1<aM.heap.size:=np X j.size;have aN:w.heap.size<aM.heap.size:=MX M;have cY:f.heap.size<aM.heap.size:=np an j.size;clear d ao cV aK j bj bk D bY o q u v x c0 c1 c2 c3 c4 S E K bl bm tFn bX;have⟨o,q,u,v,x,c0,c1,c2,c3,c4⟩:=ap.o;have⟨S,E,K⟩:=cX.o;go_wp2_with fail;refine Calls.via cW.o λcZ⟨aO,da⟩=>?_;have eb:fe _:=mj.kept ap.o aO aN M aI t17;have ec:fe _:=xH.keep cX.o<|aO.2 _ cY dV;have db:fe _:=da;have eS:w.heap.size+1<cZ.heap.size:=np M aO.1;have eT:f.heap.size<cZ.heap.size:=np cY aO.1;clear o q u v x c0 c1 c2 c3 c4 S E K da aO cW;have⟨o,q,u,v,x,c0,c1,c2,c3,c4⟩:=eb.o;have⟨S,E,K⟩:=ec.o;go_wp2_with fail;refine Calls.via db.o λaa⟨bZ,dc⟩=>?_;have dd:fe (mj aa w.heap.size (w.heap.size+1) s0 s1 s2 s3 Z d0 d1 d2 d3 d4):=mj.kept ap.o bZ aN M aI t17;have⟨ed,⟨de,t7,_⟩,dg⟩:=dc aa.drew<|il (mi _ _);have ee:fe _:=dg;have D:mj aa.drew w.heap.size (w.heap.size+1) s0 s1 s2 s3 Z d0 d1 d2 d3 d4:=dd.o;have dh:aa.drew.c B.bt 7=fh (.map<|fh B.oF):=t7;clear o q u v x c0 c1 c2 c3 c4 S E K dc dg ed db;have⟨o,q,u,v,x,c0,c1,c2,c3,c4⟩:=dd.o;have ef:aa.c B.bt 7=fh (.map<|fh B.oF):=t7;have eg:B.bt<aa.heap.size:=de;have eU:w.heap.size+1<aa.heap.size:=np M bZ.1;clear bZ;go_wp2
    go_region_held3 (λH=>H.c w.heap.size 0=fh (hh s0)/\H.c w.heap.size 1=fh (hh s1)/\H.c w.heap.size 2=fh (hh s2)/\H.c w.heap.size 3=fh (hh s3)/\H.c w.heap.size 4=fh (hh Z)/\H.c (w.heap.size+1) 0=fh (hh d0)/\H.c (w.heap.size+1) 1=fh (hh d1)/\H.c (w.heap.size+1) 2=fh (hh d2)/\H.c (w.heap.size+1) 3=fh (hh d3)/\H.c (w.heap.size+1) 4=fh (hh d4)/\H.c B.bt 7=fh (.map<|fh B.oF)) (first|exact D.and dh|exact di) (first
     |(go_at_call 144;refine Calls.via ee.o λab ca=>?_;have⟨eh,⟨eV,ei,_⟩,_⟩:=ca ab<|mi _ _;have di:=(mj.kept ap.o eh aN M aI t17).and ei;have ej:fe _:=ca;clear ca))
    have⟨dj,⟨ek,_,t8⟩,dk⟩:=ej.o ab.drew<|il (mi _ _);have el:fe _:=dk;have dl:mj ab.drew w.heap.size (w.heap.size+1) s0 s1 s2 s3 Z d0 d1 d2 d3 d4:=mj.kept ap.o dj aN M aI t17;have em:fe (mj ab w.heap.size (w.heap.size+1) s0 s1 s2 s3 Z d0 d1 d2 d3 d4):=dl;have en:ab.drew.c B.bt 8=fh (.map<|fh B.oD):=t8;have eW:ab.c B.bt 8=fh (.map<|fh B.oD):=t8;have eX:B.bt<ab.heap.size:=ek;clear o q u v x c0 c1 c2 c3 c4 t7 ef eg de D dh di dk dj;have⟨o,q,u,v,x,c0,c1,c2,c3,c4⟩:=em.o;go_wp2
    go_region_held3 (λH=>H.c w.heap.size 0=fh (hh s0)/\H.c w.heap.size 1=fh (hh s1)/\H.c w.heap.size 2=fh (hh s2)/\H.c w.heap.size 3=fh (hh s3)/\H.c w.heap.size 4=fh (hh Z)/\H.c (w.heap.size+1) 0=fh (hh d0)/\H.c (w.heap.size+1) 1=fh (hh d1)/\H.c (w.heap.size+1) 2=fh (hh d2)/\H.c (w.heap.size+1) 3=fh (hh d3)/\H.c (w.heap.size+1) 4=fh (hh d4)/\H.c B.bt 8=fh (.map<|fh B.oD)) (first|exact dl.and en|exact eo) (first
     |(go_at_call 145;refine Calls.via el.o λeY cb=>?_;have eo:=Pf ap.o aN M aI t17 U cb;have ep:fe _:=cb;clear cb))
    go_wp2;go_ret;have d:=m.o;subst d;refine⟨fX,?_⟩;have⟨eq,er,es,et,eu,ev⟩:=ep.o;exact⟨eq,er,ea.o.trans es,et.mono (by simp;omega),eu,ev⟩
   have eZ:(cI==0)=fo:=by simpa using bT
   go_wp2;go_ret;have d:=m.o;rw[lv bT]at d;subst d;exact⟨fX,iB bS.o (aJ.o.mono (by simp;omega)) z.o C.o⟩
  have fa:(cy==0)=fo:=by simpa using bM
  go_wp2;go_ret;have d:=m.o;rw[lv<|.inl bM]at d;subst d;exact⟨fX,iB bK.o (bL.o.mono (by simp;omega)) z.o C.o⟩
 have fb:(br==0)=fo:=by simpa using bx
 go_wp2;go_ret;have d:=m.o;rw[lv bx]at d;subst d;exact⟨fX,iB (bw.o.trans<|fI.fJ ((mi f.heap.size f).alloc (lw _) _)) ((aX.o.below<|(mi f.heap.size f).alloc (lw _) _).mono (by simp;omega)) z.o C.o⟩
def pC {a:Type}(f:Nat->a)(k:Nat)(b:a):Nat->a:=λx=>if x=k then b else f x
theorem ld{a:Type}(f:Nat->a)(k)(b:a):pC f k b k=b:=by unfold pC;rw[lv fX]
theorem kx{a:Type}{f:Nat->a}{k x:Nat}(b:x≠k)(c:a):pC f k c x=f x:=by unfold pC;rw[km b]
def wE (A:List Ob)(a:Nat->Option (Int×fP)):Prop:=∀f id d,a f=fh (id,d)->id≠0->fK A id=1
def YC(a):(convert 204 9<|fy fj 0 0).run prog a=.ok (hh kq) a:=by kernel_rfl
theorem ri(h:fZ N w s i p B A g I)(m:I<1099511627776)(n:wE A g.fl)(j:g.fl f=fh x):
  ik 181 #[ie f] w λe H=>e=pD #[hh (Hn A g.fl g.fs f).2.2,fY (Hn A g.fl g.fs f).2.1]/\mG s i p B A N w H { g with fs:=(Hn A g.fl g.fs f).1 } (I+1):=by
 have⟨id,d⟩:=x;have⟨o,a,q⟩:=h.wp.files f id d j;have k:Hn A g.fl g.fs f=if id=0 then(g.fs,0,d)else if(g.fs.gP id).2 then((g.fs.gP id).1,0,bytesOf A id) else((g.fs.gP id).1,14,kq):=by
  grind [Hn]
 have c1:w.c f 1=fh (fY id):=by simp[World.cell?,a]
 by_cases hid:id=0;rw[k,lv hid];subst hid;have c2:w.c f 2=fh (hh d):=by simp[World.cell?,a]
 exact(JC f d w c1 c2).mono λe H⟨b,c⟩=>⟨b,by rw[c];exact qZ (h.mono<|jh _)<|mi _ _⟩;rw[k,km hid];have c0:w.c f 0=fh (ie B.sF):=by simp[World.cell?,a,hid]
 have l:ju w w.drew:=il<|mi _ _;refine(XS f B.sF id (if(g.fs.gP id).2 then 0 else 14) (if(g.fs.gP id).2 then bytesOf A id else kq) (λH=>mG s i p B A N w H { g with fs:=(g.fs.gP id).1 }<|I+1) w ((lW.1 a).1) c0 c1 hid ((hdb (h.below l) m<|n f id d j hid).mono λe H⟨b,c⟩=>⟨b,mG.via l c⟩)).mono λe H⟨b,c⟩=>?_
 grind
theorem Iu{x y z:fu}{t:lV}(a:w.heap[f]?=fh (.cells #[x,y,z] t (0,0)))(d):(mY w f d).heap[f]?=fh (.cells #[fB fj,fY 0,hh d] t (0,0)):=by
 unfold mY;have b:=col _ f 1 _ t (fY 0)<|col w f 0 _ t (fB fj) a;have c:=col _ f 2 _ t (hh d) b
 grind
theorem zl(w:fq)(f)(d):w.grownBy (mY w f d) (fh f):=by
 grind [mY,sk,Ha]
def LR(w)(f)(d):(mY w f d).heap.size=w.heap.size:=by unfold mY;simp
theorem fZ.Gd(j:fZ N w s i p B A g I)(z:g.fl f=fh x){d:fP}(O:d.size<=256):
  fI (λt=>t=(i,6)) N N w (mY w f d)/\fZ N (mY w f d) s i p B A { g with fl:=pC g.fl f (fh (0,d)) } I:=by
 have⟨id,d0⟩:=x;have⟨C,_⟩:=j.wp.files f id d0 z;have m:fI (λt=>t=(i,6)) N N w (mY w f d):=QP (zl w f d) (LR w f d) C;have c:=j.wp;have r:∀a,(∃x,g.fl a=fh x)->∃x,pC g.fl f (fh (0,d)) a=fh x:=λa⟨x,D⟩=>by
  by_cases e:a=f;subst e;exact⟨_,ld _ _ _⟩;exact⟨x,by rw[kx e];exact D⟩
 refine⟨m,j.two,j.st.moves m (λe=>by cases e) (λe=>by cases e),⟨c.tree.moves m (λe=>by cases e),c.nP.moves m (λe=>by cases e),c.nQ.moves m (λe=>by cases e),c.tY.moves m (λe=>by cases e),?_,λa u v E=>?_,λq a F=>r a<|c.held q a F,?_,c.ok⟩⟩;have⟨J,G⟩:=c.qj;exact⟨J,G.moves m λe=>by cases e⟩;by_cases e:a=f
 grind [pC,ld,Iu]
 have y:pC g.fl f (fh (0,d)) a=fh (u,v):=E;rw[kx e]at y;have⟨n,l,o⟩:=c.files a u v y;refine⟨n,?_,o⟩;rw[(zl w f d).block a (lW.1 l).1 λH=>e (by cases H;rfl)];exact l;have h:=c.opens.moves m (λe=>by cases e) (λe=>by cases e);exact⟨h.tw,h.hw,h.past,λk b a fg K L=>by
  have⟨n,l,o,M⟩:=h.at_ k b a fg K L;exact⟨n,l,r a o,M⟩,h.inj⟩
theorem CI(b:fZ N w s i p B A g I)(c:g.fl f=fh x):
  ik 179 #[ie f] w λe H=>e=pD #[]/\fI (λt=>t=(i,6)) N N w H/\fZ N H s i p B A { g with fl:=pC g.fl f (fh (0,kq)) } I:=by
 have⟨id,d0⟩:=x;have⟨j,a,_⟩:=b.wp.files f id d0 c;refine(SG f _ _ _ w (lW.1 a).1 (by simp[World.cell?,a];rfl) (by simp[World.cell?,a];rfl) (by simp[World.cell?,a];rfl) (λk=>by simp[World.frozen?,a])<|YC w).mono λe H⟨d,h⟩=>⟨d,?_⟩;rw[h];exact b.Gd c (by simp[ByteArray.size])
theorem JV{d:Nat×Nat->Prop}(c)(t):fI d N (kY N w.heap.size t) w (w.alloc c):=by
 have a:ju w (w.alloc c):=(mi _ _).alloc (lw _) _;refine⟨a.os,a.tape,a.output,a.size,λk b=>xv (by omega) _,λk b _=>a.block k b,λe k b=>?_⟩;rw[zw]at b;rw[xv<|by omega];exact e k<|by omega
theorem fZ.Ph(d:fZ N w s i p B A g I)(id:Int):
  fI (λ_=>False) N (kY N w.heap.size (i,6)) w (w.k #[fB<|if id=0 then fj else fh (ii B.sF 0),fY id,hh kq] 308)/\
  fZ (kY N w.heap.size (i,6)) (w.k #[fB<|if id=0 then fj else fh (ii B.sF 0),fY id,hh kq] 308) s i p B A { g with fl:=pC g.fl w.heap.size (fh (id,kq)) } I:=by
 have m:fI (λ_=>False) N (kY N w.heap.size (i,6)) w (w.k #[fB<|if id=0 then fj else fh (ii B.sF 0),fY id,hh kq] 308):=JV _ _;have f:=d.wp;have c:=f.moves m λ_ x=>x;have h:∀a,(∃x,g.fl a=fh x)->∃x,pC g.fl w.heap.size (fh (id,kq)) a=fh x:=λa⟨x,o⟩=>by
  by_cases e:a=w.heap.size;subst e;exact⟨_,ld _ _ _⟩;exact⟨x,by rw[kx e];exact o⟩
 refine⟨m,d.two,d.st.moves m (λx=>x) λx=>x,⟨c.tree,c.nP,c.nQ,c.tY,c.qj,λa j l r=>?_,λq a t=>h a<|f.held q a t,⟨c.opens.tw,c.opens.hw,c.opens.past,λk b a fg u v=>?_,c.opens.inj⟩,c.ok⟩⟩;by_cases e:a=w.heap.size
 grind [pC,ByteArray,ld,nu,heap_alloc_new,ByteArray.size]
 have n:pC g.fl w.heap.size (fh (id,kq)) a=fh (j,l):=r;rw[kx e]at n;exact c.files a j l n;obtain⟨y,z,C,D⟩:=c.opens.at_ k b a fg u v;exact⟨y,z,h a C,D⟩
theorem fZ.JW(b:fZ N w s i p B A g I)(z:I<maxLen)(k:Good q)(C:g.fl f=fh x):
  ∃H,(Instr.mapUpdate 161 (.map<|fh B.oF) (fD<|jn q)<|ie f).run prog w=.ok () H/\fI (λt=>t=(i,4)) N N w H/\fZ N H s i p B A { g with ft:={ g.ft with of:=upd g.ft.of q (fh f) } } (I+1):=by
 obtain⟨d,⟨n,D,l⟩,E⟩:=b.wp.tY;obtain⟨H,o,r,u,v⟩:=l.store k (by omega) underlying161<|ie f;have m:fI (λt=>t=(i,4)) N N w H:=QP u v d;have a:=(b.mono<|jh I).wp;obtain⟨J,y⟩:=a.qj;refine⟨H,o,m,b.two,(b.st.mono<|jh I).moves m (λe=>by cases e) (λe=>by cases e),⟨a.tree.moves m (λe=>by cases e),a.nP.moves m (λe=>by cases e),a.nQ.moves m (λe=>by cases e),⟨d,⟨n+1,by omega,r.congr λx c=>?_⟩,λx f c=>?_⟩,⟨J,y.moves m λe=>by cases e⟩,a.files.moves m (λe=>by cases e),λx h c=>?_,a.opens.moves m (λe=>by cases e) (λe=>by cases e),⟨a.ok.root,a.ok.od⟩⟩⟩
 grind [upd,ptr,Option.map,upd_same,kh]
 grind [upd,kh]
 by_cases e:x=q
 grind [upd,upd_same]
 have j:upd g.ft.of q _ x=fh h:=c;rw[kh e]at j;exact a.held x h j
def Ds(a:k<8):k=0\/k=1\/k=2\/k=3\/k=4\/k=5\/k=6\/k=7:=by omega
theorem yw.tab{b}(c:yw N w i B b op):nO w B.wb (λk=>(op k).map (·.1))/\w.c B.wb 0=fh (ptr B.bt):=by
 have a:=c.hw;refine⟨⟨(lW.1 a).1,λk d=>?_,λe=>by simp[World.frozen?,a]⟩,by simp[World.cell?,a]⟩;rcases Ds d with rfl|rfl|rfl|rfl|rfl|rfl|rfl|rfl<;>simp[World.cell?,a,Bn,Function.comp_def]
def VH{b:Nat}{x:fu}{t:lV}(c:w.heap[b]?=fh (.cells #[x,Bn<|op 0,Bn<|op 1,Bn<|op 2,Bn<|op 3,Bn<|op 4,Bn<|op 5,Bn<|op 6,Bn<|op 7] t (0,0)))(d:k<8)(a:Option (Nat×Nat×Int×Int)):
  (w.setCell (ii b<|1+k)<|Bn a).heap[b]?=fh (.cells #[x,Bn<|pC op k a 0,Bn<|pC op k a 1,Bn<|pC op k a 2,Bn<|pC op k a 3,Bn<|pC op k a 4,Bn<|pC op k a 5,Bn<|pC op k a 6,Bn<|pC op k a 7] t (0,0)):=by
 rw[col w b (1+k) _ t (Bn a) c];rcases Ds d with rfl|rfl|rfl|rfl|rfl|rfl|rfl|rfl<;>simp[pC]
theorem fZ.close(h:fZ N w s i p B A g I)(n:k<8):
  fI (λt=>t=(i,0)) N N w (w.setCell (ii B.wb<|1+k)<|fB fj)/\fZ N (w.setCell (ii B.wb<|1+k)<|fB fj) s i p B A { g with op:=pC g.op k fj } I:=by
 have U:=h.two;have a:=h.wp;have o:w.grownBy (w.setCell (ii B.wb<|1+k)<|fB fj) (fh B.wb):=sk<|Ha w _;have m:fI (λt=>t=(i,0)) N N w (w.setCell (ii B.wb<|1+k)<|fB fj):=QP o (by simp) a.opens.tw;have j:∀c x,pC g.op k fj c=fh x->c≠k/\g.op c=fh x:=λc x d=>by
  by_cases e:c=k;subst e;rw[ld]at d;cases d;rw[kx e]at d;exact⟨e,d⟩
 obtain⟨J,q⟩:=a.qj;refine⟨m,h.two,h.st.moves m (λe=>by cases e;omega) (λe=>by cases e),⟨a.tree.moves m (λe=>by cases e),a.nP.moves m (λe=>by cases e),a.nQ.moves m (λe=>by cases e),a.tY.moves m (λe=>by cases e),⟨J,q.moves m λe=>by cases e⟩,a.files.moves m (λe=>by cases e),a.held,⟨a.opens.tw,VH a.opens.hw n fj,λc d=>?_,λc b f fg r d=>?_,λc l x y d u e=>a.opens.inj c l x y (j c x d).2 (j l y u).2 e⟩,a.ok⟩⟩;show pC g.op k fj c=fj;rw[kx<|by omega];exact a.opens.past c d;obtain⟨e,v⟩:=j c _ d;obtain⟨z,C,D⟩:=a.opens.at_ c b f fg r v;obtain⟨E,F⟩:=m.at C z (λe=>by cases e)
 grind
theorem fZ.place(q:fZ N w s i p B A g I){fg F VI:Int}(h:g.op k=fh (b,f,fg,F))(L:0<=VI)(M:VI<=256):
  fI (λt=>t=(i,7)) N N w (w.setCell (ii b 2)<|fY VI)/\fZ N (w.setCell (ii b 2)<|fY VI) s i p B A { g with op:=pC g.op k (fh (b,f,fg,VI)) } I:=by
 have c:=q.wp;obtain⟨G,O,P,Q,R,_⟩:=c.opens.at_ k b f fg F h;have H:w.grownBy (w.setCell (ii b 2)<|fY VI) (fh b):=sk<|Ha w _;have m:fI (λt=>t=(i,7)) N N w (w.setCell (ii b 2)<|fY VI):=QP H (by simp) G;obtain⟨J,S⟩:=c.qj;have X:∀a,Bn (pC g.op k (fh (b,f,fg,VI)) a)=Bn (g.op a):=λa=>by
  by_cases e:a=k;subst e;rw[ld,h];rfl;rw[kx e]
 have Y:=(m.at c.opens.hw c.opens.tw λe=>by cases e).1;refine⟨m,q.two,q.st.moves m (λe=>by cases e) (λe=>by cases e),⟨c.tree.moves m (λe=>by cases e),c.nP.moves m (λe=>by cases e),c.nQ.moves m (λe=>by cases e),c.tY.moves m (λe=>by cases e),⟨J,S.moves m λe=>by cases e⟩,c.files.moves m (λe=>by cases e),c.held,⟨c.opens.tw,?_,λa d=>?_,λa n r u v d=>?_,λa l x y d T e=>?_⟩,c.ok⟩⟩
 grind
 show pC g.op k _ a=fj;have z:a≠k:=λe=>by rw[<-e,c.opens.past a d]at h;cases h
 rw[kx z];exact c.opens.past a d;by_cases e:a=k;subst e;have j:pC g.op a (fh (b,f,fg,VI)) a=fh (n,r,u,v):=d;rw[ld]at j;cases j;refine⟨G,?_,P,Q,R,L,M⟩
 have:=col w b 2 _ 277 (fY VI) O
 grind
 have j:pC g.op k _ a=fh (n,r,u,v):=d;rw[kx e]at j;obtain⟨C,D,U⟩:=c.opens.at_ a n r u v j;refine⟨C,?_,U⟩;have z:n≠b:=λE=>e<|c.opens.inj a k _ _ j h E;rw[H.block n (lW.1 D).1 λE=>z (by cases E;rfl)];exact D;have K:∀a x,pC g.op k (fh (b,f,fg,VI)) a=fh x->∃o,g.op a=fh o/\o.1=x.1:=λa x d=>by
  by_cases e:a=k;subst e;rw[ld]at d;cases d;exact⟨_,h,fX⟩;rw[kx e]at d;exact⟨x,d,fX⟩
 obtain⟨o,C,D⟩:=K a x d;obtain⟨V,W,Z⟩:=K l y T;exact c.opens.inj a l o V C W<|by omega
theorem fZ.aaq(o:fZ N w s i p B A g I)(D:k<8)(E:g.fl f=fh x)(F:0<=fg)(G:fg<64):
  fI (λt=>t=(i,0)) N (kY N w.heap.size (i,7)) w ((w.setCell (ii B.wb<|1+k)<|ie w.heap.size).k #[ie f,fY fg,fY 0] 277)/\
  fZ (kY N w.heap.size (i,7)) ((w.setCell (ii B.wb<|1+k)<|ie w.heap.size).k #[ie f,fY fg,fY 0] 277) s i p B A { g with op:=pC g.op k (fh (w.heap.size,f,fg,0)) } I:=by
 have U:=o.two;have b:=o.wp;have H:w.grownBy (w.setCell (ii B.wb<|1+k)<|ie w.heap.size) (fh B.wb):=sk<|Ha w _;have K:(w.setCell (ii B.wb<|1+k)<|ie w.heap.size).heap.size=w.heap.size:=by simp
 have L:fI (λt=>t=(i,0)) N N w (w.setCell (ii B.wb<|1+k)<|ie w.heap.size):=QP H K b.opens.tw;have M:fI (λt=>t=(i,0)) N (kY N w.heap.size (i,7)) (w.setCell (ii B.wb<|1+k)<|ie w.heap.size) ((w.setCell (ii B.wb<|1+k)<|ie w.heap.size).k #[ie f,fY fg,fY 0] 277):=by
  grind [JV]
 have m:=L.trans M;have O:((w.setCell (ii B.wb<|1+k)<|ie w.heap.size).k #[ie f,fY fg,fY 0] 277).heap[w.heap.size]?=fh (.cells #[ie f,fY fg,fY 0] 277 (0,0)):=by
  grind [nX]
 have P:=(lW.1 b.opens.hw).1;obtain⟨J,Q⟩:=b.qj;have V:∀a x,g.op a=fh x->x.1<w.heap.size:=λa x c=>by
  obtain⟨d,h,j,R⟩:=x;exact(lW.1 (b.opens.at_ a d h j R c).2.1).1
 refine⟨m,o.two,o.st.moves m (λe=>by cases e;omega) (λe=>by cases e),⟨b.tree.moves m (λe=>by cases e),b.nP.moves m (λe=>by cases e),b.nQ.moves m (λe=>by cases e),b.tY.moves m (λe=>by cases e),⟨J,Q.moves m λe=>by cases e⟩,b.files.moves m (λe=>by cases e),b.held,⟨?_,?_,λa c=>?_,λa d h j u c=>?_,λa l x y c S e=>?_⟩,b.ok⟩⟩;exact(m.tags _ P).trans b.opens.tw;have T:=VH b.opens.hw D<|fh (w.heap.size,f,fg,0);rw[<-T];exact((mi _ _).alloc (lw _) _:Below (w.setCell (ii B.wb<|1+k)<|ie w.heap.size).heap.size _ _).block B.wb (by omega);show pC g.op k _ a=fj;rw[kx<|by omega];exact b.opens.past a c;by_cases e:a=k;subst e;have n:pC g.op a (fh (w.heap.size,f,fg,0)) a=fh (d,h,j,u):=c;rw[ld]at n;cases n;exact⟨nu _ _ _,O,⟨_,E⟩,F,G,wC _,by decide⟩;have n:pC g.op k _ a=fh (d,h,j,u):=c;rw[kx e]at n;obtain⟨q,r,W⟩:=b.opens.at_ a d h j u n;obtain⟨v,z⟩:=m.at r q (λe=>by cases e)
 grind
 have C:∀a x,pC g.op k (fh (w.heap.size,f,fg,0)) a=fh x->(a=k/\x.1=w.heap.size)\/(a≠k/\g.op a=fh x):=λa x c=>by
  by_cases e:a=k;subst e;rw[ld]at c;cases c;exact .inl ⟨fX,fX⟩;rw[kx e]at c;exact .inr ⟨e,c⟩
 rcases C a x c with⟨q,r⟩|⟨q,r⟩<;>rcases C l y S with⟨v,z⟩|⟨v,z⟩
 rw[q,v]
 grind
 grind
 exact b.opens.inj a l x y r z e
theorem CB.look_ok{of:fT->Option Nat}(c:CB N w i B of I)(d:Good q){a}(e:ju w a):
  (Instr.lookup 161 (.map<|fh B.oF) (fD<|jn q) fm).run prog a=.ok (fC #[((of q).map ptr).getD<|fB fj,fE (of q).isSome]) a:=by
 have⟨_,⟨n,_,f,b,g,_⟩,_⟩:=c
 have:=(b.keep (H:=a)<|e.block _ b.lt).look_ok yV underlying161 (LM a)<|Bt d
 grind
theorem YD(b:fZ N w s i p B A g I)(d:Good q)(e:g.ft.of q=fh f):
  ik 178 #[ie B.bt,fD<|jn q] w λh H=>h=fF (ie f)/\ju w H:=by
 have a:ju w (w.k (jn q) 147).drew:=il<|(mi _ _).alloc (lw _) _;have c:=b.wp.tY.look_ok d a;rw[e]at c;have⟨l,_⟩:=b.xG;have⟨s0,s1,s2,s3,Z,j⟩:=sf q;rw[j]at c a |-;simp only[oV,sA,Option.isSome_some,ptr]at c;have k:fe _:=a;clear b a;go_enter func178,ntmps178;go_wp2
 go_region
 all_goals
  go_wp2;go_ret;exact⟨fX,k⟩
def hiu(b:fO es)(a:kB es n=fm){hix:ub es n<fv es}(c:(es[ub es n]).2.1=1):mI es n=zr es n (1,0):=by
 rw[FQ a,<-OM b a hix,c]
theorem hiv{J:fT->fu}(l:fZ N w s i p B A g I)(v:gG N w i B g.ft.od I J)(y:I<maxLen)(z:Good (q++[n])){b c d:Nat}(m:g.ft.od q=fh es)(C:J q=my b 0 (fv es) c)(h:kB es n=fm)(D:ub es n=d)(E:∀e∈es,e.1=n->e.2.1=1)(hid:id≠0):
  ∃a o,(Instr.mapUpdate 161 (.map<|fh B.oF) (fD<|jn (q++[n]))<|ie w.heap.size).run prog ((w.k #[ie B.sF,fY id,hh kq] 308).setCell (ii b<|d*3+2)<|fY 0).drew=.ok () a/\fI (Mine i) N o w a/\
   fZ o a s i p B A { g with ft:={ g.ft with od:=upd g.ft.od q<|fh (zr es n (1,0)),of:=upd g.ft.of (q++[n]) (fh w.heap.size) },fl:=pC g.fl w.heap.size (fh (id,kq)) } (I+1):=by
 have⟨j,r⟩:=l.Ph id;rw[km hid]at j r;have⟨k,L,t⟩:=JN r (v.moves j λx=>x) m C h;have⟨hix,F⟩:=ql h;rw[D]at k t;rw[hiu (l.fQ m).rising h (hix:=hix)<|E _ (kN hix) F]at k;have u:Below ((w.k #[ie B.sF,fY id,hh kq] 308).setCell (ii b<|d*3+2)<|fY 0).heap.size _ ((w.k #[ie B.sF,fY id,hh kq] 308).setCell (ii b<|d*3+2)<|fY 0).drew:=il<|mi _ _;have⟨a,G,H,K⟩:=(k.below u).JW y z (f:=w.heap.size) (x:=(id,kq))<|ld _ _ _;exact⟨a,_,G,(j.mono λ_ x=>x.elim).trans<|(t.mono ps1).trans ((fI.fJ u).trans<|H.mono him),K⟩
theorem YE(k:fZ N w s i p B A g I)(bV:I+300<1099511627776)(hF:Flat A t g.ft)(D:fM A 5 t)(o:Good (q++[n]))(y:t.at A q=fh d)(r:kids A d=fh Y)(ah:gU A t g.fs q)(z:jp Y n=fh (.file id)):
  ik 178 #[ie B.bt,fD<|jn (q++[n])] w λbc H=>∃f M ax,bc=fF (ie f)/\w.heap.size<=f/\fI (Mine i) N M w H/\
   fZ M H s i p B A { g with ft:=ax,fl:=pC g.fl f (fh (id,kq)) } (I+200)/\Flat A (vy A (λY=>zr Y n<|.held f) q t) ax:=by
 have u:=k.st.sound;have U:=k.two;have bd:Good q:=by have:=o.dropLast;rwa [wo]at this
 have bW:fv q<=4:=by have:=o.len;simp at this;omega
 have ai:=(tA u _ D y).2.1;have Q:=(lO u ai r).1;have aj:=iq u hF D y r ah;have R:=lN y r;have ak:oO A (oM A t q):=by rw[R];exact yz u ai r
 have al:kB (oM A t q) n=fm:=by rw[R,jd,<-rh Q,z];rfl
 obtain⟨C,ay⟩:=LJ Q z;have am:t.at A (q++[n])=fh (.file id):=by rw[lx,y,wd,lh,r,wd,z,wd,oX]
 have hid:id≠0:=by
  have az:=(tA u _ D am).2.1;have be:fK A id=1:=by cases bf:5-fv (q++[n])<;>(rw[bf]at az;simpa [fM]using az)
  have:=Vp be<|by decide
  omega
 have aA:g.ft.of (q++[n])=fj:=by rw[hF.of,am];rfl
 have aB:=λf=>Xk u hF D y r ah z f;obtain⟨bg,bh,an,bi⟩:=rS aj;have S:ju w (w.k (jn<|q++[n]) 147).drew:=il<|(mi _ _).alloc (lw _) _;have T:=k.wp.tY.look_ok o S;rw[aA]at T;simp only[hQa,WE,Dom]at T;obtain⟨J,aC⟩:=k.wp.qj;have V:=λl(W:ju w l)=>uK (s:=s) (i:=i) (p:=p) (B:=B) (A:=A) (fx q) N l g I (oM A t) J (k.below W) (aC.moves (fI.fJ (P:=λ_=>False) W) λx=>x) (by rw[Hv];omega) (by rw[tP];exact bd) (by rw[tP];exact aj);rw[tP,Hv]at V;have X:=λl=>jr (q++[n]) o l;have aa:=λl=>mO (q++[n]) o (by simp) l;rw[wo]at X;simp only[KR]at aa;obtain⟨s0,s1,s2,s3,Z,ab⟩:=sf<|q++[n];obtain⟨bX,bY,bZ,ca,cb,ao⟩:=sf q;unfold ln at X aa;simp only[ab,ao]at X aa V T S;rw[ab];obtain⟨cc,t7,_⟩:=k.xG;have bj:I+20*(fv q+1)<maxLen:=by unfold maxLen;omega
 rw[R]at ak al an;generalize aD:ub (Y.map lL) n=h at C;have aE:(Y.map lL)[h]'C=(n,1,id):=ay;have aF:∀e∈Y.map lL,e.1=n->e.2.1=1:=by
  intro e bk bl;obtain⟨x,bm,rfl⟩:=ja.1 bk
  have:=nJ Q z bm bl
  show x.2.kind=1;rw[this];rfl
 have aG:fe _:=aD;have bn:fe ((Y.map lL)[h]'C=(n,1,id)):=aE;have bo:fe _:=aF;have cd:fe _:=ao;have bp:fe _:=ab;have ce:fe _:=k;have bq:fe _:=V;have ap:fe _:=an;have aH:fe _:=ak;have aI:fe _:=al;have br:fe _:=o;have Bh:fe _:=k.st.fresh;have bs:fe _:=aB;clear aD k aC V bg bh an bi ak al ab ao aj hF D y r ah z aB u ai Q R am aA ay aE aF o;go_enter func178,ntmps178;go_wp2
 go_region
 have bt:fe _:=S;have aJ:w.heap.size<(w.k (ml s0 s1 s2 s3 Z) 147).drew.heap.size:=by simp
 have bu:fe (uM (w.k (ml s0 s1 s2 s3 Z) 147).drew w.heap.size s0 s1 s2 s3 Z):=by
  obtain⟨_,bv,E,bw,bx,bz,_⟩:=tZ<|nX w (.cells (ml s0 s1 s2 s3 Z) 147);exact⟨bv,E,bw,bx,bz⟩
 clear S T;go_wp2_with(first
  |(go_at_call 132;refine(X _).via λO ac=>?_;have E:=gS bt ac;have aq:=np aJ ac.size;have bA:fe _:=uM.keep bu.o λv=>(kw ac).1 w.heap.size v aJ))
 refine RK (bq O E) ?_;rintro e F ⟨cf,rfl,bB,cg,G,K,ar,aK,bC⟩;have aL:fe _:=uM.keep bA<|Hc (b:=w.heap.size) U G aq (Bh.o _<|lw _);have bD:bB w.heap.size=(0,0):=(G.tags _ aq).trans<|Bh _ (lw _);have aM:w.heap.size<F.heap.size:=np aq G.size;have m:=ar.row _ _ ap;obtain⟨c,ch,au⟩:=hZ m.1 (by omega);rw[au]at aK m;subst aK;have ad:c<F.heap.size:=gc m.1 fX;have ci:=FV bD (m.2 c fX)<|hfr i;have cj:=FV K.wp.tree.tt (m.2 c fX)<|ti2 i;have aN:=K.xG;have aO:F.cell? (ii B.bt 1)=fh (ie B.sF):=by simp[World.cell?,K.wp.tree.ht,ptr]
 have bE:fe (F.cell? (ii c<|h*3+2)=fh (fY id)):=by
  have:=JO m.1 C
  rw[bn.o]at this;exact this
 have bF:fe _:=K;have bG:fe _:=mr E G;have HD3:fe _:=ar;have ae:fe _:=m;have bH:fe _:=au;have L:fe _:=And.intro aN aO;have ck:h<fv Y:=by simpa using C
 clear K G ar m au bC ac E aN aO;rw[oI];obtain⟨aP,aQ,aR,aS,aT⟩:=aL.o;have av:=λl(W:ju F l)=>iG (gg ae.1 λbI bJ=>W.block bI<|gc ae.1 bJ) n aH.o.rising aH.len
 rw[oI]at av
 change fe _ at av
 go_wp2_with(first
  |(go_at_call 134;refine(aa _).via λcl aw=>?_)
  |(go_at_call 133;go_loud(refine RK (av _ aw) ?_;rintro e a ⟨rfl,aU⟩;rw[aG.o,aI.o];have j:=gS aw aU)))
 have af:=il j;have bK:w.heap.size<a.heap.size:=np aM j.size;have bL:B.bt<a.heap.size:=np L.o.1.1 j.size;have aV:c<a.heap.size:=np ad j.size;have bM:fe (uM a w.heap.size s0 s1 s2 s3 Z):=uM.keep aL λv=>(kw j).1 w.heap.size v aM;have d1:a.cell? (ii B.bt 1)=fh (ie B.sF):=((kw j).1 _ _ L.1.1).trans L.o.2;have d7:a.cell? (ii B.bt 7)=fh (.map<|fh B.oF):=((kw j).1 _ _ L.o.1.1).trans L.o.1.2.1;have aW:a.cell? (ii c<|h*3+2)=fh (fY id):=((kw j).1 _ _ ad).trans bE;have fg:∀v,a.frozen? (ii c v)=fo:=λv=>((kw j).2 _ _ ad).trans<|zY ae.o.1 v;have cm:∃x,a.cell? (ii c<|h*3)=fh x:=⟨_,((kw j).1 _ _ ad).trans (FX ae.o.1 C).1⟩;obtain⟨bN,bO,ag,aX,aY⟩:=hiv (bF.below af) (HD3.o.moves (fI.fJ (P:=λ_=>False) af) λx=>x) bj br ap bH.o aI aG bo.o hid;rw[bp.o]at ag;have bQ:=OD B.sF id a.drew;have aZ:fe _:=And.intro ((bG.trans<|fI.fJ af).trans aX) aY;have bR:w.heap.size<=a.heap.size:=Ef bK;clear aP aQ aR aS aT aX aY af aw aU;obtain⟨aP,aQ,aR,aS,aT⟩:=bM;have bS:a.drew.cell? (ii B.bt 1)=fh (ie B.sF)/\a.drew.cell? (ii c<|h*3+2)=fh (fY id):=⟨d1,aW⟩;have bT:(a.drew.alloc<|.cells #[ie B.sF,fY id,hh kq] 308).cell? (ii B.bt 1)=fh (ie B.sF)/\(a.drew.alloc<|.cells #[ie B.sF,fY id,hh kq] 308).cell? (ii c<|h*3+2)=fh (fY id):=⟨by rw[slt _ _ _ (by exact bL)];exact d1,by rw[slt _ _ _ (by exact aV)];exact aW⟩
 go_region_held3 (λH=>H.cell? (ii B.bt 1)=fh (ie B.sF)/\H.cell? (ii c<|h*3+2)=fh (fY id)) (first|exact bS|exact bT) (first
  |(go_at_call 211;refine RK bQ ?_;rintro e cn ⟨rfl,rfl⟩))
 have bU:((a.drew.alloc<|.cells #[ie B.sF,fY id,hh kq] 308).setCell (ii c<|h*3+2)<|fY 0).drew=((a.setCell (ii c<|h*3+2)<|fY 0).k #[ie B.sF,fY id,hh kq] 308).drew.drew:=by simp[go_sem,aV]
 rw[bU]at ag;replace ag:(Instr.mapUpdate 161 (.map<|fh B.oF) (fD<|ml s0 s1 s2 s3 Z)<|ie a.heap.size).run prog ((a.setCell (ii c<|h*3+2)<|fY 0).k #[ie B.sF,fY id,hh kq] 308).drew.drew=.ok () bN:=ag;go_wp2
 go_region
 all_goals
  go_wp2;go_ret;exact⟨a.heap.size,bO,_,fX,bR,aZ.o.1,aZ.2.mono<|by omega,by have bb:=bs a.heap.size;rw[ap.o,sA]at bb;exact bb⟩
def Pj(a)(s0 s1 s2 s3 Z)(m:Int)(w:fq)(c:16<=m):
  ik 177 #[ie a,fD<|ml s0 s1 s2 s3 Z,fY m] w λb H=>b=pD #[fB fj,fY 11]/\ju w H:=by
 go_enter func177,ntmps177;go_wp2;go_ret2;exact⟨fX,(mi _ _).alloc (lw _) _⟩
def VJ(A)(n f):fM A n (.held f):=by cases n<;>simp[fM]
theorem Tr(a:fZ N w s i p B A g I)(aw:I+500<1099511627776)(hF:Flat A t g.ft)(l:fM A 5 t)(v:Good (q++[n]))(j:t.at A q=fh d)(c:kids A d=fh Y)(y:gU A t g.fs q)(z:jp Y n=fj)(ae:fv Y<16)(m:Int)(ax:m<16):
  ik 177 #[ie B.bt,fD<|jn (q++[n]),fY m] w λaf H=>∃f M O,af=pD #[ie f,fY 0]/\w.heap.size<=f/\fI (Mine i) N M w H/\
   fZ M H s i p B A { g with ft:=O,fl:=pC g.fl f (fh (0,kq)) } (I+200)/\Flat A (vy A (λY=>zr Y n<|.held f) q t) O:=by
 have h:=a.st.sound;have U:=a.two;have C:=(tA h _ l j).2.1;have Q:=(lO h C c).1;have R:=iq h hF l j c y;have o:=lN j c;have S:oO A (oM A t q):=by rw[o];exact yz h C c
 have T:kB (oM A t q) n=fo:=by rw[o,jd,<-rh Q,z];rfl
 have V:fv (oM A t q)<16:=by rw[o,oI];exact ae
 have W:=λf=>NG h hF l j c y z f;obtain⟨J,X⟩:=a.wp.qj;have D:=λE(aa:ju w E)=>LH (a.below aa) (X.moves (fI.fJ (P:=λ_=>False) aa) λx=>x) (by omega) v R S T V kq 1 0 ⟨.inl fX,λag=>absurd fX ag⟩;obtain⟨s0,s1,s2,s3,Z,r⟩:=sf<|q++[n];simp only[r]at D;rw[r];have Bh:fe _:=a.st.fresh;have ah:fe _:=v;have ai:I+150<maxLen:=by unfold maxLen;omega
 change fe _ at r D W
 clear a X hF l R o S T V j c y z h C Q v;have aj:=λE=>SF E
 go_enter func177,ntmps177;go_wp2_with fail;refine RK (D _<|(mi w.heap.size w).alloc (lw _) _) ?_;rintro e k ⟨rfl,ay,az,u,F,ak⟩;have al:fe (uM (w.k (ml s0 s1 s2 s3 Z) 147) w.heap.size s0 s1 s2 s3 Z):=by
  have⟨_,am,an,ao,ap,aq,_⟩:=tZ<|nX w (.cells (ml s0 s1 s2 s3 Z) 147);exact⟨am,an,ao,ap,aq⟩
 have ar:fe _:=uM.keep al<|Hc (b:=w.heap.size) U u (jt _ _) (Bh _<|lw _);have au:w.heap.size<k.heap.size:=np (jt _ _) u.size;have⟨G,K⟩:=F.Ph 0;rw[lv fX]at G K;have L:Below (k.k #[fB fj,fY 0,hh kq] 308).heap.size _ (k.k #[fB fj,fY 0,hh kq] 308).drew:=il<|mi _ _;obtain⟨aA,av,ab,ac⟩:=(K.below L).JW ai ah (f:=k.heap.size) (x:=(0,kq))<|ld _ _ _;rw[r.o]at av;have ad:fe _:=And.intro ((mr ((mi w.heap.size w).alloc (lw _) _) u).trans<|(G.mono λ_ x=>x.elim).trans ((fI.fJ L).trans<|ab.mono him)) ac;have⟨aB,_⟩:=F.xG;have⟨aC,_⟩:=ar;clear u F ak G K L ab ac;go_wp2_with(go_at_call 210;refine RK (aj _) ?_;rintro e aD ⟨rfl,rfl⟩)
 go_region
 all_goals
  go_wp2;go_ret2;exact⟨k.heap.size,_,_,fX,Ef au,ad.1,ad.2.mono<|by omega,W _⟩
def BG (Y:Kids)(n:fP)(ex cr:Bool):Int:=
 match jp Y n with
 |some c=>if c.kind=2 then 7 else if ex=fm then 6 else 0
 |none=>if(ex ||cr)=fm then(if 16<=fv Y then 11 else 0)else 4
def Ts (A:List Ob)(d:Nat)(a:Nat->Option (Int×fP))(Y:Kids)(t:LT)(q:fT)(n:fP)(e:Bool)(f:Nat)(b:Nat->Option (Int×fP))(c:LT):Prop:=
 (jp Y n=fj/\d<=f/\c=vy A (λY=>zr Y n<|.held f) q t/\b=pC a f (fh (0,⟨#[]⟩)))\/
 (jp Y n=fh (.held f)/\c=t/\b=if e=fm then pC a f (fh (0,⟨#[]⟩))else a)\/
 (∃id,jp Y n=fh (.file id)/\d<=f/\c=vy A (λY=>zr Y n<|.held f) q t/\b=if e=fm then pC (pC a f<|fh (id,⟨#[]⟩)) f (fh (0,⟨#[]⟩))else pC a f (fh (id,⟨#[]⟩)))
def Ge(a:jp Y n=fj):BG Y n ex cr=if(ex ||cr)=fm then(if 16<=fv Y then 11 else 0)else 4:=by unfold BG;rw[a]
def Gf(a:jp Y n=fh c):BG Y n ex cr=if c.kind=2 then 7 else if ex=fm then 6 else 0:=by unfold BG;rw[a]
def Pk(t:Nat×Nat)(a:t=(i,6)):Mine i t:=.inr (by rw[a])
def hi2 (s i p:Nat)(B:WB)(A:List Ob)(N:gF)(w H:fq)(g:WG)(t:LT)(q:fT)(n:fP)(ex cr j:Bool)(b:b6)(a:Int)(Y:Kids)(I:Nat)(c:Ending):Prop:=
 (a≠0/\c=fF (fC #[fB fj,.int .i64 a])/\Left s i p B A N w H g b t I)\/
 (a=0/\BG Y n ex cr≠0/\c=fF (fC #[fB fj,.int .i64<|BG Y n ex cr])/\Left s i p B A N w H g b t I)\/
 (a=0/\BG Y n ex cr=0/\∃f M e h d,c=fF (fC #[fB<|fh ⟨f,0,fj⟩,.int .i64 0])/\fI (Mine i) N M w H/\fZ M H s i p B A { g with fs:=b,ft:=e,fl:=h } I/\Flat A d e/\fM A 5 d/\Ts A w.heap.size g.fl Y t q n j f h d)
theorem YF(v:fZ N w s i p B A g I)(cc:I+600<1099511627776)(hF:Flat A t g.ft)(aA:fM A 5 t){r:fT}(D:Good (fx r++[n]))(fg:Int)(ex cr ah:Bool)(o:(bits BinOp.and IntKind.i64 fg 8 != 0)=ex)(E:(bits BinOp.and IntKind.i64 fg 4 != 0)=cr)(S:(bits BinOp.and IntKind.i64 fg 16 != 0)=ah):
  ik 120 #[ie B.bt,fD<|jn (fx r++[n]),fY fg] w λbB H=>hi2 s i p B A N w H g t (fx r) n ex cr ah (pw A t g.fs r).1 (pw A t g.fs r).2.1 (pw A t g.fs r).2.2 (I+300) bB:=by
 have aB:=v.st.sound;have U:=v.two;have bC:Good (fx r):=by have:=D.dropLast;rwa [wo]at this
 have aZ:fN n=fm:=D.val n (by simp);have cd:fv r<=4:=by have:=D.len;simp at this;omega
 have P:=λj(aC:ju w j)=>uJ (s:=s) (i:=i) (p:=p) (B:=B) (A:=A) r N j g I (v.below aC) (by omega) bC;simp only[nI aB hF aA g.fs r]at P;have ai:=qJ (A:=A) (t:=t) (fs:=g.fs) (r:=r);generalize pw A t g.fs r=a at P ai |-;have⟨bD,bb,Y⟩:=a;simp only at P ai |-;have aj:∀j,(Op.equalIn 10000 147 (ln<|fx r++[n])<|ln []).run prog j=.ok fo j:=λj=>by
  have:=gX D Good.nil j
  rw[yv<|by simp]at this;exact this
 have ak:=λj=>QR j;have al:=λj=>jr (fx r++[n]) D j;have am:=λj=>mO (fx r++[n]) D (by simp) j;rw[wo]at al;simp only[KR]at am;have⟨s0,s1,s2,s3,Z,an⟩:=sf<|fx r++[n];have⟨ce,cf,cg,ch,ci,bc⟩:=sf<|fx r;unfold ln at ak aj al am;simp only[an,bc]at aj al am P;rw[an];unfold jn at ak aj;simp only[tQ]at ak aj;have aD:fe _:=an;have aE:fe _:=v;have F:fe _:=hF;have q:fe _:=aA;have ao:fe _:=aB;have bE:fe _:=P;have bF:fe _:=ai;have aF:fe _:=D;have aG:fe _:=And.intro o<|And.intro E S;clear v hF aA aB an bc P ai D o E S;go_enter func120,ntmps120;go_wp2
 go_region_with(go_at_call 75;refine(ak _).via λO ap=>?_;have⟨bd,bG⟩:=kw ap;have be:=rY ap;have bf:=gS (il<|(mi w.heap.size w).alloc (lw _) _) ap)
 all_goals
  go_wp2_with(go_at_call 132;refine(al _).via λbH aq=>?_;have bg:=λl=>(kw aq).1 w.heap.size l be;have aH:=np be aq.size;have aI:=gS bf aq);apply RK<|bE.o bH aI;rintro e T ⟨bI,rfl,bh,V,bi,aJ⟩;have bj:=Hc (b:=w.heap.size) U (V.mono λ_ v=>v.mine) aH<|aE.o.st.fresh _ (lw _);have bk:=mr aI (V.mono λ_ v=>v.mine);have aK:w.heap.size<T.heap.size:=np aH V.size;have cj:bh w.heap.size=(0,0):=(V.tags _ aH).trans<|aE.o.st.fresh _ (lw _);have bl:fe _:=bi;have bm:fe _:=bk;have bn:fe (oT bh T i bI<|Y.map lL):=aJ;have bJ:fe (uM T w.heap.size s0 s1 s2 s3 Z):=by
   have⟨_,bK,x,W,ar,bL,_⟩:=tZ<|nX w (.cells (ml s0 s1 s2 s3 Z) 147);have bM:∀l,T.c w.heap.size l=(w.k (ml s0 s1 s2 s3 Z) 147).c w.heap.size l:=λl=>((bj l).trans (bg l)).trans<|(bd _ l (by simp)).trans fX;exact uM.keep (w:=w.k (ml s0 s1 s2 s3 Z) 147) ⟨bK,x,W,ar,bL⟩ bM
  obtain⟨ck,cl,rfl⟩:=aJ.len;rw[oI];clear bi aJ V bk bj bg bd bG ap aq bf aI;have⟨cm,cn,cp,cq,ct⟩:=bJ.o;by_cases aL:bb=0
  ·subst aL
   have⟨⟨d,au,av⟩,bo,aM⟩:=bF.o fX;have⟨x,W,ar⟩:=lO ao.o (tA ao.o _ q.o au).2.1 av;have aN:fO (Y.map lL):=by rw[ot];exact nH _ x
   have aO:fv (Y.map lL)<=16:=by rw[oI];exact W
   have aw:=λbN(aC:ju T bN)=>iG (bn.o.below aC).1 n aN aO;rw[oI]at aw;have bp:fe _:=aw;have m:fe _:=And.intro au<|And.intro av aM;have bO:fe _:=rh x n;have⟨o,E,S⟩:=aG.o;go_wp2_with fail;refine(am _).via λcu aP=>?_;have cv:=λl=>(kw aP).1 w.heap.size l aK;go_wp2_with fail;refine Calls.via (bp.o _ aP) λbQ bR=>?_;have Q:=gS aP bR;have cw:=λl=>(kw Q).1 w.heap.size l aK;have aQ:=np aK Q.size;have G:fe _:=bm.o.trans<|fI.fJ Q;have J:fe _:=bl.o.below Q;have aR:fe (Left s i p B A N w bQ g bD t<|I+300):=iB G.o (J.o.mono (by first|omega|(simp;omega))) F.o q.o;cases y:jp Y n with
   |none=>
    rw[show kB (Y.map lL) n=fo by rw[jd,<-rh x,y];rfl];have h:fe _:=Ge y (ex:=ex) (cr:=cr);have u:fe _:=y;clear aw au av aM bo aN aO x W ar y aG;cases k:(ex ||cr) with
    |true=>
     rw[k,lv fX]at h;have bq:ex=fm\/(ex=fo/\cr=fm):=by cases ex<;>simp_all
     clear k;by_cases br:16<=fv Y
     ·rw[lv br]at h
      have bS:(16:Int)<=(fv Y:Int):=(by omega);have bT:=λj=>Pj B.bt s0 s1 s2 s3 Z (fv Y:Int) j bS;rcases bq with z|⟨z,X⟩
      case' inl=>rw[z]at o
      case' inr=>rw[z]at o;rw[X]at E
      all_goals
       go_wp2_with(go_at_call 177;refine Calls.via (bT _) λaS K=>?_);go_ret2;exact .inr (.inl ⟨fX,by rw[h.o];decide,by rw[h.o];rfl,iB (G.o.trans<|fI.fJ K) ((J.o.below K).mono (by first|omega|(simp;omega))) F.o q.o⟩)
     rw[km br]at h;have bs:fv Y<16:=by omega
     have aT:=Tr J.o (by first|omega|(simp;omega)) F.o q.o aF.o m.o.1 m.o.2.1 m.o.2.2 u.o bs (fv Y:Int) (by omega);rw[aD.o]at aT;have bU:fe _:=aT;clear aT;rcases bq with z|⟨z,X⟩
     case' inl=>rw[z]at o
     case' inr=>rw[z]at o;rw[X]at E
     all_goals
      go_wp2_with(go_at_call 177;go_loud(apply RK bU.o;rintro e aS ⟨f,ax,ay,rfl,az,aa,R,ab⟩;have C:fe _:=And.intro aa<|And.intro R ab;clear aa R ab));go_ret2;exact .inr<|.inr ⟨fX,h.o,f,ax,ay,_,_,fX,G.o.trans C.o.1,C.o.2.1.mono (by first|omega|(simp;omega)),C.o.2.2,LI ao.o q.o m.o.1 m.o.2.1 aZ (by first|omega|(simp;omega)) (VJ _ _ _)<|.inr bs,.inl ⟨u.o,wy (Ef aQ) az,fX,fX⟩⟩
    |false=>
     rw[k,km<|by simp]at h;obtain⟨z,X⟩:ex=fo/\cr=fo:=by cases ex<;>cases cr<;>simp_all
     rw[z]at o;rw[X]at E;go_wp2;go_ret2;exact .inr (.inl ⟨fX,by rw[h.o];decide,by rw[h.o];rfl,aR.o⟩)
   |some c=>
    rw[show kB (Y.map lL) n=fm by rw[jd,<-rh x,y];rfl];have⟨aU,bt⟩:=LJ x y;have⟨bV,cx,bu,bv,bW,ac,bX⟩:=bn.o.at_ aU;clear bW bX;rw[oI]at bu;rw[bt]at ac;simp only at ac;have h:fe _:=Gf y (ex:=ex) (cr:=cr);have u:fe _:=y;have bY:ub (Y.map lL) n<fv Y:=by simpa using aU
    generalize ub (Y.map lL) n=bZ at ac bY;cases bu;have bw:=zZ c;generalize bx:c.kind=cy at ac bw h;have cz:=((kw Q).1 bV (bZ*3+1) bv).trans ac;have cA:=np bv Q.size;clear aw au av aM bo aN aO x W ar y aG aU bt bp;rcases bw with rfl|rfl
    ·rw[km<|by decide]at h
     cases k:ex with
     |true=>
      rw[k]at o;rw[k,lv fX]at h;go_wp2;go_ret2;exact .inr (.inl ⟨fX,by rw[k,h.o];decide,by rw[k,h.o];rfl,aR.o⟩)
     |false=>
      rw[k]at o;rw[k,km<|by decide]at h;cases c with
      |dir d=>simp[LT.kind]at bx
      |own es=>simp[LT.kind]at bx
      |held f=>
       have bz:t.at A (fx r++[n])=fh (.held f):=(by rw[lx,m.o.1,wd,lh,m.o.2.1,wd,u.o,wd,oX]);have aV:g.ft.of (fx r++[n])=fh f:=by rw[F.o.of,bz];rfl
       have⟨cC,ca⟩:=aE.o.wp.held _ _ aV;have L:=YD J.o aF.o aV;rw[aD.o]at L;have aW:fe _:=L;clear L bz aV;cases aX:cr<;>cases M:ah<;>rw[aX]at E<;>rw[M]at S
       all_goals
        go_wp2_with(first
         |(go_at_call 178;go_loud(refine Calls.via aW.o λaS K=>?_;have ad:=CI (J.o.below K) ca;have aY:fe _:=ad;clear ad))
         |(go_at_call 179;refine Calls.via aY.o λcb⟨ae,af⟩=>?_;have ag:fe _:=And.intro ae af;clear ae af))
        go_ret2
        first
        |exact .inr (.inr ⟨fX,by rw[k];exact h.o,f,_,g.ft,_,t,fX,(G.o.trans<|fI.fJ K).trans<|ag.o.1.mono Pk,ag.o.2.mono (by first|omega|(simp;omega)),F.o,q.o,.inr (.inl ⟨u.o,fX,by rw[M];rfl⟩)⟩)
        |exact .inr (.inr ⟨fX,by rw[k];exact h.o,f,_,g.ft,_,t,fX,G.o.trans<|fI.fJ K,(J.o.below K).mono (by first|omega|(simp;omega)),F.o,q.o,.inr (.inl ⟨u.o,fX,by rw[M];rfl⟩)⟩)
      |file id=>
       have L:=YE J.o (by first|omega|(simp;omega)) F.o q.o aF.o m.o.1 m.o.2.1 m.o.2.2 u.o;rw[aD.o]at L;have aW:fe _:=L;clear L;cases aX:cr<;>cases M:ah<;>rw[aX]at E<;>rw[M]at S
       all_goals
        go_wp2_with(first
         |(go_at_call 178;go_loud(apply RK aW.o;rintro e aS ⟨f,ax,ay,rfl,az,aa,R,ab⟩;have ad:=CI R<|ld _ _ _;have aY:fe _:=ad;clear ad;have C:fe _:=And.intro aa<|And.intro R ab;clear aa R ab))
         |(go_at_call 179;refine Calls.via aY.o λcb⟨ae,af⟩=>?_;have ag:fe _:=And.intro ae af;clear ae af))
        go_ret2;have bA:=LI ao.o q.o m.o.1 m.o.2.1 aZ (by first|omega|(simp;omega)) (VJ A _ f)<|.inl (by rw[<-bO.o,u.o];rfl)
        first
        |exact .inr (.inr ⟨fX,by rw[k];exact h.o,f,ax,ay,_,_,fX,(G.o.trans C.o.1).trans<|ag.o.1.mono Pk,ag.o.2.mono (by first|omega|(simp;omega)),C.o.2.2,bA,.inr (.inr ⟨id,u.o,wy (Ef aQ) az,fX,by rw[M];rfl⟩)⟩)
        |exact .inr (.inr ⟨fX,by rw[k];exact h.o,f,ax,ay,_,_,fX,G.o.trans C.o.1,C.o.2.1.mono (by first|omega|(simp;omega)),C.o.2.2,bA,.inr (.inr ⟨id,u.o,wy (Ef aQ) az,fX,by rw[M];rfl⟩)⟩)
    rw[lv fX]at h;go_wp2;go_ret2;exact .inr (.inl ⟨fX,by rw[h.o];decide,by rw[h.o];rfl,aR.o⟩)
  have cD:(bb==0)=fo:=by simpa using aL
  go_wp2;go_ret2;exact .inl ⟨aL,fX,iB bm.o (bl.o.mono (by first|omega|(simp;omega))) F.o q.o⟩


