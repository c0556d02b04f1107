/- A part of the proof. -/
import Derived.Test.YtlgidcmmgohagaaGreatAllM15
set_option linter.all false
namespace Go.Proofs.YtlgidcmmgohagaaGreat
open Go.RowKit Go.Sort Go.Shelf Go.Proofs.Tryz
open Go.Value renaming slice->fy,string->fA,pointer->fB,tuple->fC,agg->fD,bool->fE
open Go.Ending renaming returned->fF
open Option renaming some->fh,none->fj
open Bool renaming true->fm,false->fo
open Go renaming World->fq,Value->fu
open List renaming length->fv,reverse->fx
open Go.RowKit renaming Hid->fe
set_option maxRecDepth 100000
set_option maxHeartbeats 0
variable {d0 d1 d2 d3 d4 n N h H s1 s2 s3 Z:fO}{fg id:Int}{E q qf qt rf rt src:fQ}{w J:fq}{c d df dt t:LT}{kf Y kt:Kids}{fs:b6}{es:List fV}{R ex:Bool}{A:List Ob}{a b f i k I:Nat}{g:WG}{x:Int×fO}{T:gC}{op:Nat->Option (Nat×Nat×Int×Int)}
variable {s i p:Nat}{B:WB}{A:List Ob}
theorem Yv(q:fP kf)(c:t.at A qf=fh df)(p:kids A df=fh kf)(j:kA kf N=fm)(b:t.at A qt=fh dt)(f:kids A dt=fh kt)(w:¬(qf++[N]) <+: qt)(r:qt++[h]≠qf++[N])
  {d1:LT}{g:Kids}(a:(vy A (λY=>rb Y N) qf t).at A qt=fh d1)(d:kids A d1=fh g):(jp g h).isSome=(jp kt h).isSome/\fv g<=fv kt/\(qf=qt->fv g<fv kt):=by
 have⟨x,y⟩:=Cq A (λY=>rb Y N) qf t df kf c p;by_cases k:qf <+: qt;obtain⟨s,rfl⟩:=k;rcases s with _|⟨m,l⟩
 rw[lJ]at b a r |-;rw[y]at a;cases a;rw[c]at b;cases b;rw[p]at f;cases f;have n:fh (rb kf N)=fh g:=d;cases n;have z:h≠N:=λe=>r (by rw[e])
 have C:=AP j;have D:=uw j;exact⟨by rw[mg q j,km z],by omega,λ_=>by omega⟩;have u:m≠N:=λe=>w (by rw[e];exact⟨l,by simp⟩);rw[x,mg q j,km u]at a;rw[lx,c,wy,lh,p,wy]at b;rw[b]at a;cases a;rw[f]at d;cases d;exact⟨fX,lw _,λe=>by have:=congrArg List.length e;simp at this⟩;by_cases i:qt <+: qf;obtain⟨m,u,l,o⟩:=nk i λe=>k<|e▸sQ _;have o:qf=qt++m::l:=by rw[<-o];simp
 rw[o]at c a;have⟨E,F,v,i,B⟩:=pI A (λY=>rb Y N) qt m l t df c;rw[b]at v;cases v;rw[f]at i;cases i;rw[B]at a;cases a;have n:=d;simp only[kids,pW]at n;rw[<-n];refine⟨?_,by rw[oL];exact lw _,λe=>by rw[o]at e;have:=congrArg List.length e;simp at this⟩;rw[qj];split;cases jp kt h<;>rfl;rfl;rw[mb A _ qf qt t df c i k,b]at a;cases a;rw[f]at d;cases d;exact⟨fX,lw _,λe=>absurd (e▸sQ _) k⟩
theorem Yw(j:t.at A qf=fh df)(k:kids A df=fh kf)(l:jp kf N=fh c)(f:t.at A qt=fh dt)(g:kids A dt=fh kt)(n:qt++[h]≠qf++[N])
  (o:∀e,jp kt h=fh e->kids A e=fj\/kids A e=fh []):¬(qt++[h]) <+: (qf++[N]):=by
 rintro⟨i,b⟩;have a:t.at A (qf++[N])=fh c:=by rw[lx,j,wy,lh,k,wy,l,wy,pd]
 cases i with
 |nil=>rw[lJ]at b;exact n b
 |cons m i=>
  rw[<-b]at a;rcases d:jp kt h with _|e
  rw[sP,lx,f,wy,cbv,lh,g,wy,d]at a;cases a;have p:t.at A (qt++[h])=fh e:=by rw[lx,f,wy,lh,g,wy,d,wy,pd]
  rw[pJ p<|o e d]at a;cases a
theorem Tl(a:fZ T w s i p B A g I)(u:I<1099511627776)(d:Good src)(b:Good E)(BB:∀x,E <+: x->g.ft.of x=fj)(h:∀x f,src <+: x->g.ft.of x=fh f->fv E+(fv x-fv src)<=5):
  ik 144 #[.map<|fh B.oF,fD<|jn src,fD<|jn E] w λe J=>e=qr #[]/\fI (λt=>t=(i,4)) T T w J/\fZ T J s i p B A { g with ft:={ g.ft with of:=PQ g.ft.of src E } } I:=by
 have⟨v,⟨n,j,k⟩,y⟩:=a.wp.uf;refine(Dr B.oF n _ src E w d b k (by omega) (λx c=>by rw[BB x c];rfl) (λx c l=>?_) λx l=>?_).1.mono λe J⟨m,o,q⟩=>⟨m,Ix a b h j o q⟩
 ·rcases r:g.ft.of x with _|f
  all_goals grind
 rcases r:g.ft.of x with _|f
 all_goals grind
theorem Tm(b:fZ T w s i p B A g I)(v:I<1099511627776)(j:Good src)(c:Good E)(BB:∀x,E <+: x->g.ft.od x=fj)(k:∀x f,src <+: x->g.ft.od x=fh f->fv E+(fv x-fv src)<=5):
  ik 145 #[.map<|fh B.oD,fD<|jn src,fD<|jn E] w λe J=>e=qr #[]/\fI (λt=>t=(i,5)) T T w J/\fZ T J s i p B A { g with ft:={ g.ft with od:=PQ g.ft.od src E } } I:=by
 have⟨O,a⟩:=b.wp.qo;have⟨n,l,m⟩:=a.map;refine(Dr B.oD n _ src E w j c m (by omega) (λx d=>by rw[BB x d];rfl) (λx d o=>?_) λx o=>?_).2.mono λe J⟨q,r,u⟩=>⟨q,LS b a c k l r u⟩
 ·rcases h:g.ft.od x with _|f
  all_goals grind
 rcases h:g.ft.od x with _|f
 ·all_goals grind
 exact(a.good x f h).1
def sw (T:gC)(w J:fq):Prop:=w.heap.size<=J.heap.size/\∀b,b<w.heap.size->T b=(0,0)->∀a,J.cell? ⟨b,a,fj⟩=w.cell? ⟨b,a,fj⟩
theorem sw.qq{T M}(U:2<=i)(m:fI (Mine i) T M w J):sw T w J:=⟨m.size,λb a c d=>Hn U m a c d⟩
theorem LU:∀(n m:Nat){c:LT},n<=m->fM A n c->fM A m c
 |n,m,.file id,_,a=>by
  have:fJ A id=1:=by cases n<;>simpa [fM]using a
  cases m<;>simpa [fM]using this
 |n,m,.held f,_,_=>by cases m<;>simp[fM]
 |n,m,.dir id,b,a=>by
  have e:fJ A id=2/\gp A id<=n:=by cases n<;>simpa [fM]using a
  have g:gp A id<=m:=by omega
  cases m<;>(rw[fM];exact⟨e.1,g⟩)
 |0,m,.own es,_,a=>by
  rw[fM]at a
  subst a
  exact zH List.Pairwise.nil (by simp)<|by simp
 |n+1,0,.own es,b,_=>by omega
 |n+1,m+1,.own es,b,a=>by
  rw[fM]at a |-
  exact⟨a.1,a.2.1,λx d=>⟨(a.2.2 x d).1,LU n m (by omega) (a.2.2 x d).2⟩⟩
theorem yz(a:Sound A){n}(b:fM A n d)(c:kids A d=fh Y):oU A (Y.map lL):=by
 have⟨f,g,h⟩:=lO a b c;refine⟨by rw[oy];exact nH _ f,by rw[oL];exact g,λe i=>?_⟩;obtain⟨x,j,rfl⟩:=jC.1 i;have⟨k,m,_,l⟩:=h x j;exact⟨k,FZ l x.1⟩
def Tn (B:WB)(w:fq):Prop:=B.bt<w.heap.size/\w.cell? ⟨B.bt,7,fj⟩=fh (.map<|fh B.oF)/\w.cell? ⟨B.bt,8,fj⟩=fh (.map<|fh B.oD)
theorem fZ.xH(a:fZ T w s i p B A g I):Tn B w:=by
 have⟨b,c,d,_⟩:=a.wp.tree.cells;exact⟨b,d,c⟩
def hiu(t:Nat×Nat)(a:t=(i,4)):Mine i t:=.inr (by rw[a])
def pFn(t:Nat×Nat)(a:t=(i,5)):Mine i t:=.inr (by rw[a])
theorem LV(F:fZ T w s i p B A g I)(br:I+700<1099511627776)(hF:Flat A t g.ft)(o:fM A 5 t)(R:Good (qf++[N]))(v:Good (qt++[h]))
  (n:t.at A qf=fh df)(l:kids A df=fh kf)(G:jp kf N=fh c)(q:t.at A qt=fh dt)(r:kids A dt=fh kt)(ai:gU A t g.fs qf)(hwt:gU A t g.fs qt)
  (H:¬(qf++[N]) <+: (qt++[h]))(aj:∀e,jp kt h=fh e->kids A e=fj\/kids A e=fh [])(ak:jp kt h=fj->fv kt<16\/qf=qt)(bs:((fv qt+1:Nat):Int)+kO A 5 c<=5)(K):
  ik 138 #[ii B.bt,fD<|jn (qf++[N])] w λe C=>e=qr #[]/\sw T w C/\
   ik 135 #[ii B.bt,fD<|jn (qt++[h]),fD #[hZ K,fY c.kind,fY c.id]] C λe S=>e=qr #[]/\sw T w S/\
    ∀D,ju S D->sw T w D/\Tn B D/\ik 144 #[.map<|fh B.oF,fD<|jn (qf++[N]),fD<|jn (qt++[h])] D λe al=>e=qr #[]/\
     ∀W3,ju al W3->sw T w W3/\Tn B W3/\ik 145 #[.map<|fh B.oD,fD<|jn (qf++[N]),fD<|jn (qt++[h])] W3 λe am=>e=qr #[]/\
      Left s i p B A T w am g g.fs (vy A (λY=>zr Y h c) qt<|vy A (λY=>rb Y N) qf t) (I+300):=by
 have d:=F.st.sound;have U:=F.two;have an:=(tA d _ o n).2.1;have ao:=(lO d an l).1;have ap:kA kf N=fm:=by rw[<-rh ao,G];rfl
 have aq:qt++[h]≠qf++[N]:=λe=>H<|e▸sQ _;have V:=Yw n l G q r aq aj;have W:¬(qf++[N]) <+: qt:=λb=>H<|b.trans (qD _ _);have ar:t.at A (qf++[N])=fh c:=by rw[lx,n,wy,lh,l,wy,G,wy,pd]
 have au:=(tA d _ o ar).2.1;have bt:fv qt+1<=5:=by have:=v.len;simp at this;omega
 have av:fM A (5-(fv qt+1)) c:=exp d 5 (by
  exact LU _ _ (Nat.sub_le _ _) au)<|by omega
 have aw:=iy d hF o n l ai;have ax:=lN n l;have aS:oU A (oQ A t qf):=by rw[ax];exact yz d an l
 have aT:kA (oQ A t qf) N=fm:=by rw[ax,jc];exact ap
 have⟨d1,bu,L,z,aU,X⟩:=NJ d hF o n l G q r ai hwt H V;have⟨ay,bv,az⟩:=Yv ao n l ap q r W aq L z;have aA:=AW d o n l N;have Z:=(tA d _ aA L).2.1;have aa:=lN L z;have aB:oU A (oQ A (vy A (λY=>rb Y N) qf t) qt):=by rw[aa];exact yz d Z z
 have aC:kA (oQ A (vy A (λY=>rb Y N) qf t) qt) h=(jp kt h).isSome:=by rw[aa,jc,<-rh (lO d Z z).1,ay]
 have⟨t1,t2,t3⟩:=zI aw N;have⟨bw,aD,aE,aV,aW⟩:=yc X h (c.kind,c.id);have aF:=FZ au h;have aX:∀a,t.at A (qt++h::a)≠fj->∃e,jp kt h=fh e/\a=[]:=λa j=>by
  rcases ab:jp kt h with _|e
  rw[lx,q,wy,lh,r,wy,ab]at j;exact absurd fX j;cases a with
  |nil=>exact⟨e,fX,fX⟩
  |cons m a=>
   have aY:t.at A (qt++[h])=fh e:=by rw[lx,q,wy,lh,r,wy,ab,wy,pd]
   have:=pJ aY (aj e ab) m a
   rw[sP,cbv]at this;exact absurd this j
 have BB:∀x,(qt++[h]) <+: x->(qB A g.fs (oz A g.fs g.ft qf N) qt h (c.kind,c.id)).od x=fj/\(qB A g.fs (oz A g.fs g.ft qf N) qt h (c.kind,c.id)).of x=fj:=by
  rintro x ⟨a,rfl⟩;rw[sP,cbv];have aG:a≠[]\/jp kt h=fj->t.at A (qt++h::a)=fj:=λj=>by
   rcases b:t.at A (qt++h::a)with _|y
   rfl;have⟨e,aZ,bb⟩:=aX a (by rw[b];simp);rcases j with j|j
   exact absurd bb j;rw[aZ]at j;cases j
  have ac:qt++h::a≠qt:=λe=>by have:=congrArg List.length e;simp at this
  have ad:¬(qt++h::a) <+: qt:=λe=>by have:=e.length_le;simp at this;omega
  have P:qt++h::a≠qf:=λe=>V (by rw[<-e];exact⟨a++[N],by simp⟩);have Q:¬(qt++h::a) <+: qf:=λe=>V<|(List.IsPrefix.trans ⟨a,by simp⟩ e).trans (qD _ _);by_cases j:a=[];subst j;rw[aV,aW];by_cases k:kA (oQ A (vy A (λY=>rb Y N) qf t) qt) h=fm;rw[lv k,lv k];exact⟨fX,fX⟩;have ae:jp kt h=fj:=by
   rw[aC]at k;rcases E:jp kt h with _|y
   rfl;rw[E]at k;exact absurd fX k
  rw[km k,km k,t2,km P,km Q,t3,hF.od,hF.of,aG<|.inr ae];exact⟨fX,fX⟩;have b:qt++h::a≠qt++[h]:=λe=>j (by simpa using e)
  rw[aD _ b,aE _ b,km ac,km ad,t2,km P,km Q,t3,hF.od,hF.of,aG<|.inl j];exact⟨fX,fX⟩
 have aH:∀x,(qf++[N]) <+: x->(qB A g.fs (oz A g.fs g.ft qf N) qt h (c.kind,c.id)).od x=zA (t.at A x)/\(qB A g.fs (oz A g.fs g.ft qf N) qt h (c.kind,c.id)).of x=RQ (t.at A x)/\(t.at A x≠fj->fv (qt++[h])+(fv x-fv (qf++[N]))<=5):=by
  rintro x ⟨a,rfl⟩;have b:(qf++[N])++a≠qt++[h]:=λe=>H (by rw[<-e];exact qD _ _)
  have ac:(qf++[N])++a≠qt:=λe=>W (by rw[<-e];exact qD _ _);have ad:¬((qf++[N])++a) <+: qt:=λe=>W<|(qD _ _).trans e;have P:(qf++[N])++a≠qf:=λe=>by have:=congrArg List.length e;simp at this;try omega
  have Q:¬((qf++[N])++a) <+: qf:=λe=>by have:=e.length_le;simp at this;omega
  refine⟨by rw[aD _ b,km ac,km ad,t2,km P,km Q,hF.od],by rw[aE _ b,t3,hF.of],λj=>?_⟩;cases af:t.at A ((qf++[N])++a) with
  |none=>exact absurd af j
  |some y=>
   rw[lx,ar,wy]at af
   have:=(tA d _ av af).1
   simp;omega
 have⟨O,bc⟩:=F.wp.qo;refine(OT F bc (by omega) R aw aS aT).via λC⟨bd,bx,aI,aJ,aK⟩=>?_;refine⟨fX,sw.qq U aI,?_⟩;have be:ik 135 #[ii B.bt,fD<|jn (qt++[h]),fD #[hZ K,fY c.kind,fY c.id]] C λbf J=>bf=qr #[]/\∃M bg,fI (Mine i) bd M C J/\
   fZ M J s i p B A { g with ft:=qB A g.fs (oz A g.fs g.ft qf N) qt h (c.kind,c.id) } (I+150+150)/\gD M J i B (qB A g.fs (oz A g.fs g.ft qf N) qt h (c.kind,c.id)).od (I+150+150) bg:=by
  cases k:kA (oQ A (vy A (λY=>rb Y N) qf t) qt) h with
  |true=>exact hic aJ aK (by omega) v X aB k K c.kind c.id aF
  |false=>
   refine LL aJ aK (by omega) v X aB k ?_ K c.kind c.id aF;rw[aa,oL];have ae:jp kt h=fj:=by
    rw[aC]at k;rcases E:jp kt h with _|y
    rfl;rw[E]at k;cases k
   have bh:=(lO d (tA d _ o q).2.1 r).2.1;rcases ak ae with b|b
   omega
   have:=az b
   omega
 refine be.via λS⟨bi,bz,bj,bk,bA⟩=>?_;have aL:=aI.trans bj;refine⟨fX,sw.qq U aL,λD aM=>?_⟩;have aN:=bk.below aM;have aO:=aL.trans<|fI.fK aM;refine⟨sw.qq U aO,aN.xH,?_⟩;refine(Tl aN (by omega) R v (λx b=>(BB x b).2) λx f b ag=>?_).mono ?_;have⟨_,bl,ah⟩:=aH x b;have u:=ag;rw[bl]at u;exact ah (λe=>by rw[e]at u;cases u);rintro e al ⟨rfl,bm,bn⟩;refine⟨fX,λW3 aP=>?_⟩;have aQ:=bn.below aP;have aR:=(aO.trans<|bm.mono hiu).trans<|fI.fK aP;refine⟨sw.qq U aR,aQ.xH,?_⟩;refine(Tm aQ (by omega) R v (λx b=>(BB x b).1) λx f b ag=>?_).mono ?_;have⟨bo,_,ah⟩:=aH x b;have u:=ag;rw[bo]at u;exact ah (λe=>by rw[e]at u;cases u);rintro e am ⟨rfl,bp,bq⟩;refine⟨fX,bi,_,aR.trans<|bp.mono pFn,bq,aU,?_⟩;exact LM d aA L z (v.val h<|by simp) (by omega) av (by
  rw[<-rh (lO d Z z).1,ay];cases E:jp kt h with
  |some y=>exact .inl fX
  |none=>
   right
   have bh:=(lO d (tA d _ o q).2.1 r).2.1;rcases ak E with b|b
   omega
   have:=az b;omega)
theorem Pg{e c}(a:(lB A fs e c).2=0):fs.Next (lB A fs e c).1/\(kids A e=fj\/kids A e=fh []):=by
 grind [lB,Dq]
theorem Yx{b:Bool}(a:(mC A fs b Y n c).2=0):fs.Next (mC A fs b Y n c).1/\(∀e,jp Y n=fh e->kids A e=fj\/kids A e=fh [])/\(jp Y n=fj->fv Y<16\/b=fm):=by
 unfold mC at a |-;cases d:jp Y n with
 |some e=>
  rw[d]at a;simp only at a |-;have⟨f,g⟩:=Pg a
  grind
 |none=>
  grind [b6.Next.refl,absurd]
theorem hiv(f:fZ T w s i p B A g I)(y:I+10<1099511627776)(hF:Flat A t g.ft)(j:fM A 5 t)(k:Good (fx rf++[N]))(l:Good (fx rt++[h]))(m:t.at A (fx rt)=fh d)(n:kids A d=fh Y){o}(q:oZ T w i o (Y.map lL))(b):
  ik 141 #[ii B.bt,fD<|jn (fx rf++[N]),fD<|jn (fx rt++[h]),fD #[hZ b,fY c.kind,fY c.id],o] w λr J=>r=fF (fY (mC A g.fs (decide (rf=rt)) Y h c).2)/\mm s i p B A T w J { g with fs:=(mC A g.fs (decide (rf=rt)) Y h c).1 } (I+1):=by
 unfold mC;cases u:jp Y h with
 |some e=>exact SX f y hF j k l m n u q b
 |none=>
  have z:(16<=fv Y/\decide (rf=rt)=fo)↔(16<=fv Y/\fx rf≠fx rt):=by
   simp[List.reverse_inj]
  refine(Ym f hF j k l m n u q b c.kind c.id).mono λr J⟨a,v⟩=>?_;simp only[z];by_cases x:16<=fv Y/\fx rf≠fx rt;rw[if_pos x]at a |-;exact⟨a,v.mono<|Nat.le_succ _⟩;rw[if_neg x]at a |-;exact⟨a,v.mono<|Nat.le_succ _⟩
def uR (J:fq)(a:Nat)(b c d e f:fO):Prop:=J.cell? ⟨a,0,fj⟩=fh (fA b)/\J.cell? ⟨a,1,fj⟩=fh (fA c)/\J.cell? ⟨a,2,fj⟩=fh (fA d)/\J.cell? ⟨a,3,fj⟩=fh (fA e)/\J.cell? ⟨a,4,fj⟩=fh (fA f)
theorem uR.keep{b c d e f}(h:uR w a b c d e f)(i:∀g,J.c a g=w.c a g):uR J a b c d e f:=by
 unfold uR at h |-
 grind
def mo (J:fq)(a b:Nat)(H s1 s2 s3 Z d0 d1 d2 d3 d4:fO):Prop:=J.cell? ⟨a,0,fj⟩=fh (fA H)/\J.cell? ⟨a,1,fj⟩=fh (fA s1)/\J.cell? ⟨a,2,fj⟩=fh (fA s2)/\J.cell? ⟨a,3,fj⟩=fh (fA s3)/\J.cell? ⟨a,4,fj⟩=fh (fA Z)/\J.cell? ⟨b,0,fj⟩=fh (fA d0)/\J.cell? ⟨b,1,fj⟩=fh (fA d1)/\J.cell? ⟨b,2,fj⟩=fh (fA d2)/\J.cell? ⟨b,3,fj⟩=fh (fA d3)/\J.cell? ⟨b,4,fj⟩=fh (fA d4)
def mo.keep(d:mo w a b H s1 s2 s3 Z d0 d1 d2 d3 d4)(e:∀c,J.c a c=w.c a c)(f:∀c,J.c b c=w.c b c):mo J a b H s1 s2 s3 Z d0 d1 d2 d3 d4:=by
 unfold mo at d |-;simp only[e,f];exact d
theorem mo.below(e:mo w a b H s1 s2 s3 Z d0 d1 d2 d3 d4)(d:ju w J)(f:a<w.heap.size)(g:b<w.heap.size):mo J a b H s1 s2 s3 Z d0 d1 d2 d3 d4:=
 e.keep (λc=>(kw d).1 a c f) λc=>(kw d).1 b c g
theorem JY(w:fq)(H s1 s2 s3 Z d0 d1 d2 d3 d4):mo ((w.k (ml H s1 s2 s3 Z) 147).k (ml d0 d1 d2 d3 d4) 147).drew w.heap.size (w.heap.size+1) H s1 s2 s3 Z d0 d1 d2 d3 d4/\w.heap.size<((w.k (ml H s1 s2 s3 Z) 147).k (ml d0 d1 d2 d3 d4) 147).drew.heap.size/\w.heap.size+1<((w.k (ml H s1 s2 s3 Z) 147).k (ml d0 d1 d2 d3 d4) 147).drew.heap.size/\ju w ((w.k (ml H s1 s2 s3 Z) 147).k (ml d0 d1 d2 d3 d4) 147).drew:=by
 refine⟨?_,by simp;omega,by simp,io<|((mi _ _).alloc (lw _) _).alloc (by simp) _⟩;have a:=bot w (.cells (ml H s1 s2 s3 Z) 147)<|.cells (ml d0 d1 d2 d3 d4) 147;have b:=Wu w (.cells (ml H s1 s2 s3 Z) 147)<|.cells (ml d0 d1 d2 d3 d4) 147;have⟨_,c,d,e,f,g,_⟩:=ug a;have⟨_,h,i,j,k,l,_⟩:=ug b;exact⟨c,d,e,f,g,h,i,j,k,l⟩
def mo.kept(c:mo w a b H s1 s2 s3 Z d0 d1 d2 d3 d4)(k:sw T w J)(d:a<w.heap.size)(e:b<w.heap.size)(ta:T a=(0,0))(f:T b=(0,0)):mo J a b H s1 s2 s3 Z d0 d1 d2 d3 d4:=
 c.keep (k.2 a d ta) (k.2 b e f)
theorem mo.and(c:mo J a b H s1 s2 s3 Z d0 d1 d2 d3 d4){q:Prop}(d:q):J.c a 0=fh (hZ H)/\J.c a 1=fh (hZ s1)/\J.c a 2=fh (hZ s2)/\J.c a 3=fh (hZ s3)/\J.c a 4=fh (hZ Z)/\J.c b 0=fh (hZ d0)/\J.c b 1=fh (hZ d1)/\J.c b 2=fh (hZ d2)/\J.c b 3=fh (hZ d3)/\J.c b 4=fh (hZ d4)/\q:=by
 have⟨e,f,g,h,i,j,k,l,m,n⟩:=c
 grind
def xI (J:fq)(a:Nat)(n:fO)(k id:Int):Prop:=J.cell? ⟨a,0,fj⟩=fh (fA n)/\J.cell? ⟨a,1,fj⟩=fh (.int .i64 k)/\J.cell? ⟨a,2,fj⟩=fh (.int .i64 id)
def xI.keep{k id:Int}(b:xI w a n k id)(d:∀c,J.c a c=w.c a c):xI J a n k id:=by
 unfold xI at b |-;simp only[d];exact b
def xI.of_block{k id:Int}{t:ni}(a:w.heap[b]?=fh (.cells #[hZ n,fY k,fY id] t (0,0))):xI w b n k id:=
 ⟨by simp[World.cell?,a],by simp[World.cell?,a],by simp[World.cell?,a]⟩
def Yy(w:fq)(n)(k id:Int):xI (w.k #[hZ n,fY k,fY id] 96) w.heap.size n k id:=.of_block<|oO w _
theorem Ph{d c}{e}{f}(h:mo d a b H s1 s2 s3 Z d0 d1 d2 d3 d4)(j:a<d.heap.size)(k:b<d.heap.size)(ta:T a=(0,0))(l:T b=(0,0))(U:2<=i)(m:Left s i p B A T d c g e f I):
  c.c a 0=fh (hZ H)/\c.c a 1=fh (hZ s1)/\c.c a 2=fh (hZ s2)/\c.c a 3=fh (hZ s3)/\c.c a 4=fh (hZ Z)/\c.c b 0=fh (hZ d0)/\c.c b 1=fh (hZ d1)/\c.c b 2=fh (hZ d2)/\c.c b 3=fh (hZ d3)/\c.c b 4=fh (hZ d4)/\c.c B.bt 8=fh (.map<|fh B.oD):=by
 have⟨q,r,n,o,_,_⟩:=m;exact(mo.kept h (sw.qq U n) j k ta l).and o.xH.2.2
theorem Pj(F:fZ T w s i p B A g I)(ey:I+1000<1099511627776)(hF:Flat A t g.ft)(bp:fM A 5 t)(P:Good (fx rf++[N]))(G:Good (fx rt++[h])):
  ik 72 #[ii B.bt,fD<|jn (fx rf++[N]),fD<|jn (fx rt++[h])] w λl J=>l=fF (fY (QP A t g.fs (N::rf) (h::rt)).2.1)/\Left s i p B A T w J g (QP A t g.fs (N::rf) (h::rt)).1 (QP A t g.fs (N::rf) (h::rt)).2.2 (I+400):=by
 have bq:=F.st.sound;have U:=F.two;have ez:fv rf<=4:=by have:=P.len;simp at this;omega
 have eA:fv rt<=4:=by have:=G.len;simp at this;omega
 have K:=λk(br:ju w k)=>xC (s:=s) (i:=i) (p:=p) (B:=B) (A:=A) (N::rf) T k g I (F.below br) (by omega) (by rw[kL];exact P);rw[kL]at K;have⟨f1,f2,f3⟩:=ux bq hF bp g.fs (N::rf);simp only[f1,f2]at K;have d:QP A t g.fs (N::rf) (h::rt)=if(ky A t g.fs (N::rf)).2.1≠0 then((ky A t g.fs (N::rf)).1,(ky A t g.fs (N::rf)).2.1,t)else if(N::rf).reverse <+: fx (h::rt)/\N::rf≠h::rt then((ky A t g.fs (N::rf)).1,9,t) else
   if(pA A t (ky A t g.fs (N::rf)).1 rt).2.1≠0\/N::rf=h::rt then((pA A t (ky A t g.fs (N::rf)).1 rt).1,(pA A t (ky A t g.fs (N::rf)).1 rt).2.1,t) else
   if(mC A (pA A t (ky A t g.fs (N::rf)).1 rt).1 (decide (rf=rt)) (pA A t (ky A t g.fs (N::rf)).1 rt).2.2 h (ky A t g.fs (N::rf)).2.2).2≠0 then((mC A (pA A t (ky A t g.fs (N::rf)).1 rt).1 (decide (rf=rt)) (pA A t (ky A t g.fs (N::rf)).1 rt).2.2 h (ky A t g.fs (N::rf)).2.2).1,(mC A (pA A t (ky A t g.fs (N::rf)).1 rt).1 (decide (rf=rt)) (pA A t (ky A t g.fs (N::rf)).1 rt).2.2 h (ky A t g.fs (N::rf)).2.2).2,t) else
   if 5<((fv rt+1:Nat):Int)+kO A 5 (ky A t g.fs (N::rf)).2.2 then((mC A (pA A t (ky A t g.fs (N::rf)).1 rt).1 (decide (rf=rt)) (pA A t (ky A t g.fs (N::rf)).1 rt).2.2 h (ky A t g.fs (N::rf)).2.2).1,11,t) else
   ((mC A (pA A t (ky A t g.fs (N::rf)).1 rt).1 (decide (rf=rt)) (pA A t (ky A t g.fs (N::rf)).1 rt).2.2 h (ky A t g.fs (N::rf)).2.2).1,0,vy A (λY=>zr Y h (ky A t g.fs (N::rf)).2.2) (fx rt)<|vy A (λY=>rb Y N) (fx rf) t):=fX
 generalize QP A t g.fs (N::rf) (h::rt)=eB at d |-;have bs:∀{dp:b6}{c:LT},ky A t g.fs (N::rf)=(dp,0,c)->_:=λ{_ _}F=>BA F
 generalize ky A t g.fs (N::rf)=a at K f3 d bs;have⟨ar,bt,c⟩:=a;simp only at K f3 d;generalize findF A g.ft g.fs (N::rf)=dq at K f3;have⟨_,_,l,eC,eD⟩:=dq;simp only[List.headD_cons,vw]at K f3;have m:fe _:=d;have au:∀k,(Op.equalIn 10000 147 (ln<|fx rf++[N])<|ln []).run prog k=.ok fo k:=λk=>by
  have:=ir P Good.nil k
  rw[yv<|by simp]at this;exact this
 have av:∀k,(Op.equalIn 10000 147 (ln<|fx rt++[h])<|ln []).run prog k=.ok fo k:=λk=>by
  have:=ir G Good.nil k
  rw[yv<|by simp]at this;exact this
 have aQ:∀k,(Op.equalIn 10000 147 (ln<|fx rf++[N])<|ln (fx rt++[h])).run prog k=.ok (decide (fx rf++[N]=fx rt++[h])) k:=λk=>ir P G k;have aw:=λk=>gW k;have aR:=λk=>JV (fx rt++[h]) (fx rf++[N]) G P k;have ax:=λk=>jo (fx rt++[h]) G k;rw[wB]at ax;have aS:=λk=>nN (fx rt++[h]) G.val G.len k;have⟨H,s1,s2,s3,Z,aT⟩:=sk<|fx rf++[N];have⟨d0,d1,d2,d3,d4,aU⟩:=sk<|fx rt++[h];have⟨eE,eF,eG,eH,eI,bu⟩:=sk<|fx rt;unfold ln at aw au av aQ aR ax aS;simp only[aT,aU,bu]at au av aQ K aR ax aS;rw[aT,aU];unfold jn at aw au av;simp only[tW]at aw au av;have ad:fe _:=And.intro aT<|And.intro aU bu;have ce:fe _:=F;have z:fe _:=hF;have C:fe _:=bp;have cf:fe (Sound A):=bq;have hie:fe _:=K;have dr:fe (∀{tys:b6}{ds:LT},(ar,bt,c)=(tys,0,ds)->_):=bs;have du:fe _:=f3;have Q:fe _:=And.intro P G;have cg:fe _:=aQ;have ch:fe _:=aR;have dv:fe _:=ax;have dw:fe _:=aS;have⟨D,ci,cj,ck⟩:=JY w H s1 s2 s3 Z d0 d1 d2 d3 d4;have j:=mi ((w.k (ml H s1 s2 s3 Z) 147).k (ml d0 d1 d2 d3 d4) 147).drew.heap.size ((w.k (ml H s1 s2 s3 Z) 147).k (ml d0 d1 d2 d3 d4) 147).drew;have aV:fe _:=And.intro ci<|And.intro cj ck;clear F hF bp bq aT aU bu K bs P G d f1 f2 f3 aQ aR ax aS ci cj ck;go_enter func72,ntmps72;go_wp2
 go_region_held3 (λJ=>J.c w.heap.size 0=fh (hZ H)/\J.c w.heap.size 1=fh (hZ s1)/\J.c w.heap.size 2=fh (hZ s2)/\J.c w.heap.size 3=fh (hZ s3)/\J.c w.heap.size 4=fh (hZ Z)/\J.c (w.heap.size+1) 0=fh (hZ d0)/\J.c (w.heap.size+1) 1=fh (hZ d1)/\J.c (w.heap.size+1) 2=fh (hZ d2)/\J.c (w.heap.size+1) 3=fh (hZ d3)/\J.c (w.heap.size+1) 4=fh (hZ d4)) (first|exact D|exact bv) (first|(go_at_call 75;refine(aw _).via λaW dx=>?_;replace j:=gS j dx;have bv:=D.below j aV.o.1 aV.o.2.1))
 have cl:ju w aW:=gS aV.o.2.2 j;have aX:w.heap.size+1<aW.heap.size:=nz aV.o.2.1 j.size;have cm:w.heap.size<aW.heap.size:=MV aX;have t0:T w.heap.size=(0,0):=ce.o.st.fresh _<|lw _;have t1:T (w.heap.size+1)=(0,0):=ce.o.st.fresh _<|Ha _;have dy:fe _:=bv;have⟨o,q,u,v,x,c0,c1,c2,c3,c4⟩:=bv;clear D j aw au av;go_wp2_with fail;refine Hk (hie.o aW cl) λf cn=>?_;have⟨aY,ay,cp⟩:=cn.o;have bw:=sw.qq U ay;have bx:fe _:=mo.kept dy.o bw cm aX t0 t1;have az:w.heap.size+1<f.heap.size:=nz aX bw.1;have cq:w.heap.size<f.heap.size:=MV az;have cr:aY w.heap.size=(0,0):=(ay.tags _ cm).trans t0;have t13:aY (w.heap.size+1)=(0,0):=(ay.tags _ aX).trans t1;have bz:fe _:=mr cl ay;have aZ:fe _:=cp;clear cn ay cp bw o q u v x c0 c1 c2 c3 c4;have⟨o,q,u,v,x,c0,c1,c2,c3,c4⟩:=bx.o;by_cases bA:bt=0
 ·subst bA
  obtain⟨⟨rfl,rfl,rfl⟩,aA⟩:=du.o fX;have⟨E,L,ct,df,kf,cu,cv,cw⟩:=dr.o fX;have ae:fe _:=And.intro E<|And.intro ct (And.intro cu<|And.intro cv cw);clear aA E L ct cu cv cw;obtain⟨af,bB⟩:=oX c.kind;obtain⟨ag,bC⟩:=oX c.id;rw[<-bB,<-bC];have ah:fe _:=And.intro bB bC;clear bB bC;have aB:=ch.o;clear ch;by_cases ai:fx rf++[l] <+: fx rt++[h]/\fx rt++[h]≠fx rf++[l]
  ·rw[iE ai]at aB
   go_wp2_with(go_at_call 140;refine Hk (aB _) λbD aj=>?_);go_ret;have d:=m.o;rw[km<|by simp,lv (by rw[kL,kL];exact⟨ai.1,λe=>ai.2 (by rw[Ce]at e;rw[e.1,e.2])⟩)]at d;subst d;have R:=gS ((mi f.heap.size f).alloc (lw _) _) aj;exact⟨fX,iH (bz.o.trans<|fI.fK R) ((aZ.o.below R).mono (by simp;omega)) z.o C.o⟩
  rw[yv ai]at aB;have cx:ju f (f.k #[hZ l,fY af,fY ag] 96):=(mi f.heap.size f).alloc (lw _) _;have bE:f.heap.size<(f.k #[hZ l,fY af,fY ag] 96).heap.size:=by simp
  have dz:fe _:=Yy f l af ag;go_wp2_with(first
   |(go_at_call 140;refine Hk (aB _) λbD aj=>?_;have R:=gS cx aj;have dA:fe _:=mo.below bx.o R cq az;have⟨dB,dC,dD,dE,dF,dG,dH,dI,dJ,dK⟩:=dA.o;have eJ:w.heap.size+1<bD.heap.size:=nz az R.size;have eK:f.heap.size<bD.heap.size:=nz bE aj.size)
   |(go_at_call 132;refine Hk (dv.o _) λbb bF=>?_;have aC:=gS R bF))
  have bG:=gS aj bF;have dL:fe _:=mo.below bx.o aC cq az;have dM:fe _:=xI.keep dz.o λy=>(kw bG).1 f.heap.size y bE;have bc:w.heap.size+1<bb.heap.size:=nz az aC.size;have cy:w.heap.size<bb.heap.size:=MV bc;have bH:f.heap.size<bb.heap.size:=nz bE bG.size;have t53:aY f.heap.size=(0,0):=aZ.o.st.fresh _<|lw _;have ak:=uO (s:=s) (i:=i) (p:=p) (B:=B) (A:=A) rt aY bb { g with fs:=ar } _ (aZ.o.below aC) (by simp;omega) (by have:=Q.o.2.dropLast;rwa [wB]at this);rw[nI cf.o z.o C.o ar rt]at ak;rw[ad.o.2.2]at ak;have d:=m.o;rw[km<|by simp,km (by rw[kL,kL];exact λal=>ai ⟨al.1,λe=>al.2 (by have aD:=ss2 e fX;have bI:=List.append_inj_right' e fX;rw[cnf]at aD;rw[aD,ih2 bI|>.1])⟩)]at d;have bd:=qO (A:=A) (t:=t) (fs:=ar) (r:=rt);generalize pA A t ar rt=dN at ak d bd;have⟨cz,cA,Y⟩:=dN;simp only at ak d bd;clear m;have m:fe _:=d;have dO:fe _:=ak;have dP:fe _:=bd;have dQ:fe _:=bz.o.trans<|fI.fK aC;clear d ak bd o q u v x c0 c1 c2 c3 c4 dB dC dD dE dF dG dH dI dJ dK aj bF bG R cx aB aC;apply Ps dO.o;rintro e be ⟨dR,rfl,bf,aE,cC,bJ⟩;have bK:=aE.mono λ_ F=>F.mine;have aF:=sw.qq U bK;have cD:fe _:=mo.kept dL.o aF cy bc cr t13;have cE:fe _:=xI.keep dM.o<|aF.2 _ bH t53;have bg:w.heap.size+1<be.heap.size:=nz bc aF.1;have cF:w.heap.size<be.heap.size:=MV bg;have bL:f.heap.size<be.heap.size:=nz bH aF.1;have cG:bf w.heap.size=(0,0):=(aE.tags _ cy).trans cr;have t16:bf (w.heap.size+1)=(0,0):=(aE.tags _ bc).trans t13;have cH:bf f.heap.size=(0,0):=(aE.tags _ bH).trans t53;have bM:fe _:=dQ.o.trans bK;have bN:fe _:=cC;have dS:fe (oZ bf be i dR<|Y.map lL):=bJ;obtain⟨eL,eM,rfl⟩:=bJ.len;clear aE bK aF cC bJ;have⟨o,q,u,v,x,c0,c1,c2,c3,c4⟩:=cD.o;have⟨S,E,L⟩:=cE.o;by_cases bO:cA=0
  ·subst bO
   have⟨⟨dt,aA,bQ⟩,cI,cJ⟩:=dP.o fX;have bR:=cg.o;clear cg;by_cases am:fx rf++[l]=fx rt++[h]
   ·rw[iE am]at bR
    go_wp2;go_ret;have d:=m.o;have aD:=ss2 am fX;have bI:=List.append_inj_right' am fX;rw[cnf]at aD;rw[lv<|.inr (by rw[aD,(ih2 bI).1])]at d;subst d;exact⟨fX,iH bM.o (bN.o.mono (by simp;omega)) z.o C.o⟩
   rw[yv am]at bR;have bS:=hiv (c:=c) bN.o (by simp;omega) z.o C.o Q.o.1 Q.o.2 aA bQ dS.o l;rw[ad.o.1,ad.o.2.1,<-ah.o.1,<-ah.o.2,oL]at bS;have d:=m.o;rw[km (by simp;exact λdT dU=>am (by rw[dT,dU]))]at d;have bh:=Yx (A:=A) (fs:=cz) (b:=decide (rf=rt)) (Y:=Y) (n:=h) (c:=c);have aG:=bS;clear bS;simp only at aG;generalize mC A cz (decide (rf=rt)) Y h c=V at aG d bh;have⟨eN,cK⟩:=V;simp only at aG d bh;clear m;have m:fe _:=d;have dV:fe _:=aG;have dW:fe _:=bh;have bi:fe _:=And.intro aA<|And.intro bQ (And.intro cI cJ);clear d aG bh aA bQ cI cJ;go_wp2_with fail;refine Hk dV.o λM cL=>?_
   have⟨bT,an,cN⟩:=cL.o;have aH:=sw.qq U an;have W:fe _:=mo.kept cD.o aH cF bg cG t16;have X:fe _:=xI.keep cE.o<|aH.2 _ bL cH;have aa:w.heap.size+1<M.heap.size:=nz bg aH.1;have aI:w.heap.size<M.heap.size:=MV aa;have ao:f.heap.size<M.heap.size:=nz bL aH.1;have aJ:bT w.heap.size=(0,0):=(an.tags _ cF).trans cG;have t17:bT (w.heap.size+1)=(0,0):=(an.tags _ bg).trans t16;have dX:bT f.heap.size=(0,0):=(an.tags _ bL).trans cH;have bU:fe _:=bM.o.trans an;have aK:fe _:=cN;clear cL an cN aH o q u v x c0 c1 c2 c3 c4 S E L bR;by_cases bV:cK=0
   ·subst bV
    have⟨bW,cO,cQ⟩:=dW.o fX;have bX:=(tA cf.o _ C.o ae.o.1).2.1;have cS:=yy aK.o.st.gy 5 c;have cT:=zY (5-fv (fx rf++[l])) 5 c (Nat.sub_le _ _) bX;have cU:fv (fx rf++[l])+(5-fv (fx rf++[l]))<=5:=by have:=Q.o.1.len;omega
    have bj:=Tj aK.o z.o (5-fv (fx rf++[l])) c (fx rf++[l]) (Nat.sub_le _ _) bX ae.o.1 Q.o.1 cU l;rw[<-cT,ad.o.1,<-ah.o.1,<-ah.o.2]at bj;have bk:=dw.o;have cV:(fv (fx rt++[h]):Int)=((fv rt+1:Nat):Int):=by simp
    rw[cV]at bk;have d:=m.o;rw[km<|by simp]at d;clear m;have ap:=λk(br:ju M k)(al:((fv rt+1:Nat):Int)+kO A 5 c<=5)=>LV (aK.o.below br) (by simp;omega) z.o C.o Q.o.1 Q.o.2 ae.o.2.2.1 ae.o.2.2.2.1 ae.o.2.2.2.2 bi.o.1 bi.o.2.1 ((ae.o.2.1.mono bi.o.2.2.1.2.2.2.2).mono bW.2.2.2.2) (bi.o.2.2.2.mono bW.2.2.2.2) (λdY=>by
     by_cases e:fx rt++[h]=fx rf++[l];exact am e.symm;exact ai ⟨dY,e⟩) cO (λdZ=>(cQ dZ).imp id λe=>by rw[Cb e]) (by rw[Hy];exact al) l
    rw[ad.o.1,ad.o.2.1,<-ah.o.1,<-ah.o.2]at ap;have aL:fe _:=And.intro d ap;clear d ap cO cQ bW bX cT cU cV;generalize kO A 5 c=bY at bj cS aL;generalize cW:((fv rt+1:Nat):Int)=aM at bk aL;have ea:1<=aM/\aM<=5:=by omega
    have eO:fe _:=cW;clear cW;have⟨eP,eQ⟩:=cS;have⟨eR,eS⟩:=ea;have eT:IntKind.i64.wrap (aM+bY)=aM+bY:=by rw[zv]<;>omega
    have ule:fe _:=bj;have bZ:fe _:=bk;clear bj bk;have D:mo M.drew w.heap.size (w.heap.size+1) H s1 s2 s3 Z d0 d1 d2 d3 d4:=W.o;have ca:xI M.drew f.heap.size l af ag:=X.o;have j:ju M M.drew:=io<|mi _ _;have⟨o,q,u,v,x,c0,c1,c2,c3,c4⟩:=W.o;have⟨S,E,L⟩:=X.o;by_cases al:5<aM+bY
    ·go_wp2
     go_region_held3 (λJ=>J.c w.heap.size 0=fh (hZ H)/\J.c w.heap.size 1=fh (hZ s1)/\J.c w.heap.size 2=fh (hZ s2)/\J.c w.heap.size 3=fh (hZ s3)/\J.c w.heap.size 4=fh (hZ Z)/\J.c (w.heap.size+1) 0=fh (hZ d0)/\J.c (w.heap.size+1) 1=fh (hZ d1)/\J.c (w.heap.size+1) 2=fh (hZ d2)/\J.c (w.heap.size+1) 3=fh (hZ d3)/\J.c (w.heap.size+1) 4=fh (hZ d4)/\J.c f.heap.size 0=fh (hZ l)/\J.c f.heap.size 1=fh (fY af)/\J.c f.heap.size 2=fh (fY ag)) (first|exact D.and ca|exact bl|exact bm) (first
      |(go_at_call 142;refine(bZ.o _).via λeb bn=>?_;replace j:=gS j bn;have bl:=(mo.below W.o j aI aa).and (xI.keep X.o λy=>(kw j).1 f.heap.size y ao))
      |(go_at_call 143;refine(ule.o _ j).via λaN bo=>?_;replace j:=gS j bo;have bm:=(mo.below W.o j aI aa).and (xI.keep X.o λy=>(kw j).1 f.heap.size y ao)))
     go_wp2;go_ret;have d:=aL.o.1;rw[lv al]at d;subst d;exact⟨fX,iH (bU.o.trans<|fI.fK j) ((aK.o.below j).mono (by simp;omega)) z.o C.o⟩
    go_wp2
    go_region_held3 (λJ=>J.c w.heap.size 0=fh (hZ H)/\J.c w.heap.size 1=fh (hZ s1)/\J.c w.heap.size 2=fh (hZ s2)/\J.c w.heap.size 3=fh (hZ s3)/\J.c w.heap.size 4=fh (hZ Z)/\J.c (w.heap.size+1) 0=fh (hZ d0)/\J.c (w.heap.size+1) 1=fh (hZ d1)/\J.c (w.heap.size+1) 2=fh (hZ d2)/\J.c (w.heap.size+1) 3=fh (hZ d3)/\J.c (w.heap.size+1) 4=fh (hZ d4)/\J.c f.heap.size 0=fh (hZ l)/\J.c f.heap.size 1=fh (fY af)/\J.c f.heap.size 2=fh (fY ag)) (first|exact D.and ca|exact bl|exact bm) (first
     |(go_at_call 142;refine(bZ.o _).via λeb bn=>?_;replace j:=gS j bn;have bl:=(mo.below W.o j aI aa).and (xI.keep X.o λy=>(kw j).1 f.heap.size y ao))
     |(go_at_call 143;refine(ule.o _ j).via λaN bo=>?_;replace j:=gS j bo;have bm:=(mo.below W.o j aI aa).and (xI.keep X.o λy=>(kw j).1 f.heap.size y ao)))
    have⟨d,ap⟩:=aL.o;rw[km<|by omega]at d;have m:fe _:=d;have cX:=ap aN j (by omega);have cY:fe _:=cX;have aq:fe _:=mo.below W.o j aI aa;have cZ:fe _:=xI.keep X.o λy=>(kw j).1 f.heap.size y ao;have ec:fe _:=bU.o.trans<|fI.fK j;have O:w.heap.size+1<aN.heap.size:=nz aa j.size;have aO:w.heap.size<aN.heap.size:=MV O;have da:f.heap.size<aN.heap.size:=nz ao j.size;clear d ap cX aL j bl bm D ca o q u v x c0 c1 c2 c3 c4 S E L bn bo ule bZ;have⟨o,q,u,v,x,c0,c1,c2,c3,c4⟩:=aq.o;have⟨S,E,L⟩:=cZ.o;go_wp2_with fail;refine Hk cY.o λdb⟨aP,dc⟩=>?_;have ed:fe _:=mo.kept aq.o aP aO O aJ t17;have ee:fe _:=xI.keep cZ.o<|aP.2 _ da dX;have dd:fe _:=dc;have eU:w.heap.size+1<db.heap.size:=nz O aP.1;have eV:f.heap.size<db.heap.size:=nz da aP.1;clear o q u v x c0 c1 c2 c3 c4 S E L dc aP cY;have⟨o,q,u,v,x,c0,c1,c2,c3,c4⟩:=ed.o;have⟨S,E,L⟩:=ee.o;go_wp2_with fail;refine Hk dd.o λab⟨cb,de⟩=>?_;have dg:fe (mo ab w.heap.size (w.heap.size+1) H s1 s2 s3 Z d0 d1 d2 d3 d4):=mo.kept aq.o cb aO O aJ t17;have⟨ef,⟨dh,t7,_⟩,di⟩:=de ab.drew<|io (mi _ _);have eg:fe _:=di;have D:mo ab.drew w.heap.size (w.heap.size+1) H s1 s2 s3 Z d0 d1 d2 d3 d4:=dg.o;have dj:ab.drew.c B.bt 7=fh (.map<|fh B.oF):=t7;clear o q u v x c0 c1 c2 c3 c4 S E L de di ef dd;have⟨o,q,u,v,x,c0,c1,c2,c3,c4⟩:=dg.o;have eh:ab.c B.bt 7=fh (.map<|fh B.oF):=t7;have ei:B.bt<ab.heap.size:=dh;have eW:w.heap.size+1<ab.heap.size:=nz O cb.1;clear cb;go_wp2
    go_region_held3 (λJ=>J.c w.heap.size 0=fh (hZ H)/\J.c w.heap.size 1=fh (hZ s1)/\J.c w.heap.size 2=fh (hZ s2)/\J.c w.heap.size 3=fh (hZ s3)/\J.c w.heap.size 4=fh (hZ Z)/\J.c (w.heap.size+1) 0=fh (hZ d0)/\J.c (w.heap.size+1) 1=fh (hZ d1)/\J.c (w.heap.size+1) 2=fh (hZ d2)/\J.c (w.heap.size+1) 3=fh (hZ d3)/\J.c (w.heap.size+1) 4=fh (hZ d4)/\J.c B.bt 7=fh (.map<|fh B.oF)) (first|exact D.and dj|exact dk) (first
     |(go_at_call 144;refine Hk eg.o λac cc=>?_;have⟨ej,⟨eX,ek,_⟩,_⟩:=cc ac<|mi _ _;have dk:=(mo.kept aq.o ej aO O aJ t17).and ek;have el:fe _:=cc;clear cc))
    have⟨dl,⟨em,_,t8⟩,dm⟩:=el.o ac.drew<|io (mi _ _);have en:fe _:=dm;have dn:mo ac.drew w.heap.size (w.heap.size+1) H s1 s2 s3 Z d0 d1 d2 d3 d4:=mo.kept aq.o dl aO O aJ t17;have eo:fe (mo ac w.heap.size (w.heap.size+1) H s1 s2 s3 Z d0 d1 d2 d3 d4):=dn;have ep:ac.drew.c B.bt 8=fh (.map<|fh B.oD):=t8;have eY:ac.c B.bt 8=fh (.map<|fh B.oD):=t8;have eZ:B.bt<ac.heap.size:=em;clear o q u v x c0 c1 c2 c3 c4 t7 eh ei dh D dj dk dm dl;have⟨o,q,u,v,x,c0,c1,c2,c3,c4⟩:=eo.o;go_wp2
    go_region_held3 (λJ=>J.c w.heap.size 0=fh (hZ H)/\J.c w.heap.size 1=fh (hZ s1)/\J.c w.heap.size 2=fh (hZ s2)/\J.c w.heap.size 3=fh (hZ s3)/\J.c w.heap.size 4=fh (hZ Z)/\J.c (w.heap.size+1) 0=fh (hZ d0)/\J.c (w.heap.size+1) 1=fh (hZ d1)/\J.c (w.heap.size+1) 2=fh (hZ d2)/\J.c (w.heap.size+1) 3=fh (hZ d3)/\J.c (w.heap.size+1) 4=fh (hZ d4)/\J.c B.bt 8=fh (.map<|fh B.oD)) (first|exact dn.and ep|exact eq) (first
     |(go_at_call 145;refine Hk en.o λfa cd=>?_;have eq:=Ph aq.o aO O aJ t17 U cd;have er:fe _:=cd;clear cd))
    go_wp2;go_ret;have d:=m.o;subst d;refine⟨fX,?_⟩;have⟨es,et,eu,ev,ew,ex⟩:=er.o;exact⟨es,et,ec.o.trans eu,ev.mono (by simp;omega),ew,ex⟩
   have fb:(cK==0)=fo:=by simpa using bV
   go_wp2;go_ret;have d:=m.o;rw[lv bV]at d;subst d;exact⟨fX,iH bU.o (aK.o.mono (by simp;omega)) z.o C.o⟩
  have fc:(cA==0)=fo:=by simpa using bO
  go_wp2;go_ret;have d:=m.o;rw[lv<|.inl bO]at d;subst d;exact⟨fX,iH bM.o (bN.o.mono (by simp;omega)) z.o C.o⟩
 have fd:(bt==0)=fo:=by simpa using bA
 go_wp2;go_ret;have d:=m.o;rw[lv bA]at d;subst d;exact⟨fX,iH (bz.o.trans<|fI.fK ((mi f.heap.size f).alloc (lw _) _)) ((aZ.o.below<|(mi f.heap.size f).alloc (lw _) _).mono (by simp;omega)) z.o C.o⟩
def pD {a:Type}(f:Nat->a)(k:Nat)(b:a):Nat->a:=λx=>if x=k then b else f x
theorem ld{a:Type}(f:Nat->a)(k)(b:a):pD f k b k=b:=by unfold pD;rw[lv fX]
theorem kx{a:Type}{f:Nat->a}{k x:Nat}(b:x≠k)(c:a):pD f k c x=f x:=by unfold pD;rw[km b]
def vV (A:List Ob)(a:Nat->Option (Int×fO)):Prop:=∀f id d,a f=fh (id,d)->id≠0->fJ A id=1
def Yz(a):(convert 204 9<|fy fj 0 0).run prog a=.ok (hZ kq) a:=by kernel_rfl
theorem nU(h:fZ T w s i p B A g I)(m:I<1099511627776)(n:vV A g.fl)(j:g.fl f=fh x):
  ik 181 #[ii f] w λe J=>e=qr #[hZ (AC A g.fl g.fs f).2.2,fY (AC A g.fl g.fs f).2.1]/\mm s i p B A T w J { g with fs:=(AC A g.fl g.fs f).1 } (I+1):=by
 have⟨id,d⟩:=x;have⟨o,a,q⟩:=h.wp.files f id d j;have k:AC A g.fl g.fs f=if id=0 then(g.fs,0,d)else if(g.fs.gO id).2 then((g.fs.gO id).1,0,bytesOf A id) else((g.fs.gO id).1,14,kq):=by
  grind [AC]
 have c1:w.c f 1=fh (fY id):=by simp[World.cell?,a]
 by_cases hid:id=0;rw[k,lv hid];subst hid;have c2:w.c f 2=fh (hZ d):=by simp[World.cell?,a]
 exact(JG f d w c1 c2).mono λe J⟨b,c⟩=>⟨b,by rw[c];exact rz (h.mono<|Ha _)<|mi _ _⟩;rw[k,km hid];have c0:w.c f 0=fh (ii B.sF):=by simp[World.cell?,a,hid]
 have l:ju w w.drew:=io<|mi _ _;refine(XO f B.sF id (if(g.fs.gO id).2 then 0 else 14) (if(g.fs.gO id).2 then bytesOf A id else kq) (λJ=>mm s i p B A T w J { g with fs:=(g.fs.gO id).1 }<|I+1) w ((lH.1 a).1) c0 c1 hid ((hdf (h.below l) m<|n f id d j hid).mono λe J⟨b,c⟩=>⟨b,mm.via l c⟩)).mono λe J⟨b,c⟩=>?_
 grind
theorem Iy{x y z:fu}{t:ni}(a:w.heap[f]?=fh (.cells #[x,y,z] t (0,0)))(d):(mZ w f d).heap[f]?=fh (.cells #[fB fj,fY 0,hZ d] t (0,0)):=by
 unfold mZ;have b:=Wy _ f 1 _ t (fY 0)<|Wy w f 0 _ t (fB fj) a;have c:=Wy _ f 2 _ t (hZ d) b
 grind
theorem zj(w:fq)(f)(d):w.grownBy (mZ w f d) (fh f):=by
 grind [mZ,sq,Hd]
def LW(w)(f)(d):(mZ w f d).heap.size=w.heap.size:=by unfold mZ;simp
theorem fZ.Ge(j:fZ T w s i p B A g I)(z:g.fl f=fh x){d:fO}(M:d.size<=256):
  fI (λt=>t=(i,6)) T T w (mZ w f d)/\fZ T (mZ w f d) s i p B A { g with fl:=pD g.fl f (fh (0,d)) } I:=by
 have⟨id,d0⟩:=x;have⟨C,_⟩:=j.wp.files f id d0 z;have m:fI (λt=>t=(i,6)) T T w (mZ w f d):=WP (zj w f d) (LW w f d) C;have c:=j.wp;have r:∀a,(∃x,g.fl a=fh x)->∃x,pD g.fl f (fh (0,d)) a=fh x:=λa⟨x,D⟩=>by
  by_cases e:a=f;subst e;exact⟨_,ld _ _ _⟩;exact⟨x,by rw[kx e];exact D⟩
 refine⟨m,j.two,j.st.moves m (λe=>by cases e) (λe=>by cases e),⟨c.tree.moves m (λe=>by cases e),c.nP.moves m (λe=>by cases e),c.nQ.moves m (λe=>by cases e),c.uf.moves m (λe=>by cases e),?_,λa u v E=>?_,λq a F=>r a<|c.held q a F,?_,c.ok⟩⟩;have⟨O,G⟩:=c.qo;exact⟨O,G.moves m λe=>by cases e⟩;by_cases e:a=f
 grind [pD,ld,Iy]
 have y:pD g.fl f (fh (0,d)) a=fh (u,v):=E;rw[kx e]at y;have⟨n,l,o⟩:=c.files a u v y;refine⟨n,?_,o⟩;rw[(zj w f d).block a (lH.1 l).1 λH=>e (by cases H;rfl)];exact l;have h:=c.opens.moves m (λe=>by cases e) (λe=>by cases e);exact⟨h.tw,h.hw,h.past,λk b a fg J K=>by
  have⟨n,l,o,L⟩:=h.at_ k b a fg J K;exact⟨n,l,r a o,L⟩,h.inj⟩
theorem CI(b:fZ T w s i p B A g I)(c:g.fl f=fh x):
  ik 179 #[ii f] w λe J=>e=qr #[]/\fI (λt=>t=(i,6)) T T w J/\fZ T J s i p B A { g with fl:=pD g.fl f (fh (0,kq)) } I:=by
 have⟨id,d0⟩:=x;have⟨j,a,_⟩:=b.wp.files f id d0 c;refine(SE f _ _ _ w (lH.1 a).1 (by simp[World.cell?,a];rfl) (by simp[World.cell?,a];rfl) (by simp[World.cell?,a];rfl) (λk=>by simp[World.frozen?,a])<|Yz w).mono λe J⟨d,h⟩=>⟨d,?_⟩;rw[h];exact b.Ge c (by simp[ByteArray.size])
theorem JZ{d:Nat×Nat->Prop}(c)(t):fI d T (kV T w.heap.size t) w (w.alloc c):=by
 have a:ju w (w.alloc c):=(mi _ _).alloc (lw _) _;refine⟨a.os,a.tape,a.output,a.size,λk b=>xt (by omega) _,λk b _=>a.block k b,λe k b=>?_⟩;rw[zu]at b;rw[xt<|by omega];exact e k<|by omega
theorem fZ.Pk(d:fZ T w s i p B A g I)(id:Int):
  fI (λ_=>False) T (kV T w.heap.size (i,6)) w (w.k #[fB<|if id=0 then fj else fh (ie B.sF 0),fY id,hZ kq] 308)/\
  fZ (kV T w.heap.size (i,6)) (w.k #[fB<|if id=0 then fj else fh (ie B.sF 0),fY id,hZ kq] 308) s i p B A { g with fl:=pD g.fl w.heap.size (fh (id,kq)) } I:=by
 have m:fI (λ_=>False) T (kV T w.heap.size (i,6)) w (w.k #[fB<|if id=0 then fj else fh (ie B.sF 0),fY id,hZ kq] 308):=JZ _ _;have f:=d.wp;have c:=f.moves m λ_ x=>x;have h:∀a,(∃x,g.fl a=fh x)->∃x,pD g.fl w.heap.size (fh (id,kq)) a=fh x:=λa⟨x,o⟩=>by
  by_cases e:a=w.heap.size;subst e;exact⟨_,ld _ _ _⟩;exact⟨x,by rw[kx e];exact o⟩
 refine⟨m,d.two,d.st.moves m (λx=>x) λx=>x,⟨c.tree,c.nP,c.nQ,c.uf,c.qo,λa j l r=>?_,λq a t=>h a<|f.held q a t,⟨c.opens.tw,c.opens.hw,c.opens.past,λk b a fg u v=>?_,c.opens.inj⟩,c.ok⟩⟩;by_cases e:a=w.heap.size
 grind [pD,ByteArray,ld,nu,heap_alloc_new,ByteArray.size]
 have n:pD g.fl w.heap.size (fh (id,kq)) a=fh (j,l):=r;rw[kx e]at n;exact c.files a j l n;obtain⟨y,z,C,D⟩:=c.opens.at_ k b a fg u v;exact⟨y,z,h a C,D⟩
theorem fZ.Ka(b:fZ T w s i p B A g I)(z:I<maxLen)(k:Good q)(C:g.fl f=fh x):
  ∃J,(Instr.mapUpdate 161 (.map<|fh B.oF) (fD<|jn q)<|ii f).run prog w=.ok () J/\fI (λt=>t=(i,4)) T T w J/\fZ T J s i p B A { g with ft:={ g.ft with of:=upd g.ft.of q (fh f) } } (I+1):=by
 obtain⟨d,⟨n,D,l⟩,E⟩:=b.wp.uf;obtain⟨J,o,r,u,v⟩:=l.store k (by omega) underlying161<|ii f;have m:fI (λt=>t=(i,4)) T T w J:=WP u v d;have a:=(b.mono<|Ha I).wp;obtain⟨O,y⟩:=a.qo;refine⟨J,o,m,b.two,(b.st.mono<|Ha I).moves m (λe=>by cases e) (λe=>by cases e),⟨a.tree.moves m (λe=>by cases e),a.nP.moves m (λe=>by cases e),a.nQ.moves m (λe=>by cases e),⟨d,⟨n+1,by omega,r.congr λx c=>?_⟩,λx f c=>?_⟩,⟨O,y.moves m λe=>by cases e⟩,a.files.moves m (λe=>by cases e),λx h c=>?_,a.opens.moves m (λe=>by cases e) (λe=>by cases e),⟨a.ok.root,a.ok.od⟩⟩⟩
 grind [upd,ptr,Option.map,upd_same,kh]
 grind [upd,kh]
 by_cases e:x=q
 grind [upd,upd_same]
 have j:upd g.ft.of q _ x=fh h:=c;rw[kh e]at j;exact a.held x h j
def Ds(a:k<8):k=0\/k=1\/k=2\/k=3\/k=4\/k=5\/k=6\/k=7:=by omega
theorem yw.tab{b}(c:yw T w i B b op):nO w B.wb (λk=>(op k).map (·.1))/\w.c B.wb 0=fh (ptr B.bt):=by
 have a:=c.hw;refine⟨⟨(lH.1 a).1,λk d=>?_,λe=>by simp[World.frozen?,a]⟩,by simp[World.cell?,a]⟩;rcases Ds d with rfl|rfl|rfl|rfl|rfl|rfl|rfl|rfl<;>simp[World.cell?,a,Bo,Function.comp_def]
def VF{b:Nat}{x:fu}{t:ni}(c:w.heap[b]?=fh (.cells #[x,Bo<|op 0,Bo<|op 1,Bo<|op 2,Bo<|op 3,Bo<|op 4,Bo<|op 5,Bo<|op 6,Bo<|op 7] t (0,0)))(d:k<8)(a:Option (Nat×Nat×Int×Int)):
  (w.setCell (ie b<|1+k)<|Bo a).heap[b]?=fh (.cells #[x,Bo<|pD op k a 0,Bo<|pD op k a 1,Bo<|pD op k a 2,Bo<|pD op k a 3,Bo<|pD op k a 4,Bo<|pD op k a 5,Bo<|pD op k a 6,Bo<|pD op k a 7] t (0,0)):=by
 rw[Wy w b (1+k) _ t (Bo a) c];rcases Ds d with rfl|rfl|rfl|rfl|rfl|rfl|rfl|rfl<;>simp[pD]
theorem fZ.close(h:fZ T w s i p B A g I)(n:k<8):
  fI (λt=>t=(i,0)) T T w (w.setCell (ie B.wb<|1+k)<|fB fj)/\fZ T (w.setCell (ie B.wb<|1+k)<|fB fj) s i p B A { g with op:=pD g.op k fj } I:=by
 have U:=h.two;have a:=h.wp;have o:w.grownBy (w.setCell (ie B.wb<|1+k)<|fB fj) (fh B.wb):=sq<|Hd w _;have m:fI (λt=>t=(i,0)) T T w (w.setCell (ie B.wb<|1+k)<|fB fj):=WP o (by simp) a.opens.tw;have j:∀c x,pD g.op k fj c=fh x->c≠k/\g.op c=fh x:=λc x d=>by
  by_cases e:c=k;subst e;rw[ld]at d;cases d;rw[kx e]at d;exact⟨e,d⟩
 obtain⟨O,q⟩:=a.qo;refine⟨m,h.two,h.st.moves m (λe=>by cases e;omega) (λe=>by cases e),⟨a.tree.moves m (λe=>by cases e),a.nP.moves m (λe=>by cases e),a.nQ.moves m (λe=>by cases e),a.uf.moves m (λe=>by cases e),⟨O,q.moves m λe=>by cases e⟩,a.files.moves m (λe=>by cases e),a.held,⟨a.opens.tw,VF a.opens.hw n fj,λc d=>?_,λc b f fg r d=>?_,λc l x y d u e=>a.opens.inj c l x y (j c x d).2 (j l y u).2 e⟩,a.ok⟩⟩;show pD g.op k fj c=fj;rw[kx<|by omega];exact a.opens.past c d;obtain⟨e,v⟩:=j c _ d;obtain⟨z,C,D⟩:=a.opens.at_ c b f fg r v;obtain⟨E,F⟩:=m.at C z (λe=>by cases e)
 grind
theorem fZ.place(q:fZ T w s i p B A g I){fg F VG:Int}(h:g.op k=fh (b,f,fg,F))(K:0<=VG)(L:VG<=256):
  fI (λt=>t=(i,7)) T T w (w.setCell (ie b 2)<|fY VG)/\fZ T (w.setCell (ie b 2)<|fY VG) s i p B A { g with op:=pD g.op k (fh (b,f,fg,VG)) } I:=by
 have c:=q.wp;obtain⟨G,M,N,P,Q,_⟩:=c.opens.at_ k b f fg F h;have H:w.grownBy (w.setCell (ie b 2)<|fY VG) (fh b):=sq<|Hd w _;have m:fI (λt=>t=(i,7)) T T w (w.setCell (ie b 2)<|fY VG):=WP H (by simp) G;obtain⟨O,R⟩:=c.qo;have X:∀a,Bo (pD g.op k (fh (b,f,fg,VG)) a)=Bo (g.op a):=λa=>by
  by_cases e:a=k;subst e;rw[ld,h];rfl;rw[kx e]
 have Y:=(m.at c.opens.hw c.opens.tw λe=>by cases e).1;refine⟨m,q.two,q.st.moves m (λe=>by cases e) (λe=>by cases e),⟨c.tree.moves m (λe=>by cases e),c.nP.moves m (λe=>by cases e),c.nQ.moves m (λe=>by cases e),c.uf.moves m (λe=>by cases e),⟨O,R.moves m λe=>by cases e⟩,c.files.moves m (λe=>by cases e),c.held,⟨c.opens.tw,?_,λa d=>?_,λa n r u v d=>?_,λa l x y d S e=>?_⟩,c.ok⟩⟩
 grind
 show pD g.op k _ a=fj;have z:a≠k:=λe=>by rw[<-e,c.opens.past a d]at h;cases h
 rw[kx z];exact c.opens.past a d;by_cases e:a=k;subst e;have j:pD g.op a (fh (b,f,fg,VG)) a=fh (n,r,u,v):=d;rw[ld]at j;cases j;refine⟨G,?_,N,P,Q,K,L⟩
 have:=Wy w b 2 _ 277 (fY VG) M
 grind
 have j:pD g.op k _ a=fh (n,r,u,v):=d;rw[kx e]at j;obtain⟨C,D,U⟩:=c.opens.at_ a n r u v j;refine⟨C,?_,U⟩;have z:n≠b:=λE=>e<|c.opens.inj a k _ _ j h E;rw[H.block n (lH.1 D).1 λE=>z (by cases E;rfl)];exact D;have J:∀a x,pD g.op k (fh (b,f,fg,VG)) a=fh x->∃o,g.op a=fh o/\o.1=x.1:=λa x d=>by
  by_cases e:a=k;subst e;rw[ld]at d;cases d;exact⟨_,h,fX⟩;rw[kx e]at d;exact⟨x,d,fX⟩
 obtain⟨o,C,D⟩:=J a x d;obtain⟨V,W,Z⟩:=J l y S;exact c.opens.inj a l o V C W<|by omega
theorem fZ.aar(o:fZ T w s i p B A g I)(D:k<8)(E:g.fl f=fh x)(F:0<=fg)(G:fg<64):
  fI (λt=>t=(i,0)) T (kV T w.heap.size (i,7)) w ((w.setCell (ie B.wb<|1+k)<|ii w.heap.size).k #[ii f,fY fg,fY 0] 277)/\
  fZ (kV T w.heap.size (i,7)) ((w.setCell (ie B.wb<|1+k)<|ii w.heap.size).k #[ii f,fY fg,fY 0] 277) s i p B A { g with op:=pD g.op k (fh (w.heap.size,f,fg,0)) } I:=by
 have U:=o.two;have b:=o.wp;have H:w.grownBy (w.setCell (ie B.wb<|1+k)<|ii w.heap.size) (fh B.wb):=sq<|Hd w _;have J:(w.setCell (ie B.wb<|1+k)<|ii w.heap.size).heap.size=w.heap.size:=by simp
 have K:fI (λt=>t=(i,0)) T T w (w.setCell (ie B.wb<|1+k)<|ii w.heap.size):=WP H J b.opens.tw;have L:fI (λt=>t=(i,0)) T (kV T w.heap.size (i,7)) (w.setCell (ie B.wb<|1+k)<|ii w.heap.size) ((w.setCell (ie B.wb<|1+k)<|ii w.heap.size).k #[ii f,fY fg,fY 0] 277):=by
  grind [JZ]
 have m:=K.trans L;have M:((w.setCell (ie B.wb<|1+k)<|ii w.heap.size).k #[ii f,fY fg,fY 0] 277).heap[w.heap.size]?=fh (.cells #[ii f,fY fg,fY 0] 277 (0,0)):=by
  grind [oO]
 have N:=(lH.1 b.opens.hw).1;obtain⟨O,P⟩:=b.qo;have V:∀a x,g.op a=fh x->x.1<w.heap.size:=λa x c=>by
  obtain⟨d,h,j,Q⟩:=x;exact(lH.1 (b.opens.at_ a d h j Q c).2.1).1
 refine⟨m,o.two,o.st.moves m (λe=>by cases e;omega) (λe=>by cases e),⟨b.tree.moves m (λe=>by cases e),b.nP.moves m (λe=>by cases e),b.nQ.moves m (λe=>by cases e),b.uf.moves m (λe=>by cases e),⟨O,P.moves m λe=>by cases e⟩,b.files.moves m (λe=>by cases e),b.held,⟨?_,?_,λa c=>?_,λa d h j u c=>?_,λa l x y c R e=>?_⟩,b.ok⟩⟩;exact(m.tags _ N).trans b.opens.tw;have S:=VF b.opens.hw D<|fh (w.heap.size,f,fg,0);rw[<-S];exact((mi _ _).alloc (lw _) _:Below (w.setCell (ie B.wb<|1+k)<|ii w.heap.size).heap.size _ _).block B.wb (by omega);show pD g.op k _ a=fj;rw[kx<|by omega];exact b.opens.past a c;by_cases e:a=k;subst e;have n:pD g.op a (fh (w.heap.size,f,fg,0)) a=fh (d,h,j,u):=c;rw[ld]at n;cases n;exact⟨nu _ _ _,M,⟨_,E⟩,F,G,wE _,by decide⟩;have n:pD g.op k _ a=fh (d,h,j,u):=c;rw[kx e]at n;obtain⟨q,r,W⟩:=b.opens.at_ a d h j u n;obtain⟨v,z⟩:=m.at r q (λe=>by cases e)
 grind
 have C:∀a x,pD g.op k (fh (w.heap.size,f,fg,0)) a=fh x->(a=k/\x.1=w.heap.size)\/(a≠k/\g.op a=fh x):=λa x c=>by
  by_cases e:a=k;subst e;rw[ld]at c;cases c;exact .inl ⟨fX,fX⟩;rw[kx e]at c;exact .inr ⟨e,c⟩
 rcases C a x c with⟨q,r⟩|⟨q,r⟩<;>rcases C l y R with⟨v,z⟩|⟨v,z⟩
 rw[q,v]
 grind
 grind
 exact b.opens.inj a l x y r z e
theorem CB.look_ok{of:fQ->Option Nat}(c:CB T w i B of I)(d:Good q){a}(e:ju w a):
  (Instr.lookup 161 (.map<|fh B.oF) (fD<|jn q) fm).run prog a=.ok (fC #[((of q).map ptr).getD<|fB fj,fE (of q).isSome]) a:=by
 have⟨_,⟨n,_,f,b,g,_⟩,_⟩:=c
 have:=(b.keep (J:=a)<|e.block _ b.lt).look_ok yT underlying161 (LQ a)<|Bu d
 grind
theorem YA(b:fZ T w s i p B A g I)(d:Good q)(e:g.ft.of q=fh f):
  ik 178 #[ii B.bt,fD<|jn q] w λh J=>h=fF (ii f)/\ju w J:=by
 have a:ju w (w.k (jn q) 147).drew:=io<|(mi _ _).alloc (lw _) _;have c:=b.wp.uf.look_ok d a;rw[e]at c;have⟨l,_⟩:=b.xH;have⟨H,s1,s2,s3,Z,j⟩:=sk q;rw[j]at c a |-;simp only[qA,jI,Option.isSome_some,ptr]at c;have k:fe _:=a;clear b a;go_enter func178,ntmps178;go_wp2
 go_region
 all_goals
  go_wp2;go_ret;exact⟨fX,k⟩
def hi2(b:fP es)(a:kA es n=fm){hix:ui es n<fv es}(c:(es[ui es n]).2.1=1):mI es n=zr es n (1,0):=by
 rw[FU a,<-OP b a hix,c]
theorem hi4{O:fQ->fu}(l:fZ T w s i p B A g I)(v:gD T w i B g.ft.od I O)(y:I<maxLen)(z:Good (q++[n])){b c d:Nat}(m:g.ft.od q=fh es)(C:O q=my b 0 (fv es) c)(h:kA es n=fm)(D:ui es n=d)(E:∀e∈es,e.1=n->e.2.1=1)(hid:id≠0):
  ∃a o,(Instr.mapUpdate 161 (.map<|fh B.oF) (fD<|jn (q++[n]))<|ii w.heap.size).run prog ((w.k #[ii B.sF,fY id,hZ kq] 308).setCell (ie b<|d*3+2)<|fY 0).drew=.ok () a/\fI (Mine i) T o w a/\
   fZ o a s i p B A { g with ft:={ g.ft with od:=upd g.ft.od q<|fh (zr es n (1,0)),of:=upd g.ft.of (q++[n]) (fh w.heap.size) },fl:=pD g.fl w.heap.size (fh (id,kq)) } (I+1):=by
 have⟨j,r⟩:=l.Pk id;rw[km hid]at j r;have⟨k,K,t⟩:=JR r (v.moves j λx=>x) m C h;have⟨hix,F⟩:=qp h;rw[D]at k t;rw[hi2 (l.fT m).rising h (hix:=hix)<|E _ (kK hix) F]at k;have u:Below ((w.k #[ii B.sF,fY id,hZ kq] 308).setCell (ie b<|d*3+2)<|fY 0).heap.size _ ((w.k #[ii B.sF,fY id,hZ kq] 308).setCell (ie b<|d*3+2)<|fY 0).drew:=io<|mi _ _;have⟨a,G,H,J⟩:=(k.below u).Ka y z (f:=w.heap.size) (x:=(id,kq))<|ld _ _ _;exact⟨a,_,G,(j.mono λ_ x=>x.elim).trans<|(t.mono pFn).trans ((fI.fK u).trans<|H.mono hiu),J⟩
theorem YB(k:fZ T w s i p B A g I)(bW:I+300<1099511627776)(hF:Flat A t g.ft)(D:fM A 5 t)(o:Good (q++[n]))(y:t.at A q=fh d)(r:kids A d=fh Y)(ah:gU A t g.fs q)(z:jp Y n=fh (.file id)):
  ik 178 #[ii B.bt,fD<|jn (q++[n])] w λbc J=>∃f M ax,bc=fF (ii f)/\w.heap.size<=f/\fI (Mine i) T M w J/\
   fZ M J s i p B A { g with ft:=ax,fl:=pD g.fl f (fh (id,kq)) } (I+200)/\Flat A (vy A (λY=>zr Y n<|.held f) q t) ax:=by
 have u:=k.st.sound;have U:=k.two;have bd:Good q:=by have:=o.dropLast;rwa [wB]at this
 have bX:fv q<=4:=by have:=o.len;simp at this;omega
 have ai:=(tA u _ D y).2.1;have N:=(lO u ai r).1;have aj:=iy u hF D y r ah;have Q:=lN y r;have ak:oU A (oQ A t q):=by rw[Q];exact yz u ai r
 have al:kA (oQ A t q) n=fm:=by rw[Q,jc,<-rh N,z];rfl
 obtain⟨C,ay⟩:=LN N z;have am:t.at A (q++[n])=fh (.file id):=by rw[lx,y,wy,lh,r,wy,z,wy,pd]
 have hid:id≠0:=by
  have az:=(tA u _ D am).2.1;have be:fJ A id=1:=by cases bf:5-fv (q++[n])<;>(rw[bf]at az;simpa [fM]using az)
  have:=Vn be<|by decide
  omega
 have aA:g.ft.of (q++[n])=fj:=by rw[hF.of,am];rfl
 have aB:=λf=>Xe u hF D y r ah z f;obtain⟨bg,bh,an,bi⟩:=rY aj;have R:ju w (w.k (jn<|q++[n]) 147).drew:=io<|(mi _ _).alloc (lw _) _;have S:=k.wp.uf.look_ok o R;rw[aA]at S;simp only[ihi,WA,Fix]at S;obtain⟨O,aC⟩:=k.wp.qo;have V:=λl(W:ju w l)=>uP (s:=s) (i:=i) (p:=p) (B:=B) (A:=A) (fx q) T l g I (oQ A t) O (k.below W) (aC.moves (fI.fK (P:=λ_=>False) W) λx=>x) (by rw[Hy];omega) (by rw[uo];exact bd) (by rw[uo];exact aj);rw[uo,Hy]at V;have X:=λl=>jo (q++[n]) o l;have aa:=λl=>mO (q++[n]) o (by simp) l;rw[wB]at X;simp only[KV]at aa;obtain⟨H,s1,s2,s3,Z,ab⟩:=sk<|q++[n];obtain⟨bY,bZ,ca,cb,cc,ao⟩:=sk q;unfold ln at X aa;simp only[ab,ao]at X aa V S R;rw[ab];obtain⟨cd,t7,_⟩:=k.xH;have bj:I+20*(fv q+1)<maxLen:=by unfold maxLen;omega
 rw[Q]at ak al an;generalize aD:ui (Y.map lL) n=h at C;have aE:(Y.map lL)[h]'C=(n,1,id):=ay;have aF:∀e∈Y.map lL,e.1=n->e.2.1=1:=by
  intro e bk bl;obtain⟨x,bm,rfl⟩:=jC.1 bk
  have:=nJ N z bm bl
  show x.2.kind=1;rw[this];rfl
 have aG:fe _:=aD;have bn:fe ((Y.map lL)[h]'C=(n,1,id)):=aE;have bo:fe _:=aF;have ce:fe _:=ao;have bp:fe _:=ab;have cf:fe _:=k;have bq:fe _:=V;have ap:fe _:=an;have aH:fe _:=ak;have aI:fe _:=al;have br:fe _:=o;have Bj:fe _:=k.st.fresh;have bs:fe _:=aB;clear aD k aC V bg bh an bi ak al ab ao aj hF D y r ah z aB u ai N Q am aA ay aE aF o;go_enter func178,ntmps178;go_wp2
 go_region
 have bt:fe _:=R;have aJ:w.heap.size<(w.k (ml H s1 s2 s3 Z) 147).drew.heap.size:=by simp
 have bu:fe (uR (w.k (ml H s1 s2 s3 Z) 147).drew w.heap.size H s1 s2 s3 Z):=by
  obtain⟨_,bv,E,bw,bx,bz,_⟩:=ug<|oO w (.cells (ml H s1 s2 s3 Z) 147);exact⟨bv,E,bw,bx,bz⟩
 clear R S;go_wp2_with(first
  |(go_at_call 132;refine(X _).via λbA ac=>?_;have E:=gS bt ac;have aq:=nz aJ ac.size;have bB:fe _:=uR.keep bu.o λv=>(kw ac).1 w.heap.size v aJ))
 refine Ps (bq bA E) ?_;rintro e F ⟨cg,rfl,bC,ch,G,K,ar,aK,bD⟩;have aL:fe _:=uR.keep bB<|Hn (b:=w.heap.size) U G aq (Bj.o _<|lw _);have bE:bC w.heap.size=(0,0):=(G.tags _ aq).trans<|Bj _ (lw _);have aM:w.heap.size<F.heap.size:=nz aq G.size;have m:=ar.row _ _ ap;obtain⟨c,ci,au⟩:=hh m.1 (by omega);rw[au]at aK m;subst aK;have ad:c<F.heap.size:=gc m.1 fX;have cj:=FW bE (m.2 c fX)<|hgB i;have ck:=FW K.wp.tree.tt (m.2 c fX)<|typ i;have aN:=K.xH;have aO:F.cell? (ie B.bt 1)=fh (ii B.sF):=by simp[World.cell?,K.wp.tree.ht,ptr]
 have bF:fe (F.cell? (ie c<|h*3+2)=fh (fY id)):=by
  have:=JS m.1 C
  rw[bn.o]at this;exact this
 have bG:fe _:=K;have bH:fe _:=mr E G;have HD3:fe _:=ar;have ae:fe _:=m;have bI:fe _:=au;have L:fe _:=And.intro aN aO;have cl:h<fv Y:=by simpa using C
 clear K G ar m au bD ac E aN aO;rw[oL];obtain⟨aP,aQ,aR,aS,aT⟩:=aL.o;have av:=λl(W:ju F l)=>iL (gg ae.1 λbJ bK=>W.block bJ<|gc ae.1 bK) n aH.o.rising aH.len
 rw[oL]at av
 change fe _ at av
 go_wp2_with(first
  |(go_at_call 134;refine(aa _).via λcm aw=>?_)
  |(go_at_call 133;go_loud(refine Ps (av _ aw) ?_;rintro e a ⟨rfl,aU⟩;rw[aG.o,aI.o];have j:=gS aw aU)))
 have af:=io j;have bL:w.heap.size<a.heap.size:=nz aM j.size;have bM:B.bt<a.heap.size:=nz L.o.1.1 j.size;have aV:c<a.heap.size:=nz ad j.size;have bN:fe (uR a w.heap.size H s1 s2 s3 Z):=uR.keep aL λv=>(kw j).1 w.heap.size v aM;have d1:a.cell? (ie B.bt 1)=fh (ii B.sF):=((kw j).1 _ _ L.1.1).trans L.o.2;have d7:a.cell? (ie B.bt 7)=fh (.map<|fh B.oF):=((kw j).1 _ _ L.o.1.1).trans L.o.1.2.1;have aW:a.cell? (ie c<|h*3+2)=fh (fY id):=((kw j).1 _ _ ad).trans bF;have fg:∀v,a.frozen? (ie c v)=fo:=λv=>((kw j).2 _ _ ad).trans<|zW ae.o.1 v;have cn:∃x,a.cell? (ie c<|h*3)=fh x:=⟨_,((kw j).1 _ _ ad).trans (FY ae.o.1 C).1⟩;obtain⟨bO,bQ,ag,aX,aY⟩:=hi4 (bG.below af) (HD3.o.moves (fI.fK (P:=λ_=>False) af) λx=>x) bj br ap bI.o aI aG bo.o hid;rw[bp.o]at ag;have bR:=OD B.sF id a.drew;have aZ:fe _:=And.intro ((bH.trans<|fI.fK af).trans aX) aY;have bS:w.heap.size<=a.heap.size:=Ef bL;clear aP aQ aR aS aT aX aY af aw aU;obtain⟨aP,aQ,aR,aS,aT⟩:=bN;have bT:a.drew.cell? (ie B.bt 1)=fh (ii B.sF)/\a.drew.cell? (ie c<|h*3+2)=fh (fY id):=⟨d1,aW⟩;have bU:(a.drew.alloc<|.cells #[ii B.sF,fY id,hZ kq] 308).cell? (ie B.bt 1)=fh (ii B.sF)/\(a.drew.alloc<|.cells #[ii B.sF,fY id,hZ kq] 308).cell? (ie c<|h*3+2)=fh (fY id):=⟨by rw[st2 _ _ _ (by exact bM)];exact d1,by rw[st2 _ _ _ (by exact aV)];exact aW⟩
 go_region_held3 (λJ=>J.cell? (ie B.bt 1)=fh (ii B.sF)/\J.cell? (ie c<|h*3+2)=fh (fY id)) (first|exact bT|exact bU) (first
  |(go_at_call 211;refine Ps bR ?_;rintro e cp ⟨rfl,rfl⟩))
 have bV:((a.drew.alloc<|.cells #[ii B.sF,fY id,hZ kq] 308).setCell (ie c<|h*3+2)<|fY 0).drew=((a.setCell (ie c<|h*3+2)<|fY 0).k #[ii B.sF,fY id,hZ kq] 308).drew.drew:=by simp[go_sem,aV]
 rw[bV]at ag;replace ag:(Instr.mapUpdate 161 (.map<|fh B.oF) (fD<|ml H s1 s2 s3 Z)<|ii a.heap.size).run prog ((a.setCell (ie c<|h*3+2)<|fY 0).k #[ii B.sF,fY id,hZ kq] 308).drew.drew=.ok () bO:=ag;go_wp2
 go_region
 all_goals
  go_wp2;go_ret;exact⟨a.heap.size,bQ,_,fX,bS,aZ.o.1,aZ.2.mono<|by omega,by have bb:=bs a.heap.size;rw[ap.o,jI]at bb;exact bb⟩
def Pm(a)(H s1 s2 s3 Z)(m:Int)(w:fq)(c:16<=m):
  ik 177 #[ii a,fD<|ml H s1 s2 s3 Z,fY m] w λb J=>b=qr #[fB fj,fY 11]/\ju w J:=by
 go_enter func177,ntmps177;go_wp2;go_ret2;exact⟨fX,(mi _ _).alloc (lw _) _⟩
def VH(A)(n f):fM A n (.held f):=by cases n<;>simp[fM]
theorem Tp(a:fZ T w s i p B A g I)(ax:I+500<1099511627776)(hF:Flat A t g.ft)(l:fM A 5 t)(v:Good (q++[n]))(j:t.at A q=fh d)(c:kids A d=fh Y)(y:gU A t g.fs q)(z:jp Y n=fj)(af:fv Y<16)(m:Int)(ay:m<16):
  ik 177 #[ii B.bt,fD<|jn (q++[n]),fY m] w λag J=>∃f M N,ag=qr #[ii f,fY 0]/\w.heap.size<=f/\fI (Mine i) T M w J/\
   fZ M J s i p B A { g with ft:=N,fl:=pD g.fl f (fh (0,kq)) } (I+200)/\Flat A (vy A (λY=>zr Y n<|.held f) q t) N:=by
 have h:=a.st.sound;have U:=a.two;have C:=(tA h _ l j).2.1;have Q:=(lO h C c).1;have R:=iy h hF l j c y;have o:=lN j c;have S:oU A (oQ A t q):=by rw[o];exact yz h C c
 have V:kA (oQ A t q) n=fo:=by rw[o,jc,<-rh Q,z];rfl
 have W:fv (oQ A t q)<16:=by rw[o,oL];exact af
 have X:=λf=>NG h hF l j c y z f;obtain⟨O,aa⟩:=a.wp.qo;have D:=λE(ab:ju w E)=>LL (a.below ab) (aa.moves (fI.fK (P:=λ_=>False) ab) λx=>x) (by omega) v R S V W kq 1 0 ⟨.inl fX,λah=>absurd fX ah⟩;obtain⟨H,s1,s2,s3,Z,r⟩:=sk<|q++[n];simp only[r]at D;rw[r];have Bj:fe _:=a.st.fresh;have ai:fe _:=v;have aj:I+150<maxLen:=by unfold maxLen;omega
 change fe _ at r D X
 clear a aa hF l R o S V W j c y z h C Q v;have ak:=λE=>SD E
 go_enter func177,ntmps177;go_wp2_with fail;refine Ps (D _<|(mi w.heap.size w).alloc (lw _) _) ?_;rintro e k ⟨rfl,az,aA,u,F,al⟩;have am:fe (uR (w.k (ml H s1 s2 s3 Z) 147) w.heap.size H s1 s2 s3 Z):=by
  have⟨_,an,ao,ap,aq,ar,_⟩:=ug<|oO w (.cells (ml H s1 s2 s3 Z) 147);exact⟨an,ao,ap,aq,ar⟩
 have au:fe _:=uR.keep am<|Hn (b:=w.heap.size) U u (jr _ _) (Bj _<|lw _);have av:w.heap.size<k.heap.size:=nz (jr _ _) u.size;have⟨G,K⟩:=F.Pk 0;rw[lv fX]at G K;have L:Below (k.k #[fB fj,fY 0,hZ kq] 308).heap.size _ (k.k #[fB fj,fY 0,hZ kq] 308).drew:=io<|mi _ _;obtain⟨aB,aw,ac,ad⟩:=(K.below L).Ka aj ai (f:=k.heap.size) (x:=(0,kq))<|ld _ _ _;rw[r.o]at aw;have ae:fe _:=And.intro ((mr ((mi w.heap.size w).alloc (lw _) _) u).trans<|(G.mono λ_ x=>x.elim).trans ((fI.fK L).trans<|ac.mono hiu)) ad;have⟨aC,_⟩:=F.xH;have⟨aD,_⟩:=au;clear u F al G K L ac ad;go_wp2_with(go_at_call 210;refine Ps (ak _) ?_;rintro e aE ⟨rfl,rfl⟩)
 go_region
 all_goals
  go_wp2;go_ret2;exact⟨k.heap.size,_,_,fX,Ef av,ae.1,ae.2.mono<|by omega,X _⟩
def BH (Y:Kids)(n:fO)(ex R:Bool):Int:=
 match jp Y n with
 |some c=>if c.kind=2 then 7 else if ex=fm then 6 else 0
 |none=>if(ex ||R)=fm then(if 16<=fv Y then 11 else 0)else 4
def Tq (A:List Ob)(d:Nat)(a:Nat->Option (Int×fO))(Y:Kids)(t:LT)(q:fQ)(n:fO)(e:Bool)(f:Nat)(b:Nat->Option (Int×fO))(c:LT):Prop:=
 (jp Y n=fj/\d<=f/\c=vy A (λY=>zr Y n<|.held f) q t/\b=pD a f (fh (0,⟨#[]⟩)))\/
 (jp Y n=fh (.held f)/\c=t/\b=if e=fm then pD a f (fh (0,⟨#[]⟩))else a)\/
 (∃id,jp Y n=fh (.file id)/\d<=f/\c=vy A (λY=>zr Y n<|.held f) q t/\b=if e=fm then pD (pD a f<|fh (id,⟨#[]⟩)) f (fh (0,⟨#[]⟩))else pD a f (fh (id,⟨#[]⟩)))
def Gf(a:jp Y n=fj):BH Y n ex R=if(ex ||R)=fm then(if 16<=fv Y then 11 else 0)else 4:=by unfold BH;rw[a]
def Gg(a:jp Y n=fh c):BH Y n ex R=if c.kind=2 then 7 else if ex=fm then 6 else 0:=by unfold BH;rw[a]
def Pn(t:Nat×Nat)(a:t=(i,6)):Mine i t:=.inr (by rw[a])
def hja (s i p:Nat)(B:WB)(A:List Ob)(T:gC)(w J:fq)(g:WG)(t:LT)(q:fQ)(n:fO)(ex R j:Bool)(b:b6)(a:Int)(Y:Kids)(I:Nat)(c:Ending):Prop:=
 (a≠0/\c=fF (fC #[fB fj,.int .i64 a])/\Left s i p B A T w J g b t I)\/
 (a=0/\BH Y n ex R≠0/\c=fF (fC #[fB fj,.int .i64<|BH Y n ex R])/\Left s i p B A T w J g b t I)\/
 (a=0/\BH Y n ex R=0/\∃f M e h d,c=fF (fC #[fB<|fh ⟨f,0,fj⟩,.int .i64 0])/\fI (Mine i) T M w J/\fZ M J s i p B A { g with fs:=b,ft:=e,fl:=h } I/\Flat A d e/\fM A 5 d/\Tq A w.heap.size g.fl Y t q n j f h d)
theorem YC(v:fZ T w s i p B A g I)(cd:I+600<1099511627776)(hF:Flat A t g.ft)(aB:fM A 5 t){r:fQ}(D:Good (fx r++[n]))(fg:Int)(ex R ai:Bool)(o:(bits BinOp.and IntKind.i64 fg 8 != 0)=ex)(E:(bits BinOp.and IntKind.i64 fg 4 != 0)=R)(S:(bits BinOp.and IntKind.i64 fg 16 != 0)=ai):
  ik 120 #[ii B.bt,fD<|jn (fx r++[n]),fY fg] w λbC J=>hja s i p B A T w J g t (fx r) n ex R ai (pA A t g.fs r).1 (pA A t g.fs r).2.1 (pA A t g.fs r).2.2 (I+300) bC:=by
 have aC:=v.st.sound;have U:=v.two;have bD:Good (fx r):=by have:=D.dropLast;rwa [wB]at this
 have bb:fN n=fm:=D.val n (by simp);have ce:fv r<=4:=by have:=D.len;simp at this;omega
 have O:=λj(aD:ju w j)=>uO (s:=s) (i:=i) (p:=p) (B:=B) (A:=A) r T j g I (v.below aD) (by omega) bD;simp only[nI aC hF aB g.fs r]at O;have aj:=qO (A:=A) (t:=t) (fs:=g.fs) (r:=r);generalize pA A t g.fs r=a at O aj |-;have⟨bE,bc,Y⟩:=a;simp only at O aj |-;have ak:∀j,(Op.equalIn 10000 147 (ln<|fx r++[n])<|ln []).run prog j=.ok fo j:=λj=>by
  have:=ir D Good.nil j
  rw[yv<|by simp]at this;exact this
 have al:=λj=>gW j;have am:=λj=>jo (fx r++[n]) D j;have an:=λj=>mO (fx r++[n]) D (by simp) j;rw[wB]at am;simp only[KV]at an;have⟨H,s1,s2,s3,Z,ao⟩:=sk<|fx r++[n];have⟨cf,cg,ch,ci,cj,bd⟩:=sk<|fx r;unfold ln at al ak am an;simp only[ao,bd]at ak am an O;rw[ao];unfold jn at al ak;simp only[tW]at al ak;have aE:fe _:=ao;have aF:fe _:=v;have F:fe _:=hF;have q:fe _:=aB;have ap:fe _:=aC;have bF:fe _:=O;have bG:fe _:=aj;have aG:fe _:=D;have aH:fe _:=And.intro o<|And.intro E S;clear v hF aB aC ao bd O aj D o E S;go_enter func120,ntmps120;go_wp2
 go_region_with(go_at_call 75;refine(al _).via λck aq=>?_;have⟨be,bH⟩:=kw aq;have bf:=su aq;have bg:=gS (io<|(mi w.heap.size w).alloc (lw _) _) aq)
 all_goals
  go_wp2_with(go_at_call 132;refine(am _).via λbI ar=>?_;have bh:=λl=>(kw ar).1 w.heap.size l bf;have aI:=nz bf ar.size;have aJ:=gS bg ar);apply Ps<|bF.o bI aJ;rintro e V ⟨bJ,rfl,bi,W,bj,aK⟩;have bk:=Hn (b:=w.heap.size) U (W.mono λ_ v=>v.mine) aI<|aF.o.st.fresh _ (lw _);have bl:=mr aJ (W.mono λ_ v=>v.mine);have aL:w.heap.size<V.heap.size:=nz aI W.size;have cl:bi w.heap.size=(0,0):=(W.tags _ aI).trans<|aF.o.st.fresh _ (lw _);have bm:fe _:=bj;have bn:fe _:=bl;have bo:fe (oZ bi V i bJ<|Y.map lL):=aK;have bK:fe (uR V w.heap.size H s1 s2 s3 Z):=by
   have⟨_,bL,x,X,au,bM,_⟩:=ug<|oO w (.cells (ml H s1 s2 s3 Z) 147);have bN:∀l,V.c w.heap.size l=(w.k (ml H s1 s2 s3 Z) 147).c w.heap.size l:=λl=>((bk l).trans (bh l)).trans<|(be _ l (by simp)).trans fX;exact uR.keep (w:=w.k (ml H s1 s2 s3 Z) 147) ⟨bL,x,X,au,bM⟩ bN
  obtain⟨cm,cn,rfl⟩:=aK.len;rw[oL];clear bj aK W bl bk bh be bH aq ar bg aJ;have⟨cp,cq,ct,cu,cv⟩:=bK.o;by_cases aM:bc=0
  ·subst aM
   have⟨⟨d,av,aw⟩,bp,aN⟩:=bG.o fX;have⟨x,X,au⟩:=lO ap.o (tA ap.o _ q.o av).2.1 aw;have aO:fP (Y.map lL):=by rw[oy];exact nH _ x
   have aP:fv (Y.map lL)<=16:=by rw[oL];exact X
   have ax:=λbO(aD:ju V bO)=>iL (bo.o.below aD).1 n aO aP;rw[oL]at ax;have bq:fe _:=ax;have m:fe _:=And.intro av<|And.intro aw aN;have bQ:fe _:=rh x n;have⟨o,E,S⟩:=aH.o;go_wp2_with fail;refine(an _).via λcw aQ=>?_;have cx:=λl=>(kw aQ).1 w.heap.size l aL;go_wp2_with fail;refine Hk (bq.o _ aQ) λbR bS=>?_;have P:=gS aQ bS;have cy:=λl=>(kw P).1 w.heap.size l aL;have aR:=nz aL P.size;have G:fe _:=bn.o.trans<|fI.fK P;have K:fe _:=bm.o.below P;have aS:fe (Left s i p B A T w bR g bE t<|I+300):=iH G.o (K.o.mono (by first|omega|(simp;omega))) F.o q.o;cases y:jp Y n with
   |none=>
    rw[show kA (Y.map lL) n=fo by rw[jc,<-rh x,y];rfl];have h:fe _:=Gf y (ex:=ex) (R:=R);have u:fe _:=y;clear ax av aw aN bp aO aP x X au y aH;cases k:(ex ||R) with
    |true=>
     rw[k,lv fX]at h;have br:ex=fm\/(ex=fo/\R=fm):=by cases ex<;>simp_all
     clear k;by_cases bs:16<=fv Y
     ·rw[lv bs]at h
      have bT:(16:Int)<=(fv Y:Int):=(by omega);have bU:=λj=>Pm B.bt H s1 s2 s3 Z (fv Y:Int) j bT;rcases br with z|⟨z,aa⟩
      case' inl=>rw[z]at o
      case' inr=>rw[z]at o;rw[aa]at E
      all_goals
       go_wp2_with(go_at_call 177;refine Hk (bU _) λaT L=>?_);go_ret2;exact .inr (.inl ⟨fX,by rw[h.o];decide,by rw[h.o];rfl,iH (G.o.trans<|fI.fK L) ((K.o.below L).mono (by first|omega|(simp;omega))) F.o q.o⟩)
     rw[km bs]at h;have bt:fv Y<16:=by omega
     have aU:=Tp K.o (by first|omega|(simp;omega)) F.o q.o aG.o m.o.1 m.o.2.1 m.o.2.2 u.o bt (fv Y:Int) (by omega);rw[aE.o]at aU;have bV:fe _:=aU;clear aU;rcases br with z|⟨z,aa⟩
     case' inl=>rw[z]at o
     case' inr=>rw[z]at o;rw[aa]at E
     all_goals
      go_wp2_with(go_at_call 177;go_loud(apply Ps bV.o;rintro e aT ⟨f,ay,az,rfl,aA,ab,Q,ac⟩;have C:fe _:=And.intro ab<|And.intro Q ac;clear ab Q ac));go_ret2;exact .inr<|.inr ⟨fX,h.o,f,ay,az,_,_,fX,G.o.trans C.o.1,C.o.2.1.mono (by first|omega|(simp;omega)),C.o.2.2,LM ap.o q.o m.o.1 m.o.2.1 bb (by first|omega|(simp;omega)) (VH _ _ _)<|.inr bt,.inl ⟨u.o,ww (Ef aR) aA,fX,fX⟩⟩
    |false=>
     rw[k,km<|by simp]at h;obtain⟨z,aa⟩:ex=fo/\R=fo:=by cases ex<;>cases R<;>simp_all
     rw[z]at o;rw[aa]at E;go_wp2;go_ret2;exact .inr (.inl ⟨fX,by rw[h.o];decide,by rw[h.o];rfl,aS.o⟩)
   |some c=>
    rw[show kA (Y.map lL) n=fm by rw[jc,<-rh x,y];rfl];have⟨aV,bu⟩:=LN x y;have⟨bW,cz,bv,bw,bX,ad,bY⟩:=bo.o.at_ aV;clear bX bY;rw[oL]at bv;rw[bu]at ad;simp only at ad;have h:fe _:=Gg y (ex:=ex) (R:=R);have u:fe _:=y;have bZ:ui (Y.map lL) n<fv Y:=by simpa using aV
    generalize ui (Y.map lL) n=ca at ad bZ;cases bv;have bx:=zX c;generalize bz:c.kind=cA at ad bx h;have cC:=((kw P).1 bW (ca*3+1) bw).trans ad;have cD:=nz bw P.size;clear ax av aw aN bp aO aP x X au y aH aV bu bq;rcases bx with rfl|rfl
    ·rw[km<|by decide]at h
     cases k:ex with
     |true=>
      rw[k]at o;rw[k,lv fX]at h;go_wp2;go_ret2;exact .inr (.inl ⟨fX,by rw[k,h.o];decide,by rw[k,h.o];rfl,aS.o⟩)
     |false=>
      rw[k]at o;rw[k,km<|by decide]at h;cases c with
      |dir d=>simp[LT.kind]at bz
      |own es=>simp[LT.kind]at bz
      |held f=>
       have bA:t.at A (fx r++[n])=fh (.held f):=(by rw[lx,m.o.1,wy,lh,m.o.2.1,wy,u.o,wy,pd]);have aW:g.ft.of (fx r++[n])=fh f:=by rw[F.o.of,bA];rfl
       have⟨cE,cb⟩:=aF.o.wp.held _ _ aW;have M:=YA K.o aG.o aW;rw[aE.o]at M;have aX:fe _:=M;clear M bA aW;cases aY:R<;>cases N:ai<;>rw[aY]at E<;>rw[N]at S
       all_goals
        go_wp2_with(first
         |(go_at_call 178;go_loud(refine Hk aX.o λaT L=>?_;have ae:=CI (K.o.below L) cb;have aZ:fe _:=ae;clear ae))
         |(go_at_call 179;refine Hk aZ.o λcc⟨af,ag⟩=>?_;have ah:fe _:=And.intro af ag;clear af ag))
        go_ret2
        first
        |exact .inr (.inr ⟨fX,by rw[k];exact h.o,f,_,g.ft,_,t,fX,(G.o.trans<|fI.fK L).trans<|ah.o.1.mono Pn,ah.o.2.mono (by first|omega|(simp;omega)),F.o,q.o,.inr (.inl ⟨u.o,fX,by rw[N];rfl⟩)⟩)
        |exact .inr (.inr ⟨fX,by rw[k];exact h.o,f,_,g.ft,_,t,fX,G.o.trans<|fI.fK L,(K.o.below L).mono (by first|omega|(simp;omega)),F.o,q.o,.inr (.inl ⟨u.o,fX,by rw[N];rfl⟩)⟩)
      |file id=>
       have M:=YB K.o (by first|omega|(simp;omega)) F.o q.o aG.o m.o.1 m.o.2.1 m.o.2.2 u.o;rw[aE.o]at M;have aX:fe _:=M;clear M;cases aY:R<;>cases N:ai<;>rw[aY]at E<;>rw[N]at S
       all_goals
        go_wp2_with(first
         |(go_at_call 178;go_loud(apply Ps aX.o;rintro e aT ⟨f,ay,az,rfl,aA,ab,Q,ac⟩;have ae:=CI Q<|ld _ _ _;have aZ:fe _:=ae;clear ae;have C:fe _:=And.intro ab<|And.intro Q ac;clear ab Q ac))
         |(go_at_call 179;refine Hk aZ.o λcc⟨af,ag⟩=>?_;have ah:fe _:=And.intro af ag;clear af ag))
        go_ret2;have bB:=LM ap.o q.o m.o.1 m.o.2.1 bb (by first|omega|(simp;omega)) (VH A _ f)<|.inl (by rw[<-bQ.o,u.o];rfl)
        first
        |exact .inr (.inr ⟨fX,by rw[k];exact h.o,f,ay,az,_,_,fX,(G.o.trans C.o.1).trans<|ah.o.1.mono Pn,ah.o.2.mono (by first|omega|(simp;omega)),C.o.2.2,bB,.inr (.inr ⟨id,u.o,ww (Ef aR) aA,fX,by rw[N];rfl⟩)⟩)
        |exact .inr (.inr ⟨fX,by rw[k];exact h.o,f,ay,az,_,_,fX,G.o.trans C.o.1,C.o.2.1.mono (by first|omega|(simp;omega)),C.o.2.2,bB,.inr (.inr ⟨id,u.o,ww (Ef aR) aA,fX,by rw[N];rfl⟩)⟩)
    rw[lv fX]at h;go_wp2;go_ret2;exact .inr (.inl ⟨fX,by rw[h.o];decide,by rw[h.o];rfl,aS.o⟩)
  have cF:(bc==0)=fo:=by simpa using aM
  go_wp2;go_ret2;exact .inl ⟨aM,fX,iH bn.o (bm.o.mono (by first|omega|(simp;omega))) F.o q.o⟩


theorem nO.below{d:Nat->Option Nat}(a:nO w b d)(c:ju w J):nO J b d:=
 ⟨nz a.1 c.size,λk f=>((kw c).1 b _ a.1).trans<|a.2.1 k f,λe=>((kw c).2 b e a.1).trans<|a.2.2 e⟩
theorem Po(a g:Nat)(l)(h:Good l)(i:Int)(j:fq->Prop)(w:fq)(k:a<w.heap.size)(c0:w.c a 0=fh (ii g))
  (f:∀b,ju w b->ik 70 #[ii g,fD<|jn l] b λe J=>e=fF (fY i)/\j J):
  ik 31 #[ii a,hZ<|lA l] w λe J=>e=fF (fY i)/\j J:=by
 have c:=λb=>kj l h b;have⟨H,s1,s2,s3,Z,m⟩:=sk l;unfold ln at c;simp only[m]at c f;have n:fe _:=f;clear f m h;generalize lA l=s at c |-;go_enter func31,ntmps31;go_wp2_with(go_at_call 69;refine Hk (c _) λp d=>?_;have d0:=((kw d).1 a 0 k).trans c0;have t:=nz k d.size);have o:=n (p.k (ml H s1 s2 s3 Z) 147).drew<|io (d.alloc d.size _);have q:fe _:=o;clear o n
 go_region_with(go_at_call 70;refine Hk q.o λu r=>?_)
 all_goals
  go_wp2;go_ret;exact⟨fX,r⟩
theorem Kb(a g:Nat)(l)(h:Good l)(i:Int)(j:fq->Prop)(w:fq)(k:a<w.heap.size)(c0:w.c a 0=fh (ii g))
  (f:∀b,ju w b->ik 71 #[ii g,fD<|jn l] b λe J=>e=fF (fY i)/\j J):
  ik 32 #[ii a,hZ<|lA l] w λe J=>e=fF (fY i)/\j J:=by
 have c:=λb=>kj l h b;have⟨H,s1,s2,s3,Z,m⟩:=sk l;unfold ln at c;simp only[m]at c f;have n:fe _:=f;clear f m h;generalize lA l=s at c |-;go_enter func32,ntmps32;go_wp2_with(go_at_call 69;refine Hk (c _) λp d=>?_;have d0:=((kw d).1 a 0 k).trans c0;have t:=nz k d.size);have o:=n (p.k (ml H s1 s2 s3 Z) 147).drew<|io (d.alloc d.size _);have q:fe _:=o;clear o n
 go_region_with(go_at_call 71;refine Hk q.o λu r=>?_)
 all_goals
  go_wp2;go_ret;exact⟨fX,r⟩
theorem Kc(a o:Nat)(l m)(p:Good l)(q:Good m)(r:Int)(s:fq->Prop)(w:fq)(j:a<w.heap.size)(c0:w.c a 0=fh (ii o))
  (i:∀b,ju w b->ik 72 #[ii o,fD<|jn l,fD<|jn m] b λe J=>e=fF (fY r)/\s J):
  ik 33 #[ii a,hZ<|lA l,hZ<|lA m] w λe J=>e=fF (fY r)/\s J:=by
 have d:=λb=>kj l p b;have f:=λb=>kj m q b;have⟨H,s1,s2,s3,Z,t⟩:=sk l;have⟨d0,d1,d2,d3,d4,u⟩:=sk m;unfold ln at d f;simp only[t]at d i;simp only[u]at f i;have v:fe _:=i;clear i t u p q;generalize lA l=F at d |-;generalize lA m=G at f |-;go_enter func33,ntmps33;go_wp2_with fail;refine Hk (d w) λg h=>?_;have z:=((kw h).1 a 0 j).trans c0;have I:=nz j h.size;have k:ju w (g.k (ml H s1 s2 s3 Z) 147):=h.alloc h.size _;have x:g.heap.size<(g.k (ml H s1 s2 s3 Z) 147).heap.size:=by simp
 have A:a<(g.k (ml H s1 s2 s3 Z) 147).heap.size:=by simp;omega
 go_wp2_with fail;refine Hk (f _) λB c=>?_
 have f0:=((kw<|gS k c).1 a 0 j).trans c0;have K:=λC=>(kw c).1 g.heap.size C x;have L:=nz A c.size;have M:=nz x c.size;have n:=gS k c;have y:=v (B.k (ml d0 d1 d2 d3 d4) 147).drew<|io (n.alloc n.size _);have D:fe _:=y;clear y v d f h c k n z;go_wp2
 go_region_with(go_at_call 72;refine Hk D.o λN E=>?_)
 all_goals
  go_wp2;go_ret;exact⟨fX,E⟩
theorem xJ(c i k:Nat)(d:Nat->Option Nat)(fg:Int)(l)(j:Good l)(er:Int)(B:er≠0)(m:fq->Prop)(w)(h:nO w c d)(c0:w.c c 0=fh (ii i))(u:k<8)(n:d k=fj)(o:∀p,p<k->d p≠fj)
  (v:∀a,ik 118 #[fY fg] a<|UV (fE fm) a)
  (f:∀a,ju w a->ik 120 #[ii i,fD<|jn l,fY fg] a λe J=>e=qr #[fB fj,fY er]/\m J):
  ik 63 #[ii c,hZ<|lA l,fY fg] w λe J=>e=qr #[fY 0,fY er]/\m J:=by
 have g:=λa=>kj l j a;have q:=h.1;have⟨H,s1,s2,s3,Z,r⟩:=sk l;unfold ln at g;simp only[r]at g f;have s:=λa(x:ju w a)=>JI c k d a (h.below x) u n o
 change fe _ at s f
 clear r j h n o;generalize lA l=C at g |-;go_enter func63,ntmps63;go_wp2_with(first
  |(go_at_call 69;refine Hk (g _) λy b=>?_;have D:=((kw b).1 c 0 q).trans c0;have E:=nz q b.size)
  |(go_at_call 118;apply tB<|v _)
  |(go_at_call 119;go_loud(refine tB (s _<|b.alloc b.size _) ?_)))
 have t:=f (y.k (ml H s1 s2 s3 Z) 147).drew<|io (b.alloc b.size _);have z:fe _:=t;clear t f
 go_region_with(go_at_call 120;refine Hk z.o λF A=>?_)
 all_goals
  go_wp2;go_ret2;exact⟨fX,A⟩
theorem Tr(c q k:Nat)(g:Nat->Option Nat)(fg:Int)(l)(r:Good l)(h:Nat->fq->Prop)(w)(n:nO w c g)(c0:w.c c 0=fh (ii q))(o:k<8)(s:g k=fj)(t:∀u,u<k->g u≠fj)
  (D:∀b,ik 118 #[fY fg] b<|UV (fE fm) b)
  (i:∀b,ju w b->ik 120 #[ii q,fD<|jn l,fY fg] b λe J=>∃f,e=qr #[ii f,fY 0]/\h f J)
  (j:∀f J,h f J->nO J c g):
  ik 63 #[ii c,hZ<|lA l,fY fg] w λe J=>e=qr #[fY (k:Int),fY 0]/\∃f a,h f a/\J=(a.setCell (ie c<|1+k)<|ii a.heap.size).k #[ii f,fY fg,fY 0] 277:=by
 have m:=λb=>kj l r b;have v:=n.1;have⟨H,s1,s2,s3,Z,x⟩:=sk l;unfold ln at m;simp only[x]at m i;have y:=λb(E:ju w b)=>JI c k g b (n.below E) o s t;have z:=λf a(p:h f a)=>XT c k f fg _ a (j f a p).1 ((j f a p).2.1 k o) ((j f a p).2.2 _) o
 change fe _ at y i z
 clear x r n s t j;generalize lA l=I at m |-;go_enter func63,ntmps63;go_wp2_with(first
  |(go_at_call 69;refine Hk (m _) λa d=>?_;have K:=((kw d).1 c 0 v).trans c0;have L:=nz v d.size)
  |(go_at_call 118;apply tB<|D _)
  |(go_at_call 119;go_loud(refine tB (y _<|d.alloc d.size _) ?_)))
 have A:=i (a.k (ml H s1 s2 s3 Z) 147).drew<|io (d.alloc d.size _);have F:fe _:=A;clear A i
 go_region_with(go_at_call 120;apply Ps F;rintro e G ⟨f,rfl,B⟩;have C:fe _:=B;clear B)
 all_goals
  go_wp2_with(go_at_call 121;go_loud(refine Ps (z _ _ C) ?_;rintro e M ⟨rfl,rfl⟩));go_ret2;exact⟨fX,f,G,C,fX⟩
def Ez(a k b:Nat)(n:Int)(d)(c:Int)(f:fq->Prop)(w:fq)(g:w.c a (1+k)=fh (ii b))(h:k<8)
  (i:ik 125 #[ii b,fY n] w λe J=>e=qr #[hZ d,fY c]/\f J):
  ik 66 #[ii a,fY (k:Int),fY n] w λe J=>e=qr #[hZ d,fY c]/\f J:=by
 go_enter func66,ntmps66;go_wp2_with(first
  |(go_at_call 122;refine(xx a k b w g h).still ?_)
  |(go_at_call 125;refine i.via λl j=>?_))
 go_ret2;exact⟨fX,j⟩
def hji(a k b:Nat)(d)(c:Int)(f:fq->Prop)(w:fq)(g:w.c a (1+k)=fh (ii b))(h:k<8)
  (i:ik 123 #[ii b,hZ d] w λe J=>e=fF (fY c)/\f J):
  ik 64 #[ii a,fY (k:Int),hZ d] w λe J=>e=fF (fY c)/\f J:=by
 go_enter func64,ntmps64;go_wp2_with(first
  |(go_at_call 122;refine(xx a k b w g h).still ?_)
  |(go_at_call 123;refine i.via λl j=>?_))
 go_ret;exact⟨fX,j⟩
theorem hjj(a k b:Nat)(w:fq)(c:a<w.heap.size)(d:w.c a (1+k)=fh (ii b))(f:w.frozen? (ie a<|1+k)=fo)(g:k<8):
  ik 65 #[ii a,fY (k:Int)] w λe J=>e=fF (fY 0)/\J=w.setCell (ie a<|1+k) (fB fj):=by
 go_enter func65,ntmps65;go_wp2_with(go_at_call 124;refine(OH a k b w c d f g).mono ?_;rintro e h ⟨rfl,rfl⟩);go_ret;exact⟨fX,fX⟩
