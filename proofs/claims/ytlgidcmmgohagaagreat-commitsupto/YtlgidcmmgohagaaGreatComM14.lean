/- A part of the proof. -/
import Derived.Test.YtlgidcmmgohagaaGreatComM13
set_option linter.all false
namespace Go.Proofs.YtlgidcmmgohagaaGreat
open Go.RowKit Go.Sort Go.Shelf Go.Proofs.Tryz
open Go.Value renaming slice->fy,string->fA,pointer->fB,tuple->fC,agg->fD,bool->fE
open Go.Ending renaming returned->fF
open Option renaming some->fh,none->fj
open Bool renaming true->fm,false->fo
open Go renaming World->fq,Value->fu
open List renaming length->fv,reverse->fx
open Go.RowKit renaming Hid->fe
set_option maxRecDepth 100000
set_option maxHeartbeats 0
variable {W w H O w6:fq}{n nm:fP}{v:fu}{t t':Nat×Nat}{K:fT->List fV}{ft:FT}{es:List fV}{g:WG}{N M:gF}{J:fT->fu}{a b c i ix I m o:Nat}{o1:Obj}{A:List Ob}{q:fT}{fs:b6}
variable {s i p:Nat}{B:WB}{A:List Ob}
def hem (s i p:Nat)(B:WB)(A:List Ob)(a:fT):Prop:=∀(N:gF)(w:fq)(g:WG)(I:Nat)(K:fT->List fV)(J:fT->fu),fZ N w s i p B A g I->gG N w i B g.ft.od I J->I+20*(fv a+2)<1099511627776->Good (fx a)->jm A g.fs g.ft K (fx a)->
 Calls prog 192 #[fB<|fh ⟨B.bt,0,fj⟩,fD<|jn (fx a)] w λc H=>∃v,c=fF v/\∃M b,fI (Mine i) N M w H/\
  fZ M H s i p B A { g with ft:=rp A g.fs g.ft a } (I+20*(fv a+1))/\gG M H i B (rp A g.fs g.ft a).od (I+20*(fv a+1)) b/\b (fx a)=v/\∀q,¬q <+: fx a->b q=J q
theorem OO(b:jm A fs ft K (q++[n])):jm A fs { ft with od:=upd ft.od (q++[n]) (fh<|K (q++[n])) } K q:=by
 have uq:∀x,x <+: q->x <+: q++[n]:=λx a=>a.trans<|qz _ _;have c:∀x,x <+: q->x≠q++[n]:=λx a e=>by
  have:=a.length_le
  rw[e]at this;simp at this;omega
 have d:jm A fs ft K q:=⟨λx a=>b.look x<|uq x a,λx a=>b.own x<|uq x a,λx m a=>b.up x m<|uq _ a,b.root⟩;exact d.congr fX λx a=>kh (c x a) _
theorem Yl(a:jm A fs ft K (q++[n]))(b:fO (K q)):kB (K q) n=fm:=by
 have c:=a.look (q++[n])<|sM _;have d:=a.look q<|qz _ _
 grind [ss2,gw,findF,absurd,pF,decide,qG,nj,kB]
theorem het(U:2<=i):¬Mine i (0,0):=by
 rintro(a|a)
 all_goals omega
theorem zY{a n c m}{b}(d:w.ownsRow 0 96 3 (my a 0 n c) m b)(o):w.frozen? (ii a o)=fo:=by
 rcases d.2 with⟨e,_⟩|⟨f,g,h,e,_,i,_⟩
 all_goals grind [World.frozen?]
theorem JO{a n c}(d:w.ownsRow 0 96 3 (my a 0 n c) n (flat es))(e:ix<fv es):w.c a (ix*3+2)=fh (fY (es[ix]).2.2):=
 (zU (b:=a) (λf g h=>by have:=ks d f g h;rwa [iO]at this) e).2.2
theorem Hc(U:2<=i)(m:fI (Mine i) N M w H)(c:b<w.heap.size)(d:N b=(0,0))(o):H.cell? (ii b o)=w.cell? (ii b o):=
 wJ (a:=(ii b o)) (m.block _ c (by rw[d];exact het U))
theorem hfe{aF:fT->fu}(n:fP)(r)(aG:hem s i p B A r)(f:fZ N w s i p B A g I)(Q:gG N w i B g.ft.od I aF)(cd:I+20*(fv r+3)<1099511627776)
  (j:Good (fx r++[n]))(z:jm A g.fs g.ft K (fx r++[n]))(ae:g.ft.od (fx r++[n])=fj):
  ik 192 #[ie B.bt,fD<|jn (fx r++[n])] w λaf H=>∃v,af=fF v/\∃M l,fI (Mine i) N M w H/\
   fZ M H s i p B A { g with ft:=rp A g.fs g.ft (n::r) } (I+20*(fv (n::r)+1))/\gG M H i B (rp A g.fs g.ft (n::r)).od (I+20*(fv (n::r)+1)) l/\l (fx r++[n])=v/\∀q,¬q <+: (fx r++[n])->l q=aF q:=by
 have ag:=z.look _<|sM _;rw[ss2,tP]at ag;have R:gw A g.ft g.fs (n::r)=(g.fs,0,K<|fx r++[n]):=ag;have ce:fv r<=4:=by have:=j.len;simp at this;omega
 have bu:Good (fx r):=by have:=j.dropLast;rwa [wo]at this
 have C:=f.gh g.fs (n::r);rw[R]at C;have C:oO A (K<|fx r++[n]):=C;have aH:=z.look (fx r)<|qz _ _;have m:=f.gh g.fs<|fx (fx r);rw[aH]at m;have m:oO A (K<|fx r):=m;have ah:=Yl z m.rising;have ai:=OO z;have⟨bv,bw,k⟩:=zH (r:=r) ai;have aI:rp A g.fs g.ft (n::r)={ rp A g.fs { g.ft with od:=upd g.ft.od (fx r++[n]) (fh<|K (fx r++[n])) } r with od:=upd (rp A g.fs { g.ft with od:=upd g.ft.od (fx r++[n]) (fh<|K (fx r++[n])) } r).od (fx r) (fh<|mI (K<|fx r) n) }:=by
  rw[rp];have bx:fx (n::r)=fx r++[n]:=kz;rw[bx,ae,km<|by decide,R];have u:=k<|fx r;rw[lv<|sM _]at u;have aj:zK K (fx r) (fx r)=K (fx r):=by unfold zK;rw[wm<|lw _]
  rw[aj]at u;show(FT.mk _ (upd _ _<|fh (mI (((rp A g.fs { g.ft with od:=upd g.ft.od (fx r++[n]) (fh<|K (fx r++[n])) } r).od<|fx r).getD []) n)) _)=_;rw[u];rfl
 have aJ:(rp A g.fs { g.ft with od:=upd g.ft.od (fx r++[n]) (fh<|K (fx r++[n])) } r).od (fx r)=fh (K<|fx r):=by
  have u:=k<|fx r;rw[lv<|sM _]at u;have aj:zK K (fx r) (fx r)=K (fx r):=by unfold zK;rw[wm<|lw _]
  rw[aj]at u;exact u
 have aK:¬(fx r++[n]) <+: fx r:=λbz=>by have:=bz.length_le;simp at this;omega
 have⟨aL,cf,_,_,_⟩:=f.wp.tree.cells;have D:=il<|(mi w.heap.size w).alloc (lw _) (.cells (jn<|fx r++[n]) 147);have S:=Ex Q j D;rw[ae]at S;have ak:=uJ (s:=s) (i:=i) (p:=p) (B:=B) (A:=A) (n::r) N _ g I (f.below D) (by omega) (by rw[kz];exact j);rw[R,kz]at ak;have T:=λW=>QR W;have U:∀W,(Op.equalIn 10000 147 (ln<|fx r++[n])<|ln []).run prog W=.ok fo W:=λW=>by
  have:=gX j Good.nil W
  rw[yv<|by simp]at this;exact this
 have V:=λW=>jr (fx r++[n]) j W;have X:=λW=>mO (fx r++[n]) j (by simp) W;rw[wo]at V;simp only[KR]at X;have al:∀(N:gF)(w:fq)(g:WG)(I:Nat)(K:fT->List fV)(J:fT->fu),fZ N w s i p B A g I->gG N w i B g.ft.od I J->I+20*(fv r+2)<1099511627776->jm A g.fs g.ft K (fx r)->ik 192 #[ie B.bt,fD<|jn (fx r)] w λaf H=>∃v,af=fF v/\∃M l,fI (Mine i) N M w H/\
  fZ M H s i p B A { g with ft:=rp A g.fs g.ft r } (I+20*(fv r+1))/\gG M H i B (rp A g.fs g.ft r).od (I+20*(fv r+1)) l/\l (fx r)=v/\∀q,¬q <+: fx r->l q=J q:=λN w g I K J a b c d=>aG N w g I K J a b c bu d
 have⟨am,an,ao,ap,Z,E⟩:=sf<|fx r++[n];have⟨cg,ch,ci,cj,ck,aM⟩:=sf<|fx r;unfold ln at T U V X;rw[E]at S ak D;simp only[E,aM]at U V X al;rw[E];unfold jn at T U;simp only[tQ]at T U;have cl:(Instr.lookup 162 (.map<|fh B.oD) (fD<|ml am an ao ap Z) fm).run prog ((w.k (ml am an ao ap Z) 147).drew)=.ok (fC #[fy fj 0 0,fE fo]) ((w.k (ml am an ao ap Z) 147).drew):=S;have⟨cm,_,aN⟩:=Q.map;have bA:w.heap.size≠B.oD:=by have:=aN.lt;omega
 have bB:I+fv (n::r)+1<maxLen:=by rw[lq];unfold maxLen;omega
 have bC:I+fv (n::r)+1+1+20*(fv r+2)<1099511627776:=by rw[lq];omega
 have⟨aO,aP⟩:=ql ah;have cn:=m.len;have bD:fe _:=E;have F:fe _:=f;have bE:fe _:=Q;have aQ:fe _:=D;have aR:fe _:=C;have aS:fe _:=m;have bF:fe _:=al;have bG:fe _:=ai;have aT:fe _:=aI;have aq:fe _:=aJ;have aU:fe _:=ah;have cp:fe _:=aP;have bH:fe _:=aK;clear f Q D C R ag ae aN S E aM m al z ai bv bw k aI aJ ah aP aK aH aG;generalize aV:ub (K<|fx r) n=ix at aO;have aW:fe (ub (K<|fx r) n=ix):=aV;clear aV;go_enter func192,ntmps192;go_wp2
 go_region
 all_goals
  go_wp2_with(first
   |(go_at_call 131;apply ak.mono;rintro e bI ⟨v,rfl,bJ,k,ar,aX⟩;have au:=Bv F.o.two F.o.st.fresh k;have cq:=au.cell (lw _) (by simp[World.drew]);have av:w.heap.size<bI.heap.size:=np (by simp[World.drew]) au.1;have bK:bJ w.heap.size=(0,0):=(k.tags _ (by simp[World.drew])).trans<|F.o.st.fresh _ (lw _);have⟨cr,ct,_,_,_⟩:=ar.wp.tree.cells;have bL:fe _:=ar;have aY:fe _:=k;have bM:fe _:=aX;clear ar k aX au)
   |(go_at_call 170;go_loud(apply (vJ bM.o.1 aR.o.len).mono;rintro e cu ⟨bN,rfl,aZ,bb,Y⟩;have⟨cv,cw⟩:=kw Y;have⟨aa,bc,bO,bd,bQ,cx,aw,ax,be,cy⟩:=LF (q:=fx r++[n]) bL.o (((bE.o.moves (fI.fJ (P:=λ_=>False) aQ.o) λx=>x).moves aY.o<|Yj F.o.two (by decide) (by decide)).mono<|by omega) bB j (il Y) aZ bb aR.o;have cz:=ko (c:=w.heap.size) bd (np av Y.size) bA;have⟨cA,_,_,cC,f5⟩:=ax.wp.tree.cells;rw[bD.o]at bO;have bf:w.heap.size<aa.heap.size:=np (np av Y.size)<|EL bQ.symm;have bR:bc w.heap.size=(0,0):=(aw.tags _ av).trans bK;have bS:fe _:=ax;have bT:fe _:=aw;have bU:fe _:=be;clear ax aw be aZ bb bd)))
  go_region
  all_goals
   go_wp2
   go_region_with(go_at_call 75;refine(T _).via λw6 ay=>?_;have cD:∀o,w6.c w.heap.size o=aa.c w.heap.size o:=λo=>(kw ay).1 _ _ bf;have bg:w.heap.size<w6.heap.size:=np bf ay.size;have az:=gS (il<|mi aa.heap.size aa) ay)
   all_goals
    go_wp2_with(first
     |(go_at_call 132;refine(V _).via λaA G=>?_;have cE:∀o,aA.c w.heap.size o=w6.c w.heap.size o:=λo=>(kw G).1 _ _ bg;have bh:w.heap.size<aA.heap.size:=np bg G.size)
     |(go_at_call 192;go_loud(refine(bF.o bc aA _ _ K _ (bS.o.below<|gS az G) (bU.o.moves (fI.fJ (P:=λ_=>False)<|gS az G) λx=>x) bC bG.o).mono ?_;rintro e ab ⟨cF,rfl,bV,bW,ac,bi,ad,bj,bk⟩;have⟨h,cG,aB⟩:=hZ (ad.row _ _ aq.o).1 (by omega);have y:=ad.row _ _ aq.o;rw[aB]at bj y;subst bj;have cH:=Hc F.o.two ac bh bR;have cI:w.heap.size<ab.heap.size:=np bh ac.size;have aC:h<ab.heap.size:=gc y.1 fX;have cJ:=JO y.1 aO;have cK:=zY y.1<|ix*3+2;have bX:fe _:=bi;have bY:fe _:=ac;have bZ:fe _:=ad;have bl:fe _:=y;have ca:fe _:=aB;have bm:fe _:=bk;clear bi ac ad y aB bk))
     |(go_at_call 134;refine(X _).via λL O=>?_;have cL:L.c h (ix*3+2)=ab.c h (ix*3+2):=(kw O).1 _ _ aC;have f9:L.frozen? (ii h<|ix*3+2)=ab.frozen? (ii h<|ix*3+2):=(kw O).2 _ _ aC;have bn:h<L.heap.size:=np aC O.size)
     |(go_at_call 133;go_loud(refine(iG (gg bl.o.1 λcb cc=>O.block cb<|gc bl.o.1 cc) n aS.o.rising aS.o.len).via λbo aD=>?_;rw[aW.o,aU.o];have cN:bo.c h (ix*3+2)=L.c h (ix*3+2):=(kw aD).1 _ _ bn;have f10:bo.frozen? (ii h<|ix*3+2)=L.frozen? (ii h<|ix*3+2):=(kw aD).2 _ _ bn)))
    go_ret;have aE:=gS O aD;have⟨bp,bq,br⟩:=JN (bX.o.below aE) (bZ.o.moves (fI.fJ (P:=λ_=>False) aE) λx=>x) aq.o ca.o aU.o;rw[aW.o]at bp bq br;have bs:I+fv (n::r)+1+1+20*(fv r+1)<=I+20*(fv (n::r)+1):=by rw[lq];omega
    refine⟨bN,fX,bV,bW,?_,?_,?_,?_,λq bt=>?_⟩;exact((mr aQ.o aY.o).mono λ_ f=>f.mine).trans<|bT.o.trans ((fI.fJ<|gS az G).trans<|bY.o.trans ((fI.fJ aE).trans (br.mono λt aL=>.inr (by rw[aL]))));rw[aT.o];exact bp.mono bs;rw[aT.o];exact bq.mono bs;rw[bm.o _ bH.o,upd_same];rw[bm.o q λf=>bt<|f.trans (qz _ _),kh (λe:q=fx r++[n]=>bt (by rw[e];exact sM _))]
theorem uK:∀b:fT,hem s i p B A b
 |[]=>by
  intro N w g I K J d f y j k
  by_cases c:(g.ft.od []).isSome=fm
  have⟨es,l⟩:=hxl.1 c
  have h:rp A g.fs g.ft []=g.ft:=by rw[rp,lv c]
  rw[h]
  have⟨o,r,_⟩:=d.wp.tree.cells
  refine(JK B.bt B.oD _ _ _ _ _ (J []) w o r λW a=>?_).mono ?_
  have:=Ex f Good.nil a
  rw[l]at this
  exact this
  rintro u H ⟨rfl,a⟩
  exact⟨_,fX,N,J,fI.fJ a,(d.below a).mono<|by omega,(f.moves (fI.fJ (P:=λ_=>False) a) λx=>x).mono<|by omega,fX,λ_ _=>rfl⟩
  have t:g.ft.od []=fj:=by simpa using c
  have z:=k.look []<|sM _
  have h:rp A g.fs g.ft []={ g.ft with od:=upd g.ft.od []<|fh (K []),root:=0 }:=by
   grind [rp,gw]
  rw[h];apply (Yi d f (by omega) t z).mono;rintro u H ⟨v,rfl,M,C,m,D,E,F,G⟩;exact⟨v,fX,M,C,m,D.mono<|by omega,E.mono<|by omega,F,λq L=>G q λe=>L (by grind)⟩
 |n::b=>by
  intro N w g I K J d f y j k;by_cases c:(g.ft.od<|fx (n::b)).isSome=fm;have⟨es,l⟩:=hxl.1 c;have h:rp A g.fs g.ft (n::b)=g.ft:=by rw[rp,lv c]
  rw[h];have⟨o,r,_⟩:=d.wp.tree.cells;refine(JK B.bt B.oD _ _ _ _ _ (J<|fx (n::b)) w o r λW a=>?_).mono ?_
  have:=Ex f j a
  rw[l]at this;exact this;rintro u H ⟨rfl,a⟩;exact⟨_,fX,N,J,fI.fJ a,(d.below a).mono<|by omega,(f.moves (fI.fJ (P:=λ_=>False) a) λx=>x).mono<|by omega,fX,λ_ _=>rfl⟩;have O:fx (n::b)=fx b++[n]:=kz;rw[O]at c j k |-;have t:g.ft.od (fx b++[n])=fj:=by simpa using c
  exact hfe n b (uK b) d f (by omega) j k t
theorem SR(b:fZ N w s i p B A g I)(r:Good q)(f:lV):
  ∃H,(Builtin.delete_ #[161,147] f #[.map<|fh B.oF,fD<|jn q]).run prog w=.ok (fC #[]) H/\fI (λt=>t=(i,4)) N N w H/\w.grownBy H (fh B.oF)/\H.heap.size=w.heap.size/\B.oF<w.heap.size/\fZ N H s i p B A { g with ft:={ g.ft with of:=upd g.ft.of q fj } } I:=by
 have⟨h,⟨n,u,j⟩,C⟩:=b.wp.tY;have⟨H,v,y,k,l⟩:=j.drop r underlying161 f;have m:fI (λt=>t=(i,4)) N N w H:=QP k l h;have a:=b.wp;have⟨J,z⟩:=a.qj;refine⟨H,v,m,k,l,j.lt,b.two,b.st.moves m (λe=>by cases e) (λe=>by cases e),⟨a.tree.moves m (λe=>by cases e),a.nP.moves m (λe=>by cases e),a.nQ.moves m (λe=>by cases e),⟨h,⟨n,u,y.congr λx c=>?_⟩,λx d c=>?_⟩,⟨J,z.moves m λe=>by cases e⟩,a.files.moves m (λe=>by cases e),λx d c=>?_,a.opens.moves m (λe=>by cases e) (λe=>by cases e),⟨a.ok.root,a.ok.od⟩⟩⟩
 grind [upd,ptr,Option.map,upd_same,kh]
 grind [upd,upd_same,kh]
 by_cases e:x=q
 grind [upd,upd_same]
 have o:upd g.ft.of q fj x=fh d:=c;rw[kh e]at o;exact a.held x d o
theorem Ym(d:fZ N w s i p B A g I)(b:gG N w i B g.ft.od I J)(r:Good q)(f:lV):
  ∃H,(Builtin.delete_ #[162,147] f #[.map<|fh B.oD,fD<|jn q]).run prog w=.ok (fC #[]) H/\fI (λt=>t=(i,5)) N N w H/\fZ N H s i p B A { g with ft:={ g.ft with od:=upd g.ft.od q fj } } I/\gG N H i B (upd g.ft.od q fj) I J:=by
 have⟨n,u,h⟩:=b.map;have⟨H,v,z,j,C⟩:=h.drop r underlying162 f;obtain⟨L,M,D⟩:=h.isMap;have m:fI (λt=>t=(i,5)) N N w H:=QP j C b.tag;have c:∀x es,upd g.ft.od q fj x=fh es->g.ft.od x=fh es:=λx es a=>by
  by_cases e:x=q;subst e;rw[upd_same]at a;cases a;rwa [kh e]at a
 have k:gG N H i B (upd g.ft.od q fj) I J:=by
  refine⟨b.tag,⟨n,u,z.congr λx a=>?_⟩,λx es a=>b.good x es<|c x es a,λx es a=>(b.row x es (c x es a)).Bx D j,λx y l o E a F G K=>b.inj x y l o E (c x l a) (c y o F) G K⟩;by_cases e:x=q
  all_goals grind [upd_same,kh]
 exact⟨H,v,m,d.od m (lw _) k λx es a=>d.wp.ok.od x es<|c x es a,k⟩
theorem FU(b:fZ N w s i p B A g I)(k:gG N w i B g.ft.od I J)(l:Good q):
  ik 139 #[ie B.bt,fD<|jn q] w λE H=>E=pD #[]/\fI (Mine i) N N w H/\fZ N H s i p B A { g with ft:=AR g.ft q } I/\gG N H i B (upd g.ft.od q fj) I J:=by
 have a:=il<|(mi w.heap.size w).alloc (lw _) (.cells (jn q) 147);have m:=b.below a;have r:=k.moves (fI.fJ (P:=λ_=>False) a) λx=>x;have⟨O,F,f,u,S,T,h⟩:=SR m l 0;have y:=r.moves f (λe=>by cases e);have⟨j,G,z,C,D⟩:=Ym (h.below<|il (mi _ _)) (y.moves (fI.fJ (P:=λ_=>False)<|il (mi _ _)) λx=>x) l 0;have⟨d,_⟩:=b.wp.tree.cells;have⟨U,_⟩:=h.wp.tree.cells;have K:w.heap.size≠B.oF:=by
  have⟨_,⟨n,_,L⟩,_⟩:=b.wp.tY
  have:=L.lt
  omega
 have M:∀o,O.c w.heap.size o=((w.k (jn q) 147).drew).c w.heap.size o:=ko (c:=w.heap.size) u (by simp[World.drew]) K;have Q:fe (fI (Mine i) N N w j/\fZ N j s i p B A { g with ft:=AR g.ft q } I/\gG N j i B (upd g.ft.od q fj) I J):=⟨(fI.fJ a).trans ((f.mono λt d=>(Or.inr (by rw[d]):Mine i t)).trans ((fI.fJ<|il (mi _ _)).trans (z.mono λt d=>(Or.inr (by rw[d]):Mine i t)))),C,D⟩;obtain⟨V,W,X,Y,Z,R⟩:=sf q;rw[R]at F G M a |-;clear b k m r h y C D f z a u;go_enter func139,ntmps139;go_wp2
 go_region
 all_goals
  go_wp2
  go_region
  all_goals
   go_wp2;exact bodyPost_end (v:=fC #[]) (by simp[results,results139,go_sem]) fX ⟨fX,Q⟩
theorem OP{w o W}(G:fZ N w s i p B A g I)(d:gG N w i B g.ft.od I J)(af:I<maxLen){es es':List fV}(H:g.ft.od q=fh es)(f:w.grownBy o (J q).ownBlock){v6}
  (O:o.ownsRow 0 96 3 v6 (fv es') (flat es'))(P:v6.ownBlock=(J q).ownBlock\/∀l,v6.ownBlock=fh l->w.heap.size<=l)(C:oO A es')(b:ju o W):
  ∃h Q,(Instr.mapUpdate 162 (.map<|fh B.oD) (fD<|jn q) v6).run prog W=.ok () h/\fI (Mine i) N Q w h/\
   fZ Q h s i p B A { g with ft:={ g.ft with od:=upd g.ft.od q (fh es') } } (I+1)/\gG Q h i B (upd g.ft.od q<|fh es') (I+1) (upd J q v6):=by
 have X:=(d.good q es H).1;have hrq:=d.row q es H;have⟨n,K,D⟩:=d.map;have⟨ar,au,Y⟩:=D.isMap;have ag:fh B.oD≠(J q).ownBlock:=rv hrq.1 Y;have ah:o.heap[B.oD]?=w.heap[B.oD]?:=f.block _ D.lt ag;have ai:W.heap[B.oD]?=w.heap[B.oD]?:=(b.block _<|np D.lt f.size).trans ah;obtain⟨h,aj,ak,r,av⟩:=(D.keep ai).store X (hBN K af) underlying162 v6;have aw:∀k,(N k).1≠0->oU N v6 (i,5) k=N k:=λk u=>by
  by_cases e:v6.ownBlock=fh k;rw[vK e];rcases P with c|c
  exact(hrq.2 k<|c▸e).symm;rw[G.st.fresh k<|c k e]at u;exact absurd fX u;exact nS e _
 have R:∀k,k<w.heap.size->oU N v6 (i,5) k=N k:=λk u=>by
  by_cases e:v6.ownBlock=fh k;rw[vK e];rcases P with c|c
  exact(hrq.2 k<|c▸e).symm
  have:=c k e
  omega;exact nS e _
 have al:lG (oU N v6 (i,5)) h:=λk u=>by
  have am:o.heap.size<=k:=wy b.size (by omega);rw[nS (λe=>by have:=gc O e;omega)];exact G.st.fresh k<|wy f.size am
 have m:fI (λt=>t=(i,5)) N (oU N v6 (i,5)) w h:=by
  refine⟨r.os.trans<|b.os.trans f.os,r.tape.trans<|b.tape.trans f.tape,r.output.trans<|b.output.trans f.output,wy f.size<|wy b.size r.size,R,λk u K=>?_,λ_=>al⟩;have E:k<o.heap.size:=np u f.size;rw[r.block k (np E b.size) λe=>K (by cases e;exact d.tag),b.block k E,f.block k u λe=>K<|hrq.2 k e.symm]
 have Z:gG (oU N v6 (i,5)) h i B (upd g.ft.od q<|fh es') (I+1) (upd J q v6):=by
  have ax:oN (oU N v6 (i,5)) h (i,5) v6 es':=by
   refine⟨gg O λj F=>?_,λl an=>vK an _⟩;have aa:=gc O F;rw[r.block j (np aa b.size) λe=>?_,b.block j aa]
   grind
  refine⟨(R _ D.lt).trans d.tag,⟨n+1,by omega,ak.congr λx a=>?_⟩,λx fs a=>?_,λx fs a=>?_,λx y fs ao l a S c L=>?_⟩
  ·by_cases e:x=q
   all_goals grind [upd_same,kh]
  by_cases e:x=q;subst e;rw[upd_same]at a;cases a;exact⟨X,C.rising,C.len,λe M=>⟨(C.ok e M).1,(C.ok e M).2.1⟩⟩;rw[kh e]at a;exact d.good x fs a;by_cases e:x=q
  grind [upd_same]
  rw[kh e]at a |-;have ab:=d.row x fs a;refine ab.keep λj F T=>⟨?_,R j T⟩;have E:j<o.heap.size:=np T f.size;rw[r.block j (np E b.size) λU=>?_,b.block j E,f.block j T λU=>?_];exact e<|d.inj x q fs es j a H F U.symm;have v:j=B.oD:=by injection U
  rw[v]at F;exact rv ab.1 Y F.symm;have apart:∀z fz,z≠q->g.ft.od z=fh fz->(J z).ownBlock=fh l->v6.ownBlock=fh l->False:=λz fz ap ac ad ae=>by
   rcases P with V|V
   exact ap<|d.inj z q fz es l ac H ad (V▸ae);have ay:=gc (d.row z fz ac).1 ad
   have:=V l ae
   omega
  by_cases e:x=q;by_cases v:y=q;rw[e,v];subst e;rw[upd_same]at c;rw[kh v]at S L
  grind
  by_cases v:y=q
  ·subst v
   rw[upd_same]at L;rw[kh e]at a c
   all_goals grind
  rw[kh e]at a c;rw[kh v]at S L;exact d.inj x y fs ao l a S c L
 refine⟨h,oU N v6 (i,5),aj,m.mono λt aq=>(Or.inr (by rw[aq]):Mine i t),G.od m (jh _) Z λx fs a=>?_,Z⟩;by_cases e:x=q;subst e;rw[upd_same]at a;cases a;exact λe M=>(C.ok e M).2;rw[kh e]at a;exact G.wp.ok.od x fs a
theorem kuv{a n c k:Nat}(d:w.ownsRow 0 96 3 (my a 0 n c) n (flat es))(f:fv es=n)(g:k<n):
  ik 194 #[my a 0 n c,fY (k:Int),fY<|(k:Int)+1] w λe H=>e=fF (my a 0 (n-1) c)/\
   H.ownsRow 0 96 3 (my a 0 (n-1) c) (n-1) (flat<|es.eraseIdx k)/\w.grownBy H (fh a)/\H.heap.size=w.heap.size:=by
 rcases d.2 with⟨e,_⟩|⟨u,v,h,e,_,i,j,b,l,m⟩
 cases e;cases e;refine(hd2 a n c k es h w i f g j b l m).via λH⟨o,p,q,r,s,t⟩=>?_
 refine⟨fX,⟨?_,.inr ⟨a,c,o,fX,zt _,p,by omega,b,q,r⟩⟩,s,t⟩
 grind
theorem SS(a:Below (w.alloc o1).heap.size (w.alloc o1) O):w.heap.size<O.heap.size:=by
 have b:=a.size
 grind [zw]
def mP(b:a<w.heap.size)(o):a<(w.alloc o).heap.size:=by rw[zw];omega
def jt(w:fq)(o):w.heap.size<(w.alloc o).heap.size:=by rw[zw];omega
def FV(c:N a=t)(d:N b=t')(f:t≠t'):a≠b:=λe=>f<|c.symm.trans (e▸d)
theorem ti2(i:Nat):((i,1):Nat×Nat)≠(i,5):=λa=>by cases a
theorem hfr(i:Nat):((0,0):Nat×Nat)≠(i,5):=λa=>by cases a
def hft{a n c}(b:v=my a 0 n c)(d e):(Value.slice (fh<|ii a 0) d e).ownBlock=v.ownBlock:=by subst b;rfl
def Yn{a n c}(b:v=my a 0 n c)(d:w.grownBy H (fh a)):w.grownBy H v.ownBlock:=by subst b;exact d
theorem Yo(a:oO A es)(n):oO A (ra es n):=
 ⟨by unfold ra;exact List.Pairwise.sublist (List.eraseIdx_sublist _ _) a.rising,by unfold ra;exact wy (List.length_eraseIdx_le _ _) a.len,λe b=>a.ok e<|Jl b⟩
theorem hgB{a n c ix:Nat}(f:fZ N w s i p B A g I)(h:gG N w i B g.ft.od I J)(j:I<maxLen)(k:g.ft.od q=fh es)(e:J q=my a 0 n c)(o:kB es nm=fm)(r:ub es nm=ix)(l:oO A es)
  (t:w6.ownsRow 0 96 3 (my a 0 (fv es-1) c) (fv es-1) (flat<|es.eraseIdx ix))(m:w.grownBy w6 (fh a)):
  ∃b d,(Instr.mapUpdate 162 (.map<|fh B.oD) (fD<|jn q)<|my a 0 (fv es-1) c).run prog w6=.ok () b/\fI (Mine i) N d w b/\
   fZ d b s i p B A { g with ft:={ g.ft with od:=upd g.ft.od q (fh<|ra es nm) } } (I+1)/\gG d b i B (upd g.ft.od q<|fh (ra es nm)) (I+1) (upd J q<|my a 0 (fv es-1) c):=by
 refine OP f h j k (Yn e m) ?_ (.inl<|hft e _ _) (Yo l nm)<|mi _ _
 grind [AL,ra]
theorem OQ(h:fZ N w s i p B A g I)(ag:gG N w i B g.ft.od I J)(aY:I+300<1099511627776)(l:Good (q++[n]))(F:jm A g.fs g.ft K q)(G:oO A (K q))(L:kB (K q) n=fm):
  ik 138 #[ie B.bt,fD<|jn (q++[n])] w λaB H=>aB=pD #[]/\∃M aC,fI (Mine i) N M w H/\
   fZ M H s i p B A { g with ft:=ou A g.fs g.ft q n } (I+150)/\gG M H i B (ou A g.fs g.ft q n).od (I+150) aC:=by
 have aD:Good q:=by have:=l.dropLast;rwa [wo]at this
 have aZ:fv q<=4:=by have:=l.len;simp at this;omega
 have⟨aE,aF,Q,aG⟩:=rS F;have ah:ou A g.fs g.ft q n={ rp A g.fs g.ft (fx q) with od:=upd (rp A g.fs g.ft<|fx q).od q (fh<|ra (K q) n) }:=by
  unfold ou;simp only[Q,sA]
 rw[ah];have m:=λW(ai:ju w W)=>uK (s:=s) (i:=i) (p:=p) (B:=B) (A:=A) (fx q) N W g I K J (h.below ai) (ag.moves (fI.fJ (P:=λ_=>False) ai) λx=>x) (by rw[Hv];omega) (by rw[tP];exact aD) (by rw[tP];exact F)
 rw[tP,Hv]at m;have r:=λW=>jr (q++[n]) l W
 have t:=λW=>mO (q++[n]) l (by simp) W;rw[wo]at r;simp only[KR]at t;have⟨bb,bc,bd,be,Z,R⟩:=sf<|q++[n];have⟨bf,bg,bh,bi,bj,S⟩:=sf q;unfold ln at r t;simp only[R,S]at r t m;rw[R];have⟨aj,aH⟩:=ql L;have bk:=G.len;have U:=h.two;have aI:I+20*(fv q+1)<maxLen:=by unfold maxLen;omega
 generalize ak:ub (K q) n=ix at aj;have al:fe (ub (K q) n=ix):=ak;have aJ:fe _:=S;have bl:fe _:=h;have aK:fe _:=m;have am:fe _:=Q;have T:fe _:=G;have an:fe _:=L;have ao:=h.st.fresh;have Bh:fe _:=ao;clear ak h ag m aE aF Q aG G L R S F ah aH ao;go_enter func138,ntmps138;go_wp2_with(first
  |(go_at_call 132;refine(r _).via λO V=>?_;have X:=SS V;have bm:=λo=>(kw V).1 w.heap.size o (by simp);have u:=gS ((mi w.heap.size w).alloc (lw _) _) V)
  |(go_at_call 192;go_loud(apply (aK _<|u.alloc u.size _).mono;rintro e j ⟨bn,rfl,aL,bo,d,y,Y,ap,aq⟩;have bp:=Hc (b:=w.heap.size) U d (mP X _)<|Bh _ (lw _);have bq:=Hc (b:=O.heap.size) U d (jt _ _)<|Bh _ (Ef X);have aM:aL O.heap.size=(0,0):=(d.tags _<|jt _ _).trans<|Bh _ (Ef X);have ar:O.heap.size<j.heap.size:=np (jt _ _) d.size;have a:=Y.row _ _ am;have⟨z,aN,aa⟩:=hZ a.1 (by omega);rw[aa]at ap a;subst ap;have br:z<j.heap.size:=gc a.1 fX;have⟨ab,bs,_,_,_⟩:=y.wp.tree.cells;have aO:=FV y.wp.tree.tt (a.2 z fX)<|ti2 i;have aP:=FV aM (a.2 z fX)<|hfr i;have aQ:fe _:=y;have aR:fe _:=d;have HD3:fe _:=Y;have C:fe _:=a;have aS:fe _:=aa;have bt:fe _:=aq;clear y d Y a aa aq))
  |(go_at_call 134;refine(t _).via λD k=>?_;have au:O.heap.size<D.heap.size:=np ar k.size;have bu:∀o,D.c O.heap.size o=j.c O.heap.size o:=λo=>(kw k).1 _ o ar;have d4:D.c B.bt 8=j.c B.bt 8:=(kw k).1 _ _ ab)
  |(go_at_call 133;go_loud(refine(iG (gg C.o.1 λac ad=>k.block ac<|gc C.o.1 ad) n T.o.rising T.o.len).via λae af=>?_;rw[al.o,an.o];have f:=gS k af;have bv:∀o,ae.c O.heap.size o=D.c O.heap.size o:=λo=>(kw af).1 _ o au;have d5:ae.c B.bt 8=j.c B.bt 8:=(kw f).1 _ _ ab)))
 have av:ae.drew.ownsRow 0 96 3 (fy (fh<|ii z 0) (fv<|K q) aN) (fv<|K q) (flat<|K q):=gg C.1 λac ad=>(il f).block ac<|gc C.1 ad;have aw:=kuv av fX aj
 change fe _ at aw
 clear av;have bw:IntKind.i64.wrap ((ix:Int)+1)=(ix:Int)+1:=by rw[Cb];omega
 go_region_with(go_at_call 194;go_loud(refine Calls.via aw λw6⟨ax,E,bx⟩=>?_;have bz:=λo=>ko (c:=O.heap.size) E (np au af.size) aP o;have d6:=ko (c:=B.bt) E (np ab f.size) aO 8;have⟨bA,aT,aU,ay,az,aA⟩:=hgB (aQ.below<|il f) (HD3.moves (fI.fJ (P:=λ_=>False)<|il f) (λx=>x)) aI am aS an al T ax E;rw[aJ.o]at aU;have aV:fe _:=ay;have aW:fe _:=az;have aX:fe _:=aA;clear ay az aA ax E))
 all_goals
  go_wp2;exact bodyPost_end (v:=fC #[]) (by simp[results,results138,go_sem]) fX ⟨fX,aT,_,((mr (u.alloc u.size _) aR).trans<|(fI.fJ (il f)).trans aV),aW.mono<|by omega,aX.mono<|by omega⟩
theorem OS(a:oO A es){v:Int×Int}(c:fN n=fm)(d:oQ A (n,v))(f:kB es n=fm\/fv es<16):oO A (zr es n v):=by
 refine⟨wX a.rising,?_,λe b=>?_⟩;rw[sV]
 have:=a.len
 grind
 rcases ND b with rfl|b
 grind
 exact a.ok e b
theorem kvs{v:Int×Int}{e}(j:fZ N w s i p B A g I)(k:gG N w i B g.ft.od I J)(l:I<maxLen)(m:g.ft.od q=fh es)(E:kB es nm=fo)(F:ub es nm=ix)(n:oO A es)(o:fv es<16)(r:fN nm=fm)(t:oQ A (nm,v)){h:fu}(u:J q=h)
  (U:xC w w6 h.ownBlock (fv es) (es.take ix++(nm,v)::es.drop ix) e):
  ∃a c,e=fF (my a 0 (fv es+1) c)/\w.grownBy w6 h.ownBlock/\∃b d x,(Instr.mapUpdate 162 (.map<|fh B.oD) (fD<|jn q)<|my a 0 (fv es+1) c).run prog w6=.ok () b/\fI (Mine i) N d w b/\
   fZ d b s i p B A { g with ft:={ g.ft with od:=upd g.ft.od q (fh<|zr es nm v) } } (I+1)/\gG d b i B (upd g.ft.od q<|fh (zr es nm v)) (I+1) x:=by
 subst u;have⟨a,c,G,H,y,z⟩:=U;have K:zr es nm v=es.take ix++(nm,v)::es.drop ix:=by
  grind [zr,decide]
 have L:fv (zr es nm v)=fv es+1:=by rw[sV,km (by grind)]
 have⟨b,d,f,M,O,P⟩:=OP j k l m y (v6:=my a 0 (fv es+1) c) (es':=zr es nm v) (by grind) (by
  rcases z with f|f
  exact .inl f;exact .inr (λC D=>by
   obtain rfl:a=C:=by simpa [Value.ownBlock]using D
   exact f)) (OS n r t<|.inr o)<|mi _ _
 grind
theorem LG{row:Option Nat}(b:w.grownBy H row)(d:c<w.heap.size)(e:fh c≠row)(o):H.c c o=w.c c o:=wJ (a:=(ii c o))<|b.block c d e
def CE(a:oN N w t v es)(b:N c=t')(d:t'≠t):fh c≠v.ownBlock:=λe=>d<|b.symm.trans (a.2 c e.symm)
def kvu{w a}(b:oN N w t v es)(c:ju w a):∀g,v.ownBlock=fh g->a.heap.size≠g:=λg d e=>by
 have f:=gc b.1 d
 have h:=c.size
 omega
theorem CF{o1 a}(b:Below ((w.alloc o1).alloc a).heap.size ((w.alloc o1).alloc a) O):w.heap.size<O.heap.size/\w.heap.size+1<O.heap.size:=by
 have c:=b.size
 grind [zw]
def JP{n}(a:Below n w W)(c:n<=b):Below n w (W.setCell (ii b o) v):=a.setCell c _
def FW:(W.setCell (ii b o) v).heap.size=W.heap.size:=by simp
theorem LH(t:fZ N w s i p B A g I)(ah:gG N w i B g.ft.od I J)(bn:I+300<1099511627776)(m:Good (q++[n]))(E:jm A g.fs g.ft K q)(ai:oO A (K q))(F:kB (K q) n=fo)(aj:fv (K q)<16)
  (nm)(k id:Int)(ak:oQ A (n,k,id)):
  ik 135 #[ie B.bt,fD<|jn (q++[n]),fD #[hh nm,fY k,fY id]] w λaK H=>aK=pD #[]/\∃M aL,fI (Mine i) N M w H/\
   fZ M H s i p B A { g with ft:=qx A g.fs g.ft q n (k,id) } (I+150)/\gG M H i B (qx A g.fs g.ft q n (k,id)).od (I+150) aL:=by
 have aM:Good q:=by have:=m.dropLast;rwa [wo]at this
 have aN:fN n=fm:=m.val n (by simp);have bo:fv q<=4:=by have:=m.len;simp at this;omega
 have⟨aO,aP,G,aQ⟩:=rS E;have al:qx A g.fs g.ft q n (k,id)={ rp A g.fs g.ft (fx q) with od:=upd (rp A g.fs g.ft<|fx q).od q (fh<|zr (K q) n (k,id)) }:=by
  unfold qx;simp only[G,sA];rw[km (by rw[F];decide)]
 rw[al];have u:=λW(am:ju w W)=>uK (s:=s) (i:=i) (p:=p) (B:=B) (A:=A) (fx q) N W g I K J (t.below am) (ah.moves (fI.fJ (P:=λ_=>False) am) λx=>x) (by rw[Hv];omega) (by rw[tP];exact aM) (by rw[tP];exact E)
 rw[tP,Hv]at u;have y:=λW=>jr (q++[n]) m W
 have z:=λW=>mO (q++[n]) m (by simp) W;rw[wo]at y;simp only[KR]at z;have⟨bp,bq,br,bs,Z,L⟩:=sf<|q++[n];have⟨bt,bu,bv,bw,bx,Q⟩:=sf q;unfold ln at y z;simp only[L,Q]at y z u;rw[L];have U:=t.two;have aR:I+20*(fv q+1)<maxLen:=by unfold maxLen;omega
 have an:ub (K q) n<=fv (K q):=Vo _ _;generalize ao:ub (K q) n=ix at an;have ap:fe (ub (K q) n=ix):=ao;have aS:fe _:=Q;have aT:fe _:=u;have aq:fe _:=G;have R:fe _:=ai;have ar:fe _:=F;have au:=t.st.fresh;have Bh:fe _:=au;have aU:fe _:=ak;clear ao t ah u aO aP G aQ ai F L Q E al au ak;go_enter func135,ntmps135;go_wp2_with(first
  |(go_at_call 134;refine(z _).via λO r=>?_;have⟨bz,aV⟩:=CF r;have bA:=λo=>(kw r).1 w.heap.size o (by simp;omega);have bB:=λo=>(kw r).1 (w.heap.size+1) o (by simp);have f1:=λo=>(kw r).2 (w.heap.size+1) o (by simp);have aW:=gS (((mi w.heap.size w).alloc (lw _) _).alloc (by simp) _) r)
  |(go_at_call 132;go_loud(refine(y _).via λh S=>?_;have j:=gS (JP aW<|jh _) S;have av:=np aV<|EL (FW (W:=O) (b:=w.heap.size+1) (o:=0) (v:=fA n)).symm;have bC:=λo=>(kw S).1 (w.heap.size+1) o av;have T:=np av S.size))
  |(go_at_call 192;go_loud(apply (aT.o _<|j.alloc j.size _).mono;rintro e V ⟨aX,rfl,bD,bE,d,X,Y,aa,aY⟩;have bF:=Hc (b:=w.heap.size+1) U d (mP T _)<|Bh.o _ (jh _);have bG:=Hc (b:=h.heap.size) U d (jt _ _)<|Bh.o _ j.size;have aZ:=(d.tags h.heap.size<|jt _ _).trans<|Bh.o _ j.size;have bb:=(d.tags (w.heap.size+1)<|mP T _).trans<|Bh.o _ (jh _);have C:h.heap.size<V.heap.size:=np (jt _ _) d.size;have ab:w.heap.size+1<V.heap.size:=Nc T C;have ac:=Y.row _ _ aq.o;rw[aa]at ac;have⟨ad,bH,_,_,_⟩:=X.wp.tree.cells;have aw:fe _:=X;have bc:fe _:=d;have HD3:fe _:=Y;have f:fe _:=ac;have bd:fe _:=aa;clear X d Y ac aa aY))
  |(go_at_call 133;go_loud(refine(iG f.o.1 n R.o.rising R.o.len).via λa c=>?_;rw[ap.o,ar.o];have bI:=λo=>(kw c).1 h.heap.size o C;have bJ:=λo=>(kw c).1 (w.heap.size+1) o ab;have d4:=(kw c).1 B.bt 8 ad)))
 have l:ju V ((a.k #[hh n,fY k,fY id] 96).drew):=il<|c.alloc c.size _;have ax:((a.k #[hh n,fY k,fY id] 96).drew).ownsRow 0 96 3 aX (fv<|K q) (flat<|K q):=gg f.o.1 λbe bf=>l.block be<|gc f.o.1 bf;have ay:((a.k #[hh n,fY k,fY id] 96).drew).heap[a.heap.size]?=fh (.cells #[hh n,fY k,fY id] 96 (0,0)):=Array.getElem?_push_size;have az:=kna (x:=(n,k,id)) ax (Ef aj) an ay<|kvu f.o c;have bg:fe _:=az;have aA:=CE f.o aZ<|hfr i;have aB:=CE f.o bb<|hfr i;have aC:=CE f.o aw.o.wp.tree.tt<|ti2 i;have aD:h.heap.size<((a.k #[hh n,fY k,fY id] 96).drew).heap.size:=np C l.size;have aE:w.heap.size+1<((a.k #[hh n,fY k,fY id] 96).drew).heap.size:=np ab l.size;have aF:B.bt<((a.k #[hh n,fY k,fY id] 96).drew).heap.size:=np ad l.size;have bK:h.heap.size<a.heap.size:=np C c.size;have bL:w.heap.size+1<a.heap.size:=np ab c.size;have bM:B.bt<a.heap.size:=np ad c.size;have ae:fe _:=l;have af:fe _:=And.intro aD<|And.intro aE aF;have ag:fe _:=And.intro aA<|And.intro aB aC;clear az ax ay l aD aE aF aA aB aC
 go_region_with(go_at_call 193;go_loud(apply RK bg.o;rintro e w6 aG;obtain⟨bN,bO,rfl,D,bQ,bh,bi,bj,aH,aI,aJ⟩:=kvs (v:=(k,id)) (aw.o.below ae.o) (HD3.o.moves (fI.fJ (P:=λ_=>False) ae.o) (λx=>x)) aR aq.o ar.o ap.o R.o aj aN aU.o bd.o aG;have bR:=LG D af.o.1 ag.o.1;have bS:=LG D af.o.2.1 ag.o.2.1;have d6:=LG D af.o.2.2 ag.o.2.2 8;rw[aS.o]at bj;have bk:fe _:=aH;have bl:fe _:=aI;have bm:fe _:=aJ;clear aH aI aJ D aG))
 all_goals
  go_wp2;exact bodyPost_end (v:=fC #[]) (by simp[results,results135,go_sem]) fX ⟨fX,bh,bi,((mr (j.alloc j.size _) bc.o).trans<|(fI.fJ ae.o).trans bk.o),bl.o.mono<|by omega,bm.o.mono<|by omega⟩
theorem SU(f:fZ N w s i p B A g I)(o:gG N w i B g.ft.od I J){k id:Int}{a r c ix:Nat}(h:g.ft.od q=fh es)(u:J q=my a 0 r c)(b:kB es n=fm)(E:ub es n=ix)(F:fN n=fm)(G:oQ A (n,k,id))
  (v:H=((w.setCell (ii a<|ix*3)<|hh n).setCell (ii a<|ix*3+1)<|fY k).setCell (ii a<|ix*3+2) (fY id)):
  fZ N H s i p B A { g with ft:={ g.ft with od:=upd g.ft.od q (fh<|zr es n (k,id)) } } I/\gG N H i B (upd g.ft.od q<|fh (zr es n (k,id))) I J/\fI (λt=>t=(i,5)) N N w H/\w.grownBy H (fh a):=by
 subst E;obtain⟨K,R⟩:=ql b;have x:=o.row q es h;have y:(J q).ownBlock=fh a:=by rw[u];rfl
 have j:w.grownBy H (fh a):=by rw[v];exact sk<|sk (sk<|Ha _ _)
 have z:=OS (f.fQ h) F G<|.inl b;have l:=x.1;rw[u]at l;have L:r=fv es:=by
  rcases l.2 with⟨e,_⟩|⟨S,T,_,e,_⟩
  all_goals grind
 subst L;have M:=(((l.stored (ub es n*3)<|hh n).1).stored (ub es n*3+1)<|fY k).1;have O:=(M.stored (ub es n*3+2)<|fY id).1;rw[JL K (n,k,id),<-FQ b (k,id),<-v]at O;have U:fv (zr es n (k,id))=fv es:=by rw[sV,lv b]
 have C:=o.rewrite (A:=A) h y j (by grind) z;have m:fI (λt=>t=(i,5)) N N w H:=QP j (by simp_all)<|x.2 a y;refine⟨f.od m (lw _) C λD P d=>?_,C,m,j⟩;by_cases e:D=q;subst e;rw[upd_same]at d;cases d;exact λe Q=>(z.ok e Q).2;rw[kh e]at d;exact f.wp.ok.od D P d
theorem FX{a n c}(d:w.ownsRow 0 96 3 (my a 0 n c) n (flat es))(e:ix<fv es):w.c a (ix*3)=fh (hh (es[ix]).1)/\w.c a (ix*3+1)=fh (fY (es[ix]).2.1)/\w.c a (ix*3+2)=fh (fY (es[ix]).2.2):=
 zU (b:=a) (λf g h=>by have:=ks d f g h;rwa [iO]at this) e
theorem hhx(D:fZ N w s i p B A g I)(ai:gG N w i B g.ft.od I J)(bq:I+300<1099511627776)(l:Good (q++[n]))(S:jm A g.fs g.ft K q)(T:oO A (K q))(E:kB (K q) n=fm)
  (nm)(k id:Int)(aj:oQ A (n,k,id)):
  ik 135 #[ie B.bt,fD<|jn (q++[n]),fD #[hh nm,fY k,fY id]] w λaP H=>aP=pD #[]/\∃M V,fI (Mine i) N M w H/\
   fZ M H s i p B A { g with ft:=qx A g.fs g.ft q n (k,id) } (I+150)/\gG M H i B (qx A g.fs g.ft q n (k,id)).od (I+150) V:=by
 have aQ:Good q:=by have:=l.dropLast;rwa [wo]at this
 have aR:fN n=fm:=l.val n (by simp);have br:fv q<=4:=by have:=l.len;simp at this;omega
 have⟨aS,aT,X,aU⟩:=rS S;have ak:qx A g.fs g.ft q n (k,id)=AR { rp A g.fs g.ft (fx q) with od:=upd (rp A g.fs g.ft<|fx q).od q (fh<|zr (K q) n (k,id)) } (q++[n]):=by
  unfold qx AR;simp only[X,sA];rw[lv E]
 rw[ak];have F:=λW(al:ju w W)=>uK (s:=s) (i:=i) (p:=p) (B:=B) (A:=A) (fx q) N W g I K J (D.below al) (ai.moves (fI.fJ (P:=λ_=>False) al) λx=>x) (by rw[Hv];omega) (by rw[tP];exact aQ) (by rw[tP];exact S)
 rw[tP,Hv]at F;have G:=λW=>jr (q++[n]) l W
 have L:=λW=>mO (q++[n]) l (by simp) W;rw[wo]at G;simp only[KR]at L;have⟨am,an,ao,ap,Z,u⟩:=sf<|q++[n];have⟨bs,bt,bu,bv,bw,aq⟩:=sf q;unfold ln at G L;simp only[u,aq]at G L F;rw[u];have U:=D.two;have bx:I+20*(fv q+1)<maxLen:=by unfold maxLen;omega
 have⟨Y,_⟩:=ql E;have bz:=T.len;generalize ar:ub (K q) n=ix at Y;have au:fe (ub (K q) n=ix):=ar;have bA:fe _:=u;have aa:=λ(M:gF)(W:fq)(av:WG)(aw:Nat)(V:fT->fu)(a:fZ M W s i p B A av aw)(b:gG M W i B av.ft.od aw V)=>FU a b l;simp only[u]at aa;have HFG:fe _:=aa;have aV:fe _:=F;have ax:fe _:=X;have ay:fe _:=T;have az:fe _:=E;have aA:=D.st.fresh;have Bh:fe _:=aA;have aW:fe _:=aj;clear ar D ai F aS aT X aU T E u aq S ak aA aj aa;go_enter func135,ntmps135;go_wp2_with(first
  |(go_at_call 134;refine(L _).via λO y=>?_;have⟨Q,aX⟩:=CF y;have aY:=λo=>(kw y).1 w.heap.size o (by simp;omega);have bB:=λo=>(kw y).1 (w.heap.size+1) o (by simp);have f1:=λo=>(kw y).2 (w.heap.size+1) o (by simp);have aZ:=gS (((mi w.heap.size w).alloc (lw _) _).alloc (by simp) _) y)
  |(go_at_call 132;go_loud(refine(G _).via λR z=>?_;have m:=gS (JP aZ<|jh _) z;have ab:=np aX<|EL (FW (W:=O) (b:=w.heap.size+1) (o:=0) (v:=fA n)).symm;have bC:=λo=>(kw z).1 (w.heap.size+1) o ab;have ac:=np ab z.size;have ad:O.heap.size<=R.heap.size:=wy (EL (FW (W:=O) (b:=w.heap.size+1) (o:=0) (v:=fA n)).symm) z.size;have bb:=λo=>(kw z).1 w.heap.size o<|Nc (Nat.lt_succ_self _) ab))
  |(go_at_call 192;go_loud(apply (aV _<|m.alloc m.size _).mono;rintro e C ⟨bD,rfl,aB,bc,d,ae,af,aC,bd⟩;have bE:=Hc (b:=w.heap.size+1) U d (mP ac _)<|Bh _ (jh _);have bF:=Hc (b:=R.heap.size) U d (jt _ _)<|Bh _ m.size;have bG:=(d.tags R.heap.size<|jt _ _).trans<|Bh _ m.size;have bH:=(d.tags (w.heap.size+1)<|mP ac _).trans<|Bh _ (jh _);have be:R.heap.size<C.heap.size:=np (jt _ _) d.size;have aD:w.heap.size+1<C.heap.size:=Nc ac be;have f:=af.row _ _ ax;have⟨h,bI,ag⟩:=hZ f.1<|hBN (zt _) Y;rw[ag]at aC f;subst aC;have aE:h<C.heap.size:=gc f.1 fX;have⟨bJ,bK,bL⟩:=FX f.1 Y;have bM:=zY f.1;have bf:=Hc (b:=w.heap.size) U d (mP (np Q ad) _)<|Bh _ (lw _);have bg:=(d.tags w.heap.size<|mP (np Q ad) _).trans<|Bh _ (lw _);have aF:=FV bg (f.2 h fX)<|hfr i;have bN:=aF.symm;have aG:w.heap.size<C.heap.size:=Nc (Nat.lt_succ_self _) aD;have⟨bO,bQ,_,_,_⟩:=ae.wp.tree.cells;have bh:fe _:=ae;have bi:fe _:=d;have HD3:fe _:=af;have bj:fe _:=f;have bk:fe _:=ag;clear ae d af f ag bd)))
 have aH:∀o v,#[Value.string am,hh an,hh ao,hh ap,hh Z][o]?=fh v->C.cell? (ii w.heap.size o)=fh v:=λo v ah=>by
  rw[bf,hwn _ _ _<|np Q ad,bb];rw[show(O.setCell (ii (w.heap.size+1) 0)<|hh n).cell? (ii w.heap.size o)=O.cell? (ii w.heap.size o)from ko (c:=w.heap.size) (sk<|Ha O (fh<|w.heap.size+1)) Q (by omega) o,aY];simpa using ah
 refine(iG bj.o.1 n ay.o.rising ay.o.len).via λaI j=>?_;rw[au.o,az.o];have bR:=λo=>(kw j).1 h o aE;have bS:=λo=>(kw j).2 h o aE;have bT:=λo=>(kw j).1 (w.heap.size+1) o aD;have r:∀o v,#[Value.string am,hh an,hh ao,hh ap,hh Z][o]?=fh v->(((aI.setCell (ii h<|ix*3)<|hh n).setCell (ii h<|ix*3+1)<|fY k).setCell (ii h<|ix*3+2) (fY id)).cell? (ii w.heap.size o)=fh v:=λo v ah=>by
  rw[ko (c:=w.heap.size) (sk (o:=ix*3+2) (v:=.int .i64 id)<|sk (o:=ix*3+1) (v:=.int .i64 k) (sk (o:=ix*3) (v:=fA n)<|Ha aI (fh h))) (np aG j.size) aF o,(kw j).1 w.heap.size o aG];exact aH o v ah
 have bU:=r 0 _ fX;have bV:=r 1 _ fX;have bW:=r 2 _ fX;have bX:=r 3 _ fX;have bY:=r 4 _ fX;have⟨o1,aJ,aK,_⟩:=SU (bh.below j) (HD3.moves (fI.fJ (P:=λ_=>False) j) λx=>x) ax bk az au aR aW fX;have aL:=HFG aB _ _ _ _ o1 aJ;have bl:fe _:=j
 change fe _ at aL aK
 clear r aH o1 aJ;go_wp2_with(go_at_call 139;go_loud(refine Calls.via aL λbZ⟨aM,aN,aO⟩=>?_;have bm:fe _:=aM;have bn:fe _:=aN;have bo:fe _:=aO;clear aM aN aO))
 all_goals
  exact ni (v:=fC #[]) (by simp[results,results135,go_sem]) fX ⟨fX,aB,bc,((mr (m.alloc m.size _) bi).trans ((fI.fJ bl).trans ((aK.mono λt bp=>(Or.inr (by rw[bp]):Mine i t)).trans bm))),bn.mono<|by omega,bo.mono<|by omega⟩
theorem LI(a:Sound A){t d c:LT}{Y:Kids}(b:fM A m t)(e:t.at A q=fh d)(f:kids A d=fh Y)(i:fN n=fm)(j:fv q<m)(k:fM A (m-fv q-1) c)(l:kB Y n=fm\/fv Y<16):fM A m (vy A (λY=>zr Y n c) q t):=by
 obtain⟨h,o,p⟩:=lO a (tA a _ b e).2.1 f;refine RY a _ q b e f (zJ (wX h) ?_ λx g=>?_)
 ·all_goals grind [sV]
 rcases ND g with rfl|g
 all_goals grind
theorem oT.len(a:oT N w i v es):∃b c,v=fy b (fv es) c:=by
 rcases a.1.2 with⟨e,d⟩|⟨f,g,_,e,_⟩
 all_goals grind
def Left (s i p:Nat)(B:WB)(A:List Ob)(N:gF)(w H:fq)(g:WG)(b:b6)(t':LT)(I:Nat):Prop:=
 ∃M a,fI (Mine i) N M w H/\fZ M H s i p B A { g with fs:=b,ft:=a } I/\Flat A t' a/\fM A 5 t'
def iB{a:b6}{t}(m:fI (Mine i) N M w H)(b:fZ M H s i p B A { g with fs:=a } I)(hF:Flat A t g.ft)(c:fM A 5 t):Left s i p B A N w H g a t I:=⟨M,g.ft,m,b,hF,c⟩
theorem SV(t)(w:fq):ik 70 #[ie t,fD<|ml kq kq kq kq kq] w (ut (fY 6) w):=by
 have a:=λW=>QR W;have c:∀W,(Op.equalIn 10000 147 (ln [])<|ln []).run prog W=.ok fm W:=λW=>by
  have:=gX Good.nil Good.nil W
  rwa [qu fX]at this
 unfold ln jn at a c;simp only[tQ]at a c;go_enter func70,ntmps70;go_wp2
 go_region_with(go_at_call 75;refine(a _).via λO b=>?_;have⟨d,e⟩:=kw b;have f:=rY b)
 all_goals
  go_wp2;go_ret;exact⟨fX,gS (il<|(mi _ _).alloc (lw _) _) b⟩
theorem SX{t}(h:fZ N w s i p B A g I)(bl:I+400<1099511627776)(hF:Flat A t g.ft)(R:fM A 5 t){r:fT}(m:Good (fx r++[n])):
  ik 70 #[ie B.bt,fD<|jn (fx r++[n])] w λaT H=>aT=fF (fY (jE A t g.fs (n::r)).2.1)/\Left s i p B A N w H g (jE A t g.fs (n::r)).1 (jE A t g.fs (n::r)).2.2 (I+300):=by
 have S:=h.st.sound;have U:=h.two;have aU:Good (fx r):=by have:=m.dropLast;rwa [wo]at this
 have aV:fN n=fm:=m.val n (by simp);have bm:fv r<=4:=by have:=m.len;simp at this;omega
 have y:=λW(z:ju w W)=>uJ (s:=s) (i:=i) (p:=p) (B:=B) (A:=A) r N W g I (h.below z) (by omega) aU;simp only[nI S hF R g.fs r]at y;have f:jE A t g.fs (n::r)=if(pw A t g.fs r).2.1≠0 then((pw A t g.fs r).1,(pw A t g.fs r).2.1,t)else if(jp (pw A t g.fs r).2.2 n).isSome then((pw A t g.fs r).1,6,t)else if 16<=(pw A t g.fs r).2.2.length then((pw A t g.fs r).1,11,t) else((pw A t g.fs r).1,0,vy A (λY=>zr Y n<|.own []) (fx r) t):=fX;have T:=qJ (A:=A) (t:=t) (fs:=g.fs) (r:=r);have V:oO A ((pw A t g.fs r).2.2.map lL):=by have:=h.gh g.fs r;rwa [nI S hF R g.fs r]at this
 generalize jE A t g.fs (n::r)=bn at f |-;generalize pw A t g.fs r=a at y T V f;have⟨bo,ay,Y⟩:=a;simp only at y T V f;have X:fe _:=f;have aa:∀W,(Op.equalIn 10000 147 (ln<|fx r++[n])<|ln []).run prog W=.ok fo W:=λW=>by
  have:=gX m Good.nil W
  rw[yv<|by simp]at this;exact this
 have ab:=λW=>QR W;have ac:=λW=>jr (fx r++[n]) m W;have C:=λW=>mO (fx r++[n]) m (by simp) W;rw[wo]at ac;simp only[KR]at C;have⟨bp,bq,br,bs,Z,D⟩:=sf<|fx r++[n];have⟨bt,bu,bv,bw,bx,az⟩:=sf<|fx r;unfold ln at ab aa ac C;simp only[D,az]at aa ac C y;rw[D];unfold jn at ab aa;simp only[tQ]at ab aa;have aA:fe _:=h;have E:fe _:=hF;have u:fe _:=R;have F:fe _:=S;have aB:fe _:=m;have aW:fe _:=V
 change fe _ at D y T
 clear h hF R S az m V f;go_enter func70,ntmps70;go_wp2
 go_region_with(go_at_call 75;refine(ab _).via λO ak=>?_;have⟨bz,bA⟩:=kw ak;have aC:=rY ak;have aX:=gS (il<|(mi w.heap.size w).alloc (lw _) _) ak)
 all_goals
  go_wp2_with(go_at_call 132;refine(ac _).via λaY al=>?_;have bB:=λo=>(kw al).1 w.heap.size o aC;have am:=np aC al.size;have aD:=gS aX al);apply (y aY aD).mono;rintro e ad ⟨v,rfl,aE,G,aF,an⟩;have bC:=Hc (b:=w.heap.size) U (G.mono λ_ h=>h.mine) am<|aA.o.st.fresh _ (lw _);have aG:=mr aD (G.mono λ_ h=>h.mine);have ae:w.heap.size<ad.heap.size:=np am G.size;have aZ:aE w.heap.size=(0,0):=(G.tags _ am).trans<|aA.st.fresh _ (lw _);have K:fe _:=aF;have af:fe _:=aG;have bb:fe (oT aE ad i v<|Y.map lL):=an;obtain⟨bD,bE,rfl⟩:=an.len;rw[oI];clear aF an G aG;by_cases ao:ay=0
  ·subst ao
   have⟨⟨d,ag,ah⟩,bc,ap⟩:=T fX;have aH:=iq F E u ag ah ap;have⟨aq,aI,bd⟩:=lO F (tA F _ u ag).2.1 ah;have ar:fO (Y.map lL):=by rw[ot];exact nH _ aq
   have au:fv (Y.map lL)<=16:=by rw[oI];exact aI
   have L:=rh aq n;have aJ:=jd Y n;have M:=λav(z:ju ad av)=>iG (bb.below z).1 n ar au;rw[oI]at M;have be:fe _:=aH;have j:fe _:=And.intro ag<|And.intro ah ap;have ai:fe _:=aJ;have bF:fe _:=And.intro ar au
   change fe _ at M L
   clear aH ag ah ap aJ ar au aq aI bd bc;cases q:kB Y n with
   |true=>
    go_wp2_with(first
     |(go_at_call 134;refine(C _).via λaK l=>?_)
     |(go_at_call 133;go_loud(refine(M _ l).via λaL Q=>?_;rw[ai.o,q];have k:=gS l Q)))
    go_ret;have f:=X.o;rw[km<|by simp,lv (by rw[L.o];exact q)]at f;subst f;exact⟨fX,iB (af.trans<|fI.fJ k) ((K.below k).mono<|by omega) E u⟩
   |false=>
    by_cases aM:fv Y<16
    ·have⟨J,aN⟩:=K.wp.qj
     have aw:=λav(z:ju ad av)=>LH (K.below z) (aN.moves (fI.fJ (P:=λ_=>False) z) λx=>x) (by omega) aB be (by rw[lN j.o.1 j.o.2.1];exact aW) (by rw[lN j.o.1 j.o.2.1,ai.o];exact q) (by rw[lN j.o.1 j.o.2.1,oI];exact aM) kq 2 0 ⟨.inr fX,λh=>absurd fX h⟩;rw[D.o]at aw
     change fe _ at aw
     clear aN;have bG:¬((16:Int)<=(fv Y:Int)):=by omega
     go_wp2_with(first
      |(go_at_call 134;refine(C _).via λaK l=>?_;have bH:=λo=>(kw l).1 w.heap.size o ae)
      |(go_at_call 133;go_loud(refine(M _ l).via λaL Q=>?_;rw[ai.o,q];have k:=gS l Q;have bI:=λo=>(kw k).1 w.heap.size o ae))
      |(go_at_call 135;go_loud(refine(aw _ k).via λw6⟨bJ,bK,aj,ax,aO⟩=>?_;have bL:=Hc (b:=w.heap.size) U aj (np ae k.size) aZ;have bM:=np (np ae k.size) aj.size;have bf:fe _:=aj;have bg:fe _:=ax;have bh:fe _:=aO;have⟨bN,bO,_,_,_⟩:=ax.wp.tree.cells;clear aj ax aO)))
     have⟨bQ,bi,bj,bR,bS,bT,aP,aQ,bk,_⟩:=LF bg bh (by unfold maxLen;omega) aB (il<|mi _ w6) (VB _) (λbU h=>by simp[Value.ownBlock]at h) ⟨by simp[fO],by simp,by simp⟩;rw[D.o]at bj;have aR:=RZ F E u j.1 j.2.1 j.2.2 (n:=n) (by have:=L.o;rw[q]at this;simpa using this);have aS:=LI F u j.1 j.2.1 aV (by rw[Hv];omega) (c:=.own []) (zJ (by simp[fO]) (by simp)<|by simp)<|.inr aM
     change fe _ at aP aQ aR aS
     clear bk
     go_region
     all_goals
      go_wp2;go_ret;have f:=X.o;rw[km<|by simp,km (by rw[L.o,q];decide),km<|by omega]at f;subst f;exact⟨fX,bi,_,(af.trans<|(fI.fJ k).trans (bf.trans aP)),aQ.mono<|by omega,aR,aS⟩
    go_wp2_with(first
     |(go_at_call 134;refine(C _).via λaK l=>?_)
     |(go_at_call 133;go_loud(refine(M _ l).via λaL Q=>?_;rw[ai.o,q];have k:=gS l Q)))
    go_ret;have f:=X.o;rw[km<|by simp,km (by rw[L.o,q];decide),lv<|by omega]at f;subst f;exact⟨fX,iB (af.trans<|fI.fJ k) ((K.below k).mono<|by omega) E u⟩
  have bV:(ay==0)=fo:=by simpa using ao
  go_wp2;go_ret;have f:=X.o;rw[lv ao]at f;subst f;exact⟨fX,iB af (K.mono<|by omega) E u⟩
