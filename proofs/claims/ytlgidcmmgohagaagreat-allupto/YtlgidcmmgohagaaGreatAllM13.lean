/- A part of the proof. -/
import Derived.Test.YtlgidcmmgohagaaGreatAllM12
set_option linter.all false
namespace Go.Proofs.YtlgidcmmgohagaaGreat
open Go.RowKit Go.Sort Go.Shelf Go.Proofs.Tryz
open Go.Value renaming slice->fy,string->fA,pointer->fB,tuple->fC,agg->fD,bool->fE
open Go.Ending renaming returned->fF
open Option renaming some->fh,none->fj
open Bool renaming true->fm,false->fo
open Go renaming World->fq,Value->fu
open List renaming length->fv,reverse->fx
open Go.RowKit renaming Hid->fe
set_option maxRecDepth 100000
set_option maxHeartbeats 0
variable {n nm:fO}{a b c gb i ix k I N m o:Nat}{W w J w1 w6:fq}{T M:gC}{O h:fQ->fu}{o1:Obj}{es es':List fV}{t t':Nat×Nat}{K:fQ->List fV}{fs:b6}{ft:FT}{v:fu}{q:fQ}{A:List Ob}{g:WG}
variable {s i p:Nat}{B:WB}{A:List Ob}
theorem JN.cells{c b:Int}(a:JN T w i p B c b):B.bt<w.heap.size/\w.c B.bt 8=fh (.map<|fh B.oD)/\w.c B.bt 7=fh (.map<|fh B.oF)/\w.c B.bt 6=fh (fY b)/\(∀o,w.frozen? (ie B.bt o)=fo):=
 ⟨(lH.1 a.ht).1,by simp[World.cell?,a.ht],by simp[World.cell?,a.ht],by simp[World.cell?,a.ht],λo=>by simp[World.frozen?,a.ht]⟩
theorem fZ.aaq(a:fZ T w s i p B A g I):fZ T (w.setCell (ie B.bt 6)<|fY 0) s i p B A { g with ft:={ g.ft with root:=0 } } I/\fI (λt=>t=(i,1)) T T w (w.setCell (ie B.bt 6)<|fY 0):=by
 have U:=a.two;have b:=a.wp.tree;have m:fI (λt=>t=(i,1)) T T w (w.setCell (ie B.bt 6)<|fY 0):=⟨fX,fX,fX,by simp,λ_ _=>rfl,λk c d=>sI _ _ _ _ λe=>d (by rw[e];exact b.tt),λf k c=>f k (by simp_all)⟩;refine⟨⟨U,a.st.moves m (λe=>by cases e) (λe=>by cases e;omega),⟨⟨b.tt,b.tF,b.tD,?_,?_,?_⟩,a.wp.nP.moves m (λe=>by cases e),a.wp.nQ.moves m (λe=>by cases e),a.wp.uf.moves m (λe=>by cases e),?_,a.wp.files.moves m (λe=>by cases e),a.wp.held,a.wp.opens.moves m (λe=>by cases e) (λe=>by cases e),⟨λh=>absurd rfl h,a.wp.ok.od⟩⟩⟩,m⟩;simp[World.setCell,ED,b.ht];rw[sI _ _ _ _<|oq b.hF b.ht (by decide)];exact b.hF;rw[sI _ _ _ _<|oq b.hD b.ht (by decide)];exact b.hD;have⟨O,j⟩:=a.wp.qo;exact⟨O,j.moves m λe=>by cases e⟩
theorem ko(d:w.grownBy J (fh b))(f:c<w.heap.size)(g:c≠b)(o):J.cell? (ie c o)=w.cell? (ie c o):=wJ (a:=(ie c o)) (d.block c f λe=>g (by injection e))
theorem Yf(a:fZ T w s i p B A g I)(d:gD T w i B g.ft.od I h)(ax:I+20<1099511627776)(H:g.ft.od []=fj)(m:gu A g.ft g.fs []=(g.fs,0,es)):
  ik 192 #[ii B.bt,fD<|ml kq kq kq kq kq] w λae J=>∃v,ae=fF v/\∃M O,fI (Mine i) T M w J/\
   fZ M J s i p B A { g with ft:={ g.ft with od:=upd g.ft.od []<|fh es,root:=0 } } (I+10)/\gD M J i B (upd g.ft.od []<|fh es) (I+10) O/\O []=v/\∀q,q≠[]->O q=h q:=by
 have b:=a.gh g.fs [];rw[m]at b;have b:oU A es:=b;have⟨K,ay,_,_,_⟩:=a.wp.tree.cells;have f:=io<|(mi w.heap.size w).alloc (lw _) (.cells (ml kq kq kq kq kq) 147);have n:=Ey d Good.nil f;rw[H]at n;have n:(Instr.lookup 162 (.map<|fh B.oD) (fD<|ml kq kq kq kq kq) fm).run prog ((w.k (ml kq kq kq kq kq) 147).drew)=.ok (fC #[fy fj 0 0,fE fo]) ((w.k (ml kq kq kq kq kq) 147).drew):=n;have j:=uO (s:=s) (i:=i) (p:=p) (B:=B) (A:=A) [] T _ g I (a.below f) (by omega) Good.nil;rw[m]at j;have j:ik 131 #[ii B.bt,fD<|ml kq kq kq kq kq] _ _:=j;have r:=λW=>gW W;have L:∀W,(Op.equalIn 10000 147 (ln [])<|ln []).run prog W=.ok fm W:=λW=>by
  have:=ir Good.nil Good.nil W
  rw[iE fX]at this;exact this
 unfold ln jn at r L;simp only[tW]at r L;have⟨az,_,N⟩:=d.map;have af:w.heap.size≠B.oD:=by have:=N.lt;omega
 have ag:I+fv ([]:fQ)+1<maxLen:=by show I+0+1<maxLen;unfold maxLen;omega
 have u:fe _:=a;have ah:fe _:=d;have Q:fe _:=f;have R:fe _:=b;clear a d f b m H N;go_enter func192,ntmps192;go_wp2
 go_region
 all_goals
  go_wp2_with(first
   |(go_at_call 131;apply j.mono;rintro e ai ⟨v,rfl,aA,y,z,S⟩;have C:=Bw u.o.two u.o.st.fresh y;have aB:=C.cell (lw _) (by simp[World.drew]);have U:w.heap.size<ai.heap.size:=nz (by simp[World.drew]) C.1;have⟨aC,aD,_,_,_⟩:=z.wp.tree.cells;have aj:fe _:=z;have V:fe _:=y;have ak:fe _:=S;clear z y S C)
   |(go_at_call 170;go_loud(apply (vR ak.o.1 R.o.len).mono;rintro e al ⟨D,rfl,X,Y,k⟩;have⟨aE,aF⟩:=kw k;have⟨E,am,Z,aa,an,aG,ab,F,ac,aH⟩:=LJ (q:=[]) aj.o (((ah.o.moves (fI.fK (P:=λ_=>False) Q.o) λx=>x).moves V.o (by rintro(a|a|a)<;>cases a;exact absurd u.o.two<|by decide)).mono<|by omega) ag Good.nil (io k) X Y R.o;have aI:=ko (c:=w.heap.size) aa (nz U k.size) af;have⟨aJ,_,_,aK,f5⟩:=F.wp.tree.cells;have Z:(Instr.mapUpdate 162 (.map<|fh B.oD) (fD<|ml kq kq kq kq kq) D).run prog al.drew=.ok () E:=Z;have ao:w.heap.size<E.heap.size:=nz (nz U k.size)<|EL an.symm;have ap:fe _:=F;have aq:fe _:=ab;have ar:fe _:=ac;clear F ab ac X Y aa)))
  go_region
  all_goals
   go_wp2
   go_region_with(go_at_call 75;refine(r _).via λw6 l=>?_;have aL:∀o,w6.c w.heap.size o=E.c w.heap.size o:=λo=>(kw l).1 _ _ ao;have G:=ap.o.below<|gS (io<|mi _ _) l;have⟨aM,_,_,aN,f66⟩:=G.wp.tree.cells;have au:fe _:=G;clear G)
   all_goals
    go_wp2;go_ret;have⟨av,ad⟩:=au.o.aaq;refine⟨D,fX,am,upd h [] D,?_,av.mono (by simp only[zw];omega),?_,upd_same _ _ _,λq aw=>kh aw _⟩;exact((mr Q.o V.o).mono λ_ a=>a.mine).trans<|aq.o.trans ((fI.fK<|gS (io<|mi _ _) l).trans (ad.mono λt K=>.inr (by rw[K])));exact(((ar.o.moves (fI.fK (P:=λ_=>False)<|gS (io<|mi _ _) l) λx=>x).moves ad λe=>by cases e).mono (by simp only[zw];omega))
theorem Yg(U:2<=i)(b:k≠2)(c:k≠3):¬gA i (i,k):=by
 rintro(a|a|a)
 all_goals grind
theorem qp(a:kA es n=fm):∃b:ui es n<fv es,(es[ui es n]).1=n:=by
 grind [uw,kA,jG]
theorem FU(a:kA es n=fm)(v:Int×Int):zr es n v=es.set (ui es n) (n,v):=by
 grind [zr]
theorem OP(a:fP es)(b:kA es n=fm)(c:ui es n<fv es):es.set (ui es n) (n,(es[ui es n]).2.1,0)=mI es n:=by
 apply cos
 all_goals grind [mI,Int,qp,ui,Nat.lt_or_gt_of_ne,CD,jb]
theorem JP(f:k<fv es)(e:fV):(((flat es).set (k*3)<|hZ e.1).set (k*3+1)<|fY e.2.1).set (k*3+2) (fY e.2.2)=flat (es.set k e):=by
 apply KT;intro a;have b:=ly es;by_cases g:a<fv es*3;obtain⟨q,t,c,rfl⟩:∃q t,t<3/\a=q*3+t:=⟨a / 3,a % 3,Nat.mod_lt _<|by decide,by omega⟩;rw[iO (es.set k e) q t (by grind) c,Wz];by_cases d:k=q;subst d;rw[lv fX];simp only[List.getElem?_set,List.length_set,b];rcases(show t=0\/t=1\/t=2 by omega)with rfl|rfl|rfl
 rw[km<|by omega,km<|by omega,lv<|by omega,lv<|by omega];rfl;rw[km<|by omega,lv<|by omega,lv<|by omega];rfl;rw[lv<|by omega,lv<|by omega];rfl
 grind [EG,iO]
 grind [wA,List.length_set,ly]
theorem JQ(a:k<fv es)(id:Int):(flat es).set (k*3+2) (fY id)=flat (es.set k ((es[k]).1,(es[k]).2.1,id)):=by
 rw[<-JP a];have b:(flat es).set (k*3) (hZ (es[k]).1)=flat es:=by
  have:=iO es k 0 a<|by decide
  apply KT
  grind [ly,pB]
 have c:(flat es).set (k*3+1) (fY (es[k]).2.1)=flat es:=by
  have:=iO es k 1 a<|by decide
  apply KT
  grind [ly,pB]
 rw[b,c]
theorem gD.rewrite{od:fQ->Option (List fV)}(b:gD T w i B od I O)(c:od q=fh es)(j:(O q).ownBlock=fh gb)(k:w.grownBy J (fh gb))
  (s:J.ownsRow 0 96 3 (O q) (fv es') (flat es'))(d:oU A es'):gD T J i B (upd od q<|fh es') I O:=by
 obtain⟨n,t,f⟩:=b.map;have⟨F,G,u⟩:=f.isMap;have v:B.oD≠gb:=λe=>rv (b.row q es c).1 (e▸u) j.symm;refine⟨b.tag,⟨n,t,(f.keep (k.block _ f.lt λe=>v (by injection e))).congr λp a=>?_⟩,λp fs a=>?_,λp fs a=>?_,λp l fs H x a K y z=>?_⟩
 ·by_cases e:p=q
  all_goals grind [upd_same,kh]
 by_cases e:p=q;subst e;rw[upd_same]at a;cases a;exact⟨(b.good p es c).1,d.rising,d.len,λe m=>⟨(d.ok e m).1,(d.ok e m).2.1⟩⟩;rw[kh e]at a;exact b.good p fs a;by_cases e:p=q;subst e;rw[upd_same]at a;cases a;exact⟨s,(b.row p es c).2⟩;rw[kh e]at a;exact(b.row p fs a).keep (λo r C=>⟨k.block o C (λD=>by
  have E:o=gb:=by injection D
  rw[E]at r;exact e<|b.inj p q fs es gb a c r j),fX⟩)
 have g:∃f1,od p=fh f1:=by
  grind [kh]
 have h:∃f2,od l=fh f2:=by
  grind [kh]
 have⟨f1,g⟩:=g;obtain⟨f2,h⟩:=h;exact b.inj p l f1 f2 x g h y z
theorem Yh(c:oU A es)(n):oU A (mI es n):=by
 refine⟨?_,by unfold mI;rw[oL];exact c.len,λe d=>?_⟩;unfold fP mI;rw[wK];refine c.rising.imp λ{a b}j=>?_
 grind
 obtain⟨x,f,rfl⟩:=jC.1 d;have⟨g,h⟩:=c.ok x f;by_cases e:x.1=n;rw[lv e];exact⟨g,h.1,λi=>absurd fX i⟩
 all_goals grind
theorem fZ.fT(a:fZ T w s i p B A g I)(b:g.ft.od q=fh es):oU A es:=by
 have⟨O,d⟩:=a.wp.qo;have⟨_,f,h,j⟩:=d.good q es b;exact⟨f,h,λe c=>⟨(j e c).1,a.wp.ok.od q es b e c⟩⟩
theorem JR(d:fZ T w s i p B A g I)(j:gD T w i B g.ft.od I O)(f:g.ft.od q=fh es)(k:O q=my gb 0 N c)(l:kA es n=fm):
  fZ T (w.setCell (ie gb<|ui es n*3+2)<|fY 0) s i p B A { g with ft:={ g.ft with od:=upd g.ft.od q (fh<|mI es n) } } I/\gD T (w.setCell (ie gb<|ui es n*3+2)<|fY 0) i B (upd g.ft.od q<|fh (mI es n)) I O/\fI (λt=>t=(i,5)) T T w (w.setCell (ie gb<|ui es n*3+2)<|fY 0):=by
 have o:=d.fT f;have⟨r,D⟩:=qp l;have u:=j.row q es f;have v:(O q).ownBlock=fh gb:=by rw[k];rfl
 have x:w.grownBy (w.setCell (ie gb<|ui es n*3+2)<|fY 0) (fh gb):=sq<|Hd _ _;have y:=Yh o n;have h:=u.1;rw[k]at h;have E:N=fv es:=by
  rcases h.2 with⟨e,_⟩|⟨J,K,_,e,_⟩
  all_goals grind
 subst E;have F:=(h.stored (ui es n*3+2)<|fY 0).1;have G:(flat es).set (ui es n*3+2) (fY 0)=flat (mI es n):=by
  rw[JQ r,D,OP o.rising l r]
 rw[G]at F;have z:=j.rewrite (A:=A) f v x (by grind [mI,oL]) y;have m:fI (λt=>t=(i,5)) T T w (w.setCell (ie gb<|ui es n*3+2)<|fY 0):=WP x (by simp)<|u.2 gb v;refine⟨d.od m (lw _) z λa es' C=>?_,z,m⟩;by_cases e:a=q
 ·subst e
  have b:upd g.ft.od a (fh<|mI es n) a=fh es':=C;rw[upd_same]at b;cases b;exact λe H=>(y.ok e H).2
 ·have b:upd g.ft.od q (fh<|mI es n) a=fh es':=C
  rw[kh e]at b;exact d.wp.ok.od a es' b
def hfe (s i p:Nat)(B:WB)(A:List Ob)(a:fQ):Prop:=∀(T:gC)(w:fq)(g:WG)(I:Nat)(K:fQ->List fV)(O:fQ->fu),fZ T w s i p B A g I->gD T w i B g.ft.od I O->I+20*(fv a+2)<1099511627776->Good (fx a)->jk A g.fs g.ft K (fx a)->
 Calls prog 192 #[fB<|fh ⟨B.bt,0,fj⟩,fD<|jn (fx a)] w λc J=>∃v,c=fF v/\∃M b,fI (Mine i) T M w J/\
  fZ M J s i p B A { g with ft:=rp A g.fs g.ft a } (I+20*(fv a+1))/\gD M J i B (rp A g.fs g.ft a).od (I+20*(fv a+1)) b/\b (fx a)=v/\∀q,¬q <+: fx a->b q=O q
theorem OQ(b:jk A fs ft K (q++[n])):jk A fs { ft with od:=upd ft.od (q++[n]) (fh<|K (q++[n])) } K q:=by
 have uy:∀x,x <+: q->x <+: q++[n]:=λx a=>a.trans<|qD _ _;have c:∀x,x <+: q->x≠q++[n]:=λx a e=>by
  have:=a.length_le
  rw[e]at this;simp at this;omega
 have d:jk A fs ft K q:=⟨λx a=>b.look x<|uy x a,λx a=>b.own x<|uy x a,λx m a=>b.up x m<|uy _ a,b.root⟩;exact d.congr fX λx a=>kh (c x a) _
theorem Yi(a:jk A fs ft K (q++[n]))(b:fP (K q)):kA (K q) n=fm:=by
 have c:=a.look (q++[n])<|sQ _;have d:=a.look q<|qD _ _
 grind [sup,gu,findF,absurd,pH,decide,qL,nj,kA]
theorem hfr(U:2<=i):¬Mine i (0,0):=by
 rintro(a|a)
 all_goals omega
theorem zW{gb n c m}{a}(b:w.ownsRow 0 96 3 (my gb 0 n c) m a)(o):w.frozen? (ie gb o)=fo:=by
 rcases b.2 with⟨e,_⟩|⟨d,f,g,e,_,h,_⟩
 all_goals grind [World.frozen?]
theorem JS{gb n c}(a:w.ownsRow 0 96 3 (my gb 0 n c) n (flat es))(d:ix<fv es):w.c gb (ix*3+2)=fh (fY (es[ix]).2.2):=
 (zS (b:=gb) (λe f g=>by have:=ks a e f g;rwa [iR]at this) d).2.2
theorem Hn(U:2<=i)(m:fI (Mine i) T M w J)(c:b<w.heap.size)(d:T b=(0,0))(o):J.cell? (ie b o)=w.cell? (ie b o):=
 wJ (a:=(ie b o)) (m.block _ c (by rw[d];exact hfr U))
theorem hft(n:fO)(r)(aF:hfe s i p B A r)(f:fZ T w s i p B A g I)(Q:gD T w i B g.ft.od I h)(cc:I+20*(fv r+3)<1099511627776)
  (j:Good (fx r++[n]))(z:jk A g.fs g.ft K (fx r++[n]))(af:g.ft.od (fx r++[n])=fj):
  ik 192 #[ii B.bt,fD<|jn (fx r++[n])] w λag J=>∃v,ag=fF v/\∃M l,fI (Mine i) T M w J/\
   fZ M J s i p B A { g with ft:=rp A g.fs g.ft (n::r) } (I+20*(fv (n::r)+1))/\gD M J i B (rp A g.fs g.ft (n::r)).od (I+20*(fv (n::r)+1)) l/\l (fx r++[n])=v/\∀q,¬q <+: (fx r++[n])->l q=h q:=by
 have ah:=z.look _<|sQ _;rw[sup,uo]at ah;have R:gu A g.ft g.fs (n::r)=(g.fs,0,K<|fx r++[n]):=ah;have cd:fv r<=4:=by have:=j.len;simp at this;omega
 have bt:Good (fx r):=by have:=j.dropLast;rwa [wB]at this
 have C:=f.gh g.fs (n::r);rw[R]at C;have C:oU A (K<|fx r++[n]):=C;have aG:=z.look (fx r)<|qD _ _;have m:=f.gh g.fs<|fx (fx r);rw[aG]at m;have m:oU A (K<|fx r):=m;have ai:=Yi z m.rising;have aj:=OQ z;have⟨bu,bv,k⟩:=zF (r:=r) aj;have aH:rp A g.fs g.ft (n::r)={ rp A g.fs { g.ft with od:=upd g.ft.od (fx r++[n]) (fh<|K (fx r++[n])) } r with od:=upd (rp A g.fs { g.ft with od:=upd g.ft.od (fx r++[n]) (fh<|K (fx r++[n])) } r).od (fx r) (fh<|mI (K<|fx r) n) }:=by
  rw[rp];have bw:fx (n::r)=fx r++[n]:=kL;rw[bw,af,km<|by decide,R];have u:=k<|fx r;rw[lv<|sQ _]at u;have ak:zK K (fx r) (fx r)=K (fx r):=by unfold zK;rw[wA<|lw _]
  rw[ak]at u;show(FT.mk _ (upd _ _<|fh (mI (((rp A g.fs { g.ft with od:=upd g.ft.od (fx r++[n]) (fh<|K (fx r++[n])) } r).od<|fx r).getD []) n)) _)=_;rw[u];rfl
 have aI:(rp A g.fs { g.ft with od:=upd g.ft.od (fx r++[n]) (fh<|K (fx r++[n])) } r).od (fx r)=fh (K<|fx r):=by
  have u:=k<|fx r;rw[lv<|sQ _]at u;have ak:zK K (fx r) (fx r)=K (fx r):=by unfold zK;rw[wA<|lw _]
  rw[ak]at u;exact u
 have aJ:¬(fx r++[n]) <+: fx r:=λbx=>by have:=bx.length_le;simp at this;omega
 have⟨aK,ce,_,_,_⟩:=f.wp.tree.cells;have D:=io<|(mi w.heap.size w).alloc (lw _) (.cells (jn<|fx r++[n]) 147);have S:=Ey Q j D;rw[af]at S;have al:=uO (s:=s) (i:=i) (p:=p) (B:=B) (A:=A) (n::r) T _ g I (f.below D) (by omega) (by rw[kL];exact j);rw[R,kL]at al;have U:=λW=>gW W;have V:∀W,(Op.equalIn 10000 147 (ln<|fx r++[n])<|ln []).run prog W=.ok fo W:=λW=>by
  have:=ir j Good.nil W
  rw[yv<|by simp]at this;exact this
 have X:=λW=>jo (fx r++[n]) j W;have Y:=λW=>mO (fx r++[n]) j (by simp) W;rw[wB]at X;simp only[KV]at Y;have am:∀(T:gC)(w:fq)(g:WG)(I:Nat)(K:fQ->List fV)(O:fQ->fu),fZ T w s i p B A g I->gD T w i B g.ft.od I O->I+20*(fv r+2)<1099511627776->jk A g.fs g.ft K (fx r)->ik 192 #[ii B.bt,fD<|jn (fx r)] w λag J=>∃v,ag=fF v/\∃M l,fI (Mine i) T M w J/\
  fZ M J s i p B A { g with ft:=rp A g.fs g.ft r } (I+20*(fv r+1))/\gD M J i B (rp A g.fs g.ft r).od (I+20*(fv r+1)) l/\l (fx r)=v/\∀q,¬q <+: fx r->l q=O q:=λT w g I K O a b c d=>aF T w g I K O a b c bt d
 have⟨H,an,ao,ap,Z,E⟩:=sk<|fx r++[n];have⟨cf,cg,ch,ci,cj,aL⟩:=sk<|fx r;unfold ln at U V X Y;rw[E]at S al D;simp only[E,aL]at V X Y am;rw[E];unfold jn at U V;simp only[tW]at U V;have ck:(Instr.lookup 162 (.map<|fh B.oD) (fD<|ml H an ao ap Z) fm).run prog ((w.k (ml H an ao ap Z) 147).drew)=.ok (fC #[fy fj 0 0,fE fo]) ((w.k (ml H an ao ap Z) 147).drew):=S;have⟨cl,_,aM⟩:=Q.map;have bz:w.heap.size≠B.oD:=by have:=aM.lt;omega
 have bA:I+fv (n::r)+1<maxLen:=by rw[lg];unfold maxLen;omega
 have bB:I+fv (n::r)+1+1+20*(fv r+2)<1099511627776:=by rw[lg];omega
 have⟨aN,aO⟩:=qp ai;have cm:=m.len;have bC:fe _:=E;have F:fe _:=f;have bD:fe _:=Q;have aP:fe _:=D;have aQ:fe _:=C;have aR:fe _:=m;have bE:fe _:=am;have bF:fe _:=aj;have aS:fe _:=aH;have aq:fe _:=aI;have aT:fe _:=ai;have cn:fe _:=aO;have bG:fe _:=aJ;clear f Q D C R ah af aM S E aL m am z aj bu bv k aH aI ai aO aJ aG aF;generalize aU:ui (K<|fx r) n=ix at aN;have aV:fe (ui (K<|fx r) n=ix):=aU;clear aU;go_enter func192,ntmps192;go_wp2
 go_region
 all_goals
  go_wp2_with(first
   |(go_at_call 131;apply al.mono;rintro e bH ⟨v,rfl,bI,k,ar,aW⟩;have au:=Bw F.o.two F.o.st.fresh k;have cp:=au.cell (lw _) (by simp[World.drew]);have av:w.heap.size<bH.heap.size:=nz (by simp[World.drew]) au.1;have bJ:bI w.heap.size=(0,0):=(k.tags _ (by simp[World.drew])).trans<|F.o.st.fresh _ (lw _);have⟨cq,cr,_,_,_⟩:=ar.wp.tree.cells;have bK:fe _:=ar;have aX:fe _:=k;have bL:fe _:=aW;clear ar k aW au)
   |(go_at_call 170;go_loud(apply (vR bL.o.1 aQ.o.len).mono;rintro e ct ⟨bM,rfl,aY,aZ,aa⟩;have⟨cu,cv⟩:=kw aa;have⟨ab,bb,bN,bc,bO,cw,aw,ax,bd,cx⟩:=LJ (q:=fx r++[n]) bK.o (((bD.o.moves (fI.fK (P:=λ_=>False) aP.o) λx=>x).moves aX.o<|Yg F.o.two (by decide) (by decide)).mono<|by omega) bA j (io aa) aY aZ aQ.o;have cy:=ko (c:=w.heap.size) bc (nz av aa.size) bz;have⟨cz,_,_,cA,f5⟩:=ax.wp.tree.cells;rw[bC.o]at bN;have be:w.heap.size<ab.heap.size:=nz (nz av aa.size)<|EL bO.symm;have bQ:bb w.heap.size=(0,0):=(aw.tags _ av).trans bJ;have bR:fe _:=ax;have bS:fe _:=aw;have bT:fe _:=bd;clear ax aw bd aY aZ bc)))
  go_region
  all_goals
   go_wp2
   go_region_with(go_at_call 75;refine(U _).via λw6 ay=>?_;have cC:∀o,w6.c w.heap.size o=ab.c w.heap.size o:=λo=>(kw ay).1 _ _ be;have bf:w.heap.size<w6.heap.size:=nz be ay.size;have az:=gS (io<|mi ab.heap.size ab) ay)
   all_goals
    go_wp2_with(first
     |(go_at_call 132;refine(X _).via λaA G=>?_;have cD:∀o,aA.c w.heap.size o=w6.c w.heap.size o:=λo=>(kw G).1 _ _ bf;have bg:w.heap.size<aA.heap.size:=nz bf G.size)
     |(go_at_call 192;go_loud(refine(bE.o bb aA _ _ K _ (bR.o.below<|gS az G) (bT.o.moves (fI.fK (P:=λ_=>False)<|gS az G) λx=>x) bB bF.o).mono ?_;rintro e ac ⟨cE,rfl,bU,bV,ad,bh,ae,bi,bj⟩;have⟨gb,cF,aB⟩:=hh (ae.row _ _ aq.o).1 (by omega);have y:=ae.row _ _ aq.o;rw[aB]at bi y;subst bi;have cG:=Hn F.o.two ad bg bQ;have cH:w.heap.size<ac.heap.size:=nz bg ad.size;have aC:gb<ac.heap.size:=gc y.1 fX;have cI:=JS y.1 aN;have cJ:=zW y.1<|ix*3+2;have bW:fe _:=bh;have bX:fe _:=ad;have bY:fe _:=ae;have bk:fe _:=y;have bZ:fe _:=aB;have bl:fe _:=bj;clear bh ad ae y aB bj))
     |(go_at_call 134;refine(Y _).via λL N=>?_;have cK:L.c gb (ix*3+2)=ac.c gb (ix*3+2):=(kw N).1 _ _ aC;have f9:L.frozen? (ie gb<|ix*3+2)=ac.frozen? (ie gb<|ix*3+2):=(kw N).2 _ _ aC;have bm:gb<L.heap.size:=nz aC N.size)
     |(go_at_call 133;go_loud(refine(iL (gg bk.o.1 λca cb=>N.block ca<|gc bk.o.1 cb) n aR.o.rising aR.o.len).via λbn aD=>?_;rw[aV.o,aT.o];have cL:bn.c gb (ix*3+2)=L.c gb (ix*3+2):=(kw aD).1 _ _ bm;have f10:bn.frozen? (ie gb<|ix*3+2)=L.frozen? (ie gb<|ix*3+2):=(kw aD).2 _ _ bm)))
    go_ret;have aE:=gS N aD;have⟨bo,bp,bq⟩:=JR (bW.o.below aE) (bY.o.moves (fI.fK (P:=λ_=>False) aE) λx=>x) aq.o bZ.o aT.o;rw[aV.o]at bo bp bq;have br:I+fv (n::r)+1+1+20*(fv r+1)<=I+20*(fv (n::r)+1):=by rw[lg];omega
    refine⟨bM,fX,bU,bV,?_,?_,?_,?_,λq bs=>?_⟩;exact((mr aP.o aX.o).mono λ_ f=>f.mine).trans<|bS.o.trans ((fI.fK<|gS az G).trans<|bX.o.trans ((fI.fK aE).trans (bq.mono λt aK=>.inr (by rw[aK]))));rw[aS.o];exact bo.mono br;rw[aS.o];exact bp.mono br;rw[bl.o _ bG.o,upd_same];rw[bl.o q λf=>bs<|f.trans (qD _ _),kh (λe:q=fx r++[n]=>bs (by rw[e];exact sQ _))]
theorem uP:∀b:fQ,hfe s i p B A b
 |[]=>by
  intro T w g I K O d f y j k
  by_cases c:(g.ft.od []).isSome=fm
  have⟨es,l⟩:=hBg.1 c
  have h:rp A g.fs g.ft []=g.ft:=by rw[rp,lv c]
  rw[h]
  have⟨o,r,_⟩:=d.wp.tree.cells
  refine(JO B.bt B.oD _ _ _ _ _ (O []) w o r λW a=>?_).mono ?_
  have:=Ey f Good.nil a
  rw[l]at this
  exact this
  rintro u J ⟨rfl,a⟩
  exact⟨_,fX,T,O,fI.fK a,(d.below a).mono<|by omega,(f.moves (fI.fK (P:=λ_=>False) a) λx=>x).mono<|by omega,fX,λ_ _=>rfl⟩
  have t:g.ft.od []=fj:=by simpa using c
  have z:=k.look []<|sQ _
  have h:rp A g.fs g.ft []={ g.ft with od:=upd g.ft.od []<|fh (K []),root:=0 }:=by
   grind [rp,gu]
  rw[h];apply (Yf d f (by omega) t z).mono;rintro u J ⟨v,rfl,M,C,m,D,E,F,G⟩;exact⟨v,fX,M,C,m,D.mono<|by omega,E.mono<|by omega,F,λq H=>G q λe=>H (by grind)⟩
 |n::b=>by
  intro T w g I K O d f y j k;by_cases c:(g.ft.od<|fx (n::b)).isSome=fm;have⟨es,l⟩:=hBg.1 c;have h:rp A g.fs g.ft (n::b)=g.ft:=by rw[rp,lv c]
  rw[h];have⟨o,r,_⟩:=d.wp.tree.cells;refine(JO B.bt B.oD _ _ _ _ _ (O<|fx (n::b)) w o r λW a=>?_).mono ?_
  have:=Ey f j a
  rw[l]at this;exact this;rintro u J ⟨rfl,a⟩;exact⟨_,fX,T,O,fI.fK a,(d.below a).mono<|by omega,(f.moves (fI.fK (P:=λ_=>False) a) λx=>x).mono<|by omega,fX,λ_ _=>rfl⟩;have L:fx (n::b)=fx b++[n]:=kL;rw[L]at c j k |-;have t:g.ft.od (fx b++[n])=fj:=by simpa using c
  exact hft n b (uP b) d f (by omega) j k t
theorem SP(b:fZ T w s i p B A g I)(r:Good q)(f:ni):
  ∃J,(Builtin.delete_ #[161,147] f #[.map<|fh B.oF,fD<|jn q]).run prog w=.ok (fC #[]) J/\fI (λt=>t=(i,4)) T T w J/\w.grownBy J (fh B.oF)/\J.heap.size=w.heap.size/\B.oF<w.heap.size/\fZ T J s i p B A { g with ft:={ g.ft with of:=upd g.ft.of q fj } } I:=by
 have⟨h,⟨n,u,j⟩,C⟩:=b.wp.uf;have⟨J,v,y,k,l⟩:=j.drop r underlying161 f;have m:fI (λt=>t=(i,4)) T T w J:=WP k l h;have a:=b.wp;have⟨O,z⟩:=a.qo;refine⟨J,v,m,k,l,j.lt,b.two,b.st.moves m (λe=>by cases e) (λe=>by cases e),⟨a.tree.moves m (λe=>by cases e),a.nP.moves m (λe=>by cases e),a.nQ.moves m (λe=>by cases e),⟨h,⟨n,u,y.congr λx c=>?_⟩,λx d c=>?_⟩,⟨O,z.moves m λe=>by cases e⟩,a.files.moves m (λe=>by cases e),λx d c=>?_,a.opens.moves m (λe=>by cases e) (λe=>by cases e),⟨a.ok.root,a.ok.od⟩⟩⟩
 grind [upd,ptr,Option.map,upd_same,kh]
 grind [upd,upd_same,kh]
 by_cases e:x=q
 grind [upd,upd_same]
 have o:upd g.ft.of q fj x=fh d:=c;rw[kh e]at o;exact a.held x d o
theorem Yj(d:fZ T w s i p B A g I)(b:gD T w i B g.ft.od I O)(r:Good q)(f:ni):
  ∃J,(Builtin.delete_ #[162,147] f #[.map<|fh B.oD,fD<|jn q]).run prog w=.ok (fC #[]) J/\fI (λt=>t=(i,5)) T T w J/\fZ T J s i p B A { g with ft:={ g.ft with od:=upd g.ft.od q fj } } I/\gD T J i B (upd g.ft.od q fj) I O:=by
 have⟨n,u,h⟩:=b.map;have⟨J,v,z,j,C⟩:=h.drop r underlying162 f;obtain⟨H,K,D⟩:=h.isMap;have m:fI (λt=>t=(i,5)) T T w J:=WP j C b.tag;have c:∀x es,upd g.ft.od q fj x=fh es->g.ft.od x=fh es:=λx es a=>by
  by_cases e:x=q;subst e;rw[upd_same]at a;cases a;rwa [kh e]at a
 have k:gD T J i B (upd g.ft.od q fj) I O:=by
  refine⟨b.tag,⟨n,u,z.congr λx a=>?_⟩,λx es a=>b.good x es<|c x es a,λx es a=>(b.row x es (c x es a)).Bz D j,λx y l o gb a E F G=>b.inj x y l o gb (c x l a) (c y o E) F G⟩;by_cases e:x=q
  all_goals grind [upd_same,kh]
 exact⟨J,v,m,d.od m (lw _) k λx es a=>d.wp.ok.od x es<|c x es a,k⟩
theorem FV(b:fZ T w s i p B A g I)(k:gD T w i B g.ft.od I O)(l:Good q):
  ik 139 #[ii B.bt,fD<|jn q] w λE J=>E=qr #[]/\fI (Mine i) T T w J/\fZ T J s i p B A { g with ft:=AV g.ft q } I/\gD T J i B (upd g.ft.od q fj) I O:=by
 have a:=io<|(mi w.heap.size w).alloc (lw _) (.cells (jn q) 147);have m:=b.below a;have r:=k.moves (fI.fK (P:=λ_=>False) a) λx=>x;have⟨w1,F,f,u,R,S,h⟩:=SP m l 0;have y:=r.moves f (λe=>by cases e);have⟨j,G,z,C,D⟩:=Yj (h.below<|io (mi _ _)) (y.moves (fI.fK (P:=λ_=>False)<|io (mi _ _)) λx=>x) l 0;have⟨d,_⟩:=b.wp.tree.cells;have⟨U,_⟩:=h.wp.tree.cells;have K:w.heap.size≠B.oF:=by
  have⟨_,⟨n,_,L⟩,_⟩:=b.wp.uf
  have:=L.lt
  omega
 have M:∀o,w1.c w.heap.size o=((w.k (jn q) 147).drew).c w.heap.size o:=ko (c:=w.heap.size) u (by simp[World.drew]) K;have N:fe (fI (Mine i) T T w j/\fZ T j s i p B A { g with ft:=AV g.ft q } I/\gD T j i B (upd g.ft.od q fj) I O):=⟨(fI.fK a).trans ((f.mono λt d=>(Or.inr (by rw[d]):Mine i t)).trans ((fI.fK<|io (mi _ _)).trans (z.mono λt d=>(Or.inr (by rw[d]):Mine i t)))),C,D⟩;obtain⟨H,V,W,X,Z,Q⟩:=sk q;rw[Q]at F G M a |-;clear b k m r h y C D f z a u;go_enter func139,ntmps139;go_wp2
 go_region
 all_goals
  go_wp2
  go_region
  all_goals
   go_wp2;exact bodyPost_end (v:=fC #[]) (by simp[results,results139,go_sem]) fX ⟨fX,N⟩
theorem OS{w l W}(F:fZ T w s i p B A g I)(d:gD T w i B g.ft.od I O)(ae:I<maxLen)(G:g.ft.od q=fh es)(f:w.grownBy l (O q).ownBlock){v6}
  (L:l.ownsRow 0 96 3 v6 (fv es') (flat es'))(M:v6.ownBlock=(O q).ownBlock\/∀gb,v6.ownBlock=fh gb->w.heap.size<=gb)(v:oU A es')(b:ju l W):
  ∃h N,(Instr.mapUpdate 162 (.map<|fh B.oD) (fD<|jn q) v6).run prog W=.ok () h/\fI (Mine i) T N w h/\
   fZ N h s i p B A { g with ft:={ g.ft with od:=upd g.ft.od q (fh es') } } (I+1)/\gD N h i B (upd g.ft.od q<|fh es') (I+1) (upd O q v6):=by
 have V:=(d.good q es G).1;have hrq:=d.row q es G;have⟨n,H,C⟩:=d.map;have⟨aq,ar,X⟩:=C.isMap;have af:fh B.oD≠(O q).ownBlock:=rv hrq.1 X;have ag:l.heap[B.oD]?=w.heap[B.oD]?:=f.block _ C.lt af;have ah:W.heap[B.oD]?=w.heap[B.oD]?:=(b.block _<|nz C.lt f.size).trans ag;obtain⟨h,ai,aj,o,au⟩:=(C.keep ah).store V (hPQ H ae) underlying162 v6;have av:∀k,(T k).1≠0->pg T v6 (i,5) k=T k:=λk r=>by
  by_cases e:v6.ownBlock=fh k;rw[vS e];rcases M with c|c
  exact(hrq.2 k<|c▸e).symm;rw[F.st.fresh k<|c k e]at r;exact absurd fX r;exact nS e _
 have P:∀k,k<w.heap.size->pg T v6 (i,5) k=T k:=λk r=>by
  by_cases e:v6.ownBlock=fh k;rw[vS e];rcases M with c|c
  exact(hrq.2 k<|c▸e).symm
  have:=c k e
  omega;exact nS e _
 have ak:lD (pg T v6 (i,5)) h:=λk r=>by
  have al:l.heap.size<=k:=ww b.size (by omega);rw[nS (λe=>by have:=gc L e;omega)];exact F.st.fresh k<|ww f.size al
 have m:fI (λt=>t=(i,5)) T (pg T v6 (i,5)) w h:=by
  refine⟨o.os.trans<|b.os.trans f.os,o.tape.trans<|b.tape.trans f.tape,o.output.trans<|b.output.trans f.output,ww f.size<|ww b.size o.size,P,λk r H=>?_,λ_=>ak⟩;have D:k<l.heap.size:=nz r f.size;rw[o.block k (nz D b.size) λe=>H (by cases e;exact d.tag),b.block k D,f.block k r λe=>H<|hrq.2 k e.symm]
 have Y:gD (pg T v6 (i,5)) h i B (upd g.ft.od q<|fh es') (I+1) (upd O q v6):=by
  have aw:oT (pg T v6 (i,5)) h (i,5) v6 es':=by
   refine⟨gg L λj E=>?_,λgb am=>vS am _⟩;have Z:=gc L E;rw[o.block j (nz Z b.size) λe=>?_,b.block j Z]
   grind
  refine⟨(P _ C.lt).trans d.tag,⟨n+1,by omega,aj.congr λx a=>?_⟩,λx fs a=>?_,λx fs a=>?_,λx y fs an gb a Q c J=>?_⟩
  ·by_cases e:x=q
   all_goals grind [upd_same,kh]
  by_cases e:x=q;subst e;rw[upd_same]at a;cases a;exact⟨V,v.rising,v.len,λe K=>⟨(v.ok e K).1,(v.ok e K).2.1⟩⟩;rw[kh e]at a;exact d.good x fs a;by_cases e:x=q
  grind [upd_same]
  rw[kh e]at a |-;have aa:=d.row x fs a;refine aa.keep λj E R=>⟨?_,P j R⟩;have D:j<l.heap.size:=nz R f.size;rw[o.block j (nz D b.size) λS=>?_,b.block j D,f.block j R λS=>?_];exact e<|d.inj x q fs es j a G E S.symm;have u:j=B.oD:=by injection S
  rw[u]at E;exact rv aa.1 X E.symm;have apart:∀z fz,z≠q->g.ft.od z=fh fz->(O z).ownBlock=fh gb->v6.ownBlock=fh gb->False:=λz fz ao ab ac ad=>by
   rcases M with U|U
   exact ao<|d.inj z q fz es gb ab G ac (U▸ad);have ax:=gc (d.row z fz ab).1 ac
   have:=U gb ad
   omega
  by_cases e:x=q;by_cases u:y=q;rw[e,u];subst e;rw[upd_same]at c;rw[kh u]at Q J
  grind
  by_cases u:y=q
  ·subst u
   rw[upd_same]at J;rw[kh e]at a c
   all_goals grind
  rw[kh e]at a c;rw[kh u]at Q J;exact d.inj x y fs an gb a Q c J
 refine⟨h,pg T v6 (i,5),ai,m.mono λt ap=>(Or.inr (by rw[ap]):Mine i t),F.od m (Ha _) Y λx fs a=>?_,Y⟩;by_cases e:x=q;subst e;rw[upd_same]at a;cases a;exact λe K=>(v.ok e K).2;rw[kh e]at a;exact F.wp.ok.od x fs a
theorem lbx{gb n c k:Nat}(b:w.ownsRow 0 96 3 (my gb 0 n c) n (flat es))(d:fv es=n)(f:k<n):
  ik 194 #[my gb 0 n c,fY (k:Int),fY<|(k:Int)+1] w λe J=>e=fF (my gb 0 (n-1) c)/\
   J.ownsRow 0 96 3 (my gb 0 (n-1) c) (n-1) (flat<|es.eraseIdx k)/\w.grownBy J (fh gb)/\J.heap.size=w.heap.size:=by
 rcases b.2 with⟨e,_⟩|⟨t,u,g,e,_,h,i,a,j,l⟩
 cases e;cases e;refine(hem gb n c k es g w h d f i a j l).via λJ⟨m,o,p,q,r,s⟩=>?_
 refine⟨fX,⟨?_,.inr ⟨gb,c,m,fX,Fr _,o,by omega,a,p,q⟩⟩,r,s⟩
 grind
theorem SQ(a:Below (w.alloc o1).heap.size (w.alloc o1) w1):w.heap.size<w1.heap.size:=by
 have b:=a.size
 grind [zu]
def mP(b:a<w.heap.size)(o):a<(w.alloc o).heap.size:=by rw[zu];omega
def jr(w:fq)(o):w.heap.size<(w.alloc o).heap.size:=by rw[zu];omega
def FW(c:T a=t)(d:T b=t')(f:t≠t'):a≠b:=λe=>f<|c.symm.trans (e▸d)
theorem typ(i:Nat):((i,1):Nat×Nat)≠(i,5):=λa=>by cases a
theorem hgB(i:Nat):((0,0):Nat×Nat)≠(i,5):=λa=>by cases a
def hhi{gb n c}(a:v=my gb 0 n c)(b d):(Value.slice (fh<|ie gb 0) b d).ownBlock=v.ownBlock:=by subst a;rfl
def Yk{gb n c}(a:v=my gb 0 n c)(b:w.grownBy J (fh gb)):w.grownBy J v.ownBlock:=by subst a;exact b
theorem Yl(a:oU A es)(n):oU A (rb es n):=
 ⟨by unfold rb;exact List.Pairwise.sublist (List.eraseIdx_sublist _ _) a.rising,by unfold rb;exact ww (List.length_eraseIdx_le _ _) a.len,λe b=>a.ok e<|Jo b⟩
theorem hhx{gb n c ix:Nat}(e:fZ T w s i p B A g I)(f:gD T w i B g.ft.od I O)(h:I<maxLen)(j:g.ft.od q=fh es)(d:O q=my gb 0 n c)(m:kA es nm=fm)(o:ui es nm=ix)(k:oU A es)
  (r:w6.ownsRow 0 96 3 (my gb 0 (fv es-1) c) (fv es-1) (flat<|es.eraseIdx ix))(l:w.grownBy w6 (fh gb)):
  ∃a b,(Instr.mapUpdate 162 (.map<|fh B.oD) (fD<|jn q)<|my gb 0 (fv es-1) c).run prog w6=.ok () a/\fI (Mine i) T b w a/\
   fZ b a s i p B A { g with ft:={ g.ft with od:=upd g.ft.od q (fh<|rb es nm) } } (I+1)/\gD b a i B (upd g.ft.od q<|fh (rb es nm)) (I+1) (upd O q<|my gb 0 (fv es-1) c):=by
 refine OS e f h j (Yk d l) ?_ (.inl<|hhi d _ _) (Yl k nm)<|mi _ _
 grind [AP,rb]
theorem OT(h:fZ T w s i p B A g I)(af:gD T w i B g.ft.od I O)(aX:I+300<1099511627776)(l:Good (q++[n]))(E:jk A g.fs g.ft K q)(F:oU A (K q))(G:kA (K q) n=fm):
  ik 138 #[ii B.bt,fD<|jn (q++[n])] w λaA J=>aA=qr #[]/\∃M aB,fI (Mine i) T M w J/\
   fZ M J s i p B A { g with ft:=oz A g.fs g.ft q n } (I+150)/\gD M J i B (oz A g.fs g.ft q n).od (I+150) aB:=by
 have aC:Good q:=by have:=l.dropLast;rwa [wB]at this
 have aY:fv q<=4:=by have:=l.len;simp at this;omega
 have⟨aD,aE,L,aF⟩:=rY E;have ag:oz A g.fs g.ft q n={ rp A g.fs g.ft (fx q) with od:=upd (rp A g.fs g.ft<|fx q).od q (fh<|rb (K q) n) }:=by
  unfold oz;simp only[L,jI]
 rw[ag];have m:=λW(ah:ju w W)=>uP (s:=s) (i:=i) (p:=p) (B:=B) (A:=A) (fx q) T W g I K O (h.below ah) (af.moves (fI.fK (P:=λ_=>False) ah) λx=>x) (by rw[Hy];omega) (by rw[uo];exact aC) (by rw[uo];exact E)
 rw[uo,Hy]at m;have r:=λW=>jo (q++[n]) l W
 have t:=λW=>mO (q++[n]) l (by simp) W;rw[wB]at r;simp only[KV]at t;have⟨H,aZ,bb,bc,Z,N⟩:=sk<|q++[n];have⟨bd,be,bf,bg,bh,Q⟩:=sk q;unfold ln at r t;simp only[N,Q]at r t m;rw[N];have⟨ai,aG⟩:=qp G;have bi:=F.len;have U:=h.two;have aH:I+20*(fv q+1)<maxLen:=by unfold maxLen;omega
 generalize aj:ui (K q) n=ix at ai;have ak:fe (ui (K q) n=ix):=aj;have aI:fe _:=Q;have bj:fe _:=h;have aJ:fe _:=m;have al:fe _:=L;have R:fe _:=F;have am:fe _:=G;have an:=h.st.fresh;have Bj:fe _:=an;clear aj h af m aD aE L aF F G N Q E ag aG an;go_enter func138,ntmps138;go_wp2_with(first
  |(go_at_call 132;refine(r _).via λw1 S=>?_;have V:=SQ S;have bk:=λo=>(kw S).1 w.heap.size o (by simp);have u:=gS ((mi w.heap.size w).alloc (lw _) _) S)
  |(go_at_call 192;go_loud(apply (aJ _<|u.alloc u.size _).mono;rintro e j ⟨bl,rfl,aK,bm,d,y,X,ao,ap⟩;have bn:=Hn (b:=w.heap.size) U d (mP V _)<|Bj _ (lw _);have bo:=Hn (b:=w1.heap.size) U d (jr _ _)<|Bj _ (Ef V);have aL:aK w1.heap.size=(0,0):=(d.tags _<|jr _ _).trans<|Bj _ (Ef V);have aq:w1.heap.size<j.heap.size:=nz (jr _ _) d.size;have a:=X.row _ _ al;have⟨gb,aM,Y⟩:=hh a.1 (by omega);rw[Y]at ao a;subst ao;have bp:gb<j.heap.size:=gc a.1 fX;have⟨aa,bq,_,_,_⟩:=y.wp.tree.cells;have aN:=FW y.wp.tree.tt (a.2 gb fX)<|typ i;have aO:=FW aL (a.2 gb fX)<|hgB i;have aP:fe _:=y;have aQ:fe _:=d;have HD3:fe _:=X;have z:fe _:=a;have aR:fe _:=Y;have br:fe _:=ap;clear y d X a Y ap))
  |(go_at_call 134;refine(t _).via λC k=>?_;have ar:w1.heap.size<C.heap.size:=nz aq k.size;have bs:∀o,C.c w1.heap.size o=j.c w1.heap.size o:=λo=>(kw k).1 _ o aq;have d4:C.c B.bt 8=j.c B.bt 8:=(kw k).1 _ _ aa)
  |(go_at_call 133;go_loud(refine(iL (gg z.o.1 λab ac=>k.block ab<|gc z.o.1 ac) n R.o.rising R.o.len).via λad ae=>?_;rw[ak.o,am.o];have f:=gS k ae;have bt:∀o,ad.c w1.heap.size o=C.c w1.heap.size o:=λo=>(kw ae).1 _ o ar;have d5:ad.c B.bt 8=j.c B.bt 8:=(kw f).1 _ _ aa)))
 have au:ad.drew.ownsRow 0 96 3 (fy (fh<|ie gb 0) (fv<|K q) aM) (fv<|K q) (flat<|K q):=gg z.1 λab ac=>(io f).block ab<|gc z.1 ac;have av:=lbx au fX ai
 change fe _ at av
 clear au;have bu:IntKind.i64.wrap ((ix:Int)+1)=(ix:Int)+1:=by rw[zv];omega
 go_region_with(go_at_call 194;go_loud(refine Hk av λw6⟨aw,D,bv⟩=>?_;have bw:=λo=>ko (c:=w1.heap.size) D (nz ar ae.size) aO o;have d6:=ko (c:=B.bt) D (nz aa f.size) aN 8;have⟨bx,aS,aT,ax,ay,az⟩:=hhx (aP.below<|io f) (HD3.moves (fI.fK (P:=λ_=>False)<|io f) (λx=>x)) aH al aR am ak R aw D;rw[aI.o]at aT;have aU:fe _:=ax;have aV:fe _:=ay;have aW:fe _:=az;clear ax ay az aw D))
 all_goals
  go_wp2;exact bodyPost_end (v:=fC #[]) (by simp[results,results138,go_sem]) fX ⟨fX,aS,_,((mr (u.alloc u.size _) aQ).trans<|(fI.fK (io f)).trans aU),aV.mono<|by omega,aW.mono<|by omega⟩
theorem OU(a:oU A es){v:Int×Int}(c:fN n=fm)(d:oW A (n,v))(f:kA es n=fm\/fv es<16):oU A (zr es n v):=by
 refine⟨wY a.rising,?_,λe b=>?_⟩;rw[sZ]
 have:=a.len
 grind
 rcases ND b with rfl|b
 grind
 exact a.ok e b
theorem lby{v:Int×Int}{e}(j:fZ T w s i p B A g I)(k:gD T w i B g.ft.od I O)(l:I<maxLen)(m:g.ft.od q=fh es)(D:kA es nm=fo)(E:ui es nm=ix)(n:oU A es)(o:fv es<16)(r:fN nm=fm)(t:oW A (nm,v)){h:fu}(u:O q=h)
  (U:xD w w6 h.ownBlock (fv es) (es.take ix++(nm,v)::es.drop ix) e):
  ∃a c,e=fF (my a 0 (fv es+1) c)/\w.grownBy w6 h.ownBlock/\∃b d x,(Instr.mapUpdate 162 (.map<|fh B.oD) (fD<|jn q)<|my a 0 (fv es+1) c).run prog w6=.ok () b/\fI (Mine i) T d w b/\
   fZ d b s i p B A { g with ft:={ g.ft with od:=upd g.ft.od q (fh<|zr es nm v) } } (I+1)/\gD d b i B (upd g.ft.od q<|fh (zr es nm v)) (I+1) x:=by
 subst u;have⟨a,c,F,G,y,z⟩:=U;have H:zr es nm v=es.take ix++(nm,v)::es.drop ix:=by
  grind [zr,decide]
 have J:fv (zr es nm v)=fv es+1:=by rw[sZ,km (by grind)]
 have⟨b,d,f,K,L,M⟩:=OS j k l m y (v6:=my a 0 (fv es+1) c) (es':=zr es nm v) (by grind) (by
  rcases z with f|f
  exact .inl f;exact .inr (λgb C=>by
   obtain rfl:a=gb:=by simpa [Value.ownBlock]using C
   exact f)) (OU n r t<|.inr o)<|mi _ _
 grind
theorem LK{row:Option Nat}(b:w.grownBy J row)(d:c<w.heap.size)(e:fh c≠row)(o):J.c c o=w.c c o:=wJ (a:=(ie c o))<|b.block c d e
def CE(a:oT T w t v es)(b:T c=t')(d:t'≠t):fh c≠v.ownBlock:=λe=>d<|b.symm.trans (a.2 c e.symm)
theorem lcm{w a}(b:oT T w t v es)(c:ju w a):∀g,v.ownBlock=fh g->a.heap.size≠g:=λg d e=>by
 have f:=gc b.1 d
 have h:=c.size
 omega
theorem CF{o1 a}(b:Below ((w.alloc o1).alloc a).heap.size ((w.alloc o1).alloc a) w1):w.heap.size<w1.heap.size/\w.heap.size+1<w1.heap.size:=by
 have c:=b.size
 grind [zu]
def JT{n}(a:Below n w W)(c:n<=b):Below n w (W.setCell (ie b o) v):=a.setCell c _
def FX:(W.setCell (ie b o) v).heap.size=W.heap.size:=by simp
theorem LL(t:fZ T w s i p B A g I)(ah:gD T w i B g.ft.od I O)(bn:I+300<1099511627776)(m:Good (q++[n]))(E:jk A g.fs g.ft K q)(ai:oU A (K q))(F:kA (K q) n=fo)(aj:fv (K q)<16)
  (nm)(k id:Int)(ak:oW A (n,k,id)):
  ik 135 #[ii B.bt,fD<|jn (q++[n]),fD #[hZ nm,fY k,fY id]] w λaK J=>aK=qr #[]/\∃M aL,fI (Mine i) T M w J/\
   fZ M J s i p B A { g with ft:=qB A g.fs g.ft q n (k,id) } (I+150)/\gD M J i B (qB A g.fs g.ft q n (k,id)).od (I+150) aL:=by
 have aM:Good q:=by have:=m.dropLast;rwa [wB]at this
 have aN:fN n=fm:=m.val n (by simp);have bo:fv q<=4:=by have:=m.len;simp at this;omega
 have⟨aO,aP,G,aQ⟩:=rY E;have al:qB A g.fs g.ft q n (k,id)={ rp A g.fs g.ft (fx q) with od:=upd (rp A g.fs g.ft<|fx q).od q (fh<|zr (K q) n (k,id)) }:=by
  unfold qB;simp only[G,jI];rw[km (by rw[F];decide)]
 rw[al];have u:=λW(am:ju w W)=>uP (s:=s) (i:=i) (p:=p) (B:=B) (A:=A) (fx q) T W g I K O (t.below am) (ah.moves (fI.fK (P:=λ_=>False) am) λx=>x) (by rw[Hy];omega) (by rw[uo];exact aM) (by rw[uo];exact E)
 rw[uo,Hy]at u;have y:=λW=>jo (q++[n]) m W
 have z:=λW=>mO (q++[n]) m (by simp) W;rw[wB]at y;simp only[KV]at z;have⟨H,bp,bq,br,Z,L⟩:=sk<|q++[n];have⟨bs,bt,bu,bv,bw,N⟩:=sk q;unfold ln at y z;simp only[L,N]at y z u;rw[L];have U:=t.two;have aR:I+20*(fv q+1)<maxLen:=by unfold maxLen;omega
 have an:ui (K q) n<=fv (K q):=Vm _ _;generalize ao:ui (K q) n=ix at an;have ap:fe (ui (K q) n=ix):=ao;have aS:fe _:=N;have aT:fe _:=u;have aq:fe _:=G;have Q:fe _:=ai;have ar:fe _:=F;have au:=t.st.fresh;have Bj:fe _:=au;have aU:fe _:=ak;clear ao t ah u aO aP G aQ ai F L N E al au ak;go_enter func135,ntmps135;go_wp2_with(first
  |(go_at_call 134;refine(z _).via λw1 r=>?_;have⟨bx,aV⟩:=CF r;have bz:=λo=>(kw r).1 w.heap.size o (by simp;omega);have bA:=λo=>(kw r).1 (w.heap.size+1) o (by simp);have f1:=λo=>(kw r).2 (w.heap.size+1) o (by simp);have aW:=gS (((mi w.heap.size w).alloc (lw _) _).alloc (by simp) _) r)
  |(go_at_call 132;go_loud(refine(y _).via λh R=>?_;have j:=gS (JT aW<|Ha _) R;have av:=nz aV<|EL (FX (W:=w1) (b:=w.heap.size+1) (o:=0) (v:=fA n)).symm;have bB:=λo=>(kw R).1 (w.heap.size+1) o av;have S:=nz av R.size))
  |(go_at_call 192;go_loud(apply (aT.o _<|j.alloc j.size _).mono;rintro e V ⟨aX,rfl,bC,bD,d,X,Y,aa,aY⟩;have bE:=Hn (b:=w.heap.size+1) U d (mP S _)<|Bj.o _ (Ha _);have bF:=Hn (b:=h.heap.size) U d (jr _ _)<|Bj.o _ j.size;have aZ:=(d.tags h.heap.size<|jr _ _).trans<|Bj.o _ j.size;have bb:=(d.tags (w.heap.size+1)<|mP S _).trans<|Bj.o _ (Ha _);have C:h.heap.size<V.heap.size:=nz (jr _ _) d.size;have ab:w.heap.size+1<V.heap.size:=Nc S C;have ac:=Y.row _ _ aq.o;rw[aa]at ac;have⟨ad,bG,_,_,_⟩:=X.wp.tree.cells;have aw:fe _:=X;have bc:fe _:=d;have HD3:fe _:=Y;have f:fe _:=ac;have bd:fe _:=aa;clear X d Y ac aa aY))
  |(go_at_call 133;go_loud(refine(iL f.o.1 n Q.o.rising Q.o.len).via λa c=>?_;rw[ap.o,ar.o];have bH:=λo=>(kw c).1 h.heap.size o C;have bI:=λo=>(kw c).1 (w.heap.size+1) o ab;have d4:=(kw c).1 B.bt 8 ad)))
 have l:ju V ((a.k #[hZ n,fY k,fY id] 96).drew):=io<|c.alloc c.size _;have ax:((a.k #[hZ n,fY k,fY id] 96).drew).ownsRow 0 96 3 aX (fv<|K q) (flat<|K q):=gg f.o.1 λbe bf=>l.block be<|gc f.o.1 bf;have ay:((a.k #[hZ n,fY k,fY id] 96).drew).heap[a.heap.size]?=fh (.cells #[hZ n,fY k,fY id] 96 (0,0)):=Array.getElem?_push_size;have az:=lax (x:=(n,k,id)) ax (Ef aj) an ay<|lcm f.o c;have bg:fe _:=az;have aA:=CE f.o aZ<|hgB i;have aB:=CE f.o bb<|hgB i;have aC:=CE f.o aw.o.wp.tree.tt<|typ i;have aD:h.heap.size<((a.k #[hZ n,fY k,fY id] 96).drew).heap.size:=nz C l.size;have aE:w.heap.size+1<((a.k #[hZ n,fY k,fY id] 96).drew).heap.size:=nz ab l.size;have aF:B.bt<((a.k #[hZ n,fY k,fY id] 96).drew).heap.size:=nz ad l.size;have bJ:h.heap.size<a.heap.size:=nz C c.size;have bK:w.heap.size+1<a.heap.size:=nz ab c.size;have bL:B.bt<a.heap.size:=nz ad c.size;have ae:fe _:=l;have af:fe _:=And.intro aD<|And.intro aE aF;have ag:fe _:=And.intro aA<|And.intro aB aC;clear az ax ay l aD aE aF aA aB aC
 go_region_with(go_at_call 193;go_loud(apply Ps bg.o;rintro e w6 aG;obtain⟨bM,bN,rfl,D,bO,bh,bi,bj,aH,aI,aJ⟩:=lby (v:=(k,id)) (aw.o.below ae.o) (HD3.o.moves (fI.fK (P:=λ_=>False) ae.o) (λx=>x)) aR aq.o ar.o ap.o Q.o aj aN aU.o bd.o aG;have bQ:=LK D af.o.1 ag.o.1;have bR:=LK D af.o.2.1 ag.o.2.1;have d6:=LK D af.o.2.2 ag.o.2.2 8;rw[aS.o]at bj;have bk:fe _:=aH;have bl:fe _:=aI;have bm:fe _:=aJ;clear aH aI aJ D aG))
 all_goals
  go_wp2;exact bodyPost_end (v:=fC #[]) (by simp[results,results135,go_sem]) fX ⟨fX,bh,bi,((mr (j.alloc j.size _) bc.o).trans<|(fI.fK ae.o).trans bk.o),bl.o.mono<|by omega,bm.o.mono<|by omega⟩
theorem SR(d:fZ T w s i p B A g I)(l:gD T w i B g.ft.od I O){k id:Int}(f:g.ft.od q=fh es)(o:O q=my gb 0 N c)(a:kA es n=fm)(C:ui es n=ix)(D:fN n=fm)(E:oW A (n,k,id))
  (r:J=((w.setCell (ie gb<|ix*3)<|hZ n).setCell (ie gb<|ix*3+1)<|fY k).setCell (ie gb<|ix*3+2) (fY id)):
  fZ T J s i p B A { g with ft:={ g.ft with od:=upd g.ft.od q (fh<|zr es n (k,id)) } } I/\gD T J i B (upd g.ft.od q<|fh (zr es n (k,id))) I O/\fI (λt=>t=(i,5)) T T w J/\w.grownBy J (fh gb):=by
 subst C;obtain⟨F,M⟩:=qp a;have u:=l.row q es f;have v:(O q).ownBlock=fh gb:=by rw[o];rfl
 have h:w.grownBy J (fh gb):=by rw[r];exact sq<|sq (sq<|Hd _ _)
 have x:=OU (d.fT f) D E<|.inl a;have j:=u.1;rw[o]at j;have G:N=fv es:=by
  rcases j.2 with⟨e,_⟩|⟨P,Q,_,e,_⟩
  all_goals grind
 subst G;have H:=(((j.stored (ui es n*3)<|hZ n).1).stored (ui es n*3+1)<|fY k).1;have K:=(H.stored (ui es n*3+2)<|fY id).1;rw[JP F (n,k,id),<-FU a (k,id),<-r]at K;have R:fv (zr es n (k,id))=fv es:=by rw[sZ,lv a]
 have y:=l.rewrite (A:=A) f v h (by grind) x;have m:fI (λt=>t=(i,5)) T T w J:=WP h (by simp_all)<|u.2 gb v;refine⟨d.od m (lw _) y λz es' b=>?_,y,m,h⟩;by_cases e:z=q;subst e;rw[upd_same]at b;cases b;exact λe L=>(x.ok e L).2;rw[kh e]at b;exact d.wp.ok.od z es' b
theorem FY{gb n c}(a:w.ownsRow 0 96 3 (my gb 0 n c) n (flat es))(d:ix<fv es):w.c gb (ix*3)=fh (hZ (es[ix]).1)/\w.c gb (ix*3+1)=fh (fY (es[ix]).2.1)/\w.c gb (ix*3+2)=fh (fY (es[ix]).2.2):=
 zS (b:=gb) (λe f g=>by have:=ks a e f g;rwa [iR]at this) d
theorem hic(C:fZ T w s i p B A g I)(ah:gD T w i B g.ft.od I O)(bo:I+300<1099511627776)(j:Good (q++[n]))(Q:jk A g.fs g.ft K q)(R:oU A (K q))(D:kA (K q) n=fm)
  (nm)(k id:Int)(ai:oW A (n,k,id)):
  ik 135 #[ii B.bt,fD<|jn (q++[n]),fD #[hZ nm,fY k,fY id]] w λaN J=>aN=qr #[]/\∃M S,fI (Mine i) T M w J/\
   fZ M J s i p B A { g with ft:=qB A g.fs g.ft q n (k,id) } (I+150)/\gD M J i B (qB A g.fs g.ft q n (k,id)).od (I+150) S:=by
 have aO:Good q:=by have:=j.dropLast;rwa [wB]at this
 have aP:fN n=fm:=j.val n (by simp);have bp:fv q<=4:=by have:=j.len;simp at this;omega
 have⟨aQ,aR,V,aS⟩:=rY Q;have aj:qB A g.fs g.ft q n (k,id)=AV { rp A g.fs g.ft (fx q) with od:=upd (rp A g.fs g.ft<|fx q).od q (fh<|zr (K q) n (k,id)) } (q++[n]):=by
  unfold qB AV;simp only[V,jI];rw[lv D]
 rw[aj];have E:=λW(ak:ju w W)=>uP (s:=s) (i:=i) (p:=p) (B:=B) (A:=A) (fx q) T W g I K O (C.below ak) (ah.moves (fI.fK (P:=λ_=>False) ak) λx=>x) (by rw[Hy];omega) (by rw[uo];exact aO) (by rw[uo];exact Q)
 rw[uo,Hy]at E;have F:=λW=>jo (q++[n]) j W
 have G:=λW=>mO (q++[n]) j (by simp) W;rw[wB]at F;simp only[KV]at G;have⟨H,al,am,an,Z,r⟩:=sk<|q++[n];have⟨bq,br,bs,bt,bu,ao⟩:=sk q;unfold ln at F G;simp only[r,ao]at F G E;rw[r];have U:=C.two;have bv:I+20*(fv q+1)<maxLen:=by unfold maxLen;omega
 have⟨X,_⟩:=qp D;have bw:=R.len;generalize ap:ui (K q) n=ix at X;have aq:fe (ui (K q) n=ix):=ap;have bx:fe _:=r;have Y:=λ(M:gC)(W:fq)(ar:WG)(au:Nat)(S:fQ->fu)(a:fZ M W s i p B A ar au)(b:gD M W i B ar.ft.od au S)=>FV a b j;simp only[r]at Y;have HFG:fe _:=Y;have aT:fe _:=E;have av:fe _:=V;have aw:fe _:=R;have ax:fe _:=D;have ay:=C.st.fresh;have Bj:fe _:=ay;have aU:fe _:=ai;clear ap C ah E aQ aR V aS R D r ao Q aj ay ai Y;go_enter func135,ntmps135;go_wp2_with(first
  |(go_at_call 134;refine(G _).via λw1 u=>?_;have⟨L,aV⟩:=CF u;have aW:=λo=>(kw u).1 w.heap.size o (by simp;omega);have bz:=λo=>(kw u).1 (w.heap.size+1) o (by simp);have f1:=λo=>(kw u).2 (w.heap.size+1) o (by simp);have aX:=gS (((mi w.heap.size w).alloc (lw _) _).alloc (by simp) _) u)
  |(go_at_call 132;go_loud(refine(F _).via λN y=>?_;have l:=gS (JT aX<|Ha _) y;have aa:=nz aV<|EL (FX (W:=w1) (b:=w.heap.size+1) (o:=0) (v:=fA n)).symm;have bA:=λo=>(kw y).1 (w.heap.size+1) o aa;have ab:=nz aa y.size;have ac:w1.heap.size<=N.heap.size:=ww (EL (FX (W:=w1) (b:=w.heap.size+1) (o:=0) (v:=fA n)).symm) y.size;have aY:=λo=>(kw y).1 w.heap.size o<|Nc (Nat.lt_succ_self _) aa))
  |(go_at_call 192;go_loud(apply (aT _<|l.alloc l.size _).mono;rintro e z ⟨bB,rfl,az,aZ,d,ad,ae,aA,bb⟩;have bC:=Hn (b:=w.heap.size+1) U d (mP ab _)<|Bj _ (Ha _);have bD:=Hn (b:=N.heap.size) U d (jr _ _)<|Bj _ l.size;have bE:=(d.tags N.heap.size<|jr _ _).trans<|Bj _ l.size;have bF:=(d.tags (w.heap.size+1)<|mP ab _).trans<|Bj _ (Ha _);have bc:N.heap.size<z.heap.size:=nz (jr _ _) d.size;have aB:w.heap.size+1<z.heap.size:=Nc ab bc;have f:=ae.row _ _ av;have⟨gb,bG,af⟩:=hh f.1<|hPQ (Fr _) X;rw[af]at aA f;subst aA;have aC:gb<z.heap.size:=gc f.1 fX;have⟨bH,bI,bJ⟩:=FY f.1 X;have bK:=zW f.1;have bd:=Hn (b:=w.heap.size) U d (mP (nz L ac) _)<|Bj _ (lw _);have be:=(d.tags w.heap.size<|mP (nz L ac) _).trans<|Bj _ (lw _);have aD:=FW be (f.2 gb fX)<|hgB i;have bL:=aD.symm;have aE:w.heap.size<z.heap.size:=Nc (Nat.lt_succ_self _) aB;have⟨bM,bN,_,_,_⟩:=ad.wp.tree.cells;have bf:fe _:=ad;have bg:fe _:=d;have HD3:fe _:=ae;have bh:fe _:=f;have bi:fe _:=af;clear ad d ae f af bb)))
 have aF:∀o v,#[Value.string H,hZ al,hZ am,hZ an,hZ Z][o]?=fh v->z.cell? (ie w.heap.size o)=fh v:=λo v ag=>by
  rw[bd,hyz _ _ _<|nz L ac,aY];rw[show(w1.setCell (ie (w.heap.size+1) 0)<|hZ n).cell? (ie w.heap.size o)=w1.cell? (ie w.heap.size o)from ko (c:=w.heap.size) (sq<|Hd w1 (fh<|w.heap.size+1)) L (by omega) o,aW];simpa using ag
 refine(iL bh.o.1 n aw.o.rising aw.o.len).via λaG h=>?_;rw[aq.o,ax.o];have bO:=λo=>(kw h).1 gb o aC;have bQ:=λo=>(kw h).2 gb o aC;have bR:=λo=>(kw h).1 (w.heap.size+1) o aB;have m:∀o v,#[Value.string H,hZ al,hZ am,hZ an,hZ Z][o]?=fh v->(((aG.setCell (ie gb<|ix*3)<|hZ n).setCell (ie gb<|ix*3+1)<|fY k).setCell (ie gb<|ix*3+2) (fY id)).cell? (ie w.heap.size o)=fh v:=λo v ag=>by
  rw[ko (c:=w.heap.size) (sq (o:=ix*3+2) (v:=.int .i64 id)<|sq (o:=ix*3+1) (v:=.int .i64 k) (sq (o:=ix*3) (v:=fA n)<|Hd aG (fh gb))) (nz aE h.size) aD o,(kw h).1 w.heap.size o aE];exact aF o v ag
 have bS:=m 0 _ fX;have bT:=m 1 _ fX;have bU:=m 2 _ fX;have bV:=m 3 _ fX;have bW:=m 4 _ fX;have⟨o1,aH,aI,_⟩:=SR (bf.below h) (HD3.moves (fI.fK (P:=λ_=>False) h) λx=>x) av bi ax aq aP aU fX;have aJ:=HFG az _ _ _ _ o1 aH;have bj:fe _:=h
 change fe _ at aJ aI
 clear m aF o1 aH;go_wp2_with(go_at_call 139;go_loud(refine Hk aJ λbX⟨aK,aL,aM⟩=>?_;have bk:fe _:=aK;have bl:fe _:=aL;have bm:fe _:=aM;clear aK aL aM))
 all_goals
  exact oa (v:=fC #[]) (by simp[results,results135,go_sem]) fX ⟨fX,az,aZ,((mr (l.alloc l.size _) bg).trans ((fI.fK bj).trans ((aI.mono λt bn=>(Or.inr (by rw[bn]):Mine i t)).trans bk))),bl.mono<|by omega,bm.mono<|by omega⟩
theorem LM(a:Sound A){t d c:LT}{Y:Kids}(b:fM A m t)(e:t.at A q=fh d)(f:kids A d=fh Y)(i:fN n=fm)(j:fv q<m)(k:fM A (m-fv q-1) c)(l:kA Y n=fm\/fv Y<16):fM A m (vy A (λY=>zr Y n c) q t):=by
 obtain⟨h,o,p⟩:=lO a (tA a _ b e).2.1 f;refine RT a _ q b e f (zH (wY h) ?_ λx g=>?_)
 ·all_goals grind [sZ]
 rcases ND g with rfl|g
 all_goals grind
theorem oZ.len(a:oZ T w i v es):∃b c,v=fy b (fv es) c:=by
 rcases a.1.2 with⟨e,d⟩|⟨f,g,_,e,_⟩
 all_goals grind
def Left (s i p:Nat)(B:WB)(A:List Ob)(T:gC)(w J:fq)(g:WG)(b:b6)(t':LT)(I:Nat):Prop:=
 ∃M a,fI (Mine i) T M w J/\fZ M J s i p B A { g with fs:=b,ft:=a } I/\Flat A t' a/\fM A 5 t'
def iH{a:b6}{t}(m:fI (Mine i) T M w J)(b:fZ M J s i p B A { g with fs:=a } I)(hF:Flat A t g.ft)(c:fM A 5 t):Left s i p B A T w J g a t I:=⟨M,g.ft,m,b,hF,c⟩
theorem SS(t)(w:fq):ik 70 #[ii t,fD<|ml kq kq kq kq kq] w (vd (fY 6) w):=by
 have a:=λW=>gW W;have c:∀W,(Op.equalIn 10000 147 (ln [])<|ln []).run prog W=.ok fm W:=λW=>by
  have:=ir Good.nil Good.nil W
  rwa [iE fX]at this
 unfold ln jn at a c;simp only[tW]at a c;go_enter func70,ntmps70;go_wp2
 go_region_with(go_at_call 75;refine(a _).via λw1 b=>?_;have⟨d,e⟩:=kw b;have f:=su b)
 all_goals
  go_wp2;go_ret;exact⟨fX,gS (io<|(mi _ _).alloc (lw _) _) b⟩
theorem SU{t}(h:fZ T w s i p B A g I)(bl:I+400<1099511627776)(hF:Flat A t g.ft)(Q:fM A 5 t){r:fQ}(m:Good (fx r++[n])):
  ik 70 #[ii B.bt,fD<|jn (fx r++[n])] w λaT J=>aT=fF (fY (jD A t g.fs (n::r)).2.1)/\Left s i p B A T w J g (jD A t g.fs (n::r)).1 (jD A t g.fs (n::r)).2.2 (I+300):=by
 have R:=h.st.sound;have U:=h.two;have aU:Good (fx r):=by have:=m.dropLast;rwa [wB]at this
 have aV:fN n=fm:=m.val n (by simp);have bm:fv r<=4:=by have:=m.len;simp at this;omega
 have y:=λW(z:ju w W)=>uO (s:=s) (i:=i) (p:=p) (B:=B) (A:=A) r T W g I (h.below z) (by omega) aU;simp only[nI R hF Q g.fs r]at y;have f:jD A t g.fs (n::r)=if(pA A t g.fs r).2.1≠0 then((pA A t g.fs r).1,(pA A t g.fs r).2.1,t)else if(jp (pA A t g.fs r).2.2 n).isSome then((pA A t g.fs r).1,6,t)else if 16<=(pA A t g.fs r).2.2.length then((pA A t g.fs r).1,11,t) else((pA A t g.fs r).1,0,vy A (λY=>zr Y n<|.own []) (fx r) t):=fX;have S:=qO (A:=A) (t:=t) (fs:=g.fs) (r:=r);have V:oU A ((pA A t g.fs r).2.2.map lL):=by have:=h.gh g.fs r;rwa [nI R hF Q g.fs r]at this
 generalize jD A t g.fs (n::r)=bn at f |-;generalize pA A t g.fs r=a at y S V f;have⟨bo,ay,Y⟩:=a;simp only at y S V f;have X:fe _:=f;have aa:∀W,(Op.equalIn 10000 147 (ln<|fx r++[n])<|ln []).run prog W=.ok fo W:=λW=>by
  have:=ir m Good.nil W
  rw[yv<|by simp]at this;exact this
 have ab:=λW=>gW W;have ac:=λW=>jo (fx r++[n]) m W;have C:=λW=>mO (fx r++[n]) m (by simp) W;rw[wB]at ac;simp only[KV]at C;have⟨H,bp,bq,br,Z,D⟩:=sk<|fx r++[n];have⟨bs,bt,bu,bv,bw,az⟩:=sk<|fx r;unfold ln at ab aa ac C;simp only[D,az]at aa ac C y;rw[D];unfold jn at ab aa;simp only[tW]at ab aa;have aA:fe _:=h;have E:fe _:=hF;have u:fe _:=Q;have F:fe _:=R;have aB:fe _:=m;have aW:fe _:=V
 change fe _ at D y S
 clear h hF Q R az m V f;go_enter func70,ntmps70;go_wp2
 go_region_with(go_at_call 75;refine(ab _).via λw1 ak=>?_;have⟨bx,bz⟩:=kw ak;have aC:=su ak;have aX:=gS (io<|(mi w.heap.size w).alloc (lw _) _) ak)
 all_goals
  go_wp2_with(go_at_call 132;refine(ac _).via λaY al=>?_;have bA:=λo=>(kw al).1 w.heap.size o aC;have am:=nz aC al.size;have aD:=gS aX al);apply (y aY aD).mono;rintro e ad ⟨v,rfl,aE,G,aF,an⟩;have bB:=Hn (b:=w.heap.size) U (G.mono λ_ h=>h.mine) am<|aA.o.st.fresh _ (lw _);have aG:=mr aD (G.mono λ_ h=>h.mine);have ae:w.heap.size<ad.heap.size:=nz am G.size;have aZ:aE w.heap.size=(0,0):=(G.tags _ am).trans<|aA.st.fresh _ (lw _);have K:fe _:=aF;have af:fe _:=aG;have bb:fe (oZ aE ad i v<|Y.map lL):=an;obtain⟨bC,bD,rfl⟩:=an.len;rw[oL];clear aF an G aG;by_cases ao:ay=0
  ·subst ao
   have⟨⟨d,ag,ah⟩,bc,ap⟩:=S fX;have aH:=iy F E u ag ah ap;have⟨aq,aI,bd⟩:=lO F (tA F _ u ag).2.1 ah;have ar:fP (Y.map lL):=by rw[oy];exact nH _ aq
   have au:fv (Y.map lL)<=16:=by rw[oL];exact aI
   have L:=rh aq n;have aJ:=jc Y n;have M:=λav(z:ju ad av)=>iL (bb.below z).1 n ar au;rw[oL]at M;have be:fe _:=aH;have j:fe _:=And.intro ag<|And.intro ah ap;have ai:fe _:=aJ;have bE:fe _:=And.intro ar au
   change fe _ at M L
   clear aH ag ah ap aJ ar au aq aI bd bc;cases q:kA Y n with
   |true=>
    go_wp2_with(first
     |(go_at_call 134;refine(C _).via λaK l=>?_)
     |(go_at_call 133;go_loud(refine(M _ l).via λaL N=>?_;rw[ai.o,q];have k:=gS l N)))
    go_ret;have f:=X.o;rw[km<|by simp,lv (by rw[L.o];exact q)]at f;subst f;exact⟨fX,iH (af.trans<|fI.fK k) ((K.below k).mono<|by omega) E u⟩
   |false=>
    by_cases aM:fv Y<16
    ·have⟨O,aN⟩:=K.wp.qo
     have aw:=λav(z:ju ad av)=>LL (K.below z) (aN.moves (fI.fK (P:=λ_=>False) z) λx=>x) (by omega) aB be (by rw[lN j.o.1 j.o.2.1];exact aW) (by rw[lN j.o.1 j.o.2.1,ai.o];exact q) (by rw[lN j.o.1 j.o.2.1,oL];exact aM) kq 2 0 ⟨.inr fX,λh=>absurd fX h⟩;rw[D.o]at aw
     change fe _ at aw
     clear aN;have bF:¬((16:Int)<=(fv Y:Int)):=by omega
     go_wp2_with(first
      |(go_at_call 134;refine(C _).via λaK l=>?_;have bG:=λo=>(kw l).1 w.heap.size o ae)
      |(go_at_call 133;go_loud(refine(M _ l).via λaL N=>?_;rw[ai.o,q];have k:=gS l N;have bH:=λo=>(kw k).1 w.heap.size o ae))
      |(go_at_call 135;go_loud(refine(aw _ k).via λw6⟨bI,bJ,aj,ax,aO⟩=>?_;have bK:=Hn (b:=w.heap.size) U aj (nz ae k.size) aZ;have bL:=nz (nz ae k.size) aj.size;have bf:fe _:=aj;have bg:fe _:=ax;have bh:fe _:=aO;have⟨bM,bN,_,_,_⟩:=ax.wp.tree.cells;clear aj ax aO)))
     have⟨bO,bi,bj,bQ,bR,bS,aP,aQ,bk,_⟩:=LJ bg bh (by unfold maxLen;omega) aB (io<|mi _ w6) (Vz _) (λgb h=>by simp[Value.ownBlock]at h) ⟨by simp[fP],by simp,by simp⟩;rw[D.o]at bj;have aR:=RU F E u j.1 j.2.1 j.2.2 (n:=n) (by have:=L.o;rw[q]at this;simpa using this);have aS:=LM F u j.1 j.2.1 aV (by rw[Hy];omega) (c:=.own []) (zH (by simp[fP]) (by simp)<|by simp)<|.inr aM
     change fe _ at aP aQ aR aS
     clear bk
     go_region
     all_goals
      go_wp2;go_ret;have f:=X.o;rw[km<|by simp,km (by rw[L.o,q];decide),km<|by omega]at f;subst f;exact⟨fX,bi,_,(af.trans<|(fI.fK k).trans (bf.trans aP)),aQ.mono<|by omega,aR,aS⟩
    go_wp2_with(first
     |(go_at_call 134;refine(C _).via λaK l=>?_)
     |(go_at_call 133;go_loud(refine(M _ l).via λaL N=>?_;rw[ai.o,q];have k:=gS l N)))
    go_ret;have f:=X.o;rw[km<|by simp,km (by rw[L.o,q];decide),lv<|by omega]at f;subst f;exact⟨fX,iH (af.trans<|fI.fK k) ((K.below k).mono<|by omega) E u⟩
  have bT:(ay==0)=fo:=by simpa using ao
  go_wp2;go_ret;have f:=X.o;rw[lv ao]at f;subst f;exact⟨fX,iH af (K.mono<|by omega) E u⟩
