/- A part of the proof. -/
import Derived.Test.YtlgidcmmgohagaaGreatComM12
import Derived.Lib.Overlaps
import Derived.Lib.AppendZerosOnto
set_option linter.all false
namespace Go.Proofs.YtlgidcmmgohagaaGreat
open Go.RowKit Go.Sort Go.Shelf Go.Proofs.Tryz
open Go.Value renaming slice->fy,string->fA,pointer->fB,tuple->fC,agg->fD,bool->fE
open Go.Ending renaming returned->fF
open Option renaming some->fh,none->fj
open Bool renaming true->fm,false->fo
open Go renaming World->fq,Value->fu
open List renaming length->fv,reverse->fx
open Go.RowKit renaming Hid->fe
set_option maxRecDepth 100000
set_option maxHeartbeats 0
variable {W w H w3:fq}{v:fu}{ops:Array Oper}{b c gb i k I jf n:Nat}{ft:FT}{es:List fV}{g:WG}{N M:gF}{J:fT->fu}{B:WB}{a:Act}{A:List Ob}{f:fT->Option fu}{e:fV}{Q:Exit->Act->fq->Prop}{o:Oper}{q:fT}
variable {N:gF}{w:fq}{s i p I:Nat}{B:WB}{A:List Ob}{g:WG}{J:fT->fu}
theorem Ha(w:fq)(b:Option Nat):w.grownBy w b:=⟨fX,fX,fX,lw _,λ_ _ _=>rfl⟩
theorem sk{b o}(a:w.grownBy H (fh b)):w.grownBy (H.setCell (ii b o) v) (fh b):=
 ⟨a.os,a.tape,a.output,by simp;exact a.size,λk d c=>(vh _ _ _ _ λe=>c (by rw[e])).trans<|a.block k d c⟩
theorem Dp{w H c}(a:ju w H)(k:H.grownBy c (fh b)):w.grownBy c (fh b):=
 ⟨k.os.trans a.os,k.tape.trans a.tape,k.output.trans a.output,wy a.size k.size,λi U d=>(k.block i (np U a.size) d).trans<|a.block i U⟩
def xz (w W w3:fq):Prop:=W.heap.size<=w3.heap.size/\∀b,w.heap.size<=b->b<W.heap.size->w3.heap[b]?=W.heap[b]?
theorem xz.cell(c:xz w W w3)(d:w.heap.size<=b)(e:b<W.heap.size)(o):w3.c b o=W.c b o:=wJ (a:=(ii b o))<|c.2 b d e
theorem xz.frozen(c:xz w W w3)(d:w.heap.size<=b)(e:b<W.heap.size)(o):w3.frozen? (ii b o)=W.frozen? (ii b o):=Rk (a:=(ii b o))<|c.2 b d e
theorem Yb(t:Nat)(id:Int)(w:fq)(f:t<w.heap.size)(c4:w.c t 4=fh (hh kq))(c5:w.c t 5=fh (fY 2))(g:w.c t 6=fh (fY id)):
  ik 136 #[ie t,fD<|ml kq kq kq kq kq] w (ut (fC #[fD #[hh kq,fY 2,fY id],fY 0]) w):=by
 have a:=λW=>QR W;have c:∀W,(Op.equalIn 10000 147 (ln [])<|ln []).run prog W=.ok fm W:=λW=>by
  have:=gX Good.nil Good.nil W
  rwa [qu fX]at this
 unfold ln jn at a c;simp only[tQ]at a c;go_enter func136,ntmps136;go_wp2
 go_region_with(go_at_call 75;refine(a _).via λO b=>?_;have⟨d,h⟩:=kw b;have⟨i,j⟩:=uF b)
 all_goals
  have k:t<w.heap.size+2:=by omega
  go_wp2;exact ni (v:=fC #[fD #[hh kq,fY 2,fY id],fY 0]) (by simp[results,results136,go_sem,d]) fX ⟨fX,by
   have e:=gS (il<|((mi _ _).alloc (lw _) _).alloc (by simp) _) b
   repeat(first|exact e|(refine wB ?_ (by simp) _))⟩
theorem hdk(t)(g h i j Z p q r s u)(k:fu->fq->fq->Prop)(d:Int)(J:(d==0)=fo)(w)
  (K:∀W,(Op.equalIn 10000 147 (fD<|ml g h i j Z)<|fD (ml kq kq kq kq kq)).run prog W=.ok fo W)
  (A:∀W,ik 132 #[fD<|ml g h i j Z] W<|ut (fD<|ml p q r s u) W)
  (B:∀W,ju w W->ik 131 #[ie t,fD<|ml p q r s u] W λe H=>∃v,e=pD #[v,fY d]/\k v W H)
  (C:∀v W w3,k v W w3->xz w W w3):
  ik 136 #[ie t,fD<|ml g h i j Z] w λe H=>e=pD #[fD #[hh kq,fY 0,fY 0],fY d]/\∃v W w3,ju w W/\w.heap.size+1<W.heap.size/\k v W w3/\w3.grownBy H (fh<|w.heap.size+1):=by
 have l:=λW=>QR W;unfold ln jn at l;simp only[tQ]at l;go_enter func136,ntmps136;go_wp2
 go_region_with(go_at_call 75;refine(l _).via λO m=>?_;have⟨D,L⟩:=kw m;have⟨E,x⟩:=uF m)
 all_goals
  have y:=gS (il<|((mi _ _).alloc (lw _) _).alloc (by simp) _) m;go_wp2_with(first
   |(go_at_call 132;refine(A _).via λn c=>?_;have⟨F,M⟩:=kw c;have f:w.heap.size+1<n.heap.size:=np x c.size;have z:w.heap.size<n.heap.size:=np E c.size)
   |(go_at_call 131;apply (B _<|gS y c).mono;rintro e w3 ⟨v,rfl,o⟩;have a:=C _ _ _ o;have N:=a.cell (lw _) z;have G:=a.cell (b:=w.heap.size+1) (by omega) f;have P:=a.frozen (b:=w.heap.size+1) (by omega) f;have I:fe _:=o;have Q:w.heap.size<w3.heap.size:=np z a.1;have R:w.heap.size+1<w3.heap.size:=np f a.1;clear o a))
  exact ni (v:=fC #[fD #[hh kq,fY 0,fY 0],fY d]) (by simp[results,results136,go_sem,D,F,G,x]) fX ⟨fX,v,n,w3,gS y c,f,I,by
   repeat(first|exact Ha _ _|(apply sk))⟩
theorem Yc(t)(d f g h Z q r s u y)(i:fu->fq->fq->Prop)(x)(F:Int)(w)
  (V:∀W,(Op.equalIn 10000 147 (fD<|ml d f g h Z)<|fD (ml kq kq kq kq kq)).run prog W=.ok fo W)
  (G:∀W,ik 132 #[fD<|ml d f g h Z] W<|ut (fD<|ml q r s u y) W)
  (I:∀W,ju w W->ik 131 #[ie t,fD<|ml q r s u y] W λe H=>∃v,e=pD #[v,fY 0]/\i v W H)
  (J:∀W,ik 134 #[fD<|ml d f g h Z] W<|ut (hh x) W)
  (K:∀v W w3,i v W w3->∀l,ju w3 l->ik 133 #[v,hh x] l (ut (fC #[fY F,fE fo]) l))
  (L:∀v W w3,i v W w3->xz w W w3):
  ik 136 #[ie t,fD<|ml d f g h Z] w λe H=>e=pD #[fD #[hh kq,fY 0,fY 0],fY 4]/\∃v W w3,ju w W/\w.heap.size+1<W.heap.size/\i v W w3/\w3.grownBy H (fh<|w.heap.size+1):=by
 have m:=λW=>QR W;unfold ln jn at m;simp only[tQ]at m;go_enter func136,ntmps136;go_wp2
 go_region_with(go_at_call 75;refine(m _).via λO n=>?_;have⟨M,X⟩:=kw n;have⟨N,z⟩:=uF n)
 all_goals
  have A:=gS (il<|((mi _ _).alloc (lw _) _).alloc (by simp) _) n;go_wp2_with(first
   |(go_at_call 132;refine(G _).via λo c=>?_;have⟨P,Y⟩:=kw c;have j:w.heap.size+1<o.heap.size:=np z c.size;have B:w.heap.size<o.heap.size:=np N c.size)
   |(go_at_call 131;apply (I _<|gS A c).mono;rintro e w3 ⟨v,rfl,p⟩;have a:=L _ _ _ p;have aa:=a.cell (lw _) B;have Q:=a.cell (b:=w.heap.size+1) (by omega) j;have ab:=a.frozen (b:=w.heap.size+1) (by omega) j;have C:fe _:=p;have ac:w.heap.size<w3.heap.size:=np B a.1;have D:w.heap.size+1<w3.heap.size:=np j a.1;clear p a)
   |(go_at_call 134;refine(J _).via λR k=>?_;have⟨S,ad⟩:=kw k;have T:w.heap.size+1<R.heap.size:=np D k.size)
   |(go_at_call 133;refine(K _ _ _ C.o _ k).via λae E=>?_;have⟨U,af⟩:=kw E))
  exact ni (v:=fC #[fD #[hh kq,fY 0,fY 0],fY 4]) (by simp[results,results136,go_sem,M,P,Q,S,U,z,D,T]) fX ⟨fX,v,o,w3,gS A c,j,C,by
   apply Dp<|gS k E
   repeat(first|exact Ha _ _|(apply sk))⟩
theorem Yd(t)(i j l m Z u z A B C)(d:fu->fq->fq->Prop)(x)(k:Nat)(y:fV)(w)
  (ac:∀W,(Op.equalIn 10000 147 (fD<|ml i j l m Z)<|fD (ml kq kq kq kq kq)).run prog W=.ok fo W)
  (L:∀W,ik 132 #[fD<|ml i j l m Z] W<|ut (fD<|ml u z A B C) W)
  (M:∀W,ju w W->ik 131 #[ie t,fD<|ml u z A B C] W λe H=>∃gb a f,e=pD #[my gb 0 a f,fY 0]/\d (my gb 0 a f) W H)
  (N:∀W,ik 134 #[fD<|ml i j l m Z] W<|ut (hh x) W)
  (P:∀v W w3,d v W w3->∀p,ju w3 p->ik 133 #[v,hh x] p (ut (fC #[fY (k:Int),fE fm]) p))
  (Q:∀gb a f W w3,d (my gb 0 a f) W w3->gb<w3.heap.size/\k<a/\a<=16/\w3.c gb (k*3)=fh (hh y.1)/\w3.c gb (k*3+1)=fh (fY y.2.1)/\w3.c gb (k*3+2)=fh (fY y.2.2))
  (R:∀v W w3,d v W w3->xz w W w3):
  ik 136 #[ie t,fD<|ml i j l m Z] w λe H=>e=pD #[fD #[hh y.1,fY y.2.1,fY y.2.2],fY 0]/\∃v W w3,ju w W/\w.heap.size+1<W.heap.size/\d v W w3/\w3.grownBy H (fh<|w.heap.size+1):=by
 have q:=λW=>QR W;unfold ln jn at q;simp only[tQ]at q;go_enter func136,ntmps136;go_wp2
 go_region_with(go_at_call 75;refine(q _).via λO r=>?_;have⟨S,ad⟩:=kw r;have⟨T,D⟩:=uF r)
 all_goals
  have E:=gS (il<|((mi _ _).alloc (lw _) _).alloc (by simp) _) r;go_wp2_with(first
   |(go_at_call 132;refine(L _).via λs g=>?_;obtain⟨U,ae⟩:=kw g;have n:w.heap.size+1<s.heap.size:=np D g.size;have F:w.heap.size<s.heap.size:=np T g.size)
   |(go_at_call 131;refine(M _<|gS E g).mono ?_;rintro e w3 ⟨gb,a,f,rfl,o⟩;have c:=R _ _ _ o;have⟨V,af,ag,ah,ai,aj⟩:=Q _ _ _ _ _ o;have ak:=c.cell (lw _) F;have X:=c.cell (b:=w.heap.size+1) (by omega) n;have al:=c.frozen (b:=w.heap.size+1) (by omega) n;have G:fe _:=o;have am:w.heap.size<w3.heap.size:=np F c.1;have I:w.heap.size+1<w3.heap.size:=np n c.1;clear o c)
   |(go_at_call 134;refine(N _).via λJ h=>?_;have⟨Y,an⟩:=kw h;have aa:w.heap.size+1<J.heap.size:=np I h.size;have ao:gb<J.heap.size:=np V h.size)
   |(go_at_call 133;refine(P _ _ _ G.o _ h).via λap K=>?_;obtain⟨ab,aq⟩:=kw K))
  exact ni (v:=fC #[fD #[hh y.1,fY y.2.1,fY y.2.2],fY 0]) (by simp[results,results136,go_sem,S,U,X,Y,ab,D,I,aa]) fX ⟨fX,_,s,w3,gS E g,n,G,by
   refine Dp (gS h K) ?_
   repeat(first|exact Ha _ _|(refine sk ?_))⟩
def hdn(t)(b c d f Z a)(k id g:Int)(h:fq->fq->Prop)(w)(n:(g==0)=fo)
  (i:∀W,ju w W->ik 136 #[ie t,fD<|ml b c d f Z] W λe H=>e=pD #[fD #[hh a,fY k,fY id],fY g]/\h W H):
  ik 131 #[ie t,fD<|ml b c d f Z] w λe H=>e=pD #[fy fj 0 0,fY g]/\∃W w3,ju w W/\h W w3/\ju w3 H:=by
 have l:=i _<|(mi w.heap.size w).alloc (lw _) (.cells (ml b c d f Z) 147);clear i;go_enter func131,ntmps131;go_wp2_with(go_at_call 136;refine l.mono ?_;rintro e w3 ⟨rfl,j⟩;have m:fe _:=j;clear j);go_ret2;exact⟨fX,_,w3,(mi w.heap.size w).alloc (lw _) _,m,by repeat(first|exact mi _ _|(refine WO ?_ (by simp) _)|(refine wB ?_ (by simp) _))⟩
theorem look_ok(t)(f g h i Z a)(k id:Int)(j:fq->fq->Prop)(m:fu->Int->fq->fq->Prop)(w)
  (n:∀W,ju w W->ik 136 #[ie t,fD<|ml f g h i Z] W λe H=>e=pD #[fD #[hh a,fY k,fY id],fY 0]/\j W H)
  (p:∀W w3,j W w3->∀c,ju w3 c->ik 187 #[ie t,fD<|ml f g h i Z,fD #[hh a,fY k,fY id]] c λe H=>∃v b,e=pD #[v,fY b]/\m v b c H)
  (q:∀W w3,j W w3->xz w W w3):
  ik 131 #[ie t,fD<|ml f g h i Z] w λe H=>∃v b W w3 c,ju w W/\j W w3/\ju w3 c/\e=pD #[v,fY b]/\m v b c H:=by
 have r:=n _<|(mi w.heap.size w).alloc (lw _) (.cells (ml f g h i Z) 147);clear n;go_enter func131,ntmps131;go_wp2_with(first
  |(go_at_call 136;refine r.mono ?_;rintro e w3 ⟨rfl,l⟩;have d:=q _ _ l;have u:=d.cell (lw _) (by simp);have x:w.heap.size<w3.heap.size:=np (by simp) d.1;have o:fe _:=l;clear l d)
  |(go_at_call 187;refine(p _ _ o _ (by repeat(first|exact mi _ _|(refine WO ?_ (by simp) _)|(refine wB ?_ (by simp) _)))).mono ?_;rintro e y ⟨v,b,rfl,d⟩;have s:fe _:=d;clear d))
 go_ret2;exact⟨v,b,_,w3,_,(mi w.heap.size w).alloc (lw _) _,o,by repeat(first|exact mi _ _|(refine WO ?_ (by simp) _)|(refine wB ?_ (by simp) _)),fX,s⟩
def oT (N:gF)(w:fq)(i:Nat)(v:fu)(es:List fV):Prop:=w.ownsRow 0 96 3 v (fv es) (flat es)/\∀g,v.ownBlock=fh g->N g=(i,3)\/N g=(i,5)
def VB(w:fq):w.ownsRow 0 96 3 (fy fj 0 0) (fv ([]:List fV)) (flat []):=⟨fX,.inl ⟨fX,fX⟩⟩
theorem oT.nil(N)(w)(i):oT N w i (fy fj 0 0) []:=⟨VB w,λg a=>by simp[Value.ownBlock]at a⟩
theorem oT.below(a:oT N w i v es)(b:ju w H):oT N H i v es:=⟨gg a.1 λg c=>b.block g<|gc a.1 c,a.2⟩
theorem oT.shape(a:oT N w i v es):∃b n c,v=fy b n c:=by
 rcases a.1.2 with⟨e,_⟩|⟨d,_⟩
 all_goals grind
theorem gG.look{od:fT->Option (List fV)}(b:gG N w i B od I J)(c:Good q)(d:ju w W):
  (Instr.lookup 162 (.map<|fh B.oD) (fD<|jn q) fo).run prog W=.ok (((od q).map λ_=>J q).getD<|fy fj 0 0) W:=by
 obtain⟨n,_,e,a,_⟩:=b.map
 have:=(a.keep (H:=W)<|d.block _ a.lt).look yV underlying162 (CC W)<|Bt c
 grind
theorem mr{P:Nat×Nat->Prop}(a:ju w W)(m:fI P N M W H):fI P N M w H:=(fI.fJ a).trans m
theorem oT.aaX(c:oT N w i v es)(d:∀v es k,(k=3\/k=5)->oN N w (i,k) v es->oN M H (i,k) v es):oT M H i v es:=by
 rcases f:v.ownBlock with _|b
 have:=d v es 3 (.inl fX) ⟨c.1,λg a=>by rw[f]at a;cases a⟩
 exact⟨this.1,λg a=>.inl<|this.2 g a⟩;have h:∀g,v.ownBlock=fh g->g=b:=λg a=>by rw[f]at a;exact(rF a).symm
 rcases c.2 b f with e|e
 have:=d v es 3 (.inl fX) ⟨c.1,λg a=>by rw[h g a];exact e⟩
 exact⟨this.1,λg a=>.inl<|this.2 g a⟩
 have:=d v es 5 (.inr fX) ⟨c.1,λg a=>by rw[h g a];exact e⟩
 exact⟨this.1,λg a=>.inr<|this.2 g a⟩
theorem Bu(f:fZ N w s i p B A g I)(z:I<1099511627776)(C:Good q)(D:oQ A e):
  ik 187 #[ie B.bt,fD<|jn q,fD #[hh e.1,fY e.2.1,fY e.2.2]] w λj H=>∃v,j=pD #[v,fY (mz A g.ft g.fs q e).2.1]/\
   ∃M,fI (gC i) N M w H/\fZ M H s i p B A { g with fs:=(mz A g.ft g.fs q e).1 } (I+1)/\oT M H i v (mz A g.ft g.fs q e).2.2/\∀v es,oT N w i v es->oT M H i v es:=by
 obtain⟨h,k,id⟩:=e;have u:B.bt<w.heap.size:=(lW.1 f.wp.tree.ht).1;by_cases d:k=2;subst d;by_cases hid:id=0;subst hid;have l:mz A g.ft g.fs q (h,2,0)=(g.fs,0,(g.ft.od q).getD []):=fX;rw[l];obtain⟨J,x⟩:=f.wp.qj;have E:w.c B.bt 8=fh (.map<|fh B.oD):=by simp[World.cell?,f.wp.tree.ht]
 refine(hdf B.bt B.oD _ _ _ _ _ h _ w u E λW a=>x.look C a).mono ?_;rintro j H ⟨rfl,a⟩;refine⟨_,fX,N,fI.fJ a,(f.below a).mono<|jh _,?_,λ_ _ c=>c.below a⟩;rcases F:g.ft.od q with _|es
 exact oT.nil _ _ _;have b:=x.row q es F;exact oT.below ⟨b.1,λr t=>.inr<|b.2 r t⟩ a;have G:=D.2 hid;have c2:w.c B.bt 2=fh (ie B.sD):=by simp[World.cell?,f.wp.tree.ht,ptr]
 have l:mz A g.ft g.fs q (h,2,id)=if(g.fs.ij id).2 then((g.fs.ij id).1,0,fQ A id) else((g.fs.ij id).1,14,[]):=by
  grind [mz,Int,hid]
 refine(hdj B.bt B.sD _ _ _ _ _ h id (λv y W H=>y=(if(g.fs.ij id).2 then 0 else 14)/\∃M,fI (gC i) N M W H/\fZ M H s i p B A { g with fs:=(g.fs.ij id).1 } (I+1)/\(if(g.fs.ij id).2 then oN M H (i,3) v (fQ A id)else v=fy fj 0 0)/\∀v es,oT N W i v es->oT M H i v es) w u c2 hid λW a=>(jup (f.below a) z G).mono ?_).mono ?_;rintro j H ⟨v,rfl,M,m,n,b,d⟩;exact⟨v,_,fX,fX,M,m,n,b,λv es c=>oT.aaX c d⟩;rintro j H ⟨v,y,W,a,rfl,rfl,M,m,n,b,d⟩;rw[l];by_cases o:(g.fs.ij id).2=fm;rw[lv o]at b |-;rw[lv o];exact⟨v,fX,M,mr a m,n,⟨b.1,λr t=>.inl<|b.2 r t⟩,λv es c=>d v es<|c.below a⟩;rw[km o]at b |-;rw[km o];subst b;exact⟨_,fX,M,mr a m,n,oT.nil _ _ _,λv es c=>d v es<|c.below a⟩;have l:mz A g.ft g.fs q (h,k,id)=(g.fs,5,[]):=by unfold mz;rw[lv d]
 rw[l];refine(hdc B.bt _ _ _ _ _ h k id w d).mono ?_;rintro j H ⟨rfl,a⟩;exact⟨_,fX,N,fI.fJ a,(f.below a).mono<|jh _,oT.nil _ _ _,λ_ _ c=>c.below a⟩
theorem xA(a:fZ N w s i p B A g I)(b:I<1099511627776)(c:Good q)(d:oQ A e):
  ik 187 #[ie B.bt,fD<|jn q,fD #[hh e.1,fY e.2.1,fY e.2.2]] w λf H=>∃v,f=pD #[v,fY (mz A g.ft g.fs q e).2.1]/\
   ∃M,fI (gC i) N M w H/\fZ M H s i p B A { g with fs:=(mz A g.ft g.fs q e).1 } (I+1)/\oT M H i v (mz A g.ft g.fs q e).2.2:=
 (Bu a b c d).mono λ_ _⟨v,h,M,j,k,l,_⟩=>⟨v,h,M,j,k,l⟩
theorem zV(o:Sound A)(j:aaG A ft)(k:∀p es,ft.od p=fh es->fO es/\fv es<=16)(fs):∀a,((findF A ft fs a).2.1=0->oQ A (findF A ft fs a).2.2)/\(∀e∈(gw A ft fs a).2.2,oQ A e)/\fO (gw A ft fs a).2.2/\(gw A ft fs a).2.2.length<=16:=by
 have t:∀a,((findF A ft fs a).2.1=0->oQ A (findF A ft fs a).2.2)->(∀e∈(gw A ft fs a).2.2,oQ A e)/\fO (gw A ft fs a).2.2/\(gw A ft fs a).2.2.length<=16:=by
  intro a g;unfold gw;by_cases b:(findF A ft fs a).2.1≠0;simp only[lv b];exact⟨by simp,List.Pairwise.nil,by simp⟩;simp only[km b];have d:=g<|oL.1 b;unfold mz;by_cases h:(findF A ft fs a).2.2.2.1≠2;rw[lv h];exact⟨by simp,List.Pairwise.nil,by simp⟩;rw[km h];by_cases hid:(findF A ft fs a).2.2.2.2=0;rw[lv hid];rcases i:ft.od (fx a) with _|es
  exact⟨by simp,List.Pairwise.nil,by simp⟩;exact⟨j.od _ es i,(k _ es i).1,(k _ es i).2⟩;rw[km hid];by_cases l:((findF A ft fs a).1.ij (findF A ft fs a).2.2.2.2).2=fm;rw[lv l];obtain⟨q,r,m⟩:=o.2 _<|(d.2 hid).trans (oL.1 h);exact⟨λe d=>⟨(m e d).2.1,λ_=>(m e d).2.2.1⟩,q,r⟩;rw[km l];exact⟨by simp,List.Pairwise.nil,by simp⟩
 have u:∀a,(findF A ft fs a).2.1=0->oQ A (findF A ft fs a).2.2:=by
  intro a
  induction a with
  |nil=>exact λ_=>⟨.inr fX,j.root⟩
  |cons n a v=>
   intro b;rw[pF]at b |-;by_cases s:(gw A ft fs a).2.1≠0
   ·all_goals grind
   rw[km s]at b |-;cases f:qG (gw A ft fs a).2.2 n with
   |none=>rw[f]at b;simp at b
   |some c=>
    simp only;have w:(n,c)∈(gw A ft fs a).2.2:=by
     unfold qG at f;rcases g:(gw A ft fs a).2.2.find? (λx=>decide (x.1=n))with _|x
     rw[g]at f;simp at f
     all_goals grind
    all_goals grind
 all_goals grind
theorem Ye(a:w.grownBy H (fh b))(d:N b=(0,0)):fI (λt=>t=(0,0)) N N w H:=
 ⟨a.os,a.tape,a.output,a.size,λ_ _=>rfl,λk c f=>a.block k c λe=>f (by cases e;exact d),λg k c=>g k<|wy a.size c⟩
theorem fZ.own(a:fZ N w s i p B A g I)(c:w.grownBy H (fh b))(d:N b=(0,0)):fZ N H s i p B A g I:=by
 have U:=a.two;have m:=Ye c d;exact⟨a.two,a.st.moves m (λe=>by cases e) (λe=>by cases e),a.wp.moves m (λk e=>by cases e;omega)⟩
theorem SP(U:2<=i)(c:lG N w)(m:fI (Mine i) N M W w3):xz w W w3:=
 ⟨m.size,λb d e=>m.block b e (by rw[c b d];rintro(a|a)<;>simp at a;omega)⟩
theorem Bv(U:2<=i)(a:lG N w)(m:fI (gC i) N M W w3):xz w W w3:=SP U a (m.mono λ_ b=>b.mine)
def mG (s i p:Nat)(B:WB)(A:List Ob)(N:gF)(w H:fq)(a:WG)(I:Nat):Prop:=∃M,fI (gC i) N M w H/\fZ M H s i p B A a I
theorem Bw{g c}(j:fZ N w s i p B A g I)(l:ju w W)(n:w.heap.size+1<W.heap.size)(o:mG s i p B A N W w3 c jf)(a:w3.grownBy H (fh<|w.heap.size+1)):mG s i p B A N w H c jf:=by
 have⟨M,m,d⟩:=o;have f:=(m.tags _ n).trans<|j.st.fresh _ (by omega);have b:=mr l m;refine⟨M,⟨a.os.trans b.os,a.tape.trans b.tape,a.output.trans b.output,wy b.size a.size,b.tags,λk h q=>(a.block k (np h b.size) (λe=>by cases e;omega)).trans<|b.block k h q,λr=>(d.own a f).st.fresh⟩,d.own a f⟩
def VD (s i p:Nat)(B:WB)(A:List Ob)(a:fT):Prop:=∀(N:gF)(w:fq)(g:WG)(I:Nat),fZ N w s i p B A g I->I+10<1099511627776->Good (fx a)->
 Calls prog 136 #[fB<|fh ⟨B.bt,0,fj⟩,fD<|jn (fx a)] w λb H=>b=fF (fC #[fD #[fA (findF A g.ft g.fs a).2.2.1,.int .i64 (findF A g.ft g.fs a).2.2.2.1,.int .i64 (findF A g.ft g.fs a).2.2.2.2],.int .i64 (findF A g.ft g.fs a).2.1])/\
  mG s i p B A N w H { g with fs:=(findF A g.ft g.fs a).1 } (I+fv a)
def hds (s i p:Nat)(B:WB)(A:List Ob)(a:fT):Prop:=∀(N:gF)(w:fq)(g:WG)(I:Nat),fZ N w s i p B A g I->I+10<1099511627776->Good (fx a)->
 Calls prog 131 #[fB<|fh ⟨B.bt,0,fj⟩,fD<|jn (fx a)] w λb H=>∃v,b=fF (fC #[v,.int .i64 (gw A g.ft g.fs a).2.1])/\
  ∃M,fI (gC i) N M w H/\fZ M H s i p B A { g with fs:=(gw A g.ft g.fs a).1 } (I+fv a+1)/\oT M H i v (gw A g.ft g.fs a).2.2
theorem fZ.rising(c:fZ N w s i p B A g I):∀q es,g.ft.od q=fh es->fO es/\fv es<=16:=by
 have⟨J,a⟩:=c.wp.qj;exact λq es b=>⟨(a.good q es b).2.1,(a.good q es b).2.2.1⟩
theorem VF(a)(hF:VD s i p B A a):hds s i p B A a:=by
 intro N w g I c l e;have C:fv a<=5:=by have:=e.len;simpa using this
 have⟨f1,_⟩:=zV c.st.sound c.wp.ok c.rising g.fs a;by_cases o:(findF A g.ft g.fs a).2.1=0;have h:gw A g.ft g.fs a=mz A g.ft (findF A g.ft g.fs a).1 (fx a) (findF A g.ft g.fs a).2.2:=by
  grind [gw,findF]
 refine(look_ok B.bt _ _ _ _ _ (findF A g.ft g.fs a).2.2.1 (findF A g.ft g.fs a).2.2.2.1 (findF A g.ft g.fs a).2.2.2.2 (λW w3=>ju w W/\mG s i p B A N W w3 { g with fs:=(findF A g.ft g.fs a).1 } (I+fv a))
  (λv q r H=>q=(gw A g.ft g.fs a).2.1/\∃M,fI (gC i) N M w H/\fZ M H s i p B A { g with fs:=(gw A g.ft g.fs a).1 } (I+fv a+1)/\oT M H i v (gw A g.ft g.fs a).2.2) w (λW b=>?_) (λW w3 j r b=>?_) λW w3 j=>?_).mono ?_
 apply (hF N W g I (c.below b) l e).mono
 grind
 have⟨m,k,d,f⟩:=j;apply (xA (f.below b) (by omega) e<|f1 o).mono;rintro t H ⟨v,rfl,u,x,y,z⟩;rw[h];exact⟨v,_,fX,fX,u,(mr m d).trans<|mr b x,y,z⟩;have⟨m,k,d,f⟩:=j;exact Bv c.two c.st.fresh d
 grind
 have h:gw A g.ft g.fs a=((findF A g.ft g.fs a).1,(findF A g.ft g.fs a).2.1,[]):=by
  grind [gw]
 rw[h];apply (hdn B.bt _ _ _ _ _ _ _ _ (findF A g.ft g.fs a).2.1 (λW w3=>mG s i p B A N W w3 { g with fs:=(findF A g.ft g.fs a).1 }<|I+fv a) w (by grind) λW b=>hF N W g I (c.below b) l e).mono;rintro t H ⟨rfl,W,w3,b,⟨k,d,f⟩,n⟩;exact⟨_,fX,k,(mr b d).trans<|fI.fJ n,(f.below n).mono<|jh _,oT.nil _ _ _⟩
theorem hdt:VD s i p B A []:=by
 intro N w g I a d e;have c:=(lW.1 a.wp.tree.ht).1;apply (Yb B.bt g.ft.root w c (by simp[World.cell?,a.wp.tree.ht]) (by simp[World.cell?,a.wp.tree.ht]) (by simp[World.cell?,a.wp.tree.ht])).mono;rintro f H ⟨rfl,b⟩;exact⟨fX,N,fI.fJ b,a.below b⟩
theorem Yf(n:fP)(a)(Q:hds s i p B A a):VD s i p B A (n::a):=by
 intro N w g I d R k;have S:fx (n::a)=fx a++[n]:=kz;rw[S]at k |-;have J:fx a++[n]≠[]:=by simp
 have T:Good (fx a):=by have:=k.dropLast;rwa [wo]at this
 have ae:fv a<=4:=by have:=k.len;simp at this;omega
 have y:∀W,(Op.equalIn 10000 147 (ln<|fx a++[n])<|ln []).run prog W=.ok fo W:=λW=>by
  have:=gX k Good.nil W
  rwa [yv J]at this
 have t:=λW=>jr (fx a++[n]) k W;have z:=λW=>mO (fx a++[n]) k J W;rw[wo]at t;simp only[KR]at z;obtain⟨_,af,K,L⟩:=zV d.st.sound d.wp.ok d.rising g.fs a;have C:∀(v:fu)(W w3:fq),(ju w W/\∃M,fI (gC i) N M W w3/\fZ M w3 s i p B A { g with fs:=(gw A g.ft g.fs a).1 } (I+fv a+1)/\oT M w3 i v (gw A g.ft g.fs a).2.2)->xz w W w3:=λv W w3⟨c,M,m,_,_⟩=>Bv d.two d.st.fresh m;have O:∀W,ju w W->ik 131 #[ie B.bt,fD<|jn (fx a)] W λl H=>∃v,l=pD #[v,fY (gw A g.ft g.fs a).2.1]/\
   (ju w W/\∃M,fI (gC i) N M W H/\fZ M H s i p B A { g with fs:=(gw A g.ft g.fs a).1 } (I+fv a+1)/\oT M H i v (gw A g.ft g.fs a).2.2):=λW c=>(Q N W g I (d.below c) R T).mono λl H⟨v,U,V⟩=>⟨v,U,c,V⟩
 have D:∀{H:fq}(v:fu)(W w3:fq),ju w W->w.heap.size+1<W.heap.size->(∃M,fI (gC i) N M W w3/\fZ M w3 s i p B A { g with fs:=(gw A g.ft g.fs a).1 } (I+fv a+1)/\oT M w3 i v (gw A g.ft g.fs a).2.2)->w3.grownBy H (fh<|w.heap.size+1)->mG s i p B A N w H { g with fs:=(gw A g.ft g.fs a).1 } (I+fv (n::a)):=λv W w3 c f⟨M,m,E,_⟩h=>Bw d c f ⟨M,m,E⟩ h;have u:∀(v:fu)(W w3:fq),(ju w W/\∃M,fI (gC i) N M W w3/\fZ M w3 s i p B A { g with fs:=(gw A g.ft g.fs a).1 } (I+fv a+1)/\oT M w3 i v (gw A g.ft g.fs a).2.2)->∀x,ju w3 x->ik 133 #[v,hh n] x (ut (fC #[fY (ub (gw A g.ft g.fs a).2.2 n:Nat),fE<|kB (gw A g.ft g.fs a).2.2 n]) x):=λv W w3⟨_,M,_,_,j⟩x c=>iG (j.below c).1 n K L;by_cases X:(gw A g.ft g.fs a).2.1=0
 ·have F:=O
  rw[X]at F;have P:=nj (n:=n) K;cases o:kB (gw A g.ft g.fs a).2.2 n with
  |false=>
   rw[o]at P;have q:findF A g.ft g.fs (n::a)=((gw A g.ft g.fs a).1,4,zE):=by
    all_goals grind [pF]
   rw[q];simp only[o]at u;refine(Yc B.bt _ _ _ _ _ _ _ _ _ _ _ n _ w y t F z u C).mono ?_;rintro l H ⟨rfl,v,W,w3,c,f,⟨_,r⟩,h⟩;exact⟨fX,D v W w3 c f r h⟩
  |true=>
   have G:=um o;rw[o,lv fX,jH G,oV]at P;have ag:((gw A g.ft g.fs a).2.2[ub (gw A g.ft g.fs a).2.2 n]).1=n:=by
    grind [kB,jH]
   have q:findF A g.ft g.fs (n::a)=((gw A g.ft g.fs a).1,0,(gw A g.ft g.fs a).2.2[ub (gw A g.ft g.fs a).2.2 n]):=by
    all_goals grind [pF,gw,Int,HA]
   rw[q];simp only[o]at u;refine(Yd B.bt _ _ _ _ _ _ _ _ _ _ _ n _ ((gw A g.ft g.fs a).2.2[ub (gw A g.ft g.fs a).2.2 n]) w y t (λW c=>(F W c).mono ?_) z u ?_ C).mono ?_;rintro l H ⟨v,rfl,ah,M,m,E,j⟩;obtain⟨gb,Y,rfl⟩:=hZ j.1<|by omega
   grind
   ·rintro gb Z Y W w3 ⟨_,M,m,E,j⟩
    have aa:Z=(gw A g.ft g.fs a).2.2.length:=by
     rcases j.1.2 with⟨e,_⟩|⟨ai,_⟩
     all_goals grind
    subst aa;obtain⟨c0,c1,c2⟩:=zU (b:=gb) (λab ac ad=>by have:=ks j.1 ab ac ad;rwa [iO]at this) G;exact⟨gc j.1 fX,G,L,c0,c1,c2⟩
   rintro l H ⟨rfl,v,W,w3,c,f,⟨_,r⟩,h⟩;exact⟨fX,D v W w3 c f r h⟩
 have q:findF A g.ft g.fs (n::a)=((gw A g.ft g.fs a).1,(gw A g.ft g.fs a).2.1,zE):=by
  grind [pF]
 rw[q];refine(hdk B.bt _ _ _ _ _ _ _ _ _ _ _ (gw A g.ft g.fs a).2.1 (by grind) w y t O C).mono ?_;rintro l H ⟨rfl,v,W,w3,c,f,⟨_,r⟩,h⟩;exact⟨fX,D v W w3 c f r h⟩
theorem xB:∀a:fT,VD s i p B A a
 |[]=>hdt
 |n::a=>Yf n a<|VF a (xB a)
def uJ(r:fT):hds s i p B A r:=VF r<|xB r
theorem El{P:Program}{k:Act->fq->Prop}{p:Prop}
  (q:o.guard=fj)(s x:Operand)(t:lV)(r:o.op=Op.call { callee:=Callee.builtin Builtin.append,args:=#[s,x],argTypes:=#[t,t] })
  (e:lV)(i:TypeInfo)(b:Nat)(u:P.underlying t=fh (.slice e))(v:P.info? e=fh i)(y:i.size=b)
  (g n h)(d:Array fu)(z:a.eval s=my g 0 n h)(A:w.heap[g]?=fh (.cells d e (0,0)))
  (j:Addr)(m c:Nat)(Y:iN)(B:a.eval x=fy (fh j) m c)(C:fv Y=m*b)(D:∀l f,Y[l]?=fh f->w.cell? (j.add l)=fh f)(E:∀f∈Y,f.oneCell'=fm)
  (F:n+m<=h)(G:n*b+fv Y<=d.size)
  (H:k (a.put o.dst<|my g 0 (n+m) h) (w.setRow g (d.toList.take (n*b)++Y++d.toList.drop (n*b+fv Y)).toArray)):
  if Region.wanted o (yielded ops a.tmps)=fm then Oper.wp P o a w k Q else p:=by
 have I:Region.wanted o (yielded ops a.tmps)=fm:=by simp[Region.wanted,q]
 rw[lv I];subst y;unfold Oper.wp;simp[execOp,r,resolve,invoke,builtin,z,B,(run_append_room (P:=P) w t o.type e i u v g n h d A j m c Y C D E F G),Result.andThen];rwa [sL]at H
theorem SQ(w:fq)(d:lV)(g n c:Nat)(a:Array fu)(e:w.heap[g]?=fh (.cells a 96 (0,0)))(i:n*3+3<=a.size):
  (Builtin.clear_ #[55] d #[my g (n*3) 1 c]).run prog w=.ok (fC #[]) (w.setRow g (a.toList.take (n*3)++pA (kq,0,0)++a.toList.drop (n*3+3)).toArray):=by
 have f:(zeroValue 96).run prog w=.ok (fD #[hh kq,fY 0,fY 0]) w:=by kernel_rfl
 have h:(Builtin.zeroCells (Value.agg #[hh kq,fY 0,fY 0]).cells 1).toList=pA (kq,0,0):=by kernel_rfl
 have b:=run_storeCells_at prog g (n*3) 96 (pA (kq,0,0)) 0 a w e (by grind [pA])<|rx _;simp only[Ee]at b;simp[Builtin.clear_,WI underlying55,f,h,b];rfl
theorem nR(a b:List fV):flat (a++b)=flat a++flat b:=by simp[flat]
theorem zW(es:List fV)(k:Nat)(a:k<=fv es):flat (es.take k)=(flat es).take (k*3):=by
 grind [flat,nR,KP,Ec,ly,kV]
theorem zX(es:List fV)(k:Nat)(a:k<=fv es):flat (es.drop k)=(flat es).drop (k*3):=by
 have e:flat es=flat (es.take k)++flat (es.drop k):=by rw[<-nR,KP]
 grind [crc,ly,kV]
theorem hd2(g n c k:Nat)(es:List fV)(a:Array fu)(w:fq)(m:w.heap[g]?=fh (.cells a 96 (0,0)))(q:fv es=n)(af:k<n)(ag:n<=c)(M:c<=maxLen)(j:a.size=c*3)(r:a.toList.take (n*3)=flat es):
  ik 194 #[my g 0 n c,fY (k:Int),fY<|(k:Int)+1] w λe H=>e=fF (my g 0 (n-1) c)/\
   ∃s,H.heap[g]?=fh (.cells s 96 (0,0))/\s.size=c*3/\s.toList.take ((n-1)*3)=flat (es.eraseIdx k)/\w.grownBy H (fh g)/\H.heap.size=w.heap.size:=by
 have⟨N,U,ah,O,ai⟩:=kC Ck;unfold maxLen at M;have aj:k<=c:=by omega
 have ak:k+1<=c:=by omega
 obtain⟨Y,l⟩:=ol<|flat (es.drop<|k+1);have o:fv Y=(n-(k+1))*3:=by rw[l,ly,rG,q]
 have C:∀u d,(flat es)[u]?=fh d->w.c g u=fh d:=λu d b=>by
  rw[<-r,hId]at b;split at b;simp[World.cell?,m];simpa using b;cases b
 obtain⟨p,al,P⟩:∃p:Addr,(if c=k+1 then fh ((ii g 0):Addr)else fh (ii g<|(k+1)*3))=fh p/\fe (∀t d,Y[t]?=fh d->w.drew.cell? (p.add t)=fh d):=by
  by_cases D:c=k+1;refine⟨(ii g 0),by simp[D],λt d b=>?_⟩;have Q:fv Y=0:=by rw[o];omega
  rw[DY.1 Q]at b;simp at b;refine⟨(ii g<|(k+1)*3),by simp[D],λt d b=>?_⟩;rw[Rz];show w.cell? _=_;apply C _ _;rw[l,zX es (k+1)<|by omega,Wx]at b;exact b
 have R:fe (∀d∈Y,d.oneCell'=fm):=by
  intro d b;rw[l]at b;exact mH _ d b
 have E:k*3+fv Y<=a.size:=by rw[o,j];omega
 obtain⟨f,v⟩:=ol ((a.toList.take (k*3)++Y++a.toList.drop (k*3+fv Y)).toArray:Array fu);have y:f.size=c*3:=by
  rw[v];simp only[BW,lI,kV,rG,oW];omega
 obtain⟨h,z⟩:=ol<|w.drew.setRow g f;have A:h.heap[g]?=fh (.cells f 96 (0,0)):=by rw[z];exact Hz w.drew g _ _ 96 _ m
 have am:∀B,(Builtin.clear_ #[55] B #[my g ((n-1)*3) 1<|c-(n-1)]).run prog h=.ok (fC #[]) (h.setRow g (f.toList.take ((n-1)*3)++pA (kq,0,0)++f.toList.drop ((n-1)*3+3)).toArray):=
  λB=>SQ h B g (n-1) _ f A (by rw[y];omega)
 have i:fe (h=w.drew.setRow g f):=z;have F:fe (f=(a.toList.take (k*3)++Y++a.toList.drop (k*3+fv Y)).toArray):=v;have S:fe (Y=flat (es.drop<|k+1)):=l;have G:fe (fv Y=(n-(k+1))*3):=o;have T:fe (w.heap[g]?=fh (.cells a 96 (0,0))):=m;have V:fe (h.heap[g]?=fh (.cells f 96 (0,0))):=A;have W:fe (k*3+fv Y<=a.size):=E;have X:fe (a.toList.take (n*3)=flat es):=r;have Z:fe (f.size=c*3):=y;have aa:fe (a.size=c*3):=j;have ab:fe (fv es=n):=q;have c3:(0:Int)<=↑k+1:=by omega
 have c4:(↑k+1:Int)<=↑n:=by omega
 clear z v l o m A E r y j C q;go_enter func194,ntmps194;go_wp2_with fail
 go_region_law(refine El fX (.tmp 22) (.tmp 25) 55 fX 96 N 3 underlying55 U O g k c a (by simp[Act.eval,Act.put]) T p (n-(k+1)) (c-(k+1)) Y (by simp[Act.eval,Act.put]) G P R (by omega) W ?_;rw[<-F.o,<-i.o])
 all_goals
  have I:k+(n-(k+1))=n-1:=by omega
  have d1:((n-1:Nat):Int)<=(n:Int):=by omega
  have d2:n-(n-1)=1:=by omega
  have d3:¬c=n-1:=by omega
  have d4:(0:Int)<=((n-1:Nat):Int):=by omega
  have d5:(n:Int)<=(c:Int):=by omega
  simp only[I];clear I;go_wp2;go_ret;have J:=Z.o;have j:=aa.o;have an:=ab.o;have K:fv (f.toList.take<|(n-1)*3)=(n-1)*3:=by rw[kV,oW,J];omega
  refine⟨fX,_,Hz h g _ _ 96 _ V,?_,?_,?_,?_⟩;simp only[BW,lI,K,rG,oW,J,ji];omega;rw[Ec K,F.o];have ac:a.toList.take (k*3)=flat (es.take k):=by
   rw[zW es k<|by omega,<-X.o,List.take_take,EI<|by omega]
  have ad:fv (a.toList.take (k*3)++Y)=(n-1)*3:=by
   rw[lI,G.o,kV,oW,j];omega
  show List.take ((n-1)*3) (a.toList.take (k*3)++Y++a.toList.drop (k*3+fv Y))=_;rw[Ec ad,ac,S.o,<-nR,List.eraseIdx_eq_take_drop_succ];refine⟨by rw[i.o];rfl,by rw[i.o];rfl,by rw[i.o];rfl,by rw[i.o];simp,λx ao ae=>?_⟩;have L:x≠g:=λe=>ae (by rw[e])
  rw[EJ h g x _ L,i.o,EJ w.drew g x _ L];rfl;rw[i.o];simp
def LD:(prog.info? 96).map (·.size)=fh 3:=by kernel_rfl
def xC (w H:fq)(own:Option Nat)(n:Nat)(es:List fV)(e:Ending):Prop:=
 ∃g c,e=fF (fy (fh ⟨g,0,fj⟩) (n+1) c)/\H.ownsRow 0 96 3 (fy (fh ⟨g,0,fj⟩) (n+1) c) (n+1) (flat es)/\w.grownBy H own/\((fh g:Option Nat)=own\/w.heap.size<=g)
theorem Yg(g n c k i:Nat)(es:List fV)(x:fV)(b:Array fu)(w:fq)(p:w.heap[g]?=fh (.cells b 96 (0,0)))(C:fv es=n)(an:k<n)(W:n+1<=c)(X:c<=maxLen)(j:b.size=c*3)(D:b.toList.take (n*3)=flat es)
  (q:w.heap[i]?=fh (.cells #[hh x.1,fY x.2.1,fY x.2.2] 96 (0,0)))(O:i≠g):
  ik 193 #[my g 0 n c,fY (k:Int),my i 0 1 1] w λe H=>xC w H (fh g) n (es.take k++x::es.drop k) e:=by
 unfold maxLen at X;have Q:∀l E,(flat es)[l]?=fh E->w.c g l=fh E:=λl E u=>by
  rw[<-D,hId]at u;split at u;simp[World.cell?,p];simpa using u;cases u
 obtain⟨d,r⟩:=ol<|flat (es.drop k);have z:fv d=(n-k)*3:=by rw[r,ly,rG,C]
 have Y:∀F G,(callFunc 219 #[my i 0 1 1,my g ((k+1)*3) F G]).run prog w=.ok (.value<|fE fo) w:=λF G=>by
  rw[run_callFunc_extern func219 (by kernel_rfl) (by kernel_rfl) (by kernel_rfl) (e:=Extern.SlicesOverlaps.overlaps #[55,55] #[4])<|by kernel_rfl,
   Lib.run_overlaps_apart w 55 4 96 underlying55 3 (λw=>sizeOf34 w) (ii i 0) (ii g<|(k+1)*3) 1 1 F G O 96 96 3 b.size (by simp[World.shape?,q]) (by simp[World.shape?,p]) (by rw[j];omega) (by simp[World.frozen?,q]) (by simp[World.frozen?,q])]
  rfl
 obtain⟨a,A⟩:=ol ((b.toList.take ((k+1)*3)++d++b.toList.drop ((k+1)*3+fv d)).toArray:Array fu);have I:a.size=c*3:=by
  rw[A];simp only[BW,lI,kV,rG,oW];omega
 obtain⟨h,s⟩:=ol<|w.drew.setRow g a;have J:h.heap[g]?=fh (.cells a 96 (0,0)):=by rw[s];exact Hz w.drew g _ _ 96 _ p
 have K:Nat.min (n+1-k) (n-k)=n-k:=by simp only[Nat.min_def];split<;>omega
 have Z:∀m o L,(Builtin.copy_ #[55,55] m #[my g ((k+1)*3) (n-k) o,my g (k*3) (n+1-k) L]).run prog w.drew=.ok (goInt ((n-k:Nat):Int)) h:=λm o L=>by
  have:=qT (P:=prog) w.drew 55 55 m 96 3 g ((k+1)*3) (n-k) o (ii g<|k*3) (n+1-k) L b 96 d underlying55 LD p (by rw[K];exact z)
   (λl v f=>by rw[Rz];show w.cell? _=_;apply Q _ _;rw[r,zX es k<|by omega,Wx]at f;exact f) (by rw[z,j];omega) (by rw[r];exact mH _)
  rw[K]at this;rw[this,s,A]
 have B:h.heap[i]?=fh (.cells #[hh x.1,fY x.2.1,fY x.2.2] 96 (0,0)):=by rw[s,EJ w.drew g i _ O];exact q
 obtain⟨M,N⟩:=ol ((a.toList.take (k*3)++pA x++a.toList.drop (k*3+fv (pA x))).toArray:Array fu);have aa:∀m o,(Builtin.copy_ #[55,55] m #[my g (k*3) (n+1-k) o,my i 0 1 1]).run prog h=.ok (goInt ((1:Nat):Int)) (h.setRow g M):=λm o=>by
  have R:Nat.min 1 (n+1-k)=1:=by simp only[Nat.min_def];split<;>omega
  have:=qT (P:=prog) h 55 55 m 96 3 g (k*3) (n+1-k) o (ii i 0) 1 1 a 96 (pA x) underlying55 LD J (by rw[R];rfl)
   (λl v f=>by rw[Rz];match l,f with
    |0,f=>simpa [World.cell?,B,pA]using f
    |1,f=>simpa [World.cell?,B,pA]using f
    |2,f=>simpa [World.cell?,B,pA]using f
    |l+3,f=>simp[pA]at f) (by rw[ji,I];omega) (rx x)
  rw[R]at this;rw[this,N]
 have ao:¬((k:Int)=(n:Int)):=by omega
 have ap:IntKind.i64.wrap ((k:Int)+1)=(k:Int)+1:=by rw[Cb];omega
 have aq:(0:Int)<=(k:Int)+1:=by omega
 have ar:(k:Int)+1<=(n:Int)+1:=by omega
 have au:(k:Int)<=(n:Int)+1:=by omega
 have av:¬c=k+1:=by omega
 have aw:¬c=k:=by omega
 have ax:((k:Int)+1).toNat=k+1:=by omega
 have t:fe (h=w.drew.setRow g a):=s;have S:fe (a=(b.toList.take ((k+1)*3)++d++b.toList.drop ((k+1)*3+fv d)).toArray):=A;have T:fe (M=(a.toList.take (k*3)++pA x++a.toList.drop (k*3+fv (pA x))).toArray):=N;have ab:fe (d=flat (es.drop k)):=r;have ac:fe (fv d=(n-k)*3):=z;have ad:fe (h.heap[g]?=fh (.cells a 96 (0,0))):=J;have ae:fe (b.toList.take (n*3)=flat es):=D;have af:fe (a.size=c*3):=I;have ag:fe (b.size=c*3):=j;have ah:fe (fv es=n):=C;clear s A N r z J D I j Q C B K q p;go_enter func193,ntmps193;go_wp2_with(simp only[Y])
 go_region_law(apply Io fX _ _ 55 55 fX _ _ (by simp[Act.eval,Act.put]) (by simp[Act.eval,Act.put]) (Z _ _ _))
 all_goals
  go_wp2_with(at_builtin;apply OL _ fX _ _ 55 55 fX _ _ fX rfl<|aa _ _);go_ret;have U:=af.o;have j:=ag.o;have ay:=ah.o;have ai:fv (a.toList.take<|k*3)=k*3:=by rw[kV,oW,U];omega
  refine⟨g,c,fX,⟨by rw[ly];simp;omega,.inr ⟨g,c,M,fX,zt _,Hz h g _ _ 96 _ ad,W,by unfold maxLen;omega,?_,?_⟩⟩,?_,.inl fX⟩;rw[T.o];simp only[BW,lI,ai,rG,oW,U,ji];omega;rw[T.o];show List.take ((n+1)*3) (a.toList.take (k*3)++pA x++a.toList.drop (k*3+fv (pA x)))=_;have aj:a.toList.take (k*3)=flat (es.take k):=by
   rw[S.o];show List.take (k*3) (b.toList.take ((k+1)*3)++d++b.toList.drop ((k+1)*3+fv d))=_;rw[sL,blt (by rw[kV,oW,j];omega),List.take_take,EI<|by omega,zW es k<|by omega,<-ae.o,List.take_take,EI<|by omega]
  have ak:(a.toList.drop<|k*3+fv (pA x)).take ((n-k)*3)=flat (es.drop k):=by
   rw[S.o];show List.take ((n-k)*3) (List.drop (k*3+fv (pA x))<|b.toList.take ((k+1)*3)++d++b.toList.drop ((k+1)*3+fv d))=_;have al:fv (b.toList.take<|(k+1)*3)=(k+1)*3:=by rw[kV,oW,j];omega
   rw[show k*3+fv (pA x)=(k+1)*3 by rw[ji];omega,sL,crc al,Ec ac.o,ab.o]
  rw[aj,nR,show flat (x::es.drop k)=pA x++flat (es.drop k)from fX,<-sL,List.take_append,oJ (by rw[lI,ly,ji,kV];omega)]
  congr 1
  rw[show(n+1)*3-fv (flat (es.take k)++pA x)=(n-k)*3 by rw[lI,ly,ji,kV];omega];exact ak;refine⟨by rw[t.o];rfl,by rw[t.o];rfl,by rw[t.o];rfl,by rw[t.o];simp,λy az am=>?_⟩;have V:y≠g:=λe=>am (by rw[e])
  rw[EJ h g y _ V,t.o,EJ w.drew g y _ V];rfl
theorem kmm(v:fu)(n d:Nat)(es)(x:fV)(w:fq)(f:ig)(c)(z:v=fy f n c)(l:w.ownsRow 0 96 3 v n (flat es))(C:fv es=n)(D:n<=16)
  (i:w.heap[d]?=fh (.cells #[hh x.1,fY x.2.1,fY x.2.2] 96 (0,0)))(E:n<=c)(F:c<=maxLen):
  ik 193 #[fy f n c,fY (n:Int),my d 0 1 1] w λe H=>xC w H (Value.slice f n c).ownBlock n (es++[x]) e:=by
 subst z;have⟨m,U,o,p,q⟩:=kC Ck;have r:fe (w.ownsRow 0 96 3 (fy f n c) n<|flat es):=l;have s:∀b h,(pA x)[b]?=fh h->w.cell? (((ii d 0):Addr).add b)=fh h:=λb h a=>by
  rw[Rz]
  match b,a with
  |0,a=>simpa [World.cell?,i,pA]using a
  |1,a=>simpa [World.cell?,i,pA]using a
  |2,a=>simpa [World.cell?,i,pA]using a
  |b+3,a=>simp[pA]at a
 have t:fe (∀b h,(pA x)[b]?=fh h->w.cell? (((ii d 0):Addr).add b)=fh h):=s;clear l s i;by_cases A:c=n
 case' pos=>
  subst A;go_enter func193,ntmps193;go_wp2_with(first|(at_builtin;refine cfg _ fX (.tmp 23) (.tmp 24) 55 fX 0 96 m _ 3 32 underlying55 U o p q fX (by decide) (fy f c c) c (flat es) fX r.o (ii d 0) 1 1 (pA x) fX fX t.o (rx x) (by unfold maxLen;omega) (by omega) (zt _) ?_;intro B O j u _ y;obtain⟨g,R,rfl⟩:=hZ j<|by omega)|go_in)
 case' neg=>
  go_enter func193,ntmps193;go_wp2_with(first|(at_builtin;refine cfg _ fX (.tmp 23) (.tmp 24) 55 fX 0 96 m _ 3 32 underlying55 U o p q fX (by decide) (fy f n c) n (flat es) fX r.o (ii d 0) 1 1 (pA x) fX fX t.o (rx x) (by unfold maxLen;omega) (by omega) (zt _) ?_;intro B O j u _ y;obtain⟨g,R,rfl⟩:=hZ j<|by omega)|go_in)
 all_goals
  go_ret;refine⟨g,R,fX,?_,u,?_⟩;rw[nR];exact j;rcases y with k|k
  exact .inl k
  right
  have:g=w.heap.size:=by simpa [Value.ownBlock]using k
  omega
def wp_append_run(w){rest:List Oper}(f:o.guard=fj)(d s:Operand)(t b:lV)
  (g:o.op=.call { callee:=.builtin .append,args:=#[d,s],argTypes:=#[t,b] })(v c:fu)(h:a.eval d=v)(i:a.eval s=c){e:fu}
  (j:(Builtin.append_ #[t,b] o.type #[v,c]).run prog w=.ok e H)(k:wpList prog ops Q rest (a.put o.dst e) H):wpList prog ops Q (o::rest) a w:=by
 refine WL f λm l=>?_;unfold Oper.wp execOp;simp only[g,resolve,invoke,builtin,hyp,hys,hwp,List.map_toArray,lM,Cf,h,i,j];exact l _ _ k
def xD(m:Nat):(Builtin.zeroCells (Value.agg #[hh ByteArray.empty,fY 0,fY 0]).cells m).size=m*3:=by
 rw[size_zeroCells];rfl
theorem hel(g n k p:Nat)(es:List fV)(x:fV)(J:Array fu)(w:fq)(K:w.heap[g]?=fh (.cells J 96 (0,0)))(L:fv es=n)(aE:k<n)(aF:n<=16)(ao:J.size=n*3)(ab:J.toList.take (n*3)=flat es)
  (M:w.heap[p]?=fh (.cells #[hh x.1,fY x.2.1,fY x.2.2] 96 (0,0))):
  ik 193 #[my g 0 n n,fY (k:Int),my p 0 1 1] w λe H=>xC w H (fh g) n (es.take k++x::es.drop k) e:=by
 have⟨ac,U,ad,ae,N⟩:=kC Ck;have ap:g<w.heap.size:=(lW.1 K).1;have aq:p<w.heap.size:=(lW.1 M).1;have O:∀j Q,(flat es)[j]?=fh Q->w.c g j=fh Q:=λj Q C=>by
  rw[<-ab,hId]at C;split at C;simp[World.cell?,K];simpa using C;cases C
 have hold:(Builtin.firstCells ac.size k<|my g 0 k n).run prog w.drew=.ok (flat<|es.take k).toArray w.drew:=by
  rw[ae];exact run_firstCells_some w.drew 3 k (ii g 0) k n (flat<|es.take k) (by rw[ly,kV];omega) (λj v c=>by
   rw[Rz,iO];rw[zW es k<|by omega,hId]at c;split at c;exact O j v c;cases c)
 obtain⟨f,D⟩:=ol<|grownCap w (n+1) n 96;have ar:n+1<=f:=by rw[D];exact grownCap_ge w _ _ _
 have R:f<=maxLen:=by rw[D];exact grownCap_le_maxLen w (n+1) n 96 (by unfold maxLen;omega)
 obtain⟨m,E⟩:=ol ((flat<|es.take k).toArray++Builtin.zeroCells (Value.agg #[hh ByteArray.empty,fY 0,fY 0]).cells (n+1-k)++Builtin.zeroCells (Value.agg #[hh ByteArray.empty,fY 0,fY 0]).cells (f-(n+1)):Array fu);have S:m.size=f*3:=by
  rw[E,Array.size_append,Array.size_append,xD,xD,BW,ly,kV];omega
 have af:m.toList.take (k*3)=flat (es.take k):=by
  rw[E,Array.append_assoc,Array.toList_append];show List.take (k*3) (flat (es.take k)++_)=_;rw[Ec (by rw[ly,kV];omega)]
 obtain⟨h,q⟩:=ol<|w.drew.alloc (.cells m 96);have au:∀i,(Builtin.append_ #[55,3] i #[my g 0 k n,fY<|(n:Int)+1-(k:Int)]).run prog w=.ok (my w.heap.size 0 (n+1) f) h:=λi=>by
  have ag:k+(n+1-k)=n+1:=by omega
  have ah:=Lib.run_append_grow_zeros w 55 3 i 96 ac _ .i64 .i64 underlying55 underlying3 U ad (fh<|ii g 0) k n (flat<|es.take k) hold (n+1-k) (by omega) (by omega) (by omega) (by omega) (by rw[N];omega) (by rw[N,ag];exact growslice_fits (by omega)<|by omega);rw[ag]at ah;rw[show(n:Int)+1-(k:Int)=((n+1-k:Nat):Int) by omega,ah,q,E,D]
 have T:h.heap[w.heap.size]?=fh (.cells m 96 (0,0)):=by rw[q];exact Array.getElem?_push_size
 have V:∀b,b<w.heap.size->h.heap[b]?=w.heap[b]?:=λb av=>by rw[q];exact sG _ _ _ av
 have⟨l,F⟩:=ol ((m.toList.take (k*3)++pA x++m.toList.drop (k*3+fv (pA x))).toArray:Array fu);have G:l.size=f*3:=by
  rw[F];simp only[BW,lI,kV,rG,oW,S,ji];omega
 have⟨d,r⟩:=ol<|h.setRow w.heap.size l;have aw:∀i o,(Builtin.copy_ #[55,55] i #[my w.heap.size (k*3) (n+1-k) o,my p 0 1 1]).run prog h=.ok (goInt ((1:Nat):Int)) d:=λi o=>by
  have s:Nat.min 1 (n+1-k)=1:=by simp only[Nat.min_def];split<;>omega
  have X:=(V p aq).trans M
  have:=qT (P:=prog) h 55 55 i 96 3 w.heap.size (k*3) (n+1-k) o (ii p 0) 1 1 m 96 (pA x) underlying55 LD T (by rw[s];rfl)
   (λj v c=>by rw[Rz];match j,c with
    |0,c=>simpa [World.cell?,X,pA]using c
    |1,c=>simpa [World.cell?,X,pA]using c
    |2,c=>simpa [World.cell?,X,pA]using c
    |j+3,c=>simp[pA]at c) (by rw[ji,S];omega) (rx x)
  rw[s]at this;rw[this,r,F]
 have Y:d.heap[w.heap.size]?=fh (.cells l 96 (0,0)):=by rw[r];exact Hz h _ _ _ 96 _ T
 have⟨I,t⟩:=ol<|flat (es.drop k);have u:fv I=(n-k)*3:=by rw[t,ly,rG,L]
 obtain⟨z,Z⟩:=ol ((l.toList.take ((k+1)*3)++I++l.toList.drop ((k+1)*3+fv I)).toArray:Array fu);have ax:∀i o aa,(Builtin.copy_ #[55,55] i #[my w.heap.size ((k+1)*3) (n-k) o,my g (k*3) (n-k) aa]).run prog d.drew=.ok (goInt ((n-k:Nat):Int)) (d.drew.setRow w.heap.size z):=λi o aa=>by
  have s:Nat.min (n-k) (n-k)=n-k:=Nat.min_self _;have ay:d.heap[g]?=w.heap[g]?:=by rw[r,EJ h _ g _<|by omega,V g ap]
  have:=qT (P:=prog) d.drew 55 55 i 96 3 w.heap.size ((k+1)*3) (n-k) o (ii g<|k*3) (n-k) aa l 96 I underlying55 LD Y (by rw[s];exact u)
   (λj v c=>by
    rw[Rz];show d.cell? _=_;rw[wJ (a:=(ii g<|k*3+j)) ay];apply O _ _;rw[t,zX es k<|by omega,Wx]at c;exact c) (by rw[u,G];omega) (by rw[t];exact mH _)
  rw[s]at this;rw[this,Z]
 have ai:z.size=f*3/\z.toList.take ((n+1)*3)=flat (es.take k++x::es.drop k):=by
  have aj:fv (l.toList.take<|(k+1)*3)=(k+1)*3:=by rw[kV,oW,G];omega
  have az:l.toList.take ((k+1)*3)=flat (es.take k)++pA x:=by
   rw[F];rw[af,Ec (by rw[lI,ly,ji,kV];omega)]
  rw[Z];refine⟨by simp only[BW,lI,aj,rG,oW,G,u];omega,?_⟩;rw[Ec (by rw[lI,aj,u];omega),az,t,nR,sL];rfl
 have aG:IntKind.i64.wrap ((k:Int)+1)=(k:Int)+1:=by rw[Cb];omega
 have aH:(0:Int)<=(k:Int)+1:=by omega
 have aI:(k:Int)+1<=(n:Int)+1:=by omega
 have aJ:(k:Int)<=(n:Int)+1:=by omega
 have aK:¬f=k+1:=by omega
 have aL:¬n=k:=by omega
 have aM:k<=n:=by omega
 have aN:f<=9223372036854775807:=by unfold maxLen at R;omega
 have A:fe (h=w.drew.alloc (.cells m 96)):=q;have B:fe (d=h.setRow w.heap.size l):=r;have aA:fe (d.heap[w.heap.size]?=fh (.cells l 96 (0,0))):=Y;have ak:fe _:=ai;have aB:fe (f<=maxLen):=R;have aC:fe (fv es=n):=L;clear q r F Z t u T Y ai E S af hold V D O ab ao G M K R U ad ae N L;go_enter func193,ntmps193;go_wp2_with(first
  |(at_builtin;apply wp_append_run _ fX _ _ _ _ fX _ _ fX rfl<|au _)
  |(at_builtin;apply OL _ fX _ _ 55 55 fX _ _ fX rfl<|aw _ _))
 go_region_law(apply Io fX _ _ 55 55 fX _ _ (by simp[Act.eval,Act.put]) (by simp[Act.eval,Act.put]) (ax _ _ _))
 all_goals
  go_wp2;go_ret;have aO:=aC.o;have al:∀(W:fq)(am:Array fu),(W.setRow w.heap.size am).heap.size=W.heap.size:=λW am=>by simp
  refine⟨w.heap.size,f,fX,⟨by rw[ly];simp;omega,.inr ⟨w.heap.size,f,z,fX,zt _,Hz d.drew _ _ _ 96 _ aA,ar,aB,ak.1,ak.2⟩⟩,?_,.inr<|lw _⟩;refine⟨by rw[B.o,A.o];rfl,by rw[B.o,A.o];rfl,by rw[B.o,A.o];rfl,by rw[show(d.drew.setRow w.heap.size z).heap.size=d.heap.size from al _ _,B.o,al,A.o];show w.heap.size<=(w.alloc _).heap.size;rw[zw];omega,λy aD aP=>?_⟩;have an:y≠w.heap.size:=by omega
  rw[EJ d.drew _ y _ an];show d.heap[y]?=_;rw[B.o,EJ h _ y _ an,A.o];exact sG w.drew _ _ aD
theorem kna(i:w.ownsRow 0 96 3 v (fv es) (flat es))(m:fv es<=16)(s:k<=fv es){a:Nat}{x:fV}
  (j:w.heap[a]?=fh (.cells #[hh x.1,fY x.2.1,fY x.2.2] 96 (0,0)))(n:∀g,v.ownBlock=fh g->a≠g):
  ik 193 #[v,fY (k:Int),my a 0 1 1] w λe H=>xC w H v.ownBlock (fv es) (es.take k++x::es.drop k) e:=by
 by_cases o:k=fv es
 ·subst o
  rw[sH,hMs];rcases i.2 with⟨rfl,p⟩|⟨g,c,b,rfl,_,d,q,l,f,h⟩
  all_goals grind [DY,kmm,maxLen]
 rcases i.2 with⟨rfl,p⟩|⟨g,c,b,rfl,_,d,q,l,f,h⟩
 omega;by_cases r:fv es+1<=c;exact Yg g (fv es) c k a es x b w d fX (by omega) r l f h j<|n g fX;obtain rfl:c=fv es:=by omega
 exact hel g (fv es) k a es x b w d fX (by omega) m f h j
theorem jV.store(a:jV w b n f)(c:Good q)(d:n<maxLen){t e:lV}(g:prog.underlying t=fh (.map 147 e))(val):
  ∃H,(Instr.mapUpdate t (.map<|fh b) (fD<|jn q) val).run prog w=.ok () H/\jV H b (n+1) (upd f q<|fh val)/\w.grownBy H (fh b)/\H.heap.size=w.heap.size:=by
 obtain⟨m,h,_⟩:=a;have⟨H,i,j,k,l⟩:=h.store yV g d (Bt c) (val:=val);refine⟨H,i,⟨_,j,λp o=>?_,λr s u=>?_⟩,k,l⟩
 ·by_cases e:p=q
  all_goals grind [nG,upd_same,jS,uE,kh]
 grind [qi,jS]
theorem jV.drop(c:jV w b n f)(d:Good q){t e:lV}(g:prog.underlying t=fh (.map 147 e))(a:lV):
  ∃H,(Builtin.delete_ #[t,147] a #[.map<|fh b,fD<|jn q]).run prog w=.ok (fC #[]) H/\jV H b n (upd f q fj)/\w.grownBy H (fh b)/\H.heap.size=w.heap.size:=by
 obtain⟨m,h,_⟩:=c;have⟨H,i,j,k,l⟩:=h.drop yV g (Bt d) a;refine⟨H,i,⟨_,j,λp o=>?_,λr s u=>?_⟩,k,l⟩
 ·by_cases e:p=q
  all_goals grind [nG,upd_same,jS,uE,kh]
 grind [qi,jS]
theorem jV.congr{f a:fT->Option fu}(d:jV w b n f)(e:∀p,Good p->f p=a p):jV w b n a:=by
 have⟨g,h,i,j⟩:=d;exact⟨g,h,λp c=>(i p c).trans<|e p c,j⟩
theorem jV.isMap(a:jV w b n f):∃es c,w.heap[b]?=fh (.map es c):=by
 have⟨e,d,_⟩:=a;exact d.isMap
structure oO (gM:List Ob)(es:List fV):Prop where
 rising:fO es
 len:es.length<=16
 ok:∀e∈es,fN e.1=true/\oQ gM e
theorem oN.Bx{t}{f:Array MapEntry}{g}(a:oN N w t v es)(h:w.heap[b]?=fh (.map f g))(i:w.grownBy H (fh b)):oN N H t v es:=
 a.keep λc d j=>⟨i.block c j (λe=>by
  have k:c=b:=by injection e
  rw[k]at d
  exact rv a.1 h d.symm),fX⟩
theorem gG.store{od:fT->Option (List fV)}(b:gG N w i B od I J)(g:Good q)(s:I<maxLen)(t:oN N w (i,5) v es)(c:oO A es)
  (F:∀d u gb,d≠q->od d=fh u->(J d).ownBlock=fh gb->v.ownBlock≠fh gb):
  ∃H,(Instr.mapUpdate 162 (.map<|fh B.oD) (fD<|jn q) v).run prog w=.ok () H/\w.grownBy H (fh B.oD)/\H.heap.size=w.heap.size/\gG N H i B (upd od q<|fh es) (I+1) (upd J q v):=by
 obtain⟨n,x,h⟩:=b.map;have⟨H,y,z,f,C⟩:=h.store g (hBN x s) underlying162 v;have⟨G,K,j⟩:=h.isMap;refine⟨H,y,f,C,⟨b.tag,⟨n+1,by omega,z.congr λp a=>?_⟩,λp fs a=>?_,λp fs a=>?_,λp k fs D gb a l m o=>?_⟩⟩
 ·by_cases e:p=q
  all_goals grind [upd_same,kh]
 by_cases e:p=q;subst e;rw[upd_same]at a;cases a;exact⟨g,c.rising,c.len,λe r=>⟨(c.ok e r).1,(c.ok e r).2.1⟩⟩;rw[kh e]at a;exact b.good p fs a;by_cases e:p=q;subst e;rw[upd_same]at a |-;cases a;exact t.Bx j f;rw[kh e]at a |-;exact(b.row p fs a).Bx j f;by_cases e:p=q
 grind [upd_same,kh,absurd]
 by_cases E:k=q
 grind [upd_same,kh,absurd]
 rw[kh e]at a m;rw[kh E]at l o;exact b.inj p k fs D gb a l m o
theorem fZ.od{c:fT->Option (List fV)}{f:fT->fu}(d:fZ N w s i p B A g I)(m:fI (λt=>t=(i,5)) N M w H)(b:I<=jf)(h:gG M H i B c jf f)(j:∀q es,c q=fh es->∀e∈es,oQ A e):
  fZ M H s i p B A { g with ft:={ g.ft with od:=c } } jf:=by
 have a:=d.wp;refine⟨d.two,(d.st.moves m (λe=>by cases e) λe=>by cases e).mono b,⟨a.tree.moves m (λe=>by cases e),(a.nP.moves m λe=>by cases e).mono b,(a.nQ.moves m λe=>by cases e).mono b,(a.tY.moves m λe=>by cases e).mono b,⟨f,h⟩,a.files.moves m (λe=>by cases e),a.held,a.opens.moves m (λe=>by cases e) (λe=>by cases e),⟨a.ok.root,j⟩⟩⟩
theorem Ex{od:fT->Option (List fV)}(b:gG N w i B od I J)(c:Good q)(d:ju w W):
  (Instr.lookup 162 (.map<|fh B.oD) (fD<|jn q) fm).run prog W=.ok (fC #[((od q).map λ_=>J q).getD<|fy fj 0 0,fE (od q).isSome]) W:=by
 have⟨n,_,e,a,_⟩:=b.map
 have:=(a.keep (H:=W)<|d.block _ a.lt).look_ok yV underlying162 (CC W)<|Bt c
 grind
def JK(t m:Nat)(a b c d Z)(v:fu)(w:fq)(f:t<w.heap.size)(g:w.c t 8=fh (.map<|fh m))
  (e:∀W,ju w W->(Instr.lookup 162 (.map<|fh m) (fD<|ml a b c d Z) fm).run prog W=.ok (fC #[v,fE fm]) W):
  ik 192 #[ie t,fD<|ml a b c d Z] w (ut v w):=by
 have h:=e _<|il ((mi w.heap.size w).alloc (lw _)<|.cells (ml a b c d Z) 147);clear e;go_enter func192,ntmps192;go_wp2
 go_region
 all_goals
  go_wp2;go_ret;exact⟨fX,il<|(mi _ _).alloc (lw _) _⟩
theorem vJ(b:w.ownsRow 0 96 3 v (fv es) (flat es))(j:fv es<=16):
  ik 170 #[v] w λe H=>∃a,e=fF a/\H.ownsRow 0 96 3 a (fv es) (flat es)/\(∀gb,a.ownBlock=fh gb->w.heap.size<=gb)/\ju w H:=by
 rcases b.2 with⟨rfl,f⟩|⟨g,c,k,rfl,_,l,m,n,o,p⟩
 have h:=DY.1 f;subst h;refine(sin RB 0 0 w).mono ?_
 grind [Value.ownBlock,mi]
 refine(ET g 0 (fv es) c es w fX (by omega)<|ks b).mono ?_;rintro e H ⟨a,rfl,d,_,i⟩;refine⟨a,fX,yu d,λgb q=>?_,i⟩;rcases d.2 with⟨e,_⟩|⟨r,_⟩
 all_goals grind [Value.ownBlock]
theorem Yh(c:Sound A)(g:aaG A ft)(h:∀p es,ft.od p=fh es->fO es/\fv es<=16)(i:∀p es,ft.od p=fh es->∀e∈es,fN e.1=fm)(fs)(a):oO A (gw A ft fs a).2.2:=by
 obtain⟨f1,j,k,l⟩:=zV c g h fs a;refine⟨k,l,λe b=>⟨?_,j e b⟩⟩
 revert e
 unfold gw;by_cases d:(findF A ft fs a).2.1≠0
 grind
 simp only[km d];unfold mz;by_cases f:(findF A ft fs a).2.2.2.1≠2
 ·all_goals grind
 rw[km f];by_cases hid:(findF A ft fs a).2.2.2.2=0;rw[lv hid];rcases m:ft.od (fx a) with _|es
 simp;exact λe b=>i _ es m e b
 rw[km hid];by_cases n:((findF A ft fs a).1.ij (findF A ft fs a).2.2.2.2).2=fm
 ·rw[lv n]
  have⟨o,q,r⟩:=c.2 _<|((f1<|oL.1 d).2 hid).trans (oL.1 f)
  all_goals grind
 grind
theorem fZ.gh{s i p}(a:fZ N w s i p B A g I)(fs)(r):oO A (gw A g.ft fs r).2.2:=by
 have⟨J,b⟩:=a.wp.qj;exact Yh a.st.sound a.wp.ok a.rising (λp es c e d=>((b.good p es c).2.2.2 e d).1) fs r
def oU (N:gF)(v:fu)(t:Nat×Nat):gF:=match v.ownBlock with
 |some b=>kY N b t
 |none=>N
theorem nS(a:v.ownBlock≠fh k)(t):oU N v t k=N k:=by
 unfold oU;rcases c:v.ownBlock with _|b
 rfl;exact xv (λe=>a (by rw[c,e])) _
def vK(a:v.ownBlock=fh k)(t):oU N v t k=t:=by
 unfold oU;rw[a];exact nu _ _ _
theorem qB.zi(U:2<=i)(s:qB N w i p B A g I)(u:∀k,(N k).1≠0->M k=N k):qB M w i p B A g I:=by
 have e:∀{b:Nat}{t:Nat},N b=(i,t)->M b=(i,t):=λ{b t}x=>(u b (by grind)).trans x;have m:∀{t:Nat}{v:fu}{es:List fV},oN N w (i,t) v es->oN M w (i,t) v es:=λo=>⟨o.1,λy z=>e<|o.2 y z⟩;have⟨h,hF,C,D,⟨J,j⟩,E,held,l,F⟩:=s;refine⟨⟨e h.tt,e h.tF,e h.tD,h.ht,h.hF,h.hD⟩,?_,?_,?_,⟨J,e j.tag,j.map,j.good,λq es G=>m<|j.row q es G,j.inj⟩,?_,held,⟨e l.tw,l.hw,l.past,?_,l.inj⟩,F⟩;have⟨a,b⟩:=hF;exact⟨e a,b⟩;have⟨a,n,H,K,L,O,P,r⟩:=C;exact⟨e a,n,H,K,L,O,P,λid hid=>⟨(r id hid).1,m (r id hid).2⟩⟩;have⟨a,b⟩:=D;exact⟨e a,b⟩;intro f id d Q;have⟨a,b⟩:=E f id d Q;exact⟨e a,b⟩;intro k b f fg R S;have⟨a,c⟩:=l.at_ k b f fg R S;exact⟨e a,c⟩
theorem gG.zi{od:fT->Option (List fV)}(U:2<=i)(a:gG N w i B od I J)(e:∀k,(N k).1≠0->M k=N k):gG M w i B od I J:=by
 have c:∀{b:Nat}{t:Nat},N b=(i,t)->M b=(i,t):=λ{b t}f=>(e b (by grind)).trans f;exact⟨c a.tag,a.map,a.good,λq es d=>⟨(a.row q es d).1,λg h=>c<|(a.row q es d).2 g h⟩,a.inj⟩
def fZ.zi(a:fZ N w s i p B A g I)(c:lG M w)(b:∀k,(N k).1≠0->M k=N k):fZ M w s i p B A g I:=
 ⟨a.two,a.st.zi c λk d=>b k (by rw[d];decide),a.wp.zi a.two b⟩
theorem LF(h:fZ N w s i p B A g I)(u:gG N w i B g.ft.od I J)(R:I<maxLen)(S:Good q)(a:ju w W)(y:W.ownsRow 0 96 3 v (fv es) (flat es))(z:∀gb,v.ownBlock=fh gb->w.heap.size<=gb)(C:oO A es):
  ∃H M,(Instr.mapUpdate 162 (.map<|fh B.oD) (fD<|jn q) v).run prog W=.ok () H/\W.grownBy H (fh B.oD)/\H.heap.size=W.heap.size/\B.oD<w.heap.size/\fI (Mine i) N M w H/\
   fZ M H s i p B A { g with ft:={ g.ft with od:=upd g.ft.od q (fh es) } } (I+1)/\gG M H i B (upd g.ft.od q<|fh es) (I+1) (upd J q v)/\∀gb,v.ownBlock=fh gb->H.heap[gb]?=W.heap[gb]?:=by
 have D:=h.below a;have o:=u.moves (fI.fJ (P:=λ_=>False) a) λx=>x;have E:∀gb,v.ownBlock=fh gb->gb<W.heap.size:=λgb b=>gc y b;have F:∀gb,v.ownBlock=fh gb->N gb=(0,0):=λgb b=>h.st.fresh gb<|z gb b;have j:∀k,(N k).1≠0->oU N v (i,5) k=N k:=λk j=>nS (λe=>j (by rw[F k e])) _;have G:lG (oU N v (i,5)) W:=λk l=>by
  rw[nS (λe=>by have:=E k e;omega)];exact D.st.fresh k l
 have K:=o.zi h.two j;have T:oN (oU N v (i,5)) W (i,5) v es:=⟨y,λgb b=>vK b _⟩;have⟨H,U,r,L,O⟩:=K.store (A:=A) S R T C (λc d gb _ n V X=>by
  have Q:=(o.row c d n).2 gb V;rw[F gb X]at Q;cases Q)
 have m:fI (λt=>t=(i,5)) (oU N v (i,5)) (oU N v (i,5)) W H:=QP r L K.tag;have⟨ad,_,Y⟩:=o.map;have⟨ae,_⟩:=Y.isMap;have⟨af,_,Z⟩:=u.map;refine⟨H,oU N v (i,5),U,r,L,Z.lt,?_,(D.zi G j).od m (jh _) O λc d n=>?_,O,λgb b=>?_⟩;have aa:fI (Mine i) N (oU N v (i,5)) w W:=⟨a.os,a.tape,a.output,a.size,λk l=>nS (λe=>by have:=z k e;omega) _,λk l _=>a.block k l,λ_=>G⟩;exact aa.trans (m.mono λt ab=>.inr (by rw[ab]));by_cases e:c=q;subst e;have f:upd g.ft.od c (fh es) c=fh d:=n;rw[upd_same]at f;cases f;exact λe ac=>(C.ok e ac).2;have f:upd g.ft.od q (fh es) c=fh d:=n;rw[kh e]at f;exact h.wp.ok.od c d f;refine r.block gb (E gb b) λe=>?_
 grind [rv]
theorem JJ.cells{c b:Int}(a:JJ N w i p B c b):B.bt<w.heap.size/\w.c B.bt 8=fh (.map<|fh B.oD)/\w.c B.bt 7=fh (.map<|fh B.oF)/\w.c B.bt 6=fh (fY b)/\(∀o,w.frozen? (ii B.bt o)=fo):=
 ⟨(lW.1 a.ht).1,by simp[World.cell?,a.ht],by simp[World.cell?,a.ht],by simp[World.cell?,a.ht],λo=>by simp[World.frozen?,a.ht]⟩
theorem fZ.aap(a:fZ N w s i p B A g I):fZ N (w.setCell (ii B.bt 6)<|fY 0) s i p B A { g with ft:={ g.ft with root:=0 } } I/\fI (λt=>t=(i,1)) N N w (w.setCell (ii B.bt 6)<|fY 0):=by
 have U:=a.two;have b:=a.wp.tree;have m:fI (λt=>t=(i,1)) N N w (w.setCell (ii B.bt 6)<|fY 0):=⟨fX,fX,fX,by simp,λ_ _=>rfl,λk c d=>vh _ _ _ _ λe=>d (by rw[e];exact b.tt),λf k c=>f k (by simp_all)⟩;refine⟨⟨U,a.st.moves m (λe=>by cases e) (λe=>by cases e;omega),⟨⟨b.tt,b.tF,b.tD,?_,?_,?_⟩,a.wp.nP.moves m (λe=>by cases e),a.wp.nQ.moves m (λe=>by cases e),a.wp.tY.moves m (λe=>by cases e),?_,a.wp.files.moves m (λe=>by cases e),a.wp.held,a.wp.opens.moves m (λe=>by cases e) (λe=>by cases e),⟨λh=>absurd rfl h,a.wp.ok.od⟩⟩⟩,m⟩;simp[World.setCell,BV,b.ht];rw[vh _ _ _ _<|og b.hF b.ht (by decide)];exact b.hF;rw[vh _ _ _ _<|og b.hD b.ht (by decide)];exact b.hD;have⟨J,j⟩:=a.wp.qj;exact⟨J,j.moves m λe=>by cases e⟩
theorem ko(d:w.grownBy H (fh b))(f:c<w.heap.size)(g:c≠b)(o):H.cell? (ii c o)=w.cell? (ii c o):=wJ (a:=(ii c o)) (d.block c f λe=>g (by injection e))
theorem Yi{l:fT->fu}(a:fZ N w s i p B A g I)(d:gG N w i B g.ft.od I l)(ax:I+20<1099511627776)(K:g.ft.od []=fj)(m:gw A g.ft g.fs []=(g.fs,0,es)):
  ik 192 #[ie B.bt,fD<|ml kq kq kq kq kq] w λae H=>∃v,ae=fF v/\∃M J,fI (Mine i) N M w H/\
   fZ M H s i p B A { g with ft:={ g.ft with od:=upd g.ft.od []<|fh es,root:=0 } } (I+10)/\gG M H i B (upd g.ft.od []<|fh es) (I+10) J/\J []=v/\∀q,q≠[]->J q=l q:=by
 have b:=a.gh g.fs [];rw[m]at b;have b:oO A es:=b;have⟨L,ay,_,_,_⟩:=a.wp.tree.cells;have f:=il<|(mi w.heap.size w).alloc (lw _) (.cells (ml kq kq kq kq kq) 147);have n:=Ex d Good.nil f;rw[K]at n;have n:(Instr.lookup 162 (.map<|fh B.oD) (fD<|ml kq kq kq kq kq) fm).run prog ((w.k (ml kq kq kq kq kq) 147).drew)=.ok (fC #[fy fj 0 0,fE fo]) ((w.k (ml kq kq kq kq kq) 147).drew):=n;have h:=uJ (s:=s) (i:=i) (p:=p) (B:=B) (A:=A) [] N _ g I (a.below f) (by omega) Good.nil;rw[m]at h;have h:ik 131 #[ie B.bt,fD<|ml kq kq kq kq kq] _ _:=h;have r:=λW=>QR W;have O:∀W,(Op.equalIn 10000 147 (ln [])<|ln []).run prog W=.ok fm W:=λW=>by
  have:=gX Good.nil Good.nil W
  rw[qu fX]at this;exact this
 unfold ln jn at r O;simp only[tQ]at r O;have⟨az,_,Q⟩:=d.map;have af:w.heap.size≠B.oD:=by have:=Q.lt;omega
 have ag:I+fv ([]:fT)+1<maxLen:=by show I+0+1<maxLen;unfold maxLen;omega
 have u:fe _:=a;have ah:fe _:=d;have R:fe _:=f;have S:fe _:=b;clear a d f b m K Q;go_enter func192,ntmps192;go_wp2
 go_region
 all_goals
  go_wp2_with(first
   |(go_at_call 131;apply h.mono;rintro e w3 ⟨v,rfl,aA,y,z,T⟩;have C:=Bv u.o.two u.o.st.fresh y;have aB:=C.cell (lw _) (by simp[World.drew]);have U:w.heap.size<w3.heap.size:=np (by simp[World.drew]) C.1;have⟨aC,aD,_,_,_⟩:=z.wp.tree.cells;have ai:fe _:=z;have V:fe _:=y;have aj:fe _:=T;clear z y T C)
   |(go_at_call 170;go_loud(apply (vJ aj.o.1 S.o.len).mono;rintro e ak ⟨D,rfl,X,Y,j⟩;have⟨aE,aF⟩:=kw j;have⟨E,al,Z,aa,am,aG,ab,F,ac,aH⟩:=LF (q:=[]) ai.o (((ah.o.moves (fI.fJ (P:=λ_=>False) R.o) λx=>x).moves V.o (by rintro(a|a|a)<;>cases a;exact absurd u.o.two<|by decide)).mono<|by omega) ag Good.nil (il j) X Y S.o;have aI:=ko (c:=w.heap.size) aa (np U j.size) af;have⟨aJ,_,_,aK,f5⟩:=F.wp.tree.cells;have Z:(Instr.mapUpdate 162 (.map<|fh B.oD) (fD<|ml kq kq kq kq kq) D).run prog ak.drew=.ok () E:=Z;have an:w.heap.size<E.heap.size:=np (np U j.size)<|EL am.symm;have ao:fe _:=F;have ap:fe _:=ab;have aq:fe _:=ac;clear F ab ac X Y aa)))
  go_region
  all_goals
   go_wp2
   go_region_with(go_at_call 75;refine(r _).via λar k=>?_;have aL:∀o,ar.c w.heap.size o=E.c w.heap.size o:=λo=>(kw k).1 _ _ an;have G:=ao.o.below<|gS (il<|mi _ _) k;have⟨aM,_,_,aN,f66⟩:=G.wp.tree.cells;have au:fe _:=G;clear G)
   all_goals
    go_wp2;go_ret;have⟨av,ad⟩:=au.o.aap;refine⟨D,fX,al,upd l [] D,?_,av.mono (by simp only[zy];omega),?_,upd_same _ _ _,λq aw=>kh aw _⟩;exact((mr R.o V.o).mono λ_ a=>a.mine).trans<|ap.o.trans ((fI.fJ<|gS (il<|mi _ _) k).trans (ad.mono λt L=>.inr (by rw[L])));exact(((aq.o.moves (fI.fJ (P:=λ_=>False)<|gS (il<|mi _ _) k) λx=>x).moves ad λe=>by cases e).mono (by simp only[zy];omega))
theorem Yj(U:2<=i)(b:k≠2)(c:k≠3):¬gC i (i,k):=by
 rintro(a|a|a)
 all_goals grind
theorem ql{n}(a:kB es n=fm):∃b:ub es n<fv es,(es[ub es n]).1=n:=by
 grind [um,kB,jH]
theorem FQ{n}(a:kB es n=fm)(v:Int×Int):zr es n v=es.set (ub es n) (n,v):=by
 grind [zr]
theorem OM(a:fO es){n}(b:kB es n=fm)(c:ub es n<fv es):es.set (ub es n) (n,(es[ub es n]).2.1,0)=mI es n:=by
 apply cos
 all_goals grind [mI,Int,ql,ub,Nat.lt_or_gt_of_ne,CD,jc]
theorem JL(f:k<fv es)(e:fV):(((flat es).set (k*3)<|hh e.1).set (k*3+1)<|fY e.2.1).set (k*3+2) (fY e.2.2)=flat (es.set k e):=by
 apply KO;intro a;have b:=ly es;by_cases g:a<fv es*3;obtain⟨q,t,c,rfl⟩:∃q t,t<3/\a=q*3+t:=⟨a / 3,a % 3,Nat.mod_lt _<|by decide,by omega⟩;rw[iK (es.set k e) q t (by grind) c,WH];by_cases d:k=q;subst d;rw[lv fX];simp only[List.getElem?_set,List.length_set,b];rcases(show t=0\/t=1\/t=2 by omega)with rfl|rfl|rfl
 rw[km<|by omega,km<|by omega,lv<|by omega,lv<|by omega];rfl;rw[km<|by omega,lv<|by omega,lv<|by omega];rfl;rw[lv<|by omega,lv<|by omega];rfl
 grind [EF,iK]
 grind [wm,List.length_set,ly]
theorem JM(a:k<fv es)(id:Int):(flat es).set (k*3+2) (fY id)=flat (es.set k ((es[k]).1,(es[k]).2.1,id)):=by
 rw[<-JL a];have b:(flat es).set (k*3) (hh (es[k]).1)=flat es:=by
  have:=iK es k 0 a<|by decide
  apply KO
  grind [ly,pA]
 have c:(flat es).set (k*3+1) (fY (es[k]).2.1)=flat es:=by
  have:=iK es k 1 a<|by decide
  apply KO
  grind [ly,pA]
 rw[b,c]
theorem gG.rewrite{od:fT->Option (List fV)}(b:gG N w i B od I J){es c:List fV}(d:od q=fh es)(k:(J q).ownBlock=fh gb)(l:w.grownBy H (fh gb))
  (t:H.ownsRow 0 96 3 (J q) (fv c) (flat c))(f:oO A c):gG N H i B (upd od q<|fh c) I J:=by
 obtain⟨n,u,g⟩:=b.map;have⟨G,K,v⟩:=g.isMap;have x:B.oD≠gb:=λe=>rv (b.row q es d).1 (e▸v) k.symm;refine⟨b.tag,⟨n,u,(g.keep (l.block _ g.lt λe=>x (by injection e))).congr λp a=>?_⟩,λp fs a=>?_,λp fs a=>?_,λp m fs L y a M z C=>?_⟩
 ·by_cases e:p=q
  all_goals grind [upd_same,kh]
 by_cases e:p=q;subst e;rw[upd_same]at a;cases a;exact⟨(b.good p es d).1,f.rising,f.len,λe o=>⟨(f.ok e o).1,(f.ok e o).2.1⟩⟩;rw[kh e]at a;exact b.good p fs a;by_cases e:p=q;subst e;rw[upd_same]at a;cases a;exact⟨t,(b.row p es d).2⟩;rw[kh e]at a;exact(b.row p fs a).keep (λr s D=>⟨l.block r D (λE=>by
  have F:r=gb:=by injection E
  rw[F]at s;exact e<|b.inj p q fs es gb a d s k),fX⟩)
 have h:∃f1,od p=fh f1:=by
  grind [kh]
 have j:∃f2,od m=fh f2:=by
  grind [kh]
 have⟨f1,h⟩:=h;obtain⟨f2,j⟩:=j;exact b.inj p m f1 f2 y h j z C
theorem Yk(c:oO A es)(n):oO A (mI es n):=by
 refine⟨?_,by unfold mI;rw[oI];exact c.len,λe d=>?_⟩;unfold fO mI;rw[wz];refine c.rising.imp λ{a b}j=>?_
 grind
 obtain⟨x,f,rfl⟩:=ja.1 d;have⟨g,h⟩:=c.ok x f;by_cases e:x.1=n;rw[lv e];exact⟨g,h.1,λi=>absurd fX i⟩
 all_goals grind
theorem fZ.fQ(a:fZ N w s i p B A g I)(b:g.ft.od q=fh es):oO A es:=by
 have⟨J,d⟩:=a.wp.qj;have⟨_,f,h,j⟩:=d.good q es b;exact⟨f,h,λe c=>⟨(j e c).1,a.wp.ok.od q es b e c⟩⟩
theorem JN(d:fZ N w s i p B A g I)(k:gG N w i B g.ft.od I J){n}{gb l c}(f:g.ft.od q=fh es)(o:J q=my gb 0 l c)(r:kB es n=fm):
  fZ N (w.setCell (ii gb<|ub es n*3+2)<|fY 0) s i p B A { g with ft:={ g.ft with od:=upd g.ft.od q (fh<|mI es n) } } I/\gG N (w.setCell (ii gb<|ub es n*3+2)<|fY 0) i B (upd g.ft.od q<|fh (mI es n)) I J/\fI (λt=>t=(i,5)) N N w (w.setCell (ii gb<|ub es n*3+2)<|fY 0):=by
 have u:=d.fQ f;have⟨v,F⟩:=ql r;have x:=k.row q es f;have y:(J q).ownBlock=fh gb:=by rw[o];rfl
 have z:w.grownBy (w.setCell (ii gb<|ub es n*3+2)<|fY 0) (fh gb):=sk<|Ha _ _;have C:=Yk u n;have h:=x.1;rw[o]at h;have G:l=fv es:=by
  rcases h.2 with⟨e,_⟩|⟨M,O,_,e,_⟩
  all_goals grind
 subst G;have H:=(h.stored (ub es n*3+2)<|fY 0).1;have K:(flat es).set (ub es n*3+2) (fY 0)=flat (mI es n):=by
  rw[JM v,F,OM u.rising r v]
 rw[K]at H;have D:=k.rewrite (A:=A) f y z (by grind [mI,oI]) C;have m:fI (λt=>t=(i,5)) N N w (w.setCell (ii gb<|ub es n*3+2)<|fY 0):=QP z (by simp)<|x.2 gb y;refine⟨d.od m (lw _) D λa j E=>?_,D,m⟩;by_cases e:a=q
 ·subst e
  have b:upd g.ft.od a (fh<|mI es n) a=fh j:=E;rw[upd_same]at b;cases b;exact λe L=>(C.ok e L).2
 ·have b:upd g.ft.od q (fh<|mI es n) a=fh j:=E
  rw[kh e]at b;exact d.wp.ok.od a j b
