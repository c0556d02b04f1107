/- A part of the proof. -/
import Derived.Test.YtlgidcmmgohagaaGreatComM04
set_option linter.all false
namespace Go.Proofs.YtlgidcmmgohagaaGreat
open Go.RowKit Go.Sort Go.Shelf Go.Proofs.Tryz
open Go.Value renaming slice->fy,string->fA,pointer->fB,tuple->fC,agg->fD,bool->fE
open Go.Ending renaming returned->fF
open Option renaming some->fh,none->fj
open Bool renaming true->fm,false->fo
open Go renaming World->fq,Value->fu
open List renaming length->fv,reverse->fx
open Go.RowKit renaming Hid->fe
set_option maxRecDepth 100000
set_option maxHeartbeats 0
variable {c10 c11 c5 c6 c7 c8 c9 v:fu}{d:fP}{A Z J tk:List Ob}{F F' I FL' R FR' b6 Y:Nat->Prop}{W g j m n r s:Nat}{w H O w2 w3:fq}{e:fV}{ec id x y:Int}{M:List fV}{K:Nat->Bool}{t:lV}
variable {ft:PTp}{F G N I R b6:Nat->Prop}{w:fq}{W s r ic kc pc:Nat}{ia ka pa:ig}{ids paths:List Int}{E:List Bool}{c5 c6 c7 c8 c9 c10 c11:fu}{J A Z tk:List Ob}
def gH (e:fV):fV:=(e.1,e.2.1,e.2.2-1)
structure xe (o x:Ob):Prop where
 kind:x.kind=o.kind
 data:o.kind=1->x.data=o.data
 gh:o.kind=2->x.gh=o.gh.map gH
 high:x.high=o.high
 none:o.kind=1->x.gh=[]
 empty:o.kind=2->x.data=ByteArray.empty
theorem Fs(a:iL ft F w s A)(j:Nat)(d:j<fv A)(f:A[j].kind=1):
  ik 40 #[ie s,fY<|(j:Int)+1] w (ut (fC #[fA A[j].data,fY 0]) w):=by
 refine(za a<|(j:Int)+1).mono λe H⟨b,c⟩=>⟨?_,c⟩;rcases b with⟨g,_⟩|⟨h,i,k,_,l⟩
 all_goals grind [xa,absurd]
theorem Jq(a:iL ft F w s A)(j:Nat)(c:j<fv A)(d:A[j].kind=2):
  ik 43 #[ie s,fY<|(j:Int)+1] w λe H=>∃g,e=pD #[fy (fh<|ii g 0) A[j].gh.length A[j].gh.length,fY 0]/\
   H.ownsRow w.heap.size 96 3 (fy (fh<|ii g 0) A[j].gh.length A[j].gh.length) A[j].gh.length (flat A[j].gh)/\ju w H:=by
 refine(AZ a<|(j:Int)+1).mono λe H⟨b,f⟩=>?_;rcases b with⟨h,_⟩|⟨i,k,l,_,g,m,n⟩
 all_goals grind [xa,absurd]
theorem Sh(b:gJ F w W s r ia ka pa ic kc pc ids E paths c5 c6 c7 c8 c9 c10 c11)(o:gj G w r J)(h:iL ft N w s A)(j:Nat)(q:j<fv A)(t:j<fv J)(d:A[j].kind=1)(f:xe A[j] J[j]):
  ik 80 #[ie W,fY (j:Int),fY<|(j:Int)+1] w (ut (fC #[fy fj 0 0,fE fm]) w):=by
 have z:=b.c0;have B:=b.c1;have C:=b.lt;have⟨D,I,c⟩:=o;have K:=c.c0;have L:=c.lt;have M:=c.many;obtain⟨g,rfl,P,u,v,Q,R⟩:=mV c.row fX t;have i:=f.data d;have k:=f.kind;rw[k,d]at u;rw[i]at v;have l:∀a,ju w (w.alloc a):=λa=>(mi _ _).alloc (lw _) _;have m:=λ(a:Obj)=>Fs (h.below (l a) λ_ _ b=>b) j q d;have x:fe (∀a:Obj,ik 40 #[ie s,fY<|(j:Int)+1] (w.alloc a) λe H=>e=pD #[fA A[j].data,fY 0]/\Below (w.alloc a).heap.size (w.alloc a) H):=m;clear b c i k f h d m;go_enter func80,ntmps80;go_wp2_with fail;refine(x.o _).via λO n=>?_;have bx:=n.cell (p:=(ii w.heap.size 1)) (by simp);have y:=(l _).trans<|n.mono (by simp);simp at bx;go_wp2;go_ret2;exact⟨fX,y⟩
theorem Xr(d:gJ F w W s r ia ka pa ic kc pc ids E paths c5 c6 c7 c8 c9 c10 c11)(ac:gj G w r J)(P:iL ft N w s A)(j:Nat)(ad:j<fv A)(Q:j<fv J)(l:A[j].kind=2)(v:xe A[j] J[j]):
  ik 80 #[ie W,fY (j:Int),fY<|(j:Int)+1] w λe H=>∃g,e=pD #[fy (fh<|ii g 0) A[j].gh.length A[j].gh.length,fE fm]/\
   H.ownsRow w.heap.size 96 3 (fy (fh<|ii g 0) A[j].gh.length A[j].gh.length) A[j].gh.length (flat A[j].gh)/\ju w H:=by
 have ai:=d.c0;have aj:=d.c1;have ak:=d.lt;have⟨al,am,f⟩:=ac;have an:=f.c0;have ao:=f.lt;have ap:=f.many;obtain⟨g,rfl,aq,ae,ar,x,au⟩:=mV f.row fX Q;have o:=f.zz _<|kN Q;have y:=v.gh l;have z:=v.kind;rw[z,l]at ae;have R:∀q,ju w (w.alloc q):=λq=>(mi _ _).alloc (lw _) _;have n:=λ(q:Obj)=>Jq (P.below (R q) λ_ _ d=>d) j ad l;obtain⟨b,S⟩:=ol<|A[j].gh;rw[<-S]at n y |-;have c:=o.row;have t:=o.len;have T:=o.few;rw[y]at c t;rw[oI]at t;rw[<-t]at c x T;obtain⟨av,U⟩:=ol<|J[j].ea;obtain⟨af,V⟩:=ol<|J[j].ec;rw[<-U,<-V]at c x;obtain⟨m,B⟩:=ol<|fv b;rw[<-B]at c x T n |-
 change fe _ at B n c
 clear d f z v P l S y o t U V;go_enter func80,ntmps80;go_wp2_with fail;apply (n _).mono;rintro e O ⟨u,rfl,X,C⟩;have bx:=C.cell (p:=(ii w.heap.size 2)) (by simp);have D:=(R _).trans<|C.mono (by simp);simp at bx;have Y:fe (O.ownsRow w.heap.size 96 3 (my u 0 m m) m<|flat b):=tB X (by simp);have aw:((m:Int) != (m:Int))=fo:=by simp
 clear X C n;go_wp2
 go_loopw [13] (λi wr=>∃k:Nat,k<=m/\i=.int .i64 k/\(∃a,wr=O.drewN a)) (λi _=>m-(intOf i).toNat)
 case atStart=>exact⟨0,zt _,rfl,⟨0,rfl⟩⟩
 case round=>
  obtain⟨k,l,rfl,⟨a,rfl⟩⟩:=hrel;by_cases ag:k<m
  ·have Z:k<fv b:=by rw[<-B.o];exact ag
   have ah:k<fv (b.map gH):=by simpa using Z
   have⟨h,ax,aa⟩:=hZ c (by omega);obtain rfl:=(lK aa).1;have ab:h<w.heap.size:=gc c fX;have⟨t0,t1,_⟩:=lr (off:=0) (ks c) ah;have⟨I,K,_⟩:=lr (off:=0) (ks Y) Z;rw[iO]at t0 t1 I K;have L:=(D.cell (p:=(ii h<|k*3)) ab).trans t0;have M:=(D.cell (p:=(ii h<|k*3+1)) ab).trans t1;have ay:=λa=>(show(O.drewN a).c h (k*3)=fh (fA b[k].1) by rw[yS]at L;exact L);have az:=λa=>(show(O.drewN a).c h (k*3+1)=fh (.int .i64 b[k].2.1) by rw[yS]at M;exact M);have aA:=λa=>(show(O.drewN a).c u (k*3)=fh (fA b[k].1)from I);have aB:=λa=>(show(O.drewN a).c u (k*3+1)=fh (.int .i64 b[k].2.1)from K);have aC:=λa=>(show(O.drewN a).c w.heap.size 2=fh (my h 0 m af)from bx);have aD:(k:Int)<(m:Int):=by omega
   have aE:(b[k].1.toList==b[k].1.toList)=fm:=by simp
   have z:(b[k].2.1 != b[k].2.1)=fo:=by simp
   clear t0 t1 L M I K aa;go_wp2
   go_quiet (fail)
   go_wp2;go_roundw
   case rel=>exact⟨k+1,by omega,by go_num,⟨_,rfl⟩⟩
   case measure=>simp[intOf];omega
  go_wp2;go_ret2;exact⟨u,fX,Y,iP D a⟩
def yU (n:Nat):List Int:=(List.range n).map λi:Nat=>(i:Int)+1
theorem jK(n):fv (yU n)=n:=by simp[yU]
theorem Fu(a:j<n):(yU n)[j]?=fh ((j:Int)+1):=by simp[yU,a]
theorem Si(c:j<n)(a:List Int):placeOf (yU n++a) ((j:Int)+1)=fh j:=by
 unfold placeOf;rw[lv<|by omega];have b:j<fv (yU n++a):=by simp[jK];omega
 refine yQ.2 ⟨b,?_,λi U=>?_⟩
 all_goals grind [yU,Int,wk,jK,Fu,wH]
theorem Xs(b:id<1\/(n:Int)<id)(a:List Int)(c:∀z∈a,z=0):placeOf (yU n++a) id=fj:=by
 grind [placeOf,Wv,qw,yU,ja,KT]
theorem qW(a:F g):fH F w (w.setCell (ii g j) v):=
 ⟨fX,fX,fX,by simp,λk c b=>vh _ _ _ _ λe=>b (by cases e;exact a)⟩
theorem mM{a}{t b}{z n}{v f}{c}{h:Array fu}(d:w.ownsRow a t z v n c)(i:w.heap[g]?=fh (.cells h b (0,0)))(l:b≠t):(w.setCell (ii g j) f).ownsRow a t z v n c:=
 gg d λk m=>vh _ _ _ _ λe=>io d i l (by cases e;exact m.symm)
theorem gJ.ab0(a:gJ F w W s r (fh<|ii g 0) ka pa ic kc pc ids E paths c5 c6 c7 c8 c9 c10 c11)(j)(x:Int):
  gJ F (w.setCell (ii g j)<|fY x) W s r (fh<|ii g 0) ka pa ic kc pc (ids.set j x) E paths c5 c6 c7 c8 c9 c10 c11/\fH F w (w.setCell (ii g j)<|fY x):=by
 have⟨d,c⟩:=UV a.rP fX;have b:fv (ids.set j x)=fv ids:=by simp
 refine⟨⟨a.fw,?_,?_,mM a.uh c<|by decide,mM a.uj c<|by decide,?_,a.fk,a.fp⟩,qW<|a.fi g fX⟩;rw[b,vh _ _ _ _ λe=>io a.rP a.hW (by decide) (by rw[show W=g from e];rfl)];exact a.hW;rw[b]
 have:=(a.rP.stored j<|fY x).1
 grind [encI,List.map_set]
 rw[b];exact a.fi
theorem gJ.ab1(a:gJ F w W s r ia (fh<|ii g 0) pa ic kc pc ids E paths c5 c6 c7 c8 c9 c10 c11)(j)(x:Bool):
  gJ F (w.setCell (ii g j)<|fE x) W s r ia (fh<|ii g 0) pa ic kc pc ids (E.set j x) paths c5 c6 c7 c8 c9 c10 c11/\fH F w (w.setCell (ii g j)<|fE x):=by
 have⟨d,c⟩:=UV a.uh fX;have b:fv (E.set j x)=fv E:=by simp
 refine⟨⟨a.fw,?_,mM a.rP c<|by decide,?_,mM a.uj c<|by decide,a.fi,?_,a.fp⟩,qW<|a.fk g fX⟩;rw[b,vh _ _ _ _ λe=>io a.uh a.hW (by decide) (by rw[show W=g from e];rfl)];exact a.hW;rw[b]
 have:=(a.uh.stored j<|fE x).1
 grind [Xg,List.map_set]
 rw[b];exact a.fk
def mE (F:Nat->Prop)(w:fq)(W s r n:Nat)(c5 c6 c7 c8 c9 c10 c11:fu):Prop:=
 ∃ia ka pa ic kc pc paths,gJ F w W s r ia ka pa ic kc pc (yU n) (List.replicate n fm) paths c5 c6 c7 c8 c9 c10 c11/\fv paths=n/\pW paths
def gT (J:List Ob):Prop:=∀i(U:i<fv J),∀e∈J[i].gh,0<=e.2.2/\e.2.2<(i:Int)
theorem Di(a:fH F w O)(b:ju O w2):fH F w w2:=
 ⟨b.os.trans a.os,b.tape.trans a.tape,b.output.trans a.output,wy a.size b.size,λk c d=>(b.block k (np c a.size)).trans<|a.block k c d⟩
theorem mE.mono(a:mE F w W s r n c5 c6 c7 c8 c9 c10 c11)(hF:∀k,F k->F' k):mE F' w W s r n c5 c6 c7 c8 c9 c10 c11:=by
 have⟨ia,ka,pa,ic,kc,pc,paths,b,c⟩:=a;exact⟨ia,ka,pa,ic,kc,pc,paths,b.mono hF,c⟩
def Ba (K:Nat->Bool)(n:Nat):List Int:=(List.range n).map λi:Nat=>if K i then(i:Int)+1 else 0
def Fv (K:Nat->Bool)(n:Nat):List Bool:=(List.range n).map K
def qK (K:Nat->Bool)(j:Nat):Nat->Bool:=λi=>K i ||decide (i=j)
def ov(K:Nat->Bool)(n):fv (Ba K n)=n:=by simp[Ba]
def Fw(K:Nat->Bool)(n):fv (Fv K n)=n:=by simp[Fv]
def NQ(a:j<n):(Ba K n)[j]?=fh (if K j then(j:Int)+1 else 0):=by simp[Ba,a]
def ezi(a:j<n):(Fv K n)[j]?=fh (K j):=by simp[Fv,a]
theorem Jr{a:Type}(b g:Nat->a)(n j)(x:a)(c:g j=x)(d:∀i,i≠j->g i=b i):((List.range n).map b).set j x=(List.range n).map g:=by
 apply cos<|by simp
 grind
def ezj(K:Nat->Bool)(n j):(Ba K n).set j ((j:Int)+1)=Ba (qK K j) n:=Jr _ _ n j _ (by simp[qK]) (λi U=>by simp[qK,U])
def eFn(K:Nat->Bool)(n j):(Fv K n).set j fm=Fv (qK K j) n:=Jr _ _ n j _ (by simp[qK]) (λi U=>by simp[qK,U])
theorem ino(a:j<n):placeOf (Ba K n) ((j:Int)+1)=if K j then fh j else fj:=by
 unfold placeOf;rw[lv<|by omega];have b:∀i(U:i<fv (Ba K n)),(Ba K n)[i]=if K i then(i:Int)+1 else 0:=λi U=>by simp[Ba]
 split
 rename_i c
 refine yQ.2 ⟨by rw[ov];exact a,by rw[b,lv c];simp,λi U=>?_⟩
 grind
 grind [Wv,rD]
theorem range_split(n m:Nat)(f:m<=n){b:Type}(a g:Nat->b)(z:b)(c:∀i,i<m->a i=g i)(d:∀i,m<=i->a i=z):(List.range n).map a=(List.range m).map g++List.replicate (n-m) z:=by
 apply cos (by simp;omega);intro i h j;simp only[yS,List.getElem_range,Rt,List.getElem_replicate,oI,List.length_range];split
 rename_i e
 exact c i e
 rename_i e
 exact d i<|by omega
def sI (F:Nat->Prop)(w:fq)(W s r n:Nat)(K:Nat->Bool)(c5 c6 c7 c8 c9 c10 c11:fu):Prop:=
 ∃ia ka pa ic kc pc ids E paths,gJ F w W s r ia ka pa ic kc pc ids E paths c5 c6 c7 c8 c9 c10 c11/\fv E=fv ids/\fv paths=fv ids/\pW paths/\fv ids<=n/\ids++List.replicate (n-fv ids) 0=Ba K n/\E++List.replicate (n-fv ids) fo=Fv K n
theorem sI.mono(a:sI F w W s r n K c5 c6 c7 c8 c9 c10 c11)(hF:∀k,F k->F' k):sI F' w W s r n K c5 c6 c7 c8 c9 c10 c11:=by
 have⟨ia,ka,pa,ic,kc,pc,ids,E,paths,b,c⟩:=a;exact⟨ia,ka,pa,ic,kc,pc,ids,E,paths,b.mono hF,c⟩
theorem sI.drew(a:sI F w W s r n K c5 c6 c7 c8 c9 c10 c11):sI F w.drew W s r n K c5 c6 c7 c8 c9 c10 c11:=by
 have⟨ia,ka,pa,ic,kc,pc,ids,E,paths,b,c⟩:=a;exact⟨ia,ka,pa,ic,kc,pc,ids,E,paths,b.keep (λ_ a=>a) λ_ _=>rfl,c⟩
def sI.whole(b:gJ F w W s r ia ka pa ic kc pc (Ba K n) (Fv K n) paths c5 c6 c7 c8 c9 c10 c11)(a:fv paths=n/\pW paths):sI F w W s r n K c5 c6 c7 c8 c9 c10 c11:=
 ⟨ia,ka,pa,ic,kc,pc,_,_,paths,b,by rw[ov,Fw],by rw[ov];exact a.1,a.2,by rw[ov];exact lw _,by rw[ov,EK];simp,by rw[ov,EK];simp⟩
theorem mE.toK(b:mE F w W s r m c5 c6 c7 c8 c9 c10 c11)(a:m<=n):sI F w W s r n (λi=>decide (i<m)) c5 c6 c7 c8 c9 c10 c11:=by
 have⟨ia,ka,pa,ic,kc,pc,paths,c,d,e⟩:=b;refine⟨ia,ka,pa,ic,kc,pc,_,_,paths,c,by simp[jK],by rw[jK];exact d,e,by rw[jK];exact a,?_,?_⟩;rw[jK];exact(range_split n m a _ _ _ (λi U=>by simp[U]) (λi U=>by simp;omega)).symm;rw[jK,show List.replicate m fm=(List.range m).map (λ_=>fm) by rw[List.map_const',List.length_range]];exact(range_split n m a _ (λ_=>fm) _ (λi U=>by simp[U]) (λi U=>by simp;omega)).symm
theorem sI.toS(f:sI F w W s r n K c5 c6 c7 c8 c9 c10 c11)(a:∀i,i<n->K i=fm):mE F w W s r n c5 c6 c7 c8 c9 c10 c11:=by
 have⟨ia,ka,pa,ic,kc,pc,ids,E,paths,h,p,j,k,l,b,d⟩:=f;have c:fv ids=n:=by
  refine Nat.le_antisymm l (Nat.le_of_not_lt λe=>?_)
  have:=NQ (K:=K) e
  rw[<-b,BU<|lw _,EK,lv<|a _ e,List.getElem?_replicate,lv<|by omega]at this
  have:=rF this
  omega
 have m:ids=yU n:=by
  rw[c,EK,hBw,lJ]at b;rw[b];exact KS λi U=>by rw[lv<|a i (KT.1 U)]
 have o:E=List.replicate n fm:=by
  rw[c,EK,hBw,lJ]at d;rw[d];unfold Fv;rw[KS (g:=λ_=>fm) λi U=>a i<|KT.1 U,List.map_const',List.length_range]
 subst m o;exact⟨ia,ka,pa,ic,kc,pc,paths,h,by rw[j,c],k⟩
def pow (A:List Ob)(K a:Nat->Bool)(j:Nat):Prop:=(∀i,K i=fm->a i=fm)/\a j=fm/\∀i b,a i=fm->K i=fo->A[i]?=fh b->∀e∈b.gh,b.kind=2->a (e.2.2-1).toNat=fm
def zM (A:List Ob)(F:Nat->Prop)(w:fq)(W s r n:Nat)(K:Nat->Bool)(j:Nat)(c5 c6 c7 c8 c9 c10 c11:fu)(e:Ending)(H:fq):Prop:=
 e=fF (fE fm)/\∃a,sI (kA F w H) H W s r n a c5 c6 c7 c8 c9 c10 c11/\fH F w H/\pow A K a j
theorem NR(ax:j<n)(a:sI F w W s r n K c5 c6 c7 c8 c9 c10 c11)(ah:gj G w r J)(aS:iL ft N w s A)(ay:∀k,G k->k<w.heap.size/\¬F k)(aT:∀k,N k->k<w.heap.size/\¬F k)(aU:∀k,F k->k<w.heap.size)
  (ai:fv J=n)(aV:fv A=n)(az:gT J)(aW:∀i(d:i<fv A)(o:i<fv J),xe A[i] J[i])
  (aX:∀i,i<j->∀(F':Nat->Prop)(H:fq)(u:Nat->Bool),sI F' H W s r n u c5 c6 c7 c8 c9 c10 c11->gj G H r J->iL ft N H s A->(∀k,G k->k<H.heap.size/\¬F' k)->(∀k,N k->k<H.heap.size/\¬F' k)->(∀k,F' k->k<H.heap.size)->
   ik 37 #[ie W,fY (i:Int),fY<|(i:Int)+1] H (zM A F' H W s r n u i c5 c6 c7 c8 c9 c10 c11)):
  ik 37 #[ie W,fY (j:Int),fY<|(j:Int)+1] w (zM A F w W s r n K j c5 c6 c7 c8 c9 c10 c11):=by
 have⟨ia,ka,pa,ic,kc,pc,ids,E,paths,f,aY,aZ,bb,bz,bc,bd⟩:=a;have bA:n<=400:=by have⟨_,_,a⟩:=ah;rw[<-ai];exact a.many
 have aj:=Xh f ah ay aY aZ (by omega) az bb;unfold lC at aj;rw[ai,bc,bd]at aj;have bB:fe (gj G w r J):=ah;have bC:fe (iL ft N w s A):=aS;have ak:fe (∀k,G k->k<w.heap.size/\¬F k):=ay;have V:fe (∀k,N k->k<w.heap.size/\¬F k):=aT;have bD:fe (∀k,F k->k<w.heap.size):=aU;have bE:fe (gT J):=az;have bF:fe (fv J=n/\fv A=n):=⟨ai,aV⟩;have D:j<fv J:=by omega
 have X:j<fv A:=by omega
 have aA:fe (xe A[j] J[j]):=aW j X D;have bG:fe _:=aX;have be:fe (fv ids+(n-fv ids)=n):=Fr<|by omega
 clear f ah aS ay aT aU az aW ai aV aX aY aZ bb bz bc bd;go_enter func37,ntmps37;go_wp2_with fail;refine aj.via λO⟨ia,ka,pa,ic,kc,pc,paths,f,al,aB,p⟩=>?_
 rw[be.o]at al;clear aj be;have z:=Cn f ((j:Int)+1) (by rw[ov];exact bA);rw[ino ax]at z;have bf:=f.c2;have bg:=f.c3;rw[ov]at bf;rw[Fw]at bg;have bH:=f.lt;have⟨g,bI,bJ,Y,_⟩:=row_one f.rP (i:=j) (v:=.int .i64<|if K j then(j:Int)+1 else 0) (by simp[encI,NQ ax]);subst bI;have⟨gk,bK,bL,aC,_⟩:=row_one f.uh (i:=j) (v:=fE<|K j) (by simp[Xg,ezi ax]);subst bK;have bM:O.frozen? (ii g j)=fo:=by have:=f.rP;rw[ov]at this;exact this.frozenAt j
 have cr:decide ((j:Int)+1<1)=fo:=yv (by omega);have ct:(j:Int)<(n:Int):=by omega
 have aD:fe (fv paths=n/\pW paths):=⟨al,aB⟩;cases Z:K j with
 |true=>
  rw[Z]at z Y aC;simp only[dat]at z Y;have am:ik 41 #[ie W,fY<|(j:Int)+1] O (PP (fY (j:Int)) O):=z
  clear z;have cu:=vq Y;have cv:((j:Int)+1 != 0)=fm:=by simp;omega
  have cw:((j:Int)+1 != (j:Int)+1)=fo:=by simp
  have cx:((j:Int) != (j:Int))=fo:=by simp
  have aE:fe (zM A F w W s r n K j c5 c6 c7 c8 c9 c10 c11 (fF<|fE fm) O):=⟨fX,K,sI.whole f aD.o,p,λ_ a=>a,Z,λi l d o=>by rw[d]at o;cases o⟩;clear f aB p al Z;go_wp2_with fail;refine am.still ?_;go_wp2;go_ret;exact aE.o
 |false=>
  rw[Z]at z Y aC;simp only[km<|Bool.false_ne_true]at z Y;have am:ik 41 #[ie W,fY<|(j:Int)+1] O (PP (fY<|-1) O):=z
  clear z;have bN:O.frozen? (ii gk j)=fo:=by have:=f.uh;rw[Fw]at this;exact this.frozenAt j
  have cy:g≠gk:=by
   have⟨_,d⟩:=UV f.rP fX;have⟨_,o⟩:=UV f.uh fX;exact og d o<|by decide
  have cz:g≠W:=by
   have⟨_,d⟩:=UV f.rP fX;exact og d f.hW<|by decide
  have cA:gk≠W:=by
   have⟨_,d⟩:=UV f.uh fX;exact og d f.hW<|by decide
  have aF:=f.ab0 j<|(j:Int)+1;have an:=aF.1.ab1 j fm;rw[ezj,eFn]at an;have aG:fe _:=an;have y:fe (fH F w<|(O.setCell (ii g j) (fY<|(j:Int)+1)).setCell (ii gk j) (fE fm)):=by
   have bO:fH (kA F w O) O ((O.setCell (ii g j)<|fY ((j:Int)+1)).setCell (ii gk j)<|fE fm):=⟨fX,fX,fX,by simp,λk b ao=>(an.2.block k (by simpa using b) ao).trans<|aF.2.block k b ao⟩;exact iW p bO
  have cC:fe (K j=fo):=Z;clear f aB p aF an al Z;go_wp2_with fail;refine am.mono ?_;rintro e w2 ⟨rfl,rfl⟩;clear am;go_wp2_with fail;have bQ:w2.heap.size=((w2.setCell (ii g j)<|fY ((j:Int)+1)).setCell (ii gk j)<|fE fm).heap.size:=by simp
  obtain⟨w3,bh⟩:=ol<|(w2.setCell (ii g j) (fY<|(j:Int)+1)).setCell (ii gk j) (fE fm);rw[<-bh]at aG y bQ |-;have bi:gJ (kA F w w3) w3 W s r (fh<|ii g 0) (fh<|ii gk 0) pa ic kc pc (Ba (qK K j) n) (Fv (qK K j) n) paths c5 c6 c7 c8 c9 c10 c11:=aG.o.1.mono (λk b=>by rcases b with a|a;exact .inl a;exact .inr ⟨a.1,by omega⟩);have ap:fe (gJ (kA F w w3) w3 W s r (fh<|ii g 0) (fh<|ii gk 0) pa ic kc pc (Ba (qK K j) n) (Fv (qK K j) n) paths c5 c6 c7 c8 c9 c10 c11):=bi;have aq:fe (gj G w3 r J):=ya bB.o ak.o y.o;have ar:fe (iL ft N w3 s A):=bC.o.keep (λ_ a=>a) λk b=>y.o.block k (V.o k b).1 (V.o k b).2;have bj:fe (∀i,K i=fm->qK K j i=fm):=λi U=>by simp[qK,U]
  have bk:fe (∀i,qK K j i=fm->K i=fo->i=j):=λi d o=>by simpa [qK,o]using d
  clear bi Y aC bM bN bf bg bJ bL bh aG bH;have bR:A[j].kind=1\/A[j].kind=2:=by exact ar.o.2.2.1.kinds _<|kN X
  rcases bR with L|L
  ·have M:=Sh ap.o aq.o ar.o j X D L aA.o
   have bS:fe (pow A K (qK K j) j):=⟨bj.o,by simp[qK],λi l d o B e C P=>by
    rw[bk.o i d o,jH X]at B;cases B;rw[L]at P;cases P⟩
   clear L;refine M.via λt x=>?_
   clear M;have aE:fe (zM A F w W s r n K j c5 c6 c7 c8 c9 c10 c11 (fF<|fE fm) t):=⟨fX,_,sI.whole ((ap.o.below x).mono (λk b=>by rcases b with a|a;exact .inl a;exact .inr ⟨a.1,np a.2 x.size⟩)) aD.o,Di y.o x,bS.o⟩;go_wp2
   go_loopw [9,10] (λl i wr=>l=fE fm/\i=.int .i64 0/\wr=t) (λ_ _ _=>0)
   case atStart=>exact⟨rfl,rfl,rfl⟩
   case round=>
    obtain⟨rfl,rfl,rfl⟩:=hrel;go_wp2;go_ret;exact aE.o
  have M:=Xr ap.o aq.o ar.o j X D L aA.o;have ad:=aA.o.gh L;obtain⟨q,aH⟩:=ol<|A[j].gh;rw[<-aH]at M ad;have aI:=bE.o j D;rw[ad]at aI;have bT:fe (∀e∈q,1<=e.2.2/\e.2.2<=(j:Int)):=λe C=>by
   have:0<=e.2.2-1/\e.2.2-1<(j:Int):=aI (gH e)<|DZ C
   omega
  have bl:fe (fv q<=16):=by
   have⟨_,_,Q⟩:=aq.o;have d:=(Q.zz _<|kN D).len;have o:=(Q.zz _<|kN D).few;rw[ad,oI]at d;show _<=_;omega
  have bU:fe (J[j].gh=q.map gH):=ad;have bm:fe (A[j]?=fh A[j]/\q=A[j].gh):=⟨jH X,aH⟩;clear L ad aI aH;obtain⟨m,aJ⟩:=ol<|fv q;rw[<-aJ]at M bl;have cD:m<=16:=bl.o;have aK:fe (m=fv q):=aJ;clear aJ;apply M.mono;rintro e t ⟨R,rfl,aL,x⟩;clear M;have bn:fe (R<t.heap.size/\w3.heap.size<=R):=by have:=aL.lt R fX;exact⟨this.2,this.1⟩
  have bV:fe (t.ownsRow w3.heap.size 96 3 (my R 0 m m) m<|flat q):=aL;have bo:fe (∀k,kA F w w3 k->k<w3.heap.size):=λk b=>by rcases b with a|a;exact np (bD.o k a) y.o.size;exact a.2
  have bW:fe (sI (kA F w w3) t W s r n (qK K j) c5 c6 c7 c8 c9 c10 c11):=sI.whole (ap.o.below x) aD.o;have bX:fe (gj G t r J):=aq.o.below x λ_ a=>a;have bY:fe (iL ft N t s A):=ar.o.keep (λ_ a=>a) λk b=>x.block k<|np (V.o k b).1 y.o.size;have HG4:fe (∀k,G k->k<t.heap.size/\¬kA F w w3 k):=λk b=>⟨np (ak.o k b).1<|wy y.o.size x.size,λa=>by rcases a with a|a;exact(ak.o k b).2 a;have:=(ak.o k b).1;omega⟩;have ae:fe (∀k,N k->k<t.heap.size/\¬kA F w w3 k):=λk b=>⟨np (V.o k b).1<|wy y.o.size x.size,λa=>by rcases a with a|a;exact(V.o k b).2 a;have:=(V.o k b).1;omega⟩;clear aL;go_wp2
  go_loopw [9,10] (λl i wr=>∃k:Nat,k<=m/\l=fE fm/\i=.int .i64 k/\fe (∃u,sI (kA (kA F w w3) t wr) wr W s r n u c5 c6 c7 c8 c9 c10 c11/\fH (kA F w w3) t wr/\(∀i,qK K j i=fm->u i=fm)/\(∀i l,u i=fm->qK K j i=fo->A[i]?=fh l->∀e∈l.gh,l.kind=2->u (e.2.2-1).toNat=fm)/\∀i(U:i<fv q),i<k->u (q[i].2.2-1).toNat=fm)) (λ_ i _=>m-(intOf i).toNat)
  case atStart=>exact⟨0,zt _,rfl,rfl,qK K j,bW.o.mono λk b=>.inl b,⟨rfl,rfl,rfl,lw _,λ_ _ _=>rfl⟩,λ_ a=>a,λi l d o=>by(rw[d]at o;cases o),λi U a=>by omega⟩
  case round=>
   obtain⟨k,b,rfl,rfl,aM⟩:=hrel;have⟨au,af,p,S,aa,ab⟩:=aM.o;by_cases bZ:k<m
   ·have aN:k<fv q:=by rw[<-aK.o];exact bZ
    have bp:=ya bX.o HG4.o p;have bq:=p.size;have ca:=af;have⟨_,_,_,_,_,_,_,_,_,br,_⟩:=ca;have cE:=br.c1;have cb:=bp;have⟨cF,cG,Q⟩:=cb;have cc:=Q.c0;rw[bF.o.1]at cc;have⟨cH,cd,cI,_,_,bs,_⟩:=mV Q.row fX D;subst cd;have aO:=Q.zz _<|kN D;have ac:=aO.row;have av:=aO.len;rw[bU.o]at ac av;rw[oI,<-aK.o]at av;rw[<-av]at ac bs;have⟨ce,cJ,bt⟩:=hZ ac (by omega);rw[(lK bt).1]at ac bs;have⟨_,_,aP⟩:=lr (off:=0) (ks ac) (i:=k) (by simpa using aN);rw[iO,yS]at aP;have⟨cf,cg⟩:=bT.o q[k]<|kN aN;obtain⟨I,aQ⟩:∃I:Nat,q[k].2.2=(I:Int)+1:=⟨(q[k].2.2-1).toNat,by omega⟩;have cK:wr.c ce (k*3+2)=fh (fY (I:Int)):=by rw[aP];unfold gH;rw[aQ];simp
    have bu:wr.ownsRow 0 96 3 (my R 0 m m) m (flat q):=gg (tB bV.o<|zt _) (λh c=>by
     cases c;exact p.block R bn.o.1 (λa=>by have:=bo.o R a;have:=bn.o.2;omega))
    have⟨_,_,ch⟩:=lr (off:=0) (ks bu) aN;rw[iO,aQ]at ch;have ci:fe (ik 37 #[ie W,fY (I:Int),fY<|(I:Int)+1] wr.drew<|zM A (kA (kA F w w3) t wr) wr.drew W s r n au I c5 c6 c7 c8 c9 c10 c11):=by
     have z4:=x.size;refine bG.o I (by omega) _ wr.drew au (sI.drew af) (bp.keep (λ_ a=>a) λ_ _=>rfl) (bY.o.keep (λ_ a=>a) λh c=>p.block h (ae.o h c).1 (ae.o h c).2) (λh c=>⟨np (HG4.o h c).1 bq,λa=>by rcases a with a|a;exact(HG4.o h c).2 a;have:=(HG4.o h c).1;omega⟩) (λh c=>⟨np (ae.o h c).1 bq,λa=>by rcases a with a|a;exact(ae.o h c).2 a;have:=(ae.o h c).1;omega⟩) (λh c=>by
      rcases c with a|a
      have:=bo.o h a
      show h<wr.heap.size;omega;exact a.2)
    have cj:fe ((q[k].2.2-1).toNat=I):=Fr<|by omega
    have ck:fe _:=And.intro S<|And.intro aa ab;have cL:(k:Int)<(m:Int):=by omega
    clear br Q aO av ac bt aP bu cf cg aQ S aa ab af aM;go_wp2;apply hw1 21 (by kernel_rfl) (by kernel_rfl);simp only[Rn,KU,KQ,Ce]
    iterate 21 still_step
    apply iff;go_wp2_with fail;refine ci.o.via λaR⟨cl,bv,T,aw,bw,bx⟩=>?_
    have cm:fe (∃u,sI (kA (kA F w w3) t aR) aR W s r n u c5 c6 c7 c8 c9 c10 c11/\fH (kA F w w3) t aR/\(∀i,qK K j i=fm->u i=fm)/\(∀i l,u i=fm->qK K j i=fo->A[i]?=fh l->∀e∈l.gh,l.kind=2->u (e.2.2-1).toNat=fm)/\∀i(U:i<fv q),i<k+1->u (q[i].2.2-1).toNat=fm):=by
     have⟨S,aa,ab⟩:=ck.o;refine⟨cl,bv.mono λh c=>nD p.size T.size c,iW p ⟨T.os,T.tape,T.output,T.size,T.block⟩,λi U=>aw i<|S i U,λi l d o B e C P=>?_,λi U d=>?_⟩;cases ag:au i with
     |true=>exact aw _<|aa i l ag o B e C P
     |false=>exact bx i l d ag B e C P
     by_cases cn:i=k;subst cn;rw[cj.o];exact bw;exact aw _<|ab i U (by omega)
    clear bv T aw bw bx;go_wp2;go_roundw
    case rel=>exact⟨k+1,by omega,rfl,by go_num,cm.o⟩
    case measure=>simp[intOf];omega
   have cp:fe (zM A F w W s r n K j c5 c6 c7 c8 c9 c10 c11 (fF<|fE fm) wr):=by
    have cN:=y.o.size;have cO:=x.size;have cQ:=p.size;refine⟨fX,au,af.mono λh c=>?_,?_,λi U=>S i<|bj.o i U,S j (by simp[qK]),λi l d o B e C P=>?_⟩;rcases c with(a|a)|a
    exact .inl a;exact .inr ⟨a.1,by omega⟩;exact .inr ⟨by omega,a.2⟩;refine iW (Di y.o x) ⟨p.os,p.tape,p.output,p.size,λh c ao=>p.block h c λa=>ao ?_⟩;rcases a with a|a
    exact .inl a;exact .inr ⟨a.1,by omega⟩;cases ag:qK K j i with
    |true=>
     have cq:=bk.o i ag o;subst cq;rw[bm.o.1]at B;cases B;rw[<-bm.o.2]at C;obtain⟨h,c,rfl⟩:=rD C;exact ab h c (by have:=aK.o;omega)
    |false=>exact aa i l d ag B e C P
   have cS:decide ((k:Int)<(m:Int))=fo:=yv (by omega);clear S aa ab af aM;go_wp2;go_ret;exact cp.o
theorem Sj(d:fv J=n)(e:fv A=n)(f:gT J)(g:∀i(b:i<fv A)(c:i<fv J),xe A[i] J[i])(j:Nat):j<n->∀(F':Nat->Prop)(H:fq)(a:Nat->Bool),sI F' H W s r n a c5 c6 c7 c8 c9 c10 c11->gj G H r J->iL ft N H s A->(∀k,G k->k<H.heap.size/\¬F' k)->(∀k,N k->k<H.heap.size/\¬F' k)->(∀k,F' k->k<H.heap.size)->
   ik 37 #[ie W,fY (j:Int),fY<|(j:Int)+1] H (zM A F' H W s r n a j c5 c6 c7 c8 c9 c10 c11):=by
 induction j using Nat.strongRecOn with
 |ind j h=>exact λl F' H a b c m o p q=>NR l b c m o p q d e f g λi U=>h i U<|by omega
def Js{p:Prop}(a:fe p):p:=a
def Bb:fV:=(ByteArray.empty,-77,0)
def Vr:(prog.info? 96).map (λi=>(i.zero,i.size,i.bytes))=fh (fh<|fD #[hh ByteArray.empty,fY 0,fY 0],3,32):=by kernel_rfl
theorem Vs:(prog.info? 96).map (·.size)=fh 3:=by kernel_rfl
theorem ab2(pre:iN)(a b c:fu):∀(rest:iN),3<=fv rest->(((pre++rest).set (fv pre) a).set (fv pre+1) b).set (fv pre+2) c=pre++[a,b,c]++rest.drop 3
 |[],h=>by simp at h
 |[_],h=>by simp at h
 |[_,_],h=>by simp at h
 |d::e::f::g,_=>by
  all_goals simp_all
theorem FFI{c}{g n b d:Nat}{a:List fV}{rest:iN}(h:w.ownsRow c t 3 (my g 0 b d) b (flat a++rest))(i:fv a=n)(j:3<=fv rest)(e:fV):
  (((w.setCell (ii g<|n*3)<|hh e.1).setCell (ii g<|n*3+1)<|fY e.2.1).setCell (ii g<|n*3+2)<|fY e.2.2).ownsRow c t 3 (my g 0 b d) b (flat (a++[e])++rest.drop 3):=by
 have k:=(((h.stored (n*3)<|hh e.1).1).stored (n*3+1)<|fY e.2.1).1;have l:=(k.stored (n*3+2)<|fY e.2.2).1;have m:fv (flat a)=n*3:=by rw[ly,i]
 have f:=ab2 (flat a) (hh e.1) (fY e.2.1) (fY e.2.2) rest j;rw[m]at f;rw[f]at l;rwa [qr,tz]
theorem Xt(h off m c0:Nat)(a:List fV)(w:fq)(b:fv a=m)(I:h<w.heap.size)(W:(m+3)*32<=140737488355328)(u:∀j x,(flat a)[j]?=fh x->w.cell? (ii h<|off+j)=fh x):
  ik 81 #[my h off m c0] w λe H=>∃g,e=fF (my g 0 (m+3)<|m+3)/\H.ownsRow w.heap.size 96 3 (my g 0 (m+3)<|m+3) (m+3) (flat<|a++List.replicate 3 Bb)/\ju w H:=by
 have⟨J,U,K,L,M⟩:=kC Vr
 change fe _ at u b
 go_enter func81,ntmps81;go_wp2_with(at_make;refine cmn _ fX _ _ 55 fX 0 96 J _ 3 underlying55 U K L .i64 .i64 _ _ (m+3) fX fX fX fX ?_ ?_ (zt _) ?_;go_must(rw[M];omega);go_must(unfold maxLen;omega);intro w3 y z;have⟨c,A,q⟩:=EY y;have l:=oZ (mi w.heap.size w) z;apply Js);refine(show fe _ from(?_:wpList _ _ _ _ _ _));clear y z;have c1:fe (fv (flat a)=Nat.min m (m+3)*3):=Fr<|by rw[ly,b.o,show Nat.min m (m+3)=m from EI (by omega)]
 have c2:fe (∀j v,(flat a)[j]?=fh v->w3.cell? (((ii h off):Addr).add j)=fh v):=λj v N=>by rw[qc,l.o.cell (p:=(ii h<|off+j)) I];exact u j v N
 have c3:fe (0+fv (flat a)<=c.size):=by show _<=_;rw[ly,b.o,q.o];omega
 have c4:fe ((flat a++c.toList.drop (m*3)).toArray.toList=c.toList.take 0++flat a++c.toList.drop (0+fv (flat a))):=Fr<|by rw[ly,b.o];simp
 go_wp2_with(apply vr fX (.tmp 9) (.tmp 10) 55 55 fX 96 underlying55 3 Vs w.heap.size 0 (m+3) (m+3) (ii h off) m c0 fX fX c 96 A.o (flat a) c1 c2 c3.o (mH a) (flat a++c.toList.drop (m*3)).toArray c4;intro r B C);have O:ju w r:=l.grown C l.o.size (λk P=>by cases P;exact lw _);have d:fv (c.toList.drop<|m*3)=9:=by rw[rG,oW,q.o];omega
 have D:r.ownsRow w.heap.size 96 3 (my w.heap.size 0 (m+3)<|m+3) (m+3) (flat a++c.toList.drop (m*3)):=by
  refine⟨by rw[lI,ly,b.o,d];omega,.inr ⟨w.heap.size,m+3,_,fX,lw _,B,lw _,by unfold maxLen;omega,?_,?_⟩⟩;simp only[BW,lI,ly,b.o,d];omega;simp only;exact oJ (by rw[lI,ly,b.o,d];omega)
 have Q:fe (∃rest:iN,fv rest=9/\r.ownsRow w.heap.size 96 3 (my w.heap.size 0 (m+3)<|m+3) (m+3) (flat (a++List.replicate 0 Bb)++rest)):=⟨_,d,by simpa using D⟩;clear D d c1 c2 c3 c4 A q B C l;go_wp2
 go_loopw [4] (λi wr=>∃k:Nat,k<=3/\i=.int .i64 ((m:Int)+k)/\ju w wr/\fe (∃rest:iN,fv rest=(3-k)*3/\wr.ownsRow w.heap.size 96 3 (my w.heap.size 0 (m+3)<|m+3) (m+3) (flat (a++List.replicate k Bb)++rest))) (λi _=>m+3-(intOf i).toNat)
 case atStart=>exact⟨0,by omega,by simp,O,Q⟩
 case round=>
  obtain⟨k,X,rfl,E,s⟩:=hrel;have⟨rest,d,f⟩:=s.o;by_cases Y:k<3
  ·have Z:=λj=>f.frozenAt j
   have⟨n,F⟩:=ol (m+k:Nat);have R:(m:Int)+(k:Int)=(n:Int):=by omega
   have o:∀j,j<3->∃v,wr.cell? (ii w.heap.size<|n*3+j)=fh v:=λj aa=>by
    rw[f.cellAt (n*3+j)<|by omega];exact⟨_,jH (by rw[lI,ly,lI,b.o,Rp,d];omega)⟩
   have⟨ab,S⟩:=o 0 (by omega);have⟨ac,ad⟩:=o 1 (by omega);have⟨ae,af⟩:=o 2 (by omega);rw[Ee]at S;have G:fe (n=m+k):=F;have t:fe _:=f;clear o F s f;rw[R];go_wp2;refine⟨⟨k+1,by omega,by have:=G;go_num,((E.setCell (lw _) _).setCell (lw _) _).setCell (lw _) _,rest.drop 3,by rw[rG,d];omega,?_⟩,by simp[intOf];omega⟩
   have:=FFI (n:=n) t (by rw[lI,b.o,Rp,G.o]) (by omega) Bb
   rw[sL,<-hy2]at this;exact this
  have T:k=3:=by omega
  subst T;have V:rest=[]:=KL (by omega);subst V;rw[lJ]at f;have t:fe _:=f;clear f s;go_wp2;go_ret;exact⟨_,fX,t.o,E⟩
theorem fap(w)(g n):(Builtin.copy_ #[55,55] 3 #[my g 0 n n,fy fj 0 0]).run prog w=.ok (fY 0) w:=by
 have a:=underlying55;rcases b:prog.info? 96 with _|i
 grind [Vs]
 simp[Builtin.copy_,WI a,Builtin.lenOf,Builtin.firstCells,sizeOf,typeInfo,b];rfl
theorem fas(w:fq):
  ik 81 #[fy fj 0 0] w λe H=>∃g,e=fF (my g 0 3 3)/\H.ownsRow w.heap.size 96 3 (my g 0 3 3) 3 (flat<|List.replicate 3 Bb)/\ju w H:=by
 have⟨q,U,s,t,u⟩:=kC Vr;go_enter func81,ntmps81;go_wp2_with(at_make;refine cmn _ fX _ _ 55 fX 0 96 q _ 3 underlying55 U s t .i64 .i64 _ _ 3 fX fX fX fX ?_ ?_ (zt _) ?_;go_must(rw[u];omega);go_must(unfold maxLen;omega);intro w3 h l;apply Js);refine(show fe _ from(?_:wpList _ _ _ _ _ _));have x:ju w w3:=(oZ (mi w.heap.size w) l).out;have G:=fap w3 w.heap.size 3;have y:fe (∃rest:iN,fv rest=9/\w3.ownsRow w.heap.size 96 3 (my w.heap.size 0 3 3) 3 (flat ([]++List.replicate 0 Bb)++rest)):=by
  have⟨m,z⟩:=h;exact⟨_,m,m,by rcases z with⟨A,_⟩|⟨g,c,B,C,_,r⟩;cases A;cases C;exact .inr ⟨_,_,B,fX,lw _,r⟩⟩
 clear h l;go_wp2
 go_loopw [4] (λi wr=>∃k:Nat,k<=3/\i=.int .i64 (k:Int)/\ju w wr/\fe (∃rest:iN,fv rest=(3-k)*3/\wr.ownsRow w.heap.size 96 3 (my w.heap.size 0 3 3) 3 (flat ([]++List.replicate k Bb)++rest))) (λi _=>3-(intOf i).toNat)
 case atStart=>exact⟨0,by omega,by simp,x,y.o⟩
 case round=>
  obtain⟨n,I,rfl,o,d⟩:=hrel;have⟨rest,p,a⟩:=d.o;by_cases J:n<3
  ·have K:=λj=>a.frozenAt j
   have b:∀j,j<3->∃v,wr.cell? (ii w.heap.size<|n*3+j)=fh v:=λj L=>by
    rw[a.cellAt (n*3+j)<|by omega];exact⟨_,jH (by rw[lI,ly,lI,Rp,p];simp;omega)⟩
   have⟨M,D⟩:=b 0 (by omega);have⟨N,O⟩:=b 1 (by omega);have⟨P,Q⟩:=b 2 (by omega);rw[Ee]at D;have R:w.heap.size<wr.heap.size:=gc a fX;have f:fe _:=a;clear b d a;go_wp2;refine⟨⟨n+1,by omega,by go_num,((o.setCell (lw _) _).setCell (lw _) _).setCell (lw _) _,rest.drop 3,by rw[rG,p];omega,?_⟩,by simp[intOf];omega⟩
   have:=FFI (n:=n) f.o (by simp) (by omega) Bb
   rwa [sL,<-hy2]at this
  have E:n=3:=by omega
  subst E;have F:rest=[]:=KL (by omega);subst F;rw[lJ,Hx]at a;have f:fe _:=a;clear a d;go_wp2;go_ret;exact⟨_,fX,f.o,o⟩
theorem NS(a)(m c0:Nat)(b)(w)(c:jx w a m b)(d:(m+3)*32<=140737488355328)(f:m=0->a=fj/\c0=0):
  ik 81 #[fy a m c0] w λe H=>∃g,e=fF (my g 0 (m+3)<|m+3)/\H.ownsRow w.heap.size 96 3 (my g 0 (m+3)<|m+3) (m+3) (flat<|b++List.replicate 3 Bb)/\ju w H:=by
 rcases stM m with rfl|h
 obtain⟨rfl,rfl⟩:=f fX
 have:=KL c.1
 grind [fas]
 obtain⟨i,off,rfl,j,k⟩:=c.2 h;exact Xt i off m c0 b w c.1 j d k
def ldE(W:fq)(g a)(x:fV)(c0:W.c g a=fh (hh x.1))(c1:W.c g (a+1)=fh (fY x.2.1))(c2:W.c g (a+2)=fh (fY x.2.2)):(loadVar 96<|ii g a).run prog W=.ok (fD #[hh x.1,fY x.2.1,fY x.2.2]) W:=by
 go_simp
def fds(a:BinOp)(W)(x y)(b c):(eqGuard a 96 x y (fD b)<|fD c).run prog W=.ok () W:=Nw (by kernel_rfl) a W x y b c
theorem fid(g)(b)(m c0:Nat)(c)(w)(s:jx w b m c)(D:(m+3)*32<=140737488355328)(z:m=0->b=fj/\c0=0)(E)
  (d:w.ownsRow E 96 3 (my g 0 (m+3)<|m+3) (m+3) (flat<|c++List.replicate 3 Bb)):
  ik 83 #[my g 0 (m+3)<|m+3,fy b m c0] w (ut (fE fm) w):=by
 have t:=NS b m c0 c w s D z;have⟨M,u⟩:=ol<|c++List.replicate 3 Bb;have F:fe (fv M=m+3):=by rw[u,lI,s.1,Rp];rfl
 rw[<-u]at d t;have G:=d;have v:=gc d fX;clear d u s z;go_enter func83,ntmps83;go_wp2_with fail;apply t.mono;rintro e O ⟨y,rfl,A,f⟩;have H:=A;clear t A;go_wp2
 go_loopw [6] (λi wr=>∃k:Nat,k<=m+3/\i=.int .i64 (k:Int)/\(∃a,wr=O.drewN a)) (λi _=>m+3-(intOf i).toNat)
 case atStart=>exact⟨0,by omega,rfl,⟨0,rfl⟩⟩
 case round=>
  obtain⟨k,L,rfl,⟨a,rfl⟩⟩:=hrel;by_cases I:k<m+3
  ·have B:k<fv M:=by rw[F.o];exact I
   have⟨h,j,l⟩:=lr (off:=0) (ks G) B;have⟨o,q,r⟩:=lr (off:=0) (ks H) B;rw[iO]at h j l o q r;have⟨x,C⟩:=ol<|M[k];rw[<-C]at h j l o q r;have J:fe (∀a,(loadVar 96<|ii g (k*3)).run prog (O.drewN a)=.ok (fD #[hh x.1,fY x.2.1,fY x.2.2]) (O.drewN a)):=λa=>ldE _ g (k*3) x ((f.cell (p:=(ii g<|k*3)) v).trans h) ((f.cell (p:=(ii g<|k*3+1)) v).trans j)<|(f.cell (p:=(ii g<|k*3+2)) v).trans l;have K:fe (∀a,(loadVar 96<|ii y (k*3)).run prog (O.drewN a)=.ok (fD #[hh x.1,fY x.2.1,fY x.2.2]) (O.drewN a)):=λa=>ldE _ y (k*3) x o q r;clear h j l o q r C;go_wp2;apply Wz (by kernel_rfl)<|by kernel_rfl
   iterate 3 quiet_step (fail)
   refine kW fX 96 _ fX (ii g<|k*3) fX (fD #[hh x.1,fY x.2.1,fY x.2.2]) (by rintro _ ⟨n,rfl⟩;rw[Ea];exact J _) ?_
   go_frame
   iterate 3 quiet_step (fail)
   refine kW fX 96 _ fX (ii y<|k*3) fX (fD #[hh x.1,fY x.2.1,fY x.2.2]) (by rintro _ ⟨n,rfl⟩;rw[Ea];exact K _) ?_
   go_frame
   refine wQ fX .neq 96 96 _ _ fX (fD #[hh x.1,fY x.2.1,fY x.2.2]) (fD #[hh x.1,fY x.2.1,fY x.2.2]) (fE<|!(decide (x=x))) fX fX (by rintro _ ⟨n,rfl⟩;exact fds _ _ _ _ _ _) (by rintro _ ⟨n,rfl⟩;exact duv _ x x) ?_
   go_frame
   apply Rx;rintro _ ⟨nq,rfl⟩;simp only[WQ,Bool.not_true];go_wp2;go_roundw
   case rel=>exact⟨k+1,by omega,by go_num,⟨_,rfl⟩⟩
   case measure=>simp[intOf];omega
  go_wp2;go_ret;exact⟨fX,iP f a⟩
def iR(e:Int)(w:fq):ik 22 #[fY e] w λr H=>r=fF (fY e)/\H=w:=by
 go_enter func22,ntmps22;go_wp2;go_ret;exact⟨fX,fX⟩
abbrev ox:=ig×Nat×Nat
def qL (a:ox):fu:=fy a.1 a.2.1 a.2.2
def Jt (i:Nat):fV:=(ByteArray.empty,-1000-((i / 4:Nat):Int),0)
def tcp:(prog.info? 55).map (λi=>(i.zero,i.size,i.bytes))=fh (fh<|fy fj 0 0,1,24):=by kernel_rfl
def Xu(W:fq)(cs:iN)(t):∀j a,cs[j]?=fh a->(W.k cs.toArray t).cell? (((ii W.heap.size 0):Addr).add j)=fh a:=by
 intro j a b;rw[qc,iO]
 have:=nX W<|.cells cs.toArray t
 unfold World.cell?;rw[this];simpa using b
def yj{d}{n c}:∀a∈[Value.slice d n c],a.oneCell'=fm:=by intro a b;simp at b;subst b;rfl
def mkQ (a:Nat):fV:=(⟨#[]⟩,-1000-(a:Int),0)
theorem fH.refl(w):fH F w w:=⟨fX,fX,fX,lw _,λ_ _ _=>rfl⟩
def Twin (A J:List Ob):Prop:=fv A=fv J/\(∀i(b:i<fv A)(c:i<fv J),xe A[i] J[i])/\∀a∈A,a.kind=1\/a.kind=2
theorem vC{f g:Type}(d:f->Bool)(e:g->Bool):∀(a:List f)(b:List g),fv a=fv b->(∀i(k:i<fv a)(l:i<fv b),d a[i]=e b[i])->a.findIdx? d=b.findIdx? e
 |[],[],_,_=>rfl
 |[],_::_,c,_=>by simp at c
 |_::_,[],c,_=>by simp at c
 |x::a,y::b,c,h=>by
  have j:=h 0 (by simp)<|by simp
  simp only[ED]at j
  rw[cnf,cnf,j,vC d e a b (by simpa using c) (λi k l=>by have:=h (i+1) (by grind) (by grind);simpa using this)]
theorem Sk{a b}(c:gH a=gH b):a=b:=by
 grind [gH,vo,HA]
theorem Bc{e i:Type}(b:e->i)(f:∀g h,b g=b h->g=h):∀(c d:List e),c.map b=d.map b->c=d
 |[],[],_=>rfl
 |[],_::_,a=>by simp at a
 |_::_,[],a=>by simp at a
 |x::c,y::d,a=>by
  simp only[lM,Cc]at a
  rw[f x y a.1,Bc b f c d a.2]
theorem Ju(c:Twin A J)(d):findAt J (xr d)=fileAt A d:=by
 refine(vC _ _ A J c.1 λi e f=>?_).symm;have a:=c.2.1 i e f;unfold rO xr;by_cases b:A[i].kind=1;rw[a.kind,b,a.data b,a.none b];simp;rw[a.kind];simp[b]
theorem NT(c:Twin A J)(v:ig×Nat)(m)(d:List fV):findAt J (Li v m<|d.map gH)=gI A d:=by
 refine(vC _ _ A J c.1 λi e f=>?_).symm;have a:=c.2.1 i e f;unfold rO Li;by_cases b:A[i].kind=2;rw[a.kind,b,a.empty b,a.gh b]
 grind [decide,gH,yv,Bc,Sk]
 rw[a.kind];simp[b]
theorem fin{c:Type}(b:c->Bool):∀(l:List c){y:c},y∈l.takeWhile b->b y=fm
 |[],y,a=>by cases a
 |x::l,y,a=>by
  cases d:b x with
  |true=>
   rw[List.takeWhile_cons_of_pos d]at a
   rcases mB.1 a with rfl|a
   exact d
   exact fin b l a
  |false=>
   grind [List.takeWhile_cons_of_neg]
theorem NU{out}{x:fV}(b:iD out)(g:∀y∈out,y.1≠x.1):iD (Ej out x):=by
 have c:=List.takeWhile_append_dropWhile (p:=λy:fV=>nB y.1 x.1) (l:=out);have d:iD (out.takeWhile (λy=>nB y.1 x.1)++out.dropWhile λy=>nB y.1 x.1):=by rw[c];exact b
 have⟨e,f,h⟩:=hyz.1 d;have low:∀y∈out.takeWhile λy=>nB y.1 x.1,IV y x<0:=λy a=>by
  have:=fin _ _ a
  exact BZ this
 have high:∀y∈out.dropWhile λy=>nB y.1 x.1,IV x y<0:=by
  cases i:out.dropWhile (λy=>nB y.1 x.1) with
  |nil=>intro y a;cases a
  |cons z j=>
   grind [nB,List.head?_dropWhile_not,IV,Rl,rK,Lib.compareBytes,absurd,bytes_inj,nA,lX,sB]
 refine hyz.2 ⟨e,sB.2 ⟨high,f⟩,λk m n o=>?_⟩
 grind
theorem sY:∀(M out:List fV),iD out->((M++out).map (·.1)).Nodup->iD (M.foldl Ej out)
 |[],out,a,_=>a
 |x::r,out,a,b=>by
  rw[Hy]
  have c:(x.1::((r++out).map (·.1))).Nodup:=by simpa using b
  have⟨d,f⟩:=WJ.1 c
  refine sY r (Ej out x) (NU a λy g e=>d (by grind)) ?_
  grind [Ej,IZ,List.perm_middle]
def tU(a:(M.map (·.1)).Nodup):iD (Sx M):=sY M [] List.Pairwise.nil (by simpa using a)
theorem ze:∀{b c:List fV},iD b->iD c->b.Perm c->b=c
 |[],c,_,_,a=>(List.nil_perm.1 a).symm▸rfl
 |x::b,[],_,_,a=>by have:=a.length_eq;simp at this
 |x::b,y::c,h,i,a=>by
  have j:∀d:fV,¬IV d d<0:=λd=>by unfold IV;rw[rJ];omega
  have⟨k,l⟩:=sB.1 h
  have⟨m,n⟩:=sB.1 i
  have e:x=y:=by
   have f:=a.mem_iff.1<|oK ..;have g:=a.mem_iff.2<|oK ..;rcases mB.1 f with e|f
   exact e;rcases mB.1 g with e|g
   exact e.symm;have d:=m x f;exact absurd (lX _ _ _ d<|k y g)<|j y
  subst e;rw[ze l n<|List.Perm.cons_inv a]
def lR (n:Nat)(e:fV):fV:=(e.1,e.2.1,if 1<=e.2.2/\e.2.2<=(n:Int)then e.2.2-1 else -1)
def Vt(a:1<=e.2.2/\e.2.2<=(n:Int)):lR n e=gH e:=by unfold lR gH;rw[lv a]
theorem Xv(a:Twin A J)(b:j<fv A):A[j].kind≠0:=by
 rcases a.2.2 _ (kN b)with e|e<;>rw[e]<;>decide
theorem Xw(b:Twin A J)(e):oo J (lR (fv A) e)=EQ A e:=by
 unfold oo EQ lR;by_cases c:1<=e.2.2/\e.2.2<=(fv A:Int);obtain⟨j,f⟩:∃j:Nat,e.2.2=(j:Int)+1:=⟨(e.2.2-1).toNat,by omega⟩;have a:j<fv A:=by omega
 have d:j<fv J:=by rw[<-b.1];exact a
 simp only[c,and_self,dat];rw[f,xa a,show((j:Int)+1-1)=(j:Int) by omega,qE,jH d];have g:=(b.2.1 j a d).kind
 grind [Xv,qu,yv,beq_false_of_ne]
 rw[km c,iE<|by omega];simp
theorem zN(a:EQ A e=fm):1<=e.2.2/\e.2.2<=(fv A:Int):=by
 grind [hid,Int,EQ,iE]
theorem Xx(b:Twin A J)(d:EQ A e=fm):Db J (lR (fv A) e)=gu A e.2.2:=by
 have f:=zN d;obtain⟨j,g⟩:∃j:Nat,e.2.2=(j:Int)+1:=⟨(e.2.2-1).toNat,by omega⟩;have a:j<fv A:=by omega
 have c:j<fv J:=by rw[<-b.1];exact a
 unfold Db lR;simp only[f,and_self,dat];rw[g,Cl a,show((j:Int)+1-1)=(j:Int) by omega,qE,jH c];exact(b.2.1 j a c).high
theorem zO(a:Twin A J):∀(b:List fV)(c:Int),(∀e∈b,EQ A e=fm)->(b.map (lR<|fv A)).foldl (λa e=>max a<|1+Db J e) c=b.foldl (λa e=>max a<|1+gu A e.2.2) c
 |[],_,_=>rfl
 |e::r,c,d=>by
  simp only[lM,Hy]
  rw[Xx a<|d e (oK ..)]
  exact zO a r _ λx f=>d x<|wq _ f
def fix(n)(M:List fV):(M.map<|lR n).map (·.1)=M.map (·.1):=by
 rw[Ed];rfl
def Cv (A Z J tk:List Ob)(id ec x y:Int):Prop:=
 ec=y/\Twin Z tk/\((y≠0/\id=0/\Z=A/\tk=J)\/(y=0/\∃j:Nat,x=(j:Int)/\id=(j:Int)+1/\((Z=A/\tk=J/\j<fv A)\/(j=fv A/\fv Z=fv A+1))))
theorem yl(a:Twin A J){b x}(g:xe b x)(h:b.kind=1\/b.kind=2):Twin (A++[b]) (J++[x]):=by
 refine⟨by simp[a.1],λi d f=>?_,λy c=>?_⟩;by_cases U:i<fv A;rw[KN U,KN (by rw[<-a.1];exact U)];exact a.2.1 i U _;have e:i=fv A:=by simp at d;omega
 subst e;have j:(J++[x])[fv A]'f=x:=by simp[a.1]
 grind
 rcases qw.1 c with c|c
 exact a.2.2 y c
 grind
def Vu{a:Ob->Bool}{i:Nat}(b:A.findIdx? a=fh i):i<fv A:=(yQ.1 b).1
theorem Sl{e}(b:Twin A J)(q:lz A Z d e)(m:AD J tk d x y):
  ∃id ec,e=pD #[fY id,fY ec]/\Cv A Z J tk id ec x y:=by
 have r:=Ju b d;rcases q with⟨n,j,h⟩|⟨n,j,i,h,l⟩|⟨n,j,h,l,o⟩|⟨n,j,h,l,o⟩
 rcases m with⟨_,c,f,g⟩|⟨a,_⟩
 subst j c f g;exact⟨_,_,h,fX,b,.inl ⟨by decide,fX,fX,fX⟩⟩;omega
 ·rcases m with⟨a,_⟩|⟨_,⟨k,a,c,f,g⟩|⟨a,_⟩|⟨a,_⟩⟩
  omega;rw[r,h]at a;cases a;subst j c f g;exact⟨_,_,l,fX,b,.inr ⟨fX,i,fX,fX,.inl ⟨fX,fX,Vu h⟩⟩⟩
  all_goals grind
 rcases m with⟨a,_⟩|⟨_,⟨k,a,c,f,g⟩|⟨a,c,f,g,p⟩|⟨a,c,_⟩⟩
 omega
 grind
 subst l f g p;exact⟨_,_,o,fX,b,.inl ⟨by decide,fX,fX,fX⟩⟩
 have:=b.1
 omega;rcases m with⟨a,_⟩|⟨_,⟨k,a,c,f,g⟩|⟨a,c,_⟩|⟨a,c,f,g,p⟩⟩
 omega
 ·all_goals grind
 have:=b.1
 omega;subst l f g p;refine⟨_,_,o,fX,yl b ⟨fX,λ_=>rfl,λb=>absurd b (show ¬(1:Int)=2 by decide),fX,λ_=>rfl,λb=>absurd b (show ¬(1:Int)=2 by decide)⟩<|.inl fX,.inr ⟨fX,fv A,by rw[b.1],fX,.inr ⟨fX,by simp⟩⟩⟩
theorem Xy{e}(a:Twin A J)(D:jw A Z M e)(d:AE J tk (M.map<|lR (fv A)) x y):
  ∃id ec,e=pD #[fY id,fY ec]/\Cv A Z J tk id ec x y:=by
 have U:=fix (fv A) M;have val:(∃e∈M.map (lR<|fv A),fN e.1=fo)↔∃e∈M,fN e.1=fo:=by
  grind [DZ]
 have V:(∃e∈M.map (lR<|fv A),oo J e=fo)↔∃e∈M,EQ A e=fo:=by
  grind [Xw,DZ]
 have W:fv (M.map<|lR (fv A))=fv M:=oI ..;have aj:∀{N:fV->Bool}{l:List fV},(∀e∈l,N e=fm)->¬ ∃e∈l,N e=fo:=λX⟨e,Y,O⟩=>by rw[X e Y]at O;cases O
 unfold AE at d;rw[U,W,val,V]at d;rcases D with⟨f1,f2,f3⟩|⟨f1,D⟩
 ·rcases d with⟨_,f,g,h⟩|⟨b,_⟩
  subst f2 f g h;exact⟨_,_,f3,fX,a,.inl ⟨by decide,fX,fX,fX⟩⟩
  all_goals grind
 rcases d with⟨b,_⟩|⟨_,d⟩
 ·all_goals grind
 rcases D with⟨E,u,o⟩|⟨E,u,o,F⟩|⟨E,u,o,F,aa⟩|⟨E,u,o,k,G,ab,ak,P⟩
 ·rcases d with⟨_,f,g,h⟩|⟨b,_⟩|⟨b,_⟩|⟨b,_⟩|⟨b,_⟩
  subst u f g h;exact⟨_,_,o,fX,a,.inl ⟨by decide,fX,fX,fX⟩⟩
  all_goals grind
 ·rcases d with⟨b,_⟩|⟨_,_,f,g,h⟩|⟨_,b,_⟩|⟨_,b,_⟩|⟨_,b,_⟩
  ·all_goals grind
  subst o f g h;exact⟨_,_,F,fX,a,.inl ⟨by decide,fX,fX,fX⟩⟩
  all_goals omega
 ·rcases d with⟨b,_⟩|⟨_,b,_⟩|⟨_,_,_,f,g,h⟩|⟨_,_,b,_⟩|⟨_,_,b,_⟩
  ·all_goals grind
  omega;subst F f g h;exact⟨_,_,aa,fX,a,.inl ⟨by decide,fX,fX,fX⟩⟩
  all_goals grind
 have Q:∀z∈k,EQ A z=fm:=λz H=>o z<|G.mem_iff.1 H;have R:xt J (M.map<|lR (fv A))=gy A k:=by
  rw[wR J (G.map<|lR (fv A)).symm];exact zO a k 0 Q
 have ac:k.map (lR<|fv A)=k.map gH:=KS λz H=>Vt<|zN (Q z H);have ad:iD (k.map gH):=wz.2 (ab.imp λa=>a);have ae:Sx (M.map<|lR (fv A))=k.map gH:=by
  refine ze (tU (by grind)) ad ?_;rw[<-ac];exact(kJ _).trans (G.map _).symm
 have af:=λv m=>NT a v m k;rcases d with⟨b,_⟩|⟨_,b,_⟩|⟨_,_,b,_⟩|⟨_,_,_,b,f,g,h⟩|⟨_,_,_,b,v,z,p,I⟩
 grind
 omega
 grind
 ·rw[R]at b
  rcases P with⟨n,r,q⟩|⟨n,_⟩|⟨n,_⟩|⟨n,_⟩
  subst r f g h;exact⟨_,_,q,fX,a,.inl ⟨by decide,fX,fX,fX⟩⟩
  all_goals omega
 rw[R]at b;rw[ae]at p;unfold AA at p;rw[af]at p;rcases P with⟨n,_⟩|⟨n,r,i,q,K⟩|⟨n,r,q,K,L⟩|⟨n,r,q,⟨ag,w,ah,al,ai⟩,L⟩
 omega
 ·rcases p with⟨j,c,s,B⟩|⟨c,_⟩|⟨c,_⟩
  rw[q]at c;cases c;rcases I with⟨S,_⟩|⟨_,C,t⟩
  omega;subst r s t;exact⟨_,_,K,fX,a,.inr ⟨fX,i,by omega,fX,.inl ⟨fX,fX,Vu q⟩⟩⟩
  all_goals grind
 ·rcases p with⟨j,c,_⟩|⟨c,s,B,T⟩|⟨c,s,_⟩
  ·all_goals grind
  rcases I with⟨_,C,t⟩|⟨S,_⟩
  subst K B C t;exact⟨_,_,L,fX,a,.inl ⟨by decide,fX,fX,fX⟩⟩;omega
  have:=a.1
  omega
 rcases p with⟨j,c,_⟩|⟨c,s,_⟩|⟨c,s,B,T⟩
 ·all_goals grind
 have:=a.1
 omega;rcases I with⟨S,_⟩|⟨_,C,t⟩
 omega;subst ai B t;refine⟨_,_,L,fX,yl a ⟨w.symm,λa=>by rw[w]at a;exact absurd a<|by decide,λ_=>by rw[ah];rfl,?_,λa=>by rw[w]at a;exact absurd a<|by decide,λ_=>rfl⟩<|.inr w,.inr ⟨fX,fv A,by rw[C,T,a.1],fX,.inr ⟨fX,by simp⟩⟩⟩;show xt J (k.map gH)=ag.high
 all_goals grind [wR]
structure Sep (w:World)(FL FR b6:Nat->Prop):Prop where
 ll:∀k,FL k->k<w.heap.size
 rl:∀k,FR k->k<w.heap.size/\¬FL k
 sl:∀k,b6 k->k<w.heap.size/\¬FL k
 rs:∀k,FR k->¬b6 k
structure W3 (ft:PTp)(FL FR b6:Nat->Prop)(w:World)(W s r:Nat)(gM Xd:List Ob)(c5 c6 c7 c8 c9 c10 c11:Value):Prop where
 law:mE FL w W s r gM.length c5 c6 c7 c8 c9 c10 c11
 ref:gj FR w r Xd
 wI:iL ft b6 w s gM
 twin:Twin gM Xd
 at_:gT Xd
 sep:Sep w FL FR b6
def Sep.below(b:Sep w I R b6)(c:w.heap.size<=H.heap.size):Sep H I R b6:=
 ⟨λk a=>np (b.ll k a) c,λk a=>⟨np (b.rl k a).1 c,(b.rl k a).2⟩,λk a=>⟨np (b.sl k a).1 c,(b.sl k a).2⟩,b.rs⟩
theorem mE.keep(a:mE F w W s r n c5 c6 c7 c8 c9 c10 c11)(hF:∀k,F k->F' k)(b:∀k,F k->H.heap[k]?=w.heap[k]?):mE F' H W s r n c5 c6 c7 c8 c9 c10 c11:=by
 have⟨ia,ka,pa,ic,kc,pc,paths,c,d⟩:=a;exact⟨ia,ka,pa,ic,kc,pc,paths,c.keep hF b,d⟩
def W3.below(a:W3 ft I R b6 w W s r A J c5 c6 c7 c8 c9 c10 c11)(c:ju w H):W3 ft I R b6 H W s r A J c5 c6 c7 c8 c9 c10 c11:=
 ⟨a.law.keep (λ_ a=>a) λk b=>c.block k<|a.sep.ll k b,a.ref.keep (λ_ a=>a) λk b=>c.block k (a.sep.rl k b).1,iL.keep a.wI (λ_ a=>a) λk b=>c.block k (a.sep.sl k b).1,a.twin,a.at_,a.sep.below c.size⟩
def F3 (I R b6:Nat->Prop)(k:Nat):Prop:=I k\/R k\/b6 k
def zP (I R b6 FL' FR' Y:Nat->Prop)(n:Nat):Prop:=∀k,(FL' k->I k\/n<=k)/\(FR' k->R k\/n<=k)/\(Y k->b6 k\/n<=k)
theorem zP.all(a:zP I R b6 FL' FR' Y n):∀k,F3 FL' FR' Y k->F3 I R b6 k\/n<=k:=by
 rintro k (e|e|e);exact((a k).1 e).imp .inl id;exact((a k).2.1 e).imp (λx=>.inr<|.inl x) id;exact((a k).2.2 e).imp (λx=>.inr<|.inr x) id
theorem zP.refl:zP I R b6 I R b6 n:=λk=>⟨.inl,.inl,.inl⟩
theorem zP.mono(a:zP I R b6 FL' FR' Y n)(b:m<=n):zP I R b6 FL' FR' Y m:=λk=>⟨λe=>((a k).1 e).imp id<|wy b,λe=>((a k).2.1 e).imp id<|wy b,λe=>((a k).2.2 e).imp id<|wy b⟩
def Sep.law(xg:Sep w I R b6)(c:fH I w H):Sep H (kA I w H) R b6:=⟨λk b=>by rcases b with a|a;exact np (xg.ll k a) c.size;exact a.2,
   λk b=>⟨np (xg.rl k b).1 c.size,λa=>by rcases a with a|a;exact(xg.rl k b).2 a;have:=(xg.rl k b).1;omega⟩,
   λk b=>⟨np (xg.sl k b).1 c.size,λa=>by rcases a with a|a;exact(xg.sl k b).2 a;have:=(xg.sl k b).1;omega⟩,xg.rs⟩
theorem Cw(m:mE I w W s r n c5 c6 c7 c8 c9 c10 c11)(d:gj R w r J)(f:iL ft b6 w s A)(xg:Sep w I R b6)(g:gT J)(c:Twin A J)(o:n<=fv A)(p:j<fv A)
  (q:∀K:Nat->Bool,K j=fm->(∀i a,K i=fm->n<=i->A[i]?=fh a->∀e∈a.gh,a.kind=2->K (e.2.2-1).toNat=fm)->∀i,n<=i->i<fv A->K i=fm):
  ik 37 #[ie W,fY (j:Int),fY<|(j:Int)+1] w λe H=>e=fF (fE fm)/\W3 ft (kA I w H) R b6 H W s r A J c5 c6 c7 c8 c9 c10 c11/\fH I w H:=by
 refine(Sj c.1.symm fX g c.2.1 j p I w _ (m.toK o) d f xg.rl xg.sl xg.ll).mono ?_;rintro e H ⟨t,K,u,b,z,v,x⟩;refine⟨t,⟨u.toS λi U=>?_,ya d xg.rl b,iL.keep f (λ_ h=>h) λk l=>b.block k (xg.sl k l).1 (xg.sl k l).2,c,g,xg.law b⟩,b⟩;by_cases h:i<n
 grind
 exact q K v (λi a y B=>x i a y<|yv (by omega)) i (by omega) U
theorem Fx(c:mE I w W s r (fv A) c5 c6 c7 c8 c9 c10 c11)(d:gj R w r tk)(f:iL ft b6 w s Z)(xg:Sep w I R b6)(g:gT tk)(a:Cv A Z J tk id ec x y)(h:y=0)(i:fv A=fv J):
  ik 37 #[ie W,fY x,fY id] w λe H=>e=fF (fE fm)/\W3 ft (kA I w H) R b6 H W s r Z tk c5 c6 c7 c8 c9 c10 c11/\fH I w H:=by
 obtain⟨_,k,b|⟨_,j,rfl,rfl,b⟩⟩:=a
 all_goals grind [absurd,Cw]
theorem vE{x:Ob}(c:gT J)(d:∀e∈x.gh,0<=e.2.2/\e.2.2<(fv J:Int)):gT (J++[x]):=by
 intro i U e a;by_cases b:i<fv J;rw[KN b]at a;exact c i b e a
 grind
theorem Sm(a:gT J)(b:AD J tk d x y):gT tk:=by
 rcases b with⟨_,rfl,_⟩|⟨_,⟨_,_,rfl,_⟩|⟨_,_,rfl,_⟩|⟨_,_,rfl,_⟩⟩
 exact a;exact a;exact a;exact vE a (λe c=>by cases c)
theorem Xz{T:List fV}(a:gT J)(f:∀e∈T,e.2.2<(fv J:Int))(b:AE J tk T x y):gT tk:=by
 rcases b with⟨_,rfl,_⟩|⟨_,⟨_,rfl,_⟩|⟨_,_,rfl,_⟩|⟨_,_,_,rfl,_⟩|⟨_,_,_,_,rfl,_⟩|⟨_,_,g,_,v,z,c,_⟩⟩
 exact a;exact a;exact a;exact a;exact a;rcases c with⟨_,_,rfl,_⟩|⟨_,_,rfl,_⟩|⟨_,_,rfl,_⟩
 exact a;exact a;refine vE a λe d=>?_;have h:e∈T:=rN d
 grind [oo]
def Stepped (ft:PTp)(I R b6:Nat->Prop)(w H:fq)(W s r:Nat)(c5 c6 c7 c8 c9 c10 c11:fu):Prop:=
 ∃FL' FR' Y Z tk,W3 ft FL' FR' Y H W s r Z tk c5 c6 c7 c8 c9 c10 c11/\zP I R b6 FL' FR' Y w.heap.size/\fH (F3 I R b6) w H
theorem mE.cells(b:mE I w W s r n c5 c6 c7 c8 c9 c10 c11):w.c W 0=fh (ie s)/\w.c W 1=fh (ie r)/\W<w.heap.size/\I W:=by
 have⟨_,_,_,_,_,_,_,a,_⟩:=b;exact⟨a.c0,a.c1,a.lt,a.fw⟩
theorem ym(a:W3 ft I R b6 w W s r A J c5 c6 c7 c8 c9 c10 c11)(f:ju w O)(g:fH b6 O w2)(U:iL ft (kA b6 O w2) w2 s Z)(e:fH R w2 w3):
  mE I w3 W s r (fv A) c5 c6 c7 c8 c9 c10 c11/\iL ft (kA b6 O w2) w3 s Z/\Sep w3 I (kA R w2 w3) (kA b6 O w2)/\fH (F3 I R b6) w w3/\zP I R b6 I (kA R w2 w3) (kA b6 O w2) w.heap.size:=by
 have l:=f.size;have p:=g.size;have q:=e.size;have all:∀k,k<w.heap.size->¬R k->¬b6 k->w3.heap[k]?=w.heap[k]?:=λk m h n=>(e.block k (by omega) h).trans<|(g.block k (by omega) n).trans (f.block k m);refine⟨a.law.keep (λ_ a=>a) λk c=>all k (a.sep.ll k c) (λd=>(a.sep.rl k d).2 c) λd=>(a.sep.sl k d).2 c,iL.keep U (λ_ a=>a) λk c=>e.block k ?_ λd=>?_,⟨λk c=>by have:=a.sep.ll k c;omega,λk c=>?_,λk c=>?_,λk c o=>?_⟩,⟨e.os.trans<|g.os.trans f.os,e.tape.trans<|g.tape.trans f.tape,e.output.trans<|g.output.trans f.output,by omega,λk c j=>all k c (λd=>j<|.inr (.inl d)) λd=>j<|.inr (.inr d)⟩,λk=>⟨.inl,λa=>a.imp id (λa=>by have:=a.1;omega),λa=>a.imp id λa=>wy l a.1⟩⟩;rcases c with b|b
 have:=(a.sep.sl k b).1
 omega;exact b.2;rcases c with b|b
 exact a.sep.rs k d b
 have:=(a.sep.rl k d).1
 omega;rcases c with b|b
 exact⟨by have:=(a.sep.rl k b).1;omega,(a.sep.rl k b).2⟩;exact⟨b.2,λi=>by have:=a.sep.ll k i;have:=b.1;omega⟩;rcases c with b|b
 exact⟨by have:=(a.sep.sl k b).1;omega,(a.sep.sl k b).2⟩;exact⟨by have:=b.2;omega,λi=>by have:=a.sep.ll k i;have:=b.1;omega⟩;rcases c with b|b<;>rcases o with h|h
 exact a.sep.rs k b h
 have:=(a.sep.rl k b).1
 omega
 have:=(a.sep.sl k h).1
 omega;omega
theorem XA{f}{e}(b:W3 ft I R b6 w W s r A J c5 c6 c7 c8 c9 c10 c11)(i:ju w O)(j:fH b6 O w2)(U:iL ft (kA b6 O w2) w2 s Z)(u:mE I w2 W s r (fv A) c5 c6 c7 c8 c9 c10 c11)
  (a:fH R w2.drew w3)(k:gj (kA R w2.drew w3) w3 r tk)(l:lz A Z f e)(g:AD J tk f x y)(m:e=pD #[fY id,fY ec]):
  Cv A Z J tk id ec x y/\mE I w3 W s r (fv A) c5 c6 c7 c8 c9 c10 c11/\iL ft (kA b6 O w2) w3 s Z/\gj (kA R w2 w3) w3 r tk/\Sep w3 I (kA R w2 w3) (kA b6 O w2)/\gT tk/\fH (F3 I R b6) w w3:=by
 have⟨n,o,h,p⟩:=Sl b.twin l g;rw[m]at h;obtain⟨rfl,rfl⟩:id=n/\ec=o:=by simpa using h
 have⟨q,t,c,d,_⟩:=ym b i j U (w3:=w3) ⟨a.os,a.tape,a.output,a.size,a.block⟩;exact⟨p,q,t,k,c,Sm b.at_ g,d⟩
def XB(n)(x:Int):Lj (yU n) x=x:=by
 unfold Lj;split
 ·next h=>
  rw[jK]at h;have a:(x-1).toNat<n:=by omega
  have:=Fu a
  rw[wK,this];show(((x-1).toNat:Int)+1)=x;omega
 rfl
def W3.few(a:W3 ft I R b6 w W s r A J c5 c6 c7 c8 c9 c10 c11):fv A<=400/\fv J=fv A:=by
 have⟨_,_,b⟩:=a.ref
 have:=b.many
 have:=a.twin.1
 omega
def Fy(a:W3 ft I R b6 w W s r A J c5 c6 c7 c8 c9 c10 c11)(x:Int):ik 39 #[ie W,fY x] w (PP (fY x) w):=by
 have⟨_,_,_,_,_,_,_,b,_⟩:=a.law
 have:=szl b x (by rw[jK];exact a.few.1)
 rwa [XB]at this
theorem rV(a:W3 ft I R b6 w W s r A J c5 c6 c7 c8 c9 c10 c11)(j:Nat)(b:j<fv A):ik 41 #[ie W,fY<|(j:Int)+1] w (PP (fY (j:Int)) w):=by
 have⟨_,_,_,_,_,_,_,c,_⟩:=a.law
 have:=Cn c ((j:Int)+1) (by rw[jK];exact a.few.1)
 have e:=Si b [];rw[lJ]at e;rwa [e]at this
theorem zQ(a:W3 ft I R b6 w W s r A J c5 c6 c7 c8 c9 c10 c11)(x:Int)(b:x<1\/(fv A:Int)<x):ik 41 #[ie W,fY x] w (PP (fY<|-1) w):=by
 have⟨_,_,_,_,_,_,_,c,_⟩:=a.law
 have:=Cn c x (by rw[jK];exact a.few.1)
 have e:=Xs b [] (λ_ a=>by cases a);rw[lJ]at e;rwa [e]at this
theorem Bd(a:W3 ft I R b6 w W s r A J c5 c6 c7 c8 c9 c10 c11)(j:Nat)(b:j<fv A):ik 42 #[ie W,fY (j:Int)] w (PP (.int .i64 A[j].kind) w):=by
 have d:=a.few;have⟨_,_,_,_,_,_,_,c,_⟩:=a.law
 have:=eni c a.ref j<|by omega
 rwa [(a.twin.2.1 j b<|by omega).kind]at this
theorem Fz(a:iL ft F w s A)(x:Int)(b:fK A x≠1):
  ik 40 #[ie s,fY x] w (ut (fC #[hh ByteArray.empty,fY 13]) w):=by
 refine(za a x).mono λe H⟨c,d⟩=>⟨?_,d⟩;rcases c with⟨_,f⟩|⟨j,g,h,i,_⟩
 exact f;rw[h,xa g]at b;omega
theorem W3.obj(a:W3 ft I R b6 w W s r A J c5 c6 c7 c8 c9 c10 c11)(j:Nat)(c:j<fv A)(d:A[j].kind=1):∃g h,w.c r 0=fh (my g 0 (fv A) h)/\r<w.heap.size/\g<w.heap.size/\w.c g (j*4+1)=fh (fA A[j].data):=by
 have⟨k,h,b⟩:=a.ref;have e:=a.few.2;obtain⟨g,rfl,f,l,i,_⟩:=mV b.row fX (show j<fv J by omega);refine⟨g,h,?_,b.lt,f,?_⟩;rw[<-e];exact b.c0;rw[<-((a.twin.2.1 j c<|by omega).data d)];exact i
theorem NV(c:W3 ft I R b6 w W s r A J c5 c6 c7 c8 c9 c10 c11)(m b n:Int)(o p)(q:ig)(t u)(f:b<1\/(fv A:Int)<b):
  ik 20 #[ie W,fD #[fY 3,fY m,fY b,fY n,hh o,hh p,fy q t u]] w (ut (fE fm) w):=by
 have⟨y,_⟩:=c.law.cells;have d:∀a,ju w (w.alloc a):=λa=>(mi _ _).alloc (lw _) _;have hid:=λa=>Fy (c.below<|d a) b;have h:=λa=>Fz (c.below<|d a).wI b (by rw[iE f];decide);have i:=λa g(v:Below (w.alloc a).heap.size (w.alloc a) g)=>zQ ((c.below<|d a).below v) b f;have j:=λ(g:fq)=>Jd (W:=W) (w:=g) (-1) (by decide);have k:=λ(e:Int)(x:fq)=>iR e x
 change fe _ at hid h i j k
 clear c f;go_enter func20,ntmps20;go_wp2_with(first
  |(go_at_call 39;refine Calls.still (hid _) ?_)
  |(go_at_call 40;refine Calls.via (h _) λw2 l=>?_)
  |(go_at_call 41;refine Calls.still (i _ _ l) ?_)
  |(go_at_call 42;refine Calls.still (j _) ?_)
  |(go_at_call 22;refine Calls.still (k _ _) ?_))
 go_ret;exact⟨fX,(d _).trans<|l.mono (by simp)⟩
theorem NW(b:W3 ft I R b6 w W s r A J c5 c6 c7 c8 c9 c10 c11)(p q:Int)(t u)(v:ig)(x y)(j:Nat)(d:j<fv A)(k:A[j].kind≠1):
  ik 20 #[ie W,fD #[fY 3,fY p,fY<|(j:Int)+1,fY q,hh t,hh u,fy v x y]] w (ut (fE fm) w):=by
 have⟨B,_⟩:=b.law.cells;have c:∀a,ju w (w.alloc a):=λa=>(mi _ _).alloc (lw _) _;have hid:=λa=>Fy (b.below<|c a)<|(j:Int)+1;have l:=λa=>Fz (b.below<|c a).wI ((j:Int)+1) (by rw[xa d];exact k);have m:=λa f(g:Below (w.alloc a).heap.size (w.alloc a) f)=>rV ((b.below<|c a).below g) j d;have h:=λa f(g:Below (w.alloc a).heap.size (w.alloc a) f)=>Bd ((b.below<|c a).below g) j d;have n:=λ(e:Int)(z:fq)=>iR e z;have⟨C,o⟩:=ol<|A[j].kind;rw[<-o]at k h
 change fe _ at hid l m h n
 clear b o;go_enter func20,ntmps20;go_wp2_with(first
  |(go_at_call 39;refine Calls.still (hid _) ?_)
  |(go_at_call 40;refine Calls.via (l _) λw2 i=>?_)
  |(go_at_call 41;refine Calls.still (m _ _ i) ?_)
  |(go_at_call 42;refine Calls.still (h _ _ i) ?_)
  |(go_at_call 22;refine Calls.still (n _ _) ?_))
 go_ret;exact⟨fX,(c _).trans<|i.mono (by simp)⟩
theorem Lu(b:W3 ft I R b6 w W s r A J c5 c6 c7 c8 c9 c10 c11)(y z:Int)(B C)(D:ig)(E F)(j:Nat)(k:j<fv A)(l:A[j].kind=1):
  ik 20 #[ie W,fD #[fY 3,fY y,fY<|(j:Int)+1,fY z,hh B,hh C,fy D E F]] w (ut (fE fm) w):=by
 have⟨T,_⟩:=b.law.cells;have c:∀a,ju w (w.alloc a):=λa=>(mi _ _).alloc (lw _) _;have hid:=λa=>Fy (b.below<|c a)<|(j:Int)+1;have m:=λa=>Fs (b.below<|c a).wI j k l;have q:=λa d(f:Below (w.alloc a).heap.size (w.alloc a) d)=>rV ((b.below<|c a).below f) j k;have o:=λa d(f:Below (w.alloc a).heap.size (w.alloc a) d)=>Bd ((b.below<|c a).below f) j k;rw[l]at o;have p:=λa d(f:Below (w.alloc a).heap.size (w.alloc a) d)=>W3.obj ((b.below<|c a).below f) j k l;have t:=λa d(f:Below (w.alloc a).heap.size (w.alloc a) d)=>mE.cells ((b.below<|c a).below f).law;have u:=λ(e:Int)(G:fq)=>iR e G;have⟨U,v⟩:=ol<|A[j].data;rw[<-v]at p m;have H:fe _:=hid;have K:fe _:=m;have L:fe _:=q;have M:fe _:=o;have N:fe _:=u;have O:fe _:=p;have P:fe _:=t;obtain⟨n,x⟩:=ol<|fv A;have V:(j:Int)<(n:Int):=by omega
 have Q:fe (n=fv A):=x;clear hid m q o u b p t x l v;go_enter func20,ntmps20;go_wp2_with(first
  |(go_at_call 39;refine Calls.still (H _) ?_)
  |(go_at_call 40;refine Calls.via (K.o _) λw2 i=>?_;have⟨_,X,Y,_⟩:=P _ _ i;have⟨g,h,S,Z,aa,ab⟩:=O.o _ _ i;rw[<-Q.o]at S)
  |(go_at_call 41;refine Calls.still (L _ _ i) ?_)
  |(go_at_call 42;refine Calls.still (M.o _ _ i) ?_)
  |(go_at_call 22;refine Calls.still (N _ _) ?_))
 go_ret;exact⟨fX,(c _).trans<|i.mono (by simp)⟩
def pY(b:W3 ft I R b6 w W s r A J c5 c6 c7 c8 c9 c10 c11)(a:ju w H):Stepped ft I R b6 w H W s r c5 c6 c7 c8 c9 c10 c11:=
 ⟨I,R,b6,A,J,b.below a,zP.refl,fH.fJ a⟩
theorem Ie(a:W3 ft I R b6 w W s r A J c5 c6 c7 c8 c9 c10 c11)(f b g:Int)(h i)(k:ig)(l m):
  ik 20 #[ie W,fD #[fY 3,fY f,fY b,fY g,hh h,hh i,fy k l m]] w λe H=>e=fF (fE fm)/\Stepped ft I R b6 w H W s r c5 c6 c7 c8 c9 c10 c11:=by
 by_cases p:b<1\/(fv A:Int)<b;exact(NV a f b g h i k l m p).mono λe H⟨c,d⟩=>⟨c,pY a d⟩
 obtain⟨j,rfl⟩:∃j:Nat,b=(j:Int)+1:=⟨(b-1).toNat,by omega⟩;have n:j<fv A:=by omega
 by_cases o:A[j].kind=1;exact(Lu a f g h i k l m j n o).mono λe H⟨c,d⟩=>⟨c,pY a d⟩
 exact(NW a f g h i k l m j n o).mono λe H⟨c,d⟩=>⟨c,pY a d⟩
theorem Ig(a:W3 ft I R b6 w W s r A J c5 c6 c7 c8 c9 c10 c11)(i j k:Int)(l m)(o:ig)(q t):
  ik 20 #[ie W,fD #[fY 5,fY i,fY j,fY k,hh l,hh m,fy o q t]] w λe H=>e=fF (fE fm)/\Stepped ft I R b6 w H W s r c5 c6 c7 c8 c9 c10 c11:=by
 have⟨E,F,u,K⟩:=a.law.cells;obtain⟨v,x⟩:=ol (.cells #[fY 5,fY i,fY j,fY k,hh l,hh m,fy o q t] 57:Obj);have⟨O,d⟩:=ol<|w.alloc v;have b:ju w O:=by rw[d];exact(mi _ _).alloc (lw _) v
 have y:=λc=>zb (a.below<|iP b c).wI;have z:fe _:=y;have L:=(b.cell (p:=(ii W 0)) u).trans E;have M:=(b.cell (p:=(ii W 1)) u).trans F;have B:=a.few;have f:∃g h,O.c r 0=fh (fy g (fv A) h)/\r<O.heap.size:=by
  have⟨g,h,C⟩:=(a.below b).ref;exact⟨g,h,by rw[<-B.2];exact C.c0,C.lt⟩
 have⟨N,P,f,Q⟩:=f;have G:fe (∀c,Stepped ft I R b6 w (O.drewN c) W s r c5 c6 c7 c8 c9 c10 c11):=λc=>pY a<|iP b c;have⟨n,D⟩:=ol<|fv A;rw[<-D]at z f;clear y a B D;go_enter func20,ntmps20;go_wp2;rw[<-x,<-d];clear x d
 go_quiet (first|(go_at_call 45;exact Ca<|z _))
 go_wp2;go_ret;exact⟨fX,G _⟩
