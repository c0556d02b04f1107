/- A part of the proof. -/
import Derived.Test.YtlgidcmmgohagaaGreatComM24
import Derived.Test.YtlgidcmmgohagaaGreatComM23
set_option linter.all false
namespace Go.Proofs.YtlgidcmmgohagaaGreat
open Go.RowKit Go.Sort Go.Shelf Go.Proofs.Tryz
open Go.Value renaming slice->fy,string->fA,pointer->fB,tuple->fC,agg->fD,bool->fE
open Go.Ending renaming returned->fF
open Option renaming some->fh,none->fj
open Bool renaming true->fm,false->fo
open Go renaming World->fq,Value->fu
open List renaming length->fv,reverse->fx
open Go.RowKit renaming Hid->fe
set_option maxRecDepth 100000
set_option maxHeartbeats 0
variable {e ty:lV}{bt f j k I jf m n:Nat}{P:Nat×Nat->Prop}{op:Ops}{rest rest':iN}{d:Doc}{g g':WG}{xi xk:Int}{fc:jJ}{args cur:Array fu}{N M Ze:gF}{W' W1 w H wr:fq}{S nm rC s0 s1 s2 s3 Z xn:fP}{es E jv:List fV}{Q:Nat->Nat}{data kM q y:fT}{v:fu}{L L':List jX}{t t':LT}{x:Slot}{os:Array Obj}{a A:List Ob}{ws:List Slot}{ds:List Doc}{fs fs':b6}{Y:Kids}
variable {s i p sv dr ow n0 I B0 W r j Sb n:Nat}{B:WB}{A a J:List Ob}{t:LT}{g:WG}{K:List (Nat×Obj)}{fc:jJ}{fl:Nat->Option (Int×fP)}{b:Int}{L:List jX}{E base:List fV}{data T:fT}{N:gF}{w:fq}{rest:iN}{R:xP}{got:List Int}{ws:List Slot}{ds:List Doc}
theorem CT.cells(b:CT N w s i p B A g I sv dr ow t a L):sv<w.heap.size/\w.c sv 0=fh (ie B.bt)/\w.c sv 1=fh (ie dr)/\w.c sv 2=fh (.map<|fh ow):=by
 obtain⟨_,_⟩:=b.Ug
 grind [lW,World.cell?,ptr]
theorem CT.turn(b:CT N w s i p B A g I sv dr ow t a L)(m:fI (λt=>t=(0,1)) N M w H)(d:GR M H sv B.bt dr ow L')(h:I<=jf)(j:fv L'<=jf):CT M H s i p B A g jf sv dr ow t a L':=by
 have U:=b.inv.two;obtain⟨f,n,c,l⟩:=b.map;refine⟨fZ.mono ⟨b.inv.two,b.inv.st.moves m (λe=>by cases e) (λe=>by cases e),b.inv.wp.moves m (λk e=>by cases e;omega)⟩ h,d,⟨f,n,c.keep<|m.block ow c.lt (by rw[b.tow];intro e;cases e),l⟩,(m.tags ow c.lt).trans b.tow,j⟩
theorem CT.look(b:CT N w s i p B A g I sv dr ow t a L)(m:fI (gC i) N M w H)(d:fZ M H s i p B A g' jf)(e:I<=jf)(h:g'.fl=g.fl):CT M H s i p B A g' jf sv dr ow t a L:=by
 have U:=b.inv.two;obtain⟨f,n,c,j⟩:=b.map;have k:¬gC i (0,1):=by
  rintro(b|b|b)
  all_goals grind
 have l:¬gC i (0,0):=λb=>Mm U<|.inl b;exact⟨d,b.Ug.moves m k,⟨f,n,c.keep<|m.block ow c.lt (by rw[b.tow];exact l),by rw[h];exact j⟩,(m.tags ow c.lt).trans b.tow,wy b.few e⟩
theorem hn2(d:CT N w s i p B A g I sv dr ow t a L)(ab:I<1099511627776)(J:Good q)(is T:Bool):
  ik 204 #[ie sv,fD<|jn q,fE is,fE T] w λe H=>e=pD #[]/\∃M,fI (λt=>t=(0,1)) N M w H/\CT M H s i p B A g (I+1) sv dr ow t a (L++DM (lA q) is T):=by
 obtain⟨u,_⟩:=d.cells;have K:=d.Ug;obtain⟨P,C,c,j,D,FM⟩:=K;have v:∀n,((is=fm/\T=fm/\n=2)\/(is=fm/\T=fo/\n=1)\/(is=fo/\T=fm/\n=3))->DM (lA q) is T=[(lA q,n)]->
   ik 204 #[ie sv,fD<|jn q,fE is,fE T] w λe H=>e=pD #[]/\∃M,fI (λt=>t=(0,1)) N M w H/\CT M H s i p B A g (I+1) sv dr ow t a (L++DM (lA q) is T):=by
  intro n Q x;have y:=io D j (by decide);have ac:=d.few;refine(ZF sv C (fv L) c (iC L) _ _ _ _ _ (lA q) is T n Q w u (by simp[World.cell?,j]) (by simp[World.frozen?,j]) D y (by omega) λW=>hna q J W).mono ?_;rintro e H ⟨z,f,R,ad,O,h,E,o,F,rfl⟩;have ae:f<O.heap.size:=gc E fX;have G:∀k,k<w.heap.size->fh k≠(Value.slice C (fv L) c).ownBlock->O.heap[k]?=w.heap[k]?:=λk l r=>(o.block k (np l h.size) r).trans<|h.block k l
  have S:f≠sv:=by
   rintro rfl;rcases F with d|d
   exact y d
   have:=h.size
   omega
  have U:f<w.heap.size->N f=(0,1):=λaf=>by
   rcases F with d|d
   exact FM f d.symm
   have:=h.size
   omega
  have V:=wy h.size o.size;have m:fI (λt=>t=(0,1)) N (kY N f (0,1)) w (O.setCell (ii sv 3)<|my f 0 (fv L+1) R):=by
   refine⟨o.os.trans h.os,o.tape.trans h.tape,o.output.trans h.output,by simpa using V,λk l=>?_,λk l r=>?_,λX k l=>?_⟩;by_cases e:k=f;rw[e,nu,U<|by omega];exact xv e _;rw[vh _ _ _ _ λe=>r (by grind)];exact G k l λe=>r<|FM k e.symm;have ag:O.heap.size<=k:=by simpa using l
   rw[xv<|by omega];exact X k<|by omega
  have Y:=(G sv u y).trans j;refine⟨z,_,m,d.turn m ⟨(m.tags sv u).trans P,fh<|ii f 0,R,?_,?_,λb Z=>?_⟩ (jh _) ?_⟩;rw[x,lI,BX];simp[World.setCell,BV,Y];rw[x,lI,BX,ZB];exact gg E (λg' aa=>by cases aa;exact vh _ _ _ _ S);cases Z;exact nu _ _ _;rw[x,lI,BX];omega
 cases is with
 |true=>
  cases T with
  |true=>exact v 2 (.inl ⟨fX,fX,fX⟩) fX
  |false=>exact v 1 (.inr<|.inl ⟨fX,fX,fX⟩) fX
 |false=>
  cases T with
  |true=>exact v 3 (.inr<|.inr ⟨fX,fX,fX⟩) fX
  |false=>
   refine(ZG sv _ _ _ _ _ w).mono ?_;rintro e H ⟨z,j⟩;refine⟨z,N,fI.fJ j,?_⟩;rw[show DM (lA q) fo fo=[]from fX,lJ];exact(d.below j).mono<|jh _
def Inside (s i p:Nat)(B:WB)(A:List Ob)(sv dr ow:Nat)(t:LT)(a:List Ob)(N:gF)(w H:fq)(g:WG)(fs':b6)(I:Nat)(L:List jX)(v:fu)(es:List fV):Prop:=
 ∃M,fI (gC i) N M w H/\CT M H s i p B A { g with fs:=fs' } I sv dr ow t a L/\oT M H i v es/\∀v es,oT N w i v es->oT M H i v es
theorem GV(j:CT N w s i p B A g I sv dr ow t a L)(hF:Flat A t g.ft)(x:I<1099511627776)(y:Good q){b}(u:GM A n b)(z:∀es,b=fh (.own es)->t.at A q=b)(nm):
  ik 205 #[ie sv,fD<|jn q,wG<|jY nm b] w λe H=>∃v,e=pD #[v,fY (sK A g.fs b).2.1]/\Inside s i p B A sv dr ow t a N w H g (sK A g.fs b).1 (I+1) L v ((sK A g.fs b).2.2.map lL):=by
 obtain⟨C,c0,_⟩:=j.cells;by_cases h:(jY nm b).2.1=2;have D:=hnc j.inv.st.sound hF u z g.fs nm h;have E:wG (jY nm b)=fD #[hh (jY nm b).1,fY 2,fY (jY nm b).2.2]:=by unfold wG;rw[h]
 rw[E];refine(Ul sv B.bt _ _ _ _ _ (jY nm b).1 (jY nm b).2.2 (sK A g.fs b).2.1 (λv W H=>Inside s i p B A sv dr ow t a N W H g (sK A g.fs b).1 (I+1) L v<|(sK A g.fs b).2.2.map lL) w C c0 λW d=>?_).mono ?_
 have:=Bu (j.inv.below d) x y<|mag u nm h
 rw[D,h]at this;refine this.mono ?_;rintro e H ⟨v,k,M,m,F,l,o⟩;exact⟨v,k,M,m,(j.below d).look m F (jh _) fX,l,o⟩;rintro e H ⟨v,W,k,d,M,m,G,l,o⟩;exact⟨v,k,M,mr d m,G,l,λv es r=>o v es<|r.below d⟩;have J:sK A g.fs b=(g.fs,0,[]):=by
  rcases b with _|c
  rfl;cases c with
  |file i=>rfl
  |held f=>rfl
  |dir i=>exact absurd fX h
  |own es=>exact absurd fX h
 rw[J];refine(Uk sv _ _ _ _ _ (jY nm b).1 (jY nm b).2.1 (jY nm b).2.2 w h).mono ?_;rintro e H ⟨k,d⟩;exact⟨_,k,N,fI.fJ d,(j.below d).mono<|jh _,oT.nil _ _ _,λv es r=>r.below d⟩
theorem hol{w W}{f:fT->Option Int}(a:jV w ow n λq=>(f q).map<|Value.int .i64)(d:ju w W)(e:Good q)(c:LT)(g:c.id=0->∃r,f q=fh r)(nm):
  ik 74 #[fD #[ie bt,ie dr,.map<|fh ow],fD<|jn q,fD #[hh nm,fY c.kind,fY c.id]] W (ut (fY<|hnf f q c) W):=by
 unfold hnf;by_cases hid:c.id=0;obtain⟨r,b⟩:=g hid;rw[km λh=>h hid,hid,b];exact Uf ⟨n,lw _,a.keep<|d.block ow a.lt⟩ e b nm c.kind;rw[lv hid];exact xJ bt dr ow _ _ _ _ _ nm c.kind c.id W hid
def qR (n:Nat)(s0 s1 s2 s3 Z nm rC:fP)(k id a b:Int)(W:fq):Prop:=
 n+2<W.heap.size/\W.cell? ⟨n,0,fj⟩=fh (fA s0)/\W.cell? ⟨n,1,fj⟩=fh (fA s1)/\W.cell? ⟨n,2,fj⟩=fh (fA s2)/\W.cell? ⟨n,3,fj⟩=fh (fA s3)/\W.cell? ⟨n,4,fj⟩=fh (fA Z)/\
 W.cell? ⟨n+1,0,fj⟩=fh (fA nm)/\W.cell? ⟨n+1,1,fj⟩=fh (.int .i64 k)/\W.cell? ⟨n+1,2,fj⟩=fh (.int .i64 id)/\
 W.cell? ⟨n+2,0,fj⟩=fh (fA rC)/\W.cell? ⟨n+2,1,fj⟩=fh (.int .i64 a)/\W.cell? ⟨n+2,2,fj⟩=fh (.int .i64 b)
theorem qR.keep{k id b c:Int}{W W':fq}(d:qR n s0 s1 s2 s3 Z nm rC k id b c W)(f:W.heap.size<=W'.heap.size)(e:∀j,j<=2->∀a,W'.cell? (ii (n+j) a)=W.cell? (ii (n+j) a)):qR n s0 s1 s2 s3 Z nm rC k id b c W':=by
 have g:∀a,W'.cell? (ii n a)=W.cell? (ii n a):=λa=>e 0 (by omega) a;unfold qR at d |-
 grind
abbrev SCC:=fP×fP×fP×fP×fP
def Qn (x:SCC):fu:=fD #[fA x.1,fA x.2.1,fA x.2.2.1,fA x.2.2.2.1,fA x.2.2.2.2]
def hon (v:fu)(b:List fV)(j:Nat)(W:fq):Prop:=∀x,b[j]?=fh x->∃a c,v=fy (fh ⟨a,0,fj⟩) (fv b) c/\a<W.heap.size/\W.cell? ⟨a,j*3,fj⟩=fh (fA x.1)/\W.cell? ⟨a,j*3+1,fj⟩=fh (.int .i64 x.2.1)/\W.cell? ⟨a,j*3+2,fj⟩=fh (.int .i64 x.2.2)
def Mo (v:fu)(n:Nat):Prop:=∃a c,v=fy a n c
theorem uP.aa7{n sv bt dr ow:Nat}{k id a b:Int}{W}(c:qR n s0 s1 s2 s3 Z nm rC k id a b W)(d:W.c sv 0=fh (ie bt))(e:W.c sv 1=fh (ie dr))(f:W.c sv 2=fh (.map<|fh ow)):uP n sv bt dr ow s0 s1 s2 s3 Z nm rC k id a b W:=by
 obtain⟨_,g,h,i,j,l,m,o,p,d0,d1,d2⟩:=c;exact⟨d,e,f,g,h,i,j,l,m,o,p,d1,d2⟩
def iI (n m:Nat)(s0 s1 s2 s3 Z xn:fP)(xk xi:Int)(W:fq):Prop:=
 W.cell? ⟨n,0,fj⟩=fh (fA s0)/\W.cell? ⟨n,1,fj⟩=fh (fA s1)/\W.cell? ⟨n,2,fj⟩=fh (fA s2)/\W.cell? ⟨n,3,fj⟩=fh (fA s3)/\W.cell? ⟨n,4,fj⟩=fh (fA Z)/\W.cell? ⟨m,0,fj⟩=fh (fA xn)/\W.cell? ⟨m,1,fj⟩=fh (.int .i64 xk)/\W.cell? ⟨m,2,fj⟩=fh (.int .i64 xi)
def iI.keep{W W':fq}(b:iI n m s0 s1 s2 s3 Z xn xk xi W)(c:∀a,W'.c n a=W.c n a)(d:∀a,W'.c m a=W.c m a):iI n m s0 s1 s2 s3 Z xn xk xi W':=by
 unfold iI at b |-;simp only[c,d];exact b
def iI.at_{W wr:fq}(b:W.c n 0=wr.c n 0)(c:W.c n 1=wr.c n 1)(d:W.c n 2=wr.c n 2)(e:W.c n 3=wr.c n 3)(f:W.c n 4=wr.c n 4)(a:W.heap[m]?=fh (.cells #[hh xn,fY xk,fY xi] ty (0,0)))(g:wr.c n 0=fh (hh s0))(h:wr.c n 1=fh (hh s1))(i:wr.c n 2=fh (hh s2))(j:wr.c n 3=fh (hh s3))(k:wr.c n 4=fh (hh Z)):iI n m s0 s1 s2 s3 Z xn xk xi W:=
 ⟨b.trans g,c.trans h,d.trans i,e.trans j,f.trans k,lf a 0,lf a 1,lf a 2⟩
theorem iI.new(a:n<wr.heap.size)(c:wr.c n 0=fh (hh s0))(d:wr.c n 1=fh (hh s1))(e:wr.c n 2=fh (hh s2))(f:wr.c n 3=fh (hh s3))(g:wr.c n 4=fh (hh Z)):iI n wr.heap.size s0 s1 s2 s3 Z xn xk xi (wr.k #[hh xn,fY xk,fY xi] ty).drew:=by
 have b:ju wr (wr.k #[hh xn,fY xk,fY xi] ty).drew:=il<|(mi _ _).alloc (lw _) _;exact iI.at_ (b.cell (p:=(ii n 0)) a) (b.cell (p:=(ii n 1)) a) (b.cell (p:=(ii n 2)) a) (b.cell (p:=(ii n 3)) a) (b.cell (p:=(ii n 4)) a) (nX wr _) c d e f g
theorem Mp(sv bt dr ow:Nat)(s0 s1 s2 s3 Z nm rC:ByteArray)(k id k2 IE r:Int)(sm:Bool)(xs ys:List fV)(acR:xs.length<=16)(acS:ys.length<=16)(C:ByteArray->SCC)(P:ByteArray->fV)(I:ByteArray->Int)(T:ByteArray->Bool)
  (R0 R1:World->Prop)(R2:Value->World->Prop)(S1 S2:Value->Value->Nat->World->Prop)(Q:Int->World->Prop)(w:World)(hsv:sv<w.heap.size)(v0:w.cell? ⟨sv,0,none⟩=some (.pointer (some ⟨bt,0,none⟩)))(v1:w.cell? ⟨sv,1,none⟩=some (.pointer (some ⟨dr,0,none⟩)))(v2:w.cell? ⟨sv,2,none⟩=some (.map (some ow)))
  (SOM:k=k2->sm=decide (r=IE)/\∀W,Below w.heap.size w W->qR w.heap.size s0 s1 s2 s3 Z nm rC k id k2 IE W->Calls prog 74 #[.agg #[.pointer (some ⟨bt,0,none⟩),.pointer (some ⟨dr,0,none⟩),.map (some ow)],.agg #[.string s0,.string s1,.string s2,.string s3,.string Z],.agg #[.string nm,.int .i64 k,.int .i64 id]] W λe H=>e=.returned (.int .i64 r)/\R0 H/\qR w.heap.size s0 s1 s2 s3 Z nm rC k id k2 IE H/\∀o,H.cell? ⟨sv,o,none⟩=W.cell? ⟨sv,o,none⟩)
  (hno:k≠k2->sm=false/\∀W,Below w.heap.size w W->qR w.heap.size s0 s1 s2 s3 Z nm rC k id k2 IE W->R0 W)
  (qbv:∀W q,R0 W->R0 (W.drewN q))
  (hend:sm=true->∀W,R0 W->Q 0 W)
  (quo:sm=false->∀W,R0 W->qR w.heap.size s0 s1 s2 s3 Z nm rC k id k2 IE W->Calls prog 204 #[.pointer (some ⟨sv,0,none⟩),.agg #[.string s0,.string s1,.string s2,.string s3,.string Z],.bool (k == 1),.bool (k2 == 1)] W λe H=>e=.returned (.tuple #[])/\R1 H/\qR w.heap.size s0 s1 s2 s3 Z nm rC k id k2 IE H)
  (hin:∀W,R1 W->qR w.heap.size s0 s1 s2 s3 Z nm rC k id k2 IE W->Calls prog 205 #[.pointer (some ⟨sv,0,none⟩),.agg #[.string s0,.string s1,.string s2,.string s3,.string Z],.agg #[.string nm,.int .i64 k,.int .i64 id]] W λe H=>∃v er,e=.returned (.tuple #[v,.int .i64 er])/\((er=0/\Mo v xs.length/\R2 v H/\qR w.heap.size s0 s1 s2 s3 Z nm rC k id k2 IE H)\/(er=14/\(∃a n c,v=.slice a n c)/\Q 14 H)))
  (hbe:∀v W,R2 v W->qR w.heap.size s0 s1 s2 s3 Z nm rC k id k2 IE W->Calls prog 205 #[.pointer (some ⟨sv,0,none⟩),.agg #[.string s0,.string s1,.string s2,.string s3,.string Z],.agg #[.string rC,.int .i64 k2,.int .i64 IE]] W λe H=>∃u er,e=.returned (.tuple #[u,.int .i64 er])/\((er=0/\Mo u ys.length/\S1 v u 0 H)\/(er=14/\(∃a n c,u=.slice a n c)/\Q 14 H)))
  (Tag:∀v u j W,(S1 v u j W\/S2 v u j W)->qR w.heap.size s0 s1 s2 s3 Z nm rC k id k2 IE W)
  (Kb:∀v u j W,S1 v u j W->hon v xs j W)
  (hrow2:∀v u j W,S2 v u j W->hon u ys j W)
  (hoq:∀x W,((∃e ∈ xs,e.1=x)\/∃e ∈ ys,e.1=x)->Calls prog 196 #[.agg #[.string s0,.string s1,.string s2,.string s3,.string Z],.string x] W λe H=>e=.returned (Qn (C x))/\Below W.heap.size W H)
  (rat:∀v u j wr,S1 v u j wr->∀x W,Below wr.heap.size wr W->Calls prog 206 #[u,.string x] W λe H=>e=.returned (wG (P x))/\Below W.heap.size W H)
  (Try:∀v u j wr,S2 v u j wr->∀x W,Below wr.heap.size wr W->Calls prog 133 #[v,.string x] W λe H=>e=.returned (.tuple #[.int .i64 (I x),.bool (T x)])/\Below W.heap.size W H)
  (rbp:∀v u j wr,S1 v u j wr->∀x,xs[j]? = some x->∀W,Below wr.heap.size wr W->Calls prog 166 #[.pointer (some ⟨sv,0,none⟩),Qn (C x.1),wG x,wG (P x.1)] W λe H=>∃er,e=.returned (.int .i64 er)/\(∀b o,(b=w.heap.size\/b=wr.heap.size)->b<W.heap.size->H.cell? ⟨b,o,none⟩=W.cell? ⟨b,o,none⟩)/\((er=0/\S1 v u (j+1) H)\/(er=14/\Q 14 H)))
  (rbv:∀v u wr,S1 v u xs.length wr->S2 v u 0 wr)
  (rcc:∀v u j wr,S2 v u j wr->∀x,ys[j]? = some x->T x.1=true->∀W,Below wr.heap.size wr W->S2 v u (j+1) W)
  (rcs:∀v u j wr,S2 v u j wr->∀x,ys[j]? = some x->T x.1=false->∀W,Below wr.heap.size wr W->Calls prog 166 #[.pointer (some ⟨sv,0,none⟩),Qn (C x.1),.agg #[.string ByteArray.empty,.int .i64 0,.int .i64 0],wG x] W λe H=>∃er,e=.returned (.int .i64 er)/\(∀b o,(b=w.heap.size\/b=wr.heap.size)->b<W.heap.size->H.cell? ⟨b,o,none⟩=W.cell? ⟨b,o,none⟩)/\((er=0/\S2 v u (j+1) H)\/(er=14/\Q 14 H)))
  (hdone:∀v u wr,S2 v u ys.length wr->Q 0 wr):
  Calls prog 166 #[.pointer (some ⟨sv,0,none⟩),.agg #[.string s0,.string s1,.string s2,.string s3,.string Z],.agg #[.string nm,.int .i64 k,.int .i64 id],.agg #[.string rC,.int .i64 k2,.int .i64 IE]] w λe H=>∃er,e=.returned (.int .i64 er)/\Q er H:=by
 have hb:Below w.heap.size w (((w.alloc (.cells #[.string s0,.string s1,.string s2,.string s3,.string Z] 147)).alloc (.cells #[.string nm,.int .i64 k,.int .i64 id] 96)).alloc (.cells #[.string rC,.int .i64 k2,.int .i64 IE] 96)).drew:=il ((((Below.refl w.heap.size w).alloc (Nat.le_refl _) _).alloc (by simp) _).alloc (by simp;omega) _);obtain⟨x0,x1,x2⟩:=TM w (.cells #[.string s0,.string s1,.string s2,.string s3,.string Z] 147) (.cells #[.string nm,.int .i64 k,.int .i64 id] 96) (.cells #[.string rC,.int .i64 k2,.int .i64 IE] 96);have Ab:uP w.heap.size sv bt dr ow s0 s1 s2 s3 Z nm rC k id k2 IE (((w.alloc (.cells #[.string s0,.string s1,.string s2,.string s3,.string Z] 147)).alloc (.cells #[.string nm,.int .i64 k,.int .i64 id] 96)).alloc (.cells #[.string rC,.int .i64 k2,.int .i64 IE] 96)).drew:=
  ⟨(hb.cell (p:=⟨sv,0,none⟩) hsv).trans v0,(hb.cell (p:=⟨sv,1,none⟩) hsv).trans v1,(hb.cell (p:=⟨sv,2,none⟩) hsv).trans v2,lf x0 0,lf x0 1,lf x0 2,lf x0 3,lf x0 4,lf x1 0,lf x1 1,lf x1 2,lf x2 1,lf x2 2⟩
 have hCB:qR w.heap.size s0 s1 s2 s3 Z nm rC k id k2 IE (((w.alloc (.cells #[.string s0,.string s1,.string s2,.string s3,.string Z] 147)).alloc (.cells #[.string nm,.int .i64 k,.int .i64 id] 96)).alloc (.cells #[.string rC,.int .i64 k2,.int .i64 IE] 96)).drew:=
  ⟨by simp,lf x0 0,lf x0 1,lf x0 2,lf x0 3,lf x0 4,lf x1 0,lf x1 1,lf x1 2,lf x2 0,lf x2 1,lf x2 2⟩
 have HCB:Hid _:=hCB;have HB:Hid _:=hb;have mlt:Hid _:=SOM;have HNO:Hid _:=hno;have Udp:Hid _:=qbv;have Pc:Hid _:=hend;have Wa:Hid _:=quo;have HIN:Hid _:=hin;have HBE:Hid _:=hbe;have mod:Hid _:=Tag;have HR1:Hid _:=Kb;have HR2:Hid _:=hrow2;have HCH:Hid _:=hoq;have HPK:Hid _:=rat;have HSE:Hid _:=Try;have HC1:Hid _:=rbp;have HNX:Hid _:=rbv;have HSK:Hid _:=rcc;have HC2:Hid _:=rcs;have HDO:Hid _:=hdone;clear hCB hb SOM hno qbv hend quo hin hbe Tag Kb hrow2 hoq rat Try rbp rbv rcc rcs hdone x0 x1 x2;go_enter func166,ntmps166;go_upto_region 1 with fail
 go_cut [36] from 20 to 112 (λc wx=>c=.bool sm/\Hid (R0 wx/\qR w.heap.size s0 s1 s2 s3 Z nm rC k id k2 IE wx))
 case first=>
  unfold uP at Ab;by_cases hkk:k=k2
  ·obtain⟨hsm,hO⟩:=mlt.o hkk
   have HO:Hid _:=hO _ HB.o HCB.o;subst hkk;have HSM:Hid _:=hsm;clear hsm hO mlt HNO Pc Wa HIN HBE mod HR1 HR2 HCH HPK HSE HC1 HNX HSK HC2 HDO HCB
   go_region_held3 (λW=>W.cell? ⟨sv,0,none⟩=some (.pointer (some ⟨bt,0,none⟩))/\W.cell? ⟨sv,1,none⟩=some (.pointer (some ⟨dr,0,none⟩))/\W.cell? ⟨sv,2,none⟩=some (.map (some ow))/\W.cell? ⟨w.heap.size,0,none⟩=some (.string s0)/\W.cell? ⟨w.heap.size,1,none⟩=some (.string s1)/\W.cell? ⟨w.heap.size,2,none⟩=some (.string s2)/\W.cell? ⟨w.heap.size,3,none⟩=some (.string s3)/\W.cell? ⟨w.heap.size,4,none⟩=some (.string Z)/\W.cell? ⟨w.heap.size+1,0,none⟩=some (.string nm)/\W.cell? ⟨w.heap.size+1,1,none⟩=some (.int .i64 k)/\W.cell? ⟨w.heap.size+1,2,none⟩=some (.int .i64 id)/\W.cell? ⟨w.heap.size+2,1,none⟩=some (.int .i64 k)/\W.cell? ⟨w.heap.size+2,2,none⟩=some (.int .i64 IE))
    (first | exact Ab | exact hSc)
    (first
    | (go_at_call 74;refine Calls.mono HO.o ?_;rintro e w3 ⟨rfl,hR,hB3,hc3⟩;have hSc:=uP.aa7 hB3 ((hc3 0).trans Ab.1) ((hc3 1).trans Ab.2.1) ((hc3 2).trans Ab.2.2.1);unfold uP at hSc;have HR:Hid _:=And.intro hR hB3;clear hR hB3 hc3))
   all_goals
    go_wp2_with fail;go_meet;refine⟨?_,?_⟩
    ·rw[HSM.o];first | rfl | (congr 1;simp) | simp
    ·exact HR.o
  ·obtain⟨hsm,hO⟩:=HNO.o hkk
   have HO:Hid _:=λq=>Udp.o _ q (hO (((w.alloc (.cells #[.string s0,.string s1,.string s2,.string s3,.string Z] 147)).alloc (.cells #[.string nm,.int .i64 k,.int .i64 id] 96)).alloc (.cells #[.string rC,.int .i64 k2,.int .i64 IE] 96)) ((((Below.refl w.heap.size w).alloc (Nat.le_refl _) _).alloc (by simp) _).alloc (by simp;omega) _) HCB.o);have hkb:(k == k2)=false:=by simpa using hkk
   subst hsm;clear hO mlt HNO Pc Wa HIN HBE mod HR1 HR2 HCH HPK HSE HC1 HNX HSK HC2 HDO
   go_quiet (fail)
   all_goals
    go_wp2_with fail;go_meet;exact⟨rfl,HO.o _,HCB.o⟩
 case rest=>
  obtain⟨rfl,HR⟩:=hcut;clear Ab mlt HNO HCB HB;cases hsm:sm with
  | true=>
   have HQ:Hid _:=Pc.o hsm _ HR.o.1;subst hsm;go_wp2;go_ret;exact⟨0,rfl,HQ.o⟩
  | false=>
   have HN:Hid _:=Wa.o hsm _ HR.o.1 HR.o.2;obtain⟨hz,a0,a1,a2,a3,a4,b0,b1,b2,d0,d1,d2⟩:=HR.o.2;subst hsm;clear Pc Wa HR;go_wp2_with fail;refine Calls.mono HN.o ?_;rintro e w2 ⟨rfl,hR1,hB1⟩;have HI:Hid _:=HIN.o _ hR1 hB1;clear hz a0 a1 a2 a3 a4 b0 b1 b2 d0 d1 d2 HN HIN hR1;obtain⟨hz,a0,a1,a2,a3,a4,b0,b1,b2,d0,d1,d2⟩:=hB1;go_wp2_with fail;refine Calls.mono HI.o ?_;rintro e w3 ⟨v,er,rfl,⟨rfl,⟨va,vc,rfl⟩,hR2,hB2⟩ | ⟨rfl,⟨va,vn,vc,rfl⟩,hQ⟩⟩
   ·have HBB:Hid _:=HBE.o _ _ hR2 hB2
    clear hz a0 a1 a2 a3 a4 b0 b1 b2 d0 d1 d2 HI HBE hR2;obtain⟨hz,a0,a1,a2,a3,a4,b0,b1,b2,d0,d1,d2⟩:=hB2;go_wp2_with fail;refine Calls.mono HBB.o ?_;rintro e w4 ⟨u,er,rfl,⟨rfl,⟨ua,uc,rfl⟩,hS⟩ | ⟨rfl,⟨ua,un,uc,rfl⟩,hQ⟩⟩
    ·have HS:Hid _:=hS
     clear hz a0 a1 a2 a3 a4 b0 b1 b2 d0 d1 d2 HBB hS;obtain⟨m,hm⟩:∃m,m=xs.length:=⟨_,rfl⟩;obtain⟨m',hm'⟩:∃m',m'=ys.length:=⟨_,rfl⟩;have HM:Hid _:=hm;have HM':Hid _:=hm';rw[<-hm] at acR |-;rw[<-hm'] at acS |-;rw[<-hm,<-hm'] at HS;clear hm hm';go_wp2
     go_loopw [68] (λiv wr=>∃j:Nat,j<=m/\iv=.int .i64 (j:Int)/\Hid (S1 (.slice va m vc) (.slice ua m' uc) j wr)) (λiv _=>m-(intOf iv).toNat)
     case atStart=>exact⟨0,Nat.zero_le _,rfl,HS⟩
     case round=>
      obtain⟨j,hj,rfl,HJ⟩:=hrel;rename World=>wr;obtain⟨hz,a0,a1,a2,a3,a4,_⟩:=mod.o _ _ _ _ (.inl HJ.o);by_cases hjm:j<m
      ·have hjx:j<xs.length:=by rw[<-HM.o];exact hjm
       have hxe:xs[j]? = some xs[j]:=List.getElem?_eq_getElem hjx;obtain⟨gb,c,ev,hgb,r0,r1,r2⟩:=HR1.o _ _ _ _ HJ.o _ hxe;cases ev;have IG:Hid _:=λW=>HCH.o (xs[j]).1 W (.inl ⟨_,List.getElem_mem hjx,rfl⟩);have mps:Hid _:=HPK.o _ _ _ _ HJ.o (xs[j]).1;have ZH:Hid _:=HC1.o _ _ _ _ HJ.o _ hxe;clear hxe;generalize C (xs[j]).1=ch at IG ZH;generalize P (xs[j]).1=pk at mps ZH;generalize xs[j]=x at r0 r1 r2 IG mps ZH;obtain⟨xn,xk,xi⟩:=x;obtain⟨c0,c1,c2,c3,c4⟩:=ch;obtain⟨pn,pkk,pid⟩:=pk;simp only[Qn,wG] at r0 r1 r2 IG mps ZH;have b0:Below wr.heap.size wr (wr.alloc (.cells #[.string xn,.int .i64 xk,.int .i64 xi] 96)).drew:=il ((Below.refl _ _).alloc (Nat.le_refl _) _);have hz0:wr.heap.size<(wr.alloc (.cells #[.string xn,.int .i64 xk,.int .i64 xi] 96)).drew.heap.size:=by simp
       have Ab:iI w.heap.size wr.heap.size s0 s1 s2 s3 Z xn xk xi (wr.alloc (.cells #[.string xn,.int .i64 xk,.int .i64 xi] 96)).drew:=iI.new (by omega) a0 a1 a2 a3 a4;go_wp2;unfold iI at Ab
       go_region_held3 (λW=>W.cell? ⟨w.heap.size,0,none⟩=some (.string s0)/\W.cell? ⟨w.heap.size,1,none⟩=some (.string s1)/\W.cell? ⟨w.heap.size,2,none⟩=some (.string s2)/\W.cell? ⟨w.heap.size,3,none⟩=some (.string s3)/\W.cell? ⟨w.heap.size,4,none⟩=some (.string Z)/\W.cell? ⟨wr.heap.size,0,none⟩=some (.string xn)/\W.cell? ⟨wr.heap.size,1,none⟩=some (.int .i64 xk)/\W.cell? ⟨wr.heap.size,2,none⟩=some (.int .i64 xi))
        (first | exact Ab | exact hSc | exact hSb)
        (first
        | (go_at_call 196;refine Calls.mono (IG.o _) ?_;rintro e w5 ⟨rfl,hb5⟩;replace Ab:=iI.keep (n:=w.heap.size) (m:=wr.heap.size) Ab (λo=>(kw hb5).1 _ o (by omega)) (λo=>(kw hb5).1 _ o hz0);unfold iI at Ab;replace b0:=gS b0 hb5;replace hz0:=Nat.lt_of_lt_of_le hz0 hb5.size)
        | (go_at_call 206;refine Calls.mono (mps.o _ b0) ?_;rintro e w6 ⟨rfl,hb6⟩;replace Ab:=iI.keep (n:=w.heap.size) (m:=wr.heap.size) Ab (λo=>(kw hb6).1 _ o (by omega)) (λo=>(kw hb6).1 _ o hz0);unfold iI at Ab;replace b0:=gS b0 hb6;replace hz0:=Nat.lt_of_lt_of_le hz0 hb6.size)
        | (go_at_call 166;refine Calls.mono (ZH.o _ b0) ?_;rintro e w7 ⟨er,rfl,hk7,hE⟩;replace Ab:=iI.keep (n:=w.heap.size) (m:=wr.heap.size) Ab (λo=>hk7 _ o (.inl rfl) (by omega)) (λo=>hk7 _ o (.inr rfl) hz0);unfold iI at Ab;have HE:Hid _:=hE;clear hE hk7))
       all_goals
        rcases HE.o with ⟨rfl,hS7⟩ | ⟨rfl,hQ7⟩
        ·have HS7:Hid _:=hS7
         clear HE hS7;go_wp2;exact⟨⟨j+1,by omega,by simp,HS7⟩,by simp[intOf];omega⟩
        ·have HQ7:Hid _:=hQ7
         clear HE hQ7;go_wp2;go_ret;exact⟨14,rfl,HQ7.o⟩
      ·have hje:j=m:=by omega
       have HS2:Hid _:=HNX.o _ _ _ (show S1 _ _ xs.length wr by rw[<-HM.o,<-hje];exact HJ.o);clear HJ hje HC1 HPK HR1 HNX;go_wp2;clear hjm hj
       go_loopw [89] (λiv wr=>∃j:Nat,j<=m'/\iv=.int .i64 (j:Int)/\Hid (S2 (.slice va m vc) (.slice ua m' uc) j wr)) (λiv _=>m'-(intOf iv).toNat)
       case atStart=>exact⟨0,Nat.zero_le _,rfl,HS2⟩
       case round=>
        obtain⟨j,hj,rfl,HJ⟩:=hrel;rename World=>wr;obtain⟨hz,a0,a1,a2,a3,a4,_⟩:=mod.o _ _ _ _ (.inr HJ.o);by_cases hjm:j<m'
        ·have hjx:j<ys.length:=by rw[<-HM'.o];exact hjm
         have hxe:ys[j]? = some ys[j]:=List.getElem?_eq_getElem hjx;obtain⟨gb,c,ev,hgb,r0,r1,r2⟩:=HR2.o _ _ _ _ HJ.o _ hxe;cases ev;have IG:Hid _:=λW=>HCH.o (ys[j]).1 W (.inr ⟨_,List.getElem_mem hjx,rfl⟩);have ZI:Hid _:=HSE.o _ _ _ _ HJ.o (ys[j]).1;have ZH:Hid _:=HC2.o _ _ _ _ HJ.o _ hxe;have hos:Hid _:=HSK.o _ _ _ _ HJ.o _ hxe;clear hxe;generalize T (ys[j]).1=th at ZI ZH hos;generalize I (ys[j]).1=ix at ZI;generalize C (ys[j]).1=ch at IG ZH;generalize ys[j]=x at r0 r1 r2 IG ZI ZH hos;obtain⟨xn,xk,xi⟩:=x;obtain⟨c0,c1,c2,c3,c4⟩:=ch;simp only[Qn,wG] at r0 r1 r2 IG ZI ZH;have b0:Below wr.heap.size wr (wr.alloc (.cells #[.string xn,.int .i64 xk,.int .i64 xi] 96)):=(Below.refl _ _).alloc (Nat.le_refl _) _;have hz0:wr.heap.size<(wr.alloc (.cells #[.string xn,.int .i64 xk,.int .i64 xi] 96)).heap.size:=by simp
         have hy0:=heap_alloc_new wr (.cells #[.string xn,.int .i64 xk,.int .i64 xi] 96);have ac1:Hid _:=ZI.o _ b0;clear ZI;go_wp2_with fail;refine Calls.mono ac1.o ?_;rintro e w5 ⟨rfl,hb5⟩;have b5:Below wr.heap.size wr w5:=gS b0 hb5;cases th with
         | true=>
          have HSS:Hid _:=hos.o rfl _ b5;clear ZH hos IG;go_wp2;exact⟨⟨j+1,by omega,by simp,HSS⟩,by simp[intOf];omega⟩
         | false=>
          have HCy:Hid _:=ZH.o rfl;clear ZH hos;have y5:=(hb5.block wr.heap.size hz0).trans hy0;have ac2:wr.heap.size<w5.heap.size:=Nat.lt_of_lt_of_le hz0 hb5.size;have bd:Below w5.heap.size w5 w5.drew:=il (Below.refl _ _);have bw:Below wr.heap.size wr w5.drew:=gS b5 bd;have hwz:w.heap.size<wr.heap.size:=(by omega);have Ab:iI w.heap.size wr.heap.size s0 s1 s2 s3 Z xn xk xi w5.drew:=iI.at_ (bw.cell (p:=⟨w.heap.size,0,none⟩) hwz) (bw.cell (p:=⟨w.heap.size,1,none⟩) hwz) (bw.cell (p:=⟨w.heap.size,2,none⟩) hwz) (bw.cell (p:=⟨w.heap.size,3,none⟩) hwz) (bw.cell (p:=⟨w.heap.size,4,none⟩) hwz) y5 a0 a1 a2 a3 a4;replace hz0:wr.heap.size<w5.drew.heap.size:=ac2;have hzw:w.heap.size<w5.drew.heap.size:=(by have:=b5.size;show _<w5.heap.size;omega);go_wp2;unfold iI at Ab
          go_region_held3 (λW=>W.cell? ⟨w.heap.size,0,none⟩=some (.string s0)/\W.cell? ⟨w.heap.size,1,none⟩=some (.string s1)/\W.cell? ⟨w.heap.size,2,none⟩=some (.string s2)/\W.cell? ⟨w.heap.size,3,none⟩=some (.string s3)/\W.cell? ⟨w.heap.size,4,none⟩=some (.string Z)/\W.cell? ⟨wr.heap.size,0,none⟩=some (.string xn)/\W.cell? ⟨wr.heap.size,1,none⟩=some (.int .i64 xk)/\W.cell? ⟨wr.heap.size,2,none⟩=some (.int .i64 xi))
           (first | exact Ab | exact hSc | exact hSb)
           (first
           | (go_at_call 196;refine Calls.mono (IG.o _) ?_;rintro e w6 ⟨rfl,hb6⟩;replace Ab:=iI.keep (n:=w.heap.size) (m:=wr.heap.size) Ab (λo=>(kw hb6).1 _ o hzw) (λo=>(kw hb6).1 _ o hz0);unfold iI at Ab;replace bw:=gS bw hb6;replace hz0:=Nat.lt_of_lt_of_le hz0 hb6.size;replace hzw:=Nat.lt_of_lt_of_le hzw hb6.size)
           | (go_at_call 166;refine Calls.mono (HCy.o _ bw) ?_;rintro e w7 ⟨er,rfl,hk7,hE⟩;replace Ab:=iI.keep (n:=w.heap.size) (m:=wr.heap.size) Ab (λo=>hk7 _ o (.inl rfl) hzw) (λo=>hk7 _ o (.inr rfl) hz0);unfold iI at Ab;have HE:Hid _:=hE;clear hE hk7))
          all_goals
           rcases HE.o with ⟨rfl,hS7⟩ | ⟨rfl,hQ7⟩
           ·have HS7:Hid _:=hS7
            clear HE hS7;go_wp2;exact⟨⟨j+1,by omega,by simp,HS7⟩,by simp[intOf];omega⟩
           ·have HQ7:Hid _:=hQ7
            clear HE hQ7;go_wp2;go_ret;exact⟨14,rfl,HQ7.o⟩
        ·have hje:j=m':=by omega
         have HQ:Hid _:=HDO.o _ _ _ (show S2 _ _ ys.length wr by rw[<-HM'.o,<-hje];exact HJ.o);clear HJ hje;go_wp2;go_ret;exact⟨0,rfl,HQ.o⟩
    ·go_wp2
     go_ret;exact⟨14,rfl,hQ⟩
   ·go_wp2
    go_ret;exact⟨14,rfl,hQ⟩
theorem GX(b:fO (Y.map lL))(n):kB (Y.map lL) n=(jp Y n).isSome:=by
 have a:=nj (n:=n) b;rw[AP]at a;cases d:kB (Y.map lL) n with
 |false=>rw[d]at a;cases e:jp Y n with
  |none=>rfl
  |some c=>rw[e]at a;cases a
 |true=>
  grind [kB,lL,ub,jp]
def ZJ(Y:Kids)(n):VZ (Y.map lL) n=jY n (jp Y n):=by
 unfold VZ;rw[AP];cases jp Y n<;>rfl
def tK(a:fO Y):fO (Y.map lL):=wz.2 a
def Qo (N:gF)(W:fq)(K:List (Nat×Obj)):Prop:=∀x∈K,W.heap[x.1]?=fh x.2/\N x.1=(0,0)
theorem Qo.moves{K:List (Nat×Obj)}(a:Qo N w K)(m:fI P N M w H)(c:¬P (0,0)):Qo M H K:=λx b=>m.at (a x b).1 (a x b).2 c
def Wb (s i p:Nat)(B:WB)(A:List Ob)(sv dr ow:Nat)(t:LT)(a:List Ob)(g:WG)(K:List (Nat×Obj))(N:gF)(w:fq)(fs:b6)(I:Nat)(L c:List jX)(b:Int)(H:fq):Prop:=
 ∃M fs' L',fI (vS i) N M w H/\(∀v es,oT N w i v es->oT M H i v es)/\Qo M H K/\CT M H s i p B A { g with fs:=fs' } I sv dr ow t a L'/\((b=0/\fs.Next fs'/\L'=L++c)\/(b=14/\fs.Co fs'))
structure Ky (s i p:Nat)(B:WB)(gM:List Ob)(sv dr ow:Nat)(t:LT)(a:List Ob)(g:WG)(K:List (Nat×Obj))(Ze:gF)(w:World)(n:Nat)(tg:gF)(W:World)(fs:b6)(lim:Nat)(L:List jX):Prop where
 mv:fI (vS i) Ze tg w W
 slc:∀v es,oT Ze w i v es->oT tg W i v es
 st:CT tg W s i p B gM { g with fs:=fs } lim sv dr ow t a L
 kp:Qo tg W K
 bx:∀j,j<=2->n+j<W.heap.size/\tg (n+j)=(0,0)
theorem Ky.below{w W W'}(b:Ky s i p B A sv dr ow t a g K Ze w n0 N W fs I L)(c:ju W W'):Ky s i p B A sv dr ow t a g K Ze w n0 N W' fs I L:=
 ⟨b.mv.trans<|fI.fJ c,λv es e=>(b.slc v es e).below c,b.st.below c,b.kp.moves (fI.fJ (P:=λ_=>False) c) id,λj d=>⟨np (b.bx j d).1 c.size,(b.bx j d).2⟩⟩
def Ky.mono{w W}(b:Ky s i p B A sv dr ow t a g K Ze w n0 N W fs I L)(c:I<=jf):Ky s i p B A sv dr ow t a g K Ze w n0 N W fs jf L:=⟨b.mv,b.slc,b.st.mono c,b.kp,b.bx⟩
theorem Ky.call(f:∀t,P t->vS i t){w W H}(c:Ky s i p B A sv dr ow t a g K Ze w n0 N W fs I L)(m:fI P N M W H)(h:∀v es,oT N W i v es->oT M H i v es)(k:CT M H s i p B A { g with fs:=fs' } jf sv dr ow t a L'):
  Ky s i p B A sv dr ow t a g K Ze w n0 M H fs' jf L'/\(∀b,b<W.heap.size->N b=(0,0)->∀d,H.c b d=W.c b d)/\W.heap.size<=H.heap.size:=by
 have l:¬P (0,0):=λn=>Mm c.st.inv.two<|f _ n;exact⟨⟨c.mv.trans<|m.mono f,λv es o=>h v es<|c.slc v es o,k,c.kp.moves m l,λj e=>⟨np (c.bx j e).1 m.size,(m.tags _ (c.bx j e).1).trans (c.bx j e).2⟩⟩,λb q r d=>wJ (a:=(ii b d))<|m.block b q (by grind),m.size⟩
theorem Ky.box{w W H:fq}(d:Ky s i p B A sv dr ow t a g K Ze w n0 N W fs I L){k id e f:Int}(l:qR n0 s0 s1 s2 s3 Z nm rC k id e f W)(m:∀b,b<W.heap.size->N b=(0,0)->∀c,H.c b c=W.c b c)(n:W.heap.size<=H.heap.size):qR n0 s0 s1 s2 s3 Z nm rC k id e f H:=
 l.keep n λj h c=>m _ (d.bx j h).1 (d.bx j h).2 c
theorem Wc{W}(a:oT N W i v es)(j):hon v es j W:=by
 intro x b;obtain⟨d,rfl⟩:=wH.1 b;obtain⟨e,c,rfl⟩:=hZ a.1 (by omega);have⟨c0,c1,c2⟩:=lr (off:=0) (ks a.1) d;rw[iO]at c0 c1 c2;exact⟨e,c,fX,gc a.1 fX,c0,c1,c2⟩
theorem hpa{W}(a:oT N W i v es):Mo v (fv es):=by
 rcases a.1.2 with⟨e,b⟩|⟨g',c,_,e,_⟩
 exact⟨fj,0,by rw[e,b]⟩;exact⟨_,_,e⟩
def Um{W}(a:oT N W i v es)(b:fO es)(c:fv es<=16)(x)(d:ju W W'):
  ik 133 #[v,hh x] W' (ut (fC #[fY (ub es x:Nat),fE<|kB es x]) W'):=iG (a.below d).1 x b c
theorem vT(ag:Sound A)(U:2<=i)(hF:Flat A t g.ft){n cb:Nat}(hn5:n<=5){now T}(ap:GM A n now)(aq:GM A n T)(aU:BQ T)(aV:∀c,now=fh c->t.at A q=fh c)(ar:Good q)(bp:fv q+n<=5)(nm rC)
  (bq:3+(fv (li A now)+fv (li A T))*cb<=cB n)
  {w0 w:fq}(br:I+cB n<1099511627776)(aW:sv<w.heap.size)(aX:w.c sv 0=fh (ie B.bt))(aY:w.c sv 1=fh (ie dr))(aZ:w.c sv 2=fh (.map<|fh ow))
  (r:Int)(htest:IH now=IH T->(r=Ku T↔∀y,Hk A (gz A g.fl) now y=Hk A qQ T y))
  (bb:IH now=IH T->∀W,ju w W->qR w.heap.size (comp q 0) (comp q 1) (comp q 2) (comp q 3) (comp q 4) (jY nm now).1 (jY rC T).1 (IH now) (Ku now) (IH T) (Ku T) W->ik 74 #[fD #[ie B.bt,ie dr,.map<|fh ow],fD<|jn q,fD #[hh (jY nm now).1,fY<|IH now,fY<|Ku now]] W λe H=>e=fF (fY r)/\(∃M,Ky s i p B A sv dr ow t a g K N w0 w.heap.size M H fs I L)/\qR w.heap.size (comp q 0) (comp q 1) (comp q 2) (comp q 3) (comp q 4) (jY nm now).1 (jY rC T).1 (IH now) (Ku now) (IH T) (Ku T) H/\∀h,H.c sv h=W.c sv h)
  (bc:IH now≠IH T->∀W,ju w W->w.heap.size+2<W.heap.size->∃M,Ky s i p B A sv dr ow t a g K N w0 w.heap.size M W fs I L)
  (aL:∀x,(jp (li A now) x≠fj\/jp (li A T) x≠fj)->∀N w fs I L,CT N w s i p B A { g with fs:=fs } I sv dr ow t a L->I+cb<1099511627776->
   ik 166 #[ie sv,fD<|jn (q++[x]),wG<|jY x (jp (li A now) x),wG<|jY x (jp (li A T) x)] w λe H=>∃P,e=fF (fY P)/\Wb s i p B A sv dr ow t a g [] N w fs (I+cb) L ((cmpL A (gz A g.fl) qQ (n-1) (q++[x]) (jp (li A now) x)<|jp (li A T) x).map Ak) P H):
  ik 166 #[ie sv,fD<|jn q,wG<|jY nm now,wG<|jY rC T] w λe H=>∃P,e=fF (fY P)/\Wb s i p B A sv dr ow t a g K N w0 fs (I+cB n) L ((cmpL A (gz A g.fl) qQ n q now T).map Ak) P H:=by
 have⟨ah,bd⟩:=mR ag ap;have⟨av,be⟩:=mR ag aq;have aM:fv (li A now)<=16:=rB ag ap;have aN:fv (li A T)<=16:=rB ag aq;have bf:∀x,(jp (li A now) x≠fj\/jp (li A T) x≠fj)->fv q<=4:=λx d=>by
  rcases d with d|d
  have⟨c,J⟩:=Rj.1 d;have⟨m,e,_⟩:=bd _<|mS J;omega;have⟨c,J⟩:=Rj.1 d;have⟨m,e,_⟩:=be _<|mS J;omega
 -- what is found,in pieces
 have⟨ac,aw⟩:=ol<|DM (lA q) (decide (IH now=1)) (decide (IH T=1));obtain⟨ai,aO⟩:=ol (λx=>(cmpL A (gz A g.fl) qQ (n-1) (q++[x.1]) (fh x.2) (jp (li A T) x.1)).map Ak:fP×LT->List jX);have⟨aj,aP⟩:=ol (λx=>(cmpL A (gz A g.fl) qQ (n-1) (q++[x.1]) fj (fh x.2)).map Ak:fP×LT->List jX);have⟨ad,ax⟩:=ol (λx=>(jp (li A now) x.1).isNone:fP×LT->Bool);have aQ:(¬ ∀y,Hk A (gz A g.fl) now y=Hk A qQ T y)->(cmpL A (gz A g.fl) qQ n q now T).map Ak=ac++(li A now).flatMap ai++((li A T).filter ad).flatMap aj:=λbg=>by
  rw[hnn ag ap aq bg,nh,nh,Uh,<-aw,List.map_flatMap,List.map_flatMap,<-aO,<-aP,<-ax,sL]
 obtain⟨aR,aS⟩:=ol<|(cmpL A (gz A g.fl) qQ n q now T).map Ak;rw[<-aS]at aQ |-;have bh:(∀y,Hk A (gz A g.fl) now y=Hk A qQ T y)->aR=[]:=λo=>by rw[aS,hnm o];rfl
 have bs:fv ac<=1:=by rw[aw];unfold DM;split<;>split<;>simp
 -- the test
 let aa:Bool:=@decide (∀y,Hk A (gz A g.fl) now y=Hk A qQ T y) (Classical.propDecidable _)
 have bi:aa=fm->∀y,Hk A (gz A g.fl) now y=Hk A qQ T y:=λe=>@of_decide_eq_true _ (Classical.propDecidable _) e;have bj:aa=fo->¬ ∀y,Hk A (gz A g.fl) now y=Hk A qQ T y:=λe=>@of_decide_eq_false _ (Classical.propDecidable _) e;have aT:∀t,gC i t->vS i t:=λt Q=>.inl Q;have bk:∀t,t=((0,1):Nat×Nat)->vS i t:=λt Q=>.inr Q;have au:∀(z:fP)(h:Option LT),wG (jY z h)=fD #[hh (jY z h).1,fY<|IH h,fY<|Ku h]:=λz h=>by cases h<;>rfl
 -- of the kids
 have ay:∀(Y:Kids)(j:Nat)x,(Y.map lL)[j]?=fh x->∃S:j<fv Y,x=lL Y[j]:=λY j x d=>by
  have⟨S,e⟩:=wH.1 d;have ab:j<fv Y:=by simpa using S
  exact⟨ab,by rw[<-e,yS]⟩
 rw[au,au];refine(Mp sv B.bt dr ow _ _ _ _ _ (jY nm now).1 (jY rC T).1 (IH now) (Ku now) (IH T) (Ku T) r aa ((li A now).map lL) ((li A T).map lL) (by simpa using aM) (by simpa using aN)
  (λx=>(comp (q++[x]) 0,comp (q++[x]) 1,comp (q++[x]) 2,comp (q++[x]) 3,comp (q++[x]) 4)) (λx=>jY x<|jp (li A T) x) (λx=>(ub ((li A now).map lL) x:Nat)) (λx=>kB ((li A now).map lL) x)
  (λW=>∃M,Ky s i p B A sv dr ow t a g K N w0 w.heap.size M W fs I L)
  (λW=>aa=fo/\∃M,Ky s i p B A sv dr ow t a g K N w0 w.heap.size M W fs (I+1)<|L++ac)
  (λv W=>aa=fo/\∃M fs',Ky s i p B A sv dr ow t a g K N w0 w.heap.size M W fs' (I+2) (L++ac)/\fs.Next fs'/\oT M W i v ((li A now).map lL))
  (λv F j W=>aa=fo/\(∃M fs',Ky s i p B A sv dr ow t a g K N w0 w.heap.size M W fs' (I+3+j*cb) (L++ac++((li A now).take j).flatMap ai)/\fs.Next fs'/\oT M W i v ((li A now).map lL)/\oT M W i F ((li A T).map lL))/\qR w.heap.size (comp q 0) (comp q 1) (comp q 2) (comp q 3) (comp q 4) (jY nm now).1 (jY rC T).1 (IH now) (Ku now) (IH T) (Ku T) W)
  (λv F j W=>aa=fo/\(∃M fs',Ky s i p B A sv dr ow t a g K N w0 w.heap.size M W fs' (I+3+(fv (li A now)+j)*cb) (L++ac++(li A now).flatMap ai++(((li A T).take j).filter ad).flatMap aj)/\fs.Next fs'/\oT M W i v ((li A now).map lL)/\oT M W i F ((li A T).map lL))/\qR w.heap.size (comp q 0) (comp q 1) (comp q 2) (comp q 3) (comp q 4) (jY nm now).1 (jY rC T).1 (IH now) (Ku now) (IH T) (Ku T) W)
  (λP H=>Wb s i p B A sv dr ow t a g K N w0 fs (I+cB n) L aR P H) w aW aX aY aZ ?_ ?_ ?_ ?_ ?_ ?_ ?_ ?_ ?_ ?_ ?_ ?_ ?_ ?_ ?_ ?_ ?_ ?_)
 -- object
 intro D;refine⟨?_,λW f C=>bb D W f C⟩;by_cases u:r=Ku T;rw[qu u];exact @decide_eq_true _ (Classical.propDecidable _)<|(htest D).1 u;rw[yv u];exact @decide_eq_false _ (Classical.propDecidable _) (λo=>u<|(htest D).2 o)
 -- other kinds
 intro D;refine⟨@decide_eq_false _ (Classical.propDecidable _) λo=>D<|hnk o,λW f C=>bc D W f C.1⟩;rintro W bl ⟨M,d⟩;exact⟨M,d.below<|iP (mi _ _) bl⟩
 -- the same
 rintro o W ⟨M,d⟩;exact⟨M,fs,L,d.mv,d.slc,d.kp,d.st.mono<|cop _ _,.inl ⟨fX,b6.Next.refl _,by rw[bh<|bi o,lJ]⟩⟩
 -- note
 rintro o W ⟨M,d⟩ C
 have:=hn2 d.st (by omega) ar (decide (IH now=1))<|decide (IH T=1)
 have ak:(IH now==1)=decide (IH now=1):=fX;have ae:(IH T==1)=decide (IH T=1):=fX;rw[<-aw]at this;rw[ak,ae];apply this.mono;rintro e H ⟨u,O,m,J⟩;have⟨k,R,V⟩:=d.call bk m (λv es l=>⟨gg l.1 λb f=>m.block b (gc l.1 f) (λe=>by rcases l.2 b f with X|X<;>(rw[X]at e;cases e)),λb f=>by rw[m.tags b<|gc l.1 f];exact l.2 b f⟩) J;exact⟨u,⟨o,O,k⟩,d.box C R V⟩
 -- what is in what is there
 rintro W ⟨o,M,d⟩ C
 have:=GV d.st hF (by omega) ar ap (λes u=>by rw[u];exact aV _ u) nm
 rw[au]at this;apply this.mono;rintro e H ⟨v,u,O,m,J,l,D⟩;have⟨k,R,V⟩:=d.call aT m D J;refine⟨v,_,u,?_⟩;rcases GU A fs now with⟨c1,c2⟩|⟨c1,c2⟩
 have ak:(sK A fs now).2.1=0:=by rw[c2]
 have ae:(sK A fs now).2.2=li A now:=by rw[c2]
 refine .inl ⟨ak,?_,⟨o,O,_,k,c1,?_⟩,d.box C R V⟩
 have:=hpa l
 rwa [show({ g with fs:=fs }:WG).fs=fs from fX,ae]at this;rw[show({ g with fs:=fs }:WG).fs=fs from fX,ae]at l;exact l;refine .inr ⟨by show(sK A fs now).2.1=14;rw[c2],?_,O,_,_,k.mv,k.slc,k.kp,k.st.mono (by have:=hnt n;omega),.inr ⟨fX,c1⟩⟩;have⟨az,aA,aB,e⟩:=l.shape;exact⟨az,aA,aB,e⟩
 -- what T in what T there
 rintro v W ⟨o,M,fs',d,G,l⟩ C
 have:=GV d.st hF (by omega) ar aq (λes u=>by rcases aU _ u with⟨j,X⟩|⟨j,X⟩<;>cases X) rC
 rw[au]at this;apply this.mono;rintro e H ⟨F,u,O,m,J,E,D⟩;have⟨k,R,V⟩:=d.call aT m D J;refine⟨F,_,u,?_⟩;rcases GU A fs' T with⟨c1,c2⟩|⟨c1,c2⟩
 have ak:(sK A fs' T).2.1=0:=by rw[c2]
 have ae:(sK A fs' T).2.2=li A T:=by rw[c2]
 rw[show({ g with fs:=fs' }:WG).fs=fs' from fX,ae]at E;refine .inl ⟨ak,hpa E,o,⟨O,_,?_,G.trans c1,D _ _ l,E⟩,d.box C R V⟩;rwa [KU,List.flatMap_nil,lJ,cwd];refine .inr ⟨by show(sK A fs' T).2.1=14;rw[c2],?_,O,_,_,k.mv,k.slc,k.kp,k.st.mono (by have:=hnt n;omega),.inr ⟨fX,G.fail c1⟩⟩;have⟨az,aA,aB,e⟩:=E.shape;exact⟨az,aA,aB,e⟩;rintro v F j W (⟨_,_,C⟩|⟨_,_,C⟩)<;>exact C;rintro v F j W ⟨_,⟨M,fs',_,_,l,_⟩,_⟩;exact Wc l j;rintro v F j W ⟨_,⟨M,fs',_,_,_,E⟩,_⟩;exact Wc E j
 -- Child
 intro x W d;have bm:jp (li A now) x≠fj\/jp (li A T) x≠fj:=by
  rcases d with⟨e,u,rfl⟩|⟨e,u,rfl⟩
  obtain⟨y,aC,rfl⟩:=ja.1 u;exact .inl (by rw[show(lL y).1=y.1 from fX,iu ah aC];simp);obtain⟨y,aC,rfl⟩:=ja.1 u;exact .inr (by rw[show(lL y).1=y.1 from fX,iu av aC];simp)
 exact CG q ar (bf x bm) x W
 -- pick
 rintro v F j wr ⟨_,⟨M,fs',_,_,_,E⟩,_⟩ x W f;rw[<-ZJ];exact ZE (E.below f).1 x (tK av) (by simpa using aN)
 -- search
 rintro v F j wr ⟨_,⟨M,fs',_,_,l,_⟩,_⟩ x W f;exact Um l (tK ah) (by simpa using aM) x f
 -- compare of what is there
 rintro v F j wr ⟨o,⟨M,fs',d,G,l,E⟩,C⟩ x al W f;obtain⟨S,rfl⟩:=ay _ _ _ al;have am:=iu ah<|kN S;have aD:I+3+j*cb+cb<=I+cB n:=by
  have:(j+1)*cb<=(fv (li A now)+fv (li A T))*cb:=EG cb<|by omega
  rw[Ry]at this;omega
 have an:=aL ((li A now)[j]).1 (.inl (by rw[am];simp)) M W fs' _ _ (d.below f).st (by omega);rw[am]at an;apply RK an;rintro e H ⟨P,u,O,ao,aE,m,D,_,J,aF⟩;have⟨k,R,V⟩:=(d.below f).call (λ_ X=>X) m D J;have aG:∀b h,(b=w.heap.size\/b=wr.heap.size)->b<W.heap.size->H.c b h=W.c b h:=λb h aH aI=>R b aI (by
  rcases aH with rfl|rfl
  exact(d.bx 0<|by omega).2;exact d.st.inv.st.fresh _<|lw _) h
 refine⟨P,u,aG,?_⟩;rcases aF with⟨rfl,aJ,rfl⟩|⟨rfl,aK⟩
 refine .inl ⟨fX,o,⟨O,ao,?_,G.trans aJ,D _ _<|l.below f,D _ _<|E.below f⟩,(d.below f).box (C.keep f.size λZ ab h=>f.cell (p:=(ii (w.heap.size+Z) h)) (d.bx Z ab).1) R V⟩;rw[ZC ai _ S,Ry,<-sL];rw[show ai (li A now)[j]=(cmpL A (gz A g.fl) qQ (n-1) (q++[((li A now)[j]).1]) (fh ((li A now)[j]).2)<|jp (li A T) ((li A now)[j]).1).map Ak by rw[aO]];have e:I+3+(j*cb+cb)=I+3+j*cb+cb:=by omega
 rw[e];exact k;exact .inr ⟨fX,O,ao,aE,k.mv,k.slc,k.kp,k.st.mono aD,.inr ⟨fX,G.fail aK⟩⟩
 -- on to what T there
 rintro v F wr ⟨o,⟨M,fs',d,G,l,E⟩,C⟩;rw[oI]at d;refine⟨o,⟨M,fs',?_,G,l,E⟩,C⟩;rw[sH]at d;rwa [KU,List.filter_nil,List.flatMap_nil,lJ,Ee]
 -- what is still there
 rintro v F j wr ⟨o,⟨M,fs',d,G,l,E⟩,C⟩ x al Q W f;obtain⟨S,rfl⟩:=ay _ _ _ al;rw[GX<|tK ah]at Q;refine⟨o,⟨M,fs',?_,G,l.below f,E.below f⟩,C.keep f.size λZ ab h=>f.cell (p:=(ii (w.heap.size+Z) h)) (d.bx Z ab).1⟩;have bn:ad (li A T)[j]=fo:=by
  rw[ax];show(jp (li A now) ((li A T)[j]).1).isNone=fo;rcases af:jp (li A now) ((li A T)[j]).1 with _|c
  rw[show(lL (li A T)[j]).1=((li A T)[j]).1 from fX,af]at Q;cases Q;rfl
 rw[DN ad aj _ S,bn];simp only[Day,day,lJ];exact(d.below f).mono (by
  have:(fv (li A now)+j)*cb<=(fv (li A now)+(j+1))*cb:=EG cb<|by omega
  omega)
 -- compare of what is there no more
 rintro v F j wr ⟨o,⟨M,fs',d,G,l,E⟩,C⟩ x al Q W f;obtain⟨S,rfl⟩:=ay _ _ _ al;rw[GX<|tK ah]at Q;have af:jp (li A now) ((li A T)[j]).1=fj:=by
  rcases af:jp (li A now) ((li A T)[j]).1 with _|c
  rfl;rw[show(lL (li A T)[j]).1=((li A T)[j]).1 from fX,af]at Q;cases Q
 have am:=iu av<|kN S;have aD:I+3+(fv (li A now)+j)*cb+cb<=I+cB n:=by
  have:(fv (li A now)+j+1)*cb<=(fv (li A now)+fv (li A T))*cb:=EG cb<|by omega
  rw[Ry]at this;omega
 have an:=aL ((li A T)[j]).1 (.inr (by rw[am];simp)) M W fs' _ _ (d.below f).st (by omega);rw[am,af]at an;apply RK an;rintro e H ⟨P,u,O,ao,aE,m,D,_,J,aF⟩;have⟨k,R,V⟩:=(d.below f).call (λ_ X=>X) m D J;have aG:∀b h,(b=w.heap.size\/b=wr.heap.size)->b<W.heap.size->H.c b h=W.c b h:=λb h aH aI=>R b aI (by
  rcases aH with rfl|rfl
  exact(d.bx 0<|by omega).2;exact d.st.inv.st.fresh _<|lw _) h
 refine⟨P,u,aG,?_⟩;rcases aF with⟨rfl,aJ,rfl⟩|⟨rfl,aK⟩
 refine .inl ⟨fX,o,⟨O,ao,?_,G.trans aJ,D _ _<|l.below f,D _ _<|E.below f⟩,(d.below f).box (C.keep f.size λZ ab h=>f.cell (p:=(ii (w.heap.size+Z) h)) (d.bx Z ab).1) R V⟩;have bo:ad (li A T)[j]=fm:=by rw[ax];show(jp (li A now) ((li A T)[j]).1).isNone=fm;rw[af];rfl
 rw[DN ad aj _ S,bo,lv fX,<-sL];rw[show aj (li A T)[j]=(cmpL A (gz A g.fl) qQ (n-1) (q++[((li A T)[j]).1]) fj<|fh ((li A T)[j]).2).map Ak by rw[aP]];have e:I+3+(fv (li A now)+(j+1))*cb=I+3+(fv (li A now)+j)*cb+cb:=by
  rw[<-abS,Ry];omega
 rw[e];exact k;exact .inr ⟨fX,O,ao,aE,k.mv,k.slc,k.kp,k.st.mono aD,.inr ⟨fX,G.fail aK⟩⟩
 -- the end
 rintro v F wr ⟨o,⟨M,fs',d,G,_⟩,C⟩;rw[oI,sH]at d;refine⟨M,fs',_,d.mv,d.slc,d.kp,d.st.mono<|by omega,.inl ⟨fX,G,?_⟩⟩;rw[aQ<|bj o];simp only[sL]
theorem Qp{l:List Ob}(ak:a=A++l)(al:Exact a)(am:mL a)(k:Sound A)(hF:Flat A t g.ft):∀(n:Nat),n<=5->∀(q:fT)(b T:Option LT),GM A n b->GM A n T->BQ T->(∀c,b=fh c->t.at A q=fh c)->(b≠fj\/T≠fj)->Good q->fv q+n<=5->∀(nm rC:fP)(N:gF)(w:fq)(fs:b6)(I:Nat)(L:List jX),CT N w s i p B A { g with fs:=fs } I sv dr ow t a L->I+cB n<1099511627776->
  ik 166 #[ie sv,fD<|jn q,wG<|jY nm b,wG<|jY rC T] w λe H=>∃ad,e=fF (fY ad)/\Wb s i p B A sv dr ow t a g [] N w fs (I+cB n) L ((cmpL A (gz A g.fl) qQ n q b T).map Ak) ad H:=by
 have V:∀{N:gF}{w:fq}{fs:b6}{I:Nat}{L:List jX},CT N w s i p B A { g with fs:=fs } I sv dr ow t a L->∀W,ju w W->w.heap.size+2<W.heap.size->Ky s i p B A sv dr ow t a g [] N w w.heap.size N W fs I L:=λd W o O=>
  ⟨fI.fJ o,λv es X=>X.below o,d.below o,(λx h=>by cases h),λj an=>⟨by omega,d.inv.st.fresh _<|by omega⟩⟩
 have ae:∀{n:Nat},n<=5->∀{q:fT}{b T:Option LT},GM A n b->GM A n T->BQ T->(∀c,b=fh c->t.at A q=fh c)->(b≠fj\/T≠fj)->Good q->∀(nm rC:fP){N:gF}{w:fq}{fs:b6}{I:Nat}{L:List jX},CT N w s i p B A { g with fs:=fs } I sv dr ow t a L->∃r,(IH b=IH T->(r=Ku T↔∀y,Hk A (gz A g.fl) b y=Hk A qQ T y))/\
   (IH b=IH T->∀W,ju w W->qR w.heap.size (comp q 0) (comp q 1) (comp q 2) (comp q 3) (comp q 4) (jY nm b).1 (jY rC T).1 (IH b) (Ku b) (IH T) (Ku T) W->ik 74 #[fD #[ie B.bt,ie dr,.map<|fh ow],fD<|jn q,fD #[hh (jY nm b).1,fY<|IH b,fY<|Ku b]] W λe H=>e=fF (fY r)/\(∃M,Ky s i p B A sv dr ow t a g [] N w w.heap.size M H fs I L)/\qR w.heap.size (comp q 0) (comp q 1) (comp q 2) (comp q 3) (comp q 4) (jY nm b).1 (jY rC T).1 (IH b) (Ku b) (IH T) (Ku T) H/\∀P,H.c sv P=W.c sv P):=by
  intro n F q b T u z G D K J nm rC N w fs I L d;obtain⟨Q,_⟩:=d.cells;obtain⟨f,m,ao,af⟩:=d.map;cases C:b with
  |none=>
   refine⟨0,λE=>?_,λE=>?_⟩<;>(
    rw[C]at K;cases R:T with
    |none=>rw[R]at K;rcases K with d|d<;>exact absurd fX d
    |some S=>rw[R]at E;have:=mh S;have ap:(0:Int)=S.kind:=E;omega)
  |some c=>
   cases R:T with
   |none=>refine⟨0,λE=>?_,λE=>?_⟩<;>(have:=mh c;have ap:c.kind=(0:Int):=E;omega)
   |some S=>
    refine⟨hnf f q c,λE=>hni ak al am k (af q) (D c C) (Kv F<|u c C) (Kv F<|z S R) (G S R) E,λE W o ag=>?_⟩
    have:=hol (bt:=B.bt) (dr:=dr) ao o J c (λaq=>by obtain⟨r,ar,_⟩:=af q c (D c C) aq;exact⟨r,ar⟩) nm
    refine RK this ?_;rintro e H ⟨au,U⟩;have O:=ag.1;exact⟨au,⟨N,V d H (gS o U)<|np O U.size⟩,ag.keep U.size λj an P=>U.cell (p:=(ii (w.heap.size+j) P)) (show w.heap.size+j<W.heap.size by omega),λP=>U.cell (p:=(ii sv P))<|np Q o.size⟩
 intro n
 induction n with
 |zero=>
  intro F q b T u z G D K J Y nm rC N w fs I L d Z;have av:=yJ k u;have aw:=yJ k z;obtain⟨r,ah,ai⟩:=ae F u z G D K J nm rC d;obtain⟨Q,aa,ab,ac⟩:=d.cells;refine vT (cb:=0) k d.inv.two hF F u z G D J Y nm rC (by rw[cB];omega) Z Q aa ab ac r ah ai (λ_ W o O=>⟨N,V d W o O⟩) λx h=>?_;rw[av,aw]at h;rcases h with h|h<;>exact absurd fX h
 |succ n ax=>
  intro F q b T u z G D K J Y nm rC N w fs I L d Z;have ah:=rB k u;have ai:=rB k z;obtain⟨r,t1,t2⟩:=ae F u z G D K J nm rC d;obtain⟨Q,aa,ab,ac⟩:=d.cells;refine vT (cb:=cB n) k d.inv.two hF F u z G D J Y nm rC (by
   rw[cB]
   have:(fv (li A b)+fv (li A T))*cB n<=32*cB n:=EG _<|by omega
   omega) Z Q aa ab ac r t1 t2 (λ_ W o O=>⟨N,V d W o O⟩) λx h M H fs' jf L' ay az=>?_
  have X:fN x=fm:=by
   rcases h with h|h
   obtain⟨c,C⟩:=Rj.1 h;exact tJ k u _<|mS C;obtain⟨c,C⟩:=Rj.1 h;exact tJ k z _<|mS C
  exact ax (by omega) (q++[x]) _ _ (jO k u x) (jO k z x) (DO G x) (λc C=>VY D C) h ⟨J.val.append (λy aj=>by simp at aj;rw[aj];exact X),by simp;omega⟩ (by simp;omega) x x M H fs' jf L' ay az
def clean (N:gF):gF:=λk=>if(N k).1=0 then(0,0)else N k
def yK(a:(N k).1≠0):clean N k=N k:=by unfold clean;rw[km a]
def sx(a:(N k).1=0):clean N k=(0,0):=by unfold clean;rw[lv a]
theorem ZK:clean N k≠(0,1):=by
 unfold clean
 all_goals grind
theorem Qq(a:lG N w):lG (clean N) w:=λk b=>sx (by rw[a k b])
theorem DR(m:fI (vS i) (clean N) M w H)(U:2<=i)(j:lG N w)(e:fZ M H s i p B A g' jf):
  ∃b:gF,fI (gC i) N b w H/\fZ b H s i p B A g' jf/\∀k,M k=(0,1)->w.heap.size<=k/\b k=(0,0):=by
 have hold:∀k,k<w.heap.size->M k=clean N k:=λk a=>m.tags k a;obtain⟨b,f⟩:∃b:gF,b=λk=>if k<w.heap.size then N k else clean M k:=⟨_,fX⟩;have t1:∀k,k<w.heap.size->b k=N k:=λk a=>by rw[f];exact lv a
 have t2:∀k,¬k<w.heap.size->b k=clean M k:=λk a=>by rw[f];exact km a
 have g:lG b H:=λk a=>by
  have:=m.size
  rw[t2 k<|by omega];exact sx (by rw[e.st.fresh k a])
 refine⟨b,⟨m.os,m.tape,m.output,m.size,t1,λk a l=>m.block k a ?_,λ_=>g⟩,e.zi g λk a=>?_,λk a=>?_⟩
 ·by_cases d:(N k).1=0
  rw[sx d];exact Mm U;rw[yK d];rintro(h|h)
  all_goals grind
 by_cases c:k<w.heap.size;rw[t1 k c];rw[hold k c]at a |-;by_cases d:(N k).1=0;rw[sx d]at a;exact absurd fX a;rw[yK d];rw[t2 k c,yK a];by_cases c:k<w.heap.size;rw[hold k c]at a;exact absurd a ZK;exact⟨by omega,by rw[t2 k c];exact sx (by rw[a])⟩
def cfC (x y:jX):Int:=Lib.compareBytes x.1.data.toList y.1.data.toList
theorem ac3:SWO (Go.Proofs.ltOf cfC) where
 irrefl x:=by simp[Go.Proofs.ltOf,cfC,rJ]
 trans x y z h1 h2:=qu (lX _ _ _ (BZ h1)<|BZ h2)
 ntrans x y z h1 h2:=yv<|EP _ _ _ (Rl h1) (Rl h2)
def uY(e:jX):fv (uf e)=2:=fX
theorem hpb(e:jX):∀v∈uf e,v.oneCell'=fm:=by
 intro v a;simp[uf]at a;rcases a with rfl|rfl<;>rfl
theorem Kz:∀(es:List jX)(i j:Nat)(U:i<fv es),j<2->(iC es)[i*2+j]?=(uf es[i])[j]?
 |[],i,j,U,_=>by simp at U
 |e::r,0,j,_,a=>by
  simp only[iC,MZ,cwd,iO,ED]
  rw[wk (by rw[uY];exact a)]
 |e::r,i+1,j,U,a=>by
  have b:=Kz r i j (by grind) a
  simp only[iC,MZ,List.getElem_cons_succ]at b |-
  rw[BU (by rw[uY];omega),uY,<-b]
  grind
theorem DS(d:Array jX):(flatK uf 2 d).toList=iC d.toList:=by
 apply KO;intro t;by_cases c:t<d.size*2;have a:t % 2<2:=Nat.mod_lt _ (by omega);have U:t / 2<fv d.toList:=by simp;omega
 have b:=Kz d.toList (t / 2) (t % 2) U a;rw[show t / 2*2+t % 2=t by omega]at b;rw[b];have e:t / 2<d.size:=by simpa using U
 simp only[flatK,Array.toList_map,Array.toList_range,hJ0,List.getElem?_range c,oV,Den];rw[getElem!_pos d (t / 2) e,jH (by rw[uY];exact a),getElem!_pos _ _ (by rw[uY];exact a)];rw[wm (by simp_all),wm (by rw[Kt];simp;omega)]
theorem II{g:Nat}{es:List jX}(a:w.heap[g]?=fh (.cells cur e (0,0)))(c:cur.toList.take (fv es*2)=iC es):HoldsK uf 2 w g 0 es.toArray:=by
 intro j d;have f:j<fv es*2:=by simpa using d
 refine⟨?_,by simp[World.frozen?,a]⟩;have b:(cur.toList.take<|fv es*2)[j]?=(iC es)[j]?:=by rw[c]
 rw[MW f]at b;simp only[World.cell?,a,iO];simp only[Dom,Day,day];rw[<-Wt,b];have h:=DS es.toArray
 grind
def Mq{g n:Nat}{a}(d:Array jX)(b:w.heap[g]?=fh (.cells cur e a)):
  (sortWorldK uf 2 w g 0 n d os).heap[g]?=fh (.cells (putCells id 0 (flatK uf 2 d) cur) e a):=by
 have c:=(lW.1 b).1;unfold sortWorldK;rw[Dup _ _ (by simpa [putRowK]using c)];simp[putRowK,putRow,mapBlock,Sort.ahead,BV,b,onCells]
theorem Ep{g n}(d:Array jX):w.grownBy (sortWorldK uf 2 w g 0 n d os) (fh g):=by
 refine⟨fX,fX,fX,by simp[sortWorldK,putRowK],λk a b=>?_⟩;unfold sortWorldK;rw[Dup _ _ (by simpa [putRowK]using a)]
 have:g≠k:=λe=>b (by rw[e])
 simp[putRowK,putRow,mapBlock,Sort.ahead,BV,this]
theorem GY(cur:Array fu)(d:Array jX)(c:d.size*2<=cur.size):(putCells id 0 (flatK uf 2 d) cur).toList.take (d.size*2)=iC d.toList:=by
 rw[<-DS];apply KO;intro j;by_cases a:j<d.size*2;rw[MW a,Wt,Wt];have b:j<(flatK uf 2 d).size:=by simpa using a
 rw[abR b,<-getElem!_pos (flatK uf 2 d) j b];simp[putCells,a,show j<cur.size by omega];rw[abQ<|by omega,wm (by simp;omega)]
def wlo(w):(isAgg 133).run prog w=.ok fm w:=by kernel_rfl
def msb(w):(Go.sizeOf 133).run prog w=.ok 2 w:=by kernel_rfl
theorem Un(x y:jX)(W:fq):ik 168 #[fD #[hh x.1,fY x.2],fD #[hh y.1,fY y.2]] W λe H=>e=fF (fY<|cfC x y)/\∃q b,H=grow (W.drewN q) b:=by
 have a:=λW'=>strings_Compare x.1 y.1 W';unfold cfC;generalize Lib.compareBytes x.1.data.toList y.1.data.toList=r at a |-;go_enter func168,ntmps168;go_wp2_with(go_at_call 191;apply (a _).still);go_ret;exact⟨fX,0,_,by rw[DNS,DNS,grow_grow];rfl⟩
theorem hpc(a off b)(w:fq):CmpLays prog 168 #[] uf 2 cfC a off b w:=λ_ _ _ _ x y=>Un x y _
def Mr (l:List jX):Prop:=l.Pairwise λx y=>jb x.1 y.1<=0
theorem ZL{a}{n c}(p:w.ownsRow 0 133 2 (fy a n c) n (iC L))(k:n=fv L)(G:n<4611686018427387904):
  ik 167 #[fy a n c,.func (.func 168) #[] #[]] w λe H=>e=pD #[]/\∃L':List jX,L'.Perm L/\Mr L'/\H.ownsRow 0 133 2 (fy a n c) n (iC L')/\w.grownBy H (Value.slice a n c).ownBlock:=by
 rcases p.2 with⟨l,I⟩|⟨g,h,cur,l,_,m,q,r,d,y⟩
 cases l;apply (AnyF.slices_SortFunc_none aaA fj 0 _ w).mono;rintro e H ⟨o,rfl⟩;have z:L=[]:=DY.1 (by omega);subst z;exact⟨o,[],.refl _,List.Pairwise.nil,p,⟨fX,fX,fX,lw _,λ_ _ _=>rfl⟩⟩;cases l;have A:=II (es:=L) m (by rw[<-k];exact y);have B:∀args w,(callFunc 168 args).run prog w=.ok (.enter 168 args) w:=enters_of func168 (by kernel_rfl) rfl;have s:=AnyQ.slices_SortFunc aaA 2 wlo msb uf uY hpb cfC ac3 168 #[] g 0 c L.toArray w B (hpc g 0 L.toArray.size w) A (lW.1 m).1 (by simp only[BW];omega);rw[show L.toArray.size=n by simp only[BW];exact k.symm]at s;apply s.mono;rintro e H ⟨o,b,J,os,t,C,rfl⟩;have f:b.size=n:=by have:=t.1;simp only[BW]at this;omega
 refine⟨o,b.toList,?_,?_,⟨by rw[Kt];simp[f],.inr ⟨g,c,_,fX,zt _,Mq _ m,q,r,by simp[putCells,d],by
  have:=GY cur b (by rw[d,f];exact EG 2 q)
  rw[f]at this;exact this⟩⟩,Ep b⟩
 have⟨K,_,u⟩:=t;have D:(b.extract 0 n)=b:=by rw[<-f];simp
 have E:(L.toArray.extract 0 n)=L.toArray:=by rw[k];simp
 rw[D,E]at u;simpa using u;unfold Mr;rw[Ri];intro i j U v F;simp only[oW]at U v;have x:=C i j (zt _) F (by omega);rw[getElem!_pos b j v,getElem!_pos b i U]at x;have r:=Rl x;have d:jb (b[i]).1 (b[j]).1=- cfC b[j] b[i]:=by
  show jb _ _=- jb _ _;rw[<-Jf]
 simp only[Den];rw[d];omega
theorem Ms(bt:Nat)(g base:Int)(q:(Nat×Nat)->fq->Prop)(R:fq->ig->Nat->Nat->fq->Prop)(r:fu->fq->Prop)(Q:fq->Prop)(w:fq)(J:bt<w.heap.size)
  (c4:∀W,ju w W->W.c bt 3=fh (fY base)/\W.c bt 4=fh (hh kq)/\W.c bt 5=fh (fY 2)/\W.c bt 6=fh (fY g))
  (s:ik 73 #[ie bt] w λe H=>∃b,e=fF (fD #[ie bt,ie b.1,.map<|fh b.2])/\q b H/\ju w H)
  (t:∀b W W',q b W->ju W W'->W'.heap[W.heap.size]?=fh (.cells #[ie bt,ie b.1,.map<|fh b.2,fy fj 0 0] 259 (0,0))->W'.heap[W.heap.size+1]?=fh (.cells #[hh kq,fY 2,fY base] 96 (0,0))->
   ik 166 #[ie W.heap.size,fD<|ml kq kq kq kq kq,fD #[hh kq,fY 2,fY g],fD #[hh kq,fY 2,fY base]] W' λe H=>∃d,e=fF (fY d)/\H.c bt 4=fh (hh kq)/\H.c bt 5=fh (fY 2)/\H.c bt 6=fh (fY g)/\H.heap[W.heap.size+1]?=fh (.cells #[hh kq,fY 2,fY base] 96 (0,0))/\((d=0/\∃a n c,H.c W.heap.size 3=fh (fy a n c)/\R W a n c H)\/(d=14/\Q H)))
  (u:∀W a n c H,R W a n c H->ik 167 #[fy a n c,.func (.func 168) #[] #[]] H λe x=>e=pD #[]/\x.c W.heap.size 3=H.c W.heap.size 3/\r (fy a n c) x):
  ik 105 #[ie bt] w λe H=>∃v d,e=pD #[v,fY d]/\((d=0/\r v H)\/(d=14/\v=fy fj 0 0/\Q H)):=by
 have m:=λW=>QR W;have y:fe _:=s;have K:fe _:=t;have L:fe _:=u;have o:fe _:=c4;clear s t c4 u;unfold ln jn at m;simp at m;go_enter func105,ntmps105;go_wp2_with fail;apply RK y.o;rintro e O ⟨⟨dr,ow⟩,rfl,z,j⟩;simp only;have M:fe _:=z;clear z y;have A:ju O ((O.k #[ie bt,ie dr,.map<|fh ow,fy fj 0 0] 259).k #[hh kq,fY 2,fY base] 96).drew:=il<|((mi _ _).alloc (lw _) _).alloc (by simp) _;have⟨d3,d4,d5,d6⟩:=o.o _<|gS j A;have⟨ac,_,_,_⟩:=o.o _ j;have ad:bt<O.heap.size:=np J j.size;have B:=Rq O (.cells #[ie bt,ie dr,.map<|fh ow,fy fj 0 0] 259)<|.cells #[hh kq,fY 2,fY base] 96;have h:=Ru O (.cells #[ie bt,ie dr,.map<|fh ow,fy fj 0 0] 259)<|.cells #[hh kq,fY 2,fY base] 96;have C:O.heap.size+2=((O.k #[ie bt,ie dr,.map<|fh ow,fy fj 0 0] 259).k #[hh kq,fY 2,fY base] 96).drew.heap.size:=by simp
 have i:fe _:=C;have k:((O.k #[ie bt,ie dr,.map<|fh ow,fy fj 0 0] 259).k #[hh kq,fY 2,fY base] 96).drew.c (O.heap.size+1) 0=fh (hh kq)/\((O.k #[ie bt,ie dr,.map<|fh ow,fy fj 0 0] 259).k #[hh kq,fY 2,fY base] 96).drew.c (O.heap.size+1) 1=fh (fY 2)/\((O.k #[ie bt,ie dr,.map<|fh ow,fy fj 0 0] 259).k #[hh kq,fY 2,fY base] 96).drew.c (O.heap.size+1) 2=fh (fY base)/\((O.k #[ie bt,ie dr,.map<|fh ow,fy fj 0 0] 259).k #[hh kq,fY 2,fY base] 96).drew.c bt 4=fh (hh kq)/\((O.k #[ie bt,ie dr,.map<|fh ow,fy fj 0 0] 259).k #[hh kq,fY 2,fY base] 96).drew.c bt 5=fh (fY 2)/\((O.k #[ie bt,ie dr,.map<|fh ow,fy fj 0 0] 259).k #[hh kq,fY 2,fY base] 96).drew.c bt 6=fh (fY g):=⟨lf h 0,lf h 1,lf h 2,d4,d5,d6⟩;have D:fe _:=And.intro B h;clear B h C d3;go_wp2
 go_region_held3 (λW=>W.c (O.heap.size+1) 0=fh (hh kq)/\W.c (O.heap.size+1) 1=fh (fY 2)/\W.c (O.heap.size+1) 2=fh (fY base)/\W.c bt 4=fh (hh kq)/\W.c bt 5=fh (fY 2)/\W.c bt 6=fh (fY g))
  (first|exact k|exact N|exact P)
  (first
  |(go_at_call 75;refine(m _).via λae f=>?_;have E:=gS A f;have⟨_,f4,f5,f6⟩:=o.o _<|gS j E;have N:=And.intro (((kw f).1 (O.heap.size+1) 0<|cbv (by omega) i.o).trans k.1)<|And.intro (((kw f).1 (O.heap.size+1) 1<|cbv (by omega) i.o).trans k.2.1) (And.intro (((kw f).1 (O.heap.size+1) 2<|cbv (by omega) i.o).trans k.2.2.1)<|And.intro f4 (And.intro f5 f6));have S:fe _:=K.o (dr,ow) _ _ M.o E ((f.block O.heap.size<|cbv (by omega) i.o).trans D.o.1)<|(f.block (O.heap.size+1) (cbv (by omega) i.o)).trans D.o.2)
  |(go_at_call 166;apply RK S.o;rintro e af ⟨d,rfl,T,U,V,l,F⟩;have P:=And.intro (lf l 0)<|And.intro (lf l 1) (And.intro (lf l 2)<|And.intro T (And.intro U V));have p:fe _:=F;clear F l))
 all_goals
  rcases p.o with⟨rfl,ag,fn,ah,X,G⟩|⟨rfl,I⟩
  ·have Y:fe _:=L.o _ _ _ _ _ G
   clear p G;go_wp2_with fail;refine Calls.via Y.o λai⟨Z,aa⟩=>?_
   rw[X]at Z;go_wp2;go_ret2;exact⟨_,0,fX,.inl ⟨fX,aa⟩⟩
  have ab:fe _:=I;clear p I;go_wp2;go_ret2;exact⟨_,14,fX,.inr ⟨fX,fX,ab.o⟩⟩
def Qr (A:List Ob)(fl:Nat->Option (Int×fP))(t:LT)(base:Int)(L:List jX):Prop:=L.Perm ((cmpL A (gz A fl) qQ 5 [] (fh t)<|fh (.dir base)).map Ak)/\Mr L
theorem Uo(f:wh N w s i p B A g I t)(J:fM A 5 t)(aM:mL A)(aN:fv A+2*je 5 t<3000000)(Q:fM A 5 (.dir g.base))(bA:I+110000000<1099511627776):
  ik 105 #[ie B.bt] w λe H=>∃v R,e=pD #[v,fY R]/\∃M fs',fI (gC i) N M w H/\fZ M H s i p B A { g with fs:=fs' } (I+110000000)/\
   ((R=0/\g.fs.Next fs'/\∃L,Qr A g.fl t g.base L/\H.ownsRow 0 133 2 v (fv L) (iC L)/\∀b,v.ownBlock=fh b->w.heap.size<=b/\M b=(0,0))\/(R=14/\v=fy fj 0 0/\g.fs.Co fs')):=by
 have U:=f.inv.two;have D:=f.exact.sound;have⟨aA,c0,_,_⟩:=f.tree<|mi _ _;have S:=kT g.fl 5 (lw _) t A f.exact J f.TH;have aj:=S.dr.exact f.exact;have ak:=S.dr.once aM;have⟨l,ae⟩:=S.dr.app;have aO:=Gu g.fl qQ 5 (lw _) t A f.exact J f.TH;have al:=f.flat.kind;have bB:cB 5<=109999999:=by decide
 -- which object the root is
 have aP:(mn g.fl 5 t A).1=g.base↔∀y,xc A (gz A g.fl) t y=xc A qQ (.dir g.base) y:=by
  have aQ:fM (mn g.fl 5 t A).2 5 (.dir g.base):=by rw[ae];exact jo l 5 _ Q
  have:=VX (c:=t) (u:=.dir g.base) aj ak (Kh (lw _) S.kind S.high<|mh t) aO aQ (.inr ⟨_,fX⟩) al
  rw[show(LT.dir g.base).id=g.base from fX]at this;rw[this];have hsu:∀y,xc (mn g.fl 5 t A).2 qQ (.dir g.base) y=xc A qQ (.dir g.base) y:=λy=>by rw[ae];exact mZ D l qQ y 5 _ Q
  exact⟨λam y=>(am y).trans<|hsu y,λam y=>(am y).trans (hsu y).symm⟩
 obtain⟨a,aB⟩:=ol<|(mn g.fl 5 t A).2;rw[<-aB]at aj ak ae;refine(Ms B.bt g.ft.root g.base (λb W=>∃V X Y,zn w p A V W ⟨b.1,X,Y⟩ b.2 A (λ_=>fj)<|fv A)
  (λW Z fn aa H=>∃M fs' dr ow L,fI (vS i) (clean N) M w H/\CT M H s i p B A { g with fs:=fs' } (I+cB 5) W.heap.size dr ow t a L/\H.heap[W.heap.size]?=fh (.cells #[ptr B.bt,ptr dr,.map<|fh ow,fy Z fn aa] 259 (0,0))/\g.fs.Next fs'/\L=(cmpL A (gz A g.fl) qQ 5 [] (fh t)<|fh (.dir g.base)).map Ak)
  (λv H=>∃M fs',fI (gC i) N M w H/\fZ M H s i p B A { g with fs:=fs' } (I+110000000)/\g.fs.Next fs'/\∃L,Qr A g.fl t g.base L/\H.ownsRow 0 133 2 v (fv L) (iC L)/\∀b,v.ownBlock=fh b->w.heap.size<=b/\M b=(0,0))
  (λH=>∃M fs',fI (gC i) N M w H/\fZ M H s i p B A { g with fs:=fs' } (I+110000000)/\g.fs.Co fs') w aA (λW r=>?_) ((Dx A aA c0).mono ?_) ?_ ?_).mono ?_
 have E:=(f.inv.below r).wp.tree.ht;exact⟨lf E 3,lf E 4,lf E 5,lf E 6⟩;rintro e H ⟨⟨dr,X,Y⟩,ow,V,O,P,r⟩;exact⟨(dr,ow),O,⟨V,X,Y,P⟩,r⟩
 -- compare at the root
 rintro⟨dr,ow⟩ W W' ⟨V,X,Y,P⟩ r ab aC;have aR:=P.via r;have an:W.heap.size<W'.heap.size:=(lW.1 ab).1;have aS:W.heap.size+1<W'.heap.size:=(lW.1 aC).1;have bC:w.heap.size<=W.heap.size:=P.below.size;have ao:=f.inv.st.fresh;have aD:=vT (s:=s) (i:=i) (p:=p) (B:=B) (A:=A) (sv:=W.heap.size) (dr:=dr) (ow:=ow) (t:=t) (a:=a) (g:=g) (K:=[(W.heap.size+1,.cells #[hh kq,fY 2,fY g.base] 96 (0,0))]) (n:=5) (cb:=cB 4) D U f.flat (lw _) (q:=[]) (now:=fh t) (T:=fh<|.dir g.base) (λc d=>by cases d;exact J) (λc d=>by cases d;exact Q) (λc d=>by cases d;exact .inr ⟨_,fX⟩) (λc d=>by cases d;exact oX A t) ⟨(λx z=>by cases z),by simp⟩ (by simp) kq kq (by
   have C:=rB (n:=5) D (show GM A 5 (fh t)from λc d=>by cases d;exact J);have ap:=rB (n:=5) D (show GM A 5 (fh<|LT.dir g.base)from λc d=>by cases d;exact Q)
   have:(fv (li A<|fh t)+fv (li A<|fh (.dir g.base)))*cB 4<=32*cB 4:=EG _<|by omega
   have aT:cB 5=3+32*cB 4:=fX;rw[aT];omega) (N:=clean N) (w0:=w) (w:=W') (fs:=g.fs) (I:=I) (L:=[]) (by omega) an (lf ab 0) (lf ab 1) (lf ab 2) (mn g.fl 5 t A).1 (λ_=>aP) (λ_ ac af aE=>?_) (λaq=>absurd al aq) λx z M H fs' jf L' aU aV=>?_
 rw[show wG (jY kq<|fh t)=fD #[hh kq,fY 2,fY g.ft.root] by show Value.agg #[hh kq,fY t.kind,fY t.id]=_;rw[al,f.flat.root]]at aD;apply RK aD;rintro e H ⟨R,O,M,fs',L',m,bD,aW,F,aX⟩;have E:=F.inv.wp.tree.ht;refine⟨R,O,lf E 4,lf E 5,lf E 6,(aW _<|oa.2 fX).1,?_⟩;rcases aX with⟨rfl,aF,bE⟩|⟨rfl,aY⟩
 have⟨aZ,Z,aa,ag,ar,FM⟩:=F.Ug
 grind [World.cell?]
 have⟨au,av,bb,_⟩:=DR m U ao F.inv;exact .inr ⟨fX,au,fs',av,bb.mono<|by omega,aY⟩
 -- the ac4 object works all out
 have bc:=aR.via af;have bd:=DG f (b:=⟨dr,X,Y⟩) (ow:=ow) 5 (lw _) t [] J (oX A t) ⟨(λx z=>by cases z),by simp⟩ (by simp) kq V ac A (λ_=>fj) (fv A) bc .nil (λ_ _=>rfl) aN;apply RK bd;rintro e ad ⟨O,bF,be,C,ap,bG,aG⟩;rw[<-aB]at C aG;have ah:∀k,W.heap.size<=k->k<ac.heap.size->ad.heap[k]?=ac.heap[k]?:=λk bH bf=>ap.keeps.block k bf (λbg=>by have:=(P.Ka k bg).2;omega);have bh:ac.heap.size<=ad.heap.size:=ap.keeps.size;have aH:W.heap.size<ac.heap.size:=np an af.size;have bI:=aE.1;have bi:ad.heap[W.heap.size]?=fh (.cells #[ptr B.bt,ptr dr,.map<|fh ow,fy fj 0 0] 259 (0,0)):=by
  rw[ah _ (lw _) aH,af.block _ an];exact ab
 have ai:lG (clean N) w:=Qq ao;have bj:ow≠W.heap.size:=λe=>by have:=(P.Ka ow<|.inr fX).2;omega
 have⟨bk,_,bl⟩:=C.map;have bm:w.heap.size<=ad.heap.size:=C.below.size;have aI:lG (kY (clean N) W.heap.size (0,1)) ad:=λk h=>by rw[xv<|by omega];exact ai k<|by omega
 refine⟨O,⟨kY (clean N) W.heap.size (0,1),⟨C.below.os,C.below.tape,C.below.output,bm,λk h=>xv (by omega) _,λk h _=>C.below.block k h,λ_=>aI⟩,λv es G=>?_,⟨?_,⟨nu _ _ _,fj,0,bi,⟨fX,.inl ⟨fX,fX⟩⟩,λb r=>by cases r⟩,⟨be,bk,bl,λq=>aG q (hRS) λe=>by cases e⟩,?_,zt _⟩,λx z=>?_,λj bn=>⟨by omega,?_⟩⟩,aE.keep bh λj bn aw=>wJ (a:=(ii (W'.heap.size+j) aw))<|ah (W'.heap.size+j) (by omega) (by omega),λaw=>wJ (a:=(ii W.heap.size aw))<|ah _ (lw _) aH⟩;have bo:=G.below C.below;exact⟨bo.1,λb r=>by rw[xv (by have:=gc G.1 r;omega)];exact G.2 b r⟩;exact(f.inv.below C.below).zi aI (λk h=>by
  rw[xv (λe=>by rw[e,ao _<|by omega]at h;exact h fX),yK h])
 rw[xv bj];exact ai ow (P.Ka ow<|.inr fX).1;rw[oa.1 z];refine⟨?_,?_⟩;rw[ah (W.heap.size+1) (by omega)<|by omega,af.block _ aS];exact aC;rw[xv<|by simp];exact ai _ (by omega);rw[xv<|by omega];exact ai _ (by omega)
 -- below the root
 have G:fN x=fm/\Good ([]++[x]):=by
  have G:fN x=fm:=by
   rcases z with z|z
   have⟨c,d⟩:=Rj.1 z;exact tJ (n:=5) D (λc d=>by cases d;exact J) _<|mS d;have⟨c,d⟩:=Rj.1 z;exact tJ (n:=5) D (λc d=>by cases d;exact Q) _<|mS d
  exact⟨G,λy aJ=>by simp at aJ;rw[aJ];exact G,by simp⟩
 exact Qp ae aj ak D f.flat 4 (by omega) ([]++[x]) _ _ (jO D (λc d=>by cases d;exact J) x) (jO D (λc d=>by cases d;exact Q) x) (DO (λc d=>by cases d;exact .inr ⟨_,fX⟩) x) (λc d=>VY (λc d=>by cases d;exact oX A t) d) z G.2 (by simp) x x M H fs' jf L' aU aV
 -- the sort
 rintro W Z fn aa H ⟨M,fs',dr,ow,L,m,F,ag,aF,rfl⟩;have⟨aZ,bp,bq,br,ar,FM⟩:=F.Ug;rw[ag]at br;obtain⟨rfl,rfl,rfl⟩:Z=bp/\fn=fv ((cmpL A (gz A g.fl) qQ 5 [] (fh t)<|fh (.dir g.base)).map Ak)/\aa=bq:=by
  grind
 have bJ:=F.few;have aq:fh W.heap.size≠(Value.slice Z (fv<|(cmpL A (gz A g.fl) qQ 5 [] (fh t) (fh<|.dir g.base)).map Ak) aa).ownBlock:=io ar ag (by decide);apply (ZL ar rfl<|by omega).mono;rintro e ax ⟨O,L',aK,bs,bt,o⟩;have bu:W.heap.size<H.heap.size:=(lW.1 ag).1;have av:fI (vS i) M M H ax:=⟨o.os,o.tape,o.output,o.size,λ_ _=>rfl,λk h ay=>o.block k h λe=>ay<|.inr (FM k e.symm),λaz k h=>az k<|wy o.size h⟩;have aL:fI (λt=>t=(0,1)) M M H ax:=⟨o.os,o.tape,o.output,o.size,λ_ _=>rfl,λk h ay=>o.block k h λe=>ay<|FM k e.symm,λaz k h=>az k<|wy o.size h⟩;have bv:fZ M ax s i p B A { g with fs:=fs' } (I+cB 5):=⟨U,F.inv.st.moves aL (λe=>by cases e) (λe=>by cases e),F.inv.wp.moves aL (λk e=>by cases e;omega)⟩;have⟨au,bw,bx,bz⟩:=DR (m.trans av) U f.inv.st.fresh bv;refine⟨O,wJ (a:=(ii W.heap.size 3))<|o.block _ bu aq,au,fs',bw,bx.mono<|by omega,aF,L',⟨aK,bs⟩,?_,λb r=>bz b<|FM b r⟩;rw[aK.length_eq];exact bt
 grind
def yi:Nat->List (fT×Nd)->List fV
 |_,[]=>[]
 |k,(y,.dir)::r=>(fG y,2,0)::yi k r
 |k,(y,.file d)::r=>(fG y,1,(k:Int))::yi (k+1) r
def rc:List (fT×Nd)->fT
 |[]=>[]
 |(_,.dir)::r=>rc r
 |(_,.file d)::r=>d::rc r
theorem yL:∀(L a:List (fT×Nd))(k:Nat),yi k (L++a)=yi k L++yi (k+fv (rc L)) a
 |[],a,k=>rfl
 |(y,.dir)::r,a,k=>by
  rw[Eb,yi,yi,yL r a k,rc]
  rfl
 |(y,.file d)::r,a,k=>by
  rw[Eb,yi,yi,yL r a<|k+1,rc,lq,show k+(fv (rc r)+1)=k+1+fv (rc r) by omega]
  rfl
theorem tL:∀(L a:List (fT×Nd)),rc (L++a)=rc L++rc a
 |[],a=>rfl
 |(y,.dir)::r,a=>by rw[Eb,rc,rc,tL r a]
 |(y,.file d)::r,a=>by rw[Eb,rc,rc,tL r a];rfl
theorem CU:∀(L:List (fT×Nd))(k:Nat),fv (yi k L)=fv L
 |[],k=>rfl
 |(y,.dir)::r,k=>by rw[yi,lq,lq,CU r k]
 |(y,.file d)::r,k=>by rw[yi,lq,lq,CU r<|k+1]
theorem xR:∀(L:List (fT×Nd)),fv (rc L)<=fv L
 |[]=>lw _
 |(y,.dir)::r=>by rw[rc,lq];exact wu (xR r)
 |(y,.file d)::r=>by rw[rc,lq,lq];exact hNe (xR r)
theorem tM:∀(L:List (fT×Nd))(k:Nat),(yi k L).map (·.1)=L.map λx=>fG x.1
 |[],k=>rfl
 |(y,.dir)::r,k=>by rw[yi,lM,lM,tM r k]
 |(y,.file d)::r,k=>by rw[yi,lM,lM,tM r<|k+1]
theorem tN:∀(L:List (fT×Nd))(k:Nat),∀e∈yi k L,(e.2.1=1\/e.2.1=2)/\(e.2.1=1->0<=e.2.2/\e.2.2<((k+fv (rc L):Nat):Int))
 |[],k=>by intro e a;cases a
 |(y,.dir)::r,k=>by
  intro e a
  rw[yi]at a
  rcases mB.1 a with rfl|a
  grind
  rw[rc]
  exact tN r k e a
 |(y,.file d)::r,k=>by
  intro e a
  rw[yi]at a
  rw[rc,lq]
  rcases mB.1 a with rfl|a
  grind
  have:=tN r (k+1) e a
  omega
theorem GZ(c:fL q):∀(L:List (fT×Nd))(ds b:fT),(∀x∈L,fL x.1)->
  (((yi (fv ds) L).find? λe=>decide (e.1=fG q)).map λe=>Iz (ds++rc L++b) e.2)=(L.find? λx=>decide (x.1=q)).map (·.2)
 |[],ds,b,_=>rfl
 |(y,.dir)::r,ds,b,a=>by
  rw[yi,Na,Na]
  have f:=a _<|oK ..
  by_cases e:y=q
  subst e
  simp only[WQ,oV]
  rfl
  have g:¬fG y=fG q:=λa=>e<|sq f c a
  simp only[yv e,yv g]
  exact GZ c r ds b λx h=>a x<|wq _ h
 |(y,.file d)::r,ds,b,a=>by
  rw[yi,Na,Na]
  have f:=a _<|oK ..
  by_cases e:y=q
  grind [WQ,rc,Iz,Int,decide]
  have g:¬fG y=fG q:=λa=>e<|sq f c a
  simp only[yv e,yv g]
  have:=GZ c r (ds++[d]) b λx h=>a x<|wq _ h
  rwa [lI,BX,sL ds,bws]at this
theorem Al{P}(x)(b:fL P):iV (fG P) x=fG (P++[x]):=by
 apply iy;unfold iV;by_cases a:P=[];subst a;rw[lv (by rw[mC];exact jZ []),jZ];rfl;have c:¬(fG P).toList=[]:=λe=>a<|(xN b).1 (by grind [Kd,mC])
 rw[km c,rQ,rQ,jZ,jZ,nh,List.map_singleton,zD _ _ (by simpa using a)];simp[iQ]
def Wd(a:Twin A J){i:Nat}(U:i<fv A):∃b:i<fv J,xe A[i] J[i]:=⟨by rw[<-a.1];exact U,a.2.1 i U (by rw[<-a.1];exact U)⟩
def thX (A:List Ob)(fc:jJ)(n:Nat)(P:fT)(x:fP×LT):List (fT×Nd):=(P++[x.1],nd A fc x.2)::(if x.2.kind=2 then py A fc n (P++[x.1]) x.2 else [])
theorem hpf(n)(P)(m:fP)(i:Int):thX A fc n P (m,.file i)=[(P++[m],.file (bytesOf A i))]:=fX
theorem msg(n)(P)(m:fP)(i:Int):thX A fc n P (m,.dir i)=(P++[m],.dir)::py A fc n (P++[m]) (.dir i):=fX
theorem Qs{fuel n:Nat}{P}(d:fL P)(b:Nat->fP->St->St)
  (f:∀(e:fV)(a:St),(gH e).2.2.toNat<fuel->fN e.1=fm->e.2.1=2->fK A e.2.2=2->gu A e.2.2<=n->b (gH e).2.2.toNat (fG<|P++[e.1]) a=(a.1++yi (fv a.2) (py A fc n (P++[e.1])<|.dir e.2.2),a.2++rc (py A fc n (P++[e.1])<|.dir e.2.2)))
  (g:∀e:fV,fK A e.2.2=1->Ag J (gH e).2.2=bytesOf A e.2.2):
  ∀(es:List fV)(a:St),(∀e∈es,fN e.1=fm/\(e.2.1=1\/e.2.1=2)/\fK A e.2.2=e.2.1/\gu A e.2.2<=n/\(gH e).2.2.toNat<fuel)->
   (es.map gH).foldl (Hm J b<|fG P) a=(a.1++yi (fv a.2) ((es.map wl).flatMap<|thX A fc n P),a.2++rc ((es.map wl).flatMap<|thX A fc n P))
 |[],a,_=>by simp[yi,rc]
 |e::r,a,c=>by
  obtain⟨o,h,_⟩:=c e<|oK ..
  rw[lM,Hy,lM,MZ]
  have p:(gH e).1=e.1/\(gH e).2.1=e.2.1:=⟨fX,fX⟩
  have q:=λi=>Qs (fuel:=fuel) d b f g r i λx j=>c x<|wq _ j
  rcases h with k|k
  have l:wl e=(e.1,.file e.2.2):=by unfold wl ltOf;rw[km<|by omega]
  have m:Hm J b (fG P) a (gH e)=(a.1++[(fG<|P++[e.1],1,(fv a.2:Int))],a.2++[bytesOf A e.2.2]):=by
   grind [Hm,Al]
  grind [hpf,yL,tL,yi,rc,lI,lq,zy,sL]
  have l:wl e=(e.1,.dir e.2.2):=by unfold wl ltOf;rw[lv k]
  have m:Hm J b (fG P) a (gH e)=((a.1++[(fG<|P++[e.1],2,0)])++yi (fv a.2) (py A fc n (P++[e.1])<|.dir e.2.2),a.2++rc (py A fc n (P++[e.1])<|.dir e.2.2)):=by
   grind [Hm,decide,Al]
  grind [msg,yL,tL,yi,rc,lI,sL]
theorem He(d:Twin A J)(f:Exact A)(g:gT J):∀(n fuel at_:Nat)(P:fT)(a:St),at_<fuel->fL P->fK A ((at_:Int)+1)=2->gu A ((at_:Int)+1)<=n->
  jA J fuel at_ (fG P) a=(a.1++yi (fv a.2) (py A fc n P<|.dir ((at_:Int)+1)),a.2++rc (py A fc n P<|.dir ((at_:Int)+1)))
 |n,0,at_,P,a,h,_,_,_=>absurd h<|Rv _
 |n,fuel+1,at_,P,a,h,i,j,E=>by
  have k:at_<fv A:=by
   grind [iE]
  obtain⟨l,m⟩:=Wd d k;have o:A[at_].kind=2:=by rw[<-xa k];exact j
  have p:fQ A ((at_:Int)+1)=A[at_].gh:=by
   grind [fQ,Int,jH]
  obtain⟨_,_,s3⟩:=f.sound.2 _ j;rw[p]at s3;have b:Ey J at_=A[at_].gh.map gH:=by
   unfold Ey;rw[jH l,oV,sA,m.gh o]
  rw[jA,b];have t:∀e:fV,fK A e.2.2=1->Ag J (gH e).2.2=bytesOf A e.2.2:=λe q=>by
   obtain⟨s,c⟩:=nl (by rw[q];decide);obtain⟨u,v⟩:=Wd d c;have w:A[(e.2.2-1).toNat].kind=1:=by
    have:=q
    unfold fK at this;rw[lv s,jH c]at this;exact this
   unfold Ag bytesOf gH;rw[jH u,jH c,oV,oV,sA,sA,v.data w]
  cases n with
  |zero=>
   have:A[at_].gh=[]:=by
    rcases F:A[at_].gh with _|⟨e,r⟩
    rfl
    have:=(s3 e (by grind)).2.2.2
    have:=f.sound.1 e.2.2
    omega
   grind [py,yi,rc]
  |succ n=>
   rw[py];simp only[kids,sA,p];refine Qs (fuel:=fuel) i (jA J fuel) (λe x y B G C H=>?_) t A[at_].gh a λe b=>?_;obtain⟨s,c⟩:=nl (by rw[C];decide);have I:(((gH e).2.2.toNat:Nat):Int)+1=e.2.2:=by unfold gH;simp only;omega
   have:=He d f g n fuel (gH e).2.2.toNat (P++[e.1]) x y (i.append (λz D=>by rw[oa.1 D];exact B)) (by grind) (by grind)
   grind
   obtain⟨t1,t2,t3,t4⟩:=s3 e b;have K:=g at_ l (gH e) (by rw[m.gh o];exact DZ b)
   grind
theorem ZM(b:Sound a)(c:fM a 5 t)(e:q≠[]):((py a fc 5 [] t).find? λx=>decide (x.1=q)).map (·.2)=xc a fc t q:=by
 cases f:(py a fc 5 [] t).find? λx=>decide (x.1=q) with
 |some x=>
  grind [Ht,GQ]
 |none=>
  rcases g:xc a fc t q with _|d
  rfl
  have:=hEq.1 f _<|(GQ b c).2 ⟨e,g⟩
  simp at this
theorem yM(d:Sound a)(e:fM a 5 t):∀x∈py a fc 5 [] t,x.1≠[]/\fL x.1/\fv x.1<=5:=λx g=>by
 obtain⟨h,b⟩:=(GQ d e).1<|show(x.1,x.2)∈_ from g
 unfold xc at b
 rcases f:t.at a x.1 with _|c
 rw[f]at b;cases b
 have:=tA d _ e f
 exact⟨h,this.2.2,this.1⟩
theorem KA(c:Sound a)(d:fM a 5 t)(e:t.kind=2):Reads a fc t (yi 0<|py a fc 5 [] t) (rc<|py a fc 5 [] t):=λq f=>by
 unfold gm
 by_cases b:q=[]
 subst b
 rw[lv fX,px]
 cases t<;>first|rfl|cases e
 rw[km b,css,<-ZM c d b]
 have:=GZ f (py a fc 5 [] t) [] [] λx g=>(yM c d x g).2.1
 simp only[Hx,lJ,zy]at this
 rw[<-this]
 rfl
theorem ZN(f:Sound a)(h:fM a 5 t)(G:t.kind=2):gf (yi 0<|py a fc 5 [] t) (rc<|py a fc 5 [] t):=by
 have w:=KA (fc:=fc) f h G;have p:pQ (yi 0<|py a fc 5 [] t):=λe g=>by
  have m:e.1∈(yi 0<|py a fc 5 [] t).map (·.1):=DZ g;rw[tM]at m;obtain⟨x,i,H⟩:=ja.1 m;obtain⟨I,J,K⟩:=yM f h x i;exact⟨x.1,I,J,K,H.symm⟩
 have A:oG (yi 0<|py a fc 5 [] t):=by
  unfold oG;rw[tM];refine wz.2 ((GN f (fc:=fc) 5 [] t h).imp_of_mem λ{x y}i L M e=>M ?_)
  have:=sq (yM f h x i).2.1 (yM f h y L).2.1 e
  grind
 have q:∀l x,fL (l++[x])->gm (yi 0<|py a fc 5 [] t) (l++[x])≠fj->∃d Y,t.at a l=fh d/\kids a d=fh Y/\x∈Y.map (·.1):=λl x n j=>by
  have b:xc a fc t (l++[x])≠fj:=λe=>j<|(w.empty n).2 e;unfold xc at b;rcases B:t.at a (l++[x])with _|c
  rw[B]at b;exact absurd fX b;obtain⟨d,Y,s,N,O⟩:=yc B;exact⟨d,Y,s,N,ja.2 ⟨_,rR O,fX⟩⟩
 refine⟨p,A,λd u=>?_,λe g=>(tN _ _ e g).1,λe g b=>?_,λl x n j=>?_⟩;rcases U:fU (yi 0<|py a fc 5 [] t) (fG d)with _|⟨y,r⟩
 simp;rw[<-U];have nZ:=xO p A u;have C:∀z∈(fU (yi 0<|py a fc 5 [] t)<|fG d).map (·.1),fN z=fm/\gm (yi 0<|py a fc 5 [] t) (d++[z])≠fj:=λz k=>by
  obtain⟨e,g,rfl⟩:=ja.1 k;obtain⟨x,i,j,rfl⟩:=(yG p u).1 g;exact⟨i,(rz<|by simp).2 j⟩
 have D:∀z,fN z=fm->fL (d++[z]):=λz k=>u.append (λT P=>by rw[oa.1 P];exact k);obtain⟨b,s⟩:=C y.1 (by grind);obtain⟨c,Y,o,v,_⟩:=q d y.1 (D _ b) s;have V:=(lO f (tA f d h o).2.1 v).2.1
 have:=jW nZ (ys:=Y.map (·.1)) (λz k=>by
  obtain⟨Q,R⟩:=C z k;obtain⟨W,X,E,F,m⟩:=q d z (D _ Q) R;rw[o]at E;cases E;rw[v]at F;cases F;exact m)
 grind
 have:=(tN _ _ e g).2 b
 omega;obtain⟨c,Y,o,v,_⟩:=q l x n j;have b:=w l n.left;unfold xc at b;rw[o,oV]at b;rcases S:gm (yi 0<|py a fc 5 [] t) l with _|y
 rw[S]at b;cases b
 grind [pV,qP,Iz]
theorem Up(c:Sound a)(d:fM a 5 t):fv (py a fc 5 [] t)<=1200000:=by
 have b:=BI (fc:=fc) c 5 [] t d;rw[DK,oI]at b;exact wy b<|by decide
theorem vd(l):lA l=fG l:=iy (by rw[jZ];rfl)
theorem hpi(f:Sound A)(g:fM A 5 t)(h:fM A 5 (.dir b))(i:Qr A fl t b L)(x:jX):x∈L↔∃y,x.1=lA y/\nV (xc A (gz A fl) t) (xc A qQ<|.dir b) y=fh x.2:=by
 have d:=Ez (fc:=gz A fl) (tu:=qQ) f 5 [] (fh t) (fh<|.dir b) (λc a=>by cases a;exact g) (λc a=>by cases a;exact h);rw[i.1.mem_iff,ja];constructor;rintro⟨z,j,rfl⟩;obtain⟨y,e,a⟩:=(d z.1 z.2).1 j;exact⟨y,by rw[Hx]at e;rw[<-e];rfl,a⟩;rintro⟨y,e,a⟩;exact⟨(y,x.2),(d y x.2).2 ⟨y,fX,a⟩,by show(lA y,x.2)=x;rw[<-e]⟩
theorem Qt(a:Sound A)(c:fM A 5 t)(d:fM A 5 (.dir b)){k:Int}(e:nV (xc A (gz A fl) t) (xc A qQ<|.dir b) y=fh k):Good y:=by
 grind [hm0,hmr]
theorem Qu(d:Sound A)(f:fM A 5 t)(g:fM A 5 (.dir b))(h:Qr A fl t b L):L.Pairwise λx y=>jb x.1 y.1<0:=by
 have j:=Ez (fc:=gz A fl) (tu:=qQ) d 5 [] (fh t) (fh<|.dir b) (λc a=>by cases a;exact f) (λc a=>by cases a;exact g);have i:∀z∈cmpL A (gz A fl) qQ 5 [] (fh t) (fh<|.dir b),fL z.1:=λz k=>by
  obtain⟨y,e,a⟩:=(j z.1 z.2).1 k;rw[e,Hx];exact(Qt d f g a).val
 have nZ:(L.map (·.1)).Nodup:=(h.1.map (·.1)).nodup_iff.2 (by
  rw[Ed];exact wz.2 ((hmp d 5 [] (fh t) (fh<|.dir b) (λc a=>by cases a;exact f) (λc a=>by cases a;exact g)).imp_of_mem λ{x y}l m n e=>n<|sq (i x l) (i y m) (by rw[<-vd,<-vd];exact e)))
 refine((wz.1 nZ).and h.2).imp λ{x y}⟨o,p⟩=>?_
 grind [jb,absurd,Cp]
def nw (l:List fV)(p:fP):Option Int:=((Pl l p).bind λi=>(l[i]?).map (·.2)).bind λx=>if x.1=1 then fh x.2 else fj
def IJ (data:fT)(f:Int):fP:=(data[f.toNat]?).getD ⟨#[]⟩
def mU (data:fT)(base:List fV)(T:fT)(x:fV):List fV:=if x.2.1≠1 then []else match nw base x.1 with
 |none=>[(x.1,1,0)]
 |some f=>if IJ T f=IJ data x.2.2 then []else [(x.1,2,0)]
def sy (E:List fV)(x:fV):List fV:=if x.2.1=1/\nw E x.1=fj then [(x.1,3,0)]else []
def wj (E:List fV)(data:fT)(base:List fV)(T:fT):List fV:=E.flatMap (mU data base T)++base.flatMap (sy E)
def jP (E:List fV)(data:fT)(base:List fV)(T:fT):List jX:=(Sx<|wj E data base T).map λe=>(e.1,e.2.1)
theorem We{e:fV}:∀{l:List fV},oG l->e∈l->l.find? (λx=>decide (x.1=e.1))=fh e
 |x::r,b,a=>by
  obtain⟨c,d⟩:=WJ.1 b
  rcases mB.1 a with rfl|a
  simp
  rw[Na,yv λf=>c (by grind)]
  exact We d a
theorem uZ{g:fV->List fV}(a:∀x,g x=[]\/∃k,g x=[(x.1,k)]):∀l:List fV,((l.flatMap g).map (·.1)).Sublist (l.map (·.1))
 |[]=>List.Sublist.slnil
 |x::r=>by
  rw[MZ,nh,lM]
  rcases a x with e|⟨k,e⟩
  rw[e]
  exact(uZ a r).cons _
  rw[e]
  exact(uZ a r).cons_cons _
theorem Qv(data)(base)(T)(x):mU data base T x=[]\/∃k,mU data base T x=[(x.1,k)]:=by
 grind [mU]
theorem Qw(E)(x):sy E x=[]\/∃k,sy E x=[(x.1,k)]:=by
 grind [sy]
def Qx(a:y≠[]):nw E (fG y)=(gm E y).bind λx=>if x.1=1 then fh x.2 else fj:=by
 unfold nw;rw[ry,ng a]
theorem KB(a:gf E data)(b:y≠[]):jC ((gm E y).map<|Iz data)=(nw E<|fG y).map (IJ data):=by
 rw[Qx b];rcases c:gm E y with _|x
 rfl;obtain⟨k,f⟩:=x;rcases tG a c with e|e<;>(have e:k=_:=e;subst e;rfl)
theorem Uq(a:gf E data){e:fV}(b:e∈E)(c:e.2.1=1):nw E e.1=fh e.2.2:=by
 unfold nw;rw[ry,We a.one b,oV,wd,lv c]
theorem Qy{p}{f:Int}(a:nw E p=fh f):∃e∈E,e.1=p/\e.2=(1,f):=by
 grind [nw,ry,Option.bind_eq_some_iff,EC,Ht]
abbrev rdP (E:List fV)(data:fT)(y:fT):Option Nd:=(gm E y).map<|Iz data
theorem hpk(k:gf E data)(l:gf base T)(x:jX):(∃e∈wj E data base T,(e.1,e.2.1)=x)↔∃y,y≠[]/\fL y/\x.1=fG y/\nV (rdP E data) (rdP base T) y=fh x.2:=by
 have q:∀y,y≠[]->nV (rdP E data) (rdP base T) y=match nw E (fG y),nw base (fG y) with
   |some f,fh g=>if IJ data f=IJ T g then fj else fh 2
   |some _,fj=>fh 1
   |none,fh _=>fh 3
   |none,fj=>fj:=λy c=>by
  unfold nV rdP;rw[KB k c,KB l c];cases nw E (fG y)<;>cases nw base (fG y)<;>rfl
 constructor;rintro⟨e,a,rfl⟩;rcases qw.1 a with a|a
 obtain⟨z,i,a⟩:=wA.1 a;obtain⟨y,c,m,_,j⟩:=k.jG z i
 grind [mU,Uq,oa]
 obtain⟨z,i,a⟩:=wA.1 a;obtain⟨y,c,m,_,j⟩:=l.jG z i
 grind [sy,oa,Uq]
 rintro⟨y,c,m,j,b⟩;rw[q y c,<-j]at b;cases h:nw E x.1 with
 |some f=>
  obtain⟨e,a,n,o⟩:=Qy h;obtain⟨p,_⟩:=e;simp only at n o;cases o;subst n;cases d:nw base x.1 with
  |some g=>
   rw[h,d]at b;simp only at b;split at b;cases b
   rename_i r
   refine⟨(x.1,2,0),Rs _<|wA.2 ⟨_,a,?_⟩,by rw[rF b]⟩
   grind [mU,oa]
  |none=>
   rw[h,d]at b;refine⟨(x.1,1,0),Rs _<|wA.2 ⟨_,a,?_⟩,by rw[rF b]⟩
   grind [mU,oa]
 |none=>
  cases d:nw base x.1 with
  |some g=>
   obtain⟨e,a,_⟩:=Qy d;rw[h,d]at b;refine⟨(x.1,3,0),WA _<|wA.2 ⟨_,a,?_⟩,by rw[rF b]⟩
   grind [sy,oa]
  |none=>rw[h,d]at b;cases b
theorem Ur(c:gf E data)(d:gf base T):((wj E data base T).map (·.1)).Nodup:=by
 unfold wj;rw[nh,List.nodup_append];refine⟨(uZ (Qv data base T) E).nodup c.one,(uZ (Qw E) base).nodup d.one,?_⟩;intro a f b g e;subst e;obtain⟨x,h,rfl⟩:=ja.1 f;obtain⟨i,_⟩:=ja.1 g;obtain⟨z,_⟩:=wA.1 h
 grind [wA,mU,sy,Uq,oa]
theorem Qz{fl}{b:Int}(c:Sound A)(d:fM A 5 t)(f:fM A 5 (.dir b))(o:t.kind=2)(i:Qr A fl t b L)(j:gf E data)(k:gf base T)
  (l:Reads A (gz A fl) t E data)(m:Reads A qQ (.dir b) base T):jP E data base T=L:=by
 refine CO (·.1) ?_ (Qu c d f i) λx=>?_;exact wz.2<|tU (Ur j k);rw[hpi c d f i x];have p:x∈jP E data base T↔∃e∈wj E data base T,(e.1,e.2.1)=x:=by
  grind [jP,ja,rN,kJ]
 rw[p,hpk j k x];constructor;rintro⟨y,r,n,g,a⟩;refine⟨y,by rw[vd];exact g,?_⟩;unfold nV at a |-;rw[l y n,m y n];exact a;rintro⟨y,g,a⟩;have h:=Qt c d f a;refine⟨y,λq=>?_,h.val,by rw[<-vd];exact g,?_⟩;rw[q,hm2 o fX]at a;cases a;unfold nV at a |-;rw[l y h.val,m y h.val]at a;exact a
theorem Mt(a:(jz S).2=fm):Good (jz S).1:=by
 unfold jz at a |-;split;exact Good.nil
 rename_i c
 rw[km c]at a;split
 rename_i b
 rw[lv b]at a;exact⟨b,BZ a⟩
 grind
theorem nx(b:S.size<=maxLen):((jz S).2=fo/\xQ S)\/∃l,Good l/\S=fG l:=by
 cases a:(jz S).2 with
 |false=>
  refine .inl ⟨fX,λW=>Zu S b (λl c e=>?_) W⟩
  grind [vd,iH]
 |true=>exact .inr ⟨_,Mt a,(Gv a).symm⟩
theorem ny(l:fT):l=[]\/∃(n:fP) (r:fT),l=fx r++[n]:=by
 rcases a:fx l with _|⟨n,r⟩
 exact .inl<|List.reverse_eq_nil_iff.1 a;exact .inr ⟨n,r,by rw[<-kz,<-a,tP]⟩
def kr (A:List Ob)(fl:Fls)(op:Ops)(t:LT)(E:List fV)(data:fT)(rest:iN):Prop:=(∃φ hs more,rest=xf hs++more/\oP A fl op t E data hs φ)/\gf E data
theorem kr.reads{fl:Fls}(a:kr A fl op t E data rest):Reads A (gz A fl) t E data:=by
 obtain⟨⟨c,d,e,_,b⟩,_⟩:=a;exact b.reads
def gf.len(a:gf E data)(b:fv kM=fv data):gf E kM:=⟨a.jG,a.one,a.few,a.kinds,by rw[b];exact a.files,a.up⟩
theorem kr.tree{fl:Fls}(b:kr A fl op t E data rest)(f:∀c kM,Reads A c t E kM->gf E kM->Reads A c t' jv kM)(g:wF E->wF jv)(h:gf jv data):kr A fl op t' jv data rest:=by
 obtain⟨⟨i,j,k,e,a⟩,l⟩:=b;exact⟨⟨i,j,k,e,a.tree (λc d m n=>f c d n<|l.len m)<|g a.num⟩,h⟩
def vU (s i p:Nat)(B:WB)(A:List Ob)(N:gF)(w H:fq)(g:WG)(I:Nat)(E:List fV)(data:fT)(rest:iN):Prop:=
 ∃M g' t',fI (Mine i) N M w H/\jy M H s i p B A g' I t'/\g'.fs.brk=fo/\g'.base=g.base/\(∃l,g'.fs.got=g.fs.got++l/\∀x,l.count x+g.fs.kn x=g'.fs.kn x)/\gB A t'/\kr A g'.fl g'.op t' E data rest
theorem iw(b:jy N w s i p B A g I t)(c:g.fs.brk=fo)(U:gB A t)(d:kr A g.fl g.op t E data rest)(a:ju w H):vU s i p B A N w H g (I+400) E data rest:=
 ⟨N,g,t,fI.fJ a,(b.below a).mono<|by omega,c,fX,⟨[],by simp,λx=>by simp⟩,U,d⟩
theorem xS{a}(d:VK s i p B A N w H (I+400) (CJ g fs' a))(e:g.fs.brk=fo)(b:g.fs.Next fs')(U:gB A a)(f:kr A g.fl g.op a jv data rest):vU s i p B A N w H g (I+400) jv data rest:=by
 obtain⟨M,g',t',m,h,rfl,c,j,k,l⟩:=d;exact⟨M,g',t',m,h,by rw[c,b.1];exact e,k,by rw[c];exact b.2.2.1,U,by rw[j,l];exact f⟩
def pR{c:Type}{x all fj:c}(a:Fair fs fs' x all fj)(b:fs.brk=fo):fs.Next fs'/\x=all:=by
 rcases a with a|⟨a,_⟩
 exact a;rw[a.1]at b;cases b
theorem ms1(a:jy N w s i p B A g I t)(u:I+1000<1099511627776)(j:g.fs.brk=fo)(U:gB A t)(k:Exact A)(f:kr A g.fl g.op t E data rest)(S:fP)(v:S.size<=maxLen):
  ik 31 #[ie B.wb,hh S] w λe H=>e=fF (fY (ww E S).2)/\vU s i p B A N w H g (I+400) (ww E S).1 data rest:=by
 have m:=f.2;obtain⟨x,c0,_⟩:=a.ws;rcases nx v with⟨y,z⟩|⟨l,o,rfl⟩
 have e:ww E S=(E,1):=by unfold ww;rw[lv y]
 rw[e];exact(Zv B.wb S w z).mono λe H⟨b,h⟩=>⟨b,iw a j U f h⟩
 rcases ny l with rfl|⟨n,r,rfl⟩
 have e:ww E (fG [])=(E,6):=by unfold ww;rw[iH Good.nil];rfl
 rw[e,<-vd];exact(Pm B.wb B.bt [] Good.nil 6 (λH=>ju w H) w x c0 λW q=>(SV B.bt W).mono λe H⟨b,h⟩=>⟨b,q.trans<|h.mono q.size⟩).mono λe H⟨b,h⟩=>⟨b,iw a j U f h⟩
 obtain⟨C,D⟩:=pR (Sc A t g.fs (n::r)) j;obtain⟨K,L,F⟩:=Qh f.reads m k.sound a.ok o;rw[<-vd];refine(uby a u o).mono λe H⟨b,G⟩=>⟨?_,?_⟩
 grind [vd]
 rw[vd];exact xS G j C (Zb k.sound a.ok U g.fs n r)<|f.tree (λc d J m=>by rw[D];exact(Qh J m k.sound a.ok o).2.1) (λa=>Zz a _) F
theorem hpq(a:jy N w s i p B A g I t)(u:I+1000<1099511627776)(j:g.fs.brk=fo)(U:gB A t)(k:Exact A)(f:kr A g.fl g.op t E data rest)(S:fP)(v:S.size<=maxLen):
  ik 32 #[ie B.wb,hh S] w λe H=>e=fF (fY (rb E S).2)/\vU s i p B A N w H g (I+400) (rb E S).1 data rest:=by
 have m:=f.2;obtain⟨x,c0,_⟩:=a.ws;rcases nx v with⟨y,z⟩|⟨l,o,rfl⟩
 have e:rb E S=(E,1):=by unfold rb;rw[lv y]
 rw[e];exact(Ua B.wb S w z).mono λe H⟨b,h⟩=>⟨b,iw a j U f h⟩
 rcases ny l with rfl|⟨n,r,rfl⟩
 have e:rb E (fG [])=(E,9):=by unfold rb;rw[iH Good.nil];rfl
 rw[e,<-vd];exact(JX B.wb B.bt [] Good.nil 9 (λH=>ju w H) w x c0 λW q=>(OT B.bt W).mono λe H⟨b,h⟩=>⟨b,q.trans<|h.mono q.size⟩).mono λe H⟨b,h⟩=>⟨b,iw a j U f h⟩
 obtain⟨C,D⟩:=pR (NK A t g.fs (n::r)) j;obtain⟨K,L,F⟩:=Kp f.reads m k.sound a.ok o;rw[<-vd];refine(lcs a u o).mono λe H⟨b,G⟩=>⟨?_,?_⟩
 grind [vd]
 rw[vd];exact xS G j C (TI k.sound a.ok U g.fs n r)<|f.tree (λc d J m=>by rw[D];exact(Kp J m k.sound a.ok o).2.1) (λa=>Ud a _) F
def DT{S a}(b:(jz S).2=fo\/(jz a).2=fo):xj E S a=(E,1):=by unfold xj;rw[lv b]
theorem Mu{l m}(a:Good l)(b:Good m)(c:l=[]\/m=[]):xj E (fG l) (fG m)=(E,9):=by
 grind [xj,iH]
theorem hps(a:jy N w s i p B A g I t)(G:I+1000<1099511627776)(q:g.fs.brk=fo)(U:gB A t)(u:Exact A)(j:kr A g.fl g.op t E data rest)(S k:fP)(J:S.size<=maxLen)(K:k.size<=maxLen):
  ik 33 #[ie B.wb,hh S,hh k] w λe H=>e=fF (fY (xj E S k).2)/\vU s i p B A N w H g (I+400) (xj E S k).1 data rest:=by
 have v:=j.2;obtain⟨L,c0,_⟩:=a.ws;rcases nx J with⟨x,y⟩|⟨l,f,rfl⟩
 ·rw[DT<|.inl x]
  exact(Qf B.wb S k w y).mono λe H⟨b,h⟩=>⟨b,iw a q U j h⟩
 ·rcases nx K with⟨x,y⟩|⟨m,o,rfl⟩
  ·rw[DT<|.inr x,<-vd]
   exact(Qg B.wb l f k w y).mono λe H⟨b,h⟩=>⟨b,iw a q U j h⟩
  ·by_cases z:l=[]\/m=[]
   ·rw[Mu f o z,<-vd,<-vd]
    exact(JY B.wb B.bt l m f o 9 (λH=>ju w H) w L c0 λW C=>(Qi B.bt l m f o z W).mono λe H⟨b,h⟩=>⟨b,C.trans<|h.mono C.size⟩).mono λe H⟨b,h⟩=>⟨b,iw a q U j h⟩
   ·rcases ny l with rfl|⟨n,r,rfl⟩
    ·grind
    ·rcases ny m with rfl|⟨D,F,rfl⟩
     ·grind
     ·obtain⟨M,O⟩:=pR (NL A t g.fs (n::r) (D::F)) q
      obtain⟨T,V,P⟩:=Kq j.reads v u a.ok f o;rw[<-vd,<-vd];refine(ld1 a G f o).mono λe H⟨b,Q⟩=>⟨?_,?_⟩
      ·grind [vd]
      ·rw[vd,vd]
       exact xS Q q M (TJ u.sound a.ok U g.fs n D r F)<|j.tree (λc d R v=>by rw[O];exact(Kq R v u a.ok f o).2.1) (λa=>Ue a _ _) P
theorem wpS(b:jy N w s i p B A g I t)(h:I+1000<1099511627776)(c:g.fs.brk=fo)(U:gB A t)(j:Exact A)(k:t.kind=2)(a:kr A g.fl g.op t E data rest)(S:fP)(m:S.size<=maxLen):
  ik 67 #[ie B.wb,hh S] w λe H=>e=pD #[fD #[fY (kX E data S).1.1,fY (kX E data S).1.2],fY (kX E data S).2]/\vU s i p B A N w H g (I+400) E data rest:=by
 rcases nx m with⟨n,o⟩|⟨l,d,rfl⟩
 have e:kX E data S=((0,0),1):=by unfold kX;rw[lv n]
 rw[e];exact(hmb B.wb S w o).mono λe H⟨f,q⟩=>⟨f,iw b c U a q⟩
 obtain⟨r,rfl⟩:∃r:fT,l=fx r:=⟨fx l,by simp⟩;obtain⟨u,x⟩:=pR (Xo A g.fl t g.fs r) c;obtain⟨y,z⟩:=lub g.fl a.reads a.2 j.sound b.ok k d;rw[<-vd];refine(Rxc b h d).mono λe H⟨f,v⟩=>⟨?_,xS v c u U a⟩
 grind [vd]
theorem ms2{W}{b}(a:xL W b es (fv es))(f:fv es<=16):W.ownsRow 0 9 1 (my b 0 (fv es)<|fv es) (fv es) (gO (es.map (·.1))):=by
 obtain⟨cs,d,e⟩:=a.blk;refine⟨by simp[gO],.inr ⟨b,fv es,cs,fX,zt _,d,lw _,by unfold maxLen;omega,by rw[e,Nat.mul_one],?_⟩⟩;apply KO;intro k;by_cases c:k<fv es;have g:=a.nms k c c
 grind [World.cell?,gO]
 grind [wm,gO]
theorem xhi(k:jy N w s i p B A g I t)(P:I+1000<1099511627776)(h:g.fs.brk=fo)(U:gB A t)(o:Exact A)(n:kr A g.fl g.op t E data rest)(S:fP)(Q:S.size<=maxLen):
  ik 68 #[ie B.wb,hh S] w λe H=>∃a c,e=pD #[fy a (iz E S).1.length c,fY (iz E S).2]/\H.ownsRow 0 9 1 (fy a (iz E S).1.length c) (iz E S).1.length (gO (iz E S).1)/\
   ∃M g' t',fI (Mine i) N M w H/\jy M H s i p B A g' (I+400) t'/\g'.fs.brk=fo/\g'.base=g.base/\(∃l,g'.fs.got=g.fs.got++l/\∀x,l.count x+g.fs.kn x=g'.fs.kn x)/\gB A t'/\kr A g'.fl g'.op t' E data rest/\(iz E S).1.length<=16/\∀b,(Value.slice a (iz E S).1.length c).ownBlock=fh b->w.heap.size<=b/\M b=(0,0):=by
 have R:=n.reads;rcases nx Q with⟨T,V⟩|⟨l,C,rfl⟩
 have e:iz E S=([],1):=by unfold iz;rw[lv T]
 rw[e];exact(hma B.wb S w V).mono λe H⟨j,D⟩=>⟨fj,0,j,kO _ _ _ _,N,g,t,fI.fJ D,(k.below D).mono<|by omega,h,fX,⟨[],by simp,λx=>by simp⟩,U,n,zt _,λb h=>by cases h⟩
 obtain⟨r,rfl⟩:∃r:fT,l=fx r:=⟨fx l,by simp⟩;obtain⟨F,G⟩:=pR (yf A t g.fs r) h;rw[mK]at G;obtain⟨J,q⟩:=lvl R n.2 o.sound k.ok C;have u:(jl A t r).2.length=(iz E<|fG (fx r)).1.length:=by rw[<-q,oI]
 have W:(jl A t r).2.length<=16:=by
  by_cases f:(jl A t r).1=0;obtain⟨d,X,Y⟩:=uR f;exact(lO o.sound (tA o.sound _ k.ok X).2.1 Y).2.1
  have:(jl A t r).2=[]:=by
   unfold jl at f |-;simp only at f |-;split;rfl
   rename_i y
   rw[km y]at f;cases z:(pd A t r).2<;>rw[z]at f<;>first|rfl|exact absurd fX f
  grind
 rw[<-vd];refine(vcs k P C).mono ?_;rintro e H ⟨v,j,M,m,Z,K⟩;rw[G]at j K;rw[vd];have L:∀a c,(∀b,(Value.slice a (iz E<|fG (fx r)).1.length c).ownBlock=fh b->w.heap.size<=b/\M b=(0,0))->∃M g' t',fI (Mine i) N M w H/\jy M H s i p B A g' (I+400) t'/\g'.fs.brk=fo/\g'.base=g.base/\(∃l,g'.fs.got=g.fs.got++l/\∀x,l.count x+g.fs.kn x=g'.fs.kn x)/\gB A t'/\kr A g'.fl g'.op t' E data rest/\(iz E<|fG (fx r)).1.length<=16/\∀b,(Value.slice a (iz E<|fG (fx r)).1.length c).ownBlock=fh b->w.heap.size<=b/\M b=(0,0):=
  λa c aa=>⟨M,_,t,m,Z,by rw[show({ g with fs:=(pw A t g.fs r).1 }:WG).fs.brk=(pw A t g.fs r).1.brk from fX,F.1];exact h,fX,F.2.2.1,U,n,by rw[<-u];exact W,aa⟩
 rcases K with⟨f,rfl⟩|⟨f,b,rfl,ab,_⟩
 have O:(iz E<|fG (fx r)).1=[]:=by
  rw[<-q]
  have:(jl A t r).2=[]:=by
   unfold jl at f |-;simp only at f |-;split;rfl
   rename_i y
   rw[km y]at f;cases z:(pd A t r).2<;>rw[z]at f<;>first|rfl|exact absurd fX f
  grind
 refine⟨fj,0,by rw[j,<-J,O];rfl,by rw[O];exact kO _ _ _ _,L fj 0 λb h=>by cases h⟩;refine⟨fh<|ii b 0,(iz E<|fG (fx r)).1.length,by rw[j,<-J,u],?_,L _ _ λac ad=>?_⟩
 have:=ms2 (es:=(jl A t r).2.map lL) (by rw[oI];exact ab) (by grind)
 rwa [oI,u,Ed,show((λx:fV=>x.1)∘lL)=(λx:fP×LT=>x.1)from fX,q]at this
 grind [Value.ownBlock,pV]
theorem hpt{fl}(b:wE A fl)(l:List Ob):gz (A++l) fl=gz A fl:=by
 funext f
 unfold gz;rcases c:fl f with _|x
 rfl;have⟨id,d⟩:=x;simp only;by_cases a:id≠0;rw[lv a,lv a,sX l (by rw[b f id d c a];decide)]
 grind
theorem Reads.ac5{c}(a:Reads A c t E data)(b:Sound A)(d:fM A 5 t)(l:List Ob):Reads (A++l) c t E data:=λq e=>by
 rw[mZ b l _ q 5 t d]
 exact a q e
theorem kr.app{fl:Fls}(b:kr A fl op t E data rest)(g:Sound A)(h:fM A 5 t)(i:wE A fl)(l:List Ob):kr (A++l) fl op t E data rest:=by
 have⟨⟨j,k,m,e,a⟩,n⟩:=b;exact⟨⟨j,k,m,e,a.inj,λf o=>by rw[hpt i l];exact a.cont f o,λc d p=>(a.par c d p).ac5 g h l,a.num,a.h8,a.tab,a.opf⟩,n⟩
theorem Reads.dir(a:Reads A fc t E data):t.kind=2:=by
 have:=a [] (λx b=>by cases b)
 rw[px]at this;cases t<;>first|rfl|(exfalso;cases this)
theorem ve(E)(l):WF E l=0\/WF E l=4\/WF E l=5:=by
 unfold WF;rcases a:(List.range<|fv l).findSome? (kL E l)with _|e
 exact .inl fX
 grind [List.findSome?_eq_some_iff,kL]
theorem Hf(E)(l):xq E l=0\/xq E l=4\/xq E l=5:=by
 grind [xq,ve]
def hpv{e:Int}(a:e=0\/e=4\/e=5):(e==14)=fo:=by
 rcases a with a|a|a<;>(rw[a];rfl)
theorem QA(E)(S):((ww E S).2==14)=fo:=by
 grind [ww,Hf]
theorem Mv(E)(S):((rb E S).2==14)=fo:=by
 grind [rb,ve]
def P9 (x:List fV×Int):Prop:=(x.2==14)=fo
def Mw(E)(S a):((xj E S a).2==14)=fo:=by
 refine ro P9 (show P9 (E,_)from fX) ?_;refine ro P9 (show P9 (E,_)from fX) ?_;apply ro P9<|show P9 (E,WF E _)from hpv (ve _ _);refine ro P9 (show P9 (E,_)from fX) ?_;apply ro P9<|show P9 (E,xq E _)from hpv (Hf _ _);refine ro P9 (show P9 (E,_)from fX) ?_;refine ro P9 (show P9 (E,_)from fX) ?_;refine ro P9 (show P9 (E,_)from fX) ?_;refine ro P9 (show P9 (E,_)from fX) ?_;refine ro P9 (show P9 (E,_)from fX) ?_;refine ro P9 (show P9 (E,_)from fX) ?_;rfl
theorem Us(E)(data)(S):((kX E data S).2==14)=fo:=by
 grind [kX,ve]
theorem Ut(E)(S):((iz E S).2==14)=fo:=by
 grind [iz,ve]
theorem QB(E)(S):fv (vx E S)<=fv E:=List.length_filter_le _ _
theorem ZO(E)(S):(ww E S).1.length<=fv E+1:=by
 grind [ww,EL]
theorem Uu(E)(S):(rb E S).1.length<=fv E+1:=by
 grind [rb,wu,QB]
def Q9 (n:Nat)(x:List fV×Int):Prop:=fv x.1<=n+1
theorem Uv(E)(S a):(xj E S a).1.length<=fv E+1:=by
 have l:∀e:Int,Q9 (fv E) (E,e):=λe=>jh _;apply ro (Q9<|fv E)<|l _;apply ro (Q9<|fv E)<|l _;apply ro (Q9<|fv E)<|l _;apply ro (Q9<|fv E)<|l _;apply ro (Q9<|fv E)<|l _;apply ro (Q9<|fv E)<|l _;apply ro (Q9<|fv E)<|l _;apply ro (Q9<|fv E)<|l _;apply ro (Q9<|fv E)<|l _;apply ro (Q9<|fv E)<|l _;apply ro (Q9<|fv E)<|l _;show((vx E a).map<|pm S a).length<=_;rw[oI];exact wu<|QB _ _
structure L4 (gM:List Ob)(ws:List Slot)(ds:List Doc)(k:Nat):Prop where
 len:ds.length=ws.length
 same:∀j (h:j<ws.length) (h':j<ds.length),kr gM ws[j].2.2.1.fl ws[j].2.2.1.op ws[j].2.2.2 ds[j].2.1 ds[j].2.2.1 ds[j].2.2.2/\ds[j].2.1.length<=k/\ds[j].2.2.1.length<=k
def gK (B0:Nat)(w:fq)(W s r n:Nat):Prop:=∃R N p I A J got ws ds,gq fo fo R N w B0 W s r p I A J got ws ds/\L4 A ws ds (1200000+n)/\I<=900*n/\(∀d,R.q d<=n)/\1<=fv ws/\fv ws<=n
theorem L4.mono{k d:Nat}(a:L4 A ws ds k)(e:k<=d):L4 A ws ds d:=⟨a.len,λj b c=>⟨(a.same j b c).1,wy (a.same j b c).2.1 e,wy (a.same j b c).2.2 e⟩⟩
theorem L4.set(b:L4 A ws ds k)(h:j<fv ws)(l:kr A x.2.2.1.fl x.2.2.1.op x.2.2.2 d.2.1 d.2.2.1 d.2.2.2)(m:fv d.2.1<=k+1)(n:fv d.2.2.1<=k+1):L4 A (ws.set j x) (ds.set j d) (k+1):=by
 refine⟨by simp[b.len],λi U c=>?_⟩;have f:i<fv ws:=by simpa using U
 have g:i<fv ds:=by simpa using c
 simp only[WH];by_cases e:j=i
 grind
 simp only[km e];have⟨a,_⟩:=b.same i f g
 grind
theorem L4.aaK(a:L4 A ws ds k)(f:j<fv ws)(g:j<fv ds)(d:kr A x.2.2.1.fl x.2.2.1.op x.2.2.2 ds[j].2.1 ds[j].2.2.1 ds[j].2.2.2):L4 A (ws.set j x) ds k:=by
 refine⟨by simp[a.len],λi U b=>?_⟩;have c:i<fv ws:=by simpa using U
 simp only[WH];by_cases e:j=i;subst e;simp only;exact⟨d,(a.same j c b).2⟩;simp only[km e];exact a.same i c b
def Wf (g:WG)(got:List Int):WG:={ g with fs:={ g.fs with got:=got,brk:=fo } }
def Half (B0:Nat)(w H:fq)(W s r p I:Nat)(A J:List Ob)(ws:List Slot)(ds:List Doc)(Q:Nat->Nat)(j:Nat)(B:WB)(jv:List fV)(kM:fT)(rest':iN):Prop:=
 ∃a M g' t' b,a.q=Q/\gq fo fo a M H B0 W s r p (I+400) A J b (ws.set j (j+2,B,g',t')) ds/\kr A g'.fl g'.op t' jv kM rest'/\Below B0 w H
theorem yN(b:gq fo fo R N w B0 W s r p I A J got ws ds)(a:ju w W1)(m:fI (Mine<|j+2) N M W1 H):Below B0 w H:=
 ⟨m.os.trans a.os,m.tape.trans a.tape,m.output.trans a.output,wy (wy b.size a.size) m.size |> λd=>wy a.size m.size,λk c=>(m.block k (np c<|wy b.size a.size) (by rw[b.old k c];exact pu8<|by omega)).trans<|a.block k (np c b.size)⟩
theorem CV(c:gq fo fo R N w B0 W s r p I A J got ws ds)(b:w.heap.size<W1.heap.size)(m:fI (Mine<|j+2) N M W1 H):Bj w.heap.size W1 H:=
 ⟨np b m.size,λd=>wJ (a:=(ii w.heap.size d))<|m.block w.heap.size b (by rw[c.fresh w.heap.size<|lw _];exact pu8<|by omega)⟩
theorem EA(a:gq fo fo R N w B0 W s r p I A J got ws ds)(d:j<fv ws)(h:ws[j]=(j+2,B,g,t))
  (i:∀{W1:fq},jy N W1 s (j+2) p B A (Wf g got) I t->gB A t->Calls prog f args W1 λe H=>e=fF v/\vU s (j+2) p B A N W1 H (Wf g got) (I+400) jv kM rest'):
  ∀W1,ju w W1->w.heap.size<W1.heap.size->Calls prog f args W1 λe H=>e=fF v/\Bj w.heap.size W1 H/\Half B0 w H W s r p I A J ws ds R.q j B jv kM rest':=by
 intro W1 b k;have⟨l,U,n⟩:=(a.below b).work d h;apply (i l U).mono;rintro e H ⟨o,M,g',t',m,q,u,x,y,z,C⟩;have⟨pt,c⟩:=n (by omega) m q x y z;rw[u]at c;exact⟨o,CV a k m,{ R with pt:=pt },M,g',t',_,fX,c,C,yN a b m⟩
theorem vV(h:j<fv ds)(i:ds[j]=(Sb,E,data,rest))(l:rest'.drop 32=rest.drop 32)
  (m:∀{b:Nat->Prop}{O:fq},gi b O Sb E data rest->Calls prog f args O λe H=>e=fF v/\gi (kA b O H) H Sb jv kM rest'/\fH b O H):
  ∀O,Half B0 w O W s r p I A J ws ds Q j B jv kM rest'->Calls prog f args O λe H=>e=fF v/\
   ∃a M g' t' c,a.q=Q/\gq fo fo a M H B0 W s r p (I+400) A J c (ws.set j (j+2,B,g',t')) (ds.set j (Sb,jv,kM,rest'))/\kr A g'.fl g'.op t' jv kM rest'/\Below B0 w H:=by
 rintro O ⟨a,M,g',t',c,n,g,o,q⟩;have⟨t,u⟩:=g.aa3 h i;apply (m t).mono;rintro e H ⟨x,y,d⟩;have⟨z,C⟩:=u y l d;exact⟨x,a,z,g',t',c,n,C,o,q.trans (g.low d λk d=>.inl (by grind))⟩
theorem Am{b}{t}{z n}{d}(e:w.ownsRow b t z v n d):∃a c,v=fy a n c:=by
 rcases e.2 with⟨rfl,rfl⟩|⟨g,h,_,rfl,_⟩
 all_goals grind
def Mx{Q a:Nat->Nat}{k v n:Nat}(e:a=pC Q k v)(b:∀d,Q d<=n)(c:v<=n+1):∀d,a d<=n+1:=λd=>by
 rw[e]
 unfold pC
 split
 exact c
 exact wu<|b d
def xT{a:xP}{b}{B:WB}(L:L4 A ws ds (1200000+n))(l:I<=900*n)(c:∀d,a.q d<=n+1)(e:1<=fv ws)(m:fv ws<=n)(f:j<fv ws)
  (g:gq fo fo a M H B0 W s r p (I+400) A J b (ws.set j (j+2,B,g',t')) (ds.set j d))(h:kr A g'.fl g'.op t' d.2.1 d.2.2.1 d.2.2.2)(i:fv d.2.1<=1200000+n+1)(k:fv d.2.2.1<=1200000+n+1):gK B0 H W s r (n+1):=
 ⟨a,M,p,I+400,A,J,b,_,_,g,L.set f h i k,by omega,c,by simpa using e,by simp;omega⟩
theorem mty(aS:n<=1048600)(u:gq fo fo R N w B0 W s r p I A J got ws ds)(L:L4 A ws ds (1200000+n))(ar:I<=900*n)(K:∀d,R.q d<=n)(af:1<=fv ws)(au:fv ws<=n)(h:j<fv ws)(F:j<fv ds)(G V X Y:Int)(S l:fP)(Z)(aa ab)(aw:S.size<=1048576)(ax:l.size<=1048576)(aT:8<=G/\G<=12):
  ik 50 #[ie W,fB<|fh (ii (ws[j].2.1.wb) 0),fB<|fh (ii (ds[j].1) 0),fD<|iT G V X Y S l Z aa ab] w λe H=>e=fF (fE fm)/\gK B0 H W s r (n+1)/\Below B0 w H:=by
 obtain⟨B,g,t,P⟩:∃B g t,ws[j]=(j+2,B,g,t):=⟨_,_,_,by rw[<-u.slot j h]⟩;obtain⟨Sb,E,data,rest,Q⟩:∃Sb E data rest,ds[j]=(Sb,E,data,rest):=⟨_,_,_,_,fX⟩;obtain⟨x,ay,ag⟩:=L.same j h F;rw[P,Q]at x;rw[Q]at ay ag;rw[P,Q];simp only at x ay ag |-;have ah:Exact A:=u.w3.wI.2.2.1;have ai:=x.2.fine (by omega);have aj:S.size<=maxLen:=wy aw (by decide);have aC:l.size<=maxLen:=wy ax (by decide);have ak:I+1000<1099511627776:=by omega
 have aD:G=8\/G=9\/G=10\/G=11\/G=12:=by omega
 rcases aD with rfl|rfl|rfl|rfl|rfl
 refine(XL W B.wb Sb V X Y S l Z aa ab (kX E data S).1.1 (kX E data S).1.2 (kX E data S).2 (Us _ _ _) _ w
  (EA u h P λy U=>wpS y ak fX U ah x.reads.dir x S aj) ?_).mono ?_
 rintro O ⟨o,M,g',t',v,_,f,_⟩ az T;have⟨am,an,ao,ap,z⟩:=(f.below T).Zr j F
 grind [XJ]
 rintro e H ⟨k,O,⟨o,M,g',t',v,q,f,C,D⟩,ac⟩;refine⟨k,⟨o,M,p,I+400,A,J,v,_,_,f.below ac,(L.aaK h F (by grind)).mono<|by omega,by omega,λd=>by rw[q];exact wu<|K d,by simpa using af,by simp;omega⟩,D.trans<|ac.mono f.size⟩;obtain⟨ad,aA⟩:=ol<|(iz E S).1;have aU:fv ad<=16:=by
  rw[aA];unfold iz;split
  grind
  split
  grind
  split
  grind
  rw[qY];exact ai.few S
 refine(XM W B.wb Sb V X Y S l Z aa ab (iz E S).2 (Ut _ _) ad (by omega)
  (λa c H=>∃o M g' t' v,o.q=R.q/\gq fo fo o M H B0 W s r p (I+400) A J v (ws.set j (j+2,B,g',t')) ds/\kr A g'.fl g'.op t' E data rest/\Below B0 w H/\H.ownsRow 0 9 1 (fy a (fv ad) c) (fv ad) (gO ad)/\∀b,(Value.slice a (fv ad) c).ownBlock=fh b->M b=(0,0)/\B0<=b/\∀i,¬o.F i b)
  (λH=>gK B0 H W s r (n+1)/\Below B0 w H) w ?_ ?_ ?_)
 intro W1 ac aE;have⟨y,U,aF⟩:=(u.below ac).work h P;refine(xhi y ak fX U ah x S aj).mono ?_;rintro e H ⟨a,c,k,ae,M,g',t',m,aG,aH,aI,av,aJ,C,_,aq⟩;rw[<-aA]at k ae aq;have⟨pt,f⟩:=aF (by omega) m aG aI av aJ;rw[aH]at f;have aB:=u.below ac;refine⟨a,c,k,CV u aE m,ae,{ R with pt:=pt },M,g',t',_,fX,f,C,yN u ac m,ae,λb aK=>?_⟩;have⟨aL,aM⟩:=aq b aK;exact⟨aM,wy aB.size aL,λi aN=>by have:=(aB.held i).lt b aN;omega⟩;rintro a c O ⟨o,M,g',t',v,_,f,_⟩ az T;have⟨am,an,ao,ap,z⟩:=(f.below T).Zr j F;rw[Q]at z;refine(XI z ai S<|by omega).mono ?_
 grind [tB,Am]
 rintro a c O ⟨o,M,g',t',v,q,f,C,D,ae,aq⟩ az T;refine((f.below T).aa4 (by rw[q];have:=K 8;omega) (by omega) (gg ae λg av=>T.block g<|gc ae av) aq).mono ?_;rintro e H ⟨k,aO,aP,aQ,aR⟩;refine⟨k,⟨aO,M,p,I+400,A,J,v,_,_,aQ,(L.aaK h F (by grind)).mono<|by omega,by omega,Mx aP (by rw[q];exact K) (by rw[q];exact hNe<|K 8),by simpa using af,by simp;omega⟩,(D.trans<|T.mono f.size).trans aR⟩;refine(SD W B.wb Sb V X Y S l Z aa ab (ww E S).2 (QA _ _) _ _ w
  (EA u h P λy U=>ms1 y ak fX U ah x S aj)
  (vV F Q fX (λz=>by have⟨am,an,ao,ap,al⟩:=z;exact SA al ai S<|by omega))).mono ?_
 rintro e H ⟨k,o,M,g',t',v,q,f,C,D⟩;exact⟨k,xT L ar (λd=>by rw[q];exact wu<|K d) af au h f C (by grind [ZO,ww])<|wu ag,D⟩;refine(Ox W B.wb Sb V X Y S l Z aa ab (rb E S).2 (Mv _ _) _ _ w
  (EA u h P λy U=>hpq y ak fX U ah x S aj)
  (vV F Q fX (λz=>by have⟨am,an,ao,ap,al⟩:=z;exact Ot al ai S<|by omega))).mono ?_
 rintro e H ⟨k,o,M,g',t',v,q,f,C,D⟩;exact⟨k,xT L ar (λd=>by rw[q];exact wu<|K d) af au h f C (by grind [Uu,rb])<|wu ag,D⟩;refine(Oy W B.wb Sb V X Y S l Z aa ab (xj E S l).2 (Mw _ _ _) _ _ w
  (EA u h P λy U=>hps y ak fX U ah x S l aj aC)
  (vV F Q fX (λz=>by have⟨am,an,ao,ap,al⟩:=z;exact Ow al ai S l aw ax))).mono ?_
 rintro e H ⟨k,o,M,g',t',v,q,f,C,D⟩;exact⟨k,xT L ar (λd=>by rw[q];exact wu<|K d) af au h f C (by grind [Uv,xj])<|wu ag,D⟩
