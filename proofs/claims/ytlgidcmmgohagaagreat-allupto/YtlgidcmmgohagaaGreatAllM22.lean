/- A part of the proof. -/
import Derived.Test.YtlgidcmmgohagaaGreatAllM21
set_option linter.all false
namespace Go.Proofs.YtlgidcmmgohagaaGreat
open Go.RowKit Go.Sort Go.Shelf Go.Proofs.Tryz
open Go.Value renaming slice->fy,string->fA,pointer->fB,tuple->fC,agg->fD,bool->fE
open Go.Ending renaming returned->fF
open Option renaming some->fh,none->fj
open Bool renaming true->fm,false->fo
open Go renaming World->fq,Value->fu
open List renaming length->fv,reverse->fx
open Go.RowKit renaming Hid->fe
set_option maxRecDepth 100000
set_option maxHeartbeats 0
variable {a A b:List Ob}{fc R h:ji}{t u:LT}{E:List fV}{data:fQ}{F:Nat->Prop}{w:fq}{S nc dc:Nat}{na da:iD}{more:gX}{φ:Nat->Nat}
def xR (S:fO):Prop:=∀a,Calls prog 69 #[fA S] a λe J=>e=fF (fC #[fD #[fA ⟨#[]⟩,fA ⟨#[]⟩,fA ⟨#[]⟩,fA ⟨#[]⟩,fA ⟨#[]⟩],.int .i64 1])/\Below a.heap.size a J
theorem Zs(b)(S)(w:fq)(c:xR S):ik 31 #[ii b,hZ S] w (vd (fY 1) w):=by
 go_enter func31,ntmps31;go_wp2_with(go_at_call 69;refine Hk (c _) λd a=>?_);go_ret
 first|exact⟨fX,a⟩|exact⟨fX,a.alloc a.size _⟩
theorem Ua(b)(S)(w:fq)(c:xR S):ik 32 #[ii b,hZ S] w (vd (fY 1) w):=by
 go_enter func32,ntmps32;go_wp2_with(go_at_call 69;refine Hk (c _) λd a=>?_);go_ret
 first|exact⟨fX,a⟩|exact⟨fX,a.alloc a.size _⟩
theorem hme(b)(S)(w:fq)(c:xR S):ik 68 #[ii b,hZ S] w (vd (fC #[fy fj 0 0,fY 1]) w):=by
 go_enter func68,ntmps68;go_wp2_with(go_at_call 69;refine Hk (c _) λd a=>?_);go_ret2
 first|exact⟨fX,a⟩|exact⟨fX,a.alloc a.size _⟩
theorem Qf(b)(S c)(w:fq)(d:xR S):ik 33 #[ii b,hZ S,hZ c] w (vd (fY 1) w):=by
 go_enter func33,ntmps33;go_wp2_with(go_at_call 69;refine Hk (d _) λe a=>?_);go_ret
 first|exact⟨fX,a⟩|exact⟨fX,a.alloc a.size _⟩
theorem Qg(g)(l)(c:Good l)(d)(w:fq)(h:xR d):ik 33 #[ii g,hZ<|lA l,hZ d] w (vd (fY 1) w):=by
 have a:=λi=>kj l c i;obtain⟨H,j,k,m,Z,e⟩:=sk l;unfold ln at a;simp only[e]at a;clear e c;generalize lA l=n at a |-;go_enter func33,ntmps33;go_wp2_with fail;refine Hk (a _) λo b=>?_;go_wp2_with fail;refine Hk (h _) λp f=>?_;go_wp2;go_ret;exact⟨fX,WK (gS (b.alloc b.size _) f) (ww (ww b.size<|by simp) f.size) _⟩
theorem hml(j)(S)(w:fq)(k:xR S):ik 67 #[ii j,hZ S] w (vd (fC #[fD #[fY 0,fY 0],fY 1]) w):=by
 have f:ju w (w.k #[fY 0,fY 0] 141):=(mi _ _).alloc (lw _) _;have g:lp (w.k #[fY 0,fY 0] 141) w.heap.size:=oO _ _
 change fe _ at f g
 go_enter func67,ntmps67;go_wp2_with fail;refine Hk (k _) λb h=>?_
 have c:lp b w.heap.size:=(h.block w.heap.size<|by simp).trans g;obtain⟨o,_⟩:=c.cells;have i:ju w b:=f.trans<|h.mono (by simp);have d:((b.setCell (ie w.heap.size 0)<|fY 0).setCell (ie w.heap.size 1)<|fY 0).heap[w.heap.size]?=fh (.cells #[fY 0,fY 0] 141 (0,0)):=by
  unfold lp at c;simp[World.setCell,ED,c]
 have e:∀a,(((b.setCell (ie w.heap.size 0)<|fY 0).setCell (ie w.heap.size 1)<|fY 0).alloc a).heap[w.heap.size]?=fh (.cells #[fY 0,fY 0] 141 (0,0)):=λa=>(sK _ _ _ (lH.1 d).1).trans d;have l:∀a,(((b.setCell (ie w.heap.size 0)<|fY 0).setCell (ie w.heap.size 1)<|fY 0).alloc a).c w.heap.size 0=fh (fY 0):=λa=>by simp[World.cell?,e a]
 have m:∀a,(((b.setCell (ie w.heap.size 0)<|fY 0).setCell (ie w.heap.size 1)<|fY 0).alloc a).c w.heap.size 1=fh (fY 0):=λa=>by simp[World.cell?,e a]
 have n:∀a,ju w (((b.setCell (ie w.heap.size 0)<|fY 0).setCell (ie w.heap.size 1)<|fY 0).alloc a):=λa=>((i.setCell (lw _) _).setCell (lw _) _).alloc (by simpa using i.size) _;clear c d e;go_wp2;exact oa (v:=fC #[fD #[fY 0,fY 0],fY 1]) (by simp[results,results67,go_sem,l,m]) fX ⟨fX,n _⟩
theorem iM{l}(a:Good l):jz (fG l)=(l,fm):=by
 rw[Ae a.val,iE a.len]
def wlo{p x:fQ}(b:xc a fc t p=fj)(d:p <+: x):xc a fc t x=fj:=by
 obtain⟨f,rfl⟩:=d;unfold xc at b |-;rw[lx];rcases e:t.at a p with _|c
 rfl;rw[e]at b;cases b
theorem CR(l:fQ)(x:fO):(l++[x]).take (fv (l++[x])-1)=l:=Ec<|by simp
theorem Zt{l:fQ}{x:fO}(a:Good (l++[x])):yr E (fG<|l++[x])=if xu E (l++[x])≠0 then(E,xu E<|l++[x])else if ol E (fG<|l++[x])≠0 then(E,6)else if 16<=fv (fU E<|fG l) then(E,11) else(E++[(fG<|l++[x],2,0)],0):=by
 grind [yr,iM,CR]
theorem Ub{l}(a:Good l)(b:l≠[]):rx E (fG l)=if ig E l≠0 then(E,ig E l)else if 0<fv (fU E<|fG l) then(E,8) else(vx E<|fG l,0):=by
 grind [rx,iM]
theorem Qh(f:Reads a fc t E data)(hs:gf E data)(o:Sound a)(p:fM a 5 t){n:fO}{b:fQ}(q:Good (fx b++[n])):
  (jD a t oY (n::b)).2.1=(yr E<|fG (fx b++[n])).2/\Reads a fc (jD a t oY (n::b)).2.2 (yr E<|fG (fx b++[n])).1 data/\gf (yr E<|fG (fx b++[n])).1 data:=by
 have i:=q.val;have y:(jD a t oY (n::b)).2.1=(yr E<|fG (fx b++[n])).2:=by
  unfold jD;rw[Zt q,<-Mk f hs i.left n];simp only[mK];by_cases k:(jA a t b).1≠0
  grind
  rw[km k,km k];have⟨d,r,s⟩:=uX<|oP.1 k;have g:=mY (fc:=fc) r s n [];rw[<-ve f hs o p r s];cases u:jp (jA a t b).2 n with
  |some c=>
   rw[u,wy,px]at g;rw[lv<|show(fh c:Option LT).isSome=fm from fX,lv (show ol E (fG<|fx b++[n])≠0 from λe=>by rw[show fx b++[n]=fx b++n::[]from fX]at e;rw[(f.Qb hs i).1 e]at g;cases g)]
  |none=>
   rw[u]at g;rw[km (show ¬(fj:Option LT).isSome=fm by simp),km (show ¬ol E (fG<|fx b++[n])≠0 from λe=>e<|(f.Qb hs i).2 g)];split<;>rfl
 refine⟨y,?_⟩;have⟨c1,c2,c3⟩:=TP (fc:=fc) o p n b (er:=(jD a t oY (n::b)).2.1) (t':=(jD a t oY (n::b)).2.2) fX;rcases Qa hs (fG<|fx b++[n]) with⟨z,v⟩|⟨z,l,x,v,A,D,B,C,w⟩
 grind
 have e:=tk A i v.symm;rw[e]at B w;obtain⟨d1,d2⟩:=c3 (by omega);refine⟨λh m=>?_,C⟩;rw[d2 h,w h m];by_cases j:h=fx b++[n];rw[lv j,lv j];rfl;rw[km j,km j];split
 rename_i uy
 have:=wlo d1 uy
 rw[f h m]at this
 grind
 exact f h m
theorem zo(d:Reads a fc t E data)(hs:gf E data){b}(c:fL b)(e:xc a fc t b≠fh .dir):fU E (fG b)=[]:=by
 rcases U:fU E (fG b)with _|⟨y,m⟩
 rfl;exfalso;obtain⟨x,f,⟨g,h,i⟩,_⟩:=(yE hs.jF c).1 (show y∈fU E (fG b) by rw[U];exact oN ..);have j:fL (b++[x]):=c.append (λz k=>by rw[om.1 k];exact f);obtain⟨n,l⟩:=hs.up _ _ j<|(rE (by simp)).2 ⟨g,h,i⟩;apply e;rw[d b c,l];rfl
theorem Ku(i:Reads a fc t E data)(hs:gf E data)(e:Sound a)(f:fM a 5 t){b}{c:LT}(g:t.at a b=fh c):(yn a oY c).2=if 0<fv (fU E<|fG b) then 8 else 0:=by
 have j:=(tA e b f g).2.2;unfold yn;simp only[sg];by_cases d:c.kind=2;have⟨Y,h⟩:=rB (a:=a) d;rw[km (show ¬c.kind=1 by rw[d];decide),vY h,<-ve i hs e f g h]
 grind
 have k:c.kind=1:=by cases c<;>first|rfl|exact absurd fX d
 grind [xc,pW,tK,pT,zo]
theorem Kv(i:Reads a fc t E data)(hs:gf E data)(j:Sound a)(k:fM a 5 t){n:fO}{b:fQ}(d:Good (fx b++[n])):
  (gV a t oY (n::b)).2.1=(rx E<|fG (fx b++[n])).2/\Reads a fc (gV a t oY (n::b)).2.2 (rx E<|fG (fx b++[n])).1 data/\gf (rx E<|fG (fx b++[n])).1 data:=by
 have m:=d.val;have o:(gV a t oY (n::b)).2.1=(rx E<|fG (fx b++[n])).2:=by
  unfold gV;rw[Ub d<|by simp]
  grind [mJ,rF,kL,pm,vZ,Ku,fU,fG]
 refine⟨o,?_⟩;have⟨c1,c2,c3⟩:=PL (fc:=fc) j k n b (er:=(gV a t oY (n::b)).2.1) (t':=(gV a t oY (n::b)).2.2) fX;rcases Mi hs (fG<|fx b++[n]) with⟨p,f⟩|⟨p,l,x,f,q,u,r,_,s,g⟩
 grind
 have e:=tk q m f.symm;rw[e]at r g;obtain⟨d1,d2⟩:=c3 (by omega);refine⟨λc h=>?_,s⟩;rw[d2 c,g c h];split;rfl;exact i c h
theorem hmm(e:Reads a fc t E data)(hs:gf E data){f:fQ}{n:fO}(g:fL (f++[n])){d:LT}{Y:Kids}(j:t.at a f=fh d)(k:kids a d=fh Y):
  (jp Y n=fj/\ol E (fG<|f++[n])=0)\/∃c,jp Y n=fh c/\t.at a (f++[n])=fh c/\ol E (fG<|f++[n])=c.kind:=by
 have b:=mY (fc:=fc) j k n [];rcases h:jp Y n with _|c
 rw[h]at b;exact .inl ⟨fX,(e.Qb hs g).2 b⟩;rw[h,wy,px]at b;refine .inr ⟨c,fX,?_,?_⟩
 grind [lx,lh,pd]
 cases c with
 |file i=>exact(e.Kk hs g).2 ⟨_,b⟩
 |held l=>exact(e.Kk hs g).2 ⟨_,b⟩
 |dir i=>exact(e.tI hs g).2 b
 |own m=>exact(e.tI hs g).2 b
theorem hmn(r:Reads a fc t E data)(hs:gf E data)(g:Exact a)(s:fM a 5 t){F}{c:LT}(h:t.at a F=fh c)(i:F≠[]){m:Nat}(O:m<=5):
  (E.any<|iG (fG F) (fv F) m)=fm↔5<(m:Int)+kO a 5 c:=by
 have⟨u,b,hF⟩:=tA g.sound F s h;have B:kO a 5 c=kO a (5-fv F) c:=zY _ _ c (by omega) b;have v:=lss (fc:=fc) g (5-fv F) c b<|5-m;rw[<-B]at v;have C:5<(m:Int)+kO a 5 c↔¬kO a 5 c<=((5-m:Nat):Int):=by omega
 rw[C,v];constructor;intro D G;have⟨e,d,j⟩:=iff.1 D;unfold iG at j;simp only[EI,Hz]at j;have⟨w,y⟩:=j;have⟨l,H,k,P,z⟩:=hs.jF e d;rw[z]at w y;obtain⟨n,Q,rfl⟩:=(nV k hF i).1 w;rw[rC k,lI]at y;have o:gj E (F++n)≠fj:=(rE H).2 ⟨e,d,z⟩;have I:xc a fc c n≠fj:=λJ=>o<|(r.empty k).2 (by rw[Ct h];exact J)
 have:=G n I
 omega;intro K;have L:∃x,xc a fc c x≠fj/\¬fv x<=5-m:=by
  exact Classical.byContradiction λb=>K λx p=>Classical.byContradiction λu=>b ⟨x,p,u⟩
 have⟨x,p,M⟩:=L;have f:xc a fc t (F++x)≠fj:=by rw[Ct h];exact p
 have q:fL (F++x):=by
  unfold xc at f;rcases A:t.at a (F++x)with _|e
  rw[A]at f;exact absurd fX f;exact(tA g.sound _ s A).2.2
 have o:gj E (F++x)≠fj:=λe=>f<|(r.empty q).1 e;have⟨e,d,N⟩:=(rE (by simp[i])).1 o;refine iff.2 ⟨e,d,?_⟩;unfold iG;rw[N,rC q,lI];simp only[EI,Hz];refine⟨(nV q hF i).2 ⟨x,?_,fX⟩,by omega⟩;rintro rfl;simp at M
theorem Zu{F a}(hF:fL F)(c:fL a)(d:F≠[]):Do (fG a) (fG F)=fm↔F <+: a/\F≠a:=by
 rw[nV c hF d];constructor;rintro⟨b,f,rfl⟩;exact⟨qD _ _,λe=>f (by simpa using e.symm)⟩;rintro⟨⟨b,rfl⟩,g⟩;exact⟨b,λe=>g (by rw[e];simp),fX⟩
def Uc{F a:fQ}{y:fO}(hF:Good F)(b:Good (a++[y]))(c:F≠[]):zt E (fG F) (fG<|a++[y]) =
  if ig E F≠0 then(E,ig E F)
  else if Do (fG<|a++[y]) (fG F)=fm then(E,9)
  else if xu E (a++[y])≠0 then(E,xu E<|a++[y])
  else if((fG F).toList==(fG<|a++[y]).toList)=fm then(E,0)
  else if ol E (fG<|a++[y])=2/\ol E (fG F)=1 then(E,7)
  else if ol E (fG<|a++[y])=1/\ol E (fG F)=2 then(E,5)
  else if ol E (fG<|a++[y])=2/\0<fv (fU E<|fG (a++[y])) then(E,8)
  else if ol E (fG<|a++[y])=0/\16<=fv (fU E<|fG a)/\wl (fG F) (fG a)=fo then(E,11)
  else if(E.any<|iG (fG F) (fv F) (fv<|a++[y]))=fm then(E,11)
  else((vx E<|fG (a++[y])).map<|po (fG F) (fG<|a++[y]),0):=by
 unfold zt;rw[iM hF,iM b];simp only;rw[km<|by simp,km (by simpa using c),CR]
theorem Kw(g:Reads a fc t E data)(hs:gf E data)(S:Exact a)(w:fM a 5 t){n m:fO}{f b:fQ}(T:Good (fx f++[n]))(K:Good (fx b++[m])):
  (QP a t oY (n::f) (m::b)).2.1=(zt E (fG<|fx f++[n])<|fG (fx b++[m])).2/\Reads a fc (QP a t oY (n::f) (m::b)).2.2 (zt E (fG<|fx f++[n])<|fG (fx b++[m])).1 data/\gf (zt E (fG<|fx f++[n])<|fG (fx b++[m])).1 data:=by
 have L:=S.sound;have h:=T.val;have j:=K.val;have A:n::f=m::b↔fx f++[n]=fx b++[m]:=by
  rw[<-kL,<-kL];exact⟨λe=>by rw[e],λe=>cnf.1 e⟩
 have ac:((fG<|fx f++[n]).toList==(fG<|fx b++[m]).toList)=decide (n::f=m::b):=by
  rw[PX h j];by_cases e:n::f=m::b;rw[iE e,iE<|A.1 e];rw[yv e,yv λg=>e<|A.2 g]
 have M:(QP a t oY (n::f) (m::b)).2.1=(zt E (fG<|fx f++[n])<|fG (fx b++[m])).2:=by
  unfold QP;rw[Uc T K<|by simp,ac];simp only[mJ,mK,kL];have U:=rF g hs (n::f) (by rw[kL];exact h);rw[kL]at U;rw[<-U,<-Mk g hs j.left m];by_cases s:(pm a t (n::f)).1≠0;rw[lv s,lv s];rw[km s,km s];have N:=Zu h j (by simp);by_cases u:fx f++[n] <+: fx b++[m]/\n::f≠m::b;rw[lv u,lv (N.2 ⟨u.1,λe=>u.2<|A.2 e⟩)];rw[km u,km λe=>u ⟨(N.1 e).1,λad=>(N.1 e).2<|A.1 ad⟩];by_cases p:(jA a t b).1≠0;rw[lv<|.inl p,lv p];rw[km p];by_cases B:n::f=m::b;rw[lv<|.inr B,lv<|iE B];exact oP.1 p;rw[km (show ¬((jA a t b).1≠0\/n::f=m::b)from λe=>e.elim p B),km (show ¬decide (n::f=m::b)=fm from λe=>B<|Cb e)];have C:=vZ<|oP.1 s;rw[kL]at C;obtain⟨c,ae⟩:=oX<|(pm a t (n::f)).2;rw[<-ae]at C |-;have⟨d,V,O⟩:=uX<|oP.1 p;obtain⟨Y,af⟩:=oX<|(jA a t b).2;rw[<-af]at O |-;have ag:ol E (fG<|fx f++[n])=c.kind:=by
   have q:xc a fc t (fx f++[n])=fh (nd a fc c):=by unfold xc;rw[C];rfl
   cases c with
   |file i=>exact(g.Kk hs h).2 ⟨_,q⟩
   |held au=>exact(g.Kk hs h).2 ⟨_,q⟩
   |dir i=>exact(g.tI hs h).2 q
   |own av=>exact(g.tI hs h).2 q
  have P:=hmn g hs S w C (by simp) (m:=fv<|fx b++[m]) K.len;have ah:((fv (fx b++[m]):Nat):Int)=((fv b+1:Nat):Int):=by simp
  rw[ah]at P;have ai:wl (fG<|fx f++[n]) (fG<|fx b)=decide (f=b):=by
   by_cases e:f=b;rw[iE e,(kR h j.left).2 ⟨n,by rw[e]⟩];rw[yv e];cases aj:wl (fG<|fx f++[n]) (fG<|fx b) with
   |false=>rfl
   |true=>
    have⟨x,o⟩:=(kR h j.left).1 aj
    have:=ss2 o<|by simp
    exact absurd (cnf.1 this) e
  have ak:(mC a oY (decide (f=b)) Y m c).2=if ol E (fG<|fx b++[m])=2/\c.kind=1 then 7 else if ol E (fG<|fx b++[m])=1/\c.kind=2 then 5 else if ol E (fG<|fx b++[m])=2/\0<fv (fU E<|fG (fx b++[m])) then 8 else if ol E (fG<|fx b++[m])=0/\16<=fv Y/\decide (f=b)=fo then 11 else 0:=by
   unfold mC;rcases hmm g hs j V O with⟨v,D⟩|⟨e,v,al,D⟩
   rw[v,D];simp only;rw[km (show ¬((0:Int)=2/\c.kind=1)from λx=>absurd x.1<|by decide),km (show ¬((0:Int)=1/\c.kind=2)from λx=>absurd x.1<|by decide),km (show ¬((0:Int)=2/\0<fv (fU E<|fG (fx b++[m])))from λx=>absurd x.1<|by decide)];by_cases G:16<=fv Y/\decide (f=b)=fo;rw[lv G,lv ⟨trivial,G⟩];rw[km G,km λx=>G x.2];rw[v,D];simp only;unfold lB;by_cases H:e.kind=2/\c.kind=1;rw[lv H,lv H];rw[km H,km H];by_cases I:e.kind=1/\c.kind=2;rw[lv I,lv I];rw[km I,km I,Ku g hs L w al];have W:e.kind=1\/e.kind=2:=by cases e<;>first|exact .inl rfl|exact .inr fX
   have am:¬(e.kind=0/\16<=fv Y/\decide (f=b)=fo):=λx=>by rcases W with k|k<;>(rw[k]at x;exact absurd x.1<|by decide)
   rw[km am];by_cases r:0<fv (fU E<|fG (fx b++[m]));have k:e.kind=2:=by
    refine W.resolve_left λk=>?_;have q:xc a fc t (fx b++[m])≠fh .dir:=λx=>by
     have:=(g.tI hs j).2 x
     rw[D,k]at this;cases this
    rw[zo g hs j q]at r;simp at r
   rw[lv r,lv ⟨k,r⟩];rw[km r,km λx=>r x.2]
  rw[ag,ai,<-ve g hs L w V O,ak];by_cases c1:ol E (fG<|fx b++[m])=2/\c.kind=1;rw[lv c1,lv c1];rfl;rw[km c1,km c1];by_cases c2:ol E (fG<|fx b++[m])=1/\c.kind=2;rw[lv c2,lv c2];rfl;rw[km c2,km c2];by_cases c3:ol E (fG<|fx b++[m])=2/\0<fv (fU E<|fG (fx b++[m]));rw[lv c3,lv c3];rfl;rw[km c3,km c3];by_cases c4:ol E (fG<|fx b++[m])=0/\16<=fv Y/\decide (f=b)=fo;rw[lv c4,lv c4];rfl;rw[km c4,km c4,km (show ¬(0:Int)≠0 by decide)];by_cases J:5<((fv b+1:Nat):Int)+kO a 5 c;rw[lv J,lv<|P.2 J];rw[km J,km λe=>J<|P.1 e]
 refine⟨M,?_⟩;have⟨c1,c2,c3⟩:=PM (fc:=fc) L w n m f b (er:=(QP a t oY (n::f) (m::b)).2.1) (t':=(QP a t oY (n::f) (m::b)).2.2) fX;rcases Mj hs (fG<|fx f++[n]) (fG<|fx b++[m]) with⟨Q,l⟩|⟨Q,F,aw,y,l,an,ax,ao,ay,ap,az,aA,X,aB,aq,Z⟩
 rw[Q];refine⟨?_,hs⟩;by_cases R:(QP a t oY (n::f) (m::b)).2.1≠0;rw[c2 R];exact g;have⟨_,_,d3⟩:=c3<|oP.1 R;have ar:fG (fx f++[n])=fG (fx b++[m]):=by
  rcases l with l|l
  rw[<-M]at l;exact absurd l R;exact l
 have:=tk h j ar
 intro x o;rw[d3 x,lv this];exact g x o;have aa:=tk ao h l.symm;have ab:=tk ap j an.symm;rw[aa,ab]at Z;rw[aa,ab]at X;have⟨_,_,d3⟩:=c3 (by rw[M];exact Q);refine⟨λx o=>?_,aq⟩;rw[d3 x,Z x o,km λe=>X (by rw[e];exact sQ _)];split
 rename_i v
 obtain⟨z,rfl⟩:=v;rw[yQ];exact g _<|h.append o.right;split;rfl;exact g x o
theorem Ky(E)(data){a:fQ}(f:a≠[]):oG E data (fG a)=match gj E a with
  |some (k,g)=>if k=1 then(1,(((data[g.toNat]?).getD kq).size:Int)) else(2,(fv (fU E<|fG a):Int))
  |none=>(2,(fv (fU E<|fG a):Int)):=by
 have b:=rD E<|fG a;rw[<-nh f]at b;unfold oG;cases d:QQ E (fG a) with
 |none=>
  rw[d]at b;rw[<-b];rfl
 |some i=>
  rw[d,wy]at b;rcases c:E[i]? with _|e
  exfalso
  have:=(yM.1 d).1
  rw[jG this]at c;cases c;rw[c,qA]at b;rw[<-b];simp only[c,qA,jI,yN]
theorem hmo{l}(a:Good l):lV E data (fG l)=if ig E l≠0 then((0,0),ig E l) else(oG E data<|fG l,0):=by
 grind [lV,iM]
theorem hmp{l}(a:Good l):ki E (fG l)=if ig E l≠0 then([],ig E l)else if ol E (fG l)≠2 then([],5) else(ij E<|fG l,0):=by
 grind [ki,iM]
theorem mod(fl)(h:Reads a (gz a fl) t E data)(hs:gf E data)(r:Sound a)(s:fM a 5 t)(y:t.kind=2){d:fQ}(u:Good (fx d)):
  (lQ a fl t oY d).2.1=(lV E data<|fG (fx d)).2/\(lQ a fl t oY d).2.2=(lV E data<|fG (fx d)).1:=by
 have n:=u.val;have z:=rF h hs d n;unfold lQ;rw[hmo u,<-z];simp only[mJ];by_cases o:(pm a t d).1≠0
 grind
 rw[km o,km o];have f:=vZ<|oP.1 o;obtain⟨c,A⟩:∃c,c=(pm a t d).2:=⟨_,fX⟩;rw[<-A]at f |-;have j:xc a (gz a fl) t (fx d)=fh (nd a (gz a fl) c):=by unfold xc;rw[f];rfl
 have v:c.kind=2->(oG E data (fG<|fx d))=(2,(fv (fU E<|fG (fx d)):Int)):=by
  intro B;have C:xc a (gz a fl) t (fx d)=fh .dir:=by
   rw[j];cases c<;>first|rfl|cases B
  by_cases k:fx d=[];rw[k];unfold oG;cases D:QQ E (fG []) with
  |none=>rfl
  |some i=>
   exfalso;obtain⟨U,m,_⟩:=yM.1 D;obtain⟨l,F,G,_,H⟩:=hs.jF _<|kK U;simp only[Hz]at m;rw[H]at m
   have:fG l=fG []:=bytes_inj (by grind [Av])
   exact F<|tk G (λx I=>by cases I) this
  rw[Ky E data k];rw[h _ n]at C
  grind [gj,pW,IC,decide]
 have w:∀b,nd a (gz a fl) c=.file b->oG E data (fG<|fx d)=(1,(b.size:Int)):=by
  intro b p;have k:fx d≠[]:=by
   intro e;rw[e,pd]at f;have m:=rK f;rw[<-m]at p;cases t<;>first|(cases p;done)|(cases y;done)
  rw[Ky E data k];rw[p,h _ n]at j;cases J:gj E (fx d) with
  |none=>rw[J]at j;cases j
  |some x=>
   grind [pW,IC,tJ,absurd]
 cases c with
 |file id=>
  simp only[iZ,AZ,dat];rw[w _ fX];exact⟨fX,fX⟩
 |held g=>
  rw[w _ fX];have K:(AC a fl oY g).2=(0,gz a fl g):=by
   grind [AC,gz,AZ]
  have L:(iZ a fl oY<|.held g).2=(0,((gz a fl g).size:Int)):=by
   show((AC a fl oY g).2.1,((AC a fl oY g).2.2.size:Int))=_;rw[K]
  rw[L];exact⟨fX,fX⟩
 |dir id=>
  have q:=ve h hs r s f<|show kids a (.dir id)=fh _ from fX;rw[v fX];simp only[iZ,sg,jy,q];exact⟨fX,fX⟩
 |own M=>
  have q:=ve h hs r s f<|show kids a (.own M)=fh _ from fX;rw[v fX];simp only[iZ,sg,jy,q];exact⟨fX,fX⟩
theorem mps(h:Reads a fc t E data)(hs:gf E data)(n:Sound a)(o:fM a 5 t){b:fQ}(l:Good (fx b)):
  (jA a t b).1=(ki E<|fG (fx b)).2/\(jA a t b).2.map (·.1)=(ki E<|fG (fx b)).1:=by
 have i:=l.val;rw[hmp l,<-(rF h hs b i)];unfold jA;simp only;by_cases g:(pm a t b).1≠0;rw[lv g,lv g];exact⟨fX,fX⟩;rw[km g,km g];have j:=vZ<|oP.1 g;have⟨c,p⟩:=oX<|(pm a t b).2;rw[<-p]at j |-;have m:xc a fc t (fx b)=fh (nd a fc c):=by unfold xc;rw[j];rfl
 rcases f:kids a c with _|Y
 rw[Ac f,lv λk=>?_];exact⟨fX,fX⟩
 have:=(h.tI hs i).1 k
 rw[m,pW]at this;have⟨Y,e⟩:=tK this;rw[f]at e;cases e;rw[vY f,km (λk=>k ((h.tI hs i).2 (by
  rw[m];cases q:nd a fc c with
  |dir=>rfl
  |file d=>rw[qW q]at f;cases f)))]
 exact⟨fX,CP h hs n o j f⟩
theorem Qi(t)(l m)(r:Good l)(s:Good m)(y:l=[]\/m=[])(w:fq):
  ik 72 #[ii t,fD<|jn l,fD<|jn m] w (vd (fY 9) w):=by
 have f:=λa=>gW a;have c:∀a,(Op.equalIn 10000 147 (ln l)<|ln []).run prog a=.ok (decide (l=[])) a:=λa=>ir r Good.nil a;have d:∀a,(Op.equalIn 10000 147 (ln m)<|ln []).run prog a=.ok (decide (m=[])) a:=λa=>ir s Good.nil a;obtain⟨H,h,i,j,Z,k⟩:=sk l;obtain⟨d0,d1,d2,d3,d4,n⟩:=sk m;unfold ln at f c d;simp only[k,n]at c d;rw[k,n];unfold jn at f c d;simp only[tW]at f c d;have⟨o,u,v,x⟩:=JY w H h i j Z d0 d1 d2 d3 d4;have b:=mi ((w.k (ml H h i j Z) 147).k (ml d0 d1 d2 d3 d4) 147).drew.heap.size ((w.k (ml H h i j Z) 147).k (ml d0 d1 d2 d3 d4) 147).drew;have g:fe _:=And.intro u<|And.intro v x;clear u v x k n r s;by_cases p:l=[]
 case' pos=>
  rw[iE p]at c;generalize decide (m=[])=C at d;go_enter func72,ntmps72;go_wp2
  go_region_with(first|(go_at_call 75;refine(f _).mono ?_;rintro e z ⟨rfl,q⟩;replace b:=gS b q;obtain⟨D,E,F,G,I,K,L,M,N,O⟩:=o.below b g.o.1 g.o.2.1))
 case' neg=>
  have A:m=[]:=y.resolve_left p;rw[yv p]at c;rw[iE A]at d;go_enter func72,ntmps72;go_wp2
  go_region_held3 (λJ=>J.c w.heap.size 0=fh (hZ H)/\J.c w.heap.size 1=fh (hZ h)/\J.c w.heap.size 2=fh (hZ i)/\J.c w.heap.size 3=fh (hZ j)/\J.c w.heap.size 4=fh (hZ Z)/\J.c (w.heap.size+1) 0=fh (hZ d0)/\J.c (w.heap.size+1) 1=fh (hZ d1)/\J.c (w.heap.size+1) 2=fh (hZ d2)/\J.c (w.heap.size+1) 3=fh (hZ d3)/\J.c (w.heap.size+1) 4=fh (hZ d4)) (first|exact o|exact B) (first|(go_at_call 75;refine(f _).mono ?_;rintro e z ⟨rfl,q⟩;replace b:=gS b q;have B:=o.below b g.o.1 g.o.2.1))
 all_goals
  all_goals
   go_wp2;go_ret;exact⟨fX,gS g.o.2.2 b⟩
abbrev BW:=Bool×Int×Int×Int
def mR (a:BW):gX:=[fE a.1,.int .i64 a.2.1,.int .i64 a.2.2.1,.int .i64 a.2.2.2]
def wn (hs:List BW):gX:=hs.flatMap mR
theorem hmr:∀(hs:List BW)(k a:Nat)(d:k<fv hs)(b:a<4),(wn hs)[4*k+a]?=(mR hs[k])[a]?
 |x::c,0,a,_,b=>by
  grind [mR,wn,wz]
 |x::c,k+1,a,d,b=>by
  show(mR x++wn c)[4*(k+1)+a]?=_
  rw[BX (by show 4<=4*(k+1)+a;omega)]
  have:=hmr c k a (by simpa using d) b
  grind [mR]
theorem Mo(hs):fv (wn hs)=4*fv hs:=by
 induction hs with
 |nil=>rfl
 |cons x a b=>
  grind [mR,wn,lI]
def tM (hs:List BW)(n:Int):Bool:=decide (0<=n)&&decide (n<8)&&(match hs[n.toNat]? with|some a=>a.1|none=>fo)
theorem BP{hs}{n:Int}(a:¬(0<=n/\n<8)):tM hs n=fo:=by
 grind [tM,yv]
theorem GI{hs:List BW}{k:Nat}(a:k<fv hs)(b:fv hs=8):tM hs (k:Int)=hs[k].1:=by
 grind [tM,iE,Int,qI,jG]
section
variable {hs:List BW}
theorem gm.tab(a:gm F w S na da nc dc E data (wn hs++more)){k f:Nat}(b:k<fv hs)(c:f<4):w.c S (2+k*4+f)=(mR hs[k])[f]?:=by
 have d:4*k+f<fv (wn hs):=by rw[Mo];omega
 simp only[World.cell?,a.hS]
 grind [List.getElem?_cons_succ,wz,hmr]
theorem jH(a:gm F w S na da nc dc E data (wn hs++more))(b:fv hs=8)(n:Int):
  ik 163 #[ii S,fY n] w (UV (fE<|tM hs n) w):=by
 by_cases c:0<=n/\n<8
 ·obtain⟨k,rfl⟩:∃k:Nat,n=(k:Int):=⟨n.toNat,by omega⟩
  have d:k<fv hs:=by omega
  have c0:w.c S (2+k*4)=fh (fE hs[k].1):=a.tab (f:=0) d (by omega);rw[GI d b];generalize hs[k].1=u at c0 |-;have t1:(0:Int)<=(k:Int):=by omega
  have t2:(k:Int)<8:=by omega
  clear a c d b;cases u
  all_goals
   go_enter func163,ntmps163;go_wp2;go_ret;exact⟨fX,fX⟩
 rw[BP c];clear a b;by_cases e:0<=n
 case' pos=>have t2:decide (n<8)=fo:=yv λa=>c ⟨e,a⟩
 case' neg=>have t1:decide (0<=n)=fo:=yv e
 all_goals
  go_enter func163,ntmps163;go_wp2;go_ret;exact⟨fX,fX⟩
end
abbrev Fls:=Nat->Option (Int×fO)
abbrev Ops:=Nat->Option (Nat×Nat×Int×Int)
def wG (E:List fV):Prop:=∀e∈E,∀a∈E,e.2.1=1->a.2.1=1->e.2.2=a.2.2->e.1=a.1
theorem Qj{E}(a:wG E)(S):wG (vx E S):=λe b c d=>a e (Ax.1 b).1 c (Ax.1 d).1
theorem Qk{E}(c:wG E){x:fV}(k:x.2.1=1->∀e∈E,e.2.1=1->e.2.2≠x.2.2):wG (E++[x]):=by
 intro e d f g h i j;rcases qJ.1 d with a|a<;>rcases qJ.1 g with b|b
 exact c e a f b h i j
 all_goals grind
theorem Zv{E}(i:wG E)(S a):wG (E.map<|po S a):=by
 have f:∀e,(po S a e).2=e.2:=λe=>by unfold po;split<;>rfl
 have j:∀e b:fV,e.1=b.1->(po S a e).1=(po S a b).1:=λe b c=>by unfold po;rw[c];split<;>first|rfl|exact c
 intro e c b k g h d;obtain⟨x,l,rfl⟩:=jC.1 c;obtain⟨y,m,rfl⟩:=jC.1 k;rw[f]at g d;rw[f]at h d;exact j _ _<|i x l y m g h d
theorem ro{e:Type}(d:e->Prop){c:Prop}[Decidable c]{a b:e}(f:d a)(g:d b):d (if c then a else b):=by
 grind
def PN (x:List fV×Int):Prop:=wG x.1
def Zw{E}(a:wG E)(S):PN (yr E S):=by
 repeat apply ro PN (show PN (E,_)from a)
 exact Qk a (x:=(S,2,0)) (λe=>by cases e)
def Ud{E}(a:wG E)(S):PN (rx E S):=by
 repeat apply ro PN (show PN (E,_)from a)
 exact Qj a S
def Ue{E}(b:wG E)(S a):PN (zt E S a):=by
 repeat apply ro PN (show PN (E,_)from b)
 exact Zv (Qj b a) S a
def Over (fl:Fls)(φ:Nat->Nat)(data:fQ)(c:ji)(b:fQ):Prop:=
 fv b=fv data/\(∀a,fl a≠fj->b[φ a]?=fh (c a))/\∀k,(∀a,fl a≠fj->φ a≠k)->b[k]?=data[k]?
def aaD (φ:Nat->Nat):Option (Nat×Nat×Int×Int)->BW
 |none=>(fo,0,0,0)
 |some x=>(fm,(φ x.2.1:Int),x.2.2.1,x.2.2.2)
structure oV (gI:List Ob)(fl:Fls)(op:Ops)(t:LT)(nodes:List fV)(data:fQ)(hs:List BW)(φ:Nat->Nat):Prop where
 inj:∀f f',fl f≠none->fl f'≠none->φ f=φ f'->f=f'
 cont:∀f,fl f≠none->data[φ f]?=some (gz gI fl f)
 par:∀c kr,Over fl φ data c kr->Reads gI c t nodes kr
 num:wG nodes
 h8:hs.length=8
 tab:∀k,k<8->hs[k]?=some (aaD φ (op k))
 opf:∀k x,op k=some x->fl x.2.1≠none
theorem IH{b:Type}{fl:Nat->Option b}{f}{x:b}(a:Nat):pD fl f (fh x) a≠fj↔a=f\/fl a≠fj:=by
 grind [pD]
theorem VQ(A)(fl:Fls)(a)(d:fO):gz A (pD fl a<|fh (0,d)) a=d:=by unfold gz;rw[ld];rfl
def GJ(A){fl:Fls}{b a:Nat}(c:a≠b)(x:Option (Int×fO)):gz A (pD fl b x) a=gz A fl a:=by unfold gz;rw[kx c]
section
variable {fl:Fls}{op:Ops}{hs:List BW}
def oV.reads(a:oV A fl op t E data hs φ):Reads A (gz A fl) t E data:=a.par _ _ ⟨fX,a.cont,λ_ _=>rfl⟩
def oV.tree(a:oV A fl op t E data hs φ){f}{b}(h:∀c e,fv e=fv data->Reads A c t E e->Reads A c f b e)(i:wG b):oV A fl op f b data hs φ:=
 ⟨a.inj,a.cont,λc d g=>h c d g.1<|a.par c d g,i,a.h8,a.tab,a.opf⟩
theorem oV.write(g:oV A fl op t E data hs φ){f:Nat}(l:fl f≠fj)(d:fO):oV A (pD fl f<|fh (0,d)) op t E (data.set (φ f) d) hs φ:=by
 have j:∀h,pD fl f (fh ((0:Int),d)) h≠fj->fl h≠fj:=λh m=>((IH h).1 m).elim (λe=>by rw[e];exact l) id;have n:∀h,fl h≠fj->pD fl f (fh ((0:Int),d)) h≠fj:=λh m=>(IH h).2<|.inr m;have v:=(wI.1<|g.cont f l).1;refine⟨λa b i o=>g.inj a b (j a i)<|j b o,λa i=>?_,λc p⟨q,r,w⟩=>g.par c p ⟨by rw[q];simp,λa i=>r a<|n a i,λk y=>?_⟩,g.num,g.h8,g.tab,λk x s=>n _<|g.opf k x s⟩;by_cases e:a=f
 grind [VQ,Rl]
 rw[GJ A e,EG λu=>e (g.inj _ _ l (j a i) u).symm,g.cont a<|j a i]
 grind
theorem oV.opens(a:oV A fl op t E data hs φ){k:Nat}(h:k<8)(c:Option (Nat×Nat×Int×Int))(i:∀x,c=fh x->fl x.2.1≠fj):oV A fl (pD op k c) t E data (hs.set k<|aaD φ c) φ:=by
 have j:=a.h8;refine⟨a.inj,a.cont,a.par,a.num,by simpa using a.h8,λb f=>?_,λb x d=>?_⟩;by_cases e:b=k
 grind [ld,Rl]
 rw[kx e,EG λg=>e g.symm,a.tab b f];by_cases e:b=k
 grind [ld]
 rw[kx e]at d;exact a.opf b x d
theorem GK{x}{y:Int}(a:gj E x=fh (1,y)):∃e∈E,e.1=fG x/\e.2=(1,y):=by
 grind [gj,EE,Hv]
theorem wG.look(c:wG E){x y}{k:Int}(d:gj E x=fh (1,k))(f:gj E y=fh (1,k))(g:fL x)(h:fL y):x=y:=by
 have⟨e,i,j,a⟩:=GK d;have⟨l,m,n,b⟩:=GK f;exact tk g h (by rw[<-j,<-n];exact c e i l m (by rw[a]) (by rw[b]) (by rw[a,b]))
def GL(c){x:LT}(a:x.kind=1)(m:fO)(b:fQ):xc A c x (m::b)=fj:=by
 rw[ul];cases x<;>first|rfl|cases a
theorem gf.num(hs:gf E data){x}{y:Int×Int}(a:gj E x=fh y)(b:y.1=1):0<=y.2/\y.2<(fv data:Int):=by
 obtain⟨e,c,_,d⟩:=GK (y:=y.2) (by rw[a,<-b])
 have:=hs.files e c (by rw[d])
 grind
theorem VR(hs:gf E data){d1 d2:fQ}{x}(c:∀k:Nat,gj E x=fh (1,(k:Int))->d1[k]?=d2[k]?):(gj E x).map (IC d1)=(gj E x).map (IC d2):=by
 rcases a:gj E x with _|y
 rfl;have⟨b,m⟩:=y;rw[qA,qA];unfold IC;rcases tJ hs a with e|e
 have e:b=1:=e;subst e;have⟨d,_⟩:=hs.num a fX
 grind
 grind
theorem oV.free(c:oV A fl op t E data hs φ){p}{k:Nat}{id:Int}(j:fL p)(l:t.at A p=fh (.file id))(m:gj E p=fh (1,(k:Int))):∀b,fl b≠fj->φ b≠k:=by
 intro b f e;have n:=(wI.1<|c.cont b f).1;have h:∀d:fO,bytesOf A id=d:=λd=>by
  have:=c.par (pD (gz A fl) b d) (data.set (φ b) d) ⟨by simp,λa i=>?_,λk o=>EG<|o b f⟩ p j
  rw[m,e]at this;unfold xc at this;rw[l,qA,qA,pW,IC,km<|by simp,qI,Rl<|by omega]at this;exact Nd.file.inj this;by_cases g:a=b;rw[g,ld,Rl n];rw[kx g,EG λq=>g (c.inj _ _ f i q).symm,c.cont a i]
 have:=(h kq).symm.trans<|h ⟨#[0]⟩
 cases this
theorem oV.hold(g:oV A fl op t E data hs φ)(F:Sound A)(N:fM A 5 t)(G:gf E data){h k:Nat}{id:Int}{j:fQ}{n:fO}{d:LT}{Y:Kids}(Z:fl h=fj)(hid:id≠0)(y:fL (j++[n]))
  (p:t.at A j=fh d)(s:kids A d=fh Y)(H:jp Y n=fh (.file id))(u:gj E (j++[n])=fh (1,(k:Int))):
  oV A (pD fl h<|fh (id,kq)) op (vy A (λY=>zr Y n<|.held h) j t) E data hs (pD φ h k):=by
 have I:t.at A (j++[n])=fh (.file id):=by rw[lx,p];show d.at A [n]=_;rw[lh,s,wy,H,wy,pd]
 have O:=g.free y I u;have l:∀z,fl z≠fj->z≠h:=λz P e=>P (by grind);have B:=λc:ji=>Ev (fc:=c) (n:=n) ((lO F (tA F _ N p).2.1 s).1) p s<|.held h;have Q:data[k]?=fh (bytesOf A id):=by
  have:=g.reads (j++[n]) y
  have R:=G.num u fX;have J:k<fv data:=by simp only at R;omega
  unfold xc at this;rw[I,u,qA,qA,pW,IC,km<|by simp,qI,jG J]at this;rw[jG J];exact congrArg fh (Nd.file.inj this).symm
 refine⟨λa b p S e=>?_,λa o=>?_,λc C⟨T,K,U⟩x q=>?_,g.num,g.h8,λi r=>?_,λi x q=>(IH _).2<|.inr (g.opf i x q)⟩;rcases(IH a).1 p with f|f<;>rcases(IH b).1 S with v|v
 rw[f,v]
 grind [ld,kx,absurd]
 grind [ld,kx,absurd]
 rw[kx<|l a f,kx<|l b v]at e;exact g.inj a b f v e;rcases(IH a).1 o with f|f
 grind [ld,gz,hid]
 rw[kx<|l a f,GJ A<|l a f,g.cont a f];have V:k<fv C:=by
  grind
 have W:C[k]?=fh (c h):=by have:=K h<|(IH h).2 (.inl fX);rwa [ld]at this
 have L:=g.par c (C.set k (bytesOf A id)) ⟨by simpa using T,λa o=>by
   rw[EG λe=>O a o e.symm]
   have:=K a<|(IH a).2 (.inr o)
   rwa [kx<|l a o]at this,λi r=>by
   by_cases e:k=i;rw[<-e,Rl V,Q];rw[EG e];refine U i λa o=>?_;rcases(IH a).1 o with f|f
   rwa [f,ld];rw[kx<|l a f];exact r a f⟩
 by_cases D:(j++[n]) <+: x;obtain⟨w,rfl⟩:=D;rcases w with _|⟨m,w⟩
 have:=(B c).1 []
 rw[lJ]at q |-;rw[this,px,u,qA,IC,km<|by simp,qI,W];rfl;have M:j++[n]++m::w=j++n::(m::w):=by simp
 have:=L _ q
 rw[M,mY p s,H,wy,GL c fX]at this;rw[M,(B c).1,GL c fX]
 grind [cat]
 rw[(B c).2 x D,L x q];refine VR G λi r=>?_;by_cases e:k=i;exact absurd (g.num.look r (by grind) q y) λe=>D (by grind)
 grind
 rw[g.tab i r];cases X:op i with
 |none=>rfl
 |some x=>show fh (fm,((φ x.2.1:Nat):Int),_,_)=fh (fm,((pD φ h k x.2.1:Nat):Int),_,_);rw[kx<|l _ (g.opf i x X)]
theorem oV.create(h:oV A fl op t E data hs φ)(F:Sound A)(M:fM A 5 t)(w:gf E data){f}{j:fQ}{n:fO}{d:LT}{Y:Kids}(Z:fl f=fj)(G:fL (j++[n]))
  (s:t.at A j=fh d)(y:kids A d=fh Y)(N:jp Y n=fj):
  oV A (pD fl f<|fh (0,kq)) op (vy A (λY=>zr Y n<|.held f) j t) (E++[(fG<|j++[n],1,(fv data:Int))]) (data++[kq]) hs (pD φ f<|fv data):=by
 have o:∀l,fl l≠fj->l≠f:=λl z e=>z (by grind);have H:∀l,fl l≠fj->φ l<fv data:=λl z=>(wI.1 (h.cont l z)).1;have B:=λc:ji=>Ev (fc:=c) (n:=n) ((lO F (tA F _ M s).2.1 y).1) s y<|.held f;have I:∀(c:ji)(p:fQ),xc A c t (j++n::p)=fj:=λc p=>by rw[mY s y,N];rfl
 have O:=(h.reads.empty G).2<|I _ [];have P:=λ{m:fQ}(Q:fL m)=>CM (k:=1) (f:=(fv data:Int)) G (by simp) Q O;refine⟨λa b s R e=>?_,λa q=>?_,λc C⟨S,J,T⟩x r=>?_,Qk h.num λ_ e U V=>?_,h.h8,λi u=>?_,λi x r=>(IH _).2<|.inr (h.opf i x r)⟩;rcases(IH a).1 s with g|g<;>rcases(IH b).1 R with v|v
 rw[g,v]
 grind [ld,kx]
 grind [ld,kx]
 rw[kx<|o a g,kx<|o b v]at e;exact h.inj a b g v e;rcases(IH a).1 q with g|g
 grind [ld,VQ]
 rw[kx<|o a g,GJ A<|o a g,wz<|H a g,h.cont a g];have aa:fv C=fv data+1:=by simpa using S
 have W:C[fv data]?=fh (c f):=by have:=J f<|(IH f).2 (.inl fX);rwa [ld]at this
 have K:=h.par c (C.take<|fv data) ⟨by rw[kT];omega,λa q=>by
   rw[MU<|H a q]
   have:=J a<|(IH a).2 (.inr q)
   rwa [kx<|o a q]at this,λi u=>by
   by_cases e:i<fv data;rw[MU e,T i λa q=>?_,wz e];rcases(IH a).1 q with g|g
   rw[g,ld];omega;rw[kx<|o a g];exact u a g;rw[wA (by grind),wA<|by omega]⟩
 rw[P r];by_cases D:(j++[n]) <+: x;obtain⟨p,rfl⟩:=D;rcases p with _|⟨m,p⟩
 have:=(B c).1 []
 rw[lJ]at r |-;rw[this,px,lv fX,qA,IC,km<|by simp,qI,W];rfl;have L:j++[n]++m::p=j++n::(m::p):=by simp
 have:=K _ r
 rw[L,I]at this;rw[km<|by simp,L,(B c).1,GL c fX,cat.1 this.symm];rfl;rw[(B c).2 x D,K x r,km λe=>D (by grind)];refine VR w λi u=>?_
 have:=w.num u fX
 grind
 have:=w.files e U V
 grind
 rw[h.tab i u];rcases X:op i with _|x
 rfl;show fh (fm,((φ x.2.1:Nat):Int),_,_)=fh (fm,((pD φ f (fv data) x.2.1:Nat):Int),_,_);rw[kx<|o _ (h.opf i x X)]
end
def ndK:Nd->Int
 |.dir=>2
 |.file _=>1
def wpS(a)(fc)(t):ndK (nd a fc t)=t.kind:=by cases t<;>rfl
def VS (a:fQ)(x:Nd):Me:=(lA a,ndK x,ndD x)
def IR (a:List Ob)(fc:ji)(b:Option LT)(y:fQ):Option Nd:=b.bind λc=>xc a fc c y
def li (a:List Ob)(b:Option LT):Kids:=(b.bind<|kids a).getD []
def jB:Option Nd->Option fO
 |some (.file d)=>fh d
 |_=>fj
def nW (S a:fQ->Option Nd)(y:fQ):Option Int:=match jB (S y),jB (a y) with
 |some d,fh b=>if d=b then fj else fh 2
 |some _,fj=>fh 1
 |none,fh _=>fh 3
 |none,fj=>fj
def zq (a:fQ)(x y:Option fO):List (fQ×Int):=match x,y with
 |some _,fh _=>[(a,2)]
 |some _,fj=>[(a,1)]
 |none,fh _=>[(a,3)]
 |none,fj=>[]
noncomputable def cmpL (a:List Ob)(fc fc':ji):Nat->fQ->Option LT->Option LT->List (fQ×Int)
 |0,q,now,was=>@ite _ (∀y,IR a fc now y=IR a fc' was y) (Classical.propDecidable _) [] (zq q (jB (IR a fc now [])) (jB (IR a fc' was [])))
 |n+1,q,now,was=>@ite _ (∀y,IR a fc now y=IR a fc' was y) (Classical.propDecidable _) []
   (zq q (jB (IR a fc now [])) (jB (IR a fc' was []))++((li a now).flatMap (fun x=>cmpL a fc fc' n (q++[x.1]) (some x.2) (jp (li a was) x.1))++((li a was).filter fun x=>(jp (li a now) x.1).isNone).flatMap (fun x=>cmpL a fc fc' n (q++[x.1]) none (some x.2))))
def GM (a:List Ob)(n:Nat)(b:Option LT):Prop:=∀c,b=fh c->fM a n c
theorem mS(g:Sound a){n}{b}(e:GM a n b):fP (li a b)/\∀x∈li a b,∃m,n=m+1/\fM a m x.2:=by
 cases b with
 |none=>exact⟨List.Pairwise.nil,λx d=>by cases d⟩
 |some c=>
  have h:=e c fX;unfold li;rcases f:kids a c with _|Y
  simp only[wy,f,WA];exact⟨List.Pairwise.nil,λx d=>by cases d⟩
  grind [lO]
theorem CS(b)(m:fO)(y:fQ):IR a fc b (m::y)=IR a fc (jp (li a b) m) y:=by
 rcases b with _|c
 rfl;show xc a fc c (m::y)=_;rw[ul];unfold li;cases d:kids a c with
 |none=>simp only[wy,d,WA];rfl
 |some Y=>simp only[wy,d,jI];rfl
theorem mU{Y}{m}{c:LT}(a:jp Y m=fh c):(m,c)∈Y:=by
 grind [jp,EE,Hv]
theorem iA{Y}(a:fP Y){x:fO×LT}(b:x∈Y):jp Y x.1=fh x.2:=by
 grind [rI,yg]
theorem jN(d:Sound a){n:Nat}{b:Option LT}(f:GM a (n+1) b)(m):GM a n (jp (li a b) m):=λc g=>by
 obtain⟨k,e,h⟩:=(mS d f).2 (m,c)<|mU g
 have:k=n:=by omega
 subst this
 exact h
theorem Ql{S a:fQ->Option Nd}(c:jB (S [])=fj\/jB (a [])=fj\/jB (S [])≠jB (a [])){b y:fQ}{w:Int}:(y,w)∈zq b (jB<|S []) (jB<|a [])↔y=b/\nW S a []=fh w:=by
 grind [zq,nW,jB]
theorem differ{n:Nat}{b N}(j:¬ ∀y,IR a fc b y=IR a R N y):jB (IR a fc b [])=fj\/jB (IR a R N [])=fj\/jB (IR a fc b [])≠jB (IR a R N []):=by
 cases l:jB (IR a fc b []) with
 |none=>exact .inl fX
 |some d=>
  cases m:jB (IR a R N []) with
  |none=>exact .inr<|.inl fX
  |some o=>
   refine .inr (.inr λe=>j ?_);have p:∀{fc:ji}{f:Option LT}{d:fO},jB (IR a fc f [])=fh d->∀y,IR a fc f y=if y=[]then fh (.file d)else fj:=by
    intro fc f d h y;rcases f with _|c
    cases h;have hs:xc a fc c []=fh (nd a fc c):=px a fc c;have g:jB (fh<|nd a fc c)=fh d:=by rw[<-hs];exact h
    cases c with
    |file i=>
     show xc a fc (.file i) y=_;rw[PO];cases g;rfl
    |held k=>
     show xc a fc (.held k) y=_;rw[PS];cases g;rfl
    |dir i=>cases g
    |own q=>cases g
   grind
theorem EB(i:Sound a):∀(n:Nat)(j:fQ)(b N:Option LT),GM a n b->GM a n N->∀y w,(y,w)∈cmpL a fc R n j b N↔∃z,y=j++z/\nW (IR a fc b) (IR a R N) z=fh w:=by
 have same:∀{b N:Option LT},(∀y,IR a fc b y=IR a R N y)->∀z,nW (IR a fc b) (IR a R N) z=fj:=by
  grind [nW,jB,IR]
 intro n
 induction n with
 |zero=>
  intro j b N o p y w;rw[cmpL];by_cases f:∀y,IR a fc b y=IR a R N y
  grind
  rw[km f,Ql<|differ (n:=0) f];constructor
  grind
  rintro⟨z,rfl,d⟩;rcases z with _|⟨m,z⟩
  exact⟨by simp,d⟩;have r:li a b=[]:=by
   cases s:li a b with
   |nil=>rfl
   |cons x t=>obtain⟨k,e,_⟩:=(mS i o).2 x (by grind);omega
  have u:li a N=[]:=by
   cases s:li a N with
   |nil=>rfl
   |cons x t=>obtain⟨k,e,_⟩:=(mS i p).2 x (by grind);omega
  unfold nW at d;rw[CS,CS,r,u]at d;cases d
 |succ n A=>
  intro j b N o p y w;rw[cmpL];by_cases f:∀y,IR a fc b y=IR a R N y
  grind
  rw[km f,qJ,qJ,Ql<|differ (n:=0) f];have B:=(mS i o).1;have step:∀m z,nW (IR a fc b) (IR a R N) (m::z)=nW (IR a fc<|jp (li a b) m) (IR a R<|jp (li a N) m) z:=by
   grind [nW,CS]
  constructor;rintro(⟨rfl,d⟩|g|g)
  grind
  obtain⟨x,l,g⟩:=wL.1 g
  grind [iA,jp,li,jN,sP,step]
  obtain⟨x,l,g⟩:=wL.1 g;obtain⟨l,v⟩:=Ax.1 l;have C:=iA ((mS i p).1) l;have h:jp (li a b) x.1=fj:=by simpa using v
  grind [jN,sP,step]
  rintro⟨z,rfl,d⟩;cases z with
  |nil=>exact .inl ⟨by simp,d⟩
  |cons m z=>
   right
   rw[step]at d;cases h:jp (li a b) m with
   |some c=>
    left
    rw[h]at d;refine wL.2 ⟨(m,c),mU h,?_⟩
    grind [jp,li,jN]
   |none=>
    right
    rw[h]at d;cases q:jp (li a N) m with
    |none=>rw[q]at d;cases d
    |some c=>
     rw[q]at d;refine wL.2 ⟨(m,c),Ax.2 ⟨mU q,by simp[h]⟩,?_⟩
     grind [jN]
theorem hm0(f:Sound a):∀(n:Nat)(b:fQ)(i N:Option LT),GM a n i->GM a n N->(cmpL a fc R n b i N).Pairwise λx y=>x.1≠y.1:=by
 have v:∀(b:fQ)(x y:Option fO),(zq b x y).Pairwise (λx y=>x.1≠y.1)/\∀z∈zq b x y,z.1=b:=by
  intro b x y;unfold zq;cases x<;>cases y<;>simp
 intro n
 induction n with
 |zero=>
  grind [cmpL,List.Pairwise.nil]
 |succ n w=>
  intro b i N q j;rw[cmpL];split;exact List.Pairwise.nil;have r:=(mS f q).1;have s:=(mS f j).1;have K:∀x∈li a i,∀z∈cmpL a fc R n (b++[x.1]) (fh x.2) (jp (li a N) x.1),∃y,z.1=b++x.1::y:=λx g z t=>by
   obtain⟨y,e,_⟩:=(EB f n (b++[x.1]) (fh x.2) (jp (li a N) x.1) (by rw[<-iA r g];exact jN f q x.1) (jN f j x.1) z.1 z.2).1 t;exact⟨y,by rw[e,sP];rfl⟩
  have L:∀x∈(li a N).filter λx=>(jp (li a i) x.1).isNone,∀z∈cmpL a fc R n (b++[x.1]) fj (fh x.2),∃y,z.1=b++x.1::y:=λx g z t=>by
   obtain⟨y,e,_⟩:=(EB f n (b++[x.1]) fj (fh x.2) (λc k=>by cases k) (by rw[<-iA s (Ax.1 g).1];exact jN f j x.1) z.1 z.2).1 t;exact⟨y,by rw[e,sP];rfl⟩
  have apart:∀{A B:fO}{F G:fQ},A≠B->b++A::F≠b++B::G:=λC e=>by
   have:=Hw e
   exact C (ih2 this).1
  have C:∀{x y:fO×LT},ja x.1 y.1<0->x.1≠y.1:=λk e=>by rw[e,jb]at k;omega
  refine hJ0.2 ⟨(v _ _ _).1,hJ0.2 ⟨?_,?_,?_⟩,?_⟩;rw[stk];refine⟨λx g=>w (b++[x.1]) _ _ (by rw[<-iA r g];exact jN f q x.1)<|jN f j x.1,?_⟩;refine List.Pairwise.imp_of_mem ?_ r;intro D l E u H o h p d
  grind
  rw[stk];refine⟨λx g=>w (b++[x.1]) _ _ (λc k=>by cases k) (by rw[<-iA s (Ax.1 g).1];exact jN f j x.1),?_⟩;refine List.Pairwise.imp_of_mem ?_<|s.filter _;intro D l E u H o h p d
  grind
  intro o h p d;obtain⟨D,E,h⟩:=wL.1 h;obtain⟨l,u,d⟩:=wL.1 d
  grind [apart,iA]
  intro o h p d e;have I:∃m y,p.1=b++m::y:=by
   rcases qJ.1 d with d|d
   obtain⟨l,u,d⟩:=wL.1 d
   grind
   obtain⟨l,_⟩:=wL.1 d
   grind
  obtain⟨m,y,J⟩:=I;rw[((v _ _ _).2 o h),J]at e
  have:=congrArg List.length e
  simp at this
def py (a:List Ob)(fc:ji):Nat->fQ->LT->List (fQ×Nd)
 |0,_,_=>[]
 |n+1,b,c=>((kids a c).getD []).flatMap λx=>(b++[x.1],nd a fc x.2)::(if x.2.kind=2 then py a fc n (b++[x.1]) x.2 else [])
def DI{a}{fc}:∀(n:Nat)(b:fQ)(t:LT),qT a fc n b t=(py a fc n b t).map λx=>VS x.1 x.2
 |0,b,t=>rfl
 |n+1,b,t=>by
  rw[qT,py,List.map_flatMap]
  congr 1
  funext x
  rw[lM]
  unfold VS
  rw[wpS]
  split
  rw[DI n (b++[x.1]) x.2]
  rfl
  rfl
theorem CT{a}{fc}:∀(n:Nat)(c:fQ)(t:LT)z,z∈py a fc n c t->∃y,y≠[]/\z.1=c++y
 |0,c,t,z,b=>by cases b
 |n+1,c,t,z,b=>by
  rw[py]at b
  have⟨x,d,b⟩:=wL.1 b
  rcases oc.1 b with rfl|b
  grind
  split at b
  have⟨y,f,e⟩:=CT n (c++[x.1]) x.2 z b
  grind
  cases b
theorem GN{a}(d:Sound a){fc}:∀(n:Nat)(b:fQ)(t:LT),fM a n t->(py a fc n b t).Pairwise λx y=>¬y.1 <+: x.1
 |0,b,t,_=>List.Pairwise.nil
 |n+1,b,t,h=>by
  rw[py]
  by_cases f:t.kind=2
  ·have⟨Y,g⟩:=rB (a:=a) f
   have⟨i,_,j⟩:=lO d h g
   rw[g,jI,stk]
   refine⟨λx k=>?_,?_⟩
   ·have⟨m,e,l⟩:=(j x k).2
    have o:m=n:=by omega
    subst o
    refine sJ.2 ⟨λz c p=>?_,?_⟩
    ·split at c
     ·have⟨y,q,e⟩:=CT m (b++[x.1]) x.2 z c
      all_goals simp_all
     cases c
    split
    exact GN d m (b++[x.1]) x.2 l
    all_goals simp_all
   refine List.Pairwise.imp ?_ i
   intro r s u v w A B p
   have C:∀(x:fO×LT)z,z∈((b++[x.1],nd a fc x.2)::(if x.2.kind=2 then py a fc n (b++[x.1]) x.2 else []))->∃y,z.1=b++x.1::y:=by
    intro x z c;rcases oc.1 c with rfl|c
    grind
    split at c;have⟨y,q,e⟩:=CT n (b++[x.1]) x.2 z c
    grind
    cases c
   grind [bol,jb]
  rw[pT f]
  all_goals simp_all
theorem GQ{a}(o:Sound a){fc}{t}(g:fM a 5 t){y:fQ}{x:Nd}:(y,x)∈py a fc 5 [] t↔y≠[]/\xc a fc t y=fh x:=by
 have v:∀(n:Nat)(h:fQ)(t:LT),fM a n t->∀z,z∈py a fc n h t↔∃y x,y≠[]/\xc a fc t y=fh x/\z=(h++y,x):=by
  intro n
  induction n with
  |zero=>
   intro h t g z;rw[py];constructor
   grind
   rintro⟨y,x,i,hs,_⟩;have⟨c,j,_⟩:=EE.1 hs
   have:=(tA o _ g j).1
   grind
  |succ n A=>
   intro h t g z;rw[py];by_cases d:t.kind=2;have⟨Y,l⟩:=rB (a:=a) d;have⟨q,_,r⟩:=lO o g l;rw[l,jI,wL];have B:∀w∈Y,jp Y w.1=fh w.2:=λw f=>by
    obtain⟨k,d,rfl⟩:=rI f;exact yg q d
   constructor
   grind [ul,px,sP]
   rintro⟨y,x,i,hs,e⟩;cases y with
   |nil=>exact absurd fX i
   |cons b y=>
    rw[ul,l,wy]at hs;have⟨c,j,hs⟩:=Option.bind_eq_some_iff.1 hs;have s:∃w∈Y,w.1=b/\w.2=c:=by
     have⟨w,f,C⟩:=EE.1 j
     grind
    obtain⟨w,f,rfl,rfl⟩:=s;have⟨m,D,E⟩:=(r w f).2;have u:m=n:=by omega
    subst u;refine⟨w,f,?_⟩;rcases y with _|⟨F,y⟩
    grind [px,rK,oN]
    refine wC _ ?_;have G:w.2.kind=2:=by
     by_cases p:w.2.kind=2;exact p;rw[ul,pT p]at hs;cases hs
    grind
   rw[pT d];constructor
   grind
   rintro⟨y,x,i,hs,_⟩;rcases y with _|⟨b,y⟩
   grind
   rw[ul,pT d]at hs;cases hs
 grind
theorem hm2(b:Sound a)(d:fM a 5 t){y}{x:Nd}(e:xc a fc t y=fh x):Good y:=by
 have⟨c,f,_⟩:=EE.1 e;have⟨g,_,h⟩:=tA b _ d f;exact⟨h,g⟩
theorem hna{S b:fQ->Option Nd}{y}{w:Int}(a:nW S b y=fh w):(w=1\/w=2)/\(∃x,S y=fh x)\/w=3/\∃x,b y=fh x:=by
 unfold nW at a;rcases e:S y with _|x
 rw[e]at a;cases c:b y with
 |none=>rw[c]at a;cases a
 |some f=>
  rw[c]at a;cases f with
  |dir=>cases a
  |file g=>cases a;exact .inr ⟨fX,_,fX⟩
 rw[e]at a;cases x with
 |dir=>
  cases c:b y with
  |none=>rw[c]at a;cases a
  |some f=>
   grind
 |file d=>
  grind [jB]
theorem hnc(c:t.kind=2)(b:u.kind=2):nW (xc a fc t) (xc a R u) []=fj:=by
 unfold nW;rw[px,px];cases t with
 |file i=>cases c
 |held d=>cases c
 |dir i=>cases u with
  |file i=>cases b
  |held d=>cases b
  |dir i=>rfl
  |own e=>rfl
 |own e=>cases u with
  |file i=>cases b
  |held d=>cases b
  |dir i=>rfl
  |own e=>rfl
def Qm(d dr ow)(H a b c Z e)(k h:Int)(w)
  (i:∀f,ju w f->(Instr.lookup 153 (.map<|fh ow) (fD<|ml H a b c Z) fm).run prog f=.ok (fC #[fY h,fE fm]) f):
  ik 74 #[fD #[ii d,ii dr,.map<|fh ow],fD<|ml H a b c Z,fD #[hZ e,fY k,fY 0]] w (vd (fY h) w):=by
 have j:=i _<|oI w d dr ow H a b c Z e k 0;have g:=oI w d dr ow H a b c Z e k 0;clear i;unfold jM at j g
 change fe _ at g
 go_enter func74,ntmps74;go_wp2;go_ret;exact⟨fX,g⟩
def Uf{b}{d dr ow h:Nat}{e:fQ->Option Int}(i:∃n,n<=h/\jT b ow n λa=>(e a).map<|Value.int .i64){a}(j:Good a){c:Int}(l:e a=fh c)(f)(k:Int):
  ik 74 #[fD #[ii d,ii dr,.map<|fh ow],fD<|jn a,fD #[hZ f,fY k,fY 0]] b (vd (fY c) b):=by
 have⟨n,_,g⟩:=i;refine Qm d dr ow _ _ _ _ _ f k c b λm o=>?_
 have:=jT.look_ok (g.keep<|o.block ow g.lt) abZ (rM m) j
 rwa [l]at this
theorem VT{a}(f:Exact a)(g:mL a){c u:LT}{A}{fc}{id:Int}(h:fM a 5 (kW c.kind id))(hs:uW a qX (kW c.kind id) A fc c)(j:fM a 5 u)(b:(∃i,u=.file i)\/∃i,u=.dir i)(k:c.kind=u.kind):id=u.id↔uW A fc c a qX u:=by
 have l:kW c.kind u.id=u:=by
  rw[k];rcases b with⟨i,rfl⟩|⟨i,rfl⟩<;>rfl
 constructor;intro e y;rw[<-hs y,e,l];intro m;have n:og a (λ_=>fj):=λp id d o=>by cases o
 have:=hkp f g n 5 (kW c.kind id) u h j b λy=>((hs y).trans (m y))
 have hid:(kW c.kind id).id=id:=by unfold kW;split<;>rfl
 have q:mn (λ_=>fj) 5 (kW c.kind id) a=((kW c.kind id).id,a):=by
  unfold kW;split<;>rw[mn]<;>rfl
 grind
end Go.Proofs.YtlgidcmmgohagaaGreat
namespace Go.Proofs
open Go.Shelf
def Tryz.DJ:Go.Shelf.Ren:=⟨λ|156=>249|165=>260|166=>261|169=>262|240=>265|241=>266|276=>267|277=>268|n=>n,λ|31=>131|9=>9|3=>3|4=>4|0=>0|20=>20|72=>344|76=>348|70=>342|37=>204|75=>347|127=>310|164=>353|5=>5|80=>234|n=>n,λ|n=>n⟩
def Tryz.aav:Go.Proofs.Lays.n156 Tryz.prog Tryz.DJ:={
 mixed:=by kernel_rfl
 f156:=Tryz.func249.trans (congrArg some<|by kernel_rfl)
 f165:=Tryz.func260.trans (congrArg some<|by kernel_rfl)
 f166:=Tryz.func261.trans (congrArg some<|by kernel_rfl)
 f169:=Tryz.func262.trans (congrArg some<|by kernel_rfl)
 f240:=Tryz.func265.trans (congrArg some<|by kernel_rfl)
 f241:=Tryz.func266.trans (congrArg some<|by kernel_rfl)
 f276:=Tryz.func267.trans (congrArg some<|by kernel_rfl)
 f277:=Tryz.func268.trans (congrArg some<|by kernel_rfl)
 t0:=Tryz.underlying0
 a0:=Tryz.isAgg0
 z0:=Tryz.sizeOf0
 v0:=Tryz.zeroValue0
 t3:=Tryz.underlying3
 a3:=Tryz.isAgg3
 z3:=Tryz.sizeOf3
 v3:=Tryz.zeroValue3
 t4:=Tryz.underlying4
 a4:=Tryz.isAgg4
 z4:=Tryz.sizeOf4
 v4:=Tryz.zeroValue4
 t9:=Tryz.underlying9
 a9:=Tryz.isAgg9
 z9:=Tryz.sizeOf9
 v9:=Tryz.zeroValue9
 t20:=Tryz.underlying20
 a20:=Tryz.isAgg20
 z20:=Tryz.sizeOf20
 v20:=Tryz.zeroValue20
 t31:=Tryz.underlying131
 a31:=Tryz.isAgg131
 z31:=Tryz.sizeOf131
 v31:=Tryz.zeroValue131
 t37:=Tryz.underlying204
 a37:=Tryz.isAgg204
 z37:=Tryz.sizeOf204
 v37:=Tryz.zeroValue204
 t70:=Tryz.underlying342
 a70:=Tryz.isAgg342
 z70:=Tryz.sizeOf342
 v70:=Tryz.zeroValue342
 t72:=Tryz.underlying344
 a72:=Tryz.isAgg344
 z72:=Tryz.sizeOf344
 v72:=Tryz.zeroValue344
 t75:=Tryz.underlying347
 a75:=Tryz.isAgg347
 z75:=Tryz.sizeOf347
 v75:=Tryz.zeroValue347
 t76:=Tryz.underlying348
 a76:=Tryz.isAgg348
 z76:=Tryz.sizeOf348
 v76:=Tryz.zeroValue348
 t127:=Tryz.underlying310
 a127:=Tryz.isAgg310
 z127:=Tryz.sizeOf310
 v127:=Tryz.zeroValue310
 t164:=Tryz.underlying353
 a164:=Tryz.isAgg353
 z164:=Tryz.sizeOf353
 v164:=Tryz.zeroValue353 }
def Tryz.BQ:Builder.Extra Tryz.prog Tryz.DJ:={
 sizeBuilder:=by kernel_rfl
 liesBuilder:=by kernel_rfl
 t5:=Tryz.underlying5
 a5:=Tryz.isAgg5
 z5:=Tryz.sizeOf5
 v5:=Tryz.zeroValue5
 infoByte:=by kernel_rfl
 cellsByte:=by kernel_rfl
 sizeByte:=by kernel_rfl
 neB5:=by decide }
open Go.RowKit in
open Go.RowKit in
def Tryz.strings_Join(bk o c:Nat)(xs:List ByteArray)(sep:ByteArray)(w:World)(xhi:∀(j:Nat)x,xs[j]?=some x->w.cell? ⟨bk,o+j,none⟩=some (.string x))(hbk:bk<w.heap.size)(hN:xs.length<=140737488355328)(acX:xs.length<=c)(hlen:(Lib.join (xs.map (·.data.toList)) sep.data.toList).length<=140737488355328):
  Calls Tryz.prog 249 #[.slice (some ⟨bk,o,none⟩) xs.length c,.string sep] w λe J=>e=.returned (.string ⟨(Lib.join (xs.map (·.data.toList)) sep.data.toList).toArray⟩)/\Below w.heap.size w J:=Any.strings_Join Tryz.aav Tryz.BQ bk o c xs sep w xhi hbk hN acX hlen
end Go.Proofs
namespace Go.Proofs.YtlgidcmmgohagaaGreat
open Go.RowKit Go.Sort Go.Shelf Go.Proofs.Tryz
open Go.Value renaming slice->fy,string->fA,pointer->fB,tuple->fC,agg->fD,bool->fE
open Go.Ending renaming returned->fF
open Option renaming some->fh,none->fj
open Bool renaming true->fm,false->fo
open Go renaming World->fq,Value->fu
open List renaming length->fv,reverse->fx
open Go.RowKit renaming Hid->fe
set_option maxRecDepth 100000
set_option maxHeartbeats 0
variable {s i p sv dr ow:Nat}{B:WB}{A a:List Ob}{t:LT}{fc R:ji}
theorem Kz:∀l:List (List UInt8),Lib.join l [47]=iY l
 |[]=>rfl
 |[x]=>Lib.join_one x _
 |x::y::a=>by
  have:=Kz (y::a)
  unfold Lib.join at this |-
  grind [iY,List.intercalate,List.intersperse]
theorem slT(b n:Nat)(c:n<=5)(a):(Instr.sliceAt 147 (ii b) fj (fh<|fY (n:Int)) fj).run prog a=.ok (my b 0 n 5) a:=by
 have d:∀(b:Nat)(a:fq),(Instr.sliceAt 147 (ii b) fj (fh<|fY 0) fj).run prog a=.ok (my b 0 0 5) a:=λb a=>by kernel_rfl
 have e:∀(b:Nat)(a:fq),(Instr.sliceAt 147 (ii b) fj (fh<|fY 1) fj).run prog a=.ok (my b 0 1 5) a:=λb a=>by kernel_rfl
 have f:∀(b:Nat)(a:fq),(Instr.sliceAt 147 (ii b) fj (fh<|fY 2) fj).run prog a=.ok (my b 0 2 5) a:=λb a=>by kernel_rfl
 have g:∀(b:Nat)(a:fq),(Instr.sliceAt 147 (ii b) fj (fh<|fY 3) fj).run prog a=.ok (my b 0 3 5) a:=λb a=>by kernel_rfl
 have h:∀(b:Nat)(a:fq),(Instr.sliceAt 147 (ii b) fj (fh<|fY 4) fj).run prog a=.ok (my b 0 4 5) a:=λb a=>by kernel_rfl
 have i:∀(b:Nat)(a:fq),(Instr.sliceAt 147 (ii b) fj (fh<|fY 5) fj).run prog a=.ok (my b 0 5 5) a:=λb a=>by kernel_rfl
 grind
theorem Zx(H b c d Z)(n:Nat)(r:n<=5)(s:fQ)(k)(w)(u:fv s=n)
  (f:∀a,ik 142 #[fD<|ml H b c d Z] a<|vd (fY (n:Int)) a)
  (g:∀a,ju w a->a.heap[w.heap.size]?=fh (.cells (ml H b c d Z) 147 (0,0))->ik 249 #[my w.heap.size 0 n 5,fA ⟨#[47]⟩] a (vd (hZ k) a)):
  ik 224 #[fD<|ml H b c d Z] w (vd (hZ k) w):=by
 have v:=λa=>slT w.heap.size n r a;have l:fe _:=(mi w.heap.size w).alloc (lw _)<|.cells (ml H b c d Z) 147
 change fe _ at f g
 go_enter func224,ntmps224;go_wp2_with fail;refine Ps (f _) ?_;rintro e h ⟨rfl,i⟩;have m:h.heap[w.heap.size]?=fh (.cells (ml H b c d Z) 147 (0,0)):=(i.block _<|by simp).trans<|oO w _;have j:ju w h:=gS l i;have o:fe _:=g h j m;have p:fe _:=j;clear g f l i m j;go_wp2_with fail;refine Hk o.o λx q=>?_
 have t:=gS p.o q;clear o p q;go_wp2;go_ret;exact⟨fX,t⟩
theorem hnf(a)(c:Good a)(w:fq):ik 224 #[fD<|jn a] w (vd (hZ<|lA a) w):=by
 have d:=c.len;have h:=yt c.val;refine Zx _ _ _ _ _ (fv a) d a (lA a) w fX (λb=>nN a c.val d b) λb i e=>?_;have f:w.heap.size<b.heap.size:=(lH.1 e).1;obtain⟨_,_⟩:=ug e;have g:Lib.join (a.map (·.data.toList)) (⟨#[47]⟩:fO).data.toList=iY (a.map iT):=Kz _;have j:fv (iY<|a.map iT)<=65:=by
  have:(lA a).size=fv (iY<|a.map iT):=by
   show(iY<|a.map iT).toArray.size=_;simp
  omega
 have:=strings_Join w.heap.size 0 5 a ⟨#[47]⟩ b (λk x l=>?_) f (by omega) d (by grind)
 rwa [g]at this
 grind
def wh (i:Nat)(t:Nat×Nat):Prop:=gA i t\/t=(0,1)
theorem Mp{i:Nat}(U:2<=i):¬wh i (0,0):=by
 rintro((a|a|a)|a)
 all_goals grind
abbrev iV:=fO×Int
def uk (x:iV):gX:=[fA x.1,.int .i64 x.2]
def iB (l:List iV):gX:=l.flatMap uk
theorem KA(l:List iV):fv (iB l)=fv l*2:=by
 induction l with
 |nil=>rfl
 |cons x b a=>unfold iB at a |-;rw[MX,lI,a,lg];simp[uk];omega
def Zy(a b:List iV):iB (a++b)=iB a++iB b:=by simp[iB]
def Ak (x:fQ×Int):iV:=(lA x.1,x.2)
def GR (T:gC)(w:fq)(sv e dr ow:Nat)(d:List iV):Prop:=
 T sv=(0,1)/\∃a c,w.heap[sv]?=fh (.cells #[ptr e,ptr dr,.map<|fh ow,fy a (fv d) c] 259 (0,0))/\w.ownsRow 0 133 2 (fy a (fv d) c) (fv d) (iB d)/\∀b,(Value.slice a (fv d) c).ownBlock=fh b->T b=(0,1)
theorem GR.moves{P:Nat×Nat->Prop}{T M}{w J}{sv e dr ow}{f:List iV}(h:GR T w sv e dr ow f)(m:fI P T M w J)(i:¬P (0,1)):GR M J sv e dr ow f:=by
 obtain⟨j,a,c,k,d,l⟩:=h;obtain⟨n,o⟩:=m.at k j i;exact⟨o,a,c,n,gg d λp q=>m.block p (gc d q) (by grind),λb g=>(m.tags b (gc d g)).trans<|l b g⟩
structure CU (tg:gC)(w:World)(s i p:Nat)(B:WB)(gI:List Ob)(g:WG)(lim:Nat)(sv dr ow:Nat)(t:LT)(a:List Ob)(L:List iV):Prop where
 inv:fZ tg w s i p B gI g lim
 Ug:GR tg w sv B.bt dr ow L
 map:∃(f:fQ->Option Int) (n:Nat),jT w ow n (fun q=>(f q).map (Value.int .i64))/\∀q,IE gI (gz gI g.fl) t a f q
 tow:tg ow=(0,0)
 few:L.length<=lim
theorem CU.below{T}{w J}{g}{I}{d:List iV}(b:CU T w s i p B A g I sv dr ow t a d)(c:ju w J):CU T J s i p B A g I sv dr ow t a d:=by
 obtain⟨f,n,e,h⟩:=b.map;exact⟨b.inv.below c,b.Ug.moves (fI.fK (P:=λ_=>False) c) id,⟨f,n,e.keep<|c.block ow e.lt,h⟩,b.tow,b.few⟩
def CU.mono{T}{w}{g}{I c:Nat}{d:List iV}(b:CU T w s i p B A g I sv dr ow t a d)(e:I<=c):CU T w s i p B A g c sv dr ow t a d:=⟨b.inv.mono e,b.Ug,b.map,b.tow,ww b.few e⟩
def jV (a:fO):Option LT->fV
 |none=>(⟨#[]⟩,0,0)
 |some c=>(a,c.kind,c.id)
def wH (e:fV):fu:=fD #[fA e.1,.int .i64 e.2.1,.int .i64 e.2.2]
def sO (A:List Ob)(fs:b6):Option LT->b6×Int×Kids
 |some (.own a)=>(fs,0,a)
 |some (.dir id)=>if(fs.iw id).2 then((fs.iw id).1,0,(fT A id).map wd) else((fs.iw id).1,14,[])
 |_=>(fs,0,[])
theorem GU(A)(fs:b6)(a):(fs.Next (sO A fs a).1/\(sO A fs a).2=(0,li A a))\/(fs.yR (sO A fs a).1/\(sO A fs a).2=(14,[])):=by
 cases a with
 |none=>exact .inl ⟨b6.Next.refl _,fX⟩
 |some c=>
  cases c with
  |file i=>exact .inl ⟨b6.Next.refl _,fX⟩
  |held f=>exact .inl ⟨b6.Next.refl _,fX⟩
  |own g=>exact .inl ⟨b6.Next.refl _,fX⟩
  |dir id=>
   have d:sO A fs (fh<|.dir id)=if(fs.iw id).2 then((fs.iw id).1,0,(fT A id).map wd) else((fs.iw id).1,14,[]):=fX;rw[d];rcases fs.zz id with⟨b,e,_⟩|⟨b,h⟩
   rw[lv b];exact .inl ⟨e,fX⟩
   all_goals grind
theorem msb{n}{a}(e:GM A n a)(d)(f:(jV d a).2.1=2):oW A (jV d a):=by
 cases a with
 |none=>cases f
 |some c=>
  have b:=e c fX;refine⟨mh c,λhid=>?_⟩;cases c with
  |file id=>cases n<;>(rw[fM]at b;exact b)
  |held g=>exact absurd fX hid
  |dir id=>cases n<;>(rw[fM]at b;exact b.1)
  |own h=>exact absurd fX hid
theorem hni(k:Sound A){t}{i}(hF:Flat A t i){n}{b}(l:GM A n b){h}(m:∀d,b=fh (.own d)->t.at A h=b)(fs)(f)(g:(jV f b).2.1=2):
  mB A i fs h (jV f b)=((sO A fs b).1,(sO A fs b).2.1,(sO A fs b).2.2.map lL):=by
 cases b with
 |none=>cases g
 |some c=>
  unfold mB;rw[km λo=>o g];cases c with
  |file id=>cases g
  |held u=>cases g
  |own d=>
   rw[lv<|show(jV f<|fh (.own d)).2.2=0 from fX,hF.od h,m d fX];rfl
  |dir id=>
   have j:=l _ fX;have p:fJ A id=2:=by cases n<;>(rw[fM]at j;exact j.1)
   have hid:id≠0:=λe=>by have:=(np (a:=A) (id:=id)<|by omega).1;omega
   have q:((fT A id).map wd).map lL=fT A id:=Jk λe r=>((k.2 id p).2.2 e r).2.1;rw[km<|show(jV f<|fh (.dir id)).2.2≠0 from hid];show(if(fs.iw id).2 then _ else _)=_;have s:sO A fs (fh<|.dir id)=if(fs.iw id).2 then((fs.iw id).1,0,(fT A id).map wd) else((fs.iw id).1,14,[]):=fX;rw[s];split;simp only[q];rfl;rfl
def NE:Option LT->Int
 |none=>0
 |some c=>c.kind
def KB:Option LT->Int
 |none=>0
 |some c=>c.id
def hnk (a:fQ->Option Int)(b:fQ)(c:LT):Int:=if c.id≠0 then c.id else(a b).getD 0
def BR (a:Option LT):Prop:=∀c,a=fh c->(∃i,c=.file i)\/∃i,c=.dir i
def DK (a:fO)(is N:Bool):List iV:=if is then(if N then [(a,2)]else [(a,1)])else if N then [(a,3)]else []
def KC{n:Nat}(a:n<=5){c}(b:fM A n c):fM A 5 c:=LU n 5 a b
theorem hnm{a l:List Ob}(d:a=A++l)(k:Exact a)(m:mL a)(g:Sound A){t c u:LT}{e}{f}(n:IE A fc t a e f)(o:t.at A f=fh c)(p:fM A 5 c)(h:fM A 5 u)(q:(∃i,u=.file i)\/∃i,u=.dir i)(r:c.kind=u.kind):
  hnk e f c=u.id↔∀y,xc A fc c y=xc A qX u y:=by
 have s:fM a 5 u:=by rw[d];exact jl l 5 _ h
 have hsu:∀y,xc a qX u y=xc A qX u y:=λy=>by rw[d];exact ng g l qX y 5 _ h
 have v:∀id,fM a 5 (kW c.kind id)->uW a qX (kW c.kind id) A fc c->(id=u.id↔∀y,xc A fc c y=xc A qX u y):=λid w x=>by
  rw[VT k m w x s q r];exact⟨λb y=>(b y).trans<|hsu y,λb y=>(b y).trans (hsu y).symm⟩
 unfold hnk;by_cases hid:c.id=0;rw[km λb=>b hid];have⟨id,_⟩:=n c o hid
 grind
 rw[lv hid];have j:(∃i,c=.file i)\/∃i,c=.dir i:=by
  cases c with
  |file i=>exact .inl ⟨i,fX⟩
  |dir i=>exact .inr ⟨i,fX⟩
  |held e=>exact absurd fX hid
  |own B=>exact absurd fX hid
 have z:kW c.kind c.id=c:=by rcases j with⟨i,rfl⟩|⟨i,rfl⟩<;>rfl
 refine v c.id (by grind [jl]) λy=>?_;rw[z,d,ng g l qX y 5 _ p];exact uY j qX fc y
theorem hnn{b N}(d:∀y,IR A fc b y=IR A R N y):NE b=NE N:=by
 have a:=d [];rcases b with _|c
 cases N with
 |none=>rfl
 |some u=>simp only[IR,Option.bind_none,wy,px]at a;cases a
 cases N with
 |none=>simp only[IR,Option.bind_none,wy,px]at a;cases a
 |some u=>exact lrl<|vec (show xc A fc c []=xc A R u []from a)
def hnt{n}{b}{a N}(c:∀y,IR A fc a y=IR A R N y):cmpL A fc R n b a N=[]:=by
 cases n<;>rw[cmpL,lv c]
theorem yH(b:Sound A){a}(c:GM A 0 a):li A a=[]:=by
 rcases d:li A a with _|⟨x,f⟩
 rfl;obtain⟨k,e,_⟩:=(mS b c).2 x (by grind);omega
def hn2(c:Sound A){n}{b}{a N}(e:GM A n a)(f:GM A n N)(d:¬ ∀y,IR A fc a y=IR A R N y):
  cmpL A fc R n b a N=zq b (jB<|IR A fc a []) (jB<|IR A R N [])++((li A a).flatMap (λx=>cmpL A fc R (n-1) (b++[x.1]) (fh x.2)<|jp (li A N) x.1)++((li A N).filter λx=>(jp (li A a) x.1).isNone).flatMap λx=>cmpL A fc R (n-1) (b++[x.1]) fj<|fh x.2):=by
 cases n with
 |zero=>rw[cmpL,km d,yH c e,yH c f];simp
 |succ n=>rw[cmpL,km d];rfl
def KD(a):(jB<|IR A fc a []).isSome=decide (NE a=1):=by
 rcases a with _|c
 rfl;show(jB<|xc A fc c []).isSome=_;rw[px];cases c<;>rfl
def msg(a)(x y:Option fO):(zq a x y).map Ak=DK (lA a) x.isSome y.isSome:=by
 cases x<;>cases y<;>rfl
def Uh(a)(b N):(zq a (jB<|IR A fc b [])<|jB (IR A R N [])).map Ak=DK (lA a) (decide (NE b=1)) (decide (NE N=1)):=by
 rw[msg,KD,KD]
theorem DL{a c:Type}(p:a->Bool)(b:a->List c)(l:List a){k:Nat}(d:k<fv l):((l.take<|k+1).filter p).flatMap b=((l.take k).filter p).flatMap b++(if p l[k]then b l[k]else []):=by
 grind [vv]
theorem Zz{b c:Type}(a:b->List c)(l:List b){k:Nat}(d:k<fv l):(l.take<|k+1).flatMap a=(l.take k).flatMap a++a l[k]:=by
 grind [vv]
theorem rG(d:Sound A){n}{a}(e:GM A n a):fv (li A a)<=16:=by
 rcases a with _|c
 exact Fr _;unfold li;cases b:kids A c with
 |none=>simp[b]
 |some Y=>simp only[wy,b,jI];exact(lO d (e c fX) b).2.1
theorem tN(e:Sound A){n}{b}(f:GM A n b):∀x∈li A b,fN x.1=fm:=by
 rcases b with _|c
 intro x a;cases a;unfold li;cases d:kids A c with
 |none=>intro x a;simp[d]at a
 |some Y=>simp only[wy,d,jI];exact λx a=>((lO e (f c fX) d).2.2 x a).1
theorem DM{a}(d:BR a)(x):BR (jp (li A a) x):=by
 intro c b;rcases a with _|u
 cases b;rcases d u rfl with⟨i,rfl⟩|⟨i,rfl⟩
 cases b;have f:=mU b;obtain⟨e,_,g⟩:=jC.1<|show(x,c)∈(fT A i).map wd from f
 grind [ltOf,wd]
theorem VU{t:LT}{d}{b:Option LT}(e:∀c,b=fh c->t.at A d=fh c){x}{c:LT}(a:jp (li A b) x=fh c):t.at A (d++[x])=fh c:=by
 cases b with
 |none=>cases a
 |some u=>
  rw[lx,e u fX,wy,lh];unfold li at a;rcases f:kids A u with _|Y
  simp only[wy,f,WA]at a;cases a
  grind [pd]
def cB:Nat->Nat
 |0=>3
 |n+1=>3+32*cB n
def hol(n:Nat):3<=cB n:=by cases n<;>rw[cB]<;>omega
def VV (a:List fV)(n:fO):fV:=match qL a n with
 |none=>(⟨#[]⟩,0,0)
 |some c=>(n,c)
theorem Ui(d:iD)(N f)(n)(k:Int)(w)
  (g:∀a,ju w a->ik 133 #[fy d N f,hZ n] a (vd (fC #[fY k,fE fo]) a)):
  ik 206 #[fy d N f,hZ n] w (vd (fD #[hZ kq,fY 0,fY 0]) w):=by
 have b:ju w (w.k #[hZ ByteArray.empty,fY 0,fY 0] 96):=(mi _ _).alloc (lw _) _;have h:fe _:=g _ b;have i:fe _:=b;clear g b;go_enter func206,ntmps206;go_wp2_with fail;refine Ps h.o ?_;rintro e j ⟨rfl,c⟩;obtain⟨l,o⟩:=kw c;have p:w.heap.size<j.heap.size:=nz (by simp) c.size;have m:ju w j:=gS i.o c;clear h i;go_wp2;exact oa (v:=fD #[hZ kq,fY 0,fY 0]) (by simp[results,results206,go_sem,l]) fX ⟨fX,by
  repeat(first|exact m|(refine wD ?_ (by simp) _))⟩
theorem Uj(a N f k:Nat)(n)(y:fV)(w:fq)(p:k<N)(q:N<=16)(r:a<w.heap.size)
  (l:w.c a (k*3)=fh (hZ y.1)/\w.c a (k*3+1)=fh (fY y.2.1)/\w.c a (k*3+2)=fh (fY y.2.2))
  (g:∀b,ju w b->ik 133 #[my a 0 N f,hZ n] b (vd (fC #[fY (k:Int),fE fm]) b)):
  ik 206 #[my a 0 N f,hZ n] w (vd (fD #[hZ y.1,fY y.2.1,fY y.2.2]) w):=by
 obtain⟨s,t,u⟩:=l;have c:ju w (w.k #[hZ ByteArray.empty,fY 0,fY 0] 96):=(mi _ _).alloc (lw _) _;have h:fe _:=g _ c;have i:fe _:=c;clear g c;go_enter func206,ntmps206;go_wp2_with fail;refine Ps h.o ?_;rintro e j ⟨rfl,d⟩;obtain⟨m,x⟩:=kw d;have z:w.heap.size<j.heap.size:=nz (by simp) d.size;have o:ju w j:=gS i.o d;clear h i;go_wp2;exact oa (v:=fD #[hZ y.1,fY y.2.1,fY y.2.2]) (by simp[results,results206,go_sem,m]) fX ⟨fX,by
  repeat(first|exact o|(refine wD ?_ (by simp) _))⟩
theorem ZA{w:fq}{h}{a:List fV}(d:w.ownsRow 0 96 3 h (fv a) (flat a))(n)(m:fP a)(o:fv a<=16):
  ik 206 #[h,hZ n] w (vd (wH<|VV a n) w):=by
 have i:∀j,ju w j->ik 133 #[h,hZ n] j (vd (fC #[fY (ui a n:Nat),fE<|kA a n]) j):=λj q=>
  iL (gg d λr s=>q.block r<|gc d s) n m o
 have f:=nj (n:=n) m;unfold VV;cases b:kA a n with
 |false=>
  rw[b]at i f;rw[f];obtain⟨k,N,g,rfl⟩:∃k N g,h=fy k N g:=by
   rcases d.2 with⟨e,_⟩|⟨z,A,_,e,_⟩
   all_goals grind
  exact Ui k N g n _ w i
 |true=>
  rw[b]at i f;unfold kA at b;cases l:a[ui a n]? with
  |none=>rw[l]at b;cases b
  |some y=>
   rw[l]at b f;obtain⟨p,t⟩:=wI.1 l;obtain⟨u,g,rfl⟩:=hh d (by omega);have v:y.1=n:=by simpa using b
   obtain⟨c0,c1,c2⟩:=lr (off:=0) (ks d) p;rw[iR]at c0 c1 c2;rw[t]at c0 c1 c2
   have:=Uj u (fv a) g (ui a n) n y w p o (gc d fX) ⟨c0,c1,c2⟩ i
   have x:(match qL a n with
    |none=>((kq,0,0):fV)
    |some c=>(n,c))=y:=by
    rw[f,lv fX,qA];show(n,y.2)=y;rw[<-v]
   rw[x];exact this
def Uk(sv)(H a b c Z d)(k id:Int)(w:fq)(e:k≠2):
  ik 205 #[ii sv,fD<|ml H a b c Z,fD #[hZ d,fY k,fY id]] w (vd (fC #[fy fj 0 0,fY 0]) w):=by
 have g:(k==2)=fo:=by simpa using e
 have f:fe _:=(rA w (.cells (ml H a b c Z) 147)<|.cells #[hZ d,fY k,fY id] 96).1;go_enter func205,ntmps205;go_wp2;go_ret2;exact⟨fX,f.o⟩
theorem Ul(sv i:Nat)(H c d f Z g)(id j:Int)(k:fu->fq->fq->Prop)(w:fq)(q:sv<w.heap.size)(c0:w.c sv 0=fh (ii i))
  (l:∀b,ju w b->ik 187 #[ii i,fD<|ml H c d f Z,fD #[hZ g,fY 2,fY id]] b λe J=>∃a,e=qr #[a,fY j]/\k a b J):
  ik 205 #[ii sv,fD<|ml H c d f Z,fD #[hZ g,fY 2,fY id]] w λe J=>∃a b,e=qr #[a,fY j]/\ju w b/\k a b J:=by
 obtain⟨m,h⟩:=rA w (.cells (ml H c d f Z) 147)<|.cells #[hZ g,fY 2,fY id] 96;have n:fe _:=l _ h;have o:fe _:=h;clear l m h;go_enter func205,ntmps205;go_wp2
 go_region_with(go_at_call 187;refine Ps n.o ?_;rintro e r ⟨a,rfl,p⟩)
 all_goals
  go_wp2;go_ret2;exact⟨a,_,fX,o.o,p⟩
theorem Mq(w:fq)(c0 c1:fu)(t:ni)(n:Nat)(c:n=w.heap.size):∀b u,[c0,c1][b]?=fh u->(w.k #[c0,c1] t).cell? (((ie n 0):Addr).add b)=fh u:=by
 subst c;intro b u a
 match b,a with
 |0,a=>simpa [Addr.add]using a
 |1,a=>simpa [Addr.add]using a
 |b+2,a=>simp at a
def Ult (w J:fq)(sv:Nat)(a:iD)(n c:Nat)(g Y:gX):Prop:=
 ∃b f d e,Below w.heap.size w d/\e.ownsRow 0 133 2 (fy (fh ⟨b,0,fj⟩) (n+1) f) (n+1) (g++Y)/\d.grownBy e (Value.slice a n c).ownBlock/\((fh b:Option Nat)=(Value.slice a n c).ownBlock\/b=d.heap.size)/\J=e.setCell ⟨sv,3,fj⟩ (fy (fh ⟨b,0,fj⟩) (n+1) f)
theorem nX{w c b}{d:Option Nat}(e:ju w c)(g:c.grownBy b d){p:Nat}(f:p<w.heap.size)(h:fh p≠d)(a):b.c p a=w.c p a/\b.frozen? (ie p a)=w.frozen? (ie p a):=by
 have i:=(g.block p (nz f e.size) h).trans<|e.block p f
 grind [wJ,Rj]
theorem ZB(sv:Nat)(a:iD)(n c)(l)(H z A B Z b)(is N:Bool)(q:Int)(Y:(is=fm/\N=fm/\q=2)\/(is=fm/\N=fo/\q=1)\/(is=fo/\N=fm/\q=3))(w:fq)(f:sv<w.heap.size)(c3:w.c sv 3=fh (fy a n c))(f3:w.frozen? (ie sv 3)=fo)
  (L:w.ownsRow 0 133 2 (fy a n c) n l)(M:fh sv≠(Value.slice a n c).ownBlock)(aa:n<1099511627776)
  (O:∀k,ik 224 #[fD<|ml H z A B Z] k<|vd (hZ b) k):
  ik 204 #[ii sv,fD<|ml H z A B Z,fE is,fE N] w λe J=>e=qr #[]/\Ult w J sv a n c l [hZ b,fY q]:=by
 obtain⟨C,U,D,E,F⟩:=kM dep;have P:ju w (w.k (ml H z A B Z) 147).drew:=io<|(mi _ _).alloc (lw _) _;have G:fe (∀u∈[Value.string b,fY q],u.oneCell'=fm):=by intro u Q;simp at Q;rcases Q with rfl|rfl<;>rfl
 have m:fe (w.ownsRow 0 133 2 (fy a n c) n l):=L;have o:fe (fh sv≠(Value.slice a n c).ownBlock):=M;have I:fe _:=P;have K:fe _:=O;have d3:∀k,ju w k->k.c sv 3=fh (fy a n c)/\k.frozen? (ie sv 3)=fo:=λk R=>⟨(R.cell (p:=(ie sv 3)) f).trans c3,by rw[Rj (a:=(ie sv 3))<|R.block sv f];exact f3⟩;have HD3:fe _:=d3;clear L M P O d3;rcases Y with⟨rfl,rfl,rfl⟩|⟨rfl,rfl,rfl⟩|⟨rfl,rfl,rfl⟩
 ·go_enter func204,ih3
  go_wp2
  go_region_law(first
   |(refine pw fX (.tmp 22) (.tmp 27) 121 fX 0 133 C _ 2 24 rws U D E F fX (by decide) (fy a n c) n l (by simp[Act.eval]) (rJ r.o<|.cells #[hZ b,fY 2] 133) (ie wt.heap.size 0) 1 1 [hZ b,fY 2] (by simp[Act.eval]) fX (Mq wt (hZ b) (fY 2) 133 wt.heap.size fX) G.o (by unfold maxLen;omega) (by omega) (Fr _) ?_;intro S s j g t;obtain⟨h,v,rfl⟩:=hh j (by omega);have i:=gS d.o<|(mi wt.heap.size wt).alloc (lw _) (.cells #[hZ b,fY 2] 133);have T:=(nX i g f o.o 3).1.trans c3;have V:=(nX i g f o.o 3).2.trans f3)
   |(go_simp;go_at_call 224;refine Ps (K.o _) ?_;rintro e wt ⟨rfl,x⟩;have d:fe _:=gS I.o x;have W:=(HD3.o _ d.o).1;have r:fe _:=gg m.o λh y=>d.o.block h<|gc m.o y;have X:sv<wt.heap.size:=nz f d.o.size))
  all_goals
   go_wp2;go_end0;exact⟨fX,h,v,_,s,i,j,g,by simpa [Value.ownBlock]using t,fX⟩
 ·go_enter func204,ih3
  go_wp2
  go_region_law(first
   |(refine pw fX (.tmp 22) (.tmp 27) 121 fX 0 133 C _ 2 24 rws U D E F fX (by decide) (fy a n c) n l (by simp[Act.eval]) (rJ r.o<|.cells #[hZ b,fY 1] 133) (ie wt.heap.size 0) 1 1 [hZ b,fY 1] (by simp[Act.eval]) fX (Mq wt (hZ b) (fY 1) 133 wt.heap.size fX) G.o (by unfold maxLen;omega) (by omega) (Fr _) ?_;intro S s j g t;obtain⟨h,v,rfl⟩:=hh j (by omega);have i:=gS d.o<|(mi wt.heap.size wt).alloc (lw _) (.cells #[hZ b,fY 1] 133);have T:=(nX i g f o.o 3).1.trans c3;have V:=(nX i g f o.o 3).2.trans f3)
   |(go_simp;go_at_call 224;refine Ps (K.o _) ?_;rintro e wt ⟨rfl,x⟩;have d:fe _:=gS I.o x;have W:=(HD3.o _ d.o).1;have r:fe _:=gg m.o λh y=>d.o.block h<|gc m.o y;have X:sv<wt.heap.size:=nz f d.o.size))
  all_goals
   go_wp2;go_end0;exact⟨fX,h,v,_,s,i,j,g,by simpa [Value.ownBlock]using t,fX⟩
 go_enter func204,ih3;go_wp2
 go_region_law(first
  |(refine pw fX (.tmp 22) (.tmp 27) 121 fX 0 133 C _ 2 24 rws U D E F fX (by decide) (fy a n c) n l (by simp[Act.eval]) (rJ r.o<|.cells #[hZ b,fY 3] 133) (ie wt.heap.size 0) 1 1 [hZ b,fY 3] (by simp[Act.eval]) fX (Mq wt (hZ b) (fY 3) 133 wt.heap.size fX) G.o (by unfold maxLen;omega) (by omega) (Fr _) ?_;intro S s j g t;obtain⟨h,v,rfl⟩:=hh j (by omega);have i:=gS d.o<|(mi wt.heap.size wt).alloc (lw _) (.cells #[hZ b,fY 3] 133);have T:=(nX i g f o.o 3).1.trans c3;have V:=(nX i g f o.o 3).2.trans f3)
  |(go_simp;go_at_call 224;refine Ps (K.o _) ?_;rintro e wt ⟨rfl,x⟩;have d:fe _:=gS I.o x;have W:=(HD3.o _ d.o).1;have r:fe _:=gg m.o λh y=>d.o.block h<|gc m.o y;have X:sv<wt.heap.size:=nz f d.o.size))
 all_goals
  go_wp2;go_end0;exact⟨fX,h,v,_,s,i,j,g,by simpa [Value.ownBlock]using t,fX⟩
def ZC(sv)(H a b c Z)(w:fq):
  ik 204 #[ii sv,fD<|ml H a b c Z,fE fo,fE fo] w (vd (fC #[]) w):=by
 have d:fe (ju w<|w.k (ml H a b c Z) 147):=(mi _ _).alloc (lw _) _;go_enter func204,ih3;go_wp2;exact oa (v:=fC #[]) (by simp[results,results204,go_sem]) fX ⟨fX,d.o⟩
theorem CU.cells{T}{w}{g}{I}{L:List iV}(b:CU T w s i p B A g I sv dr ow t a L):sv<w.heap.size/\w.c sv 0=fh (ii B.bt)/\w.c sv 1=fh (ii dr)/\w.c sv 2=fh (.map<|fh ow):=by
 obtain⟨_,_⟩:=b.Ug
 grind [lH,World.cell?,ptr]
def CU.turn{T M}{w J}{g}{I c:Nat}{h d:List iV}(b:CU T w s i p B A g I sv dr ow t a h)(m:fI (λt=>t=(0,1)) T M w J)(hs:GR M J sv B.bt dr ow d)(j:I<=c)(l:fv d<=c):CU M J s i p B A g c sv dr ow t a d:=by
 have U:=b.inv.two;obtain⟨o,n,f,q⟩:=b.map;refine⟨fZ.mono ⟨b.inv.two,b.inv.st.moves m (λe=>by cases e) (λe=>by cases e),b.inv.wp.moves m (λk e=>by cases e;omega)⟩ j,hs,⟨o,n,f.keep<|m.block ow f.lt (by rw[b.tow];intro e;cases e),q⟩,(m.tags ow f.lt).trans b.tow,l⟩
theorem CU.look{T M}{w J}{f c}{I d}{g:List iV}(b:CU T w s i p B A f I sv dr ow t a g)(m:fI (gA i) T M w J)(h:fZ M J s i p B A c d)(j:I<=d)(k:c.fl=f.fl):CU M J s i p B A c d sv dr ow t a g:=by
 have U:=b.inv.two;obtain⟨l,n,e,o⟩:=b.map;have q:¬gA i (0,1):=by
  rintro(b|b|b)
  all_goals grind
 have r:¬gA i (0,0):=λb=>Mp U<|.inl b;exact⟨h,b.Ug.moves m q,⟨l,n,e.keep<|m.block ow e.lt (by rw[b.tow];exact r),by rw[k];exact o⟩,(m.tags ow e.lt).trans b.tow,ww b.few j⟩
theorem hon{T}{w}{v}{I}{j:List iV}(d:CU T w s i p B A v I sv dr ow t a j)(ab:I<1099511627776){f}(O:Good f)(is N:Bool):
  ik 204 #[ii sv,fD<|jn f,fE is,fE N] w λe J=>e=qr #[]/\∃M,fI (λt=>t=(0,1)) T M w J/\CU M J s i p B A v (I+1) sv dr ow t a (j++DK (lA f) is N):=by
 obtain⟨x,_⟩:=d.cells;have P:=d.Ug;obtain⟨Q,H,c,l,E,FN⟩:=P;have y:∀o,((is=fm/\N=fm/\o=2)\/(is=fm/\N=fo/\o=1)\/(is=fo/\N=fm/\o=3))->DK (lA f) is N=[(lA f,o)]->
   ik 204 #[ii sv,fD<|jn f,fE is,fE N] w λe J=>e=qr #[]/\∃M,fI (λt=>t=(0,1)) T M w J/\CU M J s i p B A v (I+1) sv dr ow t a (j++DK (lA f) is N):=by
  intro o R z;have C:=il E l (by decide);have ac:=d.few;refine(ZB sv H (fv j) c (iB j) _ _ _ _ _ (lA f) is N o R w x (by simp[World.cell?,l]) (by simp[World.frozen?,l]) E C (by omega) λS=>hnf f O S).mono ?_;rintro e J ⟨D,g,F,ad,r,h,G,q,K,rfl⟩;have ae:g<r.heap.size:=gc G fX;have L:∀k,k<w.heap.size->fh k≠(Value.slice H (fv j) c).ownBlock->r.heap[k]?=w.heap[k]?:=λk n u=>(q.block k (nz n h.size) u).trans<|h.block k n
  have U:g≠sv:=by
   rintro rfl;rcases K with d|d
   exact C d
   have:=h.size
   omega
  have V:g<w.heap.size->T g=(0,1):=λaf=>by
   rcases K with d|d
   exact FN g d.symm
   have:=h.size
   omega
  have W:=ww h.size q.size;have m:fI (λt=>t=(0,1)) T (kV T g (0,1)) w (r.setCell (ie sv 3)<|my g 0 (fv j+1) F):=by
   refine⟨q.os.trans h.os,q.tape.trans h.tape,q.output.trans h.output,by simpa using W,λk n=>?_,λk n u=>?_,λX k n=>?_⟩;by_cases e:k=g;rw[e,nu,V<|by omega];exact xt e _;rw[sI _ _ _ _ λe=>u (by grind)];exact L k n λe=>u<|FN k e.symm;have ag:r.heap.size<=k:=by simpa using n
   rw[xt<|by omega];exact X k<|by omega
  have Y:=(L sv x C).trans l;refine⟨D,_,m,d.turn m ⟨(m.tags sv x).trans Q,fh<|ie g 0,F,?_,?_,λb Z=>?_⟩ (Ha _) ?_⟩;rw[z,lI,Ca];simp[World.setCell,ED,Y];rw[z,lI,Ca,Zy];exact gg G (λah aa=>by cases aa;exact sI _ _ _ _ U);cases Z;exact nu _ _ _;rw[z,lI,Ca];omega
 cases is with
 |true=>
  cases N with
  |true=>exact y 2 (.inl ⟨fX,fX,fX⟩) fX
  |false=>exact y 1 (.inr<|.inl ⟨fX,fX,fX⟩) fX
 |false=>
  cases N with
  |true=>exact y 3 (.inr<|.inr ⟨fX,fX,fX⟩) fX
  |false=>
   refine(ZC sv _ _ _ _ _ w).mono ?_;rintro e J ⟨D,l⟩;refine⟨D,T,fI.fK l,?_⟩;rw[show DK (lA f) fo fo=[]from fX,lJ];exact(d.below l).mono<|Ha _
def Inside (s i p:Nat)(B:WB)(A:List Ob)(sv dr ow:Nat)(t:LT)(a:List Ob)(T:gC)(w J:fq)(d:WG)(e:b6)(I:Nat)(f:List iV)(b:fu)(c:List fV):Prop:=
 ∃M,fI (gA i) T M w J/\CU M J s i p B A { d with fs:=e } I sv dr ow t a f/\oZ M J i b c/\∀b c,oZ T w i b c->oZ M J i b c
theorem GV{T}{w}{d}{I}{q:List iV}(k:CU T w s i p B A d I sv dr ow t a q)(hF:Flat A t d.ft)(z:I<1099511627776){r}(C:Good r){n}{b}(y:GM A n b)(D:∀l,b=fh (.own l)->t.at A r=b)(f):
  ik 205 #[ii sv,fD<|jn r,wH<|jV f b] w λe J=>∃g,e=qr #[g,fY (sO A d.fs b).2.1]/\Inside s i p B A sv dr ow t a T w J d (sO A d.fs b).1 (I+1) q g ((sO A d.fs b).2.2.map lL):=by
 obtain⟨E,c0,_⟩:=k.cells;by_cases j:(jV f b).2.1=2;have F:=hni k.inv.st.sound hF y D d.fs f j;have G:wH (jV f b)=fD #[hZ (jV f b).1,fY 2,fY (jV f b).2.2]:=by unfold wH;rw[j]
 rw[G];refine(Ul sv B.bt _ _ _ _ _ (jV f b).1 (jV f b).2.2 (sO A d.fs b).2.1 (λg u J=>Inside s i p B A sv dr ow t a T u J d (sO A d.fs b).1 (I+1) q g<|(sO A d.fs b).2.2.map lL) w E c0 λu h=>?_).mono ?_
 have:=Bv (k.inv.below h) z C<|msb y f j
 rw[F,j]at this;refine this.mono ?_;rintro e J ⟨g,o,M,m,H,hs,v⟩;exact⟨g,o,M,m,(k.below h).look m H (Ha _) fX,hs,v⟩;rintro e J ⟨g,u,o,h,M,m,K,hs,v⟩;exact⟨g,o,M,mr h m,K,hs,λg l x=>v g l<|x.below h⟩;have L:sO A d.fs b=(d.fs,0,[]):=by
  rcases b with _|c
  rfl;cases c with
  |file i=>rfl
  |held N=>rfl
  |dir i=>exact absurd fX j
  |own l=>exact absurd fX j
 rw[L];refine(Uk sv _ _ _ _ _ (jV f b).1 (jV f b).2.1 (jV f b).2.2 w j).mono ?_;rintro e J ⟨o,h⟩;exact⟨_,o,T,fI.fK h,(k.below h).mono<|Ha _,oZ.nil _ _ _,λg l x=>x.below h⟩
theorem hoq{w b}{bt n}{d:fQ->Option Int}(f:jT w ow n λa=>(d a).map<|Value.int .i64)(i:ju w b){a}(j:Good a)(c:LT)(k:c.id=0->∃g,d a=fh g)(e):
  ik 74 #[fD #[ii bt,ii dr,.map<|fh ow],fD<|jn a,fD #[hZ e,fY c.kind,fY c.id]] b (vd (fY<|hnk d a c) b):=by
 unfold hnk;by_cases hid:c.id=0;obtain⟨g,h⟩:=k hid;rw[km λl=>l hid,hid,h];exact Uf ⟨n,lw _,f.keep<|i.block ow f.lt⟩ j h e c.kind;rw[lv hid];exact xL bt dr ow _ _ _ _ _ e c.kind c.id b hid
