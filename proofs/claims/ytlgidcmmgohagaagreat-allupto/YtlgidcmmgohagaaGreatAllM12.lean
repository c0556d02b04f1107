/- A part of the proof. -/
import Derived.Test.YtlgidcmmgohagaaGreatAllM11
import Derived.Lib.Overlaps
import Derived.Lib.AppendZerosOnto
set_option linter.all false
namespace Go.Proofs.YtlgidcmmgohagaaGreat
open Go.RowKit Go.Sort Go.Shelf Go.Proofs.Tryz
open Go.Value renaming slice->fy,string->fA,pointer->fB,tuple->fC,agg->fD,bool->fE
open Go.Ending renaming returned->fF
open Option renaming some->fh,none->fj
open Bool renaming true->fm,false->fo
open Go renaming World->fq,Value->fu
open List renaming length->fv,reverse->fx
open Go.RowKit renaming Hid->fe
set_option maxRecDepth 100000
set_option maxHeartbeats 0
variable {f:fQ->Option fu}{Q:Exit->Act->fq->Prop}{o:Oper}{W w J w3:fq}{T M:gC}{b i k I jW n:Nat}{O:fQ->fu}{B:WB}{a:Act}{es:List fV}{e:fV}{ft:FT}{v:fu}{ops:Array Oper}{q:fQ}{A:List Ob}{g:WG}
variable {T:gC}{w:fq}{s i p I:Nat}{B:WB}{A:List Ob}{g:WG}{O:fQ->fu}
theorem xz(x:fV)(n)(W:fq):ik 190 #[fD #[hZ x.1,fY x.2.1,fY x.2.2],hZ n] W (vd (fY<|ja x.1 n) W):=by
 have a:=λw=>strings_Compare x.1 n w;go_enter func190,ntmps190;go_wp2_with(go_at_call 191;apply (a _).still);go_ret;exact⟨fX,(mi _ _).alloc (lw _) _⟩
def zS(a:∀c d,(flat es)[c]?=fh d->w.c b c=fh d)(U:i<fv es):
  w.c b (i*3)=fh (fA es[i].1)/\w.c b (i*3+1)=fh (.int .i64 es[i].2.1)/\w.c b (i*3+2)=fh (.int .i64 es[i].2.2):=by
 refine⟨a _ _ ?_,a _ _ ?_,a _ _ ?_⟩
 have:=iO es i 0 U<|by decide
 simpa [pB]using this
 have:=iO es i 1 U<|by decide
 simpa [pB]using this
 have:=iO es i 2 U<|by decide
 simpa [pB]using this
def FQ (es:List fV)(n:fO)(lo U:Nat):Prop:=(∀a(b:a<fv es),a<lo->ja es[a].1 n<0)/\(∀a(b:a<fv es),U<=a->¬ja es[a].1 n<0)
theorem SJ{n}(f:k<=fv es)(d:FQ es n k k):ui es n=k:=by
 unfold ui;have e:=(KU k es).symm;rw[e,List.countP_append,List.countP_eq_length.2 (by
  intro x a;obtain⟨b,c,rfl⟩:=rI a;rw[kT]at c;rw[List.getElem_take];exact iE<|d.1 b (by omega) (by omega)),List.countP_eq_zero.2 (by
  intro x a;obtain⟨b,c,rfl⟩:=rI a;rw[rL]at c;rw[List.getElem_drop];simpa using d.2 (k+b) (by omega) (by omega)),kT]
 omega
theorem CD(c:fP es){a b:Nat}(d:b<fv es)(e:a<b):ja (es[a]'(by omega)).1 es[b].1<0:=Rh.1 c a b (by omega) d e
theorem kvu(b h:Nat)(es)(n)(w:fq)(A:b<w.heap.size)(B:∀c f,(flat es)[c]?=fh f->w.c b c=fh f)(C:fP es)(Q:fv es<=16):
  ik 189 #[my b 0 (fv es) h,hZ n,.func (.func 190) #[] #[]] w (vd (fC #[fY (ui es n:Nat),fE<|kA es n]) w):=by
 have I:Aside (∀c f,(flat es)[c]?=fh f->w.c b c=fh f):=B;have D:Aside (fP es):=C;clear B C;go_enter func189,ntmps189;go_wp2
 go_loopg [9,10] (fv es) (λK L M wr=>∃lo U:Nat,L=.int .i64 lo/\M=.int .i64 U/\lo<=U/\U<=fv es/\U-lo<=K/\Aside (ju w wr)/\Aside (FQ es n lo U))
 case atStart=>exact⟨0,fv es,rfl,rfl,Fr _,lw _,by omega,mi _ _,(⟨λc _ g=>absurd g<|Rq _,λc R N=>absurd N<|by omega⟩:FQ es n 0 (fv es))⟩
 case round=>
  obtain⟨lo,U,rfl,rfl,S,E,T,d,r⟩:=hrel;have V:b<wr.heap.size:=nz A d.out.size;have cells:∀i(U:i<fv es),wr.c b (i*3)=fh (fA es[i].1)/\wr.c b (i*3+1)=fh (.int .i64 es[i].2.1)/\wr.c b (i*3+2)=fh (.int .i64 es[i].2.2):=λi U=>zS (λc f O=>(d.cell (p:=(ie b c)) A).trans<|I c f O) U;have F:Aside _:=cells;clear cells;by_cases W:lo<U
  ·have⟨s,t,u⟩:=F ((lo+U) / 2) (by omega)
   generalize l:es[(lo+U) / 2]'(by omega)=y at s t u;have j:Aside (es[(lo+U) / 2]'(by omega)=y):=l;clear l;by_cases q:ja y.1 n<0
   ·go_wp2_with(go_at_call 190;refine(xz y n _).via λJ m=>?_)
    go_roundg (U-((lo+U) / 2+1))
    case measure=>omega
    case rel=>
     have v:Aside (FQ es n ((lo+U) / 2+1) U):=⟨λc G P=>by
      by_cases e:c=(lo+U) / 2;subst e;rw[j.out];exact q
      have:=CD D (a:=c) (b:=(lo+U) / 2) (by omega)<|by omega
      rw[j.out]at this;exact pG this q,r.2⟩
     exact⟨(lo+U) / 2+1,U,by rw[show((lo:Int)+(U:Int)) / 2+1=(((lo+U) / 2+1:Nat):Int) by omega],fX,by omega,E,lw _,d.trans<|m.mono d.size,v⟩
   go_wp2_with(go_at_call 190;refine(xz y n _).via λJ m=>?_)
   go_roundg ((lo+U) / 2-lo)
   case measure=>omega
   case rel=>
    have v:Aside (FQ es n lo<|(lo+U) / 2):=⟨r.1,λc G P g=>by
     by_cases e:c=(lo+U) / 2;subst e;rw[j.out]at g;omega
     have:=CD D (a:=(lo+U) / 2) (b:=c) G<|by omega
     rw[j.out]at this
     have:=pG this g
     omega⟩
    exact⟨lo,(lo+U) / 2,fX,by rw[show((lo:Int)+(U:Int)) / 2=(((lo+U) / 2:Nat):Int) by omega],by omega,by omega,lw _,d.trans<|m.mono d.size,v⟩
  obtain rfl:U=lo:=by omega
  have k:=SJ E r;by_cases H:U<fv es
  ·have⟨s,t,u⟩:=F U H
   generalize l:es[U]=y at s t u;have j:Aside (es[U]=y):=l;clear l;have o:kA es n=decide (ja y.1 n=0):=by
    unfold kA;rw[k,jG H,j.out];show decide (y.1=n)=_;by_cases e:y.1=n;rw[e,jb];simp;rw[yv e,yv λg=>e<|Co g]
   have x:Aside (ui es n=U):=k;have z:Aside (kA es n=decide (ja y.1 n=0)):=o;clear k o;by_cases q:ja y.1 n=0
   all_goals
    go_wp2_with(go_at_call 190;refine(xz y n _).via λJ m=>?_);go_ret2;exact⟨by rw[x.out,z.out];simp[q],d.out.trans<|m.mono d.out.size⟩
  have o:kA es n=fo:=by
   unfold kA;rw[k,wA<|by omega];rfl
  have x:Aside (ui es n=U):=k;have z:Aside (kA es n=fo):=o;clear k o;go_wp2;go_ret2;exact⟨by rw[x.out,z.out];rfl,d⟩
theorem SK(b h:Nat)(es)(n)(w:fq)(i:b<w.heap.size)(c:∀d e,(flat es)[d]?=fh e->w.c b d=fh e)(f:fP es)(g:fv es<=16):
  ik 133 #[my b 0 (fv es) h,hZ n] w (vd (fC #[fY (ui es n:Nat),fE<|kA es n]) w):=by
 have a:=kvu b h es n w i c f g;generalize ui es n=k at a |-;generalize kA es n=l at a |-;clear c f g;go_enter func133,ntmps133;go_wp2_with(go_at_call 189;refine a.via λJ j=>?_);go_ret2;exact⟨fX,j⟩
def kxp(n)(w:fq):ik 189 #[fy fj 0 0,hZ n,.func (.func 190) #[] #[]] w (UV (fC #[fY 0,fE fo]) w):=by
 go_enter func189,ntmps189;go_wp2;apply wp_loop_rounds 1;rw[rounds_succ];go_wp2;go_ret2;exact⟨fX,fX⟩
def SL(n)(w:fq):ik 133 #[fy fj 0 0,hZ n] w (UV (fC #[fY 0,fE fo]) w):=by
 go_enter func133,ntmps133;go_wp2_with(go_at_call 189;apply (kxp n _).still);go_ret2;exact⟨fX,fX⟩
theorem iL(a:w.ownsRow 0 96 3 v (fv es) (flat es))(n)(b:fP es)(c:fv es<=16):
  ik 133 #[v,hZ n] w (vd (fC #[fY (ui es n:Nat),fE<|kA es n]) w):=by
 rcases a.2 with⟨rfl,d⟩|⟨g,h,k,rfl,_,e,_⟩
 have:=DX.1 d
 subst this;apply (SL n w).still;exact⟨fX,mi _ _⟩;refine SK g h es n w (lH.1 e).1 (λf i j=>?_) b c
 have:=ks a f i j
 rwa [iR]at this
def Bu(a:Good q):keyOf prog 147 (fD<|jn q)=fh (qm prog q):=nt a.val
def hdj(t)(H a b c Z d)(k id:Int)(w:fq)(e:k≠2):
  ik 187 #[ii t,fD<|ml H a b c Z,fD #[hZ d,fY k,fY id]] w (vd (fC #[fy fj 0 0,fY 5]) w):=by
 go_enter func187,ntmps187;go_wp2;go_ret2;exact⟨fX,((mi _ _).alloc (lw _) _).alloc (by simp) _⟩
def hdk(t m:Nat)(H a b c Z d)(v:fu)(w:fq)(f:t<w.heap.size)(g:w.c t 8=fh (.map<|fh m))
  (e:∀W,ju w W->(Instr.lookup 162 (.map<|fh m) (fD<|ml H a b c Z) fo).run prog W=.ok v W):
  ik 187 #[ii t,fD<|ml H a b c Z,fD #[hZ d,fY 2,fY 0]] w (vd (fC #[v,fY 0]) w):=by
 have h:=e _<|io (((mi w.heap.size w).alloc (lw _)<|.cells (ml H a b c Z) 147).alloc (by simp)<|.cells #[hZ d,fY 2,fY 0] 96);clear e;go_enter func187,ntmps187;go_wp2
 go_region
 all_goals
  go_wp2;go_ret2;exact⟨fX,io<|((mi _ _).alloc (lw _) _).alloc (by simp) _⟩
theorem hdn(t d:Nat)(H c f g Z h)(id:Int)(i:fu->Int->fq->fq->Prop)(w:fq)(o:t<w.heap.size)(c2:w.c t 2=fh (ii d))(hid:id≠0)
  (j:∀W,ju w W->ik 217 #[ii d,fY id] W λe J=>∃v a,e=qr #[v,fY a]/\i v a W J):
  ik 187 #[ii t,fD<|ml H c f g Z,fD #[hZ h,fY 2,fY id]] w λe J=>∃v a W,ju w W/\e=qr #[v,fY a]/\i v a W J:=by
 have b:=io<|((mi w.heap.size w).alloc (lw _) (.cells (ml H c f g Z) 147)).alloc (by simp) (.cells #[hZ h,fY 2,fY id] 96);have l:=j _ b;have m:fe _:=b;clear j b;go_enter func187,ntmps187;go_wp2
 go_region_with(go_at_call 217;refine l.mono ?_;rintro e p ⟨v,a,rfl,k⟩;have n:fe _:=k;clear k)
 all_goals
  go_wp2;go_ret2;exact⟨v,a,_,m,fX,n⟩
theorem Hd(w:fq)(b:Option Nat):w.grownBy w b:=⟨fX,fX,fX,lw _,λ_ _ _=>rfl⟩
theorem sq{b o}(a:w.grownBy J (fh b)):w.grownBy (J.setCell (ie b o) v) (fh b):=
 ⟨a.os,a.tape,a.output,by simp;exact a.size,λk d c=>(sI _ _ _ _ λe=>c (by rw[e])).trans<|a.block k d c⟩
theorem Dp{w J c}(a:ju w J)(k:J.grownBy c (fh b)):w.grownBy c (fh b):=
 ⟨k.os.trans a.os,k.tape.trans a.tape,k.output.trans a.output,ww a.size k.size,λi U d=>(k.block i (nz U a.size) d).trans<|a.block i U⟩
def xA (w W w3:fq):Prop:=W.heap.size<=w3.heap.size/\∀b,w.heap.size<=b->b<W.heap.size->w3.heap[b]?=W.heap[b]?
theorem xA.cell(c:xA w W w3)(d:w.heap.size<=b)(e:b<W.heap.size)(o):w3.c b o=W.c b o:=wJ (a:=(ie b o))<|c.2 b d e
theorem xA.frozen(c:xA w W w3)(d:w.heap.size<=b)(e:b<W.heap.size)(o):w3.frozen? (ie b o)=W.frozen? (ie b o):=Rj (a:=(ie b o))<|c.2 b d e
theorem XY(t:Nat)(id:Int)(w:fq)(f:t<w.heap.size)(c4:w.c t 4=fh (hZ kq))(c5:w.c t 5=fh (fY 2))(g:w.c t 6=fh (fY id)):
  ik 136 #[ii t,fD<|ml kq kq kq kq kq] w (vd (fC #[fD #[hZ kq,fY 2,fY id],fY 0]) w):=by
 have a:=λW=>gW W;have c:∀W,(Op.equalIn 10000 147 (ln [])<|ln []).run prog W=.ok fm W:=λW=>by
  have:=ir Good.nil Good.nil W
  rwa [iE fX]at this
 unfold ln jn at a c;simp only[tW]at a c;go_enter func136,ntmps136;go_wp2
 go_region_with(go_at_call 75;refine(a _).via λh b=>?_;have⟨d,i⟩:=kw b;have⟨j,k⟩:=uL b)
 all_goals
  have l:t<w.heap.size+2:=by omega
  go_wp2;exact oa (v:=fC #[fD #[hZ kq,fY 2,fY id],fY 0]) (by simp[results,results136,go_sem,d]) fX ⟨fX,by
   have e:=gS (io<|((mi _ _).alloc (lw _) _).alloc (by simp) _) b
   repeat(first|exact e|(refine wD ?_ (by simp) _))⟩
theorem hds(t)(H g h i Z o p q r s)(j:fu->fq->fq->Prop)(d:Int)(I:(d==0)=fo)(w)
  (K:∀W,(Op.equalIn 10000 147 (fD<|ml H g h i Z)<|fD (ml kq kq kq kq kq)).run prog W=.ok fo W)
  (z:∀W,ik 132 #[fD<|ml H g h i Z] W<|vd (fD<|ml o p q r s) W)
  (A:∀W,ju w W->ik 131 #[ii t,fD<|ml o p q r s] W λe J=>∃v,e=qr #[v,fY d]/\j v W J)
  (B:∀v W w3,j v W w3->xA w W w3):
  ik 136 #[ii t,fD<|ml H g h i Z] w λe J=>e=qr #[fD #[hZ kq,fY 0,fY 0],fY d]/\∃v W w3,ju w W/\w.heap.size+1<W.heap.size/\j v W w3/\w3.grownBy J (fh<|w.heap.size+1):=by
 have k:=λW=>gW W;unfold ln jn at k;simp only[tW]at k;go_enter func136,ntmps136;go_wp2
 go_region_with(go_at_call 75;refine(k _).via λL l=>?_;have⟨C,M⟩:=kw l;have⟨D,u⟩:=uL l)
 all_goals
  have x:=gS (io<|((mi _ _).alloc (lw _) _).alloc (by simp) _) l;go_wp2_with(first
   |(go_at_call 132;refine(z _).via λm c=>?_;have⟨E,N⟩:=kw c;have f:w.heap.size+1<m.heap.size:=nz u c.size;have y:w.heap.size<m.heap.size:=nz D c.size)
   |(go_at_call 131;apply (A _<|gS x c).mono;rintro e w3 ⟨v,rfl,n⟩;have a:=B _ _ _ n;have O:=a.cell (lw _) y;have F:=a.cell (b:=w.heap.size+1) (by omega) f;have P:=a.frozen (b:=w.heap.size+1) (by omega) f;have G:fe _:=n;have Q:w.heap.size<w3.heap.size:=nz y a.1;have R:w.heap.size+1<w3.heap.size:=nz f a.1;clear n a))
  exact oa (v:=fC #[fD #[hZ kq,fY 0,fY 0],fY d]) (by simp[results,results136,go_sem,C,E,F,u]) fX ⟨fX,v,m,w3,gS x c,f,G,by
   repeat(first|exact Hd _ _|(apply sq))⟩
theorem XZ(t)(H d f g Z p q r s u)(h:fu->fq->fq->Prop)(x)(E:Int)(w)
  (U:∀W,(Op.equalIn 10000 147 (fD<|ml H d f g Z)<|fD (ml kq kq kq kq kq)).run prog W=.ok fo W)
  (F:∀W,ik 132 #[fD<|ml H d f g Z] W<|vd (fD<|ml p q r s u) W)
  (G:∀W,ju w W->ik 131 #[ii t,fD<|ml p q r s u] W λe J=>∃v,e=qr #[v,fY 0]/\h v W J)
  (I:∀W,ik 134 #[fD<|ml H d f g Z] W<|vd (hZ x) W)
  (K:∀v W w3,h v W w3->∀k,ju w3 k->ik 133 #[v,hZ x] k (vd (fC #[fY E,fE fo]) k))
  (L:∀v W w3,h v W w3->xA w W w3):
  ik 136 #[ii t,fD<|ml H d f g Z] w λe J=>e=qr #[fD #[hZ kq,fY 0,fY 0],fY 4]/\∃v W w3,ju w W/\w.heap.size+1<W.heap.size/\h v W w3/\w3.grownBy J (fh<|w.heap.size+1):=by
 have l:=λW=>gW W;unfold ln jn at l;simp only[tW]at l;go_enter func136,ntmps136;go_wp2
 go_region_with(go_at_call 75;refine(l _).via λV m=>?_;have⟨M,X⟩:=kw m;have⟨N,y⟩:=uL m)
 all_goals
  have z:=gS (io<|((mi _ _).alloc (lw _) _).alloc (by simp) _) m;go_wp2_with(first
   |(go_at_call 132;refine(F _).via λn c=>?_;have⟨O,Y⟩:=kw c;have i:w.heap.size+1<n.heap.size:=nz y c.size;have A:w.heap.size<n.heap.size:=nz N c.size)
   |(go_at_call 131;apply (G _<|gS z c).mono;rintro e w3 ⟨v,rfl,o⟩;have a:=L _ _ _ o;have aa:=a.cell (lw _) A;have P:=a.cell (b:=w.heap.size+1) (by omega) i;have ab:=a.frozen (b:=w.heap.size+1) (by omega) i;have B:fe _:=o;have ac:w.heap.size<w3.heap.size:=nz A a.1;have C:w.heap.size+1<w3.heap.size:=nz i a.1;clear o a)
   |(go_at_call 134;refine(I _).via λQ j=>?_;have⟨R,ad⟩:=kw j;have S:w.heap.size+1<Q.heap.size:=nz C j.size)
   |(go_at_call 133;refine(K _ _ _ B.o _ j).via λae D=>?_;have⟨T,af⟩:=kw D))
  exact oa (v:=fC #[fD #[hZ kq,fY 0,fY 0],fY 4]) (by simp[results,results136,go_sem,M,O,P,R,T,y,C,S]) fX ⟨fX,v,n,w3,gS z c,i,B,by
   apply Dp<|gS j D
   repeat(first|exact Hd _ _|(apply sq))⟩
theorem Ya(t)(H i j l Z s u z A B)(d:fu->fq->fq->Prop)(x)(k:Nat)(y:fV)(w)
  (ac:∀W,(Op.equalIn 10000 147 (fD<|ml H i j l Z)<|fD (ml kq kq kq kq kq)).run prog W=.ok fo W)
  (L:∀W,ik 132 #[fD<|ml H i j l Z] W<|vd (fD<|ml s u z A B) W)
  (M:∀W,ju w W->ik 131 #[ii t,fD<|ml s u z A B] W λe J=>∃a N f,e=qr #[my a 0 N f,fY 0]/\d (my a 0 N f) W J)
  (O:∀W,ik 134 #[fD<|ml H i j l Z] W<|vd (hZ x) W)
  (P:∀v W w3,d v W w3->∀o,ju w3 o->ik 133 #[v,hZ x] o (vd (fC #[fY (k:Int),fE fm]) o))
  (Q:∀a N f W w3,d (my a 0 N f) W w3->a<w3.heap.size/\k<N/\N<=16/\w3.c a (k*3)=fh (hZ y.1)/\w3.c a (k*3+1)=fh (fY y.2.1)/\w3.c a (k*3+2)=fh (fY y.2.2))
  (R:∀v W w3,d v W w3->xA w W w3):
  ik 136 #[ii t,fD<|ml H i j l Z] w λe J=>e=qr #[fD #[hZ y.1,fY y.2.1,fY y.2.2],fY 0]/\∃v W w3,ju w W/\w.heap.size+1<W.heap.size/\d v W w3/\w3.grownBy J (fh<|w.heap.size+1):=by
 have p:=λW=>gW W;unfold ln jn at p;simp only[tW]at p;go_enter func136,ntmps136;go_wp2
 go_region_with(go_at_call 75;refine(p _).via λad q=>?_;have⟨S,ae⟩:=kw q;have⟨T,C⟩:=uL q)
 all_goals
  have D:=gS (io<|((mi _ _).alloc (lw _) _).alloc (by simp) _) q;go_wp2_with(first
   |(go_at_call 132;refine(L _).via λr g=>?_;obtain⟨U,af⟩:=kw g;have m:w.heap.size+1<r.heap.size:=nz C g.size;have E:w.heap.size<r.heap.size:=nz T g.size)
   |(go_at_call 131;refine(M _<|gS D g).mono ?_;rintro e w3 ⟨a,N,f,rfl,n⟩;have c:=R _ _ _ n;have⟨V,ag,ah,ai,aj,ak⟩:=Q _ _ _ _ _ n;have al:=c.cell (lw _) E;have X:=c.cell (b:=w.heap.size+1) (by omega) m;have am:=c.frozen (b:=w.heap.size+1) (by omega) m;have F:fe _:=n;have an:w.heap.size<w3.heap.size:=nz E c.1;have G:w.heap.size+1<w3.heap.size:=nz m c.1;clear n c)
   |(go_at_call 134;refine(O _).via λI h=>?_;have⟨Y,ao⟩:=kw h;have aa:w.heap.size+1<I.heap.size:=nz G h.size;have ap:a<I.heap.size:=nz V h.size)
   |(go_at_call 133;refine(P _ _ _ F.o _ h).via λaq K=>?_;obtain⟨ab,ar⟩:=kw K))
  exact oa (v:=fC #[fD #[hZ y.1,fY y.2.1,fY y.2.2],fY 0]) (by simp[results,results136,go_sem,S,U,X,Y,ab,C,G,aa]) fX ⟨fX,_,r,w3,gS D g,m,F,by
   refine Dp (gS h K) ?_
   repeat(first|exact Hd _ _|(refine sq ?_))⟩
theorem hdt(t)(H b c d Z a)(k id f:Int)(g:fq->fq->Prop)(w)(m:(f==0)=fo)
  (h:∀W,ju w W->ik 136 #[ii t,fD<|ml H b c d Z] W λe J=>e=qr #[fD #[hZ a,fY k,fY id],fY f]/\g W J):
  ik 131 #[ii t,fD<|ml H b c d Z] w λe J=>e=qr #[fy fj 0 0,fY f]/\∃W w3,ju w W/\g W w3/\ju w3 J:=by
 have j:=h _<|(mi w.heap.size w).alloc (lw _) (.cells (ml H b c d Z) 147);clear h;go_enter func131,ntmps131;go_wp2_with(go_at_call 136;refine j.mono ?_;rintro e w3 ⟨rfl,i⟩;have l:fe _:=i;clear i);go_ret2;exact⟨fX,_,w3,(mi w.heap.size w).alloc (lw _) _,l,by repeat(first|exact mi _ _|(refine WK ?_ (by simp) _)|(refine wD ?_ (by simp) _))⟩
theorem look_ok(t)(H f g h Z a)(k id:Int)(i:fq->fq->Prop)(l:fu->Int->fq->fq->Prop)(w)
  (m:∀W,ju w W->ik 136 #[ii t,fD<|ml H f g h Z] W λe J=>e=qr #[fD #[hZ a,fY k,fY id],fY 0]/\i W J)
  (o:∀W w3,i W w3->∀c,ju w3 c->ik 187 #[ii t,fD<|ml H f g h Z,fD #[hZ a,fY k,fY id]] c λe J=>∃v b,e=qr #[v,fY b]/\l v b c J)
  (p:∀W w3,i W w3->xA w W w3):
  ik 131 #[ii t,fD<|ml H f g h Z] w λe J=>∃v b W w3 c,ju w W/\i W w3/\ju w3 c/\e=qr #[v,fY b]/\l v b c J:=by
 have q:=m _<|(mi w.heap.size w).alloc (lw _) (.cells (ml H f g h Z) 147);clear m;go_enter func131,ntmps131;go_wp2_with(first
  |(go_at_call 136;refine q.mono ?_;rintro e w3 ⟨rfl,j⟩;have d:=p _ _ j;have s:=d.cell (lw _) (by simp);have u:w.heap.size<w3.heap.size:=nz (by simp) d.1;have n:fe _:=j;clear j d)
  |(go_at_call 187;refine(o _ _ n _ (by repeat(first|exact mi _ _|(refine WK ?_ (by simp) _)|(refine wD ?_ (by simp) _)))).mono ?_;rintro e x ⟨v,b,rfl,d⟩;have r:fe _:=d;clear d))
 go_ret2;exact⟨v,b,_,w3,_,(mi w.heap.size w).alloc (lw _) _,n,by repeat(first|exact mi _ _|(refine WK ?_ (by simp) _)|(refine wD ?_ (by simp) _)),fX,r⟩
def oZ (T:gC)(w:fq)(i:Nat)(v:fu)(es:List fV):Prop:=w.ownsRow 0 96 3 v (fv es) (flat es)/\∀g,v.ownBlock=fh g->T g=(i,3)\/T g=(i,5)
def Vz(w:fq):w.ownsRow 0 96 3 (fy fj 0 0) (fv ([]:List fV)) (flat []):=⟨fX,.inl ⟨fX,fX⟩⟩
theorem oZ.nil(T)(w)(i):oZ T w i (fy fj 0 0) []:=⟨Vz w,λg a=>by simp[Value.ownBlock]at a⟩
theorem oZ.below(a:oZ T w i v es)(b:ju w J):oZ T J i v es:=⟨gg a.1 λg c=>b.block g<|gc a.1 c,a.2⟩
theorem oZ.shape(a:oZ T w i v es):∃b n c,v=fy b n c:=by
 rcases a.1.2 with⟨e,_⟩|⟨d,_⟩
 all_goals grind
theorem gD.look{od:fQ->Option (List fV)}(b:gD T w i B od I O)(c:Good q)(d:ju w W):
  (Instr.lookup 162 (.map<|fh B.oD) (fD<|jn q) fo).run prog W=.ok (((od q).map λ_=>O q).getD<|fy fj 0 0) W:=by
 obtain⟨n,_,e,a,_⟩:=b.map
 have:=(a.keep (J:=W)<|d.block _ a.lt).look yT underlying162 (CC W)<|Bu c
 grind
theorem mr{P:Nat×Nat->Prop}(a:ju w W)(m:fI P T M W J):fI P T M w J:=(fI.fK a).trans m
theorem oZ.aaU(c:oZ T w i v es)(d:∀v es k,(k=3\/k=5)->oT T w (i,k) v es->oT M J (i,k) v es):oZ M J i v es:=by
 rcases f:v.ownBlock with _|b
 have:=d v es 3 (.inl fX) ⟨c.1,λg a=>by rw[f]at a;cases a⟩
 exact⟨this.1,λg a=>.inl<|this.2 g a⟩;have h:∀g,v.ownBlock=fh g->g=b:=λg a=>by rw[f]at a;exact(rK a).symm
 rcases c.2 b f with e|e
 have:=d v es 3 (.inl fX) ⟨c.1,λg a=>by rw[h g a];exact e⟩
 exact⟨this.1,λg a=>.inl<|this.2 g a⟩
 have:=d v es 5 (.inr fX) ⟨c.1,λg a=>by rw[h g a];exact e⟩
 exact⟨this.1,λg a=>.inr<|this.2 g a⟩
theorem Bv(f:fZ T w s i p B A g I)(z:I<1099511627776)(C:Good q)(D:oW A e):
  ik 187 #[ii B.bt,fD<|jn q,fD #[hZ e.1,fY e.2.1,fY e.2.2]] w λj J=>∃v,j=qr #[v,fY (mB A g.ft g.fs q e).2.1]/\
   ∃M,fI (gA i) T M w J/\fZ M J s i p B A { g with fs:=(mB A g.ft g.fs q e).1 } (I+1)/\oZ M J i v (mB A g.ft g.fs q e).2.2/\∀v es,oZ T w i v es->oZ M J i v es:=by
 obtain⟨h,k,id⟩:=e;have u:B.bt<w.heap.size:=(lH.1 f.wp.tree.ht).1;by_cases d:k=2;subst d;by_cases hid:id=0;subst hid;have l:mB A g.ft g.fs q (h,2,0)=(g.fs,0,(g.ft.od q).getD []):=fX;rw[l];obtain⟨O,x⟩:=f.wp.qo;have E:w.c B.bt 8=fh (.map<|fh B.oD):=by simp[World.cell?,f.wp.tree.ht]
 refine(hdk B.bt B.oD _ _ _ _ _ h _ w u E λW a=>x.look C a).mono ?_;rintro j J ⟨rfl,a⟩;refine⟨_,fX,T,fI.fK a,(f.below a).mono<|Ha _,?_,λ_ _ c=>c.below a⟩;rcases F:g.ft.od q with _|es
 exact oZ.nil _ _ _;have b:=x.row q es F;exact oZ.below ⟨b.1,λr t=>.inr<|b.2 r t⟩ a;have G:=D.2 hid;have c2:w.c B.bt 2=fh (ii B.sD):=by simp[World.cell?,f.wp.tree.ht,ptr]
 have l:mB A g.ft g.fs q (h,2,id)=if(g.fs.iw id).2 then((g.fs.iw id).1,0,fT A id) else((g.fs.iw id).1,14,[]):=by
  grind [mB,Int,hid]
 refine(hdn B.bt B.sD _ _ _ _ _ h id (λv y W J=>y=(if(g.fs.iw id).2 then 0 else 14)/\∃M,fI (gA i) T M W J/\fZ M J s i p B A { g with fs:=(g.fs.iw id).1 } (I+1)/\(if(g.fs.iw id).2 then oT M J (i,3) v (fT A id)else v=fy fj 0 0)/\∀v es,oZ T W i v es->oZ M J i v es) w u c2 hid λW a=>(kvs (f.below a) z G).mono ?_).mono ?_;rintro j J ⟨v,rfl,M,m,n,b,d⟩;exact⟨v,_,fX,fX,M,m,n,b,λv es c=>oZ.aaU c d⟩;rintro j J ⟨v,y,W,a,rfl,rfl,M,m,n,b,d⟩;rw[l];by_cases o:(g.fs.iw id).2=fm;rw[lv o]at b |-;rw[lv o];exact⟨v,fX,M,mr a m,n,⟨b.1,λr t=>.inl<|b.2 r t⟩,λv es c=>d v es<|c.below a⟩;rw[km o]at b |-;rw[km o];subst b;exact⟨_,fX,M,mr a m,n,oZ.nil _ _ _,λv es c=>d v es<|c.below a⟩;have l:mB A g.ft g.fs q (h,k,id)=(g.fs,5,[]):=by unfold mB;rw[lv d]
 rw[l];refine(hdj B.bt _ _ _ _ _ h k id w d).mono ?_;rintro j J ⟨rfl,a⟩;exact⟨_,fX,T,fI.fK a,(f.below a).mono<|Ha _,oZ.nil _ _ _,λ_ _ c=>c.below a⟩
theorem xB(a:fZ T w s i p B A g I)(b:I<1099511627776)(c:Good q)(d:oW A e):
  ik 187 #[ii B.bt,fD<|jn q,fD #[hZ e.1,fY e.2.1,fY e.2.2]] w λf J=>∃v,f=qr #[v,fY (mB A g.ft g.fs q e).2.1]/\
   ∃M,fI (gA i) T M w J/\fZ M J s i p B A { g with fs:=(mB A g.ft g.fs q e).1 } (I+1)/\oZ M J i v (mB A g.ft g.fs q e).2.2:=
 (Bv a b c d).mono λ_ _⟨v,h,M,j,k,l,_⟩=>⟨v,h,M,j,k,l⟩
theorem zT(o:Sound A)(j:aaG A ft)(k:∀p es,ft.od p=fh es->fP es/\fv es<=16)(fs):∀a,((findF A ft fs a).2.1=0->oW A (findF A ft fs a).2.2)/\(∀e∈(gu A ft fs a).2.2,oW A e)/\fP (gu A ft fs a).2.2/\(gu A ft fs a).2.2.length<=16:=by
 have t:∀a,((findF A ft fs a).2.1=0->oW A (findF A ft fs a).2.2)->(∀e∈(gu A ft fs a).2.2,oW A e)/\fP (gu A ft fs a).2.2/\(gu A ft fs a).2.2.length<=16:=by
  intro a g;unfold gu;by_cases b:(findF A ft fs a).2.1≠0;simp only[lv b];exact⟨by simp,List.Pairwise.nil,by simp⟩;simp only[km b];have d:=g<|oP.1 b;unfold mB;by_cases h:(findF A ft fs a).2.2.2.1≠2;rw[lv h];exact⟨by simp,List.Pairwise.nil,by simp⟩;rw[km h];by_cases hid:(findF A ft fs a).2.2.2.2=0;rw[lv hid];rcases i:ft.od (fx a) with _|es
  exact⟨by simp,List.Pairwise.nil,by simp⟩;exact⟨j.od _ es i,(k _ es i).1,(k _ es i).2⟩;rw[km hid];by_cases l:((findF A ft fs a).1.iw (findF A ft fs a).2.2.2.2).2=fm;rw[lv l];obtain⟨q,r,m⟩:=o.2 _<|(d.2 hid).trans (oP.1 h);exact⟨λe d=>⟨(m e d).2.1,λ_=>(m e d).2.2.1⟩,q,r⟩;rw[km l];exact⟨by simp,List.Pairwise.nil,by simp⟩
 have u:∀a,(findF A ft fs a).2.1=0->oW A (findF A ft fs a).2.2:=by
  intro a
  induction a with
  |nil=>exact λ_=>⟨.inr fX,j.root⟩
  |cons n a v=>
   intro b;rw[pH]at b |-;by_cases s:(gu A ft fs a).2.1≠0
   ·all_goals grind
   rw[km s]at b |-;cases f:qL (gu A ft fs a).2.2 n with
   |none=>rw[f]at b;simp at b
   |some c=>
    simp only;have w:(n,c)∈(gu A ft fs a).2.2:=by
     unfold qL at f;rcases g:(gu A ft fs a).2.2.find? (λx=>decide (x.1=n))with _|x
     rw[g]at f;simp at f
     all_goals grind
    all_goals grind
 all_goals grind
theorem Yb(a:w.grownBy J (fh b))(d:T b=(0,0)):fI (λt=>t=(0,0)) T T w J:=
 ⟨a.os,a.tape,a.output,a.size,λ_ _=>rfl,λk c f=>a.block k c λe=>f (by cases e;exact d),λg k c=>g k<|ww a.size c⟩
theorem fZ.own(a:fZ T w s i p B A g I)(c:w.grownBy J (fh b))(d:T b=(0,0)):fZ T J s i p B A g I:=by
 have U:=a.two;have m:=Yb c d;exact⟨a.two,a.st.moves m (λe=>by cases e) (λe=>by cases e),a.wp.moves m (λk e=>by cases e;omega)⟩
theorem SM(U:2<=i)(c:lD T w)(m:fI (Mine i) T M W w3):xA w W w3:=
 ⟨m.size,λb d e=>m.block b e (by rw[c b d];rintro(a|a)<;>simp at a;omega)⟩
theorem Bw(U:2<=i)(a:lD T w)(m:fI (gA i) T M W w3):xA w W w3:=SM U a (m.mono λ_ b=>b.mine)
def mm (s i p:Nat)(B:WB)(A:List Ob)(T:gC)(w J:fq)(a:WG)(I:Nat):Prop:=∃M,fI (gA i) T M w J/\fZ M J s i p B A a I
theorem Bx{g c}(j:fZ T w s i p B A g I)(l:ju w W)(n:w.heap.size+1<W.heap.size)(o:mm s i p B A T W w3 c jW)(a:w3.grownBy J (fh<|w.heap.size+1)):mm s i p B A T w J c jW:=by
 have⟨M,m,d⟩:=o;have f:=(m.tags _ n).trans<|j.st.fresh _ (by omega);have b:=mr l m;refine⟨M,⟨a.os.trans b.os,a.tape.trans b.tape,a.output.trans b.output,ww b.size a.size,b.tags,λk h q=>(a.block k (nz h b.size) (λe=>by cases e;omega)).trans<|b.block k h q,λr=>(d.own a f).st.fresh⟩,d.own a f⟩
def VA (s i p:Nat)(B:WB)(A:List Ob)(a:fQ):Prop:=∀(T:gC)(w:fq)(g:WG)(I:Nat),fZ T w s i p B A g I->I+10<1099511627776->Good (fx a)->
 Calls prog 136 #[fB<|fh ⟨B.bt,0,fj⟩,fD<|jn (fx a)] w λb J=>b=fF (fC #[fD #[fA (findF A g.ft g.fs a).2.2.1,.int .i64 (findF A g.ft g.fs a).2.2.2.1,.int .i64 (findF A g.ft g.fs a).2.2.2.2],.int .i64 (findF A g.ft g.fs a).2.1])/\
  mm s i p B A T w J { g with fs:=(findF A g.ft g.fs a).1 } (I+fv a)
def hd2 (s i p:Nat)(B:WB)(A:List Ob)(a:fQ):Prop:=∀(T:gC)(w:fq)(g:WG)(I:Nat),fZ T w s i p B A g I->I+10<1099511627776->Good (fx a)->
 Calls prog 131 #[fB<|fh ⟨B.bt,0,fj⟩,fD<|jn (fx a)] w λb J=>∃v,b=fF (fC #[v,.int .i64 (gu A g.ft g.fs a).2.1])/\
  ∃M,fI (gA i) T M w J/\fZ M J s i p B A { g with fs:=(gu A g.ft g.fs a).1 } (I+fv a+1)/\oZ M J i v (gu A g.ft g.fs a).2.2
theorem fZ.rising(c:fZ T w s i p B A g I):∀q es,g.ft.od q=fh es->fP es/\fv es<=16:=by
 have⟨O,a⟩:=c.wp.qo;exact λq es b=>⟨(a.good q es b).2.1,(a.good q es b).2.2.1⟩
theorem VB(a)(hF:VA s i p B A a):hd2 s i p B A a:=by
 intro T w g I c l e;have C:fv a<=5:=by have:=e.len;simpa using this
 have⟨f1,_⟩:=zT c.st.sound c.wp.ok c.rising g.fs a;by_cases o:(findF A g.ft g.fs a).2.1=0;have h:gu A g.ft g.fs a=mB A g.ft (findF A g.ft g.fs a).1 (fx a) (findF A g.ft g.fs a).2.2:=by
  grind [gu,findF]
 refine(look_ok B.bt _ _ _ _ _ (findF A g.ft g.fs a).2.2.1 (findF A g.ft g.fs a).2.2.2.1 (findF A g.ft g.fs a).2.2.2.2 (λW w3=>ju w W/\mm s i p B A T W w3 { g with fs:=(findF A g.ft g.fs a).1 } (I+fv a))
  (λv q r J=>q=(gu A g.ft g.fs a).2.1/\∃M,fI (gA i) T M w J/\fZ M J s i p B A { g with fs:=(gu A g.ft g.fs a).1 } (I+fv a+1)/\oZ M J i v (gu A g.ft g.fs a).2.2) w (λW b=>?_) (λW w3 j r b=>?_) λW w3 j=>?_).mono ?_
 apply (hF T W g I (c.below b) l e).mono
 grind
 have⟨m,k,d,f⟩:=j;apply (xB (f.below b) (by omega) e<|f1 o).mono;rintro t J ⟨v,rfl,u,x,y,z⟩;rw[h];exact⟨v,_,fX,fX,u,(mr m d).trans<|mr b x,y,z⟩;have⟨m,k,d,f⟩:=j;exact Bw c.two c.st.fresh d
 grind
 have h:gu A g.ft g.fs a=((findF A g.ft g.fs a).1,(findF A g.ft g.fs a).2.1,[]):=by
  grind [gu]
 rw[h];apply (hdt B.bt _ _ _ _ _ _ _ _ (findF A g.ft g.fs a).2.1 (λW w3=>mm s i p B A T W w3 { g with fs:=(findF A g.ft g.fs a).1 }<|I+fv a) w (by grind) λW b=>hF T W g I (c.below b) l e).mono;rintro t J ⟨rfl,W,w3,b,⟨k,d,f⟩,n⟩;exact⟨_,fX,k,(mr b d).trans<|fI.fK n,(f.below n).mono<|Ha _,oZ.nil _ _ _⟩
theorem hel:VA s i p B A []:=by
 intro T w g I a d e;have c:=(lH.1 a.wp.tree.ht).1;apply (XY B.bt g.ft.root w c (by simp[World.cell?,a.wp.tree.ht]) (by simp[World.cell?,a.wp.tree.ht]) (by simp[World.cell?,a.wp.tree.ht])).mono;rintro f J ⟨rfl,b⟩;exact⟨fX,T,fI.fK b,a.below b⟩
theorem Yc(n:fO)(a)(R:hd2 s i p B A a):VA s i p B A (n::a):=by
 intro T w g I d S k;have U:fx (n::a)=fx a++[n]:=kL;rw[U]at k |-;have H:fx a++[n]≠[]:=by simp
 have V:Good (fx a):=by have:=k.dropLast;rwa [wB]at this
 have af:fv a<=4:=by have:=k.len;simp at this;omega
 have y:∀W,(Op.equalIn 10000 147 (ln<|fx a++[n])<|ln []).run prog W=.ok fo W:=λW=>by
  have:=ir k Good.nil W
  rwa [yv H]at this
 have t:=λW=>jo (fx a++[n]) k W;have z:=λW=>mO (fx a++[n]) k H W;rw[wB]at t;simp only[KV]at z;obtain⟨_,ag,K,L⟩:=zT d.st.sound d.wp.ok d.rising g.fs a;have C:∀(v:fu)(W w3:fq),(ju w W/\∃M,fI (gA i) T M W w3/\fZ M w3 s i p B A { g with fs:=(gu A g.ft g.fs a).1 } (I+fv a+1)/\oZ M w3 i v (gu A g.ft g.fs a).2.2)->xA w W w3:=λv W w3⟨c,M,m,_,_⟩=>Bw d.two d.st.fresh m;have O:∀W,ju w W->ik 131 #[ii B.bt,fD<|jn (fx a)] W λl J=>∃v,l=qr #[v,fY (gu A g.ft g.fs a).2.1]/\
   (ju w W/\∃M,fI (gA i) T M W J/\fZ M J s i p B A { g with fs:=(gu A g.ft g.fs a).1 } (I+fv a+1)/\oZ M J i v (gu A g.ft g.fs a).2.2):=λW c=>(R T W g I (d.below c) S V).mono λl J⟨v,X,Y⟩=>⟨v,X,c,Y⟩
 have D:∀{J:fq}(v:fu)(W w3:fq),ju w W->w.heap.size+1<W.heap.size->(∃M,fI (gA i) T M W w3/\fZ M w3 s i p B A { g with fs:=(gu A g.ft g.fs a).1 } (I+fv a+1)/\oZ M w3 i v (gu A g.ft g.fs a).2.2)->w3.grownBy J (fh<|w.heap.size+1)->mm s i p B A T w J { g with fs:=(gu A g.ft g.fs a).1 } (I+fv (n::a)):=λv W w3 c f⟨M,m,E,_⟩h=>Bx d c f ⟨M,m,E⟩ h;have u:∀(v:fu)(W w3:fq),(ju w W/\∃M,fI (gA i) T M W w3/\fZ M w3 s i p B A { g with fs:=(gu A g.ft g.fs a).1 } (I+fv a+1)/\oZ M w3 i v (gu A g.ft g.fs a).2.2)->∀x,ju w3 x->ik 133 #[v,hZ n] x (vd (fC #[fY (ui (gu A g.ft g.fs a).2.2 n:Nat),fE<|kA (gu A g.ft g.fs a).2.2 n]) x):=λv W w3⟨_,M,_,_,j⟩x c=>iL (j.below c).1 n K L;by_cases Z:(gu A g.ft g.fs a).2.1=0
 ·have F:=O
  rw[Z]at F;have P:=nj (n:=n) K;cases o:kA (gu A g.ft g.fs a).2.2 n with
  |false=>
   rw[o]at P;have q:findF A g.ft g.fs (n::a)=((gu A g.ft g.fs a).1,4,zE):=by
    all_goals grind [pH]
   rw[q];simp only[o]at u;refine(XZ B.bt _ _ _ _ _ _ _ _ _ _ _ n _ w y t F z u C).mono ?_;rintro l J ⟨rfl,v,W,w3,c,f,⟨_,r⟩,h⟩;exact⟨fX,D v W w3 c f r h⟩
  |true=>
   have G:=uw o;rw[o,lv fX,jG G,qA]at P;have ah:((gu A g.ft g.fs a).2.2[ui (gu A g.ft g.fs a).2.2 n]).1=n:=by
    grind [kA,jG]
   have q:findF A g.ft g.fs (n::a)=((gu A g.ft g.fs a).1,0,(gu A g.ft g.fs a).2.2[ui (gu A g.ft g.fs a).2.2 n]):=by
    all_goals grind [pH,gu,Int,EM]
   rw[q];simp only[o]at u;refine(Ya B.bt _ _ _ _ _ _ _ _ _ _ _ n _ ((gu A g.ft g.fs a).2.2[ui (gu A g.ft g.fs a).2.2 n]) w y t (λW c=>(F W c).mono ?_) z u ?_ C).mono ?_;rintro l J ⟨v,rfl,ai,M,m,E,j⟩;obtain⟨Q,aa,rfl⟩:=hh j.1<|by omega
   grind
   ·rintro Q N aa W w3 ⟨_,M,m,E,j⟩
    have ab:N=(gu A g.ft g.fs a).2.2.length:=by
     rcases j.1.2 with⟨e,_⟩|⟨aj,_⟩
     all_goals grind
    subst ab;obtain⟨c0,c1,c2⟩:=zS (b:=Q) (λac ad ae=>by have:=ks j.1 ac ad ae;rwa [iR]at this) G;exact⟨gc j.1 fX,G,L,c0,c1,c2⟩
   rintro l J ⟨rfl,v,W,w3,c,f,⟨_,r⟩,h⟩;exact⟨fX,D v W w3 c f r h⟩
 have q:findF A g.ft g.fs (n::a)=((gu A g.ft g.fs a).1,(gu A g.ft g.fs a).2.1,zE):=by
  grind [pH]
 rw[q];refine(hds B.bt _ _ _ _ _ _ _ _ _ _ _ (gu A g.ft g.fs a).2.1 (by grind) w y t O C).mono ?_;rintro l J ⟨rfl,v,W,w3,c,f,⟨_,r⟩,h⟩;exact⟨fX,D v W w3 c f r h⟩
theorem xC:∀a:fQ,VA s i p B A a
 |[]=>hel
 |n::a=>Yc n a<|VB a (xC a)
def uO(r:fQ):hd2 s i p B A r:=VB r<|xC r
theorem El{P:Program}{k:Act->fq->Prop}{p:Prop}
  (q:o.guard=fj)(s x:Operand)(t:ni)(r:o.op=Op.call { callee:=Callee.builtin Builtin.append,args:=#[s,x],argTypes:=#[t,t] })
  (e:ni)(i:TypeInfo)(b:Nat)(u:P.underlying t=fh (.slice e))(v:P.info? e=fh i)(y:i.size=b)
  (g n h)(d:Array fu)(z:a.eval s=my g 0 n h)(A:w.heap[g]?=fh (.cells d e (0,0)))
  (j:Addr)(m c:Nat)(Y:gX)(B:a.eval x=fy (fh j) m c)(C:fv Y=m*b)(D:∀l f,Y[l]?=fh f->w.cell? (j.add l)=fh f)(E:∀f∈Y,f.oneCell'=fm)
  (F:n+m<=h)(G:n*b+fv Y<=d.size)
  (H:k (a.put o.dst<|my g 0 (n+m) h) (w.setRow g (d.toList.take (n*b)++Y++d.toList.drop (n*b+fv Y)).toArray)):
  if Region.wanted o (yielded ops a.tmps)=fm then Oper.wp P o a w k Q else p:=by
 have I:Region.wanted o (yielded ops a.tmps)=fm:=by simp[Region.wanted,q]
 rw[lv I];subst y;unfold Oper.wp;simp[execOp,r,resolve,invoke,builtin,z,B,(run_append_room (P:=P) w t o.type e i u v g n h d A j m c Y C D E F G),Result.andThen];rwa [sP]at H
theorem SN(w:fq)(d:ni)(g n c:Nat)(a:Array fu)(e:w.heap[g]?=fh (.cells a 96 (0,0)))(i:n*3+3<=a.size):
  (Builtin.clear_ #[55] d #[my g (n*3) 1 c]).run prog w=.ok (fC #[]) (w.setRow g (a.toList.take (n*3)++pB (kq,0,0)++a.toList.drop (n*3+3)).toArray):=by
 have f:(zeroValue 96).run prog w=.ok (fD #[hZ kq,fY 0,fY 0]) w:=by kernel_rfl
 have h:(Builtin.zeroCells (Value.agg #[hZ kq,fY 0,fY 0]).cells 1).toList=pB (kq,0,0):=by kernel_rfl
 have b:=run_storeCells_at prog g (n*3) 96 (pB (kq,0,0)) 0 a w e (by grind [pB])<|se _;simp only[Ee]at b;simp[Builtin.clear_,coe underlying55,f,h,b];rfl
theorem nR(a b:List fV):flat (a++b)=flat a++flat b:=by simp[flat]
theorem zU(es:List fV)(k:Nat)(a:k<=fv es):flat (es.take k)=(flat es).take (k*3):=by
 grind [flat,nR,KU,Ec,ly,kT]
theorem zV(es:List fV)(k:Nat)(a:k<=fv es):flat (es.drop k)=(flat es).drop (k*3):=by
 have e:flat es=flat (es.take k)++flat (es.drop k):=by rw[<-nR,KU]
 grind [cse,ly,kT]
theorem hem(g n c k:Nat)(es:List fV)(a:Array fu)(w:fq)(m:w.heap[g]?=fh (.cells a 96 (0,0)))(q:fv es=n)(af:k<n)(ag:n<=c)(M:c<=maxLen)(j:a.size=c*3)(r:a.toList.take (n*3)=flat es):
  ik 194 #[my g 0 n c,fY (k:Int),fY<|(k:Int)+1] w λe J=>e=fF (my g 0 (n-1) c)/\
   ∃s,J.heap[g]?=fh (.cells s 96 (0,0))/\s.size=c*3/\s.toList.take ((n-1)*3)=flat (es.eraseIdx k)/\w.grownBy J (fh g)/\J.heap.size=w.heap.size:=by
 have⟨N,U,ah,O,ai⟩:=kM Ck;unfold maxLen at M;have aj:k<=c:=by omega
 have ak:k+1<=c:=by omega
 obtain⟨Y,l⟩:=oX<|flat (es.drop<|k+1);have o:fv Y=(n-(k+1))*3:=by rw[l,ly,rL,q]
 have C:∀u d,(flat es)[u]?=fh d->w.c g u=fh d:=λu d b=>by
  rw[<-r,hPa]at b;split at b;simp[World.cell?,m];simpa using b;cases b
 obtain⟨p,al,P⟩:∃p:Addr,(if c=k+1 then fh ((ie g 0):Addr)else fh (ie g<|(k+1)*3))=fh p/\fe (∀t d,Y[t]?=fh d->w.drew.cell? (p.add t)=fh d):=by
  by_cases D:c=k+1;refine⟨(ie g 0),by simp[D],λt d b=>?_⟩;have Q:fv Y=0:=by rw[o];omega
  rw[DX.1 Q]at b;simp at b;refine⟨(ie g<|(k+1)*3),by simp[D],λt d b=>?_⟩;rw[Ru];show w.cell? _=_;apply C _ _;rw[l,zV es (k+1)<|by omega,Wq]at b;exact b
 have R:fe (∀d∈Y,d.oneCell'=fm):=by
  intro d b;rw[l]at b;exact mH _ d b
 have E:k*3+fv Y<=a.size:=by rw[o,j];omega
 obtain⟨f,v⟩:=oX ((a.toList.take (k*3)++Y++a.toList.drop (k*3+fv Y)).toArray:Array fu);have y:f.size=c*3:=by
  rw[v];simp only[BZ,lI,kT,rL,pq];omega
 obtain⟨h,z⟩:=oX<|w.drew.setRow g f;have A:h.heap[g]?=fh (.cells f 96 (0,0)):=by rw[z];exact KX w.drew g _ _ 96 _ m
 have am:∀B,(Builtin.clear_ #[55] B #[my g ((n-1)*3) 1<|c-(n-1)]).run prog h=.ok (fC #[]) (h.setRow g (f.toList.take ((n-1)*3)++pB (kq,0,0)++f.toList.drop ((n-1)*3+3)).toArray):=
  λB=>SN h B g (n-1) _ f A (by rw[y];omega)
 have i:fe (h=w.drew.setRow g f):=z;have F:fe (f=(a.toList.take (k*3)++Y++a.toList.drop (k*3+fv Y)).toArray):=v;have S:fe (Y=flat (es.drop<|k+1)):=l;have G:fe (fv Y=(n-(k+1))*3):=o;have T:fe (w.heap[g]?=fh (.cells a 96 (0,0))):=m;have V:fe (h.heap[g]?=fh (.cells f 96 (0,0))):=A;have W:fe (k*3+fv Y<=a.size):=E;have X:fe (a.toList.take (n*3)=flat es):=r;have Z:fe (f.size=c*3):=y;have aa:fe (a.size=c*3):=j;have ab:fe (fv es=n):=q;have c3:(0:Int)<=↑k+1:=by omega
 have c4:(↑k+1:Int)<=↑n:=by omega
 clear z v l o m A E r y j C q;go_enter func194,ntmps194;go_wp2_with fail
 go_region_law(refine El fX (.tmp 22) (.tmp 25) 55 fX 96 N 3 underlying55 U O g k c a (by simp[Act.eval,Act.put]) T p (n-(k+1)) (c-(k+1)) Y (by simp[Act.eval,Act.put]) G P R (by omega) W ?_;rw[<-F.o,<-i.o])
 all_goals
  have H:k+(n-(k+1))=n-1:=by omega
  have d1:((n-1:Nat):Int)<=(n:Int):=by omega
  have d2:n-(n-1)=1:=by omega
  have d3:¬c=n-1:=by omega
  have d4:(0:Int)<=((n-1:Nat):Int):=by omega
  have d5:(n:Int)<=(c:Int):=by omega
  simp only[H];clear H;go_wp2;go_ret;have I:=Z.o;have j:=aa.o;have an:=ab.o;have K:fv (f.toList.take<|(n-1)*3)=(n-1)*3:=by rw[kT,pq,I];omega
  refine⟨fX,_,KX h g _ _ 96 _ V,?_,?_,?_,?_⟩;simp only[BZ,lI,K,rL,pq,I,jg];omega;rw[Ec K,F.o];have ac:a.toList.take (k*3)=flat (es.take k):=by
   rw[zU es k<|by omega,<-X.o,List.take_take,HP<|by omega]
  have ad:fv (a.toList.take (k*3)++Y)=(n-1)*3:=by
   rw[lI,G.o,kT,pq,j];omega
  show List.take ((n-1)*3) (a.toList.take (k*3)++Y++a.toList.drop (k*3+fv Y))=_;rw[Ec ad,ac,S.o,<-nR,List.eraseIdx_eq_take_drop_succ];refine⟨by rw[i.o];rfl,by rw[i.o];rfl,by rw[i.o];rfl,by rw[i.o];simp,λx ao ae=>?_⟩;have L:x≠g:=λe=>ae (by rw[e])
  rw[EJ h g x _ L,i.o,EJ w.drew g x _ L];rfl;rw[i.o];simp
def LI:(prog.info? 96).map (·.size)=fh 3:=by kernel_rfl
def xD (w J:fq)(own:Option Nat)(n:Nat)(es:List fV)(e:Ending):Prop:=
 ∃g c,e=fF (fy (fh ⟨g,0,fj⟩) (n+1) c)/\J.ownsRow 0 96 3 (fy (fh ⟨g,0,fj⟩) (n+1) c) (n+1) (flat es)/\w.grownBy J own/\((fh g:Option Nat)=own\/w.heap.size<=g)
theorem Yd(g n c k i:Nat)(es:List fV)(x:fV)(b:Array fu)(w:fq)(p:w.heap[g]?=fh (.cells b 96 (0,0)))(C:fv es=n)(an:k<n)(W:n+1<=c)(X:c<=maxLen)(j:b.size=c*3)(D:b.toList.take (n*3)=flat es)
  (q:w.heap[i]?=fh (.cells #[hZ x.1,fY x.2.1,fY x.2.2] 96 (0,0)))(O:i≠g):
  ik 193 #[my g 0 n c,fY (k:Int),my i 0 1 1] w λe J=>xD w J (fh g) n (es.take k++x::es.drop k) e:=by
 unfold maxLen at X;have Q:∀l E,(flat es)[l]?=fh E->w.c g l=fh E:=λl E u=>by
  rw[<-D,hPa]at u;split at u;simp[World.cell?,p];simpa using u;cases u
 obtain⟨d,r⟩:=oX<|flat (es.drop k);have z:fv d=(n-k)*3:=by rw[r,ly,rL,C]
 have Y:∀F G,(callFunc 219 #[my i 0 1 1,my g ((k+1)*3) F G]).run prog w=.ok (.value<|fE fo) w:=λF G=>by
  rw[run_callFunc_extern func219 (by kernel_rfl) (by kernel_rfl) (by kernel_rfl) (e:=Extern.SlicesOverlaps.overlaps #[55,55] #[4])<|by kernel_rfl,
   Lib.run_overlaps_apart w 55 4 96 underlying55 3 (λw=>sizeOf34 w) (ie i 0) (ie g<|(k+1)*3) 1 1 F G O 96 96 3 b.size (by simp[World.shape?,q]) (by simp[World.shape?,p]) (by rw[j];omega) (by simp[World.frozen?,q]) (by simp[World.frozen?,q])]
  rfl
 obtain⟨a,A⟩:=oX ((b.toList.take ((k+1)*3)++d++b.toList.drop ((k+1)*3+fv d)).toArray:Array fu);have H:a.size=c*3:=by
  rw[A];simp only[BZ,lI,kT,rL,pq];omega
 obtain⟨h,s⟩:=oX<|w.drew.setRow g a;have I:h.heap[g]?=fh (.cells a 96 (0,0)):=by rw[s];exact KX w.drew g _ _ 96 _ p
 have K:Nat.min (n+1-k) (n-k)=n-k:=by simp only[Nat.min_def];split<;>omega
 have Z:∀m o L,(Builtin.copy_ #[55,55] m #[my g ((k+1)*3) (n-k) o,my g (k*3) (n+1-k) L]).run prog w.drew=.ok (goInt ((n-k:Nat):Int)) h:=λm o L=>by
  have:=qZ (P:=prog) w.drew 55 55 m 96 3 g ((k+1)*3) (n-k) o (ie g<|k*3) (n+1-k) L b 96 d underlying55 LI p (by rw[K];exact z)
   (λl v f=>by rw[Ru];show w.cell? _=_;apply Q _ _;rw[r,zV es k<|by omega,Wq]at f;exact f) (by rw[z,j];omega) (by rw[r];exact mH _)
  rw[K]at this;rw[this,s,A]
 have B:h.heap[i]?=fh (.cells #[hZ x.1,fY x.2.1,fY x.2.2] 96 (0,0)):=by rw[s,EJ w.drew g i _ O];exact q
 obtain⟨M,N⟩:=oX ((a.toList.take (k*3)++pB x++a.toList.drop (k*3+fv (pB x))).toArray:Array fu);have aa:∀m o,(Builtin.copy_ #[55,55] m #[my g (k*3) (n+1-k) o,my i 0 1 1]).run prog h=.ok (goInt ((1:Nat):Int)) (h.setRow g M):=λm o=>by
  have R:Nat.min 1 (n+1-k)=1:=by simp only[Nat.min_def];split<;>omega
  have:=qZ (P:=prog) h 55 55 m 96 3 g (k*3) (n+1-k) o (ie i 0) 1 1 a 96 (pB x) underlying55 LI I (by rw[R];rfl)
   (λl v f=>by rw[Ru];match l,f with
    |0,f=>simpa [World.cell?,B,pB]using f
    |1,f=>simpa [World.cell?,B,pB]using f
    |2,f=>simpa [World.cell?,B,pB]using f
    |l+3,f=>simp[pB]at f) (by rw[jg,H];omega) (se x)
  rw[R]at this;rw[this,N]
 have ao:¬((k:Int)=(n:Int)):=by omega
 have ap:IntKind.i64.wrap ((k:Int)+1)=(k:Int)+1:=by rw[zv];omega
 have aq:(0:Int)<=(k:Int)+1:=by omega
 have ar:(k:Int)+1<=(n:Int)+1:=by omega
 have au:(k:Int)<=(n:Int)+1:=by omega
 have av:¬c=k+1:=by omega
 have aw:¬c=k:=by omega
 have ax:((k:Int)+1).toNat=k+1:=by omega
 have t:fe (h=w.drew.setRow g a):=s;have S:fe (a=(b.toList.take ((k+1)*3)++d++b.toList.drop ((k+1)*3+fv d)).toArray):=A;have T:fe (M=(a.toList.take (k*3)++pB x++a.toList.drop (k*3+fv (pB x))).toArray):=N;have ab:fe (d=flat (es.drop k)):=r;have ac:fe (fv d=(n-k)*3):=z;have ad:fe (h.heap[g]?=fh (.cells a 96 (0,0))):=I;have ae:fe (b.toList.take (n*3)=flat es):=D;have af:fe (a.size=c*3):=H;have ag:fe (b.size=c*3):=j;have ah:fe (fv es=n):=C;clear s A N r z I D H j Q C B K q p;go_enter func193,ntmps193;go_wp2_with(simp only[Y])
 go_region_law(apply Ir fX _ _ 55 55 fX _ _ (by simp[Act.eval,Act.put]) (by simp[Act.eval,Act.put]) (Z _ _ _))
 all_goals
  go_wp2_with(at_builtin;apply OO _ fX _ _ 55 55 fX _ _ fX rfl<|aa _ _);go_ret;have U:=af.o;have j:=ag.o;have ay:=ah.o;have ai:fv (a.toList.take<|k*3)=k*3:=by rw[kT,pq,U];omega
  refine⟨g,c,fX,⟨by rw[ly];simp;omega,.inr ⟨g,c,M,fX,Fr _,KX h g _ _ 96 _ ad,W,by unfold maxLen;omega,?_,?_⟩⟩,?_,.inl fX⟩;rw[T.o];simp only[BZ,lI,ai,rL,pq,U,jg];omega;rw[T.o];show List.take ((n+1)*3) (a.toList.take (k*3)++pB x++a.toList.drop (k*3+fv (pB x)))=_;have aj:a.toList.take (k*3)=flat (es.take k):=by
   rw[S.o];show List.take (k*3) (b.toList.take ((k+1)*3)++d++b.toList.drop ((k+1)*3+fv d))=_;rw[sP,scc (by rw[kT,pq,j];omega),List.take_take,HP<|by omega,zU es k<|by omega,<-ae.o,List.take_take,HP<|by omega]
  have ak:(a.toList.drop<|k*3+fv (pB x)).take ((n-k)*3)=flat (es.drop k):=by
   rw[S.o];show List.take ((n-k)*3) (List.drop (k*3+fv (pB x))<|b.toList.take ((k+1)*3)++d++b.toList.drop ((k+1)*3+fv d))=_;have al:fv (b.toList.take<|(k+1)*3)=(k+1)*3:=by rw[kT,pq,j];omega
   rw[show k*3+fv (pB x)=(k+1)*3 by rw[jg];omega,sP,cse al,Ec ac.o,ab.o]
  rw[aj,nR,show flat (x::es.drop k)=pB x++flat (es.drop k)from fX,<-sP,List.take_append,oM (by rw[lI,ly,jg,kT];omega)]
  congr 1
  rw[show(n+1)*3-fv (flat (es.take k)++pB x)=(n-k)*3 by rw[lI,ly,jg,kT];omega];exact ak;refine⟨by rw[t.o];rfl,by rw[t.o];rfl,by rw[t.o];rfl,by rw[t.o];simp,λy az am=>?_⟩;have V:y≠g:=λe=>am (by rw[e])
  rw[EJ h g y _ V,t.o,EJ w.drew g y _ V];rfl
theorem kEx(v:fu)(n d:Nat)(es)(x:fV)(w:fq)(f:iD)(c)(A:v=fy f n c)(l:w.ownsRow 0 96 3 v n (flat es))(E:fv es=n)(F:n<=16)
  (i:w.heap[d]?=fh (.cells #[hZ x.1,fY x.2.1,fY x.2.2] 96 (0,0)))(G:n<=c)(H:c<=maxLen):
  ik 193 #[fy f n c,fY (n:Int),my d 0 1 1] w λe J=>xD w J (Value.slice f n c).ownBlock n (es++[x]) e:=by
 subst A;have⟨m,U,o,p,q⟩:=kM Ck;have r:fe (w.ownsRow 0 96 3 (fy f n c) n<|flat es):=l;have s:∀b h,(pB x)[b]?=fh h->w.cell? (((ie d 0):Addr).add b)=fh h:=λb h a=>by
  rw[Ru]
  match b,a with
  |0,a=>simpa [World.cell?,i,pB]using a
  |1,a=>simpa [World.cell?,i,pB]using a
  |2,a=>simpa [World.cell?,i,pB]using a
  |b+3,a=>simp[pB]at a
 have t:fe (∀b h,(pB x)[b]?=fh h->w.cell? (((ie d 0):Addr).add b)=fh h):=s;clear l s i;by_cases B:c=n
 case' pos=>
  subst B;go_enter func193,ntmps193;go_wp2_with(first|(at_builtin;refine clz _ fX (.tmp 23) (.tmp 24) 55 fX 0 96 m _ 3 32 underlying55 U o p q fX (by decide) (fy f c c) c (flat es) fX r.o (ie d 0) 1 1 (pB x) fX fX t.o (se x) (by unfold maxLen;omega) (by omega) (Fr _) ?_;intro C D j u _ y;obtain⟨g,z,rfl⟩:=hh j<|by omega)|go_in)
 case' neg=>
  go_enter func193,ntmps193;go_wp2_with(first|(at_builtin;refine clz _ fX (.tmp 23) (.tmp 24) 55 fX 0 96 m _ 3 32 underlying55 U o p q fX (by decide) (fy f n c) n (flat es) fX r.o (ie d 0) 1 1 (pB x) fX fX t.o (se x) (by unfold maxLen;omega) (by omega) (Fr _) ?_;intro C D j u _ y;obtain⟨g,z,rfl⟩:=hh j<|by omega)|go_in)
 all_goals
  go_ret;refine⟨g,z,fX,?_,u,?_⟩;rw[nR];exact j;rcases y with k|k
  exact .inl k
  right
  have:g=w.heap.size:=by simpa [Value.ownBlock]using k
  omega
def wp_append_run(w){rest:List Oper}(f:o.guard=fj)(d s:Operand)(t b:ni)
  (g:o.op=.call { callee:=.builtin .append,args:=#[d,s],argTypes:=#[t,b] })(v c:fu)(h:a.eval d=v)(i:a.eval s=c){e:fu}
  (j:(Builtin.append_ #[t,b] o.type #[v,c]).run prog w=.ok e J)(k:wpList prog ops Q rest (a.put o.dst e) J):wpList prog ops Q (o::rest) a w:=by
 refine cpu f λm l=>?_;unfold Oper.wp execOp;simp only[g,resolve,invoke,builtin,hId,hIn,hy2,List.map_toArray,lM,Cf,h,i,j];exact l _ _ k
def xE(m:Nat):(Builtin.zeroCells (Value.agg #[hZ ByteArray.empty,fY 0,fY 0]).cells m).size=m*3:=by
 rw[size_zeroCells];rfl
theorem het(g n k p:Nat)(es:List fV)(x:fV)(I:Array fu)(w:fq)(K:w.heap[g]?=fh (.cells I 96 (0,0)))(L:fv es=n)(aE:k<n)(aF:n<=16)(ao:I.size=n*3)(ab:I.toList.take (n*3)=flat es)
  (M:w.heap[p]?=fh (.cells #[hZ x.1,fY x.2.1,fY x.2.2] 96 (0,0))):
  ik 193 #[my g 0 n n,fY (k:Int),my p 0 1 1] w λe J=>xD w J (fh g) n (es.take k++x::es.drop k) e:=by
 have⟨ac,U,ad,ae,N⟩:=kM Ck;have ap:g<w.heap.size:=(lH.1 K).1;have aq:p<w.heap.size:=(lH.1 M).1;have O:∀j Q,(flat es)[j]?=fh Q->w.c g j=fh Q:=λj Q C=>by
  rw[<-ab,hPa]at C;split at C;simp[World.cell?,K];simpa using C;cases C
 have hold:(Builtin.firstCells ac.size k<|my g 0 k n).run prog w.drew=.ok (flat<|es.take k).toArray w.drew:=by
  rw[ae];exact run_firstCells_some w.drew 3 k (ie g 0) k n (flat<|es.take k) (by rw[ly,kT];omega) (λj v c=>by
   rw[Ru,iR];rw[zU es k<|by omega,hPa]at c;split at c;exact O j v c;cases c)
 obtain⟨f,D⟩:=oX<|grownCap w (n+1) n 96;have ar:n+1<=f:=by rw[D];exact grownCap_ge w _ _ _
 have R:f<=maxLen:=by rw[D];exact grownCap_le_maxLen w (n+1) n 96 (by unfold maxLen;omega)
 obtain⟨m,E⟩:=oX ((flat<|es.take k).toArray++Builtin.zeroCells (Value.agg #[hZ ByteArray.empty,fY 0,fY 0]).cells (n+1-k)++Builtin.zeroCells (Value.agg #[hZ ByteArray.empty,fY 0,fY 0]).cells (f-(n+1)):Array fu);have S:m.size=f*3:=by
  rw[E,Array.size_append,Array.size_append,xE,xE,BZ,ly,kT];omega
 have af:m.toList.take (k*3)=flat (es.take k):=by
  rw[E,Array.append_assoc,Array.toList_append];show List.take (k*3) (flat (es.take k)++_)=_;rw[Ec (by rw[ly,kT];omega)]
 obtain⟨h,q⟩:=oX<|w.drew.alloc (.cells m 96);have au:∀i,(Builtin.append_ #[55,3] i #[my g 0 k n,fY<|(n:Int)+1-(k:Int)]).run prog w=.ok (my w.heap.size 0 (n+1) f) h:=λi=>by
  have ag:k+(n+1-k)=n+1:=by omega
  have ah:=Lib.run_append_grow_zeros w 55 3 i 96 ac _ .i64 .i64 underlying55 underlying3 U ad (fh<|ie g 0) k n (flat<|es.take k) hold (n+1-k) (by omega) (by omega) (by omega) (by omega) (by rw[N];omega) (by rw[N,ag];exact growslice_fits (by omega)<|by omega);rw[ag]at ah;rw[show(n:Int)+1-(k:Int)=((n+1-k:Nat):Int) by omega,ah,q,E,D]
 have T:h.heap[w.heap.size]?=fh (.cells m 96 (0,0)):=by rw[q];exact Array.getElem?_push_size
 have V:∀b,b<w.heap.size->h.heap[b]?=w.heap[b]?:=λb av=>by rw[q];exact sK _ _ _ av
 have⟨l,F⟩:=oX ((m.toList.take (k*3)++pB x++m.toList.drop (k*3+fv (pB x))).toArray:Array fu);have G:l.size=f*3:=by
  rw[F];simp only[BZ,lI,kT,rL,pq,S,jg];omega
 have⟨d,r⟩:=oX<|h.setRow w.heap.size l;have aw:∀i o,(Builtin.copy_ #[55,55] i #[my w.heap.size (k*3) (n+1-k) o,my p 0 1 1]).run prog h=.ok (goInt ((1:Nat):Int)) d:=λi o=>by
  have s:Nat.min 1 (n+1-k)=1:=by simp only[Nat.min_def];split<;>omega
  have X:=(V p aq).trans M
  have:=qZ (P:=prog) h 55 55 i 96 3 w.heap.size (k*3) (n+1-k) o (ie p 0) 1 1 m 96 (pB x) underlying55 LI T (by rw[s];rfl)
   (λj v c=>by rw[Ru];match j,c with
    |0,c=>simpa [World.cell?,X,pB]using c
    |1,c=>simpa [World.cell?,X,pB]using c
    |2,c=>simpa [World.cell?,X,pB]using c
    |j+3,c=>simp[pB]at c) (by rw[jg,S];omega) (se x)
  rw[s]at this;rw[this,r,F]
 have Y:d.heap[w.heap.size]?=fh (.cells l 96 (0,0)):=by rw[r];exact KX h _ _ _ 96 _ T
 have⟨H,t⟩:=oX<|flat (es.drop k);have u:fv H=(n-k)*3:=by rw[t,ly,rL,L]
 obtain⟨z,Z⟩:=oX ((l.toList.take ((k+1)*3)++H++l.toList.drop ((k+1)*3+fv H)).toArray:Array fu);have ax:∀i o aa,(Builtin.copy_ #[55,55] i #[my w.heap.size ((k+1)*3) (n-k) o,my g (k*3) (n-k) aa]).run prog d.drew=.ok (goInt ((n-k:Nat):Int)) (d.drew.setRow w.heap.size z):=λi o aa=>by
  have s:Nat.min (n-k) (n-k)=n-k:=Nat.min_self _;have ay:d.heap[g]?=w.heap[g]?:=by rw[r,EJ h _ g _<|by omega,V g ap]
  have:=qZ (P:=prog) d.drew 55 55 i 96 3 w.heap.size ((k+1)*3) (n-k) o (ie g<|k*3) (n-k) aa l 96 H underlying55 LI Y (by rw[s];exact u)
   (λj v c=>by
    rw[Ru];show d.cell? _=_;rw[wJ (a:=(ie g<|k*3+j)) ay];apply O _ _;rw[t,zV es k<|by omega,Wq]at c;exact c) (by rw[u,G];omega) (by rw[t];exact mH _)
  rw[s]at this;rw[this,Z]
 have ai:z.size=f*3/\z.toList.take ((n+1)*3)=flat (es.take k++x::es.drop k):=by
  have aj:fv (l.toList.take<|(k+1)*3)=(k+1)*3:=by rw[kT,pq,G];omega
  have az:l.toList.take ((k+1)*3)=flat (es.take k)++pB x:=by
   rw[F];rw[af,Ec (by rw[lI,ly,jg,kT];omega)]
  rw[Z];refine⟨by simp only[BZ,lI,aj,rL,pq,G,u];omega,?_⟩;rw[Ec (by rw[lI,aj,u];omega),az,t,nR,sP];rfl
 have aG:IntKind.i64.wrap ((k:Int)+1)=(k:Int)+1:=by rw[zv];omega
 have aH:(0:Int)<=(k:Int)+1:=by omega
 have aI:(k:Int)+1<=(n:Int)+1:=by omega
 have aJ:(k:Int)<=(n:Int)+1:=by omega
 have aK:¬f=k+1:=by omega
 have aL:¬n=k:=by omega
 have aM:k<=n:=by omega
 have aN:f<=9223372036854775807:=by unfold maxLen at R;omega
 have A:fe (h=w.drew.alloc (.cells m 96)):=q;have B:fe (d=h.setRow w.heap.size l):=r;have aA:fe (d.heap[w.heap.size]?=fh (.cells l 96 (0,0))):=Y;have ak:fe _:=ai;have aB:fe (f<=maxLen):=R;have aC:fe (fv es=n):=L;clear q r F Z t u T Y ai E S af hold V D O ab ao G M K R U ad ae N L;go_enter func193,ntmps193;go_wp2_with(first
  |(at_builtin;apply wp_append_run _ fX _ _ _ _ fX _ _ fX rfl<|au _)
  |(at_builtin;apply OO _ fX _ _ 55 55 fX _ _ fX rfl<|aw _ _))
 go_region_law(apply Ir fX _ _ 55 55 fX _ _ (by simp[Act.eval,Act.put]) (by simp[Act.eval,Act.put]) (ax _ _ _))
 all_goals
  go_wp2;go_ret;have aO:=aC.o;have al:∀(W:fq)(am:Array fu),(W.setRow w.heap.size am).heap.size=W.heap.size:=λW am=>by simp
  refine⟨w.heap.size,f,fX,⟨by rw[ly];simp;omega,.inr ⟨w.heap.size,f,z,fX,Fr _,KX d.drew _ _ _ 96 _ aA,ar,aB,ak.1,ak.2⟩⟩,?_,.inr<|lw _⟩;refine⟨by rw[B.o,A.o];rfl,by rw[B.o,A.o];rfl,by rw[B.o,A.o];rfl,by rw[show(d.drew.setRow w.heap.size z).heap.size=d.heap.size from al _ _,B.o,al,A.o];show w.heap.size<=(w.alloc _).heap.size;rw[zu];omega,λy aD aP=>?_⟩;have an:y≠w.heap.size:=by omega
  rw[EJ d.drew _ y _ an];show d.heap[y]?=_;rw[B.o,EJ h _ y _ an,A.o];exact sK w.drew _ _ aD
theorem lax(i:w.ownsRow 0 96 3 v (fv es) (flat es))(m:fv es<=16)(s:k<=fv es){a:Nat}{x:fV}
  (j:w.heap[a]?=fh (.cells #[hZ x.1,fY x.2.1,fY x.2.2] 96 (0,0)))(n:∀g,v.ownBlock=fh g->a≠g):
  ik 193 #[v,fY (k:Int),my a 0 1 1] w λe J=>xD w J v.ownBlock (fv es) (es.take k++x::es.drop k) e:=by
 by_cases o:k=fv es
 ·subst o
  rw[sL,hX1];rcases i.2 with⟨rfl,p⟩|⟨g,c,b,rfl,_,d,q,l,f,h⟩
  all_goals grind [DX,kEx,maxLen]
 rcases i.2 with⟨rfl,p⟩|⟨g,c,b,rfl,_,d,q,l,f,h⟩
 omega;by_cases r:fv es+1<=c;exact Yd g (fv es) c k a es x b w d fX (by omega) r l f h j<|n g fX;obtain rfl:c=fv es:=by omega
 exact het g (fv es) k a es x b w d fX (by omega) m f h j
theorem jT.store(a:jT w b n f)(c:Good q)(d:n<maxLen){t e:ni}(g:prog.underlying t=fh (.map 147 e))(val):
  ∃J,(Instr.mapUpdate t (.map<|fh b) (fD<|jn q) val).run prog w=.ok () J/\jT J b (n+1) (upd f q<|fh val)/\w.grownBy J (fh b)/\J.heap.size=w.heap.size:=by
 obtain⟨m,h,_⟩:=a;have⟨J,i,j,k,l⟩:=h.store yT g d (Bu c) (val:=val);refine⟨J,i,⟨_,j,λp o=>?_,λr s u=>?_⟩,k,l⟩
 ·by_cases e:p=q
  all_goals grind [nG,upd_same,jQ,uK,kh]
 grind [qm,jQ]
theorem jT.drop(c:jT w b n f)(d:Good q){t e:ni}(g:prog.underlying t=fh (.map 147 e))(a:ni):
  ∃J,(Builtin.delete_ #[t,147] a #[.map<|fh b,fD<|jn q]).run prog w=.ok (fC #[]) J/\jT J b n (upd f q fj)/\w.grownBy J (fh b)/\J.heap.size=w.heap.size:=by
 obtain⟨m,h,_⟩:=c;have⟨J,i,j,k,l⟩:=h.drop yT g (Bu d) a;refine⟨J,i,⟨_,j,λp o=>?_,λr s u=>?_⟩,k,l⟩
 ·by_cases e:p=q
  all_goals grind [nG,upd_same,jQ,uK,kh]
 grind [qm,jQ]
theorem jT.congr{f a:fQ->Option fu}(d:jT w b n f)(e:∀p,Good p->f p=a p):jT w b n a:=by
 have⟨g,h,i,j⟩:=d;exact⟨g,h,λp c=>(i p c).trans<|e p c,j⟩
theorem jT.isMap(a:jT w b n f):∃es c,w.heap[b]?=fh (.map es c):=by
 have⟨e,d,_⟩:=a;exact d.isMap
structure oU (gI:List Ob)(es:List fV):Prop where
 rising:fP es
 len:es.length<=16
 ok:∀e∈es,fN e.1=true/\oW gI e
theorem oT.Bz{t}{E:Array MapEntry}{f}(a:oT T w t v es)(g:w.heap[b]?=fh (.map E f))(h:w.grownBy J (fh b)):oT T J t v es:=
 a.keep λc d i=>⟨h.block c i (λe=>by
  have j:c=b:=by injection e
  rw[j]at d
  exact rv a.1 g d.symm),fX⟩
theorem gD.store{od:fQ->Option (List fV)}(b:gD T w i B od I O)(h:Good q)(t:I<maxLen)(u:oT T w (i,5) v es)(c:oU A es)
  (H:∀f x d,f≠q->od f=fh x->(O f).ownBlock=fh d->v.ownBlock≠fh d):
  ∃J,(Instr.mapUpdate 162 (.map<|fh B.oD) (fD<|jn q) v).run prog w=.ok () J/\w.grownBy J (fh B.oD)/\J.heap.size=w.heap.size/\gD T J i B (upd od q<|fh es) (I+1) (upd O q v):=by
 obtain⟨n,y,j⟩:=b.map;have⟨J,z,C,g,D⟩:=j.store h (hPQ y t) underlying162 v;have⟨E,K,k⟩:=j.isMap;refine⟨J,z,g,D,⟨b.tag,⟨n+1,by omega,C.congr λp a=>?_⟩,λp fs a=>?_,λp fs a=>?_,λp l fs F d a m o r=>?_⟩⟩
 ·by_cases e:p=q
  all_goals grind [upd_same,kh]
 by_cases e:p=q;subst e;rw[upd_same]at a;cases a;exact⟨h,c.rising,c.len,λe s=>⟨(c.ok e s).1,(c.ok e s).2.1⟩⟩;rw[kh e]at a;exact b.good p fs a;by_cases e:p=q;subst e;rw[upd_same]at a |-;cases a;exact u.Bz k g;rw[kh e]at a |-;exact(b.row p fs a).Bz k g;by_cases e:p=q
 grind [upd_same,kh,absurd]
 by_cases G:l=q
 grind [upd_same,kh,absurd]
 rw[kh e]at a o;rw[kh G]at m r;exact b.inj p l fs F d a m o r
theorem fZ.od{c:fQ->Option (List fV)}{f:fQ->fu}(d:fZ T w s i p B A g I)(m:fI (λt=>t=(i,5)) T M w J)(b:I<=jW)(h:gD M J i B c jW f)(j:∀q es,c q=fh es->∀e∈es,oW A e):
  fZ M J s i p B A { g with ft:={ g.ft with od:=c } } jW:=by
 have a:=d.wp;refine⟨d.two,(d.st.moves m (λe=>by cases e) λe=>by cases e).mono b,⟨a.tree.moves m (λe=>by cases e),(a.nP.moves m λe=>by cases e).mono b,(a.nQ.moves m λe=>by cases e).mono b,(a.uf.moves m λe=>by cases e).mono b,⟨f,h⟩,a.files.moves m (λe=>by cases e),a.held,a.opens.moves m (λe=>by cases e) (λe=>by cases e),⟨a.ok.root,j⟩⟩⟩
theorem Ey{od:fQ->Option (List fV)}(b:gD T w i B od I O)(c:Good q)(d:ju w W):
  (Instr.lookup 162 (.map<|fh B.oD) (fD<|jn q) fm).run prog W=.ok (fC #[((od q).map λ_=>O q).getD<|fy fj 0 0,fE (od q).isSome]) W:=by
 have⟨n,_,e,a,_⟩:=b.map
 have:=(a.keep (J:=W)<|d.block _ a.lt).look_ok yT underlying162 (CC W)<|Bu c
 grind
theorem JO(t m:Nat)(H a b c Z)(v:fu)(w:fq)(e:t<w.heap.size)(f:w.c t 8=fh (.map<|fh m))
  (d:∀W,ju w W->(Instr.lookup 162 (.map<|fh m) (fD<|ml H a b c Z) fm).run prog W=.ok (fC #[v,fE fm]) W):
  ik 192 #[ii t,fD<|ml H a b c Z] w (vd v w):=by
 have g:=d _<|io ((mi w.heap.size w).alloc (lw _)<|.cells (ml H a b c Z) 147);clear d;go_enter func192,ntmps192;go_wp2
 go_region
 all_goals
  go_wp2;go_ret;exact⟨fX,io<|(mi _ _).alloc (lw _) _⟩
theorem vR(d:w.ownsRow 0 96 3 v (fv es) (flat es))(k:fv es<=16):
  ik 170 #[v] w λe J=>∃a,e=fF a/\J.ownsRow 0 96 3 a (fv es) (flat es)/\(∀b,a.ownBlock=fh b->w.heap.size<=b)/\ju w J:=by
 rcases d.2 with⟨rfl,h⟩|⟨g,c,l,rfl,_,m,n,o,p,q⟩
 have i:=DX.1 h;subst i;refine(Era Rw 0 0 w).mono ?_
 grind [Value.ownBlock,mi]
 refine(EU g 0 (fv es) c es w fX (by omega)<|ks d).mono ?_;rintro e J ⟨a,rfl,f,_,j⟩;refine⟨a,fX,yu f,λb r=>?_,j⟩;rcases f.2 with⟨e,_⟩|⟨s,_⟩
 all_goals grind [Value.ownBlock]
theorem Ye(c:Sound A)(g:aaG A ft)(h:∀p es,ft.od p=fh es->fP es/\fv es<=16)(i:∀p es,ft.od p=fh es->∀e∈es,fN e.1=fm)(fs)(a):oU A (gu A ft fs a).2.2:=by
 obtain⟨f1,j,k,l⟩:=zT c g h fs a;refine⟨k,l,λe b=>⟨?_,j e b⟩⟩
 revert e
 unfold gu;by_cases d:(findF A ft fs a).2.1≠0
 grind
 simp only[km d];unfold mB;by_cases f:(findF A ft fs a).2.2.2.1≠2
 ·all_goals grind
 rw[km f];by_cases hid:(findF A ft fs a).2.2.2.2=0;rw[lv hid];rcases m:ft.od (fx a) with _|es
 simp;exact λe b=>i _ es m e b
 rw[km hid];by_cases n:((findF A ft fs a).1.iw (findF A ft fs a).2.2.2.2).2=fm
 ·rw[lv n]
  have⟨o,q,r⟩:=c.2 _<|((f1<|oP.1 d).2 hid).trans (oP.1 f)
  all_goals grind
 grind
theorem fZ.gh{s i p}(a:fZ T w s i p B A g I)(fs)(r):oU A (gu A g.ft fs r).2.2:=by
 have⟨O,b⟩:=a.wp.qo;exact Ye a.st.sound a.wp.ok a.rising (λp es c e d=>((b.good p es c).2.2.2 e d).1) fs r
def pg (T:gC)(v:fu)(t:Nat×Nat):gC:=match v.ownBlock with
 |some b=>kV T b t
 |none=>T
theorem nS(a:v.ownBlock≠fh k)(t):pg T v t k=T k:=by
 unfold pg;rcases c:v.ownBlock with _|b
 rfl;exact xt (λe=>a (by rw[c,e])) _
def vS(a:v.ownBlock=fh k)(t):pg T v t k=t:=by
 unfold pg;rw[a];exact nu _ _ _
theorem qF.zg(U:2<=i)(s:qF T w i p B A g I)(u:∀k,(T k).1≠0->M k=T k):qF M w i p B A g I:=by
 have e:∀{b:Nat}{t:Nat},T b=(i,t)->M b=(i,t):=λ{b t}x=>(u b (by grind)).trans x;have m:∀{t:Nat}{v:fu}{es:List fV},oT T w (i,t) v es->oT M w (i,t) v es:=λo=>⟨o.1,λy z=>e<|o.2 y z⟩;have⟨h,hF,C,D,⟨O,j⟩,E,held,l,F⟩:=s;refine⟨⟨e h.tt,e h.tF,e h.tD,h.ht,h.hF,h.hD⟩,?_,?_,?_,⟨O,e j.tag,j.map,j.good,λq es G=>m<|j.row q es G,j.inj⟩,?_,held,⟨e l.tw,l.hw,l.past,?_,l.inj⟩,F⟩;have⟨a,b⟩:=hF;exact⟨e a,b⟩;have⟨a,n,H,J,K,L,N,r⟩:=C;exact⟨e a,n,H,J,K,L,N,λid hid=>⟨(r id hid).1,m (r id hid).2⟩⟩;have⟨a,b⟩:=D;exact⟨e a,b⟩;intro f id d P;have⟨a,b⟩:=E f id d P;exact⟨e a,b⟩;intro k b f fg Q R;have⟨a,c⟩:=l.at_ k b f fg Q R;exact⟨e a,c⟩
theorem gD.zg{od:fQ->Option (List fV)}(U:2<=i)(a:gD T w i B od I O)(e:∀k,(T k).1≠0->M k=T k):gD M w i B od I O:=by
 have c:∀{b:Nat}{t:Nat},T b=(i,t)->M b=(i,t):=λ{b t}f=>(e b (by grind)).trans f;exact⟨c a.tag,a.map,a.good,λq es d=>⟨(a.row q es d).1,λg h=>c<|(a.row q es d).2 g h⟩,a.inj⟩
def fZ.zg(a:fZ T w s i p B A g I)(c:lD M w)(b:∀k,(T k).1≠0->M k=T k):fZ M w s i p B A g I:=
 ⟨a.two,a.st.zg c λk d=>b k (by rw[d];decide),a.wp.zg a.two b⟩
theorem LJ(j:fZ T w s i p B A g I)(y:gD T w i B g.ft.od I O)(R:I<maxLen)(S:Good q)(b:ju w W)(z:W.ownsRow 0 96 3 v (fv es) (flat es))(C:∀a,v.ownBlock=fh a->w.heap.size<=a)(D:oU A es):
  ∃J M,(Instr.mapUpdate 162 (.map<|fh B.oD) (fD<|jn q) v).run prog W=.ok () J/\W.grownBy J (fh B.oD)/\J.heap.size=W.heap.size/\B.oD<w.heap.size/\fI (Mine i) T M w J/\
   fZ M J s i p B A { g with ft:={ g.ft with od:=upd g.ft.od q (fh es) } } (I+1)/\gD M J i B (upd g.ft.od q<|fh es) (I+1) (upd O q v)/\∀a,v.ownBlock=fh a->J.heap[a]?=W.heap[a]?:=by
 have E:=j.below b;have r:=y.moves (fI.fK (P:=λ_=>False) b) λx=>x;have F:∀a,v.ownBlock=fh a->a<W.heap.size:=λa c=>gc z c;have G:∀a,v.ownBlock=fh a->T a=(0,0):=λa c=>j.st.fresh a<|C a c;have l:∀k,(T k).1≠0->pg T v (i,5) k=T k:=λk l=>nS (λe=>l (by rw[G k e])) _;have H:lD (pg T v (i,5)) W:=λk n=>by
  rw[nS (λe=>by have:=F k e;omega)];exact E.st.fresh k n
 have K:=r.zg j.two l;have U:oT (pg T v (i,5)) W (i,5) v es:=⟨z,λa c=>vS c _⟩;have⟨J,V,u,L,N⟩:=K.store (A:=A) S R U D (λd f a _ o X Y=>by
  have Q:=(r.row d f o).2 a X;rw[G a Y]at Q;cases Q)
 have m:fI (λt=>t=(i,5)) (pg T v (i,5)) (pg T v (i,5)) W J:=WP u L K.tag;have⟨ae,_,Z⟩:=r.map;have⟨af,_⟩:=Z.isMap;have⟨ag,_,aa⟩:=y.map;refine⟨J,pg T v (i,5),V,u,L,aa.lt,?_,(E.zg H l).od m (Ha _) N λd f o=>?_,N,λa c=>?_⟩;have ab:fI (Mine i) T (pg T v (i,5)) w W:=⟨b.os,b.tape,b.output,b.size,λk n=>nS (λe=>by have:=C k e;omega) _,λk n _=>b.block k n,λ_=>H⟩;exact ab.trans (m.mono λt ac=>.inr (by rw[ac]));by_cases e:d=q;subst e;have h:upd g.ft.od d (fh es) d=fh f:=o;rw[upd_same]at h;cases h;exact λe ad=>(D.ok e ad).2;have h:upd g.ft.od q (fh es) d=fh f:=o;rw[kh e]at h;exact j.wp.ok.od d f h;refine u.block a (F a c) λe=>?_
 grind [rv]
