/- A part of the proof. -/
import Derived.Test.YtlgidcmmgohagaaGreatAllM04
set_option linter.all false
namespace Go.Proofs.YtlgidcmmgohagaaGreat
open Go.RowKit Go.Sort Go.Shelf Go.Proofs.Tryz
open Go.Value renaming slice->fy,string->fA,pointer->fB,tuple->fC,agg->fD,bool->fE
open Go.Ending renaming returned->fF
open Option renaming some->fh,none->fj
open Bool renaming true->fm,false->fo
open Go renaming World->fq,Value->fu
open List renaming length->fv,reverse->fx
open Go.RowKit renaming Hid->fe
set_option maxRecDepth 100000
set_option maxHeartbeats 0
variable {F E Sg I Sh b6 Si:Nat->Prop}{C N W b c ec g i j m n q z:Nat}{Y:List fV}{xs:gX}{w J w1 w2 w3:fq}{d:fO}{u v:fu}{ea la:iD}{e:fV}{M:Int}{A H O Z:List Ob}{t:ni}
variable {ft:PTp}{E I b6 F FH:Nat->Prop}{w J wr w0:fq}{W s r z ec q k c m i n h:Nat}{A O H Z:List Ob}{c5 c6 c7 c8 c9 R c11:fu}{t tl T tt:ni}{ea la a:iD}{NS:Option Nat}{cs:Array fu}{ys:gX}{ops:Array Oper}{rest:List Oper}{o:Oper}{act:Act}{Q:Exit->Act->fq->Prop}{x y:Operand}
def Jv{p:Prop}(a:fe p):p:=a
def Bd:fV:=(ByteArray.empty,-77,0)
def Vp:(prog.info? 96).map (λi=>(i.zero,i.size,i.bytes))=fh (fh<|fD #[hZ ByteArray.empty,fY 0,fY 0],3,32):=by kernel_rfl
theorem Vq:(prog.info? 96).map (·.size)=fh 3:=by kernel_rfl
theorem ab9(pre:gX)(a b c:fu):∀(rest:gX),3<=fv rest->(((pre++rest).set (fv pre) a).set (fv pre+1) b).set (fv pre+2) c=pre++[a,b,c]++rest.drop 3
 |[],h=>by simp at h
 |[_],h=>by simp at h
 |[_,_],h=>by simp at h
 |d::e::f::g,_=>by
  all_goals simp_all
theorem Len{b}{a:List fV}{rest:gX}(d:w.ownsRow b t 3 (my g 0 N C) N (flat a++rest))(f:fv a=n)(h:3<=fv rest)(e:fV):
  (((w.setCell (ie g<|n*3)<|hZ e.1).setCell (ie g<|n*3+1)<|fY e.2.1).setCell (ie g<|n*3+2)<|fY e.2.2).ownsRow b t 3 (my g 0 N C) N (flat (a++[e])++rest.drop 3):=by
 have i:=(((d.stored (n*3)<|hZ e.1).1).stored (n*3+1)<|fY e.2.1).1;have j:=(i.stored (n*3+2)<|fY e.2.2).1;have k:fv (flat a)=n*3:=by rw[ly,f]
 have c:=ab9 (flat a) (hZ e.1) (fY e.2.1) (fY e.2.2) rest h;rw[k]at c;rw[c]at j;rwa [ra,tz]
theorem Xn(b off m c0:Nat)(a:List fV)(w:fq)(c:fv a=m)(H:b<w.heap.size)(W:(m+3)*32<=140737488355328)(x:∀j u,(flat a)[j]?=fh u->w.cell? (ie b<|off+j)=fh u):
  ik 81 #[my b off m c0] w λe J=>∃g,e=fF (my g 0 (m+3)<|m+3)/\J.ownsRow w.heap.size 96 3 (my g 0 (m+3)<|m+3) (m+3) (flat<|a++List.replicate 3 Bd)/\ju w J:=by
 have⟨I,U,K,L,M⟩:=kM Vp
 change fe _ at x c
 go_enter func81,ntmps81;go_wp2_with(at_make;refine hBw _ fX _ _ 55 fX 0 96 I _ 3 underlying55 U K L .i64 .i64 _ _ (m+3) fX fX fX fX ?_ ?_ (Fr _) ?_;go_must(rw[M];omega);go_must(unfold maxLen;omega);intro w3 y z;have⟨d,A,q⟩:=EZ y;have l:=pz (mi w.heap.size w) z;apply Jv);refine(show fe _ from(?_:wpList _ _ _ _ _ _));clear y z;have c1:fe (fv (flat a)=Nat.min m (m+3)*3):=Hc<|by rw[ly,c.o,show Nat.min m (m+3)=m from HP (by omega)]
 have c2:fe (∀j v,(flat a)[j]?=fh v->w3.cell? (((ie b off):Addr).add j)=fh v):=λj v N=>by rw[qg,l.o.cell (p:=(ie b<|off+j)) H];exact x j v N
 have c3:fe (0+fv (flat a)<=d.size):=by show _<=_;rw[ly,c.o,q.o];omega
 have c4:fe ((flat a++d.toList.drop (m*3)).toArray.toList=d.toList.take 0++flat a++d.toList.drop (0+fv (flat a))):=Hc<|by rw[ly,c.o];simp
 go_wp2_with(apply vB fX (.tmp 9) (.tmp 10) 55 55 fX 96 underlying55 3 Vq w.heap.size 0 (m+3) (m+3) (ie b off) m c0 fX fX d 96 A.o (flat a) c1 c2 c3.o (mH a) (flat a++d.toList.drop (m*3)).toArray c4;intro r B C);have O:ju w r:=l.grown C l.o.size (λk P=>by cases P;exact lw _);have f:fv (d.toList.drop<|m*3)=9:=by rw[rL,pq,q.o];omega
 have D:r.ownsRow w.heap.size 96 3 (my w.heap.size 0 (m+3)<|m+3) (m+3) (flat a++d.toList.drop (m*3)):=by
  refine⟨by rw[lI,ly,c.o,f];omega,.inr ⟨w.heap.size,m+3,_,fX,lw _,B,lw _,by unfold maxLen;omega,?_,?_⟩⟩;simp only[BZ,lI,ly,c.o,f];omega;simp only;exact oM (by rw[lI,ly,c.o,f];omega)
 have Q:fe (∃rest:gX,fv rest=9/\r.ownsRow w.heap.size 96 3 (my w.heap.size 0 (m+3)<|m+3) (m+3) (flat (a++List.replicate 0 Bd)++rest)):=⟨_,f,by simpa using D⟩;clear D f c1 c2 c3 c4 A q B C l;go_wp2
 go_loopw [4] (λi wr=>∃k:Nat,k<=3/\i=.int .i64 ((m:Int)+k)/\ju w wr/\fe (∃rest:gX,fv rest=(3-k)*3/\wr.ownsRow w.heap.size 96 3 (my w.heap.size 0 (m+3)<|m+3) (m+3) (flat (a++List.replicate k Bd)++rest))) (λi _=>m+3-(intOf i).toNat)
 case atStart=>exact⟨0,by omega,by simp,O,Q⟩
 case round=>
  obtain⟨k,X,rfl,E,s⟩:=hrel;have⟨rest,f,h⟩:=s.o;by_cases Y:k<3
  ·have Z:=λj=>h.frozenAt j
   have⟨n,F⟩:=oX (m+k:Nat);have R:(m:Int)+(k:Int)=(n:Int):=by omega
   have o:∀j,j<3->∃v,wr.cell? (ie w.heap.size<|n*3+j)=fh v:=λj aa=>by
    rw[h.cellAt (n*3+j)<|by omega];exact⟨_,jG (by rw[lI,ly,lI,c.o,Rm,f];omega)⟩
   have⟨ab,S⟩:=o 0 (by omega);have⟨ac,ad⟩:=o 1 (by omega);have⟨ae,af⟩:=o 2 (by omega);rw[Ee]at S;have G:fe (n=m+k):=F;have t:fe _:=h;clear o F s h;rw[R];go_wp2;refine⟨⟨k+1,by omega,by have:=G;go_num,((E.setCell (lw _) _).setCell (lw _) _).setCell (lw _) _,rest.drop 3,by rw[rL,f];omega,?_⟩,by simp[intOf];omega⟩
   have:=Len (n:=n) t (by rw[lI,c.o,Rm,G.o]) (by omega) Bd
   rw[sP,<-hI0]at this;exact this
  have T:k=3:=by omega
  subst T;have V:rest=[]:=KQ (by omega);subst V;rw[lJ]at h;have t:fe _:=h;clear h s;go_wp2;go_ret;exact⟨_,fX,t.o,E⟩
theorem fas(w)(g n):(Builtin.copy_ #[55,55] 3 #[my g 0 n n,fy fj 0 0]).run prog w=.ok (fY 0) w:=by
 have a:=underlying55;rcases b:prog.info? 96 with _|i
 grind [Vq]
 simp[Builtin.copy_,coe a,Builtin.lenOf,Builtin.firstCells,sizeOf,typeInfo,b];rfl
theorem fds(w:fq):
  ik 81 #[fy fj 0 0] w λe J=>∃g,e=fF (my g 0 3 3)/\J.ownsRow w.heap.size 96 3 (my g 0 3 3) 3 (flat<|List.replicate 3 Bd)/\ju w J:=by
 have⟨q,U,s,t,u⟩:=kM Vp;go_enter func81,ntmps81;go_wp2_with(at_make;refine hBw _ fX _ _ 55 fX 0 96 q _ 3 underlying55 U s t .i64 .i64 _ _ 3 fX fX fX fX ?_ ?_ (Fr _) ?_;go_must(rw[u];omega);go_must(unfold maxLen;omega);intro w3 h l;apply Jv);refine(show fe _ from(?_:wpList _ _ _ _ _ _));have x:ju w w3:=(pz (mi w.heap.size w) l).out;have G:=fas w3 w.heap.size 3;have y:fe (∃rest:gX,fv rest=9/\w3.ownsRow w.heap.size 96 3 (my w.heap.size 0 3 3) 3 (flat ([]++List.replicate 0 Bd)++rest)):=by
  have⟨m,z⟩:=h;exact⟨_,m,m,by rcases z with⟨A,_⟩|⟨g,c,B,C,_,r⟩;cases A;cases C;exact .inr ⟨_,_,B,fX,lw _,r⟩⟩
 clear h l;go_wp2
 go_loopw [4] (λi wr=>∃k:Nat,k<=3/\i=.int .i64 (k:Int)/\ju w wr/\fe (∃rest:gX,fv rest=(3-k)*3/\wr.ownsRow w.heap.size 96 3 (my w.heap.size 0 3 3) 3 (flat ([]++List.replicate k Bd)++rest))) (λi _=>3-(intOf i).toNat)
 case atStart=>exact⟨0,by omega,by simp,x,y.o⟩
 case round=>
  obtain⟨n,H,rfl,o,d⟩:=hrel;have⟨rest,p,a⟩:=d.o;by_cases I:n<3
  ·have K:=λj=>a.frozenAt j
   have b:∀j,j<3->∃v,wr.cell? (ie w.heap.size<|n*3+j)=fh v:=λj L=>by
    rw[a.cellAt (n*3+j)<|by omega];exact⟨_,jG (by rw[lI,ly,lI,Rm,p];simp;omega)⟩
   have⟨M,D⟩:=b 0 (by omega);have⟨N,O⟩:=b 1 (by omega);have⟨P,Q⟩:=b 2 (by omega);rw[Ee]at D;have R:w.heap.size<wr.heap.size:=gc a fX;have f:fe _:=a;clear b d a;go_wp2;refine⟨⟨n+1,by omega,by go_num,((o.setCell (lw _) _).setCell (lw _) _).setCell (lw _) _,rest.drop 3,by rw[rL,p];omega,?_⟩,by simp[intOf];omega⟩
   have:=Len (n:=n) f.o (by simp) (by omega) Bd
   rwa [sP,<-hI0]at this
  have E:n=3:=by omega
  subst E;have F:rest=[]:=KQ (by omega);subst F;rw[lJ,HL]at a;have f:fe _:=a;clear a d;go_wp2;go_ret;exact⟨_,fX,f.o,o⟩
theorem NT(a)(m c0:Nat)(c)(w)(d:jw w a m c)(f:(m+3)*32<=140737488355328)(h:m=0->a=fj/\c0=0):
  ik 81 #[fy a m c0] w λe J=>∃g,e=fF (my g 0 (m+3)<|m+3)/\J.ownsRow w.heap.size 96 3 (my g 0 (m+3)<|m+3) (m+3) (flat<|c++List.replicate 3 Bd)/\ju w J:=by
 rcases swo m with rfl|i
 obtain⟨rfl,rfl⟩:=h fX
 have:=KQ d.1
 grind [fds]
 obtain⟨b,off,rfl,j,k⟩:=d.2 i;exact Xn b off m c0 c w d.1 j f k
def ldE(W:fq)(g o)(x:fV)(c0:W.c g o=fh (hZ x.1))(c1:W.c g (o+1)=fh (fY x.2.1))(c2:W.c g (o+2)=fh (fY x.2.2)):(loadVar 96<|ie g o).run prog W=.ok (fD #[hZ x.1,fY x.2.1,fY x.2.2]) W:=by
 go_simp
def fid(a:BinOp)(W)(x y)(b c):(eqGuard a 96 x y (fD b)<|fD c).run prog W=.ok () W:=Nw (by kernel_rfl) a W x y b c
theorem fin(g)(a)(m c0:Nat)(b)(w)(s:jw w a m b)(D:(m+3)*32<=140737488355328)(z:m=0->a=fj/\c0=0)(E)
  (c:w.ownsRow E 96 3 (my g 0 (m+3)<|m+3) (m+3) (flat<|b++List.replicate 3 Bd)):
  ik 83 #[my g 0 (m+3)<|m+3,fy a m c0] w (vd (fE fm) w):=by
 have t:=NT a m c0 b w s D z;have⟨Y,u⟩:=oX<|b++List.replicate 3 Bd;have F:fe (fv Y=m+3):=by rw[u,lI,s.1,Rm];rfl
 rw[<-u]at c t;have G:=c;have v:=gc c fX;clear c u s z;go_enter func83,ntmps83;go_wp2_with fail;apply t.mono;rintro e w1 ⟨y,rfl,A,d⟩;have H:=A;clear t A;go_wp2
 go_loopw [6] (λi wr=>∃k:Nat,k<=m+3/\i=.int .i64 (k:Int)/\(∃q,wr=w1.drewN q)) (λi _=>m+3-(intOf i).toNat)
 case atStart=>exact⟨0,by omega,rfl,⟨0,rfl⟩⟩
 case round=>
  obtain⟨k,L,rfl,⟨q,rfl⟩⟩:=hrel;by_cases I:k<m+3
  ·have B:k<fv Y:=by rw[F.o];exact I
   have⟨f,h,j⟩:=lr (off:=0) (ks G) B;have⟨l,o,r⟩:=lr (off:=0) (ks H) B;rw[iR]at f h j l o r;have⟨x,C⟩:=oX<|Y[k];rw[<-C]at f h j l o r;have J:fe (∀q,(loadVar 96<|ie g (k*3)).run prog (w1.drewN q)=.ok (fD #[hZ x.1,fY x.2.1,fY x.2.2]) (w1.drewN q)):=λq=>ldE _ g (k*3) x ((d.cell (p:=(ie g<|k*3)) v).trans f) ((d.cell (p:=(ie g<|k*3+1)) v).trans h)<|(d.cell (p:=(ie g<|k*3+2)) v).trans j;have K:fe (∀q,(loadVar 96<|ie y (k*3)).run prog (w1.drewN q)=.ok (fD #[hZ x.1,fY x.2.1,fY x.2.2]) (w1.drewN q)):=λq=>ldE _ y (k*3) x l o r;clear f h j l o r C;go_wp2;apply bws (by kernel_rfl)<|by kernel_rfl
   iterate 3 quiet_step (fail)
   refine kU fX 96 _ fX (ie g<|k*3) fX (fD #[hZ x.1,fY x.2.1,fY x.2.2]) (by rintro _ ⟨n,rfl⟩;rw[DZ];exact J _) ?_
   go_frame
   iterate 3 quiet_step (fail)
   refine kU fX 96 _ fX (ie y<|k*3) fX (fD #[hZ x.1,fY x.2.1,fY x.2.2]) (by rintro _ ⟨n,rfl⟩;rw[DZ];exact K _) ?_
   go_frame
   refine wR fX .neq 96 96 _ _ fX (fD #[hZ x.1,fY x.2.1,fY x.2.2]) (fD #[hZ x.1,fY x.2.1,fY x.2.2]) (fE<|!(decide (x=x))) fX fX (by rintro _ ⟨n,rfl⟩;exact fid _ _ _ _ _ _) (by rintro _ ⟨n,rfl⟩;exact dvd _ x x) ?_
   go_frame
   apply WE;rintro _ ⟨nq,rfl⟩;simp only[WJ,Bool.not_true];go_wp2;go_roundw
   case rel=>exact⟨k+1,by omega,by go_num,⟨_,rfl⟩⟩
   case measure=>simp[intOf];omega
  go_wp2;go_ret;exact⟨fX,jf d q⟩
def mj(e:Int)(w:fq):ik 22 #[fY e] w λr J=>r=fF (fY e)/\J=w:=by
 go_enter func22,ntmps22;go_wp2;go_ret;exact⟨fX,fX⟩
abbrev lR:=iD×Nat×Nat
def qQ (a:lR):fu:=fy a.1 a.2.1 a.2.2
def Jw (i:Nat):fV:=(ByteArray.empty,-1000-((i / 4:Nat):Int),0)
def ti1:(prog.info? 55).map (λi=>(i.zero,i.size,i.bytes))=fh (fh<|fy fj 0 0,1,24):=by kernel_rfl
theorem Xo(W:fq)(cs:gX)(t):∀j u,cs[j]?=fh u->(W.k cs.toArray t).cell? (((ie W.heap.size 0):Addr).add j)=fh u:=by
 intro j u a;rw[qg,iR]
 have:=oO W<|.cells cs.toArray t
 unfold World.cell?;rw[this];simpa using a
theorem yh{a}:∀u∈[Value.slice a n c],u.oneCell'=fm:=by intro u b;simp at b;subst b;rfl
def mkQ (q:Nat):fV:=(⟨#[]⟩,-1000-(q:Int),0)
theorem fH.refl(w):fH F w w:=⟨fX,fX,fX,lw _,λ_ _ _=>rfl⟩
def Twin (A O:List Ob):Prop:=fv A=fv O/\(∀i(a:i<fv A)(b:i<fv O),xg A[i] O[i])/\∀o∈A,o.kind=1\/o.kind=2
theorem vL{c d:Type}(b:c->Bool)(q:d->Bool):∀(xs:List c)(ys:List d),fv xs=fv ys->(∀i(g:i<fv xs)(h:i<fv ys),b xs[i]=q ys[i])->xs.findIdx? b=ys.findIdx? q
 |[],[],_,_=>rfl
 |[],_::_,a,_=>by simp at a
 |_::_,[],a,_=>by simp at a
 |x::xs,y::ys,a,e=>by
  have f:=e 0 (by simp)<|by simp
  simp only[Hx]at f
  rw[col,col,f,vL b q xs ys (by simpa using a) (λi g h=>by have:=e (i+1) (by grind) (by grind);simpa using this)]
theorem Sj{a b}(c:gF a=gF b):a=b:=by
 grind [gF,vw,EM]
theorem Be{e g:Type}(d:e->g)(f:∀a b,d a=d b->a=b):∀(xs ys:List e),xs.map d=ys.map d->xs=ys
 |[],[],_=>rfl
 |[],_::_,c=>by simp at c
 |_::_,[],c=>by simp at c
 |x::xs,y::ys,c=>by
  simp only[lM,Ce]at c
  rw[f x y c.1,Be d f xs ys c.2]
theorem Jx(c:Twin A O)(d):findAt O (xp d)=fileAt A d:=by
 refine(vL _ _ A O c.1 λi e f=>?_).symm;have a:=c.2.1 i e f;unfold rT xp;by_cases b:A[i].kind=1;rw[a.kind,b,a.data b,a.none b];simp;rw[a.kind];simp[b]
theorem NU(c:Twin A O)(v:iD×Nat)(m)(d:List fV):findAt O (Ll v m<|d.map gF)=gG A d:=by
 refine(vL _ _ A O c.1 λi e f=>?_).symm;have a:=c.2.1 i e f;unfold rT Ll;by_cases b:A[i].kind=2;rw[a.kind,b,a.empty b,a.gh b]
 grind [decide,gF,yv,Be,Sj]
 rw[a.kind];simp[b]
theorem fix{c:Type}(b:c->Bool):∀(l:List c){y:c},y∈l.takeWhile b->b y=fm
 |[],y,a=>by cases a
 |x::l,y,a=>by
  cases d:b x with
  |true=>
   rw[List.takeWhile_cons_of_pos d]at a
   rcases oc.1 a with rfl|a
   exact d
   exact fix b l a
  |false=>
   grind [List.takeWhile_cons_of_neg]
theorem NV{out}{x:fV}(d:iI out)(i:∀y∈out,y.1≠x.1):iI (Ej out x):=by
 have e:=List.takeWhile_append_dropWhile (p:=λy:fV=>nB y.1 x.1) (l:=out);have f:iI (out.takeWhile (λy=>nB y.1 x.1)++out.dropWhile λy=>nB y.1 x.1):=by rw[e];exact d
 have⟨g,h,j⟩:=hJ0.1 f;have low:∀y∈out.takeWhile λy=>nB y.1 x.1,IY y x<0:=λy c=>by
  have:=fix _ _ c
  exact Cb this
 have high:∀y∈out.dropWhile λy=>nB y.1 x.1,IY x y<0:=by
  cases k:out.dropWhile (λy=>nB y.1 x.1) with
  |nil=>intro y c;cases c
  |cons z m=>
   grind [nB,List.head?_dropWhile_not,IY,Rk,rP,Lib.compareBytes,absurd,bytes_inj,nA,lX,sJ]
 refine hJ0.2 ⟨g,sJ.2 ⟨high,h⟩,λa n b o=>?_⟩
 grind
theorem tq:∀(Y out:List fV),iI out->((Y++out).map (·.1)).Nodup->iI (Y.foldl Ej out)
 |[],out,a,_=>a
 |x::r,out,a,b=>by
  rw[HV]
  have c:(x.1::((r++out).map (·.1))).Nodup:=by simpa using b
  have⟨d,f⟩:=WC.1 c
  refine tq r (Ej out x) (NV a λy g e=>d (by grind)) ?_
  grind [Ej,Jc,List.perm_middle]
def tY(a:(Y.map (·.1)).Nodup):iI (gY Y):=tq Y [] List.Pairwise.nil (by simpa using a)
theorem za:∀{xs ys:List fV},iI xs->iI ys->xs.Perm ys->xs=ys
 |[],ys,_,_,b=>(List.nil_perm.1 b).symm▸rfl
 |x::xs,[],_,_,b=>by have:=b.length_eq;simp at this
 |x::xs,y::ys,f,g,b=>by
  have h:∀a:fV,¬IY a a<0:=λa=>by unfold IY;rw[rO];omega
  have⟨i,j⟩:=sJ.1 f
  have⟨k,l⟩:=sJ.1 g
  have e:x=y:=by
   have c:=b.mem_iff.1<|oN ..;have d:=b.mem_iff.2<|oN ..;rcases oc.1 c with e|c
   exact e;rcases oc.1 d with e|d
   exact e.symm;have a:=k x c;exact absurd (lX _ _ _ a<|i y d)<|h y
  subst e;rw[za j l<|List.Perm.cons_inv b]
def lS (n:Nat)(e:fV):fV:=(e.1,e.2.1,if 1<=e.2.2/\e.2.2<=(n:Int)then e.2.2-1 else -1)
def Vr(a:1<=e.2.2/\e.2.2<=(n:Int)):lS n e=gF e:=by unfold lS gF;rw[lv a]
theorem Xp(a:Twin A O)(b:j<fv A):A[j].kind≠0:=by
 rcases a.2.2 _ (kK b)with e|e<;>rw[e]<;>decide
theorem Xq(b:Twin A O)(e):ov O (lS (fv A) e)=Hb A e:=by
 unfold ov Hb lS;by_cases c:1<=e.2.2/\e.2.2<=(fv A:Int);obtain⟨j,f⟩:∃j:Nat,e.2.2=(j:Int)+1:=⟨(e.2.2-1).toNat,by omega⟩;have a:j<fv A:=by omega
 have d:j<fv O:=by rw[<-b.1];exact a
 simp only[c,and_self,dat];rw[f,xa a,show((j:Int)+1-1)=(j:Int) by omega,qI,jG d];have g:=(b.2.1 j a d).kind
 grind [Xp,iE,yv,beq_false_of_ne]
 rw[km c,iJ<|by omega];simp
theorem zL(a:Hb A e=fm):1<=e.2.2/\e.2.2<=(fv A:Int):=by
 grind [hid,Int,Hb,iJ]
theorem Xr(b:Twin A O)(d:Hb A e=fm):Db O (lS (fv A) e)=gp A e.2.2:=by
 have f:=zL d;obtain⟨j,g⟩:∃j:Nat,e.2.2=(j:Int)+1:=⟨(e.2.2-1).toNat,by omega⟩;have a:j<fv A:=by omega
 have c:j<fv O:=by rw[<-b.1];exact a
 unfold Db lS;simp only[f,and_self,dat];rw[g,Cl a,show((j:Int)+1-1)=(j:Int) by omega,qI,jG c];exact(b.2.1 j a c).high
theorem zM(b:Twin A O):∀(c:List fV)(a:Int),(∀e∈c,Hb A e=fm)->(c.map (lS<|fv A)).foldl (λb e=>max b<|1+Db O e) a=c.foldl (λb e=>max b<|1+gp A e.2.2) a
 |[],_,_=>rfl
 |e::r,a,d=>by
  simp only[lM,HV]
  rw[Xr b<|d e (oN ..)]
  exact zM b r _ λx f=>d x<|wC _ f
def fla(n)(Y:List fV):(Y.map<|lS n).map (·.1)=Y.map (·.1):=by
 rw[Ed];rfl
def Cu (A H O Z:List Ob)(id ec x y:Int):Prop:=
 ec=y/\Twin H Z/\((y≠0/\id=0/\H=A/\Z=O)\/(y=0/\∃j:Nat,x=(j:Int)/\id=(j:Int)+1/\((H=A/\Z=O/\j<fv A)\/(j=fv A/\fv H=fv A+1))))
theorem yj(a:Twin A O){o x}(f:xg o x)(g:o.kind=1\/o.kind=2):Twin (A++[o]) (O++[x]):=by
 refine⟨by simp[a.1],λi c d=>?_,λy b=>?_⟩;by_cases U:i<fv A;rw[KS U,KS (by rw[<-a.1];exact U)];exact a.2.1 i U _;have e:i=fv A:=by simp at c;omega
 subst e;have h:(O++[x])[fv A]'d=x:=by simp[a.1]
 grind
 rcases qJ.1 b with b|b
 exact a.2.2 y b
 grind
def Vs{a:Ob->Bool}(b:A.findIdx? a=fh i):i<fv A:=(yM.1 b).1
theorem Sk{e}{x y:Int}(b:Twin A O)(q:lq A H d e)(m:AF O Z d x y):
  ∃id ec,e=qr #[fY id,fY ec]/\Cu A H O Z id ec x y:=by
 have r:=Jx b d;rcases q with⟨n,j,h⟩|⟨n,j,i,h,l⟩|⟨n,j,h,l,o⟩|⟨n,j,h,l,o⟩
 rcases m with⟨_,c,f,g⟩|⟨a,_⟩
 subst j c f g;exact⟨_,_,h,fX,b,.inl ⟨by decide,fX,fX,fX⟩⟩;omega
 ·rcases m with⟨a,_⟩|⟨_,⟨k,a,c,f,g⟩|⟨a,_⟩|⟨a,_⟩⟩
  omega;rw[r,h]at a;cases a;subst j c f g;exact⟨_,_,l,fX,b,.inr ⟨fX,i,fX,fX,.inl ⟨fX,fX,Vs h⟩⟩⟩
  all_goals grind
 rcases m with⟨a,_⟩|⟨_,⟨k,a,c,f,g⟩|⟨a,c,f,g,p⟩|⟨a,c,_⟩⟩
 omega
 grind
 subst l f g p;exact⟨_,_,o,fX,b,.inl ⟨by decide,fX,fX,fX⟩⟩
 have:=b.1
 omega;rcases m with⟨a,_⟩|⟨_,⟨k,a,c,f,g⟩|⟨a,c,_⟩|⟨a,c,f,g,p⟩⟩
 omega
 ·all_goals grind
 have:=b.1
 omega;subst l f g p;refine⟨_,_,o,fX,yj b ⟨fX,λ_=>rfl,λb=>absurd b (show ¬(1:Int)=2 by decide),fX,λ_=>rfl,λb=>absurd b (show ¬(1:Int)=2 by decide)⟩<|.inl fX,.inr ⟨fX,fv A,by rw[b.1],fX,.inr ⟨fX,by simp⟩⟩⟩
theorem Xs{e}{x y:Int}(a:Twin A O)(E:jv A H Y e)(d:AG O Z (Y.map<|lS (fv A)) x y):
  ∃id ec,e=qr #[fY id,fY ec]/\Cu A H O Z id ec x y:=by
 have W:=fla (fv A) Y;have val:(∃e∈Y.map (lS<|fv A),fN e.1=fo)↔∃e∈Y,fN e.1=fo:=by
  grind [DY]
 have X:(∃e∈Y.map (lS<|fv A),ov O e=fo)↔∃e∈Y,Hb A e=fo:=by
  grind [Xq,DY]
 have N:fv (Y.map<|lS (fv A))=fv Y:=oL ..;have ak:∀{P:fV->Bool}{l:List fV},(∀e∈l,P e=fm)->¬ ∃e∈l,P e=fo:=λaa⟨e,ab,Q⟩=>by rw[aa e ab]at Q;cases Q
 unfold AG at d;rw[W,N,val,X]at d;rcases E with⟨f1,f2,f3⟩|⟨f1,E⟩
 ·rcases d with⟨_,f,g,h⟩|⟨b,_⟩
  subst f2 f g h;exact⟨_,_,f3,fX,a,.inl ⟨by decide,fX,fX,fX⟩⟩
  all_goals grind
 rcases d with⟨b,_⟩|⟨_,d⟩
 ·all_goals grind
 rcases E with⟨F,w,p⟩|⟨F,w,p,G⟩|⟨F,w,p,G,ac⟩|⟨F,w,p,k,I,ad,al,R⟩
 ·rcases d with⟨_,f,g,h⟩|⟨b,_⟩|⟨b,_⟩|⟨b,_⟩|⟨b,_⟩
  subst w f g h;exact⟨_,_,p,fX,a,.inl ⟨by decide,fX,fX,fX⟩⟩
  all_goals grind
 ·rcases d with⟨b,_⟩|⟨_,_,f,g,h⟩|⟨_,b,_⟩|⟨_,b,_⟩|⟨_,b,_⟩
  ·all_goals grind
  subst p f g h;exact⟨_,_,G,fX,a,.inl ⟨by decide,fX,fX,fX⟩⟩
  all_goals omega
 ·rcases d with⟨b,_⟩|⟨_,b,_⟩|⟨_,_,_,f,g,h⟩|⟨_,_,b,_⟩|⟨_,_,b,_⟩
  ·all_goals grind
  omega;subst G f g h;exact⟨_,_,ac,fX,a,.inl ⟨by decide,fX,fX,fX⟩⟩
  all_goals grind
 have S:∀z∈k,Hb A z=fm:=λz J=>p z<|I.mem_iff.1 J;have T:xr O (Y.map<|lS (fv A))=gy A k:=by
  rw[wS O (I.map<|lS (fv A)).symm];exact zM a k 0 S
 have ae:k.map (lS<|fv A)=k.map gF:=KW λz J=>Vr<|zL (S z J);have af:iI (k.map gF):=wK.2 (ad.imp λa=>a);have ag:gY (Y.map<|lS (fv A))=k.map gF:=by
  refine za (tY (by grind)) af ?_;rw[<-ae];exact(kG _).trans (I.map _).symm
 have ah:=λv m=>NU a v m k;rcases d with⟨b,_⟩|⟨_,b,_⟩|⟨_,_,b,_⟩|⟨_,_,_,b,f,g,h⟩|⟨_,_,_,b,v,z,q,K⟩
 grind
 omega
 grind
 ·rw[T]at b
  rcases R with⟨n,s,r⟩|⟨n,_⟩|⟨n,_⟩|⟨n,_⟩
  subst s f g h;exact⟨_,_,r,fX,a,.inl ⟨by decide,fX,fX,fX⟩⟩
  all_goals omega
 rw[T]at b;rw[ag]at q;unfold AD at q;rw[ah]at q;rcases R with⟨n,_⟩|⟨n,s,i,r,L⟩|⟨n,s,r,L,M⟩|⟨n,s,r,⟨o,B,ai,am,aj⟩,M⟩
 omega
 ·rcases q with⟨j,c,t,C⟩|⟨c,_⟩|⟨c,_⟩
  rw[r]at c;cases c;rcases K with⟨U,_⟩|⟨_,D,u⟩
  omega;subst s t u;exact⟨_,_,L,fX,a,.inr ⟨fX,i,by omega,fX,.inl ⟨fX,fX,Vs r⟩⟩⟩
  all_goals grind
 ·rcases q with⟨j,c,_⟩|⟨c,t,C,V⟩|⟨c,t,_⟩
  ·all_goals grind
  rcases K with⟨_,D,u⟩|⟨U,_⟩
  subst L C D u;exact⟨_,_,M,fX,a,.inl ⟨by decide,fX,fX,fX⟩⟩;omega
  have:=a.1
  omega
 rcases q with⟨j,c,_⟩|⟨c,t,_⟩|⟨c,t,C,V⟩
 ·all_goals grind
 have:=a.1
 omega;rcases K with⟨U,_⟩|⟨_,D,u⟩
 omega;subst aj C u;refine⟨_,_,M,fX,yj a ⟨B.symm,λa=>by rw[B]at a;exact absurd a<|by decide,λ_=>by rw[ai];rfl,?_,λa=>by rw[B]at a;exact absurd a<|by decide,λ_=>rfl⟩<|.inr B,.inr ⟨fX,fv A,by rw[D,V,a.1],fX,.inr ⟨fX,by simp⟩⟩⟩;show xr O (k.map gF)=o.high
 all_goals grind [wS]
structure Sep (w:World)(FL FR b6:Nat->Prop):Prop where
 ll:∀k,FL k->k<w.heap.size
 rl:∀k,FR k->k<w.heap.size/\¬FL k
 sl:∀k,b6 k->k<w.heap.size/\¬FL k
 rs:∀k,FR k->¬b6 k
structure W3 (ft:PTp)(FL FR b6:Nat->Prop)(w:World)(W s r:Nat)(gI RO:List Ob)(c5 c6 c7 c8 c9 c10 c11:Value):Prop where
 law:mG FL w W s r gI.length c5 c6 c7 c8 c9 c10 c11
 ref:gi FR w r RO
 yl:iP ft b6 w s gI
 twin:Twin gI RO
 at_:gR RO
 sep:Sep w FL FR b6
theorem Sep.below(b:Sep w E I b6)(c:w.heap.size<=J.heap.size):Sep J E I b6:=
 ⟨λk a=>nz (b.ll k a) c,λk a=>⟨nz (b.rl k a).1 c,(b.rl k a).2⟩,λk a=>⟨nz (b.sl k a).1 c,(b.sl k a).2⟩,b.rs⟩
theorem mG.keep{F F':Nat->Prop}{W s r n}{c5 c6 c7 c8 c9 R c11}(a:mG F w W s r n c5 c6 c7 c8 c9 R c11)(hF:∀k,F k->F' k)(b:∀k,F k->J.heap[k]?=w.heap[k]?):mG F' J W s r n c5 c6 c7 c8 c9 R c11:=by
 have⟨c,d,e,f,g,h,i,j,l⟩:=a;exact⟨c,d,e,f,g,h,i,j.keep hF b,l⟩
theorem W3.below(a:W3 ft E I b6 w W s r A O c5 c6 c7 c8 c9 R c11)(c:ju w J):W3 ft E I b6 J W s r A O c5 c6 c7 c8 c9 R c11:=
 ⟨a.law.keep (λ_ a=>a) λk b=>c.block k<|a.sep.ll k b,a.ref.keep (λ_ a=>a) λk b=>c.block k (a.sep.rl k b).1,iP.keep a.yl (λ_ a=>a) λk b=>c.block k (a.sep.sl k b).1,a.twin,a.at_,a.sep.below c.size⟩
def F3 (E I b6:Nat->Prop)(k:Nat):Prop:=E k\/I k\/b6 k
def zN (E I b6 Sg Sh Si:Nat->Prop)(n:Nat):Prop:=∀k,(Sg k->E k\/n<=k)/\(Sh k->I k\/n<=k)/\(Si k->b6 k\/n<=k)
theorem zN.all(a:zN E I b6 Sg Sh Si n):∀k,F3 Sg Sh Si k->F3 E I b6 k\/n<=k:=by
 rintro k (e|e|e);exact((a k).1 e).imp .inl id;exact((a k).2.1 e).imp (λx=>.inr<|.inl x) id;exact((a k).2.2 e).imp (λx=>.inr<|.inr x) id
theorem zN.refl:zN E I b6 E I b6 n:=λk=>⟨.inl,.inl,.inl⟩
theorem zN.mono(a:zN E I b6 Sg Sh Si n)(b:m<=n):zN E I b6 Sg Sh Si m:=λk=>⟨λe=>((a k).1 e).imp id<|ww b,λe=>((a k).2.1 e).imp id<|ww b,λe=>((a k).2.2 e).imp id<|ww b⟩
theorem Sep.law(xh:Sep w E I b6)(c:fH E w J):Sep J (kB E w J) I b6:=⟨λk b=>by rcases b with a|a;exact nz (xh.ll k a) c.size;exact a.2,
   λk b=>⟨nz (xh.rl k b).1 c.size,λa=>by rcases a with a|a;exact(xh.rl k b).2 a;have:=(xh.rl k b).1;omega⟩,
   λk b=>⟨nz (xh.sl k b).1 c.size,λa=>by rcases a with a|a;exact(xh.sl k b).2 a;have:=(xh.sl k b).1;omega⟩,xh.rs⟩
theorem Cv(l:mG E w W s r n c5 c6 c7 c8 c9 R c11)(d:gi I w r O)(hs:iP ft b6 w s A)(xh:Sep w E I b6)(f:gR O)(c:Twin A O)(m:n<=fv A)(p:j<fv A)
  (q:∀a:Nat->Bool,a j=fm->(∀i o,a i=fm->n<=i->A[i]?=fh o->∀e∈o.gh,o.kind=2->a (e.2.2-1).toNat=fm)->∀i,n<=i->i<fv A->a i=fm):
  ik 37 #[ii W,fY (j:Int),fY<|(j:Int)+1] w λe J=>e=fF (fE fm)/\W3 ft (kB E w J) I b6 J W s r A O c5 c6 c7 c8 c9 R c11/\fH E w J:=by
 refine(Sd c.1.symm fX f c.2.1 j p E w _ (l.toK m) d hs xh.rl xh.sl xh.ll).mono ?_;rintro e J ⟨t,a,u,b,z,v,x⟩;refine⟨t,⟨u.toS λi U=>?_,xZ d xh.rl b,iP.keep hs (λ_ g=>g) λk h=>b.block k (xh.sl k h).1 (xh.sl k h).2,c,f,xh.law b⟩,b⟩;by_cases g:i<n
 grind
 exact q a v (λi o y B=>x i o y<|yv (by omega)) i (by omega) U
theorem Fy(c:mG E w W s r (fv A) c5 c6 c7 c8 c9 R c11)(d:gi I w r Z)(hs:iP ft b6 w s H)(xh:Sep w E I b6)(f:gR Z){id ec x y:Int}(a:Cu A H O Z id ec x y)(g:y=0)(h:fv A=fv O):
  ik 37 #[ii W,fY x,fY id] w λe J=>e=fF (fE fm)/\W3 ft (kB E w J) I b6 J W s r H Z c5 c6 c7 c8 c9 R c11/\fH E w J:=by
 obtain⟨_,i,b|⟨_,j,rfl,rfl,b⟩⟩:=a
 all_goals grind [absurd,Cv]
theorem vM{x:Ob}(c:gR O)(d:∀e∈x.gh,0<=e.2.2/\e.2.2<(fv O:Int)):gR (O++[x]):=by
 intro i U e a;by_cases b:i<fv O;rw[KS b]at a;exact c i b e a
 grind
theorem Sl{x y:Int}(a:gR O)(b:AF O Z d x y):gR Z:=by
 rcases b with⟨_,rfl,_⟩|⟨_,⟨_,_,rfl,_⟩|⟨_,_,rfl,_⟩|⟨_,_,rfl,_⟩⟩
 exact a;exact a;exact a;exact vM a (λe c=>by cases c)
theorem Xt{b:List fV}{x y:Int}(a:gR O)(g:∀e∈b,e.2.2<(fv O:Int))(c:AG O Z b x y):gR Z:=by
 rcases c with⟨_,rfl,_⟩|⟨_,⟨_,rfl,_⟩|⟨_,_,rfl,_⟩|⟨_,_,_,rfl,_⟩|⟨_,_,_,_,rfl,_⟩|⟨_,_,h,_,v,z,d,_⟩⟩
 exact a;exact a;exact a;exact a;exact a;rcases d with⟨_,_,rfl,_⟩|⟨_,_,rfl,_⟩|⟨_,_,rfl,_⟩
 exact a;exact a;refine vM a λe f=>?_;have i:e∈b:=rS f
 grind [ov]
def Stepped (ft:PTp)(E I b6:Nat->Prop)(w J:fq)(W s r:Nat)(c5 c6 c7 c8 c9 R c11:fu):Prop:=
 ∃Sg Sh Si H Z,W3 ft Sg Sh Si J W s r H Z c5 c6 c7 c8 c9 R c11/\zN E I b6 Sg Sh Si w.heap.size/\fH (F3 E I b6) w J
theorem mG.cells(b:mG E w W s r n c5 c6 c7 c8 c9 R c11):w.c W 0=fh (ii s)/\w.c W 1=fh (ii r)/\W<w.heap.size/\E W:=by
 have⟨_,_,_,_,_,_,_,a,_⟩:=b;exact⟨a.c0,a.c1,a.lt,a.fw⟩
theorem ym(a:W3 ft E I b6 w W s r A O c5 c6 c7 c8 c9 R c11)(f:ju w w1)(g:fH b6 w1 w2)(U:iP ft (kB b6 w1 w2) w2 s H)(e:fH I w2 w3):
  mG E w3 W s r (fv A) c5 c6 c7 c8 c9 R c11/\iP ft (kB b6 w1 w2) w3 s H/\Sep w3 E (kB I w2 w3) (kB b6 w1 w2)/\fH (F3 E I b6) w w3/\zN E I b6 E (kB I w2 w3) (kB b6 w1 w2) w.heap.size:=by
 have l:=f.size;have o:=g.size;have p:=e.size;have all:∀k,k<w.heap.size->¬I k->¬b6 k->w3.heap[k]?=w.heap[k]?:=λk m h n=>(e.block k (by omega) h).trans<|(g.block k (by omega) n).trans (f.block k m);refine⟨a.law.keep (λ_ a=>a) λk c=>all k (a.sep.ll k c) (λd=>(a.sep.rl k d).2 c) λd=>(a.sep.sl k d).2 c,iP.keep U (λ_ a=>a) λk c=>e.block k ?_ λd=>?_,⟨λk c=>by have:=a.sep.ll k c;omega,λk c=>?_,λk c=>?_,λk c hs=>?_⟩,⟨e.os.trans<|g.os.trans f.os,e.tape.trans<|g.tape.trans f.tape,e.output.trans<|g.output.trans f.output,by omega,λk c j=>all k c (λd=>j<|.inr (.inl d)) λd=>j<|.inr (.inr d)⟩,λk=>⟨.inl,λa=>a.imp id (λa=>by have:=a.1;omega),λa=>a.imp id λa=>ww l a.1⟩⟩;rcases c with b|b
 have:=(a.sep.sl k b).1
 omega;exact b.2;rcases c with b|b
 exact a.sep.rs k d b
 have:=(a.sep.rl k d).1
 omega;rcases c with b|b
 exact⟨by have:=(a.sep.rl k b).1;omega,(a.sep.rl k b).2⟩;exact⟨b.2,λi=>by have:=a.sep.ll k i;have:=b.1;omega⟩;rcases c with b|b
 exact⟨by have:=(a.sep.sl k b).1;omega,(a.sep.sl k b).2⟩;exact⟨by have:=b.2;omega,λi=>by have:=a.sep.ll k i;have:=b.1;omega⟩;rcases c with b|b<;>rcases hs with h|h
 exact a.sep.rs k b h
 have:=(a.sep.rl k b).1
 omega
 have:=(a.sep.sl k h).1
 omega;omega
theorem Xu{h}{e}{id ec x y:Int}(g:W3 ft E I b6 w W s r A O c5 c6 c7 c8 c9 R c11)(k:ju w w1)(l:fH b6 w1 w2)(U:iP ft (kB b6 w1 w2) w2 s H)(u:mG E w2 W s r (fv A) c5 c6 c7 c8 c9 R c11)
  (f:fH I w2.drew w3)(m:gi (kB I w2.drew w3) w3 r Z)(n:lq A H h e)(i:AF O Z h x y)(o:e=qr #[fY id,fY ec]):
  Cu A H O Z id ec x y/\mG E w3 W s r (fv A) c5 c6 c7 c8 c9 R c11/\iP ft (kB b6 w1 w2) w3 s H/\gi (kB I w2 w3) w3 r Z/\Sep w3 E (kB I w2 w3) (kB b6 w1 w2)/\gR Z/\fH (F3 E I b6) w w3:=by
 have⟨p,q,j,t⟩:=Sk g.twin n i;rw[o]at j;obtain⟨rfl,rfl⟩:id=p/\ec=q:=by simpa using j
 have⟨a,b,c,d,_⟩:=ym g k l U (w3:=w3) ⟨f.os,f.tape,f.output,f.size,f.block⟩;exact⟨t,a,b,m,c,Sl g.at_ i,d⟩
theorem Xv(n)(x:Int):Lm (yS n) x=x:=by
 unfold Lm;split
 ·next h=>
  rw[jJ]at h;have a:(x-1).toNat<n:=by omega
  have:=Fv a
  rw[yN,this];show(((x-1).toNat:Int)+1)=x;omega
 rfl
theorem W3.few(a:W3 ft E I b6 w W s r A O c5 c6 c7 c8 c9 R c11):fv A<=400/\fv O=fv A:=by
 have⟨_,_,b⟩:=a.ref
 have:=b.many
 have:=a.twin.1
 omega
theorem Fz(a:W3 ft E I b6 w W s r A O c5 c6 c7 c8 c9 R c11)(x:Int):ik 39 #[ii W,fY x] w (UV (fY x) w):=by
 have⟨_,_,_,_,_,_,_,b,_⟩:=a.law
 have:=thm b x (by rw[jJ];exact a.few.1)
 rwa [Xv]at this
theorem si(a:W3 ft E I b6 w W s r A O c5 c6 c7 c8 c9 R c11)(j:Nat)(b:j<fv A):ik 41 #[ii W,fY<|(j:Int)+1] w (UV (fY (j:Int)) w):=by
 have⟨_,_,_,_,_,_,_,c,_⟩:=a.law
 have:=Cn c ((j:Int)+1) (by rw[jJ];exact a.few.1)
 have e:=Sc b [];rw[lJ]at e;rwa [e]at this
theorem zO(a:W3 ft E I b6 w W s r A O c5 c6 c7 c8 c9 R c11)(x:Int)(b:x<1\/(fv A:Int)<x):ik 41 #[ii W,fY x] w (UV (fY<|-1) w):=by
 have⟨_,_,_,_,_,_,_,c,_⟩:=a.law
 have:=Cn c x (by rw[jJ];exact a.few.1)
 have e:=Xm b [] (λ_ a=>by cases a);rw[lJ]at e;rwa [e]at this
theorem Bf(a:W3 ft E I b6 w W s r A O c5 c6 c7 c8 c9 R c11)(j:Nat)(b:j<fv A):ik 42 #[ii W,fY (j:Int)] w (UV (.int .i64 A[j].kind) w):=by
 have d:=a.few;have⟨_,_,_,_,_,_,_,c,_⟩:=a.law
 have:=eof c a.ref j<|by omega
 rwa [(a.twin.2.1 j b<|by omega).kind]at this
theorem FA(a:iP ft F w s A)(x:Int)(b:fJ A x≠1):
  ik 40 #[ii s,fY x] w (vd (fC #[hZ ByteArray.empty,fY 13]) w):=by
 refine(yY a x).mono λe J⟨c,d⟩=>⟨?_,d⟩;rcases c with⟨_,f⟩|⟨j,g,h,i,_⟩
 exact f;rw[h,xa g]at b;omega
theorem W3.obj(b:W3 ft E I b6 w W s r A O c5 c6 c7 c8 c9 R c11)(j:Nat)(d:j<fv A)(e:A[j].kind=1):∃g h,w.c r 0=fh (my g 0 (fv A) h)/\r<w.heap.size/\g<w.heap.size/\w.c g (j*4+1)=fh (fA A[j].data):=by
 have⟨a,h,c⟩:=b.ref;have f:=b.few.2;obtain⟨g,rfl,i,l,k,_⟩:=mW c.row fX (show j<fv O by omega);refine⟨g,h,?_,c.lt,i,?_⟩;rw[<-f];exact c.c0;rw[<-((b.twin.2.1 j d<|by omega).data e)];exact k
theorem NW(b:W3 ft E I b6 w W s r A O c5 c6 c7 c8 c9 R c11)(l N m:Int)(n T)(la:iD)(o p)(d:N<1\/(fv A:Int)<N):
  ik 20 #[ii W,fD #[fY 3,fY l,fY N,fY m,hZ n,hZ T,fy la o p]] w (vd (fE fm) w):=by
 have⟨u,_⟩:=b.law.cells;have c:∀a,ju w (w.alloc a):=λa=>(mi _ _).alloc (lw _) _;have hid:=λa=>Fz (b.below<|c a) N;have g:=λa=>FA (b.below<|c a).yl N (by rw[iJ d];decide);have h:=λa f(q:Below (w.alloc a).heap.size (w.alloc a) f)=>zO ((b.below<|c a).below q) N d;have i:=λ(f:fq)=>Jg (W:=W) (w:=f) (-1) (by decide);have j:=λ(e:Int)(t:fq)=>mj e t
 change fe _ at hid g h i j
 clear b d;go_enter func20,ntmps20;go_wp2_with(first
  |(go_at_call 39;refine tB (hid _) ?_)
  |(go_at_call 40;refine Hk (g _) λw2 k=>?_)
  |(go_at_call 41;refine tB (h _ _ k) ?_)
  |(go_at_call 42;refine tB (i _) ?_)
  |(go_at_call 22;refine tB (j _ _) ?_))
 go_ret;exact⟨fX,(c _).trans<|k.mono (by simp)⟩
theorem NY(b:W3 ft E I b6 w W s r A O c5 c6 c7 c8 c9 R c11)(p q:Int)(t T)(la:iD)(u v)(j:Nat)(d:j<fv A)(k:A[j].kind≠1):
  ik 20 #[ii W,fD #[fY 3,fY p,fY<|(j:Int)+1,fY q,hZ t,hZ T,fy la u v]] w (vd (fE fm) w):=by
 have⟨y,_⟩:=b.law.cells;have c:∀a,ju w (w.alloc a):=λa=>(mi _ _).alloc (lw _) _;have hid:=λa=>Fz (b.below<|c a)<|(j:Int)+1;have l:=λa=>FA (b.below<|c a).yl ((j:Int)+1) (by rw[xa d];exact k);have m:=λa f(g:Below (w.alloc a).heap.size (w.alloc a) f)=>si ((b.below<|c a).below g) j d;have h:=λa f(g:Below (w.alloc a).heap.size (w.alloc a) f)=>Bf ((b.below<|c a).below g) j d;have n:=λ(e:Int)(x:fq)=>mj e x;have⟨z,o⟩:=oX<|A[j].kind;rw[<-o]at k h
 change fe _ at hid l m h n
 clear b o;go_enter func20,ntmps20;go_wp2_with(first
  |(go_at_call 39;refine tB (hid _) ?_)
  |(go_at_call 40;refine Hk (l _) λw2 i=>?_)
  |(go_at_call 41;refine tB (m _ _ i) ?_)
  |(go_at_call 42;refine tB (h _ _ i) ?_)
  |(go_at_call 22;refine tB (n _ _) ?_))
 go_ret;exact⟨fX,(c _).trans<|i.mono (by simp)⟩
theorem Lz(b:W3 ft E I b6 w W s r A O c5 c6 c7 c8 c9 R c11)(y z:Int)(B T)(la:iD)(C D)(j:Nat)(k:j<fv A)(l:A[j].kind=1):
  ik 20 #[ii W,fD #[fY 3,fY y,fY<|(j:Int)+1,fY z,hZ B,hZ T,fy la C D]] w (vd (fE fm) w):=by
 have⟨S,_⟩:=b.law.cells;have c:∀a,ju w (w.alloc a):=λa=>(mi _ _).alloc (lw _) _;have hid:=λa=>Fz (b.below<|c a)<|(j:Int)+1;have m:=λa=>Fu (b.below<|c a).yl j k l;have q:=λa d(f:Below (w.alloc a).heap.size (w.alloc a) d)=>si ((b.below<|c a).below f) j k;have o:=λa d(f:Below (w.alloc a).heap.size (w.alloc a) d)=>Bf ((b.below<|c a).below f) j k;rw[l]at o;have p:=λa d(f:Below (w.alloc a).heap.size (w.alloc a) d)=>W3.obj ((b.below<|c a).below f) j k l;have t:=λa d(f:Below (w.alloc a).heap.size (w.alloc a) d)=>mG.cells ((b.below<|c a).below f).law;have u:=λ(e:Int)(F:fq)=>mj e F;have⟨U,v⟩:=oX<|A[j].data;rw[<-v]at p m;have G:fe _:=hid;have H:fe _:=m;have J:fe _:=q;have K:fe _:=o;have L:fe _:=u;have M:fe _:=p;have N:fe _:=t;obtain⟨n,x⟩:=oX<|fv A;have V:(j:Int)<(n:Int):=by omega
 have P:fe (n=fv A):=x;clear hid m q o u b p t x l v;go_enter func20,ntmps20;go_wp2_with(first
  |(go_at_call 39;refine tB (G _) ?_)
  |(go_at_call 40;refine Hk (H.o _) λw2 i=>?_;have⟨_,X,Y,_⟩:=N _ _ i;have⟨g,h,Q,Z,aa,ab⟩:=M.o _ _ i;rw[<-P.o]at Q)
  |(go_at_call 41;refine tB (J _ _ i) ?_)
  |(go_at_call 42;refine tB (K.o _ _ i) ?_)
  |(go_at_call 22;refine tB (L _ _) ?_))
 go_ret;exact⟨fX,(c _).trans<|i.mono (by simp)⟩
def pZ(b:W3 ft E I b6 w W s r A O c5 c6 c7 c8 c9 R c11)(a:ju w J):Stepped ft E I b6 w J W s r c5 c6 c7 c8 c9 R c11:=
 ⟨E,I,b6,A,O,b.below a,zN.refl,fH.fK a⟩
theorem Ii(a:W3 ft E I b6 w W s r A O c5 c6 c7 c8 c9 R c11)(d N f:Int)(g T)(la:iD)(h i):
  ik 20 #[ii W,fD #[fY 3,fY d,fY N,fY f,hZ g,hZ T,fy la h i]] w λe J=>e=fF (fE fm)/\Stepped ft E I b6 w J W s r c5 c6 c7 c8 c9 R c11:=by
 by_cases m:N<1\/(fv A:Int)<N;exact(NW a d N f g T la h i m).mono λe J⟨b,c⟩=>⟨b,pZ a c⟩
 obtain⟨j,rfl⟩:∃j:Nat,N=(j:Int)+1:=⟨(N-1).toNat,by omega⟩;have k:j<fv A:=by omega
 by_cases l:A[j].kind=1;exact(Lz a d f g T la h i j k l).mono λe J⟨b,c⟩=>⟨b,pZ a c⟩
 exact(NY a d f g T la h i j k l).mono λe J⟨b,c⟩=>⟨b,pZ a c⟩
theorem Ij(b:W3 ft E I b6 w W s r A O c5 c6 c7 c8 c9 R c11)(g N i:Int)(j T)(la:iD)(k l):
  ik 20 #[ii W,fD #[fY 5,fY g,fY N,fY i,hZ j,hZ T,fy la k l]] w λe J=>e=fF (fE fm)/\Stepped ft E I b6 w J W s r c5 c6 c7 c8 c9 R c11:=by
 have⟨B,C,m,F⟩:=b.law.cells;obtain⟨o,t⟩:=oX (.cells #[fY 5,fY g,fY N,fY i,hZ j,hZ T,fy la k l] 57:Obj);have⟨w1,d⟩:=oX<|w.alloc o;have c:ju w w1:=by rw[d];exact(mi _ _).alloc (lw _) o
 have u:=λq=>yZ (b.below<|jf c q).yl;have v:fe _:=u;have G:=(c.cell (p:=(ie W 0)) m).trans B;have H:=(c.cell (p:=(ie W 1)) m).trans C;have x:=b.few;have f:∃a h,w1.c r 0=fh (fy a (fv A) h)/\r<w1.heap.size:=by
  have⟨a,h,y⟩:=(b.below c).ref;exact⟨a,h,by rw[<-x.2];exact y.c0,y.lt⟩
 have⟨K,L,f,M⟩:=f;have D:fe (∀q,Stepped ft E I b6 w (w1.drewN q) W s r c5 c6 c7 c8 c9 R c11):=λq=>pZ b<|jf c q;have⟨n,z⟩:=oX<|fv A;rw[<-z]at v f;clear u b x z;go_enter func20,ntmps20;go_wp2;rw[<-t,<-d];clear t d
 go_quiet (first|(go_at_call 45;exact Cc<|v _))
 go_wp2;go_ret;exact⟨fX,D _⟩
def ql (n:Nat)(V:gX):gX:=(List.replicate n V).flatten
def uC (t:ni)(z:Nat)(V:gX)(w:fq)(a:lR):Prop:=w.ownsRow 0 t z (qQ a) a.2.1<|ql a.2.1 V
def aag (la:iD)(c b:Nat)(a:lR):Prop:=(a.1=la/\a.2.2=c)\/(∃g,a.1=fh ⟨g,0,fj⟩/\b<=g)
def sj (t tl:ni)(z:Nat)(V:gX)(i:Nat)(w J:fq)(W q:Nat)(cs:Array fu)(ea:iD)(ec:Nat)(la:iD)(m c:Nat)(hs:List lR):Prop:=
 ∃(a c4:Nat) (b d e:lR),J.heap[W]?=fh (.cells (cs.setIfInBounds i<|fy (fh ⟨a,0,fj⟩) (4*q+4) c4) 71 (0,0))/\
  J.ownsRow 0 tl 1 (fy (fh ⟨a,0,fj⟩) (4*q+4) c4) (4*q+4) ((hs++[(la,m,c),b,d,e]).map qQ)/\b.2.1=m+1/\d.2.1=m+2/\e.2.1=m+3/\
  (∀f∈[((la,m,c):lR),b,d,e],uC t z V J f/\aag la c w.heap.size f)/\
  ((fh a:Option Nat)=(Value.slice ea (4*q) ec).ownBlock\/w.heap.size<=a)/\
  fH (λx=>x=W\/fh x=(Value.slice ea (4*q) ec).ownBlock\/fh x=(Value.slice la m c).ownBlock) w J
structure zb (F:Nat->Prop)(t tl:ni)(z:Nat)(V:Nat->gX)(w:World)(ea:iD)(ec q:Nat)(hs:List lR):Prop where
 len:hs.length=4*q
 row:w.ownsRow 0 tl 1 (.slice ea (4*q) ec) (4*q) (hs.map qQ)
 own:∀g,(Value.slice ea (4*q) ec).ownBlock=some g->F g
 lists:∀i (hi:i<hs.length),hs[i].2.1<=1000000000/\uC t z (V (i / 4)) w hs[i]/\∀g,(qQ hs[i]).ownBlock=some g->F g
 lt:∀k,F k->k<w.heap.size
theorem Xw{n m c d}:(Value.slice la n c).ownBlock=(Value.slice la m d).ownBlock:=by cases la<;>rfl
section
variable {V:Nat->gX}{hs:List lR}
theorem zb.keep(a:zb F t tl z V w ea ec q hs)(c:∀k,F k->J.heap[k]?=w.heap[k]?)(d:w.heap.size<=J.heap.size):zb F t tl z V J ea ec q hs:=
 ⟨a.len,gg a.row λg b=>c g<|a.own g b,a.own,λi U=>⟨(a.lists i U).1,gg (a.lists i U).2.1 λg b=>c g<|(a.lists i U).2.2 g b,(a.lists i U).2.2⟩,λk e=>nz (a.lt k e) d⟩
theorem zb.next{cs}(b:zb F t tl z V w ea ec q hs)(B:t≠tl)(h:sj t tl z (V q) i w J W q cs ea ec la m c hs)(U:¬F W)
  (LA:∀g,(Value.slice la m c).ownBlock=fh g->¬F g/\g<w.heap.size)(X:m+3<=1000000000):
  ∃l c4 C,J.heap[W]?=fh (.cells (cs.setIfInBounds i<|my l 0 (4*(q+1)) c4) 71 (0,0))/\zb (λk=>F k\/fh k=(Value.slice la m c).ownBlock\/(w.heap.size<=k/\k<J.heap.size)) t tl z V J (fh<|ie l 0) c4 (q+1) C/\fH (λx=>x=W\/F x\/fh x=(Value.slice la m c).ownBlock) w J:=by
 obtain⟨l,c4,D,E,G,H,o,Y,Z,aa,I,K,f⟩:=h;have p:=f.size;refine⟨l,c4,_,H,⟨?_,o,?_,?_,?_⟩,f.os,f.tape,f.output,p,λk L M=>f.block k L λe=>M<|e.imp_right (Or.imp_left λe=>b.own k e.symm)⟩;simp[b.len];omega;intro g a;simp only[Value.ownBlock,pW]at a;subst a;rcases K with e|e
 exact .inl<|b.own _ e.symm;exact .inr<|.inr ⟨e,gc o fX⟩;intro j N;by_cases r:j<fv hs;rw[KS r];obtain⟨O,s,u⟩:=b.lists j r;refine⟨O,gg s λx n=>f.block x (b.lt x<|u x n) ?_,λg a=>.inl<|u g a⟩;rintro(e|e|e)
 grind
 exact PH s b.row B n e
 grind
 obtain⟨d,rfl⟩:∃d,j=fv hs+d:=⟨j-fv hs,by omega⟩;have ab:d<4:=by simp at N;omega
 rw[List.getElem_append_right<|by omega];have P:(fv hs+d) / 4=q:=by rw[b.len];omega
 simp only[Nat.add_sub_cancel_left,P];have ac:∀x∈[((la,m,c):lR),D,E,G],x.2.1<=1000000000->x.2.1<=1000000000/\uC t z (V q) J x/\∀g,(qQ x).ownBlock=fh g->F g\/fh g=(Value.slice la m c).ownBlock\/(w.heap.size<=g/\g<J.heap.size):=λx n Q=>by
  obtain⟨v,R⟩:=I x n;refine⟨Q,v,λg a=>.inr ?_⟩;rcases R with⟨y,A⟩|⟨S,y,A⟩
  exact .inl (by grind [qQ,Xw]);have T:S=g:=by
   unfold qQ at a;rw[y]at a;exact rK a
  subst T;exact .inr ⟨A,gc v a⟩
 grind
 rintro k (h|h|h);exact nz (b.lt k h) p
 all_goals grind
end
def VE (i:Nat):gX:=pB<|mkQ i
abbrev Held (FH:Nat->Prop)(w:World)(ea:iD)(ec q:Nat)(hs:List lR):Prop:=zb FH 96 55 3 VE w ea ec q hs
section
variable {hs:List lR}
theorem W3.block(a:W3 ft E I b6 w W s r A O c5 c6 c7 c8 c9 R c11):∃b c d e f,w.heap[W]?=fh (.cells #[b,c,d,e,f,c5,c6,c7,c8,c9,R,c11] 71 (0,0)):=by
 obtain⟨_,_,_,_,_,_,_,g,_⟩:=a.law;exact⟨_,_,_,_,_,g.hW⟩
theorem Jy{p u x y z:fu}(a:W3 ft E I b6 w W s r A O c5 c6 c7 c8 (fy ea (4*q) ec) R c11)(K:Held FH w ea ec q hs)(B:∀k,FH k->¬F3 E I b6 k)(ai:m<=16)
  (LA:∀g,(Value.slice la m m).ownBlock=fh g->¬F3 E I b6 g/\¬FH g/\g<w.heap.size)(L:w.heap[W]?=fh (.cells #[p,u,x,y,z,c5,c6,c7,c8,fy ea (4*q) ec,R,c11] 71 (0,0)))
  (b:sj 96 55 3 (VE q) 9 w J W q #[p,u,x,y,z,c5,c6,c7,c8,fy ea (4*q) ec,R,c11] ea ec la m m hs):
  ∃i C D j,W3 ft E I b6 J W s r A O c5 c6 c7 c8 (fy C (4*(q+1)) D) R c11/\Held i J C D (q+1) j/\(∀k,i k->¬F3 E I b6 k)/\(∀k,i k->FH k\/w.heap.size<=k\/fh k=(Value.slice la m m).ownBlock)/\
   fH (λk=>k=W\/FH k\/fh k=(Value.slice la m m).ownBlock) w J:=by
 have fW:E W:=by obtain⟨_,_,_,_,_,_,_,c,_⟩:=a.law;exact c.fw
 obtain⟨F,c4,j,M,N,l⟩:=K.next (by decide) b (λf=>B W f<|.inl fW) (λg h=>(LA g h).2) (by omega);have keep:∀k,F3 E I b6 k->k<w.heap.size->k≠W->J.heap[k]?=w.heap[k]?:=λk G P Q=>l.block k P (by
  rintro(e|e|e);exact Q e;exact B k e G;exact(LA k e.symm).1 G)
 have S:mG E J W s r (fv A) c5 c6 c7 c8 (my F 0 (4*(q+1)) c4) R c11:=by
  obtain⟨T,U,V,X,Y,Z,aa,c,ab⟩:=a.law;have row:∀{t:ni}{v:fu}{n:Nat}{xs:gX},w.ownsRow 0 t 1 v n xs->71≠t->(∀g,v.ownBlock=fh g->E g)->J.ownsRow 0 t 1 v n xs:=λo ac f=>gg o λg h=>keep g (.inl<|f g h) (gc o h) λe=>il o c.hW ac (by grind);refine⟨T,U,V,X,Y,Z,aa,⟨c.fw,?_,row c.rV (by decide) c.fi,row c.ur (by decide) c.fk,row c.uu (by decide) c.fp,c.fi,c.fk,c.fp⟩,ab⟩;have e:=L.symm.trans c.hW;simp only[pW,Obj.cells.injEq,Array.mk.injEq,Ce,Eg]at e;obtain⟨ad,ae,af,ag,ah⟩:=e;rw[M,ad,ae,af,ag,ah];rfl
 have H:∀k,I k\/b6 k->k≠W:=λk b e=>by
  rcases b with d|d
  exact(a.sep.rl k d).2<|e▸fW;exact(a.sep.sl k d).2<|e▸fW
 refine⟨_,fh<|ie F 0,c4,j,⟨S,a.ref.keep (λ_ a=>a) λk b=>keep k (.inr<|.inl b) (a.sep.rl k b).1<|H k (.inl b),iP.keep a.yl (λ_ a=>a) λk b=>keep k (.inr<|.inr b) (a.sep.sl k b).1<|H k (.inr b),a.twin,a.at_,a.sep.below l.size⟩,N,?_,?_,l⟩;rintro k (b|b|b) f
 grind
 grind
 have:k<w.heap.size:=by
  rcases f with d|d|d
  exact a.sep.ll k d;exact(a.sep.rl k d).1;exact(a.sep.sl k d).1
 omega
 grind
def vN (ft:PTp)(E I b6 FH:Nat->Prop)(w J:fq)(W s r q:Nat)(c5 c6 c7 c8 R c11:fu):Prop:=
 ∃Sg Sh Si a H Z b c d,W3 ft Sg Sh Si J W s r H Z c5 c6 c7 c8 (fy b (4*q) c) R c11/\Held a J b c q d/\(∀k,a k->¬F3 Sg Sh Si k)/\
  zN E I b6 Sg Sh Si w.heap.size/\(∀k,a k->FH k\/w.heap.size<=k)/\fH (λk=>F3 E I b6 k\/FH k) w J
theorem Bg(d:W3 ft E I b6 w W s r A O c5 c6 c7 c8 (fy ea (4*q) ec) R c11)(c:Held FH w ea ec q hs)(g:∀k,FH k->¬F3 E I b6 k)(h:Stepped ft E I b6 w J W s r c5 c6 c7 c8 (fy ea (4*q) ec) R c11):vN ft E I b6 FH w J W s r q c5 c6 c7 c8 R c11:=by
 obtain⟨Sg,Sh,Si,H,Z,i,f,a⟩:=h;refine⟨Sg,Sh,Si,FH,H,Z,ea,ec,hs,i,c.keep (λk b=>a.block k (c.lt k b)<|g k b) a.size,λk b j=>?_,f,λk l=>.inl l,⟨a.os,a.tape,a.output,a.size,λk m n=>a.block k m λd=>n<|.inl d⟩⟩;rcases f.all k j with e|e
 grind
 have:=c.lt k b
 omega
end
theorem oB(n)(V):fv (ql n V)=n*fv V:=by simp[ql,List.length_flatten]
theorem uD(n m:Nat)(V:gX):ql (n+m) V=ql n V++ql m V:=by unfold ql;rw[<-List.replicate_append_replicate,List.flatten_append]
theorem Sm(V):ql 1 V=V:=by simp[ql]
theorem flb{V:gX}(n)(b:∀u∈V,u.oneCell'=fm):∀u∈ql n V,u.oneCell'=fm:=λu a=>by
 have⟨l,c,a⟩:=List.mem_flatten.1 a
 rw[List.eq_of_mem_replicate c]at a
 exact b u a
theorem Vt{xs ys:gX}(d:w.ownsRow b t z (my g 0 n c) n (xs++ys))(e:fv xs=m*z)(p:m<=n):w.ownsRow b t z (my g 0 m c) m xs:=by
 have⟨q,f⟩:=d;rcases f with⟨a,_⟩|⟨r,h,i,a,j,k,s,l,o,u⟩
 cases a;cases a;refine⟨e,.inr ⟨g,c,i,fX,j,k,by omega,l,o,?_⟩⟩
 grind [List.take,List.take_left,HP,EH]
def Room (w J:fq)(la:iD)(c:Nat)(a:fu)(n:Nat):Prop:=
 (w.grownBy J fj/\∃g h,a=fy (fh ⟨g,0,fj⟩) n h/\w.heap.size<=g)\/(∃g,la=fh ⟨g,0,fj⟩/\a=fy (fh ⟨g,0,fj⟩) n c/\w.grownBy J (fh g))
theorem Ek{P:Program}{ops:Array Oper}{rest:List Oper}{o:Oper}{a:Act}{Q:Exit->Act->fq->Prop}(D:o.guard=fj)(s x:Operand)(t:ni)
  (E:o.op=.call { callee:=.builtin .append,args:=#[s,x],argTypes:=#[t,t] })
  (e:ni)(i:TypeInfo)(z:fu)(bytes:Nat)(V:gX)(q:P.underlying t=fh (.slice e))(U:P.info? e=fh i)(F:i.zero=fh z)
  (r:i.size=fv V)(G:i.bytes=bytes)(H:z.cells.size=fv V)(l:0<fv V)(W:∀u∈V,u.oneCell'=fm)
  (la:iD)(n c)(hs:a.eval s=fy la n c)(v:w.ownsRow 0 e (fv V) (fy la n c) n (ql n V))
  (f:Addr)(m p:Nat)(af:0<m)(I:a.eval x=fy (fh f) m p)(y:∀j u,(ql m V)[j]?=fh u->w.cell? (f.add j)=fh u)
  (K:n+m<=maxLen)(L:(n+m)*bytes<=140737488355328)
  (M:∀k J,J.ownsRow 0 e (fv V) k (n+m) (ql (n+m) V)->Room w J la c k (n+m)->wpList P ops Q rest (a.put o.dst k) J):wpList P ops Q (o::rest) a w:=by
 have A:=oB m V;have B:=flb m W;have grow:c<n+m->(la=fj->n=0/\c=0)->(∀b,la=fh b->∀j u,(ql n V)[j]?=fh u->w.cell? (b.add j)=fh u)->wpList P ops Q (o::rest) a w:=λX Y Z=>by
  apply wpList_append_grows w D s x t E e i z (fv V) bytes q U F r G H l la n c (ql n V) hs Y (oB n V) Z f m p (ql m V) I A y B X K L;intro k J d C;rw[<-uD]at d;obtain⟨g,h,rfl⟩:=hh d (by omega);exact M _ J (tR d<|Fr _)<|.inl ⟨C,g,h,fX,(d.lt g fX).1⟩
 rcases v.2 with⟨d,ag⟩|⟨g,h,aa,d,N,C,ah,ai,ab,aj⟩
 grind
 cases d;by_cases O:n+m<=c;have⟨k,J,R,S,ac,_⟩:=slt (P:=P) w 0 t o.type e i z (fv V) bytes q U F r G H l _ n _ v f m p (ql m V) A y B K L<|Fr _;have T:=run_append_room (P:=P) w t o.type e i q U g n c aa C f m p (ql m V) (by grind) y B O (by rw[r,A,ab,<-Nat.add_mul];exact EH _ O);rw[R]at T;have ad:=(Result.ok.inj T).1;subst ad;rw[<-uD]at S;refine cpu D λ_ ae=>?_
 unfold Oper.wp;simp[execOp,E,resolve,invoke,builtin,hs,I,R,Result.andThen];exact ae _ _<|M _ J S (.inr ⟨g,fX,fX,ac⟩);exact grow (by omega) (λl=>by cases l) (λb N=>by cases N;exact v.cells (g:=g) fX)
structure nL (t:ni)(V:gX)(w:World)(la:iD)(k c:Nat)(wr:World)(vs:List lR):Prop where
 keeps:fH (fun x=>some x=(Value.slice la k c).ownBlock) w wr
 all:∀h∈(la,k,c)::vs,uC t V.length V wr h/\aag la c w.heap.size h/\h.2.1<=k+vs.length
 old:∀g,la=some ⟨g,0,none⟩->g<w.heap.size
section
variable {V:gX}{vs:List lR}
def nL.row(a:nL t V w la k c wr vs)(o):(wr.alloc o).ownsRow 0 t (fv V) (fy la k c) k (ql k V):=rJ (a.all _<|oN ..).1 _
theorem nL.next(f:nL t V w la k c wr vs){o}{m}{d:fq}(p:d.ownsRow 0 t (fv V) m n (ql n V))(q:Room (wr.alloc o) d la c m n)(H:n=k+fv vs+1):∃i j,m=fy i n j/\nL t V w la k c d (vs++[(i,n,j)])/\wr.heap.size<d.heap.size:=by
 have I:=f.keeps.size;obtain⟨i,j,rfl,B⟩:∃i j,m=fy i n j/\aag la c w.heap.size (i,n,j):=by
  rcases q with⟨_,g,h,rfl,a⟩|⟨g,rfl,rfl,_⟩
  exact⟨fh<|ie g 0,h,fX,.inr ⟨g,fX,by simp at a;omega⟩⟩;exact⟨fh<|ie g 0,c,fX,.inl ⟨fX,fX⟩⟩
 have C:∀own,(wr.alloc o).grownBy d own->(∀x,fh x=own->fh x=(Value.slice la k c).ownBlock)->wr.heap.size<d.heap.size/\fH (λx=>fh x=(Value.slice la k c).ownBlock) w d:=λown a D=>by
  have hs:=a.size;simp at hs;refine⟨by omega,a.os.trans f.keeps.os,a.tape.trans f.keeps.tape,a.output.trans f.keeps.output,by omega,λx b v=>?_⟩;rw[a.block x (by simp;omega) λe=>v<|D x e,sK _ _ _<|by omega];exact f.keeps.block x b v
 have z:wr.heap.size<d.heap.size/\fH (λx=>fh x=(Value.slice la k c).ownBlock) w d:=by
  rcases q with⟨a,_⟩|⟨g,rfl,_,a⟩
  grind
  exact C _ a (λx b=>by rw[b];rfl)
 refine⟨i,j,fX,⟨z.2,λx b=>?_,f.old⟩,z.1⟩;rw[<-Ea]at b;rcases qJ.1 b with b|b
 have⟨E,A,F⟩:=f.all x b;refine⟨?_,A,by simp;omega⟩;have hs:(wr.alloc o).ownsRow 0 t (fv V) (qQ x) x.2.1 (ql x.2.1 V):=rJ E _;rcases q with⟨a,_⟩|⟨g,rfl,G,a⟩
 exact gg hs λy r=>a.block y (gc hs r) (by simp);rcases A with⟨s,u⟩|⟨J,s,u⟩
 have⟨K,l,L⟩:=x;simp only at s u F;subst s;subst u;rw[G,show n=l+(n-l) by omega,uD]at p;exact Vt p (oB _ _) (show l<=l+(n-l) by omega);have M:=f.old g fX;refine gg hs λy r=>a.block y (gc hs r) λe=>?_
 grind [qQ,Value.ownBlock,pW]
 rw[om.1 b];exact⟨p,B,by simp;omega⟩
end
structure iK (t:ni)(V:gX)(w:World)(la:iD)(m c:Nat)(wr:World)(k:Nat):Prop where
 keeps:fH (fun x=>some x=(Value.slice la m c).ownBlock) w wr
 row:∃rest:gX,rest.length=(m-k)*V.length/\wr.ownsRow 0 t V.length (.slice la m c) m (ql k V++rest)
 old:∀g,la=some ⟨g,0,none⟩->g<w.heap.size
section
variable {V:gX}
theorem iK.first(a:w.ownsRow 0 t (fv V) (fy la m c) m xs)(b:ju w wr):iK t V w la m c wr 0:=
 ⟨fH.fK b,⟨xs,by rw[Nat.sub_zero];exact a.1,gg a λx d=>b.block x<|gc a d⟩,λg e=>by subst e;exact gc a fX⟩
theorem iK.cells(d:iK t V w la m c wr k)(f:k<m):∃g,la=fh (ie g 0)/\g<wr.heap.size/\g<w.heap.size/\(∀j,wr.frozen? (ie g j)=fo)/\∀j,j<fv V->∃v,wr.cell? (ie g<|k*fv V+j)=fh v:=by
 have⟨rest,l,a⟩:=d.row;have⟨g,n,h⟩:=hh a (by omega);have i:=(lK h).1;subst i;have e:∀j,j<fv V->k*fv V+j<m*fv V:=λj b=>nz (by rw[Rt];omega:k*fv V+j<(k+1)*fv V)<|EH _ f;refine⟨g,fX,gc a fX,d.old g fX,λj=>a.frozenAt j,λj b=>?_⟩;rw[a.cellAt _<|e j b];exact⟨_,jG (by rw[a.1];exact e j b)⟩
theorem iK.done(a:iK t V w la m c wr m):nL t V w la m c wr []:=by
 have⟨rest,b,d⟩:=a.row;rw[EK,cwd]at b;rw[KQ b,lJ]at d;refine⟨a.keeps,λx e=>?_,a.old⟩;rw[om.1 e];exact⟨d,.inl ⟨fX,fX⟩,lw _⟩
theorem uE{a rest:gX}{x:fu}(b:wr.ownsRow 0 t z (my g 0 N C) N (a++x::rest))(v)(c:j=fv a):(wr.setCell (ie g j) v).ownsRow 0 t z (my g 0 N C) N ((a++[v])++rest):=by
 subst c
 have:=(b.stored (fv a) v).1
 grind
theorem pL(a:fH (λx=>fh x=(Value.slice (fh<|ie g 0) N c).ownBlock) w wr):fH (λx=>fh x=(Value.slice (fh<|ie g 0) N c).ownBlock) w (wr.setCell (ie g j) v):=
 ⟨a.os,a.tape,a.output,by simpa using a.size,λx d b=>by rw[sI _ _ _ _ λe=>b (by rw[e];rfl)];exact a.block x d b⟩
theorem iK.aaO(b:iK t [v] w (fh<|ie g 0) m c wr k)(e:k<m):iK t [v] w (fh<|ie g 0) m c (wr.setCell (ie g k) v) (k+1):=by
 have⟨rest,a,d⟩:=b.row
 match rest,a,d with
 |[],a,_=>simp at a;omega
 |x::r,a,d=>
  refine⟨pL b.keeps,⟨r,by simp at a |-;omega,?_⟩,b.old⟩
  grind [uD,Sm,uE,oB]
theorem iK.aaP(b:iK t [u,v] w (fh<|ie g 0) m c wr k)(e:k<m):iK t [u,v] w (fh<|ie g 0) m c ((wr.setCell (ie g<|k*2) u).setCell (ie g<|k*2+1) v) (k+1):=by
 have⟨rest,a,d⟩:=b.row
 match rest,a,d with
 |[],a,_=>simp at a;omega
 |[_],a,_=>(rw[Ca,lg,Ca]at a;omega)
 |x::y::r,a,d=>
  refine⟨pL<|pL b.keeps,⟨r,by simp at a |-;omega,?_⟩,b.old⟩
  have:=uE (uE d u (by rw[oB])) v (j:=k*2+1) (by rw[lI,oB];rfl)
  grind [uD,Sm]
theorem iK.aaQ{u v y:fu}(b:iK t [u,v,y] w (fh<|ie g 0) m c wr k)(e:k<m):iK t [u,v,y] w (fh<|ie g 0) m c (((wr.setCell (ie g<|k*3) u).setCell (ie g<|k*3+1) v).setCell (ie g<|k*3+2) y) (k+1):=by
 have⟨rest,a,d⟩:=b.row
 match rest,a,d with
 |[],a,_=>simp at a;omega
 |[_],a,_=>simp at a;omega
 |[_,_],a,_=>simp at a;omega
 |_::_::_::r,a,d=>
  refine⟨pL<|pL (pL b.keeps),⟨r,by simp at a |-;omega,?_⟩,b.old⟩
  have:=uE (uE (uE d u (by rw[oB])) v (j:=k*3+1) (by rw[lI,oB];rfl)) y (j:=k*3+2) (by simp[oB])
  grind [uD,Sm]
end
section
variable {V:gX}{vs:List lR}
structure jS (tl:ni)(W i:Nat)(w0:World)(NS:Option Nat)(cs:Array Value)(wr:World)(a:iD)(n cap:Nat)(ys:gX):Prop where
 ib:i<cs.size
 hW:wr.heap[W]?=some (.cells (cs.setIfInBounds i (.slice a n cap)) 71 (0,0))
 row:wr.ownsRow 0 tl 1 (.slice a n cap) n ys
 loc:∀g,(Value.slice a n cap).ownBlock=some g->some g=NS\/w0.heap.size<=g
 keeps:fH (fun x=>x=W\/some x=NS) w0 wr
theorem jS.first(b:w0.heap[W]?=fh (.cells cs 71 (0,0)))(U:cs[i]?=fh (fy a n h))(row:w0.ownsRow 0 tl 1 (fy a n h) n ys):jS tl W i w0 (Value.slice a n h).ownBlock cs w0 a n h ys:=by
 have⟨c,d⟩:=lH.1 U;have e:cs.setIfInBounds i (fy a n h)=cs:=Array.ext (by simp) λj k l=>by
  rw[Array.getElem_setIfInBounds];split
  rename_i e
  subst e;exact d.symm;rfl
 exact⟨c,by rw[e];exact b,row,λg f=>.inl f.symm,fH.refl _⟩
theorem jS.cells(b:jS tl W i w0 NS cs wr a n h ys):W<wr.heap.size/\wr.c W i=fh (fy a n h)/\wr.frozen? (ie W i)=fo:=by
 have:=b.ib
 exact⟨(lH.1 b.hW).1,by simp[World.cell?,b.hW,this],by simp[World.frozen?,b.hW]⟩
theorem jS.next(c:jS tl W i w0 NS cs wr a n h ys)(l:71≠tl){o}{y v:fu}(m:w1.ownsRow 0 tl 1 v N (ys++[y]))(p:(wr.alloc o).grownBy w1 (Value.slice a n h).ownBlock)(q:v.ownBlock=(Value.slice a n h).ownBlock\/v.ownBlock=fh b)(r:wr.heap.size<=b)(s:N=n+1):
  ∃g d,v=(my g 0 N d)/\(W<w1.heap.size/\w1.c W i=fh (fy a n h)/\w1.frozen? (ie W i)=fo)/\jS tl W i w0 NS cs (w1.setCell (ie W i)<|my g 0 N d) (fh<|ie g 0) N d (ys++[y]):=by
 subst s;obtain⟨g,d,rfl⟩:=hh m (by omega);obtain⟨t,u,w,f⟩:=jh (i:=i) c.hW c.row l (Sx _ _) (by simp) ⟨fX,fX,fX⟩ m p q r;have k:=mX c.hW (Sx _ _) (by simp) p<|il c.row c.hW l;refine⟨g,d,fX,⟨(lH.1 k).1,by simp[World.cell?,k,c.ib],by simp[World.frozen?,k]⟩,c.ib,by simpa using t,u,λx j=>?_,⟨f.os.trans c.keeps.os,f.tape.trans c.keeps.tape,f.output.trans c.keeps.output,ww c.keeps.size f.size,λx j z=>(f.block x (nz j c.keeps.size) ?_).trans<|c.keeps.block x j z⟩⟩;simp only[Value.ownBlock,pW]at j;subst j;rcases w with e|e
 exact c.loc _ e.symm;exact .inr<|ww c.keeps.size e;rintro(e|e);omega;rcases c.loc x e.symm with A|A
 all_goals grind
def Ik (T t:ni)(V:gX):Prop:=∃z b,prog.underlying T=fh (.slice t)/\(∀u∈V,u.oneCell'=fm)/\(prog.info? t).map (λi=>(i.zero,i.size,i.bytes))=fh (fh z,fv V,b)/\z.cells.size=fv V/\0<fv V/\b<=1000
theorem nL.wp(g:fe (nL t V w la k c wr vs))(h:Ik T t V)(i:o.guard=fj)(f:o.op=.call { callee:=.builtin .append,args:=#[x,y],argTypes:=#[T,T] })(hs:act.eval x=fy la k c)(j:act.eval y=my wr.heap.size 0 m m)(H:m=fv vs+1)(I:k<=1000000000/\m<=9)(l:J=wr.alloc (.cells (ql m V).toArray tt))
  (n:∀d e a,wr.heap.size<a.heap.size->fe (nL t V w la k c a<|vs++[(d,k+m,e)])->wpList prog ops Q rest (act.put o.dst<|fy d (k+m) e) a):wpList prog ops Q (o::rest) act J:=by
 subst l;have⟨z,b,p,q,r,s,u,v⟩:=h;have⟨A,U,B,C,D⟩:=kM r;refine Ek i x y T f t A z b V p U B C D s u q la k c hs (g.o.row _) _ m m (by omega) j (Xo wr _ _) (by unfold maxLen;omega) (ww (Nat.mul_le_mul (show k+m<=1000000009 by omega) v)<|by decide) ?_;intro K a f E;obtain⟨d,e,rfl,F,G⟩:=g.o.next f E (by omega);exact n d e a G F
theorem jS.wp{e}(f:fe (jS tl W i w0 NS cs wr a n h ys))(j:71≠tl)(k:Ik T tl [fy fj 0 0])(l:u.oneCell'=fm)(N:n<=4000000009)(m:o.guard=fj)(d:o.op=.call { callee:=.builtin .append,args:=#[x,y],argTypes:=#[T,T] })(hs:act.eval x=fy a n h)(p:act.eval y=my e 0 1 1)(q:e=wr.heap.size)(r:J=wr.k #[u] tt)
  (s:∀g c w1,W<w1.heap.size->w1.c W i=fh (fy a n h)->w1.frozen? (ie W i)=fo->fe (jS tl W i w0 NS cs (w1.setCell (ie W i)<|my g 0 (n+1) c) (fh<|ie g 0) (n+1) c<|ys++[u])->wpList prog ops Q rest (act.put o.dst<|my g 0 (n+1) c) w1):wpList prog ops Q (o::rest) act J:=by
 subst r;have⟨z,b,t,O,v,w,_,A⟩:=k;have⟨B,C,D,E,F⟩:=kM v;refine yi m x y T d 0 tl B z 1 b t C D E F w (by decide) _ _ ys hs (rJ f.o.row _) _ 1 1 [u] p fX (one_cell _ _ _ _ q) (by simp[l]) (by unfold maxLen;omega) (ww (Nat.mul_le_mul (show n+1<=4000000010 by omega) A)<|by decide) (Fr _) ?_;intro P w1 d G H;obtain⟨g,c,rfl,⟨I,K,L⟩,M⟩:=f.o.next j d G H (by simp) fX;exact s g c w1 I K L M
theorem NZ{q m j c4:Nat}{J wc}{hs:List lR}{d f g:lR}(b:nL t V w la m c wc [d,f,g])(o:wc.heap[W]?=fh (.cells cs 71 (0,0)))(row:wc.ownsRow 0 tl 1 (fy ea (4*q) ec) (4*q) (hs.map qQ))(p:t≠tl)(r:71≠t)
  (a:jS tl W i wc (Value.slice ea (4*q) ec).ownBlock cs J (fh<|ie j 0) (4*q+1+1+1+1) c4 (hs.map qQ++[qQ (la,m,c),qQ d,qQ f,qQ g]))(s:d.2.1=m+1)(u:f.2.1=m+2)(v:g.2.1=m+3):sj t tl (fv V) V i w J W q cs ea ec la m c hs:=by
 refine⟨j,c4,d,f,g,a.hW,by simpa using a.row,s,u,v,λx z=>?_,(a.loc j fX).imp id<|ww b.keeps.size,⟨a.keeps.os.trans b.keeps.os,a.keeps.tape.trans b.keeps.tape,a.keeps.output.trans b.keeps.output,ww b.keeps.size a.keeps.size,λk l A=>?_⟩⟩;have⟨h,B,_⟩:=b.all x z;refine⟨gg h λy n=>a.keeps.block y (gc h n) ?_,B⟩;rintro(e|e);exact il h o r (by grind);exact PH h row p n e;rw[a.keeps.block k (nz l b.keeps.size) (by grind)];exact b.keeps.block k l λe=>A<|.inr (.inr e)
theorem zP(b:w.ownsRow 0 t (fv V) (fy la m c) m xs)(a:w.heap[W]?=fh (.cells cs 71 (0,0)))(row:w.ownsRow 0 tl 1 (fy ea n ec) n ys)(h:71≠t)(i:tl≠t)(d:nL t V w la m c wr vs):wr.heap[W]?=fh (.cells cs 71 (0,0))/\wr.ownsRow 0 tl 1 (fy ea n ec) n ys:=⟨(d.keeps.block W (lH.1 a).1 λe=>il b a h e).trans a,gg row λg f=>d.keeps.block g (gc row f) λe=>PH row b i f e⟩
theorem Oa(V:gX)(b:w.heap[W]?=fh (.cells cs 71 (0,0)))(row:w.ownsRow 0 tl 1 (fy ea n ec) n ys)(a:w.ownsRow 0 t (fv V) (fy la m c) m xs)(h:71≠t)(i:tl≠t):
  iK t V (w.k V.toArray t) la m c (w.k V.toArray t) 0/\ju w (w.k V.toArray t)/\(∀wr,fH (λx=>fh x=(Value.slice la m c).ownBlock) (w.k V.toArray t) wr->w.heap.size<wr.heap.size/\∀j v,V[j]?=fh v->wr.c w.heap.size j=fh v)/\(∀g,la=fh (ie g 0)->g<w.heap.size)/\
   ∀{wr vs},nL t V (w.k V.toArray t) la m c wr vs->wr.heap[W]?=fh (.cells cs 71 (0,0))/\wr.ownsRow 0 tl 1 (fy ea n ec) n ys:=by
 have d:ju w (w.k V.toArray t):=(mi _ _).alloc (lw _) _;have f:=a.alloc<|.cells V.toArray t;refine⟨iK.first f<|mi _ _,d,λwr k=>?_,λg l=>by subst l;exact gc a fX,λo=>zP f ((d.block W (lH.1 b).1).trans b) (row.alloc<|.cells V.toArray t) h i o⟩;have p:=k.block w.heap.size (by simp) (λe=>by have:=gc a e.symm;omega)
 grind [oO,lH,World.cell?]
theorem sj.fK{hs}(a:ju w w1)(e:sj t tl z V i w1 J W q cs ea ec la m c hs):sj t tl z V i w J W q cs ea ec la m c hs:=by
 have⟨f,c4,h,j,k,l,n,o,p,r,b,s,u⟩:=e;exact⟨f,c4,h,j,k,l,n,o,p,r,λx d=>⟨(b x d).1,(b x d).2.imp id λ⟨g,v,y⟩=>⟨g,v,ww a.size y⟩⟩,s.imp id<|ww a.size,u.after a⟩
end
def ti2:(prog.info? 121).map (λi=>(i.zero,i.size,i.bytes))=fh (fh<|fy fj 0 0,1,24):=by kernel_rfl
theorem Sn:∀u∈[Value.string kq,fY M],u.oneCell'=fm:=by intro u a;simp at a;rcases a with rfl|rfl<;>rfl
theorem Sp:∀u∈[Value.string kq,fY M,fY 0],u.oneCell'=fm:=by intro u a;simp at a;rcases a with rfl|rfl|rfl<;>rfl
def VC (q:Nat):gX:=[fA ⟨#[]⟩,.int .i64<|-1000-(q:Int)]
theorem zQ(W q:Nat)(cs:Array fu)(ea:iD)(ec m c:Nat)(la)(hs:List lR)(xs:gX)(w:fq)(h:w.heap[W]?=fh (.cells cs 71 (0,0)))(V:4*q<=1000000000)(r:m<=1000000000):
  (cs[10]?=fh (fy ea (4*q) ec)->w.ownsRow 0 121 1 (fy ea (4*q) ec) (4*q) (hs.map qQ)->w.ownsRow 0 133 2 (fy la m c) m xs->ik 56 #[fB<|fh (ie W 8),fy la m c] w λe J=>e=qr #[]/\sj 133 121 2 (VC q) 10 w J W q cs ea ec la m c hs)/\
  (cs[9]?=fh (fy ea (4*q) ec)->w.ownsRow 0 55 1 (fy ea (4*q) ec) (4*q) (hs.map qQ)->w.ownsRow 0 96 3 (fy la m c) m xs->ik 44 #[fB<|fh (ie W 8),fy la m c] w λe J=>e=qr #[]/\sj 96 55 3 (VE q) 9 w J W q cs ea ec la m c hs):=by
 have X:W<w.heap.size:=(lH.1 h).1;have Y:((4*q:Nat):Int) / 4=(q:Int):=by omega
 have Z:(4*(q:Int)) / 4=(q:Int):=by omega
 constructor
 case' left=>
  intro l row n;have o:Ik 121 133 [hZ kq,fY<|-1000-(q:Int)]:=⟨_,_,underlying121,Sn,dep,fX,by simp,by decide⟩;have j:Ik 66 121 [fy fj 0 0]:=⟨_,_,underlying66,yh,ti2,fX,by simp,by decide⟩;have E:w.c W 10=fh (fy ea (4*q) ec):=by simp[World.cell?,h,l]
  have b:fe _:=Oa [hZ kq,fY<|-1000-(q:Int)] h row n (by decide) (by decide);obtain⟨d,s⟩:∃d:fq->Nat->Prop,d=iK 133 [hZ kq,fY<|-1000-(q:Int)] (w.k #[hZ kq,fY<|-1000-(q:Int)] 133) la m c:=⟨_,fX⟩
 case' right=>
  intro l row n;have o:Ik 55 96 [hZ kq,fY<|-1000-(q:Int),fY 0]:=⟨_,_,underlying55,Sp,Vp,fX,by simp,by decide⟩;have j:Ik 65 55 [fy fj 0 0]:=⟨_,_,underlying65,yh,ti1,fX,by simp,by decide⟩;have E:w.c W 9=fh (fy ea (4*q) ec):=by simp[World.cell?,h,l]
  have b:fe _:=Oa [hZ kq,fY<|-1000-(q:Int),fY 0] h row n (by decide) (by decide);obtain⟨d,s⟩:∃d:fq->Nat->Prop,d=iK 96 [hZ kq,fY<|-1000-(q:Int),fY 0] (w.k #[hZ kq,fY<|-1000-(q:Int),fY 0] 96) la m c:=⟨_,fX⟩
 all_goals
  have t:fe _:=s;clear n row s
  first|go_enter func56,ntmps56|go_enter func44,ntmps44
  go_wp2
  go_loopw [5] (λi wr=>∃k:Nat,k<=m/\i=.int .i64 (k:Int)/\fe (d wr k)) (λi _=>m-(intOf i).toNat)
  case atStart=>exact⟨0,Fr _,rfl,by rw[t.o];exact b.o.1⟩
  case round=>
   obtain⟨k,aa,rfl,f⟩:=hrel;rw[t.o]at f;obtain⟨ab,a⟩:=b.o.2.2.1 wr f.o.keeps;have ac:=a 0 _ fX;have ad:=a 1 _ fX
   try have ae:=a 2 _ fX
   clear a;by_cases u:k<m
   ·obtain⟨g,rfl,af,ag,ah,p⟩:=f.o.cells u
    have ai:(k:Int)<(m:Int):=(by omega);obtain⟨aj,F⟩:=p 0 (by simp);obtain⟨ak,G⟩:=p 1<|by simp
    try refine Exists.elim (p 2<|lw 3) λal H=>?_
    simp only[lg,zw,iR,Ee,Nat.reduceAdd]at F G
    try simp only[lg,zw,iR,Nat.reduceAdd]at H
    have am:g≠w.heap.size:=λe=>by have:=b.o.2.2.2.1 g fX;omega
    clear p;go_wp2;go_roundw
    case rel=>exact⟨k+1,by omega,by go_num,by rw[t.o];first|exact f.o.aaP u|exact f.o.aaQ u⟩
    case measure=>simp[intOf];omega
   have I:k=m:=by omega
   subst I;have z:fe _:=f.o.done;have an:((k:Int)<(k:Int))=False:=by simp
   have ao:=z.o.keeps.size;go_wp2_with(at_builtin;refine nL.wp z o fX fX fX fX fX ⟨r,by decide⟩ fX ?_);intro ap aq K ar A;obtain⟨au,a⟩:=b.o.2.2.1 K A.o.keeps;have av:=a 0 _ fX;have aw:=a 1 _ fX
   try have ax:=a 2 _ fX
   clear a;go_wp2_with(at_builtin;refine nL.wp A o fX fX fX fX fX ⟨r,by decide⟩ fX ?_);intro ay az L aA B;obtain⟨aB,a⟩:=b.o.2.2.1 L B.o.keeps;have aC:=a 0 _ fX;have aD:=a 1 _ fX
   try have aE:=a 2 _ fX
   clear a;go_wp2_with(at_builtin;refine nL.wp B o fX fX fX fX fX ⟨r,by decide⟩ fX ?_);intro aF aG wc aH v;obtain⟨aI,a⟩:=b.o.2.2.1 wc v.o.keeps;have aJ:=a 0 _ fX;have aK:=a 1 _ fX
   try have aL:=a 2 _ fX
   clear a;obtain⟨x,y⟩:=b.o.2.2.2.2 v.o;have C:fe _:=jS.first x l y
   have D:fe _:=And.intro x y;clear x y;obtain⟨aM,M,f0⟩:=C.o.cells;go_wp2_with(at_builtin;refine jS.wp C (by decide) j fX (by omega) fX fX fX fX (by simp) fX ?_);intro aN c1 w1 aO N f1 O;clear M f0;go_wp2_with(at_builtin;refine jS.wp O (by decide) j fX (by omega) fX fX fX fX (by simp) fX ?_);intro aP c2 w2 aQ P f2 Q;clear N f1;go_wp2_with(at_builtin;refine jS.wp Q (by decide) j fX (by omega) fX fX fX fX (by simp) fX ?_);intro aR c3 w3 aS R f3 S;clear P f2;go_wp2_with(at_builtin;refine jS.wp S (by decide) j fX (by omega) fX fX fX fX (by simp) fX ?_);intro aT c4 aU aV aW f4 T;clear R f3;have U:fe _:=sj.fK b.o.2.1<|NZ v.o D.o.1 D.o.2 (by decide) (by decide) T.o fX fX fX;go_wp2;go_end0;exact⟨fX,U.o⟩
theorem top(a:Program)(W)(x y:fV)(b:(binOp .eql t (fD #[hZ x.1,fY x.2.1,fY x.2.2])<|fD #[hZ y.1,fY y.2.1,fY y.2.2]).run a W=(if x.fst.toList=y.fst.toList then
   if x.snd.fst=y.snd.fst then
    if x.snd.snd=y.snd.snd then Result.ok (Value.bool fm) W else Result.ok (Value.bool fo) W
   else Result.ok (Value.bool fo) W
  else Result.ok (Value.bool fo) W)):(binOp .eql t (fD #[hZ x.1,fY x.2.1,fY x.2.2])<|fD #[hZ y.1,fY y.2.1,fY y.2.2]).run a W=.ok (fE<|decide (x=y)) W:=by
 rw[b];by_cases e:x=y
 all_goals grind [yv,absurd,EM,wM]
def fma(W)(x y:fV):(binOp .eql 96 (fD #[hZ x.1,fY x.2.1,fY x.2.2])<|fD #[hZ y.1,fY y.2.1,fY y.2.2]).run prog W=.ok (fE<|decide (x=y)) W:=by
 apply top _ W x y
 go_simp
section
variable {hs:List lR}
theorem fns(a:W3 ft E I b6 w W s r A O c5 c6 c7 c8 c9 R c11)(j:Nat)(b:j<fv A):
  ik 37 #[ii W,fY (j:Int),fY<|(j:Int)+1] w λe J=>e=fF (fE fm)/\W3 ft (kB E w J) I b6 J W s r A O c5 c6 c7 c8 c9 R c11/\fH E w J:=Cv a.law a.ref a.yl a.sep a.at_ a.twin (lw _) b (λc _ _ i d f=>by omega)
theorem Xx(a:iP ft F w s A)(x:Int)(b:fJ A x≠2):
  ik 43 #[ii s,fY x] w (vd (fC #[fy fj 0 0,fY 13]) w):=by
 refine(Bb a x).mono λe J⟨c,d⟩=>⟨?_,d⟩;rcases c with⟨_,f⟩|⟨j,g,h,i,_⟩
 exact f;rw[h,xa g]at b;omega
theorem Oc(W s r)(A O)(c5 c6 c7 c8 c9 R c11:fu)(x:Int)(c:fJ A x≠2):∃d e:Int,e≠2/\∀{E I b6:Nat->Prop}(w:fq),W3 ft E I b6 w W s r A O c5 c6 c7 c8 c9 R c11->
  ik 41 #[ii W,fY x] w ((UV (fY d) w))/\ik 42 #[ii W,fY d] w ((UV (fY e) w)):=by
 by_cases f:x<1\/(fv A:Int)<x;exact⟨-1,0,by decide,λw a=>⟨zO a x f,Jg (-1)<|by decide⟩⟩;obtain⟨j,rfl⟩:∃j:Nat,x=(j:Int)+1:=⟨(x-1).toNat,by omega⟩;have b:j<fv A:=by omega
 rw[xa b]at c;exact⟨j,A[j].kind,c,λw a=>⟨si a j b,Bf a j b⟩⟩
theorem Od(f:W3 ft E I b6 w W s r A O c5 c6 c7 c8 (fy ea (4*q) ec) R c11)(j:Held FH w ea ec q hs)(y:∀k,FH k->¬F3 E I b6 k)(V:4*q<=1000000000)(X N Y:Int)(Z T)(la:iD)(aa ab)(n:fJ A N≠2):
  ik 20 #[ii W,fD #[fY 4,fY X,fY N,fY Y,hZ Z,hZ T,fy la aa ab]] w λe J=>e=fF (fE fm)/\vN ft E I b6 FH w J W s r (q+1) c5 c6 c7 c8 R c11:=by
 have⟨ap,aq,o,ac⟩:=f.law.cells;have⟨z,B,C,D,F,p⟩:=f.block;have t:∀a,ju w (w.alloc a):=λa=>(mi _ _).alloc (lw _) _;have h:∀a b,Below (w.alloc a).heap.size (w.alloc a) b->ju w b:=λa b d=>(t a).trans<|d.mono (by simp);have hid:=λa=>Fz (f.below<|t a) N;have G:=λa=>Xx (f.below<|t a).yl N n;obtain⟨ar,ad,H,u⟩:=Oc W s r A O c5 c6 c7 c8 (fy ea (4*q) ec) R c11 N n;have K:=λa b(d:Below (w.alloc a).heap.size (w.alloc a) b)=>(u b (f.below<|h a b d)).1;have L:=λa b(d:Below (w.alloc a).heap.size (w.alloc a) b)=>(u b (f.below<|h a b d)).2;have M:=λ(e:Int)(ae:fq)=>mj e ae;have P:=λa b(d:Below (w.alloc a).heap.size (w.alloc a) b)=>(zQ W q #[z,B,C,D,F,c5,c6,c7,c8,fy ea (4*q) ec,R,c11] ea ec 0 0 fj hs [] b (((h a b d).block W o).trans p) V (by omega)).2 fX (gg j.row λg v=>(h a b d).block g<|gc j.row v)<|jY _ _ _ _;have af:fe (∀a b x,Below (w.alloc a).heap.size (w.alloc a) b->sj 96 55 3 (VE q) 9 b x W q #[z,B,C,D,F,c5,c6,c7,c8,fy ea (4*q) ec,R,c11] ea ec fj 0 0 hs->vN ft E I b6 FH w x W s r (q+1) c5 c6 c7 c8 R c11):=λa b x d i=>by
  have c:=h a b d;have⟨ag,ah,ai,aj,ak,al,am,an,l⟩:=Jy (f.below c) (j.keep (λk i=>c.block k<|j.lt k i) c.size) y (Fr _) (λg v=>by cases v) ((c.block W o).trans p) i;refine⟨E,I,b6,ag,A,O,ah,ai,aj,ak,al,am,zN.refl,λk e=>?_,⟨l.os.trans c.os,l.tape.trans c.tape,l.output.trans c.output,ww c.size l.size,λk i Q=>?_⟩⟩;rcases an k e with e|e|e
  exact .inl e;exact .inr<|ww c.size e;cases e;rw[l.block k (nz i c.size) ?_];exact c.block k i;rintro(e|e|e);exact Q<|.inl (.inl<|e▸ac);exact Q<|.inr e;cases e
 have au:(ad==2)=fo:=by simpa using H
 change fe _ at hid G K L M P
 clear f j y u p n H;go_enter func20,ntmps20;go_wp2_with(first
  |(go_at_call 39;refine tB (hid _) ?_)
  |(go_at_call 43;refine Hk (G _) λw2 m=>?_;have av:=nz o (h _ _ m).size)
  |(go_at_call 41;refine tB (K _ _ m) ?_)
  |(go_at_call 42;refine tB (L _ _ m) ?_)
  |(go_at_call 22;refine tB (M _ _) ?_)
  |(go_at_call 44;refine Hk (P _ _ m) λaw S=>?_;have U:=af _ _ _ m S;clear S;have ao:fe _:=U;clear U))
 go_ret;exact⟨fX,ao⟩
theorem W3.items(c:W3 ft E I b6 w W s r A O c5 c6 c7 c8 c9 R c11)(j:Nat)(m:j<fv A)(n:A[j].kind=2):∃g h d e,w.c r 0=fh (my g 0 (fv A) h)/\r<w.heap.size/\g<w.heap.size/\
  w.c g (j*4+2)=fh (fy d A[j].gh.length e)/\w.ownsRow 0 112 3 (fy d A[j].gh.length e) A[j].gh.length (flat<|A[j].gh.map gF):=by
 have o:=c.few;have f:=(c.twin.2.1 j m<|by omega).gh n;have⟨a,h,b⟩:=c.ref;have i:j<fv O:=by omega
 obtain⟨g,rfl,p,q,t,u,v⟩:=mW b.row fX i;have k:=b.zx _<|kK i;have l:A[j].gh.length=O[j].el:=by rw[<-k.len,f,oL]
 refine⟨g,h,O[j].ea,O[j].ec,?_,b.lt,p,?_,?_⟩;rw[<-o.2];exact b.c0;rwa [l];rw[l,<-f];exact k.row
theorem W3.aaR(b:W3 ft E I b6 w W s r A O c5 c6 c7 c8 c9 R c11)(j:Nat)(d:j<fv A)(f:A[j].kind=2):A[j].gh.length<=16/\∀e∈A[j].gh,1<=e.2.2/\e.2.2<=(j:Int):=by
 have m:=b.few;have g:=(b.twin.2.1 j d<|by omega).gh f;have n:=b.at_ j (by omega);have⟨a,h,i⟩:=b.ref;have k:j<fv O:=by omega
 have c:=i.zx _<|kK k;have l:A[j].gh.length=O[j].el:=by rw[<-c.len,g,oL]
 refine⟨by rw[l];exact c.few,λe o=>?_⟩
 grind [Int,gF,DY]
theorem W3.ids(b:W3 ft E I b6 w W s r A O c5 c6 c7 c8 c9 R c11)(i:Nat)(U:i<fv A):∃g c,w.c W 2=fh (my g 0 (fv A) c)/\g<w.heap.size/\w.c g i=fh (fY<|(i:Int)+1):=by
 have⟨h,_,_,d,_,_,_,a,_⟩:=b.law;obtain⟨g,rfl,e,f,_⟩:=row_one a.rV (i:=i) (v:=.int .i64<|(i:Int)+1) (by simp[encI,Fv U]);refine⟨g,d,?_,e,f⟩
 have:=a.c2
 rwa [jJ]at this
end
