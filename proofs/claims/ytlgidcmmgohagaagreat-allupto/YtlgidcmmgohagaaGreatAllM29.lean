/- A part of the proof. -/
import Derived.Test.YtlgidcmmgohagaaGreatAllM28
import Derived.Test.YtlgidcmmgohagaaGreatAllM27
set_option linter.all false
namespace Go.Proofs.YtlgidcmmgohagaaGreat
open Go.RowKit Go.Sort Go.Shelf Go.Proofs.Tryz
open Go.Value renaming slice->fy,string->fA,pointer->fB,tuple->fC,agg->fD,bool->fE
open Go.Ending renaming returned->fF
open Option renaming some->fh,none->fj
open Bool renaming true->fm,false->fo
open Go renaming World->fq,Value->fu
open List renaming length->fv,reverse->fx
open Go.RowKit renaming Hid->fe
set_option maxRecDepth 100000
set_option maxHeartbeats 0
variable {b:Bool}{R:vo}{T:gC}{w:fq}{B0 W s r p I j n:Nat}{A O:List Ob}{got:List Int}{ws:List Slot}{ds:List Doc}
theorem Wk{w:fq}{e}{c}{a:List iV}(d:w.ownsRow 0 133 2 (fy e (fv a) c) (fv a) (iB a)){k:Nat}(b:k<fv a):∃g,e=fh (ie g 0)/\g<w.heap.size/\w.c g (k*2)=fh (fA a[k].1)/\w.c g (k*2+1)=fh (.int .i64 a[k].2):=by
 have⟨g,l,h⟩:=hh d (by omega);rw[(lK h).1]at d |-;have f:∀(a:List iV)(k j:Nat)(b:k<fv a),j<2->(iB a)[k*2+j]?=(uk a[k])[j]?:=by
  intro a
  induction a with
  |nil=>intro k j b;cases b
  |cons x r i=>
   intro k j b m;unfold iB at i |-;rw[MX];cases k with
   |zero=>rw[wz (by show 0*2+j<2;omega)];simp
   |succ k=>
    rw[BX (by show 2<=_;omega),show(k+1)*2+j-fv (uk x)=k*2+j by show(k+1)*2+j-2=_;omega]
    grind
 refine⟨g,fX,gc d fX,?_,?_⟩
 have:=d.cells (g:=g) fX (k*2+0) (fA a[k].1) (by rw[f a k 0 b<|by decide];rfl)
 grind [qg]
 have:=d.cells (g:=g) fX (k*2+1) (.int .i64 a[k].2) (by rw[f a k 1 b<|by decide];rfl)
 grind [qg]
theorem aux(B b)(c d)(a f:List iV)(w:fq)(G:fv a<=1000000000/\fv f<=1000000000)(r:w.ownsRow 0 133 2 (fy B (fv a) c) (fv a) (iB a))(s:w.ownsRow 0 133 2 (fy b (fv f) d) (fv f) (iB f))(t:a=f\/fv a≠fv f):
  ik 55 #[fy B (fv a) c,fy b (fv f) d] w (vd (fE<|decide (a=f)) w):=by
 by_cases e:a=f
 ·subst e
  obtain⟨m,u⟩:∃m,m=fv a:=⟨_,fX⟩;have H:fe _:=r;have I:fe _:=s;have J:fe (m=fv a):=u;rw[<-u]at G |-;have N:((m:Int) != (m:Int))=fo:=by simp
  have v:fe (decide (a=a)=fm):=iE fX;clear r s u t;go_enter func55,ntmps55;go_wp2
  go_loopw [5] (λi wr=>∃k:Nat,k<=m/\i=.int .i64 k/\fe (∃g,wr=w.drewN g)) (λi _=>m-(intOf i).toNat)
  case atStart=>exact⟨0,Fr _,rfl,⟨0,by first|rfl|trivial⟩⟩
  case round=>
   obtain⟨k,O,rfl,l⟩:=hrel;by_cases K:k<m
   ·have C:k<fv a:=by rw[<-J.o];exact K
    obtain⟨L,rfl,D,p,n⟩:=Wk H C;obtain⟨M,rfl,E,o,q⟩:=Wk I C;obtain⟨x,y,F⟩:∃x y,a[k]=(x,y):=⟨_,_,fX⟩;rw[F]at p n o q;simp only at p n o q;have j:∀z i,wr.c z i=w.c z i:=λz i=>by obtain⟨g,h⟩:=l.o;rw[h];rfl
    have A:wr.heap.size=w.heap.size:=by obtain⟨g,h⟩:=l.o;rw[h];rfl
    have P:=(j _ _).trans p;have Q:=(j _ _).trans n;have R:=(j _ _).trans o;have S:=(j _ _).trans q;have T:L<wr.heap.size:=by rw[A];exact D
    have U:M<wr.heap.size:=by rw[A];exact E
    have V:(k:Int)<(m:Int):=(by omega);clear p n o q j A D E F;go_wp2
    go_quiet (fail)
    go_wp2;go_roundw
    case rel=>exact⟨k+1,by omega,by go_num,by obtain⟨g,h⟩:=l;exact⟨g+nq,by rw[h];simp⟩⟩
    case measure=>simp[intOf];omega
   have W:decide ((k:Int)<(m:Int))=fo:=yv (by omega);go_wp2;go_ret;obtain⟨g,h⟩:=l;exact⟨by rw[v.o];rfl,by rw[h];exact jf (mi _ _) g⟩
 have X:((fv a:Int) != (fv f:Int))=fm:=by have:=t.resolve_left e;simp;omega
 have v:fe (decide (a=f)=fo):=yv e;clear r s t e;go_enter func55,ntmps55;go_wp2;go_ret;exact⟨by rw[v.o];rfl,mi _ _⟩
theorem Vd{E a}{f N}(j:gf E f)(m:gf a N):(∀e∈wu E f a N,e.1.size<=maxLen)/\fv (lF E f a N)<=fv E+fv a:=by
 have one:∀{b:fV->List fV}{l:List fV}{d:fQ},gf l d->(∀x,b x=[]\/∃k,b x=[(x.1,k)])->(∀e∈l.flatMap b,e.1.size<=maxLen)/\fv (l.flatMap b)<=fv l:=λ{b l d}n i=>by
  refine⟨λe h=>?_,by have:=(vq i l).length_le;simpa using this⟩;have⟨x,o,g⟩:=wL.1 h;rcases i x with c|⟨k,c⟩
  rw[c]at g;cases g;rw[c]at g;obtain rfl:=om.1 g;exact ww (n.small x o)<|by decide
 obtain⟨p,q⟩:=one j<|Qv f a N;obtain⟨r,s⟩:=one m<|Qw E;refine⟨λe h=>?_,?_⟩
 ·rcases qJ.1 h with c|c
  all_goals grind
 unfold lF;rw[oL,FI];unfold wu
 all_goals grind
theorem axs(h:Pl b R T w B0 W s r p I A O got ws ds j n):
  hq1 W (ws[j]'h.j1).2.1.wb (ds[j]'h.j2).1 (λJ=>gJ B0 J W s r (n+1)/\Below B0 w J) w:=by
 have⟨y,z,t,Z,E,q,rest,B,F,ap,aq,S⟩:=h.open;have u:=h.m;have G:=u.BL j h.j1;rw[B]at G;rw[B,F];obtain⟨_,_,_,_,U,ar,au⟩:=S w<|mi _ _;have av:=h.n_;have aw:=h.adf;have ax:=h.q_ 10;obtain⟨_,_,V,ay,az⟩:=id G;have⟨aa,ab⟩:=Vd U.2 V;have⟨f,H⟩:=oX<|lF E q (R.bs j).1 (R.bs j).2;rw[<-H]at ab;have doc:∀{b X K k},Half b X K B0 w k W s r p I A O ws ds R j y E q rest->ik 54 #[ii Z] k λe J=>∃b d,e=fF (fy b (fv f) d)/\J.ownsRow 0 133 2 (fy b (fv f) d) (fv f) (iB f)/\ju k J:=λ{b X K k}a=>by
  have⟨ac,M,ad,ae,af,C,_⟩:=a;have⟨aA,aB,aC,aD,Y⟩:=C.Zn j h.j2;have⟨ba,aE,aF,wc,D,_⟩:=C.aaC j h.j2;rw[F]at Y D;apply (Re Y D (by grind) (by grind) (by omega) (by grind) U.2.files V.files aa).mono;rintro e J ⟨K,i,o,l⟩;have L:=tR o<|Fr _;rw[<-H]at L;obtain⟨b,d,rfl⟩:=Am L;exact⟨b,d,i,L,l⟩
 have keep:∀{N:Bool}{g:iD}{m c:Nat}{ys:gX}{k:fq},m<=999999000->Half N N (fy g m c) B0 w k W s r p I A O ws ds R j y E q rest->k.ownsRow 0 133 2 (fy g m c) m ys->ik 56 #[fB<|fh (ie W 8),fy g m c] k λe J=>e=qr #[]/\gJ B0 J W s r (n+1)/\Below B0 w J:=by
  rintro N g m c ys k aG ⟨ac,M,ad,ae,af,C,ag,D,ah⟩ o;apply (C.aa3 (by grind) (by omega) o ah).mono;rintro e J ⟨i,aH,ai,aj,ak⟩;exact⟨i,h.kept F ai aj ag,D.trans ak⟩
 obtain⟨v,P⟩:∃v:iD->Nat->fq->Prop,v=λg c J=>Half b b (fy g (fv f) c) B0 w J W s r p I A O ws ds R j y E q rest/\J.ownsRow 0 133 2 (fy g (fv f) c) (fv f) (iB f):=⟨_,fX⟩;refine⟨fv f,λJ=>Half fo fm (fy fj 0 0) B0 w J W s r p I A O ws ds R j y E q rest,v,λg c b d x=>v g c x/\x.ownsRow 0 133 2 (fy b (fv f) d) (fv f) (iB f),v,by omega,λal l=>(hrf (S al l) (by omega) u.w3.yl.2.2.2 (W3.few u.w3).1 G).mono ?_,λk a=>(Half.fail a).imp λx a=>(doc a).mono ?_,λg c k a=>?_,?_,?_⟩;rintro e J (⟨g,c,i,o,d⟩|⟨am,i,d⟩);have d2:=(BS u h.j1 B l d).2;rw[<-H]at i o d2;rw[P];exact .inl ⟨g,c,i,d2,o⟩;have d2:=(BS u h.j1 B l d).2;rw[show b=fm from am]at d2
 grind
 rintro e aI ⟨b,d,i,_,an⟩;exact⟨b,d,i,λaJ ao=>keep (ys:=[]) (by decide) ((a.below an).below ao)<|jY _ _ _ _⟩;rw[P]at a |-;apply (doc a.1).mono;rintro e J ⟨b,d,i,o,l⟩;exact⟨b,d,i,⟨a.1.below l,gg a.2 λz Q=>l.block z<|gc a.2 Q⟩,o⟩;rintro g c b d x ⟨a,o⟩;rw[P]at a |-;apply (aux g b c d f f x ⟨by omega,by omega⟩ a.2 o<|.inl fX).mono;rintro e J ⟨i,l⟩;exact⟨i.trans<|by simp,a.1.below l,gg a.2 λz Q=>l.block z<|gc a.2 Q⟩
 grind
theorem bce(H:n<=1048600)(K:gJ B0 w W s r n)(k h d o:Int)(g q:fO)(t)(u x)(B:g.size<=1048576)(L:q.size<=1048576)(M:-9223372036854775808<=h/\h<=9223372036854775807)(ha2:-9223372036854775808<=d/\d<9223372036854775808)(ai:8<=k/\k<=20):
  ik 23 #[ii W,fD<|pO k h d o g q t u x] w λe J=>e=fF (fE fm)/\gJ B0 J W s r (n+1)/\Below B0 w J:=by
 have⟨b,R,T,p,I,A,O,got,ws,ds,C,E,N,P,Q,S⟩:=K;have aj:=JD h (n:=(fv ws:Int)) (by omega);obtain⟨j,U⟩:∃j:Nat,ud h (fv ws:Int)=(j:Int):=⟨(ud h (fv ws:Int)).toNat,by omega⟩;have D:j<fv ws:=by omega
 have F:j<fv ds:=by rw[E.len];exact D
 have⟨V,X,Y,Z,_⟩:=row_one C.yV.1 (i:=j) (v:=ptr ws[j].2.1.wb) (by simp[D]);have⟨aa,ab,kO,ac,_⟩:=row_one C.jm.1 (i:=j) (v:=ptr ds[j].1) (by simp[F]);have⟨_,_,ad,c5,G⟩:=C.c01;rw[X]at c5;rw[ab,E.len]at G;apply hwi W (fv ws) j V aa R.wc R.tc ws[j].2.1.wb ds[j].1 k h d o g q t u x (λJ=>gJ B0 J W s r (n+1)/\Below B0 w J) w ad c5 G Y kO D (by omega) Z ac M U;have y:∀c,ju w c->Pl b R T c B0 W s r p I A O got ws ds j n:=λc a=>⟨C.below a,E,N,P,Q,S,D,F,H⟩;have z:∀{c:fq}{e:Ending}{J:fq},ju w c->(e=fF (fE fm)/\gJ B0 J W s r (n+1)/\Below B0 c J)->e=fF (fE fm)/\gJ B0 J W s r (n+1)/\Below B0 w J:=λa⟨ae,af,ag⟩=>⟨ae,af,(pV C a).trans ag⟩;have ah:k=8\/k=9\/k=10\/k=11\/k=12\/k=13\/k=14\/k=15\/k=16\/k=17\/k=18\/k=19\/k=20:=by omega
 rcases ah with rfl|rfl|rfl|rfl|rfl|rfl|rfl|rfl|rfl|rfl|rfl|rfl|rfl
 exact .inl ⟨by decide,λc a=>(nhi (y c a) h d o g q t u x B).mono λe J f=>z a f⟩;exact .inl ⟨by decide,λc a=>(nlo (y c a) h d o g q t u x B).mono λe J f=>z a f⟩;exact .inl ⟨by decide,λc a=>((y c a).acts _ h d o g q t u x (.inl fX) λl m=>nan l m g B).mono λe J f=>z a f⟩;exact .inl ⟨by decide,λc a=>((y c a).acts _ h d o g q t u x (.inr<|.inl fX) λl m=>hpv l m g B).mono λe J f=>z a f⟩;exact .inl ⟨by decide,λc a=>((y c a).acts _ h d o g q t u x (.inr<|.inr (.inl fX)) λl m=>hpx l m g q B L).mono λe J f=>z a f⟩;exact .inl ⟨by decide,λc a=>((y c a).acts _ h d o g q t u x (.inr<|.inr (.inr<|.inl fX)) λl m=>ACM l m g B d ha2).mono λe J f=>z a f⟩;exact .inr (.inl ⟨by decide,by decide,λc a=>((y c a).acts _ h d o g q t u x (.inr<|.inr (.inr<|.inr (.inl fX))) λl m=>AtR l m d o).mono λe J f=>z a f⟩);exact .inr (.inl ⟨by decide,by decide,λc a=>((y c a).acts _ h d o g q t u x (.inr<|.inr (.inr<|.inr (.inr<|.inl fX))) λl m=>pkt l m d g B).mono λe J f=>z a f⟩);exact .inr (.inl ⟨by decide,by decide,λc a=>((y c a).acts _ h d o g q t u x (.inr<|.inr (.inr<|.inr (.inr<|.inr (.inl fX)))) λl m=>Ast l m d o).mono λe J f=>z a f⟩);exact .inr (.inl ⟨by decide,by decide,λc a=>((y c a).acts _ h d o g q t u x (.inr<|.inr (.inr<|.inr (.inr<|.inr (.inr<|.inl fX)))) λl m=>hun l m d o).mono λe J f=>z a f⟩);exact .inr (.inl ⟨by decide,by decide,λc a=>((y c a).acts _ h d o g q t u x (.inr<|.inr (.inr<|.inr (.inr<|.inr (.inr<|.inr fX)))) λl m=>pkg l m d).mono λe J f=>z a f⟩);exact .inr<|.inr (.inl ⟨fX,axs<|y w (mi _ _)⟩);exact .inr<|.inr (.inr ⟨fX,ZV<|y w (mi _ _)⟩)
def DW(s p)(a c:Int)(b:Bool)(R:fq->Prop)(w:fq)(c0:w.c s 0=fh (ii p))(j:s<w.heap.size)(k:p<w.heap.size)(c4:w.c p 4=fh (fE b))(f4:w.frozen? (ie p 4)=fo)(f:((a=1\/a=2)/\c=0/\R (w.setCell (ie p 4)<|fE fm))\/(a≠1/\a≠2/\c=2/\R w)):
  ik 21 #[ii s,fY a] w λe J=>e=fF (fY c)/\R J:=by
 have g:fe (ik 48 #[ii p,fY a] w λe J=>e=fF (fY c)/\R J):=by
  show Calls _ _ _ _ _;rcases f with⟨rfl|rfl,rfl,d⟩|⟨h,i,rfl,d⟩
  rotate_left 2
  have t1:(a != 1)=fm:=by simpa using h
  have t2:(a != 2)=fm:=by simpa using i
  all_goals
   go_enter func48,ntmps48;go_wp2;go_ret;exact⟨fX,d⟩
 clear f c4 f4;go_enter func21,ntmps21;go_wp2_with fail;refine Hk g.o λl d=>?_
 go_wp2;go_ret;exact⟨fX,d⟩
theorem hwk{d}(M:gJ B0 w W s r n)(v:ju w d)(G:w.heap.size<d.heap.size)(f:Int){x y:Bool}(N:(f==1)=x)(P:(f==2)=y):
  ik 21 #[ii s,fY f] d λe J=>e=fF (fY<|if(x ||y)=fm then 0 else 2)/\XF w.heap.size d J/\W<J.heap.size/\∃K,J.c W 7=fh (fE K)/\J.frozen? (ie W 7)=fo/\∀o,o=(K ||(x ||y))->gJ B0 (J.setCell (ie W 7)<|fE o) W s r n/\Below B0 w (J.setCell (ie W 7)<|fE o):=by
 have⟨b,R,T,p,I,A,O,got,ws,ds,q,rest⟩:=M;have g:=q.below v;have⟨ae,t,af,U,u,ag,Q⟩:=g.aaj;have⟨a,h,ah,ai,aj,ak,i⟩:=U;have l:=i.gQ.at_;have S:=i.fp;have V:=il u.1 l (by decide);have c4:d.c p 4=fh (fE t.b):=by unfold gw at l;simp[World.cell?,l]
 have f4:d.frozen? (ie p 4)=fo:=by unfold gw at l;simp[World.frozen?,l]
 have Y:((f=1\/f=2)/\(x ||y)=fm)\/(f≠1/\f≠2/\(x ||y)=fo):=by subst N P;by_cases z:f=1<;>by_cases B:f=2<;>simp[z,B]
 rcases Y with⟨Z,C⟩|⟨z,B,C⟩
 rw[C,lv fX];refine DW s p f 0 t.b _ d i.c0 (lH.1 i.hs).1 l.lt c4 f4<|.inl ⟨Z,fX,?_⟩;have m:fI OL T T d (d.setCell (ie p 4)<|fE fm):=⟨fX,fX,fX,by simp,λ_ _=>rfl,λk D E=>sI _ _ _ _ λe=>E (by rw[e,S];exact .inl fX),λaa k D=>aa k (by simp_all)⟩;have F:=g.after m (b':=fm) (pt:={ t with b:=fm }) (λc j=>by rcases j with j|j<;>cases j) rfl (U.tail (λH al am an ao L=>by unfold gw at L |-;simp[World.setCell,ED,L]) (λk D hF ab=>sI _ _ _ _ ab) λk D hF=>hF) ⟨gg u.1 λap ac=>sI _ _ _ _ λe=>V (by rw[ac,e]),u.2.1,u.2.2⟩ Q fX (g.wsT m (λi c U j=>by rcases j with j|j<;>(cases j;omega))) g.slot g.cnt;have⟨d1,d2,d3⟩:=F.c7;refine⟨⟨by simpa using G,λad=>wJ (a:=(ie w.heap.size ad)) (sI _ _ _ _ λe=>?_)⟩,d1,b,d2,d3,?_⟩
 have:=q.fresh _<|lw _
 grind
 rintro o rfl;rw[Bool.or_true];exact⟨⟨fm,_,T,p,I,A,O,got,ws,ds,(F.ZN fm).1,rest⟩,((pV q v).trans (g.low (J:=d.setCell (ie p 4)<|fE fm) (X:=λk=>k=p) ⟨fX,fX,fX,by simp,λk _ E=>sI _ _ _ _ E⟩ λk e=>.inl (by grind))).trans (F.ZN fm).2⟩;rw[C,km<|by decide];refine DW s p f 2 t.b _ d i.c0 (lH.1 i.hs).1 l.lt c4 f4<|.inr ⟨z,B,fX,?_⟩;have⟨d1,d2,d3⟩:=g.c7;refine⟨⟨G,λ_=>rfl⟩,d1,b,d2,d3,?_⟩;rintro o rfl;rw[Bool.or_false];exact⟨⟨b,R,T,p,I,A,O,got,ws,ds,(g.ZN b).1,rest⟩,(pV q v).trans (g.ZN b).2⟩
