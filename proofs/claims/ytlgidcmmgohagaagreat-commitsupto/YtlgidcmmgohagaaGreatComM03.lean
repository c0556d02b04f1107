/- A part of the proof. -/
import Derived.Test.YtlgidcmmgohagaaGreatComM02
set_option linter.all false
namespace Go.Proofs.YtlgidcmmgohagaaGreat
open Go.RowKit Go.Sort Go.Shelf Go.Proofs.Tryz
open Go.Value renaming slice->fy,string->fA,pointer->fB,tuple->fC,agg->fD,bool->fE
open Go.Ending renaming returned->fF
open Option renaming some->fh,none->fj
open Bool renaming true->fm,false->fo
open Go renaming World->fq,Value->fu
open List renaming length->fv,reverse->fx
open Go.RowKit renaming Hid->fe
set_option maxRecDepth 100000
set_option maxHeartbeats 0
variable {rest:List Oper}{d:fP}{ops:Array Oper}{b base c h R ec el g i n p r size z:Nat}{w H O w2:fq}{cs:Array fu}{own:Option Nat}{o1:Obj}{U k x:Int}{T e t:lV}{o:Ob}{Y xs:iN}{a ea:ig}{v:fu}{J:List Ob}{F F' G:Nat->Prop}
variable {F:Nat->Prop}{w:fq}{W s r ic kc pc:Nat}{ia ka pa:ig}{ids paths:List Int}{E:List Bool}{c5 c6 c7 c8 c9 c10 c11:fu}
structure lB (F:Nat->Prop)(w:World)(r:Nat)(a:ig)(cap:Nat)(Xd:List Ob):Prop where
 fr:F r
 fa:∀g,(Value.slice a Xd.length cap).ownBlock=some g->F g
 hr:w.heap[r]?=some (.cells #[.slice a Xd.length cap] 94 (0,0))
 row:w.ownsRow 0 108 4 (.slice a Xd.length cap) Xd.length (gD Xd)
 many:Xd.length<=400
 zz:∀o∈Xd,qd F w o
theorem lB.keep(b:lB F w r a h J)(hF:∀k,F k->F' k)(c:∀k,F k->H.heap[k]?=w.heap[k]?):lB F' H r a h J:=
 ⟨hF _ b.fr,λg d=>hF g<|b.fa g d,(c r b.fr).trans b.hr,gg b.row λg d=>c g<|b.fa g d,b.many,λo e=>(b.zz o e).keep hF c⟩
def lB.lt(b:lB F w r a h J):r<w.heap.size:=(lW.1 b.hr).1
def lB.c0(b:lB F w r a h J):w.c r 0=fh (fy a (fv J) h):=by simp[World.cell?,b.hr]
def lB.f0(b:lB F w r a h J):w.frozen? (ii r 0)=fo:=by simp[World.frozen?,b.hr]
theorem qd.below(a:qd F w o)(b:ju w H):qd F H o:=
 ⟨a.kind,a.size,a.len,a.few,a.Jb,a.Jc,gg a.row λg c=>b.block g<|gc a.row c,a.own⟩
theorem lB.below(b:lB F w r a h J)(c:ju w H):lB F H r a h J:=
 ⟨b.fr,b.fa,(c.block r b.lt).trans b.hr,gg b.row λg d=>c.block g<|gc b.row d,b.many,λo e=>(b.zz o e).below c⟩
theorem mV(e:w.ownsRow 0 t 4 (fy a n h) n (gD J))(f:fv J=n)(U:i<fv J):
  ∃g,a=fh (ii g 0)/\g<w.heap.size/\w.c g (i*4)=fh (.int .i64 J[i].kind)/\w.c g (i*4+1)=fh (fA J[i].data)/\
   w.c g (i*4+2)=fh (fy J[i].ea J[i].el J[i].ec)/\w.c g (i*4+3)=fh (.int .i64 J[i].high):=by
 have p:i<n:=by rw[<-f];exact U
 rcases e.2 with⟨_,q⟩|⟨g,R,r,j,_,k,_,_,s,l⟩
 omega;cases j;have c:∀b d,b<4->(J[i].cells)[b]?=fh d->w.c g (i*4+b)=fh d:=by
  intro b d m o;rw[<-sO J i b U m,<-l,MW<|by omega,Wt]at o
  grind [World.cell?]
 exact⟨g,fX,(lW.1 k).1,c 0 _ (by omega) fX,c 1 _ (by omega) fX,c 2 _ (by omega) fX,c 3 _ (by omega) fX⟩
theorem vZ{b}{c:Act->Prop}{o:Oper}{a:Act}(f:o.guard=fj)(d:lV)(x)(g:o.op=.load d x)(e:Addr)(h:a.eval x=fB (fh e))
  (cs:fu)(i:(loadVar d e).run b w=.ok cs w)(j:wpStill b ops w c rest (a.put o.dst cs)):wpStill b ops w c (o::rest) a:=by
 have k:Region.wanted o (yielded ops a.tmps)=fm:=by simp[Region.wanted,f]
 refine wpStill_step λm l=>?_;rw[lv k];unfold Oper.still execOp;simp only[g,h,Instr.loadAt,Instr.sureAddr,hyp,hys,hwp,i];exact⟨fX,l _ j⟩
def ld4(W:fq)(g o)(x:Ob)(c0:W.c g o=fh (fY x.kind))(c1:W.c g (o+1)=fh (hh x.data))(c2:W.c g (o+2)=fh (fy x.ea x.el x.ec))(c3:W.c g (o+3)=fh (fY x.high)):
  (loadVar 108<|ii g o).run prog W=.ok (qf x) W:=by
 unfold loadVar qf
 go_simp
def findAt (J:List Ob)(o:Ob):Option Nat:=J.findIdx? λx=>rO x o
def pz (p:Option Nat):Int:=match p with|some i=>i|none=>-1
theorem Cm(r)(a)(h)(J)(o)(w)(j:lB F w r a h J)(B:qd G w o):
  ik 149 #[ie r,qf o] w (ut (fY<|pz (findAt J o)) w):=by
 unfold qf;obtain⟨n,l⟩:=ol<|fv J;have M:n<=400:=by rw[l];exact j.many
 change fe _ at l
 obtain⟨s,z⟩:=ol (.cells #[fY o.kind,hh o.data,fy o.ea o.el o.ec,fY o.high] 108:Obj);go_enter func149,ntmps149;go_wp2;rw[<-z]
 go_loopw [5] (λi wr=>∃k:Nat,k<=n/\i=.int .i64 k/\Below (w.alloc s).heap.size (w.alloc s) wr/\fe (∀b(c:b<fv J),b<k->rO J[b] o=fo)) (λi _=>n-(intOf i).toNat)
 case atStart=>exact⟨0,zt _,rfl,mi _ _,λb c j=>by omega⟩
 case round=>
  obtain⟨k,N,rfl,m,t⟩:=hrel;have d:ju w wr:=((mi _ _).alloc (lw _) s).trans<|m.mono (by simp);have A:=(j.below d).c0;rw[<-l.o]at A;by_cases C:k<n
  ·have u:k<fv J:=by rw[<-l.o];exact C
   obtain⟨g,D,P,c0,c1,c2,c3⟩:=mV (j.below d).row fX u;rw[D]at A;have bx:∀b,b<4->wr.cell? (ii w.heap.size b)=(qf o).cells[b]?:=by
    intro b c;rw[m.cell (p:=(ii w.heap.size b))<|by simp];subst z
    match b,c with
    |0,_=>simp[qf,Value.cells]
    |1,_=>simp[qf,Value.cells]
    |2,_=>simp[qf,Value.cells]
    |3,_=>simp[qf,Value.cells]
   have E:=ld4 wr g (k*4) J[k] c0 c1 c2 c3;have H:=ld4 wr w.heap.size 0 o (bx 0<|by omega) (bx 1<|by omega) (bx 2<|by omega)<|bx 3 (by omega);have I:fe ((loadVar 108<|ii g (k*4)).run prog wr.drew=.ok (qf J[k]) wr.drew):=ld4 wr.drew g (k*4) J[k] c0 c1 c2 c3;have K:fe ((loadVar 108<|ii w.heap.size 0).run prog wr.drew=.ok (qf o) wr.drew):=ld4 wr.drew w.heap.size 0 o (bx 0<|by omega) (bx 1<|by omega) (bx 2<|by omega)<|bx 3 (by omega);clear c0 c1 c2 c3 bx E H;have q:=dvd J[k] o wr.drew ((j.below<|iP d 1).zz _<|kN u)<|B.below (iP d 1);go_wp2;refine hw1 8 (by kernel_rfl) (by kernel_rfl) ?_;simp only[Rn,KU,KQ,Ce]
   iterate 6 still_step
   refine vZ fX 108 _ fX (ii g<|k*4) fX (qf J[k]) I ?_
   go_frame
   refine vZ fX 108 _ fX (ii w.heap.size 0) fX (qf o) K ?_
   go_frame
   refine iff ?_;cases f:rO J[k] o with
   |true=>
    have v:fe (rO J[k] o=fm):=f;rw[f]at q;clear f;go_wp2_with fail;refine q.via λO y=>?_;go_wp2;go_ret;refine⟨?_,d.trans<|(iP (mi wr.heap.size wr) 1).trans y |>.mono d.size⟩;have e:findAt J o=fh k:=yQ.2 ⟨u,v,λb c=>by have:=t b (by omega) c;simp[this]⟩;rw[e];rfl
   |false=>
    have v:fe (rO J[k] o=fo):=f;rw[f]at q;clear f;go_wp2_with fail;refine q.via λO y=>?_;go_wp2;go_roundw
    case rel=>
     refine⟨k+1,by omega,by go_num,m.trans<|(iP (mi wr.heap.size wr) 1).trans y |>.mono m.size,?_⟩;intro b c Q;by_cases e:b=k;subst e;exact v;exact t b c<|by omega
    case measure=>simp[intOf];omega
  go_wp2;go_ret;refine⟨?_,d⟩;have e:findAt J o=fj:=Wv.2 λx L=>by
   obtain⟨b,c,rfl⟩:=rD L;exact t b c (by rw[<-l.o]at c;omega)
  rw[e];rfl
def Db (J:List Ob)(e:fV):Int:=((J[e.2.2.toNat]?).map (·.high)).getD 0
def xt (J:List Ob)(a:List fV):Int:=a.foldl (λb e=>max b<|1+Db J e) 0
def Dc(J)(a:List fV)(e:fV):xt J (a++[e])=max (xt J a) (1+Db J e):=by
 simp only[xt,cls,Hy,List.foldl_nil]
def ih4:(prog.info? 108).map (λi=>(i.zero,i.size,i.bytes))=fh (fh<|fD #[fY 0,hh ByteArray.empty,fy fj 0 0,fY 0],4,56):=by kernel_rfl
theorem ih5(r)(a)(h)(J)(o)(w)(e:lB F w r a h J)(f:qd G w o)(i:Nat)(g:findAt J o=fh i):
  ik 78 #[ie r,qf o] w (ut (fY i) w):=by
 have d:∀b,ju w (w.alloc b):=λb=>(mi _ _).alloc (lw _) _;have c:=λb:Obj=>Cm r a h J o (w.alloc b) (e.below<|d b)<|f.below (d b);rw[g]at c;unfold qf at c |-;have j:=c;clear c;go_enter func78,ntmps78;go_wp2_with fail;refine(j _).via λO k=>?_;go_wp2;go_ret;exact⟨fX,(d _).trans<|k.mono (by simp)⟩
theorem dyn(r)(a)(h)(J)(o)(w)(e:lB F w r a h J)(g:qd G w o)(i:findAt J o=fj)(l:400<=fv J):
  ik 78 #[ie r,qf o] w (ut (fY<|-1) w):=by
 have d:∀b,ju w (w.alloc b):=λb=>(mi _ _).alloc (lw _) _;have c:=λb:Obj=>Cm r a h J o (w.alloc b) (e.below<|d b)<|g.below (d b);rw[i]at c;unfold qf at c |-;have j:=c;clear c;go_enter func78,ntmps78;go_wp2_with fail;refine(j _).via λO k=>?_;have f:=(d _).trans<|k.mono (by simp);have m:=(e.below f).c0;go_wp2;go_ret;exact⟨fX,f⟩
def om (W:fq)(b:Nat)(k:Int)(d:fP)(ea:ig)(el ec:Nat)(U:Int):Prop:=W.heap[b]?=fh (.cells #[.int .i64 k,fA d,fy ea el ec,.int .i64 U] 108 (0,0))
theorem om.parts{W}(a:om W b k d ea el ec U):W.c b 2=fh (fy ea el ec)/\W.c b 3=fh (fY U)/\W.frozen? (ii b 3)=fo:=by
 grind [om,World.cell?,World.frozen?]
theorem om.aaF{W}(a:om W b k d ea el ec U):W.c b 0=fh (fY k)/\W.c b 1=fh (hh d):=by
 grind [om,World.cell?]
theorem Lg{r:Option Nat}(b:(w.alloc o1).drew.grownBy O r)(c:p<w.heap.size)(d:fh p≠r)(e:w.cell? (ii p i)=fh v):O.cell? (ii p i)=fh v:=by
 rw[wJ (a:=(ii p i))<|b.block p (by simp;omega) d];show(w.alloc o1).cell? (ii p i)=_;rw[hwn _ _ _ c,e]
theorem Fe{r:Option Nat}(b:(w.alloc o1).drew.grownBy O r)(c:p<w.heap.size)(d:fh p≠r)(e:w.frozen? (ii p i)=fo):O.frozen? (ii p i)=fo:=by
 rw[Rk (a:=(ii p i))<|b.block p (by simp;omega) d];show(w.alloc o1).frozen? (ii p i)=_;rw[rip _ _ _ c,e]
theorem om.high{W}(a:om W b k d ea el ec U)(x:Int):om (W.setCell (ii b 3)<|fY x) b k d ea el ec x:=by
 grind [om,World.setCell,BV]
def vw(a:fH F w H)(b):fH F w (H.drewN b):=⟨a.os,a.tape,a.output,a.size,a.block⟩
theorem Xe(a:fH (λk=>k=b) w H):fH (λk=>k=b) w (H.setCell (ii b i) v):=
 ⟨a.os,a.tape,a.output,by simpa using a.size,λk d c=>by rw[vh _ _ _ _ c];exact a.block k d c⟩
theorem Xf{w wr w2:fq}(b:lB F w r a h J)(p:∀e,e<w.heap.size->wr.heap[e]?=w.heap[e]?)(q:w.heap.size<wr.heap.size)
  (f:wr.os=w.os/\wr.tape=w.tape/\wr.output=w.output)(i:fh r≠(Value.slice a (fv J) h).ownBlock)(l:w2.ownsRow 0 108 4 (my g 0 (fv J+1) R) (fv J+1) (gD J++Y))
  (c:(wr.alloc o1).drew.grownBy w2 (Value.slice a (fv J) h).ownBlock)(j:(Value.slice (fh<|ii g 0) (fv J+1) R).ownBlock=(Value.slice a (fv J) h).ownBlock\/(Value.slice (fh<|ii g 0) (fv J+1) R).ownBlock=fh (wr.alloc o1).drew.heap.size):
  (w2.setCell (ii r 0)<|my g 0 (fv J+1) R).heap[r]?=fh (.cells #[my g 0 (fv J+1) R] 94 (0,0))/\(w2.setCell (ii r 0)<|my g 0 (fv J+1) R).ownsRow 0 108 4 (my g 0 (fv J+1) R) (fv J+1) (gD J++Y)/\
    ((fh g:Option Nat)=(Value.slice a (fv J) h).ownBlock\/w.heap.size<=g)/\fH (λk=>k=r\/fh k=(Value.slice a (fv J) h).ownBlock) w (w2.setCell (ii r 0)<|my g 0 (fv J+1) R):=by
 have m:∀k,k<w.heap.size->fh k≠(Value.slice a (fv J) h).ownBlock->w2.heap[k]?=w.heap[k]?:=by
  intro k s n;rw[c.block k (by simp;omega) n];show(wr.alloc o1).heap[k]?=_
  grind [sG]
 have t:w2.heap[r]?=fh (.cells #[fy a (fv J) h] 94 (0,0)):=by rw[m r b.lt i,b.hr]
 have u:g≠r:=by
  rintro rfl;rcases j with d|d
  exact i d
  have:=b.lt
  simp[Value.ownBlock]at d;omega
 have o:=c.size;simp at o;refine⟨?_,?_,?_,⟨c.os.trans f.1,c.tape.trans f.2.1,c.output.trans f.2.2,by simp;omega,?_⟩⟩
 grind [World.setCell,BV]
 have⟨d,v⟩:=l;refine⟨d,?_⟩
 grind [vh]
 rcases j with b|b
 exact Or.inl b;simp[Value.ownBlock]at b;omega
 grind [vh]
theorem emp(r)(a)(h)(J)(o)(w)(b:lB F w r a h J)(u:qd G w o)(ak:o.high=0)(al:findAt J o=fj)(aI:fv J<400)
  (Q:∀e∈o.gh,0<=e.2.2/\e.2.2<(fv J:Int)):
  ik 78 #[ie r,qf o] w λe H=>e=fF (fY<|fv J)/\
   ∃g R,H.heap[r]?=fh (.cells #[my g 0 (fv J+1) R] 94 (0,0))/\H.ownsRow 0 108 4 (my g 0 (fv J+1) R) (fv J+1) (gD J++Ob.cells { o with high:=xt J o.gh })/\
    ((fh g:Option Nat)=(Value.slice a (fv J) h).ownBlock\/w.heap.size<=g)/\fH (λk=>k=r\/fh k=(Value.slice a (fv J) h).ownBlock) w H:=by
 have⟨am,U,an,ao,ap⟩:=kC ih4;have B:∀c,ju w (w.alloc c):=λc=>(mi _ _).alloc (lw _) _;have v:=λc:Obj=>Cm r a h J o (w.alloc c) (b.below<|B c)<|u.below (B c);rw[al]at v;unfold qf at v |-;have C:∀c:Obj,ik 149 #[ie r,fD #[fY o.kind,hh o.data,fy o.ea o.el o.ec,fY o.high]] (w.alloc c) λe H=>e=fF (fY<|-1)/\Below (w.alloc c).heap.size (w.alloc c) H:=v;clear v;have aq:fe (∀x∈J,0<=x.high/\x.high<=5):=λx S=>⟨(b.zz x S).Jb,(b.zz x S).Jc⟩;have aJ:o.el<=16:=u.few;have T:fe (fv o.gh=o.el):=u.len
 change fe _ at Q
 rw[ak]at C |-;go_enter func78,ntmps78;go_wp2_with fail;refine(C _).via λO D=>?_
 have s:=(B _).trans<|D.mono (by simp);have aK:=(b.below s).c0;have V:r<w.heap.size:=b.lt;have ar:fe (om O w.heap.size o.kind o.data o.ea o.el o.ec 0):=by
  show O.heap[w.heap.size]?=_;rw[D.block _<|by simp];exact nX _ _
 have au:w.heap.size<O.heap.size:=by have:=D.size;simp at this;omega
 clear C;go_wp2
 go_loopw [6] (λi wr=>∃k:Nat,k<=o.el/\i=.int .i64 k/\fe (fH (λk=>k=w.heap.size) O wr)/\fe (om wr w.heap.size o.kind o.data o.ea o.el o.ec<|xt J (o.gh.take k))/\0<=xt J (o.gh.take k)/\xt J (o.gh.take k)<=6) (λi _=>o.el-(intOf i).toNat)
 case atStart=>exact⟨0,zt _,rfl,⟨rfl,rfl,rfl,lw _,λ_ _ _=>rfl⟩,ar,by show(0:Int)<=0;omega,by show(0:Int)<=6;omega⟩
 case round=>
  obtain⟨k,aL,rfl,d,t,X,Y⟩:=hrel;have n:∀p,p<w.heap.size->wr.heap[p]?=w.heap[p]?:=λp av=>(d.block p (by omega) (by omega)).trans<|s.block p av;have aw:w.heap.size<wr.heap.size:=np au d.size;have Z:wr.c r 0=fh (fy a (fv J) h):=(wJ (a:=(ii r 0))<|n r V).trans b.c0;have⟨ax,E,fz⟩:=t.parts;by_cases ay:k<o.el
  ·have I:k<fv o.gh:=by rw[T.o];exact ay
   have y:=u.row;have⟨K,aM,aa⟩:=hZ y (by omega);have ab:=(lK aa).1;rw[ab]at y ax;clear ab aa;have az:K<w.heap.size:=gc y fX;have⟨_,_,z⟩:=lr (off:=0) (ks y) I;rw[iO]at z;have⟨aA,aB⟩:=Q _<|kN I;obtain⟨f,L⟩:∃f:Nat,o.gh[k].2.2=(f:Int):=⟨o.gh[k].2.2.toNat,by omega⟩;have M:f<fv J:=by omega
   rw[L]at z;have aN:=(wJ (a:=(ii K<|k*3+2))<|n K az).trans z;have⟨g,ac,aC,_,_,_,c3⟩:=mV b.row fX M;rw[ac]at Z;clear ac;have aO:=(wJ (a:=(ii g<|f*4+3))<|n g aC).trans c3;have⟨aP,aQ⟩:=aq J[f]<|kN M;have q:fe (xt J (o.gh.take<|k+1)=max (xt J<|o.gh.take k) (1+J[f].high)):=by
    show _=_;rw[vk I,Dc];unfold Db;rw[L,qE,jH M];rfl
   obtain⟨j,l⟩:=ol<|xt J (o.gh.take k);rw[<-l]at X Y E;have m:fe (j=xt J (o.gh.take k)):=l;clear c3 z l L aA aB;by_cases kQ:j<1+J[f].high
   ·go_wp2
    go_quiet (fail)
    go_wp2;go_roundw
    case rel=>
     refine⟨k+1,by omega,by go_num,Xe<|vw d nq,?_,by rw[q.o,<-m.o];omega,by rw[q.o,<-m.o];omega⟩;rw[q.o,<-m.o,Int.max_eq_right<|by omega];exact om.high (W:=wr.drewN nq) t _
    case measure=>simp[intOf];omega
   go_wp2
   go_quiet (fail)
   go_wp2;go_roundw
   case rel=>
    refine⟨k+1,by omega,by go_num,vw d nq,?_,by rw[q.o,<-m.o];omega,by rw[q.o,<-m.o];omega⟩;rw[q.o,<-m.o,Int.max_eq_left<|by omega,m.o];exact t
   case measure=>simp[intOf];omega
  have aR:k=o.el:=by omega
  have ad:fe (o.gh.take k=o.gh):=oJ (by rw[T.o];omega);rw[ad.o]at E;have ae:fe (om wr w.heap.size o.kind o.data o.ea o.el o.ec<|xt J o.gh):=by have:=t.o;rwa [ad.o]at this
  have⟨aS,aT⟩:=ae.aaF;obtain⟨j,l⟩:=ol<|xt J o.gh;rw[<-l]at E ae;have aD:fe (j=xt J o.gh):=l;clear X Y l t;have aE:fe (wr.ownsRow 0 108 4 (fy a (fv J) h) (fv J)<|gD J):=gg b.row λg aF=>n g<|gc b.row aF;have N:fe (fh r≠(Value.slice a (fv J) h).ownBlock):=io b.row b.hr (by decide);have aG:fe (∀af∈[Value.int .i64 o.kind,hh o.data,fy o.ea o.el o.ec,fY j],af.oneCell'=fm):=by intro af ag;simp at ag;rcases ag with rfl|rfl|rfl|rfl<;>rfl
  have aH:wr.frozen? (ii r 0)=fo:=(Rk (a:=(ii r 0))<|n r V).trans b.f0;have ah:r<wr.heap.size:=by omega
  go_wp2
  go_region_law(refine pu fX (.tmp 51) (.tmp 53) 92 fX 0 108 am _ 4 56 underlying92 U an ao ap fX (by decide) (fy a (fv J) h) (fv J) (gD J) (by simp[Act.eval]) (aE.alloc _) (ii wr.heap.size 0) 1 1 [fY o.kind,hh o.data,fy o.ea o.el o.ec,fY j] (by simp[Act.eval]) fX (RG wr (fY o.kind) (hh o.data) (fy o.ea o.el o.ec) (fY j) 108) aG (by unfold maxLen;omega) (by omega) (zt _) ?_;intro aU w2 P A ai;obtain⟨g,R,rfl⟩:=hZ P (by omega);have aV:=Lg A ah N Z;have aW:=Fe A ah N aH)
  all_goals
   have aj:fe _:=Xf b n aw ⟨d.os.trans s.os,d.tape.trans s.tape,d.output.trans s.output⟩ N P A ai;clear P A ai;go_wp2;go_ret;rw[aD.o]at aj;exact⟨by simp,g,R,aj⟩
theorem UV(b:w.ownsRow base e size v n xs)(c:v.ownBlock=fh g):∃a,w.heap[g]?=fh (.cells a e (0,0)):=by
 rcases b.2 with⟨rfl,_⟩|⟨d,h,a,rfl,_,f,_⟩
 all_goals grind [Value.ownBlock]
def gj (F:Nat->Prop)(w:fq)(r:Nat)(J:List Ob):Prop:=∃a h,lB F w r a h J
theorem gj.keep(b:gj F w r J)(hF:∀k,F k->F' k)(c:∀k,F k->H.heap[k]?=w.heap[k]?):gj F' H r J:=by
 obtain⟨a,h,b⟩:=b;exact⟨a,h,b.keep hF c⟩
theorem gj.below(b:gj F w r J)(c:ju w H)(hF:∀k,F k->F' k):gj F' H r J:=by
 obtain⟨a,h,b⟩:=b;have d:=b.below c;exact⟨a,h,d.keep hF λ_ _=>rfl⟩
theorem foldl_max(b:fV->Int):∀(c:List fV)(a:Int),a<=c.foldl (λa e=>max a<|b e) a
 |[],_=>wC _
 |e::r,a=>Int.le_trans (Int.le_max_left _ _)<|foldl_max b r _
theorem HY(J)(a:List fV):0<=xt J a:=foldl_max (λe=>1+Db J e) a 0
theorem lB.put(c:lB F w r a h J)(d:qd G w o)(p:xt J o.gh<=5)(t:fv J<400)
  (u:H.heap[r]?=fh (.cells #[my g 0 (fv J+1) R] 94 (0,0)))(q:H.ownsRow 0 108 4 (my g 0 (fv J+1) R) (fv J+1) (gD J++Ob.cells { o with high:=xt J o.gh }))
  (s:(fh g:Option Nat)=(Value.slice a (fv J) h).ownBlock\/w.heap.size<=g)(f:fH (λk=>k=r\/fh k=(Value.slice a (fv J) h).ownBlock) w H):
  lB (λk=>F k\/G k\/(w.heap.size<=k/\k<H.heap.size)) H r (fh<|ii g 0) R (J++[{ o with high:=xt J o.gh }])/\fH F w H:=by
 have y:fv (J++[{ o with high:=xt J o.gh }])=fv J+1:=by simp
 have items:∀{v:fu}{n:Nat}{xs:iN},w.ownsRow 0 112 3 v n xs->H.ownsRow 0 112 3 v n xs:=by
  intro v n xs j;refine gg j λk b=>?_
  obtain⟨z,l⟩:=UV j b;refine f.block k (gc j b) ?_;rintro(rfl|e)
  have:=c.hr;rw[l]at this;cases this
  exact io c.row l (by decide) e
 refine⟨⟨.inl c.fr,?_,?_,?_,?_,?_⟩,⟨f.os,f.tape,f.output,f.size,?_⟩⟩;intro k b;rcases s with e|e
 refine .inl<|c.fa k ?_;rw[<-e];exact b;simp only[Value.ownBlock,pV]at b;subst b;exact .inr<|.inr ⟨e,gc q fX⟩
 ·all_goals grind
 ·all_goals grind [vu]
 ·all_goals omega
 intro x i;rcases qw.1 i with i|i
 have:=c.zz x i
 exact⟨this.kind,this.size,this.len,this.few,this.Jb,this.Jc,items this.row,λk b=>.inl<|this.own k b⟩;rw[oa.1 i];exact⟨d.kind,d.size,d.len,d.few,HY _ _,p,items d.row,λk b=>.inr<|.inl (d.own k b)⟩;intro k b m;refine f.block k b ?_;rintro(rfl|e);exact m c.fr;exact m<|c.fa k e.symm
def AA (J a:List Ob)(o:Ob)(x:Int):Prop:=
 (∃i:Nat,findAt J o=fh i/\a=J/\x=i)\/(findAt J o=fj/\400<=fv J/\a=J/\x=-1)\/
 (findAt J o=fj/\fv J<400/\a=J++[{ o with high:=xt J o.gh }]/\x=fv J)
def Grow (F G:Nat->Prop)(w H:fq)(k:Nat):Prop:=F k\/G k\/(w.heap.size<=k/\k<H.heap.size)
theorem AB(b:gj F w r J)(o)(j:qd G w o)(p:o.high=0)(q:xt J o.gh<=5)(s:∀e∈o.gh,0<=e.2.2/\e.2.2<(fv J:Int)):
  ik 78 #[ie r,qf o] w λe H=>∃x m,e=fF (fY x)/\AA J m o x/\gj (Grow F G w H) H r m/\fH F w H:=by
 obtain⟨a,h,b⟩:=b;have inv:gj F w r J:=⟨a,h,b⟩;cases c:findAt J o with
 |some i=>
  refine(ih5 r a h J o w b j i c).mono λe H⟨d,f⟩=>?_;exact⟨_,J,d,.inl ⟨i,c,fX,fX⟩,inv.below f λk l=>.inl l,fH.fJ f⟩
 |none=>
  by_cases n:400<=fv J;refine(dyn r a h J o w b j c n).mono λe H⟨d,f⟩=>?_
  exact⟨_,J,d,.inr<|.inl ⟨c,n,fX,fX⟩,inv.below f λk l=>.inl l,fH.fJ f⟩;refine(emp r a h J o w b j p c (by omega) s).mono λe H⟨d,g,R,t,u,v,y⟩=>?_
  have:=b.put j q (by omega) t u v y
  exact⟨_,_,d,.inr (.inr ⟨c,by omega,fX,fX⟩),⟨_,_,this.1⟩,this.2⟩
def AD (J a:List Ob)(d:fP)(x y:Int):Prop:=
 (256<d.size/\a=J/\x=-1/\y=11)\/
 (d.size<=256/\((∃i:Nat,findAt J (xr d)=fh i/\a=J/\x=i/\y=0)\/(findAt J (xr d)=fj/\400<=fv J/\a=J/\x=-1/\y=11)\/
  (findAt J (xr d)=fj/\fv J<400/\a=J++[xr d]/\x=fv J/\y=0)))
theorem Lh(a:gj F w r J)(d:fP)(u:d.size<=maxLen):
  ik 36 #[ie r,hh d] w λe H=>∃x y b,e=pD #[fY x,fY y]/\AD J b d x y/\gj (kA F w H) H r b/\fH F w H:=by
 unfold maxLen at u;by_cases v:256<d.size
 ·have l:fe (gj F w r J):=a
  clear a;go_enter func36,ntmps36;go_wp2;go_ret2;exact⟨_,_,J,fX,.inl ⟨v,fX,fX,fX⟩,l.o.below (mi _ _) λk c=>.inl c,fH.fJ<|mi _ _⟩
 have n:qd (λ_=>False) w (xr d):=⟨.inl fX,by show d.size<=256;omega,fX,by show 0<=16;omega,wC _,by show(0:Int)<=5;omega,kO _ _ _ _,λg z=>by cases z⟩;have o:=AB a (xr d) n fX (by show(0:Int)<=5;omega) (λe A=>by cases A);have p:ik 78 #[ie r,fD #[fY 1,hh d,fy fj 0 0,fY 0]] w λe H=>∃x b,e=fF (fY x)/\AA J b (xr d) x/\gj (Grow F (λ_=>False) w H) H r b/\fH F w H:=o;clear o a n;have q:d.size<=256:=by omega
 go_enter func36,ntmps36;go_wp2_with fail;refine p.mono ?_;rintro e H ⟨x,b,rfl,s,U,c⟩;have l:fe (gj (kA F w H) H r b/\fH F w H):=⟨U.keep (λk c=>by rcases c with a|a|a;exact .inl a;exact a.elim;exact .inr a) λ_ _=>rfl,c⟩;have t:fe (AA J b (xr d) x):=s;clear p U c s;by_cases B:x<0
 ·go_wp2
  go_ret2;refine⟨_,_,b,fX,.inr ⟨q,?_⟩,l.o⟩;rcases t.o with⟨i,f,h,j⟩|⟨f,h,j,m⟩|⟨f,h,j,m⟩
  all_goals grind
 go_wp2;go_ret2;refine⟨_,_,b,fX,.inr ⟨q,?_⟩,l.o⟩;rcases t.o with⟨i,f,h,j⟩|⟨f,h,j,m⟩|⟨f,h,j,m⟩
 ·all_goals grind
 omega;exact .inr<|.inr ⟨f,h,j,m,fX⟩
theorem Nx(a:ig)(c0)(w:fq):ik 107 #[fy a 0 c0] w (PP (fy fj 0 0) w):=by
 go_enter func107,ntmps107;go_wp2
 go_loopw [3,4] (λv i I=>v=fy fj 0 0/\i=.int .i64 0/\I=w) (λ_ _ _=>0)
 case atStart=>exact⟨rfl,rfl,rfl⟩
 case round=>
  obtain⟨rfl,rfl,rfl⟩:=hrel;go_wp2;go_ret;exact⟨fX,fX⟩
def jx (w:fq)(a:ig)(m:Nat)(M:List fV):Prop:=fv M=m/\(0<m->∃b off,a=fh ⟨b,off,fj⟩/\b<w.heap.size/\∀c d,(flat M)[c]?=fh d->w.cell? ⟨b,off+c,fj⟩=fh d)
theorem zA(a)(m c0)(M)(w)(c:jx w a m M)(f:m<=1000000000)(g:∀e∈M,e.1.size<=maxLen):
  ik 107 #[fy a m c0] w λe H=>∃v,e=fF v/\H.ownsRow w.heap.size 112 3 v m (flat<|Sx M)/\ju w H:=by
 rcases stM m with rfl|h
 have:M=[]:=KL c.1
 subst this;exact(Nx a c0 w).mono λe H⟨i,d⟩=>⟨_,i,by subst d;exact kO _ _ _ _,by subst d;exact mi _ _⟩
 obtain⟨b,off,rfl,j,k⟩:=c.2 h;exact RS b off m c0 M w c.1 f j k g
def oo (J:List Ob)(e:fV):Bool:=decide (0<=e.2.2)&&decide (((J[e.2.2.toNat]?).map (·.kind)).getD 0=e.2.1)
def Li (v:ig×Nat)(m:Nat)(a:List fV):Ob:={ kind:=2,data:=ByteArray.empty,ea:=v.1,el:=m,ec:=v.2,gh:=a,high:=0 }
def AE (J a:List Ob)(M:List fV)(x y:Int):Prop:=
 ((∃e∈M,fN e.1=fo)/\a=J/\x=-1/\y=1)\/
 ((∀e∈M,fN e.1=fm)/\
  ((¬(M.map (·.1)).Nodup/\a=J/\x=-1/\y=6)\/
   ((M.map (·.1)).Nodup/\16<fv M/\a=J/\x=-1/\y=11)\/
   ((M.map (·.1)).Nodup/\fv M<=16/\(∃e∈M,oo J e=fo)/\a=J/\x=-1/\y=13)\/
   ((M.map (·.1)).Nodup/\fv M<=16/\(∀e∈M,oo J e=fm)/\5<xt J M/\a=J/\x=-1/\y=11)\/
   ((M.map (·.1)).Nodup/\fv M<=16/\(∀e∈M,oo J e=fm)/\xt J M<=5/\∃v z,AA J a (Li v (fv M)<|Sx M) z/\((z<0/\x=-1/\y=11)\/(0<=z/\x=z/\y=0)))))
theorem po(b:w.ownsRow base e size v n xs):∃a c,v=fy a n c:=by
 rcases b.2 with⟨rfl,rfl⟩|⟨g,h,_,d,_⟩
 all_goals grind
theorem fH.after(b:fH F O w2)(a:ju w O):fH F w w2:=
 ⟨b.os.trans a.os,b.tape.trans a.tape,b.output.trans a.output,wy a.size b.size,λk c d=>(b.block k (np c a.size) d).trans<|a.block k c⟩
theorem wR(J){a fs:List fV}(b:a.Perm fs):xt J a=xt J fs:=by
 all_goals grind [xt,List.Perm.foldl_eq']
theorem Ny(l:gj F w r J)(a)(m c0)(M)(af:jx w a m M)(bp:m*32<=140737488355328)(aw:∀e∈M,e.1.size<=maxLen)
  (ax:∀e∈M,-1<=e.2.2/\e.2.2<(fv J:Int)):
  ik 82 #[ie r,fy a m c0] w λe H=>∃x y q,e=pD #[fY x,fY y]/\AE J q M x y/\gj (kA F w H) H r q/\fH F w H:=by
 have ag:fe (gj F w r J):=l;have ay:fe (∀e∈M,e.1.size<=maxLen):=aw;have az:fe (∀e∈M,-1<=e.2.2/\e.2.2<(fv J:Int)):=ax;have p:fe (fv M=m):=af.1;have X:fe (jx w a m M):=af;have B:∀f,fe (gj (kA F w<|w.drewN f) (w.drewN f) r J/\fH F w (w.drewN f)):=λf=>⟨ag.o.below (iP (mi _ _) f) λk Y=>.inl Y,fH.fJ<|iP (mi _ _) f⟩;clear l aw ax af;go_enter func82,ntmps82;go_wp2
 go_loopw [6] (λi wr=>∃k:Nat,k<=m/\i=.int .i64 k/\(∃f,wr=w.drewN f)/\fe (∀c(j:c<fv M),c<k->fN M[c].1=fm)) (λi _=>m-(intOf i).toNat)
 case atStart=>exact⟨0,zt _,rfl,⟨0,rfl⟩,λc j l=>by omega⟩
 case round=>
  obtain⟨k,Y,rfl,⟨f,rfl⟩,ah⟩:=hrel;by_cases bb:k<m
  ·have ai:k<fv M:=by rw[p.o];exact bb
   obtain⟨b,off,rfl,aA,s⟩:=X.o.2 (by omega);obtain⟨d0,_,_⟩:=lr s ai;have aB:fe (∀c K,(flat M)[c]?=fh K->w.c b (off+c)=fh K):=s;clear s;have bc:(w.drewN f).c b (off+k*3)=fh (fA M[k].1):=d0;have C:=λW=>IY M[k].1 W<|ay.o M[k] (kN ai);cases D:fN M[k].1 with
   |false=>
    have aj:fe (fN M[k].1=fo):=D;rw[D]at C;clear D;go_wp2_with(go_at_call 150;refine(C _).mono ?_;rintro e H ⟨rfl,ak,rfl⟩);go_ret2;exact⟨_,_,J,fX,.inl ⟨⟨M[k],kN ai,aj.o⟩,fX,fX,fX⟩,(B<|f+ak).out⟩
   |true=>
    have aj:fe (fN M[k].1=fm):=D;rw[D]at C;clear D;go_wp2_with(go_at_call 150;refine(C _).mono ?_;rintro e H ⟨rfl,ak,rfl⟩);go_roundw
    case rel=>
     refine⟨k+1,by omega,by go_num,⟨f+ak,fX⟩,?_⟩;intro c j bd;by_cases e:c=k;subst e;exact aj.o;exact ah.o c j<|by omega
    case measure=>simp[intOf];omega
  have u:fe (∀x∈M,fN x.1=fm):=by
   intro x al;obtain⟨c,j,rfl⟩:=rD al;exact ah.o c j (by rw[p.o]at j;omega)
  clear ah;go_wp2
  go_loopw [8] (λi wr=>∃k:Nat,k<=m/\i=.int .i64 k/\(∃f,wr=w.drewN f)/\fe (∀i c(U:i<fv M)(j:c<fv M),i<k->c<i->M[i].1≠M[c].1)) (λi _=>m-(intOf i).toNat)
  case atStart=>exact⟨0,zt _,rfl,⟨f,rfl⟩,λi c U j L Z=>by omega⟩
  case round=>
   obtain⟨n,aa,rfl,⟨am,rfl⟩,an⟩:=hrel;by_cases be:n<m
   ·have aC:n<fv M:=by rw[p.o];exact be
    obtain⟨b,off,rfl,aA,s⟩:=X.o.2 (by omega);obtain⟨d0,_,_⟩:=lr s aC;have aB:fe (∀c K,(flat M)[c]?=fh K->w.c b (off+c)=fh K):=s;clear s;have bq:(n:Int)<(m:Int):=by omega
    go_wp2
    go_loopw [9] (λi wr=>∃o:Nat,o<=n/\i=.int .i64 o/\(∃f,wr=w.drewN f)/\fe (∀c(j:c<fv M),c<o->M[n].1≠M[c].1)) (λi _=>n-(intOf i).toNat)
    case atStart=>exact⟨0,zt _,rfl,⟨am,rfl⟩,λc j l=>by omega⟩
    case round=>
     obtain⟨o,br,rfl,⟨ab,rfl⟩,aD⟩:=hrel;by_cases bf:o<n
     ·have aE:o<fv M:=by omega
      obtain⟨bg,_,_⟩:=lr aB.o aE;have bc:(w.drewN ab).c b (off+n*3)=fh (fA M[n].1):=d0;have bs:(w.drewN ab).c b (off+o*3)=fh (fA M[o].1):=bg;have bt:(o:Int)<(m:Int):=by omega
      cases aF:M[n].1.toList==M[o].1.toList with
      |true=>
       have ao:fe ((M[n].1.toList==M[o].1.toList)=fm):=aF;go_wp2
       go_quiet (fail)
       go_wp2;go_ret2;refine⟨_,_,J,fX,.inr ⟨u.o,.inl ⟨?_,fX,fX,fX⟩⟩,by rw[Ea];exact(B _).out⟩;intro nZ;have aG:=Ri.1 nZ o n (by simpa using aE) (by simpa using aC) bf;simp only[yS]at aG;exact aG (wL (by simpa using ao.o)).symm
      |false=>
       have ao:fe ((M[n].1.toList==M[o].1.toList)=fo):=aF;go_wp2
       go_quiet (fail)
       go_wp2;go_roundw
       case rel=>
        refine⟨o+1,by omega,by go_num,⟨ab+nq,fX⟩,?_⟩;intro c j bd;by_cases e:c=o;subst e;intro l;have:=ao.o;rw[l]at this;simp at this;exact aD.o c j<|by omega
       case measure=>simp[intOf];omega
     go_wp2;go_roundw
     case rel=>
      refine⟨n+1,by omega,by go_num,⟨ab,fX⟩,?_⟩;intro i c U j L Z;by_cases e:i=n;subst e;exact aD.o c j (by omega);exact an.o i c U j (by omega) Z
     case measure=>simp[intOf];omega
   have E:fe ((M.map (·.1)).Nodup):=by
    refine Ri.2 λi c U j bh=>?_;simp only[yS];simp only[oI]at U j;exact(an.o c i j U (by rw[p.o]at j;omega) bh).symm
   clear an;by_cases bi:16<m
   ·go_wp2
    go_ret2;exact⟨_,_,J,fX,.inr ⟨u.o,.inr (.inl ⟨E.o,by rw[p.o];exact bi,fX,fX,fX⟩)⟩,(B am).out⟩
   have ac:m<=16:=by omega
   go_wp2
   go_loopw [10,11] (λt i wr=>∃k:Nat,∃N:Bool,k<=m/\i=.int .i64 k/\t=fE N/\(∃f,wr=w.drewN f)/\fe (N=decide (5<xt J (M.take k)))/\fe (∀c(j:c<fv M),c<k->oo J M[c]=fm)) (λ_ i _=>m-(intOf i).toNat)
   case atStart=>exact⟨0,fo,zt _,rfl,rfl,⟨am,rfl⟩,rfl,λc j l=>by omega⟩
   case round=>
    obtain⟨d,N,bu,rfl,rfl,⟨G,rfl⟩,P,Q⟩:=hrel;by_cases bj:d<m
    ·have R:d<fv M:=by rw[p.o];exact bj
     obtain⟨b,off,rfl,aA,s⟩:=X.o.2 (by omega);obtain⟨_,d1,d2⟩:=lr s R;have bk:(w.drewN G).c b (off+d*3+1)=fh (.int .i64 M[d].2.1):=d1;have bv:(d:Int)<(m:Int):=by omega
     clear s;obtain⟨aH,aI⟩:=az.o _<|kN R;by_cases aJ:M[d].2.2<0
     ·have aK:M[d].2.2=-1:=by omega
      rw[aK]at d2;have aL:(w.drewN G).c b (off+d*3+2)=fh (fY<|-1):=d2;have A:fe (oo J M[d]=fo):=by
       show oo J M[d]=fo;unfold oo;rw[yv<|by omega];rfl
      clear aK aJ aH aI;go_wp2
      go_quiet (fail)
      go_wp2;go_ret2;exact⟨_,_,J,fX,.inr ⟨u.o,.inr<|.inr (.inl ⟨E.o,by rw[p.o];exact ac,⟨M[d],kN R,A.o⟩,fX,fX,fX⟩)⟩,by rw[Ea];exact(B _).out⟩
     obtain⟨c,j⟩:∃c:Nat,M[d].2.2=(c:Int):=⟨M[d].2.2.toNat,by omega⟩;have I:c<fv J:=by omega
     have bw:(c:Int)<(fv J:Int):=(by omega);rw[j]at d2;have aL:(w.drewN G).c b (off+d*3+2)=fh (fY (c:Int)):=d2;have bx:decide ((c:Int)<0)=fo:=by simp
     obtain⟨bz,h,S⟩:=ag.o;obtain⟨g,rfl,bA,c0,_,_,c3⟩:=mV S.row fX I;have bB:=λf=>(show(w.drewN f).c g (c*4)=fh (.int .i64 J[c].kind)from c0);have bC:=λf=>(show(w.drewN f).c g (c*4+3)=fh (.int .i64 J[c].high)from c3);have bD:=λf=>(show(w.drewN f).c r 0=fh (my g 0 (fv J) h)from S.c0);have bE:=λf=>(show(w.drewN f).c b (off+d*3+2)=fh (fY (c:Int))from d2);obtain⟨bF,bG⟩:0<=J[c].high/\J[c].high<=5:=⟨(S.zz _<|kN I).Jb,(S.zz _<|kN I).Jc⟩;have bH:=λf=>(show(w.drewN f).c b (off+d*3+1)=fh (.int .i64 M[d].2.1)from d1);have ap:fe (M[d].2.2=(c:Int)):=j;clear j aJ aH aI S bk aL;cases aM:(J[c].kind != M[d].2.1) with
     |true=>
      have A:fe (oo J M[d]=fo):=by
       show oo J M[d]=fo;unfold oo;rw[ap.o,qE,jH I]
       have:¬J[c].kind=M[d].2.1:=by simpa using aM
       simp[this]
      go_wp2
      go_quiet (fail)
      go_wp2;go_ret2;exact⟨_,_,J,fX,.inr ⟨u.o,.inr<|.inr (.inl ⟨E.o,by rw[p.o];exact ac,⟨M[d],kN R,A.o⟩,fX,fX,fX⟩)⟩,by rw[Ea];exact(B _).out⟩
     |false=>
      have A:fe (oo J M[d]=fm):=by
       show oo J M[d]=fm;unfold oo;rw[ap.o,qE,jH I]
       have:J[c].kind=M[d].2.1:=by simpa using aM
       simp[this]
      have aq:fe (xt J (M.take<|d+1)=max (xt J<|M.take d) (1+J[c].high)):=by
       show _=_;rw[vk R,Dc];unfold Db;rw[ap.o,qE,jH I];rfl
      cases N with
      |true=>
       go_wp2
       go_quiet (fail)
       go_wp2
       go_quiet (fail)
       go_wp2;go_roundw
       case rel=>
        refine⟨d+1,fm,by omega,by go_num,fX,⟨_,fX⟩,?_,?_⟩
        have:=BZ P.o.symm
        show fm=_;rw[aq.o,qu<|by omega];intro i U aN;by_cases e:i=d;subst e;exact A.o;exact Q.o i U<|by omega
       case measure=>simp[intOf];omega
      |false=>
       by_cases aO:5<1+J[c].high
       ·go_wp2
        go_quiet (fail)
        go_wp2
        go_quiet (fail)
        go_wp2;go_roundw
        case rel=>
         refine⟨d+1,fm,by omega,by go_num,by first|rfl|simp[aO],⟨_,fX⟩,?_,?_⟩;show fm=_;rw[aq.o,qu<|by omega];intro i U aN;by_cases e:i=d;subst e;exact A.o;exact Q.o i U<|by omega
        case measure=>simp[intOf];omega
       go_wp2
       go_quiet (fail)
       go_wp2
       go_quiet (fail)
       go_wp2;go_roundw
       case rel=>
        refine⟨d+1,fo,by omega,by go_num,by first|rfl|simp[aO],⟨_,fX⟩,?_,?_⟩
        have:=Rl P.o.symm
        show fo=_;rw[aq.o,yv<|by omega];intro i U aN;by_cases e:i=d;subst e;exact A.o;exact Q.o i U<|by omega
       case measure=>simp[intOf];omega
    have ad:fe (∀x∈M,oo J x=fm):=by
     intro x al;obtain⟨c,j,rfl⟩:=rD al;exact Q.o c j (by rw[p.o]at j;omega)
    have bl:fe (M.take d=M):=oJ (by rw[p.o];omega);rw[bl.o]at P;have ar:fe (fv M<=16):=by rw[p.o];exact ac
    clear Q;cases N with
    |true=>
     go_wp2;go_ret2;exact⟨_,_,J,fX,.inr ⟨u.o,.inr<|.inr (.inr<|.inl ⟨E.o,ar.o,ad.o,BZ P.o.symm,fX,fX,fX⟩)⟩,(B G).out⟩
    |false=>
     have au:fe (xt J M<=5):=by have:=Rl P.o.symm;exact Int.not_lt.1 this
     have aP:=zA a m c0 M (w.drewN G) X.o (by omega) ay.o;go_wp2_with fail;refine aP.mono ?_;rintro e O ⟨v,rfl,ae,aQ⟩;have av:ju w O:=(iP (mi _ _) G).trans aQ;obtain⟨T,V,C⟩:=po ae;subst C;have aR:qd (λk=>w.heap.size<=k/\k<O.heap.size) O (Li (T,V) m<|Sx M):=
      ⟨.inr fX,by show 0<=256;omega,by show(Sx M).length=m;rw[(kJ M).length_eq,p.o],ac,wC _,by show(0:Int)<=5;omega,tB ae<|zt _,λg bm=>ae.lt g bm⟩
     have aS:gj F O r J:=ag.o.below av λ_ l=>l;have aT:=AB aS (Li (T,V) m<|Sx M) aR fX (by show xt J (Sx M)<=5;rw[wR J<|kJ M];exact au.o) (λe bn=>by
      have aU:e∈M:=rN bn;have L:=ad.o e aU;have Z:=az.o e aU;unfold oo at L;simp only[EH,Hw]at L;exact⟨L.1,Z.2⟩)
     have aV:ik 78 #[ie r,fD #[fY 2,hh ByteArray.empty,fy T m V,fY 0]] O λe H=>∃x q,e=fF (fY x)/\AA J q (Li (T,V) m<|Sx M) x/\gj (Grow F (λk=>w.heap.size<=k/\k<O.heap.size) O H) H r q/\fH F O H:=aT;clear aP aT ae aR aS;go_wp2_with fail;refine aV.mono ?_;rintro e w2 ⟨z,q,rfl,aW,aX,aa⟩;have aY:fe (gj (kA F w w2) w2 r q/\fH F w w2):=⟨aX.keep (λk Y=>by
      rcases Y with l|l|l
      exact .inl l;exact .inr ⟨l.1,np l.2 aa.size⟩;exact .inr ⟨wy av.size l.1,l.2⟩) λ_ _=>rfl,aa.after av⟩
     have aZ:fe (AA J q (Li (T,V) (fv M)<|Sx M) z):=by rw[p.o];exact aW
     clear aV aX aa aW aQ;by_cases bo:z<0
     ·go_wp2
      go_ret2;exact⟨_,_,q,fX,.inr ⟨u.o,.inr<|.inr (.inr<|.inr ⟨E.o,ar.o,ad.o,au.o,_,z,aZ.o,.inl ⟨bo,fX,fX⟩⟩)⟩,aY.o⟩
     go_wp2;go_ret2;exact⟨_,_,q,fX,.inr ⟨u.o,.inr<|.inr (.inr (.inr ⟨E.o,ar.o,ad.o,au.o,_,z,aZ.o,.inr ⟨by omega,fX,fX⟩⟩))⟩,aY.o⟩
def encI (xs:List Int):iN:=xs.map<|Value.int .i64
def Xg (xs:List Bool):iN:=xs.map Value.bool
structure gJ (F:Nat->Prop)(w:World)(W s r:Nat)(ia ka pa:ig)(ic kc pc:Nat)(ids:List Int)(known:List Bool)(paths:List Int)(c5 c6 c7 c8 c9 c10 c11:Value):Prop where
 fw:F W
 hW:w.heap[W]?=some (.cells #[.pointer (some ⟨s,0,none⟩),.pointer (some ⟨r,0,none⟩),.slice ia ids.length ic,.slice ka known.length kc,.slice pa paths.length pc,c5,c6,c7,c8,c9,c10,c11] 71 (0,0))
 rP:w.ownsRow 0 29 1 (.slice ia ids.length ic) ids.length (encI ids)
 uh:w.ownsRow 0 4 1 (.slice ka known.length kc) known.length (Xg known)
 uj:w.ownsRow 0 3 1 (.slice pa paths.length pc) paths.length (encI paths)
 fi:∀g,(Value.slice ia ids.length ic).ownBlock=some g->F g
 fk:∀g,(Value.slice ka known.length kc).ownBlock=some g->F g
 fp:∀g,(Value.slice pa paths.length pc).ownBlock=some g->F g
theorem gJ.keep(a:gJ F w W s r ia ka pa ic kc pc ids E paths c5 c6 c7 c8 c9 c10 c11)(hF:∀k,F k->F' k)(c:∀k,F k->H.heap[k]?=w.heap[k]?):gJ F' H W s r ia ka pa ic kc pc ids E paths c5 c6 c7 c8 c9 c10 c11:=
 ⟨hF _ a.fw,(c W a.fw).trans a.hW,gg a.rP λg b=>c g<|a.fi g b,gg a.uh λg b=>c g<|a.fk g b,gg a.uj λg b=>c g<|a.fp g b,λg b=>hF g<|a.fi g b,λg b=>hF g<|a.fk g b,λg b=>hF g<|a.fp g b⟩
def gJ.lt(a:gJ F w W s r ia ka pa ic kc pc ids E paths c5 c6 c7 c8 c9 c10 c11):W<w.heap.size:=(lW.1 a.hW).1
theorem gJ.below(a:gJ F w W s r ia ka pa ic kc pc ids E paths c5 c6 c7 c8 c9 c10 c11)(c:ju w H):gJ F H W s r ia ka pa ic kc pc ids E paths c5 c6 c7 c8 c9 c10 c11:=
 ⟨a.fw,(c.block W a.lt).trans a.hW,gg a.rP λg b=>c.block g<|gc a.rP b,gg a.uh λg b=>c.block g<|gc a.uh b,gg a.uj λg b=>c.block g<|gc a.uj b,a.fi,a.fk,a.fp⟩
def gJ.c0(a:gJ F w W s r ia ka pa ic kc pc ids E paths c5 c6 c7 c8 c9 c10 c11):w.c W 0=fh (ie s):=by simp[World.cell?,a.hW]
def gJ.c1(a:gJ F w W s r ia ka pa ic kc pc ids E paths c5 c6 c7 c8 c9 c10 c11):w.c W 1=fh (ie r):=by simp[World.cell?,a.hW]
def gJ.c2(a:gJ F w W s r ia ka pa ic kc pc ids E paths c5 c6 c7 c8 c9 c10 c11):w.cell? (ii W 2)=fh (fy ia (fv ids) ic):=by simp[World.cell?,a.hW]
def gJ.c3(a:gJ F w W s r ia ka pa ic kc pc ids E paths c5 c6 c7 c8 c9 c10 c11):w.c W 3=fh (fy ka (fv E) kc):=by simp[World.cell?,a.hW]
def gJ.c4(a:gJ F w W s r ia ka pa ic kc pc ids E paths c5 c6 c7 c8 c9 c10 c11):w.c W 4=fh (fy pa (fv paths) pc):=by simp[World.cell?,a.hW]
def gJ.fz(a:gJ F w W s r ia ka pa ic kc pc ids E paths c5 c6 c7 c8 c9 c10 c11)(i):w.frozen? (ii W i)=fo:=by simp[World.frozen?,a.hW]
theorem row_one(b:w.ownsRow 0 t 1 (fy a n c) n xs)(U:xs[i]?=fh v):∃g,a=fh (ii g 0)/\g<w.heap.size/\w.c g i=fh v/\i<n:=by
 have d:i<n:=by have:=(wH.1 U).1;have:=b.1;omega
 obtain⟨g,h,e⟩:=hZ b (by omega);have f:=(lK e).1;subst f;refine⟨g,fX,gc b fX,?_,d⟩
 have:=b.cells (g:=g) fX i v U
 grind [qc]
def Lj (ids:List Int)(n:Int):Int:=if 1<=n/\n<=fv ids then ids.getD (n-1).toNat 0 else n
theorem szl(b:gJ F w W s r ia ka pa ic kc pc ids E paths c5 c6 c7 c8 c9 c10 c11)(n:Int)(k:fv ids<=400):
  ik 39 #[ie W,fY n] w (PP (fY<|Lj ids n) w):=by
 have l:=b.c2;by_cases f:1<=n
 ·by_cases e:n<=(fv ids:Int)
  case' pos=>
   obtain⟨a,j⟩:∃a:Nat,n=(a:Int)+1:=⟨(n-1).toNat,by omega⟩;subst j;have h:a<fv ids:=by omega
   obtain⟨g,rfl,m,c,_⟩:=row_one b.rP (i:=a) (v:=.int .i64 ids[a]) (by simp[encI,jH h]);have d:fe (Lj ids ((a:Int)+1)=ids[a]):=by
    show _=_;unfold Lj;rw[lv ⟨f,e⟩,show((a:Int)+1-1).toNat=a by omega];simp[h]
   have o:(a:Int)+1-1=a:=by omega
   have p:(a:Int)<fv ids:=by omega
  case' neg=>
   have d:fe (Lj ids n=n):=Fr<|by unfold Lj;rw[km λb=>e b.2]
   have q:decide (n<=(fv ids:Int))=fo:=yv e
  all_goals
   clear b;go_enter func39,ntmps39;go_wp2;go_ret;exact⟨by rw[d.o];rfl,fX⟩
 have d:fe (Lj ids n=n):=Fr<|by unfold Lj;rw[km λb=>f b.1]
 clear b;go_enter func39,ntmps39;go_wp2;go_ret;exact⟨by rw[d.o];rfl,fX⟩
def placeOf (ids:List Int)(id:Int):Option Nat:=if 0<id then ids.findIdx? (λx=>x==id)else fj
theorem Cn(f:gJ F w W s r ia ka pa ic kc pc ids E paths c5 c6 c7 c8 c9 c10 c11)(id:Int)(t:fv ids<=400):
  ik 41 #[ie W,fY id] w (PP (fY<|pz (placeOf ids id)) w):=by
 have u:=f.c2;have y:=f.lt;have o:fe (w.ownsRow 0 29 1 (fy ia (fv ids) ic) (fv ids)<|encI ids):=f.rP;clear f;go_enter func41,ntmps41;go_wp2
 go_loopw [5] (λi wr=>∃k:Nat,k<=fv ids/\i=.int .i64 k/\wr=w/\fe (∀a(b:a<fv ids),a<k->0<id->(ids[a]==id)=fo)) (λi _=>fv ids-(intOf i).toNat)
 case atStart=>exact⟨0,zt _,rfl,rfl,λa b f=>by omega⟩
 case round=>
  obtain⟨k,z,rfl,rfl,h⟩:=hrel;by_cases m:k<fv ids
  ·obtain⟨g,rfl,A,c,_⟩:=row_one o (i:=k) (v:=.int .i64 ids[k]) (by simp[encI,jH m])
   cases n:(ids[k]==id) with
   |true=>
    have j:fe ((ids[k]==id)=fm):=n;by_cases d:0<id
    ·go_wp2
     go_ret;refine⟨?_,fX⟩;have e:placeOf ids id=fh k:=by
      unfold placeOf;rw[lv d];exact yQ.2 ⟨m,j,λa b=>by have:=h a (by omega) b d;simp[this]⟩
     rw[e];rfl
    have B:decide (0<id)=fo:=yv d;go_wp2;go_roundw
    case rel=>exact⟨k+1,by omega,by go_num,by trivial,λa b p l=>absurd l d⟩
    case measure=>simp[intOf];omega
   |false=>
    have j:fe ((ids[k]==id)=fo):=n;go_wp2;go_roundw
    case rel=>
     refine⟨k+1,by omega,by go_num,by trivial,λa b p l=>?_⟩;by_cases e:a=k;subst e;exact j;exact h a b (by omega) l
    case measure=>simp[intOf];omega
  go_wp2;go_ret;refine⟨?_,fX⟩;have e:placeOf ids id=fj:=by
   unfold placeOf;split
   ·next d=>
    refine Wv.2 λx q=>?_;obtain⟨a,b,rfl⟩:=rD q;exact h a b (by omega) d
   rfl
  rw[e];rfl
def Jd(at_:Int)(a:at_<0):ik 42 #[ie W,fY at_] w (PP (fY 0) w):=by
 go_enter func42,ntmps42;go_wp2;go_ret;exact⟨fX,fX⟩
theorem eni(d:gJ F w W s r ia ka pa ic kc pc ids E paths c5 c6 c7 c8 c9 c10 c11)(e:gj G w r J)(b:Nat)(f:b<fv J):
  ik 42 #[ie W,fY (b:Int)] w (PP (.int .i64 J[b].kind) w):=by
 have i:=d.c1;obtain⟨a,h,c⟩:=e;have j:=c.c0;obtain⟨g,rfl,_⟩:=mV c.row fX f;clear d c;go_enter func42,ntmps42;go_wp2;go_ret;exact⟨fX,fX⟩
theorem yn{P:Program}{o:Oper}{a:Act}{g:Exit->Act->fq->Prop}(j:o.guard=fj)(s x:Operand)(t:lV)
  (k:o.op=.call { callee:=.builtin .append,args:=#[s,x],argTypes:=#[t,t] })
  (base)(e:lV)(i:TypeInfo)(z:fu)(size bytes:Nat)(l:P.underlying t=fh (.slice e))(U:P.info? e=fh i)(p:i.zero=fh z)
  (q:i.size=size)(r:i.bytes=bytes)(u:z.cells.size=size)(y:0<size)
  (v:fu)(n)(xs)(A:a.eval s=v)(B:w.ownsRow base e size v n xs)
  (f:Addr)(m c:Nat)(Y:iN)(C:a.eval x=fy (fh f) m c)(D:fv Y=m*size)(E:∀h d,Y[h]?=fh d->w.cell? (f.add h)=fh d)(F:∀d∈Y,d.oneCell'=fm)
  (G:n+m<=maxLen)(I:(n+m)*bytes<=140737488355328)(J:base<=w.heap.size)
  (K:∀b H,H.ownsRow base e size b (n+m) (xs++Y)->w.grownBy H v.ownBlock->(b.ownBlock=v.ownBlock\/b.ownBlock=fh w.heap.size)->wpList P ops g rest (a.put o.dst b) H):wpList P ops g (o::rest) a w:=by
 obtain⟨b,H,L,M,N,_,O⟩:=sec (P:=P) w base t o.type e i z size bytes l U p q r u y v n xs B f m c Y D E F G I J;refine WL j λ_ Q=>?_;unfold Oper.wp;simp[execOp,k,resolve,invoke,builtin,A,C,L,Result.andThen];exact Q _ _<|K b H M N O
theorem jk{w c w2:fq}{W i:Nat}{size n m:Nat}(j:w.heap[W]?=fh (.cells cs T (0,0)))(row:w.ownsRow 0 t size (fy a n h) n xs)(l:T≠t)
  (o:∀e,e<w.heap.size->c.heap[e]?=w.heap[e]?)(u:w.heap.size<=c.heap.size)(f:c.os=w.os/\c.tape=w.tape/\c.output=w.output)(p:w2.ownsRow 0 t size (my g 0 (n+m) R) (n+m) (xs++Y))
  (d:c.grownBy w2 (Value.slice a n h).ownBlock)(v:(Value.slice (fh<|ii g 0) (n+m) R).ownBlock=(Value.slice a n h).ownBlock\/(Value.slice (fh<|ii g 0) (n+m) R).ownBlock=fh b)(x:w.heap.size<=b):
  (w2.setCell (ii W i)<|my g 0 (n+m) R).heap[W]?=fh (.cells (cs.setIfInBounds i<|my g 0 (n+m) R) T (0,0))/\(w2.setCell (ii W i)<|my g 0 (n+m) R).ownsRow 0 t size (my g 0 (n+m) R) (n+m) (xs++Y)/\
    ((fh g:Option Nat)=(Value.slice a n h).ownBlock\/w.heap.size<=g)/\fH (λk=>k=W\/fh k=(Value.slice a n h).ownBlock) w (w2.setCell (ii W i)<|my g 0 (n+m) R):=by
 have y:=(lW.1 j).1;have z:=io row j l;have A:∀k,k<w.heap.size->fh k≠(Value.slice a n h).ownBlock->w2.heap[k]?=w.heap[k]?:=by
  intro k q r;rw[d.block k (by omega) r,o k q]
 have B:g≠W:=by
  all_goals grind [Value.ownBlock]
 have C:=d.size;refine⟨?_,?_,?_,⟨d.os.trans f.1,d.tape.trans f.2.1,d.output.trans f.2.2,by simp;omega,?_⟩⟩
 grind [World.setCell]
 ·obtain⟨s,D⟩:=p
  refine⟨s,?_⟩
  all_goals grind [vh]
 all_goals grind [Value.ownBlock,vh]
theorem IR{b d}{t a}{z e n f}{v c}{xs h}(i:w.ownsRow b t z v n xs)(j:w.ownsRow d a e c f h)(k:t≠a)(l:v.ownBlock=fh g):fh g≠c.ownBlock:=by
 grind [UV,io]
theorem nC{W:Nat}(a:w.ownsRow b t z v n xs)(c:fH (λk=>k=W\/fh k=own) w H)(e:w.heap[W]?=fh (.cells cs T (0,0)))(f:T≠t)(h:∀g,v.ownBlock=fh g->fh g≠own):H.ownsRow b t z v n xs:=by
 refine gg a λg d=>c.block g (gc a d) ?_
 grind [io]
theorem uk{W:Nat}(a:fH (λk=>k=W\/fh k=own) w H)(c:F W)(d:∀g,own=fh g->F g):fH F w H:=
 ⟨a.os,a.tape,a.output,a.size,λk f b=>a.block k f (by rintro(rfl|e);exact b c;exact b<|d k e.symm)⟩
theorem AF(b:H.ownsRow 0 t z (my g 0 n c) n xs)(d:(fh g:Option Nat)=own\/w.heap.size<=g)(f:∀g,own=fh g->F g):∀k,(Value.slice (fh<|ii g 0) n c).ownBlock=fh k->kA F w H k:=by
 intro k a;simp only[Value.ownBlock,pV]at a;subst a;rcases d with e|e
 exact .inl<|f _ e.symm;exact .inr ⟨e,gc b fX⟩
theorem gJ.aaN(a:gJ F w W s r ia ka pa ic kc pc ids E paths c5 c6 c7 c8 c9 c10 c11)
  (p:H.heap[W]?=fh (.cells (Array.setIfInBounds #[ie s,ie r,fy ia (fv ids) ic,fy ka (fv E) kc,fy pa (fv paths) pc,c5,c6,c7,c8,c9,c10,c11] 2<|my g 0 (fv ids+1) R) 71 (0,0))/\H.ownsRow 0 29 1 (my g 0 (fv ids+1) R) (fv ids+1) (encI ids++[fY x])/\
    ((fh g:Option Nat)=(Value.slice ia (fv ids) ic).ownBlock\/w.heap.size<=g)/\fH (λk=>k=W\/fh k=(Value.slice ia (fv ids) ic).ownBlock) w H):
  gJ (kA F w H) H W s r (fh<|ii g 0) ka pa R kc pc (ids++[x]) E paths c5 c6 c7 c8 c9 c10 c11/\fH F w H:=by
 obtain⟨h,d,e,c⟩:=p;have f:fv (ids++[x])=fv ids+1:=by simp
 refine⟨⟨.inl a.fw,?_,?_,nC a.uh c a.hW (by decide) λg b=>IR a.uh a.rP (by decide) b,nC a.uj c a.hW (by decide) λg b=>IR a.uj a.rP (by decide) b,?_,λg b=>.inl<|a.fk g b,λg b=>.inl<|a.fp g b⟩,uk c a.fw a.fi⟩
 grind
 grind [encI]
 rw[f];exact AF d e a.fi
theorem gJ.aaO(a:gJ F w W s r ia ka pa ic kc pc ids E paths c5 c6 c7 c8 c9 c10 c11){x:Bool}
  (p:H.heap[W]?=fh (.cells (Array.setIfInBounds #[ie s,ie r,fy ia (fv ids) ic,fy ka (fv E) kc,fy pa (fv paths) pc,c5,c6,c7,c8,c9,c10,c11] 3<|my g 0 (fv E+1) R) 71 (0,0))/\H.ownsRow 0 4 1 (my g 0 (fv E+1) R) (fv E+1) (Xg E++[fE x])/\
    ((fh g:Option Nat)=(Value.slice ka (fv E) kc).ownBlock\/w.heap.size<=g)/\fH (λk=>k=W\/fh k=(Value.slice ka (fv E) kc).ownBlock) w H):
  gJ (kA F w H) H W s r ia (fh<|ii g 0) pa ic R pc ids (E++[x]) paths c5 c6 c7 c8 c9 c10 c11/\fH F w H:=by
 obtain⟨h,d,e,c⟩:=p;have f:fv (E++[x])=fv E+1:=by simp
 refine⟨⟨.inl a.fw,?_,nC a.rP c a.hW (by decide) λg b=>IR a.rP a.uh (by decide) b,?_,nC a.uj c a.hW (by decide) λg b=>IR a.uj a.uh (by decide) b,λg b=>.inl<|a.fi g b,?_,λg b=>.inl<|a.fp g b⟩,uk c a.fw a.fk⟩
 grind
 grind [Xg]
 rw[f];exact AF d e a.fk
theorem gJ.aaP(a:gJ F w W s r ia ka pa ic kc pc ids E paths c5 c6 c7 c8 c9 c10 c11)
  (p:H.heap[W]?=fh (.cells (Array.setIfInBounds #[ie s,ie r,fy ia (fv ids) ic,fy ka (fv E) kc,fy pa (fv paths) pc,c5,c6,c7,c8,c9,c10,c11] 4<|my g 0 (fv paths+1) R) 71 (0,0))/\H.ownsRow 0 3 1 (my g 0 (fv paths+1) R) (fv paths+1) (encI paths++[fY x])/\
    ((fh g:Option Nat)=(Value.slice pa (fv paths) pc).ownBlock\/w.heap.size<=g)/\fH (λk=>k=W\/fh k=(Value.slice pa (fv paths) pc).ownBlock) w H):
  gJ (kA F w H) H W s r ia ka (fh<|ii g 0) ic kc R ids E (paths++[x]) c5 c6 c7 c8 c9 c10 c11/\fH F w H:=by
 obtain⟨h,d,e,c⟩:=p;have f:fv (paths++[x])=fv paths+1:=by simp
 refine⟨⟨.inl a.fw,?_,nC a.rP c a.hW (by decide) λg b=>IR a.rP a.uj (by decide) b,nC a.uh c a.hW (by decide) λg b=>IR a.uh a.uj (by decide) b,?_,λg b=>.inl<|a.fi g b,λg b=>.inl<|a.fk g b,?_⟩,uk c a.fw a.fp⟩
 grind
 grind [encI]
 rw[f];exact AF d e a.fp
