/- A part of the proof. -/
import Derived.Test.YtlgidcmmgohagaaGreatComM03
import Derived.Maps.RangeWalk
set_option linter.all false
namespace Go.Proofs.YtlgidcmmgohagaaGreat
open Go.RowKit Go.Sort Go.Shelf Go.Proofs.Tryz
open Go.Value renaming slice->fy,string->fA,pointer->fB,tuple->fC,agg->fD,bool->fE
open Go.Ending renaming returned->fF
open Option renaming some->fh,none->fj
open Bool renaming true->fm,false->fo
open Go renaming World->fq,Value->fu
open List renaming length->fv,reverse->fx
open Go.RowKit renaming Hid->fe
set_option maxRecDepth 100000
set_option maxHeartbeats 0
variable {c10 c11 c5 c6 c7 c8 c9 key z:fu}{d n nf h:fP}{w O w2 I:fq}{W b i k n0 r s:Nat}{T e t:lV}{kl:Lit}{p q R qt:fT}{o:Ob}{E:List Bool}{D:DataW fu}{M:Lit->Option fu}{K:fT->List fV}{x:Int}{es:List fV}{a A:List Ob}{ids ps:List Int}{F:Nat->Prop}
variable {F G F':Nat->Prop}{w H:fq}{W s r ic kc pc:Nat}{ia ka pa:ig}{ids paths:List Int}{E:List Bool}{c5 c6 c7 c8 c9 c10 c11:fu}{J A Z:List Ob}{α β:Type}{q:fT}{n:fP}
def Vn:(prog.info? 29).map (λi=>(i.zero,i.size,i.bytes))=fh (fh<|fY 0,1,8):=by kernel_rfl
def Eta:(prog.info? 4).map (λi=>(i.zero,i.size,i.bytes))=fh (fh<|fE fo,1,1):=by kernel_rfl
def Ext:(prog.info? 3).map (λi=>(i.zero,i.size,i.bytes))=fh (fh<|fY 0,1,8):=by kernel_rfl
def Ff (W:Nat)(w:fq):Nat:=match w.cell? ⟨W,2,fj⟩ with|some (fy _ n _)=>n|_=>0
theorem one_cell(w:fq)(d:fu)(t:lV)(n:Nat)(e:n=w.heap.size):∀a c,[d][a]?=fh c->(w.k #[d] t).cell? (((ii n 0):Addr).add a)=fh c:=by
 subst e;intro a c b
 match a,b with
 |0,b=>simpa [Addr.add]using b
 |a+1,b=>simp at b
def bP:Nat->Int
 |0=>0
 |1=>16
 |2=>272
 |_+3=>301
def cP:Nat->Int
 |0=>0
 |1=>1
 |2=>17
 |_+3=>302
def pW (ps:List Int):Prop:=∀i(a:i<fv ps),0<=ps[i]/\ps[i]<=bP i
def pkt(n):0<=bP n/\bP n<=301:=by
 match n with
 |0=>decide
 |1=>decide
 |2=>decide
 |_+3=>exact⟨show(0:Int)<=301 by decide,show(301:Int)<=301 by decide⟩
def Fix{a n:Nat}(b:a<n):1+bP a<=cP n:=by
 match n,b with
 |1,b=>
  obtain rfl:a=0:=by omega
  decide
 |2,b=>
  have:a=0\/a=1:=by omega
  rcases this with rfl|rfl<;>decide
 |_+3,_=>
  have:=(pkt a).2
  show 1+bP a<=302;omega
def eof(n):0<=cP n/\cP n<=302:=by
 match n with
 |0=>decide
 |1=>decide
 |2=>decide
 |_+3=>exact⟨show(0:Int)<=302 by decide,show(302:Int)<=302 by decide⟩
theorem eoi{n:Nat}(a:x<=cP n*16):(300<x->(301:Int)<=bP n)/\(¬300<x->x<=bP n):=by
 match n,a with
 |0,a=>exact⟨λb=>by simp only[cP]at a;omega,λ_=>by simp only[cP,bP]at a |-;omega⟩
 |1,a=>exact⟨λb=>by simp only[cP]at a;omega,λ_=>by simp only[cP,bP]at a |-;omega⟩
 |2,a=>exact⟨λb=>by simp only[cP]at a;omega,λ_=>by simp only[cP,bP]at a |-;omega⟩
 |_+3,a=>exact⟨λ_=>wC _,λb=>by show x<=301;omega⟩
theorem pW.snoc(a:pW ps)(b:0<=x/\x<=bP (fv ps)):pW (ps++[x]):=by
 intro i U;rw[Rt];split;exact a i (by assumption)
 grind
def lC (F:Nat->Prop)(w I:fq)(W s r:Nat)(ids:List Int)(E:List Bool)(n0 k:Nat)(c5 c6 c7 c8 c9 c10 c11:fu):Prop:=
 ∃ia ka pa ic kc pc paths,gJ (kA F w I) I W s r ia ka pa ic kc pc (ids++List.replicate k 0) (E++List.replicate k fo) paths c5 c6 c7 c8 c9 c10 c11/\fv paths=n0+k/\pW paths/\fH F w I
theorem lC.drewN(a:lC F w I W s r ids E n0 k c5 c6 c7 c8 c9 c10 c11)(q):lC F w (I.drewN q) W s r ids E n0 k c5 c6 c7 c8 c9 c10 c11:=by
 have⟨ia,ka,pa,ic,kc,pc,ps,b,c,d,e⟩:=a;exact⟨ia,ka,pa,ic,kc,pc,ps,b.keep (λ_ a=>a) λ_ _=>rfl,c,d,vw e q⟩
theorem Lk:∀a∈[Value.int .i64 x],a.oneCell'=fm:=by intro a b;simp at b;subst b;rfl
theorem epv{x:Bool}:∀a∈[Value.bool x],a.oneCell'=fm:=by intro a b;simp at b;subst b;rfl
theorem oq(w:fq)(q)(o):∀k,k<w.heap.size->((w.drewN q).alloc o).heap[k]?=w.heap[k]?:=λk a=>sG _ _ _ a
theorem PH(w:fq)(o):∀k,k<w.heap.size->(w.alloc o).heap[k]?=w.heap[k]?:=λk a=>sG _ _ _ a
def mW{w a w2:fq}{cs:Array fu}{own:Option Nat}(b:w.heap[W]?=fh (.cells cs T (0,0)))(c:∀k,k<w.heap.size->a.heap[k]?=w.heap[k]?)(g:w.heap.size<=a.heap.size)(d:a.grownBy w2 own)(e:fh W≠own):w2.heap[W]?=fh (.cells cs T (0,0)):=by
 have f:W<w.heap.size:=(lW.1 b).1;rw[d.block W (by omega) e,c W f,b]
theorem Ll{a b c d e a5 f g h a9 j k:fu}(l:w.heap[W]?=fh (.cells #[a,b,c,d,e,a5,f,g,h,a9,j,k] T (0,0))):
  w.c W 0=fh a/\w.c W 1=fh b/\w.c W 2=fh c/\w.c W 3=fh d/\w.c W 4=fh e/\∀i,w.frozen? (ii W i)=fo:=by
 grind [World.cell?,World.frozen?]
def gJ.mono{F F':Nat->Prop}{ia ka pa}{ic kc pc}{paths}(a:gJ F w W s r ia ka pa ic kc pc ids E paths c5 c6 c7 c8 c9 c10 c11)(hF:∀k,F k->F' k):gJ F' w W s r ia ka pa ic kc pc ids E paths c5 c6 c7 c8 c9 c10 c11:=a.keep hF λ_ _=>rfl
theorem nD(b:w.heap.size<=O.heap.size)(c:O.heap.size<=w2.heap.size)(a:kA (kA F w O) O w2 k):kA F w w2 k:=by
 rcases a with(a|a)|a
 exact .inl a;exact .inr ⟨a.1,np a.2 c⟩;exact .inr ⟨wy b a.1,a.2⟩
theorem iW(a:fH F w O)(b:fH (kA F w O) O w2):fH F w w2:=
 ⟨b.os.trans a.os,b.tape.trans a.tape,b.output.trans a.output,wy a.size b.size,λk c d=>(b.block k (np c a.size) (by rintro(e|e);exact d e;omega)).trans<|a.block k c d⟩
theorem lC.three{w I O w2 b}{j l m n o p c d e}{t u v y z A f g h}(B:fH F w I)
  (C:gJ (kA (kA F w I) I O) O W s r j l m t u v ((ids++List.replicate k 0)++[0]) (E++List.replicate k fo) ps c5 c6 c7 c8 c9 c10 c11/\fH (kA F w I) I O)
  (D:gJ (kA (kA (kA F w I) I O) O w2) w2 W s r n o p y z A ((ids++List.replicate k 0)++[0]) ((E++List.replicate k fo)++[fo]) ps c5 c6 c7 c8 c9 c10 c11/\fH (kA (kA F w I) I O) O w2)
  (i:gJ (kA (kA (kA (kA F w I) I O) O w2) w2 b) b W s r c d e f g h ((ids++List.replicate k 0)++[0]) ((E++List.replicate k fo)++[fo]) (ps++[x]) c5 c6 c7 c8 c9 c10 c11/\fH (kA (kA (kA F w I) I O) O w2) w2 b)
  (G:fv ps=n0+k)(H:pW ps)(J:0<=x/\x<=bP (fv ps)):lC F w b W s r ids E n0 (k+1) c5 c6 c7 c8 c9 c10 c11:=by
 have L:=C.2.size;have M:=D.2.size;have N:=i.2.size;have P:=B.size;refine⟨c,d,e,f,g,h,ps++[x],?_,by simp[G];omega,?_,?_⟩
 have:=i.1.mono (F':=kA F w b) (λq K=>by
  rcases K with((( a|a)|a)|a)|a
  exact .inl a;exact .inr ⟨a.1,by omega⟩;exact .inr ⟨by omega,by omega⟩;exact .inr ⟨by omega,by omega⟩;exact .inr ⟨by omega,a.2⟩)
 grind [sL,hy2]
 exact H.snoc J
 grind [iW,fH,kA,nD]
theorem lC.Ff(a:lC F w I W s r ids E n0 k c5 c6 c7 c8 c9 c10 c11):YtlgidcmmgohagaaGreat.Ff W I=fv ids+k:=by
 have⟨ia,ka,pa,ic,kc,pc,ps,b,c,d,e⟩:=a;unfold YtlgidcmmgohagaaGreat.Ff;rw[b.c2];simp
theorem ya{F G:Nat->Prop}{J}(c:gj G w r J)(a:∀k,G k->k<w.heap.size/\¬F k)(d:fH F w I):gj G I r J:=
 c.keep (λ_ e=>e) λk b=>d.block k (a k b).1 (a k b).2
theorem Xh(p:gJ F w W s r ia ka pa ic kc pc ids E paths c5 c6 c7 c8 c9 c10 c11)(z:gj G w r J)(ae:∀k,G k->k<w.heap.size/\¬F k)(af:fv E=fv ids)(ag:fv paths=fv ids)(aL:fv ids<=fv J)
  (ah:∀i(U:i<fv J),∀e∈J[i].gh,0<=e.2.2/\e.2.2<(i:Int))(t:pW paths):
  ik 79 #[ie W] w λe H=>e=pD #[]/\lC F w H W s r ids E (fv ids) (fv J-fv ids) c5 c6 c7 c8 c9 c10 c11:=by
 have aM:fe (gj G w r J):=z;have aN:fe (∀k,G k->k<w.heap.size/\¬F k):=ae;have aO:fe (∀i(U:i<fv J),∀e∈J[i].gh,0<=e.2.2/\e.2.2<(i:Int)):=ah;have aP:fe (fv E=fv ids):=af;have aQ:fe (lC F w w W s r ids E (fv ids) 0 c5 c6 c7 c8 c9 c10 c11):=⟨ia,ka,pa,ic,kc,pc,paths,by rw[hBw,hBw,lJ,lJ];exact p.keep (λk A=>Or.inl A) λ_ _=>rfl,by simpa using ag,t,⟨fX,fX,fX,lw _,λ_ _ _=>rfl⟩⟩;have bB:fv J<=400:=by have⟨_,_,p⟩:=z;exact p.many
 clear p z ae ah t af ag;go_enter func79,ntmps79;go_wp2
 go_loopw [] (λwr=>∃k:Nat,fv ids+k<=fv J/\fe (lC F w wr W s r ids E (fv ids) k c5 c6 c7 c8 c9 c10 c11)) (λwr=>fv J-Ff W wr)
 case atStart=>exact⟨0,aL,aQ.o⟩
 case round=>
  have⟨k,A,ai⟩:=hrel;have⟨ia,ka,pa,ic,kc,pc,ps,b,f,aj,ak⟩:=ai.o;have u:fv (ids++List.replicate k (0:Int))=fv ids+k:=by simp
  have g:fv (E++List.replicate k fo)=fv ids+k:=by simp[aP.o]
  have bC:=b.c1;have B:=b.c2;have C:=b.c4;rw[u]at B;rw[f]at C;have⟨bD,bE,D⟩:=ya aM.o aN.o ak;have bF:=D.c0;obtain⟨n,h⟩:=ol<|fv ids+k;rw[<-h]at B C A;have a:fe (n=fv ids+k):=h;have aR:fe (Ff W wr=n):=by unfold Ff;rw[B];rfl
  by_cases K:n<fv J
  ·have bG:(n:Int)<(fv J:Int):=by omega
   obtain⟨aS,rfl,bH,_,_,L,_⟩:=mV D.row fX K;have j:=D.zz J[n]<|kN K;have M:=aO.o n K;obtain⟨o,al⟩:=ol<|J[n];rw[<-al]at j M L;have⟨bI,od,am,el,an,es,bJ⟩:=o;have N:wr.ownsRow 0 112 3 (fy am el an) el (flat es):=j.row;have bK:wr.c aS (n*4+2)=fh (fy am el an):=L;have bL:el<=16:=j.few;have aT:fe (fv es=el):=j.len;have aU:fe (∀e∈es,0<=e.2.2/\e.2.2<(n:Int)):=M;have P:fe (fv ps=n):=by rw[h];exact f
   clear al j M L h;go_wp2
   go_quiet (fail)
   go_wp2
   go_quiet (fail)
   go_wp2;rename fq=>I
   go_loopw [3,4] (λv i aV=>∃c:Nat,∃x:Int,c<=el/\i=.int .i64 c/\v=.int .i64 x/\0<=x/\x<=cP n*c/\(∃q,aV=I.drewN q)) (λ_ i _=>el-(intOf i).toNat)
   case atStart=>exact⟨0,0,zt _,rfl,rfl,by omega,by omega,⟨_,by rw[Ea]⟩⟩
   case round=>
    obtain⟨c,x,bM,rfl,rfl,bN,ao,⟨q,rfl⟩⟩:=hrel;by_cases aW:c<el
    ·have ap:c<fv es:=by rw[aT.o];exact aW
     have⟨aX,bO,aq⟩:=hZ N (by omega);obtain rfl:=(lK aq).1;have bQ:aX<I.heap.size:=gc N fX;have⟨_,_,ar⟩:=lr (off:=0) (ks N) ap;rw[iO]at ar;have⟨aY,aZ⟩:=aU.o _<|kN ap;obtain⟨d,au⟩:∃d:Nat,es[c].2.2=(d:Int):=⟨es[c].2.2.toNat,by omega⟩;have av:d<n:=by omega
     have bR:(d:Int)<(n:Int):=(by omega);rw[au]at ar;have aw:d<fv ps:=by rw[P.o];exact av
     have⟨bS,ax,bT,bU,_⟩:=row_one b.uj (i:=d) (v:=.int .i64 ps[d]) (by simp[encI,jH aw]);rw[ax]at C;have⟨bV,bW⟩:=aj d aw;have bX:=Fix av;have bY:=(pkt d).2;have bb:=eof n;have bc:(cP n)*((c:Int)+1)=cP n*(c:Int)+cP n:=by rw[Int.mul_add,Int.mul_one]
     have bZ:cP n*(c:Int)<=302*16:=Int.mul_le_mul bb.2 (by omega) (by omega) (by omega);clear aq ax au aY aZ;go_wp2
     go_quiet (fail)
     go_wp2;go_roundw
     case rel=>exact⟨c+1,x+1+ps[d],by omega,by go_num,rfl,by omega,by push_cast;rw[bc];omega,⟨_,fX⟩⟩
     case measure=>simp[intOf];omega
    have Q:fe (I.ownsRow 0 29 1 (fy ia n ic) n<|encI (ids++List.replicate k 0)):=by have:=b.rP;rw[u,<-a.o]at this;exact this
    have bd:=b.c3;rw[g,<-a.o]at bd;have fz:=b.fz;have⟨be,bf,bg,bh,bi⟩:=kC Vn;have⟨bj,bk,bl,bm,bn⟩:=kC Eta;have⟨bo,t,bp,bq,br⟩:=kC Ext;have ca:W<I.heap.size:=b.lt;by_cases ay:300<x
    case' pos=>have az:(0:Int)<=(301:Int)/\(301:Int)<=bP (fv ps):=⟨by omega,by rw[P.o];exact(eoi<|Int.le_trans ao (Int.mul_le_mul_of_nonneg_left (by omega) (eof n).1)).1 ay⟩
    case' neg=>have az:(0:Int)<=(x:Int)/\(x:Int)<=bP (fv ps):=⟨by omega,by rw[P.o];exact(eoi<|Int.le_trans ao (Int.mul_le_mul_of_nonneg_left (by omega) (eof n).1)).2 ay⟩
    all_goals
     go_wp2_with(at_builtin;refine yn fX (.tmp 60) (.tmp 61) 59 fX 0 29 be _ 1 8 underlying59 bf bg bh bi fX (by decide) (fy ia n ic) n (encI<|ids++List.replicate k 0) fX (Q.o.alloc _) (ii I.heap.size 0) 1 1 [fY 0] fX fX (one_cell (I.drewN q) _ _ _ fX) Lk (by unfold maxLen;omega) (by omega) (zt _) ?_);intro cb O R S aA;obtain⟨cc,cd,rfl⟩:=hZ R (by omega);have aB:=mW b.hW (oq I q _) (by simp) S<|io Q.o b.hW (by decide);have aC:=jk (i:=2) b.hW Q.o (by decide) (oq I q _) (by simp) ⟨fX,fX,fX⟩ R S aA (by omega);have y:=b.aaN (x:=0) (by rw[u,<-a.o];exact aC);have⟨f10,f11,f12,f13,f14,bs⟩:=Ll aB;rw[g,<-a.o]at f13;rw[f,<-a.o]at f14;rw[u,<-a.o]at f12;have T:=y.1.uh;rw[g,<-a.o]at T;have ce:I.heap.size<=O.heap.size:=by have:=y.2.size;simpa using this
     have l:fe _:=y;have V:fe _:=T;clear R S aA aC y T aB;go_wp2_with(at_builtin;refine yn fX (.tmp 69) (.tmp 70) 60 fX 0 4 bj _ 1 1 underlying60 bk bl bm bn fX (by decide) (fy ka n kc) n (Xg<|E++List.replicate k fo) fX (rE V.o _) (ii O.heap.size 0) 1 1 [fE fo] fX fX (one_cell _ _ _ _<|by simp) epv (by unfold maxLen;omega) (by omega) (zt _) ?_);intro cf w2 X Y aD;obtain⟨cg,ch,rfl⟩:=hZ X (by omega);have aE:=mW l.o.1.hW (PH _ _) (by simp) Y<|io V.o l.o.1.hW (by decide);have aF:=jk (i:=3) l.o.1.hW V.o (by decide) (PH _ _) (by simp) ⟨fX,fX,fX⟩ X Y aD (by simp);have Z:=l.o.1.aaO (x:=fo) (by rw[g,<-a.o];exact aF);have⟨f20,f21,f22,f23,f24,bt⟩:=Ll aE;rw[g,<-a.o]at f23;rw[f,<-a.o]at f24;have aa:=Z.1.uj;rw[f,<-a.o]at aa;have m:fe _:=Z;have ab:fe _:=aa;clear X Y aD aF Z aa aE f10 f11 f12 f13 f14 bs;go_wp2_with(at_builtin;refine yn fX (.tmp 78) (.tmp 80) 61 fX 0 3 bo _ 1 8 underlying61 t bp bq br fX (by decide) (fy pa n pc) n (encI ps) fX (rE ab.o _) (ii w2.heap.size 0) 1 1 [fY _] fX fX (one_cell _ _ _ _<|by simp) Lk (by unfold maxLen;omega) (by omega) (zt _) ?_);intro ci bu ac ad aG;obtain⟨bv,bw,rfl⟩:=hZ ac (by omega);have aH:=mW m.o.1.hW (PH _ _) (by simp) ad<|io ab.o m.o.1.hW (by decide);have aI:=jk (i:=4) m.o.1.hW ab.o (by decide) (PH _ _) (by simp) ⟨fX,fX,fX⟩ ac ad aG (by simp);have aJ:=m.o.1.aaP (x:=_) (by rw[f,<-a.o];exact aI);have⟨f30,f31,f32,f33,f34,cj⟩:=Ll aH;rw[f,<-a.o]at f34;have bx:fe _:=aJ;clear ac ad aG aI aJ aH f20 f21 f22 f23 f24 bt;go_wp2;have aK:lC F w (bu.setCell (ii W 4)<|my bv 0 (n+1) bw) W s r ids E (fv ids) (k+1) c5 c6 c7 c8 c9 c10 c11:=lC.three ak l.o m.o bx.o f aj az;go_roundw
     case rel=>exact⟨k+1,by have:=a.o;omega,aK⟩
     case measure=>
      have e:=aK.Ff;rw[e,aR.o]
      have:=a.o
      omega
  have bz:fe (k=fv J-fv ids):=by have:=a.o;show _=_;omega
  have bA:¬(n:Int)<(fv J:Int):=by omega
  have nZ:decide ((n:Int)<(fv J:Int))=fo:=yv bA;clear h;go_wp2
  go_quiet (fail)
  go_wp2;go_end0;refine⟨fX,?_⟩;rw[<-bz.o];exact lC.drewN ai.o nq
def kg (a:fu):Option (DataW fu×List MemPlace):=fh (.held a,[])
def kE (w:fq)(k:lV)(b n:Nat)(M:Lit->Option fu):Prop:=
 ∃D:DataW fu,w.ownsMap prog k kg b n D/\∀kl,WideAt.IsKeyLit kl->∀z,D.atKey kl z=((M kl).map DataW.held).getD z
theorem kE.lt{k}{b n}(a:kE w k b n M):b<w.heap.size:=by
 have⟨D,c,_⟩:=a;exact c.lt
theorem kE.keep{w H:fq}{k}{b n}(a:kE w k b n M)(e:H.heap[b]?=w.heap[b]?):kE H k b n M:=by
 have⟨D,c,d⟩:=a;exact⟨D,pB c e,d⟩
theorem kE.isMap{k}{b n}(a:kE w k b n M):∃es c,w.heap[b]?=fh (.map es c):=by
 have⟨D,d,_⟩:=a;exact pp d
theorem AG{k}(a:w.heap[b]?=fh (.map #[] 0)):kE w k b 0 (λ_=>fj):=
 ⟨.map [],⟨#[],0,a,⟨by simp,cat 0,by simp⟩,lw _,fX⟩,λkl _ z=>rfl⟩
theorem Fg(a:∀z,D.atKey kl z=((M kl).map DataW.held).getD z):Maps.has D kl=(M kl).isSome:=by
 rcases b:M kl with _|c
 rw[b]at a;exact Maps.has_false_of_atKey a;rw[b]at a;exact Maps.has_true_of_atKey a
theorem kE.look_ok{k}{b n}(h:kE w k b n M)(K:Maps.Keyed prog k)(i:prog.underlying t=fh (.map k e))(j:(zeroValue e).run prog w=.ok z w)
  (c:keyOf prog k key=fh kl):(Instr.lookup t (.map<|fh b) key fm).run prog w=.ok (fC #[(M kl).getD z,fE (M kl).isSome]) w:=by
 have⟨D,l,d⟩:=h;have f:=K.key c;have⟨o,ps,m,a⟩:=l.look_ok K i j (zd:=.held z) (zp:=[]) fX c;rw[d kl f,]at a;rw[m,Fg<|d kl f];rcases g:M kl with _|p
 rw[g]at a;simp only[kg,hQa,WE,pV,vo,hOr]at a;rw[a.1];rfl;rw[g]at a;simp only[kg,oV,sA,pV,vo,hOr]at a;rw[a.1];rfl
theorem kE.look{k}{b n}(f:kE w k b n M)(K:Maps.Keyed prog k)(g:prog.underlying t=fh (.map k e))(h:(zeroValue e).run prog w=.ok z w)
  (c:keyOf prog k key=fh kl):(Instr.lookup t (.map<|fh b) key fo).run prog w=.ok ((M kl).getD z) w:=by
 have⟨D,i,j⟩:=f;have⟨m,ps,l,a⟩:=i.lookup K g h (zd:=.held z) (zp:=[]) fX c;rw[j kl<|K.key c]at a;rw[l];rcases d:M kl with _|o
 rw[d]at a;simp only[kg,hQa,WE,pV,vo,hOr]at a;rw[a.1];rfl;rw[d]at a;simp only[kg,oV,sA,pV,vo,hOr]at a;rw[a.1];rfl
noncomputable def Fh (M:Lit->Option Value)(kl:Lit)(v:Option Value):Lit->Option Value:=fun x=>by
 classical exact if x=kl then v else M x
theorem nG(M)(kl:Lit)(a:Option fu):Fh M kl a kl=a:=by simp[Fh]
theorem jS{kl x:Lit}(a:x≠kl)(b:Option fu):Fh M kl b x=M x:=by simp[Fh,a]
theorem eqc(b:Maps.IsMap D)(c:∀kl,WideAt.IsKeyLit kl->∀z,D.atKey kl z=((M kl).map DataW.held).getD z)(d:WideAt.IsKeyLit kl)(a):
  ∀x,WideAt.IsKeyLit x->∀z,(D.put kl<|.held a).atKey x z=((Fh M kl (fh a) x).map DataW.held).getD z:=by
 intro x f z;by_cases e:x=kl
 all_goals grind [clz,nG,cin,jS]
theorem Nz(a:∀kl,WideAt.IsKeyLit kl->∀z,D.atKey kl z=((M kl).map DataW.held).getD z)(kl:Lit):
  ∀x,WideAt.IsKeyLit x->∀z,(D.del kl).atKey x z=((Fh M kl fj x).map DataW.held).getD z:=by
 intro x b z;by_cases e:x=kl
 all_goals grind [Maps.atKey_del_same,nG,Maps.atKey_del_other,jS]
theorem kE.store{k}{b n}(g:kE w k b n M)(K:Maps.Keyed prog k)(h:prog.underlying t=fh (.map k e))(i:n<maxLen)
  {key val}(a:keyOf prog k key=fh kl):
  ∃H,(Instr.mapUpdate t (.map<|fh b) key val).run prog w=.ok () H/\kE H k b (n+1) (Fh M kl<|fh val)/\w.grownBy H (fh b)/\H.heap.size=w.heap.size:=by
 have⟨D,c,j⟩:=g;have⟨H,l,m,f⟩:=c.store K h i a (val:=val) (d:=.held val) (ps:=[]) fX;refine⟨H,l,⟨_,m,eqc c.isMap j (K.key a) val⟩,f.grown,?_⟩;obtain⟨es,o,p,q,r,rfl⟩:=f;simp[ChangeMaps.setBlock]
theorem kE.drop{k}{b n}(d:kE w k b n M)(K:Maps.Keyed prog k)(f:prog.underlying t=fh (.map k e))
  (g:keyOf prog k key=fh kl)(a:lV):
  ∃H,(Builtin.delete_ #[t,k] a #[.map<|fh b,key]).run prog w=.ok (fC #[]) H/\kE H k b n (Fh M kl fj)/\w.grownBy H (fh b)/\H.heap.size=w.heap.size:=by
 have⟨D,h,i⟩:=d;have⟨H,j,l,c⟩:=h.drop K f g a;refine⟨H,j,⟨_,l,Nz i kl⟩,c.grown,?_⟩;obtain⟨es,m,o,p,q,rfl⟩:=c;simp[ChangeMaps.setBlock]
inductive LT where
 |file (id:Int)
 |held (f:Nat)
 |dir (id:Int)
 |own (es:List (fP×LT))
abbrev Kids:=List<|fP×LT
def LT.kind:LT->Int
 |.file _=>1
 |.held _=>1
 |.dir _=>2
 |.own _=>2
def LT.id:LT->Int
 |.file i=>i
 |.held _=>0
 |.dir i=>i
 |.own _=>0
def lL (x:fP×LT):fV:=(x.1,x.2.kind,x.2.id)
def ltOf (e:fV):LT:=if e.2.1=2 then .dir e.2.2 else .file e.2.2
def wl (e:fV):fP×LT:=(e.1,ltOf e)
def fQ (A:List Ob)(id:Int):List fV:=((A[(id-1).toNat]?).map (λo:Ob=>o.gh)).getD []
def bytesOf (A:List Ob)(id:Int):fP:=((A[(id-1).toNat]?).map (λo:Ob=>o.data)).getD ⟨#[]⟩
def kids (A:List Ob):LT->Option Kids
 |.own es=>fh es
 |.dir id=>fh<|(fQ A id).map wl
 |_=>fj
def jp (es:Kids)(n:fP):Option LT:=(es.find? λx=>decide (x.1=n)).map (·.2)
def LT.at (A:List Ob):LT->fT->Option LT
 |t,[]=>fh t
 |t,n::r=>(kids A t).bind λes=>(jp es n).bind λc=>c.at A r
theorem lh(A)(t:LT)(n:fP)(r:fT):t.at A (n::r)=(kids A t).bind λes=>(jp es n).bind λc=>c.at A r:=by rw[LT.at]
theorem oX(A)(t:LT):t.at A []=fh t:=by rw[LT.at]
theorem lx(A):∀(p q:fT)(t:LT),t.at A (p++q)=(t.at A p).bind λc=>c.at A q
 |[],q,t=>by rw[Hx,oX];rfl
 |n::r,q,t=>by
  rw[Eb,lh,lh]
  rcases kids A t with _|es
  rfl
  simp only[wd]
  cases jp es n with
  |none=>rfl
  |some c=>simp only[wd];exact lx A r q c
def vy (A:List Ob)(f:Kids->Kids):fT->LT->LT
 |[],t=>.own<|f ((kids A t).getD [])
 |n::r,t=>.own (((kids A t).getD []).map λx=>if x.1=n then(x.1,vy A f r x.2)else x)
theorem Je(A)(a:Kids->Kids)(t:LT):kids A (vy A a [] t)=fh (a<|(kids A t).getD []):=by rw[vy];rfl
def qU(A)(a:Kids->Kids)(n:fP)(r:fT)(t:LT):kids A (vy A a (n::r) t)=fh (((kids A t).getD []).map λx=>if x.1=n then(x.1,vy A a r x.2)else x):=by rw[vy];rfl
theorem qg(n:fP)(a:LT->LT)(m):∀es:Kids,jp (es.map λx=>if x.1=n then(x.1,a x.2)else x) m=if m=n then(jp es m).map a else jp es m
 |[]=>by split<;>rfl
 |x::r=>by
  have b:=qg n a m r
  grind [jp,scc,scp]
inductive Nd where
 |dir
 |file (d:fP)
 deriving DecidableEq
abbrev jJ:=Nat->fP
def nd (A:List Ob)(fc:jJ):LT->Nd
 |.file i=>.file (bytesOf A i)
 |.held a=>.file<|fc a
 |.dir _=>.dir
 |.own _=>.dir
def xc (A:List Ob)(fc:jJ)(t:LT)(p:fT):Option Nd:=(t.at A p).map<|nd A fc
theorem px(A)(fc)(t):xc A fc t []=fh (nd A fc t):=by unfold xc;rw[oX];rfl
theorem ui(A)(fc)(t)(n:fP)(r:fT):xc A fc t (n::r)=(kids A t).bind λes=>(jp es n).bind λc=>xc A fc c r:=by
 unfold xc;rw[lh];rcases kids A t with _|es
 rfl;simp only[wd];cases jp es n<;>rfl
theorem Lm(A)(fc)(e:Kids->Kids):∀(p:fT)(t d:LT)(Y:Kids),t.at A p=fh d->kids A d=fh Y->
  (∀n r,xc A fc (vy A e p t) (p++n::r)=(jp (e Y) n).bind λc=>xc A fc c r)/\
  (∀q,(¬ ∃n r,q=p++n::r)->xc A fc (vy A e p t) q=xc A fc t q)
 |[],t,d,Y,a,f=>by
  rw[oX]at a
  cases a
  refine⟨λn r=>?_,λq h=>?_⟩
  grind [ui,Je]
  rcases q with _|⟨n,r⟩
  rw[px,px,vy]
  cases t<;>first|rfl|(simp[kids]at f)
  exact absurd ⟨n,r,fX⟩ h
 |m::p,t,d,Y,a,f=>by
  rw[lh]at a
  cases b:kids A t with
  |none=>rw[b]at a;simp at a
  |some es=>
   rw[b]at a
   simp only[wd]at a
   cases g:jp es m with
   |none=>rw[g]at a;simp at a
   |some c=>
    rw[g]at a
    simp only[wd]at a
    have⟨i,j⟩:=Lm A fc e p c d Y a f
    refine⟨λn r=>?_,λq h=>?_⟩
    rw[Eb,ui,qU,b,sA,wd,qg,lv fX,g,oV,wd]
    exact i n r
    rcases q with _|⟨n,r⟩
    rw[px,px,vy]
    cases t<;>first|rfl|(simp[kids]at b)
    rw[ui,ui,qU,b,sA,wd,wd,qg]
    grind
structure b6 where
 got:List Int
 brk:Bool
 kF:Int->Bool
 kD:Int->Bool
def b6.ij (s:b6)(id:Int):b6×Bool:=
 if s.kD id then(s,fm)else if s.brk then({ s with brk:=fo },fo) else({ s with got:=s.got++[id],kD:=λx=>decide (x=id) ||s.kD x },fm)
def b6.gP (s:b6)(id:Int):b6×Bool:=
 if s.kF id then(s,fm)else if s.brk then({ s with brk:=fo },fo) else({ s with got:=s.got++[id],kF:=λx=>decide (x=id) ||s.kF x },fm)
def b6.kn (s:b6)(x:Int):Nat:=(s.kF x).toNat+(s.kD x).toNat
def b6.Next (s a:b6):Prop:=a.brk=s.brk/\(s.brk=fm->a=s)/\(∃l,a.got=s.got++l/\∀x,l.count x+s.kn x=a.kn x)/\(∀x,s.kF x=fm->a.kF x=fm)/\(∀x,s.kD x=fm->a.kD x=fm)
def b6.Co (s a:b6):Prop:=s.brk=fm/\a={ s with brk:=fo }
theorem b6.Next.refl(s:b6):s.Next s:=⟨fX,λ_=>rfl,⟨[],by simp,λx=>by simp⟩,λ_ a=>a,λ_ a=>a⟩
theorem b6.Next.trans{s b c:b6}(d:s.Next b)(k:b.Next c):s.Next c:=by
 obtain⟨e,r,⟨l,f,g⟩,h,i⟩:=d;obtain⟨j,t,⟨m,n,o⟩,p,q⟩:=k;refine⟨j.trans e,λu=>?_,⟨l++m,by rw[n,f,sL],λx=>by rw[List.count_append];have:=g x;have:=o x;omega⟩,λx a=>p x<|h x a,λx a=>q x<|i x a⟩
 all_goals grind
theorem b6.Next.fail{s a b:b6}(c:s.Next a)(k:a.Co b):s.Co b:=by
 obtain⟨e,f⟩:=k;have d:=c.1.symm.trans e;have g:=c.2.1 d;subst g;exact⟨d,f⟩
theorem eqv{a:Int->Bool}{id:Int}(b:¬a id=fm){n:Nat}(x:Int):[id].count x+(n+(a x).toNat)=n+(decide (x=id) ||a x).toNat:=by
 all_goals grind
theorem b6.zB(s:b6)(id:Int):((s.ij id).2=fm/\s.Next (s.ij id).1/\(s.ij id).1.kD id=fm)\/((s.ij id).2=fo/\s.Co (s.ij id).1):=by
 unfold b6.ij;by_cases a:s.kD id=fm
 ·all_goals grind [b6.Next.refl]
 rw[km a];by_cases b:s.brk=fm;rw[lv b];exact .inr ⟨fX,b,fX⟩;rw[km b];exact .inl ⟨fX,⟨fX,λa=>absurd a b,⟨[id],fX,λx=>eqv a x⟩,λ_ a=>a,λx c=>by simp[c]⟩,by simp⟩
theorem b6.De(s:b6)(id:Int):((s.gP id).2=fm/\s.Next (s.gP id).1/\(s.gP id).1.kF id=fm)\/((s.gP id).2=fo/\s.Co (s.gP id).1):=by
 unfold b6.gP;by_cases a:s.kF id=fm
 ·all_goals grind [b6.Next.refl]
 rw[km a];by_cases b:s.brk=fm;rw[lv b];exact .inr ⟨fX,b,fX⟩;rw[km b];exact .inl ⟨fX,⟨fX,λa=>absurd a b,⟨[id],fX,λx=>by have:=eqv a (n:=0) x;unfold b6.kn;simp only;omega⟩,λx c=>by simp[c],λ_ a=>a⟩,by simp⟩
def ul (A:List Ob)(s:b6):LT->b6×Int×Kids
 |.own es=>(s,0,es)
 |.dir id=>if(s.ij id).2 then((s.ij id).1,0,(fQ A id).map wl) else((s.ij id).1,14,[])
 |_=>(s,5,[])
def jB (A:List Ob):LT->Int×Kids
 |.own es=>(0,es)
 |.dir id=>(0,(fQ A id).map wl)
 |_=>(5,[])
def ky (A:List Ob)(t:LT)(s:b6):fT->b6×Int×LT
 |[]=>(s,0,t)
 |n::r=>
  let a:=ky A t s r
  if a.2.1≠0 then(a.1,a.2.1,.dir 0) else
  let b:=ul A a.1 a.2.2
  if b.2.1≠0 then(b.1,b.2.1,.dir 0) else
  match jp b.2.2 n with
  |none=>(b.1,4,.dir 0)
  |some c=>(b.1,0,c)
def pd (A:List Ob)(t:LT):fT->Int×LT
 |[]=>(0,t)
 |n::r=>
  let a:=pd A t r
  if a.1≠0 then(a.1,.dir 0) else
  let b:=jB A a.2
  if b.1≠0 then(b.1,.dir 0) else
  match jp b.2 n with
  |none=>(4,.dir 0)
  |some c=>(0,c)
def pw (A:List Ob)(t:LT)(s:b6)(r:fT):b6×Int×Kids:=
 let a:=ky A t s r
 if a.2.1≠0 then(a.1,a.2.1,[])else ul A a.1 a.2.2
def jl (A:List Ob)(t:LT)(r:fT):Int×Kids:=
 let a:=pd A t r
 if a.1≠0 then(a.1,[])else jB A a.2
theorem wS(A)(t):(jB A t).1≠14:=by cases t<;>simp[jB]
theorem wT(A)(s:b6)(t):(s.Next (ul A s t).1/\(ul A s t).2=jB A t)\/(s.Co (ul A s t).1/\(ul A s t).2=(14,[])):=by
 cases t with
 |file i=>exact .inl ⟨b6.Next.refl s,fX⟩
 |held d=>exact .inl ⟨b6.Next.refl s,fX⟩
 |own es=>exact .inl ⟨b6.Next.refl s,fX⟩
 |dir id=>
  have a:ul A s (.dir id)=if(s.ij id).2 then((s.ij id).1,0,(fQ A id).map wl) else((s.ij id).1,14,[]):=fX;have b:jB A (.dir id)=(0,(fQ A id).map wl):=fX;rw[a,b];rcases s.zB id with⟨c,e,_⟩|⟨c,f⟩
  all_goals grind
theorem wU(A)(t)(s:b6):∀r,(s.Next (ky A t s r).1/\(ky A t s r).2=pd A t r/\(pd A t r).1≠14)\/(s.Co (ky A t s r).1/\(ky A t s r).2=(14,.dir 0))
 |[]=>.inl ⟨b6.Next.refl s,fX,by simp[pd]⟩
 |n::r=>by
  rcases wU A t s r with⟨a,e,l⟩|⟨m,e⟩
  ·have g:(ky A t s r).2.1=(pd A t r).1:=by rw[e]
   have h:(ky A t s r).2.2=(pd A t r).2:=by rw[e]
   unfold ky pd
   by_cases i:(pd A t r).1≠0
   ·all_goals grind
   simp only[g,h,km i]
   rcases wT A (ky A t s r).1 (pd A t r).2 with⟨kn,b⟩|⟨j,b⟩
   have f:(ul A (ky A t s r).1 (pd A t r).2).2.1=(jB A (pd A t r).2).1:=by rw[b]
   have k:(ul A (ky A t s r).1 (pd A t r).2).2.2=(jB A (pd A t r).2).2:=by rw[b]
   rw[f,k]
   by_cases d:(jB A (pd A t r).2).1≠0
   rw[lv d,lv d]
   exact .inl ⟨a.trans kn,fX,(wS A (pd A t r).2)⟩
   rw[km d,km d]
   rcases o:jp (jB A (pd A t r).2).2 n with _|c
   exact .inl ⟨a.trans kn,fX,by simp⟩
   exact .inl ⟨a.trans kn,fX,by simp⟩
   have f:(ul A (ky A t s r).1 (pd A t r).2).2.1=14:=by rw[b]
   rw[f,lv<|by decide]
   exact .inr ⟨a.fail j,fX⟩
  all_goals grind [ky,decide]
theorem NA(A)(t)(s:b6)(r):(s.Next (pw A t s r).1/\(pw A t s r).2=jl A t r/\(jl A t r).1≠14)\/(s.Co (pw A t s r).1/\(pw A t s r).2=(14,[])):=by
 rcases wU A t s r with⟨c,a,h⟩|⟨i,a⟩
 ·have d:(ky A t s r).2.1=(pd A t r).1:=by rw[a]
  have e:(ky A t s r).2.2=(pd A t r).2:=by rw[a]
  unfold pw jl;by_cases f:(pd A t r).1≠0
  ·all_goals grind
  simp only[d,e,km f];rcases wT A (ky A t s r).1 (pd A t r).2 with⟨kn,b⟩|⟨g,b⟩
  exact .inl ⟨c.trans kn,b,wS _ _⟩;exact .inr ⟨c.fail g,b⟩
 all_goals grind [ky,pw,decide]
theorem Fi(A)(t):∀r,((pd A t r).1=0->t.at A (fx r)=fh (pd A t r).2)/\((pd A t r).1≠0->t.at A (fx r)=fj)
 |[]=>⟨λ_=>by rw[List.reverse_nil,oX];rfl,λb=>absurd fX b⟩
 |n::r=>by
  obtain⟨d,e⟩:=Fi A t r
  have f:t.at A (fx (n::r))=(t.at A<|fx r).bind λc=>c.at A [n]:=by rw[kz,lx]
  have g:∀c:LT,c.at A [n]=(kids A c).bind λes=>jp es n:=by
   intro c;rw[lh];rcases kids A c with _|es
   rfl;simp only[wd];cases jp es n with
   |none=>rfl
   |some x=>simp only[wd];rw[oX]
  rw[f];unfold pd;by_cases a:(pd A t r).1≠0;simp only[lv a];rw[e a];exact⟨λb=>absurd b a,λ_=>rfl⟩;simp only[km a];rw[d<|oL.1 a,wd,g];cases j:(pd A t r).2 with
  |file i=>simp[jB,kids]
  |held k=>simp[jB,kids]
  |own es=>
   simp only[jB,kids,wd];cases h:jp es n<;>simp
  |dir id=>
   simp only[jB,kids,wd];cases h:jp ((fQ A id).map wl) n<;>simp
def jb (a b:fP):Int:=Lib.compareBytes a.data.toList b.data.toList
theorem jc(a):jb a a=0:=rJ _
theorem Cp{a b}(c:jb a b=0):a=b:=bytes_inj<|nA _ _ c
theorem Jf(a b):jb b a=- jb a b:=rK _ _
theorem pE{a b c:fP}(d:jb a b<0)(k:jb b c<0):jb a c<0:=lX _ _ _ d k
def fO (es:List (fP×α)):Prop:=es.Pairwise λx y=>jb x.1 y.1<0
def ub (es:List (fP×α))(n:fP):Nat:=es.countP λx=>decide (jb x.1 n<0)
def kB (es:List (fP×α))(n:fP):Bool:=((es[ub es n]?).map λx=>decide (x.1=n)).getD fo
def qG (es:List (fP×α))(n:fP):Option α:=(es.find? λx=>decide (x.1=n)).map (·.2)
theorem Vo(es:List (fP×α))(n:fP):ub es n<=fv es:=List.countP_le_length
theorem qH{x:fP×α}{r:List (fP×α)}(a:jb x.1 n<0):ub (x::r) n=ub r n+1:=by unfold ub;rw[List.countP_cons_of_pos (by simpa using a)]
theorem qI{x:fP×α}{r:List (fP×α)}(c:fO (x::r))(b:¬jb x.1 n<0):ub (x::r) n=0:=by
 unfold ub;rw[List.countP_eq_zero];intro y a;rcases mB.1 a with rfl|a
 simpa using b;have d:=(sB.1 c).1 y a;simp only[Hw];exact λe=>b<|pE d e
def fO.tail{x:fP×α}{r:List (fP×α)}(a:fO (x::r)):fO r:=(sB.1 a).2
theorem pX{x:fP×α}{r:List (fP×α)}(a:x.1=n):qG (x::r) n=fh x.2:=by unfold qG;rw[scc (by simpa using a)];rfl
theorem iX{x:fP×α}{r:List (fP×α)}(a:x.1≠n):qG (x::r) n=qG r n:=by unfold qG;rw[scp (by simpa using a)]
theorem AH{es:List (fP×α)}(a:∀x∈es,x.1≠n):qG es n=fj:=by
 grind [qG,hEq]
theorem nj:∀{es:List (fP×α)}{n:fP},fO es->qG es n=if kB es n then(es[ub es n]?).map (·.2)else fj
 |[],n,_=>by simp[qG,kB,ub]
 |x::r,n,a=>by
  by_cases b:jb x.1 n<0
  have f:x.1≠n:=λe=>by rw[e,jc]at b;omega
  have g:=nj (n:=n) a.tail
  grind [iX,kB,qH]
  unfold kB
  rw[qI a b]
  simp only[rrs,oV,sA]
  by_cases c:x.1=n
  grind [pX]
  rw[iX c,AH]
  simp[c]
  intro y d e
  have h:=(sB.1 a).1 y d
  grind
def zr (es:List (fP×α))(n:fP)(c:α):List (fP×α):=if kB es n then es.set (ub es n) (n,c)else es.take (ub es n)++(n,c)::es.drop (ub es n)
def ra (es:List (fP×α))(n:fP):List (fP×α):=es.eraseIdx<|ub es n
theorem wV{x:fP×α}{r:List (fP×α)}(a:jb x.1 n<0):kB (x::r) n=kB r n:=by unfold kB;rw[qH a];rfl
theorem AJ{x:fP×α}{r:List (fP×α)}{c:α}(a:jb x.1 n<0):zr (x::r) n c=x::zr r n c:=by
 grind [zr,wV,qH]
def Ia{x:fP×α}{r:List (fP×α)}(a:jb x.1 n<0):ra (x::r) n=x::ra r n:=by unfold ra;rw[qH a];rfl
theorem wW{x:fP×α}{r:List (fP×α)}(a:fO (x::r))(b:¬jb x.1 n<0):kB (x::r) n=decide (x.1=n):=by unfold kB;rw[qI a b];rfl
theorem AK{x:fP×α}{r:List (fP×α)}{c:α}(a:fO (x::r))(b:¬jb x.1 n<0):zr (x::r) n c=if x.1=n then(n,c)::r else(n,c)::x::r:=by
 grind [zr,wW,qI]
def Ib{x:fP×α}{r:List (fP×α)}(a:fO (x::r))(b:¬jb x.1 n<0):ra (x::r) n=r:=by unfold ra;rw[qI a b];rfl
theorem NB:∀{es:List (fP×α)}{n:fP}{c:α},fO es->∀m,qG (zr es n c) m=if m=n then fh c else qG es m
 |[],n,c,_,m=>by
  grind [zr,kB,ub,qG]
 |x::r,n,c,d,m=>by
  by_cases a:jb x.1 n<0
  have f:x.1≠n:=λe=>by rw[e,jc]at a;omega
  rw[AJ a]
  by_cases b:x.1=m
  grind [pX]
  rw[iX b,iX b]
  exact NB d.tail m
  grind [AK,pX,iX]
theorem Jg:∀{es:List (fP×α)}{n:fP},fO es->kB es n=fm->∀m,qG (ra es n) m=if m=n then fj else qG es m
 |[],n,_,a,m=>by simp[kB,ub]at a
 |x::r,n,c,a,m=>by
  by_cases b:jb x.1 n<0
  have g:x.1≠n:=λe=>by rw[e,jc]at b;omega
  rw[wV b]at a
  rw[Ia b]
  by_cases d:x.1=m
  grind [pX]
  rw[iX d,iX d]
  exact Jg c.tail a m
  rw[wW c b]at a
  rw[Ib c b]
  by_cases d:m=n
  rw[lv d]
  refine AH λy f e=>?_
  have h:=(sB.1 c).1 y f
  grind
  grind [iX]
theorem era:∀{es:List (fP×α)}{n:fP}{c:α}{y:fP×α},fO es->y∈zr es n c->y=(n,c)\/y∈es:=by
 grind [zr,List.mem_or_eq_of_mem_set,Av,Wy]
theorem wX:∀{es:List (fP×α)}{n:fP}{c:α},fO es->fO (zr es n c)
 |[],n,c,_=>by simp[zr,kB,ub,fO]
 |x::r,n,c,b=>by
  by_cases d:jb x.1 n<0
  rw[AJ d]
  refine sB.2 ⟨λy a=>?_,wX b.tail⟩
  rcases era b.tail a with rfl|a
  exact d
  exact(sB.1 b).1 y a
  rw[AK b d]
  by_cases e:x.1=n
  rw[lv e]
  exact sB.2 ⟨λy a=>by have:=(sB.1 b).1 y a;rw[e]at this;exact this,b.tail⟩
  rw[km e]
  have kQ:jb n x.1<0:=by
   grind [Jf,jb,Cp]
  refine sB.2 ⟨λy a=>?_,b⟩;rcases mB.1 a with rfl|a
  exact kQ;exact pE kQ<|(sB.1 b).1 y a
theorem sV(es:List (fP×α))(n)(c:α):fv (zr es n c)=if kB es n then fv es else fv es+1:=by
 grind [zr,Vo]
theorem um{es:List (fP×α)}(a:kB es n=fm):ub es n<fv es:=by
 grind [kB,ub,wm]
theorem AL{es:List (fP×α)}(a:kB es n=fm):fv (ra es n)=fv es-1:=by
 grind [ra,List.length_eraseIdx_of_lt,um]
def Cq (a:fP×α->β)(es:List (fP×α)):List (fP×β):=es.map λx=>(x.1,a x)
theorem Fj(a:fP×α->β)(es:List (fP×α))(n):ub (Cq a es) n=ub es n:=by
 unfold ub Cq;rw[List.countP_map];rfl
theorem Fk(a:fP×α->β)(es:List (fP×α))(n):kB (Cq a es) n=kB es n:=by
 grind [kB,Fj,Cq,ub]
theorem nH(a:fP×α->β){es:List (fP×α)}(b:fO es):fO (Cq a es):=by
 grind [fO,Cq]
theorem Xi(a:fP×α->β)(es:List (fP×α))(n):Cq a (ra es n)=ra (Cq a es) n:=by
 grind [ra,Fj,Cq,List.eraseIdx_eq_take_drop_succ,List.map_take,List.map_drop]
theorem RT(es)(n):jp es n=qG es n:=fX
def zE:fV:=(⟨#[]⟩,0,0)
structure FT where
 root:Int
 od:fT->Option (List fV)
 of:fT->Option Nat
def upd {β:Type}(f:fT->β)(p:fT)(a:β):fT->β:=λq=>if q=p then a else f q
theorem upd_same{β:Type}(b:fT->β)(p)(a:β):upd b p a p=a:=by unfold upd;rw[lv fX]
theorem kh{β:Type}{f:fT->β}(a:q≠p)(b:β):upd f p b q=f q:=by unfold upd;rw[km a]
def mz (A:List Ob)(ft:FT)(fs:b6)(p:fT)(e:fV):b6×Int×List fV:=
 if e.2.1≠2 then(fs,5,[]) else
 if e.2.2=0 then(fs,0,(ft.od p).getD []) else
 if(fs.ij e.2.2).2 then((fs.ij e.2.2).1,0,fQ A e.2.2) else((fs.ij e.2.2).1,14,[])
def findF (A:List Ob)(ft:FT)(fs:b6):fT->b6×Int×fV
 |[]=>(fs,0,(⟨#[]⟩,2,ft.root))
 |n::r=>
  let a:=findF A ft fs r
  if a.2.1≠0 then(a.1,a.2.1,zE) else
  let b:=mz A ft a.1 (fx r) a.2.2
  if b.2.1≠0 then(b.1,b.2.1,zE) else
  match qG b.2.2 n with
  |none=>(b.1,4,zE)
  |some c=>(b.1,0,(n,c))
def gw (A:List Ob)(ft:FT)(fs:b6)(r:fT):b6×Int×List fV:=
 let a:=findF A ft fs r
 if a.2.1≠0 then(a.1,a.2.1,[])else mz A ft a.1 (fx r) a.2.2
theorem pF(A)(ft)(fs)(n:fP)(r:fT):findF A ft fs (n::r) =
  if(gw A ft fs r).2.1≠0 then((gw A ft fs r).1,(gw A ft fs r).2.1,zE) else
  match qG (gw A ft fs r).2.2 n with
  |none=>((gw A ft fs r).1,4,zE)
  |some c=>((gw A ft fs r).1,0,(n,c)):=by
 unfold gw;rw[findF];by_cases a:(findF A ft fs r).2.1≠0;simp only[lv a];simp only[km a]
def zC:Option LT->Option (List fV)
 |some (.own es)=>fh<|es.map lL
 |_=>fj
def RU:Option LT->Option Nat
 |some (.held a)=>fh a
 |_=>fj
structure Flat (gM:List Ob)(t:LT)(ft:FT):Prop where
 kind:t.kind=2
 root:ft.root=t.id
 od:∀p,ft.od p=zC (t.at gM p)
 of:∀p,ft.of p=RU (t.at gM p)
def iQ (s:fP):List UInt8:=s.data.toList
theorem iy{a b}(c:iQ a=iQ b):a=b:=bytes_inj c
theorem Kd(s):fv (iQ s)=s.size:=oW
theorem mC(s:fP):s.toList=iQ s:=by simp only[Au];rfl
def iY:List (List UInt8)->List UInt8
 |[]=>[]
 |[x]=>x
 |x::y::r=>x++47::iY (y::r)
def se:List UInt8->List (List UInt8)
 |[]=>[[]]
 |c::r=>if c=47 then []::se r else((c::(se r).headD [])::(se r).tail)
theorem qV(s:List UInt8):se s≠[]:=by
 rcases s with _|⟨c,r⟩
 simp[se];simp only[se];split<;>simp
theorem AO:∀(a b:List UInt8),(∀c∈a,c≠47)->se (a++47::b)=a::se b
 |[],b,_=>by simp[se]
 |c::r,b,e=>by
  have g:=AO r b λd f=>e d<|wq _ f
  grind [se]
theorem Dg:∀(a:List UInt8),(∀c∈a,c≠47)->se a=[a]
 |[],_=>rfl
 |c::r,b=>by
  have f:=Dg r λd e=>b d<|wq _ e
  grind [se]
theorem sW:∀(l:List (List UInt8)),l≠[]->(∀x∈l,∀c∈x,c≠47)->se (iY l)=l
 |[],a,_=>absurd fX a
 |[x],_,a=>by simp only[iY];exact Dg x<|a x (oK ..)
 |x::y::r,_,a=>by
  simp only[iY]
  rw[AO x _<|a x (oK ..),sW (y::r) (by simp) λz b=>a z<|wq _ b]
theorem vz(x:List UInt8){r:List (List UInt8)}(a:r≠[]):iY (x::r)=x++47::iY r:=by
 rcases r with _|⟨y,t⟩
 exact absurd fX a;rfl
theorem RV(c:UInt8)(x:List UInt8)(r:List (List UInt8)):iY ((c::x)::r)=c::iY (x::r):=by
 rcases r with _|⟨y,t⟩
 rfl;rfl
theorem wY:∀(s:List UInt8),iY (se s)=s
 |[]=>rfl
 |c::r=>by
  have a:=wY r
  simp only[se]
  split
  ·next hc=>rw[vz _<|qV r,a,hc];rfl
  rw[RV]
  congr 1
  rcases b:se r with _|⟨y,t⟩
  exact absurd b<|qV r
  rw[b]at a;exact a
theorem zD(x:List UInt8):∀(l:List (List UInt8)),l≠[]->iY (l++[x])=iY l++47::x
 |[],h=>absurd fX h
 |[y],_=>rfl
 |y::z::r,_=>by
  have a:=zD x (z::r)<|by simp
  grind [iY]
theorem rQ(a b:fP):iQ (a++b)=iQ a++iQ b:=by
 unfold iQ;simp
def fL (l:fT):Prop:=∀x∈l,fN x=fm
theorem fL.append{a b}(c:fL a)(d:fL b):fL (a++b):=λx e=>(qw.1 e).elim (c x)<|d x
theorem fL.left{a b:fT}(c:fL (a++b)):fL a:=λx d=>c x<|Rs _ d
theorem fL.right{a b:fT}(c:fL (a++b)):fL b:=λx d=>c x<|WA _ d
theorem fL.take{a}(b:fL a)(k):fL (a.take k):=λx c=>b x<|Av c
theorem Cr(A)(b:Kids->Kids):∀(p:fT)(t d:LT)(Y:Kids),t.at A p=fh d->kids A d=fh Y->
  (∀n r,(vy A b p t).at A (p++n::r)=(jp (b Y) n).bind λc=>c.at A r)/\(vy A b p t).at A p=fh (.own<|b Y)
 |[],t,d,Y,a,g=>by
  grind [oX,lh,Je,vy]
 |m::p,t,d,Y,a,g=>by
  rw[lh]at a
  cases e:kids A t with
  |none=>rw[e]at a;simp at a
  |some es=>
   rw[e,wd]at a
   rcases f:jp es m with _|c
   rw[f]at a
   simp at a
   rw[f,wd]at a
   have⟨h,i⟩:=Cr A b p c d Y a g
   refine⟨λn r=>?_,?_⟩
   rw[Eb,lh,qU,e,sA,wd,qg,lv fX,f,oV,wd]
   exact h n r
   rw[lh,qU,e,sA,wd,qg,lv fX,f,oV,wd]
   exact i
theorem pG(A)(g:Kids->Kids):∀(q:fT)(m:fP)(r:fT)(t d:LT),t.at A (q++m::r)=fh d->
  ∃e f,t.at A q=fh e/\kids A e=fh f/\(vy A g (q++m::r) t).at A q=fh (.own (f.map λx=>if x.1=m then(x.1,vy A g r x.2)else x))
 |[],m,r,t,d,a=>by
  rw[Hx,lh]at a
  rcases b:kids A t with _|es
  rw[b]at a
  simp at a
  exact⟨t,es,oX _ _,b,by rw[oX,Hx,vy,b];rfl⟩
 |n::q,m,r,t,d,a=>by
  rw[Eb,lh]at a
  cases b:kids A t with
  |none=>rw[b]at a;simp at a
  |some es=>
   rw[b,wd]at a
   rcases h:jp es n with _|c
   rw[h]at a
   simp at a
   rw[h,wd]at a
   have⟨e,f,k,i,j⟩:=pG A g q m r c d a
   refine⟨e,f,?_,i,?_⟩
   grind [lh]
   rw[Eb,lh,qU,b,sA,wd,qg,lv fX,h,oV,wd]
   exact j
theorem mb(A)(h:Kids->Kids):∀(p q:fT)(t d:LT),t.at A p=fh d->¬q <+: p->¬p <+: q->(vy A h p t).at A q=t.at A q
 |[],q,t,d,a,b,e=>absurd (hRS) e
 |m::p,[],t,d,a,b,e=>absurd (hRS) b
 |m::p,n::q,t,d,a,b,e=>by
  rw[lh]at a
  cases f:kids A t with
  |none=>rw[f]at a;simp at a
  |some es=>
   rw[f,wd]at a
   rw[lh,lh,qU,f,sA,wd,wd,qg]
   by_cases i:n=m
   subst i
   rw[lv fX]
   rcases j:jp es n with _|c
   rfl
   rw[j,wd]at a
   rw[oV,wd,wd]
   exact mb A h p q c d a (λg=>b<|Ro.2 ⟨fX,g⟩) λg=>e<|Ro.2 ⟨fX,g⟩
   grind
def Sound (A:List Ob):Prop:=(∀id,0<=gu A id)/\∀id,fK A id=2->fO (fQ A id)/\fv (fQ A id)<=16/\∀e∈fQ A id,fN e.1=fm/\(e.2.1=1\/e.2.1=2)/\fK A e.2.2=e.2.1/\gu A e.2.2+1<=gu A id
def fM (A:List Ob):Nat->LT->Prop
 |_,.file id=>fK A id=1
 |_,.held _=>True
 |n,.dir id=>fK A id=2/\gu A id<=n
 |0,.own es=>es=[]
 |n+1,.own es=>fO es/\fv es<=16/\∀x∈es,fN x.1=fm/\fM A n x.2
theorem lO(d:Sound A){n}{t}(a:fM A n t){Y:Kids}(b:kids A t=fh Y):fO Y/\fv Y<=16/\∀x∈Y,fN x.1=fm/\∃m,n=m+1/\fM A m x.2:=by
 cases t with
 |file i=>simp[kids]at b
 |held p=>simp[kids]at b
 |own es=>
  simp only[kids,pV]at b;subst b;cases n with
  |zero=>rw[fM]at a;subst a;exact⟨List.Pairwise.nil,by simp,by simp⟩
  |succ m=>rw[fM]at a;exact⟨a.1,a.2.1,λx c=>⟨(a.2.2 x c).1,m,fX,(a.2.2 x c).2⟩⟩
 |dir id=>
  have f:(fQ A id).map wl=Y:=by simpa [kids]using b
  subst f;have g:fK A id=2/\gu A id<=n:=by cases n<;>simpa [fM]using a
  obtain⟨h,j,k⟩:=d.2 id g.1;refine⟨?_,by simpa using j,λx c=>?_⟩;unfold fO;rw[wz];exact h;obtain⟨e,l,rfl⟩:=ja.1 c;obtain⟨o,q,r,s⟩:=k e l;have u:=d.1 e.2.2;refine⟨o,n-1,by omega,?_⟩;show fM A (n-1)<|ltOf e;unfold ltOf;by_cases v:e.2.1=2
  all_goals grind [fK,gu,Nat,Int,fM]
theorem rR{Y}{c:LT}(a:jp Y n=fh c):(n,c)∈Y:=by
 unfold jp at a;rcases b:Y.find? (λx=>decide (x.1=n))with _|x
 rw[b]at a;simp at a
 grind
theorem tA(h:Sound A):∀(p:fT){n:Nat}{t c:LT},fM A n t->t.at A p=fh c->fv p<=n/\fM A (n-fv p) c/\fL p
 |[],n,t,c,b,a=>by rw[oX]at a;cases a;exact⟨by simp,by simpa using b,λx d=>by simp at d⟩
 |m::p,n,t,c,b,a=>by
  rw[lh]at a
  cases e:kids A t with
  |none=>rw[e]at a;simp at a
  |some Y=>
   rw[e,wd]at a
   rcases f:jp Y m with _|x
   rw[f]at a
   simp at a
   rw[f,wd]at a
   have⟨_,_,i⟩:=lO h b e
   obtain⟨j,k,rfl,d⟩:=i _<|rR f
   have⟨o,q,l⟩:=tA h p d a
   refine⟨by simp;omega,?_,λy g=>?_⟩
   grind
   rcases mB.1 g with rfl|g
   exact j
   exact l y g
theorem Vp{id k:Int}(a:fK A id=k)(b:k≠0):1<=id:=by
 grind [fK,absurd]
theorem Jh(b:∀e∈es,e.2.1=1\/e.2.1=2):(es.map wl).map lL=es:=by
 rw[Ed];conv=>rhs;rw[<-List.map_id es]
 refine KS λe c=>?_;have⟨a,k,i⟩:=e;rcases b _ c with b|b
 simp only at b;subst b;rfl;simp only at b;subst b;rfl
theorem AP(Y:Kids)(n):qG (Y.map lL) n=(jp Y n).map λc=>(c.kind,c.id):=by
 unfold qG jp;rw[List.find?_map];rw[css,css];rfl
theorem yb{t c}{ft}(h:Sound A)(hF:Flat A t ft){n}(d:fM A n c)(j:t.at A p=fh c)(fs)(b:fP):
  mz A ft fs p (b,c.kind,c.id)=((ul A fs c).1,(ul A fs c).2.1,(ul A fs c).2.2.map lL):=by
 unfold mz;cases c with
 |file i=>rfl
 |held q=>rfl
 |own es=>
  have f:=hF.od p;rw[j]at f;simp only[LT.kind,LT.id,f];rfl
 |dir id=>
  have g:fK A id=2:=by cases n<;>simp[fM]at d<;>exact d.1
  have r:=Vp g (by decide);have k:=Jh λe l=>((h.2 id g).2.2 e l).2.1;rw[km (show ¬((b,(LT.dir id).kind,(LT.dir id).id):fV).2.1≠2 from λm=>m fX),km (show ¬((b,(LT.dir id).kind,(LT.dir id).id):fV).2.2=0 from by show ¬id=0;omega)];show(if(fs.ij id).2=fm then _ else _)=_;have o:ul A fs (.dir id)=if(fs.ij id).2 then((fs.ij id).1,0,(fQ A id).map wl) else((fs.ij id).1,14,[]):=fX;rw[o];by_cases a:(fs.ij id).2=fm;rw[lv a,lv a];simp only[k];rfl;rw[km a,km a];rfl
theorem uo{t}{ft}(b:Sound A)(hF:Flat A t ft){n}(c:fM A n t)(fs):∀r:fT,
  (findF A ft fs r).1=(ky A t fs r).1/\(findF A ft fs r).2.1=(ky A t fs r).2.1/\
  ((ky A t fs r).2.1=0->(findF A ft fs r).2.2=(r.headD kq,(ky A t fs r).2.2.kind,(ky A t fs r).2.2.id)/\t.at A (fx r)=fh (ky A t fs r).2.2)
 |[]=>⟨fX,fX,λ_=>⟨by show(_,(2:Int),ft.root)=_;rw[hF.root,<-hF.kind];rfl,oX _ _⟩⟩
 |m::r=>by
  have⟨f,g,h⟩:=uo b hF c fs r
  rw[findF,ky]
  simp only[f,g]
  by_cases d:(ky A t fs r).2.1≠0
  grind
  simp only[km d]
  have⟨j,e⟩:=h<|oL.1 d
  have k:=yb b hF ((tA b _ c e).2.1) e (ky A t fs r).1<|r.headD kq
  rw[j,k]
  simp only
  by_cases a:(ul A (ky A t fs r).1 (ky A t fs r).2.2).2.1≠0
  grind
  rw[km a,km a,AP]
  have o:(kids A (ky A t fs r).2.2)=fh (ul A (ky A t fs r).1 (ky A t fs r).2.2).2.2:=by
   generalize (ky A t fs r).2.2=x at a |-;generalize (ky A t fs r).1=y at a |-;cases x with
   |file i=>simp[ul]at a
   |held p=>simp[ul]at a
   |own es=>rfl
   |dir id=>
    simp only[ul]at a |-;by_cases l:(y.ij id).2=fm;rw[lv l];rfl
    grind
  grind [jp,ul,ky,kz,lx,lh,oX]
theorem nI{t}{ft}(a:Sound A)(hF:Flat A t ft){n}(b:fM A n t)(fs)(r):
  gw A ft fs r=((pw A t fs r).1,(pw A t fs r).2.1,(pw A t fs r).2.2.map lL):=by
 have⟨d,e,f⟩:=uo a hF b fs r;unfold gw pw;simp only[d,e];by_cases c:(ky A t fs r).2.1≠0
 grind
 simp only[km c];have⟨h,g⟩:=f<|oL.1 c;have i:=(tA a _ b g).2.1
 grind [yb,ky]
def mI (es:List fV)(n:fP):List fV:=es.map λe=>if e.1=n then(e.1,e.2.1,0)else e
def rp (A:List Ob)(fs:b6)(ft:FT):fT->FT
 |[]=>if(ft.od []).isSome then ft else { ft with od:=upd ft.od []<|fh (gw A ft fs []).2.2,root:=0 }
 |n::r=>
  if(ft.od<|fx (n::r)).isSome then ft else
  let a:=rp A fs { ft with od:=upd ft.od (fx (n::r)) (fh (gw A ft fs (n::r)).2.2) } r
  { a with od:=upd a.od (fx r) (fh<|mI ((a.od<|fx r).getD []) n) }
theorem zF(A)(fs){ft ft':FT}(b:ft'.root=ft.root):∀r:(List ByteArray),(∀x,x <+: fx r->ft'.od x=ft.od x)->findF A ft' fs r=findF A ft fs r/\gw A ft' fs r=gw A ft fs r
 |[],a=>by
  grind [findF,gw,mz,List,ByteArray,List.prefix_refl]
 |n::r,a=>by
  have c:∀x,x <+: fx r->ft'.od x=ft.od x:=λx d=>a x<|d.trans (by grind)
  obtain⟨_,e⟩:=zF A fs b r c
  grind [findF,pF,gw,mz,List.prefix_refl]
structure jm (gM:List Ob)(fs:b6)(ft:FT)(K:fT->List fV)(p:fT):Prop where
 look:∀q,q <+: p->gw gM ft fs q.reverse=(fs,0,K q)
 own:∀q,q <+: p->∀es,ft.od q=some es->es=K q
 up:∀q m,(q++[m]) <+: p->(ft.od (q++[m])).isSome=true->(ft.od q).isSome=true/\mI (K q) m=K q
 root:(ft.od []).isSome=true->ft.root=0
def zK (K:fT->List fV)(p x:fT):List fV:=match p[fv x]? with
 |some m=>mI (K x) m
 |none=>K x
theorem wZ{α:Type}{x p:List α}{n:α}(a:x <+: p++[n]):x <+: p\/x=p++[n]:=by
 grind [sat]
theorem nk{α:Type}{x p:List α}(a:x <+: p)(b:x≠p):∃m,p[fv x]?=fh m/\(x++[m]) <+: p:=by
 obtain⟨t,rfl⟩:=a;cases t with
 |nil=>simp at b
 |cons m r=>exact⟨m,by simp,⟨r,by simp⟩⟩
theorem zG{fs}{ft}:∀{r:fT},jm A fs ft K (fx r)->(ft.od (fx r)).isSome=fm->ft.root=0/\∀x,x <+: fx r->ft.od x=fh (zK K (fx r) x)
 |[],a,c=>by
  refine⟨a.root c,λx b=>?_⟩
  have:x=[]:=by simpa using b
  subst this
  obtain⟨es,d⟩:=hxl.1 c
  have:=a.own [] (sM _) es d
  show ft.od (fx ([]:fT))=_
  rw[d,this];rfl
 |n::r,a,c=>by
  rw[kz]at a c |-
  obtain⟨g,l⟩:=a.up (fx r) n (sM _) c
  have uq:∀x,x <+: fx r->x <+: fx r++[n]:=λx b=>b.trans<|qz _ _
  have h:jm A fs ft K (fx r):=⟨λq e=>a.look q<|uq q e,λq e=>a.own q<|uq q e,λq m e=>a.up q m<|uq _ e,a.root⟩
  obtain⟨i,j⟩:=zG h g
  refine⟨i,λx b=>?_⟩
  rcases wZ b with b|rfl
  rw[j x b]
  by_cases f:x=fx r
  subst f
  have o:zK K (fx r) (fx r)=K (fx r):=by unfold zK;rw[wm<|lw _]
  have p:zK K (fx r++[n]) (fx r)=mI (K<|fx r) n:=by unfold zK;rw[BU<|lw _];simp
  grind
  obtain⟨m,k,_⟩:=nk b f
  have s:fv x<fv (fx r):=(wH.1 k).1
  unfold zK
  grind
  obtain⟨es,d⟩:=hxl.1 c
  have:=a.own _ (sM _) es d
  rw[d,this]
  unfold zK
  grind
theorem zH{fs}:∀{r:fT}{ft:FT},jm A fs ft K (fx r)->
  (rp A fs ft r).root=0/\(rp A fs ft r).of=ft.of/\∀x,(rp A fs ft r).od x=if x <+: fx r then fh (zK K (fx r) x)else ft.od x
 |[],ft,b=>by
  rw[rp]
  by_cases i:(ft.od []).isSome=fm
  grind [zG]
  rw[km i]
  refine⟨fX,fX,λx=>?_⟩
  have g:=b.look []<|sM _
  show upd ft.od [] _ x=_
  by_cases a:x=[]
  subst a
  rw[upd_same,lv<|by simp,show gw A ft fs []=(fs,0,K [])from g];rfl
  grind [kh]
 |n::r,ft,b=>by
  rw[rp]
  by_cases i:(ft.od<|fx (n::r)).isSome=fm
  grind [zG]
  rw[km i]
  have p:fx (n::r)=fx r++[n]:=kz
  rw[p]at b |-
  have g:=b.look (fx r++[n])<|sM _
  rw[ss2,tP]at g
  have s:gw A ft fs (n::r)=(fs,0,K<|fx r++[n]):=g
  rw[s]
  have uq:∀x,x <+: fx r->x <+: fx r++[n]:=λx a=>a.trans<|qz _ _
  have d:∀x,x <+: fx r->x≠fx r++[n]:=λx a e=>by
   have:=a.length_le
   rw[e]at this;simp at this;omega
  have t:jm A fs { ft with od:=upd ft.od (fx r++[n]) (fh (fs,(0:Int),K<|fx r++[n]).2.2) } K (fx r):=by
   refine⟨λq c=>?_,λq c es u=>?_,λq m c k=>?_,λk=>?_⟩;rw[(zF A fs (ft:=ft) (ft':={ ft with od:=upd ft.od (fx r++[n]) (fh (fs,(0:Int),K<|fx r++[n]).2.2) }) fX (fx q) λx a=>kh (d x (by grind)) _).2];exact b.look q<|uq q c;exact b.own q (uq q c) es<|(kh (f:=ft.od) (d q c) (fh<|K (fx r++[n]))).symm.trans u;have l:=kh (f:=ft.od) (d _ c)<|fh (K<|fx r++[n]);have v:q <+: fx r:=(qz q [m]).trans c;have j:=kh (f:=ft.od) (d _ v)<|fh (K<|fx r++[n]);show(upd ft.od _ _ q).isSome=fm/\_;rw[j];exact b.up q m (uq _ c) (by grind);exact b.root (by rw[<-kh (f:=ft.od) (d []<|by simp)<|fh (K<|fx r++[n])];exact k)
  obtain⟨w,y,o⟩:=zH t;refine⟨w,y,λx=>?_⟩;show upd (rp A fs _ r).od (fx r) _ x=_;rw[o<|fx r,lv<|sM _];have l:zK K (fx r) (fx r)=K (fx r):=by unfold zK;rw[wm<|lw _]
  rw[l];by_cases a:x=fx r;subst a;rw[upd_same,lv<|qz _ _];have j:zK K (fx r++[n]) (fx r)=mI (K<|fx r) n:=by unfold zK;rw[BU<|lw _];simp
  rw[j];rfl;rw[kh a,o];by_cases h:x <+: fx r;rw[lv h,lv<|uq x h];obtain⟨m,z,_⟩:=nk h a;have C:fv x<fv (fx r):=(wH.1 z).1;unfold zK
  grind
  rw[km h];show upd ft.od _ _ x=_;by_cases B:x=fx r++[n];subst B;rw[upd_same,lv<|sM _];unfold zK
  grind
  grind [kh,wZ]
def gU (A:List Ob)(t:LT)(fs:b6)(p:fT):Prop:=∀x id,x <+: p->t.at A x=fh (.dir id)->fs.kD id=fm
theorem gU.mono{t}{fs fs':b6}(a:gU A t fs p)(b:∀x,fs.kD x=fm->fs'.kD x=fm):gU A t fs' p:=λx id c d=>b _<|a x id c d
theorem gU.pre{t}{fs}(a:gU A t fs p)(b:q <+: p):gU A t fs q:=λx id c d=>a x id (c.trans b) d
theorem Fl{fs:b6}{c}{Y:Kids}(a:kids A c=fh Y)(b:∀id,c=.dir id->fs.kD id=fm):ul A fs c=(fs,0,Y):=by
 cases c with
 |file i=>simp[kids]at a
 |held d=>simp[kids]at a
 |own es=>simp only[kids,pV]at a;subst a;rfl
 |dir id=>
  grind [b6.ij,kids,pV,ul,fQ,wl]
theorem yc{t:LT}{c:LT}(a:t.at A (q++[n])=fh c):∃d Y,t.at A q=fh d/\kids A d=fh Y/\jp Y n=fh c:=by
 rw[lx]at a;cases f:t.at A q with
 |none=>rw[f]at a;simp at a
 |some d=>
  rw[f,wd,lh]at a;rcases b:kids A d with _|Y
  rw[b]at a;simp at a;rw[b,wd]at a;cases e:jp Y n with
  |none=>rw[e]at a;simp at a
  |some x=>rw[e,wd,oX]at a;cases a;exact⟨d,Y,fX,b,e⟩
theorem Ji{t:LT}{fs:b6}:∀{r:fT}{c:LT},t.at A (fx r)=fh c->(∀x id,x <+: fx r->x≠fx r->t.at A x=fh (.dir id)->fs.kD id=fm)->ky A t fs r=(fs,0,c)
 |[],c,a,b=>by rw[List.reverse_nil,oX]at a;cases a;rfl
 |n::r,c,a,b=>by
  rw[kz]at a b
  obtain⟨d,Y,g,i,l⟩:=yc a
  have h:∀x,x <+: fx r->x≠fx r++[n]:=λx f e=>by
   have:=f.length_le
   rw[e]at this
   simp at this
   omega
  rw[ky]
  simp only[(Ji g λx id f m j=>b x id (f.trans<|qz _ _) (h x f) j)]
  rw[km<|by decide,Fl i λid k=>b (fx r) id (qz _ _) (h _<|sM _) (by rw[g,k])]
  grind
theorem Jj{t:LT}{fs}{r:fT}{c:LT}{Y:Kids}(a:t.at A (fx r)=fh c)(d:kids A c=fh Y)(b:gU A t fs (fx r)):pw A t fs r=(fs,0,Y):=by
 unfold pw;simp only[Ji a λx id e _ f=>b x id e f];rw[km<|by decide];exact Fl d λid g=>b _ id (sM _) (by rw[a,g])
theorem zI{fs}{c}(a:(ul A fs c).2.1=0):kids A c=fh (ul A fs c).2.2/\fs.Next (ul A fs c).1/\∀id,c=.dir id->(ul A fs c).1.kD id=fm:=by
 cases c with
 |file i=>simp[ul]at a
 |held h=>simp[ul]at a
 |own es=>exact⟨fX,b6.Next.refl _,λid b=>by cases b⟩
 |dir id=>
  have e:ul A fs (.dir id)=if(fs.ij id).2 then((fs.ij id).1,0,(fQ A id).map wl) else((fs.ij id).1,14,[]):=fX;rw[e]at a |-;rcases fs.zB id with⟨d,f,g⟩|⟨d,_⟩
  rw[lv d];exact⟨fX,f,λj b=>by cases b;exact g⟩
  grind
theorem vA{t}{fs}:∀{r:fT},(ky A t fs r).2.1=0->t.at A (fx r)=fh (ky A t fs r).2.2/\fs.Next (ky A t fs r).1/\∀x id,x <+: fx r->x≠fx r->t.at A x=fh (.dir id)->(ky A t fs r).1.kD id=fm
 |[],_=>⟨oX _ _,b6.Next.refl _,λx id a d=>absurd (by simpa using a) d⟩
 |n::r,b=>by
  rw[ky]at b |-
  by_cases e:(ky A t fs r).2.1≠0
  grind
  simp only[km e]at b |-
  obtain⟨m,i,j⟩:=vA<|oL.1 e
  by_cases f:(ul A (ky A t fs r).1 (ky A t fs r).2.2).2.1≠0
  grind
  rw[km f]at b |-
  obtain⟨o,g,p⟩:=zI<|oL.1 f
  rcases h:jp (ul A (ky A t fs r).1 (ky A t fs r).2.2).2.2 n with _|c
  rw[h]at b;simp at b
  rw[h]at b
  simp only
  refine⟨?_,i.trans g,λx id a d k=>?_⟩
  grind [kz,lx,lh,oX]
  rw[kz]at a d
  rcases wZ a with a|a
  by_cases l:x=fx r
  grind
  exact g.2.2.2.2 id<|j x id a l k
  grind
theorem qJ{t}{fs}{r}(a:(pw A t fs r).2.1=0):
  (∃d,t.at A (fx r)=fh d/\kids A d=fh (pw A t fs r).2.2)/\fs.Next (pw A t fs r).1/\gU A t (pw A t fs r).1 (fx r):=by
 unfold pw at a |-;by_cases b:(ky A t fs r).2.1≠0
 grind
 simp only[km b]at a |-;obtain⟨e,f,g⟩:=vA<|oL.1 b;obtain⟨h,c,l⟩:=zI a;refine⟨⟨_,e,h⟩,f.trans c,λx id i j=>?_⟩;by_cases k:x=fx r
 grind
 exact c.2.2.2.2 id<|g x id i k j
def oM (A:List Ob)(t:LT)(q:fT):List fV:=(((t.at A q).bind<|kids A).getD []).map lL
theorem Xj(a:∀e∈es,e.1=n->e.2.2=0):mI es n=es:=by
 unfold mI;conv=>rhs;rw[<-List.map_id es]
 grind [KS]
theorem nJ{Y}(d:fO Y){c:LT}(b:jp Y n=fh c){x:fP×LT}(a:x∈Y)(f:x.1=n):x.2=c:=by
 induction Y with
 |nil=>simp at a
 |cons y r e=>
  unfold jp at b;by_cases g:y.1=n;rw[scc (by grind)]at b;rcases mB.1 a with rfl|a
  grind
  have:=(sB.1 d).1 x a
  grind [jc]
  rw[scp (by grind)]at b;rcases mB.1 a with rfl|a
  grind
  exact e d.tail b a
theorem iq{t}{ft}{fs}(v:Sound A)(hF:Flat A t ft){n}(C:fM A n t){d:LT}{Y:Kids}(j:t.at A p=fh d)(D:kids A d=fh Y)(E:gU A t fs p):jm A fs ft (oM A t) p:=by
 have dir:∀q,q <+: p->∃c k,t.at A q=fh c/\kids A c=fh k:=λq g=>by
  obtain⟨s,rfl⟩:=g;rcases s with _|⟨m,s⟩
  rw[lJ]at j;exact⟨d,Y,j,D⟩;rw[show q++m::s=(q++[m])++s by simp,lx]at j;cases l:t.at A (q++[m]) with
  |none=>rw[l]at j;simp at j
  |some y=>obtain⟨c,k,f,a,_⟩:=yc l;exact⟨c,k,f,a⟩
 refine⟨λq g=>?_,λq g es o=>?_,λq m g b=>?_,λb=>?_⟩;obtain⟨c,k,f,a⟩:=dir q g
 have:=Jj (r:=fx q) (by rw[tP];exact f) a (by rw[tP];exact E.pre g)
 grind [nI,oM]
 have:=hF.od q
 rw[o]at this;unfold oM;rcases h:t.at A q with _|c
 rw[h]at this;simp[zC]at this;rw[h]at this;cases c with
 |own u=>simp only[zC,pV]at this;rw[this];rfl
 |file i=>simp[zC]at this
 |held F=>simp[zC]at this
 |dir i=>simp[zC]at this
 rw[hF.od]at b;rcases h:t.at A (q++[m])with _|c
 rw[h]at b;simp[zC]at b;rw[h]at b;obtain⟨u,rfl⟩:∃u,c=.own u:=by cases c<;>first|exact⟨_,fX⟩|(simp[zC]at b)
 obtain⟨w,k,f,a,z⟩:=yc h;have G:=(tA v _ C f).2.1;have J:=rR z;obtain⟨B,rfl⟩:∃B,w=.own B:=by
  cases w with
  |own es=>exact⟨es,fX⟩
  |file i=>simp[kids]at a
  |held F=>simp[kids]at a
  |dir i=>
   grind [kids,pV,wl,ltOf]
 simp only[kids,pV]at a;subst a;refine⟨by rw[hF.od,f];rfl,?_⟩;unfold oM;rw[f];refine Xj λe o H=>?_
 obtain⟨x,l,rfl⟩:=ja.1 o;have I:=(lO v G fX).1
 have:=nJ I z l H
 show x.2.id=0;rw[this];rfl;rw[hF.od,oX]at b;rw[hF.root];cases t<;>first|rfl|(simp[zC]at b)
theorem NC{t}{ft a:FT}{fs:b6}(u:Sound A)(hF:Flat A t ft){n}(D:fM A n t){d:LT}{Y:Kids}(k:t.at A q=fh d)(v:kids A d=fh Y)(b:Kids->Kids)
  (E:a.root=0)(F:∀x,¬q <+: x->a.od x=if x <+: q then fh (zK (oM A t) q x)else ft.od x)(G:∀x,¬q <+: x->a.of x=ft.of x)
  (H:a.od q=fh ((b Y).map lL))(I:a.of q=fj)
  (J:∀m r,a.od (q++m::r)=zC ((jp (b Y) m).bind λc=>c.at A r))(K:∀m r,a.of (q++m::r)=RU ((jp (b Y) m).bind λc=>c.at A r)):
  Flat A (vy A b q t) a:=by
 obtain⟨L,M⟩:=Cr A b q t d Y k v;have key:∀x,a.od x=zC ((vy A b q t).at A x)/\a.of x=RU ((vy A b q t).at A x):=by
  intro x;by_cases g:q <+: x;obtain⟨s,rfl⟩:=g;rcases s with _|⟨m,r⟩
  rw[lJ,M,H,I];exact⟨fX,fX⟩;rw[L,J,K];exact⟨fX,fX⟩;rw[F x g,G x g];by_cases i:x <+: q;rw[lv i];obtain⟨m,N,r,O⟩:=nk i λe=>g<|e▸sM _;have w:q=x++m::r:=by rw[<-O];simp
  have f:=k;rw[w]at f;obtain⟨l,B,j,h,C⟩:=pG A b x m r t d f;rw[<-w]at C;rw[C];have S:l.kind=2:=by cases l<;>first|rfl|(simp[kids]at h)
  refine⟨?_,?_⟩
  congr 1
  unfold zK oM;rw[N,j,wd,h,sA];show List.map (λe:fV=>if e.1=m then(e.1,e.2.1,(0:Int))else e) (List.map lL B)=_;rw[Ed,Ed];refine KS λy P=>?_
  show(if y.1=m then(y.1,y.2.kind,(0:Int))else lL y)=lL (if y.1=m then(y.1,vy A b r y.2)else y);by_cases o:y.1=m;rw[lv o,lv o];have Q:y.2.kind=2:=by
   rw[lx,j,wd,lh,h,wd]at f;rcases p:jp B m with _|c
   rw[p]at f;simp at f;rw[p,wd]at f;have R:=(tA u _ D j).2.1;rw[nJ (lO u R h).1 p P o];cases r with
   |nil=>rw[oX]at f;obtain rfl:=rF f;cases c<;>first|rfl|(simp[kids]at v)
   |cons z r=>
    rw[lh]at f;cases c<;>first|rfl|(simp[kids]at f)
  rw[Q];cases r<;>rfl
  grind
  rw[hF.of x,j];cases l<;>first|rfl|(simp[kids]at h)
  rw[km i,mb A b q x t d k i g];exact⟨hF.od x,hF.of x⟩
 refine⟨?_,?_,λx=>(key x).1,λx=>(key x).2⟩;cases q<;>rfl;rw[E];cases q<;>rfl
def ot(Y:Kids):Y.map lL=Cq (λx=>(x.2.kind,x.2.id)) Y:=fX
theorem err{α β:Type}(a:fP×α->β)(es:List (fP×α))(n)(c:α):Cq a (zr es n c)=zr (Cq a es) n (a (n,c)):=by
 grind [zr,Fk,Fj,Cq,List.map_set,List.map_take,List.map_drop]
theorem ilo(Y)(n)(c):(zr Y n c).map lL=zr (Y.map lL) n (c.kind,c.id):=by rw[ot,err,<-ot]
def esc(Y)(n):(ra Y n).map lL=ra (Y.map lL) n:=by rw[ot,Xi,<-ot]
def jd(Y:Kids)(n):kB (Y.map lL) n=kB Y n:=by rw[ot,Fk]
theorem xb{Y}(a:fO Y)(n)(c)(m):jp (zr Y n c) m=if m=n then fh c else jp Y m:=NB a m
theorem mg{Y}(a:fO Y)(b:kB Y n=fm)(m):jp (ra Y n) m=if m=n then fj else jp Y m:=Jg a b m
theorem rh{Y}(a:fO Y)(n):(jp Y n).isSome=kB Y n:=by
 grind [RT,nj,kB,um,jH]
theorem lN{t d:LT}{Y:Kids}(a:t.at A q=fh d)(b:kids A d=fh Y):oM A t q=Y.map lL:=by
 unfold oM;rw[a,wd,b];rfl
def xd{q x:fT}(a:q++[n] <+: x):q <+: x:=(qz q [n]).trans a
theorem AQ{t}{ft b:FT}{fs:b6}(i:Sound A)(hF:Flat A t ft)(j:fM A k t){d:LT}{Y:Kids}(f:t.at A q=fh d)(g:kids A d=fh Y)(n:fP)(c:LT)
  (p:b.root=0)(s:∀x,¬(q++[n]) <+: x->b.od x=if x=q then fh (zr (Y.map lL) n (c.kind,c.id))else if x <+: q then fh (zK (oM A t) q x)else ft.od x)
  (l:∀x,¬(q++[n]) <+: x->b.of x=ft.of x)(u:∀r,b.od (q++n::r)=zC (c.at A r))(v:∀r,b.of (q++n::r)=RU (c.at A r)):
  Flat A (vy A (λY=>zr Y n c) q t) b:=by
 have o:=(lO i (tA i _ j f).2.1 g).1;have w:¬(q++[n]) <+: q:=λa=>by have:=a.length_le;simp at this;omega
 have y:ft.of q=fj:=by rw[hF.of,f];cases d<;>first|rfl|(simp[kids]at g)
 refine NC i (fs:=fs) hF j f g _ p (λx e=>?_) (λx e=>l x λa=>e<|xd a) ?_ ?_ (λm r=>?_) λm r=>?_
 grind
 grind [ilo]
 grind
 rw[xb o];by_cases h:m=n
 grind
 have e:¬(q++[n]) <+: (q++m::r):=λa=>by
  rw[bol,Ro]at a;exact h a.1.symm
 rw[km h,s _ e,km<|by simp,km (λa=>by have:=a.length_le;simp at this;omega),hF.od,lx,f,wd,lh,g,wd];rw[xb o];by_cases h:m=n
 grind
 have e:¬(q++[n]) <+: (q++m::r):=λa=>by
  rw[bol,Ro]at a;exact h a.1.symm
 rw[km h,l _ e,hF.of,lx,f,wd,lh,g,wd]
theorem Jk{t}{ft f:FT}{fs:b6}(i:Sound A)(hF:Flat A t ft)(o:fM A k t){d:LT}{Y:Kids}(g:t.at A q=fh d)(h:kids A d=fh Y)(n)(p:kB Y n=fm)
  (v:f.root=0)(j:∀x,¬(q++[n]) <+: x->f.od x=if x=q then fh (ra (Y.map lL) n)else if x <+: q then fh (zK (oM A t) q x)else ft.od x)
  (l:∀x,¬(q++[n]) <+: x->f.of x=ft.of x)(w:∀r,f.od (q++n::r)=fj)(y:∀r,f.of (q++n::r)=fj):
  Flat A (vy A (λY=>ra Y n) q t) f:=by
 have s:=(lO i (tA i _ o g).2.1 h).1;have u:¬(q++[n]) <+: q:=λa=>by have:=a.length_le;simp at this;omega
 have z:ft.of q=fj:=by rw[hF.of,g];cases d<;>first|rfl|(simp[kids]at h)
 refine NC i (fs:=fs) hF o g h _ v (λx b=>?_) (λx b=>l x λa=>b<|xd a) ?_ ?_ (λm r=>?_) λm r=>?_;rw[j x λa=>b<|xd a,km (λe:x=q=>b (by rw[e];exact sM _))];rw[j q u,lv fX,esc];rw[l q u,z];rw[mg s p];by_cases c:m=n;subst c;rw[lv fX];exact w r;have b:¬(q++[n]) <+: (q++m::r):=λa=>by
  rw[bol,Ro]at a;exact c a.1.symm
 rw[km c,j _ b,km<|by simp,km (λa=>by have:=a.length_le;simp at this;omega),hF.od,lx,g,wd,lh,h,wd];rw[mg s p];by_cases c:m=n;subst c;rw[lv fX];exact y r;have b:¬(q++[n]) <+: (q++m::r):=λa=>by
  rw[bol,Ro]at a;exact c a.1.symm
 rw[km c,l _ b,hF.of,lx,g,wd,lh,h,wd]
def ND{α:Type}{es:List (fP×α)}{c:α}{x:fP×α}(a:x∈zr es n c):x=(n,c)\/x∈es:=by
 unfold zr at a;split at a;rcases List.mem_or_eq_of_mem_set a with a|a
 exact .inr a;exact .inl a;rcases qw.1 a with a|a
 exact .inr<|Av a;rcases mB.1 a with a|a
 exact .inl a;exact .inr<|Wy a
def Jl{α:Type}{es:List (fP×α)}{x:fP×α}(a:x∈ra es n):x∈es:=List.mem_of_mem_eraseIdx a
theorem zJ{n:Nat}{es}(a:fO es)(b:fv es<=16)(c:∀x∈es,fN x.1=fm/\∃m,n=m+1/\fM A m x.2):fM A n (.own es):=by
 cases n with
 |zero=>
  rw[fM];rcases es with _|⟨x,r⟩
  all_goals grind [oK]
 |succ k=>
  all_goals grind [fM]
theorem RX{Y}(b:fO Y)(n:ByteArray)(a:LT->LT):fO (Y.map λx=>if x.1=n then(x.1,a x.2)else x):=by
 grind [fO,wz,ByteArray]
theorem RY(f:Sound A)(e:Kids->Kids):∀(q:fT){n:Nat}{t d:LT}{Y:Kids},fM A n t->t.at A q=fh d->kids A d=fh Y->fM A (n-fv q) (.own<|e Y)->fM A n (vy A e q t)
 |[],n,t,d,Y,g,a,h,p=>by
  grind [oX,vy]
 |m::q,n,t,d,Y,g,a,h,p=>by
  rw[lh]at a
  cases b:kids A t with
  |none=>rw[b]at a;simp at a
  |some es=>
   rw[b,wd]at a
   rcases i:jp es m with _|c
   grind
   rw[i,wd]at a
   have⟨j,z,r⟩:=lO f g b
   rw[vy,b,sA]
   refine zJ (RX j m _) (by grind) λx s=>?_
   obtain⟨y,k,rfl⟩:=ja.1 s
   obtain⟨u,v,rfl,l⟩:=r y k
   by_cases o:y.1=m
   rw[lv o]
   refine⟨u,v,fX,?_⟩
   have w:=nJ j i k o
   rw[w]at l |-
   exact RY f e q l a h (by grind)
   grind
theorem NF(a:Kids->Kids){t d:LT}{Y:Kids}(f:t.at A q=fh d)(h:kids A d=fh Y){x}(i:(vy A a q t).at A x=fh (.held b)):
  (∃m r,x=q++m::r/\((jp (a Y) m).bind λc=>c.at A r)=fh (.held b))\/(¬q <+: x/\t.at A x=fh (.held b)):=by
 obtain⟨n,o⟩:=Cr A a q t d Y f h;by_cases g:q <+: x
 ·obtain⟨s,rfl⟩:=g
  rcases s with _|⟨m,r⟩
  all_goals grind
 refine .inr ⟨g,?_⟩;by_cases j:x <+: q
 ·obtain⟨m,p,r,k⟩:=nk j (λe=>g<|e▸sM _)
  have l:q=x++m::r:=by rw[<-k];simp
  rw[l]at f i;obtain⟨u,v,w,y,z⟩:=pG A a x m r t d f
  all_goals grind
 all_goals grind [mb]
def qx (A:List Ob)(fs:b6)(ft:FT)(q:fT)(n:fP)(b:Int×Int):FT:=
 let a:=rp A fs ft<|fx q
 let es:=(a.od q).getD []
 if kB es n then { root:=a.root,od:=upd (upd a.od q<|fh (zr es n b)) (q++[n]) fj,of:=upd a.of (q++[n]) fj }
 else { a with od:=upd a.od q (fh<|zr es n b) }
def ou (A:List Ob)(fs:b6)(ft:FT)(q:fT)(n:fP):FT:=
 let a:=rp A fs ft (fx q)
 { a with od:=upd a.od q (fh<|ra ((a.od q).getD []) n) }
def AR (ft:FT)(p:fT):FT:={ ft with od:=upd ft.od p fj,of:=upd ft.of p fj }
def Lq {β:Type}(a:fT->Option β)(src T:fT):fT->Option β:=λx=>if T <+: x then a (src++x.drop (fv T))else if src <+: x then fj else a x
def szr (ft:FT)(src T:fT):FT:={ ft with od:=Lq ft.od src T,of:=Lq ft.of src T }
theorem inc(q:fT)(n:fP):q++[n]≠q:=λe=>by have:=congrArg List.length e;simp at this
theorem rS{fs}{ft}(b:jm A fs ft K q):
  (rp A fs ft<|fx q).root=0/\(rp A fs ft<|fx q).of=ft.of/\(rp A fs ft<|fx q).od q=fh (K q)/\∀x,x≠q->(rp A fs ft (fx q)).od x=if x <+: q then fh (zK K q x)else ft.od x:=by
 obtain⟨c,d,a⟩:=zH (r:=fx q) (by rw[tP];exact b);rw[tP]at a;refine⟨c,d,?_,λx _=>a x⟩;rw[a,lv<|sM _];unfold zK
 grind
theorem ye{fs}{ft}(c:jm A fs ft K q)(n)(a:Int×Int):
  (qx A fs ft q n a).root=0/\(∀x,x≠q++[n]->(qx A fs ft q n a).od x=if x=q then fh (zr (K q) n a)else if x <+: q then fh (zK K q x)else ft.od x)/\(∀x,x≠q++[n]->(qx A fs ft q n a).of x=ft.of x)/\
  (qx A fs ft q n a).od (q++[n])=(if kB (K q) n then fj else ft.od (q++[n]))/\(qx A fs ft q n a).of (q++[n])=(if kB (K q) n then fj else ft.of (q++[n])):=by
 obtain⟨f,g,d,h⟩:=rS c;have i:¬(q++[n]) <+: q:=λe=>by have:=e.length_le;simp at this;omega
 unfold qx;simp only[d,sA];by_cases b:kB (K q) n=fm;rw[lv b,lv b,lv b]
 grind [upd_same,upd,kh]
 rw[km b,km b,km b]
 grind [rp,upd,upd_same,kh,inc]
theorem zL{fs}{ft}(a:jm A fs ft K q)(n):
  (ou A fs ft q n).root=0/\(∀x,(ou A fs ft q n).od x=if x=q then fh (ra (K q) n)else if x <+: q then fh (zK K q x)else ft.od x)/\(ou A fs ft q n).of=ft.of:=by
 obtain⟨b,_⟩:=rS a;unfold ou
 grind [upd_same,kh]
theorem jm.congr{fs}{ft c:FT}(b:jm A fs ft K q)(d:c.root=ft.root)(e:∀x,x <+: q->c.od x=ft.od x):jm A fs c K q:=by
 refine⟨λx a=>?_,λx a es g=>b.own x a es (by grind),λx m a f=>?_,λf=>?_⟩;rw[(zF A fs d (fx x) λy h=>e y (by grind)).2];exact b.look x a;rw[e x<|(qz x [m]).trans a];exact b.up x m a (by grind);rw[d];exact b.root (by grind)
section
variable {t:LT}{ft:FT}{fs:b6}{d:LT}{Y:Kids}
def nK(hF:Flat A t ft)(a:t.at A q=fh d)(b:kids A d=fh Y)(c:jp Y n=fj)(r:fT):ft.od (q++n::r)=fj/\ft.of (q++n::r)=fj:=by
 have:t.at A (q++n::r)=fj:=by rw[lx,a,wd,lh,b,wd,c];rfl
 rw[hF.od,hF.of,this];exact⟨fX,fX⟩
theorem pH{c:LT}(b:t.at A p=fh c)(d:kids A c=fj\/kids A c=fh [])(m:fP)(r:fT):t.at A (p++m::r)=fj:=by
 rw[lx,b,wd,lh];rcases d with a|a
 rw[a];rfl;rw[a];rfl
theorem RZ(c:Sound A)(hF:Flat A t ft)(g:fM A k t)(a:t.at A q=fh d)(b:kids A d=fh Y)(p:gU A t fs q)(f:jp Y n=fj):
  Flat A (vy A (λY=>zr Y n<|.own []) q t) { qx A fs ft q n (2,0)with od:=upd (qx A fs ft q n (2,0)).od (q++[n]) (fh []) }:=by
 have W:=iq c hF g a b p;have s:=(lO c (tA c _ g a).2.1 b).1;have u:kB (oM A t q) n=fo:=by rw[lN a b,jd,<-rh s,f];rfl
 obtain⟨v,h,w,z,i⟩:=ye W n (2,0);rw[u,km<|by decide]at i;refine AQ c (fs:=fs) hF g a b n (.own []) v (λx j=>?_) (λx j=>?_) (λr=>?_) λr=>?_;have l:x≠q++[n]:=λe=>j<|e▸sM _;show upd _ _ _ x=_;rw[kh l,h x l,lN a b];rfl
 grind
 show upd _ _ _ _=_;rcases r with _|⟨m,r⟩
 rw[upd_same,oX];rfl;have o:q++n::m::r≠q++[n]:=by simp
 rw[kh o,h _ o,km<|by simp,km (λy=>by have:=y.length_le;simp at this;omega),(nK hF a b f _).1,lh];rfl;rcases r with _|⟨m,r⟩
 rw[i,(nK hF a b f []).2,oX];rfl;rw[w _<|by simp,(nK hF a b f _).2,lh];rfl
theorem NG(c:Sound A)(hF:Flat A t ft)(g:fM A k t)(a:t.at A q=fh d)(b:kids A d=fh Y)(o:gU A t fs q)(f:jp Y n=fj)(h):
  Flat A (vy A (λY=>zr Y n<|.held h) q t) { qx A fs ft q n (1,0)with of:=upd (qx A fs ft q n (1,0)).of (q++[n]) (fh h) }:=by
 have W:=iq c hF g a b o;have p:kB (oM A t q) n=fo:=by rw[lN a b,jd,<-rh ((lO c (tA c _ g a).2.1 b).1),f];rfl
 obtain⟨s,i,u,j,z⟩:=ye W n (1,0);rw[p,km<|by decide]at j;refine AQ c (fs:=fs) hF g a b n (.held h) s (λx l=>?_) (λx l=>?_) (λr=>?_) λr=>?_;have v:x≠q++[n]:=λe=>l<|e▸sM _;rw[i x v,lN a b];rfl
 grind [upd,sM,kh]
 rcases r with _|⟨m,r⟩
 rw[j,(nK hF a b f []).1,oX];rfl;have w:q++n::m::r≠q++[n]:=by simp
 rw[i _ w,km<|by simp,km (λy=>by have:=y.length_le;simp at this;omega),(nK hF a b f _).1,lh];rfl;show upd _ _ _ _=_;rcases r with _|⟨m,r⟩
 rw[upd_same,oX];rfl;rw[kh<|by simp,u _<|by simp,(nK hF a b f _).2,lh];rfl
theorem Xk(h:Sound A)(hF:Flat A t ft)(i:fM A k t)(a:t.at A q=fh d)(b:kids A d=fh Y)(l:gU A t fs q){id:Int}(o:jp Y n=fh (.file id))(c):
  Flat A (vy A (λY=>zr Y n<|.held c) q t) { rp A fs ft (fx q) with od:=upd (rp A fs ft<|fx q).od q<|fh (zr (((rp A fs ft<|fx q).od q).getD []) n (1,0)),of:=upd (rp A fs ft<|fx q).of (q++[n]) (fh c) }:=by
 have W:=iq h hF i a b l;obtain⟨p,s,u,v⟩:=rS W;have f:t.at A (q++[n])=fh (.file id):=by rw[lx,a,wd,lh,b,wd,o,wd,oX]
 have z:¬(q++[n]) <+: q:=λg=>by have:=g.length_le;simp at this;omega
 refine AQ h (fs:=fs) hF i a b n (.held c) p (λx w=>?_) (λx w=>?_) (λr=>?_) λr=>?_;show upd _ _ _ x=_;by_cases y:x=q;subst y;rw[upd_same,lv fX,u,sA,lN a b];rfl
 grind [kh]
 grind [upd,kh,sM]
 show upd _ _ _ _=_;have j:q++n::r≠q:=λe=>by have:=congrArg List.length e;simp at this
 rw[kh j,v _ j,km (λg=>by have:=g.length_le;simp at this;omega),hF.od];rcases r with _|⟨m,r⟩
 rw[f,oX];rfl;rw[show q++n::m::r=(q++[n])++m::r by simp,pH f<|.inl fX,lh];rfl;show upd _ _ _ _=_;rcases r with _|⟨m,r⟩
 rw[upd_same,oX];rfl;rw[kh<|by simp,s,hF.of,show q++n::m::r=(q++[n])++m::r by simp,pH f<|.inl fX,lh];rfl
theorem NH(a:Sound A)(hF:Flat A t ft)(f:fM A k t)(b:t.at A q=fh d)(e:kids A d=fh Y)(j:gU A t fs q){c:LT}(g:jp Y n=fh c)(h:kids A c=fj\/kids A c=fh []):
  Flat A (vy A (λY=>ra Y n) q t) (AR (ou A fs ft q n)<|q++[n]):=by
 have W:=iq a hF f b e j;have l:=(lO a (tA a _ f b).2.1 e).1;have o:kB Y n=fm:=by rw[<-rh l,g];rfl
 obtain⟨p,s,u⟩:=zL W n;have i:t.at A (q++[n])=fh c:=by rw[lx,b,wd,lh,e,wd,g,wd,oX]
 refine Jk a (fs:=fs) hF f b e n o p (λx v=>?_) (λx v=>?_) (λr=>?_) λr=>?_;show upd _ _ _ x=_
 grind [kh,sM,lN]
 show upd _ _ _ x=_
 grind [kh,sM]
 show upd _ _ _ _=_;rcases r with _|⟨m,r⟩
 rw[upd_same];rw[kh<|by simp,s,km<|by simp,km (λw=>by have:=w.length_le;simp at this;omega),hF.od,show q++n::m::r=(q++[n])++m::r by simp,pH i h];rfl;show upd _ _ _ _=_;rcases r with _|⟨m,r⟩
 rw[upd_same];rw[kh<|by simp,u,hF.of,show q++n::m::r=(q++[n])++m::r by simp,pH i h];rfl
end
theorem Fm{t:LT}{a b:LT}{d g:Kids}(o:fO d)(c:t.at A R=fh a)(k:kids A a=fh d)(p:kB d nf=fm)(f:t.at A qt=fh b)(l:kids A b=fh g)(q:¬(R++[nf]) <+: qt):
  ∃d1 u,(vy A (λY=>ra Y nf) R t).at A qt=fh d1/\kids A d1=fh u/\∀id,d1=.dir id->b=.dir id:=by
 have⟨v,w⟩:=Cr A (λY=>ra Y nf) R t a d c k;by_cases h:R <+: qt;obtain⟨s,rfl⟩:=h;rcases s with _|⟨m,r⟩
 rw[lJ]at f |-;exact⟨_,_,w,fX,λid e=>by cases e⟩;have n:m≠nf:=λe=>q (by rw[e];exact⟨r,by simp⟩)
 rw[v,mg o p,km n];rw[lx,c,wd,lh,k,wd]at f;exact⟨b,g,f,l,λid e=>e⟩;by_cases i:qt <+: R;have⟨m,n,r,j⟩:=nk i λe=>h<|e▸sM _;have j:R=qt++m::r:=by rw[<-j];simp
 rw[j]at c |-;have⟨y,z,B,i,x⟩:=pG A (λY=>ra Y nf) qt m r t a c;exact⟨_,_,x,fX,λid e=>by cases e⟩;rw[mb A _ R qt t a c i h];exact⟨b,g,f,l,λid e=>e⟩
theorem NI{t:LT}{b:LT}{d}(k:fO d)(c:t.at A R=fh b)(j:kids A b=fh d)(l:kB d nf=fm){x}{id:Int}(a:(vy A (λY=>ra Y nf) R t).at A x=fh (.dir id)):t.at A x=fh (.dir id):=by
 have⟨n,o⟩:=Cr A (λY=>ra Y nf) R t b d c j;by_cases f:R <+: x;obtain⟨s,rfl⟩:=f;rcases s with _|⟨m,r⟩
 rw[lJ,o]at a;cases a;rw[n,mg k l]at a;by_cases g:m=nf;rw[lv g]at a;cases a;rw[km g]at a;rw[lx,c,wd,lh,j,wd];exact a;by_cases h:x <+: R;have⟨m,g,r,i⟩:=nk h λe=>f<|e▸sM _;have i:R=x++m::r:=by rw[<-i];simp
 rw[i]at c a;have⟨q,u,v,h,p⟩:=pG A (λY=>ra Y nf) x m r t b c;rw[p]at a;cases a;rwa [mb A _ R x t b c h f]at a
theorem AU(a:Sound A){t}(b:fM A k t){d:LT}{Y:Kids}(c:t.at A q=fh d)(e:kids A d=fh Y)(n):fM A k (vy A (λY=>ra Y n) q t):=by
 have⟨f,g,h⟩:=lO a (tA a _ b c).2.1 e;refine RY a _ q b c e (zJ ?_ ?_ λx i=>h x<|Jl i);exact List.Pairwise.sublist (List.eraseIdx_sublist _ _) f;exact wy (List.length_eraseIdx_le _ _) g
def tan (ft:FT)(p:fT):FT:=⟨ft.root,λx=>if p <+: x then fj else ft.od x,λx=>if p <+: x then fj else ft.of x⟩
theorem Es(ft)(p x):(tan ft p).od x=if p <+: x then fj else ft.od x:=fX
theorem Ln(ft)(p x):(tan ft p).of x=if p <+: x then fj else ft.of x:=fX
theorem NJ{t}{ft}{fs}(d:Sound A)(hF:Flat A t ft)(i:fM A k t){s u c:LT}{l F:Kids}
  (f:t.at A R=fh s)(g:kids A s=fh l)(v:jp l nf=fh c)(G:t.at A qt=fh u)(H:kids A u=fh F)(I:gU A t fs R)(hwt:gU A t fs qt)
  (w:¬(R++[nf]) <+: (qt++[h]))(U:¬(qt++[h]) <+: (R++[nf])):
  ∃d1 m,(vy A (λY=>ra Y nf) R t).at A qt=fh d1/\kids A d1=fh m/\
   Flat A (vy A (λY=>zr Y h c) qt<|vy A (λY=>ra Y nf) R t) (szr (qx A fs (ou A fs ft R nf) qt h (c.kind,c.id)) (R++[nf])<|qt++[h])/\jm A fs (ou A fs ft R nf) (oM A<|vy A (λY=>ra Y nf) R t) qt:=by
 have n:=(lO d (tA d _ i f).2.1 g).1;have o:kB l nf=fm:=by rw[<-rh n,v];rfl
 have j:¬(R++[nf]) <+: qt:=λb=>w<|b.trans (qz _ _);have y:=AU d i f g nf;have⟨d1,m,p,q,V⟩:=Fm n f g o G H j;have J:=iq d hF i f g I;have⟨t1,t2,t3⟩:=zL J nf;have z:∀r,t.at A (R++nf::r)=c.at A r:=λr=>by rw[lx,f,wd,lh,g,wd,v,wd]
 -- the maps without what hangs below 'from'
 have B:Flat A (vy A (λY=>ra Y nf) R t) (tan (ou A fs ft R nf)<|R++[nf]):=by
  refine Jk d (fs:=fs) hF i f g nf o t1 (λx a=>?_) (λx a=>?_) (λr=>?_) λr=>?_
  grind [Es,lN]
  grind [Ln]
  rw[Es,lv ⟨r,by simp⟩];rw[Ln,lv ⟨r,by simp⟩]
 have K:gU A (vy A (λY=>ra Y nf) R t) fs qt:=λx id a b=>hwt x id a<|NI n f g o b;have L:=iq d B y p q K;have uq:∀x,x <+: qt->¬(R++[nf]) <+: x:=λx a b=>j<|b.trans a;have C:jm A fs (ou A fs ft R nf) (oM A<|vy A (λY=>ra Y nf) R t) qt:=L.congr fX (λx a=>by rw[Es,km<|uq x a]);have⟨M,N,O,W,X⟩:=ye C h (c.kind,c.id);refine⟨d1,m,p,q,?_,C⟩;have D:∀r,(R++nf::r)≠qt++[h]:=λr e=>w (by rw[<-e];exact⟨r,by simp⟩);have P:∀r,(R++nf::r)≠qt:=λr e=>j (by grind);have Q:∀r,¬(R++nf::r) <+: qt:=λr b=>j (List.IsPrefix.trans ⟨r,by simp⟩ b);have hsf:∀r,(R++nf::r)≠R:=λr e=>by have:=congrArg List.length e;simp at this
 have S:∀r,¬(R++nf::r) <+: R:=λr b=>by have:=b.length_le;simp at this;omega
 have E:∀r,(qt++h::r).drop (fv<|qt++[h])=r:=λr=>by rw[show qt++h::r=(qt++[h])++r by simp,yT]
 refine AQ d (fs:=fs) B y p q h c M (λx a=>?_) (λx a=>?_) (λr=>?_) λr=>?_;have T:x≠qt++[h]:=λe=>a<|e▸sM _;show Lq _ _ _ x=_
 grind [Lq,Es,lN]
 have T:x≠qt++[h]:=λe=>a<|e▸sM _;show Lq _ _ _ x=_
 grind [Lq,Ln]
 show Lq _ _ _ _=_;unfold Lq;rw[lv ⟨r,by simp⟩,E,show(R++[nf])++r=R++nf::r by simp,N _<|D r,km<|P r,km<|Q r,t2,km<|hsf r,km<|S r,hF.od,z];show Lq _ _ _ _=_;unfold Lq;rw[lv ⟨r,by simp⟩,E,show(R++[nf])++r=R++nf::r by simp,O _<|D r,t3,hF.of,z]
def kQ (A:List Ob):Nat->LT->Int
 |_,.file id=>gu A id
 |_,.held _=>0
 |_,.dir id=>gu A id
 |0,.own _=>0
 |n+1,.own es=>es.foldl (λa x=>max a<|1+kQ A n x.2) 0
theorem gV{α:Type}(b:α->Int):∀(l:List α)(a m:Int),l.foldl (λc x=>max c<|1+b x) a<=m↔a<=m/\∀x∈l,1+b x<=m
 |[],a,m=>by simp
 |y::r,a,m=>by
  rw[Hy,gV b r]
  grind
theorem eta(b:Sound A):∀(n:Nat){c:LT}{m:Nat},fM A n c->kQ A n c<=m->fM A m c
 |n,.file id,m,a,_=>by
  grind [fK,fM]
 |n,.held f,m,_,_=>by cases m<;>simp[fM]
 |n,.dir id,m,a,d=>by
  grind [fK,fM,gu,kQ]
 |0,.own es,m,a,_=>by
  rw[fM]at a
  subst a
  exact zJ List.Pairwise.nil (by simp)<|by simp
 |n+1,.own es,m,a,d=>by
  rw[fM]at a
  rw[kQ,gV]at d
  refine zJ a.1 a.2.1 λx e=>?_
  have o:=d.2 x e
  have⟨g,h⟩:=a.2.2 x e
  have p:0<=kQ A n x.2:=by
   cases n with
   |zero=>cases j:x.2<;>simp[kQ]<;>exact b.1 _
   |succ k=>
    cases j:x.2 with
    |file i=>simp[kQ];exact b.1 _
    |held f=>simp[kQ]
    |dir i=>simp[kQ];exact b.1 _
    |own l=>
     rw[kQ];exact((gV (λx=>kQ A k x.2) l 0 _).1<|wC _).1
  refine⟨g,m-1,by omega,eta b n h<|by omega⟩
theorem nl{id:Int}(b:fK a id≠0):1<=id/\(id-1).toNat<fv a:=by
 unfold fK at b;by_cases c:1<=id;rw[lv c]at b;refine⟨c,?_⟩;by_cases d:(id-1).toNat<fv a;exact d;rw[wm<|by omega]at b;exact absurd fX b;omega
theorem jT(l:List Ob){id:Int}(b:fK a id≠0):fK (a++l) id=fK a id:=by
 have⟨c,d⟩:=nl b
 grind [fK,wk]
theorem nr(l:List Ob){id:Int}(b:fK a id≠0):gu (a++l) id=gu a id:=by
 have⟨c,d⟩:=nl b
 grind [gu,wk]
theorem pI(l:List Ob){id:Int}(b:fK a id≠0):fQ (a++l) id=fQ a id:=by
 have⟨c,d⟩:=nl b
 grind [fQ,wk]
theorem sX(l:List Ob){id:Int}(b:fK a id≠0):bytesOf (a++l) id=bytesOf a id:=by
 have⟨c,d⟩:=nl b
 grind [bytesOf,wk]
theorem Lp(a:List Ob)(o:Ob):fK (a++[o]) ((fv a:Int)+1)=o.kind/\gu (a++[o]) ((fv a:Int)+1)=o.high/\fQ (a++[o]) ((fv a:Int)+1)=o.gh/\bytesOf (a++[o]) ((fv a:Int)+1)=o.data:=by
 grind [Int,fK,gu,fQ,bytesOf]
theorem Xl{id:Int}(b:fK (a++[o]) id≠0):fK a id≠0\/id=(fv a:Int)+1\/((id-1).toNat<fv a/\fK a id=0/\1<=id):=by
 have⟨c,d⟩:=nl b
 grind
structure Exact (a:List Ob):Prop where
 sound:Sound a
 kinds:∀o∈a,o.kind=1\/o.kind=2
 low:∀id,fK a id=1->gu a id=0
 high:∀id,fK a id=2->gu a id=gy a (fQ a id)
theorem Fo(d:∀o∈a,o.kind=1\/o.kind=2){id:Int}(b:1<=id)(c:(id-1).toNat<fv a):fK a id=1\/fK a id=2:=by
 unfold fK;rw[lv b,jH c]
 grind
structure yZ (a:List Ob)(o:Ob):Prop where
 or:(o.kind=1/\o.high=0/\o.data.size<=256/\fileAt a o.data=none)\/
  (o.kind=2/\o.high=gy a o.gh/\gy a o.gh<=5/\fO o.gh/\o.gh.length<=16/\(∀e∈o.gh,fN e.1=true/\(e.2.1=1\/e.2.1=2)/\fK a e.2.2=e.2.1)/\gI a o.gh=none)
theorem Jm(l:List Ob)(d:∀e∈es,fK a e.2.2≠0):gy (a++l) es=gy a es:=by
 unfold gy;have key:∀(c:List fV)(b:Int),(∀e∈c,fK a e.2.2≠0)->c.foldl (λd e=>max d<|1+gu (a++l) e.2.2) b=c.foldl (λd e=>max d<|1+gu a e.2.2) b:=by
  intro c
  induction c with
  |nil=>intro b _;rfl
  |cons x r f=>
   grind [nr]
 grind
theorem ur{m:Int}:gy a es<=m↔0<=m/\∀e∈es,1+gu a e.2.2<=m:=gV (λe:fV=>gu a e.2.2) es 0 m
def Lr(a)(es:List fV):0<=gy a es:=(ur.1<|wC _).1
def ne0{k:Int}(a:k=1\/k=2):k≠0:=by omega
theorem Exact.snoc(c:Exact a)(d:yZ a o):Exact (a++[o]):=by
 obtain⟨i,j,m,y⟩:=Lp a o;have l:∀id,fK (a++[o]) id≠0->fK a id≠0\/id=(fv a:Int)+1:=by
  intro id hid;rcases Xl hid with b|b|⟨b,g,r⟩
  exact .inl b;exact .inr b;rcases Fo c.kinds r b with k|k<;>(rw[k]at g;cases g)
 have s:∀id,fK a id=2->∀e∈fQ a id,fK a e.2.2≠0:=by
  intro id hid e h;obtain⟨_,z,t,_⟩:=(c.sound.2 id hid).2.2 e h
  all_goals omega
 have n:o.kind=2->∀e∈o.gh,fK a e.2.2≠0:=by
  intro t e h;rcases d.or with⟨k,_⟩|⟨_,_,_,_,_,q,_⟩
  all_goals grind
 refine⟨⟨?_,?_⟩,?_,?_,?_⟩
 ·intro id
  unfold gu;by_cases b:(id-1).toNat<fv a;rw[wk b];exact c.sound.1 id;by_cases g:(id-1).toNat=fv a
  ·rw[g]
   simp only[BU<|lw _,EK,rrs,oV,sA];rcases d.or with⟨_,k,_⟩|⟨_,k,_⟩
   ·all_goals omega
   rw[k];exact Lr _ _
  rw[wm (by simp;omega)];exact wC _
 ·intro id hid
  rcases l id (by omega)with b|b
  ·rw[jT _ b]at hid
   obtain⟨A,B,C⟩:=c.sound.2 id hid
   all_goals grind [pI,fK,jT,nr]
  subst b;rw[i]at hid;rw[m,j];rcases d.or with⟨k,_⟩|⟨_,u,D,v,w,E,_⟩
  ·all_goals omega
  refine⟨v,w,λe h=>?_⟩;have p:=n hid e h;rw[jT _ p,nr _ p,u]
  all_goals grind [ur,gy]
 ·intro x f
  rcases qw.1 f with f|f
  exact c.kinds x f;rw[oa.1 f];rcases d.or with⟨k,_⟩|⟨k,_⟩
  all_goals omega
 ·intro id hid
  rcases l id (by omega)with b|b
  rw[jT _ b]at hid;rw[nr _ b];exact c.low id hid;subst b;rw[i]at hid;rw[j];rcases d.or with⟨_,k,_⟩|⟨k,_⟩
  all_goals omega
 intro id hid;rcases l id (by omega)with b|b
 rw[jT _ b]at hid;rw[nr _ b,pI _ b,Jm _<|s id hid];exact c.high id hid;subst b;rw[i]at hid;rw[j,m,Jm _<|n hid];rcases d.or with⟨k,_⟩|⟨_,k,_⟩
 all_goals omega
inductive gL (a:List Ob):List Ob->Prop
 |nil:gL a a
 |snoc {b:List Ob} {o:Ob}:gL a b->yZ b o->gL a (b++[o])
theorem gL.trans{a b c}(d:gL a b)(k:gL b c):gL a c:=by
 induction k with
 |nil=>exact d
 |snoc _ e f=>exact .snoc f e
theorem gL.app{a b}(c:gL a b):∃l,b=a++l:=by
 induction c with
 |nil=>exact⟨[],by simp⟩
 |snoc _ _ d=>obtain⟨l,rfl⟩:=d;exact⟨_,sL _ _ _⟩
theorem gL.exact{a b}(c:gL a b)(d:Exact a):Exact b:=by
 induction c with
 |nil=>exact d
 |snoc _ e f=>exact f.snoc e
def Ls (es:List fV)(a:Int):Ob:={ kind:=2,data:=ByteArray.empty,ea:=fj,el:=0,ec:=0,gh:=es,high:=a }
def ki (a:List Ob)(d:fP):Int×List Ob:=match fileAt a d with
 |some i=>((i:Int)+1,a)
 |none=>((fv a:Int)+1,a++[xr d])
def kG (a:List Ob)(es:List fV):Int×List Ob:=match gI a es with
 |some i=>((i:Int)+1,a)
 |none=>((fv a:Int)+1,a++[Ls es<|gy a es])
theorem Sa(b:fileAt a d=fh i):∃U:i<fv a,a[i].kind=1/\a[i].data=d:=by
 grind [fileAt,yQ]
theorem Jn(b:gI a es=fh i):∃U:i<fv a,a[i].kind=2/\a[i].gh=es:=by
 grind [gI,yQ]
theorem AV(h:Exact a)(c:d.size<=256):gL a (ki a d).2/\fK (ki a d).2 (ki a d).1=1/\bytesOf (ki a d).2 (ki a d).1=d/\(ki a d).2.length<=fv a+1:=by
 unfold ki;cases b:fileAt a d with
 |some i=>
  have⟨U,e,j⟩:=Sa b;refine⟨.nil,by show fK a ((i:Int)+1)=1;rw[xa U,e],?_,by show fv a<=fv a+1;omega⟩
  grind [bytesOf,Int,jH]
 |none=>
  have⟨f,k,l,g⟩:=Lp a<|xr d;exact⟨.snoc .nil ⟨.inl ⟨fX,fX,c,b⟩⟩,f,g,by simp⟩
theorem Et(f:Exact a)(g:gy a es<=5)(h:fO es)(j:fv es<=16)(k:∀e∈es,fN e.1=fm/\(e.2.1=1\/e.2.1=2)/\fK a e.2.2=e.2.1):
  gL a (kG a es).2/\fK (kG a es).2 (kG a es).1=2/\fQ (kG a es).2 (kG a es).1=es/\gu (kG a es).2 (kG a es).1=gy a es/\(kG a es).2.length<=fv a+1:=by
 unfold kG;cases b:gI a es with
 |some i=>
  have⟨U,l,p⟩:=Jn b;have c:fK a ((i:Int)+1)=2:=by rw[xa U,l]
  have d:fQ a ((i:Int)+1)=es:=by
   grind [fQ,Int,jH]
  refine⟨.nil,c,d,?_,by show fv a<=fv a+1;omega⟩;rw[f.high _ c,d]
 |none=>
  have⟨m,n,o,q⟩:=Lp a<|Ls es (gy a es);exact⟨.snoc .nil ⟨.inr ⟨fX,fX,g,h,j,k,b⟩⟩,m,o,n,by simp⟩
def kK (x:Option (Int×fP))(a:List Ob):Int×List Ob:=match x with
 |none=>ki a ⟨#[]⟩
 |some (id,d)=>if id≠0 then(id,a)else ki a d
def mn (fl:Nat->Option (Int×fP)):Nat->LT->List Ob->Int×List Ob
 |_,.file id,a=>(id,a)
 |_,.dir id,a=>(id,a)
 |_,.held b,a=>kK (fl b) a
 |0,.own _,a=>kG a []
 |n+1,.own es,a=>
  let r:=es.foldl (λ(q:List fV×List Ob)x=>(q.1++[(x.1,x.2.kind,(mn fl n x.2 q.2).1)],(mn fl n x.2 q.2).2)) ([],a)
  kG r.2 r.1
def lj (fl:Nat->Option (Int×fP))(n:Nat)(es:Kids)(a:List Ob):List fV×List Ob:=
 es.foldl (λ(q:List fV×List Ob)x=>(q.1++[(x.1,x.2.kind,(mn fl n x.2 q.2).1)],(mn fl n x.2 q.2).2)) ([],a)
def uu(b)(n:Nat)(es:Kids)(a:List Ob):mn b (n+1) (.own es) a=kG (lj b n es a).2 (lj b n es a).1:=by rw[mn];rfl
theorem kR(fl)(n)(es:Kids)(x:fP×LT)(a:List Ob):lj fl n (es++[x]) a=((lj fl n es a).1++[(x.1,x.2.kind,(mn fl n x.2 (lj fl n es a).2).1)],(mn fl n x.2 (lj fl n es a).2).2):=by
 grind [lj]
theorem jo(l:List Ob):∀(n:Nat)(t:LT),fM a n t->fM (a++l) n t
 |n,.file id,b=>by
  grind [fM,jT,decide]
 |n,.held d,b=>by rw[fM];trivial
 |n,.dir id,b=>by
  grind [fM,fK,decide,jT,nr]
 |0,.own es,b=>by rw[fM]at b |-;exact b
 |n+1,.own es,b=>by
  rw[fM]at b |-
  exact⟨b.1,b.2.1,λx c=>⟨(b.2.2 x c).1,jo l n x.2 (b.2.2 x c).2⟩⟩
def nY (a:List Ob)(fl:Nat->Option (Int×fP)):Prop:=∀b id d,fl b=fh (id,d)->(id≠0->fK a id=1)/\(id=0->d.size<=256)
theorem nY.app{fl}(b:nY a fl)(l:List Ob):nY (a++l) fl:=λc id d e=>⟨λg=>by
 have f:=(b c id d e).1 g
 rw[jT l (by rw[f];decide)];exact f,(b c id d e).2⟩
def je:Nat->LT->Nat
 |_,.file _=>0
 |_,.dir _=>0
 |_,.held _=>1
 |0,.own _=>1
 |n+1,.own es=>1+(es.map λx=>je n x.2).sum
def mh(t:LT):t.kind=1\/t.kind=2:=by cases t<;>simp[LT.kind]
structure Jo (a:List Ob)(n k:Nat)(c:LT)(r:Int×List Ob):Prop where
 dr:gL a r.2
 kind:fK r.2 r.1=c.kind
 high:gu r.2 r.1<=n
 len:r.2.length<=a.length+k
def AW{a b}(c:gL a b)(d:Exact a){id:Int}(e:fK b id=1)(n:Nat):gu b id<=n:=by
 rw[(c.exact d).low id e];omega
theorem rT(fl:Nat->Option (Int×fP))(n)(p:∀(c:LT)(a:List Ob),Exact a->fM a n c->nY a fl->Jo a n (je n c) c (mn fl n c a)):∀(es:Kids)(a:List Ob),Exact a->nY a fl->(∀x∈es,fN x.1=fm/\fM a n x.2)->
  gL a (lj fl n es a).2/\(lj fl n es a).1.map (·.1)=es.map (·.1)/\(∀e∈(lj fl n es a).1,fN e.1=fm/\(e.2.1=1\/e.2.1=2)/\fK (lj fl n es a).2 e.2.2=e.2.1/\gu (lj fl n es a).2 e.2.2<=n)/\(lj fl n es a).2.length<=fv a+(es.map λx=>je n x.2).sum:=by
 intro es;have q:∀l:Kids,∀a,Exact a->nY a fl->(∀x∈fx l,fN x.1=fm/\fM a n x.2)->
  gL a (lj fl n (fx l) a).2/\(lj fl n (fx l) a).1.map (·.1)=(fx l).map (·.1)/\(∀e∈(lj fl n (fx l) a).1,fN e.1=fm/\(e.2.1=1\/e.2.1=2)/\fK (lj fl n (fx l) a).2 e.2.2=e.2.1/\gu (lj fl n (fx l) a).2 e.2.2<=n)/\(lj fl n (fx l) a).2.length<=fv a+((fx l).map λx=>je n x.2).sum:=by
  intro l
  induction l with
  |nil=>intro a _ _ _;exact⟨.nil,fX,(λe f=>by cases f),lw _⟩
  |cons x r s=>
   intro a f i g;rw[kz]at g |-;have⟨h,t,u,E⟩:=s a f i λy v=>g y (by simp[v]);rw[kR];have⟨w,z⟩:=h.app;have⟨A,F⟩:=g x (by simp);have b:=p x.2 (lj fl n (fx r) a).2 (h.exact f) (by grind [jo]) (by rw[z];exact i.app w);have⟨j,B⟩:=b.dr.app;refine⟨h.trans b.dr,by rw[nh,t,nh];rfl,λe d=>?_,?_⟩;rcases qw.1 d with d|d
   have⟨C,k,m,D⟩:=u e d;have o:fK (lj fl n (fx r) a).2 e.2.2≠0:=by rw[m];exact ne0 k
   rw[B,jT j o,nr j o];exact⟨C,k,m,D⟩;rw[oa.1 d];exact⟨A,mh x.2,b.kind,b.high⟩
   have:=b.len
   rw[nh,List.sum_append];simp only[lM,Cf,ctz,List.sum_nil,Ee];omega
 have:=q<|fx es
 grind
theorem vB{α β:Type}:∀{es:List (fP×α)}{fs:List (fP×β)},es.map (·.1)=fs.map (·.1)->fO fs->fO es:=by
 intro es fs a b;have c:(fs.map (·.1)).Pairwise (λx y=>jb x y<0):=by rw[wz];exact b
 rwa [<-a,wz]at c
theorem kT(fl:Nat->Option (Int×fP)):∀(n:Nat),n<=5->∀(c:LT)(a:List Ob),Exact a->fM a n c->nY a fl->Jo a n (je n c) c (mn fl n c a):=by
 have s:∀(n:Nat)(id:Int)(a:List Ob),Exact a->fM a n (.file id)->Jo a n (je n<|.file id) (.file id) (id,a):=by
  intro n id a b j;rw[fM]at j;exact⟨.nil,j,AW .nil b j n,cop _ _⟩
 have t:∀(n:Nat)(id:Int)(a:List Ob),fM a n (.dir id)->Jo a n (je n<|.dir id) (.dir id) (id,a):=by
  intro n id a j;rw[fM]at j;exact⟨.nil,j.1,j.2,cop _ _⟩
 have u:∀(n:Nat)(f:Nat)(a:List Ob),Exact a->nY a fl->Jo a n 1 (.held f) (kK (fl f) a):=by
  intro n f a b l;rcases y:fl f with _|x
  have⟨g,h,q,k⟩:=AV b (d:=kq) (by decide);exact⟨g,h,AW g b h n,k⟩;have⟨id,d⟩:=x;have r:=l f id d y;by_cases m:id≠0;have e:kK (fh (id,d)) a=(id,a):=by simp[kK,m]
  rw[e];exact⟨.nil,r.1 m,AW .nil b (r.1 m) n,cop _ _⟩;have e:kK (fh (id,d)) a=ki a d:=by simp[kK,m]
  rw[e];have⟨g,h,q,k⟩:=AV b (d:=d)<|r.2 (oL.1 m);exact⟨g,h,AW g b h n,k⟩
 intro n
 induction n with
 |zero=>
  intro _ c a b i l;cases c with
  |file id=>exact s 0 id a b i
  |dir id=>exact t 0 id a i
  |held f=>exact u 0 f a b l
  |own es=>
   have e:mn fl 0 (.own es) a=kG a []:=by rw[mn]
   rw[e];have⟨g,h,q,k,v⟩:=Et b (es:=[]) (by show(0:Int)<=5;decide) List.Pairwise.nil (by simp) (λe b=>by cases b);exact⟨g,h,by rw[k];exact wC _,v⟩
 |succ n z=>
  intro C c a b i l;cases c with
  |file id=>exact s _ id a b i
  |dir id=>exact t _ id a i
  |held f=>exact u _ f a b l
  |own es=>
   rw[fM]at i;rw[uu];have⟨w,A,p,D⟩:=rT fl n (z<|by omega) es a b l i.2.2;have B:gy (lj fl n es a).2 (lj fl n es a).1<=((n+1:Nat):Int):=ur.2 ⟨by omega,λe o=>by have:=(p e o).2.2.2;omega⟩;have⟨g,h,q,k,v⟩:=Et (w.exact b) (es:=(lj fl n es a).1) (by omega) (vB A i.1) (by grind [List.length,oI]) λe o=>⟨(p e o).1,(p e o).2.1,(p e o).2.2.1⟩;refine⟨w.trans g,h,by rw[k];exact B,?_⟩
   grind [je]
def oY:b6:=⟨[],fo,λ_=>fm,λ_=>fm⟩
def Fair {β:Type}(fs a:b6)(x all fj:β):Prop:=(fs.Next a/\x=all)\/(fs.Co a/\x=fj)
theorem AX(id:Int):oY.gP id=(oY,fm):=fX
theorem rU(A)(c):ul A oY c=(oY,jB A c):=by
 cases c<;>rfl
theorem Cs(A)(fs)(c):Fair fs (ul A fs c).1 (ul A fs c).2 (ul A oY c).2 (14,[]):=by
 rw[rU];rcases wT A fs c with⟨a,b⟩|⟨a,b⟩
 exact .inl ⟨a,b⟩;exact .inr ⟨a,b⟩
theorem mJ(A)(t)(r):ky A t oY r=(oY,pd A t r):=by
 induction r with
 |nil=>rfl
 |cons n r a=>
  grind [ky,pd,rU,jB,jp]
theorem mK(A)(t)(r):pw A t oY r=(oY,jl A t r):=by
 grind [pw,jl,mJ,rU,pd]
theorem Ct(A)(t)(fs)(r):Fair fs (ky A t fs r).1 (ky A t fs r).2 (ky A t oY r).2 (14,.dir 0):=by
 rw[mJ];rcases wU A t fs r with⟨a,b,_⟩|⟨a,b⟩
 exact .inl ⟨a,b⟩;exact .inr ⟨a,b⟩
theorem yf(A)(t)(fs)(r):Fair fs (pw A t fs r).1 (pw A t fs r).2 (pw A t oY r).2 (14,[]):=by
 rw[mK];rcases NA A t fs r with⟨a,b,_⟩|⟨a,b⟩
 exact .inl ⟨a,b⟩;exact .inr ⟨a,b⟩
def Hn (A:List Ob)(a:Nat->Option (Int×fP))(fs:b6)(b:Nat):b6×Int×fP:=
 match a b with
 |none=>(fs,0,⟨#[]⟩)
 |some (id,d)=>if id=0 then(fs,0,d)else if(fs.gP id).2 then((fs.gP id).1,0,bytesOf A id) else((fs.gP id).1,14,⟨#[]⟩)
def iZ (A:List Ob)(a:Nat->Option (Int×fP))(fs:b6):LT->b6×Int×Int
 |.file id=>if(fs.gP id).2 then((fs.gP id).1,0,((bytesOf A id).size:Int)) else((fs.gP id).1,14,0)
 |.held b=>((Hn A a fs b).1,(Hn A a fs b).2.1,((Hn A a fs b).2.2.size:Int))
 |c=>((ul A fs c).1,(ul A fs c).2.1,((ul A fs c).2.2.length:Int))
def lQ (A:List Ob)(c:Nat->Option (Int×fP))(t:LT)(fs:b6)(r:fT):b6×Int×Int×Int:=
 let a:=ky A t fs r
 if a.2.1≠0 then(a.1,a.2.1,0,0) else
 let b:=iZ A c a.1 a.2.2
 if b.2.1≠0 then(b.1,b.2.1,0,0) else(b.1,0,a.2.2.kind,b.2.2)
def jE (A:List Ob)(t:LT)(fs:b6):fT->b6×Int×LT
 |[]=>(fs,6,t)
 |n::r=>
  let a:=pw A t fs r
  if a.2.1≠0 then(a.1,a.2.1,t) else
  if(jp a.2.2 n).isSome then(a.1,6,t) else
  if 16<=fv a.2.2 then(a.1,11,t) else(a.1,0,vy A (λY=>zr Y n<|.own []) (fx r) t)
def yr (A:List Ob)(fs:b6)(c:LT):b6×Int:=
 if c.kind=1 then(fs,0) else
 let k:=ul A fs c
 if k.2.1=0/\0<fv k.2.2 then(k.1,8) else(k.1,k.2.1)
def QQ (A:List Ob)(t:LT)(fs:b6):fT->b6×Int×LT
 |[]=>(fs,9,t)
 |n::r=>
  let a:=ky A t fs (n::r)
  if a.2.1≠0 then(a.1,a.2.1,t) else
  let b:=yr A a.1 a.2.2
  if b.2≠0 then(b.1,b.2,t) else(b.1,0,vy A (λY=>ra Y n) (fx r) t)
def lD (A:List Ob)(fs:b6)(e c:LT):b6×Int:=
 if e.kind=2/\c.kind=1 then(fs,7) else
 if e.kind=1/\c.kind=2 then(fs,5)else yr A fs e
def mA (A:List Ob)(fs:b6)(same:Bool)(Y:Kids)(n:fP)(c:LT):b6×Int:=
 match jp Y n with
 |some e=>lD A fs e c
 |none=>if 16<=fv Y/\same=fo then(fs,11) else(fs,0)
def NE (A:List Ob)(t:LT)(fs:b6):fT->fT->b6×Int×LT
 |nf::d,h::c=>
  let a:=ky A t fs (nf::d)
  if a.2.1≠0 then(a.1,a.2.1,t) else
  if(nf::d).reverse <+: fx (h::c)/\nf::d≠h::c then(a.1,9,t) else
  let b:=pw A t a.1 c
  if b.2.1≠0\/nf::d=h::c then(b.1,b.2.1,t) else
  let e:=mA A b.1 (decide (d=c)) b.2.2 h a.2.2
  if e.2≠0 then(e.1,e.2,t) else
  if 5<((fv c+1:Nat):Int)+kQ A 5 a.2.2 then(e.1,11,t) else
  (e.1,0,vy A (λY=>zr Y h a.2.2) (fx c)<|vy A (λY=>ra Y nf) (fx d) t)
 |_,_=>(fs,9,t)
theorem Fair.bind{β i:Type}{fs d e}{x a n:β}{y b m:i}(j:Fair fs d x a n)(good:fs.Next d->x=a->Fair d e y b m)(l:fs.Co d->x=n->e=d/\y=m):Fair fs e y b m:=by
 rcases j with⟨c,f⟩|⟨c,f⟩
 rcases good c f with⟨g,h⟩|⟨g,h⟩
 exact .inl ⟨c.trans g,h⟩;exact .inr ⟨c.fail g,h⟩;obtain⟨rfl,k⟩:=l c f;exact .inr ⟨c,k⟩
theorem tR{β:Type}(fs)(x a:β):Fair fs fs x x a:=.inl ⟨b6.Next.refl _,fX⟩
theorem Sc(A)(t)(fs)(r):Fair fs (jE A t fs r).1 (jE A t fs r).2 (jE A t oY r).2 (14,t):=by
 rcases r with _|⟨n,r⟩
 exact tR _ _ _;unfold jE;rcases yf A t fs r with⟨c,a⟩|⟨c,a⟩
 ·have b:=congrArg Prod.fst a
  have d:=congrArg Prod.snd a;simp only[b,d];refine .inl ⟨?_,?_⟩
  all_goals grind
 have b:=congrArg Prod.fst a;simp only at b;simp only[b];exact .inr ⟨c,fX⟩
theorem Dh(A)(fs)(c):Fair fs (yr A fs c).1 (yr A fs c).2 (yr A oY c).2 14:=by
 unfold yr;by_cases a:c.kind=1
 grind [tR]
 rw[km a,km a];refine(Cs A fs c).bind (λd b=>?_) λe b=>?_
 all_goals grind [ul,oY,tR]
theorem NK(A)(t)(fs)(r):Fair fs (QQ A t fs r).1 (QQ A t fs r).2 (QQ A t oY r).2 (14,t):=by
 rcases r with _|⟨n,r⟩
 exact tR _ _ _;unfold QQ;refine(Ct A t fs (n::r)).bind (λb a=>?_) λd a=>?_
 ·simp only[a]
  by_cases e:(ky A t oY (n::r)).2.1≠0
  ·all_goals grind [tR]
  simp only[km e];have f:(ky A t oY (n::r)).1=oY:=by rw[mJ]
  rw[f];generalize (ky A t oY (n::r)).2.2=c;refine(Dh A _ c).bind (λb a=>?_) λd a=>?_
  all_goals grind [yr,oY,tR]
 all_goals grind
theorem Xm(A)(fs)(b:Bool)(Y)(n)(c):Fair fs (mA A fs b Y n c).1 (mA A fs b Y n c).2 (mA A oY b Y n c).2 14:=by
 grind [mA,jp,tR,lD,Dh]
theorem NL(A)(t)(fs)(b a):Fair fs (NE A t fs b a).1 (NE A t fs b a).2 (NE A t oY b a).2 (14,t):=by
 cases b with
 |nil=>cases a<;>exact tR _ _ _
 |cons nf b=>
  rcases a with _|⟨h,a⟩
  exact tR _ _ _;unfold NE;refine(Ct A t fs (nf::b)).bind (λf d=>?_) λg d=>?_
  ·simp only[d]
   by_cases j:(ky A t oY (nf::b)).2.1≠0
   ·all_goals grind [tR]
   simp only[km j];by_cases k:fx (nf::b) <+: fx (h::a)/\nf::b≠h::a
   ·all_goals grind [tR]
   simp only[km k];generalize (ky A t fs (nf::b)).1=i;have e:(ky A t oY (nf::b)).1=oY:=by rw[mJ]
   rw[e];generalize (ky A t oY (nf::b)).2.2=c;refine(yf A t i a).bind (λf d=>?_) λg d=>?_
   ·simp only[d]
    by_cases l:(pw A t oY a).2.1≠0\/nf::b=h::a
    ·all_goals grind [tR]
    simp only[km l];have e:(pw A t oY a).1=oY:=by rw[mK]
    rw[e];generalize (pw A t oY a).2.2=Y;generalize (pw A t i a).1=m;refine(Xm A m (decide (b=a)) Y h c).bind (λf d=>?_) λg d=>?_
    all_goals grind [mA,oY,decide,tR,Nat,Int,kQ]
   all_goals grind
  all_goals grind
theorem Jp(fs)(id:Int):Fair fs (fs.gP id).1 (fs.gP id).2 fm fo:=by
 rcases fs.De id with⟨a,b,_⟩|⟨a,b⟩
 exact .inl ⟨b,a⟩;exact .inr ⟨b,a⟩
theorem Fp(A)(a)(fs)(b):Fair fs (Hn A a fs b).1 (Hn A a fs b).2 (Hn A a oY b).2 (14,kq):=by
 unfold Hn;rcases a b with _|x
 exact tR _ _ _;obtain⟨id,d⟩:=x;simp only;by_cases c:id=0
 ·all_goals grind [tR]
 rw[km c,km c,AX];refine(Jp fs id).bind (λf e=>?_) λg e=>?_
 all_goals grind [tR,decide]
theorem Xn(A)(b)(fs)(c):Fair fs (iZ A b fs c).1 (iZ A b fs c).2 (iZ A b oY c).2 (14,0):=by
 cases c with
 |file id=>
  simp only[iZ,AX];refine(Jp fs id).bind (λd a=>?_) λe a=>?_
  all_goals grind [tR,decide]
 |held f=>
  simp only[iZ];refine(Fp A b fs f).bind (λd a=>?_) λe a=>?_
  grind [tR]
  simp only[a];exact⟨trivial,fX⟩
 |dir id=>
  simp only[iZ];refine(Cs A fs<|.dir id).bind (λd a=>?_) λe a=>?_
  all_goals grind [tR]
 |own es=>
  simp only[iZ];refine(Cs A fs<|.own es).bind (λd a=>?_) λe a=>?_
  all_goals grind [tR]
theorem Xo(A)(a)(t)(fs)(r):Fair fs (lQ A a t fs r).1 (lQ A a t fs r).2 (lQ A a t oY r).2 (14,0,0):=by
 unfold lQ;refine(Ct A t fs r).bind (λd b=>?_) λe b=>?_
 ·simp only[b]
  by_cases f:(ky A t oY r).2.1≠0
  grind [tR]
  simp only[km f];have g:(ky A t oY r).1=oY:=by rw[mJ]
  rw[g];generalize (ky A t oY r).2.2=c;refine(Xn A a _ c).bind (λd b=>?_) λe b=>?_
  all_goals grind [iZ,oY,tR]
 all_goals grind
section
variable {fc:jJ}{t d:LT}{Y:Kids}
theorem Cu(a:t.at A q=fh d)(r:fT):xc A fc t (q++r)=xc A fc d r:=by
 grind [xc,lx]
theorem mX(a:t.at A q=fh d)(b:kids A d=fh Y)(m:fP)(r:fT):xc A fc t (q++m::r)=(jp Y m).bind λc=>xc A fc c r:=by
 rw[Cu a,ui,b,wd]
theorem Eu(h:fO Y)(a:t.at A q=fh d)(b:kids A d=fh Y)(c):
  (∀r,xc A fc (vy A (λY=>zr Y n c) q t) (q++n::r)=xc A fc c r)/\∀x,¬(q++[n]) <+: x->xc A fc (vy A (λY=>zr Y n c) q t) x=xc A fc t x:=by
 have⟨i,j⟩:=Lm A fc (λY=>zr Y n c) q t d Y a b;refine⟨λr=>?_,λx f=>?_⟩
 grind [xb]
 by_cases g:∃m r,x=q++m::r;obtain⟨m,r,rfl⟩:=g;have k:m≠n:=λe=>f (by rw[e];exact⟨r,by simp⟩)
 grind [xb,mX]
 grind
theorem NM(g:fO Y)(h:kB Y n=fm)(a:t.at A q=fh d)(b:kids A d=fh Y):
  (∀r,xc A fc (vy A (λY=>ra Y n) q t) (q++n::r)=fj)/\∀x,¬(q++[n]) <+: x->xc A fc (vy A (λY=>ra Y n) q t) x=xc A fc t x:=by
 have⟨i,j⟩:=Lm A fc (λY=>ra Y n) q t d Y a b;refine⟨λr=>?_,λx c=>?_⟩
 grind [mg]
 by_cases f:∃m r,x=q++m::r;obtain⟨m,r,rfl⟩:=f;have k:m≠n:=λe=>c (by rw[e];exact⟨r,by simp⟩)
 grind [mg,mX]
 grind
end
theorem Sd{fc}(b:Sound A){t}(i:fM A k t){j l c:LT}{f s:Kids}
  (d:t.at A R=fh j)(e:kids A j=fh f)(u:jp f nf=fh c)(v:t.at A qt=fh l)(w:kids A l=fh s)(y:¬(R++[nf]) <+: (qt++[h]))(x):
  xc A fc (vy A (λY=>zr Y h c) qt<|vy A (λY=>ra Y nf) R t) x =
   if(qt++[h]) <+: x then xc A fc t ((R++[nf])++x.drop (fv<|qt++[h]))else if(R++[nf]) <+: x then fj else xc A fc t x:=by
 have g:=(lO b (tA b _ i d).2.1 e).1;have m:kB f nf=fm:=by rw[<-rh g,u];rfl
 have z:¬(R++[nf]) <+: qt:=λa=>y<|a.trans (qz _ _);have⟨d1,D,o,p,_⟩:=Fm g d e m v w z;have B:=(lO b (tA b _ (AU b i d e nf) o).2.1 p).1;have⟨E,C⟩:=Eu (fc:=fc) (n:=h) B o p c;have⟨F,G⟩:=NM (fc:=fc) g m d e;by_cases a:(qt++[h]) <+: x;rw[lv a];obtain⟨r,rfl⟩:=a
 grind [yT,mX]
 rw[km a,C x a];by_cases q:(R++[nf]) <+: x;rw[lv q];obtain⟨r,rfl⟩:=q
 grind
 grind
theorem AY(A)(fc)(t):∀r:fT,
  ((pd A t r).1=0/\t.at A (fx r)=fh (pd A t r).2)\/((pd A t r).1≠0/\xc A fc t (fx r)=fj/\((pd A t r).1=4\/(pd A t r).1=5))
 |[]=>.inl ⟨fX,oX _ _⟩
 |n::r=>by
  by_cases a:(pd A t (n::r)).1=0
  grind [Fi]
  refine .inr ⟨a,?_,?_⟩
  grind [xc,Fi]
  rcases AY A fc t r with⟨d,e⟩|⟨d,_⟩
  rw[pd]at a |-
  simp only at a |-
  rw[km<|by omega]at a |-
  cases b:(pd A t r).2 with
  |file i=>rw[b]at a;simp[jB]
  |held f=>rw[b]at a;simp[jB]
  |own es=>simp only[b,jB]at a |-;cases c:jp es n<;>simp[c]at a |-
  |dir id=>simp only[b,jB]at a |-;cases c:jp ((fQ A id).map wl) n<;>simp[c]at a |-
  grind [pd]
structure mL (a:List Ob):Prop where
 file:∀i (h:i<a.length),a[i].kind=1->fileAt a a[i].data=some i
 dir:∀i (h:i<a.length),a[i].kind=2->gI a a[i].gh=some i
theorem mL.snoc(e:mL a)(f:yZ a o):mL (a++[o]):=by
 refine⟨λi U b=>?_,λi U b=>?_⟩
 ·rw[qb]
  by_cases c:i<fv a;rw[KN c]at b |-;rw[e.file i c b];rfl;have d:i=fv a:=by simp at U;omega
  subst d;simp only[rls]at b |-;rcases f.or with⟨_,_,_,h⟩|⟨g,_⟩
  all_goals grind
 rw[rM];by_cases c:i<fv a;rw[KN c]at b |-;rw[e.dir i c b];rfl;have d:i=fv a:=by simp at U;omega
 subst d;simp only[rls]at b |-;rcases f.or with⟨g,_⟩|⟨_,_⟩
 all_goals grind
theorem gL.once{a b}(c:gL a b)(d:mL a):mL b:=by
 induction c with
 |nil=>exact d
 |snoc _ e f=>exact f.snoc e
theorem mL.Xp(d:mL a){id:Int}(b:fK a id=1):fileAt a (bytesOf a id)=fh (id-1).toNat/\(((id-1).toNat:Nat):Int)+1=id:=by
 obtain⟨e,c⟩:=nl (by rw[b];decide);unfold fK at b;rw[lv e,jH c]at b;refine⟨?_,by omega⟩;unfold bytesOf;rw[jH c];exact d.file _ c b
theorem mL.aae(d:mL a){id:Int}(b:fK a id=2):gI a (fQ a id)=fh (id-1).toNat/\(((id-1).toNat:Nat):Int)+1=id:=by
 obtain⟨e,c⟩:=nl (by rw[b];decide);unfold fK at b;rw[lv e,jH c]at b;refine⟨?_,by omega⟩;unfold fQ;rw[jH c];exact d.dir _ c b
theorem mL.uv(b:mL a){id:Int}(c:fK a id=1):ki a (bytesOf a id)=(id,a):=by
 have⟨d,e⟩:=b.Xp c
 grind [ki]
theorem mL.yg(b:mL a){id:Int}(c:fK a id=2):kG a (fQ a id)=(id,a):=by
 have⟨d,e⟩:=b.aae c
 grind [kG]
theorem mL.NN(c:mL a){i b:Int}(U:fK a i=1)(d:fK a b=1)(e:bytesOf a i=bytesOf a b):i=b:=by
 have f:=c.uv U;have g:=c.uv d
 grind
theorem mL.Vq(c:mL a){i b:Int}(U:fK a i=2)(d:fK a b=2)(e:fQ a i=fQ a b):i=b:=by
 have f:=c.yg U;have g:=c.yg d
 grind
theorem exp:∀{b a:Kids},fO b->fO a->(∀n,(jp b n).isSome=(jp a n).isSome)->b.map (·.1)=a.map (·.1):=by
 have h:∀(l:Kids)(n:fP),(jp l n).isSome=fm↔n∈l.map (·.1):=by
  grind [jp,Option.isSome_map,List.find?_isSome,qu]
 have key:∀(b a:fT),b.Pairwise (λx y=>jb x y<0)->a.Pairwise (λx y=>jb x y<0)->(∀n,n∈b↔n∈a)->b=a:=by
  intro b
  induction b with
  |nil=>
   intro a _ _ c;rcases a with _|⟨y,r⟩
   rfl;exact absurd ((c y).2<|by simp)<|by simp
  |cons x b i=>
   intro a d f c;rcases a with _|⟨y,a⟩
   exact absurd ((c x).1<|by simp) (by simp);obtain⟨j,k⟩:=sB.1 d;obtain⟨m,o⟩:=sB.1 f;have p:x=y:=by
    rcases mB.1 ((c x).1<|by simp)with e|e
    exact e;rcases mB.1 ((c y).2<|by simp)with g|g
    all_goals grind [pE,jc]
   all_goals grind [jc]
 intro b a d f c;refine key _ _ (by rw[wz];exact d) (by rw[wz];exact f) λn=>?_
 grind
theorem yh{Y}(a:fO Y)(b:k<fv Y):jp Y (Y[k]).1=fh (Y[k]).2:=by
 rcases d:jp Y (Y[k]).1 with _|c
 ·all_goals grind [jp,bwd,hEq,kN]
 rw[nJ a d (kN b) fX]
structure PTp where
 t:kI
 p:Nat
 base:List Ob
def iL (ft:PTp)(F:Nat->Prop)(w:fq)(s:Nat)(A:List Ob):Prop:=gQ ft.t F w s ft.p A/\ft.base <+: A/\Exact A/\mL A
section
variable {ft:PTp}
def iL.inv(a:iL ft F w s A):Inv ft.t F w s A:=a.1.inv
def iL.keep(a:iL ft F w s A)(hF:∀k,F k->F' k)(b:∀k,F k->H.heap[k]?=w.heap[k]?):iL ft F' H s A:=⟨a.1.keep (λk _=>b k) λk _=>hF k,a.2⟩
def iL.below(a:iL ft F w s A)(b:ju w H)(hF:∀k,k<w.heap.size->F k->F' k):iL ft F' H s A:=⟨a.1.below b hF,a.2⟩
theorem NP{e}(a:lz A Z d e):Z=A\/∃o,yZ A o/\Z=A++[o]:=by
 rcases a with⟨_,a,_⟩|⟨_,a,_⟩|⟨_,_,_,a,_⟩|⟨b,c,_,a,_⟩
 exact .inl a;exact .inl a;exact .inl a;exact .inr ⟨xr d,⟨.inl ⟨fX,fX,b,c⟩⟩,a⟩
theorem Sg{e}(h:Exact A)(a:jw A Z es e):Z=A\/∃o,yZ A o/\Z=A++[o]:=by
 rcases a with⟨_,a,_⟩|⟨i,⟨_,a,_⟩|⟨_,_,a,_⟩|⟨_,_,_,a,_⟩|⟨_,j,k,t,d,l,_,⟨_,a,_⟩|⟨_,a,_⟩|⟨_,_,_,a,_⟩|⟨m,n,_,⟨o,p,b,q,a⟩,_⟩⟩⟩
 exact .inl a;exact .inl a;exact .inl a;exact .inl a;exact .inl a;exact .inl a;exact .inl a;refine .inr ⟨o,⟨.inr ⟨p,by rw[b];exact q,by rw[b];exact m,by rw[b];exact l,by rw[b,d.length_eq];exact j,λe f=>?_,by rw[b];exact n⟩⟩,a⟩;rw[b]at f;have g:=d.mem_iff.1 f;have c:=k e g;unfold EQ at c;simp only[EH,Bool.not_eq_true',EE,beq_iff_eq]at c;refine⟨i e g,?_,c.2⟩;have⟨r,s⟩:=nl c.1
 have:=Fo h.kinds r s
 omega
theorem iL.put(f:iL ft F w s A)(b:gQ ft.t F' H s ft.p Z)(a:Z=A\/∃o,yZ A o/\Z=A++[o]):iL ft F' H s Z:=by
 have⟨_,c,d,e⟩:=f;rcases a with rfl|⟨o,a,rfl⟩
 exact⟨b,c,d,e⟩;exact⟨b,c.trans<|qz _ _,d.snoc a,e.snoc a⟩
theorem Ic(a:iL ft F w s A)(d:fP)(c:d.size<=maxLen):
  ik 35 #[ie s,hh d] w λe H=>∃Z,lz A Z d e/\iL ft (kA F w H) H s Z/\fH F w H:=
 (HV a.1 d c).mono λe H⟨Z,b,f,g⟩=>⟨Z,b,a.put f<|NP b,g⟩
theorem Lt(a:iL ft F w s A)(b off m c0:Nat)(es:List fV)
  (g:fv es=m)(h:b<w.heap.size)(i:m*32<=140737488355328)(j:∀c d,(flat es)[c]?=fh d->w.c b (off+c)=fh d)(k:∀e∈es,e.1.size<=maxLen):
  ik 26 #[ie s,my b off m c0] w λe H=>∃Z,jw A Z es e/\iL ft (kA F w H) H s Z/\fH F w H:=
 (Lb a.1 b off m c0 es g h i j k).mono λe H⟨Z,f,l,n⟩=>⟨Z,f,a.put l<|Sg a.2.2.1 f,n⟩
def za(a:iL ft F w s A)(id:Int):
  ik 40 #[ie s,fY id] w λe H=>Vk A id e/\ju w H:=Le a.inv id
def AZ(a:iL ft F w s A)(id:Int):
  ik 43 #[ie s,fY id] w λe H=>RP w H A id e/\ju w H:=Nv a.inv id
def zb(a:iL ft F w s A):
  ik 45 #[ie s] w (PP (fY (fv A:Int)) w):=Lf a.inv
end
def Fq(id:Int):fK [] id=0:=iE (by simp;omega)
theorem Xq:Exact []:=⟨⟨λid=>by unfold gu;simp,λid a=>by rw[Fq]at a;cases a⟩,λo b=>(by cases b),λid a=>(by rw[Fq]at a;cases a),λid a=>(by rw[Fq]at a;cases a)⟩
theorem exs:mL []:=⟨λi a=>(by cases a),λi a=>(by cases a)⟩
