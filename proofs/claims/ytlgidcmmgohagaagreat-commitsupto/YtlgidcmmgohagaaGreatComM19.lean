/- A part of the proof. -/
import Derived.Test.YtlgidcmmgohagaaGreatComM18
set_option linter.all false
namespace Go.Proofs.YtlgidcmmgohagaaGreat
open Go.RowKit Go.Sort Go.Shelf Go.Proofs.Tryz
open Go.Value renaming slice->fy,string->fA,pointer->fB,tuple->fC,agg->fD,bool->fE
open Go.Ending renaming returned->fF
open Option renaming some->fh,none->fj
open Bool renaming true->fm,false->fo
open Go renaming World->fq,Value->fu
open List renaming length->fv,reverse->fx
open Go.RowKit renaming Hid->fe
set_option maxRecDepth 100000
set_option maxHeartbeats 0
variable {ft:kI}{s i p:Nat}{B:WB}{A:List Ob}
theorem TA{d}{a}{s p}{A}(g:gQ ft d a s p A){f}{b:List fV}(j:a.ownsRow 0 96 3 f (fv b) (flat b))(k:fv b<=16)(l:∀e∈b,e.1.size<=maxLen):
  ik 60 #[ie p,f] a λe H=>∃Z,jw A Z b e/\gQ ft (kA d a H) H s p Z/\fH d a H:=by
 have⟨m,h,n,o,q,r,i⟩:=g;rcases j.2 with⟨rfl,t⟩|⟨u,c,v,rfl,_⟩
 all_goals grind [DY,RO,Vj,gc,ks]
def BH{b}{c O d:fq}(f:c.heap.size<=O.heap.size)(k)(a:kA b O d k):kA b c d k:=by
 rcases a with a|⟨g,e⟩
 exact .inl a;exact .inr ⟨by omega,e⟩
def yC{c}{d O e}(a:ju d O)(b:fH c O e):fH c d e:=
 ⟨b.os.trans a.os,b.tape.trans a.tape,b.output.trans a.output,wy a.size b.size,λk f g=>(b.block k (np f a.size) g).trans<|a.block k f⟩
def gQ.wide{b c:Nat->Prop}{d}{s p}{A}(a:gQ ft b d s p A)(hF:∀k,b k->c k):gQ ft c d s p A:=a.keep (λ_ _ _=>rfl) λk _ a=>hF k a
theorem YS{b}{a}{s p}{A}(c:gQ ft b a s p A)(d:fP)(t:d.size<=256)(f:ig)(el g)(j:Int):
  ik 148 #[ie p,fD #[fY 1,hh d,fy f el g,fY j]] a λe H=>∃Z x y,lz A Z d (pD #[fY x,fY y])/\e=fF (fY y)/\gQ ft (kA b a H) H s p Z/\fH b a H:=by
 have l:ju a (a.k #[fY 1,hh d,fy f el g,fY j] 213):=(mi _ _).alloc (lw _) _;have U:gQ ft b (a.k #[fY 1,hh d,fy f el g,fY j] 213) s p A:=c.below l λk _ c=>c;have⟨u,h,v,w,z,B,i⟩:=U;have o:=Nu i d (by unfold maxLen;omega);have q:fe _:=l;clear c l i;go_enter func148,ntmps148;go_wp2_with fail;apply RK o;rintro e H ⟨Z,m,U,r⟩;obtain⟨x,y,rfl⟩:=m.shape;have n:fe _:=And.intro m<|And.intro U r;clear m U r o;go_wp2;go_ret;exact⟨Z,x,y,n.1,fX,n.2.1.wide λk=>BH q.size k,yC q n.2.2⟩
theorem hjp{b}{a}{s p}{A}(c:gQ ft b a s p A)(d)(f)(el g)(h:Int){es:List fV}(m:a.ownsRow 0 96 3 (fy f el g) (fv es) (flat es))(n:fv es<=16)(o:∀e∈es,e.1.size<=maxLen):
  ik 148 #[ie p,fD #[fY 2,hh d,fy f el g,fY h]] a λe H=>∃Z x y,jw A Z es (pD #[fY x,fY y])/\e=fF (fY y)/\gQ ft (kA b a H) H s p Z/\fH b a H:=by
 have i:ju a (a.k #[fY 2,hh d,fy f el g,fY h] 213):=(mi _ _).alloc (lw _) _;have U:gQ ft b (a.k #[fY 2,hh d,fy f el g,fY h] 213) s p A:=c.below i λk _ c=>c;have q:=TA U (m.alloc _) n o;have r:fe _:=i;clear c i U m o n;go_enter func148,ntmps148;go_wp2_with fail;apply RK q;rintro e H ⟨Z,j,U,t⟩;obtain⟨x,y,rfl⟩:=j.shape;have l:fe _:=And.intro j<|And.intro U t;clear j U t q;go_wp2;go_ret;exact⟨Z,x,y,l.1,fX,l.2.1.wide λk=>BH r.size k,yC r l.2.2⟩
theorem YT{f v}{b}{s p}{x g}(n:gQ ft f b s p x)(o:jg x g)(q:fv x<400){a m}(h:yZ g a)(r:uN m=uN a)(w:wD b v m):
  ik 148 #[ie p,fD #[fY m.kind,hh m.data,fy m.ea m.el m.ec,fY m.high]] b λe H=>e=fF (fY 0)/\∃c,(∃l,c=x++l)/\jg c (g++[a])/\gQ ft (kA f b H) H s p c/\fH f b H:=by
 simp only[uN,vo]at r;have⟨c1,c2,c3⟩:=r;rcases h.or with⟨d,_,z,_⟩|⟨d,_,_,G,A,B,_⟩
 rw[c1,d,c2];apply (YS n a.data z m.ea m.el m.ec m.high).mono;rintro e H ⟨c,i,y,j,rfl,U,C⟩;have⟨⟨D,k⟩,E,F⟩:=Gj o h d q j
 grind
 rcases w with⟨I,_⟩|⟨_,t,_,_,_,_,_,u⟩
 omega;rw[<-t,c3]at u;rw[c1,d,<-t,c3];refine(hjp n m.data m.ea (fv a.gh) m.ec m.high (es:=a.gh) u A (λe k=>by have:=(xp (B e k).1).2;unfold maxLen;omega)).mono ?_;rintro e H ⟨c,i,y,j,rfl,U,C⟩;have⟨⟨D,k⟩,E,F⟩:=Iw o h d q j
 grind
theorem TB{A}:∀{b:List Ob},gL A b->∀a,b=A++a->∀k(c:k<fv a),yZ (A++a.take k) a[k]:=by
 intro b d
 induction d with
 |nil=>
  all_goals simp_all
 |snoc f g h=>
  intro a e k c;obtain⟨l,rfl⟩:=f.app
  grind [Hu,sL,blt,KN,Ec,rls]
theorem hjq{b:fq}{f}{n h}{T}(k:b.ownsRow 0 213 4 (fy f n h) n (gD T))(l:fv T=n){i:Nat}(U:i<fv T):
  ∃a,f=fh (ii a 0)/\a<b.heap.size/\b.c a (i*4)=fh (.int .i64 T[i].kind)/\b.c a (i*4+1)=fh (fA T[i].data)/\
   b.c a (i*4+2)=fh (fy T[i].ea T[i].el T[i].ec)/\b.c a (i*4+3)=fh (.int .i64 T[i].high):=by
 have q:i<n:=by rw[<-l];exact U
 rcases k.2 with⟨_,r⟩|⟨a,R,s,m,_,g,_,_,t,o⟩
 omega;cases m;have d:∀c e,c<4->(T[i].cells)[c]?=fh e->b.c a (i*4+c)=fh e:=by
  intro c e p j;rw[<-sO T i c U p,<-o,MW<|by omega,Wt]at j;simp[World.cell?,g,j]
 exact⟨a,fX,(lW.1 g).1,d 0 _ (by omega) fX,d 1 _ (by omega) fX,d 2 _ (by omega) fX,d 3 _ (by omega) fX⟩
theorem fH.trans'{b}{c O e}(a:fH b c O)(k:fH (kA b c O) O e):fH b c e:=by
 refine⟨k.os.trans a.os,k.tape.trans a.tape,k.output.trans a.output,wy a.size k.size,λx f g=>?_⟩;rw[k.block x (np f a.size) λd=>?_,a.block x f g];rcases d with d|⟨d,_⟩
 all_goals grind
def TC{d}{a O b:fq}(g:a.heap.size<=O.heap.size)(h:O.heap.size<=b.heap.size)(k)(c:kA (kA d a O) O b k):kA d a b k:=by
 rcases c with(c|⟨e,f⟩)|⟨e,f⟩
 exact .inl c;exact .inr ⟨e,by omega⟩;exact .inr ⟨by omega,f⟩
def Pv{b}{c O}(a:fH b c O)(n):fH b c (O.drewN n):=⟨a.os,a.tape,a.output,a.size,a.block⟩
theorem wD.keeps{d a}{e O}{f}(b:wD e a f)(j:fH d e O)(l:∀k,a k->¬d k):wD O a f:=by
 rcases b with b|⟨m,n,o,p,q,r,g,h⟩
 exact .inl b;exact .inr ⟨m,n,o,p,q,r,g,gg h λc i=>j.block c (gc h i)<|l c (g c i)⟩
theorem lem{c w:Nat->Prop}{a}{s p}{b}{A C}(I:gQ ft c a s p A)(Q:∀k,c k->¬w k)(hDI:yX w a p b A C)(R:gL A C)(S:fv C<=400):
  ik 76 #[ie b.dr] a λe H=>e=fF (fY 0)/\∃g,(∃l,g=A++l)/\jg g C/\gQ ft (kA c a H) H s p g/\fH c a H:=by
 obtain⟨j,T,J,h,aU,aV,rfl,K,t⟩:=hDI;have V:=TB R j fX;have W:fv T=fv j:=by have:=congrArg List.length K;simpa using this
 have⟨L,X⟩:=ol<|fv A;have⟨m,M⟩:=ol<|fv T;have aW:L+m<=400:=by simp only[lI]at S;omega
 have⟨ak,c0,c1,c2,c3,f1⟩:=t.hd.c;rw[<-M]at c1;have al:∃y B,a.c p 0=fh (fy y L B):=by
  have⟨y,B,aX,aY,aZ,bb,i⟩:=I;exact⟨y,B,by rw[X];exact i.gR.at_.c0⟩
 have⟨y,B,am⟩:=al;have an:=λo q=>CK p L B y o q;have D:∀k,w k->¬c k:=λk r ao=>Q k ao r;have Y:fe (∀(k:Nat)(r:k<fv T)(wr o:fq)(x:List Ob),fH c a wr->ju wr o->gQ ft (kA c a wr) wr s p x->jg x (A++j.take k)->(∃l,x=A++l)->
   ik 148 #[ie p,fD #[.int .i64 T[k].kind,fA T[k].data,fy T[k].ea T[k].el T[k].ec,.int .i64 T[k].high]] o λe H=>e=fF (fY 0)/\fH c a H/\fe (∃g,gQ ft (kA c a H) H s p g/\jg g (A++j.take (k+1))/\∃l,g=A++l)):=by
  intro k r wr o x f u U Z ap;have v:k<fv j:=by omega
  have aq:uN T[k]=uN j[k]:=by
   have:=congrArg (λl=>l[k]?) K
   simpa only[hJ0,jH r,jH v,oV,pV]using this
  have ar:fv x<400:=by
   have:=Z.len
   simp only[lI,kV]at this;omega
  have au:wD wr w T[k]:=wD.keeps (t.zz _<|kN r) f D;have av:wD o w T[k]:=wD.mono au (λ_ _ q=>q) λbc n bd E=>gg E λd F=>u.block d<|gc E F;have aw:gQ ft (kA c a wr) o s p x:=U.below u λ_ _ q=>q;refine(YT aw Z ar (V k v) aq av).mono ?_;rintro e H ⟨ax,g,⟨ay,az⟩,be,aA,aa⟩;obtain⟨aB,rfl⟩:=ap;refine⟨ax,(fH.trans' f<|yC u aa),g,aA.wide λz aC=>TC f.size (wy u.size aa.size) z<|BH u.size z aC,?_,aB++ay,by rw[az,sL]⟩;rwa [vk v,<-sL]
 have ab:fe (∀(k:Nat)(r:k<fv T)(wr:fq),fH c a wr->∃d,J=fh (ii d 0)/\d<wr.heap.size/\wr.c d (k*4)=fh (.int .i64 T[k].kind)/\wr.c d (k*4+1)=fh (fA T[k].data)/\
   wr.c d (k*4+2)=fh (fy T[k].ea T[k].el T[k].ec)/\wr.c d (k*4+3)=fh (.int .i64 T[k].high)):=by
  intro k r wr f;have E:wr.ownsRow 0 213 4 (fy J (fv T) h) (fv T) (gD T):=gg t.row λd F=>f.block d (gc t.row F)<|D d (t.da d F);exact hjq E fX r
 have aD:fe (∀wr:fq,fH c a wr->b.dr<wr.heap.size/\wr.c b.dr 0=fh (ie p)):=by
  intro wr f;have aE:=f.block b.dr ak<|D _ t.dd;have ac:si wr p b J (fv T) h:=by
   have:=t.hd
   unfold si at this |-;rw[aE];exact this
  exact⟨ac.c.1,ac.c.2.1⟩
 have aF:fe (∀x:List Ob,jg x (A++j.take (fv T))->jg x (A++j)):=by
  intro x q;rwa [W,sH]at q
 have aG:fe (gQ ft c a s p A):=I;have ad:fe (m=fv T):=M;clear I t V D Q R S K W M f1 c2 c3 X;go_enter func76,ntmps76;go_wp2
 go_quiet (first|(go_at_call 86;exact Ca<|an _ am))
 go_wp2
 go_loopw [23] (λi wr=>∃k:Nat,k<=m/\i=.int .i64 k/\fH c a wr/\fe (∃x,gQ ft (kA c a wr) wr s p x/\jg x (A++j.take k)/\∃l,x=A++l)) (λi _=>m-(intOf i).toNat)
 case atStart=>exact⟨0,zt _,rfl,Pv (fH.fJ<|mi _ _) _,⟨A,aG.keep (λ_ _ _=>rfl) λ_ _ q=>.inl q,by simp[jg],[],by simp⟩⟩
 case round=>
  obtain⟨k,r,rfl,f,N⟩:=hrel;by_cases aH:k<m
  ·have v:k<fv T:=by rw[<-ad.o];exact aH
   obtain⟨d,rfl,bf,ae,af,ag,ah⟩:=ab k v wr f;have⟨hbr,bg⟩:=aD wr f;have G:=λo u=>N.elim λx P=>Y k v wr o x f u P.1 P.2.1 P.2.2
   change fe _ at G
   generalize T[k]=mk at ae af ag ah G;obtain⟨aI,aJ,aK,aL,aM,bh,aN⟩:=mk;simp only at ae af ag ah G;have ai:ju wr (wr.k #[fY aI,hh aJ,fy aK aL aM,fY aN] 213):=(mi _ _).alloc (lw _) _;have aO:fe _:=ai;clear ai N ab Y;go_wp2
   go_region_with(go_at_call 148;refine Calls.via (G _<|il aO) λO⟨aP,aQ⟩=>?_)
   all_goals
    go_wp2;go_roundw
    case rel=>exact⟨k+1,by omega,by go_num,aP,aQ⟩
    case measure=>simp[intOf];omega
  have aR:k=m:=by omega
  subst aR;go_wp2;go_ret;have⟨x,aS,aj,aT⟩:=N;rw[ad.o]at aj;exact⟨fX,x,aT,aF x aj,aS,f⟩
theorem jV.look_ok{a}{d n}{c:fT->Option fu}(f:jV a d n c){t e:lV}(g:prog.underlying t=fh (.map 147 e)){z:fu}(h:(zeroValue e).run prog a=.ok z a){b}(i:Good b):
  (Instr.lookup t (.map<|fh d) (fD<|jn b) fm).run prog a=.ok (fC #[(c b).getD z,fE (c b).isSome]) a:=by
 have⟨k,j,_⟩:=f
 have:=j.look_ok yV g h<|Bt i
 grind
structure sJ (D D':Nat->Prop)(w w':World):Prop where
 keeps:fH D w w'
 own:∀k,k<w.heap.size->D' k->D k
def sJ.trans{d e f}{w H g}(a:sJ d e w H)(k:sJ e f H g):sJ d f w g:=
 ⟨⟨k.keeps.os.trans a.keeps.os,k.keeps.tape.trans a.keeps.tape,k.keeps.output.trans a.keeps.output,wy a.keeps.size k.keeps.size,λx b h=>
  (k.keeps.block x (np b a.keeps.size) λc=>h<|a.own x b c).trans (a.keeps.block x b h)⟩,
  λx b c=>a.own x b<|k.own x (np b a.keeps.size) c⟩
theorem sJ.fJ{b}{c H}(a:ju c H):sJ b b c H:=⟨fH.fJ a,λ_ _ a=>a⟩
def sJ.via{a b}{w O H}(c:ju w O)(d:sJ a b O H):sJ a b w H:=(sJ.fJ c).trans d
theorem sJ.cell{b c}{w H}(d:sJ b c w H){k:Nat}(e:k<w.heap.size)(f:¬b k)(o):H.c k o=w.c k o:=wJ (a:=(ii k o))<|d.keeps.block k e f
def TD (a:Nat->Prop)(b:Nat)(k:Nat):Prop:=a k\/k=b
structure zn (w0:World)(p:Nat)(gM:List Ob)(D:Nat->Prop)(W:World)(b:DB)(ow:Nat)(a:List Ob)(f:fT->Option Int)(N:Nat):Prop where
 below:Below w0.heap.size w0 W
 Ka:∀k,TD D ow k->w0.heap.size<=k/\k<W.heap.size
 Pw:yX D W p b gM a
 nin:¬D ow
 map:∃n,n<=N/\jV W ow n (fun q=>(f q).map (Value.int .i64))
 few:a.length<=N
def zn.via{w0 W f}{g}{b}{ow}{a}{h}{i}(c:zn w0 p A g W b ow a h i)(d:ju W f):zn w0 p A g f b ow a h i:=by
 have⟨n,l,j⟩:=c.map;exact⟨gS c.below d,λk e=>⟨(c.Ka k e).1,np (c.Ka k e).2 d.size⟩,c.Pw.keep (λk e _=>d.block k e) λ_ _ c=>c,c.nin,⟨n,l,j.keep<|d.block ow j.lt⟩,c.few⟩
theorem zn.mono{w0 W}{d}{b}{ow}{a}{f}{e N':Nat}(c:zn w0 p A d W b ow a f e)(g:e<=N'):zn w0 p A d W b ow a f N':=by
 have⟨n,h,i⟩:=c.map;exact⟨c.below,c.Ka,c.Pw,c.nin,⟨n,wy h g,i⟩,wy c.few g⟩
def zn.Px{w0 g f}{h}{j}{i}{u l}{r}{s m:Nat}(a:zn w0 p A h g j i u r s)(d:yX (kA h g f) f p j A l)(b:fH h g f)(v:s<=m)(w:fv l<=m):zn w0 p A (kA h g f) f j i l r m/\sJ (TD h i) (TD (kA h g f) i) g f:=by
 have⟨n,o,x⟩:=a.map;have q:=a.Ka i<|.inr fX;refine⟨⟨⟨b.os.trans a.below.os,b.tape.trans a.below.tape,b.output.trans a.below.output,wy a.below.size b.size,λk c=>?_⟩,λk c=>?_,d,?_,⟨n,wy o v,x.keep<|b.block i q.2 a.nin⟩,w⟩,⟨b.os,b.tape,b.output,b.size,λk c o=>b.block k c λd=>o<|.inl d⟩,λk c d=>?_⟩;rw[b.block k (np c a.below.size) (λy=>by have:=(a.Ka k<|.inl y).1;omega),a.below.block k c];rcases c with(c|⟨t,z⟩)|rfl
 exact⟨(a.Ka k<|.inl c).1,np (a.Ka k<|.inl c).2 b.size⟩;omega;exact⟨q.1,np q.2 b.size⟩;rintro(d|⟨t,_⟩);exact a.nin d;omega;rcases d with(d|⟨t,_⟩)|e
 exact .inl d;omega;exact .inr e
theorem zn.note{w0 g}{h}{m}{c}{o}{q}{j}(a:zn w0 p A h g m c o q j)(z:j<10000000){i}(t:Good i)(x:Int):
  ∃d,(Instr.mapUpdate 153 (.map<|fh c) (fD<|jn i)<|fY x).run prog g=.ok () d/\zn w0 p A h d m c o (upd q i<|fh x) (j+1)/\sJ (TD h c) (TD h c) g d/\d.heap.size=g.heap.size:=by
 have⟨n,r,u⟩:=a.map;have B:=a.Ka c<|.inr fX;obtain⟨d,v,w,b,l⟩:=u.store t (by unfold maxLen;omega) stk<|fY x;refine⟨d,v,⟨⟨b.os.trans a.below.os,b.tape.trans a.below.tape,b.output.trans a.below.output,by rw[l];exact a.below.size,λk s=>?_⟩,λk f=>by rw[l];exact a.Ka k f,a.Pw.keep (λk f C=>?_) λ_ _ a=>a,a.nin,⟨n+1,by omega,?_⟩,by have:=a.few;omega⟩,⟨⟨b.os,b.tape,b.output,by omega,λk f r=>?_⟩,λ_ _ a=>a⟩,l⟩;rw[b.block k (np s a.below.size) (λe=>by have:=rF e;omega),a.below.block k s];exact b.block k f λe=>a.nin (by grind)
 ·refine w.congr (λy D=>?_)
  by_cases e:y=i
  all_goals grind [upd_same,kh]
 exact b.block k f λe=>r<|.inr (rF e)
def Dw(b)(id:Int)(a:fq)(c1:a.c b 1=fh (fY id)):
  ik 221 #[ie b] a (PP (fY id) a):=by
 go_enter func221,ntmps221;go_wp2;go_ret;exact⟨fX,fX⟩
def rj(w)(x y):ju w ((w.alloc x).alloc y)/\ju w ((w.alloc x).alloc y).drew:=by
 have a:=((mi w.heap.size w).alloc (lw _) x).alloc (by simp) y;exact⟨a,il a⟩
theorem LV(d k l m b:Nat)(g h i j Z)(id:Int)(a:fq)(w:d<a.heap.size)(o:b<a.heap.size)(x:a.c d 7=fh (.map<|fh k))(q:a.c b 1=fh (fY id))(hid:id≠0)
  (n:∀c,ju a c->(Instr.lookup 161 (.map<|fh k) (fD<|ml g h i j Z) fo).run prog c=.ok (ie b) c):
  ik 198 #[fD #[ie d,ie l,.map<|fh m],fD<|ml g h i j Z] a (ut (fY id) a):=by
 obtain⟨r,f⟩:=rj a (.cells #[ie d,ie l,.map<|fh m] 155)<|.cells (ml g h i j Z) 147;have y:=n _ f;have s:=λc t=>Dw b id c t;have u:=(f.cell (p:=(ii b 1)) o).trans q;have v:fe _:=f;clear n r f;go_enter func198,ntmps198;go_wp2
 go_region
 all_goals
  go_wp2_with(go_at_call 221;refine RK (s _ u) ?_;rintro e O ⟨rfl,rfl⟩);go_ret;exact⟨fX,v⟩
theorem YU(g m h n c:Nat)(i j k l Z d)(o:Int)(q:fq->Prop)(b:fq)(G:g<b.heap.size)(r:c<b.heap.size)(I:b.c g 7=fh (.map<|fh m))(v:b.c c 1=fh (fY 0))(w:b.c c 2=fh (hh d))
  (s:∀a,ju b a->(Instr.lookup 161 (.map<|fh m) (fD<|ml i j k l Z) fo).run prog a=.ok (ie c) a)
  (hF:∀a,ju b a->ik 222 #[ie h,hh d] a λe H=>e=fF (fY o)/\q H):
  ik 198 #[fD #[ie g,ie h,.map<|fh n],fD<|ml i j k l Z] b λe H=>e=fF (fY o)/\q H:=by
 obtain⟨x,f⟩:=rj b (.cells #[ie g,ie h,.map<|fh n] 155)<|.cells (ml i j k l Z) 147;have J:=s _ f;have y:=λa z=>Dw c 0 a z;have A:=λa B C=>JC c d a B C;have t:=(f.cell (p:=(ii c 1)) r).trans v;have D:=(f.cell (p:=(ii c 2)) r).trans w;have u:=hF _ f;have E:fe _:=u;clear s x f hF u;go_enter func198,ntmps198;go_wp2
 go_region
 all_goals
  go_wp2_with(first
   |(go_at_call 221;refine Calls.still (y _ t) ?_)
   |(go_at_call 181;refine RK (A _ t D) ?_;rintro e O ⟨rfl,rfl⟩)
   |(go_at_call 222;refine Calls.via E.o λK F=>?_))
  go_ret;exact⟨fX,F⟩
def xJ(c d e:Nat)(f g h i Z j)(k id:Int)(a:fq)(hid:id≠0):
  ik 74 #[fD #[ie c,ie d,.map<|fh e],fD<|ml f g h i Z,fD #[hh j,fY k,fY id]] a (ut (fY id) a):=by
 have b:∀x y z:Obj,ju a (((a.alloc x).alloc y).alloc z):=λx y z=>(((mi a.heap.size a).alloc (lw _) x).alloc (by simp) y).alloc (by simp;omega) z
 change fe _ at b
 go_enter func74,ntmps74;go_wp2;go_ret;exact⟨fX,b _ _ _⟩
def jN (a:fq)(b c d:Nat)(e f g h Z i:fP)(k id:Int):fq:=((a.alloc<|.cells #[fB<|fh ⟨b,0,fj⟩,fB<|fh ⟨c,0,fj⟩,.map<|fh d] 155).alloc<|.cells #[fA e,fA f,fA g,fA h,fA Z] 147).alloc<|.cells #[fA i,.int .i64 k,.int .i64 id] 96
def oC(a)(b c d)(e f g h Z i)(k id:Int):ju a (jN a b c d e f g h Z i k id):=(((mi a.heap.size a).alloc (lw _) _).alloc (by simp) _).alloc (by simp;omega) _
def lf{w:fq}{b:Nat}{c:Array fu}{t}{z}(d:w.heap[b]?=fh (.cells c t z))(a):w.c b a=c[a]?:=by simp[World.cell?,d]
theorem xK(a:fq)(x y z):(((a.alloc x).alloc y).alloc z).heap[a.heap.size]?=fh x/\(((a.alloc x).alloc y).alloc z).heap[a.heap.size+1]?=fh y:=by
 grind [RowKit.Below.heap_alloc,Rq,Ru]
def Gk(a)(g h b)(c d e f Z i)(k id:Int):(jN a g h b c d e f Z i k id).c a.heap.size 2=fh (.map<|fh b)/\(jN a g h b c d e f Z i k id).c (a.heap.size+1) 0=fh (hh c)/\(jN a g h b c d e f Z i k id).c (a.heap.size+1) 1=fh (hh d)/\(jN a g h b c d e f Z i k id).c (a.heap.size+1) 2=fh (hh e)/\(jN a g h b c d e f Z i k id).c (a.heap.size+1) 3=fh (hh f)/\(jN a g h b c d e f Z i k id).c (a.heap.size+1) 4=fh (hh Z):=by
 have⟨l,j⟩:=xK a (.cells #[ie g,ie h,.map<|fh b] 155) (.cells (ml c d e f Z) 147)<|.cells #[hh i,fY k,fY id] 96;exact⟨lf l 2,lf j 0,lf j 1,lf j 2,lf j 3,lf j 4⟩
theorem Py(i j b)(c d f g Z m)(k q:Int)(n t:fq->Prop)(a)
  (u:∀r,ju a r->(Instr.lookup 153 (.map<|fh b) (fD<|ml c d f g Z) fm).run prog r=.ok (fC #[fY 0,fE fo]) r)
  (v:ik 147 #[fD #[ie i,ie j,.map<|fh b],fD<|ml c d f g Z,fY k] (jN a i j b c d f g Z m k 0) λe H=>e=fF (fY q)/\n H)
  (w:∀H,n H->∀o x,a.heap.size<=o->o<a.heap.size+3->H.c o x=(jN a i j b c d f g Z m k 0).c o x)
  (y:∀H,n H->a.heap.size+3<=H.heap.size)
  (z:∀H,n H->∃A,(Instr.mapUpdate 153 (.map<|fh b) (fD<|ml c d f g Z)<|fY q).run prog H=.ok () A/\t A):
  ik 74 #[fD #[ie i,ie j,.map<|fh b],fD<|ml c d f g Z,fD #[hh m,fY k,fY 0]] a λe H=>e=fF (fY q)/\t H:=by
 have M:=u _<|oC a i j b c d f g Z m k 0;have s:fe _:=v;have B:fe _:=w;have C:fe _:=y;have D:fe _:=z;clear u v w y z;have⟨E,F,G,I,J,K⟩:=Gk a i j b c d f g Z m k 0;have l:fe _:=And.intro E<|And.intro F (And.intro G<|And.intro I (And.intro J K));clear E F G I J K;unfold jN at M s;go_enter func74,ntmps74;go_wp2_with fail;refine Calls.via s.o λO p=>?_;have h:=B O p;have V:=C.o O p;obtain⟨W,X,L⟩:=D O p;have N:=h a.heap.size 2 (lw _) (by omega);have P:=h (a.heap.size+1) 0 (by omega) (by omega);have Q:=h (a.heap.size+1) 1 (by omega) (by omega);have R:=h (a.heap.size+1) 2 (by omega) (by omega);have S:=h (a.heap.size+1) 3 (by omega) (by omega);have T:=h (a.heap.size+1) 4 (by omega) (by omega);rw[l.o.1]at N;rw[l.o.2.1]at P;rw[l.o.2.2.1]at Q;rw[l.o.2.2.2.1]at R;rw[l.o.2.2.2.2.1]at S;rw[l.o.2.2.2.2.2]at T;have Y:a.heap.size+1<O.heap.size:=by omega
 have U:fe _:=L;clear h p L s B D C;go_wp2;go_ret;exact⟨fX,U⟩
theorem TE(a b c:Nat)(d f g h Z)(j:Int)(k:fq->Prop)(i)
  (l:∀m,ju i m->ik 198 #[fD #[ie a,ie b,.map<|fh c],fD<|ml d f g h Z] m λe H=>e=fF (fY j)/\k H):
  ik 147 #[fD #[ie a,ie b,.map<|fh c],fD<|ml d f g h Z,fY 1] i λe H=>e=fF (fY j)/\k H:=by
 have⟨n,_⟩:=rj i (.cells #[ie a,ie b,.map<|fh c] 155)<|.cells (ml d f g h Z) 147;have o:=l _ n;have p:fe _:=o;clear l o n;go_enter func147,ntmps147;go_wp2_with(go_at_call 198;refine Calls.via p.o λO q=>?_);go_ret;exact⟨fX,q⟩
structure vO (D:Nat->Prop)(n:Nat)(W W':World):Prop where
 os:W'.os=W.os
 tape:W'.tape=W.tape
 output:W'.output=W.output
 size:W.heap.size<=W'.heap.size
 block:∀x,x<W.heap.size->(x<n\/D x)->W'.heap[x]?=W.heap[x]?
theorem vO.fJ{d}{n}{b c}(a:ju b c):vO d n b c:=⟨a.os,a.tape,a.output,a.size,λx e _=>a.block x e⟩
def YV (a b c:Nat):Obj:=.cells #[fB<|fh ⟨a,0,fj⟩,fB<|fh ⟨b,0,fj⟩,.map<|fh c] 155
def YW (a b c d Z:fP):Obj:=.cells #[fA a,fA b,fA c,fA d,fA Z] 147
def Gl{a:fq}{b d e f:Nat}(c:a.heap[b]?=fh (YV d e f)):b<a.heap.size/\a.c b 0=fh (ie d)/\a.c b 1=fh (ie e)/\a.c b 2=fh (.map<|fh f):=⟨(lW.1 c).1,lf c 0,lf c 1,lf c 2⟩
def TF{a:fq}{b:Nat}{d e f g Z}(c:a.heap[b]?=fh (YW d e f g Z)):b<a.heap.size/\a.c b 0=fh (hh d)/\a.c b 1=fh (hh e)/\a.c b 2=fh (hh f)/\a.c b 3=fh (hh g)/\a.c b 4=fh (hh Z):=⟨(lW.1 c).1,lf c 0,lf c 1,lf c 2,lf c 3,lf c 4⟩
structure sj (S:Nat->(Nat->Prop)->World->Prop)(n:Nat)(bo bp:Obj)(gE cE len:Nat)(E:Nat->List fV)(k:Nat)(D:Nat->Prop)(W:World):Prop where
 st:S k D W
 b0:W.heap[n]?=some bo
 b1:W.heap[n+1]?=some bp
 row:W.ownsRow 0 96 3 (.slice (some ⟨gE,0,none⟩) len cE) len (flat (E k))
 o:¬D n/\¬D (n+1)/\¬D gE
 ge:n+2<=gE
def sj.below{d:Nat->(Nat->Prop)->fq->Prop}{n}{f g}{h i len}{j:Nat->List fV}{k}{b}{W c}(a:sj d n f g h i len j k b W)(l:∀k b W c,d k b W->vO b n W c->d k b c)(e:ju W c):sj d n f g h i len j k b c:=
 ⟨l _ _ _ _ a.st<|.fJ e,(e.block n (lW.1 a.b0).1).trans a.b0,(e.block _ (lW.1 a.b1).1).trans a.b1,gg a.row λm o=>e.block m<|gc a.row o,a.o,a.ge⟩
theorem sj.turn{i:Nat->(Nat->Prop)->fq->Prop}{n}{s t}{b m len}{d:Nat->List fV}{k}{g o}{h c}(a:sj i n s t b m len d k g h)(C:∀k g h c,i k g h->vO g n h c->i k g c)(f:sJ g o h c)(D:i (k+1) o c)(G:k<len)(H:fv (d k)=len){id:Int}(u:d (k+1)=(d k).set k (((d k)[k]?).getD default |>.1,((d k)[k]?).getD default |>.2.1,id)):
  b<c.heap.size/\(∃x,c.c b (k*3+2)=fh x)/\c.frozen? (ii b<|k*3+2)=fo/\∀v,sj i n s t b m len d (k+1) o ((c.setCell (ii b<|k*3+2)<|fY id).drewN v):=by
 have w:=(lW.1 a.b0).1;have y:=(lW.1 a.b1).1;have l:b<h.heap.size:=gc a.row fX;have p:c.ownsRow 0 96 3 (my b 0 len m) len (flat<|d k):=gg a.row (λz A=>by
  obtain rfl:b=z:=by simpa [Value.ownBlock]using A
  exact f.keeps.block b l a.o.2.2)
 have q:k<fv (d k):=by omega
 have r:=(p.stored (k*3+2)<|fY id).1;rw[JM q]at r;rw[jH q,sA]at u;rw[<-u]at r;have E:c.c b (k*3+2)=fh (fY ((d k)[k]).2.2):=by
  have:=ks p (k*3+2) (fY ((d k)[k]).2.2) (by rw[iK _ _ _ q<|by decide];rfl)
  grind
 have I:=a.ge;refine⟨np l f.keeps.size,⟨_,E⟩,CZ p _,λv=>⟨?_,?_,?_,?_,⟨λj=>a.o.1<|f.own _ w j,λj=>a.o.2.1<|f.own _ y j,λj=>a.o.2.2<|f.own _ l j⟩,a.ge⟩⟩
 ·refine C _ _ _ _ D ⟨fX,fX,fX,?_,λx J F=>?_⟩
  ·all_goals simp_all
  show(c.setCell _ _).heap[x]?=_;refine vh _ _ _ _ (show x≠b from λe=>?_);rcases F with B|B
  omega;exact a.o.2.2<|f.own _ l (e▸B)
 show(c.setCell _ _).heap[n]?=_;rw[vh _ _ _ _ (show n≠b by omega),f.keeps.block n w a.o.1];exact a.b0;show(c.setCell _ _).heap[n+1]?=_;rw[vh _ _ _ _ (show n+1≠b by omega),f.keeps.block _ y a.o.2.1];exact a.b1;exact gg r λz A=>rfl
def sr (n m:Nat)(b c d:Nat)(e f g h Z i:fP)(j k:Int)(a:fq):Prop:=
 a.cell? ⟨n,0,fj⟩=fh (fB<|fh ⟨b,0,fj⟩)/\a.cell? ⟨n,1,fj⟩=fh (fB<|fh ⟨c,0,fj⟩)/\a.cell? ⟨n,2,fj⟩=fh (.map<|fh d)/\
 a.cell? ⟨n+1,0,fj⟩=fh (fA e)/\a.cell? ⟨n+1,1,fj⟩=fh (fA f)/\a.cell? ⟨n+1,2,fj⟩=fh (fA g)/\a.cell? ⟨n+1,3,fj⟩=fh (fA h)/\a.cell? ⟨n+1,4,fj⟩=fh (fA Z)/\
 a.cell? ⟨m,0,fj⟩=fh (fA i)/\a.cell? ⟨m,1,fj⟩=fh (.int .i64 j)/\a.cell? ⟨m,2,fj⟩=fh (.int .i64 k)
theorem sr.keep{n m d e f}{g h i j Z k}{l o:Int}{b c:fq}(p:sr n m d e f g h i j Z k l o b)(q:∀a,c.c n a=b.c n a)(r:∀a,c.c (n+1) a=b.c (n+1) a)(s:∀a,c.c m a=b.c m a):sr n m d e f g h i j Z k l o c:=by
 unfold sr at p |-
 grind
def TG{e:Nat->(Nat->Prop)->fq->Prop}{n}{f g h}{i j l m Z}{a o len}{b:Nat->List fV}{k}{p}{c}(d:sj e n (YV f g h) (YW i j l m Z) a o len b k p c)(q:k<fv (b k)):
  a<c.heap.size/\c.c a (k*3)=fh (hh ((b k)[k]).1)/\c.c a (k*3+1)=fh (fY ((b k)[k]).2.1)/\c.c a (k*3+2)=fh (fY ((b k)[k]).2.2):=by
 have r:=ks d.row;obtain⟨c0,c1,c2⟩:=lr (off:=0) r q;rw[iO]at c0 c1 c2;exact⟨gc d.row fX,c0,c1,c2⟩
theorem YX(bt oD dr ow:Nat)(s0 s1 s2 s3 Z:ByteArray)(q:(List ByteArray))(v:Value)(es:List fV)(E:Nat->List fV)(r:Nat->Int)(rr:Int)(S:Nat->(Nat->Prop)->World->Prop)(R:World->Prop)(D0:Nat->Prop)(w:World)
  (hbt:bt<w.heap.size)(c8:w.cell? ⟨bt,8,none⟩=some (.map (some oD)))
  (hlk:∀W,Below w.heap.size w W->(Instr.lookup 162 (.map (some oD)) (.agg #[.string s0,.string s1,.string s2,.string s3,.string Z]) false).run Tryz.prog W=.ok v W)
  (hrow:w.ownsRow 0 96 3 v es.length (flat es))(h16:es.length<=16)(hE0:E 0=es)(hEl:∀k,k<=es.length->(E k).length=es.length)(hEk:∀k(hk:k<es.length),(E k)[k]? = some es[k])(hEs:∀k(hk:k<es.length),E (k+1)=(E k).set k ((es[k]).1,(es[k]).2.1,r k))
  (hch:∀(x:ByteArray)W,x ∈ es.map (·.1)->Calls Tryz.prog 196 #[.agg #[.string s0,.string s1,.string s2,.string s3,.string Z],.string x] W λe H=>e=.returned (.agg (jn (q ++ [x])))/\Below W.heap.size W H)
  (hS0:S 0 D0 w)(hD0:∀x,D0 x->x<w.heap.size)(ps2:∀k D W W',S k D W->vO D w.heap.size W W'->S k D W')(Rci:∀k D W,S k D W->∀x,D x->x<W.heap.size)
  (Rco:∀k(hk:k<es.length)D W,S k D W->Calls Tryz.prog 74 #[.agg #[.pointer (some ⟨bt,0,none⟩),.pointer (some ⟨dr,0,none⟩),.map (some ow)],.agg (jn (q ++ [(es[k]).1])),.agg #[.string (es[k]).1,.int .i64 (es[k]).2.1,.int .i64 (es[k]).2.2]] W λe H=>e=.returned (.int .i64 (r k))/\∃D',S (k+1) D' H/\sJ D D' W H)
  (RcM:∀D W v',S es.length D W->W.ownsRow 0 96 3 v' es.length (flat (E es.length))->Calls Tryz.prog 199 #[.pointer (some ⟨dr,0,none⟩),v'] W λe H=>e=.returned (.int .i64 rr)/\R H):
  Calls Tryz.prog 147 #[.agg #[.pointer (some ⟨bt,0,none⟩),.pointer (some ⟨dr,0,none⟩),.map (some ow)],.agg #[.string s0,.string s1,.string s2,.string s3,.string Z],.int .i64 2] w λe H=>e=.returned (.int .i64 rr)/\R H:=by
 obtain⟨hb0,hb1⟩:=rj w (.cells #[.pointer (some ⟨bt,0,none⟩),.pointer (some ⟨dr,0,none⟩),.map (some ow)] 155) (.cells #[.string s0,.string s1,.string s2,.string s3,.string Z] 147);have hx0:=heap_alloc2_old w (.cells #[.pointer (some ⟨bt,0,none⟩),.pointer (some ⟨dr,0,none⟩),.map (some ow)] 155) (.cells #[.string s0,.string s1,.string s2,.string s3,.string Z] 147);have hx1:=heap_alloc2_new w (.cells #[.pointer (some ⟨bt,0,none⟩),.pointer (some ⟨dr,0,none⟩),.map (some ow)] 155) (.cells #[.string s0,.string s1,.string s2,.string s3,.string Z] 147);have hl:=hlk _ hb1;have hcl:=vJ (w:=((w.alloc (.cells #[.pointer (some ⟨bt,0,none⟩),.pointer (some ⟨dr,0,none⟩),.map (some ow)] 155)).alloc (.cells #[.string s0,.string s1,.string s2,.string s3,.string Z] 147)).drew) (gg hrow (λg hg=>hb1.block g (gc hrow hg))) h16;have HCL:Hid _:=hcl;have HX:Hid _:=And.intro hx0 (And.intro hx1 (And.intro hb0 hb1));have HCH:Hid _:=hch;have Rec:Hid _:=Rco;have Rel:Hid _:=RcM;have VL:Hid (∀k D W W',S k D W->vO D w.heap.size W W'->S k D W'):=ps2;have acC:Hid (∀k D W,S k D W->∀x,D x->x<W.heap.size):=Rci;have HE:Hid _:=And.intro hE0 (And.intro hEl (And.intro hEk hEs));have HS0:Hid _:=And.intro hS0 hD0;clear hlk hrow hcl hx0 hx1 hb0 hb1 hch Rco RcM ps2 Rci hE0 hEl hEk hEs hS0 hD0;go_enter Tryz.func147,Tryz.ntmps147;go_wp2
 go_region_with (go_at_call 170;refine Calls.mono HCL.o ?_;rintro e O ⟨v',rfl,Kb,Rfl,hbc⟩)
 all_goals
  obtain⟨hE0,hEl,hEk,hEs⟩:=HE.o;obtain⟨hx0,hx1,hb0,hb1⟩:=HX.o;obtain⟨hS0,hD0⟩:=HS0.o;have hbw:Below w.heap.size w O:=gS hb1 hbc;have hSw:S 0 D0 O:=VL.o _ _ _ _ hS0 (.fJ hbw);have hz2:w.heap.size+2<=O.heap.size:=by have:=hbc.size;simpa using this
  have hk0:O.heap[w.heap.size]? = some (YV bt dr ow):=(hbc.block w.heap.size (by simp;omega)).trans hx0;have hk1:O.heap[w.heap.size+1]? = some (YW s0 s1 s2 s3 Z):=(hbc.block (w.heap.size+1) (by simp)).trans hx1;have hn0:¬D0 w.heap.size/\¬D0 (w.heap.size+1):=⟨λh=>by have:=hD0 _ h;omega,λh=>by have:=hD0 _ h;omega⟩;have Rii:(v'=.slice none 0 0/\es.length=0)\/∃gE cE,v'=.slice (some ⟨gE,0,none⟩) es.length cE/\w.heap.size+2<=gE:=by
   rcases Kb.2 with ⟨e1,e2⟩ | ⟨g,c,cur,e1,_⟩
   ·exact .inl ⟨e1,e2⟩
   ·refine .inr ⟨g,c,e1,?_⟩
    have:=Rfl g (by rw[e1];rfl)
    simpa using this
  have HD0:Hid (∀x,w.heap.size<=x->¬D0 x):=λx hx h=>by have:=hD0 _ h;omega
  have hjt:Hid _:=Kb;have HK:Hid _:=And.intro hbw (And.intro hSw (And.intro hz2 (And.intro hk0 (And.intro hk1 hn0))));have HEE:Hid _:=And.intro hE0 (And.intro hEl (And.intro hEk hEs));clear hE0 hEl hEk hEs hx0 hx1 hb0 hb1 hS0 hD0 hbw hSw hz2 hk0 hk1 hn0 Kb Rfl hbc HX HCL HE HS0;rcases Rii with ⟨rfl,pu1⟩ | ⟨gE,cE,rfl,hgE⟩
  ·obtain⟨q0,q1,q2,q3⟩:=Gl HK.o.2.2.2.1
   have hd:=Rel.o D0 O (.slice none 0 0) (by rw[pu1];exact HK.o.2.1) (by
    have h1:=hjt.o;have h2:E es.length=es:=by rw[pu1];exact HEE.o.1
    rw[h2];exact h1)
   have HD:Hid _:=hd;clear hd HEE Rec HCH;go_wp2
   go_loopw [25] (λi wr=>i=.int .i64 0/\wr=O) (λ_ _=>0)
   case atStart=>exact⟨rfl,rfl⟩
   case round=>
    obtain⟨rfl,rfl⟩:=hrel;go_wp2_with (go_at_call 199;refine Calls.mono HD.o ?_;rintro e w2 ⟨rfl,hR⟩);go_ret;exact⟨rfl,hR⟩
  ·have hst:sj S w.heap.size (YV bt dr ow) (YW s0 s1 s2 s3 Z) gE cE es.length E 0 D0 O:=⟨HK.o.2.1,HK.o.2.2.2.1,HK.o.2.2.2.2.1,by rw[HEE.o.1];exact hjt.o,⟨HK.o.2.2.2.2.2.1,HK.o.2.2.2.2.2.2,HD0.o gE (by omega)⟩,hgE⟩
   have HST:Hid _:=hst;clear hst hjt HK;go_wp2
   go_loopw [25] (λi wr=>∃k:Nat,k<=es.length/\i=.int .i64 k/\Hid (∃D,sj S w.heap.size (YV bt dr ow) (YW s0 s1 s2 s3 Z) gE cE es.length E k D wr)) (λi _=>es.length-(intOf i).toNat)
   case atStart=>exact⟨0,Nat.zero_le _,rfl,D0,HST.o⟩
   case round=>
    obtain⟨k,hk,rfl,HW⟩:=hrel;obtain⟨D,hW⟩:=HW.o;obtain⟨q0,q1,q2,q3⟩:=Gl hW.b0;obtain⟨p0,p1,p2,p3,p4,p5⟩:=TF hW.b1;by_cases hlt:k<es.length
    ·have hkl:k<(E k).length:=by rw[HEE.o.2.1 k hk];exact hlt
     obtain⟨hgl,e0,e1,e2⟩:=TG hW hkl;have hek:(E k)[k]=es[k]:=by
      have:=HEE.o.2.2.1 k hlt
      rw[List.getElem?_eq_getElem hkl] at this;exact Option.some.inj this
     rw[hek] at e0 e1 e2;have hcx:=λW=>HCH.o (es[k]).1 W (List.mem_map_of_mem (List.getElem_mem hlt))
     have hrx:=λW D hs=>Rec.o k hlt D W hs;have hturn:∀W W' D',Below wr.heap.size wr W->S (k+1) D' W'->sJ D D' W W'->gE<W'.heap.size/\(∃x,W'.cell? ⟨gE,k*3+2,none⟩=some x)/\W'.frozen? ⟨gE,k*3+2,none⟩=false/\∀q,sj S w.heap.size (YV bt dr ow) (YW s0 s1 s2 s3 Z) gE cE es.length E (k+1) D' ((W'.setCell ⟨gE,k*3+2,none⟩ (.int .i64 (r k))).drewN q):=by
      intro W W' D' hb hs hT;refine sj.turn (hW.below VL.o hb) VL.o hT hs hlt (HEE.o.2.1 k hk) ?_;rw[HEE.o.2.2.1 k hlt];exact HEE.o.2.2.2 k hlt
     have Rio:∀W,Below wr.heap.size wr W->S k D W:=λW hb=>(hW.below VL.o hb).st;have hzr:w.heap.size+2<=wr.heap.size:=by have:=hgl;have:=hW.ge;omega
     have hnD:¬D w.heap.size/\¬D (w.heap.size+1)/\¬D wr.heap.size:=⟨hW.o.1,hW.o.2.1,λh=>by have:=acC.o _ _ _ hW.st _ h;omega⟩;have hge:=hW.ge;have HRX:Hid _:=hrx;have HT:Hid _:=And.intro hturn (And.intro Rio hnD);clear hrx hturn Rio hek hW hnD;generalize r k=rk at HRX HT;generalize es[k]=x at e0 e1 e2 hcx HRX;obtain⟨xn,xk,xi⟩:=x;simp only at e0 e1 e2 hcx HRX;obtain⟨r0,r1,r2,r3,r4,hP'⟩:=sf (q ++ [xn]);rw[hP'] at hcx HRX;clear hP';have b0:Below wr.heap.size wr (wr.alloc (.cells #[.string xn,.int .i64 xk,.int .i64 xi] 96)).drew:=il ((Below.refl _ _).alloc (Nat.le_refl _) _);have Ab:sr w.heap.size wr.heap.size bt dr ow s0 s1 s2 s3 Z xn xk xi (wr.alloc (.cells #[.string xn,.int .i64 xk,.int .i64 xi] 96)).drew:=by
      refine⟨(b0.cell (p:=⟨w.heap.size,0,none⟩) q0).trans q1,(b0.cell (p:=⟨w.heap.size,1,none⟩) q0).trans q2,(b0.cell (p:=⟨w.heap.size,2,none⟩) q0).trans q3,(b0.cell (p:=⟨w.heap.size+1,0,none⟩) p0).trans p1,(b0.cell (p:=⟨w.heap.size+1,1,none⟩) p0).trans p2,(b0.cell (p:=⟨w.heap.size+1,2,none⟩) p0).trans p3,(b0.cell (p:=⟨w.heap.size+1,3,none⟩) p0).trans p4,(b0.cell (p:=⟨w.heap.size+1,4,none⟩) p0).trans p5,?_,?_,?_⟩
      ·exact lf (heap_alloc_new wr _) 0
      ·exact lf (heap_alloc_new wr _) 1
      ·exact lf (heap_alloc_new wr _) 2
     have hz0:wr.heap.size<(wr.alloc (.cells #[.string xn,.int .i64 xk,.int .i64 xi] 96)).drew.heap.size:=(by simp);go_wp2;unfold sr at Ab
     go_region_held3 (λW=>W.cell? ⟨w.heap.size,0,none⟩=some (.pointer (some ⟨bt,0,none⟩))/\W.cell? ⟨w.heap.size,1,none⟩=some (.pointer (some ⟨dr,0,none⟩))/\W.cell? ⟨w.heap.size,2,none⟩=some (.map (some ow))/\W.cell? ⟨w.heap.size+1,0,none⟩=some (.string s0)/\W.cell? ⟨w.heap.size+1,1,none⟩=some (.string s1)/\W.cell? ⟨w.heap.size+1,2,none⟩=some (.string s2)/\W.cell? ⟨w.heap.size+1,3,none⟩=some (.string s3)/\W.cell? ⟨w.heap.size+1,4,none⟩=some (.string Z)/\W.cell? ⟨wr.heap.size,0,none⟩=some (.string xn)/\W.cell? ⟨wr.heap.size,1,none⟩=some (.int .i64 xk)/\W.cell? ⟨wr.heap.size,2,none⟩=some (.int .i64 xi))
      (first | exact Ab | exact hSb | exact hSc | exact hSd _ | exact Roo)
      (first
      | (go_at_call 196;refine (hcx _).mono ?_;rintro e w2 ⟨rfl,hb2⟩;have b1:=gS b0 hb2;have hSb:=sr.keep Ab (λo=>(kw hb2).1 w.heap.size o (by omega)) (λo=>(kw hb2).1 (w.heap.size+1) o (by omega)) (λo=>(kw hb2).1 wr.heap.size o hz0);unfold sr at hSb;have hz2:=Nat.lt_of_lt_of_le hz0 hb2.size)
      | (go_at_call 74;refine Calls.mono (HRX.o _ _ (HT.o.2.1 _ b1)) ?_;rintro e w3 ⟨rfl,D',hS',hTn⟩;obtain⟨t0,⟨tx,t1⟩,t2,t3⟩:=HT.o.1 _ _ _ b1 hS' hTn;have hSc:=sr.keep hSb (λo=>hTn.cell (by omega) HT.o.2.2.1 o) (λo=>hTn.cell (by omega) HT.o.2.2.2.1 o) (λo=>hTn.cell hz2 HT.o.2.2.2.2 o);have Roo:=sr.keep hSc (λo=>oB (b:=gE) (o:=k*3+2) (v:=.int .i64 rk) (show w.heap.size≠gE by omega)) (λo=>oB (b:=gE) (o:=k*3+2) (v:=.int .i64 rk) (show w.heap.size+1≠gE by omega)) (λo=>oB (b:=gE) (o:=k*3+2) (v:=.int .i64 rk) (show wr.heap.size≠gE by omega));unfold sr at hSc Roo;have HT3:Hid _:=t3;clear t3 hS' hTn))
     all_goals
      go_wp2;go_roundw
      case rel=>exact⟨k+1,by omega,by go_num,D',HT3.o 0⟩
      case measure=>simp[intOf];omega
    ·have hkm:k=es.length:=by omega
     subst hkm;have hd:=Rel.o D wr (.slice (some ⟨gE,0,none⟩) es.length cE) hW.st hW.row;have HD:Hid _:=hd;clear hd hW;go_wp2_with (go_at_call 199;refine Calls.mono HD.o ?_;rintro e w2 ⟨rfl,hR⟩);go_ret;exact⟨rfl,hR⟩
def CB.look{N}{c}{i}{B}{of:fT->Option Nat}{I}(e:CB N c i B of I){b}(g:Good b){f:Nat}(h:of b=fh f){a}(j:ju c a):
  (Instr.lookup 161 (.map<|fh B.oF) (fD<|jn b) fo).run prog a=.ok (ie f) a:=by
 have⟨_,⟨n,_,d⟩,_⟩:=e
 have:=jV.look (d.keep<|j.block B.oF d.lt) abP (LM a) g
 rwa [h]at this
theorem zn.aar{w0 f g}{e}{h}{d n:Nat}{i}{j}{l}(a:zn w0 p A e f h d i j l)(t:w0.heap.size<=n)(b:vO (TD e d) n f g):zn w0 p A e g h d i j l:=by
 have⟨m,r,s⟩:=a.map;have o:∀k,TD e d k->g.heap[k]?=f.heap[k]?:=λk c=>b.block k (a.Ka k c).2<|.inr c;refine⟨⟨b.os.trans a.below.os,b.tape.trans a.below.tape,b.output.trans a.below.output,wy a.below.size b.size,λk q=>?_⟩,λk c=>⟨(a.Ka k c).1,np (a.Ka k c).2 b.size⟩,a.Pw.keep (λk _ c=>o k<|.inl c) λ_ _ a=>a,a.nin,⟨m,r,s.keep<|o d (.inr fX)⟩,a.few⟩;rw[b.block k (np q a.below.size)<|.inl (by omega),a.below.block k q]
def zo (w0:fq)(p:Nat)(A:List Ob)(e:Nat->Prop)(f H:fq)(g:DB)(a:Nat)(h:List Ob)(i:fT->Option Int)(j:fT)(k:Nat):Prop:=
 ∃c d,zn w0 p A c H g a h d k/\sJ (TD e a) (TD c a) f H/\∀b,¬j <+: b->d b=i b
def qy (b:Nat->Option (Int×fP))(n:Nat)(a:Kids)(c:List Ob)(k:Nat):List fV:=(lj b n (a.take k) c).1++(a.drop k).map lL
theorem yD(c)(n):∀(a:Kids)(b:List Ob),(lj c n a b).1.length=fv a:=by
 intro a b;have d:∀l:Kids,(lj c n (fx l) b).1.length=fv (fx l):=by
  intro l
  induction l with
  |nil=>rfl
  |cons x f e=>rw[kz,kR,lI,e];simp
 have:=d<|fx a
 grind
theorem LW(b)(n)(a)(c):qy b n a c 0=a.map lL/\qy b n a c (fv a)=(lj b n a c).1/\(∀k,k<=fv a->fv (qy b n a c k)=fv a)/\
  (∀k(d:k<fv a),(qy b n a c k)[k]?=fh (lL a[k]))/\∀k(d:k<fv a),qy b n a c (k+1)=(qy b n a c k).set k ((a[k]).1,(a[k]).2.kind,(mn b n (a[k]).2 (lj b n (a.take k) c).2).1):=by
 refine⟨by simp[qy,lj],by simp[qy],λk d=>?_,λk d=>?_,λk d=>?_⟩
 grind [qy,lI,yD,kV,oI,rG]
 grind [qy,lj,yD,kV,BU,jH]
 grind [qy,lj,yD,kV,vk,kR,KM,List.set_append_right,sL]
structure wh (tg:gF)(w0:World)(s i p:Nat)(B:WB)(gM:List Ob)(g:WG)(lim:Nat)(t:LT):Prop where
 inv:fZ tg w0 s i p B gM g lim
 flat:Flat gM t g.ft
 exact:Exact gM
 fl:wE gM g.fl
def wh.TH{N}{w0}{a}{I}{t}(b:wh N w0 s i p B A a I t):nY A a.fl:=λc id d e=>⟨λf=>b.fl c id d e f,λ_=>(b.inv.wp.files c id d e).2.2⟩
theorem wh.gR{N}{w0 d}{g}{I}{t}(c:wh N w0 s i p B A g I t){e}{b}{h}{a}{j}{l}(f:zn w0 p A e d b h a j l):(∃ft,gQ ft (λk=>N k=(1,0)) d s p A)/\∀k,N k=(1,0)->¬e k:=by
 have⟨m,ft,_,U,_⟩:=c.inv.st;refine⟨⟨ft,U.below f.below λ_ _ c=>c⟩,λk o n=>?_⟩
 have:=m k (f.Ka k<|.inl n).1
 grind
def wh.tree{N}{w0 a}{c}{I}{t}(d:wh N w0 s i p B A c I t)(e:ju w0 a):B.bt<a.heap.size/\a.c B.bt 0=fh (ie p)/\a.c B.bt 7=fh (.map<|fh B.oF)/\a.c B.bt 8=fh (.map<|fh B.oD):=by
 have b:=(d.inv.below e).wp.tree.ht;exact⟨(lW.1 b).1,lf b 0,lf b 7,lf b 8⟩
theorem zo.fJ{w0 c H}{d}{b}{e}{a}{f}{q}{g N':Nat}(i:zn w0 p A d c b e a f g)(h:ju c H)(j:g<=N'):zo w0 p A d c H b e a f q N':=
 ⟨d,f,(i.via h).mono j,sJ.fJ h,λ_ _=>rfl⟩
theorem hj0{N}{w0 j}{g}{I}{t}(b:wh N w0 s i p B A g I t){u}{k}{l}{c}{r}{m}(f:zn w0 p A u j k l c r m)(T:m<3000000){h}(F:Good h){a:Nat}(G:t.at A h=fh (.held a)):
  ik 198 #[fD #[ie B.bt,ie k.dr,.map<|fh l],fD<|jn h] j λe H=>e=fF (fY (kK (g.fl a) c).1)/\zo w0 p A u j H k l (kK (g.fl a) c).2 r h (m+1):=by
 have v:g.ft.of h=fh a:=by rw[b.flat.of,G];rfl
 have⟨⟨id,d⟩,w⟩:=b.inv.wp.held h a v;have⟨x,_,y,_⟩:=b.tree f.below;have q:=(b.inv.below f.below).wp.files a id d w;have z:=(lW.1 q.2.1).1;have C:=lf q.2.1 1;have J:=lf q.2.1 2;have D:∀n,ju j n->(Instr.lookup 161 (.map<|fh B.oF) (fD<|jn h) fo).run prog n=.ok (ie a) n:=λn o=>b.inv.wp.tY.look F v<|gS f.below o;rw[w];by_cases hid:id=0;subst hid;have e:kK (fh ((0:Int),d)) c=ki c d:=by simp[kK]
 rw[e];have⟨⟨ft,K⟩,L⟩:=b.gR f;refine YU B.bt B.oF k.dr l a _ _ _ _ _ d _ _ j x z y C J D λn o=>?_;have E:=f.via o;refine(YO (K.below o λ_ _ b=>b) L E.Pw (by have:=f.few;omega) d q.2.2).mono ?_;rintro e H ⟨M,O,P⟩;have Q:(ki c d).2.length<=m+1:=by
  have:=f.few
  grind [ki,fileAt]
 have⟨R,S⟩:=E.Px O P (jh m) Q;exact⟨M,_,r,R,S.via o,λ_ _=>rfl⟩;have e:kK (fh (id,d)) c=(id,c):=by simp[kK,hid]
 rw[e];refine(LV B.bt B.oF k.dr l a _ _ _ _ _ id j x z y C hid D).mono ?_
 grind [zo.fJ]
abbrev comp (l:fT)(k:Nat):fP:=l.getD k ⟨#[]⟩
theorem hj1(n)(a:Kids)(k:Nat)(b:k<fv a):((a.take<|k+1).map λx=>je n x.2).sum=((a.take k).map λx=>je n x.2).sum+je n (a[k]).2:=by
 grind [vk]
theorem Pz(n)(a:Kids)(k):((a.take k).map λx=>je n x.2).sum<=(a.map λx=>je n x.2).sum:=by
 grind [KP]
theorem apart{a b:fT}{x y:fP}(d:x≠y)(c:a++[x] <+: b):¬a++[y] <+: b:=by
 rintro⟨l,rfl⟩;obtain⟨e,f⟩:=c
 grind [sL,Hu]
theorem leq{a:List Ob}(d:fv a<10000000){e:fV}(b:fN e.1=fm)(f:e.2.1=1\/e.2.1=2)(g:fK a e.2.2=e.2.1):Fits e/\1<=e.1.size:=by
 have c:=xp b;obtain⟨h,i⟩:=nl (a:=a) (id:=e.2.2) (by omega);exact⟨⟨by unfold maxLen;omega,Ww<|by omega,Ww<|by omega⟩,c.1⟩
theorem zo.via{w0 W a H}{c}{b}{ow}{d}{e}{q}{N'}(f:ju W a)(g:zo w0 p A c a H b ow d e q N'):zo w0 p A c W H b ow d e q N':=by
 obtain⟨h,i,j,k,l⟩:=g;exact⟨h,i,j,k.via f,l⟩
def LX(p)(a:fq):
  ik 146 #[ie p] a λe H=>e=fF (fB<|fh (ii (a.heap.size+2) 0))/\H=((a.alloc<|.map #[] 0).alloc<|.map #[] 0).k #[ie p,fy fj 0 0,.map<|fh a.heap.size,.map<|fh (a.heap.size+1)] 248:=by
 have b:=@run_makeMap prog;go_enter func146,ntmps146;go_wp2;go_ret;exact⟨fX,fX⟩
def LY(b p:Nat)(a:fq)(f:b<a.heap.size)(c0:a.c b 0=fh (ie p)):
  ik 73 #[ie b] a λe H=>e=fF (fD #[ie b,fB<|fh (ii (a.heap.size+3) 0),.map<|fh (a.heap.size+4)])/\
   ∃c,H=((((a.alloc c).alloc<|.map #[] 0).alloc<|.map #[] 0).k #[ie p,fy fj 0 0,.map<|fh (a.heap.size+1),.map<|fh (a.heap.size+2)] 248).alloc (.map #[] 0):=by
 have g:=@run_makeMap prog;have nZ:=λd=>LX p d;go_enter func73,ntmps73;go_wp2_with(go_at_call 146;refine RK (nZ _) ?_;rintro e O ⟨rfl,rfl⟩);exact ni (v:=fD #[ie b,fB<|fh (ii (a.heap.size+3) 0),.map<|fh (a.heap.size+4)]) (by simp[results,results73,go_sem]) fX ⟨fX,_,fX⟩
theorem Rpc(a:fq)(d b c e f):(((((a.alloc d).alloc b).alloc c).alloc e).alloc f).heap[a.heap.size+1]?=fh b/\(((((a.alloc d).alloc b).alloc c).alloc e).alloc f).heap[a.heap.size+2]?=fh c/\(((((a.alloc d).alloc b).alloc c).alloc e).alloc f).heap[a.heap.size+3]?=fh e/\(((((a.alloc d).alloc b).alloc c).alloc e).alloc f).heap[a.heap.size+4]?=fh f:=by
 refine⟨?_,?_,?_,?_⟩
 grind [RowKit.Below.heap_alloc,Ru]
 ·rw[RowKit.Below.heap_alloc _ _ _ (by simp_all),RowKit.Below.heap_alloc _ _ _ (by simp_all)]
  have:=nX ((a.alloc d).alloc b) c
  all_goals simp_all
 ·rw[RowKit.Below.heap_alloc _ _ _ (by simp_all)]
  have:=nX (((a.alloc d).alloc b).alloc c) e
  all_goals simp_all
 have:=nX ((((a.alloc d).alloc b).alloc c).alloc e) f
 all_goals simp_all
def ule(a)(b c d e f):ju a (((((a.alloc b).alloc c).alloc d).alloc e).alloc f):=
 (((((mi _ _).alloc (lw _) _).alloc (by first|(simp;done)|(simp;omega)) _).alloc (by first|(simp;done)|(simp;omega)) _).alloc (by first|(simp;done)|(simp;omega)) _).alloc (by first|(simp;done)|(simp;omega)) _
theorem Dx{a:fq}{b p:Nat}(A)(q:b<a.heap.size)(c0:a.c b 0=fh (ie p)):
  ik 73 #[ie b] a λe H=>∃h j r,e=fF (fD #[ie b,ie h.dr,.map<|fh j])/\zn a p A r H h j A (λ_=>fj) (fv A)/\ju a H:=by
 refine(LY b p a q c0).mono ?_;rintro e H ⟨s,l,t⟩;obtain⟨m,n,o,c⟩:=Rpc a l (.map #[] 0) (.map #[] 0) (.cells #[ie p,fy fj 0 0,.map<|fh (a.heap.size+1),.map<|fh (a.heap.size+2)] 248)<|.map #[] 0;have f:=ule a l (.map #[] 0) (.map #[] 0) (.cells #[ie p,fy fj 0 0,.map<|fh (a.heap.size+1),.map<|fh (a.heap.size+2)] 248)<|.map #[] 0;rw[<-t]at m n o c f;have x:=(lW.1 c).1;refine⟨⟨a.heap.size+3,a.heap.size+1,a.heap.size+2⟩,a.heap.size+4,λk=>a.heap.size<=k/\k<a.heap.size+4,s,⟨f,?_,⟨[],[],fj,0,.map [],.map [],by simp,fX,⟨⟨by simp,by simp⟩,⟨by simp,by simp⟩,⟨by simp,by simp⟩,λy u=>by simp[Value.ownBlock]at u,o,kO _ _ _ _,⟨#[],0,m,⟨by simp,cat 0,by simp⟩,lw _,fX⟩,?_,⟨#[],0,n,⟨by simp,cat 0,by simp⟩,lw _,fX⟩,?_,by simp,(λv g=>by cases g),(λv g=>by cases g)⟩⟩,by simp,⟨0,zt _,⟨_,AG c,λ_ _=>rfl,λz _ w=>absurd rfl w⟩⟩,lw _⟩,f⟩
 ·rintro k (⟨B,C⟩|rfl)
  all_goals omega
 intro d;exact⟨fX,λi U=>by cases U⟩;intro D _;exact⟨fX,λi U=>by cases U⟩
theorem PA(a V:Nat)(l:Int)(v:(Nat×Nat)->fq->Prop)(w:(Nat×Nat)->fq->Prop)(x:fq->Prop)(y h:Int)(g:fq)(W:a<g.heap.size)
  (c4:∀b,ju g b->b.c a 4=fh (hh kq)/\b.c a 5=fh (fY 2)/\b.c a 6=fh (fY l))
  (s:ik 73 #[ie a] g λe H=>∃f,e=fF (fD #[ie a,ie f.1,.map<|fh f.2])/\v f H/\ju g H)
  (z:∀f b i,v f b->ju b i->ik 74 #[fD #[ie a,ie f.1,.map<|fh f.2],fD<|ml kq kq kq kq kq,fD #[hh kq,fY 2,fY l]] i λe H=>e=fF (fY y)/\w f H/\ju g H/\i.heap.size<=H.heap.size/\∀k A,b.heap.size<=k->k<i.heap.size->H.c k A=i.c k A)
  (B:∀f b n,w f b->ik 76 #[ie f.1] (b.drewN n) λe H=>e=fF (fY h)/\x H)(I:h=0\/h=11):
  ik 34 #[ie a] g λe H=>e=pD #[fY<|if h=0 then y else 0,fY h]/\x H:=by
 have t:=λb=>QR b;have u:fe _:=c4
 change fe _ at s z B
 clear c4;unfold ln jn at t;simp at t;go_enter func34,ntmps34;go_wp2_with fail;apply RK s;rintro e O ⟨⟨c,d⟩,rfl,C,D⟩;simp only;have J:fe _:=C;clear C s;have E:ju O (O.k #[ie a,ie c,.map<|fh d] 155).drew:=il<|(mi _ _).alloc (lw _) _;have⟨d4,d5,d6⟩:=u _<|gS D E;have K:=lf (nX O<|.cells #[ie a,ie c,.map<|fh d] 155) 0;have m:O.heap.size<(O.k #[ie a,ie c,.map<|fh d] 155).drew.heap.size:=by simp
 have o:(O.k #[ie a,ie c,.map<|fh d] 155).drew.c O.heap.size 0=fh (ie a)/\(O.k #[ie a,ie c,.map<|fh d] 155).drew.c O.heap.size 1=fh (ie c)/\(O.k #[ie a,ie c,.map<|fh d] 155).drew.c O.heap.size 2=fh (.map<|fh d)/\(O.k #[ie a,ie c,.map<|fh d] 155).drew.c a 4=fh (hh kq)/\(O.k #[ie a,ie c,.map<|fh d] 155).drew.c a 5=fh (fY 2)/\(O.k #[ie a,ie c,.map<|fh d] 155).drew.c a 6=fh (fY l):=⟨K,(lf (nX O<|.cells #[ie a,ie c,.map<|fh d] 155) 1),(lf (nX O<|.cells #[ie a,ie c,.map<|fh d] 155) 2),d4,d5,d6⟩;go_wp2
 go_region_held3 (λb=>b.c O.heap.size 0=fh (ie a)/\b.c O.heap.size 1=fh (ie c)/\b.c O.heap.size 2=fh (.map<|fh d)/\b.c a 4=fh (hh kq)/\b.c a 5=fh (fY 2)/\b.c a 6=fh (fY l))
  (first|exact o|exact p|exact L)
  (first
  |(go_at_call 75;refine(t _).via λX j=>?_;have F:=gS E j;have⟨f4,f5,f6⟩:=u _<|gS D F;have p:=And.intro (((kw j).1 O.heap.size 0 m).trans o.1)<|And.intro (((kw j).1 O.heap.size 1 m).trans o.2.1) (And.intro (((kw j).1 O.heap.size 2 m).trans o.2.2.1)<|And.intro f4 (And.intro f5 f6));have q:=np m j.size)
  |(go_at_call 74;refine Calls.via (z (c,d) _ _ J F) λM⟨G,N,P,r⟩=>?_;have⟨Q,R,S⟩:=u _ N;have L:=And.intro ((r O.heap.size 0 (lw _) q).trans p.1)<|And.intro ((r O.heap.size 1 (lw _) q).trans p.2.1) (And.intro ((r O.heap.size 2 (lw _) q).trans p.2.2.1)<|And.intro Q (And.intro R S));have Y:=np q P;have T:fe _:=G;clear G r))
 all_goals
  rcases I with rfl|rfl
  all_goals
   go_wp2_with(go_at_call 76;refine Calls.via (B (c,d) M 0 T) λZ U=>?_);go_ret2;exact⟨fX,U⟩
theorem YY(b c:Nat)(d f:Int)(g:fq->Prop)(a:fq)(j:b<a.heap.size)(c0:a.c b 0=fh (ie c))
  (h:ik 34 #[ie c] a λe H=>e=pD #[fY d,fY f]/\g H):
  ik 18 #[ie b] a λe H=>e=pD #[fY d,fY f]/\g H:=by
 change fe _ at h
 go_enter func18,ntmps18;go_wp2_with(go_at_call 34;refine RK h ?_;rintro e O ⟨rfl,i⟩);go_ret2;exact⟨fX,i⟩
def YZ{N}{b}{g}{I}{t}(h:fZ N b s i p B A g I)(ag:I+10<1099511627776)(hF:Flat A t g.ft)(S:fM A 5 t)(E:wE A g.fl){f}(F:Good f){c:LT}(q:t.at A f=fh c)(nm):
  ik 183 #[ie B.bt,fD<|jn f,fD #[hh nm,fY c.kind,fY c.id]] b λr H=>r=pD #[fY (iZ A g.fl g.fs c).2.2,fY (iZ A g.fl g.fs c).2.1]/\mG s i p B A N b H { g with fs:=(iZ A g.fl g.fs c).1 } (I+1):=by
 have G:=h.st.sound;obtain⟨_,l,_⟩:=tA G f S q;have j:∀k id:Int,ju b ((b.k (jn f) 147).k #[hh nm,fY k,fY id] 96):=λk id=>((mi _ _).alloc (lw _) _).alloc (by simp) _;have J:∀{m:Nat}(c:LT),c.kind=2->fM A m c->t.at A f=fh c->(c.id≠0->fK A c.id=2)->iZ A g.fl g.fs c=((ul A g.fs c).1,(ul A g.fs c).2.1,((ul A g.fs c).2.2.length:Int))->
   ik 183 #[ie B.bt,fD<|jn f,fD #[hh nm,fY 2,fY c.id]] b λr H=>r=pD #[fY (iZ A g.fl g.fs c).2.2,fY (iZ A g.fl g.fs c).2.1]/\mG s i p B A N b H { g with fs:=(iZ A g.fl g.fs c).1 } (I+1):=by
  intro m c T U V hid n;have W:oQ A (nm,2,c.id):=⟨.inr fX,hid⟩;have K:=yb G hF U V g.fs nm;rw[T]at K;have L:=xA (h.below<|j 2 c.id) (by omega) F W;rw[K]at L;rw[n];refine YK B.bt _ _ _ _ _ _ nm c.id _ (λH=>mG s i p B A N b H { g with fs:=(ul A g.fs c).1 }<|I+1) b<|L.mono ?_;rintro r H ⟨ah,O,M,X,y,Y⟩;obtain⟨Z,aa,rfl⟩:=Y.len;rw[oI]at O;exact⟨Z,aa,O,M,mr (j 2 c.id) X,y⟩
 cases c with
 |file id=>
  rw[fM]at l;have hid:id≠0:=λe=>by have:=(nl (a:=A) (id:=id)<|by omega).1;omega
  have ab:B.bt<b.heap.size:=(lW.1 h.wp.tree.ht).1;have hsf:=λz(u:ju b z)=>hdb (h.below u) (by omega) l;have o:=h.below<|j 1 id;have c1:((b.k (jn f) 147).k #[hh nm,fY 1,fY id] 96).c B.bt 1=fh (ie B.sF):=lf o.wp.tree.ht 1;have ac:(if(g.fs.gP id).2=fm then bytesOf A id else kq).size<=256:=by
   split;exact h.st.Gg l;decide
  have:=Gi B.bt _ _ _ _ _ nm (if(g.fs.gP id).2=fm then bytesOf A id else kq) id (if(g.fs.gP id).2=fm then 0 else 14) ac (λH=>mG s i p B A N b H { g with fs:=(g.fs.gP id).1 }<|I+1) b (Pq B.bt B.sF _ _ _ _ _ nm _ id _ _ _ (np ab (j 1 id).size) hid c1 λz u=>(hsf z (gS (j 1 id) u)).mono λe H⟨o,M,m,y⟩=>⟨o,M,mr (gS (j 1 id) u) m,y⟩)
  have n:iZ A g.fl g.fs (.file id)=if(g.fs.gP id).2 then((g.fs.gP id).1,0,((bytesOf A id).size:Int)) else((g.fs.gP id).1,14,0):=fX;rw[n];cases P:(g.fs.gP id).2 with
  |true=>rw[P]at this;exact this
  |false=>rw[P]at this;exact this
 |held v=>
  have Q:g.ft.of f=fh v:=by rw[hF.of,q];rfl
  obtain⟨x,ad⟩:=h.wp.held f v Q;obtain⟨C,w,d,D⟩:∃C w d,Hn A g.fl g.fs v=(C,w,d):=⟨_,_,_,fX⟩;have n:iZ A g.fl g.fs (.held v)=(C,w,(d.size:Int)):=by simp only[iZ,D]
  rw[n];exact Gi B.bt _ _ _ _ _ nm d 0 w (yA h E D) _ b ((Tv (nm:=nm) (h.below<|j 1 0) (by omega) E F Q ad D).mono λe H⟨o,ae⟩=>⟨o,ae.via<|j 1 0⟩)
 |dir id=>exact J (.dir id) fX l q (λR=>by rw[fM]at l;exact l.1) fX
 |own af=>exact J (.own af) fX l q (λR=>absurd fX R) fX
theorem Za{N}{d}{g}{I}{t}(j:fZ N d s i p B A g I)(ac:I+100<1099511627776)(hF:Flat A t g.ft)(F:fM A 5 t)(R:wE A g.fl){b:fT}(w:Good (fx b)):
  ik 126 #[ie B.bt,fD<|jn (fx b)] d λe H=>e=pD #[fD #[fY (lQ A g.fl t g.fs b).2.2.1,fY (lQ A g.fl t g.fs b).2.2.2],fY (lQ A g.fl t g.fs b).2.1]/\mG s i p B A N d H { g with fs:=(lQ A g.fl t g.fs b).1 } (I+20):=by
 have U:=j.two;have n:=Pp d<|fx b;have G:=Tu d<|fx b;have J:N (d.heap.size+1)=(0,0):=j.st.fresh _ (by omega);have ad:N d.heap.size=(0,0):=j.st.fresh _ (by omega);have ae:fv b<=5:=by have:=w.len;simpa using this
 have o:=xB (s:=s) (i:=i) (p:=p) (B:=B) (A:=A) b N _ g I (j.below n) (by omega) w;obtain⟨K,L,S⟩:=uo j.st.sound hF F g.fs b;by_cases x:(ky A t g.fs b).2.1=0;obtain⟨T,V⟩:=S x;rw[K,L,T,x]at o;have y:lQ A g.fl t g.fs b=(if(iZ A g.fl (ky A t g.fs b).1 (ky A t g.fs b).2.2).2.1≠0 then((iZ A g.fl (ky A t g.fs b).1 (ky A t g.fs b).2.2).1,(iZ A g.fl (ky A t g.fs b).1 (ky A t g.fs b).2.2).2.1,0,0) else((iZ A g.fl (ky A t g.fs b).1 (ky A t g.fs b).2.2).1,0,(ky A t g.fs b).2.2.kind,(iZ A g.fl (ky A t g.fs b).1 (ky A t g.fs b).2.2).2.2)):=by
  grind [lQ]
 generalize (ky A t g.fs b).2.2=c at *;generalize (ky A t g.fs b).1=k at *;have z:=YL B.bt _ _ _ _ _ (b.headD kq) c.kind c.id (iZ A g.fl k c).2.2 (iZ A g.fl k c).2.1 (λf=>∃q,fI (gC i) N q ((d.k (jn<|fx b) 147).k #[fY 0,fY 0] 141) f/\fZ q f s i p B A { g with fs:=k } (I+5)/\q (d.heap.size+1)=(0,0)) (λf=>mG s i p B A N ((d.k (jn<|fx b) 147).k #[fY 0,fY 0] 141) f { g with fs:=(iZ A g.fl k c).1 }<|I+20) d (o.mono ?_) ?_;refine z.mono ?_;rintro e H ⟨h,f,r,u⟩;rw[y];by_cases l:(iZ A g.fl k c).2.1=0;rw[km λj=>j l];rw[lv l,l]at h;exact⟨h,Bw j n (by simp) r u⟩;rw[lv l];rw[km l]at h;exact⟨h,Bw j n (by simp) r u⟩;rintro e H ⟨h,M,m,C⟩;obtain⟨D,O⟩:=tj (pO U) J m G;exact⟨h,D,λE=>wJ (a:=(ii d.heap.size E))<|m.block d.heap.size (by simp;omega) (by grind [pO]),M,m,C.mono<|by omega,O⟩;rintro f ⟨q,W,P,X⟩ af;have Q:ju f (f.k #[hh<|b.headD kq,fY c.kind,fY c.id] 96):=(mi _ _).alloc (lw _) _;refine(YZ (g:={ g with fs:=k }) (P.below Q) (by omega) hF F R w V<|b.headD kq).mono ?_;rintro e ag ⟨h,Y,v,Z⟩;have aa:lu (f.k #[hh<|b.headD kq,fY c.kind,fY c.id] 96) (d.heap.size+1):=by
  grind [lu,sG,lW]
 refine⟨h,(tj (pO U) X v aa).1,λE=>wJ (a:=(ii f.heap.size E))<|v.block f.heap.size (by simp) (by rw[P.st.fresh _<|lw _];exact pO U),np (by simp) v.size,Y,W.trans<|mr Q v,Z.mono<|by omega⟩;have y:lQ A g.fl t g.fs b=((ky A t g.fs b).1,(ky A t g.fs b).2.1,0,0):=by
  grind [lQ]
 rw[y];rw[K,L]at o;have ab:((ky A t g.fs b).2.1==0)=fo:=by simpa using x
 have z:=YI B.bt _ _ _ _ _ (findF A g.ft g.fs b).2.2.1 (findF A g.ft g.fs b).2.2.2.1 (findF A g.ft g.fs b).2.2.2.2 (ky A t g.fs b).2.1 (λf=>mG s i p B A N ((d.k (jn<|fx b) 147).k #[fY 0,fY 0] 141) f { g with fs:=(ky A t g.fs b).1 }<|I+20) d ab<|o.mono ?_;refine z.mono ?_;rintro e H ⟨h,f,r,u⟩;exact⟨h,Bw j n (by simp) r u⟩;rintro e H ⟨h,M,m,C⟩;obtain⟨D,O⟩:=tj (pO U) J m G;exact⟨h,D,M,m,C.mono<|by omega⟩
def Rxc{N}{d}{a}{I}{t}(c:jy N d s i p B A a I t)(C:I+1000<1099511627776){b:fT}(k:Good (fx b)):
  ik 67 #[ie B.wb,hh<|lA (fx b)] d λe H=>e=pD #[fD #[fY (lQ A a.fl t a.fs b).2.2.1,fY (lQ A a.fl t a.fs b).2.2.2],fY (lQ A a.fl t a.fs b).2.1]/\VK s i p B A N d H (I+400) (CJ a (lQ A a.fl t a.fs b).1 t):=by
 obtain⟨n,c0⟩:=ubx c.inv;have U:=c.inv.two;have o:=c.inv.st.fresh _<|lw _;have q:=lcm B.wb B.bt (fx b) k (lQ A a.fl t a.fs b).2.2.1 (lQ A a.fl t a.fs b).2.2.2 (lQ A a.fl t a.fs b).2.1 (λf=>∃M,fI (gC i) N M d f/\fZ M f s i p B A { a with fs:=(lQ A a.fl t a.fs b).1 } (I+20)/\M d.heap.size=(0,0)) d n.1 c0 λD l r=>(Za (c.inv.below l) (by omega) c.flat c.ok c.fl k).mono ?_;refine q.mono ?_;rintro e H ⟨g,f,⟨M,m,h,j⟩,u⟩;obtain⟨v,w,x⟩:=YJ U m h j u;exact⟨g,v,_,t,w.mono λt j=>gC.mine j,⟨x.mono<|by omega,c.flat,c.ok,c.fl⟩,fX,fX,fX,fX,fX⟩;rintro e H ⟨g,M,m,h⟩;obtain⟨y,z⟩:=tj (pO U) o m r;exact⟨g,y,M,mr l m,h,z⟩

def big (A:List Ob):Nat->LT->Nat
 |0,_=>1
 |n+1,t=>1+(((kids A t).getD []).map λx=>big A n x.2).sum
def LZ{A}{t}{fs}{r}(a:(pw A t fs r).2.1=0):∃d,t.at A (fx r)=fh d/\kids A d=fh (pw A t fs r).2.2:=by
 exact(qJ a).1
def gB (A:List Ob)(t:LT):Prop:=∀x y a,t.at A x=fh (.held a)->t.at A y=fh (.held a)->x=y
theorem Gm{A}{t d:LT}{a}{Y:Kids}(e:t.at A a=fh d)(f:kids A d=fh Y)(m:fP)(b:fT):t.at A (a++m::b)=(jp Y m).bind λc=>c.at A b:=by
 grind [lx,lh]
theorem CL{A}{t d:LT}{b}{Y}{n}(h:fO Y)(c:t.at A b=fh d)(f:kids A d=fh Y)(i:kB Y n=fm){x}{g:Nat}(j:(vy A (λY=>ra Y n) b t).at A x=fh (.held g)):t.at A x=fh (.held g)/\¬b++[n] <+: x:=by
 rcases NF _ c f j with⟨m,k,rfl,a⟩|⟨a,o⟩
 rw[mg h i]at a;by_cases e:m=n
 grind
 rw[km e]at a;refine⟨by rw[Gm c f];exact a,?_⟩;rintro⟨l,p⟩
 grind [sL,Hu]
 grind [qz]
theorem PB{A}{t d c:LT}{a}{Y}{n}(j:fO Y)(h:t.at A a=fh d)(i:kids A d=fh Y){x}{f:Nat}(k:(vy A (λY=>zr Y n c) a t).at A x=fh (.held f)):(∃g,x=a++n::g/\c.at A g=fh (.held f))\/(t.at A x=fh (.held f)/\¬a++[n] <+: x):=by
 rcases NF _ h i k with⟨m,g,rfl,b⟩|⟨b,o⟩
 rw[xb j]at b;by_cases e:m=n
 grind
 rw[km e]at b;refine .inr ⟨by rw[Gm h i];exact b,?_⟩;rintro⟨l,p⟩
 grind [sL,Hu]
 grind [qz]
theorem Ma{A}{t d c:LT}{b}{Y}{n:fP}(U:gB A t)(h:fO Y)(i:t.at A b=fh d)(j:kids A d=fh Y)(k:gB A c)(p:∀e a y,c.at A e=fh (.held a)->t.at A y=fh (.held a)->b++[n] <+: y):gB A (vy A (λY=>zr Y n c) b t):=by
 intro x y a l m;rcases PB h i j l with⟨e,rfl,f⟩|⟨f,q⟩<;>rcases PB h i j m with⟨o,rfl,g⟩|⟨g,r⟩
 rw[k e o a f g]
 grind
 grind
 exact U x y a f g
theorem PC{A}{t d:LT}{a}{Y}{n}(U:gB A t)(b:fO Y)(c:t.at A a=fh d)(e:kids A d=fh Y)(f:kB Y n=fm):gB A (vy A (λY=>ra Y n) a t):=λx y g h i=>U x y g (CL b c e f h).1 (CL b c e f i).1
def PD(A:List Ob)(a:fT)(b:Nat):(LT.own []).at A a≠fh (.held b):=by
 rcases a with _|⟨m,a⟩
 rw[oX];intro c;cases c;rw[lh];simp[kids,jp]
theorem Zb{A}(c:Sound A){t}(g:fM A 5 t)(U:gB A t)(fs)(n:fP)(a:fT):gB A (jE A t fs (n::a)).2.2:=by
 unfold jE;simp only;split;exact U
 rename_i h
 split;exact U;split;exact U;have⟨d,e,f⟩:=LZ<|oL.1 h;have⟨_,i,_⟩:=tA c _ g e;exact Ma U (lO c i f).1 e f (λx y b j=>absurd j<|PD A x b) λa b y k=>absurd k<|PD A a b
theorem TI{A}(a:Sound A){t}(f:fM A 5 t)(U:gB A t)(fs)(n:fP)(r:fT):gB A (QQ A t fs (n::r)).2.2:=by
 unfold QQ;simp only;split;exact U
 rename_i i
 split;exact U;have⟨j,_,_,d,Y,b,e,k⟩:=Bz (A:=A) (t:=t) (fs:=fs) (n:=n) (r:=r) (fs':=(ky A t fs (n::r)).1) (c:=(ky A t fs (n::r)).2.2) (by grind);obtain⟨_,g,_⟩:=tA a _ f b;have h:=(lO a g e).1;exact PC U h b e (by grind [rh])
theorem TJ{A}(f:Sound A){t}(o:fM A 5 t)(U:gB A t)(fs)(n m:fP)(r p:fT):gB A (NE A t fs (n::r) (m::p)).2.2:=by
 unfold NE;simp only;split;exact U
 rename_i I
 split;exact U
 rename_i uq
 split;exact U
 rename_i u
 split;exact U;split;exact U;have⟨v,_,_,d,Y,b,e,i⟩:=Bz (A:=A) (t:=t) (fs:=fs) (n:=n) (r:=r) (fs':=(ky A t fs (n::r)).1) (c:=(ky A t fs (n::r)).2.2) (by grind);generalize (ky A t fs (n::r)).2.2=c at v i |-;have⟨_,w,_⟩:=tA f _ o b;have h:=(lO f w e).1;have j:kB Y n=fm:=by rw[<-rh h,i];rfl
 have z:t.at A (fx r++[n])=fh c:=by rw[Gm b e,i,wd,oX]
 have k:∀x a,c.at A x=fh (.held a)->t.at A ((fx r++[n])++x)=fh (.held a):=λx a g=>by rw[lx,z,wd];exact g
 have B:=oL.1 λC=>u<|.inl C;obtain⟨J,D,E⟩:=LZ B;have F:¬(fx r++[n]) <+: fx p:=by
  grind
 have⟨d1,K,q,s,_⟩:=Fm h b e j D E F;have⟨_,G,_⟩:=tA f _ (AU f o b e n) q;refine Ma (PC U h b e j) (lO f G s).1 q s (λx y a g l=>(Hu (U _ _ a (k x a g)<|k y a l))) λx a y g l=>?_;obtain⟨H,L⟩:=CL h b e j l
 have:=U _ _ a (k x a g) H
 grind
def lex(b:Fn)(c)(a:fq):ik 114 #[.func b c #[]] a λe H=>e=fF (fB<|fh (ii (a.heap.size+1) 0))/\H=(a.alloc<|.map #[] 0).k #[.func b c #[],.map<|fh a.heap.size] 267:=by
 have d:=@run_makeMap prog;go_enter func114,ntmps114;go_wp2;go_ret;exact⟨fX,fX⟩
def lfg(b:Fn)(c)(a:fq):ik 116 #[.func b c #[]] a λe H=>e=fF (fB<|fh (ii (a.heap.size+1) 0))/\H=(a.alloc<|.map #[] 0).k #[.func b c #[],.map<|fh a.heap.size] 271:=by
 have d:=@run_makeMap prog;go_enter func116,ntmps116;go_wp2;go_ret;exact⟨fX,fX⟩
def yE (a:fq)(p:Nat)(b:Int):fq:=((((((a.alloc<|.map #[] 0).alloc<|.cells #[.func (.func 115) #[ptr p] #[],.map<|fh a.heap.size] 267).alloc<|.map #[] 0).alloc<|.cells #[.func (.func 117) #[ptr p] #[],.map<|fh (a.heap.size+2)] 271).alloc<|.map #[] 0).alloc<|.map #[] 0).alloc<|.cells #[ptr p,ptr<|a.heap.size+1,ptr<|a.heap.size+3,.int .i64 b,fA ⟨#[]⟩,.int .i64 2,.int .i64 b,.map<|fh (a.heap.size+4),.map<|fh (a.heap.size+5)] 164
def hj2(p)(d:Int)(a:fq):ik 62 #[ie p,fY d] a λe H=>e=fF (fB<|fh (ii (a.heap.size+6) 0))/\H=yE a p d:=by
 have f:=λb c=>lex (.func 115) b c;have g:=λb c=>lfg (.func 117) b c;have h:=@run_makeMap prog;go_enter func62,ntmps62;go_wp2_with(first
  |(go_at_call 114;refine RK (f _ _) ?_;rintro e O ⟨rfl,rfl⟩)
  |(go_at_call 116;refine RK (g _ _) ?_;rintro e O ⟨rfl,rfl⟩))
 go_ret;exact⟨fX,fX⟩
def qD (a:fq)(p:Nat)(b:Int):fq:=(yE a p b).alloc<|.cells #[ptr<|a.heap.size+6,fB fj,fB fj,fB fj,fB fj,fB fj,fB fj,fB fj,fB fj] 91
theorem Ix(s p:Nat)(id:Int)(a:fq)(d:s<a.heap.size)(c0:a.c s 0=fh (ie p))(f:ik 61 #[ie p,fY id] a (ut (fY 2) a)):
  ik 27 #[ie s,fY id] a λe H=>∃O,ju a O/\e=pD #[fB<|fh (ii (O.heap.size+7) 0),fY 0]/\H=qD O p id:=by
 have g:=λb=>hj2 p id b;have h:∀b,(yE b p id).heap.size=b.heap.size+7:=λb=>by unfold yE;simp
 go_enter func27,ntmps27;go_wp2_with(first
  |(go_at_call 61;refine f.via λO c=>?_;have d0:=((kw c).1 s 0 d).trans c0;have i:=np d c.size)
  |(go_at_call 62;refine RK (g _) ?_;rintro e j ⟨rfl,rfl⟩))
 go_ret2;exact⟨O,c,fX,fX⟩
def wsB (n:Nat):WB:=⟨n+7,n+6,n+1,n+3,n,n+2,n+4,n+5⟩
def jF (N:gF)(n i:Nat):gF:=λk=>if k<n then N k else if k=n then(i,2)else if k=n+1 then(i,1)else if k=n+2 then(i,3)else if k=n+3 then(i,1)else if k=n+4 then(i,4)else if k=n+5 then(i,5)else if k=n+6 then(i,1)else if k=n+7 then(i,0) else(0,0)
def TK(a)(p)(id:Int):(qD a p id).heap.size=a.heap.size+8:=by unfold qD yE;simp
def PE(a)(p)(id:Int):ju a (qD a p id):=by
 exact(((((((((mi a.heap.size a).alloc (lw _) _).alloc (by simp) _).alloc (by simp;omega) _).alloc (by simp;omega) _).alloc (by simp;omega) _).alloc (by simp;omega) _).alloc (by simp;omega) _).alloc (by simp;omega) _)
theorem TL(a)(p)(id:Int):
  (qD a p id).heap[a.heap.size]?=fh (.map #[] 0)/\(qD a p id).heap[a.heap.size+1]?=fh (.cells #[.func (.func 115) #[ptr p] #[],.map<|fh a.heap.size] 267 (0,0))/\(qD a p id).heap[a.heap.size+2]?=fh (.map #[] 0)/\(qD a p id).heap[a.heap.size+3]?=fh (.cells #[.func (.func 117) #[ptr p] #[],.map<|fh (a.heap.size+2)] 271 (0,0))/\(qD a p id).heap[a.heap.size+4]?=fh (.map #[] 0)/\(qD a p id).heap[a.heap.size+5]?=fh (.map #[] 0)/\
  (qD a p id).heap[a.heap.size+6]?=fh (.cells #[ptr p,ptr<|a.heap.size+1,ptr<|a.heap.size+3,fY id,hh kq,fY 2,fY id,.map<|fh (a.heap.size+4),.map<|fh (a.heap.size+5)] 164 (0,0))/\(qD a p id).heap[a.heap.size+7]?=fh (.cells #[ptr<|a.heap.size+6,fB fj,fB fj,fB fj,fB fj,fB fj,fB fj,fB fj,fB fj] 91 (0,0)):=by
 unfold qD yE World.alloc;simp only[Array.getElem?_push,Array.size_push]
 grind
def wg0 (id:Int)(a:List Int):WG:=⟨id,⟨id,λ_=>fj,λ_=>fj⟩,⟨a,fo,λ_=>fo,λ_=>fo⟩,λ_=>fj,λ_=>fj⟩
theorem ult{N}{a}{n}{I}(o:js N a s p A n fo I)(U:2<=i){id:Int}(c:fK A id=2):
  fI (λ_=>False) N (jF N a.heap.size i) a (qD a p id)/\fZ (jF N a.heap.size i) (qD a p id) s i p (wsB a.heap.size) A (wg0 id n) I:=by
 have e:=PE a p id;have⟨q,r,t,u,v,w,z,B⟩:=TL a p id;have C:∀k,k<a.heap.size->jF N a.heap.size i k=N k:=λk c=>by unfold jF;rw[lv c]
 have m:fI (λ_=>False) N (jF N a.heap.size i) a (qD a p id):=⟨e.os,e.tape,e.output,e.size,C,λk c _=>e.block k c,λE k c=>by
  rw[TK]at c;unfold jF;rw[km<|by omega,km<|by omega,km<|by omega,km<|by omega,km<|by omega,km<|by omega,km<|by omega,km<|by omega,km<|by omega]⟩
 have t0:jF N a.heap.size i a.heap.size=(i,2):=by unfold jF;simp
 have t1:jF N a.heap.size i (a.heap.size+1)=(i,1):=by unfold jF;rw[km<|by omega];simp
 have t2:jF N a.heap.size i (a.heap.size+2)=(i,3):=by unfold jF;rw[km<|by omega];simp
 have t3:jF N a.heap.size i (a.heap.size+3)=(i,1):=by unfold jF;rw[km<|by omega];simp
 have t4:jF N a.heap.size i (a.heap.size+4)=(i,4):=by unfold jF;rw[km<|by omega];simp
 have t5:jF N a.heap.size i (a.heap.size+5)=(i,5):=by unfold jF;rw[km<|by omega];simp
 have t6:jF N a.heap.size i (a.heap.size+6)=(i,1):=by unfold jF;rw[km<|by omega];simp
 have t7:jF N a.heap.size i (a.heap.size+7)=(i,0):=by unfold jF;rw[km<|by omega];simp
 refine⟨m,U,o.moves m (λx=>x) λx=>x,⟨⟨t6,t1,t3,z,r,u⟩,⟨t0,0,λ_=>fj,zt _,AG q,λid=>rfl,λid b=>by cases b⟩,⟨t2,0,λ_=>fj,λ_=>fy fj 0 0,zt _,AG t,λid=>rfl,λid b=>by cases b⟩,⟨t4,⟨0,zt _,λ_=>fj,AG v,λ_ _=>rfl,λD _ b=>absurd rfl b⟩,λf g b=>by cases b⟩,⟨λ_=>fy fj 0 0,t5,⟨0,zt _,λ_=>fj,AG w,λ_ _=>rfl,λD _ b=>absurd rfl b⟩,λf j b=>(by cases b),λf j b=>(by cases b),λf F j fs h b=>(by cases b)⟩,λg id d b=>(by cases b),λf g b=>(by cases b),⟨t7,B,λk c=>rfl,λk G g fg H b=>(by cases b),λk l x y b=>(by cases b)⟩,⟨λ_=>c,λf j b=>(by cases b)⟩⟩⟩
def uO(A):∀(b:fT)(id:Int),zC ((LT.dir id).at A b)=fj/\RU ((LT.dir id).at A b)=fj
 |[],id=>by rw[oX];exact⟨fX,fX⟩
 |n::a,id=>by
  rw[lh]
  show zC ((jp ((fQ A id).map wl) n).bind _)=fj/\RU ((jp ((fQ A id).map wl) n).bind _)=fj
  rcases f:jp ((fQ A id).map wl) n with _|c
  exact⟨fX,fX⟩
  have⟨e,_,d⟩:=ja.1<|rR f
  have g:c=ltOf e:=by unfold wl at d;exact(Prod.mk.inj d).2.symm
  rw[wd,g]
  unfold ltOf
  split
  exact uO A a _
  cases a with
  |nil=>rw[oX];exact⟨fX,fX⟩
  |cons m a=>rw[lh];exact⟨fX,fX⟩
def hkh(id:Int)(b):Flat A (.dir id) (wg0 id b).ft:=⟨fX,fX,λa=>(uO A a id).1.symm,λa=>(uO A a id).2.symm⟩

def pu8{i:Nat}(U:2<=i):¬Mine i (0,0):=by
 rintro(a|a)
 all_goals omega
theorem Zc{N}{b}{s p i:Nat}{A}{f}{I}(a:js N b s p A f fo I)(U:2<=i){id:Int}(g:fM A 5 (.dir id)):
  ik 27 #[ie s,fY id] b λe H=>∃B:WB,e=pD #[ie B.wb,fY 0]/\∃M,fI (λ_=>False) N M b H/\jy M H s i p B A (wg0 id f) I (.dir id):=by
 have j:fK A id=2:=by rw[fM]at g;exact g.1
 have⟨w,ft,x,c,y⟩:=a;have⟨n,h,o,q,z,C,c⟩:=c;have r:=(lW.1 c.hs).1;have k:=ug p n (fv A) h o q A id b c.gR;rw[j]at k;refine(Ix s p id b r c.c0 k).mono ?_;rintro e H ⟨O,l,rfl,rfl⟩;have t:js N O s p A f fo I:=a.moves (P:=λ_=>False) (fI.fJ l) (λa=>a) λa=>a;have⟨m,u⟩:=ult t (i:=i) U j;exact⟨wsB O.heap.size,fX,_,(fI.fJ l).trans m,⟨u,hkh id f,g,(λD id d v=>by cases v)⟩⟩
theorem jg.once{x y}(b:jg x y)(g:mL y):mL x:=by
 have h:∀i(j:i<fv x)(k:i<fv y),(x[i]).core=(y[i]).core:=by
  intro i l m;have n:=b.get i
  grind
 refine⟨λi U c=>?_,λi U c=>?_⟩;have d:i<fv y:=by rw[<-b.len];exact U
 have a:=h i U d;simp only[Ob.core,vo]at a;have e:(y[i]).kind=1:=by rw[<-a.1];exact c
 have f:(x[i]).data=(y[i]).data:=by have:=a.2.1;rw[lv c,lv e]at this;exact this
 rw[b.file,f];exact g.file i d e;have d:i<fv y:=by rw[<-b.len];exact U
 have a:=h i U d;simp only[Ob.core,vo]at a;have e:(y[i]).kind=2:=by rw[<-a.1];exact c
 have f:(x[i]).gh=(y[i]).gh:=by have:=a.2.2.1;rw[lv c,lv e]at this;exact this
 rw[b.dir,f];exact g.dir i d e
def gz (a:List Ob)(fl:Nat->Option (Int×fP)):jJ:=λb=>match fl b with
 |none=>⟨#[]⟩
 |some (id,d)=>if id≠0 then bytesOf a id else d
theorem lfp{b}{e}{t i}{Y a:Kids}(o:∀d,xc b e t d=xc b e i d)(r:kids b t=fh Y)(s:kids b i=fh a)(p:fO Y)(q:fO a):
  Y.map (·.1)=a.map (·.1)/\∀k(g:k<fv Y)(h:k<fv a),∀d,xc b e (Y[k]).2 d=xc b e (a[k]).2 d:=by
 have j:∀n f,((jp Y n).bind λc=>xc b e c f)=((jp a n).bind λc=>xc b e c f):=by
  intro n f
  have:=o (n::f)
  grind [ui]
 have m:Y.map (·.1)=a.map (·.1):=by
  refine exp p q λn=>?_
  have:=j n []
  cases g:jp Y n<;>cases h:jp a n<;>rw[g,h]at this<;>simp[px]at this |-
 refine⟨m,λk g h d=>?_⟩;have u:(Y[k]).1=(a[k]).1:=by
  have:=congrArg (λl=>l[k]?) m
  grind
 have:=j (Y[k]).1 d
 grind [yh]
def Gn(e):(∃i,(wl e).2=.file i)\/∃i,(wl e).2=.dir i:=by
 unfold wl ltOf;by_cases a:e.2.1=2;exact .inr ⟨e.2.2,by simp[a]⟩;exact .inl ⟨e.2.2,by simp[a]⟩
theorem PF(e):(wl e).2.id=e.2.2:=by
 grind [wl,ltOf,LT.id]
theorem Gp{e:fV}(a:e.2.1=1\/e.2.1=2):(wl e).2.kind=e.2.1:=by
 grind [wl,ltOf,LT.kind]
def Gq{c}{d}{t b}(a:xc c d t []=xc c d b []):t.kind=b.kind:=by
 rw[px,px]at a;have a:=rF a;cases t<;>cases b<;>simp[nd,LT.kind]at a |-
theorem hki{a}(V:Exact a)(f:mL a){b}(W:nY a b):∀(n:Nat)(t h:LT),fM a n t->fM a n h->((∃i,h=.file i)\/∃i,h=.dir i)->(∀J,xc a (gz a b) t J=xc a (gz a b) h J)->mn b n t a=(h.id,a):=by
 have y:=V.sound
 -- files
 have K:∀(n:Nat)(t:LT)(id:Int),t.kind=1->fM a n t->fK a id=1->nd a (gz a b) t=.file (bytesOf a id)->mn b n t a=(id,a):=by
  intro n t id j c hid nZ;cases t with
  |file i=>
   have U:fK a i=1:=by cases n<;>simpa [fM]using c
   have:bytesOf a i=bytesOf a id:=by simpa [nd]using nZ
   have e:=f.NN U hid this
   grind [mn]
  |held o=>
   have X:mn b n (.held o) a=kK (b o) a:=by cases n<;>rw[mn]
   rw[X];have u:gz a b o=bytesOf a id:=by simpa [nd]using nZ
   unfold gz at u;rcases D:b o with _|x
   rw[D]at u;show ki a kq=_;have z:kq=bytesOf a id:=u;rw[z];exact f.uv hid;obtain⟨i,d⟩:=x;rw[D]at u;by_cases A:i≠0;have z:bytesOf a i=bytesOf a id:=by simpa [A]using u
   have e:=f.NN ((W o i d D).1 A) hid z;show(if i≠0 then(i,a)else ki a d)=_
   grind
   have z:d=bytesOf a id:=by simpa [A]using u
   show(if i≠0 then(i,a)else ki a d)=_;rw[km A,z];exact f.uv hid
  |dir i=>cases j
  |own v=>cases j
 have L:∀(id:Int),fK a id=2->∀e∈fQ a id,(e.2.1=1\/e.2.1=2):=λid j e E=>((y.2 id j).2.2 e E).2.1;intro n
 induction n with
 |zero=>
  intro t h c p F w;have q:=Gq<|w [];rcases F with⟨id,rfl⟩|⟨id,rfl⟩
  have hid:fK a id=1:=by simpa [fM]using p
  refine K 0 t id q c hid ?_
  have:=w []
  rw[px,px]at this;exact rF this;have hid:fK a id=2/\gu a id<=0:=by simpa [fM]using p
  have Z:∀g,fK a g=2->gu a g<=0->fQ a g=[]:=by
   intro g B al;rcases E:fQ a g with _|⟨e,am⟩
   rfl;have r:=((y.2 g B).2.2 e (by rw[E];simp)).2.2.2;have s:=y.1 e.2.2;omega
  cases t with
  |file i=>cases q
  |held o=>cases q
  |dir i=>
   have U:fK a i=2/\gu a i<=0:=by simpa [fM]using c
   have e:=f.Vq U.1 hid.1 (by grind);rw[mn,e];rfl
  |own v=>
   rw[mn]
   have:=f.yg hid.1
   rwa [Z id hid.1 hid.2]at this
 |succ n aa=>
  intro t h c p F w;have q:=Gq<|w [];rcases F with⟨id,rfl⟩|⟨id,rfl⟩
  have hid:fK a id=1:=by simpa [fM]using p
  refine K _ t id q c hid ?_
  have:=w []
  rw[px,px]at this;exact rF this;have hid:fK a id=2:=by rw[fM]at p;exact p.1
  obtain⟨ab,_,ac⟩:=lO y p (Y:=(fQ a id).map wl) fX
  -- what stands in t is,one by one,what stands in the stored AIG
  have M:∀(Y:Kids),kids a t=fh Y->fv Y=fv (fQ a id)/\∀k(r:k<fv Y)(s:k<fv (fQ a id)),(Y[k]).1=((fQ a id)[k]).1/\(Y[k]).2.kind=((fQ a id)[k]).2.1/\mn b n (Y[k]).2 a=(((fQ a id)[k]).2.2,a):=by
   intro Y N;obtain⟨ad,_,ae⟩:=lO y c N;obtain⟨O,af⟩:=lfp w N (show kids a (.dir id)=fh ((fQ a id).map wl)from fX) ad ab;have C:fv Y=fv (fQ a id):=by have:=congrArg List.length O;simpa using this
   refine⟨C,λk r s=>?_⟩;have P:k<fv ((fQ a id).map wl):=by simpa using s
   have G:=af k r P;rw[yS]at G;obtain⟨_,m,an,ag⟩:=ae _<|kN r;obtain rfl:m=n:=by omega
   have Q:=ac _<|kN P;rw[yS]at Q;obtain⟨_,ah,ao,ai⟩:=Q;obtain rfl:ah=m:=by omega
   have R:=aa (Y[k]).2 (wl (fQ a id)[k]).2 ag ai (Gn _) G;rw[PF]at R;refine⟨?_,?_,R⟩
   have:=congrArg (λl=>l[k]?) O
   simp only[hJ0,jH r,jH s,oV,pV]at this;exact this;rw[Gq<|G [],Gp<|L id hid _ (kN s)]
  cases t with
  |file i=>cases q
  |held o=>cases q
  |dir i=>
   have U:fK a i=2:=by rw[fM]at c;exact c.1
   obtain⟨C,j⟩:=M _ fX;have aj:fQ a i=fQ a id:=by
    apply cos
    grind
    intro k r s;obtain⟨S,H,I⟩:=j k (by omega) s;rw[yS]at S H I;have ak:mn b n (wl (fQ a i)[k]).2 a=((wl (fQ a i)[k]).2.id,a):=by
     rcases Gn (fQ a i)[k] with⟨g,B⟩|⟨g,B⟩<;>rw[B]<;>cases n<;>(rw[mn];rfl)
    rw[ak,PF]at I;rw[Gp<|L i U _ (kN r)]at H;exact HA S<|HA H (congrArg Prod.fst I)
   rw[mn,f.Vq U hid aj];rfl
  |own v=>
   obtain⟨C,j⟩:=M v fX;have uq:∀k,k<=fv v->lj b n (v.take k) a=((fQ a id).take k,a):=by
    intro k
    induction k with
    |zero=>intro _;simp[lj]
    |succ k ap=>
     grind [fQ,vk,kR]
   have T:=uq (fv v)<|lw _;rw[sH,C,sH]at T;rw[uu,T];exact f.yg hid

end Go.Proofs.YtlgidcmmgohagaaGreat
namespace Go.Proofs
open Go.Shelf
def Tryz.Zd:Go.Shelf.Ren:=⟨λ|6=>167|15=>208|14=>207|28=>233|29=>234|20=>225|21=>226|22=>227|23=>228|24=>229|25=>230|26=>231|27=>232|46=>250|47=>251|48=>252|49=>253|50=>254|57=>263|n=>n,λ|22=>121|24=>133|25=>262|3=>3|39=>301|0=>0|53=>323|55=>325|4=>4|46=>317|45=>316|50=>232|5=>5|9=>9|66=>332|70=>336|76=>350|77=>98|n=>n,λ|n=>n⟩
def Tryz.aaA:Go.Proofs.SlLaysF0.n6 Tryz.prog Tryz.Zd:={
 mixed:=by kernel_rfl
 f6:=⟨Tryz.f167.name,by decide,Ar Tryz.func167<|by kernel_rfl⟩
 f14:=⟨Tryz.f207.name,by decide,Ar Tryz.func207<|by kernel_rfl⟩
 f15:=Tryz.func208.trans (congrArg some<|by kernel_rfl)
 f20:=⟨Tryz.f225.name,by decide,Ar Tryz.func225<|by kernel_rfl⟩
 f21:=⟨Tryz.f226.name,by decide,Ar Tryz.func226<|by kernel_rfl⟩
 f22:=⟨Tryz.f227.name,by decide,Ar Tryz.func227<|by kernel_rfl⟩
 f23:=⟨Tryz.f228.name,by decide,Ar Tryz.func228<|by kernel_rfl⟩
 f24:=⟨Tryz.f229.name,by decide,Ar Tryz.func229<|by kernel_rfl⟩
 f25:=⟨Tryz.f230.name,by decide,Ar Tryz.func230<|by kernel_rfl⟩
 f26:=⟨Tryz.f231.name,by decide,Ar Tryz.func231<|by kernel_rfl⟩
 f27:=⟨Tryz.f232.name,by decide,Ar Tryz.func232<|by kernel_rfl⟩
 f28:=Tryz.func233.trans (congrArg some<|by kernel_rfl)
 f29:=Tryz.func234.trans (congrArg some<|by kernel_rfl)
 f46:=⟨Tryz.f250.name,by decide,Ar Tryz.func250<|by kernel_rfl⟩
 f47:=Tryz.func251.trans (congrArg some<|by kernel_rfl)
 f48:=Tryz.func252.trans (congrArg some<|by kernel_rfl)
 f49:=⟨Tryz.f253.name,by decide,Ar Tryz.func253<|by kernel_rfl⟩
 f50:=⟨Tryz.f254.name,by decide,Ar Tryz.func254<|by kernel_rfl⟩
 f57:=⟨Tryz.f263.name,by decide,Ar Tryz.func263<|by kernel_rfl⟩
 t0:=Tryz.underlying0
 a0:=Tryz.isAgg0
 z0:=Tryz.sizeOf0
 v0:=Tryz.zeroValue0
 t3:=Tryz.underlying3
 a3:=Tryz.isAgg3
 z3:=Tryz.sizeOf3
 v3:=Tryz.zeroValue3
 t4:=Tryz.underlying4
 a4:=Tryz.isAgg4
 z4:=Tryz.sizeOf4
 v4:=Tryz.zeroValue4
 t5:=Tryz.underlying5
 a5:=Tryz.isAgg5
 z5:=Tryz.sizeOf5
 v5:=Tryz.zeroValue5
 t9:=Tryz.underlying9
 a9:=Tryz.isAgg9
 z9:=Tryz.sizeOf9
 v9:=Tryz.zeroValue9
 t22:=Tryz.underlying121
 a22:=Tryz.isAgg121
 z22:=Tryz.sizeOf121
 v22:=Tryz.zeroValue121
 t25:=Tryz.underlying262
 a25:=Tryz.isAgg262
 z25:=Tryz.sizeOf262
 v25:=Tryz.zeroValue262
 t39:=Tryz.underlying301
 a39:=Tryz.isAgg301
 z39:=Tryz.sizeOf301
 v39:=Tryz.zeroValue301
 t45:=Tryz.underlying316
 a45:=Tryz.isAgg316
 z45:=Tryz.sizeOf316
 v45:=Tryz.zeroValue316
 t46:=Tryz.underlying317
 a46:=Tryz.isAgg317
 z46:=Tryz.sizeOf317
 v46:=Tryz.zeroValue317
 t50:=Tryz.underlying232
 a50:=Tryz.isAgg232
 z50:=Tryz.sizeOf232
 v50:=Tryz.zeroValue232
 t53:=Tryz.underlying323
 a53:=Tryz.isAgg323
 z53:=Tryz.sizeOf323
 v53:=Tryz.zeroValue323
 t55:=Tryz.underlying325
 a55:=Tryz.isAgg325
 z55:=Tryz.sizeOf325
 v55:=Tryz.zeroValue325
 t66:=Tryz.underlying332
 a66:=Tryz.isAgg332
 z66:=Tryz.sizeOf332
 v66:=Tryz.zeroValue332
 t70:=Tryz.underlying336
 a70:=Tryz.isAgg336
 z70:=Tryz.sizeOf336
 v70:=Tryz.zeroValue336
 t76:=Tryz.underlying350
 a76:=Tryz.isAgg350
 z76:=Tryz.sizeOf350
 v76:=Tryz.zeroValue350
 t77:=Tryz.underlying98
 a77:=Tryz.isAgg98
 z77:=Tryz.sizeOf98
 v77:=Tryz.zeroValue98 }
end Go.Proofs
namespace Go.Proofs.YtlgidcmmgohagaaGreat
open Go.RowKit Go.Sort Go.Shelf Go.Proofs.Tryz
open Go.Value renaming slice->fy,string->fA,pointer->fB,tuple->fC,agg->fD,bool->fE
open Go.Ending renaming returned->fF
open Option renaming some->fh,none->fj
open Bool renaming true->fm,false->fo
open Go renaming World->fq,Value->fu
open List renaming length->fv,reverse->fx
open Go.RowKit renaming Hid->fe
set_option maxRecDepth 100000
set_option maxHeartbeats 0
variable {s i p:Nat}{B:WB}{A:List Ob}{Ze:gF}{w0:fq}{base:Int}
def TM(a:fq)(x y z):(((a.alloc x).alloc y).alloc z).heap[a.heap.size]?=fh x/\(((a.alloc x).alloc y).alloc z).heap[a.heap.size+1]?=fh y/\(((a.alloc x).alloc y).alloc z).heap[a.heap.size+2]?=fh z:=by
 refine⟨(xK a x y z).1,(xK a x y z).2,?_⟩
 have:=nX ((a.alloc x).alloc y) z
 simpa using this
def uP (n b c d e:Nat)(f g h i Z j o:fP)(k id l m:Int)(a:fq):Prop:=
 a.cell? ⟨b,0,fj⟩=fh (fB<|fh ⟨c,0,fj⟩)/\a.cell? ⟨b,1,fj⟩=fh (fB<|fh ⟨d,0,fj⟩)/\a.cell? ⟨b,2,fj⟩=fh (.map<|fh e)/\
 a.cell? ⟨n,0,fj⟩=fh (fA f)/\a.cell? ⟨n,1,fj⟩=fh (fA g)/\a.cell? ⟨n,2,fj⟩=fh (fA h)/\a.cell? ⟨n,3,fj⟩=fh (fA i)/\a.cell? ⟨n,4,fj⟩=fh (fA Z)/\
 a.cell? ⟨n+1,0,fj⟩=fh (fA j)/\a.cell? ⟨n+1,1,fj⟩=fh (.int .i64 k)/\a.cell? ⟨n+1,2,fj⟩=fh (.int .i64 id)/\
 a.cell? ⟨n+2,1,fj⟩=fh (.int .i64 l)/\a.cell? ⟨n+2,2,fj⟩=fh (.int .i64 m)

theorem hkn{A}(b:Exact A):∀(n:Nat)(c:LT),fM A n c->kQ A n c<=n
 |n,.file id,a=>by
  have d:fK A id=1:=by cases n<;>simpa [fM]using a
  have:kQ A n (.file id)=gu A id:=by cases n<;>rfl
  rw[this,b.low id d];omega
 |n,.held g,_=>by
  grind [kQ]
 |n,.dir id,a=>by
  grind [gu,fM,kQ]
 |0,.own e,_=>by rw[kQ];omega
 |n+1,.own e,a=>by
  rw[fM]at a
  rw[kQ,gV]
  refine⟨by omega,λx f=>?_⟩
  have:=hkn b n x.2 (a.2.2 x f).2
  omega
def cs (n:Nat)(Y:Kids):Nat:=(Y.map λx=>je n x.2).sum

abbrev Mb:=fP×Int×fP
def ndD:Nd->fP
 |.dir=>⟨#[]⟩
 |.file d=>d
def qM (a:List Ob)(b:jJ):Nat->fT->LT->List Mb
 |0,_,_=>[]
 |n+1,d,c=>((kids a c).getD []).flatMap λx=>(lA (d++[x.1]),x.2.kind,ndD<|nd a b x.2)::(if x.2.kind=2 then qM a b n (d++[x.1]) x.2 else [])
def VM (a:List Ob)(b:jJ)(n:Nat)(c:fT)(x:fP×LT):List Mb:=(lA<|c++[x.1],x.2.kind,ndD<|nd a b x.2)::(if x.2.kind=2 then qM a b n (c++[x.1]) x.2 else [])
def PG{a}{b}{n:Nat}{d:fT}{c}{Y:Kids}(e:kids a c=fh Y):qM a b (n+1) d c=Y.flatMap (VM a b n d):=by rw[qM,e];rfl
theorem uri{a b}{c d}{t e}(f:xc a c t []=xc b d e []):nd a c t=nd b d e:=by
 grind [px,rF]
def lia{b c}{d e}{t a}(f:nd b d t=nd c e a):t.kind=a.kind:=by
 cases t<;>cases a<;>simp[nd,LT.kind]at f |-
theorem rq{a}{c:LT}(b:c.kind=2):∃Y,kids a c=fh Y:=by
 cases c with
 |file i=>cases b
 |held d=>cases b
 |dir i=>exact⟨_,fX⟩
 |own e=>exact⟨_,fX⟩
theorem pP{b}{c:LT}(a:c.kind≠2):kids b c=fj:=by
 cases c with
 |file i=>rfl
 |held d=>rfl
 |dir i=>exact absurd fX a
 |own e=>exact absurd fX a
def Gr:Nat->Nat
 |0=>0
 |n+1=>16*(1+Gr n)
theorem Dy{c e:Type}(a:c->List e)(b:Nat):∀(l:List c),(∀x∈l,fv (a x)<=b)->fv (l.flatMap a)<=fv l*b
 |[],_=>by simp
 |x::f,d=>by
  rw[MZ,lI,lq,Ry]
  have h:=d x<|oK ..
  have i:=Dy a b f λy g=>d y<|wq _ g
  omega
theorem BI{a}{fc}(c:Sound a):∀(n:Nat)(b:fT)(t:LT),fM a n t->fv (qM a fc n b t)<=Gr n
 |0,b,t,_=>by rw[qM];simp[Gr]
 |n+1,b,t,g=>by
  by_cases d:t.kind=2
  have⟨Y,f⟩:=rq (a:=a) d
  have⟨o,h,i⟩:=lO c g f
  rw[PG f,Gr]
  refine wy (Dy _ (1+Gr n) Y λx j=>?_)<|EG _ h
  unfold VM
  rw[lq]
  obtain⟨m,e,k⟩:=(i x j).2
  have l:m=n:=by omega
  subst l
  split
  have:=BI (fc:=fc) c m (b++[x.1]) x.2 k
  omega
  simp
  rw[qM,pP d]
  simp
theorem url{A}{b d:jJ}{t:LT}(e:∀x a,t.at A x=fh (.held a)->d a=b a)(x):xc A d t x=xc A b t x:=by
 unfold xc;rcases f:t.at A x with _|c
 rfl;cases c with
 |file i=>rfl
 |held a=>simp only[oV,nd];rw[e x a f]
 |dir i=>rfl
 |own g=>rfl
