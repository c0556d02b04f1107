/- A part of the proof. -/
import Derived.Test.YtlgidcmmgohagaaGreatAllM05
import Derived.Test.YtlgidcmmgohagaaGreatRows
import Derived.Deep.Strs
set_option linter.all false
namespace Go.Proofs.YtlgidcmmgohagaaGreat
open Go.RowKit Go.Sort Go.Shelf Go.Proofs.Tryz
open Go.Value renaming slice->fy,string->fA,pointer->fB,tuple->fC,agg->fD,bool->fE
open Go.Ending renaming returned->fF
open Option renaming some->fh,none->fj
open Bool renaming true->fm,false->fo
open Go renaming World->fq,Value->fu
open List renaming length->fv,reverse->fx
open Go.RowKit renaming Hid->fe
set_option maxRecDepth 100000
set_option maxHeartbeats 0
variable {ft:PTp}{E I b6 FH:Nat->Prop}{w:fq}{W s r ec q:Nat}{A O:List Ob}{c5 c6 c7 c8 c9 R c11:fu}{ea:iD}{hs:List lR}
theorem Sq{f g wr t}{c m:Nat}{u v x y z:fu}(l:W3 ft E I b6 w W s r A O c5 c6 c7 c8 (fy ea (4*q) ec) R c11)(n:Held FH w ea ec q hs)(o:∀k,FH k->¬F3 E I b6 k)(C:m<=16)
  (i:ju w f)(V:w.heap.size<=c/\c<f.heap.size)(D:W3 ft (kB E f g) I b6 g W s r A O c5 c6 c7 c8 (fy ea (4*q) ec) R c11)(h:fH E f g)(hbr:ju g wr)
  (F:wr.heap[W]?=fh (.cells #[u,v,x,y,z,c5,c6,c7,c8,fy ea (4*q) ec,R,c11] 71 (0,0)))(b:sj 96 55 3 (VE q) 9 wr t W q #[u,v,x,y,z,c5,c6,c7,c8,fy ea (4*q) ec,R,c11] ea ec (fh<|ie c 0) m m hs):
  vN ft E I b6 FH w t W s r (q+1) c5 c6 c7 c8 R c11:=by
 have X:=h.size;have Y:=hbr.size;have fW:E W:=by obtain⟨_,_,_,_,_,_,_,G,_⟩:=l.law;exact G.fw
 have p:∀k,F3 E I b6 k->k<w.heap.size:=λk b=>by
  rcases b with a|a|a
  exact l.sep.ll k a;exact(l.sep.rl k a).1;exact(l.sep.sl k a).1
 have H:∀k,FH k->¬F3 (kB E f g) I b6 k:=λk b d=>by
  have:=n.lt k b
  rcases d with(a|a)|a|a
  exact o k b<|.inl a
  have:=a.1
  omega;exact o k b<|.inr (.inl a);exact o k b<|.inr (.inr a)
 have J:Held FH wr ea ec q hs:=n.keep (λk b=>by
  have:=n.lt k b
  rw[hbr.block k<|by omega,h.block k (by omega) λd=>o k b<|.inl d,i.block k this])<|by omega
 obtain⟨K,L,M,N,P,Q,S,Z,j⟩:=Jy (la:=fh<|ie c 0) (m:=m) (D.below hbr) J H C (λT U=>by
  obtain rfl:c=T:=by simpa [Value.ownBlock]using U
  refine⟨λd=>?_,λd=>by have:=n.lt c d;omega,by omega⟩;rcases d with(a|a)|a|a
  have:=p c<|.inl a
  omega
  have:=a.1
  omega
  have:=p c<|.inr (.inl a)
  omega
  have:=p c<|.inr (.inr a);omega) F b
 refine⟨kB E f g,I,b6,K,A,O,L,M,N,P,Q,S,λk=>⟨λa=>?_,.inl,.inl⟩,λk e=>?_,⟨j.os.trans<|hbr.os.trans (h.os.trans i.os),j.tape.trans<|hbr.tape.trans (h.tape.trans i.tape),j.output.trans<|hbr.output.trans (h.output.trans i.output),by have:=j.size;omega,λk b B=>?_⟩⟩
 ·rcases a with a|a
  all_goals grind
 ·all_goals grind [Value.ownBlock]
 rw[j.block k (by omega) ?_,hbr.block k<|by omega,h.block k (by omega) λd=>B<|.inl (.inl d),i.block k b];rintro(e|e|e);exact B<|.inl (.inl<|e▸fW)
 all_goals grind [Value.ownBlock]
def Sr{a c:fq}{b m base}{d}(h:W3 ft E I b6 w W s r A O c5 c6 c7 c8 c9 R c11)(e:a.ownsRow base 96 3 (my b 0 m m) m (flat d))(i:ju w a)(j:W3 ft (kB E a c) I b6 c W s r A O c5 c6 c7 c8 c9 R c11)(f:fH E a c)(n:w.heap.size<=base:=by simp):
  c.ownsRow 0 96 3 (my b 0 m m) m (flat d)/\∃a,ju w a/\(w.heap.size<=b/\b<a.heap.size)/\W3 ft (kB E a c) I b6 c W s r A O c5 c6 c7 c8 c9 R c11/\fH E a c:=by
 have⟨o,g⟩:=e.lt b fX;refine⟨gg (tR e<|Fr _) λx k=>?_,a,i,⟨by omega,g⟩,j,f⟩;obtain rfl:b=x:=by simpa [Value.ownBlock]using k
 exact f.block b g (λl=>by have:=h.sep.ll b l;omega)
theorem Ss(b:W3 ft E I b6 w W s r A O c5 c6 c7 c8 (fy ea (4*q) ec) R c11)(K:Held FH w ea ec q hs)(ad:∀k,FH k->¬F3 E I b6 k)(aQ:4*q<=1000000000)(aR aS:Int)(aT aU)(aV:iD)(aW aX)(d:Nat)(v:d<fv A)(C:A[d].kind=2):
  ik 20 #[ii W,fD #[fY 4,fY aR,fY<|(d:Int)+1,fY aS,hZ aT,hZ aU,fy aV aW aX]] w λe J=>e=fF (fE fm)/\vN ft E I b6 FH w J W s r (q+1) c5 c6 c7 c8 R c11:=by
 have⟨aY,aZ,bE,bF⟩:=b.law.cells;have⟨ae,af⟩:=b.aaR d v C;have bb:=b.few.1;have y:∀a,ju w (w.alloc a):=λa=>(mi _ _).alloc (lw _) _;have D:∀a g,Below (w.alloc a).heap.size (w.alloc a) g->ju w g:=λa g c=>(y a).trans<|c.mono (by simp);have hid:=λa=>Fz (b.below<|y a)<|(d:Int)+1;have L:=λa=>Jt (b.below<|y a).yl d v C;have ag:=λa g(c:Below (w.alloc a).heap.size (w.alloc a) g)=>si (b.below<|D a g c) d v;have Q:=λa g(c:Below (w.alloc a).heap.size (w.alloc a) g)=>Bf (b.below<|D a g c) d v;rw[C]at Q;have ah:=λa g(c:Below (w.alloc a).heap.size (w.alloc a) g)=>fns (b.below<|D a g c) d v;have ai:=λ(e:Int)(bc:fq)=>mj e bc;have M:fe (∀{E I b6:Nat->Prop}(w:fq),W3 ft E I b6 w W s r A O c5 c6 c7 c8 (fy ea (4*q) ec) R c11->_):=λw b=>W3.items b d v C;have aw:fe (∀{E I b6:Nat->Prop}(w:fq),W3 ft E I b6 w W s r A O c5 c6 c7 c8 (fy ea (4*q) ec) R c11->∀i,i<fv A->_):=λw b i U=>W3.ids b i U;have ax:fe (W3 ft E I b6 w W s r A O c5 c6 c7 c8 (fy ea (4*q) ec) R c11):=b;obtain⟨S,ay⟩:=oX<|A[d].gh;rw[<-ay]at L ae af M;have⟨m,aj⟩:=oX<|fv S;rw[<-aj]at L ae M;obtain⟨n,az⟩:=oX<|fv A;rw[<-az]at M aw bb;have bG:(d:Int)<(n:Int):=by omega
 have bH:d<n:=by omega
 change fe _ at K ad aj af hid L ag Q ai ah D
 clear b ay az C v;go_enter rts,rop;go_wp2_with(first
  |(go_at_call 39;refine tB (hid _) ?_)
  |(go_at_call 43;apply Ps<|L _;rintro _ ak ⟨j,rfl,aA,l⟩;have aB:fe _:=aA;clear aA;have aC:fe (ju w ak):=D _ _ l)
  |(go_at_call 41;refine tB (ag _ _ l) ?_)
  |(go_at_call 42;refine tB (Q _ _ l) ?_)
  |(go_at_call 22;refine tB (ai _ _) ?_)
  |(go_at_call 37;refine Hk (ah _ _ l) λT⟨o,z⟩=>?_;have F:fe _:=Sr ax aB aC o z;have bd:fe (∃al,W3 ft al I b6 T W s r A O c5 c6 c7 c8 (fy ea (4*q) ec) R c11):=⟨_,o⟩;have⟨be,aD,bI,_⟩:=mG.cells o.law;have⟨bf,h,bg,bh,am,aE,aF,V,bi⟩:=M _ o;clear o z))
 clear aB aC l hid L ag Q ai ah D y aY aZ am V aE aF bi be aD
 go_loopw [19,20] (λbj i wr=>∃k:Nat,k<=m/\bj=fE fm/\i=.int .i64 (k:Int)/\ju T wr) (λ_ i _=>m-(intOf i).toNat)
 case atStart=>exact⟨0,Fr _,rfl,rfl,mi _ _⟩
 case round=>
  obtain⟨k,C,rfl,rfl,c⟩:=hrel;have⟨al,o⟩:=bd;have G:=o.below c;have bk:fe (W3 ft al I b6 wr W s r A O c5 c6 c7 c8 (fy ea (4*q) ec) R c11):=G;have⟨_,aD,bl,_⟩:=mG.cells G.law;by_cases bm:k<m
  ·have H:k<fv S:=by rw[<-aj.o];exact bm
   have⟨bf,h,bg,bh,am,aE,aF,V,N⟩:=M _ G;have⟨an,bJ,aG⟩:=hh N (by omega);rw[(lK aG).1]at V N;have bK:=gc N fX;have⟨X,Y,Z⟩:=lr (off:=0) (ks N) (i:=k) (by simpa using H);rw[iR,yP]at X Y Z;have⟨x,u⟩:=oX<|S[k];have bn:fe (x=S[k]):=u;rw[<-u]at X Y Z;have⟨bo,bp⟩:=af x (by rw[u];exact kK H);obtain⟨f,ao⟩:∃f:Nat,x.2.2=(f:Int)+1:=⟨(x.2.2-1).toNat,by omega⟩;have bq:wr.c an (k*3+2)=fh (fY (f:Int)):=by rw[Z];unfold gF;rw[ao];simp
   have br:wr.c an (k*3)=fh (hZ x.1):=X;have bs:wr.c an (k*3+1)=fh (fY x.2.1):=Y;have bt:(k:Int)<(m:Int):=by omega
   have bu:fe (x.2.2=(f:Int)+1):=ao;have bv:f<n:=by omega
   clear G o X Y Z N aG u bo bp ao;go_wp2;obtain⟨aH,P⟩:=oX (.cells #[hZ x.1,fY x.2.1,fY (f:Int)] 112:Obj);obtain⟨t,B⟩:=oX<|wr.alloc aH;have tot:ju wr t:=by rw[B];exact(mi _ _).alloc (lw _) aH
   have aa:ju T t:=c.trans<|tot.mono c.size;have bL:t.c wr.heap.size 0=fh (hZ x.1):=by rw[B,P];simp
   have bM:t.c wr.heap.size 1=fh (fY x.2.1):=by rw[B,P];simp
   have bN:t.c wr.heap.size 2=fh (fY (f:Int)):=by rw[B,P];simp
   have bO:t.heap.size=wr.heap.size+1:=by rw[B];simp
   have⟨ap,aq,ar⟩:=lr (off:=0) (ks F.1) H;rw[iR,<-bn.o]at ap aq ar;have au:j<T.heap.size:=gc F.1 fX;have bw:fe (∀q,(loadVar 96<|ie j (k*3)).run prog (t.drewN q)=.ok (fD #[hZ x.1,fY x.2.1,fY x.2.2]) (t.drewN q)):=λq=>ldE _ j (k*3) x ((aa.cell (p:=(ie j<|k*3)) au).trans ap) ((aa.cell (p:=(ie j<|k*3+1)) au).trans aq)<|(aa.cell (p:=(ie j<|k*3+2)) au).trans ar;have⟨aI,bQ,d0,bx,d1⟩:=aw _ bk f bv;have bR:=(tot.cell (p:=(ie W 2)) bl).trans d0;have d15:=(tot.cell (p:=(ie aI f)) bx).trans d1;have bS:aI<t.heap.size:=by omega
   rw[<-P,<-B];clear P B ap aq ar d0 d1 br bs bq am V;apply bws (by kernel_rfl)<|by kernel_rfl
   iterate 3 quiet_step (fail)
   refine kU fX 96 _ fX (ie j<|k*3) fX (fD #[hZ x.1,fY x.2.1,fY x.2.2]) (by rintro _ ⟨n,rfl⟩;exact bw _) ?_
   go_frame
   iterate 13 quiet_step (fail)
   refine wR fX .eql 96 96 _ _ fX (fD #[hZ x.1,fY x.2.1,fY x.2.2]) (fD #[hZ x.1,fY x.2.1,fY<|(f:Int)+1]) (fE<|decide (x=(x.1,x.2.1,(f:Int)+1))) fX fX (by rintro _ ⟨n,rfl⟩;exact fid _ _ _ _ _ _) (by rintro _ ⟨n,rfl⟩;exact fma _ x (x.1,x.2.1,(f:Int)+1)) ?_
   go_frame
   iterate 1 quiet_step (fail)
   apply WE;rintro _ ⟨nq,rfl⟩;have aJ:decide (x=(x.1,x.2.1,(f:Int)+1))=fm:=iE<|EM fX (EM fX bu);rw[aJ];clear aJ;go_wp2;go_roundw
   case rel=>exact⟨k+1,by omega,rfl,by go_num,jf aa nq⟩
   case measure=>simp[intOf];omega
  have bt:k=m:=by omega
  have⟨aK,y,aL,aM,aN,av⟩:=G.block;have aO:wr.ownsRow 0 55 1 (fy ea (4*q) ec) (4*q) (hs.map qQ):=by
   have⟨_,ak,l,_,_,z⟩:=F;have bT:=z.size;refine gg K.row λx u=>?_;have aP:=K.own x u
   have:=K.lt x aP
   rw[c.block x<|by omega,z.block x (by omega) λb=>ad.o x aP<|.inl b,l.block x this]
  have H:=(zQ W q #[aK,y,aL,aM,aN,c5,c6,c7,c8,fy ea (4*q) ec,R,c11] ea ec m m (fh<|ie j 0) hs _ wr av aQ<|by omega).2 fX aO (gg F.1 λx u=>c.block x<|gc F.1 u);have bz:fe _:=H;have bA:fe (∀ab,sj 96 55 3 (VE q) 9 wr ab W q #[aK,y,aL,aM,aN,c5,c6,c7,c8,fy ea (4*q) ec,R,c11] ea ec (fh<|ie j 0) m m hs->vN ft E I b6 FH w ab W s r (q+1) c5 c6 c7 c8 R c11):=λab ac=>by
   have⟨_,ak,l,bB,bC,z⟩:=F;exact Sq ax K ad ae l bB bC z c av ac
  clear G o aO H av;go_wp2_with(go_at_call 44;refine Hk bz.o λab ac=>?_;have bD:fe _:=bA _ ac;clear ac);go_ret;exact⟨fX,bD⟩
theorem LB(b:W3 ft E I b6 w W s r A O c5 c6 c7 c8 (fy ea (4*q) ec) R c11)(n:Held FH w ea ec q hs)(o:∀k,FH k->¬F3 E I b6 k)(p:4*q<=1000000000)(f a g:Int)(h i)(j:iD)(l m):
  ik 20 #[ii W,fD #[fY 4,fY f,fY a,fY g,hZ h,hZ i,fy j l m]] w λe J=>e=fF (fE fm)/\vN ft E I b6 FH w J W s r (q+1) c5 c6 c7 c8 R c11:=by
 by_cases c:fJ A a=2;have hid:¬(a<1\/(fv A:Int)<a):=λb=>by rw[iJ b]at c;cases c
 obtain⟨d,rfl⟩:∃d:Nat,a=(d:Int)+1:=⟨(a-1).toNat,by omega⟩
 grind [xa,Ss]
 grind [Od]
theorem Il{f b a}{H Z}{i}{e}{id ec x y:Int}(g:W3 ft E I b6 w W s r A O c5 c6 c7 c8 c9 R c11)(l:ju w f)(m:fH b6 f b)(U:iP ft (kB b6 f b) b s H)
  (n:fH I b a)(o:gi (kB I b a) a r Z)(p:jv A H i e)(j:AG O Z (i.map<|lS (fv A)) x y)(h:e=qr #[fY id,fY ec]):
  Cu A H O Z id ec x y/\mG E a W s r (fv A) c5 c6 c7 c8 c9 R c11/\iP ft (kB b6 f b) a s H/\gi (kB I b a) a r Z/\Sep a E (kB I b a) (kB b6 f b)/\gR Z/\fH (F3 E I b6) w a:=by
 have⟨q,t,k,u⟩:=Xs g.twin p j;rw[h]at k;obtain⟨rfl,rfl⟩:id=q/\ec=t:=by simpa using k
 obtain⟨v,z,c,d,_⟩:=ym g l m U n;refine⟨u,v,z,o,c,Xt g.at_ (λe h=>?_) j,d⟩;obtain⟨B,_,rfl⟩:=jC.1 h
 have:=g.twin.1
 grind [lS,Int]
def Su{c d}{g h}{H Z}{i:Nat}(m:mG E c W s r (fv A) c5 c6 c7 c8 c9 R c11)(U:iP ft h c s H)(n:gi g c r Z)(hs:Sep c E g h)(f:fH (F3 E I b6) w c)
  (a:fH (λk=>k=i) c d)(o:¬E i)(p:¬g i)(q:¬h i)(u:w.heap.size<=i):
  mG E d W s r (fv A) c5 c6 c7 c8 c9 R c11/\iP ft h d s H/\gi g d r Z/\Sep d E g h/\fH (F3 E I b6) w d:=
 ⟨m.keep (λ_ j=>j) λk b=>a.block k (hs.ll k b) λe=>o<|e▸b,iP.keep U (λ_ j=>j) λk b=>a.block k (hs.sl k b).1 λe=>q<|e▸b,n.keep (λ_ j=>j) λk b=>a.block k (hs.rl k b).1 λe=>p<|e▸b,hs.below a.size,
  ⟨a.os.trans f.os,a.tape.trans f.tape,a.output.trans f.output,ww f.size a.size,λk l t=>(a.block k (nz l f.size) λe=>by omega).trans<|f.block k l t⟩⟩
def iz{w:fq}{e}{t}{d}{m c}{b}(a:w.ownsRow e t 3 (fy d m c) m (flat b)):jw w d m b:=by
 have f:fv b=m:=by have:=a.1;rw[ly]at this;omega
 refine⟨f,λg=>?_⟩;have⟨h,k,i⟩:=hh a g;have j:=(lK i).1;subst j;exact⟨h,0,fX,gc a fX,ks a⟩
def xl{d:Nat->Prop}{e:Nat}{w J}(hF:∀k,d k->k<e)(j:fH d w J){b}{t}{f n}{g}{h}(c:w.ownsRow b t f g n h)(m:e<=b):J.ownsRow b t f g n h:=
 gg c λa i=>j.block a (c.lt a i).2 (λl=>by have:=hF a l;have:=(c.lt a i).1;omega)
theorem vO{c}{w d e}(a:fH c w d)(b:fH c d e):fH c w e:=
 ⟨b.os.trans a.os,b.tape.trans a.tape,b.output.trans a.output,ww a.size b.size,λq f g=>(b.block q (nz f a.size) g).trans<|a.block q f g⟩
def Xy{a d:List fV}{b:Nat}{c:fu}(e:(flat a)[b]?=fh c):(flat<|a++d)[b]?=fh c:=by
 rwa [ra,wz (wI.1 e).1]
theorem Xz(d:W3 ft E I b6 w W s r A O c5 c6 c7 c8 c9 R c11)(x:fV):ik 41 #[ii W,fY x.2.2] w (UV (fY (lS (fv A) x).2.2) w):=by
 by_cases b:1<=x.2.2/\x.2.2<=(fv A:Int);obtain⟨a,c⟩:∃a:Nat,x.2.2=(a:Int)+1:=⟨(x.2.2-1).toNat,by omega⟩;have e:(lS (fv A) x).2.2=(a:Int):=by unfold lS;rw[lv b];show x.2.2-1=_;omega
 rw[e,c]
 grind [si]
 grind [lS,zO]
theorem Let{g i a}{j b c k d}{e}{f}(l:W3 ft E I b6 w W s r A O c5 c6 c7 c8 c9 R c11)(m:fH b6 g i)(n:fH I i a)(t:g.ownsRow j 96 3 (fy e k d) k (flat f))(u:g.ownsRow b 96 3 (my c 0 (k+3)<|k+3) (k+3) (flat<|f++List.replicate 3 Bd))
  (o:w.heap.size<=j)(p:w.heap.size<=b)(x:k<=2097152)(v:k=0->e=fj/\d=0):
  ik 83 #[my c 0 (k+3)<|k+3,fy e k d] a ((vd (fE fm) a))/\a.ownsRow b 96 3 (my c 0 (k+3)<|k+3) (k+3) (flat<|f++List.replicate 3 Bd):=by
 have f6:∀k,b6 k->k<w.heap.size:=λk h=>(l.sep.sl k h).1;have f7:∀k,I k->k<w.heap.size:=λk h=>(l.sep.rl k h).1;have q:=xl f7 n (xl f6 m u p) p;exact⟨fin c e k d f a (iz<|xl f7 n (xl f6 m t o) o) (by omega) v b q,q⟩
theorem jmp{n}{a:List fV}(hs:∀e∈a,e.1.size<=maxLen):(∀e∈a.map (lS n),e.1.size<=maxLen)/\∀e∈a.map (lS n),-1<=e.2.2/\e.2.2<(n:Int):=by
 grind [lS,Int]
def jw.below{w J}{a}{m}{b}(c:jw w a m b)(d:ju w J):jw J a m b:=
 ⟨c.1,λh=>by
  have⟨e,off,i,f,j⟩:=c.2 h
  exact⟨e,off,i,nz f d.size,λg k l=>(d.cell (p:=(ie e<|off+g)) f).trans<|j g k l⟩⟩
def mN (d:List Ob->Prop)(ft:PTp)(E I b6:Nat->Prop)(w J:fq)(W s r:Nat)(c5 c6 c7 c8 c9 R c11:fu):Prop:=
 ∃a b c H Z,W3 ft a b c J W s r H Z c5 c6 c7 c8 c9 R c11/\zN E I b6 a b c w.heap.size/\fH (F3 E I b6) w J/\d H
def mN.un{b:List Ob->Prop}{J}(a:mN b ft E I b6 w J W s r c5 c6 c7 c8 c9 R c11):Stepped ft E I b6 w J W s r c5 c6 c7 c8 c9 R c11:=by
 have⟨f,g,c,d,e,h,i,a,_⟩:=a;exact⟨f,g,c,d,e,h,i,a⟩
theorem FB{a:List Ob->Prop}{b J}(c:ju w b)(d:mN a ft E I b6 b J W s r c5 c6 c7 c8 c9 R c11):mN a ft E I b6 w J W s r c5 c6 c7 c8 c9 R c11:=by
 have⟨e,f,g,H,Z,h,hs,i,j⟩:=d;exact⟨e,f,g,H,Z,h,hs.mono c.size,fH.after i c,j⟩
theorem xm(b:W3 ft E I b6 w W s r A O c5 c6 c7 c8 c9 R c11)(D F G:Int)(h K:fO)(L:iD)(M N)(V:h.size<=maxLen):
  ik 20 #[ii W,fD #[fY 1,fY D,fY F,fY G,hZ h,hZ K,fy L M N]] w λe J=>e=fF (fE fm)/\mN (λak=>∃e,lq A ak h e) ft E I b6 w J W s r c5 c6 c7 c8 c9 R c11:=by
 have d:fe (W3 ft E I b6 w W s r A O c5 c6 c7 c8 c9 R c11):=b;have⟨al,am,X,an⟩:=b.law.cells;obtain⟨u,v⟩:=oX (.cells #[fY 1,fY D,fY F,fY G,hZ h,hZ K,fy L M N] 57:Obj);obtain⟨f,j⟩:=oX<|w.alloc u;have l:ju w f:=by rw[j];exact(mi _ _).alloc (lw _) u
 have ao:ju w f.drew:=jf l 1;have P:=b.below ao;have Y:=Ih P.yl h V;have aa:fe _:=Y;have ap:f.c w.heap.size 4=fh (hZ h):=by rw[j,v];simp
 have aq:=(l.cell (p:=(ie W 0)) X).trans al;have ar:=(l.cell (p:=(ie W 1)) X).trans am;have aH:f.heap.size=w.heap.size+1:=by rw[j];simp
 have au:fe (W3 ft E I b6 f.drew W s r A O c5 c6 c7 c8 c9 R c11):=P;clear b Y P;go_enter rts,rop;go_wp2;rw[<-v,<-j];have aI:fe (u=.cells #[fY 1,fY D,fY F,fY G,hZ h,hZ K,fy L M N] 57):=v;have aJ:fe (f=w.alloc u):=j;clear v j
 go_region_with(first|(go_at_call 35;apply Ps aa.o;rintro e i ⟨H,Q,ab,m⟩;have⟨id,ec,S⟩:=Q.shape;have T:fe (lq A H h e):=Q;have av:fe (e=qr #[fY id,fY ec]):=S;rw[S];clear Q S))
 all_goals
  have z:fH b6 f i:=⟨m.os,m.tape,m.output,m.size,m.block⟩;have o:∀x,x<f.heap.size->¬b6 x->i.heap[x]?=f.heap[x]?:=λx aw B=>z.block x aw B;have ac:¬b6 W:=λq=>(au.o.sep.sl W q).2 an;have ax:¬b6 w.heap.size:=λq=>by have:=(d.o.sep.sl _ q).1;omega
  have aK:=(wJ (a:=(ie W 0))<|o W (by omega) ac).trans aq;have aL:=(wJ (a:=(ie W 1))<|o W (by omega) ac).trans ar;have aM:=(wJ (a:=(ie w.heap.size 4))<|o w.heap.size (by omega) ax).trans ap;have aN:f.heap.size<=i.heap.size:=z.size;have ad:gi I i.drew r O:=d.o.ref.keep (λ_ b=>b) λk g=>(o k (by have:=(d.o.sep.rl k g).1;omega) (d.o.sep.rs k g)).trans<|l.block k (d.o.sep.rl k g).1;have ay:fe (mG E i W s r (fv A) c5 c6 c7 c8 c9 R c11):=d.o.law.keep (λ_ b=>b) λk g=>(o k (by have:=d.o.sep.ll k g;omega) λq=>(d.o.sep.sl k q).2 g).trans<|l.block k (d.o.sep.ll k g);have az:fe (iP ft (kB b6 f i) i s H):=ab;have aA:fe (fH b6 f i):=z;have ae:=Lk ad h V;have aB:fe _:=ae;clear aa ab m z ae ad
  go_frame
  go_wp2
  go_region_with(first|(go_at_call 36;apply Ps aB.o;rintro aO aP ⟨x,y,Z,rfl,af,ag,ah⟩))
  all_goals
   have ai:=Xu d.o (show ju w f from l) aA.o az.o ay.o ah ag T.o af av.o;have c:fe _:=ai;clear ai af ag ah
   go_frame
   have aj:=λ(e:Int)(aC:fq)=>mj e aC;have⟨aD,_,U⟩:=c.o.1;subst aD;by_cases C:ec=0
   ·have aE:=Fy c.o.2.1 c.o.2.2.2.1 c.o.2.2.1 c.o.2.2.2.2.1 c.o.2.2.2.2.2.1 c.o.1 C d.o.twin.1
    subst C;clear U;have aQ:((0:Int) != 0)=fo:=by simp
    go_wp2_with(first
     |(go_at_call 22;refine tB (aj _ _) ?_)
     |(go_at_call 37;refine Hk aE λaR⟨aF,t⟩=>?_))
    go_ret;refine⟨fX,_,_,_,H,Z,aF,?_,?_,⟨_,T.o⟩⟩;have aG:=c.o.2.2.2.2.2.2.size;refine λk=>⟨?_,?_,?_⟩<;>rintro(b|b)
    exact .inl b;exact .inr<|ww aG b.1;exact .inl b
    have:=b.1
    exact .inr (by omega);exact .inl b
    have:=b.1
    exact .inr (by omega);have n:=c.o.2.2.2.2.2.2;exact⟨t.os.trans n.os,t.tape.trans n.tape,t.output.trans n.output,ww n.size t.size,λk g B=>(t.block k (nz g n.size) λb=>B<|.inl b).trans<|n.block k g B⟩
   have hid:id=0/\H=A/\Z=O:=by
    rcases U with b|b
    exact b.2;exact absurd b.1 C
   have aS:(ec != 0)=fm:=by simpa using C
   have aT:(ec==ec)=fm:=by simp
   obtain⟨rfl,rfl,rfl⟩:=hid;clear U;go_wp2_with(go_at_call 22;refine tB (aj _ _) ?_);go_ret;refine⟨fX,_,_,_,H,Z,⟨c.o.2.1,c.o.2.2.2.1,c.o.2.2.1,d.o.twin,d.o.at_,c.o.2.2.2.2.1⟩,?_,c.o.2.2.2.2.2.2,⟨_,T.o⟩⟩;refine λk=>⟨.inl,?_,?_⟩<;>rintro(b|b);exact .inl b
   have:=b.1
   exact .inr (by omega);exact .inl b
   have:=b.1
   exact .inr<|by omega
theorem fn0(b:W3 ft E I b6 w W s r A O c5 c6 c7 c8 c9 R c11)(aS aT aU aV:Int)(aW aX)(ac)(t au)(c)(T:jw w ac t c)(bR:t<=2097152)(aY:∀e∈c,e.1.size<=maxLen):
  ik 38 #[ii W,fD #[fY aS,fY aT,fY aU,fY aV,hZ aW,hZ aX,fy ac t au]] w λe J=>e=fF (fE fm)/\mN (λbS=>∃e,jv A bS c e) ft E I b6 w J W s r c5 c6 c7 c8 c9 R c11:=by
 have⟨bT,U,bU,bV,bW⟩:=kM Vp;have⟨bX,bY,bZ,ca,cb⟩:=kM wP;have g:fe (W3 ft E I b6 w W s r A O c5 c6 c7 c8 c9 R c11):=b;have⟨cT,cU,cV,cc⟩:=b.law.cells;obtain⟨aZ,V⟩:=oX (.cells #[fY aS,fY aT,fY aU,fY aV,hZ aW,hZ aX,fy ac t au] 57:Obj);obtain⟨f,ad⟩:=oX<|w.alloc aZ;have av:ju w f:=by rw[ad];exact(mi _ _).alloc (lw _) aZ
 have bb:f.cell? (ie w.heap.size 6)=fh (fy ac t au):=by rw[ad,V];simp
 have bc:w.heap.size<f.heap.size:=by rw[ad];simp
 have ae:fe (W3 ft E I b6 f W s r A O c5 c6 c7 c8 c9 R c11):=b.below av;have ak:fe (jw w ac t c):=T;have bd:fe (∀e∈c,e.1.size<=maxLen):=aY;obtain⟨n,af⟩:=oX<|fv A;have aw:fe (n=fv A):=af;clear b T aY af;go_enter func38,ntmps38;go_wp2;rw[<-V,<-ad];clear V ad
 go_loopw [5,6,7] (λl m i wr=>∃(k:Nat) (L:iD) (M:Nat) (N:iD) (P:Nat),k<=t/\i=.int .i64 (k:Int)/\l=fy L k M/\m=fy N k P/\ju f wr/\fe (wr.ownsRow f.heap.size 96 3 (fy L k M) k<|flat (c.take k))/\fe (wr.ownsRow f.heap.size 112 3 (fy N k P) k<|flat ((c.take k).map<|lS n))/\fe (k=0->L=fj/\M=0)) (λ_ _ i _=>t-(intOf i).toNat)
 case atStart=>exact⟨0,fj,0,fj,0,Fr _,rfl,rfl,rfl,mi _ _,jY _ _ _ _,jY _ _ _ _,λ_=>⟨rfl,rfl⟩⟩
 case round=>
  obtain⟨k,L,M,N,P,cW,rfl,rfl,rfl,u,D,Q,be⟩:=hrel;have cX:=u.size;have bf:=(u.cell (p:=(ie w.heap.size 6)) (by show w.heap.size<_;omega)).trans bb;by_cases cd:k<t
  ·have⟨al,off,LA,ax,bg⟩:=ak.o.2 (by omega)
   have ay:k<fv c:=by rw[ak.o.1];exact cd
   have⟨c0,c1,c2⟩:=lr bg ay;obtain⟨x,az⟩:=oX<|c[k];rw[<-az]at c0 c1 c2;have aA:ju w wr:=av.trans<|u.mono (by omega);have ce:=(aA.cell (p:=(ie al<|off+k*3)) ax).trans c0;have cf:=(aA.cell (p:=(ie al<|off+k*3+1)) ax).trans c1;have cg:=(aA.cell (p:=(ie al<|off+k*3+2)) ax).trans c2;have cY:al<wr.heap.size:=by omega
   rw[LA]at bf;have bh:fe (x=c[k]):=az;have bi:fe (∀am,ik 39 #[ii W,fY x.2.2] (wr.alloc am) λe J=>e=fF (fY x.2.2)/\J=wr.alloc am):=λam=>Fz (ae.o.below<|u.alloc u.size am) x.2.2
   have cZ:(k:Int)<(t:Int):=by omega
   clear bg c0 c1 c2 az LA;go_wp2_with(first|(go_at_call 39;refine tB (bi.o _) ?_)|(at_builtin;refine yO _ fX (.tmp 33) (.tmp 40) 55 fX f.heap.size 96 bT _ 3 32 Def U bU bV bW fX (by decide) _ _ _ fX ((D.o.alloc _).alloc _) (ie (wr.heap.size+1) 0) 1 1 (pB x) fX fX (ub (wr.alloc _) x _ _<|by simp) (se x) (by unfold maxLen;omega) (by omega) (by simp;omega) ?_));intro ch o aB ag _;have V:f.heap.size<=((wr.alloc<|Obj.cells #[Value.string x.fst,Value.int IntKind.i64 x.snd.fst,Value.int IntKind.i64 x.snd.snd] 96).alloc<|Obj.cells #[Value.string x.fst,Value.int IntKind.i64 x.snd.fst,Value.int IntKind.i64 x.snd.snd] 96).heap.size:=by simp;omega
   have ah:ju f o:=Hm ((u.alloc u.size _).alloc (by simp;omega) _) V ((D.o.alloc _).alloc _) ag;have bj:fh wr.heap.size≠(Value.slice L k M).ownBlock:=λe=>by have:=gc D.o e.symm;omega
   have aC:=ag.block wr.heap.size (by simp;omega) bj;have bk:o.cell? (ie wr.heap.size 0)=fh (hZ x.1):=(wJ (a:=(ie wr.heap.size 0)) aC).trans (by simp);have ci:o.cell? (ie wr.heap.size 1)=fh (fY x.2.1):=(wJ (a:=(ie wr.heap.size 1)) aC).trans (by simp);have aD:fe (o.ownsRow f.heap.size 96 3 ch (k+1)<|flat (c.take<|k+1)):=by show World.ownsRow _ _ _ _ _ _ _;rw[<-Jd ay,<-bh.o];exact aB
   have aE:fe (o.ownsRow f.heap.size 112 3 (fy N k P) k<|flat ((c.take k).map<|lS n)):=gg Q.o (λC v=>by
    have T:=gc Q.o v;rw[ag.block C (by simp;omega)<|PH Q.o D.o (by decide) v,sK _ _ _ (by simp;omega),sK _ _ _ T])
   have da:wr.heap.size<o.heap.size:=by have:=ag.size;simp at this;omega
   have cj:fe (∀q,ik 41 #[ii W,fY x.2.2] (o.drewN q) λe J=>e=fF (fY (lS n x).2.2)/\J=o.drewN q):=λq=>by rw[aw.o];exact Xz (ae.o.below<|jf ah q) x
   obtain⟨bl,bm,rfl⟩:=pp aB;clear aB ag V aC bj bi ce cf cg;go_wp2
   go_region_law(first
    |(refine pw fX (.tmp 42) (.tmp 51) 106 fX f.heap.size 112 bX _ 3 32 abU bY bZ ca cb fX (by decide) (fy N k P) k (flat<|(c.take k).map (lS n)) (by simp[Act.eval]) (rJ (show o.drew.ownsRow _ _ _ _ _ _ from aE.o) _) (ie o.heap.size 0) 1 1 (pB<|lS n x) (by simp[Act.eval]) fX (ub o.drew (lS n x) _ _ fX) (se _) (by unfold maxLen;omega) (by omega) (by have:=ah.size;simp;omega) ?_;intro ck aF aG aH _)
    |(go_simp;go_at_call 41;refine Ps (cj.o 1) ?_;rintro _ _ ⟨rfl,rfl⟩))
   all_goals
    have cl:ju f aF:=Hm ((jf ah 1).alloc ah.size _) (by have:=ah.size;simp;omega) (rJ (show(o.drewN 1).ownsRow _ _ _ _ _ _ from aE.o) _) aH;have cm:fe (aF.ownsRow f.heap.size 112 3 ck (k+1)<|flat ((c.take<|k+1).map<|lS n)):=by
     show World.ownsRow _ _ _ _ _ _ _;rw[vv ay,nZ,lM,Cf,ra,tz,<-bh.o];exact aG
    have cn:fe (aF.ownsRow f.heap.size 96 3 (fy bl (k+1) bm) (k+1)<|flat (c.take<|k+1)):=gg aD.o (λC v=>by
     have T:=gc aD.o v;rw[aH.block C (by simp;omega)<|PH aD.o aE.o (by decide) v,sK _ _ _<|show C<(o.drewN 1).heap.size from T];rfl)
    obtain⟨cp,cq,rfl⟩:=pp aG;clear aG aH;go_wp2;go_roundw
    case rel=>exact⟨k+1,bl,bm,cp,cq,by omega,by go_num,rfl,rfl,cl,cn.o,cm.o,λe=>by omega⟩
    case measure=>simp[intOf];omega
  have cr:k=t:=by omega
  subst cr;have ct:decide ((k:Int)<(k:Int))=fo:=yv (by omega);have bn:c.take k=c:=oM (by rw[ak.o.1];exact lw _);rw[bn]at D Q;have bo:=NT L k M c wr (iz D.o) (by omega) be.o;have cu:fe _:=bo;clear bo bn;go_wp2_with(go_at_call 81;apply Ps cu.o;rintro _ z ⟨j,rfl,bp,aI⟩;have an:fe _:=bp;clear bp;have ai:ju f z:=u.trans<|aI.mono u.size;have cv:=(mG.cells (ae.o.below ai).law).1;have cw:=(mG.cells (ae.o.below ai).law).2.2.1);have aJ:ju w z:=av.trans<|ai.mono (by omega);have cx:fe (W3 ft E I b6 z W s r A O c5 c6 c7 c8 c9 R c11):=ae.o.below ai;have bq:fe (z.ownsRow f.heap.size 96 3 (fy L k M) k<|flat c):=gg D.o λC v=>aI.block C<|gc D.o v;have br:fe (z.ownsRow f.heap.size 112 3 (fy N k P) k<|flat (c.map<|lS n)):=gg Q.o λC v=>aI.block C<|gc Q.o v;have cy:f.heap.size<=j/\j<z.heap.size:=by have:=World.ownsRow.lt an.o j fX;exact⟨ww u.size this.1,this.2⟩
  have bs:=Lx (g.o.below<|jf aJ 1).yl j 0 k (k+3) c ak.o.1 cy.2 (by omega) (λF cz cA=>ks an.o F cz<|Xy cA) bd.o;have bt:fe _:=bs;have db:f.heap.size<=z.heap.size:=ai.size;have dc:f.heap.size<=wr.heap.size:=u.size;clear bs D Q bf bb
  go_region_with(first|(go_at_call 26;apply Ps bt.o;rintro e G ⟨H,aK,bu,X⟩;have⟨id,Y,aL⟩:=aK.shape;have aM:fe (jv A H c e):=aK;have cC:fe (e=qr #[fY id,fY Y]):=aL;rw[aL];clear aK aL))
  all_goals
   have aa:fH b6 z G:=⟨X.os,X.tape,X.output,X.size,X.block⟩;have cD:fe (iP ft (kB b6 z G) G s H):=bu;have bv:fe (fH b6 z G):=aa;have dd:z.heap.size<=G.heap.size:=aa.size;have cE:G.cell? (ie W 1)=fh (ii r):=(wJ (a:=(ie W 1)) (aa.block W cw λh=>(g.o.sep.sl W h).2 cc)).trans (mG.cells cx.o.law).2.1;have de:W<G.heap.size:=by omega
   have bw:gi I G r O:=g.o.ref.keep (λ_ b=>b) λq K=>(aa.block q (by have:=(g.o.sep.rl q K).1;omega) (g.o.sep.rs q K)).trans<|aJ.block q (g.o.sep.rl q K).1;have bx:=xl (λq K=>(g.o.sep.sl q K).1) aa br.o<|Ef bc;have aN:=jmp (n:=n) bd.o;have bz:=Ny bw N k P (c.map<|lS n) (iz bx) (by omega) aN.1 (by rw[<-g.o.twin.1,<-aw.o];exact aN.2);have bA:fe _:=bz;clear bz aN bx bw aa X bu bt
   go_frame
   go_wp2_with(first
    |(go_at_call 82;apply Ps bA.o;rintro _ cF ⟨x,y,Z,rfl,bB,bC,ao⟩;have bD:fe _:=Il g.o aJ bv.o cD.o ao bC aM.o (by rw[<-aw.o];exact bB) cC.o;have ap:fe _:=Let g.o bv.o ao bq.o an.o (Ef bc) (by omega) bR be.o;have df:=ao.size;clear bB bC ao)
    |(go_at_call 83;refine Hk ap.o.1 λbE bF=>?_))
   have cG:fe (bE.ownsRow 0 96 3 (my j 0 (k+3)<|k+3) (k+3)<|flat (c++List.replicate 3 Bd)):=gg (tR ap.o.2<|Fr _) λC v=>bF.block C<|gc ap.o.2 v;clear bA bq br an ap cv cE
   go_loopw [16] (λi bG=>∃d:Nat,d<=k+3/\i=.int .i64 (d:Int)/\fe (fH (λq=>q=j) bE bG)/\fe (∃aO,bG.ownsRow 0 96 3 (my j 0 (k+3)<|k+3) (k+3) aO)) (λi _=>k+3-(intOf i).toNat)
   case atStart=>exact⟨0,Fr _,rfl,fH.refl _,⟨_,cG.o⟩⟩
   case round=>
    obtain⟨d,dg,rfl,aP,aQ⟩:=hrel;have⟨aO,S⟩:=aQ.o;by_cases dh:d<k+3
    ·have di:=λF=>S.frozenAt F
     have aq:∀F,F<3->∃cH,wr.cell? (ie j<|d*3+F)=fh cH:=λF dj=>by
      rw[S.cellAt (d*3+F)<|by omega];exact⟨_,jG (by rw[S.1];omega)⟩
     have⟨dk,bk⟩:=aq 0 (by omega);have⟨dl,ci⟩:=aq 1 (by omega);have⟨dm,dn⟩:=aq 2 (by omega);rw[Ee]at bk;have dp:(d:Int)<(k:Int)+3:=by omega
     have dq:j<wr.heap.size:=gc S fX;have cI:fe (wr.ownsRow 0 96 3 (my j 0 (k+3)<|k+3) (k+3) aO):=S;clear aq aQ S;go_wp2;refine⟨⟨d+1,by omega,by go_num,vO (vO (vO aP.o<|rq fX)<|rq fX)<|rq fX,⟨_,(st1 (st1 (st1 cI.o _ _).1 _ _).1 _ _).1⟩⟩,by simp[intOf];omega⟩
    have ct:decide ((d:Int)<(k:Int)+3)=fo:=yv (by omega);have⟨bH,bI,bJ,bK,bL,bM,bN⟩:=bD.o;have bO:fH (λq=>q=j) cF wr:=vO (fH.fK bF) aP.o;have hF:=Su bI bJ bK bL bN bO (λh=>by have:=g.o.sep.ll j h;omega) (λh=>by
     rcases h with h|h
     have:=(g.o.sep.rl j h).1
     omega
     have:=h.1
     omega) (λh=>by
     rcases h with h|h
     have:=(g.o.sep.sl j h).1
     omega
     have:=h.1;omega)<|by omega
    have B:fe _:=hF;have cJ:fe (gR Z):=bM;have cK:fe (Cu A H O Z id Y x y):=bH;have bQ:=λ(e:Int)(cL:fq)=>mj e cL;have⟨cN,_,aR⟩:=bH;subst cN;clear S aQ hF bI bJ bK bL bM bN bO aP bD;by_cases ar:Y=0
    ·have cO:=Fy B.o.1 B.o.2.2.1 B.o.2.1 B.o.2.2.2.1 cJ.o cK.o ar g.o.twin.1
     subst ar;clear aR;have dr:((0:Int) != 0)=fo:=by simp
     go_wp2_with(first
      |(go_at_call 22;refine tB (bQ _ _) ?_)
      |(go_at_call 37;refine Hk cO λds⟨cQ,aj⟩=>?_))
     go_ret;refine⟨fX,_,_,_,H,Z,cQ,?_,?_,⟨_,aM.o⟩⟩;have cS:=B.o.2.2.2.2.size;refine λq=>⟨?_,?_,?_⟩<;>rintro(b|b)
     exact .inl b;exact .inr<|ww cS b.1;exact .inl b
     have:=b.1
     exact .inr (by omega);exact .inl b
     have:=b.1
     exact .inr (by omega);have ab:=B.o.2.2.2.2;exact⟨aj.os.trans ab.os,aj.tape.trans ab.tape,aj.output.trans ab.output,ww ab.size aj.size,λq K af=>(aj.block q (nz K ab.size) λb=>af<|.inl b).trans<|ab.block q K af⟩
    have hid:id=0/\H=A/\Z=O:=by
     rcases aR with b|b
     exact b.2;exact absurd b.1 ar
    have dt:(Y != 0)=fm:=by simpa using ar
    have du:(Y != Y)=fo:=(by simp);obtain⟨rfl,rfl,rfl⟩:=hid;clear aR;go_wp2_with(go_at_call 22;refine tB (bQ _ _) ?_);go_ret;refine⟨fX,_,_,_,H,Z,⟨B.o.1,B.o.2.2.1,B.o.2.1,g.o.twin,g.o.at_,B.o.2.2.2.1⟩,?_,B.o.2.2.2.2,⟨_,aM.o⟩⟩;refine λq=>⟨.inl,?_,?_⟩<;>rintro(b|b);exact .inl b
    have:=b.1
    exact .inr (by omega);exact .inl b
    have:=b.1
    exact .inr<|by omega
theorem tZ(g:W3 ft E I b6 w W s r A O c5 c6 c7 c8 c9 R c11)(h i j:Int)(k l)(d)(b m)(c)(n:jw w d b c)(t:b<=2097152)(o:∀e∈c,e.1.size<=maxLen):
  ik 20 #[ii W,fD #[fY 2,fY h,fY i,fY j,hZ k,hZ l,fy d b m]] w λe J=>e=fF (fE fm)/\mN (λu=>∃e,jv A u c e) ft E I b6 w J W s r c5 c6 c7 c8 c9 R c11:=by
 have f:∀a,ju w (w.alloc a):=λa=>(mi _ _).alloc (lw _) _;have p:=λa=>fn0 (g.below<|f a) 2 h i j k l d b m c (n.below<|f a) t o;have v:fe _:=p;clear p g n o;go_enter rts,rop;go_wp2_with(go_at_call 38;refine Hk (v.o _) λy q=>?_;have x:fe _:=FB (f _) q;clear q);go_ret;exact⟨fX,x.o⟩
structure Step where
 kind:Int
 a1:Int
 a2:Int
 a3:Int
 S:fO
 T:fO
 la:iD
 lm:Nat
 lc:Nat
 es:List fV
def Step.val (a:Step):fu:=fD #[.int .i64 a.kind,.int .i64 a.a1,.int .i64 a.a2,.int .i64 a.a3,fA a.S,fA a.T,fy a.la a.lm a.lc]
structure Step.Fits (o:Step)(w:World):Prop where
 S:o.S.size<=maxLen
 list:jw w o.la o.lm o.es
 many:o.lm<=2097152
 names:∀e∈o.es,e.1.size<=maxLen
 sS:o.S.size<=1048576
 sT:o.T.size<=1048576
 aaS:-9223372036854775808<=o.a1/\o.a1<=9223372036854775807
 aaT:-9223372036854775808<=o.a2/\o.a2<9223372036854775808
def Sv(b:W3 ft E I b6 w W s r A O c5 c6 c7 c8 (fy ea (4*q) ec) R c11)(p:Held FH w ea ec q hs)(t:∀k,FH k->¬F3 E I b6 k)(u:4*q<=1000000000)(c:Step)(o:c.Fits w)(v:1<=c.kind/\c.kind<=5):
  ik 20 #[ii W,c.val] w λe J=>e=fF (fE fm)/\∃d,d<=q+1/\vN ft E I b6 FH w J W s r d c5 c6 c7 c8 R c11:=by
 have⟨kind,f,g,h,i,j,l,m,n,x⟩:=c;have of:∀{J},Stepped ft E I b6 w J W s r c5 c6 c7 c8 (fy ea (4*q) ec) R c11->∃d,d<=q+1/\vN ft E I b6 FH w J W s r d c5 c6 c7 c8 R c11:=λhs=>⟨q,Ha _,Bg b p t hs⟩;have y:kind=1\/kind=2\/kind=3\/kind=4\/kind=5:=by simp only at v;omega
 rcases y with rfl|rfl|rfl|rfl|rfl
 exact(xm b f g h i j l m n o.S).mono λe J⟨a,hs⟩=>⟨a,of hs.un⟩;exact(tZ b f g h i j l m n x o.list o.many o.names).mono λe J⟨a,hs⟩=>⟨a,of hs.un⟩;exact(Ii b f g h i j l m n).mono λe J⟨a,hs⟩=>⟨a,of hs⟩;exact(LB b p t u f g h i j l m n).mono λe J⟨a,hs⟩=>⟨a,q+1,lw _,hs⟩;exact(Ij b f g h i j l m n).mono λe J⟨a,hs⟩=>⟨a,of hs⟩
theorem Sw(W:fq)(a)(t)(cs:Array fu)(b:cs=(flat a).toArray):jw (W.k cs t) (fh<|ie W.heap.size 0) (fv a) a:=by
 refine⟨fX,λ_=>⟨W.heap.size,0,fX,by simp,λc d e=>?_⟩⟩
 all_goals simp_all
def Im:fV:=(⟨#[120]⟩,1,1)
def Oe:fV:=(⟨#[100]⟩,2,2)
def Og:fV:=(⟨#[97]⟩,1,1)
def Oh(W:fq)(a)(t)(cs:Array fu)(b:cs=(flat a).toArray)(c:fv a<=16)(hs:∀e∈a,e.1.size<=12)(n:Nat)(d:n=fv a):(Step.mk 2 0 0 0 kq kq (fh<|ie W.heap.size 0) n n a).Fits (W.k cs t):=by
 subst d;exact⟨show ByteArray.size kq<=maxLen by decide,Sw W a t cs b,ww c<|by decide,λe f=>ww (hs e f)<|by decide,show ByteArray.size kq<=1048576 by decide,show ByteArray.size kq<=1048576 by decide,⟨show(-9223372036854775808:Int)<=0 by decide,show(0:Int)<=9223372036854775807 by decide⟩,⟨show(-9223372036854775808:Int)<=0 by decide,show(0:Int)<9223372036854775808 by decide⟩⟩
structure Bh (w:World)(a:iD)(n:Nat)(ops:List Step):Prop where
 len:ops.length=n
 many:n<=1048576
 cells:∀i (hi:i<ops.length),∃b off,a=some ⟨b,off,none⟩/\b<w.heap.size/\w.cell? ⟨b,off+i*7,none⟩=some (.int .i64 ops[i].kind)/\w.cell? ⟨b,off+i*7+1,none⟩=some (.int .i64 ops[i].a1)/\w.cell? ⟨b,off+i*7+2,none⟩=some (.int .i64 ops[i].a2)/\w.cell? ⟨b,off+i*7+3,none⟩=some (.int .i64 ops[i].a3)/\
  w.cell? ⟨b,off+i*7+4,none⟩=some (.string ops[i].S)/\w.cell? ⟨b,off+i*7+5,none⟩=some (.string ops[i].T)/\w.cell? ⟨b,off+i*7+6,none⟩=some (.slice ops[i].la ops[i].lm ops[i].lc)
 fits:∀o∈ops,o.Fits w
def Step.Fits.below{b:Step}{w J}(a:b.Fits w)(c:ju w J):b.Fits J:=⟨a.S,a.list.below c,a.many,a.names,a.sS,a.sT,a.aaS,a.aaT⟩
end Go.Proofs.YtlgidcmmgohagaaGreat
namespace Go.Proofs.YtlgidcmmgohagaaGreat
open Go.RowKit Go.Sort Go.Shelf Go.ChangeShapes Go.WideShapes Go.Deep Go.Proofs.Tryz
open Go.Value renaming slice->fy,string->fA,pointer->fB,tuple->fC,agg->fD,bool->fE
open Go.Ending renaming returned->fF
open Option renaming some->fh,none->fj
open Bool renaming true->fm,false->fo
open Go renaming World->fq,Value->fu
open List renaming length->fv,reverse->fx
open Go.RowKit renaming Hid->fe
variable {H:Type}{w:fq}{base:Nat}{sp:Nat->Bool}{held:Bool}
def nE:prog.cellsOf 96=3:=by kernel_rfl
def nOp:prog.cellsOf 57=7:=by kernel_rfl
def Lex:prog.cellsOf 9=1:=by kernel_rfl
def Log:prog.cellsOf 3=1:=by kernel_rfl
def nID:prog.cellsOf 29=1:=by kernel_rfl
def nEs:prog.cellsOf 55=1:=by kernel_rfl
theorem fwd{H:Type}(d:DataW H):1<=Rows.uptoBulk d:=by
 cases d with
 |lit l=>cases l<;>simp[Rows.uptoBulk]
 |_=>simp[Rows.uptoBulk]
theorem xo{H:Type}{d:DataW H}:∀{l:List (DataW H)},d∈l->Rows.uptoBulk d<=Rows.uptoBulkAll l
 |x::r,a=>by
  simp only[Rows.uptoBulkAll]
  rcases oc.1 a with e|e
  rw[e]
  omega
  have:=xo e
  omega
theorem JA{H:Type}:∀(l:List (DataW H)),fv l<=Rows.uptoBulkAll l
 |[]=>Fr _
 |x::r=>by
  have:=JA r
  grind [fwd,Rows.uptoBulkAll,lg]
def FC{H:Type}(a sp:List (DataW H)):fv a<=Rows.uptoBulk (.slice a sp)/\∀d∈a,Rows.uptoBulk d<=Rows.uptoBulk (.slice a sp):=by
 have c:=JA a;simp only[Rows.uptoBulk];exact⟨by omega,λd b=>by have:=xo b;omega⟩
def FD{H:Type}(a:List (DataW H)):∀d ∈ a,Rows.uptoBulk d<=Rows.uptoBulk (.agg a):=λd b=>by
 have:=xo b
 simp only[Rows.uptoBulk]
 omega
theorem JB{w:fq}{a:Addr}{i}{b:fu}(hs:a.spot=fj)(c:w.cell? (a.add i)=fh b):w.c a.block (a.off+i)=fh b:=by
 obtain⟨d,_⟩:=a
 grind [qg]
def add_block(a:Addr)(n):(a.add n).block=a.block:=by unfold Addr.add;split<;>rfl
section
variable {enc:ni×fu->H}
set_option maxRecDepth 100000 in
theorem Oi{n}{cs}{x:DataW H×List MemPlace}(j:DataW.trod enc prog w base sp held n 96 cs=fh x):∃e:fV,cs=pB e/\e.1.size<=maxLen:=by
 obtain⟨l,m,o,p,_,a,b,c,d⟩:=trod_struct3 underlying96 j;rw[nE]at a
 match cs,a with
 |[v0,v1,v2],_=>
  simp only[Lex,Log,nID,Eb,MW,Wo,MZ]at b c d;obtain⟨s,f,_,hs⟩:=DataW.trod_string rls b;obtain⟨k,g,_⟩:=WD bit c;obtain⟨i,h,_⟩:=WD abS d;simp only[Ce,Eg]at f g h;subst f;subst g;subst h;exact⟨(s,k,i),fX,hs⟩
theorem XA{a:Addr}{len:Nat}(c:Nat->fV)(hs:0<len->a.spot=fj/\a.block<w.heap.size)(f:∀i,i<len->∀b,b<3->w.c a.block (a.off+(i*3+b))=(pB<|c i)[b]?):jw w (fh a) len ((List.range len).map c):=by
 refine⟨by simp,λd=>⟨a.block,a.off,?_,(hs d).2,λb g h=>?_⟩⟩
 have:=(hs d).1
 obtain⟨j,_⟩:=a
 grind
 have k:b<len*3:=by
  grind [wI,ly]
 have e:b=b / 3*3+b % 3:=by omega
 grind [iO]
theorem XB{n}{v:fu}{x:DataW H×List MemPlace}(f:DataW.trod enc prog w base sp held n 55 [v]=fh x):
  ∃p g C q,v=fy p g C/\jw w p g q/\(∀e∈q,e.1.size<=maxLen)/\g<=Rows.uptoBulk x.1:=by
 rcases open_slice Def f with⟨c,r⟩|⟨b,len,h,m,J,s,Pl,c,K,L,M,D,r,j⟩
 simp only[Ce,Eg]at c;exact⟨fj,0,0,[],c,⟨fX,λf=>absurd f<|igi _⟩,(λe t=>by cases t),Fr _⟩;simp only[Ce,Eg]at c;have N:len<=m:=by rw[D];split<;>omega
 rw[nE]at j;have E:∀i,i<len->b.spot=fj:=λi U=>by
  obtain⟨cs,d,k⟩:=j 0 (by omega);obtain⟨e,rfl,_⟩:=Oi k;obtain⟨_,_,l⟩:=hTe d
  have:=World.cell?_spot (v:=fA e.1) (by rw[l 0<|by omega];rfl)
  simpa [Addr.add]using this
 have F:∀i,i<len->∃e:fV,e.1.size<=maxLen/\b.spot=fj/\b.block<w.heap.size/\∀a,a<3->w.c b.block (b.off+(i*3+a))=(pB e)[a]?:=λi U=>by
  obtain⟨cs,d,k⟩:=j i (by omega);obtain⟨e,rfl,G⟩:=Oi k;obtain⟨_,_,l⟩:=hTe d;have I:b.block<w.heap.size:=by
   have:=World.cells?_block d<|by omega
   rwa [add_block]at this
  have u:=E i U;refine⟨e,G,u,I,λa y=>?_⟩;have z:a<fv (pB e):=by simpa [pB]using y
  have:=l a y
  rw[add_add,jG z]at this;rw[jG z];exact JB u this
 obtain⟨A,o⟩:=choose_lt F;refine⟨fh b,len,h,(List.range len).map A,c,XA A (λB=>⟨(o 0 B).2.1,(o 0 B).2.2.1⟩) λi U=>(o i U).2.2.2,λe t=>?_,?_⟩
 grind
 rw[r]
 have:=(FC ((List.range len).map s) ((List.range<|m-len).map λa=>s<|len+a)).1
 grind
instance:Inhabited Step:=⟨⟨0,0,0,0,ByteArray.empty,ByteArray.empty,none,0,0,[]⟩⟩
def Step.cells (a:Step):gX:=[.int .i64 a.kind,.int .i64 a.a1,.int .i64 a.a2,.int .i64 a.a3,fA a.S,fA a.T,fy a.la a.lm a.lc]
def LC{a:Program}{t}{f0 f1 f2 f3 f4 f5 f6:Field}{fuel}{cs}{x:DataW H×List MemPlace}(j:a.underlying t=fh (.struct #[f0,f1,f2,f3,f4,f5,f6]))(k:DataW.trod enc a w base sp held fuel t cs=fh x):
  ∃c d e f g h i n,x.1=.agg [c.1,d.1,e.1,f.1,g.1,h.1,i.1]/\fv cs=a.cellsOf t/\DataW.trod enc a w base sp held n f0.type ((cs.drop f0.offset).take<|a.cellsOf f0.type)=fh c/\DataW.trod enc a w base sp held n f1.type ((cs.drop f1.offset).take<|a.cellsOf f1.type)=fh d/\
   DataW.trod enc a w base sp held n f2.type ((cs.drop f2.offset).take<|a.cellsOf f2.type)=fh e/\DataW.trod enc a w base sp held n f3.type ((cs.drop f3.offset).take<|a.cellsOf f3.type)=fh f/\DataW.trod enc a w base sp held n f4.type ((cs.drop f4.offset).take<|a.cellsOf f4.type)=fh g/\
   DataW.trod enc a w base sp held n f5.type ((cs.drop f5.offset).take<|a.cellsOf f5.type)=fh h/\DataW.trod enc a w base sp held n f6.type ((cs.drop f6.offset).take<|a.cellsOf f6.type)=fh i:=by
 obtain⟨l,n,_,rfl,m,o,b⟩:=DataW.trod_struct j k
 match l,o with
 | [c,d,e,f,g,h,i],_=>exact⟨c,d,e,f,g,h,i,n,by simp,m,by simpa using b 0 f0 fX,by simpa using b 1 f1 fX,by simpa using b 2 f2 fX,by simpa using b 3 f3 fX,by simpa using b 4 f4 fX,by simpa using b 5 f5 fX,by simpa using b 6 f6 fX⟩
set_option maxRecDepth 100000 in
theorem Vu{n}{cs}{x:DataW H×List MemPlace}(v:DataW.trod enc Tryz.prog w base sp held n 57 cs=some x)(R:Rows.uptoBulk x.1<=1048576):∃f:Step,cs=f.cells/\f.Fits w:=by
 obtain⟨S,T,U,V,y,z,A,W,b,g,N,h,i,j,k,l,m⟩:=LC Tryz.underlying57 v;rw[nOp] at g
 match cs,g with
 | [v0,v1,v2,v3,v4,v5,v6],_=>
  simp only[Lex,Log,nEs,Eb,MW,Wo,MZ] at N h i j k l m;obtain⟨B,o,_⟩:=WD bit N;obtain⟨C,p,_,q⟩:=WD bit h;obtain⟨D,r,_,c⟩:=WD bit i;obtain⟨E,s,_,_⟩:=WD bit j;obtain⟨Z,t,F,G⟩:=DataW.trod_string rls k;obtain⟨d,u,I,X⟩:=DataW.trod_string rls l;obtain⟨J,K,L,M,O,P,Q,Y⟩:=XB m;simp only[Ce,Eg] at o p r s t u;subst o;subst p;subst r;subst s;subst t;subst u;subst O;refine⟨⟨B,C,D,E,Z,d,J,K,L,M⟩,fX,⟨G,P,?_,Q,?_,?_,?_,?_⟩⟩;have a:Rows.uptoBulk A.1<=Rows.uptoBulk x.1:=by
   rw[b];exact FD _ _<|by simp
  grind
  have a:Rows.uptoBulk y.1<=Rows.uptoBulk x.1:=by
   rw[b];exact FD _ _<|by simp
  rw[F] at a;have e:Z.data.toList.length=Z.size:=pq
  grind [Rows.uptoBulk]
  have a:Rows.uptoBulk z.1<=Rows.uptoBulk x.1:=by
   rw[b];exact FD _ _<|by simp
  rw[I] at a;have e:d.data.toList.length=d.size:=pq
  grind [Rows.uptoBulk]
  simp[Lit.wf] at q;exact q;simp[Lit.wf] at c;exact⟨c.1,Int.lt_of_le_of_lt c.2<|by decide⟩
theorem Oj{n}{v:fu}{x:DataW H×List MemPlace}(A:DataW.trod enc prog w base sp held n 22 [v]=fh x)(k:Rows.uptoBulk x.1<=1048576):∃a len c B,v=fy a len c/\Bh w a len B:=by
 rcases open_slice underlying22 A with⟨f,_⟩|⟨a,len,h,m,N,g,Pl,f,O,P,Q,C,D,l⟩
 simp only[Ce,Eg]at f;exact⟨fj,0,0,[],f,⟨fX,Fr _,(λi U=>by cases U),(λb t=>by cases t)⟩⟩;simp only[Ce,Eg]at f;have R:len<=m:=by rw[C];split<;>omega
 rw[nOp]at l;have u:=FC ((List.range len).map g) ((List.range<|m-len).map λd=>g<|len+d);rw[D]at k;have E:len<=1048576:=by
  grind
 have F:∀i,i<len->a.spot=fj:=λi U=>by
  obtain⟨cs,j,o⟩:=l 0 (by omega);obtain⟨b,rfl,_⟩:=Vu o<|ww (u.2 (g 0)<|DY (Rp.2<|by omega)) k;obtain⟨_,_,p⟩:=hTe j
  have:=World.cell?_spot (v:=.int .i64 b.kind) (by rw[p 0<|by omega];rfl)
  simpa [Addr.add]using this
 have G:∀i,i<len->∃b:Step,b.Fits w/\a.spot=fj/\a.block<w.heap.size/\∀d,d<7->w.cell? ⟨a.block,a.off+(i*7+d),fj⟩=(b.cells)[d]?:=λi U=>by
  obtain⟨cs,j,o⟩:=l i (by omega);obtain⟨b,rfl,I⟩:=Vu o<|ww (u.2 (g i)<|DY (Rp.2 U)) k;obtain⟨_,_,p⟩:=hTe j;have q:a.block<w.heap.size:=by
   have:=World.cells?_block j<|by omega
   rwa [add_block]at this
  have r:=F i U;refine⟨b,I,r,q,λd y=>?_⟩;have z:d<fv (b.cells):=by simpa [Step.cells]using y
  have:=p d y
  rw[add_add,jG z]at this;rw[jG z];exact JB r this
 obtain⟨s,J⟩:=choose_lt G;refine⟨fh a,len,h,(List.range len).map s,f,⟨by simp,E,λi U=>?_,λb t=>?_⟩⟩;have K:i<len:=by simpa using U
 obtain⟨_,r,q,e⟩:=J i K;have L:a=⟨a.block,a.off,fj⟩:=by
  obtain⟨S,_⟩:=a
  grind
 have M:((List.range len).map s)[i]=s i:=by simp
 rw[M];exact⟨a.block,a.off,by rw[<-L],q,e 0<|by omega,e 1<|by omega,e 2<|by omega,e 3<|by omega,e 4<|by omega,e 5<|by omega,e 6<|by omega⟩
 grind
end
end Go.Proofs.YtlgidcmmgohagaaGreat
namespace Go.Proofs.YtlgidcmmgohagaaGreat
open Go.RowKit Go.Sort Go.Shelf Go.Proofs.Tryz
open Go.Value renaming slice->fy,string->fA,pointer->fB,tuple->fC,agg->fD,bool->fE
open Go.Ending renaming returned->fF
open Option renaming some->fh,none->fj
open Bool renaming true->fm,false->fo
open Go renaming World->fq,Value->fu
open List renaming length->fv,reverse->fx
open Go.RowKit renaming Hid->fe
set_option maxRecDepth 100000
set_option maxHeartbeats 0
def Cw:fO:=⟨#[97,98,99]⟩
def jps:fN Im.1=fm:=by unfold fN Im;simp only[Av];decide
theorem jup:fN Oe.1=fm:=by unfold fN Oe;simp only[Av];decide
theorem kme:fN Og.1=fm:=by unfold fN Og;simp only[Av];decide
theorem acf{b:List Ob}{e}(a:lq [] b Cw e):b=[xp Cw]:=by
 rcases a with⟨a,_⟩|⟨_,_,i,a,_⟩|⟨_,_,a,_⟩|⟨_,_,_,a,_⟩
 exact absurd a (by decide);cases a
 all_goals grind
theorem acg{b:List Ob}{e:Ending}(a:jv [xp Cw] b [Im] e):∃d:Ob,d.kind=2/\d.gh=[Im]/\d.high=1/\b=[xp Cw,d]:=by
 have h:=jps;have i:Hb [xp Cw] Im=fm:=by decide
 rcases a with⟨⟨x,c,a⟩,_⟩|⟨_,⟨a,_⟩|⟨_,a,_⟩|⟨_,_,⟨x,c,a⟩,_⟩|⟨_,_,_,f,g,_,_,a⟩⟩
 ·all_goals grind
 ·all_goals grind
 ·all_goals grind
 ·all_goals grind
 obtain rfl:f=[Im]:=List.perm_singleton.1 g;have j:gy [xp Cw] [Im]=1:=by decide
 all_goals grind [absurd,decide,gG,xp]
theorem ach{b:List Ob}{e:Ending}{d:Ob}(g:d.kind=2)(m:d.gh=[Im])(n:d.high=1)(a:jv [xp Cw,d] b [Oe,Og] e):3<=fv b/\fJ b 3=2:=by
 have o:∀x∈[Oe,Og],fN x.1=fm:=by
  all_goals grind [jup,kme]
 have p:fJ [xp Cw,d] 2=2:=by
  show d.kind=2;exact g
 have q:fJ [xp Cw,d] 1=1:=fX;have r:∀x∈[Oe,Og],Hb [xp Cw,d] x=fm:=by
  all_goals grind [Hb,Oe,decide,Og]
 rcases a with⟨⟨x,c,a⟩,_⟩|⟨_,⟨a,_⟩|⟨_,a,_⟩|⟨_,_,⟨x,c,a⟩,_⟩|⟨_,_,_,h,j,_,_,a⟩⟩
 ·all_goals grind
 exact absurd (by decide) a
 ·all_goals grind
 ·all_goals grind
 have s:gy [xp Cw,d] h<=5:=by
  refine uz.2 ⟨by decide,λx c=>?_⟩;have f:=j.mem_iff.1 c;simp only[oc,List.not_mem_nil,or_false]at f;rcases f with rfl|rfl
  ·show 1+d.high<=5
   all_goals omega
  show 1+(xp Cw).high<=5;decide
 rcases a with⟨a,_⟩|⟨_,_,i,a,_⟩|⟨_,_,a,_⟩|⟨_,_,_,⟨t,k,u,v,l⟩,_⟩
 omega
 ·all_goals grind [gG,yM,xp]
 ·all_goals grind
 rw[l];exact⟨by simp,k⟩
