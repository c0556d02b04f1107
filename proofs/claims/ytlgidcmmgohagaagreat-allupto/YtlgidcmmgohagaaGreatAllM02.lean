/- A part of the proof. -/
import Derived.Test.YtlgidcmmgohagaaGreatAllM01
set_option linter.all false
namespace Go.Proofs.YtlgidcmmgohagaaGreat
open Go.RowKit Go.Sort Go.Shelf Go.Proofs.Tryz
open Go.Value renaming slice->fy,string->fA,pointer->fB,tuple->fC,agg->fD,bool->fE
open Go.Ending renaming returned->fF
open Option renaming some->fh,none->fj
open Bool renaming true->fm,false->fo
open Go renaming World->fq,Value->fu
open List renaming length->fv,reverse->fx
open Go.RowKit renaming Hid->fe
set_option maxRecDepth 100000
set_option maxHeartbeats 0
variable {C:fq->Prop}{b base bd bf R h cap' ec el g i j k n p r s size:Nat}{Q:Act->Prop}{o:Ob}{xs:gX}{es out:List fV}{o1:Obj}{W w J w1:fq}{d:fO}{c:UInt8}{a ea:iD}{D Dd Df:DataW Unit}{e t:ni}{U:Int}{v:fu}{ops:Array Oper}{F F' G:Nat->Prop}{A H O:List Ob}{rest:List Oper}{l:List UInt8}
variable {ft:kE}
def fileAt (A:List Ob)(d:fO):Option Nat:=A.findIdx? λo=>decide (o.kind=1)&&decide (o.data=d)
def gG (A:List Ob)(es:List fV):Option Nat:=A.findIdx? λo=>decide (o.kind=2)&&decide (o.gh=es)
def sW (A:List Ob)(D:DataW Unit):Prop:=∀d:fO,Maps.has D (.string d.data.toList)=(fileAt A d).isSome/\∀i,fileAt A d=fh i->D.atKey (.string d.data.toList) (.lit<|.int .i64 0)=.lit (.int .i64<|(i:Int)+1)
def wN (es:List fV):Prop:=fv es<=16/\∀e∈es,Fits e/\1<=e.1.size
def wO (A:List Ob)(D:DataW Unit):Prop:=∀es:List fV,wN es->Maps.has D (pj prog es)=(gG A es).isSome/\∀i,gG A es=fh i->D.atKey (pj prog es) (.lit<|.int .i64 0)=.lit (.int .i64<|(i:Int)+1)
def xp (d:fO):Ob:={ kind:=1,data:=d,ea:=fj,el:=0,ec:=0,gh:=[],high:=0 }
def psm (g m c:Nat)(es:List fV)(a:Int):Ob:={ kind:=2,data:=ByteArray.empty,ea:=fh ⟨g,0,fj⟩,el:=m,ec:=c,gh:=es,high:=a }
def wF (w:fq)(F:Nat->Prop)(o:Ob):Prop:=
 (o.kind=1/\o.high=0/\o.data.size<=256)\/
 (o.kind=2/\fv o.gh=o.el/\wN o.gh/\iI o.gh/\0<=o.high/\o.high<=5/\(∀g,(Value.slice o.ea o.el o.ec).ownBlock=fh g->F g)/\w.ownsRow 0 96 3 (fy o.ea o.el o.ec) o.el (flat o.gh))
structure sX (ft:kE)(F:Nat->Prop)(w:World)(s p:Nat)(a:iD)(cap bf bd:Nat)(Df Dd:DataW Unit)(gI:List Ob):Prop where
 fs:F s
 fp:F p
 ff:F bf
 fd:F bd
 fr:∀g,(Value.slice a gI.length cap).ownBlock=some g->F g
 hs:w.heap[s]?=some (.cells #[.pointer (some ⟨p,0,none⟩)] 119 (0,0))
 gQ:jP ft w p a gI.length cap bf bd gI
 ne:bf≠bd
 files:w.ownsMap prog 9 (plainElem prog 29) bf gI.length Df
 lZ:sW gI Df
 rQ:w.ownsMap prog 208 (plainElem prog 29) bd gI.length Dd
 ot:wO gI Dd
 zx:∀o∈gI,wF w F o
def Inv (ft:kE)(F:Nat->Prop)(w:fq)(s:Nat)(A:List Ob):Prop:=∃p a h bf bd Df Dd,sX ft F w s p a h bf bd Df Dd A
def gP (ft:kE)(F:Nat->Prop)(w:fq)(s p:Nat)(A:List Ob):Prop:=∃a h bf bd Df Dd,sX ft F w s p a h bf bd Df Dd A
def gP.inv(a:gP ft F w s p A):Inv ft F w s A:=⟨p,a⟩
structure fH (F:Nat->Prop)(w w':World):Prop where
 os:w'.os=w.os
 tape:w'.tape=w.tape
 output:w'.output=w.output
 size:w.heap.size<=w'.heap.size
 block:∀k,k<w.heap.size->¬F k->w'.heap[k]?=w.heap[k]?
def kB (F:Nat->Prop)(w J:fq)(k:Nat):Prop:=F k\/(w.heap.size<=k/\k<J.heap.size)
theorem fH.fK(a:ju w J):fH F w J:=⟨a.os,a.tape,a.output,a.size,λk b _=>a.block k b⟩
theorem wF.mono(a:wF w F o)(hF:∀k,k<w.heap.size->F k->F' k)(d:∀v m xs,w.ownsRow 0 96 3 v m xs->J.ownsRow 0 96 3 v m xs):wF J F' o:=by
 rcases a with a|⟨e,f,h,i,j,l,n,b⟩
 exact .inl a;exact .inr ⟨e,f,h,i,j,l,λg c=>hF g (gc b c)<|n g c,d _ _ _ b⟩
theorem gP.keep(d:gP ft F w s p A)(c:∀k,k<w.heap.size->F k->J.heap[k]?=w.heap[k]?)(hF:∀k,k<w.heap.size->F k->F' k):gP ft F' J s p A:=by
 have⟨a,h,bf,bd,Df,Dd,i⟩:=d;have Y:=(lH.1 i.hs).1;have e:∀v m t k xs,w.ownsRow 0 t k v m xs->(∀g,v.ownBlock=fh g->F g)->J.ownsRow 0 t k v m xs:=λv m t k xs f hFg=>gg f λg b=>c g (gc f b)<|hFg g b;refine⟨a,h,bf,bd,Df,Dd,⟨hF _ Y i.fs,hF _ i.gQ.at_.lt i.fp,hF _ i.files.lt i.ff,hF _ i.rQ.lt i.fd,λg b=>hF g (gc i.gQ.row b)<|i.fr g b,(c s Y i.fs).trans i.hs,⟨?_,e _ _ _ _ _ i.gQ.row i.fr,i.gQ.len,i.gQ.many⟩,i.ne,
  pC i.files (c _ i.files.lt i.ff),i.lZ,pC i.rQ<|c _ i.rQ.lt i.fd,i.ot,λo n=>?_⟩⟩
 have:=i.gQ.at_
 unfold gw at this |-;rwa [c p i.gQ.at_.lt i.fp];rcases i.zx o n with d|⟨q,r,u,x,y,z,j,l⟩
 exact .inl d;exact .inr ⟨q,r,u,x,y,z,λg b=>hF g (gc l b)<|j g b,e _ _ _ _ _ l j⟩
theorem gP.below(a:gP ft F w s p A)(b:ju w J)(hF:∀k,k<w.heap.size->F k->F' k):gP ft F' J s p A:=a.keep (λk c _=>b.block k c) hF
theorem qd(A:List Ob)(o:Ob)(d:fO):fileAt (A++[o]) d=(fileAt A d).or (if o.kind=1/\o.data=d then fh (fv A) else fj):=by
 grind [fileAt,decide,Bool.decide_and,yv]
theorem rR(A:List Ob)(o:Ob)(es:List fV):gG (A++[o]) es=(gG A es).or (if o.kind=2/\o.gh=es then fh (fv A) else fj):=by
 grind [gG,decide,Bool.decide_and,yv]
theorem bytes_inj{a b:fO}(c:a.data.toList=b.data.toList):a=b:=by
 cases a;cases b
 grind [stM]
theorem sW.put(a:sW A D)(g:Maps.IsMap D)(d)(f:fileAt A d=fj):sW (A++[xp d]) (D.put (.string d.data.toList)<|.lit (.int .i64<|(fv A:Int)+1)):=by
 intro b;rw[qd];by_cases e:d=b;subst e;rw[f,lv ⟨fX,fX⟩]
 grind [hQa,WideAt.IsKeyLit,pW,cmn]
 have c:(Lit.string b.data.toList)≠.string d.data.toList:=λa=>e (bytes_inj (by grind));rw[km λa=>e a.2,Nb];refine⟨?_,?_⟩;rw[hNe c];exact(a b).1;intro i U;rw[cin c];exact(a b).2 i U
theorem sW.other(a:sW A D)(b:o.kind≠1):sW (A++[o]) D:=by
 intro c;rw[qd,km λa=>b a.1,Nb];exact a c
theorem wO.put(b:wO A D)(h:Maps.IsMap D)(c:wN es)(j:gG A es=fj)(k:o.kind=2)(a:o.gh=es):
  wO (A++[o]) (D.put (pj prog es)<|.lit (.int .i64<|(fv A:Int)+1)):=by
 intro f d;have l:=EX.key (kX es c.1 λe a=>(c.2 e a).1);rw[rR,a];by_cases e:es=f
 grind [hQa,pW,cmn]
 have g:pj prog f≠pj prog es:=λb=>e<|EY c.1 d.1 (λe a=>(c.2 e a).1) (λe a=>(d.2 e a).1) (λe a=>(c.2 e a).2) (λe a=>(d.2 e a).2) b.symm;rw[km λb=>e b.2,Nb];refine⟨?_,?_⟩;rw[hNe g];exact(b f d).1;intro i U;rw[cin g];exact(b f d).2 i U
theorem wO.other(a:wO A D)(b:o.kind≠2):wO (A++[o]) D:=by
 intro c d;rw[rR,km λa=>b a.1,Nb];exact a c d
theorem vE(A:List Ob)(o:Ob):gB (A++[o])=gB A++o.cells:=by simp[gB]
theorem AB.other{k}{cells}(l:AB ft w J p a n h bf bd R k cells D)(d:jP ft w p a n h bf bd A)
  {e}{f}{g:fu->Option (DataW Unit×List MemPlace)}{b m}{i:DataW Unit}(c:w.ownsMap e f g b m i)(o:b≠R):J.ownsMap e f g b m i:=by
 have⟨s,t,_,_,_,_,q⟩:=l;have⟨es,u,j⟩:=pu c;have r:b≠p:=by rintro rfl;have:=d.at_;unfold gw at this;rw[j]at this;cases this
 exact pC c<|q.block b c.lt r o (rv d.row j)
theorem sX.grow{Df Dd d f:DataW Unit}(i:sX ft F w s p a h bf bd Df Dd A){k}
  (l:AB ft w J p a (fv A) h bf bd R k (gB A++o.cells) D)(O:fv A<400)(hF:F R){E:Array MapEntry}{t}(n:w.heap[R]?=fh (.map E t))(P:wF J (kB F w J) o)
  (Q:J.ownsMap prog 9 (plainElem prog 29) bf (fv A+1) d)(u:sW (A++[o]) d)
  (S:J.ownsMap prog 208 (plainElem prog 29) bd (fv A+1) f)(y:wO (A++[o]) f):
  gP ft (kB F w J) J s p (A++[o])/\fH F w J:=by
 have z:=l;have⟨B,C,T,G,H,U,b⟩:=l;have Y:=(lH.1 i.hs).1;have I:=oq i.hs i.gQ.at_ (by decide);have K:s≠R:=by rintro rfl;have:=i.hs;rw[n]at this;cases this
 have V:fv (A++[o])=fv A+1:=by simp
 refine⟨⟨fh<|ie B 0,C,bf,bd,d,f,⟨.inl i.fs,.inl i.fp,.inl i.ff,.inl i.fd,?_,?_,⟨?_,?_,?_,?_⟩,i.ne,?_,u,?_,y,?_⟩⟩,⟨b.os,b.tape,b.output,b.size,?_⟩⟩;intro g q;rcases H with c|c
 refine .inl<|i.fr g ?_;rwa [<-c];simp only[Value.ownBlock,pW]at q;subst q;exact .inr ⟨c,gc G fX⟩;rw[b.block s Y I K<|il i.gQ.row i.hs (by decide)];exact i.hs
 grind
 grind [vE]
 rfl;omega
 grind
 grind
 intro x L;rcases qJ.1 L with c|c
 exact(i.zx x c).mono (λk r M=>.inl M) λv m xs N=>z.keeps i.gQ n N (by decide)<|by decide
 grind
 intro k r j;refine b.block k r (λe=>j<|e▸i.fp) (λe=>j<|e▸hF) λe=>j<|i.fr k e.symm
def sX.c0(i:sX ft F w s p a h bf bd Df Dd A):w.c s 0=fh (ii p):=by simp[World.cell?,i.hs]
def lq (A H:List Ob)(d:fO)(e:Ending):Prop:=
 (256<d.size/\H=A/\e=fF (fC #[.int .i64 0,.int .i64 11]))\/
 (d.size<=256/\H=A/\∃i,fileAt A d=fh i/\e=fF (fC #[.int .i64<|(i:Int)+1,.int .i64 0]))\/
 (d.size<=256/\fileAt A d=fj/\400<=fv A/\H=A/\e=fF (fC #[.int .i64 0,.int .i64 11]))\/
 (d.size<=256/\fileAt A d=fj/\fv A<400/\H=A++[xp d]/\e=fF (fC #[.int .i64<|(fv A:Int)+1,.int .i64 0]))
def lq.shape{e}(a:lq A H d e):∃x y,e=fF (fC #[fY x,fY y]):=by
 rcases a with⟨_,_,a⟩|⟨_,_,_,_,a⟩|⟨_,_,_,_,a⟩|⟨_,_,_,_,a⟩<;>exact⟨_,_,a⟩
theorem Nu(i:sX ft F w s p a h bf bd Df Dd A)(d:fO)(t:d.size<=maxLen):
  ik 77 #[ii p,hZ d] w λe J=>∃H,lq A H d e/\gP ft (kB F w J) J s p H/\fH F w J:=by
 have inv:gP ft F w s p A:=⟨a,h,bf,bd,Df,Dd,i⟩;have same:∀J,ju w J->gP ft (kB F w J) J s p A/\fH F w J:=λJ l=>⟨inv.below l λk _ u=>.inl u,fH.fK l⟩;by_cases b:d.size<=256;cases c:fileAt A d with
 |some j=>
  have⟨g,v⟩:=i.lZ d;rw[c]at g;refine(Nk p a (fv A) h bf bd Df d ((j:Int)+1) w i.gQ.at_ b i.files g<|v j c).mono λe J⟨f,m⟩=>?_;subst m;exact⟨A,.inr<|.inl ⟨b,fX,j,c,f⟩,same _<|mi _ _⟩
 |none=>
  have⟨g,_⟩:=i.lZ d;rw[c]at g;by_cases o:400<=fv A;exact(La p a (fv A) h bf bd Df d w i.gQ.at_ b o i.files g).mono λe J⟨f,l⟩=>⟨A,.inr<|.inr (.inl ⟨b,c,o,fX,f⟩),same _ l⟩;have n:fv A<400:=by omega
  refine(Nl p a (fv A) h bf bd (gB A) Df d w i.gQ.at_ b n i.gQ.row i.files g).mono λe J⟨f,q⟩=>?_;have r:AB ft w J p a (fv A) h bf bd bf 9 (gB A++(xp d).cells) (Df.put (.string d.data.toList)<|.lit (.int .i64<|(fv A:Int)+1)):=q;have⟨E,z,x⟩:=pu i.files;have⟨_,_,_,_,_,y,_⟩:=q;exact⟨_,.inr<|.inr (.inr ⟨b,c,n,fX,f⟩),i.grow r n i.ff x (.inl ⟨fX,fX,b⟩) y (i.lZ.put i.files.isMap d c)
   ((r.other i.gQ i.rQ i.ne.symm).mono<|Ha _) (i.ot.other (show(1:Int)≠2 by decide))⟩
 refine(Nj p d w (by omega) t).mono λe J⟨f,m⟩=>?_;subst m;exact⟨A,.inl ⟨by omega,fX,f⟩,same _<|mi _ _⟩
def jv (A H:List Ob)(es:List fV)(e:Ending):Prop:=
 ((∃x∈es,fN x.1=fo)/\H=A/\e=fF (fC #[.int .i64 0,.int .i64 1]))\/
 ((∀x∈es,fN x.1=fm)/\
  ((¬(es.map (·.1)).Nodup/\H=A/\e=fF (fC #[.int .i64 0,.int .i64 6]))\/
   ((es.map (·.1)).Nodup/\16<fv es/\H=A/\e=fF (fC #[.int .i64 0,.int .i64 11]))\/
   ((es.map (·.1)).Nodup/\fv es<=16/\(∃x∈es,Hb A x=fo)/\H=A/\e=fF (fC #[.int .i64 0,.int .i64 13]))\/
   ((es.map (·.1)).Nodup/\fv es<=16/\(∀x∈es,Hb A x=fm)/\∃a,a.Perm es/\iI a/\wN a/\
    ((5<gy A a/\H=A/\e=fF (fC #[.int .i64 0,.int .i64 11]))\/
    (gy A a<=5/\H=A/\∃i,gG A a=fh i/\e=fF (fC #[.int .i64<|(i:Int)+1,.int .i64 0]))\/
    (gy A a<=5/\gG A a=fj/\400<=fv A/\H=A/\e=fF (fC #[.int .i64 0,.int .i64 11]))\/
    (gy A a<=5/\gG A a=fj/\fv A<400/\(∃o:Ob,o.kind=2/\o.gh=a/\o.high=gy A a/\H=A++[o])/\e=fF (fC #[.int .i64<|(fv A:Int)+1,.int .i64 0]))))))
def jv.shape{e}(a:jv A H es e):∃x y,e=fF (fC #[fY x,fY y]):=by
 rcases a with⟨_,_,a⟩|⟨_,⟨_,_,a⟩|⟨_,_,_,a⟩|⟨_,_,_,_,a⟩|⟨_,_,_,_,_,_,_,⟨_,_,a⟩|⟨_,_,_,_,a⟩|⟨_,_,_,_,a⟩|⟨_,_,_,_,a⟩⟩⟩<;>exact⟨_,_,a⟩
theorem sX.gy(i:sX ft F w s p a h bf bd Df Dd A):∀o∈A,0<=o.high/\o.high<=5:=by
 intro o b;rcases i.zx o b with⟨_,_⟩|⟨_,_⟩
 all_goals omega
theorem sX.kinds(i:sX ft F w s p a h bf bd Df Dd A):∀o∈A,o.kind=1\/o.kind=2:=by
 intro o b;rcases i.zx o b with⟨c,_⟩|⟨c,_⟩
 all_goals omega
theorem Vh(i:sX ft F w s p a h bf bd Df Dd A)(b off m c0:Nat)(es:List fV)
  (O:fv es=m)(T:b<w.heap.size)(U:m*32<=140737488355328)(K:∀j P,(flat es)[j]?=fh P->w.c b (off+j)=fh P)(V:∀e∈es,e.1.size<=maxLen):
  ik 60 #[ii p,my b off m c0] w λe J=>∃H,jv A H es e/\gP ft (kB F w J) J s p H/\fH F w J:=by
 have inv:gP ft F w s p A:=⟨a,h,bf,bd,Df,Dd,i⟩;have same:∀J,ju w J->gP ft (kB F w J) J s p A/\fH F w J:=λJ o=>⟨inv.below o λk _ L=>.inl L,fH.fK o⟩;have Q:∀d,d.Perm es->(∀x∈es,fN x.1=fm)->(∀x∈es,Hb A x=fm)->fv es<=16->wN d:=λd l M W X=>
  ⟨by rw[l.length_eq];exact X,λe f=>⟨Vg i.kinds i.gQ.many (M e<|l.mem_iff.1 f)<|W e (l.mem_iff.1 f),(xj<|M e (l.mem_iff.1 f)).1⟩⟩
 refine(RG p b off m c0 a (fv A) h bf bd A Dd es w i.gQ i.rQ O T U K V i.gy i.kinds).mono λe J q=>?_;rcases q with⟨o,⟨n,f⟩|⟨n,⟨r,f⟩|⟨r,t,f⟩|⟨r,t,q,f⟩|⟨r,t,q,d,l,z,D⟩⟩⟩|⟨n,r,t,q,G,d,l,z,D,Y,B,f,g,cap',I,R⟩
 exact⟨A,.inl ⟨n,fX,f⟩,same _ o⟩;exact⟨A,.inr ⟨n,.inl ⟨r,fX,f⟩⟩,same _ o⟩;exact⟨A,.inr ⟨n,.inr<|.inl ⟨r,t,fX,f⟩⟩,same _ o⟩;exact⟨A,.inr ⟨n,.inr<|.inr (.inl ⟨r,t,q,fX,f⟩)⟩,same _ o⟩;have u:=Q d l n q t;obtain⟨v,Z⟩:=i.ot d u;rcases D with⟨C,f⟩|⟨C,B,c,aa,f⟩|⟨C,B,G,f⟩
 exact⟨A,.inr ⟨n,.inr<|.inr (.inr ⟨r,t,q,d,l,z,u,.inl ⟨C,fX,f⟩⟩)⟩,same _ o⟩;rw[B]at v;rcases y:gG A d with _|j
 rw[y]at v;cases v;have K:=(Z j y).symm.trans aa;have ab:c=(j:Int)+1:=by simpa using K.symm
 subst ab;exact⟨A,.inr ⟨n,.inr<|.inr (.inr ⟨r,t,q,d,l,z,u,.inr<|.inl ⟨C,fX,j,y,f⟩⟩)⟩,same _ o⟩;rw[B]at v;have y:gG A d=fj:=by simpa using v.symm
 exact⟨A,.inr ⟨n,.inr<|.inr (.inr ⟨r,t,q,d,l,z,u,.inr<|.inr (.inl ⟨C,y,G,fX,f⟩)⟩)⟩,same _ o⟩;have u:=Q d l n q t;obtain⟨v,_⟩:=i.ot d u;rw[B]at v;have y:gG A d=fj:=by simpa using v.symm
 have ac:fv d=m:=by rw[l.length_eq,O]
 obtain⟨E,aj,ad⟩:=pu i.rQ;have S:=R;obtain⟨_,_,_,_,_,ae,_⟩:=R;have af:w.heap.size<=g/\g<J.heap.size:=by
  refine⟨?_,gc I fX⟩;rcases I.2 with⟨L,_⟩|⟨N,_,_,M,o,_⟩
  all_goals grind
 have ag:J.ownsRow 0 96 3 (my g 0 m cap') m (flat d):=by
  refine⟨I.1,?_⟩;rcases I.2 with L|⟨N,_⟩
  all_goals grind
 have ah:wF J (kB F w J) (psm g m cap' d<|YtlgidcmmgohagaaGreat.gy A d):=.inr ⟨fX,ac,u,z,Y,D,λN ai=>by(obtain rfl:g=N:=by simpa [psm,Value.ownBlock]using ai);exact .inr af,ag⟩;exact⟨_,.inr ⟨n,.inr<|.inr (.inr ⟨r,t,q,d,l,z,u,.inr<|.inr (.inr ⟨D,y,G,⟨_,fX,fX,fX,fX⟩,f⟩)⟩)⟩,
  i.grow S G i.fd ad ah ((S.other i.gQ i.files i.ne).mono<|Ha _) (i.lZ.other (show(2:Int)≠1 by decide)) ae (i.ot.put i.rQ.isMap u y fX fX)⟩
theorem RI(i:sX ft F w s p a h bf bd Df Dd A):
  ik 60 #[ii p,fy fj 0 0] w λe J=>∃H,jv A H [] e/\gP ft (kB F w J) J s p H/\fH F w J:=by
 have inv:gP ft F w s p A:=⟨a,h,bf,bd,Df,Dd,i⟩;have same:∀J,ju w J->gP ft (kB F w J) J s p A/\fH F w J:=λJ l=>⟨inv.below l λk _ r=>.inl r,fH.fK l⟩;have n:wN []:=⟨by simp,λe d=>by cases d⟩;have⟨f,z⟩:=i.ot [] n;have t:YtlgidcmmgohagaaGreat.gy A []<=5:=by show(0:Int)<=5;decide
 refine(RH p a (fv A) h bf bd A Dd w i.gQ i.rQ).mono λe J B=>?_;have pre:∀{H:List Ob}{X:Prop},(YtlgidcmmgohagaaGreat.gy A []<=5/\H=A/\(∃i,gG A []=fh i/\e=qr #[fY<|(i:Int)+1,fY 0])\/
    (YtlgidcmmgohagaaGreat.gy A []<=5/\gG A []=fj/\400<=fv A/\H=A/\e=qr #[fY 0,fY 11])\/
    (YtlgidcmmgohagaaGreat.gy A []<=5/\gG A []=fj/\fv A<400/\(∃o:Ob,o.kind=2/\o.gh=[]/\o.high=YtlgidcmmgohagaaGreat.gy A []/\H=A++[o])/\e=qr #[fY<|(fv A:Int)+1,fY 0]))->jv A H [] e:=by
  intro H X r;exact .inr ⟨(λx u=>by cases u),.inr<|.inr (.inr ⟨List.Pairwise.nil,by simp,(λx u=>by cases u),[],List.Perm.refl _,List.Pairwise.nil,n,.inr r⟩)⟩
 rcases B with⟨l,⟨m,c,C,d⟩|⟨m,q,d⟩⟩|⟨q,m,d,v⟩
 rw[m]at f;rcases b:gG A []with _|j
 rw[b]at f;cases f;have D:=(z j b).symm.trans C;have G:c=(j:Int)+1:=by simpa using D.symm
 subst G;exact⟨A,pre (X:=True)<|.inl ⟨t,fX,j,b,d⟩,same _ l⟩;rw[m]at f;have b:gG A []=fj:=by simpa using f.symm
 exact⟨A,pre (X:=True)<|.inr (.inl ⟨t,b,q,fX,d⟩),same _ l⟩;rw[m]at f;have b:gG A []=fj:=by simpa using f.symm
 have⟨E,N,I⟩:=pu i.rQ
 let o:Ob:={ kind:=2,data:=ByteArray.empty,ea:=fj,el:=0,ec:=0,gh:=[],high:=0 }
 have y:=v;have⟨_,_,_,_,_,K,_⟩:=v;have L:wF J (kB F w J) o:=.inr ⟨fX,fX,n,List.Pairwise.nil,wE _,by show(0:Int)<=5;decide,λg M=>by simp[o,Value.ownBlock]at M,jY _ _ _ _⟩;exact⟨A++[o],pre (X:=True)<|.inr (.inr ⟨t,b,q,⟨o,fX,fX,fX,fX⟩,d⟩),
  i.grow y q i.fd I L ((y.other i.gQ i.files i.ne).mono<|Ha _) (i.lZ.other (show(2:Int)≠1 by decide)) K (i.ot.put i.rQ.isMap n b fX fX)⟩
theorem Le(r:gP ft F w s p A)(b off m c0:Nat)(es:List fV)
  (f:fv es=m)(t:b<w.heap.size)(g:m*32<=140737488355328)(k:∀j l,(flat es)[j]?=fh l->w.c b (off+j)=fh l)(n:∀e∈es,e.1.size<=maxLen):
  ik 26 #[ii s,my b off m c0] w λe J=>∃H,jv A H es e/\gP ft (kB F w J) J s p H/\fH F w J:=by
 have⟨a,h,bf,bd,Df,Dd,i⟩:=r;have o:=Vh i b off m c0 es f t g k n;have c0:=i.c0;clear i k n f g;go_enter func26,ntmps26;go_wp2_with fail;apply o.mono;rintro e J ⟨H,c,q⟩;have⟨x,y,d⟩:=c.shape
 change fe _ at c q d
 clear o;rw[d.o];go_wp2;go_ret2;exact⟨H,d.o▸c.o,q⟩
def Vi (A:List Ob)(id:Int)(e:Ending):Prop:=
 (fJ A id≠1/\e=fF (fC #[fA ByteArray.empty,.int .i64 13]))\/∃j,∃a:j<fv A,id=(j:Int)+1/\A[j].kind=1/\e=fF (fC #[fA A[j].data,.int .i64 0])
def RJ (w J:fq)(A:List Ob)(id:Int)(e:Ending):Prop:=
 (fJ A id≠2/\e=fF (fC #[fy fj 0 0,.int .i64 13]))\/
 ∃j,∃a:j<fv A,id=(j:Int)+1/\A[j].kind=2/\∃g,e=fF (fC #[fy (fh ⟨g,0,fj⟩) A[j].gh.length A[j].gh.length,.int .i64 0])/\
  J.ownsRow w.heap.size 96 3 (fy (fh ⟨g,0,fj⟩) A[j].gh.length A[j].gh.length) A[j].gh.length (flat A[j].gh)
theorem Fb(i:sX ft F w s p a h bf bd Df Dd A)(id:Int):
  ik 85 #[ii p,fY id] w λe J=>RJ w J A id e/\ju w J:=by
 by_cases b:fJ A id=2
 ·have hid:¬(id<1\/(fv A:Int)<id):=λq=>by rw[iJ q]at b;cases b
  obtain⟨j,rfl⟩:∃j:Nat,id=(j:Int)+1:=⟨(id-1).toNat,by omega⟩;have c:j<fv A:=by omega
  rw[xa c]at b;rcases i.zx A[j] (kK c) with⟨x,_⟩|⟨_,l,r,_,_,_,_,f⟩
  ·all_goals omega
  obtain⟨g,k⟩|⟨k,o,t⟩:(∃g,A[j].ea=fh (ie g 0))\/(A[j].ea=fj/\A[j].el=0/\A[j].ec=0):=by
   rcases f.2 with⟨u,y⟩|⟨g,z,B,u,_⟩
   all_goals grind
  rotate_left
  ·have C:A[j].gh=[]:=DX.1 (l.trans o)
   refine(inf p a (fv A) h bf bd A j c w i.gQ b k o t).mono λe J⟨m,n,v,d⟩=>⟨.inr ⟨j,c,fX,b,m,?_,?_⟩,d⟩
   all_goals grind
  rw[k]at f;refine(dpq p a (fv A) h bf bd A j g A[j].el A[j].ec A[j].gh c w i.gQ b k fX fX (by rw[<-l];exact r.1) l (gc f fX)<|ks f).mono λe J⟨m,n,v,d⟩=>⟨.inr ⟨j,c,fX,b,m,?_,?_⟩,d⟩
  all_goals grind
 exact(inc p a (fv A) h bf bd A id w i.gQ b).mono λe J⟨n,d⟩=>⟨.inl ⟨b,n⟩,d⟩
theorem Lf(w:fq):ik 25 #[] w λe J=>∃s,e=fF (ii s)/\Inv pt0 (kB (λ_=>False) w J) J s []/\ju w J:=by
 refine(KZ w).mono λe J⟨h,f⟩=>?_;refine⟨_,h,?_,?_⟩;subst f;have j:∀o1 a b c:Obj,((((w.alloc o1).alloc a).alloc b).alloc c).heap[w.heap.size+3]?=fh c:=λo1 a b c=>by
  have:=oO (((w.alloc o1).alloc a).alloc b) c
  simpa using this
 have k:∀o1 a b c:Obj,((((w.alloc o1).alloc a).alloc b).alloc c).heap[w.heap.size+2]?=fh b:=λo1 a b c=>by
  rw[RowKit.Below.heap_alloc _ _ _<|by simp]
  have:=oO ((w.alloc o1).alloc a) b
  simpa using this
 have l:∀o1 a b c:Obj,((((w.alloc o1).alloc a).alloc b).alloc c).heap[w.heap.size+1]?=fh a:=λo1 a b c=>by
  rw[RowKit.Below.heap_alloc _ _ _<|by simp,RowKit.Below.heap_alloc _ _ _<|by simp];exact Wu w o1 a
 have m:∀o1 a b c:Obj,((((w.alloc o1).alloc a).alloc b).alloc c).heap[w.heap.size]?=fh o1:=λo1 a b c=>by
  rw[RowKit.Below.heap_alloc _ _ _ (by simp;omega),RowKit.Below.heap_alloc _ _ _ (by simp;omega)];exact bot w o1 a
 refine⟨w.heap.size+2,fj,0,w.heap.size,w.heap.size+1,.map [],.map [],⟨.inr<|by simp,.inr<|by simp,.inr (by simp;omega),.inr<|by simp,?_,j _ _ _ _,⟨k _ _ _ _,jY _ _ _ _,fX,by simp⟩,by omega,?_,?_,?_,?_,?_⟩⟩;intro g n;cases n;exact⟨#[],0,m _ _ _ _,⟨by simp,cex 0,by simp⟩,lw _,fX⟩;intro d;exact⟨fX,λi U=>by cases U⟩;exact⟨#[],0,l _ _ _ _,⟨by simp,cex 0,by simp⟩,lw _,fX⟩;intro es _;exact⟨fX,λi U=>by cases U⟩
 grind
 rw[f];exact((((mi _ _).alloc (lw _) _).alloc (by simp) _).alloc (by simp;omega) _).alloc (by simp;omega) _
theorem Ib(l:gP ft F w s p A)(d:fO)(c:d.size<=maxLen):
  ik 35 #[ii s,hZ d] w λe J=>∃H,lq A H d e/\gP ft (kB F w J) J s p H/\fH F w J:=by
 obtain⟨a,h,bf,bd,Df,Dd,i⟩:=l;have f:=Nu i d c;have c0:=i.c0;clear i c;go_enter func35,ntmps35;go_wp2_with fail;refine f.mono ?_;rintro e J ⟨H,b,g⟩;obtain⟨x,y,j⟩:=b.shape;have m:fe (lq A H d e):=b;have n:fe (gP ft (kB F w J) J s p H/\fH F w J):=g;have k:fe (e=fF (fC #[fY x,fY y])):=j;clear b g j f;rw[k.o];go_wp2;go_ret2;exact⟨H,k.o▸m.o,n.o⟩
def nB (a b:fO):Bool:=decide (Lib.compareBytes a.data.toList b.data.toList<0)
theorem Fc:∀(k:Nat)(a b:List UInt8),k<=fv a->k<=fv b->a.take k=b.take k->Lib.compareBytes a b=Lib.compareBytes (a.drop k) (b.drop k)
 |0,_,_,_,_,_=>rfl
 |k+1,[],_,c,_,_=>by simp at c
 |k+1,_::_,[],_,c,_=>by simp at c
 |k+1,x::r,y::s,d,e,c=>by
  simp only[Wo,Ce]at c
  obtain⟨rfl,c⟩:=c
  simp only[Lib.compareBytes,Cj,day,MW]
  exact Fc k r s (by simpa using d) (by simpa using e) c
theorem thd{a b:List UInt8}(d:k<fv a)(e:k<fv b)(f:a.take k=b.take k)(g:a[k]≠b[k]):decide (Lib.compareBytes a b<0)=decide (a[k]<b[k]):=by
 rw[Fc k a b (by omega) (by omega) f,KR d,KR e];rcases Ci a[k] b[k]with c|c|c
 simp[Lib.compareBytes,c];exact absurd c g;simp[Lib.compareBytes,c,rN c]
theorem Vj{a b:List UInt8}(f:k<=fv a)(g:k<=fv b)(h:a.take k=b.take k)(c:k=fv a\/k=fv b):decide (Lib.compareBytes a b<0)=decide (fv a<fv b):=by
 rw[Fc k a b f g h];rcases c with c|c
 subst c;rw[hX1];rcases d:b.drop (fv a) with _|⟨x,r⟩
 have:=congrArg List.length d;simp at this;simp[Lib.compareBytes];omega
 have:=congrArg List.length d;simp at this;simp[Lib.compareBytes];omega
 subst c;rw[hX1];rcases e:a.drop (fv b) with _|⟨x,r⟩
 have:=congrArg List.length e;simp at this;simp[Lib.compareBytes];omega
 have:=congrArg List.length e;simp at this;simp[Lib.compareBytes];omega
theorem dti(a b:fO)(w:fq)(r:a.size<=maxLen)(s:b.size<=maxLen):
  ik 169 #[hZ a,hZ b] w λe J=>e=fF (fE<|nB a b)/\∃c,J=w.drewN c:=by
 unfold maxLen at r s;have d:fv a.data.toList=a.size:=pq;have f:fv b.data.toList=b.size:=pq
 change fe _ at d f
 go_enter func169,ntmps169;go_wp2
 go_loopw [5] (λi wr=>∃k:Nat,k<=a.size/\k<=b.size/\i=.int .i64 k/\fe (∃c,wr=w.drewN c)/\fe (a.data.toList.take k=b.data.toList.take k)) (λi _=>a.size-(intOf i).toNat)
 case atStart=>exact⟨0,Fr _,Fr _,rfl,⟨0,rfl⟩,rfl⟩
 case round=>
  obtain⟨k,n,o,rfl,h,j⟩:=hrel;by_cases p:k<a.size
  ·by_cases q:k<b.size
   ·by_cases l:((a[k].toNat:Int)==(b[k].toNat:Int))=fm
    ·have m:fe (a[k]=b[k]):=crc.1 (by have:=eq_of_beq l;omega)
     go_wp2
     go_quiet (fail)
     go_wp2;go_roundw
     case rel=>
      refine⟨k+1,by omega,by omega,by go_num,?_,?_⟩;obtain⟨c,g⟩:=h;exact⟨c+nq,by rw[g,DZ]⟩;show _=_;rw[vv (by rw[d.o];exact p),vv (by rw[f.o];exact q),j.o];exact congrArg _ (congrArg (· :: []) m)
     case measure=>simp[intOf];omega
    have u:((a[k].toNat:Int)==(b[k].toNat:Int))=fo:=by simpa using l
    have m:fe (a[k]≠b[k]):=λt=>l (by rw[t];exact beq_self_eq_true _);go_wp2
    go_quiet (fail)
    go_wp2
    go_quiet (fail)
    go_wp2;go_ret;obtain⟨c,g⟩:=h;refine⟨?_,by subst g;exact⟨_,by rw[DZ,DZ]⟩⟩
    have:=thd (a:=a.data.toList) (b:=b.data.toList) (k:=k) (by rw[d.o];exact p) (by rw[f.o];exact q) j m
    unfold nB;rw[this]
    congr 2
   go_wp2;go_ret;obtain⟨c,g⟩:=h;refine⟨?_,c,g⟩
   have:=Vj (k:=k) (by rw[d.o];exact n) (by rw[f.o];exact o) j<|.inr (by rw[f.o];omega)
   unfold nB;rw[this,d.o,f.o]
   congr 2
  go_wp2;go_ret;obtain⟨c,g⟩:=h;refine⟨?_,c,g⟩
  have:=Vj (k:=k) (by rw[d.o];exact n) (by rw[f.o];exact o) j<|.inl (by rw[d.o];omega)
  unfold nB;rw[this,d.o,f.o]
  congr 2
theorem Vk(a:∀j(g:j<fv l),l[j]≠c):Lib.indexByte l c<0:=by
 by_cases b:Lib.indexByte l c<0;exact b;obtain⟨o,d⟩:∃o:Nat,Lib.indexByte l c=o:=⟨(Lib.indexByte l c).toNat,by omega⟩
 have:=(Lib.indexByte_some d).1
 obtain⟨e,f⟩:=wI.1 this;exact absurd f<|a o e
theorem Lg(a:j<fv l)(b:l[j]=c):¬Lib.indexByte l c<0:=by
 intro d;have e:=Lib.indexByte_ge l c
 have:Lib.indexByte l c=-1:=by omega
 exact Lib.indexByte_none this j (by rw[jG a,b])
theorem sY(s:fO)(w:fq)(c:s.size<=maxLen)(a:(s.toList==[])=fm\/((s.toList==[])=fo/\(12<s.size\/¬12<s.size/\((s.toList==[46])=fm\/(s.toList==[46])=fo/\(s.toList==[46,46])=fm)))):
  ik 150 #[hZ s] w λe J=>e=fF (fE fo)/\∃b,J=w.drewN b:=by
 rcases a with a|⟨d,a|⟨f,a|⟨g,h⟩⟩⟩
 all_goals
  go_enter func150,ntmps150;go_wp2;go_ret;exact⟨fX,0,fX⟩
theorem RL(s:fO)(w:fq)(u:(s.toList==[])=fo)(v:¬12<s.size)(x:(s.toList==[46])=fo)(y:(s.toList==[46,46])=fo)(r:Bool)
  (g:fe ((decide (Lib.indexByte s.data.toList 0<0)&&decide (Lib.indexByte s.data.toList 47<0))=r)):
  ik 150 #[hZ s] w λe J=>e=fF (fE r)/\∃b,J=w.drewN b:=by
 have m:fe (fv s.data.toList=s.size):=pq;go_enter func150,ntmps150;go_wp2
 go_loopw [3] (λi wr=>∃k:Nat,k<=s.size/\i=.int .i64 k/\fe (∃b,wr=w.drewN b)/\fe (∀j(a:j<fv s.data.toList),j<k->s.data.toList[j]≠0/\s.data.toList[j]≠47)) (λi _=>s.size-(intOf i).toNat)
 case atStart=>exact⟨0,Fr _,rfl,⟨0,rfl⟩,λj a d=>by omega⟩
 case round=>
  obtain⟨k,z,rfl,f,n⟩:=hrel;by_cases q:k<s.size
  ·have o:k<fv s.data.toList:=by rw[m.o];exact q
   cases h:((s[k].toNat:Int)==0) with
   |true=>
    go_wp2;go_ret;obtain⟨b,c⟩:=f;refine⟨?_,b,c⟩
    have:s.data.toList[k]=0:=crc.1 (by have:=eq_of_beq h;show s[k].toNat=0;omega)
    rw[<-g.o,yv<|Lg o this];rfl
   |false=>
    cases l:((s[k].toNat:Int)==47) with
    |true=>
     go_wp2;go_ret;obtain⟨b,c⟩:=f;refine⟨?_,b,c⟩
     have:s.data.toList[k]=47:=crc.1 (by have:=eq_of_beq l;show s[k].toNat=47;omega)
     rw[<-g.o,yv<|Lg o this,Bool.and_false];rfl
    |false=>
     have t:fe (s.data.toList[k]≠0/\s.data.toList[k]≠47):=by
      refine⟨λd=>?_,λd=>?_⟩
      have:s[k]=0:=d
      rw[this]at h;simp at h
      have:s[k]=47:=d
      rw[this]at l;simp at l
     go_wp2;go_roundw
     case rel=>
      refine⟨k+1,by omega,by go_num,?_,?_⟩;obtain⟨b,c⟩:=f;exact⟨b,c⟩;intro j a A;by_cases e:j=k;subst e;exact t;exact n j a<|by omega
     case measure=>simp[intOf];omega
  go_wp2;go_ret;refine⟨?_,f⟩;have p:∀j(a:j<fv s.data.toList),s.data.toList[j]≠0/\s.data.toList[j]≠47:=λj a=>n j a (by rw[m.o]at a;omega)
  rw[<-g.o,iE (Vk λj a=>(p j a).1),iE (Vk λj a=>(p j a).2)];rfl
theorem Jb(s:fO)(w:fq)(c:s.size<=maxLen):ik 150 #[hZ s] w λe J=>e=fF (fE<|fN s)/\∃i,J=w.drewN i:=by
 have g:(s.toList==[])=decide (s.size<1):=by
  rw[Av];by_cases a:s.size<1
  have:s.data.toList=[]:=KQ (by rw[pq];exact(show s.size=0 by omega))
  simp[this,a];rw[yv a];rcases j:s.data.toList with _|⟨x,r⟩
  exact absurd (by have:=congrArg List.length j;rw[pq]at this;exact(show s.size<1 by have d:s.size=0:=this;omega)) a;rfl
 unfold fN;cases b:(s.toList==[]) with
 |true=>
  have:¬1<=s.size:=by have a:=g.symm.trans b;have:=Cb a;omega
  rw[yv this];exact sY s w c<|.inl b
 |false=>
  have:1<=s.size:=by have a:=g.symm.trans b;have:=Rk a;omega
  rw[iE this];by_cases f:12<s.size;rw[yv (show ¬s.size<=12 by omega)];exact sY s w c<|.inr ⟨b,.inl f⟩;rw[iE (show s.size<=12 by omega)];cases d:(s.toList==[46]) with
  |true=>exact sY s w c<|.inr ⟨b,.inr ⟨f,.inl d⟩⟩
  |false=>
   cases h:(s.toList==[46,46]) with
   |true=>exact sY s w c<|.inr ⟨b,.inr ⟨f,.inr ⟨d,h⟩⟩⟩
   |false=>exact RL s w b f d h _ (show _=_ by simp)
theorem Lh(b:Inv ft F w s A)(id:Int):
  ik 40 #[ii s,fY id] w λe J=>Vi A id e/\ju w J:=by
 have⟨p,a,h,bf,bd,Df,Dd,i⟩:=b;have f:=Nr p a (fv A) h bf bd A id w i.gQ;have c0:=i.c0;clear i;go_enter func40,ntmps40;go_wp2_with fail;apply f.mono;rintro e J ⟨g,c⟩;obtain⟨x,y,d⟩:∃x y,e=fF (fC #[hZ x,fY y]):=by
  rcases c with⟨_,b⟩|⟨_,_,_,_,b⟩<;>exact⟨_,_,b⟩
 change fe _ at c d
 clear f;rw[d.o];go_wp2;go_ret2;exact⟨d.o▸c,g⟩
theorem Nv(b:Inv ft F w s A)(id:Int):
  ik 43 #[ii s,fY id] w λe J=>RJ w J A id e/\ju w J:=by
 have⟨p,a,h,bf,bd,Df,Dd,i⟩:=b;have g:=Fb i id;have c0:=i.c0;clear i;go_enter func43,ntmps43;go_wp2_with fail;apply g.mono;rintro e J ⟨d,j⟩;obtain⟨x,n,c,y,f⟩:∃x n c y,e=fF (fC #[fy x n c,fY y]):=by
  rcases d with⟨_,b⟩|⟨_,_,_,_,_,b,_⟩<;>exact⟨_,_,_,_,b⟩
 change fe _ at d f
 clear g;rw[f.o];go_wp2;go_ret2;exact⟨f.o▸d,j⟩
def dup(p)(a:iD)(n h)(w:fq)(b:w.c p 0=fh (fy a n h)):
  ik 86 #[ii p] w (UV (fY n) w):=by
 go_enter func86,ntmps86;go_wp2;go_ret;exact⟨fX,fX⟩
theorem Li(b:Inv ft F w s A):
  ik 45 #[ii s] w (UV (fY (fv A:Int)) w):=by
 obtain⟨p,a,h,bf,bd,Df,Dd,i⟩:=b;have c:=dup p a (fv A) h w i.gQ.at_.c0;have c0:=i.c0;clear i;go_enter func45,ntmps45;go_wp2_with(go_at_call 86;refine c.mono ?_;rintro e J ⟨rfl,rfl⟩);go_ret;exact⟨fX,fX⟩
def wP:(prog.info? 112).map (λi=>(i.zero,i.size,i.bytes))=fh (fh<|fD #[hZ ByteArray.empty,fY 0,fY 0],3,32):=by kernel_rfl
def Ej (out:List fV)(x:fV):List fV:=out.takeWhile (λy=>nB y.1 x.1)++x::out.dropWhile λy=>nB y.1 x.1
def gY (Y:List fV):List fV:=Y.foldl Ej []
theorem takeWhile_eq{b:Type}(p:b->Bool):∀(l:List b)(k:Nat),k<=fv l->(∀j(d:j<fv l),j<k->p l[j]=fm)->(∀e:k<fv l,p l[k]=fo)->l.takeWhile p=l.take k/\l.dropWhile p=l.drop k
 |[],0,_,_,_=>⟨fX,fX⟩
 |[],k+1,a,_,_=>by simp at a
 |x::r,0,_,_,a=>by have:=a (by simp);simp only[Hx]at this;simp[List.takeWhile,List.dropWhile,this]
 |x::r,k+1,h,c,f=>by
  have g:=c 0 (by simp)<|by omega
  simp only[Hx]at g
  have i:=takeWhile_eq p r k (by grind) (λj d m=>by have:=c (j+1) (by omega) (by omega);simpa using this) (λe=>by have:=f (by grind);simpa using this)
  all_goals simp_all
theorem ra(a b:List fV):flat (a++b)=flat a++flat b:=by simp[flat]
theorem ub(W:fq)(x)(t:ni)(n:Nat)(c:n=W.heap.size):∀j b,(pB x)[j]?=fh b->(W.k #[hZ x.1,fY x.2.1,fY x.2.2] t).cell? (((ie n 0):Addr).add j)=fh b:=by
 subst c;intro j b a
 match j,a with
 |0,a=>simpa [Addr.add,pB]using a
 |1,a=>simpa [Addr.add,pB]using a
 |2,a=>simpa [Addr.add,pB]using a
 |j+3,a=>simp[pB]at a
theorem Hm{a}{E W b}(c:Below a E W)(d:a<=W.heap.size)(f:W.ownsRow a e size v n xs)(g:W.grownBy b v.ownBlock):Below a E b:=
 c.grown g d λk h=>(f.lt k h).1
theorem wQ(a:w.ownsRow base e size (my g 0 n h) n xs):n<=h/\h<=maxLen:=by
 rcases a.2 with⟨a,_⟩|⟨b,cap',c,d,_,_,f,i,_⟩
 all_goals grind
def WV(x:fV)(l:List fV):flat (x::l)=pB x++flat l:=fX
theorem RM{a:fu}(b:(flat<|out.drop k)[j]?=fh a):(flat out)[k*3+j]?=fh a:=by
 by_cases c:k<=fv out;have e:flat out=flat (out.take k)++flat (out.drop k):=by rw[<-ra,KU]
 grind [flat,ly,kT,HP,BX,Nat.add_sub_cancel_left]
 grind [Wm,flat]
theorem tR{base b:Nat}(a:w.ownsRow base e size v n xs)(d:b<=base):w.ownsRow b e size v n xs:=by
 refine⟨a.1,?_⟩;rcases a.2 with a|⟨g,c,f,h,i,r⟩
 exact .inl a;exact .inr ⟨g,c,f,h,ww d i,r⟩
theorem qg(g o j:Nat):((ie g o):Addr).add j=(ie g<|o+j):=by
 grind [Addr.add]
theorem Jc(out)(x):(Ej out x).Perm (x::out):=by
 apply List.perm_middle.trans
 all_goals simp_all
theorem wm:∀(Y out:List fV),(Y.foldl Ej out).Perm<|Y++out
 |[],out=>List.Perm.refl _
 |x::r,out=>by
  rw[HV]
  apply (wm r<|Ej out x).trans
  exact((Jc out x).append_left r).trans List.perm_middle
theorem kG(Y):(gY Y).Perm Y:=by
 have:=wm Y []
 rwa [lJ]at this
theorem rS{Y}{y:fV}(a:y∈gY Y):y∈Y:=(kG Y).mem_iff.1 a
theorem tz(x:fV):flat [x]=pB x:=by simp[flat]
def Jd(a:k<fv out):flat (out.take k)++pB out[k]=flat (out.take<|k+1):=by
 rw[vv a,ra,tz]
theorem RN(b off m c0:Nat)(Y:List fV)(w:fq)(S:fv Y=m)(aK:m<=1000000000)(T:b<w.heap.size)(af:∀j s,(flat Y)[j]?=fh s->w.c b (off+j)=fh s)(V:∀e∈Y,e.1.size<=maxLen):
  ik 107 #[my b off m c0] w λe J=>∃v,e=fF v/\J.ownsRow w.heap.size 112 3 v m (flat<|gY Y)/\ju w J:=by
 have⟨z,U,A,B,C⟩:=kM wP
 change fe _ at af V S
 go_enter func107,ntmps107;go_wp2
 go_loopw [3,4] (λv i E=>∃k:Nat,k<=m/\i=.int .i64 k/\ju w E/\E.ownsRow w.heap.size 112 3 v k (flat<|gY (Y.take k))/\(k=0->v=fy fj 0 0)) (λ_ i _=>m-(intOf i).toNat)
 case atStart=>exact⟨0,Fr _,rfl,mi _ _,jY _ _ _ _,λ_=>rfl⟩
 case round=>
  obtain⟨i,aL,rfl,c,f,al⟩:=hrel;by_cases am:i<m
  ·have X:i<fv Y:=by rw[S.o];exact am
   have⟨c0,c1,c2⟩:=lr af X;obtain⟨x,K⟩:=oX<|Y[i];rw[<-K]at c0 c1 c2;obtain⟨out,D⟩:=oX<|gY (Y.take i);have Z:fe (gY (Y.take<|i+1)=Ej out x):=by
    show _=_;rw[vv X,gY,cmd,D,K];rfl
   have an:fe (x.1.size<=maxLen):=by rw[K];exact V _<|kK X
   have ao:fe (∀y∈out,y.1.size<=maxLen):=by
    intro y ag;rw[D]at ag;exact V y<|Aw (rS ag)
   have aa:fv out=i:=by
    have:=f.1
    rw[ly,<-D]at this;omega
   rw[<-D]at f;clear D K;have ap:=λ(W:fq)(F:ju wr W)=>((c.trans<|F.mono c.size).cell (p:=(ie b<|off+i*3)) T).trans c0
   have aq:=λ(W:fq)(F:ju wr W)=>((c.trans<|F.mono c.size).cell (p:=(ie b<|off+i*3+1)) T).trans c1;have ar:=λ(W:fq)(F:ju wr W)=>((c.trans<|F.mono c.size).cell (p:=(ie b<|off+i*3+2)) T).trans c2;clear c0 c1 c2;rename fq=>E;go_wp2
   go_loopw [5,6] (λv j ah=>∃k:Nat,k<=i/\j=.int .i64 k/\ju E ah/\ah.ownsRow E.heap.size 112 3 v k (flat<|out.take k)/\fe (∀j(q:j<fv out),j<k->nB out[j].1 x.1=fm)) (λ_ j _=>i-(intOf j).toNat)
   case atStart=>exact⟨0,Fr _,rfl,mi _ _,jY _ _ _ _,λj q G=>by omega⟩
   case round=>
    obtain⟨k,aM,rfl,a,sR,L⟩:=hrel;have d0:=ap _ a;have d1:=aq _ a;have d2:=ar _ a;by_cases au:k<i
    ·obtain⟨g,h,rfl⟩:=hh f (by omega)
     have M:g<E.heap.size:=gc f fX;have ab:k<fv out:=by rw[aa];exact au
     have⟨N,o1,O⟩:=lr (off:=0) (ks f) ab;rw[iR]at N o1 O;have aN:=(a.cell (p:=(ie g<|k*3)) M).trans N;have aO:=(a.cell (p:=(ie g<|k*3+1)) M).trans o1;have aP:=(a.cell (p:=(ie g<|k*3+2)) M).trans O;have P:=λW=>dti out[k].1 x.1 W (ao _<|kK ab) an;cases t:nB out[k].1 x.1 with
     |true=>
      rw[t]at P;have ac:fe (nB out[k].1 x.1=fm):=t;clear t N o1 O;go_wp2
      go_quiet (first|(go_at_call 169;exact Calls.quiet_of<|P _))
      go_wp2_with(at_builtin;apply yO _ fX (.tmp 30) (.tmp 35) 106 fX E.heap.size 112 z _ 3 32 underlying106 U A B C fX (by decide) _ _ _ fX (sR.alloc _) (ie wr.heap.size 0) 1 1 (pB out[k]) fX fX ?c1 ?c2 ?c3 ?c4 ?c5)
      case c1=>exact ub (wr.drewN nq) out[k] _ _ rfl
      case c2=>exact se out[k]
      case c3=>unfold maxLen;omega
      case c4=>omega
      case c5=>have:=a.size;simp;omega
      intro Q w1 d l _;have n:E.heap.size<=((wr.drewN nq).alloc<|Obj.cells #[Value.string out[k].fst,Value.int IntKind.i64 out[k].snd.fst,Value.int IntKind.i64 out[k].snd.snd] 112).heap.size:=by have:=a.size;simp;omega
      have o:=Hm ((jf a nq).alloc a.size _) n (sR.alloc _) l;have av:w1.ownsRow E.heap.size 112 3 Q (k+1) (flat<|out.take (k+1)):=by rw[<-Jd ab];exact d
      clear d l n;go_wp2;go_roundw
      case rel=>
       refine⟨k+1,by omega,by go_num,o,av,?_⟩;intro j q u;by_cases e:j=k;subst e;exact ac;exact L j q<|by omega
      case measure=>simp[intOf];omega
     |false=>
      rw[t]at P;have ac:fe (nB out[k].1 x.1=fo):=t;clear t N o1 O;go_wp2
      go_quiet (first|(go_at_call 169;exact Calls.quiet_of<|P _))
      go_wp2_with(at_builtin;apply yO _ fX (.tmp 39) (.tmp 44) 106 fX E.heap.size 112 z _ 3 32 underlying106 U A B C fX (by decide) _ _ _ fX (sR.alloc _) (ie wr.heap.size 0) 1 1 (pB x) fX fX ?c1 ?c2 ?c3 ?c4 ?c5)
      case c1=>exact ub (wr.drewN nq) x _ _ rfl
      case c2=>exact se x
      case c3=>unfold maxLen;omega
      case c4=>omega
      case c5=>have:=a.size;simp;omega
      intro Q w1 d l _;have n:E.heap.size<=((wr.drewN nq).alloc<|Obj.cells #[Value.string x.fst,Value.int IntKind.i64 x.snd.fst,Value.int IntKind.i64 x.snd.snd] 112).heap.size:=by have:=a.size;simp;omega
      have o:=Hm ((jf a nq).alloc a.size _) n (sR.alloc _) l;have⟨aw,ax⟩:=wQ f;clear l n;have ay:fv (flat<|out.drop k)=(i-k)*3:=by rw[ly,rL,aa]
      have ad:∀j s,(flat<|out.drop k)[j]?=fh s->w1.cell? (((ie g<|k*3):Addr).add j)=fh s:=by
       intro j s az;have aA:=RM az;have ai:=ks f _ _ aA;rw[iR]at ai;have aB:=(o.cell (p:=(ie g<|k*3+j)) M).trans ai;rw[qg];exact aB
      change fe _ at ad
      go_wp2_with(at_builtin;apply yO _ fX (.tmp 46) (.tmp 49) 106 fX E.heap.size 112 z _ 3 32 underlying106 U A B C fX (by decide) _ _ _ fX d (ie g<|k*3) (i-k) _ (flat<|out.drop k) fX ay ad (mH _) ?c3 ?c4 ?c5)
      case c3=>unfold maxLen;omega
      case c4=>omega
      case c5=>exact o.size
      intro aC aD aj ak _;have aE:=Hm o o.size d ak;have H:aD.ownsRow w.heap.size 112 3 aC (i+1) (flat<|gY (Y.take<|i+1)):=by
       rw[Z.o];have r:=takeWhile_eq (λy:fV=>nB y.1 x.1) out k (by omega) (λj q u=>L j q u) λ_=>ac
       have:=tR aj c.size
       rw[show k+1+(i-k)=i+1 by omega]at this;unfold Ej;rw[r.1,r.2,ra,WV];simpa only[sP]using this
      clear aj ak d ad;go_wp2;go_roundw
      case rel=>exact⟨i+1,by omega,by go_num,c.trans<|aE.mono c.size,H,λG=>by omega⟩
      case measure=>simp[intOf];omega
    have aF:k=i:=(by omega);subst aF;have I:fe (out.take k=out):=oM (by rw[aa];exact lw _);have aQ:decide ((k:Int)<(k:Int))=fo:=by simp
    rw[I.o]at sR;rcases swo k with R|R
    ·have aG:=al R
     subst aG;subst R;simp only[cwd,Ee]at d0 d1 d2;go_wp2
     go_quiet (fail)
     go_wp2_with(at_builtin;apply yO _ fX (.tmp 39) (.tmp 44) 106 fX E.heap.size 112 z _ 3 32 underlying106 U A B C fX (by decide) _ _ _ fX (sR.alloc _) (ie wr.heap.size 0) 1 1 (pB x) fX fX ?c1 ?c2 ?c3 ?c4 ?c5)
     case c1=>exact ub (wr.drewN nq) x _ _ rfl
     case c2=>exact se x
     case c3=>unfold maxLen;omega
     case c4=>omega
     case c5=>have:=a.size;simp;omega
     intro Q w1 d l _;have n:E.heap.size<=((wr.drewN nq).alloc<|Obj.cells #[Value.string x.fst,Value.int IntKind.i64 x.snd.fst,Value.int IntKind.i64 x.snd.snd] 112).heap.size:=by have:=a.size;simp;omega
     have o:=Hm ((jf a nq).alloc a.size _) n (sR.alloc _) l;obtain⟨ae,cap',rfl⟩:=hh d (by omega);have⟨aH,aI⟩:=wQ d;have H:w1.ownsRow w.heap.size 112 3 (my ae 0 (0+1) cap') (0+1) (flat<|gY (Y.take<|0+1)):=by
      rw[Z.o];have r:=takeWhile_eq (λy:fV=>nB y.1 x.1) out 0 (by omega) (λj q u=>L j q u) (λG=>by omega)
      have:=tR d c.size
      unfold Ej;rw[r.1,r.2,I.o,Wm<|by omega,ra,tz];exact this
     clear d l n;go_wp2
     all_goals
      go_roundw
      case rel=>exact⟨0+1,by omega,by go_num,c.trans<|o.mono c.size,H,λG=>by omega⟩
      case measure=>simp[intOf];omega
    obtain⟨g,h,rfl⟩:=hh f R;have⟨aw,ax⟩:=wQ f;go_wp2
    go_quiet (fail)
    go_wp2_with(at_builtin;apply yO _ fX (.tmp 39) (.tmp 44) 106 fX E.heap.size 112 z _ 3 32 underlying106 U A B C fX (by decide) _ _ _ fX (sR.alloc _) (ie wr.heap.size 0) 1 1 (pB x) fX fX ?c1 ?c2 ?c3 ?c4 ?c5)
    case c1=>exact ub (wr.drewN nq) x _ _ rfl
    case c2=>exact se x
    case c3=>unfold maxLen;omega
    case c4=>omega
    case c5=>have:=a.size;simp;omega
    intro Q w1 d l _;have n:E.heap.size<=((wr.drewN nq).alloc<|Obj.cells #[Value.string x.fst,Value.int IntKind.i64 x.snd.fst,Value.int IntKind.i64 x.snd.snd] 112).heap.size:=by have:=a.size;simp;omega
    have o:=Hm ((jf a nq).alloc a.size _) n (sR.alloc _) l;obtain⟨ae,cap',rfl⟩:=hh d (by omega);have⟨aH,aI⟩:=wQ d;have H:w1.ownsRow w.heap.size 112 3 (my ae 0 (k+1) cap') (k+1) (flat<|gY (Y.take<|k+1)):=by
     rw[Z.o];have r:=takeWhile_eq (λy:fV=>nB y.1 x.1) out k (by omega) (λj q u=>L j q u) (λG=>by omega)
     have:=tR d c.size
     unfold Ej;rw[r.1,r.2,I.o,Wm<|by omega,ra,tz];exact this
    clear d l n;go_wp2
    all_goals
     go_roundw
     case rel=>exact⟨k+1,by omega,by go_num,c.trans<|o.mono c.size,H,λG=>by omega⟩
     case measure=>simp[intOf];omega
  have aJ:i=m:=by omega
  subst aJ;have I:fe (Y.take i=Y):=oM (by rw[S.o];omega);rw[I.o]at f;go_wp2;go_ret;exact⟨_,fX,f,c⟩
theorem duv(a:Program)(W)(x y:fV)(b:(binOp .neq t (fD #[hZ x.1,fY x.2.1,fY x.2.2])<|fD #[hZ y.1,fY y.2.1,fY y.2.2]).run a W=(if x.fst.toList=y.fst.toList then
   if x.snd.fst=y.snd.fst then
    if x.snd.snd=y.snd.snd then Result.ok (Value.bool fo) W else Result.ok (Value.bool fm) W
   else Result.ok (Value.bool fm) W
  else Result.ok (Value.bool fm) W)):(binOp .neq t (fD #[hZ x.1,fY x.2.1,fY x.2.2])<|fD #[hZ y.1,fY y.2.1,fY y.2.2]).run a W=.ok (fE<|!(decide (x=y))) W:=by
 rw[b];by_cases e:x=y
 all_goals grind [yv,absurd,EM,wM]
theorem inh(W)(x y:fV):(binOp .neq 112 (fD #[hZ x.1,fY x.2.1,fY x.2.2])<|fD #[hZ y.1,fY y.2.1,fY y.2.2]).run prog W=.ok (fE<|!(decide (x=y))) W:=by
 refine duv _ W x y ?_
 go_simp
def dvd(W)(x y:fV):(binOp .neq 96 (fD #[hZ x.1,fY x.2.1,fY x.2.2])<|fD #[hZ y.1,fY y.2.1,fY y.2.2]).run prog W=.ok (fE<|!(decide (x=y))) W:=by
 refine duv _ W x y ?_
 go_simp
theorem kU{b}{o:Oper}{a:Act}(f:o.guard=fj)(d:ni)(x)(g:o.op=.load d x)(e:Addr)(h:a.eval x=fB (fh e))
  (cs:fu)(i:∀w,C w->(loadVar d e).run b w=.ok cs w)(j:wpQuiet b ops C Q rest (a.put o.dst cs)):wpQuiet b ops C Q (o::rest) a:=by
 have c:Region.wanted o (yielded ops a.tmps)=fm:=by simp[Region.wanted,f]
 refine wpQuiet_step λl k=>?_;rw[lv c];refine⟨_,λw c=>?_,k _ j⟩;unfold Oper.quietAt execOp;simp only[g,h,Instr.loadAt,Instr.sureAddr,hId,hIn,hy2,i w c];exact⟨fX,fX⟩
theorem wR{b}{o:Oper}{a:Act}(g:o.guard=fj)(d:BinOp)(t h)(x y)(i:o.op=.binOp d t x y h)(e f v:fu)(j:a.eval x=e)(k:a.eval y=f)
  (l:∀w,C w->(eqGuard d t x y e f).run b w=.ok () w)(m:∀w,C w->(binOp d t e f).run b w=.ok v w)(n:wpQuiet b ops C Q rest (a.put o.dst v)):wpQuiet b ops C Q (o::rest) a:=by
 have c:Region.wanted o (yielded ops a.tmps)=fm:=by simp[Region.wanted,g]
 refine wpQuiet_step λq p=>?_;rw[lv c];refine⟨_,λw c=>?_,p _ n⟩;unfold Oper.quietAt execOp;simp only[i,j,k,hId,hIn,hy2,l w c,m w c];exact⟨fX,fX⟩
theorem Nw{a:Program}(e:a.eqGuardType a.depth t=fo)(b:BinOp)(W)(x y)(c d):(eqGuard b t x y (fD c)<|fD d).run a W=.ok () W:=by
 have f:(program).run a W=.ok a W:=fX;unfold eqGuard
 grind [Sem.run_bind,Result.andThen_ok,Sem.run_pure]
theorem WW(W)(x y)(a b):(eqGuard .neq 112 x y (fD a)<|fD b).run prog W=.ok () W:=Nw (by kernel_rfl) _ W x y a b
def ld3(W:fq)(g o)(x:fV)(c0:W.c g o=fh (hZ x.1))(c1:W.c g (o+1)=fh (fY x.2.1))(c2:W.c g (o+2)=fh (fY x.2.2)):(loadVar 112<|ie g o).run prog W=.ok (fD #[hZ x.1,fY x.2.1,fY x.2.2]) W:=by
 go_simp
structure qh (F:Nat->Prop)(w:World)(o:Ob):Prop where
 kind:o.kind=1\/o.kind=2
 size:o.data.size<=256
 len:o.gh.length=o.el
 few:o.el<=16
 Je:0<=o.high
 Jf:o.high<=5
 row:w.ownsRow 0 112 3 (.slice o.ea o.el o.ec) o.el (flat o.gh)
 own:∀g,(Value.slice o.ea o.el o.ec).ownBlock=some g->F g
theorem qh.keep(a:qh F w o)(hF:∀k,F k->F' k)(c:∀k,F k->J.heap[k]?=w.heap[k]?):qh F' J o:=
 ⟨a.kind,a.size,a.len,a.few,a.Je,a.Jf,gg a.row λg b=>c g<|a.own g b,λg b=>hF g<|a.own g b⟩
def rT (o1 a:Ob):Bool:=decide (o1.kind=a.kind)&&decide (o1.data=a.data)&&decide (o1.gh=a.gh)
def qi (o:Ob):fu:=fD #[.int .i64 o.kind,fA o.data,fy o.ea o.el o.ec,.int .i64 o.high]
def vF(w)(a b):ju w ((w.alloc a).alloc b):=((mi _ _).alloc (lw _) _).alloc (by simp) _
theorem Fe(o1 a:Ob)(w:fq)(c:o1.el<=16)(d:a.el<=16)
  (b:(o1.kind != a.kind)=fm\/(o1.kind != a.kind)=fo/\((o1.data.toList==a.data.toList)=fo\/(o1.data.toList==a.data.toList)=fm/\((o1.el:Int) != (a.el:Int))=fm)):
  ik 200 #[qi o1,qi a] w (vd (fE fo) w):=by
 unfold qi;rcases b with b|⟨e,b|⟨f,b⟩⟩
 all_goals
  go_enter func200,ntmps200;go_wp2;go_ret;exact⟨fX,vF _ _ _⟩
theorem WX(z A H I:Int)(d1 d2:fO)(B C)(c1 c2 m:Nat)(es1 c:List fV)(w:fq)(W:m<=16)(X:fv es1=m)(Y:fv c=m)
  (D:w.ownsRow 0 112 3 (fy B m c1) m (flat es1))(E:w.ownsRow 0 112 3 (fy C m c2) m (flat c))
  (Z:(z != A)=fo)(aa:(d1.toList==d2.toList)=fm):
  ik 200 #[fD #[fY z,hZ d1,fy B m c1,fY H],fD #[fY A,hZ d2,fy C m c2,fY I]] w (vd (fE<|decide (es1=c)) w):=by
 go_enter func200,ntmps200;go_wp2
 go_loopw [5] (λi wr=>∃k:Nat,k<=m/\i=.int .i64 k/\(∃d,wr=((w.k #[fY z,hZ d1,fy B m c1,fY H] 108).k #[fY A,hZ d2,fy C m c2,fY I] 108).drewN d)/\fe (es1.take k=c.take k)) (λi _=>m-(intOf i).toNat)
 case atStart=>exact⟨0,Fr _,rfl,⟨0,rfl⟩,rfl⟩
 case round=>
  obtain⟨k,ab,rfl,⟨d,rfl⟩,J⟩:=hrel;by_cases ac:k<m
  ·obtain⟨e,ad,M⟩:=hh D (by omega)
   obtain⟨f,ae,N⟩:=hh E (by omega);obtain⟨rfl,_,_⟩:=lK M;obtain⟨rfl,_⟩:=lK N;have K:k<fv es1:=by omega
   have L:k<fv c:=by omega
   have F:e<w.heap.size:=gc D fX;have G:f<w.heap.size:=gc E fX;have g:∀a b:Obj,ju w (((w.alloc a).alloc b).drewN d):=λa b=>jf (vF w a b) d;obtain⟨l,o,q⟩:=lr (off:=0) (ks D) K;obtain⟨r,s,t⟩:=lr (off:=0) (ks E) L;rw[iR]at l o q r s t;obtain⟨x,u⟩:=oX<|es1[k];obtain⟨y,v⟩:=oX<|c[k];rw[<-u]at l o q;rw[<-v]at r s t;have O:=λa b:Obj=>((g a b).cell (p:=(ie e<|k*3)) F).trans l;have P:=λa b:Obj=>((g a b).cell (p:=(ie e<|k*3+1)) F).trans o;have Q:=λa b:Obj=>((g a b).cell (p:=(ie e<|k*3+2)) F).trans q;have R:=λa b:Obj=>((g a b).cell (p:=(ie f<|k*3)) G).trans r;have S:=λa b:Obj=>((g a b).cell (p:=(ie f<|k*3+1)) G).trans s;have T:=λa b:Obj=>((g a b).cell (p:=(ie f<|k*3+2)) G).trans t;clear l o q r s t
   change fe _ at u v
   go_wp2;refine bws (by kernel_rfl) (by kernel_rfl) ?_
   iterate 4 quiet_step (fail)
   refine kU fX 112 _ fX (ie e<|k*3) fX (fD #[hZ x.1,fY x.2.1,fY x.2.2]) (by rintro _ ⟨n,rfl⟩;exact ld3 _ e (k*3) x (O _ _) (P _ _)<|Q _ _) ?_
   go_frame
   iterate 4 quiet_step (fail)
   refine kU fX 112 _ fX (ie f<|k*3) fX (fD #[hZ y.1,fY y.2.1,fY y.2.2]) (by rintro _ ⟨n,rfl⟩;exact ld3 _ f (k*3) y (R _ _) (S _ _)<|T _ _) ?_
   go_frame
   refine wR fX .neq 112 112 _ _ fX (fD #[hZ x.1,fY x.2.1,fY x.2.2]) (fD #[hZ y.1,fY y.2.1,fY y.2.2]) (fE<|!(decide (x=y))) fX fX (by grind [WW]) (by grind [inh]) ?_
   go_frame
   refine WE ?_;rintro _ ⟨nq,rfl⟩;by_cases h:x=y
   ·have j:fe (x=y):=h
    rw[iE h];clear h;go_wp2;go_roundw
    case rel=>
     refine⟨k+1,by omega,by go_num,⟨d+nq,fX⟩,?_⟩;show _=_;rw[vv K,vv L,J.o,<-u.o,<-v.o,j.o]
    case measure=>simp[intOf];omega
   have j:fe (es1≠c):=λU=>h (by rw[u.o,v.o];simp only[U]);rw[yv h];clear h;go_wp2;go_ret;exact⟨by rw[yv j.o];rfl,jf (jf (vF _ _ _) d) nq⟩
  have V:k=m:=by omega
  have j:fe (es1=c):=by
   have:=J.o
   rwa [V,oM<|by omega,oM<|by omega]at this
  go_wp2;go_ret;exact⟨by rw[iE j.o];rfl,jf (vF _ _ _) d⟩
theorem dyn(o1 a)(w)(b:qh F w o1)(c:qh G w a):
  ik 200 #[qi o1,qi a] w (vd (fE<|rT o1 a) w):=by
 by_cases d:o1.kind=a.kind;by_cases f:o1.data=a.data;by_cases g:o1.el=a.el
 have:=WX o1.kind a.kind o1.high a.high o1.data a.data o1.ea a.ea o1.ec a.ec o1.el o1.gh a.gh w b.few b.len (by rw[c.len,g]) b.row (by have:=c.row;rwa [<-g]at this) (by rw[d];simp) (by rw[f];simp)
 grind [rT,decide,qi]
 have e:rT o1 a=fo:=by
  have:o1.gh≠a.gh:=λh=>g (by rw[<-b.len,<-c.len,h])
  grind [rT]
 rw[e];exact Fe o1 a w b.few c.few (.inr ⟨by rw[d];simp,.inr ⟨by rw[f];simp,by simp;omega⟩⟩);have e:rT o1 a=fo:=by unfold rT;simp[f]
 rw[e];exact Fe o1 a w b.few c.few (.inr ⟨by rw[d];simp,.inl (by grind [wM])⟩);have e:rT o1 a=fo:=by unfold rT;simp[d]
 rw[e];exact Fe o1 a w b.few c.few<|.inl (by grind)
structure lu (F:Nat->Prop)(w:World)(r:Nat)(a:iD)(cap:Nat)(RO:List Ob):Prop where
 fr:F r
 fa:∀g,(Value.slice a RO.length cap).ownBlock=some g->F g
 hr:w.heap[r]?=some (.cells #[.slice a RO.length cap] 94 (0,0))
 row:w.ownsRow 0 108 4 (.slice a RO.length cap) RO.length (gB RO)
 many:RO.length<=400
 zx:∀o∈RO,qh F w o
theorem lu.keep(b:lu F w r a h O)(hF:∀k,F k->F' k)(c:∀k,F k->J.heap[k]?=w.heap[k]?):lu F' J r a h O:=
 ⟨hF _ b.fr,λg d=>hF g<|b.fa g d,(c r b.fr).trans b.hr,gg b.row λg d=>c g<|b.fa g d,b.many,λo e=>(b.zx o e).keep hF c⟩
def lu.lt(b:lu F w r a h O):r<w.heap.size:=(lH.1 b.hr).1
def lu.c0(b:lu F w r a h O):w.c r 0=fh (fy a (fv O) h):=by simp[World.cell?,b.hr]
def lu.f0(b:lu F w r a h O):w.frozen? (ie r 0)=fo:=by simp[World.frozen?,b.hr]
theorem qh.below(a:qh F w o)(b:ju w J):qh F J o:=
 ⟨a.kind,a.size,a.len,a.few,a.Je,a.Jf,gg a.row λg c=>b.block g<|gc a.row c,a.own⟩
theorem lu.below(b:lu F w r a h O)(c:ju w J):lu F J r a h O:=
 ⟨b.fr,b.fa,(c.block r b.lt).trans b.hr,gg b.row λg d=>c.block g<|gc b.row d,b.many,λo e=>(b.zx o e).below c⟩
theorem mW(d:w.ownsRow 0 t 4 (fy a n h) n (gB O))(e:fv O=n)(U:i<fv O):
  ∃g,a=fh (ie g 0)/\g<w.heap.size/\w.c g (i*4)=fh (.int .i64 O[i].kind)/\w.c g (i*4+1)=fh (fA O[i].data)/\
   w.c g (i*4+2)=fh (fy O[i].ea O[i].el O[i].ec)/\w.c g (i*4+3)=fh (.int .i64 O[i].high):=by
 have p:i<n:=by rw[<-e];exact U
 rcases d.2 with⟨_,q⟩|⟨g,cap',r,f,_,k,_,_,s,l⟩
 omega;cases f;have b:∀j c,j<4->(O[i].cells)[j]?=fh c->w.c g (i*4+j)=fh c:=by
  intro j c m o;rw[<-sU O i j U m,<-l,MU<|by omega,Wp]at o
  grind [World.cell?]
 exact⟨g,fX,(lH.1 k).1,b 0 _ (by omega) fX,b 1 _ (by omega) fX,b 2 _ (by omega) fX,b 3 _ (by omega) fX⟩
theorem wo{b}{o:Oper}{a:Act}(e:o.guard=fj)(c:ni)(x)(f:o.op=.load c x)(d:Addr)(g:a.eval x=fB (fh d))
  (cs:fu)(h:(loadVar c d).run b w=.ok cs w)(i:wpStill b ops w Q rest (a.put o.dst cs)):wpStill b ops w Q (o::rest) a:=by
 have j:Region.wanted o (yielded ops a.tmps)=fm:=by simp[Region.wanted,e]
 refine wpStill_step λl k=>?_;rw[lv j];unfold Oper.still execOp;simp only[f,g,Instr.loadAt,Instr.sureAddr,hId,hIn,hy2,h];exact⟨fX,k _ i⟩
def ld4(W:fq)(g o)(x:Ob)(c0:W.c g o=fh (fY x.kind))(c1:W.c g (o+1)=fh (hZ x.data))(c2:W.c g (o+2)=fh (fy x.ea x.el x.ec))(c3:W.c g (o+3)=fh (fY x.high)):
  (loadVar 108<|ie g o).run prog W=.ok (qi x) W:=by
 unfold loadVar qi
 go_simp
def findAt (O:List Ob)(o:Ob):Option Nat:=O.findIdx? λx=>rT x o
def pF (p:Option Nat):Int:=match p with|some i=>i|none=>-1
theorem Cm(r)(a)(h)(O)(o)(w)(f:lu F w r a h O)(B:qh G w o):
  ik 149 #[ii r,qi o] w (vd (fY<|pF (findAt O o)) w):=by
 unfold qi;obtain⟨n,l⟩:=oX<|fv O;have L:n<=400:=by rw[l];exact f.many
 change fe _ at l
 obtain⟨s,z⟩:=oX (.cells #[fY o.kind,hZ o.data,fy o.ea o.el o.ec,fY o.high] 108:Obj);go_enter func149,ntmps149;go_wp2;rw[<-z]
 go_loopw [5] (λi wr=>∃k:Nat,k<=n/\i=.int .i64 k/\Below (w.alloc s).heap.size (w.alloc s) wr/\fe (∀j(b:j<fv O),j<k->rT O[j] o=fo)) (λi _=>n-(intOf i).toNat)
 case atStart=>exact⟨0,Fr _,rfl,mi _ _,λj b f=>by omega⟩
 case round=>
  obtain⟨k,M,rfl,m,t⟩:=hrel;have c:ju w wr:=((mi _ _).alloc (lw _) s).trans<|m.mono (by simp);have A:=(f.below c).c0;rw[<-l.o]at A;by_cases C:k<n
  ·have u:k<fv O:=by rw[<-l.o];exact C
   obtain⟨g,D,N,c0,c1,c2,c3⟩:=mW (f.below c).row fX u;rw[D]at A;have bx:∀j,j<4->wr.cell? (ie w.heap.size j)=(qi o).cells[j]?:=by
    intro j b;rw[m.cell (p:=(ie w.heap.size j))<|by simp];subst z
    match j,b with
    |0,_=>simp[qi,Value.cells]
    |1,_=>simp[qi,Value.cells]
    |2,_=>simp[qi,Value.cells]
    |3,_=>simp[qi,Value.cells]
   have E:=ld4 wr g (k*4) O[k] c0 c1 c2 c3;have H:=ld4 wr w.heap.size 0 o (bx 0<|by omega) (bx 1<|by omega) (bx 2<|by omega)<|bx 3 (by omega);have I:fe ((loadVar 108<|ie g (k*4)).run prog wr.drew=.ok (qi O[k]) wr.drew):=ld4 wr.drew g (k*4) O[k] c0 c1 c2 c3;have J:fe ((loadVar 108<|ie w.heap.size 0).run prog wr.drew=.ok (qi o) wr.drew):=ld4 wr.drew w.heap.size 0 o (bx 0<|by omega) (bx 1<|by omega) (bx 2<|by omega)<|bx 3 (by omega);clear c0 c1 c2 c3 bx E H;have q:=dyn O[k] o wr.drew ((f.below<|jf c 1).zx _<|kK u)<|B.below (jf c 1);go_wp2;refine sat 8 (by kernel_rfl) (by kernel_rfl) ?_;simp only[Wo,MZ,MW,Eb]
   iterate 6 still_step
   refine wo fX 108 _ fX (ie g<|k*4) fX (qi O[k]) I ?_
   go_frame
   refine wo fX 108 _ fX (ie w.heap.size 0) fX (qi o) J ?_
   go_frame
   refine sym ?_;cases d:rT O[k] o with
   |true=>
    have v:fe (rT O[k] o=fm):=d;rw[d]at q;clear d;go_wp2_with fail;refine q.via λw1 y=>?_;go_wp2;go_ret;refine⟨?_,c.trans<|(jf (mi wr.heap.size wr) 1).trans y |>.mono c.size⟩;have e:findAt O o=fh k:=yM.2 ⟨u,v,λj b=>by have:=t j (by omega) b;simp[this]⟩;rw[e];rfl
   |false=>
    have v:fe (rT O[k] o=fo):=d;rw[d]at q;clear d;go_wp2_with fail;refine q.via λw1 y=>?_;go_wp2;go_roundw
    case rel=>
     refine⟨k+1,by omega,by go_num,m.trans<|(jf (mi wr.heap.size wr) 1).trans y |>.mono m.size,?_⟩;intro j b P;by_cases e:j=k;subst e;exact v;exact t j b<|by omega
    case measure=>simp[intOf];omega
  go_wp2;go_ret;refine⟨?_,c⟩;have e:findAt O o=fj:=Wn.2 λx K=>by
   obtain⟨j,b,rfl⟩:=rI K;exact t j b (by rw[<-l.o]at b;omega)
  rw[e];rfl
def Db (O:List Ob)(e:fV):Int:=((O[e.2.2.toNat]?).map (·.high)).getD 0
def xr (O:List Ob)(es:List fV):Int:=es.foldl (λa e=>max a<|1+Db O e) 0
def Dc(O)(es:List fV)(e:fV):xr O (es++[e])=max (xr O es) (1+Db O e):=by
 simp only[xr,cmd,HV,List.foldl_nil]
def ins:(prog.info? 108).map (λi=>(i.zero,i.size,i.bytes))=fh (fh<|fD #[fY 0,hZ ByteArray.empty,fy fj 0 0,fY 0],4,56):=by kernel_rfl
theorem irq(r)(a)(h)(O)(o)(w)(e:lu F w r a h O)(f:qh G w o)(i:Nat)(g:findAt O o=fh i):
  ik 78 #[ii r,qi o] w (vd (fY i) w):=by
 have d:∀b,ju w (w.alloc b):=λb=>(mi _ _).alloc (lw _) _;have c:=λb:Obj=>Cm r a h O o (w.alloc b) (e.below<|d b)<|f.below (d b);rw[g]at c;unfold qi at c |-;have j:=c;clear c;go_enter func78,ntmps78;go_wp2_with fail;refine(j _).via λw1 k=>?_;go_wp2;go_ret;exact⟨fX,(d _).trans<|k.mono (by simp)⟩
theorem emp(r)(a)(h)(O)(o)(w)(e:lu F w r a h O)(g:qh G w o)(i:findAt O o=fj)(l:400<=fv O):
  ik 78 #[ii r,qi o] w (vd (fY<|-1) w):=by
 have d:∀b,ju w (w.alloc b):=λb=>(mi _ _).alloc (lw _) _;have c:=λb:Obj=>Cm r a h O o (w.alloc b) (e.below<|d b)<|g.below (d b);rw[i]at c;unfold qi at c |-;have j:=c;clear c;go_enter func78,ntmps78;go_wp2_with fail;refine(j _).via λw1 k=>?_;have f:=(d _).trans<|k.mono (by simp);have m:=(e.below f).c0;go_wp2;go_ret;exact⟨fX,f⟩
def ou (W:fq)(b:Nat)(k:Int)(d:fO)(ea:iD)(el ec:Nat)(U:Int):Prop:=W.heap[b]?=fh (.cells #[.int .i64 k,fA d,fy ea el ec,.int .i64 U] 108 (0,0))
theorem ou.parts{k:Int}(a:ou W b k d ea el ec U):W.c b 2=fh (fy ea el ec)/\W.c b 3=fh (fY U)/\W.frozen? (ie b 3)=fo:=by
 grind [ou,World.cell?,World.frozen?]
theorem ou.aaF{k:Int}(a:ou W b k d ea el ec U):W.c b 0=fh (fY k)/\W.c b 1=fh (hZ d):=by
 grind [ou,World.cell?]
theorem Lj{r:Option Nat}(b:(w.alloc o1).drew.grownBy w1 r)(c:p<w.heap.size)(d:fh p≠r)(e:w.cell? (ie p i)=fh v):w1.cell? (ie p i)=fh v:=by
 rw[wJ (a:=(ie p i))<|b.block p (by simp;omega) d];show(w.alloc o1).cell? (ie p i)=_;rw[hyz _ _ _ c,e]
theorem Ff{r:Option Nat}(b:(w.alloc o1).drew.grownBy w1 r)(c:p<w.heap.size)(d:fh p≠r)(e:w.frozen? (ie p i)=fo):w1.frozen? (ie p i)=fo:=by
 rw[Rj (a:=(ie p i))<|b.block p (by simp;omega) d];show(w.alloc o1).frozen? (ie p i)=_;rw[rrs _ _ _ c,e]
theorem ou.high{k:Int}(a:ou W b k d ea el ec U)(x:Int):ou (W.setCell (ie b 3)<|fY x) b k d ea el ec x:=by
 grind [ou,World.setCell]
def vG(a:fH F w J)(b):fH F w (J.drewN b):=⟨a.os,a.tape,a.output,a.size,a.block⟩
theorem WY(a:fH (λk=>k=b) w J):fH (λk=>k=b) w (J.setCell (ie b i) v):=
 ⟨a.os,a.tape,a.output,by simpa using a.size,λk d c=>by rw[sI _ _ _ _ c];exact a.block k d c⟩
theorem WZ{w wr b:fq}{Y:gX}(c:lu F w r a h O)(q:∀f,f<w.heap.size->wr.heap[f]?=w.heap[f]?)(s:w.heap.size<wr.heap.size)
  (i:wr.os=w.os/\wr.tape=w.tape/\wr.output=w.output)(j:fh r≠(Value.slice a (fv O) h).ownBlock)(m:b.ownsRow 0 108 4 (my g 0 (fv O+1) cap') (fv O+1) (gB O++Y))
  (d:(wr.alloc o1).drew.grownBy b (Value.slice a (fv O) h).ownBlock)(l:(Value.slice (fh<|ie g 0) (fv O+1) cap').ownBlock=(Value.slice a (fv O) h).ownBlock\/(Value.slice (fh<|ie g 0) (fv O+1) cap').ownBlock=fh (wr.alloc o1).drew.heap.size):
  (b.setCell (ie r 0)<|my g 0 (fv O+1) cap').heap[r]?=fh (.cells #[my g 0 (fv O+1) cap'] 94 (0,0))/\(b.setCell (ie r 0)<|my g 0 (fv O+1) cap').ownsRow 0 108 4 (my g 0 (fv O+1) cap') (fv O+1) (gB O++Y)/\
    ((fh g:Option Nat)=(Value.slice a (fv O) h).ownBlock\/w.heap.size<=g)/\fH (λk=>k=r\/fh k=(Value.slice a (fv O) h).ownBlock) w (b.setCell (ie r 0)<|my g 0 (fv O+1) cap'):=by
 have n:∀k,k<w.heap.size->fh k≠(Value.slice a (fv O) h).ownBlock->b.heap[k]?=w.heap[k]?:=by
  intro k t o;rw[d.block k (by simp;omega) o];show(wr.alloc o1).heap[k]?=_
  grind [sK]
 have u:b.heap[r]?=fh (.cells #[fy a (fv O) h] 94 (0,0)):=by rw[n r c.lt j,c.hr]
 have v:g≠r:=by
  rintro rfl;rcases l with e|e
  exact j e
  have:=c.lt
  simp[Value.ownBlock]at e;omega
 have p:=d.size;simp at p;refine⟨?_,?_,?_,⟨d.os.trans i.1,d.tape.trans i.2.1,d.output.trans i.2.2,by simp;omega,?_⟩⟩
 grind [World.setCell]
 have⟨e,x⟩:=m;refine⟨e,?_⟩
 grind [sI]
 rcases l with c|c
 exact Or.inl c;simp[Value.ownBlock]at c;omega
 grind [sI]
theorem eni(r)(a)(h)(O)(o)(w)(b:lu F w r a h O)(u:qh G w o)(ai:o.high=0)(aj:findAt O o=fj)(aG:fv O<400)
  (P:∀e∈o.gh,0<=e.2.2/\e.2.2<(fv O:Int)):
  ik 78 #[ii r,qi o] w λe J=>e=fF (fY<|fv O)/\
   ∃g cap',J.heap[r]?=fh (.cells #[my g 0 (fv O+1) cap'] 94 (0,0))/\J.ownsRow 0 108 4 (my g 0 (fv O+1) cap') (fv O+1) (gB O++Ob.cells { o with high:=xr O o.gh })/\
    ((fh g:Option Nat)=(Value.slice a (fv O) h).ownBlock\/w.heap.size<=g)/\fH (λk=>k=r\/fh k=(Value.slice a (fv O) h).ownBlock) w J:=by
 have⟨ak,U,al,am,an⟩:=kM ins;have B:∀c,ju w (w.alloc c):=λc=>(mi _ _).alloc (lw _) _;have v:=λc:Obj=>Cm r a h O o (w.alloc c) (b.below<|B c)<|u.below (B c);rw[aj]at v;unfold qi at v |-;have C:∀c:Obj,ik 149 #[ii r,fD #[fY o.kind,hZ o.data,fy o.ea o.el o.ec,fY o.high]] (w.alloc c) λe J=>e=fF (fY<|-1)/\Below (w.alloc c).heap.size (w.alloc c) J:=v;clear v;have ao:fe (∀x∈O,0<=x.high/\x.high<=5):=λx Q=>⟨(b.zx x Q).Je,(b.zx x Q).Jf⟩;have aH:o.el<=16:=u.few;have R:fe (fv o.gh=o.el):=u.len
 change fe _ at P
 rw[ai]at C |-;go_enter func78,ntmps78;go_wp2_with fail;refine(C _).via λw1 D=>?_
 have s:=(B _).trans<|D.mono (by simp);have aI:=(b.below s).c0;have S:r<w.heap.size:=b.lt;have ap:fe (ou w1 w.heap.size o.kind o.data o.ea o.el o.ec 0):=by
  show w1.heap[w.heap.size]?=_;rw[D.block _<|by simp];exact oO _ _
 have aq:w.heap.size<w1.heap.size:=by have:=D.size;simp at this;omega
 clear C;go_wp2
 go_loopw [6] (λi wr=>∃k:Nat,k<=o.el/\i=.int .i64 k/\fe (fH (λk=>k=w.heap.size) w1 wr)/\fe (ou wr w.heap.size o.kind o.data o.ea o.el o.ec<|xr O (o.gh.take k))/\0<=xr O (o.gh.take k)/\xr O (o.gh.take k)<=6) (λi _=>o.el-(intOf i).toNat)
 case atStart=>exact⟨0,Fr _,rfl,⟨rfl,rfl,rfl,lw _,λ_ _ _=>rfl⟩,ap,by show(0:Int)<=0;omega,by show(0:Int)<=6;omega⟩
 case round=>
  obtain⟨k,aJ,rfl,d,t,T,V⟩:=hrel;have n:∀p,p<w.heap.size->wr.heap[p]?=w.heap[p]?:=λp ar=>(d.block p (by omega) (by omega)).trans<|s.block p ar;have au:w.heap.size<wr.heap.size:=nz aq d.size;have X:wr.c r 0=fh (fy a (fv O) h):=(wJ (a:=(ie r 0))<|n r S).trans b.c0;have⟨av,E,fz⟩:=t.parts;by_cases aw:k<o.el
  ·have H:k<fv o.gh:=by rw[R.o];exact aw
   have y:=u.row;have⟨I,aK,Y⟩:=hh y (by omega);have Z:=(lK Y).1;rw[Z]at y av;clear Z Y;have ax:I<w.heap.size:=gc y fX;have⟨_,_,z⟩:=lr (off:=0) (ks y) H;rw[iR]at z;have⟨ay,az⟩:=P _<|kK H;obtain⟨j,K⟩:∃j:Nat,o.gh[k].2.2=(j:Int):=⟨o.gh[k].2.2.toNat,by omega⟩;have L:j<fv O:=by omega
   rw[K]at z;have aL:=(wJ (a:=(ie I<|k*3+2))<|n I ax).trans z;have⟨g,aa,aA,_,_,_,c3⟩:=mW b.row fX L;rw[aa]at X;clear aa;have aM:=(wJ (a:=(ie g<|j*4+3))<|n g aA).trans c3;have⟨aN,aO⟩:=ao O[j]<|kK L;have q:fe (xr O (o.gh.take<|k+1)=max (xr O<|o.gh.take k) (1+O[j].high)):=by
    show _=_;rw[vv H,Dc];unfold Db;rw[K,qI,jG L];rfl
   obtain⟨f,l⟩:=oX<|xr O (o.gh.take k);rw[<-l]at T V E;have m:fe (f=xr O (o.gh.take k)):=l;clear c3 z l K ay az;by_cases kO:f<1+O[j].high
   ·go_wp2
    go_quiet (fail)
    go_wp2;go_roundw
    case rel=>
     refine⟨k+1,by omega,by go_num,WY<|vG d nq,?_,by rw[q.o,<-m.o];omega,by rw[q.o,<-m.o];omega⟩;rw[q.o,<-m.o,Int.max_eq_right<|by omega];exact ou.high (W:=wr.drewN nq) t _
    case measure=>simp[intOf];omega
   go_wp2
   go_quiet (fail)
   go_wp2;go_roundw
   case rel=>
    refine⟨k+1,by omega,by go_num,vG d nq,?_,by rw[q.o,<-m.o];omega,by rw[q.o,<-m.o];omega⟩;rw[q.o,<-m.o,Int.max_eq_left<|by omega,m.o];exact t
   case measure=>simp[intOf];omega
  have aP:k=o.el:=by omega
  have ab:fe (o.gh.take k=o.gh):=oM (by rw[R.o];omega);rw[ab.o]at E;have ac:fe (ou wr w.heap.size o.kind o.data o.ea o.el o.ec<|xr O o.gh):=by have:=t.o;rwa [ab.o]at this
  have⟨aQ,aR⟩:=ac.aaF;obtain⟨f,l⟩:=oX<|xr O o.gh;rw[<-l]at E ac;have aB:fe (f=xr O o.gh):=l;clear T V l t;have aC:fe (wr.ownsRow 0 108 4 (fy a (fv O) h) (fv O)<|gB O):=gg b.row λg aD=>n g<|gc b.row aD;have M:fe (fh r≠(Value.slice a (fv O) h).ownBlock):=il b.row b.hr (by decide);have aE:fe (∀ad∈[Value.int .i64 o.kind,hZ o.data,fy o.ea o.el o.ec,fY f],ad.oneCell'=fm):=by intro ad ae;simp at ae;rcases ae with rfl|rfl|rfl|rfl<;>rfl
  have aF:wr.frozen? (ie r 0)=fo:=(Rj (a:=(ie r 0))<|n r S).trans b.f0;have af:r<wr.heap.size:=by omega
  go_wp2
  go_region_law(refine pw fX (.tmp 51) (.tmp 53) 92 fX 0 108 ak _ 4 56 underlying92 U al am an fX (by decide) (fy a (fv O) h) (fv O) (gB O) (by simp[Act.eval]) (aC.alloc _) (ie wr.heap.size 0) 1 1 [fY o.kind,hZ o.data,fy o.ea o.el o.ec,fY f] (by simp[Act.eval]) fX (Rz wr (fY o.kind) (hZ o.data) (fy o.ea o.el o.ec) (fY f) 108) aE (by unfold maxLen;omega) (by omega) (Fr _) ?_;intro aS aT N A ag;obtain⟨g,cap',rfl⟩:=hh N (by omega);have aU:=Lj A af M X;have aV:=Ff A af M aF)
  all_goals
   have ah:fe _:=WZ b n au ⟨d.os.trans s.os,d.tape.trans s.tape,d.output.trans s.output⟩ M N A ag;clear N A ag;go_wp2;go_ret;rw[aB.o]at ah;exact⟨by simp,g,cap',ah⟩
theorem gZ(b:w.ownsRow base e size v n xs)(c:v.ownBlock=fh g):∃a,w.heap[g]?=fh (.cells a e (0,0)):=by
 rcases b.2 with⟨rfl,_⟩|⟨d,h,a,rfl,_,f,_⟩
 all_goals grind [Value.ownBlock]
def gi (F:Nat->Prop)(w:fq)(r:Nat)(O:List Ob):Prop:=∃a h,lu F w r a h O
theorem gi.keep(b:gi F w r O)(hF:∀k,F k->F' k)(c:∀k,F k->J.heap[k]?=w.heap[k]?):gi F' J r O:=by
 obtain⟨a,h,b⟩:=b;exact⟨a,h,b.keep hF c⟩
theorem gi.below(b:gi F w r O)(c:ju w J)(hF:∀k,F k->F' k):gi F' J r O:=by
 obtain⟨a,h,b⟩:=b;have d:=b.below c;exact⟨a,h,d.keep hF λ_ _=>rfl⟩
theorem foldl_max(b:fV->Int):∀(es:List fV)(a:Int),a<=es.foldl (λa e=>max a<|b e) a
 |[],_=>wE _
 |e::r,a=>Int.le_trans (Int.le_max_left _ _)<|foldl_max b r _
theorem Ic(O)(es:List fV):0<=xr O es:=foldl_max (λe=>1+Db O e) es 0
theorem lu.put(c:lu F w r a h O)(d:qh G w o)(p:xr O o.gh<=5)(t:fv O<400)
  (u:J.heap[r]?=fh (.cells #[my g 0 (fv O+1) cap'] 94 (0,0)))(q:J.ownsRow 0 108 4 (my g 0 (fv O+1) cap') (fv O+1) (gB O++Ob.cells { o with high:=xr O o.gh }))
  (s:(fh g:Option Nat)=(Value.slice a (fv O) h).ownBlock\/w.heap.size<=g)(f:fH (λk=>k=r\/fh k=(Value.slice a (fv O) h).ownBlock) w J):
  lu (λk=>F k\/G k\/(w.heap.size<=k/\k<J.heap.size)) J r (fh<|ie g 0) cap' (O++[{ o with high:=xr O o.gh }])/\fH F w J:=by
 have y:fv (O++[{ o with high:=xr O o.gh }])=fv O+1:=by simp
 have items:∀{v:fu}{n:Nat}{xs:gX},w.ownsRow 0 112 3 v n xs->J.ownsRow 0 112 3 v n xs:=by
  intro v n xs j;refine gg j λk b=>?_
  obtain⟨z,l⟩:=gZ j b;refine f.block k (gc j b) ?_;rintro(rfl|e)
  have:=c.hr;rw[l]at this;cases this
  exact il c.row l (by decide) e
 refine⟨⟨.inl c.fr,?_,?_,?_,?_,?_⟩,⟨f.os,f.tape,f.output,f.size,?_⟩⟩;intro k b;rcases s with e|e
 refine .inl<|c.fa k ?_;rw[<-e];exact b;simp only[Value.ownBlock,pW]at b;subst b;exact .inr<|.inr ⟨e,gc q fX⟩
 ·all_goals grind
 ·all_goals grind [vE]
 ·all_goals omega
 intro x i;rcases qJ.1 i with i|i
 have:=c.zx x i
 exact⟨this.kind,this.size,this.len,this.few,this.Je,this.Jf,items this.row,λk b=>.inl<|this.own k b⟩;rw[om.1 i];exact⟨d.kind,d.size,d.len,d.few,Ic _ _,p,items d.row,λk b=>.inr<|.inl (d.own k b)⟩;intro k b m;refine f.block k b ?_;rintro(rfl|e);exact m c.fr;exact m<|c.fa k e.symm
def AD (O Z:List Ob)(o:Ob)(x:Int):Prop:=
 (∃i:Nat,findAt O o=fh i/\Z=O/\x=i)\/(findAt O o=fj/\400<=fv O/\Z=O/\x=-1)\/
 (findAt O o=fj/\fv O<400/\Z=O++[{ o with high:=xr O o.gh }]/\x=fv O)
def Grow (F G:Nat->Prop)(w J:fq)(k:Nat):Prop:=F k\/G k\/(w.heap.size<=k/\k<J.heap.size)
theorem AE(b:gi F w r O)(o)(j:qh G w o)(n:o.high=0)(p:xr O o.gh<=5)(q:∀e∈o.gh,0<=e.2.2/\e.2.2<(fv O:Int)):
  ik 78 #[ii r,qi o] w λe J=>∃x Z,e=fF (fY x)/\AD O Z o x/\gi (Grow F G w J) J r Z/\fH F w J:=by
 obtain⟨a,h,b⟩:=b;have inv:gi F w r O:=⟨a,h,b⟩;cases c:findAt O o with
 |some i=>
  refine(irq r a h O o w b j i c).mono λe J⟨d,f⟩=>?_;exact⟨_,O,d,.inl ⟨i,c,fX,fX⟩,inv.below f λk l=>.inl l,fH.fK f⟩
 |none=>
  by_cases m:400<=fv O;refine(emp r a h O o w b j c m).mono λe J⟨d,f⟩=>?_
  exact⟨_,O,d,.inr<|.inl ⟨c,m,fX,fX⟩,inv.below f λk l=>.inl l,fH.fK f⟩;refine(eni r a h O o w b j n c (by omega) q).mono λe J⟨d,g,cap',s,t,u,v⟩=>?_
  have:=b.put j p (by omega) s t u v
  exact⟨_,_,d,.inr (.inr ⟨c,by omega,fX,fX⟩),⟨_,_,this.1⟩,this.2⟩
def AF (O Z:List Ob)(d:fO)(x y:Int):Prop:=
 (256<d.size/\Z=O/\x=-1/\y=11)\/
 (d.size<=256/\((∃i:Nat,findAt O (xp d)=fh i/\Z=O/\x=i/\y=0)\/(findAt O (xp d)=fj/\400<=fv O/\Z=O/\x=-1/\y=11)\/
  (findAt O (xp d)=fj/\fv O<400/\Z=O++[xp d]/\x=fv O/\y=0)))
theorem Lk(a:gi F w r O)(d:fO)(t:d.size<=maxLen):
  ik 36 #[ii r,hZ d] w λe J=>∃x y Z,e=qr #[fY x,fY y]/\AF O Z d x y/\gi (kB F w J) J r Z/\fH F w J:=by
 unfold maxLen at t;by_cases u:256<d.size
 ·have j:fe (gi F w r O):=a
  clear a;go_enter func36,ntmps36;go_wp2;go_ret2;exact⟨_,_,O,fX,.inl ⟨u,fX,fX,fX⟩,j.o.below (mi _ _) λk b=>.inl b,fH.fK<|mi _ _⟩
 have m:qh (λ_=>False) w (xp d):=⟨.inl fX,by show d.size<=256;omega,fX,by show 0<=16;omega,wE _,by show(0:Int)<=5;omega,jY _ _ _ _,λg v=>by cases v⟩;have n:=AE a (xp d) m fX (by show(0:Int)<=5;omega) (λe z=>by cases z);have o:ik 78 #[ii r,fD #[fY 1,hZ d,fy fj 0 0,fY 0]] w λe J=>∃x Z,e=fF (fY x)/\AD O Z (xp d) x/\gi (Grow F (λ_=>False) w J) J r Z/\fH F w J:=n;clear n a m;have p:d.size<=256:=by omega
 go_enter func36,ntmps36;go_wp2_with fail;refine o.mono ?_;rintro e J ⟨x,Z,rfl,q,U,b⟩;have j:fe (gi (kB F w J) J r Z/\fH F w J):=⟨U.keep (λk b=>by rcases b with a|a|a;exact .inl a;exact a.elim;exact .inr a) λ_ _=>rfl,b⟩;have s:fe (AD O Z (xp d) x):=q;clear o U b q;by_cases A:x<0
 ·go_wp2
  go_ret2;refine⟨_,_,Z,fX,.inr ⟨p,?_⟩,j.o⟩;rcases s.o with⟨i,c,f,h⟩|⟨c,f,h,l⟩|⟨c,f,h,l⟩
  all_goals grind
 go_wp2;go_ret2;refine⟨_,_,Z,fX,.inr ⟨p,?_⟩,j.o⟩;rcases s.o with⟨i,c,f,h⟩|⟨c,f,h,l⟩|⟨c,f,h,l⟩
 ·all_goals grind
 omega;exact .inr<|.inr ⟨c,f,h,l,fX⟩
