/- A part of the proof. -/
import Derived.Test.YtlgidcmmgohagaaGreatComM01
import Derived.Shelf.SlSortCmp.NoneTotal
set_option linter.all false
namespace Go.Proofs.YtlgidcmmgohagaaGreat
open Go.RowKit Go.Sort Go.Shelf Go.Proofs.Tryz
open Go.Value renaming slice->fy,string->fA,pointer->fB,tuple->fC,agg->fD,bool->fE
open Go.Ending renaming returned->fF
open Option renaming some->fh,none->fj
open Bool renaming true->fm,false->fo
open Go renaming World->fq,Value->fu
open List renaming length->fv,reverse->fx
open Go.RowKit renaming Hid->fe
set_option maxRecDepth 100000
set_option maxHeartbeats 0
variable {D Dd Df:DataW Unit}{rest:List Oper}{base bd bf E h j k n p s size:Nat}{ops:Array Oper}{A Z:List Ob}{v:fu}{l:List UInt8}{es out:List fV}{xs:iN}{w H:fq}{F F':Nat->Prop}{a:ig}{C:fq->Prop}{e t:lV}{Q:Act->Prop}{o:Ob}{c:UInt8}
variable {ft:kI}
theorem EZ{P:Program}(w)(c h j b:lV)(size:Nat)(d a:ig)(e k f l)(m:P.underlying c=fh (.slice b))(n:(P.info? b).map (·.size)=fh size)(o:Nat.min f e=0):
  (Builtin.copy_ #[c,h] j #[fy d e k,fy a f l]).run P w=.ok (goInt 0) w:=by
 rcases g:P.info? b with _|i
 simp[g]at n;have p:∀(x:Addr),(loadCells x 0).run P w=.ok #[] w:=λx=>by simpa using run_loadCells_list (P:=P) w x [] (by simp)
 cases d<;>cases a<;>simp[Builtin.copy_,WI m,Builtin.lenOf,Builtin.firstCells,sizeOf,typeInfo,g,o,storeCells,p]
theorem sP{P:Program}{o:Oper}{a:Act}{Q:Exit->Act->fq->Prop}(l:o.guard=fj)(d s:Operand)(b g:lV)
  (m:o.op=.call { callee:=.builtin .copy,args:=#[d,s],argTypes:=#[b,g] })(c:lV)(n:P.underlying b=fh (.slice c))(size:Nat)(p:(P.info? c).map (·.size)=fh size)
  (h i:ig)(e j f k)(q:a.eval d=fy h e j)(r:a.eval s=fy i f k)(t:Nat.min f e=0)
  (u:wpList P ops Q rest (a.put o.dst<|goInt 0) w):wpList P ops Q (o::rest) a w:=by
 refine WL l λx v=>?_;unfold Oper.wp;simp[execOp,m,resolve,invoke,builtin,q,r,(EZ (P:=P) w b g o.type c size h i e j f k n p t),Result.andThen];exact v _ _ u
theorem Ns(w:fq):ik 109 #[fy fj 0 0] w (ut (fC #[fy fj 0 0,fY 0]) w):=by
 have b:=λa=>sin RB 0 0 a;have c:=λd a=>AnyF.slices_SortFunc_none aaz fj 0 d a;go_enter func109,ntmps109;go_wp2
 go_loopw [11] (λi wr=>i=.int .i64 0/\ju w wr) (λ_ _=>0)
 case atStart=>exact⟨rfl,mi _ _⟩
 case round=>
  obtain⟨rfl,e⟩:=hrel;go_wp2_with fail;apply Calls.still<|b _;go_wp2_with fail;apply Calls.still<|c _ _;go_wp2
  go_loopw [7] (λi wr=>i=.int .i64 1/\ju w wr) (λ_ _=>0)
  case atStart=>exact⟨rfl,e⟩
  case round=>
   obtain⟨rfl,f⟩:=hrel;go_wp2
   go_loopw [47] (λi wr=>i=.int .i64 0/\ju w wr) (λ_ _=>0)
   case atStart=>exact⟨rfl,f⟩
   case round=>
    obtain⟨rfl,g⟩:=hrel;go_wp2;go_ret2;exact⟨fX,g⟩
theorem Nt(p)(w:fq):ik 110 #[ie p,fy fj 0 0] w (ut (fC #[fY 0,fY 0]) w):=by
 go_enter func110,ntmps110;go_wp2
 go_loopw [6,12] (λt i wr=>i=.int .i64 0/\t=.int .i64 0/\ju w wr) (λ_ _ _=>0)
 case atStart=>exact⟨rfl,rfl,mi _ _⟩
 case round=>
  obtain⟨rfl,rfl,a⟩:=hrel;go_wp2;go_ret2;exact⟨fX,a⟩
theorem Da(w:fq):ik 111 #[fy fj 0 0] w (ut (fD<|kv []) w):=by
 have a:fe ((kv []).size=48):=kP (by simp);have d:fe (EU.toArray=kv []):=by show EU.toArray=kv [];simp[kv,flat]
 go_enter func111,ntmps111;have e:∀c b:Obj,((w.alloc c).alloc b).heap[w.heap.size+1]?=fh b:=λc b=>Ru _ _ _
 go_wp2_with(first
  |(apply sP fX (.tmp 4) (.tmp 5) 55 55 fX 96 underlying55 3 Er _ _ 16 16 0 0 fX fX fX)
  |(refine wpList_load_row fX 208 _ fX (w.heap.size+1) fX 208 (kv []) (0,0) _ (d.o▸e _ _) underlying208 fX (by rw[a.o];exact oc) ?_)
  |(refine rop fX 208 _ _ fX w.heap.size (kv []) fX fX 208 _ (Rq _ _ _) (by rw[a.o];exact oc) (by rw[a.o];rfl) (qa []) ?_)
  |go_in)
 refine ni (v:=fD<|kv []) (results_cell_row results111 _ _ w.heap.size 208 (kv []) (0,0) _ fX (Hz _ w.heap.size _ _ 208 (0,0)<|Rq _ _ _) underlying208 fX (by rw[a.o];exact oc)) fX ⟨fX,?_⟩;exact below_setRow (((mi _ _).alloc (lw _) _).alloc (by simp) _) (lw _) _
def WZ (ft:kI)(w H:fq)(p:Nat)(a:ig)(n h bf bd:Nat)(Dd:DataW Unit)(A:List Ob)(e:Ending):Prop:=
 (Below w.heap.size w H/\
  ((Maps.has Dd (pj prog [])=fm/\∃c,Dd.atKey (pj prog []) (.lit<|.int .i64 0)=.lit (.int .i64 c)/\e=fF (fC #[.int .i64 c,.int .i64 0]))\/
   (Maps.has Dd (pj prog [])=fo/\400<=n/\e=fF (fC #[.int .i64 0,.int .i64 11]))))\/
 (n<400/\Maps.has Dd (pj prog [])=fo/\e=fF (fC #[.int .i64<|(n:Int)+1,.int .i64 0])/\
  Az ft w H p a n h bf bd bd 208 (gD A++[.int .i64 2,fA ByteArray.empty,fy fj 0 0,.int .i64 0]) (Dd.put (pj prog [])<|.lit (.int .i64<|(n:Int)+1)))
theorem RN(p)(a)(n h bf bd)(A)(Dd:DataW Unit)(w)(v:jR ft w p a n h bf bd A)(x:w.ownsMap prog 208 (plainElem prog 29) bd n Dd):
  ik 60 #[ie p,.slice fj 0 0] w λe H=>WZ ft w H p a n h bf bd Dd A e:=by
 have y:=Ns w;go_enter func60,ntmps60;go_wp2_with fail;refine y.via λO z=>?_;have B:=Nt p O;clear y;go_wp2_with fail;refine B.via λC R=>?_;have g:ju w C:=z.trans<|R.mono z.size;have D:=Da C;have l:fe ((kv []).size=48):=kP (by simp);clear B;go_wp2_with (first
  | (go_at_call 111;refine D.via λd j=>?_)
  | (refine rop fX 208 _ _ fX d.heap.size (kv []) fX fX 208 _ (nX d _) (by rw[l.o];exact oc) (by rw[l.o];rfl) (qa []) ?_;rw[vt]))
 have ab:=(v.below<|(g.trans (j.mono g.size)).alloc (by have:=j.size;have:=g.size;omega) (.cells (kv []) 208)).at_.c2;have E:(d.alloc<|.cells (kv []) 208).ownsMap prog 208 (plainElem prog 29) bd n Dd:=(pB x<|(g.trans (j.mono g.size)).block bd x.lt).alloc _;have q:(d.alloc<|.cells (kv []) 208).heap[d.heap.size]? = fh (.cells (kv []) 208 (0,0)):=nX d _;have k:ju w (d.alloc<|.cells (kv []) 208):=(g.trans<|j.mono g.size).alloc (by have:=j.size;have:=g.size;omega) _;have S:∀e ∈ ([]:List fV),Fits e:=λe T=>by cases T
 have r:=lg [] (by simp) S;have⟨c,F,s,G⟩:=Ay (W:=λi=>(d.alloc (.cells (kv []) 208)).drewN i) (λi=>E) r;have I:=λi=>rws (P:=prog) ((d.alloc<|.cells (kv []) 208).drewN i) d.heap.size 208 208 (kv []) (0,0) _ q underlying208 fX (by rw[l.o];exact oc)
 go_frame
 change fe _ at q
 generalize d.alloc (.cells (kv []) 208)=W at *;apply Wz (by kernel_rfl)<|by kernel_rfl
 iterate 4 quiet_step (fail)
 refine lY fX 208 _ fX d.heap.size fX (kv []) (by rintro _ ⟨i,rfl⟩;exact I i) ?_
 go_frame
 refine qF fX 183 _ _ fm fX (.map<|fh bd) (.agg<|kv []) (.tuple #[fY c,.bool<|Maps.has Dd (pj prog [])]) fX fX (by rintro _ ⟨i,rfl⟩;exact F i) ?_
 go_frame
 repeat (quiet_step (fail))
 apply Rx;rintro _ ⟨nq,rfl⟩;have f:jR ft W p a n h bf bd A:=v.below k;clear I F D;cases t:Maps.has Dd (pj prog []) with
 | true=>
  have m:fe (Maps.has Dd (pj prog [])=fm):=t;have U:fe (Dd.atKey (pj prog []) (.lit<|.int .i64 0)=.lit (.int .i64 c)):=s;clear t s G;go_wp2;go_ret2;exact .inl ⟨iP k _,.inl ⟨m,c,U,fX⟩⟩
 | false=>
  have m:fe (Maps.has Dd (pj prog [])=fo):=t;clear s G;by_cases J:400<=n
  ·have o:=EN p 2 0 ByteArray.empty a n h fj 0 0 (W.drewN nq) f.at_.lt J f.at_.c0
   go_wp2_with (go_at_call 112;refine o.mono ?_;rintro e V ⟨rfl,rfl⟩);go_ret2;exact .inl ⟨(iP k _).alloc (iP k _).size _,.inr ⟨m,J,fX⟩⟩
  have u:n<400:=by omega
  have K:=io f.row (b:=p) f.at_ (by decide);have o:=EM p 2 0 ByteArray.empty a n h (gD A) fj 0 0 (W.drewN nq) f.at_.lt u f.at_.c0 f.at_.f0 f.row K;go_wp2_with (go_at_call 112;refine o.via λV L=>?_);have⟨ac,X,Y,Z⟩:=IX nq f E q L r u l;clear L o K;apply hw1 6 (by kernel_rfl) (by kernel_rfl);simp only[Rn,KU,KQ,Ce]
  iterate 4 still_step
  apply pg fX 208 _ fX d.heap.size fX (kv []) X
  go_frame
  still_step
  apply iff;refine rll _ fX _ _ _ 183 fX 208 29 EW underlying183 _ bd n _ fX Y (by unfold maxLen;omega) _ _ _ fX fX r _ [] (rts underlying29<|Ww (by omega)) ?_;intro M N Q;have aa:fe (Az ft W M p a n h bf bd bd 208 (gD A ++ [fY 2,.string ByteArray.empty,.slice fj 0 0,fY 0])<|Dd.put (pj prog []) (.lit<|.int .i64 ((n:Int)+1))):=Z M N Q;clear N Q;go_wp2;go_ret2;exact .inr ⟨u,m,fX,aa.before k⟩
theorem ih1(p)(a)(n h bf bd)(A:List Ob)(j:Nat)(d:j<fv A)(w)(f:jR ft w p a n h bf bd A)(g:A[j].kind=2)
  (i:A[j].ea=fj)(k:A[j].el=0)(l:A[j].ec=0):
  ik 85 #[ie p,fY<|(j:Int)+1] w λe H=>∃b,e=pD #[my b 0 0 0,fY 0]/\H.ownsRow w.heap.size 96 3 (my b 0 0 0) 0 (flat [])/\ju w H:=by
 have m:=ug p a n h bf bd A ((j:Int)+1) w f;rw[xa d,g]at m;have o:=λ(q:fq)(u:ju w q)=>dle p a n h bf bd A j d q (f.below u);rw[i,k,l]at o;have f2:=Env;have⟨v,U,x,y,z⟩:=kC Ck;clear i k l g;go_enter func85,ntmps85;go_wp2_with(first
  |(go_at_call 61;refine m.via λO c=>?_)
  |(go_at_call 113;refine(o _ c).via λr B=>?_)
  |(at_make;refine cmn _ fX _ _ 55 fX 0 96 v _ 3 underlying55 U x y .i64 .i64 _ _ 0 fX fX fX fX ?_ ?_ (zt _) ?_;go_must(rw[z];omega);go_must(unfold maxLen;omega);intro N s C;have t:=c.trans<|B.mono c.size;have D:=oZ t C;have E:fe _:=s;clear s)
  |(apply sP fX (.tmp 19) (.tmp 20) 55 55 fX 96 underlying55 3 Er _ fj 0 0 0 0 fX fX fX))
 go_ret2;refine⟨r.heap.size,fX,⟨fX,?_⟩,D⟩;rcases E.2 with⟨F,_⟩|⟨b,R,G,I,_,J,K,L,M,_⟩
 cases F;cases I;exact .inr ⟨r.heap.size,0,G,fX,t.size,J,K,L,M,by simp[flat]⟩
def fileAt (A:List Ob)(d:fP):Option Nat:=A.findIdx? λo=>decide (o.kind=1)&&decide (o.data=d)
def gI (A:List Ob)(es:List fV):Option Nat:=A.findIdx? λo=>decide (o.kind=2)&&decide (o.gh=es)
def sQ (A:List Ob)(D:DataW Unit):Prop:=∀d:fP,Maps.has D (.string d.data.toList)=(fileAt A d).isSome/\∀i,fileAt A d=fh i->D.atKey (.string d.data.toList) (.lit<|.int .i64 0)=.lit (.int .i64<|(i:Int)+1)
def wM (es:List fV):Prop:=fv es<=16/\∀e∈es,Fits e/\1<=e.1.size
def wN (A:List Ob)(D:DataW Unit):Prop:=∀es:List fV,wM es->Maps.has D (pj prog es)=(gI A es).isSome/\∀i,gI A es=fh i->D.atKey (pj prog es) (.lit<|.int .i64 0)=.lit (.int .i64<|(i:Int)+1)
def xr (d:fP):Ob:={ kind:=1,data:=d,ea:=fj,el:=0,ec:=0,gh:=[],high:=0 }
def pkg (a m c:Nat)(es:List fV)(b:Int):Ob:={ kind:=2,data:=ByteArray.empty,ea:=fh ⟨a,0,fj⟩,el:=m,ec:=c,gh:=es,high:=b }
def wD (w:fq)(F:Nat->Prop)(o:Ob):Prop:=
 (o.kind=1/\o.high=0/\o.data.size<=256)\/
 (o.kind=2/\fv o.gh=o.el/\wM o.gh/\iD o.gh/\0<=o.high/\o.high<=5/\(∀a,(Value.slice o.ea o.el o.ec).ownBlock=fh a->F a)/\w.ownsRow 0 96 3 (fy o.ea o.el o.ec) o.el (flat o.gh))
structure sR (ft:kI)(F:Nat->Prop)(w:World)(s p:Nat)(a:ig)(cap bf bd:Nat)(Df Dd:DataW Unit)(gM:List Ob):Prop where
 fs:F s
 fp:F p
 ff:F bf
 fd:F bd
 fr:∀g,(Value.slice a gM.length cap).ownBlock=some g->F g
 hs:w.heap[s]?=some (.cells #[.pointer (some ⟨p,0,none⟩)] 119 (0,0))
 gR:jR ft w p a gM.length cap bf bd gM
 ne:bf≠bd
 files:w.ownsMap prog 9 (plainElem prog 29) bf gM.length Df
 lZ:sQ gM Df
 rL:w.ownsMap prog 208 (plainElem prog 29) bd gM.length Dd
 oh:wN gM Dd
 zz:∀o∈gM,wD w F o
def Inv (ft:kI)(F:Nat->Prop)(w:fq)(s:Nat)(A:List Ob):Prop:=∃p a h bf bd Df Dd,sR ft F w s p a h bf bd Df Dd A
def gQ (ft:kI)(F:Nat->Prop)(w:fq)(s p:Nat)(A:List Ob):Prop:=∃a h bf bd Df Dd,sR ft F w s p a h bf bd Df Dd A
def gQ.inv(a:gQ ft F w s p A):Inv ft F w s A:=⟨p,a⟩
structure fH (F:Nat->Prop)(w w':World):Prop where
 os:w'.os=w.os
 tape:w'.tape=w.tape
 output:w'.output=w.output
 size:w.heap.size<=w'.heap.size
 block:∀k,k<w.heap.size->¬F k->w'.heap[k]?=w.heap[k]?
def kA (F:Nat->Prop)(w H:fq)(k:Nat):Prop:=F k\/(w.heap.size<=k/\k<H.heap.size)
theorem fH.fJ(a:ju w H):fH F w H:=⟨a.os,a.tape,a.output,a.size,λk b _=>a.block k b⟩
theorem wD.mono(a:wD w F o)(hF:∀k,k<w.heap.size->F k->F' k)(e:∀v m xs,w.ownsRow 0 96 3 v m xs->H.ownsRow 0 96 3 v m xs):wD H F' o:=by
 rcases a with a|⟨f,g,h,i,j,l,n,b⟩
 exact .inl a;exact .inr ⟨f,g,h,i,j,l,λc d=>hF c (gc b d)<|n c d,e _ _ _ b⟩
theorem gQ.keep(e:gQ ft F w s p A)(d:∀k,k<w.heap.size->F k->H.heap[k]?=w.heap[k]?)(hF:∀k,k<w.heap.size->F k->F' k):gQ ft F' H s p A:=by
 have⟨a,h,bf,bd,Df,Dd,i⟩:=e;have M:=(lW.1 i.hs).1;have f:∀v m t k xs,w.ownsRow 0 t k v m xs->(∀b,v.ownBlock=fh b->F b)->H.ownsRow 0 t k v m xs:=λv m t k xs g hFg=>gg g λb c=>d b (gc g c)<|hFg b c;refine⟨a,h,bf,bd,Df,Dd,⟨hF _ M i.fs,hF _ i.gR.at_.lt i.fp,hF _ i.files.lt i.ff,hF _ i.rL.lt i.fd,λb c=>hF b (gc i.gR.row c)<|i.fr b c,(d s M i.fs).trans i.hs,⟨?_,f _ _ _ _ _ i.gR.row i.fr,i.gR.len,i.gR.many⟩,i.ne,
  pB i.files (d _ i.files.lt i.ff),i.lZ,pB i.rL<|d _ i.rL.lt i.fd,i.oh,λo n=>?_⟩⟩
 have:=i.gR.at_
 unfold gA at this |-;rwa [d p i.gR.at_.lt i.fp];rcases i.zz o n with e|⟨q,r,u,x,y,z,j,l⟩
 exact .inl e;exact .inr ⟨q,r,u,x,y,z,λb c=>hF b (gc l c)<|j b c,f _ _ _ _ _ l j⟩
theorem gQ.below(a:gQ ft F w s p A)(b:ju w H)(hF:∀k,k<w.heap.size->F k->F' k):gQ ft F' H s p A:=a.keep (λk c _=>b.block k c) hF
theorem qb(A:List Ob)(o:Ob)(d:fP):fileAt (A++[o]) d=(fileAt A d).or (if o.kind=1/\o.data=d then fh (fv A) else fj):=by
 grind [fileAt,decide,Bool.decide_and,yv]
theorem rM(A:List Ob)(o:Ob)(es:List fV):gI (A++[o]) es=(gI A es).or (if o.kind=2/\o.gh=es then fh (fv A) else fj):=by
 grind [gI,decide,Bool.decide_and,yv]
theorem bytes_inj{a b:fP}(c:a.data.toList=b.data.toList):a=b:=by
 cases a;cases b
 grind [sle]
theorem sQ.put(a:sQ A D)(g:Maps.IsMap D)(d)(f:fileAt A d=fj):sQ (A++[xr d]) (D.put (.string d.data.toList)<|.lit (.int .i64<|(fv A:Int)+1)):=by
 intro b;rw[qb];by_cases e:d=b;subst e;rw[f,lv ⟨fX,fX⟩]
 grind [hIn,WideAt.IsKeyLit,pV,clz]
 have c:(Lit.string b.data.toList)≠.string d.data.toList:=λa=>e (bytes_inj (by grind));rw[km λa=>e a.2,Nb];refine⟨?_,?_⟩;rw[hBW c];exact(a b).1;intro i U;rw[cin c];exact(a b).2 i U
theorem sQ.other(a:sQ A D)(b:o.kind≠1):sQ (A++[o]) D:=by
 intro c;rw[qb,km λa=>b a.1,Nb];exact a c
theorem wN.put(b:wN A D)(h:Maps.IsMap D)(c:wM es)(j:gI A es=fj)(k:o.kind=2)(a:o.gh=es):
  wN (A++[o]) (D.put (pj prog es)<|.lit (.int .i64<|(fv A:Int)+1)):=by
 intro f d;have l:=EW.key (lg es c.1 λe a=>(c.2 e a).1);rw[rM,a];by_cases e:es=f
 grind [hIn,pV,clz]
 have g:pj prog f≠pj prog es:=λb=>e<|EX c.1 d.1 (λe a=>(c.2 e a).1) (λe a=>(d.2 e a).1) (λe a=>(c.2 e a).2) (λe a=>(d.2 e a).2) b.symm;rw[km λb=>e b.2,Nb];refine⟨?_,?_⟩;rw[hBW g];exact(b f d).1;intro i U;rw[cin g];exact(b f d).2 i U
theorem wN.other(a:wN A D)(b:o.kind≠2):wN (A++[o]) D:=by
 intro c d;rw[rM,km λa=>b a.1,Nb];exact a c d
theorem vu(A:List Ob)(o:Ob):gD (A++[o])=gD A++o.cells:=by simp[gD]
theorem Az.other{k}{cells}(l:Az ft w H p a n h bf bd E k cells D)(d:jR ft w p a n h bf bd A)
  {e}{f}{g:fu->Option (DataW Unit×List MemPlace)}{b m}{i:DataW Unit}(c:w.ownsMap e f g b m i)(o:b≠E):H.ownsMap e f g b m i:=by
 have⟨s,t,_,_,_,_,q⟩:=l;have⟨es,u,j⟩:=pp c;have r:b≠p:=by rintro rfl;have:=d.at_;unfold gA at this;rw[j]at this;cases this
 exact pB c<|q.block b c.lt r o (rv d.row j)
theorem sR.grow{Df Dd d f:DataW Unit}(i:sR ft F w s p a h bf bd Df Dd A){k}
  (j:Az ft w H p a (fv A) h bf bd E k (gD A++o.cells) D)(Q:fv A<400)(hF:F E){r:Array MapEntry}{t}(l:w.heap[E]?=fh (.map r t))(R:wD H (kA F w H) o)
  (S:H.ownsMap prog 9 (plainElem prog 29) bf (fv A+1) d)(u:sQ (A++[o]) d)
  (T:H.ownsMap prog 208 (plainElem prog 29) bd (fv A+1) f)(y:wN (A++[o]) f):
  gQ ft (kA F w H) H s p (A++[o])/\fH F w H:=by
 have z:=j;have⟨B,C,U,G,I,V,b⟩:=j;have M:=(lW.1 i.hs).1;have J:=og i.hs i.gR.at_ (by decide);have K:s≠E:=by rintro rfl;have:=i.hs;rw[l]at this;cases this
 have W:fv (A++[o])=fv A+1:=by simp
 refine⟨⟨fh<|ii B 0,C,bf,bd,d,f,⟨.inl i.fs,.inl i.fp,.inl i.ff,.inl i.fd,?_,?_,⟨?_,?_,?_,?_⟩,i.ne,?_,u,?_,y,?_⟩⟩,⟨b.os,b.tape,b.output,b.size,?_⟩⟩;intro L n;rcases I with c|c
 refine .inl<|i.fr L ?_;rwa [<-c];simp only[Value.ownBlock,pV]at n;subst n;exact .inr ⟨c,gc G fX⟩;rw[b.block s M J K<|io i.gR.row i.hs (by decide)];exact i.hs
 grind
 grind [vu]
 rfl;omega
 grind
 grind
 intro x N;rcases qw.1 N with c|c
 exact(i.zz x c).mono (λk q O=>.inl O) λv m xs P=>z.keeps i.gR l P (by decide)<|by decide
 grind
 intro k q g;refine b.block k q (λe=>g<|e▸i.fp) (λe=>g<|e▸hF) λe=>g<|i.fr k e.symm
def sR.c0(i:sR ft F w s p a h bf bd Df Dd A):w.c s 0=fh (ie p):=by simp[World.cell?,i.hs]
def lz (A Z:List Ob)(d:fP)(e:Ending):Prop:=
 (256<d.size/\Z=A/\e=fF (fC #[.int .i64 0,.int .i64 11]))\/
 (d.size<=256/\Z=A/\∃i,fileAt A d=fh i/\e=fF (fC #[.int .i64<|(i:Int)+1,.int .i64 0]))\/
 (d.size<=256/\fileAt A d=fj/\400<=fv A/\Z=A/\e=fF (fC #[.int .i64 0,.int .i64 11]))\/
 (d.size<=256/\fileAt A d=fj/\fv A<400/\Z=A++[xr d]/\e=fF (fC #[.int .i64<|(fv A:Int)+1,.int .i64 0]))
def lz.shape{d}{e}(a:lz A Z d e):∃x y,e=fF (fC #[fY x,fY y]):=by
 rcases a with⟨_,_,a⟩|⟨_,_,_,_,a⟩|⟨_,_,_,_,a⟩|⟨_,_,_,_,a⟩<;>exact⟨_,_,a⟩
theorem Nu(i:sR ft F w s p a h bf bd Df Dd A)(d:fP)(t:d.size<=maxLen):
  ik 77 #[ie p,hh d] w λe H=>∃Z,lz A Z d e/\gQ ft (kA F w H) H s p Z/\fH F w H:=by
 have inv:gQ ft F w s p A:=⟨a,h,bf,bd,Df,Dd,i⟩;have same:∀H,ju w H->gQ ft (kA F w H) H s p A/\fH F w H:=λH l=>⟨inv.below l λk _ u=>.inl u,fH.fJ l⟩;by_cases b:d.size<=256;cases c:fileAt A d with
 |some j=>
  have⟨g,v⟩:=i.lZ d;rw[c]at g;refine(Nk p a (fv A) h bf bd Df d ((j:Int)+1) w i.gR.at_ b i.files g<|v j c).mono λe H⟨f,m⟩=>?_;subst m;exact⟨A,.inr<|.inl ⟨b,fX,j,c,f⟩,same _<|mi _ _⟩
 |none=>
  have⟨g,_⟩:=i.lZ d;rw[c]at g;by_cases o:400<=fv A;exact(KX p a (fv A) h bf bd Df d w i.gR.at_ b o i.files g).mono λe H⟨f,l⟩=>⟨A,.inr<|.inr (.inl ⟨b,c,o,fX,f⟩),same _ l⟩;have n:fv A<400:=by omega
  refine(Nl p a (fv A) h bf bd (gD A) Df d w i.gR.at_ b n i.gR.row i.files g).mono λe H⟨f,q⟩=>?_;have r:Az ft w H p a (fv A) h bf bd bf 9 (gD A++(xr d).cells) (Df.put (.string d.data.toList)<|.lit (.int .i64<|(fv A:Int)+1)):=q;have⟨z,B,x⟩:=pp i.files;have⟨_,_,_,_,_,y,_⟩:=q;exact⟨_,.inr<|.inr (.inr ⟨b,c,n,fX,f⟩),i.grow r n i.ff x (.inl ⟨fX,fX,b⟩) y (i.lZ.put i.files.isMap d c)
   ((r.other i.gR i.rL i.ne.symm).mono<|jh _) (i.oh.other (show(1:Int)≠2 by decide))⟩
 refine(Nj p d w (by omega) t).mono λe H⟨f,m⟩=>?_;subst m;exact⟨A,.inl ⟨by omega,fX,f⟩,same _<|mi _ _⟩
def jw (A Z:List Ob)(es:List fV)(e:Ending):Prop:=
 ((∃x∈es,fN x.1=fo)/\Z=A/\e=fF (fC #[.int .i64 0,.int .i64 1]))\/
 ((∀x∈es,fN x.1=fm)/\
  ((¬(es.map (·.1)).Nodup/\Z=A/\e=fF (fC #[.int .i64 0,.int .i64 6]))\/
   ((es.map (·.1)).Nodup/\16<fv es/\Z=A/\e=fF (fC #[.int .i64 0,.int .i64 11]))\/
   ((es.map (·.1)).Nodup/\fv es<=16/\(∃x∈es,EQ A x=fo)/\Z=A/\e=fF (fC #[.int .i64 0,.int .i64 13]))\/
   ((es.map (·.1)).Nodup/\fv es<=16/\(∀x∈es,EQ A x=fm)/\∃a,a.Perm es/\iD a/\wM a/\
    ((5<gy A a/\Z=A/\e=fF (fC #[.int .i64 0,.int .i64 11]))\/
    (gy A a<=5/\Z=A/\∃i,gI A a=fh i/\e=fF (fC #[.int .i64<|(i:Int)+1,.int .i64 0]))\/
    (gy A a<=5/\gI A a=fj/\400<=fv A/\Z=A/\e=fF (fC #[.int .i64 0,.int .i64 11]))\/
    (gy A a<=5/\gI A a=fj/\fv A<400/\(∃o:Ob,o.kind=2/\o.gh=a/\o.high=gy A a/\Z=A++[o])/\e=fF (fC #[.int .i64<|(fv A:Int)+1,.int .i64 0]))))))
def jw.shape{e}(a:jw A Z es e):∃x y,e=fF (fC #[fY x,fY y]):=by
 rcases a with⟨_,_,a⟩|⟨_,⟨_,_,a⟩|⟨_,_,_,a⟩|⟨_,_,_,_,a⟩|⟨_,_,_,_,_,_,_,⟨_,_,a⟩|⟨_,_,_,_,a⟩|⟨_,_,_,_,a⟩|⟨_,_,_,_,a⟩⟩⟩<;>exact⟨_,_,a⟩
theorem sR.gy(i:sR ft F w s p a h bf bd Df Dd A):∀o∈A,0<=o.high/\o.high<=5:=by
 intro o b;rcases i.zz o b with⟨_,_⟩|⟨_,_⟩
 all_goals omega
theorem sR.kinds(i:sR ft F w s p a h bf bd Df Dd A):∀o∈A,o.kind=1\/o.kind=2:=by
 intro o b;rcases i.zz o b with⟨c,_⟩|⟨c,_⟩
 all_goals omega
theorem Vj(i:sR ft F w s p a h bf bd Df Dd A)(C off m c0:Nat)(es:List fV)
  (M:fv es=m)(S:C<w.heap.size)(T:m*32<=140737488355328)(I:∀j N,(flat es)[j]?=fh N->w.c C (off+j)=fh N)(U:∀e∈es,e.1.size<=maxLen):
  ik 60 #[ie p,my C off m c0] w λe H=>∃Z,jw A Z es e/\gQ ft (kA F w H) H s p Z/\fH F w H:=by
 have inv:gQ ft F w s p A:=⟨a,h,bf,bd,Df,Dd,i⟩;have same:∀H,ju w H->gQ ft (kA F w H) H s p A/\fH F w H:=λH l=>⟨inv.below l λk _ J=>.inl J,fH.fJ l⟩;have O:∀b,b.Perm es->(∀x∈es,fN x.1=fm)->(∀x∈es,EQ A x=fm)->fv es<=16->wM b:=λb f K V W=>
  ⟨by rw[f.length_eq];exact W,λe d=>⟨Vi i.kinds i.gR.many (K e<|f.mem_iff.1 d)<|V e (f.mem_iff.1 d),(xp<|K e (f.mem_iff.1 d)).1⟩⟩
 refine(RM p C off m c0 a (fv A) h bf bd A Dd es w i.gR i.rL M S T I U i.gy i.kinds).mono λe H n=>?_;rcases n with⟨l,⟨g,d⟩|⟨g,⟨o,d⟩|⟨o,q,d⟩|⟨o,q,n,d⟩|⟨o,q,n,b,f,v,D⟩⟩⟩|⟨g,o,q,n,E,b,f,v,D,X,y,d,z,R,G,P⟩
 exact⟨A,.inl ⟨g,fX,d⟩,same _ l⟩;exact⟨A,.inr ⟨g,.inl ⟨o,fX,d⟩⟩,same _ l⟩;exact⟨A,.inr ⟨g,.inr<|.inl ⟨o,q,fX,d⟩⟩,same _ l⟩;exact⟨A,.inr ⟨g,.inr<|.inr (.inl ⟨o,q,n,fX,d⟩)⟩,same _ l⟩;have r:=O b f g n q;obtain⟨t,Y⟩:=i.oh b r;rcases D with⟨B,d⟩|⟨B,y,c,aa,d⟩|⟨B,y,E,d⟩
 exact⟨A,.inr ⟨g,.inr<|.inr (.inr ⟨o,q,n,b,f,v,r,.inl ⟨B,fX,d⟩⟩)⟩,same _ l⟩;rw[y]at t;rcases u:gI A b with _|j
 rw[u]at t;cases t;have I:=(Y j u).symm.trans aa;have ab:c=(j:Int)+1:=by simpa using I.symm
 subst ab;exact⟨A,.inr ⟨g,.inr<|.inr (.inr ⟨o,q,n,b,f,v,r,.inr<|.inl ⟨B,fX,j,u,d⟩⟩)⟩,same _ l⟩;rw[y]at t;have u:gI A b=fj:=by simpa using t.symm
 exact⟨A,.inr ⟨g,.inr<|.inr (.inr ⟨o,q,n,b,f,v,r,.inr<|.inr (.inl ⟨B,u,E,fX,d⟩)⟩)⟩,same _ l⟩;have r:=O b f g n q;obtain⟨t,_⟩:=i.oh b r;rw[y]at t;have u:gI A b=fj:=by simpa using t.symm
 have ac:fv b=m:=by rw[f.length_eq,M]
 obtain⟨aj,ak,ad⟩:=pp i.rL;have Q:=P;obtain⟨_,_,_,_,_,ae,_⟩:=P;have af:w.heap.size<=z/\z<H.heap.size:=by
  refine⟨?_,gc G fX⟩;rcases G.2 with⟨J,_⟩|⟨L,_,_,K,l,_⟩
  all_goals grind
 have ag:H.ownsRow 0 96 3 (my z 0 m R) m (flat b):=by
  refine⟨G.1,?_⟩;rcases G.2 with J|⟨L,_⟩
  all_goals grind
 have ah:wD H (kA F w H) (pkg z m R b<|YtlgidcmmgohagaaGreat.gy A b):=.inr ⟨fX,ac,r,v,X,D,λL ai=>by(obtain rfl:z=L:=by simpa [pkg,Value.ownBlock]using ai);exact .inr af,ag⟩;exact⟨_,.inr ⟨g,.inr<|.inr (.inr ⟨o,q,n,b,f,v,r,.inr<|.inr (.inr ⟨D,u,E,⟨_,fX,fX,fX,fX⟩,d⟩)⟩)⟩,
  i.grow Q E i.fd ad ah ((Q.other i.gR i.files i.ne).mono<|jh _) (i.lZ.other (show(2:Int)≠1 by decide)) ae (i.oh.put i.rL.isMap r u fX fX)⟩
theorem RO(i:sR ft F w s p a h bf bd Df Dd A):
  ik 60 #[ie p,fy fj 0 0] w λe H=>∃Z,jw A Z [] e/\gQ ft (kA F w H) H s p Z/\fH F w H:=by
 have inv:gQ ft F w s p A:=⟨a,h,bf,bd,Df,Dd,i⟩;have same:∀H,ju w H->gQ ft (kA F w H) H s p A/\fH F w H:=λH g=>⟨inv.below g λk _ q=>.inl q,fH.fJ g⟩;have m:wM []:=⟨by simp,λe d=>by cases d⟩;have⟨f,y⟩:=i.oh [] m;have r:YtlgidcmmgohagaaGreat.gy A []<=5:=by show(0:Int)<=5;decide
 refine(RN p a (fv A) h bf bd A Dd w i.gR i.rL).mono λe H z=>?_;have pre:∀{Z:List Ob}{X:Prop},(YtlgidcmmgohagaaGreat.gy A []<=5/\Z=A/\(∃i,gI A []=fh i/\e=pD #[fY<|(i:Int)+1,fY 0])\/
    (YtlgidcmmgohagaaGreat.gy A []<=5/\gI A []=fj/\400<=fv A/\Z=A/\e=pD #[fY 0,fY 11])\/
    (YtlgidcmmgohagaaGreat.gy A []<=5/\gI A []=fj/\fv A<400/\(∃o:Ob,o.kind=2/\o.gh=[]/\o.high=YtlgidcmmgohagaaGreat.gy A []/\Z=A++[o])/\e=pD #[fY<|(fv A:Int)+1,fY 0]))->jw A Z [] e:=by
  intro Z X q;exact .inr ⟨(λx t=>by cases t),.inr<|.inr (.inr ⟨List.Pairwise.nil,by simp,(λx t=>by cases t),[],List.Perm.refl _,List.Pairwise.nil,m,.inr q⟩)⟩
 rcases z with⟨g,⟨l,c,B,d⟩|⟨l,n,d⟩⟩|⟨n,l,d,u⟩
 rw[l]at f;rcases b:gI A []with _|j
 rw[b]at f;cases f;have C:=(y j b).symm.trans B;have D:c=(j:Int)+1:=by simpa using C.symm
 subst D;exact⟨A,pre (X:=True)<|.inl ⟨r,fX,j,b,d⟩,same _ g⟩;rw[l]at f;have b:gI A []=fj:=by simpa using f.symm
 exact⟨A,pre (X:=True)<|.inr (.inl ⟨r,b,n,fX,d⟩),same _ g⟩;rw[l]at f;have b:gI A []=fj:=by simpa using f.symm
 have⟨K,L,E⟩:=pp i.rL
 let o:Ob:={ kind:=2,data:=ByteArray.empty,ea:=fj,el:=0,ec:=0,gh:=[],high:=0 }
 have v:=u;have⟨_,_,_,_,_,G,_⟩:=u;have I:wD H (kA F w H) o:=.inr ⟨fX,fX,m,List.Pairwise.nil,wC _,by show(0:Int)<=5;decide,λM J=>by simp[o,Value.ownBlock]at J,kO _ _ _ _⟩;exact⟨A++[o],pre (X:=True)<|.inr (.inr ⟨r,b,n,⟨o,fX,fX,fX,fX⟩,d⟩),
  i.grow v n i.fd E I ((v.other i.gR i.files i.ne).mono<|jh _) (i.lZ.other (show(2:Int)≠1 by decide)) G (i.oh.put i.rL.isMap m b fX fX)⟩
theorem Lb(r:gQ ft F w s p A)(b off m c0:Nat)(es:List fV)
  (f:fv es=m)(t:b<w.heap.size)(g:m*32<=140737488355328)(k:∀j l,(flat es)[j]?=fh l->w.c b (off+j)=fh l)(n:∀e∈es,e.1.size<=maxLen):
  ik 26 #[ie s,my b off m c0] w λe H=>∃Z,jw A Z es e/\gQ ft (kA F w H) H s p Z/\fH F w H:=by
 have⟨a,h,bf,bd,Df,Dd,i⟩:=r;have o:=Vj i b off m c0 es f t g k n;have c0:=i.c0;clear i k n f g;go_enter func26,ntmps26;go_wp2_with fail;apply o.mono;rintro e H ⟨Z,c,q⟩;have⟨x,y,d⟩:=c.shape
 change fe _ at c q d
 clear o;rw[d.o];go_wp2;go_ret2;exact⟨Z,d.o▸c.o,q⟩
def Vk (A:List Ob)(id:Int)(e:Ending):Prop:=
 (fK A id≠1/\e=fF (fC #[fA ByteArray.empty,.int .i64 13]))\/∃j,∃a:j<fv A,id=(j:Int)+1/\A[j].kind=1/\e=fF (fC #[fA A[j].data,.int .i64 0])
def RP (w H:fq)(A:List Ob)(id:Int)(e:Ending):Prop:=
 (fK A id≠2/\e=fF (fC #[fy fj 0 0,.int .i64 13]))\/
 ∃j,∃b:j<fv A,id=(j:Int)+1/\A[j].kind=2/\∃a,e=fF (fC #[fy (fh ⟨a,0,fj⟩) A[j].gh.length A[j].gh.length,.int .i64 0])/\
  H.ownsRow w.heap.size 96 3 (fy (fh ⟨a,0,fj⟩) A[j].gh.length A[j].gh.length) A[j].gh.length (flat A[j].gh)
theorem Fa(i:sR ft F w s p a h bf bd Df Dd A)(id:Int):
  ik 85 #[ie p,fY id] w λe H=>RP w H A id e/\ju w H:=by
 by_cases b:fK A id=2
 ·have hid:¬(id<1\/(fv A:Int)<id):=λq=>by rw[iE q]at b;cases b
  obtain⟨j,rfl⟩:∃j:Nat,id=(j:Int)+1:=⟨(id-1).toNat,by omega⟩;have c:j<fv A:=by omega
  rw[xa c]at b;rcases i.zz A[j] (kN c) with⟨x,_⟩|⟨_,l,r,_,_,_,_,f⟩
  ·all_goals omega
  obtain⟨g,k⟩|⟨k,o,t⟩:(∃g,A[j].ea=fh (ii g 0))\/(A[j].ea=fj/\A[j].el=0/\A[j].ec=0):=by
   rcases f.2 with⟨u,y⟩|⟨g,z,B,u,_⟩
   all_goals grind
  rotate_left
  ·have C:A[j].gh=[]:=DY.1 (l.trans o)
   refine(ih1 p a (fv A) h bf bd A j c w i.gR b k o t).mono λe H⟨m,n,v,d⟩=>⟨.inr ⟨j,c,fX,b,m,?_,?_⟩,d⟩
   all_goals grind
  rw[k]at f;refine(dot p a (fv A) h bf bd A j g A[j].el A[j].ec A[j].gh c w i.gR b k fX fX (by rw[<-l];exact r.1) l (gc f fX)<|ks f).mono λe H⟨m,n,v,d⟩=>⟨.inr ⟨j,c,fX,b,m,?_,?_⟩,d⟩
  all_goals grind
 exact(ihn p a (fv A) h bf bd A id w i.gR b).mono λe H⟨n,d⟩=>⟨.inl ⟨b,n⟩,d⟩
theorem Lc(w:fq):ik 25 #[] w λe H=>∃s,e=fF (ie s)/\Inv pt0 (kA (λ_=>False) w H) H s []/\ju w H:=by
 refine(KW w).mono λe H⟨h,g⟩=>?_;refine⟨_,h,?_,?_⟩;subst g;have j:∀a b c f:Obj,((((w.alloc a).alloc b).alloc c).alloc f).heap[w.heap.size+3]?=fh f:=λa b c f=>by
  have:=nX (((w.alloc a).alloc b).alloc c) f
  simpa using this
 have k:∀a b c f:Obj,((((w.alloc a).alloc b).alloc c).alloc f).heap[w.heap.size+2]?=fh c:=λa b c f=>by
  rw[RowKit.Below.heap_alloc _ _ _<|by simp]
  have:=nX ((w.alloc a).alloc b) c
  simpa using this
 have l:∀a b c f:Obj,((((w.alloc a).alloc b).alloc c).alloc f).heap[w.heap.size+1]?=fh b:=λa b c f=>by
  rw[RowKit.Below.heap_alloc _ _ _<|by simp,RowKit.Below.heap_alloc _ _ _<|by simp];exact Ru w a b
 have m:∀a b c f:Obj,((((w.alloc a).alloc b).alloc c).alloc f).heap[w.heap.size]?=fh a:=λa b c f=>by
  rw[RowKit.Below.heap_alloc _ _ _ (by simp;omega),RowKit.Below.heap_alloc _ _ _ (by simp;omega)];exact Rq w a b
 refine⟨w.heap.size+2,fj,0,w.heap.size,w.heap.size+1,.map [],.map [],⟨.inr<|by simp,.inr<|by simp,.inr (by simp;omega),.inr<|by simp,?_,j _ _ _ _,⟨k _ _ _ _,kO _ _ _ _,fX,by simp⟩,by omega,?_,?_,?_,?_,?_⟩⟩;intro o n;cases n;exact⟨#[],0,m _ _ _ _,⟨by simp,cat 0,by simp⟩,lw _,fX⟩;intro d;exact⟨fX,λi U=>by cases U⟩;exact⟨#[],0,l _ _ _ _,⟨by simp,cat 0,by simp⟩,lw _,fX⟩;intro es _;exact⟨fX,λi U=>by cases U⟩
 grind
 rw[g];exact((((mi _ _).alloc (lw _) _).alloc (by simp) _).alloc (by simp;omega) _).alloc (by simp;omega) _
theorem HV(l:gQ ft F w s p A)(d:fP)(c:d.size<=maxLen):
  ik 35 #[ie s,hh d] w λe H=>∃Z,lz A Z d e/\gQ ft (kA F w H) H s p Z/\fH F w H:=by
 obtain⟨a,h,bf,bd,Df,Dd,i⟩:=l;have f:=Nu i d c;have c0:=i.c0;clear i c;go_enter func35,ntmps35;go_wp2_with fail;refine f.mono ?_;rintro e H ⟨Z,b,g⟩;obtain⟨x,y,j⟩:=b.shape;have m:fe (lz A Z d e):=b;have n:fe (gQ ft (kA F w H) H s p Z/\fH F w H):=g;have k:fe (e=fF (fC #[fY x,fY y])):=j;clear b g j f;rw[k.o];go_wp2;go_ret2;exact⟨Z,k.o▸m.o,n.o⟩
def nB (a b:fP):Bool:=decide (Lib.compareBytes a.data.toList b.data.toList<0)
theorem Fb:∀(k:Nat)(a c:List UInt8),k<=fv a->k<=fv c->a.take k=c.take k->Lib.compareBytes a c=Lib.compareBytes (a.drop k) (c.drop k)
 |0,_,_,_,_,_=>rfl
 |k+1,[],_,b,_,_=>by simp at b
 |k+1,_::_,[],_,b,_=>by simp at b
 |k+1,x::d,y::s,e,f,b=>by
  simp only[Rn,Cc]at b
  obtain⟨rfl,b⟩:=b
  simp only[Lib.compareBytes,Cj,day,KQ]
  exact Fb k d s (by simpa using e) (by simpa using f) b
theorem syn{a b:List UInt8}(d:k<fv a)(e:k<fv b)(f:a.take k=b.take k)(g:a[k]≠b[k]):decide (Lib.compareBytes a b<0)=decide (a[k]<b[k]):=by
 rw[Fb k a b (by omega) (by omega) f,KM d,KM e];rcases Ci a[k] b[k]with c|c|c
 simp[Lib.compareBytes,c];exact absurd c g;simp[Lib.compareBytes,c,rI c]
theorem Vl{a b:List UInt8}(f:k<=fv a)(g:k<=fv b)(h:a.take k=b.take k)(c:k=fv a\/k=fv b):decide (Lib.compareBytes a b<0)=decide (fv a<fv b):=by
 rw[Fb k a b f g h];rcases c with c|c
 subst c;rw[hMs];rcases d:b.drop (fv a) with _|⟨x,i⟩
 have:=congrArg List.length d;simp at this;simp[Lib.compareBytes];omega
 have:=congrArg List.length d;simp at this;simp[Lib.compareBytes];omega
 subst c;rw[hMs];rcases e:a.drop (fv b) with _|⟨x,i⟩
 have:=congrArg List.length e;simp at this;simp[Lib.compareBytes];omega
 have:=congrArg List.length e;simp at this;simp[Lib.compareBytes];omega
theorem dpq(a b:fP)(w:fq)(r:a.size<=maxLen)(s:b.size<=maxLen):
  ik 169 #[hh a,hh b] w λe H=>e=fF (fE<|nB a b)/\∃c,H=w.drewN c:=by
 unfold maxLen at r s;have d:fv a.data.toList=a.size:=oW;have f:fv b.data.toList=b.size:=oW
 change fe _ at d f
 go_enter func169,ntmps169;go_wp2
 go_loopw [5] (λi wr=>∃k:Nat,k<=a.size/\k<=b.size/\i=.int .i64 k/\fe (∃c,wr=w.drewN c)/\fe (a.data.toList.take k=b.data.toList.take k)) (λi _=>a.size-(intOf i).toNat)
 case atStart=>exact⟨0,zt _,zt _,rfl,⟨0,rfl⟩,rfl⟩
 case round=>
  obtain⟨k,n,o,rfl,h,j⟩:=hrel;by_cases p:k<a.size
  ·by_cases q:k<b.size
   ·by_cases l:((a[k].toNat:Int)==(b[k].toNat:Int))=fm
    ·have m:fe (a[k]=b[k]):=cse.1 (by have:=eq_of_beq l;omega)
     go_wp2
     go_quiet (fail)
     go_wp2;go_roundw
     case rel=>
      refine⟨k+1,by omega,by omega,by go_num,?_,?_⟩;obtain⟨c,g⟩:=h;exact⟨c+nq,by rw[g,Ea]⟩;show _=_;rw[vk (by rw[d.o];exact p),vk (by rw[f.o];exact q),j.o];exact congrArg _ (congrArg (· :: []) m)
     case measure=>simp[intOf];omega
    have u:((a[k].toNat:Int)==(b[k].toNat:Int))=fo:=by simpa using l
    have m:fe (a[k]≠b[k]):=λt=>l (by rw[t];exact beq_self_eq_true _);go_wp2
    go_quiet (fail)
    go_wp2
    go_quiet (fail)
    go_wp2;go_ret;obtain⟨c,g⟩:=h;refine⟨?_,by subst g;exact⟨_,by rw[Ea,Ea]⟩⟩
    have:=syn (a:=a.data.toList) (b:=b.data.toList) (k:=k) (by rw[d.o];exact p) (by rw[f.o];exact q) j m
    unfold nB;rw[this]
    congr 2
   go_wp2;go_ret;obtain⟨c,g⟩:=h;refine⟨?_,c,g⟩
   have:=Vl (k:=k) (by rw[d.o];exact n) (by rw[f.o];exact o) j<|.inr (by rw[f.o];omega)
   unfold nB;rw[this,d.o,f.o]
   congr 2
  go_wp2;go_ret;obtain⟨c,g⟩:=h;refine⟨?_,c,g⟩
  have:=Vl (k:=k) (by rw[d.o];exact n) (by rw[f.o];exact o) j<|.inl (by rw[d.o];omega)
  unfold nB;rw[this,d.o,f.o]
  congr 2
theorem Vm(a:∀j(g:j<fv l),l[j]≠c):Lib.indexByte l c<0:=by
 by_cases b:Lib.indexByte l c<0;exact b;obtain⟨o,d⟩:∃o:Nat,Lib.indexByte l c=o:=⟨(Lib.indexByte l c).toNat,by omega⟩
 have:=(Lib.indexByte_some d).1
 obtain⟨e,f⟩:=wH.1 this;exact absurd f<|a o e
theorem Ld(a:j<fv l)(b:l[j]=c):¬Lib.indexByte l c<0:=by
 intro d;have e:=Lib.indexByte_ge l c
 have:Lib.indexByte l c=-1:=by omega
 exact Lib.indexByte_none this j (by rw[jH a,b])
theorem sU(s:fP)(w:fq)(c:s.size<=maxLen)(a:(s.toList==[])=fm\/((s.toList==[])=fo/\(12<s.size\/¬12<s.size/\((s.toList==[46])=fm\/(s.toList==[46])=fo/\(s.toList==[46,46])=fm)))):
  ik 150 #[hh s] w λe H=>e=fF (fE fo)/\∃b,H=w.drewN b:=by
 rcases a with a|⟨d,a|⟨f,a|⟨g,h⟩⟩⟩
 all_goals
  go_enter func150,ntmps150;go_wp2;go_ret;exact⟨fX,0,fX⟩
theorem RQ(s:fP)(w:fq)(u:(s.toList==[])=fo)(v:¬12<s.size)(x:(s.toList==[46])=fo)(y:(s.toList==[46,46])=fo)(m:Bool)
  (g:fe ((decide (Lib.indexByte s.data.toList 0<0)&&decide (Lib.indexByte s.data.toList 47<0))=m)):
  ik 150 #[hh s] w λe H=>e=fF (fE m)/\∃b,H=w.drewN b:=by
 have n:fe (fv s.data.toList=s.size):=oW;go_enter func150,ntmps150;go_wp2
 go_loopw [3] (λi wr=>∃k:Nat,k<=s.size/\i=.int .i64 k/\fe (∃b,wr=w.drewN b)/\fe (∀j(a:j<fv s.data.toList),j<k->s.data.toList[j]≠0/\s.data.toList[j]≠47)) (λi _=>s.size-(intOf i).toNat)
 case atStart=>exact⟨0,zt _,rfl,⟨0,rfl⟩,λj a d=>by omega⟩
 case round=>
  obtain⟨k,z,rfl,f,o⟩:=hrel;by_cases r:k<s.size
  ·have p:k<fv s.data.toList:=by rw[n.o];exact r
   cases h:((s[k].toNat:Int)==0) with
   |true=>
    go_wp2;go_ret;obtain⟨b,c⟩:=f;refine⟨?_,b,c⟩
    have:s.data.toList[k]=0:=cse.1 (by have:=eq_of_beq h;show s[k].toNat=0;omega)
    rw[<-g.o,yv<|Ld p this];rfl
   |false=>
    cases l:((s[k].toNat:Int)==47) with
    |true=>
     go_wp2;go_ret;obtain⟨b,c⟩:=f;refine⟨?_,b,c⟩
     have:s.data.toList[k]=47:=cse.1 (by have:=eq_of_beq l;show s[k].toNat=47;omega)
     rw[<-g.o,yv<|Ld p this,Bool.and_false];rfl
    |false=>
     have t:fe (s.data.toList[k]≠0/\s.data.toList[k]≠47):=by
      refine⟨λd=>?_,λd=>?_⟩
      have:s[k]=0:=d
      rw[this]at h;simp at h
      have:s[k]=47:=d
      rw[this]at l;simp at l
     go_wp2;go_roundw
     case rel=>
      refine⟨k+1,by omega,by go_num,?_,?_⟩;obtain⟨b,c⟩:=f;exact⟨b,c⟩;intro j a A;by_cases e:j=k;subst e;exact t;exact o j a<|by omega
     case measure=>simp[intOf];omega
  go_wp2;go_ret;refine⟨?_,f⟩;have q:∀j(a:j<fv s.data.toList),s.data.toList[j]≠0/\s.data.toList[j]≠47:=λj a=>o j a (by rw[n.o]at a;omega)
  rw[<-g.o,qu (Vm λj a=>(q j a).1),qu (Vm λj a=>(q j a).2)];rfl
theorem IY(s:fP)(w:fq)(c:s.size<=maxLen):ik 150 #[hh s] w λe H=>e=fF (fE<|fN s)/\∃i,H=w.drewN i:=by
 have g:(s.toList==[])=decide (s.size<1):=by
  rw[Au];by_cases a:s.size<1
  have:s.data.toList=[]:=KL (by rw[oW];exact(show s.size=0 by omega))
  simp[this,a];rw[yv a];rcases j:s.data.toList with _|⟨x,k⟩
  exact absurd (by have:=congrArg List.length j;rw[oW]at this;exact(show s.size<1 by have d:s.size=0:=this;omega)) a;rfl
 unfold fN;cases b:(s.toList==[]) with
 |true=>
  have:¬1<=s.size:=by have a:=g.symm.trans b;have:=BZ a;omega
  rw[yv this];exact sU s w c<|.inl b
 |false=>
  have:1<=s.size:=by have a:=g.symm.trans b;have:=Rl a;omega
  rw[qu this];by_cases f:12<s.size;rw[yv (show ¬s.size<=12 by omega)];exact sU s w c<|.inr ⟨b,.inl f⟩;rw[qu (show s.size<=12 by omega)];cases d:(s.toList==[46]) with
  |true=>exact sU s w c<|.inr ⟨b,.inr ⟨f,.inl d⟩⟩
  |false=>
   cases h:(s.toList==[46,46]) with
   |true=>exact sU s w c<|.inr ⟨b,.inr ⟨f,.inr ⟨d,h⟩⟩⟩
   |false=>exact RQ s w b f d h _ (show _=_ by simp)
theorem Le(b:Inv ft F w s A)(id:Int):
  ik 40 #[ie s,fY id] w λe H=>Vk A id e/\ju w H:=by
 have⟨p,a,h,bf,bd,Df,Dd,i⟩:=b;have f:=Nr p a (fv A) h bf bd A id w i.gR;have c0:=i.c0;clear i;go_enter func40,ntmps40;go_wp2_with fail;apply f.mono;rintro e H ⟨g,c⟩;obtain⟨x,y,d⟩:∃x y,e=fF (fC #[hh x,fY y]):=by
  rcases c with⟨_,b⟩|⟨_,_,_,_,b⟩<;>exact⟨_,_,b⟩
 change fe _ at c d
 clear f;rw[d.o];go_wp2;go_ret2;exact⟨d.o▸c,g⟩
theorem Nv(b:Inv ft F w s A)(id:Int):
  ik 43 #[ie s,fY id] w λe H=>RP w H A id e/\ju w H:=by
 have⟨p,a,h,bf,bd,Df,Dd,i⟩:=b;have g:=Fa i id;have c0:=i.c0;clear i;go_enter func43,ntmps43;go_wp2_with fail;apply g.mono;rintro e H ⟨d,j⟩;obtain⟨x,n,c,y,f⟩:∃x n c y,e=fF (fC #[fy x n c,fY y]):=by
  rcases d with⟨_,b⟩|⟨_,_,_,_,_,b,_⟩<;>exact⟨_,_,_,_,b⟩
 change fe _ at d f
 clear g;rw[f.o];go_wp2;go_ret2;exact⟨f.o▸d,j⟩
def dti(p)(a:ig)(n h)(w:fq)(b:w.c p 0=fh (fy a n h)):
  ik 86 #[ie p] w (PP (fY n) w):=by
 go_enter func86,ntmps86;go_wp2;go_ret;exact⟨fX,fX⟩
theorem Lf(b:Inv ft F w s A):
  ik 45 #[ie s] w (PP (fY (fv A:Int)) w):=by
 obtain⟨p,a,h,bf,bd,Df,Dd,i⟩:=b;have c:=dti p a (fv A) h w i.gR.at_.c0;have c0:=i.c0;clear i;go_enter func45,ntmps45;go_wp2_with(go_at_call 86;refine c.mono ?_;rintro e H ⟨rfl,rfl⟩);go_ret;exact⟨fX,fX⟩
def wO:(prog.info? 112).map (λi=>(i.zero,i.size,i.bytes))=fh (fh<|fD #[hh ByteArray.empty,fY 0,fY 0],3,32):=by kernel_rfl
def Ej (out:List fV)(x:fV):List fV:=out.takeWhile (λy=>nB y.1 x.1)++x::out.dropWhile λy=>nB y.1 x.1
def Sx (M:List fV):List fV:=M.foldl Ej []
theorem takeWhile_eq{b:Type}(p:b->Bool):∀(l:List b)(k:Nat),k<=fv l->(∀j(e:j<fv l),j<k->p l[j]=fm)->(∀f:k<fv l,p l[k]=fo)->l.takeWhile p=l.take k/\l.dropWhile p=l.drop k
 |[],0,_,_,_=>⟨fX,fX⟩
 |[],k+1,a,_,_=>by simp at a
 |x::c,0,_,_,a=>by have:=a (by simp);simp only[ED]at this;simp[List.takeWhile,List.dropWhile,this]
 |x::c,k+1,i,d,g=>by
  have h:=d 0 (by simp)<|by omega
  simp only[ED]at h
  have m:=takeWhile_eq p c k (by grind) (λj e n=>by have:=d (j+1) (by omega) (by omega);simpa using this) (λf=>by have:=g (by grind);simpa using this)
  all_goals simp_all
theorem qr(a b:List fV):flat (a++b)=flat a++flat b:=by simp[flat]
theorem tS(c:fq)(x)(t:lV)(n:Nat)(d:n=c.heap.size):∀j b,(pA x)[j]?=fh b->(c.k #[hh x.1,fY x.2.1,fY x.2.2] t).cell? (((ii n 0):Addr).add j)=fh b:=by
 subst d;intro j b a
 match j,a with
 |0,a=>simpa [Addr.add,pA]using a
 |1,a=>simpa [Addr.add,pA]using a
 |2,a=>simpa [Addr.add,pA]using a
 |j+3,a=>simp[pA]at a
theorem Hb{a}{I b c}(d:Below a I b)(f:a<=b.heap.size)(g:b.ownsRow a e size v n xs)(h:b.grownBy c v.ownBlock):Below a I c:=
 d.grown h f λk i=>(g.lt k i).1
theorem wP{size b n h}(a:w.ownsRow base e size (my b 0 n h) n xs):n<=h/\h<=maxLen:=by
 rcases a.2 with⟨a,_⟩|⟨c,R,d,f,_,_,g,i,_⟩
 all_goals grind
def Xa(x:fV)(l:List fV):flat (x::l)=pA x++flat l:=fX
theorem RR{a:fu}(b:(flat<|out.drop k)[j]?=fh a):(flat out)[k*3+j]?=fh a:=by
 by_cases c:k<=fv out;have e:flat out=flat (out.take k)++flat (out.drop k):=by rw[<-qr,KP]
 grind [flat,ly,kV,EI,BU,Nat.add_sub_cancel_left]
 grind [Wu,flat]
theorem tB{base b:Nat}(a:w.ownsRow base e size v n xs)(d:b<=base):w.ownsRow b e size v n xs:=by
 refine⟨a.1,?_⟩;rcases a.2 with a|⟨f,c,g,h,i,j⟩
 exact .inl a;exact .inr ⟨f,c,g,h,wy d i,j⟩
theorem qc(g o j:Nat):((ii g o):Addr).add j=(ii g<|o+j):=by
 grind [Addr.add]
theorem IZ(out)(x):(Ej out x).Perm (x::out):=by
 apply List.perm_middle.trans
 all_goals simp_all
theorem vY:∀(M out:List fV),(M.foldl Ej out).Perm<|M++out
 |[],out=>List.Perm.refl _
 |x::a,out=>by
  rw[Hy]
  apply (vY a<|Ej out x).trans
  exact((IZ out x).append_left a).trans List.perm_middle
theorem kJ(M):(Sx M).Perm M:=by
 have:=vY M []
 rwa [lJ]at this
theorem rN{M}{y:fV}(a:y∈Sx M):y∈M:=(kJ M).mem_iff.1 a
theorem tz(x:fV):flat [x]=pA x:=by simp[flat]
def Ja(a:k<fv out):flat (out.take k)++pA out[k]=flat (out.take<|k+1):=by
 rw[vk a,qr,tz]
theorem RS(s off m c0:Nat)(M:List fV)(w:fq)(Y:fv M=m)(aN:m<=1000000000)(Z:s<w.heap.size)(ai:∀j t,(flat M)[j]?=fh t->w.c s (off+j)=fh t)(aa:∀e∈M,e.1.size<=maxLen):
  ik 107 #[my s off m c0] w λe H=>∃v,e=fF v/\H.ownsRow w.heap.size 112 3 v m (flat<|Sx M)/\ju w H:=by
 have⟨A,U,B,C,D⟩:=kC wO
 change fe _ at ai aa Y
 go_enter func107,ntmps107;go_wp2
 go_loopw [3,4] (λv i I=>∃k:Nat,k<=m/\i=.int .i64 k/\ju w I/\I.ownsRow w.heap.size 112 3 v k (flat<|Sx (M.take k))/\(k=0->v=fy fj 0 0)) (λ_ i _=>m-(intOf i).toNat)
 case atStart=>exact⟨0,zt _,rfl,mi _ _,kO _ _ _ _,λ_=>rfl⟩
 case round=>
  obtain⟨i,aO,rfl,b,d,ao⟩:=hrel;by_cases ap:i<m
  ·have ab:i<fv M:=by rw[Y.o];exact ap
   have⟨c0,c1,c2⟩:=lr ai ab;obtain⟨x,L⟩:=ol<|M[i];rw[<-L]at c0 c1 c2;obtain⟨out,E⟩:=ol<|Sx (M.take i);have ac:fe (Sx (M.take<|i+1)=Ej out x):=by
    show _=_;rw[vk ab,Sx,cls,E,L];rfl
   have aq:fe (x.1.size<=maxLen):=by rw[L];exact aa _<|kN ab
   have ar:fe (∀y∈out,y.1.size<=maxLen):=by
    intro y aj;rw[E]at aj;exact aa y<|Av (rN aj)
   have ad:fv out=i:=by
    have:=d.1
    rw[ly,<-E]at this;omega
   rw[<-E]at d;clear E L;have au:=λ(r:fq)(F:ju wr r)=>((b.trans<|F.mono b.size).cell (p:=(ii s<|off+i*3)) Z).trans c0
   have av:=λ(r:fq)(F:ju wr r)=>((b.trans<|F.mono b.size).cell (p:=(ii s<|off+i*3+1)) Z).trans c1;have aw:=λ(r:fq)(F:ju wr r)=>((b.trans<|F.mono b.size).cell (p:=(ii s<|off+i*3+2)) Z).trans c2;clear c0 c1 c2;rename fq=>I;go_wp2
   go_loopw [5,6] (λv j ak=>∃k:Nat,k<=i/\j=.int .i64 k/\ju I ak/\ak.ownsRow I.heap.size 112 3 v k (flat<|out.take k)/\fe (∀j(n:j<fv out),j<k->nB out[j].1 x.1=fm)) (λ_ j _=>i-(intOf j).toNat)
   case atStart=>exact⟨0,zt _,rfl,mi _ _,kO _ _ _ _,λj n G=>by omega⟩
   case round=>
    obtain⟨k,aP,rfl,a,sN,N⟩:=hrel;have d0:=au _ a;have d1:=av _ a;have d2:=aw _ a;by_cases ax:k<i
    ·obtain⟨o,h,rfl⟩:=hZ d (by omega)
     have P:o<I.heap.size:=gc d fX;have ae:k<fv out:=by rw[ad];exact ax
     have⟨Q,S,T⟩:=lr (off:=0) (ks d) ae;rw[iO]at Q S T;have aQ:=(a.cell (p:=(ii o<|k*3)) P).trans Q;have aR:=(a.cell (p:=(ii o<|k*3+1)) P).trans S;have aS:=(a.cell (p:=(ii o<|k*3+2)) P).trans T;have V:=λr=>dpq out[k].1 x.1 r (ar _<|kN ae) aq;cases u:nB out[k].1 x.1 with
     |true=>
      rw[u]at V;have af:fe (nB out[k].1 x.1=fm):=u;clear u Q S T;go_wp2
      go_quiet (first|(go_at_call 169;exact Calls.quiet_of<|V _))
      go_wp2_with(at_builtin;apply yR _ fX (.tmp 30) (.tmp 35) 106 fX I.heap.size 112 A _ 3 32 underlying106 U B C D fX (by decide) _ _ _ fX (sN.alloc _) (ii wr.heap.size 0) 1 1 (pA out[k]) fX fX ?c1 ?c2 ?c3 ?c4 ?c5)
      case c1=>exact tS (wr.drewN nq) out[k] _ _ rfl
      case c2=>exact rx out[k]
      case c3=>unfold maxLen;omega
      case c4=>omega
      case c5=>have:=a.size;simp;omega
      intro W O c f _;have g:I.heap.size<=((wr.drewN nq).alloc<|Obj.cells #[Value.string out[k].fst,Value.int IntKind.i64 out[k].snd.fst,Value.int IntKind.i64 out[k].snd.snd] 112).heap.size:=by have:=a.size;simp;omega
      have l:=Hb ((iP a nq).alloc a.size _) g (sN.alloc _) f;have ay:O.ownsRow I.heap.size 112 3 W (k+1) (flat<|out.take (k+1)):=by rw[<-Ja ae];exact c
      clear c f g;go_wp2;go_roundw
      case rel=>
       refine⟨k+1,by omega,by go_num,l,ay,?_⟩;intro j n z;by_cases e:j=k;subst e;exact af;exact N j n<|by omega
      case measure=>simp[intOf];omega
     |false=>
      rw[u]at V;have af:fe (nB out[k].1 x.1=fo):=u;clear u Q S T;go_wp2
      go_quiet (first|(go_at_call 169;exact Calls.quiet_of<|V _))
      go_wp2_with(at_builtin;apply yR _ fX (.tmp 39) (.tmp 44) 106 fX I.heap.size 112 A _ 3 32 underlying106 U B C D fX (by decide) _ _ _ fX (sN.alloc _) (ii wr.heap.size 0) 1 1 (pA x) fX fX ?c1 ?c2 ?c3 ?c4 ?c5)
      case c1=>exact tS (wr.drewN nq) x _ _ rfl
      case c2=>exact rx x
      case c3=>unfold maxLen;omega
      case c4=>omega
      case c5=>have:=a.size;simp;omega
      intro W O c f _;have g:I.heap.size<=((wr.drewN nq).alloc<|Obj.cells #[Value.string x.fst,Value.int IntKind.i64 x.snd.fst,Value.int IntKind.i64 x.snd.snd] 112).heap.size:=by have:=a.size;simp;omega
      have l:=Hb ((iP a nq).alloc a.size _) g (sN.alloc _) f;have⟨az,aA⟩:=wP d;clear f g;have aB:fv (flat<|out.drop k)=(i-k)*3:=by rw[ly,rG,ad]
      have ag:∀j t,(flat<|out.drop k)[j]?=fh t->O.cell? (((ii o<|k*3):Addr).add j)=fh t:=by
       intro j t aC;have aD:=RR aC;have al:=ks d _ _ aD;rw[iO]at al;have aE:=(l.cell (p:=(ii o<|k*3+j)) P).trans al;rw[qc];exact aE
      change fe _ at ag
      go_wp2_with(at_builtin;apply yR _ fX (.tmp 46) (.tmp 49) 106 fX I.heap.size 112 A _ 3 32 underlying106 U B C D fX (by decide) _ _ _ fX c (ii o<|k*3) (i-k) _ (flat<|out.drop k) fX aB ag (mH _) ?c3 ?c4 ?c5)
      case c3=>unfold maxLen;omega
      case c4=>omega
      case c5=>exact l.size
      intro aF aG am an _;have aH:=Hb l l.size c an;have J:aG.ownsRow w.heap.size 112 3 aF (i+1) (flat<|Sx (M.take<|i+1)):=by
       rw[ac.o];have q:=takeWhile_eq (λy:fV=>nB y.1 x.1) out k (by omega) (λj n z=>N j n z) λ_=>af
       have:=tB am b.size
       rw[show k+1+(i-k)=i+1 by omega]at this;unfold Ej;rw[q.1,q.2,qr,Xa];simpa only[sL]using this
      clear am an c ag;go_wp2;go_roundw
      case rel=>exact⟨i+1,by omega,by go_num,b.trans<|aH.mono b.size,J,λG=>by omega⟩
      case measure=>simp[intOf];omega
    have aI:k=i:=(by omega);subst aI;have K:fe (out.take k=out):=oJ (by rw[ad];exact lw _);have aT:decide ((k:Int)<(k:Int))=fo:=by simp
    rw[K.o]at sN;rcases stM k with X|X
    ·have aJ:=ao X
     subst aJ;subst X;simp only[cwd,Ee]at d0 d1 d2;go_wp2
     go_quiet (fail)
     go_wp2_with(at_builtin;apply yR _ fX (.tmp 39) (.tmp 44) 106 fX I.heap.size 112 A _ 3 32 underlying106 U B C D fX (by decide) _ _ _ fX (sN.alloc _) (ii wr.heap.size 0) 1 1 (pA x) fX fX ?c1 ?c2 ?c3 ?c4 ?c5)
     case c1=>exact tS (wr.drewN nq) x _ _ rfl
     case c2=>exact rx x
     case c3=>unfold maxLen;omega
     case c4=>omega
     case c5=>have:=a.size;simp;omega
     intro W O c f _;have g:I.heap.size<=((wr.drewN nq).alloc<|Obj.cells #[Value.string x.fst,Value.int IntKind.i64 x.snd.fst,Value.int IntKind.i64 x.snd.snd] 112).heap.size:=by have:=a.size;simp;omega
     have l:=Hb ((iP a nq).alloc a.size _) g (sN.alloc _) f;obtain⟨ah,R,rfl⟩:=hZ c (by omega);have⟨aK,aL⟩:=wP c;have J:O.ownsRow w.heap.size 112 3 (my ah 0 (0+1) R) (0+1) (flat<|Sx (M.take<|0+1)):=by
      rw[ac.o];have q:=takeWhile_eq (λy:fV=>nB y.1 x.1) out 0 (by omega) (λj n z=>N j n z) (λG=>by omega)
      have:=tB c b.size
      unfold Ej;rw[q.1,q.2,K.o,Wu<|by omega,qr,tz];exact this
     clear c f g;go_wp2
     all_goals
      go_roundw
      case rel=>exact⟨0+1,by omega,by go_num,b.trans<|l.mono b.size,J,λG=>by omega⟩
      case measure=>simp[intOf];omega
    obtain⟨o,h,rfl⟩:=hZ d X;have⟨az,aA⟩:=wP d;go_wp2
    go_quiet (fail)
    go_wp2_with(at_builtin;apply yR _ fX (.tmp 39) (.tmp 44) 106 fX I.heap.size 112 A _ 3 32 underlying106 U B C D fX (by decide) _ _ _ fX (sN.alloc _) (ii wr.heap.size 0) 1 1 (pA x) fX fX ?c1 ?c2 ?c3 ?c4 ?c5)
    case c1=>exact tS (wr.drewN nq) x _ _ rfl
    case c2=>exact rx x
    case c3=>unfold maxLen;omega
    case c4=>omega
    case c5=>have:=a.size;simp;omega
    intro W O c f _;have g:I.heap.size<=((wr.drewN nq).alloc<|Obj.cells #[Value.string x.fst,Value.int IntKind.i64 x.snd.fst,Value.int IntKind.i64 x.snd.snd] 112).heap.size:=by have:=a.size;simp;omega
    have l:=Hb ((iP a nq).alloc a.size _) g (sN.alloc _) f;obtain⟨ah,R,rfl⟩:=hZ c (by omega);have⟨aK,aL⟩:=wP c;have J:O.ownsRow w.heap.size 112 3 (my ah 0 (k+1) R) (k+1) (flat<|Sx (M.take<|k+1)):=by
     rw[ac.o];have q:=takeWhile_eq (λy:fV=>nB y.1 x.1) out k (by omega) (λj n z=>N j n z) (λG=>by omega)
     have:=tB c b.size
     unfold Ej;rw[q.1,q.2,K.o,Wu<|by omega,qr,tz];exact this
    clear c f g;go_wp2
    all_goals
     go_roundw
     case rel=>exact⟨k+1,by omega,by go_num,b.trans<|l.mono b.size,J,λG=>by omega⟩
     case measure=>simp[intOf];omega
  have aM:i=m:=by omega
  subst aM;have K:fe (M.take i=M):=oJ (by rw[Y.o];omega);rw[K.o]at d;go_wp2;go_ret;exact⟨_,fX,d,b⟩
theorem dup(b:Program)(a)(x y:fV)(c:(binOp .neq t (fD #[hh x.1,fY x.2.1,fY x.2.2])<|fD #[hh y.1,fY y.2.1,fY y.2.2]).run b a=(if x.fst.toList=y.fst.toList then
   if x.snd.fst=y.snd.fst then
    if x.snd.snd=y.snd.snd then Result.ok (Value.bool fo) a else Result.ok (Value.bool fm) a
   else Result.ok (Value.bool fm) a
  else Result.ok (Value.bool fm) a)):(binOp .neq t (fD #[hh x.1,fY x.2.1,fY x.2.2])<|fD #[hh y.1,fY y.2.1,fY y.2.2]).run b a=.ok (fE<|!(decide (x=y))) a:=by
 rw[c];by_cases e:x=y
 all_goals grind [yv,absurd,HA,wL]
theorem ih2(a)(x y:fV):(binOp .neq 112 (fD #[hh x.1,fY x.2.1,fY x.2.2])<|fD #[hh y.1,fY y.2.1,fY y.2.2]).run prog a=.ok (fE<|!(decide (x=y))) a:=by
 refine dup _ a x y ?_
 go_simp
def duv(a)(x y:fV):(binOp .neq 96 (fD #[hh x.1,fY x.2.1,fY x.2.2])<|fD #[hh y.1,fY y.2.1,fY y.2.2]).run prog a=.ok (fE<|!(decide (x=y))) a:=by
 refine dup _ a x y ?_
 go_simp
theorem kW{b}{o:Oper}{a:Act}(f:o.guard=fj)(d:lV)(x)(g:o.op=.load d x)(e:Addr)(h:a.eval x=fB (fh e))
  (cs:fu)(i:∀w,C w->(loadVar d e).run b w=.ok cs w)(j:wpQuiet b ops C Q rest (a.put o.dst cs)):wpQuiet b ops C Q (o::rest) a:=by
 have c:Region.wanted o (yielded ops a.tmps)=fm:=by simp[Region.wanted,f]
 refine wpQuiet_step λl k=>?_;rw[lv c];refine⟨_,λw c=>?_,k _ j⟩;unfold Oper.quietAt execOp;simp only[g,h,Instr.loadAt,Instr.sureAddr,hyp,hys,hwp,i w c];exact⟨fX,fX⟩
theorem wQ{b}{o:Oper}{a:Act}(g:o.guard=fj)(d:BinOp)(t h)(x y)(i:o.op=.binOp d t x y h)(e f v:fu)(j:a.eval x=e)(k:a.eval y=f)
  (l:∀w,C w->(eqGuard d t x y e f).run b w=.ok () w)(m:∀w,C w->(binOp d t e f).run b w=.ok v w)(n:wpQuiet b ops C Q rest (a.put o.dst v)):wpQuiet b ops C Q (o::rest) a:=by
 have c:Region.wanted o (yielded ops a.tmps)=fm:=by simp[Region.wanted,g]
 refine wpQuiet_step λq p=>?_;rw[lv c];refine⟨_,λw c=>?_,p _ n⟩;unfold Oper.quietAt execOp;simp only[i,j,k,hyp,hys,hwp,l w c,m w c];exact⟨fX,fX⟩
theorem Nw{a:Program}(f:a.eqGuardType a.depth t=fo)(c:BinOp)(b)(x y)(d e):(eqGuard c t x y (fD d)<|fD e).run a b=.ok () b:=by
 have g:(program).run a b=.ok a b:=fX;unfold eqGuard
 grind [Sem.run_bind,Result.andThen_ok,Sem.run_pure]
theorem Xb(a)(x y)(b c):(eqGuard .neq 112 x y (fD b)<|fD c).run prog a=.ok () a:=Nw (by kernel_rfl) _ a x y b c
def ld3(a:fq)(b o)(x:fV)(c0:a.c b o=fh (hh x.1))(c1:a.c b (o+1)=fh (fY x.2.1))(c2:a.c b (o+2)=fh (fY x.2.2)):(loadVar 112<|ii b o).run prog a=.ok (fD #[hh x.1,fY x.2.1,fY x.2.2]) a:=by
 go_simp
structure qd (F:Nat->Prop)(w:World)(o:Ob):Prop where
 kind:o.kind=1\/o.kind=2
 size:o.data.size<=256
 len:o.gh.length=o.el
 few:o.el<=16
 Jb:0<=o.high
 Jc:o.high<=5
 row:w.ownsRow 0 112 3 (.slice o.ea o.el o.ec) o.el (flat o.gh)
 own:∀g,(Value.slice o.ea o.el o.ec).ownBlock=some g->F g
theorem qd.keep(a:qd F w o)(hF:∀k,F k->F' k)(d:∀k,F k->H.heap[k]?=w.heap[k]?):qd F' H o:=
 ⟨a.kind,a.size,a.len,a.few,a.Jb,a.Jc,gg a.row λb c=>d b<|a.own b c,λb c=>hF b<|a.own b c⟩
def rO (a b:Ob):Bool:=decide (a.kind=b.kind)&&decide (a.data=b.data)&&decide (a.gh=b.gh)
def qf (o:Ob):fu:=fD #[.int .i64 o.kind,fA o.data,fy o.ea o.el o.ec,.int .i64 o.high]
def vv(w)(a b):ju w ((w.alloc a).alloc b):=((mi _ _).alloc (lw _) _).alloc (by simp) _
def Fc(a b:Ob)(w:fq)(d:a.el<=16)(e:b.el<=16)
  (c:(a.kind != b.kind)=fm\/(a.kind != b.kind)=fo/\((a.data.toList==b.data.toList)=fo\/(a.data.toList==b.data.toList)=fm/\((a.el:Int) != (b.el:Int))=fm)):
  ik 200 #[qf a,qf b] w (ut (fE fo) w):=by
 unfold qf;rcases c with c|⟨f,c|⟨g,c⟩⟩
 all_goals
  go_enter func200,ntmps200;go_wp2;go_ret;exact⟨fX,vv _ _ _⟩
theorem Xc(z A H I:Int)(d1 d2:fP)(B C)(c1 c2 m:Nat)(es1 c:List fV)(w:fq)(W:m<=16)(X:fv es1=m)(Y:fv c=m)
  (D:w.ownsRow 0 112 3 (fy B m c1) m (flat es1))(E:w.ownsRow 0 112 3 (fy C m c2) m (flat c))
  (Z:(z != A)=fo)(aa:(d1.toList==d2.toList)=fm):
  ik 200 #[fD #[fY z,hh d1,fy B m c1,fY H],fD #[fY A,hh d2,fy C m c2,fY I]] w (ut (fE<|decide (es1=c)) w):=by
 go_enter func200,ntmps200;go_wp2
 go_loopw [5] (λi wr=>∃k:Nat,k<=m/\i=.int .i64 k/\(∃d,wr=((w.k #[fY z,hh d1,fy B m c1,fY H] 108).k #[fY A,hh d2,fy C m c2,fY I] 108).drewN d)/\fe (es1.take k=c.take k)) (λi _=>m-(intOf i).toNat)
 case atStart=>exact⟨0,zt _,rfl,⟨0,rfl⟩,rfl⟩
 case round=>
  obtain⟨k,ab,rfl,⟨d,rfl⟩,J⟩:=hrel;by_cases ac:k<m
  ·obtain⟨e,ad,M⟩:=hZ D (by omega)
   obtain⟨f,ae,N⟩:=hZ E (by omega);obtain⟨rfl,_,_⟩:=lK M;obtain⟨rfl,_⟩:=lK N;have K:k<fv es1:=by omega
   have L:k<fv c:=by omega
   have F:e<w.heap.size:=gc D fX;have G:f<w.heap.size:=gc E fX;have g:∀a b:Obj,ju w (((w.alloc a).alloc b).drewN d):=λa b=>iP (vv w a b) d;obtain⟨l,o,q⟩:=lr (off:=0) (ks D) K;obtain⟨r,s,t⟩:=lr (off:=0) (ks E) L;rw[iO]at l o q r s t;obtain⟨x,u⟩:=ol<|es1[k];obtain⟨y,v⟩:=ol<|c[k];rw[<-u]at l o q;rw[<-v]at r s t;have O:=λa b:Obj=>((g a b).cell (p:=(ii e<|k*3)) F).trans l;have P:=λa b:Obj=>((g a b).cell (p:=(ii e<|k*3+1)) F).trans o;have Q:=λa b:Obj=>((g a b).cell (p:=(ii e<|k*3+2)) F).trans q;have R:=λa b:Obj=>((g a b).cell (p:=(ii f<|k*3)) G).trans r;have S:=λa b:Obj=>((g a b).cell (p:=(ii f<|k*3+1)) G).trans s;have T:=λa b:Obj=>((g a b).cell (p:=(ii f<|k*3+2)) G).trans t;clear l o q r s t
   change fe _ at u v
   go_wp2;refine Wz (by kernel_rfl) (by kernel_rfl) ?_
   iterate 4 quiet_step (fail)
   refine kW fX 112 _ fX (ii e<|k*3) fX (fD #[hh x.1,fY x.2.1,fY x.2.2]) (by rintro _ ⟨n,rfl⟩;exact ld3 _ e (k*3) x (O _ _) (P _ _)<|Q _ _) ?_
   go_frame
   iterate 4 quiet_step (fail)
   refine kW fX 112 _ fX (ii f<|k*3) fX (fD #[hh y.1,fY y.2.1,fY y.2.2]) (by rintro _ ⟨n,rfl⟩;exact ld3 _ f (k*3) y (R _ _) (S _ _)<|T _ _) ?_
   go_frame
   refine wQ fX .neq 112 112 _ _ fX (fD #[hh x.1,fY x.2.1,fY x.2.2]) (fD #[hh y.1,fY y.2.1,fY y.2.2]) (fE<|!(decide (x=y))) fX fX (by grind [Xb]) (by grind [ih2]) ?_
   go_frame
   refine Rx ?_;rintro _ ⟨nq,rfl⟩;by_cases h:x=y
   ·have j:fe (x=y):=h
    rw[qu h];clear h;go_wp2;go_roundw
    case rel=>
     refine⟨k+1,by omega,by go_num,⟨d+nq,fX⟩,?_⟩;show _=_;rw[vk K,vk L,J.o,<-u.o,<-v.o,j.o]
    case measure=>simp[intOf];omega
   have j:fe (es1≠c):=λU=>h (by rw[u.o,v.o];simp only[U]);rw[yv h];clear h;go_wp2;go_ret;exact⟨by rw[yv j.o];rfl,iP (iP (vv _ _ _) d) nq⟩
  have V:k=m:=by omega
  have j:fe (es1=c):=by
   have:=J.o
   rwa [V,oJ<|by omega,oJ<|by omega]at this
  go_wp2;go_ret;exact⟨by rw[qu j.o];rfl,iP (vv _ _ _) d⟩
theorem dvd{F i}(a b)(w)(c:qd F w a)(d:qd i w b):
  ik 200 #[qf a,qf b] w (ut (fE<|rO a b) w):=by
 by_cases f:a.kind=b.kind;by_cases g:a.data=b.data;by_cases h:a.el=b.el
 have:=Xc a.kind b.kind a.high b.high a.data b.data a.ea b.ea a.ec b.ec a.el a.gh b.gh w c.few c.len (by rw[d.len,h]) c.row (by have:=d.row;rwa [<-h]at this) (by rw[f];simp) (by rw[g];simp)
 grind [rO,decide,qf]
 have e:rO a b=fo:=by
  have:a.gh≠b.gh:=λj=>h (by rw[<-c.len,<-d.len,j])
  grind [rO]
 rw[e];exact Fc a b w c.few d.few (.inr ⟨by rw[f];simp,.inr ⟨by rw[g];simp,by simp;omega⟩⟩);have e:rO a b=fo:=by unfold rO;simp[g]
 rw[e];exact Fc a b w c.few d.few (.inr ⟨by rw[f];simp,.inl (by grind [wL])⟩);have e:rO a b=fo:=by unfold rO;simp[f]
 rw[e];exact Fc a b w c.few d.few<|.inl (by grind)
