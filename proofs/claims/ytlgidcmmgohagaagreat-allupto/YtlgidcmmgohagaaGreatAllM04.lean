/- A part of the proof. -/
import Derived.Test.YtlgidcmmgohagaaGreatAllM03
set_option linter.all false
namespace Go.Proofs.YtlgidcmmgohagaaGreat
open Go.RowKit Go.Sort Go.Shelf Go.Proofs.Tryz
open Go.Value renaming slice->fy,string->fA,pointer->fB,tuple->fC,agg->fD,bool->fE
open Go.Ending renaming returned->fF
open Option renaming some->fh,none->fj
open Bool renaming true->fm,false->fo
open Go renaming World->fq,Value->fu
open List renaming length->fv,reverse->fx
open Go.RowKit renaming Hid->fe
set_option maxRecDepth 100000
set_option maxHeartbeats 0
variable {p q qf qt x:fQ}{F F':Nat->Prop}{o:Ob}{id:Int}{g i j k s:Nat}{w:fq}{c d df dt t:LT}{kf Y kt:Kids}{K:Nat->Bool}{fs:b6}{N h:fO}{es:List fV}{a b A:List Ob}{e:Ending}{v:fu}
variable {α β:Type}{A H O:List Ob}{t d:LT}{fs:b6}{q:fQ}{Y:Kids}{n:fO}{fc:ji}{F F' G M:Nat->Prop}{w J:fq}{s W r ic kc pc:Nat}{ia ka pa:iD}{ids paths:List Int}{I:List Bool}{c5 c6 c7 c8 c9 R c11:fu}
def ja (a b:fO):Int:=Lib.compareBytes a.data.toList b.data.toList
theorem jb(a):ja a a=0:=rO _
theorem Co{a b}(c:ja a b=0):a=b:=bytes_inj<|nA _ _ c
theorem Ji(a b):ja b a=- ja a b:=rP _ _
theorem pG{a b c:fO}(d:ja a b<0)(k:ja b c<0):ja a c<0:=lX _ _ _ d k
def fP (es:List (fO×α)):Prop:=es.Pairwise λx y=>ja x.1 y.1<0
def ui (es:List (fO×α))(n:fO):Nat:=es.countP λx=>decide (ja x.1 n<0)
def kA (es:List (fO×α))(n:fO):Bool:=((es[ui es n]?).map λx=>decide (x.1=n)).getD fo
def qL (es:List (fO×α))(n:fO):Option α:=(es.find? λx=>decide (x.1=n)).map (·.2)
theorem Vm(es:List (fO×α))(n:fO):ui es n<=fv es:=List.countP_le_length
theorem qM{x:fO×α}{r:List (fO×α)}{n:fO}(a:ja x.1 n<0):ui (x::r) n=ui r n+1:=by unfold ui;rw[List.countP_cons_of_pos (by simpa using a)]
theorem qN{x:fO×α}{r:List (fO×α)}{n:fO}(c:fP (x::r))(b:¬ja x.1 n<0):ui (x::r) n=0:=by
 unfold ui;rw[List.countP_eq_zero];intro y a;rcases oc.1 a with rfl|a
 simpa using b;have d:=(sJ.1 c).1 y a;simp only[Hz];exact λe=>b<|pG d e
def fP.tail{x:fO×α}{r:List (fO×α)}(a:fP (x::r)):fP r:=(sJ.1 a).2
theorem pY{x:fO×α}{r:List (fO×α)}{n:fO}(a:x.1=n):qL (x::r) n=fh x.2:=by unfold qL;rw[sin (by simpa using a)];rfl
theorem iX{x:fO×α}{r:List (fO×α)}{n:fO}(a:x.1≠n):qL (x::r) n=qL r n:=by unfold qL;rw[sle (by simpa using a)]
theorem AK{es:List (fO×α)}{n:fO}(a:∀x∈es,x.1≠n):qL es n=fj:=by
 grind [qL,hOr]
theorem nj:∀{es:List (fO×α)}{n:fO},fP es->qL es n=if kA es n then(es[ui es n]?).map (·.2)else fj
 |[],n,_=>by simp[qL,kA,ui]
 |x::r,n,a=>by
  by_cases b:ja x.1 n<0
  have f:x.1≠n:=λe=>by rw[e,jb]at b;omega
  have g:=nj (n:=n) a.tail
  grind [iX,kA,qM]
  unfold kA
  rw[qN a b]
  simp only[sev,qA,jI]
  by_cases c:x.1=n
  grind [pY]
  rw[iX c,AK]
  simp[c]
  intro y d e
  have h:=(sJ.1 a).1 y d
  grind
def zr (es:List (fO×α))(n:fO)(c:α):List (fO×α):=if kA es n then es.set (ui es n) (n,c)else es.take (ui es n)++(n,c)::es.drop (ui es n)
def rb (es:List (fO×α))(n:fO):List (fO×α):=es.eraseIdx<|ui es n
theorem wW{x:fO×α}{r:List (fO×α)}{n:fO}(a:ja x.1 n<0):kA (x::r) n=kA r n:=by unfold kA;rw[qM a];rfl
theorem AL{x:fO×α}{r:List (fO×α)}{n:fO}{c:α}(a:ja x.1 n<0):zr (x::r) n c=x::zr r n c:=by
 grind [zr,wW,qM]
def Ie{x:fO×α}{r:List (fO×α)}{n:fO}(a:ja x.1 n<0):rb (x::r) n=x::rb r n:=by unfold rb;rw[qM a];rfl
theorem wX{x:fO×α}{r:List (fO×α)}{n:fO}(a:fP (x::r))(b:¬ja x.1 n<0):kA (x::r) n=decide (x.1=n):=by unfold kA;rw[qN a b];rfl
theorem AO{x:fO×α}{r:List (fO×α)}{n:fO}{c:α}(a:fP (x::r))(b:¬ja x.1 n<0):zr (x::r) n c=if x.1=n then(n,c)::r else(n,c)::x::r:=by
 grind [zr,wX,qN]
def Ig{x:fO×α}{r:List (fO×α)}{n:fO}(a:fP (x::r))(b:¬ja x.1 n<0):rb (x::r) n=r:=by unfold rb;rw[qN a b];rfl
theorem NB:∀{es:List (fO×α)}{n:fO}{c:α},fP es->∀m,qL (zr es n c) m=if m=n then fh c else qL es m
 |[],n,c,_,m=>by
  grind [zr,kA,ui,qL]
 |x::r,n,c,d,m=>by
  by_cases a:ja x.1 n<0
  have f:x.1≠n:=λe=>by rw[e,jb]at a;omega
  rw[AL a]
  by_cases b:x.1=m
  grind [pY]
  rw[iX b,iX b]
  exact NB d.tail m
  grind [AO,pY,iX]
theorem Jj:∀{es:List (fO×α)}{n:fO},fP es->kA es n=fm->∀m,qL (rb es n) m=if m=n then fj else qL es m
 |[],n,_,a,m=>by simp[kA,ui]at a
 |x::r,n,c,a,m=>by
  by_cases b:ja x.1 n<0
  have g:x.1≠n:=λe=>by rw[e,jb]at b;omega
  rw[wW b]at a
  rw[Ie b]
  by_cases d:x.1=m
  grind [pY]
  rw[iX d,iX d]
  exact Jj c.tail a m
  rw[wX c b]at a
  rw[Ig c b]
  by_cases d:m=n
  rw[lv d]
  refine AK λy f e=>?_
  have h:=(sJ.1 c).1 y f
  grind
  grind [iX]
theorem err:∀{es:List (fO×α)}{n:fO}{c:α}{y:fO×α},fP es->y∈zr es n c->y=(n,c)\/y∈es:=by
 grind [zr,List.mem_or_eq_of_mem_set,Aw,Ws]
theorem wY:∀{es:List (fO×α)}{n:fO}{c:α},fP es->fP (zr es n c)
 |[],n,c,_=>by simp[zr,kA,ui,fP]
 |x::r,n,c,b=>by
  by_cases d:ja x.1 n<0
  rw[AL d]
  refine sJ.2 ⟨λy a=>?_,wY b.tail⟩
  rcases err b.tail a with rfl|a
  exact d
  exact(sJ.1 b).1 y a
  rw[AO b d]
  by_cases e:x.1=n
  rw[lv e]
  exact sJ.2 ⟨λy a=>by have:=(sJ.1 b).1 y a;rw[e]at this;exact this,b.tail⟩
  rw[km e]
  have kO:ja n x.1<0:=by
   grind [Ji,ja,Co]
  refine sJ.2 ⟨λy a=>?_,b⟩;rcases oc.1 a with rfl|a
  exact kO;exact pG kO<|(sJ.1 b).1 y a
theorem sZ(es:List (fO×α))(n)(c:α):fv (zr es n c)=if kA es n then fv es else fv es+1:=by
 grind [zr,Vm]
theorem uw{es:List (fO×α)}{n}(a:kA es n=fm):ui es n<fv es:=by
 grind [kA,ui,wA]
theorem AP{es:List (fO×α)}{n}(a:kA es n=fm):fv (rb es n)=fv es-1:=by
 grind [rb,List.length_eraseIdx_of_lt,uw]
def Cp (a:fO×α->β)(es:List (fO×α)):List (fO×β):=es.map λx=>(x.1,a x)
theorem Fk(a:fO×α->β)(es:List (fO×α))(n):ui (Cp a es) n=ui es n:=by
 unfold ui Cp;rw[List.countP_map];rfl
theorem Fl(a:fO×α->β)(es:List (fO×α))(n):kA (Cp a es) n=kA es n:=by
 grind [kA,Fk,Cp,ui]
theorem nH(a:fO×α->β){es:List (fO×α)}(b:fP es):fP (Cp a es):=by
 grind [fP,Cp]
theorem Xc(a:fO×α->β)(es:List (fO×α))(n):Cp a (rb es n)=rb (Cp a es) n:=by
 grind [rb,Fk,Cp,List.eraseIdx_eq_take_drop_succ,List.map_take,List.map_drop]
theorem RP(es)(n):jp es n=qL es n:=fX
def zE:fV:=(⟨#[]⟩,0,0)
structure FT where
 root:Int
 od:fQ->Option (List fV)
 of:fQ->Option Nat
def upd {β:Type}(f:fQ->β)(p:fQ)(v:β):fQ->β:=λq=>if q=p then v else f q
theorem upd_same{β:Type}(a:fQ->β)(p)(v:β):upd a p v p=v:=by unfold upd;rw[lv fX]
theorem kh{β:Type}{f:fQ->β}(a:q≠p)(v:β):upd f p v q=f q:=by unfold upd;rw[km a]
def mB (A:List Ob)(ft:FT)(fs:b6)(p:fQ)(e:fV):b6×Int×List fV:=
 if e.2.1≠2 then(fs,5,[]) else
 if e.2.2=0 then(fs,0,(ft.od p).getD []) else
 if(fs.iw e.2.2).2 then((fs.iw e.2.2).1,0,fT A e.2.2) else((fs.iw e.2.2).1,14,[])
def findF (A:List Ob)(ft:FT)(fs:b6):fQ->b6×Int×fV
 |[]=>(fs,0,(⟨#[]⟩,2,ft.root))
 |n::r=>
  let a:=findF A ft fs r
  if a.2.1≠0 then(a.1,a.2.1,zE) else
  let b:=mB A ft a.1 (fx r) a.2.2
  if b.2.1≠0 then(b.1,b.2.1,zE) else
  match qL b.2.2 n with
  |none=>(b.1,4,zE)
  |some c=>(b.1,0,(n,c))
def gu (A:List Ob)(ft:FT)(fs:b6)(r:fQ):b6×Int×List fV:=
 let a:=findF A ft fs r
 if a.2.1≠0 then(a.1,a.2.1,[])else mB A ft a.1 (fx r) a.2.2
theorem pH(A)(ft)(fs)(n:fO)(r:fQ):findF A ft fs (n::r) =
  if(gu A ft fs r).2.1≠0 then((gu A ft fs r).1,(gu A ft fs r).2.1,zE) else
  match qL (gu A ft fs r).2.2 n with
  |none=>((gu A ft fs r).1,4,zE)
  |some c=>((gu A ft fs r).1,0,(n,c)):=by
 unfold gu;rw[findF];by_cases a:(findF A ft fs r).2.1≠0;simp only[lv a];simp only[km a]
def zA:Option LT->Option (List fV)
 |some (.own es)=>fh<|es.map lL
 |_=>fj
def RQ:Option LT->Option Nat
 |some (.held a)=>fh a
 |_=>fj
structure Flat (gI:List Ob)(t:LT)(ft:FT):Prop where
 kind:t.kind=2
 root:ft.root=t.id
 od:∀p,ft.od p=zA (t.at gI p)
 of:∀p,ft.of p=RQ (t.at gI p)
def iT (s:fO):List UInt8:=s.data.toList
theorem iF{a b}(c:iT a=iT b):a=b:=bytes_inj c
theorem PP(s):fv (iT s)=s.size:=pq
theorem mE(s:fO):s.toList=iT s:=by simp only[Av];rfl
def iY:List (List UInt8)->List UInt8
 |[]=>[]
 |[x]=>x
 |x::y::r=>x++47::iY (y::r)
def sf:List UInt8->List (List UInt8)
 |[]=>[[]]
 |c::r=>if c=47 then []::sf r else((c::(sf r).headD [])::(sf r).tail)
theorem rj(s:List UInt8):sf s≠[]:=by
 rcases s with _|⟨c,r⟩
 simp[sf];simp only[sf];split<;>simp
theorem AQ:∀(a b:List UInt8),(∀c∈a,c≠47)->sf (a++47::b)=a::sf b
 |[],b,_=>by simp[sf]
 |c::r,b,e=>by
  have g:=AQ r b λd f=>e d<|wC _ f
  grind [sf]
theorem Dg:∀(a:List UInt8),(∀c∈a,c≠47)->sf a=[a]
 |[],_=>rfl
 |c::r,b=>by
  have f:=Dg r λd e=>b d<|wC _ e
  grind [sf]
theorem td:∀(l:List (List UInt8)),l≠[]->(∀x∈l,∀c∈x,c≠47)->sf (iY l)=l
 |[],a,_=>absurd fX a
 |[x],_,a=>by simp only[iY];exact Dg x<|a x (oN ..)
 |x::y::r,_,a=>by
  simp only[iY]
  rw[AQ x _<|a x (oN ..),td (y::r) (by simp) λz b=>a z<|wC _ b]
theorem vI(x:List UInt8){r:List (List UInt8)}(a:r≠[]):iY (x::r)=x++47::iY r:=by
 rcases r with _|⟨y,t⟩
 exact absurd fX a;rfl
theorem RR(c:UInt8)(x:List UInt8)(r:List (List UInt8)):iY ((c::x)::r)=c::iY (x::r):=by
 rcases r with _|⟨y,t⟩
 rfl;rfl
theorem wZ:∀(s:List UInt8),iY (sf s)=s
 |[]=>rfl
 |c::r=>by
  have a:=wZ r
  simp only[sf]
  split
  ·next hc=>rw[vI _<|rj r,a,hc];rfl
  rw[RR]
  congr 1
  rcases b:sf r with _|⟨y,t⟩
  exact absurd b<|rj r
  rw[b]at a;exact a
theorem zB(x:List UInt8):∀(l:List (List UInt8)),l≠[]->iY (l++[x])=iY l++47::x
 |[],h=>absurd fX h
 |[y],_=>rfl
 |y::z::r,_=>by
  have a:=zB x (z::r)<|by simp
  grind [iY]
theorem rW(a b:fO):iT (a++b)=iT a++iT b:=by
 unfold iT;simp
def fL (l:fQ):Prop:=∀x∈l,fN x=fm
theorem fL.append{a b}(c:fL a)(d:fL b):fL (a++b):=λx e=>(qJ.1 e).elim (c x)<|d x
theorem fL.left{a b:fQ}(c:fL (a++b)):fL a:=λx d=>c x<|Rn _ d
theorem fL.right{a b:fQ}(c:fL (a++b)):fL b:=λx d=>c x<|Wt _ d
theorem fL.take{a}(b:fL a)(k):fL (a.take k):=λx c=>b x<|Aw c
theorem Cq(A)(b:Kids->Kids):∀(p:fQ)(t d:LT)(Y:Kids),t.at A p=fh d->kids A d=fh Y->
  (∀n r,(vy A b p t).at A (p++n::r)=(jp (b Y) n).bind λc=>c.at A r)/\(vy A b p t).at A p=fh (.own<|b Y)
 |[],t,d,Y,a,g=>by
  grind [pd,lh,Jh,vy]
 |m::p,t,d,Y,a,g=>by
  rw[lh]at a
  cases e:kids A t with
  |none=>rw[e]at a;simp at a
  |some es=>
   rw[e,wy]at a
   rcases f:jp es m with _|c
   rw[f]at a
   simp at a
   rw[f,wy]at a
   have⟨h,i⟩:=Cq A b p c d Y a g
   refine⟨λn r=>?_,?_⟩
   rw[Ea,lh,ri,e,jI,wy,qj,lv fX,f,qA,wy]
   exact h n r
   rw[lh,ri,e,jI,wy,qj,lv fX,f,qA,wy]
   exact i
theorem pI(A)(g:Kids->Kids):∀(q:fQ)(m:fO)(r:fQ)(t d:LT),t.at A (q++m::r)=fh d->
  ∃e f,t.at A q=fh e/\kids A e=fh f/\(vy A g (q++m::r) t).at A q=fh (.own (f.map λx=>if x.1=m then(x.1,vy A g r x.2)else x))
 |[],m,r,t,d,a=>by
  rw[HL,lh]at a
  rcases b:kids A t with _|es
  rw[b]at a
  simp at a
  exact⟨t,es,pd _ _,b,by rw[pd,HL,vy,b];rfl⟩
 |n::q,m,r,t,d,a=>by
  rw[Ea,lh]at a
  cases b:kids A t with
  |none=>rw[b]at a;simp at a
  |some es=>
   rw[b,wy]at a
   rcases h:jp es n with _|c
   rw[h]at a
   simp at a
   rw[h,wy]at a
   have⟨e,f,k,i,j⟩:=pI A g q m r c d a
   refine⟨e,f,?_,i,?_⟩
   grind [lh]
   rw[Ea,lh,ri,b,jI,wy,qj,lv fX,h,qA,wy]
   exact j
theorem mb(A)(h:Kids->Kids):∀(p q:fQ)(t d:LT),t.at A p=fh d->¬q <+: p->¬p <+: q->(vy A h p t).at A q=t.at A q
 |[],q,t,d,a,b,e=>absurd (ihn) e
 |m::p,[],t,d,a,b,e=>absurd (ihn) b
 |m::p,n::q,t,d,a,b,e=>by
  rw[lh]at a
  cases f:kids A t with
  |none=>rw[f]at a;simp at a
  |some es=>
   rw[f,wy]at a
   rw[lh,lh,ri,f,jI,wy,wy,qj]
   by_cases i:n=m
   subst i
   rw[lv fX]
   rcases j:jp es n with _|c
   rfl
   rw[j,wy]at a
   rw[qA,wy,wy]
   exact mb A h p q c d a (λg=>b<|Wv.2 ⟨fX,g⟩) λg=>e<|Wv.2 ⟨fX,g⟩
   grind
def Sound (A:List Ob):Prop:=(∀id,0<=gp A id)/\∀id,fJ A id=2->fP (fT A id)/\fv (fT A id)<=16/\∀e∈fT A id,fN e.1=fm/\(e.2.1=1\/e.2.1=2)/\fJ A e.2.2=e.2.1/\gp A e.2.2+1<=gp A id
def fM (A:List Ob):Nat->LT->Prop
 |_,.file id=>fJ A id=1
 |_,.held _=>True
 |n,.dir id=>fJ A id=2/\gp A id<=n
 |0,.own es=>es=[]
 |n+1,.own es=>fP es/\fv es<=16/\∀x∈es,fN x.1=fm/\fM A n x.2
theorem lO(d:Sound A){n}(a:fM A n t)(b:kids A t=fh Y):fP Y/\fv Y<=16/\∀x∈Y,fN x.1=fm/\∃m,n=m+1/\fM A m x.2:=by
 cases t with
 |file i=>simp[kids]at b
 |held o=>simp[kids]at b
 |own es=>
  simp only[kids,pW]at b;subst b;cases n with
  |zero=>rw[fM]at a;subst a;exact⟨List.Pairwise.nil,by simp,by simp⟩
  |succ m=>rw[fM]at a;exact⟨a.1,a.2.1,λx c=>⟨(a.2.2 x c).1,m,fX,(a.2.2 x c).2⟩⟩
 |dir id=>
  have f:(fT A id).map wd=Y:=by simpa [kids]using b
  subst f;have g:fJ A id=2/\gp A id<=n:=by cases n<;>simpa [fM]using a
  obtain⟨h,j,k⟩:=d.2 id g.1;refine⟨?_,by simpa using j,λx c=>?_⟩;unfold fP;rw[wK];exact h;obtain⟨e,l,rfl⟩:=jC.1 c;obtain⟨v,p,q,r⟩:=k e l;have s:=d.1 e.2.2;refine⟨v,n-1,by omega,?_⟩;show fM A (n-1)<|ltOf e;unfold ltOf;by_cases u:e.2.1=2
  all_goals grind [fJ,gp,Nat,Int,fM]
theorem rX{n}(a:jp Y n=fh c):(n,c)∈Y:=by
 unfold jp at a;rcases b:Y.find? (λx=>decide (x.1=n))with _|x
 rw[b]at a;simp at a
 grind
theorem tA(h:Sound A):∀(p:fQ){n:Nat}{t c:LT},fM A n t->t.at A p=fh c->fv p<=n/\fM A (n-fv p) c/\fL p
 |[],n,t,c,b,a=>by rw[pd]at a;cases a;exact⟨by simp,by simpa using b,λx d=>by simp at d⟩
 |m::p,n,t,c,b,a=>by
  rw[lh]at a
  cases e:kids A t with
  |none=>rw[e]at a;simp at a
  |some Y=>
   rw[e,wy]at a
   rcases f:jp Y m with _|x
   rw[f]at a
   simp at a
   rw[f,wy]at a
   have⟨_,_,i⟩:=lO h b e
   obtain⟨j,k,rfl,d⟩:=i _<|rX f
   have⟨o,q,l⟩:=tA h p d a
   refine⟨by simp;omega,?_,λy g=>?_⟩
   grind
   rcases oc.1 g with rfl|g
   exact j
   exact l y g
theorem Vn{id k:Int}(a:fJ A id=k)(b:k≠0):1<=id:=by
 grind [fJ,absurd]
theorem Jk(b:∀e∈es,e.2.1=1\/e.2.1=2):(es.map wd).map lL=es:=by
 rw[Ed];conv=>rhs;rw[<-List.map_id es]
 refine KW λe c=>?_;have⟨a,k,i⟩:=e;rcases b _ c with b|b
 simp only at b;subst b;rfl;simp only at b;subst b;rfl
theorem AR(Y:Kids)(n):qL (Y.map lL) n=(jp Y n).map λc=>(c.kind,c.id):=by
 unfold qL jp;rw[List.find?_map];rw[css,css];rfl
theorem ya{ft}(h:Sound A)(hF:Flat A t ft){n}(d:fM A n c)(j:t.at A p=fh c)(fs)(b:fO):
  mB A ft fs p (b,c.kind,c.id)=((ut A fs c).1,(ut A fs c).2.1,(ut A fs c).2.2.map lL):=by
 unfold mB;cases c with
 |file i=>rfl
 |held q=>rfl
 |own es=>
  have f:=hF.od p;rw[j]at f;simp only[LT.kind,LT.id,f];rfl
 |dir id=>
  have g:fJ A id=2:=by cases n<;>simp[fM]at d<;>exact d.1
  have r:=Vn g (by decide);have k:=Jk λe l=>((h.2 id g).2.2 e l).2.1;rw[km (show ¬((b,(LT.dir id).kind,(LT.dir id).id):fV).2.1≠2 from λm=>m fX),km (show ¬((b,(LT.dir id).kind,(LT.dir id).id):fV).2.2=0 from by show ¬id=0;omega)];show(if(fs.iw id).2=fm then _ else _)=_;have o:ut A fs (.dir id)=if(fs.iw id).2 then((fs.iw id).1,0,(fT A id).map wd) else((fs.iw id).1,14,[]):=fX;rw[o];by_cases a:(fs.iw id).2=fm;rw[lv a,lv a];simp only[k];rfl;rw[km a,km a];rfl
theorem ux{ft}(b:Sound A)(hF:Flat A t ft){n}(c:fM A n t)(fs):∀r:fQ,
  (findF A ft fs r).1=(ky A t fs r).1/\(findF A ft fs r).2.1=(ky A t fs r).2.1/\
  ((ky A t fs r).2.1=0->(findF A ft fs r).2.2=(r.headD kq,(ky A t fs r).2.2.kind,(ky A t fs r).2.2.id)/\t.at A (fx r)=fh (ky A t fs r).2.2)
 |[]=>⟨fX,fX,λ_=>⟨by show(_,(2:Int),ft.root)=_;rw[hF.root,<-hF.kind];rfl,pd _ _⟩⟩
 |m::r=>by
  have⟨f,g,h⟩:=ux b hF c fs r
  rw[findF,ky]
  simp only[f,g]
  by_cases d:(ky A t fs r).2.1≠0
  grind
  simp only[km d]
  have⟨j,e⟩:=h<|oP.1 d
  have k:=ya b hF ((tA b _ c e).2.1) e (ky A t fs r).1<|r.headD kq
  rw[j,k]
  simp only
  by_cases a:(ut A (ky A t fs r).1 (ky A t fs r).2.2).2.1≠0
  grind
  rw[km a,km a,AR]
  have o:(kids A (ky A t fs r).2.2)=fh (ut A (ky A t fs r).1 (ky A t fs r).2.2).2.2:=by
   generalize (ky A t fs r).2.2=x at a |-;generalize (ky A t fs r).1=y at a |-;cases x with
   |file i=>simp[ut]at a
   |held p=>simp[ut]at a
   |own es=>rfl
   |dir id=>
    simp only[ut]at a |-;by_cases l:(y.iw id).2=fm;rw[lv l];rfl
    grind
  grind [jp,ut,ky,kL,lx,lh,pd]
theorem nI{ft}(a:Sound A)(hF:Flat A t ft){n}(b:fM A n t)(fs)(r):
  gu A ft fs r=((pA A t fs r).1,(pA A t fs r).2.1,(pA A t fs r).2.2.map lL):=by
 have⟨d,e,f⟩:=ux a hF b fs r;unfold gu pA;simp only[d,e];by_cases c:(ky A t fs r).2.1≠0
 grind
 simp only[km c];have⟨h,g⟩:=f<|oP.1 c;have i:=(tA a _ b g).2.1
 grind [ya,ky]
def mI (es:List fV)(n:fO):List fV:=es.map λe=>if e.1=n then(e.1,e.2.1,0)else e
def rp (A:List Ob)(fs:b6)(ft:FT):fQ->FT
 |[]=>if(ft.od []).isSome then ft else { ft with od:=upd ft.od []<|fh (gu A ft fs []).2.2,root:=0 }
 |n::r=>
  if(ft.od<|fx (n::r)).isSome then ft else
  let a:=rp A fs { ft with od:=upd ft.od (fx (n::r)) (fh (gu A ft fs (n::r)).2.2) } r
  { a with od:=upd a.od (fx r) (fh<|mI ((a.od<|fx r).getD []) n) }
theorem zC(A)(fs){ft ft':FT}(b:ft'.root=ft.root):∀r:(List ByteArray),(∀x,x <+: fx r->ft'.od x=ft.od x)->findF A ft' fs r=findF A ft fs r/\gu A ft' fs r=gu A ft fs r
 |[],a=>by
  grind [findF,gu,mB,List,ByteArray,List.prefix_refl]
 |n::r,a=>by
  have c:∀x,x <+: fx r->ft'.od x=ft.od x:=λx d=>a x<|d.trans (by grind)
  obtain⟨_,e⟩:=zC A fs b r c
  grind [findF,pH,gu,mB,List.prefix_refl]
structure jk (gI:List Ob)(fs:b6)(ft:FT)(K:fQ->List fV)(p:fQ):Prop where
 look:∀q,q <+: p->gu gI ft fs q.reverse=(fs,0,K q)
 own:∀q,q <+: p->∀es,ft.od q=some es->es=K q
 up:∀q m,(q++[m]) <+: p->(ft.od (q++[m])).isSome=true->(ft.od q).isSome=true/\mI (K q) m=K q
 root:(ft.od []).isSome=true->ft.root=0
def zK (K:fQ->List fV)(p x:fQ):List fV:=match p[fv x]? with
 |some m=>mI (K x) m
 |none=>K x
theorem xb{α:Type}{x p:List α}{n:α}(a:x <+: p++[n]):x <+: p\/x=p++[n]:=by
 grind [sig]
theorem nk{α:Type}{x p:List α}(a:x <+: p)(b:x≠p):∃m,p[fv x]?=fh m/\(x++[m]) <+: p:=by
 obtain⟨t,rfl⟩:=a;cases t with
 |nil=>simp at b
 |cons m r=>exact⟨m,by simp,⟨r,by simp⟩⟩
theorem zD{ft}{K:fQ->List fV}:∀{r:fQ},jk A fs ft K (fx r)->(ft.od (fx r)).isSome=fm->ft.root=0/\∀x,x <+: fx r->ft.od x=fh (zK K (fx r) x)
 |[],a,c=>by
  refine⟨a.root c,λx b=>?_⟩
  have:x=[]:=by simpa using b
  subst this
  obtain⟨es,d⟩:=hBg.1 c
  have:=a.own [] (sQ _) es d
  show ft.od (fx ([]:fQ))=_
  rw[d,this];rfl
 |n::r,a,c=>by
  rw[kL]at a c |-
  obtain⟨g,l⟩:=a.up (fx r) n (sQ _) c
  have uy:∀x,x <+: fx r->x <+: fx r++[n]:=λx b=>b.trans<|qD _ _
  have h:jk A fs ft K (fx r):=⟨λq e=>a.look q<|uy q e,λq e=>a.own q<|uy q e,λq m e=>a.up q m<|uy _ e,a.root⟩
  obtain⟨i,j⟩:=zD h g
  refine⟨i,λx b=>?_⟩
  rcases xb b with b|rfl
  rw[j x b]
  by_cases f:x=fx r
  subst f
  have o:zK K (fx r) (fx r)=K (fx r):=by unfold zK;rw[wA<|lw _]
  have p:zK K (fx r++[n]) (fx r)=mI (K<|fx r) n:=by unfold zK;rw[BX<|lw _];simp
  grind
  obtain⟨m,k,_⟩:=nk b f
  have s:fv x<fv (fx r):=(wI.1 k).1
  unfold zK
  grind
  obtain⟨es,d⟩:=hBg.1 c
  have:=a.own _ (sQ _) es d
  rw[d,this]
  unfold zK
  grind
theorem zF{K:fQ->List fV}:∀{r:fQ}{ft:FT},jk A fs ft K (fx r)->
  (rp A fs ft r).root=0/\(rp A fs ft r).of=ft.of/\∀x,(rp A fs ft r).od x=if x <+: fx r then fh (zK K (fx r) x)else ft.od x
 |[],ft,b=>by
  rw[rp]
  by_cases i:(ft.od []).isSome=fm
  grind [zD]
  rw[km i]
  refine⟨fX,fX,λx=>?_⟩
  have g:=b.look []<|sQ _
  show upd ft.od [] _ x=_
  by_cases a:x=[]
  subst a
  rw[upd_same,lv<|by simp,show gu A ft fs []=(fs,0,K [])from g];rfl
  grind [kh]
 |n::r,ft,b=>by
  rw[rp]
  by_cases i:(ft.od<|fx (n::r)).isSome=fm
  grind [zD]
  rw[km i]
  have p:fx (n::r)=fx r++[n]:=kL
  rw[p]at b |-
  have g:=b.look (fx r++[n])<|sQ _
  rw[sup,uo]at g
  have s:gu A ft fs (n::r)=(fs,0,K<|fx r++[n]):=g
  rw[s]
  have uy:∀x,x <+: fx r->x <+: fx r++[n]:=λx a=>a.trans<|qD _ _
  have d:∀x,x <+: fx r->x≠fx r++[n]:=λx a e=>by
   have:=a.length_le
   rw[e]at this;simp at this;omega
  have t:jk A fs { ft with od:=upd ft.od (fx r++[n]) (fh (fs,(0:Int),K<|fx r++[n]).2.2) } K (fx r):=by
   refine⟨λq c=>?_,λq c es u=>?_,λq m c k=>?_,λk=>?_⟩;rw[(zC A fs (ft:=ft) (ft':={ ft with od:=upd ft.od (fx r++[n]) (fh (fs,(0:Int),K<|fx r++[n]).2.2) }) fX (fx q) λx a=>kh (d x (by grind)) _).2];exact b.look q<|uy q c;exact b.own q (uy q c) es<|(kh (f:=ft.od) (d q c) (fh<|K (fx r++[n]))).symm.trans u;have l:=kh (f:=ft.od) (d _ c)<|fh (K<|fx r++[n]);have v:q <+: fx r:=(qD q [m]).trans c;have j:=kh (f:=ft.od) (d _ v)<|fh (K<|fx r++[n]);show(upd ft.od _ _ q).isSome=fm/\_;rw[j];exact b.up q m (uy _ c) (by grind);exact b.root (by rw[<-kh (f:=ft.od) (d []<|by simp)<|fh (K<|fx r++[n])];exact k)
  obtain⟨w,y,o⟩:=zF t;refine⟨w,y,λx=>?_⟩;show upd (rp A fs _ r).od (fx r) _ x=_;rw[o<|fx r,lv<|sQ _];have l:zK K (fx r) (fx r)=K (fx r):=by unfold zK;rw[wA<|lw _]
  rw[l];by_cases a:x=fx r;subst a;rw[upd_same,lv<|qD _ _];have j:zK K (fx r++[n]) (fx r)=mI (K<|fx r) n:=by unfold zK;rw[BX<|lw _];simp
  rw[j];rfl;rw[kh a,o];by_cases h:x <+: fx r;rw[lv h,lv<|uy x h];obtain⟨m,z,_⟩:=nk h a;have C:fv x<fv (fx r):=(wI.1 z).1;unfold zK
  grind
  rw[km h];show upd ft.od _ _ x=_;by_cases B:x=fx r++[n];subst B;rw[upd_same,lv<|sQ _];unfold zK
  grind
  grind [kh,xb]
def gU (A:List Ob)(t:LT)(fs:b6)(p:fQ):Prop:=∀x id,x <+: p->t.at A x=fh (.dir id)->fs.kD id=fm
theorem gU.mono{fs fs':b6}(a:gU A t fs p)(b:∀x,fs.kD x=fm->fs'.kD x=fm):gU A t fs' p:=λx id c d=>b _<|a x id c d
theorem gU.pre(a:gU A t fs p)(b:q <+: p):gU A t fs q:=λx id c d=>a x id (c.trans b) d
theorem Fm(a:kids A c=fh Y)(b:∀id,c=.dir id->fs.kD id=fm):ut A fs c=(fs,0,Y):=by
 cases c with
 |file i=>simp[kids]at a
 |held d=>simp[kids]at a
 |own es=>simp only[kids,pW]at a;subst a;rfl
 |dir id=>
  grind [b6.iw,kids,pW,ut,fT,wd]
theorem yb{n:fO}(a:t.at A (q++[n])=fh c):∃d Y,t.at A q=fh d/\kids A d=fh Y/\jp Y n=fh c:=by
 rw[lx]at a;cases f:t.at A q with
 |none=>rw[f]at a;simp at a
 |some d=>
  rw[f,wy,lh]at a;rcases b:kids A d with _|Y
  rw[b]at a;simp at a;rw[b,wy]at a;cases e:jp Y n with
  |none=>rw[e]at a;simp at a
  |some x=>rw[e,wy,pd]at a;cases a;exact⟨d,Y,fX,b,e⟩
theorem Jl:∀{r:fQ}{c:LT},t.at A (fx r)=fh c->(∀x id,x <+: fx r->x≠fx r->t.at A x=fh (.dir id)->fs.kD id=fm)->ky A t fs r=(fs,0,c)
 |[],c,a,b=>by rw[List.reverse_nil,pd]at a;cases a;rfl
 |n::r,c,a,b=>by
  rw[kL]at a b
  obtain⟨d,Y,g,i,l⟩:=yb a
  have h:∀x,x <+: fx r->x≠fx r++[n]:=λx f e=>by
   have:=f.length_le
   rw[e]at this
   simp at this
   omega
  rw[ky]
  simp only[(Jl g λx id f m j=>b x id (f.trans<|qD _ _) (h x f) j)]
  rw[km<|by decide,Fm i λid k=>b (fx r) id (qD _ _) (h _<|sQ _) (by rw[g,k])]
  grind
theorem Jm{r:fQ}(a:t.at A (fx r)=fh c)(d:kids A c=fh Y)(b:gU A t fs (fx r)):pA A t fs r=(fs,0,Y):=by
 unfold pA;simp only[Jl a λx id e _ f=>b x id e f];rw[km<|by decide];exact Fm d λid g=>b _ id (sQ _) (by rw[a,g])
theorem zG(a:(ut A fs c).2.1=0):kids A c=fh (ut A fs c).2.2/\fs.Next (ut A fs c).1/\∀id,c=.dir id->(ut A fs c).1.kD id=fm:=by
 cases c with
 |file i=>simp[ut]at a
 |held h=>simp[ut]at a
 |own es=>exact⟨fX,b6.Next.refl _,λid b=>by cases b⟩
 |dir id=>
  have e:ut A fs (.dir id)=if(fs.iw id).2 then((fs.iw id).1,0,(fT A id).map wd) else((fs.iw id).1,14,[]):=fX;rw[e]at a |-;rcases fs.zz id with⟨d,f,g⟩|⟨d,_⟩
  rw[lv d];exact⟨fX,f,λj b=>by cases b;exact g⟩
  grind
theorem vJ:∀{r:fQ},(ky A t fs r).2.1=0->t.at A (fx r)=fh (ky A t fs r).2.2/\fs.Next (ky A t fs r).1/\∀x id,x <+: fx r->x≠fx r->t.at A x=fh (.dir id)->(ky A t fs r).1.kD id=fm
 |[],_=>⟨pd _ _,b6.Next.refl _,λx id a d=>absurd (by simpa using a) d⟩
 |n::r,b=>by
  rw[ky]at b |-
  by_cases e:(ky A t fs r).2.1≠0
  grind
  simp only[km e]at b |-
  obtain⟨m,i,j⟩:=vJ<|oP.1 e
  by_cases f:(ut A (ky A t fs r).1 (ky A t fs r).2.2).2.1≠0
  grind
  rw[km f]at b |-
  obtain⟨o,g,p⟩:=zG<|oP.1 f
  rcases h:jp (ut A (ky A t fs r).1 (ky A t fs r).2.2).2.2 n with _|c
  rw[h]at b;simp at b
  rw[h]at b
  simp only
  refine⟨?_,i.trans g,λx id a d k=>?_⟩
  grind [kL,lx,lh,pd]
  rw[kL]at a d
  rcases xb a with a|a
  by_cases l:x=fx r
  grind
  exact g.2.2.2.2 id<|j x id a l k
  grind
theorem qO{r}(a:(pA A t fs r).2.1=0):
  (∃d,t.at A (fx r)=fh d/\kids A d=fh (pA A t fs r).2.2)/\fs.Next (pA A t fs r).1/\gU A t (pA A t fs r).1 (fx r):=by
 unfold pA at a |-;by_cases b:(ky A t fs r).2.1≠0
 grind
 simp only[km b]at a |-;obtain⟨e,f,g⟩:=vJ<|oP.1 b;obtain⟨h,c,l⟩:=zG a;refine⟨⟨_,e,h⟩,f.trans c,λx id i j=>?_⟩;by_cases k:x=fx r
 grind
 exact c.2.2.2.2 id<|g x id i k j
def oQ (A:List Ob)(t:LT)(q:fQ):List fV:=(((t.at A q).bind<|kids A).getD []).map lL
theorem Xd{n:fO}(a:∀e∈es,e.1=n->e.2.2=0):mI es n=es:=by
 unfold mI;conv=>rhs;rw[<-List.map_id es]
 grind [KW]
theorem nJ(d:fP Y){n}(b:jp Y n=fh c){x:fO×LT}(a:x∈Y)(f:x.1=n):x.2=c:=by
 induction Y with
 |nil=>simp at a
 |cons y r e=>
  unfold jp at b;by_cases g:y.1=n;rw[sin (by grind)]at b;rcases oc.1 a with rfl|a
  grind
  have:=(sJ.1 d).1 x a
  grind [jb]
  rw[sle (by grind)]at b;rcases oc.1 a with rfl|a
  grind
  exact e d.tail b a
theorem iy{ft}(v:Sound A)(hF:Flat A t ft){n}(C:fM A n t)(j:t.at A p=fh d)(D:kids A d=fh Y)(E:gU A t fs p):jk A fs ft (oQ A t) p:=by
 have dir:∀q,q <+: p->∃c k,t.at A q=fh c/\kids A c=fh k:=λq g=>by
  obtain⟨s,rfl⟩:=g;rcases s with _|⟨m,s⟩
  rw[lJ]at j;exact⟨d,Y,j,D⟩;rw[show q++m::s=(q++[m])++s by simp,lx]at j;cases l:t.at A (q++[m]) with
  |none=>rw[l]at j;simp at j
  |some y=>obtain⟨c,k,f,a,_⟩:=yb l;exact⟨c,k,f,a⟩
 refine⟨λq g=>?_,λq g es o=>?_,λq m g b=>?_,λb=>?_⟩;obtain⟨c,k,f,a⟩:=dir q g
 have:=Jm (r:=fx q) (by rw[uo];exact f) a (by rw[uo];exact E.pre g)
 grind [nI,oQ]
 have:=hF.od q
 rw[o]at this;unfold oQ;rcases h:t.at A q with _|c
 rw[h]at this;simp[zA]at this;rw[h]at this;cases c with
 |own u=>simp only[zA,pW]at this;rw[this];rfl
 |file i=>simp[zA]at this
 |held F=>simp[zA]at this
 |dir i=>simp[zA]at this
 rw[hF.od]at b;rcases h:t.at A (q++[m])with _|c
 rw[h]at b;simp[zA]at b;rw[h]at b;obtain⟨u,rfl⟩:∃u,c=.own u:=by cases c<;>first|exact⟨_,fX⟩|(simp[zA]at b)
 obtain⟨w,k,f,a,z⟩:=yb h;have G:=(tA v _ C f).2.1;have J:=rX z;obtain⟨B,rfl⟩:∃B,w=.own B:=by
  cases w with
  |own es=>exact⟨es,fX⟩
  |file i=>simp[kids]at a
  |held F=>simp[kids]at a
  |dir i=>
   grind [kids,pW,wd,ltOf]
 simp only[kids,pW]at a;subst a;refine⟨by rw[hF.od,f];rfl,?_⟩;unfold oQ;rw[f];refine Xd λe o H=>?_
 obtain⟨x,l,rfl⟩:=jC.1 o;have I:=(lO v G fX).1
 have:=nJ I z l H
 show x.2.id=0;rw[this];rfl;rw[hF.od,pd]at b;rw[hF.root];cases t<;>first|rfl|(simp[zA]at b)
theorem NC{ft a:FT}{fs:b6}(u:Sound A)(hF:Flat A t ft){n}(E:fM A n t)(k:t.at A q=fh d)(v:kids A d=fh Y)(b:Kids->Kids)
  (F:a.root=0)(G:∀x,¬q <+: x->a.od x=if x <+: q then fh (zK (oQ A t) q x)else ft.od x)(H:∀x,¬q <+: x->a.of x=ft.of x)
  (I:a.od q=fh ((b Y).map lL))(J:a.of q=fj)
  (K:∀m r,a.od (q++m::r)=zA ((jp (b Y) m).bind λc=>c.at A r))(L:∀m r,a.of (q++m::r)=RQ ((jp (b Y) m).bind λc=>c.at A r)):
  Flat A (vy A b q t) a:=by
 obtain⟨M,N⟩:=Cq A b q t d Y k v;have w:∀x,a.od x=zA ((vy A b q t).at A x)/\a.of x=RQ ((vy A b q t).at A x):=by
  intro x;by_cases g:q <+: x;obtain⟨s,rfl⟩:=g;rcases s with _|⟨m,r⟩
  rw[lJ,N,I,J];exact⟨fX,fX⟩;rw[M,K,L];exact⟨fX,fX⟩;rw[G x g,H x g];by_cases i:x <+: q;rw[lv i];obtain⟨m,O,r,P⟩:=nk i λe=>g<|e▸sQ _;have B:q=x++m::r:=by rw[<-P];simp
  have f:=k;rw[B]at f;obtain⟨l,C,j,h,D⟩:=pI A b x m r t d f;rw[<-B]at D;rw[D];have T:l.kind=2:=by cases l<;>first|rfl|(simp[kids]at h)
  refine⟨?_,?_⟩
  congr 1
  unfold zK oQ;rw[O,j,wy,h,jI];show List.map (λe:fV=>if e.1=m then(e.1,e.2.1,(0:Int))else e) (List.map lL C)=_;rw[Ed,Ed];refine KW λy Q=>?_
  show(if y.1=m then(y.1,y.2.kind,(0:Int))else lL y)=lL (if y.1=m then(y.1,vy A b r y.2)else y);by_cases o:y.1=m;rw[lv o,lv o];have R:y.2.kind=2:=by
   rw[lx,j,wy,lh,h,wy]at f;rcases p:jp C m with _|c
   rw[p]at f;simp at f;rw[p,wy]at f;have S:=(tA u _ E j).2.1;rw[nJ (lO u S h).1 p Q o];cases r with
   |nil=>rw[pd]at f;obtain rfl:=rK f;cases c<;>first|rfl|(simp[kids]at v)
   |cons z r=>
    rw[lh]at f;cases c<;>first|rfl|(simp[kids]at f)
  rw[R];cases r<;>rfl
  grind
  rw[hF.of x,j];cases l<;>first|rfl|(simp[kids]at h)
  rw[km i,mb A b q x t d k i g];exact⟨hF.od x,hF.of x⟩
 refine⟨?_,?_,λx=>(w x).1,λx=>(w x).2⟩;cases q<;>rfl;rw[F];cases q<;>rfl
def oy(Y:Kids):Y.map lL=Cp (λx=>(x.2.kind,x.2.id)) Y:=fX
theorem esc{α β:Type}(a:fO×α->β)(es:List (fO×α))(n)(c:α):Cp a (zr es n c)=zr (Cp a es) n (a (n,c)):=by
 grind [zr,Fl,Fk,Cp,List.map_set,List.map_take,List.map_drop]
theorem ita(Y)(n)(c):(zr Y n c).map lL=zr (Y.map lL) n (c.kind,c.id):=by rw[oy,esc,<-oy]
def eta(Y)(n):(rb Y n).map lL=rb (Y.map lL) n:=by rw[oy,Xc,<-oy]
def jc(Y:Kids)(n):kA (Y.map lL) n=kA Y n:=by rw[oy,Fl]
theorem xd(a:fP Y)(n)(c)(m):jp (zr Y n c) m=if m=n then fh c else jp Y m:=NB a m
theorem mg(a:fP Y){n}(b:kA Y n=fm)(m):jp (rb Y n) m=if m=n then fj else jp Y m:=Jj a b m
theorem rh(a:fP Y)(n):(jp Y n).isSome=kA Y n:=by
 grind [RP,nj,kA,uw,jG]
theorem lN(a:t.at A q=fh d)(b:kids A d=fh Y):oQ A t q=Y.map lL:=by
 unfold oQ;rw[a,wy,b];rfl
def xe{n:fO}(a:q++[n] <+: x):q <+: x:=(qD q [n]).trans a
theorem AU{ft b:FT}{fs:b6}(i:Sound A)(hF:Flat A t ft)(j:fM A k t)(f:t.at A q=fh d)(g:kids A d=fh Y)(n:fO)(c:LT)
  (p:b.root=0)(s:∀x,¬(q++[n]) <+: x->b.od x=if x=q then fh (zr (Y.map lL) n (c.kind,c.id))else if x <+: q then fh (zK (oQ A t) q x)else ft.od x)
  (l:∀x,¬(q++[n]) <+: x->b.of x=ft.of x)(u:∀r,b.od (q++n::r)=zA (c.at A r))(v:∀r,b.of (q++n::r)=RQ (c.at A r)):
  Flat A (vy A (λY=>zr Y n c) q t) b:=by
 have o:=(lO i (tA i _ j f).2.1 g).1;have w:¬(q++[n]) <+: q:=λa=>by have:=a.length_le;simp at this;omega
 have y:ft.of q=fj:=by rw[hF.of,f];cases d<;>first|rfl|(simp[kids]at g)
 refine NC i (fs:=fs) hF j f g _ p (λx e=>?_) (λx e=>l x λa=>e<|xe a) ?_ ?_ (λm r=>?_) λm r=>?_
 grind
 grind [ita]
 grind
 rw[xd o];by_cases h:m=n
 grind
 have e:¬(q++[n]) <+: (q++m::r):=λa=>by
  rw[bol,Wv]at a;exact h a.1.symm
 rw[km h,s _ e,km<|by simp,km (λa=>by have:=a.length_le;simp at this;omega),hF.od,lx,f,wy,lh,g,wy];rw[xd o];by_cases h:m=n
 grind
 have e:¬(q++[n]) <+: (q++m::r):=λa=>by
  rw[bol,Wv]at a;exact h a.1.symm
 rw[km h,l _ e,hF.of,lx,f,wy,lh,g,wy]
theorem Jn{ft f:FT}{fs:b6}(i:Sound A)(hF:Flat A t ft)(o:fM A k t)(g:t.at A q=fh d)(h:kids A d=fh Y)(n)(p:kA Y n=fm)
  (v:f.root=0)(j:∀x,¬(q++[n]) <+: x->f.od x=if x=q then fh (rb (Y.map lL) n)else if x <+: q then fh (zK (oQ A t) q x)else ft.od x)
  (l:∀x,¬(q++[n]) <+: x->f.of x=ft.of x)(w:∀r,f.od (q++n::r)=fj)(y:∀r,f.of (q++n::r)=fj):
  Flat A (vy A (λY=>rb Y n) q t) f:=by
 have s:=(lO i (tA i _ o g).2.1 h).1;have u:¬(q++[n]) <+: q:=λa=>by have:=a.length_le;simp at this;omega
 have z:ft.of q=fj:=by rw[hF.of,g];cases d<;>first|rfl|(simp[kids]at h)
 refine NC i (fs:=fs) hF o g h _ v (λx b=>?_) (λx b=>l x λa=>b<|xe a) ?_ ?_ (λm r=>?_) λm r=>?_;rw[j x λa=>b<|xe a,km (λe:x=q=>b (by rw[e];exact sQ _))];rw[j q u,lv fX,eta];rw[l q u,z];rw[mg s p];by_cases c:m=n;subst c;rw[lv fX];exact w r;have b:¬(q++[n]) <+: (q++m::r):=λa=>by
  rw[bol,Wv]at a;exact c a.1.symm
 rw[km c,j _ b,km<|by simp,km (λa=>by have:=a.length_le;simp at this;omega),hF.od,lx,g,wy,lh,h,wy];rw[mg s p];by_cases c:m=n;subst c;rw[lv fX];exact y r;have b:¬(q++[n]) <+: (q++m::r):=λa=>by
  rw[bol,Wv]at a;exact c a.1.symm
 rw[km c,l _ b,hF.of,lx,g,wy,lh,h,wy]
def ND{α:Type}{es:List (fO×α)}{n}{c:α}{x:fO×α}(a:x∈zr es n c):x=(n,c)\/x∈es:=by
 unfold zr at a;split at a;rcases List.mem_or_eq_of_mem_set a with a|a
 exact .inr a;exact .inl a;rcases qJ.1 a with a|a
 exact .inr<|Aw a;rcases oc.1 a with a|a
 exact .inl a;exact .inr<|Ws a
def Jo{α:Type}{es:List (fO×α)}{n}{x:fO×α}(a:x∈rb es n):x∈es:=List.mem_of_mem_eraseIdx a
theorem zH{n:Nat}{es}(a:fP es)(b:fv es<=16)(c:∀x∈es,fN x.1=fm/\∃m,n=m+1/\fM A m x.2):fM A n (.own es):=by
 cases n with
 |zero=>
  rw[fM];rcases es with _|⟨x,r⟩
  all_goals grind [oN]
 |succ k=>
  all_goals grind [fM]
theorem RS(a:fP Y)(n:ByteArray)(g:LT->LT):fP (Y.map λx=>if x.1=n then(x.1,g x.2)else x):=by
 grind [fP,ByteArray]
theorem RT(f:Sound A)(e:Kids->Kids):∀(q:fQ){n:Nat}{t d:LT}{Y:Kids},fM A n t->t.at A q=fh d->kids A d=fh Y->fM A (n-fv q) (.own<|e Y)->fM A n (vy A e q t)
 |[],n,t,d,Y,g,a,h,r=>by
  grind [pd,vy]
 |m::q,n,t,d,Y,g,a,h,r=>by
  rw[lh]at a
  cases b:kids A t with
  |none=>rw[b]at a;simp at a
  |some es=>
   rw[b,wy]at a
   rcases i:jp es m with _|c
   grind
   rw[i,wy]at a
   have⟨k,z,s⟩:=lO f g b
   rw[vy,b,jI]
   refine zH (RS k m _) (by grind) λx u=>?_
   obtain⟨y,l,rfl⟩:=jC.1 u
   obtain⟨v,j,rfl,o⟩:=s y l
   by_cases p:y.1=m
   rw[lv p]
   refine⟨v,j,fX,?_⟩
   have w:=nJ k i l p
   rw[w]at o |-
   exact RT f e q o a h (by grind)
   grind
theorem NF(a:Kids->Kids)(f:t.at A q=fh d)(h:kids A d=fh Y){b:Nat}(i:(vy A a q t).at A x=fh (.held b)):
  (∃m r,x=q++m::r/\((jp (a Y) m).bind λc=>c.at A r)=fh (.held b))\/(¬q <+: x/\t.at A x=fh (.held b)):=by
 obtain⟨n,o⟩:=Cq A a q t d Y f h;by_cases g:q <+: x
 ·obtain⟨s,rfl⟩:=g
  rcases s with _|⟨m,r⟩
  all_goals grind
 refine .inr ⟨g,?_⟩;by_cases j:x <+: q
 ·obtain⟨m,p,r,k⟩:=nk j (λe=>g<|e▸sQ _)
  have l:q=x++m::r:=by rw[<-k];simp
  rw[l]at f i;obtain⟨u,v,w,y,z⟩:=pI A a x m r t d f
  all_goals grind
 all_goals grind [mb]
def qB (A:List Ob)(fs:b6)(ft:FT)(q:fQ)(n:fO)(v:Int×Int):FT:=
 let a:=rp A fs ft<|fx q
 let es:=(a.od q).getD []
 if kA es n then { root:=a.root,od:=upd (upd a.od q<|fh (zr es n v)) (q++[n]) fj,of:=upd a.of (q++[n]) fj }
 else { a with od:=upd a.od q (fh<|zr es n v) }
def oz (A:List Ob)(fs:b6)(ft:FT)(q:fQ)(n:fO):FT:=
 let a:=rp A fs ft (fx q)
 { a with od:=upd a.od q (fh<|rb ((a.od q).getD []) n) }
def AV (ft:FT)(p:fQ):FT:={ ft with od:=upd ft.od p fj,of:=upd ft.of p fj }
def PQ {β:Type}(a:fQ->Option β)(src E:fQ):fQ->Option β:=λx=>if E <+: x then a (src++x.drop (fv E))else if src <+: x then fj else a x
def thn (ft:FT)(src E:fQ):FT:={ ft with od:=PQ ft.od src E,of:=PQ ft.of src E }
theorem itb(q:fQ)(n:fO):q++[n]≠q:=λe=>by have:=congrArg List.length e;simp at this
theorem rY{ft}{K:fQ->List fV}(b:jk A fs ft K q):
  (rp A fs ft<|fx q).root=0/\(rp A fs ft<|fx q).of=ft.of/\(rp A fs ft<|fx q).od q=fh (K q)/\∀x,x≠q->(rp A fs ft (fx q)).od x=if x <+: q then fh (zK K q x)else ft.od x:=by
 obtain⟨c,d,a⟩:=zF (r:=fx q) (by rw[uo];exact b);rw[uo]at a;refine⟨c,d,?_,λx _=>a x⟩;rw[a,lv<|sQ _];unfold zK
 grind
theorem yc{ft}{K:fQ->List fV}(b:jk A fs ft K q)(n)(v:Int×Int):
  (qB A fs ft q n v).root=0/\(∀x,x≠q++[n]->(qB A fs ft q n v).od x=if x=q then fh (zr (K q) n v)else if x <+: q then fh (zK K q x)else ft.od x)/\(∀x,x≠q++[n]->(qB A fs ft q n v).of x=ft.of x)/\
  (qB A fs ft q n v).od (q++[n])=(if kA (K q) n then fj else ft.od (q++[n]))/\(qB A fs ft q n v).of (q++[n])=(if kA (K q) n then fj else ft.of (q++[n])):=by
 obtain⟨e,f,c,g⟩:=rY b;have h:¬(q++[n]) <+: q:=λd=>by have:=d.length_le;simp at this;omega
 unfold qB;simp only[c,jI];by_cases a:kA (K q) n=fm;rw[lv a,lv a,lv a]
 grind [upd_same,upd,kh]
 rw[km a,km a,km a]
 grind [rp,upd,upd_same,kh,itb]
theorem zI{ft}{K:fQ->List fV}(a:jk A fs ft K q)(n):
  (oz A fs ft q n).root=0/\(∀x,(oz A fs ft q n).od x=if x=q then fh (rb (K q) n)else if x <+: q then fh (zK K q x)else ft.od x)/\(oz A fs ft q n).of=ft.of:=by
 obtain⟨b,_⟩:=rY a;unfold oz
 grind [upd_same,kh]
theorem jk.congr{ft c:FT}{K:fQ->List fV}(b:jk A fs ft K q)(d:c.root=ft.root)(e:∀x,x <+: q->c.od x=ft.od x):jk A fs c K q:=by
 refine⟨λx a=>?_,λx a es g=>b.own x a es (by grind),λx m a f=>?_,λf=>?_⟩;rw[(zC A fs d (fx x) λy h=>e y (by grind)).2];exact b.look x a;rw[e x<|(qD x [m]).trans a];exact b.up x m a (by grind);rw[d];exact b.root (by grind)
section
variable {ft:FT}
def nK(hF:Flat A t ft)(a:t.at A q=fh d)(b:kids A d=fh Y)(c:jp Y n=fj)(r:fQ):ft.od (q++n::r)=fj/\ft.of (q++n::r)=fj:=by
 have:t.at A (q++n::r)=fj:=by rw[lx,a,wy,lh,b,wy,c];rfl
 rw[hF.od,hF.of,this];exact⟨fX,fX⟩
theorem pJ(b:t.at A p=fh c)(d:kids A c=fj\/kids A c=fh [])(m:fO)(r:fQ):t.at A (p++m::r)=fj:=by
 rw[lx,b,wy,lh];rcases d with a|a
 rw[a];rfl;rw[a];rfl
theorem RU(c:Sound A)(hF:Flat A t ft)(g:fM A k t)(a:t.at A q=fh d)(b:kids A d=fh Y)(p:gU A t fs q)(f:jp Y n=fj):
  Flat A (vy A (λY=>zr Y n<|.own []) q t) { qB A fs ft q n (2,0)with od:=upd (qB A fs ft q n (2,0)).od (q++[n]) (fh []) }:=by
 have W:=iy c hF g a b p;have s:=(lO c (tA c _ g a).2.1 b).1;have u:kA (oQ A t q) n=fo:=by rw[lN a b,jc,<-rh s,f];rfl
 obtain⟨v,h,w,z,i⟩:=yc W n (2,0);rw[u,km<|by decide]at i;refine AU c (fs:=fs) hF g a b n (.own []) v (λx j=>?_) (λx j=>?_) (λr=>?_) λr=>?_;have l:x≠q++[n]:=λe=>j<|e▸sQ _;show upd _ _ _ x=_;rw[kh l,h x l,lN a b];rfl
 grind
 show upd _ _ _ _=_;rcases r with _|⟨m,r⟩
 rw[upd_same,pd];rfl;have o:q++n::m::r≠q++[n]:=by simp
 rw[kh o,h _ o,km<|by simp,km (λy=>by have:=y.length_le;simp at this;omega),(nK hF a b f _).1,lh];rfl;rcases r with _|⟨m,r⟩
 rw[i,(nK hF a b f []).2,pd];rfl;rw[w _<|by simp,(nK hF a b f _).2,lh];rfl
theorem NG(c:Sound A)(hF:Flat A t ft)(g:fM A k t)(a:t.at A q=fh d)(b:kids A d=fh Y)(o:gU A t fs q)(f:jp Y n=fj)(h):
  Flat A (vy A (λY=>zr Y n<|.held h) q t) { qB A fs ft q n (1,0)with of:=upd (qB A fs ft q n (1,0)).of (q++[n]) (fh h) }:=by
 have W:=iy c hF g a b o;have p:kA (oQ A t q) n=fo:=by rw[lN a b,jc,<-rh ((lO c (tA c _ g a).2.1 b).1),f];rfl
 obtain⟨s,i,u,j,z⟩:=yc W n (1,0);rw[p,km<|by decide]at j;refine AU c (fs:=fs) hF g a b n (.held h) s (λx l=>?_) (λx l=>?_) (λr=>?_) λr=>?_;have v:x≠q++[n]:=λe=>l<|e▸sQ _;rw[i x v,lN a b];rfl
 grind [upd,sQ,kh]
 rcases r with _|⟨m,r⟩
 rw[j,(nK hF a b f []).1,pd];rfl;have w:q++n::m::r≠q++[n]:=by simp
 rw[i _ w,km<|by simp,km (λy=>by have:=y.length_le;simp at this;omega),(nK hF a b f _).1,lh];rfl;show upd _ _ _ _=_;rcases r with _|⟨m,r⟩
 rw[upd_same,pd];rfl;rw[kh<|by simp,u _<|by simp,(nK hF a b f _).2,lh];rfl
theorem Xe(h:Sound A)(hF:Flat A t ft)(i:fM A k t)(a:t.at A q=fh d)(b:kids A d=fh Y)(l:gU A t fs q)(o:jp Y n=fh (.file id))(c):
  Flat A (vy A (λY=>zr Y n<|.held c) q t) { rp A fs ft (fx q) with od:=upd (rp A fs ft<|fx q).od q<|fh (zr (((rp A fs ft<|fx q).od q).getD []) n (1,0)),of:=upd (rp A fs ft<|fx q).of (q++[n]) (fh c) }:=by
 have W:=iy h hF i a b l;obtain⟨p,s,u,v⟩:=rY W;have f:t.at A (q++[n])=fh (.file id):=by rw[lx,a,wy,lh,b,wy,o,wy,pd]
 have z:¬(q++[n]) <+: q:=λg=>by have:=g.length_le;simp at this;omega
 refine AU h (fs:=fs) hF i a b n (.held c) p (λx w=>?_) (λx w=>?_) (λr=>?_) λr=>?_;show upd _ _ _ x=_;by_cases y:x=q;subst y;rw[upd_same,lv fX,u,jI,lN a b];rfl
 grind [kh]
 grind [upd,kh,sQ]
 show upd _ _ _ _=_;have j:q++n::r≠q:=λe=>by have:=congrArg List.length e;simp at this
 rw[kh j,v _ j,km (λg=>by have:=g.length_le;simp at this;omega),hF.od];rcases r with _|⟨m,r⟩
 rw[f,pd];rfl;rw[show q++n::m::r=(q++[n])++m::r by simp,pJ f<|.inl fX,lh];rfl;show upd _ _ _ _=_;rcases r with _|⟨m,r⟩
 rw[upd_same,pd];rfl;rw[kh<|by simp,s,hF.of,show q++n::m::r=(q++[n])++m::r by simp,pJ f<|.inl fX,lh];rfl
theorem NH(a:Sound A)(hF:Flat A t ft)(f:fM A k t)(b:t.at A q=fh d)(e:kids A d=fh Y)(j:gU A t fs q)(g:jp Y n=fh c)(h:kids A c=fj\/kids A c=fh []):
  Flat A (vy A (λY=>rb Y n) q t) (AV (oz A fs ft q n)<|q++[n]):=by
 have W:=iy a hF f b e j;have l:=(lO a (tA a _ f b).2.1 e).1;have o:kA Y n=fm:=by rw[<-rh l,g];rfl
 obtain⟨p,s,u⟩:=zI W n;have i:t.at A (q++[n])=fh c:=by rw[lx,b,wy,lh,e,wy,g,wy,pd]
 refine Jn a (fs:=fs) hF f b e n o p (λx v=>?_) (λx v=>?_) (λr=>?_) λr=>?_;show upd _ _ _ x=_
 grind [kh,sQ,lN]
 show upd _ _ _ x=_
 grind [kh,sQ]
 show upd _ _ _ _=_;rcases r with _|⟨m,r⟩
 rw[upd_same];rw[kh<|by simp,s,km<|by simp,km (λw=>by have:=w.length_le;simp at this;omega),hF.od,show q++n::m::r=(q++[n])++m::r by simp,pJ i h];rfl;show upd _ _ _ _=_;rcases r with _|⟨m,r⟩
 rw[upd_same];rw[kh<|by simp,u,hF.of,show q++n::m::r=(q++[n])++m::r by simp,pJ i h];rfl
end
theorem Fo(j:fP kf)(a:t.at A qf=fh df)(g:kids A df=fh kf)(k:kA kf N=fm)(b:t.at A qt=fh dt)(h:kids A dt=fh kt)(l:¬(qf++[N]) <+: qt):
  ∃d1 n,(vy A (λY=>rb Y N) qf t).at A qt=fh d1/\kids A d1=fh n/\∀id,d1=.dir id->dt=.dir id:=by
 have⟨o,p⟩:=Cq A (λY=>rb Y N) qf t df kf a g;by_cases c:qf <+: qt;obtain⟨s,rfl⟩:=c;rcases s with _|⟨m,r⟩
 rw[lJ]at b |-;exact⟨_,_,p,fX,λid e=>by cases e⟩;have i:m≠N:=λe=>l (by rw[e];exact⟨r,by simp⟩)
 rw[o,mg j k,km i];rw[lx,a,wy,lh,g,wy]at b;exact⟨dt,kt,b,h,λid e=>e⟩;by_cases d:qt <+: qf;have⟨m,i,r,f⟩:=nk d λe=>c<|e▸sQ _;have f:qf=qt++m::r:=by rw[<-f];simp
 rw[f]at a |-;have⟨u,v,w,d,q⟩:=pI A (λY=>rb Y N) qt m r t df a;exact⟨_,_,q,fX,λid e=>by cases e⟩;rw[mb A _ qf qt t df a d c];exact⟨dt,kt,b,h,λid e=>e⟩
theorem NI(i:fP kf)(b:t.at A qf=fh df)(h:kids A df=fh kf)(j:kA kf N=fm)(a:(vy A (λY=>rb Y N) qf t).at A x=fh (.dir id)):t.at A x=fh (.dir id):=by
 have⟨k,l⟩:=Cq A (λY=>rb Y N) qf t df kf b h;by_cases c:qf <+: x;obtain⟨s,rfl⟩:=c;rcases s with _|⟨m,r⟩
 rw[lJ,l]at a;cases a;rw[k,mg i j]at a;by_cases d:m=N;rw[lv d]at a;cases a;rw[km d]at a;rw[lx,b,wy,lh,h,wy];exact a;by_cases f:x <+: qf;have⟨m,d,r,g⟩:=nk f λe=>c<|e▸sQ _;have g:qf=x++m::r:=by rw[<-g];simp
 rw[g]at b a;have⟨o,p,q,f,n⟩:=pI A (λY=>rb Y N) x m r t df b;rw[n]at a;cases a;rwa [mb A _ qf x t df b f c]at a
theorem AW(a:Sound A)(b:fM A k t)(c:t.at A q=fh d)(e:kids A d=fh Y)(n):fM A k (vy A (λY=>rb Y n) q t):=by
 have⟨f,g,h⟩:=lO a (tA a _ b c).2.1 e;refine RT a _ q b c e (zH ?_ ?_ λx i=>h x<|Jo i);exact List.Pairwise.sublist (List.eraseIdx_sublist _ _) f;exact ww (List.length_eraseIdx_le _ _) g
def tid (ft:FT)(p:fQ):FT:=⟨ft.root,λx=>if p <+: x then fj else ft.od x,λx=>if p <+: x then fj else ft.of x⟩
theorem Et(ft)(p x):(tid ft p).od x=if p <+: x then fj else ft.od x:=fX
theorem Ls(ft)(p x):(tid ft p).of x=if p <+: x then fj else ft.of x:=fX
theorem NJ{ft}(d:Sound A)(hF:Flat A t ft)(i:fM A k t)
  (f:t.at A qf=fh df)(g:kids A df=fh kf)(q:jp kf N=fh c)(C:t.at A qt=fh dt)(D:kids A dt=fh kt)(E:gU A t fs qf)(hwt:gU A t fs qt)
  (s:¬(qf++[N]) <+: (qt++[h]))(Q:¬(qt++[h]) <+: (qf++[N])):
  ∃d1 l,(vy A (λY=>rb Y N) qf t).at A qt=fh d1/\kids A d1=fh l/\
   Flat A (vy A (λY=>zr Y h c) qt<|vy A (λY=>rb Y N) qf t) (thn (qB A fs (oz A fs ft qf N) qt h (c.kind,c.id)) (qf++[N])<|qt++[h])/\jk A fs (oz A fs ft qf N) (oQ A<|vy A (λY=>rb Y N) qf t) qt:=by
 have m:=(lO d (tA d _ i f).2.1 g).1;have n:kA kf N=fm:=by rw[<-rh m,q];rfl
 have j:¬(qf++[N]) <+: qt:=λb=>s<|b.trans (qD _ _);have u:=AW d i f g N;have⟨d1,l,o,p,R⟩:=Fo m f g n C D j;have F:=iy d hF i f g E;have⟨t1,t2,t3⟩:=zI F N;have v:∀r,t.at A (qf++N::r)=c.at A r:=λr=>by rw[lx,f,wy,lh,g,wy,q,wy]
 -- the maps without what hangs below 'from'
 have w:Flat A (vy A (λY=>rb Y N) qf t) (tid (oz A fs ft qf N)<|qf++[N]):=by
  refine Jn d (fs:=fs) hF i f g N n t1 (λx a=>?_) (λx a=>?_) (λr=>?_) λr=>?_
  grind [Et,lN]
  grind [Ls]
  rw[Et,lv ⟨r,by simp⟩];rw[Ls,lv ⟨r,by simp⟩]
 have G:gU A (vy A (λY=>rb Y N) qf t) fs qt:=λx id a b=>hwt x id a<|NI m f g n b;have H:=iy d w u o p G;have uy:∀x,x <+: qt->¬(qf++[N]) <+: x:=λx a b=>j<|b.trans a;have y:jk A fs (oz A fs ft qf N) (oQ A<|vy A (λY=>rb Y N) qf t) qt:=H.congr fX (λx a=>by rw[Et,km<|uy x a]);have⟨I,J,K,S,T⟩:=yc y h (c.kind,c.id);refine⟨d1,l,o,p,?_,y⟩;have z:∀r,(qf++N::r)≠qt++[h]:=λr e=>s (by rw[<-e];exact⟨r,by simp⟩);have L:∀r,(qf++N::r)≠qt:=λr e=>j (by grind);have M:∀r,¬(qf++N::r) <+: qt:=λr b=>j (List.IsPrefix.trans ⟨r,by simp⟩ b);have hsf:∀r,(qf++N::r)≠qf:=λr e=>by have:=congrArg List.length e;simp at this
 have O:∀r,¬(qf++N::r) <+: qf:=λr b=>by have:=b.length_le;simp at this;omega
 have B:∀r,(qt++h::r).drop (fv<|qt++[h])=r:=λr=>by rw[show qt++h::r=(qt++[h])++r by simp,yQ]
 refine AU d (fs:=fs) w u o p h c I (λx a=>?_) (λx a=>?_) (λr=>?_) λr=>?_;have P:x≠qt++[h]:=λe=>a<|e▸sQ _;show PQ _ _ _ x=_
 grind [PQ,Et,lN]
 have P:x≠qt++[h]:=λe=>a<|e▸sQ _;show PQ _ _ _ x=_
 grind [PQ,Ls]
 show PQ _ _ _ _=_;unfold PQ;rw[lv ⟨r,by simp⟩,B,show(qf++[N])++r=qf++N::r by simp,J _<|z r,km<|L r,km<|M r,t2,km<|hsf r,km<|O r,hF.od,v];show PQ _ _ _ _=_;unfold PQ;rw[lv ⟨r,by simp⟩,B,show(qf++[N])++r=qf++N::r by simp,K _<|z r,t3,hF.of,v]
def kO (A:List Ob):Nat->LT->Int
 |_,.file id=>gp A id
 |_,.held _=>0
 |_,.dir id=>gp A id
 |0,.own _=>0
 |n+1,.own es=>es.foldl (λa x=>max a<|1+kO A n x.2) 0
theorem iq{α:Type}(b:α->Int):∀(l:List α)(a m:Int),l.foldl (λc x=>max c<|1+b x) a<=m↔a<=m/\∀x∈l,1+b x<=m
 |[],a,m=>by simp
 |y::r,a,m=>by
  rw[HV,iq b r]
  grind
theorem exp(b:Sound A):∀(n:Nat){c:LT}{m:Nat},fM A n c->kO A n c<=m->fM A m c
 |n,.file id,m,a,_=>by
  grind [fJ,fM]
 |n,.held f,m,_,_=>by cases m<;>simp[fM]
 |n,.dir id,m,a,d=>by
  grind [fJ,fM,gp,kO]
 |0,.own es,m,a,_=>by
  rw[fM]at a
  subst a
  exact zH List.Pairwise.nil (by simp)<|by simp
 |n+1,.own es,m,a,d=>by
  rw[fM]at a
  rw[kO,iq]at d
  refine zH a.1 a.2.1 λx e=>?_
  have o:=d.2 x e
  have⟨g,h⟩:=a.2.2 x e
  have p:0<=kO A n x.2:=by
   cases n with
   |zero=>cases k:x.2<;>simp[kO]<;>exact b.1 _
   |succ j=>
    cases k:x.2 with
    |file i=>simp[kO];exact b.1 _
    |held f=>simp[kO]
    |dir i=>simp[kO];exact b.1 _
    |own l=>
     rw[kO];exact((iq (λx=>kO A j x.2) l 0 _).1<|wE _).1
  refine⟨g,m-1,by omega,exp b n h<|by omega⟩
theorem np(b:fJ a id≠0):1<=id/\(id-1).toNat<fv a:=by
 unfold fJ at b;by_cases c:1<=id;rw[lv c]at b;refine⟨c,?_⟩;by_cases d:(id-1).toNat<fv a;exact d;rw[wA<|by omega]at b;exact absurd fX b;omega
theorem jR(l:List Ob)(b:fJ a id≠0):fJ (a++l) id=fJ a id:=by
 have⟨c,d⟩:=np b
 grind [fJ,wz]
theorem nr(l:List Ob)(b:fJ a id≠0):gp (a++l) id=gp a id:=by
 have⟨c,d⟩:=np b
 grind [gp,wz]
theorem pK(l:List Ob)(b:fJ a id≠0):fT (a++l) id=fT a id:=by
 have⟨c,d⟩:=np b
 grind [fT,wz]
theorem tj(l:List Ob)(b:fJ a id≠0):bytesOf (a++l) id=bytesOf a id:=by
 have⟨c,d⟩:=np b
 grind [bytesOf,wz]
theorem Lt(a:List Ob)(o:Ob):fJ (a++[o]) ((fv a:Int)+1)=o.kind/\gp (a++[o]) ((fv a:Int)+1)=o.high/\fT (a++[o]) ((fv a:Int)+1)=o.gh/\bytesOf (a++[o]) ((fv a:Int)+1)=o.data:=by
 grind [Int,fJ,gp,fT,bytesOf]
theorem Xf(b:fJ (a++[o]) id≠0):fJ a id≠0\/id=(fv a:Int)+1\/((id-1).toNat<fv a/\fJ a id=0/\1<=id):=by
 have⟨c,d⟩:=np b
 grind
structure Exact (a:List Ob):Prop where
 sound:Sound a
 kinds:∀o∈a,o.kind=1\/o.kind=2
 low:∀id,fJ a id=1->gp a id=0
 high:∀id,fJ a id=2->gp a id=gy a (fT a id)
theorem Fp(d:∀o∈a,o.kind=1\/o.kind=2)(b:1<=id)(c:(id-1).toNat<fv a):fJ a id=1\/fJ a id=2:=by
 unfold fJ;rw[lv b,jG c]
 grind
structure yX (a:List Ob)(o:Ob):Prop where
 or:(o.kind=1/\o.high=0/\o.data.size<=256/\fileAt a o.data=none)\/
  (o.kind=2/\o.high=gy a o.gh/\gy a o.gh<=5/\fP o.gh/\o.gh.length<=16/\(∀e∈o.gh,fN e.1=true/\(e.2.1=1\/e.2.1=2)/\fJ a e.2.2=e.2.1)/\gG a o.gh=none)
theorem Jp(l:List Ob)(d:∀e∈es,fJ a e.2.2≠0):gy (a++l) es=gy a es:=by
 unfold gy;have f:∀(c:List fV)(b:Int),(∀e∈c,fJ a e.2.2≠0)->c.foldl (λd e=>max d<|1+gp (a++l) e.2.2) b=c.foldl (λd e=>max d<|1+gp a e.2.2) b:=by
  intro c
  induction c with
  |nil=>intro b _;rfl
  |cons x r g=>
   grind [nr]
 grind
theorem uz{m:Int}:gy a es<=m↔0<=m/\∀e∈es,1+gp a e.2.2<=m:=iq (λe:fV=>gp a e.2.2) es 0 m
def Lu(a)(es:List fV):0<=gy a es:=(uz.1<|wE _).1
def ne0{k:Int}(a:k=1\/k=2):k≠0:=by omega
theorem Exact.snoc(c:Exact a)(d:yX a o):Exact (a++[o]):=by
 obtain⟨i,j,m,y⟩:=Lt a o;have l:∀id,fJ (a++[o]) id≠0->fJ a id≠0\/id=(fv a:Int)+1:=by
  intro id hid;rcases Xf hid with b|b|⟨b,g,r⟩
  exact .inl b;exact .inr b;rcases Fp c.kinds r b with k|k<;>(rw[k]at g;cases g)
 have s:∀id,fJ a id=2->∀e∈fT a id,fJ a e.2.2≠0:=by
  intro id hid e h;obtain⟨_,z,t,_⟩:=(c.sound.2 id hid).2.2 e h
  all_goals omega
 have n:o.kind=2->∀e∈o.gh,fJ a e.2.2≠0:=by
  intro t e h;rcases d.or with⟨k,_⟩|⟨_,_,_,_,_,q,_⟩
  all_goals grind
 refine⟨⟨?_,?_⟩,?_,?_,?_⟩
 ·intro id
  unfold gp;by_cases b:(id-1).toNat<fv a;rw[wz b];exact c.sound.1 id;by_cases g:(id-1).toNat=fv a
  ·rw[g]
   simp only[BX<|lw _,EK,sev,qA,jI];rcases d.or with⟨_,k,_⟩|⟨_,k,_⟩
   ·all_goals omega
   rw[k];exact Lu _ _
  rw[wA (by simp;omega)];exact wE _
 ·intro id hid
  rcases l id (by omega)with b|b
  ·rw[jR _ b]at hid
   obtain⟨A,B,C⟩:=c.sound.2 id hid
   all_goals grind [pK,fJ,jR,nr]
  subst b;rw[i]at hid;rw[m,j];rcases d.or with⟨k,_⟩|⟨_,u,D,v,w,E,_⟩
  ·all_goals omega
  refine⟨v,w,λe h=>?_⟩;have p:=n hid e h;rw[jR _ p,nr _ p,u]
  all_goals grind [uz,gy]
 ·intro x f
  rcases qJ.1 f with f|f
  exact c.kinds x f;rw[om.1 f];rcases d.or with⟨k,_⟩|⟨k,_⟩
  all_goals omega
 ·intro id hid
  rcases l id (by omega)with b|b
  rw[jR _ b]at hid;rw[nr _ b];exact c.low id hid;subst b;rw[i]at hid;rw[j];rcases d.or with⟨_,k,_⟩|⟨k,_⟩
  all_goals omega
 intro id hid;rcases l id (by omega)with b|b
 rw[jR _ b]at hid;rw[nr _ b,pK _ b,Jp _<|s id hid];exact c.high id hid;subst b;rw[i]at hid;rw[j,m,Jp _<|n hid];rcases d.or with⟨k,_⟩|⟨_,k,_⟩
 all_goals omega
inductive gK (a:List Ob):List Ob->Prop
 |nil:gK a a
 |snoc {b:List Ob} {o:Ob}:gK a b->yX b o->gK a (b++[o])
theorem gK.trans{a b c}(d:gK a b)(k:gK b c):gK a c:=by
 induction k with
 |nil=>exact d
 |snoc _ e f=>exact .snoc f e
theorem gK.app(c:gK a b):∃l,b=a++l:=by
 induction c with
 |nil=>exact⟨[],by simp⟩
 |snoc _ _ d=>obtain⟨l,rfl⟩:=d;exact⟨_,sP _ _ _⟩
theorem gK.exact(c:gK a b)(d:Exact a):Exact b:=by
 induction c with
 |nil=>exact d
 |snoc _ e f=>exact f.snoc e
def Lv (es:List fV)(a:Int):Ob:={ kind:=2,data:=ByteArray.empty,ea:=fj,el:=0,ec:=0,gh:=es,high:=a }
def kg (a:List Ob)(d:fO):Int×List Ob:=match fileAt a d with
 |some i=>((i:Int)+1,a)
 |none=>((fv a:Int)+1,a++[xp d])
def kC (a:List Ob)(es:List fV):Int×List Ob:=match gG a es with
 |some i=>((i:Int)+1,a)
 |none=>((fv a:Int)+1,a++[Lv es<|gy a es])
theorem RV{d}(b:fileAt a d=fh i):∃U:i<fv a,a[i].kind=1/\a[i].data=d:=by
 grind [fileAt,yM]
theorem Jq(b:gG a es=fh i):∃U:i<fv a,a[i].kind=2/\a[i].gh=es:=by
 grind [gG,yM]
theorem AX(h:Exact a){d:fO}(c:d.size<=256):gK a (kg a d).2/\fJ (kg a d).2 (kg a d).1=1/\bytesOf (kg a d).2 (kg a d).1=d/\(kg a d).2.length<=fv a+1:=by
 unfold kg;cases b:fileAt a d with
 |some i=>
  have⟨U,e,j⟩:=RV b;refine⟨.nil,by show fJ a ((i:Int)+1)=1;rw[xa U,e],?_,by show fv a<=fv a+1;omega⟩
  grind [bytesOf,Int,jG]
 |none=>
  have⟨f,k,l,g⟩:=Lt a<|xp d;exact⟨.snoc .nil ⟨.inl ⟨fX,fX,c,b⟩⟩,f,g,by simp⟩
theorem Eu(f:Exact a)(g:gy a es<=5)(h:fP es)(j:fv es<=16)(k:∀e∈es,fN e.1=fm/\(e.2.1=1\/e.2.1=2)/\fJ a e.2.2=e.2.1):
  gK a (kC a es).2/\fJ (kC a es).2 (kC a es).1=2/\fT (kC a es).2 (kC a es).1=es/\gp (kC a es).2 (kC a es).1=gy a es/\(kC a es).2.length<=fv a+1:=by
 unfold kC;cases b:gG a es with
 |some i=>
  have⟨U,l,p⟩:=Jq b;have c:fJ a ((i:Int)+1)=2:=by rw[xa U,l]
  have d:fT a ((i:Int)+1)=es:=by
   grind [fT,Int,jG]
  refine⟨.nil,c,d,?_,by show fv a<=fv a+1;omega⟩;rw[f.high _ c,d]
 |none=>
  have⟨m,n,o,q⟩:=Lt a<|Lv es (gy a es);exact⟨.snoc .nil ⟨.inr ⟨fX,fX,g,h,j,k,b⟩⟩,m,o,n,by simp⟩
def kI (x:Option (Int×fO))(a:List Ob):Int×List Ob:=match x with
 |none=>kg a ⟨#[]⟩
 |some (id,d)=>if id≠0 then(id,a)else kg a d
def mn (fl:Nat->Option (Int×fO)):Nat->LT->List Ob->Int×List Ob
 |_,.file id,a=>(id,a)
 |_,.dir id,a=>(id,a)
 |_,.held b,a=>kI (fl b) a
 |0,.own _,a=>kC a []
 |n+1,.own es,a=>
  let r:=es.foldl (λ(q:List fV×List Ob)x=>(q.1++[(x.1,x.2.kind,(mn fl n x.2 q.2).1)],(mn fl n x.2 q.2).2)) ([],a)
  kC r.2 r.1
def lj (fl:Nat->Option (Int×fO))(n:Nat)(es:Kids)(a:List Ob):List fV×List Ob:=
 es.foldl (λ(q:List fV×List Ob)x=>(q.1++[(x.1,x.2.kind,(mn fl n x.2 q.2).1)],(mn fl n x.2 q.2).2)) ([],a)
def uA(b)(n:Nat)(es:Kids)(a:List Ob):mn b (n+1) (.own es) a=kC (lj b n es a).2 (lj b n es a).1:=by rw[mn];rfl
theorem kP(fl)(n)(es:Kids)(x:fO×LT)(a:List Ob):lj fl n (es++[x]) a=((lj fl n es a).1++[(x.1,x.2.kind,(mn fl n x.2 (lj fl n es a).2).1)],(mn fl n x.2 (lj fl n es a).2).2):=by
 grind [lj]
theorem jl(l:List Ob):∀(n:Nat)(t:LT),fM a n t->fM (a++l) n t
 |n,.file id,b=>by
  grind [fM,jR,decide]
 |n,.held d,b=>by rw[fM];trivial
 |n,.dir id,b=>by
  grind [fM,fJ,decide,jR,nr]
 |0,.own es,b=>by rw[fM]at b |-;exact b
 |n+1,.own es,b=>by
  rw[fM]at b |-
  exact⟨b.1,b.2.1,λx c=>⟨(b.2.2 x c).1,jl l n x.2 (b.2.2 x c).2⟩⟩
def og (a:List Ob)(fl:Nat->Option (Int×fO)):Prop:=∀b id d,fl b=fh (id,d)->(id≠0->fJ a id=1)/\(id=0->d.size<=256)
theorem og.app{fl}(b:og a fl)(l:List Ob):og (a++l) fl:=λc id d e=>⟨λg=>by
 have f:=(b c id d e).1 g
 rw[jR l (by rw[f];decide)];exact f,(b c id d e).2⟩
def jd:Nat->LT->Nat
 |_,.file _=>0
 |_,.dir _=>0
 |_,.held _=>1
 |0,.own _=>1
 |n+1,.own es=>1+(es.map λx=>jd n x.2).sum
def mh(t:LT):t.kind=1\/t.kind=2:=by cases t<;>simp[LT.kind]
structure Jr (a:List Ob)(n k:Nat)(c:LT)(r:Int×List Ob):Prop where
 dr:gK a r.2
 kind:fJ r.2 r.1=c.kind
 high:gp r.2 r.1<=n
 len:r.2.length<=a.length+k
def AY(c:gK a b)(d:Exact a)(e:fJ b id=1)(n:Nat):gp b id<=n:=by
 rw[(c.exact d).low id e];omega
theorem rZ(fl:Nat->Option (Int×fO))(n)(p:∀(c:LT)(a:List Ob),Exact a->fM a n c->og a fl->Jr a n (jd n c) c (mn fl n c a)):∀(es:Kids)(a:List Ob),Exact a->og a fl->(∀x∈es,fN x.1=fm/\fM a n x.2)->
  gK a (lj fl n es a).2/\(lj fl n es a).1.map (·.1)=es.map (·.1)/\(∀e∈(lj fl n es a).1,fN e.1=fm/\(e.2.1=1\/e.2.1=2)/\fJ (lj fl n es a).2 e.2.2=e.2.1/\gp (lj fl n es a).2 e.2.2<=n)/\(lj fl n es a).2.length<=fv a+(es.map λx=>jd n x.2).sum:=by
 intro es;have q:∀l:Kids,∀a,Exact a->og a fl->(∀x∈fx l,fN x.1=fm/\fM a n x.2)->
  gK a (lj fl n (fx l) a).2/\(lj fl n (fx l) a).1.map (·.1)=(fx l).map (·.1)/\(∀e∈(lj fl n (fx l) a).1,fN e.1=fm/\(e.2.1=1\/e.2.1=2)/\fJ (lj fl n (fx l) a).2 e.2.2=e.2.1/\gp (lj fl n (fx l) a).2 e.2.2<=n)/\(lj fl n (fx l) a).2.length<=fv a+((fx l).map λx=>jd n x.2).sum:=by
  intro l
  induction l with
  |nil=>intro a _ _ _;exact⟨.nil,fX,(λe f=>by cases f),lw _⟩
  |cons x r s=>
   intro a f i g;rw[kL]at g |-;have⟨h,t,u,E⟩:=s a f i λy v=>g y (by simp[v]);rw[kP];have⟨w,z⟩:=h.app;have⟨A,F⟩:=g x (by simp);have b:=p x.2 (lj fl n (fx r) a).2 (h.exact f) (by grind [jl]) (by rw[z];exact i.app w);have⟨j,B⟩:=b.dr.app;refine⟨h.trans b.dr,by rw[nZ,t,nZ];rfl,λe d=>?_,?_⟩;rcases qJ.1 d with d|d
   have⟨C,k,m,D⟩:=u e d;have o:fJ (lj fl n (fx r) a).2 e.2.2≠0:=by rw[m];exact ne0 k
   rw[B,jR j o,nr j o];exact⟨C,k,m,D⟩;rw[om.1 d];exact⟨A,mh x.2,b.kind,b.high⟩
   have:=b.len
   rw[nZ,List.sum_append];simp only[lM,Cf,ctz,List.sum_nil,Ee];omega
 have:=q<|fx es
 grind
theorem vK{α β:Type}:∀{es:List (fO×α)}{fs:List (fO×β)},es.map (·.1)=fs.map (·.1)->fP fs->fP es:=by
 intro es fs a b;have c:(fs.map (·.1)).Pairwise (λx y=>ja x y<0):=by rw[wK];exact b
 rwa [<-a,wK]at c
theorem kQ(fl:Nat->Option (Int×fO)):∀(n:Nat),n<=5->∀(c:LT)(a:List Ob),Exact a->fM a n c->og a fl->Jr a n (jd n c) c (mn fl n c a):=by
 have s:∀(n:Nat)(id:Int)(a:List Ob),Exact a->fM a n (.file id)->Jr a n (jd n<|.file id) (.file id) (id,a):=by
  intro n id a b j;rw[fM]at j;exact⟨.nil,j,AY .nil b j n,cop _ _⟩
 have t:∀(n:Nat)(id:Int)(a:List Ob),fM a n (.dir id)->Jr a n (jd n<|.dir id) (.dir id) (id,a):=by
  intro n id a j;rw[fM]at j;exact⟨.nil,j.1,j.2,cop _ _⟩
 have u:∀(n:Nat)(f:Nat)(a:List Ob),Exact a->og a fl->Jr a n 1 (.held f) (kI (fl f) a):=by
  intro n f a b l;rcases y:fl f with _|x
  have⟨g,h,q,k⟩:=AX b (d:=kq) (by decide);exact⟨g,h,AY g b h n,k⟩;have⟨id,d⟩:=x;have r:=l f id d y;by_cases m:id≠0;have e:kI (fh (id,d)) a=(id,a):=by simp[kI,m]
  rw[e];exact⟨.nil,r.1 m,AY .nil b (r.1 m) n,cop _ _⟩;have e:kI (fh (id,d)) a=kg a d:=by simp[kI,m]
  rw[e];have⟨g,h,q,k⟩:=AX b (d:=d)<|r.2 (oP.1 m);exact⟨g,h,AY g b h n,k⟩
 intro n
 induction n with
 |zero=>
  intro _ c a b i l;cases c with
  |file id=>exact s 0 id a b i
  |dir id=>exact t 0 id a i
  |held f=>exact u 0 f a b l
  |own es=>
   have e:mn fl 0 (.own es) a=kC a []:=by rw[mn]
   rw[e];have⟨g,h,q,k,v⟩:=Eu b (es:=[]) (by show(0:Int)<=5;decide) List.Pairwise.nil (by simp) (λe b=>by cases b);exact⟨g,h,by rw[k];exact wE _,v⟩
 |succ n z=>
  intro C c a b i l;cases c with
  |file id=>exact s _ id a b i
  |dir id=>exact t _ id a i
  |held f=>exact u _ f a b l
  |own es=>
   rw[fM]at i;rw[uA];have⟨w,A,p,D⟩:=rZ fl n (z<|by omega) es a b l i.2.2;have B:gy (lj fl n es a).2 (lj fl n es a).1<=((n+1:Nat):Int):=uz.2 ⟨by omega,λe o=>by have:=(p e o).2.2.2;omega⟩;have⟨g,h,q,k,v⟩:=Eu (w.exact b) (es:=(lj fl n es a).1) (by omega) (vK A i.1) (by grind [List.length,oL]) λe o=>⟨(p e o).1,(p e o).2.1,(p e o).2.2.1⟩;refine⟨w.trans g,h,by rw[k];exact B,?_⟩
   grind [jd]
def oY:b6:=⟨[],fo,λ_=>fm,λ_=>fm⟩
def Fair {β:Type}(fs a:b6)(x all fj:β):Prop:=(fs.Next a/\x=all)\/(fs.yR a/\x=fj)
theorem AZ(id:Int):oY.gO id=(oY,fm):=fX
theorem sg(A)(c):ut A oY c=(oY,jy A c):=by
 cases c<;>rfl
theorem Cr(A)(fs)(c):Fair fs (ut A fs c).1 (ut A fs c).2 (ut A oY c).2 (14,[]):=by
 rw[sg];rcases wU A fs c with⟨a,b⟩|⟨a,b⟩
 exact .inl ⟨a,b⟩;exact .inr ⟨a,b⟩
theorem mJ(A)(t)(r):ky A t oY r=(oY,pm A t r):=by
 induction r with
 |nil=>rfl
 |cons n r a=>
  grind [ky,pm,sg,jy,jp]
theorem mK(A)(t)(r):pA A t oY r=(oY,jA A t r):=by
 grind [pA,jA,mJ,sg,pm]
theorem Cs(A)(t)(fs)(r):Fair fs (ky A t fs r).1 (ky A t fs r).2 (ky A t oY r).2 (14,.dir 0):=by
 rw[mJ];rcases wV A t fs r with⟨a,b,_⟩|⟨a,b⟩
 exact .inl ⟨a,b⟩;exact .inr ⟨a,b⟩
theorem ye(A)(t)(fs)(r):Fair fs (pA A t fs r).1 (pA A t fs r).2 (pA A t oY r).2 (14,[]):=by
 rw[mK];rcases NA A t fs r with⟨a,b,_⟩|⟨a,b⟩
 exact .inl ⟨a,b⟩;exact .inr ⟨a,b⟩
def AC (A:List Ob)(a:Nat->Option (Int×fO))(fs:b6)(b:Nat):b6×Int×fO:=
 match a b with
 |none=>(fs,0,⟨#[]⟩)
 |some (id,d)=>if id=0 then(fs,0,d)else if(fs.gO id).2 then((fs.gO id).1,0,bytesOf A id) else((fs.gO id).1,14,⟨#[]⟩)
def iZ (A:List Ob)(a:Nat->Option (Int×fO))(fs:b6):LT->b6×Int×Int
 |.file id=>if(fs.gO id).2 then((fs.gO id).1,0,((bytesOf A id).size:Int)) else((fs.gO id).1,14,0)
 |.held b=>((AC A a fs b).1,(AC A a fs b).2.1,((AC A a fs b).2.2.size:Int))
 |c=>((ut A fs c).1,(ut A fs c).2.1,((ut A fs c).2.2.length:Int))
def lQ (A:List Ob)(c:Nat->Option (Int×fO))(t:LT)(fs:b6)(r:fQ):b6×Int×Int×Int:=
 let a:=ky A t fs r
 if a.2.1≠0 then(a.1,a.2.1,0,0) else
 let b:=iZ A c a.1 a.2.2
 if b.2.1≠0 then(b.1,b.2.1,0,0) else(b.1,0,a.2.2.kind,b.2.2)
def jD (A:List Ob)(t:LT)(fs:b6):fQ->b6×Int×LT
 |[]=>(fs,6,t)
 |n::r=>
  let a:=pA A t fs r
  if a.2.1≠0 then(a.1,a.2.1,t) else
  if(jp a.2.2 n).isSome then(a.1,6,t) else
  if 16<=fv a.2.2 then(a.1,11,t) else(a.1,0,vy A (λY=>zr Y n<|.own []) (fx r) t)
def yn (A:List Ob)(fs:b6)(c:LT):b6×Int:=
 if c.kind=1 then(fs,0) else
 let k:=ut A fs c
 if k.2.1=0/\0<fv k.2.2 then(k.1,8) else(k.1,k.2.1)
def gV (A:List Ob)(t:LT)(fs:b6):fQ->b6×Int×LT
 |[]=>(fs,9,t)
 |n::r=>
  let a:=ky A t fs (n::r)
  if a.2.1≠0 then(a.1,a.2.1,t) else
  let v:=yn A a.1 a.2.2
  if v.2≠0 then(v.1,v.2,t) else(v.1,0,vy A (λY=>rb Y n) (fx r) t)
def lB (A:List Ob)(fs:b6)(e c:LT):b6×Int:=
 if e.kind=2/\c.kind=1 then(fs,7) else
 if e.kind=1/\c.kind=2 then(fs,5)else yn A fs e
def mC (A:List Ob)(fs:b6)(same:Bool)(Y:Kids)(n:fO)(c:LT):b6×Int:=
 match jp Y n with
 |some e=>lB A fs e c
 |none=>if 16<=fv Y/\same=fo then(fs,11) else(fs,0)
def QP (A:List Ob)(t:LT)(fs:b6):fQ->fQ->b6×Int×LT
 |N::d,h::c=>
  let a:=ky A t fs (N::d)
  if a.2.1≠0 then(a.1,a.2.1,t) else
  if(N::d).reverse <+: fx (h::c)/\N::d≠h::c then(a.1,9,t) else
  let b:=pA A t a.1 c
  if b.2.1≠0\/N::d=h::c then(b.1,b.2.1,t) else
  let v:=mC A b.1 (decide (d=c)) b.2.2 h a.2.2
  if v.2≠0 then(v.1,v.2,t) else
  if 5<((fv c+1:Nat):Int)+kO A 5 a.2.2 then(v.1,11,t) else
  (v.1,0,vy A (λY=>zr Y h a.2.2) (fx c)<|vy A (λY=>rb Y N) (fx d) t)
 |_,_=>(fs,9,t)
theorem Fair.bind{β i:Type}{fs d e}{x a n:β}{y b m:i}(j:Fair fs d x a n)(good:fs.Next d->x=a->Fair d e y b m)(l:fs.yR d->x=n->e=d/\y=m):Fair fs e y b m:=by
 rcases j with⟨c,f⟩|⟨c,f⟩
 rcases good c f with⟨g,h⟩|⟨g,h⟩
 exact .inl ⟨c.trans g,h⟩;exact .inr ⟨c.fail g,h⟩;obtain⟨rfl,k⟩:=l c f;exact .inr ⟨c,k⟩
theorem tS{β:Type}(fs)(x a:β):Fair fs fs x x a:=.inl ⟨b6.Next.refl _,fX⟩
theorem RX(A)(t)(fs)(r):Fair fs (jD A t fs r).1 (jD A t fs r).2 (jD A t oY r).2 (14,t):=by
 rcases r with _|⟨n,r⟩
 exact tS _ _ _;unfold jD;rcases ye A t fs r with⟨c,a⟩|⟨c,a⟩
 ·have b:=congrArg Prod.fst a
  have d:=congrArg Prod.snd a;simp only[b,d];refine .inl ⟨?_,?_⟩
  all_goals grind
 have b:=congrArg Prod.fst a;simp only at b;simp only[b];exact .inr ⟨c,fX⟩
theorem Dh(A)(fs)(c):Fair fs (yn A fs c).1 (yn A fs c).2 (yn A oY c).2 14:=by
 unfold yn;by_cases a:c.kind=1
 grind [tS]
 rw[km a,km a];refine(Cr A fs c).bind (λd b=>?_) λe b=>?_
 all_goals grind [ut,oY,tS]
theorem NK(A)(t)(fs)(r):Fair fs (gV A t fs r).1 (gV A t fs r).2 (gV A t oY r).2 (14,t):=by
 rcases r with _|⟨n,r⟩
 exact tS _ _ _;unfold gV;refine(Cs A t fs (n::r)).bind (λb a=>?_) λd a=>?_
 ·simp only[a]
  by_cases e:(ky A t oY (n::r)).2.1≠0
  ·all_goals grind [tS]
  simp only[km e];have f:(ky A t oY (n::r)).1=oY:=by rw[mJ]
  rw[f];generalize (ky A t oY (n::r)).2.2=c;refine(Dh A _ c).bind (λb a=>?_) λd a=>?_
  all_goals grind [yn,oY,tS]
 all_goals grind
theorem Xg(A)(fs)(b:Bool)(Y)(n)(c):Fair fs (mC A fs b Y n c).1 (mC A fs b Y n c).2 (mC A oY b Y n c).2 14:=by
 grind [mC,jp,tS,lB,Dh]
theorem NL(A)(t)(fs)(b a):Fair fs (QP A t fs b a).1 (QP A t fs b a).2 (QP A t oY b a).2 (14,t):=by
 cases b with
 |nil=>cases a<;>exact tS _ _ _
 |cons N b=>
  rcases a with _|⟨h,a⟩
  exact tS _ _ _;unfold QP;refine(Cs A t fs (N::b)).bind (λf d=>?_) λg d=>?_
  ·simp only[d]
   by_cases j:(ky A t oY (N::b)).2.1≠0
   ·all_goals grind [tS]
   simp only[km j];by_cases k:fx (N::b) <+: fx (h::a)/\N::b≠h::a
   ·all_goals grind [tS]
   simp only[km k];generalize (ky A t fs (N::b)).1=i;have e:(ky A t oY (N::b)).1=oY:=by rw[mJ]
   rw[e];generalize (ky A t oY (N::b)).2.2=c;refine(ye A t i a).bind (λf d=>?_) λg d=>?_
   ·simp only[d]
    by_cases l:(pA A t oY a).2.1≠0\/N::b=h::a
    ·all_goals grind [tS]
    simp only[km l];have e:(pA A t oY a).1=oY:=by rw[mK]
    rw[e];generalize (pA A t oY a).2.2=Y;generalize (pA A t i a).1=m;refine(Xg A m (decide (b=a)) Y h c).bind (λf d=>?_) λg d=>?_
    all_goals grind [mC,oY,decide,tS,Nat,Int,kO]
   all_goals grind
  all_goals grind
theorem Js(fs)(id:Int):Fair fs (fs.gO id).1 (fs.gO id).2 fm fo:=by
 rcases fs.De id with⟨a,b,_⟩|⟨a,b⟩
 exact .inl ⟨b,a⟩;exact .inr ⟨b,a⟩
theorem Fq(A)(a)(fs)(b):Fair fs (AC A a fs b).1 (AC A a fs b).2 (AC A a oY b).2 (14,kq):=by
 unfold AC;rcases a b with _|x
 exact tS _ _ _;obtain⟨id,d⟩:=x;simp only;by_cases c:id=0
 ·all_goals grind [tS]
 rw[km c,km c,AZ];refine(Js fs id).bind (λf e=>?_) λg e=>?_
 all_goals grind [tS,decide]
theorem Xh(A)(b)(fs)(c):Fair fs (iZ A b fs c).1 (iZ A b fs c).2 (iZ A b oY c).2 (14,0):=by
 cases c with
 |file id=>
  simp only[iZ,AZ];refine(Js fs id).bind (λd a=>?_) λe a=>?_
  all_goals grind [tS,decide]
 |held f=>
  simp only[iZ];refine(Fq A b fs f).bind (λd a=>?_) λe a=>?_
  grind [tS]
  simp only[a];exact⟨trivial,fX⟩
 |dir id=>
  simp only[iZ];refine(Cr A fs<|.dir id).bind (λd a=>?_) λe a=>?_
  all_goals grind [tS]
 |own es=>
  simp only[iZ];refine(Cr A fs<|.own es).bind (λd a=>?_) λe a=>?_
  all_goals grind [tS]
theorem Xi(A)(a)(t)(fs)(r):Fair fs (lQ A a t fs r).1 (lQ A a t fs r).2 (lQ A a t oY r).2 (14,0,0):=by
 unfold lQ;refine(Cs A t fs r).bind (λd b=>?_) λe b=>?_
 ·simp only[b]
  by_cases f:(ky A t oY r).2.1≠0
  grind [tS]
  simp only[km f];have g:(ky A t oY r).1=oY:=by rw[mJ]
  rw[g];generalize (ky A t oY r).2.2=c;refine(Xh A a _ c).bind (λd b=>?_) λe b=>?_
  all_goals grind [iZ,oY,tS]
 all_goals grind
theorem Ct(a:t.at A q=fh d)(r:fQ):xc A fc t (q++r)=xc A fc d r:=by
 grind [xc,lx]
theorem mY(a:t.at A q=fh d)(b:kids A d=fh Y)(m:fO)(r:fQ):xc A fc t (q++m::r)=(jp Y m).bind λc=>xc A fc c r:=by
 rw[Ct a,ul,b,wy]
theorem Ev(h:fP Y)(a:t.at A q=fh d)(b:kids A d=fh Y)(c):
  (∀r,xc A fc (vy A (λY=>zr Y n c) q t) (q++n::r)=xc A fc c r)/\∀x,¬(q++[n]) <+: x->xc A fc (vy A (λY=>zr Y n c) q t) x=xc A fc t x:=by
 have⟨i,j⟩:=Lr A fc (λY=>zr Y n c) q t d Y a b;refine⟨λr=>?_,λx f=>?_⟩
 grind [xd]
 by_cases g:∃m r,x=q++m::r;obtain⟨m,r,rfl⟩:=g;have k:m≠n:=λe=>f (by rw[e];exact⟨r,by simp⟩)
 grind [xd,mY]
 grind
theorem NM(g:fP Y)(h:kA Y n=fm)(a:t.at A q=fh d)(b:kids A d=fh Y):
  (∀r,xc A fc (vy A (λY=>rb Y n) q t) (q++n::r)=fj)/\∀x,¬(q++[n]) <+: x->xc A fc (vy A (λY=>rb Y n) q t) x=xc A fc t x:=by
 have⟨i,j⟩:=Lr A fc (λY=>rb Y n) q t d Y a b;refine⟨λr=>?_,λx c=>?_⟩
 grind [mg]
 by_cases f:∃m r,x=q++m::r;obtain⟨m,r,rfl⟩:=f;have k:m≠n:=λe=>c (by rw[e];exact⟨r,by simp⟩)
 grind [mg,mY]
 grind
theorem RY{fc}(b:Sound A)(g:fM A k t)
  (d:t.at A qf=fh df)(e:kids A df=fh kf)(o:jp kf N=fh c)(p:t.at A qt=fh dt)(q:kids A dt=fh kt)(s:¬(qf++[N]) <+: (qt++[h]))(x):
  xc A fc (vy A (λY=>zr Y h c) qt<|vy A (λY=>rb Y N) qf t) x =
   if(qt++[h]) <+: x then xc A fc t ((qf++[N])++x.drop (fv<|qt++[h]))else if(qf++[N]) <+: x then fj else xc A fc t x:=by
 have f:=(lO b (tA b _ g d).2.1 e).1;have i:kA kf N=fm:=by rw[<-rh f,o];rfl
 have u:¬(qf++[N]) <+: qt:=λa=>s<|a.trans (qD _ _);have⟨d1,y,j,l,_⟩:=Fo f d e i p q u;have v:=(lO b (tA b _ (AW b g d e N) j).2.1 l).1;have⟨z,w⟩:=Ev (fc:=fc) (n:=h) v j l c;have⟨B,C⟩:=NM (fc:=fc) f i d e;by_cases a:(qt++[h]) <+: x;rw[lv a];obtain⟨r,rfl⟩:=a
 grind [yQ,mY]
 rw[km a,w x a];by_cases m:(qf++[N]) <+: x;rw[lv m];obtain⟨r,rfl⟩:=m
 grind
 grind
theorem Ba(A)(fc)(t):∀r:fQ,
  ((pm A t r).1=0/\t.at A (fx r)=fh (pm A t r).2)\/((pm A t r).1≠0/\xc A fc t (fx r)=fj/\((pm A t r).1=4\/(pm A t r).1=5))
 |[]=>.inl ⟨fX,pd _ _⟩
 |n::r=>by
  by_cases a:(pm A t (n::r)).1=0
  grind [Fj]
  refine .inr ⟨a,?_,?_⟩
  grind [xc,Fj]
  rcases Ba A fc t r with⟨d,e⟩|⟨d,_⟩
  rw[pm]at a |-
  simp only at a |-
  rw[km<|by omega]at a |-
  cases b:(pm A t r).2 with
  |file i=>rw[b]at a;simp[jy]
  |held f=>rw[b]at a;simp[jy]
  |own es=>simp only[b,jy]at a |-;cases c:jp es n<;>simp[c]at a |-
  |dir id=>simp only[b,jy]at a |-;cases c:jp ((fT A id).map wd) n<;>simp[c]at a |-
  grind [pm]
structure mL (a:List Ob):Prop where
 file:∀i (h:i<a.length),a[i].kind=1->fileAt a a[i].data=some i
 dir:∀i (h:i<a.length),a[i].kind=2->gG a a[i].gh=some i
theorem mL.snoc(e:mL a)(f:yX a o):mL (a++[o]):=by
 refine⟨λi U b=>?_,λi U b=>?_⟩
 ·rw[qd]
  by_cases c:i<fv a;rw[KS c]at b |-;rw[e.file i c b];rfl;have d:i=fv a:=by simp at U;omega
  subst d;simp only[sec]at b |-;rcases f.or with⟨_,_,_,h⟩|⟨g,_⟩
  all_goals grind
 rw[rR];by_cases c:i<fv a;rw[KS c]at b |-;rw[e.dir i c b];rfl;have d:i=fv a:=by simp at U;omega
 subst d;simp only[sec]at b |-;rcases f.or with⟨g,_⟩|⟨_,_⟩
 all_goals grind
theorem gK.once(c:gK a b)(d:mL a):mL b:=by
 induction c with
 |nil=>exact d
 |snoc _ e f=>exact f.snoc e
theorem mL.Xj(d:mL a)(b:fJ a id=1):fileAt a (bytesOf a id)=fh (id-1).toNat/\(((id-1).toNat:Nat):Int)+1=id:=by
 obtain⟨e,c⟩:=np (by rw[b];decide);unfold fJ at b;rw[lv e,jG c]at b;refine⟨?_,by omega⟩;unfold bytesOf;rw[jG c];exact d.file _ c b
theorem mL.aaf(d:mL a)(b:fJ a id=2):gG a (fT a id)=fh (id-1).toNat/\(((id-1).toNat:Nat):Int)+1=id:=by
 obtain⟨e,c⟩:=np (by rw[b];decide);unfold fJ at b;rw[lv e,jG c]at b;refine⟨?_,by omega⟩;unfold fT;rw[jG c];exact d.dir _ c b
theorem mL.uB(b:mL a)(c:fJ a id=1):kg a (bytesOf a id)=(id,a):=by
 have⟨d,e⟩:=b.Xj c
 grind [kg]
theorem mL.yf(b:mL a)(c:fJ a id=2):kC a (fT a id)=(id,a):=by
 have⟨d,e⟩:=b.aaf c
 grind [kC]
theorem mL.NN(b:mL a){i j:Int}(U:fJ a i=1)(c:fJ a j=1)(d:bytesOf a i=bytesOf a j):i=j:=by
 have e:=b.uB U;have f:=b.uB c
 grind
theorem mL.Vo(b:mL a){i j:Int}(U:fJ a i=2)(c:fJ a j=2)(d:fT a i=fT a j):i=j:=by
 have e:=b.yf U;have f:=b.yf c
 grind
theorem exs:∀{b a:Kids},fP b->fP a->(∀n,(jp b n).isSome=(jp a n).isSome)->b.map (·.1)=a.map (·.1):=by
 have i:∀(l:Kids)(n:fO),(jp l n).isSome=fm↔n∈l.map (·.1):=by
  grind [jp,Option.isSome_map,List.find?_isSome,iE]
 have g:∀(b a:fQ),b.Pairwise (λx y=>ja x y<0)->a.Pairwise (λx y=>ja x y<0)->(∀n,n∈b↔n∈a)->b=a:=by
  intro b
  induction b with
  |nil=>
   intro a _ _ c;rcases a with _|⟨y,r⟩
   rfl;exact absurd ((c y).2<|by simp)<|by simp
  |cons x b j=>
   intro a d f c;rcases a with _|⟨y,a⟩
   exact absurd ((c x).1<|by simp) (by simp);obtain⟨k,m⟩:=sJ.1 d;obtain⟨o,p⟩:=sJ.1 f;have q:x=y:=by
    rcases oc.1 ((c x).1<|by simp)with e|e
    exact e;rcases oc.1 ((c y).2<|by simp)with h|h
    all_goals grind [pG,jb]
   all_goals grind [jb]
 intro b a d f c;refine g _ _ (by rw[wK];exact d) (by rw[wK];exact f) λn=>?_
 grind
theorem yg(a:fP Y)(b:k<fv Y):jp Y (Y[k]).1=fh (Y[k]).2:=by
 rcases d:jp Y (Y[k]).1 with _|c
 ·all_goals grind [jp,cat,hOr,kK]
 rw[nJ a d (kK b) fX]
structure PTp where
 t:kE
 p:Nat
 base:List Ob
def iP (ft:PTp)(F:Nat->Prop)(w:fq)(s:Nat)(A:List Ob):Prop:=gP ft.t F w s ft.p A/\ft.base <+: A/\Exact A/\mL A
section
variable {ft:PTp}
def iP.inv(a:iP ft F w s A):Inv ft.t F w s A:=a.1.inv
def iP.keep(a:iP ft F w s A)(hF:∀k,F k->F' k)(b:∀k,F k->J.heap[k]?=w.heap[k]?):iP ft F' J s A:=⟨a.1.keep (λk _=>b k) λk _=>hF k,a.2⟩
def iP.below(a:iP ft F w s A)(b:ju w J)(hF:∀k,k<w.heap.size->F k->F' k):iP ft F' J s A:=⟨a.1.below b hF,a.2⟩
theorem NP{d}(a:lq A H d e):H=A\/∃o,yX A o/\H=A++[o]:=by
 rcases a with⟨_,a,_⟩|⟨_,a,_⟩|⟨_,_,_,a,_⟩|⟨b,c,_,a,_⟩
 exact .inl a;exact .inl a;exact .inl a;exact .inr ⟨xp d,⟨.inl ⟨fX,fX,b,c⟩⟩,a⟩
theorem RZ(h:Exact A)(a:jv A H es e):H=A\/∃o,yX A o/\H=A++[o]:=by
 rcases a with⟨_,a,_⟩|⟨i,⟨_,a,_⟩|⟨_,_,a,_⟩|⟨_,_,_,a,_⟩|⟨_,j,k,t,d,l,_,⟨_,a,_⟩|⟨_,a,_⟩|⟨_,_,_,a,_⟩|⟨m,n,_,⟨o,p,b,q,a⟩,_⟩⟩⟩
 exact .inl a;exact .inl a;exact .inl a;exact .inl a;exact .inl a;exact .inl a;exact .inl a;refine .inr ⟨o,⟨.inr ⟨p,by rw[b];exact q,by rw[b];exact m,by rw[b];exact l,by rw[b,d.length_eq];exact j,λe f=>?_,by rw[b];exact n⟩⟩,a⟩;rw[b]at f;have g:=d.mem_iff.1 f;have c:=k e g;unfold Hb at c;simp only[EI,Bool.not_eq_true',EF,beq_iff_eq]at c;refine⟨i e g,?_,c.2⟩;have⟨r,s⟩:=np c.1
 have:=Fp h.kinds r s
 omega
theorem iP.put(f:iP ft F w s A)(b:gP ft.t F' J s ft.p H)(a:H=A\/∃o,yX A o/\H=A++[o]):iP ft F' J s H:=by
 have⟨_,c,d,e⟩:=f;rcases a with rfl|⟨o,a,rfl⟩
 exact⟨b,c,d,e⟩;exact⟨b,c.trans<|qD _ _,d.snoc a,e.snoc a⟩
theorem Ih(a:iP ft F w s A)(d:fO)(c:d.size<=maxLen):
  ik 35 #[ii s,hZ d] w λe J=>∃H,lq A H d e/\iP ft (kB F w J) J s H/\fH F w J:=
 (Ib a.1 d c).mono λe J⟨H,b,f,g⟩=>⟨H,b,a.put f<|NP b,g⟩
theorem Lx(a:iP ft F w s A)(b off m c0:Nat)(es:List fV)
  (f:fv es=m)(g:b<w.heap.size)(h:m*32<=140737488355328)(i:∀j c,(flat es)[j]?=fh c->w.c b (off+j)=fh c)(k:∀e∈es,e.1.size<=maxLen):
  ik 26 #[ii s,my b off m c0] w λe J=>∃H,jv A H es e/\iP ft (kB F w J) J s H/\fH F w J:=
 (Le a.1 b off m c0 es f g h i k).mono λe J⟨H,d,l,n⟩=>⟨H,d,a.put l<|RZ a.2.2.1 d,n⟩
def yY(a:iP ft F w s A)(id:Int):
  ik 40 #[ii s,fY id] w λe J=>Vi A id e/\ju w J:=Lh a.inv id
def Bb(a:iP ft F w s A)(id:Int):
  ik 43 #[ii s,fY id] w λe J=>RJ w J A id e/\ju w J:=Nv a.inv id
def yZ(a:iP ft F w s A):
  ik 45 #[ii s] w (UV (fY (fv A:Int)) w):=Li a.inv
end
def Fs(id:Int):fJ [] id=0:=iJ (by simp;omega)
theorem Xk:Exact []:=⟨⟨λid=>by unfold gp;simp,λid a=>by rw[Fs]at a;cases a⟩,λo b=>(by cases b),λid a=>(by rw[Fs]at a;cases a),λid a=>(by rw[Fs]at a;cases a)⟩
theorem ezi:mL []:=⟨λi a=>(by cases a),λi a=>(by cases a)⟩
variable {ft:PTp}
def gF (e:fV):fV:=(e.1,e.2.1,e.2.2-1)
structure xg (o x:Ob):Prop where
 kind:x.kind=o.kind
 data:o.kind=1->x.data=o.data
 gh:o.kind=2->x.gh=o.gh.map gF
 high:x.high=o.high
 none:o.kind=1->x.gh=[]
 empty:o.kind=2->x.data=ByteArray.empty
theorem Fu(a:iP ft F w s A)(j:Nat)(d:j<fv A)(f:A[j].kind=1):
  ik 40 #[ii s,fY<|(j:Int)+1] w (vd (fC #[fA A[j].data,fY 0]) w):=by
 refine(yY a<|(j:Int)+1).mono λe J⟨b,c⟩=>⟨?_,c⟩;rcases b with⟨g,_⟩|⟨h,i,k,_,l⟩
 all_goals grind [xa,absurd]
theorem Jt(a:iP ft F w s A)(j:Nat)(c:j<fv A)(d:A[j].kind=2):
  ik 43 #[ii s,fY<|(j:Int)+1] w λe J=>∃g,e=qr #[fy (fh<|ie g 0) A[j].gh.length A[j].gh.length,fY 0]/\
   J.ownsRow w.heap.size 96 3 (fy (fh<|ie g 0) A[j].gh.length A[j].gh.length) A[j].gh.length (flat A[j].gh)/\ju w J:=by
 refine(Bb a<|(j:Int)+1).mono λe J⟨b,f⟩=>?_;rcases b with⟨h,_⟩|⟨i,k,l,_,g,m,n⟩
 all_goals grind [xa,absurd]
theorem Sa(b:gH F w W s r ia ka pa ic kc pc ids I paths c5 c6 c7 c8 c9 R c11)(o:gi G w r O)(h:iP ft M w s A)(j:Nat)(q:j<fv A)(t:j<fv O)(d:A[j].kind=1)(f:xg A[j] O[j]):
  ik 80 #[ii W,fY (j:Int),fY<|(j:Int)+1] w (vd (fC #[fy fj 0 0,fE fm]) w):=by
 have z:=b.c0;have B:=b.c1;have C:=b.lt;have⟨D,E,c⟩:=o;have H:=c.c0;have K:=c.lt;have L:=c.many;obtain⟨g,rfl,N,u,v,P,Q⟩:=mW c.row fX t;have i:=f.data d;have k:=f.kind;rw[k,d]at u;rw[i]at v;have l:∀a,ju w (w.alloc a):=λa=>(mi _ _).alloc (lw _) _;have m:=λ(a:Obj)=>Fu (h.below (l a) λ_ _ b=>b) j q d;have x:fe (∀a:Obj,ik 40 #[ii s,fY<|(j:Int)+1] (w.alloc a) λe J=>e=qr #[fA A[j].data,fY 0]/\Below (w.alloc a).heap.size (w.alloc a) J):=m;clear b c i k f h d m;go_enter func80,ntmps80;go_wp2_with fail;refine(x.o _).via λS n=>?_;have bx:=n.cell (p:=(ie w.heap.size 1)) (by simp);have y:=(l _).trans<|n.mono (by simp);simp at bx;go_wp2;go_ret2;exact⟨fX,y⟩
theorem Xl(c:gH F w W s r ia ka pa ic kc pc ids I paths c5 c6 c7 c8 c9 R c11)(ac:gi G w r O)(N:iP ft M w s A)(j:Nat)(ad:j<fv A)(P:j<fv O)(h:A[j].kind=2)(v:xg A[j] O[j]):
  ik 80 #[ii W,fY (j:Int),fY<|(j:Int)+1] w λe J=>∃g,e=qr #[fy (fh<|ie g 0) A[j].gh.length A[j].gh.length,fE fm]/\
   J.ownsRow w.heap.size 96 3 (fy (fh<|ie g 0) A[j].gh.length A[j].gh.length) A[j].gh.length (flat A[j].gh)/\ju w J:=by
 have ai:=c.c0;have aj:=c.c1;have ak:=c.lt;have⟨al,am,d⟩:=ac;have an:=d.c0;have ao:=d.lt;have ap:=d.many;obtain⟨g,rfl,aq,ae,ar,x,au⟩:=mW d.row fX P;have n:=d.zx _<|kK P;have y:=v.gh h;have z:=v.kind;rw[z,h]at ae;have Q:∀o,ju w (w.alloc o):=λo=>(mi _ _).alloc (lw _) _;have l:=λ(o:Obj)=>Jt (N.below (Q o) λ_ _ c=>c) j ad h;obtain⟨es,S⟩:=oX<|A[j].gh;rw[<-S]at l y |-;have a:=n.row;have t:=n.len;have T:=n.few;rw[y]at a t;rw[oL]at t;rw[<-t]at a x T;obtain⟨av,U⟩:=oX<|O[j].ea;obtain⟨af,V⟩:=oX<|O[j].ec;rw[<-U,<-V]at a x;obtain⟨m,B⟩:=oX<|fv es;rw[<-B]at a x T l |-
 change fe _ at B l a
 clear c d z v N h S y n t U V;go_enter func80,ntmps80;go_wp2_with fail;apply (l _).mono;rintro e b ⟨u,rfl,X,C⟩;have bx:=C.cell (p:=(ie w.heap.size 2)) (by simp);have D:=(Q _).trans<|C.mono (by simp);simp at bx;have Y:fe (b.ownsRow w.heap.size 96 3 (my u 0 m m) m<|flat es):=tR X (by simp);have aw:((m:Int) != (m:Int))=fo:=by simp
 clear X C l;go_wp2
 go_loopw [13] (λi wr=>∃k:Nat,k<=m/\i=.int .i64 k/\(∃q,wr=b.drewN q)) (λi _=>m-(intOf i).toNat)
 case atStart=>exact⟨0,Fr _,rfl,⟨0,rfl⟩⟩
 case round=>
  obtain⟨k,h,rfl,⟨q,rfl⟩⟩:=hrel;by_cases ag:k<m
  ·have Z:k<fv es:=by rw[<-B.o];exact ag
   have ah:k<fv (es.map gF):=by simpa using Z
   have⟨f,ax,aa⟩:=hh a (by omega);obtain rfl:=(lK aa).1;have ab:f<w.heap.size:=gc a fX;have⟨t0,t1,_⟩:=lr (off:=0) (ks a) ah;have⟨E,H,_⟩:=lr (off:=0) (ks Y) Z;rw[iR]at t0 t1 E H;have K:=(D.cell (p:=(ie f<|k*3)) ab).trans t0;have L:=(D.cell (p:=(ie f<|k*3+1)) ab).trans t1;have ay:=λq=>(show(b.drewN q).c f (k*3)=fh (fA es[k].1) by rw[yP]at K;exact K);have az:=λq=>(show(b.drewN q).c f (k*3+1)=fh (.int .i64 es[k].2.1) by rw[yP]at L;exact L);have aA:=λq=>(show(b.drewN q).c u (k*3)=fh (fA es[k].1)from E);have aB:=λq=>(show(b.drewN q).c u (k*3+1)=fh (.int .i64 es[k].2.1)from H);have aC:=λq=>(show(b.drewN q).c w.heap.size 2=fh (my f 0 m af)from bx);have aD:(k:Int)<(m:Int):=by omega
   have aE:(es[k].1.toList==es[k].1.toList)=fm:=by simp
   have z:(es[k].2.1 != es[k].2.1)=fo:=by simp
   clear t0 t1 K L E H aa;go_wp2
   go_quiet (fail)
   go_wp2;go_roundw
   case rel=>exact⟨k+1,by omega,by go_num,⟨_,rfl⟩⟩
   case measure=>simp[intOf];omega
  go_wp2;go_ret2;exact⟨u,fX,Y,jf D q⟩
variable {ft:PTp}
def yS (n:Nat):List Int:=(List.range n).map λi:Nat=>(i:Int)+1
theorem jJ(n):fv (yS n)=n:=by simp[yS]
theorem Fv{n j:Nat}(a:j<n):(yS n)[j]?=fh ((j:Int)+1):=by simp[yS,a]
theorem Sc{n j:Nat}(c:j<n)(a:List Int):placeOf (yS n++a) ((j:Int)+1)=fh j:=by
 unfold placeOf;rw[lv<|by omega];have b:j<fv (yS n++a):=by simp[jJ];omega
 refine yM.2 ⟨b,?_,λi U=>?_⟩
 all_goals grind [yS,Int,wz,jJ,Fv,wI]
theorem Xm{n:Nat}(b:id<1\/(n:Int)<id)(a:List Int)(c:∀z∈a,z=0):placeOf (yS n++a) id=fj:=by
 grind [placeOf,Wn,yS]
theorem rq(a:F g):fH F w (w.setCell (ie g j) v):=
 ⟨fX,fX,fX,by simp,λk c b=>sI _ _ _ _ λe=>b (by cases e;exact a)⟩
theorem mM{b}{t a}{z n}{v f}{c}{h:Array fu}(d:w.ownsRow b t z v n c)(i:w.heap[g]?=fh (.cells h a (0,0)))(l:a≠t):(w.setCell (ie g j) f).ownsRow b t z v n c:=
 gg d λk m=>sI _ _ _ _ λe=>il d i l (by cases e;exact m.symm)
theorem gH.ab7(a:gH F w W s r (fh<|ie g 0) ka pa ic kc pc ids I paths c5 c6 c7 c8 c9 R c11)(j)(x:Int):
  gH F (w.setCell (ie g j)<|fY x) W s r (fh<|ie g 0) ka pa ic kc pc (ids.set j x) I paths c5 c6 c7 c8 c9 R c11/\fH F w (w.setCell (ie g j)<|fY x):=by
 have⟨d,c⟩:=gZ a.rV fX;have b:fv (ids.set j x)=fv ids:=by simp
 refine⟨⟨a.fw,?_,?_,mM a.ur c<|by decide,mM a.uu c<|by decide,?_,a.fk,a.fp⟩,rq<|a.fi g fX⟩;rw[b,sI _ _ _ _ λe=>il a.rV a.hW (by decide) (by rw[show W=g from e];rfl)];exact a.hW;rw[b]
 have:=(a.rV.stored j<|fY x).1
 grind [encI,List.map_set]
 rw[b];exact a.fi
theorem gH.ab8(a:gH F w W s r ia (fh<|ie g 0) pa ic kc pc ids I paths c5 c6 c7 c8 c9 R c11)(j)(x:Bool):
  gH F (w.setCell (ie g j)<|fE x) W s r ia (fh<|ie g 0) pa ic kc pc ids (I.set j x) paths c5 c6 c7 c8 c9 R c11/\fH F w (w.setCell (ie g j)<|fE x):=by
 have⟨d,c⟩:=gZ a.ur fX;have b:fv (I.set j x)=fv I:=by simp
 refine⟨⟨a.fw,?_,mM a.rV c<|by decide,?_,mM a.uu c<|by decide,a.fi,?_,a.fp⟩,rq<|a.fk g fX⟩;rw[b,sI _ _ _ _ λe=>il a.ur a.hW (by decide) (by rw[show W=g from e];rfl)];exact a.hW;rw[b]
 have:=(a.ur.stored j<|fE x).1
 grind [Xa,List.map_set]
 rw[b];exact a.fk
def mG (F:Nat->Prop)(w:fq)(W s r n:Nat)(c5 c6 c7 c8 c9 R c11:fu):Prop:=
 ∃ia ka pa ic kc pc paths,gH F w W s r ia ka pa ic kc pc (yS n) (List.replicate n fm) paths c5 c6 c7 c8 c9 R c11/\fv paths=n/\pX paths
def gR (O:List Ob):Prop:=∀i(U:i<fv O),∀e∈O[i].gh,0<=e.2.2/\e.2.2<(i:Int)
theorem Di{w c d}(a:fH F w c)(b:ju c d):fH F w d:=
 ⟨b.os.trans a.os,b.tape.trans a.tape,b.output.trans a.output,ww a.size b.size,λk e f=>(b.block k (nz e a.size)).trans<|a.block k e f⟩
theorem mG.mono{W s r n}{c5 c6 c7 c8 c9 R c11}(a:mG F w W s r n c5 c6 c7 c8 c9 R c11)(hF:∀k,F k->F' k):mG F' w W s r n c5 c6 c7 c8 c9 R c11:=by
 have⟨ia,ka,pa,ic,kc,pc,paths,b,c⟩:=a;exact⟨ia,ka,pa,ic,kc,pc,paths,b.mono hF,c⟩
def Bc (K:Nat->Bool)(n:Nat):List Int:=(List.range n).map λi:Nat=>if K i then(i:Int)+1 else 0
def Fw (K:Nat->Bool)(n:Nat):List Bool:=(List.range n).map K
def qP (K:Nat->Bool)(j:Nat):Nat->Bool:=λi=>K i ||decide (i=j)
def oA(K:Nat->Bool)(n):fv (Bc K n)=n:=by simp[Bc]
def Fx(K:Nat->Bool)(n):fv (Fw K n)=n:=by simp[Fw]
def NQ{n j:Nat}(a:j<n):(Bc K n)[j]?=fh (if K j then(j:Int)+1 else 0):=by simp[Bc,a]
def ezj{n j:Nat}(a:j<n):(Fw K n)[j]?=fh (K j):=by simp[Fw,a]
theorem Ju{α:Type}(a g:Nat->α)(n j)(x:α)(b:g j=x)(c:∀i,i≠j->g i=a i):((List.range n).map a).set j x=(List.range n).map g:=by
 apply cos<|by simp
 grind
theorem eFn(K:Nat->Bool)(n j):(Bc K n).set j ((j:Int)+1)=Bc (qP K j) n:=Ju _ _ n j _ (by simp[qP]) (λi U=>by simp[qP,U])
theorem fap(K:Nat->Bool)(n j):(Fw K n).set j fm=Fw (qP K j) n:=Ju _ _ n j _ (by simp[qP]) (λi U=>by simp[qP,U])
theorem itc{n j:Nat}(a:j<n):placeOf (Bc K n) ((j:Int)+1)=if K j then fh j else fj:=by
 unfold placeOf;rw[lv<|by omega];have b:∀i(U:i<fv (Bc K n)),(Bc K n)[i]=if K i then(i:Int)+1 else 0:=λi U=>by simp[Bc]
 split
 rename_i c
 refine yM.2 ⟨by rw[oA];exact a,by rw[b,lv c];simp,λi U=>?_⟩
 grind
 grind [Wn,rI]
theorem range_split(n m:Nat)(d:m<=n){α:Type}(a g:Nat->α)(z:α)(b:∀i,i<m->a i=g i)(c:∀i,m<=i->a i=z):(List.range n).map a=(List.range m).map g++List.replicate (n-m) z:=by
 apply cos (by simp;omega);intro i f h;simp only[yP,List.getElem_range,Ro,List.getElem_replicate,oL,List.length_range];split
 rename_i e
 exact b i e
 rename_i e
 exact c i<|by omega
def sM (F:Nat->Prop)(w:fq)(W s r n:Nat)(K:Nat->Bool)(c5 c6 c7 c8 c9 R c11:fu):Prop:=
 ∃ia ka pa ic kc pc ids I paths,gH F w W s r ia ka pa ic kc pc ids I paths c5 c6 c7 c8 c9 R c11/\fv I=fv ids/\fv paths=fv ids/\pX paths/\fv ids<=n/\ids++List.replicate (n-fv ids) 0=Bc K n/\I++List.replicate (n-fv ids) fo=Fw K n
theorem sM.mono{n}(a:sM F w W s r n K c5 c6 c7 c8 c9 R c11)(hF:∀k,F k->F' k):sM F' w W s r n K c5 c6 c7 c8 c9 R c11:=by
 have⟨ia,ka,pa,ic,kc,pc,ids,I,paths,b,c⟩:=a;exact⟨ia,ka,pa,ic,kc,pc,ids,I,paths,b.mono hF,c⟩
theorem sM.drew{n}(a:sM F w W s r n K c5 c6 c7 c8 c9 R c11):sM F w.drew W s r n K c5 c6 c7 c8 c9 R c11:=by
 have⟨ia,ka,pa,ic,kc,pc,ids,I,paths,b,c⟩:=a;exact⟨ia,ka,pa,ic,kc,pc,ids,I,paths,b.keep (λ_ a=>a) λ_ _=>rfl,c⟩
def sM.whole{n}(b:gH F w W s r ia ka pa ic kc pc (Bc K n) (Fw K n) paths c5 c6 c7 c8 c9 R c11)(a:fv paths=n/\pX paths):sM F w W s r n K c5 c6 c7 c8 c9 R c11:=
 ⟨ia,ka,pa,ic,kc,pc,_,_,paths,b,by rw[oA,Fx],by rw[oA];exact a.1,a.2,by rw[oA];exact lw _,by rw[oA,EK];simp,by rw[oA,EK];simp⟩
theorem mG.toK{n m:Nat}(b:mG F w W s r m c5 c6 c7 c8 c9 R c11)(a:m<=n):sM F w W s r n (λi=>decide (i<m)) c5 c6 c7 c8 c9 R c11:=by
 have⟨ia,ka,pa,ic,kc,pc,paths,c,d,e⟩:=b;refine⟨ia,ka,pa,ic,kc,pc,_,_,paths,c,by simp[jJ],by rw[jJ];exact d,e,by rw[jJ];exact a,?_,?_⟩;rw[jJ];exact(range_split n m a _ _ _ (λi U=>by simp[U]) (λi U=>by simp;omega)).symm;rw[jJ,show List.replicate m fm=(List.range m).map (λ_=>fm) by rw[List.map_const',List.length_range]];exact(range_split n m a _ (λ_=>fm) _ (λi U=>by simp[U]) (λi U=>by simp;omega)).symm
theorem sM.toS{n}(f:sM F w W s r n K c5 c6 c7 c8 c9 R c11)(a:∀i,i<n->K i=fm):mG F w W s r n c5 c6 c7 c8 c9 R c11:=by
 have⟨ia,ka,pa,ic,kc,pc,ids,I,paths,h,p,j,k,l,b,d⟩:=f;have c:fv ids=n:=by
  refine Nat.le_antisymm l (Nat.le_of_not_lt λe=>?_)
  have:=NQ (K:=K) e
  rw[<-b,BX<|lw _,EK,lv<|a _ e,List.getElem?_replicate,lv<|by omega]at this
  have:=rK this
  omega
 have m:ids=yS n:=by
  rw[c,EK,hMs,lJ]at b;rw[b];exact KW λi U=>by rw[lv<|a i (Rp.1 U)]
 have o:I=List.replicate n fm:=by
  rw[c,EK,hMs,lJ]at d;rw[d];unfold Fw;rw[KW (g:=λ_=>fm) λi U=>a i<|Rp.1 U,List.map_const',List.length_range]
 subst m o;exact⟨ia,ka,pa,ic,kc,pc,paths,h,by rw[j,c],k⟩
def ps2 (A:List Ob)(K a:Nat->Bool)(j:Nat):Prop:=(∀i,K i=fm->a i=fm)/\a j=fm/\∀i o,a i=fm->K i=fo->A[i]?=fh o->∀e∈o.gh,o.kind=2->a (e.2.2-1).toNat=fm
def zJ (A:List Ob)(F:Nat->Prop)(w:fq)(W s r n:Nat)(K:Nat->Bool)(j:Nat)(c5 c6 c7 c8 c9 R c11:fu)(e:Ending)(J:fq):Prop:=
 e=fF (fE fm)/\∃a,sM (kB F w J) J W s r n a c5 c6 c7 c8 c9 R c11/\fH F w J/\ps2 A K a j
theorem NR{n j:Nat}(az:j<n)(b:sM F w W s r n K c5 c6 c7 c8 c9 R c11)(aj:gi G w r O)(aV:iP ft M w s A)(aA:∀k,G k->k<w.heap.size/\¬F k)(aW:∀k,M k->k<w.heap.size/\¬F k)(aX:∀k,F k->k<w.heap.size)
  (ak:fv O=n)(aY:fv A=n)(aB:gR O)(aZ:∀i(f:i<fv A)(p:i<fv O),xg A[i] O[i])
  (bb:∀i,i<j->∀(F':Nat->Prop)(J:fq)(x:Nat->Bool),sM F' J W s r n x c5 c6 c7 c8 c9 R c11->gi G J r O->iP ft M J s A->(∀k,G k->k<J.heap.size/\¬F' k)->(∀k,M k->k<J.heap.size/\¬F' k)->(∀k,F' k->k<J.heap.size)->
   ik 37 #[ii W,fY (i:Int),fY<|(i:Int)+1] J (zJ A F' J W s r n x i c5 c6 c7 c8 c9 R c11)):
  ik 37 #[ii W,fY (j:Int),fY<|(j:Int)+1] w (zJ A F w W s r n K j c5 c6 c7 c8 c9 R c11):=by
 have⟨ia,ka,pa,ic,kc,pc,ids,I,paths,h,bc,bd,be,bC,bf,bg⟩:=b;have bD:n<=400:=by have⟨_,_,b⟩:=aj;rw[<-ak];exact b.many
 have al:=Xb h aj aA bc bd (by omega) aB be;unfold lz at al;rw[ak,bf,bg]at al;have bE:fe (gi G w r O):=aj;have bF:fe (iP ft M w s A):=aV;have am:fe (∀k,G k->k<w.heap.size/\¬F k):=aA;have Y:fe (∀k,M k->k<w.heap.size/\¬F k):=aW;have bG:fe (∀k,F k->k<w.heap.size):=aX;have bH:fe (gR O):=aB;have bI:fe (fv O=n/\fv A=n):=⟨ak,aY⟩;have H:j<fv O:=by omega
 have Z:j<fv A:=by omega
 have aC:fe (xg A[j] O[j]):=aZ j Z H;have bJ:fe _:=bb;have bh:fe (fv ids+(n-fv ids)=n):=Hc<|by omega
 clear h aj aV aA aW aX aB aZ ak aY bb bc bd be bC bf bg;go_enter func37,ntmps37;go_wp2_with fail;refine al.via λz⟨ia,ka,pa,ic,kc,pc,paths,h,an,aD,t⟩=>?_
 rw[bh.o]at an;clear al bh;have C:=Cn h ((j:Int)+1) (by rw[oA];exact bD);rw[itc az]at C;have bi:=h.c2;have bj:=h.c3;rw[oA]at bi;rw[Fx]at bj;have bK:=h.lt;have⟨g,bL,bM,aa,_⟩:=row_one h.rV (i:=j) (v:=.int .i64<|if K j then(j:Int)+1 else 0) (by simp[encI,NQ az]);subst bL;have⟨gk,bN,bO,aE,_⟩:=row_one h.ur (i:=j) (v:=fE<|K j) (by simp[Xa,ezj az]);subst bN;have bQ:z.frozen? (ie g j)=fo:=by have:=h.rV;rw[oA]at this;exact this.frozenAt j
 have cu:decide ((j:Int)+1<1)=fo:=yv (by omega);have cv:(j:Int)<(n:Int):=by omega
 have aF:fe (fv paths=n/\pX paths):=⟨an,aD⟩;cases ab:K j with
 |true=>
  rw[ab]at C aa aE;simp only[dat]at C aa;have ao:ik 41 #[ii W,fY<|(j:Int)+1] z (UV (fY (j:Int)) z):=C
  clear C;have cw:=vA aa;have cx:((j:Int)+1 != 0)=fm:=by simp;omega
  have cy:((j:Int)+1 != (j:Int)+1)=fo:=by simp
  have cz:((j:Int) != (j:Int))=fo:=by simp
  have aG:fe (zJ A F w W s r n K j c5 c6 c7 c8 c9 R c11 (fF<|fE fm) z):=⟨fX,K,sM.whole h aF.o,t,λ_ b=>b,ab,λi o f p=>by rw[f]at p;cases p⟩;clear h aD t an ab;go_wp2_with fail;refine ao.still ?_;go_wp2;go_ret;exact aG.o
 |false=>
  rw[ab]at C aa aE;simp only[km<|Bool.false_ne_true]at C aa;have ao:ik 41 #[ii W,fY<|(j:Int)+1] z (UV (fY<|-1) z):=C
  clear C;have bR:z.frozen? (ie gk j)=fo:=by have:=h.ur;rw[Fx]at this;exact this.frozenAt j
  have cA:g≠gk:=by
   have⟨_,f⟩:=gZ h.rV fX;have⟨_,p⟩:=gZ h.ur fX;exact oq f p<|by decide
  have cC:g≠W:=by
   have⟨_,f⟩:=gZ h.rV fX;exact oq f h.hW<|by decide
  have cD:gk≠W:=by
   have⟨_,f⟩:=gZ h.ur fX;exact oq f h.hW<|by decide
  have aH:=h.ab7 j<|(j:Int)+1;have ap:=aH.1.ab8 j fm;rw[eFn,fap]at ap;have aI:fe _:=ap;have B:fe (fH F w<|(z.setCell (ie g j) (fY<|(j:Int)+1)).setCell (ie gk j) (fE fm)):=by
   have a:fH (kB F w z) z ((z.setCell (ie g j)<|fY ((j:Int)+1)).setCell (ie gk j)<|fE fm):=⟨fX,fX,fX,by simp,λk c aq=>(ap.2.block k (by simpa using c) aq).trans<|aH.2.block k c aq⟩;exact iW t a
  have cE:fe (K j=fo):=ab;clear h aD t aH ap an ab;go_wp2_with fail;refine ao.mono ?_;rintro e aJ ⟨rfl,rfl⟩;clear ao;go_wp2_with fail;have bS:aJ.heap.size=((aJ.setCell (ie g j)<|fY ((j:Int)+1)).setCell (ie gk j)<|fE fm).heap.size:=by simp
  obtain⟨l,bk⟩:=oX<|(aJ.setCell (ie g j) (fY<|(j:Int)+1)).setCell (ie gk j) (fE fm);rw[<-bk]at aI B bS |-;have bl:gH (kB F w l) l W s r (fh<|ie g 0) (fh<|ie gk 0) pa ic kc pc (Bc (qP K j) n) (Fw (qP K j) n) paths c5 c6 c7 c8 c9 R c11:=aI.o.1.mono (λk c=>by rcases c with b|b;exact .inl b;exact .inr ⟨b.1,by omega⟩);have ar:fe (gH (kB F w l) l W s r (fh<|ie g 0) (fh<|ie gk 0) pa ic kc pc (Bc (qP K j) n) (Fw (qP K j) n) paths c5 c6 c7 c8 c9 R c11):=bl;have au:fe (gi G l r O):=xZ bE.o am.o B.o;have av:fe (iP ft M l s A):=bF.o.keep (λ_ b=>b) λk c=>B.o.block k (Y.o k c).1 (Y.o k c).2;have bm:fe (∀i,K i=fm->qP K j i=fm):=λi U=>by simp[qP,U]
  have bn:fe (∀i,qP K j i=fm->K i=fo->i=j):=λi f p=>by simpa [qP,p]using f
  clear bl aa aE bQ bR bi bj bM bO bk aI bK;have bT:A[j].kind=1\/A[j].kind=2:=by exact av.o.2.2.1.kinds _<|kK Z
  rcases bT with N|N
  ·have P:=Sa ar.o au.o av.o j Z H N aC.o
   have bU:fe (ps2 A K (qP K j) j):=⟨bm.o,by simp[qP],λi o f p D e E Q=>by
    rw[bn.o i f p,jG Z]at D;cases D;rw[N]at Q;cases Q⟩
   clear N;refine P.via λu y=>?_
   clear P;have aG:fe (zJ A F w W s r n K j c5 c6 c7 c8 c9 R c11 (fF<|fE fm) u):=⟨fX,_,sM.whole ((ar.o.below y).mono (λk c=>by rcases c with b|b;exact .inl b;exact .inr ⟨b.1,nz b.2 y.size⟩)) aF.o,Di B.o y,bU.o⟩;go_wp2
   go_loopw [9,10] (λo i wr=>o=fE fm/\i=.int .i64 0/\wr=u) (λ_ _ _=>0)
   case atStart=>exact⟨rfl,rfl,rfl⟩
   case round=>
    obtain⟨rfl,rfl,rfl⟩:=hrel;go_wp2;go_ret;exact aG.o
  have P:=Xl ar.o au.o av.o j Z H N aC.o;have af:=aC.o.gh N;obtain⟨es,aK⟩:=oX<|A[j].gh;rw[<-aK]at P af;have aL:=bH.o j H;rw[af]at aL;have bV:fe (∀e∈es,1<=e.2.2/\e.2.2<=(j:Int)):=λe E=>by
   have:0<=e.2.2-1/\e.2.2-1<(j:Int):=aL (gF e)<|DY E
   omega
  have bo:fe (fv es<=16):=by
   have⟨_,_,S⟩:=au.o;have f:=(S.zx _<|kK H).len;have p:=(S.zx _<|kK H).few;rw[af,oL]at f;show _<=_;omega
  have bW:fe (O[j].gh=es.map gF):=af;have bp:fe (A[j]?=fh A[j]/\es=A[j].gh):=⟨jG Z,aK⟩;clear N af aL aK;obtain⟨m,aM⟩:=oX<|fv es;rw[<-aM]at P bo;have cF:m<=16:=bo.o;have aN:fe (m=fv es):=aM;clear aM;apply P.mono;rintro e u ⟨T,rfl,aO,y⟩;clear P;have bq:fe (T<u.heap.size/\l.heap.size<=T):=by have:=aO.lt T fX;exact⟨this.2,this.1⟩
  have bX:fe (u.ownsRow l.heap.size 96 3 (my T 0 m m) m<|flat es):=aO;have br:fe (∀k,kB F w l k->k<l.heap.size):=λk c=>by rcases c with b|b;exact nz (bG.o k b) B.o.size;exact b.2
  have bY:fe (sM (kB F w l) u W s r n (qP K j) c5 c6 c7 c8 c9 R c11):=sM.whole (ar.o.below y) aF.o;have bZ:fe (gi G u r O):=au.o.below y λ_ b=>b;have ca:fe (iP ft M u s A):=av.o.keep (λ_ b=>b) λk c=>y.block k<|nz (Y.o k c).1 B.o.size;have HG4:fe (∀k,G k->k<u.heap.size/\¬kB F w l k):=λk c=>⟨nz (am.o k c).1<|ww B.o.size y.size,λb=>by rcases b with b|b;exact(am.o k c).2 b;have:=(am.o k c).1;omega⟩;have ag:fe (∀k,M k->k<u.heap.size/\¬kB F w l k):=λk c=>⟨nz (Y.o k c).1<|ww B.o.size y.size,λb=>by rcases b with b|b;exact(Y.o k c).2 b;have:=(Y.o k c).1;omega⟩;clear aO;go_wp2
  go_loopw [9,10] (λo i wr=>∃k:Nat,k<=m/\o=fE fm/\i=.int .i64 k/\fe (∃x,sM (kB (kB F w l) u wr) wr W s r n x c5 c6 c7 c8 c9 R c11/\fH (kB F w l) u wr/\(∀i,qP K j i=fm->x i=fm)/\(∀i o,x i=fm->qP K j i=fo->A[i]?=fh o->∀e∈o.gh,o.kind=2->x (e.2.2-1).toNat=fm)/\∀i(U:i<fv es),i<k->x (es[i].2.2-1).toNat=fm)) (λ_ i _=>m-(intOf i).toNat)
  case atStart=>exact⟨0,Fr _,rfl,rfl,qP K j,bY.o.mono λk c=>.inl c,⟨rfl,rfl,rfl,lw _,λ_ _ _=>rfl⟩,λ_ b=>b,λi o f p=>by(rw[f]at p;cases p),λi U b=>by omega⟩
  case round=>
   obtain⟨k,c,rfl,rfl,aP⟩:=hrel;have⟨aw,ah,t,V,ac,ad⟩:=aP.o;by_cases cb:k<m
   ·have aQ:k<fv es:=by rw[<-aN.o];exact cb
    have bs:=xZ bZ.o HG4.o t;have bt:=t.size;have cc:=ah;have⟨_,_,_,_,_,_,_,_,_,bu,_⟩:=cc;have cG:=bu.c1;have cd:=bs;have⟨cH,cI,S⟩:=cd;have ce:=S.c0;rw[bI.o.1]at ce;have⟨cJ,cf,cK,_,_,bv,_⟩:=mW S.row fX H;subst cf;have aR:=S.zx _<|kK H;have ae:=aR.row;have ax:=aR.len;rw[bW.o]at ae ax;rw[oL,<-aN.o]at ax;rw[<-ax]at ae bv;have⟨cg,cL,bw⟩:=hh ae (by omega);rw[(lK bw).1]at ae bv;have⟨_,_,aS⟩:=lr (off:=0) (ks ae) (i:=k) (by simpa using aQ);rw[iR,yP]at aS;have⟨ch,ci⟩:=bV.o es[k]<|kK aQ;obtain⟨L,aT⟩:∃L:Nat,es[k].2.2=(L:Int)+1:=⟨(es[k].2.2-1).toNat,by omega⟩;have cN:wr.c cg (k*3+2)=fh (fY (L:Int)):=by rw[aS];unfold gF;rw[aT];simp
    have bx:wr.ownsRow 0 96 3 (my T 0 m m) m (flat es):=gg (tR bX.o<|Fr _) (λq d=>by
     cases d;exact t.block T bq.o.1 (λb=>by have:=br.o T b;have:=bq.o.2;omega))
    have⟨_,_,cj⟩:=lr (off:=0) (ks bx) aQ;rw[iR,aT]at cj;have ck:fe (ik 37 #[ii W,fY (L:Int),fY<|(L:Int)+1] wr.drew<|zJ A (kB (kB F w l) u wr) wr.drew W s r n aw L c5 c6 c7 c8 c9 R c11):=by
     have z4:=y.size;refine bJ.o L (by omega) _ wr.drew aw (sM.drew ah) (bs.keep (λ_ b=>b) λ_ _=>rfl) (ca.o.keep (λ_ b=>b) λq d=>t.block q (ag.o q d).1 (ag.o q d).2) (λq d=>⟨nz (HG4.o q d).1 bt,λb=>by rcases b with b|b;exact(HG4.o q d).2 b;have:=(HG4.o q d).1;omega⟩) (λq d=>⟨nz (ag.o q d).1 bt,λb=>by rcases b with b|b;exact(ag.o q d).2 b;have:=(ag.o q d).1;omega⟩) (λq d=>by
      rcases d with b|b
      have:=br.o q b
      show q<wr.heap.size;omega;exact b.2)
    have cl:fe ((es[k].2.2-1).toNat=L):=Hc<|by omega
    have cm:fe _:=And.intro V<|And.intro ac ad;have cO:(k:Int)<(m:Int):=by omega
    clear bu S aR ax ae bw aS bx ch ci aT V ac ad ah aP;go_wp2;apply sat 21 (by kernel_rfl) (by kernel_rfl);simp only[Wo,MZ,MW,Eb]
    iterate 21 still_step
    apply sym;go_wp2_with fail;refine ck.o.via λaU⟨cn,bz,X,ay,bA,bB⟩=>?_
    have cp:fe (∃x,sM (kB (kB F w l) u aU) aU W s r n x c5 c6 c7 c8 c9 R c11/\fH (kB F w l) u aU/\(∀i,qP K j i=fm->x i=fm)/\(∀i o,x i=fm->qP K j i=fo->A[i]?=fh o->∀e∈o.gh,o.kind=2->x (e.2.2-1).toNat=fm)/\∀i(U:i<fv es),i<k+1->x (es[i].2.2-1).toNat=fm):=by
     have⟨V,ac,ad⟩:=cm.o;refine⟨cn,bz.mono λq d=>nD t.size X.size d,iW t ⟨X.os,X.tape,X.output,X.size,X.block⟩,λi U=>ay i<|V i U,λi o f p D e E Q=>?_,λi U f=>?_⟩;cases ai:aw i with
     |true=>exact ay _<|ac i o ai p D e E Q
     |false=>exact bB i o f ai D e E Q
     by_cases cq:i=k;subst cq;rw[cl.o];exact bA;exact ay _<|ad i U (by omega)
    clear bz X ay bA bB;go_wp2;go_roundw
    case rel=>exact⟨k+1,by omega,rfl,by go_num,cp.o⟩
    case measure=>simp[intOf];omega
   have cr:fe (zJ A F w W s r n K j c5 c6 c7 c8 c9 R c11 (fF<|fE fm) wr):=by
    have cQ:=B.o.size;have cS:=y.size;have cT:=t.size;refine⟨fX,aw,ah.mono λq d=>?_,?_,λi U=>V i<|bm.o i U,V j (by simp[qP]),λi o f p D e E Q=>?_⟩;rcases d with(b|b)|b
    exact .inl b;exact .inr ⟨b.1,by omega⟩;exact .inr ⟨by omega,b.2⟩;refine iW (Di B.o y) ⟨t.os,t.tape,t.output,t.size,λq d aq=>t.block q d λb=>aq ?_⟩;rcases b with b|b
    exact .inl b;exact .inr ⟨b.1,by omega⟩;cases ai:qP K j i with
    |true=>
     have ct:=bn.o i ai p;subst ct;rw[bp.o.1]at D;cases D;rw[<-bp.o.2]at E;obtain⟨q,d,rfl⟩:=rI E;exact ad q d (by have:=aN.o;omega)
    |false=>exact ac i o f ai D e E Q
   have cU:decide ((k:Int)<(m:Int))=fo:=yv (by omega);clear V ac ad ah aP;go_wp2;go_ret;exact cr.o
theorem Sd{n:Nat}(d:fv O=n)(e:fv A=n)(f:gR O)(g:∀i(b:i<fv A)(c:i<fv O),xg A[i] O[i])(j:Nat):j<n->∀(F':Nat->Prop)(J:fq)(a:Nat->Bool),sM F' J W s r n a c5 c6 c7 c8 c9 R c11->gi G J r O->iP ft M J s A->(∀k,G k->k<J.heap.size/\¬F' k)->(∀k,M k->k<J.heap.size/\¬F' k)->(∀k,F' k->k<J.heap.size)->
   ik 37 #[ii W,fY (j:Int),fY<|(j:Int)+1] J (zJ A F' J W s r n a j c5 c6 c7 c8 c9 R c11):=by
 induction j using Nat.strongRecOn with
 |ind j h=>exact λl F' J a b c m o p q=>NR l b c m o p q d e f g λi U=>h i U<|by omega
