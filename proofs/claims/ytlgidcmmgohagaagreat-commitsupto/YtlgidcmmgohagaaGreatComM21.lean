/- A part of the proof. -/
import Derived.Test.YtlgidcmmgohagaaGreatComM08
import Derived.Deep.CutRange
set_option linter.all false
namespace Go.Proofs.YtlgidcmmgohagaaGreat
open Go.RowKit Go.Sort Go.Shelf Go.Proofs.Tryz
open Go.Value renaming slice->fy,string->fA,pointer->fB,tuple->fC,agg->fD,bool->fE
open Go.Ending renaming returned->fF
open Option renaming some->fh,none->fj
open Bool renaming true->fm,false->fo
open Go renaming World->fq,Value->fu
open List renaming length->fv,reverse->fx
open Go.RowKit renaming Hid->fe
set_option maxRecDepth 100000
set_option maxHeartbeats 0
def Eo{P:Program}(w)(t a e:lV)(i:TypeInfo)(b:P.underlying t=fh (.slice e))(U:P.info? e=fh i):(Builtin.append_ #[t,t] a #[fy fj 0 0,fy fj 0 0]).run P w=.ok (fy fj 0 0) w:=by
 simp[Builtin.append_,WI b,sizeOf,typeInfo,U,Builtin.lenOf,Builtin.firstCells]
theorem uW{P:Program}{o:Array Oper}{b:Oper}{a:Act}{w:fq}{p:Act->fq->Prop}{D:Exit->Act->fq->Prop}{E:Prop}
  (F:b.guard=fj)(s x:Operand)(t:lV)(q:b.op=Op.call { callee:=Callee.builtin Builtin.append,args:=#[s,x],argTypes:=#[t,t] })
  (e:lV)(i:TypeInfo)(z:fu)(d bytes:Nat)(r:P.underlying t=fh (.slice e))(u:P.info? e=fh i)(G:i.zero=fh z)(I:i.size=d)(J:i.bytes=bytes)(K:z.cells.size=d)(L:0<d)
  (v:a.eval s=fy fj 0 0)(y:ig)(n c)(j)(A:a.eval x=fy y n c)(k:w.ownsRow 0 e d (fy y n c) n j)(M:∀N∈j,N.oneCell'=fm)
  (S:n<=maxLen)(T:n*bytes<=140737488355328)
  (B:∀f H,H.ownsRow 0 e d f n j->w.grownBy H fj->(f.ownBlock=fj\/f.ownBlock=fh w.heap.size)->p (a.put b.dst f) H):
  if Region.wanted b (yielded o a.tmps)=fm then Oper.wp P b a w p D else E:=by
 have O:Region.wanted b (yielded o a.tmps)=fm:=by simp[Region.wanted,F]
 rw[lv O];rcases k.2 with⟨l,U⟩|⟨g,h,V,l,_⟩
 cases l;have m:=Eo (P:=P) w t b.type e i r u;unfold Oper.wp;simp[execOp,q,resolve,invoke,builtin,v,A,m,Result.andThen];exact B _ _ k ⟨fX,fX,fX,lw _,λ_ _ _=>rfl⟩<|.inl fX;cases l;have⟨f,H,m,C,Q,_,R⟩:=sec (P:=P) w 0 t b.type e i z d bytes r u G I J K L (fy fj 0 0) 0 [] (kO w _ e d) (ii g 0) n c j k.1 (k.cells (g:=g) fX) M (by omega) (by grind)<|zt _;rw[iO,Hx]at C;unfold Oper.wp;simp[execOp,q,resolve,invoke,builtin,v,A,m,Result.andThen];exact B _ _ C Q R
theorem gp.aas{h}{w}{c}{j l}{m n}{E}{data}{rest}(a:gp h w c j l m n E data rest)(d:Nat)(g:fu):
  gp h (w.setCell (ii c<|2+d) g) c j l m n E data (rest.set d g)/\fH h w (w.setCell (ii c<|2+d) g):=by
 have i:∀b,b≠c->(w.setCell (ii c<|2+d) g).heap[b]?=w.heap[b]?:=λb f=>vh _ _ _ _ f;refine⟨⟨a.fS,?_,gg a.lT λb f=>i b λe=>?_,gg a.jq λb f=>i b λe=>?_,a.fn,a.fd⟩,⟨fX,fX,fX,by simp,λk q o=>i k λe=>o (by rw[e];exact a.fS)⟩⟩;have p:(2+d)=d+1+1:=by omega
 simp[World.setCell,BV,a.hS,p];subst e;exact io a.lT a.hS (by decide) f.symm;subst e;exact io a.jq a.hS (by decide) f.symm
abbrev St:=List fV×fT
def iV (a b:fP):fP:=if a.toList=[]then b else a++⟨#[47]⟩++b
def Ag (J:List Ob)(i:Int):fP:=((J[i.toNat]?).map (λa:Ob=>a.data)).getD ⟨#[]⟩
def Ey (J:List Ob)(i:Nat):List fV:=((J[i]?).map (λa:Ob=>a.gh)).getD []
def Hm (J:List Ob)(rec:Nat->fP->St->St)(b:fP)(a:St)(e:fV):St:=
 if e.2.1=1 then(a.1++[(iV b e.1,1,(fv a.2:Int))],a.2++[Ag J e.2.2])else rec e.2.2.toNat (iV b e.1) (a.1++[(iV b e.1,2,0)],a.2)
def jA (J:List Ob):Nat->Nat->fP->St->St
 |0,_,_,a=>a
 |fuel+1,at_,b,a=>(Ey J at_).foldl (Hm J (jA J fuel) b) a
def su (a b:St):Prop:=fv a.1<=fv b.1/\fv a.2<=fv b.2
def su.trans{a b c:St}(d:su a b)(k:su b c):su a c:=⟨wy d.1 k.1,wy d.2 k.2⟩
def zq(J)(rec:Nat->fP->St->St)(c:∀i p a,su a<|rec i p a)(b)(a:St)(e):su a (Hm J rec b a e):=by
 unfold Hm;split;exact⟨by simp,by simp⟩
 have:=c e.2.2.toNat (iV b e.1) (a.1++[(iV b e.1,2,0)],a.2)
 exact⟨wy (by simp) this.1,this.2⟩
def Ah(J)(rec:Nat->fP->St->St)(c:∀i p a,su a<|rec i p a)(b):∀(d:List fV)(a:St),su a<|d.foldl (Hm J rec b) a
 |[],a=>⟨lw _,lw _⟩
 |e::f,a=>(zq J rec c b a e).trans<|Ah J rec c b f _
def Ai(J):∀(fuel i:Nat)(p:fP)(a:St),su a<|jA J fuel i p a
 |0,_,_,_=>⟨lw _,lw _⟩
 |fuel+1,i,p,a=>Ah J _ (Ai J fuel) p _ a
variable {S b c4 dc g4 j nc nn q:Nat}{data ds:fT}{rest:iN}{da na:ig}{v:fu}{x:fP}{w H O w4 wr:fq}{F F':Nat->Prop}{E ns:List fV}{o:Obj}
variable {F:Nat->Prop}{w:fq}{S nc dc:Nat}{na da:ig}{E:List fV}{data:fT}{rest:iN}
theorem gp.aaB(a:gp F w S na da nc dc E data rest){b R:Nat}(e:H.heap[S]?=fh (.cells ((Value.slice na (fv E) nc::Value.slice da (fv data) dc::rest).toArray.setIfInBounds 1<|my b 0 (fv data+1) R) 179 (0,0))/\
   H.ownsRow 0 9 1 (my b 0 (fv data+1) R) (fv data+1) (gO data++[hh x])/\((fh b:Option Nat)=(Value.slice da (fv data) dc).ownBlock\/w.heap.size<=b)/\fH (λk=>k=S\/fh k=(Value.slice da (fv data) dc).ownBlock) w H):
  gi (kA F w H) H S E (data++[x]) rest/\fH F w H:=by
 have⟨i,f,g,d⟩:=e;have h:fv (data++[x])=fv data+1:=by simp
 refine⟨⟨na,nc,fh<|ii b 0,R,⟨.inl a.fS,?_,?_,?_,?_,?_⟩⟩,uk d a.fS a.fd⟩
 grind
 exact nC a.lT d a.hS (by decide) λb c=>IR a.lT a.jq (by decide) c
 grind [gO]
 intro b c;exact .inl<|a.fn b c;rw[h];exact AF f g a.fd
theorem gi.DI(a:gi F w S E data rest)(hF:∀k,F k->F' k):gi F' w S E data rest:=by
 have⟨na,nc,da,dc,a⟩:=a;exact⟨na,nc,da,dc,a.keep hF λ_ _=>rfl⟩
def Qa{x}(a:gp (kA F O wr) wr S na da nc dc ns ds rest)(c:fH F O wr)(e:nn=fv ns)
  (f:w4.ownsRow 0 200 3 (my g4 0 (nn+1) c4) (nn+1) (flat ns++pA x))(g:((wr.drewN q).alloc o).grownBy w4 (Value.slice na nn nc).ownBlock)(h:(Value.slice (fh<|ii g4 0) (nn+1) c4).ownBlock=(Value.slice na nn nc).ownBlock\/(Value.slice (fh<|ii g4 0) (nn+1) c4).ownBlock=fh b)(j:wr.heap.size<=b:=by simp):
  gi (kA F O<|w4.setCell (ii S 0) (my g4 0 (nn+1) c4)) (w4.setCell (ii S 0)<|my g4 0 (nn+1) c4) S (ns++[x]) ds rest/\fH F O (w4.setCell (ii S 0)<|my g4 0 (nn+1) c4):=by
 subst e;have l:=jk (i:=0) a.hS a.lT (by decide) (oq wr q o) (by simp) ⟨fX,fX,fX⟩ f g h j;have⟨m,d⟩:=a.push l;have n:=iW c d;exact⟨m.DI λk p=>nD c.size d.size p,n⟩
def Kj{nc dc nd g4 c4 b:Nat}(a:gp (kA F O wr) wr S na da nc dc ns ds rest)(c:fH F O wr)(e:nd=fv ds)
  (f:w4.ownsRow 0 9 1 (my g4 0 (nd+1) c4) (nd+1) (gO ds++[hh x]))(g:((wr.drewN q).alloc o).grownBy w4 (Value.slice da nd dc).ownBlock)(h:(Value.slice (fh<|ii g4 0) (nd+1) c4).ownBlock=(Value.slice da nd dc).ownBlock\/(Value.slice (fh<|ii g4 0) (nd+1) c4).ownBlock=fh b)(j:wr.heap.size<=b:=by simp):
  gi (kA F O<|w4.setCell (ii S 1) (my g4 0 (nd+1) c4)) (w4.setCell (ii S 1)<|my g4 0 (nd+1) c4) S ns (ds++[x]) rest/\fH F O (w4.setCell (ii S 1)<|my g4 0 (nd+1) c4):=by
 subst e;have l:=jk (i:=1) a.hS a.jq (by decide) (oq wr q o) (by simp) ⟨fX,fX,fX⟩ f g h j;have⟨m,d⟩:=a.aaB l;have n:=iW c d;exact⟨m.DI λk p=>nD c.size d.size p,n⟩
def Zp{x}(a:gp (kA F O wr) wr S na da nc dc ns ds rest)(c:fH F O wr)(e:nn=fv ns)
  (f:w4.ownsRow 0 200 3 (my g4 0 (nn+1) c4) (nn+1) (flat ns++pA x))(g:(wr.alloc o).grownBy w4 (Value.slice na nn nc).ownBlock)(h:(Value.slice (fh<|ii g4 0) (nn+1) c4).ownBlock=(Value.slice na nn nc).ownBlock\/(Value.slice (fh<|ii g4 0) (nn+1) c4).ownBlock=fh b)(j:wr.heap.size<=b:=by simp):
  gi (kA F O<|w4.setCell (ii S 0) (my g4 0 (nn+1) c4)) (w4.setCell (ii S 0)<|my g4 0 (nn+1) c4) S (ns++[x]) ds rest/\fH F O (w4.setCell (ii S 0)<|my g4 0 (nn+1) c4):=by
 subst e;have l:=jk (i:=0) a.hS a.lT (by decide) (PH wr o) (by simp) ⟨fX,fX,fX⟩ f g h j;have⟨m,d⟩:=a.push l;have n:=iW c d;exact⟨m.DI λk p=>nD c.size d.size p,n⟩
def Mi(a b):(iV a b).size<=a.size+1+b.size:=by
 unfold iV;split;omega;rw[Ws,Ws];exact lw _
def pFn (J:List Ob)(rest:iN)(S c fuel:Nat):Prop:=∀(at_:Nat)(a:fP)(b:St)(F d:Nat->Prop)(w:fq),at_<fuel->at_<fv J->a.size+13*fuel<=100000->
  (jA J fuel at_ a b).1.length<=1000000000->(jA J fuel at_ a b).2.length<=1000000000->gi F w S b.1 b.2 rest->gj d w c J->(∀k,d k->k<w.heap.size/\¬F k)->(∀k,F k->k<w.heap.size)->
  Calls prog 89 #[fB<|fh ⟨S,0,fj⟩,fB<|fh ⟨c,0,fj⟩,.int .i64 (at_:Int),fA a] w λe H=>e=fF (fC #[])/\gi (kA F w H) H S (jA J fuel at_ a b).1 (jA J fuel at_ a b).2 rest/\fH F w H
theorem hlo(J)(rest)(S E)(bQ:gT J)(bR:∀o∈J,∀e∈o.gh,e.1.size<=12)(fuel)(aS:pFn J rest S E fuel):pFn J rest S E (fuel+1):=by
 intro at_ f p F v w cK R cL bS bT aT bU aU aV;have⟨aW,aX,aY,aZ,bb⟩:=kC uD;have⟨bV,bW,bX,bY,T⟩:=kC uz;have⟨cN,cO,B⟩:=bU;have bc:=B.c0;have cQ:=B.lt;have bZ:=B.many;have⟨cS,ca,cT,bd,be,bf,bg⟩:=mV B.row fX R;subst ca;have U:=B.zz _<|kN R;obtain⟨m,G⟩:=ol<|J[at_].gh;have ax:fv m=J[at_].el:=by rw[G];exact U.len
 have cb:J[at_].el<=16:=U.few;have bh:fe (jA J (fuel+1) at_ f p=m.foldl (Hm J (jA J fuel) f) p):=by
  show _=_;simp only[jA,Ey,jH R,oV,sA];rw[G]
 have cc:fe (∀e∈m,0<=e.2.2/\e.2.2<(at_:Int)):=by rw[G];exact bQ at_ R
 have cd:fe (∀e∈m,e.1.size<=12):=by rw[G];exact bR _<|kN R
 have ay:fe (gj v w E J):=⟨_,_,B⟩;have GC:fe (∀k,v k->k<w.heap.size/\¬F k):=aU;have ce:fe (gi F w S p.1 p.2 rest):=aT;have I:fe (∀k,F k->k<w.heap.size):=aV;have cf:fe _:=aS;have bi:fe ((m.foldl (Hm J (jA J fuel) f) p).1.length<=1000000000/\(m.foldl (Hm J (jA J fuel) f) p).2.length<=1000000000):=by rw[<-bh.o];exact⟨bS,bT⟩
 have bj:fe (w.ownsRow 0 112 3 (fy J[at_].ea J[at_].el J[at_].ec) J[at_].el<|flat m):=by rw[G];exact U.row
 have K:fe (∀s,(Value.slice J[at_].ea J[at_].el J[at_].ec).ownBlock=fh s->v s):=U.own;obtain⟨n,az⟩:=ol<|J[at_].el;obtain⟨aA,bk⟩:=ol<|J[at_].ea;obtain⟨L,bl⟩:=ol<|J[at_].ec;obtain⟨cg,bm⟩:=ol<|J[at_].kind;obtain⟨ch,bn⟩:=ol<|J[at_].data;obtain⟨ci,bo⟩:=ol<|J[at_].high;rw[<-az,<-bk,<-bl]at bj K bf;rw[<-az]at ax cb;rw[<-bm]at bd;rw[<-bn]at be;rw[<-bo]at bg;have bp:fe (fv m=n):=ax;obtain⟨aB,aC⟩:=ol<|fv J;have cj:fe (aB=fv J):=aC;rw[<-aC]at bc bZ;have cU:(at_:Int)<(aB:Int):=by omega
 clear aS aV B U G ax aT aU az bk bl bm bn bo aC;go_enter func89,ntmps89;go_wp2;obtain⟨bq,M⟩:=ol (.cells #[fY cg,hh ch,fy aA n L,fY ci] 108:Obj);obtain⟨O,V⟩:=ol<|w.alloc bq;have z:ju w O:=by rw[V];exact(mi _ _).alloc (lw _) bq
 have br:O.c w.heap.size 2=fh (fy aA n L):=by rw[V,M];simp
 have W:w.heap.size<O.heap.size:=by rw[V];simp
 rw[<-M,<-V];clear M V;have ck:fe (gi F O S p.1 p.2 rest):=by
  have⟨na,nc,da,dc,l⟩:=ce.o;exact⟨na,nc,da,dc,l.below z⟩
 go_loopw [9] (λi wr=>∃(k:Nat) (b:St),k<=n/\i=.int .i64 (k:Int)/\fe (b=(m.take k).foldl (Hm J (jA J fuel) f) p)/\fe (gi (kA F O wr) wr S b.1 b.2 rest)/\fe (fH F O wr)) (λi _=>n-(intOf i).toNat)
 case atStart=>exact⟨0,p,zt _,rfl,rfl,ck.o.DI λ_ l=>.inl l,fH.refl _⟩
 case round=>
  obtain⟨k,b,cV,rfl,bs,bt,t⟩:=hrel;have cW:O.heap.size<=wr.heap.size:=t.o.size;have aD:wr.c w.heap.size 2=fh (fy aA n L):=(wJ (a:=(ii w.heap.size 2))<|t.o.block w.heap.size W (λx=>by have:=I.o _ x;omega)).trans br;have cl:gj v wr E J:=ay.o.keep (λ_ l=>l) λq h=>(t.o.block q (by have:=(GC.o q h).1;omega) (GC.o q h).2).trans<|z.block q (GC.o q h).1;have cX:fe (gj v wr E J):=cl;by_cases cm:k<n
  ·have ah:k<fv m:=by rw[bp.o];exact cm
   have ai:=gg bj.o (H:=wr) λs aE=>(t.o.block s (by have:=(GC.o s<|K.o s aE).1;omega) (GC.o s<|K.o s aE).2).trans<|z.block s (GC.o s<|K.o s aE).1;have⟨d,cY,bu⟩:=hZ ai (by omega);have cn:=(lK bu).1;subst cn;have cZ:=gc ai fX;have⟨aj,X,Y⟩:=lr (off:=0) (ks ai) ah;rw[iO]at aj X Y;obtain⟨e,Z⟩:=ol<|m[k];rw[<-Z]at aj X Y;have⟨db,dd⟩:=cc.o e (by rw[Z];exact kN ah);have de:=cd.o e (by rw[Z];exact kN ah);obtain⟨j,aF⟩:∃j:Nat,e.2.2=(j:Int):=⟨e.2.2.toNat,by omega⟩;rw[aF]at Y;have df:j<at_:=by omega
   have aG:fe ((m.take<|k+1).foldl (Hm J (jA J fuel) f) p=Hm J (jA J fuel) f b e):=by
    show _=_;rw[vk ah,cls,<-bs.o,<-Z];rfl
   have bv:fe (su (Hm J (jA J fuel) f b e)<|m.foldl (Hm J (jA J fuel) f) p):=by
    have ak:m=m.take (k+1)++m.drop (k+1):=(KP _ _).symm
    have:=Ah J (jA J fuel) (Ai J fuel) f (m.drop<|k+1)<|Hm J (jA J fuel) f b e
    show su _ _;rw[<-aG.o]at this |-;rw[<-cls,<-ak]at this;exact this
   have bw:fe (e.2.2=(j:Int)):=aF;have bx:(k:Int)<(n:Int):=by omega
   have⟨na,nc,da,dc,aa⟩:=bt.o;have C:=aa.c0;have ab:=aa.c1;have aH:=aa.lt;have N:fe (gp (kA F O wr) wr S na da nc dc b.1 b.2 rest):=aa;obtain⟨nn,aI⟩:=ol<|fv b.1;obtain⟨nd,nZ⟩:=ol<|fv b.2;have al:fe (nn=fv b.1):=aI;have ac:fe (nd=fv b.2):=nZ;rw[<-aI]at C;rw[<-nZ]at ab;have dg:nn<=1000000000/\nd<=1000000000:=by
    have cp:=zq J (jA J fuel) (Ai J fuel) f b e;have bz:=cp.trans bv.o
    have:=bi.o
    exact⟨by have:=bz.1;omega,by have:=bz.2;omega⟩
   clear ai bu aa Z aF aI nZ;obtain⟨g,bA⟩:=ol<|iV f e.1;have ad:fe (g=iV f e.1):=bA;have bB:fe (wr.c d (k*3+2)=fh (fY (j:Int))):=Y;have am:fe (wr.ownsRow 0 200 3 (fy na nn nc) nn<|flat b.1):=by show World.ownsRow _ _ _ _ _ _ _;rw[al.o];exact N.o.lT
   have bC:fe (wr.c S 0=fh (fy na nn nc)):=C;have cq:fe (wr.c S 1=fh (fy da nd dc)):=ab;clear Y bA bd be bf bg bc C ab br;go_upto_if 32 with fail
   go_cut [10]from 18 to 102 λcr y=>cr=fA g/\y=wr
   case first=>
    cases ae:(f.toList==[]) with
    |true=>
     have aJ:fe (g=e.1):=Fr<|by rw[ad.o];unfold iV;rw[lv<|eq_of_beq ae]
     have aK:(!f.toList.isEmpty)=fo:=by rw[eq_of_beq ae];rfl
     go_wp2_with fail
     all_goals first
      |(exfalso;rename (! _)=_=>GD;rw[aK]at GD;cases GD;done)
      |(go_meet;exact⟨by rw[aJ.o],fX⟩)
    |false=>
     have aJ:fe (g=f++⟨#[47]⟩++e.1):=Fr<|by rw[ad.o];unfold iV;rw[km<|EE.1 ae]
     have aK:(!f.toList.isEmpty)=fm:=by
      cases ct:f.toList with
      |nil=>rw[ct]at ae;cases ae
      |cons _ _=>rfl
     go_wp2_with fail
     all_goals first
      |(exfalso;rename (! _)=_=>GD;rw[aK]at GD;cases GD;done)
      |(go_meet;exact⟨by rw[aJ.o],fX⟩)
   case rest=>
    obtain⟨rfl,aL⟩:=hcut;have dh:fe (wc=wr):=aL;rw[aL];clear aL;have bD:fe (wr.c w.heap.size 2=fh (my d 0 n L)):=aD;by_cases P:e.2.1=1
    ·rw[P]at X
     have an:fe (Hm J (jA J fuel) f b e=(b.1++[(g,1,(nd:Int))],b.2++[Ag J (j:Int)])):=Fr<|by unfold Hm;rw[lv P,<-ad.o,bw.o,ac.o]
     clear P;go_upto_region 8 with fail;have C:=bC.o;have ab:=cq.o;clear aj X aD
     go_cut []from 18 to 102 λy=>fe<|gi (kA F O y) y S (b.1++[(g,1,(nd:Int))]) b.2 rest/\fH F O y
     case first=>
      go_region_law(refine pu fX (.tmp 48) (.tmp 56) 174 fX 0 200 aW _ 3 32 underlying174 aX aY aZ bb fX (by decide) (fy na nn nc) nn (flat b.1) (by simp[Act.eval]) (rE (show(wr.drewN 1).ownsRow _ _ _ _ _ _ from am.o) _) (ii wr.heap.size 0) 1 1 (pA (g,1,(nd:Int))) (by simp[Act.eval]) fX (tS (wr.drewN 1) (g,1,(nd:Int)) _ _ fX) (rx _) (by unfold maxLen;omega) (by omega) (zt _) ?_;intro v4 w4 bE aM cu;obtain⟨g4,c4,rfl⟩:=hZ bE (by omega);have bF:=mW N.o.hS (oq wr 1 _) (by simp) aM<|io am.o N.o.hS (by decide);have di:w4.c S 0=fh (fy na (fv b.1) nc):=(by simp[World.cell?,bF]);have dj:w4.frozen? (ii S 0)=fo:=(by simp[World.frozen?,bF]);have dk:S<w4.heap.size:=(np aH (by have:=aM.size;simp at this;omega)))
      all_goals
       go_wp2_with fail;go_meet;exact Qa N.o t.o al.o bE aM cu
     case rest=>
      rename fq=>c;have⟨⟨cv,cw,ao,ap,A⟩,af⟩:=hcut.o;have r:fe (fH F O c):=af;have aq:fe (gp (kA F O c) c S cv ao cw ap (b.1++[(g,1,(nd:Int))]) b.2 rest):=A;have cx:=A.c1;have cy:=A.lt;rw[<-ac.o]at cx;have ag:∀q,v q->c.heap[q]?=w.heap[q]?:=λq h=>(r.o.block q (by have:=(GC.o q h).1;omega) (GC.o q h).2).trans<|z.block q (GC.o q h).1;have⟨dl,dm,ar⟩:=ay.o.keep (H:=c) (λ_ l=>l) ag;have cz:=ar.c0;have dn:=ar.lt;rw[<-cj.o]at cz;have bG:j<fv J:=by omega
      have⟨dp,cA,dq,_,d1,_,_⟩:=mV ar.row fX bG;subst cA;have bH:fe (Ag J (j:Int)=J[j].data):=Fr<|by unfold Ag;rw[qE,jH bG];rfl
      obtain⟨cC,bI⟩:=ol<|J[j].data;rw[<-bI]at d1 bH;have cD:c.c w.heap.size 2=fh (my d 0 n L):=(wJ (a:=(ii w.heap.size 2))<|(r.o.block w.heap.size W (λx=>by have:=I.o _ x;omega)).trans (t.o.block w.heap.size W (λx=>by have:=I.o _ x;omega)).symm).trans bD.o;have u:v d:=K.o d fX;have cE:c.c d (k*3+2)=fh (fY (j:Int)):=(wJ (a:=(ii d<|k*3+2))<|(ag d u).trans ((t.o.block d (by have:=(GC.o d u).1;omega) (GC.o d u).2).trans<|z.block d (GC.o d u).1).symm).trans bB.o;have cF:d<c.heap.size:=by have:=(GC.o d u).1;have:=r.o.size;omega
      have bJ:w.heap.size<c.heap.size:=by have:=r.o.size;omega
      have dr:(j:Int)<(aB:Int):=(by omega);have bK:fe (c.ownsRow 0 9 1 (fy ao nd ap) nd<|gO b.2):=by show World.ownsRow _ _ _ _ _ _ _;rw[ac.o];exact A.jq
      clear hcut A af ar bI C ab aH;go_upto_region 9 with fail
      go_region_law(refine pu fX (.tmp 64) (.tmp 78) 131 fX 0 9 bV _ 1 16 underlying131 bW bX bY T fX (by decide) (fy ao nd ap) nd (gO b.2) (by simp[Act.eval]) (rE (show(c.drewN 1).ownsRow _ _ _ _ _ _ from bK.o) _) (ii c.heap.size 0) 1 1 [hh cC] (by simp[Act.eval]) fX (one_cell (c.drewN 1) _ _ _ fX) Bg (by unfold maxLen;omega) (by omega) (zt _) ?_;intro ds D aN au bL;obtain⟨dt,du,rfl⟩:=hZ aN (by omega);have bM:=mW aq.o.hS (oq c 1 _) (by simp) au<|io bK.o aq.o.hS (by decide);have dv:D.c S 1=fh (fy ao (fv b.2) ap):=(by simp[World.cell?,bM]);have f16:D.frozen? (ii S 1)=fo:=(by simp[World.frozen?,bM]);have dw:S<D.heap.size:=(np cy (by have:=au.size;simp at this;omega)))
      all_goals
       go_wp2_with fail;refine⟨⟨k+1,Hm J (jA J fuel) f b e,by omega,by go_num,aG.o.symm,?_,?_⟩,by simp[intOf];omega⟩;show gi _ _ _ _ _ _;rw[an.o,bH.o];exact(Kj aq.o r.o ac.o aN au bL).1;exact(Kj aq.o r.o ac.o aN au bL).2
    have cG:(e.2.1==1)=fo:=(by simp[P]);have an:fe (Hm J (jA J fuel) f b e=jA J fuel j g (b.1++[(g,2,0)],b.2)):=Fr<|by unfold Hm;rw[km P,bw.o,qE,<-ad.o]
    have C:=bC.o;go_upto_region 10 with fail
    go_cut []from 18 to 102 λy=>fe<|gi (kA F O y) y S (b.1++[(g,2,0)]) b.2 rest/\fH F O y
    case first=>
     go_wp2_with(at_builtin;refine yn fX (.tmp 86) (.tmp 89) 174 fX 0 200 aW _ 3 32 underlying174 aX aY aZ bb fX (by decide) (fy na nn nc) nn (flat b.1) fX (rE am.o _) (ii wr.heap.size 0) 1 1 (pA (g,2,0)) fX fX (tS wr (g,2,0) _ _ fX) (rx _) (by unfold maxLen;omega) (by omega) (zt _) ?_);intro dx av aO aw bN;obtain⟨dy,c3,rfl⟩:=hZ aO (by omega);have T:=N.o.hS;have aP:=mW T (PH _ _) (by simp) aw<|io am.o T (by decide);have dz:wr.heap.size<=av.heap.size:=by have:=aw.size;simp at this;omega
     have dA:av.c S 0=fh (fy na nn nc):=by rw[al.o];simp[World.cell?,aP]
     have dB:av.frozen? (ii S 0)=fo:=(by simp[World.frozen?,aP]);have dC:S<av.heap.size:=by omega
     have Q:fe _:=Zp N.o t.o al.o aO aw bN;clear aO aw bN aP T;go_wp2_with fail;go_meet;exact Q.o
    case rest=>
     rename fq=>c;have⟨A,af⟩:=hcut.o;have r:fe (fH F O c):=af;have ag:∀q,v q->c.heap[q]?=w.heap[q]?:=λq h=>(r.o.block q (by have:=(GC.o q h).1;omega) (GC.o q h).2).trans<|z.block q (GC.o q h).1;have dD:O.heap.size<=c.heap.size:=r.o.size;have cD:c.c w.heap.size 2=fh (my d 0 n L):=(wJ (a:=(ii w.heap.size 2))<|(r.o.block w.heap.size W (λx=>by have:=I.o _ x;omega)).trans (t.o.block w.heap.size W (λx=>by have:=I.o _ x;omega)).symm).trans bD.o;have u:v d:=K.o d fX;have cE:c.c d (k*3+2)=fh (fY (j:Int)):=(wJ (a:=(ii d<|k*3+2))<|(ag d u).trans ((t.o.block d (by have:=(GC.o d u).1;omega) (GC.o d u).2).trans<|z.block d (GC.o d u).1).symm).trans bB.o;have cF:d<c.heap.size:=by have:=(GC.o d u).1;omega
     have bJ:w.heap.size<c.heap.size:=(by omega);have cH:fe (ik 89 #[ie S,ie E,fY (j:Int),hh g] c λcI H=>cI=pD #[]/\gi (kA (kA F O c) c H) H S (jA J fuel j g (b.1++[(g,2,0)],b.2)).1 (jA J fuel j g (b.1++[(g,2,0)],b.2)).2 rest/\fH (kA F O c) c H):=by
      have M:=bi.o;have aQ:=bv.o;rw[an.o]at aQ;have cJ:=Mi f e.1;rw[<-ad.o]at cJ;refine cf.o j g (b.1++[(g,2,0)],b.2) (kA F O c) v c (by omega) (by omega) (by omega) (wy aQ.1 M.1) (wy aQ.2 M.2) A (ay.o.keep (λ_ l=>l) ag) (λq h=>⟨by have:=(GC.o q h).1;omega,?_⟩) λq h=>?_;rintro(l|⟨l,_⟩);exact(GC.o q h).2 l
      have:=(GC.o q h).1
      omega;rcases h with l|⟨_,l⟩
      have:=I.o q l
      omega;exact l
     clear hcut A af C aH aD aj X P cG;go_wp2_with fail;refine Calls.via cH.o λD⟨bO,aR⟩=>?_
     have Q:fe (gi (kA F O D) D S (jA J fuel j g (b.1++[(g,2,0)],b.2)).1 (jA J fuel j g (b.1++[(g,2,0)],b.2)).2 rest/\fH F O D):=⟨bO.DI λq h=>nD r.o.size aR.size h,iW r.o aR⟩;clear bO aR;go_wp2;refine⟨⟨k+1,Hm J (jA J fuel) f b e,by omega,by go_num,aG.o.symm,?_,Q.o.2⟩,by simp[intOf];omega⟩;show gi _ _ _ _ _ _;rw[an.o];exact Q.o.1
  have bx:k=n:=by omega
  subst bx;have dE:decide ((k:Int)<(k:Int))=fo:=by simp
  have Q:fe (gi (kA F w wr) wr S (jA J (fuel+1) at_ f p).1 (jA J (fuel+1) at_ f p).2 rest/\fH F w wr):=by
   have ak:=bs.o;rw[oJ (by rw[bp.o];exact lw _),<-bh.o]at ak;rw[<-ak];exact⟨bt.o.DI (λq h=>by rcases h with l|l;exact .inl l;exact .inr ⟨by omega,l.2⟩),fH.after t.o z⟩
  have bJ:w.heap.size<wr.heap.size:=by omega
  go_wp2;go_end0;exact⟨fX,Q.o⟩
def lrl(J)(rest:iN)(S c)(f:gT J)(g:∀o∈J,∀e∈o.gh,e.1.size<=12):∀(fuel at_:Nat)(a:fP)(b:St)(F d:Nat->Prop)(w:fq),at_<fuel->at_<fv J->a.size+13*fuel<=100000->
  (jA J fuel at_ a b).1.length<=1000000000->(jA J fuel at_ a b).2.length<=1000000000->gi F w S b.1 b.2 rest->gj d w c J->(∀k,d k->k<w.heap.size/\¬F k)->(∀k,F k->k<w.heap.size)->
  ik 89 #[ie S,ie c,fY (at_:Int),hh a] w λe H=>e=pD #[]/\gi (kA F w H) H S (jA J fuel at_ a b).1 (jA J fuel at_ a b).2 rest/\fH F w H:=by
 intro fuel
 induction fuel with
 |zero=>intro at_ a b F d w h;exact absurd h<|Rv _
 |succ fuel i=>exact hlo J rest S c f g fuel i
def Zq (w H:fq)(k:Nat):Prop:=w.heap.size<=k/\k<H.heap.size
structure Aj (w:World)(rest:iN)(ba wa:ig)(bc wc:Nat)(base:List fV)(was:fT):Prop where
 r32:rest[32]?=some (.slice ba base.length bc)
 r33:rest[33]?=some (.slice wa was.length wc)
 TX:w.ownsRow 0 200 3 (.slice ba base.length bc) base.length (flat base)
 yY:w.ownsRow 0 9 1 (.slice wa was.length wc) was.length (gO was)
def nv (F:Nat->Prop)(w:fq)(rest:iN)(x:List fV×fT):Prop:=
 ∃ba b Z wc,Aj w rest ba b Z wc x.1 x.2/\∀a,(Value.slice ba (fv x.1) Z).ownBlock=fh a\/(Value.slice b (fv x.2) wc).ownBlock=fh a->F a
theorem nv.keep{rest c:iN}{x:List fV×fT}(g:nv F w rest x)(h:c.drop 32=rest.drop 32)(hF:∀k,F k->F' k/\H.heap[k]?=w.heap[k]?):nv F' H c x:=by
 have⟨ba,i,Z,wc,b,d⟩:=g;have f:∀j,c[32+j]?=rest[32+j]?:=λj=>by rw[<-Wx,<-Wx,h]
 exact⟨ba,i,Z,wc,⟨(f 0).trans b.r32,(f 1).trans b.r33,gg b.TX λa e=>(hF a (d a<|.inl e)).2,gg b.yY λa e=>(hF a (d a<|.inr e)).2⟩,λa e=>(hF a (d a e)).1⟩
theorem GF{w b a:fq}(i:gi F b S E data rest)(hF:∀k,F k->k<b.heap.size)(l:w.heap.size<=S)(f:ju w b)(c:(b.drewN q).grownBy a fj):
  gi F (a.setCell (ii S<|2+j) v) S E data (rest.set j v)/\ju w (a.setCell (ii S<|2+j) v)/\∀{t z u n xs},a.ownsRow 0 t z u n xs->179≠t->(a.setCell (ii S<|2+j) v).ownsRow 0 t z u n xs:=by
 have⟨na,nc,da,dc,m⟩:=i;have g:=m.keep (λ_ d=>d) λk o=>c.block k (hF k o) (by simp);exact⟨⟨na,nc,da,dc,(g.aas j v).1⟩,((iP f q).grown c f.size λk d=>by cases d).setCell l _,λh p=>gg h λr c=>vh _ _ _ _ λe=>io h g.hS p (by grind)⟩
theorem Kk{t}{z n}{a}(d:w.ownsRow b t z v n a):∃e c,v=fy e n c:=by
 rcases d.2 with⟨rfl,rfl⟩|⟨f,h,_,rfl,_⟩
 all_goals grind
def uX:iN:=[fE fo,.int .i64 0,.int .i64 0,.int .i64 0,fE fo,.int .i64 0,.int .i64 0,.int .i64 0,fE fo,.int .i64 0,.int .i64 0,.int .i64 0,fE fo,.int .i64 0,.int .i64 0,.int .i64 0,fE fo,.int .i64 0,.int .i64 0,.int .i64 0,fE fo,.int .i64 0,.int .i64 0,.int .i64 0,fE fo,.int .i64 0,.int .i64 0,.int .i64 0,fE fo,.int .i64 0,.int .i64 0,.int .i64 0,fy fj 0 0,fy fj 0 0]
theorem Qb(w:fq):gi (λk=>k=w.heap.size) (w.alloc<|.cells (Value.slice fj 0 0::Value.slice fj 0 0::uX).toArray 179) w.heap.size [] [] uX:=
 ⟨fj,0,fj,0,⟨fX,nX _ _,kO _ _ _ _,kO _ _ _ _,(λb a=>by cases a),(λb a=>by cases a)⟩⟩
def gp.cR(a:gp F w S na da nc dc E data rest)(b:rest[j]?=fh v):w.c S (2+j)=fh v:=by
 have c:(2+j)=j+1+1:=by omega
 simp[World.cell?,a.hS,c,b]
def gp.fR(a:gp F w S na da nc dc E data rest)(i):w.frozen? (ii S i)=fo:=by simp[World.frozen?,a.hS]
theorem hlp(c):∀a∈gO c,a.oneCell'=fm:=by
 intro a b;simp only[gO,ja]at b;obtain⟨x,_,rfl⟩:=b;rfl
theorem Mj(J)(u at_:Nat)(q)(w)(U:gT J)(V:∀o∈J,∀e∈o.gh,e.1.size<=12)(ap:at_<fv J)(aV:at_<=5000)(C:(jA J (at_+1) at_ kq ([],[])).1.length<=1000000000)(D:(jA J (at_+1) at_ kq ([],[])).2.length<=1000000000)
  (W:gj q w u J)(X:∀k,q k->k<w.heap.size):
  ik 47 #[ie u,fY (at_:Int)] w λe H=>∃F rest,rest.take 32=uX.take 32/\e=fF (ie w.heap.size)/\(∀k,F k->w.heap.size<=k/\k<H.heap.size)/\gi F H w.heap.size (jA J (at_+1) at_ kq ([],[])).1 (jA J (at_+1) at_ kq ([],[])).2 rest/\nv (λk=>w.heap.size<=k/\¬F k) H rest (jA J (at_+1) at_ kq ([],[]))/\ju w H:=by
 have⟨aq,ar,au,av,aw⟩:=kC uD;have⟨ax,ay,az,aA,aB⟩:=kC uz;have x:=λ(rest:iN)(F:Nat->Prop)(O:fq)=>lrl J rest w.heap.size u U V (at_+1) at_ kq ([],[]) F q O (by omega) ap (by show 0+_<=_;omega) C D;have⟨E,G⟩:=ol<|(jA J (at_+1) at_ kq ([],[])).1;obtain⟨data,I⟩:=ol<|(jA J (at_+1) at_ kq ([],[])).2;have Y:jA J (at_+1) at_ kq ([],[])=(E,data):=by rw[G,I]
 rw[Y]at x |-;simp only at x |-;rw[<-G]at C;rw[<-I]at D;have aC:fe (gj q w u J):=W;have Z:fe (∀k,q k->k<w.heap.size):=X;obtain⟨nn,m⟩:=ol<|fv E;have⟨nd,nZ⟩:=ol<|fv data;rw[<-m]at C;rw[<-nZ]at D
 change fe _ at x m nZ
 clear G I Y W X U V;go_enter func47,ntmps47;go_wp2_with fail;refine Calls.via (x.o uX (λk=>k=w.heap.size) _ (Qb w) (aC.o.below ((mi _ _).alloc (lw _) _) λ_ K=>K) (λk b=>⟨by have:=Z k b;simp;omega,by have:=Z.o k b;omega⟩) (λk b=>by subst b;simp)) λa⟨i,p⟩=>?_
 have aW:w.heap.size+1<=a.heap.size:=by have:=p.size;simpa using this
 have aa:ju w a:=⟨p.os,p.tape,p.output,by omega,λk b=>by rw[p.block k (by simp;omega)<|by omega,sG _ _ _ b]⟩;have ab:fe (gi (Zq w a) a w.heap.size E data uX):=i.DI (λk b=>by
  rcases b with K|⟨L,M⟩
  subst K;exact⟨lw _,by omega⟩;simp at L;exact⟨by omega,M⟩)
 have aD:fe (ju w a):=aa;clear i p aa;have⟨na,nc,da,dc,i⟩:=ab.o;have ac:=i.c0;have aE:a.c w.heap.size 34=fh (fy fj 0 0):=i.cR (j:=32) fX;have aF:fe (gp (Zq w a) a w.heap.size na da nc dc E data uX):=i;rw[<-m.o]at ac;have aG:fe (a.ownsRow 0 200 3 (fy na nn nc) nn<|flat E):=by rw[m.o];exact i.lT
 clear i;have aH:w.heap.size<a.heap.size:=by omega
 go_upto_region 3 with fail
 go_cut []from 12 to 36 λf=>fe (∃g h,gi (Zq w a) f w.heap.size E data (uX.set 32<|fy g nn h)/\f.ownsRow 0 200 3 (fy g nn h) nn (flat E)/\(∀c,(Value.slice g nn h).ownBlock=fh c->a.heap.size<=c)/\a.heap.size<=f.heap.size/\ju w f)
 case first=>
  go_region_law(refine uW fX (.tmp 16) (.tmp 20) 174 fX 200 aq _ 3 32 underlying174 ar au av aw fX (by decide) (by simp[Act.eval]) na nn nc (flat E) (by simp[Act.eval]) (show(a.drewN 1).ownsRow _ _ _ _ _ _ from aG) (mH _) (by unfold maxLen;omega) (by omega) ?_;intro aX ad ae N aI;obtain⟨af,ag,rfl⟩:=Kk ae;have y:=aF.o.keep (F':=λ_=>True) (H:=ad) (λ_ _=>trivial) (λk b=>N.block k b.2<|by simp);have aY:ad.c w.heap.size 34=fh (fy fj 0 0):=y.cR (j:=32) fX;have f3:=y.fR 34;have aZ:=y.lt;clear y)
  all_goals
   go_wp2_with fail;go_meet;have⟨r,P,z⟩:=GF (j:=32) (v:=fy af nn ag) ab.o (λk b=>b.2) (lw _) aD N;exact⟨af,ag,r,z ae<|by decide,(λc d=>by rcases aI with e|e<;>rw[d]at e;cases e;have:=rF e;simp at this;omega),by have:=N.size;simpa using this,P⟩
 case rest=>
  rename fq=>l;have⟨g,h,Q,ah,ai,aj,ak⟩:=hcut.o;have⟨rest,R⟩:=ol<|uX.set 32 (fy g nn h);rw[<-R]at Q;have s:fe (rest[33]?=fh (Value.slice fj 0 0)/\rest[32]?=fh (fy g nn h)/\rest.take 32=uX.take 32):=by rw[R];exact⟨fX,fX,fX⟩
  have aJ:fe (gi (Zq w a) l w.heap.size E data rest):=Q;have aK:fe (ju w l):=ak;have n:fe (l.ownsRow 0 200 3 (fy g nn h) nn (flat E)/\(∀c,(Value.slice g nn h).ownBlock=fh c->a.heap.size<=c)/\a.heap.size<=l.heap.size):=⟨ah,ai,aj⟩;clear R ah ai aj;have⟨aL,aM,S,T,t⟩:=Q;have r:=t.c1;have bb:l.c w.heap.size 35=fh (fy fj 0 0):=t.cR (j:=33) s.o.1;have aN:fe (gp (Zq w a) l w.heap.size aL S aM T E data rest):=t;rw[<-nZ.o]at r;have aO:fe (l.ownsRow 0 9 1 (fy S nd T) nd<|gO data):=by rw[nZ.o];exact t.jq
  clear t ak hcut ac aE;go_upto_region 4 with fail
  go_cut []from 12 to 36 λf=>fe (∃F rest,rest.take 32=uX.take 32/\(∀k,F k->w.heap.size<=k/\k<f.heap.size)/\gi F f w.heap.size E data rest/\nv (λk=>w.heap.size<=k/\¬F k) f rest (E,data)/\ju w f)
  case first=>
   go_region_law(refine uW fX (.tmp 28) (.tmp 32) 131 fX 9 ax _ 1 16 underlying131 ay az aA aB fX (by decide) (by simp[Act.eval]) S nd T (gO data) (by simp[Act.eval]) (show(l.drewN 1).ownsRow _ _ _ _ _ _ from aO.o) (hlp _) (by unfold maxLen;omega) (by omega) ?_;intro bc al am A aP;obtain⟨an,ao,rfl⟩:=Kk am;have B:=aN.keep (F':=λ_=>True) (H:=al) (λ_ _=>trivial) (λk b=>A.block k (np b.2 n.o.2.2)<|by simp);have bd:al.c w.heap.size 35=fh (fy fj 0 0):=B.cR (j:=33) s.o.1;have f6:=B.fR 35;have be:=B.lt;clear B)
   all_goals
    go_wp2_with fail;go_meet;have⟨r,P,z⟩:=GF (j:=33) (v:=fy an nd ao) aJ (λk b=>np b.2 n.o.2.2) (lw _) aK.o A;refine⟨Zq w a,_,?_,λk b=>⟨b.1,np b.2 (by have:=n.2.2;have:=A.size;simp at this |-;omega)⟩,r,⟨g,an,h,ao,⟨?_,?_,?_,?_⟩,λc d=>?_⟩,P⟩;rw[List.take_set_of_le<|by decide];exact s.o.2.2;rw[EF<|by decide,s.o.2.1,m.o];rw[Rm (wH.1 s.o.1).1,nZ.o];simp only;rw[<-m.o];exact z (gg n.o.1 (λc d=>A.block c (gc n.o.1 d)<|by simp)) (by decide);simp only;rw[<-nZ.o];exact z am<|by decide
    have:a.heap.size<=c:=by
     rcases d with d|d
     rw[<-m.o]at d;exact n.o.2.1 c d;rw[<-nZ.o]at d
     have:=n.2.2
     rcases aP with e|e<;>rw[d]at e
     cases e;have e:=rF e;simp at e;omega
    exact⟨wy (Ef aH) this,λaQ=>by have:=aQ.2;omega⟩
  case rest=>
   change fe _ at hcut
   go_wp2;go_ret;have⟨F,aR,aS,L,M,aT,aU⟩:=hcut.o;exact⟨F,aR,aS,fX,L,M,aT,aU⟩
