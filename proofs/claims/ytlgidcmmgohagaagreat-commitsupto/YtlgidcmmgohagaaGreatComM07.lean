/- A part of the proof. -/
import Derived.Test.YtlgidcmmgohagaaGreatComM06
import Derived.Test.YtlgidcmmgohagaaGreatRows
import Derived.Deep.Strs
set_option linter.all false
namespace Go.Proofs.YtlgidcmmgohagaaGreat
open Go.RowKit Go.Sort Go.Shelf Go.Proofs.Tryz
open Go.Value renaming slice->fy,string->fA,pointer->fB,tuple->fC,agg->fD,bool->fE
open Go.Ending renaming returned->fF
open Option renaming some->fh,none->fj
open Bool renaming true->fm,false->fo
open Go renaming World->fq,Value->fu
open List renaming length->fv,reverse->fx
open Go.RowKit renaming Hid->fe
set_option maxRecDepth 100000
set_option maxHeartbeats 0
variable {ft:PTp}{I R b6 FH:Nat->Prop}{w:fq}{W s r ec q:Nat}{A J:List Ob}{c5 c6 c7 c8 c9 c10 c11:fu}{ea:ig}{hs:List ox}
def ir{w:fq}{e}{t}{d}{m c}{b}(a:w.ownsRow e t 3 (fy d m c) m (flat b)):jx w d m b:=by
 have f:fv b=m:=by have:=a.1;rw[ly]at this;omega
 refine⟨f,λg=>?_⟩;have⟨h,k,i⟩:=hZ a g;have j:=(lK i).1;subst j;exact⟨h,0,fX,gc a fX,ks a⟩
def xh{F:Nat->Prop}{d:Nat}{w H}(hF:∀k,F k->k<d)(i:fH F w H){b}{t}{e n}{f}{g}(c:w.ownsRow b t e f n g)(l:d<=b):H.ownsRow b t e f n g:=
 gg c λa h=>i.block a (c.lt a h).2 (λj=>by have:=hF a j;have:=(c.lt a h).1;omega)
theorem vG{F}{w O c}(a:fH F w O)(b:fH F O c):fH F w c:=
 ⟨b.os.trans a.os,b.tape.trans a.tape,b.output.trans a.output,wy a.size b.size,λq d e=>(b.block q (np d a.size) e).trans<|a.block q d e⟩
def XE{a d:List fV}{b:Nat}{c:fu}(e:(flat a)[b]?=fh c):(flat<|a++d)[b]?=fh c:=by
 rwa [qr,wk (wH.1 e).1]
theorem XF(d:W3 ft I R b6 w W s r A J c5 c6 c7 c8 c9 c10 c11)(x:fV):ik 41 #[ie W,fY x.2.2] w (PP (fY (lR (fv A) x).2.2) w):=by
 by_cases b:1<=x.2.2/\x.2.2<=(fv A:Int);obtain⟨a,c⟩:∃a:Nat,x.2.2=(a:Int)+1:=⟨(x.2.2-1).toNat,by omega⟩;have e:(lR (fv A) x).2.2=(a:Int):=by unfold lR;rw[lv b];show x.2.2-1=_;omega
 rw[e,c]
 grind [rV]
 grind [lR,zQ]
theorem Gcd{g i a}{j b c k d}{e}{f}(l:W3 ft I R b6 w W s r A J c5 c6 c7 c8 c9 c10 c11)(m:fH b6 g i)(n:fH R i a)(t:g.ownsRow j 96 3 (fy e k d) k (flat f))(u:g.ownsRow b 96 3 (my c 0 (k+3)<|k+3) (k+3) (flat<|f++List.replicate 3 Bb))
  (o:w.heap.size<=j)(p:w.heap.size<=b)(x:k<=2097152)(v:k=0->e=fj/\d=0):
  ik 83 #[my c 0 (k+3)<|k+3,fy e k d] a ((ut (fE fm) a))/\a.ownsRow b 96 3 (my c 0 (k+3)<|k+3) (k+3) (flat<|f++List.replicate 3 Bb):=by
 have f6:∀k,b6 k->k<w.heap.size:=λk h=>(l.sep.sl k h).1;have f7:∀k,R k->k<w.heap.size:=λk h=>(l.sep.rl k h).1;have q:=xh f7 n (xh f6 m u p) p;exact⟨fid c e k d f a (ir<|xh f7 n (xh f6 m t o) o) (by omega) v b q,q⟩
theorem ins{n}{a:List fV}(hs:∀e∈a,e.1.size<=maxLen):(∀e∈a.map (lR n),e.1.size<=maxLen)/\∀e∈a.map (lR n),-1<=e.2.2/\e.2.2<(n:Int):=by
 grind [ja,lR,Int]
def jx.below{w H}{a}{m}{b}(c:jx w a m b)(d:ju w H):jx H a m b:=
 ⟨c.1,λh=>by
  have⟨e,off,i,f,j⟩:=c.2 h
  exact⟨e,off,i,np f d.size,λg k l=>(d.cell (p:=(ii e<|off+g)) f).trans<|j g k l⟩⟩
def mN (c:List Ob->Prop)(ft:PTp)(I R b6:Nat->Prop)(w H:fq)(W s r:Nat)(c5 c6 c7 c8 c9 c10 c11:fu):Prop:=
 ∃a b Y Z d,W3 ft a b Y H W s r Z d c5 c6 c7 c8 c9 c10 c11/\zP I R b6 a b Y w.heap.size/\fH (F3 I R b6) w H/\c Z
def mN.un{b:List Ob->Prop}{H}(a:mN b ft I R b6 w H W s r c5 c6 c7 c8 c9 c10 c11):Stepped ft I R b6 w H W s r c5 c6 c7 c8 c9 c10 c11:=by
 have⟨f,g,c,d,e,h,i,a,_⟩:=a;exact⟨f,g,c,d,e,h,i,a⟩
theorem FA{a:List Ob->Prop}{O H}(b:ju w O)(c:mN a ft I R b6 O H W s r c5 c6 c7 c8 c9 c10 c11):mN a ft I R b6 w H W s r c5 c6 c7 c8 c9 c10 c11:=by
 have⟨d,e,Y,Z,f,g,hs,h,i⟩:=c;exact⟨d,e,Y,Z,f,g,hs.mono b.size,fH.after h b,i⟩
theorem xl(b:W3 ft I R b6 w W s r A J c5 c6 c7 c8 c9 c10 c11)(B C D:Int)(S E:fP)(F:ig)(G K)(U:S.size<=maxLen):
  ik 20 #[ie W,fD #[fY 1,fY B,fY C,fY D,hh S,hh E,fy F G K]] w λe H=>e=fF (fE fm)/\mN (λaj=>∃e,lz A aj S e) ft I R b6 w H W s r c5 c6 c7 c8 c9 c10 c11:=by
 have d:fe (W3 ft I R b6 w W s r A J c5 c6 c7 c8 c9 c10 c11):=b;have⟨ak,al,V,am⟩:=b.law.cells;obtain⟨q,t⟩:=ol (.cells #[fY 1,fY B,fY C,fY D,hh S,hh E,fy F G K] 57:Obj);obtain⟨O,h⟩:=ol<|w.alloc q;have i:ju w O:=by rw[h];exact(mi _ _).alloc (lw _) q
 have an:ju w O.drew:=iP i 1;have L:=b.below an;have X:=Ic L.wI S U;have Y:fe _:=X;have ao:O.c w.heap.size 4=fh (hh S):=by rw[h,t];simp
 have ap:=(i.cell (p:=(ii W 0)) V).trans ak;have aq:=(i.cell (p:=(ii W 1)) V).trans al;have aG:O.heap.size=w.heap.size+1:=by rw[h];simp
 have ar:fe (W3 ft I R b6 O.drew W s r A J c5 c6 c7 c8 c9 c10 c11):=L;clear b X L;go_enter CNF,Ctx;go_wp2;rw[<-t,<-h];have aH:fe (q=.cells #[fY 1,fY B,fY C,fY D,hh S,hh E,fy F G K] 57):=t;have aI:fe (O=w.alloc q):=h;clear t h
 go_region_with(first|(go_at_call 35;apply RK Y.o;rintro e g ⟨Z,M,aa,j⟩;have⟨id,ec,N⟩:=M.shape;have P:fe (lz A Z S e):=M;have au:fe (e=pD #[fY id,fY ec]):=N;rw[N];clear M N))
 all_goals
  have u:fH b6 O g:=⟨j.os,j.tape,j.output,j.size,j.block⟩;have m:∀x,x<O.heap.size->¬b6 x->g.heap[x]?=O.heap[x]?:=λx av v=>u.block x av v;have ab:¬b6 W:=λn=>(ar.o.sep.sl W n).2 am;have aw:¬b6 w.heap.size:=λn=>by have:=(d.o.sep.sl _ n).1;omega
  have aJ:=(wJ (a:=(ii W 0))<|m W (by omega) ab).trans ap;have aK:=(wJ (a:=(ii W 1))<|m W (by omega) ab).trans aq;have aL:=(wJ (a:=(ii w.heap.size 4))<|m w.heap.size (by omega) aw).trans ao;have aM:O.heap.size<=g.heap.size:=u.size;have ac:gj R g.drew r J:=d.o.ref.keep (λ_ b=>b) λk f=>(m k (by have:=(d.o.sep.rl k f).1;omega) (d.o.sep.rs k f)).trans<|i.block k (d.o.sep.rl k f).1;have ax:fe (mE I g W s r (fv A) c5 c6 c7 c8 c9 c10 c11):=d.o.law.keep (λ_ b=>b) λk f=>(m k (by have:=d.o.sep.ll k f;omega) λn=>(d.o.sep.sl k n).2 f).trans<|i.block k (d.o.sep.ll k f);have ay:fe (iL ft (kA b6 O g) g s Z):=aa;have az:fe (fH b6 O g):=u;have ad:=Lh ac S U;have aA:fe _:=ad;clear Y aa j u ad ac
  go_frame
  go_wp2
  go_region_with(first|(go_at_call 36;apply RK aA.o;rintro aN aO ⟨x,y,Q,rfl,ae,af,ag⟩))
  all_goals
   have ah:=XA d.o (show ju w O from i) az.o ay.o ax.o ag af P.o ae au.o;have c:fe _:=ah;clear ah ae af ag
   go_frame
   have ai:=λ(e:Int)(aB:fq)=>iR e aB;have⟨aC,_,T⟩:=c.o.1;subst aC;by_cases z:ec=0
   ·have aD:=Fx c.o.2.1 c.o.2.2.2.1 c.o.2.2.1 c.o.2.2.2.2.1 c.o.2.2.2.2.2.1 c.o.1 z d.o.twin.1
    subst z;clear T;have aP:((0:Int) != 0)=fo:=by simp
    go_wp2_with(first
     |(go_at_call 22;refine Calls.still (ai _ _) ?_)
     |(go_at_call 37;refine Calls.via aD λaQ⟨aE,o⟩=>?_))
    go_ret;refine⟨fX,_,_,_,Z,Q,aE,?_,?_,⟨_,P.o⟩⟩;have aF:=c.o.2.2.2.2.2.2.size;refine λk=>⟨?_,?_,?_⟩<;>rintro(b|b)
    exact .inl b;exact .inr<|wy aF b.1;exact .inl b
    have:=b.1
    exact .inr (by omega);exact .inl b
    have:=b.1
    exact .inr (by omega);have l:=c.o.2.2.2.2.2.2;exact⟨o.os.trans l.os,o.tape.trans l.tape,o.output.trans l.output,wy l.size o.size,λk f v=>(o.block k (np f l.size) λb=>v<|.inl b).trans<|l.block k f v⟩
   have hid:id=0/\Z=A/\Q=J:=by
    rcases T with b|b
    exact b.2;exact absurd b.1 z
   have aR:(ec != 0)=fm:=by simpa using z
   have aS:(ec==ec)=fm:=by simp
   obtain⟨rfl,rfl,rfl⟩:=hid;clear T;go_wp2_with(go_at_call 22;refine Calls.still (ai _ _) ?_);go_ret;refine⟨fX,_,_,_,Z,Q,⟨c.o.2.1,c.o.2.2.2.1,c.o.2.2.1,d.o.twin,d.o.at_,c.o.2.2.2.2.1⟩,?_,c.o.2.2.2.2.2.2,⟨_,P.o⟩⟩;refine λk=>⟨.inl,?_,?_⟩<;>rintro(b|b);exact .inl b
   have:=b.1
   exact .inr (by omega);exact .inl b
   have:=b.1
   exact .inr<|by omega
theorem fns(b:W3 ft I R b6 w W s r A J c5 c6 c7 c8 c9 c10 c11)(aS aT aU aV:Int)(S aW)(ab)(o au)(c)(Q:jx w ab o c)(bQ:o<=2097152)(aX:∀e∈c,e.1.size<=maxLen):
  ik 38 #[ie W,fD #[fY aS,fY aT,fY aU,fY aV,hh S,hh aW,fy ab o au]] w λe H=>e=fF (fE fm)/\mN (λbR=>∃e,jw A bR c e) ft I R b6 w H W s r c5 c6 c7 c8 c9 c10 c11:=by
 have⟨bS,U,bT,bU,bV⟩:=kC Vr;have⟨bW,bX,bY,bZ,ca⟩:=kC wO;have f:fe (W3 ft I R b6 w W s r A J c5 c6 c7 c8 c9 c10 c11):=b;have⟨cS,cT,cU,cb⟩:=b.law.cells;obtain⟨aY,T⟩:=ol (.cells #[fY aS,fY aT,fY aU,fY aV,hh S,hh aW,fy ab o au] 57:Obj);obtain⟨O,ac⟩:=ol<|w.alloc aY;have av:ju w O:=by rw[ac];exact(mi _ _).alloc (lw _) aY
 have aZ:O.cell? (ii w.heap.size 6)=fh (fy ab o au):=by rw[ac,T];simp
 have bb:w.heap.size<O.heap.size:=by rw[ac];simp
 have ad:fe (W3 ft I R b6 O W s r A J c5 c6 c7 c8 c9 c10 c11):=b.below av;have ak:fe (jx w ab o c):=Q;have bc:fe (∀e∈c,e.1.size<=maxLen):=aX;obtain⟨n,ae⟩:=ol<|fv A;have aw:fe (n=fv A):=ae;clear b Q aX ae;go_enter func38,ntmps38;go_wp2;rw[<-T,<-ac];clear T ac
 go_loopw [5,6,7] (λl m i wr=>∃(k:Nat) (G:ig) (K:Nat) (L:ig) (M:Nat),k<=o/\i=.int .i64 (k:Int)/\l=fy G k K/\m=fy L k M/\ju O wr/\fe (wr.ownsRow O.heap.size 96 3 (fy G k K) k<|flat (c.take k))/\fe (wr.ownsRow O.heap.size 112 3 (fy L k M) k<|flat ((c.take k).map<|lR n))/\fe (k=0->G=fj/\K=0)) (λ_ _ i _=>o-(intOf i).toNat)
 case atStart=>exact⟨0,fj,0,fj,0,zt _,rfl,rfl,rfl,mi _ _,kO _ _ _ _,kO _ _ _ _,λ_=>⟨rfl,rfl⟩⟩
 case round=>
  obtain⟨k,G,K,L,M,cV,rfl,rfl,rfl,t,C,N,bd⟩:=hrel;have cW:=t.size;have be:=(t.cell (p:=(ii w.heap.size 6)) (by show w.heap.size<_;omega)).trans aZ;by_cases cc:k<o
  ·have⟨al,off,Lv,ax,bf⟩:=ak.o.2 (by omega)
   have ay:k<fv c:=by rw[ak.o.1];exact cc
   have⟨c0,c1,c2⟩:=lr bf ay;obtain⟨x,az⟩:=ol<|c[k];rw[<-az]at c0 c1 c2;have aA:ju w wr:=av.trans<|t.mono (by omega);have cd:=(aA.cell (p:=(ii al<|off+k*3)) ax).trans c0;have ce:=(aA.cell (p:=(ii al<|off+k*3+1)) ax).trans c1;have cf:=(aA.cell (p:=(ii al<|off+k*3+2)) ax).trans c2;have cX:al<wr.heap.size:=by omega
   rw[Lv]at be;have bg:fe (x=c[k]):=az;have bh:fe (∀am,ik 39 #[ie W,fY x.2.2] (wr.alloc am) λe H=>e=fF (fY x.2.2)/\H=wr.alloc am):=λam=>Fy (ad.o.below<|t.alloc t.size am) x.2.2
   have cY:(k:Int)<(o:Int):=by omega
   clear bf c0 c1 c2 az Lv;go_wp2_with(first|(go_at_call 39;refine Calls.still (bh.o _) ?_)|(at_builtin;refine yR _ fX (.tmp 33) (.tmp 40) 55 fX O.heap.size 96 bS _ 3 32 Cbv U bT bU bV fX (by decide) _ _ _ fX ((C.o.alloc _).alloc _) (ii (wr.heap.size+1) 0) 1 1 (pA x) fX fX (tS (wr.alloc _) x _ _<|by simp) (rx x) (by unfold maxLen;omega) (by omega) (by simp;omega) ?_));intro cg j aB af _;have T:O.heap.size<=((wr.alloc<|Obj.cells #[Value.string x.fst,Value.int IntKind.i64 x.snd.fst,Value.int IntKind.i64 x.snd.snd] 96).alloc<|Obj.cells #[Value.string x.fst,Value.int IntKind.i64 x.snd.fst,Value.int IntKind.i64 x.snd.snd] 96).heap.size:=by simp;omega
   have ag:ju O j:=Hb ((t.alloc t.size _).alloc (by simp;omega) _) T ((C.o.alloc _).alloc _) af;have bi:fh wr.heap.size≠(Value.slice G k K).ownBlock:=λe=>by have:=gc C.o e.symm;omega
   have aC:=af.block wr.heap.size (by simp;omega) bi;have bj:j.cell? (ii wr.heap.size 0)=fh (hh x.1):=(wJ (a:=(ii wr.heap.size 0)) aC).trans (by simp);have ch:j.cell? (ii wr.heap.size 1)=fh (fY x.2.1):=(wJ (a:=(ii wr.heap.size 1)) aC).trans (by simp);have aD:fe (j.ownsRow O.heap.size 96 3 cg (k+1)<|flat (c.take<|k+1)):=by show World.ownsRow _ _ _ _ _ _ _;rw[<-Ja ay,<-bg.o];exact aB
   have aE:fe (j.ownsRow O.heap.size 112 3 (fy L k M) k<|flat ((c.take k).map<|lR n)):=gg N.o (λB u=>by
    have Q:=gc N.o u;rw[af.block B (by simp;omega)<|IR N.o C.o (by decide) u,sG _ _ _ (by simp;omega),sG _ _ _ Q])
   have cZ:wr.heap.size<j.heap.size:=by have:=af.size;simp at this;omega
   have ci:fe (∀q,ik 41 #[ie W,fY x.2.2] (j.drewN q) λe H=>e=fF (fY (lR n x).2.2)/\H=j.drewN q):=λq=>by rw[aw.o];exact XF (ad.o.below<|iP ag q) x
   obtain⟨bk,bl,rfl⟩:=po aB;clear aB af T aC bi bh cd ce cf;go_wp2
   go_region_law(first
    |(refine pu fX (.tmp 42) (.tmp 51) 106 fX O.heap.size 112 bW _ 3 32 abO bX bY bZ ca fX (by decide) (fy L k M) k (flat<|(c.take k).map (lR n)) (by simp[Act.eval]) (rE (show j.drew.ownsRow _ _ _ _ _ _ from aE.o) _) (ii j.heap.size 0) 1 1 (pA<|lR n x) (by simp[Act.eval]) fX (tS j.drew (lR n x) _ _ fX) (rx _) (by unfold maxLen;omega) (by omega) (by have:=ag.size;simp;omega) ?_;intro cj aF aG aH _)
    |(go_simp;go_at_call 41;refine RK (ci.o 1) ?_;rintro _ _ ⟨rfl,rfl⟩))
   all_goals
    have ck:ju O aF:=Hb ((iP ag 1).alloc ag.size _) (by have:=ag.size;simp;omega) (rE (show(j.drewN 1).ownsRow _ _ _ _ _ _ from aE.o) _) aH;have cl:fe (aF.ownsRow O.heap.size 112 3 cj (k+1)<|flat ((c.take<|k+1).map<|lR n)):=by
     show World.ownsRow _ _ _ _ _ _ _;rw[vk ay,nh,lM,Cf,qr,tz,<-bg.o];exact aG
    have cm:fe (aF.ownsRow O.heap.size 96 3 (fy bk (k+1) bl) (k+1)<|flat (c.take<|k+1)):=gg aD.o (λB u=>by
     have Q:=gc aD.o u;rw[aH.block B (by simp;omega)<|IR aD.o aE.o (by decide) u,sG _ _ _<|show B<(j.drewN 1).heap.size from Q];rfl)
    obtain⟨cn,cp,rfl⟩:=po aG;clear aG aH;go_wp2;go_roundw
    case rel=>exact⟨k+1,bk,bl,cn,cp,by omega,by go_num,rfl,rfl,ck,cm.o,cl.o,λe=>by omega⟩
    case measure=>simp[intOf];omega
  have cq:k=o:=by omega
  subst cq;have cr:decide ((k:Int)<(k:Int))=fo:=yv (by omega);have bm:c.take k=c:=oJ (by rw[ak.o.1];exact lw _);rw[bm]at C N;have bn:=NS G k K c wr (ir C.o) (by omega) bd.o;have ct:fe _:=bn;clear bn bm;go_wp2_with(go_at_call 81;apply RK ct.o;rintro _ v ⟨h,rfl,bo,aI⟩;have an:fe _:=bo;clear bo;have ah:ju O v:=t.trans<|aI.mono t.size;have cu:=(mE.cells (ad.o.below ah).law).1;have cv:=(mE.cells (ad.o.below ah).law).2.2.1);have aJ:ju w v:=av.trans<|ah.mono (by omega);have cw:fe (W3 ft I R b6 v W s r A J c5 c6 c7 c8 c9 c10 c11):=ad.o.below ah;have bp:fe (v.ownsRow O.heap.size 96 3 (fy G k K) k<|flat c):=gg C.o λB u=>aI.block B<|gc C.o u;have bq:fe (v.ownsRow O.heap.size 112 3 (fy L k M) k<|flat (c.map<|lR n)):=gg N.o λB u=>aI.block B<|gc N.o u;have cx:O.heap.size<=h/\h<v.heap.size:=by have:=World.ownsRow.lt an.o h fX;exact⟨wy t.size this.1,this.2⟩
  have br:=Lt (f.o.below<|iP aJ 1).wI h 0 k (k+3) c ak.o.1 cx.2 (by omega) (λD cy cz=>ks an.o D cy<|XE cz) bc.o;have bs:fe _:=br;have da:O.heap.size<=v.heap.size:=ah.size;have db:O.heap.size<=wr.heap.size:=t.size;clear br C N be aZ
  go_region_with(first|(go_at_call 26;apply RK bs.o;rintro e E ⟨Z,aK,bt,V⟩;have⟨id,X,aL⟩:=aK.shape;have aM:fe (jw A Z c e):=aK;have cA:fe (e=pD #[fY id,fY X]):=aL;rw[aL];clear aK aL))
  all_goals
   have Y:fH b6 v E:=⟨V.os,V.tape,V.output,V.size,V.block⟩;have cC:fe (iL ft (kA b6 v E) E s Z):=bt;have bu:fe (fH b6 v E):=Y;have dc:v.heap.size<=E.heap.size:=Y.size;have cD:E.cell? (ii W 1)=fh (ie r):=(wJ (a:=(ii W 1)) (Y.block W cv λg=>(f.o.sep.sl W g).2 cb)).trans (mE.cells cw.o.law).2.1;have dd:W<E.heap.size:=by omega
   have bv:gj R E r J:=f.o.ref.keep (λ_ b=>b) λq F=>(Y.block q (by have:=(f.o.sep.rl q F).1;omega) (f.o.sep.rs q F)).trans<|aJ.block q (f.o.sep.rl q F).1;have bw:=xh (λq F=>(f.o.sep.sl q F).1) Y bq.o<|Ef bb;have aN:=ins (n:=n) bc.o;have bx:=Ny bv L k M (c.map<|lR n) (ir bw) (by omega) aN.1 (by rw[<-f.o.twin.1,<-aw.o];exact aN.2);have bz:fe _:=bx;clear bx aN bw bv Y V bt bs
   go_frame
   go_wp2_with(first
    |(go_at_call 82;apply RK bz.o;rintro _ cE ⟨x,y,ai,rfl,bA,bB,ao⟩;have bC:fe _:=Ii f.o aJ bu.o cC.o ao bB aM.o (by rw[<-aw.o];exact bA) cA.o;have ap:fe _:=Gcd f.o bu.o ao bp.o an.o (Ef bb) (by omega) bQ bd.o;have de:=ao.size;clear bA bB ao)
    |(go_at_call 83;refine Calls.via ap.o.1 λbD bE=>?_))
   have cF:fe (bD.ownsRow 0 96 3 (my h 0 (k+3)<|k+3) (k+3)<|flat (c++List.replicate 3 Bb)):=gg (tB ap.o.2<|zt _) λB u=>bE.block B<|gc ap.o.2 u;clear bz bp bq an ap cu cD
   go_loopw [16] (λi bF=>∃d:Nat,d<=k+3/\i=.int .i64 (d:Int)/\fe (fH (λq=>q=h) bD bF)/\fe (∃aO,bF.ownsRow 0 96 3 (my h 0 (k+3)<|k+3) (k+3) aO)) (λi _=>k+3-(intOf i).toNat)
   case atStart=>exact⟨0,zt _,rfl,fH.refl _,⟨_,cF.o⟩⟩
   case round=>
    obtain⟨d,df,rfl,aP,aQ⟩:=hrel;have⟨aO,P⟩:=aQ.o;by_cases dg:d<k+3
    ·have dh:=λD=>P.frozenAt D
     have aq:∀D,D<3->∃cG,wr.cell? (ii h<|d*3+D)=fh cG:=λD di=>by
      rw[P.cellAt (d*3+D)<|by omega];exact⟨_,jH (by rw[P.1];omega)⟩
     have⟨dj,bj⟩:=aq 0 (by omega);have⟨dk,ch⟩:=aq 1 (by omega);have⟨dl,dm⟩:=aq 2 (by omega);rw[Ee]at bj;have dn:(d:Int)<(k:Int)+3:=by omega
     have dp:h<wr.heap.size:=gc P fX;have cH:fe (wr.ownsRow 0 96 3 (my h 0 (k+3)<|k+3) (k+3) aO):=P;clear aq aQ P;go_wp2;refine⟨⟨d+1,by omega,by go_num,vG (vG (vG aP.o<|qW fX)<|qW fX)<|qW fX,⟨_,(ss1 (ss1 (ss1 cH.o _ _).1 _ _).1 _ _).1⟩⟩,by simp[intOf];omega⟩
    have cr:decide ((d:Int)<(k:Int)+3)=fo:=yv (by omega);have⟨bG,bH,bI,bJ,bK,bL,bM⟩:=bC.o;have bN:fH (λq=>q=h) cE wr:=vG (fH.fJ bE) aP.o;have hF:=Sv bH bI bJ bK bM bN (λg=>by have:=f.o.sep.ll h g;omega) (λg=>by
     rcases g with g|g
     have:=(f.o.sep.rl h g).1
     omega
     have:=g.1
     omega) (λg=>by
     rcases g with g|g
     have:=(f.o.sep.sl h g).1
     omega
     have:=g.1;omega)<|by omega
    have z:fe _:=hF;have cI:fe (gT ai):=bL;have cJ:fe (Cv A Z J ai id X x y):=bG;have bO:=λ(e:Int)(cK:fq)=>iR e cK;have⟨cL,_,aR⟩:=bG;subst cL;clear P aQ hF bH bI bJ bK bL bM bN aP bC;by_cases ar:X=0
    ·have cN:=Fx z.o.1 z.o.2.2.1 z.o.2.1 z.o.2.2.2.1 cI.o cJ.o ar f.o.twin.1
     subst ar;clear aR;have dq:((0:Int) != 0)=fo:=by simp
     go_wp2_with(first
      |(go_at_call 22;refine Calls.still (bO _ _) ?_)
      |(go_at_call 37;refine Calls.via cN λdr⟨cO,aj⟩=>?_))
     go_ret;refine⟨fX,_,_,_,Z,ai,cO,?_,?_,⟨_,aM.o⟩⟩;have cQ:=z.o.2.2.2.2.size;refine λq=>⟨?_,?_,?_⟩<;>rintro(b|b)
     exact .inl b;exact .inr<|wy cQ b.1;exact .inl b
     have:=b.1
     exact .inr (by omega);exact .inl b
     have:=b.1
     exact .inr (by omega);have aa:=z.o.2.2.2.2;exact⟨aj.os.trans aa.os,aj.tape.trans aa.tape,aj.output.trans aa.output,wy aa.size aj.size,λq F ae=>(aj.block q (np F aa.size) λb=>ae<|.inl b).trans<|aa.block q F ae⟩
    have hid:id=0/\Z=A/\ai=J:=by
     rcases aR with b|b
     exact b.2;exact absurd b.1 ar
    have ds:(X != 0)=fm:=by simpa using ar
    have dt:(X != X)=fo:=(by simp);obtain⟨rfl,rfl,rfl⟩:=hid;clear aR;go_wp2_with(go_at_call 22;refine Calls.still (bO _ _) ?_);go_ret;refine⟨fX,_,_,_,Z,ai,⟨z.o.1,z.o.2.2.1,z.o.2.1,f.o.twin,f.o.at_,z.o.2.2.2.1⟩,?_,z.o.2.2.2.2,⟨_,aM.o⟩⟩;refine λq=>⟨.inl,?_,?_⟩<;>rintro(b|b);exact .inl b
    have:=b.1
    exact .inr (by omega);exact .inl b
    have:=b.1
    exact .inr<|by omega
def tV(g:W3 ft I R b6 w W s r A J c5 c6 c7 c8 c9 c10 c11)(h i j:Int)(S k)(d)(b l)(c)(m:jx w d b c)(q:b<=2097152)(n:∀e∈c,e.1.size<=maxLen):
  ik 20 #[ie W,fD #[fY 2,fY h,fY i,fY j,hh S,hh k,fy d b l]] w λe H=>e=fF (fE fm)/\mN (λt=>∃e,jw A t c e) ft I R b6 w H W s r c5 c6 c7 c8 c9 c10 c11:=by
 have f:∀a,ju w (w.alloc a):=λa=>(mi _ _).alloc (lw _) _;have o:=λa=>fns (g.below<|f a) 2 h i j S k d b l c (m.below<|f a) q n;have u:fe _:=o;clear o g m n;go_enter CNF,Ctx;go_wp2_with(go_at_call 38;refine Calls.via (u.o _) λx p=>?_;have v:fe _:=FA (f _) p;clear p);go_ret;exact⟨fX,v.o⟩
structure Step where
 kind:Int
 a1:Int
 a2:Int
 a3:Int
 S:fP
 T:fP
 la:ig
 lm:Nat
 lc:Nat
 es:List fV
def Step.val (a:Step):fu:=fD #[.int .i64 a.kind,.int .i64 a.a1,.int .i64 a.a2,.int .i64 a.a3,fA a.S,fA a.T,fy a.la a.lm a.lc]
structure Step.Fits (o:Step)(w:World):Prop where
 S:o.S.size<=maxLen
 list:jx w o.la o.lm o.es
 many:o.lm<=2097152
 names:∀e∈o.es,e.1.size<=maxLen
 sS:o.S.size<=1048576
 sT:o.T.size<=1048576
 aaV:-9223372036854775808<=o.a1/\o.a1<=9223372036854775807
 aaW:-9223372036854775808<=o.a2/\o.a2<9223372036854775808
theorem Sw(b:W3 ft I R b6 w W s r A J c5 c6 c7 c8 (fy ea (4*q) ec) c10 c11)(o:Held FH w ea ec q hs)(p:∀k,FH k->¬F3 I R b6 k)(t:4*q<=1000000000)(c:Step)(n:c.Fits w)(u:1<=c.kind/\c.kind<=5):
  ik 20 #[ie W,c.val] w λe H=>e=fF (fE fm)/\∃d,d<=q+1/\vF ft I R b6 FH w H W s r d c5 c6 c7 c8 c10 c11:=by
 have⟨kind,f,g,h,S,i,j,l,m,v⟩:=c;have of:∀{H},Stepped ft I R b6 w H W s r c5 c6 c7 c8 (fy ea (4*q) ec) c10 c11->∃d,d<=q+1/\vF ft I R b6 FH w H W s r d c5 c6 c7 c8 c10 c11:=λhs=>⟨q,jh _,Be b o p hs⟩;have x:kind=1\/kind=2\/kind=3\/kind=4\/kind=5:=by simp only at u;omega
 rcases x with rfl|rfl|rfl|rfl|rfl
 exact(xl b f g h S i j l m n.S).mono λe H⟨a,hs⟩=>⟨a,of hs.un⟩;exact(tV b f g h S i j l m v n.list n.many n.names).mono λe H⟨a,hs⟩=>⟨a,of hs.un⟩;exact(Ie b f g h S i j l m).mono λe H⟨a,hs⟩=>⟨a,of hs⟩;exact(Lx b o p t f g h S i j l m).mono λe H⟨a,hs⟩=>⟨a,q+1,lw _,hs⟩;exact(Ig b f g h S i j l m).mono λe H⟨a,hs⟩=>⟨a,of hs⟩
theorem Sy(W:fq)(a)(t)(cs:Array fu)(b:cs=(flat a).toArray):jx (W.k cs t) (fh<|ii W.heap.size 0) (fv a) a:=by
 refine⟨fX,λ_=>⟨W.heap.size,0,fX,by simp,λc d e=>?_⟩⟩
 all_goals simp_all
def Ij:fV:=(⟨#[120]⟩,1,1)
def Od:fV:=(⟨#[100]⟩,2,2)
def Oe:fV:=(⟨#[97]⟩,1,1)
def Og(W:fq)(a)(t)(cs:Array fu)(b:cs=(flat a).toArray)(c:fv a<=16)(hs:∀e∈a,e.1.size<=12)(n:Nat)(d:n=fv a):(Step.mk 2 0 0 0 kq kq (fh<|ii W.heap.size 0) n n a).Fits (W.k cs t):=by
 subst d;exact⟨show ByteArray.size kq<=maxLen by decide,Sy W a t cs b,wy c<|by decide,λe f=>wy (hs e f)<|by decide,show ByteArray.size kq<=1048576 by decide,show ByteArray.size kq<=1048576 by decide,⟨show(-9223372036854775808:Int)<=0 by decide,show(0:Int)<=9223372036854775807 by decide⟩,⟨show(-9223372036854775808:Int)<=0 by decide,show(0:Int)<9223372036854775808 by decide⟩⟩
structure Bf (w:World)(a:ig)(n:Nat)(ops:List Step):Prop where
 len:ops.length=n
 many:n<=1048576
 cells:∀i (hi:i<ops.length),∃b off,a=some ⟨b,off,none⟩/\b<w.heap.size/\w.cell? ⟨b,off+i*7,none⟩=some (.int .i64 ops[i].kind)/\w.cell? ⟨b,off+i*7+1,none⟩=some (.int .i64 ops[i].a1)/\w.cell? ⟨b,off+i*7+2,none⟩=some (.int .i64 ops[i].a2)/\w.cell? ⟨b,off+i*7+3,none⟩=some (.int .i64 ops[i].a3)/\
  w.cell? ⟨b,off+i*7+4,none⟩=some (.string ops[i].S)/\w.cell? ⟨b,off+i*7+5,none⟩=some (.string ops[i].T)/\w.cell? ⟨b,off+i*7+6,none⟩=some (.slice ops[i].la ops[i].lm ops[i].lc)
 fits:∀o∈ops,o.Fits w
def Step.Fits.below{b:Step}{w H}(a:b.Fits w)(c:ju w H):b.Fits H:=⟨a.S,a.list.below c,a.many,a.names,a.sS,a.sT,a.aaV,a.aaW⟩
end Go.Proofs.YtlgidcmmgohagaaGreat
namespace Go.Proofs.YtlgidcmmgohagaaGreat
open Go.RowKit Go.Sort Go.Shelf Go.ChangeShapes Go.WideShapes Go.Deep Go.Proofs.Tryz
open Go.Value renaming slice->fy,string->fA,pointer->fB,tuple->fC,agg->fD,bool->fE
open Go.Ending renaming returned->fF
open Option renaming some->fh,none->fj
open Bool renaming true->fm,false->fo
open Go renaming World->fq,Value->fu
open List renaming length->fv,reverse->fx
open Go.RowKit renaming Hid->fe
variable {H:Type}{w:fq}{base:Nat}{sp:Nat->Bool}{held:Bool}
def nE:prog.cellsOf 96=3:=by kernel_rfl
def nOp:prog.cellsOf 57=7:=by kernel_rfl
def GMT:prog.cellsOf 9=1:=by kernel_rfl
def Hyp:prog.cellsOf 3=1:=by kernel_rfl
def nID:prog.cellsOf 29=1:=by kernel_rfl
def nEs:prog.cellsOf 55=1:=by kernel_rfl
theorem fn0{H:Type}(d:DataW H):1<=Rows.uptoBulk d:=by
 cases d with
 |lit l=>cases l<;>simp[Rows.uptoBulk]
 |_=>simp[Rows.uptoBulk]
theorem xm{H:Type}{d:DataW H}:∀{l:List (DataW H)},d∈l->Rows.uptoBulk d<=Rows.uptoBulkAll l
 |x::r,a=>by
  simp only[Rows.uptoBulkAll]
  rcases mB.1 a with e|e
  rw[e]
  omega
  have:=xm e
  omega
theorem Jw{H:Type}:∀(l:List (DataW H)),fv l<=Rows.uptoBulkAll l
 |[]=>zt _
 |x::r=>by
  have:=Jw r
  grind [fn0,Rows.uptoBulkAll,lq]
def FB{H:Type}(a sp:List (DataW H)):fv a<=Rows.uptoBulk (.slice a sp)/\∀d∈a,Rows.uptoBulk d<=Rows.uptoBulk (.slice a sp):=by
 have c:=Jw a;simp only[Rows.uptoBulk];exact⟨by omega,λd b=>by have:=xm b;omega⟩
def FC{H:Type}(a:List (DataW H)):∀d ∈ a,Rows.uptoBulk d<=Rows.uptoBulk (.agg a):=λd b=>by
 have:=xm b
 simp only[Rows.uptoBulk]
 omega
theorem Jx{w:fq}{a:Addr}{i}{b:fu}(hs:a.spot=fj)(c:w.cell? (a.add i)=fh b):w.c a.block (a.off+i)=fh b:=by
 obtain⟨d,_⟩:=a
 grind [qc]
def add_block(a:Addr)(n):(a.add n).block=a.block:=by unfold Addr.add;split<;>rfl
section
variable {enc:lV×fu->H}
set_option maxRecDepth 100000 in
theorem Oh{n}{cs}{x:DataW H×List MemPlace}(j:DataW.trod enc prog w base sp held n 96 cs=fh x):∃e:fV,cs=pA e/\e.1.size<=maxLen:=by
 obtain⟨l,m,o,p,_,a,b,c,d⟩:=trod_struct3 underlying96 j;rw[nE]at a
 match cs,a with
 |[v0,v1,v2],_=>
  simp only[GMT,Hyp,nID,Ce,KQ,Rn,KU]at b c d;obtain⟨s,f,_,hs⟩:=DataW.trod_string rev b;obtain⟨k,g,_⟩:=WK bit c;obtain⟨i,h,_⟩:=WK abN d;simp only[Cc,Eg]at f g h;subst f;subst g;subst h;exact⟨(s,k,i),fX,hs⟩
theorem XG{a:Addr}{len:Nat}(c:Nat->fV)(hs:0<len->a.spot=fj/\a.block<w.heap.size)(f:∀i,i<len->∀b,b<3->w.c a.block (a.off+(i*3+b))=(pA<|c i)[b]?):jx w (fh a) len ((List.range len).map c):=by
 refine⟨by simp,λd=>⟨a.block,a.off,?_,(hs d).2,λb g h=>?_⟩⟩
 have:=(hs d).1
 obtain⟨j,_⟩:=a
 grind
 have k:b<len*3:=by
  grind [wH,ly]
 have e:b=b / 3*3+b % 3:=by omega
 grind [iK]
theorem XH{n}{v:fu}{x:DataW H×List MemPlace}(f:DataW.trod enc prog w base sp held n 55 [v]=fh x):
  ∃p g C q,v=fy p g C/\jx w p g q/\(∀e∈q,e.1.size<=maxLen)/\g<=Rows.uptoBulk x.1:=by
 rcases open_slice Cbv f with⟨c,r⟩|⟨b,len,h,m,J,s,K,c,L,M,N,D,r,j⟩
 simp only[Cc,Eg]at c;exact⟨fj,0,0,[],c,⟨fX,λf=>absurd f<|hPQ _⟩,(λe t=>by cases t),zt _⟩;simp only[Cc,Eg]at c;have O:len<=m:=by rw[D];split<;>omega
 rw[nE]at j;have E:∀i,i<len->b.spot=fj:=λi U=>by
  obtain⟨cs,d,k⟩:=j 0 (by omega);obtain⟨e,rfl,_⟩:=Oh k;obtain⟨_,_,l⟩:=hI0 d
  have:=World.cell?_spot (v:=fA e.1) (by rw[l 0<|by omega];rfl)
  simpa [Addr.add]using this
 have F:∀i,i<len->∃e:fV,e.1.size<=maxLen/\b.spot=fj/\b.block<w.heap.size/\∀a,a<3->w.c b.block (b.off+(i*3+a))=(pA e)[a]?:=λi U=>by
  obtain⟨cs,d,k⟩:=j i (by omega);obtain⟨e,rfl,G⟩:=Oh k;obtain⟨_,_,l⟩:=hI0 d;have I:b.block<w.heap.size:=by
   have:=World.cells?_block d<|by omega
   rwa [add_block]at this
  have u:=E i U;refine⟨e,G,u,I,λa y=>?_⟩;have z:a<fv (pA e):=by simpa [pA]using y
  have:=l a y
  rw[add_add,jH z]at this;rw[jH z];exact Jx u this
 obtain⟨A,o⟩:=choose_lt F;refine⟨fh b,len,h,(List.range len).map A,c,XG A (λB=>⟨(o 0 B).2.1,(o 0 B).2.2.1⟩) λi U=>(o i U).2.2.2,λe t=>?_,?_⟩
 grind
 rw[r]
 have:=(FB ((List.range len).map s) ((List.range<|m-len).map λa=>s<|len+a)).1
 grind
instance:Inhabited Step:=⟨⟨0,0,0,0,ByteArray.empty,ByteArray.empty,none,0,0,[]⟩⟩
def Step.cells (a:Step):iN:=[.int .i64 a.kind,.int .i64 a.a1,.int .i64 a.a2,.int .i64 a.a3,fA a.S,fA a.T,fy a.la a.lm a.lc]
def Lz{a:Program}{t}{f0 f1 f2 f3 f4 f5 f6:Field}{fuel}{cs}{x:DataW H×List MemPlace}(j:a.underlying t=fh (.struct #[f0,f1,f2,f3,f4,f5,f6]))(k:DataW.trod enc a w base sp held fuel t cs=fh x):
  ∃c d e f g h i n,x.1=.agg [c.1,d.1,e.1,f.1,g.1,h.1,i.1]/\fv cs=a.cellsOf t/\DataW.trod enc a w base sp held n f0.type ((cs.drop f0.offset).take<|a.cellsOf f0.type)=fh c/\DataW.trod enc a w base sp held n f1.type ((cs.drop f1.offset).take<|a.cellsOf f1.type)=fh d/\
   DataW.trod enc a w base sp held n f2.type ((cs.drop f2.offset).take<|a.cellsOf f2.type)=fh e/\DataW.trod enc a w base sp held n f3.type ((cs.drop f3.offset).take<|a.cellsOf f3.type)=fh f/\DataW.trod enc a w base sp held n f4.type ((cs.drop f4.offset).take<|a.cellsOf f4.type)=fh g/\
   DataW.trod enc a w base sp held n f5.type ((cs.drop f5.offset).take<|a.cellsOf f5.type)=fh h/\DataW.trod enc a w base sp held n f6.type ((cs.drop f6.offset).take<|a.cellsOf f6.type)=fh i:=by
 obtain⟨l,n,_,rfl,m,o,b⟩:=DataW.trod_struct j k
 match l,o with
 | [c,d,e,f,g,h,i],_=>exact⟨c,d,e,f,g,h,i,n,by simp,m,by simpa using b 0 f0 fX,by simpa using b 1 f1 fX,by simpa using b 2 f2 fX,by simpa using b 3 f3 fX,by simpa using b 4 f4 fX,by simpa using b 5 f5 fX,by simpa using b 6 f6 fX⟩
set_option maxRecDepth 100000 in
theorem Vw{n}{cs}{x:DataW H×List MemPlace}(v:DataW.trod enc Tryz.prog w base sp held n 57 cs=some x)(R:Rows.uptoBulk x.1<=1048576):∃f:Step,cs=f.cells/\f.Fits w:=by
 obtain⟨S,T,U,V,y,z,A,W,b,g,h,i,j,k,l,m,o⟩:=Lz Tryz.underlying57 v;rw[nOp] at g
 match cs,g with
 | [v0,v1,v2,v3,v4,v5,v6],_=>
  simp only[GMT,Hyp,nEs,Ce,KQ,Rn,KU] at h i j k l m o;obtain⟨B,p,_⟩:=WK bit h;obtain⟨C,q,_,O⟩:=WK bit i;obtain⟨D,r,_,c⟩:=WK bit j;obtain⟨E,s,_,_⟩:=WK bit k;obtain⟨Z,t,F,G⟩:=DataW.trod_string rev l;obtain⟨d,u,I,X⟩:=DataW.trod_string rev m;obtain⟨J,K,L,M,N,P,Q,Y⟩:=XH o;simp only[Cc,Eg] at p q r s t u;subst p;subst q;subst r;subst s;subst t;subst u;subst N;refine⟨⟨B,C,D,E,Z,d,J,K,L,M⟩,fX,⟨G,P,?_,Q,?_,?_,?_,?_⟩⟩;have a:Rows.uptoBulk A.1<=Rows.uptoBulk x.1:=by
   rw[b];exact FC _ _<|by simp
  grind
  have a:Rows.uptoBulk y.1<=Rows.uptoBulk x.1:=by
   rw[b];exact FC _ _<|by simp
  rw[F] at a;have e:Z.data.toList.length=Z.size:=oW
  grind [Rows.uptoBulk]
  have a:Rows.uptoBulk z.1<=Rows.uptoBulk x.1:=by
   rw[b];exact FC _ _<|by simp
  rw[I] at a;have e:d.data.toList.length=d.size:=oW
  grind [Rows.uptoBulk]
  simp[Lit.wf] at O;exact O;simp[Lit.wf] at c;exact⟨c.1,Int.lt_of_le_of_lt c.2<|by decide⟩
theorem Oi{n}{v:fu}{x:DataW H×List MemPlace}(A:DataW.trod enc prog w base sp held n 22 [v]=fh x)(k:Rows.uptoBulk x.1<=1048576):∃a len c B,v=fy a len c/\Bf w a len B:=by
 rcases open_slice underlying22 A with⟨f,_⟩|⟨a,len,h,m,N,g,O,f,P,Q,R,C,D,l⟩
 simp only[Cc,Eg]at f;exact⟨fj,0,0,[],f,⟨fX,zt _,(λi U=>by cases U),(λb t=>by cases t)⟩⟩;simp only[Cc,Eg]at f;have S:len<=m:=by rw[C];split<;>omega
 rw[nOp]at l;have u:=FB ((List.range len).map g) ((List.range<|m-len).map λd=>g<|len+d);rw[D]at k;have E:len<=1048576:=by
  grind
 have F:∀i,i<len->a.spot=fj:=λi U=>by
  obtain⟨cs,j,o⟩:=l 0 (by omega);obtain⟨b,rfl,_⟩:=Vw o<|wy (u.2 (g 0)<|DZ (KT.2<|by omega)) k;obtain⟨_,_,p⟩:=hI0 j
  have:=World.cell?_spot (v:=.int .i64 b.kind) (by rw[p 0<|by omega];rfl)
  simpa [Addr.add]using this
 have G:∀i,i<len->∃b:Step,b.Fits w/\a.spot=fj/\a.block<w.heap.size/\∀d,d<7->w.cell? ⟨a.block,a.off+(i*7+d),fj⟩=(b.cells)[d]?:=λi U=>by
  obtain⟨cs,j,o⟩:=l i (by omega);obtain⟨b,rfl,I⟩:=Vw o<|wy (u.2 (g i)<|DZ (KT.2 U)) k;obtain⟨_,_,p⟩:=hI0 j;have q:a.block<w.heap.size:=by
   have:=World.cells?_block j<|by omega
   rwa [add_block]at this
  have r:=F i U;refine⟨b,I,r,q,λd y=>?_⟩;have z:d<fv (b.cells):=by simpa [Step.cells]using y
  have:=p d y
  rw[add_add,jH z]at this;rw[jH z];exact Jx r this
 obtain⟨s,J⟩:=choose_lt G;refine⟨fh a,len,h,(List.range len).map s,f,⟨by simp,E,λi U=>?_,λb t=>?_⟩⟩;have K:i<len:=by simpa using U
 obtain⟨_,r,q,e⟩:=J i K;have L:a=⟨a.block,a.off,fj⟩:=by
  obtain⟨T,_⟩:=a
  grind
 have M:((List.range len).map s)[i]=s i:=by simp
 rw[M];exact⟨a.block,a.off,by rw[<-L],q,e 0<|by omega,e 1<|by omega,e 2<|by omega,e 3<|by omega,e 4<|by omega,e 5<|by omega,e 6<|by omega⟩
 grind
end
end Go.Proofs.YtlgidcmmgohagaaGreat
namespace Go.Proofs.YtlgidcmmgohagaaGreat
open Go.RowKit Go.Sort Go.Shelf Go.Proofs.Tryz
open Go.Value renaming slice->fy,string->fA,pointer->fB,tuple->fC,agg->fD,bool->fE
open Go.Ending renaming returned->fF
open Option renaming some->fh,none->fj
open Bool renaming true->fm,false->fo
open Go renaming World->fq,Value->fu
open List renaming length->fv,reverse->fx
open Go.RowKit renaming Hid->fe
set_option maxRecDepth 100000
set_option maxHeartbeats 0
variable {F:Nat->Prop}{w:fq}{S nc dc:Nat}{na da:ig}{E:List fV}{data:fT}{rest:iN}
def Cx:fP:=⟨#[97,98,99]⟩
def irq:fN Ij.1=fm:=by unfold fN Ij;simp only[Au];decide
theorem ita:fN Od.1=fm:=by unfold fN Od;simp only[Au];decide
theorem itb:fN Oe.1=fm:=by unfold fN Oe;simp only[Au];decide
theorem ab4{b:List Ob}{e}(a:lz [] b Cx e):b=[xr Cx]:=by
 rcases a with⟨a,_⟩|⟨_,_,i,a,_⟩|⟨_,_,a,_⟩|⟨_,_,_,a,_⟩
 exact absurd a (by decide);cases a
 all_goals grind
theorem ab5{b:List Ob}{e:Ending}(a:jw [xr Cx] b [Ij] e):∃d:Ob,d.kind=2/\d.gh=[Ij]/\d.high=1/\b=[xr Cx,d]:=by
 have h:=irq;have i:EQ [xr Cx] Ij=fm:=by decide
 rcases a with⟨⟨x,c,a⟩,_⟩|⟨_,⟨a,_⟩|⟨_,a,_⟩|⟨_,_,⟨x,c,a⟩,_⟩|⟨_,_,_,f,g,_,_,a⟩⟩
 ·all_goals grind
 ·all_goals grind
 ·all_goals grind
 ·all_goals grind
 obtain rfl:f=[Ij]:=List.perm_singleton.1 g;have j:gy [xr Cx] [Ij]=1:=by decide
 all_goals grind [absurd,decide,gI,xr]
theorem ab6{b:List Ob}{e:Ending}{d:Ob}(g:d.kind=2)(m:d.gh=[Ij])(n:d.high=1)(a:jw [xr Cx,d] b [Od,Oe] e):3<=fv b/\fK b 3=2:=by
 have o:∀x∈[Od,Oe],fN x.1=fm:=by
  all_goals grind [mB,cpu,ita,itb]
 have p:fK [xr Cx,d] 2=2:=by
  show d.kind=2;exact g
 have q:fK [xr Cx,d] 1=1:=fX;have r:∀x∈[Od,Oe],EQ [xr Cx,d] x=fm:=by
  all_goals grind [mB,cpu,EQ,Od,decide,Oe]
 rcases a with⟨⟨x,c,a⟩,_⟩|⟨_,⟨a,_⟩|⟨_,a,_⟩|⟨_,_,⟨x,c,a⟩,_⟩|⟨_,_,_,h,j,_,_,a⟩⟩
 ·all_goals grind
 exact absurd (by decide) a
 ·all_goals grind
 ·all_goals grind
 have s:gy [xr Cx,d] h<=5:=by
  refine ur.2 ⟨by decide,λx c=>?_⟩;have f:=j.mem_iff.1 c;simp only[mB,cpu,or_false]at f;rcases f with rfl|rfl
  ·show 1+d.high<=5
   all_goals omega
  show 1+(xr Cx).high<=5;decide
 rcases a with⟨a,_⟩|⟨_,_,i,a,_⟩|⟨_,_,a,_⟩|⟨_,_,_,⟨t,k,u,v,l⟩,_⟩
 omega
 ·all_goals grind [gI,yQ,xr,ED]
 ·all_goals grind
 rw[l];exact⟨by simp,k⟩
def gO (a:fT):iN:=a.map Value.string
def uz:(prog.info? 9).map (λi=>(i.zero,i.size,i.bytes))=fh (fh<|hh ByteArray.empty,1,16):=by kernel_rfl
def cutAt (s:fP)(i:Nat):Bool:=if a:i<s.size then decide (s[i]=47)else fm
def lS (s:fP):Nat->fT×Nat
 |0=>([],0)
 |i+1=>if cutAt s i=fm then((lS s i).1++[s.extract (lS s i).2 i],i+1) else((lS s i).1,(lS s i).2)
def jz (s:fP):fT×Bool:=
 if s.size=0 then([],fm)else if ∀x∈(lS s<|s.size+1).1,fN x=fm then((lS s<|s.size+1).1,decide ((lS s<|s.size+1).1.length<=5)) else([],fo)
theorem Jy(s):∀i,(lS s i).2<=i
 |0=>lw _
 |i+1=>by
  have:=Jy s i
  grind [lS,wu]
theorem Oj(s):∀i,(lS s i).1.length<=i
 |0=>lw _
 |i+1=>by
  have:=Oj s i
  grind [lS,wu]
theorem Cy(s:fP)(hs:s.size<=2097152):∀i,∀x∈(lS s i).1,x.size<=maxLen
 |0,x,a=>by cases a
 |i+1,x,a=>by
  simp only[lS]at a
  split at a
  rcases qw.1 a with a|a
  exact Cy s hs i x a
  grind [oa,hxs,maxLen]
  exact Cy s hs i x a
def Bg{x}:∀a∈[Value.string x],a.oneCell'=fm:=by intro a b;simp at b;subst b;rfl
theorem lp(s:ByteArray)(w:fq)(hs:s.size<=2097152):
  ik 152 #[hh s] w λe H=>∃v,e=pD #[v,fE (jz s).2]/\H.ownsRow w.heap.size 9 1 v (jz s).1.length (gO (jz s).1)/\ju w H:=by
 have⟨T,U,V,X,Y⟩:=kC uz;by_cases o:s.size=0
 ·have K:s=kq:=by
   have⟨d⟩:=s;simp only[ByteArray.size]at o;rw[Array.size_eq_zero_iff.1 o]
  have u:fe (jz s=([],fm)):=Fr<|by unfold jz;rw[lv o]
  rw[u.o];subst K;clear o u hs;go_enter func152,ntmps152;go_wp2;go_ret2;exact⟨_,fX,kO _ _ _ _,mi _ _⟩
 have K:(s.toList==[])=fo:=EE.2 λf=>o (by
  have:=congrArg List.length f
  simp only[Au,oW,zy]at this;exact this)
 go_enter func152,ntmps152;go_wp2
 go_loopw [4,5,6] (λl Z i wr=>∃(k g n:Nat) (y:(Option Addr)) (z:Nat),k<=s.size+1/\i=.int .i64 (k:Int)/\Z=.int .i64 (g:Int)/\l=fy y n z/\g<=k/\n<=k/\ju w wr/\fe (g=(lS s k).2)/\fe (n=(lS s k).1.length)/\fe (wr.ownsRow w.heap.size 9 1 (fy y n z) n<|gO (lS s k).1)) (λ_ _ i _=>s.size+1-(intOf i).toNat)
 case atStart=>exact⟨0,0,0,fj,0,zt _,rfl,rfl,rfl,lw _,lw _,mi _ _,rfl,rfl,kO _ _ _ _⟩
 case round=>
  obtain⟨k,g,n,y,z,aq,rfl,rfl,rfl,aa,ar,h,Bh,j,p⟩:=hrel;by_cases ab:k<=s.size
  ·by_cases hcut:cutAt s k=fm
   ·have m:fe (lS s (k+1)=((lS s k).1++[s.extract g k],k+1)):=Fr<|by rw[Bh.o];simp only[lS];rw[lv hcut]
    by_cases A:k<s.size
    case' pos=>
     have B:s[k]=47:=by unfold cutAt at hcut;rw[dif_pos A]at hcut;exact BZ hcut
     have C:((k:Int)==(s.size:Int))=fo:=by simp;omega
     have ac:((s[k].toNat:Int)==47)=fm:=by rw[B];rfl
     clear hcut B
    case' neg=>
     have C:k=s.size:=(by omega);have au:((k:Int)==(s.size:Int))=fm:=by rw[C];simp
     have av:fe (k=s.size):=C;clear hcut C
    all_goals
     go_wp2_with(at_builtin;refine yR _ fX (.tmp 27) (.tmp 32) 131 fX w.heap.size 9 T _ 1 16 Clz U V X Y fX (by decide) _ _ _ fX (p.o.alloc _) (ii wr.heap.size 0) 1 1 [hh<|s.extract g k] fX fX (one_cell _ _ _ _ fX) Bg (by unfold maxLen;omega) (by omega) (by have:=h.size;simp;omega) ?_);intro aw O G L _;have ad:=Hb (h.alloc h.size _) (by have:=h.size;simp;omega) (p.o.alloc _) L;obtain⟨M,N,rfl⟩:=po G;have ae:fe (O.ownsRow w.heap.size 9 1 (fy M (n+1) N) (n+1)<|gO (lS s<|k+1).1):=by show World.ownsRow _ _ _ _ _ _ _;rw[m.o];simp only[gO,nh,lM,Cf];exact G
     have af:fe (n+1=(lS s<|k+1).1.length):=Fr<|by rw[m.o,j.o];simp
     have ag:fe (k+1=(lS s<|k+1).2):=Fr<|by rw[m.o]
     clear G L;go_wp2;go_roundw
     case rel=>exact⟨k+1,k+1,n+1,M,N,by omega,by go_num,by go_num,rfl,lw _,by omega,ad,ag.o,af.o,ae.o⟩
     case measure=>simp[intOf];omega
   have m:fe (lS s (k+1)=((lS s k).1,(lS s k).2)):=Fr<|by simp only[lS];rw[km hcut]
   have A:k<s.size:=by
    rcases WN k s.size with f|f
    exact f;exact absurd (by unfold cutAt;rw[dif_neg<|by omega]) hcut
   have B:s[k]≠47:=λe=>hcut (by unfold cutAt;rw[dif_pos A];exact qu e);have C:((k:Int)==(s.size:Int))=fo:=by simp;omega
   have ac:((s[k].toNat:Int)==47)=fo:=EE.2 λe=>B<|cse.1 (by have:(47:UInt8).toNat=47:=fX;omega);clear hcut B;go_wp2;go_roundw
   case rel=>exact⟨k+1,g,n,y,z,by omega,by go_num,rfl,rfl,by omega,by omega,h,by show _=_;rw[m.o];exact Bh,by show _=_;rw[m.o];exact j.o,by show World.ownsRow _ _ _ _ _ _ _;rw[m.o];exact p⟩
   case measure=>simp[intOf];omega
  have ah:fe (k=s.size+1):=Fr<|by omega
  obtain⟨a,F⟩:=ol<|(lS s k).1;rw[<-F]at j p;have P:fe (a=(lS s<|s.size+1).1):=Fr<|by rw[<-ah.o];exact F
  have ai:fe (∀x∈a,x.size<=maxLen):=by rw[F];exact Cy s hs _
  rename fq=>aj;obtain⟨ak,Q⟩:=ol k;rw[<-Q]at ab |-;clear F Q;have al:decide ((ak:Int)<=(s.size:Int))=fo:=yv (by omega);have u:fe (jz s=if ∀x∈a,fN x=fm then(a,decide (fv a<=5)) else([],fo)):=Fr<|by unfold jz;rw[km o,<-P.o]
  clear P Bh aa;go_wp2
  go_loopw [7] (λi wr=>∃k:Nat,k<=n/\i=.int .i64 (k:Int)/\(∃q,wr=aj.drewN q)/\fe (∀b(D:b<fv a),b<k->fN a[b]=fm)) (λi _=>n-(intOf i).toNat)
  case atStart=>exact⟨0,zt _,rfl,⟨0,rfl⟩,λb D f=>by omega⟩
  case round=>
   obtain⟨k,ax,rfl,⟨q,rfl⟩,R⟩:=hrel;by_cases A:k<n
   ·have I:k<fv a:=by rw[<-j.o];exact A
    have⟨ay,am,az,c,_⟩:=row_one (tB p<|zt _) (i:=k) (v:=fA a[k]) (by simp[gO,I]);subst am;have r:=λW=>IY a[k] W<|ai.o _ (kN I);have aA:(k:Int)<(n:Int):=by omega
    cases t:fN a[k] with
    |true=>
     rw[t]at r;have E:fe (fN a[k]=fm):=t;have J:fe _:=r;clear t r;go_wp2_with(go_at_call 150;apply RK<|J _;rintro _ _ ⟨rfl,an,rfl⟩);go_roundw
     case rel=>
      refine⟨k+1,by omega,by go_num,⟨_,fX⟩,λb D aB=>?_⟩;by_cases e:b=k;subst e;exact E;exact R.o b D<|by omega
     case measure=>simp[intOf];omega
    |false=>
     rw[t]at r;have E:fe (jz s=([],fo)):=by
      show _=_;rw[u.o,km];intro f
      have:=f _<|kN I
      rw[t]at this;cases this
     have J:fe _:=r;clear t r;go_wp2_with(go_at_call 150;apply RK<|J _;rintro _ _ ⟨rfl,an,rfl⟩);go_ret2;rw[E.o];exact⟨_,fX,kO _ _ _ _,iP h _⟩
   have E:fe (jz s=(a,decide (fv a<=5))):=by
    show _=_;rw[u.o,lv];intro x ao;obtain⟨b,D,rfl⟩:=rD ao;exact R b D (by have:=j.o;omega)
   have al:decide ((k:Int)<(n:Int))=fo:=yv (by omega);have ap:fe (decide ((n:Int)<=5)=decide (fv a<=5)):=by
    show _=_;rw[j.o];by_cases S:fv a<=5;rw[qu S,qu<|by omega];rw[yv S,yv<|by omega]
   go_wp2;go_ret2;rw[E.o];refine⟨fy y n z,by rw[<-ap.o];rfl,?_,iP h q⟩;rw[<-j.o];exact p
def tW (c n:Int):Int:=(if c<0 then -(c+1)else c).tmod n
def Jz(c:Int){n:Int}(a:0<n):0<=tW c n/\tW c n<n:=by
 have b:0<=(if c<0 then -(c+1)else c):=by split<;>omega
 exact⟨Int.tmod_nonneg _ b,Int.tmod_lt_of_pos _ a⟩
def fwd(c n:Int)(w:fq)(f:-9223372036854775808<=c/\c<=9223372036854775807)(e:0<n)(g:n<=1000000000):
  ik 49 #[fY c,fY n] w (PP (fY<|tW c n) w):=by
 have d:=Jz c e;by_cases b:c<0
 ·have a:fe (tW c n=(-(c+1)).tmod n):=Fr<|by unfold tW;rw[lv b]
  rw[a.o]at d;go_enter func49,ntmps49;go_wp2;go_ret;exact⟨by rw[a.o,Int.neg_tmod];rfl,fX⟩
 have a:fe (tW c n=c.tmod n):=Fr<|by unfold tW;rw[km b]
 rw[a.o]at d;go_enter func49,ntmps49;go_wp2;go_ret;exact⟨by rw[a.o,Int.tmod_eq_emod_of_nonneg b];rfl,fX⟩
theorem Ik(o p)(c d)(a b:fT)(w:fq)(L:fv a<=1000000000)(M:fv b<=1000000000)
  (r:w.ownsRow 0 9 1 (fy o (fv a) c) (fv a) (gO a))(s:w.ownsRow 0 9 1 (fy p (fv b) d) (fv b) (gO b)):
  ik 92 #[fy o (fv a) c,fy p (fv b) d] w (ut (fE<|decide (a=b)) w):=by
 by_cases h:fv a=fv b
 ·obtain⟨m,j⟩:=ol (fv a)
  have z:fe (fv a=m):=j.symm;have A:fe (fv b=m):=by rw[j];exact h.symm
  rw[<-h,<-j]at s;rw[<-h,<-j];rw[<-j]at r L;have N:fe (w.ownsRow 0 9 1 (fy o m c) m<|gO a):=r;have O:fe (w.ownsRow 0 9 1 (fy p m d) m<|gO b):=s;clear r s h j M;have P:((m:Int) != (m:Int))=fo:=by simp
  go_enter func92,ntmps92;go_wp2
  go_loopw [5] (λi wr=>∃k:Nat,k<=m/\i=.int .i64 k/\fe (∃q,wr=w.drewN q)/\fe (a.take k=b.take k)) (λi _=>m-(intOf i).toNat)
  case atStart=>exact⟨0,zt _,rfl,⟨0,by first|rfl|trivial⟩,rfl⟩
  case round=>
   obtain⟨k,R,rfl,f,B⟩:=hrel;by_cases C:k<m
   ·have D:k<fv a:=by rw[z.o];exact C
    have E:k<fv b:=by rw[A.o];exact C
    obtain⟨x,l⟩:=ol<|a[k];obtain⟨y,n⟩:∃y,y=b[k]:=⟨_,fX⟩;obtain⟨F,rfl,G,H,_⟩:=row_one N (i:=k) (v:=fA x) (by simp[gO,jH D,l]);obtain⟨I,rfl,J,K,_⟩:=row_one O (i:=k) (v:=fA y) (by simp[gO,jH E,n]);have S:wr.c F k=fh (hh x):=by have⟨q,e⟩:=f.o;rw[e];exact H
    have T:wr.c I k=fh (hh y):=by have⟨q,e⟩:=f.o;rw[e];exact K
    have U:F<wr.heap.size:=by obtain⟨q,e⟩:=f.o;rw[e];exact G
    have V:I<wr.heap.size:=by have⟨q,e⟩:=f.o;rw[e];exact J
    clear H K G J
    change fe _ at l n
    cases t:(x.toList==y.toList) with
    |true=>
     have g:fe (x=y):=Rw<|sle.1 (by simpa [Au]using t);go_wp2
     go_quiet (fail)
     go_wp2;go_roundw
     case rel=>
      refine⟨k+1,by omega,by go_num,(by have⟨q,e⟩:=f;exact⟨q+nq,by rw[e];simp⟩),?_⟩;show _=_;rw[vk D,vk E,B.o,<-l.o,<-n.o,g.o]
     case measure=>simp[intOf];omega
    |false=>
     have g:fe (a≠b):=λu=>by
      have:x=y:=by rw[l.o,n.o];simp only[u]
      rw[this]at t;simp at t
     go_wp2
     go_quiet (fail)
     go_wp2;go_ret;exact⟨by rw[yv g.o];rfl,by obtain⟨q,e⟩:=f;rw[e];exact iP (iP (mi _ _) _) _⟩
   have Q:k=m:=by omega
   have g:fe (a=b):=by
    have:=B.o
    rwa [Q,oJ (by rw[z.o];exact lw _),oJ (by rw[A.o];exact lw _)]at this
   go_wp2;go_ret;exact⟨by rw[qu g.o];rfl,by have⟨q,e⟩:=f;rw[e];exact iP (mi _ _) _⟩
 have g:fe (a≠b):=λu=>h (by rw[u]);have P:((fv a:Int) != (fv b:Int))=fm:=by simp;omega
 clear h;go_enter func92,ntmps92;go_wp2;go_ret;exact⟨by rw[yv g.o];rfl,mi _ _⟩
def gW(W:Nat)(e a:Int)(fj:Bool)(w:fq)(b:(e==14)=fo):
  ik 53 #[fB<|fh ⟨W,0,.none⟩,fY e,fY a,fE fj] w λr H=>r=pD #[fE fo,fE<|e==a]/\H=w:=by
 go_enter func53,ntmps53;go_wp2_with(go_at_call 22;refine RK (iR _ _) ?_;rintro _ _ ⟨rfl,rfl⟩);go_ret2;exact⟨fX,fX⟩
def lF (w:fq)(d:ig)(m:Nat)(a:fT):Prop:=fv a=m/\(0<m->∃b off,d=fh ⟨b,off,fj⟩/\b<w.heap.size/\∀c(e:c<fv a),w.cell? ⟨b,off+c,fj⟩=fh (fA a[c]))
theorem PQ{w:fq}{g}{d}{m c}{a}(b:w.ownsRow g 9 1 (fy d m c) m (gO a)):lF w d m a:=by
 have h:fv a=m:=by have:=b.1;simp only[gO,oI]at this;omega
 refine⟨h,λn=>?_⟩;have⟨j,_,k,_⟩:=row_one (tB b<|zt _) (i:=0) (v:=fA a[0]) (by simp[gO])
 subst_vars
 refine⟨j,0,fX,k,λf l=>?_⟩;have⟨o,e,_,p,_⟩:=row_one (tB b<|zt _) (i:=f) (v:=fA a[f]) (by simp[gO,l])
 grind
def lF.below{w H}{a}{m}{b}(c:lF w a m b)(d:ju w H):lF H a m b:=
 ⟨c.1,λh=>by
  have⟨e,off,i,f,j⟩:=c.2 h
  exact⟨e,off,i,np f d.size,λg k=>(d.cell (p:=(ii e<|off+g)) f).trans<|j g k⟩⟩
theorem lF.take{w}{a}{m}{b}(c:lF w a m b)(k:Nat)(d:k<=m):lF w a k (b.take k):=by
 refine⟨by rw[kV,c.1];omega,λe=>?_⟩;have⟨f,off,g,h,i⟩:=c.2<|by omega
 grind
def oz (a:fT):Nat->fP
 |0=>⟨#[]⟩
 |k+1=>(if 0<k then oz a k++⟨#[47]⟩else oz a k)++a.getD k ⟨#[]⟩
def fG (a:fT):fP:=oz a<|fv a
theorem xo(a:(List ByteArray))(b:∀x ∈ a,x.size<=12):∀k,(oz a k).size<=13*k
 | 0=>Nat.le_refl _
 | k+1=>by
  have c:=xo a b k
  have d:(a.getD k ⟨#[]⟩).size<=12:=by
   rw[List.getD_eq_getElem?_getD];rcases e:a[k]? with _ | x
   exact Nat.zero_le _
   grind
  simp only[oz];split;rw[ByteArray.size_append,ByteArray.size_append]
  have:(⟨#[47]⟩:ByteArray).size=1:=fX
  omega
  grind
theorem FD(j)(m c)(a)(w)(d:lF w j m a)(e:∀x∈a,x.size<=12)(z:m<=2097153):
  ik 202 #[fy j m c] w (PP (hh<|fG a) w):=by
 have p:fe (∀k,(oz a k).size<=13*k):=xo a e
 change fe _ at d e
 go_enter func202,ntmps202;go_wp2
 go_loopw [3,4] (λt i wr=>∃(k:Nat) (s:fP),k<=m/\i=.int .i64 (k:Int)/\t=fA s/\s.size<=13*k/\wr=w/\fe (s=oz a k)) (λ_ i _=>m-(intOf i).toNat)
 case atStart=>exact⟨0,kq,zt _,rfl,rfl,lw _,rfl,rfl⟩
 case round=>
  obtain⟨k,s,A,rfl,rfl,B,rfl,f⟩:=hrel;by_cases q:k<m
  ·have g:k<fv a:=by rw[d.o.1];exact q
   have⟨C,off,r,D,l⟩:=d.2 (by omega);have c0:=l k g;subst r;have u:=e _<|kN g;obtain⟨x,h⟩:=ol<|a[k];rw[<-h]at c0 u;have v:fe (x=a[k]):=h;clear l h;have n:fe (a.getD k kq=x):=Fr<|by rw[v.o,wK,jH g];rfl
   by_cases o:0<k
   case' pos=>
    have y:0<(k:Int):=(by omega);have b:fe (s++⟨#[47]⟩++x=oz a (k+1)):=Fr<|by rw[f.o];simp only[oz];rw[lv o,n.o]
   case' neg=>
    have y:decide (0<(k:Int))=fo:=yv (by omega);have b:fe (s++x=oz a (k+1)):=Fr<|by rw[f.o];simp only[oz];rw[km o,n.o]
   all_goals
    go_wp2;refine⟨⟨k+1,_,by omega,by go_num,fX,?_,by trivial,b.o⟩,by simp[intOf];omega⟩;rw[b.o];exact p.o _
  have b:fe (s=fG a):=Fr<|by rw[f.o];unfold fG;rw[d.o.1];congr 1;omega
  go_wp2;go_ret;exact⟨by rw[<-b.o];rfl,fX⟩
structure gp (F:Nat->Prop)(w:World)(S:Nat)(na da:ig)(nc dc:Nat)(nodes:List fV)(data:fT)(rest:iN):Prop where
 fS:F S
 hS:w.heap[S]?=some (.cells (Value.slice na nodes.length nc::Value.slice da data.length dc::rest).toArray 179 (0,0))
 lT:w.ownsRow 0 200 3 (.slice na nodes.length nc) nodes.length (flat nodes)
 jq:w.ownsRow 0 9 1 (.slice da data.length dc) data.length (gO data)
 fn:∀g,(Value.slice na nodes.length nc).ownBlock=some g->F g
 fd:∀g,(Value.slice da data.length dc).ownBlock=some g->F g
def gp.lt(a:gp F w S na da nc dc E data rest):S<w.heap.size:=(lW.1 a.hS).1
def gp.c0(a:gp F w S na da nc dc E data rest):w.c S 0=fh (fy na (fv E) nc):=by simp[World.cell?,a.hS]
def gp.c1(a:gp F w S na da nc dc E data rest):w.c S 1=fh (fy da (fv data) dc):=by simp[World.cell?,a.hS]
def gp.keep{F':Nat->Prop}{H:fq}(b:gp F w S na da nc dc E data rest)(hF:∀k,F k->F' k)(d:∀k,F k->H.heap[k]?=w.heap[k]?):gp F' H S na da nc dc E data rest:=
 ⟨hF _ b.fS,(d S b.fS).trans b.hS,gg b.lT λa c=>d a<|b.fn a c,gg b.jq λa c=>d a<|b.fd a c,λa c=>hF a<|b.fn a c,λa c=>hF a<|b.fd a c⟩
def gp.below{H}(a:gp F w S na da nc dc E data rest)(b:ju w H):gp F H S na da nc dc E data rest:=
 ⟨a.fS,(b.block S a.lt).trans a.hS,gg a.lT λc d=>b.block c<|gc a.lT d,gg a.jq λc d=>b.block c<|gc a.jq d,a.fn,a.fd⟩
def Pl (E:List fV)(a:fP):Option Nat:=E.findIdx? λe=>decide (e.1.toList=a.toList)
def nz (E:List fV)(a:fP):Int:=if a.toList=[]then 2 else match Pl E a with|some i=>((E[i]?).map (·.2.1)).getD 0|none=>0
theorem pK(j)(m c)(E)(p)(w)(f:jx w j m E)(t:m<=1000000000):
  ik 106 #[fy j m c,hh p] w (PP (fY<|pz (Pl E p)) w):=by
 change fe _ at f
 go_enter func106,ntmps106;go_wp2
 go_loopw [5] (λi wr=>∃k:Nat,k<=m/\i=.int .i64 k/\wr=w/\fe (∀a(b:a<fv E),a<k->decide (E[a].1.toList=p.toList)=fo)) (λi _=>m-(intOf i).toNat)
 case atStart=>exact⟨0,zt _,rfl,rfl,λa b u=>by omega⟩
 case round=>
  obtain⟨k,v,rfl,rfl,g⟩:=hrel;by_cases o:k<m
  ·have l:k<fv E:=by rw[f.o.1];exact o
   have⟨y,off,q,z,n⟩:=f.2 (by omega);have⟨c0,_⟩:=lr n l;subst q;clear n;by_cases d:E[k].1.toList=p.toList
   ·have h:fe (E[k].1.toList=p.toList):=d
    have r:(E[k].1.toList==p.toList)=fm:=by rw[d];exact beq_self_eq_true _
    clear d;go_wp2;go_ret;refine⟨?_,fX⟩;have e:Pl E p=fh k:=yQ.2 ⟨l,qu h,λa b=>by have:=g a (by omega) b;simp[this]⟩;rw[e];rfl
   have h:fe (decide (E[k].1.toList=p.toList)=fo):=yv d;have r:(E[k].1.toList==p.toList)=fo:=EE.2 d;clear d;go_wp2;go_roundw
   case rel=>
    refine⟨k+1,by omega,by go_num,by trivial,λa b A=>?_⟩;by_cases e:a=k;subst e;exact h;exact g a b<|by omega
   case measure=>simp[intOf];omega
  go_wp2;go_ret;refine⟨?_,fX⟩;have e:Pl E p=fj:=Wv.2 λx s=>by
   obtain⟨a,b,rfl⟩:=rD s;exact g a b (by have:=f.1;omega)
  rw[e];rfl
theorem pL(f:gp F w S na da nc dc E data rest)(a)(j:fv E<=1000000000):
  ik 155 #[ie S,hh a] w (PP (fY<|nz E a) w):=by
 have o:=f.c0;have k:=pK na (fv E) nc E a w (ir f.lT) j;have h:fe (w.ownsRow 0 200 3 (fy na (fv E) nc) (fv E)<|flat E):=f.lT;have c:fe _:=k;obtain⟨n,g⟩:=ol<|fv E;rw[<-g]at o c j;clear f k;by_cases b:a.toList=[]
 ·have e:fe (nz E a=2):=Fr<|by unfold nz;rw[lv b]
  have p:(a.toList==[])=fm:=by rw[b];rfl
  clear b;rw[e.o];clear g;go_enter func155,ntmps155;go_wp2;go_ret;exact⟨fX,fX⟩
 have p:(a.toList==[])=fo:=EE.2 b;cases d:Pl E a
 case' none=>
  have e:fe (nz E a=0):=Fr<|by unfold nz;rw[km b,d]
  rw[d]at c;have l:fe (ik 106 #[fy na n nc,hh a] w<|PP (fY<|-1) w):=c.o;rw[e.o];clear g d c b
 case' some i=>
  have U:i<fv E:=(yQ.1 d).1;have e:fe (nz E a=E[i].2.1):=Fr<|by unfold nz;rw[km b,d];simp[U]
  rw[d]at c;have l:fe (ik 106 #[fy na n nc,hh a] w<|PP (fY (i:Int)) w):=c.o;rw[e.o];have⟨r,s,m⟩:=hZ h.o (by omega);have q:=(lK m).1;subst q;have⟨_,c1,_⟩:=lr (off:=0) (ks h.o) U;rw[iO]at c1;have t:=gc h.o fX;have u:(i:Int)<(n:Int):=by omega
  have v:decide ((i:Int)<0)=fo:=yv (by omega);clear g d c m b
 all_goals
  go_enter func155,ntmps155;go_wp2_with(go_at_call 106;refine Calls.still l.o ?_);go_ret;exact⟨fX,fX⟩
