/- A part of the proof. -/
import Derived.Test.YtlgidcmmgohagaaGreatAllM19
set_option linter.all false
namespace Go.Proofs.YtlgidcmmgohagaaGreat
open Go.RowKit Go.Sort Go.Shelf Go.Proofs.Tryz
open Go.Value renaming slice->fy,string->fA,pointer->fB,tuple->fC,agg->fD,bool->fE
open Go.Ending renaming returned->fF
open Option renaming some->fh,none->fj
open Bool renaming true->fm,false->fo
open Go renaming World->fq,Value->fu
open List renaming length->fv,reverse->fx
open Go.RowKit renaming Hid->fe
set_option maxRecDepth 100000
set_option maxHeartbeats 0
variable {cs:Array fu}{da la na:iD}{F F':Nat->Prop}{S c cc dc Y j k m nc:Nat}{rest xs:gX}{P:Nat×Nat->Prop}{w J:fq}{E:List fV}{B:WB}{x:List fV×fQ}{t:LT}{T:gC}{v:fu}{data:fQ}{g:WG}
variable {b f:Bool}{T M:gC}{w J:fq}{B0 W s r p I:Nat}{A O:List Ob}{got:List Int}{ws:List Slot}
def Zm (w J:fq)(k:Nat):Prop:=w.heap.size<=k/\k<J.heap.size
structure Aj (w:World)(rest:gX)(ba wa:iD)(bc wc:Nat)(base:List fV)(was:fQ):Prop where
 r32:rest[32]?=some (.slice ba base.length bc)
 r33:rest[33]?=some (.slice wa was.length wc)
 TW:w.ownsRow 0 200 3 (.slice ba base.length bc) base.length (flat base)
 yV:w.ownsRow 0 9 1 (.slice wa was.length wc) was.length (gN was)
def nv (F:Nat->Prop)(w:fq)(rest:gX)(x:List fV×fQ):Prop:=
 ∃ba a b wc,Aj w rest ba a b wc x.1 x.2/\∀g,(Value.slice ba (fv x.1) b).ownBlock=fh g\/(Value.slice a (fv x.2) wc).ownBlock=fh g->F g
theorem nv.keep{rest b:gX}(f:nv F w rest x)(h:b.drop 32=rest.drop 32)(hF:∀k,F k->F' k/\J.heap[k]?=w.heap[k]?):nv F' J b x:=by
 have⟨ba,i,l,wc,a,c⟩:=f;have d:∀j,b[32+j]?=rest[32+j]?:=λj=>by rw[<-Wq,<-Wq,h]
 exact⟨ba,i,l,wc,⟨(d 0).trans a.r32,(d 1).trans a.r33,gg a.TW λg e=>(hF g (c g<|.inl e)).2,gg a.yV λg e=>(hF g (c g<|.inr e)).2⟩,λg e=>(hF g (c g e)).1⟩
theorem GF{w b a:fq}{S f j:Nat}(m:gl F b S E data rest)(hF:∀k,F k->k<b.heap.size)(o:w.heap.size<=S)(h:ju w b)(c:(b.drewN f).grownBy a fj):
  gl F (a.setCell (ie S<|2+j) v) S E data (rest.set j v)/\ju w (a.setCell (ie S<|2+j) v)/\∀{t z u n xs},a.ownsRow 0 t z u n xs->179≠t->(a.setCell (ie S<|2+j) v).ownsRow 0 t z u n xs:=by
 have⟨na,nc,da,dc,p⟩:=m;have i:=p.keep (λ_ d=>d) λk q=>c.block k (hF k q) (by simp);exact⟨⟨na,nc,da,dc,(i.aat j v).1⟩,((jf h f).grown c h.size λk d=>by cases d).setCell o _,λl r=>gg l λg c=>sI _ _ _ _ λe=>il l i.hS r (by grind)⟩
theorem Kp{b}{t}{z n}(a:w.ownsRow b t z v n xs):∃d c,v=fy d n c:=by
 rcases a.2 with⟨rfl,rfl⟩|⟨g,h,_,rfl,_⟩
 all_goals grind
def vk:gX:=[fE fo,.int .i64 0,.int .i64 0,.int .i64 0,fE fo,.int .i64 0,.int .i64 0,.int .i64 0,fE fo,.int .i64 0,.int .i64 0,.int .i64 0,fE fo,.int .i64 0,.int .i64 0,.int .i64 0,fE fo,.int .i64 0,.int .i64 0,.int .i64 0,fE fo,.int .i64 0,.int .i64 0,.int .i64 0,fE fo,.int .i64 0,.int .i64 0,.int .i64 0,fE fo,.int .i64 0,.int .i64 0,.int .i64 0,fy fj 0 0,fy fj 0 0]
theorem Qd(w:fq):gl (λk=>k=w.heap.size) (w.alloc<|.cells (Value.slice fj 0 0::Value.slice fj 0 0::vk).toArray 179) w.heap.size [] [] vk:=
 ⟨fj,0,fj,0,⟨fX,oO _ _,jY _ _ _ _,jY _ _ _ _,(λg a=>by cases a),(λg a=>by cases a)⟩⟩
theorem gm.cR(a:gm F w S na da nc dc E data rest)(b:rest[j]?=fh v):w.c S (2+j)=fh v:=by
 have c:(2+j)=j+1+1:=by omega
 simp[World.cell?,a.hS,c,b]
def gm.fR(a:gm F w S na da nc dc E data rest)(i):w.frozen? (ie S i)=fo:=by simp[World.frozen?,a.hS]
theorem hls(xs):∀a∈gN xs,a.oneCell'=fm:=by
 intro a b;simp only[gN,jC]at b;obtain⟨x,_,rfl⟩:=b;rfl
theorem Mm(O)(r at_:Nat)(q)(w)(T:gR O)(U:∀ao∈O,∀e∈ao.gh,e.1.size<=12)(ap:at_<fv O)(aW:at_<=5000)(C:(jx O (at_+1) at_ kq ([],[])).1.length<=1000000000)(D:(jx O (at_+1) at_ kq ([],[])).2.length<=1000000000)
  (V:gi q w r O)(W:∀k,q k->k<w.heap.size):
  ik 47 #[ii r,fY (at_:Int)] w λe J=>∃F rest,rest.take 32=vk.take 32/\e=fF (ii w.heap.size)/\(∀k,F k->w.heap.size<=k/\k<J.heap.size)/\gl F J w.heap.size (jx O (at_+1) at_ kq ([],[])).1 (jx O (at_+1) at_ kq ([],[])).2 rest/\nv (λk=>w.heap.size<=k/\¬F k) J rest (jx O (at_+1) at_ kq ([],[]))/\ju w J:=by
 have⟨aq,ar,au,av,aw⟩:=kM uJ;have⟨ax,ay,az,aA,aB⟩:=kM uF;have x:=λ(rest:gX)(F:Nat->Prop)(aC:fq)=>lub O rest w.heap.size r T U (at_+1) at_ kq ([],[]) F q aC (by omega) ap (by show 0+_<=_;omega) C D;have⟨E,G⟩:=oX<|(jx O (at_+1) at_ kq ([],[])).1;obtain⟨data,H⟩:=oX<|(jx O (at_+1) at_ kq ([],[])).2;have X:jx O (at_+1) at_ kq ([],[])=(E,data):=by rw[G,H]
 rw[X]at x |-;simp only at x |-;rw[<-G]at C;rw[<-H]at D;have aD:fe (gi q w r O):=V;have Y:fe (∀k,q k->k<w.heap.size):=W;obtain⟨c,n⟩:=oX<|fv E;have⟨nd,oh⟩:=oX<|fv data;rw[<-n]at C;rw[<-oh]at D
 change fe _ at x n oh
 clear G H X V W T U;go_enter func47,ntmps47;go_wp2_with fail;refine Hk (x.o vk (λk=>k=w.heap.size) _ (Qd w) (aD.o.below ((mi _ _).alloc (lw _) _) λ_ I=>I) (λk b=>⟨by have:=Y k b;simp;omega,by have:=Y.o k b;omega⟩) (λk b=>by subst b;simp)) λa⟨l,p⟩=>?_
 have aX:w.heap.size+1<=a.heap.size:=by have:=p.size;simpa using this
 have Z:ju w a:=⟨p.os,p.tape,p.output,by omega,λk b=>by rw[p.block k (by simp;omega)<|by omega,sK _ _ _ b]⟩;have aa:fe (gl (Zm w a) a w.heap.size E data vk):=l.DG (λk b=>by
  rcases b with I|⟨K,L⟩
  subst I;exact⟨lw _,by omega⟩;simp at K;exact⟨by omega,L⟩)
 have aE:fe (ju w a):=Z;clear l p Z;have⟨na,nc,da,dc,l⟩:=aa.o;have ab:=l.c0;have aF:a.c w.heap.size 34=fh (fy fj 0 0):=l.cR (j:=32) fX;have aG:fe (gm (Zm w a) a w.heap.size na da nc dc E data vk):=l;rw[<-n.o]at ab;have aH:fe (a.ownsRow 0 200 3 (fy na c nc) c<|flat E):=by rw[n.o];exact l.lU
 clear l;have aI:w.heap.size<a.heap.size:=by omega
 go_upto_region 3 with fail
 go_cut []from 12 to 36 λf=>fe (∃h i,gl (Zm w a) f w.heap.size E data (vk.set 32<|fy h c i)/\f.ownsRow 0 200 3 (fy h c i) c (flat E)/\(∀g,(Value.slice h c i).ownBlock=fh g->a.heap.size<=g)/\a.heap.size<=f.heap.size/\ju w f)
 case first=>
  go_region_law(refine vh fX (.tmp 16) (.tmp 20) 174 fX 200 aq _ 3 32 underlying174 ar au av aw fX (by decide) (by simp[Act.eval]) na c nc (flat E) (by simp[Act.eval]) (show(a.drewN 1).ownsRow _ _ _ _ _ _ from aH) (mH _) (by unfold maxLen;omega) (by omega) ?_;intro aY ac ad M aJ;obtain⟨ae,af,rfl⟩:=Kp ad;have y:=aG.o.keep (F':=λ_=>True) (J:=ac) (λ_ _=>trivial) (λk b=>M.block k b.2<|by simp);have aZ:ac.c w.heap.size 34=fh (fy fj 0 0):=y.cR (j:=32) fX;have f3:=y.fR 34;have bb:=y.lt;clear y)
  all_goals
   go_wp2_with fail;go_meet;have⟨s,N,z⟩:=GF (j:=32) (v:=fy ae c af) aa.o (λk b=>b.2) (lw _) aE M;exact⟨ae,af,s,z ad<|by decide,(λg d=>by rcases aJ with e|e<;>rw[d]at e;cases e;have:=rK e;simp at this;omega),by have:=M.size;simpa using this,N⟩
 case rest=>
  rename fq=>m;have⟨h,i,P,ag,ah,ai,aj⟩:=hcut.o;have⟨rest,Q⟩:=oX<|vk.set 32 (fy h c i);rw[<-Q]at P;have t:fe (rest[33]?=fh (Value.slice fj 0 0)/\rest[32]?=fh (fy h c i)/\rest.take 32=vk.take 32):=by rw[Q];exact⟨fX,fX,fX⟩
  have aK:fe (gl (Zm w a) m w.heap.size E data rest):=P;have aL:fe (ju w m):=aj;have o:fe (m.ownsRow 0 200 3 (fy h c i) c (flat E)/\(∀g,(Value.slice h c i).ownBlock=fh g->a.heap.size<=g)/\a.heap.size<=m.heap.size):=⟨ag,ah,ai⟩;clear Q ag ah ai;have⟨aM,aN,R,S,u⟩:=P;have s:=u.c1;have bc:m.c w.heap.size 35=fh (fy fj 0 0):=u.cR (j:=33) t.o.1;have aO:fe (gm (Zm w a) m w.heap.size aM R aN S E data rest):=u;rw[<-oh.o]at s;have aP:fe (m.ownsRow 0 9 1 (fy R nd S) nd<|gN data):=by rw[oh.o];exact u.jm
  clear u aj hcut ab aF;go_upto_region 4 with fail
  go_cut []from 12 to 36 λf=>fe (∃F rest,rest.take 32=vk.take 32/\(∀k,F k->w.heap.size<=k/\k<f.heap.size)/\gl F f w.heap.size E data rest/\nv (λk=>w.heap.size<=k/\¬F k) f rest (E,data)/\ju w f)
  case first=>
   go_region_law(refine vh fX (.tmp 28) (.tmp 32) 131 fX 9 ax _ 1 16 underlying131 ay az aA aB fX (by decide) (by simp[Act.eval]) R nd S (gN data) (by simp[Act.eval]) (show(m.drewN 1).ownsRow _ _ _ _ _ _ from aP.o) (hls _) (by unfold maxLen;omega) (by omega) ?_;intro bd ak al A aQ;obtain⟨am,an,rfl⟩:=Kp al;have B:=aO.keep (F':=λ_=>True) (J:=ak) (λ_ _=>trivial) (λk b=>A.block k (nz b.2 o.o.2.2)<|by simp);have be:ak.c w.heap.size 35=fh (fy fj 0 0):=B.cR (j:=33) t.o.1;have f6:=B.fR 35;have bf:=B.lt;clear B)
   all_goals
    go_wp2_with fail;go_meet;have⟨s,N,z⟩:=GF (j:=33) (v:=fy am nd an) aK (λk b=>nz b.2 o.o.2.2) (lw _) aL.o A;refine⟨Zm w a,_,?_,λk b=>⟨b.1,nz b.2 (by have:=o.2.2;have:=A.size;simp at this |-;omega)⟩,s,⟨h,am,i,an,⟨?_,?_,?_,?_⟩,λg d=>?_⟩,N⟩;rw[List.take_set_of_le<|by decide];exact t.o.2.2;rw[EG<|by decide,t.o.2.1,n.o];rw[Rl (wI.1 t.o.1).1,oh.o];simp only;rw[<-n.o];exact z (gg o.o.1 (λg d=>A.block g (gc o.o.1 d)<|by simp)) (by decide);simp only;rw[<-oh.o];exact z al<|by decide
    have:a.heap.size<=g:=by
     rcases d with d|d
     rw[<-n.o]at d;exact o.o.2.1 g d;rw[<-oh.o]at d
     have:=o.2.2
     rcases aQ with e|e<;>rw[d]at e
     cases e;have e:=rK e;simp at e;omega
    exact⟨ww (Ef aI) this,λaR=>by have:=aR.2;omega⟩
  case rest=>
   change fe _ at hcut
   go_wp2;go_ret;have⟨F,aS,aT,K,L,aU,aV⟩:=hcut.o;exact⟨F,aS,aT,fX,K,L,aU,aV⟩
abbrev Doc:=Nat×List fV×fQ×gX
def uj (A:List Ob)(b:Int)(x:List fV×fQ):Prop:=fM A 5 (.dir b)/\Reads A qX (.dir b) x.1 x.2/\gf x.1 x.2/\fv x.1<=1200000/\fv x.2<=1200000
structure vo where
 pt:kE
 wa:iD
 wc:Nat
 ta:iD
 tc:Nat
 a:Nat->iD
 c:Nat->Nat
 q:Nat->Nat
 hs:Nat->List lR
 F:Nat->Nat->Prop
 bs:Nat->List fV×fQ
abbrev vo.sl (R:vo)(d:Nat):Value:=.slice (R.a d) (4*R.q d)<|R.c d
structure gq (b f:Bool)(R:vo)(tg:gC)(w:World)(B0 W s r p lim:Nat)(gI RO:List Ob)(got:List Int)(ws:List Slot)(ds:List Doc):Prop where
 fresh:lD tg w
 old:∀k,k<B0->tg k=(0,0)
 size:B0<=w.heap.size
 brk:R.pt.b=b
 Mn:CA tg w R.pt got
 IG:got.length<=lim
 w3:W3 ⟨R.pt,p,[]⟩ (fun k=>tg k=(0,1)) (fun k=>tg k=(0,2)) (fun k=>tg k=(1,0)) w W s r gI RO (.slice R.wa ws.length R.wc) (.slice R.ta ds.length R.tc) (.bool f) (R.sl 8) (R.sl 9) (R.sl 10) (R.sl 11)
 yV:w.ownsRow 0 32 1 (.slice R.wa ws.length R.wc) ws.length (ws.map fun x=>ptr x.2.1.wb)/\∀g,(Value.slice R.wa ws.length R.wc).ownBlock=some g->tg g=(0,3)
 jm:w.ownsRow 0 115 1 (.slice R.ta ds.length R.tc) ds.length (ds.map fun x=>ptr x.1)/\∀g,(Value.slice R.ta ds.length R.tc).ownBlock=some g->tg g=(0,4)
 held:∀d,zb (R.F d) (kH d).1 (kH d).2.1 (kH d).2.2 (vH d) w (R.a d) (R.c d) (R.q d) (R.hs d)
 holds:∀d k,R.F d k->tg k=(0,0)/\B0<=k
 apart:∀d d' k,d≠d'->R.F d k->¬R.F d' k
 II:∀x∈ws,En tg w p gI lim x
 slot:∀j (h:j<ws.length),ws[j].1=j+2
 Zn:∀j (h:j<ds.length),gl (fun k=>tg k=(0,8+j)) w ds[j].1 ds[j].2.1 ds[j].2.2.1 ds[j].2.2.2
 cnt:∀x,got.count x=(ws.map fun y=>y.2.2.1.fs.kn x).sum
 BL:∀j (h:j<ws.length),uj gI ws[j].2.2.1.base (R.bs j)
 aaC:∀j (h:j<ds.length),nv (fun k=>tg k=(0,5)) w ds[j].2.2.2 (R.bs j)
def lD.lt(b:lD T w)(c:T k≠(0,0)):k<w.heap.size:=by
 rcases WH k w.heap.size with a|a
 exact a;exact absurd (b k a) c
def qy(b:lD T w):Sep w (λk=>T k=(0,1)) (λk=>T k=(0,2)) (λk=>T k=(1,0)):=
 ⟨λk a=>b.lt (by rw[a];decide),λk a=>⟨b.lt (by rw[a];decide),λe=>by rw[a]at e;cases e⟩,λk a=>⟨b.lt (by rw[a];decide),λe=>by rw[a]at e;cases e⟩,λk a e=>by rw[a]at e;cases e⟩
def tL(j:Nat)(a:c<8):((0,8+j):Nat×Nat)≠(0,c):=λe=>by have:=congrArg Prod.snd e;simp only at this;omega
section
variable {R:vo}{ds:List Doc}
theorem gq.tag(d:gq b f R T w B0 W s r p I A O got ws ds)(m:fI P T M w J){t:Nat×Nat}(a:T k=t)(e:t≠(0,0))(g:¬P t):M k=t/\J.heap[k]?=w.heap[k]?:=by
 have c:=d.fresh.lt (by rw[a];exact e);exact⟨(m.tags k c).trans a,m.block k c (by grind)⟩
theorem gq.Zo(a:gq b f R T w B0 W s r p I A O got ws ds)(m:fI P T M w J):∀k,k<B0->M k=(0,0):=λk c=>(m.tags k (nz c a.size)).trans<|a.old k c
theorem gq.aaZ(a:gq b f R T w B0 W s r p I A O got ws ds)(m:fI P T M w J)(d:¬P (0,1)):mG (λk=>M k=(0,1)) J W s r (fv A) (fy R.wa (fv ws) R.wc) (fy R.ta (fv ds) R.tc) (fE f) (R.sl 8) (R.sl 9) (R.sl 10) (R.sl 11):=a.w3.law.keep (λk c=>(a.tag m c (by decide) d).1) λk c=>(a.tag m c (by decide) d).2
theorem gq.Zp(a:gq b f R T w B0 W s r p I A O got ws ds)(m:fI P T M w J)(d:¬P (0,2)):gi (λk=>M k=(0,2)) J r O:=a.w3.ref.keep (λk c=>(a.tag m c (by decide) d).1) λk c=>(a.tag m c (by decide) d).2
theorem gq.aai(a:gq b f R T w B0 W s r p I A O got ws ds)(m:fI P T M w J)(d:¬P (1,0)):iP ⟨R.pt,p,[]⟩ (λk=>M k=(1,0)) J s A:=a.w3.yl.keep (λk c=>(a.tag m c (by decide) d).1) λk c=>(a.tag m c (by decide) d).2
theorem gq.Kq(a:gq b f R T w B0 W s r p I A O got ws ds)(m:fI P T M w J)(d:¬P (0,3)):J.ownsRow 0 32 1 (fy R.wa (fv ws) R.wc) (fv ws) (ws.map λx=>ptr x.2.1.wb)/\∀g,(Value.slice R.wa (fv ws) R.wc).ownBlock=fh g->M g=(0,3):=
 ⟨gg a.yV.1 λg c=>(a.tag m (a.yV.2 g c) (by decide) d).2,λg c=>(a.tag m (a.yV.2 g c) (by decide) d).1⟩
theorem gq.Kr(a:gq b f R T w B0 W s r p I A O got ws ds)(m:fI P T M w J)(d:¬P (0,4)):J.ownsRow 0 115 1 (fy R.ta (fv ds) R.tc) (fv ds) (ds.map λx=>ptr x.1)/\∀g,(Value.slice R.ta (fv ds) R.tc).ownBlock=fh g->M g=(0,4):=
 ⟨gg a.jm.1 λg c=>(a.tag m (a.jm.2 g c) (by decide) d).2,λg c=>(a.tag m (a.jm.2 g c) (by decide) d).1⟩
theorem gq.Qe(a:gq b f R T w B0 W s r p I A O got ws ds)(m:fI P T M w J)(e:¬P (0,0))(d):zb (R.F d) (kH d).1 (kH d).2.1 (kH d).2.2 (vH d) J (R.a d) (R.c d) (R.q d) (R.hs d):=(a.held d).keep (λk c=>m.block k ((a.held d).lt k c) (by rw[(a.holds d k c).1];exact e)) m.size
def gq.CQ(a:gq b f R T w B0 W s r p I A O got ws ds)(m:fI P T M w J)(d k)(c:R.F d k):M k=(0,0)/\B0<=k:=⟨(m.tags k<|(a.held d).lt k c).trans (a.holds d k c).1,(a.holds d k c).2⟩
def gq.wsT(a:gq b f R T w B0 W s r p I A O got ws ds)(m:fI P T M w J)(e:∀i c,2<=i->¬P (i,c)):∀x∈ws,En M J p A I x:=λx d=>(a.II x d).moves m λc=>e _ c (a.II x d).two
theorem gq.TX(a:gq b f R T w B0 W s r p I A O got ws ds)(m:fI P T M w J)(e:j<fv ds)(d:¬P (0,8+j)):gl (λk=>M k=(0,8+j)) J ds[j].1 ds[j].2.1 ds[j].2.2.1 ds[j].2.2.2:=by
 obtain⟨na,nc,da,dc,g⟩:=a.Zn j e;exact⟨na,nc,da,dc,g.keep (λk c=>(a.tag m c (tL j<|by decide) d).1) λk c=>(a.tag m c (tL j<|by decide) d).2⟩
theorem gq.GG(a:gq b f R T w B0 W s r p I A O got ws ds)(m:fI P T M w J)(c:¬P (0,5))(d:j<fv ds)(e:rest.drop 32=ds[j].2.2.2.drop 32):nv (λk=>M k=(0,5)) J rest (R.bs j):=(a.aaC j d).keep e λk g=>a.tag m g (by decide) c
theorem gq.after(a:gq b f R T w B0 W s r p I A O got ws ds)(m:fI P T M w J)(g:∀c,¬P (0,c)){b':Bool}{i}{n:Nat}{d:List Slot}{pt:kE}
  (v:pt.b=b')(z:gP pt (λk=>M k=(1,0)) J s p A)(B:CA M J pt i)(C:fv i<=n)(o:(d.map λx=>(x.2.1.wb,x.2.2.1.base))=ws.map λx=>(x.2.1.wb,x.2.2.1.base))(D:∀x∈d,En M J p A n x)(E:∀j(a:j<fv d),d[j].1=j+2)
  (F:∀x,i.count x=(d.map λy=>y.2.2.1.fs.kn x).sum):gq b' f { R with pt:=pt } M J B0 W s r p n A O i d ds:=by
 have t:fv d=fv ws:=by have:=congrArg List.length o;simpa using this
 have u:=a.aaZ m<|g 1;have q:=a.Kq m<|g 3;have G:(d.map λx=>ptr x.2.1.wb)=ws.map λx=>ptr x.2.1.wb:=by
  have:=congrArg (List.map λx:Nat×Int=>ptr x.1) o
  grind [Ed,Function.comp_def]
 rw[<-t]at u q;rw[<-G]at q;refine⟨m.fresh a.fresh,a.Zo m,ww a.size m.size,v,B,C,⟨u,a.Zp m<|g 2,⟨z,a.w3.yl.2⟩,a.w3.twin,a.w3.at_,qy<|m.fresh a.fresh⟩,q,a.Kr m<|g 4,a.Qe m<|g 0,a.CQ m,a.apart,D,E,λj h=>a.TX m h<|g _,F,λj h=>?_,λj h=>a.GG m (g 5) h fX⟩;have H:j<fv ws:=by rw[<-t];exact h
 have e:d[j].2.2.1.base=ws[j].2.2.1.base:=by
  have:=congrArg (λl:List (Nat×Int)=>(l[j]?).map (·.2)) o
  grind
 rw[e];exact a.BL j H
def gq.aaj(a:gq b f R T w B0 W s r p I A O got ws ds):jq T w s p A got b I:=⟨a.fresh,R.pt,a.brk,a.w3.yl.1,a.Mn,a.w3.yl.2.2.1.sound,a.IG⟩
theorem gq.below(a:gq b f R T w B0 W s r p I A O got ws ds)(c:ju w J):gq b f R T J B0 W s r p I A O got ws ds:=by
 have m:fI (λ_=>False) T T w J:=fI.fK c;exact a.after m (λ_ a=>a) a.brk (a.w3.yl.1.below c λ_ _ a=>a) (a.Mn.moves m λa=>a) a.IG fX (a.wsT m λ_ _ _ a=>a) a.slot a.cnt
theorem VN{a:Type}(f:a->Nat):∀(l:List a)(j:Nat)(b:j<fv l)(y:a),(l.map f).sum+f y=((l.set j y).map f).sum+f l[j]
 |x::l,0,_,y=>by simp only[List.set_cons_zero,lM,ctz,Hx];omega
 |x::l,j+1,b,y=>by
  have:=VN f l j (by simpa using b) y
  grind
theorem BM{a b:Type}(g:a->b){l:List a}{y:a}(c:∀d:j<fv l,g y=g l[j]):(l.set j y).map g=l.map g:=by
 apply cos<|by simp
 grind
theorem gq.work(h:gq b f R T w B0 W s r p I A O got ws ds)(v:j<fv ws)(u:ws[j]=(j+2,B,g,t)):
  mQ T w s (j+2) p B A { g with fs:={ g.fs with got:=got,brk:=b } } I t/\gL A t/\
  ∀{M:gC}{J:fq}{d:WG}{n:LT}{q:Nat},I<=q->fI (Mine<|j+2) T M w J->mQ M J s (j+2) p B A d q n->d.base=g.base->(∃l,d.fs.got=got++l/\∀x,l.count x+g.fs.kn x=d.fs.kn x)->gL A n->
   ∃pt,gq d.fs.brk f { R with pt:=pt } M J B0 W s r p q A O d.fs.got (ws.set j (j+2,B,d,n)) ds:=by
 have a:=h.II _ (show(j+2,B,g,t)∈ws by rw[<-u];exact kK v);refine⟨⟨⟨a.two,h.aaj,⟨a.wp.tree,a.wp.nP,a.wp.nQ,a.wp.uf,a.wp.qo,a.wp.files,a.wp.held,a.wp.opens,a.wp.ok⟩⟩,a.flat,a.ok,a.fl⟩,a.inj,λ{M J d n q}E m o F G U=>?_⟩;obtain⟨_,pt,H,K,L,Q,N⟩:=o.inv.st;obtain⟨l,S,V⟩:=G;refine⟨_,h.after m (λc e=>?_) H K L N (BM _ λ_=>by rw[u];simp only;rw[F]) (λx P=>?_) (λk z=>?_) λx=>?_⟩;rcases e with e|e<;>simp only at e<;>omega
 obtain⟨k,z,rfl⟩:=rI P;rw[Wz];split;exact⟨a.two,o.inv.wp,o.flat,o.ok,o.fl,U⟩
 rename_i X
 have C:k<fv ws:=by simpa using z
 have Y:=h.slot k C;have i:=(h.II _<|kK C).moves m (λc e=>by
  rcases e with e|e<;>simp only at e<;>omega)
 exact⟨i.two,i.wp.mono E,i.flat,i.ok,i.fl,i.inj⟩
 ·rw[Wz]
  split
  ·all_goals omega
  exact h.slot k (by grind)
 have D:=VN (λy:Slot=>y.2.2.1.fs.kn x) ws j v (j+2,B,d,n);rw[u]at D;simp only at D;have Z:=h.cnt x
 all_goals grind
theorem BN(T:gC)(b:w.heap.size<=J.heap.size)(F:Nat->Prop)(t:Nat×Nat):∃M:gC,(∀k,k<w.heap.size->M k=T k)/\lD M J/\∀k,w.heap.size<=k->k<J.heap.size->(F k->M k=t)/\(¬F k->M k=(0,5)):=by
 classical
 refine⟨λk=>if k<w.heap.size then T k else if k<J.heap.size then(if F k then t else(0,5)) else(0,0),λk a=>lv a,λk a=>?_,λk c d=>⟨λhF=>?_,λhF=>?_⟩⟩
 all_goals grind
theorem gq.aa0{d:Doc}(a:gq b f R T w B0 W s r p I A O got ws ds)(B:j<fv ds)(C:ds[j]=d):
  gl (λk=>T k=(0,8+j)) w d.1 d.2.1 d.2.2.1 d.2.2.2/\∀{J:fq}{E:List fV}{data:fQ}{rest:gX},gl (kB (λk=>T k=(0,8+j)) w J) J d.1 E data rest->rest.drop 32=d.2.2.2.drop 32->fH (λk=>T k=(0,8+j)) w J->
   ∃M,gq b f R M J B0 W s r p I A O got ws (ds.set j (d.1,E,data,rest)):=by
 subst C;refine⟨a.Zn j B,λ{J E data rest}o G h=>?_⟩;obtain⟨M,t1,q,t2⟩:=BN T h.size (λ_=>True) (0,8+j);have m:fI (λt=>t=(0,8+j)) T M w J:=⟨h.os,h.tape,h.output,h.size,t1,λk n g=>h.block k n g,λ_=>q⟩;have g:∀c,c<8->¬((0,c):Nat×Nat)=(0,8+j):=λc D e=>tL j D e.symm
 have z:=a.aaZ m<|g 1 (by decide);have u:=a.Kr m<|g 4 (by decide);have F:fv (ds.set j (ds[j].1,E,data,rest))=fv ds:=by simp
 rw[<-F]at z u;rw[<-BM (λx:Doc=>ptr x.1) (l:=ds) (j:=j) (y:=(ds[j].1,E,data,rest)) λ_=>rfl]at u;refine⟨M,⟨q,a.Zo m,ww a.size h.size,a.brk,a.Mn.moves m (λe=>by cases e),a.IG,⟨z,a.Zp m<|g 2 (by decide),a.aai m (λe=>by cases e),a.w3.twin,a.w3.at_,qy q⟩,a.Kq m<|g 3 (by decide),u,a.Qe m<|g 0 (by decide),a.CQ m,a.apart,a.wsT m (λi c U e=>by have:=congrArg Prod.fst e;simp only at this;omega),a.slot,λi U=>?_,a.cnt,a.BL,λi U=>?_⟩⟩
 ·have v:i<fv ds:=by simpa using U
  simp only[Wz];split
  ·rename_i e
   subst e;obtain⟨na,nc,da,dc,o⟩:=o;refine⟨na,nc,da,dc,o.keep (λk n=>?_) λ_ _=>rfl⟩;rcases n with n|⟨n,H⟩
   ·exact(t1 k<|a.fresh.lt (by grind)).trans n
   grind
  ·exact a.TX m v (λe=>by have:=congrArg Prod.snd e;simp only at this;omega)
 ·have v:i<fv ds:=by simpa using U
  refine a.GG m (g 5<|by decide) v ?_
  grind
end
theorem mG.reset{W s r n}{c5 c c7 d f R h d5 d6 d7 d8 d9 d10 d11:fu}(q:mG F w W s r n c5 c c7 d f R h)(hF:∀k,F k->F' k)
  (u:∀i j l m o,w.heap[W]?=fh (.cells #[i,j,l,m,o,c5,c,c7,d,f,R,h] 71 (0,0))->J.heap[W]?=fh (.cells #[i,j,l,m,o,d5,d6,d7,d8,d9,d10,d11] 71 (0,0)))(x:∀k,F k->k≠W->J.heap[k]?=w.heap[k]?):mG F' J W s r n d5 d6 d7 d8 d9 d10 d11:=by
 obtain⟨y,z,A,B,C,D,E,a,G⟩:=q;have row:∀{t:ni}{v:fu}{n:Nat}{xs:gX},w.ownsRow 0 t 1 v n xs->71≠t->(∀g,v.ownBlock=fh g->F g)->J.ownsRow 0 t 1 v n xs:=λp H I=>gg p λg b=>x g (I g b) λe=>il p a.hW H (by grind);exact⟨y,z,A,B,C,D,E,⟨hF _ a.fw,u _ _ _ _ _ a.hW,row a.rV (by decide) a.fi,row a.ur (by decide) a.fk,row a.uu (by decide) a.fp,λg b=>hF g<|a.fi g b,λg b=>hF g<|a.fk g b,λg b=>hF g<|a.fp g b⟩,G⟩
section
variable {R:vo}{ds:List Doc}
theorem gq.fW(a:gq b f R T w B0 W s r p I A O got ws ds):T W=(0,1):=by
 obtain⟨_,_,_,_,_,_,_,c,_⟩:=a.w3.law;exact c.fw
def gq.block(a:gq b f R T w B0 W s r p I A O got ws ds):∃c d e g h,w.heap[W]?=fh (.cells #[c,d,e,g,h,fy R.wa (fv ws) R.wc,fy R.ta (fv ds) R.tc,fE f,R.sl 8,R.sl 9,R.sl 10,R.sl 11] 71 (0,0)):=a.w3.block
def gq.low{X}(c:gq b f R T w B0 W s r p I A O got ws ds)(a:fH X w J)(g:∀k,X k->T k≠(0,0)\/B0<=k):Below B0 w J:=
 ⟨a.os,a.tape,a.output,a.size,λk d=>a.block k (nz d c.size) (λh=>by
  rcases g k h with e|e
  exact e<|c.old k d
  omega)⟩
theorem gq.aak{d:Nat}(V:d=8\/d=10\/d=11){B C D E G:fu}(h:gq b f R T w B0 W s r p I A O got ws ds)(X:m+3<=1000000000)(Y:w.ownsRow 0 (kH d).1 (kH d).2.2 (fy la m c) m xs)(LA:∀g,(Value.slice la m c).ownBlock=fh g->T g=(0,0)/\B0<=g/\∀i,¬R.F i g)
  (Z:w.heap[W]?=fh (.cells #[B,C,D,E,G,fy R.wa (fv ws) R.wc,fy R.ta (fv ds) R.tc,fE f,R.sl 8,R.sl 9,R.sl 10,R.sl 11] 71 (0,0)))
  (l:sj (kH d).1 (kH d).2.1 (kH d).2.2 (vH d<|R.q d) d w J W (R.q d) #[B,C,D,E,G,fy R.wa (fv ws) R.wc,fy R.ta (fv ds) R.tc,fE f,R.sl 8,R.sl 9,R.sl 10,R.sl 11] (R.a d) (R.c d) la m c (R.hs d)):
  ∃H,H.q=pD R.q d (R.q d+1)/\gq b f H T J B0 W s r p I A O got ws ds/\Below B0 w J:=by
 have K:∀i k,R.F i k->k≠W:=λi k l e=>by have:=(h.holds i k l).1;rw[e,h.fW]at this;cases this
 obtain⟨aa,c4,ab,ac,am,o⟩:=(h.held d).next (Lsp d) l (λn=>K d W n fX) (λg L=>⟨(LA g L).2.2 d,gc Y L⟩) X;have FN:∀k,R.F d k\/fh k=(Value.slice la m c).ownBlock->T k=(0,0):=λk l=>by
  rcases l with e|e
  exact(h.holds d k e).1;exact(LA k e.symm).1
 have u:fI (λt=>t=(0,0)\/t=(0,1)) T T w J:=⟨o.os,o.tape,o.output,o.size,λ_ _=>rfl,λk M N=>o.block k M (by
  rintro(e|e);exact N<|.inr (by rw[e];exact h.fW);exact N<|.inl (FN k e)),λn k l=>n k<|ww o.size l⟩
 have ad:∀k,T k≠(0,0)->k≠W->J.heap[k]?=w.heap[k]?:=λk P ae=>o.block k (h.fresh.lt P) (by
  rintro(e|e);exact ae e;exact P<|FN k e)
 have af:∀i k,i≠d->R.F i k->J.heap[k]?=w.heap[k]?:=λi k U n=>o.block k ((h.held i).lt k n) (by
  rintro(e|e|e);exact K i k n e;exact h.apart i d k U n e;exact(LA k e.symm).2.2 i n)
 have Q:=u.fresh h.fresh;have an:∀{k i},(R.F d k\/fh k=(Value.slice la m c).ownBlock\/(w.heap.size<=k/\k<J.heap.size))->i≠d->¬R.F i k:=λ{k i}l U n=>by
  rcases l with e|e|e
  exact h.apart i d k U n e;exact(LA k e.symm).2.2 i n
  have:=(h.held i).lt k n
  omega
 refine⟨{ R with a:=pD R.a d<|fh (ie aa 0),c:=pD R.c d c4,q:=pD R.q d<|R.q d+1,hs:=pD R.hs d ab,F:=pD R.F d (λk=>R.F d k\/fh k=(Value.slice la m c).ownBlock\/(w.heap.size<=k/\k<J.heap.size)) },fX,⟨Q,h.old,ww h.size o.size,h.brk,h.Mn.moves u (by grind),h.IG,⟨?_,h.Zp u (by grind),h.aai u (by grind),h.w3.twin,h.w3.at_,qy Q⟩,h.Kq u (by grind),h.Kr u (by grind),λi=>?_,λi k l=>?_,λi j k x l v=>?_,h.wsT u (λi c U e=>by rcases e with e|e<;>(have:=congrArg Prod.fst e;simp only at this;omega)),h.slot,λj y=>h.TX u y (by grind),h.cnt,h.BL,λj y=>h.GG u (by grind) y fX⟩,h.low o (by
   rintro k (e|e|e);exact .inl (by rw[e,h.fW];decide);exact .inr (h.holds d k e).2;exact .inr (LA k e.symm).2.1)⟩
 refine h.w3.law.reset (λ_ h=>h) (λao ap aq ar au z=>?_) λk M ag=>ad k (by grind) ag;rw[Z]at z;simp only[pW,Obj.cells.injEq,Array.mk.injEq,Ce,Eg]at z;obtain⟨ah,ai,aj,ak,al⟩:=z;rw[ac,ah,ai,aj,ak,al];rcases V with rfl|rfl|rfl<;>rfl
 by_cases e:i=d
 grind [ld]
 simp only[kx e];exact(h.held i).keep (λk l=>af i k e l) o.size;by_cases e:i=d;subst e;simp only[ld]at l;rcases l with e|e|e
 exact h.holds i k e
 grind
 exact⟨h.fresh k e.1,ww h.size e.1⟩;simp only[kx e]at l;exact h.holds i k l;by_cases e:i=d;subst e;simp only[ld,kx<|Ne.symm x]at l v
 grind
 by_cases S:j=d;subst S;simp only[ld,kx x]at l v
 grind
 simp only[kx e,kx S]at l v;exact h.apart i j k x l v
theorem gq.aa1(a:gq b f R T w B0 W s r p I A O got ws ds)(l:4*R.q 8<=1000000000)(n:m+3<=1000000000)(h:w.ownsRow 0 9 1 (fy la m c) m xs)(LA:∀g,(Value.slice la m c).ownBlock=fh g->T g=(0,0)/\B0<=g/\∀i,¬R.F i g):
  ik 93 #[fB<|fh (ie W 8),fy la m c] w λe J=>e=qr #[]/\∃j,j.q=pD R.q 8 (R.q 8+1)/\gq b f j T J B0 W s r p I A O got ws ds/\Below B0 w J:=by
 obtain⟨t,u,v,x,y,k⟩:=a.block;exact((FK W (R.q 8) _ (R.a 8) (R.c 8) m c la (R.hs 8) xs w k l<|by omega).2 fX (a.held 8).row h).mono λe J⟨o,q⟩=>⟨o,a.aak (d:=8) (.inl fX) n h LA k q⟩
theorem gq.aa2(a:gq b f R T w B0 W s r p I A O got ws ds)(l:4*R.q 11<=1000000000)(n:m+3<=1000000000)(h:w.ownsRow 0 29 1 (fy la m c) m xs)(LA:∀g,(Value.slice la m c).ownBlock=fh g->T g=(0,0)/\B0<=g/\∀i,¬R.F i g):
  ik 88 #[fB<|fh (ie W 8),fy la m c] w λe J=>e=qr #[]/\∃j,j.q=pD R.q 11 (R.q 11+1)/\gq b f j T J B0 W s r p I A O got ws ds/\Below B0 w J:=by
 obtain⟨t,u,v,x,y,k⟩:=a.block;exact((FK W (R.q 11) _ (R.a 11) (R.c 11) m c la (R.hs 11) xs w k l<|by omega).1 fX (a.held 11).row h).mono λe J⟨o,q⟩=>⟨o,a.aak (d:=11) (.inr<|.inr fX) n h LA k q⟩
theorem gq.aa3(a:gq b f R T w B0 W s r p I A O got ws ds)(l:4*R.q 10<=1000000000)(n:m+3<=1000000000)(h:w.ownsRow 0 133 2 (fy la m c) m xs)(LA:∀g,(Value.slice la m c).ownBlock=fh g->T g=(0,0)/\B0<=g/\∀i,¬R.F i g):
  ik 56 #[fB<|fh (ie W 8),fy la m c] w λe J=>e=qr #[]/\∃j,j.q=pD R.q 10 (R.q 10+1)/\gq b f j T J B0 W s r p I A O got ws ds/\Below B0 w J:=by
 obtain⟨t,u,v,x,y,k⟩:=a.block;exact((zQ W (R.q 10) _ (R.a 10) (R.c 10) m c la (R.hs 10) xs w k l<|by omega).1 fX (a.held 10).row h).mono λe J⟨o,q⟩=>⟨o,a.aak (d:=10) (.inr<|.inl fX) n h LA k q⟩
theorem gq.still(c:gq b f R T w B0 W s r p I A O got ws ds)(h:∀d,4*R.q d<=1000000000):
  ik 24 #[fB<|fh (ie W 8)] w (vd (fE fm) w):=by
 obtain⟨j,k,l,m,n,a⟩:=c.block;have g:=λd=>(c.held d).len;have e:∀d,(R.sl d)=fy (R.a d) (fv<|R.hs d) (R.c d):=λd=>by rw[g d]
 rw[e 8,e 9,e 10,e 11]at a;refine SC W R.a R.c R.hs w (lH.1 a).1 (by simp[World.cell?,a]) (by simp[World.cell?,a]) (by simp[World.cell?,a]) (by simp[World.cell?,a]) (λd=>by have:=(c.held d).row;rw[<-g d]at this;exact this) (λd=>by rw[g d];exact h d) λd i U=>⟨((c.held d).lists i U).1,((c.held d).lists i U).2.1⟩
def gq.BO(a:gq b f R T w B0 W s r p I A O got ws ds):W3 ⟨R.pt,p,A⟩ (λk=>T k=(0,1)) (λk=>T k=(0,2)) (λk=>T k=(1,0)) w W s r A O (fy R.wa (fv ws) R.wc) (fy R.ta (fv ds) R.tc) (fE f) (R.sl 8) (R.sl 9) (R.sl 10) (R.sl 11):=⟨a.w3.law,a.w3.ref,⟨a.w3.yl.1,sQ _,a.w3.yl.2.2⟩,a.w3.twin,a.w3.at_,a.w3.sep⟩
theorem uj.app{b:Int}(a:uj A b x)(d:Sound A)(l:List Ob):uj (A++l) b x:=⟨jl l 5 _ a.1,(λc e=>by rw[ng d l _ c 5 _ a.1];exact a.2.1 c e),a.2.2⟩
theorem gq.Ks{y z B u:Nat->Prop}{H Z}{L}{N E:Nat}{X}(g:gq b f R T w B0 W s r p I A O got ws ds)
  (h:W3 ⟨R.pt,p,A⟩ y z B J W s r H Z (fy R.wa (fv ws) R.wc) (fy R.ta (fv ds) R.tc) (fE f) (R.sl 8) (fy L (4*E) N) (R.sl 10) (R.sl 11))(ae:Held u J L N E X)(af:∀k,u k->¬F3 y z B k)
  (P:zN (λk=>T k=(0,1)) (λk=>T k=(0,2)) (λk=>T k=(1,0)) y z B w.heap.size)(Y:∀k,u k->R.F 9 k\/w.heap.size<=k)(m:fH (λk=>F3 (λk=>T k=(0,1)) (λk=>T k=(0,2)) (λk=>T k=(1,0)) k\/R.F 9 k) w J):
  ∃aa M l,H=A++l/\aa.q=pD R.q 9 E/\gq b f aa M J B0 W s r p I H Z got ws ds/\Below B0 w J:=by
 classical
 obtain⟨l,rfl⟩:∃l,H=A++l:=by
  obtain⟨l,ao⟩:=h.yl.2.1
  grind
 obtain⟨M,v⟩:=oX (λk=>if k<w.heap.size then T k else if y k then(0,1)else if z k then(0,2)else if B k then(1,0) else(0,0):gC);have t1:∀k,k<w.heap.size->M k=T k:=λk d=>by rw[v];exact lv d
 have G:=m.size;have Q:lD M J:=λk C=>by
  rw[v];simp only;rw[km<|by omega,km (λe=>by have:=h.sep.ll k e;omega),km (λe=>by have:=(h.sep.rl k e).1;omega),km (λe=>by have:=(h.sep.sl k e).1;omega)]
 have ag:∀k,y k->M k=(0,1):=λk d=>by
  rcases(P k).1 d with e|e
  exact(t1 k<|g.w3.sep.ll k e).trans e;rw[v];simp only;rw[km<|by omega,lv d]
 have ah:∀k,z k->M k=(0,2):=λk d=>by
  rcases(P k).2.1 d with e|e
  exact(t1 k (g.w3.sep.rl k e).1).trans e;rw[v];simp only;rw[km<|by omega,km (h.sep.rl k d).2,lv d]
 have ai:∀k,B k->M k=(1,0):=λk d=>by
  rcases(P k).2.2 d with e|e
  exact(t1 k (g.w3.sep.sl k e).1).trans e;rw[v];simp only;rw[km<|by omega,km (h.sep.sl k d).2,km λe=>h.sep.rs k e d,lv d]
 have aj:∀k,u k->M k=(0,0)/\B0<=k:=λk d=>by
  rcases Y k d with e|e
  exact⟨(t1 k<|(g.held 9).lt k e).trans (g.holds 9 k e).1,(g.holds 9 k e).2⟩;have n:=af k d;refine⟨?_,ww g.size e⟩;rw[v];simp only;rw[km<|by omega,km λx=>n<|.inl x,km λx=>n<|.inr (.inl x),km λx=>n<|.inr (.inr x)]
 have keep:∀k,k<w.heap.size->T k≠(0,1)->T k≠(0,2)->T k≠(1,0)->¬R.F 9 k->J.heap[k]?=w.heap[k]?:=λk S K ak al am=>m.block k S (by
  rintro((e|e|e)|e);exact K e;exact ak e;exact al e;exact am e)
 have o:fI (λt=>t=(0,0)\/t=(0,1)\/t=(0,2)\/t=(1,0)) T M w J:=⟨m.os,m.tape,m.output,G,t1,λk d n=>keep k d (λe=>n<|.inr (.inl e)) (λe=>n<|.inr (.inr<|.inl e)) (λe=>n<|.inr (.inr<|.inr e)) λe=>n<|.inl (g.holds 9 k e).1,λ_=>Q⟩;have ab:=g.w3.yl.2.2.1.sound;refine⟨{ R with a:=pD R.a 9 L,c:=pD R.c 9 N,q:=pD R.q 9 E,hs:=pD R.hs 9 X,F:=pD R.F 9 u },M,l,fX,fX,⟨Q,g.Zo o,ww g.size G,g.brk,g.Mn.moves o (by grind),g.IG,⟨h.law.mono ag,h.ref.keep ah λ_ _=>rfl,⟨h.yl.1.keep (λ_ _ _=>rfl) λk _ d=>ai k d,ihn,h.yl.2.2⟩,h.twin,h.at_,qy Q⟩,g.Kq o (by grind),g.Kr o (by grind),λi=>?_,λi k d=>?_,λi j k V d C=>?_,λx ac=>((g.II x ac).app ab l).moves o (λc an=>by have:=(g.II x ac).two;rcases an with e|e|e|e<;>(have:=congrArg Prod.fst e;simp only at this;omega)),g.slot,λj D=>g.TX o D (by grind),g.cnt,λj D=>(g.BL j D).app ab l,λj D=>g.GG o (by grind) D fX⟩,?_⟩;by_cases e:i=9;subst e;simp only[ld];exact ae;simp only[kx e];exact(g.held i).keep (λk d=>keep k ((g.held i).lt k d) (by rw[(g.holds i k d).1];decide) (by rw[(g.holds i k d).1];decide) (by rw[(g.holds i k d).1];decide)<|g.apart i 9 k e d) G;by_cases e:i=9;subst e;simp only[ld]at d;exact aj k d;simp only[kx e]at d;exact g.CQ o i k d;have ap:∀i,i≠9->u k->R.F i k->False:=λi U S K=>by
  rcases Y k S with e|e
  exact g.apart i 9 k U K e
  have:=(g.held i).lt k K
  omega
 by_cases e:i=9;subst e;simp only[ld,kx<|Ne.symm V]at d C
 grind
 by_cases ad:j=9;subst ad;simp only[ld,kx V]at d C
 grind
 simp only[kx e,kx ad]at d C;exact g.apart i j k V d C;refine⟨m.os,m.tape,m.output,G,λk d=>?_⟩;have aq:=g.old k d;exact keep k (nz d g.size) (by grind) (by grind) (by grind) (λe=>by have:=(g.holds 9 k e).2;omega)
theorem gq.step(d:gq b f R T w B0 W s r p I A O got ws ds)(i:4*R.q 9<=1000000000)(a:Step)(j:a.Fits w)(c:1<=a.kind/\a.kind<=5):
  ik 20 #[ii W,a.val] w λe J=>e=fF (fE fm)/\∃g M l Z h,h<=R.q 9+1/\g.q=pD R.q 9 h/\gq b f g M J B0 W s r p I (A++l) Z got ws ds/\Below B0 w J:=by
 have m:∀k,T k=(0,0)->¬F3 (λk=>T k=(0,1)) (λk=>T k=(0,2)) (λk=>T k=(1,0)) k:=λk c e=>by
  rcases e with e|e|e<;>(rw[c]at e;cases e)
 refine(Sv d.BO (d.held 9) (λk c=>m k (d.holds 9 k c).1) i a j c).mono ?_;rintro e J ⟨n,h,o,D,E,F,G,H,Z,K,L,N,q,t,u,v,x,y⟩;obtain⟨g,M,l,rfl,z,B,C⟩:=d.Ks q t u v x y;exact⟨n,g,M,l,Z,h,o,z,B,C⟩
theorem gq.acV(a:gq b f R T w B0 W s r p I A O got ws ds)(L:fv ds=fv ws)(o:En T w p A I (fv ws+2,B,g,t))(N:uj A g.base x)(D:∀x,g.fs.kn x=0)(Q:w.heap[W]?=fh (.cells cs 71 (0,0)))
  (P:J.heap[W]?=fh (.cells (cs.setIfInBounds 5<|my Y 0 (fv ws+1) cc) 71 (0,0))/\J.ownsRow 0 32 1 (my Y 0 (fv ws+1) cc) (fv ws+1) ((ws.map λx=>ptr x.2.1.wb)++[ptr B.wb])/\
   ((fh Y:Option Nat)=(Value.slice R.wa (fv ws) R.wc).ownBlock\/w.heap.size<=Y)/\fH (λk=>k=W\/fh k=(Value.slice R.wa (fv ws) R.wc).ownBlock) w J):
  ∃q M,q.q=R.q/\q.bs (fv ws)=x/\fI (λt=>t=(0,1)\/t=(0,3)) T M w J/\gq b f q M J B0 W s r p I A O got (ws++[(fv ws+2,B,g,t)]) ds/\Below B0 w J:=by
 obtain⟨S,E,F,l⟩:=P;obtain⟨V,_⟩:=a.block;have u:=l.size;obtain⟨M,t1,v,t2⟩:=BN T u (λ_=>True) (0,3);have d:fI (λt=>t=(0,1)\/t=(0,3)) T M w J:=⟨l.os,l.tape,l.output,u,t1,λk y h=>l.block k y (by
  rintro(e|e);exact h<|.inl (by rw[e];exact a.fW);exact h<|.inr (a.yV.2 k e.symm)),λ_=>v⟩
 have z:fv (ws++[(fv ws+2,B,g,t)]:List Slot)=fv ws+1:=by simp
 have h:∀c,c≠1->c≠3->¬(((0,c):Nat×Nat)=(0,1)\/((0,c):Nat×Nat)=(0,3)):=λc X Z e=>by rcases e with e|e<;>(have:=congrArg Prod.snd e;simp only at this;omega)
 have C:∀i c,2<=i->¬(((i,c):Nat×Nat)=(0,1)\/((i,c):Nat×Nat)=(0,3)):=λi c U e=>by rcases e with e|e<;>(have:=congrArg Prod.fst e;simp only at this;omega)
 refine⟨{ R with wa:=fh<|ie Y 0,wc:=cc,bs:=pD R.bs (fv ws) x },M,fX,ld _ _ _,d,⟨v,a.Zo d,ww a.size u,a.brk,a.Mn.moves d (by grind),a.IG,⟨?_,a.Zp d<|h 2 (by decide) (by decide),a.aai d (by grind),a.w3.twin,a.w3.at_,qy v⟩,⟨?_,?_⟩,a.Kr d<|h 4 (by decide) (by decide),a.Qe d<|h 0 (by decide) (by decide),a.CQ d,a.apart,?_,?_,λj m=>a.TX d m<|h _ (by omega) (by omega),?_,λj m=>?_,λj m=>?_⟩,a.low l (by
   rintro k (e|e);exact .inl (by rw[e,a.fW];decide);exact .inl (by rw[a.yV.2 k e.symm];decide))⟩
 rw[z];refine a.w3.law.reset (λk G=>(t1 k (a.fresh.lt (by grind))).trans G) (λaa ab ac ad ae af=>?_) (λk y H=>l.block k (a.fresh.lt (by grind)) (by
  rintro(e|e);exact H e
  have:=a.yV.2 k e.symm;rw[y]at this;cases this))
 grind
 grind
 rw[z];intro x o;simp only[Value.ownBlock,pW]at o;subst o;rcases F with e|e
 exact(t1 Y<|a.fresh.lt (by rw[a.yV.2 Y e.symm];decide)).trans<|a.yV.2 Y e.symm;exact(t2 Y e<|gc E fX).1 trivial;intro x n;rcases qJ.1 n with n|n
 exact a.wsT d C x n;rw[om.1 n];exact o.moves d λc=>C _ c (by omega);intro j m;rw[Ro];split;exact a.slot j (by assumption)
 grind
 intro x;rw[nZ,List.sum_append,a.cnt x];simp[D x];rw[Ro];split
 rename_i K
 show uj A _<|pD R.bs (fv ws) x j;rw[kx<|by omega];exact a.BL j K
 grind [uj,pD,ld]
 show nv _ _ _<|pD R.bs (fv ws) x j;rw[kx<|by omega];exact a.GG d (h 5 (by decide)<|by decide) m fX
theorem gq.acW(a:gq b f R T w B0 W s r p I A O got ws ds)(m:gl (λk=>T k=(0,8+fv ds)) w S E data rest)(B:nv (λk=>T k=(0,5)) w rest (R.bs<|fv ds))(K:w.heap[W]?=fh (.cells cs 71 (0,0)))
  (P:J.heap[W]?=fh (.cells (cs.setIfInBounds 6<|my Y 0 (fv ds+1) cc) 71 (0,0))/\J.ownsRow 0 115 1 (my Y 0 (fv ds+1) cc) (fv ds+1) ((ds.map λx=>ptr x.1)++[ptr S])/\
   ((fh Y:Option Nat)=(Value.slice R.ta (fv ds) R.tc).ownBlock\/w.heap.size<=Y)/\fH (λk=>k=W\/fh k=(Value.slice R.ta (fv ds) R.tc).ownBlock) w J):
  ∃y M,y.q=R.q/\gq b f y M J B0 W s r p I A O got ws (ds++[(S,E,data,rest)])/\Below B0 w J:=by
 obtain⟨L,C,D,h⟩:=P;obtain⟨N,_⟩:=a.block;have n:=h.size;obtain⟨M,t1,o,t2⟩:=BN T n (λ_=>True) (0,4);have d:fI (λt=>t=(0,1)\/t=(0,4)) T M w J:=⟨h.os,h.tape,h.output,n,t1,λk q g=>h.block k q (by
  rintro(e|e);exact g<|.inl (by rw[e];exact a.fW);exact g<|.inr (a.jm.2 k e.symm)),λ_=>o⟩
 have z:fv (ds++[(S,E,data,rest)]:List Doc)=fv ds+1:=by simp
 have g:∀c,c≠1->c≠4->¬(((0,c):Nat×Nat)=(0,1)\/((0,c):Nat×Nat)=(0,4)):=λc Q V e=>by rcases e with e|e<;>(have:=congrArg Prod.snd e;simp only at this;omega)
 refine⟨{ R with ta:=fh<|ie Y 0,tc:=cc },M,fX,⟨o,a.Zo d,ww a.size n,a.brk,a.Mn.moves d (by grind),a.IG,⟨?_,a.Zp d<|g 2 (by decide) (by decide),a.aai d (by grind),a.w3.twin,a.w3.at_,qy o⟩,a.Kq d<|g 3 (by decide) (by decide),⟨?_,?_⟩,a.Qe d<|g 0 (by decide) (by decide),a.CQ d,a.apart,a.wsT d (λi c U e=>by rcases e with e|e<;>(have:=congrArg Prod.fst e;simp only at this;omega)),a.slot,λj u=>?_,a.cnt,a.BL,λj u=>?_⟩,a.low h (by
   rintro k (e|e);exact .inl (by rw[e,a.fW];decide);exact .inl (by rw[a.jm.2 k e.symm];decide))⟩
 rw[z];refine a.w3.law.reset (λk l=>(t1 k (a.fresh.lt (by grind))).trans l) (λX Z aa ab ac ad=>?_) (λk q F=>h.block k (a.fresh.lt (by grind)) (by
  rintro(e|e);exact F e
  have:=a.jm.2 k e.symm;rw[q]at this;cases this))
 grind
 grind
 rw[z];intro x m;simp only[Value.ownBlock,pW]at m;subst m;rcases D with e|e
 exact(t1 Y<|a.fresh.lt (by rw[a.jm.2 Y e.symm];decide)).trans<|a.jm.2 Y e.symm;exact(t2 Y e<|gc C fX).1 trivial;rw[Ro];split;exact a.TX d (by assumption)<|g _ (by omega) (by omega)
 rename_i G
 have v:j=fv ds:=by simp at u;omega
 subst v;simp only[EK,Hx];obtain⟨na,nc,da,dc,H⟩:=m;exact⟨na,nc,da,dc,H.keep (λk l=>(a.tag d l (tL _<|by decide) (g _ (by omega)<|by omega)).1) λk l=>(a.tag d l (tL _<|by decide) (g _ (by omega)<|by omega)).2⟩;rw[Ro];split;exact a.GG d (g 5 (by decide)<|by decide) (by assumption) fX
 rename_i G
 have v:j=fv ds:=by simp at u;omega
 subst v;simp only[EK,Hx];exact B.keep fX λk l=>a.tag d l (by decide)<|g 5 (by decide) (by decide)
theorem gq.tagged(a:gq b f R T w B0 W s r p I A O got ws ds)(c:ju w J)(hF:∀k,F k->w.heap.size<=k/\k<J.heap.size)(l:gl F J S E data rest)(n:nv (λk=>w.heap.size<=k/\¬F k) J rest x)(t:Nat×Nat):
  ∃M,fI (λ_=>False) T M w J/\gq b f R M J B0 W s r p I A O got ws ds/\gl (λk=>M k=t) J S E data rest/\nv (λk=>M k=(0,5)) J rest x:=by
 obtain⟨M,t1,o,t2⟩:=BN T c.size F t;have m:fI (λ_=>False) T M w J:=⟨c.os,c.tape,c.output,c.size,t1,λk d _=>c.block k d,λ_=>o⟩;refine⟨M,m,a.after m (λ_ a=>a) a.brk (a.w3.yl.1.below c λk d hF=>(t1 k d).trans hF) (a.Mn.moves m λa=>a) a.IG fX (a.wsT m λ_ _ _ a=>a) a.slot a.cnt,?_,?_⟩;obtain⟨na,nc,da,dc,q⟩:=l;exact⟨na,nc,da,dc,q.keep (λk d=>(t2 k (hF k d).1 (hF k d).2).1 d) λ_ _=>rfl⟩;obtain⟨ba,u,v,wc,h,j⟩:=n;refine⟨ba,u,v,wc,h,λg i=>(t2 g (j g i).1 ?_).2 (j g i).2⟩;rcases i with e|e
 exact gc h.TW e;exact gc h.yV e
end
